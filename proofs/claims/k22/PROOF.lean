import PyProof.Rows.All
import Wide.All
import OpenK.AllK
import Wide.FinOn
import Lean
import PyProof.EqAt
import PyProof.EqKinds
import PyProof.TupleCall
import PyProof.ZipIter
import PyProof.EnumMake
import PyProof.EnumFor
import PyProof.CollectIter
import PyProof.Rows.SeqMore
import PyProof.ConsumeWalk
import PyProof.Rows.SortShellK
import PyProof.DictItems
import PyProof.DictWalks
import PyProof.AttrMissHeap
import PyProof.DictIter
import PyProof.MaxThree
import PyProof.SeqI3
import PySem.Challenge.RW_fewtimes_k22_wound
set_option Elab.async false
set_option linter.all false
set_option compiler.extract_closed false
set_option genSizeOf false
set_option bootstrap.genMatcherCode false
set_option maxRecDepth 100000
set_option maxHeartbeats 4000000
open PySem.W (Frag)
namespace L2
open PySem PySem.Spec PyProof.Rows
section
noncomputable abbrev Key:=Sum Int Str
noncomputable def fY:Key->Value->Bool
 | .inl k,v=>Value.isInt k v
 | .inr x,v=>Value.isStrOf x v
noncomputable def C8 (w:World):Key->Int
 | .inl k=>hashInt k
 | .inr x=>hashStr w x
theorem aO:∀ {k:Key} {v:Value},fY k v=true->(∃ i t,k=Sum.inl i/\v=Value.int i t)∨(∃ x t,k=Sum.inr x/\v=Value.str x t)
 | .inl i,v,h=>by
  obtain ⟨t,e⟩:=Value.isInt_shape (k:=i) (v:=v) h
  exact .inl ⟨i,t,rfl,e⟩
 | .inr x,v,h=>by
  obtain ⟨t,e⟩:=Value.isStrOf_shape (x:=x) (v:=v) h
  exact .inr ⟨x,t,rfl,e⟩
theorem r0 (i:Int) (t:Tok):fY (.inl i) (.int i t)=true:=by simp [fY,Value.isInt]
theorem r6 (x:Str) (t:Tok):fY (.inr x) (.str x t)=true:=by simp [fY,Value.isStrOf]
theorem zE (a b:Int):decide ((Sum.inl a:Key)=Sum.inl b)=(a==b):=by
 by_cases e:a=b
 ·subst e;simp
 ·have h : ¬ (Sum.inl a:Key)=Sum.inl b:=fun q=>e (Sum.inl.inj q)
  rw [decide_eq_false h]
  exact (beq_eq_false_iff_ne.mpr e).symm
theorem zF (a b:Str):decide ((Sum.inr a:Key)=Sum.inr b)=decide (a=b):=by
 by_cases e:a=b
 ·subst e;simp
 ·have h : ¬ (Sum.inr a:Key)=Sum.inr b:=fun q=>e (Sum.inr.inj q)
  rw [decide_eq_false h,decide_eq_false e]
theorem zG (a:Int) (b:Str):decide ((Sum.inl a:Key)=Sum.inr b)=false:=decide_eq_false (fun q=>nomatch q)
theorem zH (a:Str) (b:Int):decide ((Sum.inr a:Key)=Sum.inl b)=false:=decide_eq_false (fun q=>nomatch q)
noncomputable def aE (prog:Program) (w:World):PySem.KeyKind prog w Key where
 is:=fY
 hash:=C8 w
 inj:=fun v a b ha hb=>by
  rcases aO ha with ⟨i,t,rfl,rfl⟩ | ⟨x,t,rfl,rfl⟩
  ·rcases aO hb with ⟨j,u,rfl,e⟩ | ⟨y,u,rfl,e⟩
   ·injection e with e1 _;rw [e1]
   ·exact nomatch e
  ·rcases aO hb with ⟨j,u,rfl,e⟩ | ⟨y,u,rfl,e⟩
   ·exact nomatch e
   ·injection e with e1 _;rw [e1]
 byValue:=fun k v h=>by
  rcases aO h with ⟨i,t,rfl,rfl⟩ | ⟨x,t,rfl,rfl⟩ <;> rfl
 pyHash:=fun hv h=>by
  rcases aO hv with ⟨i,t,rfl,rfl⟩ | ⟨x,t,rfl,rfl⟩
  ·exact wpAny_pyHash_int h
  ·exact wpAny_pyHash_str h
 eqBool:=fun hu hv h=>by
  rcases aO hu with ⟨i,t,rfl,rfl⟩ | ⟨x,t,rfl,rfl⟩
  ·rcases aO hv with ⟨j,u,rfl,rfl⟩ | ⟨y,u,rfl,rfl⟩
   ·rw [zE] at h;exact wpAny_eqBool_int h
   ·rw [zG] at h;exact SeqAt.EqAt.int_str i t y u _ _ _ _ h
  ·rcases aO hv with ⟨j,u,rfl,rfl⟩ | ⟨y,u,rfl,rfl⟩
   ·rw [zH] at h;exact SeqAt.EqAt.str_int x t j u _ _ _ _ h
   ·rw [zF] at h;exact wpAny_eqBool_str h
 «strs» := fun k x t v h=>by
  rcases aO h with ⟨i,u,rfl,e⟩ | ⟨y,u,rfl,e⟩
  ·exact nomatch e
  ·injection e with e1 _
   subst e1
   cases v <;> rfl
theorem nV (prog:Program) (w:World) (i:Int) (t:Tok):(aE prog w).is (.inl i) (.int i t)=true:=r0 i t
theorem nW (prog:Program) (w:World) (x:Str) (t:Tok):(aE prog w).is (.inr x) (.str x t)=true:=r6 x t
end
section
inductive V where
 | non | bl (b:Bool) | int (i:Int) | str (x:Str) | byt (b:Array UInt8) | flt (b:UInt64) | ref (a:Addr) | ty (n:String)
 deriving DecidableEq
noncomputable def RelV:V->Value->Prop
 | .non,u=>u=Value.none
 | .bl b,u=>u=Value.bool b
 | .int i,u => ∃ t,u=Value.int i t
 | .str x,u => ∃ t,u=Value.str x t
 | .byt b,u => ∃ t,u=Value.bytes b t
 | .flt b,u => ∃ t,u=Value.float b t
 | .ref a,u=>u=Value.ref a
 | .ty n,u=>u=Value.type n
noncomputable abbrev Vals:List V->List Value->Prop:=Paired RelV
theorem Vals.length {xs:List V} {us:List Value} (r:Vals xs us):xs.length=us.length:=Paired.length r
theorem Vals.get:∀ {xs:List V} {us:List Value} {i:Nat} {x:V},Vals xs us->xs[i]? = some x -> ∃ u,us[i]? = some u/\RelV x u
 | _,_,_,_, .nil,e=>by simp at e
 | _,_,0,_, .cons r _,e=>by simp at e;subst e;exact ⟨_,rfl,r⟩
 | _,_,i+1,x, .cons _ t,e=>by
   obtain ⟨u,h1,h2⟩:=Vals.get (i:=i) (x:=x) t (by simpa using e)
   exact ⟨u,by simpa using h1,h2⟩
theorem Vals.set {x:V} {u:Value} (r:RelV x u):∀ {xs:List V} {us:List Value} (i:Nat),Vals xs us->Vals (xs.set i x) (us.set i u)
 | _,_,_, .nil => .nil
 | _,_,0, .cons _ t => .cons r t
 | _,_,i+1, .cons q t => .cons q (Vals.set r i t)
theorem Vals.append:∀ {xs ys:List V} {us ws:List Value},Vals xs us->Vals ys ws->Vals (xs++ys) (us++ws)
 | _,_,_,_, .nil,s=>s
 | _,_,_,_, .cons r t,s => .cons r (Vals.append t s)
theorem Vals.take:∀ {xs:List V} {us:List Value} (n:Nat),Vals xs us->Vals (xs.take n) (us.take n)
 | _,_,0,_ => .nil
 | _,_,_+1, .nil => .nil
 | _,_,n+1, .cons r t => .cons r (Vals.take n t)
theorem Vals.drop:∀ {xs:List V} {us:List Value} (n:Nat),Vals xs us->Vals (xs.drop n) (us.drop n)
 | _,_,0,r=>r
 | _,_,_+1, .nil => .nil
 | _,_,n+1, .cons _ t=>Vals.drop n t
noncomputable def RelO:Option V->Option Value->Prop
 | some v,some u=>RelV v u
 | none,none=>True
 | _,_=>False
noncomputable def KV {κ:Type}:List (κ × V)->List (κ × Value)->Prop:=Paired fun (p : κ × V) (q : κ × Value)=>p.1=q.1/\RelV p.2 q.2
noncomputable def kV:Key->V
 | .inl i => .int i
 | .inr x => .str x
inductive HO where
 | lst (xs:List V)
 | tup (xs:List V)
 | dK (kvs:List (Key×V)) | dT (kvs:List (List Key×V))
 | set (S:Int->Bool) (n:Nat)
 | ins (C dx:Addr) (fs:List (Str×V))
 | own (x:Addr)
 | xd (fs:List (Str×V))
 | met (f x:Addr)
 | rng (lo hi:Int)
 | frz (o:Obj) (u:HO)
 | tbl (ps:Array Value)
 | ext (φ:Heap->Prop)
noncomputable abbrev Hp:=Addr->Option HO
noncomputable def upd (H:Hp) (a:Addr) (o:HO):Hp:=fun b=>if b=a then some o else H b
theorem ar {H:Hp} {a:Addr} {o:HO}:upd H a o a=some o:=by unfold upd;rw [if_pos rfl]
theorem ah {H:Hp} {a b:Addr} {o:HO} (h:b≠a):upd H a o b=H b:=by unfold upd;rw [if_neg h]
theorem xI {H:Hp} {a:Addr} {o u:HO}:upd (upd H a o) a u=upd H a u:=by
 funext b;unfold upd;split <;> rfl
theorem wK {H:Hp} {a b:Addr} {o u:HO} (h:H a=some o) (h':H b=some u) (d:o≠u):a≠b:=by
 intro e;subst e;rw [h] at h';exact d (Option.some.inj h')
theorem aT {H:Hp} {a b:Addr} {o:HO} (h:H a=some o) (h':H b=none):a≠b:=by
 intro e;subst e;rw [h] at h';cases h'
section
variable (P:Program) (w:World)
noncomputable def ObjOk (H:Hp) (h:Heap) (a:Addr):HO->Prop
 | .lst xs=>xs.length<=sizeLine /\ ∃ (its:List Value) (n:Nat),Vals xs its/\h.get? a=some { cls := .type "list",data := .seq its.toArray n }
 | .tup xs=>xs.length<=sizeLine /\ ∃ its:List Value,Vals xs its/\IsTup h a its.toArray
 | .dK kvs=>kvs.length<=sizeLine/\(a==sysModules)=false /\ ∃ vs,KV kvs vs/\h.DictOf (aE P w) a vs
 | .dT kvs=>kvs.length<=sizeLine/\(a==sysModules)=false /\ ∃ xs:List (List Key×Addr×Value),
  Paired (fun (p:List Key×V) (q:List Key×Addr×Value)=>p.1=q.1/\H q.2.1=some (.tup (p.1.map kV))/\RelV p.2 q.2.2) kvs xs /\
  ∃ o es ep,h.get? a=some o/\o.ExactDict/\o.data = .dict es ep/\es.toList=xs.map (entryOfKey (tupleKind (aE P w)))/\(xs.map (·.1)).Nodup
 | .set S n=>h.SetOf (intKind P w) a S n
 | .ins C dx fs=>H dx=some (.own a)/\fs.length<=1000/\dx≠a/\h.get? a=some (PySem.W.instObj C dx) /\
  ∃ mA,h.Ns1 dx mA/\(∀ f,RelO (fs.lookup f) (mA f))/\PySem.Within mA (fs.map (·.1))
 | .own _ => ∃ o,h.get? a=some o
 | .xd fs => ∃ mA,h.Ns1 a mA /\ ∀ f,RelO (fs.lookup f) (mA f)
 | .rng lo hi => ∃ t u v,h.get? a=some { cls := .type "range",data := .fields #[.int lo t, .int hi u, .int 1 v] }
 | .frz o u=>h.get? a=some o/\ObjOk H h a u
 | .tbl ps=>h.get? a=some { cls := .none,data := .fields ps }
 | .met f x=>h.get? a=some (PySem.W.methodObj (.ref f) (.ref x))
 | .ext φ => φ h/\(∃ o,h.get? a=some o) /\ ∀ h1 h2:Heap, φ h1->(∀ o,h1.get? a=some o->h2.get? a=some o) -> φ h2
noncomputable def HOk (H:Hp) (h:Heap):Prop := ∀ a o,H a=some o->ObjOk P w H h a o
end
section
variable {P:Program} {w:World} {H H':Hp} {h h':Heap} {a:Addr} {o:HO}
theorem ObjOk.lt (x:ObjOk P w H h a o):a < h.objs.size:=by
 cases o with
 | lst xs=>obtain ⟨_,_,_,_,e⟩:=x;exact Heap.lt_size e
 | tup xs=>obtain ⟨_,_,_,p⟩:=x;exact p.lt
 | dK kvs=>obtain ⟨_,_,_,_,o,_,_,e,_⟩:=x;exact Heap.lt_size e
 | dT kvs=>obtain ⟨_,_,_,_,o,_,_,e,_⟩:=x;exact Heap.lt_size e
 | set S n=>obtain ⟨o,_,_,_,e,_⟩:=x;exact Heap.lt_size e
 | ins C dx fs=>obtain ⟨_,_,_,e,_⟩:=x;exact Heap.lt_size e
 | own y=>obtain ⟨_,e⟩:=x;exact Heap.lt_size e
 | xd fs=>obtain ⟨_,⟨_,_,_,e,_⟩,_⟩:=x;exact Heap.lt_size e
 | rng lo hi=>obtain ⟨_,_,_,e⟩:=x;exact Heap.lt_size e
 | frz ob u=>obtain ⟨e,_⟩:=x;exact Heap.lt_size e
 | tbl ps=>exact Heap.lt_size (show h.get? a=some _ from x)
 | met f y=>exact Heap.lt_size (show h.get? a=some _ from x)
 | ext φ => obtain ⟨_,⟨_,e⟩,_⟩:=x;exact Heap.lt_size e
theorem Paired.mapP {α β:Type} {F G : α -> β -> Prop}:∀ {l₁:List α} {l₂:List β},Paired F l₁ l₂ -> (∀ a b,F a b->G a b)->Paired G l₁ l₂
 | _,_, .nil,_ => .nil
 | _,_, .cons r t,f => .cons (f _ _ r) (Paired.mapP t f)
theorem ObjOk.stay (x:ObjOk P w H h a o) (k:∀ b u,(b=a∨H b=some (.own a))->h.get? b=some u->h'.get? b=some u)
 (ho:∀ b,H b=some (.own a)->H' b=some (.own a)) (j:∀ b xs,H b=some (.tup xs)->H' b=some (.tup xs)):ObjOk P w H' h' a o:=by
 induction o with
 | lst xs=>obtain ⟨z,its,n,r,e⟩:=x;exact ⟨z,its,n,r,k _ _ (.inl rfl) e⟩
 | tup xs=>obtain ⟨z,its,r,ob,e,c⟩:=x;exact ⟨z,its,r,ob,k _ _ (.inl rfl) e,c⟩
 | dK kvs=>obtain ⟨z,y,vs,r,ob,es,ep,e,c⟩:=x;exact ⟨z,y,vs,r,ob,es,ep,k _ _ (.inl rfl) e,c⟩
 | dT kvs =>
   obtain ⟨z,y,xs,r,ob,es,ep,e,c⟩:=x
   exact ⟨z,y,xs,Paired.mapP r fun p q z=>⟨z.1,j _ _ z.2.1,z.2.2⟩,ob,es,ep,k _ _ (.inl rfl) e,c⟩
 | set S n=>obtain ⟨ob,es,ep,t,e,c⟩:=x;exact ⟨ob,es,ep,t,k _ _ (.inl rfl) e,c⟩
 | ins C dx fs =>
   obtain ⟨d,z,ne,e,mA,⟨od,es,ep,e2,c⟩,r⟩:=x
   exact ⟨ho _ d,z,ne,k _ _ (.inl rfl) e,mA,⟨od,es,ep,k _ _ (.inr d) e2,c⟩,r⟩
 | own y=>obtain ⟨ob,e⟩:=x;exact ⟨ob,k _ _ (.inl rfl) e⟩
 | xd fs=>obtain ⟨mA,⟨od,es,ep,e,c⟩,r⟩:=x;exact ⟨mA,⟨od,es,ep,k _ _ (.inl rfl) e,c⟩,r⟩
 | rng lo hi=>obtain ⟨t,u,v,e⟩:=x;exact ⟨t,u,v,k _ _ (.inl rfl) e⟩
 | frz ob u ih=>obtain ⟨e,q⟩:=x;exact ⟨k _ _ (.inl rfl) e,ih q⟩
 | tbl ps =>
   have e:h.get? a=some { cls := .none,data := .fields ps }:=x
   show h'.get? a=some { cls := .none,data := .fields ps }
   exact k a _ (.inl rfl) e
 | met f y =>
   have e:h.get? a=some (PySem.W.methodObj (.ref f) (.ref y)):=x
   show h'.get? a=some (PySem.W.methodObj (.ref f) (.ref y))
   exact k a _ (.inl rfl) e
 | ext φ => obtain ⟨p,⟨o,e⟩,st⟩:=x;exact ⟨st _ _ p fun o q=>k _ _ (.inl rfl) q,⟨o,k _ _ (.inl rfl) e⟩,st⟩
theorem HOk.lt (x:HOk P w H h) (e:H a=some o):a < h.objs.size:=(x a o e).lt
theorem HOk.fresh (x:HOk P w H h) (e:h.objs.size<=a):H a=none:=by
 cases q:H a with
 | none=>rfl
 | some u=>exact absurd (Nat.lt_of_lt_of_le (x.lt q) e) (Nat.lt_irrefl _)
theorem HOk.kept (x:HOk P w H h) (k:∀ b u,h.get? b=some u->h'.get? b=some u):HOk P w H h':=fun a o e =>
 (x a o e).stay (fun b u _ q=>k b u q) (fun _ q=>q) fun _ _ q=>q
theorem HOk.laid (x:HOk P w H h) (k:∀ b u,h.get? b=some u->h'.get? b=some u) (n:h.objs.size<=a) (new:ObjOk P w (upd H a o) h' a o):HOk P w (upd H a o) h':=fun b u e=>by
 have j:=x.fresh n
 by_cases hb:b=a
 ·subst hb;rw [ar] at e;cases e;exact new
 ·rw [ah hb] at e
  exact (x b u e).stay (fun c v _ q=>k c v q) (fun c q=>by rw [ah (aT q j)];exact q) fun c xs q=>by rw [ah (aT q j)];exact q
end
noncomputable def Rd (H:Hp) (a:Addr) (u:HO):Prop:=H a=some u ∨ ∃ o,H a=some (.frz o u)
theorem Rd.of {H:Hp} {a:Addr} {u:HO} (h:H a=some u):Rd H a u := .inl h
theorem Rd.ok {P:Program} {w:World} {H:Hp} {h:Heap} {a:Addr} {u:HO} (r:Rd H a u) (x:HOk P w H h):ObjOk P w H h a u:=by
 rcases r with r | ⟨o,r⟩
 ·exact x a u r
 ·obtain ⟨_,q⟩:=x a _ r
  exact q
noncomputable def Mut:Option HO->Prop
 | some (.lst _)=>True
 | some (.dK _)=>True
 | some (.dT _)=>True
 | some (.set _ _)=>True
 | some (.ins _ _ _)=>True
 | some (.ext _)=>True
 | _=>False
section
variable {P:Program} {w:World} {H:Hp} {h h':Heap} {x e:Addr} {o':HO}
theorem HOk.write (ok:HOk P w H h) (mu:Mut (H x)) (he:e=x∨H e=some (.own x)) (k:∀ b u,b≠e->h.get? b=some u->h'.get? b=some u) (B:∃ u,h'.get? e=some u)
 (new:ObjOk P w (upd H x o') h' x o'):HOk P w (upd H x o') h':=fun b u q=>by
 have nown:∀ c y,H c=some (.own y)->c≠x:=fun c y r z=>by subst z;rw [r] at mu;exact mu
 have ntup:∀ c xs,H c=some (.tup xs)->c≠x:=fun c xs r z=>by subst z;rw [r] at mu;exact mu
 by_cases hb:b=x
 ·subst hb;rw [ar] at q;cases q;exact new
 ·rw [ah hb] at q
  by_cases j:b=e
  ·have q':H b=some (.own x):=by
    rcases he with z | z
    ·exact absurd (j.trans z) hb
    ·rw [j];exact z
   rw [q] at q';cases q'
   obtain ⟨v,F⟩:=B
   exact ⟨v,by rw [j];exact F⟩
  ·refine (ok b u q).stay (fun c v n r=>k c v ?_ r) (fun c r=>by rw [ah (nown c b r)];exact r) fun c xs r=>by rw [ah (ntup c xs r)];exact r
   rcases n with rfl | n
   ·exact j
   ·rintro rfl
    rcases he with z | z
    ·exact nown c b n z
    ·rw [n] at z;cases z;exact hb rfl
end
structure Un (fs ex:List Addr) (H H':Hp) (h h':Heap):Prop where
 keep:∀ b o,h.get? b=some o->H b=none->b∉fs->b∉ex->h'.get? b=some o
 slot:∀ b o,h.get? b=some o->H b=none->b∈fs->b∉ex -> ∃ sl,h'.get? b=some { o with slots:=sl }
 free:∀ b o,h.get? b=some o->H b=none->b∉ex->H' b=none
 there:∀ b o,h.get? b=some o->b∉ex -> ∃ o',h'.get? b=some o'
 tups:∀ b xs,H b=some (.tup xs)->H' b=some (.tup xs)
 frzs:∀ b o u,H b=some (.frz o u)->H' b=some (.frz o u)
 tbls:∀ b ps,H b=some (.tbl ps) -> ∃ more,H' b=some (.tbl (ps++more))
section
variable {fs fs' ex ex':List Addr} {H H1 H2:Hp} {h h1 h2 h':Heap} {a x e:Addr} {o:HO}
theorem Un.any (u:Un fs ex H H1 h h1) {b:Addr} {ob:Obj} (q:h.get? b=some ob) (n:H b=none) (hx:b∉ex):∃ sl,h1.get? b=some { ob with slots:=sl }:=by
 by_cases j:b∈fs
 ·exact u.slot b ob q n j hx
 ·exact ⟨ob.slots,u.keep b ob q n j hx⟩
theorem Un.kept (k:∀ b u,h.get? b=some u->h'.get? b=some u):Un fs ex H H h h' :=
 ⟨fun b ob q _ _ _=>k b ob q,fun b ob q _ _ _=>⟨ob.slots,k b ob q⟩,fun _ _ _ n _=>n,fun b ob q _=>⟨ob,k b ob q⟩,fun _ _ q=>q,fun _ _ _ q=>q,fun _ ps q=>⟨#[],by rw [q];simp⟩⟩
theorem Un.refl:Un fs ex H H h h:=Un.kept fun _ _ q=>q
theorem Un.laid (k:∀ b u,h.get? b=some u->h'.get? b=some u) (z:h.objs.size<=a) (j:H a=none):Un fs ex H (upd H a o) h h' where
 keep:=fun b u q _ _ _=>k b u q
 slot:=fun b u q _ _ _=>⟨u.slots,k b u q⟩
 free:=fun b u q n _=>by rw [ah (Nat.ne_of_lt (Nat.lt_of_lt_of_le (Heap.lt_size q) z))];exact n
 there:=fun b u q _=>⟨u,k b u q⟩
 tups:=fun b xs q=>by rw [ah (aT q j)];exact q
 frzs:=fun b u xs q=>by rw [ah (aT q j)];exact q
 tbls:=fun b ps q=>⟨#[],by rw [ah (aT q j),q];simp⟩
theorem Un.write (mu:Mut (H x)) (he:e=x∨H e=some (.own x)) (k:∀ b u,b≠e->h.get? b=some u->h'.get? b=some u) (B:∃ u,h'.get? e=some u):Un fs ex H (upd H x o) h h':=by
 have hx:∀ b,H b=none->b≠x:=fun b n z=>by subst z;rw [n] at mu;exact mu
 have F:∀ b,H b=none->b≠e:=fun b n z=>by
  subst z
  rcases he with r | r
  ·exact hx b n r
  ·rw [n] at r;cases r
 have hm:∀ b u,H b=some u -> ¬ Mut (some u)->b≠x:=fun b u q nm z=>by subst z;rw [q] at mu;exact nm mu
 refine ⟨fun b u q n _ _=>k b u (F b n) q,fun b u q n _ _=>⟨u.slots,k b u (F b n) q⟩,fun b u q n _=>by rw [ah (hx b n)];exact n,fun b u q _ => ?_,
  fun b xs q=>by rw [ah (hm b _ q fun z=>z)];exact q,fun b u xs q=>by rw [ah (hm b _ q fun z=>z)];exact q,fun b ps q=>⟨#[],by rw [ah (hm b _ q fun z=>z),q];simp⟩⟩
 by_cases j:b=e
 ·subst j;exact B
 ·exact ⟨u,k b u j q⟩
end
noncomputable def trk (h:Heap) (H:Hp):List Addr:=(List.range h.objs.size).filter fun a=>(H a).isSome
noncomputable def eI (h:Heap) (H:Hp):Heap:=PySem.W.hideAll h (trk h H)
theorem r8 (h:Heap) (H:Hp):(eI h H).objs.size=h.objs.size:=PySem.W.hideAll_size _ _
theorem uo {h:Heap} {H:Hp} {b:Addr} {o:Obj} (e:h.get? b=some o) (n:H b=none):(eI h H).get? b=some o :=
 PySem.W.hideAll_get _ e fun hm=>by
  have q:(H b).isSome=true:=(List.mem_filter.mp hm).2
  rw [n] at q;simp at q
theorem xJ {h:Heap} {H:Hp} {b:Addr} {o:Obj} (e:(eI h H).get? b=some o):h.get? b=some o/\H b=none:=by
 have e':h.get? b=some o:=PySem.W.of_hideAll (trk h H) e
 refine ⟨e', ?_⟩
 cases q:H b with
 | none=>rfl
 | some x =>
   have hm:b∈trk h H:=List.mem_filter.mpr ⟨List.mem_range.mpr (Heap.lt_size e'),by simp [q]⟩
   have z:(eI h H).get? b=none:=PySem.W.hideAll_none (trk h H) hm
   rw [z] at e;cases e
noncomputable def xK (g h:Heap) (L:Addr):List (Addr×Obj):=(List.range h.objs.size).filterMap fun a=>if a=L∨(g.get? a).isSome=true then none else (h.get? a).map fun o=>(a,o)
noncomputable def rest (g h:Heap) (L d:Addr):List (Addr×Obj):=(xK g h L).filter fun p=>decide (p.1≠d)
end
section
structure Mod (K:Frag) (mg:Str->Option Value) (base:Heap):Prop where
 kin:K.In base
 glob:base.Ns mainGlobals mg
 blt:∃ mb,base.Ns builtinsNs mb /\ ∀ x:Str,x ≠ "__name__" -> mb x=bootBuiltins x
 nolimit:base.NoLimit
structure Cx where
 prog:Program
 w:World
 K:Frag
 mg:Str->Option Value
 base:Heap
 A:Around
 N:List Str
 s₀:Shared
 H₀:Hp
 env:Env
 outer:List Env
 stack:List Env
 ex:List Addr
 fn:Str->Bool
 calm:Bool
 pn:List (Addr×Obj)
 xe:Value->Shared->Prop
noncomputable def frs (l:List Env):List Addr:=l.filterMap (·.frame)
noncomputable abbrev Cx.fs (X:Cx):List Addr:=frs X.outer
noncomputable def Vis (sc:Scope) (x:Str):Prop:=sc.names.lookup x=some .local∨sc.names.lookup x=some .cell∨sc.names.lookup x=some .free
noncomputable def Loc (sc:Scope) (x:Str):Prop:=sc.names.lookup x=some .local∨sc.names.lookup x=some .cell
noncomputable def C9 (env:Env) (h:Heap) (m:Str->Option Value) (x:Str) (u:Value):Prop :=
 (env.kindOf x=some .local/\m x=some u)∨((env.kindOf x=some .cell∨env.kindOf x=some .free) /\ ∃ c,env.cells.lookup x=some c/\h.IsCell c (some u))
structure Cx.Ok (X:Cx):Prop where
 mod:Mod X.K X.mg X.base
 kind:X.env.scope.kind = .function
 glob:X.env.globals=mainGlobals
 blt:X.env.builtins=builtinsNs
 above:X.s₀.heap.objs.size<=X.env.locals
 inj:∀ x y c,X.env.cells.lookup x=some c->X.env.cells.lookup y=some c->x=y
 has:∀ x,(X.env.kindOf x=some .cell∨X.env.kindOf x=some .free) -> ∃ c,X.env.cells.lookup x=some c
 cab:∀ x c,X.fn x=true->X.env.cells.lookup x=some c->X.s₀.heap.objs.size<=c
 hd:X.calm=true->X.A.handled=none
 frames:X.A.frames=some X.stack
 stk:X.stack=X.outer∨(X.stack=X.env::X.outer/\X.env.frame=some X.env.locals)
 exf:∀ b∈X.ex,b≠X.env.locals /\ ∀ x c,X.env.cells.lookup x=some c->c≠b
 bs:∀ b o,X.base.get? b=some o->X.s₀.heap.get? b=some o/\X.H₀ b=none
 bsz:X.base.objs.size<=X.s₀.heap.objs.size
 noex:∀ b o,X.base.get? b=some o->b∉X.ex
 exfs:∀ b∈X.ex,b∉X.fs
 funs:X.s₀.heap.FunFrames X.base X.outer
 frf:∀ b∈X.fs,X.H₀ b=none
structure Inv (X:Cx) (pins:List (Addr×Obj)) (σ:List (Option V)) (H:Hp) (s:Shared):Prop where
 ok:X.Ok
 os:s.os=X.s₀.os
 bare:AllBare s.gens
 base:Un X.fs X.ex X.H₀ H X.s₀.heap s.heap
 loc:∃ m,s.heap.Ns X.env.locals m /\ ∀ (i:Nat) (x:Str) (v:V),X.N[i]? = some x -> σ[i]? = some (some v)->Vis X.env.scope x -> ∃ u,RelV v u/\C9 X.env s.heap m x u
 cell:∀ x c,X.env.cells.lookup x=some c -> ∃ v,s.heap.IsCell c v
 free:H X.env.locals=none
 freeC:∀ x c,X.env.cells.lookup x=some c->H c=none
 pin:∀ p∈X.pn++pins,s.heap.get? p.1=some p.2/\H p.1=none/\p.1≠X.env.locals/\p.1∉X.fs /\ ∀ v,p.2.data ≠ .cell v
 hok:HOk X.prog X.w H s.heap
 len : σ.length=X.N.length
section
variable {X:Cx} {pins:List (Addr×Obj)} {σ:List (Option V)} {H H':Hp} {s:Shared} {h':Heap}
theorem Cx.Ok.nofr (ok:X.Ok) {b:Addr} {o:Obj} (e:X.base.get? b=some o):b∉X.fs:=fun j=>by
 have:=(ok.funs.mem j).1
 rw [e] at this;cases this
theorem Inv.bs (I:Inv X pins σ H s):∀ b o,X.base.get? b=some o->s.heap.get? b=some o/\H b=none:=fun b o e =>
 ⟨I.base.keep b o (I.ok.bs b o e).1 (I.ok.bs b o e).2 (I.ok.nofr e) (I.ok.noex b o e),I.base.free b o (I.ok.bs b o e).1 (I.ok.bs b o e).2 (I.ok.noex b o e)⟩
theorem Inv.bk (I:Inv X pins σ H s):∀ b o,X.base.get? b=some o->s.heap.get? b=some o:=fun b o e=>(I.bs b o e).1
theorem Inv.mod (I:Inv X pins σ H s):Mod X.K X.mg X.base:=I.ok.mod
theorem Inv.kIn (I:Inv X pins σ H s):X.K.In s.heap:=I.ok.mod.kin.keeps I.bk
theorem Inv.lt (I:Inv X pins σ H s):X.env.locals < s.heap.objs.size:=let ⟨_,j,_⟩:=I.loc;j.lt
theorem Inv.sz (I:Inv X pins σ H s):X.s₀.heap.objs.size<=s.heap.objs.size:=Nat.le_trans I.ok.above (Nat.le_of_lt I.lt)
theorem Inv.nofs (I:Inv X pins σ H s) {a:Addr} (h:s.heap.objs.size<=a):a∉X.fs:=fun j=>by
 obtain ⟨_,o,ho,_⟩:=I.ok.funs.mem j
 exact absurd (Nat.lt_of_lt_of_le (Heap.lt_size ho) (Nat.le_trans I.sz h)) (Nat.lt_irrefl _)
theorem Inv.cne (I:Inv X pins σ H s):∀ x c,X.env.cells.lookup x=some c->c≠X.env.locals:=fun x c e z=>by
 obtain ⟨v,o,ho,hd⟩:=I.cell x c e
 obtain ⟨m,⟨o',es,ep,j,n,_⟩,_⟩:=I.loc
 rw [z,j] at ho;cases ho;rw [n] at hd;cases hd
theorem Inv.funs (I:Inv X pins σ H s):s.heap.FunFrames X.base X.outer:=by
 have all:∀ (l:List Env),(∀ b∈frs l,b∈X.fs)->X.s₀.heap.FunFrames X.base l->s.heap.FunFrames X.base l:=by
  intro l
  induction l with
  | nil=>intro _ _;trivial
  | cons env r ih =>
    intro hs q
    obtain ⟨B,⟨L,o,hf,F,ho,hd⟩,G⟩:=q
    have j:L∈X.fs:=hs L (by unfold frs;rw [List.filterMap_cons,hf];exact List.mem_cons_self)
    obtain ⟨sl,e⟩:=I.base.slot L o ho (I.ok.frf L j) j fun z=>I.ok.exfs L z j
    exact ⟨B,⟨L,_,hf,F,e,hd⟩,ih (fun b n=>hs b (by unfold frs;rw [List.filterMap_cons,hf];exact List.mem_cons_of_mem _ n)) G⟩
 exact all X.outer (fun _ n=>n) I.ok.funs
theorem Inv.stack (I:Inv X pins σ H s):s.heap.FunFrames X.base X.stack:=by
 rcases I.ok.stk with e | ⟨e,hf⟩
 ·rw [e];exact I.funs
 ·rw [e]
  obtain ⟨m,j,_⟩:=I.loc
  refine .cons (by rw [I.ok.kind];decide) hf j ?_ I.funs
  exact Heap.get?_none_of_le (Nat.le_trans I.ok.bsz I.ok.above)
theorem Inv.stkSub (I:Inv X pins σ H s):∀ b∈frs X.stack,b∈X.env.locals::X.fs:=fun b j=>by
 rcases I.ok.stk with e | ⟨e,hf⟩
 ·rw [e] at j;exact List.mem_cons_of_mem _ j
 ·rw [e] at j
  unfold frs at j
  rw [List.filterMap_cons,hf] at j
  exact j
theorem Inv.stkFree (I:Inv X pins σ H s):∀ b∈frs X.stack,H b=none:=fun b j=>by
 rcases List.mem_cons.mp (I.stkSub b j) with e | j
 ·rw [e];exact I.free
 ·obtain ⟨_,o,ho,_⟩:=I.ok.funs.mem j
  exact I.base.free b o ho (I.ok.frf b j) fun z=>I.ok.exfs b z j
theorem Inv.step {g':Array GenState} {t':Nat} {d':Drawn} {ch:List Addr} (I:Inv X pins σ H s)
 (j:∀ b∈ch,(b∈X.ex∨X.s₀.heap.objs.size<=b)/\b≠X.env.locals/\(∀ x c,X.env.cells.lookup x=some c->c≠b) /\ ∀ p∈X.pn++pins,p.1≠b)
 (keep:∀ b o,b≠X.env.locals->b∉X.fs->b∉ch->s.heap.get? b=some o->H b=none->h'.get? b=some o)
 (slot:∀ b o,b≠X.env.locals->b∈X.fs->b∉ch->s.heap.get? b=some o->H b=none -> ∃ sl,h'.get? b=some { o with slots:=sl }) (free:∀ b o,b∉ch->s.heap.get? b=some o->H b=none->H' b=none)
 (there:∀ b o,b∉ch->s.heap.get? b=some o -> ∃ o',h'.get? b=some o')
 (tups:∀ b xs,H b=some (.tup xs)->H' b=some (.tup xs)) (frzs:∀ b o u,H b=some (.frz o u)->H' b=some (.frz o u)) (tbls:∀ b ps,H b=some (.tbl ps) -> ∃ more,H' b=some (.tbl (ps++more)))
 (ns:∀ m,s.heap.Ns X.env.locals m->h'.Ns X.env.locals m) (hok:HOk X.prog X.w H' h') (J:AllBare g') :
 Inv X pins σ H' { s with heap:=h',gens:=g',drawn:=d',toks:=t' }:=by
 have neL:∀ b o,X.s₀.heap.get? b=some o->b≠X.env.locals:=fun b o e=>Nat.ne_of_lt (Nat.lt_of_lt_of_le (Heap.lt_size e) I.ok.above)
 have neC:∀ b o,X.s₀.heap.get? b=some o->b∉X.ex->b∉ch:=fun b o e hx B=>by
  rcases (j b B).1 with z | z
  ·exact hx z
  ·exact absurd (Nat.lt_of_lt_of_le (Heap.lt_size e) z) (Nat.lt_irrefl _)
 have cellK:∀ x c,X.env.cells.lookup x=some c -> ∀ v,s.heap.IsCell c v->h'.IsCell c v:=fun x c e v ⟨o,ho,hd⟩=>by
  have nch:c∉ch:=fun z=>(j c z).2.2.1 x c e rfl
  by_cases F:c∈X.fs
  ·obtain ⟨sl,q⟩:=slot c o (I.cne x c e) F nch ho (I.freeC x c e)
   exact ⟨_,q,hd⟩
  ·exact ⟨o,keep c o (I.cne x c e) F nch ho (I.freeC x c e),hd⟩
 refine ⟨I.ok,I.os,J,⟨fun b o e n B hx => ?_,fun b o e n B hx => ?_,fun b o e n hx => ?_,fun b o e hx => ?_,fun b xs e=>tups b xs (I.base.tups b xs e),fun b o xs e=>frzs b o xs (I.base.frzs b o xs e),fun b ps e => ?_⟩, ?_,fun x c e => ?_, ?_,fun x c e => ?_,fun p G => ?_,hok,I.len⟩
 ·exact keep b o (neL b o e) B (neC b o e hx) (I.base.keep b o e n B hx) (I.base.free b o e n hx)
 ·obtain ⟨sl,e1⟩:=I.base.slot b o e n B hx
  obtain ⟨sl',e2⟩:=slot b _ (neL b o e) B (neC b o e hx) e1 (I.base.free b o e n hx)
  exact ⟨sl',e2⟩
 ·obtain ⟨o',e1⟩:=I.base.there b o e hx
  exact free b o' (neC b o e hx) e1 (I.base.free b o e n hx)
 ·obtain ⟨o',e1⟩:=I.base.there b o e hx
  exact there b o' (neC b o e hx) e1
 ·obtain ⟨L,e1⟩:=I.base.tbls b ps e
  obtain ⟨O,e2⟩:=tbls b _ e1
  exact ⟨L++O,by rw [e2,Array.append_assoc]⟩
 ·obtain ⟨m,R,S⟩:=I.loc
  refine ⟨m,ns m R,fun i x v e1 e2 U => ?_⟩
  obtain ⟨u,r,l⟩:=S i x v e1 e2 U
  refine ⟨u,r, ?_⟩
  rcases l with l | ⟨k,c,e,z⟩
  ·exact .inl l
  ·exact .inr ⟨k,c,e,cellK x c e _ z⟩
 ·obtain ⟨v,z⟩:=I.cell x c e
  exact ⟨v,cellK x c e v z⟩
 ·obtain ⟨m,⟨o,_,_,ho,_⟩,_⟩:=I.loc
  exact free _ o (fun z=>(j _ z).2.1 rfl) ho I.free
 ·obtain ⟨v,o,ho,hd⟩:=I.cell x c e
  exact free c o (fun z=>(j c z).2.2.1 x c e rfl) ho (I.freeC x c e)
 ·obtain ⟨e,n,ne,nf,d⟩:=I.pin p G
  have nch:p.1∉ch:=fun z=>(j p.1 z).2.2.2 p G rfl
  exact ⟨keep p.1 p.2 ne nf nch e n,free p.1 p.2 nch e n,ne,nf,d⟩
theorem Inv.un {t':Nat} (I:Inv X pins σ H s) (u:Un X.fs [] H H' s.heap h') (hok:HOk X.prog X.w H' h'):Inv X pins σ H' { s with heap:=h',toks:=t' }:=by
 obtain ⟨m,⟨o,es,ep,ho,r⟩,_⟩:=id I.loc
 obtain ⟨sl,B⟩:=u.any ho I.free (by simp)
 exact I.step (g':=s.gens) (d':=s.drawn) (ch := []) (fun _ z=>nomatch z) (fun b o _ q _ e n=>u.keep b o e n q (by simp)) (fun b o _ q _ e n=>u.slot b o e n q (by simp)) (fun b o _ e n=>u.free b o e n (by simp)) (fun b o _ e=>u.there b o e (by simp)) u.tups u.frzs u.tbls (fun m' hm=>by
  obtain ⟨o',es',ep',j,r'⟩:=hm
  rw [ho] at j;cases j
  exact ⟨_,es',ep',B,r'⟩) hok I.bare
theorem Inv.call {g':Array GenState} {t':Nat} {d':Drawn} {ch:List Addr} (I:Inv X pins σ H s) (u:Un (frs X.stack) ch H H' s.heap h') (hok:HOk X.prog X.w H' h') (G:AllBare g')
 (q:∀ b∈ch,(b∈X.ex∨X.s₀.heap.objs.size<=b)/\b≠X.env.locals/\(∀ x c,X.env.cells.lookup x=some c->c≠b) /\ ∀ p∈X.pn++pins,p.1≠b) :
 Inv X pins σ H' { s with heap:=h',gens:=g',drawn:=d',toks:=t' }:=by
 obtain ⟨m,⟨o,es,ep,ho,r⟩,_⟩:=id I.loc
 obtain ⟨sl,F⟩:=u.any ho I.free fun z=>(q _ z).2.1 rfl
 exact I.step (ch:=ch) q (fun b o F J j e n=>u.keep b o e n (fun z=>(List.mem_cons.mp (I.stkSub b z)).elim F J) j) (fun b o _ _ j e n=>u.any e n j) (fun b o j e n=>u.free b o e n j) (fun b o j e=>u.there b o e j) u.tups u.frzs u.tbls (fun m' hm=>by
  obtain ⟨o',es',ep',B,r'⟩:=hm
  rw [ho] at B;cases B
  exact ⟨_,es',ep',F,r'⟩) hok G
theorem Inv.turned {t':Nat} {it:Addr} (I:Inv X pins σ H s) (k:∀ b o,b≠it->s.heap.get? b=some o->h'.get? b=some o) (F:H it=none) (B:it≠X.env.locals)
 (h1:it∈X.ex∨X.s₀.heap.objs.size<=it) (h2:∀ x c,X.env.cells.lookup x=some c->c≠it) (G:∀ p∈X.pn++pins,p.1≠it):Inv X pins σ H { s with heap:=h',toks:=t' }:=by
 have nit:∀ b u,H b=some u->b≠it:=fun b u e z=>by rw [z,F] at e;cases e
 refine I.step (g':=s.gens) (d':=s.drawn) (ch := [it]) (fun b J => ?_) (fun b o _ _ j e _=>k b o (fun z=>j (by simp [z])) e) (fun b o _ _ j e _=>⟨o.slots,k b o (fun z=>j (by simp [z])) e⟩) (fun _ _ _ _ n=>n)
  (fun b o j e=>⟨o,k b o (fun z=>j (by simp [z])) e⟩) (fun _ _ e=>e) (fun _ _ _ e=>e) (fun b ps e=>⟨#[],by rw [e];simp⟩) (fun m hm => ?_) (fun b u e => ?_) I.bare
 ·have e:b=it:=by simpa using J
  subst e
  exact ⟨h1,B,h2,G⟩
 ·obtain ⟨o,es,ep,ho,r⟩:=hm
  exact ⟨o,es,ep,k _ o (Ne.symm B) ho,r⟩
 ·refine (I.hok b u e).stay (fun c v j q=>k c v ?_ q) (fun _ q=>q) fun _ _ q=>q
  rcases j with z | z
  ·rw [z];exact nit b u e
  ·exact nit c _ z
theorem Inv.tok (I:Inv X pins σ H s) (t:Nat):Inv X pins σ H { s with toks:=t }:=I.un (h':=s.heap) (t':=t) Un.refl I.hok
theorem Inv.kept {t':Nat} (I:Inv X pins σ H s) (k:∀ b u,s.heap.get? b=some u->h'.get? b=some u):Inv X pins σ H { s with heap:=h',toks:=t' }:=I.un (Un.kept k) (I.hok.kept k)
theorem Inv.laid {a:Addr} {o:HO} {t':Nat} (I:Inv X pins σ H s) (k:∀ b u,s.heap.get? b=some u->h'.get? b=some u) (j:s.heap.objs.size<=a) (new:ObjOk X.prog X.w (upd H a o) h' a o) :
 Inv X pins σ (upd H a o) { s with heap:=h',toks:=t' }:=I.un (Un.laid k j (I.hok.fresh j)) (I.hok.laid k j new)
theorem Inv.write {x e:Addr} {o:HO} {t':Nat} (I:Inv X pins σ H s) (mu:Mut (H x)) (he:e=x∨H e=some (.own x)) (k:∀ b u,b≠e->s.heap.get? b=some u->h'.get? b=some u) (j:∃ u,h'.get? e=some u)
 (new:ObjOk X.prog X.w (upd H x o) h' x o):Inv X pins σ (upd H x o) { s with heap:=h',toks:=t' }:=I.un (Un.write mu he k j) (I.hok.write mu he k j new)
theorem Inv.pins_of {pins':List (Addr×Obj)} (I:Inv X pins σ H s) (h:∀ p∈pins',s.heap.get? p.1=some p.2/\H p.1=none/\p.1≠X.env.locals/\p.1∉X.fs /\ ∀ v,p.2.data ≠ .cell v):Inv X pins' σ H s :=
 ⟨I.ok,I.os,I.bare,I.base,I.loc,I.cell,I.free,I.freeC,fun p j=>(List.mem_append.mp j).elim (fun z=>I.pin p (List.mem_append_left _ z)) (h p),I.hok,I.len⟩
theorem kZ {N:List Str} (n:N.Nodup) {i j:Nat} {x:Str} (a:N[i]? = some x) (b:N[j]? = some x):i=j:=by
 obtain ⟨h1,e1⟩:=List.getElem?_eq_some_iff.mp a
 obtain ⟨h2,e2⟩:=List.getElem?_eq_some_iff.mp b
 exact (List.getElem_inj n).mp (e1.trans e2.symm)
theorem r9 {M:Model} {A:Around} {E:Value->Shared->Prop} {i:Nat} {x:Str} {v:V} {u:Value} {Q:Unit->Shared->Prop} (I:Inv X pins σ H s) (hN:X.N.Nodup) (hi:X.N[i]? = some x) (hx:Loc X.env.scope x) (r:RelV v u)
 (h:∀ s',Inv X pins (σ.set i (some v)) H s'->(∃ a,Heap.SameBut a s.heap s'.heap/\(a=X.env.locals∨X.env.cells.lookup x=some a))->Q () s') (hf:X.fn x=true∨X.env.scope.names.lookup x=some .local:=by first | exact .inl rfl | exact .inr rfl | assumption):wpAny M A (storeName X.env x u) Q E s:=by
 obtain ⟨m,hn,hl⟩:=id I.loc
 have R:(X.env.scope.kind == .class || (X.env.scope.kind == .module&&X.env.locals != X.env.globals))=false:=by rw [I.ok.kind];rfl
 have S:i < σ.length:=by rw [I.len];exact (List.getElem?_eq_some_iff.mp hi).1
 have cne:=I.cne
 have tracked:∀ {a:Addr} {h':Heap},(∃ o,s.heap.get? a=some o/\H a=none)->Heap.SameBut a s.heap h'->HOk X.prog X.w H h':=fun {a h'} ha hs b ob e=>by
  obtain ⟨_,_,F⟩:=ha
  refine (I.hok b ob e).stay (fun c w' B q=>(hs.2 c ?_).trans q) (fun _ q=>q) fun _ _ q=>q
  rintro rfl
  rcases B with rfl | B
  ·rw [F] at e;cases e
  ·rw [F] at B;cases B
 rcases hx with G | G
 ·refine wpAny_storeName_local G hn (fun h' CD hs => ?_) R
  obtain ⟨oL,_,_,CF,_⟩:=id hn
  refine h _ ⟨I.ok,I.os,I.bare,⟨fun b o e n J hx => ?_,fun b o e n J hx => ?_,I.base.free,fun b o e hx => ?_,I.base.tups,I.base.frzs,I.base.tbls⟩,⟨_,CD,fun j y v' e1 e2 e3 => ?_⟩,fun y c e => ?_,I.free,I.freeC,fun p hp => ?_,tracked ⟨oL,CF,I.free⟩ hs,by simpa using I.len⟩ ⟨_,hs, .inl rfl⟩
  ·exact (hs.2 b (Nat.ne_of_lt (Nat.lt_of_lt_of_le (Heap.lt_size e) I.ok.above))).trans (I.base.keep b o e n J hx)
  ·obtain ⟨sl,e1⟩:=I.base.slot b o e n J hx
   exact ⟨sl,(hs.2 b (Nat.ne_of_lt (Nat.lt_of_lt_of_le (Heap.lt_size e) I.ok.above))).trans e1⟩
  ·obtain ⟨o',e1⟩:=I.base.there b o e hx
   exact ⟨o',(hs.2 b (Nat.ne_of_lt (Nat.lt_of_lt_of_le (Heap.lt_size e) I.ok.above))).trans e1⟩
  ·by_cases L:j=i
   ·subst L
    rw [hi] at e1;cases e1
    rw [List.getElem?_set_self S] at e2
    cases e2
    exact ⟨u,r, .inl ⟨G,by simp⟩⟩
   ·rw [List.getElem?_set_ne (Ne.symm L)] at e2
    obtain ⟨u',r',q⟩:=hl j y v' e1 e2 e3
    refine ⟨u',r', ?_⟩
    rcases q with ⟨k,e⟩ | ⟨k,c,e,z⟩
    ·refine .inl ⟨k, ?_⟩
     have:y≠x:=fun e=>L (kZ hN e1 (e ▸ hi))
     simp [this,e]
    ·exact .inr ⟨k,c,e,z.sameBut hs (cne y c e)⟩
  ·obtain ⟨w',z⟩:=I.cell y c e
   exact ⟨w',z.sameBut hs (cne y c e)⟩
  ·obtain ⟨e,n,ne,nf,d⟩:=I.pin p hp
   exact ⟨(hs.2 p.1 ne).trans e,n,ne,nf,d⟩
 ·have O:X.fn x=true:=by
   rcases hf with z | z
   ·exact z
   ·rw [z] at G;cases G
  obtain ⟨c,B⟩:=I.ok.has x (.inl G)
  obtain ⟨w',z⟩:=I.cell x c B
  refine wpAny_storeName_cell I.ok.kind G B z (fun h' U hs => ?_)
  obtain ⟨oc,Y,Z⟩:=id z
  refine h { s with heap:=h' } ⟨I.ok,I.os,I.bare,⟨fun b o e n J hx => ?_,fun b o e n J hx => ?_,I.base.free,fun b o e hx => ?_,I.base.tups,I.base.frzs,I.base.tbls⟩,⟨m,hn.sameBut hs (Ne.symm (cne x c B)),fun j y v' e1 e2 e3 => ?_⟩,fun y c' e => ?_,I.free,I.freeC,fun p hp => ?_,tracked ⟨oc,Y,I.freeC x c B⟩ hs,by simpa using I.len⟩ ⟨c,hs, .inr B⟩
  ·exact (hs.2 b (Nat.ne_of_lt (Nat.lt_of_lt_of_le (Heap.lt_size e) (I.ok.cab x c O B)))).trans (I.base.keep b o e n J hx)
  ·obtain ⟨sl,e1⟩:=I.base.slot b o e n J hx
   exact ⟨sl,(hs.2 b (Nat.ne_of_lt (Nat.lt_of_lt_of_le (Heap.lt_size e) (I.ok.cab x c O B)))).trans e1⟩
  ·obtain ⟨o',e1⟩:=I.base.there b o e hx
   exact ⟨o',(hs.2 b (Nat.ne_of_lt (Nat.lt_of_lt_of_le (Heap.lt_size e) (I.ok.cab x c O B)))).trans e1⟩
  ·by_cases L:j=i
   ·subst L
    rw [hi] at e1;cases e1
    rw [List.getElem?_set_self S] at e2
    cases e2
    exact ⟨u,r, .inr ⟨.inl G,c,B,U⟩⟩
   ·rw [List.getElem?_set_ne (Ne.symm L)] at e2
    obtain ⟨u',r',q⟩:=hl j y v' e1 e2 e3
    refine ⟨u',r', ?_⟩
    rcases q with q | ⟨k,c',e,z'⟩
    ·exact .inl q
    ·refine .inr ⟨k,c',e,z'.sameBut hs ?_⟩
     rintro rfl
     exact L (kZ hN e1 (I.ok.inj _ _ _ e B ▸ hi))
  ·by_cases CC:c'=c
   ·subst CC;exact ⟨_,U⟩
   ·obtain ⟨w2,z2⟩:=I.cell y c' e
    exact ⟨w2,z2.sameBut hs CC⟩
  ·obtain ⟨e,n,ne,nf,d⟩:=I.pin p hp
   refine ⟨(hs.2 p.1 ?_).trans e,n,ne,nf,d⟩
   intro q
   rw [q,Y] at e
   have q':oc=p.2:=Option.some.inj e
   exact d w' (by rw [<- q'];exact Z)
theorem gO {M:Model} {A:Around} {E:Value->Shared->Prop} {i:Nat} {x:Str} {v:V} {u:Value} {Q:Unit->Shared->Prop} (I:Inv X pins σ H s) (j:X.N.Nodup) (hi:X.N[i]? = some x) (hx:Loc X.env.scope x) (r:RelV v u)
 (h:∀ s',Inv X pins (σ.set i (some v)) H s'->Q () s') (hf:X.fn x=true∨X.env.scope.names.lookup x=some .local:=by first | exact .inl rfl | exact .inr rfl | assumption):wpAny M A (storeName X.env x u) Q E s :=
 r9 I j hi hx r (fun s' I' _=>h s' I') hf
theorem Inv.call' {s':Shared} {ch:List Addr} (I:Inv X pins σ H s) (ho:s'.os=s.os) (u:Un (frs X.stack) ch H H' s.heap s'.heap) (hok:HOk X.prog X.w H' s'.heap) (n:AllBare s'.gens)
 (j:∀ b∈ch,(b∈X.ex∨X.s₀.heap.objs.size<=b)/\b≠X.env.locals/\(∀ x c,X.env.cells.lookup x=some c->c≠b) /\ ∀ p∈X.pn++pins,p.1≠b):Inv X pins σ H' s':=by
 obtain ⟨h',g',d',t',o'⟩:=s'
 have e:o'=s.os:=ho
 subst e
 exact I.call (g':=g') (t':=t') (d':=d') u hok n j
end
noncomputable abbrev XK:=Value->Option Addr->Hp->Prop
noncomputable abbrev St:=List (Option V)
noncomputable abbrev VK:=V->Hp->Prop
noncomputable abbrev TE:=St->Hp->VK->Prop
noncomputable abbrev TT:=St->Hp->(Bool->Hp->Prop)->Prop
noncomputable abbrev TA:=St->Hp->(List V->Hp->Prop)->Prop
structure bu where
 nx:St->Hp->Prop
 rt:VK
 bk:St->Hp->Prop:=fun _ _=>False
 ct:St->Hp->Prop:=fun _ _=>False
noncomputable abbrev TS:=bu->St->Hp->Prop
noncomputable def EP (X:Cx) (pins:List (Addr×Obj)) (σ:St) (Q:VK) (u:Value) (s':Shared):Prop := ∃ v H',Inv X pins σ H' s'/\RelV v u/\Q v H'
noncomputable def TP (X:Cx) (pins:List (Addr×Obj)) (σ:St) (Q:Bool->Hp->Prop) (b:Bool) (s':Shared):Prop := ∃ H',Inv X pins σ H' s'/\Q b H'
noncomputable def AP (X:Cx) (pins:List (Addr×Obj)) (σ:St) (Q:List V->Hp->Prop) (us:List Value) (s':Shared):Prop := ∃ vs H',Inv X pins σ H' s'/\Vals vs us/\Q vs H'
noncomputable def SP (X:Cx) (pins:List (Addr×Obj)) (D:bu) (f:Flow) (s':Shared):Prop :=
 match f with
 | .next => ∃ σ' H',Inv X pins σ' H' s'/\D.nx σ' H'
 | .brk => ∃ σ' H',Inv X pins σ' H' s'/\D.bk σ' H'
 | .cont => ∃ σ' H',Inv X pins σ' H' s'/\D.ct σ' H'
 | .ret u => ∃ v σ' H',Inv X pins σ' H' s'/\RelV v u/\D.rt v H'
noncomputable def PE (X:Cx) (e:Expr) (t:TE):Prop :=
 ∀ (pins:List (Addr×Obj)) (s:Shared) (σ:St) (H:Hp) (Q:VK),Inv X pins σ H s->t σ H Q->wpAny (model X.prog X.w) X.A (eval e X.env) (EP X pins σ Q) X.xe s
noncomputable def PT (X:Cx) (e:Expr) (t:TT):Prop :=
 ∀ (pins:List (Addr×Obj)) (s:Shared) (σ:St) (H:Hp) (Q:Bool->Hp->Prop),Inv X pins σ H s->t σ H Q->wpAny (model X.prog X.w) X.A (isTrue e X.env (eval e X.env)) (TP X pins σ Q) X.xe s
noncomputable def PW (X:Cx) (e:Expr) (t:TT):Prop :=
 ∀ (whole:Sem Value) (pins:List (Addr×Obj)) (s:Shared) (σ:St) (H:Hp) (Q:Bool->Hp->Prop),Inv X pins σ H s->t σ H Q->wpAny (model X.prog X.w) X.A (isTrue e X.env whole) (TP X pins σ Q) X.xe s
theorem PW.pt {X:Cx} {e:Expr} {t:TT} (h:PW X e t):PT X e t:=h _
noncomputable def PA (X:Cx) (es:List Expr) (t:TA):Prop :=
 ∀ (pos:Pos) (pins:List (Addr×Obj)) (s:Shared) (σ:St) (H:Hp) (Q:List V->Hp->Prop),Inv X pins σ H s->t σ H Q->wpAny (model X.prog X.w) X.A (spliced (backTo pos (starEach es X.env))) (AP X pins σ Q) X.xe s
noncomputable def PS (X:Cx) (st:Stmt) (t:TS):Prop :=
 ∀ (pins:List (Addr×Obj)) (s:Shared) (σ:St) (H:Hp) (D:bu),Inv X pins σ H s->t D σ H->wpAny (model X.prog X.w) X.A (exec st X.env) (SP X pins D) X.xe s
noncomputable def PSs (X:Cx) (st:List Stmt) (t:TS):Prop :=
 ∀ (pins:List (Addr×Obj)) (s:Shared) (σ:St) (H:Hp) (D:bu),Inv X pins σ H s->t D σ H->wpAny (model X.prog X.w) X.A (execs st X.env) (SP X pins D) X.xe s
theorem thn {α:Type} {t:Sem α} {Q Q' : α -> Shared->Prop} {M:Model} {A:Around} {E:Value->Shared->Prop} {s:Shared} (h:wpAny M A t Q E s) (j:∀ a s,Q a s->Q' a s):wpAny M A t Q' E s:=wpAny_mono h j fun _ _ x=>x
end
section
section
variable {X:Cx}
noncomputable def Ca (i:Nat):TE:=fun σ H Q => ∃ v, σ[i]? = some (some v)/\Q v H
noncomputable def tC (v:V):TE:=fun _ H Q=>Q v H
theorem zI {i:Nat} {x:Str} {pos:Pos} (B:X.N[i]? = some x) (F:Vis X.env.scope x) (hd:(x==("__debug__":Str))=false:=by decide) (q:(x==("__classdict__":Str))=false:=by decide):PE X (.Name x pos) (Ca i):=by
 intro pins s σ H Q I h
 obtain ⟨v,e,h⟩:=h
 obtain ⟨m,G,J⟩:=I.loc
 obtain ⟨u,r,l⟩:=J i x v B e F
 have fin:EP X pins σ Q u s:=⟨v,H,I,r,h⟩
 rcases l with ⟨n,hm⟩ | ⟨n,c,z,j⟩
 ·exact wpAny_Name (wpAny_loadName_local I.ok.kind n G hm fin) hd
 ·rcases n with n | n
  ·exact wpAny_Name (wpAny_loadName_cell I.ok.kind n z j fin) hd
  ·exact wpAny_Name (wpAny_loadName_free I.ok.kind n z j fin q) hd
theorem zJ {i j pos}:PE X (.Constant (.int i) j pos) (tC (.int i)):=fun _ _ _ H _ I h=>wpAny_Constant_int ⟨.int i,H,I.tok _,⟨_,rfl⟩,h⟩
theorem Bi {b j pos}:PE X (.Constant (.bool b) j pos) (tC (.bl b)):=fun _ _ _ H _ I h=>Constant_bool ⟨.bl b,H,I,rfl,h⟩
theorem zK {j pos}:PE X (.Constant .none j pos) (tC .non):=fun _ _ _ H _ I h=>Constant_none ⟨.non,H,I,rfl,h⟩
noncomputable def Gl (X:Cx) (x:Str):Prop:=X.env.kindOf x=some .globalImplicit
theorem oA {E:Value->Shared->Prop} {pins:List (Addr×Obj)} {s:Shared} {σ:St} {H:Hp} {x:Str} {u:Value} {pos:Pos} {Q:Value->Shared->Prop} (I:Inv X pins σ H s) (j:Gl X x) (hm:X.mg x=some u) (h:Q u s)
 (hd:(x==("__debug__":Str))=false:=by decide):wpAny (model X.prog X.w) X.A (eval (.Name x pos) X.env) Q E s :=
 Calls.Name_function_global I.ok.kind j (Calls.loadGlobal_global (by rw [I.ok.glob];exact I.mod.glob.keeps I.bk) hm h) hd
theorem du {E:Value->Shared->Prop} {pins:List (Addr×Obj)} {s:Shared} {σ:St} {H:Hp} {x:Str} {u:Value} {pos:Pos} {Q:Value->Shared->Prop} (I:Inv X pins σ H s) (j:Gl X x) (hm:X.mg x=none) (n:bootBuiltins x=some u) (h:Q u s)
 (q:x ≠ "__name__" := by decide) (hd:(x==("__debug__":Str))=false:=by decide):wpAny (model X.prog X.w) X.A (eval (.Name x pos) X.env) Q E s:=by
 obtain ⟨mb,h1,h2⟩:=I.mod.blt
 exact Calls.Name_function_global I.ok.kind j (Calls.loadGlobal_builtin (by rw [I.ok.glob];exact I.mod.glob.keeps I.bk) hm (by rw [I.ok.blt];exact h1.keeps I.bk) ((h2 x q).trans n) h) hd
theorem jf {x:Str} {v:V} {u:Value} {pos:Pos} (j:Gl X x) (hm:X.mg x=none) (n:bootBuiltins x=some u) (r:RelV v u) (q:x ≠ "__name__" := by decide) (hd:(x==("__debug__":Str))=false:=by decide):PE X (.Name x pos) (tC v) :=
 fun _ _ _ H _ I h=>du I j hm n ⟨v,H,I,r,h⟩ q hd
variable {a b:Expr} {ta tb:TE} {pos:Pos}
variable {tA tB':TT} {rest:List Expr}
noncomputable def Cb (t u:TT):TT:=fun σ H Q=>t σ H fun c H1=>if c=true then u σ H1 Q else Q false H1
noncomputable def tOr (t u:TT):TT:=fun σ H Q=>t σ H fun c H1=>if c=true then Q true H1 else u σ H1 Q
noncomputable def Cc (t:TT):TT:=fun σ H Q=>t σ H fun c H1=>Q (!c) H1
theorem xL (j:PT X a tA):PW X (.BoolOp .And [a] pos) tA:=by
 intro wh pins s σ H Q I h
 refine isTrue_and (thn (j pins s σ H Q I h) fun c s1 e => ?_)
 cases c with
 | true=>exact isTrue_and_nil e
 | false=>exact e
theorem zL (j:PT X a tA):PW X (.BoolOp .Or [a] pos) tA:=by
 intro wh pins s σ H Q I h
 refine isTrue_or (thn (j pins s σ H Q I h) fun c s1 e => ?_)
 cases c with
 | false=>exact isTrue_or_nil e
 | true=>exact e
theorem zM (q:PT X a tA) (z:PW X (.BoolOp .And (b::rest) pos) tB'):PW X (.BoolOp .And (a::b::rest) pos) (Cb tA tB'):=by
 intro wh pins s σ H Q I h
 refine isTrue_and (thn (q pins s σ H _ I h) fun c s1 ⟨H1,j,n⟩ => ?_)
 cases c with
 | true=>exact z wh pins s1 σ H1 Q j n
 | false=>exact ⟨H1,j,n⟩
theorem Bj (q:PT X a tA) (z:PW X (.BoolOp .Or (b::rest) pos) tB'):PW X (.BoolOp .Or (a::b::rest) pos) (tOr tA tB'):=by
 intro wh pins s σ H Q I h
 refine isTrue_or (thn (q pins s σ H _ I h) fun c s1 ⟨H1,j,n⟩ => ?_)
 cases c with
 | true=>exact ⟨H1,j,n⟩
 | false=>exact z wh pins s1 σ H1 Q j n
theorem zN (j:PT X a tA):PT X (.UnaryOp .Not a pos) (Cc tA):=by
 intro pins s σ H Q I h
 exact isTrue_not (j pins s σ H (fun c H1=>Q (!c) H1) I h)
noncomputable def Bk (ta tb:TE):TE:=fun σ H Q=>ta σ H fun x H1 => ∃ c,x = .bl c/\if c=true then tb σ H1 Q else Q (.bl false) H1
noncomputable def Cd (ta tb:TE):TE:=fun σ H Q=>ta σ H fun x H1 => ∃ c,x = .bl c/\if c=true then Q (.bl true) H1 else tb σ H1 Q
noncomputable def Bl (ta:TE):TE:=fun σ H Q=>ta σ H fun x H1 => ∃ c,x = .bl c/\Q (.bl (!c)) H1
theorem zO {op} {t:TE} (h:PE X a t):PE X (.BoolOp op [a] pos) t:=fun pins s σ H Q I hw=>BoolOp_one (h pins s σ H Q I hw)
theorem zP (q:PE X a ta) (z:PE X (.BoolOp .And (b::rest) pos) tb):PE X (.BoolOp .And (a::b::rest) pos) (Bk ta tb):=by
 intro pins s σ H Q I h
 refine BoolOp_and (thn (q pins s σ H _ I h) fun v s1 ⟨x,H1,n,B,j⟩ => ?_)
 obtain ⟨c,rfl,j⟩:=j
 cases B
 refine wpAny_truthy_bool ?_
 cases c with
 | true=>exact z pins s1 σ H1 Q n j
 | false=>exact ⟨.bl false,H1,n,rfl,j⟩
theorem Bm (q:PE X a ta) (z:PE X (.BoolOp .Or (b::rest) pos) tb):PE X (.BoolOp .Or (a::b::rest) pos) (Cd ta tb):=by
 intro pins s σ H Q I h
 refine BoolOp_or (thn (q pins s σ H _ I h) fun v s1 ⟨x,H1,n,B,j⟩ => ?_)
 obtain ⟨c,rfl,j⟩:=j
 cases B
 refine wpAny_truthy_bool ?_
 cases c with
 | false=>exact z pins s1 σ H1 Q n j
 | true=>exact ⟨.bl true,H1,n,rfl,j⟩
theorem zQ (n:PE X a ta):PE X (.UnaryOp .Not a pos) (Bl ta):=by
 intro pins s σ H Q I h
 refine UnaryOp_ (thn (n pins s σ H _ I h) fun v s1 ⟨x,H1,q,z,j⟩ => ?_)
 obtain ⟨c,rfl,j⟩:=j
 cases z
 exact not_of (wpAny_truthy_bool ⟨.bl (!c),H1,q,rfl,j⟩)
noncomputable def tIf (t:TT) (ta tb:TE):TE:=fun σ H Q=>t σ H fun c H1=>if c=true then ta σ H1 Q else tb σ H1 Q
theorem uq {c:Expr} (q:PT X c tA) (z:PE X a ta) (B:PE X b tb):PE X (.IfExp c a b pos) (tIf tA ta tb):=by
 intro pins s σ H Q I h
 refine wpAny_IfExp (thn (q pins s σ H _ I h) fun d s1 ⟨H1,j,n⟩ => ?_)
 cases d with
 | true=>exact z pins s1 σ H1 Q j n
 | false=>exact B pins s1 σ H1 Q j n
end
end
section
noncomputable def SqL (K:Frag) (H:Hp) (a:Addr) (xs:List V):Prop :=
 Rd H a (.lst xs) ∨
  ∃ (o:Obj) (its:Array Value) (n:Nat),K.lookup a=some o/\o.cls = .type "list" /\ o.dict=none/\o.data = .seq its n/\its.size<=sizeLine/\Vals xs its.toList
noncomputable def SqT (K:Frag) (H:Hp) (a:Addr) (xs:List V):Prop :=
 Rd H a (.tup xs) ∨
  ∃ (o:Obj) (its:Array Value) (n:Nat),K.lookup a=some o/\o.cls = .type "tuple" /\ o.data = .seq its n/\its.size<=sizeLine/\Vals xs its.toList
noncomputable def Ce:Value->Option V
 | .none=>some .non
 | .bool b=>some (.bl b)
 | .int i _=>some (.int i)
 | .str x _=>some (.str x)
 | .bytes b _=>some (.byt b)
 | .float b _=>some (.flt b)
 | .ref a=>some (.ref a)
 | .type n=>some (.ty n)
 | _=>none
theorem RelV.abs {x:V} {u:Value} (r:RelV x u):Ce u=some x:=by
 cases x with
 | non=>cases r;rfl
 | bl _=>cases r;rfl
 | int _=>obtain ⟨t,rfl⟩:=r;rfl
 | str _=>obtain ⟨t,rfl⟩:=r;rfl
 | byt _=>obtain ⟨t,rfl⟩:=r;rfl
 | flt _=>obtain ⟨t,rfl⟩:=r;rfl
 | ref _=>cases r;rfl
 | ty _=>cases r;rfl
theorem RelV.inj {x y:V} {u:Value} (r:RelV x u) (q:RelV y u):x=y:=Option.some.inj (r.abs.symm.trans q.abs)
theorem Vals.inj:∀ {xs ys:List V} {us:List Value},Vals xs us->Vals ys us->xs=ys
 | _,_,_, .nil, .nil=>rfl
 | _,_,_, .cons r t, .cons r' t'=>by rw [r.inj r',Vals.inj t t']
section
variable {X:Cx} {pins:List (Addr×Obj)} {σ:St} {H:Hp} {s:Shared} {a:Addr} {xs ys:List V}
theorem SqL.of {K:Frag} (h:H a=some (.lst xs)):SqL K H a xs := .inl (.inl h)
theorem SqT.of {K:Frag} (h:H a=some (.tup xs)):SqT K H a xs := .inl (.inl h)
theorem Inv.list (I:Inv X pins σ H s) (h:SqL X.K H a xs):∃ its:List Value,Vals xs its/\PlainL s.heap a its.toArray/\xs.length<=sizeLine:=by
 rcases h with h | ⟨o,its,n,j,q,hd,hs,B,r⟩
 ·obtain ⟨z,its,n,r,e⟩:=h.ok I.hok
  exact ⟨its,r,⟨_,n,e,rfl,rfl,rfl⟩,z⟩
 ·refine ⟨its.toList,r,⟨o,n,I.kIn a o j,q,hd,by simpa using hs⟩, ?_⟩
  have e:=r.length
  simp only [Array.length_toList] at e
  lia
theorem Inv.tuple (I:Inv X pins σ H s) (h:SqT X.K H a xs):∃ its:List Value,Vals xs its/\IsTup s.heap a its.toArray/\xs.length<=sizeLine:=by
 rcases h with h | ⟨o,its,n,j,q,hs,B,r⟩
 ·obtain ⟨z,its,r,p⟩:=h.ok I.hok
  exact ⟨its,r,p,z⟩
 ·refine ⟨its.toList,r,⟨o,I.kIn a o j,q,n,by simpa using hs⟩, ?_⟩
  have e:=r.length
  simp only [Array.length_toList] at e
  lia
theorem Inv.list_inj (I:Inv X pins σ H s) (h:SqL X.K H a xs) (h':SqL X.K H a ys):xs=ys:=by
 obtain ⟨its,r,⟨o,n,e,_,_,d⟩,_⟩:=I.list h
 obtain ⟨its',r',⟨o',n',e',_,_,d'⟩,_⟩:=I.list h'
 rw [e] at e';cases e'
 rw [d] at d'
 injection d' with d1 _
 have:its=its':=by simpa using congrArg Array.toList d1
 subst this
 exact r.inj r'
theorem Inv.tuple_inj (I:Inv X pins σ H s) (h:SqT X.K H a xs) (h':SqT X.K H a ys):xs=ys:=by
 obtain ⟨its,r,⟨o,e,_,n,d⟩,_⟩:=I.tuple h
 obtain ⟨its',r',⟨o',e',_,n',d'⟩,_⟩:=I.tuple h'
 rw [e] at e';cases e'
 rw [d] at d'
 injection d' with d1 _
 have:its=its':=by simpa using congrArg Array.toList d1
 subst this
 exact r.inj r'
end
noncomputable abbrev Cx.wish (X:Cx) (E:Value->Shared->Prop):Cx := { X with xe:=E }
noncomputable abbrev Cx.nox (X:Cx):Cx:=X.wish fun _ _=>False
theorem Cx.Ok.wish {X:Cx} (ok:X.Ok) (E:Value->Shared->Prop):(X.wish E).Ok :=
 ⟨ok.mod,ok.kind,ok.glob,ok.blt,ok.above,ok.inj,ok.has,ok.cab,ok.hd,ok.frames,ok.stk,ok.exf,ok.bs,ok.bsz,ok.noex,ok.exfs,ok.funs,ok.frf⟩
theorem Cx.Ok.unwish {X:Cx} {E:Value->Shared->Prop} (ok:(X.wish E).Ok):X.Ok :=
 ⟨ok.mod,ok.kind,ok.glob,ok.blt,ok.above,ok.inj,ok.has,ok.cab,ok.hd,ok.frames,ok.stk,ok.exf,ok.bs,ok.bsz,ok.noex,ok.exfs,ok.funs,ok.frf⟩
section
variable {X:Cx} {pins:List (Addr×Obj)} {σ:St} {H:Hp} {s:Shared} {E:Value->Shared->Prop}
theorem Inv.wish (I:Inv X pins σ H s) (E:Value->Shared->Prop):Inv (X.wish E) pins σ H s:=⟨I.ok.wish E,I.os,I.bare,I.base,I.loc,I.cell,I.free,I.freeC,I.pin,I.hok,I.len⟩
theorem Inv.unwish (I:Inv (X.wish E) pins σ H s):Inv X pins σ H s:=⟨I.ok.unwish,I.os,I.bare,I.base,I.loc,I.cell,I.free,I.freeC,I.pin,I.hok,I.len⟩
theorem SP.unwish {D:bu} {f:Flow} {s':Shared} (h:SP (X.wish E) pins D f s'):SP X pins D f s':=by
 cases f with
 | next=>obtain ⟨σ',H',I,q⟩:=h;exact ⟨σ',H',I.unwish,q⟩
 | brk=>obtain ⟨σ',H',I,q⟩:=h;exact ⟨σ',H',I.unwish,q⟩
 | cont=>obtain ⟨σ',H',I,q⟩:=h;exact ⟨σ',H',I.unwish,q⟩
 | ret u=>obtain ⟨v, σ',H',I,r,q⟩:=h;exact ⟨v, σ',H',I.unwish,r,q⟩
theorem PSs.nox {st:List Stmt} {t:TS} (h:PSs X.nox st t):PSs X st t:=fun pins s σ H D I hw =>
 wpAny_mono (h pins s σ H D (I.wish _) hw) (fun _ _ q=>q.unwish) fun _ _ z=>False.elim z
end
section
variable {X:Cx} {st:Stmt} {rest:List Stmt} {t u:TS} {e:Expr} {te:TE} {pos:Pos}
noncomputable def pT:TS:=fun D σ H=>D.nx σ H
noncomputable def zR (t u:TS):TS:=fun D σ H=>t { D with nx:=u D } σ H
theorem xM:PSs X [] pT:=fun _ _ σ H _ I h=>wpAny_execs_nil ⟨σ,H,I,h⟩
theorem ut (h1:PS X st t) (h2:PSs X rest u):PSs X (st::rest) (zR t u):=by
 intro pins s σ H D I h
 refine wpAny_execs_cons (thn (h1 pins s σ H { D with nx:=u D } I h) fun f s1 q => ?_)
 cases f with
 | next =>
   obtain ⟨σ',H',I',q⟩:=q
   exact h2 pins s1 σ' H' D I' q
 | ret v=>exact q
 | brk=>exact q
 | cont=>exact q
noncomputable def rf:TS:=fun D σ H=>D.bk σ H
noncomputable def wL:TS:=fun D σ H=>D.ct σ H
theorem xN:PS X (.Pass pos) pT:=fun _ _ σ H _ I h=>wpAny_Pass ⟨σ,H,I,h⟩
theorem uu:PS X (.Break pos) rf:=fun _ _ σ H _ I h=>wpAny_Break ⟨σ,H,I,h⟩
theorem nX:PS X (.Continue pos) wL:=fun _ _ σ H _ I h=>wpAny_Continue ⟨σ,H,I,h⟩
theorem Inv.quiet {pins:List (Addr×Obj)} {σ:St} {H:Hp} {s:Shared} (I:Inv X pins σ H s):interactive X.env=false:=by simp [interactive,I.ok.kind]
noncomputable def wM (te:TE):TS:=fun D σ H=>te σ H fun _ H1=>D.nx σ H1
theorem xO (he:PE X e te) (hs:swapsWith e none pos.line X.env=pure false:=by rfl):PS X (.Expr e pos) (wM te):=by
 intro pins s σ H D I h
 exact wpAny_Expr_any (thn (he pins s σ H _ I h) fun v s1 ⟨x,H1,j,q,n⟩=>⟨σ,H1,j,n⟩) I.quiet hs
noncomputable def zS (te:TE):TS:=fun D σ H=>te σ H D.rt
theorem zT (he:PE X e te):PS X (.Return (some e) pos) (zS te):=by
 intro pins s σ H D I h
 exact wpAny_Return_some (thn (he pins s σ H _ I h) fun v s1 ⟨x,H1,j,n,q⟩=>⟨x, σ,H1,j,n,q⟩)
noncomputable def zU (c:TT) (t u:TS):TS:=fun D σ H=>c σ H fun b H1=>if b=true then t D σ H1 else u D σ H1
theorem Bn {c:Expr} {a b:List Stmt} {tc:TT} (q:PT X c tc) (z:PSs X a t) (B:PSs X b u):PS X (.If c a b pos) (zU tc t u):=by
 intro pins s σ H D I h
 refine wpAny_If (thn (q pins s σ H _ I h) fun d s1 ⟨H1,j,n⟩ => ?_)
 cases d with
 | true=>exact z pins s1 σ H1 D j n
 | false=>exact B pins s1 σ H1 D j n
end
noncomputable abbrev TG:=V->St->Hp->(St->Hp->Prop)->Prop
noncomputable abbrev TGs:=List V->St->Hp->(St->Hp->Prop)->Prop
noncomputable def PG (X:Cx) (target:Expr) (t:TG):Prop :=
 ∀ (pins:List (Addr×Obj)) (s:Shared) (σ:St) (H:Hp) (v:V) (u:Value) (Q:St->Hp->Prop),Inv X pins σ H s->RelV v u->t v σ H Q ->
  wpAny (model X.prog X.w) X.A (assign target X.env u) (fun _ s' => ∃ σ' H',Inv X pins σ' H' s'/\Q σ' H') X.xe s
noncomputable def PGs (X:Cx) (ts:List Expr) (t:TGs):Prop :=
 ∀ (pins:List (Addr×Obj)) (s:Shared) (σ:St) (H:Hp) (vs:List V) (us:List Value) (Q:St->Hp->Prop),Inv X pins σ H s->Vals vs us->t vs σ H Q ->
  wpAny (model X.prog X.w) X.A (assignInOrder ((assignEach ts X.env).map (·.2)) us) (fun _ s' => ∃ σ' H',Inv X pins σ' H' s'/\Q σ' H') X.xe s
noncomputable abbrev jg:=V->V->V->Hp->(Hp->Prop)->Prop
noncomputable def PSet (X:Cx) (t:jg):Prop :=
 ∀ (pins:List (Addr×Obj)) (s:Shared) (σ:St) (H:Hp) (o i v:V) (ov iv u:Value) (Q:Hp->Prop),Inv X pins σ H s->RelV o ov->RelV i iv->RelV v u->t o i v H Q ->
  wpAny (model X.prog X.w) X.A (setItem ov iv u) (fun _ s' => ∃ H',Inv X pins σ H' s'/\Q H') X.xe s
noncomputable abbrev TIp:=V->V->Hp->VK->Prop
noncomputable def PIp (X:Cx) (op:Operator) (t:TIp):Prop :=
 ∀ (pins:List (Addr×Obj)) (s:Shared) (σ:St) (H:Hp) (x y:V) (v u:Value) (Q:VK),Inv X pins σ H s->RelV x v->RelV y u->t x y H Q ->
  wpAny (model X.prog X.w) X.A (inplaceOp op v u) (EP X pins σ Q) X.xe s
section
variable {X:Cx} {pos:Pos}
noncomputable def ig (i:Nat):TG:=fun v σ H Q=>Q (σ.set i (some v)) H
theorem oB {i:Nat} {x:Str} (j:X.N.Nodup) (hi:X.N[i]? = some x) (hx:Loc X.env.scope x) (hf:X.fn x=true∨X.env.scope.names.lookup x=some .local:=by first | exact .inl rfl | exact .inr rfl | assumption):PG X (.Name x pos) (ig i):=by
 intro pins s σ H v u Q I r h
 exact wpAny_assign_Name (gO I j hi hx r (fun s' I'=>⟨_,H,I',h⟩) hf)
noncomputable def Cf:TGs:=fun vs σ H Q=>vs=[]/\Q σ H
noncomputable def Bo (t:TG) (u:TGs):TGs:=fun vs σ H Q => ∃ v r,vs=v::r/\t v σ H fun σ' H'=>u r σ' H' Q
theorem xP:PGs X [] Cf:=by
 intro pins s σ H vs us Q I r h
 obtain ⟨e,h⟩:=h
 subst e
 cases r
 exact assignInOrder_nil ⟨σ,H,I,h⟩
theorem uw {e:Expr} {es:List Expr} {t:TG} {u:TGs} (h1:PG X e t) (h2:PGs X es u)
 (hs:(assignEach (e::es) X.env).map (·.2)=assign e X.env::(assignEach es X.env).map (·.2):=by rfl):PGs X (e::es) (Bo t u):=by
 intro pins s σ H vs us Q I r h
 obtain ⟨v,vr,e1,h⟩:=h
 subst e1
 cases r with
 | cons r rr =>
   rw [hs]
   refine assignInOrder_cons (thn (h1 pins s σ H _ _ _ I r h) fun _ s1 ⟨σ1,H1,j,n⟩ => ?_)
   exact h2 pins s1 σ1 H1 _ _ Q j rr n
noncomputable def Cg (K:Frag) (n:Nat) (t:TGs):TG:=fun v σ H Q => ∃ a xs,v = .ref a/\SqT K H a xs/\xs.length=n/\t xs σ H Q
theorem zV {es:List Expr} {k:Nat} {t:TGs} {n:Nat} (q:X.calm=true) (h:PGs X es t)
 (z:(assignEach es X.env).length=n:=by rfl) (j:(assignEach es X.env).findIdx? (·.1)=none:=by rfl):PG X (.Tuple es k pos) (Cg X.K n t):=by
 intro pins s σ H v u Q I r hw
 obtain ⟨a,xs,e1,B,F,hw⟩:=hw
 subst e1
 cases r
 obtain ⟨its,rv,G,L⟩:=I.tuple B
 refine assign_Tuple_tuple (I.ok.hd q) G (by simp [z, <- F,rv.length]) j fun h' hx => ?_
 have J:Inv X pins σ H { s with heap:=h' }:=I.kept (t':=s.toks) fun b o e=>hx b o (Nat.ne_of_lt (Heap.lt_size e)) e
 exact h pins _ σ H xs _ Q J (by simpa using rv) hw
noncomputable def Ch (to ti:TE) (t:jg):TG:=fun v σ H Q=>to σ H fun o H1=>ti σ H1 fun i H2=>t o i v H2 fun H3=>Q σ H3
theorem zW {o i:Expr} {to ti:TE} {t:jg} (ho:PE X o to) (hi:PE X i ti) (hs:PSet X t)
 (j:∀ v,assign (.Subscript o i pos) X.env v=(do
   let ov <- holding [v] (eval o X.env)
   let iv <- holding [v,ov] (eval i X.env)
   standAt pos
   holding [v,ov,iv] (setItem ov iv v)
   release [v,ov,iv] []):=by intro _;rfl):PG X (.Subscript o i pos) (Ch to ti t):=by
 intro pins s σ H v u Q I r h
 rw [j]
 refine wpAny_bind (wpAny_holding (thn (ho pins s σ H _ I h) fun ov s1 ⟨x,H1,n,q,z⟩ => ?_))
 refine wpAny_bind (wpAny_holding (thn (hi pins s1 σ H1 _ n z) fun iv s2 ⟨y,H2,B,F,G⟩ => ?_))
 refine wpAny_bind (wpAny_standAt (wpAny_bind (wpAny_holding (thn (hs pins s2 σ H2 x y v ov iv u _ B q F r G) fun _ s3 ⟨J,L,O⟩ => ?_))))
 exact wpAny_release ⟨σ,J,L,O⟩
noncomputable def pU (te:TE) (g:TG):TS:=fun D σ H=>te σ H fun x H1=>g x σ H1 D.nx
theorem rg {tg e:Expr} {te:TE} {g:TG} (he:PE X e te) (j:PG X tg g) (hs:swapsWithSole [tg] e pos.line X.env=pure false:=by rfl) (hw:swappedStores [tg] e X.env=pure none:=by rfl)
 (h1:(assignEach [tg] X.env).map (·.2)=[assign tg X.env]:=by rfl):PS X (.Assign [tg] e pos) (pU te g):=by
 intro pins s σ H D I h
 refine wpAny_Assign_stores (thn (he pins s σ H _ I h) fun v s1 ⟨x,H1,n,z,B⟩ => ?_) hs hw
 rw [h1]
 exact thn (j pins s1 σ H1 x v _ n z B) fun _ s2 q=>q
noncomputable def zX (i j:Nat) (ta:TA):TS:=fun D σ H=>ta σ H fun vs H1 => ∃ v w,vs=[v,w]/\D.nx ((σ.set i (some v)).set j (some w)) H1
theorem zY {i j:Nat} {x y:Str} {a b:Expr} {ta:TA} {px py pt:Pos} {kt F n} (U:X.calm=true) (O:X.N.Nodup) (hi:X.N[i]? = some x) (Y:X.N[j]? = some y) (G:i≠j)
 (hx:X.env.scope.names.lookup x=some .local) (R:X.env.scope.names.lookup y=some .local) (Z:PA X [a,b] ta)
 (hw:swappedStores [.Tuple [.Name x px, .Name y py] kt pt] (.Tuple [a,b] F n) X.env=pure (some [x,y]))
 (hs:swapsWithSole [.Tuple [.Name x px, .Name y py] kt pt] (.Tuple [a,b] F n) pos.line X.env=pure false:=by rfl) :
 PS X (.Assign [.Tuple [.Name x px, .Name y py] kt pt] (.Tuple [a,b] F n) pos) (zX i j ta):=by
 intro pins s σ H D I h
 rw [exec_Assign_arm]
 refine wpAny_bind (wpAny_standAt ?_)
 rw [hs]
 refine wpAny_bind (wpAny_pure ?_)
 rw [if_neg (by decide)]
 refine wpAny_bind (Tuple_ (thn (Z _ pins s σ H _ I h) fun us s1 ⟨vs,H1,I1,r1,J⟩ => ?_))
 obtain ⟨v,w,e1,J⟩:=J
 subst e1
 obtain ⟨z,B,rfl,rv,rw'⟩:∃ z B,us=[z,B]/\RelV v z/\RelV w B:=by
  cases r1 with
  | cons p q =>
    cases q with
    | cons p' q' =>
      cases q'
      exact ⟨_,_,rfl,p,p'⟩
 refine wpAny_newObj_type ?_ (by show 2<=sizeLine;decide)
 have I2:Inv X pins σ H1 { s1 with heap:=s1.heap.push { cls := .type "tuple",data := .seq [z,B].toArray } }:=I1.kept (t':=s1.toks) fun b o e=>Heap.get?_push_of_some _ e
 rw [hw]
 refine wpAny_bind (wpAny_pure ?_)
 show wpAny (model X.prog X.w) X.A (do rule "assign.swapped-stores";let items <- unpackItems (.ref s1.heap.objs.size) 2 none;assignInOrder [fun v=>bindName X.env y v,fun v=>bindName X.env x v] items.reverse;pure Flow.next) _ _ _
 refine wpAny_bind (wpAny_rule (wpAny_bind (unpackItems_tuple (items := #[z,B]) (I.ok.hd U) (IsTup.new s1.heap _) fun h' L => ?_)))
 have I3:=I2.kept (h':=h') (t':=s1.toks) fun b o e=>L b o (Nat.ne_of_lt (Heap.lt_size e)) e
 show wpAny _ _ (assignInOrder [fun v=>bindName X.env y v,fun v=>bindName X.env x v] [B,z] >>= fun _=>pure Flow.next) _ _ _
 refine wpAny_bind (assignInOrder_cons (wpAny_bindName (gO I3 O Y (.inl R) rw' (fun s2 I4 => ?_) (.inr R))))
 refine assignInOrder_cons (wpAny_bindName (gO I4 O hi (.inl hx) rv (fun s3 S=>assignInOrder_nil (wpAny_pure ?_)) (.inr hx)))
 rw [List.set_comm _ _ (Ne.symm G)] at S
 exact ⟨_,H1,S,J⟩
noncomputable def Bp (to ti te:TE) (tget:V->V->Hp->VK->Prop) (tip:TIp) (tset:jg):TS:=fun D σ H=>to σ H fun o H1=>ti σ H1 fun i H2=>tget o i H2 fun x H3=>te σ H3 fun y H4=>tip x y H4 fun z H5=>tset o i z H5 fun H6=>D.nx σ H6
noncomputable def zZ (X:Cx) (t:V->V->Hp->VK->Prop):Prop :=
 ∀ (pins:List (Addr×Obj)) (s:Shared) (σ:St) (H:Hp) (o i:V) (ov iv:Value) (Q:VK),Inv X pins σ H s->RelV o ov->RelV i iv->t o i H Q ->
  wpAny (model X.prog X.w) X.A (getItem ov iv) (EP X pins σ Q) X.xe s
theorem xQ {o i e:Expr} {to ti te:TE} {tget:V->V->Hp->VK->Prop} {tip:TIp} {tset:jg} {op:Operator} {tpos:Pos} (ho:PE X o to) (hi:PE X i ti) (B:zZ X tget) (he:PE X e te) (F:PIp X op tip) (hs:PSet X tset)
 (G:∀ ov iv new,augStore i ov iv new=(do holding [new,ov,iv] (setItem ov iv new);release [new,ov,iv] [];pure .next):=by intros;rfl):PS X (.AugAssign (.Subscript o i tpos) op e pos) (Bp to ti te tget tip tset):=by
 intro pins s σ H D I h
 refine wpAny_AugAssign_SubscriptAny (thn (ho pins s σ H _ I h) fun ov s1 ⟨j,H1,J,n,L⟩ => ?_) G
 refine thn (hi pins s1 σ H1 _ J L) fun iv s2 ⟨q,H2,O,z,R⟩ => ?_
 refine thn (B pins s2 σ H2 j q ov iv _ O n z R) fun old s3 ⟨S,U,Y,Z,q3⟩ => ?_
 refine thn (he pins s3 σ U _ Y q3) fun v s4 ⟨x4,H4,I4,r4,q4⟩ => ?_
 refine thn (F pins s4 σ H4 S x4 old v _ I4 Z r4 q4) fun new s5 ⟨x5,H5,I5,r5,q5⟩ => ?_
 exact thn (hs pins s5 σ H5 j q x5 ov iv new _ I5 n z r5 q5) fun _ s6 ⟨H6,I6,q6⟩=>⟨σ,H6,I6,q6⟩
end
section
variable {X:Cx} {pos:Pos}
noncomputable def rh (c:TT) (tb:TS):TS:=fun D σ H => ∃ W:Nat->St->Hp->Prop,(∃ m,W m σ H) /\ ∀ m σ H,W m σ H ->
 c σ H fun b H1=>if b=true then ∃ N:St->Hp->Prop,(∀ σ' H',N σ' H' -> ∃ m',m' < m/\W m' σ' H')/\tb { D with nx:=N,ct:=N,bk:=D.nx } σ H1 else D.nx σ H1
theorem uz {c:Expr} {body:List Stmt} {tc:TT} {tb:TS} (J:PassesOwn (model X.prog X.w) X.A X.env X.xe) (R:PT X c tc) (S:PSs X body tb):PS X (.While c body [] pos) (rh tc tb):=by
 intro pins s σ H D I h
 obtain ⟨W,⟨m0,U⟩,turn⟩:=h
 refine wpAny_While (codeAny_whileLoop (fun n s' => ∃ σ' H',Inv X pins σ' H' s'/\W n σ' H') ?_ m0 ⟨σ,H,I,U⟩)
 rintro n s1 ⟨σ1,H1,Y,Z⟩
 refine wpAny_passesOwn J (thn (R pins s1 σ1 H1 _ Y (turn n σ1 H1 Z)) fun b s2 ⟨H2,L,q⟩ => ?_)
 cases b with
 | true =>
   obtain ⟨N,O,q⟩:=q
   rw [if_pos rfl]
   refine wpAny_passesOwn J (thn (S pins s2 σ1 H2 _ L q) fun f s3 z => ?_)
   cases f with
   | next =>
     obtain ⟨σ3,j,B,F⟩:=z
     obtain ⟨m',hm,G⟩:=O σ3 j F
     exact ⟨m',hm, σ3,j,B,G⟩
   | cont =>
     obtain ⟨σ3,j,B,F⟩:=z
     obtain ⟨m',hm,G⟩:=O σ3 j F
     exact ⟨m',hm, σ3,j,B,G⟩
   | brk=>exact z
   | ret v=>exact z
 | false =>
   rw [if_neg Bool.false_ne_true]
   exact wpAny_execs_nil ⟨σ1,H2,L,q⟩
end
structure It where
 go:Nat->Hp->Prop
 yld:Nat->Hp->V->Hp->Prop
 stop:Nat->Hp->Prop
noncomputable def bS (X:Cx) (pins:List (Addr×Obj)) (H:Hp) (b:Addr):Prop :=
 H b=none/\b≠X.env.locals/\b∉X.fs/\(b∈X.ex∨X.s₀.heap.objs.size<=b)/\(∀ x c,X.env.cells.lookup x=some c->c≠b) /\ ∀ p∈X.pn++pins,p.1≠b
theorem Inv.fpOk {X:Cx} {pins:List (Addr×Obj)} {σ:St} {H H':Hp} {s:Shared} {b:Addr} (I:Inv X pins σ H s) (j:s.heap.objs.size<=b) (n:H' b=none):bS X pins H' b:=by
 refine ⟨n,Nat.ne_of_gt (Nat.lt_of_lt_of_le I.lt j),I.nofs j, .inr (Nat.le_trans I.sz j),fun x c e z => ?_,fun p B z => ?_⟩
 ·obtain ⟨v,q⟩:=I.cell x c e
  exact absurd (Nat.lt_of_lt_of_le q.lt (by rw [z];exact j)) (Nat.lt_irrefl _)
 ·exact absurd (Nat.lt_of_lt_of_le (Heap.lt_size (I.pin p B).1) (by rw [z];exact j)) (Nat.lt_irrefl _)
structure fu (P:Program) (w:World) (K:Frag) (tg:Expr) (J:It) (fp:List Addr) (it:Addr) (tn:Nat->Heap->Prop):Prop where
 mem:it∈fp
 obj:∀ i h,tn i h -> ∀ b∈fp, ∃ o,h.get? b=some o /\ ∀ v,o.data ≠ .cell v
 keep:∀ i h h',tn i h->(∀ b∈fp, ∀ o,h.get? b=some o->h'.get? b=some o)->tn i h'
 item:∀ (X:Cx),X.prog=P->X.w=w->X.K=K->X.calm=true -> ∀ (i:Nat) (pins:List (Addr×Obj)) (s:Shared) (σ:St) (H:Hp) (E:Value->Shared->Prop),Inv X pins σ H s->(∀ b∈fp,bS X pins H b)->tn i s.heap->J.go i H ->
  wpAny (model P w) X.A (pyNext (.ref it)) (fun r s1 => ∃ u,r=some u /\
   wpAny (model P w) X.A (letOwnedTupleGo tg (.ref it) u) (fun _ s2 => ∃ x H',Inv X pins σ H' s2/\RelV x u/\J.yld i H x H'/\tn (i+1) s2.heap /\ ∀ b∈fp,H' b=none) E s1) E s
 done:∀ (X:Cx),X.prog=P->X.w=w->X.K=K->X.calm=true -> ∀ (i:Nat) (pins:List (Addr×Obj)) (s:Shared) (σ:St) (H:Hp) (E:Value->Shared->Prop),Inv X pins σ H s->(∀ b∈fp,bS X pins H b)->tn i s.heap->J.stop i H ->
  wpAny (model P w) X.A (pyNext (.ref it)) (fun r s1=>r=none/\Inv X pins σ H s1) E s
 self:∀ (A:Around) (i:Nat) (s:Shared) (Q:Value->Shared->Prop) (E:Value->Shared->Prop),tn i s.heap->Q (.ref it) s->wpAny (model P w) A (pyIter (.ref it)) Q E s
noncomputable abbrev TI:=St->Hp->(It->Hp->Prop)->Prop
noncomputable def PIE (X:Cx) (pins:List (Addr×Obj)) (σ:St) (tg:Expr) (R:It->Hp->Prop) (itv:Value) (s2:Shared):Prop :=
 ∃ (it:Addr) (fp:List Addr) (tn:Nat->Heap->Prop) (J:It) (H':Hp),itv = .ref it/\Inv X pins σ H' s2/\fu X.prog X.w X.K tg J fp it tn/\tn 0 s2.heap/\(∀ b∈fp,bS X pins H' b)/\R J H'
noncomputable def PI (X:Cx) (tg iter:Expr) (wi:TI):Prop :=
 ∀ (pins:List (Addr×Obj)) (s:Shared) (σ:St) (H:Hp) (R:It->Hp->Prop),Inv X pins σ H s->wi σ H R ->
  wpAny (model X.prog X.w) X.A (eval iter X.env) (fun v s1=>wpAny (model X.prog X.w) X.A (pyIter v) (PIE X pins σ tg R) X.xe s1) X.xe s
theorem kK {M:Model} {A:Around} {E:Value->Shared->Prop} {s:Shared} {tg:Expr} {it:Addr} {u:Value} {o:Obj} {n:String} {vs:Array Value} {Q:Unit->Shared->Prop} (ho:s.heap.get? it=some o) (q:o.cls = .type n) (hd:o.data = .fields vs)
 (z : ["enumerate", "zip", "dict_itemiterator", "dict_reverseitemiterator", "odict_iterator", "itertools.zip_longest", "itertools.pairwise"].contains n=false) (j:Q () s):wpAny M A (letOwnedTupleGo tg (.ref it) u) Q E s:=by
 unfold letOwnedTupleGo
 cases tg <;> first
  | exact wpAny_pure j
  | (cases u <;> first
      | exact wpAny_pure j
      | (refine wpAny_bind (wpAny_load ho ?_)
         rw [q,hd]
         show wpAny M A (if (["enumerate", "zip", "dict_itemiterator", "dict_reverseitemiterator", "odict_iterator", "itertools.zip_longest", "itertools.pairwise"].contains n&&vs[0]? == some (rawInt _))=true then _ else _) Q E s
         rw [if_neg (by intro h;rw [z,Bool.false_and] at h;cases h)]
         exact wpAny_pure j))
noncomputable def Itl (K:Frag) (a:Addr):It :=
 ⟨fun i H => ∃ xs x,SqL K H a xs/\xs[i]? = some x,fun i H x H'=>H'=H /\ ∀ xs,SqL K H a xs->xs[i]? = some x,fun i H => ∃ xs,SqL K H a xs/\xs.length<=i⟩
noncomputable def Itt (K:Frag) (a:Addr):It :=
 ⟨fun i H => ∃ xs x,SqT K H a xs/\xs[i]? = some x,fun i H x H'=>H'=H /\ ∀ xs,SqT K H a xs->xs[i]? = some x,fun i H => ∃ xs,SqT K H a xs/\xs.length<=i⟩
noncomputable def Itr (lo:Int) (n:Nat):It:=⟨fun i _=>i < n,fun i H x H'=>H'=H/\x = .int (lo+i),fun i _=>n<=i⟩
theorem rj {P:Program} {w:World} {K:Frag} {tg:Expr} (a it:Addr):fu P w K tg (Itl K a) [it] it (fun i h=>h.IsListIter it a i) where
 mem:=by simp
 obj:=fun i h st b j=>by
  have e:b=it:=by simpa using j
  subst e
  obtain ⟨o,e,c,d⟩:=st
  exact ⟨o,e,fun v z=>by rw [d] at z;cases z⟩
 keep:=fun i h h' st k=>st.at fun o e=>k it (by simp) o e
 item:=by
  intro X q hw B J i pins s σ H E I hf st hg
  subst q hw B
  obtain ⟨xs,x,n,hx⟩:=hg
  obtain ⟨its,rv,p,L⟩:=I.list n
  obtain ⟨u,O,ru⟩:=rv.get hx
  obtain ⟨f0,f1,f2,F,f4,G⟩:=hf it (by simp)
  refine wpAny_pyNext_list_item st p.isList (x:=u) (by simpa using O) fun h' st' sb => ?_
  have R:Inv X pins σ H { s with heap:=h' }:=I.turned (t':=s.toks) (fun b o j e=>(sb.2 b j).trans e) f0 f1 F f4 G
  obtain ⟨o,e,c,d⟩:=id st'
  exact ⟨u,rfl,kK (s := { s with heap:=h' }) e c d (by decide) ⟨x,H,R,ru,⟨rfl,fun ys S=>by rw [I.list_inj S n];exact hx⟩,st',fun b j=>(hf b j).1⟩⟩
 done:=by
  intro X q hw B J i pins s σ H E I hf st hg
  subst q hw B
  obtain ⟨xs,n,hx⟩:=hg
  obtain ⟨its,rv,p,L⟩:=I.list n
  obtain ⟨f0,f1,f2,F,f4,G⟩:=hf it (by simp)
  have U:=rv.length
  exact wpAny_pyNext_list_end (I.ok.hd J) st p.isList (by simp;lia) fun h' eb=>⟨rfl,I.turned (t':=s.toks) (fun b o j e=>eb b o j e) f0 f1 F f4 G⟩
 self:=fun _ _ _ _ _ st h=>wpAny_pyIter_listiter st h
theorem pV {P:Program} {w:World} {K:Frag} {tg:Expr} (a it:Addr):fu P w K tg (Itt K a) [it] it (fun i h=>h.IsTupleIter it a i) where
 mem:=by simp
 obj:=fun i h st b j=>by
  have e:b=it:=by simpa using j
  subst e
  obtain ⟨o,e,c,d⟩:=st
  exact ⟨o,e,fun v z=>by rw [d] at z;cases z⟩
 keep:=fun i h h' st k=>st.at fun o e=>k it (by simp) o e
 item:=by
  intro X q hw B J i pins s σ H E I hf st hg
  subst q hw B
  obtain ⟨xs,x,n,hx⟩:=hg
  obtain ⟨its,rv,p,L⟩:=I.tuple n
  obtain ⟨u,O,ru⟩:=rv.get hx
  obtain ⟨f0,f1,f2,F,f4,G⟩:=hf it (by simp)
  refine wpAny_pyNext_tuple_item st (show s.heap.IsTuple a its.toArray from p) (x:=u) (by simpa using O) fun h' st' sb => ?_
  have R:Inv X pins σ H { s with heap:=h' }:=I.turned (t':=s.toks) (fun b o j e=>(sb.2 b j).trans e) f0 f1 F f4 G
  obtain ⟨o,e,c,d⟩:=id st'
  exact ⟨u,rfl,kK (s := { s with heap:=h' }) e c d (by decide) ⟨x,H,R,ru,⟨rfl,fun ys S=>by rw [I.tuple_inj S n];exact hx⟩,st',fun b j=>(hf b j).1⟩⟩
 done:=by
  intro X q hw B J i pins s σ H E I hf st hg
  subst q hw B
  obtain ⟨xs,n,hx⟩:=hg
  obtain ⟨its,rv,p,L⟩:=I.tuple n
  obtain ⟨f0,f1,f2,F,f4,G⟩:=hf it (by simp)
  have U:=rv.length
  exact wpAny_pyNext_tuple_end (I.ok.hd J) st (show s.heap.IsTuple a its.toArray from p) (by simp;lia) fun h' eb=>⟨rfl,I.turned (t':=s.toks) (fun b o j e=>eb b o j e) f0 f1 F f4 G⟩
 self:=fun _ _ _ _ _ st h=>wpAny_pyIter_tupleiter st h
theorem pW {P:Program} {w:World} {K:Frag} {tg:Expr} (it:Addr) (lo:Int) (n:Nat):fu P w K tg (Itr lo n) [it] it (fun i h=>IsRangeIter h it (lo+(i:Nat)*1) ((n:Int) - (i:Nat)) 1) where
 mem:=by simp
 obj:=fun i h st b j=>by
  have e:b=it:=by simpa using j
  subst e
  exact ⟨_,st,fun v z=>by
   have z':Data.fields _=Data.cell v:=z
   cases z'⟩
 keep:=fun i h h' st k=>k it (by simp) _ st
 item:=by
  intro X q hw B F i pins s σ H E I hf st hg
  subst q hw B
  obtain ⟨f0,f1,f2,G,f4,J⟩:=hf it (by simp)
  have W:=Walks.range (prog:=X.prog) (w:=X.w) (I.ok.hd F) it lo 1 n
  refine W.item i s _ _ hg st fun v h' tk L st' kk => ?_
  obtain ⟨t,rfl⟩:=L
  have O:Inv X pins σ H { s with heap:=h',toks:=tk }:=I.turned (fun b o j e=>kk b o (by simpa using j) e) f0 f1 G f4 J
  refine ⟨_,rfl,kK (s := { s with heap:=h',toks:=tk }) (n := "range_iterator") st' rfl rfl (by decide) ⟨.int (lo+i),H,O,⟨t, ?_⟩,⟨rfl,rfl⟩,st',fun b j=>(hf b j).1⟩⟩
  rw [Int.mul_one]
 done:=by
  intro X q hw B F i pins s σ H E I hf st hg
  subst q hw B
  obtain ⟨f0,f1,f2,G,f4,J⟩:=hf it (by simp)
  exact wpAny_pyNext_range_end (I.ok.hd F) st (by have:n<=i:=hg;lia) fun h' eb=>⟨rfl,I.turned (t':=s.toks) (fun b o j e=>eb b o j e) f0 f1 G f4 J⟩
 self:=fun _ _ _ _ _ st h=>wpAny_pyIter_rangeiter st h
end
section
section
variable {X:Cx} {tg:Expr}
theorem lc {pins:List (Addr×Obj)} {σ:St} {H:Hp} {s:Shared} {R:It->Hp->Prop} {E:Value->Shared->Prop} {lo hi:Int} {t u v:Tok} {tk:Nat} (I:Inv X pins σ H s) (h1 : -(2 ^ 62)<=lo) (h2:lo < 2 ^ 62) (n : -(2 ^ 62)<=hi) (z:hi < 2 ^ 62)
 (q:R (Itr lo (hi - lo).toNat) H):wpAny (model X.prog X.w) X.A (pyIter (.ref s.heap.objs.size)) (PIE X pins σ tg R) E { s with heap:=s.heap.push { cls := .type "range",data := .fields #[.int lo t, .int hi u, .int 1 v] },toks:=tk }:=by
 refine wpAny_pyIter_range (IsRange.new ..) (small_one h1 h2 n z) ?_
 have j:Inv X pins σ H { s with heap:=s.heap.push { cls := .type "range",data := .fields #[.int lo t, .int hi u, .int 1 v] },toks:=tk }:=I.kept fun b o e=>Heap.get?_push_of_some _ e
 refine ⟨(s.heap.push { cls := .type "range",data := .fields #[.int lo t, .int hi u, .int 1 v] }).objs.size,[(s.heap.push { cls := .type "range",data := .fields #[.int lo t, .int hi u, .int 1 v] }).objs.size],_,_,H,rfl,
  j.kept (t':=tk) fun b o e=>Heap.get?_push_of_some _ e,pW _ lo (hi - lo).toNat, ?_,fun b B => ?_,q⟩
 ·have e1:lo+((0:Nat):Int)*1=lo:=by simp
  have e2:(((hi - lo).toNat:Nat):Int) - ((0:Nat):Int)=Builtin.Range.rangeSize lo hi 1:=by rw [rangeSize_one];split <;> lia
  show IsRangeIter _ _ (lo+((0:Nat):Int)*1) ((((hi - lo).toNat:Nat):Int) - ((0:Nat):Int)) 1
  rw [e1,e2]
  exact Heap.get?_push_size _ rfl
 ·have e:b=(s.heap.push { cls := .type "range",data := .fields #[.int lo t, .int hi u, .int 1 v] }).objs.size:=by simpa using B
  subst e
  exact j.fpOk (Nat.le_refl _) (j.hok.fresh (Nat.le_refl _))
noncomputable def Bq (ta:TA):TI:=fun σ H R=>ta σ H fun vs H1 => ∃ j:Int,vs=[.int j] /\ -(2 ^ 62)<=j/\j < 2 ^ 62/\R (Itr 0 j.toNat) H1
noncomputable def Br (ta:TA):TI:=fun σ H R=>ta σ H fun vs H1 => ∃ i j:Int,vs=[.int i, .int j]/\(-(2 ^ 62)<=i/\i < 2 ^ 62 /\ -(2 ^ 62)<=j/\j < 2 ^ 62)/\R (Itr i (j - i).toNat) H1
theorem rl {a:Expr} {ta:TA} {p pos:Pos} (z:Gl X "range") (hm:X.mg "range" = none) (B:PA X [a] ta) (hs:starEach [a] X.env=[(false,eval a X.env)]:=by rfl):PI X tg (.Call (.Name "range" p) [a] [] pos) (Bq ta):=by
 intro pins s σ H R I h
 refine Call_ (du I z hm boot_range (PyProof.Rows.callWith_type1 (thn (B pos pins s σ H _ I h) fun us s1 ⟨vs,H1,F,G,n⟩ => ?_) hs rfl))
 obtain ⟨j,e,n,J,q⟩:=n
 subst e
 cases G with
 | cons r rr =>
   cases rr
   obtain ⟨t,rfl⟩:=r
   exact call_range_1 (lc F (by lia) (by lia) n J (by simpa using q))
theorem rn {a b:Expr} {ta:TA} {p pos:Pos} (B:Gl X "range") (hm:X.mg "range" = none) (F:PA X [a,b] ta) (hs:starEach [a,b] X.env=[(false,eval a X.env),(false,eval b X.env)]:=by rfl) (n:starEach [b] X.env=[(false,eval b X.env)]:=by rfl) :
 PI X tg (.Call (.Name "range" p) [a,b] [] pos) (Br ta):=by
 intro pins s σ H R I h
 refine Call_ (du I B hm boot_range (PyProof.Rows.callWith_type1 (thn (F pos pins s σ H _ I h) fun us s1 ⟨vs,H1,G,J,z⟩ => ?_) (by rw [hs,n]) (by rw [n];rfl)))
 obtain ⟨i,j,e,⟨z,L,O,S⟩,q⟩:=z
 subst e
 cases J with
 | cons r rr =>
   cases rr with
   | cons r' rr =>
     cases rr
     obtain ⟨t,rfl⟩:=r
     obtain ⟨t',rfl⟩:=r'
     exact call_range_2 (lc G z L O S q)
noncomputable def A0 (wi:TI) (g:TG) (tb:TS):TS:=fun D σ H=>wi σ H fun J H1 => ∃ W:Nat->Nat->St->Hp->Prop,(∃ m,W 0 m σ H1) /\ ∀ i m σ H,W i m σ H ->
 (J.stop i H/\D.nx σ H)∨(J.go i H /\ ∃ N:St->Hp->Prop,(∀ σ' H',N σ' H' -> ∃ m',m' < m/\W (i+1) m' σ' H') /\ ∀ x H',J.yld i H x H'->g x σ H' fun σ2 H2=>tb { D with nx:=N,ct:=N,bk:=D.nx } σ2 H2)
noncomputable def ii (fp:List Addr) (h:Heap):List (Addr×Obj):=fp.filterMap fun b=>(h.get? b).map fun o=>(b,o)
theorem cR {fp:List Addr} {h:Heap} {b:Addr} {o:Obj} (j:b∈fp) (e:h.get? b=some o):(b,o)∈ii fp h:=List.mem_filterMap.mpr ⟨b,j,by rw [e];rfl⟩
theorem rp {fp:List Addr} {h:Heap} {p:Addr×Obj} (j:p∈ii fp h):p.1∈fp/\h.get? p.1=some p.2:=by
 obtain ⟨b,n,e⟩:=List.mem_filterMap.mp j
 cases q:h.get? b with
 | none=>rw [q] at e;cases e
 | some o =>
   rw [q] at e
   have e':(b,o)=p:=Option.some.inj e
   subst e'
   exact ⟨n,q⟩
theorem Inv.pinned {pins:List (Addr×Obj)} {σ:St} {H:Hp} {s:Shared} {fp:List Addr} (I:Inv X pins σ H s) (hf:∀ b∈fp,bS X pins H b) (ho:∀ b∈fp, ∃ o,s.heap.get? b=some o /\ ∀ v,o.data ≠ .cell v):Inv X (pins++ii fp s.heap) σ H s :=
 I.pins_of fun p n=>(List.mem_append.mp n).elim (fun z=>I.pin p (List.mem_append_right _ z)) fun z=>by
  obtain ⟨j,e⟩:=rp z
  obtain ⟨f0,f1,f2,_⟩:=hf p.1 j
  obtain ⟨o,e',d⟩:=ho p.1 j
  rw [e] at e';cases e'
  exact ⟨e,f0,f1,f2,d⟩
theorem Inv.unpinned {pins pl:List (Addr×Obj)} {σ:St} {H:Hp} {s:Shared} (I:Inv X (pins++pl) σ H s):Inv X pins σ H s:=I.pins_of fun p j=>I.pin p (List.mem_append_right _ (List.mem_append_left _ j))
theorem A1 {iter:Expr} {body:List Stmt} {wi:TI} {g:TG} {tb:TS} {pos:Pos} (G:PassesOwn (model X.prog X.w) X.A X.env X.xe) (hc:X.calm=true) (hi:PI X tg iter wi) (hg:PG X tg g) (j:PSs X body tb)
 (hs:∀ x,foldedSetIterable iter X.env x=pure x:=by intro _;rfl):PS X (.For tg iter body [] pos) (A0 wi g tb):=by
 intro pins s σ H D I h
 refine wpAny_For (thn (hi pins s σ H _ I h) fun v s1 h1=>thn h1 fun itv s2 h2 => ?_) hs
 obtain ⟨it,fp,tn,J,H2,e,I2,T,U,f2,W,⟨m0,w0⟩,turn⟩:=h2
 subst e
 have stat:∀ {H':Hp},(∀ b∈fp,H' b=none) -> ∀ b∈fp,bS X pins H' b:=fun hn b j=>⟨hn b j,(f2 b j).2⟩
 refine codeAny_forLoop_any (fun n s' => ∃ i σ' H',Inv X pins σ' H' s'/\tn i s'.heap/\(∀ b∈fp,H' b=none)/\W i n σ' H') ?_ m0 ⟨0, σ,H2,I2,U,fun b j=>(f2 b j).1,w0⟩
 rintro n s3 ⟨i, σ3,S,I3,L,O,w3⟩
 rcases turn i n σ3 S w3 with ⟨stop,qn⟩ | ⟨go,N,hN,step⟩
 ·refine wpAny_passesOwn G (thn (T.done X rfl rfl rfl hc i pins s3 σ3 S X.xe I3 (stat O) L stop) fun r s4 ⟨Y,I4⟩ => ?_)
  subst Y
  exact wpAny_execs_nil ⟨σ3,S,I4,qn⟩
 ·refine wpAny_passesOwn G (thn (T.item X rfl rfl rfl hc i pins s3 σ3 S X.xe I3 (stat O) L go) fun r s4 ⟨u,Y,h4⟩ => ?_)
  subst Y
  refine wpAny_passesOwn G (thn h4 fun _ s5 ⟨x,H5,I5,r5,y5,F,Z⟩ => ?_)
  have CC:=I5.pinned (stat Z) (T.obj _ _ F)
  refine wpAny_passesOwn G (thn (hg _ s5 σ3 H5 x u _ CC r5 (step x H5 y5)) fun _ s6 ⟨σ6,H6,I6,q6⟩ => ?_)
  refine wpAny_passesOwn G (thn (j _ s6 σ6 H6 _ I6 q6) fun f s7 B => ?_)
  have again:∀ {σ7:St} {q:Hp},Inv X (pins++ii fp s5.heap) σ7 q s7->N σ7 q -> ∃ m,m < n /\ ∃ i σ' H',Inv X pins σ' H' s7/\tn i s7.heap/\(∀ b∈fp,H' b=none)/\W i m σ' H':=fun {σ7 q} z R=>by
   obtain ⟨m',hm,w7⟩:=hN σ7 q R
   refine ⟨m',hm,i+1, σ7,q,z.unpinned,T.keep _ _ _ F fun b j o e=>(z.pin (b,o) (List.mem_append_right _ (List.mem_append_right _ (cR j e)))).1,fun b j => ?_,w7⟩
   obtain ⟨o,e,d⟩:=T.obj _ _ F b j
   exact (z.pin (b,o) (List.mem_append_right _ (List.mem_append_right _ (cR j e)))).2.1
  cases f with
  | next=>obtain ⟨σ7,q,z,R⟩:=B;exact again z R
  | cont=>obtain ⟨σ7,q,z,R⟩:=B;exact again z R
  | brk=>obtain ⟨σ7,q,z,B⟩:=B;exact ⟨σ7,q,z.unpinned,B⟩
  | ret v=>obtain ⟨x7, σ7,q,z,r7,B⟩:=B;exact ⟨x7, σ7,q,z.unpinned,r7,B⟩
end
end
section
noncomputable abbrev R2:=V->V->Hp->VK->Prop
noncomputable def OpR (X:Cx) (f:Value->Value->Sem Value) (r:R2):Prop :=
 ∀ (pins:List (Addr×Obj)) (s:Shared) (σ:St) (H:Hp) (x y:V) (v u:Value) (Q:VK),Inv X pins σ H s->RelV x v->RelV y u->r x y H Q ->
  wpAny (model X.prog X.w) X.A (f v u) (EP X pins σ Q) X.xe s
noncomputable def UnR (X:Cx) (f:Value->Sem Value) (r:V->Hp->VK->Prop):Prop :=
 ∀ (pins:List (Addr×Obj)) (s:Shared) (σ:St) (H:Hp) (x:V) (v:Value) (Q:VK),Inv X pins σ H s->RelV x v->r x H Q ->
  wpAny (model X.prog X.w) X.A (f v) (EP X pins σ Q) X.xe s
noncomputable def CallR (X:Cx) (f:Value) (r:List V->Hp->VK->Prop):Prop :=
 ∀ (pins:List (Addr×Obj)) (s:Shared) (σ:St) (H:Hp) (xs:List V) (us:List Value) (Q:VK),Inv X pins σ H s->Vals xs us->r xs H Q ->
  wpAny (model X.prog X.w) X.A (call f us) (EP X pins σ Q) X.xe s
noncomputable def Ci (X:Cx) (r:V->Hp->(Bool->Hp->Prop)->Prop):Prop :=
 ∀ (pins:List (Addr×Obj)) (s:Shared) (σ:St) (H:Hp) (x:V) (v:Value) (Q:Bool->Hp->Prop),Inv X pins σ H s->RelV x v->r x H Q ->
  wpAny (model X.prog X.w) X.A (truthy v) (TP X pins σ Q) X.xe s
noncomputable def tOp (r:R2) (ta tb:TE):TE:=fun σ H Q=>ta σ H fun x H1=>tb σ H1 fun y H2=>r x y H2 Q
noncomputable def tUn (r:V->Hp->VK->Prop) (ta:TE):TE:=fun σ H Q=>ta σ H fun x H1=>r x H1 Q
noncomputable def rI (C:Int->Int->Prop) (g:Int->Int->V):R2:=fun x y H Q => ∃ i j,x = .int i/\y = .int j/\C i j/\Q (g i j) H
noncomputable def rI0 (g:Int->Int->V):R2:=fun x y H Q => ∃ i j,x = .int i/\y = .int j/\Q (g i j) H
noncomputable def rU (g:Int->V):V->Hp->VK->Prop:=fun x H Q => ∃ i,x = .int i/\Q (g i) H
section
variable {X:Cx} {a b c:Expr} {ta tb tc:TE} {pos:Pos}
theorem uA (j:PE X a ta) (n:PE X b tb) {pins:List (Addr×Obj)} {s:Shared} {σ:St} {H:Hp} {R:V->V->Hp->Prop} (I:Inv X pins σ H s)
 (h:ta σ H fun x H1=>tb σ H1 fun y H2=>R x y H2) {Q:Value->Shared->Prop} {f:Value->Value->Sem Value}
 (hf:∀ v u s2 x y H2,Inv X pins σ H2 s2->RelV x v->RelV y u->R x y H2->wpAny (model X.prog X.w) X.A (f v u) Q X.xe s2) :
 wpAny (model X.prog X.w) X.A (eval a X.env) (fun v s₁ => wpAny (model X.prog X.w) X.A (eval b X.env) (fun u s₂ => wpAny (model X.prog X.w) X.A (f v u) Q X.xe s₂) X.xe s₁) X.xe s:=by
 refine thn (j pins s σ H _ I h) fun v s1 ⟨x,H1,q,z,B⟩ => ?_
 refine thn (n pins s1 σ H1 _ q B) fun u s2 ⟨y,H2,F,G,J⟩ => ?_
 exact hf v u s2 x y H2 F z G J
theorem Bs {op:Operator} {r:R2} (ho:OpR X (binaryOp op) r) (j:PE X a ta) (n:PE X b tb):PE X (.BinOp a op b pos) (tOp r ta tb):=by
 intro pins s σ H Q I h
 exact wpAny_BinOp (uA j n I h fun v u s2 x y H2 z rx ry q=>ho pins s2 σ H2 x y v u Q z rx ry q)
theorem Bt {op:UnaryOp} {r:V->Hp->VK->Prop} (ho:UnR X (unaryOp op) r) (j:PE X a ta):PE X (.UnaryOp op a pos) (tUn r ta):=by
 intro pins s σ H Q I h
 exact UnaryOp_ (thn (j pins s σ H _ I h) fun v s1 ⟨x,H1,n,q,z⟩=>ho pins s1 σ H1 x v Q n q z)
theorem opI {f:Value->Value->Sem Value} {C:Int->Int->Prop} {g:Int->Int->Int}
 (rule:∀ (i j:Int) (t u:Tok) (s:Shared) (Q:Value->Shared->Prop) (E:Value->Shared->Prop),C i j->Q (.int (g i j) s.toks) { s with toks:=s.toks+1 }->wpAny (model X.prog X.w) X.A (f (.int i t) (.int j u)) Q E s) :
 OpR X f (rI C fun i j => .int (g i j)):=by
 intro pins s σ H x y v u Q I rx ry h
 obtain ⟨i,j,rfl,rfl,n,q⟩:=h
 obtain ⟨t,rfl⟩:=rx
 obtain ⟨t',rfl⟩:=ry
 exact rule i j t t' s _ _ n ⟨.int (g i j),H,I.tok _,⟨_,rfl⟩,q⟩
theorem pX {f:Value->Value->Sem Value} {g:Int->Int->Int}
 (rule:∀ (i j:Int) (t u:Tok) (s:Shared) (Q:Value->Shared->Prop) (E:Value->Shared->Prop),Q (.int (g i j) s.toks) { s with toks:=s.toks+1 }->wpAny (model X.prog X.w) X.A (f (.int i t) (.int j u)) Q E s) :
 OpR X f (rI0 fun i j => .int (g i j)):=by
 intro pins s σ H x y v u Q I rx ry h
 obtain ⟨i,j,rfl,rfl,q⟩:=h
 obtain ⟨t,rfl⟩:=rx
 obtain ⟨t',rfl⟩:=ry
 exact rule i j t t' s _ _ ⟨.int (g i j),H,I.tok _,⟨_,rfl⟩,q⟩
theorem uB {f:Value->Value->Sem Value} {g:Int->Int->Bool}
 (rule:∀ (i j:Int) (t u:Tok) (s:Shared) (Q:Value->Shared->Prop) (E:Value->Shared->Prop),Q (.bool (g i j)) s->wpAny (model X.prog X.w) X.A (f (.int i t) (.int j u)) Q E s) :
 OpR X f (rI0 fun i j => .bl (g i j)):=by
 intro pins s σ H x y v u Q I rx ry h
 obtain ⟨i,j,rfl,rfl,q⟩:=h
 obtain ⟨t,rfl⟩:=rx
 obtain ⟨t',rfl⟩:=ry
 exact rule i j t t' s _ _ ⟨.bl (g i j),H,I,rfl,q⟩
noncomputable def Cj (i j:Int):Prop := 0<=j/\j<=1000000/\i.natAbs < 2 ^ 64
theorem op_add:OpR X (binaryOp .Add) (rI0 fun i j => .int (i+j)):=pX fun _ _ _ _ _ _ _ q=>add_int q
theorem A2:OpR X (binaryOp .Sub) (rI0 fun i j => .int (i - j)):=pX fun _ _ _ _ _ _ _ q=>sub_int q
theorem A3:OpR X (binaryOp .Mod) (rI (fun _ j => 0 < j) fun i j => .int (i % j)):=opI fun i j _ _ _ _ _ n q=>by
 have h1:(0:Int) < j:=n
 exact mod_int' (by lia) (by rw [Int.fmod_eq_emod_of_nonneg i (by lia)];exact q)
theorem A4:OpR X (binaryOp .Pow) (rI Cj fun i j => .int (i ^ j.toNat)):=opI fun _ _ _ _ _ _ _ n q=>pow_int_small n.1 n.2.1 n.2.2 q
theorem xR:OpR X (inplaceOp .Add) (rI0 fun i j => .int (i+j)):=pX fun _ _ _ _ _ _ _ q=>iadd_int q
theorem xS:OpR X (inplaceOp .Sub) (rI0 fun i j => .int (i - j)):=pX fun _ _ _ _ _ _ _ q=>isub_int q
theorem unI {f:Value->Sem Value} {g:Int->Int}
 (rule:∀ (i:Int) (t:Tok) (s:Shared) (Q:Value->Shared->Prop) (E:Value->Shared->Prop),Q (.int (g i) s.toks) { s with toks:=s.toks+1 }->wpAny (model X.prog X.w) X.A (f (.int i t)) Q E s) :
 UnR X f (rU fun i => .int (g i)):=by
 intro pins s σ H x v Q I rx h
 obtain ⟨i,rfl,q⟩:=h
 obtain ⟨t,rfl⟩:=rx
 exact rule i t s _ _ ⟨.int (g i),H,I.tok _,⟨_,rfl⟩,q⟩
theorem A5:UnR X (unaryOp .USub) (rU fun i => .int (-i)):=unI fun _ _ _ _ _ q=>neg_int q
end
section
variable {X:Cx} {a b c:Expr} {ta tb tc:TE} {pos:Pos}
theorem Bu:OpR X (compareOp .Lt) (rI0 fun i j => .bl (decide (i < j))):=uB fun _ _ _ _ _ _ _ q=>lt_int q
theorem Bv:OpR X (compareOp .Gt) (rI0 fun i j => .bl (decide (j < i))):=uB fun _ _ _ _ _ _ _ q=>gt_int q
theorem Bw:OpR X (compareOp .GtE) (rI0 fun i j => .bl (decide (j<=i))):=uB fun _ _ _ _ _ _ _ q=>ge_int q
theorem OpR.or {f:Value->Value->Sem Value} {r r':R2} (h:OpR X f r) (h':OpR X f r'):OpR X f (fun x y H Q=>r x y H Q∨r' x y H Q):=by
 intro pins s σ H x y v u Q I rx ry q
 rcases q with q | q
 ·exact h pins s σ H x y v u Q I rx ry q
 ·exact h' pins s σ H x y v u Q I rx ry q
theorem xT {op:CmpOp} {r:R2} (ho:OpR X (compareOp op) r) (j:PE X a ta) (n:PE X b tb) (hm:behindInMarks op b=false):PE X (.Compare a [op] [b] pos) (tOp r ta tb):=by
 intro pins s σ H Q I h
 exact wpAny_Compare1 (uA j n I h fun v u s2 x y H2 z rx ry q=>ho pins s2 σ H2 x y v u Q z rx ry q) hm
noncomputable def wN (t:TE):TT:=fun σ H Q=>t σ H fun x H' => ∃ k,x = .bl k/\Q k H'
theorem xU {op:CmpOp} {r:R2} (ho:OpR X (compareOp op) r) (j:PE X a ta) (n:PE X b tb) (hm:behindInMarks op b=false):PT X (.Compare a [op] [b] pos) (wN (tOp r ta tb)):=by
 intro pins s σ H Q I h
 refine wpAny_isTrue_Compare1 (thn (j pins s σ H _ I h) fun v s1 ⟨x,H1,q,B,F⟩=>thn (n pins s1 σ H1 _ q F) fun u s2 ⟨y,H2,G,J,L⟩ =>
  thn (ho pins s2 σ H2 x y v u _ G B J L) fun c s3 ⟨z,O,R,S,k,e,U⟩ => ?_) hm
 subst e
 cases S
 exact wpAny_truthy_bool ⟨O,R,U⟩
noncomputable def uC (K:Frag) (x:V) (H:Hp) (k:Bool):Prop :=
 match x with
 | .non=>k=false
 | .bl b=>k=b
 | .int i=>k=(i != 0)
 | .str y=>y.length<=sizeLine/\k=((y.length:Int) != 0)
 | .byt y=>y.size<=sizeLine/\k=((y.size:Int) != 0)
 | .ref p=>(∃ xs,SqL K H p xs/\k = !xs.isEmpty)∨(∃ xs,SqT K H p xs/\k = !xs.isEmpty) ∨ ∃ kvs,H p=some (.dK kvs)/\k = !kvs.isEmpty
 | _=>False
theorem pY {κ:Type} {kvs:List (κ × V)} {vs:List (κ × Value)} (r:KV kvs vs):(!vs.isEmpty) = !kvs.isEmpty:=by
 cases r <;> rfl
theorem ik {xs:List V} {its:List Value} (r:Vals xs its):(!its.toArray.isEmpty) = !xs.isEmpty:=by
 cases r <;> simp
theorem dX:(sizeLine:Nat) < 2 ^ 63:=by rw [sizeLine_eq];decide
theorem A6:Ci X (fun x H Q => ∃ k,uC X.K x H k/\Q k H):=by
 intro pins s σ H x v Q I rx h
 obtain ⟨k,e,q⟩:=h
 have B:=dX
 have hs:sizeLine=16777216:=sizeLine_eq
 cases x with
 | non =>
   cases rx
   have e':k=false:=e
   subst e'
   exact truthy_none ⟨H,I,q⟩
 | bl b =>
   cases rx
   have e':k=b:=e
   subst e'
   exact wpAny_truthy_bool ⟨H,I,q⟩
 | int i =>
   obtain ⟨t,rfl⟩:=rx
   have e':k=(i != 0):=e
   subst e'
   exact PySem.P.truthy_int ⟨H,I,q⟩
 | str y =>
   obtain ⟨t,rfl⟩:=rx
   obtain ⟨n,e'⟩:y.length<=sizeLine/\k=((y.length:Int) != 0):=e
   subst e'
   exact PySem.P.truthy_str (by lia) ⟨H,I.tok _,q⟩
 | byt y =>
   obtain ⟨t,rfl⟩:=rx
   obtain ⟨n,e'⟩:y.size<=sizeLine/\k=((y.size:Int) != 0):=e
   subst e'
   exact PySem.W.truthy_bytes (by lia) ⟨H,I.tok _,q⟩
 | ref p =>
   cases rx
   have e':(∃ xs,SqL X.K H p xs/\k = !xs.isEmpty)∨(∃ xs,SqT X.K H p xs/\k = !xs.isEmpty) ∨ ∃ kvs,H p=some (.dK kvs)/\k = !kvs.isEmpty:=e
   rcases e' with ⟨xs,hx,e'⟩ | ⟨xs,hx,e'⟩ | ⟨kvs,hx,e'⟩
   ·subst e'
    obtain ⟨its,r,pl,j⟩:=I.list hx
    have hlen:=r.length
    exact wpAny_truthy_list pl.isList (by simp only [List.size_toArray];lia) ⟨H,I.tok _,by rw [ik r];exact q⟩
   ·subst e'
    obtain ⟨its,r,pl,j⟩:=I.tuple hx
    have hlen:=r.length
    exact truthy_tuple pl (by simp only [List.size_toArray];lia) ⟨H,I.tok _,by rw [ik r];exact q⟩
   ·subst e'
    obtain ⟨j,z,vs,r,m⟩:kvs.length<=sizeLine/\(p==sysModules)=false /\ ∃ vs,KV kvs vs/\s.heap.DictOf (aE X.prog X.w) p vs:=I.hok p _ hx
    have hlen:kvs.length=vs.length:=Paired.length r
    exact wpAny_truthy_dict z m (by lia) ⟨H,I.tok _,by rw [pY r];exact q⟩
 | _=>exact (show False from e).elim
theorem uD (j:PE X a ta) (he:∀ whole,isTrue a X.env whole=(do let v <- whole;standAt a.pos;holding [v] (truthy v))) :
 PT X a (fun σ H Q=>ta σ H fun x H' => ∃ k,uC X.K x H' k/\Q k H'):=by
 intro pins s σ H Q I h
 exact isTrue_plain (thn (j pins s σ H _ I h) fun v s1 ⟨x,H1,n,q,z⟩=>A6 pins s1 σ H1 x v Q n q z) (he _)
theorem pZ:OpR X (binaryOp .Add) (fun x y H Q => ∃ i j,x = .str i/\y = .str j/\i.length+j.length<=sizeLine/\Q (.str (i++j)) H):=by
 intro pins s σ H x y v u Q I rx ry h
 obtain ⟨i,j,rfl,rfl,n,q⟩:=h
 obtain ⟨t,rfl⟩:=rx
 obtain ⟨t',rfl⟩:=ry
 exact add_str (fun t' tk=>⟨.str (i++j),H,I.tok _,⟨_,rfl⟩,q⟩) n
theorem dG {x:V} {us:List Value} (r:Vals [x] us):∃ u,us=[u]/\RelV x u:=by
 cases r with
 | cons j n=>cases n;exact ⟨_,rfl,j⟩
theorem kL {x y:V} {us:List Value} (r:Vals [x,y] us):∃ u w',us=[u,w']/\RelV x u/\RelV y w':=by
 cases r with
 | cons j n =>
   cases n with
   | cons q z=>cases z;exact ⟨_,_,rfl,j,q⟩
theorem uE:CallR X (.builtin "abs") (fun xs H Q => ∃ i,xs=[.int i]/\Q (.int (if i < 0 then -i else i)) H):=by
 intro pins s σ H xs us Q I r h
 obtain ⟨i,rfl,q⟩:=h
 obtain ⟨u,rfl,t,rfl⟩:=dG r
 exact call_abs_int fun u tk=>⟨.int (if i < 0 then -i else i),H,I.tok _,⟨_,rfl⟩,q⟩
theorem rq (z:X.calm=true):CallR X (.builtin "min") (fun xs H Q => ∃ i j,xs=[.int i, .int j]/\Q (.int (if j < i then j else i)) H):=by
 intro pins s σ H xs us Q I r h
 obtain ⟨i,j,rfl,q⟩:=h
 obtain ⟨u,w',rfl,⟨t,rfl⟩,⟨t',rfl⟩⟩:=kL r
 refine min_two_ints (I.ok.hd z) fun h' tk k=>⟨_,H,I.kept k, ?_,q⟩
 by_cases n:j < i
 ·rw [if_pos n,if_pos n];exact ⟨_,rfl⟩
 ·rw [if_neg n,if_neg n];exact ⟨_,rfl⟩
theorem rA:CallR X (.type "int") (fun xs H Q=>(∃ i,xs=[.int i]/\Q (.int i) H) ∨ ∃ k,xs=[.bl k]/\Q (.int (if k then 1 else 0)) H):=by
 intro pins s σ H xs us Q I r h
 rcases h with ⟨i,rfl,q⟩ | ⟨k,rfl,q⟩
 ·obtain ⟨u,rfl,t,rfl⟩:=dG r
  exact call_int_int ⟨.int i,H,I,⟨_,rfl⟩,q⟩
 ·obtain ⟨u,rfl,j⟩:=dG r
  cases j
  exact call_int_bool ⟨.int (if k then 1 else 0),H,I.tok _,⟨_,rfl⟩,q⟩
noncomputable def Ck (K:Frag) (x:V) (H:Hp) (n:Nat):Prop :=
 match x with
 | .str y=>y.length<=sizeLine/\n=y.length
 | .byt y=>y.size<=sizeLine/\n=y.size
 | .ref p=>(∃ xs,SqL K H p xs/\n=xs.length) ∨ ∃ xs,SqT K H p xs/\n=xs.length
 | _=>False
theorem uF:CallR X (.builtin "len") (fun xs H Q => ∃ x n,xs=[x]/\Ck X.K x H n/\Q (.int n) H):=by
 intro pins s σ H xs us Q I r h
 obtain ⟨x,n,rfl,e,q⟩:=h
 obtain ⟨u,rfl,rx⟩:=dG r
 have B:=dX
 have hs:sizeLine=16777216:=sizeLine_eq
 cases x with
 | str y =>
   obtain ⟨t,rfl⟩:=rx
   obtain ⟨j,e'⟩:y.length<=sizeLine/\n=y.length:=e
   subst e'
   exact len_str (by lia) ⟨.int _,H,I.tok _,⟨_,rfl⟩,q⟩
 | byt y =>
   obtain ⟨t,rfl⟩:=rx
   obtain ⟨j,e'⟩:y.size<=sizeLine/\n=y.size:=e
   subst e'
   exact PySem.W.len_bytes (by lia) ⟨.int _,H,I.tok _,⟨_,rfl⟩,q⟩
 | ref p =>
   cases rx
   have e':(∃ xs,SqL X.K H p xs/\n=xs.length) ∨ ∃ xs,SqT X.K H p xs/\n=xs.length:=e
   rcases e' with ⟨xs,hx,e'⟩ | ⟨xs,hx,e'⟩
   ·subst e'
    obtain ⟨its,r',pl,z⟩:=I.list hx
    have hlen:=r'.length
    exact Calls.call_len_list pl.isList (by simp only [List.size_toArray];lia) ⟨.int xs.length,H,I.tok _,⟨_,by simp only [List.size_toArray];rw [hlen]⟩,q⟩
   ·subst e'
    obtain ⟨its,r',pl,z⟩:=I.tuple hx
    have hlen:=r'.length
    exact len_tuple pl (by simp only [List.size_toArray];lia) ⟨.int xs.length,H,I.tok _,⟨_,by simp only [List.size_toArray];rw [hlen]⟩,q⟩
 | _=>exact (show False from e).elim
end
end
section
structure ObjM (h:Heap) (x dx C:Addr) (mA:Str->Option Value):Prop where
 obj:h.get? x=some (PySem.W.instObj C dx)
 ns:h.Ns1 dx mA
 ne:dx≠x
theorem rB {h:Heap} {dx:Addr} {mA:Str->Option Value} (n:h.Ns1 dx mA):∃ od,h.get? dx=some od /\ ∀ name,PySem.W.lookIn name od=some (mA name):=by
 obtain ⟨o,es,ep,ho,hd,B,_,hm⟩:=n
 refine ⟨o,ho,fun name => ?_⟩
 have e:=hm name
 unfold nsFind findBy at e
 rw [<- Array.find?_toList] at e
 unfold PySem.W.lookIn
 rw [hd]
 dsimp only
 split
 ·rename_i y q
  rw [q] at e
  exact congrArg some e
 ·rename_i q
  rw [q] at e
  have a:es.toList.any (·.refKey)=false:=by
   rw [List.any_eq_false]
   intro y F
   obtain ⟨z,t,j⟩:=B y (Array.mem_toList_iff.mp F)
   simp [DictEntry.refKey,j]
  have a' : ¬ es.toList.any (·.refKey)=true:=by rw [a];exact Bool.false_ne_true
  rw [if_neg a']
  exact congrArg some e
theorem ObjM.look {h:Heap} {x dx C:Addr} {mA:Str->Option Value} (I:ObjM h x dx C mA):∃ od,PySem.W.InstAt h x (PySem.W.instObj C dx) C (some od) /\ ∀ name,PySem.W.lookIn name od=some (mA name) :=
 let ⟨od,ho,j⟩:=rB I.ns
 ⟨od,⟨I.obj,rfl,rfl,ho⟩,j⟩
theorem RelO.some_of {v:V} {o:Option Value} (r:RelO (some v) o):∃ u,o=some u/\RelV v u:=by
 cases o with
 | none=>exact (show False from r).elim
 | some u=>exact ⟨u,rfl,r⟩
section
variable {P:Program} {w:World} {H H':Hp} {h h':Heap} {a C dx:Addr} {fs fs':List (Str×V)}
theorem xV (hok:HOk P w H h) (e:H a=some (.ins C dx fs)):∃ mA,ObjM h a dx C mA/\(∀ f,RelO (fs.lookup f) (mA f))/\PySem.Within mA (fs.map (·.1))/\fs.length<=1000/\H dx=some (.own a):=by
 obtain ⟨d,z,ne,ob,mA,n,r,q⟩:=(show ObjOk P w H h a (.ins C dx fs) from hok a _ e)
 exact ⟨mA,⟨ob,n,ne⟩,r,q,z,d⟩
end
structure Cls (K:Frag) (C:Addr):Prop where
 pg:PySem.W.plainGet K C Str.empty=true
 hd:PySem.W.hasDictIn K C=true
 po:PySem.W.plainOver K C=true
 sa:PySem.W.findIn K (.ref C) "__setattr__" = some (some (.builtin "object.__setattr__"))
theorem Cls.get {K:Frag} {C:Addr} (c:Cls K C) (f:Str):PySem.W.plainGet K C f=true:=c.pg
section
variable {X:Cx} {pins:List (Addr×Obj)} {σ:St} {H:Hp} {s:Shared} {A:Around} {E:Value->Shared->Prop} {Q:Value->Shared->Prop} {c:Value} {b:Bool}
inductive bT (K:Frag) (H:Hp):V->Value->Prop where
 | non:bT K H .non (.type "NoneType")
 | bl (x:Bool):bT K H (.bl x) (.type "bool")
 | int (i:Int):bT K H (.int i) (.type "int")
 | str (x:Str):bT K H (.str x) (.type "str")
 | flt (x:UInt64):bT K H (.flt x) (.type "float")
 | lst {a:Addr} {xs:List V} (e:H a=some (.lst xs)):bT K H (.ref a) (.type "list")
 | frz {a:Addr} {o:Obj} {xs:List V} (e:H a=some (.frz o (.lst xs))):bT K H (.ref a) (.type "list")
 | tup {a:Addr} {xs:List V} (e:H a=some (.tup xs)):bT K H (.ref a) (.type "tuple")
 | dK {a:Addr} {kvs:List (Key×V)} (e:H a=some (.dK kvs)):bT K H (.ref a) (.type "dict")
 | dT {a:Addr} {kvs:List (List Key×V)} (e:H a=some (.dT kvs)):bT K H (.ref a) (.type "dict")
 | ins {a C dx:Addr} {fs:List (Str×V)} (e:H a=some (.ins C dx fs)) (cl:Cls K C) (ha:PySem.W.findIn K (.ref C) "__class__" = some (some (.builtin "object.__class__")))
    (hn:PySem.W.specialIn K (.builtin "object.__class__") "__get__" = some (some (.builtin "getset_descriptor.__get__"))) (htk:PySem.W.takesIn K (.builtin "object.__class__")=some true)
    (hm:PySem.W.mroIn K C (.type "object")=some true):bT K H (.ref a) (.ref C)
theorem rC {x:V} {u t:Value} (I:Inv X pins σ H s) (rx:RelV x u) (ty:bT X.K H x t) (e:PySem.W.kitOne X.K t c=some b) (h:∀ tk,Q (.bool b) { s with toks:=tk }) :
 wpAny (model X.prog X.w) A (call (.builtin "isinstance") [u,c]) Q E s:=by
 cases ty with
 | non=>cases (show u=Value.none from rx);exact PySem.W.kia_one PySem.W.kitx_none I.kIn True.intro e (fun z=>nomatch z) h
 | bl y=>cases (show u=Value.bool y from rx);exact PySem.W.kia_one PySem.W.kitx_bool I.kIn True.intro e (fun z=>nomatch z) h
 | int i=>obtain ⟨t,q⟩:=(show ∃ t,u=Value.int i t from rx);cases q;exact PySem.W.kia_one PySem.W.kitx_int I.kIn True.intro e (fun z=>nomatch z) h
 | str y=>obtain ⟨t,q⟩:=(show ∃ t,u=Value.str y t from rx);cases q;exact PySem.W.kia_one PySem.W.kitx_str I.kIn True.intro e (fun z=>nomatch z) h
 | flt y=>obtain ⟨t,q⟩:=(show ∃ t,u=Value.float y t from rx);cases q;exact PySem.W.kia_one PySem.W.kitx_float I.kIn True.intro e (fun z=>nomatch z) h
 | @lst a xs ea =>
  cases (show u=Value.ref a from rx)
  obtain ⟨_,_,n,_,h1⟩:=(show ObjOk X.prog X.w H s.heap a (.lst xs) from I.hok a _ ea)
  exact PySem.W.kia_one PySem.W.kitx_list I.kIn ⟨_,h1,rfl⟩ e (fun z=>nomatch z) h
 | @frz a ob xs ea =>
  cases (show u=Value.ref a from rx)
  obtain ⟨_,_,_,n,_,h1⟩:=(show ObjOk X.prog X.w H s.heap a (.frz ob (.lst xs)) from I.hok a _ ea)
  exact PySem.W.kia_one PySem.W.kitx_list I.kIn ⟨_,h1,rfl⟩ e (fun z=>nomatch z) h
 | @tup a xs ea =>
  cases (show u=Value.ref a from rx)
  obtain ⟨_,_,_,p⟩:=(show ObjOk X.prog X.w H s.heap a (.tup xs) from I.hok a _ ea)
  obtain ⟨o,h1,h2,_⟩:=p
  exact PySem.W.kia_one PySem.W.kitx_tuple I.kIn ⟨o,h1,h2⟩ e (fun z=>nomatch z) h
 | @dK a kvs ea =>
  cases (show u=Value.ref a from rx)
  obtain ⟨_,_,vs,_,p⟩:=(show ObjOk X.prog X.w H s.heap a (.dK kvs) from I.hok a _ ea)
  obtain ⟨o,es,ep,h1,h2,_⟩:=p
  exact PySem.W.kia_one PySem.W.kitx_dict I.kIn ⟨o,h1,h2.1⟩ e (fun z=>nomatch z) h
 | @dT a kvs ea =>
  cases (show u=Value.ref a from rx)
  obtain ⟨_,_,xs,_,o,es,ep,h1,h2,_⟩:=(show ObjOk X.prog X.w H s.heap a (.dT kvs) from I.hok a _ ea)
  exact PySem.W.kia_one PySem.W.kitx_dict I.kIn ⟨o,h1,h2.1⟩ e (fun z=>nomatch z) h
 | @ins a C dx fs ea cl ha hn htk hm =>
  cases (show u=Value.ref a from rx)
  obtain ⟨mA,O,_⟩:=xV I.hok ea
  obtain ⟨od,J,_⟩:=O.look
  exact PySem.W.kia_one (PySem.W.kitx_own (cl.get _) cl.hd ha hn htk hm) I.kIn J e (fun z=>nomatch z) h
end
end
section
structure Room (k:Nat) (A:Around):Prop where
 hd:A.handled=none
 dp:A.depth+3*k+5 < recursionLimit
 un:A.units+16*k+200 < cLine
theorem Room.deeper {k:Nat} {A:Around} (r:Room (k+1) A) (env:Env):Room k (A.deeper env) :=
 ⟨r.hd,by have:=r.dp;show A.depth+1+3*k+5 < _;lia,by have:=r.un;show A.units+3+16*k+200 < _;lia⟩
theorem Room.depth {k:Nat} {A:Around} (r:Room k A):A.depth < recursionLimit:=by have:=r.dp;lia
theorem Room.units {k:Nat} {A:Around} (r:Room k A):A.units+64 < cLine:=by have:=r.un;lia
noncomputable def A7:TA:=fun _ H Q=>Q [] H
noncomputable def wQ (ta:TE) (tr:TA):TA:=fun σ H Q=>ta σ H fun x H1=>tr σ H1 fun xs H2=>Q (x::xs) H2
section
variable {X:Cx} {e:Expr} {es:List Expr} {te:TE} {t:TA} {pos:Pos}
theorem im:PA X [] A7:=fun _ _ _ _ H Q I h=>Calls.spliced_nil ⟨[],H,I, .nil,h⟩
theorem cu (j:PE X e te) (n:PA X es t) (hs:starEach (e::es) X.env=(false,eval e X.env)::starEach es X.env:=by rfl):PA X (e::es) (wQ te t):=by
 intro pos pins s σ H Q I h
 rw [hs]
 show wpAny _ _ (spliced ((false,eval e X.env)::backTo pos (starEach es X.env))) _ _ s
 refine Calls.spliced_cons (thn (j pins s σ H _ I h) fun u s1 ⟨x,H1,q,z,B⟩ => ?_)
 exact thn (n pos pins s1 σ H1 _ q B) fun us s2 ⟨xs,H2,F,G,J⟩=>⟨x::xs,H2,F, .cons z G,J⟩
noncomputable def Cl (t:TA):TE:=fun σ H Q=>t σ H fun xs H1=>xs.length<=sizeLine /\ ∀ p,H1 p=none->Q (.ref p) (upd H1 p (.tup xs))
noncomputable def Cn (t:TA):TE:=fun σ H Q=>t σ H fun xs H1=>xs.length<=sizeLine /\ ∀ p,H1 p=none->Q (.ref p) (upd H1 p (.lst xs))
theorem rD {n} (h:PA X es t):PE X (.Tuple es n pos) (Cl t):=by
 intro pins s σ H Q I hq
 refine wpAny_Tuple_spliced (thn (h pos pins s σ H _ I hq) fun us s1 ⟨xs,H1,j,r,z,q⟩=>⟨by rw [<- r.length];exact z, ?_⟩)
 have hf:H1 s1.heap.objs.size=none:=j.hok.fresh (Nat.le_refl _)
 refine ⟨.ref s1.heap.objs.size,upd H1 s1.heap.objs.size (.tup xs),j.laid (t':=s1.toks) (fun b u e=>Heap.get?_push_of_some _ e) (Nat.le_refl _) ?_,rfl,q _ hf⟩
 exact ⟨z,us,r,⟨_,Heap.get?_push_size _ rfl,rfl,_,rfl⟩⟩
theorem A8 (h:PA X es t):PE X (.List es pos) (Cn t):=by
 intro pins s σ H Q I hq
 refine wpAny_List_spliced (thn (h pos pins s σ H _ I hq) fun us s1 ⟨xs,H1,j,r,z,q⟩=>⟨by rw [<- r.length];exact z, ?_⟩)
 have hf:H1 s1.heap.objs.size=none:=j.hok.fresh (Nat.le_refl _)
 refine ⟨.ref s1.heap.objs.size,upd H1 s1.heap.objs.size (.lst xs),j.laid (t':=s1.toks) (fun b u e=>Heap.get?_push_of_some _ e) (Nat.le_refl _) ?_,rfl,q _ hf⟩
 exact ⟨z,us,0,r,Heap.get?_push_size _ rfl⟩
end
noncomputable abbrev Sp:=List V->Hp->VK->XK->Prop
noncomputable abbrev CXT:=List Env->Hp->Shared->XK->Value->Shared->Prop
structure q0 (P:Program) (w:World) (K:Frag) (mg:Str->Option Value) (base:Heap) (A:Around) (outer:List Env) (s:Shared) (H:Hp):Prop where
 frames:A.frames=some outer
 mod:Mod K mg base
 bs:∀ b o,base.get? b=some o->s.heap.get? b=some o/\H b=none
 bsz:base.objs.size<=s.heap.objs.size
 funs:s.heap.FunFrames base outer
 frf:∀ b∈frs outer,H b=none
 hok:HOk P w H s.heap
 bare:AllBare s.gens
noncomputable def CE (outer:List Env) (P:Program) (w:World) (H:Hp) (s:Shared) (Q:VK) (u:Value) (s':Shared):Prop :=
 ∃ v H',s'.os=s.os/\AllBare s'.gens/\Un (frs outer) [] H H' s.heap s'.heap/\HOk P w H' s'.heap/\RelV v u/\Q v H'
noncomputable def CR (CX:CXT) (outer:List Env) (P:Program) (w:World) (H:Hp) (s:Shared) (Q:VK) (E:XK) (r:Result) (s':Shared):Prop :=
 match r with
 | .ok (.ret u)=>CE outer P w H s Q u s'
 | .ok _=>False
 | .error e=>CX outer H s E e s'
structure dv (P:Program) (w:World) (K:Frag) (mg:Str->Option Value) (base:Heap) (CX:CXT) (k:Nat) (f:Addr) (fd:FuncData) (ps:List Str) (sp:Sp):Prop where
 len:∀ vs H Q E,sp vs H Q E->vs.length=ps.length
 run:∀ (A:Around) (outer:List Env) (s:Shared) (H:Hp) (args:Args) (us:List Value) (vs:List V) (Q:VK) (E:XK),Room k A->q0 P w K mg base A outer s H->BindsTo s fd args (ps.zip us)->Vals vs us->sp vs H Q E ->
  codeAny (model P w) A (.call (.ref f) args) (CR CX outer P w H s Q E) s
section
variable {X:Cx} {pins:List (Addr×Obj)} {σ:St} {H:Hp} {s s':Shared}
theorem Inv.env0 (I:Inv X pins σ H s):q0 X.prog X.w X.K X.mg X.base X.A X.stack s H :=
 ⟨I.ok.frames,I.ok.mod,I.bs,Nat.le_trans I.ok.bsz I.sz,I.stack,I.stkFree,I.hok,I.bare⟩
theorem Inv.after {Q:VK} {u:Value} (I:Inv X pins σ H s) (h:CE X.stack X.prog X.w H s Q u s'):EP X pins σ Q u s':=by
 obtain ⟨v,H',os,bare,un,hok,r,q⟩:=h
 obtain ⟨j,g,d,t,os'⟩:=s'
 obtain rfl:os'=s.os:=os
 exact ⟨v,H',I.call (h':=j) (g':=g) (d':=d) (t':=t) (ch := []) un hok bare (fun b z=>absurd z (by simp)),r,q⟩
end
noncomputable def wR (sp:Sp) (dvs:List V) (E:XK) (t:TA):TE:=fun σ H Q=>t σ H fun vs H1=>sp (vs++dvs) H1 Q E
noncomputable def Binds (K:Frag) (fd:FuncData) (ps:List Str) (ds:List Value):Prop :=
 ∀ (s:Shared) (us:List Value),K.In s.heap->(us++ds).length=ps.length->BindsTo s fd ⟨us,[]⟩ (ps.zip (us++ds))
theorem Binds.all {K:Frag} {fd:FuncData} {ps:List Str} (h:∀ us:List Value,us.length=ps.length->bindArgs fd ⟨us,[]⟩=pure (ps.zip us)):Binds K fd ps []:=fun s us _ j=>by
 rw [List.append_nil] at j ⊢
 exact .of_eq (h us j)
noncomputable def io (CX:CXT) (X:Cx) (E:XK):Prop := ∀ (pins:List (Addr×Obj)) (σ:St) (H:Hp) (s:Shared) (e:Value) (s':Shared),Inv X pins σ H s->CX X.stack H s E e s'->X.xe e s'
section
variable {X:Cx} {CX:CXT} {k:Nat} {f C:Addr} {fd:FuncData} {ps:List Str} {sp:Sp} {dvs:List V} {ds:List Value} {E:XK} {x m:Str} {p pos apos:Pos} {e o:Expr} {es:List Expr} {ta:TE} {t:TA}
theorem rE {pins:List (Addr×Obj)} {σ:St} {H:Hp} {s:Shared} {Q:VK} {us:List Value} {vs:List V} (F:dv X.prog X.w X.K X.mg X.base CX k f fd ps sp) (q:Room k X.A) (z:Binds X.K fd ps ds) (hd:Vals dvs ds) (hx:io CX X E)
 (I:Inv X pins σ H s) (r:Vals vs us) (h:sp (vs++dvs) H Q E):wpAny (model X.prog X.w) X.A (call (.ref f) us) (EP X pins σ Q) X.xe s:=by
 have n:Vals (vs++dvs) (us++ds):=r.append hd
 have B:(us++ds).length=ps.length:=by rw [<- n.length];exact F.len _ _ _ _ h
 refine wpAny_call (codeAny_mono (F.run X.A X.stack s H ⟨us,[]⟩ (us++ds) (vs++dvs) Q E q I.env0 (z s us I.kIn B) n h) fun r s' j => ?_)
 cases r with
 | error e=>exact hx pins σ H s e s' I j
 | ok fl =>
   cases fl with
   | ret u=>exact I.after j
   | next=>exact False.elim j
   | brk=>exact False.elim j
   | cont=>exact False.elim j
theorem xW (F:dv X.prog X.w X.K X.mg X.base CX k f fd ps sp) (B:Room k X.A) (G:Gl X x) (hm:X.mg x=some (.ref f)) (J:PySem.W.keepIn X.K (.ref f)=true) (L:Binds X.K fd ps ds) (hd:Vals dvs ds) (hx:io CX X E)
 (O:PA X (e::es) t) (j:(x==("__debug__":Str))=false:=by decide) (he:starEach (e::es) X.env=(false,eval e X.env)::starEach es X.env:=by rfl) (n:(backTo pos (starEach es X.env)).any (·.1)=false:=by rfl) :
 PE X (.Call (.Name x p) (e::es) [] pos) (wR sp dvs E t):=by
 intro pins s σ H Q I h
 refine wpAny_Call_Name_kw (oA I G hm ?_ j)
 refine PySem.W.callWith_K (h₀ := X.base) I.ok.mod.kin J (thn (O pos pins s σ H _ I h) fun us s1 ⟨vs,H1,z,r,q⟩=>⟨z.kIn, ?_⟩) he n
 exact rE F B L hd hx z r q
theorem uG (F:dv X.prog X.w X.K X.mg X.base CX k f fd ps sp) (n:Room k X.A) (q:Gl X x) (hm:X.mg x=some (.ref f)) (z:PySem.W.keepIn X.K (.ref f)=true) (B:Binds X.K fd ps ds) (hd:Vals dvs ds) (hx:io CX X E)
 (j:(x==("__debug__":Str))=false:=by decide):PE X (.Call (.Name x p) [] [] pos) (wR sp dvs E A7):=by
 intro pins s σ H Q I h
 refine wpAny_Call_Name_kw (oA I q hm ?_ j)
 exact PySem.W.callWith_K0 I.kIn z (rE (us := []) F n B hd hx I .nil h)
end
structure fZ (N P:List Str) (sc:Scope):Prop where
 kind:sc.kind = .function
 co:sc.isCoroutine=false
 gen:sc.isGenerator=false
 nd:N.Nodup
 pre:N.take P.length=P
 par:∀ x∈P,sc.names.lookup x=some .local∨sc.names.lookup x=some .cell
 nofree:∀ y∈sc.names,y.2 ≠ .free
theorem jP {kindOf:Str->Option NameKind} {x:Str}:∀ {binds:List (Str×Value)} {m:Str->Option Value},(∀ v,(x,v)∉binds)->bindL kindOf binds m x=m x
 | [],_,_=>rfl
 | (n,v)::r,m,h=>by
  unfold bindL
  rw [jP fun w hw=>h w (List.mem_cons_of_mem _ hw)]
  split
  ·have:x≠n:=by rintro rfl;exact h v List.mem_cons_self
   simp [this]
  ·rfl
theorem jQ {kindOf:Str->Option NameKind} {x:Str}:∀ {binds:List (Str×Value)} {m:Str->Option Value},(∀ v,(x,v)∉binds)->bindC kindOf binds m x=m x
 | [],_,_=>rfl
 | (n,v)::r,m,h=>by
  unfold bindC
  rw [jQ fun w hw=>h w (List.mem_cons_of_mem _ hw)]
  split
  ·rfl
  ·have:x≠n:=by rintro rfl;exact h v List.mem_cons_self
   simp [this]
theorem jR {kindOf:Str->Option NameKind} {x:Str} {v:Value}:∀ {P:List Str} {vs:List Value} {i:Nat} {m:Str->Option Value},P.Nodup->P[i]? = some x->vs[i]? = some v->kindOf x=some .local ->
 bindL kindOf (P.zip vs) m x=some v
 | [],_,_,_,_,h,_,_=>by simp at h
 | _::_,[],_,_,_,_,h,_=>by simp at h
 | p::P,w::vs,0,m,nd,h1,h2,j=>by
   simp at h1 h2;subst h1;subst h2
   show bindL kindOf ((p,w)::P.zip vs) m p=_
   unfold bindL
   rw [jP fun v n=>(List.nodup_cons.mp nd).1 (List.of_mem_zip n).1,if_pos j]
   simp
 | p::P,w::vs,i+1,m,nd,h1,h2,j=>by
   show bindL kindOf ((p,w)::P.zip vs) m x=_
   unfold bindL
   exact jR (i:=i) (List.nodup_cons.mp nd).2 (by simpa using h1) (by simpa using h2) j
theorem jS {kindOf:Str->Option NameKind} {x:Str} {v:Value}:∀ {P:List Str} {vs:List Value} {i:Nat} {m:Str->Option Value},P.Nodup->P[i]? = some x->vs[i]? = some v->kindOf x≠some .local ->
 bindC kindOf (P.zip vs) m x=some v
 | [],_,_,_,_,h,_,_=>by simp at h
 | _::_,[],_,_,_,_,h,_=>by simp at h
 | p::P,w::vs,0,m,nd,h1,h2,j=>by
   simp at h1 h2;subst h1;subst h2
   show bindC kindOf ((p,w)::P.zip vs) m p=_
   unfold bindC
   rw [jQ fun v n=>(List.nodup_cons.mp nd).1 (List.of_mem_zip n).1,if_neg j]
   simp
 | p::P,w::vs,i+1,m,nd,h1,h2,j=>by
   show bindC kindOf ((p,w)::P.zip vs) m x=_
   unfold bindC
   exact jS (i:=i) (List.nodup_cons.mp nd).2 (by simpa using h1) (by simpa using h2) j
noncomputable def cB (N:List Str) (vs:List V):St:=vs.map some++List.replicate (N.length - vs.length) none
noncomputable def gP (CX:CXT) (P:Program) (w:World) (K:Frag) (mg:Str->Option Value) (base:Heap) (N:List Str) (qual:Str) (scope:Scope) (f:Addr) (cd:Value) (A:Around) (outer:List Env) (s:Shared) (H:Hp) (E:XK):Cx where
 prog:=P
 w:=w
 K:=K
 mg:=mg
 base:=base
 A:=A.deeper (envOfC qual scope s.heap.objs.size f cd)
 N:=N
 s₀ := s
 H₀ := H
 env:=envOfC qual scope s.heap.objs.size f cd
 outer:=outer
 stack:=envOfC qual scope s.heap.objs.size f cd::outer
 ex := []
 calm:=true
 fn:=fun _=>true
 pn := []
 xe:=fun e s'=>wpAny (model P w) (A.deeper (envOfC qual scope s.heap.objs.size f cd)) (leaving (envOfC qual scope s.heap.objs.size f cd) e) (fun _ s''=>CX outer H s E e s'') (fun e' s''=>CX outer H s E e' s'') s'
theorem lf {sc:Scope} {n:Nat} {x:Str} (h:sc.names.lookup x=some .cell):∃ c,(cellsFrom n sc.names []).lookup x=some c:=by
 have q:=PySem.W.cellsFrom_some sc.names n [] (.inl h)
 exact Option.isSome_iff_exists.mp q
theorem rF {CX:CXT} {P:Program} {w:World} {K:Frag} {mg:Str->Option Value} {base:Heap} {N ps:List Str} {qual:Str} {scope:Scope} {f:Addr} {cd:Value} {A:Around} {outer:List Env} {s s1:Shared} {H:Hp} {E:XK} {us:List Value} {vs:List V}
 (S:fZ N ps scope) (hd:A.handled=none) (e0:q0 P w K mg base A outer s H) (L:vs.length=ps.length) (r:Vals vs us)
 (x:InCallC s s.heap.objs.size (bindL (envOfC qual scope s.heap.objs.size f cd).kindOf (ps.zip us) fun _=>none) (cellsFrom (s.heap.objs.size+1) scope.names []) (bindC (envOfC qual scope s.heap.objs.size f cd).kindOf (ps.zip us) fun _=>none) s1) :
 Inv (gP CX P w K mg base N qual scope f cd A outer s H E) [] (cB N vs) H s1:=by
 have I:ps.length<=N.length:=by have:=congrArg List.length S.pre;rw [List.length_take] at this;lia
 obtain ⟨h1,tk,rfl,F⟩:=x.done
 have noA:∀ b:Addr,b∉(gP CX P w K mg base N qual scope f cd A outer s H E).ex:=fun b z=>absurd (show b∈([]:List Addr) from z) (by simp)
 refine ⟨⟨e0.mod,S.kind,rfl,rfl,Nat.le_refl _,fun y z c h1 h2 => ?_,fun y j => ?_,fun y c _ h => ?_,fun _=>hd,Around.frames_deeper e0.frames, .inr ⟨rfl,rfl⟩,fun b z=>absurd z (noA b),e0.bs,e0.bsz,fun b _ _=>noA b,fun b z=>absurd z (noA b),e0.funs,e0.frf⟩,
  rfl,e0.bare,Un.kept F,⟨_,x.toInCall.ns,fun i y v h1 h2 O => ?_⟩,fun y c h=>⟨_,x.cell y c h⟩,e0.hok.fresh (Nat.le_refl _),fun y c h => ?_,fun p B=>absurd (show p∈([]:List (Addr×Obj)) from B) (by simp),e0.hok.kept F, ?_⟩
 ·exact name_of_addr x.apart (PySem.mem_of_lookup h1) (PySem.mem_of_lookup h2)
 ·have j:scope.names.lookup y=some .cell∨scope.names.lookup y=some .free:=j
  rcases j with j | j
  ·exact lf j
  ·exact absurd rfl (S.nofree _ (PySem.mem_of_lookup j))
 ·exact Nat.le_of_lt (x.above y c (PySem.mem_of_lookup h))
 ·have hi:i < vs.length:=by
   unfold cB at h2
   by_cases hi:i < vs.length
   ·exact hi
   ·rw [List.getElem?_append_right (by simpa using hi)] at h2
    rw [List.getElem?_replicate] at h2
    split at h2 <;> cases h2
  have J:vs[i]? = some v:=by
   unfold cB at h2
   rw [List.getElem?_append_left (by simpa using hi),List.getElem?_map] at h2
   cases e:vs[i]? with
   | none=>rw [e] at h2;cases h2
   | some a=>rw [e] at h2;cases h2;rfl
  obtain ⟨u,G,rv⟩:=r.get J
  have B:ps[i]? = some y:=by
   rw [<- S.pre,List.getElem?_take_of_lt (by lia)];exact h1
  have ndP:ps.Nodup:=by rw [<- S.pre];exact S.nd.sublist (List.take_sublist _ _)
  refine ⟨u,rv, ?_⟩
  rcases S.par y (List.mem_of_getElem? B) with k | k
  ·exact .inl ⟨k,jR ndP B G k⟩
  ·obtain ⟨c,e⟩:=lf (n:=s.heap.objs.size+1) k
   refine .inr ⟨.inl k,c,e, ?_⟩
   have q:=x.cell y c e
   rw [jS ndP B G (by show scope.names.lookup y≠_;rw [k];decide)] at q
   exact q
 ·exact e0.hok.fresh (Nat.le_of_lt (x.above y c (PySem.mem_of_lookup h)))
 ·unfold cB
  show _=N.length
  rw [List.length_append,List.length_map,List.length_replicate]
  lia
theorem By {CX:CXT} {P:Program} {w:World} {K:Frag} {mg:Str->Option Value} {base:Heap} {k:Nat} {f:Addr} {name qual:Str} {params:Arguments} {body:List Stmt} {scope:Scope} {dV kV doc pm cdv ct oc:Value} {an od:Option Addr}
 {osl:Array (Option Value)} {N ps:List Str} {sp:Sp} (lk:K.lookup f=some ⟨oc,od, .func (PySem.W.fnOf name qual params body scope dV kV doc pm an cdv ct),osl⟩) (F:PySem.W.codeIn K cdv qual=true) (S:fZ N ps scope)
 (len:∀ vs H Q E,sp vs H Q E->vs.length=ps.length)
 (j:∀ (A:Around) (outer:List Env) (s:Shared) (H:Hp) (vs:List V) (Q:VK) (E:XK),Room k (A.deeper (envOfC qual scope s.heap.objs.size f cdv))->sp vs H Q E ->
   ∃ t,PSs (gP CX P w K mg base N qual scope f cdv A outer s H E) body t/\t { nx:=fun _ H'=>Q .non H',rt:=Q } (cB N vs) H) :
 dv P w K mg base CX (k+1) f (PySem.W.fnOf name qual params body scope dV kV doc pm an cdv ct) ps sp:=by
 refine ⟨len,fun A outer s H args us vs Q E G e0 L r B => ?_⟩
 have O:=len _ _ _ _ B
 have KX:K.In s.heap:=e0.mod.kin.keeps fun b o e=>(e0.bs b o e).1
 have lim:s.heap.NoLimit:=e0.mod.nolimit.keeps fun b o e=>(e0.bs b o e).1
 have z:∀ y∈ps.zip us,scope.names.lookup y.1=some .local∨(scope.names.lookup y.1=some .cell/\((cellsFrom (s.heap.objs.size+1) scope.names []).lookup y.1).isSome=true):=fun ⟨n,v⟩ hy=>by
  rcases S.par n (List.of_mem_zip hy).1 with q | q
  ·exact .inl q
  ·exact .inr ⟨q,PySem.W.cellsFrom_some _ _ _ (.inl q)⟩
 refine codeAny_call_function G.depth (KX _ _ lk) rfl S.co S.gen rfl (PySem.W.codeRec_of KX F) (L _ _ _ _ ?_)
 refine wpAny_newFunctionEnv_cells S.kind z fun env he s1 x => ?_
 subst he
 refine ⟨lim.keeps x.toInCall.keep,codeAny_func ?_⟩
 obtain ⟨t,R,U⟩:=j A outer s H vs Q E (G.deeper _) B
 have I:Inv (gP CX P w K mg base N qual scope f cdv A outer s H E) [] (cB N vs) H s1:=rF S G.hd e0 O r x
 refine wpAny_mono (R [] s1 (cB N vs) H _ I U) (fun fl s' hs => ?_) fun e s' hs=>hs
 have fin:∀ {σ':St} {H':Hp} {v:V} {u:Value},Inv (gP CX P w K mg base N qual scope f cdv A outer s H E) [] σ' H' s'->RelV v u->Q v H'->CE outer P w H s Q u s' :=
  fun {σ' H' v u} J rv q=>⟨v,H',J.os,J.bare,J.base,J.hok,rv,q⟩
 cases fl with
 | ret u =>
   obtain ⟨v, σ',H',J,rv,q⟩:=hs
   exact fin J rv q
 | next =>
   obtain ⟨σ',H',J,q⟩:=hs
   exact fin (v:=V.non) (u:=Value.none) J rfl q
 | brk =>
   obtain ⟨_,_,_,q⟩:=hs
   exact False.elim q
 | cont =>
   obtain ⟨_,_,_,q⟩:=hs
   exact False.elim q
end
section
section
variable {X:Cx} {x:Str} {p pos:Pos} {e:Expr} {es:List Expr} {t:TA} {id T:String} {r:List V->Hp->VK->Prop}
noncomputable def tCB (r:List V->Hp->VK->Prop) (t:TA):TE:=fun σ H Q=>t σ H fun vs H1=>r vs H1 Q
theorem ca (q:CallR X (.builtin id) r) (z:Gl X x) (hm:X.mg x=none) (B:bootBuiltins x=some (.builtin id)) (F:PA X (e::es) t) (G:x ≠ "__name__" := by decide) (j:(x==("__debug__":Str))=false:=by decide)
 (he:starEach (e::es) X.env=(false,eval e X.env)::starEach es X.env:=by rfl) (n:(backTo pos (starEach es X.env)).any (·.1)=false:=by rfl):PE X (.Call (.Name x p) (e::es) [] pos) (tCB r t):=by
 intro pins s σ H Q I h
 refine wpAny_Call_Name_kw (du I z hm B ?_ G j)
 exact PyProof.Rows.callWith_builtin1 (thn (F pos pins s σ H _ I h) fun us s1 ⟨vs,H1,J,L,O⟩=>q pins s1 σ H1 vs us Q J L O) he n
theorem dH (q:CallR X (.type T) r) (z:Gl X x) (hm:X.mg x=none) (B:bootBuiltins x=some (.type T)) (F:PA X (e::es) t) (G:x ≠ "__name__" := by decide) (j:(x==("__debug__":Str))=false:=by decide)
 (he:starEach (e::es) X.env=(false,eval e X.env)::starEach es X.env:=by rfl) (n:(backTo pos (starEach es X.env)).any (·.1)=false:=by rfl):PE X (.Call (.Name x p) (e::es) [] pos) (tCB r t):=by
 intro pins s σ H Q I h
 refine wpAny_Call_Name_kw (du I z hm B ?_ G j)
 exact PyProof.Rows.callWith_type1 (thn (F pos pins s σ H _ I h) fun us s1 ⟨vs,H1,J,L,O⟩=>q pins s1 σ H1 vs us Q J L O) he n
end
end
end L2
namespace HT
open PySem PyProof.Rows
section
variable {prog:Program} {w:World} {A:Around} {E:Value->Shared->Prop} {s:Shared}
theorem cat_tup {t b:Addr} {vs ws:List Value} {Q:Value->Shared->Prop} (O:IsTup s.heap t vs.toArray) (R:IsTup s.heap b ws.toArray) (G:vs≠[])
 (h1:ws=[]->Q (.ref t) s) (h2:ws≠[]->Q (.ref s.heap.objs.size) { s with heap:=s.heap.push { cls := .type "tuple",data := .seq (vs++ws).toArray } })
 (hsz:vs.length+ws.length<=sizeLine):wpAny (model prog w) A (binaryOp .Add (.ref t) (.ref b)) Q E s:=by
 obtain ⟨⟨cls,dd,data,sl⟩,ho,I,n,hd⟩:=id O
 obtain ⟨⟨J,q,data2,z⟩,j,B,L,hd2⟩:=id R
 simp only at I hd B hd2
 subst I hd B hd2
 have e:vs.toArray++ws.toArray=(vs++ws).toArray:=by simp
 by_cases hw:ws=[]
 ·exact concat_meets ⟨_,ho,rfl⟩ ⟨_,j,rfl⟩ noFill_tuple_add seq_tuple_add PySem.F.slot_tuple_add PySem.F.entry_tuple_add (PySem.F.args_tuple_add_2 _ _)
   (tuple_addW1 t b vs.toArray ws.toArray n L dd q sl z (by simpa using G) (by simp [hw])) ⟨ho,j,h1 hw⟩
 ·refine concat_meets ⟨_,ho,rfl⟩ ⟨_,j,rfl⟩ noFill_tuple_add seq_tuple_add PySem.F.slot_tuple_add PySem.F.entry_tuple_add (PySem.F.args_tuple_add_2 _ _)
   (tuple_addW2 t b vs.toArray ws.toArray n L dd q sl z (by simpa using G) (by simpa using hw) (by rw [List.size_toArray,List.size_toArray];exact hsz)) ⟨ho,j, ?_⟩
  rw [e]
  exact h2 hw
noncomputable def sIx (n d:Nat):Option Int->Nat
 | none=>d
 | some v=>if v < 0 then (v+(n:Int)).toNat else min v.toNat n
theorem A9 (n d:Nat) (hd:d<=n) (o:Option Int):sIx n d o<=n:=by
 cases o with
 | none=>exact hd
 | some v =>
   show (if v < 0 then (v+(n:Int)).toNat else min v.toNat n)<=n
   by_cases hv:v < 0
   ·rw [if_pos hv];lia
   ·rw [if_neg hv];exact Nat.min_le_right _ _
theorem oC (v:Int) (n d:Nat):(if v < 0 then max (v+(n:Int)) 0 else min v (n:Int))=((sIx n d (some v):Nat):Int):=by
 show (if v < 0 then max (v+(n:Int)) 0 else min v (n:Int))=(((if v < 0 then (v+(n:Int)).toNat else min v.toNat n):Nat):Int)
 by_cases hv:v < 0
 ·simp only [if_pos hv];lia
 ·simp only [if_neg hv];lia
theorem q8 (lo hi:Option Int) (n:Nat):Builtin.Slice.sliceAdjust lo hi 1 (n:Int)=(((sIx n 0 lo:Nat):Int),((sIx n n hi:Nat):Int)):=by
 have h1 : ¬ ((1:Int) < 0):=by lia
 unfold Builtin.Slice.sliceAdjust
 simp only [h1,if_false]
 refine Prod.ext ?_ ?_
 ·cases lo with
  | none=>rfl
  | some v=>exact oC v n 0
 ·cases hi with
  | none=>rfl
  | some v=>exact oC v n n
theorem q9 (i j:Nat):Builtin.Slice.slicePlaces (i:Int) (j:Int) 1=j - i:=by
 unfold Builtin.Slice.slicePlaces
 have h1:(1:Int) > 0:=by lia
 simp only [h1,if_true,Int.ediv_one]
 split <;> lia
theorem iq {v:Value} {o:Option Int} {Q:Option Int->Shared->Prop} (p:IsPart v o) (h:Q o s):wpAny (model prog w) A (Builtin.Slice.slicePartIndex v) Q E s:=by
 cases p with
 | none=>exact slicePart_none h
 | int i t=>exact slicePart_int h
theorem dw {sl:Addr} {vl vu:Value} {lo hi:Option Int} {n:Nat} {Q:Int×Int×Nat->Shared->Prop} (hs:s.heap.IsSliceOf sl vl vu .none) (pl:IsPart vl lo) (pu:IsPart vu hi)
 (h:Q (((sIx n 0 lo:Nat):Int),1,sIx n n hi - sIx n 0 lo) s):wpAny (model prog w) A (Builtin.Slice.sliceApplied (.ref sl) (pure (n:Int))) Q E s:=by
 obtain ⟨os,j,z,q⟩:=id hs
 unfold Builtin.Slice.sliceApplied Builtin.Slice.sliceFields
 refine wpAny_bind (wpAny_bind (wpAny_field j q (x:=vl) rfl (wpAny_bind (wpAny_field j q (x:=vu) rfl (wpAny_bind (wpAny_field j q (x := .none) rfl (wpAny_pure ?_)))))))
 refine wpAny_bind (slicePart_none ?_)
 show wpAny _ _ (if ((1:Int)==0)=true then _ else _) _ _ s
 rw [if_neg (by decide)]
 refine wpAny_bind (iq pl (wpAny_bind (iq pu (wpAny_bind (wpAny_pure ?_)))))
 show wpAny _ _ (match Builtin.Slice.sliceAdjust lo hi 1 (n:Int) with | (lo,hi)=>pure (lo,(1:Int),Builtin.Slice.slicePlaces lo hi 1)) _ _ s
 rw [q8 lo hi n]
 show wpAny _ _ (pure (((sIx n 0 lo:Nat):Int),(1:Int),Builtin.Slice.slicePlaces ((sIx n 0 lo:Nat):Int) ((sIx n n hi:Nat):Int) 1)) _ _ s
 rw [q9]
 exact wpAny_pure h
theorem uH (xs:Array Value) (i k:Nat):((List.range k).filterMap fun (m:Nat)=>xs[((i:Int)+(m:Int)*1).toNat]?).toArray=((xs.toList.drop i).take k).toArray:=by
 have e:(fun (m:Nat)=>xs[((i:Int)+(m:Int)*1).toNat]?)=fun m=>xs[i+m]? := by
  funext m
  have:((i:Int)+(m:Int)*1).toNat=i+m:=by lia
  rw [this]
 rw [e]
 have:=pick_run xs i k
 rw [List.filterMap_map] at this
 have e2:((fun x=>xs[x]?) ∘ fun x=>i+x)=fun m=>xs[i+m]? := rfl
 rw [e2] at this
 rw [this]
theorem getItem_tuple_cut {t sl:Addr} {items:Array Value} {vl vu:Value} {lo hi:Option Int} {Q:Value->Shared->Prop} (n:IsTup s.heap t items) (hs:s.heap.IsSliceOf sl vl vu .none) (pl:IsPart vl lo) (pu:IsPart vu hi)
 (hw : ¬ (sIx items.size 0 lo=0/\sIx items.size items.size hi=items.size))
 (h:Q (.ref s.heap.objs.size) { s with heap:=s.heap.push { cls := .type "tuple",data := .seq ((items.toList.drop (sIx items.size 0 lo)).take (sIx items.size items.size hi - sIx items.size 0 lo)).toArray } })
 (hsz:items.size<=sizeLine):wpAny (model prog w) A (getItem (.ref t) (.ref sl)) Q E s:=by
 have j:sizeOk (.seq ((items.toList.drop (sIx items.size 0 lo)).take (sIx items.size items.size hi - sIx items.size 0 lo)).toArray):=by
  show ((items.toList.drop (sIx items.size 0 lo)).take (sIx items.size items.size hi - sIx items.size 0 lo)).toArray.size<=sizeLine
  rw [List.size_toArray,List.length_take,List.length_drop,Array.length_toList]
  lia
 have J:sIx items.size items.size hi<=items.size:=A9 _ _ (Nat.le_refl _) hi
 obtain ⟨os,z,B,I⟩:=id hs
 have F:s.TypeIs (.ref sl) "slice" := ⟨os,z,B⟩
 unfold getItem
 try with_reducible refine wpAny_holding ?_
 first | refine wpAny_bind (wpAny_pure ?_) | skip
 refine wpAny_bind (wpAny_sequenceKey n.typeIs (by decide) ?_)
 refine wpAny_bind (wpAny_callSpecial?_slot (name:=Str.ofString "__getitem__") n.typeIs PyProof.Rows.slot_tuple_getitem
  (wpAny_call_entry PyProof.Rows.slot_tuple_getitem n.typeIs entry_tuple_getitem ?_ (args_tuple_getitem _ _)))
 show wpAny _ _ (Builtin.Tuple.tupleItemsOf (.ref t) >>= _) _ _ s
 refine wpAny_bind (tupleItemsOf_ n ?_)
 refine wpAny_bind (wpAny_typeOf F ?_)
 rw [if_pos (by decide)]
 refine wpAny_bind (dw hs pl pu ?_)
 have G : ¬ ((((sIx items.size 0 lo:Nat):Int)==0&&(1:Int)==1&&(sIx items.size items.size hi - sIx items.size 0 lo)==items.size)=true):=by
  intro q
  rw [Bool.and_eq_true,Bool.and_eq_true] at q
  have L:((sIx items.size 0 lo:Nat):Int)=0:=eq_of_beq q.1.1
  have O:sIx items.size items.size hi - sIx items.size 0 lo=items.size:=eq_of_beq q.2
  exact hw ⟨by lia,by lia⟩
 show wpAny _ _ (if (((sIx items.size 0 lo:Nat):Int)==0&&(1:Int)==1&&(sIx items.size items.size hi - sIx items.size 0 lo)==items.size)=true then _ else _) _ _ s
 rw [if_neg G,uH]
 first
  | exact wpAny_bind (m:=Builtin.Tuple.tupleExact _) (wpAny_newObj_type (wpAny_pure ⟨_,rfl,wpAny_pure h⟩) j)
  | exact wpAny_bind (m:=Builtin.Tuple.tupleExact _) (wpAny_newObj_type (wpAny_bind (wpAny_pure (wpAny_pure ⟨_,rfl,wpAny_pure h⟩))) j)
  | exact wpAny_bind (wpAny_bind (m:=Builtin.Tuple.tupleExact _) (wpAny_newObj_type (wpAny_pure (wpAny_pure ⟨_,rfl,wpAny_pure h⟩)) j))
  | exact wpAny_bind (wpAny_bind (m:=Builtin.Tuple.tupleExact _) (wpAny_newObj_type (wpAny_pure ⟨_,rfl,wpAny_pure h⟩) j))
end
end HT
namespace L2
open PySem PySem.Spec PyProof.Rows
section
noncomputable abbrev TO:=St->Hp->(Option Int->Hp->Prop)->Prop
noncomputable def PO (X:Cx) (e:Option Expr) (t:TO):Prop :=
 ∀ (pins:List (Addr×Obj)) (s:Shared) (σ:St) (H:Hp) (Q:Option Int->Hp->Prop),Inv X pins σ H s->t σ H Q ->
  wpAny (model X.prog X.w) X.A (evalPart e X.env) (fun u s' => ∃ o H',Inv X pins σ H' s'/\IsPart u o/\Q o H') X.xe s
noncomputable def xX:TO:=fun _ H Q=>Q none H
noncomputable def Bz (t:TE):TO:=fun σ H Q=>t σ H fun x H1 => ∃ i,x = .int i/\Q (some i) H1
section
variable {X:Cx} {e:Expr} {te:TE} {lo hi:Option Expr} {tl th:TO} {pos p2:Pos}
theorem xY:PO X none xX:=by
 intro pins s σ H Q I h
 rw [evalPart_none]
 exact wpAny_pure ⟨none,H,I, .none,h⟩
theorem xZ (h:PE X e te):PO X (some e) (Bz te):=by
 intro pins s σ H Q I hw
 rw [evalPart_some]
 refine thn (h pins s σ H _ I hw) fun u s1 ⟨x,H1,j,n,z⟩ => ?_
 obtain ⟨i,rfl,q⟩:=z
 obtain ⟨t,rfl⟩:=n
 exact ⟨some i,H1,j, .int i t,q⟩
noncomputable def SlR (X:Cx) (r:V->Option Int->Option Int->Hp->VK->Prop):Prop :=
 ∀ (pins:List (Addr×Obj)) (s:Shared) (σ:St) (H:Hp) (x:V) (v vl vu:Value) (lo hi:Option Int) (sl:Addr) (Q:VK),Inv X pins σ H s->RelV x v->s.heap.IsSliceOf sl vl vu .none->IsPart vl lo->IsPart vu hi->r x lo hi H Q ->
  ∃ T id,typeLookup (.type T) "__getitem__" = pure (some (.builtin id))/\s.TypeIs v T/\wpAny (model X.prog X.w) X.A (getItem v (.ref sl)) (EP X pins σ Q) X.xe s
theorem SlR.or {r r':V->Option Int->Option Int->Hp->VK->Prop} (h:SlR X r) (h':SlR X r'):SlR X (fun x lo hi H Q=>r x lo hi H Q∨r' x lo hi H Q):=by
 intro pins s σ H x v vl vu lo hi sl Q I rx hs pl pu q
 rcases q with q | q
 ·exact h pins s σ H x v vl vu lo hi sl Q I rx hs pl pu q
 ·exact h' pins s σ H x v vl vu lo hi sl Q I rx hs pl pu q
noncomputable def tSl (r:V->Option Int->Option Int->Hp->VK->Prop) (te:TE) (tl th:TO):TE:=fun σ H Q=>te σ H fun x H1=>tl σ H1 fun l H2=>th σ H2 fun u H3=>r x l u H3 Q
theorem uI {r:V->Option Int->Option Int->Hp->VK->Prop} (n:SlR X r) (he:PE X e te) (z:PO X lo tl) (B:PO X hi th):PE X (.Subscript e (.Slice lo hi none p2) pos) (tSl r te tl th):=by
 intro pins s σ H Q I h
 refine Subscript_ (thn (he pins s σ H _ I h) fun v s1 ⟨x,H1,F,G,J⟩ => ?_)
 refine wpAny_Slice (thn (z pins s1 σ H1 _ F J) fun vl s2 ⟨l,H2,L,pl,O⟩=>thn (B pins s2 σ H2 _ L O) fun vu s3 ⟨u,j,R,pu,S⟩ => ?_)
 rw [evalPart_none]
 refine wpAny_pure ?_
 have U:Inv X pins σ j { s3 with heap:=s3.heap.push { cls := .type "slice",data := .fields #[vl,vu, .none] } }:=R.kept (t':=s3.toks) fun b ob q=>Heap.get?_push_of_some _ q
 obtain ⟨T,id,Y,Z,hg⟩:=n pins { s3 with heap:=s3.heap.push { cls := .type "slice",data := .fields #[vl,vu, .none] } } σ j x v vl vu l u s3.heap.objs.size Q U G (Heap.IsSliceOf.new ..) pl pu S
 show wpAny (model X.prog X.w) X.A (subscriptTail e (.Slice lo hi none p2) v (.ref s3.heap.objs.size)) (EP X pins σ Q) X.xe { s3 with heap:=s3.heap.push { cls := .type "slice",data := .fields #[vl,vu, .none] } }
 exact tail_any (ops := [.ref s3.heap.objs.size,v]) Z Y hg (by with_unfolding_all rfl)
noncomputable def fw (xs:List V) (lo hi:Option Int):List V:=(xs.drop (HT.sIx xs.length 0 lo)).take (HT.sIx xs.length xs.length hi - HT.sIx xs.length 0 lo)
theorem gH (xs:List V) (lo hi:Option Int):(fw xs lo hi).length<=xs.length:=by
 unfold fw
 rw [List.length_take,List.length_drop]
 lia
noncomputable def Co (K:Frag):V->Option Int->Option Int->Hp->VK->Prop:=fun x lo hi H Q => ∃ a xs,x = .ref a/\SqT K H a xs /\
 ¬ (HT.sIx xs.length 0 lo=0/\HT.sIx xs.length xs.length hi=xs.length) /\ ∀ p,H p=none->Q (.ref p) (upd H p (.tup (fw xs lo hi)))
theorem sl_tup:SlR X (Co X.K):=by
 intro pins s σ H x v vl vu lo hi sl Q I rx hs pl pu h
 obtain ⟨a,xs,rfl,hx,hw,q⟩:=h
 cases rx
 obtain ⟨its,r,j,n⟩:=I.tuple hx
 have hlen:its.toArray.size=xs.length:=by rw [List.size_toArray];exact r.length.symm
 refine ⟨"tuple",_,PyProof.Rows.slot_tuple_getitem.lookup,j.typeIs, ?_⟩
 refine HT.getItem_tuple_cut j hs pl pu (by rw [hlen];exact hw) ?_ (by rw [hlen];exact n)
 rw [hlen]
 refine ⟨.ref s.heap.objs.size,_,I.laid (t':=s.toks) (o := .tup (fw xs lo hi)) (fun b ob q=>Heap.get?_push_of_some _ q) (Nat.le_refl _) ?_,rfl,q _ (I.hok.fresh (Nat.le_refl _))⟩
 exact ⟨Nat.le_trans (gH xs lo hi) n,_,(r.drop (HT.sIx xs.length 0 lo)).take (HT.sIx xs.length xs.length hi - HT.sIx xs.length 0 lo),IsTup.new _ _⟩
noncomputable def wU (K:Frag):R2:=fun x y H Q => ∃ a b xs ys,x = .ref a/\y = .ref b/\SqT K H a xs/\SqT K H b ys/\xs≠[]/\xs.length+ys.length<=sizeLine /\
 (ys=[]->Q (.ref a) H)/\(ys≠[] -> ∀ p,H p=none->Q (.ref p) (upd H p (.tup (xs++ys))))
theorem Vals.nil_iff {xs:List V} {us:List Value} (r:Vals xs us):us=[]↔xs=[]:=by
 cases r with
 | nil=>simp
 | cons _ _=>simp
theorem op_catT:OpR X (binaryOp .Add) (wU X.K):=by
 intro pins s σ H x y v u Q I rx ry h
 obtain ⟨a,b,xs,ys,rfl,rfl,G,J,hx,B,L,O⟩:=h
 cases rx
 cases ry
 obtain ⟨its,n,R,_⟩:=I.tuple G
 obtain ⟨F,j,p2,_⟩:=I.tuple J
 refine HT.cat_tup R p2 (fun z=>hx (n.nil_iff.mp z)) (fun z=>⟨.ref a,H,I,rfl,L (j.nil_iff.mp z)⟩) (fun z => ?_) (by rw [<- n.length, <- j.length];exact B)
 refine ⟨.ref s.heap.objs.size,_,I.laid (t':=s.toks) (o := .tup (xs++ys)) (fun b ob q=>Heap.get?_push_of_some _ q) (Nat.le_refl _) ?_,rfl,O (fun w=>z (j.nil_iff.mpr w)) _ (I.hok.fresh (Nat.le_refl _))⟩
 exact ⟨by rw [List.length_append];exact B,_,n.append j,IsTup.new _ _⟩
end
end
section
noncomputable def ixN (n:Nat) (i:Int):Option Nat:=if 0<=i then (if i < n then some i.toNat else none) else if -(n:Int)<=i then some (i+n).toNat else none
noncomputable def atI {α:Type} (xs:List α) (i:Int):Option α := (ixN xs.length i).bind fun j=>xs[j]?
theorem oD {n:Nat} {i:Int} {j:Nat} (h:ixN n i=some j):seqIndex? i n=some j/\j < n /\ -(n:Int)<=i/\i < n:=by
 unfold ixN at h
 by_cases h0 : 0<=i
 ·rw [if_pos h0] at h
  by_cases h1:i < n
  ·rw [if_pos h1] at h
   have e:i.toNat=j:=Option.some.inj h
   exact ⟨by rw [seqIndex_of h0 h1,e],by lia,by lia,h1⟩
  ·rw [if_neg h1] at h;cases h
 ·rw [if_neg h0] at h
  by_cases h1 : -(n:Int)<=i
  ·rw [if_pos h1] at h
   have e:(i+n).toNat=j:=Option.some.inj h
   exact ⟨by rw [seqIndex_neg (by lia) h1,e],by lia,h1,by lia⟩
  ·rw [if_neg h1] at h;cases h
theorem jh {α:Type} {xs:List α} {i:Int} {v : α} (h:atI xs i=some v):∃ j,seqIndex? i xs.length=some j/\xs[j]? = some v/\j < xs.length /\ -(xs.length:Int)<=i/\i < xs.length:=by
 unfold atI at h
 cases e:ixN xs.length i with
 | none=>rw [e] at h;cases h
 | some j =>
   rw [e] at h
   obtain ⟨h1,h2,n,q⟩:=oD e
   exact ⟨j,h1,h,h2,n,q⟩
noncomputable def ji (b:Expr):Prop := ∀ o i,subscripted b false o i=operate [o,i] (getItem o i)
noncomputable def IxR (X:Cx) (r:R2):Prop :=
 ∀ (value slice:Expr) (pins:List (Addr×Obj)) (s:Shared) (σ:St) (H:Hp) (x y:V) (v u:Value) (Q:VK),Inv X pins σ H s->RelV x v->RelV y u->r x y H Q ->
  subscripted slice false v u=operate [v,u] (getItem v u)->wpAny (model X.prog X.w) X.A (subscriptTail value slice v u) (EP X pins σ Q) X.xe s
noncomputable def MtR (X:Cx) (id:String) (r:V->List V->Hp->VK->Prop):Prop :=
 ∀ (pins:List (Addr×Obj)) (s:Shared) (σ:St) (H:Hp) (x:V) (xs:List V) (v:Value) (us:List Value) (Q:VK),Inv X pins σ H s->RelV x v->Vals xs us->r x xs H Q ->
  wpAny (model X.prog X.w) X.A (call (.builtin id) (v::us)) (EP X pins σ Q) X.xe s
section
variable {X:Cx} {a b:Expr} {ta tb:TE} {pos:Pos}
theorem IxR.or {r r':R2} (h:IxR X r) (h':IxR X r'):IxR X (fun x y H Q=>r x y H Q∨r' x y H Q):=by
 intro value slice pins s σ H x y v u Q I rx ry q hs
 rcases q with q | q
 ·exact h value slice pins s σ H x y v u Q I rx ry q hs
 ·exact h' value slice pins s σ H x y v u Q I rx ry q hs
theorem BA {r:R2} (j:IxR X r) (n:PE X a ta) (z:PE X b tb) (hs:ji b):PE X (.Subscript a b pos) (tOp r ta tb):=by
 intro pins s σ H Q I h
 exact Subscript_ (uA n z I h fun v u s2 x y H2 B rx ry q=>j a b pins s2 σ H2 x y v u Q B rx ry q (hs _ _))
noncomputable def Cp (K:Frag):R2:=fun x y H Q => ∃ p xs i v,x = .ref p/\y = .int i/\SqL K H p xs/\atI xs i=some v/\Q v H
noncomputable def Cq (K:Frag):R2:=fun x y H Q => ∃ p xs i v,x = .ref p/\y = .int i/\SqT K H p xs/\atI xs i=some v/\Q v H
theorem ix_list:IxR X (Cp X.K):=by
 intro value slice pins s σ H x y v u Q I rx ry h hs
 obtain ⟨p,xs,i,z,rfl,rfl,B,he,q⟩:=h
 cases rx
 obtain ⟨t,rfl⟩:=ry
 obtain ⟨its,r,pl,L⟩:=I.list B
 obtain ⟨j,h1,h2,O,F,G⟩:=jh he
 obtain ⟨w,ew,rw'⟩:=r.get h2
 have J:=r.length
 have R:=dX
 have fin:EP X pins σ Q w s:=⟨z,H,I,rw',q⟩
 by_cases h0 : 0<=i
 ·have n:i.toNat=j:=by
   rw [seqIndex_of h0 G] at h1
   exact Option.some.inj h1
  exact item_listR pl.isList h0 (by lia) (by rw [n];simpa using ew) fin hs
 ·have n:(i+(its.toArray.size:Int)).toNat=j:=by
   rw [seqIndex_neg (by lia) F] at h1
   rw [List.size_toArray, <- J]
   exact Option.some.inj h1
  exact subscriptTail_builtinR (x:=w) pl.isList.typeIs slot_list_getitem.lookup
   (wpAny_getItem_list_neg (Q:=fun r s'=>r=w/\EP X pins σ Q r s') pl.isList (by lia) (by rw [List.size_toArray] <;> lia) (by lia) (by rw [n];simpa using ew) ⟨rfl,fin⟩) hs
theorem ix_tup:IxR X (Cq X.K):=by
 intro value slice pins s σ H x y v u Q I rx ry h hs
 obtain ⟨p,xs,i,z,rfl,rfl,n,he,q⟩:=h
 cases rx
 obtain ⟨t,rfl⟩:=ry
 obtain ⟨its,r,pl,F⟩:=I.tuple n
 obtain ⟨j,h1,h2,G,J,L⟩:=jh he
 obtain ⟨w,ew,rw'⟩:=r.get h2
 have B:=r.length
 have O:=dX
 have fin:EP X pins σ Q w s:=⟨z,H,I,rw',q⟩
 exact subscriptTail_builtinR (x:=w) pl.typeIs slot_tuple_getitem.lookup
  (getItem_tuple (j:=j) (Q:=fun r s'=>r=w/\EP X pins σ Q r s') pl (by lia) (by lia) (by rw [List.size_toArray, <- B];exact h1) (by simpa using ew) ⟨rfl,fin⟩) hs
theorem qa (its:List Value) (n j:Nat) (u:Value):Obj.mapSeq (·.setIfInBounds j u) { cls := .type "list",data := .seq its.toArray n } = { cls := .type "list",data := .seq (its.set j u).toArray n }:=by
 simp [Obj.mapSeq]
theorem Inv.lst {pins:List (Addr×Obj)} {σ:St} {H:Hp} {s:Shared} {p:Addr} {xs:List V} (I:Inv X pins σ H s) (h:H p=some (.lst xs)) :
 ∃ (its:List Value) (n:Nat),Vals xs its/\s.heap.get? p=some { cls := .type "list",data := .seq its.toArray n }/\xs.length<=sizeLine:=by
 obtain ⟨z,its,n,r,e⟩:=I.hok p _ h
 exact ⟨its,n,r,e,z⟩
theorem Inv.lstUpd {pins:List (Addr×Obj)} {σ:St} {H:Hp} {s:Shared} {p:Addr} {xs ys:List V} {its its':List Value} {n n':Nat} {f:Obj->Obj} (I:Inv X pins σ H s) (h:H p=some (.lst xs))
 (ho:s.heap.get? p=some { cls := .type "list",data := .seq its.toArray n }) (hf:f { cls := .type "list",data := .seq its.toArray n } = { cls := .type "list",data := .seq its'.toArray n' }) (r:Vals ys its') (j:ys.length<=sizeLine) (t:Nat) :
 Inv X pins σ (upd H p (.lst ys)) { s with heap:=s.heap.update p f,toks:=t }:=by
 have e:(s.heap.update p f).get? p=some { cls := .type "list",data := .seq its'.toArray n' }:=by
  rw [Heap.get?_update_self f ho (by rw [hf] <;> rfl),hf]
 refine I.write (x:=p) (e:=p) (by rw [h];trivial) (.inl rfl) (fun b u z q=>(Heap.get?_update_other _ _ (Ne.symm z)).trans q) ⟨_,e⟩ ?_
 exact ⟨j,its',n',r,e⟩
noncomputable def wV:V->V->V->Hp->(Hp->Prop)->Prop:=fun o i v H Q => ∃ p xs k j,o = .ref p/\i = .int k/\H p=some (.lst xs)/\ixN xs.length k=some j/\Q (upd H p (.lst (xs.set j v)))
theorem lg:PSet X wV:=by
 intro pins s σ H o i v ov iv u Q I ro ri rv h
 obtain ⟨p,xs,k,j,rfl,rfl,F,L,q⟩:=h
 cases ro
 obtain ⟨t,rfl⟩:=ri
 obtain ⟨its,n,r,ho,O⟩:=I.lst F
 obtain ⟨h1,h2,G,J⟩:=oD L
 have z:=r.length
 have R:=dX
 have I':Inv X pins σ (upd H p (.lst (xs.set j v))) { s with heap:=s.heap.update p (Obj.mapSeq (·.setIfInBounds j u)) } :=
  I.lstUpd F ho (qa its n j u) (r.set rv j) (by rw [List.length_set];exact O) s.toks
 by_cases h0 : 0<=k
 ·have B:k.toNat=j:=by
   rw [seqIndex_of h0 J] at h1
   exact Option.some.inj h1
  exact PySem.W.ki_setAt ho h0 (by lia) (by rw [List.size_toArray, <- z];exact J) (by rw [B];exact ⟨_,I',q⟩)
 ·have B:(k+(its.toArray.size:Int)).toNat=j:=by
   rw [seqIndex_neg (by lia) G] at h1
   rw [List.size_toArray, <- z]
   exact Option.some.inj h1
  exact PySem.W.ki_setBack ho (by lia) (by rw [List.size_toArray, <- z];exact G) (by lia) (by rw [B];exact ⟨_,I',q⟩)
theorem lh (lo hi:Option Int) (n:Nat):(sliceBounds lo hi none n).1=((HT.sIx n 0 lo:Nat):Int)/\(sliceBounds lo hi none n).2.1=((HT.sIx n n hi:Nat):Int)/\(sliceBounds lo hi none n).2.2=1:=by
 refine ⟨?_, ?_,rfl⟩
 ·cases lo with
  | none=>simp [sliceBounds,HT.sIx]
  | some i =>
    simp only [sliceBounds,HT.sIx,Option.getD_none,show (1:Int) > 0 by decide,if_true]
    by_cases h:i < 0
    ·simp only [h,if_true] <;> lia
    ·simp only [h,if_false] <;> lia
 ·cases hi with
  | none=>simp [sliceBounds,HT.sIx]
  | some i =>
    simp only [sliceBounds,HT.sIx,Option.getD_none,show (1:Int) > 0 by decide,if_true]
    by_cases h:i < 0
    ·simp only [h,if_true] <;> lia
    ·simp only [h,if_false] <;> lia
theorem kH (its:List Value) (lo hi:Option Int):slicePick its.toArray lo hi none=((its.drop (HT.sIx its.length 0 lo)).take (HT.sIx its.length its.length hi - HT.sIx its.length 0 lo)).toArray:=by
 obtain ⟨h1,h2,j⟩:=lh lo hi its.toArray.size
 unfold slicePick
 rw [h1,h2,j]
 simp only [sliceRange_one,pick_run,List.size_toArray] <;> rfl
noncomputable def Cr (K:Frag):V->Option Int->Option Int->Hp->VK->Prop:=fun x lo hi H Q => ∃ a xs,x = .ref a/\SqL K H a xs /\ ∀ p,H p=none->Q (.ref p) (upd H p (.lst (fw xs lo hi)))
theorem sl_list:SlR X (Cr X.K):=by
 intro pins s σ H x v vl vu lo hi sl Q I rx hs pl pu h
 obtain ⟨a,xs,rfl,hx,q⟩:=h
 cases rx
 obtain ⟨its,r,j,n⟩:=I.list hx
 have hlen:=r.length
 refine ⟨"list",_,slot_list_getitem.lookup,j.isList.typeIs, ?_⟩
 refine wpAny_getItem_list_slice j.isList hs pl pu .none (by simp) ?_ (by rw [List.size_toArray] <;> lia)
 rw [kH, <- hlen]
 refine ⟨.ref s.heap.objs.size,_,I.laid (t':=s.toks) (o := .lst (fw xs lo hi)) (fun b ob q=>Heap.get?_push_of_some _ q) (Nat.le_refl _) ?_,rfl,q _ (I.hok.fresh (Nat.le_refl _))⟩
 exact ⟨Nat.le_trans (gH xs lo hi) n,_,0,(r.drop (HT.sIx xs.length 0 lo)).take (HT.sIx xs.length xs.length hi - HT.sIx xs.length 0 lo),Heap.get?_push_size _ rfl⟩
noncomputable def cS:V->Bool
 | .non=>true
 | .bl _=>true
 | .int _=>true
 | .str _=>true
 | _=>false
noncomputable def eqV:V->V->Bool
 | .non, .non=>true
 | .bl a, .bl b=>a==b
 | .bl a, .int b=>(if a then 1 else 0)==b
 | .int a, .bl b=>a==(if b then 1 else 0)
 | .int a, .int b=>a==b
 | .str a, .str b=>a==b
 | _,_=>false
theorem Aa {A:Around} {s:Shared} {y x:V} {u v:Value} (ry:RelV y u) (rx:RelV x v) (fy:cS y=true) (fx:cS x=true):SeqAt.EqAt A s u v (eqV y x):=by
 cases y with
 | non =>
   cases ry
   cases x with
   | non=>cases rx;exact SeqAt.EqAt.same _
   | bl b=>cases rx;exact SeqAt.EqAt.none_bool b
   | int b=>obtain ⟨t,rfl⟩:=rx;exact SeqAt.EqAt.none_int b t
   | str b=>obtain ⟨t,rfl⟩:=rx;exact SeqAt.EqAt.none_str b t
   | _=>exact absurd (show false=true from fx) Bool.false_ne_true
 | bl a =>
   cases ry
   cases x with
   | non=>cases rx;exact SeqAt.EqAt.bool_none a
   | bl b=>cases rx;exact SeqAt.EqAt.bool_bool a b
   | int b=>obtain ⟨t,rfl⟩:=rx;exact SeqAt.EqAt.bool_int a b t
   | str b=>obtain ⟨t,rfl⟩:=rx;exact SeqAt.EqAt.bool_str a b t
   | _=>exact absurd (show false=true from fx) Bool.false_ne_true
 | int a =>
   obtain ⟨t',rfl⟩:=ry
   cases x with
   | non=>cases rx;exact SeqAt.EqAt.int_none a t'
   | bl b=>cases rx;exact SeqAt.EqAt.int_bool a t' b
   | int b=>obtain ⟨t,rfl⟩:=rx;exact SeqAt.EqAt.int_int a t' b t
   | str b=>obtain ⟨t,rfl⟩:=rx;exact SeqAt.EqAt.int_str a t' b t
   | _=>exact absurd (show false=true from fx) Bool.false_ne_true
 | str a =>
   obtain ⟨t',rfl⟩:=ry
   cases x with
   | non=>cases rx;exact SeqAt.EqAt.str_none a t'
   | bl b=>cases rx;exact SeqAt.EqAt.str_bool a t' b
   | int b=>obtain ⟨t,rfl⟩:=rx;exact SeqAt.EqAt.str_int a t' b t
   | str b=>obtain ⟨t,rfl⟩:=rx;exact SeqAt.EqAt.str_str a t' b t
   | _=>exact absurd (show false=true from fx) Bool.false_ne_true
 | _=>exact absurd (show false=true from fy) Bool.false_ne_true
noncomputable def eqU (x:V) (u:Value):Bool:=match u with
 | .none=>eqV .non x
 | .bool b=>eqV (.bl b) x
 | .int i _=>eqV (.int i) x
 | .str z _=>eqV (.str z) x
 | _=>false
theorem rG {x y:V} {u:Value} (r:RelV y u) (f:cS y=true):eqU x u=eqV y x:=by
 cases y with
 | non=>cases r;rfl
 | bl b=>cases r;rfl
 | int i=>obtain ⟨t,rfl⟩:=r;rfl
 | str z=>obtain ⟨t,rfl⟩:=r;rfl
 | _=>exact absurd (show false=true from f) Bool.false_ne_true
theorem jj {x:V}:∀ {xs:List V} {us:List Value},Vals xs us->xs.all cS=true->us.any (eqU x)=xs.any fun y=>eqV y x
 | _,_, .nil,_=>rfl
 | y::xs,u::us, .cons r t,f=>by
   rw [List.all_cons,Bool.and_eq_true] at f
   rw [List.any_cons,List.any_cons,rG r f.1,jj t f.2]
theorem gQ {A:Around} {s:Shared} {x:V} {v:Value} (rx:RelV x v) (fx:cS x=true):∀ {xs:List V} {us:List Value},Vals xs us->xs.all cS=true -> ∀ u∈us,SeqAt.EqAt A s u v (eqU x u)
 | _,_, .nil,_=>fun u j=>by cases j
 | y::xs,u::us, .cons r t,f=>fun u' j=>by
   rw [List.all_cons,Bool.and_eq_true] at f
   rcases List.mem_cons.mp j with rfl | j
   ·rw [rG r f.1];exact Aa r rx f.1 fx
   ·exact gQ rx fx t f.2 u' j
noncomputable def inV (x:V) (xs:List V):Bool:=xs.any fun y=>eqV y x
noncomputable def rIn (K:Frag) (neg:Bool):R2:=fun x y H Q => ∃ p xs,y = .ref p/\(SqL K H p xs∨SqT K H p xs)/\cS x=true/\xs.all cS=true/\Q (.bl (if neg then !inV x xs else inV x xs)) H
theorem rH:OpR X (compareOp .In) (rIn X.K false):=by
 intro pins s σ H x y v u Q I rx ry h
 obtain ⟨p,xs,rfl,j,fx,fs,q⟩:=h
 cases ry
 rcases j with j | j
 ·obtain ⟨its,r,pl,n⟩:=I.list j
  refine SeqAt.in_listAt (eqU x) pl.isList (fun w hw=>gQ rx fx r fs w (by simpa using hw)) ⟨.bl _,H,I,rfl, ?_⟩
  rw [show its.toArray.any (eqU x)=its.any (eqU x) by simp,jj r fs]
  exact q
 ·obtain ⟨its,r,pl,n⟩:=I.tuple j
  refine SeqAt.in_tupleAt (eqU x) pl (fun w hw=>gQ rx fx r fs w (by simpa using hw)) ⟨.bl _,H,I,rfl, ?_⟩
  rw [show its.toArray.any (eqU x)=its.any (eqU x) by simp,jj r fs]
  exact q
theorem lj:CallR X (.type "list") (fun xs H Q => ∃ p ys,xs=[.ref p]/\(SqL X.K H p ys∨SqT X.K H p ys) /\ ∀ l,H l=none->Q (.ref l) (upd H l (.lst ys))):=by
 intro pins s σ H xs us Q I r h
 obtain ⟨p,ys,rfl,j,q⟩:=h
 obtain ⟨u,rfl,rx⟩:=dG r
 cases rx
 have fin:∀ (its:List Value),Vals ys its->ys.length<=sizeLine -> ∀ (h':Heap) (c':Nat),(∀ b o',s.heap.get? b=some o'->h'.get? b=some o') ->
  h'.get? s.heap.objs.size=some { cls := .type "list",dict:=none,data := .seq its.toArray c',slots := #[] }->EP X pins σ Q (.ref s.heap.objs.size) { s with heap:=h' }:=fun its r' z h' c' kp e =>
  ⟨.ref s.heap.objs.size,_,I.laid (t':=s.toks) kp (Nat.le_refl _) (show ObjOk X.prog X.w _ h' _ (.lst ys) from ⟨z,its,c',r',e⟩),rfl,q _ (I.hok.fresh (Nat.le_refl _))⟩
 rcases j with j | j
 ·obtain ⟨its,r',pl,z⟩:=I.list j
  have hlen:=r'.length
  obtain ⟨o,ho,B,n,hd⟩:=pl.isList
  exact call_list_seq p (.inl rfl) ho B hd (fun h' c' kp e=>fin its r' z h' c' kp e) (by simp only [List.size_toArray] <;> lia)
 ·obtain ⟨its,r',pl,z⟩:=I.tuple j
  have hlen:=r'.length
  obtain ⟨o,ho,B,n,hd⟩:=pl
  exact call_list_seq p (.inr rfl) ho B hd (fun h' c' kp e=>fin its r' z h' c' kp e) (by simp only [List.size_toArray] <;> lia)
theorem kI:CallR X (.type "tuple") (fun xs H Q => ∃ p ys,xs=[.ref p]/\((SqL X.K H p ys /\ ∀ l,H l=none->Q (.ref l) (upd H l (.tup ys)))∨(SqT X.K H p ys/\Q (.ref p) H))):=by
 intro pins s σ H xs us Q I r h
 obtain ⟨p,ys,rfl,h⟩:=h
 obtain ⟨u,rfl,rx⟩:=dG r
 cases rx
 rcases h with ⟨j,q⟩ | ⟨j,q⟩
 ·obtain ⟨its,r',pl,n⟩:=I.list j
  have hlen:=r'.length
  refine call_tuple_list pl.isList (fun h' kp => ?_) (by simp only [List.size_toArray] <;> lia)
  have z:Inv X pins σ H { s with heap:=h' }:=I.kept (t':=s.toks) kp
  have B:Inv X pins σ (upd H h'.objs.size (.tup ys)) { s with heap:=h'.push { cls := .type "tuple",data := .seq its.toArray } } :=
   z.laid (t':=s.toks) (fun b o e=>Heap.get?_push_of_some _ e) (Nat.le_refl _) (show ObjOk X.prog X.w _ _ _ (.tup ys) from ⟨n,its,r',IsTup.new _ _⟩)
  exact ⟨.ref h'.objs.size,_,B,rfl,q _ (z.hok.fresh (Nat.le_refl _))⟩
 ·obtain ⟨its,r',pl,n⟩:=I.tuple j
  exact call_tuple_same pl ⟨.ref p,H,I,rfl,q⟩
noncomputable def tyV (K:Frag) (T:String) (x:V) (H:Hp):Prop:=match x with
 | .str _=>T = "str"
 | .int _=>T = "int"
 | .ref p=>(T = "list" /\ ∃ xs,SqL K H p xs)∨(T = "tuple" /\ ∃ o,K.lookup p=some o/\o.cls = .type "tuple" /\ o.dict=none) ∨
  (T = "dict" /\ ((∃ kvs,H p=some (.dK kvs)) ∨ ∃ kvs,H p=some (.dT kvs)))∨(T = "set" /\ ∃ S n,H p=some (.set S n))
 | _=>False
theorem rJ {pins:List (Addr×Obj)} {σ:St} {H:Hp} {s:Shared} {T:String} {x:V} {v:Value} (I:Inv X pins σ H s) (r:RelV x v) (ty:tyV X.K T x H) :
 s.TypeIs v T /\ ∀ a,v = .ref a -> ∃ ob,s.heap.get? a=some ob/\ob.dict=none:=by
 cases x with
 | str z =>
   obtain ⟨t,rfl⟩:=r
   cases (show T = "str" from ty)
   exact ⟨typeIs_str s z t,fun _ e=>nomatch e⟩
 | int i =>
   obtain ⟨t,rfl⟩:=r
   cases (show T = "int" from ty)
   exact ⟨typeIs_int s i t,fun _ e=>nomatch e⟩
 | ref p =>
   cases r
   rcases ty with ⟨rfl,xs,q⟩ | ⟨rfl,o,j,B,hd⟩ | ⟨rfl,j⟩ | ⟨rfl,S,n,j⟩
   ·obtain ⟨its,_,pl,_⟩:=I.list q
    refine ⟨pl.isList.typeIs,fun a e => ?_⟩
    cases e
    obtain ⟨o,n,e,c,hd,_⟩:=pl
    exact ⟨o,e,hd⟩
   ·refine ⟨⟨o,I.kIn p o j,B⟩,fun a e => ?_⟩
    cases e
    exact ⟨o,I.kIn _ o j,hd⟩
   ·have z:∃ o,s.heap.get? p=some o/\o.ExactDict:=by
     rcases j with ⟨kvs,j⟩ | ⟨kvs,j⟩
     ·obtain ⟨_,_,_,_,o,_,_,e,ex,_⟩:=I.hok p _ j
      exact ⟨o,e,ex⟩
     ·obtain ⟨_,_,_,_,o,_,_,e,ex,_⟩:=I.hok p _ j
      exact ⟨o,e,ex⟩
    obtain ⟨o,e,ex⟩:=z
    refine ⟨⟨o,e,ex.1⟩,fun a e2 => ?_⟩
    cases e2
    exact ⟨o,e,ex.2.1⟩
   ·obtain ⟨o,_,_,_,e,ex,_⟩:=I.hok p _ j
    refine ⟨⟨o,e,ex.1⟩,fun a e2 => ?_⟩
    cases e2
    exact ⟨o,e,ex.2.1⟩
 | _=>exact False.elim ty
noncomputable def Ab (K:Frag) (T:String) (r:V->List V->Hp->VK->Prop) (to:TE):TE:=fun σ H Q=>to σ H fun x H1=>tyV K T x H1/\r x [] H1 Q
noncomputable def tBM (K:Frag) (T:String) (r:V->List V->Hp->VK->Prop) (to:TE) (t:TA):TE:=fun σ H Q=>to σ H fun x H1=>tyV K T x H1/\t σ H1 fun xs H2=>r x xs H2 Q
variable {o e:Expr} {es:List Expr} {to:TE} {t:TA} {name:Str} {apos cpos:Pos} {T id:String} {r:V->List V->Hp->VK->Prop}
theorem rK (pa:PlainAttrs T) (slot:Slot T name id) (q:typeOf (.builtin id)=pure (.type "method_descriptor")) (hm:MtR X id r) (ho:PE X o to)
 (j:attributeBase o name X.env (eval o X.env)=eval o X.env:=by rfl) (n:(apos.endLine==cpos.line)=true:=by rfl):PE X (.Call (.Attribute o name apos) [] [] cpos) (Ab X.K T r to):=by
 intro pins s σ H Q I h
 refine wpAny_Call_method0_late j n (thn (ho pins s σ H _ I h) fun v s1 ⟨x,H1,z,B,ty,F⟩ => ?_)
 obtain ⟨h1,h2⟩:=rJ z B ty
 exact ⟨T,id,pa,slot,q,h1,h2,Calls.callWith_builtin rfl (PySem.evalArgs_none (hm pins s1 σ H1 x [] v [] Q z B .nil F))⟩
theorem wW (pa:PlainAttrs T) (slot:Slot T name id) (B:typeOf (.builtin id)=pure (.type "method_descriptor")) (hm:MtR X id r) (ho:PE X o to) (L:PA X (e::es) t)
 (n:attributeBase o name X.env (eval o X.env)=eval o X.env:=by rfl)
 (z:((backTo cpos (starEach (e::es) X.env)).all (fun x => !x.1)&&(backToKw cpos (keywordEach [] X.env)).all (fun x=>x.1.isSome)
   && decide ((e::es).length+([]:List Keyword).length+(if ([]:List Keyword).isEmpty then 0 else 1) < 30))=true:=by rfl)
 (q:(apos.endLine==cpos.line)=true:=by rfl) (hs:starEach (e::es) X.env=(false,eval e X.env)::starEach es X.env:=by rfl) (j:(backTo cpos (starEach es X.env)).any (·.1)=false:=by rfl) :
 PE X (.Call (.Attribute o name apos) (e::es) [] cpos) (tBM X.K T r to t):=by
 intro pins s σ H Q I h
 refine wpAny_Call_method_late n z q rfl (thn (ho pins s σ H _ I h) fun v s1 ⟨x,H1,F,G,ty,O⟩ => ?_)
 obtain ⟨h1,h2⟩:=rJ F G ty
 refine ⟨T,id,pa,slot,B,h1,h2, ?_⟩
 have J:=L cpos pins s1 σ H1 _ F O
 rw [hs] at J ⊢
 refine Calls.callWith_builtin (by show (false || (backTo cpos (starEach es X.env)).any (·.1))=false;rw [j] <;> rfl) (Calls.evalArgs_plain ?_)
 exact thn J fun us s2 ⟨vs,H2,R,S,U⟩=>hm pins s2 σ H2 x vs v us Q R G S U
end
end
section
noncomputable def MtM (X:Cx) (id:String) (r:V->List V->Hp->VK->Prop):Prop :=
 ∀ (pins:List (Addr×Obj)) (s:Shared) (σ:St) (H:Hp) (x:V) (xs:List V) (v:Value) (us:List Value) (Q:VK),Inv X pins σ H s->RelV x v->Vals xs us->r x xs H Q ->
  wpAny (model X.prog X.w) X.A (call (.builtin id) (v::us)) (EP X pins σ Q) X.xe s
theorem Vals.one:∀ {x:V} {us:List Value},Vals [x] us -> ∃ u,us=[u]/\RelV x u
 | _,_, .cons r .nil=>⟨_,rfl,r⟩
theorem Vals.zero:∀ {us:List Value},Vals [] us->us=[]
 | _, .nil=>rfl
theorem Vals.reverse {xs:List V} {us:List Value} (h:Vals xs us):Vals xs.reverse us.reverse:=by
 induction h with
 | nil=>exact .nil
 | cons r t ih=>rw [List.reverse_cons,List.reverse_cons];exact Vals.append ih (.cons r .nil)
theorem Vals.rep {xs:List V} {us:List Value} (h:Vals xs us):∀ k:Nat,Vals (List.replicate k xs).flatten (List.replicate k us).flatten
 | 0 => .nil
 | k+1=>by
   rw [List.replicate_succ,List.replicate_succ,List.flatten_cons,List.flatten_cons]
   exact Vals.append h (Vals.rep h k)
theorem fA (its:List Value):∀ (k:Nat) (acc:List Value),
 List.foldl (fun j n=>j++n) acc.toArray (List.replicate k its.toArray)=(acc++(List.replicate k its).flatten).toArray
 | 0,acc=>by simp
 | k+1,acc=>by
   have e:acc.toArray++its.toArray=(acc++its).toArray:=by simp
   have e2:(acc++its)++(List.replicate k its).flatten=acc++(List.replicate (k+1) its).flatten:=by
    rw [List.replicate_succ,List.flatten_cons,List.append_assoc]
   rw [<- e2, <- fA its k (acc++its), <- e,List.replicate_succ,List.foldl_cons]
section
variable {X:Cx} {pins:List (Addr×Obj)} {σ:St} {H:Hp} {s:Shared} {l b:Addr} {xs ys zs:List V}
theorem Inv.lset {its its':List Value} {n:Nat} {f:Array Value->Array Value} {t':Nat} (I:Inv X pins σ H s) (j:H l=some (.lst xs))
 (e:s.heap.get? l=some { cls := .type "list",data := .seq its.toArray n }) (hf:f its.toArray=its'.toArray) (z:Vals ys its') (B:ys.length<=sizeLine) :
 Inv X pins σ (upd H l (.lst ys)) { s with heap:=s.heap.update l (Obj.mapSeq f),toks:=t' }:=by
 have q:=PySem.IsL.update e f
 rw [hf] at q
 refine I.write (x:=l) (e:=l) (by rw [j];exact trivial) (.inl rfl) (fun b' u F G=>(Heap.get?_update_other s.heap (Obj.mapSeq f) (Ne.symm F)).trans G) ⟨_,q⟩ ?_
 exact ⟨B,its',_,z,q⟩
theorem Inv.lnew {its:List Value} {t':Nat} (I:Inv X pins σ H s) (j:Vals ys its) (n:ys.length<=sizeLine) :
 Inv X pins σ (upd H s.heap.objs.size (.lst ys)) { s with heap:=s.heap.push { cls := .type "list",data := .seq its.toArray },toks:=t' } :=
 I.laid (fun _ _ q=>Heap.get?_push_of_some _ q) (Nat.le_refl _) ⟨n,its,0,j,Heap.get?_push_size _ rfl⟩
theorem Inv.fresh (I:Inv X pins σ H s):H s.heap.objs.size=none:=I.hok.fresh (Nat.le_refl _)
theorem Inv.lstM (I:Inv X pins σ H s) (j:H l=some (.lst xs)):xs.length<=sizeLine /\ ∃ (its:List Value) (n:Nat),Vals xs its/\xs.length=its.length/\s.heap.get? l=some { cls := .type "list",data := .seq its.toArray n }:=by
 obtain ⟨z,its,n,r,e⟩:=I.hok l _ j
 exact ⟨z,its,n,r,r.length,e⟩
theorem uJ {n:Nat} (h:n<=sizeLine):Builtin.List.listTooLong n=false:=by
 unfold Builtin.List.listTooLong
 exact decide_eq_false (by lia)
end
section
variable {X:Cx}
noncomputable def oE:V->List V->Hp->VK->Prop:=fun x vs H Q => ∃ l xs y,x = .ref l/\vs=[y]/\H l=some (.lst xs)/\xs.length < sizeLine/\Q .non (upd H l (.lst (xs++[y])))
theorem jT:MtM X "list.append" oE:=by
 intro pins s σ H x vs v us Q I rx rv h
 obtain ⟨l,xs,y,rfl,rfl,j,B,q⟩:=h
 cases rx
 obtain ⟨u,rfl,ru⟩:=rv.one
 obtain ⟨z,its,n,r,G,e⟩:=I.lstM j
 refine call_meets F.slot_list_append ⟨_,e,rfl⟩ F.entry_list_append (F.args_list_append_2 _ _) (PySem.list_append l its.toArray n u (by rw [List.size_toArray];lia)) ⟨e, ?_⟩
 refine ⟨.non,_,I.lset (its':=its++[u]) j e (by simp) (r.append (.cons ru .nil)) ?_,rfl,q⟩
 rw [List.length_append,List.length_singleton]
 lia
noncomputable def ll:V->List V->Hp->VK->Prop:=fun x vs H Q => ∃ l xs,x = .ref l/\vs=[]/\H l=some (.lst xs)/\Q .non (upd H l (.lst xs.reverse))
theorem qb:MtM X "list.reverse" ll:=by
 intro pins s σ H x vs v us Q I rx rv h
 obtain ⟨l,xs,rfl,rfl,B,q⟩:=h
 cases rx
 have j:=rv.zero
 subst j
 obtain ⟨z,its,n,r,G,e⟩:=I.lstM B
 refine call_meets F.slot_list_reverse ⟨_,e,rfl⟩ F.entry_list_reverse (F.args_list_reverse_1 _) (AutoSeq1.list_reverse_list_0 l its.toArray n (by rw [List.size_toArray];lia)) ⟨e, ?_⟩
 refine ⟨.non,_,I.lset (its':=its.reverse) B e (by simp) r.reverse ?_,rfl,q⟩
 rw [List.length_reverse]
 lia
noncomputable def rL:V->List V->Hp->VK->Prop:=fun x vs H Q => ∃ l xs,x = .ref l/\vs=[]/\H l=some (.lst xs)/\Q .non (upd H l (.lst []))
theorem uK:MtM X "list.clear" rL:=by
 intro pins s σ H x vs v us Q I rx rv h
 obtain ⟨l,xs,rfl,rfl,B,q⟩:=h
 cases rx
 have j:=rv.zero
 subst j
 obtain ⟨z,its,n,r,G,e⟩:=I.lstM B
 refine call_meets F.slot_list_clear ⟨_,e,rfl⟩ F.entry_list_clear (F.args_list_clear_1 _) (AutoSeq1.list_clear_list_0 l its.toArray n (by rw [List.size_toArray];lia)) ⟨e, ?_⟩
 exact ⟨.non,_,I.lset (its' := []) (ys := []) B e rfl .nil (Nat.zero_le _),rfl,q⟩
noncomputable def Ct:R2:=fun x y H Q => ∃ l b xs zs,x = .ref l/\y = .ref b/\H l=some (.lst xs)/\H b=some (.lst zs)/\xs.length+zs.length<=sizeLine /\ ∀ p,H p=none->Q (.ref p) (upd H p (.lst (xs++zs)))
theorem op_cat:OpR X (binaryOp .Add) Ct:=by
 intro pins s σ H x y v u Q I rx ry h
 obtain ⟨l,b,xs,zs,rfl,rfl,B,F,L,q⟩:=h
 cases rx
 cases ry
 obtain ⟨z,its,n,r,O,e⟩:=I.lstM B
 obtain ⟨R,j,S,G,J,e2⟩:=I.lstM F
 refine PySem.P.add_list e e2 ?_ (by rw [List.size_toArray,List.size_toArray];lia)
 have ea:its.toArray++j.toArray=(its++j).toArray:=by simp
 rw [ea]
 exact ⟨.ref _,_,I.lnew (t':=s.toks) (r.append G) (by rw [List.length_append];lia),rfl,q _ I.fresh⟩
noncomputable def Cu:R2:=fun x y H Q => ∃ l k xs,x = .ref l/\y = .int k/\H l=some (.lst xs) /\ -(2 ^ 63)<=k/\k < 2 ^ 63/\xs.length*k.toNat<=sizeLine /\
 ∀ p,H p=none->Q (.ref p) (upd H p (.lst (List.replicate k.toNat xs).flatten))
theorem oF {α:Type} (xs:List α) (k:Nat):(List.replicate k xs).flatten.length=k*xs.length:=by
 induction k with
 | zero=>simp
 | succ k ih=>rw [List.replicate_succ,List.flatten_cons,List.length_append,ih,Nat.succ_mul,Nat.add_comm]
theorem op_rep:OpR X (binaryOp .Mult) Cu:=by
 intro pins s σ H x y v u Q I rx ry h
 obtain ⟨l,k,xs,rfl,rfl,S,h1,h2,R,q⟩:=h
 cases rx
 obtain ⟨t,rfl⟩:=ry
 obtain ⟨z,its,n,r,Y,e⟩:=I.lstM S
 have hlen:its.toArray.size*k.toNat<=sizeLine:=by rw [List.size_toArray, <- Y];exact R
 have B : ¬ its.toArray.size*k.toNat > (2 ^ 63 - 1) / 8:=by
  have:(sizeLine:Nat)<=(2 ^ 63 - 1) / 8:=by decide
  lia
 have G : ¬ (!Builtin.List.listFitsIndex k)=true:=by
  rw [fitsIndex_both h1 h2]
  exact Bool.false_ne_true
 have j : ¬ Builtin.List.listTooLong (its.toArray.size*k.toNat)=true:=by
  rw [uJ hlen]
  exact Bool.false_ne_true
 have J:List.foldl (fun L O=>L++O) #[] (List.replicate (if its.toArray.isEmpty=true then 0 else k.toNat) its.toArray)=(List.replicate k.toNat its).flatten.toArray:=by
  have f0:∀ m:Nat,List.foldl (fun L O=>L++O) #[] (List.replicate m its.toArray)=(List.replicate m its).flatten.toArray:=fun m=>by
   have:=fA its m []
   rw [List.nil_append] at this
   exact this
  rw [f0]
  cases its with
  | nil=>simp
  | cons a r'=>rw [if_neg (by simp)]
 refine wpAny_binaryOp_repeat_ref (T := "list") (U := "int") (by decide) ⟨_,e,rfl⟩ (fun s'=>typeIs_int s' k t) noFill_list_mul F.fills_int_mul F.slot_int_rmul repeat_list F.slot_int_index.lookup
  (call_meets F.slot_int_rmul (typeIs_int s k t) F.entry_int_rmul (F.args_int_rmul_2 _ _) (int___rmul___int_list k t l its.toArray n)
    ⟨e,rfl,⟨_,e,rfl⟩,call_meets F.slot_list_mul ⟨_,e,rfl⟩ F.entry_list_mul (F.args_list_mul_2 _ _) (AutoListH.list___mul___list_int_3 l its.toArray n k t G B j) ⟨e, ?_⟩⟩)
 rw [J]
 exact ⟨.ref _,_,I.lnew (t':=s.toks) (r.rep k.toNat) (by rw [oF,Nat.mul_comm];exact R),rfl,q _ I.fresh⟩
end
end
end L2
namespace Att
open PySem PySem.W PySem.Calls PyProof.Rows
theorem ir {P:Params} {h:Heap}:∀ (ns:List Int) (vs:List Value),WellAll P h vs (ns.map WData.int)->IntsAre vs ns:=by
 intro ns
 induction ns with
 | nil =>
   intro vs w
   rw [List.map_nil] at w
   cases w
   exact .nil
 | cons n ns ih =>
   intro vs w
   rw [List.map_cons] at w
   cases w with
   | cons a b =>
     cases a
     exact .cons _ _ (ih _ b)
theorem rM {l:OpenLaw} {n:Nat} (L:l.most=some n) {P:Params} {h:Heap} {args:List WData} {vals:List Value}
 (j:l.row.toRowW.claim.pre args=true) (G:WellAll P h vals args) :
 ∃ a vs ns,vals=[Value.ref a]/\args=[WData.list (ns.map WData.int)]/\h.get? a=some { cls := .type "list",data := .seq vs.toArray }/\IntsAre vs ns/\ns.length<=n:=by
 have I:WShape.hasAll [] args [.list .int]=true:=(pre_splitW j).1
 have J:l.pre.holds [] { args:=args }=true:=(pre_splitW j).2
 obtain ⟨d,r,rfl,h1,h2⟩:=hasAllW_cons I
 obtain rfl:=hasAllW_nil h2
 obtain ⟨xs,rfl,O⟩:=hasW_list h1
 obtain ⟨ns,rfl⟩:=items_int O
 have hlen:ns.length<=n:=by
  unfold OpenLaw.pre at J
  have B:(WTm.not (.lt (.lit (.int (n:Int))) (.len (.arg 0)))).holds [] { args := [.list (ns.map .int)] }=true:=by
   have B:=(holds_andW J).1
   rw [L] at B
   exact B
  have F:=condW_of B (w_not (w_lt w_lit (w_len_list (w_arg rfl))))
  rw [List.length_map] at F
  refine Nat.le_of_not_lt fun q => ?_
  have q':(n:Int) < ((ns.length:Nat):Int):=by lia
  first
   | (rw [decide_eq_true q'] at F;exact absurd F (by decide))
   | (simp at F;lia)
 cases G with
 | cons R S =>
   cases S
   cases R with
   | list ho z=>exact ⟨_,_,ns,rfl,rfl,ho,ir ns _ z,hlen⟩
theorem rN (l:OpenLaw) (args:List WData):l.row.toRowW.claim.post args (.bool true) args=true :=
 postW_of (r:=l.row.toRowW) (X:=(true==true))
  (show WShape.has [] (.bool true) .bool=true by first | rfl | decide | simp [WShape.has,WShape.arms,WShape.armsAll])
  (show (WTm.eq .res (.lit (.bool true))).value [] { args:=args,res:=some (.bool true),after:=args }=some (.bool (true==true)) from w_eq_bool (w_res rfl) w_lit) rfl
theorem attach_call {l:OpenLaw} {n:Nat} {q:Program} {loose:List Str} {XP:(Str->Option Value)->Heap->Prop} {YP:World->Heap->Prop} {d:DefRec}
 (R:l.most=some n) (B:d.params.defaults=[])
 (call:∀ (w:World) (s₀ s₁:Shared) (mg mb:Str->Option Value) (fa:Addr) (o:Obj) (pm cd doc:Value) (a:Addr) (vs:List Value) (ns:List Int),
   Ground q loose [] XP w s₀ mg mb s₁.heap->YP w s₁.heap ->
   s₁.heap.get? fa=some o->o.data = .func (docDef d.name d.params d.body d.scope pm cd doc)->s₁.heap.CodeRec cd d.name->mg d.name=some (.ref fa) ->
   s₁.heap.get? a=some { cls := .type "list",data := .seq vs.toArray }->IntsAre vs ns->ns.length<=n->s₁.gens = #[] ->
   codeAny (model l.prog w) callerA (.call (.ref fa) ⟨[.ref a],[]⟩) (fun r s'=>r = .ok (.ret (.bool true))/\OldK s₁.heap s'.heap/\s'.os=s₁.os/\AllBare s'.gens) s₁) :
 WalkO q loose XP YP l.row.toRowW d [] (fun f vs=>PySem.call f vs):=by
 intro w s₀ s₁ mg mb G Y fa o pm cd doc dV kV ho hd F L I S args vals as j O U J Z
 obtain rfl:dV = .none:=Dflts.none L B
 obtain rfl:kV = .none:=Dflts.noKw L
 obtain ⟨a,vs,ns,rfl,rfl,z,hints,hlen⟩:=rM R j J
 refine enter_call (codeAny_mono (call w s₀ s₁ mg mb fa o pm cd doc a vs ns G Y ho (fd_plain hd) F I z hints hlen S) fun r s' hq => ?_)
 obtain ⟨rfl,h2,h3,h4⟩:=hq
 exact ⟨.inl ⟨.bool true, .bool true,[],rfl,fun _=>rfl, .bool true,rN l _,fun _=>⟨List.Pairwise.nil,fun _ hm=>(nomatch hm)⟩⟩,h2,h3,h4⟩
section
variable {prog:Program} {w:World} {A:Around} {E:Value->Shared->Prop} {s:Shared} {K:Frag}
noncomputable def CB (h:Heap) (L d:Addr):List (Addr×Obj):=(List.range h.objs.size).filterMap fun a=>if a=L∨a=d then none else (h.get? a).map fun o=>(a,o)
end
end Att
namespace L2
open PySem PySem.Spec PyProof.Rows
section
theorem jU:∀ {vs:List Value} {ns:List Int},IntsAre vs ns->Vals (ns.map V.int) vs
 | _,_, .nil => .nil
 | _,_, .cons n t h => .cons ⟨t,rfl⟩ (jU h)
noncomputable def qc (H:Hp):Prop := ∀ b,H b=none ∨ ∃ o xs,H b=some (.frz o (.lst xs))
theorem uL {P:Program} {w:World} {K:Frag} {mg mb:Str->Option Value} {CX:CXT} {k:Nat} {fa a:Addr} {fd:FuncData} {x:Str} {sp:Sp} {s₁:Shared} {vs:List Value} {ns:List Int}
 (KX:K.In s₁.heap) (G:s₁.heap.Ns mainGlobals mg) (j:s₁.heap.Ns builtinsNs mb) (R:∀ x:Str,x ≠ "__name__" -> mb x=bootBuiltins x) (I:s₁.heap.NoLimit) (hg:s₁.gens = #[])
 (O:s₁.heap.get? a=some { cls := .type "list",data := .seq vs.toArray }) (hi:IntsAre vs ns) (Z:ns.length<=sizeLine) (hr:Room k callerA)
 (F:∀ base:Heap,K.In base->base.Ns mainGlobals mg->dv P w K mg base CX k fa fd [x] sp) (B:∀ (s:Shared) (u:Value),BindsTo s fd ⟨[u],[]⟩ [(x,u)])
 (S:∀ H:Hp,qc H->SqL K H a (ns.map V.int)->sp [.ref a] H (fun v _=>v = .bl true) fun _ _ _=>False)
 (U:∀ H e s',CX [] H s₁ (fun _ _ _=>False) e s'->False) :
 codeAny (model P w) callerA (.call (.ref fa) ⟨[.ref a],[]⟩) (fun r s'=>r = .ok (.ret (.bool true))/\OldK s₁.heap s'.heap/\s'.os=s₁.os/\AllBare s'.gens) s₁ := by
 have rv:=jU hi
 have lenV:=hi.length
 have core:∀ H:Hp,qc H->SqL K H a (ns.map V.int)->HOk P w H s₁.heap->(∀ b,H b≠none->b=a)->(H a≠none->K.lookup a=none) ->
  codeAny (model P w) callerA (.call (.ref fa) ⟨[.ref a],[]⟩) (fun r s'=>r = .ok (.ret (.bool true))/\OldK s₁.heap s'.heap/\s'.os=s₁.os/\AllBare s'.gens) s₁ := by
  intro H hO hS hok hA hK
  have base_of:∀ {b:Addr} {o:Obj},s₁.heap.get? b=some o->H b=none->(eI s₁.heap H).get? b=some o:=fun e n=>uo e n
  have noA:∀ {b:Addr} {o:Obj} {es:Array DictEntry} {ep:Nat},s₁.heap.get? b=some o->o.data = .dict es ep->H b=none:=fun {b o es ep} e d=>by
   cases q:H b with
   | none=>rfl
   | some u =>
     have e':b=a:=hA b (by rw [q];simp)
     subst e'
     rw [O] at e;cases e
     have d':Data.seq vs.toArray _=Data.dict es ep:=d
     cases d'
  have nsK:∀ {b:Addr} {m:Str->Option Value},s₁.heap.Ns b m->(eI s₁.heap H).Ns b m:=fun {b m} ⟨o,es,ep,e,d,r⟩=>⟨o,es,ep,base_of e (noA e d),d,r⟩
  have J:K.In (eI s₁.heap H):=fun b o e=>base_of (KX b o e) (by
   cases q:H b with
   | none=>rfl
   | some u =>
     have e':b=a:=hA b (by rw [q];simp)
     subst e'
     rw [hK (by rw [q];simp)] at e;cases e)
  have hM:Mod K mg (eI s₁.heap H):=⟨J,nsK G,⟨mb,nsK j,R⟩,let ⟨mc,h1,h2⟩:=I; ⟨mc,nsK h1,h2⟩⟩
  have e0:q0 P w K mg (eI s₁.heap H) callerA [] s₁ H:=⟨rfl,hM,fun b o e=>xJ e,Nat.le_of_eq (r8 _ _),trivial,fun b j=>absurd (show b∈([]:List Addr) from j) (by simp),hok, .of_eq hg⟩
  refine codeAny_mono ((F _ J (nsK G)).run callerA [] s₁ H ⟨[.ref a],[]⟩ [.ref a] [.ref a] _ _ hr e0 (B s₁ (.ref a)) (.cons rfl .nil) (S H hO hS)) fun r s' h => ?_
  cases r with
  | error e=>exact (U H e s' h).elim
  | ok fl =>
    cases fl with
    | next=>exact False.elim h
    | brk=>exact False.elim h
    | cont=>exact False.elim h
    | ret u =>
      obtain ⟨v,H',os,bare,un,L,r',q⟩:=h
      have q':v = .bl true:=q
      subst q'
      obtain rfl:u=Value.bool true:=r'
      refine ⟨rfl,OldK.of_keep fun b o e => ?_,os,bare⟩
      cases q:H b with
      | none=>exact un.keep b o e q (by intro z;exact absurd (show b∈([]:List Addr) from z) (by simp)) (by simp)
      | some u =>
        rcases hO b with z | ⟨ob,xs,z⟩
        ·rw [q] at z;cases z
        ·have z2:=un.frzs b ob _ z
         obtain ⟨e1,_⟩:=hok b _ z
         obtain ⟨e2,_⟩:=L b _ z2
         rw [e] at e1;cases e1
         exact e2
 cases Y:K.lookup a with
 | some o =>
   have e:=KX a o Y
   rw [O] at e
   cases e
   refine core (fun _=>none) (fun _ => .inl rfl) (.inr ⟨_,vs.toArray,_,Y,rfl,rfl,rfl,by rw [List.size_toArray,lenV];exact Z,by simpa using rv⟩) (fun b u z=>by have z':(none:Option HO)=some u:=z;cases z') (fun b z=>absurd rfl z) fun z=>absurd rfl z
 | none =>
   refine core (fun b=>if b=a then some (.frz { cls := .type "list",data := .seq vs.toArray } (.lst (ns.map V.int))) else none) (fun b => ?_) (.inl (.inr ⟨{ cls := .type "list",data := .seq vs.toArray },if_pos rfl⟩)) (fun b u z => ?_) (fun b z => ?_) fun _=>Y
   ·by_cases j:b=a
    ·exact .inr ⟨_,_,if_pos j⟩
    ·exact .inl (if_neg j)
   ·by_cases j:b=a
    ·have z':=(if_pos j).symm.trans z
     cases z'
     subst j
     exact ⟨O,by rw [List.length_map];exact Z,vs,_,rv,O⟩
    ·have z':=(if_neg j).symm.trans z
     cases z'
   ·by_cases j:b=a
    ·exact j
    ·exact absurd (if_neg j) z
end
section
theorem walk_of {l:PySem.W.OpenLaw} {n k:Nat} {q:Program} {loose:List Str} {XP:(Str->Option Value)->Heap->Prop} {YP:World->Heap->Prop} {d:DefRec} {K:Params->Frag} {CX:World->CXT} {sp:World->Sp} {x:Str}
 (O:l.most=some n) (z:n<=sizeLine) (B:d.params.defaults=[]) (R:Room k callerA)
 (S:∀ (w:World) (h:Heap),YP w h->(K w.params).In h)
 (F:∀ (w:World) (mg:Str->Option Value) (fa:Addr) (h:Heap),(K w.params).In h->h.Ns mainGlobals mg->mg d.name=some (.ref fa) ->
   ∃ fd:FuncData,(∀ (s:Shared) (u:Value),BindsTo s fd ⟨[u],[]⟩ [(x,u)]) /\
    ∀ base:Heap,(K w.params).In base->base.Ns mainGlobals mg->dv l.prog w (K w.params) mg base (CX w) k fa fd [x] (sp w))
 (I:∀ (w:World) (H:Hp) (a:Addr) (ns:List Int),ns.length<=n->qc H->SqL (K w.params) H a (ns.map V.int)->sp w [.ref a] H (fun v _=>v = .bl true) fun _ _ _=>False)
 (J:∀ (w:World) (H:Hp) (s:Shared) (e:Value) (s':Shared),CX w [] H s (fun _ _ _=>False) e s'->False) :
 PySem.W.WalkO q loose XP YP l.row.toRowW d [] (fun f vs=>PySem.call f vs):=by
 refine Att.attach_call O B fun w s₀ s₁ mg mb fa o pm cd doc a vs ns G Y ho hd U L j hints hlen Z => ?_
 have KX:=S w _ Y
 obtain ⟨fd,hb,hF⟩:=F w mg fa _ KX G.T.g L
 exact uL KX G.T.g G.T.b G.T.builtins G.T.nolimit Z j hints (Nat.le_trans hlen z) R hF hb (fun H hO hS=>I w H a ns hlen hO hS) fun H e s'=>J w H s₁ e s'
end
section
noncomputable def cZ (s:Stmt):Arguments:=match s with
 | .FunctionDef _ a _ _ _ _ _ _ _ _=>a
 | _ => { posonlyargs := [],args := [],vararg:=none,kwonlyargs := [],kw_defaults := [],kwarg:=none,defaults := [] }
noncomputable def bO (s:Stmt):List Stmt:=match s with
 | .FunctionDef _ _ b _ _ _ _ _ _ _=>b
 | _ => []
noncomputable def aw (s:Stmt):Scope:=match s with
 | .FunctionDef _ _ _ _ _ _ sc _ _ _=>sc
 | _ => { kind := .function,names := [],isGenerator:=false,isCoroutine:=false }
noncomputable abbrev CX0:CXT:=fun _ _ _ _ _ _=>False
noncomputable abbrev E0:XK:=fun _ _ _=>False
theorem wX {X:Cx}:io CX0 X E0:=fun _ _ _ _ _ _ _ h=>h.elim
structure Fun (K:Frag) (x qual:Str) (st:Stmt) (f:Addr) (fd:FuncData):Prop where
 ex:∃ (oc:Value) (od:Option Addr) (kV doc pm:Value) (an:Option Addr) (cdv ct:Value) (osl:Array (Option Value)),
  fd=PySem.W.fnOf x qual (cZ st) (bO st) (aw st) .none kV doc pm an cdv ct/\K.lookup f=some ⟨oc,od, .func fd,osl⟩/\PySem.W.codeIn K cdv qual=true
 kp:PySem.W.keepIn K (.ref f)=true
section
variable {P:Program} {w:World} {K:Frag} {mg:Str->Option Value} {base:Heap}
theorem Fun.ok {x qual:Str} {st:Stmt} {f:Addr} {fd:FuncData} {N ps:List Str} {k:Nat} {sp:Sp} (F:Fun K x qual st f fd) (S:fZ N ps (aw st)) (len:∀ vs H Q E,sp vs H Q E->vs.length=ps.length)
 (j:∀ (cdv:Value) (A:Around) (outer:List Env) (s:Shared) (H:Hp) (vs:List V) (Q:VK) (E:XK),Room k (A.deeper (envOfC qual (aw st) s.heap.objs.size f cdv))->sp vs H Q E ->
   ∃ t,PSs (gP CX0 P w K mg base N qual (aw st) f cdv A outer s H E).nox (bO st) t/\t { nx:=fun _ H'=>Q .non H',rt:=Q } (cB N vs) H):dv P w K mg base CX0 (k+1) f fd ps sp:=by
 obtain ⟨oc,od,kV,doc,pm,an,cdv,ct,osl,rfl,lk,n⟩:=F.ex
 refine By lk n S len fun A outer s H vs Q E B z => ?_
 obtain ⟨t,h,q⟩:=j cdv A outer s H vs Q E B z
 exact ⟨t,h.nox,q⟩
theorem Fun.binds {x qual:Str} {st:Stmt} {f:Addr} {fd:FuncData} {ps:List Str} (F:Fun K x qual st f fd)
 (h:∀ (kV doc pm:Value) (an:Option Addr) (cdv ct:Value) (us:List Value),us.length=ps.length->bindArgs (PySem.W.fnOf x qual (cZ st) (bO st) (aw st) .none kV doc pm an cdv ct) ⟨us,[]⟩=pure (ps.zip us)):Binds K fd ps []:=by
 obtain ⟨oc,od,kV,doc,pm,an,cdv,ct,osl,rfl,lk,j⟩:=F.ex
 exact .all (h kV doc pm an cdv ct)
theorem aj {x qual:Str} {st:Stmt} {f:Addr} {oc:Value} {od an:Option Addr} {osl:Array (Option Value)} {kV doc pm cdv ct:Value} (l:K.lookup f=some ⟨oc,od, .func (PySem.W.fnOf x qual (cZ st) (bO st) (aw st) .none kV doc pm an cdv ct),osl⟩)
 (c:PySem.W.codeIn K cdv qual=true) (k:PySem.W.keepIn K (.ref f)=true):Fun K x qual st f (PySem.W.fnOf x qual (cZ st) (bO st) (aw st) .none kV doc pm an cdv ct):=⟨⟨oc,od,kV,doc,pm,an,cdv,ct,osl,rfl,l,c⟩,k⟩
end
end
end L2
namespace HT
open PySem PySem.Spec PyProof.Rows
section
variable {prog:Program} {w:World} {A:Around} {E:Value->Shared->Prop} {s:Shared}
theorem getItem_tuple_whole {t sl:Addr} {items:Array Value} {vl vu:Value} {lo hi:Option Int} {Q:Value->Shared->Prop} (j:IsTup s.heap t items) (hs:s.heap.IsSliceOf sl vl vu .none) (pl:IsPart vl lo) (pu:IsPart vu hi)
 (hw:sIx items.size 0 lo=0/\sIx items.size items.size hi=items.size) (h:Q (.ref t) s):wpAny (model prog w) A (getItem (.ref t) (.ref sl)) Q E s:=by
 obtain ⟨os,n,q,F⟩:=id hs
 have z:s.TypeIs (.ref sl) "slice" := ⟨os,n,q⟩
 unfold getItem
 try with_reducible refine wpAny_holding ?_
 first | refine wpAny_bind (wpAny_pure ?_) | skip
 refine wpAny_bind (wpAny_sequenceKey j.typeIs (by decide) ?_)
 refine wpAny_bind (wpAny_callSpecial?_slot (name:=Str.ofString "__getitem__") j.typeIs PyProof.Rows.slot_tuple_getitem
  (wpAny_call_entry PyProof.Rows.slot_tuple_getitem j.typeIs entry_tuple_getitem ?_ (args_tuple_getitem _ _)))
 show wpAny _ _ (Builtin.Tuple.tupleItemsOf (.ref t) >>= _) _ _ s
 refine wpAny_bind (tupleItemsOf_ j ?_)
 refine wpAny_bind (wpAny_typeOf z ?_)
 rw [if_pos (by decide)]
 refine wpAny_bind (dw hs pl pu ?_)
 have B:(((sIx items.size 0 lo:Nat):Int)==0&&(1:Int)==1&&(sIx items.size items.size hi - sIx items.size 0 lo)==items.size)=true:=by
  rw [hw.1,hw.2];simp
 show wpAny _ _ (if (((sIx items.size 0 lo:Nat):Int)==0&&(1:Int)==1&&(sIx items.size items.size hi - sIx items.size 0 lo)==items.size)=true then _ else _) _ _ s
 rw [if_pos B]
 refine wpAny_bind (m:=Builtin.Tuple.tupleIsExact (.ref t)) ?_
 unfold Builtin.Tuple.tupleIsExact
 refine wpAny_bind (wpAny_typeOf j.typeIs (wpAny_pure ?_))
 show wpAny _ _ (if true=true then _ else _) _ _ s
 rw [if_pos rfl]
 exact wpAny_bind (wpAny_rule (wpAny_pure ⟨_,rfl,wpAny_pure h⟩))
end
end HT
namespace L2
open PySem PySem.Spec PyProof.Rows
section
section
variable {X:Cx}
noncomputable def Cv (K:Frag):V->Option Int->Option Int->Hp->VK->Prop:=fun x lo hi H Q => ∃ a xs,x = .ref a/\SqT K H a xs/\(HT.sIx xs.length 0 lo=0/\HT.sIx xs.length xs.length hi=xs.length)/\Q x H
theorem uM:SlR X (Cv X.K):=by
 intro pins s σ H x v vl vu lo hi sl Q I rx hs pl pu h
 obtain ⟨a,xs,rfl,hx,hw,q⟩:=h
 cases rx
 obtain ⟨its,r,j,n⟩:=I.tuple hx
 have hlen:=r.length
 refine ⟨"tuple",_,slot_tuple_getitem.lookup,j.typeIs, ?_⟩
 refine HT.getItem_tuple_whole j hs pl pu (by rw [List.size_toArray, <- hlen];exact hw) ⟨.ref a,H,I,rfl,q⟩
end
end
section
section
variable {κ:Type} [DecidableEq κ]
noncomputable def bI (kvs:List (κ × V)) (k : κ):Option V:=(kvs.find? fun kv=>decide (kv.1=k)).map (·.2)
noncomputable def ba (kvs:List (κ × V)) (k : κ) (v:V):List (κ × V) :=
 if (kvs.any fun kv=>decide (kv.1=k))=true then kvs.map (fun kv=>if kv.1=k then (kv.1,v) else kv) else kvs++[(k,v)]
theorem eJ {p : κ × V} {r:List (κ × V)} {k : κ} (e:p.1=k):bI (p::r) k=some p.2:=by simp [bI,List.find?_cons,e]
theorem eK {p : κ × V} {r:List (κ × V)} {k : κ} (e : ¬ p.1=k):bI (p::r) k=bI r k:=by simp [bI,List.find?_cons,e]
theorem lm (k : κ):∀ kvs:List (κ × V),(kvs.any fun kv=>decide (kv.1=k))=(bI kvs k).isSome
 | [] => rfl
 | p::r=>by
   rw [List.any_cons]
   by_cases e:p.1=k
   ·simp only [eJ e,decide_eq_true e,Bool.true_or,Option.isSome_some]
   ·rw [eK e,decide_eq_false e,Bool.false_or];exact lm k r
theorem cC (kvs:List (κ × V)) (k : κ) (v:V):(ba kvs k v).length<=kvs.length+1:=by
 unfold ba
 split
 ·rw [List.length_map];lia
 ·rw [List.length_append,List.length_cons,List.length_nil];lia
theorem RelO.isSome_eq {o:Option V} {u:Option Value} (r:RelO o u):o.isSome=u.isSome:=by
 cases o with
 | none=>cases u with
   | none=>rfl
   | some _=>exact (show False from r).elim
 | some _=>cases u with
   | none=>exact (show False from r).elim
   | some _=>rfl
theorem RelO.getD {o:Option V} {u:Option Value} {d:V} {d':Value} (r:RelO o u) (rd:RelV d d'):RelV (o.getD d) (u.getD d'):=by
 cases o with
 | none=>cases u with
   | none=>exact rd
   | some _=>exact (show False from r).elim
 | some _=>cases u with
   | none=>exact (show False from r).elim
   | some _=>exact r
theorem KV.val {kvs:List (κ × V)} {vs:List (κ × Value)} (r:KV kvs vs) (k : κ):RelO (bI kvs k) (valueAt vs k):=by
 unfold KV at r
 induction r with
 | nil=>exact True.intro
 | @cons p q ps qs h t ih =>
  obtain ⟨h1,h2⟩:=h
  by_cases e:p.1=k
  ·have e':q.1=k:=h1.symm.trans e
   have b:valueAt (q::qs) k=some q.2:=by simp [valueAt,List.find?_cons,e']
   rw [eJ e,b];exact h2
  ·have e' : ¬ q.1=k:=fun z=>e (h1.trans z)
   have b:valueAt (q::qs) k=valueAt qs k:=by simp [valueAt,List.find?_cons,e']
   rw [eK e,b];exact ih
theorem KV.any {kvs:List (κ × V)} {vs:List (κ × Value)} (r:KV kvs vs) (k : κ):(kvs.any fun kv=>decide (kv.1=k))=vs.any fun kv=>decide (kv.1=k):=by
 unfold KV at r
 induction r with
 | nil=>rfl
 | cons h t ih=>rw [List.any_cons,List.any_cons,ih,h.1]
theorem KV.repl {kvs:List (κ × V)} {vs:List (κ × Value)} (r:KV kvs vs) (k : κ) {y:V} {u:Value} (ry:RelV y u) :
 KV (kvs.map fun kv=>if kv.1=k then (kv.1,y) else kv) (vs.map fun kv=>if kv.1=k then (kv.1,u) else kv):=by
 unfold KV at r ⊢
 induction r with
 | nil=>exact .nil
 | @cons p q ps qs h t ih =>
  rw [List.map_cons,List.map_cons]
  refine .cons ?_ ih
  obtain ⟨h1,h2⟩:=h
  by_cases e:p.1=k
  ·rw [if_pos e,if_pos (h1.symm.trans e)];exact ⟨h1,ry⟩
  ·rw [if_neg e,if_neg (fun z=>e (h1.trans z))];exact ⟨h1,h2⟩
theorem KV.put {kvs:List (κ × V)} {vs:List (κ × Value)} (r:KV kvs vs) (k : κ) {y:V} {u:Value} (ry:RelV y u):KV (ba kvs k y) (stored vs k u):=by
 unfold ba stored
 rw [r.any k]
 by_cases e:(vs.any fun kv=>decide (kv.1=k))=true
 ·rw [if_pos e,if_pos e];exact r.repl k ry
 ·rw [if_neg e,if_neg e];exact Paired.snoc r ⟨rfl,ry⟩
theorem KV.length {kvs:List (κ × V)} {vs:List (κ × Value)} (r:KV kvs vs):kvs.length=vs.length:=Paired.length r
end
theorem kM {P:Program} {w:World} {k:Key} {u:Value} (r:RelV (kV k) u):(aE P w).is k u=true:=by
 cases k with
 | inl i=>obtain ⟨t,e⟩:=(show ∃ t,u=Value.int i t from r);subst e;exact nV P w i t
 | inr x=>obtain ⟨t,e⟩:=(show ∃ t,u=Value.str x t from r);subst e;exact nW P w x t
theorem jV {P:Program} {w:World}:∀ {ks:List Key} {us:List Value},Vals (ks.map kV) us->ItemsAre (aE P w) ks us
 | [],_,r=>by rw [List.map_nil] at r;cases r;exact .nil
 | k::ks,_,r=>by
   rw [List.map_cons] at r
   cases r with
   | cons h t=>exact .cons (kM h) (jV t)
noncomputable abbrev KT (H:Hp):List (List Key×V)->List (List Key×Addr×Value)->Prop:=Paired fun p q=>p.1=q.1/\H q.2.1=some (.tup (p.1.map kV))/\RelV p.2 q.2.2
theorem KT.val {H:Hp} {kvs:List (List Key×V)} {xs:List (List Key×Addr×Value)} (r:KT H kvs xs) (k:List Key):RelO (bI kvs k) ((atKey xs k).map (·.2)):=by
 induction r with
 | nil=>exact True.intro
 | @cons p q ps qs h t ih =>
  obtain ⟨h1,_,h2⟩:=h
  by_cases e:p.1=k
  ·have e':q.1=k:=h1.symm.trans e
   have b:atKey (q::qs) k=some q.2:=by simp [atKey,List.find?_cons,e']
   rw [eJ e,b];exact h2
  ·have e' : ¬ q.1=k:=fun z=>e (h1.trans z)
   have b:atKey (q::qs) k=atKey qs k:=by simp [atKey,List.find?_cons,e']
   rw [eK e,b];exact ih
theorem KT.repl {H:Hp} {kvs:List (List Key×V)} {xs:List (List Key×Addr×Value)} (r:KT H kvs xs) (k:List Key) {y:V} {u:Value} (ry:RelV y u) :
 KT H (kvs.map fun kv=>if kv.1=k then (kv.1,y) else kv) (xs.map (putAt k u)):=by
 induction r with
 | nil=>exact .nil
 | @cons p q ps qs h t ih =>
  rw [List.map_cons,List.map_cons]
  refine .cons ?_ ih
  obtain ⟨h1,h2,j⟩:=h
  unfold putAt
  by_cases e:p.1=k
  ·rw [if_pos e,if_pos (h1.symm.trans e)];exact ⟨h1,h2,ry⟩
  ·rw [if_neg e,if_neg (fun z=>e (h1.trans z))];exact ⟨h1,h2,j⟩
theorem KT.put {H:Hp} {kvs:List (List Key×V)} {xs:List (List Key×Addr×Value)} (r:KT H kvs xs) (k:List Key) {b:Addr} {y:V} {u:Value} (j:H b=some (.tup (k.map kV))) (ry:RelV y u) :
 KT H (ba kvs k y) (storedH xs k b u):=by
 have e:(kvs.any fun kv=>decide (kv.1=k))=(atKey xs k).isSome:=by
  rw [lm,(r.val k).isSome_eq,Option.isSome_map]
 unfold ba storedH
 rw [e]
 by_cases q:(atKey xs k).isSome=true
 ·rw [if_pos q,if_pos q];exact r.repl k ry
 ·rw [if_neg q,if_neg q];exact Paired.snoc r ⟨rfl,j,ry⟩
theorem KT.keeps {H H':Hp} {kvs:List (List Key×V)} {xs:List (List Key×Addr×Value)} (r:KT H kvs xs) (j:∀ b ys,H b=some (.tup ys)->H' b=some (.tup ys)):KT H' kvs xs :=
 Paired.mapP r fun _ _ z=>⟨z.1,j _ _ z.2.1,z.2.2⟩
section
variable {P:Program} {w:World} {H:Hp} {h:Heap} {a:Addr}
theorem wY {u:HO} (ok:HOk P w H h) (e:Rd H a u):ObjOk P w H h a u:=e.ok ok
theorem kN {kvs:List (Key×V)} (ok:HOk P w H h) (e:Rd H a (.dK kvs)):kvs.length<=sizeLine/\(a==sysModules)=false /\ ∃ vs,KV kvs vs/\h.DictOf (aE P w) a vs :=
 show ObjOk P w H h a (.dK kvs) from wY ok e
theorem BB {kvs:List (Key×V)} (ok:HOk P w H h) (e:H a=some (.dK kvs)):kvs.length<=sizeLine/\(a==sysModules)=false /\ ∃ vs,KV kvs vs/\h.DictOf (aE P w) a vs:=kN ok (.inl e)
theorem fB {ks:List Key} (ok:HOk P w H h) (e:H a=some (.tup (ks.map kV))):(tupleKind (aE P w)).is h ks a:=by
 obtain ⟨_,its,r,o,h1,h2,n,j⟩:=(show ObjOk P w H h a (.tup (ks.map kV)) from ok a _ e)
 exact ⟨o,its.toArray,n,h1,h2,j,by simpa using jV r⟩
theorem ga {kvs:List (List Key×V)} (ok:HOk P w H h) (e:Rd H a (.dT kvs)):kvs.length<=sizeLine/\(a==sysModules)=false /\
 ∃ xs,KT H kvs xs/\h.DictOfH (tupleKind (aE P w)) a xs:=by
 obtain ⟨z,y,xs,r,o,es,ep,h1,h2,j,n,B⟩:=(show ObjOk P w H h a (.dT kvs) from wY ok e)
 refine ⟨z,y,xs,r,o,es,ep,h1,h2,j,n,fun x hx => ?_,B⟩
 have all:∀ {l:List (List Key×V)} {m:List (List Key×Addr×Value)},KT H l m -> ∀ x∈m,(tupleKind (aE P w)).is h x.1 x.2.1:=by
  intro l m q
  induction q with
  | nil=>intro x hx;exact nomatch hx
  | @cons p q ps qs hq t ih =>
   intro x hx
   rcases List.mem_cons.mp hx with e | hx
   ·subst e
    exact fB ok (by rw [<- hq.1];exact hq.2.1)
   ·exact ih x hx
 exact all r x hx
theorem wZ {kvs:List (List Key×V)} (ok:HOk P w H h) (e:H a=some (.dT kvs)):kvs.length<=sizeLine/\(a==sysModules)=false /\
 ∃ xs,KT H kvs xs/\h.DictOfH (tupleKind (aE P w)) a xs:=ga ok (.inl e)
end
noncomputable def DGet (H:Hp) (a:Addr) (y:V) (r:Option V):Prop :=
 (∃ kvs k,Rd H a (.dK kvs)/\y=kV k/\r=bI kvs k) ∨ ∃ kvs k b,Rd H a (.dT kvs)/\y = .ref b/\H b=some (.tup (k.map kV))/\r=bI kvs k
noncomputable def DPut (H:Hp) (a:Addr) (y v:V) (H':Hp):Prop :=
 (∃ kvs k,H a=some (.dK kvs)/\y=kV k/\kvs.length < sizeLine/\H'=upd H a (.dK (ba kvs k v))) ∨
 ∃ kvs k b,H a=some (.dT kvs)/\y = .ref b/\H b=some (.tup (k.map kV))/\kvs.length < sizeLine/\H'=upd H a (.dT (ba kvs k v))
theorem DGet.k {H:Hp} {a:Addr} {kvs:List (Key×V)} {k:Key} (e:H a=some (.dK kvs)):DGet H a (kV k) (bI kvs k) := .inl ⟨kvs,k, .inl e,rfl,rfl⟩
theorem DPut.k {H:Hp} {a:Addr} {kvs:List (Key×V)} {k:Key} {v:V} (e:H a=some (.dK kvs)) (j:kvs.length < sizeLine):DPut H a (kV k) v (upd H a (.dK (ba kvs k v))) := .inl ⟨kvs,k,e,rfl,j,rfl⟩
theorem DPut.t {H:Hp} {a b:Addr} {kvs:List (List Key×V)} {k:List Key} {v:V} (e:H a=some (.dT kvs)) (eb:H b=some (.tup (k.map kV))) (j:kvs.length < sizeLine) :
 DPut H a (.ref b) v (upd H a (.dT (ba kvs k v))) := .inr ⟨kvs,k,b,e,rfl,eb,j,rfl⟩
section
variable {X:Cx} {pins:List (Addr×Obj)} {σ:St} {H:Hp} {s:Shared} {a:Addr} {y v:V} {u r:Value} {o:Option V} {A:Around} {E:Value->Shared->Prop}
theorem Inv.big (I:Inv X pins σ H s):sysModules < s.heap.objs.size:=by
 have h:mainGlobals < s.heap.objs.size:=(I.mod.glob.keeps I.bk).lt
 exact Nat.lt_trans (by decide) h
theorem rO {Q:Value->Shared->Prop} (n:A.units+1 < cLine) (I:Inv X pins σ H s) (g:DGet H a y (some v)) (ry:RelV y u) (h:∀ w' s',Inv X pins σ H s'->RelV v w'->Q w' s') :
 wpAny (model X.prog X.w) A (getItem (.ref a) u) Q E s:=by
 rcases g with ⟨kvs,k,e,ey,l⟩ | ⟨kvs,k,b,e,ey,eb,l⟩
 ·subst ey
  obtain ⟨z,hd,vs,rel,dd⟩:=kN I.hok e
  obtain ⟨w',hw,rw'⟩:=RelO.some_of (v:=v) (o:=valueAt vs k) (by rw [l];exact rel.val k)
  exact wpAny_getItem_of (kM ry) dd.mapOf hw (h w' _ (I.tok _) rw')
 ·subst ey
  cases (show u=Value.ref b from ry)
  obtain ⟨z,hd,xs,rel,dd⟩:=ga I.hok e
  obtain ⟨w',hw,rw'⟩:=RelO.some_of (v:=v) (o:=(atKey xs k).map (·.2)) (by rw [l];exact rel.val k)
  obtain ⟨p,q,j⟩:=Option.map_eq_some_iff.mp hw
  refine wpAny_getItem_heap (tupleKind_room_in1 n) (fB I.hok eb) dd q ?_
  rw [j]
  exact h w' _ (I.tok _) rw'
theorem jk {h':Heap} {t':Nat} {ob:HO} (I:Inv X pins σ H s) (mu:Mut (H a)) (hs:Heap.SameBut a s.heap h') (he:∃ q,h'.get? a=some q) (new:ObjOk X.prog X.w (upd H a ob) h' a ob) :
 Inv X pins σ (upd H a ob) { s with heap:=h',toks:=t' } :=
 I.write (x:=a) (e:=a) mu (.inl rfl) (fun b q j z=>(hs.2 b j).trans z) he new
theorem Ac {P:Program} {w:World} {H':Hp} {h':Heap} {kvs:List (Key×V)} {vs:List (Key×Value)} (z:kvs.length<=sizeLine) (hd:(a==sysModules)=false) (rel:KV kvs vs) (dd:h'.DictOf (aE P w) a vs) :
 ObjOk P w H' h' a (.dK kvs):=⟨z,hd,vs,rel,dd⟩
theorem rP {H':Hp} {Q:Unit->Shared->Prop} (F:A.units+1 < cLine) (I:Inv X pins σ H s) (g:DPut H a y v H') (ry:RelV y u) (rv:RelV v r) (h:∀ s',Inv X pins σ H' s'->Q () s') :
 wpAny (model X.prog X.w) A (setItem (.ref a) u r) Q E s:=by
 rcases g with ⟨kvs,k,e,ey,l,eH⟩ | ⟨kvs,k,b,e,ey,eb,l,eH⟩
 ·subst ey eH
  obtain ⟨z,hd,vs,rel,dd⟩:=BB I.hok e
  have n:vs.length<=sizeLine:=by rw [<- rel.length];exact z
  have B:(ba kvs k v).length<=sizeLine:=by have:=cC kvs k v;lia
  refine wpAny_setItem_pairs (hsz:=n) (kM ry) dd fun h' dd' hs=>h _ ?_
  have he:∃ q,h'.get? a=some q:=let ⟨q,_,_,j,_⟩:=dd'; ⟨q,j⟩
  exact jk I (by rw [e];exact True.intro) hs he (Ac B hd (rel.put k rv) dd')
 ·subst ey eH
  cases (show u=Value.ref b from ry)
  obtain ⟨z,hd,xs,rel,dd⟩:=wZ I.hok e
  have n:xs.length<=sizeLine:=by rw [<- Paired.length rel];exact z
  have B:(ba kvs k v).length<=sizeLine:=by have:=cC kvs k v;lia
  refine wpAny_setItem_heap (hsz:=n) (tupleKind_room_in1 F) (fB I.hok eb) dd fun h' dd' hs=>h _ ?_
  obtain ⟨q,es,ep,j,h2,G,J,_,L⟩:=dd'
  refine jk I (by rw [e];exact True.intro) hs ⟨q,j⟩ ⟨B,hd,_,(rel.put k eb rv).keeps fun c ys ec => ?_,q,es,ep,j,h2,G,J,L⟩
  rw [ah (wK ec e (fun z=>nomatch z))]
  exact ec
end
theorem uN {P:Program} {w:World} {H:Hp} (h:Heap) (j:sysModules < h.objs.size):ObjOk P w H (h.push { cls := .type "dict",data := .dict #[] }) h.objs.size (.dK []) :=
 ⟨Nat.zero_le _,beq_eq_false_iff_ne.mpr (Ne.symm (Nat.ne_of_lt j)),[], .nil,Heap.DictOf.new h⟩
theorem ln {P:Program} {w:World} {H:Hp} (h:Heap) (j:sysModules < h.objs.size):ObjOk P w H (h.push { cls := .type "dict",data := .dict #[] }) h.objs.size (.dT []) :=
 ⟨Nat.zero_le _,beq_eq_false_iff_ne.mpr (Ne.symm (Nat.ne_of_lt j)),[], .nil,_, #[],0,Heap.get?_push_size _ rfl,⟨rfl,rfl,rfl⟩,rfl,rfl,List.nodup_nil⟩
noncomputable def Ad:TE:=fun _ H Q => ∀ p,H p=none->Q (.ref p) (upd H p (.dK []))
noncomputable def Ae:TE:=fun _ H Q => ∀ p,H p=none->Q (.ref p) (upd H p (.dT []))
section
variable {X:Cx} {pos:Pos}
theorem uO:PE X (.Dict [] [] pos) Ad:=fun pins s σ H Q I h =>
 wpAny_Dict_empty ⟨.ref s.heap.objs.size,_,I.laid (a:=s.heap.objs.size) (o := .dK []) (t':=s.toks) (fun _ _ q=>Heap.get?_push_of_some _ q) (Nat.le_refl _) (uN s.heap I.big),rfl,h _ (I.hok.fresh (Nat.le_refl _))⟩
theorem uP:PE X (.Dict [] [] pos) Ae:=fun pins s σ H Q I h =>
 wpAny_Dict_empty ⟨.ref s.heap.objs.size,_,I.laid (a:=s.heap.objs.size) (o := .dT []) (t':=s.toks) (fun _ _ q=>Heap.get?_push_of_some _ q) (Nat.le_refl _) (ln s.heap I.big),rfl,h _ (I.hok.fresh (Nat.le_refl _))⟩
end
structure M2 (X:Cx) (o:Expr) (m:Str) (apos:Pos) (e f:Expr) (cpos:Pos):Prop where
 base:attributeBase o m X.env (eval o X.env)=eval o X.env
 few:((backTo cpos (starEach [e,f] X.env)).all (fun x => !x.1)&&(backToKw cpos (keywordEach [] X.env)).all (fun x=>x.1.isSome)
  && decide (([e,f]:List Expr).length+([]:List Keyword).length+(if ([]:List Keyword).isEmpty then 0 else 1) < 30))=true
 line:(apos.endLine==cpos.line)=true
 trees:backTo cpos (starEach [e,f] X.env)=[(false,eval e X.env),(false,eval f X.env)]
noncomputable def IsD (H:Hp) (a:Addr):Prop:=(∃ kvs,Rd H a (.dK kvs)) ∨ ∃ kvs,Rd H a (.dT kvs)
theorem iu {X:Cx} {pins:List (Addr×Obj)} {σ:St} {H:Hp} {s:Shared} {a:Addr} (I:Inv X pins σ H s) (d:IsD H a) :
 s.TypeIs (.ref a) "dict" /\ (∀ b,Value.ref a = .ref b -> ∃ ob,s.heap.get? b=some ob/\ob.dict=none)/\(a==sysModules)=false:=by
 rcases d with ⟨kvs,e⟩ | ⟨kvs,e⟩
 ·obtain ⟨_,hd,vs,_,dd⟩:=kN I.hok e
  refine ⟨dd.typeIs,fun b q => ?_,hd⟩
  cases q
  obtain ⟨ob,_,_,h1,h2,_⟩:=dd
  exact ⟨ob,h1,h2.2.1⟩
 ·obtain ⟨_,hd,xs,_,dd⟩:=ga I.hok e
  refine ⟨dd.typeIs,fun b q => ?_,hd⟩
  cases q
  obtain ⟨ob,_,_,h1,h2,_⟩:=dd
  exact ⟨ob,h1,h2.2.1⟩
section
variable {X:Cx} {pins:List (Addr×Obj)} {σ:St} {H:Hp} {s:Shared} {a:Addr} {y d:V} {u r:Value} {o:Option V} {A:Around} {E:Value->Shared->Prop}
theorem Af {Q:Value->Shared->Prop} (j:A.units+1 < cLine) (I:Inv X pins σ H s) (g:DGet H a y o) (ry:RelV y u) (rd:RelV d r) (h:∀ w' s',Inv X pins σ H s'->RelV (o.getD d) w'->Q w' s') :
 wpAny (model X.prog X.w) A (call (.builtin "dict.get") [.ref a,u,r]) Q E s:=by
 rcases g with ⟨kvs,k,e,ey,l⟩ | ⟨kvs,k,b,e,ey,eb,l⟩
 ·subst ey
  obtain ⟨z,hd,vs,rel,dd⟩:=kN I.hok e
  refine call_meetsIn PySem.F.slot_dict_get dd.typeIs PySem.F.entry_dict_get (PySem.F.args_dict_get_3 _ _ _) (meets_dict_get_default (aE X.prog X.w) a (kM ry) hd r) ⟨_,dd.mapOf,h _ _ (I.tok _) ?_⟩
  rw [l]
  exact (rel.val k).getD rd
 ·subst ey
  cases (show u=Value.ref b from ry)
  obtain ⟨z,hd,xs,rel,dd⟩:=ga I.hok e
  refine call_meetsIn PySem.F.slot_dict_get dd.typeIs PySem.F.entry_dict_get (PySem.F.args_dict_get_3 _ _ _) (meetsH_dict_get_default (tupleKind (aE X.prog X.w)) a b hd r) ⟨tupleKind_room_in1 j,k,xs,fB I.hok eb,dd,h _ _ (I.tok _) ?_⟩
  rw [l]
  exact (rel.val k).getD rd
end
noncomputable def Ag (td ty tx:TE):TE:=fun σ H Q=>td σ H fun x H1 => ∃ a,x = .ref a/\IsD H1 a/\ty σ H1 fun y H2=>tx σ H2 fun z H3 => ∃ o,DGet H3 a y o/\Q (o.getD z) H3
section
variable {X:Cx} {o e f:Expr} {apos cpos:Pos} {td ty tx:TE}
theorem uQ (n:X.A.units+1 < cLine) (ho:PE X o td) (he:PE X e ty) (hf:PE X f tx) (m:M2 X o "get" apos e f cpos):PE X (.Call (.Attribute o "get" apos) [e,f] [] cpos) (Ag td ty tx):=by
 intro pins s σ H Q I h
 refine wpAny_Call_method m.base m.few m.line PySem.F.plainAttrs_dict PySem.F.slot_dict_get PySem.F.type_dict_get (thn (ho pins s σ H _ I h) fun u s1 ⟨x,H1,j,rx,a,ex,d,q⟩ => ?_)
 subst ex
 obtain rfl:u=Value.ref a:=rx
 obtain ⟨t1,B,_⟩:=iu j d
 refine ⟨t1,B, ?_⟩
 rw [m.trees]
 refine Calls.callWith_builtin rfl (Calls.evalArgs_plain (Calls.spliced_cons (thn (he pins s1 σ H1 _ j q) fun iv s2 ⟨y,H2,G,ry,J⟩ =>
  Calls.spliced_cons (thn (hf pins s2 σ H2 _ G J) fun fv s3 ⟨z,L,O,rz,ov,g,R⟩=>Calls.spliced_nil ?_))))
 exact Af n O g ry rz fun w' s4 S rw'=>⟨_,L,S,rw',R⟩
end
end
section
noncomputable def b4 (elt:Expr) (gens:List Comprehension) (scope:Scope) (pos:Pos) (d:Nat) (acc:Value) (env:Env) (k:Sem Fin):Sem Fin :=
 match gens[d+1]? with
 | some g'=>eval g'.iter env >>= fun x=>standAt g'.iter.pos >>= fun _=>foldedSetIterable g'.iter env x >>= fun x=>holding [x] (pyIter x) >>= fun it' =>
    runOwn (.compStart (.ListComp elt gens scope pos) (d+1) it' acc env) env >>= fun _=>k
 | none=>(eval elt env >>= fun x=>call (.builtin "list.append") [acc,x] >>= fun _=>pure ()) >>= fun _=>k
noncomputable def bb (ifs:List Expr) (env:Env):Sem Bool :=
 forIn ifs true fun c r=>if r=true then do let ok <- isTrue c env (eval c env);pure (ForInStep.yield ok) else pure (ForInStep.yield r)
theorem lp (elt target iter:Expr) (ifs:List Expr) (gens:List Comprehension) (scope:Scope) (pos:Pos) (d:Nat) (it acc:Value) (env:Env)
 (hd:gens[d]? = some ⟨target,iter,ifs,0⟩) (j:∀ g',gens[d+1]? = some g'->g'.is_async=0) :
 compTurn (.ListComp elt gens scope pos) d it acc env=(standAt iter.pos >>= fun _=>pyNext it >>= fun r=>match r with
  | none=>pure (.done .next)
  | some v=>letOwnedTupleGo target it v >>= fun _=>assign target env v >>= fun _=>bb ifs env >>= fun ok =>
    (if ok=true then b4 elt gens scope pos d acc env (again (.compLoop (.ListComp elt gens scope pos) d it acc env)) else again (.compLoop (.ListComp elt gens scope pos) d it acc env))):=by
 unfold compTurn
 simp only [hd]
 unfold b4 bb
 cases hn:gens[d+1]? with
 | none=>rfl
 | some g' =>
   obtain ⟨t',i',f',a'⟩:=g'
   have e:a'=0:=j _ hn
   subst e
   rfl
noncomputable abbrev TC:=St->Hp->(St->Hp->Prop)->Prop
noncomputable def cj (J:It) (g:TG) (tb:TC) (N:St->Hp->Prop) (σ:St) (H:Hp):Prop :=
 ∃ W:Nat->Nat->St->Hp->Prop,(∃ m,W 0 m σ H) /\ ∀ i m σ H,W i m σ H ->
  (J.stop i H/\N σ H)∨(J.go i H /\ ∃ N':St->Hp->Prop,(∀ σ' H',N' σ' H' -> ∃ m',m' < m/\W (i+1) m' σ' H') /\ ∀ x H',J.yld i H x H'->g x σ H' fun σ2 H2=>tb σ2 H2 N')
noncomputable def PB (X:Cx) (F:Sem Fin->Sem Fin) (t:TC):Prop :=
 ∀ (pins:List (Addr×Obj)) (s:Shared) (σ:St) (H:Hp) (N:St->Hp->Prop) (k:Sem Fin) (Q:Fin->Shared->Prop) (E:Value->Shared->Prop),Inv X pins σ H s->t σ H N ->
  (∀ s' σ' H',Inv X pins σ' H' s'->N σ' H'->wpAny (model X.prog X.w) X.A k Q E s')->wpAny (model X.prog X.w) X.A (F k) Q E s
section
variable {X:Cx}
theorem nox {α:Type} {m:Sem α} {Q : α -> Shared->Prop} {E:Value->Shared->Prop} {s:Shared} (hx:∀ e s,X.xe e s->False) (h:wpAny (model X.prog X.w) X.A m Q X.xe s):wpAny (model X.prog X.w) X.A m Q E s :=
 wpAny_mono h (fun _ _ q=>q) fun e s' q=>(hx e s' q).elim
noncomputable def iw (ts:List TT) (tb:TC):TC:=match ts with
 | [] => tb
 | t::r=>fun σ H N=>t σ H fun b H1=>if b=true then iw r tb σ H1 N else N σ H1
theorem iy {env:Env} {M:Model} {A:Around} {Q:Bool->Shared->Prop} {E:Value->Shared->Prop} {s:Shared} (h:Q false s):∀ ifs:List Expr,
 wpAny M A (forIn ifs false fun c r=>if r=true then do let ok <- isTrue c env (eval c env);pure (ForInStep.yield ok) else pure (ForInStep.yield r)) Q E s
 | [] => wpAny_pure h
 | c::r=>by
   rw [List.forIn_cons]
   simp only [Bool.false_eq_true,if_false]
   exact wpAny_bind (wpAny_pure (iy h r))
theorem lq (hx:∀ e s,X.xe e s->False) {tb:TC} {N:St->Hp->Prop}:∀ {ifs:List Expr} {ts:List TT},Paired (fun c t=>PT X c t) ifs ts ->
 ∀ (pins:List (Addr×Obj)) (s:Shared) (σ:St) (H:Hp) (E:Value->Shared->Prop),Inv X pins σ H s->iw ts tb σ H N ->
 wpAny (model X.prog X.w) X.A (bb ifs X.env) (fun ok s' => ∃ H',Inv X pins σ H' s'/\if ok=true then tb σ H' N else N σ H') E s
 | _,_, .nil=>fun pins s σ H E I h=>wpAny_pure ⟨H,I,by rw [if_pos rfl];exact h⟩
 | c::ifs,_, .cons (b:=t) q hr=>by
   intro pins s σ H E I h
   have ih:=lq hx hr (tb:=tb) (N:=N) pins
   unfold bb at ih ⊢
   rw [List.forIn_cons]
   simp only [if_true]
   refine wpAny_bind (wpAny_bind (nox hx (thn (q pins s σ H _ I h) fun b s1 ⟨H1,n,j⟩=>wpAny_pure ?_)))
   cases b with
   | false =>
     rw [if_neg Bool.false_ne_true] at j
     exact iy ⟨H1,n,by rw [if_neg Bool.false_ne_true];exact j⟩ ifs
   | true =>
     rw [if_pos rfl] at j
     exact ih s1 σ H1 E n j
theorem uR (hx:∀ e s,X.xe e s->False) {F:Sem Fin->Sem Fin} {tb:TC} (q:PB X F tb) {ifs:List Expr} {ts:List TT} (z:Paired (fun c t=>PT X c t) ifs ts) :
 PB X (fun k=>bb ifs X.env >>= fun ok=>if ok=true then F k else k) (iw ts tb):=by
 intro pins s σ H N k Q E I h hk
 refine wpAny_bind (thn (lq hx z pins s σ H E I h) fun ok s1 ⟨H1,n,j⟩ => ?_)
 cases ok with
 | false =>
   rw [if_neg Bool.false_ne_true] at j ⊢
   exact hk s1 σ H1 n j
 | true =>
   rw [if_pos rfl] at j ⊢
   exact q pins s1 σ H1 N k Q E n j hk
noncomputable def xc (p:Addr) (te:TE):TC:=fun σ H N=>te σ H fun x H1 => ∃ xs,H1 p=some (.lst xs)/\xs.length < sizeLine/\N σ (upd H1 p (.lst (xs++[x])))
theorem jl (hx:∀ e s,X.xe e s->False) {elt:Expr} {gens:List Comprehension} {scope:Scope} {pos:Pos} {d:Nat} {p:Addr} {te:TE} (he:PE X elt te) (hd:gens[d+1]? = none) :
 PB X (b4 elt gens scope pos d (.ref p) X.env) (xc p te):=by
 intro pins s σ H N k Q E I h j
 unfold b4
 rw [hd]
 refine wpAny_bind (wpAny_bind (nox hx (thn (he pins s σ H _ I h) fun u s1 ⟨x,H1,n,q,xs,e1,l1,z⟩ => ?_)))
 refine wpAny_bind (nox hx (thn (jT (X:=X) pins s1 σ H1 (.ref p) [x] (.ref p) [u] (fun _ H2=>N σ H2) n rfl (.cons q .nil) ⟨p,xs,x,rfl,rfl,e1,l1,z⟩) fun v s2 ⟨_,H2,B,_,F⟩ => ?_))
 exact wpAny_pure (j s2 σ H2 B F)
theorem jW (hx:∀ e s,X.xe e s->False) (S:X.calm=true) {elt target iter:Expr} {ifs:List Expr} {gens:List Comprehension} {scope:Scope} {pos:Pos} {d:Nat} {acc:Value}
 (hd:gens[d]? = some ⟨target,iter,ifs,0⟩) (ha:∀ g',gens[d+1]? = some g'->g'.is_async=0) {g:TG} (hg:PG X target g) {tb:TC}
 (j:PB X (fun k=>bb ifs X.env >>= fun ok=>if ok=true then b4 elt gens scope pos d acc X.env k else k) tb)
 {pins:List (Addr×Obj)} {s:Shared} {σ:St} {H:Hp} {N:St->Hp->Prop} {it:Addr} {fp:List Addr} {tn:Nat->Heap->Prop} {J:It} (I:Inv X pins σ H s) (T:fu X.prog X.w X.K target J fp it tn)
 (t0:tn 0 s.heap) (f2:∀ b∈fp,bS X pins H b) (h:cj J g tb N σ H) :
 codeAny (model X.prog X.w) X.A (.compLoop (.ListComp elt gens scope pos) d (.ref it) acc X.env) (fun r s'=>match r with | .ok _ => ∃ σ' H',Inv X pins σ' H' s'/\N σ' H' | .error _=>False) s:=by
 obtain ⟨W,⟨m0,w0⟩,turn⟩:=h
 have stat:∀ {H':Hp},(∀ b∈fp,H' b=none) -> ∀ b∈fp,bS X pins H' b:=fun hn b j=>⟨hn b j,(f2 b j).2⟩
 refine codeAny_loop rfl (fun n s' => ∃ i σ' H',Inv X pins σ' H' s'/\tn i s'.heap/\(∀ b∈fp,H' b=none)/\W i n σ' H') ?_ m0 ⟨0, σ,H,I,t0,fun b j=>(f2 b j).1,w0⟩
 rintro n s3 ⟨i, σ3,F,U,z,B,w3⟩
 show wpAny _ _ ((compTurn (.ListComp elt gens scope pos) d (.ref it) acc X.env).onRaise (fun x=>do noteFrame x X.env;theTreesLotGoes x)) _ _ s3
 refine wpAny_noted ?_
 rw [lp elt target iter ifs gens scope pos d (.ref it) acc X.env hd ha]
 refine wpAny_bind (wpAny_standAt (wpAny_bind ?_))
 show wpAny (model X.prog X.w) X.A _ _ _ s3
 rcases turn i n σ3 F w3 with ⟨stop,qn⟩ | ⟨go,N',hN,step⟩
 ·refine thn (T.done X rfl rfl rfl S i pins s3 σ3 F _ U (stat B) z stop) fun r s4 ⟨G,I4⟩ => ?_
  subst G
  exact wpAny_pure ⟨σ3,F,I4,qn⟩
 ·refine thn (T.item X rfl rfl rfl S i pins s3 σ3 F _ U (stat B) z go) fun r s4 ⟨u,G,h4⟩ => ?_
  subst G
  refine wpAny_bind (thn h4 fun _ s5 ⟨x,Y,I5,r5,y5,q,L⟩ => ?_)
  have O:=I5.pinned (stat L) (T.obj _ _ q)
  refine wpAny_bind (nox hx (thn (hg _ s5 σ3 Y x u _ O r5 (step x Y y5)) fun _ s6 ⟨σ6,H6,I6,q6⟩ => ?_))
  refine j _ s6 σ6 H6 N' (again (.compLoop (.ListComp elt gens scope pos) d (.ref it) acc X.env)) _ _ I6 q6 fun s7 σ7 Z R n7 => ?_
  obtain ⟨m',hm,w7⟩:=hN σ7 Z n7
  refine wpAny_pure ⟨rfl,m',hm,i+1, σ7,Z,R.unpinned,T.keep _ _ _ q fun b j o e=>(R.pin (b,o) (List.mem_append_right _ (List.mem_append_right _ (cR j e)))).1,fun b j => ?_,w7⟩
  obtain ⟨o,e,dd⟩:=T.obj _ _ q b j
  exact (R.pin (b,o) (List.mem_append_right _ (List.mem_append_right _ (cR j e)))).2.1
theorem iz {elt target iter:Expr} {ifs:List Expr} {gens:List Comprehension} {scope:Scope} {pos:Pos} {d:Nat} {it acc:Value} {env:Env} {prog:Program} {w:World} {A:Around} {R:Result->Shared->Prop} {s:Shared}
 (hd:gens[d]? = some ⟨target,iter,ifs,0⟩)
 (h0:codeAny (model prog w) A (.compLoop (.ListComp elt gens scope pos) d it acc env) R s)
 (h:wpAny (model prog w) A (pyIter it) (fun it' s'=>codeAny (model prog w) A (.compLoop (.ListComp elt gens scope pos) d it' acc env) R s')
   (notedBy (model prog w) A env fun x s'=>R (.error x) s') s) :
 codeAny (model prog w) A (.compStart (.ListComp elt gens scope pos) d it acc env) R s:=by
 refine codeAny_of_tree ?_
 show wpAny _ _ ((compStart (.ListComp elt gens scope pos) d it acc env).onRaise (fun x=>do noteFrame x env;standAt theWindowsPlace)) _ _ s
 refine wpAny_notedAt ?_
 unfold compStart
 have j:(clausesOf (.ListComp elt gens scope pos))[d]? = some ⟨target,iter,ifs,0⟩:=hd
 rw [j]
 show wpAny _ _ (ask >>= _) _ _ s
 refine wpAny_bind (wpAny_askSetting (wpAny_ite ?_))
 split
 ·first
   | exact wpAny_bind (wpAny_pure (wpAny_pure (And.intro rfl h0)))
   | exact wpAny_pure (And.intro rfl h0)
 ·first
   | exact wpAny_bind (wpAny_rule (wpAny_bind (wpAny_standAt (wpAny_bind (wpAny_mono h (fun it' s' h'=>wpAny_pure (And.intro rfl h')) fun _ _ x=>x)))))
   | (refine wpAny_bind (wpAny_rule ?_);show wpAny _ _ (standAt iter.pos >>= _) _ _ s;exact wpAny_bind (wpAny_standAt (wpAny_bind (wpAny_mono h (fun it' s' h'=>wpAny_pure (And.intro rfl h')) fun _ _ x=>x))))
theorem jX (hx:∀ e s,X.xe e s->False) (q:X.calm=true) {elt target iter:Expr} {ifs:List Expr} {gens:List Comprehension} {scope:Scope} {pos:Pos} {d:Nat} {acc:Value}
 (hd:gens[d+1]? = some ⟨target,iter,ifs,0⟩) (z:∀ g',gens[d+1+1]? = some g'->g'.is_async=0) {wi:TI} (hi:PI X target iter wi) {g:TG} (B:PG X target g) {tb:TC}
 (F:PB X (fun k=>bb ifs X.env >>= fun ok=>if ok=true then b4 elt gens scope pos (d+1) acc X.env k else k) tb)
 (hs:∀ x,foldedSetIterable iter X.env x=pure x) :
 PB X (b4 elt gens scope pos d acc X.env) (fun σ H N=>wi σ H fun J H1=>cj J g tb N σ H1):=by
 intro pins s σ H N k Q E I h hk
 unfold b4
 rw [hd]
 refine wpAny_bind (nox hx (thn (hi pins s σ H _ I h) fun v s1 h1 => ?_))
 refine wpAny_bind (wpAny_standAt (wpAny_bind (wpAny_of_eq (hs v) ?_)))
 refine wpAny_bind (wpAny_holding (nox hx (thn h1 fun itv s2 h2 => ?_)))
 obtain ⟨it,fp,tn,J,H2,e,G,T,j,f2,hw⟩:=h2
 subst e
 have loop:=jW (acc:=acc) hx q hd z B F G T j f2 hw
 refine wpAny_bind (wpAny_runOwn (codeAny_mono (iz (R:=fun r s'=>match r with | .ok _ => ∃ σ' H',Inv X pins σ' H' s'/\N σ' H' | .error _=>False) hd loop (T.self _ 0 _ _ _ j loop)) fun r s3 n => ?_))
 cases r with
 | error e=>exact n.elim
 | ok f =>
   obtain ⟨σ3,L,O,S⟩:=n
   exact hk s3 σ3 L O S
noncomputable def aQ (cells:List (Str×Addr)):List (Str×NameKind)->List (Str×Addr)->List (Str×Addr)
 | [],acc=>acc
 | (n,k)::r,acc=>if k == .free then (match cells.lookup n with | some c=>aQ cells r ((n,c)::acc) | none=>aQ cells r acc) else aQ cells r acc
theorem gI {env:Env}:∀ (names:List (Str×NameKind)) (acc:List (Str×Addr)),(∀ x∈names,x.2 = .free->(env.cells.lookup x.1).isSome=true) ->
 (forIn names acc fun (x:Str×NameKind) (r:List (Str×Addr))=>(match x with | (name,kind)=>if (kind==NameKind.free)=true then do let c <- cellOf env name;pure (ForInStep.yield ((name,c)::r)) else pure (ForInStep.yield r):Sem (ForInStep (List (Str×Addr)))))=(pure (aQ env.cells names acc):Sem (List (Str×Addr)))
 | [],acc,_=>rfl
 | (n,k)::r,acc,h=>by
  rw [List.forIn_cons]
  have ih:=fun acc'=>gI r acc' fun x hx=>h x (List.mem_cons_of_mem _ hx)
  unfold aQ
  by_cases hk:(k==NameKind.free)=true
  ·obtain ⟨c,q⟩:=Option.isSome_iff_exists.mp (h (n,k) List.mem_cons_self (beq_iff_eq.mp hk))
   have j:env.cells.lookup n=some c:=q
   have e1:cellOf env n=pure c:=by unfold cellOf;rw [j]
   simp only [hk,if_true,e1,j,pure_bind]
   exact ih _
  ·simp only [hk,if_false,pure_bind]
   exact ih _
theorem iA {scope:Scope} {env:Env} (h:∀ x∈scope.names,x.2 = .free->(env.cells.lookup x.1).isSome=true):closureFor scope env=pure (aQ env.cells scope.names []):=by
 unfold closureFor
 have e:=gI (env:=env) scope.names [] h
 simp only [bind_pure]
 exact e
theorem cT {cells:List (Str×Addr)} {y:Str} {c:Addr}:∀ {names:List (Str×NameKind)} {acc:List (Str×Addr)},(y,c)∈aQ cells names acc->(y,c)∈acc∨(cells.lookup y=some c/\(y,NameKind.free)∈names)
 | [],acc,h => .inl h
 | (n,k)::r,acc,h=>by
  unfold aQ at h
  by_cases hk:(k==NameKind.free)=true
  ·rw [if_pos hk] at h
   have B:k = .free:=beq_iff_eq.mp hk
   subst B
   cases F:cells.lookup n with
   | none =>
     rw [F] at h
     rcases cT h with z | ⟨j,q⟩
     ·exact .inl z
     ·exact .inr ⟨j,List.mem_cons_of_mem _ q⟩
   | some c' =>
     rw [F] at h
     rcases cT h with z | ⟨j,q⟩
     ·rcases List.mem_cons.mp z with e | z
      ·cases e
       exact .inr ⟨F,List.mem_cons_self⟩
      ·exact .inl z
     ·exact .inr ⟨j,List.mem_cons_of_mem _ q⟩
  ·rw [if_neg hk] at h
   rcases cT h with z | ⟨j,q⟩
   ·exact .inl z
   ·exact .inr ⟨j,List.mem_cons_of_mem _ q⟩
theorem cU {cells:List (Str×Addr)} {y:Str} {c:Addr} (j:cells.lookup y=some c):∀ {names:List (Str×NameKind)} {acc:List (Str×Addr)},((y,c)∈acc∨(y,NameKind.free)∈names)->(y,c)∈aQ cells names acc
 | [],acc,h=>by
  rcases h with h | h
  ·exact h
  ·simp at h
 | (n,k)::r,acc,h=>by
  unfold aQ
  by_cases hk:(k==NameKind.free)=true
  ·rw [if_pos hk]
   have q:k = .free:=beq_iff_eq.mp hk
   subst q
   cases hl:cells.lookup n with
   | none =>
     refine cU j ?_
     rcases h with h | h
     ·exact .inl h
     ·rcases List.mem_cons.mp h with e | h
      ·cases e;rw [hl] at j;cases j
      ·exact .inr h
   | some c' =>
     refine cU j ?_
     rcases h with h | h
     ·exact .inl (List.mem_cons_of_mem _ h)
     ·rcases List.mem_cons.mp h with e | h
      ·cases e;rw [hl] at j;cases j;exact .inl List.mem_cons_self
      ·exact .inr h
  ·rw [if_neg hk]
   refine cU j ?_
   rcases h with h | h
   ·exact .inl h
   ·rcases List.mem_cons.mp h with e | h
    ·cases e;exact absurd rfl hk
    ·exact .inr h
theorem cM:∀ (names:List (Str×NameKind)) (n:Nat) (acc acc':List (Str×Addr)),cellsFrom n names (acc++acc')=cellsFrom n names acc++acc'
 | [],_,_,_=>rfl
 | (x,k)::r,n,acc,acc'=>by
  unfold cellsFrom
  by_cases j:(k==NameKind.cell)=true
  ·rw [if_pos j,if_pos j]
   exact cM r (n+1) ((x,n)::acc) acc'
  ·rw [if_neg j,if_neg j]
   exact cM r n acc acc'
theorem cN:∀ {names:List (Str×NameKind)} {n:Nat} {acc:List (Str×Addr)} {y:Str} {c:Addr},(y,c)∈cellsFrom n names acc->(y,c)∈acc∨(n<=c/\(y,NameKind.cell)∈names)
 | [],_,_,_,_,h => .inl h
 | (x,k)::r,n,acc,y,c,h=>by
  unfold cellsFrom at h
  by_cases hk:(k==NameKind.cell)=true
  ·rw [if_pos hk] at h
   have j:k = .cell:=beq_iff_eq.mp hk
   subst j
   rcases cN h with z | ⟨q,B⟩
   ·rcases List.mem_cons.mp z with e | z
    ·cases e;exact .inr ⟨Nat.le_refl _,List.mem_cons_self⟩
    ·exact .inl z
   ·exact .inr ⟨Nat.le_of_succ_le q,List.mem_cons_of_mem _ B⟩
  ·rw [if_neg hk] at h
   rcases cN h with z | ⟨q,B⟩
   ·exact .inl z
   ·exact .inr ⟨q,List.mem_cons_of_mem _ B⟩
structure b5 (sc osc:Scope) (oN N':List Str) (fr:List (Option Nat)):Prop where
 kind:sc.kind = .function
 nd:(sc.names.map (·.1)).Nodup
 ndN:N'.Nodup
 free:∀ x∈sc.names,x.2 = .free->osc.names.lookup x.1=some .cell∨osc.names.lookup x.1=some .free
 len:fr.length=N'.length
 fr:∀ (i j:Nat) (x:Str),N'[i]? = some x->fr[i]? = some (some j)->oN[j]? = some x/\(x,NameKind.free)∈sc.names
noncomputable def inh (fr:List (Option Nat)) (σ:St):St:=fr.map fun o=>o.bind fun j=>(σ[j]?).join
noncomputable def b6 (X:Cx) (sc:Scope) (L:Addr):Env :=
 { scope:=relabel sc X.env,locals:=L,globals:=X.env.globals,cells:=cellsFrom (L+1) sc.names (aQ X.env.cells sc.names []),qual:=X.env.qual,func:=none,code:=X.env.code,frame:=X.env.frame,builtins:=X.env.builtins }
noncomputable def aF (X:Cx) (sc:Scope) (N':List Str) (s:Shared) (H:Hp) (fp:List Addr):Cx :=
 { X with N:=N',s₀ := s,H₀ := H,env:=b6 X sc s.heap.objs.size,outer:=X.stack,stack:=X.stack,ex:=fp,fn:=fun x=>sc.names.lookup x==some .cell,pn := [],xe:=fun _ _=>False }
theorem aP:∀ {l:List (Str×NameKind)} {x:Str} {k:NameKind},(l.map (·.1)).Nodup->(x,k)∈l->l.lookup x=some k
 | (y,k')::r,x,k,nd,h=>by
  have nd':(y::r.map (·.1)).Nodup:=nd
  obtain ⟨n,q⟩:=List.nodup_cons.mp nd'
  rw [List.lookup_cons]
  rcases List.mem_cons.mp h with e | hm
  ·cases e;simp
  ·have j:(x==y)=false:=by
    refine beq_eq_false_iff_ne.mpr fun e => ?_
    subst e
    exact n (List.mem_map.mpr ⟨(x,k),hm,rfl⟩)
   rw [j]
   exact aP q hm
theorem ck {env:Env}:∀ {names:List (Str×NameKind)} {x:Str},
 (names.map fun (n,k)=>if (k==NameKind.free&&env.scope.kind == .function&&env.kindOf n==some .cell) then (n,NameKind.cell) else (n,k)).lookup x =
   (names.lookup x).map fun k=>if (k==NameKind.free&&env.scope.kind == .function&&env.kindOf x==some .cell) then NameKind.cell else k
 | [],_=>rfl
 | (n,k)::r,x=>by
  have ih:=ck (env:=env) (names:=r) (x:=x)
  show List.lookup x ((if (k==NameKind.free&&env.scope.kind == .function&&env.kindOf n==some .cell)=true then (n,NameKind.cell) else (n,k))::_)=_
  rw [List.lookup_cons (a:=x) (b:=k)]
  by_cases hx:x=n
  ·subst hx
   simp only [beq_self_eq_true]
   show _=some (if (k==NameKind.free&&env.scope.kind == .function&&env.kindOf x==some .cell)=true then NameKind.cell else k)
   by_cases j:(k==NameKind.free&&env.scope.kind == .function&&env.kindOf x==some .cell)=true
   ·rw [if_pos j,if_pos j,List.lookup_cons];simp only [beq_self_eq_true]
   ·rw [if_neg j,if_neg j,List.lookup_cons];simp only [beq_self_eq_true]
  ·have q:(x==n)=false:=beq_eq_false_iff_ne.mpr hx
   rw [q]
   by_cases j:(k==NameKind.free&&env.scope.kind == .function&&env.kindOf n==some .cell)=true
   ·rw [if_pos j,List.lookup_cons,q];exact ih
   ·rw [if_neg j,List.lookup_cons,q];exact ih
section
variable {pins:List (Addr×Obj)} {σ:St} {H:Hp} {s:Shared} {sc:Scope} {N':List Str} {fr:List (Option Nat)} {fp:List Addr}
theorem fC (I:Inv X pins σ H s) (B:b5 sc X.env.scope X.N N' fr):∀ x∈sc.names,x.2 = .free->(X.env.cells.lookup x.1).isSome=true:=fun x hx e=>by
 obtain ⟨c,j⟩:=I.ok.has x.1 (B.free x hx e)
 rw [j];rfl
theorem rQ (I:Inv X pins σ H s) (f2:∀ b∈fp,bS X pins H b) (R:∀ b∈fp,b < s.heap.objs.size) (B:b5 sc X.env.scope X.N N' fr) :
 Inv (aF X sc N' s H fp) [] (inh fr σ) H { s with heap:=pushCells (s.heap.push { cls := .type "dict",data := .dict #[] }) sc.names }:=by
 have F:∀ b o,s.heap.get? b=some o->(pushCells (s.heap.push { cls := .type "dict",data := .dict #[] }) sc.names).get? b=some o:=fun b o e=>pushCells_keeps _ _ b o (Heap.get?_push_of_some _ e)
 have ok:=cellsFrom_ok sc.names (s.heap.push { cls := .type "dict",data := .dict #[] }) (s.heap.objs.size+1) [] ⟨fun _ _ hm=>(nomatch hm),List.Pairwise.nil⟩ (by rw [Heap.size_push];exact Nat.le_refl _)
 rw [Heap.size_push] at ok
 have capp:cellsFrom (s.heap.objs.size+1) sc.names (aQ X.env.cells sc.names [])=cellsFrom (s.heap.objs.size+1) sc.names []++aQ X.env.cells sc.names []:=cM sc.names _ [] _
 have cof:∀ x c,(b6 X sc s.heap.objs.size).cells.lookup x=some c->((x,c)∈cellsFrom (s.heap.objs.size+1) sc.names []/\s.heap.objs.size < c)∨(X.env.cells.lookup x=some c/\(x,NameKind.free)∈sc.names):=fun x c e=>by
  have m:=PySem.mem_of_lookup e
  have m':(x,c)∈cellsFrom (s.heap.objs.size+1) sc.names (aQ X.env.cells sc.names []):=m
  rw [capp] at m'
  rcases List.mem_append.mp m' with z | z
  ·exact .inl ⟨z,(ok.empty x c z).2⟩
  ·rcases cT z with q | q
   ·simp at q
   ·exact .inr q
 have cOld:∀ x c,X.env.cells.lookup x=some c->c < s.heap.objs.size:=fun x c e=>by
  obtain ⟨v,q⟩:=I.cell x c e
  exact q.lt
 have kindF:∀ x,(x,NameKind.free)∈sc.names->(b6 X sc s.heap.objs.size).kindOf x=some .cell∨(b6 X sc s.heap.objs.size).kindOf x=some .free:=fun x hx=>by
  have e1:sc.names.lookup x=some .free:=aP B.nd hx
  have e2:(b6 X sc s.heap.objs.size).kindOf x=_:=ck (env:=X.env) (names:=sc.names) (x:=x)
  rw [e1] at e2
  rw [e2]
  by_cases G:(NameKind.free==NameKind.free&&X.env.scope.kind == .function&&X.env.kindOf x==some .cell)=true
  ·exact .inl (by simp only [Option.map_some,if_pos G])
  ·exact .inr (by simp only [Option.map_some,if_neg G])
 have cellF:∀ x c,(x,NameKind.free)∈sc.names->X.env.cells.lookup x=some c->(b6 X sc s.heap.objs.size).cells.lookup x=some c:=fun x c hx G=>by
  have m:=cU (acc := []) G (.inr hx)
  have m2:(x,c)∈(b6 X sc s.heap.objs.size).cells:=by
   show (x,c)∈cellsFrom (s.heap.objs.size+1) sc.names (aQ X.env.cells sc.names [])
   rw [capp]
   exact List.mem_append_right _ m
  cases n:(b6 X sc s.heap.objs.size).cells.lookup x with
  | none =>
    exfalso
    have:∀ {l:List (Str×Addr)},(x,c)∈l->l.lookup x=none->False:=by
     intro l
     induction l with
     | nil=>intro h;simp at h
     | cons a r ih =>
       intro h e
       obtain ⟨y,d⟩:=a
       rw [List.lookup_cons] at e
       rcases List.mem_cons.mp h with z | z
       ·cases z;simp at e
       ·by_cases hxy:(x==y)=true
        ·rw [hxy] at e;cases e
        ·simp only [Bool.not_eq_true] at hxy
         rw [hxy] at e
         exact ih z e
    exact this m2 n
  | some c' =>
    rcases cof x c' n with ⟨z,_⟩ | ⟨z,_⟩
    ·rcases cN z with q | ⟨_,q⟩
     ·simp at q
     ·have a1:=aP B.nd hx
      have a2:=aP B.nd q
      rw [a1] at a2;cases a2
    ·rw [G] at z;rw [z]
 have kindC:∀ x,(b6 X sc s.heap.objs.size).kindOf x=some .cell->(x,NameKind.cell)∈sc.names∨(x,NameKind.free)∈sc.names:=fun x e=>by
  have e2:(b6 X sc s.heap.objs.size).kindOf x=_:=ck (env:=X.env) (names:=sc.names) (x:=x)
  rw [e2] at e
  cases n:sc.names.lookup x with
  | none=>rw [n] at e;cases e
  | some k =>
    rw [n] at e
    have m:=PySem.mem_of_lookup n
    cases k with
    | cell=>exact .inl m
    | free=>exact .inr m
    | «local» => simp at e
    | globalImplicit=>simp at e
    | globalExplicit=>simp at e
 have kindFr:∀ x,(b6 X sc s.heap.objs.size).kindOf x=some .free->(x,NameKind.free)∈sc.names:=fun x e=>by
  have e2:(b6 X sc s.heap.objs.size).kindOf x=_:=ck (env:=X.env) (names:=sc.names) (x:=x)
  rw [e2] at e
  cases n:sc.names.lookup x with
  | none=>rw [n] at e;cases e
  | some k =>
    rw [n] at e
    have m:=PySem.mem_of_lookup n
    cases k with
    | free=>exact m
    | cell=>simp at e
    | «local» => simp at e
    | globalImplicit=>simp at e
    | globalExplicit=>simp at e
 refine ⟨⟨I.ok.mod,B.kind,I.ok.glob,I.ok.blt,Nat.le_refl _,fun y z c h1 h2 => ?_,fun y S => ?_,fun y c hf h => ?_,I.ok.hd,I.ok.frames, .inl rfl,fun b L=>⟨?_,fun x c e => ?_⟩,fun b o e=>I.bs b o e, ?_,fun b o e L => ?_,fun b L => ?_,I.stack,I.stkFree⟩,
  rfl,I.bare,Un.kept F,⟨_,(Heap.Ns.new s.heap (.type "dict")).keeps (pushCells_keeps _ _),fun i x v h1 h2 h3 => ?_⟩,fun y c h => ?_,I.hok.fresh (Nat.le_refl _),fun y c h => ?_,fun p hp=>absurd (show p∈([]:List (Addr×Obj)) from hp) (by simp),I.hok.kept F, ?_⟩
 ·rcases cof y c h1 with ⟨a1,a2⟩ | ⟨a1,a2⟩
  ·rcases cof z c h2 with ⟨b1,b2⟩ | ⟨b1,b2⟩
   ·exact name_of_addr ok.apart a1 b1
   ·exact absurd (cOld z c b1) (Nat.not_lt.mpr (Nat.le_of_lt a2))
  ·rcases cof z c h2 with ⟨b1,b2⟩ | ⟨b1,b2⟩
   ·exact absurd (cOld y c a1) (Nat.not_lt.mpr (Nat.le_of_lt b2))
   ·exact I.ok.inj y z c a1 b1
 ·have CC:(y,NameKind.cell)∈sc.names∨(y,NameKind.free)∈sc.names:=by
   rcases S with S | S
   ·exact kindC y S
   ·exact .inr (kindFr y S)
  rcases CC with q | q
  ·exact Option.isSome_iff_exists.mp (PySem.W.cellsFrom_some sc.names _ _ (.inl (aP B.nd q)))
  ·obtain ⟨c,G⟩:=Option.isSome_iff_exists.mp (fC I B _ q rfl)
   exact ⟨c,cellF y c q G⟩
 ·have CD:(sc.names.lookup y==some .cell)=true:=hf
  have U:sc.names.lookup y=some .cell:=by simpa using CD
  rcases cof y c h with ⟨_,a2⟩ | ⟨_,a2⟩
  ·exact Nat.le_of_lt a2
  ·rw [aP B.nd a2] at U;cases U
 ·exact Nat.ne_of_lt (R b L)
 ·rcases cof x c e with ⟨_,a2⟩ | ⟨a1,_⟩
  ·exact Nat.ne_of_gt (Nat.lt_trans (R b L) a2)
  ·exact (f2 b L).2.2.2.2.1 x c a1
 ·exact Nat.le_trans I.ok.bsz I.sz
 ·obtain ⟨f0,f1,f3,f4,f5,f6⟩:=f2 b L
  rcases f4 with z | z
  ·exact I.ok.noex b o e z
  ·exact absurd (Nat.lt_of_lt_of_le (Nat.lt_of_lt_of_le (Heap.lt_size e) I.ok.bsz) z) (Nat.lt_irrefl _)
 ·obtain ⟨f0,f1,f3,f4,f5,f6⟩:=f2 b L
  exact fun z=>(List.mem_cons.mp (I.stkSub b z)).elim f1 f3
 ·have hi:∃ j,fr[i]? = some (some j) /\ σ[j]? = some (some v):=by
   unfold inh at h2
   rw [List.getElem?_map] at h2
   cases e:fr[i]? with
   | none=>rw [e] at h2;cases h2
   | some o =>
     rw [e] at h2
     cases o with
     | none=>cases h2
     | some j =>
       refine ⟨j,rfl, ?_⟩
       have J:some ((σ[j]?).join)=some (some v):=h2
       cases e' : σ[j]? with
       | none=>rw [e'] at J;cases J
       | some w=>rw [e'] at J;cases J;rfl
  obtain ⟨j,e1,e2⟩:=hi
  obtain ⟨n1,Z⟩:=B.fr i j x h1 e1
  obtain ⟨m,hn,n⟩:=I.loc
  have hv:Vis X.env.scope x := .inr (B.free (x, .free) Z rfl)
  obtain ⟨u,ru,lk⟩:=n j x v n1 e2 hv
  refine ⟨u,ru, .inr ⟨kindF x Z, ?_⟩⟩
  rcases lk with ⟨k1,_⟩ | ⟨_,c,G,O⟩
  ·have Y:X.env.scope.names.lookup x=some .local:=k1
   rcases B.free (x, .free) Z rfl with z | z
   ·rw [Y] at z;cases z
   ·rw [Y] at z;cases z
  ·exact ⟨c,cellF x c Z G,O.keeps F⟩
 ·rcases cof y c h with ⟨a1,a2⟩ | ⟨a1,a2⟩
  ·exact ⟨_,(ok.empty y c a1).1⟩
  ·obtain ⟨v,q⟩:=I.cell y c a1
   exact ⟨v,q.keeps F⟩
 ·rcases cof y c h with ⟨a1,a2⟩ | ⟨a1,a2⟩
  ·exact I.hok.fresh (Nat.le_of_lt a2)
  ·exact I.freeC y c a1
 ·show (inh fr σ).length=N'.length
  unfold inh
  rw [List.length_map]
  exact B.len
theorem jY {σ':St} {H':Hp} {s':Shared} {h':Heap} (I:Inv X pins σ H s) (f2:∀ b∈fp,bS X pins H b) (J:Inv (aF X sc N' s H fp) [] σ' H' s') (hs:Heap.SameBut s.heap.objs.size s'.heap h') :
 Inv X pins σ H' { s' with heap:=h' }:=by
 have u:Un (frs X.stack) fp H H' s.heap s'.heap:=J.base
 have ne:∀ b o,s.heap.get? b=some o->b≠s.heap.objs.size:=fun b o e=>Nat.ne_of_lt (Heap.lt_size e)
 refine I.call' (s' := { s' with heap:=h' }) (ch:=fp) J.os ⟨fun b o e n j hx => ?_,fun b o e n j hx => ?_,u.free,fun b o e hx => ?_,u.tups,u.frzs,u.tbls⟩ (fun b v e => ?_) J.bare fun b j => ?_
 ·exact (hs.2 b (ne b o e)).trans (u.keep b o e n j hx)
 ·obtain ⟨sl,q⟩:=u.slot b o e n j hx
  exact ⟨sl,(hs.2 b (ne b o e)).trans q⟩
 ·obtain ⟨o',q⟩:=u.there b o e hx
  exact ⟨o',(hs.2 b (ne b o e)).trans q⟩
 ·refine (J.hok b v e).stay (fun c w F q=>(hs.2 c ?_).trans q) (fun _ q=>q) fun _ _ q=>q
  have fr:H' s.heap.objs.size=none:=J.free
  rcases F with z | z
  ·rw [z];intro B;rw [B,fr] at e;cases e
  ·intro B;rw [B,fr] at z;cases z
 ·obtain ⟨f0,f1,O,f4,G,L⟩:=f2 b j
  exact ⟨f4,f1,G,L⟩
theorem kJ {Q:Env->Shared->Prop} {E:Value->Shared->Prop} {M:Model} {A:Around}
 (h:Q { scope:=sc,locals:=s.heap.objs.size,globals:=X.env.globals,cells:=cellsFrom (s.heap.objs.size+1) sc.names (aQ X.env.cells sc.names []),qual:=X.env.qual,func:=none,code:=X.env.code,frame:=X.env.frame,builtins:=X.env.builtins }
   { s with heap:=pushCells (s.heap.push { cls := .type "dict",data := .dict #[] }) sc.names }) :
 wpAny M A (newFunctionEnv sc X.env.globals (aQ X.env.cells sc.names []) [] X.env.qual none .none (some X.env)) Q E s:=by
 simp only [newFunctionEnv,Option.isSome_some,if_true]
 refine wpAny_bind (wpAny_alloc ?_)
 refine wpAny_bind (wpAny_layCells _ (fun name kind cells=>by cases hkc:kind==NameKind.cell <;> simp [hkc]) _ _ _ _ ?_)
 rw [show ({ s with heap:=s.heap.push { cls := .type "dict",data := .dict #[] } }:Shared).heap.objs.size=s.heap.objs.size+1 from Heap.size_push ..]
 exact wpAny_bind (wpAny_pure (wpAny_pure h))
theorem lr (hc:X.calm=true) {elt target iter:Expr} {ifs:List Expr} {rest:List Comprehension} {pos:Pos} {E:Value->Shared->Prop}
 (hx:∀ e s,X.xe e s->False) (B:b5 sc X.env.scope X.N N' fr) (ha:∀ g',rest[0]? = some g'->g'.is_async=0) {wi:TI} (hi:PI X target iter wi) {g:TG} {tb:Addr->TC}
 (hg:∀ s H fp,PG (aF X sc N' s H fp) target g)
 (j:∀ s H fp p,PB (aF X sc N' s H fp) (fun k=>bb ifs (aF X sc N' s H fp).env >>= fun ok=>if ok=true then b4 elt (⟨target,iter,ifs,0⟩::rest) sc pos 0 (.ref p) (aF X sc N' s H fp).env k else k) (tb p))
 {Nn:Addr->St->Hp->Prop} {RR:Value->Addr->Result->Shared->Prop} (I:Inv X pins σ H s)
 (h:wi σ H fun J H1 => ∀ p,H1 p=none->cj J g (tb p) (Nn p) (inh fr σ) (upd H1 p (.lst [])))
 (hR:∀ p fp s3 G s' σ' H' f,Inv X pins σ G s3->(∀ b∈fp,bS X pins G b)->Inv (aF X sc N' s3 G fp) [] σ' H' s'->Nn p σ' H'->RR (.ref p) s3.heap.objs.size (.ok f) s') :
 wpAny (model X.prog X.w) X.A (eval iter X.env) (fun x s₁ => wpAny (model X.prog X.w) X.A (pyIter x) (fun it s₂ => wpAny (model X.prog X.w) X.A (newList []) (fun acc s₃ =>
  wpAny (model X.prog X.w) X.A (newFunctionEnv sc X.env.globals (aQ X.env.cells sc.names []) [] X.env.qual none .none (some X.env)) (fun cenv s₄ =>
   codeAny (model X.prog X.w) X.A (.compStart (.ListComp elt (⟨target,iter,ifs,0⟩::rest) sc pos) 0 it acc { cenv with scope:=relabel sc X.env }) (RR acc cenv.locals) s₄) E s₃) E s₂) E s₁) E s:=by
 refine nox hx (thn (hi pins s σ H _ I h) fun v s1 h1=>nox hx (thn h1 fun itv s2 h2 => ?_))
 obtain ⟨it,fp,tn,J,H2,e,U,T,n,f2,hw⟩:=h2
 subst e
 have hf:H2 s2.heap.objs.size=none:=U.hok.fresh (Nat.le_refl _)
 refine wpAny_newList ?_
 have Y:Inv X pins σ (upd H2 s2.heap.objs.size (.lst [])) { s2 with heap:=s2.heap.push { cls := .type "list",dict:=none,data := .seq ([]:List Value).toArray } } :=
  U.laid (t':=s2.toks) (fun b u e=>Heap.get?_push_of_some _ e) (Nat.le_refl _) ⟨Nat.zero_le _,[],0, .nil,Heap.get?_push_size _ rfl⟩
 have fneq:∀ b∈fp,b≠s2.heap.objs.size:=fun b j z=>by
  obtain ⟨o,e,_⟩:=T.obj _ _ n b j
  exact absurd (Heap.lt_size e) (by rw [z];exact Nat.lt_irrefl _)
 have L:∀ b∈fp,bS X pins (upd H2 s2.heap.objs.size (.lst [])) b:=fun b j=>⟨by rw [ah (fneq b j)];exact (f2 b j).1,(f2 b j).2⟩
 have O:∀ b∈fp,b < (s2.heap.push { cls := .type "list",dict:=none,data := .seq ([]:List Value).toArray }).objs.size:=fun b j=>by
  obtain ⟨o,e,_⟩:=T.obj _ _ n b j
  rw [Heap.size_push]
  exact Nat.lt_succ_of_lt (Heap.lt_size e)
 have S:tn 0 (s2.heap.push { cls := .type "list",dict:=none,data := .seq ([]:List Value).toArray }):=T.keep _ _ _ n fun b _ o e=>Heap.get?_push_of_some _ e
 refine kJ ?_
 have F:=rQ (N':=N') Y L O B
 have q:=T.keep _ (h':=pushCells (({ s2 with heap:=s2.heap.push { cls := .type "list",dict:=none,data := .seq ([]:List Value).toArray } }:Shared).heap.push { cls := .type "dict",data := .dict #[] }) sc.names) _ S fun b _ o e=>pushCells_keeps _ _ b o (Heap.get?_push_of_some _ e)
 have f4:∀ b∈fp,bS (aF X sc N' { s2 with heap:=s2.heap.push { cls := .type "list",dict:=none,data := .seq ([]:List Value).toArray } } (upd H2 s2.heap.objs.size (.lst [])) fp) [] (upd H2 s2.heap.objs.size (.lst [])) b:=fun b j =>
  ⟨(L b j).1,(F.ok.exf b j).1,F.ok.exfs b j, .inl j,(F.ok.exf b j).2,fun p hp=>absurd (show p∈([]:List (Addr×Obj)) from hp) (by simp)⟩
 have loop:=jW (X:=aF X sc N' { s2 with heap:=s2.heap.push { cls := .type "list",dict:=none,data := .seq ([]:List Value).toArray } } (upd H2 s2.heap.objs.size (.lst [])) fp) (fun _ _ z=>z) hc
  (elt:=elt) (pos:=pos) (scope:=sc) (gens:=⟨target,iter,ifs,0⟩::rest) (d := 0) (acc := .ref s2.heap.objs.size) rfl (fun g' e=>ha g' (by simpa using e)) (hg _ _ _) (j _ _ _ _) F T q f4 (hw _ hf)
 refine codeAny_mono (iz (R:=fun r s'=>match r with | .ok _ => ∃ σ' H',Inv (aF X sc N' { s2 with heap:=s2.heap.push { cls := .type "list",dict:=none,data := .seq ([]:List Value).toArray } } (upd H2 s2.heap.objs.size (.lst [])) fp) [] σ' H' s'/\Nn s2.heap.objs.size σ' H' | .error _=>False)
  (gens:=⟨target,iter,ifs,0⟩::rest) (d := 0) rfl loop (T.self _ 0 _ _ _ q loop)) fun r s5 Z => ?_
 cases r with
 | error e=>exact Z.elim
 | ok f =>
   obtain ⟨σ5,H5,I5,n5⟩:=Z
   exact hR _ fp _ _ s5 σ5 H5 f Y L I5 n5
noncomputable def qd (wi:TI) (g:TG) (tb:Addr->TC) (fr:List (Option Nat)):TE:=fun σ H Q=>wi σ H fun J H1 => ∀ p,H1 p=none->cj J g (tb p) (fun _ H2=>Q (.ref p) H2) (inh fr σ) (upd H1 p (.lst []))
theorem jZ (B:b5 sc X.env.scope X.N N' fr):∀ x∈sc.names,x.2 = .local->sc.names.lookup x.1=some .local:=fun x hx e=>by
 obtain ⟨n,k⟩:=x
 have e':k = .local:=e
 subst e'
 exact aP B.nd hx
theorem gJ (n:X.calm=true) {elt target iter:Expr} {ifs:List Expr} {rest:List Comprehension} {pos:Pos}
 (hx:∀ e s,X.xe e s->False) (B:b5 sc X.env.scope X.N N' fr) (z:∀ g',rest[0]? = some g'->g'.is_async=0) {wi:TI} (hi:PI X target iter wi) {g:TG} {tb:Addr->TC}
 (F:∀ s H fp,PG (aF X sc N' s H fp) target g)
 (G:∀ s H fp p,PB (aF X sc N' s H fp) (fun k=>bb ifs (aF X sc N' s H fp).env >>= fun ok=>if ok=true then b4 elt (⟨target,iter,ifs,0⟩::rest) sc pos 0 (.ref p) (aF X sc N' s H fp).env k else k) (tb p))
 (hs:∀ x,foldedSetIterable iter X.env x=pure x) :
 PE X (.ListComp elt (⟨target,iter,ifs,0⟩::rest) sc pos) (qd wi g tb fr):=by
 intro pins s σ H Q I h
 rw [eval_ListComp]
 refine wpAny_comprehension_free (use:=none) rfl hs (iA (fC I B)) B.kind (jZ B) (lr (Nn:=fun p _ H2=>Q (.ref p) H2) (RR:=fun acc C=>compPost (model X.prog X.w) X.A X.xe none (EP X pins σ Q) acc C) n hx B z hi F G I h ?_)
 intro p fp s3 S s' σ' H' f L O J q
 obtain ⟨m,R,_⟩:=J.loc
 exact ⟨m,R,fun h' j=>⟨.ref p,H',jY L O J j,rfl,q⟩⟩
theorem iB (hc:X.calm=true) {elt target iter:Expr} {ifs:List Expr} {rest:List Comprehension} {pos pos' spos:Pos} {x:Str} {i:Nat}
 (hx:∀ e s,X.xe e s->False) (B:b5 sc X.env.scope X.N N' fr) (ha:∀ g',rest[0]? = some g'->g'.is_async=0) {wi:TI} (hi:PI X target iter wi) {g:TG} {tb:Addr->TC}
 (hg:∀ s H fp,PG (aF X sc N' s H fp) target g)
 (n:∀ s H fp p,PB (aF X sc N' s H fp) (fun k=>bb ifs (aF X sc N' s H fp).env >>= fun ok=>if ok=true then b4 elt (⟨target,iter,ifs,0⟩::rest) sc pos 0 (.ref p) (aF X sc N' s H fp).env k else k) (tb p))
 (hs:∀ x,foldedSetIterable iter X.env x=pure x) (F:PG X (.Name x pos') (ig i))
 (G:swapsWith (.ListComp elt (⟨target,iter,ifs,0⟩::rest) sc pos) (some (.Name x pos')) spos.line X.env=pure true) :
 PS X (.Assign [.Name x pos'] (.ListComp elt (⟨target,iter,ifs,0⟩::rest) sc pos) spos) (pU (qd wi g tb fr) (ig i)):=by
 intro pins s σ H D I h
 rw [exec_Assign_Name_used _ _ _ _ G]
 refine wpAny_bind (wpAny_standAt (wpAny_bind ?_))
 show wpAny _ X.A (do let _ <- comprehension (.ListComp elt (⟨target,iter,ifs,0⟩::rest) sc pos) sc X.env _ (newList []) false (eval iter X.env) (some (assign (.Name x pos') X.env))) _ _ s
 refine wpAny_bind (wpAny_mono (wpAny_comprehension_free (use:=some (assign (.Name x pos') X.env)) (Q:=fun _ s'=>SP X pins D .next s') rfl hs (iA (fC I B)) B.kind (jZ B)
  (lr (Nn:=fun p _ H2=>D.nx (σ.set i (some (.ref p))) H2) (RR:=fun acc C=>compPost (model X.prog X.w) X.A X.xe (some (assign (.Name x pos') X.env)) (fun _ s'=>SP X pins D .next s') acc C) hc hx B ha hi hg n I h ?_)) (fun _ s' hq=>wpAny_pure (wpAny_pure hq)) fun _ _ e=>e)
 intro p fp s3 H3 s' σ' H' f j f3 J q
 obtain ⟨m,⟨o,es,ep,ho,hd,hk,hm⟩,_⟩:=J.loc
 have Y:Inv X pins σ H' s':=jY (h':=s'.heap) j f3 J ⟨rfl,fun _ _=>rfl⟩
 have hL:(aF X sc N' s3 H3 fp).env.locals=s3.heap.objs.size:=rfl
 rw [hL] at ho
 have L:H' s3.heap.objs.size=none:=J.free
 have neL:s3.heap.objs.size≠X.env.locals:=Nat.ne_of_gt j.lt
 have nfs:s3.heap.objs.size∉X.fs:=j.nofs (Nat.le_refl _)
 have I5:Inv X (pins++[(s3.heap.objs.size,o)]) σ H' s':=Y.pins_of fun pr O=>by
  rcases List.mem_append.mp O with z | z
  ·exact Y.pin pr (List.mem_append_right _ z)
  ·have e:pr=(s3.heap.objs.size,o):=by simpa using z
   subst e
   exact ⟨ho,L,neL,nfs,fun v z=>by rw [hd] at z;cases z⟩
 show wpAny _ X.A (assign (.Name x pos') X.env (.ref p)) _ _ _
 refine thn (F _ s' σ H' (.ref p) (.ref p) D.nx I5 rfl q) fun _ s6 ⟨σ6,H6,Z,q6⟩ => ?_
 obtain ⟨R,S,_⟩:=Z.pin (s3.heap.objs.size,o) (List.mem_append_right _ (List.mem_append_right _ (by simp)))
 refine ⟨m,⟨o,es,ep,R,hd,hk,hm⟩,fun h' U=>⟨σ6,H6, ?_,q6⟩⟩
 refine (Z.unpinned).turned (t':=s6.toks) (it:=s3.heap.objs.size) (fun b o n e=>(U.2 b n).trans e) S neL (.inr j.sz) (fun y c e z => ?_) fun pr O z => ?_
 ·obtain ⟨v,q⟩:=j.cell y c e
  exact absurd q.lt (by rw [z];exact Nat.lt_irrefl _)
 ·exact absurd (Heap.lt_size (j.pin pr O).1) (by rw [z];exact Nat.lt_irrefl _)
end
end
end
end L2
namespace L2
namespace Zp
open PySem PySem.Spec PyProof.Rows
noncomputable def At (t:Bool) (h:Heap) (i l:Addr) (k:Nat):Prop:=match t with | true=>h.IsTupleIter i l k | false=>h.IsListIter i l k
noncomputable def Sq (t:Bool) (h:Heap) (l:Addr) (xs:Array Value):Prop:=match t with | true=>h.IsTuple l xs | false=>h.IsList l xs
theorem At.up {t:Bool} {h h':Heap} {i l:Addr} {k:Nat} (x:At t h i l k) (e:∀ o,h.get? i=some o->h'.get? i=some o):At t h' i l k:=by
 cases t <;> (obtain ⟨o,ho,r⟩:=x;exact ⟨o,e o ho,r⟩)
theorem Sq.up {t:Bool} {h h':Heap} {l:Addr} {xs:Array Value} (x:Sq t h l xs) (e:∀ o,h.get? l=some o->h'.get? l=some o):Sq t h' l xs:=by
 cases t <;> (obtain ⟨o,ho,r⟩:=x;exact ⟨o,e o ho,r⟩)
theorem At.lt {t:Bool} {h:Heap} {i l:Addr} {k:Nat} (x:At t h i l k):∃ o,h.get? i=some o /\ ∀ v,o.data ≠ .cell v:=by
 cases t <;> (obtain ⟨o,ho,j,hd⟩:=x;exact ⟨o,ho,fun v z=>by rw [hd] at z;cases z⟩)
section
variable {prog:Program} {w:World} {A:Around} {E:Value->Shared->Prop} {s:Shared}
open Builtin.SmallTypes in
theorem uS {i l:Addr} {k:Nat} {xs:Array Value} {x:Value} {Q:Value->Shared->Prop} (hi:s.heap.IsTupleIter i l k) (I:s.heap.IsTuple l xs) (hx:xs[k]? = some x)
 (q:∀ h',h'.IsTupleIter i l (k+1)->Heap.SameBut i s.heap h'->Q x { s with heap:=h' }):wpAny (model prog w) A (nextOf (.ref i)) Q E s:=by
 obtain ⟨ob,n,z,j⟩:=id hi
 obtain ⟨oq,B,_,nq,G⟩:=I
 unfold nextOf
 refine wpAny_bind (wpAny_callSpecial?_slot (name:=Str.ofString "__next__") hi.typeIs F.slot_tuple_iterator_next (wpAny_call_entry F.slot_tuple_iterator_next hi.typeIs F.entry_tuple_iterator_next ?_ (F.args_tuple_iterator_next_1 _)))
 refine wpAny_bind (m:=field (.ref i) 0) (wpAny_field n j (x := .ref l) rfl ?_)
 refine (if_neg (c:=(Value.ref l==Value.none)=true) Bool.false_ne_true) ▸ ?_
 refine wpAny_bind (m:=field (.ref i) 1) (wpAny_field n j (x := .int k 0) rfl ?_)
 refine wpAny_bind (m:=seqItems? (.ref l)) (wpAny_seqItems B G ?_)
 simp only [Int.toNat_natCast,hx]
 refine wpAny_bind (wpAny_setField n j (by simp) (wpAny_pure ⟨x,rfl,wpAny_pure (q _ ⟨_,Heap.get?_update_self _ n (Obj.isFreed_of_fields (Obj.data_mapFields j _)),(Obj.cls_mapFields ..).trans z, ?_⟩ (Heap.SameBut.update ..))⟩))
 rw [Obj.data_mapFields j];simp [rawInt]
open Builtin.SmallTypes in
theorem y4 {i l:Addr} {k:Nat} {xs:Array Value} {Q:Value->Shared->Prop} (G:A.handled=none) (hi:s.heap.IsTupleIter i l k) (I:s.heap.IsTuple l xs) (hx:xs[k]? = none)
 (q:∀ h' e,Heap.ExtBut i s.heap h'->(∃ o,h'.get? e=some o/\o.cls = .type "StopIteration")->E (.ref e) { s with heap:=h' }):wpAny (model prog w) A (nextOf (.ref i)) Q E s:=by
 obtain ⟨ob,j,J,n⟩:=id hi
 obtain ⟨oq,z,_,nq,B⟩:=I
 unfold nextOf
 refine wpAny_bind (wpAny_callSpecial?_slot (name:=Str.ofString "__next__") hi.typeIs F.slot_tuple_iterator_next (wpAny_call_entry F.slot_tuple_iterator_next hi.typeIs F.entry_tuple_iterator_next ?_ (F.args_tuple_iterator_next_1 _)))
 refine wpAny_bind (m:=field (.ref i) 0) (wpAny_field j n (x := .ref l) rfl ?_)
 refine (if_neg (c:=(Value.ref l==Value.none)=true) Bool.false_ne_true) ▸ ?_
 refine wpAny_bind (m:=field (.ref i) 1) (wpAny_field j n (x := .int k 0) rfl ?_)
 refine wpAny_bind (m:=seqItems? (.ref l)) (wpAny_seqItems z B ?_)
 simp only [Int.toNat_natCast,hx]
 refine wpAny_bind (wpAny_rule (wpAny_bind (wpAny_setField j n (by simp) ?_)))
 refine wpAny_bind (m:=newExc (.type "StopIteration") []) ?_
 simp only [newExc,newTuple]
 refine wpAny_bind (wpAny_newObj_type ?_ (by size_fits))
 refine wpAny_bind (m:=firstArgMember _ _) (wpAny_of_eq (a:=Value.none) (by first | rfl | (simp only [firstArgMember];rfl)) (wpAny_newObj_type ?_ (by size_fits)))
 simp only [raiseNew]
 refine wpAny_bind (wpAny_handled ?_)
 first | rw [show A.in1.handled=none from G] | rw [G]
 exact wpAny_bind (wpAny_pure (wpAny_throw (q _ _ (((Heap.SameBut.update ..).extBut.push _).push _) ⟨_,Heap.get?_push_size _ rfl,rfl⟩)))
open Builtin.SmallTypes in
theorem nx_item {t:Bool} {i l:Addr} {k:Nat} {xs:Array Value} {x:Value} {Q:Value->Shared->Prop} (hi:At t s.heap i l k) (j:Sq t s.heap l xs) (hx:xs[k]? = some x)
 (q:∀ h',At t h' i l (k+1)->Heap.SameBut i s.heap h'->Q x { s with heap:=h' }):wpAny (model prog w) A (nextOf (.ref i)) Q E s:=by
 cases t with
 | true=>exact uS hi j hx q
 | false=>exact wpAny_nextOf_list_item hi j hx q
open Builtin.SmallTypes in
theorem nx_end {t:Bool} {i l:Addr} {k:Nat} {xs:Array Value} {Q:Value->Shared->Prop} (j:A.handled=none) (hi:At t s.heap i l k) (n:Sq t s.heap l xs) (hx:xs[k]? = none)
 (q:∀ h' e,Heap.ExtBut i s.heap h'->(∃ o,h'.get? e=some o/\o.cls = .type "StopIteration")->E (.ref e) { s with heap:=h' }):wpAny (model prog w) A (nextOf (.ref i)) Q E s:=by
 cases t with
 | true=>exact y4 j hi n hx q
 | false=>exact wpAny_nextOf_list_end j hi n hx q
open Builtin.SmallTypes in
theorem Ah {z T O i j a b:Addr} {t u:Bool} {k:Nat} {xs ys:Array Value} {x y p r:Value} {Q:Value->Shared->Prop} (D:ZipApart z T O i j a b)
 (F:IsZip s.heap z T O .none) (hT:IsPair s.heap T (.ref i) (.ref j)) (hO:IsPair s.heap O p r)
 (hi:At t s.heap i a k) (hj:At u s.heap j b k) (ha:Sq t s.heap a xs) (hb:Sq u s.heap b ys) (hx:xs[k]? = some x) (hy:ys[k]? = some y)
 (q:∀ h',IsZip h' z T O (rawInt s.heap.objs.size)->IsPair h' O x y->At t h' i a (k+1)->At u h' j b (k+1)->IsPair h' s.heap.objs.size x y ->
   (∀ c o,c≠z->c≠O->c≠i->c≠j->s.heap.get? c=some o->h'.get? c=some o)->Q (.ref s.heap.objs.size) { s with heap:=h' }) :
 wpAny (model prog w) A (Builtin.«zip.__next__» ⟨[.ref z],[]⟩) (fun fin s' => ∃ v,fin = .done (.ret v)/\Q v s') E s:=by
 refine wpAny_bind (m:=field (.ref z) 2) (wpAny_field F rfl (x := .bool false) rfl ?_)
 refine wpAny_bind (m:=field (.ref z) 3) (wpAny_field F rfl (x := .ref T) rfl ?_)
 refine wpAny_bind (wpAny_seqItems hT rfl ?_)
 refine wpAny_bind (m:=ownedTupleIsFree (.ref z)) ?_
 unfold ownedTupleIsFree
 refine wpAny_bind (wpAny_field F rfl (x := .none) rfl (wpAny_pure ?_))
 simp only [if_true]
 refine wpAny_bind (wpAny_rule (wpAny_bind (wpAny_field F rfl (x := .ref O) rfl (wpAny_bind (wpAny_setField_rec F (by simp) fun g1 U s1 => ?_)))))
 have Z1:IsZip g1 z T O .ellipsis:=U
 clear U
 refine wpAny_bind ?_
 simp only [List.zipIdx_cons,List.zipIdx_nil,List.forIn_cons,List.forIn_nil]
 refine wpAny_bind (wpAny_bind (wpAny_onRaise (wpAny_bind (m:=nextOf (.ref i)) ?_)))
 refine nx_item (hi.up fun o e=>s1.extBut _ o D.i1z e) (ha.up fun o e=>s1.extBut _ o D.l1z e) hx fun g2 J s2=>wpAny_pure ?_
 have Y:IsPair g2 O p r:=s2.extBut _ _ D.TOi1 (s1.extBut _ _ D.TOz hO)
 refine wpAny_bind (wpAny_seqItems Y rfl (wpAny_bind (wpAny_updateSeq_pair Y fun g3 Z s3 => ?_)))
 have O3:IsPair g3 O x r:=Z
 clear Z
 refine wpAny_bind (wpAny_letGo (wpAny_pure (wpAny_bind (wpAny_bind (wpAny_onRaise (wpAny_bind (m:=nextOf (.ref j)) ?_))))))
 refine nx_item (hj.up fun o e=>s3.extBut _ o D.TOi2.symm (s2.extBut _ o D.i12.symm (s1.extBut _ o D.i2z e))) (hb.up fun o e=>s3.extBut _ o D.l2TO (s2.extBut _ o D.l2i1 (s1.extBut _ o D.l2z e))) hy fun g4 L s4=>wpAny_pure ?_
 have O4:IsPair g4 O x r:=s4.extBut _ _ D.TOi2 O3
 refine wpAny_bind (wpAny_seqItems O4 rfl (wpAny_bind (wpAny_updateSeq_pair O4 fun n o5 s5 => ?_)))
 have O5:IsPair n O x y:=o5
 clear o5
 refine wpAny_bind (wpAny_letGo (wpAny_pure (wpAny_pure (wpAny_bind (wpAny_seqItems O5 rfl (wpAny_bind (wpAny_newTuple ?_)))))))
 have sz:n.objs.size=s.heap.objs.size:=by rw [s5.1,s4.1,s3.1,s2.1,s1.1]
 have k5:∀ c o,c≠z->c≠O->c≠i->c≠j->s.heap.get? c=some o->n.get? c=some o:=fun c o B G R S e =>
  s5.extBut _ _ G (s4.extBut _ _ S (s3.extBut _ _ G (s2.extBut _ _ R (s1.extBut _ _ B e))))
 have Z5:IsZip n z T O .ellipsis:=s5.extBut _ _ D.TOz.symm (s4.extBut _ _ D.i2z.symm (s3.extBut _ _ D.TOz.symm (s2.extBut _ _ D.i1z.symm Z1)))
 have I5:At t n i a (k+1):=J.up fun o e=>s5.extBut _ o D.TOi1.symm (s4.extBut _ o D.i12 (s3.extBut _ o D.TOi1.symm e))
 have J5:At u n j b (k+1):=L.up fun o e=>s5.extBut _ o D.TOi2.symm e
 have zl:z < n.objs.size:=Heap.lt_size Z5
 refine wpAny_bind (m:=ownedTupleHandOut (.ref z) (.ref n.objs.size)) ?_
 unfold ownedTupleHandOut
 refine wpAny_bind (wpAny_setField_rec (Heap.get?_push_of_some _ Z5) (by simp) fun g7 z7 s7 => ?_)
 have Z7:IsZip g7 z T O (rawInt n.objs.size):=z7
 clear z7
 refine wpAny_setField_rec Z7 (by simp) fun I z8 s8 => ?_
 have Z8:IsZip I z T O (rawInt n.objs.size):=z8
 clear z8
 have up:∀ c o,c≠z->n.get? c=some o->I.get? c=some o:=fun c o B e=>s8.extBut _ _ B (s7.extBut _ _ B (Heap.get?_push_of_some _ e))
 have P8:IsPair I n.objs.size x y:=s8.extBut _ _ (Nat.ne_of_gt zl) (s7.extBut _ _ (Nat.ne_of_gt zl) (Heap.get?_push_size _ rfl))
 rw [sz] at Z8 P8
 refine wpAny_pure ⟨_,rfl, ?_⟩
 show Q (.ref n.objs.size) _
 rw [sz]
 exact q I Z8 (up _ _ D.TOz O5) (I5.up fun o e=>up _ o D.i1z e) (J5.up fun o e=>up _ o D.i2z e) P8 fun c o B G R S e=>up c o B (k5 c o B G R S e)
open Builtin.SmallTypes in
theorem BC {z T O i j a b:Addr} {t u:Bool} {k:Nat} {xs ys:Array Value} {p r:Value} {Q:Fin->Shared->Prop} (S:A.handled=none) (D:ZipApart z T O i j a b)
 (F:IsZip s.heap z T O .none) (hT:IsPair s.heap T (.ref i) (.ref j)) (hO:IsPair s.heap O p r)
 (hi:At t s.heap i a k) (hj:At u s.heap j b k) (ha:Sq t s.heap a xs) (hb:Sq u s.heap b ys) (G:xs[k]? = none∨ys[k]? = none)
 (q:∀ h' e,(∀ c o,c≠z->c≠O->c≠i->c≠j->s.heap.get? c=some o->h'.get? c=some o)->(∃ o,h'.get? e=some o/\o.cls = .type "StopIteration")->E (.ref e) { s with heap:=h' }) :
 wpAny (model prog w) A (Builtin.«zip.__next__» ⟨[.ref z],[]⟩) Q E s:=by
 refine wpAny_bind (m:=field (.ref z) 2) (wpAny_field F rfl (x := .bool false) rfl ?_)
 refine wpAny_bind (m:=field (.ref z) 3) (wpAny_field F rfl (x := .ref T) rfl ?_)
 refine wpAny_bind (wpAny_seqItems hT rfl ?_)
 refine wpAny_bind (m:=ownedTupleIsFree (.ref z)) ?_
 unfold ownedTupleIsFree
 refine wpAny_bind (wpAny_field F rfl (x := .none) rfl (wpAny_pure ?_))
 simp only [if_true]
 refine wpAny_bind (wpAny_rule (wpAny_bind (wpAny_field F rfl (x := .ref O) rfl (wpAny_bind (wpAny_setField_rec F (by simp) fun g1 U s1 => ?_)))))
 have Y:IsZip g1 z T O .ellipsis:=U
 clear U
 refine wpAny_bind ?_
 simp only [List.zipIdx_cons,List.zipIdx_nil,List.forIn_cons,List.forIn_nil]
 refine wpAny_bind (wpAny_bind (wpAny_onRaise (wpAny_bind (m:=nextOf (.ref i)) ?_)))
 have I:At t g1 i a k:=hi.up fun o e=>s1.extBut _ o D.i1z e
 have J:Sq t g1 a xs:=ha.up fun o e=>s1.extBut _ o D.l1z e
 cases hx:xs[k]? with
 | none =>
   refine nx_end S I J hx fun g2 e s2 he => ?_
   obtain ⟨oe,n,B⟩:=he
   have Z:IsZip g2 z T O .ellipsis:=s2 _ _ D.i1z.symm Y
   have ez:e≠z:=fun x=>by subst x;rw [Z] at n;cases n;simp at B
   exact wpAny_setField_rec Z (by simp) fun g3 _ s3=>q g3 e (fun c o L _ R _ x=>s3.extBut _ _ L (s2 _ _ R (s1.extBut _ _ L x))) ⟨oe,s3.extBut _ _ ez n,B⟩
 | some x =>
   have hy:ys[k]? = none:=G.elim (fun z=>by rw [hx] at z;cases z) id
   refine nx_item I J hx fun g2 CC s2=>wpAny_pure ?_
   have O2:IsPair g2 O p r:=s2.extBut _ _ D.TOi1 (s1.extBut _ _ D.TOz hO)
   refine wpAny_bind (wpAny_seqItems O2 rfl (wpAny_bind (wpAny_updateSeq_pair O2 fun g3 o3 s3 => ?_)))
   refine wpAny_bind (wpAny_letGo (wpAny_pure (wpAny_bind (wpAny_bind (wpAny_onRaise (wpAny_bind (m:=nextOf (.ref j)) ?_))))))
   refine nx_end S (hj.up fun o e=>s3.extBut _ o D.TOi2.symm (s2.extBut _ o D.i12.symm (s1.extBut _ o D.i2z e))) (hb.up fun o e=>s3.extBut _ o D.l2TO (s2.extBut _ o D.l2i1 (s1.extBut _ o D.l2z e))) hy fun g4 e s4 he => ?_
   obtain ⟨oe,n,B⟩:=he
   have Z4:IsZip g4 z T O .ellipsis:=s4 _ _ D.i2z.symm (s3.extBut _ _ D.TOz.symm (s2.extBut _ _ D.i1z.symm Y))
   have ez:e≠z:=fun x=>by subst x;rw [Z4] at n;cases n;simp at B
   exact wpAny_setField_rec Z4 (by simp) fun g5 _ s5=>q g5 e (fun c o L c2 R c4 x=>s5.extBut _ _ L (s4 _ _ c4 (s3.extBut _ _ c2 (s2.extBut _ _ R (s1.extBut _ _ L x))))) ⟨oe,s5.extBut _ _ ez n,B⟩
theorem nxt_item {z T O i j a b:Addr} {t u:Bool} {k:Nat} {xs ys:Array Value} {x y p r:Value} {Q:Option Value->Shared->Prop} (D:ZipApart z T O i j a b)
 (n:IsZip s.heap z T O .none) (B:IsPair s.heap T (.ref i) (.ref j)) (G:IsPair s.heap O p r)
 (hi:At t s.heap i a k) (I:At u s.heap j b k) (J:Sq t s.heap a xs) (L:Sq u s.heap b ys) (hx:xs[k]? = some x) (R:ys[k]? = some y)
 (q:∀ h',IsZip h' z T O (rawInt s.heap.objs.size)->IsPair h' O x y->At t h' i a (k+1)->At u h' j b (k+1)->IsPair h' s.heap.objs.size x y ->
   (∀ c o,c≠z->c≠O->c≠i->c≠j->s.heap.get? c=some o->h'.get? c=some o)->Q (some (.ref s.heap.objs.size)) { s with heap:=h' }) :
 wpAny (model prog w) A (pyNext (.ref z)) Q E s:=by
 have ty:s.TypeIs (.ref z) "zip" := ⟨_,n,rfl⟩
 unfold pyNext
 exact wpAny_bind (wpAny_attempt (wpAny_callSpecial?_slot (name:=Str.ofString "__next__") ty F.slot_zip_next (wpAny_call_entry F.slot_zip_next ty F.entry_zip_next
  (Ah D n B G hi I J L hx R fun h' a1 a2 S U Y Z=>wpAny_pure (q h' a1 a2 S U Y Z)) (F.args_zip_next_1 _))))
theorem nxt_end {z T O i j a b:Addr} {t u:Bool} {k:Nat} {xs ys:Array Value} {p r:Value} {Q:Option Value->Shared->Prop} (G:A.handled=none) (D:ZipApart z T O i j a b)
 (B:IsZip s.heap z T O .none) (I:IsPair s.heap T (.ref i) (.ref j)) (J:IsPair s.heap O p r)
 (hi:At t s.heap i a k) (L:At u s.heap j b k) (R:Sq t s.heap a xs) (S:Sq u s.heap b ys) (n:xs[k]? = none∨ys[k]? = none)
 (q:∀ h',(∀ c o,c≠z->c≠O->c≠i->c≠j->s.heap.get? c=some o->h'.get? c=some o)->Q none { s with heap:=h' }):wpAny (model prog w) A (pyNext (.ref z)) Q E s:=by
 have ty:s.TypeIs (.ref z) "zip" := ⟨_,B,rfl⟩
 unfold pyNext
 refine wpAny_bind (wpAny_attempt (wpAny_callSpecial?_slot (name:=Str.ofString "__next__") ty F.slot_zip_next (wpAny_call_entry F.slot_zip_next ty F.entry_zip_next
  (BC G D B I J hi L R S n fun h' e U he => ?_) (F.args_zip_next_1 _))))
 obtain ⟨o,ho,Y⟩:=he
 exact wpAny_bind (wpAny_isInstance (T := "StopIteration") (b:=true) ⟨o,ho,Y⟩ isSubtype_stop (wpAny_pure (q _ U)))
noncomputable def itO (t:Bool) (l:Addr):Obj:=match t with | true => { cls := .type "tuple_iterator",data := .fields #[.ref l, .int 0 0] } | false => { cls := .type "list_iterator",data := .fields #[.ref l, .int 0 0] }
noncomputable def zH1 (h:Heap) (t:Bool) (a:Addr):Heap:=h.push (itO t a)
noncomputable def zH2 (h:Heap) (t u:Bool) (a b:Addr):Heap:=(zH1 h t a).push (itO u b)
noncomputable def zH3 (h:Heap) (t u:Bool) (a b:Addr):Heap:=(zH2 h t u a b).push { cls := .type "tuple",data := .seq #[.ref h.objs.size, .ref (zH1 h t a).objs.size] }
noncomputable def zH4 (h:Heap) (t u:Bool) (a b:Addr):Heap:=(zH3 h t u a b).push { cls := .type "tuple",data := .seq #[.none, .none] }
noncomputable def zH5 (h:Heap) (t u:Bool) (a b:Addr):Heap:=(zH4 h t u a b).push { cls := .type "zip",data := .fields #[.none, .bool false, .bool false, .ref (zH2 h t u a b).objs.size, .ref (zH3 h t u a b).objs.size] }
theorem rR (t u:Bool) (a b:Addr) (xs ys:Array Value) :
 Meets (Builtin.«zip.__new__» ⟨[.type "zip", .ref a, .ref b],[]⟩) (fun _ R s=>Sq t s.heap a xs/\Sq u s.heap b ys/\R (.ok (.ret (.ref (zH4 s.heap t u a b).objs.size))) { s with heap:=zH5 s.heap t u a b }) :=
 .of_wp fun prog w A R s h=>by
  obtain ⟨j,g,d,tk,os⟩:=s;obtain ⟨n,q,h⟩:=h
  have hs:=sub_zip
  cases t <;> cases u
  ·have e1:Heap.IsList (Shared.heap ⟨j,g,d,tk,os⟩) a xs:=n
   have e2:Heap.IsList (Shared.heap ⟨j.push { cls := .type "list_iterator",data := .fields #[.ref a, .int 0 0] },g,d,tk,os⟩) b ys:=Heap.IsList.push q _
   wp_walk using wpAny_pyIter_list e1,wpAny_pyIter_list e2
   exact ⟨_,rfl,h⟩
  ·have e1:Heap.IsList (Shared.heap ⟨j,g,d,tk,os⟩) a xs:=n
   have e2:Heap.IsTuple (Shared.heap ⟨j.push { cls := .type "list_iterator",data := .fields #[.ref a, .int 0 0] },g,d,tk,os⟩) b ys:=Heap.IsTuple.push q _
   wp_walk using wpAny_pyIter_list e1,wpAny_pyIter_tuple e2
   exact ⟨_,rfl,h⟩
  ·have e1:Heap.IsTuple (Shared.heap ⟨j,g,d,tk,os⟩) a xs:=n
   have e2:Heap.IsList (Shared.heap ⟨j.push { cls := .type "tuple_iterator",data := .fields #[.ref a, .int 0 0] },g,d,tk,os⟩) b ys:=Heap.IsList.push q _
   wp_walk using wpAny_pyIter_tuple e1,wpAny_pyIter_list e2
   exact ⟨_,rfl,h⟩
  ·have e1:Heap.IsTuple (Shared.heap ⟨j,g,d,tk,os⟩) a xs:=n
   have e2:Heap.IsTuple (Shared.heap ⟨j.push { cls := .type "tuple_iterator",data := .fields #[.ref a, .int 0 0] },g,d,tk,os⟩) b ys:=Heap.IsTuple.push q _
   wp_walk using wpAny_pyIter_tuple e1,wpAny_pyIter_tuple e2
   exact ⟨_,rfl,h⟩
theorem at_new {t:Bool} {h:Heap} {i l:Addr} (e:h.get? i=some (itO t l)):At t h i l 0:=by
 cases t <;> exact ⟨_,e,rfl,rfl⟩
theorem call_zip {t u:Bool} {a b:Addr} {xs ys:Array Value} {Q:Value->Shared->Prop} (S:Sq t s.heap a xs) (U:Sq u s.heap b ys)
 (q:∀ h',IsZip h' (s.heap.objs.size+4) (s.heap.objs.size+2) (s.heap.objs.size+3) .none->IsPair h' (s.heap.objs.size+2) (.ref s.heap.objs.size) (.ref (s.heap.objs.size+1)) ->
   IsPair h' (s.heap.objs.size+3) .none .none->At t h' s.heap.objs.size a 0->At u h' (s.heap.objs.size+1) b 0->h'.objs.size=s.heap.objs.size+5 ->
   (∀ c o,s.heap.get? c=some o->h'.get? c=some o)->Q (.ref (s.heap.objs.size+4)) { s with heap:=h' }) :
 wpAny (model prog w) A (call (.type "zip") [.ref a, .ref b]) Q E s:=by
 refine callType_new F.called_zip (by decide) (F.typeCall_zip_2 _ _) (F.newCall_zip_2 _ _) (fun obj=>F.args_object_init_3 obj _ _) F.entry_zip_new (rR t u a b xs ys) ⟨S,U, ?_⟩
 have z:(zH1 s.heap t a).objs.size=s.heap.objs.size+1:=Heap.size_push ..
 have B:(zH2 s.heap t u a b).objs.size=s.heap.objs.size+2:=by unfold zH2;rw [Heap.size_push,z]
 have G:(zH3 s.heap t u a b).objs.size=s.heap.objs.size+3:=by unfold zH3;rw [Heap.size_push,B]
 have I:(zH4 s.heap t u a b).objs.size=s.heap.objs.size+4:=by unfold zH4;rw [Heap.size_push,G]
 have Y:(zH5 s.heap t u a b).objs.size=s.heap.objs.size+5:=by unfold zH5;rw [Heap.size_push,I]
 have j:∀ {c o},(zH4 s.heap t u a b).get? c=some o->(zH5 s.heap t u a b).get? c=some o:=fun e=>Heap.get?_push_of_some _ e
 have n:∀ {c o},(zH3 s.heap t u a b).get? c=some o->(zH4 s.heap t u a b).get? c=some o:=fun e=>Heap.get?_push_of_some _ e
 have J:∀ {c o},(zH2 s.heap t u a b).get? c=some o->(zH3 s.heap t u a b).get? c=some o:=fun e=>Heap.get?_push_of_some _ e
 have O:∀ {c o},(zH1 s.heap t a).get? c=some o->(zH2 s.heap t u a b).get? c=some o:=fun e=>Heap.get?_push_of_some _ e
 have Z:∀ {c o},s.heap.get? c=some o->(zH1 s.heap t a).get? c=some o:=fun e=>Heap.get?_push_of_some _ e
 have f:∀ t l,(itO t l).isFreed=false:=fun t l=>by cases t <;> rfl
 have L:(zH5 s.heap t u a b).get? (zH4 s.heap t u a b).objs.size=some _:=Heap.get?_push_size _ rfl
 have R:(zH5 s.heap t u a b).get? (zH3 s.heap t u a b).objs.size=some _:=j (Heap.get?_push_size _ rfl)
 have g3:(zH5 s.heap t u a b).get? (zH2 s.heap t u a b).objs.size=some _:=j (n (Heap.get?_push_size _ rfl))
 have g2:(zH5 s.heap t u a b).get? (zH1 s.heap t a).objs.size=some _:=j (n (J (Heap.get?_push_size _ (f u b))))
 have g1:(zH5 s.heap t u a b).get? s.heap.objs.size=some _:=j (n (J (O (Heap.get?_push_size _ (f t a)))))
 show _/\_
 rw [B,G,I] at L
 rw [z,B] at g3
 rw [G] at R
 rw [z] at g2
 rw [I]
 exact ⟨⟨_,L,rfl⟩,q _ L g3 R (at_new g1) (at_new g2) Y fun c o x=>j (n (J (O (Z x))))⟩
end
end Zp
end L2
namespace L2
open PySem PySem.Spec PyProof.Rows
section
section
variable {X:Cx} {pins:List (Addr×Obj)} {σ:St} {H:Hp} {s:Shared} {h':Heap}
theorem Inv.turnedL {t':Nat} {fp:List Addr} (I:Inv X pins σ H s) (hf:∀ b∈fp,bS X pins H b) (k:∀ b o,b∉fp->s.heap.get? b=some o->h'.get? b=some o):Inv X pins σ H { s with heap:=h',toks:=t' }:=by
 have nit:∀ b u,H b=some u->b∉fp:=fun b u e z=>by rw [(hf b z).1] at e;cases e
 refine I.step (g':=s.gens) (d':=s.drawn) (ch:=fp) (fun b B => ?_) (fun b o _ _ j e _=>k b o j e) (fun b o _ _ j e _=>⟨o.slots,k b o j e⟩) (fun _ _ _ _ n=>n)
  (fun b o j e=>⟨o,k b o j e⟩) (fun _ _ e=>e) (fun _ _ _ e=>e) (fun b ps e=>⟨#[],by rw [e];simp⟩) (fun m hm => ?_) (fun b u e => ?_) I.bare
 ·obtain ⟨_,f1,_,F,f4,G⟩:=hf b B
  exact ⟨F,f1,f4,G⟩
 ·obtain ⟨o,es,ep,ho,r⟩:=hm
  exact ⟨o,es,ep,k _ o (fun z=>(hf _ z).2.1 rfl) ho,r⟩
 ·refine (I.hok b u e).stay (fun c v j q=>k c v ?_ q) (fun _ q=>q) fun _ _ q=>q
  rcases j with z | z
  ·rw [z];exact nit b u e
  ·exact nit c _ z
end
noncomputable def SqV (K:Frag) (t:Bool) (H:Hp) (a:Addr) (xs:List V):Prop:=match t with | true=>SqT K H a xs | false=>SqL K H a xs
theorem Inv.sqv {X:Cx} {pins:List (Addr×Obj)} {σ:St} {H:Hp} {s:Shared} {t:Bool} {a:Addr} {xs:List V} (I:Inv X pins σ H s) (h:SqV X.K t H a xs):∃ its:List Value,Vals xs its/\Zp.Sq t s.heap a its.toArray:=by
 cases t with
 | true=>obtain ⟨its,r,p,_⟩:=I.tuple h;exact ⟨its,r,p⟩
 | false=>obtain ⟨its,r,p,_⟩:=I.list h;exact ⟨its,r,p.isList⟩
theorem Inv.sqv_inj {X:Cx} {pins:List (Addr×Obj)} {σ:St} {H:Hp} {s:Shared} {t:Bool} {a:Addr} {xs ys:List V} (I:Inv X pins σ H s) (h:SqV X.K t H a xs) (h':SqV X.K t H a ys):xs=ys:=by
 cases t with
 | true=>exact I.tuple_inj h h'
 | false=>exact I.list_inj h h'
noncomputable def Itz (K:Frag) (t u:Bool) (a b:Addr):It :=
 ⟨fun i H => ∃ xs ys x y,SqV K t H a xs/\SqV K u H b ys/\xs[i]? = some x/\ys[i]? = some y,
  fun i H v H' => ∃ p x y,H p=none/\v = .ref p/\H'=upd H p (.tup [x,y]) /\ ∀ xs ys,SqV K t H a xs->SqV K u H b ys->xs[i]? = some x/\ys[i]? = some y,
  fun i H => ∃ xs ys,SqV K t H a xs/\SqV K u H b ys/\(xs.length<=i∨ys.length<=i)⟩
theorem uT {P:Program} {w:World} {K:Frag} {elts:List Expr} {cx} {pos:Pos} {t u:Bool} {z T O i j a b:Addr} (D:ZipApart z T O i j a b) :
 fu P w K (.Tuple elts cx pos) (Itz K t u a b) [z,T,O,i,j] z (fun k h=>IsZip h z T O .none/\IsPair h T (.ref i) (.ref j)/\(∃ p r,IsPair h O p r)/\Zp.At t h i a k/\Zp.At u h j b k) where
 mem:=by simp
 obj:=fun k h ⟨B,F,⟨p,r,G⟩,hi,J⟩ c q=>by
  simp only [List.mem_cons,List.not_mem_nil,or_false] at q
  rcases q with rfl | rfl | rfl | rfl | rfl
  ·exact ⟨_,B,fun v e=>by cases e⟩
  ·exact ⟨_,F,fun v e=>by cases e⟩
  ·exact ⟨_,G,fun v e=>by cases e⟩
  ·exact hi.lt
  ·exact J.lt
 keep:=fun k h h' ⟨B,F,⟨p,r,G⟩,hi,J⟩ kk=>⟨kk z (by simp) _ B,kk T (by simp) _ F,⟨p,r,kk O (by simp) _ G⟩,hi.up fun o e=>kk i (by simp) o e,J.up fun o e=>kk j (by simp) o e⟩
 item:=by
  intro X S hw U q k pins s σ H E I hf st hg
  subst S hw U
  obtain ⟨B,F,⟨p,r,G⟩,hi,J⟩:=st
  obtain ⟨xs,ys,x,y,qx,qy,ex,ey⟩:=hg
  obtain ⟨is,rx,px⟩:=I.sqv qx
  obtain ⟨js,ry,py⟩:=I.sqv qy
  obtain ⟨ux,Y,rux⟩:=rx.get ex
  obtain ⟨uy,Z,ruy⟩:=ry.get ey
  refine Zp.nxt_item D B F G hi J px py (by simpa using Y) (by simpa using Z) fun h1 z1 o1 i1 j1 p1 R=>⟨_,rfl, ?_⟩
  refine wpAny_letOwnedTupleGo_zip (s := { s with heap:=h1 }) z1 fun h2 z2 s2 => ?_
  have lt:∀ {c o},s.heap.get? c=some o->c≠s.heap.objs.size:=fun e=>Nat.ne_of_lt (Heap.lt_size e)
  have nz:s.heap.objs.size≠z:=(lt B).symm
  have CC:∃ o,s.heap.get? i=some o:=hi.lt.imp fun _ h=>h.1
  have CD:∃ o,s.heap.get? j=some o:=J.lt.imp fun _ h=>h.1
  have up:∀ c o,c≠z->h1.get? c=some o->h2.get? c=some o:=fun c o n e=>s2.extBut _ _ n e
  have IL:Inv X pins σ (upd H s.heap.objs.size (.tup [x,y])) { s with heap:=s.heap.push { cls := .type "tuple",data := .seq #[ux,uy] },toks:=s.toks } :=
   I.laid (fun b o e=>Heap.get?_push_of_some _ e) (Nat.le_refl _) ⟨by rw [sizeLine_eq];simp,[ux,uy], .cons rux (.cons ruy .nil),IsTup.new _ _⟩
  have fr:∀ c∈[z,T,O,i,j],c≠s.heap.objs.size:=fun c q=>by
   simp only [List.mem_cons,List.not_mem_nil,or_false] at q
   rcases q with rfl | rfl | rfl | rfl | rfl
   ·exact lt B
   ·exact lt F
   ·exact lt G
   ·obtain ⟨o,e⟩:=CC;exact lt e
   ·obtain ⟨o,e⟩:=CD;exact lt e
  have un:∀ c∈[z,T,O,i,j],upd H s.heap.objs.size (.tup [x,y]) c=none:=fun c q=>by
   rw [ah (fr c q)];exact (hf c q).1
  have kk:∀ c o,c∉[z,T,O,i,j]->(s.heap.push { cls := .type "tuple",data := .seq #[ux,uy] }).get? c=some o->h2.get? c=some o:=fun c o q e=>by
   simp only [List.mem_cons,List.not_mem_nil,or_false,not_or] at q
   rcases Heap.get?_push_cases e with ⟨rfl,rfl⟩ | e
   ·exact up _ _ nz p1
   ·exact up _ _ q.1 (R c o q.1 q.2.2.1 q.2.2.2.1 q.2.2.2.2 e)
  have I2:Inv X pins σ (upd H s.heap.objs.size (.tup [x,y])) { s with heap:=h2,toks:=s.toks } :=
   (Inv.turnedL (s := { s with heap:=s.heap.push { cls := .type "tuple",data := .seq #[ux,uy] },toks:=s.toks }) (h':=h2) (t':=s.toks) (fp := [z,T,O,i,j]) IL (fun c q=>⟨un c q,(hf c q).2⟩) kk)
  refine ⟨.ref s.heap.objs.size,_,I2,rfl,⟨_,x,y,I.hok.fresh (Nat.le_refl _),rfl,rfl,fun xs' ys' q1 q2 => ?_⟩,⟨z2,up _ _ D.TIz (R _ _ D.TIz D.TITO D.TIi1 D.TIi2 F),⟨_,_,up _ _ D.TOz o1⟩,i1.up fun o e=>up _ o D.i1z e,j1.up fun o e=>up _ o D.i2z e⟩,un⟩
  rw [I.sqv_inj q1 qx,I.sqv_inj q2 qy];exact ⟨ex,ey⟩
 done:=by
  intro X S hw U q k pins s σ H E I hf st hg
  subst S hw U
  obtain ⟨B,F,⟨p,r,G⟩,hi,J⟩:=st
  obtain ⟨xs,ys,qx,qy,L⟩:=hg
  obtain ⟨is,rx,px⟩:=I.sqv qx
  obtain ⟨js,ry,py⟩:=I.sqv qy
  have lx:=rx.length
  have ly:=ry.length
  refine Zp.nxt_end (I.ok.hd q) D B F G hi J px py (L.imp (fun e=>by simp;lia) (fun e=>by simp;lia)) fun h1 R=>⟨rfl,I.turnedL (t':=s.toks) hf fun c o q e => ?_⟩
  simp only [List.mem_cons,List.not_mem_nil,or_false,not_or] at q
  exact R c o q.1 q.2.2.1 q.2.2.2.1 q.2.2.2.2 e
 self:=fun A k s Q E st h=>wpAny_pyIter_zip st.1 h
section
variable {X:Cx}
noncomputable def Cw (K:Frag) (ta:TA):TI:=fun σ H R=>ta σ H fun vs H1 => ∃ a b t u xs ys,vs=[.ref a, .ref b]/\SqV K t H1 a xs/\SqV K u H1 b ys/\R (Itz K t u a b) H1
theorem Ai {elts:List Expr} {cx} {pos p pos':Pos} {a b:Expr} {ta:TA} (F:Gl X "zip") (hm:X.mg "zip" = none) (G:PA X [a,b] ta) (hs:starEach [a,b] X.env=[(false,eval a X.env),(false,eval b X.env)]) (j:starEach [b] X.env=[(false,eval b X.env)]) :
 PI X (.Tuple elts cx pos) (.Call (.Name "zip" p) [a,b] [] pos') (Cw X.K ta):=by
 intro pins s σ H R I h
 refine Call_ (du I F hm (u := .type "zip") (by decide +kernel) (PyProof.Rows.callWith_type1 (thn (G pos' pins s σ H _ I h) fun us s1 ⟨vs,H1,n,J,L⟩ => ?_) (by rw [hs,j]) (by rw [j];rfl)))
 obtain ⟨a',b',t,u,xs,ys,rfl,qx,qy,q⟩:=L
 cases J with
 | cons r rr =>
   cases rr with
   | cons r' rr =>
     cases rr
     cases r
     cases r'
     obtain ⟨is,rx,px⟩:=n.sqv qx
     obtain ⟨js,ry,py⟩:=n.sqv qy
     refine Zp.call_zip px py fun h1 z t1 O S U sz Y => ?_
     refine wpAny_pyIter_zip z ?_
     have la:a' < s1.heap.objs.size:=by cases t <;> (obtain ⟨o,e,_⟩:=px;exact Heap.lt_size e)
     have lb:b' < s1.heap.objs.size:=by cases u <;> (obtain ⟨o,e,_⟩:=py;exact Heap.lt_size e)
     have D:ZipApart (s1.heap.objs.size+4) (s1.heap.objs.size+2) (s1.heap.objs.size+3) s1.heap.objs.size (s1.heap.objs.size+1) a' b':=by constructor <;> (intro e;subst_vars;first | lia | (simp only [Addr] at *;lia))
     refine ⟨_,_,_,_,H1,rfl,n.kept (t':=s1.toks) Y,uT (t:=t) (u:=u) D,⟨z,t1,⟨_,_,O⟩,S,U⟩,fun c B => ?_,q⟩
     have hle:s1.heap.objs.size<=c:=by
      simp only [List.mem_cons,List.not_mem_nil,or_false] at B
      rcases B with rfl | rfl | rfl | rfl | rfl <;> lia
     exact n.fpOk hle (n.hok.fresh hle)
end
end
end L2
namespace L2
namespace En
open PySem PySem.Spec PyProof.Rows
section
variable {prog:Program} {w:World} {A:Around} {E:Value->Shared->Prop} {s:Shared}
open Builtin.SmallTypes Zp in
theorem Aj {z i a:Addr} {t:Bool} {k:Nat} {xs:Array Value} {x old:Value} {Q:Value->Shared->Prop} (L:IsEnum s.heap z i k old) (hi:At t s.heap i a k) (ha:Sq t s.heap a xs) (hx:xs[k]? = some x) (j:z≠i)
 (q:∀ h',IsEnumOut h' z i ((k:Int)+1) x s.heap.objs.size->At t h' i a (k+1)->h'.get? s.heap.objs.size=some { cls := .type "tuple",data := .seq #[.int k s.toks,x] } ->
   (∀ b o,b≠z->b≠i->s.heap.get? b=some o->h'.get? b=some o)->Q (.ref s.heap.objs.size) { s with heap:=h',toks:=s.toks+1 }) :
 wpAny (model prog w) A (Builtin.«enumerate.__next__» ⟨[.ref z],[]⟩) (fun fin s' => ∃ v,fin = .done (.ret v)/\Q v s') E s:=by
 obtain ⟨n,g,d,tk,os⟩:=s
 refine wpAny_bind (m:=field (.ref z) 2) (wpAny_field L rfl (x := .ref i) rfl (wpAny_bind (nx_item hi ha hx fun g1 i1 s1 => ?_)))
 have S1:Heap.SameBut i n g1:=s1
 clear s1
 have O:IsEnum g1 z i k old:=(S1.2 z j).trans L
 refine wpAny_bind (m:=field (.ref z) 3) (wpAny_field (s:=⟨g1,g,d,tk,os⟩) O rfl (x:=rawInt k) rfl ?_)
 refine wpAny_bind (m:=field (.ref z) 4) (wpAny_field (s:=⟨g1,g,d,tk,os⟩) O rfl (x := .none) rfl ?_)
 refine wpAny_bind (m:=mkInt k) (wpAny_mkInt ?_)
 refine wpAny_bind (m:=setField (.ref z) 3 (rawInt ((k:Int)+1))) (wpAny_setField_rec (s:=⟨g1,g,d,tk+1,os⟩) O (by simp) fun g2 U s2 => ?_)
 have R:Heap.SameBut z g1 g2:=s2
 have Z2:IsEnum g2 z i ((k:Int)+1) old:=U
 clear s2 U
 refine wpAny_bind (m:=setField (.ref z) 4 .none) (wpAny_setField_rec (s:=⟨g2,g,d,tk+1,os⟩) Z2 (by simp) fun g3 Y s3 => ?_)
 have S:Heap.SameBut z g2 g3:=s3
 have Z3:IsEnum g3 z i ((k:Int)+1) old:=Y
 clear s3 Y
 refine wpAny_bind (m:=newTuple [.int k tk,x]) (wpAny_newTuple ?_)
 have F:IsEnum (g3.push { cls := .type "tuple",data := .seq #[.int k tk,x] }) z i ((k:Int)+1) old:=Heap.get?_push_of_some _ Z3
 have sz:g3.objs.size=n.objs.size:=by rw [S.1,R.1,S1.1]
 have zl:z < n.objs.size:=Heap.lt_size L
 have Z:(g3.push { cls := .type "tuple",data := .seq #[.int k tk,x] }).get? n.objs.size=some { cls := .type "tuple",data := .seq #[.int k tk,x] }:=by rw [<- sz];exact Heap.get?_push_size _ rfl
 have K4:∀ b o,b≠z->b≠i->n.get? b=some o->(g3.push { cls := .type "tuple",data := .seq #[.int k tk,x] }).get? b=some o:=fun b o bz bi e =>
  Heap.get?_push_of_some _ (S.extBut b o bz (R.extBut b o bz (S1.extBut b o bi e)))
 have I4:At t (g3.push { cls := .type "tuple",data := .seq #[.int k tk,x] }) i a (k+1):=i1.up fun o e=>Heap.get?_push_of_some _ (S.extBut i o j.symm (R.extBut i o j.symm e))
 rw [sz]
 generalize g3.push { cls := .type "tuple",data := .seq #[.int k tk,x] }=B at F Z K4 I4
 refine wpAny_bind (m:=ownedTupleIsFree (.ref z)) ?_
 unfold ownedTupleIsFree
 refine wpAny_bind (wpAny_field (s:=⟨B,g,d,tk+1,os⟩) F rfl (x := .none) rfl (wpAny_pure ?_))
 simp only [if_true]
 refine wpAny_bind (wpAny_rule (wpAny_bind (wpAny_field (s:=⟨B,g,d,tk+1,os⟩) F rfl (x:=old) rfl (wpAny_bind (wpAny_setField_rec (s:=⟨B,g,d,tk+1,os⟩) F (by simp) fun G z5 s5 => ?_)))))
 have S5:Heap.SameBut z B G:=s5
 have Z5:IsEnum G z i ((k:Int)+1) x:=z5
 clear s5 z5
 refine wpAny_bind (m:=ownedTupleHandOut (.ref z) (.ref n.objs.size)) ?_
 unfold ownedTupleHandOut
 refine wpAny_bind (wpAny_setField_rec (s:=⟨G,g,d,tk+1,os⟩) Z5 (by simp) fun I z6 s6 => ?_)
 have S6:Heap.SameBut z G I:=s6
 have Z6:IsEnumOut I z i ((k:Int)+1) x n.objs.size:=z6
 clear s6 z6
 refine wpAny_setField_rec (s:=⟨I,g,d,tk+1,os⟩) Z6 (by simp) fun J z7 s7 => ?_
 have S7:Heap.SameBut z I J:=s7
 have Z7:IsEnumOut J z i ((k:Int)+1) x n.objs.size:=z7
 clear s7 z7
 have up:∀ b o,b≠z->B.get? b=some o->J.get? b=some o:=fun b o bz e=>S7.extBut b o bz (S6.extBut b o bz (S5.extBut b o bz e))
 exact wpAny_bind (wpAny_letGo (wpAny_pure ⟨_,rfl,q J Z7 (I4.up fun o e=>up i o j.symm e) (up _ _ (Nat.ne_of_gt zl) Z) fun b o bz bi e=>up b o bz (K4 b o bz bi e)⟩))
theorem nxt_item {z i a:Addr} {t:Bool} {k:Nat} {xs:Array Value} {x old:Value} {Q:Option Value->Shared->Prop} (n:IsEnum s.heap z i k old) (hi:Zp.At t s.heap i a k) (B:Zp.Sq t s.heap a xs) (hx:xs[k]? = some x) (j:z≠i)
 (q:∀ h',IsEnumOut h' z i ((k:Int)+1) x s.heap.objs.size->Zp.At t h' i a (k+1)->h'.get? s.heap.objs.size=some { cls := .type "tuple",data := .seq #[.int k s.toks,x] } ->
   (∀ b o,b≠z->b≠i->s.heap.get? b=some o->h'.get? b=some o)->Q (some (.ref s.heap.objs.size)) { s with heap:=h',toks:=s.toks+1 }) :
 wpAny (model prog w) A (pyNext (.ref z)) Q E s:=by
 have ty:s.TypeIs (.ref z) "enumerate" := ⟨_,n,rfl⟩
 unfold pyNext
 exact wpAny_bind (wpAny_attempt (wpAny_callSpecial?_slot (name:=Str.ofString "__next__") ty F.slot_enumerate_next (wpAny_call_entry F.slot_enumerate_next ty F.entry_enumerate_next
  (Aj n hi B hx j fun h' a1 a2 G I=>wpAny_pure (q h' a1 a2 G I)) (F.args_enumerate_next_1 _))))
theorem nxt_end {z i a:Addr} {t:Bool} {k:Nat} {xs:Array Value} {old:Value} {Q:Option Value->Shared->Prop} (n:A.handled=none) (j:IsEnum s.heap z i k old) (hi:Zp.At t s.heap i a k) (B:Zp.Sq t s.heap a xs) (hx:xs[k]? = none)
 (q:∀ h',Heap.ExtBut i s.heap h'->Q none { s with heap:=h' }):wpAny (model prog w) A (pyNext (.ref z)) Q E s:=by
 have ty:s.TypeIs (.ref z) "enumerate" := ⟨_,j,rfl⟩
 unfold pyNext
 refine wpAny_bind (wpAny_attempt (wpAny_callSpecial?_slot (name:=Str.ofString "__next__") ty F.slot_enumerate_next (wpAny_call_entry F.slot_enumerate_next ty F.entry_enumerate_next ?_ (F.args_enumerate_next_1 _))))
 refine wpAny_bind (m:=field (.ref z) 2) (wpAny_field j rfl (x := .ref i) rfl (wpAny_bind (Zp.nx_end n hi B hx fun h' x he hs => ?_)))
 obtain ⟨o,ho,G⟩:=hs
 exact wpAny_bind (wpAny_isInstance (T := "StopIteration") (b:=true) ⟨o,ho,G⟩ isSubtype_stop (wpAny_pure (q _ he)))
open AutoSeq1 (wpAny_loadPart') in
theorem y7 (l:Addr) (items:Array Value) (n:Nat) (dct:Option Addr) (sl:Array (Option Value)) :
 Meets (Builtin.«enumerate.__new__» ⟨[.type "enumerate", .ref l],[]⟩) (fun _ R s=>s.heap.get? l=some { cls := .type "tuple",dict:=dct,data := .seq items n,slots:=sl } /\
  R (.ok (.ret (.ref (s.heap.push (Zp.itO true l)).objs.size))) { s with heap:=(s.heap.push (Zp.itO true l)).push { cls := .type "enumerate",data := .fields #[.none, .bool false, .ref s.heap.objs.size,rawInt 0, .none, .none] } }) :=
 .of_wp fun prog w A R s h=>by
  obtain ⟨B,g,d,tk,os⟩:=s;obtain ⟨j,h⟩:=h
  have q:=sub_enumerate
  have z:Heap.IsTuple (Shared.heap ⟨B,g,d,tk,os⟩) l items:=⟨_,j,rfl,n,rfl⟩
  wp_walk using wpAny_loadPart' j
  refine wpAny_stack_any fun st=>wpAny_pure ?_
  split
  ·rename_i c _ _ _ _ _
   cases (c==Value.type "enumerate") <;> (wp_walk using wpAny_loadPart' j,wpAny_pyIter_tuple z;exact ⟨_,rfl,h⟩)
  ·wp_walk using wpAny_loadPart' j,wpAny_pyIter_tuple z
   exact ⟨_,rfl,h⟩
theorem call_enum {t:Bool} {l:Addr} {items:Array Value} {Q:Value->Shared->Prop} (B:Zp.Sq t s.heap l items)
 (q:∀ h',IsEnum h' (s.heap.objs.size+1) s.heap.objs.size 0 .none->Zp.At t h' s.heap.objs.size l 0->(∀ b o,s.heap.get? b=some o->h'.get? b=some o)->Q (.ref (s.heap.objs.size+1)) { s with heap:=h' }) :
 wpAny (model prog w) A (call (.type "enumerate") [.ref l]) Q E s:=by
 cases t with
 | false=>exact call_enumerate_list B fun h' a b _ k=>q h' a b k
 | true =>
   obtain ⟨⟨c,dct,dt,sl⟩,I,J,n,hd⟩:=B
   have j:c = .type "tuple" := J
   have z:dt = .seq items n:=hd
   subst j z
   refine callType_new F.called_enumerate (by decide) (F.typeCall_enumerate_1 _) (F.newCall_enumerate_1 _) (fun obj=>F.args_object_init_2 obj _) F.entry_enumerate_new (y7 l items n dct sl) ⟨I, ?_⟩
   have G:(s.heap.push (Zp.itO true l)).objs.size=s.heap.objs.size+1:=Heap.size_push ..
   have e:((s.heap.push (Zp.itO true l)).push { cls := .type "enumerate",data := .fields #[.none, .bool false, .ref s.heap.objs.size,rawInt 0, .none, .none] }).get? (s.heap.push (Zp.itO true l)).objs.size=some _:=Heap.get?_push_size _ rfl
   rw [G] at e
   show _/\_
   rw [G]
   exact ⟨⟨_,e,rfl⟩,q _ e (Zp.at_new (Heap.get?_push_of_some _ (Heap.get?_push_size _ rfl))) fun b o x=>Heap.get?_push_of_some _ (Heap.get?_push_of_some _ x)⟩
end
end En
open PySem PySem.Spec PyProof.Rows
noncomputable def Ite (K:Frag) (t:Bool) (a:Addr):It :=
 ⟨fun i H => ∃ xs x,SqV K t H a xs/\xs[i]? = some x,
  fun i H v H' => ∃ p x,H p=none/\v = .ref p/\H'=upd H p (.tup [.int (i:Nat),x]) /\ ∀ xs,SqV K t H a xs->xs[i]? = some x,
  fun i H => ∃ xs,SqV K t H a xs/\xs.length<=i⟩
theorem rS {P:Program} {w:World} {K:Frag} {elts:List Expr} {cx} {pos:Pos} {t:Bool} {z i a:Addr} (B:z≠i) :
 fu P w K (.Tuple elts cx pos) (Ite K t a) [z,i] z (fun k h=>(∃ old,IsEnum h z i k old)/\Zp.At t h i a k) where
 mem:=by simp
 obj:=fun k h ⟨⟨old,q⟩,hi⟩ c j=>by
  simp only [List.mem_cons,List.not_mem_nil,or_false] at j
  rcases j with rfl | rfl
  ·exact ⟨_,q,fun v e=>by cases e⟩
  ·exact hi.lt
 keep:=fun k h h' ⟨⟨old,q⟩,hi⟩ kk=>⟨⟨old,kk z (by simp) _ q⟩,hi.up fun o e=>kk i (by simp) o e⟩
 item:=by
  intro X F hw G j k pins s σ H E I hf st hg
  subst F hw G
  obtain ⟨⟨old,q⟩,hi⟩:=st
  obtain ⟨xs,x,qx,ex⟩:=hg
  obtain ⟨is,rx,px⟩:=I.sqv qx
  obtain ⟨ux,J,rux⟩:=rx.get ex
  refine En.nxt_item q hi px (by simpa using J) B fun h1 S U Y L=>⟨_,rfl, ?_⟩
  refine wpAny_letOwnedTupleGo_enum (s := { s with heap:=h1,toks:=s.toks+1 }) S fun h2 Z s2 => ?_
  have lt:∀ {c o},s.heap.get? c=some o->c≠s.heap.objs.size:=fun e=>Nat.ne_of_lt (Heap.lt_size e)
  have nz:s.heap.objs.size≠z:=(lt q).symm
  have O:∃ o,s.heap.get? i=some o:=hi.lt.imp fun _ h=>h.1
  have up:∀ c o,c≠z->h1.get? c=some o->h2.get? c=some o:=fun c o n e=>s2.extBut _ _ n e
  have IL:Inv X pins σ (upd H s.heap.objs.size (.tup [.int (k:Nat),x])) { s with heap:=s.heap.push { cls := .type "tuple",data := .seq #[.int k s.toks,ux] },toks:=s.toks+1 } :=
   I.laid (fun b o e=>Heap.get?_push_of_some _ e) (Nat.le_refl _) ⟨by rw [sizeLine_eq];simp,[.int k s.toks,ux], .cons ⟨_,rfl⟩ (.cons rux .nil),IsTup.new _ _⟩
  have fr:∀ c∈[z,i],c≠s.heap.objs.size:=fun c j=>by
   simp only [List.mem_cons,List.not_mem_nil,or_false] at j
   rcases j with rfl | rfl
   ·exact lt q
   ·obtain ⟨o,e⟩:=O;exact lt e
  have un:∀ c∈[z,i],upd H s.heap.objs.size (.tup [.int (k:Nat),x]) c=none:=fun c j=>by
   rw [ah (fr c j)];exact (hf c j).1
  have kk:∀ c o,c∉[z,i]->(s.heap.push { cls := .type "tuple",data := .seq #[.int k s.toks,ux] }).get? c=some o->h2.get? c=some o:=fun c o j e=>by
   simp only [List.mem_cons,List.not_mem_nil,or_false,not_or] at j
   rcases Heap.get?_push_cases e with ⟨rfl,rfl⟩ | e
   ·exact up _ _ nz Y
   ·exact up _ _ j.1 (L c o j.1 j.2 e)
  have I2:Inv X pins σ (upd H s.heap.objs.size (.tup [.int (k:Nat),x])) { s with heap:=h2,toks:=s.toks+1 } :=
   Inv.turnedL (s := { s with heap:=s.heap.push { cls := .type "tuple",data := .seq #[.int k s.toks,ux] },toks:=s.toks+1 }) (h':=h2) (t':=s.toks+1) (fp := [z,i]) IL (fun c j=>⟨un c j,(hf c j).2⟩) kk
  refine ⟨.ref s.heap.objs.size,_,I2,rfl,⟨_,x,I.hok.fresh (Nat.le_refl _),rfl,rfl,fun xs' q1 => ?_⟩,⟨⟨ux,by simpa using Z⟩,U.up fun o e=>up _ o B.symm e⟩,un⟩
  rw [I.sqv_inj q1 qx];exact ex
 done:=by
  intro X F hw G j k pins s σ H E I hf st hg
  subst F hw G
  obtain ⟨⟨old,q⟩,hi⟩:=st
  obtain ⟨xs,qx,R⟩:=hg
  obtain ⟨is,rx,px⟩:=I.sqv qx
  have lx:=rx.length
  refine En.nxt_end (I.ok.hd j) q hi px (by simp;lia) fun h1 L=>⟨rfl,I.turnedL (t':=s.toks) hf fun c o j e => ?_⟩
  simp only [List.mem_cons,List.not_mem_nil,or_false,not_or] at j
  exact L c o j.2 e
 self:=fun A k s Q E ⟨⟨old,q⟩,_⟩ h=>wpAny_pyIter_enum q h
section
variable {X:Cx}
noncomputable def BD (K:Frag) (ta:TA):TI:=fun σ H R=>ta σ H fun vs H1 => ∃ a t xs,vs=[.ref a]/\SqV K t H1 a xs/\R (Ite K t a) H1
theorem y8 {elts:List Expr} {cx} {pos p pos':Pos} {a:Expr} {ta:TA} (B:Gl X "enumerate") (hm:X.mg "enumerate" = none) (F:PA X [a] ta) (hs:starEach [a] X.env=[(false,eval a X.env)]) :
 PI X (.Tuple elts cx pos) (.Call (.Name "enumerate" p) [a] [] pos') (BD X.K ta):=by
 intro pins s σ H R I h
 refine Call_ (du I B hm (u := .type "enumerate") boot_enumerate (PyProof.Rows.callWith_type1 (thn (F pos' pins s σ H _ I h) fun us s1 ⟨vs,H1,j,G,J⟩ => ?_) hs rfl))
 obtain ⟨a',t,xs,rfl,qx,q⟩:=J
 cases G with
 | cons r rr =>
   cases rr
   cases r
   obtain ⟨is,rx,px⟩:=j.sqv qx
   refine En.call_enum px fun h1 n L O => ?_
   refine wpAny_pyIter_enum n ?_
   refine ⟨_,_,_,_,H1,rfl,j.kept (t':=s1.toks) O,rS (t:=t) (a:=a') (by simp),⟨⟨_,n⟩,L⟩,fun c z => ?_,q⟩
   have hle:s1.heap.objs.size<=c:=by
    simp only [List.mem_cons,List.not_mem_nil,or_false] at z
    rcases z with rfl | rfl <;> lia
   exact j.fpOk hle (j.hok.fresh hle)
end
end L2
namespace L2
namespace Rv
open PySem PySem.Spec PyProof.Rows
end Rv
open PySem PySem.Spec PyProof.Rows
end L2
namespace L2
namespace Mi
open PySem PySem.Spec PyProof.Rows
section
inductive D where
 | non | bl (b:Bool) | int (i:Int) | str (x:Str) | tup (ds:List D) | con (ds:List D) | ref (a:Addr)
inductive O where
 | lst (ds:List D)
 | dct (t:Bool) (kvs:List (D×D))
 | fdc (kvs:List (D×D))
noncomputable abbrev Mem:=Addr->Option O
noncomputable def fz:Option O->Bool
 | some (.lst _)=>false
 | some (.dct _ _)=>false
 | _=>true
noncomputable abbrev aq:=List (Option D)
noncomputable def af (M:Mem) (a:Addr) (o:O):Mem:=fun b=>if b=a then some o else M b
theorem ae {M:Mem} {a:Addr} {o:O}:af M a o a=some o:=by unfold af;rw [if_pos rfl]
theorem aR {M:Mem} {a b:Addr} {o:O} (h:b≠a):af M a o b=M b:=by unfold af;rw [if_neg h]
noncomputable def SqF (K:Frag) (H:Hp) (a:Addr) (xs:List V):Prop :=
 (∃ o,H a=some (.frz o (.lst xs))) ∨
  ∃ (o:Obj) (its:Array Value) (n:Nat),K.lookup a=some o/\o.cls = .type "list" /\ o.dict=none/\o.data = .seq its n/\its.size<=sizeLine/\Vals xs its.toList
theorem SqF.sq {K:Frag} {H:Hp} {a:Addr} {xs:List V} (h:SqF K H a xs):SqL K H a xs:=by
 rcases h with ⟨o,h⟩ | h
 ·exact .inl (.inr ⟨o,h⟩)
 ·exact .inr h
mutual
noncomputable def RD (K:Frag) (H:Hp):D->V->Prop
 | .non,v=>v = .non
 | .bl b,v=>v = .bl b
 | .int i,v=>v = .int i
 | .str x,v=>v = .str x
 | .tup ds,v => ∃ a vs,v = .ref a/\H a=some (.tup vs)/\RDs K H ds vs
 | .con ds,v => ∃ a vs,v = .ref a/\SqF K H a vs/\RDs K H ds vs
 | .ref a,v=>v = .ref a
noncomputable def RDs (K:Frag) (H:Hp):List D->List V->Prop
 | [],vs=>vs=[]
 | d::ds,vs => ∃ v r,vs=v::r/\RD K H d v/\RDs K H ds r
end
structure Stab (H H':Hp):Prop where
 tup:∀ a xs,H a=some (.tup xs)->H' a=some (.tup xs)
 frz:∀ a o u,H a=some (.frz o u)->H' a=some (.frz o u)
theorem Stab.sqF {K:Frag} {H H':Hp} (st:Stab H H') {a:Addr} {xs:List V} (h:SqF K H a xs):SqF K H' a xs:=by
 rcases h with ⟨o,h⟩ | h
 ·exact .inl ⟨o,st.frz _ _ _ h⟩
 ·exact .inr h
mutual
theorem RD.mono {K:Frag} {H H':Hp} (st:Stab H H'):∀ {d:D} {v:V},RD K H d v->RD K H' d v
 | .non,_,h=>h
 | .bl _,_,h=>h
 | .int _,_,h=>h
 | .str _,_,h=>h
 | .tup ds,v,h=>by
  unfold RD at h ⊢
  obtain ⟨a,vs,e,q,r⟩:=h
  exact ⟨a,vs,e,st.tup _ _ q,RDs.mono st r⟩
 | .con ds,v,h=>by
  unfold RD at h ⊢
  obtain ⟨a,vs,e,q,r⟩:=h
  exact ⟨a,vs,e,st.sqF q,RDs.mono st r⟩
 | .ref _,_,h=>h
theorem RDs.mono {K:Frag} {H H':Hp} (st:Stab H H'):∀ {ds:List D} {vs:List V},RDs K H ds vs->RDs K H' ds vs
 | [],_,h=>h
 | d::ds,vs,h=>by
   unfold RDs at h ⊢
   obtain ⟨v,r,e,h1,h2⟩:=h
   exact ⟨v,r,e,RD.mono st h1,RDs.mono st h2⟩
end
section
variable {K:Frag} {H H':Hp}
theorem RD.int_iff {i:Int} {v:V}:RD K H (.int i) v↔v = .int i:=by unfold RD;exact Iff.rfl
theorem RD.bl_iff {b:Bool} {v:V}:RD K H (.bl b) v↔v = .bl b:=by unfold RD;exact Iff.rfl
theorem RD.non_iff {v:V}:RD K H .non v↔v = .non:=by unfold RD;exact Iff.rfl
theorem RD.str_iff {x:Str} {v:V}:RD K H (.str x) v↔v = .str x:=by unfold RD;exact Iff.rfl
theorem RD.ref_iff {a:Addr} {v:V}:RD K H (.ref a) v↔v = .ref a:=by unfold RD;exact Iff.rfl
theorem RD.tup_iff {ds:List D} {v:V}:RD K H (.tup ds) v ↔ ∃ a vs,v = .ref a/\H a=some (.tup vs)/\RDs K H ds vs:=by rw [RD]
theorem RD.con_iff {ds:List D} {v:V}:RD K H (.con ds) v ↔ ∃ a vs,v = .ref a/\SqF K H a vs/\RDs K H ds vs:=by rw [RD]
theorem RDs.nil_iff {vs:List V}:RDs K H [] vs↔vs=[]:=by rw [RDs]
theorem RDs.cons_iff {d:D} {ds:List D} {vs:List V}:RDs K H (d::ds) vs ↔ ∃ v r,vs=v::r/\RD K H d v/\RDs K H ds r:=by rw [RDs]
theorem RDs.nil:RDs K H [] []:=RDs.nil_iff.mpr rfl
theorem RDs.cons {d:D} {ds:List D} {v:V} {vs:List V} (h:RD K H d v) (r:RDs K H ds vs):RDs K H (d::ds) (v::vs):=RDs.cons_iff.mpr ⟨v,vs,rfl,h,r⟩
theorem RDs.length:∀ {ds:List D} {vs:List V},RDs K H ds vs->vs.length=ds.length
 | [],_,h=>by rw [RDs.nil_iff.mp h];rfl
 | d::ds,_,h=>by
   obtain ⟨v,r,rfl,_,h2⟩:=RDs.cons_iff.mp h
   simp [RDs.length h2]
theorem RDs.get:∀ {ds:List D} {vs:List V} {i:Nat} {d:D},RDs K H ds vs->ds[i]? = some d -> ∃ v,vs[i]? = some v/\RD K H d v
 | [],_,_,_,_,e=>by simp at e
 | d::ds,_,0,d',h,e=>by
   obtain ⟨v,r,rfl,h1,h2⟩:=RDs.cons_iff.mp h
   simp at e;subst e
   exact ⟨v,rfl,h1⟩
 | d::ds,_,i+1,d',h,e=>by
   obtain ⟨v,r,rfl,h1,h2⟩:=RDs.cons_iff.mp h
   obtain ⟨u,j,n⟩:=RDs.get (i:=i) (d:=d') h2 (by simpa using e)
   exact ⟨u,by simpa using j,n⟩
theorem RDs.getV {ds:List D} {vs:List V} {i:Nat} {v:V} (h:RDs K H ds vs) (e:vs[i]? = some v):∃ d,ds[i]? = some d/\RD K H d v:=by
 have q:=h.length
 have hi:i < vs.length:=(List.getElem?_eq_some_iff.mp e).1
 obtain ⟨d,hd⟩:∃ d,ds[i]? = some d:=⟨ds[i]'(by lia),List.getElem?_eq_getElem (by lia)⟩
 obtain ⟨u,j,n⟩:=h.get hd
 rw [e] at j;cases j
 exact ⟨d,hd,n⟩
theorem RDs.append:∀ {ds es:List D} {vs us:List V},RDs K H ds vs->RDs K H es us->RDs K H (ds++es) (vs++us)
 | [],_,_,_,h,q=>by rw [RDs.nil_iff.mp h];exact q
 | d::ds,_,_,_,h,q=>by
   obtain ⟨v,r,rfl,h1,h2⟩:=RDs.cons_iff.mp h
   exact RDs.cons h1 (RDs.append h2 q)
theorem RDs.take:∀ {ds:List D} {vs:List V} (n:Nat),RDs K H ds vs->RDs K H (ds.take n) (vs.take n)
 | [],_,n,h=>by rw [RDs.nil_iff.mp h];simp;exact RDs.nil
 | _::_,_,0,h=>by simp;exact RDs.nil
 | d::ds,_,n+1,h=>by
   obtain ⟨v,r,rfl,h1,h2⟩:=RDs.cons_iff.mp h
   exact RDs.cons h1 (RDs.take n h2)
theorem RDs.drop:∀ {ds:List D} {vs:List V} (n:Nat),RDs K H ds vs->RDs K H (ds.drop n) (vs.drop n)
 | [],_,n,h=>by rw [RDs.nil_iff.mp h];simp;exact RDs.nil
 | d::ds,_,0,h=>h
 | d::ds,_,n+1,h=>by
   obtain ⟨v,r,rfl,h1,h2⟩:=RDs.cons_iff.mp h
   exact RDs.drop n h2
theorem RDs.set:∀ {ds:List D} {vs:List V} (n:Nat) {d:D} {v:V},RD K H d v->RDs K H ds vs->RDs K H (ds.set n d) (vs.set n v)
 | [],_,n,_,_,_,h=>by rw [RDs.nil_iff.mp h];exact RDs.nil
 | d::ds,_,0,_,_,q,h=>by
   obtain ⟨v,r,rfl,h1,h2⟩:=RDs.cons_iff.mp h
   exact RDs.cons q h2
 | d::ds,_,n+1,_,_,q,h=>by
   obtain ⟨v,r,rfl,h1,h2⟩:=RDs.cons_iff.mp h
   exact RDs.cons h1 (RDs.set n q h2)
theorem RDs.reverse {ds:List D} {vs:List V} (h:RDs K H ds vs):RDs K H ds.reverse vs.reverse:=by
 induction ds generalizing vs with
 | nil=>rw [RDs.nil_iff.mp h];exact RDs.nil
 | cons d ds ih =>
   obtain ⟨v,r,rfl,h1,h2⟩:=RDs.cons_iff.mp h
   rw [List.reverse_cons,List.reverse_cons]
   exact (ih h2).append (RDs.cons h1 RDs.nil)
theorem RDs.rep {ds:List D} {vs:List V} (h:RDs K H ds vs):∀ k:Nat,RDs K H (List.replicate k ds).flatten (List.replicate k vs).flatten
 | 0=>RDs.nil
 | k+1=>by
   rw [List.replicate_succ,List.replicate_succ,List.flatten_cons,List.flatten_cons]
   exact h.append (h.rep k)
theorem RDs.ints:∀ (ns:List Int),RDs K H (ns.map D.int) (ns.map V.int)
 | [] => RDs.nil
 | n::ns=>RDs.cons (RD.int_iff.mpr rfl) (RDs.ints ns)
end
mutual
noncomputable def D.eqb:D->D->Bool
 | .non, .non=>true
 | .bl a, .bl b=>a==b
 | .int a, .int b=>decide (a=b)
 | .str a, .str b=>decide (a=b)
 | .tup a, .tup b=>D.eqbs a b
 | .con a, .con b=>D.eqbs a b
 | .ref a, .ref b=>decide (a=b)
 | _,_=>false
noncomputable def D.eqbs:List D->List D->Bool
 | [],[] => true
 | a::r,b::s=>D.eqb a b&&D.eqbs r s
 | _,_=>false
end
mutual
theorem D.eqb_eq:∀ (a b:D),D.eqb a b=true->a=b
 | .non, .non,_=>rfl
 | .bl a, .bl b,h=>by simp [D.eqb] at h;rw [h]
 | .int a, .int b,h=>by simp [D.eqb] at h;rw [h]
 | .str a, .str b,h=>by simp [D.eqb] at h;rw [h]
 | .tup a, .tup b,h=>by simp [D.eqb] at h;rw [D.eqbs_eq a b h]
 | .con a, .con b,h=>by simp [D.eqb] at h;rw [D.eqbs_eq a b h]
 | .ref a, .ref b,h=>by simp [D.eqb] at h;rw [h]
 | .non, .bl _,h=>by simp [D.eqb] at h
 | .non, .int _,h=>by simp [D.eqb] at h
 | .non, .str _,h=>by simp [D.eqb] at h
 | .non, .tup _,h=>by simp [D.eqb] at h
 | .non, .con _,h=>by simp [D.eqb] at h
 | .non, .ref _,h=>by simp [D.eqb] at h
 | .bl _, .non,h=>by simp [D.eqb] at h
 | .bl _, .int _,h=>by simp [D.eqb] at h
 | .bl _, .str _,h=>by simp [D.eqb] at h
 | .bl _, .tup _,h=>by simp [D.eqb] at h
 | .bl _, .con _,h=>by simp [D.eqb] at h
 | .bl _, .ref _,h=>by simp [D.eqb] at h
 | .int _, .non,h=>by simp [D.eqb] at h
 | .int _, .bl _,h=>by simp [D.eqb] at h
 | .int _, .str _,h=>by simp [D.eqb] at h
 | .int _, .tup _,h=>by simp [D.eqb] at h
 | .int _, .con _,h=>by simp [D.eqb] at h
 | .int _, .ref _,h=>by simp [D.eqb] at h
 | .str _, .non,h=>by simp [D.eqb] at h
 | .str _, .bl _,h=>by simp [D.eqb] at h
 | .str _, .int _,h=>by simp [D.eqb] at h
 | .str _, .tup _,h=>by simp [D.eqb] at h
 | .str _, .con _,h=>by simp [D.eqb] at h
 | .str _, .ref _,h=>by simp [D.eqb] at h
 | .tup _, .non,h=>by simp [D.eqb] at h
 | .tup _, .bl _,h=>by simp [D.eqb] at h
 | .tup _, .int _,h=>by simp [D.eqb] at h
 | .tup _, .str _,h=>by simp [D.eqb] at h
 | .tup _, .con _,h=>by simp [D.eqb] at h
 | .tup _, .ref _,h=>by simp [D.eqb] at h
 | .con _, .non,h=>by simp [D.eqb] at h
 | .con _, .bl _,h=>by simp [D.eqb] at h
 | .con _, .int _,h=>by simp [D.eqb] at h
 | .con _, .str _,h=>by simp [D.eqb] at h
 | .con _, .tup _,h=>by simp [D.eqb] at h
 | .con _, .ref _,h=>by simp [D.eqb] at h
 | .ref _, .non,h=>by simp [D.eqb] at h
 | .ref _, .bl _,h=>by simp [D.eqb] at h
 | .ref _, .int _,h=>by simp [D.eqb] at h
 | .ref _, .str _,h=>by simp [D.eqb] at h
 | .ref _, .tup _,h=>by simp [D.eqb] at h
 | .ref _, .con _,h=>by simp [D.eqb] at h
theorem D.eqbs_eq:∀ (a b:List D),D.eqbs a b=true->a=b
 | [],[],_=>rfl
 | a::r,b::s,h=>by
   simp [D.eqbs] at h
   rw [D.eqb_eq a b h.1,D.eqbs_eq r s h.2]
 | [],_::_,h=>by simp [D.eqbs] at h
 | _::_,[],h=>by simp [D.eqbs] at h
end
mutual
theorem D.eqb_refl:∀ (a:D),D.eqb a a=true
 | .non=>rfl
 | .bl _=>by simp [D.eqb]
 | .int _=>by simp [D.eqb]
 | .str _=>by simp [D.eqb]
 | .tup a=>by simp [D.eqb,D.eqbs_refl a]
 | .con a=>by simp [D.eqb,D.eqbs_refl a]
 | .ref _=>by simp [D.eqb]
theorem D.eqbs_refl:∀ (a:List D),D.eqbs a a=true
 | [] => rfl
 | a::r=>by simp [D.eqbs,D.eqb_refl a,D.eqbs_refl r]
end
noncomputable instance:DecidableEq D:=fun a b=>if h:D.eqb a b=true then isTrue (D.eqb_eq a b h) else isFalse fun e=>h (by rw [e];exact D.eqb_refl b)
noncomputable def RKey:D->Key->Prop
 | .int i,k=>k = .inl i
 | .str x,k=>k = .inr x
 | _,_=>False
noncomputable def RKeys:D->List Key->Prop
 | .tup ds,ks=>Paired RKey ds ks
 | _,_=>False
noncomputable def dget (kvs:List (D×D)) (k:D):Option D:=(kvs.find? fun p=>decide (p.1=k)).map (·.2)
noncomputable def cb (kvs:List (D×D)) (k v:D):List (D×D):=if (kvs.any fun p=>decide (p.1=k))=true then kvs.map (fun p=>if p.1=k then (p.1,v) else p) else kvs++[(k,v)]
noncomputable def eL:D->Bool
 | .int _=>true
 | .str _=>true
 | _=>false
noncomputable def bV:D->Bool
 | .tup ds=>ds.all eL
 | _=>false
noncomputable def gb (t:Bool) (k:D):Bool:=if t then bV k else eL k
theorem lu {k:D} (h:eL k=true):∃ q,RKey k q:=by
 cases k <;> first | (simp [eL] at h;done) | exact ⟨_,rfl⟩
theorem oG:∀ {ds:List D},ds.all eL=true -> ∃ ks,Paired RKey ds ks
 | [],_=>⟨[], .nil⟩
 | d::ds,h=>by
   simp only [List.all_cons,Bool.and_eq_true] at h
   obtain ⟨k,j⟩:=lu h.1
   obtain ⟨ks,hs⟩:=oG h.2
   exact ⟨k::ks, .cons j hs⟩
theorem jm {k:D} (h:bV k=true):∃ q,RKeys k q:=by
 cases k <;> first | (simp [bV] at h;done) | exact oG h
noncomputable def RO (K:Frag) (H:Hp) (a:Addr):O->Prop
 | .lst ds => ∃ vs,H a=some (.lst vs)/\RDs K H ds vs
 | .dct false kvs => ∃ ps,H a=some (.dK ps)/\Paired (fun (p:D×D) (q:Key×V)=>RKey p.1 q.1/\RD K H p.2 q.2) kvs ps
 | .dct true kvs => ∃ ps,H a=some (.dT ps)/\Paired (fun (p:D×D) (q:List Key×V)=>RKeys p.1 q.1/\RD K H p.2 q.2) kvs ps
 | .fdc kvs => ∃ o ps,H a=some (.frz o (.dT ps))/\Paired (fun (p:D×D) (q:List Key×V)=>RKeys p.1 q.1/\RD K H p.2 q.2) kvs ps
noncomputable def RM (K:Frag) (M:Mem) (H:Hp):Prop := ∀ a o,M a=some o->RO K H a o
noncomputable def RS (K:Frag) (H:Hp) (σ:St) (ρ:aq):Prop := σ.length = ρ.length /\ ∀ (i:Nat) (d:D), ρ[i]? = some (some d) -> ∃ v, σ[i]? = some (some v)/\RD K H d v
structure Ext (M:Mem) (H:Hp) (M':Mem) (H':Hp):Prop where
 kp:∀ a o,fz (M a)=true->H a=some o->H' a=some o
 nw:∀ a o,fz (M a)=true->H a=some o->M' a=M a
section
variable {K:Frag} {M M' M'':Mem} {H H' H'':Hp}
theorem Ext.keep (x:Ext M H M' H') (a:Addr) (o:HO) (n:M a=none) (e:H a=some o):H' a=some o:=x.kp a o (by rw [n];rfl) e
theorem Ext.new (x:Ext M H M' H') (a:Addr) (o:HO) (n:M a=none) (e:H a=some o):M' a=none:=(x.nw a o (by rw [n];rfl) e).trans n
theorem Ext.refl:Ext M H M H:=⟨fun _ _ _ h=>h,fun _ _ _ _=>rfl⟩
theorem Ext.trans (a:Ext M H M' H') (b:Ext M' H' M'' H''):Ext M H M'' H'' :=
 ⟨fun c o n h=>b.kp c o (by rw [a.nw c o n h];exact n) (a.kp c o n h),fun c o n h=>(b.nw c o (by rw [a.nw c o n h];exact n) (a.kp c o n h)).trans (a.nw c o n h)⟩
theorem RM.mut (r:RM K M H) {a:Addr} {o:O} (h:M a=some o):∃ ho,H a=some ho/\(∀ xs,ho ≠ .tup xs)/\(fz (some o)=false->Mut (some ho) /\ ∀ ob u,ho ≠ .frz ob u):=by
 have q:=r a o h
 cases o with
 | lst ds =>
   obtain ⟨vs,e,_⟩:=q
   exact ⟨_,e,fun _ z=>(by cases z),fun _=>⟨trivial,fun _ _ z=>(by cases z)⟩⟩
 | dct t kvs =>
   cases t with
   | false=>obtain ⟨ps,e,_⟩:=q;exact ⟨_,e,fun _ z=>(by cases z),fun _=>⟨trivial,fun _ _ z=>(by cases z)⟩⟩
   | true=>obtain ⟨ps,e,_⟩:=q;exact ⟨_,e,fun _ z=>(by cases z),fun _=>⟨trivial,fun _ _ z=>(by cases z)⟩⟩
 | fdc kvs=>obtain ⟨ob,ps,e,_⟩:=q;exact ⟨_,e,fun _ z=>(by cases z),fun z=>(by cases z)⟩
theorem RM.fzT (r:RM K M H) {a:Addr} {xs:List V} (e:H a=some (.tup xs)):M a=none:=by
 cases q:M a with
 | none=>rfl
 | some o =>
   obtain ⟨ho,j,n,_⟩:=r.mut q
   rw [e] at j;cases j
   exact absurd rfl (n xs)
theorem RM.fzF (r:RM K M H) {a:Addr} {ob:Obj} {u:HO} (e:H a=some (.frz ob u)):fz (M a)=true:=by
 cases q:M a with
 | none=>rfl
 | some o =>
   obtain ⟨ho,j,_,n⟩:=r.mut q
   rw [e] at j;cases j
   cases z:fz (some o) with
   | true=>rfl
   | false=>exact absurd rfl ((n z).2 ob u)
theorem RM.out (r:RM K M H) {a:Addr} (h:H a=none):M a=none:=by
 cases e:M a with
 | none=>rfl
 | some o =>
   obtain ⟨ho,q,_⟩:=r.mut e
   rw [h] at q;cases q
theorem Ext.stab (r:RM K M H) (x:Ext M H M' H'):Stab H H' where
 tup:=fun a xs e=>x.keep a _ (r.fzT e) e
 frz:=fun a o u e=>x.kp a _ (r.fzF e) e
theorem RS.mono (st:Stab H H') {σ:St} {ρ:aq} (h:RS K H σ ρ):RS K H' σ ρ :=
 ⟨h.1,fun i d e=>let ⟨v,q,r⟩:=h.2 i d e; ⟨v,q,r.mono st⟩⟩
theorem RS.set {σ:St} {ρ:aq} (h:RS K H σ ρ) (i:Nat) {d:D} {v:V} (r:RD K H d v):RS K H (σ.set i (some v)) (ρ.set i (some d)):=by
 refine ⟨by simp [h.1],fun j e q => ?_⟩
 by_cases hij:i=j
 ·subst hij
  have hi:i < ρ.length:=by
   have:=(List.getElem?_eq_some_iff.mp q).1
   simpa using this
  rw [List.getElem?_set_self hi] at q
  cases q
  exact ⟨v,by rw [List.getElem?_set_self (by rw [h.1];exact hi)],r⟩
 ·rw [List.getElem?_set_ne hij] at q ⊢
  exact h.2 j e q
noncomputable def jn (fr:List (Option Nat)) (ρ:aq):aq:=fr.map fun o=>o.bind fun j=>(ρ[j]?).join
theorem RS.inh {σ:St} {ρ:aq} (h:RS K H σ ρ) (fr:List (Option Nat)):RS K H (inh fr σ) (jn fr ρ):=by
 refine ⟨by simp [L2.inh,jn],fun i d e => ?_⟩
 unfold jn at e
 unfold L2.inh
 rw [List.getElem?_map] at e ⊢
 cases q:fr[i]? with
 | none=>rw [q] at e;cases e
 | some o =>
   rw [q] at e
   cases o with
   | none=>cases e
   | some j =>
     have e':some ((ρ[j]?).join)=some (some d):=e
     cases q' : ρ[j]? with
     | none=>rw [q'] at e';cases e'
     | some w =>
       rw [q'] at e'
       cases e'
       obtain ⟨v,v1,v2⟩:=h.2 j d q'
       exact ⟨v,by simp [v1],v2⟩
theorem RO.mono (st:Stab H H') {a:Addr} {o:O} (h:RO K H a o) (e:∀ ho,H a=some ho->H' a=some ho):RO K H' a o:=by
 cases o with
 | lst ds=>obtain ⟨vs,q,r⟩:=h;exact ⟨vs,e _ q,r.mono st⟩
 | dct t kvs =>
   cases t with
   | false=>obtain ⟨ps,q,r⟩:=h;exact ⟨ps,e _ q,Paired.mapP r fun _ _ z=>⟨z.1,z.2.mono st⟩⟩
   | true=>obtain ⟨ps,q,r⟩:=h;exact ⟨ps,e _ q,Paired.mapP r fun _ _ z=>⟨z.1,z.2.mono st⟩⟩
 | fdc kvs=>obtain ⟨ob,ps,q,r⟩:=h;exact ⟨ob,ps,e _ q,Paired.mapP r fun _ _ z=>⟨z.1,z.2.mono st⟩⟩
theorem RM.new {p:Addr} {ho:HO} (r:RM K M H) (n:H p=none):RM K M (upd H p ho):=fun a o e=>by
 have ne:a≠p:=fun z=>by subst z;obtain ⟨_,q,_⟩:=r.mut e;rw [n] at q;cases q
 refine (r a o e).mono ⟨fun b xs q => ?_,fun b o u q => ?_⟩ fun j q=>by rw [ah ne];exact q
 ·rw [ah (aT q n)];exact q
 ·rw [ah (aT q n)];exact q
theorem Ext.new' {p:Addr} {ho:HO} (n:H p=none):Ext M H M (upd H p ho):=⟨fun a o _ e=>by rw [ah (aT e n)];exact e,fun _ _ _ _=>rfl⟩
theorem RM.lay {p:Addr} {ho:HO} {o:O} (r:RM K M H) (n:H p=none) (h:RO K (upd H p ho) p o):RM K (af M p o) (upd H p ho):=fun a o' e=>by
 by_cases z:a=p
 ·subst z;rw [ae] at e;cases e;exact h
 ·rw [aR z] at e;exact r.new n a o' e
theorem Ext.lay {p:Addr} {ho:HO} {o:O} (n:H p=none):Ext M H (af M p o) (upd H p ho) :=
 ⟨fun a u _ e=>by rw [ah (aT e n)];exact e,fun a u m e=>by rw [aR (aT e n)]⟩
theorem RM.put {p:Addr} {ho:HO} {o o0:O} (r:RM K M H) (m:M p=some o0) (h:RO K (upd H p ho) p o) (w:fz (some o0)=false:=by rfl):RM K (af M p o) (upd H p ho):=fun a o' e=>by
 by_cases z:a=p
 ·subst z;rw [ae] at e;cases e;exact h
 ·rw [aR z] at e
  obtain ⟨G,j,n,B⟩:=r.mut m
  refine (r a o' e).mono ⟨fun b xs q => ?_,fun b o u q => ?_⟩ fun F q=>by rw [ah z];exact q
  ·rw [ah (fun z=>by subst z;rw [j] at q;cases q;exact n xs rfl)];exact q
  ·rw [ah (fun z=>by subst z;rw [j] at q;cases q;exact (B w).2 o u rfl)];exact q
theorem Ext.put {p:Addr} {ho:HO} {o o0:O} (m:M p=some o0) (w:fz (some o0)=false:=by rfl):Ext M H (af M p o) (upd H p ho) :=
 ⟨fun a u n e=>by rw [ah (fun z=>by subst z;rw [m,w] at n;cases n)];exact e,fun a u n e=>aR (fun z=>by subst z;rw [m,w] at n;cases n)⟩
theorem RM.stabPut {p:Addr} {ho:HO} {o0:O} (r:RM K M H) (m:M p=some o0) (w:fz (some o0)=false:=by rfl):Stab H (upd H p ho):=(Ext.put (o:=o0) (ho:=ho) m w).stab r
end
noncomputable abbrev QD:=D->Mem->Prop
noncomputable abbrev TEd:=aq->Mem->QD->Prop
noncomputable abbrev TTd:=aq->Mem->(Bool->Mem->Prop)->Prop
noncomputable abbrev TAd:=aq->Mem->(List D->Mem->Prop)->Prop
structure bf where
 nx:aq->Mem->Prop
 rt:QD
 bk:aq->Mem->Prop:=fun _ _=>False
 ct:aq->Mem->Prop:=fun _ _=>False
noncomputable abbrev TSd:=bf->aq->Mem->Prop
noncomputable def ab (T:TEd):Prop := ∀ ρ M Q Q',(∀ d M',Q d M'->Q' d M')->T ρ M Q->T ρ M Q'
noncomputable def aB (T:TTd):Prop := ∀ ρ M Q Q',(∀ d M',Q d M'->Q' d M')->T ρ M Q->T ρ M Q'
noncomputable def aY (T:TAd):Prop := ∀ ρ M Q Q',(∀ d M',Q d M'->Q' d M')->T ρ M Q->T ρ M Q'
structure LeD (a b:bf):Prop where
 nx:∀ ρ M,a.nx ρ M->b.nx ρ M
 rt:∀ d M,a.rt d M->b.rt d M
 bk:∀ ρ M,a.bk ρ M->b.bk ρ M
 ct:∀ ρ M,a.ct ρ M->b.ct ρ M
noncomputable def aC (T:TSd):Prop := ∀ a b ρ M,LeD a b->T a ρ M->T b ρ M
noncomputable def KE' (K:Frag) (M:Mem) (H:Hp) (Q:VK):QD:=fun d M' => ∀ v H',Ext M H M' H'->RM K M' H'->RD K H' d v->Q v H'
noncomputable def KT' (K:Frag) (M:Mem) (H:Hp) (Q:Bool->Hp->Prop):Bool->Mem->Prop:=fun b M' => ∀ H',Ext M H M' H'->RM K M' H'->Q b H'
noncomputable def KA' (K:Frag) (M:Mem) (H:Hp) (Q:List V->Hp->Prop):List D->Mem->Prop:=fun ds M' => ∀ vs H',Ext M H M' H'->RM K M' H'->RDs K H' ds vs->Q vs H'
noncomputable def lE (K:Frag) (T:TEd):TE:=fun σ H Q => ∃ ρ M,RS K H σ ρ /\ RM K M H/\T ρ M (KE' K M H Q)
noncomputable def lT (K:Frag) (T:TTd):TT:=fun σ H Q => ∃ ρ M,RS K H σ ρ /\ RM K M H/\T ρ M (KT' K M H Q)
noncomputable def lA (K:Frag) (T:TAd):TA:=fun σ H Q => ∃ ρ M,RS K H σ ρ /\ RM K M H/\T ρ M (KA' K M H Q)
structure Link (K:Frag) (M:Mem) (H:Hp) (a:bf) (b:bu):Prop where
 nx:∀ ρ M' σ H',Ext M H M' H'->RS K H' σ ρ -> RM K M' H'->a.nx ρ M'->b.nx σ H'
 rt:∀ d M' v H',Ext M H M' H'->RM K M' H'->RD K H' d v->a.rt d M'->b.rt v H'
 bk:∀ ρ M' σ H',Ext M H M' H'->RS K H' σ ρ -> RM K M' H'->a.bk ρ M'->b.bk σ H'
 ct:∀ ρ M' σ H',Ext M H M' H'->RS K H' σ ρ -> RM K M' H'->a.ct ρ M'->b.ct σ H'
noncomputable def lS (K:Frag) (T:TSd):TS:=fun D σ H => ∃ ρ M A,RS K H σ ρ /\ RM K M H/\Link K M H A D/\T A ρ M
theorem Link.ext {K:Frag} {M M':Mem} {H H':Hp} {a:bf} {b:bu} (l:Link K M H a b) (x:Ext M H M' H'):Link K M' H' a b :=
 ⟨fun ρ M2 σ H2 y=>l.nx ρ M2 σ H2 (x.trans y),fun d M2 v H2 y=>l.rt d M2 v H2 (x.trans y),fun ρ M2 σ H2 y=>l.bk ρ M2 σ H2 (x.trans y),fun ρ M2 σ H2 y=>l.ct ρ M2 σ H2 (x.trans y)⟩
theorem PE.imp {X:Cx} {e:Expr} {t t':TE} (h:PE X e t) (i:∀ σ H Q,t' σ H Q->t σ H Q):PE X e t':=fun pins s σ H Q I q=>h pins s σ H Q I (i _ _ _ q)
theorem PT.imp {X:Cx} {e:Expr} {t t':TT} (h:PT X e t) (i:∀ σ H Q,t' σ H Q->t σ H Q):PT X e t':=fun pins s σ H Q I q=>h pins s σ H Q I (i _ _ _ q)
theorem PW.imp {X:Cx} {e:Expr} {t t':TT} (h:PW X e t) (i:∀ σ H Q,t' σ H Q->t σ H Q):PW X e t':=fun wh pins s σ H Q I q=>h wh pins s σ H Q I (i _ _ _ q)
theorem PA.imp {X:Cx} {e:List Expr} {t t':TA} (h:PA X e t) (i:∀ σ H Q,t' σ H Q->t σ H Q):PA X e t':=fun p pins s σ H Q I q=>h p pins s σ H Q I (i _ _ _ q)
theorem PS.imp {X:Cx} {e:Stmt} {t t':TS} (h:PS X e t) (i:∀ D σ H,t' D σ H->t D σ H):PS X e t':=fun pins s σ H D I q=>h pins s σ H D I (i _ _ _ q)
theorem PSs.imp {X:Cx} {e:List Stmt} {t t':TS} (h:PSs X e t) (i:∀ D σ H,t' D σ H->t D σ H):PSs X e t':=fun pins s σ H D I q=>h pins s σ H D I (i _ _ _ q)
end
section
theorem KE'.ext {K:Frag} {M M2 M':Mem} {H H2:Hp} {Q:VK} {d:D} (x:Ext M H M2 H2) (h:KE' K M H Q d M'):KE' K M2 H2 Q d M':=fun v H' y=>h v H' (x.trans y)
theorem KT'.ext {K:Frag} {M M2 M':Mem} {H H2:Hp} {Q:Bool->Hp->Prop} {d:Bool} (x:Ext M H M2 H2) (h:KT' K M H Q d M'):KT' K M2 H2 Q d M':=fun H' y=>h H' (x.trans y)
noncomputable abbrev R2d:=D->D->Mem->QD->Prop
noncomputable abbrev R1d:=D->Mem->QD->Prop
noncomputable abbrev RAd:=List D->Mem->QD->Prop
noncomputable def aD (r:R2d):Prop := ∀ x y M Q Q',(∀ d M',Q d M'->Q' d M')->r x y M Q->r x y M Q'
noncomputable def qe (r:R1d):Prop := ∀ x M Q Q',(∀ d M',Q d M'->Q' d M')->r x M Q->r x M Q'
noncomputable def aV (r:RAd):Prop := ∀ x M Q Q',(∀ d M',Q d M'->Q' d M')->r x M Q->r x M Q'
noncomputable def l2 (K:Frag) (rd:R2d):R2:=fun v u H Q => ∃ x y M,RM K M H/\RD K H x v/\RD K H y u/\rd x y M (KE' K M H Q)
noncomputable def l1 (K:Frag) (rd:R1d):V->Hp->VK->Prop:=fun v H Q => ∃ x M,RM K M H/\RD K H x v/\rd x M (KE' K M H Q)
noncomputable def lR (K:Frag) (rd:RAd):List V->Hp->VK->Prop:=fun vs H Q => ∃ ds M,RM K M H/\RDs K H ds vs/\rd ds M (KE' K M H Q)
noncomputable def lMt (K:Frag) (rd:D->List D->Mem->QD->Prop):V->List V->Hp->VK->Prop:=fun v vs H Q => ∃ x ds M,RM K M H/\RD K H x v/\RDs K H ds vs/\rd x ds M (KE' K M H Q)
noncomputable def cm (i:Nat):TEd:=fun ρ M Q => ∃ d, ρ[i]? = some (some d)/\Q d M
noncomputable def wC (d:D):TEd:=fun _ M Q=>Q d M
noncomputable def wOp (rd:R2d) (ta tb:TEd):TEd:=fun ρ M Q=>ta ρ M fun x M1=>tb ρ M1 fun y M2=>rd x y M2 Q
noncomputable def wUn (rd:R1d) (ta:TEd):TEd:=fun ρ M Q=>ta ρ M fun x M1=>rd x M1 Q
noncomputable def bm:TAd:=fun _ M Q=>Q [] M
noncomputable def aI (ta:TEd) (tr:TAd):TAd:=fun ρ M Q=>ta ρ M fun x M1=>tr ρ M1 fun xs M2=>Q (x::xs) M2
noncomputable def wAr (rd:RAd) (t:TAd):TEd:=fun ρ M Q=>t ρ M fun ds M1=>rd ds M1 Q
theorem uU {i:Nat}:ab (cm i):=fun _ _ _ _ h ⟨d,e,q⟩=>⟨d,e,h _ _ q⟩
theorem lw {d:D}:ab (wC d):=fun _ _ _ _ h q=>h _ _ q
theorem dY {rd:R2d} {ta tb:TEd} (j:aD rd) (n:ab ta) (z:ab tb):ab (wOp rd ta tb):=fun ρ M Q Q' h q =>
 n _ _ _ _ (fun x G B=>z _ _ _ _ (fun y M2 F=>j _ _ _ _ _ h F) B) q
theorem y9 {rd:R1d} {ta:TEd} (j:qe rd) (n:ab ta):ab (wUn rd ta):=fun ρ M Q Q' h q=>n _ _ _ _ (fun x B z=>j _ _ _ _ h z) q
theorem ao:aY bm:=fun _ _ _ _ h q=>h _ _ q
theorem ak {ta:TEd} {tr:TAd} (j:ab ta) (n:aY tr):aY (aI ta tr):=fun ρ M Q Q' h q =>
 j _ _ _ _ (fun x F z=>n _ _ _ _ (fun xs M2 B=>h _ _ B) z) q
theorem gc {rd:RAd} {t:TAd} (j:aV rd) (n:aY t):ab (wAr rd t):=fun ρ M Q Q' h q=>n _ _ _ _ (fun ds B z=>j _ _ _ _ h z) q
section
variable {X:Cx} {a b:Expr} {ta tb:TEd} {pos:Pos}
theorem Ak {i:Nat} {x:Str} (z:X.N[i]? = some x) (j:Vis X.env.scope x) (hd:(x==("__debug__":Str))=false) (n:(x==("__classdict__":Str))=false):PE X (.Name x pos) (lE X.K (cm i)):=by
 refine PE.imp (zI z j hd n) fun σ H Q h => ?_
 obtain ⟨ρ,M,rs,rm,d,e,q⟩:=h
 obtain ⟨v,j,rd⟩:=rs.2 i d e
 exact ⟨v,j,q v H Ext.refl rm rd⟩
theorem Al {i:Int} {j:Nat}:PE X (.Constant (.int i) j pos) (lE X.K (wC (.int i))) :=
 PE.imp zJ fun σ H Q ⟨ρ,M,rs,rm,q⟩=>q _ H Ext.refl rm (RD.int_iff.mpr rfl)
theorem BE {i:Bool} {j:Nat}:PE X (.Constant (.bool i) j pos) (lE X.K (wC (.bl i))) :=
 PE.imp Bi fun σ H Q ⟨ρ,M,rs,rm,q⟩=>q _ H Ext.refl rm (RD.bl_iff.mpr rfl)
theorem Am {j:Nat}:PE X (.Constant .none j pos) (lE X.K (wC .non)) :=
 PE.imp zK fun σ H Q ⟨ρ,M,rs,rm,q⟩=>q _ H Ext.refl rm (RD.non_iff.mpr rfl)
theorem gd {K:Frag} {rd:R2d} (I:aD rd) (ma:ab ta) (mb:ab tb) (σ:St) (H:Hp) (Q:VK) (h:lE K (wOp rd ta tb) σ H Q):tOp (l2 K rd) (lE K ta) (lE K tb) σ H Q:=by
 obtain ⟨ρ,M,rs,rm,q⟩:=h
 refine ⟨ρ,M,rs,rm,ma _ _ _ _ (fun x J L v H1 F j n => ?_) q⟩
 refine ⟨ρ,J,rs.mono (F.stab rm),j,mb _ _ _ _ (fun y M2 O u H2 G z B => ?_) L⟩
 exact ⟨x,y,M2,z,n.mono (G.stab j),B,I _ _ _ _ _ (fun d M' k=>k.ext (F.trans G)) O⟩
theorem BG {op:Operator} {rd:R2d} (ho:OpR X (binaryOp op) (l2 X.K rd)) (j:aD rd) (ma:ab ta) (mb:ab tb) (n:PE X a (lE X.K ta)) (q:PE X b (lE X.K tb)):PE X (.BinOp a op b pos) (lE X.K (wOp rd ta tb)) :=
 PE.imp (Bs ho n q) (gd j ma mb)
theorem An {op:CmpOp} {rd:R2d} (ho:OpR X (compareOp op) (l2 X.K rd)) (j:aD rd) (ma:ab ta) (mb:ab tb) (n:PE X a (lE X.K ta)) (q:PE X b (lE X.K tb)) (hm:behindInMarks op b=false) :
 PE X (.Compare a [op] [b] pos) (lE X.K (wOp rd ta tb)):=PE.imp (xT ho n q hm) (gd j ma mb)
noncomputable def gR (t:TEd):TTd:=fun ρ M Q=>t ρ M fun x M1 => ∃ k,x = .bl k/\Q k M1
theorem uV {t:TEd} (h:ab t):aB (gR t):=fun ρ M Q Q' i q=>h _ _ _ _ (fun x n ⟨k,e,j⟩=>⟨k,e,i _ _ j⟩) q
theorem uW {K:Frag} {t:TEd} (m:ab t) (σ:St) (H:Hp) (Q:Bool->Hp->Prop) (h:lT K (gR t) σ H Q):wN (lE K t) σ H Q:=by
 obtain ⟨ρ,M,rs,rm,q⟩:=h
 refine ⟨ρ,M,rs,rm,m _ _ _ _ (fun x F ⟨k,e,z⟩ v H1 B j n => ?_) q⟩
 subst e
 exact ⟨k,RD.bl_iff.mp n,z H1 B j⟩
theorem Ao {op:CmpOp} {rd:R2d} (ho:OpR X (compareOp op) (l2 X.K rd)) (j:aD rd) (ma:ab ta) (mb:ab tb) (n:PE X a (lE X.K ta)) (q:PE X b (lE X.K tb)) (hm:behindInMarks op b=false) :
 PT X (.Compare a [op] [b] pos) (lT X.K (gR (wOp rd ta tb))) :=
 PT.imp (xU ho n q hm) fun σ H Q h=>by
  have h1:=uW (dY j ma mb) σ H Q h
  exact gd j ma mb σ H _ h1
theorem BH {op:UnaryOp} {rd:R1d} (ho:UnR X (unaryOp op) (l1 X.K rd)) (z:qe rd) (ma:ab ta) (B:PE X a (lE X.K ta)):PE X (.UnaryOp op a pos) (lE X.K (wUn rd ta)) :=
 PE.imp (Bt ho B) fun σ H Q ⟨ρ,M,rs,rm,q⟩=>⟨ρ,M,rs,rm,ma _ _ _ _ (fun x F G v H1 I j n=>⟨x,F,j,n,z _ _ _ _ (fun d M' k=>k.ext I) G⟩) q⟩
theorem BI {rd:R2d} (ho:IxR X (l2 X.K rd)) (j:aD rd) (ma:ab ta) (mb:ab tb) (n:PE X a (lE X.K ta)) (q:PE X b (lE X.K tb)) (hs:ji b):PE X (.Subscript a b pos) (lE X.K (wOp rd ta tb)) :=
 PE.imp (BA ho n q hs) (gd j ma mb)
theorem cF:PA X [] (lA X.K bm):=PA.imp im fun σ H Q ⟨ρ,M,rs,rm,q⟩=>q _ H Ext.refl rm RDs.nil
theorem rT {K:Frag} {tr:TAd} (ma:ab ta) (mr:aY tr) (σ:St) (H:Hp) (Q:List V->Hp->Prop) (h:lA K (aI ta tr) σ H Q):wQ (lE K ta) (lA K tr) σ H Q:=by
 obtain ⟨ρ,M,rs,rm,q⟩:=h
 refine ⟨ρ,M,rs,rm,ma _ _ _ _ (fun x I J v H1 F j n => ?_) q⟩
 refine ⟨ρ,I,rs.mono (F.stab rm),j,mr _ _ _ _ (fun xs M2 L vs H2 G z B => ?_) J⟩
 exact L (v::vs) H2 (F.trans G) z (RDs.cons (n.mono (G.stab j)) B)
theorem be {e:Expr} {es:List Expr} {tr:TAd} (ma:ab ta) (mr:aY tr) (j:PE X e (lE X.K ta)) (n:PA X es (lA X.K tr)) (hs:starEach (e::es) X.env=(false,eval e X.env)::starEach es X.env) :
 PA X (e::es) (lA X.K (aI ta tr)):=PA.imp (cu j n hs) (rT ma mr)
theorem bF {K:Frag} {rd:RAd} {t:TAd} (z:aV rd) (mt:aY t) (σ:St) (H:Hp) (Q:VK) (h:lE K (wAr rd t) σ H Q):tCB (lR K rd) (lA K t) σ H Q:=by
 obtain ⟨ρ,M,rs,rm,q⟩:=h
 exact ⟨ρ,M,rs,rm,mt _ _ _ _ (fun ds B F vs H1 G j n=>⟨ds,B,j,n,z _ _ _ _ (fun d M' k=>k.ext G) F⟩) q⟩
noncomputable def lB:RAd:=fun ds M Q=>ds.length<=sizeLine/\Q (.tup ds) M
noncomputable def lD:RAd:=fun ds M Q=>ds.length<=sizeLine /\ ∀ p,M p=none->Q (.ref p) (af M p (.lst ds))
theorem rV:aV lB:=fun _ _ _ _ h ⟨z,q⟩=>⟨z,h _ _ q⟩
theorem rW:aV lD:=fun _ _ _ _ h ⟨z,q⟩=>⟨z,fun p n=>h _ _ (q p n)⟩
theorem de {K:Frag} {M:Mem} {H:Hp} {Q:VK} {ds:List D} {vs:List V} {p:Addr} (rm:RM K M H) (rd:RDs K H ds vs) (q:KE' K M H Q (.tup ds) M) (n:H p=none):Q (.ref p) (upd H p (.tup vs)):=by
 have x:Ext M H M (upd H p (.tup vs)):=Ext.new' n
 exact q (.ref p) _ x (rm.new n) (RD.tup_iff.mpr ⟨p,vs,rfl,ar,rd.mono (x.stab rm)⟩)
theorem cv {K:Frag} {M:Mem} {H:Hp} {Q:VK} {ds:List D} {vs:List V} {p:Addr} (rm:RM K M H) (rd:RDs K H ds vs) (q:∀ p,M p=none->KE' K M H Q (.ref p) (af M p (.lst ds))) (n:H p=none):Q (.ref p) (upd H p (.lst vs)):=by
 have x:Ext M H (af M p (.lst ds)) (upd H p (.lst vs)):=Ext.lay n
 have x0:Ext M H M (upd H p (.lst vs)):=Ext.new' n
 exact q p (rm.out n) (.ref p) _ x (rm.lay n ⟨vs,ar,rd.mono (x0.stab rm)⟩) (RD.ref_iff.mpr rfl)
theorem Ap {es:List Expr} {t:TAd} {k:Nat} (mt:aY t) (h:PA X es (lA X.K t)):PE X (.Tuple es k pos) (lE X.K (wAr lB t)) :=
 PE.imp (rD h) fun σ H Q ⟨ρ,M,rs,rm,q⟩=>⟨ρ,M,rs,rm,mt _ _ _ _ (fun ds I ⟨z,F⟩ vs H1 G B j=>⟨by rw [j.length];exact z,fun p n=>de B j (F.ext G) n⟩) q⟩
theorem Aq {es:List Expr} {t:TAd} (mt:aY t) (h:PA X es (lA X.K t)):PE X (.List es pos) (lE X.K (wAr lD t)) :=
 PE.imp (A8 h) fun σ H Q ⟨ρ,M,rs,rm,q⟩=>⟨ρ,M,rs,rm,mt _ _ _ _ (fun ds I ⟨z,F⟩ vs H1 G B j=>⟨by rw [j.length];exact z,fun p n=>cv B j (fun p' n'=>(F p' n').ext G) n⟩) q⟩
end
end
end Mi
end L2
namespace L2
open PySem PySem.Spec PyProof.Rows
namespace Mi
end Mi
end L2
namespace L2
open PySem PySem.Spec PyProof.Rows
section
theorem gS:fillsNumberSlot (.type "tuple") "mul" = pure false :=
 PyProof.Rows.fillsNumberSlot_seq (id := "tuple.__mul__") (r:=some (.builtin "tuple.__rmul__")) F.slot_tuple_mul.lookup (by decide +kernel) F.slot_tuple_rmul.lookup (by decide +kernel)
theorem lF:seqRepeat? (.type "tuple")=pure (some (.builtin "tuple.__mul__")):=by
 unfold seqRepeat?
 rw [PyProof.Rows.seqSlot_of (T := "tuple") (name := "__mul__") (id := "tuple.__mul__") F.slot_tuple_mul.lookup (by decide +kernel),PyProof.Rows.seqSlot_of (T := "tuple") (name := "__rmul__") (id := "tuple.__rmul__") F.slot_tuple_rmul.lookup (by decide +kernel)]
 rfl
theorem jo (a:Int) (t:Tok) (l:Addr) (items:Array Value) (n:Nat) (d:Option Addr) (sl:Array (Option Value)) :
 Meets (Builtin.«int.__rmul__» ⟨[.int a t, .ref l],[]⟩) (fun _ R s=>s.heap.get? l=some { cls := .type "tuple",dict:=d,data := .seq items n,slots:=sl }/\R (.ok (.ret Value.notImplemented)) s) :=
 .of_wp fun prog w A R s h=>by obtain ⟨j,g,d,tk,os⟩:=s;obtain ⟨q,h⟩:=h;wp_walk;exact ⟨_,rfl,h⟩
open AutoSeq1 (wpAny_loadPart') in
theorem rX (l:Addr) (items:Array Value) (n:Nat) (dd:Option Addr) (sl:Array (Option Value)) (x:Int) (u:Tok) (h1 : -(2 ^ 63)<=x) (h2:x < 2 ^ 63) (z:items.size*x.toNat<=sizeLine) :
 Meets (Builtin.«tuple.__mul__» ⟨[.ref l, .int x u],[]⟩) (fun _ R s=>s.heap.get? l=some { cls := .type "tuple",dict:=dd,data := .seq items n,slots:=sl } /\
  (if items.isEmpty || x==1 then R (.ok (.ret (.ref l))) s else R (.ok (.ret (.ref s.heap.objs.size))) { s with heap:=s.heap.push { cls := .type "tuple",data := .seq ((List.replicate x.toNat items).foldl (· ++ ·) #[]) } })) :=
 .of_wp fun prog w A R s h=>by
  obtain ⟨L,g,d,tk,os⟩:=s;obtain ⟨j,h⟩:=h
  have f1:=AutoSeq1.idx_int
  have B:(decide (x < -(2 ^ 63)) || decide (x≥2 ^ 63))=false:=by
   rw [decide_eq_false (by lia),decide_eq_false (by lia)];rfl
  wp_walk using wpAny_loadPart' j
  refine wpAny_ite_false (decide_eq_false (by rw [B];decide)) ?_
  dsimp only
  by_cases e1:(items.isEmpty || x==1)=true
  ·rw [if_pos e1] at h
   wp_walk using wpAny_loadPart' j
   exact ⟨_,rfl,h⟩
  ·rw [if_neg e1] at h
   wp_walk using wpAny_loadPart' j
   simp only [Bool.or_eq_true,not_or] at e1
   by_cases e2:x<=0
   ·have q:(decide (x<=0) || items.isEmpty)=true:=by rw [decide_eq_true e2];rfl
    rw [if_pos q]
    have F:x.toNat=0:=by lia
    rw [F] at h
    wp_walk
    exact ⟨_,rfl,h⟩
   ·have q : ¬ (decide (x<=0) || items.isEmpty)=true:=by simp;exact ⟨by lia,by simpa using e1.1⟩
    rw [if_neg q]
    have hx:((items.size:Nat):Int)*x=((items.size*x.toNat:Nat):Int):=by
     rw [Int.natCast_mul,Int.toNat_of_nonneg (by lia)]
    have hs:sizeLine=16777216:=sizeLine_eq
    have G : ¬ ((items.size:Nat):Int)*x > (2 ^ 63 - 1) / 8:=by rw [hx];lia
    rw [if_neg G]
    have I : ¬ Builtin.Tuple.tupleTooMany (((items.size:Nat):Int)*x)=true:=by
     rw [hx];unfold Builtin.Tuple.tupleTooMany
     intro J;have O:=of_decide_eq_true J;lia
    rw [if_neg I]
    wp_walk
    have hsz:((List.replicate x.toNat items).foldl (· ++ ·) #[]).size<=sizeLine:=by
     have:∀ (k:Nat) (a:Array Value),((List.replicate k items).foldl (· ++ ·) a).size=a.size+items.size*k:=by
      intro k;induction k with
      | zero=>intro a;simp
      | succ k ih=>intro a;rw [List.replicate_succ,List.foldl_cons,ih,Array.size_append,Nat.mul_succ];lia
     rw [this];simpa using z
    refine wpAny_ite_false (decide_eq_false (Nat.not_lt.mpr hsz)) ?_
    wp_walk
    exact ⟨_,rfl,h⟩
end
section
section
variable {X:Cx}
noncomputable def xf (K:Frag):R2:=fun x y H Q => ∃ l k xs,x = .ref l/\y = .int k/\SqT K H l xs /\ -(2 ^ 63)<=k/\k < 2 ^ 63/\xs.length*k.toNat<=sizeLine /\
 ((xs=[]∨k=1)->Q (.ref l) H)/\(¬ (xs=[]∨k=1) -> ∀ p,H p=none->Q (.ref p) (upd H p (.tup (List.replicate k.toNat xs).flatten)))
theorem ya:OpR X (binaryOp .Mult) (xf X.K):=by
 intro pins s σ H x y v u Q I rx ry h
 obtain ⟨l,k,xs,rfl,rfl,G,h1,h2,j,J,L⟩:=h
 cases rx
 obtain ⟨t,rfl⟩:=ry
 obtain ⟨its,r,O,_⟩:=I.tuple G
 have R:=r.length
 obtain ⟨⟨cls,dd,dat,sl⟩,e,B,n,hd⟩:=O
 dsimp only at B hd
 subst B hd
 have hlen:its.toArray.size*k.toNat<=sizeLine:=by rw [List.size_toArray, <- R];exact j
 have f0:∀ m:Nat,List.foldl (fun S Y=>S++Y) #[] (List.replicate m its.toArray)=(List.replicate m its).flatten.toArray:=fun m=>by
  have:=fA its m []
  rw [List.nil_append] at this
  exact this
 refine wpAny_binaryOp_repeat_ref (T := "tuple") (U := "int") (by decide) ⟨_,e,rfl⟩ (fun s'=>typeIs_int s' k t) gS F.fills_int_mul F.slot_int_rmul lF F.slot_int_index.lookup
  (call_meets F.slot_int_rmul (typeIs_int s k t) F.entry_int_rmul (F.args_int_rmul_2 _ _) (jo k t l its.toArray n dd sl)
    ⟨e,rfl,⟨_,e,rfl⟩,call_meets F.slot_tuple_mul ⟨_,e,rfl⟩ F.entry_tuple_mul (F.args_tuple_mul_2 _ _) (rX l its.toArray n dd sl k t h1 h2 hlen) ⟨e, ?_⟩⟩)
 have hi:(its.toArray.isEmpty || k==1)=true↔(xs=[]∨k=1):=by
  rw [<- r.nil_iff];simp
 split
 ·next c=>exact ⟨.ref l,H,I,rfl,J (hi.mp c)⟩
 ·next c =>
  rw [f0]
  refine ⟨.ref s.heap.objs.size,_,I.laid (t':=s.toks) (o := .tup (List.replicate k.toNat xs).flatten) (fun b ob q=>Heap.get?_push_of_some _ q) (Nat.le_refl _) ?_,rfl,L (fun z=>c (hi.mpr z)) _ (I.hok.fresh (Nat.le_refl _))⟩
  exact ⟨by rw [oF,Nat.mul_comm];exact j,_,r.rep k.toNat,IsTup.new _ _⟩
end
end
section
section
variable {X:Cx}
theorem yb:OpR X (binaryOp .Add) (fun x y H Q => ∃ a b ys,x = .ref a/\y = .ref b/\SqT X.K H a []/\SqT X.K H b ys/\Q (.ref b) H):=by
 intro pins s σ H x y v u Q I rx ry h
 obtain ⟨a,b,ys,rfl,rfl,R,S,q⟩:=h
 cases rx
 cases ry
 obtain ⟨its,U,Y,_⟩:=I.tuple R
 obtain ⟨j,r2,p2,_⟩:=I.tuple S
 have e0:its=[]:=U.nil_iff.mpr rfl
 obtain ⟨⟨cls,dd,data,sl⟩,ho,L,n,hd⟩:=id Y
 obtain ⟨⟨O,G,data2,J⟩,z,B,Z,hd2⟩:=id p2
 simp only at L hd B hd2
 subst L hd B hd2
 exact concat_meets ⟨_,ho,rfl⟩ ⟨_,z,rfl⟩ noFill_tuple_add seq_tuple_add PySem.F.slot_tuple_add PySem.F.entry_tuple_add (PySem.F.args_tuple_add_2 _ _)
  (tuple_addW0 a b its.toArray j.toArray n Z dd G sl J (by simp [e0])) ⟨ho,z,⟨.ref b,H,I,rfl,q⟩⟩
end
end
end L2
namespace L2
namespace Mi
open PySem PySem.Spec PyProof.Rows
section
noncomputable def MulOk (i j:Int):Prop:=(-(2 ^ 64) < i/\i < 2 ^ 64)∨(-(2 ^ 64) < j/\j < 2 ^ 64)∨(Builtin.Int.intBits i<=2 ^ 20/\Builtin.Int.intBits j<=2 ^ 20)
theorem MulOk.ok {i j:Int} (h:MulOk i j):IntMulOk i j:=by
 rcases h with h | h | h
 ·exact IntMulOk.of_left (intBits_le_64 h.1 h.2)
 ·exact IntMulOk.of_right (intBits_le_64 h.1 h.2)
 ·exact IntMulOk.of_bits h.1 h.2
noncomputable def gT:R2d
 | .int i, .int j,M,Q=>Q (.int (i+j)) M
 | .tup a, .tup b,M,Q=>(a≠[]∨True)/\a.length+b.length<=sizeLine/\Q (.tup (a++b)) M
 | .ref a, .ref b,M,Q => ∃ xs ys,M a=some (.lst xs)/\M b=some (.lst ys)/\xs.length+ys.length<=sizeLine /\ ∀ p,M p=none->Q (.ref p) (af M p (.lst (xs++ys)))
 | .str x, .str y,M,Q=>x.length+y.length<=sizeLine/\Q (.str (x++y)) M
 | _,_,_,_=>False
noncomputable def jq:R2d
 | .int i, .int j,M,Q=>Q (.int (i - j)) M
 | _,_,_,_=>False
noncomputable def jr:R2d
 | .int i, .int j,M,Q=>MulOk i j/\Q (.int (i*j)) M
 | .ref a, .int k,M,Q => ∃ xs,M a=some (.lst xs) /\ -(2 ^ 63)<=k/\k < 2 ^ 63/\xs.length*k.toNat<=sizeLine /\ ∀ p,M p=none->Q (.ref p) (af M p (.lst (List.replicate k.toNat xs).flatten))
 | .tup ds, .int k,M,Q => -(2 ^ 63)<=k/\k < 2 ^ 63/\ds.length*k.toNat<=sizeLine/\Q (.tup (List.replicate k.toNat ds).flatten) M
 | _,_,_,_=>False
noncomputable def kP:R2d
 | .int i, .int j,M,Q => 0 < j/\j < 2 ^ 256/\Q (.int (i / j)) M
 | _,_,_,_=>False
noncomputable def qf:R2d
 | .int i, .int j,M,Q => 0 < j/\Q (.int (i % j)) M
 | _,_,_,_=>False
noncomputable def qg:R2d
 | .int i, .int j,M,Q => 0<=j/\j<=1000000/\i.natAbs < 2 ^ 64/\Q (.int (i ^ j.toNat)) M
 | _,_,_,_=>False
theorem uX:aD gT:=by
 intro x y M Q Q' h q
 cases x <;> cases y <;> first
  | exact q.elim
  | exact h _ _ q
  | exact ⟨q.1,h _ _ q.2⟩
  | exact ⟨q.1,q.2.1,h _ _ q.2.2⟩
  | (obtain ⟨xs,ys,e1,e2,z,q⟩:=q;exact ⟨xs,ys,e1,e2,z,fun p n=>h _ _ (q p n)⟩)
theorem uY:aD jq:=by
 intro x y M Q Q' h q
 cases x <;> cases y <;> first | exact q.elim | exact h _ _ q
theorem uZ:aD jr:=by
 intro x y M Q Q' h q
 cases x <;> cases y <;> first
  | exact q.elim
  | exact ⟨q.1,h _ _ q.2⟩
  | exact ⟨q.1,q.2.1,q.2.2.1,h _ _ q.2.2.2⟩
  | (obtain ⟨xs,e1,j,z,B,q⟩:=q;exact ⟨xs,e1,j,z,B,fun p n=>h _ _ (q p n)⟩)
theorem rY:aD kP:=by
 intro x y M Q Q' h q
 cases x <;> cases y <;> first | exact q.elim | exact ⟨q.1,q.2.1,h _ _ q.2.2⟩
theorem v6:aD qf:=by
 intro x y M Q Q' h q
 cases x <;> cases y <;> first | exact q.elim | exact ⟨q.1,h _ _ q.2⟩
theorem v7:aD qg:=by
 intro x y M Q Q' h q
 cases x <;> cases y <;> first | exact q.elim | exact ⟨q.1,q.2.1,q.2.2.1,h _ _ q.2.2.2⟩
section
variable {X:Cx}
theorem OpR.of {f:Value->Value->Sem Value} {r r':R2} (h:OpR X f r) (i:∀ v u H Q,r' v u H Q->r v u H Q):OpR X f r':=fun pins s σ H x y v u Q I rx ry q=>h pins s σ H x y v u Q I rx ry (i _ _ _ _ q)
theorem IxR.of {r r':R2} (h:IxR X r) (i:∀ v u H Q,r' v u H Q->r v u H Q):IxR X r':=fun a b pins s σ H x y v u Q I rx ry q=>h a b pins s σ H x y v u Q I rx ry (i _ _ _ _ q)
theorem CallR.of {f:Value} {r r':List V->Hp->VK->Prop} (h:CallR X f r) (i:∀ vs H Q,r' vs H Q->r vs H Q):CallR X f r':=fun pins s σ H xs us Q I rx q=>h pins s σ H xs us Q I rx (i _ _ _ q)
theorem BJ {K:Frag} {M:Mem} {H:Hp} {Q:VK} {a b:List D} {v u:V} (rm:RM K M H) (rx:RD K H (.tup a) v) (ry:RD K H (.tup b) u) (q:gT (.tup a) (.tup b) M (KE' K M H Q)):wU K v u H Q ∨ ∃ a b ys,v = .ref a/\u = .ref b/\SqT K H a []/\SqT K H b ys/\Q (.ref b) H:=by
 obtain ⟨a',vs,rfl,z,j⟩:=RD.tup_iff.mp rx
 obtain ⟨b',us,rfl,B,F⟩:=RD.tup_iff.mp ry
 obtain ⟨_,I,q⟩:=q
 have l1:=j.length
 have l2:=F.length
 by_cases G:a=[]
 ·subst G
  have:vs=[]:=RDs.nil_iff.mp j
  subst this
  exact .inr ⟨a',b',us,rfl,rfl,SqT.of z,SqT.of B,q _ H Ext.refl rm ry⟩
 refine .inl ⟨a',b',vs,us,rfl,rfl,SqT.of z,SqT.of B,fun e=>G (List.length_eq_zero_iff.mp (by rw [<- l1,e];rfl)),by lia,fun e => ?_,fun _ p n=>de rm (j.append F) q n⟩
 have eb:b=[]:=List.length_eq_zero_iff.mp (by rw [<- l2,e];rfl)
 subst eb
 rw [List.append_nil] at q
 exact q _ H Ext.refl rm rx
theorem v8:OpR X (binaryOp .Add) (l2 X.K gT):=by
 refine OpR.of (op_add.or ((op_catT.or yb).or (op_cat.or pZ))) fun v u H Q h => ?_
 obtain ⟨x,y,M,rm,rx,ry,q⟩:=h
 cases x <;> cases y <;> first
  | exact q.elim
  | (cases RD.int_iff.mp rx;cases RD.int_iff.mp ry;exact .inl ⟨_,_,rfl,rfl,q _ H Ext.refl rm (RD.int_iff.mpr rfl)⟩)
  | exact .inr (.inl (BJ rm rx ry q))
  | (cases RD.ref_iff.mp rx;cases RD.ref_iff.mp ry
     obtain ⟨xs,ys,e1,e2,z,q⟩:=q
     obtain ⟨vs,h1,j⟩:=rm _ _ e1
     obtain ⟨us,h2,B⟩:=rm _ _ e2
     have l1:=j.length
     have l2:=B.length
     refine .inr (.inr (.inl ⟨_,_,vs,us,rfl,rfl,h1,h2,by lia,fun p n=>cv rm (j.append B) q n⟩)))
  | (cases RD.str_iff.mp rx;cases RD.str_iff.mp ry;exact .inr (.inr (.inr ⟨_,_,rfl,rfl,q.1,q.2 _ H Ext.refl rm (RD.str_iff.mpr rfl)⟩)))
theorem v9:OpR X (binaryOp .Sub) (l2 X.K jq):=by
 refine OpR.of A2 fun v u H Q h => ?_
 obtain ⟨x,y,M,rm,rx,ry,q⟩:=h
 cases x <;> cases y <;> first
  | exact q.elim
  | (cases RD.int_iff.mp rx;cases RD.int_iff.mp ry;exact ⟨_,_,rfl,rfl,q _ H Ext.refl rm (RD.int_iff.mpr rfl)⟩)
theorem op_mul_i:OpR X (binaryOp .Mult) (rI MulOk fun i j => .int (i*j)):=opI fun _ _ _ _ _ _ _ n q=>mul_int q n.ok
theorem BK {K:Frag} {M:Mem} {H:Hp} {Q:VK} {a:List D} {k:Int} {v u:V} (rm:RM K M H) (rx:RD K H (.tup a) v) (ry:RD K H (.int k) u) (q:jr (.tup a) (.int k) M (KE' K M H Q)):xf K v u H Q:=by
 obtain ⟨a',vs,rfl,z,j⟩:=RD.tup_iff.mp rx
 cases RD.int_iff.mp ry
 obtain ⟨B,F,G,q⟩:=q
 have l1:=j.length
 refine ⟨a',k,vs,rfl,rfl,SqT.of z,B,F,by rw [l1];exact G,fun e => ?_,fun _ p n=>de rm (j.rep _) q n⟩
 have ea:(List.replicate k.toNat a).flatten=a:=by
  rcases e with e | e
  ·have:a=[]:=List.length_eq_zero_iff.mp (by rw [<- l1,e];rfl)
   subst this;simp
  ·subst e;simp
 rw [ea] at q
 exact q _ H Ext.refl rm rx
theorem va:OpR X (binaryOp .Mult) (l2 X.K jr):=by
 refine OpR.of (op_mul_i.or (op_rep.or ya)) fun v u H Q h => ?_
 obtain ⟨x,y,M,rm,rx,ry,q⟩:=h
 cases x <;> cases y <;> first
  | exact q.elim
  | (cases RD.int_iff.mp rx;cases RD.int_iff.mp ry;exact .inl ⟨_,_,rfl,rfl,q.1,q.2 _ H Ext.refl rm (RD.int_iff.mpr rfl)⟩)
  | (cases RD.ref_iff.mp rx;cases RD.int_iff.mp ry
     obtain ⟨xs,e1,z,B,F,q⟩:=q
     obtain ⟨vs,h1,j⟩:=rm _ _ e1
     have l1:=j.length
     exact .inr (.inl ⟨_,_,vs,rfl,rfl,h1,z,B,by rw [l1];exact F,fun p n=>cv rm (j.rep _) q n⟩))
  | exact .inr (.inr (BK rm rx ry q))
theorem vc:OpR X (binaryOp .FloorDiv) (rI (fun _ j => 0 < j/\j < 2 ^ 256) fun i j => .int (i / j)):=L2.opI fun i j _ _ _ _ _ n q=>by
 have h1:(0:Int) < j:=n.1
 have h2:j < 2 ^ 256:=n.2
 have z:j.natAbs.log2 < 256:=(Nat.log2_lt (by lia)).mpr (by lia)
 exact floordiv_int (by lia) (by rw [Int.fdiv_eq_ediv_of_nonneg i (by lia)];exact q) (.inl (PyProof.noPylong_of_log2 (by lia)))
theorem rZ:OpR X (binaryOp .FloorDiv) (l2 X.K kP):=by
 refine OpR.of vc fun v u H Q h => ?_
 obtain ⟨x,y,M,rm,rx,ry,q⟩:=h
 cases x <;> cases y <;> first
  | exact q.elim
  | (cases RD.int_iff.mp rx;cases RD.int_iff.mp ry;exact ⟨_,_,rfl,rfl,⟨q.1,q.2.1⟩,q.2.2 _ H Ext.refl rm (RD.int_iff.mpr rfl)⟩)
theorem vd:OpR X (binaryOp .Mod) (l2 X.K qf):=by
 refine OpR.of A3 fun v u H Q h => ?_
 obtain ⟨x,y,M,rm,rx,ry,q⟩:=h
 cases x <;> cases y <;> first
  | exact q.elim
  | (cases RD.int_iff.mp rx;cases RD.int_iff.mp ry;exact ⟨_,_,rfl,rfl,q.1,q.2 _ H Ext.refl rm (RD.int_iff.mpr rfl)⟩)
theorem ve:OpR X (binaryOp .Pow) (l2 X.K qg):=by
 refine OpR.of A4 fun v u H Q h => ?_
 obtain ⟨x,y,M,rm,rx,ry,q⟩:=h
 cases x <;> cases y <;> first
  | exact q.elim
  | (cases RD.int_iff.mp rx;cases RD.int_iff.mp ry;exact ⟨_,_,rfl,rfl,⟨q.1,q.2.1,q.2.2.1⟩,q.2.2.2 _ H Ext.refl rm (RD.int_iff.mpr rfl)⟩)
noncomputable def qh:R1d
 | .int i,M,Q=>Q (.int (-i)) M
 | _,_,_=>False
theorem lH:qe qh:=by
 intro x M Q Q' h q
 cases x <;> first | exact q.elim | exact h _ _ q
theorem UnR.of {f:Value->Sem Value} {r r':V->Hp->VK->Prop} (h:UnR X f r) (i:∀ v H Q,r' v H Q->r v H Q):UnR X f r':=fun pins s σ H x v Q I rx q=>h pins s σ H x v Q I rx (i _ _ _ q)
theorem vf:UnR X (unaryOp .USub) (l1 X.K qh):=by
 refine UnR.of A5 fun v H Q h => ?_
 obtain ⟨x,M,rm,rx,q⟩:=h
 cases x <;> first
  | exact q.elim
  | (cases RD.int_iff.mp rx;exact ⟨_,rfl,q _ H Ext.refl rm (RD.int_iff.mpr rfl)⟩)
noncomputable def aJ {α β:Type} (f : α -> Option β):List α -> Option (List β)
 | [] => some []
 | x::xs=>(f x).bind fun y=>(aJ f xs).map (y :: ·)
noncomputable def rb:Nat->Mem->D->Option PyData
 | _,_, .non=>some .none
 | _,_, .bl b=>some (.bool b)
 | _,_, .int i=>some (.int i)
 | _,_, .str x=>if PyData.strOk x=true then some (.str x) else none
 | n+1,M, .tup ds=>(aJ (rb n M) ds).map PyData.tuple
 | n+1,M, .con ds=>(aJ (rb n M) ds).map PyData.list
 | n+1,M, .ref a=>match M a with
   | some (.lst ds)=>(aJ (rb n M) ds).map PyData.list
   | _=>none
 | 0,_, .tup _=>none
 | 0,_, .con _=>none
 | 0,_, .ref _=>none
theorem cV {n:Nat} {M:Mem} (ih:∀ d p,rb n M d=some p->p.depth<=n/\p.canLay0=true):∀ {ds:List D} {ps:List PyData},aJ (rb n M) ds=some ps->PyData.depthAll ps<=n/\PyData.canLayAll0 ps=true
 | [],ps,h=>by
  simp [aJ] at h;subst h
  exact ⟨Nat.zero_le _,rfl⟩
 | d::ds,ps,h=>by
   simp only [aJ] at h
   cases e1:rb n M d with
   | none=>rw [e1] at h;cases h
   | some p =>
     rw [e1] at h
     cases e2:aJ (rb n M) ds with
     | none=>simp [e2] at h
     | some qs =>
       simp [e2] at h
       subst h
       obtain ⟨a1,a2⟩:=ih d p e1
       obtain ⟨b1,b2⟩:=cV ih e2
       refine ⟨?_, ?_⟩
       ·show max p.depth (PyData.depthAll qs)<=n
        lia
       ·show (p.canLay0&&PyData.canLayAll0 qs)=true
        rw [a2,b2];rfl
theorem cc {M:Mem}:∀ (n:Nat) (d:D) (p:PyData),rb n M d=some p->p.depth<=n/\p.canLay0=true
 | n, .non,p,h=>by simp [rb] at h;subst h;exact ⟨Nat.zero_le _,rfl⟩
 | n, .bl b,p,h=>by simp [rb] at h;subst h;exact ⟨Nat.zero_le _,rfl⟩
 | n, .int b,p,h=>by simp [rb] at h;subst h;exact ⟨Nat.zero_le _,rfl⟩
 | n, .str x,p,h=>by
   simp [rb] at h
   obtain ⟨h1,h2⟩:=h
   subst h2;exact ⟨Nat.zero_le _,h1⟩
 | 0, .tup _,p,h=>by simp [rb] at h
 | 0, .con _,p,h=>by simp [rb] at h
 | 0, .ref _,p,h=>by simp [rb] at h
 | n+1, .tup ds,p,h=>by
   simp only [rb] at h
   cases e:aJ (rb n M) ds with
   | none=>rw [e] at h;cases h
   | some ps =>
     rw [e] at h;cases h
     obtain ⟨a,b⟩:=cV (cc n) e
     exact ⟨Nat.succ_le_succ a,b⟩
 | n+1, .con ds,p,h=>by
   simp only [rb] at h
   cases e:aJ (rb n M) ds with
   | none=>rw [e] at h;cases h
   | some ps =>
     rw [e] at h;cases h
     obtain ⟨a,b⟩:=cV (cc n) e
     exact ⟨Nat.succ_le_succ a,b⟩
 | n+1, .ref a,p,h=>by
   simp only [rb] at h
   cases e0:M a with
   | none=>rw [e0] at h;cases h
   | some o =>
     rw [e0] at h
     cases o with
     | dct _ _=>cases h
     | fdc _=>cases h
     | lst ds =>
       simp only at h
       cases e:aJ (rb n M) ds with
       | none=>rw [e] at h;cases h
       | some ps =>
         rw [e] at h;cases h
         obtain ⟨a,b⟩:=cV (cc n) e
         exact ⟨Nat.succ_le_succ a,b⟩
theorem cW {K:Frag} {H:Hp} {n:Nat} {M:Mem} {h:Heap} (ih:∀ d p v u,rb n M d=some p->RD K H d v->RelV v u -> ∃ as,Reads h u p as) :
 ∀ {ds:List D} {ps:List PyData} {vs:List V} {us:List Value},aJ (rb n M) ds=some ps->RDs K H ds vs->Vals vs us -> ∃ as,ReadsAll h us ps as
 | [],ps,vs,us,hm,r,rv=>by
  simp [aJ] at hm;subst hm
  rw [RDs.nil_iff.mp r] at rv
  cases rv
  exact ⟨_, .nil⟩
 | d::ds,ps,vs,us,hm,r,rv=>by
   obtain ⟨v,vr,rfl,j,q⟩:=RDs.cons_iff.mp r
   cases rv with
   | cons z B =>
     simp only [aJ] at hm
     cases e1:rb n M d with
     | none=>rw [e1] at hm;cases hm
     | some p =>
       rw [e1] at hm
       cases e2:aJ (rb n M) ds with
       | none=>simp [e2] at hm
       | some qs =>
         simp [e2] at hm
         subst hm
         obtain ⟨as,ra⟩:=ih d p v _ e1 j z
         obtain ⟨bs,rbs⟩:=cW ih e2 q B
         exact ⟨_, .cons ra rbs⟩
theorem bJ {pins:List (Addr×Obj)} {σ:St} {H:Hp} {s:Shared} {M:Mem} (I:Inv X pins σ H s) (rm:RM X.K M H):∀ (n:Nat) (d:D) (p:PyData) (v:V) (u:Value),rb n M d=some p->RD X.K H d v->RelV v u -> ∃ as,Reads s.heap u p as
 | n, .non,p,v,u,h,r,q=>by simp [rb] at h;subst h;cases RD.non_iff.mp r;cases q;exact ⟨_, .none⟩
 | n, .bl b,p,v,u,h,r,q=>by simp [rb] at h;subst h;cases RD.bl_iff.mp r;cases q;exact ⟨_, .bool b⟩
 | n, .int b,p,v,u,h,r,q=>by simp [rb] at h;subst h;cases RD.int_iff.mp r;obtain ⟨t,rfl⟩:=q;exact ⟨_, .int b t⟩
 | n, .str x,p,v,u,h,r,q=>by
   simp [rb] at h
   obtain ⟨_,h2⟩:=h
   subst h2;cases RD.str_iff.mp r;obtain ⟨t,rfl⟩:=q;exact ⟨_, .str x t⟩
 | 0, .tup _,p,_,_,h,_,_=>by simp [rb] at h
 | 0, .con _,p,_,_,h,_,_=>by simp [rb] at h
 | 0, .ref _,p,_,_,h,_,_=>by simp [rb] at h
 | n+1, .tup ds,p,v,u,h,r,q=>by
   simp only [rb] at h
   cases e:aJ (rb n M) ds with
   | none=>rw [e] at h;cases h
   | some ps =>
     rw [e] at h;cases h
     obtain ⟨a,vs,rfl,j,rs⟩:=RD.tup_iff.mp r
     cases q
     obtain ⟨its,rv,⟨o,ho,z,k,hd⟩,_⟩:=I.tuple (SqT.of j)
     obtain ⟨as,ra⟩:=cW (bJ I rm n) e rs rv
     exact ⟨_, .tuple ho z hd (by simpa using ra)⟩
 | n+1, .con ds,p,v,u,h,r,q=>by
   simp only [rb] at h
   cases e:aJ (rb n M) ds with
   | none=>rw [e] at h;cases h
   | some ps =>
     rw [e] at h;cases h
     obtain ⟨a,vs,rfl,j,rs⟩:=RD.con_iff.mp r
     cases q
     obtain ⟨its,rv,⟨o,k,ho,z,_,hd⟩,_⟩:=I.list j.sq
     obtain ⟨as,ra⟩:=cW (bJ I rm n) e rs rv
     exact ⟨_, .list ho z hd (by simpa using ra)⟩
 | n+1, .ref a,p,v,u,h,r,q=>by
   simp only [rb] at h
   cases e0:M a with
   | none=>rw [e0] at h;cases h
   | some o =>
     rw [e0] at h
     cases o with
     | dct _ _=>cases h
     | fdc _=>cases h
     | lst ds =>
       simp only at h
       cases e:aJ (rb n M) ds with
       | none=>rw [e] at h;cases h
       | some ps =>
         rw [e] at h;cases h
         cases RD.ref_iff.mp r
         cases q
         obtain ⟨vs,j,rs⟩:=rm _ _ e0
         obtain ⟨its,rv,⟨o,k,ho,z,_,hd⟩,_⟩:=I.list (SqL.of j)
         obtain ⟨as,ra⟩:=cW (bJ I rm n) e rs rv
         exact ⟨_, .list ho z hd (by simpa using ra)⟩
noncomputable def wEq:R2d:=fun x y M Q => ∃ p q,rb 16 M x=some p/\rb 16 M y=some q/\Q (.bl (PyData.eqv p q)) M
noncomputable def wNe:R2d:=fun x y M Q => ∃ p q,rb 16 M x=some p/\rb 16 M y=some q/\Q (.bl (!PyData.eqv p q)) M
theorem yc:aD wEq:=fun _ _ _ _ _ h ⟨p,q,a,b,c⟩=>⟨p,q,a,b,h _ _ c⟩
theorem yd:aD wNe:=fun _ _ _ _ _ h ⟨p,q,a,b,c⟩=>⟨p,q,a,b,h _ _ c⟩
theorem ye (B:X.A.units+16 < cLine):OpR X (compareOp .Eq) (l2 X.K wEq):=by
 intro pins s σ H x y v u Q I rx ry h
 obtain ⟨d,e,M,rm,rd,re,p,q,j,n,k⟩:=h
 obtain ⟨as,ra⟩:=bJ I rm _ _ _ _ _ j rd rx
 obtain ⟨bs,rb'⟩:=bJ I rm _ _ _ _ _ n re ry
 obtain ⟨F,p2⟩:=cc _ _ _ j
 obtain ⟨G,z⟩:=cc _ _ _ n
 exact SeqAt.compareEq_reads ra rb' p2 z (by lia) ⟨.bl _,H,I,rfl,k _ H Ext.refl rm (RD.bl_iff.mpr rfl)⟩
theorem yf (B:X.A.units+16 < cLine):OpR X (compareOp .NotEq) (l2 X.K wNe):=by
 intro pins s σ H x y v u Q I rx ry h
 obtain ⟨d,e,M,rm,rd,re,p,q,j,n,k⟩:=h
 obtain ⟨as,ra⟩:=bJ I rm _ _ _ _ _ j rd rx
 obtain ⟨bs,rb'⟩:=bJ I rm _ _ _ _ _ n re ry
 obtain ⟨F,p2⟩:=cc _ _ _ j
 obtain ⟨G,z⟩:=cc _ _ _ n
 exact SeqAt.compareNe_reads ra rb' p2 z (by lia) ⟨.bl _,H,I,rfl,k _ H Ext.refl rm (RD.bl_iff.mpr rfl)⟩
noncomputable def wLt:R2d
 | .int i, .int j,M,Q=>Q (.bl (decide (i < j))) M
 | _,_,_,_=>False
noncomputable def wLe:R2d
 | .int i, .int j,M,Q=>Q (.bl (decide (i<=j))) M
 | _,_,_,_=>False
noncomputable def wGt:R2d
 | .int i, .int j,M,Q=>Q (.bl (decide (j < i))) M
 | _,_,_,_=>False
noncomputable def wGe:R2d
 | .int i, .int j,M,Q=>Q (.bl (decide (j<=i))) M
 | _,_,_,_=>False
theorem yg:aD wLt:=by
 intro x y M Q Q' h q
 cases x <;> cases y <;> first | exact q.elim | exact h _ _ q
theorem yh:aD wGt:=by
 intro x y M Q Q' h q
 cases x <;> cases y <;> first | exact q.elim | exact h _ _ q
theorem yi:aD wGe:=by
 intro x y M Q Q' h q
 cases x <;> cases y <;> first | exact q.elim | exact h _ _ q
theorem yj:OpR X (compareOp .Lt) (l2 X.K wLt):=by
 refine OpR.of Bu fun v u H Q h => ?_
 obtain ⟨x,y,M,rm,rx,ry,q⟩:=h
 cases x <;> cases y <;> first
  | exact q.elim
  | (cases RD.int_iff.mp rx;cases RD.int_iff.mp ry;exact ⟨_,_,rfl,rfl,q _ H Ext.refl rm (RD.bl_iff.mpr rfl)⟩)
theorem yk:OpR X (compareOp .Gt) (l2 X.K wGt):=by
 refine OpR.of Bv fun v u H Q h => ?_
 obtain ⟨x,y,M,rm,rx,ry,q⟩:=h
 cases x <;> cases y <;> first
  | exact q.elim
  | (cases RD.int_iff.mp rx;cases RD.int_iff.mp ry;exact ⟨_,_,rfl,rfl,q _ H Ext.refl rm (RD.bl_iff.mpr rfl)⟩)
theorem ym:OpR X (compareOp .GtE) (l2 X.K wGe):=by
 refine OpR.of Bw fun v u H Q h => ?_
 obtain ⟨x,y,M,rm,rx,ry,q⟩:=h
 cases x <;> cases y <;> first
  | exact q.elim
  | (cases RD.int_iff.mp rx;cases RD.int_iff.mp ry;exact ⟨_,_,rfl,rfl,q _ H Ext.refl rm (RD.bl_iff.mpr rfl)⟩)
end
end
section
noncomputable def wIx:R2d:=fun x y M Q=>match x with
 | .tup ds => ∃ i d,y = .int i/\atI ds i=some d/\Q d M
 | .con ds => ∃ i d,y = .int i/\atI ds i=some d/\Q d M
 | .ref a=>(∃ ds i d,M a=some (.lst ds)/\y = .int i/\atI ds i=some d/\Q d M)∨(∃ t kvs d,M a=some (.dct t kvs)/\gb t y=true/\dget kvs y=some d/\Q d M) ∨ ∃ kvs d,M a=some (.fdc kvs)/\bV y=true/\dget kvs y=some d/\Q d M
 | _=>False
theorem oH:aD wIx:=by
 intro x y M Q Q' h q
 cases x with
 | tup ds=>obtain ⟨i,d,e,e2,q⟩:=q;exact ⟨i,d,e,e2,h _ _ q⟩
 | con ds=>obtain ⟨i,d,e,e2,q⟩:=q;exact ⟨i,d,e,e2,h _ _ q⟩
 | ref a =>
   rcases q with ⟨ds,i,d,e1,e2,j,q⟩ | ⟨t,kvs,d,e1,e2,j,q⟩ | ⟨kvs,d,e1,e2,j,q⟩
   ·exact .inl ⟨ds,i,d,e1,e2,j,h _ _ q⟩
   ·exact .inr (.inl ⟨t,kvs,d,e1,e2,j,h _ _ q⟩)
   ·exact .inr (.inr ⟨kvs,d,e1,e2,j,h _ _ q⟩)
 | _=>exact q.elim
theorem iC {K:Frag} {H:Hp} {ds:List D} {vs:List V} {i:Int} {d:D} (r:RDs K H ds vs) (e:atI ds i=some d):∃ v,atI vs i=some v/\RD K H d v:=by
 unfold atI at e ⊢
 rw [r.length]
 cases q:ixN ds.length i with
 | none=>rw [q] at e;cases e
 | some j =>
   rw [q] at e
   exact r.get e
theorem jt {K:Frag} {H:Hp} {k:D} {q:Key} {v:V} (r:RKey k q) (h:RD K H k v):v=kV q:=by
 cases k <;> first
  | exact r.elim
  | (cases (show q=_ from r);first | exact RD.int_iff.mp h | exact RD.str_iff.mp h)
theorem eM {K:Frag} {H:Hp}:∀ {ds:List D} {ks:List Key} {vs:List V},Paired RKey ds ks->RDs K H ds vs->vs=ks.map kV
 | _,_,vs, .nil,h=>by rw [RDs.nil_iff.mp h];rfl
 | _,_,vs, .cons r t,h=>by
   obtain ⟨v,vr,rfl,h1,h2⟩:=RDs.cons_iff.mp h
   rw [jt r h1,eM t h2];rfl
theorem RKey.inj {d e:D} {k:Key} (a:RKey d k) (b:RKey e k):d=e:=by
 cases d <;> first
  | exact a.elim
  | (cases e <;> first | exact b.elim | (cases (show k=_ from a);injection (show _=_ from b) with z;rw [z]) | (cases (show k=_ from a);cases (show _=_ from b)))
theorem RKeysP.inj:∀ {d e:List D} {k:List Key},Paired RKey d k->Paired RKey e k->d=e
 | _,_,_, .nil, .nil=>rfl
 | _,_,_, .cons r t, .cons r' t'=>by rw [r.inj r',RKeysP.inj t t']
theorem RKeys.inj {d e:D} {k:List Key} (a:RKeys d k) (b:RKeys e k):d=e:=by
 cases d <;> first
  | exact a.elim
  | (cases e <;> first | exact b.elim | exact congrArg D.tup (RKeysP.inj a b))
theorem RKey.fun {d:D} {k k':Key} (a:RKey d k) (b:RKey d k'):k=k':=by
 cases d <;> first
  | exact a.elim
  | (cases (show k=_ from a);cases (show k'=_ from b);rfl)
theorem RKeysP.fun:∀ {d:List D} {k k':List Key},Paired RKey d k->Paired RKey d k'->k=k'
 | _,_,_, .nil, .nil=>rfl
 | _,_,_, .cons r t, .cons r' t'=>by rw [r.fun r',RKeysP.fun t t']
theorem RKeys.fun {d:D} {k k':List Key} (a:RKeys d k) (b:RKeys d k'):k=k':=by
 cases d <;> first
  | exact a.elim
  | exact RKeysP.fun a b
section
variable {κ:Type} [DecidableEq κ] {K:Frag} {H:Hp} {RK:D -> κ -> Prop} (inj:∀ {d e:D} {k : κ},RK d k->RK e k->d=e) (fn:∀ {d:D} {k k' : κ},RK d k->RK d k'->k=k')
include inj fn
theorem eN {k:D} {q : κ} (j:RK k q):∀ {kvs:List (D×D)} {ps:List (κ × V)},Paired (fun p r=>RK p.1 r.1/\RD K H p.2 r.2) kvs ps ->
 (∀ d,dget kvs k=some d -> ∃ v,bI ps q=some v/\RD K H d v)/\(dget kvs k=none->bI ps q=none)
 | _,_, .nil=>⟨fun d e=>by simp [dget] at e,fun _=>rfl⟩
 | _,_, .cons (a:=p) (b:=r) (l₂ := ps) n t=>by
   obtain ⟨B,F⟩:=eN j t
   by_cases e:p.1=k
   ·have e':r.1=q:=by
     have h1:=n.1
     rw [e] at h1
     exact fn h1 j
    refine ⟨fun d he => ?_,fun he => ?_⟩
    ·simp [dget,List.find?_cons,e] at he
     subst he
     exact ⟨r.2,eJ e',n.2⟩
    ·simp [dget,List.find?_cons,e] at he
   ·have e' : ¬ r.1=q:=fun z=>e (by
     have h1:=n.1
     rw [z] at h1
     exact inj h1 j)
    have eq1:∀ l:List (D×D),dget (p::l) k=dget l k:=fun l=>by simp [dget,List.find?_cons,e]
    have eq2:bI (r::ps) q=bI ps q:=eK e'
    refine ⟨fun d he => ?_,fun he => ?_⟩
    ·rw [eq1] at he
     rw [eq2]
     exact B d he
    ·rw [eq1] at he
     rw [eq2]
     exact F he
end
section
variable {X:Cx}
theorem s9 {K:Frag} {H:Hp} {a:Addr} {ps:List (List Key×V)} {kvs:List (D×D)} {k:D} {v:V} (z:Rd H a (.dT ps)) (pr:Paired (fun (p:D×D) (q:List Key×V)=>RKeys p.1 q.1/\RD K H p.2 q.2) kvs ps) (ok:bV k=true) (rk:RD K H k v) :
 ∃ o,DGet H a v o/\(∀ d,dget kvs k=some d -> ∃ w,o=some w/\RD K H d w)/\(dget kvs k=none->o=none):=by
 obtain ⟨q,j⟩:=jm ok
 obtain ⟨g1,g2⟩:=eN (RK:=RKeys) RKeys.inj RKeys.fun j pr
 refine ⟨bI ps q, ?_,g1,g2⟩
 cases k <;> first
  | exact j.elim
  | (obtain ⟨b,us,rfl,n,ru⟩:=RD.tup_iff.mp rk
     rw [eM j ru] at n
     exact .inr ⟨ps,q,b,z,rfl,n,rfl⟩)
theorem oI {K:Frag} {M:Mem} {H:Hp} {a:Addr} {t:Bool} {kvs:List (D×D)} {k:D} {v:V} (rm:RM K M H) (e:M a=some (.dct t kvs)) (ok:gb t k=true) (rk:RD K H k v) :
 ∃ o,DGet H a v o/\(∀ d,dget kvs k=some d -> ∃ w,o=some w/\RD K H d w)/\(dget kvs k=none->o=none):=by
 have ro:=rm a _ e
 cases t with
 | false =>
   obtain ⟨ps,j,pr⟩:=ro
   obtain ⟨q,n⟩:=lu (show eL k=true from ok)
   obtain ⟨g1,g2⟩:=eN (RK:=RKey) RKey.inj RKey.fun n pr
   refine ⟨bI ps q, ?_,g1,g2⟩
   rw [jt n rk]
   exact DGet.k j
 | true =>
   obtain ⟨ps,j,pr⟩:=ro
   exact s9 (.inl j) pr ok rk
theorem yn (j:X.A.units+1 < cLine):IxR X (fun x y H Q => ∃ a v,x = .ref a/\DGet H a y (some v)/\Q v H):=by
 intro value slice pins s σ H x y v u Q I rx ry h hs
 obtain ⟨a,w,rfl,g,q⟩:=h
 cases rx
 have hd:IsD H a:=by
  rcases g with ⟨kvs,k,e,_⟩ | ⟨kvs,k,b,e,_⟩
  ·exact .inl ⟨kvs,e⟩
  ·exact .inr ⟨kvs,e⟩
 obtain ⟨n,_⟩:=iu I hd
 exact tail_any n PySem.F.slot_dict_getitem.lookup (rO j I g ry fun w' s' I' r'=>⟨w,H,I',r',q⟩) hs
theorem Cy (z:X.A.units+1 < cLine):IxR X (l2 X.K wIx):=by
 refine IxR.of (ix_list.or (ix_tup.or (yn z))) fun v u H Q h => ?_
 obtain ⟨x,y,M,rm,rx,ry,q⟩:=h
 cases x with
 | tup ds =>
   obtain ⟨i,d,rfl,e,q⟩:=q
   obtain ⟨a,vs,rfl,j,rs⟩:=RD.tup_iff.mp rx
   cases RD.int_iff.mp ry
   obtain ⟨w,hw,rw'⟩:=iC rs e
   exact .inr (.inl ⟨a,vs,i,w,rfl,rfl,SqT.of j,hw,q w H Ext.refl rm rw'⟩)
 | con ds =>
   obtain ⟨i,d,rfl,e,q⟩:=q
   obtain ⟨a,vs,rfl,j,rs⟩:=RD.con_iff.mp rx
   cases RD.int_iff.mp ry
   obtain ⟨w,hw,rw'⟩:=iC rs e
   exact .inl ⟨a,vs,i,w,rfl,rfl,j.sq,hw,q w H Ext.refl rm rw'⟩
 | ref a =>
   cases RD.ref_iff.mp rx
   rcases q with ⟨ds,i,d,e1,rfl,n,q⟩ | ⟨t,kvs,d,e1,e2,n,q⟩ | ⟨kvs,d,e1,e2,n,q⟩
   ·cases RD.int_iff.mp ry
    obtain ⟨vs,j,rs⟩:=rm _ _ e1
    obtain ⟨w,hw,rw'⟩:=iC rs n
    exact .inl ⟨a,vs,i,w,rfl,rfl,SqL.of j,hw,q w H Ext.refl rm rw'⟩
   ·obtain ⟨o,g,g1,_⟩:=oI rm e1 e2 ry
    obtain ⟨w,rfl,rw'⟩:=g1 d n
    exact .inr (.inr ⟨a,w,rfl,g,q w H Ext.refl rm rw'⟩)
   ·obtain ⟨ob,ps,B,pr⟩:=rm _ _ e1
    obtain ⟨o,g,g1,_⟩:=s9 (.inr ⟨ob,B⟩) pr e2 ry
    obtain ⟨w,rfl,rw'⟩:=g1 d n
    exact .inr (.inr ⟨a,w,rfl,g,q w H Ext.refl rm rw'⟩)
 | _=>exact q.elim
noncomputable def gU (M:Mem):D->Option Nat
 | .tup ds=>some ds.length
 | .con ds=>some ds.length
 | .ref a=>match M a with
  | some (.lst ds)=>some ds.length
  | _=>none
 | _=>none
noncomputable def eO:RAd:=fun xs M Q => ∃ x n,xs=[x]/\gU M x=some n/\Q (.int n) M
theorem lJ:aV eO:=fun _ _ _ _ h ⟨x,n,e,l,q⟩=>⟨x,n,e,l,h _ _ q⟩
theorem RDs.one {K:Frag} {H:Hp} {d:D} {vs:List V} (h:RDs K H [d] vs):∃ v,vs=[v]/\RD K H d v:=by
 obtain ⟨v,r,rfl,h1,h2⟩:=RDs.cons_iff.mp h
 rw [RDs.nil_iff.mp h2]
 exact ⟨v,rfl,h1⟩
theorem RDs.two {K:Frag} {H:Hp} {d e:D} {vs:List V} (h:RDs K H [d,e] vs):∃ v u,vs=[v,u]/\RD K H d v/\RD K H e u:=by
 obtain ⟨v,r,rfl,h1,h2⟩:=RDs.cons_iff.mp h
 obtain ⟨u,rfl,j⟩:=RDs.one h2
 exact ⟨v,u,rfl,h1,j⟩
theorem qi:CallR X (.builtin "len") (lR X.K eO):=by
 refine CallR.of uF fun vs H Q h => ?_
 obtain ⟨ds,M,rm,rs,x,n,rfl,l,q⟩:=h
 obtain ⟨v,rfl,r⟩:=rs.one
 refine ⟨v,n,rfl, ?_,q _ H Ext.refl rm (RD.int_iff.mpr rfl)⟩
 cases x with
 | tup ds =>
   cases l
   obtain ⟨a,us,rfl,j,ru⟩:=RD.tup_iff.mp r
   exact .inr ⟨us,SqT.of j,ru.length.symm⟩
 | con ds =>
   cases l
   obtain ⟨a,us,rfl,j,ru⟩:=RD.con_iff.mp r
   exact .inl ⟨us,j.sq,ru.length.symm⟩
 | ref a =>
   cases RD.ref_iff.mp r
   simp only [gU] at l
   cases e:M a with
   | none=>rw [e] at l;cases l
   | some o =>
     rw [e] at l
     cases o with
     | dct _ _=>cases l
     | fdc _=>cases l
     | lst ds =>
       cases l
       obtain ⟨us,j,ru⟩:=rm _ _ e
       exact .inl ⟨us,SqL.of j,ru.length.symm⟩
 | _=>cases l
noncomputable def lK:RAd:=fun xs M Q => ∃ i,xs=[.int i]/\Q (.int (if i < 0 then -i else i)) M
noncomputable def kQ:RAd:=fun xs M Q => ∃ i j,xs=[.int i, .int j]/\Q (.int (if j < i then j else i)) M
noncomputable def lL:RAd:=fun xs M Q=>(∃ i,xs=[.int i]/\Q (.int i) M) ∨ ∃ k,xs=[.bl k]/\Q (.int (if k then 1 else 0)) M
theorem lM:aV lK:=fun _ _ _ _ h ⟨i,e,q⟩=>⟨i,e,h _ _ q⟩
theorem ka:aV kQ:=fun _ _ _ _ h ⟨i,j,e,q⟩=>⟨i,j,e,h _ _ q⟩
theorem lN:aV lL:=fun _ _ _ _ h q=>q.elim (fun ⟨i,e,q⟩ => .inl ⟨i,e,h _ _ q⟩) fun ⟨i,e,q⟩ => .inr ⟨i,e,h _ _ q⟩
theorem qj:CallR X (.builtin "abs") (lR X.K lK):=by
 refine CallR.of uE fun vs H Q h => ?_
 obtain ⟨ds,M,rm,rs,i,rfl,q⟩:=h
 obtain ⟨v,rfl,r⟩:=rs.one
 cases RD.int_iff.mp r
 exact ⟨i,rfl,q _ H Ext.refl rm (RD.int_iff.mpr rfl)⟩
theorem nY (n:X.calm=true):CallR X (.builtin "min") (lR X.K kQ):=by
 refine CallR.of (rq n) fun vs H Q h => ?_
 obtain ⟨ds,M,rm,rs,i,j,rfl,q⟩:=h
 obtain ⟨v,u,rfl,z,B⟩:=rs.two
 cases RD.int_iff.mp z
 cases RD.int_iff.mp B
 exact ⟨i,j,rfl,q _ H Ext.refl rm (RD.int_iff.mpr rfl)⟩
theorem qk:CallR X (.type "int") (lR X.K lL):=by
 refine CallR.of rA fun vs H Q h => ?_
 obtain ⟨ds,M,rm,rs,⟨i,rfl,q⟩ | ⟨i,rfl,q⟩⟩:=h
 ·obtain ⟨v,rfl,r⟩:=rs.one
  cases RD.int_iff.mp r
  exact .inl ⟨i,rfl,q _ H Ext.refl rm (RD.int_iff.mpr rfl)⟩
 ·obtain ⟨v,rfl,r⟩:=rs.one
  cases RD.bl_iff.mp r
  exact .inr ⟨i,rfl,q _ H Ext.refl rm (RD.int_iff.mpr rfl)⟩
noncomputable def au (M:Mem):D->Option (List D)
 | .tup ds=>some ds
 | .con ds=>some ds
 | .ref a=>match M a with
  | some (.lst ds)=>some ds
  | _=>none
 | _=>none
theorem lP {K:Frag} {M:Mem} {H:Hp} {x:D} {ds:List D} {v:V} (rm:RM K M H) (r:RD K H x v) (e:au M x=some ds):∃ p vs,v = .ref p/\(SqL K H p vs∨SqT K H p vs)/\RDs K H ds vs:=by
 cases x with
 | tup es =>
   cases e
   obtain ⟨a,us,rfl,j,ru⟩:=RD.tup_iff.mp r
   exact ⟨a,us,rfl, .inr (SqT.of j),ru⟩
 | con es =>
   cases e
   obtain ⟨a,us,rfl,j,ru⟩:=RD.con_iff.mp r
   exact ⟨a,us,rfl, .inl j.sq,ru⟩
 | ref a =>
   cases RD.ref_iff.mp r
   simp only [au] at e
   cases e0:M a with
   | none=>rw [e0] at e;cases e
   | some o =>
     rw [e0] at e
     cases o with
     | dct _ _=>cases e
     | fdc _=>cases e
     | lst es =>
       cases e
       obtain ⟨us,j,ru⟩:=rm _ _ e0
       exact ⟨a,us,rfl, .inl (SqL.of j),ru⟩
 | _=>cases e
noncomputable def ql:RAd:=fun xs M Q => ∃ x ds,xs=[x]/\au M x=some ds /\ ∀ p,M p=none->Q (.ref p) (af M p (.lst ds))
noncomputable def lQ:RAd:=fun xs M Q => ∃ x ds,xs=[x]/\au M x=some ds/\Q (.tup ds) M
theorem kb:aV ql:=fun _ _ _ _ h ⟨x,ds,e,l,q⟩=>⟨x,ds,e,l,fun p n=>h _ _ (q p n)⟩
theorem iD:aV lQ:=fun _ _ _ _ h ⟨x,ds,e,l,q⟩=>⟨x,ds,e,l,h _ _ q⟩
theorem nZ:CallR X (.type "list") (lR X.K ql):=by
 refine CallR.of lj fun vs H Q h => ?_
 obtain ⟨ds,M,rm,rs,x,es,rfl,l,q⟩:=h
 obtain ⟨v,rfl,r⟩:=rs.one
 obtain ⟨p,us,rfl,sq,ru⟩:=lP rm r l
 exact ⟨p,us,rfl,sq,fun l' n=>cv rm ru q n⟩
theorem lU:CallR X (.type "tuple") (lR X.K lQ):=by
 refine CallR.of kI fun vs H Q h => ?_
 obtain ⟨ds,M,rm,rs,x,es,rfl,l,q⟩:=h
 obtain ⟨v,rfl,r⟩:=rs.one
 cases x with
 | tup ds' =>
   cases l
   obtain ⟨a,us,rfl,j,ru⟩:=RD.tup_iff.mp r
   exact ⟨a,us,rfl, .inr ⟨SqT.of j,q _ H Ext.refl rm r⟩⟩
 | con ds' =>
   cases l
   obtain ⟨a,us,rfl,j,ru⟩:=RD.con_iff.mp r
   exact ⟨a,us,rfl, .inl ⟨j.sq,fun l' n=>de rm ru q n⟩⟩
 | ref a =>
   cases RD.ref_iff.mp r
   simp only [au] at l
   cases e0:M a with
   | none=>rw [e0] at l;cases l
   | some o =>
     rw [e0] at l
     cases o with
     | dct _ _=>cases l
     | fdc _=>cases l
     | lst es' =>
       cases l
       obtain ⟨us,j,ru⟩:=rm _ _ e0
       exact ⟨a,us,rfl, .inl ⟨SqL.of j,fun l' n=>de rm ru q n⟩⟩
 | _=>cases l
end
end
section
section
variable {X:Cx}
theorem RDs.ints_eq {K:Frag} {H:Hp}:∀ {ns:List Int} {vs:List V},RDs K H (ns.map D.int) vs->vs=ns.map V.int
 | [],_,h=>RDs.nil_iff.mp h
 | n::ns,_,h=>by
   obtain ⟨v,r,rfl,h1,h2⟩:=RDs.cons_iff.mp h
   rw [RD.int_iff.mp h1,RDs.ints_eq h2];rfl
noncomputable def vg (M:Mem):D->Option Bool
 | .non=>some false
 | .bl b=>some b
 | .int i=>some (i != 0)
 | .tup ds=>some (!ds.isEmpty)
 | .con ds=>some (!ds.isEmpty)
 | .ref a=>match M a with
  | some (.lst ds)=>some (!ds.isEmpty)
  | _=>none
 | _=>none
noncomputable def lV (t:TEd):TTd:=fun ρ M Q=>t ρ M fun x M1 => ∃ b,vg M1 x=some b/\Q b M1
theorem vh {t:TEd} (h:ab t):aB (lV t):=fun ρ M Q Q' i q=>h _ _ _ _ (fun x n ⟨k,e,j⟩=>⟨k,e,i _ _ j⟩) q
theorem Ar {K:Frag} {M:Mem} {H:Hp} {x:D} {b:Bool} {v:V} (rm:RM K M H) (r:RD K H x v) (e:vg M x=some b):uC K v H b:=by
 have emp:∀ {ds:List D} {vs:List V},RDs K H ds vs->(!ds.isEmpty) = !vs.isEmpty:=fun {ds vs} h=>by
  have l:=h.length
  cases ds <;> cases vs <;> first | rfl | (simp at l)
 cases x with
 | non=>cases e;cases RD.non_iff.mp r;rfl
 | bl k=>cases e;cases RD.bl_iff.mp r;rfl
 | int i=>cases e;cases RD.int_iff.mp r;rfl
 | tup ds =>
   cases e
   obtain ⟨a,vs,rfl,j,rs⟩:=RD.tup_iff.mp r
   exact .inr (.inl ⟨vs,SqT.of j,emp rs⟩)
 | con ds =>
   cases e
   obtain ⟨a,vs,rfl,j,rs⟩:=RD.con_iff.mp r
   exact .inl ⟨vs,j.sq,emp rs⟩
 | ref a =>
   cases RD.ref_iff.mp r
   simp only [vg] at e
   cases e0:M a with
   | none=>rw [e0] at e;cases e
   | some o =>
     rw [e0] at e
     cases o with
     | dct _ _=>cases e
     | fdc _=>cases e
     | lst ds =>
       cases e
       obtain ⟨vs,j,rs⟩:=rm _ _ e0
       exact .inl ⟨vs,SqL.of j,emp rs⟩
 | str _=>cases e
variable {a b:Expr} {ta tb:TEd} {pos:Pos}
theorem As (m:ab ta) (z:PE X a (lE X.K ta)) (he:∀ whole,isTrue a X.env whole=(do let v <- whole;standAt a.pos;holding [v] (truthy v))):PT X a (lT X.K (lV ta)):=by
 refine PT.imp (uD z he) fun σ H Q h => ?_
 obtain ⟨ρ,M,rs,rm,q⟩:=h
 exact ⟨ρ,M,rs,rm,m _ _ _ _ (fun x G ⟨k,e,B⟩ v H1 F j n=>⟨k,Ar j n e,B H1 F j⟩) q⟩
noncomputable def iE (t:TTd):TTd:=fun ρ M Q=>t ρ M fun c M1=>Q (!c) M1
theorem sd {t:TTd} (h:aB t):aB (iE t):=fun ρ M Q Q' i q=>h _ _ _ _ (fun c n j=>i _ _ j) q
theorem Au {tA:TTd} (m:aB tA) (j:PT X a (lT X.K tA)):PT X (.UnaryOp .Not a pos) (lT X.K (iE tA)):=by
 refine PT.imp (zN j) fun σ H Q h => ?_
 obtain ⟨ρ,M,rs,rm,q⟩:=h
 exact ⟨ρ,M,rs,rm,m _ _ _ _ (fun c z n=>n) q⟩
noncomputable def iF (t u:TTd):TTd:=fun ρ M Q=>t ρ M fun c M1=>if c=true then u ρ M1 Q else Q false M1
noncomputable def lW (t u:TTd):TTd:=fun ρ M Q=>t ρ M fun c M1=>if c=true then Q true M1 else u ρ M1 Q
theorem se {t u:TTd} (h:aB t) (k:aB u):aB (iF t u):=fun ρ M Q Q' i q=>h _ _ _ _ (fun c n j=>by
 cases c with
 | true=>rw [if_pos rfl] at j ⊢;exact k _ _ _ _ i j
 | false=>rw [if_neg Bool.false_ne_true] at j ⊢;exact i _ _ j) q
theorem vj {t u:TTd} (h:aB t) (k:aB u):aB (lW t u):=fun ρ M Q Q' i q=>h _ _ _ _ (fun c n j=>by
 cases c with
 | true=>rw [if_pos rfl] at j ⊢;exact i _ _ j
 | false=>rw [if_neg Bool.false_ne_true] at j ⊢;exact k _ _ _ _ i j) q
theorem yo {tA:TTd} (j:PT X a (lT X.K tA)):PW X (.BoolOp .And [a] pos) (lT X.K tA):=xL j
theorem Av {tA:TTd} (j:PT X a (lT X.K tA)):PW X (.BoolOp .Or [a] pos) (lT X.K tA):=zL j
theorem Aw {tA tB:TTd} {rest:List Expr} (mA:aB tA) (mB:aB tB) (B:PT X a (lT X.K tA)) (F:PW X (.BoolOp .And (b::rest) pos) (lT X.K tB)):PW X (.BoolOp .And (a::b::rest) pos) (lT X.K (iF tA tB)):=by
 refine PW.imp (zM B F) fun σ H Q h => ?_
 obtain ⟨ρ,M,rs,rm,q⟩:=h
 refine ⟨ρ,M,rs,rm,mA _ _ _ _ (fun c G n H1 z j => ?_) q⟩
 cases c with
 | true=>rw [if_pos rfl] at n ⊢;exact ⟨ρ,G,rs.mono (z.stab rm),j,mB _ _ _ _ (fun d M2 k=>k.ext z) n⟩
 | false=>rw [if_neg Bool.false_ne_true] at n ⊢;exact n H1 z j
theorem BL {tA tB:TTd} {rest:List Expr} (mA:aB tA) (mB:aB tB) (B:PT X a (lT X.K tA)) (F:PW X (.BoolOp .Or (b::rest) pos) (lT X.K tB)):PW X (.BoolOp .Or (a::b::rest) pos) (lT X.K (lW tA tB)):=by
 refine PW.imp (Bj B F) fun σ H Q h => ?_
 obtain ⟨ρ,M,rs,rm,q⟩:=h
 refine ⟨ρ,M,rs,rm,mA _ _ _ _ (fun c G n H1 z j => ?_) q⟩
 cases c with
 | true=>rw [if_pos rfl] at n ⊢;exact n H1 z j
 | false=>rw [if_neg Bool.false_ne_true] at n ⊢;exact ⟨ρ,G,rs.mono (z.stab rm),j,mB _ _ _ _ (fun d M2 k=>k.ext z) n⟩
noncomputable def iG (ta tb:TEd):TEd:=fun ρ M Q=>ta ρ M fun x M1 => ∃ c,x = .bl c/\if c=true then tb ρ M1 Q else Q (.bl false) M1
noncomputable def lZ (ta tb:TEd):TEd:=fun ρ M Q=>ta ρ M fun x M1 => ∃ c,x = .bl c/\if c=true then Q (.bl true) M1 else tb ρ M1 Q
noncomputable def iH (ta:TEd):TEd:=fun ρ M Q=>ta ρ M fun x M1 => ∃ c,x = .bl c/\Q (.bl (!c)) M1
theorem sf (h:ab ta) (k:ab tb):ab (iG ta tb):=fun ρ M Q Q' i q=>h _ _ _ _ (fun x n ⟨c,e,j⟩=>⟨c,e,by
 cases c with
 | true=>rw [if_pos rfl] at j ⊢;exact k _ _ _ _ i j
 | false=>rw [if_neg Bool.false_ne_true] at j ⊢;exact i _ _ j⟩) q
theorem vm (h:ab ta) (k:ab tb):ab (lZ ta tb):=fun ρ M Q Q' i q=>h _ _ _ _ (fun x n ⟨c,e,j⟩=>⟨c,e,by
 cases c with
 | true=>rw [if_pos rfl] at j ⊢;exact i _ _ j
 | false=>rw [if_neg Bool.false_ne_true] at j ⊢;exact k _ _ _ _ i j⟩) q
theorem sg (h:ab ta):ab (iH ta):=fun ρ M Q Q' i q=>h _ _ _ _ (fun x n ⟨c,e,j⟩=>⟨c,e,i _ _ j⟩) q
theorem si {op:BoolOp} {t:TEd} (h:PE X a (lE X.K t)):PE X (.BoolOp op [a] pos) (lE X.K t):=zO h
theorem Ax {rest:List Expr} (ma:ab ta) (mb:ab tb) (F:PE X a (lE X.K ta)) (G:PE X (.BoolOp .And (b::rest) pos) (lE X.K tb)):PE X (.BoolOp .And (a::b::rest) pos) (lE X.K (iG ta tb)):=by
 refine PE.imp (zP F G) fun σ H Q h => ?_
 obtain ⟨ρ,M,rs,rm,q⟩:=h
 refine ⟨ρ,M,rs,rm,ma _ _ _ _ (fun x I ⟨c,e,n⟩ v H1 z j B => ?_) q⟩
 subst e
 refine ⟨c,RD.bl_iff.mp B, ?_⟩
 cases c with
 | true=>rw [if_pos rfl] at n ⊢;exact ⟨ρ,I,rs.mono (z.stab rm),j,mb _ _ _ _ (fun d M2 k=>k.ext z) n⟩
 | false=>rw [if_neg Bool.false_ne_true] at n ⊢;exact n _ H1 z j (RD.bl_iff.mpr rfl)
theorem BM {rest:List Expr} (ma:ab ta) (mb:ab tb) (F:PE X a (lE X.K ta)) (G:PE X (.BoolOp .Or (b::rest) pos) (lE X.K tb)):PE X (.BoolOp .Or (a::b::rest) pos) (lE X.K (lZ ta tb)):=by
 refine PE.imp (Bm F G) fun σ H Q h => ?_
 obtain ⟨ρ,M,rs,rm,q⟩:=h
 refine ⟨ρ,M,rs,rm,ma _ _ _ _ (fun x I ⟨c,e,n⟩ v H1 z j B => ?_) q⟩
 subst e
 refine ⟨c,RD.bl_iff.mp B, ?_⟩
 cases c with
 | true=>rw [if_pos rfl] at n ⊢;exact n _ H1 z j (RD.bl_iff.mpr rfl)
 | false=>rw [if_neg Bool.false_ne_true] at n ⊢;exact ⟨ρ,I,rs.mono (z.stab rm),j,mb _ _ _ _ (fun d M2 k=>k.ext z) n⟩
theorem Ay (ma:ab ta) (z:PE X a (lE X.K ta)):PE X (.UnaryOp .Not a pos) (lE X.K (iH ta)):=by
 refine PE.imp (zQ z) fun σ H Q h => ?_
 obtain ⟨ρ,M,rs,rm,q⟩:=h
 refine ⟨ρ,M,rs,rm,ma _ _ _ _ (fun x G ⟨c,e,B⟩ v H1 F j n => ?_) q⟩
 subst e
 exact ⟨c,RD.bl_iff.mp n,B _ H1 F j (RD.bl_iff.mpr rfl)⟩
noncomputable def wIf (t:TTd) (ta tb:TEd):TEd:=fun ρ M Q=>t ρ M fun c M1=>if c=true then ta ρ M1 Q else tb ρ M1 Q
theorem yp {t:TTd} (h:aB t) (n:ab ta) (z:ab tb):ab (wIf t ta tb):=fun ρ M Q Q' i q=>h _ _ _ _ (fun c B j=>by
 cases c with
 | true=>rw [if_pos rfl] at j ⊢;exact n _ _ _ _ i j
 | false=>rw [if_neg Bool.false_ne_true] at j ⊢;exact z _ _ _ _ i j) q
theorem BN {c:Expr} {t:TTd} (mt:aB t) (ma:ab ta) (mb:ab tb) (F:PT X c (lT X.K t)) (G:PE X a (lE X.K ta)) (I:PE X b (lE X.K tb)):PE X (.IfExp c a b pos) (lE X.K (wIf t ta tb)):=by
 refine PE.imp (uq F G I) fun σ H Q h => ?_
 obtain ⟨ρ,M,rs,rm,q⟩:=h
 refine ⟨ρ,M,rs,rm,mt _ _ _ _ (fun x B n H1 z j => ?_) q⟩
 cases x with
 | true=>rw [if_pos rfl] at n ⊢;exact ⟨ρ,B,rs.mono (z.stab rm),j,ma _ _ _ _ (fun d M2 k=>k.ext z) n⟩
 | false=>rw [if_neg Bool.false_ne_true] at n ⊢;exact ⟨ρ,B,rs.mono (z.stab rm),j,mb _ _ _ _ (fun d M2 k=>k.ext z) n⟩
noncomputable def cO (xs:List D) (lo hi:Option Int):List D:=(xs.drop (HT.sIx xs.length 0 lo)).take (HT.sIx xs.length xs.length hi - HT.sIx xs.length 0 lo)
theorem m8 {K:Frag} {H:Hp} {ds:List D} {vs:List V} (r:RDs K H ds vs) (lo hi:Option Int):RDs K H (cO ds lo hi) (fw vs lo hi):=by
 unfold cO fw
 rw [r.length]
 exact (r.drop _).take _
noncomputable abbrev TOd:=aq->Mem->(Option Int->Mem->Prop)->Prop
noncomputable def eP (T:TOd):Prop := ∀ ρ M Q Q',(∀ d M',Q d M'->Q' d M')->T ρ M Q->T ρ M Q'
noncomputable def dZ:TOd:=fun _ M Q=>Q none M
noncomputable def iI (t:TEd):TOd:=fun ρ M Q=>t ρ M fun x M1 => ∃ i,x = .int i/\Q (some i) M1
theorem og:eP dZ:=fun _ _ _ _ h q=>h _ _ q
theorem sj (h:ab ta):eP (iI ta):=fun ρ M Q Q' i q=>h _ _ _ _ (fun x n ⟨c,e,j⟩=>⟨c,e,i _ _ j⟩) q
noncomputable def lO (K:Frag) (T:TOd):TO:=fun σ H Q => ∃ ρ M,RS K H σ ρ /\ RM K M H/\T ρ M (fun o M' => ∀ H',Ext M H M' H'->RM K M' H'->Q o H')
theorem yq:PO X none (lO X.K dZ):=fun pins s σ H Q I h=>by
 obtain ⟨ρ,M,rs,rm,q⟩:=h
 exact xY pins s σ H Q I (q H Ext.refl rm)
theorem yr {e:Expr} (m:ab ta) (h:PE X e (lE X.K ta)):PO X (some e) (lO X.K (iI ta)):=fun pins s σ H Q I hq=>by
 obtain ⟨ρ,M,rs,rm,q⟩:=hq
 refine xZ h pins s σ H Q I ⟨ρ,M,rs,rm,m _ _ _ _ (fun x F ⟨i,e,z⟩ v H1 B j n => ?_) q⟩
 subst e
 exact ⟨i,RD.int_iff.mp n,z H1 B j⟩
noncomputable def cG:D->Option Int->Option Int->Mem->QD->Prop:=fun x lo hi M Q=>match x with
 | .tup ds=>Q (.tup (cO ds lo hi)) M
 | .ref a => ∃ ds,M a=some (.lst ds) /\ ∀ p,M p=none->Q (.ref p) (af M p (.lst (cO ds lo hi)))
 | .con ds => ∀ p,M p=none->Q (.ref p) (af M p (.lst (cO ds lo hi)))
 | _=>False
noncomputable def wSl (te:TEd) (tl th:TOd):TEd:=fun ρ M Q=>te ρ M fun x M1=>tl ρ M1 fun l M2=>th ρ M2 fun u M3=>cG x l u M3 Q
theorem qm {x:D} {lo hi:Option Int} {M:Mem} {Q Q':QD} (h:∀ d M',Q d M'->Q' d M') (q:cG x lo hi M Q):cG x lo hi M Q':=by
 cases x with
 | tup ds=>exact h _ _ q
 | ref a=>obtain ⟨ds,e,q⟩:=q;exact ⟨ds,e,fun p n=>h _ _ (q p n)⟩
 | con ds=>exact fun p n=>h _ _ (q p n)
 | _=>exact q.elim
theorem yt {tl th:TOd} (m:ab ta) (ml:eP tl) (mh:eP th):ab (wSl ta tl th):=fun ρ M Q Q' i q =>
 m _ _ _ _ (fun x B j=>ml _ _ _ _ (fun l M2 n=>mh _ _ _ _ (fun u F z=>qm i z) n) j) q
theorem BO {e:Expr} {lo hi:Option Expr} {tl th:TOd} {p2:Pos} (m:ab ta) (ml:eP tl) (mh:eP th) (he:PE X e (lE X.K ta)) (U:PO X lo (lO X.K tl)) (Y:PO X hi (lO X.K th)) :
 PE X (.Subscript e (.Slice lo hi none p2) pos) (lE X.K (wSl ta tl th)):=by
 refine PE.imp (uI (sl_tup.or (sl_list.or uM)) he U Y) fun σ H Q h => ?_
 obtain ⟨ρ,M,rs,rm,q⟩:=h
 refine ⟨ρ,M,rs,rm,m _ _ _ _ (fun x Z q1 v H1 L G O => ?_) q⟩
 refine ⟨ρ,Z,rs.mono (L.stab rm),G,ml _ _ _ _ (fun l M2 q2 H2 R J => ?_) q1⟩
 refine ⟨ρ,M2,(rs.mono (L.stab rm)).mono (R.stab G),J,mh _ _ _ _ (fun u M3 z H3 S j => ?_) q2⟩
 have B:=L.trans (R.trans S)
 have F:=(O.mono (R.stab G)).mono (S.stab J)
 cases x with
 | tup ds =>
   obtain ⟨a,vs,rfl,I,r⟩:=RD.tup_iff.mp F
   by_cases hw:HT.sIx vs.length 0 l=0/\HT.sIx vs.length vs.length u=vs.length
   ·refine .inr (.inr ⟨a,vs,rfl,SqT.of I,hw, ?_⟩)
    have e:cO ds l u=ds:=by
     unfold cO
     rw [<- r.length,hw.1,hw.2,r.length];simp
    simp only [cG] at z
    rw [e] at z
    exact z.ext B _ H3 Ext.refl j F
   ·simp only [cG] at z
    exact .inl ⟨a,vs,rfl,SqT.of I,hw,fun p n=>de j (m8 r l u) (z.ext B) n⟩
 | ref a =>
   cases RD.ref_iff.mp F
   obtain ⟨ds,e,z⟩:=z
   obtain ⟨vs,I,r⟩:=j _ _ e
   exact .inr (.inl ⟨a,vs,rfl,SqL.of I,fun p n=>cv j (m8 r l u) (fun p' n'=>(z p' n').ext B) n⟩)
 | con ds =>
   obtain ⟨a,vs,rfl,I,r⟩:=RD.con_iff.mp F
   exact .inr (.inl ⟨a,vs,rfl,I.sq,fun p n=>cv j (m8 r l u) (fun p' n'=>(z p' n').ext B) n⟩)
 | _=>exact z.elim
end
end
section
section
variable {X:Cx}
noncomputable def tyN (M:Mem):D->Option String
 | .non=>some "NoneType"
 | .bl _=>some "bool"
 | .int _=>some "int"
 | .str _=>some "str"
 | .tup _=>some "tuple"
 | .ref a=>match M a with
  | some (.lst _)=>some "list"
  | some (.dct _ _)=>some "dict"
  | _=>none
 | .con _=>none
noncomputable def dy (T t:String):Bool:=t==T || (t == "bool" && T == "int")
theorem xg {K:Frag} {M:Mem} {H:Hp} {x:D} {t:String} {v:V} (rm:RM K M H) (r:RD K H x v) (e:tyN M x=some t):bT K H v (.type t):=by
 cases x with
 | non=>cases e;cases RD.non_iff.mp r;exact .non
 | bl k=>cases e;cases RD.bl_iff.mp r;exact .bl k
 | int i=>cases e;cases RD.int_iff.mp r;exact .int i
 | str i=>cases e;cases RD.str_iff.mp r;exact .str i
 | tup ds =>
   cases e
   obtain ⟨a,vs,rfl,j,rs⟩:=RD.tup_iff.mp r
   exact .tup j
 | con ds=>cases e
 | ref a =>
   cases RD.ref_iff.mp r
   simp only [tyN] at e
   cases e0:M a with
   | none=>rw [e0] at e;cases e
   | some o =>
     rw [e0] at e
     cases o with
     | lst ds =>
       cases e
       obtain ⟨vs,j,rs⟩:=rm _ _ e0
       exact .lst j
     | dct t kvs =>
       cases e
       have ro:=rm _ _ e0
       cases t with
       | false=>obtain ⟨ps,j,_⟩:=ro;exact .dK j
       | true=>obtain ⟨ps,j,_⟩:=ro;exact .dT j
     | fdc kvs=>cases e
noncomputable def ci:List String := ["NoneType", "bool", "int", "str", "tuple", "list", "dict"]
theorem ju (K:Frag):∀ T∈["bool", "int", "str", "tuple", "list", "dict"], ∀ t∈ci,PySem.W.kitOne K (.type t) (.type T)=some (dy T t):=by
 intro T j t n
 simp only [ci,List.mem_cons,List.not_mem_nil,or_false] at j n
 rcases j with rfl | rfl | rfl | rfl | rfl | rfl <;> rcases n with rfl | rfl | rfl | rfl | rfl | rfl | rfl <;> rfl
noncomputable def iJ (T:String) (ta:TEd):TEd:=fun ρ M Q=>ta ρ M fun x M1 => ∃ t,tyN M1 x=some t/\Q (.bl (dy T t)) M1
theorem sk {T:String} {ta:TEd} (h:ab ta):ab (iJ T ta):=fun ρ M Q Q' i q=>h _ _ _ _ (fun x n ⟨t,e,j⟩=>⟨t,e,i _ _ j⟩) q
theorem oJ {M:Mem} {x:D} {t:String} (e:tyN M x=some t):t∈ci:=by
 cases x with
 | ref a =>
   simp only [tyN] at e
   cases e0:M a with
   | none=>rw [e0] at e;cases e
   | some o=>rw [e0] at e;cases o <;> cases e <;> simp [ci]
 | con _=>cases e
 | _=>cases e;simp [ci]
theorem sn (T:String) (j:T∈["bool", "int", "str", "tuple", "list", "dict"]):CallR X (.builtin "isinstance") (fun vs H Q => ∃ v t,vs=[v, .ty T]/\bT X.K H v (.type t)/\t∈ci/\Q (.bl (dy T t)) H):=by
 intro pins s σ H xs us Q I r h
 obtain ⟨v,t,rfl,ty,n,q⟩:=h
 obtain ⟨u,c,rfl,ru,rc⟩:=kL r
 cases rc
 exact rC I ru ty (ju X.K T j t n) fun tk=>⟨.bl _,H,I.tok tk,rfl,q⟩
theorem yu {e:Expr} {ta:TEd} {T:String} {y:Str} {p p2 pos:Pos} (I:T∈["bool", "int", "str", "tuple", "list", "dict"]) (m:ab ta) (he:PE X e (lE X.K ta)) (J:Gl X "isinstance") (hm:X.mg "isinstance" = none)
 (n:Gl X y) (z:X.mg y=none) (L:bootBuiltins y=some (.type T)) (O:y ≠ "__name__") (B:(y==("__debug__":Str))=false)
 (hs:starEach [e, .Name y p2] X.env=(false,eval e X.env)::starEach [.Name y p2] X.env) (F:(backTo pos (starEach [.Name y p2] X.env)).any (·.1)=false) :
 PE X (.Call (.Name "isinstance" p) [e, .Name y p2] [] pos) (lE X.K (iJ T ta)):=by
 have h2:PE X (.Name y p2) (tC (.ty T)):=jf n z L rfl O B
 refine PE.imp (ca (sn T I) J hm (by decide +kernel) (cu he (cu h2 im rfl) hs) (by decide) (by decide) hs F) fun σ H Q h => ?_
 obtain ⟨ρ,M,rs,rm,q⟩:=h
 exact ⟨ρ,M,rs,rm,m _ _ _ _ (fun x U ⟨t,e,R⟩ v H1 S j G=>⟨v,t,rfl,xg j G e,oJ e,R _ H1 S j (RD.bl_iff.mpr rfl)⟩) q⟩
noncomputable def wBM (rd:D->List D->Mem->QD->Prop) (to:TEd) (t:TAd):TEd:=fun ρ M Q=>to ρ M fun x M1=>(∃ a xs,x = .ref a/\M1 a=some (.lst xs))/\t ρ M1 fun ds M2=>rd x ds M2 Q
noncomputable def cX (rd:D->List D->Mem->QD->Prop):Prop := ∀ x ds M Q Q',(∀ d M',Q d M'->Q' d M')->rd x ds M Q->rd x ds M Q'
theorem jv {rd:D->List D->Mem->QD->Prop} {to:TEd} {t:TAd} (j:cX rd) (mo:ab to) (mt:aY t):ab (wBM rd to t):=fun ρ M Q Q' i q =>
 mo _ _ _ _ (fun x B ⟨e,n⟩=>⟨e,mt _ _ _ _ (fun ds M2 z=>j _ _ _ _ _ i z) n⟩) q
theorem xh {K:Frag} {M:Mem} {H:Hp} {x:D} {v:V} (rm:RM K M H) (r:RD K H x v) (h:∃ a xs,x = .ref a/\M a=some (.lst xs)):tyV K "list" v H:=by
 obtain ⟨a,xs,rfl,e⟩:=h
 cases RD.ref_iff.mp r
 obtain ⟨vs,j,_⟩:=rm _ _ e
 exact .inl ⟨rfl,vs,SqL.of j⟩
theorem oK {K:Frag} {rd:D->List D->Mem->QD->Prop} {r:V->List V->Hp->VK->Prop} {to:TEd} {t:TAd} (I:cX rd) (mo:ab to) (mt:aY t)
 (J:∀ v vs H Q,lMt K rd v vs H Q->r v vs H Q) (σ:St) (H:Hp) (Q:VK) (h:lE K (wBM rd to t) σ H Q):tBM K "list" r (lE K to) (lA K t) σ H Q:=by
 obtain ⟨ρ,M,rs,rm,q⟩:=h
 refine ⟨ρ,M,rs,rm,mo _ _ _ _ (fun x L ⟨e,O⟩ v H1 F j n=>⟨xh j n e, ?_⟩) q⟩
 refine ⟨ρ,L,rs.mono (F.stab rm),j,mt _ _ _ _ (fun ds M2 R vs H2 G z B => ?_) O⟩
 exact J v vs H2 Q ⟨x,ds,M2,z,n.mono (G.stab j),B,I _ _ _ _ _ (fun d M' k=>k.ext (F.trans G)) R⟩
theorem m9 {K:Frag} {rd:D->List D->Mem->QD->Prop} {r:V->List V->Hp->VK->Prop} {to:TEd} (z:cX rd) (mo:ab to)
 (B:∀ v vs H Q,lMt K rd v vs H Q->r v vs H Q) (σ:St) (H:Hp) (Q:VK) (h:lE K (wBM rd to bm) σ H Q):Ab K "list" r (lE K to) σ H Q:=by
 obtain ⟨ρ,M,rs,rm,q⟩:=h
 refine ⟨ρ,M,rs,rm,mo _ _ _ _ (fun x F ⟨e,G⟩ v H1 I j n=>⟨xh j n e, ?_⟩) q⟩
 exact B v [] H1 Q ⟨x,[],F,j,n,RDs.nil,z _ _ _ _ _ (fun d M' k=>k.ext I) G⟩
noncomputable def jw:D->List D->Mem->QD->Prop:=fun x ds M Q => ∃ a xs y,x = .ref a/\ds=[y]/\M a=some (.lst xs)/\xs.length < sizeLine/\Q .non (af M a (.lst (xs++[y])))
noncomputable def md:D->List D->Mem->QD->Prop:=fun x ds M Q => ∃ a xs,x = .ref a/\ds=[]/\M a=some (.lst xs)/\Q .non (af M a (.lst []))
noncomputable def gW:D->List D->Mem->QD->Prop:=fun x ds M Q => ∃ a xs,x = .ref a/\ds=[]/\M a=some (.lst xs)/\Q .non (af M a (.lst xs.reverse))
theorem gK:cX jw:=fun _ _ _ _ _ h ⟨a,xs,y,e1,e2,j,z,q⟩=>⟨a,xs,y,e1,e2,j,z,h _ _ q⟩
theorem iK:cX md:=fun _ _ _ _ _ h ⟨a,xs,e1,e2,j,q⟩=>⟨a,xs,e1,e2,j,h _ _ q⟩
theorem fD:cX gW:=fun _ _ _ _ _ h ⟨a,xs,e1,e2,j,q⟩=>⟨a,xs,e1,e2,j,h _ _ q⟩
theorem gf {K:Frag} {M:Mem} {H:Hp} {Q:VK} {d:D} {v:V} {a:Addr} {o0:O} {ds:List D} {vs:List V} (rm:RM K M H) (m:M a=some o0) (rd:RDs K H ds vs) (r:RD K H d v) (q:KE' K M H Q d (af M a (.lst ds))) (w:fz (some o0)=false:=by rfl) :
 Q v (upd H a (.lst vs)):=by
 have st:Stab H (upd H a (.lst vs)):=rm.stabPut m w
 exact q v _ (Ext.put m w) (rm.put m ⟨vs,ar,rd.mono st⟩ w) (r.mono st)
theorem vp {K:Frag} (v:V) (vs:List V) (H:Hp) (Q:VK) (h:lMt K jw v vs H Q):oE v vs H Q:=by
 obtain ⟨x,ds,M,rm,rx,rs,a,xs,y,rfl,rfl,e,z,q⟩:=h
 cases RD.ref_iff.mp rx
 obtain ⟨w,rfl,rw'⟩:=rs.one
 obtain ⟨us,j,ru⟩:=rm _ _ e
 exact ⟨a,us,w,rfl,rfl,j,by rw [ru.length];exact z,gf rm e (ru.append (RDs.cons rw' RDs.nil)) (RD.non_iff.mpr rfl) q⟩
theorem yv {K:Frag} (v:V) (vs:List V) (H:Hp) (Q:VK) (h:lMt K md v vs H Q):rL v vs H Q:=by
 obtain ⟨x,ds,M,rm,rx,rs,a,xs,rfl,rfl,e,q⟩:=h
 cases RD.ref_iff.mp rx
 obtain ⟨us,j,ru⟩:=rm _ _ e
 exact ⟨a,us,rfl,RDs.nil_iff.mp rs,j,gf rm e RDs.nil (RD.non_iff.mpr rfl) q⟩
theorem so {K:Frag} (v:V) (vs:List V) (H:Hp) (Q:VK) (h:lMt K gW v vs H Q):ll v vs H Q:=by
 obtain ⟨x,ds,M,rm,rx,rs,a,xs,rfl,rfl,e,q⟩:=h
 cases RD.ref_iff.mp rx
 obtain ⟨us,j,ru⟩:=rm _ _ e
 exact ⟨a,us,rfl,RDs.nil_iff.mp rs,j,gf rm e ru.reverse (RD.non_iff.mpr rfl) q⟩
noncomputable abbrev BT:=D->aq->Option aq
noncomputable abbrev BTs:=List D->aq->Option aq
noncomputable def bn (i:Nat):BT:=fun d ρ => some (ρ.set i (some d))
noncomputable def eQ:BTs:=fun ds ρ => match ds with | [] => some ρ | _=>none
noncomputable def bv (b:BT) (bs:BTs):BTs:=fun ds ρ => match ds with | d::r=>(b d ρ).bind fun ρ'=>bs r ρ' | [] => none
noncomputable def jx (bs:BTs):BT:=fun d ρ => match d with | .tup ds=>bs ds ρ | _=>none
noncomputable def lG (K:Frag) (b:BT):TG:=fun v σ H Q => ∃ d ρ ρ',RD K H d v/\RS K H σ ρ /\ b d ρ = some ρ' /\ ∀ σ',RS K H σ' ρ'->Q σ' H
noncomputable def lGs (K:Frag) (b:BTs):TGs:=fun vs σ H Q => ∃ ds ρ ρ',RDs K H ds vs/\RS K H σ ρ /\ b ds ρ = some ρ' /\ ∀ σ',RS K H σ' ρ'->Q σ' H
theorem PG.imp {e:Expr} {t t':TG} (h:PG X e t) (i:∀ v σ H Q,t' v σ H Q->t v σ H Q):PG X e t':=fun pins s σ H v u Q I r q=>h pins s σ H v u Q I r (i _ _ _ _ q)
theorem PGs.imp {e:List Expr} {t t':TGs} (h:PGs X e t) (i:∀ v σ H Q,t' v σ H Q->t v σ H Q):PGs X e t':=fun pins s σ H v u Q I r q=>h pins s σ H v u Q I r (i _ _ _ _ q)
theorem yw {i:Nat} {x:Str} {pos:Pos} (j:X.N.Nodup) (hi:X.N[i]? = some x) (hx:Loc X.env.scope x) (hf:X.fn x=true∨X.env.scope.names.lookup x=some .local):PG X (.Name x pos) (lG X.K (bn i)) :=
 PG.imp (oB j hi hx hf) fun v σ H Q ⟨d, ρ, ρ',r,rs,e,q⟩=>by
  cases e
  exact q _ (rs.set i r)
theorem yz:PGs X [] (lGs X.K eQ):=PGs.imp xP fun vs σ H Q ⟨ds, ρ, ρ',r,rs,e,q⟩=>by
 cases ds with
 | nil=>cases e;exact ⟨RDs.nil_iff.mp r,q σ rs⟩
 | cons _ _=>cases e
theorem vq {e:Expr} {es:List Expr} {b:BT} {bs:BTs} (h1:PG X e (lG X.K b)) (h2:PGs X es (lGs X.K bs)) (hs:(assignEach (e::es) X.env).map (·.2)=assign e X.env::(assignEach es X.env).map (·.2)) :
 PGs X (e::es) (lGs X.K (bv b bs)):=PGs.imp (uw h1 h2 hs) fun vs σ H Q ⟨ds, ρ, ρ',r,rs,e,q⟩=>by
 cases ds with
 | nil=>cases e
 | cons d ds =>
   obtain ⟨v,vr,rfl,j,n⟩:=RDs.cons_iff.mp r
   simp only [bv] at e
   cases e1:b d ρ with
   | none=>rw [e1] at e;cases e
   | some ρ1 =>
     rw [e1] at e
     exact ⟨v,vr,rfl,d, ρ, ρ1,j,rs,e1,fun σ' rs'=>⟨ds, ρ1, ρ',n,rs',e,q⟩⟩
theorem Az {es:List Expr} {k:Nat} {bs:BTs} {n:Nat} {pos:Pos} (z:X.calm=true) (hlen:∀ ds ρ ρ',bs ds ρ = some ρ'->ds.length=n) (h:PGs X es (lGs X.K bs)) (B:(assignEach es X.env).length=n) (j:(assignEach es X.env).findIdx? (·.1)=none) :
 PG X (.Tuple es k pos) (lG X.K (jx bs)):=PG.imp (zV z h B j) fun v σ H Q ⟨d, ρ, ρ',r,rs,e,q⟩=>by
 cases d with
 | tup ds =>
   obtain ⟨a,vs,rfl,F,rv⟩:=RD.tup_iff.mp r
   exact ⟨a,vs,rfl,SqT.of F,by rw [rv.length];exact hlen _ _ _ e,ds, ρ, ρ',rv,rs,e,q⟩
 | _=>cases e
noncomputable abbrev TId:=aq->Mem->(List D->(Mem->Prop)->Mem->Prop)->Prop
noncomputable def bP (T:TId):Prop := ∀ ρ M Q Q',(∀ xs c M',Q xs c M'->Q' xs c M')->T ρ M Q->T ρ M Q'
noncomputable def Yl (H H':Hp):Prop:=H'=H ∨ ∃ q vs,H q=none/\H'=upd H q (.tup vs)
noncomputable def fE (K:Frag) (H1:Hp) (xs:List D) (chk:Mem->Prop) (J:It):Prop := ∀ M H,Stab H1 H->RM K M H->chk M -> ∀ i,(xs.length<=i->J.stop i H)/\(i < xs.length->J.go i H /\
 ∀ x H',J.yld i H x H'->Yl H H' /\ ∃ d,xs[i]? = some d/\RD K H' d x)
noncomputable def lI (K:Frag) (T:TId):TI:=fun σ H R => ∃ ρ M,RS K H σ ρ /\ RM K M H/\T ρ M (fun xs chk M1 => ∀ J H1,Ext M H M1 H1->RM K M1 H1->fE K H1 xs chk J->R J H1)
theorem PI.imp {tg e:Expr} {t t':TI} (h:PI X tg e t) (i:∀ σ H Q,t' σ H Q->t σ H Q):PI X tg e t':=fun pins s σ H Q I q=>h pins s σ H Q I (i _ _ _ q)
theorem Yl.ext {K:Frag} {M:Mem} {H H':Hp} (rm:RM K M H) (y:Yl H H'):Ext M H M H'/\RM K M H':=by
 rcases y with rfl | ⟨q,vs,n,rfl⟩
 ·exact ⟨Ext.refl,rm⟩
 ·exact ⟨Ext.new' n,rm.new n⟩
noncomputable def Cz (K:Frag) (tl:TE):TI:=fun σ H R=>tl σ H fun x H1 => ∃ a,x = .ref a/\(((∃ xs,SqL K H1 a xs)/\R (Itl K a) H1)∨((∃ xs,SqT K H1 a xs)/\R (Itt K a) H1))
theorem AA {tg l:Expr} {tl:TE} (B:PE X l tl):PI X tg l (Cz X.K tl):=by
 intro pins s σ H R I h
 refine thn (B pins s σ H _ I h) fun v s1 ⟨x,H1,j,F,G⟩ => ?_
 obtain ⟨a,e,q⟩:=G
 subst e
 cases F
 rcases q with ⟨⟨xs,n⟩,q⟩ | ⟨⟨xs,n⟩,q⟩
 ·obtain ⟨its,rv,p,J⟩:=j.list n
  refine wpAny_pyIter_list p.isList ?_
  refine ⟨s1.heap.objs.size,[s1.heap.objs.size],_,_,H1,rfl,j.kept (t':=s1.toks) fun b o e=>Heap.get?_push_of_some _ e,rj a _,⟨_,Heap.get?_push_size _ rfl,rfl,rfl⟩,fun b z => ?_,q⟩
  have e:b=s1.heap.objs.size:=by simpa using z
  subst e
  exact j.fpOk (Nat.le_refl _) (j.hok.fresh (Nat.le_refl _))
 ·obtain ⟨its,rv,p,J⟩:=j.tuple n
  refine wpAny_pyIter_tuple (show s1.heap.IsTuple a its.toArray from p) ?_
  refine ⟨s1.heap.objs.size,[s1.heap.objs.size],_,_,H1,rfl,j.kept (t':=s1.toks) fun b o e=>Heap.get?_push_of_some _ e,pV a _,⟨_,Heap.get?_push_size _ rfl,rfl,rfl⟩,fun b z => ?_,q⟩
  have e:b=s1.heap.objs.size:=by simpa using z
  subst e
  exact j.fpOk (Nat.le_refl _) (j.hok.fresh (Nat.le_refl _))
noncomputable def mf (ta:TEd):TId:=fun ρ M R=>ta ρ M fun x M1 => ∃ ds,au M1 x=some ds/\R ds (fun M=>au M x=some ds) M1
theorem vt {ta:TEd} (h:ab ta):bP (mf ta):=fun ρ M Q Q' i q=>h _ _ _ _ (fun x n ⟨ds,e,j⟩=>⟨ds,e,i _ _ _ j⟩) q
theorem sr {K:Frag} {H1:Hp} {a:Addr} {ds:List D} {chk:Mem->Prop} (h:∀ M H,Stab H1 H->RM K M H->chk M -> ∃ vs,SqL K H a vs/\RDs K H ds vs):fE K H1 ds chk (Itl K a):=fun M H st rm c i=>by
 obtain ⟨vs,sq,r⟩:=h M H st rm c
 have l:=r.length
 refine ⟨fun hi=>⟨vs,sq,by lia⟩,fun hi=>⟨⟨vs,vs[i]'(by lia),sq,List.getElem?_eq_getElem (by lia)⟩,fun x H' y => ?_⟩⟩
 obtain ⟨e,y⟩:=y
 subst e
 exact ⟨.inl rfl,r.getV (y vs sq)⟩
theorem AB {K:Frag} {H1:Hp} {a:Addr} {ds:List D} {chk:Mem->Prop} (h:∀ M H,Stab H1 H->RM K M H->chk M -> ∃ vs,SqT K H a vs/\RDs K H ds vs):fE K H1 ds chk (Itt K a):=fun M H st rm c i=>by
 obtain ⟨vs,sq,r⟩:=h M H st rm c
 have l:=r.length
 refine ⟨fun hi=>⟨vs,sq,by lia⟩,fun hi=>⟨⟨vs,vs[i]'(by lia),sq,List.getElem?_eq_getElem (by lia)⟩,fun x H' y => ?_⟩⟩
 obtain ⟨e,y⟩:=y
 subst e
 exact ⟨.inl rfl,r.getV (y vs sq)⟩
theorem AC {tg l:Expr} {ta:TEd} (m:ab ta) (F:PE X l (lE X.K ta)):PI X tg l (lI X.K (mf ta)):=by
 refine PI.imp (AA F) fun σ H R h => ?_
 obtain ⟨ρ,M,rs,rm,q⟩:=h
 refine ⟨ρ,M,rs,rm,m _ _ _ _ (fun x I ⟨ds,e,z⟩ v H1 B j rd1 => ?_) q⟩
 cases x with
 | tup es =>
   cases e
   obtain ⟨a,vs,rfl,n,rv⟩:=RD.tup_iff.mp rd1
   exact ⟨a,rfl, .inr ⟨⟨vs,SqT.of n⟩,z _ H1 B j (AB fun M' H' st _ _=>⟨vs,SqT.of (st.tup _ _ n),rv.mono st⟩)⟩⟩
 | con es =>
   cases e
   obtain ⟨a,vs,rfl,n,rv⟩:=RD.con_iff.mp rd1
   exact ⟨a,rfl, .inl ⟨⟨vs,n.sq⟩,z _ H1 B j (sr fun M' H' st _ _=>⟨vs,(st.sqF n).sq,rv.mono st⟩)⟩⟩
 | ref a =>
   cases RD.ref_iff.mp rd1
   have get:∀ {M':Mem} {es:List D},au M' (.ref a)=some es->M' a=some (.lst es):=fun {M' es} e=>by
    simp only [au] at e
    cases e0:M' a with
    | none=>rw [e0] at e;cases e
    | some o =>
      rw [e0] at e
      cases o with
      | dct _ _=>cases e
      | fdc _=>cases e
      | lst es'=>cases e;rfl
   obtain ⟨vs,n,rv⟩:=j _ _ (get e)
   exact ⟨a,rfl, .inl ⟨⟨vs,SqL.of n⟩,z _ H1 B j (sr fun M' H' st rm' c=>by
    obtain ⟨us,G,ru⟩:=rm' _ _ (get c)
    exact ⟨us,SqL.of G,ru⟩)⟩⟩
 | _=>cases e
noncomputable def bo (lo:Int) (n:Nat):List D:=(List.range n).map fun i => .int (lo+(i:Nat))
theorem su {K:Frag} {H1:Hp} {lo:Int} {n:Nat}:fE K H1 (bo lo n) (fun _=>True) (Itr lo n):=fun M H st rm c i=>by
 have l:(bo lo n).length=n:=by simp [bo]
 refine ⟨fun hi=>by show n<=i;lia,fun hi=>⟨by show i < n;lia,fun x H' y => ?_⟩⟩
 obtain ⟨e,y⟩:=y
 subst e y
 refine ⟨.inl rfl, .int (lo+i), ?_,RD.int_iff.mpr rfl⟩
 simp only [bo,List.getElem?_map,List.getElem?_range (show i < n by lia),Option.map_some]
noncomputable def iL (ta:TAd):TId:=fun ρ M R=>ta ρ M fun ds M1 => ∃ j:Int,ds=[.int j] /\ -(2 ^ 62)<=j/\j < 2 ^ 62/\R (bo 0 j.toNat) (fun _=>True) M1
noncomputable def iM (ta:TAd):TId:=fun ρ M R=>ta ρ M fun ds M1 => ∃ i j:Int,ds=[.int i, .int j]/\(-(2 ^ 62)<=i/\i < 2 ^ 62 /\ -(2 ^ 62)<=j/\j < 2 ^ 62)/\R (bo i (j - i).toNat) (fun _=>True) M1
theorem sv {ta:TAd} (h:aY ta):bP (iL ta):=fun ρ M Q Q' i q=>h _ _ _ _ (fun x z ⟨j,e,a,b,n⟩=>⟨j,e,a,b,i _ _ _ n⟩) q
theorem sx {ta:TAd} (h:aY ta):bP (iM ta):=fun ρ M Q Q' i q=>h _ _ _ _ (fun x z ⟨k,j,e,a,n⟩=>⟨k,j,e,a,i _ _ _ n⟩) q
theorem yA {tg a:Expr} {ta:TAd} {p pos:Pos} (m:aY ta) (z:Gl X "range") (hm:X.mg "range" = none) (B:PA X [a] (lA X.K ta)) (hs:starEach [a] X.env=[(false,eval a X.env)]):PI X tg (.Call (.Name "range" p) [a] [] pos) (lI X.K (iL ta)):=by
 refine PI.imp (rl z hm B hs) fun σ H R h => ?_
 obtain ⟨ρ,M,rs,rm,q⟩:=h
 refine ⟨ρ,M,rs,rm,m _ _ _ _ (fun ds L ⟨j,e,F,G,I⟩ vs H1 J n rd1 => ?_) q⟩
 subst e
 obtain ⟨v,rfl,r⟩:=rd1.one
 cases RD.int_iff.mp r
 exact ⟨j,rfl,F,G,I _ H1 J n su⟩
theorem yB {tg a b:Expr} {ta:TAd} {p pos:Pos} (m:aY ta) (F:Gl X "range") (hm:X.mg "range" = none) (G:PA X [a,b] (lA X.K ta)) (hs:starEach [a,b] X.env=[(false,eval a X.env),(false,eval b X.env)]) (n:starEach [b] X.env=[(false,eval b X.env)]) :
 PI X tg (.Call (.Name "range" p) [a,b] [] pos) (lI X.K (iM ta)):=by
 refine PI.imp (rn F hm G hs n) fun σ H R h => ?_
 obtain ⟨ρ,M,rs,rm,q⟩:=h
 refine ⟨ρ,M,rs,rm,m _ _ _ _ (fun ds S ⟨i,j,e,z,I⟩ vs H1 J B rd1 => ?_) q⟩
 subst e
 obtain ⟨v,u,rfl,L,O⟩:=rd1.two
 cases RD.int_iff.mp L
 cases RD.int_iff.mp O
 exact ⟨i,j,rfl,z,I _ H1 J B su⟩
end
end
section
section
variable {X:Cx}
noncomputable def isT:D->Bool | .tup _=>true | _=>false
theorem ee {K:Frag} {M:Mem} {H:Hp} {x:D} {ds:List D} {v:V} (rm:RM K M H) (r:RD K H x v) (e:au M x=some ds):∃ p vs,v = .ref p/\SqV K (isT x) H p vs/\RDs K H ds vs:=by
 cases x with
 | tup es =>
   cases e
   obtain ⟨a,vs,rfl,j,rv⟩:=RD.tup_iff.mp r
   exact ⟨a,vs,rfl,SqT.of j,rv⟩
 | con es =>
   cases e
   obtain ⟨a,vs,rfl,j,rv⟩:=RD.con_iff.mp r
   exact ⟨a,vs,rfl,j.sq,rv⟩
 | ref a =>
   cases RD.ref_iff.mp r
   simp only [au] at e
   cases e0:M a with
   | none=>rw [e0] at e;cases e
   | some o =>
     rw [e0] at e
     cases o with
     | dct _ _=>cases e
     | fdc _=>cases e
     | lst es =>
       cases e
       obtain ⟨vs,j,rv⟩:=rm _ _ e0
       exact ⟨a,vs,rfl,SqL.of j,rv⟩
 | _=>cases e
noncomputable def gh (x y:D):D := .tup [x,y]
noncomputable def mj (ta tb:TEd):TId:=fun ρ M R=>aI ta (aI tb bm) ρ M fun ds M1 => ∃ x y xs ys,ds=[x,y]/\au M1 x=some xs/\au M1 y=some ys/\R (List.zipWith gh xs ys) (fun M=>au M x=some xs/\au M y=some ys) M1
theorem vw {ta tb:TEd} (j:ab ta) (n:ab tb):bP (mj ta tb):=fun ρ M Q Q' i q=>ak j (ak n ao) _ _ _ _ (fun ds B ⟨x,y,xs,ys,e,e1,e2,z⟩=>⟨x,y,xs,ys,e,e1,e2,i _ _ _ z⟩) q
theorem mm {H:Hp} {p:Addr} {o:HO} (n:H p=none):Stab H (upd H p o):=⟨fun a xs e=>by rw [ah (fun z=>by rw [z,n] at e;cases e)];exact e,fun a o u e=>by rw [ah (fun z=>by rw [z,n] at e;cases e)];exact e⟩
theorem AD {K:Frag} {H1:Hp} {x y:D} {xs ys:List D} {a b:Addr} (rx:RD K H1 x (.ref a)) (ry:RD K H1 y (.ref b)):fE K H1 (List.zipWith gh xs ys) (fun M=>au M x=some xs/\au M y=some ys) (Itz K (isT x) (isT y) a b):=fun M H st rm c i=>by
 obtain ⟨L,vs,e1,j,G⟩:=ee rm (rx.mono st) c.1
 obtain ⟨p2,us,e2,q,I⟩:=ee rm (ry.mono st) c.2
 cases e1
 cases e2
 have l1:=G.length
 have l2:=I.length
 have lz:(List.zipWith gh xs ys).length=min xs.length ys.length:=List.length_zipWith
 refine ⟨fun hi=>⟨vs,us,j,q,by lia⟩,fun hi=>⟨⟨vs,us,vs[i]'(by lia),us[i]'(by lia),j,q,List.getElem?_eq_getElem (by lia),List.getElem?_eq_getElem (by lia)⟩,fun v H' J => ?_⟩⟩
 obtain ⟨p,v1,v2,n,rfl,rfl,g⟩:=J
 obtain ⟨g1,g2⟩:=g vs us j q
 obtain ⟨d1,z,B⟩:=G.getV g1
 obtain ⟨d2,hd2,F⟩:=I.getV g2
 have sb:=mm (o := .tup [v1,v2]) n
 refine ⟨.inr ⟨p,[v1,v2],n,rfl⟩, .tup [d1,d2], ?_,RD.tup_iff.mpr ⟨p,[v1,v2],rfl,ar,RDs.cons (B.mono sb) (RDs.cons (F.mono sb) RDs.nil)⟩⟩
 rw [List.getElem?_zipWith,z,hd2];rfl
theorem AE {elts:List Expr} {cx} {pos p pos':Pos} {a b:Expr} {ta tb:TEd} (ma:ab ta) (mb:ab tb) (F:Gl X "zip") (hm:X.mg "zip" = none) (G:PA X [a,b] (lA X.K (aI ta (aI tb bm)))) (hs:starEach [a,b] X.env=[(false,eval a X.env),(false,eval b X.env)]) (n:starEach [b] X.env=[(false,eval b X.env)]) :
 PI X (.Tuple elts cx pos) (.Call (.Name "zip" p) [a,b] [] pos') (lI X.K (mj ta tb)):=by
 refine PI.imp (Ai F hm G hs n) fun σ H R h => ?_
 obtain ⟨ρ,M,rs,rm,q⟩:=h
 refine ⟨ρ,M,rs,rm,ak ma (ak mb ao) _ _ _ _ (fun ds O ⟨x,y,xs,ys,e,e1,e2,I⟩ vs H1 J j rd1 => ?_) q⟩
 subst e
 obtain ⟨v,u,rfl,z,B⟩:=rd1.two
 obtain ⟨L,vs,rfl,s1,_⟩:=ee j z e1
 obtain ⟨p2,us,rfl,s2,_⟩:=ee j B e2
 exact ⟨L,p2,isT x,isT y,vs,us,rfl,s1,s2,I _ H1 J j (AD z B)⟩
end
end
section
section
variable {X:Cx}
noncomputable def eR (xs:List D):List D:=xs.mapIdx fun i x => .tup [.int (i:Nat),x]
noncomputable def iN (ta:TEd):TId:=fun ρ M R=>ta ρ M fun x M1 => ∃ xs,au M1 x=some xs/\R (eR xs) (fun M=>au M x=some xs) M1
theorem sy {ta:TEd} (h:ab ta):bP (iN ta):=fun ρ M Q Q' i q=>h _ _ _ _ (fun x n ⟨ds,e,j⟩=>⟨ds,e,i _ _ _ j⟩) q
theorem AF {K:Frag} {H1:Hp} {x:D} {xs:List D} {a:Addr} (rx:RD K H1 x (.ref a)):fE K H1 (eR xs) (fun M=>au M x=some xs) (Ite K (isT x) a):=fun M H st rm c i=>by
 obtain ⟨G,vs,e1,j,B⟩:=ee rm (rx.mono st) c
 cases e1
 have l1:=B.length
 have lz:(eR xs).length=xs.length:=by simp [eR]
 refine ⟨fun hi=>⟨vs,j,by lia⟩,fun hi=>⟨⟨vs,vs[i]'(by lia),j,List.getElem?_eq_getElem (by lia)⟩,fun v H' F => ?_⟩⟩
 obtain ⟨p,v1,n,rfl,rfl,g⟩:=F
 obtain ⟨d1,q,z⟩:=B.getV (g vs j)
 have sb:=mm (o := .tup [.int (i:Nat),v1]) n
 refine ⟨.inr ⟨p,[.int (i:Nat),v1],n,rfl⟩, .tup [.int (i:Nat),d1], ?_,RD.tup_iff.mpr ⟨p,[.int (i:Nat),v1],rfl,ar,RDs.cons (RD.int_iff.mpr rfl) (RDs.cons (z.mono sb) RDs.nil)⟩⟩
 simp [eR,List.getElem?_mapIdx,q]
theorem yC {elts:List Expr} {cx} {pos p pos':Pos} {a:Expr} {ta:TEd} (ma:ab ta) (z:Gl X "enumerate") (hm:X.mg "enumerate" = none) (B:PA X [a] (lA X.K (aI ta bm))) (hs:starEach [a] X.env=[(false,eval a X.env)]) :
 PI X (.Tuple elts cx pos) (.Call (.Name "enumerate" p) [a] [] pos') (lI X.K (iN ta)):=by
 refine PI.imp (y8 z hm B hs) fun σ H R h => ?_
 obtain ⟨ρ,M,rs,rm,q⟩:=h
 refine ⟨ρ,M,rs,rm,ma _ _ _ _ (fun x J ⟨xs,e1,F⟩ vs H1 G j rd1 => ?_) q⟩
 obtain ⟨v,rfl,n⟩:=rd1.one
 obtain ⟨I,us,rfl,s1,_⟩:=ee j n e1
 exact ⟨I,isT x,us,rfl,s1,F _ H1 G j (AF n)⟩
end
end
section
noncomputable abbrev NC:=aq->Mem->List D->Prop
noncomputable abbrev TCd:=aq->Mem->List D->NC->Prop
noncomputable def bQ (T:TCd):Prop := ∀ ρ M acc N N',(∀ ρ' M' acc',N ρ' M' acc'->N' ρ' M' acc')->T ρ M acc N->T ρ M acc N'
structure ExtP (p:Addr) (M:Mem) (H:Hp) (M':Mem) (H':Hp):Prop where
 kp:∀ a o,a≠p->fz (M a)=true->H a=some o->H' a=some o
 nw:∀ a o,fz (M a)=true->H a=some o->M' a=M a
section
variable {K:Frag} {M M' M'':Mem} {H H' H'':Hp} {p:Addr}
theorem ExtP.new (x:ExtP p M H M' H') (a:Addr) (o:HO) (n:M a=none) (e:H a=some o):M' a=none:=(x.nw a o (by rw [n];rfl) e).trans n
theorem Ext.toP (x:Ext M H M' H'):ExtP p M H M' H':=⟨fun a o _=>x.kp a o,x.nw⟩
theorem ExtP.refl:ExtP p M H M H:=⟨fun _ _ _ _ h=>h,fun _ _ _ _=>rfl⟩
theorem ExtP.trans {vs:List V} (a:ExtP p M H M' H') (q:H p=some (.lst vs)) (j:∃ vs',H' p=some (.lst vs')) (b:ExtP p M' H' M'' H''):ExtP p M H M'' H'' :=
 ⟨fun c o ne n h=>b.kp c o ne (by rw [a.nw c o n h];exact n) (a.kp c o ne n h),fun c o n h=>by
   have n':fz (M' c)=true:=by rw [a.nw c o n h];exact n
   refine Eq.trans ?_ (a.nw c o n h)
   by_cases z:c=p
   ·subst z
    obtain ⟨vs',e⟩:=j
    exact b.nw c _ n' e
   ·exact b.nw c o n' (a.kp c o z n h)⟩
theorem ExtP.stab {vs:List V} (r:RM K M H) (j:H p=some (.lst vs)) (x:ExtP p M H M' H'):Stab H H' where
 tup:=fun a xs e=>x.kp a _ (fun z=>by subst z;rw [j] at e;cases e) (by rw [r.fzT e];rfl) e
 frz:=fun a o u e=>x.kp a _ (fun z=>by subst z;rw [j] at e;cases e) (r.fzF e) e
theorem mn {vs:List V} {ho:HO} (j:H p=some (.lst vs)):Stab H (upd H p ho) :=
 ⟨fun a xs e=>by rw [ah (fun z=>by subst z;rw [j] at e;cases e)];exact e,fun a o u e=>by rw [ah (fun z=>by subst z;rw [j] at e;cases e)];exact e⟩
theorem RM.side {vs:List V} {ho:HO} (r:RM K M H) (n:M p=none) (j:H p=some (.lst vs)):RM K M (upd H p ho):=fun a o e=>by
 have ne:a≠p:=fun z=>by subst z;rw [n] at e;cases e
 exact (r a o e).mono (mn j) fun B q=>by rw [ah ne];exact q
end
noncomputable def gi (K:Frag) (H:Hp) (p:Addr) (acc:List D):Prop := ∃ vs,H p=some (.lst vs)/\RDs K H acc vs
noncomputable def KC (K:Frag) (p:Addr) (M:Mem) (H:Hp) (N:St->Hp->Prop):NC:=fun ρ' M' acc' => ∀ σ' H',ExtP p M H M' H'->RS K H' σ' ρ'->RM K M' H'->gi K H' p acc'->N σ' H'
noncomputable def lC (K:Frag) (p:Addr) (T:TCd):TC:=fun σ H N => ∃ ρ M acc,RS K H σ ρ /\ RM K M H/\M p=none/\gi K H p acc/\T ρ M acc (KC K p M H N)
theorem KC.ext {K:Frag} {p:Addr} {M M2 M':Mem} {H H2:Hp} {N:St->Hp->Prop} {ρ:aq} {acc:List D} {vs:List V} (n:H p=some (.lst vs)) (j:∃ vs',H2 p=some (.lst vs')) (x:ExtP p M H M2 H2) (h:KC K p M H N ρ M' acc):KC K p M2 H2 N ρ M' acc :=
 fun σ' H' y=>h σ' H' (x.trans n j y)
noncomputable def cn (te:TEd):TCd:=fun ρ M acc N=>te ρ M fun x M1=>acc.length < sizeLine/\N ρ M1 (acc++[x])
noncomputable def bg:List TTd->TCd->TCd
 | [],tb=>tb
 | t::r,tb=>fun ρ M acc N=>t ρ M fun b M1=>if b=true then bg r tb ρ M1 acc N else N ρ M1 acc
noncomputable def bR (b:BT) (tb:TCd) (chk:Mem->Prop) (N:NC):List D->NC
 | [] => fun ρ M acc=>chk M/\N ρ M acc
 | x::xs=>fun ρ M acc=>chk M /\ ∃ ρ',b x ρ = some ρ'/\tb ρ' M acc (bR b tb chk N xs)
noncomputable def df (src:TId) (b:BT) (tb:TCd):TCd:=fun ρ M acc N=>src ρ M fun xs chk M1=>bR b tb chk N xs ρ M1 acc
noncomputable def gj (fr:List (Option Nat)) (src:TId) (b:BT) (tb:TCd):TEd:=fun ρ M Q=>src ρ M fun xs chk M1=>bR b tb chk (fun _ M' acc => ∀ p,M' p=none->Q (.ref p) (af M' p (.lst acc))) xs (jn fr ρ) M1 []
theorem bq {te:TEd} (h:ab te):bQ (cn te):=fun ρ M acc N N' i q=>h _ _ _ _ (fun x n ⟨z,j⟩=>⟨z,i _ _ _ j⟩) q
theorem aM {tb:TCd} (n:bQ tb):∀ {ts:List TTd},(∀ t∈ts,aB t)->bQ (bg ts tb)
 | [],_=>n
 | t::r,h=>fun ρ M acc N N' i q=>h t List.mem_cons_self _ _ _ _ (fun b B j=>by
   cases b with
   | true=>rw [if_pos rfl] at j ⊢;exact aM n (fun t' z=>h t' (List.mem_cons_of_mem _ z)) _ _ _ _ _ i j
   | false=>rw [if_neg Bool.false_ne_true] at j ⊢;exact i _ _ _ j) q
theorem fF {b:BT} {tb:TCd} (n:bQ tb) {chk:Mem->Prop} {N N':NC} (i:∀ ρ' M' acc',N ρ' M' acc'->N' ρ' M' acc'):∀ (xs:List D) (ρ:aq) (M:Mem) (acc:List D),bR b tb chk N xs ρ M acc->bR b tb chk N' xs ρ M acc
 | [], ρ,M,acc,h=>⟨h.1,i _ _ _ h.2⟩
 | x::xs, ρ,M,acc,⟨c, ρ',e,q⟩=>⟨c, ρ',e,n _ _ _ _ _ (fun ρ2 M2 j z=>fF n i xs ρ2 M2 j z) q⟩
theorem gL {src:TId} {b:BT} {tb:TCd} (hs:bP src) (j:bQ tb):bQ (df src b tb):=fun ρ M acc N N' i q=>hs _ _ _ _ (fun xs c z n=>fF j i xs _ _ _ n) q
theorem kc {fr:List (Option Nat)} {src:TId} {b:BT} {tb:TCd} (hs:bP src) (j:bQ tb):ab (gj fr src b tb):=fun ρ M Q Q' i q =>
 hs _ _ _ _ (fun xs c F z=>fF j (fun _ M' acc B p n=>i _ _ (B p n)) xs _ _ _ z) q
section
variable {K:Frag} {p:Addr}
theorem fG {te:TEd} (m:ab te) (σ:St) (H:Hp) (N:St->Hp->Prop) (h:lC K p (cn te) σ H N):xc p (lE K te) σ H N:=by
 obtain ⟨ρ,M,acc,rs,rm,n,⟨vs,J,ra⟩,q⟩:=h
 refine ⟨ρ,M,rs,rm,m _ _ _ _ (fun x R ⟨z,L⟩ v H1 F G I => ?_) q⟩
 have j:=F.keep p _ n J
 have O:=F.new p _ n J
 have st:=F.stab rm
 have B:Stab H1 (upd H1 p (.lst (vs++[v]))):=mn j
 refine ⟨vs,j,by rw [ra.length];exact z,L σ _ ⟨fun a o ne m' e => ?_,F.nw⟩ ((rs.mono st).mono B) (G.side O j) ⟨vs++[v],ar,((ra.mono st).mono B).append (RDs.cons (I.mono B) RDs.nil)⟩⟩
 rw [ah ne]
 exact F.kp a o m' e
theorem iO {tb:TCd} (mb:bQ tb):∀ {ts:List TTd},(∀ t∈ts,aB t) -> ∀ (σ:St) (H:Hp) (N:St->Hp->Prop),lC K p (bg ts tb) σ H N->iw (ts.map (lT K)) (lC K p tb) σ H N
 | [],_, σ,H,N,h=>h
 | t::r,hm, σ,H,N,h=>by
   obtain ⟨ρ,M,acc,rs,rm,n,⟨vs,G,ra⟩,q⟩:=h
   refine ⟨ρ,M,rs,rm,hm t List.mem_cons_self _ _ _ _ (fun b J F H1 z B => ?_) q⟩
   have j:=z.keep p _ n G
   have L:=z.new p _ n G
   have st:=z.stab rm
   cases b with
   | false =>
     rw [if_neg Bool.false_ne_true] at F
     dsimp only
     rw [if_neg Bool.false_ne_true]
     exact F σ H1 z.toP (rs.mono st) B ⟨vs,j,ra.mono st⟩
   | true =>
     rw [if_pos rfl] at F
     dsimp only
     rw [if_pos rfl]
     exact iO mb (fun t' I=>hm t' (List.mem_cons_of_mem _ I)) σ H1 N ⟨ρ,J,acc,rs.mono st,B,L,⟨vs,j,ra.mono st⟩,
      aM mb (fun t' I=>hm t' (List.mem_cons_of_mem _ I)) _ _ _ _ _ (fun ρ' M' acc' k=>k.ext G ⟨vs,j⟩ z.toP) F⟩
theorem ke {b:BT} {tb:TCd} (mb:bQ tb) {xs:List D} {chk:Mem->Prop} {J:It} {H1:Hp} {B:Mem} {Nd:NC} {N:St->Hp->Prop} {σ:St} {ρ:aq} {acc:List D} (it:fE K H1 xs chk J) (rs:RS K H1 σ ρ) (rm:RM K B H1) (n:B p=none)
 (ac:gi K H1 p acc) (q:bR b tb chk Nd xs ρ B acc) (Z:∀ ρ' M' acc' σ' H',ExtP p B H1 M' H'->RS K H' σ' ρ'->RM K M' H'->gi K H' p acc'->Nd ρ' M' acc'->N σ' H') :
 cj J (lG K b) (lC K p tb) N σ H1:=by
 obtain ⟨CC,F,_⟩:=id ac
 refine ⟨fun i m σ H=>m=xs.length - i/\i<=xs.length /\ ∃ ρ M acc,RS K H σ ρ /\ RM K M H/\M p=none/\gi K H p acc/\ExtP p B H1 M H/\bR b tb chk Nd (xs.drop i) ρ M acc,⟨xs.length,by simp,Nat.zero_le _, ρ,B,acc,rs,rm,n,ac,ExtP.refl,q⟩, ?_⟩
 rintro i m σ H ⟨rfl,hi, ρ,M,acc,rs,j,n,ac,x,q⟩
 have st:=x.stab rm F
 obtain ⟨vs,U,ra⟩:=id ac
 by_cases z:i < xs.length
 ·rw [List.drop_eq_getElem_cons z] at q
  obtain ⟨c, ρ',hb,q⟩:=q
  obtain ⟨go,yl⟩:=(it M H st j c i).2 z
  refine .inr ⟨go,fun σ' H' => ∃ m',m' < xs.length - i/\(m'=xs.length - (i+1)/\i+1<=xs.length /\ ∃ ρ M acc,RS K H' σ' ρ /\ RM K M H'/\M p=none/\gi K H' p acc/\ExtP p B H1 M H'/\bR b tb chk Nd (xs.drop (i+1)) ρ M acc),fun σ' H' h=>h,fun x' H' y => ?_⟩
  obtain ⟨yy,d,hd,rd⟩:=yl x' H' y
  rw [List.getElem?_eq_getElem z] at hd
  cases hd
  obtain ⟨xy,rmy⟩:=yy.ext j
  have sty:=xy.stab j
  have G:=xy.keep p _ n U
  refine ⟨_, ρ, ρ',rd,rs.mono sty,hb,fun σ2 L => ?_⟩
  refine ⟨ρ',M,acc,L,rmy,n,⟨vs,G,ra.mono sty⟩,mb _ _ _ _ _ (fun ρ3 Y I q3 σ3 H3 x3 O R S => ?_) q⟩
  have n3:Y p=none:=x3.new p _ n G
  exact ⟨xs.length - (i+1),by lia,rfl,z, ρ3,Y,I,O,R,n3,S,(x.trans F ⟨vs,U⟩ xy.toP).trans F ⟨vs,G⟩ x3,q3⟩
 ·have e:i=xs.length:=by lia
  subst e
  rw [List.drop_length] at q
  exact .inl ⟨(it M H st j q.1 _).1 (Nat.le_refl _),Z ρ M acc σ H x rs j ac q.2⟩
theorem gM {src:TId} {b:BT} {tb:TCd} (ms:bP src) (mb:bQ tb) (σ:St) (H:Hp) (N:St->Hp->Prop) (h:lC K p (df src b tb) σ H N):(lI K src) σ H fun J H1=>cj J (lG K b) (lC K p tb) N σ H1:=by
 obtain ⟨ρ,M,acc,rs,rm,n,⟨vs,B,ra⟩,q⟩:=h
 refine ⟨ρ,M,rs,rm,ms _ _ _ _ (fun xs chk L G J H1 z F it => ?_) q⟩
 have j:=z.keep p _ n B
 have I:=z.new p _ n B
 have st:=z.stab rm
 exact ke mb it (rs.mono st) F I ⟨vs,j,ra.mono st⟩ G fun ρ' M' acc' σ' H' x2 rs' rm' ac' k=>k σ' H' (z.toP.trans B ⟨vs,j⟩ x2) rs' rm' ac'
theorem dJ {fr:List (Option Nat)} {src:TId} {b:BT} {tb:TCd} (ms:bP src) (mb:bQ tb) (σ:St) (H:Hp) (Q:VK) (h:lE K (gj fr src b tb) σ H Q):qd (lI K src) (lG K b) (fun p=>lC K p tb) fr σ H Q:=by
 obtain ⟨ρ,M,rs,rm,q⟩:=h
 refine ⟨ρ,M,rs,rm,ms _ _ _ _ (fun xs chk F L J H1 B j it p n => ?_) q⟩
 have st:=B.stab rm
 have xn:Ext F H1 F (upd H1 p (.lst [])):=Ext.new' n
 have stn:=xn.stab j
 have I:F p=none:=j.out n
 refine ke (p:=p) mb (xs:=xs) (chk:=chk) (fun M' H' st'=>it M' H' ⟨fun a xs e=>st'.tup _ _ (stn.tup _ _ e),fun a o u e=>st'.frz _ _ _ (stn.frz _ _ _ e)⟩) (((rs.mono st).mono stn).inh fr) (j.new n) I ⟨[],ar,RDs.nil⟩ L fun ρ' M' acc' σ' H' G rs' rm' ac' k => ?_
 obtain ⟨vs,O,ra⟩:=ac'
 have n':M' p=none:=G.new p _ I ar
 refine k p n' (.ref p) H' ⟨fun a o m e => ?_,fun a o m e => ?_⟩ (fun a o e => ?_) (RD.ref_iff.mpr rfl)
 ·have e1:=B.kp a o m e
  have ne:a≠p:=fun z=>by subst z;rw [n] at e1;cases e1
  exact G.kp a o ne (by rw [B.nw a o m e];exact m) (by rw [ah ne];exact e1)
 ·have e1:=B.kp a o m e
  have ne:a≠p:=fun z=>by subst z;rw [n] at e1;cases e1
  rw [aR ne]
  exact (G.nw a o (by rw [B.nw a o m e];exact m) (by rw [ah ne];exact e1)).trans (B.nw a o m e)
 ·by_cases z:a=p
  ·subst z
   rw [ae] at e;cases e
   exact ⟨vs,O,ra⟩
  ·rw [aR z] at e
   exact rm' a o e
end
end
section
noncomputable def gk:TSd:=fun D ρ M=>D.nx ρ M
noncomputable def mq (t u:TSd):TSd:=fun D ρ M=>t { D with nx:=u D } ρ M
noncomputable def fH:TSd:=fun D ρ M=>D.bk ρ M
noncomputable def iP:TSd:=fun D ρ M=>D.ct ρ M
noncomputable def iQ (te:TEd):TSd:=fun D ρ M=>te ρ M fun _ M1=>D.nx ρ M1
noncomputable def mv (te:TEd):TSd:=fun D ρ M=>te ρ M D.rt
noncomputable def sIf (c:TTd) (t u:TSd):TSd:=fun D ρ M=>c ρ M fun b M1=>if b=true then t D ρ M1 else u D ρ M1
noncomputable def gX (te:TEd) (b:BT):TSd:=fun D ρ M=>te ρ M fun x M1 => ∃ ρ',b x ρ = some ρ'/\D.nx ρ' M1
noncomputable def mw (ta:TAd) (bs:BTs):TSd:=fun D ρ M=>ta ρ M fun xs M1 => ∃ ρ',bs xs ρ = some ρ'/\D.nx ρ' M1
noncomputable def bp (b:BT) (tb:TSd) (chk:Mem->Prop) (D:bf):List Mi.D->aq->Mem->Prop
 | [] => fun ρ M=>chk M/\D.nx ρ M
 | x::xs=>fun ρ M=>chk M /\ ∃ ρ',b x ρ = some ρ'/\tb { D with nx:=bp b tb chk D xs,ct:=bp b tb chk D xs,bk:=D.nx } ρ' M
noncomputable def mz (src:TId) (b:BT) (tb:TSd):TSd:=fun D ρ M=>src ρ M fun xs chk M1=>bp b tb chk D xs ρ M1
noncomputable def b8 (c:TTd) (tb:TSd) (D:bf):Nat->aq->Mem->Prop
 | 0=>fun _ _=>False
 | n+1=>fun ρ M=>c ρ M fun b M1=>if b=true then tb { D with nx:=b8 c tb D n,ct:=b8 c tb D n,bk:=D.nx } ρ M1 else D.nx ρ M1
noncomputable def fI (c:TTd) (tb:TSd):TSd:=fun D ρ M => ∃ n,b8 c tb D n ρ M
theorem kf:aC gk:=fun _ _ _ _ h q=>h.nx _ _ q
theorem qo:aC fH:=fun _ _ _ _ h q=>h.bk _ _ q
theorem sB:aC iP:=fun _ _ _ _ h q=>h.ct _ _ q
theorem sC {t u:TSd} (j:aC t) (n:aC u):aC (mq t u):=fun a b ρ M h q=>j { a with nx:=u a } { b with nx:=u b } _ _ ⟨fun ρ' M' q'=>n _ _ _ _ h q',h.rt,h.bk,h.ct⟩ q
theorem sD {te:TEd} (h:ab te):aC (iQ te):=fun a b ρ M i q=>h _ _ _ _ (fun _ n j=>i.nx _ _ j) q
theorem vx {te:TEd} (h:ab te):aC (mv te):=fun a b ρ M i q=>h _ _ _ _ (fun d n j=>i.rt _ _ j) q
theorem vy {c:TTd} {t u:TSd} (n:aB c) (z:aC t) (B:aC u):aC (sIf c t u):=fun a b ρ M i q=>n _ _ _ _ (fun k F j=>by
 cases k with
 | true=>rw [if_pos rfl] at j ⊢;exact z _ _ _ _ i j
 | false=>rw [if_neg Bool.false_ne_true] at j ⊢;exact B _ _ _ _ i j) q
theorem vz {te:TEd} {bt:BT} (h:ab te):aC (gX te bt):=fun a b ρ M i q=>h _ _ _ _ (fun d n ⟨ρ',e,j⟩=>⟨ρ',e,i.nx _ _ j⟩) q
theorem vA {ta:TAd} {bs:BTs} (h:aY ta):aC (mw ta bs):=fun a b ρ M i q=>h _ _ _ _ (fun d n ⟨ρ',e,j⟩=>⟨ρ',e,i.nx _ _ j⟩) q
theorem fJ {bt:BT} {tb:TSd} (j:aC tb) {chk:Mem->Prop} {a b:bf} (i:LeD a b):∀ (xs:List D) (ρ:aq) (M:Mem),bp bt tb chk a xs ρ M->bp bt tb chk b xs ρ M
 | [], ρ,M,h=>⟨h.1,i.nx _ _ h.2⟩
 | x::xs, ρ,M,⟨c, ρ',e,q⟩=>⟨c, ρ',e,j { a with nx:=bp bt tb chk a xs,ct:=bp bt tb chk a xs,bk:=a.nx } { b with nx:=bp bt tb chk b xs,ct:=bp bt tb chk b xs,bk:=b.nx } _ _ ⟨fun ρ2 M2 n=>fJ j i xs ρ2 M2 n,i.rt,i.nx,fun ρ2 M2 n=>fJ j i xs ρ2 M2 n⟩ q⟩
theorem vB {src:TId} {bt:BT} {tb:TSd} (hs:bP src) (j:aC tb):aC (mz src bt tb):=fun a b ρ M i q=>hs _ _ _ _ (fun xs c z n=>fJ j i xs _ _ n) q
theorem dR {c:TTd} {tb:TSd} (q:aB c) (z:aC tb) {a b:bf} (i:LeD a b):∀ (n:Nat) (ρ:aq) (M:Mem),b8 c tb a n ρ M->b8 c tb b n ρ M
 | 0, ρ,M,h=>h
 | n+1, ρ,M,h=>q _ _ _ _ (fun k F j=>by
   cases k with
   | true=>rw [if_pos rfl] at j ⊢;exact z { a with nx:=b8 c tb a n,ct:=b8 c tb a n,bk:=a.nx } { b with nx:=b8 c tb b n,ct:=b8 c tb b n,bk:=b.nx } _ _ ⟨fun ρ2 M2 B=>dR q z i n ρ2 M2 B,i.rt,i.nx,fun ρ2 M2 B=>dR q z i n ρ2 M2 B⟩ j
   | false=>rw [if_neg Bool.false_ne_true] at j ⊢;exact i.nx _ _ j) h
theorem qp {c:TTd} {tb:TSd} (j:aB c) (z:aC tb):aC (fI c tb):=fun a b ρ M i ⟨n,q⟩=>⟨n,dR j z i n _ _ q⟩
section
variable {K:Frag}
theorem kg (D:bu) (σ:St) (H:Hp) (h:lS K gk D σ H):pT D σ H:=by
 obtain ⟨ρ,M,A,rs,rm,l,q⟩:=h
 exact l.nx ρ M σ H Ext.refl rs rm q
theorem qq (D:bu) (σ:St) (H:Hp) (h:lS K fH D σ H):rf D σ H:=by
 obtain ⟨ρ,M,A,rs,rm,l,q⟩:=h
 exact l.bk ρ M σ H Ext.refl rs rm q
theorem sF (D:bu) (σ:St) (H:Hp) (h:lS K iP D σ H):wL D σ H:=by
 obtain ⟨ρ,M,A,rs,rm,l,q⟩:=h
 exact l.ct ρ M σ H Ext.refl rs rm q
theorem vC {t u:TSd} (mt:aC t) (mu:aC u) (D:bu) (σ:St) (H:Hp) (h:lS K (mq t u) D σ H):zR (lS K t) (lS K u) D σ H:=by
 obtain ⟨ρ,M,A,rs,rm,l,q⟩:=h
 exact ⟨ρ,M, { A with nx:=u A },rs,rm,⟨fun ρ' M' σ' H' x rs' rm' q'=>⟨ρ',M',A,rs',rm',l.ext x,q'⟩,l.rt,l.bk,l.ct⟩,q⟩
theorem sH {te:TEd} (m:ab te) (D:bu) (σ:St) (H:Hp) (h:lS K (iQ te) D σ H):wM (lE K te) D σ H:=by
 obtain ⟨ρ,M,A,rs,rm,l,q⟩:=h
 exact ⟨ρ,M,rs,rm,m _ _ _ _ (fun d z B v H1 n j F=>l.nx ρ z σ H1 n (rs.mono (n.stab rm)) j B) q⟩
theorem vD {te:TEd} (m:ab te) (D:bu) (σ:St) (H:Hp) (h:lS K (mv te) D σ H):zS (lE K te) D σ H:=by
 obtain ⟨ρ,M,A,rs,rm,l,q⟩:=h
 exact ⟨ρ,M,rs,rm,m _ _ _ _ (fun d z B v H1 F j n=>l.rt d z v H1 F j n B) q⟩
theorem yD {c:TTd} {t u:TSd} (mc:aB c) (D:bu) (σ:St) (H:Hp) (h:lS K (sIf c t u) D σ H):zU (lT K c) (lS K t) (lS K u) D σ H:=by
 obtain ⟨ρ,M,A,rs,rm,l,q⟩:=h
 refine ⟨ρ,M,rs,rm,mc _ _ _ _ (fun k B n H1 z j => ?_) q⟩
 cases k with
 | true=>rw [if_pos rfl] at n ⊢;exact ⟨ρ,B,A,rs.mono (z.stab rm),j,l.ext z,n⟩
 | false=>rw [if_neg Bool.false_ne_true] at n ⊢;exact ⟨ρ,B,A,rs.mono (z.stab rm),j,l.ext z,n⟩
theorem vE {te:TEd} {b:BT} (m:ab te) (D:bu) (σ:St) (H:Hp) (h:lS K (gX te b) D σ H):pU (lE K te) (lG K b) D σ H:=by
 obtain ⟨ρ,M,A,rs,rm,l,q⟩:=h
 refine ⟨ρ,M,rs,rm,m _ _ _ _ (fun d B ⟨ρ',e,F⟩ v H1 z j n => ?_) q⟩
 exact ⟨d, ρ, ρ',n,rs.mono (z.stab rm),e,fun σ' rs'=>l.nx ρ' B σ' H1 z rs' j F⟩
theorem kh {te:TEd} {i:Nat} (m:ab te) (D:bu) (σ:St) (H:Hp) (h:lS K (gX te (bn i)) D σ H):pU (lE K te) (ig i) D σ H:=by
 obtain ⟨ρ,M,A,rs,rm,l,q⟩:=h
 refine ⟨ρ,M,rs,rm,m _ _ _ _ (fun d n ⟨ρ',e,z⟩ v H1 j rm1 rd1 => ?_) q⟩
 cases e
 exact l.nx _ n _ H1 j ((rs.mono (j.stab rm)).set i rd1) rm1 z
theorem vF {src:TId} {b:BT} {tb:TSd} (ms:bP src) (mb:aC tb) (D:bu) (σ:St) (H:Hp) (h:lS K (mz src b tb) D σ H):A0 (lI K src) (lG K b) (lS K tb) D σ H:=by
 obtain ⟨ρ,M,A,rs,rm,l,q⟩:=h
 refine ⟨ρ,M,rs,rm,ms _ _ _ _ (fun xs chk S q1 J H1 Y F it => ?_) q⟩
 refine ⟨fun i m σ H'=>m=xs.length - i/\i<=xs.length /\ ∃ ρ M2,RS K H' σ ρ /\ RM K M2 H'/\Ext S H1 M2 H'/\bp b tb chk A (xs.drop i) ρ M2,⟨xs.length,by simp,Nat.zero_le _, ρ,S,rs.mono (Y.stab rm),F,Ext.refl,q1⟩, ?_⟩
 rintro i m σ2 H2 ⟨rfl,hi, ρ2,M2,G,j,U,I⟩
 have L:=U.stab F
 by_cases z:i < xs.length
 ·rw [List.drop_eq_getElem_cons z] at I
  obtain ⟨c, ρ',hb,q3⟩:=I
  obtain ⟨go,yl⟩:=(it M2 H2 L j c i).2 z
  refine .inr ⟨go,fun σ' H' => ∃ m',m' < xs.length - i/\(m'=xs.length - (i+1)/\i+1<=xs.length /\ ∃ ρ M,RS K H' σ' ρ /\ RM K M H'/\Ext S H1 M H'/\bp b tb chk A (xs.drop (i+1)) ρ M),fun σ' H' h=>h,fun x' H' y => ?_⟩
  obtain ⟨yy,d,hd,rd⟩:=yl x' H' y
  rw [List.getElem?_eq_getElem z] at hd
  cases hd
  obtain ⟨xy,rmy⟩:=yy.ext j
  have O:=Y.trans (U.trans xy)
  refine ⟨_, ρ2, ρ',rd,G.mono (xy.stab j),hb,fun σ3 Z => ?_⟩
  have nx:∀ ρ5 B σ5 n,Ext M2 H' B n->RS K n σ5 ρ5->RM K B n->bp b tb chk A (xs.drop (i+1)) ρ5 B -> ∃ m',m' < xs.length - i/\(m'=xs.length - (i+1)/\i+1<=xs.length /\ ∃ ρ M,RS K n σ5 ρ /\ RM K M n/\Ext S H1 M n/\bp b tb chk A (xs.drop (i+1)) ρ M) :=
   fun ρ5 B σ5 n R CC CD q5=>⟨xs.length - (i+1),by lia,rfl,z, ρ5,B,CC,CD,(U.trans xy).trans R,q5⟩
  refine ⟨ρ',M2, { A with nx:=bp b tb chk A (xs.drop (i+1)),ct:=bp b tb chk A (xs.drop (i+1)),bk:=A.nx },Z,rmy,⟨nx,fun d B v n R=>l.rt d B v n (O.trans R),fun ρ5 B σ5 n R=>l.nx ρ5 B σ5 n (O.trans R),nx⟩,q3⟩
 ·have e:i=xs.length:=by lia
  subst e
  rw [List.drop_length] at I
  exact .inl ⟨(it M2 H2 L j I.1 _).1 (Nat.le_refl _),l.nx ρ2 M2 σ2 H2 (Y.trans U) G j I.2⟩
theorem qr {c:TTd} {tb:TSd} (mc:aB c) (mb:aC tb) (D:bu) (σ:St) (H:Hp) (h:lS K (fI c tb) D σ H):rh (lT K c) (lS K tb) D σ H:=by
 obtain ⟨ρ,M,A,rs,rm,l,n,q⟩:=h
 refine ⟨fun m σ' H' => ∃ ρ' M',RS K H' σ' ρ'/\RM K M' H'/\Ext M H M' H'/\b8 c tb A m ρ' M',⟨n, ρ,M,rs,rm,Ext.refl,q⟩, ?_⟩
 rintro m σ1 H1 ⟨ρ1,M1,I,J,x1,Y⟩
 cases m with
 | zero=>exact Y.elim
 | succ m =>
   refine ⟨ρ1,M1,I,J,mc _ _ _ _ (fun k M2 S H2 Z L => ?_) Y⟩
   have j:=x1.trans Z
   have O:=I.mono (Z.stab J)
   cases k with
   | false=>rw [if_neg Bool.false_ne_true] at S;dsimp only;rw [if_neg Bool.false_ne_true];exact l.nx ρ1 M2 σ1 H2 j O L S
   | true =>
     rw [if_pos rfl] at S
     dsimp only
     rw [if_pos rfl]
     refine ⟨fun σ' H' => ∃ ρ' M',RS K H' σ' ρ'/\RM K M' H'/\Ext M H M' H'/\b8 c tb A m ρ' M',fun σ' H' h=>⟨m,Nat.lt_succ_self m,h⟩, ρ1,M2, { A with nx:=b8 c tb A m,ct:=b8 c tb A m,bk:=A.nx },O,L,⟨?_,fun d z v R B=>l.rt d z v R (j.trans B),fun ρ5 z σ5 R B=>l.nx ρ5 z σ5 R (j.trans B), ?_⟩,S⟩
     ·exact fun ρ5 z σ5 R B F G U=>⟨ρ5,z,F,G,j.trans B,U⟩
     ·exact fun ρ5 z σ5 R B F G U=>⟨ρ5,z,F,G,j.trans B,U⟩
end
noncomputable def eS:D->D->D->Mem->(Mem->Prop)->Prop:=fun o i v M Q => ∃ a,o = .ref a /\
 ((∃ xs k j,i = .int k/\M a=some (.lst xs)/\ixN xs.length k=some j/\Q (af M a (.lst (xs.set j v)))) ∨
  ∃ t kvs,M a=some (.dct t kvs)/\gb t i=true/\kvs.length < sizeLine/\Q (af M a (.dct t (cb kvs i v))))
noncomputable def mC (te to ti:TEd):TSd:=fun D ρ M=>te ρ M fun v M1=>to ρ M1 fun o M2=>ti ρ M2 fun i M3=>eS o i v M3 fun M4=>D.nx ρ M4
theorem ki {o i v:D} {M:Mem} {Q Q':Mem->Prop} (h:∀ M',Q M'->Q' M') (q:eS o i v M Q):eS o i v M Q':=by
 obtain ⟨a,e,⟨xs,k,j,e1,e2,n,q⟩ | ⟨t,kvs,e1,e2,n,q⟩⟩:=q
 ·exact ⟨a,e, .inl ⟨xs,k,j,e1,e2,n,h _ q⟩⟩
 ·exact ⟨a,e, .inr ⟨t,kvs,e1,e2,n,h _ q⟩⟩
theorem vG {te to ti:TEd} (he:ab te) (ho:ab to) (hi:ab ti):aC (mC te to ti):=fun a b ρ M i q =>
 he _ _ _ _ (fun v B j=>ho _ _ _ _ (fun o M2 n=>hi _ _ _ _ (fun k F z=>ki (fun M' q'=>i.nx _ _ q') z) n) j) q
section
variable {X:Cx} {K:Frag}
theorem mD (j:X.A.units+1 < cLine):PSet X (fun o i v H Q => ∃ a H',o = .ref a/\DPut H a i v H'/\Q H'):=by
 intro pins s σ H o i v ov iv u Q I ro ri rv h
 obtain ⟨a,H',rfl,g,q⟩:=h
 cases ro
 exact rP j I g ri rv fun s' I'=>⟨H',I',q⟩
theorem PSet.or {t t':jg} (h:PSet X t) (h':PSet X t'):PSet X (fun o i v H Q=>t o i v H Q∨t' o i v H Q):=by
 intro pins s σ H o i v ov iv u Q I ro ri rv q
 rcases q with q | q
 ·exact h pins s σ H o i v ov iv u Q I ro ri rv q
 ·exact h' pins s σ H o i v ov iv u Q I ro ri rv q
section
variable {κ:Type} [DecidableEq κ] {H:Hp} {RK:D -> κ -> Prop} (inj:∀ {d e:D} {k : κ},RK d k->RK e k->d=e) (fn:∀ {d:D} {k k' : κ},RK d k->RK d k'->k=k')
include inj fn
theorem oM {k:D} {q : κ} (j:RK k q):∀ {kvs:List (D×D)} {ps:List (κ × V)},Paired (fun p r=>RK p.1 r.1/\RD K H p.2 r.2) kvs ps ->
 (kvs.any fun p=>decide (p.1=k))=(ps.any fun p=>decide (p.1=q))
 | _,_, .nil=>rfl
 | _,_, .cons (a:=p) (b:=r) hr t=>by
   rw [List.any_cons,List.any_cons,oM j t]
   congr 1
   by_cases e:p.1=k
   ·have e':r.1=q:=by have h1:=hr.1;rw [e] at h1;exact fn h1 j
    rw [decide_eq_true e,decide_eq_true e']
   ·have e' : ¬ r.1=q:=fun z=>e (by have h1:=hr.1;rw [z] at h1;exact inj h1 j)
    rw [decide_eq_false e,decide_eq_false e']
theorem oO {k:D} {q : κ} (n:RK k q) {d:D} {v:V} (B:RD K H d v):∀ {kvs:List (D×D)} {ps:List (κ × V)},Paired (fun p r=>RK p.1 r.1/\RD K H p.2 r.2) kvs ps ->
 Paired (fun p r=>RK p.1 r.1/\RD K H p.2 r.2) (kvs.map fun p=>if p.1=k then (p.1,d) else p) (ps.map fun p=>if p.1=q then (p.1,v) else p)
 | _,_, .nil => .nil
 | _,_, .cons (a:=p) (b:=r) j t=>by
   refine .cons ?_ (oO n B t)
   by_cases e:p.1=k
   ·have e':r.1=q:=by have h1:=j.1;rw [e] at h1;exact fn h1 n
    dsimp only
    rw [if_pos e,if_pos e']
    exact ⟨j.1,B⟩
   ·have e' : ¬ r.1=q:=fun z=>e (by have h1:=j.1;rw [z] at h1;exact inj h1 n)
    dsimp only
    rw [if_neg e,if_neg e']
    exact j
theorem gY {k:D} {q : κ} (j:RK k q) {d:D} {v:V} (n:RD K H d v) {kvs:List (D×D)} {ps:List (κ × V)} (r:Paired (fun p r=>RK p.1 r.1/\RD K H p.2 r.2) kvs ps) :
 Paired (fun p r=>RK p.1 r.1/\RD K H p.2 r.2) (cb kvs k d) (ba ps q v):=by
 unfold cb ba
 rw [oM (K:=K) (H:=H) (RK:=RK) inj fn j r]
 by_cases e:(ps.any fun p=>decide (p.1=q))=true
 ·rw [if_pos e,if_pos e]
  exact oO (RK:=RK) inj fn j n r
 ·rw [if_neg e,if_neg e]
  exact r.snoc ⟨j,n⟩
end
theorem mF {M:Mem} {H:Hp} {o i v:D} {ov iv vv:V} {Qd:Mem->Prop} {Q:Hp->Prop} (rm:RM K M H) (ro:RD K H o ov) (ri:RD K H i iv) (rv:RD K H v vv) (h:eS o i v M Qd) (G:∀ M' H',Ext M H M' H'->RM K M' H'->Qd M'->Q H') :
 wV ov iv vv H Q ∨ ∃ a H',ov = .ref a/\DPut H a iv vv H'/\Q H':=by
 obtain ⟨a,rfl,⟨xs,k,j,rfl,e2,F,q⟩ | ⟨t,kvs,e1,e2,F,q⟩⟩:=h
 ·cases RD.ref_iff.mp ro
  cases RD.int_iff.mp ri
  obtain ⟨vs,L,rs⟩:=rm _ _ e2
  have st:Stab H (upd H a (.lst (vs.set j vv))):=rm.stabPut e2
  exact .inl ⟨a,vs,k,j,rfl,rfl,L,by rw [rs.length];exact F,G _ _ (Ext.put e2) (rm.put (o := .lst (xs.set j v)) e2 ⟨_,ar,(rs.set j rv).mono st⟩) q⟩
 ·cases RD.ref_iff.mp ro
  have ro':=rm _ _ e1
  cases t with
  | false =>
    obtain ⟨ps,I,pr⟩:=ro'
    obtain ⟨kq,B⟩:=lu (show eL i=true from e2)
    have st:Stab H (upd H a (.dK (ba ps kq vv))):=rm.stabPut e1
    have n:=gY (RK:=RKey) RKey.inj RKey.fun B rv pr
    rw [jt B ri]
    refine .inr ⟨a,_,rfl,DPut.k I (by rw [<- Paired.length pr];exact F),G _ _ (Ext.put e1) (rm.put (o := .dct false (cb kvs i v)) e1 ⟨_,ar,Paired.mapP n fun _ _ z=>⟨z.1,z.2.mono st⟩⟩) q⟩
  | true =>
    obtain ⟨ps,I,pr⟩:=ro'
    obtain ⟨kq,B⟩:=jm (show bV i=true from e2)
    have st:Stab H (upd H a (.dT (ba ps kq vv))):=rm.stabPut e1
    have n:=gY (RK:=RKeys) RKeys.inj RKeys.fun B rv pr
    cases i <;> first
     | exact B.elim
     | (obtain ⟨b,us,rfl,J,ru⟩:=RD.tup_iff.mp ri
        rw [eM B ru] at J
        exact .inr ⟨a,_,rfl,DPut.t I J (by rw [<- Paired.length pr];exact F),G _ _ (Ext.put e1) (rm.put (o := .dct true (cb kvs _ v)) e1 ⟨_,ar,Paired.mapP n fun _ _ z=>⟨z.1,z.2.mono st⟩⟩) q⟩)
theorem AG {o i e:Expr} {te to ti:TEd} {pos tpos:Pos} (U:X.A.units+1 < cLine) (me:ab te) (mo:ab to) (mi:ab ti) (he:PE X e (lE X.K te)) (ho:PE X o (lE X.K to)) (hi:PE X i (lE X.K ti))
 (hs:swapsWithSole [.Subscript o i tpos] e pos.line X.env=pure false) (hw:swappedStores [.Subscript o i tpos] e X.env=pure none)
 (Y:∀ v,assign (.Subscript o i tpos) X.env v=(do
   let ov <- holding [v] (eval o X.env)
   let iv <- holding [v,ov] (eval i X.env)
   standAt tpos
   holding [v,ov,iv] (setItem ov iv v)
   release [v,ov,iv] [])):PS X (.Assign [.Subscript o i tpos] e pos) (lS X.K (mC te to ti)):=by
 refine PS.imp (rg he (zW ho hi (PSet.or lg (mD U)) Y) hs hw rfl) fun D σ H h => ?_
 obtain ⟨ρ,M,A,rs,rm,l,q⟩:=h
 refine ⟨ρ,M,rs,rm,me _ _ _ _ (fun v Z q1 vv H1 B j F => ?_) q⟩
 refine ⟨ρ,Z,rs.mono (B.stab rm),j,mo _ _ _ _ (fun ov M2 q2 vo H2 G n I => ?_) q1⟩
 refine ⟨ρ,M2,(rs.mono (B.stab rm)).mono (G.stab j),n,mi _ _ _ _ (fun iv M3 q3 vi H3 J L O => ?_) q2⟩
 have z:=B.trans (G.trans J)
 exact mF L (I.mono (J.stab n)) O ((F.mono (G.stab j)).mono (J.stab n)) q3 fun M' H' S R q4=>l.nx ρ M' σ H' (z.trans S) (rs.mono ((z.trans S).stab rm)) R q4
noncomputable def kR:R2d
 | .int i, .int j,M,Q=>Q (.int (i+j)) M
 | _,_,_,_=>False
noncomputable def kS:R2d
 | .int i, .int j,M,Q=>Q (.int (i - j)) M
 | _,_,_,_=>False
noncomputable def kT:R2d
 | .int i, .int j,M,Q=>MulOk i j/\Q (.int (i*j)) M
 | _,_,_,_=>False
theorem kj:aD kR:=by
 intro x y M Q Q' h q
 cases x <;> cases y <;> first | exact q.elim | exact h _ _ q
theorem kl:aD kS:=by
 intro x y M Q Q' h q
 cases x <;> cases y <;> first | exact q.elim | exact h _ _ q
theorem km:aD kT:=by
 intro x y M Q Q' h q
 cases x <;> cases y <;> first | exact q.elim | exact ⟨q.1,h _ _ q.2⟩
theorem sJ:OpR X (inplaceOp .Add) (l2 X.K kR):=by
 refine OpR.of xR fun v u H Q h => ?_
 obtain ⟨x,y,M,rm,rx,ry,q⟩:=h
 cases x <;> cases y <;> first
  | exact q.elim
  | (cases RD.int_iff.mp rx;cases RD.int_iff.mp ry;exact ⟨_,_,rfl,rfl,q _ H Ext.refl rm (RD.int_iff.mpr rfl)⟩)
theorem sK:OpR X (inplaceOp .Sub) (l2 X.K kS):=by
 refine OpR.of xS fun v u H Q h => ?_
 obtain ⟨x,y,M,rm,rx,ry,q⟩:=h
 cases x <;> cases y <;> first
  | exact q.elim
  | (cases RD.int_iff.mp rx;cases RD.int_iff.mp ry;exact ⟨_,_,rfl,rfl,q _ H Ext.refl rm (RD.int_iff.mpr rfl)⟩)
theorem sL:OpR X (inplaceOp .Mult) (rI MulOk fun i j => .int (i*j)):=opI fun _ _ _ _ _ _ _ n q=>imul_int q n.ok
theorem sM:OpR X (inplaceOp .Mult) (l2 X.K kT):=by
 refine OpR.of sL fun v u H Q h => ?_
 obtain ⟨x,y,M,rm,rx,ry,q⟩:=h
 cases x <;> cases y <;> first
  | exact q.elim
  | (cases RD.int_iff.mp rx;cases RD.int_iff.mp ry;exact ⟨_,_,rfl,rfl,q.1,q.2 _ H Ext.refl rm (RD.int_iff.mpr rfl)⟩)
end
end
end Mi
end L2
namespace L2
open PySem PySem.Spec PyProof.Rows
namespace Mi
variable {K:Frag}
theorem sN {ta:TAd} {i j:Nat} (m:aY ta) (D:bu) (σ:St) (H:Hp) (h:lS K (mw ta (bv (bn i) (bv (bn j) eQ))) D σ H):zX i j (lA K ta) D σ H:=by
 obtain ⟨ρ,M,A,rs,rm,l,q⟩:=h
 refine ⟨ρ,M,rs,rm,m _ _ _ _ (fun ds F ⟨ρ',e,G⟩ vs H1 B z n => ?_) q⟩
 match ds,e,n with
 | [d1,d2],e,n =>
  obtain ⟨v,u,rfl,I,J⟩:=n.two
  simp only [bv,bn,eQ,Option.bind_some,Option.some.injEq] at e
  subst e
  exact ⟨v,u,rfl,l.nx _ F _ H1 B (((rs.mono (B.stab rm)).set i I).set j J) z G⟩
end Mi
end L2
namespace L2
open PySem PySem.Spec PyProof.Rows
section
section
variable {X:Cx}
theorem ax:zZ X (fun o i H Q => ∃ a xs k x,o = .ref a/\i = .int k/\SqL X.K H a xs/\atI xs k=some x/\Q x H):=by
 intro pins s σ H o i ov iv Q I ro ri h
 obtain ⟨a,xs,k,x,rfl,rfl,sq,he,q⟩:=h
 cases ro
 obtain ⟨t,rfl⟩:=ri
 obtain ⟨its,r,pl,G⟩:=I.list sq
 obtain ⟨j,h1,h2,J,z,B⟩:=jh he
 obtain ⟨w,ew,rw'⟩:=r.get h2
 have F:=r.length
 have L:=dX
 have fin:EP X pins σ Q w s:=⟨x,H,I,rw',q⟩
 by_cases h0 : 0<=k
 ·have n:k.toNat=j:=Option.some.inj (by rw [<- h1,seqIndex_of h0 B])
  exact wpAny_getItem_list pl.isList h0 (by lia) (by rw [n];simpa using ew) fin
 ·have n:(k+(its.toArray.size:Int)).toNat=j:=by
   rw [List.size_toArray, <- F]
   exact Option.some.inj (by rw [<- h1,seqIndex_neg (by lia) z])
  exact wpAny_getItem_list_neg pl.isList (by lia) (by rw [List.size_toArray];lia) (by lia) (by rw [n];simpa using ew) fin
end
namespace Mi
section
variable {X:Cx}
noncomputable def xi:R2d:=fun x y M Q => ∃ a ds k d,x = .ref a/\y = .int k/\M a=some (.lst ds)/\atI ds k=some d/\Q d M
theorem sP:aD xi:=fun _ _ _ _ _ h ⟨a,ds,k,d,e1,e2,j,n,q⟩=>⟨a,ds,k,d,e1,e2,j,n,h _ _ q⟩
noncomputable def iR (to ti te:TEd) (rd:R2d):TSd:=fun D ρ M=>to ρ M fun o M1=>ti ρ M1 fun i M2=>xi o i M2 fun x M3=>te ρ M3 fun y M4=>rd x y M4 fun z M5=>eS o i z M5 fun M6=>D.nx ρ M6
theorem sQ {to ti te:TEd} {rd:R2d} (ho:ab to) (hi:ab ti) (he:ab te) (j:aD rd):aC (iR to ti te rd):=fun a b ρ M l q =>
 ho _ _ _ _ (fun o L n=>hi _ _ _ _ (fun i M2 B=>sP _ _ _ _ _ (fun x O F=>he _ _ _ _ (fun y R G=>j _ _ _ _ _ (fun z S I=>ki (fun U J=>l.nx _ _ J) I) G) F) B) n) q
theorem jy {o i e:Expr} {to ti te:TEd} {op:Operator} {rd:R2d} {pos tpos:Pos} (hu:X.A.units+1 < cLine) (mo:ab to) (mi:ab ti) (me:ab te) (hr:aD rd) (ho:PE X o (lE X.K to)) (hi:PE X i (lE X.K ti)) (he:PE X e (lE X.K te)) (G:OpR X (inplaceOp op) (l2 X.K rd))
 (ha:∀ ov iv new,augStore i ov iv new=(do holding [new,ov,iv] (setItem ov iv new);release [new,ov,iv] [];pure .next)):PS X (.AugAssign (.Subscript o i tpos) op e pos) (lS X.K (iR to ti te rd)):=by
 refine PS.imp (xQ ho hi ax he (tip:=l2 X.K rd) G (PSet.or lg (mD hu)) ha) fun D σ H h => ?_
 obtain ⟨ρ,M,A,rs,rm,l,q⟩:=h
 refine ⟨ρ,M,rs,rm,mo _ _ _ _ (fun d1 M1 q1 v1 H1 x1 j I => ?_) q⟩
 have z:=rs.mono (x1.stab rm)
 refine ⟨ρ,M1,z,j,mi _ _ _ _ (fun d2 M2 q2 v2 H2 J n L => ?_) q1⟩
 have O:=z.mono (J.stab j)
 have B:=I.mono (J.stab j)
 obtain ⟨a,ds,k,d,rfl,rfl,e3,e4,q3⟩:=q2
 cases RD.ref_iff.mp B
 cases RD.int_iff.mp L
 obtain ⟨vs,R,rv⟩:=n _ _ e3
 obtain ⟨v3,S,U⟩:=iC rv e4
 refine ⟨a,vs,k,v3,rfl,rfl,SqL.of R,S, ?_⟩
 refine ⟨ρ,M2,O,n,me _ _ _ _ (fun d4 M4 q4 v4 H4 x4 Y Z => ?_) q3⟩
 refine ⟨d,d4,M4,Y,U.mono (x4.stab n),Z,hr _ _ _ _ _ (fun d5 M5 q5 v5 H5 x5 CC CD => ?_) q4⟩
 have F:=((x1.trans J).trans x4).trans x5
 exact mF CC (RD.ref_iff.mpr rfl) (RD.int_iff.mpr rfl) CD q5 fun M' H' x6 CF q6=>l.nx ρ M' σ H' (F.trans x6) (rs.mono ((F.trans x6).stab rm)) CF q6
end
section
section
variable {X:Cx}
noncomputable def mG:D->Option Bool
 | .bl b=>some b
 | .int i=>some (i != 0)
 | _=>none
noncomputable def qt:RAd:=fun xs M Q => ∃ x ds ts,xs=[x]/\au M x=some ds/\aJ mG ds=some ts/\Q (.bl (ts.all id)) M
theorem mH:aV qt:=fun _ _ _ _ h ⟨x,ds,ts,e,e1,e2,q⟩=>⟨x,ds,ts,e,e1,e2,h _ _ q⟩
theorem mJ {α β:Type} {f : α -> Option β}:∀ {xs:List α} {ys:List β},aJ f xs=some ys->ys.length=xs.length /\ ∀ (i:Nat) x,xs[i]? = some x -> ∃ y,ys[i]? = some y/\f x=some y
 | [],ys,h=>by cases h;exact ⟨rfl,fun i x e=>by simp at e⟩
 | x::xs,ys,h=>by
   simp only [aJ] at h
   cases e1:f x with
   | none=>rw [e1] at h;cases h
   | some y =>
     rw [e1] at h
     simp only [Option.bind_some] at h
     cases e2:aJ f xs with
     | none=>rw [e2] at h;cases h
     | some r =>
       rw [e2] at h;cases h
       obtain ⟨l,g⟩:=mJ e2
       refine ⟨by simp [l],fun i z e => ?_⟩
       cases i with
       | zero=>simp at e;subst e;exact ⟨y,rfl,e1⟩
       | succ i=>simp at e;simpa using g i z e
theorem yE {P:Program} {w:World} {A:Around} {E:Value->Shared->Prop} {s:Shared} {K:Frag} {H:Hp} {d:D} {v:V} {u:Value} {b:Bool} {Q:Bool->Shared->Prop} (e:mG d=some b) (rd:RD K H d v) (ru:RelV v u) (q:Q b s):wpAny (model P w) A (truthy u) Q E s:=by
 cases d with
 | bl c=>cases RD.bl_iff.mp rd;cases ru;cases e;exact wpAny_truthy_bool q
 | int i=>cases RD.int_iff.mp rd;obtain ⟨t,rfl⟩:=ru;cases e;exact PyProof.Rows.truthy_int q
 | _=>cases e
theorem range_all {ts:List Bool}:(List.range ts.length).all (fun i=>ts.getD i false)=ts.all id/\(List.range ts.length).any (fun i=>ts.getD i false)=ts.any id:=by
 have e:(List.range ts.length).map (fun i=>ts.getD i false)=ts:=by
  apply List.ext_getElem
  ·simp
  ·intro i h1 h2;simp [List.getD_eq_getElem?_getD,List.getElem?_eq_getElem h2]
 constructor
 ·conv=>rhs;rw [<- e]
  rw [List.all_map];rfl
 ·conv=>rhs;rw [<- e]
  rw [List.any_map];rfl
theorem vH (J:X.calm=true) {pins:List (Addr×Obj)} {s:Shared} {σ:St} {H:Hp} {M:Mem} {x:D} {ds:List D} {ts:List Bool} {v:V} {u:Value} {Q:Value->Shared->Prop} {g:List Bool->Bool} (I:Inv X pins σ H s) (rm:RM X.K M H) (rd:RD X.K H x v) (ru:RelV v u) (e1:au M x=some ds) (e2:aJ mG ds=some ts)
 (fin:∀ h' tk,Inv X pins σ H { s with heap:=h',toks:=tk }->Q (.bool (g ts)) { s with heap:=h',toks:=tk })
 (gg:Nat->(Nat->Bool)->Bool) (L:gg ts.length (fun i=>ts.getD i false)=g ts) :
 wpAny (model X.prog X.w) X.A.in1 (pyIter u) (fun it s₂ => ∃ I fp wr n P St tr,it = .ref I/\Walks X.prog X.w X.A.in1 I fp wr n P St/\St 0 s₂.heap/\TruthOf X.prog X.w X.A.in1 P tr /\
  ∀ h' tk,(∀ b o,b∉wr->s₂.heap.get? b=some o->h'.get? b=some o)->Q (.bool (gg n tr)) { s₂ with heap:=h',toks:=tk }) X.xe s:=by
 obtain ⟨p,vs,rfl,sq,O⟩:=lP rm rd e1
 cases ru
 obtain ⟨lt,get⟩:=mJ e2
 have lv:=O.length
 have tr:∀ (its:List Value),Vals vs its->TruthOf X.prog X.w X.A.in1 (fun i w=>its.toArray[i]? = some w) (fun i=>ts.getD i false):=by
  intro its rv i w s' Q' E' R B
  have q:its[i]? = some w:=by simpa using R
  have li:=rv.length
  have hi:i < its.length:=(List.getElem?_eq_some_iff.mp q).1
  obtain ⟨d,hd⟩:∃ d,ds[i]? = some d:=⟨ds[i]'(by lia),List.getElem?_eq_getElem (by lia)⟩
  obtain ⟨v',F,rd'⟩:=O.get hd
  obtain ⟨u',z,ru'⟩:=rv.get F
  rw [q] at z;cases z
  obtain ⟨b,S,eb⟩:=get i d hd
  have:ts.getD i false=b:=by rw [List.getD_eq_getElem?_getD,S];rfl
  have B:Q' (ts.getD i false) s':=B
  rw [this] at B
  exact yE eb rd' ru' B
 rcases sq with sq | sq
 ·obtain ⟨its,rv,pl,U⟩:=I.list sq
  have li:=rv.length
  have j:p < s.heap.objs.size:=by obtain ⟨o,n,e,_⟩:=pl;exact Heap.lt_size e
  refine wpAny_pyIter_list pl.isList ⟨s.heap.objs.size,_,_,_,_,_,_,rfl,Walks.list (by rw [Around.in1_handled];exact I.ok.hd J) s.heap.objs.size p (Nat.ne_of_lt j) its.toArray,⟨⟨_,Heap.get?_push_size _ rfl,rfl,rfl⟩,pl.isList.at fun o e=>Heap.get?_push_of_some _ e⟩,tr its rv,fun h' tk k => ?_⟩
  have G:its.toArray.size=ts.length:=by rw [List.size_toArray];lia
  rw [G,L]
  exact fin h' tk (I.kept (t':=tk) fun b o e=>k b o (by simp;exact Nat.ne_of_lt (Heap.lt_size e)) (Heap.get?_push_of_some _ e))
 ·obtain ⟨its,rv,pl,U⟩:=I.tuple sq
  have li:=rv.length
  have j:p < s.heap.objs.size:=by obtain ⟨o,e,_⟩:=pl;exact Heap.lt_size e
  have pt:s.heap.IsTuple p its.toArray:=pl
  refine wpAny_pyIter_tuple pt ⟨s.heap.objs.size,_,_,_,_,_,_,rfl,Walks.tuple (by rw [Around.in1_handled];exact I.ok.hd J) s.heap.objs.size p (Nat.ne_of_lt j) its.toArray,⟨⟨_,Heap.get?_push_size _ rfl,rfl,rfl⟩,pt.push _⟩,tr its rv,fun h' tk k => ?_⟩
  have G:its.toArray.size=ts.length:=by rw [List.size_toArray];lia
  rw [G,L]
  exact fin h' tk (I.kept (t':=tk) fun b o e=>k b o (by simp;exact Nat.ne_of_lt (Heap.lt_size e)) (Heap.get?_push_of_some _ e))
theorem qu (j:X.calm=true):CallR X (.builtin "all") (lR X.K qt):=by
 intro pins s σ H xs us Q I rv h
 obtain ⟨ds,M,rm,rs,x,es,ts,rfl,e1,e2,q⟩:=h
 obtain ⟨v,rfl,r⟩:=rs.one
 obtain ⟨u,rfl,ru⟩:=dG rv
 exact call_all_walk (vH j I rm r ru e1 e2 (g:=fun ts=>ts.all id) (fun h' tk I'=>⟨.bl _,H,I',rfl,q _ H Ext.refl rm (RD.bl_iff.mpr rfl)⟩) (fun n tr=>(List.range n).all tr) range_all.1)
noncomputable def iS (t:Bool):TEd:=fun _ M Q => ∀ p,M p=none->Q (.ref p) (af M p (.dct t []))
theorem sR {t:Bool}:ab (iS t):=fun _ _ _ _ i q p n=>i _ _ (q p n)
theorem yF {t:Bool} {pos:Pos}:PE X (.Dict [] [] pos) (lE X.K (iS t)):=by
 cases t with
 | false =>
   refine PE.imp uO fun σ H Q ⟨ρ,M,rs,rm,q⟩ p n => ?_
   exact q p (rm.out n) (.ref p) _ (Ext.lay n) (rm.lay n ⟨[],ar, .nil⟩) (RD.ref_iff.mpr rfl)
 | true =>
   refine PE.imp uP fun σ H Q ⟨ρ,M,rs,rm,q⟩ p n => ?_
   exact q p (rm.out n) (.ref p) _ (Ext.lay n) (rm.lay n ⟨[],ar, .nil⟩) (RD.ref_iff.mpr rfl)
end
end
end Mi
end
end L2
namespace L2
namespace Srt
open PySem PySem.Spec PyProof.Rows
structure Cm (prog:Program) (w:World) (A:Around) (s:Shared) (kd:SortKind) (P:Keyed->Prop) (lt:Keyed->Keyed->Bool):Prop where
 asym:∀ x y,lt x y=true->lt y x=false
 neg:∀ x y z,lt x z=true->lt x y=true∨lt y z=true
 run:∀ (x y:Keyed) (E:Value->Shared->Prop) (Q:Bool->Shared->Prop),P x->P y->Q (lt x y) s->wpAny (PySem.model prog w) A (keyLt' kd x.1 y.1) Q E s
section
variable {prog:Program} {w:World} {A:Around} {E:Value->Shared->Prop} {s:Shared} {kd:SortKind} {P:Keyed->Prop} {lt:Keyed->Keyed->Bool}
theorem aa {σ α:Type} {M:Model} {x : α} {st : σ} {Q : α -> σ -> Prop} (q:Q x st):wpS M A E s (pure x) Q st :=
 fun _ _ _=>⟨rfl,q⟩
theorem cw {σ:Type} {M:Model} {tag:String} {st : σ} {Q:Unit -> σ -> Prop} (q:Q () st):wpS M A E s (liftM (PySem.rule tag)) Q st :=
 wpS_lift (wpAny_rule ⟨rfl,q⟩)
theorem yG {σ:Type} {M:Model} {st st' : σ} {Q:PUnit -> σ -> Prop} (q:Q PUnit.unit st'):wpS M A E s (set st') Q st :=
 fun _ _ _=>⟨rfl,q⟩
theorem iT (c:Cm prog w A s kd P lt) {x y:Keyed} {st:SortSt} {Q:Option Bool->SortSt->Prop} (j:kindOf st=kd) (hx:P x) (n:P y) (q:Q (some (lt x y)) st):wpS (PySem.model prog w) A E s (lt' x y) Q st:=by
 rw [lt'_eq]
 refine wpS_bind (wpS_get ?_)
 refine wpS_bind (wpS_lift ?_)
 rw [j]
 intro Γ p hp
 rw [Sem.wp_attempt]
 exact c.run x y (fun e s'=>s'=s/\wpS (PySem.model prog w) A E s (do modify fun s=>SortSt.mk' (kindOf s) (arrOf s) (pendingOf s) (gallopOf s) (some e);pure none) Q st) (fun b s'=>s'=s/\wpS (PySem.model prog w) A E s (pure (some b)) Q st) hx n ⟨rfl,aa q⟩ Γ p hp
theorem ay {arr:Array Keyed} {i:Nat} {x:Keyed} {st:SortSt} {Q:Keyed->SortSt->Prop} (h:arr[i]? = some x) (q:Q x st):wpS (PySem.model prog w) A E s (elem' arr i) Q st:=by
 rw [elem'_eq,h]
 exact aa q
theorem Cm.le_trans (c:Cm prog w A s kd P lt) {x y z:Keyed} (h:lt y x=false) (h2:lt z y=false):lt z x=false:=by
 cases e:lt z x with
 | false=>rfl
 | true=>rcases c.neg z y x e with q | q <;> simp_all
theorem Cm.irr (c:Cm prog w A s kd P lt) {x:Keyed}:lt x x=false:=by
 cases e:lt x x with
 | false=>rfl
 | true=>have:=c.asym x x e;rw [e] at this;exact this
theorem az {σ α:Type} {M:Model} {m:StateT σ Sem α} {st : σ} {Q Q' : α -> σ -> Prop} (h:wpS M A E s m Q st) (q:∀ a st',Q a st'->Q' a st'):wpS M A E s m Q' st :=
 wpAny_mono h (fun a s' z=>⟨z.1,q _ _ z.2⟩) fun _ _ z=>z
end
noncomputable abbrev AH:=Bool->Keyed->Array Keyed->Nat->Nat->Nat->StateT SortSt Sem (Option Nat)
noncomputable abbrev AI:=Array Keyed->Array Keyed->StateT SortSt Sem (Array Keyed)
noncomputable def bey (lt:Keyed->Keyed->Bool) (left:Bool) (key x:Keyed):Bool:=if left=true then lt x key else !(lt key x)
structure Same (st st':SortSt):Prop where
 arr:arrOf st'=arrOf st
 kind:kindOf st'=kindOf st
 pend:pendingOf st'=pendingOf st
 fail:failedOf st'=failedOf st
noncomputable def gm (prog:Program) (w:World) (A:Around) (E:Value->Shared->Prop) (s:Shared) (kd:SortKind) (P:Keyed->Prop) (lt:Keyed->Keyed->Bool) (g:AH):Prop :=
 ∀ (left:Bool) (key:Keyed) (arr:Array Keyed) (L xs R:List Keyed) (base n hint:Nat) (st:SortSt) (Q:Option Nat->SortSt->Prop),kindOf st=kd->P key->arr.toList=L++xs++R->base=L.length->n=xs.length->(∀ x∈xs,P x)->hint < n ->
  xs.Pairwise (fun x y=>lt y x=false) ->
  (∀ X Y,xs=X++Y->(∀ x∈X,bey lt left key x=true)->(∀ x∈Y,bey lt left key x=false)->Q (some X.length) st) ->
  wpS (PySem.model prog w) A E s (g left key arr base n hint) Q st
noncomputable def gn (prog:Program) (w:World) (A:Around) (E:Value->Shared->Prop) (s:Shared) (kd:SortKind) (P:Keyed->Prop) (lt:Keyed->Keyed->Bool) (m:AI):Prop :=
 ∀ (a b:Array Keyed) (st:SortSt) (Q:Array Keyed->SortSt->Prop),kindOf st=kd->(∀ x∈a.toList,P x)->(∀ x∈b.toList,P x)->0 < a.size->0 < b.size ->
  a.toList.Pairwise (fun x y=>lt y x=false)->b.toList.Pairwise (fun x y=>lt y x=false)->(∀ x y,a[0]? = some x->b[0]? = some y->lt x y=false)->(∀ x y,a[a.size - 1]? = some x->b[b.size - 1]? = some y->lt x y=false) ->
  (∀ r st',r.toList.Perm (a.toList++b.toList)->r.toList.Pairwise (fun x y=>lt y x=false)->Same st st'->Q r st') ->
  wpS (PySem.model prog w) A E s (m a b) Q st
section
variable {prog:Program} {w:World} {A:Around} {E:Value->Shared->Prop} {s:Shared} {kd:SortKind} {P:Keyed->Prop} {lt:Keyed->Keyed->Bool}
theorem fK (c:Cm prog w A s kd P lt) {left:Bool} {key x:Keyed} {arr:Array Keyed} {j:Nat} {st:SortSt} {Q:Option Bool->SortSt->Prop} (n:kindOf st=kd) (hx:P key) (z:P x) (e:arr[j]? = some x) (q:Q (some (bey lt left key x)) st) :
 wpS (PySem.model prog w) A E s (do
  let x <- elem' arr j
  if left=true then lt' x key else do
   let r <- lt' key x
   pure (Option.map (fun x => !x) r)) Q st:=by
 refine wpS_bind (ay e ?_)
 cases left with
 | true=>exact iT c n z hx q
 | false=>exact wpS_bind (iT c n hx z (aa q))
theorem mK (c:Cm prog w A s kd P lt) {left:Bool} {key x y:Keyed} (h:lt y x=false) (j:bey lt left key y=true):bey lt left key x=true:=by
 unfold bey at j ⊢
 cases left with
 | true =>
   rw [if_pos rfl] at j ⊢
   rcases c.neg y x key j with q | q
   ·rw [h] at q;cases q
   ·exact q
 | false =>
   simp at j ⊢
   cases e:lt key x with
   | false=>rfl
   | true =>
     rcases c.neg key y x e with q | q
     ·rw [j] at q;cases q
     ·rw [h] at q;cases q
structure Gal (lt:Keyed->Keyed->Bool) (left:Bool) (key:Keyed) (xs:List Keyed) (lo hi:Nat):Prop where
 le:lo<=hi
 len:hi<=xs.length
 up:∀ i x,i < lo->xs[i]? = some x->bey lt left key x=true
 dn:∀ i x,hi<=i->xs[i]? = some x->bey lt left key x=false
theorem eh {xs:List Keyed} {R:Keyed->Keyed->Prop} (h:xs.Pairwise R) {i j:Nat} {x y:Keyed} (n:i < j) (hx:xs[i]? = some x) (q:xs[j]? = some y):R x y:=by
 obtain ⟨h1,e1⟩:=List.getElem?_eq_some_iff.mp hx
 obtain ⟨h2,e2⟩:=List.getElem?_eq_some_iff.mp q
 rw [<- e1, <- e2]
 exact List.pairwise_iff_getElem.mp h i j h1 h2 n
theorem gp (c:Cm prog w A s kd P lt) {left:Bool} {key:Keyed} {xs:List Keyed} (h:xs.Pairwise (fun x y=>lt y x=false)) {j:Nat} {y:Keyed} (n:xs[j]? = some y) (q:bey lt left key y=true):∀ i x,i < j+1->xs[i]? = some x->bey lt left key x=true:=by
 intro i x hi hx
 by_cases e:i=j
 ·subst e;rw [hx] at n;cases n;exact q
 ·exact mK c (eh h (by lia) hx n) q
theorem gu (c:Cm prog w A s kd P lt) {left:Bool} {key:Keyed} {xs:List Keyed} (h:xs.Pairwise (fun x y=>lt y x=false)) {j:Nat} {y:Keyed} (n:xs[j]? = some y) (z:bey lt left key y=false):∀ i x,j<=i->xs[i]? = some x->bey lt left key x=false:=by
 intro i x hi hx
 by_cases e:i=j
 ·subst e;rw [hx] at n;cases n;exact z
 ·cases q:bey lt left key x with
  | false=>rfl
  | true=>have:=mK c (eh h (by lia) n hx) q;rw [z] at this;cases this
theorem Gal.out {left:Bool} {key:Keyed} {xs:List Keyed} {k:Nat} (g:Gal lt left key xs k k):∃ X Y,xs=X++Y/\X.length=k/\(∀ x∈X,bey lt left key x=true)/\(∀ x∈Y,bey lt left key x=false):=by
 refine ⟨xs.take k,xs.drop k,(List.take_append_drop k xs).symm,by rw [List.length_take];exact Nat.min_eq_left g.len,fun x hx => ?_,fun x hx => ?_⟩
 ·obtain ⟨i,hi,e⟩:=List.mem_iff_getElem.mp hx
  rw [List.length_take] at hi
  exact g.up i x (by lia) (by rw [List.getElem_take] at e;rw [<- e];exact List.getElem?_eq_getElem _)
 ·obtain ⟨i,hi,e⟩:=List.mem_iff_getElem.mp hx
  rw [List.length_drop] at hi
  refine g.dn (k+i) x (by lia) ?_
  rw [List.getElem_drop] at e
  rw [<- e];exact List.getElem?_eq_getElem _
noncomputable abbrev Ord (lt:Keyed->Keyed->Bool) (l:List Keyed):Prop:=l.Pairwise fun x y=>lt y x=false
theorem mL {out X A' B:List Keyed} (h1:Ord lt (out++(X++A'))) (h2:Ord lt (out++B)) (h:∀ x∈X, ∀ y∈B,lt y x=false):Ord lt ((out++X)++A')/\Ord lt ((out++X)++B):=by
 refine ⟨by rw [List.append_assoc];exact h1, ?_⟩
 rw [List.append_assoc]
 obtain ⟨j,n,q⟩:=List.pairwise_append.mp h1
 obtain ⟨J,p2,F⟩:=List.pairwise_append.mp h2
 obtain ⟨G,L,O⟩:=List.pairwise_append.mp n
 refine List.pairwise_append.mpr ⟨j,List.pairwise_append.mpr ⟨G,p2,h⟩,fun x hx y I => ?_⟩
 rcases List.mem_append.mp I with z | z
 ·exact q x hx y (List.mem_append_left _ z)
 ·exact F x hx y z
structure ML (lt:Keyed->Keyed->Bool) (la lb out:List Keyed) (ia ib:Nat):Prop where
 pa:Ord lt (out++la.drop ia)
 pb:Ord lt (out++lb.drop ib)
 pm:(out++(la.drop ia++lb.drop ib)).Perm (la++lb)
theorem oP (c:Cm prog w A s kd P lt) {l:List Keyed} {i:Nat} {x y:Keyed} (h:Ord lt (l.drop i)) (j:l[i]? = some y) (hx:lt y x=false):∀ z∈l.drop i,lt z x=false:=by
 obtain ⟨hi,e⟩:=List.getElem?_eq_some_iff.mp j
 rw [List.drop_eq_getElem_cons hi,e] at h ⊢
 intro z n
 rcases List.mem_cons.mp n with q | q
 ·rw [q];exact hx
 ·exact c.le_trans hx ((List.pairwise_cons.mp h).1 z q)
theorem dz {l X Y:List Keyed} {i:Nat} (e:l.drop i=X++Y):l.drop (i+X.length)=Y:=by
 rw [<- List.drop_drop,e,List.drop_left]
theorem ML.galA (c:Cm prog w A s kd P lt) {la lb out X Y:List Keyed} {ia ib:Nat} {y:Keyed} (m:ML lt la lb out ia ib) (e:la.drop ia=X++Y) (j:lb[ib]? = some y) (h:∀ x∈X,lt y x=false):ML lt la lb (out++X) (ia+X.length) ib:=by
 have p2:=(List.pairwise_append.mp m.pb).2.1
 have q:=mL (X:=X) (A':=Y) (by rw [<- e];exact m.pa) m.pb fun x hx=>oP c p2 j (h x hx)
 refine ⟨by rw [dz e];exact q.1,q.2, ?_⟩
 rw [dz e]
 refine List.Perm.trans (List.Perm.of_eq ?_) m.pm
 rw [e];simp
theorem ML.galB (c:Cm prog w A s kd P lt) {la lb out X Y:List Keyed} {ia ib:Nat} {y:Keyed} (m:ML lt la lb out ia ib) (e:lb.drop ib=X++Y) (j:la[ia]? = some y) (h:∀ x∈X,lt y x=false):ML lt la lb (out++X) ia (ib+X.length):=by
 have p2:=(List.pairwise_append.mp m.pa).2.1
 have q:=mL (X:=X) (A':=Y) (by rw [<- e];exact m.pb) m.pa fun x hx=>oP c p2 j (h x hx)
 refine ⟨q.2,by rw [dz e];exact q.1, ?_⟩
 rw [dz e]
 refine List.Perm.trans ?_ m.pm
 rw [e,List.append_assoc]
 refine List.Perm.append_left _ ?_
 rw [<- List.append_assoc, <- List.append_assoc]
 exact List.Perm.append_right _ List.perm_append_comm
theorem dA {l:List Keyed} {i:Nat} {x:Keyed} (h:l[i]? = some x):l.drop i=[x]++l.drop (i+1):=by
 obtain ⟨hi,e⟩:=List.getElem?_eq_some_iff.mp h
 rw [List.drop_eq_getElem_cons hi,e];rfl
theorem ML.pushA (c:Cm prog w A s kd P lt) {la lb out:List Keyed} {ia ib:Nat} {x y:Keyed} (m:ML lt la lb out ia ib) (hx:la[ia]? = some x) (j:lb[ib]? = some y) (h:lt y x=false):ML lt la lb (out++[x]) (ia+1) ib :=
 m.galA c (dA hx) j (by simpa using h)
theorem ML.pushB (c:Cm prog w A s kd P lt) {la lb out:List Keyed} {ia ib:Nat} {x y:Keyed} (m:ML lt la lb out ia ib) (hx:la[ia]? = some x) (j:lb[ib]? = some y) (h:lt x y=false):ML lt la lb (out++[y]) ia (ib+1) :=
 m.galB c (dA j) hx (by simpa using h)
noncomputable def Res (lt:Keyed->Keyed->Bool) (la lb r:List Keyed):Prop:=r.Perm (la++lb)/\Ord lt r
theorem ML.fin {la lb out:List Keyed} {ia ib:Nat} (m:ML lt la lb out ia ib) (h:lb.length<=ib):Res lt la lb (out++la.drop ia++lb.drop ib):=by
 rw [List.drop_eq_nil_of_le h,List.append_nil]
 refine ⟨?_,m.pa⟩
 have:=m.pm
 rw [List.drop_eq_nil_of_le h,List.append_nil] at this
 exact this
theorem ML.finE {la lb out:List Keyed} {ia ib:Nat} (m:ML lt la lb out ia ib) (h:la.length<=ia):Res lt la lb (out++la.drop ia++lb.drop ib):=by
 rw [List.drop_eq_nil_of_le h,List.append_nil]
 refine ⟨?_,m.pb⟩
 have:=m.pm
 rw [List.drop_eq_nil_of_le h,List.nil_append] at this
 exact this
theorem ML.finA {la lb out:List Keyed} {ia ib:Nat} (m:ML lt la lb out ia ib) (h:∀ x∈lb, ∀ y∈la.drop ia,lt y x=false):Res lt la lb (out++lb.drop ib++la.drop ia):=by
 refine ⟨?_, ?_⟩
 ·refine List.Perm.trans ?_ m.pm
  rw [List.append_assoc]
  exact List.Perm.append_left _ List.perm_append_comm
 ·obtain ⟨B,n,q⟩:=List.pairwise_append.mp m.pa
  refine List.pairwise_append.mpr ⟨m.pb,n,fun x hx y j => ?_⟩
  rcases List.mem_append.mp hx with z | z
  ·exact q x z y j
  ·exact h x (List.mem_of_mem_drop z) y j
theorem ML.size {la lb out:List Keyed} {ia ib:Nat} (m:ML lt la lb out ia ib) (j:ia<=la.length) (n:ib<=lb.length):out.length=ia+ib:=by
 have:=m.pm.length_eq
 simp only [List.length_append,List.length_drop] at this
 lia
theorem ax {a:Array Keyed} {i:Nat} (h:i < a.size):∃ x,a[i]? = some x/\a.toList[i]? = some x/\x∈a.toList:=by
 refine ⟨a[i],Array.getElem?_eq_getElem h, ?_,Array.getElem_mem_toList h⟩
 rw [Array.getElem?_toList];exact Array.getElem?_eq_getElem h
theorem bw {a:Array Keyed} {i:Nat}:(a.extract i).toList=a.toList.drop i:=by
 rw [Array.toList_extract]
 simp only [List.extract]
 exact List.take_of_length_le (by simp)
theorem yH {a:Array Keyed} {i:Nat} {X Y:List Keyed} (e:a.toList.drop i=X++Y):(a.extract i (i+X.length)).toList=X:=by
 rw [Array.toList_extract]
 simp [List.extract,e]
theorem Same.refl {st:SortSt}:Same st st:=⟨rfl,rfl,rfl,rfl⟩
theorem Same.trans {a b c:SortSt} (h:Same a b) (g:Same b c):Same a c:=⟨g.arr.trans h.arr,g.kind.trans h.kind,g.pend.trans h.pend,g.fail.trans h.fail⟩
theorem kn {O Y A' B:List Keyed} (h1:Ord lt (A'++(Y++O))) (h2:Ord lt (B++O)) (h:∀ y∈Y, ∀ x∈B,lt y x=false):Ord lt (B++(Y++O)):=by
 obtain ⟨G,j,I⟩:=List.pairwise_append.mp h1
 obtain ⟨n,p2,q⟩:=List.pairwise_append.mp h2
 refine List.pairwise_append.mpr ⟨n,j,fun x hx y F => ?_⟩
 rcases List.mem_append.mp F with z | z
 ·exact h y z x hx
 ·exact q x hx y z
structure MH (lt:Keyed->Keyed->Bool) (la lb out:List Keyed) (na nb:Nat):Prop where
 pa:Ord lt (la.take na++out.reverse)
 pb:Ord lt (lb.take nb++out.reverse)
 pm:(la.take na++lb.take nb++out.reverse).Perm (la++lb)
theorem gv (c:Cm prog w A s kd P lt) {l:List Keyed} {n:Nat} {x y:Keyed} (h:Ord lt (l.take n)) (G : 0 < n) (B:l[n - 1]? = some y) (hx:lt x y=false):∀ z∈l.take n,lt x z=false:=by
 intro z F
 obtain ⟨i,hi,e⟩:=List.mem_iff_getElem.mp F
 have j:(l.take n)[i]? = some z:=by rw [<- e];exact List.getElem?_eq_getElem hi
 have q:(l.take n)[n - 1]? = some y:=by rw [List.getElem?_take_of_lt (by lia)];exact B
 rw [List.length_take] at hi
 by_cases hin:i=n - 1
 ·subst hin;rw [q] at j;cases j;exact hx
 ·exact c.le_trans (eh h (by lia) j q) hx
theorem dB {l X Y:List Keyed} {n:Nat} (e:l.take n=X++Y):l.take X.length=X:=by
 have h:X.length<=n:=by
  have:=congrArg List.length e
  simp only [List.length_take,List.length_append] at this;lia
 have h2:(l.take n).take X.length=X:=by rw [e,List.take_left]
 rw [List.take_take,Nat.min_eq_left h] at h2
 exact h2
theorem MH.galA (c:Cm prog w A s kd P lt) {la lb out X Y:List Keyed} {na nb:Nat} {y:Keyed} (m:MH lt la lb out na nb) (e:la.take na=X++Y) (j : 0 < nb) (n:lb[nb - 1]? = some y) (h:∀ x∈Y,lt x y=false):MH lt la lb (out++Y.reverse) X.length nb:=by
 have p2:=(List.pairwise_append.mp m.pb).1
 have h1:Ord lt (X++(Y++out.reverse)):=by rw [<- List.append_assoc, <- e];exact m.pa
 have q:=kn h1 m.pb fun x hx=>gv c p2 j n (h x hx)
 refine ⟨by rw [dB e];simpa using h1,by simpa using q, ?_⟩
 rw [dB e]
 refine List.Perm.trans ?_ m.pm
 rw [e]
 simp only [List.reverse_append,List.reverse_reverse,List.append_assoc]
 refine List.Perm.append_left _ ?_
 rw [<- List.append_assoc, <- List.append_assoc]
 exact List.Perm.append_right _ List.perm_append_comm
theorem MH.galB (c:Cm prog w A s kd P lt) {la lb out X Y:List Keyed} {na nb:Nat} {y:Keyed} (m:MH lt la lb out na nb) (e:lb.take nb=X++Y) (j : 0 < na) (n:la[na - 1]? = some y) (h:∀ x∈Y,lt x y=false):MH lt la lb (out++Y.reverse) na X.length:=by
 have p2:=(List.pairwise_append.mp m.pa).1
 have h1:Ord lt (X++(Y++out.reverse)):=by rw [<- List.append_assoc, <- e];exact m.pb
 have q:=kn h1 m.pa fun x hx=>gv c p2 j n (h x hx)
 refine ⟨by simpa using q,by rw [dB e];simpa using h1, ?_⟩
 rw [dB e]
 refine List.Perm.trans (List.Perm.of_eq ?_) m.pm
 rw [e];simp
theorem cy {l:List Keyed} {n:Nat} {x:Keyed} (j : 0 < n) (h:l[n - 1]? = some x):l.take n=l.take (n - 1)++[x]:=by
 obtain ⟨k,rfl⟩:∃ k,n=k+1:=⟨n - 1,by lia⟩
 rw [Nat.add_sub_cancel] at h ⊢
 rw [List.take_add_one,h];rfl
theorem oQ {l:List Keyed} {n:Nat} {x:Keyed} (j : 0 < n) (h:l[n - 1]? = some x):(l.take (n - 1)).length=n - 1:=by
 obtain ⟨hi,_⟩:=List.getElem?_eq_some_iff.mp h
 rw [List.length_take];lia
theorem MH.pushA (c:Cm prog w A s kd P lt) {la lb out:List Keyed} {na nb:Nat} {x y:Keyed} (m:MH lt la lb out na nb) (j : 0 < na) (n : 0 < nb) (hx:la[na - 1]? = some x) (z:lb[nb - 1]? = some y) (h:lt x y=false):MH lt la lb (out++[x]) (na - 1) nb:=by
 have q:=m.galA c (cy j hx) n z (by simpa using h)
 rw [oQ j hx] at q
 simpa using q
theorem MH.pushB (c:Cm prog w A s kd P lt) {la lb out:List Keyed} {na nb:Nat} {x y:Keyed} (m:MH lt la lb out na nb) (z : 0 < na) (j : 0 < nb) (hx:la[na - 1]? = some x) (n:lb[nb - 1]? = some y) (h:lt y x=false):MH lt la lb (out++[y]) na (nb - 1):=by
 have q:=m.galB c (cy j n) z hx (by simpa using h)
 rw [oQ j n] at q
 simpa using q
theorem MH.fin {la lb out:List Keyed} {na nb:Nat} (m:MH lt la lb out na nb) (h:na=0∨nb=0):Res lt la lb (la.take na++lb.take nb++out.reverse):=by
 refine ⟨m.pm, ?_⟩
 rcases h with rfl | rfl
 ·simpa using m.pb
 ·simpa using m.pa
theorem MH.finB {la lb out:List Keyed} {na nb:Nat} (m:MH lt la lb out na nb) (h:∀ x∈lb.take nb, ∀ y∈la,lt y x=false):Res lt la lb (lb.take nb++la.take na++out.reverse):=by
 refine ⟨List.Perm.trans (List.Perm.append_right _ List.perm_append_comm) m.pm, ?_⟩
 obtain ⟨j,B,n⟩:=List.pairwise_append.mp m.pb
 rw [List.append_assoc]
 refine List.pairwise_append.mpr ⟨j,m.pa,fun x hx y q => ?_⟩
 rcases List.mem_append.mp q with z | z
 ·exact h x hx y (List.mem_of_mem_take z)
 ·exact n x hx y z
theorem MH.size {la lb out:List Keyed} {na nb:Nat} (m:MH lt la lb out na nb) (j:na<=la.length) (n:nb<=lb.length):out.length+na+nb=la.length+lb.length:=by
 have:=m.pm.length_eq
 simp only [List.length_append,List.length_take,List.length_reverse] at this
 lia
theorem dL {a:Array Keyed}:a.toList.take a.size=a.toList:=List.take_of_length_le (by simp)
theorem b7 {a:Array Keyed} {i:Nat}:(a.extract 0 i).toList=a.toList.take i:=by
 rw [Array.toList_extract];simp [List.extract]
theorem vI {a:Array Keyed} {n:Nat} {X Y:List Keyed} (e:a.toList.take n=X++Y):(a.extract X.length n).toList=Y:=by
 rw [Array.toList_extract]
 simp only [List.extract]
 rw [<- List.drop_take,e,List.drop_left]
theorem vJ:∀ (m old L R:List Keyed) (a:Array Keyed),a.toList=L++old++R->m.length=old.length->(List.foldl (fun a x=>a.setIfInBounds (L.length+x.snd) x.fst) a m.zipIdx).toList=L++m++R:=by
 have g:∀ (m old L R:List Keyed) (k:Nat) (a:Array Keyed),a.toList=L++old++R->m.length=old.length -> ∀ b:Nat,b+k=L.length->(List.foldl (fun a x=>a.setIfInBounds (b+x.snd) x.fst) a (m.zipIdx k)).toList=L++m++R:=by
  intro m
  induction m with
  | nil =>
    intro old L R k a e h b j
    have:old=[]:=List.length_eq_zero_iff.mp h.symm
    subst this
    simpa using e
  | cons x m ih =>
    intro old L R k a e h b j
    cases old with
    | nil=>simp at h
    | cons y old =>
      rw [List.zipIdx_cons,List.foldl_cons]
      have e2:(a.setIfInBounds (b+k) x).toList=(L++[x])++old++R:=by
       rw [Array.toList_setIfInBounds,e,j]
       simp
      have:=ih old (L++[x]) R (k+1) _ e2 (by simpa using h) b (by simp;lia)
      rw [this];simp
 exact fun m old L R a e h=>g m old L R 0 a e h L.length (by lia)
theorem ad {σ α:Type} {M:Model} {p:Prop} [Decidable p] {j n:StateT σ Sem α} {st : σ} {Q : α -> σ -> Prop} (h1:p->wpS M A E s j Q st) (h2 : ¬p->wpS M A E s n Q st):wpS M A E s (if p then j else n) Q st:=by
 split
 ·next h=>exact h1 h
 ·next h=>exact h2 h
theorem ML.cut {a out:Array Keyed} {la lb X Y:List Keyed} {i j n:Nat} (m:ML lt la lb (out.toList++X) i j) (e:a.toList.drop n=X++Y):ML lt la lb (out++a.extract n (n+X.length)).toList i j:=by
 rw [Array.toList_append,yH e];exact m
theorem MH.cut {a out:Array Keyed} {la lb X Y:List Keyed} {i j n:Nat} (m:MH lt la lb (out.toList++Y.reverse) i j) (e:a.toList.take n=X++Y):MH lt la lb (out++(a.extract X.length n).reverse).toList i j:=by
 rw [Array.toList_append,Array.toList_reverse,vI e];exact m
theorem sU {σ α:Type} {M:Model} {m:StateT σ Sem α} {st : σ} {Q : α -> σ -> Prop} {P : σ -> Prop} (j:P st) (h:∀ st',P st'->wpS M A E s m Q st'):wpS M A E s m Q st:=h st j
theorem xj {σ α:Type} {M:Model} {m:StateT σ Sem α} {st : σ} {Q : α -> σ -> Prop} (h:∀ Q' : α -> σ -> Prop,(∀ a st',Q a st'->Q' a st')->wpS M A E s m Q' st):wpS M A E s m Q st:=h Q fun _ _ h=>h
theorem xk {key x:Keyed} (h:bey lt false key x=true):lt key x=false:=by simpa [bey] using h
theorem sV {key x:Keyed} (h:bey lt false key x=false):lt key x=true:=by simpa [bey] using h
theorem xm {key x:Keyed} (h:bey lt true key x=true):lt x key=true:=by simpa [bey] using h
theorem sW {key x:Keyed} (h:bey lt true key x=false):lt x key=false:=by simpa [bey] using h
theorem mM {l X Y:List Keyed} {i:Nat} {x:Keyed} (e:l.drop i=X++Y) (h:l[i+X.length]? = some x):x∈Y:=by
 rw [<- dz e,dA h];simp
theorem mN {l X Y:List Keyed} {n:Nat} {x:Keyed} (e:l.take n=X++Y) (h0 : 0 < X.length) (h:l[X.length - 1]? = some x):x∈X:=by
 have:=cy h0 h
 rw [dB e] at this
 rw [this];simp
theorem mP {a:Array Keyed} {X Y:List Keyed} {i:Nat} (e:a.toList.drop i=X++Y):X.length<=a.size - i:=by
 have:=congrArg List.length e
 simp at this;lia
theorem ko {a:Array Keyed} {X Y:List Keyed} {n:Nat} (e:a.toList.take n=X++Y) (h:n<=a.size):X.length+Y.length=n:=by
 have:=congrArg List.length e
 simp at this;lia
theorem eT {a:Array Keyed} {n:Nat} (h:n<=a.size):n=(a.toList.take n).length:=by simp;lia
theorem ML.finR {a b out:Array Keyed} {ia ib:Nat} (m:ML lt a.toList b.toList out.toList ia ib) (h:b.size<=ib):Res lt a.toList b.toList (out++a.extract ia++b.extract ib).toList:=by
 have:=m.fin (by simpa using h)
 simpa only [Array.toList_append,bw] using this
theorem ML.finS {a b out:Array Keyed} {ia ib:Nat} (m:ML lt a.toList b.toList out.toList ia ib) (h:a.size<=ia):Res lt a.toList b.toList (out++a.extract ia++b.extract ib).toList:=by
 have:=m.finE (by simpa using h)
 simpa only [Array.toList_append,bw] using this
theorem ML.finL {a b out:Array Keyed} {ia ib:Nat} (m:ML lt a.toList b.toList out.toList ia ib) (h:∀ x∈b.toList, ∀ y∈a.toList.drop ia,lt y x=false):Res lt a.toList b.toList (out++b.extract ib++a.extract ia).toList:=by
 have:=m.finA h
 simpa only [Array.toList_append,bw] using this
theorem MH.finR {a b out:Array Keyed} {na nb:Nat} (m:MH lt a.toList b.toList out.toList na nb) (h:∀ x∈b.toList.take nb, ∀ y∈a.toList,lt y x=false):Res lt a.toList b.toList (b.extract 0 nb++a.extract 0 na++out.reverse).toList:=by
 have:=m.finB h
 simpa only [Array.toList_append,Array.toList_reverse,b7] using this
theorem MH.finL {a b out:Array Keyed} {na nb:Nat} (m:MH lt a.toList b.toList out.toList na nb) (h:na=0∨nb=0):Res lt a.toList b.toList (a.extract 0 na++b.extract 0 nb++out.reverse).toList:=by
 have:=m.fin h
 simpa only [Array.toList_append,Array.toList_reverse,b7] using this
theorem BP (c:Cm prog w A s kd P lt) :
 ∃ (g:AH) (lo hi:AI),(gm prog w A E s kd P lt g/\(gm prog w A E s kd P lt g->gn prog w A E s kd P lt lo)/\(gm prog w A E s kd P lt g->gn prog w A E s kd P lt hi))/\(gm prog w A E s kd P lt g->gn prog w A E s kd P lt lo->gn prog w A E s kd P lt hi ->
  ∀ (i sa na pa sb nb pb:Nat) (L r1 r2 R:List Keyed) (st:SortSt) (Q:Bool->SortSt->Prop),kindOf st=kd->failedOf st=none->(pendingOf st)[i]? = some (sa,na,pa)->(pendingOf st)[i+1]? = some (sb,nb,pb) ->
   (arrOf st).toList=L++(r1++r2)++R->sa=L.length->na=r1.length->sb=L.length+r1.length->nb=r2.length->r1≠[]->r2≠[]->(∀ x∈r1,P x)->(∀ x∈r2,P x)->Ord lt r1->Ord lt r2 ->
   (∀ m st',(arrOf st').toList=L++m++R->m.Perm (r1++r2)->Ord lt m->kindOf st'=kd->failedOf st'=none->pendingOf st'=((pendingOf st).setIfInBounds i (sa,na+nb,pa)).eraseIdxIfInBounds (i+1)->Q true st') ->
   wpS (PySem.model prog w) A E s (mergeAt' i) Q st):=by
 apply Exists.intro
 apply Exists.intro
 apply Exists.intro
 apply And.intro
 rotate_left
 ·intro hg Eu Ev i sa na pa sb nb pb L r1 r2 R st Q hk hf h1 h2 S DV Dl DW DB Ew Ex E6 E7 o1 o2 q
  unfold mergeAt'
  refine wpS_bind (wpS_get ?_)
  rw [h1,h2]
  dsimp only
  refine wpS_bind (yG ?_)
  obtain ⟨y0,t2,rfl⟩:∃ y t,r2=y::t:=by cases r2 with | nil=>exact absurd rfl Ex | cons y t=>exact ⟨y,t,rfl⟩
  have hz:(arrOf st)[sb]? = some y0:=by
   rw [<- Array.getElem?_toList,S,DW];simp
  refine wpS_bind (ay hz ?_)
  refine wpS_bind (hg false y0 (arrOf st) L r1 (y0::t2++R) sa na 0 _ _ hk (E7 _ (by simp)) (by rw [S];simp) DV Dl E6 (by rw [Dl];exact List.length_pos_iff.mpr Ew) o1 fun X Y e hX hY => ?_)
  dsimp only
  have lX:∀ x∈X,lt y0 x=false:=fun x hx=>by have:=hX x hx;simpa [bey] using this
  have lY:∀ x∈Y,lt x y0=false:=fun x hx=>c.asym _ _ (by have:=hY x hx;simpa [bey] using this)
  have hlen:na - X.length=Y.length:=by rw [Dl,e];simp
  subst e
  obtain ⟨oX,oY,oXY⟩:=List.pairwise_append.mp o1
  have oy:=List.pairwise_cons.mp o2
  have DX:∀ x∈X, ∀ z∈y0::t2,lt z x=false:=fun x hx z hz=>by
   rcases List.mem_cons.mp hz with h | h
   ·rw [h];exact lX x hx
   ·exact c.le_trans (lX x hx) (oy.1 z h)
  refine ad (fun h => ?_) (fun h => ?_)
  ·have DY:Y=[]:=List.length_eq_zero_iff.mp (by rw [<- hlen];simpa using h)
   subst DY
   refine aa (q (X++(y0::t2)) _ (by simpa using S) (by simp) ?_ hk hf rfl)
   exact List.pairwise_append.mpr ⟨oX,o2,DX⟩
  ·have DY : 0 < Y.length:=by
    have:na - X.length≠0:=by simpa using h
    lia
   obtain ⟨Y0,xl,rfl⟩:∃ Y0 xl,Y=Y0++[xl]:=⟨Y.dropLast,Y.getLast (by intro z;rw [z] at DY;simp at DY),(List.dropLast_concat_getLast _).symm⟩
   have Ey:(arrOf st)[sa+X.length+(na - X.length) - 1]? = some xl:=by
    rw [<- Array.getElem?_toList,S,hlen,DV]
    simp only [List.append_assoc,List.length_append,List.length_singleton]
    rw [List.getElem?_append_right (by lia),List.getElem?_append_right (by lia),List.getElem?_append_right (by lia)]
    rw [show L.length+X.length+(Y0.length+1) - 1 - L.length - X.length - Y0.length=0 by lia];rfl
   refine wpS_bind (ay Ey ?_)
   refine wpS_bind (hg true xl (arrOf st) (L++(X++(Y0++[xl]))) (y0::t2) R sb nb (nb - 1) _ _ hk (E6 _ (by simp)) (by rw [S];simp) (by rw [DW];simp) DB E7 (by rw [DB];simp) o2 fun X2 Y2 e2 Dm Dn => ?_)
   dsimp only
   have Ez:∀ x∈X2,lt xl x=false:=fun x hx=>c.asym _ _ (by have:=Dm x hx;simpa [bey] using this)
   have Eg:∀ x∈Y2,lt x xl=false:=fun x hx=>by have:=Dn x hx;simpa [bey] using this
   have EA:Ord lt (X2++Y2):=by rw [<- e2];exact o2
   obtain ⟨EB,EC,Eh⟩:=List.pairwise_append.mp EA
   obtain ⟨EK,_,oYl⟩:=List.pairwise_append.mp oY
   have lYY:∀ x∈Y0++[xl], ∀ z∈Y2,lt z x=false:=fun x hx z hz=>by
    rcases List.mem_append.mp hx with h | h
    ·exact c.le_trans (oYl x h xl (by simp)) (Eg z hz)
    ·simp at h;subst h;exact Eg z hz
   refine ad (fun h => ?_) (fun h => ?_)
   ·have De:X2=[]:=List.length_eq_zero_iff.mp (by simpa using h)
    subst De
    have e2:y0::t2=Y2:=by simpa using e2
    refine aa (q (X++(Y0++[xl])++(y0::t2)) _ (by simpa using S) (List.Perm.refl _) ?_ hk hf rfl)
    refine List.pairwise_append.mpr ⟨o1,o2,fun x hx z hz => ?_⟩
    rcases List.mem_append.mp hx with g | g
    ·exact DX x g z hz
    ·exact lYY x g z (by rw [<- e2];exact hz)
   ·have De:X2≠[]:=fun z=>h (by rw [z];rfl)
    have hx:((arrOf st).extract (sa+X.length) sb).toList=Y0++[xl]:=by
     rw [Array.toList_extract,S,DV,DW]
     simp only [List.extract]
     have e1:(L++(X++(Y0++[xl])++y0::t2)++R).drop (L.length+X.length)=(Y0++[xl])++(y0::t2++R):=by
      rw [<- List.drop_drop];simp
     rw [e1,show L.length+(X++(Y0++[xl])).length - (L.length+X.length)=(Y0++[xl]).length by simp only [List.length_append];lia,List.take_left]
    have hy:((arrOf st).extract sb (sb+X2.length)).toList=X2:=by
     rw [Array.toList_extract,S,DW]
     simp only [List.extract]
     have e1:(L++(X++(Y0++[xl])++y0::t2)++R).drop (L.length+(X++(Y0++[xl])).length)=(y0::t2)++R:=by
      rw [<- List.drop_drop];simp
     rw [e1,e2]
     simp
    have G:∀ (r:Array Keyed) (CF:SortSt),r.toList.Perm ((Y0++[xl])++X2)->Ord lt r.toList->Same (PyProof.Rows.SortSt.mk' (kindOf st) (arrOf st) (((pendingOf st).setIfInBounds i (sa,na+nb,pa)).eraseIdxIfInBounds (i+1)) (gallopOf st) (failedOf st)) CF -> ∀ U:SortSt,arrOf U=List.foldl (fun a x=>a.setIfInBounds (sa+X.length+x.snd) x.fst) (arrOf CF) r.toList.zipIdx->kindOf U=kindOf CF->failedOf U=failedOf CF->pendingOf U=pendingOf CF->Q (failedOf U).isNone U:=by
     intro r CF hp ho hs U g1 g2 g3 g4
     have Ei:failedOf U=none:=g3.trans (hs.fail.trans hf)
     rw [Ei]
     refine q (X++r.toList++Y2) U ?_ ?_ ?_ (g2.trans (hs.kind.trans hk)) Ei (g4.trans hs.pend)
     ·rw [g1,hs.arr]
      have e3:(arrOf st).toList=(L++X)++((Y0++[xl])++X2)++(Y2++R):=by
       rw [S,e2];simp
      rw [show sa+X.length=(L++X).length by rw [DV];simp]
      rw [vJ _ _ _ _ _ e3 (hp.length_eq)]
      simp
     ·rw [e2]
      refine List.Perm.trans (List.Perm.append_right _ (List.Perm.append_left _ hp)) ?_
      simp
     ·refine List.pairwise_append.mpr ⟨List.pairwise_append.mpr ⟨oX,ho,fun x hx z hz => ?_⟩,EC,fun x hx z hz => ?_⟩
      ·rcases List.mem_append.mp (hp.mem_iff.mp hz) with g | g
       ·exact oXY x hx z g
       ·exact DX x hx z (by rw [e2];exact List.mem_append_left _ g)
      ·rcases List.mem_append.mp hx with g | g
       ·exact DX x g z (by rw [e2];exact List.mem_append_right _ hz)
       ·rcases List.mem_append.mp (hp.mem_iff.mp g) with g | g
        ·exact lYY x g z hz
        ·exact Eh x g z hz
    have E4:∀ x y,((arrOf st).extract (sa+X.length) sb)[0]? = some x->((arrOf st).extract sb (sb+X2.length))[0]? = some y->lt x y=false:=by
     intro x y D6 DC
     rw [<- Array.getElem?_toList,hx] at D6
     rw [<- Array.getElem?_toList,hy] at DC
     have DD:=List.mem_of_getElem? D6
     have:y=y0:=by
      cases X2 with
      | nil=>exact absurd rfl De
      | cons z t=>simp at e2 DC;rw [<- DC, <- e2.1]
     subst this
     exact lY x DD
    have preL:∀ x y,((arrOf st).extract (sa+X.length) sb)[((arrOf st).extract (sa+X.length) sb).size - 1]? = some x->((arrOf st).extract sb (sb+X2.length))[((arrOf st).extract sb (sb+X2.length)).size - 1]? = some y->lt x y=false:=by
     intro x y D6 DC
     rw [<- Array.getElem?_toList, <- Array.length_toList,hx] at D6
     rw [<- Array.getElem?_toList, <- Array.length_toList,hy] at DC
     have D7:=List.mem_of_getElem? DC
     have:x=xl:=by simp at D6;exact D6.symm
     subst this
     exact Ez y D7
    have Ej : 0 < ((arrOf st).extract (sa+X.length) sb).size:=by rw [<- Array.length_toList,hx];simp
    have Ek : 0 < ((arrOf st).extract sb (sb+X2.length)).size:=by rw [<- Array.length_toList,hy];exact List.length_pos_iff.mpr De
    have El:∀ x∈((arrOf st).extract (sa+X.length) sb).toList,P x:=by rw [hx];exact fun x hx=>E6 x (List.mem_append_right _ hx)
    have Em:∀ x∈((arrOf st).extract sb (sb+X2.length)).toList,P x:=by rw [hy];exact fun x hx=>E7 x (by rw [e2];exact List.mem_append_left _ hx)
    have Eo:Ord lt ((arrOf st).extract (sa+X.length) sb).toList:=by rw [hx];exact oY
    have Ep:Ord lt ((arrOf st).extract sb (sb+X2.length)).toList:=by rw [hy];exact EB
    refine ad (fun h => ?_) (fun h => ?_)
    ·refine wpS_bind (Eu _ _ _ _ hk El Em Ej Ek Eo Ep E4 preL fun r CF hp ho hs => ?_)
     rw [hx,hy] at hp
     refine wpS_bind (wpS_modify ?_)
     refine wpS_bind (wpS_get ?_)
     exact aa (G r CF hp ho hs _ rfl rfl rfl rfl)
    ·refine wpS_bind (Ev _ _ _ _ hk El Em Ej Ek Eo Ep E4 preL fun r CF hp ho hs => ?_)
     rw [hx,hy] at hp
     refine wpS_bind (wpS_modify ?_)
     refine wpS_bind (wpS_get ?_)
     exact aa (G r CF hp ho hs _ rfl rfl rfl rfl)
 apply And.intro
 ·intro left key arr L xs R base n hint st Q hk Df S E8 hn hP hh hs q
  subst E8 hn
  have at_:∀ i,i < xs.length -> ∃ x,xs[i]? = some x/\arr[L.length+i]? = some x/\P x:=by
   intro i hi
   refine ⟨xs[i],List.getElem?_eq_getElem hi, ?_,hP _ (List.getElem_mem _)⟩
   rw [<- Array.getElem?_toList,S,List.append_assoc,List.getElem?_append_right (by lia),List.getElem?_append_left (by lia)]
   rw [show L.length+i - L.length=i by lia]
   exact List.getElem?_eq_getElem hi
  obtain ⟨x0,D6,DE,ED⟩:=at_ hint hh
  refine wpS_bind (fK c hk Df ED DE ?_)
  try dsimp only
  refine ad (fun hb => ?_) (fun hb => ?_)
  ·skip
   refine wpS_bind (az (Q:=fun r st'=>st'=st /\ ∃ la ofs,r=(none,la,ofs)/\hint+la < xs.length/\la < ofs/\(∀ j x,j < hint+la+1->xs[j]? = some x->bey lt left key x=true)/\(xs.length<=hint+ofs ∨ ∀ j x,hint+ofs<=j->xs[j]? = some x->bey lt left key x=false))
    (wpS_forRange (fun i r st'=>st'=st /\ ∃ la ofs,r=(none,la,ofs)/\hint+la < xs.length/\la < ofs/\i+1<=ofs/\(∀ j x,j < hint+la+1->xs[j]? = some x->bey lt left key x=true)) ?_ ?_ ⟨rfl,0,1,rfl,hh,by lia,by lia,gp c hs D6 hb⟩) ?_)
   ·rintro i r st' _ hi ⟨rfl,la,ofs,rfl,h1,h2,h3,h4⟩
    try dsimp only
    refine ad (fun Do => ?_) (fun Do => ?_)
    ·exact aa ⟨rfl,la,ofs,rfl,h1,h2,h4, .inl (by lia)⟩
    ·skip
     obtain ⟨x1,CY,Dp,Dq⟩:=at_ (hint+ofs) (by lia)
     refine wpS_bind (fK c hk Df Dq Dp ?_)
     try dsimp only
     refine ad (fun hf => ?_) (fun hf => ?_)
     ·exact aa ⟨rfl,la,ofs,rfl,h1,h2,h4, .inr (gu c hs CY (by simpa using hf))⟩
     ·exact aa ⟨rfl,ofs,2*ofs+1,rfl,by lia,by lia,by lia,gp c hs CY (by simpa using hf)⟩
   ·rintro r st' ⟨rfl,la,ofs,rfl,h1,h2,h3,h4⟩
    exact ⟨rfl,la,ofs,rfl,h1,h2,h4, .inl (by lia)⟩
   ·rintro r st' ⟨rfl,la,ofs,rfl,h1,h2,h3,h4⟩
    try dsimp only
    have Z:Gal lt left key xs (hint+la+1) (hint+min ofs (xs.length - hint)):=by
     refine ⟨by lia,by lia,h3,fun i x hi hx => ?_⟩
     have EL:i < xs.length:=(List.getElem?_eq_some_iff.mp hx).1
     rcases h4 with h4 | h4
     ·lia
     ·exact h4 i x (by lia) hx
    generalize hint+la+1=lo at Z
    generalize hint+min ofs (xs.length - hint)=hi at Z
    refine wpS_bind (az (Q:=fun r st''=>st''=st' /\ ∃ k,r=(none,k,k)/\Gal lt left key xs k k)
     (wpS_forRange (fun i r st''=>st''=st' /\ ∃ lo hi,r=(none,lo,hi)/\Gal lt left key xs lo hi/\hi - lo+i<=xs.length) ?_ ?_ ⟨rfl,lo,hi,rfl,Z,by have:=Z.len;lia⟩) ?_)
    ·rintro i r st'' _ hi ⟨rfl,lo,hi,rfl,Z,hm⟩
     try dsimp only
     have hl:=Z.le
     have DF:=Z.len
     refine ad (fun Do => ?_) (fun Do => ?_)
     ·exact aa ⟨rfl,hi,by rw [show lo=hi by lia],by rw [show lo=hi by lia] at Z;exact Z⟩
     ·skip
      obtain ⟨x1,CY,Dp,Dq⟩:=at_ (lo+(hi - lo) / 2) (by lia)
      refine wpS_bind (fK c hk Df Dq Dp ?_)
      try dsimp only
      refine ad (fun hf => ?_) (fun hf => ?_)
      ·exact aa ⟨rfl,_,_,rfl,⟨by lia,DF,gp c hs CY hf,Z.dn⟩,by lia⟩
      ·exact aa ⟨rfl,_,_,rfl,⟨by lia,by lia,Z.up,gu c hs CY (by simpa using hf)⟩,by lia⟩
    ·rintro r st'' ⟨rfl,lo,hi,rfl,Z,hm⟩
     have hl:=Z.le
     exact ⟨rfl,hi,by rw [show lo=hi by lia],by rw [show lo=hi by lia] at Z;exact Z⟩
    ·rintro r st'' ⟨rfl,k,rfl,Z⟩
     obtain ⟨X,Y,e,hl,hX,hY⟩:=Z.out
     subst hl
     exact aa (q X Y e hX hY)
  ·skip
   refine wpS_bind (az (Q:=fun r st'=>st'=st /\ ∃ la ofs,r=(none,la,ofs)/\la<=hint/\la < ofs/\(∀ j x,hint - la<=j->xs[j]? = some x->bey lt left key x=false)/\(hint < ofs ∨ ∀ j x,j < hint - ofs+1->xs[j]? = some x->bey lt left key x=true))
    (wpS_forRange (fun i r st'=>st'=st /\ ∃ la ofs,r=(none,la,ofs)/\la<=hint/\la < ofs/\i+1<=ofs/\(∀ j x,hint - la<=j->xs[j]? = some x->bey lt left key x=false)) ?_ ?_ ⟨rfl,0,1,rfl,by lia,by lia,by lia,gu c hs D6 (by simpa using hb)⟩) ?_)
   ·rintro i r st' _ hi ⟨rfl,la,ofs,rfl,h1,h2,h3,h4⟩
    try dsimp only
    refine ad (fun Do => ?_) (fun Do => ?_)
    ·exact aa ⟨rfl,la,ofs,rfl,h1,h2,h4, .inl (by lia)⟩
    ·skip
     obtain ⟨x1,CY,Dp,Dq⟩:=at_ (hint - ofs) (by lia)
     refine wpS_bind (fK c hk Df Dq Dp ?_)
     try dsimp only
     refine ad (fun hf => ?_) (fun hf => ?_)
     ·exact aa ⟨rfl,la,ofs,rfl,h1,h2,h4, .inr (gp c hs CY hf)⟩
     ·exact aa ⟨rfl,ofs,2*ofs+1,rfl,by lia,by lia,by lia,gu c hs CY (by simpa using hf)⟩
   ·rintro r st' ⟨rfl,la,ofs,rfl,h1,h2,h3,h4⟩
    exact ⟨rfl,la,ofs,rfl,h1,h2,h4, .inl (by lia)⟩
   ·rintro r st' ⟨rfl,la,ofs,rfl,h1,h2,h3,h4⟩
    try dsimp only
    have Z:Gal lt left key xs (hint+1 - min ofs (hint+1)) (hint - la):=by
     refine ⟨by lia,by lia,fun i x hi hx => ?_,h3⟩
     rcases h4 with h4 | h4
     ·lia
     ·exact h4 i x (by lia) hx
    generalize hint+1 - min ofs (hint+1)=lo at Z
    generalize hint - la=hi at Z
    refine wpS_bind (az (Q:=fun r st''=>st''=st' /\ ∃ k,r=(none,k,k)/\Gal lt left key xs k k)
     (wpS_forRange (fun i r st''=>st''=st' /\ ∃ lo hi,r=(none,lo,hi)/\Gal lt left key xs lo hi/\hi - lo+i<=xs.length) ?_ ?_ ⟨rfl,lo,hi,rfl,Z,by have:=Z.len;lia⟩) ?_)
    ·rintro i r st'' _ hi ⟨rfl,lo,hi,rfl,Z,hm⟩
     try dsimp only
     have hl:=Z.le
     have DF:=Z.len
     refine ad (fun Do => ?_) (fun Do => ?_)
     ·exact aa ⟨rfl,hi,by rw [show lo=hi by lia],by rw [show lo=hi by lia] at Z;exact Z⟩
     ·skip
      obtain ⟨x1,CY,Dp,Dq⟩:=at_ (lo+(hi - lo) / 2) (by lia)
      refine wpS_bind (fK c hk Df Dq Dp ?_)
      try dsimp only
      refine ad (fun hf => ?_) (fun hf => ?_)
      ·exact aa ⟨rfl,_,_,rfl,⟨by lia,DF,gp c hs CY hf,Z.dn⟩,by lia⟩
      ·exact aa ⟨rfl,_,_,rfl,⟨by lia,by lia,Z.up,gu c hs CY (by simpa using hf)⟩,by lia⟩
    ·rintro r st'' ⟨rfl,lo,hi,rfl,Z,hm⟩
     have hl:=Z.le
     exact ⟨rfl,hi,by rw [show lo=hi by lia],by rw [show lo=hi by lia] at Z;exact Z⟩
    ·rintro r st'' ⟨rfl,k,rfl,Z⟩
     obtain ⟨X,Y,e,hl,hX,hY⟩:=Z.out
     subst hl
     exact aa (q X Y e hX hY)
 apply And.intro
 ·intro hg a b st Q hk Ds Dt DZ E1 sa sb DG DH q
  refine wpS_bind (cw ?_)
  obtain ⟨b0,E2,DI,EF⟩:=ax E1
  obtain ⟨a0,DE,Dz,EG⟩:=ax DZ
  refine wpS_bind (ay E2 ?_)
  have m0:ML lt a.toList b.toList [] 0 0:=⟨sa,sb,by simp⟩
  have m1:ML lt a.toList b.toList [b0] 0 1:=m0.pushB c Dz DI (DG a0 b0 DE E2)
  have D8:∀ x∈b.toList, ∀ (i:Nat),i+1=a.size -> ∀ y∈a.toList.drop i,lt y x=false:=by
   intro x hx i hi y hy
   obtain ⟨aL,E3,DJ,_⟩:=ax (a:=a) (i:=i) (by lia)
   obtain ⟨bL,E9,DA,_⟩:=ax (a:=b) (i:=b.size - 1) (by lia)
   have e:a.toList.drop i=[aL]:=by
    rw [dA DJ,List.drop_eq_nil_of_le (by simp;lia)];rfl
   rw [e] at hy
   simp at hy;subst hy
   have hl:=DH y bL (by rw [show a.size - 1=i by lia];exact E3) E9
   obtain ⟨j,hj,e⟩:=List.mem_iff_getElem.mp hx
   have Du:b.toList[j]? = some x:=by rw [<- e];exact List.getElem?_eq_getElem hj
   by_cases hjb:j=b.size - 1
   ·subst hjb;rw [DA] at Du;cases Du;exact hl
   ·have:=eh sb (show j < b.size - 1 by simp at hj;lia) Du DA
    exact c.le_trans this hl
  try dsimp -zeta -zetaHave -zetaUnused only
  refine ad (fun h => ?_) (fun h => ?_)
  ·skip
   have h : 1=b.size:=by simpa using h
   refine aa ?_
   have r:=m1.fin (by simp;lia)
   exact q _ _ (by simpa only [Array.toList_append,Array.toList_push,List.toList_toArray,bw] using r.1) (by simpa only [Array.toList_append,Array.toList_push,List.toList_toArray,bw] using r.2) Same.refl
  ·skip
   refine ad (fun h2 => ?_) (fun h2 => ?_)
   ·skip
    have h2 : 0+1=a.size:=by simpa using h2
    refine aa ?_
    have r:=m1.finA (D8 · · 0 h2)
    exact q _ _ (by simpa only [Array.toList_append,Array.toList_push,List.toList_toArray,bw] using r.1) (by simpa only [Array.toList_append,Array.toList_push,List.toList_toArray,bw] using r.2) Same.refl
   ·skip
    have h : 1≠b.size:=by simpa using h
    have h2 : 0+1≠a.size:=by simpa using h2
    refine wpS_bind (wpS_get ?_)
    try dsimp -zeta -zetaHave -zetaUnused only
    refine wpS_bind (az (Q:=fun r st'=>Same st st' /\ ∃ res t,r=(some res,t)/\Res lt a.toList b.toList res.toList)
     (wpS_forRange (fun i r st'=>Same st st' /\ ∃ out ia ib mg,r=(none,out,ia,ib,mg)/\ML lt a.toList b.toList out.toList ia ib/\ia+1 < a.size/\ib < b.size/\i+1<=out.size) ?_ ?_ ⟨Same.refl,_,_,_,_,rfl,m1,by lia,by lia,by simp⟩) ?_)
    ·rintro i r CZ _ hi ⟨sm,out,ia,ib,mg,rfl,m,Ea,Eb,hsz⟩
     try dsimp -zeta -zetaHave -zetaUnused only
     refine wpS_bind (az (Q:=fun r st'=>st'=CZ/\((∃ B CP CU ac bc,r=(none,B,CP,CU,ac,bc)/\ML lt a.toList b.toList B.toList CP CU/\CP+1 < a.size/\CU < b.size/\i+2<=B.size) ∨ ∃ res t,r=(some res,t)/\Res lt a.toList b.toList res.toList))
      (wpS_forRange (fun j r st'=>st'=CZ /\ ∃ B CP CU ac bc,r=(none,B,CP,CU,ac,bc)/\ML lt a.toList b.toList B.toList CP CU/\CP+1 < a.size/\CU < b.size/\i+1+j<=B.size) ?_ ?_ ⟨rfl,_,_,_,_,_,rfl,m,Ea,Eb,by lia⟩) ?_)
     ·rintro j r CF _ hj ⟨rfl,B,CP,CU,ac,bc,rfl,m2,h1,h2,h3⟩
      try dsimp only
      obtain ⟨y,hy,D3,D7⟩:=ax (a:=b) h2
      obtain ⟨x,hx,DK,DD⟩:=ax (a:=a) (i:=CP) (by lia)
      refine wpS_bind (ay hy (wpS_bind (ay hx (wpS_bind (iT c (sm.kind.trans hk) (Dt _ D7) (Ds _ DD) ?_)))))
      try dsimp only
      refine ad (fun hl => ?_) (fun hl => ?_)
      ·skip
       refine wpS_bind (ay hy ?_)
       try dsimp only
       have m3:=m2.pushB c DK D3 (c.asym _ _ hl)
       refine ad (fun h => ?_) (fun h => ?_)
       ·skip
        have h:CU+1=b.size:=by simpa using h
        exact aa ⟨rfl, .inr ⟨_,_,rfl,by simpa only [Array.toList_append,Array.toList_push,List.toList_toArray,bw] using m3.fin (by simp;lia)⟩⟩
       ·skip
        have h:CU+1≠b.size:=by simpa using h
        refine ad (fun _ => ?_) (fun _ => ?_)
        ·exact aa ⟨rfl, .inl ⟨_,_,_,_,_,rfl,by simpa only [Array.toList_append,Array.toList_push] using m3,h1,by lia,by simp;lia⟩⟩
        ·exact aa ⟨rfl,_,_,_,_,_,rfl,by simpa only [Array.toList_append,Array.toList_push] using m3,h1,by lia,by simp;lia⟩
      ·skip
       refine wpS_bind (ay hx ?_)
       try dsimp only
       have m3:=m2.pushA c DK D3 (by simpa using hl)
       refine ad (fun h => ?_) (fun h => ?_)
       ·skip
        have h:CP+1+1=a.size:=by simpa using h
        exact aa ⟨rfl, .inr ⟨_,_,rfl,by simpa only [Array.toList_append,Array.toList_push,List.toList_toArray,bw] using m3.finA (D8 · · _ h)⟩⟩
       ·skip
        have h:CP+1+1≠a.size:=by simpa using h
        refine ad (fun _ => ?_) (fun _ => ?_)
        ·exact aa ⟨rfl, .inl ⟨_,_,_,_,_,rfl,by simpa only [Array.toList_append,Array.toList_push] using m3,by lia,h2,by simp;lia⟩⟩
        ·exact aa ⟨rfl,_,_,_,_,_,rfl,by simpa only [Array.toList_append,Array.toList_push] using m3,by lia,h2,by simp;lia⟩
     ·rintro r CF ⟨rfl,B,CP,CU,ac,bc,rfl,m2,h1,h2,h3⟩
      exact ⟨rfl, .inl ⟨_,_,_,_,_,rfl,m2,h1,h2,by lia⟩⟩
     ·rintro r CF ⟨rfl,⟨B,CP,CU,ac,bc,rfl,m2,h1,h2,h3⟩ | ⟨res,t,rfl,I⟩⟩
      ·dsimp -zeta -zetaHave -zetaUnused only
       refine wpS_bind (cw ?_)
       refine wpS_bind (az (Q:=fun r st'=>Same st st'/\((∃ F CH CC CQ ac bc,r=(none,F,CH,CC,CQ,ac,bc)/\ML lt a.toList b.toList F.toList CH CC/\CH+1 < a.size/\CC < b.size/\i+2<=F.size) ∨ ∃ res t,r=(some res,t)/\Res lt a.toList b.toList res.toList))
        (wpS_forRange (fun j r st'=>Same st st' /\ ∃ F CH CC CQ ac bc,r=(none,F,CH,CC,CQ,ac,bc)/\ML lt a.toList b.toList F.toList CH CC/\CH+1 < a.size/\CC < b.size/\i+2<=F.size) ?_ ?_ ⟨sm,_,_,_,_,_,_,rfl,m2,h1,h2,h3⟩) ?_)
       ·rintro j r U _ hj ⟨CS,F,CH,CC,CQ,DL,DM,rfl,m3,h1,h2,h5⟩
        obtain ⟨y,hy,D3,D7⟩:=ax (a:=b) h2
        refine xj fun QQ hQ => ?_
        have G:∀ (st':SortSt) (res:Array Keyed) t,Same st st'->Res lt a.toList b.toList res.toList->QQ (.done (some res,t)) st':=fun st' res t hs hr=>hQ _ _ ⟨hs, .inr ⟨_,_,rfl,hr⟩⟩
        have Ec:∀ (st':SortSt) (out:Array Keyed) ia ib mg ac bc,Same st st'->ML lt a.toList b.toList out.toList ia ib->ia+1 < a.size->ib < b.size->i+2<=out.size->QQ (.done (none,out,ia,ib,mg,ac,bc)) st'/\QQ (.yield (none,out,ia,ib,mg,ac,bc)) st':=fun st' out ia ib mg ac bc hs p1 p2 p3 p4=>⟨hQ _ _ ⟨hs, .inl ⟨_,_,_,_,_,_,rfl,p1,p2,p3,p4⟩⟩,hQ _ _ ⟨hs,_,_,_,_,_,_,rfl,p1,p2,p3,p4⟩⟩
        clear hQ hj
        extract_lets -underBinder s0 vout s1 via s2 vib s3 vmg s4 vac vbc jp vmx
        have DN:∀ mg,wpS (PySem.model prog w) A E s (jp () mg) QQ U:=by
         intro mg
         dsimp -zeta -zetaHave -zetaUnused only [jp,s0,vout,s1,via,s2,vib,s3,vmg,s4,vac,vbc]
         clear vmx jp vbc vac s4 vmg s3 vib s2 via s1 vout s0
         refine wpS_bind (wpS_modify ?_)
         refine sU (P:=Same st) (CS.trans ⟨rfl,rfl,rfl,rfl⟩) fun Dv CI => ?_
         have DO:=CI.kind.trans hk
         refine wpS_bind (ay hy ?_)
         refine wpS_bind (hg false y a (a.toList.take CH) (a.toList.drop CH) [] _ _ _ _ _ DO (Dt _ D7) (by simp) (eT (by lia)) (by simp) (fun x hx=>Ds x (List.mem_of_mem_drop hx)) (by lia) ((List.pairwise_append.mp m3.pa).2.1) fun X Y e hX hY => ?_)
         dsimp -zeta -zetaHave -zetaUnused only
         have m4:=m3.galA c e D3 fun x hx=>xk (hX x hx)
         have CJ:∀ x4,a.toList[CH+X.length]? = some x4->lt x4 y=false:=fun x4 D9=>c.asym _ _ (sV (hY x4 (mM e D9)))
         have Dw:=mP e
         extract_lets -underBinder +onlyGivenNames vac Da
         clear_value vac
         have Dg:∀ (J:Array Keyed) (D4:Nat),ML lt a.toList b.toList J.toList D4 CC->(∀ x4,a.toList[D4]? = some x4->lt x4 y=false)->D4+1 < a.size->i+2<=J.size->wpS (PySem.model prog w) A E s (Da () J D4) QQ Dv:=by
          intro J D4 Ed Db EH DP
          dsimp -zeta -zetaHave -zetaUnused only [Da]
          clear Da Dw CJ m4 hX hY
          obtain ⟨x4,D9,CN,DQ⟩:=ax (a:=a) (i:=D4) (by lia)
          refine wpS_bind (ay hy ?_)
          have m5:=Ed.pushB c CN D3 (Db x4 CN)
          rw [<- Array.toList_push] at m5
          have CO:i+2<=(J.push y).size:=by rw [Array.size_push];lia
          try dsimp -zeta -zetaHave -zetaUnused only
          extract_lets -underBinder +onlyGivenNames vo5 vi5
          dsimp -zeta -zetaHave -zetaUnused only [vo5]
          clear vo5
          have e5:vi5=CC+1:=rfl
          clear_value vi5
          subst e5
          revert m5 CO
          generalize J.push y=out5
          intro m5 CO
          refine ad (fun h => ?_) (fun h => ?_)
          ·exact aa (G _ _ _ CI (m5.finR (by have h:=eq_of_beq h;lia)))
          ·have h:CC+1≠b.size:=by simpa using h
           refine wpS_bind (ay D9 ?_)
           refine wpS_bind (hg true x4 b (b.toList.take (CC+1)) (b.toList.drop (CC+1)) [] _ _ _ _ _ DO (Ds _ DQ) (by simp) (eT (by lia)) (by simp) (fun x hx=>Dt x (List.mem_of_mem_drop hx)) (by lia) ((List.pairwise_append.mp m5.pb).2.1) fun X2 Y2 e2 Dm Dn => ?_)
           dsimp -zeta -zetaHave -zetaUnused only
           have m6:=m5.galB c e2 CN fun x hx=>c.asym _ _ (xm (Dm x hx))
           have CK:∀ y6,b.toList[CC+1+X2.length]? = some y6->lt y6 x4=false:=fun y6 DR=>sW (Dn y6 (mM e2 DR))
           have Dx:=mP e2
           extract_lets -underBinder +onlyGivenNames vbc Dc
           clear_value vbc
           have Dh:∀ (CD:Array Keyed) (Dy:Nat),ML lt a.toList b.toList CD.toList D4 Dy->(∀ y6,b.toList[Dy]? = some y6->lt y6 x4=false)->Dy < b.size->i+2<=CD.size->wpS (PySem.model prog w) A E s (Dc () CD Dy) QQ Dv:=by
            intro CD Dy Ee Dd E5 Er
            dsimp -zeta -zetaHave -zetaUnused only [Dc]
            clear Dc Dx CK m6 Dm Dn m5 CO DP h5 h1 h2 hsz Eb Ea h3
            obtain ⟨y6,DR,Di,Es⟩:=ax (a:=b) (i:=Dy) E5
            refine wpS_bind (ay D9 ?_)
            have m7:=Ee.pushA c CN Di (Dd y6 Di)
            rw [<- Array.toList_push] at m7
            dsimp only
            refine ad (fun h => ?_) (fun h => ?_)
            ·exact aa (G _ _ _ CI (m7.finL (D8 · · (D4+1) (eq_of_beq h))))
            ·have h:D4+1+1≠a.size:=by simpa using h
             have:=Ec Dv (CD.push x4) (D4+1) Dy mg vac vbc CI m7 (by lia) E5 (by rw [Array.size_push];lia)
             exact ad (fun _=>aa this.1) (fun _=>aa this.2)
           clear_value Dc
           refine ad (fun h0 => ?_) (fun h0 => ?_)
           ·dsimp only
            have m6:=m6.cut (a:=b) e2
            refine ad (fun h => ?_) (fun h => ?_)
            ·exact aa (G _ _ _ CI (m6.finR (by have h:=eq_of_beq h;lia)))
            ·have h:CC+1+X2.length≠b.size:=by simpa using h
             exact Dh _ _ m6 CK (by lia) (by rw [Array.size_append];lia)
           ·have De:X2=[]:=List.length_eq_zero_iff.mp (by lia)
            subst De
            exact Dh _ _ m5 CK (by lia) CO
         clear_value Da
         refine ad (fun h0 => ?_) (fun h0 => ?_)
         ·dsimp only
          have m4:=m4.cut (a:=a) e
          refine ad (fun h => ?_) (fun h => ?_)
          ·exact aa (G _ _ _ CI (m4.finL (D8 · · _ (eq_of_beq h))))
          ·have h:CH+X.length+1≠a.size:=by simpa using h
           refine ad (fun h => ?_) (fun h9 => ?_)
           ·exact aa (G _ _ _ CI (m4.finS (by have h:=eq_of_beq h;lia)))
           ·have h9:CH+X.length≠a.size:=by simpa using h9
            exact Dg _ _ m4 CJ (by lia) (by rw [Array.size_append];lia)
         ·have De:X=[]:=List.length_eq_zero_iff.mp (by lia)
          subst De
          exact Dg _ _ m3 CJ h1 h5
        clear_value jp
        exact ad (fun _=>DN _) (fun _=>DN _)
       ·rintro r U ⟨CS,F,CH,CC,CQ,DL,DM,rfl,m3,h1,h2,h5⟩
        exact ⟨CS, .inl ⟨_,_,_,_,_,_,rfl,m3,h1,h2,h5⟩⟩
       ·rintro r U ⟨CS,⟨F,CH,CC,CQ,DL,DM,rfl,m3,h1,h2,h5⟩ | ⟨res,t,rfl,I⟩⟩
        ·dsimp -zeta -zetaHave -zetaUnused only
         refine wpS_bind (wpS_modify ?_)
         exact aa ⟨CS.trans ⟨rfl,rfl,rfl,rfl⟩,_,_,_,_,rfl,m3,h1,h2,by lia⟩
        ·exact aa ⟨CS,_,_,rfl,I⟩
      ·exact aa ⟨sm,_,_,rfl,I⟩
    ·rintro r CZ ⟨sm,out,ia,ib,mg,rfl,m,Ea,Eb,hsz⟩
     have:=m.size (by simp;lia) (by simp;lia)
     simp at this
     lia
    ·rintro r CZ ⟨sm,res,t,rfl,I⟩
     exact aa (q res CZ I.1 I.2 sm)
 ·intro hg a b st Q hk Ds Dt DZ E1 sa sb DG DH q
  refine wpS_bind (cw ?_)
  obtain ⟨bL,E9,DA,EI⟩:=ax (a:=b) (i:=b.size - 1) (by lia)
  obtain ⟨aL,E3,DJ,EJ⟩:=ax (a:=a) (i:=a.size - 1) (by lia)
  refine wpS_bind (ay E3 ?_)
  have m0:MH lt a.toList b.toList [] a.size b.size:=⟨by rw [dL];simpa using sa,by rw [dL];simpa using sb,by rw [dL,dL];simp⟩
  have m1:MH lt a.toList b.toList [aL] (a.size - 1) b.size:=m0.pushA c DZ E1 DJ DA (DH aL bL E3 E9)
  have CW:∀ x∈b.toList.take 1, ∀ y∈a.toList,lt y x=false:=by
   intro x hx y hy
   obtain ⟨b0,E2,DI,_⟩:=ax E1
   obtain ⟨a0,DE,Dz,_⟩:=ax DZ
   have ex:x=b0:=by
    rw [cy (by lia) DI] at hx
    simpa using hx
   subst ex
   have h:=DG a0 x DE E2
   obtain ⟨j,hj,e⟩:=List.mem_iff_getElem.mp hy
   have Du:a.toList[j]? = some y:=by rw [<- e];exact List.getElem?_eq_getElem hj
   by_cases hj0:j=0
   ·subst hj0;rw [Dz] at Du;cases Du;exact h
   ·exact c.le_trans h (eh sa (by lia) Dz Du)
  try dsimp -zeta -zetaHave -zetaUnused only
  refine ad (fun h => ?_) (fun h => ?_)
  ·skip
   have h:a.size - 1=0:=by simpa using h
   refine aa ?_
   have r:=m1.fin (.inl h)
   exact q _ _ (by simpa only [Array.toList_append,Array.toList_push,Array.toList_reverse,List.toList_toArray,b7] using r.1) (by simpa only [Array.toList_append,Array.toList_push,Array.toList_reverse,List.toList_toArray,b7] using r.2) Same.refl
  ·skip
   refine ad (fun h2 => ?_) (fun h2 => ?_)
   ·skip
    have h2:b.size=1:=by simpa using h2
    refine aa ?_
    have r:=m1.finB (by rw [h2];exact CW)
    exact q _ _ (by simpa only [Array.toList_append,Array.toList_push,Array.toList_reverse,List.toList_toArray,b7] using r.1) (by simpa only [Array.toList_append,Array.toList_push,Array.toList_reverse,List.toList_toArray,b7] using r.2) Same.refl
   ·skip
    have h:a.size - 1≠0:=by simpa using h
    have h2:b.size≠1:=by simpa using h2
    refine wpS_bind (wpS_get ?_)
    try dsimp -zeta -zetaHave -zetaUnused only
    refine wpS_bind (az (Q:=fun r st'=>Same st st' /\ ∃ res t,r=(some res,t)/\Res lt a.toList b.toList res.toList)
     (wpS_forRange (fun i r st'=>Same st st' /\ ∃ na nb out mg,r=(none,na,nb,out,mg)/\MH lt a.toList b.toList out.toList na nb/\0 < na/\1 < nb/\na < a.size/\nb<=b.size/\i+1<=out.size) ?_ ?_ ⟨Same.refl,_,_,_,_,rfl,m1,by lia,by lia,by lia,by lia,by simp⟩) ?_)
    ·rintro i r CZ _ hi ⟨sm,na,nb,out,mg,rfl,m,Dl,DB,DS,DT,hsz⟩
     try dsimp -zeta -zetaHave -zetaUnused only
     refine wpS_bind (az (Q:=fun r st'=>st'=CZ/\((∃ CL CM B ac bc,r=(none,CL,CM,B,ac,bc)/\MH lt a.toList b.toList B.toList CL CM/\0 < CL/\1 < CM/\CL < a.size/\CM<=b.size/\i+2<=B.size) ∨ ∃ res t,r=(some res,t)/\Res lt a.toList b.toList res.toList))
      (wpS_forRange (fun j r st'=>st'=CZ /\ ∃ CL CM B ac bc,r=(none,CL,CM,B,ac,bc)/\MH lt a.toList b.toList B.toList CL CM/\0 < CL/\1 < CM/\CL < a.size/\CM<=b.size/\i+1+j<=B.size) ?_ ?_ ⟨rfl,_,_,_,_,_,rfl,m,Dl,DB,DS,DT,by lia⟩) ?_)
     ·rintro j r CF _ hj ⟨rfl,CL,CM,B,ac,bc,rfl,m2,h1,h2,CT,CV,h3⟩
      try dsimp only
      obtain ⟨y,hy,D3,D7⟩:=ax (a:=b) (i:=CM - 1) (by lia)
      obtain ⟨x,hx,DK,DD⟩:=ax (a:=a) (i:=CL - 1) (by lia)
      refine wpS_bind (ay hy (wpS_bind (ay hx (wpS_bind (iT c (sm.kind.trans hk) (Dt _ D7) (Ds _ DD) ?_)))))
      try dsimp only
      refine ad (fun hl => ?_) (fun hl => ?_)
      ·skip
       refine wpS_bind (ay hx ?_)
       try dsimp only
       have m3:=m2.pushA c h1 (by lia) DK D3 (c.asym _ _ hl)
       refine ad (fun h => ?_) (fun h => ?_)
       ·skip
        have h:CL - 1=0:=by simpa using h
        exact aa ⟨rfl, .inr ⟨_,_,rfl,by have r:=m3.fin (.inl h);simpa only [Array.toList_append,Array.toList_push,Array.toList_reverse,List.toList_toArray,b7] using r⟩⟩
       ·skip
        have h:CL - 1≠0:=by simpa using h
        refine ad (fun _ => ?_) (fun _ => ?_)
        ·exact aa ⟨rfl, .inl ⟨_,_,_,_,_,rfl,by simpa only [Array.toList_append,Array.toList_push,Array.toList_reverse,List.toList_toArray,b7] using m3,by lia,h2,by lia,CV,by simp;lia⟩⟩
        ·exact aa ⟨rfl,_,_,_,_,_,rfl,by simpa only [Array.toList_append,Array.toList_push,Array.toList_reverse,List.toList_toArray,b7] using m3,by lia,h2,by lia,CV,by simp;lia⟩
      ·skip
       refine wpS_bind (ay hy ?_)
       try dsimp only
       have m3:=m2.pushB c h1 (by lia) DK D3 (by simpa using hl)
       refine ad (fun h => ?_) (fun h => ?_)
       ·skip
        have h:CM - 1=1:=by simpa using h
        exact aa ⟨rfl, .inr ⟨_,_,rfl,by have r:=m3.finB (by rw [h];exact CW);simpa only [Array.toList_append,Array.toList_push,Array.toList_reverse,List.toList_toArray,b7] using r⟩⟩
       ·skip
        have h:CM - 1≠1:=by simpa using h
        refine ad (fun _ => ?_) (fun _ => ?_)
        ·exact aa ⟨rfl, .inl ⟨_,_,_,_,_,rfl,by simpa only [Array.toList_append,Array.toList_push,Array.toList_reverse,List.toList_toArray,b7] using m3,h1,by lia,CT,by lia,by simp;lia⟩⟩
        ·exact aa ⟨rfl,_,_,_,_,_,rfl,by simpa only [Array.toList_append,Array.toList_push,Array.toList_reverse,List.toList_toArray,b7] using m3,h1,by lia,CT,by lia,by simp;lia⟩
     ·rintro r CF ⟨rfl,CL,CM,B,ac,bc,rfl,m2,h1,h2,CT,CV,h3⟩
      exact ⟨rfl, .inl ⟨_,_,_,_,_,rfl,m2,h1,h2,CT,CV,by lia⟩⟩
     ·rintro r CF ⟨rfl,⟨CL,CM,B,ac,bc,rfl,m2,h1,h2,CT,CV,h3⟩ | ⟨res,t,rfl,I⟩⟩
      ·try dsimp -zeta -zetaHave -zetaUnused only
       refine wpS_bind (cw ?_)
       refine wpS_bind (az (Q:=fun r st'=>Same st st'/\((∃ CG O F CQ ac bc,r=(none,CG,O,F,CQ,ac,bc)/\MH lt a.toList b.toList F.toList CG O/\0 < CG/\1 < O/\CG < a.size/\O<=b.size/\i+2<=F.size) ∨ ∃ res t,r=(some res,t)/\Res lt a.toList b.toList res.toList))
        (wpS_forRange (fun j r st'=>Same st st' /\ ∃ CG O F CQ ac bc,r=(none,CG,O,F,CQ,ac,bc)/\MH lt a.toList b.toList F.toList CG O/\0 < CG/\1 < O/\CG < a.size/\O<=b.size/\i+2<=F.size) ?_ ?_ ⟨sm,_,_,_,_,_,_,rfl,m2,h1,h2,CT,CV,h3⟩) ?_)
       ·rintro j r U _ hj ⟨CS,CG,O,F,CQ,DL,DM,rfl,m3,h1,h2,CT,CV,h5⟩
        obtain ⟨y,hy,D3,D7⟩:=ax (a:=b) (i:=O - 1) (by lia)
        refine xj fun QQ hQ => ?_
        have G:∀ (st':SortSt) (res:Array Keyed) t,Same st st'->Res lt a.toList b.toList res.toList->QQ (.done (some res,t)) st':=fun st' res t hs hr=>hQ _ _ ⟨hs, .inr ⟨_,_,rfl,hr⟩⟩
        have Ec:∀ (st':SortSt) (out:Array Keyed) na nb mg ac bc,Same st st'->MH lt a.toList b.toList out.toList na nb->0 < na->1 < nb->na < a.size->nb<=b.size->i+2<=out.size->QQ (.done (none,na,nb,out,mg,ac,bc)) st'/\QQ (.yield (none,na,nb,out,mg,ac,bc)) st':=fun st' out ia ib mg ac bc hs p1 p2 p3 p4 p5 p6=>⟨hQ _ _ ⟨hs, .inl ⟨_,_,_,_,_,_,rfl,p1,p2,p3,p4,p5,p6⟩⟩,hQ _ _ ⟨hs,_,_,_,_,_,_,rfl,p1,p2,p3,p4,p5,p6⟩⟩
        clear hQ hj
        extract_lets -underBinder s0 vna s1 vnb s2 vout s3 vmg s4 vac vbc jp vmx
        have DN:∀ mg,wpS (PySem.model prog w) A E s (jp () mg) QQ U:=by
         intro mg
         dsimp -zeta -zetaHave -zetaUnused only [jp,s0,vna,s1,vnb,s2,vout,s3,vmg,s4,vac,vbc]
         clear vmx jp vbc vac s4 vmg s3 vout s2 vnb s1 vna s0
         refine wpS_bind (wpS_modify ?_)
         refine sU (P:=Same st) (CS.trans ⟨rfl,rfl,rfl,rfl⟩) fun Dv CI => ?_
         have DO:=CI.kind.trans hk
         refine wpS_bind (ay hy ?_)
         refine wpS_bind (hg false y a [] (a.toList.take CG) (a.toList.drop CG) _ _ _ _ _ DO (Dt _ D7) (by simp) rfl (eT (by lia)) (fun x hx=>Ds x (List.mem_of_mem_take hx)) (by lia) ((List.pairwise_append.mp m3.pa).1) fun X Y e hX hY => ?_)
         dsimp -zeta -zetaHave -zetaUnused only
         have m4:=m3.galA c e (by lia) D3 fun x hx=>c.asym _ _ (sV (hY x hx))
         have CJ : 0 < X.length -> ∀ x4,a.toList[X.length - 1]? = some x4->lt y x4=false:=fun h0 x4 D9=>xk (hX x4 (mN e h0 D9))
         have Dw:=ko e (by lia)
         extract_lets -underBinder +onlyGivenNames vk vac Da
         clear_value vac
         have Dg:∀ (D5:Nat) (J:Array Keyed),MH lt a.toList b.toList J.toList D5 O->(∀ x4,a.toList[D5 - 1]? = some x4->lt y x4=false)->0 < D5->D5 < a.size->i+2<=J.size->wpS (PySem.model prog w) A E s (Da () D5 J) QQ Dv:=by
          intro D5 J Ed Db DU EE DP
          dsimp -zeta -zetaHave -zetaUnused only [Da]
          clear Da vk Dw CJ m4 hX hY
          obtain ⟨x4,D9,CN,DQ⟩:=ax (a:=a) (i:=D5 - 1) (by lia)
          refine wpS_bind (ay hy ?_)
          have m5:=Ed.pushB c DU (by lia) CN D3 (Db x4 CN)
          rw [<- Array.toList_push] at m5
          have CO:i+2<=(J.push y).size:=by rw [Array.size_push];lia
          try dsimp -zeta -zetaHave -zetaUnused only
          extract_lets -underBinder +onlyGivenNames vo5
          dsimp -zeta -zetaHave -zetaUnused only [vo5]
          clear vo5
          revert m5 CO
          generalize J.push y=out5
          intro m5 CO
          refine ad (fun h => ?_) (fun h => ?_)
          ·exact aa (G _ _ _ CI (m5.finR (by rw [eq_of_beq h];exact CW)))
          ·have h:O - 1≠1:=by simpa using h
           refine wpS_bind (ay D9 ?_)
           refine wpS_bind (hg true x4 b [] (b.toList.take (O - 1)) (b.toList.drop (O - 1)) _ _ _ _ _ DO (Ds _ DQ) (by simp) rfl (eT (by lia)) (fun x hx=>Dt x (List.mem_of_mem_take hx)) (by lia) ((List.pairwise_append.mp m5.pb).1) fun X2 Y2 e2 Dm Dn => ?_)
           dsimp -zeta -zetaHave -zetaUnused only
           have m6:=m5.galB c e2 DU CN fun x hx=>sW (Dn x hx)
           have CK : 0 < X2.length -> ∀ y6,b.toList[X2.length - 1]? = some y6->lt x4 y6=false:=fun h0 y6 DR=>c.asym _ _ (xm (Dm y6 (mN e2 h0 DR)))
           have Dx:=ko e2 (by lia)
           extract_lets -underBinder +onlyGivenNames vk vbc Dc
           clear_value vbc
           have Dh:∀ (Dj:Nat) (CD:Array Keyed),MH lt a.toList b.toList CD.toList D5 Dj->(∀ y6,b.toList[Dj - 1]? = some y6->lt x4 y6=false)->1 < Dj->Dj<=b.size->i+2<=CD.size->wpS (PySem.model prog w) A E s (Dc () Dj CD) QQ Dv:=by
            intro Dj CD Ee Dd Et Ef Er
            dsimp -zeta -zetaHave -zetaUnused only [Dc]
            clear Dc vk Dx CK m6 Dm Dn m5 CO DP h5 h1 h2 CT CV hsz Dl DB DS DT h3
            obtain ⟨y6,DR,Di,Es⟩:=ax (a:=b) (i:=Dj - 1) (by lia)
            refine wpS_bind (ay D9 ?_)
            have m7:=Ee.pushA c DU (by lia) CN Di (Dd y6 Di)
            rw [<- Array.toList_push] at m7
            dsimp only
            refine ad (fun h => ?_) (fun h => ?_)
            ·exact aa (G _ _ _ CI (m7.finL (.inl (eq_of_beq h))))
            ·have h:D5 - 1≠0:=by simpa using h
             have:=fun mg ac bc=>Ec Dv (CD.push x4) (D5 - 1) Dj mg ac bc CI m7 (by lia) Et (by lia) Ef (by rw [Array.size_push];lia)
             exact ad (fun _=>aa (this _ _ _).1) (fun _=>aa (this _ _ _).2)
           clear_value Dc
           refine ad (fun h0 => ?_) (fun h0 => ?_)
           ·dsimp only
            have m6:=m6.cut (a:=b) e2
            refine ad (fun h => ?_) (fun h => ?_)
            ·exact aa (G _ _ _ CI (m6.finR (by rw [eq_of_beq h];exact CW)))
            ·have h:X2.length≠1:=by simpa using h
             refine ad (fun h9 => ?_) (fun h9 => ?_)
             ·exact aa (G _ _ _ CI (m6.finL (.inr (eq_of_beq h9))))
             ·have h9:X2.length≠0:=by simpa using h9
              exact Dh _ _ m6 (CK (by lia)) (by lia) (by lia) (by rw [Array.size_append];lia)
           ·have h0 : ¬ (O - 1 - X2.length > 0):=h0
            have hl:X2.length=O - 1:=by lia
            have DF : 0 < X2.length:=by lia
            have hr:=CK DF
            rw [hl] at hr
            exact Dh _ _ m5 hr (by lia) (by lia) CO
         clear_value Da
         refine ad (fun h0 => ?_) (fun h0 => ?_)
         ·dsimp only
          have m4:=m4.cut (a:=a) e
          refine ad (fun h => ?_) (fun h => ?_)
          ·exact aa (G _ _ _ CI (m4.finL (.inl (eq_of_beq h))))
          ·have h:X.length≠0:=by simpa using h
           exact Dg _ _ m4 (CJ (by lia)) (by lia) (by lia) (by rw [Array.size_append];lia)
         ·have h0 : ¬ (CG - X.length > 0):=h0
          have hl:X.length=CG:=by lia
          have hr:=CJ (by lia)
          rw [hl] at hr
          exact Dg _ _ m3 hr h1 CT h5
        clear_value jp
        exact ad (fun _=>DN _) (fun _=>DN _)
       ·rintro r U ⟨CS,CG,O,F,CQ,DL,DM,rfl,m3,h1,h2,CT,CV,h5⟩
        exact ⟨CS, .inl ⟨_,_,_,_,_,_,rfl,m3,h1,h2,CT,CV,h5⟩⟩
       ·rintro r U ⟨CS,⟨CG,O,F,CQ,DL,DM,rfl,m3,h1,h2,CT,CV,h5⟩ | ⟨res,t,rfl,I⟩⟩
        ·try dsimp -zeta -zetaHave -zetaUnused only
         refine wpS_bind (wpS_modify ?_)
         exact aa ⟨CS.trans ⟨rfl,rfl,rfl,rfl⟩,_,_,_,_,rfl,m3,h1,h2,CT,CV,by lia⟩
        ·exact aa ⟨CS,_,_,rfl,I⟩
      ·exact aa ⟨sm,_,_,rfl,I⟩
    ·rintro r CZ ⟨sm,na,nb,out,mg,rfl,m,Dl,DB,DS,DT,hsz⟩
     have:=m.size (by simp;lia) (by simp;lia)
     simp at this
     lia
    ·rintro r CZ ⟨sm,res,t,rfl,I⟩
     exact aa (q res CZ I.1 I.2 sm)
end
end Srt
end L2
namespace L2
namespace Srt
open PySem PySem.Spec PyProof.Rows
section
variable {prog:Program} {w:World} {A:Around} {E:Value->Shared->Prop} {s:Shared} {kd:SortKind} {P:Keyed->Prop} {lt:Keyed->Keyed->Bool}
structure Kp (st st':SortSt):Prop where
 kind:kindOf st'=kindOf st
 pend:pendingOf st'=pendingOf st
 fail:failedOf st'=failedOf st
theorem Kp.refl {st:SortSt}:Kp st st:=⟨rfl,rfl,rfl⟩
theorem Kp.trans {a b c:SortSt} (h:Kp a b) (g:Kp b c):Kp a c:=⟨g.kind.trans h.kind,g.pend.trans h.pend,g.fail.trans h.fail⟩
theorem oh {a:Array Keyed} {L B R:List Keyed} (e:a.toList=L++(B++R)) {i j:Nat} (hi:i=L.length) (q:j=L.length+B.length):(mirror a i j ((j - i) / 2)).toList=L++(B.reverse++R):=by
 have hs:a.size=L.length+(B.length+R.length):=by rw [<- Array.length_toList,e];simp
 apply List.ext_getElem?
 intro k
 rw [Array.getElem?_toList,getElem?_mirror_all (by lia)]
 have g:∀ n:Nat,a[n]? = (L++(B++R))[n]? := fun n=>by rw [<- Array.getElem?_toList,e]
 rw [g,g]
 by_cases h1:k < L.length
 ·rw [if_neg (by lia),List.getElem?_append_left h1,List.getElem?_append_left h1]
 ·by_cases h2:k < j
  ·rw [if_pos (by lia),List.getElem?_append_right (by lia),List.getElem?_append_left (by lia),List.getElem?_append_right (by lia),List.getElem?_append_left (by simp;lia),List.getElem?_reverse (by lia)]
   congr 1;lia
  ·rw [if_neg (by lia),List.getElem?_append_right (by lia),List.getElem?_append_right (by lia),List.getElem?_append_right (by lia),List.getElem?_append_right (by simp;lia)]
   simp
theorem oi {a:Array Keyed} {L j q R:List Keyed} {x:Keyed} (e:a.toList=L++((j++q)++x::R)) {src d:Nat} (hi:src=L.length+(j.length+q.length)) (hd:d=q.length):(bubble a src d).toList=L++((j++x::q)++R):=by
 have hs:a.size=L.length+(j.length+q.length+(R.length+1)):=by rw [<- Array.length_toList,e];simp;lia
 apply List.ext_getElem?
 intro k
 rw [Array.getElem?_toList,getElem?_bubble (by lia) d (by lia)]
 have g:∀ n:Nat,a[n]? = (L++((j++q)++x::R))[n]? := fun n=>by rw [<- Array.getElem?_toList,e]
 rw [g,g,g]
 by_cases h1:k < L.length
 ·rw [if_neg (by lia),if_neg (by lia),List.getElem?_append_left h1,List.getElem?_append_left h1]
 ·by_cases h2:k < L.length+j.length
  ·rw [if_neg (by lia),if_neg (by lia),List.getElem?_append_right (by lia),List.getElem?_append_left (by simp;lia),List.getElem?_append_left (by lia),List.getElem?_append_right (by lia),List.getElem?_append_left (by simp;lia),List.getElem?_append_left (by lia)]
  ·by_cases h3:k=L.length+j.length
   ·rw [if_pos (by lia),List.getElem?_append_right (by lia),List.getElem?_append_right (by simp;lia),List.getElem?_append_right (by lia),List.getElem?_append_left (by simp;lia),List.getElem?_append_right (by lia)]
    have e1:src - L.length - (j++q).length=0:=by simp;lia
    have e2:k - L.length - j.length=0:=by lia
    rw [e1,e2];rfl
   ·by_cases h4:k<=src
    ·rw [if_neg (by lia),if_pos (by lia),List.getElem?_append_right (by lia),List.getElem?_append_left (by simp;lia),List.getElem?_append_right (by lia),List.getElem?_append_right (by lia),List.getElem?_append_left (by simp;lia),List.getElem?_append_right (by lia)]
     have e2:k - L.length - j.length=(k - 1 - L.length - j.length)+1:=by lia
     rw [e2,List.getElem?_cons_succ]
    ·rw [if_neg (by lia),if_neg (by lia),List.getElem?_append_right (by lia),List.getElem?_append_right (by simp;lia),List.getElem?_append_right (by lia),List.getElem?_append_right (by simp;lia)]
     have e2:k - L.length - (j++q).length=(k - L.length - (j++x::q).length)+1:=by simp;lia
     rw [e2,List.getElem?_cons_succ]
theorem dg (c:Cm prog w A s kd P lt) {i j:Nat} {x y:Keyed} {st:SortSt} {Q:Option Bool->SortSt->Prop} (n:kindOf st=kd) (hx:(arrOf st)[i]? = some x) (z:(arrOf st)[j]? = some y) (px:P x) (py:P y) (q:Q (some (lt x y)) st):wpS (PySem.model prog w) A E s (ltAt' i j) Q st:=by
 rw [ltAt'_eq]
 exact wpS_bind (wpS_get (wpS_bind (ay hx (wpS_bind (ay z (iT c n px py q))))))
theorem iU {i j:Nat} {st:SortSt} {Q:Unit->SortSt->Prop} {L B R:List Keyed} (e:(arrOf st).toList=L++(B++R)) (hi:i=L.length) (n:j=L.length+B.length) (q:∀ st',(arrOf st').toList=L++(B.reverse++R)->Kp st st'->Q () st'):wpS (PySem.model prog w) A E s (reverseSlice' i j) Q st:=by
 rw [reverseSlice'_eq]
 exact wpS_modify (q _ (oh e hi n) ⟨rfl,rfl,rfl⟩)
theorem bW {st:SortSt} {L xs:List Keyed} (e:(arrOf st).toList=L++xs) {i n:Nat} (hi:i=L.length+n):(arrOf st)[i]? = xs[n]? := by
 rw [<- Array.getElem?_toList,e,hi,List.getElem?_append_right (by lia)]
 congr 1;lia
theorem mQ (c:Cm prog w A s kd P lt) {xs:List Keyed} {n:Nat} {x y:Keyed} (h:Ord lt (xs.take n)) (q : 0 < n) (hx:xs[n]? = some x) (B:xs[n - 1]? = some y) (F:lt x y=false):Ord lt (xs.take (n+1)):=by
 rw [List.take_add_one,hx]
 refine List.pairwise_append.mpr ⟨h,by simp,fun z G u j => ?_⟩
 simp at j;subst j
 exact gv c h q B F z G
noncomputable abbrev cH (lt:Keyed->Keyed->Bool) (l:List Keyed):Prop:=l.Pairwise fun x y=>lt x y=false
theorem gZ (c:Cm prog w A s kd P lt) {D:List Keyed} {e x:Keyed} (h:cH lt (D++[e])) (hx:lt e x=false):cH lt (D++[e]++[x]):=by
 refine List.pairwise_append.mpr ⟨h,by simp,fun z n u j => ?_⟩
 simp at j;subst j
 obtain ⟨_,_,B⟩:=List.pairwise_append.mp h
 rcases List.mem_append.mp n with g | g
 ·cases q:lt z u with
  | false=>rfl
  | true=>rcases c.neg z e u q with r | r
          ·rw [B z g e (by simp)] at r;cases r
          ·rw [hx] at r;cases r
 ·simp at g;subst g;exact hx
theorem oR {n F:List Keyed} (h:cH lt (n++F)) (he:∀ x∈F, ∀ y∈F,lt x y=false):cH lt (n++F.reverse):=by
 obtain ⟨h1,h2,q⟩:=List.pairwise_append.mp h
 refine List.pairwise_append.mpr ⟨h1, ?_,fun x hx y j=>q x hx y (List.mem_reverse.mp j)⟩
 rw [List.pairwise_reverse]
 exact h2.imp_of_mem fun hx j _=>he _ j _ hx
theorem perm_take {xs:List Keyed} {n:Nat}:(xs.take n++xs.drop n).Perm xs:=by rw [List.take_append_drop]
theorem oj (c:Cm prog w A s kd P lt) {L xs:List Keyed} {st:SortSt} {Q:Option Nat->SortSt->Prop} (hk:kindOf st=kd) (J:(arrOf st).toList=L++xs) (h0:xs≠[]) (hP:∀ x∈xs,P x)
 (q:∀ r R st',(arrOf st').toList=L++(r++R)->(r++R).Perm xs->r≠[]->Ord lt r->Kp st st'->Q (some r.length) st'):wpS (PySem.model prog w) A E s (countRun' L.length xs.length) Q st:=by
 have D3 : 0 < xs.length:=List.length_pos_iff.mpr h0
 rw [countRun'_eq]
 try dsimp -zeta -zetaHave -zetaUnused only
 refine wpS_bind (az (Q:=fun r st'=>st'=st /\ ∃ n,r=(none,n)/\1<=n/\n<=xs.length/\Ord lt (xs.take n)/\(n=xs.length ∨ ∃ x y,xs[n]? = some x/\xs[n - 1]? = some y/\lt x y=true))
  (wpS_forRange (fun i r st'=>st'=st/\r=(none,i)/\Ord lt (xs.take i)) ?_ ?_ ⟨rfl,rfl,by
    cases xs with
    | nil=>exact absurd rfl h0
    | cons x t=>simp⟩) ?_)
 ·rintro i r st' h1 hi ⟨rfl,rfl,ho⟩
  dsimp only
  obtain ⟨x,hx⟩:∃ x,xs[i]? = some x:=⟨_,List.getElem?_eq_getElem hi⟩
  obtain ⟨y,hy⟩:∃ y,xs[i - 1]? = some y:=⟨_,List.getElem?_eq_getElem (by lia)⟩
  refine wpS_bind (dg c hk ((bW J rfl).trans hx) ((bW J (by lia)).trans hy) (hP _ (List.mem_of_getElem? hx)) (hP _ (List.mem_of_getElem? hy)) ?_)
  dsimp only
  refine ad (fun h => ?_) (fun h => ?_)
  ·exact aa ⟨rfl,i,rfl,h1,by lia,ho, .inr ⟨x,y,hx,hy,h⟩⟩
  ·exact aa ⟨rfl,rfl,mQ c ho (by lia) hx hy (by simpa using h)⟩
 ·rintro r st' ⟨rfl,rfl,ho⟩
  exact ⟨rfl,_,rfl,by lia,by lia,ho, .inl (by lia)⟩
 ·rintro r st' ⟨rfl,n,rfl,Ds,D4,ho,hc⟩
  dsimp -zeta -zetaHave -zetaUnused only
  have CM:Q (some n) st':=by
   have:=q (xs.take n) (xs.drop n) st' (by rw [J,List.take_append_drop]) perm_take (fun z=>by
    have h3:=congrArg List.length z
    rw [List.length_take,List.length_nil] at h3;lia) ho Kp.refl
   rw [List.length_take,Nat.min_eq_left D4] at this
   exact this
  extract_lets -underBinder +onlyGivenNames vr vn
  dsimp -zeta -zetaHave -zetaUnused only [vr]
  clear vr
  have en:n=vn:=rfl
  clear_value vn
  subst en
  refine ad (fun h=>aa CM) (fun h => ?_)
  have Df:n≠xs.length:=by simpa using h
  obtain ⟨x,y,hx,hy,Dg⟩:=hc.resolve_left Df
  have Dt:n < xs.length:=by lia
  have exs:xs=xs.take n++x::xs.drop (n+1):=by
   have h1:=(List.take_append_drop n xs).symm
   rw [dA hx] at h1
   exact h1
  have D5:y∈xs.take n:=by rw [cy (by lia) hy];simp
  extract_lets -underBinder +onlyGivenNames jp
  have D6:∀ (B:List Keyed) (Z:SortSt),(arrOf Z).toList=L++(B++x::xs.drop (n+1))->B.Perm (xs.take n)->B.length=n->(∀ u∈B, ∀ v∈B,lt u v=false)->y∈B->Kp st' Z->wpS (PySem.model prog w) A E s (jp ()) Q Z:=by
   intro B Z e1 hB CC CD CF CG
   dsimp -zeta -zetaHave -zetaUnused only [jp]
   clear jp
   refine wpS_bind (cw ?_)
   try dsimp -zeta -zetaHave -zetaUnused only
   extract_lets -underBinder +onlyGivenNames vn1 vq1
   have Dh:vn1=n+1:=rfl
   have eq1:vq1=0:=rfl
   clear_value vn1 vq1
   subst Dh eq1
   refine wpS_bind (az (Q:=fun r O => ∃ G F R neq,Kp st' O/\(arrOf O).toList=L++((G++F)++R)/\((G++F)++R).Perm xs/\r=(none,(G++F).length,neq)/\F.length=neq+1/\cH lt (G++F)/\(∀ u∈F, ∀ v∈F,lt u v=false))
    (wpS_forRange (fun i r O => ∃ G F R neq,Kp st' O/\(arrOf O).toList=L++((G++F)++R)/\((G++F)++R).Perm xs/\r=(none,(G++F).length,neq)/\F.length=neq+1/\cH lt (G++F)/\(∀ u∈F, ∀ v∈F,lt u v=false)/\(G++F).length=i) ?_ ?_ ?_) ?_)
   ·rintro i r O Du hi ⟨G,F,R,neq,kp,ea,hp,rfl,hF,hN,hE,D7⟩
    subst D7
    have hlen:=hp.length_eq
    rw [List.length_append] at hlen
    obtain ⟨z,R',rfl⟩:∃ z R',R=z::R':=by
     cases R with
     | nil=>simp at hlen;simp at hi;lia
     | cons z R'=>exact ⟨z,R',rfl⟩
    have Di:F≠[]:=fun z=>by rw [z] at hF;simp at hF
    obtain ⟨F0,e,rfl⟩:∃ F0 e,F=F0++[e]:=⟨F.dropLast,F.getLast Di,(List.dropLast_concat_getLast _).symm⟩
    have hz:(arrOf O)[L.length+(G++(F0++[e])).length]? = some z:=by
     rw [bW ea rfl,List.getElem?_append_right (by lia),Nat.sub_self];rfl
    have he:(arrOf O)[L.length+(G++(F0++[e])).length - 1]? = some e:=by
     rw [bW ea (n:=(G++F0).length) (by simp <;> lia),List.getElem?_append_left (by simp <;> lia), <- List.append_assoc,List.getElem?_append_right (by lia),Nat.sub_self];rfl
    have D8:P z:=hP z (hp.mem_iff.mp (by simp))
    have D9:P e:=hP e (hp.mem_iff.mp (by simp))
    dsimp only
    refine wpS_bind (dg c (kp.kind.trans hk) hz he D8 D9 ?_)
    dsimp only
    have CQ:cH lt (G++F0++[e]):=by rw [List.append_assoc];exact hN
    refine ad (fun CS => ?_) (fun CS => ?_)
    ·have CH:lt e z=false:=c.asym _ _ CS
     refine ad (fun CI => ?_) (fun CI => ?_)
     ·refine wpS_bind (iU (L:=L++G) (B:=F0++[e]) (R:=z::R') (by rw [ea];simp) (by simp only [List.length_append] at hF ⊢;simp only [List.length_singleton] at hF ⊢;lia) (by simp <;> lia) fun U e3 S => ?_)
      refine aa ⟨G++(F0++[e]).reverse,[z],R',0,kp.trans S,by rw [e3];simp, ?_,by simp <;> lia,rfl, ?_, ?_,by simp <;> lia⟩
      ·refine List.Perm.trans ?_ hp
       rw [List.append_assoc,List.append_assoc,List.append_assoc]
       exact List.Perm.append_left _ (List.Perm.append_right _ (List.reverse_perm _))
      ·have h1:=oR hN hE
       refine List.pairwise_append.mpr ⟨h1,by simp,fun u j v I => ?_⟩
       simp at I;subst I
       have hm:=gZ c CQ CH
       refine (List.pairwise_append.mp hm).2.2 u ?_ v (by simp)
       rw [List.append_assoc]
       rcases List.mem_append.mp j with g | g
       ·exact List.mem_append_left _ g
       ·exact List.mem_append_right _ (List.mem_reverse.mp g)
      ·intro u j v I;simp at j I;subst j I;exact c.irr
     ·refine aa ⟨G++(F0++[e]),[z],R',0,kp,by rw [ea];simp,by simpa using hp,by simp <;> lia,rfl, ?_, ?_,by simp <;> lia⟩
      ·have hm:=gZ c CQ CH
       simpa using hm
      ·intro u j v I;simp at j I;subst j I;exact c.irr
    ·have Dj:lt z e=false:=by simpa using CS
     refine wpS_bind (dg c (kp.kind.trans hk) he hz D9 D8 ?_)
     dsimp only
     refine ad (fun Da => ?_) (fun Da => ?_)
     ·exact aa ⟨G,F0++[e],z::R',neq,kp,ea,hp,rfl,hF,hN,hE⟩
     ·have CH:lt e z=false:=by simpa using Da
      refine aa ⟨G,(F0++[e])++[z],R',neq+1,kp,by rw [ea];simp,by simpa using hp,by simp <;> lia,by simp at hF ⊢;lia, ?_, ?_,by simp <;> lia⟩
      ·have hm:=gZ c CQ CH
       simpa using hm
      ·have Dl:∀ u∈F0++[e],lt u z=false:=fun u j=>by
        cases q1:lt u z with
        | false=>rfl
        | true=>rcases c.neg u e z q1 with r | r
                ·rw [hE u j e (by simp)] at r;cases r
                ·rw [CH] at r;cases r
       have Dm:∀ u∈F0++[e],lt z u=false:=fun u j=>by
        cases q1:lt z u with
        | false=>rfl
        | true=>rcases c.neg z e u q1 with r | r
                ·rw [Dj] at r;cases r
                ·rw [hE e (by simp) u j] at r;cases r
       intro u j v I
       rcases List.mem_append.mp j with g | g <;> rcases List.mem_append.mp I with g2 | g2
       ·exact hE u g v g2
       ·simp at g2;subst g2;exact Dl u g
       ·simp at g;subst g;exact Dm v g2
       ·simp at g g2;subst g g2;exact c.irr
   ·rintro r O ⟨G,F,R,neq,kp,ea,hp,hr,hF,hN,hE,D7⟩
    exact ⟨G,F,R,neq,kp,ea,hp,hr,hF,hN,hE⟩
   ·refine ⟨B,[x],xs.drop (n+1),0,CG,by rw [e1];simp, ?_,by simp [CC],rfl, ?_, ?_,by simp [CC]⟩
    ·have h9:(B++x::xs.drop (n+1)).Perm xs:=by
      have h9:=List.Perm.append_right (x::xs.drop (n+1)) hB
      rw [<- exs] at h9
      exact h9
     simpa using h9
    ·refine List.pairwise_append.mpr ⟨List.Pairwise.imp_of_mem (fun j I _=>CD _ j _ I) (List.pairwise_of_forall_mem_list (r:=fun _ _=>True) fun _ _ _ _=>trivial),by simp,fun u j v I => ?_⟩
     simp at I;subst I
     cases q1:lt u v with
     | false=>rfl
     | true=>rcases c.neg u y v q1 with r | r
             ·rw [CD u j y CF] at r;cases r
             ·rw [c.asym _ _ Dg] at r;cases r
    ·intro u j v I;simp at j I;subst j I;exact c.irr
   ·rintro r O ⟨G,F,R,neq,kp,ea,hp,rfl,hF,hN,hE⟩
    dsimp -zeta -zetaHave -zetaUnused only
    extract_lets -underBinder +onlyGivenNames vr vs vn2 vq2
    dsimp -zeta -zetaHave -zetaUnused only [vr]
    have Dn:vn2=(G++F).length:=rfl
    have eq2:neq=vq2:=rfl
    clear_value vn2 vq2
    clear vs vr
    subst Dn eq2
    extract_lets -underBinder +onlyGivenNames CJ
    have CN:∀ (D:List Keyed) (U:SortSt),(arrOf U).toList=L++(D++R)->cH lt D->(D++R).Perm xs->D.length=(G++F).length->0 < D.length->Kp st' U->wpS (PySem.model prog w) A E s (CJ ()) Q U:=by
     intro D U e3 CT CU CK CO S
     dsimp -zeta -zetaHave -zetaUnused only [CJ]
     clear CJ
     have Do : 0 < D.length:=by lia
     refine wpS_bind (iU (L:=L) (B:=D) (R:=R) e3 rfl (by rw [CK]) fun Db e4 Dc => ?_)
     have o4:Ord lt D.reverse:=List.pairwise_reverse.mpr CT
     have CL:(D.reverse++R).Perm xs:=(List.Perm.append_right _ (List.reverse_perm D)).trans CU
     have Dd:(D.reverse++R).length=xs.length:=CL.length_eq
     have CV:Ord lt ((D.reverse++R).take D.length):=by
      rw [List.take_append_of_le_length (by simp),List.take_of_length_le (by simp)];exact o4
     have CW:∀ u∈D.reverse++R,P u:=fun u j=>hP u (CL.mem_iff.mp j)
     have Dp:D.length<=xs.length:=by rw [<- Dd];simp
     rw [<- CK]
     generalize D.length=N0 at CV Do Dp
     generalize D.reverse++R=ys at e4 CL Dd CV CW
     refine wpS_bind (az (Q:=fun r Y=>Y=Db /\ ∃ n,r=(none,n)/\1<=n/\n<=xs.length/\Ord lt (ys.take n))
      (wpS_forRange (fun i r Y=>Y=Db/\r=(none,i)/\Ord lt (ys.take i)) ?_ ?_ ⟨rfl,rfl,CV⟩) ?_)
     ·rintro i r Y h1 hi ⟨rfl,rfl,ho⟩
      dsimp only
      obtain ⟨u,j⟩:∃ u,ys[i]? = some u:=⟨_,List.getElem?_eq_getElem (by lia)⟩
      obtain ⟨v,I⟩:∃ v,ys[i - 1]? = some v:=⟨_,List.getElem?_eq_getElem (by lia)⟩
      refine wpS_bind (dg c ((S.trans Dc).kind.trans hk) ((bW e4 rfl).trans j) ((bW e4 (by lia)).trans I) (CW _ (List.mem_of_getElem? j)) (CW _ (List.mem_of_getElem? I)) ?_)
      dsimp only
      refine ad (fun h => ?_) (fun h => ?_)
      ·exact aa ⟨rfl,i,rfl,by lia,by lia,ho⟩
      ·exact aa ⟨rfl,rfl,mQ c ho (by lia) j I (by simpa using h)⟩
     ·rintro r Y ⟨rfl,rfl,ho⟩
      exact ⟨rfl,_,rfl,by lia,by lia,ho⟩
     ·rintro r Y ⟨rfl,m,rfl,Dv,Dw,ho⟩
      refine aa ?_
      have:=q (ys.take m) (ys.drop m) Y (by rw [e4,List.take_append_drop]) (perm_take.trans CL) (fun z=>by
       have h3:=congrArg List.length z
       rw [List.length_take,List.length_nil] at h3;lia) ho (S.trans Dc)
      rw [List.length_take,Nat.min_eq_left (by lia)] at this
      exact this
    clear_value CJ
    refine ad (fun CI => ?_) (fun CI => ?_)
    ·refine wpS_bind (iU (L:=L++G) (B:=F) (R:=R) (by rw [ea];simp) (by simp <;> lia) (by simp <;> lia) fun U e3 S => ?_)
     have S:=kp.trans S
     have e3:(arrOf U).toList=L++((G++F.reverse)++R):=by rw [e3];simp
     have CT:=oR hN hE
     have CU:((G++F.reverse)++R).Perm xs:=(List.Perm.append_right _ (List.Perm.append_left _ (List.reverse_perm _))).trans hp
     have CK:(G++F.reverse).length=(G++F).length:=by simp
     have CO : 0 < (G++F.reverse).length:=by simp <;> lia
     exact CN _ _ e3 CT CU CK CO S
    ·exact CN _ _ ea hN hp rfl (by simp <;> lia) kp
  clear_value jp
  refine ad (fun h1 => ?_) (fun h1 => ?_)
  ·obtain ⟨x0,CY⟩:∃ x0,xs[0]? = some x0:=⟨_,List.getElem?_eq_getElem D3⟩
   refine wpS_bind (dg c hk ((bW J (n := 0) (by lia)).trans CY) ((bW J (by lia)).trans hy) (hP _ (List.mem_of_getElem? CY)) (hP _ (List.mem_of_getElem? hy)) ?_)
   dsimp only
   refine ad (fun hr=>aa CM) (fun hr => ?_)
   have hr:lt x0 y=false:=by simpa using hr
   have De:∀ u∈xs.take n,lt u x0=false:=fun u j=>by
    obtain ⟨i,hi,eu⟩:=List.mem_iff_getElem.mp j
    have CZ:(xs.take n)[i]? = some u:=by rw [<- eu];exact List.getElem?_eq_getElem hi
    have CP:(xs.take n)[0]? = some x0:=by rw [List.getElem?_take_of_lt (by lia)];exact CY
    by_cases hi0:i=0
    ·subst hi0;rw [CP] at CZ;cases CZ;exact c.irr
    ·exact eh ho (by lia) CP CZ
   have Dq:∀ u∈xs.take n,lt y u=false:=gv c ho (by lia) hy c.irr
   have heq:∀ u∈xs.take n, ∀ v∈xs.take n,lt u v=false:=fun u j v I=>by
    exact c.le_trans (c.le_trans (Dq v I) hr) (De u j)
   refine wpS_bind (iU (L:=L) (B:=xs.take n) (R:=x::xs.drop (n+1)) (by rw [J];exact congrArg (L ++ ·) exs) rfl (by rw [List.length_take,Nat.min_eq_left D4]) fun Z e1 CG => ?_)
   have hB:(xs.take n).reverse.Perm (xs.take n):=List.reverse_perm _
   have CC:(xs.take n).reverse.length=n:=by rw [List.length_reverse,List.length_take];lia
   have CD:∀ u∈(xs.take n).reverse, ∀ v∈(xs.take n).reverse,lt u v=false:=fun u j v I=>heq u (List.mem_reverse.mp j) v (List.mem_reverse.mp I)
   have CF:y∈(xs.take n).reverse:=List.mem_reverse.mpr D5
   exact D6 _ _ e1 hB CC CD CF CG
  ·have Z:=st'
   have hn:n=1:=by lia
   have CG:Kp st' st':=Kp.refl
   have e1:(arrOf st').toList=L++(xs.take n++x::xs.drop (n+1)):=by rw [J];exact congrArg (L ++ ·) exs
   have hB:(xs.take n).Perm (xs.take n):=List.Perm.refl _
   have CC:(xs.take n).length=n:=by rw [List.length_take];lia
   have CF:=D5
   have CD:∀ u∈xs.take n, ∀ v∈xs.take n,lt u v=false:=fun u j v I=>by
    have e0:xs.take n=[y]:=by
     subst hn
     rw [cy (by lia) hy];rfl
    rw [e0] at j I
    simp at j I;subst j I;exact c.irr
   exact D6 _ _ e1 hB CC CD CF CG
end
end Srt
end L2
namespace L2
namespace Srt
open PySem PySem.Spec PyProof.Rows
section
variable {prog:Program} {w:World} {A:Around} {E:Value->Shared->Prop} {s:Shared} {kd:SortKind} {P:Keyed->Prop} {lt:Keyed->Keyed->Bool}
theorem sX (c:Cm prog w A s kd P lt) {L r R:List Keyed} {n:Nat} {st:SortSt} {Q:Bool->SortSt->Prop} (hk:kindOf st=kd) (S:(arrOf st).toList=L++(r++R)) (h0:r≠[]) (ho:Ord lt r) (hn:r.length<=n) (Z:n<=(r++R).length) (hP:∀ x∈r++R,P x)
 (q:∀ r' R' st',(arrOf st').toList=L++(r'++R')->(r'++R').Perm (r++R)->r'.length=n->Ord lt r'->Kp st st'->Q true st'):wpS (PySem.model prog w) A E s (binarySort' L.length n r.length) Q st:=by
 have CI : 0 < r.length:=List.length_pos_iff.mpr h0
 rw [binarySort'_eq]
 refine wpS_bind (az (Q:=fun x st'=>x=(none,()) /\ ∃ D T,Kp st st'/\(arrOf st').toList=L++(D++T)/\(D++T).Perm (r++R)/\D.length=n/\Ord lt D)
  (wpS_forRange (fun i x st'=>x=(none,()) /\ ∃ D T,Kp st st'/\(arrOf st').toList=L++(D++T)/\(D++T).Perm (r++R)/\D.length=i/\Ord lt D) ?_ ?_ ⟨rfl,r,R,Kp.refl,S,List.Perm.refl _,by lia,ho⟩) ?_)
 ·rintro k x B CJ CK ⟨rfl,D,T,kp,ea,I,U,J⟩
  dsimp only
  subst U
  have hlen:=I.length_eq
  rw [List.length_append] at hlen
  obtain ⟨z,T',rfl⟩:∃ z T',T=z::T':=by
   cases T with
   | nil=>simp at hlen Z;lia
   | cons z T'=>exact ⟨z,T',rfl⟩
  have CC:∀ u∈D,P u:=fun u G=>hP u (I.mem_iff.mp (List.mem_append_left _ G))
  have CD:P z:=hP z (I.mem_iff.mp (by simp))
  have hz:(arrOf B)[L.length+D.length]? = some z:=by
   rw [bW ea rfl,List.getElem?_append_right (by lia),Nat.sub_self];rfl
  refine wpS_bind (az (Q:=fun x st'=>st'=B /\ ∃ k,x=(none,k,k)/\Gal lt false z D k k)
   (wpS_forRange (fun i x st'=>st'=B /\ ∃ lo hi,x=(none,lo,hi)/\Gal lt false z D lo hi/\hi - lo+i<=D.length) ?_ ?_ ⟨rfl,0,D.length,rfl,⟨by lia,by lia,fun _ _ h=>by lia,fun i x hi hx=>by
     have:=(List.getElem?_eq_some_iff.mp hx).1
     lia⟩,by lia⟩) ?_)
  ·rintro i x O _ hi ⟨rfl,lo,j,rfl,F,hm⟩
   dsimp only
   have hl:=F.le
   have CF:=F.len
   refine ad (fun CG => ?_) (fun CG => ?_)
   ·exact aa ⟨rfl,j,by rw [show lo=j by lia],by rw [show lo=j by lia] at F;exact F⟩
   ·obtain ⟨u,G⟩:∃ u,D[(lo+j) / 2]? = some u:=⟨_,List.getElem?_eq_getElem (by lia)⟩
    have CH:(arrOf O)[L.length+(lo+j) / 2]? = some u:=by
     rw [bW ea rfl,List.getElem?_append_left (by lia)];exact G
    refine wpS_bind (dg c (kp.kind.trans hk) hz CH CD (CC _ (List.mem_of_getElem? G)) ?_)
    dsimp only
    refine ad (fun hf => ?_) (fun hf => ?_)
    ·exact aa ⟨rfl,_,_,rfl,⟨by lia,by lia,F.up,gu c J G (by simp [bey,hf])⟩,by lia⟩
    ·exact aa ⟨rfl,_,_,rfl,⟨by lia,CF,gp c J G (by simpa [bey] using hf),F.dn⟩,by lia⟩
  ·rintro x O ⟨rfl,lo,j,rfl,F,hm⟩
   have hl:=F.le
   exact ⟨rfl,j,by rw [show lo=j by lia],by rw [show lo=j by lia] at F;exact F⟩
  ·rintro x O ⟨rfl,l,rfl,F⟩
   dsimp only
   obtain ⟨X,Y,e,hl,hX,hY⟩:=F.out
   subst hl e
   rw [moveDown'_eq]
   refine wpS_bind (wpS_modify ?_)
   refine aa ⟨rfl,X++z::Y,T',kp.trans ⟨rfl,rfl,rfl⟩,oi ea (by simp) (by simp;lia), ?_,by simp;lia, ?_⟩
   ·refine List.Perm.trans ?_ I
    rw [List.append_assoc,List.append_assoc]
    refine List.Perm.append_left _ ?_
    rw [List.cons_append]
    exact List.perm_middle.symm
   ·obtain ⟨o1,o2,o3⟩:=List.pairwise_append.mp J
    refine List.pairwise_append.mpr ⟨o1,List.pairwise_cons.mpr ⟨fun u G=>c.asym _ _ (by have:=hY u G;simpa [bey] using this),o2⟩,fun u G v hv => ?_⟩
    rcases List.mem_cons.mp hv with g | g
    ·subst g;have:=hX u G;simpa [bey] using this
    ·exact o3 u G v g
 ·rintro x B ⟨rfl,D,T,kp,ea,I,U,J⟩
  exact ⟨rfl,D,T,kp,ea,I,by lia,J⟩
 ·rintro x B ⟨rfl,D,T,kp,ea,I,U,J⟩
  exact aa (q D T B ea I U J kp)
noncomputable def Pd:Nat->List (List Keyed)->List (Nat×Nat×Nat)->Prop
 | _,[],ps=>ps=[]
 | s,r::rs,ps => ∃ p t,ps=(s,r.length,p)::t/\Pd (s+r.length) rs t
theorem Pd.split:∀ {l t:List (List Keyed)} {s:Nat} {ps:List (Nat×Nat×Nat)},Pd s (l++t) ps -> ∃ pl pt,ps=pl++pt/\pl.length=l.length/\Pd s l pl/\Pd (s+l.flatten.length) t pt
 | [],t,s,ps,h=>⟨[],ps,rfl,rfl,rfl,by simpa using h⟩
 | r::l,t,s,ps,h=>by
   obtain ⟨p,q,e,h⟩:=h
   obtain ⟨pl,pt,e2,j,h1,h2⟩:=Pd.split h
   refine ⟨(s,r.length,p)::pl,pt,by rw [e,e2];rfl,by simp [j],⟨p,pl,rfl,h1⟩, ?_⟩
   rw [List.flatten_cons,List.length_append, <- Nat.add_assoc];exact h2
theorem Pd.join:∀ {l t:List (List Keyed)} {s:Nat} {pl pt:List (Nat×Nat×Nat)},Pd s l pl->Pd (s+l.flatten.length) t pt->Pd s (l++t) (pl++pt)
 | [],t,s,pl,pt,h,g=>by
  have:pl=[]:=h
  subst this;simpa using g
 | r::l,t,s,pl,pt,h,g=>by
   obtain ⟨p,q,e,h⟩:=h
   subst e
   refine ⟨p,q++pt,rfl,Pd.join h ?_⟩
   rw [List.flatten_cons,List.length_append, <- Nat.add_assoc] at g;exact g
theorem Pd.length:∀ {l:List (List Keyed)} {s:Nat} {ps:List (Nat×Nat×Nat)},Pd s l ps->ps.length=l.length
 | [],_,_,h=>by rw [show _=[] from h];rfl
 | r::l,s,ps,h=>by
   obtain ⟨p,q,e,h⟩:=h
   rw [e];simp [h.length]
structure Rn (lt:Keyed->Keyed->Bool) (kd:SortKind) (a₀:List Keyed) (st:SortSt) (rs:List (List Keyed)) (R:List Keyed):Prop where
 arr:(arrOf st).toList=rs.flatten++R
 perm:(rs.flatten++R).Perm a₀
 ord:∀ r∈rs,r≠[]/\Ord lt r
 pend:Pd 0 rs (pendingOf st).toList
 kind:kindOf st=kd
 fail:failedOf st=none
theorem Rn.merge (c:Cm prog w A s kd P lt) {a₀:List Keyed} (hP:∀ x∈a₀,P x) {st:SortSt} {l t:List (List Keyed)} {j B R:List Keyed} (h:Rn lt kd a₀ st (l++j::B::t) R) {i:Nat} (hi:i=l.length) {Q:Bool->SortSt->Prop}
 (q:∀ m st',Rn lt kd a₀ st' (l++m::t) R->m.length=j.length+B.length->Q true st'):wpS (PySem.model prog w) A E s (mergeAt' i) Q st:=by
 obtain ⟨g,lo,CF,⟨J,L,O⟩,S⟩:=BP (E:=E) c
 obtain ⟨pl,pt,ep,G,U,Y⟩:=h.pend.split
 obtain ⟨I,t1,e1,Z⟩:=Y
 obtain ⟨p2,t2,e2,CC⟩:=Z
 subst e1 e2
 have o1:=h.ord j (by simp)
 have o2:=h.ord B (by simp)
 have F:∀ x,x∈j∨x∈B->P x:=fun x hx=>hP x (h.perm.mem_iff.mp (by simp only [List.flatten_append,List.flatten_cons,List.mem_append];rcases hx with z | z <;> simp [z]))
 have ip:∀ (k:Nat) (v:Nat×Nat×Nat),(pendingOf st).toList[k]? = some v->(pendingOf st)[k]? = some v:=fun k v e=>by rw [<- Array.getElem?_toList];exact e
 refine S J (L J) (O J) i (0+l.flatten.length) j.length I (0+l.flatten.length+j.length) B.length p2 l.flatten j B (t.flatten++R) st Q h.kind h.fail (ip _ _ ?_) (ip _ _ ?_) (by rw [h.arr];simp) (Nat.zero_add _) rfl (by lia) rfl o1.1 o2.1 (fun x hx=>F x (.inl hx)) (fun x hx=>F x (.inr hx)) o1.2 o2.2 ?_
 ·rw [ep,hi, <- G,List.getElem?_append_right (by lia),Nat.sub_self];rfl
 ·rw [ep,hi, <- G,List.getElem?_append_right (by lia),show pl.length+1 - pl.length=1 by lia];rfl
 ·intro m st' ea hm om hk hf CD
  have n:m.length=j.length+B.length:=by rw [hm.length_eq];simp
  refine q m st' ⟨by rw [ea];simp, ?_, ?_, ?_,hk,hf⟩ n
  ·refine List.Perm.trans ?_ h.perm
   simp only [List.flatten_append,List.flatten_cons,List.append_assoc]
   refine List.Perm.append_left _ ?_
   rw [<- List.append_assoc j]
   exact List.Perm.append_right _ hm
  ·intro r hr
   rcases List.mem_append.mp hr with z | z
   ·exact h.ord r (List.mem_append_left _ z)
   ·rcases List.mem_cons.mp z with z | z
    ·subst z;exact ⟨fun z=>by rw [z] at n;have:=List.length_pos_iff.mpr o1.1;simp at n;lia,om⟩
    ·exact h.ord r (by simp [z])
  ·rw [CD]
   have e3:(((pendingOf st).setIfInBounds i (0+l.flatten.length,j.length+B.length,I)).eraseIdxIfInBounds (i+1)).toList=pl++(0+l.flatten.length,j.length+B.length,I)::t2:=by
    rw [Array.toList_eraseIdxIfInBounds,Array.toList_setIfInBounds,ep,hi, <- G]
    rw [List.set_append_right _ _ (by lia),Nat.sub_self,List.eraseIdx_append_of_length_le (by lia),show pl.length+1 - pl.length=1 by lia];rfl
   rw [e3]
   refine U.join ⟨I,t2,by rw [n], ?_⟩
   rw [n, <- Nat.add_assoc];exact CC
theorem mR {α:Type} {l:List α} (h : 1 < l.length):∃ t a b,l=t++[a,b]:=by
 obtain ⟨t1,b,e1⟩:∃ t b,l=t++[b]:=⟨l.dropLast,l.getLast (fun z=>by rw [z] at h;simp at h),(List.dropLast_concat_getLast _).symm⟩
 obtain ⟨j,a,e2⟩:∃ t b,t1=t++[b]:=⟨t1.dropLast,t1.getLast (fun z=>by rw [e1,z] at h;simp at h),(List.dropLast_concat_getLast _).symm⟩
 exact ⟨j,a,b,by rw [e1,e2];simp⟩
theorem AJ {α:Type} {l:List α} {i:Nat} (h:i+1 < l.length):∃ t a b u,l=t++a::b::u/\t.length=i:=by
 refine ⟨l.take i,l[i],l[i+1],l.drop (i+2), ?_,by rw [List.length_take];lia⟩
 rw [<- List.drop_eq_getElem_cons (by lia), <- List.drop_eq_getElem_cons (by lia),List.take_append_drop]
theorem Rn.size {a₀:List Keyed} {st:SortSt} {rs:List (List Keyed)} {R:List Keyed} (h:Rn lt kd a₀ st rs R):rs.flatten.length+R.length=a₀.length:=by
 have:=h.perm.length_eq
 rw [List.length_append] at this;exact this
theorem oS:∀ {rs:List (List Keyed)},(∀ r∈rs,r≠[])->rs.length<=rs.flatten.length
 | [],_=>by simp
 | r::rs,h=>by
   have h1:=List.length_pos_iff.mpr (h r (by simp))
   have h2:=oS (rs:=rs) fun r j=>h r (by simp [j])
   rw [List.flatten_cons,List.length_append,List.length_cons];lia
theorem sY {l:List (List Keyed)} {s pw:Nat} {ps:Array (Nat×Nat×Nat)} (h:Pd s l ps.toList):Pd s l (ps.modify (ps.size - 1) fun x=>(x.1,x.2.1,pw)).toList:=by
 rw [Array.toList_modify]
 have g:∀ (l:List (List Keyed)) (s k:Nat) (ps:List (Nat×Nat×Nat)),Pd s l ps->Pd s l (ps.modify k fun x=>(x.1,x.2.1,pw)):=by
  intro l
  induction l with
  | nil=>intro s k ps h;have:ps=[]:=h;subst this;cases k <;> rfl
  | cons r l ih =>
    intro s k ps h
    obtain ⟨p,t,e,h⟩:=h
    subst e
    cases k with
    | zero=>exact ⟨pw,t,rfl,h⟩
    | succ k=>exact ⟨p,_,rfl,ih _ k t h⟩
 exact g _ _ _ _ h
theorem on (c:Cm prog w A s kd P lt) {st:SortSt} {Q:Unit->SortSt->Prop} (hk:kindOf st=kd) (hf:failedOf st=none) (hp:pendingOf st = #[]) (hP:∀ x∈(arrOf st).toList,P x)
 (q:∀ st',(arrOf st').toList.Perm (arrOf st).toList->Ord lt (arrOf st').toList->failedOf st'=none->Q () st'):wpS (PySem.model prog w) A E s sortRuns' Q st:=by
 rw [sortRuns'_eq]
 refine wpS_bind (wpS_get ?_)
 try dsimp only
 have hsz:(arrOf st).size=(arrOf st).toList.length:=by simp
 generalize hA:(arrOf st).toList=a₀ at hP q hsz
 generalize hS:(arrOf st).size=size at hsz
 generalize minRun' size size 0=minrun
 refine wpS_bind (az (Q:=fun r st' => ∃ rs lo,r=(none,lo)/\Rn lt kd a₀ st' rs [])
  (wpS_forRange (fun i r st' => ∃ rs R,r=(none,rs.flatten.length)/\Rn lt kd a₀ st' rs R/\i<=rs.flatten.length) ?_ ?_ ⟨[],a₀,rfl,⟨by simpa using hA,by simp,by simp,by rw [hp];rfl,hk,hf⟩,by simp⟩) ?_)
 ·rintro i r CK _ hi ⟨rs,R,rfl,J,CH⟩
  try dsimp only
  have CW:=J.size
  refine ad (fun CT => ?_) (fun CT => ?_)
  ·have:R=[]:=List.length_eq_zero_iff.mp (by lia)
   subst this
   exact aa ⟨rs,_,rfl,J⟩
  ·have CL:size - rs.flatten.length=R.length:=by lia
   have CU:R≠[]:=fun z=>by rw [z,List.length_nil] at CL;lia
   have CM:∀ x∈R,P x:=fun x hx=>hP x (J.perm.mem_iff.mp (List.mem_append_right _ hx))
   rw [CL]
   refine wpS_bind (oj c J.kind J.arr CU CM fun r Z I ea CC O ho kp => ?_)
   try dsimp only
   have F:Rn lt kd a₀ I rs (r++Z):=⟨ea,(List.Perm.append_left _ CC).trans J.perm,J.ord,by rw [kp.pend];exact J.pend,kp.kind.trans J.kind,kp.fail.trans J.fail⟩
   have CN:r.length+Z.length=R.length:=by rw [<- CC.length_eq];simp
   refine ad (fun CI => ?_) (fun CI => ?_)
   ·refine wpS_bind (cw ?_)
    refine wpS_bind (sX c F.kind F.arr O ho (n:=min R.length minrun) (by lia) (by simp;lia) (fun x hx=>CM x (CC.mem_iff.mp hx)) fun r2 R2 B CO CG G CV CF => ?_)
    try dsimp only
    refine ad (fun h=>absurd h (by simp)) (fun _ => ?_)
    have CP:r2≠[]:=fun z=>by
     rw [z] at G;simp at G
     have:=List.length_pos_iff.mpr O
     lia
    have F:Rn lt kd a₀ B rs (r2++R2):=⟨CO,(List.Perm.append_left _ CG).trans F.perm,F.ord,by rw [CF.pend];exact F.pend,CF.kind.trans F.kind,CF.fail.trans F.fail⟩
    rw [<- G]
    clear G CG CO CF ea CC kp CN CI
    generalize B=I at F
    clear ho O
    have ho:=CV
    have O:=CP
    generalize r2=r at F ho O
    generalize R2=Z at F
    refine wpS_bind (wpS_get ?_)
    try dsimp only
    have CQ:(pendingOf I).size=rs.length:=by rw [<- Array.length_toList];exact F.pend.length
    cases hb:(pendingOf I).back? with
    | none =>
      try dsimp only
      have HL:rs.flatten.length=rs.flatten.length:=rfl
      refine wpS_bind (wpS_modify ?_)
      have CJ:=List.length_pos_iff.mpr O
      have S:(rs++[r]).flatten.length=rs.flatten.length+r.length:=by rw [List.flatten_append,List.length_append,HL];simp
      refine aa ⟨rs++[r],Z,by rw [S],⟨by rw [show _=_ from F.arr];simp, ?_, ?_, ?_,F.kind,F.fail⟩,by rw [S];lia⟩
      ·refine List.Perm.trans (List.Perm.of_eq (by simp)) F.perm
      ·intro u hu
       rcases List.mem_append.mp hu with z | z
       ·exact F.ord u z
       ·simp at z;subst z;exact ⟨O,ho⟩
      ·have h8:(pendingOf (setPending I ((pendingOf I).push (rs.flatten.length,r.length,0)))).toList=(pendingOf I).toList++[(rs.flatten.length,r.length,0)]:=by
        show ((pendingOf I).push _).toList=_
        rw [Array.toList_push]
       rw [show _=_ from h8]
       exact F.pend.join ⟨0,[],by rw [HL,Nat.zero_add],rfl⟩
    | some v =>
      obtain ⟨s1,n1,p1⟩:=v
      try dsimp only
      refine wpS_bind (az (Q:=fun x st'=>x=(none,()) /\ ∃ rs',Rn lt kd a₀ st' rs' (r++Z)/\rs'.flatten.length=rs.flatten.length)
       (wpS_forRange (fun i x st'=>x=(none,()) /\ ∃ rs',Rn lt kd a₀ st' rs' (r++Z)/\rs'.flatten.length=rs.flatten.length) ?_ ?_ ⟨rfl,rs,F,rfl⟩) ?_)
      ·rintro j x B _ hj ⟨rfl,rs',L,G⟩
       refine wpS_bind (wpS_get ?_)
       try dsimp only
       have CD:(pendingOf B).size=rs'.length:=by rw [<- Array.length_toList];exact L.pend.length
       by_cases h1:(pendingOf B).size > 1
       ·rw [if_pos h1]
        have h2:(pendingOf B)[(pendingOf B).size - 2]? = some ((pendingOf B)[(pendingOf B).size - 2]'(by lia)):=Array.getElem?_eq_getElem (by lia)
        rw [h2]
        try dsimp only
        refine ad (fun h => ?_) (fun h => ?_)
        ·exact aa ⟨rfl,rs',L,G⟩
        ·obtain ⟨t,a,b,e⟩:=mR (l:=rs') (by lia)
         subst e
         refine wpS_bind (L.merge c hP (by rw [CD];simp) fun m U Y hm => ?_)
         refine ad (fun h=>absurd h (by simp)) (fun _=>aa ⟨rfl,_,Y, ?_⟩)
         rw [<- G];simp [hm]
       ·rw [if_neg h1]
        exact aa ⟨rfl,rs',L,G⟩
      ·rintro x B ⟨rfl,rs',L,G⟩
       exact ⟨rfl,rs',L,G⟩
      ·rintro x B ⟨rfl,rs',L,G⟩
       try dsimp only
       refine wpS_bind (wpS_modify ?_)
       have Y:Rn lt kd a₀ (setPending B ((pendingOf B).modify ((pendingOf B).size - 1) fun x=>(x.1,x.2.1,power' size (2*s1+n1) (2*s1+n1+n1+r.length) size))) rs' (r++Z):=⟨L.arr,L.perm,L.ord,sY L.pend,L.kind,L.fail⟩
       generalize CS:setPending B ((pendingOf B).modify ((pendingOf B).size - 1) fun x=>(x.1,x.2.1,power' size (2*s1+n1) (2*s1+n1+n1+r.length) size))=U at Y
       have HL:=G
       refine wpS_bind (wpS_modify ?_)
       have CJ:=List.length_pos_iff.mpr O
       have S:(rs'++[r]).flatten.length=rs.flatten.length+r.length:=by rw [List.flatten_append,List.length_append,HL];simp
       refine aa ⟨rs'++[r],Z,by rw [S],⟨by rw [show _=_ from Y.arr];simp, ?_, ?_, ?_,Y.kind,Y.fail⟩,by rw [S];lia⟩
       ·refine List.Perm.trans (List.Perm.of_eq (by simp)) Y.perm
       ·intro u hu
        rcases List.mem_append.mp hu with z | z
        ·exact Y.ord u z
        ·simp at z;subst z;exact ⟨O,ho⟩
       ·have h8:(pendingOf (setPending U ((pendingOf U).push (rs.flatten.length,r.length,0)))).toList=(pendingOf U).toList++[(rs.flatten.length,r.length,0)]:=by
         show ((pendingOf U).push _).toList=_
         rw [Array.toList_push]
        rw [show _=_ from h8]
        exact Y.pend.join ⟨0,[],by rw [HL,Nat.zero_add],rfl⟩
   ·clear ea CC kp CN CI
    refine wpS_bind (wpS_get ?_)
    try dsimp only
    have CQ:(pendingOf I).size=rs.length:=by rw [<- Array.length_toList];exact F.pend.length
    cases hb:(pendingOf I).back? with
    | none =>
      try dsimp only
      have HL:rs.flatten.length=rs.flatten.length:=rfl
      refine wpS_bind (wpS_modify ?_)
      have CJ:=List.length_pos_iff.mpr O
      have S:(rs++[r]).flatten.length=rs.flatten.length+r.length:=by rw [List.flatten_append,List.length_append,HL];simp
      refine aa ⟨rs++[r],Z,by rw [S],⟨by rw [show _=_ from F.arr];simp, ?_, ?_, ?_,F.kind,F.fail⟩,by rw [S];lia⟩
      ·refine List.Perm.trans (List.Perm.of_eq (by simp)) F.perm
      ·intro u hu
       rcases List.mem_append.mp hu with z | z
       ·exact F.ord u z
       ·simp at z;subst z;exact ⟨O,ho⟩
      ·have h8:(pendingOf (setPending I ((pendingOf I).push (rs.flatten.length,r.length,0)))).toList=(pendingOf I).toList++[(rs.flatten.length,r.length,0)]:=by
        show ((pendingOf I).push _).toList=_
        rw [Array.toList_push]
       rw [show _=_ from h8]
       exact F.pend.join ⟨0,[],by rw [HL,Nat.zero_add],rfl⟩
    | some v =>
      obtain ⟨s1,n1,p1⟩:=v
      try dsimp only
      refine wpS_bind (az (Q:=fun x st'=>x=(none,()) /\ ∃ rs',Rn lt kd a₀ st' rs' (r++Z)/\rs'.flatten.length=rs.flatten.length)
       (wpS_forRange (fun i x st'=>x=(none,()) /\ ∃ rs',Rn lt kd a₀ st' rs' (r++Z)/\rs'.flatten.length=rs.flatten.length) ?_ ?_ ⟨rfl,rs,F,rfl⟩) ?_)
      ·rintro j x B _ hj ⟨rfl,rs',L,G⟩
       refine wpS_bind (wpS_get ?_)
       try dsimp only
       have CD:(pendingOf B).size=rs'.length:=by rw [<- Array.length_toList];exact L.pend.length
       by_cases h1:(pendingOf B).size > 1
       ·rw [if_pos h1]
        have h2:(pendingOf B)[(pendingOf B).size - 2]? = some ((pendingOf B)[(pendingOf B).size - 2]'(by lia)):=Array.getElem?_eq_getElem (by lia)
        rw [h2]
        try dsimp only
        refine ad (fun h => ?_) (fun h => ?_)
        ·exact aa ⟨rfl,rs',L,G⟩
        ·obtain ⟨t,a,b,e⟩:=mR (l:=rs') (by lia)
         subst e
         refine wpS_bind (L.merge c hP (by rw [CD];simp) fun m U Y hm => ?_)
         refine ad (fun h=>absurd h (by simp)) (fun _=>aa ⟨rfl,_,Y, ?_⟩)
         rw [<- G];simp [hm]
       ·rw [if_neg h1]
        exact aa ⟨rfl,rs',L,G⟩
      ·rintro x B ⟨rfl,rs',L,G⟩
       exact ⟨rfl,rs',L,G⟩
      ·rintro x B ⟨rfl,rs',L,G⟩
       try dsimp only
       refine wpS_bind (wpS_modify ?_)
       have Y:Rn lt kd a₀ (setPending B ((pendingOf B).modify ((pendingOf B).size - 1) fun x=>(x.1,x.2.1,power' size (2*s1+n1) (2*s1+n1+n1+r.length) size))) rs' (r++Z):=⟨L.arr,L.perm,L.ord,sY L.pend,L.kind,L.fail⟩
       generalize CS:setPending B ((pendingOf B).modify ((pendingOf B).size - 1) fun x=>(x.1,x.2.1,power' size (2*s1+n1) (2*s1+n1+n1+r.length) size))=U at Y
       have HL:=G
       refine wpS_bind (wpS_modify ?_)
       have CJ:=List.length_pos_iff.mpr O
       have S:(rs'++[r]).flatten.length=rs.flatten.length+r.length:=by rw [List.flatten_append,List.length_append,HL];simp
       refine aa ⟨rs'++[r],Z,by rw [S],⟨by rw [show _=_ from Y.arr];simp, ?_, ?_, ?_,Y.kind,Y.fail⟩,by rw [S];lia⟩
       ·refine List.Perm.trans (List.Perm.of_eq (by simp)) Y.perm
       ·intro u hu
        rcases List.mem_append.mp hu with z | z
        ·exact Y.ord u z
        ·simp at z;subst z;exact ⟨O,ho⟩
       ·have h8:(pendingOf (setPending U ((pendingOf U).push (rs.flatten.length,r.length,0)))).toList=(pendingOf U).toList++[(rs.flatten.length,r.length,0)]:=by
         show ((pendingOf U).push _).toList=_
         rw [Array.toList_push]
        rw [show _=_ from h8]
        exact Y.pend.join ⟨0,[],by rw [HL,Nat.zero_add],rfl⟩
 ·rintro r CK ⟨rs,R,rfl,J,CH⟩
  have:=J.size
  have:R=[]:=List.length_eq_zero_iff.mp (by lia)
  subst this
  exact ⟨rs,_,rfl,J⟩
 ·rintro r CK ⟨rs,lo,rfl,J⟩
  try dsimp only
  refine wpS_bind (az (Q:=fun r st'=>r=(none,()) /\ ∃ rs,Rn lt kd a₀ st' rs []/\rs.length<=1)
   (wpS_forRange (fun i r st'=>r=(none,()) /\ ∃ rs,Rn lt kd a₀ st' rs []/\rs.length+i<=size) ?_ ?_ ⟨rfl,rs,J, ?_⟩) ?_)
  ·rintro i r I _ hi ⟨rfl,rs,J,CH⟩
   refine wpS_bind (wpS_get ?_)
   try dsimp only
   have CQ:(pendingOf I).size=rs.length:=by rw [<- Array.length_toList];exact J.pend.length
   refine ad (fun h => ?_) (fun h => ?_)
   ·exact aa ⟨rfl,rs,J,by lia⟩
   ·have go:∀ k,k+1 < rs.length->wpS (PySem.model prog w) A E s (mergeAt' k) (fun b st'=>b=true /\ ∃ rs',Rn lt kd a₀ st' rs' []/\rs'.length+1=rs.length) I:=by
     intro k hk
     obtain ⟨t,a,b,u,e,ht⟩:=AJ hk
     subst e
     refine J.merge c hP ht.symm fun m B L _=>⟨rfl,_,L,by simp;lia⟩
    refine wpS_bind (az (go _ ?_) ?_)
    ·(repeat' split) <;> lia
    ·rintro b B ⟨rfl,rs',L,G⟩
     refine ad (fun h=>absurd h (by simp)) (fun _=>aa ⟨rfl,rs',L,by lia⟩)
  ·rintro r I ⟨rfl,rs,J,CH⟩
   exact ⟨rfl,rs,J,by lia⟩
  ·have h1:=oS fun r hr=>(J.ord r hr).1
   have h2:=J.size
   simp only [List.length_nil] at h2
   lia
  ·rintro r I ⟨rfl,rs,J,hl⟩
   refine aa (q I (by rw [J.arr];exact J.perm) ?_ J.fail)
   rw [J.arr,List.append_nil]
   match rs,hl,J with
   | [],_,_=>exact List.Pairwise.nil
   | [r],_,J=>simpa using (J.ord r (by simp)).2
end
end Srt
end L2
namespace L2
namespace Srt
open PySem PySem.Spec PyProof.Rows
inductive Ky where
 | int (i:Int)
 | tup (l:List Ky)
mutual
noncomputable def av:Ky->Ky->Ordering
 | .int a, .int b=>if a < b then .lt else if a=b then .eq else .gt
 | .int _, .tup _ => .lt
 | .tup _, .int _ => .gt
 | .tup a, .tup b=>cmpKs a b
noncomputable def cmpKs:List Ky->List Ky->Ordering
 | [],[] => .eq
 | [],_::_ => .lt
 | _::_,[] => .gt
 | x::xs,y::ys=>(av x y).then (cmpKs xs ys)
end
mutual
theorem cI:∀ a b,av b a=(av a b).swap
 | .int a, .int b=>by
  simp only [av]
  by_cases h1:a < b
  ·rw [if_pos h1,if_neg (by lia),if_neg (by lia)];rfl
  ·by_cases h2:a=b
   ·rw [if_neg h1,if_pos h2,if_neg (by lia),if_pos h2.symm];rfl
   ·rw [if_neg h1,if_neg h2,if_pos (by lia)];rfl
 | .int _, .tup _=>by simp [av]
 | .tup _, .int _=>by simp [av]
 | .tup a, .tup b=>by simp only [av];exact cmpKs_swap a b
theorem cmpKs_swap:∀ a b,cmpKs b a=(cmpKs a b).swap
 | [],[] => rfl
 | [],_::_=>rfl
 | _::_,[] => rfl
 | x::xs,y::ys=>by
   simp only [cmpKs]
   rw [cI x y,cmpKs_swap xs ys]
   cases av x y <;> rfl
end
mutual
theorem gw:∀ a b,av a b = .eq->a=b
 | .int a, .int b,h=>by
  simp only [av] at h
  by_cases h1:a < b
  ·rw [if_pos h1] at h;cases h
  ·by_cases h2:a=b
   ·rw [h2]
   ·rw [if_neg h1,if_neg h2] at h;cases h
 | .int _, .tup _,h=>by simp [av] at h
 | .tup _, .int _,h=>by simp [av] at h
 | .tup a, .tup b,h=>by simp only [av] at h;rw [cmpKs_eq a b h]
theorem cmpKs_eq:∀ a b,cmpKs a b = .eq->a=b
 | [],[],_=>rfl
 | [],_::_,h=>by simp [cmpKs] at h
 | _::_,[],h=>by simp [cmpKs] at h
 | x::xs,y::ys,h=>by
   simp only [cmpKs] at h
   cases e:av x y with
   | lt=>rw [e] at h;cases h
   | gt=>rw [e] at h;cases h
   | eq=>rw [e] at h;rw [gw x y e,cmpKs_eq xs ys h]
end
mutual
theorem iV:∀ a b c,av a b = .lt->av b c = .lt->av a c = .lt
 | .int a, .int b, .int c,h,g=>by
  simp only [av] at h g ⊢
  have h1:a < b:=by
   by_cases h1:a < b
   ·exact h1
   ·rw [if_neg h1] at h;split at h <;> cases h
  have h2:b < c:=by
   by_cases h1:b < c
   ·exact h1
   ·rw [if_neg h1] at g;split at g <;> cases g
  rw [if_pos (by lia)]
 | .int _, .tup _, .int _,_,g=>by simp [av] at g
 | .int _, .int _, .tup _,_,_=>by simp [av]
 | .int _, .tup _, .tup _,_,_=>by simp [av]
 | .tup _, .int _,_,h,_=>by simp [av] at h
 | .tup _, .tup _, .int _,_,g=>by simp [av] at g
 | .tup a, .tup b, .tup c,h,g=>by simp only [av] at h g ⊢;exact cmpKs_trans a b c h g
theorem cmpKs_trans:∀ a b c,cmpKs a b = .lt->cmpKs b c = .lt->cmpKs a c = .lt
 | [],[],_,h,_=>by simp [cmpKs] at h
 | [],_::_,[],_,g=>by simp [cmpKs] at g
 | [],_::_,_::_,_,_=>by simp [cmpKs]
 | _::_,[],_,h,_=>by simp [cmpKs] at h
 | _::_,_::_,[],_,g=>by simp [cmpKs] at g
 | x::xs,y::ys,z::zs,h,g=>by
   simp only [cmpKs] at h g ⊢
   cases e:av x y with
   | gt=>rw [e] at h;cases h
   | eq =>
     have:=gw x y e
     subst this
     rw [e] at h
     cases e2:av x z with
     | gt=>rw [e2] at g;cases g
     | lt=>rfl
     | eq=>rw [e2] at g;exact cmpKs_trans xs ys zs h g
   | lt =>
     cases e2:av y z with
     | gt=>rw [e2] at g;cases g
     | lt=>rw [iV x y z e e2];rfl
     | eq =>
       have:=gw y z e2
       subst this
       rw [e];rfl
end
noncomputable def ltK (a b:Ky):Bool:=av a b == .lt
noncomputable def mU (a b:List Ky):Bool:=cmpKs a b == .lt
theorem vK (a b:Ky) (h:ltK a b=true):ltK b a=false:=by
 unfold ltK at h ⊢
 rw [cI a b,(by simpa using h:av a b = .lt)];rfl
theorem kr (a b:Ky) (h:ltK a b=false) (g:ltK b a=false):a=b:=by
 unfold ltK at h g
 rw [cI a b] at g
 apply gw
 cases e:av a b with
 | eq=>rfl
 | lt=>rw [e] at h;cases h
 | gt=>rw [e] at g;cases g
theorem yI (a b c:Ky) (h:ltK a c=true):ltK a b=true∨ltK b c=true:=by
 cases e:ltK a b with
 | true=>exact .inl rfl
 | false =>
   right
   cases e2:ltK b a with
   | false=>rw [kr a b e e2] at h;exact h
   | true =>
     unfold ltK at h e2 ⊢
     rw [iV b a c (by simpa using e2) (by simpa using h)];rfl
theorem sZ (x y:Ky) (xs ys:List Ky):mU (x::xs) (y::ys)=if (!ltK x y && !ltK y x)=true then mU xs ys else ltK x y:=by
 unfold mU ltK
 rw [cI x y]
 simp only [cmpKs]
 cases av x y <;> simp
mutual
noncomputable def toK:PyData->Ky
 | .int i => .int i
 | .tuple xs => .tup (toKs xs)
 | _ => .int 0
noncomputable def toKs:List PyData->List Ky
 | [] => []
 | x::xs=>toK x::toKs xs
end
inductive Cmpb:PyData->PyData->Prop where
 | int (a b:Int):Cmpb (.int a) (.int b)
 | nil (ys:List PyData):Cmpb (.tuple []) (.tuple ys)
 | nil' (xs:List PyData):Cmpb (.tuple xs) (.tuple [])
 | cons {x y:PyData} {xs ys:List PyData}:Cmpb x y->Cmpb (.tuple xs) (.tuple ys)->Cmpb (.tuple (x::xs)) (.tuple (y::ys))
theorem Cmpb.eqv {x y:PyData} (h:Cmpb x y):PyData.eqv x y=(!ltK (toK x) (toK y) && !ltK (toK y) (toK x)):=by
 have g:∀ {x y:PyData},Cmpb x y->PyData.eqv x y=(av (toK x) (toK y) == .eq):=by
  intro x y h
  induction h with
  | int a b =>
    simp only [PyData.eqv,toK,av]
    by_cases h1:a < b
    ·rw [if_pos h1];simp;lia
    ·by_cases h2:a=b
     ·rw [if_neg h1,if_pos h2];simp [h2]
     ·rw [if_neg h1,if_neg h2];simp;lia
  | nil ys=>cases ys <;> simp [PyData.eqv,PyData.eqvAll,toK,toKs,av,cmpKs]
  | nil' xs=>cases xs <;> simp [PyData.eqv,PyData.eqvAll,toK,toKs,av,cmpKs]
  | @cons x y xs ys h1 h2 ih1 j =>
   simp only [PyData.eqv] at j ⊢
   simp only [PyData.eqvAll,toK,toKs,av,cmpKs] at j ⊢
   rw [ih1,j]
   cases av (toK x) (toK y) <;> simp
 rw [g h]
 unfold ltK
 rw [cI (toK x) (toK y)]
 cases av (toK x) (toK y) <;> rfl
section
variable {prog:Program} {w:World} {A:Around} {E:Value->Shared->Prop} {s:Shared}
theorem trd {b:Bool} {Q:Bool->Shared->Prop} (q:Q b s):wpAny (PySem.model prog w) A (truthOfDropped (.bool b)) Q E s:=by
 unfold truthOfDropped
 wp_walk
 exact q
theorem gx (a b:Int):ltK (.int a) (.int b)=decide (a < b):=by
 simp only [ltK,av]
 by_cases h:a < b
 ·simp [h]
 ·by_cases h2:a=b <;> simp [h,h2]
theorem t5 {a b:Int} {t u:Tok} {Q:Value->Shared->Prop} (q:Q (.bool (decide (a < b))) s):wpAny (PySem.model prog w) A (richCompare .Lt (.int a t) (.int b u)) Q E s :=
 wpAny_richCompare_same (T := "int") rfl rfl F.slot_int_lt (call_int_lt ⟨by simp,q⟩)
noncomputable def bX:List PyData->List PyData->Option Bool
 | x::xs,y::ys=>if PyData.eqv x y=true then bX xs ys else some (ltK (toK x) (toK y))
 | _,_=>none
theorem hJ:∀ {xs ys:List PyData},Cmpb (.tuple xs) (.tuple ys)->ltK (toK (.tuple xs)) (toK (.tuple ys))=match bX xs ys with | some b=>b | none=>decide (xs.length < ys.length)
 | [],[],_=>rfl
 | [],_::_,_=>by simp [bX,toK,toKs,ltK,av,cmpKs]
 | _::_,[],_=>by simp [bX,toK,toKs,ltK,av,cmpKs]
 | x::xs,y::ys,h=>by
   cases h with
   | cons h1 h2 =>
     have ih:=hJ h2
     have e:∀ a b:List Ky,ltK (.tup a) (.tup b)=mU a b:=fun a b=>by simp [ltK,mU,av]
     simp only [toK,toKs,e] at ih ⊢
     rw [sZ, <- h1.eqv]
     simp only [bX]
     split
     ·rw [ih];simp
     ·rfl
noncomputable def cj {α β:Type} (M:Model) (A:Around) (E:Value->Shared->Prop) (f : α -> β -> Sem (ForInStep β)) (Q : β -> Shared->Prop):List α -> β -> Shared->Prop
 | [],c,s=>Q c s
 | x::xs,c,s=>wpAny M A (f x c) (fun r s'=>match r with | .done c'=>Q c' s' | .yield c'=>cj M A E f Q xs c' s') E s
theorem eU {α β:Type} {M:Model} {f : α -> β -> Sem (ForInStep β)} {Q : β -> Shared->Prop}:∀ {l:List α} {c : β} {s:Shared},cj M A E f Q l c s->wpAny M A (forIn l c f) Q E s
 | [],c,s,h=>by rw [List.forIn_nil];exact wpAny_pure h
 | x::xs,c,s,h=>by
   rw [List.forIn_cons]
   refine wpAny_bind (wpAny_mono h (fun r s' j => ?_) fun _ _ z=>z)
   cases r with
   | done c'=>exact wpAny_pure j
   | yield c'=>exact eU j
theorem bK {h:Heap}:∀ {vs:List Value} {xs:List PyData} {as:List Addr},ReadsAll h vs xs as->vs.length=xs.length
 | _,_,_, .nil=>rfl
 | _,_,_, .cons _ r=>by simp [bK r]
theorem hW {α β:Type} {M:Model} {n:Nat} {f : α -> Option β × Unit->Sem (ForInStep (Option β × Unit))} {g:Bool -> β} {pr : α -> Value×Value} {Q:Option β × Unit->Shared->Prop} :
 ∀ {l:List α} {vs us:List Value} {xs ys:List PyData} {as bs:List Addr},l.map pr=vs.zip us->ReadsAll s.heap vs xs as->ReadsAll s.heap us ys bs->Cmpb (.tuple xs) (.tuple ys)->PyData.canLayAll0 xs=true->PyData.canLayAll0 ys=true->PyData.depthAll xs<=n ->
  (∀ (z : α) (x y:Value) (d e:PyData) (as bs:List Addr) (R:ForInStep (Option β × Unit)->Shared->Prop),z∈l->pr z=(x,y)->Reads s.heap x d as->Reads s.heap y e bs->Cmpb d e->d.canLay0=true->e.canLay0=true->d.depth<=n ->
   R (if PyData.eqv d e=true then .yield (none,()) else .done (some (g (ltK (toK d) (toK e))),())) s->wpAny M A (f z (none,())) R E s) ->
  Q ((bX xs ys).map g,()) s->cj M A E f Q l (none,()) s
 | [],vs,us,xs,ys,as,bs,e,j,B,F,_,_,_,_,q=>by
  have h1:=bK j
  have h2:=bK B
  have:vs=[]∨us=[]:=by
   cases vs with
   | nil=>exact .inl rfl
   | cons v vs=>cases us with
     | nil=>exact .inr rfl
     | cons u us=>simp at e
  have e2:bX xs ys=none:=by
   rcases this with rfl | rfl
   ·cases xs with
    | nil=>simp [bX]
    | cons x xs=>simp at h1
   ·cases ys with
    | nil=>cases xs <;> simp [bX]
    | cons y ys=>simp at h2
  rw [e2] at q
  exact q
 | z::l,vs,us,xs,ys,as,bs,e,j,B,F,lx,ly,hd,hf,q=>by
   cases j with
   | nil=>simp at e
   | cons rx j =>
     cases B with
     | nil=>simp at e
     | cons ry B =>
       simp only [List.map_cons,List.zip_cons_cons,List.cons.injEq] at e
       simp only [PyData.canLayAll0,Bool.and_eq_true] at lx ly
       simp only [PyData.depthAll] at hd
       cases F with
       | cons G I =>
         simp only [cj]
         refine hf z _ _ _ _ _ _ _ (by simp) e.1 rx ry G lx.1 ly.1 (by lia) ?_
         simp only [bX] at q
         split at q
         ·next h =>
          rw [if_pos h]
          exact hW e.2 j B I lx.2 ly.2 (by lia) (fun z x y d e as bs R J=>hf z x y d e as bs R (by simp [J])) q
         ·next h =>
          rw [if_neg h]
          exact q
noncomputable def CA (n:Nat):Prop := ∀ (prog:Program) (w:World) (A:Around) (s:Shared) (a b:Value) (d e:PyData) (as bs:List Addr) (E:Value->Shared->Prop) (Q:Value->Shared->Prop),d.depth<=n->Cmpb d e->Reads s.heap a d as->Reads s.heap b e bs->d.canLay0=true->e.canLay0=true->A.units+n+1 < cLine ->
 Q (.bool (ltK (toK d) (toK e))) s->wpAny (PySem.model prog w) A (richCompare .Lt a b) Q E s
theorem BQ:∀ n,CA n:=by
 intro n
 induction n with
 | zero =>
   intro prog w A s a b d e as bs E Q hd z ra rb ld le S q
   cases z with
   | int i j =>
     cases ra;cases rb
     exact t5 (by rw [<- gx];exact q)
   | nil ys=>simp [PyData.depth] at hd
   | nil' xs=>simp [PyData.depth] at hd
   | cons _ _=>simp [PyData.depth] at hd
 | succ n ih =>
   intro prog w A s a b d e as bs E Q hd z ra rb ld le S q
   have tup:∀ xs ys,d = .tuple xs->e = .tuple ys->wpAny (PySem.model prog w) A (richCompare .Lt a b) Q E s:=by
    rintro xs ys rfl rfl
    cases ra with
    | tuple h1 h2 U G =>
      cases rb with
      | tuple g1 g2 g3 I =>
        rename_i l ol vl nl p ob vb nb
        have tl:s.TypeIs (.ref l) "tuple" := ⟨_,h1,h2⟩
        have tb:s.TypeIs (.ref p) "tuple" := ⟨_,g1,g2⟩
        refine wpAny_richCompare_same_room tl tb F.slot_tuple_lt (wpAny_call_entry F.slot_tuple_lt tl F.entry_tuple_lt ?_ (F.args_tuple_lt_2 _ _)) (by lia)
        unfold Builtin.«tuple.__lt__»
        refine wpAny_bind ?_
        have J:isSubtype (.type "tuple") (.type "tuple")=pure true:=by rw [isSubtype_type];kernel_rfl
        wp_walk
        rw [U]
        wp_walk
        rw [g3]
        refine wpAny_pure ?_
        refine wpAny_pure ?_
        refine wpAny_bind (eU (hW (n:=n) (g:=fun b=>Fin.done (Flow.ret (Value.bool b))) (pr:=id) (List.map_id _) G I z ld le (by simp [PyData.depth] at hd;lia) ?_ ?_))
        ·rintro ⟨x,y⟩ x' y' d e as bs R _ hz rx ry z ld le hd r
         cases hz
         dsimp only
         refine wpAny_bind (SeqAt.eqAt_reads d e _ _ _ _ _ _ rx ry ld le ?_ prog w E _ ?_)
         ·show A.units+1+min d.depth e.depth < cLine
          lia
         ·by_cases B:PyData.eqv d e=true
          ·rw [if_pos B] at r
           rw [B]
           exact wpAny_pure r
          ·rw [if_neg B] at r
           have B:PyData.eqv d e=false:=by simpa using B
           rw [B]
           refine wpAny_bind (wpAny_rule (wpAny_bind (ih prog w _ s x y d e as bs E _ hd z rx ry ld le ?_ ?_)))
           ·show A.units+1+n+1 < cLine
            lia
           ·exact wpAny_pure r
        ·have e1:=hJ z
         cases e2:bX xs ys with
         | some b =>
           rw [e2] at e1
           dsimp only at e1
           rw [e1] at q
           exact wpAny_pure ⟨_,rfl,by simp,q⟩
         | none =>
           rw [e2] at e1
           dsimp only at e1
           rw [e1] at q
           have L:=bK G
           have O:=bK I
           refine wpAny_pure ⟨_,rfl, ?_, ?_⟩
           ·simp [Builtin.Tuple.tupleCompareSizes]
           ·simp only [Array.length_toList] at L O
            simp only [Builtin.Tuple.tupleCompareSizes]
            rw [L,O]
            exact q
   cases z with
   | int i j =>
     cases ra;cases rb
     exact t5 (by rw [<- gx];exact q)
   | nil ys=>exact tup _ _ rfl rfl
   | nil' xs=>exact tup _ _ rfl rfl
   | cons _ _=>exact tup _ _ rfl rfl
end
end Srt
end L2
namespace L2
namespace Srt
open PySem PySem.Spec PyProof.Rows
section
variable {prog:Program} {w:World} {A:Around} {E:Value->Shared->Prop} {s:Shared}
theorem iW {α β:Type} {M:Model} {f : α -> Sem β} {g : α -> β}:∀ {l:List α} {Q:List β -> Shared->Prop},(∀ x∈l, ∀ R : β -> Shared->Prop,R (g x) s->wpAny M A (f x) R E s)->Q (l.map g) s->wpAny M A (l.mapM f) Q E s
 | [],Q,_,q=>by rw [List.mapM_nil];exact wpAny_pure q
 | x::xs,Q,h,q=>by
   rw [List.mapM_cons]
   refine wpAny_bind (h x (by simp) _ (wpAny_bind (iW (fun y j=>h y (by simp [j])) (wpAny_pure q))))
theorem dM {α β:Type} {M:Model} {f : α -> Sem β} {g : α -> β} {xs:Array α} {Q:Array β -> Shared->Prop} (h:∀ x∈xs.toList, ∀ R : β -> Shared->Prop,R (g x) s->wpAny M A (f x) R E s) (q:Q (xs.map g) s):wpAny M A (xs.mapM f) Q E s:=by
 rw [Array.mapM_eq_mapM_toList]
 rw [map_eq_pure_bind]
 refine wpAny_bind (iW h (wpAny_pure ?_))
 have:(xs.toList.map g).toArray=xs.map g:=by
  apply Array.toList_inj.mp;simp
 rw [this];exact q
theorem ku {a:Addr} {v:Value} {vs:List Value} {o:Obj} {n:Nat} (h1:s.heap.get? a=some o) (h2:o.cls = .type "tuple") (j:o.data = .seq (v::vs).toArray n) {Q:Option Value->Shared->Prop} (q:Q (some v) s):wpAny (PySem.model prog w) A (firstOfTuple' (.ref a)) Q E s:=by
 unfold firstOfTuple'
 have ty:s.TypeIs (.ref a) "tuple" := ⟨_,h1,h2⟩
 wp_walk
 rw [j]
 refine wpAny_pure ?_
 refine wpAny_pure ?_
 exact wpAny_pure q
theorem yJ {a:Addr} {o:Obj} {T:Value} (h1:s.heap.get? a=some o) (h2:o.cls=T) {Q:Value->Shared->Prop} (q:Q T s):wpAny (PySem.model prog w) A (typeOf (.ref a)) Q E s:=by
 wp_walk
 rw [h2];exact q
theorem t6 {n:Nat} {x y:Value} {d e:PyData} {as bs:List Addr} (j:Cmpb d e) (rx:Reads s.heap x d as) (ry:Reads s.heap y e bs) (ld:d.canLay0=true) (le:e.canLay0=true) (hd:d.depth<=n) (z:A.units+n+1 < cLine) {Q:Bool->Shared->Prop} (q:Q (ltK (toK d) (toK e)) s):wpAny (PySem.model prog w) A (oneLt' false x y) Q E s:=by
 rw [oneLt'_eq]
 exact wpAny_bind (BQ n prog w A s x y d e as bs E _ hd j rx ry ld le z (trd q))
theorem kw {n:Nat} {b:Bool} {x y:Value} {xs ys:List PyData} {as bs:List Addr} (Y:b=true -> ∀ d e,xs.head? = some d->ys.head? = some e->(∃ i,d = .int i) /\ ∃ i,e = .int i)
 (F:Cmpb (.tuple xs) (.tuple ys)) (rx:Reads s.heap x (.tuple xs) as) (ry:Reads s.heap y (.tuple ys) bs) (lx:PyData.canLayAll0 xs=true) (ly:PyData.canLayAll0 ys=true) (hd:PyData.depthAll xs<=n) (Z:A.units+n+1 < cLine) {Q:Bool->Shared->Prop} (q:Q (ltK (toK (.tuple xs)) (toK (.tuple ys))) s) :
 wpAny (PySem.model prog w) A (keyLt' (tuples' b) x y) Q E s:=by
 cases rx with
 | tuple h1 h2 h3 G =>
   cases ry with
   | tuple g1 g2 g3 I =>
     refine wpAny_bind (listItems_at h1 h3 ?_)
     refine wpAny_bind (listItems_at g1 g3 ?_)
     refine wpAny_bind (eU (hW (n:=n) (g:=id) (pr:=Prod.fst) (List.zipIdx_map_fst _ _) G I F lx ly hd ?_ ?_))
     ·rintro ⟨⟨x,y⟩,i⟩ x' y' d e as bs R hz hp rx ry F ld le hd r
      cases hp
      dsimp only
      refine wpAny_bind (SeqAt.eqAt_reads d e _ _ _ _ _ _ rx ry ld le (by lia) prog w E _ ?_)
      by_cases B:PyData.eqv d e=true
      ·rw [if_pos B] at r
       rw [B]
       exact wpAny_pure r
      ·rw [if_neg B] at r
       have B:PyData.eqv d e=false:=by simpa using B
       rw [B]
       refine wpAny_bind ?_
       by_cases z:(b&&i==0)=true
       ·rw [z]
        simp only [Bool.and_eq_true,beq_iff_eq] at z
        obtain ⟨rfl,rfl⟩:=z
        have j:=List.mem_zipIdx_iff_getElem?.mp hz
        obtain ⟨J,L,t1,O,e1,e2⟩:∃ (J L:Int) (t1 O:Tok),x = .int J t1/\y = .int L O:=by
         generalize hV:Array.toList _=vl at G j
         generalize hU:Array.toList _=ul at I j
         cases G with
         | nil=>simp at j
         | cons p1 p2 =>
           cases I with
           | nil=>simp at j
           | cons q1 q2 =>
             simp at j
             obtain ⟨⟨J,ei⟩,⟨L,ej⟩⟩:=Y rfl _ _ rfl rfl
             subst ei ej
             cases p1;cases q1
             exact ⟨_,_,_,_,j.1.symm,j.2.symm⟩
        subst e1 e2
        cases rx;cases ry
        refine oneLt_int ?_
        rw [<- gx]
        exact wpAny_pure r
       ·have z:(b&&i==0)=false:=by simpa using z
        rw [z]
        exact t6 F rx ry ld le hd Z (wpAny_pure r)
     ·have e1:=hJ F
      cases e2:bX xs ys with
      | some b =>
        rw [e2] at e1
        dsimp only at e1
        rw [e1] at q
        exact wpAny_pure q
      | none =>
        rw [e2] at e1
        dsimp only at e1
        rw [e1] at q
        have S:=bK G
        have U:=bK I
        refine wpAny_pure ?_
        simp only [Array.length_toList] at S U
        rw [S,U]
        exact q
end
end Srt
end L2
namespace L2
namespace Srt
open PySem PySem.Spec PyProof.Rows
structure mV (n:Nat) (ds:List PyData):Prop where
 cmp:∀ d∈ds, ∀ e∈ds,Cmpb d e
 lay:∀ d∈ds,d.canLay0=true/\d.depth<=n
 kind:(∀ d∈ds, ∃ i,d = .int i)∨(∀ d∈ds, ∃ i xs,d = .tuple (.int i::xs))∨(∀ d∈ds, ∃ ys xs,d = .tuple (.tuple ys::xs))
noncomputable def cq (h:Heap):Value->Option Value
 | .ref a=>(h.get? a).bind fun o=>match o.data with | .seq xs _=>xs[0]? | _=>none
 | _=>none
section
variable {prog:Program} {w:World} {A:Around} {E:Value->Shared->Prop} {s:Shared}
noncomputable def cY (h:Heap) (x:Keyed):Ky:=toK (SeqAt.readOf h x.1)
noncomputable def RdL (h:Heap) (vs:List Value) (ds:List PyData):Prop := ∀ v∈vs, ∃ d∈ds, ∃ as,Reads h v d as
theorem fL {arr:Array Value} {T:String} (h0 : 0 < arr.size) (h:∀ v∈arr.toList, ∀ R:Value->Shared->Prop,R (.type T) s->wpAny (PySem.model prog w) A (typeOf v) R E s) {Q:Option Value->Shared->Prop} (q:Q (some (.type T)) s):wpAny (PySem.model prog w) A (oneTypeOnly' arr) Q E s:=by
 rw [oneTypeOnly'_eq]
 refine wpAny_bind (dM (g:=fun _=>Value.type T) h ?_)
 have e:(Array.map (fun _=>Value.type T) arr)[0]? = some (Value.type T):=by
  rw [Array.getElem?_map,Array.getElem?_eq_getElem h0];rfl
 rw [e]
 dsimp only
 have e2:((Array.map (fun _=>Value.type T) arr).all fun x=>x==Value.type T)=true:=by
  rw [Array.all_eq_true]
  intro i hi
  simp
 rw [e2]
 exact wpAny_pure q
theorem qv {n:Nat} {kd:SortKind} {vs:List Value} {ds:List PyData} (j:RdL s.heap vs ds) (hs:mV n ds)
 (h:∀ (x y:Value) (d e:PyData) (as bs:List Addr) (E:Value->Shared->Prop) (Q:Bool->Shared->Prop),d∈ds->e∈ds->Reads s.heap x d as->Reads s.heap y e bs->Q (ltK (toK d) (toK e)) s->wpAny (PySem.model prog w) A (keyLt' kd x y) Q E s) :
 Cm prog w A s kd (fun x=>x.1∈vs) (fun x y=>ltK (cY s.heap x) (cY s.heap y)) where
 asym:=fun x y=>vK _ _
 neg:=fun x y z=>yI _ _ _
 run:=fun x y E Q hx B q=>by
  obtain ⟨d,hd,as,ra⟩:=j _ hx
  obtain ⟨e,he,bs,rb⟩:=j _ B
  have e1:=SeqAt.readOf_eq (hs.lay d hd).1 ra
  have e2:=SeqAt.readOf_eq (hs.lay e he).1 rb
  unfold cY at q
  rw [e1,e2] at q
  exact h _ _ d e as bs E Q hd he ra rb q
theorem mW {h:Heap} {vs:List Value} (j:∀ v∈vs, ∃ u,cq h v=some u):((vs.toArray.map (cq h)).all fun x=>x.isSome)=true:=by
 rw [Array.all_eq_true]
 intro i hi
 simp at hi
 obtain ⟨u,n⟩:=j vs[i] (List.getElem_mem hi)
 simp [n]
theorem t7 {h:Heap} {vs:List Value} {x:Value} (hx:x∈(Array.filterMap id (vs.toArray.map (cq h))).toList):∃ v∈vs,cq h v=some x:=by
 simp at hx
 exact hx
theorem t8 {h:Heap} {v:Value} {vs:List Value} {u:Value} (j:cq h v=some u) : 0 < (Array.filterMap id ((v::vs).toArray.map (cq h))).size:=by
 rw [<- Array.length_toList]
 simp [j]
theorem kx {h:Heap} {v:Value} {d:PyData} {xs:List PyData} {as:List Addr} (r:Reads h v (.tuple (d::xs)) as):∃ a o u us n bs,v = .ref a/\h.get? a=some o/\o.cls = .type "tuple" /\ o.data = .seq (u::us).toArray n/\Reads h u d bs:=by
 cases r with
 | @tuple a o vs n xs as h1 h2 j h4 =>
  generalize q:vs.toList=vl at h4
  cases h4 with
  | @cons u us _ _ bs _ z p2=>exact ⟨_,_,u,us,n,bs,rfl,h1,h2,by rw [j];congr 1;apply Array.toList_inj.mp;simpa using q,z⟩
theorem BR {n:Nat} {v:Value} {vs:List Value} {ds:List PyData} (O:RdL s.heap (v::vs) ds) (hs:mV n ds) (z:A.units+n+1 < cLine) :
 ∃ kd,(∀ (E:Value->Shared->Prop) (Q:SortKind->Shared->Prop),Q kd s->wpAny (PySem.model prog w) A (keyKind' (v::vs).toArray) Q E s)/\Cm prog w A s kd (fun x=>x.1∈v::vs) (fun x y=>ltK (cY s.heap x) (cY s.heap y)):=by
 rcases hs.kind with G | G | G
 ·refine ⟨oneType',fun E Q q => ?_,qv O hs fun x y d e as bs E Q hd he ra rb q => ?_⟩
  ·have hint:∀ u∈v::vs, ∃ i t,u = .int i t:=fun u z=>by
    obtain ⟨d,hd,as,ra⟩:=O u z
    obtain ⟨i,rfl⟩:=G d hd
    cases ra
    exact ⟨_,_,rfl⟩
   rw [keyKind'_eq]
   refine wpAny_bind (dM (g:=fun _=>(none:Option Value)) (fun u z R r => ?_) ?_)
   ·obtain ⟨i,t,rfl⟩:=hint u (by simpa using z)
    rw [firstOfTuple'_int];exact wpAny_pure r
   ·have e1:((Array.map (fun _=>(none:Option Value)) (v::vs).toArray).all fun x=>x.isSome)=false:=by
     simp
    rw [e1]
    have e2:((Array.map (fun _=>(none:Option Value)) (v::vs).toArray)[0]?.bind id).isSome=false:=by simp
    simp only [e2,Bool.false_eq_true,if_false]
    refine wpAny_bind (fL (T := "int") (by simp) (fun u z R r => ?_) ?_)
    ·obtain ⟨i,t,rfl⟩:=hint u (by simpa using z)
     exact wpAny_pure r
    ·exact wpAny_pure q
  ·obtain ⟨i,rfl⟩:=G d hd
   obtain ⟨j,rfl⟩:=G e he
   cases ra;cases rb
   rw [keyLt'_oneType]
   exact oneLt_int (by rw [<- gx];exact q)
 ·refine ⟨tuples' true,fun E Q q => ?_,qv O hs fun x y d e as bs E Q hd he ra rb q => ?_⟩
  ·have hf:∀ u∈v::vs, ∃ a o i t us n,u = .ref a/\s.heap.get? a=some o/\o.cls = .type "tuple" /\ o.data = .seq (.int i t::us).toArray n:=fun u z=>by
    obtain ⟨d,hd,as,ra⟩:=O u z
    obtain ⟨i,xs,rfl⟩:=G d hd
    obtain ⟨a,o,U,us,n,bs,e1,e2,I,F,J⟩:=kx ra
    cases J
    exact ⟨a,o,_,_,us,n,e1,e2,I,F⟩
   have B:∀ u∈v::vs, ∃ i t,cq s.heap u=some (.int i t):=fun u z=>by
    obtain ⟨a,o,i,t,us,n,rfl,e2,I,F⟩:=hf u z
    exact ⟨i,t,by simp [cq,e2,F]⟩
   rw [keyKind'_eq]
   refine wpAny_bind (dM (g:=cq s.heap) (fun u z R r => ?_) ?_)
   ·obtain ⟨a,o,i,t,us,n,rfl,e2,I,F⟩:=hf u (by simpa using z)
    refine ku e2 I F ?_
    simpa [cq,e2,F] using r
   ·rw [mW (fun u z=>let ⟨i,t,e⟩:=B u z; ⟨_,e⟩)]
    refine wpAny_bind (wpAny_rule ?_)
    obtain ⟨Y,t0,e0⟩:=B v (by simp)
    refine wpAny_bind (fL (T := "int") (t8 e0) (fun u z R r => ?_) ?_)
    ·obtain ⟨u',L,e⟩:=t7 z
     obtain ⟨i,t,e'⟩:=B u' L
     rw [e'] at e;cases e
     exact wpAny_pure r
    ·exact wpAny_pure q
  ·obtain ⟨i,xs,rfl⟩:=G d hd
   obtain ⟨j,ys,rfl⟩:=G e he
   have l1:=hs.lay _ hd
   have l2:=hs.lay _ he
   refine kw (n:=n) (fun _ d e hd he => ?_) (hs.cmp _ hd _ he) ra rb (by simpa [PyData.canLay0] using l1.1) (by simpa [PyData.canLay0] using l2.1) (by have:=l1.2;simp [PyData.depth] at this;lia) z q
   simp at hd he;subst hd he
   exact ⟨⟨_,rfl⟩,_,rfl⟩
 ·refine ⟨tuples' false,fun E Q q => ?_,qv O hs fun x y d e as bs E Q hd he ra rb q => ?_⟩
  ·have hf:∀ u∈v::vs, ∃ a o b ob us n,u = .ref a/\s.heap.get? a=some o/\o.cls = .type "tuple" /\ o.data = .seq (.ref b::us).toArray n/\s.heap.get? b=some ob/\ob.cls = .type "tuple" := fun u z=>by
    obtain ⟨d,hd,as,ra⟩:=O u z
    obtain ⟨ys,xs,rfl⟩:=G d hd
    obtain ⟨a,o,U,us,n,bs,e1,e2,I,F,J⟩:=kx ra
    cases J with
    | tuple h1 h2 Z h4=>exact ⟨a,o,_,_,us,n,e1,e2,I,F,h1,h2⟩
   have B:∀ u∈v::vs, ∃ b ob,cq s.heap u=some (.ref b)/\s.heap.get? b=some ob/\ob.cls = .type "tuple" := fun u z=>by
    obtain ⟨a,o,b,ob,us,n,rfl,e2,I,F,J,S⟩:=hf u z
    exact ⟨b,ob,by simp [cq,e2,F],J,S⟩
   rw [keyKind'_eq]
   refine wpAny_bind (dM (g:=cq s.heap) (fun u z R r => ?_) ?_)
   ·obtain ⟨a,o,b,ob,us,n,rfl,e2,I,F,J,S⟩:=hf u (by simpa using z)
    refine ku e2 I F ?_
    simpa [cq,e2,F] using r
   ·rw [mW (fun u z=>let ⟨i,t,e,_⟩:=B u z; ⟨_,e⟩)]
    refine wpAny_bind (wpAny_rule ?_)
    obtain ⟨Y,t0,e0,_⟩:=B v (by simp)
    refine wpAny_bind (fL (T := "tuple") (t8 e0) (fun u z R r => ?_) ?_)
    ·obtain ⟨u',L,e⟩:=t7 z
     obtain ⟨b,ob,e',J,S⟩:=B u' L
     rw [e'] at e;cases e
     exact yJ J S r
    ·exact wpAny_pure q
  ·obtain ⟨zs,xs,rfl⟩:=G d hd
   obtain ⟨zs',ys,rfl⟩:=G e he
   have l1:=hs.lay _ hd
   have l2:=hs.lay _ he
   exact kw (n:=n) (fun h=>by cases h) (hs.cmp _ hd _ he) ra rb (by simpa [PyData.canLay0] using l1.1) (by simpa [PyData.canLay0] using l2.1) (by have:=l1.2;simp [PyData.depth] at this;lia) z q
end
end Srt
end L2
namespace L2
namespace Srt
open PySem PySem.Spec PyProof.Rows
inductive Pl:PyData->Prop where
 | int (i:Int):Pl (.int i)
 | tup (xs:List PyData):(∀ x∈xs,Pl x)->Pl (.tuple xs)
theorem bh {h h':Heap} (k:∀ b o,h.get? b=some o->o.cls = .type "tuple" -> h'.get? b=some o) {d:PyData} (p:Pl d):∀ {v:Value} {as:List Addr},Reads h v d as->Reads h' v d as:=by
 induction p with
 | int i=>intro v as r;cases r;exact .int _ _
 | tup xs hx ih =>
   intro v as r
   cases r with
   | tuple h1 h2 n q =>
     refine .tuple (k _ _ h1 h2) h2 n ?_
     have g:∀ (xs:List PyData),(∀ x∈xs, ∀ {v:Value} {as:List Addr},Reads h v x as->Reads h' v x as) -> ∀ (vs:List Value) (as:List Addr),ReadsAll h vs xs as->ReadsAll h' vs xs as:=by
      intro xs
      induction xs with
      | nil=>intro _ vs as r;cases r;exact .nil
      | cons x xs ihx =>
        intro j vs as r
        cases r with
        | cons z p2=>exact .cons (j x (by simp) z) (ihx (fun y B=>j y (by simp [B])) _ _ p2)
     exact g xs ih _ _ q
section
variable {prog:Program} {w:World} {A:Around} {E:Value->Shared->Prop} {s:Shared}
theorem yK {m:Nat} {a:Addr} {vs:List Value} {n:Nat} {ds:List PyData} (ha:s.heap.get? a=some (seqObj "list" vs.toArray n)) (S:RdL s.heap vs ds) (hs:mV m ds) (hp:∀ d∈ds,Pl d) (hl:vs.length<=sizeLine) (hu:A.units+m+1 < cLine) {Q:PySem.Fin->Shared->Prop}
 (q:∀ (h':Heap) (out:List Value) (n':Nat),(∀ b o,b≠a->s.heap.get? b=some o->h'.get? b=some o)->h'.get? a=some (seqObj "list" out.toArray n')->out.Perm vs->out.Pairwise (fun x y=>ltK (toK (SeqAt.readOf s.heap y)) (toK (SeqAt.readOf s.heap x))=false)->Q (.done (.ret .none)) { s with heap:=h' }) :
 wpAny (PySem.model prog w) A (Builtin.«list.sort» ⟨[.ref a],[]⟩) Q E s:=by
 rw [list_sort_plain]
 refine wpAny_bind (listItems_at ha rfl ?_)
 refine wpAny_bind (listUpdate_at ha rfl ?_ (by simpa using hl) (by simp))
 have g1:=get?_update_seq ha (fun _ => #[])
 generalize CD:s.heap.update a (Obj.mapSeq fun _ => #[])=h1 at g1
 generalize (if ((#[]:Array Value).size==vs.toArray.size)=true then n else n+1)=n1 at g1
 refine wpAny_bind (seqEpoch_at g1 rfl ?_)
 refine wpAny_bind (wpAny_newTuple ?_ (by simpa using hl))
 refine wpAny_bind (wpAny_newList ?_ (by simp))
 refine wpAny_holding ?_
 dsimp only
 generalize L:({ heap:=(h1.push { cls:=Value.type "tuple",data:=Data.seq vs.toArray.toList.toArray }).push { cls:=Value.type "list",data:=Data.seq [].toArray },gens:=s.gens,drawn:=s.drawn,toks:=s.toks,os:=s.os }:Shared)=s3
 have g3:s3.heap.get? a=some (seqObj "list" #[] n1):=by
  rw [<- L];exact Heap.get?_push_of_some _ (Heap.get?_push_of_some _ g1)
 have keep:∀ b o,b≠a->s.heap.get? b=some o->s3.heap.get? b=some o:=fun b o F G=>by
  rw [<- L, <- CD]
  exact Heap.get?_push_of_some _ (Heap.get?_push_of_some _ (by rw [Heap.get?_update_ne _ _ _ _ F];exact G))
 have keepT:∀ b o,s.heap.get? b=some o->o.cls = .type "tuple" -> s3.heap.get? b=some o:=fun b o F hc=>keep b o (fun z=>by
  rw [z,ha] at F;cases F;simp at hc) F
 have CF:RdL s3.heap vs ds:=fun v hv=>by
  obtain ⟨d,hd,as,r⟩:=S v hv
  exact ⟨d,hd,as,bh keepT (hp d hd) r⟩
 have same:∀ v∈vs,SeqAt.readOf s3.heap v=SeqAt.readOf s.heap v:=fun v hv=>by
  obtain ⟨d,hd,as,r⟩:=S v hv
  rw [SeqAt.readOf_eq (hs.lay d hd).1 r,SeqAt.readOf_eq (hs.lay d hd).1 (bh keepT (hp d hd) r)]
 have q:∀ (h':Heap) (out:List Value) (n':Nat),(∀ b o,b≠a->s.heap.get? b=some o->h'.get? b=some o)->h'.get? a=some (seqObj "list" out.toArray n')->out.Perm vs->out.Pairwise (fun x y=>ltK (toK (SeqAt.readOf s.heap y)) (toK (SeqAt.readOf s.heap x))=false)->Q (.done (.ret .none)) { s3 with heap:=h' }:=by
  rw [<- L];exact q
 have CG:∀ A':Around,A'.units=A.units->True:=fun _ _=>trivial
 clear L
 let Good:SortSt->Prop:=fun st'=>failedOf st'=none/\(arrOf st').toList.Perm (vs.zip vs)/\(arrOf st').toList.Pairwise (fun x y=>ltK (cY s3.heap y) (cY s3.heap x)=false)
 by_cases B:vs.toArray.size < 2
 ·rw [if_pos B,if_pos B]
  refine wpAny_bind (wpAny_pure ?_)
  have I:vs.length < 2:=by simpa using B
  have run:wpAny (PySem.model prog w) A ((pure ():StateT SortSt Sem Unit).run (SortSt.mk' general' (vs.toArray.zip vs.toArray) #[] 7 none)) (fun r s'=>s'=s3/\Good r.2) E s3:=by
   refine wpAny_pure ⟨rfl,rfl, ?_, ?_⟩
   ·show (vs.toArray.zip vs.toArray).toList.Perm _
    simp
   ·show List.Pairwise _ (vs.toArray.zip vs.toArray).toList
    match vs,I with
    | [],_=>simp
    | [x],_=>simp
  refine wpAny_bind (wpAny_mono (Q:=fun r s'=>s'=s3/\Good r.2) run (fun r s' S => ?_) (fun _ _ z=>z))
  obtain ⟨rfl,J,j,O⟩:=S
  obtain ⟨u,st'⟩:=r
  refine wpAny_bind (seqEpoch_at g3 rfl ?_)
  refine wpAny_bind (listUpdate_at g3 rfl ?_ (by simp) (by simp only [Array.size_map];have:=j.length_eq;simp at this;rw [this];lia))
  dsimp only at J
  rw [J]
  simp only [bne_self_eq_false,Bool.false_eq_true,if_false]
  refine wpAny_pure ?_
  have gq:=get?_update_seq g3 (fun _=>Array.map (fun x=>x.snd) (arrOf st'))
  have eo:Array.map (fun x=>x.snd) (arrOf st')=((arrOf st').toList.map fun x=>x.snd).toArray:=by apply Array.toList_inj.mp;simp
  refine q _ ((arrOf st').toList.map fun x=>x.snd) _ (fun b o F G => ?_) (by rw [gq,eo]) ?_ ?_
  ·rw [Heap.get?_update_ne _ _ _ _ F]
   exact keep b o F G
  ·have U:=j.map (fun x:Keyed=>x.snd)
   rw [List.map_snd_zip (by simp)] at U
   exact U
  ·rw [List.pairwise_map]
   refine O.imp_of_mem fun {x y} hx hy hxy => ?_
   have mx:=mem_zip_self (j.mem_iff.mp hx)
   have my:=mem_zip_self (j.mem_iff.mp hy)
   unfold cY at hxy
   rw [mx.1,my.1,same y.2 (by rw [<- my.1];exact my.2),same x.2 (by rw [<- mx.1];exact mx.2)] at hxy
   exact hxy
 ·rw [if_neg B,if_neg B]
  have I : 2<=vs.length:=by simpa using B
  obtain ⟨v0,R,Y⟩:∃ v0 R,vs=v0::R:=by
   match vs,I with
   | v::t,_=>exact ⟨v,t,rfl⟩
  obtain ⟨kd,Z,CC⟩:=BR (prog:=prog) (w:=w) (A:=A) (v:=v0) (vs:=R) (by rw [<- Y];exact CF) hs hu
  rw [<- Y] at Z CC
  refine wpAny_bind (Z E _ ?_)
  have run:wpAny (PySem.model prog w) A (sortRuns'.run (SortSt.mk' kd (vs.toArray.zip vs.toArray) #[] 7 none)) (fun r s'=>s'=s3/\Good r.2) E s3:=by
   have ez:(arrOf (SortSt.mk' kd (vs.toArray.zip vs.toArray) #[] 7 none)).toList=vs.zip vs:=by
    show (vs.toArray.zip vs.toArray).toList=_
    simp
   have h9:wpS (PySem.model prog w) A E s3 sortRuns' (fun _ st'=>Good st') (SortSt.mk' kd (vs.toArray.zip vs.toArray) #[] 7 none):=by
    refine on (st:=SortSt.mk' kd (vs.toArray.zip vs.toArray) #[] 7 none) CC rfl rfl rfl (fun x hx => ?_) fun st' p1 p2 p3=>⟨p3,by rw [ez] at p1;exact p1,p2⟩
    rw [ez] at hx
    exact (mem_zip_self hx).2
   exact h9
  refine wpAny_bind (wpAny_mono (Q:=fun r s'=>s'=s3/\Good r.2) run (fun r s' S => ?_) (fun _ _ z=>z))
  obtain ⟨rfl,J,j,O⟩:=S
  obtain ⟨u,st'⟩:=r
  refine wpAny_bind (seqEpoch_at g3 rfl ?_)
  refine wpAny_bind (listUpdate_at g3 rfl ?_ (by simp) (by simp only [Array.size_map];have:=j.length_eq;simp at this;rw [this];lia))
  dsimp only at J
  rw [J]
  simp only [bne_self_eq_false,Bool.false_eq_true,if_false]
  refine wpAny_pure ?_
  have gq:=get?_update_seq g3 (fun _=>Array.map (fun x=>x.snd) (arrOf st'))
  have eo:Array.map (fun x=>x.snd) (arrOf st')=((arrOf st').toList.map fun x=>x.snd).toArray:=by apply Array.toList_inj.mp;simp
  refine q _ ((arrOf st').toList.map fun x=>x.snd) _ (fun b o F G => ?_) (by rw [gq,eo]) ?_ ?_
  ·rw [Heap.get?_update_ne _ _ _ _ F]
   exact keep b o F G
  ·have U:=j.map (fun x:Keyed=>x.snd)
   rw [List.map_snd_zip (by simp)] at U
   exact U
  ·rw [List.pairwise_map]
   refine O.imp_of_mem fun {x y} hx hy hxy => ?_
   have mx:=mem_zip_self (j.mem_iff.mp hx)
   have my:=mem_zip_self (j.mem_iff.mp hy)
   unfold cY at hxy
   rw [mx.1,my.1,same y.2 (by rw [<- my.1];exact my.2),same x.2 (by rw [<- mx.1];exact mx.2)] at hxy
   exact hxy
theorem qw (u:Value):checkBuiltinCall "sorted" ⟨[u],[]⟩=pure ():=by kernel_rfl
theorem t9 {m:Nat} {u:Value} {ds:List PyData} {C:Heap->List Value->Prop} {Q:Value->Shared->Prop} (Z:A.units+m+3 < cLine) (hs:mV m ds) (B:∀ d∈ds,Pl d)
 (F:∀ (E:Value->Shared->Prop) (R:List Value->Shared->Prop),(∀ (h':Heap) (vs':List Value) (t':Nat),C h' vs'->RdL h' vs' ds->vs'.length<=sizeLine->s.toks<=t'->R vs' { s with heap:=h',toks:=t' })->wpAny (PySem.model prog w) A.in1 (collect u) R E s)
 (q:∀ (h1 h2:Heap) (vs out:List Value) (n' t':Nat),C h1 vs->(∀ b o,h1.get? b=some o->h2.get? b=some o)->h2.get? h1.objs.size=some (seqObj "list" out.toArray n')->out.Perm vs->out.Pairwise (fun x y=>ltK (toK (SeqAt.readOf h2 y)) (toK (SeqAt.readOf h2 x))=false)->RdL h2 out ds->vs.length<=sizeLine->s.toks<=t'->Q (.ref h1.objs.size) { s with heap:=h2,toks:=t' }) :
 wpAny (PySem.model prog w) A (call (.builtin "sorted") [u]) Q E s:=by
 refine wpAny_call (codeAny_call_builtin plain_sorted entry_sorted (wpAny_of_eq (qw u) ?_))
 unfold Builtin.sorted
 refine wpAny_bind (wpAny_of_eq (a:=()) (by kernel_rfl) ?_)
 refine wpAny_bind (F _ _ fun h1 vs t' U G I Y => ?_)
 refine wpAny_bind (wpAny_newList ?_ I)
 refine wpAny_bind (wpAny_holding ?_)
 have J:RdL (h1.push { cls:=Value.type "list",data:=Data.seq vs.toArray }) vs ds:=fun v z=>by
  obtain ⟨d,hd,as,r⟩:=G v z
  exact ⟨d,hd,as,bh (fun b o n _=>Heap.get?_push_of_some _ n) (B d hd) r⟩
 have S:(h1.push { cls:=Value.type "list",data:=Data.seq vs.toArray }).get? h1.objs.size=some (seqObj "list" vs.toArray 0):=Heap.get?_push_size _ rfl
 refine wpAny_call_entry slot_list_sort (T := "list") ⟨_,S,rfl⟩ entry_list_sort ?_ (args_list_sort _)
 refine yK (m:=m) S J hs B I (by show A.units+1+1+m+1 < cLine;lia) fun h2 out n' keep g2 j L=>⟨_,rfl,wpAny_pure ?_⟩
 have old:∀ b o,h1.get? b=some o->h2.get? b=some o:=fun b o n=>keep b o (Nat.ne_of_lt (Heap.lt_size n)) (Heap.get?_push_of_some _ n)
 have O:RdL h2 vs ds:=fun v z=>by
  obtain ⟨d,hd,as,r⟩:=G v z
  exact ⟨d,hd,as,bh (fun b o n _=>old b o n) (B d hd) r⟩
 refine q h1 h2 vs out n' t' U old g2 j ?_ (fun v z=>O v (j.mem_iff.mp z)) I Y
 have same:∀ v∈vs,SeqAt.readOf (h1.push { cls:=Value.type "list",data:=Data.seq vs.toArray }) v=SeqAt.readOf h2 v:=fun v z=>by
  obtain ⟨d,hd,as,r⟩:=G v z
  rw [SeqAt.readOf_eq (hs.lay d hd).1 (bh (fun b o n _=>old b o n) (B d hd) r),SeqAt.readOf_eq (hs.lay d hd).1 (bh (fun b o n _=>Heap.get?_push_of_some _ n) (B d hd) r)]
 refine L.imp_of_mem fun {x y} hx hy hxy => ?_
 rw [same y (j.mem_iff.mp hy),same x (j.mem_iff.mp hx)] at hxy
 exact hxy
end
end Srt
end L2
namespace L2
namespace It
open PySem PySem.Spec PyProof.Rows
end It
end L2
namespace L2
namespace It
open PySem PySem.Spec PyProof.Rows
end It
end L2
namespace L2
namespace It
open PySem PySem.Spec PyProof.Rows
end It
end L2
namespace L2
open PySem PySem.Spec PyProof.Rows
section
section
variable {P:Program} {w:World} {H:Hp} {h:Heap} {a:Addr} {o:HO}
theorem ObjOk.there (x:ObjOk P w H h a o):∃ ob,h.get? a=some ob:=by
 cases o with
 | lst xs=>obtain ⟨_,_,_,_,e⟩:=x;exact ⟨_,e⟩
 | tup xs=>obtain ⟨_,_,_,_,e,_⟩:=x;exact ⟨_,e⟩
 | dK kvs=>obtain ⟨_,_,_,_,o,_,_,e,_⟩:=x;exact ⟨_,e⟩
 | dT kvs=>obtain ⟨_,_,_,_,o,_,_,e,_⟩:=x;exact ⟨_,e⟩
 | set S n=>obtain ⟨o,_,_,_,e,_⟩:=x;exact ⟨_,e⟩
 | ins C dx fs=>obtain ⟨_,_,_,e,_⟩:=x;exact ⟨_,e⟩
 | own y=>obtain ⟨_,e⟩:=x;exact ⟨_,e⟩
 | xd fs=>obtain ⟨_,⟨_,_,_,e,_⟩,_⟩:=x;exact ⟨_,e⟩
 | rng lo hi=>obtain ⟨_,_,_,e⟩:=x;exact ⟨_,e⟩
 | frz ob u=>obtain ⟨e,_⟩:=x;exact ⟨_,e⟩
 | tbl ps=>exact ⟨_,show h.get? a=some _ from x⟩
 | met f y=>exact ⟨_,show h.get? a=some _ from x⟩
 | ext φ => obtain ⟨_,⟨_,e⟩,_⟩:=x;exact ⟨_,e⟩
end
noncomputable def lay (H:Hp) (N:Addr->Option HO):Hp:=fun b=>match N b with | some o=>some o | none=>H b
section
variable {X:Cx} {pins:List (Addr×Obj)} {σ:List (Option V)} {H:Hp} {s:Shared} {h':Heap} {N:Addr->Option HO}
theorem yL {b:Addr} {o:HO} (e:N b=some o):lay H N b=some o:=by unfold lay;rw [e]
theorem jz {b:Addr} (e:N b=none):lay H N b=H b:=by unfold lay;rw [e]
theorem Inv.fresh' (I:Inv X pins σ H s) {b:Addr} (e:s.heap.get? b=none):H b=none:=by
 cases q:H b with
 | none=>rfl
 | some o=>obtain ⟨ob,eo⟩:=(I.hok b o q).there;rw [e] at eo;cases eo
theorem Inv.laidN {t':Nat} (I:Inv X pins σ H s) (k:∀ b u,s.heap.get? b=some u->h'.get? b=some u) (j:∀ b o,N b=some o->s.heap.get? b=none) (new:∀ b o,N b=some o->ObjOk X.prog X.w (lay H N) h' b o):Inv X pins σ (lay H N) { s with heap:=h',toks:=t' }:=by
 have old:∀ b u,s.heap.get? b=some u->N b=none:=fun b u e=>by
  cases q:N b with
  | none=>rfl
  | some o=>rw [j b o q] at e;cases e
 have oldH:∀ b o,H b=some o->lay H N b=some o:=fun b o e=>by
  obtain ⟨ob,eo⟩:=(I.hok b o e).there
  rw [jz (old b ob eo)];exact e
 refine I.un ⟨fun b u q _ _ _=>k b u q,fun b u q _ _ _=>⟨u.slots,k b u q⟩,fun b u q n _=>by rw [jz (old b u q)];exact n,fun b u q _=>⟨u,k b u q⟩,fun b xs q=>oldH b _ q,fun b u xs q=>oldH b _ q,fun b ps q=>⟨#[],by rw [oldH b _ q];simp⟩⟩ fun b o e => ?_
 cases q:N b with
 | some o'=>rw [yL q] at e;cases e;exact new b o q
 | none =>
   rw [jz q] at e
   exact (I.hok b o e).stay (fun c v _ q=>k c v q) (fun c q=>oldH c _ q) fun c xs q=>oldH c _ q
end
namespace Mi
open L2.Srt
inductive Sh where
 | int
 | tup (l:List Sh)
mutual
noncomputable def hs:Sh->D->Bool
 | .int, .int _=>true
 | .tup l, .tup ds=>hss l ds
 | _,_=>false
noncomputable def hss:List Sh->List D->Bool
 | [],[] => true
 | s::l,d::ds=>hs s d&&hss l ds
 | _,_=>false
end
mutual
noncomputable def pd:D->PyData
 | .int i => .int i
 | .tup ds => .tuple (pds ds)
 | _ => .none
noncomputable def pds:List D->List PyData
 | [] => []
 | d::ds=>pd d::pds ds
end
mutual
noncomputable def dep:Sh->Nat
 | .int => 0
 | .tup l=>deps l+1
noncomputable def deps:List Sh->Nat
 | [] => 0
 | s::l=>max (dep s) (deps l)
end
noncomputable def jA:Sh->Bool
 | .int=>true
 | .tup (.int::l)=>decide (deps l<=6)
 | .tup (.tup a::l)=>decide (deps (.tup a::l)<=6)
 | .tup [] => false
noncomputable def kyD (d:D):Ky:=toK (pd d)
mutual
theorem tf:∀ (s:Sh) (x y:D),hs s x=true->hs s y=true->Cmpb (pd x) (pd y)
 | .int, .int a, .int b,_,_=>by simp only [pd];exact .int a b
 | .tup l, .tup a, .tup b,h,g=>by simp only [hs] at h g;simp only [pd];exact hss_cmp l a b h g
 | .int, .int _, .non,_,g=>by simp [hs] at g
 | .int, .int _, .bl _,_,g=>by simp [hs] at g
 | .int, .int _, .str _,_,g=>by simp [hs] at g
 | .int, .int _, .tup _,_,g=>by simp [hs] at g
 | .int, .int _, .con _,_,g=>by simp [hs] at g
 | .int, .int _, .ref _,_,g=>by simp [hs] at g
 | .int, .non,_,h,_=>by simp [hs] at h
 | .int, .bl _,_,h,_=>by simp [hs] at h
 | .int, .str _,_,h,_=>by simp [hs] at h
 | .int, .tup _,_,h,_=>by simp [hs] at h
 | .int, .con _,_,h,_=>by simp [hs] at h
 | .int, .ref _,_,h,_=>by simp [hs] at h
 | .tup _, .non,_,h,_=>by simp [hs] at h
 | .tup _, .bl _,_,h,_=>by simp [hs] at h
 | .tup _, .int _,_,h,_=>by simp [hs] at h
 | .tup _, .str _,_,h,_=>by simp [hs] at h
 | .tup _, .con _,_,h,_=>by simp [hs] at h
 | .tup _, .ref _,_,h,_=>by simp [hs] at h
 | .tup _, .tup _, .non,_,g=>by simp [hs] at g
 | .tup _, .tup _, .bl _,_,g=>by simp [hs] at g
 | .tup _, .tup _, .int _,_,g=>by simp [hs] at g
 | .tup _, .tup _, .str _,_,g=>by simp [hs] at g
 | .tup _, .tup _, .con _,_,g=>by simp [hs] at g
 | .tup _, .tup _, .ref _,_,g=>by simp [hs] at g
theorem hss_cmp:∀ (l:List Sh) (a b:List D),hss l a=true->hss l b=true->Cmpb (.tuple (pds a)) (.tuple (pds b))
 | [],[],[],_,_=>by simp only [pds];exact .nil _
 | [],[],_::_,_,g=>by simp [hss] at g
 | [],_::_,_,h,_=>by simp [hss] at h
 | _::_,[],_,h,_=>by simp [hss] at h
 | _::_,_::_,[],_,g=>by simp [hss] at g
 | s::l,x::a,y::b,h,g=>by
   simp only [hss,Bool.and_eq_true] at h g
   simp only [pds]
   exact .cons (tf s x y h.1 g.1) (hss_cmp l a b h.2 g.2)
end
mutual
theorem qz:∀ (s:Sh) (x:D),hs s x=true->Pl (pd x)/\(pd x).canLay0=true/\(pd x).depth<=dep s
 | .int, .int a,_=>by simp only [pd];exact ⟨.int a,rfl,by simp [PyData.depth]⟩
 | .tup l, .tup a,h=>by
  simp only [hs] at h
  obtain ⟨h1,h2,j⟩:=hss_pl l a h
  simp only [pd]
  exact ⟨.tup _ h1,by simpa [PyData.canLay0] using h2,by simp [PyData.depth,dep];lia⟩
 | .int, .non,h=>by simp [hs] at h
 | .int, .bl _,h=>by simp [hs] at h
 | .int, .str _,h=>by simp [hs] at h
 | .int, .tup _,h=>by simp [hs] at h
 | .int, .con _,h=>by simp [hs] at h
 | .int, .ref _,h=>by simp [hs] at h
 | .tup _, .non,h=>by simp [hs] at h
 | .tup _, .bl _,h=>by simp [hs] at h
 | .tup _, .int _,h=>by simp [hs] at h
 | .tup _, .str _,h=>by simp [hs] at h
 | .tup _, .con _,h=>by simp [hs] at h
 | .tup _, .ref _,h=>by simp [hs] at h
theorem hss_pl:∀ (l:List Sh) (a:List D),hss l a=true->(∀ x∈pds a,Pl x)/\PyData.canLayAll0 (pds a)=true/\PyData.depthAll (pds a)<=deps l
 | [],[],_=>by simp [pds,PyData.canLayAll0,PyData.depthAll]
 | [],_::_,h=>by simp [hss] at h
 | _::_,[],h=>by simp [hss] at h
 | s::l,x::a,h=>by
   simp only [hss,Bool.and_eq_true] at h
   obtain ⟨h1,h2,n⟩:=qz s x h.1
   obtain ⟨g1,g2,g3⟩:=hss_pl l a h.2
   simp only [pds]
   refine ⟨fun y j => ?_,by simp [PyData.canLayAll0,h2,g2],by simp [PyData.depthAll,deps];lia⟩
   rcases List.mem_cons.mp j with z | z
   ·rw [z];exact h1
   ·exact g1 y z
end
mutual
theorem xo (M:Mem):∀ (s:Sh) (x:D) (n:Nat),hs s x=true->dep s<=n->rb n M x=some (pd x)
 | .int, .int a,n,_,_=>by cases n <;> simp [rb,pd]
 | .tup l, .tup a,n,h,j=>by
  simp only [hs] at h
  simp only [dep] at j
  obtain ⟨k,rfl⟩:∃ k,n=k+1:=⟨n - 1,by lia⟩
  simp only [rb,pd]
  rw [hss_rb M l a k h (by lia)];rfl
 | .int, .non,_,h,_=>by simp [hs] at h
 | .int, .bl _,_,h,_=>by simp [hs] at h
 | .int, .str _,_,h,_=>by simp [hs] at h
 | .int, .tup _,_,h,_=>by simp [hs] at h
 | .int, .con _,_,h,_=>by simp [hs] at h
 | .int, .ref _,_,h,_=>by simp [hs] at h
 | .tup _, .non,_,h,_=>by simp [hs] at h
 | .tup _, .bl _,_,h,_=>by simp [hs] at h
 | .tup _, .int _,_,h,_=>by simp [hs] at h
 | .tup _, .str _,_,h,_=>by simp [hs] at h
 | .tup _, .con _,_,h,_=>by simp [hs] at h
 | .tup _, .ref _,_,h,_=>by simp [hs] at h
theorem hss_rb (M:Mem):∀ (l:List Sh) (a:List D) (n:Nat),hss l a=true->deps l<=n->aJ (rb n M) a=some (pds a)
 | [],[],_,_,_=>by simp [pds,aJ]
 | [],_::_,_,h,_=>by simp [hss] at h
 | _::_,[],_,h,_=>by simp [hss] at h
 | s::l,x::a,n,h,j=>by
   simp only [hss,Bool.and_eq_true] at h
   simp only [deps] at j
   simp only [pds,aJ]
   rw [xo M s x n h.1 (by lia),hss_rb M l a n h.2 (by lia)];rfl
end
theorem mX {s:Sh} (h:jA s=true):dep s<=7:=by
 match s,h with
 | .int,_=>simp [dep]
 | .tup (.int::l),h=>simp [jA] at h;simp [dep,deps];lia
 | .tup (.tup a::l),h=>simp only [jA,decide_eq_true_eq] at h;simp only [dep];lia
theorem yM {s:Sh} (h:jA s=true) {xs:List D} (hx:∀ x∈xs,hs s x=true):mV 7 (xs.map pd) /\ ∀ d∈xs.map pd,Pl d:=by
 refine ⟨⟨?_, ?_, ?_⟩, ?_⟩
 ·intro d hd e he
  obtain ⟨x,h1,rfl⟩:=List.mem_map.mp hd
  obtain ⟨y,h2,rfl⟩:=List.mem_map.mp he
  exact tf s x y (hx x h1) (hx y h2)
 ·intro d hd
  obtain ⟨x,h1,rfl⟩:=List.mem_map.mp hd
  obtain ⟨_,g2,g3⟩:=qz s x (hx x h1)
  exact ⟨g2,by have:=mX h;lia⟩
 ·match s,h with
  | .int,_ =>
   left
   intro d hd
   obtain ⟨x,h1,rfl⟩:=List.mem_map.mp hd
   have:=hx x h1
   cases x <;> simp [hs] at this
   exact ⟨_,rfl⟩
  | .tup (.int::l),_ =>
   right;left
   intro d hd
   obtain ⟨x,h1,rfl⟩:=List.mem_map.mp hd
   have:=hx x h1
   cases x <;> simp [hs] at this
   rename_i ds
   cases ds with
   | nil=>simp [hss] at this
   | cons y ys =>
     simp [hss] at this
     cases y <;> simp [hs] at this
     exact ⟨_,_,rfl⟩
  | .tup (.tup a::l),_ =>
   right;right
   intro d hd
   obtain ⟨x,h1,rfl⟩:=List.mem_map.mp hd
   have:=hx x h1
   cases x <;> simp [hs] at this
   rename_i ds
   cases ds with
   | nil=>simp [hss] at this
   | cons y ys =>
     simp [hss] at this
     cases y <;> simp [hs] at this
     exact ⟨_,_,rfl⟩
 ·intro d hd
  obtain ⟨x,h1,rfl⟩:=List.mem_map.mp hd
  exact (qz s x (hx x h1)).1
theorem ky {α β:Type} (f : α -> β):∀ {l m:List β},l.Perm m -> ∀ {t:List α},t.map f=m -> ∃ t':List α,t'.Perm t/\t'.map f=l:=by
 intro l m h
 induction h with
 | nil=>intro t e;exact ⟨[],by rw [List.map_eq_nil_iff.mp e],rfl⟩
 | cons x h ih =>
   intro t e
   cases t with
   | nil=>simp at e
   | cons a t =>
     simp at e
     obtain ⟨t',h1,h2⟩:=ih e.2
     exact ⟨a::t',h1.cons a,by simp [h2,e.1]⟩
 | swap x y l =>
   intro t e
   match t,e with
   | a::b::t,e =>
     simp at e
     exact ⟨b::a::t, .swap _ _ _,by simp [e]⟩
 | trans h1 h2 j n =>
   intro t e
   obtain ⟨z,p2,e2⟩:=n e
   obtain ⟨t1,q,e1⟩:=j e2
   exact ⟨t1,q.trans p2,e1⟩
noncomputable def mY (ys:List D):Prop:=ys.Pairwise fun a b=>ltK (kyD b) (kyD a)=false
theorem oT {K:Frag} {H:Hp}:∀ {ds:List D} {vs:List V} {us:List Value},RDs K H ds vs->Vals vs us -> ∃ t:List (D×V×Value),t.map (·.1)=ds/\t.map (·.2.1)=vs/\t.map (·.2.2)=us /\ ∀ p∈t,RD K H p.1 p.2.1/\RelV p.2.1 p.2.2
 | [],vs,us,h,g=>by
  cases RDs.nil_iff.mp h
  cases g
  exact ⟨[],rfl,rfl,rfl,fun _ h=>by simp at h⟩
 | d::ds,vs,us,h,g=>by
   obtain ⟨v,r,rfl,h1,h2⟩:=RDs.cons_iff.mp h
   cases g with
   | cons g1 g2 =>
     rename_i u us
     obtain ⟨t,e1,e2,j,n⟩:=oT h2 g2
     exact ⟨(d,v,u)::t,by simp [e1],by simp [e2],by simp [j],fun p q=>by
      rcases List.mem_cons.mp q with z | z
      ·rw [z];exact ⟨h1,g1⟩
      ·exact n p z⟩
theorem oU {K:Frag} {H:Hp}:∀ {t:List (D×V×Value)},(∀ p∈t,RD K H p.1 p.2.1/\RelV p.2.1 p.2.2)->RDs K H (t.map (·.1)) (t.map (·.2.1))/\Vals (t.map (·.2.1)) (t.map (·.2.2))
 | [],_=>⟨RDs.nil, .nil⟩
 | p::t,h=>by
   obtain ⟨h1,h2⟩:=oU (t:=t) fun q j=>h q (by simp [j])
   exact ⟨RDs.cons (h p (by simp)).1 h1, .cons (h p (by simp)).2 h2⟩
section
variable {X:Cx}
theorem oo (L:X.A.units+16 < cLine) {pins:List (Addr×Obj)} {s:Shared} {σ:St} {H:Hp} {Q:VK} (I:Inv X pins σ H s) {M:Mem} (rm:RM X.K M H) {es:List D} {sh:Sh} {vs:List V} {p:Addr} (rvs:RDs X.K H es vs) (hok:jA sh=true) (O:∀ d∈es,hs sh d=true)
 (q:∀ p ys,M p=none->ys.Perm es->mY ys->KE' X.K M H Q (.ref p) (af M p (.lst ys))) {its:List Value} (hv:Vals vs its) (hl:vs.length<=sizeLine)
 (S:∀ (E:Value->Shared->Prop) (R:List Value->Shared->Prop),(∀ (h':Heap) (tk:Nat),(∀ b o,s.heap.get? b=some o->h'.get? b=some o)->s.toks<=tk->R its { s with heap:=h',toks:=tk })->wpAny (PySem.model X.prog X.w) X.A.in1 (collect (.ref p)) R E s) :
 wpAny (PySem.model X.prog X.w) X.A (call (.builtin "sorted") [.ref p]) (EP X pins σ Q) X.xe s:=by
 obtain ⟨hS,J⟩:=yM hok O
 have CG:=mX hok
 obtain ⟨t,t1,t2,t3,t4⟩:=oT rvs hv
 have U:∀ pp∈t, ∃ as,Reads s.heap pp.2.2 (pd pp.1) as:=fun pp j=>by
  have hm:pp.1∈es:=by rw [<- t1];exact List.mem_map_of_mem j
  exact bJ I rm 16 pp.1 (pd pp.1) pp.2.1 pp.2.2 (xo M sh pp.1 16 (O _ hm) (by lia)) (t4 pp j).1 (t4 pp j).2
 have Y:RdL s.heap its (es.map pd):=fun u L=>by
  rw [<- t3] at L
  obtain ⟨pp,j,rfl⟩:=List.mem_map.mp L
  obtain ⟨as,ra⟩:=U pp j
  exact ⟨pd pp.1,List.mem_map_of_mem (by rw [<- t1];exact List.mem_map_of_mem j),as,ra⟩
 refine t9 (m := 7) (ds:=es.map pd) (C:=fun h' vs'=>vs'=its /\ ∀ b o,s.heap.get? b=some o->h'.get? b=some o) (by lia) hS J (fun E R hR => ?_) fun h1 h2 vs' out n' tk hC old g2 F Z CH CI ht => ?_
 ·refine S E R fun h' tk kp CD=>hR h' its tk ⟨rfl,kp⟩ (fun u L => ?_) (by rw [<- hv.length];exact hl) CD
  obtain ⟨d,hd,as,ra⟩:=Y u L
  exact ⟨d,hd,as,bh (fun b o e _=>kp b o e) (J d hd) ra⟩
 ·obtain ⟨rfl,kp⟩:=hC
  rw [<- t3] at F
  obtain ⟨t',p1,p2⟩:=ky (fun pp:D×V×Value=>pp.2.2) F rfl
  have hz:=oU (t:=t') fun pp j=>t4 pp (p1.mem_iff.mp j)
  have CC:∀ b o,s.heap.get? b=some o->h2.get? b=some o:=fun b o e=>old b o (kp b o e)
  have z:s.heap.get? h1.objs.size=none:=by
   cases hq:s.heap.get? h1.objs.size with
   | none=>rfl
   | some o=>exact absurd (Heap.lt_size (kp _ _ hq)) (Nat.lt_irrefl _)
  have CF:=I.fresh' z
  have hlen:(t'.map (·.2.1)).length<=sizeLine:=by
   rw [List.length_map,p1.length_eq, <- List.length_map (f:=fun pp:D×V×Value=>pp.2.1),t2];exact hl
  have I2:=I.laidN (t':=tk) (h':=h2) (N:=fun b=>if b=h1.objs.size then some (.lst (t'.map (·.2.1))) else none) CC (fun b o e=>by
   by_cases B:b=h1.objs.size
   ·rw [B];exact z
   ·rw [if_neg B] at e;cases e) (fun b o e=>by
   by_cases B:b=h1.objs.size
   ·subst B
    rw [if_pos rfl] at e;cases e
    exact ⟨hlen,out,n',by rw [<- p2];exact hz.2,g2⟩
   ·rw [if_neg B] at e;cases e)
  have eH:lay H (fun b=>if b=h1.objs.size then some (.lst (t'.map (·.2.1))) else none)=upd H h1.objs.size (.lst (t'.map (·.2.1))):=by
   funext b
   unfold lay upd
   dsimp only
   by_cases B:b=h1.objs.size
   ·rw [if_pos B,if_pos B]
   ·rw [if_neg B,if_neg B]
  rw [eH] at I2
  refine ⟨.ref h1.objs.size,_,I2,rfl, ?_⟩
  refine cv rm hz.1 (fun p' n=>q p' _ n ?_ ?_) CF
  ·have:=p1.map (fun pp:D×V×Value=>pp.1)
   rw [t1] at this;exact this
  ·unfold mY
   rw [List.pairwise_map]
   rw [<- p2,List.pairwise_map] at Z
   refine Z.imp_of_mem fun {a b} ha B hab => ?_
   have rd:∀ pp∈t',SeqAt.readOf h2 pp.2.2=pd pp.1:=fun pp j=>by
    have G:=p1.mem_iff.mp j
    obtain ⟨as,ra⟩:=U pp G
    have hm:pp.1∈es:=by rw [<- t1];exact List.mem_map_of_mem G
    exact SeqAt.readOf_eq (hS.lay _ (List.mem_map_of_mem hm)).1 (bh (fun b o e _=>CC b o e) (J _ (List.mem_map_of_mem hm)) ra)
   rw [rd a ha,rd b B] at hab
   exact hab
end
end Mi
end
end L2
namespace L2
namespace Mi
open PySem PySem.Spec PyProof.Rows L2.Srt
noncomputable def jB (K:Frag) (H:Hp) (kv:D×D) (e:DictEntry):Prop := ∃ kV vV,RD K H kv.1 kV/\RelV kV e.key/\RD K H kv.2 vV/\RelV vV e.val
theorem oV {K:Frag} {H:Hp} {d:D} {k:Key} (h:RKey d k):RD K H d (kV k):=by
 cases d <;> first
  | exact h.elim
  | (cases h;first | exact RD.int_iff.mpr rfl | exact RD.str_iff.mpr rfl)
theorem kz {K:Frag} {H:Hp}:∀ {ds:List D} {ks:List Key},Paired RKey ds ks->RDs K H ds (ks.map kV)
 | _,_, .nil=>RDs.nil
 | _,_, .cons r t=>RDs.cons (oV r) (kz t)
theorem xq {P:Program} {w:World} {K:Frag} {H:Hp}:∀ {kvs:List (D×D)} {ps:List (Key×V)} {vs:List (Key×Value)} {es:List DictEntry},Paired (fun (p:D×D) (q:Key×V)=>RKey p.1 q.1/\RD K H p.2 q.2) kvs ps->KV ps vs->Pairs (aE P w) es vs->Paired (jB K H) kvs es
 | _,_,_,_, .nil, .nil, .nil => .nil
 | _,_,_,_, .cons j t1, .cons n z, .cons h1 h2 t3=>by
   refine .cons ⟨kV _,_,oV j.1, ?_,j.2,by rw [h2];exact n.2⟩ (xq t1 z t3)
   rw [<- n.1] at h1
   rcases aO h1 with ⟨i,t,e1,e2⟩ | ⟨x,t,e1,e2⟩
   ·rw [e1,e2];exact ⟨t,rfl⟩
   ·rw [e1,e2];exact ⟨t,rfl⟩
theorem xr {P:Program} {w:World} {K:Frag} {H:Hp}:∀ {kvs:List (D×D)} {ps:List (List Key×V)} {xs:List (List Key×Addr×Value)},Paired (fun (p:D×D) (q:List Key×V)=>RKeys p.1 q.1/\RD K H p.2 q.2) kvs ps->Paired (fun (p:List Key×V) (q:List Key×Addr×Value)=>p.1=q.1/\H q.2.1=some (.tup (p.1.map kV))/\RelV p.2 q.2.2) ps xs->Paired (jB K H) kvs (xs.map (entryOfKey (tupleKind (aE P w))))
 | _,_,_, .nil, .nil => .nil
 | kv::_,_,_, .cons n t1, .cons z B=>by
   refine .cons ?_ (xr t1 B)
   obtain ⟨d,v⟩:=kv
   have j:=n.1
   cases d <;> first
    | exact j.elim
    | exact ⟨.ref _,_,RD.tup_iff.mpr ⟨_,_,rfl,z.2.1,kz j⟩,rfl,n.2,z.2.2⟩
theorem aU {α β:Type} {R : α -> β -> Prop}:∀ {l:List α} {m:List β},Paired R l m->l.length=m.length
 | _,_, .nil=>rfl
 | _,_, .cons _ t=>by simp [aU t]
section
variable {X:Cx}
theorem mZ {H:Hp} {h:Heap} {P:Program} {w:World} {K:Frag} {a:Addr} {ps:List (List Key×V)} {kvs:List (D×D)} (ok:ObjOk P w H h a (.dT ps)) (pr:Paired (fun (p:D×D) (q:List Key×V)=>RKeys p.1 q.1/\RD K H p.2 q.2) kvs ps) :
 ∃ cd dd sl es ep,h.get? a=some { cls:=cd,dict:=dd,data := .dict es ep,slots:=sl }/\es.size<=sizeLine/\Paired (jB K H) kvs es.toList:=by
 obtain ⟨F,z,xs,j,o,es,ep,h1,h2,n,B,G⟩:=ok
 obtain ⟨cd,dd,dat,sl⟩:=o
 dsimp only at n
 subst n
 have pp:=xr (P:=P) (w:=w) pr j
 rw [<- B] at pp
 refine ⟨cd,dd,sl,es,ep,h1, ?_,pp⟩
 have:=aU pp
 have:=aU pr
 simp at *;lia
theorem yN {pins:List (Addr×Obj)} {σ:St} {H:Hp} {s:Shared} {M:Mem} (I:Inv X pins σ H s) (rm:RM X.K M H) {a:Addr} {t:Bool} {kvs:List (D×D)} (e:M a=some (.dct t kvs)) :
 ∃ cd dd sl es ep,s.heap.get? a=some { cls:=cd,dict:=dd,data := .dict es ep,slots:=sl }/\es.size<=sizeLine/\Paired (jB X.K H) kvs es.toList/\IsD H a:=by
 have ro:=rm a _ e
 cases t with
 | false =>
   obtain ⟨ps,j,pr⟩:=ro
   obtain ⟨F,z,vs,q,o,es,ep,h1,h2,n,G,B,J⟩:=I.hok a _ j
   obtain ⟨cd,dd,dat,sl⟩:=o
   dsimp only at n
   subst n
   have pp:=xq pr q B
   refine ⟨cd,dd,sl,es,ep,h1, ?_,pp, .inl ⟨_,Rd.of j⟩⟩
   have:=aU pp
   have:=aU pr
   simp at *;lia
 | true =>
   obtain ⟨ps,j,pr⟩:=ro
   obtain ⟨cd,dd,sl,es,ep,h1,h2,n⟩:=mZ (I.hok a _ j) pr
   exact ⟨cd,dd,sl,es,ep,h1,h2,n, .inr ⟨_,Rd.of j⟩⟩
end
section
noncomputable def iX (to tk tx:TEd):TEd:=fun ρ M Q=>to ρ M fun x M1 => ∃ a t kvs,x = .ref a/\M1 a=some (.dct t kvs)/\tk ρ M1 fun k M2=>tx ρ M2 fun z M3 => ∃ t' kvs',M3 a=some (.dct t' kvs')/\gb t' k=true/\Q ((dget kvs' k).getD z) M3
theorem tj {to tk tx:TEd} (h1:ab to) (h2:ab tk) (j:ab tx):ab (iX to tk tx):=fun ρ M Q Q' i q=>h1 _ _ _ _ (fun x I ⟨a,t,kvs,e,e1,n⟩=>⟨a,t,kvs,e,e1,h2 _ _ _ _ (fun k M2 B=>j _ _ _ _ (fun z J ⟨t',kvs',F,ok,G⟩=>⟨t',kvs',F,ok,i _ _ G⟩) B) n⟩) q
section
variable {X:Cx}
theorem AK {K:Frag} {M:Mem} {H:Hp} (rm:RM K M H) {a:Addr} {t:Bool} {kvs:List (D×D)} (e:M a=some (.dct t kvs)):IsD H a:=by
 have ro:=rm a _ e
 cases t with
 | false=>obtain ⟨ps,j,_⟩:=ro;exact .inl ⟨_,Rd.of j⟩
 | true=>obtain ⟨ps,j,_⟩:=ro;exact .inr ⟨_,Rd.of j⟩
theorem yO {o e f:Expr} {to tk tx:TEd} {apos cpos:Pos} (O:X.A.units+1 < cLine) (mo:ab to) (mk:ab tk) (mx:ab tx) (ho:PE X o (lE X.K to)) (he:PE X e (lE X.K tk)) (hf:PE X f (lE X.K tx)) (m:M2 X o "get" apos e f cpos) :
 PE X (.Call (.Attribute o "get" apos) [e,f] [] cpos) (lE X.K (iX to tk tx)):=by
 refine PE.imp (uQ O ho he hf m) fun σ H Q h => ?_
 obtain ⟨ρ,M,rs,rm,q⟩:=h
 refine ⟨ρ,M,rs,rm,mo _ _ _ _ (fun x R ⟨a,t,kvs,e,e1,S⟩ v H1 I j rd1 => ?_) q⟩
 subst e
 cases RD.ref_iff.mp rd1
 have n:=rs.mono (I.stab rm)
 refine ⟨a,rfl,AK j e1, ρ,R,n,j,mk _ _ _ _ (fun k M2 U v2 H2 J B F => ?_) S⟩
 have G:=n.mono (J.stab j)
 refine ⟨ρ,M2,G,B,mx _ _ _ _ (fun z M3 ⟨t',kvs',Y,ok,Z⟩ v3 H3 L rm3 rd3 => ?_) U⟩
 obtain ⟨w,g,g1,g2⟩:=oI rm3 Y ok (F.mono (L.stab B))
 refine ⟨w,g, ?_⟩
 refine Z _ H3 (I.trans (J.trans L)) rm3 ?_
 cases e4:dget kvs' k with
 | none=>rw [g2 e4];exact rd3
 | some d =>
   obtain ⟨w',e5,r5⟩:=g1 d e4
   rw [e5];exact r5
end
end
end Mi
end L2
namespace L2
open PySem PySem.Spec PyProof.Rows
namespace Mi
end Mi
end L2
namespace L2
open PySem PySem.Spec PyProof.Rows
namespace Mi
end Mi
end L2
namespace L2
open PySem PySem.Spec PyProof.Rows
namespace Mi
end Mi
end L2
namespace L2
open PySem PySem.Spec PyProof.Rows
section
section
variable {prog:Program} {w:World} {A:Around} {E:Value->Shared->Prop} {s:Shared}
theorem yP:typeLookup (.type "list") "keys" = pure none:=by rw [typeLookup_type,builtinLookup_eq_fast];kernel_rfl
theorem yQ {l:Addr} {o:Obj} {xs:Array Value} {k:Nat} {Q:Option Value->Shared->Prop} (z:A.handled=none) (ho:s.heap.get? l=some o) (n:o.cls = .type "list") (hd:o.data = .seq xs k) (j:o.dict=none)
 (q:∀ h' tk,(∀ b o,s.heap.get? b=some o->h'.get? b=some o)->Q none { s with heap:=h',toks:=tk }):wpAny (model prog w) A (getAttr? (.ref l) "keys") Q E s:=by
 have ty:s.TypeIs (.ref l) "list" := ⟨_,ho,n⟩
 unfold getAttr?
 unfold mkText
 refine wpAny_bind ?_
 refine wpAny_bind (wpAny_fresh ?_)
 refine wpAny_pure ?_
 unfold getAttrBy?
 refine wpAny_bind (wpAny_attempt ?_)
 unfold getAttrBy
 refine wpAny_holding ?_
 refine wpAny_bind (wpAny_typeOf (s := { s with toks:=s.toks+1 }) ty ?_)
 refine wpAny_bind (wpAny_of_eq F.slot_list_getattribute.lookup ?_)
 refine wpAny_ite_false (by decide) ?_
 unfold getAttrByItsOwn hookBefore
 rw [if_neg (by decide)]
 refine wpAny_bind (wpAny_pure ?_)
 refine wpAny_bind (wpAny_attempt (wpAny_holding ?_))
 unfold callGetattribute boundAndCalled
 rw [if_neg (by decide)]
 refine wpAny_bind (wpAny_of_eq (F.slot_list_getattribute.bind _) ?_)
 dsimp only
 obtain ⟨cls,dd,dat,sl⟩:=o
 dsimp only at n hd j
 subst n hd j
 refine call_meetsIn F.slot_list_getattribute (s := { s with toks:=s.toks+1 }) ty am_entry_list_getattribute (F.args_list_getattribute_2 _ _) ((meets_getattribute_miss_list l xs k sl "keys" s.toks yP (by decide) (by decide)).inModel prog w) ⟨ho,z,fun h' tk a ne => ?_⟩
 ·have ne:s.heap.NewAttrErr h' a (.ref l) "keys" := ne
  obtain ⟨t,u,he⟩:=ne.there
  unfold getattributeRaised
  refine wpAny_bind (wpAny_isInstance (T := "AttributeError") (b:=true) ⟨_,he,rfl⟩ (by rw [isSubtype_type];kernel_rfl) ?_)
  rw [if_pos rfl]
  unfold hookBehind
  rw [if_neg (by decide)]
  refine wpAny_bind (wpAny_of_eq am_list_getattr_none ?_)
  unfold hookOrError attributeErrorLeaves
  dsimp only
  rw [if_pos (by decide)]
  refine wpAny_bind (wpAny_throw ?_)
  refine wpAny_bind (wpAny_isInstance (T := "AttributeError") (b:=true) ⟨_,he,rfl⟩ (by rw [isSubtype_type];kernel_rfl) ?_)
  rw [if_pos rfl]
  exact wpAny_pure (q h' tk ne.keeps)
end
end
section
theorem n6:entryFor table "dict.update.loop" = some Builtin.«dict.update.loop» := entryFor_of_tree (by kernel_rfl)
theorem n8:plainId "dict.update.loop" = true:=by decide +kernel
section
variable {X:Cx} {pins:List (Addr×Obj)} {σ:St} {H:Hp}
noncomputable def PrV (H:Hp) (v:V) (kv:List Key×V):Prop := ∃ t b,v = .ref t/\H t=some (.tup [.ref b,kv.2])/\H b=some (.tup (kv.1.map kV))
noncomputable abbrev bD (kvs:List (List Key×V)):List (List Key×V):=kvs.foldl (fun a kv=>ba a kv.1 kv.2) []
theorem qA (kvs:List (List Key×V)):(bD kvs).length<=kvs.length:=by
 have g:∀ (r:List (List Key×V)) (a:List (List Key×V)),(r.foldl (fun a kv=>ba a kv.1 kv.2) a).length<=a.length+r.length:=by
  intro r
  induction r with
  | nil=>intro a;simp
  | cons x r ih =>
    intro a
    have h1:=ih (ba a x.1 x.2)
    have h2:=cC a x.1 x.2
    simp only [List.foldl_cons,List.length_cons]
    lia
 have:=g kvs []
 simpa using this
theorem iY {α β:Type} {R : α -> β -> Prop}:∀ {l:List α} {m:List β} {i:Nat} {x : α},Paired R l m->l[i]? = some x -> ∃ y,m[i]? = some y/\R x y
 | _,_,_,_, .nil,e=>by simp at e
 | _,_,0,_, .cons r _,e=>by simp at e;subst e;exact ⟨_,rfl,r⟩
 | _,_,i+1,x, .cons _ t,e=>by
   simp at e
   obtain ⟨y,h1,h2⟩:=iY t e
   exact ⟨y,by simpa using h1,h2⟩
theorem yR {A:Around} (hu:A.units+1 < cLine) (hn:A.handled=none) {l it p:Addr} {vs:List V} {kvs:List (List Key×V)} (U:H p=none) (S:H l=some (.lst vs)) (F:Paired (PrV H) vs kvs) (hz:vs.length < sizeLine) {R:Result->Shared->Prop} (hf:bS X pins H it) (j:it≠p) :
 ∀ (k i:Nat) (s:Shared),vs.length - i=k->i<=vs.length->Inv X pins σ (upd H p (.dT (bD (kvs.take i)))) s->s.heap.IsListIter it l i ->
  (∀ s',Inv X pins σ (upd H p (.dT (bD kvs))) s'->R (.ok (.ret .none)) s') ->
  codeAny (model X.prog X.w) A (.builtin "dict.update.loop" ⟨[.ref p, .ref it,rawInt i, .none],[]⟩) R s:=by
 have G:l≠p:=fun z=>by rw [z,U] at S;cases S
 have hlen:vs.length=kvs.length:=Paired.length F
 obtain ⟨f0,f1,f2,f3,f4,f5⟩:=hf
 intro k
 induction k with
 | zero =>
   intro i s hk hi I st q
   have Y:i=vs.length:=by lia
   obtain ⟨its,rv,pl,_⟩:=I.list (SqL.of (K:=X.K) ((ah G).trans S))
   refine codeAny_builtin n6 ?_
   unfold Builtin.«dict.update.loop»
   dsimp only
   refine wpAny_bind (wpAny_pyNext_list_end hn st pl.isList (by have:=rv.length;simp;lia) fun h' eb => ?_)
   refine wpAny_bind ?_
   unfold Builtin.Dict.addKeywords
   refine wpAny_bind ?_
   have n:=I.turned (t':=s.toks) (h':=h') (fun b o B e=>eb b o B e) ((ah j).trans f0) f1 f3 f4 f5
   rw [Y,hlen,List.take_length] at n
   exact wpAny_pure (wpAny_pure (wpAny_pure (q _ n)))
 | succ k ih =>
   intro i s hk hi I st q
   have J:i < vs.length:=by lia
   obtain ⟨its,rv,pl,_⟩:=I.list (SqL.of (K:=X.K) ((ah G).trans S))
   obtain ⟨u,Z,ru⟩:=rv.get (List.getElem?_eq_getElem J)
   obtain ⟨kv,CC,t,b,hv,ht,B⟩:=iY F (List.getElem?_eq_getElem J)
   rw [hv] at ru
   cases (show u=Value.ref t from ru)
   refine codeAny_builtin n6 ?_
   rw [Around.under_plain (by rfl) (by rfl)]
   unfold Builtin.«dict.update.loop»
   dsimp only
   refine wpAny_bind (wpAny_pyNext_list_item st pl.isList (x := .ref t) (by simpa using Z) fun h' st' sb => ?_)
   have n:=I.turned (t':=s.toks) (h':=h') (fun b o B e=>(sb.2 b B).trans e) ((ah j).trans f0) f1 f3 f4 f5
   dsimp only
   have CD:t≠p:=fun z=>by rw [z,U] at ht;cases ht
   have CF:b≠p:=fun z=>by rw [z,U] at B;cases B
   obtain ⟨tits,rt,tt,_⟩:=n.tuple (SqT.of (K:=X.K) ((ah CD).trans ht))
   obtain ⟨ob,L,CG,nt,CH⟩:=id tt
   cases rt with
   | cons r1 rt =>
     cases rt with
     | cons r2 rt =>
       cases rt
       cases (show _=Value.ref b from r1)
       rename_i uv
       refine wpAny_bind (wpAny_holding ?_)
       refine wpAny_bind (wpAny_tryCatch ?_)
       unfold Builtin.Dict.pairItems
       refine wpAny_bind (wpAny_typeOf (T := "tuple") (s := { s with heap:=h' }) ⟨ob,L,CG⟩ ?_)
       rw [if_pos (by decide)]
       refine wpAny_bind (wpAny_seqItems (s := { s with heap:=h' }) L CH ?_)
       refine wpAny_pure ?_
       refine wpAny_holding ?_
       obtain ⟨z,hd,xs,rel,dd⟩:=wZ (a:=p) n.hok ar
       have CI:xs.length<=sizeLine:=by rw [<- Paired.length rel];exact z
       have O:upd H p (.dT (bD (kvs.take i))) b=some (.tup (kv.1.map kV)):=(ah CF).trans B
       have CJ:(ba (bD (kvs.take i)) kv.1 kv.2).length<=sizeLine:=by
        have h1:=cC (bD (kvs.take i)) kv.1 kv.2
        have h2:=qA (kvs.take i)
        rw [List.length_take] at h2
        lia
       have etk:ba (bD (kvs.take i)) kv.1 kv.2=bD (kvs.take (i+1)):=by
        unfold bD
        rw [List.take_succ,CC,List.foldl_append];rfl
       refine wpAny_dictSet_heap (hsz:=CI) (knd:=tupleKind (aE X.prog X.w)) (tupleKind_room_in1 hu) (fB n.hok O) dd fun h2 dd' hs => ?_
       obtain ⟨q',es,ep,hq,g2,g3,g4,_,g5⟩:=dd'
       have I2:=jk (t':=s.toks+(tupleKind (aE X.prog X.w)).draws kv.1) n (a:=p) (ob := .dT (ba (bD (kvs.take i)) kv.1 kv.2)) (by rw [ar];exact True.intro) hs ⟨q',hq⟩ ⟨CJ,hd,_,(rel.put kv.1 O r2).keeps fun c ys ec => ?_,q',es,ep,hq,g2,g3,g4,g5⟩
       ·rw [xI,etk] at I2
        refine wpAny_pure ⟨plainId_quiet n8 _,ih (i+1) _ (by lia) (by lia) I2 ?_ q⟩
        exact st'.at fun o e=>(hs.2 it j).trans e
       ·rw [ah (wK ec ar (fun z=>nomatch z))]
        exact ec
end
section
variable {X:Cx}
theorem iZ (hu:X.A.units+16 < cLine) (Y:X.calm=true):CallR X (.type "dict") (fun xs H Q => ∃ l vs kvs,xs=[V.ref l]/\H l=some (.lst vs)/\Paired (PrV H) vs kvs/\vs.length < sizeLine /\ ∀ p,H p=none->Q (.ref p) (upd H p (.dT (bD kvs)))):=by
 intro pins s σ H xs us Q I r h
 obtain ⟨l,vs,kvs,rfl,G,J,Z,q⟩:=h
 cases r with
 | cons r1 rr =>
 cases rr
 cases (show _=Value.ref l from r1)
 have S:=I.ok.hd Y
 have L:H s.heap.objs.size=none:=I.hok.fresh (Nat.le_refl _)
 have U:=I.laid (a:=s.heap.objs.size) (o := .dT []) (t':=s.toks) (fun _ _ q=>Heap.get?_push_of_some _ q) (Nat.le_refl _) (ln s.heap I.big)
 have O:l≠s.heap.objs.size:=fun z=>by rw [z,L] at G;cases G
 refine callType_codes (Q₁ := fun obj s₁ => obj = .ref s.heap.objs.size/\s₁ = { s with heap:=s.heap.push { cls := .type "dict",data := .dict #[] } }) F.kt_called_dict (F.kt_typeCall_dict_1 _) F.entry_dict_init (kt_code_dict_new _ ⟨rfl,rfl⟩) fun obj s₁ h₁ => ?_
 obtain ⟨rfl,rfl⟩:=h₁
 refine ⟨⟨_,Heap.get?_push_size _ rfl,rfl⟩,F.args_dict_init_2 _ _, ?_⟩
 unfold Builtin.«dict.__init__»
 refine wpAny_bind ?_
 unfold Builtin.Dict.selfAndRest
 unfold Builtin.Dict.notOrdered
 rw [if_pos (by decide)]
 have tyd:Shared.TypeIs { s with heap:=s.heap.push { cls := .type "dict",data := .dict #[] } } (.ref s.heap.objs.size) "dict" := ⟨_,Heap.get?_push_size _ rfl,rfl⟩
 refine wpAny_bind (wpAny_bind (wpAny_typeOf tyd ?_))
 rw [if_neg (by decide)]
 refine wpAny_pure ?_
 refine wpAny_bind (wpAny_pure (wpAny_pure ?_))
 unfold Builtin.Dict.updateCommon Builtin.Dict.updateFrom
 dsimp only
 obtain ⟨its,rv,pl,_⟩:=U.list (SqL.of (K:=X.K) ((ah O).trans G))
 have il:=pl.isList
 refine wpAny_bind (wpAny_typeOf il.typeIs ?_)
 rw [if_pos (by decide)]
 obtain ⟨ob,nn,e1,j,n,B⟩:=id pl
 refine wpAny_bind (yQ S e1 j B n fun h1 tk kp => ?_)
 rw [if_pos (show (none:Option Value).isNone=true from rfl)]
 refine wpAny_bind (wpAny_rule ?_)
 have R:=U.kept (t':=tk) kp
 refine wpAny_bind (wpAny_pyIter_list (s := { s with heap:=h1,toks:=tk }) (PlainL.isList (⟨ob,nn,kp _ _ e1,j,n,B⟩)) ?_)
 have I3:=R.kept (t':=tk) (h':=h1.push { cls := .type "list_iterator",data := .fields #[.ref l, .int 0 0] }) fun b o e=>Heap.get?_push_of_some _ e
 refine wpAny_pure ⟨plainId_quiet n8 _, ?_⟩
 have hle:s.heap.objs.size < h1.objs.size:=Heap.lt_size (kp _ _ (Heap.get?_push_size _ rfl))
 have hf:bS X pins H h1.objs.size:=by
  have:=R.fpOk (H':=upd H s.heap.objs.size (.dT [])) (Nat.le_refl _) (R.hok.fresh (Nat.le_refl _))
  exact ⟨by rw [<- this.1,ah (Nat.ne_of_gt hle)],this.2⟩
 refine yR (A:=X.A.in1) (X:=X) (pins:=pins) (σ := σ) (H:=H) (p:=s.heap.objs.size) (kvs:=kvs) (by have:X.A.in1.units=X.A.units+1:=rfl;lia) S L G J Z hf (Nat.ne_of_gt hle) vs.length 0 _ (by lia) (by lia) I3 ⟨_,Heap.get?_push_size _ rfl,rfl,rfl⟩ fun s' I' => ?_
 exact ⟨rfl, .ref s.heap.objs.size,_,I',rfl,q _ L⟩
end
end
end L2
namespace L2
namespace Mi
open PySem PySem.Spec PyProof.Rows
section
section
variable {X:Cx}
noncomputable def qB (kvs:List (D×D)):List (D×D):=kvs.foldl (fun a kv=>cb a kv.1 kv.2) []
noncomputable def qC:RAd:=fun ds M Q => ∃ a kvs,ds=[.ref a]/\M a=some (.lst (kvs.map fun kv:D×D => .tup [kv.1,kv.2]))/\(∀ kv∈kvs,bV kv.1=true)/\kvs.length < sizeLine /\ ∀ p,M p=none->Q (.ref p) (af M p (.dct true (qB kvs)))
theorem kA:aV qC:=fun _ _ _ _ h ⟨a,kvs,e,e1,e2,j,q⟩=>⟨a,kvs,e,e1,e2,j,fun p n=>h _ _ (q p n)⟩
theorem n9 {K:Frag} {H:Hp}:∀ {kvs:List (D×D)} {vs:List V},RDs K H (kvs.map fun kv:D×D => .tup [kv.1,kv.2]) vs->(∀ kv∈kvs,bV kv.1=true) ->
 ∃ ps:List (List Key×V),Paired (PrV H) vs ps/\Paired (fun (p:D×D) (q:List Key×V)=>RKeys p.1 q.1/\RD K H p.2 q.2) kvs ps
 | [],vs,r,_=>by rw [RDs.nil_iff.mp r];exact ⟨[], .nil, .nil⟩
 | kv::kvs,vs,r,h=>by
   rw [List.map_cons] at r
   obtain ⟨v,vr,rfl,B,F⟩:=RDs.cons_iff.mp r
   obtain ⟨ps,h1,h2⟩:=n9 F fun x hx=>h x (List.mem_cons_of_mem _ hx)
   obtain ⟨t,us,rfl,n,ru⟩:=RD.tup_iff.mp B
   obtain ⟨R,ur,rfl,G,ru⟩:=RDs.cons_iff.mp ru
   obtain ⟨I,J,rfl,L,ru⟩:=RDs.cons_iff.mp ru
   rw [RDs.nil_iff.mp ru] at n
   have O:=h kv (List.mem_cons_self ..)
   obtain ⟨k,v⟩:=kv
   obtain ⟨ks,j⟩:=jm O
   cases k <;> first
    | exact j.elim
    | (obtain ⟨b,ws,rfl,z,rw'⟩:=RD.tup_iff.mp G
       rw [eM j rw'] at z
       exact ⟨(ks,I)::ps, .cons ⟨t,b,rfl,n,z⟩ h1, .cons ⟨j,L⟩ h2⟩)
theorem nc {K:Frag} {H:Hp}:∀ {kvs:List (D×D)} {ps:List (List Key×V)} {a:List (D×D)} {b:List (List Key×V)},Paired (fun (p:D×D) (q:List Key×V)=>RKeys p.1 q.1/\RD K H p.2 q.2) kvs ps->Paired (fun (p:D×D) (q:List Key×V)=>RKeys p.1 q.1/\RD K H p.2 q.2) a b ->
 Paired (fun (p:D×D) (q:List Key×V)=>RKeys p.1 q.1/\RD K H p.2 q.2) (kvs.foldl (fun a kv=>cb a kv.1 kv.2) a) (ps.foldl (fun a kv=>ba a kv.1 kv.2) b)
 | _,_,_,_, .nil,h=>h
 | _,_,_,_, .cons r t,h=>by
   have g:=nc t (gY (RK:=RKeys) RKeys.inj RKeys.fun r.1 r.2 h)
   exact g
theorem ot (j:X.A.units+16 < cLine) (B:X.calm=true):CallR X (.type "dict") (lR X.K qC):=by
 refine CallR.of (iZ j B) fun vs H Q h => ?_
 obtain ⟨ds,M,rm,rs,a,kvs,rfl,e,F,G,q⟩:=h
 obtain ⟨v,rfl,r⟩:=rs.one
 cases RD.ref_iff.mp r
 obtain ⟨us,I,ru⟩:=rm _ _ e
 obtain ⟨ps,h1,h2⟩:=n9 ru F
 refine ⟨a,us,ps,rfl,I,h1,by rw [ru.length,List.length_map];exact G,fun p n => ?_⟩
 have st:Stab H (upd H p (.dT (bD ps))):=(Ext.new' (M:=M) n).stab rm
 exact q p (rm.out n) (.ref p) _ (Ext.lay n) (rm.lay n ⟨_,ar,Paired.mapP (nc h2 .nil) fun _ _ z=>⟨z.1,z.2.mono st⟩⟩) (RD.ref_iff.mpr rfl)
end
end
end Mi
end L2
namespace L2
namespace Dk
open PySem PySem.Spec PyProof.Rows
section
variable {prog:Program} {w:World} {A:Around} {E:Value->Shared->Prop} {s:Shared}
noncomputable def kO (d:Addr) (i n ep:Nat):Obj := { cls := .type "dict_keyiterator",data := .fields #[.ref d, .int i 0, .int n 0, .int ep 0] }
theorem slot_next:Slot "dict_keyiterator" "__next__" "dict_keyiterator.__next__" := .of (owner := "dict_keyiterator") (n := "__next__") (by rw [typeLookup_type,builtinLookup_eq_fast];kernel_rfl) (by decide +kernel) (by decide +kernel) (by decide +kernel) (.inl (by decide +kernel)) (by rw [isSubtype_type];kernel_rfl)
theorem j0:entryFor table "dict_keyiterator.__next__" = some Builtin.«dict_keyiterator.__next__» := entryFor_of_tree (by kernel_rfl)
theorem kB (a:Value):argsOk "dict_keyiterator.__next__" ⟨[a],[]⟩:=by unfold argsOk;kernel_rfl
theorem tq {it:Addr} (ty:s.TypeIs (.ref it) "dict_keyiterator") {types:List String} {Q:Bool->Shared->Prop} (q:Q (types.any fun t => [Value.type "dict_keyiterator",Value.type "object"].contains (Value.type t)) s):wpAny (model prog w) A (Builtin.Dict_items.isOneOf (.ref it) types) Q E s:=by
 have hm:=mroOf_keyiter
 unfold Builtin.Dict_items.isOneOf
 wp_walk
 exact q
theorem nx_item {it d:Addr} {i ep:Nat} {cd:Value} {dd:Option Addr} {sl:Array (Option Value)} {es:Array DictEntry} {e:DictEntry} {Q:Option Value->Shared->Prop} (hi:s.heap.get? it=some (kO d i es.size ep)) (hd:s.heap.get? d=some { cls:=cd,dict:=dd,data := .dict es ep,slots:=sl }) (he:es[i]? = some e)
 (q:∀ h',h'.get? it=some (kO d (i+1) es.size ep)->Heap.SameBut it s.heap h'->Q (some e.key) { s with heap:=h' }):wpAny (model prog w) A (pyNext (.ref it)) Q E s:=by
 have ty:s.TypeIs (.ref it) "dict_keyiterator" := ⟨_,hi,rfl⟩
 unfold pyNext
 refine wpAny_bind (wpAny_attempt (wpAny_callSpecial?_slot (name:=Str.ofString "__next__") ty slot_next (wpAny_call_entry slot_next ty j0 ?_ (kB _))))
 unfold Builtin.«dict_keyiterator.__next__»
 have hm:=mroOf_keyiter
 wp_walk
 dsimp only
 rw [if_neg (by simp)]
 simp only [Int.toNat_natCast,he]
 refine wpAny_bind (wpAny_mono (Q:=fun n s'=>n=0/\s'=s) ?_ (fun n s' hs => ?_) fun _ _ z=>z)
 ·wp_walk
  exact ⟨by kernel_rfl,rfl⟩
 obtain ⟨rfl,rfl⟩:=hs
 refine wpAny_bind (tq ty ?_)
 refine wpAny_bind (wpAny_setField_rec hi (by simp) fun h1 e1 s1 => ?_)
 rw [if_neg (by decide +kernel)] at e1
 have e1:h1.get? it=some (kO d (i+1) es.size ep):=e1
 have j:Shared.TypeIs { s' with heap:=h1 } (.ref it) "dict_keyiterator" := ⟨_,e1,rfl⟩
 refine wpAny_bind (wpAny_holding ?_)
 refine wpAny_bind (tq j ?_)
 refine wpAny_ite_true (by decide +kernel) ?_
 refine wpAny_pure (wpAny_pure ⟨_,rfl,wpAny_pure ?_⟩)
 exact q h1 e1 s1
theorem nx_end {it d:Addr} {ep:Nat} {cd:Value} {dd:Option Addr} {sl:Array (Option Value)} {es:Array DictEntry} {Q:Option Value->Shared->Prop} (j:A.handled=none) (hi:s.heap.get? it=some (kO d es.size es.size ep)) (hd:s.heap.get? d=some { cls:=cd,dict:=dd,data := .dict es ep,slots:=sl })
 (q:∀ h',(∀ b o,b≠it->s.heap.get? b=some o->h'.get? b=some o)->Q none { s with heap:=h' }):wpAny (model prog w) A (pyNext (.ref it)) Q E s:=by
 have ty:s.TypeIs (.ref it) "dict_keyiterator" := ⟨_,hi,rfl⟩
 unfold pyNext
 refine wpAny_bind (wpAny_attempt (wpAny_callSpecial?_slot (name:=Str.ofString "__next__") ty slot_next (wpAny_call_entry slot_next ty j0 ?_ (kB _))))
 unfold Builtin.«dict_keyiterator.__next__»
 have hm:=mroOf_keyiter
 wp_walk
 dsimp only
 rw [if_neg (by simp)]
 have he:es[es.size]? = none:=Array.getElem?_eq_none (Nat.le_refl _)
 simp only [Int.toNat_natCast,he]
 refine wpAny_bind (wpAny_mono (Q:=fun n s'=>n=0/\s'=s) ?_ (fun n s' hs => ?_) fun _ _ z=>z)
 ·wp_walk
  exact ⟨by kernel_rfl,rfl⟩
 obtain ⟨rfl,rfl⟩:=hs
 refine wpAny_bind (wpAny_setField_rec hi (by simp) fun h1 e1 s1 => ?_)
 refine wpAny_bind (m:=newExc (.type "StopIteration") []) ?_
 simp only [newExc,newTuple]
 refine wpAny_bind (wpAny_newObj_type ?_ (by size_fits))
 refine wpAny_bind (m:=firstArgMember _ _) (wpAny_of_eq (a:=Value.none) (by first | rfl | (simp only [firstArgMember];rfl)) (wpAny_newObj_type ?_ (by size_fits)))
 simp only [raiseNew]
 refine wpAny_bind (wpAny_handled ?_)
 first | rw [show A.in1.handled=none from j] | rw [j]
 refine wpAny_bind (wpAny_pure (wpAny_throw ?_))
 exact wpAny_bind (wpAny_isInstance (T := "StopIteration") (b:=true) ⟨_,Heap.get?_push_size _ rfl,rfl⟩ isSubtype_stop (wpAny_pure (q _ fun b o B e=>Heap.get?_push_of_some _ (Heap.get?_push_of_some _ (s1.extBut b o B e)))))
theorem it_dict {d:Addr} {es:Array DictEntry} {ep:Nat} {dd:Option Addr} {sl:Array (Option Value)} {Q:Value->Shared->Prop} (j:(d==sysModules)=false) (hd:s.heap.get? d=some { cls := .type "dict",dict:=dd,data := .dict es ep,slots:=sl })
 (q:Q (.ref s.heap.objs.size) { s with heap:=s.heap.push (kO d 0 es.size ep) }):wpAny (model prog w) A (pyIter (.ref d)) Q E s:=by
 have ty:s.TypeIs (.ref d) "dict" := ⟨_,hd,rfl⟩
 refine wpAny_pyIter_slot ty F.slot_dict_iter (wpAny_call_entry F.slot_dict_iter ty F.entry_dict_iter ?_ (F.args_dict_iter_1 _))
 unfold Builtin.«dict.__iter__»
 wp_walk
 exact ⟨_,rfl, "dict_keyiterator",_,⟨_,Heap.get?_push_size _ rfl,rfl⟩,slot_next.lookup,q⟩
theorem walk (hn:A.handled=none) (it d:Addr) (hne:d≠it) (es:Array DictEntry) (ep:Nat) :
 Walks prog w A it [it,d] [it] es.size (fun i v => ∃ e,es[i]? = some e/\v=e.key) (fun i h=>h.get? it=some (kO d i es.size ep) /\ ∃ cd dd sl,h.get? d=some { cls:=cd,dict:=dd,data := .dict es ep,slots:=sl }) where
 sub:=fun b hb=>by simp at hb;simp [hb]
 frame:=fun _ _ _ st k=>⟨k it (by simp) _ st.1,by obtain ⟨cd,dd,sl,h⟩:=st.2;exact ⟨cd,dd,sl,k d (by simp) _ h⟩⟩
 item:=fun i s Q E hi st q=>by
  obtain ⟨h1,cd,dd,sl,h2⟩:=st
  refine nx_item (e:=es[i]) h1 h2 (Array.getElem?_eq_getElem hi) fun h' e' s' => ?_
  exact q _ h' s.toks ⟨_,Array.getElem?_eq_getElem hi,rfl⟩ ⟨e',cd,dd,sl,s'.extBut d _ hne h2⟩ fun b o hb x=>s'.extBut b o (fun z=>hb (by simp [z])) x
 done:=fun s Q E st q=>by
  obtain ⟨h1,cd,dd,sl,h2⟩:=st
  exact nx_end hn h1 h2 fun h' k=>q h' s.toks fun b o hb x=>k b o (fun z=>hb (by simp [z])) x
 self:=fun i s Q E st q=>wpAny_pyIter_keyiter ⟨_,st.1,rfl,rfl⟩ q
theorem tu {d:Addr} {Q:Bool->Shared->Prop} (ty:s.TypeIs (.ref d) "dict") (q:Q false s):wpAny (model prog w) A (Builtin.List.listLengthHint (.ref d)) Q E s:=by
 unfold Builtin.List.listLengthHint
 refine wpAny_bind (wpAny_specialOf ty F.slot_dict_len.lookup ?_)
 generalize j:("dict.__len__":String)=n
 (fail_if_success (clear j n));wp_delta
 rw [show splitId n=some ("dict", "__len__") from by subst j;decide +kernel]
 subst j
 refine wpAny_bind (wpAny_isInstance (b:=true) ty (by rw [isSubtype_type];kernel_rfl) ?_)
 rw [if_neg (by decide)]
 refine wpAny_ite_true (by decide +kernel) ?_
 refine wpAny_bind (wpAny_typeOf ty ?_)
 exact wpAny_pure q
open Builtin.List in
theorem vL (hn:A.handled=none) {S d:Addr} {es:Array DictEntry} {ep c:Nat} {dd:Option Addr} {sl:Array (Option Value)} {R:Result->Shared->Prop} (res:Value) (U:(d==sysModules)=false) (hd:s.heap.get? d=some { cls := .type "dict",dict:=dd,data := .dict es ep,slots:=sl }) (O:s.heap.get? S=some { cls := .type "list",data := .seq #[] c }) (hz:es.size<=sizeLine)
 (q:∀ (h':Heap) (tk:Nat) (acc':Array Value) (c':Nat),(∀ b o,b≠S->s.heap.get? b=some o->h'.get? b=some o)->h'.get? S=some { cls := .type "list",data := .seq acc' c' }->acc'.toList=es.toList.map (·.key)->s.toks<=tk->R (.ok (.ret res)) { s with heap:=h',toks:=tk }) :
 wpAny (model prog w) A.in1 (listExtendWith (.ref S) (.ref d) res) (fun fin s'=>match fin with | .done f=>R (.ok f) s' | .again c'=>c'.quiet=true/\codeAny (model prog w) A c' R s') (fun e s'=>R (.error e) s') s:=by
 have ty:s.TypeIs (.ref d) "dict" := ⟨_,hd,rfl⟩
 have B:S≠d:=fun e=>by rw [e,hd] at O;simp at O
 have h1:listSameRef (.ref S) (.ref d)=false:=by simp [listSameRef,B]
 unfold listExtendWith
 refine wpAny_bind (wpAny_typeOf ty ?_)
 rw [if_neg (by rw [h1];decide)]
 refine wpAny_bind (it_dict U hd ?_)
 refine wpAny_bind (wpAny_holding (tu (s := { s with heap:=s.heap.push (kO d 0 es.size ep) }) ⟨_,Heap.get?_push_of_some _ hd,rfl⟩ ?_))
 have n:=Heap.lt_size O
 have G:=Heap.lt_size hd
 have W:=(walk (prog:=prog) (w:=w) (A:=A.in1) hn s.heap.objs.size d (Nat.ne_of_lt G) es ep).toS
 have Y:S∉[s.heap.objs.size,d]:=fun hm=>by
  simp only [List.mem_cons,List.not_mem_nil,or_false] at hm
  rcases hm with e | e
  ·exact absurd (e ▸ n) (Nat.lt_irrefl _)
  ·exact B e
 refine wpAny_ite_true (by decide +kernel) ?_
 refine wpAny_bind (wpAny_rule ?_)
 unfold listTouch
 have I:(s.heap.push (kO d 0 es.size ep)).get? S=some (seqObj "list" #[] c):=Heap.get?_push_of_some _ O
 refine wpAny_bind (wpAny_bind (listUpdate_at I rfl ?_ (by simp) (by simp)))
 have J:=get?_update_seq I (fun x=>x.push Value.none)
 refine listUpdate_at J rfl ?_ (by simp;decide) (by simp)
 have Z:=get?_update_seq J (fun x=>x.pop)
 have oth:∀ b o,b≠S->s.heap.get? b=some o->(((s.heap.push (kO d 0 es.size ep)).update S (Obj.mapSeq fun x=>x.push Value.none)).update S (Obj.mapSeq fun x=>x.pop)).get? b=some o:=fun b o L e=>by
  rw [Heap.get?_update_ne _ _ _ _ L,Heap.get?_update_ne _ _ _ _ L]
  exact Heap.get?_push_of_some _ e
 have hit:(((s.heap.push (kO d 0 es.size ep)).update S (Obj.mapSeq fun x=>x.push Value.none)).update S (Obj.mapSeq fun x=>x.pop)).get? s.heap.objs.size=some (kO d 0 es.size ep):=by
  rw [Heap.get?_update_ne _ _ _ _ (Nat.ne_of_gt n),Heap.get?_update_ne _ _ _ _ (Nat.ne_of_gt n)]
  exact Heap.get?_push_size _ rfl
 refine wpAny_pure ⟨plainId_quiet F.plain_extend_loop _,codeAny_extend_loopS W hz _ Y _ es.size 0 _ _ _ rfl (Nat.zero_le _) ⟨hit,_,_,_,oth d _ B.symm hd⟩ Z (ItemsOf.nil _) fun s' acc c' hm CC ha => ?_⟩
 rw [hm.eq_with]
 refine q _ _ acc c' (fun b o L e => ?_) CC ?_ hm.toks
 ·exact hm.heap b o (fun z=>by
   simp only [List.mem_cons,List.not_mem_nil,or_false] at z
   rcases z with z | z
   ·exact L z
   ·exact absurd (z ▸ Heap.lt_size e) (Nat.lt_irrefl _)) (oth b o L e)
 ·obtain ⟨g1,g2⟩:=ha
  apply List.ext_getElem?
  intro j
  rw [Array.getElem?_toList,List.getElem?_map,Array.getElem?_toList]
  by_cases hj:j < es.size
  ·obtain ⟨e,he,hv⟩:=g2 j (acc[j]'(by lia)) (Array.getElem?_eq_getElem (by lia))
   rw [Array.getElem?_eq_getElem (by lia),hv,he];rfl
  ·rw [Array.getElem?_eq_none (by lia),Array.getElem?_eq_none (by lia)];rfl
theorem collect_dict (I:A.handled=none) {d:Addr} {es:Array DictEntry} {ep:Nat} {dd:Option Addr} {sl:Array (Option Value)} {Q:List Value->Shared->Prop} (j:(d==sysModules)=false) (hd:s.heap.get? d=some { cls := .type "dict",dict:=dd,data := .dict es ep,slots:=sl }) (J:es.size<=sizeLine)
 (q:∀ (h':Heap) (tk:Nat),(∀ b o,s.heap.get? b=some o->h'.get? b=some o)->s.toks<=tk->Q (es.toList.map (·.key)) { s with heap:=h',toks:=tk }):wpAny (model prog w) A (collect (.ref d)) Q E s:=by
 unfold collect
 refine wpAny_bind (wpAny_runValue (codeAny_builtin F.entry_proto_collect ?_))
 unfold Builtin.«proto.collect»
 dsimp only
 refine wpAny_bind (wpAny_newList ?_ (by simp))
 refine wpAny_pure ⟨Code.quiet_builtin _ (by decide +kernel), ?_⟩
 refine codeAny_builtin entry_list_iadd' ?_
 unfold Builtin.«list.__iadd__»
 refine wpAny_bind (wpAny_of_eq (a:=(Value.ref s.heap.objs.size,[Value.ref d])) (by kernel_rfl) ?_)
 have n:(s.heap.push { cls:=Value.type "list",data:=Data.seq [].toArray }).get? s.heap.objs.size=some { cls:=Value.type "list",data:=Data.seq #[] 0 }:=Heap.get?_push_size _ rfl
 rw [Around.under_plain (by rfl) (by rfl)]
 refine wpAny_mono (vL (s := { s with heap:=s.heap.push { cls:=Value.type "list",data:=Data.seq [].toArray } }) (R:=fun r s'=>r = .ok (.ret (.ref s.heap.objs.size))/\wpAny (model prog w) A (do
  let o <- load s.heap.objs.size
  match o.data with
  | .seq xs _=>pure xs.toList
  | _=>unsupported "internal:collect") Q E s') I (Value.ref s.heap.objs.size) j (Heap.get?_push_of_some _ hd) n J fun h' tk acc c' kp z L B=>⟨rfl, ?_⟩) (fun fn s' h => ?_) (fun e s' h => ?_)
 ·refine wpAny_bind (wpAny_load z ?_)
  refine wpAny_pure ?_
  rw [L]
  exact q h' tk (fun b o e=>kp b o (Nat.ne_of_lt (Heap.lt_size e)) (Heap.get?_push_of_some _ e)) B
 ·cases fn with
  | done f =>
    obtain ⟨e,h⟩:=h
    cases e
    exact h
  | again c' =>
    refine ⟨h.1,codeAny_mono h.2 fun r s1 G => ?_⟩
    obtain ⟨rfl,G⟩:=G
    exact G
 ·cases h.1
end
end Dk
end L2
namespace L2
namespace Mi
open PySem PySem.Spec PyProof.Rows L2.Srt
noncomputable def ng:RAd:=fun ds M Q => ∃ a t kvs sh,ds=[.ref a]/\M a=some (.dct t kvs)/\jA sh=true/\(∀ kv∈kvs,hs sh kv.1=true) /\ ∀ p ys,M p=none->ys.Perm (kvs.map (·.1))->mY ys->Q (.ref p) (af M p (.lst ys))
theorem j3:aV ng:=fun _ _ _ _ h ⟨a,t,kvs,sh,e,e1,e2,j,q⟩=>⟨a,t,kvs,sh,e,e1,e2,j,fun p ys n z hs=>h _ _ (q p ys n z hs)⟩
theorem oW {K:Frag} {H:Hp}:∀ {kvs:List (D×D)} {es:List DictEntry},Paired (jB K H) kvs es -> ∃ vs,RDs K H (kvs.map (·.1)) vs/\Vals vs (es.map (·.key))
 | _,_, .nil=>⟨[],RDs.nil, .nil⟩
 | _,_, .cons r t=>by
   obtain ⟨vs,h1,h2⟩:=oW t
   obtain ⟨kV,vV,g1,g2,_,_⟩:=r
   exact ⟨kV::vs,RDs.cons g1 h1, .cons g2 h2⟩
section
variable {X:Cx}
theorem nh (J:X.A.units+16 < cLine) (L:X.calm=true):CallR X (.builtin "sorted") (lR X.K ng):=by
 intro pins s σ H xs us Q I r h
 obtain ⟨ds,M,rm,rs,a,t,kvs,sh,rfl,e,hok,j,q⟩:=h
 obtain ⟨v,rfl,rv⟩:=rs.one
 obtain ⟨u,rfl,ru⟩:=dG r
 cases RD.ref_iff.mp rv
 cases (show u=Value.ref a from ru)
 obtain ⟨cd,dd,sl,es,ep,hd,O,n,S⟩:=yN I rm e
 obtain ⟨t1,Z,z⟩:=iu I S
 obtain ⟨vs,h1,h2⟩:=oW n
 have B:cd = .type "dict" := by
  obtain ⟨o,g1,g2⟩:=t1
  rw [hd] at g1;cases g1;exact g2
 subst B
 have U:X.A.in1.handled=none:=I.ok.hd L
 exact oo J I rm h1 hok (fun d hd=>by
  obtain ⟨kv,F,rfl⟩:=List.mem_map.mp hd
  exact j kv F) q h2 (by have:=h2.length;rw [List.length_map] at this;simp at this;lia) fun E R Y=>Dk.collect_dict U z hd O fun h' tk kp G=>Y h' tk kp G
end
end Mi
end L2
namespace L2
open PySem PySem.Spec PyProof.Rows
section
section
variable {X:Cx} {pins:List (Addr×Obj)} {σ:St} {H:Hp} {s:Shared}
theorem yS {x:V} {u:Value} {t:String} (I:Inv X pins σ H s) (rx:RelV x u) (ty:bT X.K H x (.type t)):∃ P,PySem.W.KitX X.K u (.type t) P/\P s.heap/\u≠Value.builtin "__main__.__loader__#opaque" := by
 generalize j:Value.type t=T at ty
 cases ty with
 | non=>cases (show u=Value.none from rx);exact ⟨_,PySem.W.kitx_none,True.intro,fun z=>nomatch z⟩
 | bl y=>cases (show u=Value.bool y from rx);exact ⟨_,PySem.W.kitx_bool,True.intro,fun z=>nomatch z⟩
 | int i=>obtain ⟨t,rfl⟩:=(show ∃ t,u=Value.int i t from rx);exact ⟨_,PySem.W.kitx_int,True.intro,fun z=>nomatch z⟩
 | str y=>obtain ⟨t,rfl⟩:=(show ∃ t,u=Value.str y t from rx);exact ⟨_,PySem.W.kitx_str,True.intro,fun z=>nomatch z⟩
 | flt y=>obtain ⟨t,rfl⟩:=(show ∃ t,u=Value.float y t from rx);exact ⟨_,PySem.W.kitx_float,True.intro,fun z=>nomatch z⟩
 | @lst a xs ea =>
  cases (show u=Value.ref a from rx)
  obtain ⟨_,_,n,_,h1⟩:=(show ObjOk X.prog X.w H s.heap a (.lst xs) from I.hok a _ ea)
  exact ⟨_,PySem.W.kitx_list,⟨_,h1,rfl⟩,fun z=>nomatch z⟩
 | @frz a ob xs ea =>
  cases (show u=Value.ref a from rx)
  obtain ⟨_,_,_,n,_,h1⟩:=(show ObjOk X.prog X.w H s.heap a (.frz ob (.lst xs)) from I.hok a _ ea)
  exact ⟨_,PySem.W.kitx_list,⟨_,h1,rfl⟩,fun z=>nomatch z⟩
 | @tup a xs ea =>
  cases (show u=Value.ref a from rx)
  obtain ⟨_,_,_,o,h1,h2,_⟩:=(show ObjOk X.prog X.w H s.heap a (.tup xs) from I.hok a _ ea)
  exact ⟨_,PySem.W.kitx_tuple,⟨o,h1,h2⟩,fun z=>nomatch z⟩
 | @dK a kvs ea =>
  cases (show u=Value.ref a from rx)
  obtain ⟨_,_,vs,_,o,es,ep,h1,h2,_⟩:=(show ObjOk X.prog X.w H s.heap a (.dK kvs) from I.hok a _ ea)
  exact ⟨_,PySem.W.kitx_dict,⟨o,h1,h2.1⟩,fun z=>nomatch z⟩
 | @dT a kvs ea =>
  cases (show u=Value.ref a from rx)
  obtain ⟨_,_,xs,_,o,es,ep,h1,h2,_⟩:=(show ObjOk X.prog X.w H s.heap a (.dT kvs) from I.hok a _ ea)
  exact ⟨_,PySem.W.kitx_dict,⟨o,h1,h2.1⟩,fun z=>nomatch z⟩
 | ins=>cases j
end
namespace Mi
section
variable {X:Cx}
theorem yT (K:Frag) {T U:String} (n:T∈["bool", "int", "str", "tuple", "list", "dict"]) (q:U∈["bool", "int", "str", "tuple", "list", "dict"]) {t:String} (j:t∈ci):PySem.W.kitAny K (.type t) [.type T, .type U]=some (dy T t || dy U t):=by
 have h1:=ju K T n t j
 have h2:=ju K U q t j
 unfold PySem.W.kitAny
 rw [h1]
 cases e1:dy T t with
 | true=>rfl
 | false =>
   dsimp only
   unfold PySem.W.kitAny
   rw [h2]
   cases dy U t <;> rfl
theorem qD {T U:String} (z:T∈["bool", "int", "str", "tuple", "list", "dict"]) (B:U∈["bool", "int", "str", "tuple", "list", "dict"]):CallR X (.builtin "isinstance") (fun vs H Q => ∃ v t p,vs=[v, .ref p]/\H p=some (.tup [.ty T, .ty U])/\bT X.K H v (.type t)/\t∈ci/\Q (.bl (dy T t || dy U t)) H):=by
 intro pins s σ H xs us Q I r h
 obtain ⟨v,t,p,rfl,F,ty,G,q⟩:=h
 obtain ⟨u,c,rfl,ru,rc⟩:=kL r
 cases (show c=Value.ref p from rc)
 obtain ⟨P,g1,g2,g3⟩:=yS I ru ty
 obtain ⟨_,its,rv,⟨cls,dd,dat,sl⟩,h1,h2,n,j⟩:=(show ObjOk X.prog X.w H s.heap p (.tup [.ty T, .ty U]) from I.hok p _ F)
 dsimp only at h2 j
 subst h2 j
 cases rv with
 | cons J rv =>
 cases rv with
 | cons L rv =>
 cases rv
 cases J
 cases L
 exact PySem.W.kia_tup g1 I.kIn g2 h1 (yT X.K z B G) g3 fun tk=>⟨.bl _,H,I.tok tk,rfl,q⟩
noncomputable def fM (T U:String) (ta:TEd):TEd:=fun ρ M Q=>ta ρ M fun x M1 => ∃ t,tyN M1 x=some t/\Q (.bl (dy T t || dy U t)) M1
theorem qE {T U:String} {ta:TEd} (h:ab ta):ab (fM T U ta):=fun ρ M Q Q' i q=>h _ _ _ _ (fun x n ⟨t,e,j⟩=>⟨t,e,i _ _ j⟩) q
theorem vM {e:Expr} {ta:TEd} {T U:String} {y z:Str} {k:Nat} {p p2 j G pos:Pos} (hT:T∈["bool", "int", "str", "tuple", "list", "dict"]) (hU:U∈["bool", "int", "str", "tuple", "list", "dict"]) (m:ab ta) (he:PE X e (lE X.K ta)) (hg:Gl X "isinstance") (hm:X.mg "isinstance" = none)
 (I:Gl X y) (J:X.mg y=none) (hv:bootBuiltins y=some (.type T)) (hn:y ≠ "__name__") (L:(y==("__debug__":Str))=false)
 (O:Gl X z) (R:X.mg z=none) (S:bootBuiltins z=some (.type U)) (Y:z ≠ "__name__") (B:(z==("__debug__":Str))=false)
 (hs:starEach [e, .Tuple [.Name y p2, .Name z j] k G] X.env=(false,eval e X.env)::starEach [.Tuple [.Name y p2, .Name z j] k G] X.env) :
 PE X (.Call (.Name "isinstance" p) [e, .Tuple [.Name y p2, .Name z j] k G] [] pos) (lE X.K (fM T U ta)):=by
 have h2:PE X (.Name y p2) (tC (.ty T)):=jf I J hv rfl hn L
 have h3:PE X (.Name z j) (tC (.ty U)):=jf O R S rfl Y B
 have h4:PE X (.Tuple [.Name y p2, .Name z j] k G) _:=rD (cu h2 (cu h3 im rfl) rfl)
 refine PE.imp (ca (qD hT hU) hg hm (by decide +kernel) (cu he (cu h4 im rfl) hs) (by decide) (by decide) hs rfl) fun σ H Q h => ?_
 obtain ⟨ρ,M,rs,rm,q⟩:=h
 refine ⟨ρ,M,rs,rm,m _ _ _ _ (fun x M1 ⟨t,e,q1⟩ v H1 x1 rm1 Z => ?_) q⟩
 refine ⟨by simp;decide,fun pp n => ?_⟩
 have st:=(Ext.new' (M:=M1) (ho := .tup [.ty T, .ty U]) n).stab rm1
 have F:=rm1.new (ho := .tup [.ty T, .ty U]) n
 exact ⟨v,t,pp,rfl,ar,xg F (Z.mono st) e,oJ e,q1 _ _ (x1.trans (Ext.new' n)) F (RD.bl_iff.mpr rfl)⟩
end
end Mi
end
section
section
variable {X:Cx} {pins:List (Addr×Obj)} {σ:St} {H:Hp} {s:Shared}
theorem Inv.freeze (I:Inv X pins σ H s) {a:Addr} {ps:List (List Key×V)} (e:H a=some (.dT ps)):∃ o,Inv X pins σ (upd H a (.frz o (.dT ps))) s:=by
 obtain ⟨n,j,xs,pr,o,es,ep,h1,h2,B,F,G⟩:=id (I.hok a _ e)
 have mu:Mut (H a):=by rw [e];exact True.intro
 have u:Un X.fs [] H (upd H a (.frz o (.dT ps))) s.heap s.heap:=Un.write mu (.inl rfl) (fun b u _ q=>q) ⟨_,h1⟩
 have ok:HOk X.prog X.w (upd H a (.frz o (.dT ps))) s.heap:=HOk.write I.hok mu (.inl rfl) (fun b u _ q=>q) ⟨_,h1⟩
  ⟨h1,(I.hok a _ e).stay (fun b u _ q=>q) (fun b q=>by rw [ah (fun z=>by subst z;rw [e] at q;cases q)];exact q) (fun b xs q=>by rw [ah (fun z=>by subst z;rw [e] at q;cases q)];exact q)⟩
 exact ⟨o,I.un (t':=s.toks) u ok⟩
end
noncomputable def Itk (n:Nat) (G:Hp->Prop) (yl:Nat->V->Hp->Prop):It:=⟨fun i H=>i < n/\G H,fun i H x H'=>H'=H/\yl i x H,fun i H=>n<=i/\G H⟩
theorem tw {P:Program} {w:World} {K:Frag} {tg:Expr} (a it:Addr) {cd:Value} {dd:Option Addr} {sl:Array (Option Value)} {es:Array DictEntry} {ep:Nat} {G:Hp->Prop} {yl:Nat->V->Hp->Prop}
 (R:∀ H,G H -> ∃ u,H a=some (.frz { cls:=cd,dict:=dd,data := .dict es ep,slots:=sl } u)) (U:∀ i H h,HOk P w H h->G H -> ∀ e,es[i]? = some e -> ∃ x,RelV x e.key/\yl i x H) :
 fu P w K tg (Itk es.size G yl) [it] it (fun i h=>i<=es.size/\h.get? it=some (Dk.kO a i es.size ep)) where
 mem:=by simp
 obj:=fun i h st b q=>by
  have e:b=it:=by simpa using q
  subst e
  exact ⟨_,st.2,fun v z=>by cases z⟩
 keep:=fun i h h' st k=>⟨st.1,k it (by simp) _ st.2⟩
 item:=by
  intro X B hw F S i pins s σ H E I hf st j
  subst B hw F
  obtain ⟨hi,j⟩:=j
  obtain ⟨u,J⟩:=R H j
  obtain ⟨f0,f1,f2,L,f4,O⟩:=hf it (by simp)
  obtain ⟨x,rx,yx⟩:=U i H s.heap I.hok j es[i] (Array.getElem?_eq_getElem hi)
  refine Dk.nx_item (e:=es[i]) st.2 (I.hok a _ J).1 (Array.getElem?_eq_getElem hi) fun h' st' sb => ?_
  have Y:Inv X pins σ H { s with heap:=h' }:=I.turned (t':=s.toks) (fun b o q e=>(sb.2 b q).trans e) f0 f1 L f4 O
  exact ⟨_,rfl,kK (s := { s with heap:=h' }) (n := "dict_keyiterator") st' rfl rfl (by decide) ⟨x,H,Y,rx,⟨rfl,yx⟩,⟨hi,st'⟩,fun b q=>(hf b q).1⟩⟩
 done:=by
  intro X B hw F S i pins s σ H E I hf st j
  subst B hw F
  obtain ⟨hi,j⟩:=j
  obtain ⟨u,J⟩:=R H j
  obtain ⟨f0,f1,f2,L,f4,O⟩:=hf it (by simp)
  have e:i=es.size:=by have:=st.1;lia
  subst e
  exact Dk.nx_end (I.ok.hd S) st.2 (I.hok a _ J).1 fun h' k=>⟨rfl,I.turned (t':=s.toks) (fun b o q e=>k b o q e) f0 f1 L f4 O⟩
 self:=fun A i s Q E st h=>wpAny_pyIter_keyiter ⟨_,st.2,rfl,rfl⟩ h
namespace Mi
section
variable {X:Cx}
noncomputable def qF (i:Nat) (t:TSd):TSd:=fun A ρ M => ∃ a kvs, ρ[i]? = some (some (.ref a))/\((M a=some (.dct true kvs)/\t A ρ (af M a (.fdc kvs)))∨(M a=some (.fdc kvs)/\t A ρ M))
theorem vN {i:Nat} {t:TSd} (h:aC t):aC (qF i t):=fun a b ρ M l ⟨p,kvs,e,q⟩=>⟨p,kvs,e,q.imp (fun q=>⟨q.1,h _ _ _ _ l q.2⟩) fun q=>⟨q.1,h _ _ _ _ l q.2⟩⟩
theorem AL {st:Stmt} {i:Nat} {t:TSd} (h:PS X st (lS X.K t)):PS X st (lS X.K (qF i t)):=by
 intro pins s σ H D I ⟨ρ,M,A,rs,rm,lk,a,kvs,e,q⟩
 rcases q with ⟨m,q⟩ | ⟨m,q⟩
 ·obtain ⟨ps,j,pr⟩:=rm a _ m
  obtain ⟨o,I'⟩:=I.freeze j
  have sb:Stab H (upd H a (.frz o (.dT ps))):=rm.stabPut m
  exact h pins s σ _ D I' ⟨ρ,af M a (.fdc kvs),A,rs.mono sb,rm.put m ⟨o,ps,ar,Paired.mapP pr fun _ _ z=>⟨z.1,z.2.mono sb⟩⟩,lk.ext (Ext.put m),q⟩
 ·exact h pins s σ H D I ⟨ρ,M,A,rs,rm,lk,q⟩
noncomputable def j4 (ta:TEd):TId:=fun ρ M R=>ta ρ M fun x M1 => ∃ a kvs,x = .ref a/\M1 a=some (.fdc kvs)/\R (kvs.map (·.1)) (fun _=>True) M1
theorem tz {ta:TEd} (h:ab ta):bP (j4 ta):=fun ρ M Q Q' i q=>h _ _ _ _ (fun x n ⟨a,ds,e,e1,j⟩=>⟨a,ds,e,e1,i _ _ _ j⟩) q
theorem oZ {K:Frag} {H:Hp}:∀ {kvs:List (D×D)} {es:List DictEntry},Paired (jB K H) kvs es -> ∀ (i:Nat) (e:DictEntry),es[i]? = some e -> ∃ (kv:D×D) (v:V),kvs[i]? = some kv/\RD K H kv.1 v/\RelV v e.key
 | _,_, .nil,_,_,h=>by simp at h
 | _,_, .cons r t,0,_,h=>by
   simp at h;subst h
   obtain ⟨kV,vV,g1,g2,_,_⟩:=r
   exact ⟨_,kV,rfl,g1,g2⟩
 | _,_, .cons _ t,i+1,e,h=>by
   obtain ⟨kv,v,h1,h2⟩:=oZ t i e (by simpa using h)
   exact ⟨kv,v,by simpa using h1,h2⟩
theorem yU {tg e:Expr} {ta:TEd} (m:ab ta) (he:PE X e (lE X.K ta)):PI X tg e (lI X.K (j4 ta)):=by
 intro pins s σ H R I h
 obtain ⟨ρ,M,rs,rm,q⟩:=h
 have hq:lE X.K ta σ H (fun v H1 => ∃ a kvs n,v = .ref a/\Ext M H n H1/\RM X.K n H1/\n a=some (.fdc kvs) /\ ∀ J,fE X.K H1 (kvs.map (·.1)) (fun _=>True) J->R J H1) :=
  ⟨ρ,M,rs,rm,m _ _ _ _ (fun x n ⟨a,kvs,e,e1,L⟩ v H1 O j rd1=>by
    subst e
    cases RD.ref_iff.mp rd1
    exact ⟨a,kvs,n,rfl,O,j,e1,fun J ij=>L J H1 O j ij⟩) q⟩
 refine thn (he pins s σ H _ I hq) fun u s1 ⟨x,H1,B,r1,a,kvs,n,e0,O,j,e1,L⟩ => ?_
 subst e0
 cases r1
 obtain ⟨o,ps,S,pr⟩:=j _ _ e1
 obtain ⟨U,ok⟩:=B.hok a _ S
 obtain ⟨cd,dd,sl,es,ep,g1,g2,g3⟩:=mZ ok pr
 obtain ⟨ty,_,Y⟩:=iu B (.inr ⟨ps, .inr ⟨o,S⟩⟩)
 rw [U] at g1
 cases g1
 have Z:cd = .type "dict" := by
  obtain ⟨o,h1,h2⟩:=ty
  rw [U] at h1;cases h1;exact h2
 subst Z
 have lz:kvs.length=es.size:=by have:=aU g3;simpa using this
 refine Dk.it_dict Y U ?_
 refine ⟨s1.heap.objs.size,[s1.heap.objs.size],_,_,H1,rfl,B.kept (t':=s1.toks) fun b o e=>Heap.get?_push_of_some _ e,tw (G:=fun H=>H a=some (.frz { cls := .type "dict",dict:=dd,data := .dict es ep,slots:=sl } (.dT ps))/\Paired (fun (p:D×D) (q:List Key×V)=>RKeys p.1 q.1/\RD X.K H p.2 q.2) kvs ps) (yl:=fun i x H => ∃ kv,kvs[i]? = some kv/\RD X.K H kv.1 x) a _ (fun H h=>⟨_,h.1⟩) (fun i H h hok ⟨ha,pr'⟩ e he => ?_),⟨Nat.zero_le _,Heap.get?_push_size _ rfl⟩,fun b hb => ?_,L _ ?_⟩
 ·obtain ⟨z0,ok'⟩:=hok a _ ha
  obtain ⟨cd,dd,sl',es',ep',z1,_,z3⟩:=mZ ok' pr'
  rw [z0] at z1
  cases z1
  obtain ⟨kv,v,y1,y2,y3⟩:=oZ z3 i e (by simpa using he)
  exact ⟨v,y3,kv,y1,y2⟩
 ·have e:b=s1.heap.objs.size:=by simpa using hb
  subst e
  exact B.fpOk (Nat.le_refl _) (B.hok.fresh (Nat.le_refl _))
 ·intro M' H' st rm' _ i
  have F:=st.frz _ _ _ S
  have pr':Paired (fun (p:D×D) (q:List Key×V)=>RKeys p.1 q.1/\RD X.K H' p.2 q.2) kvs ps:=Paired.mapP pr fun _ _ z=>⟨z.1,z.2.mono st⟩
  rw [List.length_map,lz]
  refine ⟨fun hi=>⟨hi,F,pr'⟩,fun hi=>⟨⟨hi,F,pr'⟩,fun x H'' y => ?_⟩⟩
  obtain ⟨e,kv,y1,y2⟩:=y
  subst e
  exact ⟨.inl rfl,kv.1,by rw [List.getElem?_map,y1];rfl,y2⟩
end
end Mi
end
section
section
variable {prog:Program} {w:World} {K:Type} [DecidableEq K] {knd:HeapKind prog w K} {A:Around} {E:Value->Shared->Prop} {s:Shared}
noncomputable def cP (ev:Value->Value->Bool) (xb:List (K×Addr×Value)) (x:K×Addr×Value):Bool:=match atKey xb x.1 with
 | some p=>ev x.2.2 p.2
 | none=>false
theorem AM {nm:String} {a b:Addr} {xa xb:List (K×Addr×Value)} {ev:Value->Value->Bool} {Q:Bool->Shared->Prop} (hu:knd.room A) (ha:(a==sysModules)=false) (hb:(b==sysModules)=false)
 (da:s.heap.DictOfH knd a xa) (db:s.heap.DictOfH knd b xb) (CD:∀ x∈xa, ∀ y∈xb,SeqAt.EqAt A s x.2.2 y.2.2 (ev x.2.2 y.2.2)) (h:Q (xa.length==xb.length&&xa.all (cP ev xb)) s) :
 wpAny (model prog w) A (Builtin.Dict.samePairs nm a b) Q E s:=by
 obtain ⟨oa,es,ep,B,_,F,Y,CF,CL⟩:=da
 obtain ⟨ob,es',ep',I,_,J,L,CG,Z⟩:=db
 have O:xa.length=es.size:=(size_of_entries Y).symm
 have CH:xb.length=es'.size:=(size_of_entries L).symm
 rw [O,CH] at h
 unfold Builtin.Dict.samePairs Builtin.Dict.showsAll
 rw [if_neg (show ¬ (a==sysModules)=true by rw [ha];exact Bool.false_ne_true),if_neg (show ¬ (b==sysModules)=true by rw [hb];exact Bool.false_ne_true)]
 refine wpAny_bind (wpAny_pure (wpAny_bind (wpAny_pure ?_)))
 refine wpAny_bind (wpAny_dictEntries B F ?_)
 dsimp only
 refine wpAny_bind (wpAny_dictEntries I J ?_)
 by_cases hsz:es.size=es'.size
 case neg =>
  rw [if_pos (by simpa using hsz)]
  have CI:(es.size==es'.size)=false:=by simpa using hsz
  rw [CI,Bool.false_and] at h
  exact wpAny_bind (wpAny_rule (wpAny_pure h))
 case pos =>
  have h':Q (xa.all (cP ev xb)) s:=by simpa [hsz] using h
  rw [if_neg (by rw [hsz];simp)]
  refine wpAny_bind (wpAny_dictEpoch B F ?_)
  refine wpAny_bind ?_
  rw [Std.Legacy.Range.forIn_eq_forIn_range']
  simp only [Std.Legacy.Range.size,Nat.sub_zero,Nat.add_sub_cancel,Nat.div_one]
  refine wpAny_forIn_list _
   (fun rest q s'=>s'=s/\q=(none,()) /\ ∃ i,rest=List.range' i (es.size - i)/\i<=es.size/\xa.all (cP ev xb)=(xa.drop i).all (cP ev xb))
   _ ?_ ?_ _ _ ⟨rfl,rfl,0,by simp,Nat.zero_le _,by simp⟩
  ·rintro x rest q s' ⟨rfl,rfl,i,R,hi,n⟩
   have CC:i < es.size:=by
    rcases Nat.lt_or_ge i es.size with h | h
    ·exact h
    ·rw [Nat.sub_eq_zero_of_le h] at R;simp at R
   obtain ⟨rfl,S⟩:x=i/\rest=List.range' (i+1) (es.size - (i+1)):=by
    have e:es.size - i=(es.size - (i+1))+1:=by lia
    rw [e,List.range'_succ] at R
    injection R with h1 h2
    exact ⟨h1,h2⟩
   have z:x < xa.length:=by rw [O];exact CC
   refine wpAny_bind (wpAny_dictEntries B F ?_)
   rw [entry_at Y x,List.getElem?_eq_getElem z]
   have U:xa.drop x=xa[x]::xa.drop (x+1):=List.drop_eq_getElem_cons z
   have G:xa[x]∈xa:=List.getElem_mem z
   rw [U,List.all_cons] at n
   show wpAny _ _ (holding [_,_] _ >>= _) _ _ _
   refine wpAny_bind (wpAny_holding (wpAny_bind (wpAny_dictFind_heap (k:=xa[x].1) (a:=xa[x].2.1) hu (CF _ G) I J L CG Z (fun CJ => ?_) (fun j p hj => ?_))))
   ·have hn:cP ev xb xa[x]=false:=by unfold cP;rw [atKey_none_of_get CJ]
    rw [n,hn,Bool.false_and] at h'
    refine wpAny_pure ?_
    show wpAny _ _ (if (!false)=true then _ else _) _ _ _
    rw [if_pos (by decide)]
    exact wpAny_pure (wpAny_pure h')
   ·have hn:cP ev xb xa[x]=ev xa[x].2.2 p.2:=by unfold cP;rw [atKey_of_get Z hj]
    refine wpAny_bind (wpAny_dictEntries I J ?_)
    rw [entry_at L j,hj]
    refine wpAny_holding (CD _ G _ (List.mem_of_getElem? hj) prog w _ _ ?_)
    show wpAny _ _ (if (!(ev xa[x].2.2 p.2))=true then _ else _) _ _ _
    rw [hn] at n
    cases e:ev xa[x].2.2 p.2 with
    | false =>
      rw [e,Bool.false_and] at n
      rw [n] at h'
      rw [if_pos (by decide)]
      exact wpAny_pure (wpAny_pure h')
    | true =>
      rw [e,Bool.true_and] at n
      rw [if_neg (by decide)]
      refine wpAny_bind (wpAny_dictEpoch B F ?_)
      rw [if_neg (by simp)]
      exact wpAny_pure ⟨rfl,rfl,x+1,S,CC,n⟩
  ·rintro q s' ⟨rfl,rfl,i,R,hi,n⟩
   have CK:i=es.size:=by
    rcases Nat.lt_or_ge i es.size with h | h
    ·have e:es.size - i=(es.size - (i+1))+1:=by lia
     rw [e,List.range'_succ] at R;exact nomatch R
    ·exact Nat.le_antisymm hi h
   refine wpAny_pure ?_
   rw [CK, <- O,List.drop_length] at n
   rw [n] at h'
   exact h'
theorem BS {a b:Addr} {xa xb:List (K×Addr×Value)} {ev:Value->Value->Bool} {Q:Value->Shared->Prop} (n:A.units < cLine) (q:knd.room A.in1) (z:(a==sysModules)=false) (B:(b==sysModules)=false)
 (da:s.heap.DictOfH knd a xa) (db:s.heap.DictOfH knd b xb) (j:∀ x∈xa, ∀ y∈xb,SeqAt.EqAt A.in1 s x.2.2 y.2.2 (ev x.2.2 y.2.2)) (h:Q (.bool (!(xa.length==xb.length&&xa.all (cP ev xb)))) s) :
 wpAny (model prog w) A (compareOp .NotEq (.ref a) (.ref b)) Q E s:=by
 refine wpAny_richCompare_same_room (op := .NotEq) da.typeIs db.typeIs PySem.F.slot_dict_ne (wpAny_call_entry PySem.F.slot_dict_ne da.typeIs PySem.F.entry_dict_ne ?_ (PySem.F.args_dict_ne_2 _ _)) n
 show wpAny _ _ (Builtin.Dict.dictSlotArgs "__ne__" ⟨[.ref a, .ref b],[]⟩ >>= _) _ _ s
 refine wpAny_bind ?_
 unfold Builtin.Dict.dictSlotArgs
 refine wpAny_bind (wpAny_notOrdered_dict da.typeIs ?_)
 show wpAny _ _ (pure (Value.ref a,Value.ref b)) _ _ s
 refine wpAny_pure ?_
 refine wpAny_bind (wpAny_isInstance (T := "dict") db.typeIs PySem.F.sub_dict_dict ?_)
 simp only [Bool.not_true,Bool.false_eq_true,if_false]
 refine wpAny_bind (wpAny_pure (wpAny_bind (wpAny_pure ?_)))
 refine wpAny_bind (AM q z B da db j ?_)
 refine wpAny_pure ⟨_,rfl, ?_, ?_⟩
 ·exact fun x=>nomatch x
 ·simpa using h
end
namespace Mi
section
variable {X:Cx}
noncomputable def dI (M:Mem) (a:Addr) (kvs:List (D×D)):Prop:=(M a=some (.dct true kvs)∨M a=some (.fdc kvs)) /\ ∀ kv∈kvs, ∃ i,kv.2 = .int i
noncomputable def eqD (ps qs:List (D×D)):Bool:=ps.length==qs.length&&ps.all fun kv=>decide (dget qs kv.1=some kv.2)
noncomputable def vO:R2d:=fun x y M Q => ∃ a b ps qs,x = .ref a/\y = .ref b/\dI M a ps/\dI M b qs/\Q (.bl (!eqD ps qs)) M
theorem vP:aD vO:=fun _ _ _ _ _ h ⟨a,b,ps,qs,e1,e2,j,n,q⟩=>⟨a,b,ps,qs,e1,e2,j,n,h _ _ q⟩
noncomputable def evI:Value->Value->Bool
 | .int i _, .int j _=>i==j
 | _,_=>false
theorem dI.at {K:Frag} {M:Mem} {H:Hp} {a:Addr} {kvs:List (D×D)} (rm:RM K M H) (h:dI M a kvs):∃ ps,Rd H a (.dT ps)/\Paired (fun (p:D×D) (q:List Key×V)=>RKeys p.1 q.1/\RD K H p.2 q.2) kvs ps:=by
 rcases h.1 with e | e
 ·obtain ⟨ps,j,pr⟩:=rm a _ e;exact ⟨ps, .inl j,pr⟩
 ·obtain ⟨o,ps,j,pr⟩:=rm a _ e;exact ⟨ps, .inr ⟨o,j⟩,pr⟩
theorem ni {K:Frag} {H:Hp} {kvs:List (D×D)} {ps:List (List Key×V)} {xs:List (List Key×Addr×Value)} (pr:Paired (fun (p:D×D) (q:List Key×V)=>RKeys p.1 q.1/\RD K H p.2 q.2) kvs ps) (kt:KT H ps xs) (hi:∀ kv∈kvs, ∃ i,kv.2 = .int i):∀ x∈xs, ∃ i t,x.2.2 = .int i t:=by
 induction pr generalizing xs with
 | nil=>cases kt;intro x hx;exact nomatch hx
 | @cons p q ps qs h t ih =>
  cases kt with
  | cons g gt =>
    intro x hx
    rcases List.mem_cons.mp hx with e | hx
    ·subst e
     obtain ⟨i,ei⟩:=hi p (by simp)
     have:=h.2
     rw [ei] at this
     have z:=g.2.2
     rw [RD.int_iff.mp this] at z
     obtain ⟨t,n⟩:=z
     exact ⟨i,t,n⟩
    ·exact ih gt (fun kv j=>hi kv (by simp [j])) x hx
theorem AN {K:Frag} {H:Hp} {kvs:List (D×D)} {ps:List (List Key×V)} {xs:List (List Key×Addr×Value)} (pr:Paired (fun (p:D×D) (q:List Key×V)=>RKeys p.1 q.1/\RD K H p.2 q.2) kvs ps) (kt:KT H ps xs) (hi:∀ kv∈kvs, ∃ i,kv.2 = .int i)
 {k:D} {q:List Key} (F:RKeys k q) (i:Int) (t:Tok) (b:Addr):cP evI xs (q,b, .int i t)=decide (dget kvs k=some (.int i)):=by
 obtain ⟨g1,g2⟩:=eN (RK:=RKeys) RKeys.inj RKeys.fun F pr
 have n:=KT.val kt q
 unfold cP
 dsimp only
 cases e:dget kvs k with
 | none =>
   rw [g2 e] at n
   cases z:atKey xs q with
   | none=>simp
   | some p=>rw [z] at n;exact n.elim
 | some d =>
   obtain ⟨v,e1,e2⟩:=g1 d e
   rw [e1] at n
   cases z:atKey xs q with
   | none=>rw [z] at n;exact n.elim
   | some p =>
     rw [z] at n
     obtain ⟨j,ej⟩:∃ j,d = .int j:=by
      unfold dget at e
      obtain ⟨kv,h1,h2⟩:=Option.map_eq_some_iff.mp e
      obtain ⟨j,G⟩:=hi kv (List.mem_of_find?_eq_some h1)
      exact ⟨j,by rw [<- h2];exact G⟩
     subst ej
     cases RD.int_iff.mp e2
     obtain ⟨t',I⟩:∃ t',p.2 = .int j t':=n
     dsimp only
     rw [I]
     show (i==j)=decide (some (D.int j)=some (D.int i))
     by_cases hij:i=j
     ·subst hij;simp
     ·have B : ¬ j=i:=fun z=>hij z.symm
      simp [hij,B]
theorem AO {K:Frag} {H:Hp} {kvs ls:List (D×D)} {ps us:List (List Key×V)} {xs ys:List (List Key×Addr×Value)} (pr:Paired (fun (p:D×D) (q:List Key×V)=>RKeys p.1 q.1/\RD K H p.2 q.2) kvs ps) (kt:KT H ps xs) (hi:∀ kv∈kvs, ∃ i,kv.2 = .int i)
 (pr':Paired (fun (p:D×D) (q:List Key×V)=>RKeys p.1 q.1/\RD K H p.2 q.2) ls us) (kt':KT H us ys) (j:∀ kv∈ls, ∃ i,kv.2 = .int i) :
 (xs.length==ys.length&&xs.all (cP evI ys))=eqD kvs ls:=by
 have l1:xs.length=kvs.length:=by rw [aU pr,aU kt]
 have l2:ys.length=ls.length:=by rw [aU pr',aU kt']
 unfold eqD
 rw [l1,l2]
 congr 1
 clear l1 l2
 induction pr generalizing xs with
 | nil=>cases kt;rfl
 | @cons p q ps qs h t ih =>
  cases kt with
  | @cons _ x _ xs g gt =>
   rw [List.all_cons,List.all_cons,ih gt (fun kv n=>hi kv (by simp [n]))]
   congr 1
   obtain ⟨i,ei⟩:=hi p (by simp)
   have:=h.2
   rw [ei] at this
   have z:=g.2.2
   rw [RD.int_iff.mp this] at z
   obtain ⟨t,B⟩:∃ t',x.2.2 = .int i t':=z
   obtain ⟨G,F,I⟩:=x
   dsimp only at B g
   subst B
   rw [ei, <- g.1]
   exact AN pr' kt' j h.1 i t F
theorem vQ {pins:List (Addr×Obj)} {σ:St} {H:Hp} {s:Shared} {M:Mem} {A:Around} {E:Value->Shared->Prop} {Q:Value->Shared->Prop} {ps qs:List (D×D)} {a b:Addr} (G:A.units+2 < cLine) (I:Inv X pins σ H s) (rm:RM X.K M H) (h1:dI M a ps) (h2:dI M b qs) (h:Q (.bool (!eqD ps qs)) s):wpAny (model X.prog X.w) A (compareOp .NotEq (.ref a) (.ref b)) Q E s:=by
 obtain ⟨us,q,pr⟩:=h1.at rm
 obtain ⟨vs,n,pr'⟩:=h2.at rm
 obtain ⟨_,sm,xs,kt,dd⟩:=ga I.hok q
 obtain ⟨_,sm',ys,kt',dd'⟩:=ga I.hok n
 have z:=ni pr kt h1.2
 have B:=ni pr' kt' h2.2
 refine BS (ev:=evI) (by lia) (tupleKind_room_in1 (by lia)) sm sm' dd dd' (fun x hx y F => ?_) (by rw [AO pr kt h1.2 pr' kt' h2.2];exact h)
 obtain ⟨i,t,e⟩:=z x hx
 obtain ⟨j,u,e'⟩:=B y F
 rw [e,e']
 exact SeqAt.EqAt.int_int i t j u
theorem vR (j:X.A.units+2 < cLine):OpR X (compareOp .NotEq) (l2 X.K vO):=by
 intro pins s σ H x y v u Q I rx ry h
 obtain ⟨x',y',M,rm,rdx,rdy,a,b,ps,qs,rfl,rfl,h1,h2,q⟩:=h
 cases RD.ref_iff.mp rdx
 cases RD.ref_iff.mp rdy
 cases rx
 cases ry
 exact vQ j I rm h1 h2 ⟨.bl (!eqD ps qs),H,I,rfl,q _ H Ext.refl rm (RD.bl_iff.mpr rfl)⟩
end
end Mi
end
section
section
variable {X:Cx}
noncomputable def p8:V->List V->Hp->VK->Prop:=fun x vs H Q => ∃ (l:Addr) (xs:List V) (i:Int) (y:V),x = .ref l/\vs=[.int i,y]/\H l=some (.lst xs)/\0<=i/\i.toNat<=xs.length/\xs.length < sizeLine/\Q .non (upd H l (.lst (xs.take i.toNat++y::xs.drop i.toNat)))
theorem Vals.take':∀ {xs:List V} {us:List Value} (n:Nat),Vals xs us->Vals (xs.take n) (us.take n)
 | _,_,0,_=>by simp only [List.take_zero];exact .nil
 | _,_,_+1, .nil => .nil
 | _,_,n+1, .cons r t => .cons r (Vals.take' n t)
theorem Vals.drop':∀ {xs:List V} {us:List Value} (n:Nat),Vals xs us->Vals (xs.drop n) (us.drop n)
 | _,_,0,r=>r
 | _,_,_+1, .nil => .nil
 | _,_,n+1, .cons _ t=>Vals.drop' n t
theorem tD:MtM X "list.insert" p8:=by
 intro pins s σ H x vs v us Q I rx rv h
 obtain ⟨l,xs,i,y,rfl,rfl,G,h0,L,J,q⟩:=h
 cases rx
 obtain ⟨u,j,rfl,ru,B⟩:=kL rv
 obtain ⟨t,rfl⟩:=ru
 obtain ⟨z,its,n,r,O,e⟩:=I.lstM G
 have hf : ¬(!Builtin.List.listFitsIndex i)=true:=by
  have:Builtin.List.listFitsIndex i=true:=by
   unfold Builtin.List.listFitsIndex
   rw [sizeLine_eq] at J
   rw [Bool.and_eq_true]
   exact ⟨decide_eq_true (by lia),decide_eq_true (by lia)⟩
  rw [this];decide
 have hs:its.toArray.size<=sizeLine:=by rw [List.size_toArray];lia
 have mt:=PySem.AutoSeq1.list_insert_list_int_val_1 l its.toArray n i t j hf hs
 refine call_meets PySem.F.slot_list_insert ⟨_,e,rfl⟩ PySem.F.entry_list_insert (PySem.F.args_list_insert_3 _ _ _) mt ⟨e, ?_⟩
 refine ⟨.non,_,I.lset (its':=its.take i.toNat++j::its.drop i.toNat) G e ?_ ((Vals.take' i.toNat r).append (.cons B (Vals.drop' i.toNat r))) ?_,rfl,q⟩
 ·have hm:(if i < 0 then (i+(its.toArray.size:Int)).toNat else min i.toNat its.toArray.size)=i.toNat:=by
   rw [if_neg (by lia),List.size_toArray];lia
  show (its.toArray.extract 0 (if i < 0 then (i+(its.toArray.size:Int)).toNat else min i.toNat its.toArray.size)).push j++its.toArray.extract (if i < 0 then (i+(its.toArray.size:Int)).toNat else min i.toNat its.toArray.size)=_
  rw [hm]
  apply Array.ext'
  simp only [List.extract_toArray,List.push_toArray,List.append_toArray]
  simp [List.take_of_length_le]
 ·rw [List.length_append,List.length_cons,List.length_take,List.length_drop];lia
end
namespace Mi
noncomputable def jC:D->List D->Mem->QD->Prop:=fun x ds M Q => ∃ (a:Addr) (xs:List D) (i:Int) (y:D),x = .ref a/\ds=[.int i,y]/\M a=some (.lst xs)/\0<=i/\i.toNat<=xs.length/\xs.length < sizeLine/\Q .non (af M a (.lst (xs.take i.toNat++y::xs.drop i.toNat)))
theorem gN:cX jC:=fun _ _ _ _ _ h ⟨a,xs,k,y,e1,e2,j,n,z,B,q⟩=>⟨a,xs,k,y,e1,e2,j,n,z,B,h _ _ q⟩
theorem vS {K:Frag} (v:V) (vs:List V) (H:Hp) (Q:VK) (h:lMt K jC v vs H Q):p8 v vs H Q:=by
 obtain ⟨x,ds,M,rm,rx,rs,a,xs,i,y,rfl,rfl,e,j,z,n,q⟩:=h
 cases RD.ref_iff.mp rx
 obtain ⟨G,w,rfl,B,rw'⟩:=rs.two
 cases RD.int_iff.mp B
 obtain ⟨us,F,ru⟩:=rm _ _ e
 exact ⟨a,us,i,w,rfl,rfl,F,j,by rw [ru.length];exact z,by rw [ru.length];exact n,gf rm e ((ru.take i.toNat).append (RDs.cons rw' (ru.drop i.toNat))) (RD.non_iff.mpr rfl) q⟩
end Mi
end
end L2
namespace L2
namespace Mi
open PySem PySem.Spec PyProof.Rows
section
section
variable {X:Cx}
noncomputable def vT:R2d
 | .int i,y,M,Q => ∃ ns:List Int,au M y=some (ns.map .int)/\Q (.bl (decide (i∈ns))) M
 | _,_,_,_=>False
theorem vU:aD vT:=by
 intro x y M Q Q' h q
 cases x <;> first
  | exact q.elim
  | (obtain ⟨ns,e,q⟩:=q;exact ⟨ns,e,h _ _ q⟩)
theorem nj {i:Int}:∀ ns:List Int,inV (.int i) (ns.map V.int)=decide (i∈ns)
 | [] => by simp [inV]
 | n::ns=>by
   have ih:=nj (i:=i) ns
   unfold inV at ih ⊢
   rw [List.map_cons,List.any_cons,ih]
   show (n==i || decide (i∈ns))=_
   by_cases h:n=i
   ·subst h;simp
   ·rw [show (n==i)=false by simpa using h]
    simp only [Bool.false_or,List.mem_cons]
    exact decide_eq_decide.mpr ⟨.inr,fun z=>z.resolve_left fun w=>h w.symm⟩
theorem vW:OpR X (compareOp .In) (l2 X.K vT):=by
 refine OpR.of rH fun v u H Q h => ?_
 obtain ⟨x,y,M,rm,rx,ry,q⟩:=h
 cases x <;> first
  | exact q.elim
  | skip
 case int i =>
  obtain ⟨ns,e,q⟩:=q
  obtain ⟨p,vs,rfl,hs,r⟩:=lP rm ry e
  have rv:=r.ints_eq
  subst rv
  cases RD.int_iff.mp rx
  refine ⟨p,_,rfl,hs,rfl, ?_, ?_⟩
  ·simp [cS]
  ·rw [if_neg Bool.false_ne_true,nj]
   exact q _ H Ext.refl rm (RD.bl_iff.mpr rfl)
end
end
end Mi
end L2
namespace L2
namespace It
open PySem PySem.Spec PyProof.Rows
end It
open PySem PySem.Spec PyProof.Rows
namespace Mi
end Mi
end L2
namespace L2
open PySem PySem.Spec PyProof.Rows
namespace Mi
end Mi
end L2
namespace L2
namespace Mi
open PySem PySem.Spec PyProof.Rows
section
inductive BOp where | add | sub | mul | fdiv | mod | pow
inductive COp where | eq | ne | lt | gt | ge | neD | inS
inductive BF where | len | abs | min2 | int | list | tuple | all | dict | sortk
inductive MF where | append
inductive MF0 where | clear | reverse
mutual
inductive MG where
 | name (i:Nat)
 | tup (gs:MGs)
inductive MGs where
 | nil
 | cons (g:MG) (r:MGs)
end
mutual
inductive ME where
 | var (i:Nat)
 | int (i:Int)
 | bl (b:Bool)
 | non
 | bin (op:BOp) (a b:ME)
 | neg (a:ME)
 | cmp (op:COp) (a b:ME)
 | and (es:MEs)
 | or (es:MEs)
 | not (a:ME)
 | ite (c:MT) (a b:ME)
 | tup (es:MEs)
 | lst (es:MEs)
 | ix (a b:ME)
 | sl (a:ME) (lo hi:MO)
 | call (f:Nat) (es:MEs)
 | blt (f:BF) (es:MEs)
 | isin (a:ME) (T:String)
 | isin2 (a:ME) (T U:String)
 | dnew (t:Bool)
 | dget (o k x:ME)
 | meth (m:MF) (o a:ME)
 | meth0 (m:MF0) (o:ME)
 | ins (o i a:ME)
 | comp (fr:List (Option Nat)) (N:List Str) (c:MC)
inductive MEs where
 | nil
 | cons (e:ME) (r:MEs)
inductive MO where
 | none
 | some (e:ME)
inductive MT where
 | tru (e:ME)
 | cmp (op:COp) (a b:ME)
 | and (ts:MTs)
 | or (ts:MTs)
 | not (t:MT)
inductive MTs where
 | nil
 | cons (t:MT) (r:MTs)
inductive MI where
 | seq (e:ME)
 | rng1 (a:ME)
 | rng2 (a b:ME)
 | zip (a b:ME)
 | enum (a:ME)
 | keys (a:ME)
inductive MC where
 | last (src:MI) (g:MG) (ifs:MTs) (elt:ME)
 | more (src:MI) (g:MG) (ifs:MTs) (rest:MC)
end
mutual
inductive MS where
 | asg (g:MG) (e:ME)
 | par (i j:Nat) (a b:ME)
 | put (o i e:ME)
 | augI (o i:ME) (op:BOp) (e:ME)
 | drop (e:ME)
 | ret (e:ME)
 | ite (c:MT) (a b:MSs)
 | for (g:MG) (src:MI) (b:MSs)
 | while (c:MT) (b:MSs)
 | frz (i:Nat) (s:MS)
 | pass | brk | cnt
inductive MSs where
 | nil
 | cons (s:MS) (r:MSs)
end
noncomputable def opB:BOp->R2d
 | .add=>gT | .sub=>jq | .mul=>jr | .fdiv=>kP | .mod=>qf | .pow=>qg
noncomputable def opC:COp->R2d
 | .eq=>wEq | .ne=>wNe | .lt=>wLt| .gt=>wGt | .ge=>wGe| .neD=>vO | .inS=>vT
noncomputable def opF:BF->RAd
 | .len=>eO | .abs=>lK| .min2=>kQ | .int=>lL | .list=>ql | .tuple=>lQ| .all=>qt| .dict=>qC | .sortk=>ng
noncomputable def opM:MF->D->List D->Mem->QD->Prop
 | .append=>jw
noncomputable def qG:MF0->D->List D->Mem->QD->Prop
 | .clear=>md | .reverse=>gW
noncomputable def opI:BOp->R2d
 | .add=>kR | .sub=>kS | .mul=>kT | _=>fun _ _ _ _=>False
theorem nk:∀ o,aD (opB o)
 | .add=>uX | .sub=>uY | .mul=>uZ | .fdiv=>rY | .mod=>v6 | .pow=>v7
theorem eV:∀ o,aD (opC o)
 | .eq=>yc | .ne=>yd | .lt=>yg| .gt=>yh | .ge=>yi| .neD=>vP | .inS=>vU
theorem vX:∀ o,aV (opF o)
 | .len=>lJ | .abs=>lM| .min2=>ka | .int=>lN | .list=>kb | .tuple=>iD| .all=>mH| .dict=>kA | .sortk=>j3
theorem vY:∀ o,cX (opM o)
 | .append=>gK
theorem tE:∀ o,cX (qG o)
 | .clear=>iK | .reverse=>fD
theorem vZ:∀ o,aD (opI o)
 | .add=>kj | .sub=>kl | .mul=>km
 | .fdiv=>fun _ _ _ _ _ _ q=>q.elim | .mod=>fun _ _ _ _ _ _ q=>q.elim | .pow=>fun _ _ _ _ _ _ q=>q.elim
noncomputable abbrev Phi:=Nat->RAd
mutual
noncomputable def bG:MG->BT
 | .name i=>bn i
 | .tup gs=>jx (bGs gs)
noncomputable def bGs:MGs->BTs
 | .nil=>eQ
 | .cons g r=>bv (bG g) (bGs r)
end
mutual
noncomputable def wE (Φ:Phi):ME->TEd
 | .var i=>cm i
 | .int i=>wC (.int i)
 | .bl b=>wC (.bl b)
 | .non=>wC .non
 | .bin op a b=>wOp (opB op) (wE Φ a) (wE Φ b)
 | .neg a=>wUn qh (wE Φ a)
 | .cmp op a b=>wOp (opC op) (wE Φ a) (wE Φ b)
 | .and es=>wAnds Φ es
 | .or es=>wOrs Φ es
 | .not a=>iH (wE Φ a)
 | .ite c a b=>wIf (wT Φ c) (wE Φ a) (wE Φ b)
 | .tup es=>wAr lB (wA Φ es)
 | .lst es=>wAr lD (wA Φ es)
 | .ix a b=>wOp wIx (wE Φ a) (wE Φ b)
 | .sl a lo hi=>wSl (wE Φ a) (wO Φ lo) (wO Φ hi)
 | .call f es=>wAr (Φ f) (wA Φ es)
 | .blt f es=>wAr (opF f) (wA Φ es)
 | .isin a T=>iJ T (wE Φ a)
 | .isin2 a T U=>fM T U (wE Φ a)
 | .dnew t=>iS t
 | .dget o k x=>iX (wE Φ o) (wE Φ k) (wE Φ x)
 | .meth m o a=>wBM (opM m) (wE Φ o) (aI (wE Φ a) bm)
 | .meth0 m o=>wBM (qG m) (wE Φ o) bm
 | .ins o i a=>wBM jC (wE Φ o) (aI (wE Φ i) (aI (wE Φ a) bm))
 | .comp fr _ c=>wCmp Φ fr c
noncomputable def wA (Φ:Phi):MEs->TAd
 | .nil=>bm
 | .cons e r=>aI (wE Φ e) (wA Φ r)
noncomputable def wAnds (Φ:Phi):MEs->TEd
 | .nil=>fun _ _ _=>False
 | .cons e .nil=>wE Φ e
 | .cons e (.cons f r)=>iG (wE Φ e) (wAnds Φ (.cons f r))
noncomputable def wOrs (Φ:Phi):MEs->TEd
 | .nil=>fun _ _ _=>False
 | .cons e .nil=>wE Φ e
 | .cons e (.cons f r)=>lZ (wE Φ e) (wOrs Φ (.cons f r))
noncomputable def wO (Φ:Phi):MO->TOd
 | .none=>dZ
 | .some e=>iI (wE Φ e)
noncomputable def wT (Φ:Phi):MT->TTd
 | .tru e=>lV (wE Φ e)
 | .cmp op a b=>gR (wOp (opC op) (wE Φ a) (wE Φ b))
 | .and ts=>wAndTs Φ ts
 | .or ts=>wOrTs Φ ts
 | .not t=>iE (wT Φ t)
noncomputable def wAndTs (Φ:Phi):MTs->TTd
 | .nil=>fun _ _ _=>False
 | .cons e .nil=>wT Φ e
 | .cons e (.cons f r)=>iF (wT Φ e) (wAndTs Φ (.cons f r))
noncomputable def wOrTs (Φ:Phi):MTs->TTd
 | .nil=>fun _ _ _=>False
 | .cons e .nil=>wT Φ e
 | .cons e (.cons f r)=>lW (wT Φ e) (wOrTs Φ (.cons f r))
noncomputable def wTl (Φ:Phi):MTs->List TTd
 | .nil => []
 | .cons t r=>wT Φ t::wTl Φ r
noncomputable def wI (Φ:Phi):MI->TId
 | .seq e=>mf (wE Φ e)
 | .rng1 a=>iL (aI (wE Φ a) bm)
 | .rng2 a b=>iM (aI (wE Φ a) (aI (wE Φ b) bm))
 | .zip a b=>mj (wE Φ a) (wE Φ b)
 | .enum a=>iN (wE Φ a)
 | .keys a=>j4 (wE Φ a)
noncomputable def wCl (Φ:Phi):MC->TCd
 | .last src g ifs elt=>df (wI Φ src) (bG g) (bg (wTl Φ ifs) (cn (wE Φ elt)))
 | .more src g ifs rest=>df (wI Φ src) (bG g) (bg (wTl Φ ifs) (wCl Φ rest))
noncomputable def wCmp (Φ:Phi) (fr:List (Option Nat)):MC->TEd
 | .last src g ifs elt=>gj fr (wI Φ src) (bG g) (bg (wTl Φ ifs) (cn (wE Φ elt)))
 | .more src g ifs rest=>gj fr (wI Φ src) (bG g) (bg (wTl Φ ifs) (wCl Φ rest))
end
mutual
noncomputable def wS (Φ:Phi):MS->TSd
 | .asg g e=>gX (wE Φ e) (bG g)
 | .par i j a b=>mw (aI (wE Φ a) (aI (wE Φ b) bm)) (bv (bn i) (bv (bn j) eQ))
 | .put o i e=>mC (wE Φ e) (wE Φ o) (wE Φ i)
 | .augI o i op e=>iR (wE Φ o) (wE Φ i) (wE Φ e) (opI op)
 | .drop e=>iQ (wE Φ e)
 | .ret e=>mv (wE Φ e)
 | .ite c a b=>sIf (wT Φ c) (wSs Φ a) (wSs Φ b)
 | .for g src b=>mz (wI Φ src) (bG g) (wSs Φ b)
 | .while c b=>fI (wT Φ c) (wSs Φ b)
 | .frz i s=>qF i (wS Φ s)
 | .pass=>gk
 | .brk=>fH
 | .cnt=>iP
noncomputable def wSs (Φ:Phi):MSs->TSd
 | .nil=>gk
 | .cons s r=>mq (wS Φ s) (wSs Φ r)
end
section
variable {Φ:Phi} (hΦ:∀ f,aV (Φ f))
include hΦ
mutual
theorem mE:∀ m,ab (wE Φ m)
 | .var _=>uU
 | .int _=>lw
 | .bl _=>lw
 | .non=>lw
 | .bin op a b=>dY (nk op) (mE a) (mE b)
 | .neg a=>y9 lH (mE a)
 | .cmp op a b=>dY (eV op) (mE a) (mE b)
 | .and es=>mAnds es
 | .or es=>mOrs es
 | .not a=>sg (mE a)
 | .ite c a b=>yp (mT c) (mE a) (mE b)
 | .tup es=>gc rV (mA es)
 | .lst es=>gc rW (mA es)
 | .ix a b=>dY oH (mE a) (mE b)
 | .sl a lo hi=>yt (mE a) (mO lo) (mO hi)
 | .call f es=>gc (hΦ f) (mA es)
 | .blt f es=>gc (vX f) (mA es)
 | .isin a T=>sk (mE a)
 | .isin2 a T U=>qE (mE a)
 | .dnew _=>sR
 | .dget o k x=>tj (mE o) (mE k) (mE x)
 | .meth m o a=>jv (vY m) (mE o) (ak (mE a) ao)
 | .meth0 m o=>jv (tE m) (mE o) ao
 | .ins o i a=>jv gN (mE o) (ak (mE i) (ak (mE a) ao))
 | .comp fr _ c=>mCmp fr c
theorem mA:∀ m,aY (wA Φ m)
 | .nil=>ao
 | .cons e r=>ak (mE e) (mA r)
theorem mAnds:∀ m,ab (wAnds Φ m)
 | .nil=>fun _ _ _ _ _ q=>q.elim
 | .cons e .nil=>mE e
 | .cons e (.cons f r)=>sf (mE e) (mAnds (.cons f r))
theorem mOrs:∀ m,ab (wOrs Φ m)
 | .nil=>fun _ _ _ _ _ q=>q.elim
 | .cons e .nil=>mE e
 | .cons e (.cons f r)=>vm (mE e) (mOrs (.cons f r))
theorem mO:∀ m,eP (wO Φ m)
 | .none=>og
 | .some e=>sj (mE e)
theorem mT:∀ m,aB (wT Φ m)
 | .tru e=>vh (mE e)
 | .cmp op a b=>uV (dY (eV op) (mE a) (mE b))
 | .and ts=>mAndTs ts
 | .or ts=>mOrTs ts
 | .not t=>sd (mT t)
theorem mAndTs:∀ m,aB (wAndTs Φ m)
 | .nil=>fun _ _ _ _ _ q=>q.elim
 | .cons e .nil=>mT e
 | .cons e (.cons f r)=>se (mT e) (mAndTs (.cons f r))
theorem mOrTs:∀ m,aB (wOrTs Φ m)
 | .nil=>fun _ _ _ _ _ q=>q.elim
 | .cons e .nil=>mT e
 | .cons e (.cons f r)=>vj (mT e) (mOrTs (.cons f r))
theorem mTl:∀ m, ∀ t∈wTl Φ m,aB t
 | .nil=>by rw [wTl];intro t j;simp at j
 | .cons t r=>by
  rw [wTl];intro t' j
  rcases List.mem_cons.mp j with e | e
  ·rw [e];exact mT t
  ·exact mTl r t' e
theorem mI:∀ m,bP (wI Φ m)
 | .seq e=>vt (mE e)
 | .rng1 a=>sv (ak (mE a) ao)
 | .rng2 a b=>sx (ak (mE a) (ak (mE b) ao))
 | .zip a b=>vw (mE a) (mE b)
 | .enum a=>sy (mE a)
 | .keys a=>tz (mE a)
theorem mCl:∀ m,bQ (wCl Φ m)
 | .last src g ifs elt=>gL (mI src) (aM (bq (mE elt)) (mTl ifs))
 | .more src g ifs rest=>gL (mI src) (aM (mCl rest) (mTl ifs))
theorem mCmp (fr:List (Option Nat)):∀ m,ab (wCmp Φ fr m)
 | .last src g ifs elt=>kc (mI src) (aM (bq (mE elt)) (mTl ifs))
 | .more src g ifs rest=>kc (mI src) (aM (mCl rest) (mTl ifs))
end
mutual
theorem mS:∀ m,aC (wS Φ m)
 | .asg g e=>vz (mE hΦ e)
 | .par i j a b=>vA (ak (mE hΦ a) (ak (mE hΦ b) ao))
 | .put o i e=>vG (mE hΦ e) (mE hΦ o) (mE hΦ i)
 | .augI o i op e=>sQ (mE hΦ o) (mE hΦ i) (mE hΦ e) (vZ op)
 | .drop e=>sD (mE hΦ e)
 | .ret e=>vx (mE hΦ e)
 | .ite c a b=>vy (mT hΦ c) (mSs a) (mSs b)
 | .for g src b=>vB (mI hΦ src) (mSs b)
 | .while c b=>qp (mT hΦ c) (mSs b)
 | .frz i s=>vN (mS s)
 | .pass=>kf
 | .brk=>qo
 | .cnt=>sB
theorem mSs:∀ m,aC (wSs Φ m)
 | .nil=>kf
 | .cons s r=>sC (mS s) (mSs r)
end
end
end
section
structure Ctx where
 Γ:List Str
 N:List Str
 sc:Scope
 fn:List Str
 cs:List (Str×Int)
noncomputable def glB (sc:Scope) (x:Str):Bool:=sc.names.lookup x==some .globalImplicit
noncomputable def w4 (sc:Scope) (x:Str):Bool:=sc.names.lookup x==some .local || sc.names.lookup x==some .cell || sc.names.lookup x==some .free
noncomputable def w5 (sc:Scope) (x:Str):Bool:=sc.names.lookup x==some .local || sc.names.lookup x==some .cell
noncomputable def aG:Expr->Bool
 | .Starred .. => false
 | _=>true
noncomputable def no:Expr->Bool
 | .Name .. | .Call .. | .Subscript .. | .Constant .. | .BinOp .. | .Attribute .. => true
 | _=>false
noncomputable def cz:Expr->Bool
 | .Slice .. => false
 | _=>true
noncomputable def fN:Expr->Bool
 | .ListComp .. | .SetComp .. | .DictComp .. => false
 | _=>true
noncomputable def j5:Expr->Bool
 | .Set .. => false
 | _=>true
noncomputable def dh:Expr->Bool
 | .Call .. => false
 | _=>true
noncomputable def opO:BOp->Operator
 | .add => .Add | .sub => .Sub | .mul => .Mult | .fdiv => .FloorDiv | .mod => .Mod | .pow => .Pow
noncomputable def w6:COp->CmpOp
 | .eq => .Eq | .ne => .NotEq | .lt => .Lt| .gt => .Gt | .ge => .GtE| .neD => .NotEq | .inS => .In
noncomputable def nr:BF->Str
 | .len => "len" | .abs => "abs"| .min2 => "min" | .int => "int" | .list => "list" | .tuple => "tuple"| .all => "all"| .dict => "dict" | .sortk => "sorted"
noncomputable def AQ:MF->Str
 | .append => "append"
noncomputable def yV:MF0->Str
 | .clear => "clear" | .reverse => "reverse"
noncomputable def bltNames:List Str := ["len", "abs", "max", "min", "int", "list", "tuple", "sum", "isinstance", "range", "bool", "str", "dict", "zip", "enumerate", "reversed", "sorted", "all", "any", "set"]
noncomputable def hZ (sc osc:Scope):Scope :=
 { sc with names:=sc.names.map fun (n,k)=>if (k == .free&&osc.kind == .function&&osc.names.lookup n==some .cell) then (n, .cell) else (n,k) }
theorem ou (sc:Scope) (env:Env):relabel sc env=hZ sc env.scope:=rfl
noncomputable def w8 (sc osc:Scope) (oN N':List Str) (fr:List (Option Nat)):Bool :=
 decide (sc.kind = .function)&&decide ((sc.names.map (·.1)).Nodup)&&decide (N'.Nodup)
  && sc.names.all (fun x => !(x.2 == .free) || osc.names.lookup x.1==some .cell || osc.names.lookup x.1==some .free)
  && decide (fr.length=N'.length)
  && (List.range N'.length).all fun i=>match fr[i]?,N'[i]? with
   | some (some j),some x=>decide (oN[j]? = some x)&&sc.names.any (fun y=>decide (y=(x,NameKind.free)))
   | _,_=>true
mutual
noncomputable def okG:MG->Ctx->Expr->Bool
 | .name i,C,e=>match e with
  | .Name x _=>decide (C.N[i]? = some x)&&w5 C.sc x&&(C.sc.names.lookup x==some .local || C.fn.contains x)
  | _=>false
 | .tup gs,C,e=>match e with
  | .Tuple es _ _=>okGs gs C es
  | _=>false
noncomputable def okGs:MGs->Ctx->List Expr->Bool
 | .nil,_,es=>es.isEmpty
 | .cons g r,C,es=>match es with
  | e::es=>aG e&&okG g C e&&okGs r C es
  | [] => false
end
noncomputable def eW:Expr->Option Str
 | .Name x _=>some x
 | _=>none
noncomputable def dN:Expr->Option (List Expr)
 | .Tuple ts _ _=>some ts
 | _=>none
noncomputable def xt:Stmt->Option (List Expr×Expr)
 | .Assign ts e _=>some (ts,e)
 | _=>none
theorem di {e:Expr} {x:Str} (h:eW e=some x):∃ p,e = .Name x p:=by
 cases e <;> first
  | (cases h;exact ⟨_,rfl⟩)
  | cases h
theorem dC {e:Expr} {ts:List Expr} (h:dN e=some ts):∃ k p,e = .Tuple ts k p:=by
 cases e <;> first
  | (cases h;exact ⟨_,_,rfl⟩)
  | cases h
theorem w9 {s:Stmt} {ts:List Expr} {e:Expr} (h:xt s=some (ts,e)):∃ p,s = .Assign ts e p:=by
 cases s <;> first
  | (cases h;exact ⟨_,rfl⟩)
  | cases h
noncomputable def cOf:Expr->Option (Expr×List Expr×List Keyword×Pos)
 | .Call f xs ks p=>some (f,xs,ks,p)
 | _=>none
noncomputable def kU:Expr->Option (Expr×Str×Pos)
 | .Attribute o n p=>some (o,n,p)
 | _=>none
noncomputable def kW:Expr->Option (Expr×Expr)
 | .Subscript x y _=>some (x,y)
 | _=>none
noncomputable def qH:Expr->Option (Option Expr×Option Expr×Option Expr)
 | .Slice l u s _=>some (l,u,s)
 | _=>none
noncomputable def j6:Expr->Option (Expr×List CmpOp×List Expr)
 | .Compare l os rs _=>some (l,os,rs)
 | _=>none
noncomputable def AR:Expr->Option (Expr×Expr×Comprehension×Scope)
 | .DictComp k v [g] sc _=>some (k,v,g,sc)
 | _=>none
theorem tF {e f:Expr} {xs:List Expr} {ks:List Keyword} {p:Pos} (h:cOf e=some (f,xs,ks,p)):e = .Call f xs ks p:=by
 cases e <;> first
  | (cases h;rfl)
  | cases h
theorem wa {e o:Expr} {n:Str} {p:Pos} (h:kU e=some (o,n,p)):e = .Attribute o n p:=by
 cases e <;> first
  | (cases h;rfl)
  | cases h
theorem wb {e x y:Expr} (h:kW e=some (x,y)):∃ p,e = .Subscript x y p:=by
 cases e <;> first
  | (cases h;exact ⟨_,rfl⟩)
  | cases h
theorem yW {e:Expr} {l u s:Option Expr} (h:qH e=some (l,u,s)):∃ p,e = .Slice l u s p:=by
 cases e <;> first
  | (cases h;exact ⟨_,rfl⟩)
  | cases h
theorem nv {e l:Expr} {os:List CmpOp} {rs:List Expr} (h:j6 e=some (l,os,rs)):∃ p,e = .Compare l os rs p:=by
 cases e <;> first
  | (cases h;exact ⟨_,rfl⟩)
  | cases h
noncomputable def bE (e:Expr):Option (Str×List Expr):=match cOf e with
 | some (f,xs,[],_)=>match eW f with
   | some x=>some (x,xs)
   | none=>none
 | _=>none
noncomputable def cJ (e:Expr):Option (Expr×Str×List Expr×Pos×Pos):=match cOf e with
 | some (f,xs,[],p)=>match kU f with
   | some (o,n,q)=>some (o,n,xs,q,p)
   | none=>none
 | _=>none
noncomputable def et (e:Expr):Option (Expr×Option Expr×Option Expr×Option Expr):=match kW e with
 | some (x,y)=>match qH y with
   | some (l,u,s)=>some (x,l,u,s)
   | none=>none
 | none=>none
theorem br {e:Expr} {x:Str} {xs:List Expr} (h:bE e=some (x,xs)):∃ p pos,e = .Call (.Name x p) xs [] pos:=by
 unfold bE at h
 split at h
 ·next f ys q h1 =>
  split at h
  ·next y h2 =>
   cases h
   obtain ⟨p,rfl⟩:=di h2
   exact ⟨p,q,tF h1⟩
  ·cases h
 ·cases h
theorem dO {e o:Expr} {n:Str} {xs:List Expr} {q p:Pos} (h:cJ e=some (o,n,xs,q,p)):e = .Call (.Attribute o n q) xs [] p:=by
 unfold cJ at h
 split at h
 ·next f ys p' h1 =>
  split at h
  ·next o' n' q' h2 =>
   cases h
   rw [tF h1,wa h2]
  ·cases h
 ·cases h
theorem qI {e x:Expr} {l u s:Option Expr} (h:et e=some (x,l,u,s)):∃ p pos,e = .Subscript x (.Slice l u s p) pos:=by
 unfold et at h
 split at h
 ·next x' y h1 =>
  split at h
  ·next l' u' s' h2 =>
   cases h
   obtain ⟨pos,rfl⟩:=wb h1
   obtain ⟨p,rfl⟩:=yW h2
   exact ⟨p,pos,rfl⟩
  ·cases h
 ·cases h
mutual
noncomputable def okE:ME->Ctx->Expr->Bool
 | .var i,C,e=>match e with
  | .Name x _=>decide (C.N[i]? = some x)&&w4 C.sc x && !(x==("__debug__":Str)) && !(x==("__classdict__":Str))
  | _=>false
 | .int i,_,e=>match e with
  | .Constant (.int j) _ _=>decide (i=j)
  | _=>false
 | .bl i,_,e=>match e with
  | .Constant (.bool j) _ _=>i==j
  | _=>false
 | .non,_,e=>match e with
  | .Constant .none _ _=>true
  | _=>false
 | .bin op a b,C,e=>match e with
  | .BinOp l o r _=>decide (o=opO op)&&okE a C l&&okE b C r
  | _=>false
 | .neg a,C,e=>match e with
  | .UnaryOp .USub x _=>okE a C x
  | _=>false
 | .cmp op a b,C,e=>match j6 e with
  | some (l,[o],[r])=>decide (o=w6 op)&&okE a C l&&okE b C r && !(behindInMarks o r)
  | _=>false
 | .and es,C,e=>match e with
  | .BoolOp .And xs _ => !xs.isEmpty&&okEs es C xs
  | _=>false
 | .or es,C,e=>match e with
  | .BoolOp .Or xs _ => !xs.isEmpty&&okEs es C xs
  | _=>false
 | .not a,C,e=>match e with
  | .UnaryOp .Not x _=>okE a C x
  | _=>false
 | .ite c a b,C,e=>match e with
  | .IfExp t x y _=>okT c C t&&okE a C x&&okE b C y
  | _=>false
 | .tup es,C,e=>match e with
  | .Tuple xs _ _=>okEs es C xs
  | _=>false
 | .lst es,C,e=>match e with
  | .List xs _=>okEs es C xs
  | _=>false
 | .ix a b,C,e=>match e with
  | .Subscript x y _=>cz y&&okE a C x&&okE b C y
  | _=>false
 | .sl a lo hi,C,e=>match et e with
  | some (x,l,u,none)=>okE a C x&&okO lo C l&&okO hi C u
  | _=>false
 | .call f es,C,e=>match bE e with
  | some (x,xs)=>decide (C.Γ[f]? = some x)&&glB C.sc x && !(x==("__debug__":Str))&&okEs es C xs
  | _=>false
 | .blt f es,C,e=>match bE e with
  | some (x,xs)=>decide (x=nr f)&&glB C.sc x && !xs.isEmpty&&okEs es C xs
  | _=>false
 | .isin2 a T U,C,e=>match bE e with
  | some (x,[y,w])=>match dN w with
    | some [z',v'] => match eW z' with
      | some z=>match eW v' with
        | some v=>decide (x = "isinstance")&&glB C.sc x&&glB C.sc z&&glB C.sc v&&decide (z=Str.ofString T)&&decide (v=Str.ofString U)&&decide (T∈["bool", "int", "str", "tuple", "list", "dict"])&&decide (U∈["bool", "int", "str", "tuple", "list", "dict"])&&aG y&&okE a C y
        | none=>false
      | none=>false
    | _=>false
  | _=>false
 | .isin a T,C,e=>match bE e with
  | some (x,[y,z'])=>match eW z' with
    | some z=>decide (x = "isinstance")&&glB C.sc x&&glB C.sc z&&decide (z=Str.ofString T)&&decide (T∈["bool", "int", "str", "tuple", "list", "dict"])&&aG y&&okE a C y
    | none=>false
  | _=>false
 | .dnew _,_,e=>match e with
  | .Dict [] [] _=>true
  | _=>false
 | .dget o k x,C,e=>match cJ e with
  | some (y,n,[e1,e2],ap,cp)=>decide (n = "get")&&dh y&&(ap.endLine==cp.line)&&aG e1&&aG e2&&okE o C y&&okE k C e1&&okE x C e2
  | _=>false
 | .meth m o a,C,e=>match cJ e with
  | some (x,n,[y],ap,cp)=>decide (n=AQ m)&&dh x&&(ap.endLine==cp.line)&&aG y&&okE o C x&&okE a C y
  | _=>false
 | .ins o i a,C,e=>match cJ e with
  | some (x,n,[y,z],ap,cp)=>decide (n = "insert")&&dh x&&(ap.endLine==cp.line)&&aG y&&aG z&&okE o C x&&okE i C y&&okE a C z
  | _=>false
 | .meth0 m o,C,e=>match cJ e with
  | some (x,n,[],ap,cp)=>decide (n=yV m)&&dh x&&(ap.endLine==cp.line)&&okE o C x
  | _=>false
 | .comp fr N' c,C,e=>match e with
  | .ListComp elt gens sc _=>w8 sc C.sc C.N N' fr&&okC c C ⟨C.Γ,N',hZ sc C.sc,(sc.names.filter (·.2 == .cell)).map (·.1),C.cs⟩ gens elt
  | _=>false
noncomputable def okEs:MEs->Ctx->List Expr->Bool
 | .nil,_,es=>es.isEmpty
 | .cons m r,C,es=>match es with
  | e::es=>aG e&&okE m C e&&okEs r C es
  | [] => false
noncomputable def okO:MO->Ctx->Option Expr->Bool
 | .none,_,e=>e.isNone
 | .some m,C,e=>match e with
  | some e=>okE m C e
  | none=>false
noncomputable def okT:MT->Ctx->Expr->Bool
 | .tru m,C,e=>no e&&okE m C e
 | .cmp op a b,C,e=>match j6 e with
  | some (l,[o],[r])=>decide (o=w6 op)&&okE a C l&&okE b C r && !(behindInMarks o r)
  | _=>false
 | .and ts,C,e=>match e with
  | .BoolOp .And xs _ => !xs.isEmpty&&okTs ts C xs
  | _=>false
 | .or ts,C,e=>match e with
  | .BoolOp .Or xs _ => !xs.isEmpty&&okTs ts C xs
  | _=>false
 | .not t,C,e=>match e with
  | .UnaryOp .Not x _=>okT t C x
  | _=>false
noncomputable def okTs:MTs->Ctx->List Expr->Bool
 | .nil,_,es=>es.isEmpty
 | .cons m r,C,es=>match es with
  | e::es=>okT m C e&&okTs r C es
  | [] => false
noncomputable def okI:MI->Ctx->Expr->Expr->Bool
 | .seq m,C,_,e=>j5 e&&okE m C e
 | .keys m,C,_,e=>j5 e&&okE m C e
 | .rng1 a,C,_,e=>match bE e with
  | some (x,[y])=>decide (x = "range")&&glB C.sc x&&aG y&&okE a C y
  | _=>false
 | .rng2 a b,C,_,e=>match bE e with
  | some (x,[y,z])=>decide (x = "range")&&glB C.sc x&&aG y&&aG z&&okE a C y&&okE b C z
  | _=>false
 | .enum a,C,t,e=>match bE e with
  | some (x,[y])=>(dN t).isSome&&decide (x = "enumerate")&&glB C.sc x&&aG y&&okE a C y
  | _=>false
 | .zip a b,C,t,e=>match bE e with
  | some (x,[y,z])=>(dN t).isSome&&decide (x = "zip")&&glB C.sc x&&aG y&&aG z&&okE a C y&&okE b C z
  | _=>false
noncomputable def okC:MC->Ctx->Ctx->List Comprehension->Expr->Bool
 | .last src g ifs m,Cs,C,gens,elt=>match gens with
  | [⟨t,it,fs,a⟩] => decide (a=0)&&okI src Cs t it&&okG g C t&&okTs ifs C fs&&okE m C elt
  | _=>false
 | .more src g ifs rest,Cs,C,gens,elt=>match gens with
  | ⟨t,it,fs,a⟩::g2::gs=>decide (a=0)&&okI src Cs t it&&okG g C t&&okTs ifs C fs&&okC rest C C (g2::gs) elt
  | _=>false
end
noncomputable def aZ (sc:Scope) (ts:List Expr):List Str:=ts.filterMap fun
 | .Name id pos=>if sc.names.lookup id==some .local&&pos.line==(ts.head?.map (·.pos.line)).getD 0 then some id else none
 | _=>none
noncomputable def qJ (sc:Scope) (ts vs:List Expr):Bool := !(ts.length==2 || ts.length==3) || vs.length != ts.length || (aZ sc ts).length != ts.length || (aZ sc ts).eraseDups.length != (aZ sc ts).length || vs.all (foldedForSure 8)
noncomputable def qK (C:Ctx) (i:Nat) (x:Str):Bool:=decide (C.N[i]? = some x)&&decide (C.sc.names.lookup x=some .local)
noncomputable def qL (sc:Scope) (ts vs:List Expr) (ns:List Str):Bool := !(!(ts.length==2 || ts.length==3) || vs.length != ts.length) && !(vs.any fun | .Starred .. => true | _=>false)&&decide (aZ sc ts=ns) && !((aZ sc ts).length != ts.length || (aZ sc ts).eraseDups.length != (aZ sc ts).length) && !(vs.all (foldedForSure 8)) && !(vs.all (constantsAlone 8))
noncomputable def j7 (sc:Scope) (tg e:Expr):Bool:=match tg,e with
 | .Tuple ts _ _, .Tuple vs _ _=>qJ sc ts vs
 | .Tuple ..,_=>true
 | .Name ..,_=>true
 | _,_=>false
noncomputable def AS (sc:Scope) (x:Str) (px:Pos) (e:Expr):Bool:=match e with
 | .DictComp _ _ _ s _ => !(sc.names.lookup x==some .local&&px.line==e.pos.line && !(s.names.any fun (n,k)=>n==x&&(k == .local || k == .cell)))
 | _=>true
noncomputable def qM (sc:Scope) (x:Str) (px:Pos) (e:Expr):Bool:=match e with
 | .ListComp _ _ s _=>sc.names.lookup x==some .local&&px.line==e.pos.line && !(s.names.any fun (n,k)=>n==x&&(k == .local || k == .cell))
 | _=>false
noncomputable def qN (s:Stmt):Option (List Expr×List Expr):=match xt s with
 | some ([t],e)=>match dN t with
   | some ts=>match dN e with
     | some es=>some (ts,es)
     | none=>none
   | none=>none
 | _=>none
theorem wc {s:Stmt} {ts es:List Expr} (h:qN s=some (ts,es)):∃ k p k' p' pos,s = .Assign [.Tuple ts k p] (.Tuple es k' p') pos:=by
 unfold qN at h
 split at h
 ·next t e h1 =>
  split at h
  ·next ts' h2 =>
   split at h
   ·next es' j =>
    cases h
    obtain ⟨k,p,rfl⟩:=dC h2
    obtain ⟨k',p',rfl⟩:=dC j
    obtain ⟨pos,rfl⟩:=w9 h1
    exact ⟨k,p,k',p',pos,rfl⟩
   ·cases h
  ·cases h
 ·cases h
mutual
noncomputable def okS:MS->Ctx->Stmt->Bool
 | .asg g m,C,s=>match s with
  | .Assign [tg] e _=>okG g C tg&&okE m C e&&j7 C.sc tg e&&(match tg with | .Name x px=>AS C.sc x px e | _=>fN e)
  | _=>false
 | .par i j a b,C,s=>match qN s with
  | some ([t,u],[e,f])=>match eW t with
    | some x=>match eW u with
      | some y=>qK C i x&&qK C j y&&decide (i≠j)&&aG e&&aG f&&okE a C e&&okE b C f&&qL C.sc [t,u] [e,f] [x,y]
      | none=>false
    | none=>false
  | _=>false
 | .put o i m,C,s=>match s with
  | .Assign [.Subscript x y _] e _=>cz y&&fN e&&okE o C x&&okE i C y&&okE m C e
  | _=>false
 | .augI o i op m,C,s=>match s with
  | .AugAssign (.Subscript x y _) o' e _=>decide (o'=opO op)&&(match op with | .add | .sub | .mul=>true | _=>false)&&cz y&&okE o C x&&okE i C y&&okE m C e
  | _=>false
 | .drop m,C,s=>match s with
  | .Expr e _=>fN e&&okE m C e
  | _=>false
 | .ret m,C,s=>match s with
  | .Return (some e) _=>okE m C e
  | _=>false
 | .ite c a b,C,s=>match s with
  | .If t x y _=>okT c C t&&okSs a C x&&okSs b C y
  | _=>false
 | .for g src b,C,s=>match s with
  | .For tg it body [] _=>j5 it&&okG g C tg&&okI src C tg it&&okSs b C body
  | _=>false
 | .while c b,C,s=>match s with
  | .While t body [] _=>okT c C t&&okSs b C body
  | _=>false
 | .frz _ m,C,s=>okS m C s
 | .pass,_,s=>match s with
  | .Pass _=>true
  | _=>false
 | .brk,_,s=>match s with
  | .Break _=>true
  | _=>false
 | .cnt,_,s=>match s with
  | .Continue _=>true
  | _=>false
noncomputable def okSs:MSs->Ctx->List Stmt->Bool
 | .nil,_,ss=>ss.isEmpty
 | .cons m r,C,ss=>match ss with
  | s::ss=>okS m C s&&okSs r C ss
  | [] => false
end
theorem ag {e:Expr} {es:List Expr} {env:Env} (h:aG e=true):starEach (e::es) env=(false,eval e env)::starEach es env:=by
 cases e <;> first | rfl | (simp [aG] at h;done)
theorem kC {e:Expr} {es:List Expr} {env:Env} (h:aG e=true):assignEach (e::es) env=(false,assign e env)::assignEach es env:=by
 cases e <;> first | rfl | (simp [aG] at h;done)
theorem qO {e:Expr} {env:Env} (h:no e=true):∀ whole,isTrue e env whole=(do let v <- whole;standAt e.pos;holding [v] (truthy v)):=by
 intro w
 cases e <;> first | rfl | (simp [no] at h;done)
theorem we {e:Expr} (h:cz e=true):ji e:=by
 intro o i
 cases e <;> first | rfl | (simp [cz] at h;done)
theorem ny {e:Expr} {env:Env} (h:j5 e=true):∀ x,foldedSetIterable e env x=pure x:=by
 intro x
 cases e <;> first | rfl | (simp [j5] at h;done)
theorem dD {e:Expr} {n:Str} {env:Env} (h:dh e=true):attributeBase e n env (eval e env)=eval e env:=by
 cases e <;> first | rfl | (simp [dh] at h;done)
theorem jD {e:Expr} {t:Option Expr} {l:Nat} {env:Env} (h:fN e=true):swapsWith e t l env=pure false:=by
 cases e <;> first | rfl | (simp [fN] at h;done)
end
section
noncomputable def lSp (K:Frag) (r:RAd):Sp:=fun vs H Q _=>lR K r vs H Q
structure Good (C:Ctx) (Φ:Phi) (k:Nat) (X:Cx):Prop where
 hx:∀ e s,X.xe e s->False
 calm:X.calm=true
 N:X.N=C.N
 sc:X.env.scope=C.sc
 nd:X.N.Nodup
 fn:∀ x∈C.fn,X.fn x=true
 room:Room k X.A
 mgB:∀ x∈bltNames,X.mg x=none
 fns:∀ (i:Nat) (x:Str),C.Γ[i]? = some x -> ∃ f fd ps,X.mg x=some (.ref f)/\PySem.W.keepIn X.K (.ref f)=true/\Binds X.K fd ps []/\dv X.prog X.w X.K X.mg X.base CX0 k f fd ps (lSp X.K (Φ i))
 mono:∀ f,aV (Φ f)
 cs:∀ x i,(x,i)∈C.cs -> ∃ t,X.mg x=some (.int i t)
section
variable {C:Ctx} {Φ:Phi} {k:Nat} {X:Cx}
theorem Good.units (G:Good C Φ k X):X.A.units+64 < cLine:=G.room.units
theorem Good.gl (G:Good C Φ k X) {x:Str} (h:glB C.sc x=true):Gl X x:=by
 show X.env.scope.names.lookup x=_
 rw [G.sc]
 simpa [glB] using h
theorem Good.vis (G:Good C Φ k X) {x:Str} (h:w4 C.sc x=true):Vis X.env.scope x:=by
 unfold Vis
 rw [G.sc]
 simp [w4] at h
 rcases h with (h | h) | h
 ·exact .inl h
 ·exact .inr (.inl h)
 ·exact .inr (.inr h)
theorem Good.loc (G:Good C Φ k X) {x:Str} (h:w5 C.sc x=true):Loc X.env.scope x:=by
 unfold Loc
 rw [G.sc]
 simpa [w5] using h
theorem Good.own (G:Good C Φ k X) {x:Str} (h:(C.sc.names.lookup x==some .local || C.fn.contains x)=true):X.fn x=true∨X.env.scope.names.lookup x=some .local:=by
 rw [G.sc]
 simp at h
 rcases h with h | h
 ·exact .inr h
 ·exact .inl (G.fn x h)
theorem AT (G:Good C Φ k X):∀ o:BOp,OpR X (binaryOp (opO o)) (l2 X.K (opB o))
 | .add=>v8 | .sub=>v9 | .mul=>va | .fdiv=>rZ | .mod=>vd | .pow=>ve
theorem pc (G:Good C Φ k X):∀ o:COp,OpR X (compareOp (w6 o)) (l2 X.K (opC o))
 | .eq=>ye (by have:=G.units;lia) | .ne=>yf (by have:=G.units;lia) | .lt=>yj| .gt=>yk | .ge=>ym| .neD=>vR (by have:=G.units;lia) | .inS=>vW
theorem AU (G:Good C Φ k X) {f:BF} {e:Expr} {es:List Expr} {t:TAd} {p pos:Pos} (mt:aY t) (n:Gl X (nr f)) (q:PA X (e::es) (lA X.K t))
 (he:starEach (e::es) X.env=(false,eval e X.env)::starEach es X.env) (j:(backTo pos (starEach es X.env)).any (·.1)=false):PE X (.Call (.Name (nr f) p) (e::es) [] pos) (lE X.K (wAr (opF f) t)):=by
 cases f with
 | len=>exact PE.imp (ca qi n (G.mgB _ (by decide)) PySem.boot_len q (by decide) (by decide) he j) (bF lJ mt)
 | abs=>exact PE.imp (ca qj n (G.mgB _ (by decide)) (by decide +kernel) q (by decide) (by decide) he j) (bF lM mt)
 | min2=>exact PE.imp (ca (nY G.calm) n (G.mgB _ (by decide)) (by decide +kernel) q (by decide) (by decide) he j) (bF ka mt)
 | int=>exact PE.imp (dH qk n (G.mgB _ (by decide)) (by decide +kernel) q (by decide) (by decide) he j) (bF lN mt)
 | list=>exact PE.imp (dH nZ n (G.mgB _ (by decide)) (by decide +kernel) q (by decide) (by decide) he j) (bF kb mt)
 | tuple=>exact PE.imp (dH lU n (G.mgB _ (by decide)) (by decide +kernel) q (by decide) (by decide) he j) (bF iD mt)
 | all=>exact PE.imp (ca (qu G.calm) n (G.mgB _ (by decide)) (by decide +kernel) q (by decide) (by decide) he j) (bF mH mt)
 | dict=>exact PE.imp (dH (ot (by have:=G.units;lia) G.calm) n (G.mgB _ (by decide)) (by decide +kernel) q (by decide) (by decide) he j) (bF kA mt)
 | sortk=>exact PE.imp (ca (nh (by have:=G.units;lia) G.calm) n (G.mgB _ (by decide)) (by decide +kernel) q (by decide) (by decide) he j) (bF j3 mt)
theorem yX (G:Good C Φ k X) {f:Nat} {x:Str} {e:Expr} {es:List Expr} {t:TAd} {p pos:Pos} (mt:aY t) (hf:C.Γ[f]? = some x) (q:Gl X x) (j:(x==("__debug__":Str))=false) (z:PA X (e::es) (lA X.K t))
 (he:starEach (e::es) X.env=(false,eval e X.env)::starEach es X.env) (n:(backTo pos (starEach es X.env)).any (·.1)=false):PE X (.Call (.Name x p) (e::es) [] pos) (lE X.K (wAr (Φ f) t)):=by
 obtain ⟨a,fd,ps,hm,B,I,F⟩:=G.fns f x hf
 refine PE.imp (xW F G.room q hm B I .nil wX z j he n) fun σ H Q h => ?_
 have h2:=bF (G.mono f) mt σ H Q h
 have:(fun vs H1=>lSp X.K (Φ f) (vs++[]) H1 Q E0)=fun vs H1=>lR X.K (Φ f) vs H1 Q:=by
  funext vs H1;rw [List.append_nil];rfl
 show (lA X.K t) σ H _
 rw [this]
 exact h2
theorem wf (G:Good C Φ k X) {f:Nat} {x:Str} {p pos:Pos} (hf:C.Γ[f]? = some x) (n:Gl X x) (j:(x==("__debug__":Str))=false):PE X (.Call (.Name x p) [] [] pos) (lE X.K (wAr (Φ f) bm)):=by
 obtain ⟨a,fd,ps,hm,z,B,F⟩:=G.fns f x hf
 refine PE.imp (uG F G.room n hm z B .nil wX j) fun σ H Q h => ?_
 obtain ⟨ρ,M,rs,rm,q⟩:=h
 exact ⟨[],M,rm,RDs.nil,q⟩
theorem i3 {env:Env} {pos:Pos}:∀ {es:List Expr},es.all aG=true->(backTo pos (starEach es env)).any (·.1)=false
 | [],_=>rfl
 | e::es,h=>by
   simp only [List.all_cons,Bool.and_eq_true] at h
   rw [ag h.1]
   show (false || (backTo pos (starEach es env)).any (·.1))=false
   rw [i3 h.2];rfl
theorem fO:∀ {ms:MEs} {es:List Expr},okEs ms C es=true->es.all aG=true
 | .nil,[],_=>rfl
 | .nil,_::_,h=>by simp [okEs] at h
 | .cons m r,[],h=>by simp [okEs] at h
 | .cons m r,e::es,h=>by
  simp only [okEs,Bool.and_eq_true] at h
  simp only [List.all_cons,Bool.and_eq_true]
  exact ⟨h.1.1,fO h.2⟩
theorem pe:∀ {gs:MGs} {es:List Expr},okGs gs C es=true -> ∀ ds ρ ρ',bGs gs ds ρ = some ρ'->ds.length=es.length
 | .nil,es,h,ds, ρ, ρ',e=>by
  simp [okGs] at h;subst h
  rw [bGs] at e
  cases ds with
  | nil=>rfl
  | cons _ _=>cases e
 | .cons g r,[],h,_,_,_,_=>by simp [okGs] at h
 | .cons g r,x::es,h,ds, ρ, ρ',e=>by
  simp only [okGs,Bool.and_eq_true] at h
  rw [bGs] at e
  cases ds with
  | nil=>cases e
  | cons d ds =>
    simp only [bv] at e
    cases e1:bG g d ρ with
    | none=>rw [e1] at e;cases e
    | some ρ1 =>
      rw [e1] at e
      simp [pe h.2 ds ρ1 ρ' e]
theorem nA {env:Env}:∀ {gs:MGs} {es:List Expr},okGs gs C es=true->(assignEach es env).length=es.length/\(assignEach es env).findIdx? (·.1)=none
 | .nil,es,h=>by simp [okGs] at h;subst h;exact ⟨rfl,rfl⟩
 | .cons g r,[],h=>by simp [okGs] at h
 | .cons g r,x::es,h=>by
  simp only [okGs,Bool.and_eq_true] at h
  obtain ⟨a,b⟩:=nA (env:=env) h.2
  rw [kC h.1.1]
  refine ⟨by simp [a], ?_⟩
  rw [List.findIdx?_cons]
  simp [b]
mutual
theorem sG (G:Good C Φ k X):∀ (m:MG) (e:Expr),okG m C e=true->PG X e (lG X.K (bG m))
 | .name i,e,h=>by
  simp only [okG] at h
  split at h
  ·simp only [Bool.and_eq_true] at h
   exact yw G.nd (by rw [G.N];exact of_decide_eq_true h.1.1) (G.loc h.1.2) (G.own h.2)
  ·cases h
 | .tup gs,e,h=>by
  simp only [okG] at h
  split at h
  ·rw [bG]
   obtain ⟨a,b⟩:=nA (env:=X.env) h
   exact Az G.calm (pe h) (sGs G gs _ h) a b
  ·cases h
theorem sGs (G:Good C Φ k X):∀ (m:MGs) (es:List Expr),okGs m C es=true->PGs X es (lGs X.K (bGs m))
 | .nil,es,h=>by
  simp [okGs] at h;subst h
  exact yz
 | .cons g r,[],h=>by simp [okGs] at h
 | .cons g r,e::es,h=>by
  simp only [okGs,Bool.and_eq_true] at h
  exact vq (sG G g e h.1.2) (sGs G r es h.2) (by rw [kC h.1.1];rfl)
end
theorem PB.imp {F:Sem Fin->Sem Fin} {t t':TC} (h:PB X F t) (i:∀ σ H N,t' σ H N->t σ H N):PB X F t':=fun pins s σ H N k Q E I q hk=>h pins s σ H N k Q E I (i _ _ _ q) hk
theorem j8 {sc osc:Scope} {oN N':List Str} {fr:List (Option Nat)} (h:w8 sc osc oN N' fr=true):b5 sc osc oN N' fr:=by
 simp only [w8,Bool.and_eq_true,decide_eq_true_eq] at h
 obtain ⟨⟨⟨⟨⟨h1,h2⟩,B⟩,F⟩,G⟩,I⟩:=h
 refine ⟨h1,h2,B,fun x hx e => ?_,G,fun i j x hi hf => ?_⟩
 ·have q:=List.all_eq_true.mp F x hx
  rw [e] at q
  simpa using q
 ·have z:i < N'.length:=(List.getElem?_eq_some_iff.mp hi).1
  have n:=List.all_eq_true.mp I i (List.mem_range.mpr z)
  rw [hf,hi] at n
  simp only [Bool.and_eq_true,decide_eq_true_eq,List.any_eq_true] at n
  obtain ⟨a,y,J,e⟩:=n
  exact ⟨a,by rw [<- e];exact J⟩
theorem Good.blk (G:Good C Φ k X) {sc:Scope} {N':List Str} {fr:List (Option Nat)} (B:b5 sc C.sc C.N N' fr) (s:Shared) (H:Hp) (fp:List Addr) :
 Good ⟨C.Γ,N',hZ sc C.sc,(sc.names.filter (·.2 == .cell)).map (·.1),C.cs⟩ Φ k (aF X sc N' s H fp):=by
 refine ⟨fun _ _ h=>h,G.calm,rfl, ?_,B.ndN,fun x hx => ?_,G.room,G.mgB,G.fns,G.mono,G.cs⟩
 ·show relabel sc X.env=_
  rw [ou,G.sc]
 ·obtain ⟨y,q,e⟩:=List.mem_map.mp hx
  obtain ⟨h1,h2⟩:=List.mem_filter.mp q
  obtain ⟨n,kd⟩:=y
  have j:kd = .cell:=by simpa using h2
  subst j
  have e':n=x:=e
  subst e'
  show (sc.names.lookup n==some .cell)=true
  rw [aP B.nd h1]
  rfl
end
end
section
section
variable {Φ:Phi} {k:Nat}
theorem dj {C:Ctx} {X:Cx} (G:Good C Φ k X) {F:Sem Fin->Sem Fin} {p:Addr} {tb:TCd} {ifs:List Expr} {ts:List TTd} (mb:bQ tb) (mt:∀ t∈ts,aB t) (j:PB X F (lC X.K p tb)) (n:Paired (fun c t=>PT X c t) ifs (ts.map (lT X.K))) :
 PB X (fun k=>bb ifs X.env >>= fun ok=>if ok=true then F k else k) (lC X.K p (bg ts tb)) :=
 PB.imp (uR G.hx j n) (iO mb mt)
theorem fP {m:MC} {Cs C:Ctx} {g2:Comprehension} {gs:List Comprehension} {elt:Expr} (h:okC m Cs C (g2::gs) elt=true):g2.is_async=0:=by
 obtain ⟨t,i,f,a⟩:=g2
 cases m with
 | last src g ifs m =>
   cases gs with
   | nil=>simp only [okC,Bool.and_eq_true,decide_eq_true_eq] at h;exact h.1.1.1.1
   | cons _ _=>simp [okC] at h
 | more src g ifs rest =>
   cases gs with
   | nil=>simp [okC] at h
   | cons _ _=>simp only [okC,Bool.and_eq_true,decide_eq_true_eq] at h;exact h.1.1.1.1
theorem i4 {C:Ctx} {X:Cx} (G:Good C Φ k X):∀ T∈["bool", "int", "str", "tuple", "list", "dict"],X.mg (Str.ofString T)=none/\bootBuiltins (Str.ofString T)=some (.type T)/\Str.ofString T ≠ "__name__" /\ (Str.ofString T==("__debug__":Str))=false:=by
 intro T j
 simp only [List.mem_cons,List.not_mem_nil,or_false] at j
 rcases j with rfl | rfl | rfl | rfl | rfl | rfl
 all_goals exact ⟨G.mgB _ (by decide),by decide +kernel,by decide,by decide⟩
mutual
theorem sE:∀ (m:ME) {C:Ctx} {X:Cx} (G:Good C Φ k X) (e:Expr),okE m C e=true->PE X e (lE X.K (wE Φ m))
 | .var i,C,X,G,e,h=>by
  simp only [okE] at h
  split at h
  ·simp only [Bool.and_eq_true,Bool.not_eq_true',decide_eq_true_eq] at h
   exact Ak (by rw [G.N];exact h.1.1.1) (G.vis h.1.1.2) h.1.2 h.2
  ·cases h
 | .int i,C,X,G,e,h=>by
  simp only [okE] at h
  split at h
  ·rw [of_decide_eq_true h];exact Al
  ·cases h
 | .bl i,C,X,G,e,h=>by
  simp only [okE] at h
  split at h
  ·rw [eq_of_beq h];exact BE
  ·cases h
 | .non,C,X,G,e,h=>by
  simp only [okE] at h
  split at h
  ·exact Am
  ·cases h
 | .bin op a b,C,X,G,e,h=>by
  simp only [okE] at h
  split at h
  ·simp only [Bool.and_eq_true,decide_eq_true_eq] at h
   rw [h.1.1]
   exact BG (AT G op) (nk op) (mE G.mono a) (mE G.mono b) (sE a G _ h.1.2) (sE b G _ h.2)
  ·cases h
 | .neg a,C,X,G,e,h=>by
  simp only [okE] at h
  split at h
  ·exact BH vf lH (mE G.mono a) (sE a G _ h)
  ·cases h
 | .cmp op a b,C,X,G,e,h=>by
  simp only [okE] at h
  split at h
  ·next l o r j =>
   obtain ⟨pos,rfl⟩:=nv j
   simp only [Bool.and_eq_true,decide_eq_true_eq] at h
   obtain ⟨⟨⟨ho,L⟩,hb⟩,hm⟩:=h
   rw [Bool.not_eq_true'] at hm
   subst ho
   exact An (pc G op) (eV op) (mE G.mono a) (mE G.mono b) (sE a G _ L) (sE b G _ hb) hm
  ·cases h
 | .and es,C,X,G,e,h=>by
  simp only [okE] at h
  split at h
  ·simp only [Bool.and_eq_true] at h
   exact sAnds es G _ _ h.2 (by intro z;rw [z] at h;simp at h)
  ·cases h
 | .or es,C,X,G,e,h=>by
  simp only [okE] at h
  split at h
  ·simp only [Bool.and_eq_true] at h
   exact sOrs es G _ _ h.2 (by intro z;rw [z] at h;simp at h)
  ·cases h
 | .not a,C,X,G,e,h=>by
  simp only [okE] at h
  split at h
  ·exact Ay (mE G.mono a) (sE a G _ h)
  ·cases h
 | .ite c a b,C,X,G,e,h=>by
  simp only [okE] at h
  split at h
  ·simp only [Bool.and_eq_true] at h
   exact BN (mT G.mono c) (mE G.mono a) (mE G.mono b) (sT c G _ h.1.1) (sE a G _ h.1.2) (sE b G _ h.2)
  ·cases h
 | .tup es,C,X,G,e,h=>by
  simp only [okE] at h
  split at h
  ·exact Ap (mA G.mono es) (sA es G _ h)
  ·cases h
 | .lst es,C,X,G,e,h=>by
  simp only [okE] at h
  split at h
  ·exact Aq (mA G.mono es) (sA es G _ h)
  ·cases h
 | .ix a b,C,X,G,e,h=>by
  simp only [okE] at h
  split at h
  ·simp only [Bool.and_eq_true] at h
   exact BI (Cy (by have:=G.units;lia)) oH (mE G.mono a) (mE G.mono b) (sE a G _ h.1.2) (sE b G _ h.2) (we h.1.1)
  ·cases h
 | .sl a lo hi,C,X,G,e,h=>by
  simp only [okE] at h
  split at h
  ·next x l u j =>
   obtain ⟨p,pos,rfl⟩:=qI j
   simp only [Bool.and_eq_true] at h
   exact BO (mE G.mono a) (mO G.mono lo) (mO G.mono hi) (sE a G _ h.1.1) (sO lo G _ h.1.2) (sO hi G _ h.2)
  ·cases h
 | .call f es,C,X,G,e,h=>by
  simp only [okE] at h
  split at h
  ·next x xs j =>
   obtain ⟨p,pos,rfl⟩:=br j
   simp only [Bool.and_eq_true,decide_eq_true_eq,Bool.not_eq_true'] at h
   have hA:=sA es G _ h.2
   have I:=fO h.2
   cases xs with
   | nil =>
     cases es with
     | nil=>exact wf G h.1.1.1 (G.gl h.1.1.2) h.1.2
     | cons _ _=>simp [okEs] at h
   | cons y ys =>
     simp only [List.all_cons,Bool.and_eq_true] at I
     exact yX G (mA G.mono es) h.1.1.1 (G.gl h.1.1.2) h.1.2 hA (ag I.1) (i3 I.2)
  ·cases h
 | .blt f es,C,X,G,e,h=>by
  simp only [okE] at h
  split at h
  ·next x xs j =>
   obtain ⟨p,pos,rfl⟩:=br j
   simp only [Bool.and_eq_true,decide_eq_true_eq,Bool.not_eq_true'] at h
   have hA:=sA es G _ h.2
   have I:=fO h.2
   obtain ⟨⟨⟨rfl,O⟩,CC⟩,_⟩:=h
   cases xs with
   | nil=>simp at CC
   | cons y ys =>
     simp only [List.all_cons,Bool.and_eq_true] at I
     exact AU G (mA G.mono es) (G.gl O) hA (ag I.1) (i3 I.2)
  ·cases h
 | .dnew t,C,X,G,e,h=>by
  simp only [okE] at h
  split at h
  ·exact yF
  ·cases h
 | .dget o k' x,C,X,G,e,h=>by
  simp only [okE] at h
  split at h
  ·next y n e1 e2 ap cp j =>
   cases dO j
   simp only [Bool.and_eq_true,decide_eq_true_eq] at h
   obtain ⟨⟨⟨⟨⟨⟨⟨rfl,q⟩,R⟩,CD⟩,J⟩,ho⟩,hk⟩,hx⟩:=h
   have st:starEach [e1,e2] X.env=[(false,eval e1 X.env),(false,eval e2 X.env)]:=by
    rw [ag CD,ag J];rfl
   refine yO (by have:=G.units;lia) (mE G.mono o) (mE G.mono k') (mE G.mono x) (sE o G _ ho) (sE k' G _ hk) (sE x G _ hx) ⟨dD q, ?_,R, ?_⟩
   ·rw [st];rfl
   ·rw [st];rfl
  ·cases h
 | .isin2 a T U,C,X,G,e,h=>by
  simp only [okE] at h
  split at h
  ·next x y w j =>
   obtain ⟨p,pos,rfl⟩:=br j
   split at h
   ·next z' v' Z =>
    obtain ⟨k1,p1,rfl⟩:=dC Z
    split at h
    ·next z S =>
     obtain ⟨p2,rfl⟩:=di S
     split at h
     ·next v CF =>
      obtain ⟨p3,rfl⟩:=di CF
      simp only [Bool.and_eq_true,decide_eq_true_eq] at h
      obtain ⟨⟨⟨⟨⟨⟨⟨⟨⟨rfl,O⟩,Y⟩,CG⟩,hz⟩,hy⟩,hT⟩,hU⟩,hs⟩,L⟩:=h
      obtain ⟨n1,n2,n3,n4⟩:=i4 G T hT
      obtain ⟨m1,m2,m3,m4⟩:=i4 G U hU
      subst hz hy
      exact vM hT hU (mE G.mono a) (sE a G _ L) (G.gl O) (G.mgB _ (by decide)) (G.gl Y) n1 n2 n3 n4 (G.gl CG) m1 m2 m3 m4 (ag hs)
     ·cases h
    ·cases h
   ·cases h
  ·cases h
 | .isin a T,C,X,G,e,h=>by
  simp only [okE] at h
  split at h
  ·next x y z' j =>
   obtain ⟨p,pos,rfl⟩:=br j
   split at h
   ·next z S =>
    obtain ⟨p2,rfl⟩:=di S
    simp only [Bool.and_eq_true,decide_eq_true_eq] at h
    obtain ⟨⟨⟨⟨⟨⟨rfl,O⟩,Y⟩,hz⟩,hT⟩,hs⟩,L⟩:=h
    obtain ⟨n1,n2,n3,n4⟩:=i4 G T hT
    subst hz
    exact yu hT (mE G.mono a) (sE a G _ L) (G.gl O) (G.mgB _ (by decide)) (G.gl Y) n1 n2 n3 n4 (ag hs) rfl
   ·cases h
  ·cases h
 | .meth m o a,C,X,G,e,h=>by
  simp only [okE] at h
  split at h
  ·next x n y ap cp j =>
   cases dO j
   simp only [Bool.and_eq_true,decide_eq_true_eq] at h
   obtain ⟨⟨⟨⟨⟨hn,q⟩,R⟩,hs⟩,ho⟩,L⟩:=h
   subst hn
   have pa:PA X [y] (lA X.K (aI (wE Φ a) bm)):=be (mE G.mono a) ao (sE a G _ L) cF (ag hs)
   have few:((backTo cp (starEach [y] X.env)).all (fun x => !x.1)&&(backToKw cp (keywordEach [] X.env)).all (fun x=>x.1.isSome)&&decide (([y]:List Expr).length+([]:List Keyword).length+(if ([]:List Keyword).isEmpty then 0 else 1) < 30))=true:=by
    rw [ag hs];rfl
   cases m with
   | append=>exact PE.imp (wW PySem.F.plainAttrs_list PySem.F.slot_list_append PySem.F.type_list_append jT (sE o G _ ho) pa (dD q) few R (ag hs) rfl) (oK gK (mE G.mono o) (ak (mE G.mono a) ao) vp)
  ·cases h
 | .ins o i a,C,X,G,e,h=>by
  simp only [okE] at h
  split at h
  ·next x n y z ap cp j =>
   cases dO j
   simp only [Bool.and_eq_true,decide_eq_true_eq] at h
   obtain ⟨⟨⟨⟨⟨⟨⟨hn,q⟩,R⟩,hs⟩,J⟩,ho⟩,hi⟩,L⟩:=h
   subst hn
   have pa:PA X [y,z] (lA X.K (aI (wE Φ i) (aI (wE Φ a) bm))):=be (mE G.mono i) (ak (mE G.mono a) ao) (sE i G _ hi) (be (mE G.mono a) ao (sE a G _ L) cF (ag J)) (ag hs)
   have few:((backTo cp (starEach [y,z] X.env)).all (fun x => !x.1)&&(backToKw cp (keywordEach [] X.env)).all (fun x=>x.1.isSome)&&decide (([y,z]:List Expr).length+([]:List Keyword).length+(if ([]:List Keyword).isEmpty then 0 else 1) < 30))=true:=by
    rw [ag hs,ag J];rfl
   exact PE.imp (wW PySem.F.plainAttrs_list PySem.F.slot_list_insert PySem.F.type_list_insert tD (sE o G _ ho) pa (dD q) few R (ag hs) (by rw [ag J];rfl)) (oK gN (mE G.mono o) (ak (mE G.mono i) (ak (mE G.mono a) ao)) vS)
  ·cases h
 | .meth0 m o,C,X,G,e,h=>by
  simp only [okE] at h
  split at h
  ·next x n ap cp j =>
   cases dO j
   simp only [Bool.and_eq_true,decide_eq_true_eq] at h
   obtain ⟨⟨⟨hn,q⟩,R⟩,ho⟩:=h
   subst hn
   cases m with
   | clear=>exact PE.imp (rK PySem.F.plainAttrs_list PySem.F.slot_list_clear PySem.F.type_list_clear uK (sE o G _ ho) (dD q) R) (m9 iK (mE G.mono o) yv)
   | reverse=>exact PE.imp (rK PySem.F.plainAttrs_list PySem.F.slot_list_reverse PySem.F.type_list_reverse qb (sE o G _ ho) (dD q) R) (m9 fD (mE G.mono o) so)
  ·cases h
 | .comp fr N' c,C,X,G,e,h=>by
  simp only [okE] at h
  split at h
  ·rename_i elt gens sc pos
   simp only [Bool.and_eq_true] at h
   have B:b5 sc X.env.scope X.N N' fr:=by rw [G.sc,G.N];exact j8 h.1
   have B':b5 sc C.sc C.N N' fr:=j8 h.1
   cases c with
   | last src g ifs m =>
     have h2:=h.2
     simp only [okC] at h2
     split at h2
     ·rename_i t it fs a
      simp only [Bool.and_eq_true,decide_eq_true_eq] at h2
      obtain ⟨⟨⟨⟨rfl,hi⟩,O⟩,Z⟩,he⟩:=h2
      refine PE.imp (gJ G.calm G.hx B (fun g' z=>by simp at z) (sI src G _ t hi).1 (fun s H fp=>sG (G.blk B' s H fp) g t O) (tb:=fun p=>lC X.K p (bg (wTl Φ ifs) (cn (wE Φ m)))) (fun s H fp p => ?_) (sI src G _ t hi).2) (dJ (mI G.mono src) (aM (bq (mE G.mono m)) (mTl G.mono ifs)))
      have G':=G.blk B' s H fp
      exact dj (p:=p) G' (bq (mE G.mono m)) (mTl G.mono ifs) (PB.imp (jl G'.hx (sE m G' elt he) rfl) (fG (mE G.mono m))) (sTl ifs G' fs Z)
     ·cases h2
   | more src g ifs rest =>
     have h2:=h.2
     simp only [okC] at h2
     split at h2
     ·rename_i t it fs a g2 gs
      simp only [Bool.and_eq_true,decide_eq_true_eq] at h2
      obtain ⟨⟨⟨⟨rfl,hi⟩,O⟩,Z⟩,he⟩:=h2
      have CH:∀ g',(g2::gs)[0]? = some g'->g'.is_async=0:=fun g' z=>by
       have z':g2=g':=by simpa using z
       subst z'
       exact fP he
      refine PE.imp (gJ G.calm G.hx B CH (sI src G _ t hi).1 (fun s H fp=>sG (G.blk B' s H fp) g t O) (tb:=fun p=>lC X.K p (bg (wTl Φ ifs) (wCl Φ rest))) (fun s H fp p => ?_) (sI src G _ t hi).2) (dJ (mI G.mono src) (aM (mCl G.mono rest) (mTl G.mono ifs)))
      have G':=G.blk B' s H fp
      exact dj (p:=p) G' (mCl G.mono rest) (mTl G.mono ifs) (sCl rest G' elt (⟨t,it,fs,0⟩::g2::gs) sc pos 0 (.inl rfl) p he) (sTl ifs G' fs Z)
     ·cases h2
  ·cases h
theorem sA:∀ (m:MEs) {C:Ctx} {X:Cx} (G:Good C Φ k X) (es:List Expr),okEs m C es=true->PA X es (lA X.K (wA Φ m))
 | .nil,C,X,G,es,h=>by
  simp [okEs] at h;subst h
  exact cF
 | .cons m r,C,X,G,[],h=>by simp [okEs] at h
 | .cons m r,C,X,G,e::es,h=>by
  simp only [okEs,Bool.and_eq_true] at h
  exact be (mE G.mono m) (mA G.mono r) (sE m G e h.1.2) (sA r G es h.2) (ag h.1.1)
theorem sAnds:∀ (m:MEs) {C:Ctx} {X:Cx} (G:Good C Φ k X) (es:List Expr) (pos:Pos),okEs m C es=true->es≠[]->PE X (.BoolOp .And es pos) (lE X.K (wAnds Φ m))
 | .nil,C,X,G,es,pos,h,j=>by simp [okEs] at h;exact absurd h j
 | .cons m r,C,X,G,[],pos,h,j=>absurd rfl j
 | .cons m .nil,C,X,G,e::es,pos,h,_=>by
  simp only [okEs,Bool.and_eq_true] at h
  obtain ⟨h1,h2⟩:=h
  simp at h2;subst h2
  exact si (sE m G e h1.2)
 | .cons m (.cons m2 r),C,X,G,e::es,pos,h,_=>by
  simp only [okEs,Bool.and_eq_true] at h
  obtain ⟨h1,h2⟩:=h
  cases es with
  | nil=>simp at h2
  | cons f fs =>
    exact Ax (mE G.mono m) (mAnds G.mono _) (sE m G e h1.2) (sAnds (.cons m2 r) G (f::fs) pos (by simpa only [okEs,Bool.and_eq_true] using h2) (by simp))
theorem sOrs:∀ (m:MEs) {C:Ctx} {X:Cx} (G:Good C Φ k X) (es:List Expr) (pos:Pos),okEs m C es=true->es≠[]->PE X (.BoolOp .Or es pos) (lE X.K (wOrs Φ m))
 | .nil,C,X,G,es,pos,h,j=>by simp [okEs] at h;exact absurd h j
 | .cons m r,C,X,G,[],pos,h,j=>absurd rfl j
 | .cons m .nil,C,X,G,e::es,pos,h,_=>by
  simp only [okEs,Bool.and_eq_true] at h
  obtain ⟨h1,h2⟩:=h
  simp at h2;subst h2
  exact si (sE m G e h1.2)
 | .cons m (.cons m2 r),C,X,G,e::es,pos,h,_=>by
  simp only [okEs,Bool.and_eq_true] at h
  obtain ⟨h1,h2⟩:=h
  cases es with
  | nil=>simp at h2
  | cons f fs =>
    exact BM (mE G.mono m) (mOrs G.mono _) (sE m G e h1.2) (sOrs (.cons m2 r) G (f::fs) pos (by simpa only [okEs,Bool.and_eq_true] using h2) (by simp))
theorem sO:∀ (m:MO) {C:Ctx} {X:Cx} (G:Good C Φ k X) (e:Option Expr),okO m C e=true->PO X e (lO X.K (wO Φ m))
 | .none,C,X,G,e,h=>by
  simp [okO] at h;subst h
  exact yq
 | .some m,C,X,G,none,h=>by simp [okO] at h
 | .some m,C,X,G,some e,h=>by
  simp only [okO] at h
  exact yr (mE G.mono m) (sE m G e h)
theorem sT:∀ (m:MT) {C:Ctx} {X:Cx} (G:Good C Φ k X) (e:Expr),okT m C e=true->PT X e (lT X.K (wT Φ m))
 | .tru m,C,X,G,e,h=>by
  simp only [okT,Bool.and_eq_true] at h
  exact As (mE G.mono m) (sE m G e h.2) (qO h.1)
 | .cmp op a b,C,X,G,e,h=>by
  simp only [okT] at h
  split at h
  ·next l o r j =>
   obtain ⟨pos,rfl⟩:=nv j
   simp only [Bool.and_eq_true,decide_eq_true_eq] at h
   obtain ⟨⟨⟨ho,n⟩,q⟩,hm⟩:=h
   rw [Bool.not_eq_true'] at hm
   subst ho
   exact Ao (pc G op) (eV op) (mE G.mono a) (mE G.mono b) (sE a G _ n) (sE b G _ q) hm
  ·cases h
 | .and ts,C,X,G,e,h=>by
  simp only [okT] at h
  split at h
  ·simp only [Bool.and_eq_true] at h
   exact (sAndTs ts G _ _ h.2 (by intro z;rw [z] at h;simp at h)).pt
  ·cases h
 | .or ts,C,X,G,e,h=>by
  simp only [okT] at h
  split at h
  ·simp only [Bool.and_eq_true] at h
   exact (sOrTs ts G _ _ h.2 (by intro z;rw [z] at h;simp at h)).pt
  ·cases h
 | .not t,C,X,G,e,h=>by
  simp only [okT] at h
  split at h
  ·exact Au (mT G.mono t) (sT t G _ h)
  ·cases h
theorem sAndTs:∀ (m:MTs) {C:Ctx} {X:Cx} (G:Good C Φ k X) (es:List Expr) (pos:Pos),okTs m C es=true->es≠[]->PW X (.BoolOp .And es pos) (lT X.K (wAndTs Φ m))
 | .nil,C,X,G,es,pos,h,j=>by simp [okTs] at h;exact absurd h j
 | .cons m r,C,X,G,[],pos,h,j=>absurd rfl j
 | .cons m .nil,C,X,G,e::es,pos,h,_=>by
  simp only [okTs,Bool.and_eq_true] at h
  obtain ⟨h1,h2⟩:=h
  simp at h2;subst h2
  exact yo (sT m G e h1)
 | .cons m (.cons m2 r),C,X,G,e::es,pos,h,_=>by
  simp only [okTs,Bool.and_eq_true] at h
  obtain ⟨h1,h2⟩:=h
  cases es with
  | nil=>simp at h2
  | cons f fs =>
    exact Aw (mT G.mono m) (mAndTs G.mono _) (sT m G e h1) (sAndTs (.cons m2 r) G (f::fs) pos (by simpa only [okTs,Bool.and_eq_true] using h2) (by simp))
theorem sOrTs:∀ (m:MTs) {C:Ctx} {X:Cx} (G:Good C Φ k X) (es:List Expr) (pos:Pos),okTs m C es=true->es≠[]->PW X (.BoolOp .Or es pos) (lT X.K (wOrTs Φ m))
 | .nil,C,X,G,es,pos,h,j=>by simp [okTs] at h;exact absurd h j
 | .cons m r,C,X,G,[],pos,h,j=>absurd rfl j
 | .cons m .nil,C,X,G,e::es,pos,h,_=>by
  simp only [okTs,Bool.and_eq_true] at h
  obtain ⟨h1,h2⟩:=h
  simp at h2;subst h2
  exact Av (sT m G e h1)
 | .cons m (.cons m2 r),C,X,G,e::es,pos,h,_=>by
  simp only [okTs,Bool.and_eq_true] at h
  obtain ⟨h1,h2⟩:=h
  cases es with
  | nil=>simp at h2
  | cons f fs =>
    exact BL (mT G.mono m) (mOrTs G.mono _) (sT m G e h1) (sOrTs (.cons m2 r) G (f::fs) pos (by simpa only [okTs,Bool.and_eq_true] using h2) (by simp))
theorem sTl:∀ (m:MTs) {C:Ctx} {X:Cx} (G:Good C Φ k X) (es:List Expr),okTs m C es=true->Paired (fun c t=>PT X c t) es ((wTl Φ m).map (lT X.K))
 | .nil,C,X,G,es,h=>by
  simp [okTs] at h;subst h
  exact .nil
 | .cons m r,C,X,G,[],h=>by simp [okTs] at h
 | .cons m r,C,X,G,e::es,h=>by
  simp only [okTs,Bool.and_eq_true] at h
  exact .cons (sT m G e h.1) (sTl r G es h.2)
theorem sI:∀ (m:MI) {C:Ctx} {X:Cx} (G:Good C Φ k X) (e tg:Expr),okI m C tg e=true->PI X tg e (lI X.K (wI Φ m)) /\ ∀ x,foldedSetIterable e X.env x=pure x
 | .seq m,C,X,G,e,tg,h=>by
  simp only [okI,Bool.and_eq_true] at h
  exact ⟨AC (mE G.mono m) (sE m G e h.2),ny h.1⟩
 | .keys m,C,X,G,e,tg,h=>by
  simp only [okI,Bool.and_eq_true] at h
  exact ⟨yU (mE G.mono m) (sE m G e h.2),ny h.1⟩
 | .rng1 a,C,X,G,e,tg,h=>by
  simp only [okI] at h
  split at h
  ·next x y n =>
   obtain ⟨p,pos,rfl⟩:=br n
   simp only [Bool.and_eq_true,decide_eq_true_eq] at h
   obtain ⟨⟨⟨rfl,q⟩,hs⟩,B⟩:=h
   exact ⟨yA (ak (mE G.mono a) ao) (G.gl q) (G.mgB _ (by decide)) (be (mE G.mono a) ao (sE a G _ B) cF (ag hs)) (ag hs),fun x=>rfl⟩
  ·cases h
 | .rng2 a b,C,X,G,e,tg,h=>by
  simp only [okI] at h
  split at h
  ·next x y z n =>
   obtain ⟨p,pos,rfl⟩:=br n
   simp only [Bool.and_eq_true,decide_eq_true_eq] at h
   obtain ⟨⟨⟨⟨⟨rfl,q⟩,hs⟩,j⟩,B⟩,I⟩:=h
   exact ⟨yB (ak (mE G.mono a) (ak (mE G.mono b) ao)) (G.gl q) (G.mgB _ (by decide)) (be (mE G.mono a) (ak (mE G.mono b) ao) (sE a G _ B) (be (mE G.mono b) ao (sE b G _ I) cF (ag j)) (ag hs)) (by rw [ag hs,ag j];rfl) (ag j),fun x=>rfl⟩
  ·cases h
 | .enum a,C,X,G,e,tg,h=>by
  simp only [okI] at h
  split at h
  ·next x y n =>
   obtain ⟨p,pos,rfl⟩:=br n
   simp only [Bool.and_eq_true,decide_eq_true_eq] at h
   obtain ⟨⟨⟨⟨F,rfl⟩,q⟩,hs⟩,B⟩:=h
   obtain ⟨ts,F⟩:=Option.isSome_iff_exists.mp F
   obtain ⟨kt,pt,rfl⟩:=dC F
   exact ⟨yC (mE G.mono a) (G.gl q) (G.mgB _ (by decide)) (be (mE G.mono a) ao (sE a G _ B) cF (ag hs)) (ag hs),fun x=>rfl⟩
  ·cases h
 | .zip a b,C,X,G,e,tg,h=>by
  simp only [okI] at h
  split at h
  ·next x y z n =>
   obtain ⟨p,pos,rfl⟩:=br n
   simp only [Bool.and_eq_true,decide_eq_true_eq] at h
   obtain ⟨⟨⟨⟨⟨⟨F,rfl⟩,q⟩,hs⟩,j⟩,B⟩,I⟩:=h
   obtain ⟨ts,F⟩:=Option.isSome_iff_exists.mp F
   obtain ⟨kt,pt,rfl⟩:=dC F
   exact ⟨AE (mE G.mono a) (mE G.mono b) (G.gl q) (G.mgB _ (by decide)) (be (mE G.mono a) (ak (mE G.mono b) ao) (sE a G _ B) (be (mE G.mono b) ao (sE b G _ I) cF (ag j)) (ag hs)) (by rw [ag hs,ag j];rfl) (ag j),fun x=>rfl⟩
  ·cases h
theorem sCl:∀ (m:MC) {C:Ctx} {X:Cx} (G:Good C Φ k X) (elt:Expr) (gens:List Comprehension) (sc:Scope) (pos:Pos) (d:Nat) (_:d=0∨d=d) (p:Addr),okC m C C (gens.drop (d+1)) elt=true ->
 PB X (b4 elt gens sc pos d (.ref p) X.env) (lC X.K p (wCl Φ m))
 | .last src g ifs m,C,X,G,elt,gens,sc,pos,d,_,p,h=>by
  simp only [okC] at h
  split at h
  ·rename_i t it fs a hd
   simp only [Bool.and_eq_true,decide_eq_true_eq] at h
   obtain ⟨⟨⟨⟨rfl,hi⟩,j⟩,n⟩,he⟩:=h
   have e1:gens[d+1]? = some ⟨t,it,fs,0⟩:=by
    have z:(gens.drop (d+1))[0]? = some ⟨t,it,fs,0⟩:=by rw [hd];rfl
    rw [List.getElem?_drop] at z;simpa using z
   have e2:gens[d+1+1]? = none:=by
    have z:(gens.drop (d+1))[1]? = none:=by rw [hd];rfl
    rw [List.getElem?_drop] at z;simpa using z
   refine PB.imp (jX G.hx G.calm e1 (fun g' z=>by rw [e2] at z;cases z) (sI src G _ t hi).1 (sG G g t j) (dj (p:=p) G (bq (mE G.mono m)) (mTl G.mono ifs) (PB.imp (jl G.hx (sE m G elt he) e2) (fG (mE G.mono m))) (sTl ifs G fs n)) (sI src G _ t hi).2) (gM (mI G.mono src) (aM (bq (mE G.mono m)) (mTl G.mono ifs)))
  ·cases h
 | .more src g ifs rest,C,X,G,elt,gens,sc,pos,d,_,p,h=>by
  simp only [okC] at h
  split at h
  ·rename_i t it fs a g2 gs hd
   simp only [Bool.and_eq_true,decide_eq_true_eq] at h
   obtain ⟨⟨⟨⟨rfl,hi⟩,j⟩,n⟩,he⟩:=h
   have e1:gens[d+1]? = some ⟨t,it,fs,0⟩:=by
    have z:(gens.drop (d+1))[0]? = some ⟨t,it,fs,0⟩:=by rw [hd];rfl
    rw [List.getElem?_drop] at z;simpa using z
   have e2:gens[d+1+1]? = some g2:=by
    have z:(gens.drop (d+1))[1]? = some g2:=by rw [hd];rfl
    rw [List.getElem?_drop] at z;simpa using z
   have B:gens.drop (d+1+1)=g2::gs:=by
    have z:(gens.drop (d+1)).drop 1=g2::gs:=by rw [hd];rfl
    rw [List.drop_drop] at z;simpa using z
   have q:∀ g',gens[d+1+1]? = some g'->g'.is_async=0:=fun g' z=>by
    rw [e2] at z;cases z
    exact fP he
   refine PB.imp (jX G.hx G.calm e1 q (sI src G _ t hi).1 (sG G g t j) (dj (p:=p) G (mCl G.mono rest) (mTl G.mono ifs) (sCl rest G elt gens sc pos (d+1) (.inr rfl) p (by rw [B];exact he)) (sTl ifs G fs n)) (sI src G _ t hi).2) (gM (mI G.mono src) (aM (mCl G.mono rest) (mTl G.mono ifs)))
  ·cases h
end
end
end
section
section
variable {Φ:Phi} {k:Nat} {C:Ctx} {X:Cx}
theorem wg {sc:Scope} {ts vs:List Expr} {kk j:Nat} {pp p2:Pos} {env:Env} (hs:env.scope=sc) (n:sc.kind = .function) (h:qJ sc ts vs=true):swappedStores [.Tuple ts kk pp] (.Tuple vs j p2) env=pure none:=by
 have q:env.blockKind = .function:=by unfold Env.blockKind;rw [hs,n];rfl
 have h':qJ sc ts vs=true:=h
 unfold swappedStores
 dsimp only
 rw [q]
 by_cases c1:(!(ts.length==2 || ts.length==3) || vs.length != ts.length)=true
 ·simp only [c1,Bool.true_or,if_true]
 ·simp only [Bool.not_eq_true] at c1
  rw [c1]
  simp only [Bool.false_or,bne_self_eq_false,Bool.false_eq_true,if_false]
  split
  ·rfl
  ·
    generalize z:List.filterMap _ ts=L
    obtain rfl:L=aZ sc ts:=by
     rw [<- z]
     unfold aZ
     congr 1
     funext x
     cases x <;> first | rfl | (unfold Env.kindOf;rw [hs])
    unfold qJ at h'
    rw [c1] at h'
    simp only [Bool.false_or,Bool.or_eq_true] at h'
    by_cases c3:((aZ sc ts).length != ts.length || (aZ sc ts).eraseDups.length != (aZ sc ts).length)=true
    ·rw [if_pos c3]
    ·rw [if_neg c3]
     have B:vs.all (foldedForSure 8)=true:=by
      rcases h' with h' | h'
      ·exact absurd (Bool.or_eq_true _ _ |>.mpr h') c3
      ·exact h'
     rw [if_pos B]
theorem yY {sc:Scope} {ts vs:List Expr} {ns:List Str} {kk j:Nat} {pp p2:Pos} {env:Env} (hs:env.scope=sc) (n:sc.kind = .function) (h:qL sc ts vs ns=true):swappedStores [.Tuple ts kk pp] (.Tuple vs j p2) env=pure (some ns):=by
 have q:env.blockKind = .function:=by unfold Env.blockKind;rw [hs,n];rfl
 simp only [qL,Bool.and_eq_true,Bool.not_eq_true',decide_eq_true_eq] at h
 obtain ⟨⟨⟨⟨⟨B,F⟩,G⟩,I⟩,J⟩,O⟩:=h
 unfold swappedStores
 dsimp only
 rw [q,B]
 simp only [Bool.false_or,bne_self_eq_false,Bool.false_eq_true,if_false]
 split
 ·next z=>exact absurd z (by rw [Bool.not_eq_true];exact F)
 ·generalize R:List.filterMap _ ts=L
  obtain rfl:L=aZ sc ts:=by
   rw [<- R]
   unfold aZ
   congr 1
   funext x
   cases x <;> first | rfl | (unfold Env.kindOf;rw [hs])
  rw [I,J,O,G]
  rfl
theorem ph {C:Ctx} {i:Nat} {x:Str} (h:qK C i x=true):C.N[i]? = some x/\C.sc.names.lookup x=some .local:=by
 simpa [qK] using h
theorem dk {tg e:Expr} {l:Nat} {env:Env} {b:Bool} (h:swapsWith e (some tg) l env=pure b):swapsWithSole [tg] e l env=pure b:=by
 unfold swapsWithSole
 exact h
theorem yZ {sc:Scope} {tg e:Expr} {env:Env} (hs:env.scope=sc) (j:sc.kind = .function) (h:j7 sc tg e=true):swappedStores [tg] e env=pure none:=by
 cases tg with
 | Tuple ts kk pp =>
   cases e with
   | Tuple vs n p2=>exact wg hs j h
   | _=>rfl
 | _=>first | rfl | (simp [j7] at h;done)
theorem nB {elt:Expr} {gens:List Comprehension} {s sc:Scope} {pos px:Pos} {x:Str} {l:Nat} {env:Env} (hs:env.scope=sc) (j:sc.kind = .function) :
 swapsWith (.ListComp elt gens s pos) (some (.Name x px)) l env=pure (qM sc x px (.ListComp elt gens s pos)):=by
 have n:env.blockKind = .function:=by unfold Env.blockKind;rw [hs,j];rfl
 unfold swapsWith
 dsimp only
 rw [n]
 unfold qM Env.kindOf
 rw [hs]
 rfl
theorem tG {ek ev:Expr} {gens:List Comprehension} {s sc:Scope} {pos px:Pos} {x:Str} {l:Nat} {env:Env} (hs:env.scope=sc) (j:sc.kind = .function) :
 swapsWith (.DictComp ek ev gens s pos) (some (.Name x px)) l env=pure (sc.names.lookup x==some .local&&px.line==(Expr.DictComp ek ev gens s pos).pos.line && !(s.names.any fun (n,k)=>n==x&&(k == .local || k == .cell))):=by
 have q:env.blockKind = .function:=by unfold Env.blockKind;rw [hs,j];rfl
 unfold swapsWith
 dsimp only
 rw [q]
 unfold Env.kindOf
 rw [hs]
 rfl
mutual
theorem sS:∀ (m:MS) (G:Good C Φ k X) (n:C.sc.kind = .function) (s:Stmt),okS m C s=true->PS X s (lS X.K (wS Φ m))
 | .asg g m,G,n,s,h=>by
  simp only [okS] at h
  split at h
  ·rename_i tg e pos
   simp only [Bool.and_eq_true] at h
   obtain ⟨⟨⟨I,he⟩,q⟩,O⟩:=h
   have hw:=yZ G.sc n q
   have pg:=sG G g tg I
   have plain:swapsWithSole [tg] e pos.line X.env=pure false->PS X (.Assign [tg] e pos) (lS X.K (gX (wE Φ m) (bG g))):=fun hs =>
    PS.imp (rg (sE m G e he) pg hs hw (by cases tg <;> first | rfl | (simp [j7] at q;done))) (vE (mE G.mono m))
   cases tg with
   | Tuple ts a b=>exact plain (dk (jD O))
   | Name x px =>
     cases e with
     | ListComp elt gens sc cpos =>
       by_cases sw:qM C.sc x px (.ListComp elt gens sc cpos)=true
       ·cases g with
        | tup gs=>simp [okG] at I
        | name i =>
          cases m with
          | comp fr N' c =>
            simp only [okE,Bool.and_eq_true] at he
            have B:b5 sc X.env.scope X.N N' fr:=by rw [G.sc,G.N];exact j8 he.1
            have B':b5 sc C.sc C.N N' fr:=j8 he.1
            have R:PG X (.Name x px) (ig i):=by
             simp only [okG,Bool.and_eq_true] at I
             exact oB G.nd (by rw [G.N];exact of_decide_eq_true I.1.1) (G.loc I.1.2) (G.own I.2)
            have S:∀ l,swapsWith (.ListComp elt gens sc cpos) (some (.Name x px)) l X.env=pure true:=fun l=>by rw [nB G.sc n,sw]
            have mc:=mCmp G.mono fr c
            cases c with
            | last src g ifs m =>
              have h2:=he.2
              simp only [okC] at h2
              split at h2
              ·rename_i t it fs a
               simp only [Bool.and_eq_true,decide_eq_true_eq] at h2
               obtain ⟨⟨⟨⟨rfl,hi⟩,J⟩,U⟩,F⟩:=h2
               refine PS.imp (iB (i:=i) (g:=lG X.K (bG g)) (wi:=lI X.K (wI Φ src)) G.calm G.hx B (fun g' z=>by simp at z) (sI src G _ t hi).1 (fun s H fp=>sG (G.blk B' s H fp) g t J) (tb:=fun p=>lC X.K p (bg (wTl Φ ifs) (cn (wE Φ m)))) (fun s H fp p => ?_) (sI src G _ t hi).2 R (S _)) fun D σ H h => ?_
               ·have G':=G.blk B' s H fp
                exact dj (p:=p) G' (bq (mE G.mono m)) (mTl G.mono ifs) (PB.imp (jl G'.hx (sE m G' elt F) rfl) (fG (mE G.mono m))) (sTl ifs G' fs U)
               ·exact dJ (mI G.mono src) (aM (bq (mE G.mono m)) (mTl G.mono ifs)) σ H _ (kh mc D σ H h)
              ·cases h2
            | more src g ifs rest =>
              have h2:=he.2
              simp only [okC] at h2
              split at h2
              ·rename_i t it fs a g2 gs
               simp only [Bool.and_eq_true,decide_eq_true_eq] at h2
               obtain ⟨⟨⟨⟨rfl,hi⟩,J⟩,U⟩,F⟩:=h2
               have Y:∀ g',(g2::gs)[0]? = some g'->g'.is_async=0:=fun g' z=>by
                have z':g2=g':=by simpa using z
                subst z'
                exact fP F
               refine PS.imp (iB (i:=i) (g:=lG X.K (bG g)) (wi:=lI X.K (wI Φ src)) G.calm G.hx B Y (sI src G _ t hi).1 (fun s H fp=>sG (G.blk B' s H fp) g t J) (tb:=fun p=>lC X.K p (bg (wTl Φ ifs) (wCl Φ rest))) (fun s H fp p => ?_) (sI src G _ t hi).2 R (S _)) fun D σ H h => ?_
               ·have G':=G.blk B' s H fp
                exact dj (p:=p) G' (mCl G.mono rest) (mTl G.mono ifs) (sCl rest G' elt (⟨t,it,fs,0⟩::g2::gs) sc cpos 0 (.inl rfl) p F) (sTl ifs G' fs U)
               ·exact dJ (mI G.mono src) (aM (mCl G.mono rest) (mTl G.mono ifs)) σ H _ (kh mc D σ H h)
              ·cases h2
          | _=>simp [okE,eW,dN,cOf,kU,kW,qH,j6,bE,cJ,et,AR] at he
       ·refine plain ?_
        simp only [Bool.not_eq_true] at sw
        refine dk ?_
        rw [nB G.sc n,sw]
     | SetComp _ _ _ _=>cases m <;> simp [okE,eW,dN,cOf,kU,kW,qH,j6,bE,cJ,et,AR] at he
     | DictComp _ _ _ _ _ =>
       refine plain (dk ?_)
       rw [tG G.sc n]
       unfold AS at O
       simp only [Bool.not_eq_true'] at O
       rw [O]
     | _=>exact plain (dk rfl)
   | _=>simp [j7] at q
  ·cases h
 | .par i j a b,G,n,s,h=>by
  simp only [okS] at h
  split at h
  ·next t u e f hp =>
   split at h
   ·next x hx =>
    split at h
    ·next y hy =>
     obtain ⟨k,p,k',p',pos,rfl⟩:=wc hp
     obtain ⟨px,rfl⟩:=di hx
     obtain ⟨py,rfl⟩:=di hy
     simp only [Bool.and_eq_true,decide_eq_true_eq] at h
     obtain ⟨⟨⟨⟨⟨⟨⟨hi,hj⟩,Z⟩,n1⟩,n2⟩,q⟩,hb⟩,hw⟩:=h
     obtain ⟨i1,i2⟩:=ph hi
     obtain ⟨j1,j2⟩:=ph hj
     exact PS.imp (zY G.calm G.nd (by rw [G.N];exact i1) (by rw [G.N];exact j1) Z (by rw [G.sc];exact i2) (by rw [G.sc];exact j2) (be (mE G.mono a) (ak (mE G.mono b) ao) (sE a G _ q) (be (mE G.mono b) ao (sE b G _ hb) cF (ag n2)) (ag n1)) (yY G.sc n hw) (dk rfl)) (sN (ak (mE G.mono a) (ak (mE G.mono b) ao)))
    ·cases h
   ·cases h
  ·cases h
 | .put o i m,G,n,s,h=>by
  simp only [okS] at h
  split at h
  ·rename_i x y tp e pos
   simp only [Bool.and_eq_true] at h
   obtain ⟨⟨⟨⟨L,O⟩,ho⟩,hi⟩,he⟩:=h
   exact AG (by have:=G.units;lia) (mE G.mono m) (mE G.mono o) (mE G.mono i) (sE m G e he) (sE o G x ho) (sE i G y hi) (dk (jD O)) rfl (fun v=>by cases y <;> first | rfl | (simp [cz] at L;done))
  ·cases h
 | .augI o i op m,G,n,s,h=>by
  simp only [okS] at h
  split at h
  ·rename_i x y tp o' e pos
   simp only [Bool.and_eq_true,decide_eq_true_eq] at h
   obtain ⟨⟨⟨⟨⟨rfl,CC⟩,L⟩,ho⟩,hi⟩,he⟩:=h
   have hu:X.A.units+1 < cLine:=by have:=G.units;lia
   have q:∀ ov iv new,augStore y ov iv new=(do holding [new,ov,iv] (setItem ov iv new);release [new,ov,iv] [];pure .next):=fun ov iv new=>by cases y <;> first | rfl | (simp [cz] at L;done)
   cases op with
   | add=>exact jy hu (mE G.mono o) (mE G.mono i) (mE G.mono m) kj (sE o G x ho) (sE i G y hi) (sE m G e he) sJ q
   | sub=>exact jy hu (mE G.mono o) (mE G.mono i) (mE G.mono m) kl (sE o G x ho) (sE i G y hi) (sE m G e he) sK q
   | mul=>exact jy hu (mE G.mono o) (mE G.mono i) (mE G.mono m) km (sE o G x ho) (sE i G y hi) (sE m G e he) sM q
   | _=>simp at CC
  ·cases h
 | .drop m,G,n,s,h=>by
  simp only [okS] at h
  split at h
  ·simp only [Bool.and_eq_true] at h
   exact PS.imp (xO (sE m G _ h.2) (jD h.1)) (sH (mE G.mono m))
  ·cases h
 | .ret m,G,n,s,h=>by
  simp only [okS] at h
  split at h
  ·rw [wS]
   exact PS.imp (zT (sE m G _ h)) (vD (mE G.mono m))
  ·cases h
 | .ite c a b,G,n,s,h=>by
  simp only [okS] at h
  split at h
  ·simp only [Bool.and_eq_true] at h
   exact PS.imp (Bn (sT c G _ h.1.1) (sSs a G n _ h.1.2) (sSs b G n _ h.2)) (yD (mT G.mono c))
  ·cases h
 | .for g src b,G,n,s,h=>by
  simp only [okS] at h
  split at h
  ·simp only [Bool.and_eq_true] at h
   obtain ⟨⟨⟨hs,I⟩,hi⟩,hb⟩:=h
   exact PS.imp (A1 (fun e s z=>(G.hx e s z).elim) G.calm (sI src G _ _ hi).1 (sG G g _ I) (sSs b G n _ hb) (ny hs)) (vF (mI G.mono src) (mSs G.mono b))
  ·cases h
 | .while c b,G,n,s,h=>by
  simp only [okS] at h
  split at h
  ·simp only [Bool.and_eq_true] at h
   exact PS.imp (uz (fun e s z=>(G.hx e s z).elim) (sT c G _ h.1) (sSs b G n _ h.2)) (qr (mT G.mono c) (mSs G.mono b))
  ·cases h
 | .frz i m,G,n,s,h=>by
  simp only [okS] at h
  exact AL (sS m G n s h)
 | .pass,G,n,s,h=>by
  simp only [okS] at h
  split at h
  ·exact PS.imp xN kg
  ·cases h
 | .brk,G,n,s,h=>by
  simp only [okS] at h
  split at h
  ·exact PS.imp uu qq
  ·cases h
 | .cnt,G,n,s,h=>by
  simp only [okS] at h
  split at h
  ·exact PS.imp nX sF
  ·cases h
theorem sSs:∀ (m:MSs) (G:Good C Φ k X) (j:C.sc.kind = .function) (s:List Stmt),okSs m C s=true->PSs X s (lS X.K (wSs Φ m))
 | .nil,G,j,s,h=>by
  simp [okSs] at h;subst h
  exact PSs.imp xM kg
 | .cons m r,G,j,[],h=>by simp [okSs] at h
 | .cons m r,G,j,s::ss,h=>by
  simp only [okSs,Bool.and_eq_true] at h
  exact PSs.imp (ut (sS m G j s h.1) (sSs r G j ss h.2)) (vC (mS G.mono m) (mSs G.mono r))
end
end
end
section
structure FD where
 name:Str
 st:Stmt
 N:List Str
 np:Nat
 body:MSs
noncomputable def eA (N:List Str) (ds:List D):aq:=ds.map some++List.replicate (N.length - ds.length) none
noncomputable def phi (T:List FD):Nat->Phi
 | 0=>fun _ _ _ _=>False
 | k+1=>fun f ds M Q => ∃ d,T[f]? = some d/\ds.length=d.np/\wSs (phi T k) d.body { nx:=fun _ M'=>Q .non M',rt:=Q } (eA d.N ds) M
theorem i5 (T:List FD):∀ k f,aV (phi T k f)
 | 0,f=>fun _ _ _ _ _ q=>q.elim
 | k+1,f=>fun ds M Q Q' h ⟨d,e,l,q⟩=>⟨d,e,l,mSs (i5 T k) d.body { nx:=fun _ M'=>Q .non M',rt:=Q } { nx:=fun _ M'=>Q' .non M',rt:=Q' } _ _ ⟨fun _ M' q'=>h _ _ q',h,fun _ _ z=>z,fun _ _ z=>z⟩ q⟩
noncomputable def qP (Γ:List Str) (cs:List (Str×Int)) (d:FD):Bool :=
 decide ((aw d.st).kind = .function) && !(aw d.st).isCoroutine && !(aw d.st).isGenerator&&decide (d.N.Nodup)&&decide (d.np<=d.N.length)
  && (d.N.take d.np).all (fun x=>(aw d.st).names.lookup x==some .local || (aw d.st).names.lookup x==some .cell)
  && (aw d.st).names.all (fun y => !(y.2 == .free))&&okSs d.body ⟨Γ,d.N,aw d.st,d.N,cs⟩ (bO d.st)
theorem wj {Γ:List Str} {cs:List (Str×Int)} {d:FD} (h:qP Γ cs d=true):fZ d.N (d.N.take d.np) (aw d.st)/\(d.N.take d.np).length=d.np/\okSs d.body ⟨Γ,d.N,aw d.st,d.N,cs⟩ (bO d.st)=true:=by
 simp only [qP,Bool.and_eq_true,decide_eq_true_eq,Bool.not_eq_true'] at h
 obtain ⟨⟨⟨⟨⟨⟨⟨h1,h2⟩,n⟩,q⟩,J⟩,B⟩,F⟩,G⟩:=h
 have j:(d.N.take d.np).length=d.np:=by rw [List.length_take];lia
 refine ⟨⟨h1,h2,n,q,by rw [j],fun x hx => ?_,fun y I e => ?_⟩,j,G⟩
 ·have z:=List.all_eq_true.mp B x hx
  simpa using z
 ·have z:=List.all_eq_true.mp F y I
  rw [e] at z
  simp at z
section
variable {P:Program} {w:World} {K:Frag} {mg:Str->Option Value} {base:Heap}
structure xu (K:Frag) (mg:Str->Option Value) (T:List FD) (cs:List (Str×Int)):Prop where
 blt:∀ x∈bltNames,mg x=none
 fns:∀ (i:Nat) (d:FD),T[i]? = some d -> ∃ f fd,Fun K d.name d.name d.st f fd/\mg d.name=some (.ref f)/\Binds K fd (d.N.take d.np) []
 ok:∀ d∈T,qP (T.map (·.name)) cs d=true
 cst:∀ x i,(x,i)∈cs -> ∃ t,mg x=some (.int i t)
theorem tH {T:List FD} {cs:List (Str×Int)} (O:xu K mg T cs):∀ (k i:Nat) (d:FD) (f:Addr) (fd:FuncData),T[i]? = some d->Fun K d.name d.name d.st f fd->dv P w K mg base CX0 k f fd (d.N.take d.np) (lSp K (phi T k i))
 | 0,i,d,f,fd,e,F=>⟨fun vs H Q E h=>by obtain ⟨ds,M,_,_,q⟩:=h;exact q.elim,fun A outer s H args us vs Q E _ _ _ _ h=>by obtain ⟨ds,M,_,_,q⟩:=h;exact q.elim⟩
 | k+1,i,d,f,fd,e,F=>by
   obtain ⟨S,R,U⟩:=wj (O.ok d (List.mem_of_getElem? e))
   refine F.ok S (fun vs H Q E h => ?_) fun cdv A outer s H vs Q E Y h => ?_
   ·obtain ⟨ds,M,rm,rs,d',e',l,q⟩:=h
    rw [e] at e';cases e'
    rw [rs.length,l,R]
   ·obtain ⟨ds,M,rm,rs,d',e',l,q⟩:=h
    rw [e] at e';cases e'
    have G:Good ⟨T.map (·.name),d.N,aw d.st,d.N,cs⟩ (phi T k) k ((gP CX0 P w K mg base d.N d.name (aw d.st) f cdv A outer s H E).nox):=by
     refine ⟨fun _ _ z=>z,rfl,rfl,rfl,S.nd,fun _ _=>rfl,Y,O.blt,fun j x hx => ?_,i5 T k,O.cst⟩
     have n:(T.map (·.name))[j]? = some x:=hx
     rw [List.getElem?_map] at n
     cases e2:T[j]? with
     | none=>rw [e2] at n;cases n
     | some d2 =>
       rw [e2] at n;cases n
       obtain ⟨f2,J,L,Z,b2⟩:=O.fns j d2 e2
       exact ⟨f2,J,_,Z,L.kp,b2,tH O k j d2 f2 J e2 L⟩
    refine ⟨_,sSs d.body G S.kind _ U,eA d.N ds,M, { nx:=fun _ M'=>KE' K M H Q .non M',rt:=KE' K M H Q }, ?_,rm,⟨fun ρ M' σ H' x rs' rm' q' => ?_,fun d M' v H' x rm' rd' q'=>q' v H' x rm' rd',fun _ _ _ _ _ _ _ z=>z,fun _ _ _ _ _ _ _ z=>z⟩,q⟩
    ·refine ⟨by simp [cB,eA,rs.length],fun j dd B => ?_⟩
     unfold eA at B
     unfold cB
     by_cases I:j < ds.length
     ·rw [List.getElem?_append_left (by simpa using I),List.getElem?_map] at B
      cases e3:ds[j]? with
      | none=>rw [e3] at B;cases B
      | some z =>
        rw [e3] at B;cases B
        obtain ⟨v,hv,rv⟩:=rs.get e3
        refine ⟨v, ?_,rv⟩
        rw [List.getElem?_append_left (by rw [List.length_map,rs.length];exact I),List.getElem?_map,hv];rfl
     ·rw [List.getElem?_append_right (by simpa using I),List.getElem?_replicate] at B
      split at B <;> cases B
    ·exact q' .non H' x rm' (RD.non_iff.mpr rfl)
theorem AV {T:List FD} {k i:Nat} {H:Hp} {a:Addr} {ns:List Int} (n:qc H) (B:SqL K H a (ns.map V.int)) (h:phi T k i [.con (ns.map D.int)] (fun _=>none) fun d _=>d = .bl true) :
 lSp K (phi T k i) [.ref a] H (fun v _=>v = .bl true) fun _ _ _=>False:=by
 have j:RM K (fun _=>none) H:=fun _ _ z=>by cases z
 refine ⟨[.con (ns.map D.int)],fun _=>none,j,RDs.cons (RD.con_iff.mpr ⟨a,ns.map V.int,rfl, ?_,RDs.ints ns⟩) RDs.nil,i5 T k i [.con (ns.map D.int)] (fun _=>none) (fun d _=>d = .bl true) (KE' K (fun _=>none) H fun v _=>v = .bl true) (fun d M' e=>fun v H' x rm rd => ?_) h⟩
 ·rcases B with (z | ⟨o,z⟩) | z
  ·rcases n a with q | ⟨o,xs,q⟩
   ·rw [z] at q;cases q
   ·rw [z] at q;cases q
  ·exact .inl ⟨o,z⟩
  ·exact .inr z
 ·subst e
  exact RD.bl_iff.mp rd
end
theorem gy (us:List Value) (h:us.length=1):∃ a,us=[a]:=List.length_eq_one_iff.mp h
theorem cD (us:List Value) (h:us.length=2):∃ a b,us=[a,b]:=by
 cases us with
 | nil=>cases h
 | cons a us=>obtain ⟨b,rfl⟩:=gy us (Nat.succ.inj h);exact ⟨a,b,rfl⟩
theorem kX (us:List Value) (h:us.length=3):∃ a b c,us=[a,b,c]:=by
 cases us with
 | nil=>cases h
 | cons a us=>obtain ⟨b,c,rfl⟩:=cD us (Nat.succ.inj h);exact ⟨a,b,c,rfl⟩
theorem xv (us:List Value) (h:us.length=4):∃ a b c d,us=[a,b,c,d]:=by
 cases us with
 | nil=>cases h
 | cons a us=>obtain ⟨b,c,d,rfl⟩:=kX us (Nat.succ.inj h);exact ⟨a,b,c,d,rfl⟩
end
section
theorem AW {T:List FD} {k f:Nat} {d:FD} {ds:List D} {M:Mem} {Q:QD} (e:T[f]? = some d) (l:ds.length=d.np) {ρ:aq} (r:eA d.N ds = ρ)
 (h:wSs (phi T k) d.body { nx:=fun _ M'=>Q .non M',rt:=Q } ρ M):phi T (k+1) f ds M Q:=⟨d,e,l,by rw [r];exact h⟩
theorem aA {T:List FD} {n f:Nat} {d:FD} {ds:List D} {M:Mem} {Q:QD} (j : 1<=n) (e:T[f]? = some d) (l:ds.length=d.np) {ρ:aq} (r:eA d.N ds = ρ)
 (h:wSs (phi T (n - 1)) d.body { nx:=fun _ M'=>Q .non M',rt:=Q } ρ M):phi T n f ds M Q:=by
 obtain ⟨k,rfl⟩:∃ k,n=k+1:=⟨n - 1,by lia⟩
 exact AW e l r h
theorem z9 {Φ:Phi} {D:bf} {ρ:aq} {M:Mem}:wSs Φ .nil D ρ M=D.nx ρ M:=by rw [wSs];rfl
theorem bM {Φ:Phi} {s:MS} {r:MSs} {D:bf} {ρ:aq} {M:Mem}:wSs Φ (.cons s r) D ρ M=wS Φ s { D with nx:=wSs Φ r D } ρ M:=by rw [wSs];rfl
theorem pi {ds:List D} {y:D} {M:Mem} {Q:QD}:wIx (.tup ds) y M Q = ∃ i d,y = .int i/\atI ds i=some d/\Q d M:=rfl
theorem pj {ds:List D} {y:D} {M:Mem} {Q:QD}:wIx (.con ds) y M Q = ∃ i d,y = .int i/\atI ds i=some d/\Q d M:=rfl
theorem bj {a:Addr} {i:Int} {ds:List D} {d:D} {M:Mem} {Q:QD} (h:M a=some (.lst ds)) (e:atI ds i=some d) (q:Q d M):wIx (.ref a) (.int i) M Q := .inl ⟨ds,i,d,h,rfl,e,q⟩
theorem ce {a:Addr} {i:Int} {ds:List D} {v:D} {j:Nat} {M:Mem} {Q:Mem->Prop} (h:M a=some (.lst ds)) (e:ixN ds.length i=some j) (q:Q (af M a (.lst (ds.set j v)))):eS (.ref a) (.int i) v M Q:=⟨a,rfl, .inl ⟨ds,i,j,rfl,h,e,q⟩⟩
theorem jE {a:Addr} {ds:List D} {M:Mem} {Q:QD} (h:M a=some (.lst ds)) (q:Q (.int ds.length) M):eO [.ref a] M Q:=⟨_,_,rfl,by simp only [gU,h],q⟩
theorem ai {a:Addr} {ds:List D} {M:Mem} (h:M a=some (.lst ds)):au M (.ref a)=some ds:=by simp only [au,h]
theorem AX {i:Int} {M:Mem} {Q:QD}:lL [.int i] M Q=Q (.int i) M:=by
 apply propext;constructor
 ·rintro (⟨j,e,q⟩ | ⟨k,e,q⟩)
  ·cases e;exact q
  ·cases e
 ·exact fun q => .inl ⟨i,rfl,q⟩
theorem AY {b:Bool} {M:Mem} {Q:QD}:lL [.bl b] M Q=Q (.int (if b then 1 else 0)) M:=by
 apply propext;constructor
 ·rintro (⟨j,e,q⟩ | ⟨k,e,q⟩)
  ·cases e
  ·cases e;exact q
 ·exact fun q => .inr ⟨b,rfl,q⟩
theorem BU {i j:Int} {M:Mem} {Q:QD}:wEq (.int i) (.int j) M Q=Q (.bl (i==j)) M:=by
 simp [wEq,rb,PyData.eqv]
theorem BV {i j:Int} {M:Mem} {Q:QD}:wNe (.int i) (.int j) M Q=Q (.bl (!(i==j))) M:=by
 simp [wNe,rb,PyData.eqv]
theorem tI {i j:Int} {M:Mem} {Q:QD}:gT (.int i) (.int j) M Q=Q (.int (i+j)) M:=rfl
theorem tJ {a b:List D} {M:Mem} {Q:QD}:gT (.tup a) (.tup b) M Q=((a≠[]∨True)/\a.length+b.length<=sizeLine/\Q (.tup (a++b)) M):=rfl
theorem tK {i j:Int} {M:Mem} {Q:QD}:jq (.int i) (.int j) M Q=Q (.int (i - j)) M:=rfl
theorem tL {i j:Int} {M:Mem} {Q:QD}:jr (.int i) (.int j) M Q=(MulOk i j/\Q (.int (i*j)) M):=rfl
theorem tM {ds:List D} {k:Int} {M:Mem} {Q:QD}:jr (.tup ds) (.int k) M Q=(-(2 ^ 63)<=k/\k < 2 ^ 63/\ds.length*k.toNat<=sizeLine/\Q (.tup (List.replicate k.toNat ds).flatten) M):=rfl
theorem pq {i j:Int} {M:Mem} {Q:QD}:kP (.int i) (.int j) M Q=(0 < j/\j < 2 ^ 256/\Q (.int (i / j)) M):=rfl
theorem tN {i j:Int} {M:Mem} {Q:QD}:qf (.int i) (.int j) M Q=(0 < j/\Q (.int (i % j)) M):=rfl
theorem tO {i j:Int} {M:Mem} {Q:QD}:qg (.int i) (.int j) M Q=(0<=j/\j<=1000000/\i.natAbs < 2 ^ 64/\Q (.int (i ^ j.toNat)) M):=rfl
theorem xw {i j:Int} {M:Mem} {Q:QD}:wLt (.int i) (.int j) M Q=Q (.bl (decide (i < j))) M:=rfl
theorem xx {i j:Int} {M:Mem} {Q:QD}:wLe (.int i) (.int j) M Q=Q (.bl (decide (i<=j))) M:=rfl
theorem qQ {i j:Int} {M:Mem} {Q:QD}:wGt (.int i) (.int j) M Q=Q (.bl (decide (j < i))) M:=rfl
theorem xz {i j:Int} {M:Mem} {Q:QD}:wGe (.int i) (.int j) M Q=Q (.bl (decide (j<=i))) M:=rfl
theorem pv {i j:Int} {M:Mem} {Q:QD}:kR (.int i) (.int j) M Q=Q (.int (i+j)) M:=rfl
theorem pz {i j:Int} {M:Mem} {Q:QD}:kS (.int i) (.int j) M Q=Q (.int (i - j)) M:=rfl
theorem pA {i j:Int} {M:Mem} {Q:QD}:kT (.int i) (.int j) M Q=(MulOk i j/\Q (.int (i*j)) M):=rfl
theorem tP {i:Int} {M:Mem} {Q:QD}:qh (.int i) M Q=Q (.int (-i)) M:=rfl
theorem AZ {i:Int} {M:Mem} {Q:QD}:lK [.int i] M Q=Q (.int (if i < 0 then -i else i)) M:=by simp [lK]
theorem zc {i j:Int} {M:Mem} {Q:QD}:kQ [.int i, .int j] M Q=Q (.int (if j < i then j else i)) M:=by
 apply propext;constructor
 ·rintro ⟨a,b,e,q⟩;cases e;exact q
 ·exact fun q=>⟨i,j,rfl,q⟩
theorem B0 {ds:List D} {M:Mem} {Q:QD}:eO [.con ds] M Q=Q (.int ds.length) M:=by simp [eO,gU]
theorem B1 {ds:List D} {M:Mem} {Q:QD}:eO [.tup ds] M Q=Q (.int ds.length) M:=by simp [eO,gU]
theorem tQ {ds:List D} {M:Mem}:au M (.tup ds)=some ds:=rfl
theorem tR {ds:List D} {M:Mem}:au M (.con ds)=some ds:=rfl
theorem xA {α:Sort _} {a b : α}:(if true=true then a else b)=a:=rfl
theorem xB {α:Sort _} {a b : α}:(if false=true then a else b)=b:=rfl
theorem zd {ta tb:TEd} {ρ:aq} {M:Mem} {R:List D->(Mem->Prop)->Mem->Prop}:mj ta tb ρ M R=ta ρ M fun x j=>tb ρ j fun y M2 => ∃ xs ys,au M2 x=some xs/\au M2 y=some ys/\R (List.zipWith gh xs ys) (fun M=>au M x=some xs/\au M y=some ys) M2:=by
 unfold mj aI
 congr 1;funext x j
 unfold bm
 congr 1;funext y M2
 apply propext;constructor
 ·rintro ⟨x',y',xs,ys,e,q⟩
  cases e;exact ⟨xs,ys,q⟩
 ·rintro ⟨xs,ys,q⟩
  exact ⟨x,y,xs,ys,rfl,q⟩
theorem tS {x y:Str} {M:Mem} {Q:QD}:gT (.str x) (.str y) M Q=(x.length+y.length<=sizeLine/\Q (.str (x++y)) M):=rfl
local macro_rules | `(tactic| walk_at "wp") => `(tactic| ((try dsimp only [wS,wE,wA,wAnds,wOrs,wO,wT,wAndTs,wOrTs,wTl,wI,wCl,wCmp,bG,bGs,opB,opC,opF,opM,qG,opI,cm,wC,wOp,wUn,bm,aI,wAr,gR,lB,lD,lV,iE,iF,lW,iG,lZ,iH,wIf,dZ,iI,wSl,iJ,fM,iS,iX,wBM,bn,eQ,bv,jx,mf,iN,j4,iL,iM,cn,bg,df,gj,jn,gk,mq,fH,iP,iQ,mv,sIf,gX,mw,mz,fI,mC,iR,tI,tJ,tS,tK,tL,tM,pq,tN,tO,xw,xx,qQ,xz,pv,pz,pA,tP,tQ,tR,pi,pj,xA,xB,List.getElem?_cons_zero,List.getElem?_cons_succ,List.set_cons_zero,List.set_cons_succ,Option.bind_some,Option.map_some,Option.join_some,Option.bind_none,Option.join_none,List.map_cons,List.map_nil,List.length_cons,List.length_nil]);(try simp only [wS,wE,wA,wAnds,wOrs,wO,wT,wAndTs,wOrTs,wTl,wI,wCl,wCmp,bG,bGs,opB,opC,opF,opM,qG,opI,cm,wC,wOp,wUn,bm,aI,wAr,gR,lB,lD,lV,iE,iF,lW,iG,lZ,iH,wIf,dZ,iI,wSl,iJ,fM,iS,iX,wBM,bn,eQ,bv,jx,mf,zd,iN,j4,iL,iM,cn,bg,df,gj,jn,gk,mq,fH,iP,iQ,mv,sIf,gX,mw,mz,fI,mC,iR,z9,
 tI,tJ,tS,tK,tL,tM,pq,tN,tO,xw,xx,qQ,xz,pv,pz,pA,tP,AX,AY,BU,BV,AZ,zc,B0,B1,tQ,tR,pi,pj,xA,xB,Bool.false_eq_true,if_false,if_true,
 List.getElem?_cons_zero,List.getElem?_cons_succ,List.set_cons_zero,List.set_cons_succ,Option.some.injEq,exists_eq_left',exists_eq_left,exists_eq_right,exists_and_left,exists_and_right,D.bl.injEq,D.int.injEq,D.ref.injEq,D.tup.injEq,Option.bind_some,Option.map_some,Option.join_some,Option.bind_none,Option.join_none,List.map_cons,List.map_nil,decide_eq_true_eq,List.cons.injEq,and_true,true_and,List.length_cons,List.length_nil])))
local macro_rules | `(tactic| walk_at "st") => `(tactic| ((first | rw [bM] | (dsimp only;rw [bM]));walk_at "wp"))
theorem B2 {a:Addr} {t:Bool} {kvs:List (D×D)} {k d:D} {M:Mem} {Q:QD} (h:M a=some (.dct t kvs)) (ok:gb t k=true) (e:dget kvs k=some d) (q:Q d M):wIx (.ref a) k M Q := .inr (.inl ⟨t,kvs,d,h,ok,e,q⟩)
theorem tT {a:Addr} {kvs:List (D×D)} {k d:D} {M:Mem} {Q:QD} (h:M a=some (.fdc kvs)) (ok:bV k=true) (e:dget kvs k=some d) (q:Q d M):wIx (.ref a) k M Q := .inr (.inr ⟨kvs,d,h,ok,e,q⟩)
theorem ze {i:Nat} {t:TSd} {A:bf} {ρ:aq} {M:Mem} {a:Addr} {kvs:List (D×D)} (e : ρ[i]? = some (some (.ref a))) (m:M a=some (.dct true kvs)) (h:t A ρ (af M a (.fdc kvs))):qF i t A ρ M:=⟨a,kvs,e, .inl ⟨m,h⟩⟩
theorem i6 {a:Addr} {t:Bool} {kvs:List (D×D)} {k v:D} {M:Mem} {Q:Mem->Prop} (h:M a=some (.dct t kvs)) (ok:gb t k=true) (j:kvs.length < sizeLine) (q:Q (af M a (.dct t (cb kvs k v)))):eS (.ref a) k v M Q:=⟨a,rfl, .inr ⟨t,kvs,h,ok,j,q⟩⟩
noncomputable def Ge (M M':Mem):Prop := ∀ a o,M a=some o->M' a=some o
theorem Ge.refl {M:Mem}:Ge M M:=fun _ _ h=>h
theorem Ge.trans {M M' M'':Mem} (h:Ge M M') (g:Ge M' M''):Ge M M'':=fun _ _ e=>g _ _ (h _ _ e)
theorem Ge.new {M:Mem} {p:Addr} {o:O} (h:M p=none):Ge M (af M p o):=fun a o' e=>by
 rw [aR (fun z=>by rw [z,h] at e;cases e)];exact e
noncomputable def Box (b:Addr) (M:Mem):Prop := ∃ x y z:Int,M b=some (.lst [.int x, .int y, .int z])
structure Bx (b:Addr) (M M':Mem):Prop where
 box:Box b M'
 keep:∀ a o,a≠b->M a=some o->M' a=some o
theorem Bx.refl {b:Addr} {M:Mem} (h:Box b M):Bx b M M:=⟨h,fun _ _ _ e=>e⟩
theorem Bx.trans {b:Addr} {M M' M'':Mem} (h:Bx b M M') (g:Bx b M' M''):Bx b M M'':=⟨g.box,fun a o n e=>g.keep a o n (h.keep a o n e)⟩
theorem Bx.ge {b:Addr} {M M' M'':Mem} (h:Bx b M M') (g:Ge M' M''):Bx b M M'':=⟨by obtain ⟨x,y,z,e⟩:=h.box;exact ⟨x,y,z,g _ _ e⟩,fun a o n e=>g _ _ (h.keep a o n e)⟩
theorem Bx.put {b:Addr} {M:Mem} {x y z:Int}:Bx b M (af M b (.lst [.int x, .int y, .int z])):=⟨⟨x,y,z,ae⟩,fun a o n e=>by rw [aR n];exact e⟩
theorem Bx.of {b:Addr} {M M':Mem} (h:Box b M) (g:Ge M M'):Bx b M M':=(Bx.refl h).ge g
theorem wk {b:BT} {tb:TSd} {chk:Mem->Prop} {E:bf} (I:List D->aq->Mem->Prop) {xs:List D} {ρ:aq} {M:Mem}
 (h0:I [] ρ M)
 (j:∀ l ρ M,I l ρ M->chk M)
 (hs:∀ l x r ρ M,xs=l++x::r->I l ρ M -> ∃ ρ',b x ρ = some ρ' /\ ∀ F:aq->Mem->Prop,(∀ ρ2 M2,I (l++[x]) ρ2 M2->F ρ2 M2)->tb { E with nx:=F,ct:=F,bk:=E.nx } ρ' M)
 (n:∀ ρ M,I xs ρ M->E.nx ρ M):bp b tb chk E xs ρ M:=by
 have g:∀ (r l:List D) (ρ:aq) (M:Mem),xs=l++r->I l ρ M->bp b tb chk E r ρ M:=by
  intro r
  induction r with
  | nil=>intro l ρ M e i;rw [List.append_nil] at e;subst e;exact ⟨j _ _ _ i,n _ _ i⟩
  | cons x r ih =>
    intro l ρ M e i
    obtain ⟨ρ',e1,h⟩:=hs l x r ρ M e i
    exact ⟨j _ _ _ i, ρ',e1,h _ fun ρ2 M2 q=>ih (l++[x]) ρ2 M2 (by rw [e];simp) q⟩
 exact g xs [] ρ M rfl h0
section
variable {T:List FD}
noncomputable def j9 (s:Stmt):FD:=⟨"_law_cell_at",s,["_law_script", "_law_k"],2,
 (.cons (.ite (.cmp .lt (.var 1) (.blt .len (.cons (.var 0) .nil))) (.cons (.ret (.ix (.var 0) (.var 1)))
 .nil) .nil)
 (.cons (.ret (.int 0))
 .nil))⟩
theorem wl {α:Type} {xs:List α} {i:Int} (h0 : 0<=i) (h1:i < xs.length):∃ x,atI xs i=some x/\xs[i.toNat]? = some x:=by
 have:i.toNat < xs.length:=by lia
 refine ⟨xs[i.toNat], ?_,List.getElem?_eq_getElem this⟩
 unfold atI ixN
 simp [h0,h1,List.getElem?_eq_getElem this]
theorem zf {f:Nat} {s:Stmt} (hf:T[f]? = some (j9 s)) {n:Nat} (j : 1<=n) {ns:List Int} {k:Int} {M:Mem} {Q:QD} (h0 : 0<=k) (q:∀ i,Q (.int i) M):phi T n f [.con (ns.map D.int), .int k] M Q:=by
 refine aA j hf rfl (ρ := [some _,some _]) rfl ?_
 unfold j9
 walk_at "st"
 split
 ·next h =>
  walk_at "st"
  obtain ⟨x,e,e2⟩:=wl (xs:=ns.map D.int) h0 h
  rw [List.getElem?_map] at e2
  cases e3:ns[k.toNat]? with
  | none=>rw [e3] at e2;cases e2
  | some y=>rw [e3] at e2;cases e2;exact ⟨_,e,q y⟩
 ·walk_at "st"
  exact q 0
theorem dS {i j:Int} (h : -(2 ^ 64) < i/\i < 2 ^ 64):MulOk i j := .inl h
theorem jF {i j:Int} (h : -(2 ^ 64) < j/\j < 2 ^ 64):MulOk i j := .inr (.inl h)
noncomputable def pB (s:Stmt):FD:=⟨"_law_mixed",s,["_law_number_here", "_law_k", "_law_once", "_law_twice"],2,
 (.cons (.asg (.name 2) (.bin .mod (.bin .mul (.bin .add (.bin .add (.bin .mod (.var 0) (.int 1000000007)) (.bin .mul (.int 7) (.var 1))) (.int 1)) (.int 48271)) (.int 2147483647)))
 (.cons (.asg (.name 3) (.bin .mod (.bin .mul (.var 2) (.bin .add (.bin .add (.bin .mod (.var 2) (.int 1009)) (.var 1)) (.int 3))) (.int 998244353)))
 (.cons (.ret (.bin .fdiv (.bin .mod (.bin .add (.bin .mul (.var 3) (.int 39373)) (.var 2)) (.int 2147483629)) (.int 64)))
 .nil)))⟩
noncomputable def qR (s:Stmt) (fc fm:Nat):FD:=⟨"_law_box",s,["_law_script", "_law_k", "_law_cell"],2,
 (.cons (.asg (.name 2) (.call fc (.cons (.var 0) (.cons (.var 1) .nil))))
 (.cons (.ret (.lst (.cons (.bin .mul (.blt .abs (.cons (.var 2) .nil)) (.blt .int (.cons (.cmp .ge (.blt .abs (.cons (.var 2) .nil)) (.bin .pow (.int 10) (.int 18))) .nil))) (.cons (.call fm (.cons (.var 2) (.cons (.bin .add (.int 900) (.var 1)) .nil))) (.cons (.int 0) .nil)))))
 .nil))⟩
theorem B3 {f fc fm:Nat} {s sc:Stmt} (hf:T[f]? = some (qR s fc fm)) (z:T[fc]? = some (j9 sc)) {n:Nat} (B:∀ {x k:Int} {M:Mem} {Q:QD},(∀ i,Q (.int i) M)->phi T (n - 1) fm [.int x, .int k] M Q) (G : 2<=n) {ns:List Int} {k:Int} {M:Mem} {Q:QD} (h0 : 0<=k)
 (q:∀ p x y,M p=none->Q (.ref p) (af M p (.lst [.int x, .int y, .int 0]))):phi T n f [.con (ns.map D.int), .int k] M Q:=by
 refine aA (by lia) hf rfl (ρ := [some _,some _,none]) rfl ?_
 unfold qR
 walk_at "st"
 refine zf z (by lia) h0 fun i => ?_
 walk_at "st"
 refine ⟨by decide,by decide,by decide,jF ?_, ?_⟩
 ·split <;> lia
 refine B fun j => ?_
 exact ⟨by rw [sizeLine_eq];lia,fun p F=>q p _ _ F⟩
noncomputable def nC (s:Stmt) (fm:Nat):FD:=⟨"_law_take",s,["_law_box_here", "_law_many", "_law_found", "_law_reach"],2,
 (.cons (.ite (.cmp .gt (.ix (.var 0) (.int 0)) (.int 0)) (.cons (.asg (.name 2) (.bin .mod (.ix (.var 0) (.int 0)) (.var 1)))
 (.cons (.put (.var 0) (.int 0) (.bin .fdiv (.ix (.var 0) (.int 0)) (.var 1)))
 (.cons (.ret (.var 2))
 .nil))) .nil)
 (.cons (.asg (.tup (.cons (.name 2) (.cons (.name 3) .nil))) (.tup (.cons (.int 0) (.cons (.int 1) .nil))))
 (.cons (.while (.cmp .lt (.var 3) (.var 1)) (.cons (.put (.var 0) (.int 2) (.bin .add (.ix (.var 0) (.int 2)) (.int 1)))
 (.cons (.asg (.name 2) (.bin .add (.bin .mul (.var 2) (.int 33554432)) (.call fm (.cons (.ix (.var 0) (.int 1)) (.cons (.ix (.var 0) (.int 2)) .nil)))))
 (.cons (.asg (.name 3) (.bin .mul (.var 3) (.int 33554432)))
 .nil))))
 (.cons (.ret (.bin .mod (.var 2) (.var 1)))
 .nil))))⟩
noncomputable def qS (T:List FD) (n fm:Nat):Prop := ∀ {x k:Int} {M:Mem} {Q:QD},(∀ i,Q (.int i) M)->phi T n fm [.int x, .int k] M Q
theorem zg {f fm:Nat} {s:Stmt} (hf:T[f]? = some (nC s fm)) {n:Nat} (I:qS T (n - 1) fm) (L : 2<=n) {b:Addr} {m:Int} {M:Mem} {Q:QD} (J:Box b M) (h1 : 0 < m) (h2:m<=2 ^ 100)
 (q:∀ r M',0<=r->r < m->Bx b M M'->Q (.int r) M'):phi T n f [.ref b, .int m] M Q:=by
 refine aA (by lia) hf rfl (ρ := [some _,some _,none,none]) rfl ?_
 unfold nC
 obtain ⟨x,y,z,G⟩:=J
 walk_at "st"
 refine bj G (d := .int x) rfl ?_
 simp only [qQ]
 walk_at "wp"
 split
 ·next hx =>
  walk_at "st"
  refine bj G (d := .int x) rfl ?_
  walk_at "wp"
  refine ⟨h1, ?_⟩
  walk_at "st"
  refine bj G (d := .int x) rfl ?_
  walk_at "wp"
  refine ⟨h1,by lia, ?_⟩
  refine ce G (j := 0) rfl ?_
  walk_at "st"
  exact q _ _ (Int.emod_nonneg _ (by lia)) (Int.emod_lt_of_pos _ h1) Bx.put
 ·next hx =>
  walk_at "st"
  refine ⟨by rw [sizeLine_eq];lia, ?_⟩
  walk_at "st"
  refine ⟨5, ?_⟩
  have go:∀ (f:Nat) (found reach z:Int) (M':Mem),m<=reach*33554432 ^ f->M' b=some (.lst [.int x, .int y, .int z])->Bx b M M' ->
   b8 (gR (wOp wLt (cm 3) (cm 1))) (wSs (phi T (n - 1)) (MSs.cons (MS.put (ME.var 0) (ME.int 2) (ME.bin BOp.add ((ME.var 0).ix (ME.int 2)) (ME.int 1)))
    (MSs.cons (MS.asg (MG.name 2) (ME.bin BOp.add (ME.bin BOp.mul (ME.var 2) (ME.int 33554432)) (ME.call fm (MEs.cons ((ME.var 0).ix (ME.int 1)) (MEs.cons ((ME.var 0).ix (ME.int 2)) MEs.nil)))))
      (MSs.cons (MS.asg (MG.name 3) (ME.bin BOp.mul (ME.var 3) (ME.int 33554432))) MSs.nil))))
    { nx:=wSs (phi T (n - 1)) (MSs.cons (MS.ret (ME.bin BOp.mod (ME.var 2) (ME.var 1))) MSs.nil) { nx:=fun x M'=>Q D.non M',rt:=Q },rt:=Q } (f+1) [some (.ref b),some (.int m),some (.int found),some (.int reach)] M':=by
   intro f
   induction f with
   | zero =>
     intro found reach z M' hm F B
     simp only [b8]
     walk_at "wp"
     rw [if_neg (by lia)]
     walk_at "st"
     exact ⟨h1,q _ _ (Int.emod_nonneg _ (by lia)) (Int.emod_lt_of_pos _ h1) B⟩
   | succ f ih =>
     intro found reach z M' hm F B
     rw [b8]
     walk_at "wp"
     split
     ·next O =>
      walk_at "st"
      refine bj F (d := .int z) rfl ?_
      walk_at "wp"
      refine ce F (j := 2) rfl ?_
      walk_at "st"
      refine ⟨jF (by decide), ?_⟩
      refine bj ae (d := .int y) rfl ?_
      refine bj ae (d := .int (z+1)) rfl ?_
      refine I fun i => ?_
      walk_at "wp"
      walk_at "st"
      refine ⟨jF (by decide), ?_⟩
      exact ih _ _ (z+1) _ (by rw [Int.mul_assoc, <- Int.pow_succ'];exact hm) ae (B.trans Bx.put)
     ·walk_at "st"
      exact ⟨h1,q _ _ (Int.emod_nonneg _ (by lia)) (Int.emod_lt_of_pos _ h1) B⟩
  exact go 4 0 1 z M (by lia) G (Bx.refl ⟨x,y,z,G⟩)
noncomputable def ja (T:List FD) (n f:Nat):Prop := ∀ {b:Addr} {m:Int} {M:Mem} {Q:QD},Box b M->0 < m->m<=2 ^ 100->(∀ r M',0<=r->r < m->Bx b M M'->Q (.int r) M')->phi T n f [.ref b, .int m] M Q
end
section
variable {T:List FD}
theorem eX {lo:Int} {n:Nat}:(bo lo n).length=n:=by simp [bo]
theorem al {α:Type} {xs l r:List α} {x : α} (e:xs=l++x::r):l.length < xs.length:=by rw [e];simp
theorem fQ {α:Type} {xs l r:List α} {x : α} (e:xs=l++x::r):xs[l.length]? = some x:=by rw [e];simp
theorem tU {lo:Int} {n:Nat} {l r:List D} {x:D} (e:bo lo n=l++x::r):x = .int (lo+(l.length:Nat)):=by
 have h:=fQ e
 have h2:=al e
 rw [eX] at h2
 simp [bo,List.getElem?_map,List.getElem?_range h2] at h
 exact h.symm
noncomputable abbrev Pr:=List Int×List Int×List Int
noncomputable def prD (p:Pr):D := .tup [.tup (p.1.map .int), .tup (p.2.1.map .int), .tup (p.2.2.map .int)]
noncomputable def eY (p:Pr):PyData := .tuple [.tuple (p.1.map .int), .tuple (p.2.1.map .int), .tuple (p.2.2.map .int)]
theorem pC {k:Nat} {M:Mem}:∀ ns:List Int,aJ (rb k M) (ns.map D.int)=some (ns.map PyData.int)
 | [] => rfl
 | x::r=>by
   have e:rb k M (.int x)=some (.int x):=by cases k <;> rfl
   simp [aJ,e,pC r]
theorem BW {k:Nat} {M:Mem} (p:Pr):rb (k+2) M (prD p)=some (eY p):=by
 simp [rb,prD,eY,aJ,pC]
theorem tV {k:Nat} {M:Mem}:∀ ps:List Pr,aJ (rb (k+2) M) (ps.map prD)=some (ps.map eY)
 | [] => rfl
 | p::r=>by simp [aJ,BW,tV r]
theorem B4 {k:Nat} {M:Mem} {a:Addr} {ds:List D} (h:M a=some (.lst ds)):rb (k+1) M (.ref a)=(aJ (rb k M) ds).map PyData.list:=by
 simp only [rb,h]
theorem eZ {Φ:Phi} {s:MS} {r:MSs} {E:bf} {ρ:aq} {M:Mem} (I:aq->Mem->Prop) (h1:∀ R:aq->Mem->Prop,(∀ ρ M,I ρ M->R ρ M)->wS Φ s { E with nx:=R } ρ M) (h2:∀ ρ M,I ρ M->wSs Φ r E ρ M):wSs Φ (.cons s r) E ρ M:=by
 rw [bM];exact h1 _ h2
theorem Bx.upd {b q:Addr} {M M':Mem} {o:O} (h:Bx b M M') (n:M q=none) (j:q≠b):Bx b M (af M' q o) :=
 ⟨by obtain ⟨x,y,z,e⟩:=h.box;exact ⟨x,y,z,by rw [aR j.symm];exact e⟩,fun u o' nu eu=>by
   rw [aR (fun z=>by rw [z,n] at eu;cases eu)];exact h.keep u o' nu eu⟩
theorem Bx.none {b q:Addr} {M M':Mem} (h:Bx b M M') (n:M' q=none) (j:q≠b):M q=none:=by
 cases e:M q with
 | none=>rfl
 | some o=>rw [h.keep q o j e] at n;cases n
end
section
theorem aW {α:Type} {f : α -> D} {b:BT} {tb:TCd} {chk:Mem->Prop} {N:NC} (I:List α -> aq->Mem->List D->Prop) {ys:List α} {xs:List D} (hx:xs=ys.map f) {ρ:aq} {M:Mem} {acc:List D}
 (h0:I [] ρ M acc)
 (n:∀ l ρ M acc,I l ρ M acc->chk M)
 (hs:∀ l x r ρ M acc,ys=l++x::r->I l ρ M acc -> ∃ ρ',b (f x) ρ = some ρ' /\ ∀ N':NC,(∀ ρ2 M2 j,I (l++[x]) ρ2 M2 j->N' ρ2 M2 j)->tb ρ' M acc N')
 (q:∀ ρ M acc,I ys ρ M acc->N ρ M acc):bR b tb chk N xs ρ M acc:=by
 subst hx
 have g:∀ (r l:List α) (ρ:aq) (M:Mem) (acc:List D),ys=l++r->I l ρ M acc->bR b tb chk N (r.map f) ρ M acc:=by
  intro r
  induction r with
  | nil=>intro l ρ M acc e i;rw [List.append_nil] at e;subst e;exact ⟨n _ _ _ _ i,q _ _ _ i⟩
  | cons x r ih =>
    intro l ρ M acc e i
    obtain ⟨ρ',e1,h⟩:=hs l x r ρ M acc e i
    exact ⟨n _ _ _ _ i, ρ',e1,h _ fun ρ2 M2 j z=>ih (l++[x]) ρ2 M2 j (by rw [e];simp) z⟩
 exact g ys [] ρ M acc rfl h0
theorem aH {α:Type} {f : α -> D} {b:BT} {tb:TSd} {chk:Mem->Prop} {E:bf} (I:List α -> aq->Mem->Prop) {ys:List α} {xs:List D} (hx:xs=ys.map f) {ρ:aq} {M:Mem}
 (h0:I [] ρ M)
 (j:∀ l ρ M,I l ρ M->chk M)
 (hs:∀ l x r ρ M,ys=l++x::r->I l ρ M -> ∃ ρ',b (f x) ρ = some ρ' /\ ∀ F:aq->Mem->Prop,(∀ ρ2 M2,I (l++[x]) ρ2 M2->F ρ2 M2)->tb { E with nx:=F,ct:=F,bk:=E.nx } ρ' M)
 (n:∀ ρ M,I ys ρ M->E.nx ρ M):bp b tb chk E xs ρ M:=by
 subst hx
 have g:∀ (r l:List α) (ρ:aq) (M:Mem),ys=l++r->I l ρ M->bp b tb chk E (r.map f) ρ M:=by
  intro r
  induction r with
  | nil=>intro l ρ M e i;rw [List.append_nil] at e;subst e;exact ⟨j _ _ _ i,n _ _ i⟩
  | cons x r ih =>
    intro l ρ M e i
    obtain ⟨ρ',e1,h⟩:=hs l x r ρ M e i
    exact ⟨j _ _ _ i, ρ',e1,h _ fun ρ2 M2 q=>ih (l++[x]) ρ2 M2 (by rw [e];simp) q⟩
 exact g ys [] ρ M rfl h0
theorem pE {M M':Mem} {x:D} {ds:List D} (h:au M x=some ds) (g:Ge M M'):au M' x=some ds:=by
 cases x with
 | ref a =>
   simp only [au] at h ⊢
   split at h
   ·next e=>rw [g _ _ e];exact h
   ·cases h
 | _=>exact h
theorem wm {M:Mem} {x:D} {ds:List D} (h:au M x=some ds):gU M x=some ds.length:=by
 cases x with
 | ref a =>
   simp only [au] at h
   split at h
   ·next e=>cases h;simp only [gU,e]
   ·cases h
 | tup es=>cases h;rfl
 | con es=>cases h;rfl
 | _=>cases h
theorem jG {M:Mem} {x:D} {ds:List D} {Q:QD} (h:au M x=some ds) (q:Q (.int ds.length) M):eO [x] M Q:=⟨_,_,rfl,wm h,q⟩
theorem dl {α:Type} {xs:List α} {k:Nat} {x : α} (h:xs[k]? = some x):atI xs (k:Int)=some x:=by
 have j:k < xs.length:=(List.getElem?_eq_some_iff.mp h).1
 unfold atI ixN
 rw [if_pos (by lia),if_pos (by lia)]
 exact h
theorem aN {n:Nat}:bo 0 n=(List.range n).map fun i=>D.int (i:Nat):=by simp [bo]
end
section
variable {T:List FD}
noncomputable def Big (ns:List Int):Prop := ∀ x∈ns, -1000000000000<=x/\x<=1000000000000
end
section
variable {T:List FD}
noncomputable def nD (x:Str) (s:Stmt):FD:=⟨"_law_mixed",s,[x, "_law_k", "_law_once", "_law_twice"],2,(pB s).body⟩
theorem tW {f:Nat} {x:Str} {s:Stmt} (hf:T[f]? = some (nD x s)) {n:Nat} (j : 1<=n):qS T n f:=by
 intro x k M Q q
 refine aA j hf rfl (ρ := [some _,some _,none,none]) rfl ?_
 unfold nD pB
 walk_at "st"
 refine ⟨by decide,dS (by decide),jF (by decide),by decide, ?_⟩
 walk_at "st"
 refine ⟨by decide,dS ?_,by decide, ?_⟩
 ·have h1:=Int.emod_nonneg ((x % 1000000007+7*k+1)*48271) (b := 2147483647) (by decide)
  have h2:=Int.emod_lt_of_pos ((x % 1000000007+7*k+1)*48271) (b := 2147483647) (by decide)
  lia
 walk_at "st"
 refine ⟨jF (by decide),by decide,by decide,by decide, ?_⟩
 exact q _
end
section
open PySem PySem.Spec PyProof.Rows L2.Srt
variable {T:List FD}
noncomputable abbrev K3:=Int×Int×Int
noncomputable abbrev Tm:=K3×Int
noncomputable def k3D (k:K3):D := .tup [.int k.1, .int k.2.1, .int k.2.2]
noncomputable def kcD (t:Tm):D×D:=(k3D t.1, .int t.2)
noncomputable def k3K (k:K3):Ky := .tup [.int k.1, .int k.2.1, .int k.2.2]
noncomputable def klt (a b:K3):Prop:=ltK (k3K a) (k3K b)=true
theorem gA {a b:K3} (h:k3D a=k3D b):a=b:=by
 obtain ⟨a1,a2,j⟩:=a
 obtain ⟨b1,b2,b3⟩:=b
 simp [k3D] at h
 simp [h]
theorem zh {a b:K3} (h:k3K a=k3K b):a=b:=by
 obtain ⟨a1,a2,j⟩:=a
 obtain ⟨b1,b2,b3⟩:=b
 simp [k3K] at h
 simp [h]
noncomputable def cf (ts:List Tm) (k:K3):Int:=((ts.filter fun t=>decide (t.1=k)).map (·.2)).sum
theorem eB {k:K3}:cf [] k=0:=rfl
theorem aS {t:Tm} {ts:List Tm} {k:K3}:cf (t::ts) k=(if t.1=k then t.2 else 0)+cf ts k:=by
 unfold cf
 by_cases h:t.1=k
 ·rw [List.filter_cons_of_pos (by simpa using h),if_pos h];simp
 ·rw [List.filter_cons_of_neg (by simpa using h),if_neg h];simp
theorem cK {a b:List Tm} {k:K3}:cf (a++b) k=cf a k+cf b k:=by
 induction a with
 | nil=>simp [eB]
 | cons t a ih=>rw [List.cons_append,aS,aS,ih];lia
theorem pF {a b:List Tm} (h:a.Perm b) {k:K3}:cf a k=cf b k:=by
 induction h with
 | nil=>rfl
 | cons x h ih=>rw [aS,aS,ih]
 | swap x y l=>simp only [aS];lia
 | trans _ _ j n=>rw [j,n]
theorem gB {ts:List Tm} {k:K3} (h:∀ t∈ts,t.1≠k):cf ts k=0:=by
 induction ts with
 | nil=>rfl
 | cons t ts ih=>rw [aS,if_neg (h t (by simp)),ih fun u j=>h u (by simp [j])];rfl
theorem dE {ts:List Tm} (j:(ts.map (·.1)).Nodup) {t:Tm} (n:t∈ts):cf ts t.1=t.2:=by
 induction ts with
 | nil=>simp at n
 | cons u ts ih =>
   simp only [List.map_cons,List.nodup_cons] at j
   rw [aS]
   rcases List.mem_cons.mp n with z | z
   ·subst z
    rw [if_pos rfl,gB fun v q e=>j.1 (by rw [<- e];exact List.mem_map_of_mem q)]
    lia
   ·rw [if_neg fun e=>j.1 (by rw [e];exact List.mem_map_of_mem z),ih j.2 z];lia
noncomputable def dF (L:List Tm) (k:K3) (c:Int):List Tm:=if (L.any fun p=>decide (p.1=k))=true then L.map fun p=>if p.1=k then (p.1,p.2+c) else p else L++[(k,c)]
theorem pG {L:List Tm} {k:K3}:dget (L.map kcD) (k3D k)=(L.find? fun p=>decide (p.1=k)).map fun p => .int p.2:=by
 unfold dget
 induction L with
 | nil=>rfl
 | cons t L ih =>
   by_cases h:t.1=k
   ·rw [List.map_cons,List.find?_cons_of_pos (by simp [kcD,h]),List.find?_cons_of_pos (by simpa using h)];rfl
   ·rw [List.map_cons,List.find?_cons_of_neg (by simp only [decide_eq_true_eq];exact fun e=>h (gA e)),List.find?_cons_of_neg (by simpa using h),ih]
theorem tX {L:List Tm} {k:K3}:((L.map kcD).any fun p=>decide (p.1=k3D k))=L.any fun p=>decide (p.1=k):=by
 induction L with
 | nil=>rfl
 | cons t L ih =>
   rw [List.map_cons,List.any_cons,List.any_cons,ih]
   congr 1
   by_cases h:t.1=k
   ·simp [kcD,h]
   ·rw [decide_eq_false h];exact decide_eq_false (fun e=>h (gA e))
theorem zi {L:List Tm} (j:(L.map (·.1)).Nodup) {k:K3} {c:Int}:cb (L.map kcD) (k3D k) (.int ((((L.find? fun p=>decide (p.1=k)).map (·.2)).getD 0)+c))=(dF L k c).map kcD:=by
 unfold cb dF
 rw [tX]
 split
 ·next h =>
  rw [List.map_map,List.map_map]
  apply List.map_congr_left
  intro t n
  simp only [Function.comp]
  by_cases e:t.1=k
  ·rw [if_pos (by rw [<- e];rfl),if_pos e]
   have:L.find? (fun p=>decide (p.1=k))=some t:=by
    clear h
    induction L with
    | nil=>simp at n
    | cons u L ih =>
      simp only [List.map_cons,List.nodup_cons] at j
      rcases List.mem_cons.mp n with z | z
      ·subst z;rw [List.find?_cons_of_pos (by simpa using e)]
      ·rw [List.find?_cons_of_neg (by simp;intro e2;exact j.1 (by rw [e2, <- e];exact List.mem_map_of_mem z))]
       exact ih j.2 z
   rw [this];rfl
  ·rw [if_neg (c:=(kcD t).1=k3D k) (fun z=>e (gA z)),if_neg e]
 ·next h =>
  have:L.find? (fun p=>decide (p.1=k))=none:=by
   rw [List.find?_eq_none]
   intro x hx
   simp only [decide_eq_true_eq]
   intro e
   exact h (List.any_eq_true.mpr ⟨x,hx,by simpa using e⟩)
  rw [this];simp [kcD]
theorem tY {L:List Tm} {k:K3} {c:Int}:(dF L k c).map (·.1)=if (L.any fun p=>decide (p.1=k))=true then L.map (·.1) else L.map (·.1)++[k]:=by
 unfold dF
 split
 ·rw [List.map_map]
  apply List.map_congr_left
  intro t _
  simp only [Function.comp]
  split <;> rfl
 ·simp
theorem qT {L:List Tm} (j:(L.map (·.1)).Nodup) {k:K3} {c:Int}:((dF L k c).map (·.1)).Nodup:=by
 rw [tY]
 split
 ·exact j
 ·next h =>
  refine List.nodup_append.mpr ⟨j,by simp,fun a q b n e => ?_⟩
  simp at n;subst n;subst e
  obtain ⟨t,z,e⟩:=List.mem_map.mp q
  exact h (List.any_eq_true.mpr ⟨t,z,by simpa using e⟩)
theorem wn {L:List Tm} {k:K3} {c:Int}:(dF L k c).length<=L.length+1:=by
 unfold dF;split <;> simp
theorem zj {L:List Tm} (j:(L.map (·.1)).Nodup) {k a:K3} {c:Int}:cf (dF L k c) a=cf L a+if k=a then c else 0:=by
 unfold dF
 split
 ·next h =>
  obtain ⟨t,n,e⟩:=List.any_eq_true.mp h
  have e:t.1=k:=by simpa using e
  clear h
  induction L with
  | nil=>simp at n
  | cons u L ih =>
    simp only [List.map_cons,List.nodup_cons] at j
    rw [List.map_cons,aS,aS]
    by_cases eu:u.1=k
    ·have rest:(L.map fun p=>if p.1=k then (p.1,p.2+c) else p)=L:=by
      conv=>rhs;rw [<- List.map_id L]
      apply List.map_congr_left
      intro p q
      rw [if_neg fun z=>j.1 (by rw [eu, <- z];exact List.mem_map_of_mem q)];rfl
     rw [rest,if_pos eu]
     dsimp only
     by_cases ea:u.1=a
     ·rw [if_pos ea,if_pos ea,if_pos (by rw [<- eu];exact ea)];lia
     ·rw [if_neg ea,if_neg ea,if_neg (by rw [<- eu];exact ea)];lia
    ·rcases List.mem_cons.mp n with z | z
     ·exact absurd (by rw [<- z];exact e) eu
     ·rw [ih j.2 z,if_neg eu];lia
 ·rw [cK,aS,eB];simp
noncomputable def tset (ts:List Tm):List Tm:=ts.foldl (fun L t=>dF L t.1 t.2) []
theorem dP {ts:List Tm} {t:Tm}:tset (ts++[t])=dF (tset ts) t.1 t.2:=by simp [tset]
theorem fb {α:Type} {P:List α -> Prop} (h0:P []) (h1:∀ l x,P l->P (l++[x])) (l:List α):P l:=by
 have:∀ r:List α,P r.reverse:=by
  intro r
  induction r with
  | nil=>exact h0
  | cons x r ih=>rw [List.reverse_cons];exact h1 _ _ ih
 have:=this l.reverse
 rw [List.reverse_reverse] at this
 exact this
theorem fe (ts:List Tm):((tset ts).map (·.1)).Nodup:=fb (P:=fun ts=>((tset ts).map (·.1)).Nodup) (by simp [tset]) (fun l x ih=>by rw [dP];exact qT ih) ts
theorem zk (ts:List Tm) (k:K3):cf (tset ts) k=cf ts k:=fb (P:=fun ts=>cf (tset ts) k=cf ts k) rfl (fun l x ih=>by
 rw [dP,zj (fe l),ih,cK,aS,eB];lia) ts
theorem nE (ts:List Tm):(tset ts).length<=ts.length:=fb (P:=fun ts=>(tset ts).length<=ts.length) (by simp [tset]) (fun l x ih=>by
 rw [dP];have:=wn (L:=tset l) (k:=x.1) (c:=x.2);simp;lia) ts
theorem BX {ts:List Tm} {k:K3}:Mi.cf (ts.filter fun t => !(t.2==0)) k=Mi.cf ts k:=by
 induction ts with
 | nil=>rfl
 | cons t ts ih =>
   rw [aS]
   by_cases h:t.2=0
   ·rw [List.filter_cons_of_neg (by simp [h]),ih,h];split <;> lia
   ·rw [List.filter_cons_of_pos (by simp [h]),aS,ih]
theorem Ge.upd {M j:Mem} {d:Addr} {o:O} (g:Ge M j) (hd:M d=none):Ge M (af j d o):=fun a o' e=>by
 rw [aR (fun z=>by rw [z,hd] at e;cases e)];exact g _ _ e
end
section
open PySem PySem.Spec PyProof.Rows L2.Srt
variable {T:List FD}
noncomputable def bx (n:Nat) (F:Nat->Int):Int:=((List.range n).map F).sum
theorem bA {n:Nat} {F G:Nat->Int} (h:∀ i,i < n->F i=G i):bx n F=bx n G:=by
 unfold bx
 rw [List.map_congr_left fun i hi=>h i (List.mem_range.mp hi)]
theorem cL {n:Nat} {F:Nat->Int}:bx (n+1) F=bx n F+F n:=by
 unfold bx
 rw [List.range_succ];simp
theorem wo {n:Nat} {F G:Nat->Int}:bx n (fun i=>F i+G i)=bx n F+bx n G:=by
 induction n with
 | zero=>rfl
 | succ n ih=>rw [cL,cL,cL,ih];lia
theorem fR {n:Nat} {F:Nat->Int} (h:∀ i,i < n->F i=0):bx n F=0:=by
 induction n with
 | zero=>rfl
 | succ n ih=>rw [cL,ih fun i hi=>h i (by lia),h n (by lia)];rfl
noncomputable def cE (n m:Nat) (g:Nat->Nat->Tm):List Tm:=(List.range n).flatMap fun i=>(List.range m).map (g i)
noncomputable def bB (i j:Nat):Tm:=(((i+j:Nat),(i:Int),(j:Int)),1)
noncomputable def b9 (n:Nat) (t:Int) (i j:Nat):Tm:=if i+j < n then (((i+j:Nat),(i:Int),(j:Int)),1) else (((i+j - n:Nat),(i:Int),(j:Int)),t)
noncomputable def bY (n m:Nat):List Tm:=cE n m bB
noncomputable def ff (n:Nat) (t:Int):List Tm:=cE n n (b9 n t)
end
section
open PySem PySem.Spec PyProof.Rows L2.Srt
variable {T:List FD}
theorem wp {n m:Nat} {g:Nat->Nat->Tm}:(cE n m g).length=n*m:=by
 unfold cE
 rw [List.length_flatMap]
 induction n with
 | zero=>simp
 | succ n ih=>rw [List.range_succ,List.map_append,List.sum_append,ih,Nat.succ_mul];simp
end
section
open PySem PySem.Spec PyProof.Rows L2.Srt
theorem jb {n m:Nat} {g:Nat->Nat->Tm} (z:∀ i j,(g i j).1.2=((i:Int),(j:Int))):((cE n m g).map (·.1)).Nodup:=by
 unfold cE
 rw [List.map_flatMap,List.nodup_iff_pairwise_ne,List.pairwise_flatMap]
 refine ⟨fun i _ => ?_, ?_⟩
 ·rw [List.map_map,List.pairwise_map]
  refine (List.nodup_iff_pairwise_ne.mp List.nodup_range).imp ?_
  intro a b q e
  have h:=congrArg (fun k:K3=>k.2.2) e
  simp only [Function.comp,z] at h
  lia
 ·refine (List.nodup_iff_pairwise_ne.mp List.nodup_range).imp ?_
  intro a b q x hx y B e
  rw [List.map_map] at hx B
  obtain ⟨u,_,rfl⟩:=List.mem_map.mp hx
  obtain ⟨v,_,rfl⟩:=List.mem_map.mp B
  have h:=congrArg (fun k:K3=>k.2.1) e
  simp only [Function.comp,z] at h
  lia
theorem wq {n m:Nat} {g:Nat->Nat->Tm} {t:Tm} (h:t∈cE n m g):∃ i j,i < n/\j < m/\t=g i j:=by
 obtain ⟨i,hi,h⟩:=List.mem_flatMap.mp h
 obtain ⟨j,q,rfl⟩:=List.mem_map.mp h
 exact ⟨i,j,List.mem_range.mp hi,List.mem_range.mp q,rfl⟩
theorem tZ {n:Nat} {t:Int} (i j:Nat):(b9 n t i j).1.2=((i:Int),(j:Int)):=by unfold b9;split <;> rfl
theorem fg {n:Nat} {t:Int}:((ff n t).map (·.1)).Nodup:=jb tZ
theorem fh {n m:Nat}:((bY n m).map (·.1)).Nodup:=jb fun _ _=>rfl
theorem zm {n:Nat} {t:Int} (q:t≠0):∀ u∈ff n t,u.2≠0:=fun u z=>by
 obtain ⟨i,j,_,_,rfl⟩:=wq z
 unfold b9;split
 ·exact Int.one_ne_zero
 ·exact q
end
section
open PySem PySem.Spec PyProof.Rows L2.Srt
variable {T:List FD}
theorem u4 {n k:Nat} {F:Nat->Int} (h:k < n):bx n (fun i=>if k=i then F i else 0)=F k:=by
 induction n with
 | zero=>lia
 | succ n ih =>
   rw [cL]
   by_cases e:k=n
   ·subst e
    rw [if_pos rfl,fR fun i hi=>if_neg (by lia)];lia
   ·rw [if_neg e,ih (by lia)];lia
end
section
open PySem PySem.Spec PyProof.Rows L2.Srt
variable {T:List FD}
noncomputable def cQ (L:List Tm) (k:K3) (c:Int):List Tm:=if (L.any fun p=>decide (p.1=k))=true then L.map (fun p=>if p.1=k then (p.1,c) else p) else L++[(k,c)]
theorem i7 {L:List Tm} {k:K3} {c:Int}:cb (L.map kcD) (k3D k) (.int c)=(cQ L k c).map kcD:=by
 unfold cb cQ
 rw [tX]
 split
 ·rw [List.map_map,List.map_map]
  refine List.map_congr_left fun p _ => ?_
  simp only [Function.comp]
  by_cases h:p.1=k
  ·rw [if_pos h,if_pos (show (kcD p).1=k3D k by show k3D p.1=k3D k;rw [h])];rfl
  ·rw [if_neg h,if_neg (show ¬ (kcD p).1=k3D k from fun z=>h (gA z))]
 ·rw [List.map_append];rfl
theorem qU {L:List Tm} (j:(L.map (·.1)).Nodup) {k:K3} {c:Int}:((cQ L k c).map (·.1)).Nodup:=by
 unfold cQ
 split
 ·rw [List.map_map]
  have e:L.map ((fun x:Tm=>x.1) ∘ fun p=>if p.1=k then (p.1,c) else p)=L.map (·.1):=List.map_congr_left fun p _=>by
   simp only [Function.comp];split <;> rfl
  rw [e];exact j
 ·next h =>
  rw [List.map_append,List.nodup_append]
  refine ⟨j,by simp,fun a q b n e => ?_⟩
  simp at n
  subst e n
  obtain ⟨p,z,rfl⟩:=List.mem_map.mp q
  exact h (List.any_eq_true.mpr ⟨p,z,by simp⟩)
theorem wt {L:List Tm} {k:K3} {c:Int} {t:Tm} (h:t∈cQ L k c):t∈L∨t=(k,c):=by
 unfold cQ at h
 split at h
 ·obtain ⟨p,j,rfl⟩:=List.mem_map.mp h
  by_cases e:p.1=k
  ·rw [if_pos e];exact .inr (by rw [e])
  ·rw [if_neg e];exact .inl j
 ·rcases List.mem_append.mp h with h | h
  ·exact .inl h
  ·exact .inr (by simpa using h)
theorem nF {L:List Tm} {k:K3} {c:Int}:(cQ L k c).length<=L.length+1:=by
 unfold cQ;split <;> simp
theorem ow {L:List Tm} (z:(L.map (·.1)).Nodup) {ys:List D} (n:ys.Perm ((L.map kcD).map (·.1))) (hs:mY ys):∃ rs:List Tm,rs.Perm L/\ys=rs.map (fun t=>k3D t.1)/\rs.Pairwise fun a b=>klt a.1 b.1:=by
 have e0:(L.map kcD).map (·.1)=L.map fun t=>k3D t.1:=by rw [List.map_map];rfl
 rw [e0] at n
 obtain ⟨rs,q,p2⟩:=ky (fun t:Tm=>k3D t.1) n rfl
 refine ⟨rs,q,p2.symm, ?_⟩
 have j:(rs.map (·.1)).Nodup:=(q.map (·.1)).nodup_iff.mpr z
 unfold mY at hs
 rw [<- p2,List.pairwise_map] at hs
 rw [List.nodup_iff_pairwise_ne,List.pairwise_map] at j
 refine (hs.and j).imp ?_
 rintro a b ⟨h1,h2⟩
 unfold klt
 cases e1:ltK (k3K a.1) (k3K b.1) with
 | true=>rfl
 | false=>exact absurd (zh (kr _ _ e1 h1)) h2
theorem fi {L:List Tm} (j:(L.map (·.1)).Nodup) {t:Tm} (n:t∈L):dget (L.map kcD) (k3D t.1)=some (.int t.2):=by
 rw [pG]
 have:L.find? (fun p=>decide (p.1=t.1))=some t:=by
  induction L with
  | nil=>simp at n
  | cons x L ih =>
    simp only [List.map_cons,List.nodup_cons] at j
    rcases List.mem_cons.mp n with z | z
    ·subst z;simp
    ·have:x.1≠t.1:=fun e=>j.1 (by rw [e];exact List.mem_map_of_mem z)
     rw [List.find?_cons_of_neg (by simpa using this)]
     exact ih j.2 z
 rw [this];rfl
theorem wu {L:List Tm} (j:(L.map (·.1)).Nodup):qB (L.map kcD)=L.map kcD:=by
 have g:∀ (r l:List Tm),(((l++r).map (·.1)).Nodup)->(r.map kcD).foldl (fun a kv=>cb a kv.1 kv.2) (l.map kcD)=(l++r).map kcD:=by
  intro r
  induction r with
  | nil=>intro l _;simp
  | cons t r ih =>
    intro l h
    rw [List.map_cons,List.foldl_cons]
    have e:cb (l.map kcD) (kcD t).1 (kcD t).2=(l++[t]).map kcD:=by
     show cb (l.map kcD) (k3D t.1) (.int t.2)=_
     rw [i7]
     unfold cQ
     rw [if_neg]
     intro z
     obtain ⟨p,n,e⟩:=List.any_eq_true.mp z
     rw [List.map_append,List.nodup_append] at h
     exact h.2.2 _ (List.mem_map_of_mem n) _ (List.mem_map_of_mem (List.mem_cons_self ..)) (of_decide_eq_true e)
    rw [e,ih (l++[t]) (by rw [List.append_assoc];exact h)]
    rw [List.append_assoc];rfl
 have:=g L [] (by simpa using j)
 simpa [qB] using this
theorem gC (k:K3):bV (k3D k)=true:=rfl
end
section
open PySem PySem.Spec PyProof.Rows L2.Srt
variable {T:List FD}
noncomputable def idx (l:List Int):List (Int×Int):=l.mapIdx fun i x=>((i:Nat),x)
noncomputable def nz (l:List Int):List (Int×Int):=(idx l).filter fun q => !(q.2==0)
noncomputable def pD (q:Int×Int):D := .tup [.int q.1, .int q.2]
theorem gD {l:List Int}:(idx l).length=l.length:=by simp [idx]
theorem nG {l:List Int}:(nz l).length<=l.length:=by
 unfold nz;exact Nat.le_trans (List.length_filter_le _ _) (by rw [gD];exact Nat.le_refl _)
theorem nH {l:List Int}:eR (l.map .int)=(idx l).map pD:=by
 unfold eR idx
 apply List.ext_getElem?
 intro j
 simp only [List.getElem?_mapIdx,List.getElem?_map]
 cases l[j]? <;> rfl
noncomputable def fS (xp xn:Str) (s:Stmt):FD:=⟨"_law_nonzero",s,[xp],1,
 (.cons (.ret (.comp [none,none] ["_law_place",xn] (.last (.enum (.var 0)) (.tup (.cons (.name 0) (.cons (.name 1) .nil))) (.cons (.cmp .ne (.var 1) (.int 0)) .nil) (.tup (.cons (.var 0) (.cons (.var 1) .nil))))))
 .nil)⟩
theorem qV {f:Nat} {xp xn:Str} {s:Stmt} (hf:T[f]? = some (fS xp xn s)) {n:Nat} (G : 1<=n) {l:List Int} (J:l.length<=1000000) {M:Mem} {Q:QD} (q:∀ p,M p=none->Q (.ref p) (af M p (.lst ((nz l).map pD)))):phi T n f [.tup (l.map .int)] M Q:=by
 refine aA (by lia) hf rfl (ρ := [some _]) rfl ?_
 unfold fS
 walk_at "st"
 rw [nH]
 refine aW (f:=pD) (ys:=idx l) (I:=fun r ρ M' acc=>(∃ o0 z, ρ = [o0,z])/\M'=M/\acc=(r.filter fun q => !(q.2==0)).map pD) rfl ⟨⟨_,_,rfl⟩,rfl,rfl⟩ (fun _ _ _ _ _=>by first | rfl | trivial) ?_ ?_
 ·rintro l' x r ρ M1 acc e ⟨⟨o0,z,rfl⟩,rfl,rfl⟩
  refine ⟨_,rfl,fun N' j => ?_⟩
  have B:=al e
  rw [gD] at B
  have F:(l'.filter fun q => !(q.2==0)).length<=l'.length:=List.length_filter_le _ _
  walk_at "wp"
  by_cases hz:x.2=0
  ·rw [if_neg (by simp [hz])]
   refine j _ _ _ ⟨⟨_,_,rfl⟩,rfl, ?_⟩
   rw [List.filter_append,List.filter_cons_of_neg (by simp [hz])];simp
  ·rw [if_pos (by simp [hz])]
   refine ⟨by rw [sizeLine_eq];lia,by rw [List.length_map,sizeLine_eq];lia,j _ _ _ ⟨⟨_,_,rfl⟩,rfl, ?_⟩⟩
   rw [List.filter_append,List.filter_cons_of_pos (by simp [hz])];simp [pD]
 ·rintro ρ M1 acc ⟨⟨o0,z,rfl⟩,rfl,rfl⟩ p hp
  exact q p hp
noncomputable def bC (i a j b:Int) (zs:List (Int×Int)):List Tm:=zs.map fun z=>((z.1,i,j),a*b*z.2)
noncomputable def bU (i a:Int) (ys zs:List (Int×Int)):List Tm:=ys.flatMap fun y=>bC i a y.1 y.2 zs
noncomputable def cr (xs ys zs:List (Int×Int)):List Tm:=xs.flatMap fun x=>bU x.1 x.2 ys zs
noncomputable def dU (p:Pr):List Tm:=cr (nz p.1) (nz p.2.1) (nz p.2.2)
noncomputable def aX (ps:List Pr):List Tm:=ps.flatMap dU
theorem nI {i a j b:Int} {zs:List (Int×Int)}:(bC i a j b zs).length=zs.length:=by simp [bC]
theorem nJ {i a:Int} {ys zs:List (Int×Int)}:(bU i a ys zs).length=ys.length*zs.length:=by
 unfold bU
 induction ys with
 | nil=>simp
 | cons y ys ih=>rw [List.flatMap_cons,List.length_append,ih,nI,List.length_cons,Nat.succ_mul];lia
theorem i8 {xs ys zs:List (Int×Int)}:(cr xs ys zs).length=xs.length*(ys.length*zs.length):=by
 unfold cr
 induction xs with
 | nil=>simp
 | cons y ys ih=>rw [List.flatMap_cons,List.length_append,ih,nJ,List.length_cons,Nat.succ_mul];lia
noncomputable def nK (xs:Str) (s:Stmt) (fz:Nat):FD:=⟨"_law_sums",s,[xs, "_law_found", "_law_l", "_law_r", "_law_o", "_law_rights", "_law_outs", "_law_i", "_law_a", "_law_j", "_law_b", "_law_k", "_law_c"],1,
 (.cons (.asg (.name 1) (.dnew true))
 (.cons (.for (.tup (.cons (.name 2) (.cons (.name 3) (.cons (.name 4) .nil)))) (.seq (.ix (.var 0) (.int 3))) (.cons (.asg (.name 5) (.call fz (.cons (.var 3) .nil)))
 (.cons (.asg (.name 6) (.call fz (.cons (.var 4) .nil)))
 (.cons (.for (.tup (.cons (.name 7) (.cons (.name 8) .nil))) (.seq (.call fz (.cons (.var 2) .nil))) (.cons (.for (.tup (.cons (.name 9) (.cons (.name 10) .nil))) (.seq (.var 5)) (.cons (.for (.tup (.cons (.name 11) (.cons (.name 12) .nil))) (.seq (.var 6)) (.cons (.put (.var 1) (.tup (.cons (.var 11) (.cons (.var 7) (.cons (.var 9) .nil)))) (.bin .add (.dget (.var 1) (.tup (.cons (.var 11) (.cons (.var 7) (.cons (.var 9) .nil)))) (.int 0)) (.bin .mul (.bin .mul (.var 8) (.var 10)) (.var 12))))
 .nil))
 .nil))
 .nil))
 .nil))))
 (.cons (.frz 1 (.ret (.blt .dict (.cons (.comp [none,(some 1)] ["_law_place", "_law_found"] (.last (.keys (.var 1)) (.name 0) (.cons (.cmp .ne (.ix (.var 1) (.var 0)) (.int 0)) .nil) (.tup (.cons (.var 0) (.cons (.ix (.var 1) (.var 0)) .nil))))) .nil))))
 .nil)))⟩
noncomputable def B5 (T:List FD) (n f:Nat):Prop := ∀ {l:List Int} {M:Mem} {Q:QD},l.length<=1000000->(∀ p,M p=none->Q (.ref p) (af M p (.lst ((nz l).map pD))))->phi T n f [.tup (l.map .int)] M Q
structure B6 (p:Pr):Prop where
 b1:Big p.1
 b2:Big p.2.1
 b3:Big p.2.2
 l1:p.1.length<=100
 l2:p.2.1.length<=100
 l3:p.2.2.length<=100
structure xC (ps:List Pr) (L:List Tm):Prop where
 nd:(L.map (·.1)).Nodup
 nz:∀ t∈L,t.2≠0
 cf:∀ k,cf L k=cf (aX ps) k
noncomputable def Od (d:Addr) (M M':Mem):Prop := ∀ a,a≠d->M' a=M a
theorem Od.refl {d:Addr} {M:Mem}:Od d M M:=fun _ _=>rfl
theorem Od.trans {d:Addr} {M M' M'':Mem} (h:Od d M M') (g:Od d M' M''):Od d M M'':=fun a n=>(g a n).trans (h a n)
theorem Od.upd {d:Addr} {M M':Mem} {o:O} (h:Od d M M'):Od d M (af M' d o):=fun a n=>(aR n).trans (h a n)
noncomputable def xD:MSs := .cons (.put (.var 1) (.tup (.cons (.var 11) (.cons (.var 7) (.cons (.var 9) .nil)))) (.bin .add (.dget (.var 1) (.tup (.cons (.var 11) (.cons (.var 7) (.cons (.var 9) .nil)))) (.int 0)) (.bin .mul (.bin .mul (.var 8) (.var 10)) (.var 12)))) .nil
noncomputable def qW:MSs := .cons (.for (.tup (.cons (.name 11) (.cons (.name 12) .nil))) (.seq (.var 6)) xD) .nil
noncomputable def qX:MSs := .cons (.for (.tup (.cons (.name 9) (.cons (.name 10) .nil))) (.seq (.var 5)) qW) .nil
noncomputable abbrev bd (x:Int):Prop := -1000000000000<=x/\x<=1000000000000
theorem BY {Φ:Phi} {v0 v2 L v4 O n B:Option D} {d po:Addr} {i a j b:Int} {zs:List (Int×Int)} {pre:List Tm} {M:Mem} {E:bf} (G:M po=some (.lst (zs.map pD))) (R:po≠d) (hd:M d=some (.dct true ((tset pre).map kcD))) (hl:pre.length+zs.length<=1000000) (ha:bd a) (hb:bd b)  (U:∀ z∈zs,bd z.2)
 (q:∀ M' n B,Od d M M'->M' d=some (.dct true ((tset (pre++bC i a j b zs)).map kcD))->E.nx [v0,some (.ref d),v2,L,v4,O,some (.ref po),some (.int i),some (.int a),some (.int j),some (.int b),n,B] M') :
 wSs Φ qW E [v0,some (.ref d),v2,L,v4,O,some (.ref po),some (.int i),some (.int a),some (.int j),some (.int b),n,B] M:=by
 unfold qW
 walk_at "st"
 refine ⟨_,ai G, ?_⟩
 refine aH (f:=pD) (ys:=zs) (I:=fun l ρ M' => ∃ n B, ρ = [v0,some (.ref d),v2,L,v4,O,some (.ref po),some (.int i),some (.int a),some (.int j),some (.int b),n,B]/\Od d M M'/\M' d=some (.dct true ((tset (pre++bC i a j b l)).map kcD))) rfl ⟨_,_,rfl,Od.refl,by simpa [bC] using hd⟩ (fun l ρ M' ⟨_,_,_,g,_⟩=>ai ((g po R).trans G)) ?_ ?_
 ·rintro l z r ρ M1 e ⟨n,B,rfl,g1,J⟩
  refine ⟨_,rfl,fun F Y => ?_⟩
  have Z:=al e
  have hz:=U z (by rw [e];simp)
  have S:=nE (pre++bC i a j b l)
  rw [List.length_append,nI] at S
  unfold xD
  rw [bM]
  walk_at "wp"
  refine ⟨⟨_,_,J⟩,by rw [sizeLine_eq];lia,_,_,J,rfl,dS (by lia),jF (by lia), ?_⟩
  have ek:D.tup [D.int z.1,D.int i,D.int j]=k3D (z.1,i,j):=rfl
  rw [ek,pG]
  have eg:((Option.map (fun p:Tm=>D.int p.2) ((tset (pre++bC i a j b l)).find? fun p=>decide (p.1=(z.1,i,j)))).getD (.int 0)) = .int (((((tset (pre++bC i a j b l)).find? fun p=>decide (p.1=(z.1,i,j))).map (·.2)).getD 0)):=by
   cases (tset (pre++bC i a j b l)).find? fun p=>decide (p.1=(z.1,i,j)) <;> rfl
  rw [eg]
  walk_at "wp"
  refine ⟨by rw [sizeLine_eq];lia,i6 J rfl (by rw [List.length_map,sizeLine_eq];lia) ?_⟩
  rw [zi (fe _)]
  refine Y _ _ ⟨_,_,rfl,g1.upd, ?_⟩
  rw [ae,show bC i a j b (l++[z])=bC i a j b l++[((z.1,i,j),a*b*z.2)] by simp [bC], <- List.append_assoc,dP]
 ·rintro ρ M1 ⟨n,B,rfl,g1,J⟩
  dsimp only
  walk_at "wp"
  exact q _ _ _ g1 J
theorem BZ {Φ:Phi} {v0 v2 O v4 G B j n:Option D} {d pr po:Addr} {i a:Int} {ys zs:List (Int×Int)} {pre:List Tm} {M:Mem} {E:bf} (J:M pr=some (.lst (ys.map pD))) (R:pr≠d) (S:M po=some (.lst (zs.map pD))) (L:po≠d) (hd:M d=some (.dct true ((tset pre).map kcD))) (hl:pre.length+ys.length*zs.length<=1000000) (Z:bd a) (hb:∀ z∈ys,bd z.2) (hc:∀ z∈zs,bd z.2)
 (q:∀ M' G B j n,Od d M M'->M' d=some (.dct true ((tset (pre++bU i a ys zs)).map kcD))->E.nx [v0,some (.ref d),v2,O,v4,some (.ref pr),some (.ref po),some (.int i),some (.int a),G,B,j,n] M') :
 wSs Φ qX E [v0,some (.ref d),v2,O,v4,some (.ref pr),some (.ref po),some (.int i),some (.int a),G,B,j,n] M:=by
 unfold qX
 walk_at "st"
 refine ⟨_,ai J, ?_⟩
 refine aH (f:=pD) (ys:=ys) (I:=fun l ρ M' => ∃ G B j n, ρ = [v0,some (.ref d),v2,O,v4,some (.ref pr),some (.ref po),some (.int i),some (.int a),G,B,j,n]/\Od d M M'/\M' d=some (.dct true ((tset (pre++bU i a l zs)).map kcD))) rfl ⟨_,_,_,_,rfl,Od.refl,by simpa [bU] using hd⟩ (fun l ρ M' ⟨_,_,_,_,_,g,_⟩=>ai ((g pr R).trans J)) ?_ ?_
 ·rintro l y r ρ M1 e ⟨G,B,j,n,rfl,g1,U⟩
  refine ⟨_,rfl,fun F hF => ?_⟩
  have Y:=al e
  have hy:=hb y (by rw [e];simp)
  have hm:(l.length+1)*zs.length<=ys.length*zs.length:=Nat.mul_le_mul_right _ Y
  rw [Nat.succ_mul] at hm
  refine BY ((g1 po L).trans S) L U (by rw [List.length_append,nJ];lia) Z hy hc fun M2 j n g2 h2=>hF _ _ ⟨_,_,_,_,rfl,g1.trans g2, ?_⟩
  rw [h2,show bU i a (l++[y]) zs=bU i a l zs++bC i a y.1 y.2 zs by simp [bU],List.append_assoc]
 ·rintro ρ M1 ⟨G,B,j,n,rfl,g1,U⟩
  dsimp only
  walk_at "wp"
  exact q _ _ _ _ _ g1 U
theorem C0 {Φ:Phi} {v0 v2 S v4:Option D} {d pr po pl:Addr} {xs ys zs:List (Int×Int)} {pre:List Tm} {M:Mem} {E:bf} {J L G j n B:Option D} (U:M pl=some (.lst (xs.map pD))) (Y:pl≠d) (Z:M pr=some (.lst (ys.map pD))) (O:pr≠d) (CC:M po=some (.lst (zs.map pD))) (R:po≠d) (hd:M d=some (.dct true ((tset pre).map kcD))) (hl:pre.length+xs.length*(ys.length*zs.length)<=1000000) (ha:∀ z∈xs,bd z.2) (hb:∀ z∈ys,bd z.2) (hc:∀ z∈zs,bd z.2)
 (q:∀ M' J L G j n B,Od d M M'->M' d=some (.dct true ((tset (pre++cr xs ys zs)).map kcD))->E.nx [v0,some (.ref d),v2,S,v4,some (.ref pr),some (.ref po),J,L,G,j,n,B] M') :
 bp (jx (bv (bn 7) (bv (bn 8) eQ))) (wSs Φ qX) (fun M=>au M (.ref pl)=some (xs.map pD)) E (xs.map pD) [v0,some (.ref d),v2,S,v4,some (.ref pr),some (.ref po),J,L,G,j,n,B] M:=by
 refine aH (f:=pD) (ys:=xs) (I:=fun l ρ M' => ∃ J L G j n B, ρ = [v0,some (.ref d),v2,S,v4,some (.ref pr),some (.ref po),J,L,G,j,n,B]/\Od d M M'/\M' d=some (.dct true ((tset (pre++cr l ys zs)).map kcD))) rfl ⟨_,_,_,_,_,_,rfl,Od.refl,by simpa [cr] using hd⟩ (fun l ρ M' ⟨_,_,_,_,_,_,_,g,_⟩=>ai ((g pl Y).trans U)) ?_ ?_
 ·rintro l x r ρ M1 e ⟨J,L,G,j,n,B,rfl,g1,hM⟩
  refine ⟨_,rfl,fun F hF => ?_⟩
  have CD:=al e
  have hx:=ha x (by rw [e];simp)
  have hm:(l.length+1)*(ys.length*zs.length)<=xs.length*(ys.length*zs.length):=Nat.mul_le_mul_right _ CD
  rw [Nat.succ_mul] at hm
  refine BZ ((g1 pr O).trans Z) O ((g1 po R).trans CC) R hM (by rw [List.length_append,i8];lia) hx hb hc fun M2 G j n B g2 h2=>hF _ _ ⟨_,_,_,_,_,_,rfl,g1.trans g2, ?_⟩
  rw [h2,show cr (l++[x]) ys zs=cr l ys zs++bU x.1 x.2 ys zs by simp [cr],List.append_assoc]
 ·rintro ρ M1 ⟨J,L,G,j,n,B,rfl,g1,hM⟩
  exact q _ _ _ _ _ _ _ g1 hM
theorem nL {l:List Int} (h:Big l):∀ z∈nz l,bd z.2:=fun z j=>by
 unfold nz at j
 have j:=(List.mem_filter.mp j).1
 unfold idx at j
 obtain ⟨i,hi,e⟩:=List.mem_mapIdx.mp j
 rw [<- e]
 exact h _ (List.getElem_mem hi)
theorem u5 {ps:List Pr} {p:Pr}:aX (ps++[p])=aX ps++dU p:=by simp [aX]
theorem zn {f fz:Nat} {xs:Str} {s:Stmt} (hf:T[f]? = some (nK xs s fz)) {n:Nat} (Y:B5 T (n - 1) fz) (hn : 1<=n) {x0 x1 x2:D} {p:Addr} {ps:List Pr} {M:Mem} {Q:QD} (hp:M p=some (.lst (ps.map prD))) (hl:(aX ps).length<=1000000) (hF:∀ p∈ps,B6 p)
 (q:∀ (L:List Tm) d M',xC ps L->L.length<=1000000->Ge M M'->M d=none->M' d=some (.dct true (L.map kcD))->Q (.ref d) M'):phi T n f [.tup [x0,x1,x2, .ref p]] M Q:=by
 refine aA (by lia) hf rfl (ρ := [some _,none,none,none,none,none,none,none,none,none,none,none,none]) rfl ?_
 unfold nK
 walk_at "st"
 intro d hd
 have g0:=Ge.new (o := .dct true []) hd
 have d0:=ae (M:=M) (a:=d) (o := .dct true [])
 generalize af M d (.dct true [])=M0 at g0 d0 ⊢
 walk_at "st"
 refine ⟨_,rfl,_,ai (g0 _ _ hp), ?_⟩
 have CO:p≠d:=fun z=>by rw [z,hd] at hp;cases hp
 refine aH (f:=prD) (ys:=ps) (I:=fun l ρ M' => ∃ o2 o3 o4 o5 o6 o7 o8 o9 B G J, ρ = [some (.tup [x0,x1,x2, .ref p]),some (.ref d),o2,o3,o4,o5,o6,o7,o8,o9,B,G,J]/\Ge M M'/\M' d=some (.dct true ((tset (aX l)).map kcD))) rfl ⟨_,_,_,_,_,_,_,_,_,_,_,rfl,g0,d0⟩ (fun l ρ M' ⟨_,_,_,_,_,_,_,_,_,_,_,_,g,_⟩=>ai (g _ _ hp)) ?_ ?_
 ·rintro l x r ρ M1 e ⟨o2,o3,o4,o5,o6,o7,o8,o9,B,G,J,rfl,g1,j⟩
  refine ⟨_,rfl,fun F CG => ?_⟩
  have hx:=hF x (by rw [e];simp)
  have CH:(aX l).length+(dU x).length<=1000000:=by
   have:aX ps=aX l++dU x++aX r:=by rw [e];simp [aX]
   rw [this,List.length_append,List.length_append] at hl
   lia
  walk_at "st"
  refine Y (by have:=hx.l2;lia) fun pr O => ?_
  have CI:pr≠d:=fun z=>by rw [z,j] at O;cases O
  have gr:=Ge.new (o := .lst ((nz x.2.1).map pD)) O
  have er:=ae (M:=M1) (a:=pr) (o := .lst ((nz x.2.1).map pD))
  have j:=gr _ _ j
  have g2:=g1.trans gr
  generalize af M1 pr (.lst ((nz x.2.1).map pD))=M2 at er j g2 ⊢
  clear g1 gr O
  walk_at "st"
  refine Y (by have:=hx.l3;lia) fun po R => ?_
  have CJ:po≠d:=fun z=>by rw [z,j] at R;cases R
  have go:=Ge.new (o := .lst ((nz x.2.2).map pD)) R
  have eo:=ae (M:=M2) (a:=po) (o := .lst ((nz x.2.2).map pD))
  have j:=go _ _ j
  have er:=go _ _ er
  have g3:=g2.trans go
  generalize af M2 po (.lst ((nz x.2.2).map pD))=M3 at er eo j g3 ⊢
  clear g2 go R
  walk_at "st"
  refine Y (by have:=hx.l1;lia) fun pl S => ?_
  have CK:pl≠d:=fun z=>by rw [z,j] at S;cases S
  have gl:=Ge.new (o := .lst ((nz x.1).map pD)) S
  have el:=ae (M:=M3) (a:=pl) (o := .lst ((nz x.1).map pD))
  have j:=gl _ _ j
  have er:=gl _ _ er
  have eo:=gl _ _ eo
  have g4:=g3.trans gl
  generalize af M3 pl (.lst ((nz x.1).map pD))=M4 at er eo el j g4 ⊢
  clear g3 gl S
  refine ⟨_,ai el, ?_⟩
  refine C0 el CK er CI eo CJ j (by have:=i8 (xs:=nz x.1) (ys:=nz x.2.1) (zs:=nz x.2.2);unfold dU at CH;lia) (nL hx.b1) (nL hx.b2) (nL hx.b3) fun M5 o7 o8 o9 B G J g5 h5 => ?_
  walk_at "wp"
  refine CG _ _ ⟨_,_,_,_,_,_,_,_,_,_,_,rfl,fun a o ea => ?_,by rw [h5,u5];rfl⟩
  by_cases had:a=d
  ·subst had;rw [hd] at ea;cases ea
  ·rw [g5 a had];exact g4 _ _ ea
 ·rintro ρ M1 ⟨o2,o3,o4,o5,o6,o7,o8,o9,B,G,J,rfl,g1,j⟩
  dsimp only
  walk_at "st"
  refine ze rfl j ?_
  have fd:=ae (M:=M1) (a:=d) (o := .fdc ((tset (aX ps)).map kcD))
  have g2:Ge M (af M1 d (.fdc ((tset (aX ps)).map kcD))):=g1.upd hd
  have CL:=Nat.le_trans (nE (aX ps)) hl
  have U:=fe (aX ps)
  have CC:=zk (aX ps)
  generalize af M1 d (.fdc ((tset (aX ps)).map kcD))=M2 at fd g2 ⊢
  generalize tset (aX ps)=L at fd CL U CC
  walk_at "wp"
  refine ⟨_,fd, ?_⟩
  refine aW (f:=fun t:Tm=>k3D t.1) (ys:=L) (I:=fun l ρ M' acc=>(∃ o0, ρ = [o0,some (.ref d)])/\M'=M2/\acc=(l.filter fun t => !(t.2==0)).map fun t => .tup [k3D t.1, .int t.2]) (by rw [List.map_map];rfl) ⟨⟨_,rfl⟩,rfl,rfl⟩ (fun _ _ _ _ _=>trivial) ?_ ?_
  ·rintro l t r ρ M3 acc e ⟨⟨o0,rfl⟩,rfl,rfl⟩
   refine ⟨_,rfl,fun N' CD => ?_⟩
   have CP:=al e
   have ht:t∈L:=by rw [e];simp
   have CM:(l.filter fun t => !(t.2==0)).length<=l.length:=List.length_filter_le _ _
   walk_at "wp"
   refine tT fd (gC _) (fi U ht) ?_
   walk_at "wp"
   by_cases hz:t.2=0
   ·rw [if_neg (by simp [hz])]
    refine CD _ _ _ ⟨⟨_,rfl⟩,rfl, ?_⟩
    rw [List.filter_append,List.filter_cons_of_neg (by simp [hz])];simp
   ·rw [if_pos (by simp [hz])]
    refine tT fd (gC _) (fi U ht) ?_
    refine ⟨by rw [sizeLine_eq];lia,by rw [List.length_map,sizeLine_eq];lia,CD _ _ _ ⟨⟨_,rfl⟩,rfl, ?_⟩⟩
    rw [List.filter_append,List.filter_cons_of_pos (by simp [hz])];simp
  ·rintro ρ M3 acc ⟨⟨o0,rfl⟩,rfl,rfl⟩ p2 hp2
   have CM:(L.filter fun t => !(t.2==0)).length<=L.length:=List.length_filter_le _ _
   have CF:((L.filter fun t => !(t.2==0)).map (·.1)).Nodup:=U.sublist (List.Sublist.map _ List.filter_sublist)
   refine ⟨p2,(L.filter fun t => !(t.2==0)).map kcD,rfl,by rw [ae,List.map_map];rfl,fun kv CN => ?_,by rw [List.length_map,sizeLine_eq];lia,fun pf Z => ?_⟩
   ·obtain ⟨t,_,rfl⟩:=List.mem_map.mp CN
    exact gC _
   ·rw [wu CF]
    have g3:=g2.trans (Ge.new (o := .lst ((L.filter fun t => !(t.2==0)).map fun t=>D.tup [k3D t.1, .int t.2])) hp2)
    refine q (L.filter fun t => !(t.2==0)) pf _ ⟨CF,fun t ht => ?_,fun k=>by rw [BX];exact CC k⟩ (by lia) (g3.trans (Ge.new Z)) ?_ ae
    ·have:=(List.mem_filter.mp ht).2
     simpa using this
    ·cases hz:M pf with
     | none=>rfl
     | some o=>rw [g3 _ _ hz] at Z;cases Z
end
section
open PySem PySem.Spec PyProof.Rows L2.Srt
noncomputable def S1 (zs:List (Int×Int)) (k:Int):Int:=(zs.map fun z=>if z.1=k then z.2 else 0).sum
theorem dm {z:Int×Int} {zs:List (Int×Int)} {k:Int}:S1 (z::zs) k=(if z.1=k then z.2 else 0)+S1 zs k:=by simp [S1]
theorem pH {α:Type} {F : α -> List Tm} {k:K3}:∀ l:List α,cf (l.flatMap F) k=(l.map fun x=>cf (F x) k).sum
 | [] => rfl
 | x::l=>by rw [List.flatMap_cons,cK,pH l];simp
theorem pI {i a j b k i' j':Int}:∀ {zs:List (Int×Int)},cf (bC i a j b zs) (k,i',j')=if i=i'/\j=j' then a*b*S1 zs k else 0
 | [] => by simp [bC,eB,S1]
 | z::zs=>by
   rw [show bC i a j b (z::zs)=((z.1,i,j),a*b*z.2)::bC i a j b zs from rfl,aS,pI,dm]
   by_cases h:i=i'/\j=j'
   ·obtain ⟨rfl,rfl⟩:=h
    by_cases n:z.1=k
    ·subst n;simp [Int.mul_add]
    ·have : ¬ ((z.1,i,j)=(k,i,j)):=fun e=>n (congrArg (·.1) e)
     rw [if_neg this,if_pos ⟨rfl,rfl⟩,if_pos ⟨rfl,rfl⟩,if_neg n];simp
   ·have : ¬ ((z.1,i,j)=(k,i',j')):=fun e=>h ⟨congrArg (·.2.1) e,congrArg (·.2.2) e⟩
    rw [if_neg this,if_neg h,if_neg h];rfl
theorem pJ {i a k i' j':Int} {zs:List (Int×Int)}:∀ {ys:List (Int×Int)},cf (bU i a ys zs) (k,i',j')=if i=i' then a*S1 ys j'*S1 zs k else 0
 | [] => by simp [bU,eB,S1]
 | y::ys=>by
   rw [show bU i a (y::ys) zs=bC i a y.1 y.2 zs++bU i a ys zs from by simp [bU],cK,pJ,pI,dm]
   by_cases h:i=i'
   ·subst h
    by_cases j:y.1=j'
    ·subst j;simp [Int.mul_add,Int.add_mul]
    ·rw [if_neg (fun e=>j e.2),if_pos rfl,if_pos rfl,if_neg j];simp
   ·rw [if_neg (fun e=>h e.1),if_neg h,if_neg h];rfl
theorem pK {k i' j':Int} {ys zs:List (Int×Int)}:∀ {xs:List (Int×Int)},cf (cr xs ys zs) (k,i',j')=S1 xs i'*S1 ys j'*S1 zs k
 | [] => by simp [cr,eB,S1]
 | x::xs=>by
   rw [show cr (x::xs) ys zs=bU x.1 x.2 ys zs++cr xs ys zs from by simp [cr],cK,pK,pJ,dm]
   by_cases h:x.1=i'
   ·subst h;simp [Int.add_mul]
   ·rw [if_neg h,if_neg h];simp
noncomputable def gz (l:List Int) (i:Int):Int:=if i < 0 then 0 else l.getD i.toNat 0
theorem u6 {l:List Int} {i:Int} (h:i < 0):gz l i=0:=if_pos h
theorem fT {i:Int}:gz [] i=0:=by unfold gz;split <;> simp
theorem bH {x:Int} {l:List Int} {i:Int}:gz (x::l) i=if i=0 then x else gz l (i - 1):=by
 unfold gz
 by_cases h:i < 0
 ·rw [if_pos h,if_neg (by lia),if_pos (by lia)]
 ·rw [if_neg h]
  by_cases h0:i=0
  ·subst h0;simp
  ·rw [if_neg h0,if_neg (by lia)]
   obtain ⟨n,rfl⟩:∃ n:Nat,i=((n+1:Nat):Int):=⟨(i - 1).toNat,by lia⟩
   rw [show (((n+1:Nat):Int) - 1).toNat=n by lia,Int.toNat_natCast]
   simp
theorem u7 {a b:List Int}:∀ {i:Int},gz (a++b) i=if i < a.length then gz a i else gz b (i - a.length):=by
 induction a with
 | nil =>
   intro i
   by_cases h:i < 0
   ·rw [if_pos (by simpa using h),List.nil_append,u6 h,u6 h]
   ·rw [if_neg (by simpa using h)];simp
 | cons x a ih =>
   intro i
   rw [List.cons_append,bH,bH,ih,List.length_cons]
   by_cases h0:i=0
   ·subst h0;rw [if_pos rfl,if_pos rfl,if_pos (by lia)]
   ·rw [if_neg h0,if_neg h0]
    by_cases h:i < ((a.length+1:Nat):Int)
    ·rw [if_pos (by lia),if_pos h]
    ·rw [if_neg (by lia),if_neg h]
     congr 1;lia
theorem u8 {x:Int}:∀ {b:List Int} {i:Int},gz (b.map (x * ·)) i=x*gz b i
 | [],i=>by rw [List.map_nil,fT];simp
 | y::b,i=>by rw [List.map_cons,bH,bH,u8];split <;> rfl
theorem eC {l:List Int} {i:Int} (h:gz l i≠0) : 0<=i/\i < l.length:=by
 unfold gz at h
 by_cases hi:i < 0
 ·rw [if_pos hi] at h;exact absurd rfl h
 ·rw [if_neg hi] at h
  refine ⟨by lia, ?_⟩
  by_cases hl:i.toNat < l.length
  ·lia
  ·rw [List.getD_eq_getElem?_getD,List.getElem?_eq_none (by lia)] at h;exact absurd rfl h
theorem u9 {a b:List (Int×Int)} {k:Int}:S1 (a++b) k=S1 a k+S1 b k:=by simp [S1]
theorem jc {k:Int}:∀ zs:List (Int×Int),S1 (zs.filter fun q => !(q.2==0)) k=S1 zs k
 | [] => rfl
 | z::zs=>by
   rw [dm]
   by_cases h:z.2=0
   ·rw [List.filter_cons_of_neg (by simp [h]),jc zs,h];simp
   ·rw [List.filter_cons_of_pos (by simp [h]),dm,jc zs]
theorem nM (l:List Int) (k:Int):S1 (idx l) k=gz l k:=fb (P:=fun l=>S1 (idx l) k=gz l k) (by rw [fT];rfl) (fun l x ih=>by
 have e:idx (l++[x])=idx l++[(((l.length:Nat):Int),x)]:=by simp [idx,List.mapIdx_append]
 rw [e,u9,ih,u7,dm]
 simp only [S1,List.map_nil,List.sum_nil]
 by_cases h:k < l.length
 ·rw [if_pos h,if_neg (by lia)];lia
 ·rw [if_neg h,bH,fT]
  have z:gz l k=0:=by
   cases Decidable.em (gz l k=0) with
   | inl h=>exact h
   | inr h'=>exact absurd (eC h').2 h
  rw [z]
  by_cases e:(l.length:Int)=k
  ·rw [if_pos e,if_pos (by lia)];lia
  ·rw [if_neg e,if_neg (by lia)];rfl) l
theorem zo {p:Pr} {k i j:Int}:cf (dU p) (k,i,j)=gz p.1 i*gz p.2.1 j*gz p.2.2 k:=by
 unfold dU
 rw [pK]
 unfold nz
 rw [jc,jc,jc,nM,nM,nM]
noncomputable def Tn (ps:List Pr) (k i j:Int):Int:=(ps.map fun p=>gz p.1 i*gz p.2.1 j*gz p.2.2 k).sum
theorem zp {ps:List Pr} {k i j:Int}:cf (aX ps) (k,i,j)=Tn ps k i j:=by
 unfold aX Tn
 rw [pH]
 congr 1
 exact List.map_congr_left fun p _=>zo
theorem dQ {a b:List Pr} {k i j:Int}:Tn (a++b) k i j=Tn a k i j+Tn b k i j:=by simp [Tn]
theorem dq {p:Pr} {a:List Pr} {k i j:Int}:Tn (p::a) k i j=gz p.1 i*gz p.2.1 j*gz p.2.2 k+Tn a k i j:=by simp [Tn]
theorem ua {L0 L1 L2:Nat} {k i j:Int}:∀ {us:List Pr},(∀ u∈us,u.1.length=L0/\u.2.1.length=L1/\u.2.2.length=L2)->Tn us k i j≠0->(0<=k/\k < L2)/\(0<=i/\i < L0)/\(0<=j/\j < L1)
 | [],_,h=>absurd (by simp [Tn]) h
 | u::us,n,h=>by
   obtain ⟨e0,e1,e2⟩:=n u (by simp)
   rw [dq] at h
   by_cases z:gz u.1 i*gz u.2.1 j*gz u.2.2 k=0
   ·rw [z,Int.zero_add] at h
    exact ua (fun v q=>n v (by simp [q])) h
   ·have a1:gz u.1 i≠0:=fun e=>z (by rw [e];simp)
    have a2:gz u.2.1 j≠0:=fun e=>z (by rw [e];simp)
    have B:gz u.2.2 k≠0:=fun e=>z (by rw [e];simp)
    have:=eC a1
    have:=eC a2
    have:=eC B
    lia
theorem kY {l:List Tm} (g:(l.map (·.1)).Nodup):l.Nodup:=by
 rw [List.nodup_iff_pairwise_ne] at g ⊢
 rw [List.pairwise_map] at g
 exact g.imp fun {a b} hab e=>hab (by rw [e])
theorem ub {a:List Tm} (n:(a.map (·.1)).Nodup) {k:K3} (h:cf a k≠0):(k,cf a k)∈a:=by
 by_cases e:∃ r∈a,r.1=k
 ·obtain ⟨r,j,rfl⟩:=e
  rw [dE n j];exact j
 ·exact absurd (gB fun r j z=>e ⟨r,j,z⟩) h
theorem zq {a b:List Tm} (n:(a.map (·.1)).Nodup) (q:(b.map (·.1)).Nodup) (za:∀ t∈a,t.2≠0) (zb:∀ t∈b,t.2≠0) (h:∀ k,cf a k=cf b k):a.Perm b:=by
 refine (List.perm_ext_iff_of_nodup (kY n) (kY q)).mpr fun t=>⟨fun j => ?_,fun j => ?_⟩
 ·have e:=dE n j
  have:=ub q (k:=t.1) (by rw [<- h,e];exact za t j)
  rwa [<- h,e] at this
 ·have e:=dE q j
  have:=ub n (k:=t.1) (by rw [h,e];exact zb t j)
  rwa [h,e] at this
theorem wv {a b:List Tm} (n:(b.map (·.1)).Nodup) (h:a.Perm b):eqD (a.map kcD) (b.map kcD)=true:=by
 unfold eqD
 rw [Bool.and_eq_true]
 refine ⟨by simp [h.length_eq], ?_⟩
 rw [List.all_eq_true]
 intro kv j
 obtain ⟨t,q,rfl⟩:=List.mem_map.mp j
 exact decide_eq_true (fi n (h.mem_iff.mp q))
end
section
open PySem PySem.Spec PyProof.Rows L2.Srt
variable {T:List FD}
structure TI (n m p:Nat) (X:List Tm) (L:List Tm):Prop where
 nd:(L.map (·.1)).Nodup
 sub:∀ t∈L,t∈X
 all:∀ t∈X,t.1∈L.map (·.1)
theorem kD {L:List Tm} {k a:K3} {c:Int} (h:a∈L.map (·.1)∨a=k):a∈(cQ L k c).map (·.1):=by
 unfold cQ
 split
 ·next j =>
  rw [List.map_map]
  have e:L.map ((fun x:Tm=>x.1) ∘ fun p=>if p.1=k then (p.1,c) else p)=L.map (·.1):=List.map_congr_left fun p _=>by
   simp only [Function.comp];split <;> rfl
  rw [e]
  rcases h with h | rfl
  ·exact h
  ·obtain ⟨t,n,e⟩:=List.any_eq_true.mp j
   rw [<- of_decide_eq_true e];exact List.mem_map_of_mem n
 ·rw [List.map_append]
  rcases h with h | rfl
  ·exact List.mem_append_left _ h
  ·exact List.mem_append_right _ (by simp)
theorem TI.put {n m p:Nat} {X L:List Tm} (h:TI n m p X L) (t:Tm):TI n m p (X++[t]) (cQ L t.1 t.2) where
 nd:=qU h.nd
 sub:=fun u j=>by
  rcases wt j with z | z
  ·exact List.mem_append_left _ (h.sub u z)
  ·exact List.mem_append_right _ (by rw [z];simp)
 all:=fun u j=>by
  rcases List.mem_append.mp j with z | z
  ·exact kD (.inl (h.all u z))
  ·have e:u=t:=by simpa using z
   rw [e];exact kD (.inr rfl)
noncomputable def one (L:Nat) (k:Int):List Int:=(List.range L).map fun h=>if ((h:Nat):Int)=k then 1 else 0
theorem cA {L:Nat} {k:Int}:(one L k).length=L:=by simp [one]
theorem eD {L:Nat} {k i:Int} (h0 : 0<=k) (h1:k < L):gz (one L k) i=if i=k then 1 else 0:=by
 unfold gz one
 by_cases hi:i < 0
 ·rw [if_pos hi,if_neg (by lia)]
 ·rw [if_neg hi,List.getD_eq_getElem?_getD,List.getElem?_map]
  by_cases hl:i.toNat < L
  ·rw [List.getElem?_range hl]
   simp only [Option.map_some,Option.getD_some]
   by_cases e:i=k
   ·rw [if_pos (by lia),if_pos e]
   ·rw [if_neg (by lia),if_neg e]
  ·rw [List.getElem?_eq_none (by simp;lia),if_neg (by lia)];rfl
noncomputable def i9 (s:Stmt):FD:=⟨"_law_single",s,["_law_length", "_law_place"],2,
 (.cons (.ret (.blt .tuple (.cons (.comp [none,(some 1)] ["_law_here", "_law_place"] (.last (.rng1 (.var 0)) (.name 0) .nil (.blt .int (.cons (.cmp .eq (.var 0) (.var 1)) .nil)))) .nil)))
 .nil)⟩
theorem uc {f:Nat} {s:Stmt} (hf:T[f]? = some (i9 s)) {n:Nat} (F : 1<=n) {L:Nat} (G:L<=100000) {k:Int} {M:Mem} {Q:QD} (q:∀ M',Ge M M'->Q (.tup ((one L k).map .int)) M'):phi T n f [.int L, .int k] M Q:=by
 refine aA (by lia) hf rfl (ρ := [some _,some _]) rfl ?_
 unfold i9
 walk_at "st"
 refine ⟨by lia,by lia, ?_⟩
 rw [Int.toNat_natCast]
 refine aW (f:=fun i=>D.int (i:Nat)) (ys:=List.range L) (I:=fun l ρ M' acc=>(∃ o0, ρ = [o0,some (.int k)])/\M'=M/\acc=(l.map fun h=>if ((h:Nat):Int)=k then (1:Int) else 0).map .int) aN ⟨⟨_,rfl⟩,rfl,rfl⟩ (fun _ _ _ _ _=>trivial) ?_ ?_
 ·rintro l i r ρ M1 acc e ⟨⟨o0,rfl⟩,rfl,rfl⟩
  refine ⟨_,rfl,fun N' j => ?_⟩
  have z:=al e
  rw [List.length_range] at z
  walk_at "wp"
  refine ⟨by rw [List.length_map,List.length_map,sizeLine_eq];lia,j _ _ _ ⟨⟨_,rfl⟩,rfl, ?_⟩⟩
  simp
 ·rintro ρ M1 acc ⟨⟨o0,rfl⟩,rfl,rfl⟩ p B
  exact ⟨_,_,rfl,ai ae,q _ (Ge.new B)⟩
noncomputable def jH (x y:Str) (s:Stmt):FD:=⟨"_law_turned_about",s,[x],1,
 (.cons (.ret (.blt .tuple (.cons (.comp [none] [y] (.last (.seq (.var 0)) (.name 0) .nil (.neg (.var 0)))) .nil)))
 .nil)⟩
theorem ww {f:Nat} {x y:Str} {s:Stmt} (hf:T[f]? = some (jH x y s)) {n:Nat} (F : 1<=n) {l:List Int} (G:l.length<=100000) {M:Mem} {Q:QD} (q:∀ M',Ge M M'->Q (.tup ((l.map (- ·)).map .int)) M'):phi T n f [.tup (l.map .int)] M Q:=by
 refine aA (by lia) hf rfl (ρ := [some _]) rfl ?_
 unfold jH
 walk_at "st"
 refine aW (f:=D.int) (ys:=l) (I:=fun l ρ M' acc=>(∃ o0, ρ = [o0])/\M'=M/\acc=(l.map (- ·)).map .int) rfl ⟨⟨_,rfl⟩,rfl,rfl⟩ (fun _ _ _ _ _=>by first | rfl | trivial) ?_ ?_
 ·rintro l' i r ρ M1 acc e ⟨⟨o0,rfl⟩,rfl,rfl⟩
  refine ⟨_,rfl,fun N' j => ?_⟩
  have z:=al e
  walk_at "wp"
  refine ⟨by rw [List.length_map,List.length_map,sizeLine_eq];lia,j _ _ _ ⟨⟨_,rfl⟩,rfl, ?_⟩⟩
  simp
 ·rintro ρ M1 acc ⟨⟨o0,rfl⟩,rfl,rfl⟩ p B
  exact ⟨_,_,rfl,ai ae,q _ (Ge.new B)⟩
noncomputable def plP (L0 L1 L2:Nat) (t:Tm):Pr:=(one L0 t.1.2.1,one L1 t.1.2.2,(one L2 t.1.1).map (· * t.2))
theorem pL {x:Int}:∀ {b:List Int} {i:Int},gz (b.map (· * x)) i=gz b i*x
 | [],i=>by rw [List.map_nil,fT];simp
 | y::b,i=>by rw [List.map_cons,bH,bH,pL];split <;> rfl
theorem nN {L0 L1 L2:Nat} {k i j:Int}:∀ {L:List Tm},(∀ t∈L,(0<=t.1.1/\t.1.1 < L2)/\(0<=t.1.2.1/\t.1.2.1 < L0)/\(0<=t.1.2.2/\t.1.2.2 < L1))->Tn (L.map (plP L0 L1 L2)) k i j=cf L (k,i,j)
 | [],_=>rfl
 | t::L,h=>by
   obtain ⟨⟨q,a1⟩,⟨b0,b1⟩,⟨z,B⟩⟩:=h t (by simp)
   rw [List.map_cons,dq,aS,nN fun u F=>h u (by simp [F])]
   congr 1
   unfold plP
   dsimp only
   rw [eD b0 b1,eD z B,pL,eD q a1]
   by_cases e:t.1=(k,i,j)
   ·rw [if_pos e,if_pos (by rw [e]),if_pos (by rw [e]),if_pos (by rw [e])];lia
   ·rw [if_neg e]
    by_cases e1:i=t.1.2.1
    ·by_cases e2:j=t.1.2.2
     ·by_cases n:k=t.1.1
      ·exact absurd (by rw [e1,e2,n]) e
      ·rw [if_neg n];simp
     ·rw [if_neg e2];simp
    ·rw [if_neg e1];simp
noncomputable def fU (y:Str) (s:Stmt) (fs:Nat):FD:=⟨"_law_plainly",s,["_law_lengths", "_law_sums_here"],2,
 (.cons (.ret (.comp [none,none,none,(some 0),(some 1)] ["_law_k", "_law_i", "_law_j", "_law_lengths", "_law_sums_here"] (.last (.seq (.blt .sortk (.cons (.var 1) .nil))) (.tup (.cons (.name 0) (.cons (.name 1) (.cons (.name 2) .nil)))) .nil (.tup (.cons (.call fs (.cons (.ix (.var 3) (.int 0)) (.cons (.var 1) .nil))) (.cons (.call fs (.cons (.ix (.var 3) (.int 1)) (.cons (.var 2) .nil))) (.cons (.blt .tuple (.cons (.comp [none,(some 4),(some 0),(some 1),(some 2)] [y, "_law_sums_here", "_law_k", "_law_i", "_law_j"] (.last (.seq (.call fs (.cons (.ix (.var 3) (.int 2)) (.cons (.var 0) .nil)))) (.name 0) .nil (.bin .mul (.var 0) (.ix (.var 1) (.tup (.cons (.var 2) (.cons (.var 3) (.cons (.var 4) .nil)))))))) .nil)) .nil)))))))
 .nil)⟩
noncomputable def ic (T:List FD) (n f:Nat):Prop := ∀ {L:Nat} {k:Int} {M:Mem} {Q:QD},L<=100000->(∀ M',Ge M M'->Q (.tup ((one L k).map .int)) M')->phi T n f [.int L, .int k] M Q
theorem qY {f fs:Nat} {y:Str} {s:Stmt} (hf:T[f]? = some (fU y s fs)) {n:Nat} (j:ic T (n - 1) fs) (hn : 1<=n) {L0 L1 L2:Nat} (h0:L0<=1000) (h1:L1<=1000) (h2:L2<=1000) {L:List Tm} (B:(L.map (·.1)).Nodup) (hl:L.length<=1000000) {d:Addr} {M:Mem} {Q:QD} (hd:M d=some (.dct true (L.map kcD)))
 (q:∀ (rs:List Tm) p M',rs.Perm L->Ge M M'->M p=none->M' p=some (.lst ((rs.map (plP L0 L1 L2)).map prD))->Q (.ref p) M'):phi T n f [.tup [.int L0, .int L1, .int L2], .ref d] M Q:=by
 refine aA (by lia) hf rfl (ρ := [some _,some _]) rfl ?_
 unfold fU
 walk_at "st"
 refine ⟨d,true,_, .tup [.int, .int, .int],rfl,hd,rfl,fun kv S => ?_,fun ps ys U z F => ?_⟩
 ·obtain ⟨t,_,rfl⟩:=List.mem_map.mp S
  rfl
 obtain ⟨rs,G,rfl,CD⟩:=ow B z F
 have g1:=Ge.new (o := .lst (rs.map fun t=>k3D t.1)) U
 have e1:=ae (M:=M) (a:=ps) (o := .lst (rs.map fun t=>k3D t.1))
 generalize af M ps (.lst (rs.map fun t=>k3D t.1))=M1 at g1 e1 ⊢
 have CF:rs.length<=1000000:=by rw [G.length_eq];exact hl
 refine ⟨_,ai e1, ?_⟩
 refine aW (f:=fun t:Tm=>k3D t.1) (ys:=rs) (I:=fun l ρ M' acc=>(∃ o0 Y Z, ρ = [o0,Y,Z,some (.tup [.int L0, .int L1, .int L2]),some (.ref d)])/\Ge M1 M'/\acc=(l.map (plP L0 L1 L2)).map prD) rfl ⟨⟨_,_,_,rfl⟩,Ge.refl,rfl⟩ (fun _ _ _ _ h=>ai (h.2.1 _ _ e1)) ?_ ?_
 ·rintro l t r ρ M2 acc e ⟨⟨o0,Y,Z,rfl⟩,g2,rfl⟩
  refine ⟨_,rfl,fun N' CC => ?_⟩
  have CG:=al e
  have ht:t∈L:=G.mem_iff.mp (by rw [e];simp)
  walk_at "wp"
  refine ⟨_,rfl,j (by lia) fun M3 g3=>⟨_,rfl,j (by lia) fun M4 g4=>⟨_,rfl,j (by lia) fun M5 R=>⟨_,rfl, ?_⟩⟩⟩⟩
  have R:=g2.trans (g3.trans (g4.trans R))
  have d5:=R _ _ (g1 _ _ hd)
  have ho:∀ x∈one L2 t.1.1,x=0∨x=1:=fun x hx=>by
   unfold one at hx
   obtain ⟨h,_,rfl⟩:=List.mem_map.mp hx
   split <;> simp
  refine aW (f:=D.int) (ys:=one L2 t.1.1) (I:=fun l' ρ M' acc=>(∃ o0, ρ = [o0,some (.ref d),some (.int t.1.1),some (.int t.1.2.1),some (.int t.1.2.2)])/\M'=M5/\acc=(l'.map (· * t.2)).map .int) rfl ⟨⟨_,rfl⟩,rfl,rfl⟩ (fun _ _ _ _ _=>by first | rfl | trivial) ?_ ?_
  ·rintro l' x r' ρ M6 acc e' ⟨⟨o0,rfl⟩,rfl,rfl⟩
   refine ⟨_,rfl,fun N'' J => ?_⟩
   have O:=al e'
   rw [cA] at O
   have hx:=ho x (by rw [e'];simp)
   walk_at "wp"
   refine ⟨by rw [sizeLine_eq];lia, ?_⟩
   rw [show D.tup [.int t.1.1, .int t.1.2.1, .int t.1.2.2]=k3D t.1 from rfl]
   refine B2 d5 (gC t.1) (fi B ht) ?_
   walk_at "wp"
   refine ⟨dS (by lia),by rw [List.length_map,List.length_map,sizeLine_eq];lia,J _ _ _ ⟨⟨_,rfl⟩,rfl,by simp⟩⟩
  ·rintro ρ M6 acc ⟨⟨o0,rfl⟩,rfl,rfl⟩ p G
   refine ⟨_,_,rfl,ai ae,by rw [sizeLine_eq];lia,by rw [List.length_map,List.length_map,sizeLine_eq];lia,CC _ _ _ ⟨⟨_,_,_,rfl⟩,R.trans (Ge.new G), ?_⟩⟩
   simp [prD,plP]
 ·rintro ρ M2 acc ⟨⟨o0,Y,Z,rfl⟩,g2,rfl⟩ p2 hp2
  have g3:=g1.trans g2
  refine q rs p2 _ G (g3.trans (Ge.new hp2)) ?_ ae
  cases hz:M p2 with
  | none=>rfl
  | some o=>rw [g3 _ _ hz] at hp2;cases hp2
end
section
open PySem PySem.Spec PyProof.Rows L2.Srt
noncomputable def tm (p:Pr) (k i j:Int):Int:=gz p.1 i*gz p.2.1 j*gz p.2.2 k
theorem fj {p:Pr} {a:List Pr} {k i j:Int}:Tn (p::a) k i j=tm p k i j+Tn a k i j:=dq
theorem ud {ps:List Pr} {n:Nat} {p:Pr} {k i j:Int}:Tn (ps.take n++p::ps.drop n) k i j=Tn ps k i j+tm p k i j:=by
 have e:Tn ps k i j=Tn (ps.take n) k i j+Tn (ps.drop n) k i j:=by rw [<- dQ,List.take_append_drop]
 rw [dQ,fj,e];lia
theorem ue {k i j:Int} {p':Pr}:∀ {ps:List Pr} {n:Nat} {p:Pr},ps[n]? = some p->Tn (ps.set n p') k i j=Tn ps k i j - tm p k i j+tm p' k i j
 | [],n,p,h=>by simp at h
 | a::ps,0,p,h=>by
   simp at h;subst h
   rw [List.set_cons_zero,fj,fj];lia
 | a::ps,n+1,p,h=>by
   rw [List.set_cons_succ,fj,fj,ue (ps:=ps) (n:=n) (p:=p) (by simpa using h)];lia
theorem gE {i:Int}:∀ {l:List Int},gz (l.map (- ·)) i = - gz l i:=by
 intro l
 have:=u8 (x := -1) (b:=l) (i:=i)
 rw [show l.map (- ·)=l.map (-1 * ·) from List.map_congr_left fun x _=>by lia,this];lia
theorem C1 {l r o:List Int} {k i j:Int}:tm (l.map (- ·),r,o.map (- ·)) k i j=tm (l,r,o) k i j:=by
 unfold tm;dsimp only;rw [gE,gE];simp [Int.neg_mul,Int.mul_neg]
theorem tm_lr {l r o:List Int} {k i j:Int}:tm (l.map (- ·),r.map (- ·),o) k i j=tm (l,r,o) k i j:=by
 unfold tm;dsimp only;rw [gE,gE];simp [Int.neg_mul,Int.mul_neg]
noncomputable def aK (a b:List Int):List Int:=List.zipWith (· - ·) a b
theorem jI {i:Int}:∀ {a b:List Int},a.length=b.length->gz (aK a b) i+gz b i=gz a i:=by
 intro a
 induction a generalizing i with
 | nil=>intro b h;cases b with | nil=>rw [show aK [] []=[] from rfl,fT];rfl | cons y b=>simp at h
 | cons x a ih =>
   intro b h
   cases b with
   | nil=>simp at h
   | cons y b =>
     rw [show aK (x::a) (y::b)=(x - y)::aK a b from rfl,bH,bH,bH]
     by_cases e:i=0
     ·rw [if_pos e,if_pos e,if_pos e];lia
     ·rw [if_neg e,if_neg e,if_neg e];exact ih (by simpa using h)
theorem zr {l r o m:List Int} {k i j:Int} (h:l.length=m.length):tm (aK l m,r,o) k i j+tm (m,r,o) k i j=tm (l,r,o) k i j:=by
 unfold tm;dsimp only;rw [<- Int.add_mul, <- Int.add_mul,jI h]
theorem zt {l r o m:List Int} {k i j:Int} (h:r.length=m.length):tm (l,aK r m,o) k i j+tm (l,m,o) k i j=tm (l,r,o) k i j:=by
 unfold tm;dsimp only;rw [<- Int.add_mul, <- Int.mul_add,jI h]
theorem zu {l r o m:List Int} {k i j:Int} (h:o.length=m.length):tm (l,r,aK o m) k i j+tm (l,r,m) k i j=tm (l,r,o) k i j:=by
 unfold tm;dsimp only;rw [<- Int.mul_add,jI h]
end
section
open PySem PySem.Spec PyProof.Rows L2.Srt
variable {T:List FD}
noncomputable def fV (s:Stmt) (ft fa:Nat):FD:=⟨"_law_dressed",s,["_law_box_here", "_law_lengths", "_law_products", "_law_most", "_law_found", "_law_l", "_law_r", "_law_o", "_law_way", "_law_turn", "_law_at", "_law_side", "_law_more", "_law_less", "_law_extra"],4,
 (.cons (.asg (.name 4) (.lst .nil))
 (.cons (.for (.tup (.cons (.name 5) (.cons (.name 6) (.cons (.name 7) .nil)))) (.seq (.var 2)) (.cons (.asg (.name 8) (.call ft (.cons (.var 0) (.cons (.int 6) .nil))))
 (.cons (.ite (.cmp .eq (.var 8) (.int 0)) (.cons (.par 5 7 (.call fa (.cons (.var 5) .nil)) (.call fa (.cons (.var 7) .nil)))
 .nil) .nil)
 (.cons (.ite (.cmp .eq (.var 8) (.int 1)) (.cons (.par 5 6 (.call fa (.cons (.var 5) .nil)) (.call fa (.cons (.var 6) .nil)))
 .nil) .nil)
 (.cons (.drop (.ins (.var 4) (.call ft (.cons (.var 0) (.cons (.bin .add (.blt .len (.cons (.var 4) .nil)) (.int 1)) .nil))) (.tup (.cons (.var 5) (.cons (.var 6) (.cons (.var 7) .nil))))))
 .nil)))))
 (.cons (.for (.name 9) (.rng1 (.call ft (.cons (.var 0) (.cons (.bin .add (.var 3) (.int 1)) .nil)))) (.cons (.asg (.name 10) (.call ft (.cons (.var 0) (.cons (.blt .len (.cons (.var 4) .nil)) .nil))))
 (.cons (.asg (.tup (.cons (.name 5) (.cons (.name 6) (.cons (.name 7) .nil)))) (.ix (.var 4) (.var 10)))
 (.cons (.asg (.name 11) (.call ft (.cons (.var 0) (.cons (.int 3) .nil))))
 (.cons (.asg (.name 12) (.blt .tuple (.cons (.comp [none,(some 0)] ["_law_number", "_law_box_here"] (.last (.seq (.ix (.ix (.var 4) (.var 10)) (.var 11))) (.name 0) .nil (.bin .sub (.call ft (.cons (.var 1) (.cons (.int 5) .nil))) (.int 2)))) .nil)))
 (.cons (.asg (.name 13) (.blt .tuple (.cons (.comp [none,none] ["_law_number", "_law_other"] (.last (.zip (.ix (.ix (.var 4) (.var 10)) (.var 11)) (.var 12)) (.tup (.cons (.name 0) (.cons (.name 1) .nil))) .nil (.bin .sub (.var 0) (.var 1)))) .nil)))
 (.cons (.put (.var 4) (.var 10) (.bin .add (.bin .add (.sl (.ix (.var 4) (.var 10)) .none (.some (.var 11))) (.tup (.cons (.var 13) .nil))) (.sl (.ix (.var 4) (.var 10)) (.some (.bin .add (.var 11) (.int 1))) .none)))
 (.cons (.asg (.name 14) (.bin .add (.bin .add (.sl (.tup (.cons (.var 5) (.cons (.var 6) (.cons (.var 7) .nil)))) .none (.some (.var 11))) (.tup (.cons (.var 12) .nil))) (.sl (.tup (.cons (.var 5) (.cons (.var 6) (.cons (.var 7) .nil)))) (.some (.bin .add (.var 11) (.int 1))) .none)))
 (.cons (.drop (.ins (.var 4) (.call ft (.cons (.var 0) (.cons (.bin .add (.blt .len (.cons (.var 4) .nil)) (.int 1)) .nil))) (.var 14)))
 .nil)))))))))
 (.cons (.ret (.bin .add (.blt .tuple (.cons (.var 1) .nil)) (.tup (.cons (.var 4) .nil))))
 .nil))))⟩
noncomputable def pM (T:List FD) (n f:Nat):Prop := ∀ {l:List Int} {M:Mem} {Q:QD},l.length<=100000->(∀ M',Ge M M'->Q (.tup ((l.map (- ·)).map .int)) M')->phi T n f [.tup (l.map .int)] M Q
noncomputable def Within (B:Int) (l:List Int):Prop := ∀ x∈l, -B<=x/\x<=B
structure Dr (B:Int) (L0 L1 L2:Nat) (p:Pr):Prop where
 l0:p.1.length=L0
 l1:p.2.1.length=L1
 l2:p.2.2.length=L2
 e0:Within B p.1
 e1:Within B p.2.1
 e2:Within B p.2.2
theorem Within.neg {B:Int} {l:List Int} (h:Within B l):Within B (l.map (- ·)):=fun x hx=>by
 obtain ⟨y,j,rfl⟩:=List.mem_map.mp hx
 have:=h y j;lia
theorem Within.mono {B B':Int} (j:B<=B') {l:List Int} (h:Within B l):Within B' l:=fun x hx=>by
 have:=h x hx;lia
theorem Dr.mono {B B':Int} (j:B<=B') {L0 L1 L2:Nat} {p:Pr} (h:Dr B L0 L1 L2 p):Dr B' L0 L1 L2 p:=⟨h.l0,h.l1,h.l2,h.e0.mono j,h.e1.mono j,h.e2.mono j⟩
theorem wx {a b:List Int} (h:a.length=b.length):(aK a b).length=a.length:=by simp [aK,h]
theorem Within.less {B:Int}:∀ {a b:List Int},Within B a->Within 2 b->Within (B+2) (aK a b)
 | [],_,_,_=>fun x hx=>by simp [aK] at hx
 | _::_,[],_,_=>fun x hx=>by simp [aK] at hx
 | x::a,y::b,n,q=>fun z j=>by
   rw [show aK (x::a) (y::b)=(x - y)::aK a b from rfl] at j
   rcases List.mem_cons.mp j with rfl | j
   ·have:=n x (by simp);have:=q y (by simp);lia
   ·exact Within.less (fun w hw=>n w (by simp [hw])) (fun w hw=>q w (by simp [hw])) z j
noncomputable def pAt (p:Pr):Nat->List Int | 0=>p.1 | 1=>p.2.1 | _=>p.2.2
noncomputable def cg (p:Pr) (m:List Int):Nat->Pr | 0=>(m,p.2.1,p.2.2) | 1=>(p.1,m,p.2.2) | _=>(p.1,p.2.1,m)
theorem B7 {p:Pr} {m:List Int} {s:Nat} {k i j:Int} (h:(pAt p s).length=m.length):tm (cg p (aK (pAt p s) m) s) k i j+tm (cg p m s) k i j=tm p k i j:=by
 match s with
 | 0=>exact zr h
 | 1=>exact zt h
 | _+2=>exact zu h
theorem Dr.set {B:Int} {L0 L1 L2:Nat} {p:Pr} (h:Dr B L0 L1 L2 p) {m:List Int} {s:Nat} (j:m.length=(pAt p s).length) (hw:Within B m):Dr B L0 L1 L2 (cg p m s):=by
 match s with
 | 0=>exact ⟨j.trans h.l0,h.l1,h.l2,hw,h.e1,h.e2⟩
 | 1=>exact ⟨h.l0,j.trans h.l1,h.l2,h.e0,hw,h.e2⟩
 | _+2=>exact ⟨h.l0,h.l1,j.trans h.l2,h.e0,h.e1,hw⟩
theorem Dr.at {B:Int} {L0 L1 L2:Nat} {p:Pr} (h:Dr B L0 L1 L2 p) {s:Nat}:Within B (pAt p s):=by
 match s with
 | 0=>exact h.e0
 | 1=>exact h.e1
 | _+2=>exact h.e2
theorem zv {ft n:Nat} (B:ja T n ft) {b:Addr} {M:Mem} {N:NC} (J:Box b M) {l:List Int} (j:l.length<=1000)
 (q:∀ (ns:List Int) ρ M',ns.length=l.length->Within 2 ns->Bx b M M'->N ρ M' (ns.map .int)) :
 bR (bn 0) (cn (wOp jq (wAr (phi T n ft) (aI (cm 1) (aI (wC (.int 5)) bm))) (wC (.int 2)))) (fun M=>au M (.tup (l.map .int))=some (l.map .int)) N (l.map .int) [none,some (.ref b)] M []:=by
 refine aW (f:=D.int) (ys:=l) (I:=fun l ρ M' acc => ∃ ns:List Int,(∃ o, ρ = [o,some (.ref b)])/\acc=ns.map .int/\ns.length=l.length/\Within 2 ns/\Bx b M M') rfl ⟨[],⟨_,rfl⟩,rfl,rfl,fun _ h=>by simp at h,Bx.refl J⟩ (fun _ _ _ _ _=>rfl) ?_ ?_
 ·rintro l i r ρ M1 acc e ⟨ns,⟨o,rfl⟩,rfl,j,F,z⟩
  refine ⟨_,rfl,fun N' G => ?_⟩
  have L:=al e
  walk_at "wp"
  refine B z.box (by lia) (by lia) fun v M2 v0 v1 O => ?_
  walk_at "wp"
  refine ⟨by rw [List.length_map,sizeLine_eq];lia,G _ _ _ ⟨ns++[v - 2],⟨_,rfl⟩,by simp,by simp [j],fun y R => ?_,z.trans O⟩⟩
  rcases List.mem_append.mp R with h | h
  ·exact F y h
  ·simp at h;subst h;lia
 ·rintro ρ M1 acc ⟨ns,⟨o,rfl⟩,rfl,j,F,z⟩
  exact q ns _ M1 j F z
theorem zw {M:Mem} {N:NC} {a b:List Int} (G:a.length<=1000) {chk:Mem->Prop} (F:chk M)
 (q:∀ ρ,N ρ M ((aK a b).map .int)) :
 bR (jx (bv (bn 0) (bv (bn 1) eQ))) (cn (wOp jq (cm 0) (cm 1))) chk N (List.zipWith gh (a.map .int) (b.map .int)) [none,none] M []:=by
 have ez:List.zipWith gh (a.map D.int) (b.map D.int)=(a.zip b).map fun z=>D.tup [.int z.1, .int z.2]:=by
  rw [List.zipWith_map,List.zip,List.map_zipWith];rfl
 refine aW (f:=fun z:Int×Int=>D.tup [.int z.1, .int z.2]) (ys:=a.zip b) (I:=fun l ρ M' acc=>(∃ o0 j, ρ = [o0,j])/\M'=M/\acc=(l.map fun z=>z.1 - z.2).map .int) ez ⟨⟨_,_,rfl⟩,rfl,rfl⟩ (fun _ _ _ _ h=>by rw [h.2.1];exact F) ?_ ?_
 ·rintro l z r ρ M1 acc e ⟨⟨o0,j,rfl⟩,rfl,rfl⟩
  refine ⟨_,rfl,fun N' n => ?_⟩
  have B:=al e
  rw [List.length_zip] at B
  walk_at "wp"
  exact ⟨by rw [List.length_map,List.length_map,sizeLine_eq];lia,n _ _ _ ⟨⟨_,_,rfl⟩,rfl,by simp⟩⟩
 ·rintro ρ M1 acc ⟨⟨o0,j,rfl⟩,rfl,rfl⟩
  have:(a.zip b).map (fun z=>z.1 - z.2)=aK a b:=by rw [List.zip,List.map_zipWith];rfl
  rw [this];exact q _
theorem uf {p:Pr} {s:Nat} (h:s < 3):atI [D.tup (p.1.map .int), .tup (p.2.1.map .int), .tup (p.2.2.map .int)] (s:Nat)=some (.tup ((pAt p s).map .int)):=by
 match s,h with
 | 0,_=>rfl
 | 1,_=>rfl
 | 2,_=>rfl
noncomputable def pts (p:Pr):List D := [.tup (p.1.map .int), .tup (p.2.1.map .int), .tup (p.2.2.map .int)]
theorem pN {p:Pr} {s:Nat} (h:s < 3) {M:Mem} {Q:QD} (q:Q (.tup ((pts p).take s)) M):cG (prD p) none (some ((s:Nat):Int)) M Q:=by
 match s,h with
 | 0,_=>exact q
 | 1,_=>exact q
 | 2,_=>exact q
theorem pO {p:Pr} {s:Nat} (h:s < 3) {M:Mem} {Q:QD} (q:Q (.tup ((pts p).drop (s+1))) M):cG (prD p) (some (((s:Nat):Int)+1)) none M Q:=by
 match s,h with
 | 0,_=>exact q
 | 1,_=>exact q
 | 2,_=>exact q
theorem pP {p:Pr} {m:List Int} {s:Nat} (h:s < 3):D.tup ((pts p).take s++[.tup (m.map .int)]++(pts p).drop (s+1))=prD (cg p m s):=by
 match s,h with
 | 0,_=>rfl
 | 1,_=>rfl
 | 2,_=>rfl
theorem gF {p:Pr}:(pts p).length=3:=rfl
theorem qZ {f ft fa:Nat} {s:Stmt} (hf:T[f]? = some (fV s ft fa)) {n:Nat} (U:ja T (n - 1) ft) (CF:pM T (n - 1) fa) (hn : 1<=n) {b:Addr} {L0 L1 L2 most:Nat} {B:Int} (hB : 1<=B/\B<=100) (h0:L0<=100) (h1:L1<=100) (h2:L2<=100) (hm:most<=20) {ps:List Pr} (CY:∀ p∈ps,Dr B L0 L1 L2 p) (CQ:ps≠[]) (hl:ps.length<=10000) {y0 y1 y2:D} {pp:Addr} {M:Mem} {Q:QD} (hb:Box b M) (CS:pp≠b) (ep:M pp=some (.lst (ps.map prD)))
 (q:∀ (qs:List Pr) pf M',(∀ p∈qs,Dr (B+2*most) L0 L1 L2 p)->qs.length<=ps.length+most->qs≠[]->(∀ k i j,Tn qs k i j=Tn ps k i j)->Bx b M M'->M pf=none->pf≠b->M' pf=some (.lst (qs.map prD))->Q (.tup [y0,y1,y2, .ref pf]) M') :
 phi T n f [.ref b, .tup [y0,y1,y2], .ref pp, .int most] M Q:=by
 refine aA (by lia) hf rfl (ρ := [some _,some _,some _,some _,none,none,none,none,none,none,none,none,none,none,none]) rfl ?_
 unfold fV
 walk_at "st"
 refine ⟨by rw [sizeLine_eq];lia,fun pf Y => ?_⟩
 have G:pf≠b:=fun w=>by obtain ⟨_,_,_,e⟩:=hb;rw [<- w,Y] at e;cases e
 have x1:=Bx.of hb (Ge.new (o := .lst []) Y)
 have e1:=ae (M:=M) (a:=pf) (o := .lst [])
 generalize af M pf (.lst [])=M1 at x1 e1 ⊢
 walk_at "st"
 refine ⟨_,ai (x1.keep _ _ CS ep), ?_⟩
 refine aH (f:=prD) (ys:=ps) (I:=fun l ρ M' => ∃ qs o5 o6 o7 o8, ρ = [some (.ref b),some (.tup [y0,y1,y2]),some (.ref pp),some (.int most),some (.ref pf),o5,o6,o7,o8,none,none,none,none,none,none]/\Bx b M M'/\M' pf=some (.lst (qs.map prD))/\qs.length=l.length/\(∀ p∈qs,Dr B L0 L1 L2 p) /\ ∀ k i j,Tn qs k i j=Tn l k i j) rfl ⟨[],_,_,_,_,rfl,x1,e1,rfl,fun _ h=>by simp at h,fun _ _ _=>rfl⟩ (fun _ _ _ ⟨_,_,_,_,_,_,h,_⟩=>ai (h.keep _ _ CS ep)) ?_ ?_
 ·rintro l p r ρ M2 e ⟨qs,o5,o6,o7,o8,rfl,x2,e2,Z,L,hT⟩
  refine ⟨_,rfl,fun F hF => ?_⟩
  have S:=CY p (by rw [e];simp)
  have CT:=al e
  walk_at "st"
  refine U x2.box (by decide) (by decide) fun v M3 v0 v1 x3 => ?_
  have e3:=x3.keep pf _ G e2
  have x3:=x2.trans x3
  clear e2 x2
  refine eZ (fun ρ M' => ∃ l' r' o', ρ = [some (.ref b),some (.tup [y0,y1,y2]),some (.ref pp),some (.int most),some (.ref pf),some (.tup (l'.map .int)),some (.tup (r'.map .int)),some (.tup (o'.map .int)),some (.int v),none,none,none,none,none,none]/\Bx b M M'/\M' pf=some (.lst (qs.map prD))/\Dr B L0 L1 L2 (l',r',o') /\ ∀ k i j,tm (l',r',o') k i j=tm p k i j) (fun R hR => ?_) ?_
  ·walk_at "wp"
   by_cases hv:v=0
   ·rw [if_pos (by simp [hv])]
    walk_at "st"
    refine CF (by have:=S.l0;lia) fun M4 g4=>CF (by have:=S.l2;lia) fun M5 g5=>hR _ _ ⟨_,_,_,rfl,x3.ge (g4.trans g5),(g4.trans g5) _ _ e3,⟨by rw [List.length_map];exact S.l0,S.l1,by rw [List.length_map];exact S.l2,S.e0.neg,S.e1,S.e2.neg⟩,fun k i j=>C1⟩
   ·rw [if_neg (by simp [hv])]
    exact hR _ _ ⟨_,_,_,rfl,x3,e3,S,fun _ _ _=>rfl⟩
  rintro ρ M4 ⟨l',r',o',rfl,x4,e4,J,ht⟩
  refine eZ (fun ρ M' => ∃ l' r' o', ρ = [some (.ref b),some (.tup [y0,y1,y2]),some (.ref pp),some (.int most),some (.ref pf),some (.tup (l'.map .int)),some (.tup (r'.map .int)),some (.tup (o'.map .int)),some (.int v),none,none,none,none,none,none]/\Bx b M M'/\M' pf=some (.lst (qs.map prD))/\Dr B L0 L1 L2 (l',r',o') /\ ∀ k i j,tm (l',r',o') k i j=tm p k i j) (fun R hR => ?_) ?_
  ·walk_at "wp"
   by_cases hv:v=1
   ·rw [if_pos (by simp [hv])]
    walk_at "st"
    refine CF (by have:=J.l0;dsimp only at this;lia) fun M5 g5=>CF (by have:=J.l1;dsimp only at this;lia) fun M6 g6=>hR _ _ ⟨_,_,_,rfl,x4.ge (g5.trans g6),(g5.trans g6) _ _ e4,⟨by rw [List.length_map];exact J.l0,by rw [List.length_map];exact J.l1,J.l2,J.e0.neg,J.e1.neg,J.e2⟩,fun k i j=>tm_lr.trans (ht k i j)⟩
   ·rw [if_neg (by simp [hv])]
    exact hR _ _ ⟨_,_,_,rfl,x4,e4,J,ht⟩
  clear x3 e3 x4 e4 J ht
  rintro ρ M5 ⟨l',r',o',rfl,x5,e5,J,ht⟩
  walk_at "st"
  refine ⟨⟨_,e5⟩,jE e5 ?_⟩
  walk_at "wp"
  rw [List.length_map]
  refine U x5.box (by lia) (by lia) fun w M6 w0 w1 x6 => ?_
  have e6:=x6.keep pf _ G e5
  have x6:=x5.trans x6
  refine ⟨by rw [sizeLine_eq];lia, ?_⟩
  refine ⟨_,_,_,_,rfl,rfl,e6,w0,by rw [List.length_map];lia,by rw [List.length_map,sizeLine_eq];lia, ?_⟩
  refine hF _ _ ⟨qs.take w.toNat++(l',r',o')::qs.drop w.toNat,_,_,_,_,rfl,x6.upd Y G, ?_, ?_, ?_, ?_⟩
  ·rw [ae,List.map_append,List.map_cons,List.map_take,List.map_drop];rfl
  ·rw [List.length_append,List.length_cons,List.length_take,List.length_drop,List.length_append,List.length_singleton];lia
  ·intro y hy
   rcases List.mem_append.mp hy with h | h
   ·exact L y (List.mem_of_mem_take h)
   ·rcases List.mem_cons.mp h with rfl | h
    ·exact J
    ·exact L y (List.mem_of_mem_drop h)
  ·intro k i j
   rw [ud,hT,ht,dQ,fj];simp [Tn]
 ·rintro ρ M2 ⟨qs,o5,o6,o7,o8,rfl,x2,e2,Z,L,hT⟩
  dsimp only
  walk_at "st"
  refine U x2.box (by lia) (by lia) fun v M3 v0 v1 x3 => ?_
  have e3:=x3.keep pf _ G e2
  have x3:=x2.trans x3
  clear e1 x1 e2 x2
  refine ⟨_,rfl,by lia,by lia, ?_⟩
  refine aH (f:=fun i=>D.int (i:Nat)) (ys:=List.range v.toNat) (I:=fun l ρ M' => ∃ qs o5 o6 o7 o8 o9 CI CJ CK CL CM, ρ = [some (.ref b),some (.tup [y0,y1,y2]),some (.ref pp),some (.int most),some (.ref pf),o5,o6,o7,o8,o9,CI,CJ,CK,CL,CM]/\Bx b M M'/\M' pf=some (.lst (qs.map prD))/\qs.length=ps.length+l.length/\(∀ p∈qs,Dr (B+2*l.length) L0 L1 L2 p) /\ ∀ k i j,Tn qs k i j=Tn ps k i j) aN ⟨qs,_,_,_,_,_,_,_,_,_,_,rfl,x3,e3,Z,fun p S=>(L p S).mono (by simp),hT⟩ (fun _ _ _ _=>trivial) ?_ ?_
  ·rintro l t r ρ M4 e ⟨qs,o5,o6,o7,o8,o9,CI,CJ,CK,CL,CM,rfl,x4,e4,Z,L,hT⟩
   refine ⟨_,rfl,fun F hF => ?_⟩
   have CT:=al e
   rw [List.length_range] at CT
   have D6 : 1<=ps.length:=by
    cases ps with
    | nil=>exact absurd rfl CQ
    | cons _ _=>simp
   walk_at "st"
   refine jE e4 ?_
   rw [List.length_map]
   refine U x4.box (by lia) (by lia) fun a M5 a0 a1 x5 => ?_
   have e5:=x5.keep pf _ G e4
   have x5:=x4.trans x5
   clear e4 x4
   obtain ⟨a,rfl⟩:∃ k:Nat,a=k:=⟨a.toNat,by lia⟩
   obtain ⟨p,S⟩:∃ p,qs[a]? = some p:=⟨_,List.getElem?_eq_getElem (by lia)⟩
   have CZ:=List.mem_of_getElem? S
   have hd:=L p CZ
   have CC:atI (qs.map prD) ((a:Nat):Int)=some (prD p):=dl (by rw [List.getElem?_map,S];rfl)
   walk_at "st"
   refine bj e5 CC ?_
   refine ⟨_,rfl, ?_⟩
   walk_at "st"
   refine U x5.box (by decide) (by decide) fun c M6 c0 c1 x6 => ?_
   have e6:=x6.keep pf _ G e5
   have x6:=x5.trans x6
   clear e5 x5
   obtain ⟨c,rfl⟩:∃ k:Nat,c=k:=⟨c.toNat,by lia⟩
   have O:c < 3:=by lia
   have CU:(pAt p c).length<=1000:=by
    have:=hd.l0;have:=hd.l1;have:=hd.l2
    match c,O with
    | 0,_=>show p.1.length<=_;lia
    | 1,_=>show p.2.1.length<=_;lia
    | 2,_=>show p.2.2.length<=_;lia
   walk_at "st"
   refine bj e6 CC ?_
   refine ⟨_,_,rfl,uf O,_,rfl, ?_⟩
   refine zv U x6.box CU fun m ρ M7 CN CV x7 p7 hp7 => ?_
   have e7:=x7.keep pf _ G e6
   have x7:=x6.trans x7
   refine ⟨_,_,rfl,ai ae, ?_⟩
   have g8:=Ge.new (o := .lst (m.map .int)) hp7
   have e8:=g8 _ _ e7
   have x8:=x7.ge g8
   generalize af M7 p7 (.lst (m.map .int))=M8 at g8 e8 x8 ⊢
   clear e6 x6 e7 x7 g8 hp7
   walk_at "st"
   refine bj e8 CC ?_
   refine ⟨_,_,rfl,uf O,_,rfl, ?_⟩
   refine zw CU rfl fun ρ p9 hp9 => ?_
   refine ⟨_,_,rfl,ai ae, ?_⟩
   have g9:=Ge.new (o := .lst ((aK (pAt p c) m).map .int)) hp9
   have e9:=g9 _ _ e8
   have x9:=x8.ge g9
   generalize af M8 p9 (.lst ((aK (pAt p c) m).map .int))=M9 at g9 e9 x9 ⊢
   clear e8 x8 g9 hp9
   walk_at "st"
   refine bj e9 CC ?_
   refine pN O ⟨by rw [sizeLine_eq];lia, .inr trivial,by rw [sizeLine_eq,List.length_take,gF,List.length_singleton];lia, ?_⟩
   refine bj e9 CC ?_
   refine pO O ⟨.inr trivial,by rw [sizeLine_eq,List.length_append,List.length_take,List.length_drop,gF,List.length_singleton];lia, ?_⟩
   rw [pP O]
   refine ce e9 (j:=a) (by rw [List.length_map];unfold ixN;rw [if_pos (by lia),if_pos (by lia),Int.toNat_natCast]) ?_
   have CO:Bx b M (af M9 pf (.lst ((qs.map prD).set a (prD (cg p (aK (pAt p c) m) c))))):=x9.upd Y G
   have CD:af M9 pf (.lst ((qs.map prD).set a (prD (cg p (aK (pAt p c) m) c)))) pf=some (.lst ((qs.set a (cg p (aK (pAt p c) m) c)).map prD)):=by rw [ae,List.map_set]
   generalize af M9 pf (.lst ((qs.map prD).set a (prD (cg p (aK (pAt p c) m) c))))=M10 at CO CD ⊢
   clear e9 x9
   have CW:∀ k i j,Tn (qs.set a (cg p (aK (pAt p c) m) c)) k i j+tm (cg p m c) k i j=Tn ps k i j:=fun k i j=>by
    have h1:=B7 (p:=p) (m:=m) (s:=c) (k:=k) (i:=i) (j:=j) CN.symm
    rw [ue S,hT, <- h1];lia
   have CP:∀ y∈qs.set a (cg p (aK (pAt p c) m) c),Dr (B+2*(l++[t]).length) L0 L1 L2 y:=fun y hy=>by
    have CG:B+2*l.length<=B+2*(l++[t]).length:=by rw [List.length_append,List.length_singleton];lia
    rcases List.mem_or_eq_of_mem_set hy with h | h
    ·exact (L y h).mono CG
    ·rw [h]
     refine (hd.mono CG).set (wx CN.symm) ?_
     have:=(hd.at (s:=c)).less CV
     exact this.mono (by rw [List.length_append,List.length_singleton];lia)
   have D3:Dr (B+2*(l++[t]).length) L0 L1 L2 (cg p m c):=by
    have CG:B+2*l.length<=B+2*(l++[t]).length:=by rw [List.length_append,List.length_singleton];lia
    exact (hd.mono CG).set CN (CV.mono (by rw [List.length_append,List.length_singleton];lia))
   have D4:(qs.set a (cg p (aK (pAt p c) m) c)).length=qs.length:=List.length_set
   generalize qs.set a (cg p (aK (pAt p c) m) c)=us at CW CP D4 CD
   walk_at "st"
   refine ⟨by rw [sizeLine_eq];lia, ?_⟩
   refine pN O ⟨by rw [sizeLine_eq];lia, .inr trivial,by rw [sizeLine_eq,List.length_take,gF,List.length_singleton];lia, ?_⟩
   refine ⟨by rw [sizeLine_eq];lia, ?_⟩
   refine pO O ⟨.inr trivial,by rw [sizeLine_eq,List.length_append,List.length_take,List.length_drop,gF,List.length_singleton];lia, ?_⟩
   rw [pP O]
   walk_at "st"
   refine ⟨⟨_,CD⟩,jE CD ?_⟩
   walk_at "wp"
   rw [List.length_map]
   refine U CO.box (by lia) (by lia) fun w D7 w0 w1 CH => ?_
   have D5:=CH.keep pf _ G CD
   have CH:=CO.trans CH
   refine ⟨_,_,_,_,rfl,rfl,D5,w0,by rw [List.length_map];lia,by rw [List.length_map,sizeLine_eq];lia, ?_⟩
   refine hF _ _ ⟨us.take w.toNat++cg p m c::us.drop w.toNat,_,_,_,_,_,_,_,_,_,_,rfl,CH.upd Y G, ?_, ?_, ?_, ?_⟩
   ·rw [ae,List.map_append,List.map_cons,List.map_take,List.map_drop]
   ·rw [List.length_append,List.length_cons,List.length_take,List.length_drop,List.length_append,List.length_singleton];lia
   ·intro y hy
    rcases List.mem_append.mp hy with h | h
    ·exact CP y (List.mem_of_mem_take h)
    ·rcases List.mem_cons.mp h with rfl | h
     ·exact D3
     ·exact CP y (List.mem_of_mem_drop h)
   ·intro k i j
    rw [ud,CW]
  ·rintro ρ M4 ⟨qs,o5,o6,o7,o8,o9,CI,CJ,CK,CL,CM,rfl,x4,e4,Z,L,hT⟩
   dsimp only
   rw [List.length_range] at Z L
   walk_at "st"
   refine ⟨_,_,rfl,rfl,by rw [sizeLine_eq];lia, .inr trivial,by rw [sizeLine_eq];simp, ?_⟩
   refine q qs pf M4 (fun p S=>(L p S).mono (by lia)) (by lia) (fun z => ?_) hT x4 Y G e4
   subst z
   cases ps with
   | nil=>exact CQ rfl
   | cons _ _=>rw [List.length_nil,List.length_cons] at Z;lia
end
section
open PySem PySem.Spec PyProof.Rows L2.Srt
variable {T:List FD}
noncomputable def kE (T:List FD) (n f:Nat):Prop := ∀ {b:Addr} {L0 L1 L2 most:Nat} {B:Int},(1<=B/\B<=100)->L0<=100->L1<=100->L2<=100->most<=20 -> ∀ {ps:List Pr},(∀ p∈ps,Dr B L0 L1 L2 p)->ps≠[]->ps.length<=10000 -> ∀ {y0 y1 y2:D} {pp:Addr} {M:Mem} {Q:QD},Box b M->pp≠b->M pp=some (.lst (ps.map prD)) ->
 (∀ (qs:List Pr) pf M',(∀ p∈qs,Dr (B+2*most) L0 L1 L2 p)->qs.length<=ps.length+most->qs≠[]->(∀ k i j,Tn qs k i j=Tn ps k i j)->Bx b M M'->M pf=none->pf≠b->M' pf=some (.lst (qs.map prD))->Q (.tup [y0,y1,y2, .ref pf]) M') ->
 phi T n f [.ref b, .tup [y0,y1,y2], .ref pp, .int most] M Q
noncomputable def kF (T:List FD) (n f:Nat):Prop := ∀ {L0 L1 L2:Nat},L0<=1000->L1<=1000->L2<=1000 -> ∀ {L:List Tm},(L.map (·.1)).Nodup->L.length<=1000000 -> ∀ {d:Addr} {M:Mem} {Q:QD},M d=some (.dct true (L.map kcD)) ->
 (∀ (rs:List Tm) p M',rs.Perm L->Ge M M'->M p=none->M' p=some (.lst ((rs.map (plP L0 L1 L2)).map prD))->Q (.ref p) M')->phi T n f [.tup [.int L0, .int L1, .int L2], .ref d] M Q
theorem eE {L:Nat} {k:Int}:Within 1 (one L k):=fun x hx=>by
 unfold one at hx
 obtain ⟨h,_,rfl⟩:=List.mem_map.mp hx
 split <;> lia
theorem B8 {L0 L1 L2:Nat} {t:Tm} (h:t.2=1):Dr 1 L0 L1 L2 (plP L0 L1 L2 t):=by
 refine ⟨cA,cA,by unfold plP;rw [List.length_map];exact cA,eE,eE,fun x hx => ?_⟩
 unfold plP at hx
 dsimp only at hx
 rw [h] at hx
 obtain ⟨y,j,rfl⟩:=List.mem_map.mp hx
 have:=eE y j
 lia
end
section
open PySem PySem.Spec PyProof.Rows L2.Srt
theorem bN {F:Nat->Int} {n:Nat} {i:Nat} (h:i < n):gz ((List.range n).map F) (i:Nat)=F i:=by
 unfold gz
 rw [if_neg (by lia),Int.toNat_natCast,List.getD_eq_getElem?_getD,List.getElem?_map,List.getElem?_range h];rfl
theorem B9 {a b:List Int} (j:a.length=b.length) (h:∀ i:Nat,i < a.length->gz a (i:Nat)=gz b (i:Nat)):a=b:=by
 refine List.ext_getElem j fun i h1 h2 => ?_
 have:=h i h1
 unfold gz at this
 rw [if_neg (by lia),if_neg (by lia),Int.toNat_natCast,List.getD_eq_getElem?_getD,List.getD_eq_getElem?_getD,List.getElem?_eq_getElem h1,List.getElem?_eq_getElem h2] at this
 exact this
end
section
open PySem PySem.Spec PyProof.Rows L2.Srt
variable {T:List FD}
noncomputable def jJ (s:Stmt):FD:=⟨"_law_line_sums",s,["_law_n", "_law_m", "_law_found", "_law_i", "_law_j"],2,
 (.cons (.asg (.name 2) (.dnew true))
 (.cons (.for (.name 3) (.rng1 (.var 0)) (.cons (.for (.name 4) (.rng1 (.var 1)) (.cons (.put (.var 2) (.tup (.cons (.bin .add (.var 3) (.var 4)) (.cons (.var 3) (.cons (.var 4) .nil)))) (.int 1))
 .nil))
 .nil))
 (.cons (.ret (.var 2))
 .nil)))⟩
theorem TI.perm' {n m p:Nat} {X L:List Tm} (j:(X.map (·.1)).Nodup) (h:TI n m p X L):L.Perm X:=by
 refine (List.perm_ext_iff_of_nodup (kY h.nd) (kY j)).mpr fun t=>⟨h.sub t,fun q => ?_⟩
 obtain ⟨u,z,e⟩:=List.mem_map.mp (h.all t q)
 have h1:=dE j (h.sub u z)
 have h2:=dE j q
 rw [e,h2] at h1
 have:u=t:=Prod.ext e h1.symm
 rw [<- this];exact z
noncomputable def jK (T:List FD) (k f:Nat):Prop := ∀ {n m:Nat} {M:Mem} {Q:QD},n<=50->m<=50->(∀ (L:List Tm) d M',L.Perm (bY n m)->Ge M M'->M d=none->M' d=some (.dct true (L.map kcD))->Q (.ref d) M')->phi T k f [.int n, .int m] M Q
theorem wy {f:Nat} {s:Stmt} (hf:T[f]? = some (jJ s)) {k:Nat} (Z : 1<=k):jK T k f:=by
 intro n m M Q hn hm q
 refine aA (by lia) hf rfl (ρ := [some _,some _,none,none,none]) rfl ?_
 unfold jJ
 walk_at "st"
 intro d hd
 have U:=Ge.new (o := .dct true []) hd
 have d0:=ae (M:=M) (a:=d) (o := .dct true [])
 generalize af M d (.dct true [])=M0 at U d0 ⊢
 walk_at "st"
 refine ⟨by lia,by lia, ?_⟩
 rw [Int.toNat_natCast]
 refine aH (f:=fun i=>D.int (i:Nat)) (ys:=List.range n) (I:=fun l ρ M' => ∃ L J j, ρ = [some (.int n),some (.int m),some (.ref d),J,j]/\Ge M M'/\M' d=some (.dct true (L.map kcD))/\TI 0 0 0 (l.flatMap fun i=>(List.range m).map (bB i)) L/\L.length<=l.length*50) aN ⟨[],_,_,rfl,U,d0,⟨by simp,fun _ h=>by simp at h,fun _ h=>by simp at h⟩,by simp⟩ (fun _ _ _ _=>trivial) ?_ ?_
 ·rintro l a r ρ M1 e ⟨L,J,j,rfl,g1,h1,z,B⟩
  refine ⟨_,rfl,fun F Y => ?_⟩
  have O:=al e
  rw [List.length_range] at O
  walk_at "st"
  refine ⟨by lia,by lia, ?_⟩
  rw [Int.toNat_natCast]
  refine aH (f:=fun i=>D.int (i:Nat)) (ys:=List.range m) (I:=fun l' ρ M' => ∃ L j, ρ = [some (.int n),some (.int m),some (.ref d),some (.int (a:Nat)),j]/\Ge M M'/\M' d=some (.dct true (L.map kcD))/\TI 0 0 0 ((l.flatMap fun i=>(List.range m).map (bB i))++l'.map (bB a)) L/\L.length<=l.length*50+l'.length) aN ⟨L,_,rfl,g1,h1,by simpa using z,by simpa using B⟩ (fun _ _ _ _=>trivial) ?_ ?_
  ·rintro l' b r' ρ M3 e3 ⟨L,j,rfl,g3,R,z,B⟩
   refine ⟨_,rfl,fun F3 S => ?_⟩
   have G:=al e3
   rw [List.length_range] at G
   rw [bM]
   walk_at "wp"
   refine ⟨by rw [sizeLine_eq];lia, ?_⟩
   have ek:D.tup [.int (a+b), .int a, .int b]=k3D (bB a b).1:=by
    unfold bB k3D
    simp only [Int.natCast_add]
   rw [ek]
   refine i6 R (gC (bB a b).1) (by rw [List.length_map,sizeLine_eq];lia) ?_
   rw [show D.int 1 = .int (bB a b).2 from rfl,i7]
   refine S _ _ ⟨_,_,rfl,g3.upd hd,ae, ?_, ?_⟩
   ·rw [List.map_append, <- List.append_assoc];exact z.put _
   ·have:=nF (L:=L) (k:=(bB a b).1) (c:=(bB a b).2)
    rw [List.length_append,List.length_singleton];lia
  ·rintro ρ M3 ⟨L,j,rfl,g3,R,z,B⟩
   dsimp only
   walk_at "wp"
   refine Y _ _ ⟨L,_,_,rfl,g3,R, ?_, ?_⟩
   ·rw [List.flatMap_append];simpa using z
   ·rw [List.length_append];rw [List.length_range] at B;simp;lia
 ·rintro ρ M1 ⟨L,J,j,rfl,g1,h1,z,B⟩
  dsimp only
  walk_at "st"
  exact q L d M1 (z.perm' fh) g1 hd h1
noncomputable def dW (n i:Nat):List Int:=(List.range (2*n - 1)).map fun k=>if k=2*i then 1 else if i<=k/\k < i+n then -1 else 0
noncomputable def bZ (n i j:Nat):List Int:=(List.range n).map fun h=>if h=i∨h=j then 1 else 0
noncomputable def ppI (n i:Nat):List Pr:=(one n (i:Nat),one n (i:Nat),dW n i)::(List.range i).map fun j=>(bZ n i j,bZ n i j,one (2*n - 1) ((i+j:Nat):Int))
noncomputable def pp (n:Nat):List Pr:=(List.range n).flatMap (ppI n)
theorem pQ {G:Nat->List Pr} {k i j:Int}:∀ l:List Nat,Tn (l.flatMap G) k i j=(l.map fun x=>Tn (G x) k i j).sum
 | [] => rfl
 | x::l=>by rw [List.flatMap_cons,dQ,pQ l];simp
theorem zx {G:Nat->Pr} {k i j:Int} {n:Nat}:Tn ((List.range n).map G) k i j=bx n fun x=>tm (G x) k i j:=by
 unfold Tn bx
 rw [List.map_map];rfl
theorem dr {n k:Nat} {v:Int}:bx n (fun i=>if k=i then v else 0)=if k < n then v else 0:=by
 by_cases h:k < n
 ·rw [if_pos h,u4 (F:=fun _=>v) h]
 ·rw [if_neg h];exact fR fun i hi=>if_neg (by lia)
theorem Ba {n:Nat} {i a b:Nat} {o:List Int} {k:Int} (hi:i < n):tm (one n (i:Nat),one n (i:Nat),o) k (a:Nat) (b:Nat)=if a=i/\b=i then gz o k else 0:=by
 unfold tm
 dsimp only
 rw [eD (by lia) (by lia),eD (by lia) (by lia)]
 by_cases h1:a=i
 ·by_cases h2:b=i
  ·rw [if_pos (by lia),if_pos (by lia),if_pos ⟨h1,h2⟩];lia
  ·rw [if_pos (show (a:Int)=(i:Int) by lia),if_neg (show ¬ (b:Int)=(i:Int) by lia),if_neg (show ¬ (a=i/\b=i) by lia)];lia
 ·rw [if_neg (show ¬ (a:Int)=(i:Int) by lia),if_neg (show ¬ (a=i/\b=i) by lia)];simp
theorem zy {n i j a b k:Nat} (hi:i < n) (G:j < i) (B:a < n) (F:b < n):tm (bZ n i j,bZ n i j,one (2*n - 1) ((i+j:Nat):Int)) (k:Nat) (a:Nat) (b:Nat)=if ((a=i∨a=j)/\(b=i∨b=j))/\k=i+j then 1 else 0:=by
 unfold tm bZ
 dsimp only
 rw [bN B,bN F,eD (by lia) (by lia)]
 by_cases h1:a=i∨a=j
 ·by_cases h2:b=i∨b=j
  ·by_cases q:k=i+j
   ·rw [if_pos h1,if_pos h2,if_pos (by lia),if_pos ⟨⟨h1,h2⟩,q⟩];rfl
   ·rw [if_pos h1,if_pos h2,if_neg (by lia),if_neg (fun z=>q z.2)];rfl
  ·rw [if_neg h2,if_neg (show ¬ (((a=i∨a=j)/\(b=i∨b=j))/\k=i+j) from fun z=>h2 z.1.2)];simp
 ·rw [if_neg h1,if_neg (show ¬ (((a=i∨a=j)/\(b=i∨b=j))/\k=i+j) from fun z=>h1 z.1.1)];simp
theorem C2 {n a b k:Nat} (I:a < n) (J:b < n) (L:k < 2*n - 1):Tn (pp n) (k:Nat) (a:Nat) (b:Nat)=if k=a+b then 1 else 0:=by
 unfold pp
 rw [pQ]
 show bx n (fun i=>Tn (ppI n i) _ _ _)=_
 have O:∀ i,i < n->Tn (ppI n i) (k:Nat) (a:Nat) (b:Nat)=(if a=i/\b=i then (if k=2*i then 1 else if i<=k/\k < i+n then -1 else 0) else 0)+bx i fun j=>if ((a=i∨a=j)/\(b=i∨b=j))/\k=i+j then 1 else 0:=fun i hi=>by
  unfold ppI
  rw [fj,Ba hi,zx]
  unfold dW
  rw [bN L]
  congr 1
  exact bA fun j B=>zy hi B I J
 rw [bA O]
 by_cases hab:a=b
 ·subst hab
  have h1:∀ i,i < n->((if a=i/\a=i then (if k=2*i then 1 else if i<=k/\k < i+n then -1 else 0) else 0)+bx i fun j=>if ((a=i∨a=j)/\(a=i∨a=j))/\k=i+j then (1:Int) else 0)=(if a=i then ((if k=2*a then 1 else if a<=k/\k < a+n then -1 else 0)+if a<=k/\k < 2*a then 1 else 0) else 0)+if k - a=i then (if a < k - a/\a<=k then 1 else 0) else 0:=fun i hi=>by
   by_cases e:a=i
   ·subst e
    rw [if_pos ⟨rfl,rfl⟩,if_pos rfl]
    have e1:(bx a fun j=>if ((a=a∨a=j)/\(a=a∨a=j))/\k=a+j then (1:Int) else 0)=if a<=k/\k < 2*a then 1 else 0:=by
     by_cases h:a<=k
     ·have:∀ j,j < a->(if ((a=a∨a=j)/\(a=a∨a=j))/\k=a+j then (1:Int) else 0)=if k - a=j then 1 else 0:=fun j B=>by
       by_cases z:k=a+j
       ·rw [if_pos ⟨⟨.inl rfl, .inl rfl⟩,z⟩,if_pos (by lia)]
       ·rw [if_neg (fun w=>z w.2),if_neg (by lia)]
      rw [bA this,dr]
      by_cases h2:k < 2*a
      ·rw [if_pos (by lia),if_pos ⟨h,h2⟩]
      ·rw [if_neg (by lia),if_neg (fun w=>h2 w.2)]
     ·rw [if_neg (fun w=>h w.1)]
      exact fR fun j B=>if_neg (fun w=>h (by lia))
    rw [e1]
    have e2:(if k - a=a then (if a < k - a/\a<=k then (1:Int) else 0) else 0)=0:=by
     by_cases h:k - a=a
     ·rw [if_pos h,if_neg (by lia)]
     ·rw [if_neg h]
    rw [e2];lia
   ·rw [if_neg (fun w=>e w.1),if_neg e]
    have e1:∀ j,j < i->(if ((a=i∨a=j)/\(a=i∨a=j))/\k=i+j then (1:Int) else 0)=if a=j then (if k=i+a then 1 else 0) else 0:=fun j B=>by
     by_cases z:a=j
     ·subst z
      rw [if_pos rfl]
      by_cases q:k=i+a
      ·rw [if_pos ⟨⟨.inr rfl, .inr rfl⟩,q⟩,if_pos q]
      ·rw [if_neg (fun w=>q w.2),if_neg q]
     ·rw [if_neg z,if_neg (fun w=>by lia)]
    rw [bA e1,dr]
    by_cases h:a < i
    ·rw [if_pos h]
     by_cases z:k=i+a
     ·rw [if_pos z,if_pos (by lia),if_pos (by lia)]
     ·rw [if_neg z]
      by_cases q:k - a=i
      ·rw [if_pos q,if_neg (by lia)]
      ·rw [if_neg q]
    ·rw [if_neg h]
     by_cases q:k - a=i
     ·rw [if_pos q,if_neg (by lia)]
     ·rw [if_neg q]
  rw [bA h1,wo,dr,dr,if_pos I]
  by_cases c1:k=2*a
  ·rw [if_pos c1,if_neg (show ¬ (a<=k/\k < 2*a) by lia),if_neg (show ¬ (a < k - a/\a<=k) by lia),if_pos (show k=a+a by lia)]
   split <;> rfl
  ·rw [if_neg c1,if_neg (show ¬ k=a+a by lia)]
   by_cases G:a<=k/\k < a+n
   ·rw [if_pos G,if_pos (show k - a < n by lia)]
    by_cases F:k < 2*a
    ·rw [if_pos ⟨G.1,F⟩,if_neg (show ¬ (a < k - a/\a<=k) by lia)];rfl
    ·rw [if_neg (show ¬ (a<=k/\k < 2*a) from fun w=>F w.2),if_pos (show a < k - a/\a<=k by lia)];rfl
   ·rw [if_neg G,if_neg (show ¬ (a<=k/\k < 2*a) by lia)]
    by_cases F:k - a < n
    ·rw [if_pos F,if_neg (show ¬ (a < k - a/\a<=k) by lia)];rfl
    ·rw [if_neg F];rfl
 ·have h1:∀ i,i < n->((if a=i/\b=i then (if k=2*i then 1 else if i<=k/\k < i+n then -1 else 0) else 0)+bx i fun j=>if ((a=i∨a=j)/\(b=i∨b=j))/\k=i+j then (1:Int) else 0)=if max a b=i then (if k=a+b then 1 else 0) else 0:=fun i hi=>by
   rw [if_neg (by lia)]
   have e1:∀ j,j < i->(if ((a=i∨a=j)/\(b=i∨b=j))/\k=i+j then (1:Int) else 0)=if min a b=j then (if max a b=i/\k=a+b then 1 else 0) else 0:=fun j B=>by
    by_cases z:min a b=j
    ·rw [if_pos z]
     by_cases q:max a b=i/\k=a+b
     ·rw [if_pos q,if_pos (by lia)]
     ·rw [if_neg q,if_neg (by lia)]
    ·rw [if_neg z,if_neg (by lia)]
   rw [bA e1,dr]
   by_cases z:max a b=i
   ·rw [if_pos z,if_pos (by lia)]
    by_cases q:k=a+b
    ·rw [if_pos q,if_pos ⟨z,q⟩];rfl
    ·rw [if_neg q,if_neg (fun w=>q w.2)];rfl
   ·rw [if_neg z,if_neg (show ¬ (max a b=i/\k=a+b) from fun w=>z w.1)]
    split <;> rfl
  rw [bA h1,dr,if_pos (by lia)]
theorem jL {n m:Nat} {k i j:Int}:cf (bY n m) (k,i,j)=if (0<=i/\i < n)/\(0<=j/\j < m)/\k=i+j then 1 else 0:=by
 by_cases h:(0<=i/\i < n)/\(0<=j/\j < m)/\k=i+j
 ·rw [if_pos h]
  have hm:bB i.toNat j.toNat∈bY n m:=List.mem_flatMap.mpr ⟨i.toNat,List.mem_range.mpr (by lia),List.mem_map_of_mem (List.mem_range.mpr (by lia))⟩
  have e:(k,i,j)=(bB i.toNat j.toNat).1:=by
   unfold bB
   rw [Prod.mk.injEq,Prod.mk.injEq]
   exact ⟨by lia,by lia,by lia⟩
  rw [e]
  exact dE fh hm
 ·rw [if_neg h]
  refine gB fun t q e=>h ?_
  unfold bY cE at q
  obtain ⟨a,z,q⟩:=List.mem_flatMap.mp q
  obtain ⟨b,B,rfl⟩:=List.mem_map.mp q
  have z:=List.mem_range.mp z
  have B:=List.mem_range.mp B
  unfold bB at e
  rw [Prod.mk.injEq,Prod.mk.injEq] at e
  lia
theorem gG {n:Nat}:∀ p∈pp n,Dr 1 n n (2*n - 1) p:=by
 intro p q
 unfold pp at q
 obtain ⟨i,hi,q⟩:=List.mem_flatMap.mp q
 unfold ppI at q
 rcases List.mem_cons.mp q with rfl | q
 ·refine ⟨cA,cA,by simp [dW],eE,eE,fun x hx => ?_⟩
  unfold dW at hx
  obtain ⟨k,_,rfl⟩:=List.mem_map.mp hx
  split
  ·lia
  ·split <;> lia
 ·obtain ⟨j,_,rfl⟩:=List.mem_map.mp q
  have z:Within 1 (bZ n i j):=fun x hx=>by
   unfold bZ at hx
   obtain ⟨k,_,rfl⟩:=List.mem_map.mp hx
   split <;> lia
  exact ⟨by simp [bZ],by simp [bZ],cA,z,z,eE⟩
theorem C3 {n:Nat} {k i j:Int}:Tn (pp n) k i j=cf (bY n n) (k,i,j):=by
 rw [jL]
 by_cases h:(0<=k/\k < ((2*n - 1:Nat):Int))/\(0<=i/\i < (n:Int))/\(0<=j/\j < (n:Int))
 ·obtain ⟨K,rfl⟩:∃ K:Nat,k=K:=⟨k.toNat,by lia⟩
  obtain ⟨I,rfl⟩:∃ K:Nat,i=K:=⟨i.toNat,by lia⟩
  obtain ⟨J,rfl⟩:∃ K:Nat,j=K:=⟨j.toNat,by lia⟩
  rw [C2 (by lia) (by lia) (by lia)]
  by_cases z:K=I+J
  ·rw [if_pos z,if_pos (by lia)]
  ·rw [if_neg z,if_neg (by lia)]
 ·rw [if_neg (by lia)]
  cases Decidable.em (Tn (pp n) k i j=0) with
  | inl e=>exact e
  | inr e=>exact absurd (ua (L0:=n) (L1:=n) (L2 := 2*n - 1) (us:=pp n) (fun u q=>⟨(gG u q).l0,(gG u q).l1,(gG u q).l2⟩) e) h
end
section
open PySem PySem.Spec PyProof.Rows L2.Srt
variable {T:List FD}
noncomputable def jM (s:Stmt) (fs:Nat):FD:=⟨"_law_pairs_products",s,["_law_n", "_law_found", "_law_i", "_law_out", "_law_j", "_law_both"],1,
 (.cons (.asg (.name 1) (.lst .nil))
 (.cons (.for (.name 2) (.rng1 (.var 0)) (.cons (.asg (.name 3) (.bin .mul (.lst (.cons (.int 0) .nil)) (.bin .sub (.bin .mul (.int 2) (.var 0)) (.int 1))))
 (.cons (.for (.name 4) (.rng1 (.var 0)) (.cons (.put (.var 3) (.bin .add (.var 2) (.var 4)) (.neg (.int 1)))
 .nil))
 (.cons (.put (.var 3) (.bin .mul (.int 2) (.var 2)) (.int 1))
 (.cons (.drop (.meth .append (.var 1) (.tup (.cons (.call fs (.cons (.var 0) (.cons (.var 2) .nil))) (.cons (.call fs (.cons (.var 0) (.cons (.var 2) .nil))) (.cons (.blt .tuple (.cons (.var 3) .nil)) .nil))))))
 (.cons (.for (.name 4) (.rng1 (.var 2)) (.cons (.asg (.name 5) (.blt .tuple (.cons (.comp [none,(some 2),(some 4)] ["_law_place", "_law_i", "_law_j"] (.last (.rng1 (.var 0)) (.name 0) .nil (.blt .int (.cons (.cmp .inS (.var 0) (.tup (.cons (.var 1) (.cons (.var 2) .nil)))) .nil)))) .nil)))
 (.cons (.drop (.meth .append (.var 1) (.tup (.cons (.var 5) (.cons (.var 5) (.cons (.call fs (.cons (.bin .sub (.bin .mul (.int 2) (.var 0)) (.int 1)) (.cons (.bin .add (.var 2) (.var 4)) .nil))) .nil))))))
 .nil)))
 .nil))))))
 (.cons (.ret (.var 1))
 .nil)))⟩
theorem ie {F:Nat->Int} {L i:Nat} {v:Int}:((List.range L).map F).set i v=(List.range L).map fun k=>if k=i then v else F k:=by
 apply List.ext_getElem?
 intro k
 rw [List.getElem?_set]
 by_cases h:i=k
 ·subst h
  rw [if_pos rfl]
  by_cases j:i < L
  ·rw [if_pos (by simpa using j),List.getElem?_map,List.getElem?_range j];simp
  ·rw [if_neg (by simpa using j),List.getElem?_eq_none (by simp;lia)]
 ·rw [if_neg h,List.getElem?_map,List.getElem?_map]
  by_cases j:k < L
  ·rw [List.getElem?_range j];simp [Ne.symm h]
  ·rw [List.getElem?_eq_none (by simp;lia)];rfl
theorem C4 {L:Nat}:(List.replicate L [D.int 0]).flatten=((List.range L).map fun _=>(0:Int)).map D.int:=by
 rw [List.map_map]
 have:(List.range L).map (D.int ∘ fun _=>(0:Int))=List.replicate L (D.int 0):=by
  rw [show (D.int ∘ fun _:Nat=>(0:Int))=fun _=>D.int 0 from rfl,List.map_const',List.length_range]
 rw [this,List.flatten_replicate_singleton]
theorem xE {L i:Nat} (h:i < L):ixN L (i:Nat)=some i:=by
 unfold ixN;rw [if_pos (by lia),if_pos (by lia),Int.toNat_natCast]
theorem jd {n:Nat}:∀ l:List Nat,(∀ i∈l,i < n)->(l.flatMap (ppI n)).length<=l.length*n
 | [],_=>by simp
 | i::l,h=>by
   have:=jd l fun j q=>h j (by simp [q])
   have hi:=h i (by simp)
   rw [List.flatMap_cons,List.length_append,List.length_cons,Nat.succ_mul]
   have:(ppI n i).length=i+1:=by simp [ppI]
   lia
noncomputable def jN (T:List FD) (k f:Nat):Prop := ∀ {n:Nat} {M:Mem} {Q:QD},1<=n->n<=50->(∀ p M',Ge M M'->M p=none->M' p=some (.lst ((pp n).map prD))->Q (.ref p) M')->phi T k f [.int n] M Q
theorem wz {f fs:Nat} {s:Stmt} (hf:T[f]? = some (jM s fs)) {k:Nat} (R:ic T (k - 1) fs) (hk : 1<=k):jN T k f:=by
 intro n M Q CN hn q
 refine aA (by lia) hf rfl (ρ := [some _,none,none,none,none,none]) rfl ?_
 unfold jM
 walk_at "st"
 refine ⟨by rw [sizeLine_eq];lia,fun pf O => ?_⟩
 have g0:=Ge.new (o := .lst []) O
 have e0:=ae (M:=M) (a:=pf) (o := .lst [])
 generalize af M pf (.lst [])=M0 at g0 e0 ⊢
 walk_at "st"
 refine ⟨by lia,by lia, ?_⟩
 rw [Int.toNat_natCast]
 refine aH (f:=fun i=>D.int (i:Nat)) (ys:=List.range n) (I:=fun l ρ M' => ∃ o2 o3 G J, ρ = [some (.int n),some (.ref pf),o2,o3,G,J]/\Ge M M'/\M' pf=some (.lst ((l.flatMap (ppI n)).map prD))) aN ⟨_,_,_,_,rfl,g0,e0⟩ (fun _ _ _ _=>trivial) ?_ ?_
 ·rintro l i r ρ S e ⟨o2,o3,G,J,rfl,g1,e1⟩
  refine ⟨_,rfl,fun F hF => ?_⟩
  have CJ:=al e
  rw [List.length_range] at CJ
  have hi:i < n:=List.mem_range.mp (by rw [e];simp)
  have CC:∀ j∈l,j < n:=fun j hj=>List.mem_range.mp (by rw [e];simp [hj])
  have CO:=jd l CC
  have CP:l.length*n<=50*50:=Nat.mul_le_mul (by lia) hn
  walk_at "st"
  refine ⟨by rw [sizeLine_eq];lia,fun p0 CK=>⟨dS (by lia), ?_⟩⟩
  refine ⟨_,ae,by lia,by lia,by rw [sizeLine_eq];simp;lia,fun po U => ?_⟩
  rw [show (2*(n:Int) - 1).toNat=2*n - 1 by lia,C4]
  have CD:=Ge.new (o := .lst [.int 0]) CK
  have L:S po=none:=by
   cases hz:S po with
   | none=>rfl
   | some o=>rw [CD _ _ hz] at U;cases U
  have g2:=CD.trans (Ge.new (o := .lst (((List.range (2*n - 1)).map fun _=>(0:Int)).map D.int)) U)
  have e2:=ae (M:=af S p0 (.lst [.int 0])) (a:=po) (o := .lst (((List.range (2*n - 1)).map fun _=>(0:Int)).map D.int))
  generalize af (af S p0 (.lst [.int 0])) po (.lst (((List.range (2*n - 1)).map fun _=>(0:Int)).map D.int))=M2 at g2 e2 ⊢
  have CQ:pf≠po:=fun w=>by rw [w,L] at e1;cases e1
  walk_at "st"
  refine ⟨by lia,by lia, ?_⟩
  rw [Int.toNat_natCast]
  refine aH (f:=fun i=>D.int (i:Nat)) (ys:=List.range n) (I:=fun l' ρ M' => ∃ G J, ρ = [some (.int n),some (.ref pf),some (.int (i:Nat)),some (.ref po),G,J]/\Ge S M'/\M' po=some (.lst (((List.range (2*n - 1)).map fun k=>if i<=k/\k < i+l'.length then (-1:Int) else 0).map D.int))) aN ⟨_,_,rfl,g2,by rw [e2];congr 3;exact List.map_congr_left fun k _=>by rw [if_neg (by simp)]⟩ (fun _ _ _ _=>trivial) ?_ ?_
  ·rintro l' j r' ρ M3 e' ⟨G,J,rfl,g3,e3⟩
   refine ⟨_,rfl,fun F' Y => ?_⟩
   have B:=al e'
   rw [List.length_range] at B
   have hj:j=l'.length:=by
    have:=fQ e'
    rw [List.getElem?_range B] at this
    exact (Option.some.inj this).symm
   subst hj
   walk_at "st"
   rw [<- Int.natCast_add]
   refine ce e3 (j:=i+l'.length) (by rw [List.length_map,List.length_map,List.length_range];exact xE (by lia)) ?_
   refine Y _ _ ⟨_,_,rfl,g3.upd L, ?_⟩
   rw [ae, <- List.map_set (f:=D.int),ie]
   congr 3
   refine List.map_congr_left fun k _ => ?_
   rw [List.length_append,List.length_singleton]
   by_cases h1:k=i+l'.length
   ·rw [if_pos h1,if_pos (by lia)]
   ·rw [if_neg h1]
    by_cases h2:i<=k/\k < i+l'.length
    ·rw [if_pos h2,if_pos (by lia)]
    ·rw [if_neg h2,if_neg (by lia)]
  ·rintro ρ M3 ⟨G,J,rfl,g3,e3⟩
   rw [List.length_range] at e3
   dsimp only
   walk_at "st"
   refine ⟨dS (by lia), ?_⟩
   rw [show (2*(i:Int))=((2*i:Nat):Int) by lia]
   refine ce e3 (j := 2*i) (by rw [List.length_map,List.length_map,List.length_range];exact xE (by lia)) ?_
   have g4:=g3.upd L (o := .lst ((((List.range (2*n - 1)).map fun k=>if i<=k/\k < i+n then (-1:Int) else 0).map D.int).set (2*i) (.int 1)))
   have e4:af M3 po (.lst ((((List.range (2*n - 1)).map fun k=>if i<=k/\k < i+n then (-1:Int) else 0).map D.int).set (2*i) (.int 1))) po=some (.lst ((dW n i).map D.int)):=by
    rw [ae, <- List.map_set (f:=D.int),ie];rfl
   generalize af M3 po (.lst ((((List.range (2*n - 1)).map fun k=>if i<=k/\k < i+n then (-1:Int) else 0).map D.int).set (2*i) (.int 1)))=M4 at g4 e4 ⊢
   clear g3 e3 g2 e2
   walk_at "st"
   refine ⟨⟨_,g4 _ _ e1⟩, ?_⟩
   refine R (by lia) fun M5 g5=>R (by lia) fun M6 g6 => ?_
   have g6:=g5.trans g6
   refine ⟨_,_,rfl,ai (g6 _ _ e4), ?_⟩
   have g7:=g4.trans g6
   refine ⟨by rw [sizeLine_eq];lia,pf,_,_,rfl,rfl,g7 _ _ e1,by rw [List.length_map,sizeLine_eq];lia, ?_⟩
   have g8:Ge M (af M6 pf (.lst ((l.flatMap (ppI n)).map prD++[.tup [.tup ((one n (i:Nat)).map .int), .tup ((one n (i:Nat)).map .int), .tup ((dW n i).map .int)]]))):=(g1.trans g7).upd O
   have e8:=ae (M:=M6) (a:=pf) (o := .lst ((l.flatMap (ppI n)).map prD++[.tup [.tup ((one n (i:Nat)).map .int), .tup ((one n (i:Nat)).map .int), .tup ((dW n i).map .int)]]))
   generalize af M6 pf (.lst ((l.flatMap (ppI n)).map prD++[.tup [.tup ((one n (i:Nat)).map .int), .tup ((one n (i:Nat)).map .int), .tup ((dW n i).map .int)]]))=M8 at g8 e8 ⊢
   clear g4 e4 g5 g6 g7
   walk_at "st"
   refine ⟨by lia,by lia, ?_⟩
   rw [Int.toNat_natCast]
   refine aH (f:=fun i=>D.int (i:Nat)) (ys:=List.range i) (I:=fun l' ρ M' => ∃ G J, ρ = [some (.int n),some (.ref pf),some (.int (i:Nat)),some (.ref po),G,J]/\Ge M M'/\M' pf=some (.lst (((l.flatMap (ppI n))++((one n (i:Nat),one n (i:Nat),dW n i)::l'.map fun j=>(bZ n i j,bZ n i j,one (2*n - 1) ((i+j:Nat):Int)))).map prD))) aN ⟨_,_,rfl,g8,by rw [e8];simp [prD]⟩ (fun _ _ _ _=>trivial) ?_ ?_
   ·rintro l' j r' ρ M9 e' ⟨G,J,rfl,g9,e9⟩
    refine ⟨_,rfl,fun F' Y => ?_⟩
    have B:=al e'
    rw [List.length_range] at B
    walk_at "st"
    refine ⟨by lia,by lia, ?_⟩
    rw [Int.toNat_natCast]
    refine aW (f:=fun i=>D.int (i:Nat)) (ys:=List.range n) (I:=fun r ρ M' acc=>(∃ o0, ρ = [o0,some (.int (i:Nat)),some (.int (j:Nat))])/\M'=M9/\acc=(r.map fun h=>if h=i∨h=j then (1:Int) else 0).map .int) aN ⟨⟨_,rfl⟩,rfl,rfl⟩ (fun _ _ _ _ _=>trivial) ?_ ?_
    ·rintro r h r2 ρ CF acc e10 ⟨⟨o0,rfl⟩,rfl,rfl⟩
     refine ⟨_,rfl,fun N' CL => ?_⟩
     have CG:=al e10
     rw [List.length_range] at CG
     walk_at "wp"
     refine ⟨by rw [sizeLine_eq];lia,[(i:Int),(j:Int)],rfl, ?_⟩
     walk_at "wp"
     refine ⟨by rw [List.length_map,List.length_map,sizeLine_eq];lia,CL _ _ _ ⟨⟨_,rfl⟩,rfl, ?_⟩⟩
     rw [List.map_append,List.map_append]
     congr 1
     simp only [List.mem_cons,List.not_mem_nil,or_false,decide_eq_true_eq,List.map_cons,List.map_nil,List.cons.injEq,D.int.injEq,and_true]
     by_cases z:h=i∨h=j
     ·rw [if_pos z,if_pos (by lia)]
     ·rw [if_neg z,if_neg (by lia)]
    ·rintro ρ CF acc ⟨⟨o0,rfl⟩,rfl,rfl⟩ p2 hp2
     refine ⟨_,_,rfl,ai ae, ?_⟩
     have Z:=Ge.new (o := .lst (((List.range n).map fun h=>if h=i∨h=j then (1:Int) else 0).map .int)) hp2
     generalize af CF p2 (.lst (((List.range n).map fun h=>if h=i∨h=j then (1:Int) else 0).map .int))=M11 at Z ⊢
     have CH:=Z _ _ e9
     walk_at "st"
     refine ⟨⟨_,CH⟩,dS (by lia), ?_⟩
     rw [show (2*(n:Int) - 1)=((2*n - 1:Nat):Int) by lia, <- Int.natCast_add]
     refine R (by lia) fun CS CI => ?_
     have CM:=CI _ _ CH
     refine ⟨by rw [sizeLine_eq];lia,pf,_,_,rfl,rfl,CM, ?_, ?_⟩
     ·rw [List.length_map,List.length_append,List.length_cons,List.length_map,sizeLine_eq];lia
     ·refine Y _ _ ⟨_,_,rfl,(g9.trans (Z.trans CI)).upd O, ?_⟩
      rw [ae]
      simp [prD,bZ]
   ·rintro ρ M9 ⟨G,J,rfl,g9,e9⟩
    dsimp only
    walk_at "wp"
    refine hF _ _ ⟨_,_,_,_,rfl,g9, ?_⟩
    rw [e9,List.flatMap_append]
    simp [ppI]
 ·rintro ρ S ⟨o2,o3,G,J,rfl,g1,e1⟩
  dsimp only
  walk_at "st"
  exact q pf S g1 O e1
noncomputable def jO (s:Stmt) (ft fd fq fp fs:Nat):FD:=⟨"_law_line",s,["_law_box_here", "_law_n", "_law_m", "_law_most", "_law_lengths"],4,
 (.cons (.asg (.name 4) (.tup (.cons (.var 1) (.cons (.var 2) (.cons (.bin .sub (.bin .add (.var 1) (.var 2)) (.int 1)) .nil)))))
 (.cons (.ite (.and (.cons (.cmp .eq (.var 1) (.var 2)) (.cons (.cmp .eq (.call ft (.cons (.var 0) (.cons (.int 2) .nil))) (.int 0)) .nil))) (.cons (.ret (.call fd (.cons (.var 0) (.cons (.var 4) (.cons (.call fq (.cons (.var 1) .nil)) (.cons (.var 3) .nil))))))
 .nil) .nil)
 (.cons (.ret (.call fd (.cons (.var 0) (.cons (.var 4) (.cons (.call fp (.cons (.var 4) (.cons (.call fs (.cons (.var 1) (.cons (.var 2) .nil))) .nil))) (.cons (.var 3) .nil))))))
 .nil)))⟩
theorem nO {n m:Nat} {t:Tm} (h:t∈bY n m):((0<=t.1.1/\t.1.1 < (n+m - 1:Nat))/\(0<=t.1.2.1/\t.1.2.1 < (n:Nat))/\(0<=t.1.2.2/\t.1.2.2 < (m:Nat)))/\t.2=1:=by
 unfold bY cE at h
 obtain ⟨a,j,h⟩:=List.mem_flatMap.mp h
 obtain ⟨b,q,rfl⟩:=List.mem_map.mp h
 have j:=List.mem_range.mp j
 have q:=List.mem_range.mp q
 unfold bB
 dsimp only
 lia
theorem fk {n m:Nat}:(bY n m).length=n*m:=wp
theorem C5 {n:Nat} (h : 1<=n):pp n≠[]:=fun z=>by
 have:(one n ((0:Nat):Int),one n ((0:Nat):Int),dW n 0)∈pp n:=List.mem_flatMap.mpr ⟨0,List.mem_range.mpr (by lia),by simp [ppI]⟩
 rw [z] at this;cases this
theorem wB {f ft fd fq fp fs:Nat} {s:Stmt} (hf:T[f]? = some (jO s ft fd fq fp fs)) {k:Nat} (CC:ja T (k - 1) ft) (U:kE T (k - 1) fd) (CD:jN T (k - 1) fq) (CF:kF T (k - 1) fp) (CG:jK T (k - 1) fs) (hk : 2<=k) {b:Addr} {n m most:Nat} (O : 1<=n/\n<=50) (hm : 1<=m/\m<=50) (Y:most<=20) {M:Mem} {Q:QD} (hb:Box b M)
 (q:∀ (qs:List Pr) pf M',(∀ p∈qs,Dr (1+2*most) n m (n+m - 1) p)->qs.length<=n*m+most->(∀ k i j,Tn qs k i j=cf (bY n m) (k,i,j))->Bx b M M'->M pf=none->pf≠b->M' pf=some (.lst (qs.map prD))->Q (.tup [.int n, .int m, .int (n+m - 1:Nat), .ref pf]) M') :
 phi T k f [.ref b, .int n, .int m, .int most] M Q:=by
 have bne:∀ {M':Mem} {p:Addr},Box b M'->M' p=none->p≠b:=fun CH Z w=>by obtain ⟨_,_,_,e⟩:=CH;rw [<- w,Z] at e;cases e
 refine aA (by lia) hf rfl (ρ := [some _,some _,some _,some _,none]) rfl ?_
 unfold jO
 walk_at "st"
 refine ⟨by rw [sizeLine_eq];lia, ?_⟩
 have hmul:n*m<=50*50:=Nat.mul_le_mul O.2 hm.2
 rw [show ((n:Int)+m - 1)=((n+m - 1:Nat):Int) by lia]
 refine eZ (fun ρ M' => ρ = [some (.ref b),some (.int n),some (.int m),some (.int most),some (.tup [.int n, .int m, .int (n+m - 1:Nat)])]/\Bx b M M') (fun R hR => ?_) ?_
 ·walk_at "wp"
  by_cases h:n=m
  ·subst h
   rw [if_pos (by simp)]
   refine CC hb (by decide) (by decide) fun v M1 _ _ S => ?_
   walk_at "wp"
   by_cases hv:v=0
   ·rw [if_pos (by simp [hv])]
    walk_at "st"
    refine CD O.1 O.2 fun p M2 g2 Z e2 => ?_
    have x2:=S.ge g2
    have CI:n+n - 1=2*n - 1:=by lia
    refine U (B := 1) (L0:=n) (L1:=n) (L2:=n+n - 1) (by lia) (by lia) (by lia) (by lia) Y (fun u hu=>by rw [CI];exact gG u hu) (C5 O.1) ?_ x2.box (bne S.box Z) e2 fun qs pf M3 hq G CJ I x3 J z e3 => ?_
    ·have:=jd (n:=n) (List.range n) fun i hi=>List.mem_range.mp hi
     rw [List.length_range] at this
     show (pp n).length<=_
     unfold pp;lia
    ·have:=jd (n:=n) (List.range n) fun i hi=>List.mem_range.mp hi
     rw [List.length_range] at this
     have CN:(pp n).length<=n*n:=this
     refine q qs pf M3 hq (by lia) (fun k i j => ?_) (x2.trans x3) (x2.none J z) z e3
     rw [I,C3]
   ·rw [if_neg (by simp [hv])]
    exact hR _ _ ⟨rfl,S⟩
  ·rw [if_neg (by simp;lia)]
   exact hR _ _ ⟨rfl,Bx.refl hb⟩
 ·rintro ρ M1 ⟨rfl,S⟩
  walk_at "st"
  refine CG O.2 hm.2 fun L d M2 hL g2 hd e2 => ?_
  have CK:(L.map (·.1)).Nodup:=(hL.map _).nodup_iff.mpr fh
  have hlen:=hL.length_eq
  rw [fk] at hlen
  refine CF (by lia) (by lia) (by lia) CK (by lia) e2 fun rs p M3 CL g3 Z e3 => ?_
  have x3:=S.ge (g2.trans g3)
  have CM:=bne (S.ge g2).box Z
  have F:=CL.trans hL
  have CO : 1*1<=n*m:=Nat.mul_le_mul O.1 hm.1
  refine U (B := 1) (L0:=n) (L1:=m) (L2:=n+m - 1) (by lia) (by lia) (by lia) (by lia) Y (ps:=rs.map (plP n m (n+m - 1))) ?_ ?_ ?_ x3.box CM e3 fun qs pf M4 hq G CJ I x4 J z e4 => ?_
  ·intro u hu
   obtain ⟨t,ht,rfl⟩:=List.mem_map.mp hu
   exact B8 (nO (F.mem_iff.mp ht)).2
  ·intro w
   have:=congrArg List.length w
   rw [List.length_map,F.length_eq,fk,List.length_nil] at this
   lia
  ·rw [List.length_map,F.length_eq,fk];lia
  ·refine q qs pf M4 hq (by rw [List.length_map,F.length_eq,fk] at G;exact G) (fun k i j => ?_) (x3.trans x4) (x3.none J z) z e4
   rw [I,nN fun t ht=>(nO (F.mem_iff.mp ht)).1]
   exact pF F
end
section
variable {T:List FD}
noncomputable def eF (y:Str) (s:Stmt) (f:Nat):FD:=⟨"_law_same",s,["_law_found",y],2,
 (.cons (.ite (.tru (.isin2 (.var 1) "list" "tuple")) (.cons (.ite (.or (.cons (.cmp .ne (.isin (.var 1) "list") (.isin (.var 0) "list")) (.cons (.cmp .ne (.isin (.var 1) "tuple") (.isin (.var 0) "tuple")) .nil))) (.cons (.ret (.bl false))
 .nil) .nil)
 (.cons (.ret (.and (.cons (.cmp .eq (.blt .len (.cons (.var 0) .nil)) (.blt .len (.cons (.var 1) .nil))) (.cons (.blt .all (.cons (.comp [none,(some 0),(some 1)] ["_law_k", "_law_found",y] (.last (.rng1 (.blt .len (.cons (.var 1) .nil))) (.name 0) .nil (.call f (.cons (.ix (.var 1) (.var 0)) (.cons (.ix (.var 2) (.var 0)) .nil))))) .nil)) .nil))))
 .nil)) .nil)
 (.cons (.ret (.and (.cons (.isin (.var 0) "int") (.cons (.not (.isin (.var 0) "bool")) (.cons (.cmp .eq (.var 0) (.var 1)) .nil)))))
 .nil))⟩
theorem xF {M:Mem} {x d:D} {ds:List D} {i:Int} {Q:QD} (h:au M x=some ds) (e:atI ds i=some d) (q:Q d M):wIx x (.int i) M Q:=by
 cases x with
 | ref a =>
   simp only [au] at h
   split at h
   ·next e0=>cases h;exact bj e0 e q
   ·cases h
 | tup es=>cases h;exact ⟨i,d,rfl,e,q⟩
 | con es=>cases h;exact ⟨i,d,rfl,e,q⟩
 | _=>cases h
noncomputable def Sm (M:Mem):Nat->D->D->Prop
 | _, .int i, .int j=>i=j
 | n+1, .tup ds, .tup es=>ds.length<=100000/\ds.length=es.length /\ ∀ (k:Nat) d e,ds[k]? = some d->es[k]? = some e->Sm M n d e
 | n+1, .ref a, .ref b => ∃ ds es,M a=some (.lst ds)/\M b=some (.lst es)/\ds.length<=100000/\ds.length=es.length /\ ∀ (k:Nat) d e,ds[k]? = some d->es[k]? = some e->Sm M n d e
 | _,_,_=>False
theorem Sm.ge {M M':Mem} (g:Ge M M'):∀ {n:Nat} {x y:D},Sm M n x y->Sm M' n x y:=by
 intro n
 induction n with
 | zero=>intro x y h;cases x <;> cases y <;> first | exact h.elim | exact h
 | succ n ih =>
   intro x y h
   cases x <;> cases y <;> first
    | exact h.elim
    | (obtain ⟨ds,es,e1,e2,z,l,q⟩:=h;exact ⟨ds,es,g _ _ e1,g _ _ e2,z,l,fun k d e h1 h2=>ih (q k d e h1 h2)⟩)
    | (obtain ⟨z,l,q⟩:=h;exact ⟨z,l,fun k d e h1 h2=>ih (q k d e h1 h2)⟩)
    | exact h
theorem Sm.int {M:Mem} {n:Nat} {i:Int}:Sm M n (.int i) (.int i):=by unfold Sm;cases n <;> rfl
section
variable {f:Nat} {y:Str} {s:Stmt}
theorem nP (hf:T[f]? = some (eF y s f)) {n:Nat} (j : 1<=n) {x:Int} {M:Mem} {Q:QD} (q:Q (.bl true) M):phi T n f [.int x, .int x] M Q:=by
 refine aA (by lia) hf rfl (ρ := [some _,some _]) rfl ?_
 unfold eF
 walk_at "st"
 refine ⟨"int",rfl,false,rfl, ?_⟩
 rw [if_neg (by decide)]
 walk_at "st"
 refine ⟨"int",rfl, ?_⟩
 rw [if_pos (by decide)]
 refine ⟨"int",rfl, ?_⟩
 rw [if_pos (by decide),beq_self_eq_true]
 exact q
theorem kG {n m:Nat} (ih:∀ {x y:D} {M:Mem} {Q:QD},Sm M n x y->(∀ M',Ge M M'->Q (.bl true) M')->phi T m f [x,y] M Q) {u v:D} {ds es:List D} {M:Mem} {N:NC} (F:au M u=some ds) (G:au M v=some es) (z:ds.length<=100000) (l:ds.length=es.length)
 (h:∀ (k:Nat) d e,ds[k]? = some d->es[k]? = some e->Sm M n d e) (q:∀ ρ M',Ge M M'->N ρ M' (es.map fun _ => .bl true)) :
 bR (bn 0) (cn (wAr (phi T m f) (aI (wOp wIx (cm 1) (cm 0)) (aI (wOp wIx (cm 2) (cm 0)) bm)))) (fun _=>True) N (bo 0 (es.length:Int).toNat) [none,some u,some v] M []:=by
 refine aW (f:=fun i=>D.int (i:Nat)) (I:=fun l ρ M' acc=>(∃ o0, ρ = [o0,some u,some v])/\Ge M M'/\acc=l.map fun _ => .bl true) aN ⟨⟨_,rfl⟩,Ge.refl,rfl⟩ (fun _ _ _ _ _=>trivial) ?_ ?_
 ·rintro l' i r ρ M1 acc e ⟨⟨o0,rfl⟩,g,rfl⟩
  refine ⟨_,rfl,fun N' j => ?_⟩
  have B:=al e
  rw [List.length_range] at B
  have hi:i < es.length:=by
   have:i∈List.range (es.length:Int).toNat:=by rw [e];simp
   have:=List.mem_range.mp this
   lia
  walk_at "wp"
  have h1:ds[i]? = some ds[i]:=List.getElem?_eq_getElem (by lia)
  have h2:es[i]? = some es[i]:=List.getElem?_eq_getElem hi
  refine xF (pE F g) (dl h1) (xF (pE G g) (dl h2) (ih ((h i _ _ h1 h2).ge g) fun M2 g2 => ?_))
  refine ⟨by rw [List.length_map,sizeLine_eq];lia,j _ _ _ ⟨⟨_,rfl⟩,g.trans g2,by simp⟩⟩
 ·rintro ρ M1 acc ⟨⟨o0,rfl⟩,g,rfl⟩
  have e:(List.range (es.length:Int).toNat).map (fun _=>D.bl true)=es.map fun _ => .bl true:=by
   rw [List.map_const',List.map_const'];simp
  rw [e]
  exact q _ M1 g
theorem nQ:∀ es:List D,aJ mG (es.map fun _ => .bl true)=some (es.map fun _=>true)
 | [] => rfl
 | e::es=>by rw [List.map_cons,List.map_cons];simp only [aJ,mG,nQ es];rfl
theorem nR {es:List D} {p:Addr} {M:Mem} {Q:QD} (q:Q (.bl true) (af M p (.lst (es.map fun _ => .bl true)))):qt [.ref p] (af M p (.lst (es.map fun _ => .bl true))) Q:=by
 refine ⟨_,_,es.map (fun _=>true),rfl,ai ae,nQ es, ?_⟩
 rw [show ((es.map fun _=>true).all id)=true by simp]
 exact q
theorem zz (hf:T[f]? = some (eF y s f)):∀ {n m:Nat},n+1<=m -> ∀ {u v:D} {M:Mem} {Q:QD},Sm M n u v->(∀ M',Ge M M'->Q (.bl true) M')->phi T m f [u,v] M Q:=by
 intro n
 induction n with
 | zero =>
   intro m hm u v M Q h q
   cases u <;> cases v <;> first
    | exact h.elim
    | (have e:=h;unfold Sm at e;subst e;exact nP hf (by lia) (q _ Ge.refl))
 | succ n ih =>
   intro m hm u v M Q h q
   cases u <;> cases v <;> first
    | exact h.elim
    | (have e:=h;unfold Sm at e;subst e;exact nP hf (by lia) (q _ Ge.refl))
    | skip
   case tup.tup ds es =>
    obtain ⟨z,l,h⟩:=h
    refine aA (by lia) hf rfl (ρ := [some _,some _]) rfl ?_
    unfold eF
    walk_at "st"
    refine ⟨"tuple",rfl,true,rfl, ?_⟩
    rw [if_pos rfl]
    walk_at "st"
    refine ⟨"tuple",rfl, "tuple",rfl,_,_,rfl,rfl,false,rfl, ?_⟩
    rw [if_neg (by decide)]
    refine ⟨"tuple",rfl, "tuple",rfl,_,_,rfl,rfl,false,rfl, ?_⟩
    rw [if_neg (by decide)]
    walk_at "st"
    rw [if_pos (by simp [l])]
    refine ⟨by lia,by lia, ?_⟩
    exact kG (ih (m:=m - 1) (by lia)) rfl rfl z l h fun ρ M' g p hp=>nR (q _ (g.trans (Ge.new hp)))
   case ref.ref a b =>
    obtain ⟨ds,es,e1,e2,z,l,h⟩:=h
    refine aA (by lia) hf rfl (ρ := [some _,some _]) rfl ?_
    unfold eF
    have t1:tyN M (.ref a)=some "list" := by simp [tyN,e1]
    have j:tyN M (.ref b)=some "list" := by simp [tyN,e2]
    walk_at "st"
    refine ⟨"list",j,true,rfl, ?_⟩
    rw [if_pos rfl]
    walk_at "st"
    refine ⟨"list",j, "list",t1,_,_,rfl,rfl,false,rfl, ?_⟩
    rw [if_neg (by decide)]
    refine ⟨"list",j, "list",t1,_,_,rfl,rfl,false,rfl, ?_⟩
    rw [if_neg (by decide)]
    walk_at "st"
    refine jG (ai e1) (jG (ai e2) ?_)
    walk_at "wp"
    rw [if_pos (by simp [l])]
    refine jG (ai e2) ?_
    refine ⟨_,rfl,by lia,by lia, ?_⟩
    exact kG (ih (m:=m - 1) (by lia)) (ai e1) (ai e2) z l h fun ρ M' g p hp=>nR (q _ (g.trans (Ge.new hp)))
end
end
section
open PySem PySem.Spec PyProof.Rows L2.Srt
theorem fW {M:Mem} {n:Nat} {l:List Int} (j:l.length<=100000):Sm M (n+1) (.tup (l.map .int)) (.tup (l.map .int)):=by
 refine ⟨by rw [List.length_map];exact j,rfl,fun k d e h1 h2 => ?_⟩
 rw [h1] at h2;cases h2
 rw [List.getElem?_map] at h1
 obtain ⟨i,_,rfl⟩:=Option.map_eq_some_iff.mp h1
 exact Sm.int
theorem zA {M:Mem} {p:Pr} (h:p.1.length<=100000/\p.2.1.length<=100000/\p.2.2.length<=100000):Sm M 2 (prD p) (prD p):=by
 refine ⟨by simp,rfl,fun k d e h1 h2 => ?_⟩
 rw [h1] at h2;cases h2
 have hm:=List.mem_of_getElem? h1
 simp only [List.mem_cons,List.not_mem_nil,or_false] at hm
 rcases hm with rfl | rfl | rfl
 ·exact fW h.1
 ·exact fW h.2.1
 ·exact fW h.2.2
theorem zB {M:Mem} {x y z:Int} {a b:Addr} {qs:List Pr} (j:qs.length<=100000) (n:M a=some (.lst (qs.map prD))) (q:M b=some (.lst (qs.map prD))) (h:∀ p∈qs,p.1.length<=100000/\p.2.1.length<=100000/\p.2.2.length<=100000) :
 Sm M 4 (.tup [.int x, .int y, .int z, .ref a]) (.tup [.int x, .int y, .int z, .ref b]):=by
 refine ⟨by simp,rfl,fun k d e h1 h2 => ?_⟩
 have:k=0∨k=1∨k=2∨k=3:=by
  have:=(List.getElem?_eq_some_iff.mp h1).1
  simp at this;lia
 rcases this with rfl | rfl | rfl | rfl
 ·cases h1;cases h2;exact Sm.int
 ·cases h1;cases h2;exact Sm.int
 ·cases h1;cases h2;exact Sm.int
 ·cases h1;cases h2
  refine ⟨_,_,n,q,by rw [List.length_map];exact j,rfl,fun k d e h1 h2 => ?_⟩
  rw [h1] at h2;cases h2
  rw [List.getElem?_map] at h1
  obtain ⟨p,B,rfl⟩:=Option.map_eq_some_iff.mp h1
  exact zA (h p (List.mem_of_getElem? B))
theorem Bb:∀ ns:List Int,PyData.eqvAll (ns.map .int) (ns.map .int)=true
 | [] => rfl
 | n::ns=>by simp [PyData.eqvAll,PyData.eqv,Bb ns]
theorem Bc:∀ ps:List Pr,PyData.eqvAll (ps.map eY) (ps.map eY)=true
 | [] => rfl
 | p::ps=>by simp [PyData.eqvAll,PyData.eqv,Bc ps,eY,Bb]
theorem xG {M:Mem} {a:Addr} {ps:List Pr} (h:M a=some (.lst (ps.map prD))):rb 16 M (.ref a)=some (.list (ps.map eY)):=by rw [B4 h,tV];rfl
theorem C6 {M:Mem} {a b:Addr} {ps:List Pr} {Q:QD} (j:M a=some (.lst (ps.map prD))) (n:M b=some (.lst (ps.map prD))) (q:Q (.bl false) M):wNe (.ref a) (.ref b) M Q:=by
 refine ⟨_,_,xG j,xG n, ?_⟩
 rw [show PyData.eqv (.list (ps.map eY)) (.list (ps.map eY))=true by simp [PyData.eqv,Bc]]
 exact q
theorem nS {a b c:Nat}:∀ {ps:List Pr},(∀ p∈ps,p.1.length<=a/\p.2.1.length<=b/\p.2.2.length<=c)->(aX ps).length<=ps.length*(a*(b*c))
 | [],_=>by simp [aX]
 | p::ps,h=>by
   rw [show aX (p::ps)=dU p++aX ps by simp [aX],List.length_append,List.length_cons,Nat.succ_mul]
   have h1:=nS (ps:=ps) fun q j=>h q (by simp [j])
   obtain ⟨x,y,z⟩:=h p (by simp)
   have h2:(dU p).length<=a*(b*c):=by
    unfold dU
    rw [i8]
    have:=nG (l:=p.1);have:=nG (l:=p.2.1);have:=nG (l:=p.2.2)
    exact Nat.mul_le_mul (by lia) (Nat.mul_le_mul (by lia) (by lia))
   lia
theorem pR {L:List Tm}:∀ kv∈L.map kcD, ∃ i,kv.2 = .int i:=fun kv h=>by
 obtain ⟨t,_,rfl⟩:=List.mem_map.mp h
 exact ⟨t.2,rfl⟩
structure St (pf pk:Addr) (ps:List Pr) (M:Mem):Prop where
 f:M pf=some (.lst (ps.map prD))
 k:M pk=some (.lst (ps.map prD))
theorem St.ge {pf pk:Addr} {ps:List Pr} {M M':Mem} (h:St pf pk ps M) (g:Ge M M'):St pf pk ps M':=⟨g _ _ h.f,g _ _ h.k⟩
theorem St.upd {pf pk x:Addr} {ps:List Pr} {M M':Mem} {o:O} (h:St pf pk ps M) (h':St pf pk ps M') (n:M x=none):St pf pk ps (af M' x o):=by
 have ne:∀ {a:Addr} {u:O},M a=some u->a≠x:=fun e z=>by rw [z,n] at e;cases e
 exact ⟨(aR (ne h.f)).trans h'.f,(aR (ne h.k)).trans h'.k⟩
end
section
namespace K22
noncomputable def am (i:Nat):Stmt:=PySem.Challenge.pw_fewtimes_k22_wound.main.body.getD i (.Pass ⟨0,0,0,0⟩)
noncomputable def b0:MSs :=
 (.cons (.asg (.name 3) (.blt .list (.cons (.sl (.var 0) .none (.some (.var 1))) .nil)))
 (.cons (.for (.tup (.cons (.name 4) (.cons (.name 5) .nil))) (.enum (.sl (.var 0) (.some (.var 1)) .none)) (.cons (.augI (.var 3) (.var 4) .add (.bin .mul (.var 2) (.var 5)))
 .nil))
 (.cons (.ret (.blt .tuple (.cons (.var 3) .nil)))
 .nil)))
noncomputable def d0:FD:=⟨"wound_row",am 1,["row", "n", "turn", "told", "k", "x"],3,b0⟩
noncomputable def b1:MSs :=
 (.cons (.asg (.tup (.cons (.name 3) (.cons (.name 4) (.cons (.name 5) (.cons (.name 6) .nil))))) (.var 0))
 (.cons (.ret (.tup (.cons (.var 3) (.cons (.var 4) (.cons (.var 1) (.cons (.comp [none,none,none,(some 1),(some 2)] ["l", "r", "o", "n", "turn"] (.last (.seq (.var 6)) (.tup (.cons (.name 0) (.cons (.name 1) (.cons (.name 2) .nil)))) .nil (.tup (.cons (.var 0) (.cons (.var 1) (.cons (.call 0 (.cons (.var 2) (.cons (.var 3) (.cons (.var 4) .nil)))) .nil)))))) .nil))))))
 .nil))
noncomputable def d1:FD:=⟨"wound",am 2,["scheme", "n", "turn", "left", "right", "many", "products"],3,b1⟩
noncomputable def d2:FD:=j9 (am 4)
noncomputable def b3:MSs :=
 (.cons (.asg (.name 2) (.bin .mod (.bin .mul (.bin .add (.bin .add (.bin .mod (.var 0) (.int 1000000007)) (.bin .mul (.int 7) (.var 1))) (.int 1)) (.int 48271)) (.int 2147483647)))
 (.cons (.asg (.name 3) (.bin .mod (.bin .mul (.var 2) (.bin .add (.bin .add (.bin .mod (.var 2) (.int 1009)) (.var 1)) (.int 3))) (.int 998244353)))
 (.cons (.ret (.bin .fdiv (.bin .mod (.bin .add (.bin .mul (.var 3) (.int 39373)) (.var 2)) (.int 2147483629)) (.int 64)))
 .nil)))
noncomputable def d3:FD:=⟨"_law_mixed",am 5,["_law_number", "_law_k", "_law_once", "_law_twice"],2,b3⟩
noncomputable def d4:FD:=qR (am 6) 2 3
noncomputable def d5:FD:=nC (am 7) 3
noncomputable def d6:FD:=eF "_law_due_here" (am 8) 6
noncomputable def d7:FD:=fS "_law_part" "_law_number" (am 9)
noncomputable def d8:FD:=nK "_law_scheme" (am 10) 7
noncomputable def d9:FD:=i9 (am 11)
noncomputable def d10:FD:=fU "_law_number" (am 12) 9
noncomputable def d11:FD:=jH "_law_part" "_law_number" (am 13)
noncomputable def d12:FD:=fV (am 14) 5 11
noncomputable def d13:FD:=jJ (am 15)
noncomputable def d14:FD:=jM (am 16) 9
noncomputable def d15:FD:=jO (am 17) 5 12 14 10 13
noncomputable def b16:MSs :=
 (.cons (.asg (.name 2) (.dnew true))
 (.cons (.for (.name 3) (.rng1 (.var 0)) (.cons (.for (.name 4) (.rng1 (.var 0)) (.cons (.put (.var 2) (.tup (.cons (.bin .mod (.bin .add (.var 3) (.var 4)) (.var 0)) (.cons (.var 3) (.cons (.var 4) .nil)))) (.ix (.lst (.cons (.int 1) (.cons (.var 1) .nil))) (.blt .int (.cons (.cmp .ge (.bin .add (.var 3) (.var 4)) (.var 0)) .nil))))
 .nil))
 .nil))
 (.cons (.ret (.var 2))
 .nil)))
noncomputable def d16:FD:=⟨"_law_ring_sums",am 18,["_law_n", "_law_turn", "_law_found", "_law_i", "_law_j"],2,b16⟩
noncomputable def b17:MSs :=
 (.cons (.asg (.name 3) (.lst .nil))
 (.cons (.for (.tup (.cons (.name 4) (.cons (.name 5) (.cons (.name 6) .nil)))) (.seq (.ix (.var 0) (.int 3))) (.cons (.asg (.name 7) (.blt .list (.cons (.sl (.var 6) .none (.some (.var 1))) .nil)))
 (.cons (.for (.name 8) (.rng2 (.var 1) (.bin .sub (.bin .mul (.int 2) (.var 1)) (.int 1))) (.cons (.put (.var 7) (.bin .sub (.var 8) (.var 1)) (.bin .add (.ix (.var 7) (.bin .sub (.var 8) (.var 1))) (.bin .mul (.var 2) (.ix (.var 6) (.var 8)))))
 .nil))
 (.cons (.drop (.meth .append (.var 3) (.tup (.cons (.var 4) (.cons (.var 5) (.cons (.blt .tuple (.cons (.var 7) .nil)) .nil))))))
 .nil))))
 (.cons (.ret (.tup (.cons (.var 1) (.cons (.var 1) (.cons (.var 1) (.cons (.var 3) .nil))))))
 .nil)))
noncomputable def d17:FD:=⟨"_law_due",am 19,["_law_scheme", "_law_n", "_law_turn", "_law_found", "_law_l", "_law_r", "_law_o", "_law_told", "_law_k"],3,b17⟩
noncomputable def b18:MSs :=
 (.cons (.for (.name 1) (.rng1 (.bin .add (.int 1) (.blt .min2 (.cons (.int 11) (.cons (.blt .len (.cons (.var 0) .nil)) .nil))))) (.cons (.asg (.name 2) (.call 4 (.cons (.var 0) (.cons (.var 1) .nil))))
 (.cons (.asg (.name 3) (.bin .add (.int 1) (.call 5 (.cons (.var 2) (.cons (.int 7) .nil)))))
 (.cons (.ite (.cmp .eq (.call 5 (.cons (.var 2) (.cons (.int 8) .nil))) (.int 0)) (.cons (.asg (.name 3) (.bin .add (.var 3) (.int 7)))
 .nil) .nil)
 (.cons (.asg (.name 4) (.call 15 (.cons (.var 2) (.cons (.var 3) (.cons (.var 3) (.cons (.int 3) .nil))))))
 (.cons (.asg (.name 5) (.blt .list (.cons (.ix (.var 4) (.int 3)) .nil)))
 (.cons (.for (.name 6) (.seq (.tup (.cons (.int 1) (.cons (.neg (.int 1)) (.cons (.int 1) .nil))))) (.cons (.asg (.name 7) (.call 17 (.cons (.var 4) (.cons (.var 3) (.cons (.var 6) .nil)))))
 (.cons (.asg (.name 8) (.call 1 (.cons (.var 4) (.cons (.var 3) (.cons (.var 6) .nil)))))
 (.cons (.ite (.or (.cons (.not (.tru (.call 6 (.cons (.var 8) (.cons (.var 7) .nil))))) (.cons (.cmp .neD (.call 8 (.cons (.var 7) .nil)) (.call 16 (.cons (.var 3) (.cons (.var 6) .nil)))) .nil))) (.cons (.ret (.bl false))
 .nil) .nil)
 (.cons (.drop (.meth0 .clear (.ix (.var 8) (.int 3))))
 .nil)))))
 (.cons (.ite (.cmp .ne (.ix (.var 4) (.int 3)) (.var 5)) (.cons (.ret (.bl false))
 .nil) .nil)
 .nil))))))))
 (.cons (.ret (.bl true))
 .nil))
noncomputable def d18:FD:=⟨"law",am 20,["_law_script", "_law_k", "_law_box_here", "_law_n", "_law_scheme", "_law_kept", "_law_turn", "_law_due_here", "_law_found"],1,b18⟩
noncomputable def tab:List FD := [d0,d1,d2,d3,d4,d5,d6,d7,d8,d9,d10,d11,d12,d13,d14,d15,d16,d17,d18]
noncomputable def nT:List (Str×Int) := []
end K22
end
section
namespace K22
theorem Bd:∀ d∈tab,qP (tab.map (·.name)) nT d=true:=by decide +kernel
noncomputable abbrev PA (K:Frag) (x:Str) (f:Addr):Prop:=PySem.W.nsIn K mainGlobals x=some (some (.ref f))
noncomputable abbrev PL (K:Frag) (f:Addr) (x:Str) (s:Stmt) (oc:Value) (od:Option Addr) (kV dc pm:Value) (an:Option Addr) (cd ct:Value) (sl:Array (Option Value)):Prop:=K.lookup f=some ⟨oc,od, .func (PySem.W.fnOf x x (cZ s) (bO s) (aw s) .none kV dc pm an cd ct),sl⟩
noncomputable abbrev PC (K:Frag) (c:Value) (x:Str):Prop:=PySem.W.codeIn K c x=true
noncomputable abbrev PK (K:Frag) (f:Addr):Prop:=PySem.W.keepIn K (.ref f)=true
theorem all_mk {l:PySem.W.OpenLaw} {w:World} {K:Frag} {h:Heap} {mg:Str->Option Value} {fa:Addr} (X:K.In h) (G:h.Ns mainGlobals mg) (hfa:mg "law" = some (.ref fa)) (z:∀ x∈bltNames,PySem.W.nsIn K mainGlobals x=some none)
 (a0:PA K "wound_row" f0) (l0:PL K f0 "wound_row" (am 1) oc0 od0 kV0 dc0 pm0 an0 cd0 ct0 sl0) (c0:PC K cd0 "wound_row") (k0:PK K f0)
 (a1:PA K "wound" f1) (l1:PL K f1 "wound" (am 2) oc1 od1 kV1 dc1 pm1 an1 cd1 ct1 sl1) (c1:PC K cd1 "wound") (k1:PK K f1)
 (a2:PA K "_law_cell_at" f2) (l2:PL K f2 "_law_cell_at" (am 4) oc2 od2 kV2 dc2 pm2 an2 cd2 ct2 sl2) (c2:PC K cd2 "_law_cell_at") (k2:PK K f2)
 (a3:PA K "_law_mixed" f3) (l3:PL K f3 "_law_mixed" (am 5) oc3 od3 kV3 dc3 pm3 an3 cd3 ct3 sl3) (c3:PC K cd3 "_law_mixed") (k3:PK K f3)
 (a4:PA K "_law_box" f4) (l4:PL K f4 "_law_box" (am 6) oc4 od4 kV4 dc4 pm4 an4 cd4 ct4 sl4) (c4:PC K cd4 "_law_box") (k4:PK K f4)
 (a5:PA K "_law_take" f5) (l5:PL K f5 "_law_take" (am 7) oc5 od5 kV5 dc5 pm5 an5 cd5 ct5 sl5) (c5:PC K cd5 "_law_take") (k5:PK K f5)
 (a6:PA K "_law_same" f6) (l6:PL K f6 "_law_same" (am 8) oc6 od6 kV6 dc6 pm6 an6 cd6 ct6 sl6) (c6:PC K cd6 "_law_same") (k6:PK K f6)
 (a7:PA K "_law_nonzero" f7) (l7:PL K f7 "_law_nonzero" (am 9) oc7 od7 kV7 dc7 pm7 an7 cd7 ct7 sl7) (c7:PC K cd7 "_law_nonzero") (k7:PK K f7)
 (a8:PA K "_law_sums" f8) (l8:PL K f8 "_law_sums" (am 10) oc8 od8 kV8 dc8 pm8 an8 cd8 ct8 sl8) (c8:PC K cd8 "_law_sums") (k8:PK K f8)
 (a9:PA K "_law_single" f9) (l9:PL K f9 "_law_single" (am 11) oc9 od9 kV9 dc9 pm9 an9 cd9 ct9 sl9) (c9:PC K cd9 "_law_single") (k9:PK K f9)
 (a10:PA K "_law_plainly" f10) (l10:PL K f10 "_law_plainly" (am 12) oc10 od10 kV10 dc10 pm10 an10 cd10 ct10 sl10) (c10:PC K cd10 "_law_plainly") (k10:PK K f10)
 (a11:PA K "_law_turned_about" f11) (l11:PL K f11 "_law_turned_about" (am 13) oc11 od11 kV11 dc11 pm11 an11 cd11 ct11 sl11) (c11:PC K cd11 "_law_turned_about") (k11:PK K f11)
 (a12:PA K "_law_dressed" f12) (l12:PL K f12 "_law_dressed" (am 14) oc12 od12 kV12 dc12 pm12 an12 cd12 ct12 sl12) (c12:PC K cd12 "_law_dressed") (k12:PK K f12)
 (a13:PA K "_law_line_sums" f13) (l13:PL K f13 "_law_line_sums" (am 15) oc13 od13 kV13 dc13 pm13 an13 cd13 ct13 sl13) (c13:PC K cd13 "_law_line_sums") (k13:PK K f13)
 (a14:PA K "_law_pairs_products" f14) (l14:PL K f14 "_law_pairs_products" (am 16) oc14 od14 kV14 dc14 pm14 an14 cd14 ct14 sl14) (c14:PC K cd14 "_law_pairs_products") (k14:PK K f14)
 (a15:PA K "_law_line" f15) (l15:PL K f15 "_law_line" (am 17) oc15 od15 kV15 dc15 pm15 an15 cd15 ct15 sl15) (c15:PC K cd15 "_law_line") (k15:PK K f15)
 (a16:PA K "_law_ring_sums" f16) (l16:PL K f16 "_law_ring_sums" (am 18) oc16 od16 kV16 dc16 pm16 an16 cd16 ct16 sl16) (c16:PC K cd16 "_law_ring_sums") (k16:PK K f16)
 (a17:PA K "_law_due" f17) (l17:PL K f17 "_law_due" (am 19) oc17 od17 kV17 dc17 pm17 an17 cd17 ct17 sl17) (c17:PC K cd17 "_law_due") (k17:PK K f17)
 (a18:PA K "law" f18) (l18:PL K f18 "law" (am 20) oc18 od18 kV18 dc18 pm18 an18 cd18 ct18 sl18) (c18:PC K cd18 "law") (k18:PK K f18)
 : ∃ fd:FuncData,(∀ (s:Shared) (v:Value),BindsTo s fd ⟨[v],[]⟩ [("_law_script",v)]) /\ ∀ base:Heap,K.In base->base.Ns mainGlobals mg->dv l.prog w K mg base CX0 40 fa fd ["_law_script"] (lSp K (phi tab 40 18)):=by
 have e:=hfa.symm.trans (PySem.W.mg_of X G a18)
 cases e
 have O:xu K mg tab nT:=by
  refine ⟨fun x hx=>PySem.W.mg_none_of X G (z x hx), ?_,Bd, ?_⟩
  ·intro i d hd
   match i,hd with
   | 0,hd=>cases hd;exact ⟨_,_,aj l0 c0 k0,PySem.W.mg_of X G a0,(aj l0 c0 k0).binds fun _ _ _ _ _ _ us hl=>by obtain ⟨u0,u1,u2,rfl⟩:=kX us hl;rfl⟩
   | 1,hd=>cases hd;exact ⟨_,_,aj l1 c1 k1,PySem.W.mg_of X G a1,(aj l1 c1 k1).binds fun _ _ _ _ _ _ us hl=>by obtain ⟨u0,u1,u2,rfl⟩:=kX us hl;rfl⟩
   | 2,hd=>cases hd;exact ⟨_,_,aj l2 c2 k2,PySem.W.mg_of X G a2,(aj l2 c2 k2).binds fun _ _ _ _ _ _ us hl=>by obtain ⟨u0,u1,rfl⟩:=cD us hl;rfl⟩
   | 3,hd=>cases hd;exact ⟨_,_,aj l3 c3 k3,PySem.W.mg_of X G a3,(aj l3 c3 k3).binds fun _ _ _ _ _ _ us hl=>by obtain ⟨u0,u1,rfl⟩:=cD us hl;rfl⟩
   | 4,hd=>cases hd;exact ⟨_,_,aj l4 c4 k4,PySem.W.mg_of X G a4,(aj l4 c4 k4).binds fun _ _ _ _ _ _ us hl=>by obtain ⟨u0,u1,rfl⟩:=cD us hl;rfl⟩
   | 5,hd=>cases hd;exact ⟨_,_,aj l5 c5 k5,PySem.W.mg_of X G a5,(aj l5 c5 k5).binds fun _ _ _ _ _ _ us hl=>by obtain ⟨u0,u1,rfl⟩:=cD us hl;rfl⟩
   | 6,hd=>cases hd;exact ⟨_,_,aj l6 c6 k6,PySem.W.mg_of X G a6,(aj l6 c6 k6).binds fun _ _ _ _ _ _ us hl=>by obtain ⟨u0,u1,rfl⟩:=cD us hl;rfl⟩
   | 7,hd=>cases hd;exact ⟨_,_,aj l7 c7 k7,PySem.W.mg_of X G a7,(aj l7 c7 k7).binds fun _ _ _ _ _ _ us hl=>by obtain ⟨u0,rfl⟩:=gy us hl;rfl⟩
   | 8,hd=>cases hd;exact ⟨_,_,aj l8 c8 k8,PySem.W.mg_of X G a8,(aj l8 c8 k8).binds fun _ _ _ _ _ _ us hl=>by obtain ⟨u0,rfl⟩:=gy us hl;rfl⟩
   | 9,hd=>cases hd;exact ⟨_,_,aj l9 c9 k9,PySem.W.mg_of X G a9,(aj l9 c9 k9).binds fun _ _ _ _ _ _ us hl=>by obtain ⟨u0,u1,rfl⟩:=cD us hl;rfl⟩
   | 10,hd=>cases hd;exact ⟨_,_,aj l10 c10 k10,PySem.W.mg_of X G a10,(aj l10 c10 k10).binds fun _ _ _ _ _ _ us hl=>by obtain ⟨u0,u1,rfl⟩:=cD us hl;rfl⟩
   | 11,hd=>cases hd;exact ⟨_,_,aj l11 c11 k11,PySem.W.mg_of X G a11,(aj l11 c11 k11).binds fun _ _ _ _ _ _ us hl=>by obtain ⟨u0,rfl⟩:=gy us hl;rfl⟩
   | 12,hd=>cases hd;exact ⟨_,_,aj l12 c12 k12,PySem.W.mg_of X G a12,(aj l12 c12 k12).binds fun _ _ _ _ _ _ us hl=>by obtain ⟨u0,u1,u2,u3,rfl⟩:=xv us hl;rfl⟩
   | 13,hd=>cases hd;exact ⟨_,_,aj l13 c13 k13,PySem.W.mg_of X G a13,(aj l13 c13 k13).binds fun _ _ _ _ _ _ us hl=>by obtain ⟨u0,u1,rfl⟩:=cD us hl;rfl⟩
   | 14,hd=>cases hd;exact ⟨_,_,aj l14 c14 k14,PySem.W.mg_of X G a14,(aj l14 c14 k14).binds fun _ _ _ _ _ _ us hl=>by obtain ⟨u0,rfl⟩:=gy us hl;rfl⟩
   | 15,hd=>cases hd;exact ⟨_,_,aj l15 c15 k15,PySem.W.mg_of X G a15,(aj l15 c15 k15).binds fun _ _ _ _ _ _ us hl=>by obtain ⟨u0,u1,u2,u3,rfl⟩:=xv us hl;rfl⟩
   | 16,hd=>cases hd;exact ⟨_,_,aj l16 c16 k16,PySem.W.mg_of X G a16,(aj l16 c16 k16).binds fun _ _ _ _ _ _ us hl=>by obtain ⟨u0,u1,rfl⟩:=cD us hl;rfl⟩
   | 17,hd=>cases hd;exact ⟨_,_,aj l17 c17 k17,PySem.W.mg_of X G a17,(aj l17 c17 k17).binds fun _ _ _ _ _ _ us hl=>by obtain ⟨u0,u1,u2,rfl⟩:=kX us hl;rfl⟩
   | 18,hd=>cases hd;exact ⟨_,_,aj l18 c18 k18,PySem.W.mg_of X G a18,(aj l18 c18 k18).binds fun _ _ _ _ _ _ us hl=>by obtain ⟨u0,rfl⟩:=gy us hl;rfl⟩
   | i+19,hd=>simp [tab] at hd
  ·intro x i hx
   simp only [nT,List.mem_cons,List.not_mem_nil,or_false,Prod.mk.injEq] at hx
 refine ⟨PySem.W.fnOf "law" "law" (cZ (am 20)) (bO (am 20)) (aw (am 20)) .none kV18 dc18 pm18 an18 cd18 ct18,fun s v => .of_eq rfl,fun base _ _ => ?_⟩
 exact tH O 40 18 d18 _ _ rfl (aj l18 c18 k18)
theorem walk {l:PySem.W.OpenLaw} {q:Program} {loose:List Str} {XP:(Str->Option Value)->Heap->Prop} {YP:World->Heap->Prop} {d:DefRec} {K:Params->Frag} (hn:l.most=some 63) (hdf:d.params.defaults=[])
 (hlaw:∀ ns:List Int,ns.length<=63->phi tab 40 18 [.con (ns.map D.int)] (fun _=>none) fun d _=>d = .bl true)
 (hY:∀ (w:World) (h:Heap),YP w h->(K w.params).In h)
 (F:∀ (w:World) (mg:Str->Option Value) (fa:Addr) (h:Heap),(K w.params).In h->h.Ns mainGlobals mg->mg d.name=some (.ref fa) ->
   ∃ fd:FuncData,(∀ (s:Shared) (u:Value),BindsTo s fd ⟨[u],[]⟩ [("_law_script",u)]) /\ ∀ base:Heap,(K w.params).In base->base.Ns mainGlobals mg->dv l.prog w (K w.params) mg base CX0 40 fa fd ["_law_script"] (lSp (K w.params) (phi tab 40 18))) :
 PySem.W.WalkO q loose XP YP l.row.toRowW d [] (fun f vs=>PySem.call f vs) :=
 L2.walk_of (n := 63) (k := 40) (x := "_law_script") (CX:=fun _=>CX0) (sp:=fun w=>lSp (K w.params) (phi tab 40 18)) hn (by decide) hdf ⟨rfl,by decide,by decide⟩ hY F (fun w H a ns hl hO hS=>AV hO hS (hlaw ns hl)) fun _ _ _ _ _ z=>z
end K22
end
section
namespace K22
open PySem PySem.Spec PyProof.Rows L2.Srt
theorem pS {n:Nat} (j : 1<=n):qS tab n 3:=tW (x := "_law_number") (s:=am 5) rfl j
theorem fo {n:Nat} (j : 2<=n):ja tab n 5:=fun z h1 h2 q=>zg (s:=am 7) (fm := 3) rfl (pS (by lia)) j z h1 h2 q
theorem wD {n m:Nat} (j:n+1<=m) {u v:D} {M:Mem} {Q:QD} (h:Sm M n u v) (q:∀ M',Ge M M'->Q (.bl true) M'):phi tab m 6 [u,v] M Q:=zz (s:=am 8) (y := "_law_due_here") rfl j h q
theorem Be {n:Nat} (j : 1<=n):B5 tab n 7:=fun z q=>qV (s:=am 9) (xp := "_law_part") (xn := "_law_number") rfl j z q
theorem wF {n:Nat} (I : 2<=n) {x0 j z:D} {p:Addr} {ps:List Pr} {M:Mem} {Q:QD} (B:M p=some (.lst (ps.map prD))) (F:(aX ps).length<=1000000) (G:∀ p∈ps,B6 p)
 (q:∀ (L:List Tm) d M',xC ps L->L.length<=1000000->Ge M M'->M d=none->M' d=some (.dct true (L.map kcD))->Q (.ref d) M'):phi tab n 8 [.tup [x0,j,z, .ref p]] M Q:=zn (s:=am 10) (xs := "_law_scheme") (fz := 7) rfl (Be (by lia)) (by lia) B F G q
theorem je {n:Nat} (j : 1<=n):ic tab n 9:=fun z q=>uc (s:=am 11) rfl j z q
theorem ox {n:Nat} (z : 2<=n):kF tab n 10:=fun a b c _ h1 h2 _ _ _ j q=>qY (s:=am 12) (y := "_law_number") (fs := 9) rfl (je (by lia)) (by lia) a b c h1 h2 j q
theorem ug {n:Nat} (j : 1<=n):pM tab n 11:=fun z q=>ww (s:=am 13) (x := "_law_part") (y := "_law_number") rfl j z q
theorem oz {n:Nat} (z : 3<=n):kE tab n 12:=fun a b c d e _ f g h _ _ _ _ _ _ i j k q=>qZ (s:=am 14) (ft := 5) (fa := 11) rfl (fo (by lia)) (ug (by lia)) (by lia) a b c d e f g h i j k q
theorem uh {n:Nat} (j : 1<=n):jK tab n 13:=wy (s:=am 15) rfl j
theorem ui {n:Nat} (j : 2<=n):jN tab n 14:=wz (s:=am 16) (fs := 9) rfl (je (by lia)) (by lia)
theorem eG {l:List Int} {k:Nat}:gz l (k:Int)=l.getD k 0:=by
 unfold gz
 rw [if_neg (by lia),Int.toNat_natCast]
noncomputable def tl (o:List Int) (n:Nat) (t:Int) (c:Nat):List Int:=(List.range n).map fun k=>gz o (k:Nat)+if k < c then t*gz o ((n+k:Nat):Int) else 0
theorem fX {o:List Int} {n c:Nat} {t:Int}:(tl o n t c).length=n:=by simp [tl]
theorem nU {o:List Int} {n:Nat} {t:Int} (h:n<=o.length):cO (o.map D.int) none (some (n:Int))=(tl o n t 0).map D.int:=by
 unfold cO
 simp only [HT.sIx]
 rw [if_neg (by lia),List.length_map,Int.toNat_natCast,Nat.min_eq_left h,List.drop_zero,Nat.sub_zero, <- List.map_take]
 congr 1
 refine B9 (by rw [List.length_take,fX];lia) fun i hi => ?_
 rw [List.length_take] at hi
 have j:i < n:=by lia
 unfold tl
 rw [bN j,if_neg (by lia),Int.add_zero,eG,eG,List.getD_eq_getElem?_getD,List.getElem?_take_of_lt j,List.getD_eq_getElem?_getD]
theorem wG {o:List Int} {n:Nat} (h:n<=o.length):cO (o.map D.int) (some (n:Int)) none=(o.drop n).map D.int:=by
 unfold cO
 simp only [HT.sIx]
 rw [if_neg (by lia),List.length_map,Int.toNat_natCast,Nat.min_eq_left h, <- List.map_drop,List.take_of_length_le (by simp)]
theorem Bf {l:List Int} {a r:List (Int×Int)} {z:Int×Int} (e:idx l=a++z::r):z=(((a.length:Nat):Int),gz l (a.length:Nat))/\a.length < l.length:=by
 have h:=fQ e
 have j:=al e
 rw [gD] at j
 unfold idx at h
 rw [List.getElem?_mapIdx,List.getElem?_eq_getElem j] at h
 simp only [Option.map_some,Option.some.injEq] at h
 rw [<- h]
 refine ⟨?_,j⟩
 rw [eG,List.getD_eq_getElem?_getD,List.getElem?_eq_getElem j];rfl
theorem uj {o:List Int} {n c:Nat} {t:Int}:(tl o n t c).set c (gz o (c:Nat)+t*gz o ((n+c:Nat):Int))=tl o n t (c+1):=by
 unfold tl
 rw [ie]
 refine List.map_congr_left fun k j => ?_
 by_cases h:k=c
 ·rw [if_pos h,h,if_pos (by lia)]
 ·rw [if_neg h]
  by_cases h2:k < c
  ·rw [if_pos h2,if_pos (by lia)]
  ·rw [if_neg h2,if_neg (by lia)]
theorem uk {o:List Int} {n c:Nat} {t:Int} (h:c < n):(tl o n t c)[c]? = some (gz o (c:Nat)):=by
 unfold tl
 rw [List.getElem?_map,List.getElem?_range h]
 simp
noncomputable def wd (o:List Int) (n:Nat) (t:Int):List Int:=tl o n t (n - 1)
theorem sl_tup {ds:List D} {lo hi:Option Int} {M:Mem} {Q:QD} (q:Q (.tup (cO ds lo hi)) M):cG (.tup ds) lo hi M Q:=q
theorem zC {k:Nat} (U : 1<=k) {o:List Int} {n:Nat} {t:Int} (Y : 1<=n/\n<=50) (ho:o.length=2*n - 1) (Z : -1<=t/\t<=1) {M:Mem} {Q:QD} (q:∀ M',Ge M M'->Q (.tup ((wd o n t).map .int)) M'):phi tab k 0 [.tup (o.map .int), .int n, .int t] M Q:=by
 refine aA (by lia) rfl rfl (ρ := [some _,some _,some _,none,none,none]) rfl ?_
 unfold d0 b0
 walk_at "st"
 refine sl_tup ?_
 rw [nU (t:=t) (by lia)]
 refine ⟨_,_,rfl,rfl,fun p O => ?_⟩
 have g1:=Ge.new (o := .lst ((tl o n t 0).map .int)) O
 have e1:=ae (M:=M) (a:=p) (o := .lst ((tl o n t 0).map .int))
 generalize af M p (.lst ((tl o n t 0).map .int))=M1 at g1 e1 ⊢
 walk_at "st"
 refine sl_tup ?_
 rw [wG (by lia)]
 refine ⟨_,rfl, ?_⟩
 rw [nH]
 refine aH (f:=pD) (ys:=idx (o.drop n)) (I:=fun l ρ M' => ∃ B G, ρ = [some (.tup (o.map .int)),some (.int n),some (.int t),some (.ref p),B,G]/\Ge M M'/\M' p=some (.lst ((tl o n t l.length).map .int))) rfl ⟨_,_,rfl,g1,e1⟩ (fun _ _ _ _=>by first | rfl | trivial) ?_ ?_
 ·rintro l z r ρ M2 e ⟨B,G,rfl,g2,e2⟩
  refine ⟨_,rfl,fun F R => ?_⟩
  obtain ⟨S,J⟩:=Bf e
  rw [List.length_drop] at J
  have L:l.length < n:=by lia
  rw [bM]
  walk_at "wp"
  subst S
  refine ⟨p,_,_, .int (gz o (l.length:Nat)),rfl,rfl,e2, ?_, ?_⟩
  ·refine dl ?_
   rw [List.getElem?_map,uk L];rfl
  walk_at "wp"
  refine ⟨dS (by lia), ?_⟩
  refine ce e2 (j:=l.length) ?_ ?_
  ·unfold ixN
   rw [List.length_map,fX,if_pos (by lia),if_pos (by lia)];simp
  have ed:gz (o.drop n) (l.length:Nat)=gz o ((n+l.length:Nat):Int):=by
   rw [eG,eG,List.getD_eq_getElem?_getD,List.getElem?_drop,List.getD_eq_getElem?_getD]
  refine R _ _ ⟨_,_,rfl,g2.upd O, ?_⟩
  rw [ae,List.length_append,List.length_singleton,ed, <- uj,List.map_set]
 ·rintro ρ M2 ⟨B,G,rfl,g2,e2⟩
  dsimp only
  walk_at "st"
  rw [gD,List.length_drop,show o.length - n=n - 1 by lia] at e2
  exact ⟨_,_,rfl,ai e2,q _ g2⟩
noncomputable def wP (n:Nat) (t:Int) (p:Pr):Pr:=(p.1,p.2.1,wd p.2.2 n t)
theorem wH {k:Nat} (S : 2<=k) {n:Nat} {t:Int} (F : 1<=n/\n<=50) (G : -1<=t/\t<=1) {J:D} {pp:Addr} {ps:List Pr} (U:ps.length<=10000) (L:∀ p∈ps,p.2.2.length=2*n - 1) {M:Mem} {Q:QD} (ep:M pp=some (.lst (ps.map prD)))
 (q:∀ p M',Ge M M'->M p=none->M' p=some (.lst ((ps.map (wP n t)).map prD))->Q (.tup [.int n, .int n, .int n, .ref p]) M'):phi tab k 1 [.tup [.int n, .int n,J, .ref pp], .int n, .int t] M Q:=by
 refine aA (by lia) rfl rfl (ρ := [some _,some _,some _,none,none,none,none]) rfl ?_
 unfold d1 b1
 walk_at "st"
 walk_at "st"
 refine ⟨_,ai ep, ?_⟩
 refine aW (f:=prD) (ys:=ps) (I:=fun l ρ M' acc=>(∃ o0 z B, ρ = [o0,z,B,some (.int n),some (.int t)])/\Ge M M'/\acc=(l.map (wP n t)).map prD) rfl ⟨⟨_,_,_,rfl⟩,Ge.refl,rfl⟩ (fun _ _ _ _ h=>ai (h.2.1 _ _ ep)) ?_ ?_
 ·rintro l p r ρ M1 acc e ⟨⟨o0,z,B,rfl⟩,g1,rfl⟩
  refine ⟨_,rfl,fun N O => ?_⟩
  have R:=al e
  walk_at "wp"
  refine zC (by lia) F (L p (by rw [e];simp)) G fun M2 g2 => ?_
  refine ⟨by rw [sizeLine_eq];lia,by rw [List.length_map,List.length_map,sizeLine_eq];lia,O _ _ _ ⟨⟨_,_,_,rfl⟩,g1.trans g2, ?_⟩⟩
  rw [List.map_append,List.map_append];rfl
 ·rintro ρ M1 acc ⟨⟨o0,z,B,rfl⟩,g1,rfl⟩ p j
  refine ⟨by rw [sizeLine_eq];lia,q p _ (g1.trans (Ge.new j)) ?_ ae⟩
  cases hz:M p with
  | none=>rfl
  | some o=>rw [g1 _ _ hz] at j;cases j
theorem Bg {k:Nat} (hk : 1<=k) {n:Nat} {t:Int} (hn : 1<=n/\n<=50) (ht : -1<=t/\t<=1) {x0 S U:D} {pp:Addr} {ps:List Pr} (hl:ps.length<=10000) (hp:∀ p∈ps,p.2.2.length=2*n - 1) {M:Mem} {Q:QD} (ep:M pp=some (.lst (ps.map prD)))
 (q:∀ p M',Ge M M'->M p=none->M' p=some (.lst ((ps.map (wP n t)).map prD))->Q (.tup [.int n, .int n, .int n, .ref p]) M'):phi tab k 17 [.tup [x0,S,U, .ref pp], .int n, .int t] M Q:=by
 refine aA (by lia) rfl rfl (ρ := [some _,some _,some _,none,none,none,none,none,none]) rfl ?_
 unfold d17 b17
 walk_at "st"
 refine ⟨by rw [sizeLine_eq];lia,fun pf B => ?_⟩
 have g1:=Ge.new (o := .lst []) B
 have e1:=ae (M:=M) (a:=pf) (o := .lst [])
 generalize af M pf (.lst [])=M1 at g1 e1 ⊢
 have CG:pp≠pf:=fun z=>by rw [z,B] at ep;cases ep
 walk_at "st"
 refine ⟨_,rfl,_,ai (g1 _ _ ep), ?_⟩
 refine aH (f:=prD) (ys:=ps) (I:=fun l ρ M' => ∃ Y Z o6 o7 J, ρ = [some (.tup [x0,S,U, .ref pp]),some (.int n),some (.int t),some (.ref pf),Y,Z,o6,o7,J]/\Ge M M'/\M' pf=some (.lst ((l.map (wP n t)).map prD))) rfl ⟨_,_,_,_,_,rfl,g1,e1⟩ (fun l ρ M' ⟨_,_,_,_,_,_,g,_⟩=>ai (g _ _ ep)) ?_ ?_
 ·rintro l p r ρ M2 e ⟨Y,Z,o6,o7,J,rfl,g2,e2⟩
  refine ⟨_,rfl,fun F hF => ?_⟩
  have CH:=al e
  have ho:=hp p (by rw [e];simp)
  walk_at "st"
  refine sl_tup ?_
  rw [nU (t:=t) (by lia)]
  refine ⟨_,_,rfl,rfl,fun pt G => ?_⟩
  have g3:=Ge.new (o := .lst ((tl p.2.2 n t 0).map .int)) G
  have e3:=ae (M:=M2) (a:=pt) (o := .lst ((tl p.2.2 n t 0).map .int))
  have L:pf≠pt:=fun z=>by rw [z,G] at e2;cases e2
  have e2:=g3 _ _ e2
  have CC:M pt=none:=by
   cases hz:M pt with
   | none=>rfl
   | some o=>rw [g2 _ _ hz] at G;cases G
  have g3:=g2.trans g3
  generalize af M2 pt (.lst ((tl p.2.2 n t 0).map .int))=M3 at g3 e3 e2 ⊢
  walk_at "st"
  refine ⟨dS (by decide),_,_,⟨rfl,rfl⟩,⟨by lia,by lia,by lia,by lia⟩, ?_⟩
  refine wk (I:=fun l' ρ M' => ∃ J, ρ = [some (.tup [x0,S,U, .ref pp]),some (.int n),some (.int t),some (.ref pf),some (.tup (p.1.map .int)),some (.tup (p.2.1.map .int)),some (.tup (p.2.2.map .int)),some (.ref pt),J]/\Ge M M'/\M' pt=some (.lst ((tl p.2.2 n t l'.length).map .int))/\M' pf=some (.lst ((l.map (wP n t)).map prD))) ⟨_,rfl,g3,e3,e2⟩ (fun _ _ _ _=>trivial) ?_ ?_
  ·rintro l' x r' ρ M4 e' ⟨J,rfl,g4,O,f4⟩
   have hx:=tU e'
   have R:=al e'
   rw [eX] at R
   have CD:l'.length < n:=by lia
   subst hx
   refine ⟨_,rfl,fun F2 CF => ?_⟩
   rw [bM]
   walk_at "wp"
   have ek:((n:Int)+(l'.length:Nat) - n)=(l'.length:Nat):=by lia
   rw [ek]
   refine bj O (d := .int (gz p.2.2 (l'.length:Nat))) (dl (by rw [List.getElem?_map,uk CD];rfl)) ?_
   have ea:atI (p.2.2.map D.int) ((n:Int)+(l'.length:Nat))=some (.int (gz p.2.2 ((n+l'.length:Nat):Int))):=by
    rw [<- Int.natCast_add]
    refine dl ?_
    rw [List.getElem?_map,List.getElem?_eq_getElem (by lia),eG,List.getD_eq_getElem?_getD,List.getElem?_eq_getElem (by lia)];rfl
   refine ⟨_,ea, ?_⟩
   walk_at "wp"
   refine ⟨dS (by lia), ?_⟩
   refine ce O (j:=l'.length) ?_ ?_
   ·unfold ixN
    rw [List.length_map,fX,if_pos (by lia),if_pos (by lia)];simp
   refine CF _ _ ⟨_,rfl,g4.upd CC, ?_, ?_⟩
   ·rw [ae,List.length_append,List.length_singleton, <- uj,List.map_set]
   ·rw [aR L];exact f4
  ·rintro ρ M4 ⟨J,rfl,g4,O,f4⟩
   rw [eX,show ((2*(n:Int) - 1) - n).toNat=n - 1 by lia] at O
   dsimp only
   walk_at "st"
   refine ⟨⟨_,f4⟩,⟨_,_,rfl,ai O,by rw [sizeLine_eq];lia, ?_⟩⟩
   refine ⟨pf,_,_,rfl,rfl,f4,by rw [List.length_map,List.length_map,sizeLine_eq];lia, ?_⟩
   refine hF _ _ ⟨_,_,_,_,_,rfl,g4.upd B, ?_⟩
   rw [ae,List.map_append,List.map_append];rfl
 ·rintro ρ M2 ⟨Y,Z,o6,o7,J,rfl,g2,e2⟩
  dsimp only
  walk_at "st"
  refine ⟨by rw [sizeLine_eq];lia,q pf M2 g2 B e2⟩
theorem um {n:Nat} {t:Int} (i j:Nat) (q : 1<=n) (hi:i < n) (z:j < n):b9 n t i j=((((i+j) % n:Int),(i:Int),(j:Int)),if n<=i+j then t else 1):=by
 unfold b9
 by_cases h:i+j < n
 ·rw [if_pos h,if_neg (by lia)]
  congr 2
  rw [<- Int.natCast_add, <- Int.natCast_emod,Nat.mod_eq_of_lt h]
 ·rw [if_neg h,if_pos (by lia)]
  congr 2
  rw [<- Int.natCast_add, <- Int.natCast_emod,Nat.mod_eq_sub_mod (by lia),Nat.mod_eq_of_lt (by lia)]
theorem wJ {k:Nat} (hk : 1<=k) {n:Nat} {t:Int} (hn : 1<=n/\n<=50) {M:Mem} {Q:QD} (q:∀ (L:List Tm) d M',L.Perm (ff n t)->Ge M M'->M d=none->M' d=some (.dct true (L.map kcD))->Q (.ref d) M'):phi tab k 16 [.int n, .int t] M Q:=by
 refine aA (by lia) rfl rfl (ρ := [some _,some _,none,none,none]) rfl ?_
 unfold d16 b16
 walk_at "st"
 intro d hd
 have g0:=Ge.new (o := .dct true []) hd
 have d0:=ae (M:=M) (a:=d) (o := .dct true [])
 generalize af M d (.dct true [])=M0 at g0 d0 ⊢
 walk_at "st"
 refine ⟨by lia,by lia, ?_⟩
 rw [Int.toNat_natCast]
 refine aH (f:=fun i=>D.int (i:Nat)) (ys:=List.range n) (I:=fun l ρ M' => ∃ L O j, ρ = [some (.int n),some (.int t),some (.ref d),O,j]/\Ge M M'/\M' d=some (.dct true (L.map kcD))/\TI 0 0 0 (l.flatMap fun i=>(List.range n).map (b9 n t i)) L/\L.length<=l.length*50) aN ⟨[],_,_,rfl,g0,d0,⟨by simp,fun _ h=>by simp at h,fun _ h=>by simp at h⟩,by simp⟩ (fun _ _ _ _=>trivial) ?_ ?_
 ·rintro l a r ρ M1 e ⟨L,O,j,rfl,g1,h1,z,B⟩
  refine ⟨_,rfl,fun F hF => ?_⟩
  have R:=al e
  rw [List.length_range] at R
  have ha:a < n:=List.mem_range.mp (by rw [e];simp)
  walk_at "st"
  refine ⟨by lia,by lia, ?_⟩
  rw [Int.toNat_natCast]
  refine aH (f:=fun i=>D.int (i:Nat)) (ys:=List.range n) (I:=fun l' ρ M' => ∃ L j, ρ = [some (.int n),some (.int t),some (.ref d),some (.int (a:Nat)),j]/\Ge M M'/\M' d=some (.dct true (L.map kcD))/\TI 0 0 0 ((l.flatMap fun i=>(List.range n).map (b9 n t i))++l'.map (b9 n t a)) L/\L.length<=l.length*50+l'.length) aN ⟨L,_,rfl,g1,h1,by simpa using z,by simpa using B⟩ (fun _ _ _ _=>trivial) ?_ ?_
  ·rintro l' b r' ρ S e3 ⟨L,j,rfl,g3,U,z,B⟩
   refine ⟨_,rfl,fun F3 Y => ?_⟩
   have G:=al e3
   rw [List.length_range] at G
   have hb:b < n:=List.mem_range.mp (by rw [e3];simp)
   rw [bM]
   walk_at "wp"
   refine ⟨by rw [sizeLine_eq];lia,fun p1 Z => ?_⟩
   have J:=Ge.new (o := .lst [.int 1, .int t]) Z
   have e4:=ae (M:=S) (a:=p1) (o := .lst [.int 1, .int t])
   have h4:=J _ _ U
   have J:=g3.trans J
   generalize af S p1 (.lst [.int 1, .int t])=M4 at J e4 h4 ⊢
   have hv:atI [D.int 1, .int t] (if (n:Int)<=(a:Int)+b then 1 else 0)=some (.int (if n<=a+b then t else 1)):=by
    by_cases hc:n<=a+b
    ·rw [if_pos (by lia),if_pos hc];rfl
    ·rw [if_neg (by lia),if_neg hc];rfl
   refine bj e4 hv ?_
   refine ⟨by lia,by rw [sizeLine_eq];lia, ?_⟩
   have ek:=um (t:=t) a b hn.1 ha hb
   refine i6 h4 (gC (b9 n t a b).1) (by rw [List.length_map,sizeLine_eq];lia) ?_
   rw [show D.tup [D.int (((a:Int)+b) % n), .int a, .int b]=k3D (b9 n t a b).1 by rw [ek];rfl,show D.int (if n<=a+b then t else 1) = .int (b9 n t a b).2 by rw [ek],i7]
   refine Y _ _ ⟨_,_,rfl,J.upd hd,ae, ?_, ?_⟩
   ·rw [List.map_append, <- List.append_assoc];exact z.put _
   ·have:=nF (L:=L) (k:=(b9 n t a b).1) (c:=(b9 n t a b).2)
    rw [List.length_append,List.length_singleton];lia
  ·rintro ρ S ⟨L,j,rfl,g3,U,z,B⟩
   dsimp only
   walk_at "wp"
   refine hF _ _ ⟨L,_,_,rfl,g3,U, ?_, ?_⟩
   ·rw [List.flatMap_append];simpa using z
   ·rw [List.length_append];rw [List.length_range] at B;simp;lia
 ·rintro ρ M1 ⟨L,O,j,rfl,g1,h1,z,B⟩
  dsimp only
  walk_at "st"
  exact q L d M1 (z.perm' fg) g1 hd h1
theorem C7 {o:List Int} {n:Nat} {t:Int} (j : 1<=n) (ho:o.length=2*n - 1) {k:Int}:gz (wd o n t) k=if 0<=k/\k < n then gz o k+t*gz o (n+k) else 0:=by
 by_cases h : 0<=k/\k < n
 ·rw [if_pos h]
  obtain ⟨i,rfl⟩:∃ i:Nat,k=i:=⟨k.toNat,by lia⟩
  have hi:i < n:=by lia
  unfold wd tl
  rw [bN hi,Int.natCast_add]
  congr 1
  by_cases h2:i < n - 1
  ·rw [if_pos h2]
  ·rw [if_neg h2]
   have:gz o ((n:Int)+i)=0:=by
    cases Decidable.em (gz o ((n:Int)+i)=0) with
    | inl h=>exact h
    | inr h=>have:=eC h;lia
   rw [this];simp
 ·rw [if_neg h]
  cases Decidable.em (gz (wd o n t) k=0) with
  | inl h=>exact h
  | inr h'=>have:=eC h';unfold wd at this;rw [fX] at this;exact absurd this h
theorem xH {n:Nat} {t:Int} (z : 1<=n) {k i j:Int}:∀ {qs:List Pr},(∀ p∈qs,p.2.2.length=2*n - 1)->Tn (qs.map (wP n t)) k i j=if 0<=k/\k < n then Tn qs k i j+t*Tn qs (n+k) i j else 0
 | [],_=>by simp [Tn]
 | p::qs,h=>by
   rw [List.map_cons,dq,dq,dq,xH z fun q B=>h q (by simp [B])]
   unfold wP
   dsimp only
   rw [C7 z (h p (by simp))]
   by_cases c : 0<=k/\k < n
   ·rw [if_pos c,if_pos c,if_pos c,Int.mul_add,Int.mul_add]
    have e:gz p.1 i*gz p.2.1 j*(t*gz p.2.2 (n+k))=t*(gz p.1 i*gz p.2.1 j*gz p.2.2 (n+k)):=by
     simp only [Int.mul_assoc,Int.mul_comm,Int.mul_left_comm]
    rw [e];lia
   ·rw [if_neg c,if_neg c,if_neg c];simp
theorem zD {n:Nat} {t k i j:Int} (G : 1<=n):cf (ff n t) (k,i,j)=if 0<=k/\k < n then cf (bY n n) (k,i,j)+t*cf (bY n n) (n+k,i,j) else 0:=by
 rw [jL,jL]
 by_cases h:(0<=i/\i < n)/\(0<=j/\j < n)/\(k=i+j∨n+k=i+j)/\0<=k/\k < n
 ·have hm:b9 n t i.toNat j.toNat∈ff n t:=List.mem_flatMap.mpr ⟨i.toNat,List.mem_range.mpr (by lia),List.mem_map_of_mem (List.mem_range.mpr (by lia))⟩
  have e:(k,i,j)=(b9 n t i.toNat j.toNat).1:=by
   unfold b9
   by_cases c:i.toNat+j.toNat < n
   ·rw [if_pos c,Prod.mk.injEq,Prod.mk.injEq]
    exact ⟨by lia,by lia,by lia⟩
   ·rw [if_neg c,Prod.mk.injEq,Prod.mk.injEq]
    exact ⟨by lia,by lia,by lia⟩
  rw [e,dE fg hm]
  rw [if_pos (by lia)]
  unfold b9
  by_cases c:i.toNat+j.toNat < n
  ·rw [if_pos c,if_pos (by lia),if_neg (by lia)];simp
  ·rw [if_neg c,if_neg (by lia),if_pos (by lia)];simp
 ·have z:cf (ff n t) (k,i,j)=0:=by
   refine gB fun u q e=>h ?_
   unfold ff cE at q
   obtain ⟨a,B,q⟩:=List.mem_flatMap.mp q
   obtain ⟨b,F,rfl⟩:=List.mem_map.mp q
   have B:=List.mem_range.mp B
   have F:=List.mem_range.mp F
   unfold b9 at e
   split at e <;> rw [Prod.mk.injEq,Prod.mk.injEq] at e <;> lia
  rw [z]
  by_cases c : 0<=k/\k < n
  ·rw [if_pos c,if_neg (by lia),if_neg (by lia)];simp
  ·rw [if_neg c]
theorem Bh {o:List Int} {n:Nat} {t:Int} (q : 1<=n) (ho:o.length=2*n - 1) (h:Within 7 o) (z : -1<=t/\t<=1):Big (wd o n t):=fun x hx=>by
 have j:∀ i, -7<=gz o i/\gz o i<=7:=fun i=>by
  unfold gz
  split
  ·decide
  ·rw [List.getD_eq_getElem?_getD]
   cases e:o[i.toNat]? with
   | none=>decide
   | some y=>have:=h y (List.mem_of_getElem? e);simp only [Option.getD_some];lia
 unfold wd tl at hx
 obtain ⟨k,_,rfl⟩:=List.mem_map.mp hx
 have a:=j (k:Nat)
 have b:=j ((n+k:Nat):Int)
 have:t = -1∨t=0∨t=1:=by lia
 split
 ·rcases this with rfl | rfl | rfl <;> lia
 ·lia
theorem law_holds (ns:List Int) (hl:ns.length<=63):phi tab 40 18 [.con (ns.map D.int)] (fun _=>none) fun d _=>d = .bl true:=by
 refine aA (by lia) rfl rfl (ρ := [some _,none,none,none,none,none,none,none,none]) rfl ?_
 unfold d18 b18
 walk_at "st"
 rw [List.length_map]
 refine ⟨by split <;> lia,by split <;> lia, ?_⟩
 refine aH (I:=fun l ρ M' => ∃ o1 o2 o3 o4 o5 G J O, ρ = [some (.con (ns.map D.int)),o1,o2,o3,o4,o5,G,J,O]) aN ⟨_,_,_,_,_,_,_,_,rfl⟩ (fun _ _ _ hI=>trivial) ?_ ?_
 ·rintro l k r ρ M8 e ⟨o1,o2,o3,o4,o5,G,J,O,rfl⟩
  refine ⟨_,rfl,fun F hF => ?_⟩
  walk_at "st"
  refine B3 (s:=am 6) (fc := 2) (fm := 3) (sc:=am 4) rfl rfl (pS (by lia)) (by lia) (by lia) fun b x y CO => ?_
  have hb:Box b (af M8 b (.lst [.int x, .int y, .int 0])):=⟨_,_,_,ae⟩
  generalize af M8 b (.lst [.int x, .int y, .int 0])=M0 at hb ⊢
  walk_at "st"
  refine fo (by lia) hb (by decide) (by decide) fun n1 M1 n0 n2 x1 => ?_
  walk_at "wp"
  refine eZ (fun ρ M' => ∃ n:Nat,(1<=n/\n<=14) /\ ρ = [some (.con (ns.map D.int)),some (.int (k:Nat)),some (.ref b),some (.int n),o4,o5,G,J,O]/\Box b M') (fun R hR => ?_) ?_
  ·walk_at "wp"
   refine fo (by lia) x1.box (by decide) (by decide) fun g M2 g0 g1 x2 => ?_
   walk_at "wp"
   by_cases hg:g=0
   ·rw [if_pos (by simpa using hg)]
    walk_at "st"
    refine hR _ _ ⟨(1+n1+7).toNat,by lia, ?_,x2.box⟩
    rw [Int.toNat_of_nonneg (by lia)]
   ·rw [if_neg (by simpa using hg)]
    walk_at "wp"
    refine hR _ _ ⟨(1+n1).toNat,by lia, ?_,x2.box⟩
    rw [Int.toNat_of_nonneg (by lia)]
  rintro ρ M2 ⟨n,hn,rfl,CH⟩
  clear x1 hb n0 n2
  walk_at "st"
  refine wB (s:=am 17) (ft := 5) (fd := 12) (fq := 14) (fp := 10) (fs := 13) (most := 3) rfl (fo (by lia)) (oz (by lia)) (ui (by lia)) (ox (by lia)) (uh (by lia)) (by lia) (by lia) (by lia) (by lia) CH fun qs pf M3 q CP hT x3 CI CC ef => ?_
  have CQ:n*n<=14*14:=Nat.mul_le_mul hn.2 hn.2
  have z:∀ p∈qs,p.2.2.length=2*n - 1:=fun p hp=>by rw [(q p hp).l2];lia
  clear x3 CI CC
  walk_at "st"
  refine ⟨_,rfl,_,_,rfl,ai ef,fun pk CD => ?_⟩
  have g3:=Ge.new (o := .lst (qs.map prD)) CD
  have e3:St pf pk qs (af M3 pk (.lst (qs.map prD))):=⟨g3 _ _ ef,ae⟩
  generalize af M3 pk (.lst (qs.map prD))=M4 at g3 e3 ⊢
  clear g3 ef CD
  walk_at "st"
  refine ⟨by rw [sizeLine_eq];lia, ?_⟩
  refine aH (f:=D.int) (ys := [1, -1,1]) (I:=fun l2 ρ M'=>(∃ G J O, ρ = [some (.con (ns.map D.int)),some (.int (k:Nat)),some (.ref b),some (.int n),some (.tup [.int n, .int n, .int (n+n - 1:Nat), .ref pf]),some (.ref pk),G,J,O])/\St pf pk qs M') rfl ⟨⟨_,_,_,rfl⟩,e3⟩ (fun _ _ _ _=>by first | rfl | trivial) ?_ ?_
  ·rintro l2 t r2 ρ M5 e2 ⟨⟨G,J,O,rfl⟩,Y⟩
   refine ⟨_,rfl,fun F2 CJ => ?_⟩
   have ht : -1<=t/\t<=1:=by
    have:t∈[(1:Int), -1,1]:=by rw [e2];simp
    simp at this;lia
   walk_at "st"
   refine Bg (by lia) (by lia) ht (by lia) z Y.f fun pd M6 g6 nd ed => ?_
   have h6:=Y.ge g6
   walk_at "st"
   refine wH (by lia) (by lia) ht (by lia) z h6.f fun pw M7 g7 nw ew => ?_
   have h7:=h6.ge g7
   have ed:=g7 _ _ ed
   have nw:M5 pw=none:=by
    cases hz:M5 pw with
    | none=>rfl
    | some o=>rw [g6 _ _ hz] at nw;cases nw
   have lens:∀ u∈qs.map (wP n t),u.1.length=n/\u.2.1.length=n/\u.2.2.length=n:=fun u B=>by
    obtain ⟨v,Z,rfl⟩:=List.mem_map.mp B
    exact ⟨(q v Z).l0,(q v Z).l1,fX⟩
   walk_at "st"
   refine wD (n := 4) (by lia) (zB (by rw [List.length_map];lia) ew ed fun u B=>by obtain ⟨a,b,c⟩:=lens u B;lia) fun M9 g9 => ?_
   have h9:=h7.ge g9
   have ed:=g9 _ _ ed
   have ew:=g9 _ _ ew
   refine ⟨true,rfl, ?_⟩
   rw [if_neg (by decide)]
   refine wF (by lia) ed ?_ (fun u B => ?_) fun L d CS hL CT CF CU e1 => ?_
   ·have h1:=nS (a := 14) (b := 14) (c := 14) (ps:=qs.map (wP n t)) fun u B=>by obtain ⟨a,b,c⟩:=lens u B;lia
    rw [List.length_map] at h1
    have:qs.length*(14*(14*14))<=200*(14*(14*14)):=Nat.mul_le_mul_right _ (by lia)
    lia
   ·obtain ⟨v,Z,rfl⟩:=List.mem_map.mp B
    obtain ⟨a,b,c⟩:=lens _ (List.mem_map_of_mem Z)
    have hd:=q v Z
    have big:∀ {l:List Int},Within 7 l->Big l:=fun h x hx=>by have:=h x hx;lia
    exact ⟨big hd.e0,big hd.e1,Bh hn.1 (z v Z) hd.e2 ht,by lia,by lia,by lia⟩
   refine wJ (by lia) (by lia) fun L2 d2 CV S U hd2 CK => ?_
   refine ⟨d,d2,_,_,rfl,rfl,⟨.inl (U _ _ e1),pR⟩,⟨.inl CK,pR⟩, ?_⟩
   have CG:(L2.map (·.1)).Nodup:=(S.map _).nodup_iff.mpr fg
   have CL:t≠0:=by
    have:t∈[(1:Int), -1,1]:=by rw [e2];simp
    simp at this;lia
   have CM:∀ u∈L2,u.2≠0:=fun u B=>zm CL u (S.mem_iff.mp B)
   rw [wv CG (zq hL.nd CG hL.nz CM fun k=>by
    obtain ⟨k,i,j⟩:=k
    rw [hL.cf,zp,xH hn.1 z,pF S,zD hn.1,hT,hT])]
   refine ⟨false,rfl, ?_⟩
   rw [if_neg (by decide)]
   have CN:=h9.ge (CF.trans U)
   have ew:=(CF.trans U) _ _ ew
   walk_at "st"
   refine ⟨_,rfl,⟨_,rfl,_,ew⟩,pw,_,rfl,rfl,ew, ?_⟩
   exact CJ _ _ ⟨⟨_,_,_,rfl⟩,Y.upd CN nw⟩
  ·rintro ρ M5 ⟨⟨G,J,O,rfl⟩,Y⟩
   dsimp only
   walk_at "st"
   refine ⟨_,rfl,C6 Y.f Y.k ?_⟩
   refine ⟨false,rfl, ?_⟩
   rw [if_neg (by decide)]
   exact hF _ _ ⟨_,_,_,_,_,_,_,_,rfl⟩
 ·rintro ρ M8 ⟨o1,o2,o3,o4,o5,G,J,O,rfl⟩
  dsimp only
  walk_at "st"
end K22
end
end
end Mi
end L2
namespace PySem.W.Fast
theorem tw12627130344047218880:True:=trivial
theorem tw5182621936566830175:True:=trivial
theorem tw5795460241456210400:True:=trivial
theorem tw16273626415373741117:True:=trivial
theorem tw6864303278825144537:True:=trivial
theorem tw10204725259483044500:True:=trivial
theorem tw16039718153416447844:True:=trivial
theorem tw1370786482158274494:True:=trivial
theorem tw12263086989840381189:True:=trivial
theorem tw1239052760644467851:True:=trivial
theorem tw16910007971138177400:True:=trivial
theorem tw9072975149780238972:True:=trivial
theorem tw9097275328238066829:True:=trivial
theorem tw6944616443927530110:True:=trivial
theorem tw394475351734437477:True:=trivial
theorem tw7543409006359436259:True:=trivial
theorem tw416314878770808451:True:=trivial
theorem tw779520430501457290:True:=trivial
theorem tw17356767874402099974:True:=trivial
theorem tw1496754553257523080:True:=trivial
theorem tw8341443902459167913:True:=trivial
theorem tw17195689155017217363:True:=trivial
theorem tw6015153068198387534:True:=trivial
theorem tw17566005631394395460:True:=trivial
theorem tw10988436808189064258:True:=trivial
theorem tw18437900055026059024:True:=trivial
theorem tw8201830225709861752:True:=trivial
theorem tw3178096166141056588:True:=trivial
theorem tw9391127728599163332:True:=trivial
theorem tw12538720984148660241:True:=trivial
theorem tw16135130642531034398:True:=trivial
theorem tw15685396009729412805:True:=trivial
theorem tw18393556502917038971:True:=trivial
theorem tw997037773449772966:True:=trivial
theorem tw4563683917582110168:True:=trivial
theorem tw8607279747049838541:True:=trivial
theorem tw18439042262547642968:True:=trivial
theorem tw14881442540536035524:True:=trivial
theorem tw3388848042897183116:True:=trivial
theorem tw18166081353879985821:True:=trivial
theorem tw9062956519734321363:True:=trivial
theorem tw5137081829861265299:True:=trivial
theorem tw4198418939166166621:True:=trivial
theorem tw5125962481606754549:True:=trivial
theorem tw13243407883129115271:True:=trivial
theorem tw14216726896343807042:True:=trivial
theorem tw11907131492730604674:True:=trivial
theorem tw6354976649929172213:True:=trivial
theorem tw11321319309003237398:True:=trivial
theorem tw2058577999110897657:True:=trivial
end PySem.W.Fast
open PySem.W in
set_option maxRecDepth 100000 in
set_option maxHeartbeats 0 in
theorem PySem.Challenge.cw_fewtimes_k22_wound_holds : PySem.Challenge.rw_fewtimes_k22_wound.Holds := by
 w_on;o_law;k_head;(case hw=>w_witness2)
 k_fill
 refine L2.Mi.K22.walk (l:=PySem.Challenge.rw_fewtimes_k22_wound) rfl rfl L2.Mi.K22.law_holds (fun w h Y=>PySem.W.kIn_of Y) ?F
 case F =>
  intro w mg fa h KX G hmg
  refine' L2.Mi.K22.all_mk KX G hmg ?z ?_ ?_ ?_ ?_ ?_ ?_ ?_ ?_ ?_ ?_ ?_ ?_ ?_ ?_ ?_ ?_ ?_ ?_ ?_ ?_ ?_ ?_ ?_ ?_ ?_ ?_ ?_ ?_ ?_ ?_ ?_ ?_ ?_ ?_ ?_ ?_ ?_ ?_ ?_ ?_ ?_ ?_ ?_ ?_ ?_ ?_ ?_ ?_ ?_ ?_ ?_ ?_ ?_ ?_ ?_ ?_ ?_ ?_ ?_ ?_ ?_ ?_ ?_ ?_ ?_ ?_ ?_ ?_ ?_ ?_ ?_ ?_ ?_ ?_ ?_ ?_
  case z =>
   intro x hx
   simp only [L2.Mi.bltNames,List.mem_cons,List.not_mem_nil,or_false] at hx
   rcases hx with rfl | rfl | rfl | rfl | rfl | rfl | rfl | rfl | rfl | rfl | rfl | rfl | rfl | rfl | rfl | rfl | rfl | rfl | rfl | rfl <;> k_is
  all_goals try (show _=_;k_is)
