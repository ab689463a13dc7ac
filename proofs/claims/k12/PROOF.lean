import PyProof.Rows.All
import Wide.All
import OpenK.AllK
import Wide.FinOn
import Lean
import PyProof.EqAt
import PyProof.EqKinds
import PyProof.TupleCall
import PyProof.ZipIter
import PyProof.EnumMake
import PyProof.EnumFor
import PyProof.CollectIter
import PyProof.Rows.SeqMore
import PyProof.ConsumeWalk
import PyProof.Rows.SortShellK
import PyProof.DictItems
import PyProof.DictWalks
import PyProof.AttrMissHeap
import PyProof.DictIter
import PyProof.MaxThree
import PyProof.SeqI3
import KE.KDictOf
import PySem.Challenge.RW_fewtimes_k12_plain_schemes
set_option Elab.async false
set_option linter.all false
set_option compiler.extract_closed false
set_option genSizeOf false
set_option bootstrap.genMatcherCode false
set_option maxRecDepth 100000
set_option maxHeartbeats 4000000
open PySem.W (Frag)
namespace L2
open PySem PySem.Spec PyProof.Rows
section
noncomputable abbrev Key:=Sum Int Str
noncomputable def fH:Key->Value->Bool
 | .inl k,v=>Value.isInt k v
 | .inr x,v=>Value.isStrOf x v
noncomputable def Bh (w:World):Key->Int
 | .inl k=>hashInt k
 | .inr x=>hashStr w x
theorem aO:∀ {k:Key} {v:Value},fH k v=true->(∃ i t,k=Sum.inl i/\v=Value.int i t)∨(∃ x t,k=Sum.inr x/\v=Value.str x t)
 | .inl i,v,h=>by
  obtain ⟨t,e⟩:=Value.isInt_shape (k:=i) (v:=v) h
  exact .inl ⟨i,t,rfl,e⟩
 | .inr x,v,h=>by
  obtain ⟨t,e⟩:=Value.isStrOf_shape (x:=x) (v:=v) h
  exact .inr ⟨x,t,rfl,e⟩
theorem qi (i:Int) (t:Tok):fH (.inl i) (.int i t)=true:=by simp [fH,Value.isInt]
theorem qj (x:Str) (t:Tok):fH (.inr x) (.str x t)=true:=by simp [fH,Value.isStrOf]
theorem yH (a b:Int):decide ((Sum.inl a:Key)=Sum.inl b)=(a==b):=by
 by_cases e:a=b
 ·subst e;simp
 ·have h : ¬ (Sum.inl a:Key)=Sum.inl b:=fun q=>e (Sum.inl.inj q)
  rw [decide_eq_false h]
  exact (beq_eq_false_iff_ne.mpr e).symm
theorem yI (a b:Str):decide ((Sum.inr a:Key)=Sum.inr b)=decide (a=b):=by
 by_cases e:a=b
 ·subst e;simp
 ·have h : ¬ (Sum.inr a:Key)=Sum.inr b:=fun q=>e (Sum.inr.inj q)
  rw [decide_eq_false h,decide_eq_false e]
theorem yJ (a:Int) (b:Str):decide ((Sum.inl a:Key)=Sum.inr b)=false:=decide_eq_false (fun q=>nomatch q)
theorem yK (a:Str) (b:Int):decide ((Sum.inr a:Key)=Sum.inl b)=false:=decide_eq_false (fun q=>nomatch q)
noncomputable def aJ (prog:Program) (w:World):PySem.KeyKind prog w Key where
 is:=fH
 hash:=Bh w
 inj:=fun v a b ha hb=>by
  rcases aO ha with ⟨i,t,rfl,rfl⟩ | ⟨x,t,rfl,rfl⟩
  ·rcases aO hb with ⟨j,u,rfl,e⟩ | ⟨y,u,rfl,e⟩
   ·injection e with e1 _;rw [e1]
   ·exact nomatch e
  ·rcases aO hb with ⟨j,u,rfl,e⟩ | ⟨y,u,rfl,e⟩
   ·exact nomatch e
   ·injection e with e1 _;rw [e1]
 byValue:=fun k v h=>by
  rcases aO h with ⟨i,t,rfl,rfl⟩ | ⟨x,t,rfl,rfl⟩ <;> rfl
 pyHash:=fun hv h=>by
  rcases aO hv with ⟨i,t,rfl,rfl⟩ | ⟨x,t,rfl,rfl⟩
  ·exact wpAny_pyHash_int h
  ·exact wpAny_pyHash_str h
 eqBool:=fun hu hv h=>by
  rcases aO hu with ⟨i,t,rfl,rfl⟩ | ⟨x,t,rfl,rfl⟩
  ·rcases aO hv with ⟨j,u,rfl,rfl⟩ | ⟨y,u,rfl,rfl⟩
   ·rw [yH] at h;exact wpAny_eqBool_int h
   ·rw [yJ] at h;exact SeqAt.EqAt.int_str i t y u _ _ _ _ h
  ·rcases aO hv with ⟨j,u,rfl,rfl⟩ | ⟨y,u,rfl,rfl⟩
   ·rw [yK] at h;exact SeqAt.EqAt.str_int x t j u _ _ _ _ h
   ·rw [yI] at h;exact wpAny_eqBool_str h
 «strs» := fun k x t v h=>by
  rcases aO h with ⟨i,u,rfl,e⟩ | ⟨y,u,rfl,e⟩
  ·exact nomatch e
  ·injection e with e1 _
   subst e1
   cases v <;> rfl
theorem nh (prog:Program) (w:World) (i:Int) (t:Tok):(aJ prog w).is (.inl i) (.int i t)=true:=qi i t
theorem ni (prog:Program) (w:World) (x:Str) (t:Tok):(aJ prog w).is (.inr x) (.str x t)=true:=qj x t
end
section
inductive V where
 | non | bl (b:Bool) | int (i:Int) | str (x:Str) | byt (b:Array UInt8) | flt (b:UInt64) | ref (a:Addr) | ty (n:String)
 deriving DecidableEq
noncomputable def RelV:V->Value->Prop
 | .non,u=>u=Value.none
 | .bl b,u=>u=Value.bool b
 | .int i,u => ∃ t,u=Value.int i t
 | .str x,u => ∃ t,u=Value.str x t
 | .byt b,u => ∃ t,u=Value.bytes b t
 | .flt b,u => ∃ t,u=Value.float b t
 | .ref a,u=>u=Value.ref a
 | .ty n,u=>u=Value.type n
noncomputable abbrev Vals:List V->List Value->Prop:=Paired RelV
theorem Vals.length {xs:List V} {us:List Value} (r:Vals xs us):xs.length=us.length:=Paired.length r
theorem Vals.get:∀ {xs:List V} {us:List Value} {i:Nat} {x:V},Vals xs us->xs[i]? = some x -> ∃ u,us[i]? = some u/\RelV x u
 | _,_,_,_, .nil,e=>by simp at e
 | _,_,0,_, .cons r _,e=>by simp at e;subst e;exact ⟨_,rfl,r⟩
 | _,_,i+1,x, .cons _ t,e=>by
   obtain ⟨u,h1,h2⟩:=Vals.get (i:=i) (x:=x) t (by simpa using e)
   exact ⟨u,by simpa using h1,h2⟩
theorem Vals.set {x:V} {u:Value} (r:RelV x u):∀ {xs:List V} {us:List Value} (i:Nat),Vals xs us->Vals (xs.set i x) (us.set i u)
 | _,_,_, .nil => .nil
 | _,_,0, .cons _ t => .cons r t
 | _,_,i+1, .cons q t => .cons q (Vals.set r i t)
theorem Vals.append:∀ {xs ys:List V} {us ws:List Value},Vals xs us->Vals ys ws->Vals (xs++ys) (us++ws)
 | _,_,_,_, .nil,s=>s
 | _,_,_,_, .cons r t,s => .cons r (Vals.append t s)
theorem Vals.take:∀ {xs:List V} {us:List Value} (n:Nat),Vals xs us->Vals (xs.take n) (us.take n)
 | _,_,0,_ => .nil
 | _,_,_+1, .nil => .nil
 | _,_,n+1, .cons r t => .cons r (Vals.take n t)
theorem Vals.drop:∀ {xs:List V} {us:List Value} (n:Nat),Vals xs us->Vals (xs.drop n) (us.drop n)
 | _,_,0,r=>r
 | _,_,_+1, .nil => .nil
 | _,_,n+1, .cons _ t=>Vals.drop n t
noncomputable def RelO:Option V->Option Value->Prop
 | some v,some u=>RelV v u
 | none,none=>True
 | _,_=>False
noncomputable def KV {κ:Type}:List (κ × V)->List (κ × Value)->Prop:=Paired fun (p : κ × V) (q : κ × Value)=>p.1=q.1/\RelV p.2 q.2
noncomputable def kV:Key->V
 | .inl i => .int i
 | .inr x => .str x
inductive HO where
 | lst (xs:List V)
 | tup (xs:List V)
 | dK (kvs:List (Key×V)) | dT (kvs:List (List Key×V))
 | set (S:Int->Bool) (n:Nat)
 | ins (C dx:Addr) (fs:List (Str×V))
 | own (x:Addr)
 | xd (fs:List (Str×V))
 | met (f x:Addr)
 | rng (lo hi:Int)
 | frz (o:Obj) (u:HO)
 | tbl (ps:Array Value)
 | ext (φ:Heap->Prop)
noncomputable abbrev Hp:=Addr->Option HO
noncomputable def upd (H:Hp) (a:Addr) (o:HO):Hp:=fun b=>if b=a then some o else H b
theorem ar {H:Hp} {a:Addr} {o:HO}:upd H a o a=some o:=by unfold upd;rw [if_pos rfl]
theorem aj {H:Hp} {a b:Addr} {o:HO} (h:b≠a):upd H a o b=H b:=by unfold upd;rw [if_neg h]
theorem wB {H:Hp} {a:Addr} {o u:HO}:upd (upd H a o) a u=upd H a u:=by
 funext b;unfold upd;split <;> rfl
theorem Ar {H:Hp} {a b:Addr} {o u:HO} (h:H a=some o) (h':H b=some u) (d:o≠u):a≠b:=by
 intro e;subst e;rw [h] at h';exact d (Option.some.inj h')
theorem aT {H:Hp} {a b:Addr} {o:HO} (h:H a=some o) (h':H b=none):a≠b:=by
 intro e;subst e;rw [h] at h';cases h'
section
variable (P:Program) (w:World)
noncomputable def ObjOk (H:Hp) (h:Heap) (a:Addr):HO->Prop
 | .lst xs=>xs.length<=sizeLine /\ ∃ (its:List Value) (n:Nat),Vals xs its/\h.get? a=some { cls := .type "list",data := .seq its.toArray n }
 | .tup xs=>xs.length<=sizeLine /\ ∃ its:List Value,Vals xs its/\IsTup h a its.toArray
 | .dK kvs=>kvs.length<=sizeLine/\(a==sysModules)=false /\ ∃ vs,KV kvs vs/\h.DictOf (aJ P w) a vs
 | .dT kvs=>kvs.length<=sizeLine/\(a==sysModules)=false /\ ∃ xs:List (List Key×Addr×Value),
  Paired (fun (p:List Key×V) (q:List Key×Addr×Value)=>p.1=q.1/\H q.2.1=some (.tup (p.1.map kV))/\RelV p.2 q.2.2) kvs xs /\
  ∃ o es ep,h.get? a=some o/\o.ExactDict/\o.data = .dict es ep/\es.toList=xs.map (entryOfKey (tupleKind (aJ P w)))/\(xs.map (·.1)).Nodup
 | .set S n=>h.SetOf (intKind P w) a S n
 | .ins C dx fs=>H dx=some (.own a)/\fs.length<=1000/\dx≠a/\h.get? a=some (PySem.W.instObj C dx) /\
  ∃ mA,h.Ns1 dx mA/\(∀ f,RelO (fs.lookup f) (mA f))/\PySem.Within mA (fs.map (·.1))
 | .own _ => ∃ o,h.get? a=some o
 | .xd fs => ∃ mA,h.Ns1 a mA /\ ∀ f,RelO (fs.lookup f) (mA f)
 | .rng lo hi => ∃ t u v,h.get? a=some { cls := .type "range",data := .fields #[.int lo t, .int hi u, .int 1 v] }
 | .frz o u=>h.get? a=some o/\ObjOk H h a u
 | .tbl ps=>h.get? a=some { cls := .none,data := .fields ps }
 | .met f x=>h.get? a=some (PySem.W.methodObj (.ref f) (.ref x))
 | .ext φ => φ h/\(∃ o,h.get? a=some o) /\ ∀ h1 h2:Heap, φ h1->(∀ o,h1.get? a=some o->h2.get? a=some o) -> φ h2
noncomputable def HOk (H:Hp) (h:Heap):Prop := ∀ a o,H a=some o->ObjOk P w H h a o
end
section
variable {P:Program} {w:World} {H H':Hp} {h h':Heap} {a:Addr} {o:HO}
theorem ObjOk.lt (x:ObjOk P w H h a o):a < h.objs.size:=by
 cases o with
 | lst xs=>obtain ⟨_,_,_,_,e⟩:=x;exact Heap.lt_size e
 | tup xs=>obtain ⟨_,_,_,p⟩:=x;exact p.lt
 | dK kvs=>obtain ⟨_,_,_,_,o,_,_,e,_⟩:=x;exact Heap.lt_size e
 | dT kvs=>obtain ⟨_,_,_,_,o,_,_,e,_⟩:=x;exact Heap.lt_size e
 | set S n=>obtain ⟨o,_,_,_,e,_⟩:=x;exact Heap.lt_size e
 | ins C dx fs=>obtain ⟨_,_,_,e,_⟩:=x;exact Heap.lt_size e
 | own y=>obtain ⟨_,e⟩:=x;exact Heap.lt_size e
 | xd fs=>obtain ⟨_,⟨_,_,_,e,_⟩,_⟩:=x;exact Heap.lt_size e
 | rng lo hi=>obtain ⟨_,_,_,e⟩:=x;exact Heap.lt_size e
 | frz ob u=>obtain ⟨e,_⟩:=x;exact Heap.lt_size e
 | tbl ps=>exact Heap.lt_size (show h.get? a=some _ from x)
 | met f y=>exact Heap.lt_size (show h.get? a=some _ from x)
 | ext φ => obtain ⟨_,⟨_,e⟩,_⟩:=x;exact Heap.lt_size e
theorem Paired.mapP {α β:Type} {F G : α -> β -> Prop}:∀ {l₁:List α} {l₂:List β},Paired F l₁ l₂ -> (∀ a b,F a b->G a b)->Paired G l₁ l₂
 | _,_, .nil,_ => .nil
 | _,_, .cons r t,f => .cons (f _ _ r) (Paired.mapP t f)
theorem ObjOk.stay (x:ObjOk P w H h a o) (k:∀ b u,(b=a∨H b=some (.own a))->h.get? b=some u->h'.get? b=some u)
 (ho:∀ b,H b=some (.own a)->H' b=some (.own a)) (j:∀ b xs,H b=some (.tup xs)->H' b=some (.tup xs)):ObjOk P w H' h' a o:=by
 induction o with
 | lst xs=>obtain ⟨z,its,n,r,e⟩:=x;exact ⟨z,its,n,r,k _ _ (.inl rfl) e⟩
 | tup xs=>obtain ⟨z,its,r,ob,e,c⟩:=x;exact ⟨z,its,r,ob,k _ _ (.inl rfl) e,c⟩
 | dK kvs=>obtain ⟨z,y,vs,r,ob,es,ep,e,c⟩:=x;exact ⟨z,y,vs,r,ob,es,ep,k _ _ (.inl rfl) e,c⟩
 | dT kvs =>
   obtain ⟨z,y,xs,r,ob,es,ep,e,c⟩:=x
   exact ⟨z,y,xs,Paired.mapP r fun p q z=>⟨z.1,j _ _ z.2.1,z.2.2⟩,ob,es,ep,k _ _ (.inl rfl) e,c⟩
 | set S n=>obtain ⟨ob,es,ep,t,e,c⟩:=x;exact ⟨ob,es,ep,t,k _ _ (.inl rfl) e,c⟩
 | ins C dx fs =>
   obtain ⟨d,z,ne,e,mA,⟨od,es,ep,B,c⟩,r⟩:=x
   exact ⟨ho _ d,z,ne,k _ _ (.inl rfl) e,mA,⟨od,es,ep,k _ _ (.inr d) B,c⟩,r⟩
 | own y=>obtain ⟨ob,e⟩:=x;exact ⟨ob,k _ _ (.inl rfl) e⟩
 | xd fs=>obtain ⟨mA,⟨od,es,ep,e,c⟩,r⟩:=x;exact ⟨mA,⟨od,es,ep,k _ _ (.inl rfl) e,c⟩,r⟩
 | rng lo hi=>obtain ⟨t,u,v,e⟩:=x;exact ⟨t,u,v,k _ _ (.inl rfl) e⟩
 | frz ob u ih=>obtain ⟨e,q⟩:=x;exact ⟨k _ _ (.inl rfl) e,ih q⟩
 | tbl ps =>
   have e:h.get? a=some { cls := .none,data := .fields ps }:=x
   show h'.get? a=some { cls := .none,data := .fields ps }
   exact k a _ (.inl rfl) e
 | met f y =>
   have e:h.get? a=some (PySem.W.methodObj (.ref f) (.ref y)):=x
   show h'.get? a=some (PySem.W.methodObj (.ref f) (.ref y))
   exact k a _ (.inl rfl) e
 | ext φ => obtain ⟨p,⟨o,e⟩,st⟩:=x;exact ⟨st _ _ p fun o q=>k _ _ (.inl rfl) q,⟨o,k _ _ (.inl rfl) e⟩,st⟩
theorem HOk.lt (x:HOk P w H h) (e:H a=some o):a < h.objs.size:=(x a o e).lt
theorem HOk.fresh (x:HOk P w H h) (e:h.objs.size<=a):H a=none:=by
 cases q:H a with
 | none=>rfl
 | some u=>exact absurd (Nat.lt_of_lt_of_le (x.lt q) e) (Nat.lt_irrefl _)
theorem HOk.kept (x:HOk P w H h) (k:∀ b u,h.get? b=some u->h'.get? b=some u):HOk P w H h':=fun a o e =>
 (x a o e).stay (fun b u _ q=>k b u q) (fun _ q=>q) fun _ _ q=>q
theorem HOk.laid (x:HOk P w H h) (k:∀ b u,h.get? b=some u->h'.get? b=some u) (n:h.objs.size<=a) (new:ObjOk P w (upd H a o) h' a o):HOk P w (upd H a o) h':=fun b u e=>by
 have j:=x.fresh n
 by_cases hb:b=a
 ·subst hb;rw [ar] at e;cases e;exact new
 ·rw [aj hb] at e
  exact (x b u e).stay (fun c v _ q=>k c v q) (fun c q=>by rw [aj (aT q j)];exact q) fun c xs q=>by rw [aj (aT q j)];exact q
end
noncomputable def Rd (H:Hp) (a:Addr) (u:HO):Prop:=H a=some u ∨ ∃ o,H a=some (.frz o u)
theorem Rd.of {H:Hp} {a:Addr} {u:HO} (h:H a=some u):Rd H a u := .inl h
theorem Rd.ok {P:Program} {w:World} {H:Hp} {h:Heap} {a:Addr} {u:HO} (r:Rd H a u) (x:HOk P w H h):ObjOk P w H h a u:=by
 rcases r with r | ⟨o,r⟩
 ·exact x a u r
 ·obtain ⟨_,q⟩:=x a _ r
  exact q
noncomputable def Mut:Option HO->Prop
 | some (.lst _)=>True
 | some (.dK _)=>True
 | some (.dT _)=>True
 | some (.set _ _)=>True
 | some (.ins _ _ _)=>True
 | some (.ext _)=>True
 | _=>False
section
variable {P:Program} {w:World} {H:Hp} {h h':Heap} {x e:Addr} {o':HO}
theorem HOk.write (ok:HOk P w H h) (mu:Mut (H x)) (he:e=x∨H e=some (.own x)) (k:∀ b u,b≠e->h.get? b=some u->h'.get? b=some u) (B:∃ u,h'.get? e=some u)
 (new:ObjOk P w (upd H x o') h' x o'):HOk P w (upd H x o') h':=fun b u q=>by
 have nown:∀ c y,H c=some (.own y)->c≠x:=fun c y r z=>by subst z;rw [r] at mu;exact mu
 have ntup:∀ c xs,H c=some (.tup xs)->c≠x:=fun c xs r z=>by subst z;rw [r] at mu;exact mu
 by_cases hb:b=x
 ·subst hb;rw [ar] at q;cases q;exact new
 ·rw [aj hb] at q
  by_cases j:b=e
  ·have q':H b=some (.own x):=by
    rcases he with z | z
    ·exact absurd (j.trans z) hb
    ·rw [j];exact z
   rw [q] at q';cases q'
   obtain ⟨v,F⟩:=B
   exact ⟨v,by rw [j];exact F⟩
  ·refine (ok b u q).stay (fun c v n r=>k c v ?_ r) (fun c r=>by rw [aj (nown c b r)];exact r) fun c xs r=>by rw [aj (ntup c xs r)];exact r
   rcases n with rfl | n
   ·exact j
   ·rintro rfl
    rcases he with z | z
    ·exact nown c b n z
    ·rw [n] at z;cases z;exact hb rfl
end
structure Un (fs ex:List Addr) (H H':Hp) (h h':Heap):Prop where
 keep:∀ b o,h.get? b=some o->H b=none->b∉fs->b∉ex->h'.get? b=some o
 slot:∀ b o,h.get? b=some o->H b=none->b∈fs->b∉ex -> ∃ sl,h'.get? b=some { o with slots:=sl }
 free:∀ b o,h.get? b=some o->H b=none->b∉ex->H' b=none
 there:∀ b o,h.get? b=some o->b∉ex -> ∃ o',h'.get? b=some o'
 tups:∀ b xs,H b=some (.tup xs)->H' b=some (.tup xs)
 frzs:∀ b o u,H b=some (.frz o u)->H' b=some (.frz o u)
 tbls:∀ b ps,H b=some (.tbl ps) -> ∃ more,H' b=some (.tbl (ps++more))
section
variable {fs fs' ex ex':List Addr} {H H1 H2:Hp} {h h1 h2 h':Heap} {a x e:Addr} {o:HO}
theorem Un.any (u:Un fs ex H H1 h h1) {b:Addr} {ob:Obj} (q:h.get? b=some ob) (n:H b=none) (hx:b∉ex):∃ sl,h1.get? b=some { ob with slots:=sl }:=by
 by_cases hb:b∈fs
 ·exact u.slot b ob q n hb hx
 ·exact ⟨ob.slots,u.keep b ob q n hb hx⟩
theorem Un.kept (k:∀ b u,h.get? b=some u->h'.get? b=some u):Un fs ex H H h h' :=
 ⟨fun b ob q _ _ _=>k b ob q,fun b ob q _ _ _=>⟨ob.slots,k b ob q⟩,fun _ _ _ n _=>n,fun b ob q _=>⟨ob,k b ob q⟩,fun _ _ q=>q,fun _ _ _ q=>q,fun _ ps q=>⟨#[],by rw [q];simp⟩⟩
theorem Un.refl:Un fs ex H H h h:=Un.kept fun _ _ q=>q
theorem Un.laid (k:∀ b u,h.get? b=some u->h'.get? b=some u) (z:h.objs.size<=a) (j:H a=none):Un fs ex H (upd H a o) h h' where
 keep:=fun b u q _ _ _=>k b u q
 slot:=fun b u q _ _ _=>⟨u.slots,k b u q⟩
 free:=fun b u q n _=>by rw [aj (Nat.ne_of_lt (Nat.lt_of_lt_of_le (Heap.lt_size q) z))];exact n
 there:=fun b u q _=>⟨u,k b u q⟩
 tups:=fun b xs q=>by rw [aj (aT q j)];exact q
 frzs:=fun b u xs q=>by rw [aj (aT q j)];exact q
 tbls:=fun b ps q=>⟨#[],by rw [aj (aT q j),q];simp⟩
theorem Un.write (mu:Mut (H x)) (he:e=x∨H e=some (.own x)) (k:∀ b u,b≠e->h.get? b=some u->h'.get? b=some u) (B:∃ u,h'.get? e=some u):Un fs ex H (upd H x o) h h':=by
 have hx:∀ b,H b=none->b≠x:=fun b n z=>by subst z;rw [n] at mu;exact mu
 have hb:∀ b,H b=none->b≠e:=fun b n z=>by
  subst z
  rcases he with r | r
  ·exact hx b n r
  ·rw [n] at r;cases r
 have hm:∀ b u,H b=some u -> ¬ Mut (some u)->b≠x:=fun b u q nm z=>by subst z;rw [q] at mu;exact nm mu
 refine ⟨fun b u q n _ _=>k b u (hb b n) q,fun b u q n _ _=>⟨u.slots,k b u (hb b n) q⟩,fun b u q n _=>by rw [aj (hx b n)];exact n,fun b u q _ => ?_,
  fun b xs q=>by rw [aj (hm b _ q fun z=>z)];exact q,fun b u xs q=>by rw [aj (hm b _ q fun z=>z)];exact q,fun b ps q=>⟨#[],by rw [aj (hm b _ q fun z=>z),q];simp⟩⟩
 by_cases j:b=e
 ·subst j;exact B
 ·exact ⟨u,k b u j q⟩
end
noncomputable def trk (h:Heap) (H:Hp):List Addr:=(List.range h.objs.size).filter fun a=>(H a).isSome
noncomputable def dZ (h:Heap) (H:Hp):Heap:=PySem.W.hideAll h (trk h H)
theorem qk (h:Heap) (H:Hp):(dZ h H).objs.size=h.objs.size:=PySem.W.hideAll_size _ _
theorem tj {h:Heap} {H:Hp} {b:Addr} {o:Obj} (e:h.get? b=some o) (n:H b=none):(dZ h H).get? b=some o :=
 PySem.W.hideAll_get _ e fun hm=>by
  have q:(H b).isSome=true:=(List.mem_filter.mp hm).2
  rw [n] at q;simp at q
theorem wD {h:Heap} {H:Hp} {b:Addr} {o:Obj} (e:(dZ h H).get? b=some o):h.get? b=some o/\H b=none:=by
 have e':h.get? b=some o:=PySem.W.of_hideAll (trk h H) e
 refine ⟨e', ?_⟩
 cases q:H b with
 | none=>rfl
 | some x =>
   have hm:b∈trk h H:=List.mem_filter.mpr ⟨List.mem_range.mpr (Heap.lt_size e'),by simp [q]⟩
   have z:(dZ h H).get? b=none:=PySem.W.hideAll_none (trk h H) hm
   rw [z] at e;cases e
noncomputable def wF (g h:Heap) (L:Addr):List (Addr×Obj):=(List.range h.objs.size).filterMap fun a=>if a=L∨(g.get? a).isSome=true then none else (h.get? a).map fun o=>(a,o)
noncomputable def rest (g h:Heap) (L d:Addr):List (Addr×Obj):=(wF g h L).filter fun p=>decide (p.1≠d)
end
section
structure Mod (K:Frag) (mg:Str->Option Value) (base:Heap):Prop where
 kin:K.In base
 glob:base.Ns mainGlobals mg
 blt:∃ mb,base.Ns builtinsNs mb /\ ∀ x:Str,x ≠ "__name__" -> mb x=bootBuiltins x
 nolimit:base.NoLimit
structure Cx where
 prog:Program
 w:World
 K:Frag
 mg:Str->Option Value
 base:Heap
 A:Around
 N:List Str
 s₀:Shared
 H₀:Hp
 env:Env
 outer:List Env
 stack:List Env
 ex:List Addr
 fn:Str->Bool
 calm:Bool
 pn:List (Addr×Obj)
 xe:Value->Shared->Prop
noncomputable def frs (l:List Env):List Addr:=l.filterMap (·.frame)
noncomputable abbrev Cx.fs (X:Cx):List Addr:=frs X.outer
noncomputable def Vis (sc:Scope) (x:Str):Prop:=sc.names.lookup x=some .local∨sc.names.lookup x=some .cell∨sc.names.lookup x=some .free
noncomputable def Loc (sc:Scope) (x:Str):Prop:=sc.names.lookup x=some .local∨sc.names.lookup x=some .cell
noncomputable def Bi (env:Env) (h:Heap) (m:Str->Option Value) (x:Str) (u:Value):Prop :=
 (env.kindOf x=some .local/\m x=some u)∨((env.kindOf x=some .cell∨env.kindOf x=some .free) /\ ∃ c,env.cells.lookup x=some c/\h.IsCell c (some u))
structure Cx.Ok (X:Cx):Prop where
 mod:Mod X.K X.mg X.base
 kind:X.env.scope.kind = .function
 glob:X.env.globals=mainGlobals
 blt:X.env.builtins=builtinsNs
 above:X.s₀.heap.objs.size<=X.env.locals
 inj:∀ x y c,X.env.cells.lookup x=some c->X.env.cells.lookup y=some c->x=y
 has:∀ x,(X.env.kindOf x=some .cell∨X.env.kindOf x=some .free) -> ∃ c,X.env.cells.lookup x=some c
 cab:∀ x c,X.fn x=true->X.env.cells.lookup x=some c->X.s₀.heap.objs.size<=c
 hd:X.calm=true->X.A.handled=none
 frames:X.A.frames=some X.stack
 stk:X.stack=X.outer∨(X.stack=X.env::X.outer/\X.env.frame=some X.env.locals)
 exf:∀ b∈X.ex,b≠X.env.locals /\ ∀ x c,X.env.cells.lookup x=some c->c≠b
 bs:∀ b o,X.base.get? b=some o->X.s₀.heap.get? b=some o/\X.H₀ b=none
 bsz:X.base.objs.size<=X.s₀.heap.objs.size
 noex:∀ b o,X.base.get? b=some o->b∉X.ex
 exfs:∀ b∈X.ex,b∉X.fs
 funs:X.s₀.heap.FunFrames X.base X.outer
 frf:∀ b∈X.fs,X.H₀ b=none
structure Inv (X:Cx) (pins:List (Addr×Obj)) (σ:List (Option V)) (H:Hp) (s:Shared):Prop where
 ok:X.Ok
 os:s.os=X.s₀.os
 bare:AllBare s.gens
 base:Un X.fs X.ex X.H₀ H X.s₀.heap s.heap
 loc:∃ m,s.heap.Ns X.env.locals m /\ ∀ (i:Nat) (x:Str) (v:V),X.N[i]? = some x -> σ[i]? = some (some v)->Vis X.env.scope x -> ∃ u,RelV v u/\Bi X.env s.heap m x u
 cell:∀ x c,X.env.cells.lookup x=some c -> ∃ v,s.heap.IsCell c v
 free:H X.env.locals=none
 freeC:∀ x c,X.env.cells.lookup x=some c->H c=none
 pin:∀ p∈X.pn++pins,s.heap.get? p.1=some p.2/\H p.1=none/\p.1≠X.env.locals/\p.1∉X.fs /\ ∀ v,p.2.data ≠ .cell v
 hok:HOk X.prog X.w H s.heap
 len : σ.length=X.N.length
section
variable {X:Cx} {pins:List (Addr×Obj)} {σ:List (Option V)} {H H':Hp} {s:Shared} {h':Heap}
theorem Cx.Ok.nofr (ok:X.Ok) {b:Addr} {o:Obj} (e:X.base.get? b=some o):b∉X.fs:=fun hb=>by
 have:=(ok.funs.mem hb).1
 rw [e] at this;cases this
theorem Inv.bs (I:Inv X pins σ H s):∀ b o,X.base.get? b=some o->s.heap.get? b=some o/\H b=none:=fun b o e =>
 ⟨I.base.keep b o (I.ok.bs b o e).1 (I.ok.bs b o e).2 (I.ok.nofr e) (I.ok.noex b o e),I.base.free b o (I.ok.bs b o e).1 (I.ok.bs b o e).2 (I.ok.noex b o e)⟩
theorem Inv.bk (I:Inv X pins σ H s):∀ b o,X.base.get? b=some o->s.heap.get? b=some o:=fun b o e=>(I.bs b o e).1
theorem Inv.mod (I:Inv X pins σ H s):Mod X.K X.mg X.base:=I.ok.mod
theorem Inv.kIn (I:Inv X pins σ H s):X.K.In s.heap:=I.ok.mod.kin.keeps I.bk
theorem Inv.lt (I:Inv X pins σ H s):X.env.locals < s.heap.objs.size:=let ⟨_,j,_⟩:=I.loc;j.lt
theorem Inv.sz (I:Inv X pins σ H s):X.s₀.heap.objs.size<=s.heap.objs.size:=Nat.le_trans I.ok.above (Nat.le_of_lt I.lt)
theorem Inv.nofs (I:Inv X pins σ H s) {a:Addr} (h:s.heap.objs.size<=a):a∉X.fs:=fun hb=>by
 obtain ⟨_,o,ho,_⟩:=I.ok.funs.mem hb
 exact absurd (Nat.lt_of_lt_of_le (Heap.lt_size ho) (Nat.le_trans I.sz h)) (Nat.lt_irrefl _)
theorem Inv.cne (I:Inv X pins σ H s):∀ x c,X.env.cells.lookup x=some c->c≠X.env.locals:=fun x c e z=>by
 obtain ⟨v,o,ho,hd⟩:=I.cell x c e
 obtain ⟨m,⟨o',es,ep,j,n,_⟩,_⟩:=I.loc
 rw [z,j] at ho;cases ho;rw [n] at hd;cases hd
theorem Inv.funs (I:Inv X pins σ H s):s.heap.FunFrames X.base X.outer:=by
 have all:∀ (l:List Env),(∀ b∈frs l,b∈X.fs)->X.s₀.heap.FunFrames X.base l->s.heap.FunFrames X.base l:=by
  intro l
  induction l with
  | nil=>intro _ _;trivial
  | cons env r ih =>
    intro hs hl
    obtain ⟨n,⟨L,o,hf,q,ho,hd⟩,hr⟩:=hl
    have j:L∈X.fs:=hs L (by unfold frs;rw [List.filterMap_cons,hf];exact List.mem_cons_self)
    obtain ⟨sl,e⟩:=I.base.slot L o ho (I.ok.frf L j) j fun z=>I.ok.exfs L z j
    exact ⟨n,⟨L,_,hf,q,e,hd⟩,ih (fun b hb=>hs b (by unfold frs;rw [List.filterMap_cons,hf];exact List.mem_cons_of_mem _ hb)) hr⟩
 exact all X.outer (fun _ hb=>hb) I.ok.funs
theorem Inv.stack (I:Inv X pins σ H s):s.heap.FunFrames X.base X.stack:=by
 rcases I.ok.stk with e | ⟨e,hf⟩
 ·rw [e];exact I.funs
 ·rw [e]
  obtain ⟨m,j,_⟩:=I.loc
  refine .cons (by rw [I.ok.kind];decide) hf j ?_ I.funs
  exact Heap.get?_none_of_le (Nat.le_trans I.ok.bsz I.ok.above)
theorem Inv.stkSub (I:Inv X pins σ H s):∀ b∈frs X.stack,b∈X.env.locals::X.fs:=fun b hb=>by
 rcases I.ok.stk with e | ⟨e,hf⟩
 ·rw [e] at hb;exact List.mem_cons_of_mem _ hb
 ·rw [e] at hb
  unfold frs at hb
  rw [List.filterMap_cons,hf] at hb
  exact hb
theorem Inv.stkFree (I:Inv X pins σ H s):∀ b∈frs X.stack,H b=none:=fun b hb=>by
 rcases List.mem_cons.mp (I.stkSub b hb) with e | hb
 ·rw [e];exact I.free
 ·obtain ⟨_,o,ho,_⟩:=I.ok.funs.mem hb
  exact I.base.free b o ho (I.ok.frf b hb) fun z=>I.ok.exfs b z hb
theorem Inv.step {g':Array GenState} {t':Nat} {d':Drawn} {ch:List Addr} (I:Inv X pins σ H s)
 (j:∀ b∈ch,(b∈X.ex∨X.s₀.heap.objs.size<=b)/\b≠X.env.locals/\(∀ x c,X.env.cells.lookup x=some c->c≠b) /\ ∀ p∈X.pn++pins,p.1≠b)
 (keep:∀ b o,b≠X.env.locals->b∉X.fs->b∉ch->s.heap.get? b=some o->H b=none->h'.get? b=some o)
 (slot:∀ b o,b≠X.env.locals->b∈X.fs->b∉ch->s.heap.get? b=some o->H b=none -> ∃ sl,h'.get? b=some { o with slots:=sl }) (free:∀ b o,b∉ch->s.heap.get? b=some o->H b=none->H' b=none)
 (there:∀ b o,b∉ch->s.heap.get? b=some o -> ∃ o',h'.get? b=some o')
 (tups:∀ b xs,H b=some (.tup xs)->H' b=some (.tup xs)) (frzs:∀ b o u,H b=some (.frz o u)->H' b=some (.frz o u)) (tbls:∀ b ps,H b=some (.tbl ps) -> ∃ more,H' b=some (.tbl (ps++more)))
 (ns:∀ m,s.heap.Ns X.env.locals m->h'.Ns X.env.locals m) (hok:HOk X.prog X.w H' h') (L:AllBare g') :
 Inv X pins σ H' { s with heap:=h',gens:=g',drawn:=d',toks:=t' }:=by
 have neL:∀ b o,X.s₀.heap.get? b=some o->b≠X.env.locals:=fun b o e=>Nat.ne_of_lt (Nat.lt_of_lt_of_le (Heap.lt_size e) I.ok.above)
 have neC:∀ b o,X.s₀.heap.get? b=some o->b∉X.ex->b∉ch:=fun b o e hx hb=>by
  rcases (j b hb).1 with z | z
  ·exact hx z
  ·exact absurd (Nat.lt_of_lt_of_le (Heap.lt_size e) z) (Nat.lt_irrefl _)
 have cellK:∀ x c,X.env.cells.lookup x=some c -> ∀ v,s.heap.IsCell c v->h'.IsCell c v:=fun x c e v ⟨o,ho,hd⟩=>by
  have nch:c∉ch:=fun z=>(j c z).2.2.1 x c e rfl
  by_cases G:c∈X.fs
  ·obtain ⟨sl,q⟩:=slot c o (I.cne x c e) G nch ho (I.freeC x c e)
   exact ⟨_,q,hd⟩
  ·exact ⟨o,keep c o (I.cne x c e) G nch ho (I.freeC x c e),hd⟩
 refine ⟨I.ok,I.os,L,⟨fun b o e n hb hx => ?_,fun b o e n hb hx => ?_,fun b o e n hx => ?_,fun b o e hx => ?_,fun b xs e=>tups b xs (I.base.tups b xs e),fun b o xs e=>frzs b o xs (I.base.frzs b o xs e),fun b ps e => ?_⟩, ?_,fun x c e => ?_, ?_,fun x c e => ?_,fun p J => ?_,hok,I.len⟩
 ·exact keep b o (neL b o e) hb (neC b o e hx) (I.base.keep b o e n hb hx) (I.base.free b o e n hx)
 ·obtain ⟨sl,B⟩:=I.base.slot b o e n hb hx
  obtain ⟨sl',F⟩:=slot b _ (neL b o e) hb (neC b o e hx) B (I.base.free b o e n hx)
  exact ⟨sl',F⟩
 ·obtain ⟨o',B⟩:=I.base.there b o e hx
  exact free b o' (neC b o e hx) B (I.base.free b o e n hx)
 ·obtain ⟨o',B⟩:=I.base.there b o e hx
  exact there b o' (neC b o e hx) B
 ·obtain ⟨O,B⟩:=I.base.tbls b ps e
  obtain ⟨R,F⟩:=tbls b _ B
  exact ⟨O++R,by rw [F,Array.append_assoc]⟩
 ·obtain ⟨m,S,hl⟩:=I.loc
  refine ⟨m,ns m S,fun i x v B F U => ?_⟩
  obtain ⟨u,r,l⟩:=hl i x v B F U
  refine ⟨u,r, ?_⟩
  rcases l with l | ⟨k,c,e,z⟩
  ·exact .inl l
  ·exact .inr ⟨k,c,e,cellK x c e _ z⟩
 ·obtain ⟨v,z⟩:=I.cell x c e
  exact ⟨v,cellK x c e v z⟩
 ·obtain ⟨m,⟨o,_,_,ho,_⟩,_⟩:=I.loc
  exact free _ o (fun z=>(j _ z).2.1 rfl) ho I.free
 ·obtain ⟨v,o,ho,hd⟩:=I.cell x c e
  exact free c o (fun z=>(j c z).2.2.1 x c e rfl) ho (I.freeC x c e)
 ·obtain ⟨e,n,ne,nf,d⟩:=I.pin p J
  have nch:p.1∉ch:=fun z=>(j p.1 z).2.2.2 p J rfl
  exact ⟨keep p.1 p.2 ne nf nch e n,free p.1 p.2 nch e n,ne,nf,d⟩
theorem Inv.un {t':Nat} (I:Inv X pins σ H s) (u:Un X.fs [] H H' s.heap h') (hok:HOk X.prog X.w H' h'):Inv X pins σ H' { s with heap:=h',toks:=t' }:=by
 obtain ⟨m,⟨o,es,ep,ho,r⟩,_⟩:=id I.loc
 obtain ⟨sl,q⟩:=u.any ho I.free (by simp)
 exact I.step (g':=s.gens) (d':=s.drawn) (ch := []) (fun _ z=>nomatch z) (fun b o _ hb _ e n=>u.keep b o e n hb (by simp)) (fun b o _ hb _ e n=>u.slot b o e n hb (by simp)) (fun b o _ e n=>u.free b o e n (by simp)) (fun b o _ e=>u.there b o e (by simp)) u.tups u.frzs u.tbls (fun m' hm=>by
  obtain ⟨o',es',ep',j,r'⟩:=hm
  rw [ho] at j;cases j
  exact ⟨_,es',ep',q,r'⟩) hok I.bare
theorem Inv.call {g':Array GenState} {t':Nat} {d':Drawn} {ch:List Addr} (I:Inv X pins σ H s) (u:Un (frs X.stack) ch H H' s.heap h') (hok:HOk X.prog X.w H' h') (G:AllBare g')
 (q:∀ b∈ch,(b∈X.ex∨X.s₀.heap.objs.size<=b)/\b≠X.env.locals/\(∀ x c,X.env.cells.lookup x=some c->c≠b) /\ ∀ p∈X.pn++pins,p.1≠b) :
 Inv X pins σ H' { s with heap:=h',gens:=g',drawn:=d',toks:=t' }:=by
 obtain ⟨m,⟨o,es,ep,ho,r⟩,_⟩:=id I.loc
 obtain ⟨sl,F⟩:=u.any ho I.free fun z=>(q _ z).2.1 rfl
 exact I.step (ch:=ch) q (fun b o F hb j e n=>u.keep b o e n (fun z=>(List.mem_cons.mp (I.stkSub b z)).elim F hb) j) (fun b o _ _ j e n=>u.any e n j) (fun b o j e n=>u.free b o e n j) (fun b o j e=>u.there b o e j) u.tups u.frzs u.tbls (fun m' hm=>by
  obtain ⟨o',es',ep',B,r'⟩:=hm
  rw [ho] at B;cases B
  exact ⟨_,es',ep',F,r'⟩) hok G
theorem Inv.turned {t':Nat} {it:Addr} (I:Inv X pins σ H s) (k:∀ b o,b≠it->s.heap.get? b=some o->h'.get? b=some o) (F:H it=none) (B:it≠X.env.locals)
 (h1:it∈X.ex∨X.s₀.heap.objs.size<=it) (h2:∀ x c,X.env.cells.lookup x=some c->c≠it) (G:∀ p∈X.pn++pins,p.1≠it):Inv X pins σ H { s with heap:=h',toks:=t' }:=by
 have nit:∀ b u,H b=some u->b≠it:=fun b u e z=>by rw [z,F] at e;cases e
 refine I.step (g':=s.gens) (d':=s.drawn) (ch := [it]) (fun b hb => ?_) (fun b o _ _ j e _=>k b o (fun z=>j (by simp [z])) e) (fun b o _ _ j e _=>⟨o.slots,k b o (fun z=>j (by simp [z])) e⟩) (fun _ _ _ _ n=>n)
  (fun b o j e=>⟨o,k b o (fun z=>j (by simp [z])) e⟩) (fun _ _ e=>e) (fun _ _ _ e=>e) (fun b ps e=>⟨#[],by rw [e];simp⟩) (fun m hm => ?_) (fun b u e => ?_) I.bare
 ·have e:b=it:=by simpa using hb
  subst e
  exact ⟨h1,B,h2,G⟩
 ·obtain ⟨o,es,ep,ho,r⟩:=hm
  exact ⟨o,es,ep,k _ o (Ne.symm B) ho,r⟩
 ·refine (I.hok b u e).stay (fun c v j q=>k c v ?_ q) (fun _ q=>q) fun _ _ q=>q
  rcases j with z | z
  ·rw [z];exact nit b u e
  ·exact nit c _ z
theorem Inv.tok (I:Inv X pins σ H s) (t:Nat):Inv X pins σ H { s with toks:=t }:=I.un (h':=s.heap) (t':=t) Un.refl I.hok
theorem Inv.kept {t':Nat} (I:Inv X pins σ H s) (k:∀ b u,s.heap.get? b=some u->h'.get? b=some u):Inv X pins σ H { s with heap:=h',toks:=t' }:=I.un (Un.kept k) (I.hok.kept k)
theorem Inv.laid {a:Addr} {o:HO} {t':Nat} (I:Inv X pins σ H s) (k:∀ b u,s.heap.get? b=some u->h'.get? b=some u) (j:s.heap.objs.size<=a) (new:ObjOk X.prog X.w (upd H a o) h' a o) :
 Inv X pins σ (upd H a o) { s with heap:=h',toks:=t' }:=I.un (Un.laid k j (I.hok.fresh j)) (I.hok.laid k j new)
theorem Inv.write {x e:Addr} {o:HO} {t':Nat} (I:Inv X pins σ H s) (mu:Mut (H x)) (he:e=x∨H e=some (.own x)) (k:∀ b u,b≠e->s.heap.get? b=some u->h'.get? b=some u) (j:∃ u,h'.get? e=some u)
 (new:ObjOk X.prog X.w (upd H x o) h' x o):Inv X pins σ (upd H x o) { s with heap:=h',toks:=t' }:=I.un (Un.write mu he k j) (I.hok.write mu he k j new)
theorem Inv.pins_of {pins':List (Addr×Obj)} (I:Inv X pins σ H s) (h:∀ p∈pins',s.heap.get? p.1=some p.2/\H p.1=none/\p.1≠X.env.locals/\p.1∉X.fs /\ ∀ v,p.2.data ≠ .cell v):Inv X pins' σ H s :=
 ⟨I.ok,I.os,I.bare,I.base,I.loc,I.cell,I.free,I.freeC,fun p j=>(List.mem_append.mp j).elim (fun z=>I.pin p (List.mem_append_left _ z)) (h p),I.hok,I.len⟩
theorem kE {N:List Str} (n:N.Nodup) {i j:Nat} {x:Str} (a:N[i]? = some x) (b:N[j]? = some x):i=j:=by
 obtain ⟨h1,q⟩:=List.getElem?_eq_some_iff.mp a
 obtain ⟨h2,z⟩:=List.getElem?_eq_some_iff.mp b
 exact (List.getElem_inj n).mp (q.trans z.symm)
theorem ql {M:Model} {A:Around} {E:Value->Shared->Prop} {i:Nat} {x:Str} {v:V} {u:Value} {Q:Unit->Shared->Prop} (I:Inv X pins σ H s) (hN:X.N.Nodup) (hi:X.N[i]? = some x) (hx:Loc X.env.scope x) (r:RelV v u)
 (h:∀ s',Inv X pins (σ.set i (some v)) H s'->(∃ a,Heap.SameBut a s.heap s'.heap/\(a=X.env.locals∨X.env.cells.lookup x=some a))->Q () s') (hf:X.fn x=true∨X.env.scope.names.lookup x=some .local:=by first | exact .inl rfl | exact .inr rfl | assumption):wpAny M A (storeName X.env x u) Q E s:=by
 obtain ⟨m,hn,hl⟩:=id I.loc
 have S:(X.env.scope.kind == .class || (X.env.scope.kind == .module&&X.env.locals != X.env.globals))=false:=by rw [I.ok.kind];rfl
 have U:i < σ.length:=by rw [I.len];exact (List.getElem?_eq_some_iff.mp hi).1
 have cne:=I.cne
 have tracked:∀ {a:Addr} {h':Heap},(∃ o,s.heap.get? a=some o/\H a=none)->Heap.SameBut a s.heap h'->HOk X.prog X.w H h':=fun {a h'} ha hs b ob e=>by
  obtain ⟨_,_,G⟩:=ha
  refine (I.hok b ob e).stay (fun c w' F q=>(hs.2 c ?_).trans q) (fun _ q=>q) fun _ _ q=>q
  rintro rfl
  rcases F with rfl | F
  ·rw [G] at e;cases e
  ·rw [G] at F;cases F
 rcases hx with L | L
 ·refine wpAny_storeName_local L hn (fun h' BR hs => ?_) S
  obtain ⟨oL,_,_,BS,_⟩:=id hn
  refine h _ ⟨I.ok,I.os,I.bare,⟨fun b o e n hb hx => ?_,fun b o e n hb hx => ?_,I.base.free,fun b o e hx => ?_,I.base.tups,I.base.frzs,I.base.tbls⟩,⟨_,BR,fun j y v' B J e3 => ?_⟩,fun y c e => ?_,I.free,I.freeC,fun p hp => ?_,tracked ⟨oL,BS,I.free⟩ hs,by simpa using I.len⟩ ⟨_,hs, .inl rfl⟩
  ·exact (hs.2 b (Nat.ne_of_lt (Nat.lt_of_lt_of_le (Heap.lt_size e) I.ok.above))).trans (I.base.keep b o e n hb hx)
  ·obtain ⟨sl,B⟩:=I.base.slot b o e n hb hx
   exact ⟨sl,(hs.2 b (Nat.ne_of_lt (Nat.lt_of_lt_of_le (Heap.lt_size e) I.ok.above))).trans B⟩
  ·obtain ⟨o',B⟩:=I.base.there b o e hx
   exact ⟨o',(hs.2 b (Nat.ne_of_lt (Nat.lt_of_lt_of_le (Heap.lt_size e) I.ok.above))).trans B⟩
  ·by_cases O:j=i
   ·subst O
    rw [hi] at B;cases B
    rw [List.getElem?_set_self U] at J
    cases J
    exact ⟨u,r, .inl ⟨L,by simp⟩⟩
   ·rw [List.getElem?_set_ne (Ne.symm O)] at J
    obtain ⟨u',r',q⟩:=hl j y v' B J e3
    refine ⟨u',r', ?_⟩
    rcases q with ⟨k,e⟩ | ⟨k,c,e,z⟩
    ·refine .inl ⟨k, ?_⟩
     have:y≠x:=fun e=>O (kE hN B (e ▸ hi))
     simp [this,e]
    ·exact .inr ⟨k,c,e,z.sameBut hs (cne y c e)⟩
  ·obtain ⟨w',z⟩:=I.cell y c e
   exact ⟨w',z.sameBut hs (cne y c e)⟩
  ·obtain ⟨e,n,ne,nf,d⟩:=I.pin p hp
   exact ⟨(hs.2 p.1 ne).trans e,n,ne,nf,d⟩
 ·have R:X.fn x=true:=by
   rcases hf with z | z
   ·exact z
   ·rw [z] at L;cases L
  obtain ⟨c,F⟩:=I.ok.has x (.inl L)
  obtain ⟨w',z⟩:=I.cell x c F
  refine wpAny_storeName_cell I.ok.kind L F z (fun h' Y hs => ?_)
  obtain ⟨oc,Z,BP⟩:=id z
  refine h { s with heap:=h' } ⟨I.ok,I.os,I.bare,⟨fun b o e n hb hx => ?_,fun b o e n hb hx => ?_,I.base.free,fun b o e hx => ?_,I.base.tups,I.base.frzs,I.base.tbls⟩,⟨m,hn.sameBut hs (Ne.symm (cne x c F)),fun j y v' B J e3 => ?_⟩,fun y c' e => ?_,I.free,I.freeC,fun p hp => ?_,tracked ⟨oc,Z,I.freeC x c F⟩ hs,by simpa using I.len⟩ ⟨c,hs, .inr F⟩
  ·exact (hs.2 b (Nat.ne_of_lt (Nat.lt_of_lt_of_le (Heap.lt_size e) (I.ok.cab x c R F)))).trans (I.base.keep b o e n hb hx)
  ·obtain ⟨sl,B⟩:=I.base.slot b o e n hb hx
   exact ⟨sl,(hs.2 b (Nat.ne_of_lt (Nat.lt_of_lt_of_le (Heap.lt_size e) (I.ok.cab x c R F)))).trans B⟩
  ·obtain ⟨o',B⟩:=I.base.there b o e hx
   exact ⟨o',(hs.2 b (Nat.ne_of_lt (Nat.lt_of_lt_of_le (Heap.lt_size e) (I.ok.cab x c R F)))).trans B⟩
  ·by_cases O:j=i
   ·subst O
    rw [hi] at B;cases B
    rw [List.getElem?_set_self U] at J
    cases J
    exact ⟨u,r, .inr ⟨.inl L,c,F,Y⟩⟩
   ·rw [List.getElem?_set_ne (Ne.symm O)] at J
    obtain ⟨u',r',q⟩:=hl j y v' B J e3
    refine ⟨u',r', ?_⟩
    rcases q with q | ⟨k,c',e,z'⟩
    ·exact .inl q
    ·refine .inr ⟨k,c',e,z'.sameBut hs ?_⟩
     rintro rfl
     exact O (kE hN B (I.ok.inj _ _ _ e F ▸ hi))
  ·by_cases BQ:c'=c
   ·subst BQ;exact ⟨_,Y⟩
   ·obtain ⟨w2,z2⟩:=I.cell y c' e
    exact ⟨w2,z2.sameBut hs BQ⟩
  ·obtain ⟨e,n,ne,nf,d⟩:=I.pin p hp
   refine ⟨(hs.2 p.1 ?_).trans e,n,ne,nf,d⟩
   intro q
   rw [q,Z] at e
   have q':oc=p.2:=Option.some.inj e
   exact d w' (by rw [<- q'];exact BP)
theorem gk {M:Model} {A:Around} {E:Value->Shared->Prop} {i:Nat} {x:Str} {v:V} {u:Value} {Q:Unit->Shared->Prop} (I:Inv X pins σ H s) (j:X.N.Nodup) (hi:X.N[i]? = some x) (hx:Loc X.env.scope x) (r:RelV v u)
 (h:∀ s',Inv X pins (σ.set i (some v)) H s'->Q () s') (hf:X.fn x=true∨X.env.scope.names.lookup x=some .local:=by first | exact .inl rfl | exact .inr rfl | assumption):wpAny M A (storeName X.env x u) Q E s :=
 ql I j hi hx r (fun s' I' _=>h s' I') hf
theorem Inv.call' {s':Shared} {ch:List Addr} (I:Inv X pins σ H s) (ho:s'.os=s.os) (u:Un (frs X.stack) ch H H' s.heap s'.heap) (hok:HOk X.prog X.w H' s'.heap) (n:AllBare s'.gens)
 (j:∀ b∈ch,(b∈X.ex∨X.s₀.heap.objs.size<=b)/\b≠X.env.locals/\(∀ x c,X.env.cells.lookup x=some c->c≠b) /\ ∀ p∈X.pn++pins,p.1≠b):Inv X pins σ H' s':=by
 obtain ⟨h',g',d',t',o'⟩:=s'
 have e:o'=s.os:=ho
 subst e
 exact I.call (g':=g') (t':=t') (d':=d') u hok n j
end
noncomputable abbrev XK:=Value->Option Addr->Hp->Prop
noncomputable abbrev St:=List (Option V)
noncomputable abbrev VK:=V->Hp->Prop
noncomputable abbrev TE:=St->Hp->VK->Prop
noncomputable abbrev TT:=St->Hp->(Bool->Hp->Prop)->Prop
noncomputable abbrev TA:=St->Hp->(List V->Hp->Prop)->Prop
structure bn where
 nx:St->Hp->Prop
 rt:VK
 bk:St->Hp->Prop:=fun _ _=>False
 ct:St->Hp->Prop:=fun _ _=>False
noncomputable abbrev TS:=bn->St->Hp->Prop
noncomputable def EP (X:Cx) (pins:List (Addr×Obj)) (σ:St) (Q:VK) (u:Value) (s':Shared):Prop := ∃ v H',Inv X pins σ H' s'/\RelV v u/\Q v H'
noncomputable def TP (X:Cx) (pins:List (Addr×Obj)) (σ:St) (Q:Bool->Hp->Prop) (b:Bool) (s':Shared):Prop := ∃ H',Inv X pins σ H' s'/\Q b H'
noncomputable def AP (X:Cx) (pins:List (Addr×Obj)) (σ:St) (Q:List V->Hp->Prop) (us:List Value) (s':Shared):Prop := ∃ vs H',Inv X pins σ H' s'/\Vals vs us/\Q vs H'
noncomputable def SP (X:Cx) (pins:List (Addr×Obj)) (D:bn) (f:Flow) (s':Shared):Prop :=
 match f with
 | .next => ∃ σ' H',Inv X pins σ' H' s'/\D.nx σ' H'
 | .brk => ∃ σ' H',Inv X pins σ' H' s'/\D.bk σ' H'
 | .cont => ∃ σ' H',Inv X pins σ' H' s'/\D.ct σ' H'
 | .ret u => ∃ v σ' H',Inv X pins σ' H' s'/\RelV v u/\D.rt v H'
noncomputable def PE (X:Cx) (e:Expr) (t:TE):Prop :=
 ∀ (pins:List (Addr×Obj)) (s:Shared) (σ:St) (H:Hp) (Q:VK),Inv X pins σ H s->t σ H Q->wpAny (model X.prog X.w) X.A (eval e X.env) (EP X pins σ Q) X.xe s
noncomputable def PT (X:Cx) (e:Expr) (t:TT):Prop :=
 ∀ (pins:List (Addr×Obj)) (s:Shared) (σ:St) (H:Hp) (Q:Bool->Hp->Prop),Inv X pins σ H s->t σ H Q->wpAny (model X.prog X.w) X.A (isTrue e X.env (eval e X.env)) (TP X pins σ Q) X.xe s
noncomputable def PW (X:Cx) (e:Expr) (t:TT):Prop :=
 ∀ (whole:Sem Value) (pins:List (Addr×Obj)) (s:Shared) (σ:St) (H:Hp) (Q:Bool->Hp->Prop),Inv X pins σ H s->t σ H Q->wpAny (model X.prog X.w) X.A (isTrue e X.env whole) (TP X pins σ Q) X.xe s
theorem PW.pt {X:Cx} {e:Expr} {t:TT} (h:PW X e t):PT X e t:=h _
noncomputable def PA (X:Cx) (es:List Expr) (t:TA):Prop :=
 ∀ (pos:Pos) (pins:List (Addr×Obj)) (s:Shared) (σ:St) (H:Hp) (Q:List V->Hp->Prop),Inv X pins σ H s->t σ H Q->wpAny (model X.prog X.w) X.A (spliced (backTo pos (starEach es X.env))) (AP X pins σ Q) X.xe s
noncomputable def PS (X:Cx) (st:Stmt) (t:TS):Prop :=
 ∀ (pins:List (Addr×Obj)) (s:Shared) (σ:St) (H:Hp) (D:bn),Inv X pins σ H s->t D σ H->wpAny (model X.prog X.w) X.A (exec st X.env) (SP X pins D) X.xe s
noncomputable def PSs (X:Cx) (st:List Stmt) (t:TS):Prop :=
 ∀ (pins:List (Addr×Obj)) (s:Shared) (σ:St) (H:Hp) (D:bn),Inv X pins σ H s->t D σ H->wpAny (model X.prog X.w) X.A (execs st X.env) (SP X pins D) X.xe s
theorem thn {α:Type} {t:Sem α} {Q Q' : α -> Shared->Prop} {M:Model} {A:Around} {E:Value->Shared->Prop} {s:Shared} (h:wpAny M A t Q E s) (j:∀ a s,Q a s->Q' a s):wpAny M A t Q' E s:=wpAny_mono h j fun _ _ x=>x
end
section
section
variable {X:Cx}
noncomputable def Bj (i:Nat):TE:=fun σ H Q => ∃ v, σ[i]? = some (some v)/\Q v H
noncomputable def tC (v:V):TE:=fun _ H Q=>Q v H
theorem yL {i:Nat} {x:Str} {pos:Pos} (B:X.N[i]? = some x) (F:Vis X.env.scope x) (hd:(x==("__debug__":Str))=false:=by decide) (q:(x==("__classdict__":Str))=false:=by decide):PE X (.Name x pos) (Bj i):=by
 intro pins s σ H Q I h
 obtain ⟨v,e,h⟩:=h
 obtain ⟨m,G,hl⟩:=I.loc
 obtain ⟨u,r,l⟩:=hl i x v B e F
 have fin:EP X pins σ Q u s:=⟨v,H,I,r,h⟩
 rcases l with ⟨n,hm⟩ | ⟨n,c,z,j⟩
 ·exact wpAny_Name (wpAny_loadName_local I.ok.kind n G hm fin) hd
 ·rcases n with n | n
  ·exact wpAny_Name (wpAny_loadName_cell I.ok.kind n z j fin) hd
  ·exact wpAny_Name (wpAny_loadName_free I.ok.kind n z j fin q) hd
theorem yM {i j pos}:PE X (.Constant (.int i) j pos) (tC (.int i)):=fun _ _ _ H _ I h=>wpAny_Constant_int ⟨.int i,H,I.tok _,⟨_,rfl⟩,h⟩
theorem As {b j pos}:PE X (.Constant (.bool b) j pos) (tC (.bl b)):=fun _ _ _ H _ I h=>Constant_bool ⟨.bl b,H,I,rfl,h⟩
theorem yN {j pos}:PE X (.Constant .none j pos) (tC .non):=fun _ _ _ H _ I h=>Constant_none ⟨.non,H,I,rfl,h⟩
noncomputable def Gl (X:Cx) (x:Str):Prop:=X.env.kindOf x=some .globalImplicit
theorem iY {E:Value->Shared->Prop} {pins:List (Addr×Obj)} {s:Shared} {σ:St} {H:Hp} {x:Str} {u:Value} {pos:Pos} {Q:Value->Shared->Prop} (I:Inv X pins σ H s) (j:Gl X x) (hm:X.mg x=some u) (h:Q u s)
 (hd:(x==("__debug__":Str))=false:=by decide):wpAny (model X.prog X.w) X.A (eval (.Name x pos) X.env) Q E s :=
 Calls.Name_function_global I.ok.kind j (Calls.loadGlobal_global (by rw [I.ok.glob];exact I.mod.glob.keeps I.bk) hm h) hd
theorem cS {E:Value->Shared->Prop} {pins:List (Addr×Obj)} {s:Shared} {σ:St} {H:Hp} {x:Str} {u:Value} {pos:Pos} {Q:Value->Shared->Prop} (I:Inv X pins σ H s) (j:Gl X x) (hm:X.mg x=none) (n:bootBuiltins x=some u) (h:Q u s)
 (q:x ≠ "__name__" := by decide) (hd:(x==("__debug__":Str))=false:=by decide):wpAny (model X.prog X.w) X.A (eval (.Name x pos) X.env) Q E s:=by
 obtain ⟨mb,h1,h2⟩:=I.mod.blt
 exact Calls.Name_function_global I.ok.kind j (Calls.loadGlobal_builtin (by rw [I.ok.glob];exact I.mod.glob.keeps I.bk) hm (by rw [I.ok.blt];exact h1.keeps I.bk) ((h2 x q).trans n) h) hd
theorem wG {x:Str} {v:V} {u:Value} {pos:Pos} (j:Gl X x) (hm:X.mg x=some u) (r:RelV v u) (hd:(x==("__debug__":Str))=false:=by decide):PE X (.Name x pos) (tC v) :=
 fun _ _ _ H _ I h=>iY I j hm ⟨v,H,I,r,h⟩ hd
theorem wH {x:Str} {v:V} {u:Value} {pos:Pos} (j:Gl X x) (hm:X.mg x=none) (n:bootBuiltins x=some u) (r:RelV v u) (q:x ≠ "__name__" := by decide) (hd:(x==("__debug__":Str))=false:=by decide):PE X (.Name x pos) (tC v) :=
 fun _ _ _ H _ I h=>cS I j hm n ⟨v,H,I,r,h⟩ q hd
variable {a b:Expr} {ta tb:TE} {pos:Pos}
variable {tA tB':TT} {rest:List Expr}
noncomputable def Bk (t u:TT):TT:=fun σ H Q=>t σ H fun c H1=>if c=true then u σ H1 Q else Q false H1
noncomputable def tOr (t u:TT):TT:=fun σ H Q=>t σ H fun c H1=>if c=true then Q true H1 else u σ H1 Q
noncomputable def Bl (t:TT):TT:=fun σ H Q=>t σ H fun c H1=>Q (!c) H1
theorem wJ (j:PT X a tA):PW X (.BoolOp .And [a] pos) tA:=by
 intro wh pins s σ H Q I h
 refine isTrue_and (thn (j pins s σ H Q I h) fun c s1 e => ?_)
 cases c with
 | true=>exact isTrue_and_nil e
 | false=>exact e
theorem yO (j:PT X a tA):PW X (.BoolOp .Or [a] pos) tA:=by
 intro wh pins s σ H Q I h
 refine isTrue_or (thn (j pins s σ H Q I h) fun c s1 e => ?_)
 cases c with
 | false=>exact isTrue_or_nil e
 | true=>exact e
theorem yP (q:PT X a tA) (hb:PW X (.BoolOp .And (b::rest) pos) tB'):PW X (.BoolOp .And (a::b::rest) pos) (Bk tA tB'):=by
 intro wh pins s σ H Q I h
 refine isTrue_and (thn (q pins s σ H _ I h) fun c s1 ⟨H1,j,n⟩ => ?_)
 cases c with
 | true=>exact hb wh pins s1 σ H1 Q j n
 | false=>exact ⟨H1,j,n⟩
theorem Au (q:PT X a tA) (hb:PW X (.BoolOp .Or (b::rest) pos) tB'):PW X (.BoolOp .Or (a::b::rest) pos) (tOr tA tB'):=by
 intro wh pins s σ H Q I h
 refine isTrue_or (thn (q pins s σ H _ I h) fun c s1 ⟨H1,j,n⟩ => ?_)
 cases c with
 | true=>exact ⟨H1,j,n⟩
 | false=>exact hb wh pins s1 σ H1 Q j n
theorem yQ (j:PT X a tA):PT X (.UnaryOp .Not a pos) (Bl tA):=by
 intro pins s σ H Q I h
 exact isTrue_not (j pins s σ H (fun c H1=>Q (!c) H1) I h)
noncomputable def Av (ta tb:TE):TE:=fun σ H Q=>ta σ H fun x H1 => ∃ c,x = .bl c/\if c=true then tb σ H1 Q else Q (.bl false) H1
noncomputable def Bm (ta tb:TE):TE:=fun σ H Q=>ta σ H fun x H1 => ∃ c,x = .bl c/\if c=true then Q (.bl true) H1 else tb σ H1 Q
noncomputable def Aw (ta:TE):TE:=fun σ H Q=>ta σ H fun x H1 => ∃ c,x = .bl c/\Q (.bl (!c)) H1
theorem yR {op} {t:TE} (h:PE X a t):PE X (.BoolOp op [a] pos) t:=fun pins s σ H Q I hw=>BoolOp_one (h pins s σ H Q I hw)
theorem yS (q:PE X a ta) (hb:PE X (.BoolOp .And (b::rest) pos) tb):PE X (.BoolOp .And (a::b::rest) pos) (Av ta tb):=by
 intro pins s σ H Q I h
 refine BoolOp_and (thn (q pins s σ H _ I h) fun v s1 ⟨x,H1,n,z,j⟩ => ?_)
 obtain ⟨c,rfl,j⟩:=j
 cases z
 refine wpAny_truthy_bool ?_
 cases c with
 | true=>exact hb pins s1 σ H1 Q n j
 | false=>exact ⟨.bl false,H1,n,rfl,j⟩
theorem Ax (q:PE X a ta) (hb:PE X (.BoolOp .Or (b::rest) pos) tb):PE X (.BoolOp .Or (a::b::rest) pos) (Bm ta tb):=by
 intro pins s σ H Q I h
 refine BoolOp_or (thn (q pins s σ H _ I h) fun v s1 ⟨x,H1,n,z,j⟩ => ?_)
 obtain ⟨c,rfl,j⟩:=j
 cases z
 refine wpAny_truthy_bool ?_
 cases c with
 | false=>exact hb pins s1 σ H1 Q n j
 | true=>exact ⟨.bl true,H1,n,rfl,j⟩
theorem yT (n:PE X a ta):PE X (.UnaryOp .Not a pos) (Aw ta):=by
 intro pins s σ H Q I h
 refine UnaryOp_ (thn (n pins s σ H _ I h) fun v s1 ⟨x,H1,q,z,j⟩ => ?_)
 obtain ⟨c,rfl,j⟩:=j
 cases z
 exact not_of (wpAny_truthy_bool ⟨.bl (!c),H1,q,rfl,j⟩)
noncomputable def tIf (t:TT) (ta tb:TE):TE:=fun σ H Q=>t σ H fun c H1=>if c=true then ta σ H1 Q else tb σ H1 Q
theorem tm {c:Expr} (q:PT X c tA) (z:PE X a ta) (hb:PE X b tb):PE X (.IfExp c a b pos) (tIf tA ta tb):=by
 intro pins s σ H Q I h
 refine wpAny_IfExp (thn (q pins s σ H _ I h) fun d s1 ⟨H1,j,n⟩ => ?_)
 cases d with
 | true=>exact z pins s1 σ H1 Q j n
 | false=>exact hb pins s1 σ H1 Q j n
end
end
section
noncomputable def SqL (K:Frag) (H:Hp) (a:Addr) (xs:List V):Prop :=
 Rd H a (.lst xs) ∨
  ∃ (o:Obj) (its:Array Value) (n:Nat),K.lookup a=some o/\o.cls = .type "list" /\ o.dict=none/\o.data = .seq its n/\its.size<=sizeLine/\Vals xs its.toList
noncomputable def SqT (K:Frag) (H:Hp) (a:Addr) (xs:List V):Prop :=
 Rd H a (.tup xs) ∨
  ∃ (o:Obj) (its:Array Value) (n:Nat),K.lookup a=some o/\o.cls = .type "tuple" /\ o.data = .seq its n/\its.size<=sizeLine/\Vals xs its.toList
noncomputable def Bn:Value->Option V
 | .none=>some .non
 | .bool b=>some (.bl b)
 | .int i _=>some (.int i)
 | .str x _=>some (.str x)
 | .bytes b _=>some (.byt b)
 | .float b _=>some (.flt b)
 | .ref a=>some (.ref a)
 | .type n=>some (.ty n)
 | _=>none
theorem RelV.abs {x:V} {u:Value} (r:RelV x u):Bn u=some x:=by
 cases x with
 | non=>cases r;rfl
 | bl _=>cases r;rfl
 | int _=>obtain ⟨t,rfl⟩:=r;rfl
 | str _=>obtain ⟨t,rfl⟩:=r;rfl
 | byt _=>obtain ⟨t,rfl⟩:=r;rfl
 | flt _=>obtain ⟨t,rfl⟩:=r;rfl
 | ref _=>cases r;rfl
 | ty _=>cases r;rfl
theorem RelV.inj {x y:V} {u:Value} (r:RelV x u) (q:RelV y u):x=y:=Option.some.inj (r.abs.symm.trans q.abs)
theorem Vals.inj:∀ {xs ys:List V} {us:List Value},Vals xs us->Vals ys us->xs=ys
 | _,_,_, .nil, .nil=>rfl
 | _,_,_, .cons r t, .cons r' t'=>by rw [r.inj r',Vals.inj t t']
section
variable {X:Cx} {pins:List (Addr×Obj)} {σ:St} {H:Hp} {s:Shared} {a:Addr} {xs ys:List V}
theorem SqL.of {K:Frag} (h:H a=some (.lst xs)):SqL K H a xs := .inl (.inl h)
theorem SqT.of {K:Frag} (h:H a=some (.tup xs)):SqT K H a xs := .inl (.inl h)
theorem Inv.list (I:Inv X pins σ H s) (h:SqL X.K H a xs):∃ its:List Value,Vals xs its/\PlainL s.heap a its.toArray/\xs.length<=sizeLine:=by
 rcases h with h | ⟨o,its,n,j,q,hd,hs,B,r⟩
 ·obtain ⟨z,its,n,r,e⟩:=h.ok I.hok
  exact ⟨its,r,⟨_,n,e,rfl,rfl,rfl⟩,z⟩
 ·refine ⟨its.toList,r,⟨o,n,I.kIn a o j,q,hd,by simpa using hs⟩, ?_⟩
  have e:=r.length
  simp only [Array.length_toList] at e
  lia
theorem Inv.tuple (I:Inv X pins σ H s) (h:SqT X.K H a xs):∃ its:List Value,Vals xs its/\IsTup s.heap a its.toArray/\xs.length<=sizeLine:=by
 rcases h with h | ⟨o,its,n,j,q,hs,B,r⟩
 ·obtain ⟨z,its,r,p⟩:=h.ok I.hok
  exact ⟨its,r,p,z⟩
 ·refine ⟨its.toList,r,⟨o,I.kIn a o j,q,n,by simpa using hs⟩, ?_⟩
  have e:=r.length
  simp only [Array.length_toList] at e
  lia
theorem Inv.list_inj (I:Inv X pins σ H s) (h:SqL X.K H a xs) (h':SqL X.K H a ys):xs=ys:=by
 obtain ⟨its,r,⟨o,n,e,_,_,d⟩,_⟩:=I.list h
 obtain ⟨its',r',⟨o',n',e',_,_,d'⟩,_⟩:=I.list h'
 rw [e] at e';cases e'
 rw [d] at d'
 injection d' with d1 _
 have:its=its':=by simpa using congrArg Array.toList d1
 subst this
 exact r.inj r'
theorem Inv.tuple_inj (I:Inv X pins σ H s) (h:SqT X.K H a xs) (h':SqT X.K H a ys):xs=ys:=by
 obtain ⟨its,r,⟨o,e,_,n,d⟩,_⟩:=I.tuple h
 obtain ⟨its',r',⟨o',e',_,n',d'⟩,_⟩:=I.tuple h'
 rw [e] at e';cases e'
 rw [d] at d'
 injection d' with d1 _
 have:its=its':=by simpa using congrArg Array.toList d1
 subst this
 exact r.inj r'
end
noncomputable abbrev Cx.wish (X:Cx) (E:Value->Shared->Prop):Cx := { X with xe:=E }
noncomputable abbrev Cx.nox (X:Cx):Cx:=X.wish fun _ _=>False
theorem Cx.Ok.wish {X:Cx} (ok:X.Ok) (E:Value->Shared->Prop):(X.wish E).Ok :=
 ⟨ok.mod,ok.kind,ok.glob,ok.blt,ok.above,ok.inj,ok.has,ok.cab,ok.hd,ok.frames,ok.stk,ok.exf,ok.bs,ok.bsz,ok.noex,ok.exfs,ok.funs,ok.frf⟩
theorem Cx.Ok.unwish {X:Cx} {E:Value->Shared->Prop} (ok:(X.wish E).Ok):X.Ok :=
 ⟨ok.mod,ok.kind,ok.glob,ok.blt,ok.above,ok.inj,ok.has,ok.cab,ok.hd,ok.frames,ok.stk,ok.exf,ok.bs,ok.bsz,ok.noex,ok.exfs,ok.funs,ok.frf⟩
section
variable {X:Cx} {pins:List (Addr×Obj)} {σ:St} {H:Hp} {s:Shared} {E:Value->Shared->Prop}
theorem Inv.wish (I:Inv X pins σ H s) (E:Value->Shared->Prop):Inv (X.wish E) pins σ H s:=⟨I.ok.wish E,I.os,I.bare,I.base,I.loc,I.cell,I.free,I.freeC,I.pin,I.hok,I.len⟩
theorem Inv.unwish (I:Inv (X.wish E) pins σ H s):Inv X pins σ H s:=⟨I.ok.unwish,I.os,I.bare,I.base,I.loc,I.cell,I.free,I.freeC,I.pin,I.hok,I.len⟩
theorem SP.unwish {D:bn} {f:Flow} {s':Shared} (h:SP (X.wish E) pins D f s'):SP X pins D f s':=by
 cases f with
 | next=>obtain ⟨σ',H',I,q⟩:=h;exact ⟨σ',H',I.unwish,q⟩
 | brk=>obtain ⟨σ',H',I,q⟩:=h;exact ⟨σ',H',I.unwish,q⟩
 | cont=>obtain ⟨σ',H',I,q⟩:=h;exact ⟨σ',H',I.unwish,q⟩
 | ret u=>obtain ⟨v, σ',H',I,r,q⟩:=h;exact ⟨v, σ',H',I.unwish,r,q⟩
theorem PSs.nox {st:List Stmt} {t:TS} (h:PSs X.nox st t):PSs X st t:=fun pins s σ H D I hw =>
 wpAny_mono (h pins s σ H D (I.wish _) hw) (fun _ _ q=>q.unwish) fun _ _ z=>False.elim z
end
section
variable {X:Cx} {st:Stmt} {rest:List Stmt} {t u:TS} {e:Expr} {te:TE} {pos:Pos}
noncomputable def oK:TS:=fun D σ H=>D.nx σ H
noncomputable def yU (t u:TS):TS:=fun D σ H=>t { D with nx:=u D } σ H
theorem wK:PSs X [] oK:=fun _ _ σ H _ I h=>wpAny_execs_nil ⟨σ,H,I,h⟩
theorem tq (h1:PS X st t) (h2:PSs X rest u):PSs X (st::rest) (yU t u):=by
 intro pins s σ H D I h
 refine wpAny_execs_cons (thn (h1 pins s σ H { D with nx:=u D } I h) fun f s1 q => ?_)
 cases f with
 | next =>
   obtain ⟨σ',H',I',q⟩:=q
   exact h2 pins s1 σ' H' D I' q
 | ret v=>exact q
 | brk=>exact q
 | cont=>exact q
noncomputable def qm:TS:=fun D σ H=>D.bk σ H
noncomputable def vR:TS:=fun D σ H=>D.ct σ H
theorem wL:PS X (.Pass pos) oK:=fun _ _ σ H _ I h=>wpAny_Pass ⟨σ,H,I,h⟩
theorem tu:PS X (.Break pos) qm:=fun _ _ σ H _ I h=>wpAny_Break ⟨σ,H,I,h⟩
theorem nj:PS X (.Continue pos) vR:=fun _ _ σ H _ I h=>wpAny_Continue ⟨σ,H,I,h⟩
theorem Inv.quiet {pins:List (Addr×Obj)} {σ:St} {H:Hp} {s:Shared} (I:Inv X pins σ H s):interactive X.env=false:=by simp [interactive,I.ok.kind]
noncomputable def vS (te:TE):TS:=fun D σ H=>te σ H fun _ H1=>D.nx σ H1
theorem wM (he:PE X e te) (hs:swapsWith e none pos.line X.env=pure false:=by rfl):PS X (.Expr e pos) (vS te):=by
 intro pins s σ H D I h
 exact wpAny_Expr_any (thn (he pins s σ H _ I h) fun v s1 ⟨x,H1,j,q,n⟩=>⟨σ,H1,j,n⟩) I.quiet hs
noncomputable def yV (te:TE):TS:=fun D σ H=>te σ H D.rt
theorem yW (he:PE X e te):PS X (.Return (some e) pos) (yV te):=by
 intro pins s σ H D I h
 exact wpAny_Return_some (thn (he pins s σ H _ I h) fun v s1 ⟨x,H1,j,n,q⟩=>⟨x, σ,H1,j,n,q⟩)
noncomputable def yX (c:TT) (t u:TS):TS:=fun D σ H=>c σ H fun b H1=>if b=true then t D σ H1 else u D σ H1
theorem Ay {c:Expr} {a b:List Stmt} {tc:TT} (q:PT X c tc) (z:PSs X a t) (hb:PSs X b u):PS X (.If c a b pos) (yX tc t u):=by
 intro pins s σ H D I h
 refine wpAny_If (thn (q pins s σ H _ I h) fun d s1 ⟨H1,j,n⟩ => ?_)
 cases d with
 | true=>exact z pins s1 σ H1 D j n
 | false=>exact hb pins s1 σ H1 D j n
end
noncomputable abbrev TG:=V->St->Hp->(St->Hp->Prop)->Prop
noncomputable abbrev TGs:=List V->St->Hp->(St->Hp->Prop)->Prop
noncomputable def PG (X:Cx) (target:Expr) (t:TG):Prop :=
 ∀ (pins:List (Addr×Obj)) (s:Shared) (σ:St) (H:Hp) (v:V) (u:Value) (Q:St->Hp->Prop),Inv X pins σ H s->RelV v u->t v σ H Q ->
  wpAny (model X.prog X.w) X.A (assign target X.env u) (fun _ s' => ∃ σ' H',Inv X pins σ' H' s'/\Q σ' H') X.xe s
noncomputable def PGs (X:Cx) (ts:List Expr) (t:TGs):Prop :=
 ∀ (pins:List (Addr×Obj)) (s:Shared) (σ:St) (H:Hp) (vs:List V) (us:List Value) (Q:St->Hp->Prop),Inv X pins σ H s->Vals vs us->t vs σ H Q ->
  wpAny (model X.prog X.w) X.A (assignInOrder ((assignEach ts X.env).map (·.2)) us) (fun _ s' => ∃ σ' H',Inv X pins σ' H' s'/\Q σ' H') X.xe s
noncomputable abbrev iZ:=V->V->V->Hp->(Hp->Prop)->Prop
noncomputable def PSet (X:Cx) (t:iZ):Prop :=
 ∀ (pins:List (Addr×Obj)) (s:Shared) (σ:St) (H:Hp) (o i v:V) (ov iv u:Value) (Q:Hp->Prop),Inv X pins σ H s->RelV o ov->RelV i iv->RelV v u->t o i v H Q ->
  wpAny (model X.prog X.w) X.A (setItem ov iv u) (fun _ s' => ∃ H',Inv X pins σ H' s'/\Q H') X.xe s
noncomputable abbrev TIp:=V->V->Hp->VK->Prop
noncomputable def PIp (X:Cx) (op:Operator) (t:TIp):Prop :=
 ∀ (pins:List (Addr×Obj)) (s:Shared) (σ:St) (H:Hp) (x y:V) (v u:Value) (Q:VK),Inv X pins σ H s->RelV x v->RelV y u->t x y H Q ->
  wpAny (model X.prog X.w) X.A (inplaceOp op v u) (EP X pins σ Q) X.xe s
section
variable {X:Cx} {pos:Pos}
noncomputable def gW (i:Nat):TG:=fun v σ H Q=>Q (σ.set i (some v)) H
theorem nF {i:Nat} {x:Str} (j:X.N.Nodup) (hi:X.N[i]? = some x) (hx:Loc X.env.scope x) (hf:X.fn x=true∨X.env.scope.names.lookup x=some .local:=by first | exact .inl rfl | exact .inr rfl | assumption):PG X (.Name x pos) (gW i):=by
 intro pins s σ H v u Q I r h
 exact wpAny_assign_Name (gk I j hi hx r (fun s' I'=>⟨_,H,I',h⟩) hf)
noncomputable def Bo:TGs:=fun vs σ H Q=>vs=[]/\Q σ H
noncomputable def Az (t:TG) (u:TGs):TGs:=fun vs σ H Q => ∃ v r,vs=v::r/\t v σ H fun σ' H'=>u r σ' H' Q
theorem wN:PGs X [] Bo:=by
 intro pins s σ H vs us Q I r h
 obtain ⟨e,h⟩:=h
 subst e
 cases r
 exact assignInOrder_nil ⟨σ,H,I,h⟩
theorem tw {e:Expr} {es:List Expr} {t:TG} {u:TGs} (h1:PG X e t) (h2:PGs X es u)
 (hs:(assignEach (e::es) X.env).map (·.2)=assign e X.env::(assignEach es X.env).map (·.2):=by rfl):PGs X (e::es) (Az t u):=by
 intro pins s σ H vs us Q I r h
 obtain ⟨v,vr,j,h⟩:=h
 subst j
 cases r with
 | cons r rr =>
   rw [hs]
   refine assignInOrder_cons (thn (h1 pins s σ H _ _ _ I r h) fun _ s1 ⟨σ1,H1,n,q⟩ => ?_)
   exact h2 pins s1 σ1 H1 _ _ Q n rr q
noncomputable def Bp (K:Frag) (n:Nat) (t:TGs):TG:=fun v σ H Q => ∃ a xs,v = .ref a/\SqT K H a xs/\xs.length=n/\t xs σ H Q
theorem yY {es:List Expr} {k:Nat} {t:TGs} {n:Nat} (q:X.calm=true) (h:PGs X es t)
 (z:(assignEach es X.env).length=n:=by rfl) (j:(assignEach es X.env).findIdx? (·.1)=none:=by rfl):PG X (.Tuple es k pos) (Bp X.K n t):=by
 intro pins s σ H v u Q I r hw
 obtain ⟨a,xs,B,F,hl,hw⟩:=hw
 subst B
 cases r
 obtain ⟨its,rv,G,L⟩:=I.tuple F
 refine assign_Tuple_tuple (I.ok.hd q) G (by simp [z, <- hl,rv.length]) j fun h' hx => ?_
 have J:Inv X pins σ H { s with heap:=h' }:=I.kept (t':=s.toks) fun b o e=>hx b o (Nat.ne_of_lt (Heap.lt_size e)) e
 exact h pins _ σ H xs _ Q J (by simpa using rv) hw
noncomputable def Bq (to ti:TE) (t:iZ):TG:=fun v σ H Q=>to σ H fun o H1=>ti σ H1 fun i H2=>t o i v H2 fun H3=>Q σ H3
theorem yZ {o i:Expr} {to ti:TE} {t:iZ} (ho:PE X o to) (hi:PE X i ti) (hs:PSet X t)
 (j:∀ v,assign (.Subscript o i pos) X.env v=(do
   let ov <- holding [v] (eval o X.env)
   let iv <- holding [v,ov] (eval i X.env)
   standAt pos
   holding [v,ov,iv] (setItem ov iv v)
   release [v,ov,iv] []):=by intro _;rfl):PG X (.Subscript o i pos) (Bq to ti t):=by
 intro pins s σ H v u Q I r h
 rw [j]
 refine wpAny_bind (wpAny_holding (thn (ho pins s σ H _ I h) fun ov s1 ⟨x,H1,n,q,z⟩ => ?_))
 refine wpAny_bind (wpAny_holding (thn (hi pins s1 σ H1 _ n z) fun iv s2 ⟨y,H2,B,F,G⟩ => ?_))
 refine wpAny_bind (wpAny_standAt (wpAny_bind (wpAny_holding (thn (hs pins s2 σ H2 x y v ov iv u _ B q F r G) fun _ s3 ⟨J,L,O⟩ => ?_))))
 exact wpAny_release ⟨σ,J,L,O⟩
noncomputable def oM (te:TE) (g:TG):TS:=fun D σ H=>te σ H fun x H1=>g x σ H1 D.nx
theorem qo {tg e:Expr} {te:TE} {g:TG} (he:PE X e te) (j:PG X tg g) (hs:swapsWithSole [tg] e pos.line X.env=pure false:=by rfl) (hw:swappedStores [tg] e X.env=pure none:=by rfl)
 (h1:(assignEach [tg] X.env).map (·.2)=[assign tg X.env]:=by rfl):PS X (.Assign [tg] e pos) (oM te g):=by
 intro pins s σ H D I h
 refine wpAny_Assign_stores (thn (he pins s σ H _ I h) fun v s1 ⟨x,H1,n,z,B⟩ => ?_) hs hw
 rw [h1]
 exact thn (j pins s1 σ H1 x v _ n z B) fun _ s2 q=>q
noncomputable def z9 (i j:Nat) (ta:TA):TS:=fun D σ H=>ta σ H fun vs H1 => ∃ v w,vs=[v,w]/\D.nx ((σ.set i (some v)).set j (some w)) H1
theorem za {i j:Nat} {x y:Str} {a b:Expr} {ta:TA} {px py pt:Pos} {kt F n} (U:X.calm=true) (O:X.N.Nodup) (hi:X.N[i]? = some x) (Y:X.N[j]? = some y) (G:i≠j)
 (hx:X.env.scope.names.lookup x=some .local) (R:X.env.scope.names.lookup y=some .local) (Z:PA X [a,b] ta)
 (hw:swappedStores [.Tuple [.Name x px, .Name y py] kt pt] (.Tuple [a,b] F n) X.env=pure (some [x,y]))
 (hs:swapsWithSole [.Tuple [.Name x px, .Name y py] kt pt] (.Tuple [a,b] F n) pos.line X.env=pure false:=by rfl) :
 PS X (.Assign [.Tuple [.Name x px, .Name y py] kt pt] (.Tuple [a,b] F n) pos) (z9 i j ta):=by
 intro pins s σ H D I h
 rw [exec_Assign_arm]
 refine wpAny_bind (wpAny_standAt ?_)
 rw [hs]
 refine wpAny_bind (wpAny_pure ?_)
 rw [if_neg (by decide)]
 refine wpAny_bind (Tuple_ (thn (Z _ pins s σ H _ I h) fun us s1 ⟨vs,H1,I1,r1,J⟩ => ?_))
 obtain ⟨v,w,e1,J⟩:=J
 subst e1
 obtain ⟨z,B,rfl,rv,rw'⟩:∃ z B,us=[z,B]/\RelV v z/\RelV w B:=by
  cases r1 with
  | cons p q =>
    cases q with
    | cons p' q' =>
      cases q'
      exact ⟨_,_,rfl,p,p'⟩
 refine wpAny_newObj_type ?_ (by show 2<=sizeLine;decide)
 have I2:Inv X pins σ H1 { s1 with heap:=s1.heap.push { cls := .type "tuple",data := .seq [z,B].toArray } }:=I1.kept (t':=s1.toks) fun b o e=>Heap.get?_push_of_some _ e
 rw [hw]
 refine wpAny_bind (wpAny_pure ?_)
 show wpAny (model X.prog X.w) X.A (do rule "assign.swapped-stores";let items <- unpackItems (.ref s1.heap.objs.size) 2 none;assignInOrder [fun v=>bindName X.env y v,fun v=>bindName X.env x v] items.reverse;pure Flow.next) _ _ _
 refine wpAny_bind (wpAny_rule (wpAny_bind (unpackItems_tuple (items := #[z,B]) (I.ok.hd U) (IsTup.new s1.heap _) fun h' L => ?_)))
 have I3:=I2.kept (h':=h') (t':=s1.toks) fun b o e=>L b o (Nat.ne_of_lt (Heap.lt_size e)) e
 show wpAny _ _ (assignInOrder [fun v=>bindName X.env y v,fun v=>bindName X.env x v] [B,z] >>= fun _=>pure Flow.next) _ _ _
 refine wpAny_bind (assignInOrder_cons (wpAny_bindName (gk I3 O Y (.inl R) rw' (fun s2 I4 => ?_) (.inr R))))
 refine assignInOrder_cons (wpAny_bindName (gk I4 O hi (.inl hx) rv (fun s3 S=>assignInOrder_nil (wpAny_pure ?_)) (.inr hx)))
 rw [List.set_comm _ _ (Ne.symm G)] at S
 exact ⟨_,H1,S,J⟩
noncomputable def AA (to ti te:TE) (tget:V->V->Hp->VK->Prop) (tip:TIp) (tset:iZ):TS:=fun D σ H=>to σ H fun o H1=>ti σ H1 fun i H2=>tget o i H2 fun x H3=>te σ H3 fun y H4=>tip x y H4 fun z H5=>tset o i z H5 fun H6=>D.nx σ H6
noncomputable def zb (X:Cx) (t:V->V->Hp->VK->Prop):Prop :=
 ∀ (pins:List (Addr×Obj)) (s:Shared) (σ:St) (H:Hp) (o i:V) (ov iv:Value) (Q:VK),Inv X pins σ H s->RelV o ov->RelV i iv->t o i H Q ->
  wpAny (model X.prog X.w) X.A (getItem ov iv) (EP X pins σ Q) X.xe s
theorem wP {o i e:Expr} {to ti te:TE} {tget:V->V->Hp->VK->Prop} {tip:TIp} {tset:iZ} {op:Operator} {tpos:Pos} (ho:PE X o to) (hi:PE X i ti) (B:zb X tget) (he:PE X e te) (F:PIp X op tip) (hs:PSet X tset)
 (G:∀ ov iv new,augStore i ov iv new=(do holding [new,ov,iv] (setItem ov iv new);release [new,ov,iv] [];pure .next):=by intros;rfl):PS X (.AugAssign (.Subscript o i tpos) op e pos) (AA to ti te tget tip tset):=by
 intro pins s σ H D I h
 refine wpAny_AugAssign_SubscriptAny (thn (ho pins s σ H _ I h) fun ov s1 ⟨j,H1,J,n,L⟩ => ?_) G
 refine thn (hi pins s1 σ H1 _ J L) fun iv s2 ⟨q,H2,O,z,R⟩ => ?_
 refine thn (B pins s2 σ H2 j q ov iv _ O n z R) fun old s3 ⟨S,U,Y,Z,q3⟩ => ?_
 refine thn (he pins s3 σ U _ Y q3) fun v s4 ⟨x4,H4,I4,r4,q4⟩ => ?_
 refine thn (F pins s4 σ H4 S x4 old v _ I4 Z r4 q4) fun new s5 ⟨x5,H5,I5,r5,q5⟩ => ?_
 exact thn (hs pins s5 σ H5 j q x5 ov iv new _ I5 n z r5 q5) fun _ s6 ⟨H6,I6,q6⟩=>⟨σ,H6,I6,q6⟩
end
section
variable {X:Cx} {pos:Pos}
noncomputable def qp (c:TT) (tb:TS):TS:=fun D σ H => ∃ W:Nat->St->Hp->Prop,(∃ m,W m σ H) /\ ∀ m σ H,W m σ H ->
 c σ H fun b H1=>if b=true then ∃ N:St->Hp->Prop,(∀ σ' H',N σ' H' -> ∃ m',m' < m/\W m' σ' H')/\tb { D with nx:=N,ct:=N,bk:=D.nx } σ H1 else D.nx σ H1
theorem tz {c:Expr} {body:List Stmt} {tc:TT} {tb:TS} (J:PassesOwn (model X.prog X.w) X.A X.env X.xe) (R:PT X c tc) (hb:PSs X body tb):PS X (.While c body [] pos) (qp tc tb):=by
 intro pins s σ H D I h
 obtain ⟨W,⟨m0,S⟩,turn⟩:=h
 refine wpAny_While (codeAny_whileLoop (fun n s' => ∃ σ' H',Inv X pins σ' H' s'/\W n σ' H') ?_ m0 ⟨σ,H,I,S⟩)
 rintro n s1 ⟨σ1,H1,U,Y⟩
 refine wpAny_passesOwn J (thn (R pins s1 σ1 H1 _ U (turn n σ1 H1 Y)) fun b s2 ⟨H2,L,q⟩ => ?_)
 cases b with
 | true =>
   obtain ⟨N,O,q⟩:=q
   rw [if_pos rfl]
   refine wpAny_passesOwn J (thn (hb pins s2 σ1 H2 _ L q) fun f s3 z => ?_)
   cases f with
   | next =>
     obtain ⟨σ3,j,B,F⟩:=z
     obtain ⟨m',hm,G⟩:=O σ3 j F
     exact ⟨m',hm, σ3,j,B,G⟩
   | cont =>
     obtain ⟨σ3,j,B,F⟩:=z
     obtain ⟨m',hm,G⟩:=O σ3 j F
     exact ⟨m',hm, σ3,j,B,G⟩
   | brk=>exact z
   | ret v=>exact z
 | false =>
   rw [if_neg Bool.false_ne_true]
   exact wpAny_execs_nil ⟨σ1,H2,L,q⟩
end
structure It where
 go:Nat->Hp->Prop
 yld:Nat->Hp->V->Hp->Prop
 stop:Nat->Hp->Prop
noncomputable def bF (X:Cx) (pins:List (Addr×Obj)) (H:Hp) (b:Addr):Prop :=
 H b=none/\b≠X.env.locals/\b∉X.fs/\(b∈X.ex∨X.s₀.heap.objs.size<=b)/\(∀ x c,X.env.cells.lookup x=some c->c≠b) /\ ∀ p∈X.pn++pins,p.1≠b
theorem Inv.fpOk {X:Cx} {pins:List (Addr×Obj)} {σ:St} {H H':Hp} {s:Shared} {b:Addr} (I:Inv X pins σ H s) (hb:s.heap.objs.size<=b) (j:H' b=none):bF X pins H' b:=by
 refine ⟨j,Nat.ne_of_gt (Nat.lt_of_lt_of_le I.lt hb),I.nofs hb, .inr (Nat.le_trans I.sz hb),fun x c e z => ?_,fun p n z => ?_⟩
 ·obtain ⟨v,q⟩:=I.cell x c e
  exact absurd (Nat.lt_of_lt_of_le q.lt (by rw [z];exact hb)) (Nat.lt_irrefl _)
 ·exact absurd (Nat.lt_of_lt_of_le (Heap.lt_size (I.pin p n).1) (by rw [z];exact hb)) (Nat.lt_irrefl _)
structure eS (P:Program) (w:World) (K:Frag) (tg:Expr) (J:It) (fp:List Addr) (it:Addr) (tn:Nat->Heap->Prop):Prop where
 mem:it∈fp
 obj:∀ i h,tn i h -> ∀ b∈fp, ∃ o,h.get? b=some o /\ ∀ v,o.data ≠ .cell v
 keep:∀ i h h',tn i h->(∀ b∈fp, ∀ o,h.get? b=some o->h'.get? b=some o)->tn i h'
 item:∀ (X:Cx),X.prog=P->X.w=w->X.K=K->X.calm=true -> ∀ (i:Nat) (pins:List (Addr×Obj)) (s:Shared) (σ:St) (H:Hp) (E:Value->Shared->Prop),Inv X pins σ H s->(∀ b∈fp,bF X pins H b)->tn i s.heap->J.go i H ->
  wpAny (model P w) X.A (pyNext (.ref it)) (fun r s1 => ∃ u,r=some u /\
   wpAny (model P w) X.A (letOwnedTupleGo tg (.ref it) u) (fun _ s2 => ∃ x H',Inv X pins σ H' s2/\RelV x u/\J.yld i H x H'/\tn (i+1) s2.heap /\ ∀ b∈fp,H' b=none) E s1) E s
 done:∀ (X:Cx),X.prog=P->X.w=w->X.K=K->X.calm=true -> ∀ (i:Nat) (pins:List (Addr×Obj)) (s:Shared) (σ:St) (H:Hp) (E:Value->Shared->Prop),Inv X pins σ H s->(∀ b∈fp,bF X pins H b)->tn i s.heap->J.stop i H ->
  wpAny (model P w) X.A (pyNext (.ref it)) (fun r s1=>r=none/\Inv X pins σ H s1) E s
 self:∀ (A:Around) (i:Nat) (s:Shared) (Q:Value->Shared->Prop) (E:Value->Shared->Prop),tn i s.heap->Q (.ref it) s->wpAny (model P w) A (pyIter (.ref it)) Q E s
noncomputable abbrev TI:=St->Hp->(It->Hp->Prop)->Prop
noncomputable def PIE (X:Cx) (pins:List (Addr×Obj)) (σ:St) (tg:Expr) (R:It->Hp->Prop) (itv:Value) (s2:Shared):Prop :=
 ∃ (it:Addr) (fp:List Addr) (tn:Nat->Heap->Prop) (J:It) (H':Hp),itv = .ref it/\Inv X pins σ H' s2/\eS X.prog X.w X.K tg J fp it tn/\tn 0 s2.heap/\(∀ b∈fp,bF X pins H' b)/\R J H'
noncomputable def PI (X:Cx) (tg iter:Expr) (wi:TI):Prop :=
 ∀ (pins:List (Addr×Obj)) (s:Shared) (σ:St) (H:Hp) (R:It->Hp->Prop),Inv X pins σ H s->wi σ H R ->
  wpAny (model X.prog X.w) X.A (eval iter X.env) (fun v s1=>wpAny (model X.prog X.w) X.A (pyIter v) (PIE X pins σ tg R) X.xe s1) X.xe s
theorem oO {M:Model} {A:Around} {E:Value->Shared->Prop} {s:Shared} {tg:Expr} {it:Addr} {u:Value} {o:Obj} {n:String} {vs:Array Value} {Q:Unit->Shared->Prop} (ho:s.heap.get? it=some o) (q:o.cls = .type n) (hd:o.data = .fields vs)
 (z : ["enumerate", "zip", "dict_itemiterator", "dict_reverseitemiterator", "odict_iterator", "itertools.zip_longest", "itertools.pairwise"].contains n=false) (j:Q () s):wpAny M A (letOwnedTupleGo tg (.ref it) u) Q E s:=by
 unfold letOwnedTupleGo
 cases tg <;> first
  | exact wpAny_pure j
  | (cases u <;> first
      | exact wpAny_pure j
      | (refine wpAny_bind (wpAny_load ho ?_)
         rw [q,hd]
         show wpAny M A (if (["enumerate", "zip", "dict_itemiterator", "dict_reverseitemiterator", "odict_iterator", "itertools.zip_longest", "itertools.pairwise"].contains n&&vs[0]? == some (rawInt _))=true then _ else _) Q E s
         rw [if_neg (by intro h;rw [z,Bool.false_and] at h;cases h)]
         exact wpAny_pure j))
noncomputable def Itl (K:Frag) (a:Addr):It :=
 ⟨fun i H => ∃ xs x,SqL K H a xs/\xs[i]? = some x,fun i H x H'=>H'=H /\ ∀ xs,SqL K H a xs->xs[i]? = some x,fun i H => ∃ xs,SqL K H a xs/\xs.length<=i⟩
noncomputable def Itt (K:Frag) (a:Addr):It :=
 ⟨fun i H => ∃ xs x,SqT K H a xs/\xs[i]? = some x,fun i H x H'=>H'=H /\ ∀ xs,SqT K H a xs->xs[i]? = some x,fun i H => ∃ xs,SqT K H a xs/\xs.length<=i⟩
noncomputable def Itr (lo:Int) (n:Nat):It:=⟨fun i _=>i < n,fun i H x H'=>H'=H/\x = .int (lo+i),fun i _=>n<=i⟩
theorem qq {P:Program} {w:World} {K:Frag} {tg:Expr} (a it:Addr):eS P w K tg (Itl K a) [it] it (fun i h=>h.IsListIter it a i) where
 mem:=by simp
 obj:=fun i h st b hb=>by
  have e:b=it:=by simpa using hb
  subst e
  obtain ⟨o,e,c,d⟩:=st
  exact ⟨o,e,fun v z=>by rw [d] at z;cases z⟩
 keep:=fun i h h' st k=>st.at fun o e=>k it (by simp) o e
 item:=by
  intro X n hw q G i pins s σ H E I hf st hg
  subst n hw q
  obtain ⟨xs,x,j,hx⟩:=hg
  obtain ⟨its,rv,p,J⟩:=I.list j
  obtain ⟨u,L,ru⟩:=rv.get hx
  obtain ⟨f0,f1,f2,B,f4,F⟩:=hf it (by simp)
  refine wpAny_pyNext_list_item st p.isList (x:=u) (by simpa using L) fun h' st' sb => ?_
  have O:Inv X pins σ H { s with heap:=h' }:=I.turned (t':=s.toks) (fun b o hb e=>(sb.2 b hb).trans e) f0 f1 B f4 F
  obtain ⟨o,e,c,d⟩:=id st'
  exact ⟨u,rfl,oO (s := { s with heap:=h' }) e c d (by decide) ⟨x,H,O,ru,⟨rfl,fun ys R=>by rw [I.list_inj R j];exact hx⟩,st',fun b hb=>(hf b hb).1⟩⟩
 done:=by
  intro X n hw q G i pins s σ H E I hf st hg
  subst n hw q
  obtain ⟨xs,j,hx⟩:=hg
  obtain ⟨its,rv,p,J⟩:=I.list j
  obtain ⟨f0,f1,f2,B,f4,F⟩:=hf it (by simp)
  have hl:=rv.length
  exact wpAny_pyNext_list_end (I.ok.hd G) st p.isList (by simp;lia) fun h' eb=>⟨rfl,I.turned (t':=s.toks) (fun b o hb e=>eb b o hb e) f0 f1 B f4 F⟩
 self:=fun _ _ _ _ _ st h=>wpAny_pyIter_listiter st h
theorem oP {P:Program} {w:World} {K:Frag} {tg:Expr} (a it:Addr):eS P w K tg (Itt K a) [it] it (fun i h=>h.IsTupleIter it a i) where
 mem:=by simp
 obj:=fun i h st b hb=>by
  have e:b=it:=by simpa using hb
  subst e
  obtain ⟨o,e,c,d⟩:=st
  exact ⟨o,e,fun v z=>by rw [d] at z;cases z⟩
 keep:=fun i h h' st k=>st.at fun o e=>k it (by simp) o e
 item:=by
  intro X n hw q G i pins s σ H E I hf st hg
  subst n hw q
  obtain ⟨xs,x,j,hx⟩:=hg
  obtain ⟨its,rv,p,J⟩:=I.tuple j
  obtain ⟨u,L,ru⟩:=rv.get hx
  obtain ⟨f0,f1,f2,B,f4,F⟩:=hf it (by simp)
  refine wpAny_pyNext_tuple_item st (show s.heap.IsTuple a its.toArray from p) (x:=u) (by simpa using L) fun h' st' sb => ?_
  have O:Inv X pins σ H { s with heap:=h' }:=I.turned (t':=s.toks) (fun b o hb e=>(sb.2 b hb).trans e) f0 f1 B f4 F
  obtain ⟨o,e,c,d⟩:=id st'
  exact ⟨u,rfl,oO (s := { s with heap:=h' }) e c d (by decide) ⟨x,H,O,ru,⟨rfl,fun ys R=>by rw [I.tuple_inj R j];exact hx⟩,st',fun b hb=>(hf b hb).1⟩⟩
 done:=by
  intro X n hw q G i pins s σ H E I hf st hg
  subst n hw q
  obtain ⟨xs,j,hx⟩:=hg
  obtain ⟨its,rv,p,J⟩:=I.tuple j
  obtain ⟨f0,f1,f2,B,f4,F⟩:=hf it (by simp)
  have hl:=rv.length
  exact wpAny_pyNext_tuple_end (I.ok.hd G) st (show s.heap.IsTuple a its.toArray from p) (by simp;lia) fun h' eb=>⟨rfl,I.turned (t':=s.toks) (fun b o hb e=>eb b o hb e) f0 f1 B f4 F⟩
 self:=fun _ _ _ _ _ st h=>wpAny_pyIter_tupleiter st h
theorem oQ {P:Program} {w:World} {K:Frag} {tg:Expr} (it:Addr) (lo:Int) (n:Nat):eS P w K tg (Itr lo n) [it] it (fun i h=>IsRangeIter h it (lo+(i:Nat)*1) ((n:Int) - (i:Nat)) 1) where
 mem:=by simp
 obj:=fun i h st b hb=>by
  have e:b=it:=by simpa using hb
  subst e
  exact ⟨_,st,fun v z=>by
   have z':Data.fields _=Data.cell v:=z
   cases z'⟩
 keep:=fun i h h' st k=>k it (by simp) _ st
 item:=by
  intro X j hw q B i pins s σ H E I hf st hg
  subst j hw q
  obtain ⟨f0,f1,f2,F,f4,G⟩:=hf it (by simp)
  have W:=Walks.range (prog:=X.prog) (w:=X.w) (I.ok.hd B) it lo 1 n
  refine W.item i s _ _ hg st fun v h' tk J st' kk => ?_
  obtain ⟨t,rfl⟩:=J
  have L:Inv X pins σ H { s with heap:=h',toks:=tk }:=I.turned (fun b o hb e=>kk b o (by simpa using hb) e) f0 f1 F f4 G
  refine ⟨_,rfl,oO (s := { s with heap:=h',toks:=tk }) (n := "range_iterator") st' rfl rfl (by decide) ⟨.int (lo+i),H,L,⟨t, ?_⟩,⟨rfl,rfl⟩,st',fun b hb=>(hf b hb).1⟩⟩
  rw [Int.mul_one]
 done:=by
  intro X j hw q B i pins s σ H E I hf st hg
  subst j hw q
  obtain ⟨f0,f1,f2,F,f4,G⟩:=hf it (by simp)
  exact wpAny_pyNext_range_end (I.ok.hd B) st (by have:n<=i:=hg;lia) fun h' eb=>⟨rfl,I.turned (t':=s.toks) (fun b o hb e=>eb b o hb e) f0 f1 F f4 G⟩
 self:=fun _ _ _ _ _ st h=>wpAny_pyIter_rangeiter st h
end
section
section
variable {X:Cx} {tg:Expr}
theorem tD {pins:List (Addr×Obj)} {σ:St} {H:Hp} {s:Shared} {R:It->Hp->Prop} {E:Value->Shared->Prop} {lo hi:Int} {t u v:Tok} {tk:Nat} (I:Inv X pins σ H s) (h1 : -(2 ^ 62)<=lo) (h2:lo < 2 ^ 62) (n : -(2 ^ 62)<=hi) (z:hi < 2 ^ 62)
 (q:R (Itr lo (hi - lo).toNat) H):wpAny (model X.prog X.w) X.A (pyIter (.ref s.heap.objs.size)) (PIE X pins σ tg R) E { s with heap:=s.heap.push { cls := .type "range",data := .fields #[.int lo t, .int hi u, .int 1 v] },toks:=tk }:=by
 refine wpAny_pyIter_range (IsRange.new ..) (small_one h1 h2 n z) ?_
 have j:Inv X pins σ H { s with heap:=s.heap.push { cls := .type "range",data := .fields #[.int lo t, .int hi u, .int 1 v] },toks:=tk }:=I.kept fun b o e=>Heap.get?_push_of_some _ e
 refine ⟨(s.heap.push { cls := .type "range",data := .fields #[.int lo t, .int hi u, .int 1 v] }).objs.size,[(s.heap.push { cls := .type "range",data := .fields #[.int lo t, .int hi u, .int 1 v] }).objs.size],_,_,H,rfl,
  j.kept (t':=tk) fun b o e=>Heap.get?_push_of_some _ e,oQ _ lo (hi - lo).toNat, ?_,fun b hb => ?_,q⟩
 ·have B:lo+((0:Nat):Int)*1=lo:=by simp
  have F:(((hi - lo).toNat:Nat):Int) - ((0:Nat):Int)=Builtin.Range.rangeSize lo hi 1:=by rw [rangeSize_one];split <;> lia
  show IsRangeIter _ _ (lo+((0:Nat):Int)*1) ((((hi - lo).toNat:Nat):Int) - ((0:Nat):Int)) 1
  rw [B,F]
  exact Heap.get?_push_size _ rfl
 ·have e:b=(s.heap.push { cls := .type "range",data := .fields #[.int lo t, .int hi u, .int 1 v] }).objs.size:=by simpa using hb
  subst e
  exact j.fpOk (Nat.le_refl _) (j.hok.fresh (Nat.le_refl _))
noncomputable def AB (ta:TA):TI:=fun σ H R=>ta σ H fun vs H1 => ∃ j:Int,vs=[.int j] /\ -(2 ^ 62)<=j/\j < 2 ^ 62/\R (Itr 0 j.toNat) H1
theorem qr {a:Expr} {ta:TA} {p pos:Pos} (z:Gl X "range") (hm:X.mg "range" = none) (B:PA X [a] ta) (hs:starEach [a] X.env=[(false,eval a X.env)]:=by rfl):PI X tg (.Call (.Name "range" p) [a] [] pos) (AB ta):=by
 intro pins s σ H R I h
 refine Call_ (cS I z hm boot_range (PyProof.Rows.callWith_type1 (thn (B pos pins s σ H _ I h) fun us s1 ⟨vs,H1,F,G,n⟩ => ?_) hs rfl))
 obtain ⟨j,e,n,J,q⟩:=n
 subst e
 cases G with
 | cons r rr =>
   cases rr
   obtain ⟨t,rfl⟩:=r
   exact call_range_1 (tD F (by lia) (by lia) n J (by simpa using q))
noncomputable def zc (wi:TI) (g:TG) (tb:TS):TS:=fun D σ H=>wi σ H fun J H1 => ∃ W:Nat->Nat->St->Hp->Prop,(∃ m,W 0 m σ H1) /\ ∀ i m σ H,W i m σ H ->
 (J.stop i H/\D.nx σ H)∨(J.go i H /\ ∃ N:St->Hp->Prop,(∀ σ' H',N σ' H' -> ∃ m',m' < m/\W (i+1) m' σ' H') /\ ∀ x H',J.yld i H x H'->g x σ H' fun σ2 H2=>tb { D with nx:=N,ct:=N,bk:=D.nx } σ2 H2)
noncomputable def gX (fp:List Addr) (h:Heap):List (Addr×Obj):=fp.filterMap fun b=>(h.get? b).map fun o=>(b,o)
theorem cA {fp:List Addr} {h:Heap} {b:Addr} {o:Obj} (hb:b∈fp) (e:h.get? b=some o):(b,o)∈gX fp h:=List.mem_filterMap.mpr ⟨b,hb,by rw [e];rfl⟩
theorem qt {fp:List Addr} {h:Heap} {p:Addr×Obj} (j:p∈gX fp h):p.1∈fp/\h.get? p.1=some p.2:=by
 obtain ⟨b,hb,e⟩:=List.mem_filterMap.mp j
 cases q:h.get? b with
 | none=>rw [q] at e;cases e
 | some o =>
   rw [q] at e
   have e':(b,o)=p:=Option.some.inj e
   subst e'
   exact ⟨hb,q⟩
theorem Inv.pinned {pins:List (Addr×Obj)} {σ:St} {H:Hp} {s:Shared} {fp:List Addr} (I:Inv X pins σ H s) (hf:∀ b∈fp,bF X pins H b) (ho:∀ b∈fp, ∃ o,s.heap.get? b=some o /\ ∀ v,o.data ≠ .cell v):Inv X (pins++gX fp s.heap) σ H s :=
 I.pins_of fun p j=>(List.mem_append.mp j).elim (fun z=>I.pin p (List.mem_append_right _ z)) fun z=>by
  obtain ⟨hb,e⟩:=qt z
  obtain ⟨f0,f1,f2,_⟩:=hf p.1 hb
  obtain ⟨o,e',d⟩:=ho p.1 hb
  rw [e] at e';cases e'
  exact ⟨e,f0,f1,f2,d⟩
theorem Inv.unpinned {pins pl:List (Addr×Obj)} {σ:St} {H:Hp} {s:Shared} (I:Inv X (pins++pl) σ H s):Inv X pins σ H s:=I.pins_of fun p j=>I.pin p (List.mem_append_right _ (List.mem_append_left _ j))
theorem ze {iter:Expr} {body:List Stmt} {wi:TI} {g:TG} {tb:TS} {pos:Pos} (F:PassesOwn (model X.prog X.w) X.A X.env X.xe) (hc:X.calm=true) (hi:PI X tg iter wi) (hg:PG X tg g) (hb:PSs X body tb)
 (hs:∀ x,foldedSetIterable iter X.env x=pure x:=by intro _;rfl):PS X (.For tg iter body [] pos) (zc wi g tb):=by
 intro pins s σ H D I h
 refine wpAny_For (thn (hi pins s σ H _ I h) fun v s1 h1=>thn h1 fun itv s2 h2 => ?_) hs
 obtain ⟨it,fp,tn,J,H2,e,I2,T,S,f2,W,⟨m0,w0⟩,turn⟩:=h2
 subst e
 have stat:∀ {H':Hp},(∀ b∈fp,H' b=none) -> ∀ b∈fp,bF X pins H' b:=fun hn b hb=>⟨hn b hb,(f2 b hb).2⟩
 refine codeAny_forLoop_any (fun n s' => ∃ i σ' H',Inv X pins σ' H' s'/\tn i s'.heap/\(∀ b∈fp,H' b=none)/\W i n σ' H') ?_ m0 ⟨0, σ,H2,I2,S,fun b hb=>(f2 b hb).1,w0⟩
 rintro n s3 ⟨i, σ3,R,I3,G,L,w3⟩
 rcases turn i n σ3 R w3 with ⟨stop,qn⟩ | ⟨go,N,hN,step⟩
 ·refine wpAny_passesOwn F (thn (T.done X rfl rfl rfl hc i pins s3 σ3 R X.xe I3 (stat L) G stop) fun r s4 ⟨hr,I4⟩ => ?_)
  subst hr
  exact wpAny_execs_nil ⟨σ3,R,I4,qn⟩
 ·refine wpAny_passesOwn F (thn (T.item X rfl rfl rfl hc i pins s3 σ3 R X.xe I3 (stat L) G go) fun r s4 ⟨u,hr,h4⟩ => ?_)
  subst hr
  refine wpAny_passesOwn F (thn h4 fun _ s5 ⟨x,H5,I5,r5,y5,B,U⟩ => ?_)
  have Y:=I5.pinned (stat U) (T.obj _ _ B)
  refine wpAny_passesOwn F (thn (hg _ s5 σ3 H5 x u _ Y r5 (step x H5 y5)) fun _ s6 ⟨σ6,H6,I6,q6⟩ => ?_)
  refine wpAny_passesOwn F (thn (hb _ s6 σ6 H6 _ I6 q6) fun f Z z => ?_)
  have again:∀ {σ7:St} {j:Hp},Inv X (pins++gX fp s5.heap) σ7 j Z->N σ7 j -> ∃ m,m < n /\ ∃ i σ' H',Inv X pins σ' H' Z/\tn i Z.heap/\(∀ b∈fp,H' b=none)/\W i m σ' H':=fun {σ7 j} q O=>by
   obtain ⟨m',hm,w7⟩:=hN σ7 j O
   refine ⟨m',hm,i+1, σ7,j,q.unpinned,T.keep _ _ _ B fun b hb o e=>(q.pin (b,o) (List.mem_append_right _ (List.mem_append_right _ (cA hb e)))).1,fun b hb => ?_,w7⟩
   obtain ⟨o,e,d⟩:=T.obj _ _ B b hb
   exact (q.pin (b,o) (List.mem_append_right _ (List.mem_append_right _ (cA hb e)))).2.1
  cases f with
  | next=>obtain ⟨σ7,j,q,O⟩:=z;exact again q O
  | cont=>obtain ⟨σ7,j,q,O⟩:=z;exact again q O
  | brk=>obtain ⟨σ7,j,q,z⟩:=z;exact ⟨σ7,j,q.unpinned,z⟩
  | ret v=>obtain ⟨x7, σ7,j,q,r7,z⟩:=z;exact ⟨x7, σ7,j,q.unpinned,r7,z⟩
end
end
section
noncomputable abbrev R2:=V->V->Hp->VK->Prop
noncomputable def OpR (X:Cx) (f:Value->Value->Sem Value) (r:R2):Prop :=
 ∀ (pins:List (Addr×Obj)) (s:Shared) (σ:St) (H:Hp) (x y:V) (v u:Value) (Q:VK),Inv X pins σ H s->RelV x v->RelV y u->r x y H Q ->
  wpAny (model X.prog X.w) X.A (f v u) (EP X pins σ Q) X.xe s
noncomputable def UnR (X:Cx) (f:Value->Sem Value) (r:V->Hp->VK->Prop):Prop :=
 ∀ (pins:List (Addr×Obj)) (s:Shared) (σ:St) (H:Hp) (x:V) (v:Value) (Q:VK),Inv X pins σ H s->RelV x v->r x H Q ->
  wpAny (model X.prog X.w) X.A (f v) (EP X pins σ Q) X.xe s
noncomputable def CallR (X:Cx) (f:Value) (r:List V->Hp->VK->Prop):Prop :=
 ∀ (pins:List (Addr×Obj)) (s:Shared) (σ:St) (H:Hp) (xs:List V) (us:List Value) (Q:VK),Inv X pins σ H s->Vals xs us->r xs H Q ->
  wpAny (model X.prog X.w) X.A (call f us) (EP X pins σ Q) X.xe s
noncomputable def Br (X:Cx) (r:V->Hp->(Bool->Hp->Prop)->Prop):Prop :=
 ∀ (pins:List (Addr×Obj)) (s:Shared) (σ:St) (H:Hp) (x:V) (v:Value) (Q:Bool->Hp->Prop),Inv X pins σ H s->RelV x v->r x H Q ->
  wpAny (model X.prog X.w) X.A (truthy v) (TP X pins σ Q) X.xe s
noncomputable def tOp (r:R2) (ta tb:TE):TE:=fun σ H Q=>ta σ H fun x H1=>tb σ H1 fun y H2=>r x y H2 Q
noncomputable def tUn (r:V->Hp->VK->Prop) (ta:TE):TE:=fun σ H Q=>ta σ H fun x H1=>r x H1 Q
noncomputable def rI (C:Int->Int->Prop) (g:Int->Int->V):R2:=fun x y H Q => ∃ i j,x = .int i/\y = .int j/\C i j/\Q (g i j) H
noncomputable def rI0 (g:Int->Int->V):R2:=fun x y H Q => ∃ i j,x = .int i/\y = .int j/\Q (g i j) H
noncomputable def rU (g:Int->V):V->Hp->VK->Prop:=fun x H Q => ∃ i,x = .int i/\Q (g i) H
section
variable {X:Cx} {a b c:Expr} {ta tb tc:TE} {pos:Pos}
theorem tE (j:PE X a ta) (hb:PE X b tb) {pins:List (Addr×Obj)} {s:Shared} {σ:St} {H:Hp} {R:V->V->Hp->Prop} (I:Inv X pins σ H s)
 (h:ta σ H fun x H1=>tb σ H1 fun y H2=>R x y H2) {Q:Value->Shared->Prop} {f:Value->Value->Sem Value}
 (hf:∀ v u s2 x y H2,Inv X pins σ H2 s2->RelV x v->RelV y u->R x y H2->wpAny (model X.prog X.w) X.A (f v u) Q X.xe s2) :
 wpAny (model X.prog X.w) X.A (eval a X.env) (fun v s₁ => wpAny (model X.prog X.w) X.A (eval b X.env) (fun u s₂ => wpAny (model X.prog X.w) X.A (f v u) Q X.xe s₂) X.xe s₁) X.xe s:=by
 refine thn (j pins s σ H _ I h) fun v s1 ⟨x,H1,n,q,z⟩ => ?_
 refine thn (hb pins s1 σ H1 _ n z) fun u s2 ⟨y,H2,B,F,G⟩ => ?_
 exact hf v u s2 x y H2 B q F G
theorem AC {op:Operator} {r:R2} (ho:OpR X (binaryOp op) r) (j:PE X a ta) (hb:PE X b tb):PE X (.BinOp a op b pos) (tOp r ta tb):=by
 intro pins s σ H Q I h
 exact wpAny_BinOp (tE j hb I h fun v u s2 x y H2 n rx ry q=>ho pins s2 σ H2 x y v u Q n rx ry q)
theorem AD {op:UnaryOp} {r:V->Hp->VK->Prop} (ho:UnR X (unaryOp op) r) (j:PE X a ta):PE X (.UnaryOp op a pos) (tUn r ta):=by
 intro pins s σ H Q I h
 exact UnaryOp_ (thn (j pins s σ H _ I h) fun v s1 ⟨x,H1,n,q,z⟩=>ho pins s1 σ H1 x v Q n q z)
theorem opI {f:Value->Value->Sem Value} {C:Int->Int->Prop} {g:Int->Int->Int}
 (rule:∀ (i j:Int) (t u:Tok) (s:Shared) (Q:Value->Shared->Prop) (E:Value->Shared->Prop),C i j->Q (.int (g i j) s.toks) { s with toks:=s.toks+1 }->wpAny (model X.prog X.w) X.A (f (.int i t) (.int j u)) Q E s) :
 OpR X f (rI C fun i j => .int (g i j)):=by
 intro pins s σ H x y v u Q I rx ry h
 obtain ⟨i,j,rfl,rfl,n,q⟩:=h
 obtain ⟨t,rfl⟩:=rx
 obtain ⟨t',rfl⟩:=ry
 exact rule i j t t' s _ _ n ⟨.int (g i j),H,I.tok _,⟨_,rfl⟩,q⟩
theorem oR {f:Value->Value->Sem Value} {g:Int->Int->Int}
 (rule:∀ (i j:Int) (t u:Tok) (s:Shared) (Q:Value->Shared->Prop) (E:Value->Shared->Prop),Q (.int (g i j) s.toks) { s with toks:=s.toks+1 }->wpAny (model X.prog X.w) X.A (f (.int i t) (.int j u)) Q E s) :
 OpR X f (rI0 fun i j => .int (g i j)):=by
 intro pins s σ H x y v u Q I rx ry h
 obtain ⟨i,j,rfl,rfl,q⟩:=h
 obtain ⟨t,rfl⟩:=rx
 obtain ⟨t',rfl⟩:=ry
 exact rule i j t t' s _ _ ⟨.int (g i j),H,I.tok _,⟨_,rfl⟩,q⟩
theorem oS {f:Value->Value->Sem Value} {g:Int->Int->Bool}
 (rule:∀ (i j:Int) (t u:Tok) (s:Shared) (Q:Value->Shared->Prop) (E:Value->Shared->Prop),Q (.bool (g i j)) s->wpAny (model X.prog X.w) X.A (f (.int i t) (.int j u)) Q E s) :
 OpR X f (rI0 fun i j => .bl (g i j)):=by
 intro pins s σ H x y v u Q I rx ry h
 obtain ⟨i,j,rfl,rfl,q⟩:=h
 obtain ⟨t,rfl⟩:=rx
 obtain ⟨t',rfl⟩:=ry
 exact rule i j t t' s _ _ ⟨.bl (g i j),H,I,rfl,q⟩
noncomputable def Bs (i j:Int):Prop := 0<=j/\j<=1000000/\i.natAbs < 2 ^ 64
theorem op_add:OpR X (binaryOp .Add) (rI0 fun i j => .int (i+j)):=oR fun _ _ _ _ _ _ _ q=>add_int q
theorem zf:OpR X (binaryOp .Sub) (rI0 fun i j => .int (i - j)):=oR fun _ _ _ _ _ _ _ q=>sub_int q
theorem zg:OpR X (binaryOp .Mod) (rI (fun _ j => 0 < j) fun i j => .int (i % j)):=opI fun i j _ _ _ _ _ n q=>by
 have h1:(0:Int) < j:=n
 exact mod_int' (by lia) (by rw [Int.fmod_eq_emod_of_nonneg i (by lia)];exact q)
theorem zh:OpR X (binaryOp .Pow) (rI Bs fun i j => .int (i ^ j.toNat)):=opI fun _ _ _ _ _ _ _ n q=>pow_int_small n.1 n.2.1 n.2.2 q
theorem wQ:OpR X (inplaceOp .Add) (rI0 fun i j => .int (i+j)):=oR fun _ _ _ _ _ _ _ q=>iadd_int q
theorem wR:OpR X (inplaceOp .Sub) (rI0 fun i j => .int (i - j)):=oR fun _ _ _ _ _ _ _ q=>isub_int q
theorem unI {f:Value->Sem Value} {g:Int->Int}
 (rule:∀ (i:Int) (t:Tok) (s:Shared) (Q:Value->Shared->Prop) (E:Value->Shared->Prop),Q (.int (g i) s.toks) { s with toks:=s.toks+1 }->wpAny (model X.prog X.w) X.A (f (.int i t)) Q E s) :
 UnR X f (rU fun i => .int (g i)):=by
 intro pins s σ H x v Q I rx h
 obtain ⟨i,rfl,q⟩:=h
 obtain ⟨t,rfl⟩:=rx
 exact rule i t s _ _ ⟨.int (g i),H,I.tok _,⟨_,rfl⟩,q⟩
theorem zi:UnR X (unaryOp .USub) (rU fun i => .int (-i)):=unI fun _ _ _ _ _ q=>neg_int q
end
section
variable {X:Cx} {a b c:Expr} {ta tb tc:TE} {pos:Pos}
theorem AE:OpR X (compareOp .Lt) (rI0 fun i j => .bl (decide (i < j))):=oS fun _ _ _ _ _ _ _ q=>lt_int q
theorem AF:OpR X (compareOp .LtE) (rI0 fun i j => .bl (decide (i<=j))):=oS fun _ _ _ _ _ _ _ q=>le_int q
theorem AG:OpR X (compareOp .Gt) (rI0 fun i j => .bl (decide (j < i))):=oS fun _ _ _ _ _ _ _ q=>gt_int q
theorem AH:OpR X (compareOp .GtE) (rI0 fun i j => .bl (decide (j<=i))):=oS fun _ _ _ _ _ _ _ q=>ge_int q
theorem OpR.or {f:Value->Value->Sem Value} {r r':R2} (h:OpR X f r) (h':OpR X f r'):OpR X f (fun x y H Q=>r x y H Q∨r' x y H Q):=by
 intro pins s σ H x y v u Q I rx ry q
 rcases q with q | q
 ·exact h pins s σ H x y v u Q I rx ry q
 ·exact h' pins s σ H x y v u Q I rx ry q
theorem wU {op:CmpOp} {r:R2} (ho:OpR X (compareOp op) r) (j:PE X a ta) (hb:PE X b tb) (hm:behindInMarks op b=false):PE X (.Compare a [op] [b] pos) (tOp r ta tb):=by
 intro pins s σ H Q I h
 exact wpAny_Compare1 (tE j hb I h fun v u s2 x y H2 n rx ry q=>ho pins s2 σ H2 x y v u Q n rx ry q) hm
noncomputable def oT (t:TE):TT:=fun σ H Q=>t σ H fun x H' => ∃ k,x = .bl k/\Q k H'
theorem wV {op:CmpOp} {r:R2} (ho:OpR X (compareOp op) r) (j:PE X a ta) (hb:PE X b tb) (hm:behindInMarks op b=false):PT X (.Compare a [op] [b] pos) (oT (tOp r ta tb)):=by
 intro pins s σ H Q I h
 refine wpAny_isTrue_Compare1 (thn (j pins s σ H _ I h) fun v s1 ⟨x,H1,n,q,B⟩=>thn (hb pins s1 σ H1 _ n B) fun u s2 ⟨y,H2,F,G,J⟩ =>
  thn (ho pins s2 σ H2 x y v u _ F q G J) fun c s3 ⟨z,L,O,R,k,e,S⟩ => ?_) hm
 subst e
 cases R
 exact wpAny_truthy_bool ⟨L,O,S⟩
noncomputable def kF (r r':R2) (ta tb tc:TE):TE:=fun σ H Q=>ta σ H fun x H1=>tb σ H1 fun y H2=>r x y H2 fun z H3 => ∃ k,z = .bl k /\
 (if k=true then tc σ H3 fun w' H4=>r' y w' H4 Q else Q (.bl false) H3)
theorem tF {op op':CmpOp} {r r':R2} (ho:OpR X (compareOp op) r) (j:OpR X (compareOp op') r') (G:PE X a ta) (hb:PE X b tb) (J:PE X c tc)
 (hm:lastMarks [op,op'] [b,c]=false:=by with_unfolding_all rfl):PE X (.Compare a [op,op'] [b,c] pos) (kF r r' ta tb tc):=by
 intro pins s σ H Q I h
 refine Compare_chain (thn (G pins s σ H _ I h) fun v s1 ⟨x,H1,L,O,R⟩=>chain_link (thn (hb pins s1 σ H1 _ L R) fun u s2 ⟨y,H2,S,n,U⟩ =>
  thn (ho pins s2 σ H2 x y v u _ S O n U) fun d s3 ⟨z,q,B,Y,k,e,F⟩ => ?_)) hm
 subst e
 cases Y
 refine wpAny_truthy_bool ?_
 cases k with
 | false=>exact ite_ff ⟨.bl false,q,B,rfl,F⟩
 | true=>exact ite_tt (chain_last (thn (J pins s3 σ q _ B F) fun w' s4 ⟨z',Z,I4,r4,q4⟩=>j pins s4 σ Z y z' u w' Q I4 n r4 q4))
theorem tG {op op':CmpOp} {r r':R2} (ho:OpR X (compareOp op) r) (j:OpR X (compareOp op') r') (G:PE X a ta) (hb:PE X b tb) (J:PE X c tc)
 (hm:lastMarks [op,op'] [b,c]=false:=by with_unfolding_all rfl):PT X (.Compare a [op,op'] [b,c] pos) (oT (kF r r' ta tb tc)):=by
 intro pins s σ H Q I h
 refine isTrue_chain (thn (G pins s σ H _ I h) fun v s1 ⟨x,H1,L,O,R⟩=>test_link (thn (hb pins s1 σ H1 _ L R) fun u s2 ⟨y,H2,S,n,U⟩ =>
  thn (ho pins s2 σ H2 x y v u _ S O n U) fun d s3 ⟨z,q,B,Y,k,e,F⟩ => ?_)) hm
 subst e
 cases Y
 refine wpAny_truthy_bool ?_
 cases k with
 | false =>
   obtain ⟨k',e',q'⟩:=F
   cases e'
   exact ite_ff ⟨q,B,q'⟩
 | true =>
   refine ite_tt (test_last (thn (J pins s3 σ q _ B F) fun w' s4 ⟨z',Z,I4,r4,q4⟩=>thn (j pins s4 σ Z y z' u w' _ I4 n r4 q4) fun d' s5 ⟨z2,H5,I5,r5,k2,e2,q5⟩ => ?_))
   subst e2
   cases r5
   exact wpAny_truthy_bool ⟨H5,I5,q5⟩
noncomputable def tH (K:Frag) (x:V) (H:Hp) (k:Bool):Prop :=
 match x with
 | .non=>k=false
 | .bl b=>k=b
 | .int i=>k=(i != 0)
 | .str y=>y.length<=sizeLine/\k=((y.length:Int) != 0)
 | .byt y=>y.size<=sizeLine/\k=((y.size:Int) != 0)
 | .ref p=>(∃ xs,SqL K H p xs/\k = !xs.isEmpty)∨(∃ xs,SqT K H p xs/\k = !xs.isEmpty) ∨ ∃ kvs,H p=some (.dK kvs)/\k = !kvs.isEmpty
 | _=>False
theorem oU {κ:Type} {kvs:List (κ × V)} {vs:List (κ × Value)} (r:KV kvs vs):(!vs.isEmpty) = !kvs.isEmpty:=by
 cases r <;> rfl
theorem gY {xs:List V} {its:List Value} (r:Vals xs its):(!its.toArray.isEmpty) = !xs.isEmpty:=by
 cases r <;> simp
theorem dI:(sizeLine:Nat) < 2 ^ 63:=by rw [sizeLine_eq];decide
theorem zj:Br X (fun x H Q => ∃ k,tH X.K x H k/\Q k H):=by
 intro pins s σ H x v Q I rx h
 obtain ⟨k,e,q⟩:=h
 have hl:=dI
 have hs:sizeLine=16777216:=sizeLine_eq
 cases x with
 | non =>
   cases rx
   have e':k=false:=e
   subst e'
   exact truthy_none ⟨H,I,q⟩
 | bl b =>
   cases rx
   have e':k=b:=e
   subst e'
   exact wpAny_truthy_bool ⟨H,I,q⟩
 | int i =>
   obtain ⟨t,rfl⟩:=rx
   have e':k=(i != 0):=e
   subst e'
   exact PySem.P.truthy_int ⟨H,I,q⟩
 | str y =>
   obtain ⟨t,rfl⟩:=rx
   obtain ⟨n,e'⟩:y.length<=sizeLine/\k=((y.length:Int) != 0):=e
   subst e'
   exact PySem.P.truthy_str (by lia) ⟨H,I.tok _,q⟩
 | byt y =>
   obtain ⟨t,rfl⟩:=rx
   obtain ⟨n,e'⟩:y.size<=sizeLine/\k=((y.size:Int) != 0):=e
   subst e'
   exact PySem.W.truthy_bytes (by lia) ⟨H,I.tok _,q⟩
 | ref p =>
   cases rx
   have e':(∃ xs,SqL X.K H p xs/\k = !xs.isEmpty)∨(∃ xs,SqT X.K H p xs/\k = !xs.isEmpty) ∨ ∃ kvs,H p=some (.dK kvs)/\k = !kvs.isEmpty:=e
   rcases e' with ⟨xs,hx,e'⟩ | ⟨xs,hx,e'⟩ | ⟨kvs,hx,e'⟩
   ·subst e'
    obtain ⟨its,r,pl,j⟩:=I.list hx
    have hlen:=r.length
    exact wpAny_truthy_list pl.isList (by simp only [List.size_toArray];lia) ⟨H,I.tok _,by rw [gY r];exact q⟩
   ·subst e'
    obtain ⟨its,r,pl,j⟩:=I.tuple hx
    have hlen:=r.length
    exact truthy_tuple pl (by simp only [List.size_toArray];lia) ⟨H,I.tok _,by rw [gY r];exact q⟩
   ·subst e'
    obtain ⟨j,z,vs,r,m⟩:kvs.length<=sizeLine/\(p==sysModules)=false /\ ∃ vs,KV kvs vs/\s.heap.DictOf (aJ X.prog X.w) p vs:=I.hok p _ hx
    have hlen:kvs.length=vs.length:=Paired.length r
    exact wpAny_truthy_dict z m (by lia) ⟨H,I.tok _,by rw [oU r];exact q⟩
 | _=>exact (show False from e).elim
theorem tI (j:PE X a ta) (he:∀ whole,isTrue a X.env whole=(do let v <- whole;standAt a.pos;holding [v] (truthy v))) :
 PT X a (fun σ H Q=>ta σ H fun x H' => ∃ k,tH X.K x H' k/\Q k H'):=by
 intro pins s σ H Q I h
 exact isTrue_plain (thn (j pins s σ H _ I h) fun v s1 ⟨x,H1,n,q,z⟩=>zj pins s1 σ H1 x v Q n q z) (he _)
theorem oV:OpR X (binaryOp .Add) (fun x y H Q => ∃ i j,x = .str i/\y = .str j/\i.length+j.length<=sizeLine/\Q (.str (i++j)) H):=by
 intro pins s σ H x y v u Q I rx ry h
 obtain ⟨i,j,rfl,rfl,n,q⟩:=h
 obtain ⟨t,rfl⟩:=rx
 obtain ⟨t',rfl⟩:=ry
 exact add_str (fun t' tk=>⟨.str (i++j),H,I.tok _,⟨_,rfl⟩,q⟩) n
theorem dl {x:V} {us:List Value} (r:Vals [x] us):∃ u,us=[u]/\RelV x u:=by
 cases r with
 | cons j n=>cases n;exact ⟨_,rfl,j⟩
theorem vT {x y:V} {us:List Value} (r:Vals [x,y] us):∃ u w',us=[u,w']/\RelV x u/\RelV y w':=by
 cases r with
 | cons j n =>
   cases n with
   | cons q z=>cases z;exact ⟨_,_,rfl,j,q⟩
theorem tJ:CallR X (.builtin "abs") (fun xs H Q => ∃ i,xs=[.int i]/\Q (.int (if i < 0 then -i else i)) H):=by
 intro pins s σ H xs us Q I r h
 obtain ⟨i,rfl,q⟩:=h
 obtain ⟨u,rfl,t,rfl⟩:=dl r
 exact call_abs_int fun u tk=>⟨.int (if i < 0 then -i else i),H,I.tok _,⟨_,rfl⟩,q⟩
theorem qu (z:X.calm=true):CallR X (.builtin "min") (fun xs H Q => ∃ i j,xs=[.int i, .int j]/\Q (.int (if j < i then j else i)) H):=by
 intro pins s σ H xs us Q I r h
 obtain ⟨i,j,rfl,q⟩:=h
 obtain ⟨u,w',rfl,⟨t,rfl⟩,⟨t',rfl⟩⟩:=vT r
 refine min_two_ints (I.ok.hd z) fun h' tk k=>⟨_,H,I.kept k, ?_,q⟩
 by_cases n:j < i
 ·rw [if_pos n,if_pos n];exact ⟨_,rfl⟩
 ·rw [if_neg n,if_neg n];exact ⟨_,rfl⟩
theorem qv:CallR X (.type "int") (fun xs H Q=>(∃ i,xs=[.int i]/\Q (.int i) H) ∨ ∃ k,xs=[.bl k]/\Q (.int (if k then 1 else 0)) H):=by
 intro pins s σ H xs us Q I r h
 rcases h with ⟨i,rfl,q⟩ | ⟨k,rfl,q⟩
 ·obtain ⟨u,rfl,t,rfl⟩:=dl r
  exact call_int_int ⟨.int i,H,I,⟨_,rfl⟩,q⟩
 ·obtain ⟨u,rfl,j⟩:=dl r
  cases j
  exact call_int_bool ⟨.int (if k then 1 else 0),H,I.tok _,⟨_,rfl⟩,q⟩
noncomputable def Bt (K:Frag) (x:V) (H:Hp) (n:Nat):Prop :=
 match x with
 | .str y=>y.length<=sizeLine/\n=y.length
 | .byt y=>y.size<=sizeLine/\n=y.size
 | .ref p=>(∃ xs,SqL K H p xs/\n=xs.length) ∨ ∃ xs,SqT K H p xs/\n=xs.length
 | _=>False
theorem tK:CallR X (.builtin "len") (fun xs H Q => ∃ x n,xs=[x]/\Bt X.K x H n/\Q (.int n) H):=by
 intro pins s σ H xs us Q I r h
 obtain ⟨x,n,rfl,e,q⟩:=h
 obtain ⟨u,rfl,rx⟩:=dl r
 have hl:=dI
 have hs:sizeLine=16777216:=sizeLine_eq
 cases x with
 | str y =>
   obtain ⟨t,rfl⟩:=rx
   obtain ⟨j,e'⟩:y.length<=sizeLine/\n=y.length:=e
   subst e'
   exact len_str (by lia) ⟨.int _,H,I.tok _,⟨_,rfl⟩,q⟩
 | byt y =>
   obtain ⟨t,rfl⟩:=rx
   obtain ⟨j,e'⟩:y.size<=sizeLine/\n=y.size:=e
   subst e'
   exact PySem.W.len_bytes (by lia) ⟨.int _,H,I.tok _,⟨_,rfl⟩,q⟩
 | ref p =>
   cases rx
   have e':(∃ xs,SqL X.K H p xs/\n=xs.length) ∨ ∃ xs,SqT X.K H p xs/\n=xs.length:=e
   rcases e' with ⟨xs,hx,e'⟩ | ⟨xs,hx,e'⟩
   ·subst e'
    obtain ⟨its,r',pl,z⟩:=I.list hx
    have hlen:=r'.length
    exact Calls.call_len_list pl.isList (by simp only [List.size_toArray];lia) ⟨.int xs.length,H,I.tok _,⟨_,by simp only [List.size_toArray];rw [hlen]⟩,q⟩
   ·subst e'
    obtain ⟨its,r',pl,z⟩:=I.tuple hx
    have hlen:=r'.length
    exact len_tuple pl (by simp only [List.size_toArray];lia) ⟨.int xs.length,H,I.tok _,⟨_,by simp only [List.size_toArray];rw [hlen]⟩,q⟩
 | _=>exact (show False from e).elim
end
end
section
structure ObjM (h:Heap) (x dx C:Addr) (mA:Str->Option Value):Prop where
 obj:h.get? x=some (PySem.W.instObj C dx)
 ns:h.Ns1 dx mA
 ne:dx≠x
theorem qw {h:Heap} {dx:Addr} {mA:Str->Option Value} (n:h.Ns1 dx mA):∃ od,h.get? dx=some od /\ ∀ name,PySem.W.lookIn name od=some (mA name):=by
 obtain ⟨o,es,ep,ho,hd,B,_,hm⟩:=n
 refine ⟨o,ho,fun name => ?_⟩
 have e:=hm name
 unfold nsFind findBy at e
 rw [<- Array.find?_toList] at e
 unfold PySem.W.lookIn
 rw [hd]
 dsimp only
 split
 ·rename_i y q
  rw [q] at e
  exact congrArg some e
 ·rename_i q
  rw [q] at e
  have a:es.toList.any (·.refKey)=false:=by
   rw [List.any_eq_false]
   intro y F
   obtain ⟨z,t,j⟩:=B y (Array.mem_toList_iff.mp F)
   simp [DictEntry.refKey,j]
  have a' : ¬ es.toList.any (·.refKey)=true:=by rw [a];exact Bool.false_ne_true
  rw [if_neg a']
  exact congrArg some e
theorem ObjM.look {h:Heap} {x dx C:Addr} {mA:Str->Option Value} (I:ObjM h x dx C mA):∃ od,PySem.W.InstAt h x (PySem.W.instObj C dx) C (some od) /\ ∀ name,PySem.W.lookIn name od=some (mA name) :=
 let ⟨od,ho,hl⟩:=qw I.ns
 ⟨od,⟨I.obj,rfl,rfl,ho⟩,hl⟩
theorem RelO.some_of {v:V} {o:Option Value} (r:RelO (some v) o):∃ u,o=some u/\RelV v u:=by
 cases o with
 | none=>exact (show False from r).elim
 | some u=>exact ⟨u,rfl,r⟩
section
variable {P:Program} {w:World} {H H':Hp} {h h':Heap} {a C dx:Addr} {fs fs':List (Str×V)}
theorem wW (hok:HOk P w H h) (e:H a=some (.ins C dx fs)):∃ mA,ObjM h a dx C mA/\(∀ f,RelO (fs.lookup f) (mA f))/\PySem.Within mA (fs.map (·.1))/\fs.length<=1000/\H dx=some (.own a):=by
 obtain ⟨d,z,ne,ob,mA,n,r,q⟩:=(show ObjOk P w H h a (.ins C dx fs) from hok a _ e)
 exact ⟨mA,⟨ob,n,ne⟩,r,q,z,d⟩
end
structure Cls (K:Frag) (C:Addr):Prop where
 pg:PySem.W.plainGet K C Str.empty=true
 hd:PySem.W.hasDictIn K C=true
 po:PySem.W.plainOver K C=true
 sa:PySem.W.findIn K (.ref C) "__setattr__" = some (some (.builtin "object.__setattr__"))
theorem Cls.get {K:Frag} {C:Addr} (c:Cls K C) (f:Str):PySem.W.plainGet K C f=true:=c.pg
section
variable {X:Cx} {pins:List (Addr×Obj)} {σ:St} {H:Hp} {s:Shared} {A:Around} {E:Value->Shared->Prop} {Q:Value->Shared->Prop} {c:Value} {b:Bool}
inductive bS (K:Frag) (H:Hp):V->Value->Prop where
 | non:bS K H .non (.type "NoneType")
 | bl (x:Bool):bS K H (.bl x) (.type "bool")
 | int (i:Int):bS K H (.int i) (.type "int")
 | str (x:Str):bS K H (.str x) (.type "str")
 | flt (x:UInt64):bS K H (.flt x) (.type "float")
 | lst {a:Addr} {xs:List V} (e:H a=some (.lst xs)):bS K H (.ref a) (.type "list")
 | frz {a:Addr} {o:Obj} {xs:List V} (e:H a=some (.frz o (.lst xs))):bS K H (.ref a) (.type "list")
 | tup {a:Addr} {xs:List V} (e:H a=some (.tup xs)):bS K H (.ref a) (.type "tuple")
 | dK {a:Addr} {kvs:List (Key×V)} (e:H a=some (.dK kvs)):bS K H (.ref a) (.type "dict")
 | dT {a:Addr} {kvs:List (List Key×V)} (e:H a=some (.dT kvs)):bS K H (.ref a) (.type "dict")
 | ins {a C dx:Addr} {fs:List (Str×V)} (e:H a=some (.ins C dx fs)) (cl:Cls K C) (ha:PySem.W.findIn K (.ref C) "__class__" = some (some (.builtin "object.__class__")))
    (hn:PySem.W.specialIn K (.builtin "object.__class__") "__get__" = some (some (.builtin "getset_descriptor.__get__"))) (htk:PySem.W.takesIn K (.builtin "object.__class__")=some true)
    (hm:PySem.W.mroIn K C (.type "object")=some true):bS K H (.ref a) (.ref C)
theorem qz {x:V} {u t:Value} (I:Inv X pins σ H s) (rx:RelV x u) (ty:bS X.K H x t) (e:PySem.W.kitOne X.K t c=some b) (h:∀ tk,Q (.bool b) { s with toks:=tk }) :
 wpAny (model X.prog X.w) A (call (.builtin "isinstance") [u,c]) Q E s:=by
 cases ty with
 | non=>cases (show u=Value.none from rx);exact PySem.W.kia_one PySem.W.kitx_none I.kIn True.intro e (fun z=>nomatch z) h
 | bl y=>cases (show u=Value.bool y from rx);exact PySem.W.kia_one PySem.W.kitx_bool I.kIn True.intro e (fun z=>nomatch z) h
 | int i=>obtain ⟨t,q⟩:=(show ∃ t,u=Value.int i t from rx);cases q;exact PySem.W.kia_one PySem.W.kitx_int I.kIn True.intro e (fun z=>nomatch z) h
 | str y=>obtain ⟨t,q⟩:=(show ∃ t,u=Value.str y t from rx);cases q;exact PySem.W.kia_one PySem.W.kitx_str I.kIn True.intro e (fun z=>nomatch z) h
 | flt y=>obtain ⟨t,q⟩:=(show ∃ t,u=Value.float y t from rx);cases q;exact PySem.W.kia_one PySem.W.kitx_float I.kIn True.intro e (fun z=>nomatch z) h
 | @lst a xs ea =>
  cases (show u=Value.ref a from rx)
  obtain ⟨_,_,n,_,h1⟩:=(show ObjOk X.prog X.w H s.heap a (.lst xs) from I.hok a _ ea)
  exact PySem.W.kia_one PySem.W.kitx_list I.kIn ⟨_,h1,rfl⟩ e (fun z=>nomatch z) h
 | @frz a ob xs ea =>
  cases (show u=Value.ref a from rx)
  obtain ⟨_,_,_,n,_,h1⟩:=(show ObjOk X.prog X.w H s.heap a (.frz ob (.lst xs)) from I.hok a _ ea)
  exact PySem.W.kia_one PySem.W.kitx_list I.kIn ⟨_,h1,rfl⟩ e (fun z=>nomatch z) h
 | @tup a xs ea =>
  cases (show u=Value.ref a from rx)
  obtain ⟨_,_,_,p⟩:=(show ObjOk X.prog X.w H s.heap a (.tup xs) from I.hok a _ ea)
  obtain ⟨o,h1,h2,_⟩:=p
  exact PySem.W.kia_one PySem.W.kitx_tuple I.kIn ⟨o,h1,h2⟩ e (fun z=>nomatch z) h
 | @dK a kvs ea =>
  cases (show u=Value.ref a from rx)
  obtain ⟨_,_,vs,_,p⟩:=(show ObjOk X.prog X.w H s.heap a (.dK kvs) from I.hok a _ ea)
  obtain ⟨o,es,ep,h1,h2,_⟩:=p
  exact PySem.W.kia_one PySem.W.kitx_dict I.kIn ⟨o,h1,h2.1⟩ e (fun z=>nomatch z) h
 | @dT a kvs ea =>
  cases (show u=Value.ref a from rx)
  obtain ⟨_,_,xs,_,o,es,ep,h1,h2,_⟩:=(show ObjOk X.prog X.w H s.heap a (.dT kvs) from I.hok a _ ea)
  exact PySem.W.kia_one PySem.W.kitx_dict I.kIn ⟨o,h1,h2.1⟩ e (fun z=>nomatch z) h
 | @ins a C dx fs ea cl ha hn htk hm =>
  cases (show u=Value.ref a from rx)
  obtain ⟨mA,O,_⟩:=wW I.hok ea
  obtain ⟨od,J,_⟩:=O.look
  exact PySem.W.kia_one (PySem.W.kitx_own (cl.get _) cl.hd ha hn htk hm) I.kIn J e (fun z=>nomatch z) h
end
end
section
structure Room (k:Nat) (A:Around):Prop where
 hd:A.handled=none
 dp:A.depth+3*k+5 < recursionLimit
 un:A.units+16*k+200 < cLine
theorem Room.deeper {k:Nat} {A:Around} (r:Room (k+1) A) (env:Env):Room k (A.deeper env) :=
 ⟨r.hd,by have:=r.dp;show A.depth+1+3*k+5 < _;lia,by have:=r.un;show A.units+3+16*k+200 < _;lia⟩
theorem Room.depth {k:Nat} {A:Around} (r:Room k A):A.depth < recursionLimit:=by have:=r.dp;lia
theorem Room.units {k:Nat} {A:Around} (r:Room k A):A.units+64 < cLine:=by have:=r.un;lia
noncomputable def zk:TA:=fun _ H Q=>Q [] H
noncomputable def vU (ta:TE) (tr:TA):TA:=fun σ H Q=>ta σ H fun x H1=>tr σ H1 fun xs H2=>Q (x::xs) H2
section
variable {X:Cx} {e:Expr} {es:List Expr} {te:TE} {t:TA} {pos:Pos}
theorem qA:PA X [] zk:=fun _ _ _ _ H Q I h=>Calls.spliced_nil ⟨[],H,I, .nil,h⟩
theorem j0 (j:PE X e te) (hr:PA X es t) (hs:starEach (e::es) X.env=(false,eval e X.env)::starEach es X.env:=by rfl):PA X (e::es) (vU te t):=by
 intro pos pins s σ H Q I h
 rw [hs]
 show wpAny _ _ (spliced ((false,eval e X.env)::backTo pos (starEach es X.env))) _ _ s
 refine Calls.spliced_cons (thn (j pins s σ H _ I h) fun u s1 ⟨x,H1,n,q,z⟩ => ?_)
 exact thn (hr pos pins s1 σ H1 _ n z) fun us s2 ⟨xs,H2,B,F,G⟩=>⟨x::xs,H2,B, .cons q F,G⟩
noncomputable def Bu (t:TA):TE:=fun σ H Q=>t σ H fun xs H1=>xs.length<=sizeLine /\ ∀ p,H1 p=none->Q (.ref p) (upd H1 p (.tup xs))
noncomputable def Bv (t:TA):TE:=fun σ H Q=>t σ H fun xs H1=>xs.length<=sizeLine /\ ∀ p,H1 p=none->Q (.ref p) (upd H1 p (.lst xs))
theorem zm {n} (h:PA X es t):PE X (.Tuple es n pos) (Bu t):=by
 intro pins s σ H Q I hq
 refine wpAny_Tuple_spliced (thn (h pos pins s σ H _ I hq) fun us s1 ⟨xs,H1,j,r,z,q⟩=>⟨by rw [<- r.length];exact z, ?_⟩)
 have hf:H1 s1.heap.objs.size=none:=j.hok.fresh (Nat.le_refl _)
 refine ⟨.ref s1.heap.objs.size,upd H1 s1.heap.objs.size (.tup xs),j.laid (t':=s1.toks) (fun b u e=>Heap.get?_push_of_some _ e) (Nat.le_refl _) ?_,rfl,q _ hf⟩
 exact ⟨z,us,r,⟨_,Heap.get?_push_size _ rfl,rfl,_,rfl⟩⟩
theorem zn (h:PA X es t):PE X (.List es pos) (Bv t):=by
 intro pins s σ H Q I hq
 refine wpAny_List_spliced (thn (h pos pins s σ H _ I hq) fun us s1 ⟨xs,H1,j,r,z,q⟩=>⟨by rw [<- r.length];exact z, ?_⟩)
 have hf:H1 s1.heap.objs.size=none:=j.hok.fresh (Nat.le_refl _)
 refine ⟨.ref s1.heap.objs.size,upd H1 s1.heap.objs.size (.lst xs),j.laid (t':=s1.toks) (fun b u e=>Heap.get?_push_of_some _ e) (Nat.le_refl _) ?_,rfl,q _ hf⟩
 exact ⟨z,us,0,r,Heap.get?_push_size _ rfl⟩
end
noncomputable abbrev Sp:=List V->Hp->VK->XK->Prop
noncomputable abbrev CXT:=List Env->Hp->Shared->XK->Value->Shared->Prop
structure oW (P:Program) (w:World) (K:Frag) (mg:Str->Option Value) (base:Heap) (A:Around) (outer:List Env) (s:Shared) (H:Hp):Prop where
 frames:A.frames=some outer
 mod:Mod K mg base
 bs:∀ b o,base.get? b=some o->s.heap.get? b=some o/\H b=none
 bsz:base.objs.size<=s.heap.objs.size
 funs:s.heap.FunFrames base outer
 frf:∀ b∈frs outer,H b=none
 hok:HOk P w H s.heap
 bare:AllBare s.gens
noncomputable def CE (outer:List Env) (P:Program) (w:World) (H:Hp) (s:Shared) (Q:VK) (u:Value) (s':Shared):Prop :=
 ∃ v H',s'.os=s.os/\AllBare s'.gens/\Un (frs outer) [] H H' s.heap s'.heap/\HOk P w H' s'.heap/\RelV v u/\Q v H'
noncomputable def CR (CX:CXT) (outer:List Env) (P:Program) (w:World) (H:Hp) (s:Shared) (Q:VK) (E:XK) (r:Result) (s':Shared):Prop :=
 match r with
 | .ok (.ret u)=>CE outer P w H s Q u s'
 | .ok _=>False
 | .error e=>CX outer H s E e s'
structure cT (P:Program) (w:World) (K:Frag) (mg:Str->Option Value) (base:Heap) (CX:CXT) (k:Nat) (f:Addr) (fd:FuncData) (ps:List Str) (sp:Sp):Prop where
 len:∀ vs H Q E,sp vs H Q E->vs.length=ps.length
 run:∀ (A:Around) (outer:List Env) (s:Shared) (H:Hp) (args:Args) (us:List Value) (vs:List V) (Q:VK) (E:XK),Room k A->oW P w K mg base A outer s H->BindsTo s fd args (ps.zip us)->Vals vs us->sp vs H Q E ->
  codeAny (model P w) A (.call (.ref f) args) (CR CX outer P w H s Q E) s
section
variable {X:Cx} {pins:List (Addr×Obj)} {σ:St} {H:Hp} {s s':Shared}
theorem Inv.env0 (I:Inv X pins σ H s):oW X.prog X.w X.K X.mg X.base X.A X.stack s H :=
 ⟨I.ok.frames,I.ok.mod,I.bs,Nat.le_trans I.ok.bsz I.sz,I.stack,I.stkFree,I.hok,I.bare⟩
theorem Inv.after {Q:VK} {u:Value} (I:Inv X pins σ H s) (h:CE X.stack X.prog X.w H s Q u s'):EP X pins σ Q u s':=by
 obtain ⟨v,H',os,bare,un,hok,r,q⟩:=h
 obtain ⟨j,g,d,t,os'⟩:=s'
 obtain rfl:os'=s.os:=os
 exact ⟨v,H',I.call (h':=j) (g':=g) (d':=d) (t':=t) (ch := []) un hok bare (fun b z=>absurd z (by simp)),r,q⟩
end
noncomputable def vW (sp:Sp) (dvs:List V) (E:XK) (t:TA):TE:=fun σ H Q=>t σ H fun vs H1=>sp (vs++dvs) H1 Q E
noncomputable def Binds (K:Frag) (fd:FuncData) (ps:List Str) (ds:List Value):Prop :=
 ∀ (s:Shared) (us:List Value),K.In s.heap->(us++ds).length=ps.length->BindsTo s fd ⟨us,[]⟩ (ps.zip (us++ds))
theorem Binds.all {K:Frag} {fd:FuncData} {ps:List Str} (h:∀ us:List Value,us.length=ps.length->bindArgs fd ⟨us,[]⟩=pure (ps.zip us)):Binds K fd ps []:=fun s us _ hl=>by
 rw [List.append_nil] at hl ⊢
 exact .of_eq (h us hl)
noncomputable def gZ (CX:CXT) (X:Cx) (E:XK):Prop := ∀ (pins:List (Addr×Obj)) (σ:St) (H:Hp) (s:Shared) (e:Value) (s':Shared),Inv X pins σ H s->CX X.stack H s E e s'->X.xe e s'
section
variable {X:Cx} {CX:CXT} {k:Nat} {f C:Addr} {fd:FuncData} {ps:List Str} {sp:Sp} {dvs:List V} {ds:List Value} {E:XK} {x m:Str} {p pos apos:Pos} {e o:Expr} {es:List Expr} {ta:TE} {t:TA}
theorem qB {pins:List (Addr×Obj)} {σ:St} {H:Hp} {s:Shared} {Q:VK} {us:List Value} {vs:List V} (F:cT X.prog X.w X.K X.mg X.base CX k f fd ps sp) (hr:Room k X.A) (hb:Binds X.K fd ps ds) (hd:Vals dvs ds) (hx:gZ CX X E)
 (I:Inv X pins σ H s) (r:Vals vs us) (h:sp (vs++dvs) H Q E):wpAny (model X.prog X.w) X.A (call (.ref f) us) (EP X pins σ Q) X.xe s:=by
 have n:Vals (vs++dvs) (us++ds):=r.append hd
 have hl:(us++ds).length=ps.length:=by rw [<- n.length];exact F.len _ _ _ _ h
 refine wpAny_call (codeAny_mono (F.run X.A X.stack s H ⟨us,[]⟩ (us++ds) (vs++dvs) Q E hr I.env0 (hb s us I.kIn hl) n h) fun r s' j => ?_)
 cases r with
 | error e=>exact hx pins σ H s e s' I j
 | ok fl =>
   cases fl with
   | ret u=>exact I.after j
   | next=>exact False.elim j
   | brk=>exact False.elim j
   | cont=>exact False.elim j
theorem wX (F:cT X.prog X.w X.K X.mg X.base CX k f fd ps sp) (hr:Room k X.A) (B:Gl X x) (hm:X.mg x=some (.ref f)) (G:PySem.W.keepIn X.K (.ref f)=true) (hb:Binds X.K fd ps ds) (hd:Vals dvs ds) (hx:gZ CX X E)
 (J:PA X (e::es) t) (j:(x==("__debug__":Str))=false:=by decide) (he:starEach (e::es) X.env=(false,eval e X.env)::starEach es X.env:=by rfl) (n:(backTo pos (starEach es X.env)).any (·.1)=false:=by rfl) :
 PE X (.Call (.Name x p) (e::es) [] pos) (vW sp dvs E t):=by
 intro pins s σ H Q I h
 refine wpAny_Call_Name_kw (iY I B hm ?_ j)
 refine PySem.W.callWith_K (h₀ := X.base) I.ok.mod.kin G (thn (J pos pins s σ H _ I h) fun us s1 ⟨vs,H1,z,r,q⟩=>⟨z.kIn, ?_⟩) he n
 exact qB F hr hb hd hx z r q
theorem tL (F:cT X.prog X.w X.K X.mg X.base CX k f fd ps sp) (hr:Room k X.A) (n:Gl X x) (hm:X.mg x=some (.ref f)) (q:PySem.W.keepIn X.K (.ref f)=true) (hb:Binds X.K fd ps ds) (hd:Vals dvs ds) (hx:gZ CX X E)
 (j:(x==("__debug__":Str))=false:=by decide):PE X (.Call (.Name x p) [] [] pos) (vW sp dvs E zk):=by
 intro pins s σ H Q I h
 refine wpAny_Call_Name_kw (iY I n hm ?_ j)
 exact PySem.W.callWith_K0 I.kIn q (qB (us := []) F hr hb hd hx I .nil h)
end
structure fI (N P:List Str) (sc:Scope):Prop where
 kind:sc.kind = .function
 co:sc.isCoroutine=false
 gen:sc.isGenerator=false
 nd:N.Nodup
 pre:N.take P.length=P
 par:∀ x∈P,sc.names.lookup x=some .local∨sc.names.lookup x=some .cell
 nofree:∀ y∈sc.names,y.2 ≠ .free
theorem jv {kindOf:Str->Option NameKind} {x:Str}:∀ {binds:List (Str×Value)} {m:Str->Option Value},(∀ v,(x,v)∉binds)->bindL kindOf binds m x=m x
 | [],_,_=>rfl
 | (n,v)::r,m,h=>by
  unfold bindL
  rw [jv fun w hw=>h w (List.mem_cons_of_mem _ hw)]
  split
  ·have:x≠n:=by rintro rfl;exact h v List.mem_cons_self
   simp [this]
  ·rfl
theorem jw {kindOf:Str->Option NameKind} {x:Str}:∀ {binds:List (Str×Value)} {m:Str->Option Value},(∀ v,(x,v)∉binds)->bindC kindOf binds m x=m x
 | [],_,_=>rfl
 | (n,v)::r,m,h=>by
  unfold bindC
  rw [jw fun w hw=>h w (List.mem_cons_of_mem _ hw)]
  split
  ·rfl
  ·have:x≠n:=by rintro rfl;exact h v List.mem_cons_self
   simp [this]
theorem jx {kindOf:Str->Option NameKind} {x:Str} {v:Value}:∀ {P:List Str} {vs:List Value} {i:Nat} {m:Str->Option Value},P.Nodup->P[i]? = some x->vs[i]? = some v->kindOf x=some .local ->
 bindL kindOf (P.zip vs) m x=some v
 | [],_,_,_,_,h,_,_=>by simp at h
 | _::_,[],_,_,_,_,h,_=>by simp at h
 | p::P,w::vs,0,m,nd,h1,h2,j=>by
   simp at h1 h2;subst h1;subst h2
   show bindL kindOf ((p,w)::P.zip vs) m p=_
   unfold bindL
   rw [jv fun v n=>(List.nodup_cons.mp nd).1 (List.of_mem_zip n).1,if_pos j]
   simp
 | p::P,w::vs,i+1,m,nd,h1,h2,j=>by
   show bindL kindOf ((p,w)::P.zip vs) m x=_
   unfold bindL
   exact jx (i:=i) (List.nodup_cons.mp nd).2 (by simpa using h1) (by simpa using h2) j
theorem jy {kindOf:Str->Option NameKind} {x:Str} {v:Value}:∀ {P:List Str} {vs:List Value} {i:Nat} {m:Str->Option Value},P.Nodup->P[i]? = some x->vs[i]? = some v->kindOf x≠some .local ->
 bindC kindOf (P.zip vs) m x=some v
 | [],_,_,_,_,h,_,_=>by simp at h
 | _::_,[],_,_,_,_,h,_=>by simp at h
 | p::P,w::vs,0,m,nd,h1,h2,j=>by
   simp at h1 h2;subst h1;subst h2
   show bindC kindOf ((p,w)::P.zip vs) m p=_
   unfold bindC
   rw [jw fun v n=>(List.nodup_cons.mp nd).1 (List.of_mem_zip n).1,if_neg j]
   simp
 | p::P,w::vs,i+1,m,nd,h1,h2,j=>by
   show bindC kindOf ((p,w)::P.zip vs) m x=_
   unfold bindC
   exact jy (i:=i) (List.nodup_cons.mp nd).2 (by simpa using h1) (by simpa using h2) j
noncomputable def ce (N:List Str) (vs:List V):St:=vs.map some++List.replicate (N.length - vs.length) none
noncomputable def gm (CX:CXT) (P:Program) (w:World) (K:Frag) (mg:Str->Option Value) (base:Heap) (N:List Str) (qual:Str) (scope:Scope) (f:Addr) (cd:Value) (A:Around) (outer:List Env) (s:Shared) (H:Hp) (E:XK):Cx where
 prog:=P
 w:=w
 K:=K
 mg:=mg
 base:=base
 A:=A.deeper (envOfC qual scope s.heap.objs.size f cd)
 N:=N
 s₀ := s
 H₀ := H
 env:=envOfC qual scope s.heap.objs.size f cd
 outer:=outer
 stack:=envOfC qual scope s.heap.objs.size f cd::outer
 ex := []
 calm:=true
 fn:=fun _=>true
 pn := []
 xe:=fun e s'=>wpAny (model P w) (A.deeper (envOfC qual scope s.heap.objs.size f cd)) (leaving (envOfC qual scope s.heap.objs.size f cd) e) (fun _ s''=>CX outer H s E e s'') (fun e' s''=>CX outer H s E e' s'') s'
theorem kG {sc:Scope} {n:Nat} {x:Str} (h:sc.names.lookup x=some .cell):∃ c,(cellsFrom n sc.names []).lookup x=some c:=by
 have q:=PySem.W.cellsFrom_some sc.names n [] (.inl h)
 exact Option.isSome_iff_exists.mp q
theorem qC {CX:CXT} {P:Program} {w:World} {K:Frag} {mg:Str->Option Value} {base:Heap} {N ps:List Str} {qual:Str} {scope:Scope} {f:Addr} {cd:Value} {A:Around} {outer:List Env} {s s1:Shared} {H:Hp} {E:XK} {us:List Value} {vs:List V}
 (S:fI N ps scope) (hd:A.handled=none) (j:oW P w K mg base A outer s H) (hl:vs.length=ps.length) (r:Vals vs us)
 (x:InCallC s s.heap.objs.size (bindL (envOfC qual scope s.heap.objs.size f cd).kindOf (ps.zip us) fun _=>none) (cellsFrom (s.heap.objs.size+1) scope.names []) (bindC (envOfC qual scope s.heap.objs.size f cd).kindOf (ps.zip us) fun _=>none) s1) :
 Inv (gm CX P w K mg base N qual scope f cd A outer s H E) [] (ce N vs) H s1:=by
 have J:ps.length<=N.length:=by have:=congrArg List.length S.pre;rw [List.length_take] at this;lia
 obtain ⟨h1,tk,rfl,G⟩:=x.done
 have noA:∀ b:Addr,b∉(gm CX P w K mg base N qual scope f cd A outer s H E).ex:=fun b z=>absurd (show b∈([]:List Addr) from z) (by simp)
 refine ⟨⟨j.mod,S.kind,rfl,rfl,Nat.le_refl _,fun y z c h1 h2 => ?_,fun y B => ?_,fun y c _ h => ?_,fun _=>hd,Around.frames_deeper j.frames, .inr ⟨rfl,rfl⟩,fun b z=>absurd z (noA b),j.bs,j.bsz,fun b _ _=>noA b,fun b z=>absurd z (noA b),j.funs,j.frf⟩,
  rfl,j.bare,Un.kept G,⟨_,x.toInCall.ns,fun i y v h1 h2 O => ?_⟩,fun y c h=>⟨_,x.cell y c h⟩,j.hok.fresh (Nat.le_refl _),fun y c h => ?_,fun p F=>absurd (show p∈([]:List (Addr×Obj)) from F) (by simp),j.hok.kept G, ?_⟩
 ·exact name_of_addr x.apart (PySem.mem_of_lookup h1) (PySem.mem_of_lookup h2)
 ·have B:scope.names.lookup y=some .cell∨scope.names.lookup y=some .free:=B
  rcases B with B | B
  ·exact kG B
  ·exact absurd rfl (S.nofree _ (PySem.mem_of_lookup B))
 ·exact Nat.le_of_lt (x.above y c (PySem.mem_of_lookup h))
 ·have hi:i < vs.length:=by
   unfold ce at h2
   by_cases hi:i < vs.length
   ·exact hi
   ·rw [List.getElem?_append_right (by simpa using hi)] at h2
    rw [List.getElem?_replicate] at h2
    split at h2 <;> cases h2
  have L:vs[i]? = some v:=by
   unfold ce at h2
   rw [List.getElem?_append_left (by simpa using hi),List.getElem?_map] at h2
   cases e:vs[i]? with
   | none=>rw [e] at h2;cases h2
   | some a=>rw [e] at h2;cases h2;rfl
  obtain ⟨u,I,rv⟩:=r.get L
  have F:ps[i]? = some y:=by
   rw [<- S.pre,List.getElem?_take_of_lt (by lia)];exact h1
  have ndP:ps.Nodup:=by rw [<- S.pre];exact S.nd.sublist (List.take_sublist _ _)
  refine ⟨u,rv, ?_⟩
  rcases S.par y (List.mem_of_getElem? F) with k | k
  ·exact .inl ⟨k,jx ndP F I k⟩
  ·obtain ⟨c,e⟩:=kG (n:=s.heap.objs.size+1) k
   refine .inr ⟨.inl k,c,e, ?_⟩
   have q:=x.cell y c e
   rw [jy ndP F I (by show scope.names.lookup y≠_;rw [k];decide)] at q
   exact q
 ·exact j.hok.fresh (Nat.le_of_lt (x.above y c (PySem.mem_of_lookup h)))
 ·unfold ce
  show _=N.length
  rw [List.length_append,List.length_map,List.length_replicate]
  lia
theorem AI {CX:CXT} {P:Program} {w:World} {K:Frag} {mg:Str->Option Value} {base:Heap} {k:Nat} {f:Addr} {name qual:Str} {params:Arguments} {body:List Stmt} {scope:Scope} {dV kV doc pm cdv ct oc:Value} {an od:Option Addr}
 {osl:Array (Option Value)} {N ps:List Str} {sp:Sp} (lk:K.lookup f=some ⟨oc,od, .func (PySem.W.fnOf name qual params body scope dV kV doc pm an cdv ct),osl⟩) (G:PySem.W.codeIn K cdv qual=true) (S:fI N ps scope)
 (len:∀ vs H Q E,sp vs H Q E->vs.length=ps.length)
 (j:∀ (A:Around) (outer:List Env) (s:Shared) (H:Hp) (vs:List V) (Q:VK) (E:XK),Room k (A.deeper (envOfC qual scope s.heap.objs.size f cdv))->sp vs H Q E ->
   ∃ t,PSs (gm CX P w K mg base N qual scope f cdv A outer s H E) body t/\t { nx:=fun _ H'=>Q .non H',rt:=Q } (ce N vs) H) :
 cT P w K mg base CX (k+1) f (PySem.W.fnOf name qual params body scope dV kV doc pm an cdv ct) ps sp:=by
 refine ⟨len,fun A outer s H args us vs Q E hr B hb r F => ?_⟩
 have hl:=len _ _ _ _ F
 have KX:K.In s.heap:=B.mod.kin.keeps fun b o e=>(B.bs b o e).1
 have lim:s.heap.NoLimit:=B.mod.nolimit.keeps fun b o e=>(B.bs b o e).1
 have z:∀ y∈ps.zip us,scope.names.lookup y.1=some .local∨(scope.names.lookup y.1=some .cell/\((cellsFrom (s.heap.objs.size+1) scope.names []).lookup y.1).isSome=true):=fun ⟨n,v⟩ hy=>by
  rcases S.par n (List.of_mem_zip hy).1 with q | q
  ·exact .inl q
  ·exact .inr ⟨q,PySem.W.cellsFrom_some _ _ _ (.inl q)⟩
 refine codeAny_call_function hr.depth (KX _ _ lk) rfl S.co S.gen rfl (PySem.W.codeRec_of KX G) (hb _ _ _ _ ?_)
 refine wpAny_newFunctionEnv_cells S.kind z fun env he s1 x => ?_
 subst he
 refine ⟨lim.keeps x.toInCall.keep,codeAny_func ?_⟩
 obtain ⟨t,L,O⟩:=j A outer s H vs Q E (hr.deeper _) F
 have I:Inv (gm CX P w K mg base N qual scope f cdv A outer s H E) [] (ce N vs) H s1:=qC S hr.hd B hl r x
 refine wpAny_mono (L [] s1 (ce N vs) H _ I O) (fun fl s' hs => ?_) fun e s' hs=>hs
 have fin:∀ {σ':St} {H':Hp} {v:V} {u:Value},Inv (gm CX P w K mg base N qual scope f cdv A outer s H E) [] σ' H' s'->RelV v u->Q v H'->CE outer P w H s Q u s' :=
  fun {σ' H' v u} J rv q=>⟨v,H',J.os,J.bare,J.base,J.hok,rv,q⟩
 cases fl with
 | ret u =>
   obtain ⟨v, σ',H',J,rv,q⟩:=hs
   exact fin J rv q
 | next =>
   obtain ⟨σ',H',J,q⟩:=hs
   exact fin (v:=V.non) (u:=Value.none) J rfl q
 | brk =>
   obtain ⟨_,_,_,q⟩:=hs
   exact False.elim q
 | cont =>
   obtain ⟨_,_,_,q⟩:=hs
   exact False.elim q
end
section
section
variable {X:Cx} {x:Str} {p pos:Pos} {e:Expr} {es:List Expr} {t:TA} {id T:String} {r:List V->Hp->VK->Prop}
noncomputable def tCB (r:List V->Hp->VK->Prop) (t:TA):TE:=fun σ H Q=>t σ H fun vs H1=>r vs H1 Q
theorem bO (q:CallR X (.builtin id) r) (z:Gl X x) (hm:X.mg x=none) (B:bootBuiltins x=some (.builtin id)) (F:PA X (e::es) t) (G:x ≠ "__name__" := by decide) (j:(x==("__debug__":Str))=false:=by decide)
 (he:starEach (e::es) X.env=(false,eval e X.env)::starEach es X.env:=by rfl) (n:(backTo pos (starEach es X.env)).any (·.1)=false:=by rfl):PE X (.Call (.Name x p) (e::es) [] pos) (tCB r t):=by
 intro pins s σ H Q I h
 refine wpAny_Call_Name_kw (cS I z hm B ?_ G j)
 exact PyProof.Rows.callWith_builtin1 (thn (F pos pins s σ H _ I h) fun us s1 ⟨vs,H1,J,L,O⟩=>q pins s1 σ H1 vs us Q J L O) he n
theorem eU (q:CallR X (.type T) r) (z:Gl X x) (hm:X.mg x=none) (B:bootBuiltins x=some (.type T)) (F:PA X (e::es) t) (G:x ≠ "__name__" := by decide) (j:(x==("__debug__":Str))=false:=by decide)
 (he:starEach (e::es) X.env=(false,eval e X.env)::starEach es X.env:=by rfl) (n:(backTo pos (starEach es X.env)).any (·.1)=false:=by rfl):PE X (.Call (.Name x p) (e::es) [] pos) (tCB r t):=by
 intro pins s σ H Q I h
 refine wpAny_Call_Name_kw (cS I z hm B ?_ G j)
 exact PyProof.Rows.callWith_type1 (thn (F pos pins s σ H _ I h) fun us s1 ⟨vs,H1,J,L,O⟩=>q pins s1 σ H1 vs us Q J L O) he n
end
end
end L2
namespace HT
open PySem PyProof.Rows
section
variable {prog:Program} {w:World} {A:Around} {E:Value->Shared->Prop} {s:Shared}
theorem cat_tup {t b:Addr} {vs ws:List Value} {Q:Value->Shared->Prop} (O:IsTup s.heap t vs.toArray) (hb:IsTup s.heap b ws.toArray) (G:vs≠[])
 (h1:ws=[]->Q (.ref t) s) (h2:ws≠[]->Q (.ref s.heap.objs.size) { s with heap:=s.heap.push { cls := .type "tuple",data := .seq (vs++ws).toArray } })
 (hsz:vs.length+ws.length<=sizeLine):wpAny (model prog w) A (binaryOp .Add (.ref t) (.ref b)) Q E s:=by
 obtain ⟨⟨cls,dd,data,sl⟩,ho,I,n,hd⟩:=id O
 obtain ⟨⟨J,q,data2,z⟩,j,B,L,hd2⟩:=id hb
 simp only at I hd B hd2
 subst I hd B hd2
 have e:vs.toArray++ws.toArray=(vs++ws).toArray:=by simp
 by_cases hw:ws=[]
 ·exact concat_meets ⟨_,ho,rfl⟩ ⟨_,j,rfl⟩ noFill_tuple_add seq_tuple_add PySem.F.slot_tuple_add PySem.F.entry_tuple_add (PySem.F.args_tuple_add_2 _ _)
   (tuple_addW1 t b vs.toArray ws.toArray n L dd q sl z (by simpa using G) (by simp [hw])) ⟨ho,j,h1 hw⟩
 ·refine concat_meets ⟨_,ho,rfl⟩ ⟨_,j,rfl⟩ noFill_tuple_add seq_tuple_add PySem.F.slot_tuple_add PySem.F.entry_tuple_add (PySem.F.args_tuple_add_2 _ _)
   (tuple_addW2 t b vs.toArray ws.toArray n L dd q sl z (by simpa using G) (by simpa using hw) (by rw [List.size_toArray,List.size_toArray];exact hsz)) ⟨ho,j, ?_⟩
  rw [e]
  exact h2 hw
noncomputable def sIx (n d:Nat):Option Int->Nat
 | none=>d
 | some v=>if v < 0 then (v+(n:Int)).toNat else min v.toNat n
theorem zo (n d:Nat) (hd:d<=n) (o:Option Int):sIx n d o<=n:=by
 cases o with
 | none=>exact hd
 | some v =>
   show (if v < 0 then (v+(n:Int)).toNat else min v.toNat n)<=n
   by_cases hv:v < 0
   ·rw [if_pos hv];lia
   ·rw [if_neg hv];exact Nat.min_le_right _ _
theorem nG (v:Int) (n d:Nat):(if v < 0 then max (v+(n:Int)) 0 else min v (n:Int))=((sIx n d (some v):Nat):Int):=by
 show (if v < 0 then max (v+(n:Int)) 0 else min v (n:Int))=(((if v < 0 then (v+(n:Int)).toNat else min v.toNat n):Nat):Int)
 by_cases hv:v < 0
 ·simp only [if_pos hv];lia
 ·simp only [if_neg hv];lia
theorem oZ (lo hi:Option Int) (n:Nat):Builtin.Slice.sliceAdjust lo hi 1 (n:Int)=(((sIx n 0 lo:Nat):Int),((sIx n n hi:Nat):Int)):=by
 have h1 : ¬ ((1:Int) < 0):=by lia
 unfold Builtin.Slice.sliceAdjust
 simp only [h1,if_false]
 refine Prod.ext ?_ ?_
 ·cases lo with
  | none=>rfl
  | some v=>exact nG v n 0
 ·cases hi with
  | none=>rfl
  | some v=>exact nG v n n
theorem p0 (i j:Nat):Builtin.Slice.slicePlaces (i:Int) (j:Int) 1=j - i:=by
 unfold Builtin.Slice.slicePlaces
 have h1:(1:Int) > 0:=by lia
 simp only [h1,if_true,Int.ediv_one]
 split <;> lia
theorem hJ {v:Value} {o:Option Int} {Q:Option Int->Shared->Prop} (p:IsPart v o) (h:Q o s):wpAny (model prog w) A (Builtin.Slice.slicePartIndex v) Q E s:=by
 cases p with
 | none=>exact slicePart_none h
 | int i t=>exact slicePart_int h
theorem cU {sl:Addr} {vl vu:Value} {lo hi:Option Int} {n:Nat} {Q:Int×Int×Nat->Shared->Prop} (hs:s.heap.IsSliceOf sl vl vu .none) (pl:IsPart vl lo) (pu:IsPart vu hi)
 (h:Q (((sIx n 0 lo:Nat):Int),1,sIx n n hi - sIx n 0 lo) s):wpAny (model prog w) A (Builtin.Slice.sliceApplied (.ref sl) (pure (n:Int))) Q E s:=by
 obtain ⟨os,j,z,q⟩:=id hs
 unfold Builtin.Slice.sliceApplied Builtin.Slice.sliceFields
 refine wpAny_bind (wpAny_bind (wpAny_field j q (x:=vl) rfl (wpAny_bind (wpAny_field j q (x:=vu) rfl (wpAny_bind (wpAny_field j q (x := .none) rfl (wpAny_pure ?_)))))))
 refine wpAny_bind (slicePart_none ?_)
 show wpAny _ _ (if ((1:Int)==0)=true then _ else _) _ _ s
 rw [if_neg (by decide)]
 refine wpAny_bind (hJ pl (wpAny_bind (hJ pu (wpAny_bind (wpAny_pure ?_)))))
 show wpAny _ _ (match Builtin.Slice.sliceAdjust lo hi 1 (n:Int) with | (lo,hi)=>pure (lo,(1:Int),Builtin.Slice.slicePlaces lo hi 1)) _ _ s
 rw [oZ lo hi n]
 show wpAny _ _ (pure (((sIx n 0 lo:Nat):Int),(1:Int),Builtin.Slice.slicePlaces ((sIx n 0 lo:Nat):Int) ((sIx n n hi:Nat):Int) 1)) _ _ s
 rw [p0]
 exact wpAny_pure h
theorem tM (xs:Array Value) (i k:Nat):((List.range k).filterMap fun (m:Nat)=>xs[((i:Int)+(m:Int)*1).toNat]?).toArray=((xs.toList.drop i).take k).toArray:=by
 have e:(fun (m:Nat)=>xs[((i:Int)+(m:Int)*1).toNat]?)=fun m=>xs[i+m]? := by
  funext m
  have:((i:Int)+(m:Int)*1).toNat=i+m:=by lia
  rw [this]
 rw [e]
 have:=pick_run xs i k
 rw [List.filterMap_map] at this
 have j:((fun x=>xs[x]?) ∘ fun x=>i+x)=fun m=>xs[i+m]? := rfl
 rw [j] at this
 rw [this]
theorem getItem_tuple_cut {t sl:Addr} {items:Array Value} {vl vu:Value} {lo hi:Option Int} {Q:Value->Shared->Prop} (n:IsTup s.heap t items) (hs:s.heap.IsSliceOf sl vl vu .none) (pl:IsPart vl lo) (pu:IsPart vu hi)
 (hw : ¬ (sIx items.size 0 lo=0/\sIx items.size items.size hi=items.size))
 (h:Q (.ref s.heap.objs.size) { s with heap:=s.heap.push { cls := .type "tuple",data := .seq ((items.toList.drop (sIx items.size 0 lo)).take (sIx items.size items.size hi - sIx items.size 0 lo)).toArray } })
 (hsz:items.size<=sizeLine):wpAny (model prog w) A (getItem (.ref t) (.ref sl)) Q E s:=by
 have j:sizeOk (.seq ((items.toList.drop (sIx items.size 0 lo)).take (sIx items.size items.size hi - sIx items.size 0 lo)).toArray):=by
  show ((items.toList.drop (sIx items.size 0 lo)).take (sIx items.size items.size hi - sIx items.size 0 lo)).toArray.size<=sizeLine
  rw [List.size_toArray,List.length_take,List.length_drop,Array.length_toList]
  lia
 have J:sIx items.size items.size hi<=items.size:=zo _ _ (Nat.le_refl _) hi
 obtain ⟨os,z,B,I⟩:=id hs
 have F:s.TypeIs (.ref sl) "slice" := ⟨os,z,B⟩
 unfold getItem
 try with_reducible refine wpAny_holding ?_
 first | refine wpAny_bind (wpAny_pure ?_) | skip
 refine wpAny_bind (wpAny_sequenceKey n.typeIs (by decide) ?_)
 refine wpAny_bind (wpAny_callSpecial?_slot (name:=Str.ofString "__getitem__") n.typeIs PyProof.Rows.slot_tuple_getitem
  (wpAny_call_entry PyProof.Rows.slot_tuple_getitem n.typeIs entry_tuple_getitem ?_ (args_tuple_getitem _ _)))
 show wpAny _ _ (Builtin.Tuple.tupleItemsOf (.ref t) >>= _) _ _ s
 refine wpAny_bind (tupleItemsOf_ n ?_)
 refine wpAny_bind (wpAny_typeOf F ?_)
 rw [if_pos (by decide)]
 refine wpAny_bind (cU hs pl pu ?_)
 have G : ¬ ((((sIx items.size 0 lo:Nat):Int)==0&&(1:Int)==1&&(sIx items.size items.size hi - sIx items.size 0 lo)==items.size)=true):=by
  intro q
  rw [Bool.and_eq_true,Bool.and_eq_true] at q
  have L:((sIx items.size 0 lo:Nat):Int)=0:=eq_of_beq q.1.1
  have O:sIx items.size items.size hi - sIx items.size 0 lo=items.size:=eq_of_beq q.2
  exact hw ⟨by lia,by lia⟩
 show wpAny _ _ (if (((sIx items.size 0 lo:Nat):Int)==0&&(1:Int)==1&&(sIx items.size items.size hi - sIx items.size 0 lo)==items.size)=true then _ else _) _ _ s
 rw [if_neg G,tM]
 first
  | exact wpAny_bind (m:=Builtin.Tuple.tupleExact _) (wpAny_newObj_type (wpAny_pure ⟨_,rfl,wpAny_pure h⟩) j)
  | exact wpAny_bind (m:=Builtin.Tuple.tupleExact _) (wpAny_newObj_type (wpAny_bind (wpAny_pure (wpAny_pure ⟨_,rfl,wpAny_pure h⟩))) j)
  | exact wpAny_bind (wpAny_bind (m:=Builtin.Tuple.tupleExact _) (wpAny_newObj_type (wpAny_pure (wpAny_pure ⟨_,rfl,wpAny_pure h⟩)) j))
  | exact wpAny_bind (wpAny_bind (m:=Builtin.Tuple.tupleExact _) (wpAny_newObj_type (wpAny_pure ⟨_,rfl,wpAny_pure h⟩) j))
end
end HT
namespace L2
open PySem PySem.Spec PyProof.Rows
section
noncomputable abbrev TO:=St->Hp->(Option Int->Hp->Prop)->Prop
noncomputable def PO (X:Cx) (e:Option Expr) (t:TO):Prop :=
 ∀ (pins:List (Addr×Obj)) (s:Shared) (σ:St) (H:Hp) (Q:Option Int->Hp->Prop),Inv X pins σ H s->t σ H Q ->
  wpAny (model X.prog X.w) X.A (evalPart e X.env) (fun u s' => ∃ o H',Inv X pins σ H' s'/\IsPart u o/\Q o H') X.xe s
noncomputable def wY:TO:=fun _ H Q=>Q none H
noncomputable def AJ (t:TE):TO:=fun σ H Q=>t σ H fun x H1 => ∃ i,x = .int i/\Q (some i) H1
section
variable {X:Cx} {e:Expr} {te:TE} {lo hi:Option Expr} {tl th:TO} {pos p2:Pos}
theorem wZ:PO X none wY:=by
 intro pins s σ H Q I h
 rw [evalPart_none]
 exact wpAny_pure ⟨none,H,I, .none,h⟩
theorem xb (h:PE X e te):PO X (some e) (AJ te):=by
 intro pins s σ H Q I hw
 rw [evalPart_some]
 refine thn (h pins s σ H _ I hw) fun u s1 ⟨x,H1,j,n,z⟩ => ?_
 obtain ⟨i,rfl,q⟩:=z
 obtain ⟨t,rfl⟩:=n
 exact ⟨some i,H1,j, .int i t,q⟩
noncomputable def SlR (X:Cx) (r:V->Option Int->Option Int->Hp->VK->Prop):Prop :=
 ∀ (pins:List (Addr×Obj)) (s:Shared) (σ:St) (H:Hp) (x:V) (v vl vu:Value) (lo hi:Option Int) (sl:Addr) (Q:VK),Inv X pins σ H s->RelV x v->s.heap.IsSliceOf sl vl vu .none->IsPart vl lo->IsPart vu hi->r x lo hi H Q ->
  ∃ T id,typeLookup (.type T) "__getitem__" = pure (some (.builtin id))/\s.TypeIs v T/\wpAny (model X.prog X.w) X.A (getItem v (.ref sl)) (EP X pins σ Q) X.xe s
theorem SlR.or {r r':V->Option Int->Option Int->Hp->VK->Prop} (h:SlR X r) (h':SlR X r'):SlR X (fun x lo hi H Q=>r x lo hi H Q∨r' x lo hi H Q):=by
 intro pins s σ H x v vl vu lo hi sl Q I rx hs pl pu q
 rcases q with q | q
 ·exact h pins s σ H x v vl vu lo hi sl Q I rx hs pl pu q
 ·exact h' pins s σ H x v vl vu lo hi sl Q I rx hs pl pu q
noncomputable def tSl (r:V->Option Int->Option Int->Hp->VK->Prop) (te:TE) (tl th:TO):TE:=fun σ H Q=>te σ H fun x H1=>tl σ H1 fun l H2=>th σ H2 fun u H3=>r x l u H3 Q
theorem tN {r:V->Option Int->Option Int->Hp->VK->Prop} (hr:SlR X r) (he:PE X e te) (hl:PO X lo tl) (n:PO X hi th):PE X (.Subscript e (.Slice lo hi none p2) pos) (tSl r te tl th):=by
 intro pins s σ H Q I h
 refine Subscript_ (thn (he pins s σ H _ I h) fun v s1 ⟨x,H1,z,B,F⟩ => ?_)
 refine wpAny_Slice (thn (hl pins s1 σ H1 _ z F) fun vl s2 ⟨l,H2,G,pl,J⟩=>thn (n pins s2 σ H2 _ G J) fun vu s3 ⟨u,j,L,pu,O⟩ => ?_)
 rw [evalPart_none]
 refine wpAny_pure ?_
 have R:Inv X pins σ j { s3 with heap:=s3.heap.push { cls := .type "slice",data := .fields #[vl,vu, .none] } }:=L.kept (t':=s3.toks) fun b ob q=>Heap.get?_push_of_some _ q
 obtain ⟨T,id,S,U,Y⟩:=hr pins { s3 with heap:=s3.heap.push { cls := .type "slice",data := .fields #[vl,vu, .none] } } σ j x v vl vu l u s3.heap.objs.size Q R B (Heap.IsSliceOf.new ..) pl pu O
 show wpAny (model X.prog X.w) X.A (subscriptTail e (.Slice lo hi none p2) v (.ref s3.heap.objs.size)) (EP X pins σ Q) X.xe { s3 with heap:=s3.heap.push { cls := .type "slice",data := .fields #[vl,vu, .none] } }
 exact tail_any (ops := [.ref s3.heap.objs.size,v]) U S Y (by with_unfolding_all rfl)
noncomputable def eV (xs:List V) (lo hi:Option Int):List V:=(xs.drop (HT.sIx xs.length 0 lo)).take (HT.sIx xs.length xs.length hi - HT.sIx xs.length 0 lo)
theorem gb (xs:List V) (lo hi:Option Int):(eV xs lo hi).length<=xs.length:=by
 unfold eV
 rw [List.length_take,List.length_drop]
 lia
noncomputable def Bw (K:Frag):V->Option Int->Option Int->Hp->VK->Prop:=fun x lo hi H Q => ∃ a xs,x = .ref a/\SqT K H a xs /\
 ¬ (HT.sIx xs.length 0 lo=0/\HT.sIx xs.length xs.length hi=xs.length) /\ ∀ p,H p=none->Q (.ref p) (upd H p (.tup (eV xs lo hi)))
theorem sl_tup:SlR X (Bw X.K):=by
 intro pins s σ H x v vl vu lo hi sl Q I rx hs pl pu h
 obtain ⟨a,xs,rfl,hx,hw,q⟩:=h
 cases rx
 obtain ⟨its,r,j,n⟩:=I.tuple hx
 have hlen:its.toArray.size=xs.length:=by rw [List.size_toArray];exact r.length.symm
 refine ⟨"tuple",_,PyProof.Rows.slot_tuple_getitem.lookup,j.typeIs, ?_⟩
 refine HT.getItem_tuple_cut j hs pl pu (by rw [hlen];exact hw) ?_ (by rw [hlen];exact n)
 rw [hlen]
 refine ⟨.ref s.heap.objs.size,_,I.laid (t':=s.toks) (o := .tup (eV xs lo hi)) (fun b ob q=>Heap.get?_push_of_some _ q) (Nat.le_refl _) ?_,rfl,q _ (I.hok.fresh (Nat.le_refl _))⟩
 exact ⟨Nat.le_trans (gb xs lo hi) n,_,(r.drop (HT.sIx xs.length 0 lo)).take (HT.sIx xs.length xs.length hi - HT.sIx xs.length 0 lo),IsTup.new _ _⟩
noncomputable def vX (K:Frag):R2:=fun x y H Q => ∃ a b xs ys,x = .ref a/\y = .ref b/\SqT K H a xs/\SqT K H b ys/\xs≠[]/\xs.length+ys.length<=sizeLine /\
 (ys=[]->Q (.ref a) H)/\(ys≠[] -> ∀ p,H p=none->Q (.ref p) (upd H p (.tup (xs++ys))))
theorem Vals.nil_iff {xs:List V} {us:List Value} (r:Vals xs us):us=[]↔xs=[]:=by
 cases r with
 | nil=>simp
 | cons _ _=>simp
theorem op_catT:OpR X (binaryOp .Add) (vX X.K):=by
 intro pins s σ H x y v u Q I rx ry h
 obtain ⟨a,b,xs,ys,rfl,rfl,G,hb,hx,B,J,L⟩:=h
 cases rx
 cases ry
 obtain ⟨its,n,O,_⟩:=I.tuple G
 obtain ⟨F,j,p2,_⟩:=I.tuple hb
 refine HT.cat_tup O p2 (fun z=>hx (n.nil_iff.mp z)) (fun z=>⟨.ref a,H,I,rfl,J (j.nil_iff.mp z)⟩) (fun z => ?_) (by rw [<- n.length, <- j.length];exact B)
 refine ⟨.ref s.heap.objs.size,_,I.laid (t':=s.toks) (o := .tup (xs++ys)) (fun b ob q=>Heap.get?_push_of_some _ q) (Nat.le_refl _) ?_,rfl,L (fun w=>z (j.nil_iff.mpr w)) _ (I.hok.fresh (Nat.le_refl _))⟩
 exact ⟨by rw [List.length_append];exact B,_,n.append j,IsTup.new _ _⟩
end
end
section
noncomputable def ixN (n:Nat) (i:Int):Option Nat:=if 0<=i then (if i < n then some i.toNat else none) else if -(n:Int)<=i then some (i+n).toNat else none
noncomputable def atI {α:Type} (xs:List α) (i:Int):Option α := (ixN xs.length i).bind fun j=>xs[j]?
theorem nH {n:Nat} {i:Int} {j:Nat} (h:ixN n i=some j):seqIndex? i n=some j/\j < n /\ -(n:Int)<=i/\i < n:=by
 unfold ixN at h
 by_cases h0 : 0<=i
 ·rw [if_pos h0] at h
  by_cases h1:i < n
  ·rw [if_pos h1] at h
   have e:i.toNat=j:=Option.some.inj h
   exact ⟨by rw [seqIndex_of h0 h1,e],by lia,by lia,h1⟩
  ·rw [if_neg h1] at h;cases h
 ·rw [if_neg h0] at h
  by_cases h1 : -(n:Int)<=i
  ·rw [if_pos h1] at h
   have e:(i+n).toNat=j:=Option.some.inj h
   exact ⟨by rw [seqIndex_neg (by lia) h1,e],by lia,h1,by lia⟩
  ·rw [if_neg h1] at h;cases h
theorem j3 {α:Type} {xs:List α} {i:Int} {v : α} (h:atI xs i=some v):∃ j,seqIndex? i xs.length=some j/\xs[j]? = some v/\j < xs.length /\ -(xs.length:Int)<=i/\i < xs.length:=by
 unfold atI at h
 cases e:ixN xs.length i with
 | none=>rw [e] at h;cases h
 | some j =>
   rw [e] at h
   obtain ⟨h1,h2,n,q⟩:=nH e
   exact ⟨j,h1,h,h2,n,q⟩
noncomputable def j4 (b:Expr):Prop := ∀ o i,subscripted b false o i=operate [o,i] (getItem o i)
noncomputable def IxR (X:Cx) (r:R2):Prop :=
 ∀ (value slice:Expr) (pins:List (Addr×Obj)) (s:Shared) (σ:St) (H:Hp) (x y:V) (v u:Value) (Q:VK),Inv X pins σ H s->RelV x v->RelV y u->r x y H Q ->
  subscripted slice false v u=operate [v,u] (getItem v u)->wpAny (model X.prog X.w) X.A (subscriptTail value slice v u) (EP X pins σ Q) X.xe s
noncomputable def MtR (X:Cx) (id:String) (r:V->List V->Hp->VK->Prop):Prop :=
 ∀ (pins:List (Addr×Obj)) (s:Shared) (σ:St) (H:Hp) (x:V) (xs:List V) (v:Value) (us:List Value) (Q:VK),Inv X pins σ H s->RelV x v->Vals xs us->r x xs H Q ->
  wpAny (model X.prog X.w) X.A (call (.builtin id) (v::us)) (EP X pins σ Q) X.xe s
section
variable {X:Cx} {a b:Expr} {ta tb:TE} {pos:Pos}
theorem IxR.or {r r':R2} (h:IxR X r) (h':IxR X r'):IxR X (fun x y H Q=>r x y H Q∨r' x y H Q):=by
 intro value slice pins s σ H x y v u Q I rx ry q hs
 rcases q with q | q
 ·exact h value slice pins s σ H x y v u Q I rx ry q hs
 ·exact h' value slice pins s σ H x y v u Q I rx ry q hs
theorem AK {r:R2} (hr:IxR X r) (j:PE X a ta) (hb:PE X b tb) (hs:j4 b):PE X (.Subscript a b pos) (tOp r ta tb):=by
 intro pins s σ H Q I h
 exact Subscript_ (tE j hb I h fun v u s2 x y H2 n rx ry q=>hr a b pins s2 σ H2 x y v u Q n rx ry q (hs _ _))
noncomputable def By (K:Frag):R2:=fun x y H Q => ∃ p xs i v,x = .ref p/\y = .int i/\SqL K H p xs/\atI xs i=some v/\Q v H
noncomputable def Bz (K:Frag):R2:=fun x y H Q => ∃ p xs i v,x = .ref p/\y = .int i/\SqT K H p xs/\atI xs i=some v/\Q v H
theorem ix_list:IxR X (By X.K):=by
 intro value slice pins s σ H x y v u Q I rx ry h hs
 obtain ⟨p,xs,i,z,rfl,rfl,B,he,q⟩:=h
 cases rx
 obtain ⟨t,rfl⟩:=ry
 obtain ⟨its,r,pl,J⟩:=I.list B
 obtain ⟨j,h1,h2,L,F,G⟩:=j3 he
 obtain ⟨w,ew,rw'⟩:=r.get h2
 have hl:=r.length
 have O:=dI
 have fin:EP X pins σ Q w s:=⟨z,H,I,rw',q⟩
 by_cases h0 : 0<=i
 ·have n:i.toNat=j:=by
   rw [seqIndex_of h0 G] at h1
   exact Option.some.inj h1
  exact item_listR pl.isList h0 (by lia) (by rw [n];simpa using ew) fin hs
 ·have n:(i+(its.toArray.size:Int)).toNat=j:=by
   rw [seqIndex_neg (by lia) F] at h1
   rw [List.size_toArray, <- hl]
   exact Option.some.inj h1
  exact subscriptTail_builtinR (x:=w) pl.isList.typeIs slot_list_getitem.lookup
   (wpAny_getItem_list_neg (Q:=fun r s'=>r=w/\EP X pins σ Q r s') pl.isList (by lia) (by rw [List.size_toArray] <;> lia) (by lia) (by rw [n];simpa using ew) ⟨rfl,fin⟩) hs
theorem ix_tup:IxR X (Bz X.K):=by
 intro value slice pins s σ H x y v u Q I rx ry h hs
 obtain ⟨p,xs,i,z,rfl,rfl,n,he,q⟩:=h
 cases rx
 obtain ⟨t,rfl⟩:=ry
 obtain ⟨its,r,pl,B⟩:=I.tuple n
 obtain ⟨j,h1,h2,F,G,J⟩:=j3 he
 obtain ⟨w,ew,rw'⟩:=r.get h2
 have hl:=r.length
 have L:=dI
 have fin:EP X pins σ Q w s:=⟨z,H,I,rw',q⟩
 exact subscriptTail_builtinR (x:=w) pl.typeIs slot_tuple_getitem.lookup
  (getItem_tuple (j:=j) (Q:=fun r s'=>r=w/\EP X pins σ Q r s') pl (by lia) (by lia) (by rw [List.size_toArray, <- hl];exact h1) (by simpa using ew) ⟨rfl,fin⟩) hs
theorem p7 (its:List Value) (n j:Nat) (u:Value):Obj.mapSeq (·.setIfInBounds j u) { cls := .type "list",data := .seq its.toArray n } = { cls := .type "list",data := .seq (its.set j u).toArray n }:=by
 simp [Obj.mapSeq]
theorem Inv.lst {pins:List (Addr×Obj)} {σ:St} {H:Hp} {s:Shared} {p:Addr} {xs:List V} (I:Inv X pins σ H s) (h:H p=some (.lst xs)) :
 ∃ (its:List Value) (n:Nat),Vals xs its/\s.heap.get? p=some { cls := .type "list",data := .seq its.toArray n }/\xs.length<=sizeLine:=by
 obtain ⟨z,its,n,r,e⟩:=I.hok p _ h
 exact ⟨its,n,r,e,z⟩
theorem Inv.lstUpd {pins:List (Addr×Obj)} {σ:St} {H:Hp} {s:Shared} {p:Addr} {xs ys:List V} {its its':List Value} {n n':Nat} {f:Obj->Obj} (I:Inv X pins σ H s) (h:H p=some (.lst xs))
 (ho:s.heap.get? p=some { cls := .type "list",data := .seq its.toArray n }) (hf:f { cls := .type "list",data := .seq its.toArray n } = { cls := .type "list",data := .seq its'.toArray n' }) (r:Vals ys its') (j:ys.length<=sizeLine) (t:Nat) :
 Inv X pins σ (upd H p (.lst ys)) { s with heap:=s.heap.update p f,toks:=t }:=by
 have e:(s.heap.update p f).get? p=some { cls := .type "list",data := .seq its'.toArray n' }:=by
  rw [Heap.get?_update_self f ho (by rw [hf] <;> rfl),hf]
 refine I.write (x:=p) (e:=p) (by rw [h];trivial) (.inl rfl) (fun b u hb q=>(Heap.get?_update_other _ _ (Ne.symm hb)).trans q) ⟨_,e⟩ ?_
 exact ⟨j,its',n',r,e⟩
noncomputable def vY:V->V->V->Hp->(Hp->Prop)->Prop:=fun o i v H Q => ∃ p xs k j,o = .ref p/\i = .int k/\H p=some (.lst xs)/\ixN xs.length k=some j/\Q (upd H p (.lst (xs.set j v)))
theorem kH:PSet X vY:=by
 intro pins s σ H o i v ov iv u Q I ro ri rv h
 obtain ⟨p,xs,k,j,rfl,rfl,B,J,q⟩:=h
 cases ro
 obtain ⟨t,rfl⟩:=ri
 obtain ⟨its,n,r,ho,L⟩:=I.lst B
 obtain ⟨h1,h2,F,G⟩:=nH J
 have hl:=r.length
 have O:=dI
 have I':Inv X pins σ (upd H p (.lst (xs.set j v))) { s with heap:=s.heap.update p (Obj.mapSeq (·.setIfInBounds j u)) } :=
  I.lstUpd B ho (p7 its n j u) (r.set rv j) (by rw [List.length_set];exact L) s.toks
 by_cases h0 : 0<=k
 ·have z:k.toNat=j:=by
   rw [seqIndex_of h0 G] at h1
   exact Option.some.inj h1
  exact PySem.W.ki_setAt ho h0 (by lia) (by rw [List.size_toArray, <- hl];exact G) (by rw [z];exact ⟨_,I',q⟩)
 ·have z:(k+(its.toArray.size:Int)).toNat=j:=by
   rw [seqIndex_neg (by lia) F] at h1
   rw [List.size_toArray, <- hl]
   exact Option.some.inj h1
  exact PySem.W.ki_setBack ho (by lia) (by rw [List.size_toArray, <- hl];exact F) (by lia) (by rw [z];exact ⟨_,I',q⟩)
theorem kI (lo hi:Option Int) (n:Nat):(sliceBounds lo hi none n).1=((HT.sIx n 0 lo:Nat):Int)/\(sliceBounds lo hi none n).2.1=((HT.sIx n n hi:Nat):Int)/\(sliceBounds lo hi none n).2.2=1:=by
 refine ⟨?_, ?_,rfl⟩
 ·cases lo with
  | none=>simp [sliceBounds,HT.sIx]
  | some i =>
    simp only [sliceBounds,HT.sIx,Option.getD_none,show (1:Int) > 0 by decide,if_true]
    by_cases h:i < 0
    ·simp only [h,if_true] <;> lia
    ·simp only [h,if_false] <;> lia
 ·cases hi with
  | none=>simp [sliceBounds,HT.sIx]
  | some i =>
    simp only [sliceBounds,HT.sIx,Option.getD_none,show (1:Int) > 0 by decide,if_true]
    by_cases h:i < 0
    ·simp only [h,if_true] <;> lia
    ·simp only [h,if_false] <;> lia
theorem kf (its:List Value) (lo hi:Option Int):slicePick its.toArray lo hi none=((its.drop (HT.sIx its.length 0 lo)).take (HT.sIx its.length its.length hi - HT.sIx its.length 0 lo)).toArray:=by
 obtain ⟨h1,h2,j⟩:=kI lo hi its.toArray.size
 unfold slicePick
 rw [h1,h2,j]
 simp only [sliceRange_one,pick_run,List.size_toArray] <;> rfl
noncomputable def BA (K:Frag):V->Option Int->Option Int->Hp->VK->Prop:=fun x lo hi H Q => ∃ a xs,x = .ref a/\SqL K H a xs /\ ∀ p,H p=none->Q (.ref p) (upd H p (.lst (eV xs lo hi)))
theorem sl_list:SlR X (BA X.K):=by
 intro pins s σ H x v vl vu lo hi sl Q I rx hs pl pu h
 obtain ⟨a,xs,rfl,hx,q⟩:=h
 cases rx
 obtain ⟨its,r,j,n⟩:=I.list hx
 have hlen:=r.length
 refine ⟨"list",_,slot_list_getitem.lookup,j.isList.typeIs, ?_⟩
 refine wpAny_getItem_list_slice j.isList hs pl pu .none (by simp) ?_ (by rw [List.size_toArray] <;> lia)
 rw [kf, <- hlen]
 refine ⟨.ref s.heap.objs.size,_,I.laid (t':=s.toks) (o := .lst (eV xs lo hi)) (fun b ob q=>Heap.get?_push_of_some _ q) (Nat.le_refl _) ?_,rfl,q _ (I.hok.fresh (Nat.le_refl _))⟩
 exact ⟨Nat.le_trans (gb xs lo hi) n,_,0,(r.drop (HT.sIx xs.length 0 lo)).take (HT.sIx xs.length xs.length hi - HT.sIx xs.length 0 lo),Heap.get?_push_size _ rfl⟩
theorem kg:CallR X (.type "tuple") (fun xs H Q => ∃ p ys,xs=[.ref p]/\((SqL X.K H p ys /\ ∀ l,H l=none->Q (.ref l) (upd H l (.tup ys)))∨(SqT X.K H p ys/\Q (.ref p) H))):=by
 intro pins s σ H xs us Q I r h
 obtain ⟨p,ys,rfl,h⟩:=h
 obtain ⟨u,rfl,rx⟩:=dl r
 cases rx
 rcases h with ⟨j,q⟩ | ⟨j,q⟩
 ·obtain ⟨its,r',pl,n⟩:=I.list j
  have hlen:=r'.length
  refine call_tuple_list pl.isList (fun h' kp => ?_) (by simp only [List.size_toArray] <;> lia)
  have z:Inv X pins σ H { s with heap:=h' }:=I.kept (t':=s.toks) kp
  have B:Inv X pins σ (upd H h'.objs.size (.tup ys)) { s with heap:=h'.push { cls := .type "tuple",data := .seq its.toArray } } :=
   z.laid (t':=s.toks) (fun b o e=>Heap.get?_push_of_some _ e) (Nat.le_refl _) (show ObjOk X.prog X.w _ _ _ (.tup ys) from ⟨n,its,r',IsTup.new _ _⟩)
  exact ⟨.ref h'.objs.size,_,B,rfl,q _ (z.hok.fresh (Nat.le_refl _))⟩
 ·obtain ⟨its,r',pl,n⟩:=I.tuple j
  exact call_tuple_same pl ⟨.ref p,H,I,rfl,q⟩
noncomputable def tyV (K:Frag) (T:String) (x:V) (H:Hp):Prop:=match x with
 | .str _=>T = "str"
 | .int _=>T = "int"
 | .ref p=>(T = "list" /\ ∃ xs,SqL K H p xs)∨(T = "tuple" /\ ∃ o,K.lookup p=some o/\o.cls = .type "tuple" /\ o.dict=none) ∨
  (T = "dict" /\ ((∃ kvs,H p=some (.dK kvs)) ∨ ∃ kvs,H p=some (.dT kvs)))∨(T = "set" /\ ∃ S n,H p=some (.set S n))
 | _=>False
theorem zp {pins:List (Addr×Obj)} {σ:St} {H:Hp} {s:Shared} {T:String} {x:V} {v:Value} (I:Inv X pins σ H s) (r:RelV x v) (ty:tyV X.K T x H) :
 s.TypeIs v T /\ ∀ a,v = .ref a -> ∃ ob,s.heap.get? a=some ob/\ob.dict=none:=by
 cases x with
 | str z =>
   obtain ⟨t,rfl⟩:=r
   cases (show T = "str" from ty)
   exact ⟨typeIs_str s z t,fun _ e=>nomatch e⟩
 | int i =>
   obtain ⟨t,rfl⟩:=r
   cases (show T = "int" from ty)
   exact ⟨typeIs_int s i t,fun _ e=>nomatch e⟩
 | ref p =>
   cases r
   rcases ty with ⟨rfl,xs,B⟩ | ⟨rfl,o,j,F,hd⟩ | ⟨rfl,j⟩ | ⟨rfl,S,n,j⟩
   ·obtain ⟨its,_,pl,_⟩:=I.list B
    refine ⟨pl.isList.typeIs,fun a e => ?_⟩
    cases e
    obtain ⟨o,n,e,c,hd,_⟩:=pl
    exact ⟨o,e,hd⟩
   ·refine ⟨⟨o,I.kIn p o j,F⟩,fun a e => ?_⟩
    cases e
    exact ⟨o,I.kIn _ o j,hd⟩
   ·have z:∃ o,s.heap.get? p=some o/\o.ExactDict:=by
     rcases j with ⟨kvs,j⟩ | ⟨kvs,j⟩
     ·obtain ⟨_,_,_,_,o,_,_,e,ex,_⟩:=I.hok p _ j
      exact ⟨o,e,ex⟩
     ·obtain ⟨_,_,_,_,o,_,_,e,ex,_⟩:=I.hok p _ j
      exact ⟨o,e,ex⟩
    obtain ⟨o,e,ex⟩:=z
    refine ⟨⟨o,e,ex.1⟩,fun a q => ?_⟩
    cases q
    exact ⟨o,e,ex.2.1⟩
   ·obtain ⟨o,_,_,_,e,ex,_⟩:=I.hok p _ j
    refine ⟨⟨o,e,ex.1⟩,fun a q => ?_⟩
    cases q
    exact ⟨o,e,ex.2.1⟩
 | _=>exact False.elim ty
noncomputable def tBM (K:Frag) (T:String) (r:V->List V->Hp->VK->Prop) (to:TE) (t:TA):TE:=fun σ H Q=>to σ H fun x H1=>tyV K T x H1/\t σ H1 fun xs H2=>r x xs H2 Q
variable {o e:Expr} {es:List Expr} {to:TE} {t:TA} {name:Str} {apos cpos:Pos} {T id:String} {r:V->List V->Hp->VK->Prop}
theorem AL (pa:PlainAttrs T) (slot:Slot T name id) (B:typeOf (.builtin id)=pure (.type "method_descriptor")) (hm:MtR X id r) (ho:PE X o to) (L:PA X (e::es) t)
 (n:attributeBase o name X.env (eval o X.env)=eval o X.env:=by rfl)
 (z:((backTo cpos (starEach (e::es) X.env)).all (fun x => !x.1)&&(backToKw cpos (keywordEach [] X.env)).all (fun x=>x.1.isSome)
   && decide ((e::es).length+([]:List Keyword).length+(if ([]:List Keyword).isEmpty then 0 else 1) < 30))=true:=by rfl)
 (q:(apos.endLine==cpos.line)=true:=by rfl) (hs:starEach (e::es) X.env=(false,eval e X.env)::starEach es X.env:=by rfl) (j:(backTo cpos (starEach es X.env)).any (·.1)=false:=by rfl) :
 PE X (.Call (.Attribute o name apos) (e::es) [] cpos) (tBM X.K T r to t):=by
 intro pins s σ H Q I h
 refine wpAny_Call_method_late n z q rfl (thn (ho pins s σ H _ I h) fun v s1 ⟨x,H1,F,G,ty,O⟩ => ?_)
 obtain ⟨h1,h2⟩:=zp F G ty
 refine ⟨T,id,pa,slot,B,h1,h2, ?_⟩
 have J:=L cpos pins s1 σ H1 _ F O
 rw [hs] at J ⊢
 refine Calls.callWith_builtin (by show (false || (backTo cpos (starEach es X.env)).any (·.1))=false;rw [j] <;> rfl) (Calls.evalArgs_plain ?_)
 exact thn J fun us s2 ⟨vs,H2,R,S,U⟩=>hm pins s2 σ H2 x vs v us Q R G S U
end
end
section
noncomputable def MtM (X:Cx) (id:String) (r:V->List V->Hp->VK->Prop):Prop :=
 ∀ (pins:List (Addr×Obj)) (s:Shared) (σ:St) (H:Hp) (x:V) (xs:List V) (v:Value) (us:List Value) (Q:VK),Inv X pins σ H s->RelV x v->Vals xs us->r x xs H Q ->
  wpAny (model X.prog X.w) X.A (call (.builtin id) (v::us)) (EP X pins σ Q) X.xe s
theorem Vals.one:∀ {x:V} {us:List Value},Vals [x] us -> ∃ u,us=[u]/\RelV x u
 | _,_, .cons r .nil=>⟨_,rfl,r⟩
theorem Vals.reverse {xs:List V} {us:List Value} (h:Vals xs us):Vals xs.reverse us.reverse:=by
 induction h with
 | nil=>exact .nil
 | cons r t ih=>rw [List.reverse_cons,List.reverse_cons];exact Vals.append ih (.cons r .nil)
theorem Vals.rep {xs:List V} {us:List Value} (h:Vals xs us):∀ k:Nat,Vals (List.replicate k xs).flatten (List.replicate k us).flatten
 | 0 => .nil
 | k+1=>by
   rw [List.replicate_succ,List.replicate_succ,List.flatten_cons,List.flatten_cons]
   exact Vals.append h (Vals.rep h k)
theorem eW (its:List Value):∀ (k:Nat) (acc:List Value),
 List.foldl (fun j n=>j++n) acc.toArray (List.replicate k its.toArray)=(acc++(List.replicate k its).flatten).toArray
 | 0,acc=>by simp
 | k+1,acc=>by
   have e:acc.toArray++its.toArray=(acc++its).toArray:=by simp
   have q:(acc++its)++(List.replicate k its).flatten=acc++(List.replicate (k+1) its).flatten:=by
    rw [List.replicate_succ,List.flatten_cons,List.append_assoc]
   rw [<- q, <- eW its k (acc++its), <- e,List.replicate_succ,List.foldl_cons]
section
variable {X:Cx} {pins:List (Addr×Obj)} {σ:St} {H:Hp} {s:Shared} {l b:Addr} {xs ys zs:List V}
theorem Inv.lset {its its':List Value} {n:Nat} {f:Array Value->Array Value} {t':Nat} (I:Inv X pins σ H s) (j:H l=some (.lst xs))
 (e:s.heap.get? l=some { cls := .type "list",data := .seq its.toArray n }) (hf:f its.toArray=its'.toArray) (z:Vals ys its') (B:ys.length<=sizeLine) :
 Inv X pins σ (upd H l (.lst ys)) { s with heap:=s.heap.update l (Obj.mapSeq f),toks:=t' }:=by
 have q:=PySem.IsL.update e f
 rw [hf] at q
 refine I.write (x:=l) (e:=l) (by rw [j];exact trivial) (.inl rfl) (fun b' u hb F=>(Heap.get?_update_other s.heap (Obj.mapSeq f) (Ne.symm hb)).trans F) ⟨_,q⟩ ?_
 exact ⟨B,its',_,z,q⟩
theorem Inv.lnew {its:List Value} {t':Nat} (I:Inv X pins σ H s) (j:Vals ys its) (n:ys.length<=sizeLine) :
 Inv X pins σ (upd H s.heap.objs.size (.lst ys)) { s with heap:=s.heap.push { cls := .type "list",data := .seq its.toArray },toks:=t' } :=
 I.laid (fun _ _ q=>Heap.get?_push_of_some _ q) (Nat.le_refl _) ⟨n,its,0,j,Heap.get?_push_size _ rfl⟩
theorem Inv.fresh (I:Inv X pins σ H s):H s.heap.objs.size=none:=I.hok.fresh (Nat.le_refl _)
theorem Inv.lstM (I:Inv X pins σ H s) (j:H l=some (.lst xs)):xs.length<=sizeLine /\ ∃ (its:List Value) (n:Nat),Vals xs its/\xs.length=its.length/\s.heap.get? l=some { cls := .type "list",data := .seq its.toArray n }:=by
 obtain ⟨z,its,n,r,e⟩:=I.hok l _ j
 exact ⟨z,its,n,r,r.length,e⟩
theorem tO {n:Nat} (h:n<=sizeLine):Builtin.List.listTooLong n=false:=by
 unfold Builtin.List.listTooLong
 exact decide_eq_false (by lia)
end
section
variable {X:Cx}
noncomputable def nI:V->List V->Hp->VK->Prop:=fun x vs H Q => ∃ l xs y,x = .ref l/\vs=[y]/\H l=some (.lst xs)/\xs.length < sizeLine/\Q .non (upd H l (.lst (xs++[y])))
theorem jz:MtM X "list.append" nI:=by
 intro pins s σ H x vs v us Q I rx rv h
 obtain ⟨l,xs,y,rfl,rfl,j,B,q⟩:=h
 cases rx
 obtain ⟨u,rfl,ru⟩:=rv.one
 obtain ⟨z,its,n,r,hl,e⟩:=I.lstM j
 refine call_meets F.slot_list_append ⟨_,e,rfl⟩ F.entry_list_append (F.args_list_append_2 _ _) (PySem.list_append l its.toArray n u (by rw [List.size_toArray];lia)) ⟨e, ?_⟩
 refine ⟨.non,_,I.lset (its':=its++[u]) j e (by simp) (r.append (.cons ru .nil)) ?_,rfl,q⟩
 rw [List.length_append,List.length_singleton]
 lia
noncomputable def BB:R2:=fun x y H Q => ∃ l b xs zs,x = .ref l/\y = .ref b/\H l=some (.lst xs)/\H b=some (.lst zs)/\xs.length+zs.length<=sizeLine /\ ∀ p,H p=none->Q (.ref p) (upd H p (.lst (xs++zs)))
theorem op_cat:OpR X (binaryOp .Add) BB:=by
 intro pins s σ H x y v u Q I rx ry h
 obtain ⟨l,b,xs,zs,rfl,rfl,B,F,O,q⟩:=h
 cases rx
 cases ry
 obtain ⟨z,its,n,r,hl,e⟩:=I.lstM B
 obtain ⟨R,j,S,G,J,L⟩:=I.lstM F
 refine PySem.P.add_list e L ?_ (by rw [List.size_toArray,List.size_toArray];lia)
 have ea:its.toArray++j.toArray=(its++j).toArray:=by simp
 rw [ea]
 exact ⟨.ref _,_,I.lnew (t':=s.toks) (r.append G) (by rw [List.length_append];lia),rfl,q _ I.fresh⟩
noncomputable def BC:R2:=fun x y H Q => ∃ l k xs,x = .ref l/\y = .int k/\H l=some (.lst xs) /\ -(2 ^ 63)<=k/\k < 2 ^ 63/\xs.length*k.toNat<=sizeLine /\
 ∀ p,H p=none->Q (.ref p) (upd H p (.lst (List.replicate k.toNat xs).flatten))
theorem nJ {α:Type} (xs:List α) (k:Nat):(List.replicate k xs).flatten.length=k*xs.length:=by
 induction k with
 | zero=>simp
 | succ k ih=>rw [List.replicate_succ,List.flatten_cons,List.length_append,ih,Nat.succ_mul,Nat.add_comm]
theorem op_rep:OpR X (binaryOp .Mult) BC:=by
 intro pins s σ H x y v u Q I rx ry h
 obtain ⟨l,k,xs,rfl,rfl,S,h1,h2,R,q⟩:=h
 cases rx
 obtain ⟨t,rfl⟩:=ry
 obtain ⟨z,its,n,r,hl,e⟩:=I.lstM S
 have hlen:its.toArray.size*k.toNat<=sizeLine:=by rw [List.size_toArray, <- hl];exact R
 have B : ¬ its.toArray.size*k.toNat > (2 ^ 63 - 1) / 8:=by
  have:(sizeLine:Nat)<=(2 ^ 63 - 1) / 8:=by decide
  lia
 have G : ¬ (!Builtin.List.listFitsIndex k)=true:=by
  rw [fitsIndex_both h1 h2]
  exact Bool.false_ne_true
 have j : ¬ Builtin.List.listTooLong (its.toArray.size*k.toNat)=true:=by
  rw [tO hlen]
  exact Bool.false_ne_true
 have J:List.foldl (fun L O=>L++O) #[] (List.replicate (if its.toArray.isEmpty=true then 0 else k.toNat) its.toArray)=(List.replicate k.toNat its).flatten.toArray:=by
  have f0:∀ m:Nat,List.foldl (fun L O=>L++O) #[] (List.replicate m its.toArray)=(List.replicate m its).flatten.toArray:=fun m=>by
   have:=eW its m []
   rw [List.nil_append] at this
   exact this
  rw [f0]
  cases its with
  | nil=>simp
  | cons a r'=>rw [if_neg (by simp)]
 refine wpAny_binaryOp_repeat_ref (T := "list") (U := "int") (by decide) ⟨_,e,rfl⟩ (fun s'=>typeIs_int s' k t) noFill_list_mul F.fills_int_mul F.slot_int_rmul repeat_list F.slot_int_index.lookup
  (call_meets F.slot_int_rmul (typeIs_int s k t) F.entry_int_rmul (F.args_int_rmul_2 _ _) (int___rmul___int_list k t l its.toArray n)
    ⟨e,rfl,⟨_,e,rfl⟩,call_meets F.slot_list_mul ⟨_,e,rfl⟩ F.entry_list_mul (F.args_list_mul_2 _ _) (AutoListH.list___mul___list_int_3 l its.toArray n k t G B j) ⟨e, ?_⟩⟩)
 rw [J]
 exact ⟨.ref _,_,I.lnew (t':=s.toks) (r.rep k.toNat) (by rw [nJ,Nat.mul_comm];exact R),rfl,q _ I.fresh⟩
end
end
end L2
namespace Att
open PySem PySem.W PySem.Calls PyProof.Rows
theorem hW {P:Params} {h:Heap}:∀ (ns:List Int) (vs:List Value),WellAll P h vs (ns.map WData.int)->IntsAre vs ns:=by
 intro ns
 induction ns with
 | nil =>
   intro vs w
   rw [List.map_nil] at w
   cases w
   exact .nil
 | cons n ns ih =>
   intro vs w
   rw [List.map_cons] at w
   cases w with
   | cons a b =>
     cases a
     exact .cons _ _ (ih _ b)
theorem qD {l:OpenLaw} {n:Nat} (L:l.most=some n) {P:Params} {h:Heap} {args:List WData} {vals:List Value}
 (j:l.row.toRowW.claim.pre args=true) (G:WellAll P h vals args) :
 ∃ a vs ns,vals=[Value.ref a]/\args=[WData.list (ns.map WData.int)]/\h.get? a=some { cls := .type "list",data := .seq vs.toArray }/\IntsAre vs ns/\ns.length<=n:=by
 have I:WShape.hasAll [] args [.list .int]=true:=(pre_splitW j).1
 have J:l.pre.holds [] { args:=args }=true:=(pre_splitW j).2
 obtain ⟨d,r,rfl,h1,h2⟩:=hasAllW_cons I
 obtain rfl:=hasAllW_nil h2
 obtain ⟨xs,rfl,O⟩:=hasW_list h1
 obtain ⟨ns,rfl⟩:=items_int O
 have hlen:ns.length<=n:=by
  unfold OpenLaw.pre at J
  have B:(WTm.not (.lt (.lit (.int (n:Int))) (.len (.arg 0)))).holds [] { args := [.list (ns.map .int)] }=true:=by
   have B:=(holds_andW J).1
   rw [L] at B
   exact B
  have F:=condW_of B (w_not (w_lt w_lit (w_len_list (w_arg rfl))))
  rw [List.length_map] at F
  refine Nat.le_of_not_lt fun q => ?_
  have q':(n:Int) < ((ns.length:Nat):Int):=by lia
  first
   | (rw [decide_eq_true q'] at F;exact absurd F (by decide))
   | (simp at F;lia)
 cases G with
 | cons R S =>
   cases S
   cases R with
   | list ho z=>exact ⟨_,_,ns,rfl,rfl,ho,hW ns _ z,hlen⟩
theorem qE (l:OpenLaw) (args:List WData):l.row.toRowW.claim.post args (.bool true) args=true :=
 postW_of (r:=l.row.toRowW) (X:=(true==true))
  (show WShape.has [] (.bool true) .bool=true by first | rfl | decide | simp [WShape.has,WShape.arms,WShape.armsAll])
  (show (WTm.eq .res (.lit (.bool true))).value [] { args:=args,res:=some (.bool true),after:=args }=some (.bool (true==true)) from w_eq_bool (w_res rfl) w_lit) rfl
theorem attach_call {l:OpenLaw} {n:Nat} {q:Program} {loose:List Str} {XP:(Str->Option Value)->Heap->Prop} {YP:World->Heap->Prop} {d:DefRec}
 (R:l.most=some n) (B:d.params.defaults=[])
 (call:∀ (w:World) (s₀ s₁:Shared) (mg mb:Str->Option Value) (fa:Addr) (o:Obj) (pm cd doc:Value) (a:Addr) (vs:List Value) (ns:List Int),
   Ground q loose [] XP w s₀ mg mb s₁.heap->YP w s₁.heap ->
   s₁.heap.get? fa=some o->o.data = .func (docDef d.name d.params d.body d.scope pm cd doc)->s₁.heap.CodeRec cd d.name->mg d.name=some (.ref fa) ->
   s₁.heap.get? a=some { cls := .type "list",data := .seq vs.toArray }->IntsAre vs ns->ns.length<=n->s₁.gens = #[] ->
   codeAny (model l.prog w) callerA (.call (.ref fa) ⟨[.ref a],[]⟩) (fun r s'=>r = .ok (.ret (.bool true))/\OldK s₁.heap s'.heap/\s'.os=s₁.os/\AllBare s'.gens) s₁) :
 WalkO q loose XP YP l.row.toRowW d [] (fun f vs=>PySem.call f vs):=by
 intro w s₀ s₁ mg mb G Y fa o pm cd doc dV kV ho hd F L I S args vals as j O U J Z
 obtain rfl:dV = .none:=Dflts.none L B
 obtain rfl:kV = .none:=Dflts.noKw L
 obtain ⟨a,vs,ns,rfl,rfl,z,hints,hlen⟩:=qD R j J
 refine enter_call (codeAny_mono (call w s₀ s₁ mg mb fa o pm cd doc a vs ns G Y ho (fd_plain hd) F I z hints hlen S) fun r s' hq => ?_)
 obtain ⟨rfl,h2,h3,h4⟩:=hq
 exact ⟨.inl ⟨.bool true, .bool true,[],rfl,fun _=>rfl, .bool true,qE l _,fun _=>⟨List.Pairwise.nil,fun _ hm=>(nomatch hm)⟩⟩,h2,h3,h4⟩
section
variable {prog:Program} {w:World} {A:Around} {E:Value->Shared->Prop} {s:Shared} {K:Frag}
noncomputable def BO (h:Heap) (L d:Addr):List (Addr×Obj):=(List.range h.objs.size).filterMap fun a=>if a=L∨a=d then none else (h.get? a).map fun o=>(a,o)
end
end Att
namespace L2
open PySem PySem.Spec PyProof.Rows
section
theorem jA:∀ {vs:List Value} {ns:List Int},IntsAre vs ns->Vals (ns.map V.int) vs
 | _,_, .nil => .nil
 | _,_, .cons n t h => .cons ⟨t,rfl⟩ (jA h)
noncomputable def p9 (H:Hp):Prop := ∀ b,H b=none ∨ ∃ o xs,H b=some (.frz o (.lst xs))
theorem tP {P:Program} {w:World} {K:Frag} {mg mb:Str->Option Value} {CX:CXT} {k:Nat} {fa a:Addr} {fd:FuncData} {x:Str} {sp:Sp} {s₁:Shared} {vs:List Value} {ns:List Int}
 (KX:K.In s₁.heap) (B:s₁.heap.Ns mainGlobals mg) (hb:s₁.heap.Ns builtinsNs mb) (O:∀ x:Str,x ≠ "__name__" -> mb x=bootBuiltins x) (G:s₁.heap.NoLimit) (hg:s₁.gens = #[])
 (L:s₁.heap.get? a=some { cls := .type "list",data := .seq vs.toArray }) (hi:IntsAre vs ns) (hl:ns.length<=sizeLine) (hr:Room k callerA)
 (F:∀ base:Heap,K.In base->base.Ns mainGlobals mg->cT P w K mg base CX k fa fd [x] sp) (j:∀ (s:Shared) (u:Value),BindsTo s fd ⟨[u],[]⟩ [(x,u)])
 (R:∀ H:Hp,p9 H->SqL K H a (ns.map V.int)->sp [.ref a] H (fun v _=>v = .bl true) fun _ _ _=>False)
 (S:∀ H e s',CX [] H s₁ (fun _ _ _=>False) e s'->False) :
 codeAny (model P w) callerA (.call (.ref fa) ⟨[.ref a],[]⟩) (fun r s'=>r = .ok (.ret (.bool true))/\OldK s₁.heap s'.heap/\s'.os=s₁.os/\AllBare s'.gens) s₁ := by
 have rv:=jA hi
 have lenV:=hi.length
 have core:∀ H:Hp,p9 H->SqL K H a (ns.map V.int)->HOk P w H s₁.heap->(∀ b,H b≠none->b=a)->(H a≠none->K.lookup a=none) ->
  codeAny (model P w) callerA (.call (.ref fa) ⟨[.ref a],[]⟩) (fun r s'=>r = .ok (.ret (.bool true))/\OldK s₁.heap s'.heap/\s'.os=s₁.os/\AllBare s'.gens) s₁ := by
  intro H Y hS hok Z hK
  have base_of:∀ {b:Addr} {o:Obj},s₁.heap.get? b=some o->H b=none->(dZ s₁.heap H).get? b=some o:=fun e n=>tj e n
  have noA:∀ {b:Addr} {o:Obj} {es:Array DictEntry} {ep:Nat},s₁.heap.get? b=some o->o.data = .dict es ep->H b=none:=fun {b o es ep} e d=>by
   cases q:H b with
   | none=>rfl
   | some u =>
     have e':b=a:=Z b (by rw [q];simp)
     subst e'
     rw [L] at e;cases e
     have d':Data.seq vs.toArray _=Data.dict es ep:=d
     cases d'
  have nsK:∀ {b:Addr} {m:Str->Option Value},s₁.heap.Ns b m->(dZ s₁.heap H).Ns b m:=fun {b m} ⟨o,es,ep,e,d,r⟩=>⟨o,es,ep,base_of e (noA e d),d,r⟩
  have I:K.In (dZ s₁.heap H):=fun b o e=>base_of (KX b o e) (by
   cases q:H b with
   | none=>rfl
   | some u =>
     have e':b=a:=Z b (by rw [q];simp)
     subst e'
     rw [hK (by rw [q];simp)] at e;cases e)
  have hM:Mod K mg (dZ s₁.heap H):=⟨I,nsK B,⟨mb,nsK hb,O⟩,let ⟨mc,h1,h2⟩:=G; ⟨mc,nsK h1,h2⟩⟩
  have e0:oW P w K mg (dZ s₁.heap H) callerA [] s₁ H:=⟨rfl,hM,fun b o e=>wD e,Nat.le_of_eq (qk _ _),trivial,fun b hb=>absurd (show b∈([]:List Addr) from hb) (by simp),hok, .of_eq hg⟩
  refine codeAny_mono ((F _ I (nsK B)).run callerA [] s₁ H ⟨[.ref a],[]⟩ [.ref a] [.ref a] _ _ hr e0 (j s₁ (.ref a)) (.cons rfl .nil) (R H Y hS)) fun r s' h => ?_
  cases r with
  | error e=>exact (S H e s' h).elim
  | ok fl =>
    cases fl with
    | next=>exact False.elim h
    | brk=>exact False.elim h
    | cont=>exact False.elim h
    | ret u =>
      obtain ⟨v,H',os,bare,un,J,r',q⟩:=h
      have q':v = .bl true:=q
      subst q'
      obtain rfl:u=Value.bool true:=r'
      refine ⟨rfl,OldK.of_keep fun b o e => ?_,os,bare⟩
      cases q:H b with
      | none=>exact un.keep b o e q (by intro z;exact absurd (show b∈([]:List Addr) from z) (by simp)) (by simp)
      | some u =>
        rcases Y b with z | ⟨ob,xs,z⟩
        ·rw [q] at z;cases z
        ·have z2:=un.frzs b ob _ z
         obtain ⟨e1,_⟩:=hok b _ z
         obtain ⟨e2,_⟩:=J b _ z2
         rw [e] at e1;cases e1
         exact e2
 cases U:K.lookup a with
 | some o =>
   have e:=KX a o U
   rw [L] at e
   cases e
   refine core (fun _=>none) (fun _ => .inl rfl) (.inr ⟨_,vs.toArray,_,U,rfl,rfl,rfl,by rw [List.size_toArray,lenV];exact hl,by simpa using rv⟩) (fun b u z=>by have z':(none:Option HO)=some u:=z;cases z') (fun b z=>absurd rfl z) fun z=>absurd rfl z
 | none =>
   refine core (fun b=>if b=a then some (.frz { cls := .type "list",data := .seq vs.toArray } (.lst (ns.map V.int))) else none) (fun b => ?_) (.inl (.inr ⟨{ cls := .type "list",data := .seq vs.toArray },if_pos rfl⟩)) (fun b u z => ?_) (fun b z => ?_) fun _=>U
   ·by_cases hb:b=a
    ·exact .inr ⟨_,_,if_pos hb⟩
    ·exact .inl (if_neg hb)
   ·by_cases hb:b=a
    ·have z':=(if_pos hb).symm.trans z
     cases z'
     subst hb
     exact ⟨L,by rw [List.length_map];exact hl,vs,_,rv,L⟩
    ·have z':=(if_neg hb).symm.trans z
     cases z'
   ·by_cases hb:b=a
    ·exact hb
    ·exact absurd (if_neg hb) z
end
section
theorem walk_of {l:PySem.W.OpenLaw} {n k:Nat} {q:Program} {loose:List Str} {XP:(Str->Option Value)->Heap->Prop} {YP:World->Heap->Prop} {d:DefRec} {K:Params->Frag} {CX:World->CXT} {sp:World->Sp} {x:Str}
 (O:l.most=some n) (z:n<=sizeLine) (B:d.params.defaults=[]) (hr:Room k callerA)
 (R:∀ (w:World) (h:Heap),YP w h->(K w.params).In h)
 (F:∀ (w:World) (mg:Str->Option Value) (fa:Addr) (h:Heap),(K w.params).In h->h.Ns mainGlobals mg->mg d.name=some (.ref fa) ->
   ∃ fd:FuncData,(∀ (s:Shared) (u:Value),BindsTo s fd ⟨[u],[]⟩ [(x,u)]) /\
    ∀ base:Heap,(K w.params).In base->base.Ns mainGlobals mg->cT l.prog w (K w.params) mg base (CX w) k fa fd [x] (sp w))
 (I:∀ (w:World) (H:Hp) (a:Addr) (ns:List Int),ns.length<=n->p9 H->SqL (K w.params) H a (ns.map V.int)->sp w [.ref a] H (fun v _=>v = .bl true) fun _ _ _=>False)
 (J:∀ (w:World) (H:Hp) (s:Shared) (e:Value) (s':Shared),CX w [] H s (fun _ _ _=>False) e s'->False) :
 PySem.W.WalkO q loose XP YP l.row.toRowW d [] (fun f vs=>PySem.call f vs):=by
 refine Att.attach_call O B fun w s₀ s₁ mg mb fa o pm cd doc a vs ns G Y ho hd S L j hints hlen U => ?_
 have KX:=R w _ Y
 obtain ⟨fd,hb,Z⟩:=F w mg fa _ KX G.T.g L
 exact tP KX G.T.g G.T.b G.T.builtins G.T.nolimit U j hints (Nat.le_trans hlen z) hr Z hb (fun H hO hS=>I w H a ns hlen hO hS) fun H e s'=>J w H s₁ e s'
end
section
noncomputable def cH (s:Stmt):Arguments:=match s with
 | .FunctionDef _ a _ _ _ _ _ _ _ _=>a
 | _ => { posonlyargs := [],args := [],vararg:=none,kwonlyargs := [],kw_defaults := [],kwarg:=none,defaults := [] }
noncomputable def bC (s:Stmt):List Stmt:=match s with
 | .FunctionDef _ _ b _ _ _ _ _ _ _=>b
 | _ => []
noncomputable def au (s:Stmt):Scope:=match s with
 | .FunctionDef _ _ _ _ _ _ sc _ _ _=>sc
 | _ => { kind := .function,names := [],isGenerator:=false,isCoroutine:=false }
noncomputable abbrev CX0:CXT:=fun _ _ _ _ _ _=>False
noncomputable abbrev E0:XK:=fun _ _ _=>False
theorem vZ {X:Cx}:gZ CX0 X E0:=fun _ _ _ _ _ _ _ h=>h.elim
structure Fun (K:Frag) (x qual:Str) (st:Stmt) (f:Addr) (fd:FuncData):Prop where
 ex:∃ (oc:Value) (od:Option Addr) (kV doc pm:Value) (an:Option Addr) (cdv ct:Value) (osl:Array (Option Value)),
  fd=PySem.W.fnOf x qual (cH st) (bC st) (au st) .none kV doc pm an cdv ct/\K.lookup f=some ⟨oc,od, .func fd,osl⟩/\PySem.W.codeIn K cdv qual=true
 kp:PySem.W.keepIn K (.ref f)=true
section
variable {P:Program} {w:World} {K:Frag} {mg:Str->Option Value} {base:Heap}
theorem Fun.ok {x qual:Str} {st:Stmt} {f:Addr} {fd:FuncData} {N ps:List Str} {k:Nat} {sp:Sp} (F:Fun K x qual st f fd) (S:fI N ps (au st)) (len:∀ vs H Q E,sp vs H Q E->vs.length=ps.length)
 (j:∀ (cdv:Value) (A:Around) (outer:List Env) (s:Shared) (H:Hp) (vs:List V) (Q:VK) (E:XK),Room k (A.deeper (envOfC qual (au st) s.heap.objs.size f cdv))->sp vs H Q E ->
   ∃ t,PSs (gm CX0 P w K mg base N qual (au st) f cdv A outer s H E).nox (bC st) t/\t { nx:=fun _ H'=>Q .non H',rt:=Q } (ce N vs) H):cT P w K mg base CX0 (k+1) f fd ps sp:=by
 obtain ⟨oc,od,kV,doc,pm,an,cdv,ct,osl,rfl,lk,n⟩:=F.ex
 refine AI lk n S len fun A outer s H vs Q E hr z => ?_
 obtain ⟨t,h,q⟩:=j cdv A outer s H vs Q E hr z
 exact ⟨t,h.nox,q⟩
theorem Fun.binds {x qual:Str} {st:Stmt} {f:Addr} {fd:FuncData} {ps:List Str} (F:Fun K x qual st f fd)
 (h:∀ (kV doc pm:Value) (an:Option Addr) (cdv ct:Value) (us:List Value),us.length=ps.length->bindArgs (PySem.W.fnOf x qual (cH st) (bC st) (au st) .none kV doc pm an cdv ct) ⟨us,[]⟩=pure (ps.zip us)):Binds K fd ps []:=by
 obtain ⟨oc,od,kV,doc,pm,an,cdv,ct,osl,rfl,lk,j⟩:=F.ex
 exact .all (h kV doc pm an cdv ct)
theorem ag {x qual:Str} {st:Stmt} {f:Addr} {oc:Value} {od an:Option Addr} {osl:Array (Option Value)} {kV doc pm cdv ct:Value} (l:K.lookup f=some ⟨oc,od, .func (PySem.W.fnOf x qual (cH st) (bC st) (au st) .none kV doc pm an cdv ct),osl⟩)
 (c:PySem.W.codeIn K cdv qual=true) (k:PySem.W.keepIn K (.ref f)=true):Fun K x qual st f (PySem.W.fnOf x qual (cH st) (bC st) (au st) .none kV doc pm an cdv ct):=⟨⟨oc,od,kV,doc,pm,an,cdv,ct,osl,rfl,l,c⟩,k⟩
end
end
end L2
namespace HT
open PySem PySem.Spec PyProof.Rows
section
variable {prog:Program} {w:World} {A:Around} {E:Value->Shared->Prop} {s:Shared}
theorem getItem_tuple_whole {t sl:Addr} {items:Array Value} {vl vu:Value} {lo hi:Option Int} {Q:Value->Shared->Prop} (j:IsTup s.heap t items) (hs:s.heap.IsSliceOf sl vl vu .none) (pl:IsPart vl lo) (pu:IsPart vu hi)
 (hw:sIx items.size 0 lo=0/\sIx items.size items.size hi=items.size) (h:Q (.ref t) s):wpAny (model prog w) A (getItem (.ref t) (.ref sl)) Q E s:=by
 obtain ⟨os,n,q,F⟩:=id hs
 have z:s.TypeIs (.ref sl) "slice" := ⟨os,n,q⟩
 unfold getItem
 try with_reducible refine wpAny_holding ?_
 first | refine wpAny_bind (wpAny_pure ?_) | skip
 refine wpAny_bind (wpAny_sequenceKey j.typeIs (by decide) ?_)
 refine wpAny_bind (wpAny_callSpecial?_slot (name:=Str.ofString "__getitem__") j.typeIs PyProof.Rows.slot_tuple_getitem
  (wpAny_call_entry PyProof.Rows.slot_tuple_getitem j.typeIs entry_tuple_getitem ?_ (args_tuple_getitem _ _)))
 show wpAny _ _ (Builtin.Tuple.tupleItemsOf (.ref t) >>= _) _ _ s
 refine wpAny_bind (tupleItemsOf_ j ?_)
 refine wpAny_bind (wpAny_typeOf z ?_)
 rw [if_pos (by decide)]
 refine wpAny_bind (cU hs pl pu ?_)
 have B:(((sIx items.size 0 lo:Nat):Int)==0&&(1:Int)==1&&(sIx items.size items.size hi - sIx items.size 0 lo)==items.size)=true:=by
  rw [hw.1,hw.2];simp
 show wpAny _ _ (if (((sIx items.size 0 lo:Nat):Int)==0&&(1:Int)==1&&(sIx items.size items.size hi - sIx items.size 0 lo)==items.size)=true then _ else _) _ _ s
 rw [if_pos B]
 refine wpAny_bind (m:=Builtin.Tuple.tupleIsExact (.ref t)) ?_
 unfold Builtin.Tuple.tupleIsExact
 refine wpAny_bind (wpAny_typeOf j.typeIs (wpAny_pure ?_))
 show wpAny _ _ (if true=true then _ else _) _ _ s
 rw [if_pos rfl]
 exact wpAny_bind (wpAny_rule (wpAny_pure ⟨_,rfl,wpAny_pure h⟩))
end
end HT
namespace L2
open PySem PySem.Spec PyProof.Rows
section
section
variable {X:Cx}
noncomputable def BD (K:Frag):V->Option Int->Option Int->Hp->VK->Prop:=fun x lo hi H Q => ∃ a xs,x = .ref a/\SqT K H a xs/\(HT.sIx xs.length 0 lo=0/\HT.sIx xs.length xs.length hi=xs.length)/\Q x H
theorem tQ:SlR X (BD X.K):=by
 intro pins s σ H x v vl vu lo hi sl Q I rx hs pl pu h
 obtain ⟨a,xs,rfl,hx,hw,q⟩:=h
 cases rx
 obtain ⟨its,r,j,n⟩:=I.tuple hx
 have hlen:=r.length
 refine ⟨"tuple",_,slot_tuple_getitem.lookup,j.typeIs, ?_⟩
 refine HT.getItem_tuple_whole j hs pl pu (by rw [List.size_toArray, <- hlen];exact hw) ⟨.ref a,H,I,rfl,q⟩
end
end
section
section
variable {κ:Type} [DecidableEq κ]
noncomputable def bu (kvs:List (κ × V)) (k : κ):Option V:=(kvs.find? fun kv=>decide (kv.1=k)).map (·.2)
noncomputable def b8 (kvs:List (κ × V)) (k : κ) (v:V):List (κ × V) :=
 if (kvs.any fun kv=>decide (kv.1=k))=true then kvs.map (fun kv=>if kv.1=k then (kv.1,v) else kv) else kvs++[(k,v)]
theorem e8 {p : κ × V} {r:List (κ × V)} {k : κ} (e:p.1=k):bu (p::r) k=some p.2:=by simp [bu,List.find?_cons,e]
theorem e9 {p : κ × V} {r:List (κ × V)} {k : κ} (e : ¬ p.1=k):bu (p::r) k=bu r k:=by simp [bu,List.find?_cons,e]
theorem kJ (k : κ):∀ kvs:List (κ × V),(kvs.any fun kv=>decide (kv.1=k))=(bu kvs k).isSome
 | [] => rfl
 | p::r=>by
   rw [List.any_cons]
   by_cases e:p.1=k
   ·simp only [e8 e,decide_eq_true e,Bool.true_or,Option.isSome_some]
   ·rw [e9 e,decide_eq_false e,Bool.false_or];exact kJ k r
theorem cg (kvs:List (κ × V)) (k : κ) (v:V):(b8 kvs k v).length<=kvs.length+1:=by
 unfold b8
 split
 ·rw [List.length_map];lia
 ·rw [List.length_append,List.length_cons,List.length_nil];lia
theorem RelO.isSome_eq {o:Option V} {u:Option Value} (r:RelO o u):o.isSome=u.isSome:=by
 cases o with
 | none=>cases u with
   | none=>rfl
   | some _=>exact (show False from r).elim
 | some _=>cases u with
   | none=>exact (show False from r).elim
   | some _=>rfl
theorem RelO.getD {o:Option V} {u:Option Value} {d:V} {d':Value} (r:RelO o u) (rd:RelV d d'):RelV (o.getD d) (u.getD d'):=by
 cases o with
 | none=>cases u with
   | none=>exact rd
   | some _=>exact (show False from r).elim
 | some _=>cases u with
   | none=>exact (show False from r).elim
   | some _=>exact r
theorem KV.val {kvs:List (κ × V)} {vs:List (κ × Value)} (r:KV kvs vs) (k : κ):RelO (bu kvs k) (valueAt vs k):=by
 unfold KV at r
 induction r with
 | nil=>exact True.intro
 | @cons p q ps qs h t ih =>
  obtain ⟨h1,h2⟩:=h
  by_cases e:p.1=k
  ·have e':q.1=k:=h1.symm.trans e
   have b:valueAt (q::qs) k=some q.2:=by simp [valueAt,List.find?_cons,e']
   rw [e8 e,b];exact h2
  ·have e' : ¬ q.1=k:=fun z=>e (h1.trans z)
   have b:valueAt (q::qs) k=valueAt qs k:=by simp [valueAt,List.find?_cons,e']
   rw [e9 e,b];exact ih
theorem KV.any {kvs:List (κ × V)} {vs:List (κ × Value)} (r:KV kvs vs) (k : κ):(kvs.any fun kv=>decide (kv.1=k))=vs.any fun kv=>decide (kv.1=k):=by
 unfold KV at r
 induction r with
 | nil=>rfl
 | cons h t ih=>rw [List.any_cons,List.any_cons,ih,h.1]
theorem KV.repl {kvs:List (κ × V)} {vs:List (κ × Value)} (r:KV kvs vs) (k : κ) {y:V} {u:Value} (ry:RelV y u) :
 KV (kvs.map fun kv=>if kv.1=k then (kv.1,y) else kv) (vs.map fun kv=>if kv.1=k then (kv.1,u) else kv):=by
 unfold KV at r ⊢
 induction r with
 | nil=>exact .nil
 | @cons p q ps qs h t ih =>
  rw [List.map_cons,List.map_cons]
  refine .cons ?_ ih
  obtain ⟨h1,h2⟩:=h
  by_cases e:p.1=k
  ·rw [if_pos e,if_pos (h1.symm.trans e)];exact ⟨h1,ry⟩
  ·rw [if_neg e,if_neg (fun z=>e (h1.trans z))];exact ⟨h1,h2⟩
theorem KV.put {kvs:List (κ × V)} {vs:List (κ × Value)} (r:KV kvs vs) (k : κ) {y:V} {u:Value} (ry:RelV y u):KV (b8 kvs k y) (stored vs k u):=by
 unfold b8 stored
 rw [r.any k]
 by_cases e:(vs.any fun kv=>decide (kv.1=k))=true
 ·rw [if_pos e,if_pos e];exact r.repl k ry
 ·rw [if_neg e,if_neg e];exact Paired.snoc r ⟨rfl,ry⟩
theorem KV.length {kvs:List (κ × V)} {vs:List (κ × Value)} (r:KV kvs vs):kvs.length=vs.length:=Paired.length r
end
theorem fJ {P:Program} {w:World} {k:Key} {u:Value} (r:RelV (kV k) u):(aJ P w).is k u=true:=by
 cases k with
 | inl i=>obtain ⟨t,e⟩:=(show ∃ t,u=Value.int i t from r);subst e;exact nh P w i t
 | inr x=>obtain ⟨t,e⟩:=(show ∃ t,u=Value.str x t from r);subst e;exact ni P w x t
theorem jB {P:Program} {w:World}:∀ {ks:List Key} {us:List Value},Vals (ks.map kV) us->ItemsAre (aJ P w) ks us
 | [],_,r=>by rw [List.map_nil] at r;cases r;exact .nil
 | k::ks,_,r=>by
   rw [List.map_cons] at r
   cases r with
   | cons h t=>exact .cons (fJ h) (jB t)
noncomputable abbrev KT (H:Hp):List (List Key×V)->List (List Key×Addr×Value)->Prop:=Paired fun p q=>p.1=q.1/\H q.2.1=some (.tup (p.1.map kV))/\RelV p.2 q.2.2
theorem KT.val {H:Hp} {kvs:List (List Key×V)} {xs:List (List Key×Addr×Value)} (r:KT H kvs xs) (k:List Key):RelO (bu kvs k) ((atKey xs k).map (·.2)):=by
 induction r with
 | nil=>exact True.intro
 | @cons p q ps qs h t ih =>
  obtain ⟨h1,_,h2⟩:=h
  by_cases e:p.1=k
  ·have e':q.1=k:=h1.symm.trans e
   have b:atKey (q::qs) k=some q.2:=by simp [atKey,List.find?_cons,e']
   rw [e8 e,b];exact h2
  ·have e' : ¬ q.1=k:=fun z=>e (h1.trans z)
   have b:atKey (q::qs) k=atKey qs k:=by simp [atKey,List.find?_cons,e']
   rw [e9 e,b];exact ih
theorem KT.repl {H:Hp} {kvs:List (List Key×V)} {xs:List (List Key×Addr×Value)} (r:KT H kvs xs) (k:List Key) {y:V} {u:Value} (ry:RelV y u) :
 KT H (kvs.map fun kv=>if kv.1=k then (kv.1,y) else kv) (xs.map (putAt k u)):=by
 induction r with
 | nil=>exact .nil
 | @cons p q ps qs h t ih =>
  rw [List.map_cons,List.map_cons]
  refine .cons ?_ ih
  obtain ⟨h1,h2,j⟩:=h
  unfold putAt
  by_cases e:p.1=k
  ·rw [if_pos e,if_pos (h1.symm.trans e)];exact ⟨h1,h2,ry⟩
  ·rw [if_neg e,if_neg (fun z=>e (h1.trans z))];exact ⟨h1,h2,j⟩
theorem KT.put {H:Hp} {kvs:List (List Key×V)} {xs:List (List Key×Addr×Value)} (r:KT H kvs xs) (k:List Key) {b:Addr} {y:V} {u:Value} (hb:H b=some (.tup (k.map kV))) (ry:RelV y u) :
 KT H (b8 kvs k y) (storedH xs k b u):=by
 have e:(kvs.any fun kv=>decide (kv.1=k))=(atKey xs k).isSome:=by
  rw [kJ,(r.val k).isSome_eq,Option.isSome_map]
 unfold b8 storedH
 rw [e]
 by_cases q:(atKey xs k).isSome=true
 ·rw [if_pos q,if_pos q];exact r.repl k ry
 ·rw [if_neg q,if_neg q];exact Paired.snoc r ⟨rfl,hb,ry⟩
theorem KT.keeps {H H':Hp} {kvs:List (List Key×V)} {xs:List (List Key×Addr×Value)} (r:KT H kvs xs) (j:∀ b ys,H b=some (.tup ys)->H' b=some (.tup ys)):KT H' kvs xs :=
 Paired.mapP r fun _ _ z=>⟨z.1,j _ _ z.2.1,z.2.2⟩
section
variable {P:Program} {w:World} {H:Hp} {h:Heap} {a:Addr}
theorem w5 {u:HO} (ok:HOk P w H h) (e:Rd H a u):ObjOk P w H h a u:=e.ok ok
theorem i3 {kvs:List (Key×V)} (ok:HOk P w H h) (e:Rd H a (.dK kvs)):kvs.length<=sizeLine/\(a==sysModules)=false /\ ∃ vs,KV kvs vs/\h.DictOf (aJ P w) a vs :=
 show ObjOk P w H h a (.dK kvs) from w5 ok e
theorem kj {kvs:List (Key×V)} (ok:HOk P w H h) (e:H a=some (.dK kvs)):kvs.length<=sizeLine/\(a==sysModules)=false /\ ∃ vs,KV kvs vs/\h.DictOf (aJ P w) a vs:=i3 ok (.inl e)
theorem eX {ks:List Key} (ok:HOk P w H h) (e:H a=some (.tup (ks.map kV))):(tupleKind (aJ P w)).is h ks a:=by
 obtain ⟨_,its,r,o,h1,h2,n,j⟩:=(show ObjOk P w H h a (.tup (ks.map kV)) from ok a _ e)
 exact ⟨o,its.toArray,n,h1,h2,j,by simpa using jB r⟩
theorem i4 {kvs:List (List Key×V)} (ok:HOk P w H h) (e:Rd H a (.dT kvs)):kvs.length<=sizeLine/\(a==sysModules)=false /\
 ∃ xs,KT H kvs xs/\h.DictOfH (tupleKind (aJ P w)) a xs:=by
 obtain ⟨z,y,xs,r,o,es,ep,h1,h2,j,n,B⟩:=(show ObjOk P w H h a (.dT kvs) from w5 ok e)
 refine ⟨z,y,xs,r,o,es,ep,h1,h2,j,n,fun x hx => ?_,B⟩
 have all:∀ {l:List (List Key×V)} {m:List (List Key×Addr×Value)},KT H l m -> ∀ x∈m,(tupleKind (aJ P w)).is h x.1 x.2.1:=by
  intro l m q
  induction q with
  | nil=>intro x hx;exact nomatch hx
  | @cons p q ps qs hq t ih =>
   intro x hx
   rcases List.mem_cons.mp hx with e | hx
   ·subst e
    exact eX ok (by rw [<- hq.1];exact hq.2.1)
   ·exact ih x hx
 exact all r x hx
theorem AM {kvs:List (List Key×V)} (ok:HOk P w H h) (e:H a=some (.dT kvs)):kvs.length<=sizeLine/\(a==sysModules)=false /\
 ∃ xs,KT H kvs xs/\h.DictOfH (tupleKind (aJ P w)) a xs:=i4 ok (.inl e)
end
noncomputable def DGet (H:Hp) (a:Addr) (y:V) (r:Option V):Prop :=
 (∃ kvs k,Rd H a (.dK kvs)/\y=kV k/\r=bu kvs k) ∨ ∃ kvs k b,Rd H a (.dT kvs)/\y = .ref b/\H b=some (.tup (k.map kV))/\r=bu kvs k
noncomputable def DPut (H:Hp) (a:Addr) (y v:V) (H':Hp):Prop :=
 (∃ kvs k,H a=some (.dK kvs)/\y=kV k/\kvs.length < sizeLine/\H'=upd H a (.dK (b8 kvs k v))) ∨
 ∃ kvs k b,H a=some (.dT kvs)/\y = .ref b/\H b=some (.tup (k.map kV))/\kvs.length < sizeLine/\H'=upd H a (.dT (b8 kvs k v))
theorem DGet.k {H:Hp} {a:Addr} {kvs:List (Key×V)} {k:Key} (e:H a=some (.dK kvs)):DGet H a (kV k) (bu kvs k) := .inl ⟨kvs,k, .inl e,rfl,rfl⟩
theorem DGet.t {H:Hp} {a b:Addr} {kvs:List (List Key×V)} {k:List Key} (e:H a=some (.dT kvs)) (eb:H b=some (.tup (k.map kV))):DGet H a (.ref b) (bu kvs k) := .inr ⟨kvs,k,b, .inl e,rfl,eb,rfl⟩
theorem DPut.k {H:Hp} {a:Addr} {kvs:List (Key×V)} {k:Key} {v:V} (e:H a=some (.dK kvs)) (hl:kvs.length < sizeLine):DPut H a (kV k) v (upd H a (.dK (b8 kvs k v))) := .inl ⟨kvs,k,e,rfl,hl,rfl⟩
theorem DPut.t {H:Hp} {a b:Addr} {kvs:List (List Key×V)} {k:List Key} {v:V} (e:H a=some (.dT kvs)) (eb:H b=some (.tup (k.map kV))) (hl:kvs.length < sizeLine) :
 DPut H a (.ref b) v (upd H a (.dT (b8 kvs k v))) := .inr ⟨kvs,k,b,e,rfl,eb,hl,rfl⟩
section
variable {X:Cx} {pins:List (Addr×Obj)} {σ:St} {H:Hp} {s:Shared} {a:Addr} {y v:V} {u r:Value} {o:Option V} {A:Around} {E:Value->Shared->Prop}
theorem Inv.big (I:Inv X pins σ H s):sysModules < s.heap.objs.size:=by
 have h:mainGlobals < s.heap.objs.size:=(I.mod.glob.keeps I.bk).lt
 exact Nat.lt_trans (by decide) h
theorem qF {Q:Value->Shared->Prop} (n:A.units+1 < cLine) (I:Inv X pins σ H s) (g:DGet H a y (some v)) (ry:RelV y u) (h:∀ w' s',Inv X pins σ H s'->RelV v w'->Q w' s') :
 wpAny (model X.prog X.w) A (getItem (.ref a) u) Q E s:=by
 rcases g with ⟨kvs,k,e,ey,l⟩ | ⟨kvs,k,b,e,ey,eb,l⟩
 ·subst ey
  obtain ⟨z,hd,vs,rel,dd⟩:=i3 I.hok e
  obtain ⟨w',hw,rw'⟩:=RelO.some_of (v:=v) (o:=valueAt vs k) (by rw [l];exact rel.val k)
  exact wpAny_getItem_of (fJ ry) dd.mapOf hw (h w' _ (I.tok _) rw')
 ·subst ey
  cases (show u=Value.ref b from ry)
  obtain ⟨z,hd,xs,rel,dd⟩:=i4 I.hok e
  obtain ⟨w',hw,rw'⟩:=RelO.some_of (v:=v) (o:=(atKey xs k).map (·.2)) (by rw [l];exact rel.val k)
  obtain ⟨p,q,j⟩:=Option.map_eq_some_iff.mp hw
  refine wpAny_getItem_heap (tupleKind_room_in1 n) (eX I.hok eb) dd q ?_
  rw [j]
  exact h w' _ (I.tok _) rw'
theorem xc {Q:Value->Shared->Prop} (j:A.units+1 < cLine) (I:Inv X pins σ H s) (g:DGet H a y o) (ry:RelV y u) (h:∀ s',Inv X pins σ H s'->Q (.bool (!o.isSome)) s') :
 wpAny (model X.prog X.w) A (compareOp .NotIn u (.ref a)) Q E s:=by
 rcases g with ⟨kvs,k,e,ey,l⟩ | ⟨kvs,k,b,e,ey,eb,l⟩
 ·subst ey
  obtain ⟨z,hd,vs,rel,dd⟩:=i3 I.hok e
  refine wpAny_notIn_of (fJ ry) hd dd.mapOf ?_
  rw [<- (rel.val k).isSome_eq, <- l]
  exact h _ (I.tok _)
 ·subst ey
  cases (show u=Value.ref b from ry)
  obtain ⟨z,hd,xs,rel,dd⟩:=i4 I.hok e
  refine wpAny_notIn_heap (tupleKind_room_in1 j) (eX I.hok eb) hd dd ?_
  have q:=(rel.val k).isSome_eq
  rw [Option.isSome_map] at q
  rw [<- q, <- l]
  exact h _ (I.tok _)
theorem j5 {h':Heap} {t':Nat} {ob:HO} (I:Inv X pins σ H s) (mu:Mut (H a)) (hs:Heap.SameBut a s.heap h') (he:∃ q,h'.get? a=some q) (new:ObjOk X.prog X.w (upd H a ob) h' a ob) :
 Inv X pins σ (upd H a ob) { s with heap:=h',toks:=t' } :=
 I.write (x:=a) (e:=a) mu (.inl rfl) (fun b q hb z=>(hs.2 b hb).trans z) he new
theorem qG {P:Program} {w:World} {H':Hp} {h':Heap} {kvs:List (Key×V)} {vs:List (Key×Value)} (z:kvs.length<=sizeLine) (hd:(a==sysModules)=false) (rel:KV kvs vs) (dd:h'.DictOf (aJ P w) a vs) :
 ObjOk P w H' h' a (.dK kvs):=⟨z,hd,vs,rel,dd⟩
theorem qH {H':Hp} {Q:Unit->Shared->Prop} (B:A.units+1 < cLine) (I:Inv X pins σ H s) (g:DPut H a y v H') (ry:RelV y u) (rv:RelV v r) (h:∀ s',Inv X pins σ H' s'->Q () s') :
 wpAny (model X.prog X.w) A (setItem (.ref a) u r) Q E s:=by
 rcases g with ⟨kvs,k,e,ey,l,eH⟩ | ⟨kvs,k,b,e,ey,eb,l,eH⟩
 ·subst ey eH
  obtain ⟨z,hd,vs,rel,dd⟩:=kj I.hok e
  have n:vs.length<=sizeLine:=by rw [<- rel.length];exact z
  have hl:(b8 kvs k v).length<=sizeLine:=by have:=cg kvs k v;lia
  refine wpAny_setItem_pairs (hsz:=n) (fJ ry) dd fun h' dd' hs=>h _ ?_
  have he:∃ q,h'.get? a=some q:=let ⟨q,_,_,j,_⟩:=dd'; ⟨q,j⟩
  exact j5 I (by rw [e];exact True.intro) hs he (qG hl hd (rel.put k rv) dd')
 ·subst ey eH
  cases (show u=Value.ref b from ry)
  obtain ⟨z,hd,xs,rel,dd⟩:=AM I.hok e
  have n:xs.length<=sizeLine:=by rw [<- Paired.length rel];exact z
  have hl:(b8 kvs k v).length<=sizeLine:=by have:=cg kvs k v;lia
  refine wpAny_setItem_heap (hsz:=n) (tupleKind_room_in1 B) (eX I.hok eb) dd fun h' dd' hs=>h _ ?_
  obtain ⟨q,es,ep,j,h2,F,G,_,J⟩:=dd'
  refine j5 I (by rw [e];exact True.intro) hs ⟨q,j⟩ ⟨hl,hd,_,(rel.put k eb rv).keeps fun c ys ec => ?_,q,es,ep,j,h2,F,G,J⟩
  rw [aj (Ar ec e (fun z=>nomatch z))]
  exact ec
end
theorem kK {P:Program} {w:World} {H:Hp} (h:Heap) (hb:sysModules < h.objs.size):ObjOk P w H (h.push { cls := .type "dict",data := .dict #[] }) h.objs.size (.dK []) :=
 ⟨Nat.zero_le _,beq_eq_false_iff_ne.mpr (Ne.symm (Nat.ne_of_lt hb)),[], .nil,Heap.DictOf.new h⟩
theorem tR {P:Program} {w:World} {H:Hp} (h:Heap) (hb:sysModules < h.objs.size):ObjOk P w H (h.push { cls := .type "dict",data := .dict #[] }) h.objs.size (.dT []) :=
 ⟨Nat.zero_le _,beq_eq_false_iff_ne.mpr (Ne.symm (Nat.ne_of_lt hb)),[], .nil,_, #[],0,Heap.get?_push_size _ rfl,⟨rfl,rfl,rfl⟩,rfl,rfl,List.nodup_nil⟩
noncomputable def zq:TE:=fun _ H Q => ∀ p,H p=none->Q (.ref p) (upd H p (.dK []))
noncomputable def zr:TE:=fun _ H Q => ∀ p,H p=none->Q (.ref p) (upd H p (.dT []))
section
variable {X:Cx} {pos:Pos}
theorem tS:PE X (.Dict [] [] pos) zq:=fun pins s σ H Q I h =>
 wpAny_Dict_empty ⟨.ref s.heap.objs.size,_,I.laid (a:=s.heap.objs.size) (o := .dK []) (t':=s.toks) (fun _ _ q=>Heap.get?_push_of_some _ q) (Nat.le_refl _) (kK s.heap I.big),rfl,h _ (I.hok.fresh (Nat.le_refl _))⟩
theorem tT:PE X (.Dict [] [] pos) zr:=fun pins s σ H Q I h =>
 wpAny_Dict_empty ⟨.ref s.heap.objs.size,_,I.laid (a:=s.heap.objs.size) (o := .dT []) (t':=s.toks) (fun _ _ q=>Heap.get?_push_of_some _ q) (Nat.le_refl _) (tR s.heap I.big),rfl,h _ (I.hok.fresh (Nat.le_refl _))⟩
end
structure M2 (X:Cx) (o:Expr) (m:Str) (apos:Pos) (e f:Expr) (cpos:Pos):Prop where
 base:attributeBase o m X.env (eval o X.env)=eval o X.env
 few:((backTo cpos (starEach [e,f] X.env)).all (fun x => !x.1)&&(backToKw cpos (keywordEach [] X.env)).all (fun x=>x.1.isSome)
  && decide (([e,f]:List Expr).length+([]:List Keyword).length+(if ([]:List Keyword).isEmpty then 0 else 1) < 30))=true
 line:(apos.endLine==cpos.line)=true
 trees:backTo cpos (starEach [e,f] X.env)=[(false,eval e X.env),(false,eval f X.env)]
noncomputable def IsD (H:Hp) (a:Addr):Prop:=(∃ kvs,Rd H a (.dK kvs)) ∨ ∃ kvs,Rd H a (.dT kvs)
theorem eY {X:Cx} {pins:List (Addr×Obj)} {σ:St} {H:Hp} {s:Shared} {a:Addr} (I:Inv X pins σ H s) (d:IsD H a) :
 s.TypeIs (.ref a) "dict" /\ (∀ b,Value.ref a = .ref b -> ∃ ob,s.heap.get? b=some ob/\ob.dict=none)/\(a==sysModules)=false:=by
 rcases d with ⟨kvs,e⟩ | ⟨kvs,e⟩
 ·obtain ⟨_,hd,vs,_,dd⟩:=i3 I.hok e
  refine ⟨dd.typeIs,fun b q => ?_,hd⟩
  cases q
  obtain ⟨ob,_,_,h1,h2,_⟩:=dd
  exact ⟨ob,h1,h2.2.1⟩
 ·obtain ⟨_,hd,xs,_,dd⟩:=i4 I.hok e
  refine ⟨dd.typeIs,fun b q => ?_,hd⟩
  cases q
  obtain ⟨ob,_,_,h1,h2,_⟩:=dd
  exact ⟨ob,h1,h2.2.1⟩
section
variable {X:Cx} {pins:List (Addr×Obj)} {σ:St} {H:Hp} {s:Shared} {a:Addr} {y d:V} {u r:Value} {o:Option V} {A:Around} {E:Value->Shared->Prop}
theorem zt {Q:Value->Shared->Prop} (j:A.units+1 < cLine) (I:Inv X pins σ H s) (g:DGet H a y o) (ry:RelV y u) (rd:RelV d r) (h:∀ w' s',Inv X pins σ H s'->RelV (o.getD d) w'->Q w' s') :
 wpAny (model X.prog X.w) A (call (.builtin "dict.get") [.ref a,u,r]) Q E s:=by
 rcases g with ⟨kvs,k,e,ey,l⟩ | ⟨kvs,k,b,e,ey,eb,l⟩
 ·subst ey
  obtain ⟨z,hd,vs,rel,dd⟩:=i3 I.hok e
  refine call_meetsIn PySem.F.slot_dict_get dd.typeIs PySem.F.entry_dict_get (PySem.F.args_dict_get_3 _ _ _) (meets_dict_get_default (aJ X.prog X.w) a (fJ ry) hd r) ⟨_,dd.mapOf,h _ _ (I.tok _) ?_⟩
  rw [l]
  exact (rel.val k).getD rd
 ·subst ey
  cases (show u=Value.ref b from ry)
  obtain ⟨z,hd,xs,rel,dd⟩:=i4 I.hok e
  refine call_meetsIn PySem.F.slot_dict_get dd.typeIs PySem.F.entry_dict_get (PySem.F.args_dict_get_3 _ _ _) (meetsH_dict_get_default (tupleKind (aJ X.prog X.w)) a b hd r) ⟨tupleKind_room_in1 j,k,xs,eX I.hok eb,dd,h _ _ (I.tok _) ?_⟩
  rw [l]
  exact (rel.val k).getD rd
end
noncomputable def zu (td ty tx:TE):TE:=fun σ H Q=>td σ H fun x H1 => ∃ a,x = .ref a/\IsD H1 a/\ty σ H1 fun y H2=>tx σ H2 fun z H3 => ∃ o,DGet H3 a y o/\Q (o.getD z) H3
section
variable {X:Cx} {o e f:Expr} {apos cpos:Pos} {td ty tx:TE}
theorem tU (n:X.A.units+1 < cLine) (ho:PE X o td) (he:PE X e ty) (hf:PE X f tx) (m:M2 X o "get" apos e f cpos):PE X (.Call (.Attribute o "get" apos) [e,f] [] cpos) (zu td ty tx):=by
 intro pins s σ H Q I h
 refine wpAny_Call_method m.base m.few m.line PySem.F.plainAttrs_dict PySem.F.slot_dict_get PySem.F.type_dict_get (thn (ho pins s σ H _ I h) fun u s1 ⟨x,H1,j,rx,a,ex,d,q⟩ => ?_)
 subst ex
 obtain rfl:u=Value.ref a:=rx
 obtain ⟨t1,B,_⟩:=eY j d
 refine ⟨t1,B, ?_⟩
 rw [m.trees]
 refine Calls.callWith_builtin rfl (Calls.evalArgs_plain (Calls.spliced_cons (thn (he pins s1 σ H1 _ j q) fun iv s2 ⟨y,H2,G,ry,J⟩ =>
  Calls.spliced_cons (thn (hf pins s2 σ H2 _ G J) fun fv s3 ⟨z,L,O,rz,ov,g,R⟩=>Calls.spliced_nil ?_))))
 exact zt n O g ry rz fun w' s4 S rw'=>⟨_,L,S,rw',R⟩
end
end
section
noncomputable def aX (elt:Expr) (gens:List Comprehension) (scope:Scope) (pos:Pos) (d:Nat) (acc:Value) (env:Env) (k:Sem Fin):Sem Fin :=
 match gens[d+1]? with
 | some g'=>eval g'.iter env >>= fun x=>standAt g'.iter.pos >>= fun _=>foldedSetIterable g'.iter env x >>= fun x=>holding [x] (pyIter x) >>= fun it' =>
    runOwn (.compStart (.ListComp elt gens scope pos) (d+1) it' acc env) env >>= fun _=>k
 | none=>(eval elt env >>= fun x=>call (.builtin "list.append") [acc,x] >>= fun _=>pure ()) >>= fun _=>k
noncomputable def b9 (ifs:List Expr) (env:Env):Sem Bool :=
 forIn ifs true fun c r=>if r=true then do let ok <- isTrue c env (eval c env);pure (ForInStep.yield ok) else pure (ForInStep.yield r)
theorem kL (elt target iter:Expr) (ifs:List Expr) (gens:List Comprehension) (scope:Scope) (pos:Pos) (d:Nat) (it acc:Value) (env:Env)
 (hd:gens[d]? = some ⟨target,iter,ifs,0⟩) (j:∀ g',gens[d+1]? = some g'->g'.is_async=0) :
 compTurn (.ListComp elt gens scope pos) d it acc env=(standAt iter.pos >>= fun _=>pyNext it >>= fun r=>match r with
  | none=>pure (.done .next)
  | some v=>letOwnedTupleGo target it v >>= fun _=>assign target env v >>= fun _=>b9 ifs env >>= fun ok =>
    (if ok=true then aX elt gens scope pos d acc env (again (.compLoop (.ListComp elt gens scope pos) d it acc env)) else again (.compLoop (.ListComp elt gens scope pos) d it acc env))):=by
 unfold compTurn
 simp only [hd]
 unfold aX b9
 cases hn:gens[d+1]? with
 | none=>rfl
 | some g' =>
   obtain ⟨t',i',f',a'⟩:=g'
   have e:a'=0:=j _ hn
   subst e
   rfl
noncomputable abbrev TC:=St->Hp->(St->Hp->Prop)->Prop
noncomputable def bT (J:It) (g:TG) (tb:TC) (N:St->Hp->Prop) (σ:St) (H:Hp):Prop :=
 ∃ W:Nat->Nat->St->Hp->Prop,(∃ m,W 0 m σ H) /\ ∀ i m σ H,W i m σ H ->
  (J.stop i H/\N σ H)∨(J.go i H /\ ∃ N':St->Hp->Prop,(∀ σ' H',N' σ' H' -> ∃ m',m' < m/\W (i+1) m' σ' H') /\ ∀ x H',J.yld i H x H'->g x σ H' fun σ2 H2=>tb σ2 H2 N')
noncomputable def PB (X:Cx) (F:Sem Fin->Sem Fin) (t:TC):Prop :=
 ∀ (pins:List (Addr×Obj)) (s:Shared) (σ:St) (H:Hp) (N:St->Hp->Prop) (k:Sem Fin) (Q:Fin->Shared->Prop) (E:Value->Shared->Prop),Inv X pins σ H s->t σ H N ->
  (∀ s' σ' H',Inv X pins σ' H' s'->N σ' H'->wpAny (model X.prog X.w) X.A k Q E s')->wpAny (model X.prog X.w) X.A (F k) Q E s
section
variable {X:Cx}
theorem nox {α:Type} {m:Sem α} {Q : α -> Shared->Prop} {E:Value->Shared->Prop} {s:Shared} (hx:∀ e s,X.xe e s->False) (h:wpAny (model X.prog X.w) X.A m Q X.xe s):wpAny (model X.prog X.w) X.A m Q E s :=
 wpAny_mono h (fun _ _ q=>q) fun e s' q=>(hx e s' q).elim
noncomputable def i5 (ts:List TT) (tb:TC):TC:=match ts with
 | [] => tb
 | t::r=>fun σ H N=>t σ H fun b H1=>if b=true then i5 r tb σ H1 N else N σ H1
theorem i6 {env:Env} {M:Model} {A:Around} {Q:Bool->Shared->Prop} {E:Value->Shared->Prop} {s:Shared} (h:Q false s):∀ ifs:List Expr,
 wpAny M A (forIn ifs false fun c r=>if r=true then do let ok <- isTrue c env (eval c env);pure (ForInStep.yield ok) else pure (ForInStep.yield r)) Q E s
 | [] => wpAny_pure h
 | c::r=>by
   rw [List.forIn_cons]
   simp only [Bool.false_eq_true,if_false]
   exact wpAny_bind (wpAny_pure (i6 h r))
theorem kM (hx:∀ e s,X.xe e s->False) {tb:TC} {N:St->Hp->Prop}:∀ {ifs:List Expr} {ts:List TT},Paired (fun c t=>PT X c t) ifs ts ->
 ∀ (pins:List (Addr×Obj)) (s:Shared) (σ:St) (H:Hp) (E:Value->Shared->Prop),Inv X pins σ H s->i5 ts tb σ H N ->
 wpAny (model X.prog X.w) X.A (b9 ifs X.env) (fun ok s' => ∃ H',Inv X pins σ H' s'/\if ok=true then tb σ H' N else N σ H') E s
 | _,_, .nil=>fun pins s σ H E I h=>wpAny_pure ⟨H,I,by rw [if_pos rfl];exact h⟩
 | c::ifs,_, .cons (b:=t) q hr=>by
   intro pins s σ H E I h
   have ih:=kM hx hr (tb:=tb) (N:=N) pins
   unfold b9 at ih ⊢
   rw [List.forIn_cons]
   simp only [if_true]
   refine wpAny_bind (wpAny_bind (nox hx (thn (q pins s σ H _ I h) fun b s1 ⟨H1,n,j⟩=>wpAny_pure ?_)))
   cases b with
   | false =>
     rw [if_neg Bool.false_ne_true] at j
     exact i6 ⟨H1,n,by rw [if_neg Bool.false_ne_true];exact j⟩ ifs
   | true =>
     rw [if_pos rfl] at j
     exact ih s1 σ H1 E n j
theorem tV (hx:∀ e s,X.xe e s->False) {F:Sem Fin->Sem Fin} {tb:TC} (hb:PB X F tb) {ifs:List Expr} {ts:List TT} (q:Paired (fun c t=>PT X c t) ifs ts) :
 PB X (fun k=>b9 ifs X.env >>= fun ok=>if ok=true then F k else k) (i5 ts tb):=by
 intro pins s σ H N k Q E I h hk
 refine wpAny_bind (thn (kM hx q pins s σ H E I h) fun ok s1 ⟨H1,n,j⟩ => ?_)
 cases ok with
 | false =>
   rw [if_neg Bool.false_ne_true] at j ⊢
   exact hk s1 σ H1 n j
 | true =>
   rw [if_pos rfl] at j ⊢
   exact hb pins s1 σ H1 N k Q E n j hk
noncomputable def w6 (p:Addr) (te:TE):TC:=fun σ H N=>te σ H fun x H1 => ∃ xs,H1 p=some (.lst xs)/\xs.length < sizeLine/\N σ (upd H1 p (.lst (xs++[x])))
theorem j6 (hx:∀ e s,X.xe e s->False) {elt:Expr} {gens:List Comprehension} {scope:Scope} {pos:Pos} {d:Nat} {p:Addr} {te:TE} (he:PE X elt te) (hd:gens[d+1]? = none) :
 PB X (aX elt gens scope pos d (.ref p) X.env) (w6 p te):=by
 intro pins s σ H N k Q E I h j
 unfold aX
 rw [hd]
 refine wpAny_bind (wpAny_bind (nox hx (thn (he pins s σ H _ I h) fun u s1 ⟨x,H1,n,q,xs,z,l1,B⟩ => ?_)))
 refine wpAny_bind (nox hx (thn (jz (X:=X) pins s1 σ H1 (.ref p) [x] (.ref p) [u] (fun _ H2=>N σ H2) n rfl (.cons q .nil) ⟨p,xs,x,rfl,rfl,z,l1,B⟩) fun v s2 ⟨_,H2,F,_,G⟩ => ?_))
 exact wpAny_pure (j s2 σ H2 F G)
theorem jC (hx:∀ e s,X.xe e s->False) (O:X.calm=true) {elt target iter:Expr} {ifs:List Expr} {gens:List Comprehension} {scope:Scope} {pos:Pos} {d:Nat} {acc:Value}
 (hd:gens[d]? = some ⟨target,iter,ifs,0⟩) (Y:∀ g',gens[d+1]? = some g'->g'.is_async=0) {g:TG} (Z:PG X target g) {tb:TC}
 (hb:PB X (fun k=>b9 ifs X.env >>= fun ok=>if ok=true then aX elt gens scope pos d acc X.env k else k) tb)
 {pins:List (Addr×Obj)} {s:Shared} {σ:St} {H:Hp} {N:St->Hp->Prop} {it:Addr} {fp:List Addr} {tn:Nat->Heap->Prop} {J:It} (I:Inv X pins σ H s) (T:eS X.prog X.w X.K target J fp it tn)
 (t0:tn 0 s.heap) (f2:∀ b∈fp,bF X pins H b) (h:bT J g tb N σ H) :
 codeAny (model X.prog X.w) X.A (.compLoop (.ListComp elt gens scope pos) d (.ref it) acc X.env) (fun r s'=>match r with | .ok _ => ∃ σ' H',Inv X pins σ' H' s'/\N σ' H' | .error _=>False) s:=by
 obtain ⟨W,⟨m0,w0⟩,turn⟩:=h
 have stat:∀ {H':Hp},(∀ b∈fp,H' b=none) -> ∀ b∈fp,bF X pins H' b:=fun hn b hb=>⟨hn b hb,(f2 b hb).2⟩
 refine codeAny_loop rfl (fun n s' => ∃ i σ' H',Inv X pins σ' H' s'/\tn i s'.heap/\(∀ b∈fp,H' b=none)/\W i n σ' H') ?_ m0 ⟨0, σ,H,I,t0,fun b hb=>(f2 b hb).1,w0⟩
 rintro n s3 ⟨i, σ3,B,R,q,z,w3⟩
 show wpAny _ _ ((compTurn (.ListComp elt gens scope pos) d (.ref it) acc X.env).onRaise (fun x=>do noteFrame x X.env;theTreesLotGoes x)) _ _ s3
 refine wpAny_noted ?_
 rw [kL elt target iter ifs gens scope pos d (.ref it) acc X.env hd Y]
 refine wpAny_bind (wpAny_standAt (wpAny_bind ?_))
 show wpAny (model X.prog X.w) X.A _ _ _ s3
 rcases turn i n σ3 B w3 with ⟨stop,qn⟩ | ⟨go,N',hN,step⟩
 ·refine thn (T.done X rfl rfl rfl O i pins s3 σ3 B _ R (stat z) q stop) fun r s4 ⟨hr,I4⟩ => ?_
  subst hr
  exact wpAny_pure ⟨σ3,B,I4,qn⟩
 ·refine thn (T.item X rfl rfl rfl O i pins s3 σ3 B _ R (stat z) q go) fun r s4 ⟨u,hr,h4⟩ => ?_
  subst hr
  refine wpAny_bind (thn h4 fun _ s5 ⟨x,S,I5,r5,y5,j,F⟩ => ?_)
  have G:=I5.pinned (stat F) (T.obj _ _ j)
  refine wpAny_bind (nox hx (thn (Z _ s5 σ3 S x u _ G r5 (step x S y5)) fun _ s6 ⟨σ6,H6,I6,q6⟩ => ?_))
  refine hb _ s6 σ6 H6 N' (again (.compLoop (.ListComp elt gens scope pos) d (.ref it) acc X.env)) _ _ I6 q6 fun s7 σ7 U L n7 => ?_
  obtain ⟨m',hm,w7⟩:=hN σ7 U n7
  refine wpAny_pure ⟨rfl,m',hm,i+1, σ7,U,L.unpinned,T.keep _ _ _ j fun b hb o e=>(L.pin (b,o) (List.mem_append_right _ (List.mem_append_right _ (cA hb e)))).1,fun b hb => ?_,w7⟩
  obtain ⟨o,e,dd⟩:=T.obj _ _ j b hb
  exact (L.pin (b,o) (List.mem_append_right _ (List.mem_append_right _ (cA hb e)))).2.1
theorem i7 {elt target iter:Expr} {ifs:List Expr} {gens:List Comprehension} {scope:Scope} {pos:Pos} {d:Nat} {it acc:Value} {env:Env} {prog:Program} {w:World} {A:Around} {R:Result->Shared->Prop} {s:Shared}
 (hd:gens[d]? = some ⟨target,iter,ifs,0⟩)
 (h0:codeAny (model prog w) A (.compLoop (.ListComp elt gens scope pos) d it acc env) R s)
 (h:wpAny (model prog w) A (pyIter it) (fun it' s'=>codeAny (model prog w) A (.compLoop (.ListComp elt gens scope pos) d it' acc env) R s')
   (notedBy (model prog w) A env fun x s'=>R (.error x) s') s) :
 codeAny (model prog w) A (.compStart (.ListComp elt gens scope pos) d it acc env) R s:=by
 refine codeAny_of_tree ?_
 show wpAny _ _ ((compStart (.ListComp elt gens scope pos) d it acc env).onRaise (fun x=>do noteFrame x env;standAt theWindowsPlace)) _ _ s
 refine wpAny_notedAt ?_
 unfold compStart
 have j:(clausesOf (.ListComp elt gens scope pos))[d]? = some ⟨target,iter,ifs,0⟩:=hd
 rw [j]
 show wpAny _ _ (ask >>= _) _ _ s
 refine wpAny_bind (wpAny_askSetting (wpAny_ite ?_))
 split
 ·first
   | exact wpAny_bind (wpAny_pure (wpAny_pure (And.intro rfl h0)))
   | exact wpAny_pure (And.intro rfl h0)
 ·first
   | exact wpAny_bind (wpAny_rule (wpAny_bind (wpAny_standAt (wpAny_bind (wpAny_mono h (fun it' s' h'=>wpAny_pure (And.intro rfl h')) fun _ _ x=>x)))))
   | (refine wpAny_bind (wpAny_rule ?_);show wpAny _ _ (standAt iter.pos >>= _) _ _ s;exact wpAny_bind (wpAny_standAt (wpAny_bind (wpAny_mono h (fun it' s' h'=>wpAny_pure (And.intro rfl h')) fun _ _ x=>x))))
theorem jD (hx:∀ e s,X.xe e s->False) (n:X.calm=true) {elt target iter:Expr} {ifs:List Expr} {gens:List Comprehension} {scope:Scope} {pos:Pos} {d:Nat} {acc:Value}
 (hd:gens[d+1]? = some ⟨target,iter,ifs,0⟩) (q:∀ g',gens[d+1+1]? = some g'->g'.is_async=0) {wi:TI} (hi:PI X target iter wi) {g:TG} (z:PG X target g) {tb:TC}
 (hb:PB X (fun k=>b9 ifs X.env >>= fun ok=>if ok=true then aX elt gens scope pos (d+1) acc X.env k else k) tb)
 (hs:∀ x,foldedSetIterable iter X.env x=pure x) :
 PB X (aX elt gens scope pos d acc X.env) (fun σ H N=>wi σ H fun J H1=>bT J g tb N σ H1):=by
 intro pins s σ H N k Q E I h hk
 unfold aX
 rw [hd]
 refine wpAny_bind (nox hx (thn (hi pins s σ H _ I h) fun v s1 h1 => ?_))
 refine wpAny_bind (wpAny_standAt (wpAny_bind (wpAny_of_eq (hs v) ?_)))
 refine wpAny_bind (wpAny_holding (nox hx (thn h1 fun itv s2 h2 => ?_)))
 obtain ⟨it,fp,tn,J,H2,e,B,T,j,f2,hw⟩:=h2
 subst e
 have loop:=jC (acc:=acc) hx n hd q z hb B T j f2 hw
 refine wpAny_bind (wpAny_runOwn (codeAny_mono (i7 (R:=fun r s'=>match r with | .ok _ => ∃ σ' H',Inv X pins σ' H' s'/\N σ' H' | .error _=>False) hd loop (T.self _ 0 _ _ _ j loop)) fun r s3 hr => ?_))
 cases r with
 | error e=>exact hr.elim
 | ok f =>
   obtain ⟨σ3,F,G,L⟩:=hr
   exact hk s3 σ3 F G L
noncomputable def aR (cells:List (Str×Addr)):List (Str×NameKind)->List (Str×Addr)->List (Str×Addr)
 | [],acc=>acc
 | (n,k)::r,acc=>if k == .free then (match cells.lookup n with | some c=>aR cells r ((n,c)::acc) | none=>aR cells r acc) else aR cells r acc
theorem gc {env:Env}:∀ (names:List (Str×NameKind)) (acc:List (Str×Addr)),(∀ x∈names,x.2 = .free->(env.cells.lookup x.1).isSome=true) ->
 (forIn names acc fun (x:Str×NameKind) (r:List (Str×Addr))=>(match x with | (name,kind)=>if (kind==NameKind.free)=true then do let c <- cellOf env name;pure (ForInStep.yield ((name,c)::r)) else pure (ForInStep.yield r):Sem (ForInStep (List (Str×Addr)))))=(pure (aR env.cells names acc):Sem (List (Str×Addr)))
 | [],acc,_=>rfl
 | (n,k)::r,acc,h=>by
  rw [List.forIn_cons]
  have ih:=fun acc'=>gc r acc' fun x hx=>h x (List.mem_cons_of_mem _ hx)
  unfold aR
  by_cases hk:(k==NameKind.free)=true
  ·obtain ⟨c,q⟩:=Option.isSome_iff_exists.mp (h (n,k) List.mem_cons_self (beq_iff_eq.mp hk))
   have j:env.cells.lookup n=some c:=q
   have z:cellOf env n=pure c:=by unfold cellOf;rw [j]
   simp only [hk,if_true,z,j,pure_bind]
   exact ih _
  ·simp only [hk,if_false,pure_bind]
   exact ih _
theorem i8 {scope:Scope} {env:Env} (h:∀ x∈scope.names,x.2 = .free->(env.cells.lookup x.1).isSome=true):closureFor scope env=pure (aR env.cells scope.names []):=by
 unfold closureFor
 have e:=gc (env:=env) scope.names [] h
 simp only [bind_pure]
 exact e
theorem cB {cells:List (Str×Addr)} {y:Str} {c:Addr}:∀ {names:List (Str×NameKind)} {acc:List (Str×Addr)},(y,c)∈aR cells names acc->(y,c)∈acc∨(cells.lookup y=some c/\(y,NameKind.free)∈names)
 | [],acc,h => .inl h
 | (n,k)::r,acc,h=>by
  unfold aR at h
  by_cases hk:(k==NameKind.free)=true
  ·rw [if_pos hk] at h
   have B:k = .free:=beq_iff_eq.mp hk
   subst B
   cases hl:cells.lookup n with
   | none =>
     rw [hl] at h
     rcases cB h with z | ⟨j,q⟩
     ·exact .inl z
     ·exact .inr ⟨j,List.mem_cons_of_mem _ q⟩
   | some c' =>
     rw [hl] at h
     rcases cB h with z | ⟨j,q⟩
     ·rcases List.mem_cons.mp z with e | z
      ·cases e
       exact .inr ⟨hl,List.mem_cons_self⟩
      ·exact .inl z
     ·exact .inr ⟨j,List.mem_cons_of_mem _ q⟩
  ·rw [if_neg hk] at h
   rcases cB h with z | ⟨j,q⟩
   ·exact .inl z
   ·exact .inr ⟨j,List.mem_cons_of_mem _ q⟩
theorem cC {cells:List (Str×Addr)} {y:Str} {c:Addr} (j:cells.lookup y=some c):∀ {names:List (Str×NameKind)} {acc:List (Str×Addr)},((y,c)∈acc∨(y,NameKind.free)∈names)->(y,c)∈aR cells names acc
 | [],acc,h=>by
  rcases h with h | h
  ·exact h
  ·simp at h
 | (n,k)::r,acc,h=>by
  unfold aR
  by_cases hk:(k==NameKind.free)=true
  ·rw [if_pos hk]
   have q:k = .free:=beq_iff_eq.mp hk
   subst q
   cases hl:cells.lookup n with
   | none =>
     refine cC j ?_
     rcases h with h | h
     ·exact .inl h
     ·rcases List.mem_cons.mp h with e | h
      ·cases e;rw [hl] at j;cases j
      ·exact .inr h
   | some c' =>
     refine cC j ?_
     rcases h with h | h
     ·exact .inl (List.mem_cons_of_mem _ h)
     ·rcases List.mem_cons.mp h with e | h
      ·cases e;rw [hl] at j;cases j;exact .inl List.mem_cons_self
      ·exact .inr h
  ·rw [if_neg hk]
   refine cC j ?_
   rcases h with h | h
   ·exact .inl h
   ·rcases List.mem_cons.mp h with e | h
    ·cases e;exact absurd rfl hk
    ·exact .inr h
theorem cv:∀ (names:List (Str×NameKind)) (n:Nat) (acc acc':List (Str×Addr)),cellsFrom n names (acc++acc')=cellsFrom n names acc++acc'
 | [],_,_,_=>rfl
 | (x,k)::r,n,acc,acc'=>by
  unfold cellsFrom
  by_cases j:(k==NameKind.cell)=true
  ·rw [if_pos j,if_pos j]
   exact cv r (n+1) ((x,n)::acc) acc'
  ·rw [if_neg j,if_neg j]
   exact cv r n acc acc'
theorem cw:∀ {names:List (Str×NameKind)} {n:Nat} {acc:List (Str×Addr)} {y:Str} {c:Addr},(y,c)∈cellsFrom n names acc->(y,c)∈acc∨(n<=c/\(y,NameKind.cell)∈names)
 | [],_,_,_,_,h => .inl h
 | (x,k)::r,n,acc,y,c,h=>by
  unfold cellsFrom at h
  by_cases hk:(k==NameKind.cell)=true
  ·rw [if_pos hk] at h
   have j:k = .cell:=beq_iff_eq.mp hk
   subst j
   rcases cw h with z | ⟨q,B⟩
   ·rcases List.mem_cons.mp z with e | z
    ·cases e;exact .inr ⟨Nat.le_refl _,List.mem_cons_self⟩
    ·exact .inl z
   ·exact .inr ⟨Nat.le_of_succ_le q,List.mem_cons_of_mem _ B⟩
  ·rw [if_neg hk] at h
   rcases cw h with z | ⟨q,B⟩
   ·exact .inl z
   ·exact .inr ⟨q,List.mem_cons_of_mem _ B⟩
structure aY (sc osc:Scope) (oN N':List Str) (fr:List (Option Nat)):Prop where
 kind:sc.kind = .function
 nd:(sc.names.map (·.1)).Nodup
 ndN:N'.Nodup
 free:∀ x∈sc.names,x.2 = .free->osc.names.lookup x.1=some .cell∨osc.names.lookup x.1=some .free
 len:fr.length=N'.length
 fr:∀ (i j:Nat) (x:Str),N'[i]? = some x->fr[i]? = some (some j)->oN[j]? = some x/\(x,NameKind.free)∈sc.names
noncomputable def inh (fr:List (Option Nat)) (σ:St):St:=fr.map fun o=>o.bind fun j=>(σ[j]?).join
noncomputable def aZ (X:Cx) (sc:Scope) (L:Addr):Env :=
 { scope:=relabel sc X.env,locals:=L,globals:=X.env.globals,cells:=cellsFrom (L+1) sc.names (aR X.env.cells sc.names []),qual:=X.env.qual,func:=none,code:=X.env.code,frame:=X.env.frame,builtins:=X.env.builtins }
noncomputable def aF (X:Cx) (sc:Scope) (N':List Str) (s:Shared) (H:Hp) (fp:List Addr):Cx :=
 { X with N:=N',s₀ := s,H₀ := H,env:=aZ X sc s.heap.objs.size,outer:=X.stack,stack:=X.stack,ex:=fp,fn:=fun x=>sc.names.lookup x==some .cell,pn := [],xe:=fun _ _=>False }
theorem aQ:∀ {l:List (Str×NameKind)} {x:Str} {k:NameKind},(l.map (·.1)).Nodup->(x,k)∈l->l.lookup x=some k
 | (y,k')::r,x,k,nd,h=>by
  have nd':(y::r.map (·.1)).Nodup:=nd
  obtain ⟨n,q⟩:=List.nodup_cons.mp nd'
  rw [List.lookup_cons]
  rcases List.mem_cons.mp h with e | hm
  ·cases e;simp
  ·have j:(x==y)=false:=by
    refine beq_eq_false_iff_ne.mpr fun e => ?_
    subst e
    exact n (List.mem_map.mpr ⟨(x,k),hm,rfl⟩)
   rw [j]
   exact aQ q hm
theorem bU {env:Env}:∀ {names:List (Str×NameKind)} {x:Str},
 (names.map fun (n,k)=>if (k==NameKind.free&&env.scope.kind == .function&&env.kindOf n==some .cell) then (n,NameKind.cell) else (n,k)).lookup x =
   (names.lookup x).map fun k=>if (k==NameKind.free&&env.scope.kind == .function&&env.kindOf x==some .cell) then NameKind.cell else k
 | [],_=>rfl
 | (n,k)::r,x=>by
  have ih:=bU (env:=env) (names:=r) (x:=x)
  show List.lookup x ((if (k==NameKind.free&&env.scope.kind == .function&&env.kindOf n==some .cell)=true then (n,NameKind.cell) else (n,k))::_)=_
  rw [List.lookup_cons (a:=x) (b:=k)]
  by_cases hx:x=n
  ·subst hx
   simp only [beq_self_eq_true]
   show _=some (if (k==NameKind.free&&env.scope.kind == .function&&env.kindOf x==some .cell)=true then NameKind.cell else k)
   by_cases j:(k==NameKind.free&&env.scope.kind == .function&&env.kindOf x==some .cell)=true
   ·rw [if_pos j,if_pos j,List.lookup_cons];simp only [beq_self_eq_true]
   ·rw [if_neg j,if_neg j,List.lookup_cons];simp only [beq_self_eq_true]
  ·have hb:(x==n)=false:=beq_eq_false_iff_ne.mpr hx
   rw [hb]
   by_cases j:(k==NameKind.free&&env.scope.kind == .function&&env.kindOf n==some .cell)=true
   ·rw [if_pos j,List.lookup_cons,hb];exact ih
   ·rw [if_neg j,List.lookup_cons,hb];exact ih
section
variable {pins:List (Addr×Obj)} {σ:St} {H:Hp} {s:Shared} {sc:Scope} {N':List Str} {fr:List (Option Nat)} {fp:List Addr}
theorem eZ (I:Inv X pins σ H s) (B:aY sc X.env.scope X.N N' fr):∀ x∈sc.names,x.2 = .free->(X.env.cells.lookup x.1).isSome=true:=fun x hx e=>by
 obtain ⟨c,j⟩:=I.ok.has x.1 (B.free x hx e)
 rw [j];rfl
theorem qI (I:Inv X pins σ H s) (f2:∀ b∈fp,bF X pins H b) (O:∀ b∈fp,b < s.heap.objs.size) (B:aY sc X.env.scope X.N N' fr) :
 Inv (aF X sc N' s H fp) [] (inh fr σ) H { s with heap:=pushCells (s.heap.push { cls := .type "dict",data := .dict #[] }) sc.names }:=by
 have n:∀ b o,s.heap.get? b=some o->(pushCells (s.heap.push { cls := .type "dict",data := .dict #[] }) sc.names).get? b=some o:=fun b o e=>pushCells_keeps _ _ b o (Heap.get?_push_of_some _ e)
 have ok:=cellsFrom_ok sc.names (s.heap.push { cls := .type "dict",data := .dict #[] }) (s.heap.objs.size+1) [] ⟨fun _ _ hm=>(nomatch hm),List.Pairwise.nil⟩ (by rw [Heap.size_push];exact Nat.le_refl _)
 rw [Heap.size_push] at ok
 have capp:cellsFrom (s.heap.objs.size+1) sc.names (aR X.env.cells sc.names [])=cellsFrom (s.heap.objs.size+1) sc.names []++aR X.env.cells sc.names []:=cv sc.names _ [] _
 have cof:∀ x c,(aZ X sc s.heap.objs.size).cells.lookup x=some c->((x,c)∈cellsFrom (s.heap.objs.size+1) sc.names []/\s.heap.objs.size < c)∨(X.env.cells.lookup x=some c/\(x,NameKind.free)∈sc.names):=fun x c e=>by
  have m:=PySem.mem_of_lookup e
  have m':(x,c)∈cellsFrom (s.heap.objs.size+1) sc.names (aR X.env.cells sc.names []):=m
  rw [capp] at m'
  rcases List.mem_append.mp m' with z | z
  ·exact .inl ⟨z,(ok.empty x c z).2⟩
  ·rcases cB z with q | q
   ·simp at q
   ·exact .inr q
 have cOld:∀ x c,X.env.cells.lookup x=some c->c < s.heap.objs.size:=fun x c e=>by
  obtain ⟨v,q⟩:=I.cell x c e
  exact q.lt
 have kindF:∀ x,(x,NameKind.free)∈sc.names->(aZ X sc s.heap.objs.size).kindOf x=some .cell∨(aZ X sc s.heap.objs.size).kindOf x=some .free:=fun x hx=>by
  have Z:sc.names.lookup x=some .free:=aQ B.nd hx
  have J:(aZ X sc s.heap.objs.size).kindOf x=_:=bU (env:=X.env) (names:=sc.names) (x:=x)
  rw [Z] at J
  rw [J]
  by_cases F:(NameKind.free==NameKind.free&&X.env.scope.kind == .function&&X.env.kindOf x==some .cell)=true
  ·exact .inl (by simp only [Option.map_some,if_pos F])
  ·exact .inr (by simp only [Option.map_some,if_neg F])
 have cellF:∀ x c,(x,NameKind.free)∈sc.names->X.env.cells.lookup x=some c->(aZ X sc s.heap.objs.size).cells.lookup x=some c:=fun x c hx F=>by
  have m:=cC (acc := []) F (.inr hx)
  have m2:(x,c)∈(aZ X sc s.heap.objs.size).cells:=by
   show (x,c)∈cellsFrom (s.heap.objs.size+1) sc.names (aR X.env.cells sc.names [])
   rw [capp]
   exact List.mem_append_right _ m
  cases hl:(aZ X sc s.heap.objs.size).cells.lookup x with
  | none =>
    exfalso
    have:∀ {l:List (Str×Addr)},(x,c)∈l->l.lookup x=none->False:=by
     intro l
     induction l with
     | nil=>intro h;simp at h
     | cons a r ih =>
       intro h e
       obtain ⟨y,d⟩:=a
       rw [List.lookup_cons] at e
       rcases List.mem_cons.mp h with z | z
       ·cases z;simp at e
       ·by_cases hxy:(x==y)=true
        ·rw [hxy] at e;cases e
        ·simp only [Bool.not_eq_true] at hxy
         rw [hxy] at e
         exact ih z e
    exact this m2 hl
  | some c' =>
    rcases cof x c' hl with ⟨z,_⟩ | ⟨z,_⟩
    ·rcases cw z with q | ⟨_,q⟩
     ·simp at q
     ·have a1:=aQ B.nd hx
      have a2:=aQ B.nd q
      rw [a1] at a2;cases a2
    ·rw [F] at z;rw [z]
 have kindC:∀ x,(aZ X sc s.heap.objs.size).kindOf x=some .cell->(x,NameKind.cell)∈sc.names∨(x,NameKind.free)∈sc.names:=fun x e=>by
  have J:(aZ X sc s.heap.objs.size).kindOf x=_:=bU (env:=X.env) (names:=sc.names) (x:=x)
  rw [J] at e
  cases hl:sc.names.lookup x with
  | none=>rw [hl] at e;cases e
  | some k =>
    rw [hl] at e
    have m:=PySem.mem_of_lookup hl
    cases k with
    | cell=>exact .inl m
    | free=>exact .inr m
    | «local» => simp at e
    | globalImplicit=>simp at e
    | globalExplicit=>simp at e
 have kindFr:∀ x,(aZ X sc s.heap.objs.size).kindOf x=some .free->(x,NameKind.free)∈sc.names:=fun x e=>by
  have J:(aZ X sc s.heap.objs.size).kindOf x=_:=bU (env:=X.env) (names:=sc.names) (x:=x)
  rw [J] at e
  cases hl:sc.names.lookup x with
  | none=>rw [hl] at e;cases e
  | some k =>
    rw [hl] at e
    have m:=PySem.mem_of_lookup hl
    cases k with
    | free=>exact m
    | cell=>simp at e
    | «local» => simp at e
    | globalImplicit=>simp at e
    | globalExplicit=>simp at e
 refine ⟨⟨I.ok.mod,B.kind,I.ok.glob,I.ok.blt,Nat.le_refl _,fun y z c h1 h2 => ?_,fun y R => ?_,fun y c hf h => ?_,I.ok.hd,I.ok.frames, .inl rfl,fun b hb=>⟨?_,fun x c e => ?_⟩,fun b o e=>I.bs b o e, ?_,fun b o e hb => ?_,fun b hb => ?_,I.stack,I.stkFree⟩,
  rfl,I.bare,Un.kept n,⟨_,(Heap.Ns.new s.heap (.type "dict")).keeps (pushCells_keeps _ _),fun i x v h1 h2 h3 => ?_⟩,fun y c h => ?_,I.hok.fresh (Nat.le_refl _),fun y c h => ?_,fun p hp=>absurd (show p∈([]:List (Addr×Obj)) from hp) (by simp),I.hok.kept n, ?_⟩
 ·rcases cof y c h1 with ⟨a1,a2⟩ | ⟨a1,a2⟩
  ·rcases cof z c h2 with ⟨b1,b2⟩ | ⟨b1,b2⟩
   ·exact name_of_addr ok.apart a1 b1
   ·exact absurd (cOld z c b1) (Nat.not_lt.mpr (Nat.le_of_lt a2))
  ·rcases cof z c h2 with ⟨b1,b2⟩ | ⟨b1,b2⟩
   ·exact absurd (cOld y c a1) (Nat.not_lt.mpr (Nat.le_of_lt b2))
   ·exact I.ok.inj y z c a1 b1
 ·have BP:(y,NameKind.cell)∈sc.names∨(y,NameKind.free)∈sc.names:=by
   rcases R with R | R
   ·exact kindC y R
   ·exact .inr (kindFr y R)
  rcases BP with q | q
  ·exact Option.isSome_iff_exists.mp (PySem.W.cellsFrom_some sc.names _ _ (.inl (aQ B.nd q)))
  ·obtain ⟨c,F⟩:=Option.isSome_iff_exists.mp (eZ I B _ q rfl)
   exact ⟨c,cellF y c q F⟩
 ·have BQ:(sc.names.lookup y==some .cell)=true:=hf
  have S:sc.names.lookup y=some .cell:=by simpa using BQ
  rcases cof y c h with ⟨_,a2⟩ | ⟨_,a2⟩
  ·exact Nat.le_of_lt a2
  ·rw [aQ B.nd a2] at S;cases S
 ·exact Nat.ne_of_lt (O b hb)
 ·rcases cof x c e with ⟨_,a2⟩ | ⟨a1,_⟩
  ·exact Nat.ne_of_gt (Nat.lt_trans (O b hb) a2)
  ·exact (f2 b hb).2.2.2.2.1 x c a1
 ·exact Nat.le_trans I.ok.bsz I.sz
 ·obtain ⟨f0,f1,f3,f4,f5,f6⟩:=f2 b hb
  rcases f4 with z | z
  ·exact I.ok.noex b o e z
  ·exact absurd (Nat.lt_of_lt_of_le (Nat.lt_of_lt_of_le (Heap.lt_size e) I.ok.bsz) z) (Nat.lt_irrefl _)
 ·obtain ⟨f0,f1,f3,f4,f5,f6⟩:=f2 b hb
  exact fun z=>(List.mem_cons.mp (I.stkSub b z)).elim f1 f3
 ·have hi:∃ j,fr[i]? = some (some j) /\ σ[j]? = some (some v):=by
   unfold inh at h2
   rw [List.getElem?_map] at h2
   cases e:fr[i]? with
   | none=>rw [e] at h2;cases h2
   | some o =>
     rw [e] at h2
     cases o with
     | none=>cases h2
     | some j =>
       refine ⟨j,rfl, ?_⟩
       have G:some ((σ[j]?).join)=some (some v):=h2
       cases e' : σ[j]? with
       | none=>rw [e'] at G;cases G
       | some w=>rw [e'] at G;cases G;rfl
  obtain ⟨j,Z,J⟩:=hi
  obtain ⟨n1,Y⟩:=B.fr i j x h1 Z
  obtain ⟨m,hn,hl⟩:=I.loc
  have hv:Vis X.env.scope x := .inr (B.free (x, .free) Y rfl)
  obtain ⟨u,ru,lk⟩:=hl j x v n1 J hv
  refine ⟨u,ru, .inr ⟨kindF x Y, ?_⟩⟩
  rcases lk with ⟨k1,_⟩ | ⟨_,c,F,L⟩
  ·have U:X.env.scope.names.lookup x=some .local:=k1
   rcases B.free (x, .free) Y rfl with z | z
   ·rw [U] at z;cases z
   ·rw [U] at z;cases z
  ·exact ⟨c,cellF x c Y F,L.keeps n⟩
 ·rcases cof y c h with ⟨a1,a2⟩ | ⟨a1,a2⟩
  ·exact ⟨_,(ok.empty y c a1).1⟩
  ·obtain ⟨v,q⟩:=I.cell y c a1
   exact ⟨v,q.keeps n⟩
 ·rcases cof y c h with ⟨a1,a2⟩ | ⟨a1,a2⟩
  ·exact I.hok.fresh (Nat.le_of_lt a2)
  ·exact I.freeC y c a1
 ·show (inh fr σ).length=N'.length
  unfold inh
  rw [List.length_map]
  exact B.len
theorem jE {σ':St} {H':Hp} {s':Shared} {h':Heap} (I:Inv X pins σ H s) (f2:∀ b∈fp,bF X pins H b) (J:Inv (aF X sc N' s H fp) [] σ' H' s') (hs:Heap.SameBut s.heap.objs.size s'.heap h') :
 Inv X pins σ H' { s' with heap:=h' }:=by
 have u:Un (frs X.stack) fp H H' s.heap s'.heap:=J.base
 have ne:∀ b o,s.heap.get? b=some o->b≠s.heap.objs.size:=fun b o e=>Nat.ne_of_lt (Heap.lt_size e)
 refine I.call' (s' := { s' with heap:=h' }) (ch:=fp) J.os ⟨fun b o e n hb hx => ?_,fun b o e n hb hx => ?_,u.free,fun b o e hx => ?_,u.tups,u.frzs,u.tbls⟩ (fun b v e => ?_) J.bare fun b hb => ?_
 ·exact (hs.2 b (ne b o e)).trans (u.keep b o e n hb hx)
 ·obtain ⟨sl,q⟩:=u.slot b o e n hb hx
  exact ⟨sl,(hs.2 b (ne b o e)).trans q⟩
 ·obtain ⟨o',q⟩:=u.there b o e hx
  exact ⟨o',(hs.2 b (ne b o e)).trans q⟩
 ·refine (J.hok b v e).stay (fun c w B q=>(hs.2 c ?_).trans q) (fun _ q=>q) fun _ _ q=>q
  have fr:H' s.heap.objs.size=none:=J.free
  rcases B with z | z
  ·rw [z];intro j;rw [j,fr] at e;cases e
  ·intro j;rw [j,fr] at z;cases z
 ·obtain ⟨f0,f1,L,f4,F,G⟩:=f2 b hb
  exact ⟨f4,f1,F,G⟩
theorem kh {Q:Env->Shared->Prop} {E:Value->Shared->Prop} {M:Model} {A:Around}
 (h:Q { scope:=sc,locals:=s.heap.objs.size,globals:=X.env.globals,cells:=cellsFrom (s.heap.objs.size+1) sc.names (aR X.env.cells sc.names []),qual:=X.env.qual,func:=none,code:=X.env.code,frame:=X.env.frame,builtins:=X.env.builtins }
   { s with heap:=pushCells (s.heap.push { cls := .type "dict",data := .dict #[] }) sc.names }) :
 wpAny M A (newFunctionEnv sc X.env.globals (aR X.env.cells sc.names []) [] X.env.qual none .none (some X.env)) Q E s:=by
 simp only [newFunctionEnv,Option.isSome_some,if_true]
 refine wpAny_bind (wpAny_alloc ?_)
 refine wpAny_bind (wpAny_layCells _ (fun name kind cells=>by cases hkc:kind==NameKind.cell <;> simp [hkc]) _ _ _ _ ?_)
 rw [show ({ s with heap:=s.heap.push { cls := .type "dict",data := .dict #[] } }:Shared).heap.objs.size=s.heap.objs.size+1 from Heap.size_push ..]
 exact wpAny_bind (wpAny_pure (wpAny_pure h))
theorem kN (Y:X.calm=true) {elt target iter:Expr} {ifs:List Expr} {rest:List Comprehension} {pos:Pos} {E:Value->Shared->Prop}
 (hx:∀ e s,X.xe e s->False) (B:aY sc X.env.scope X.N N' fr) (Z:∀ g',rest[0]? = some g'->g'.is_async=0) {wi:TI} (hi:PI X target iter wi) {g:TG} {tb:Addr->TC}
 (hg:∀ s H fp,PG (aF X sc N' s H fp) target g)
 (hb:∀ s H fp p,PB (aF X sc N' s H fp) (fun k=>b9 ifs (aF X sc N' s H fp).env >>= fun ok=>if ok=true then aX elt (⟨target,iter,ifs,0⟩::rest) sc pos 0 (.ref p) (aF X sc N' s H fp).env k else k) (tb p))
 {Nn:Addr->St->Hp->Prop} {RR:Value->Addr->Result->Shared->Prop} (I:Inv X pins σ H s)
 (h:wi σ H fun J H1 => ∀ p,H1 p=none->bT J g (tb p) (Nn p) (inh fr σ) (upd H1 p (.lst [])))
 (hR:∀ p fp s3 F s' σ' H' f,Inv X pins σ F s3->(∀ b∈fp,bF X pins F b)->Inv (aF X sc N' s3 F fp) [] σ' H' s'->Nn p σ' H'->RR (.ref p) s3.heap.objs.size (.ok f) s') :
 wpAny (model X.prog X.w) X.A (eval iter X.env) (fun x s₁ => wpAny (model X.prog X.w) X.A (pyIter x) (fun it s₂ => wpAny (model X.prog X.w) X.A (newList []) (fun acc s₃ =>
  wpAny (model X.prog X.w) X.A (newFunctionEnv sc X.env.globals (aR X.env.cells sc.names []) [] X.env.qual none .none (some X.env)) (fun cenv s₄ =>
   codeAny (model X.prog X.w) X.A (.compStart (.ListComp elt (⟨target,iter,ifs,0⟩::rest) sc pos) 0 it acc { cenv with scope:=relabel sc X.env }) (RR acc cenv.locals) s₄) E s₃) E s₂) E s₁) E s:=by
 refine nox hx (thn (hi pins s σ H _ I h) fun v s1 h1=>nox hx (thn h1 fun itv s2 h2 => ?_))
 obtain ⟨it,fp,tn,J,H2,e,S,T,j,f2,hw⟩:=h2
 subst e
 have hf:H2 s2.heap.objs.size=none:=S.hok.fresh (Nat.le_refl _)
 refine wpAny_newList ?_
 have U:Inv X pins σ (upd H2 s2.heap.objs.size (.lst [])) { s2 with heap:=s2.heap.push { cls := .type "list",dict:=none,data := .seq ([]:List Value).toArray } } :=
  S.laid (t':=s2.toks) (fun b u e=>Heap.get?_push_of_some _ e) (Nat.le_refl _) ⟨Nat.zero_le _,[],0, .nil,Heap.get?_push_size _ rfl⟩
 have fneq:∀ b∈fp,b≠s2.heap.objs.size:=fun b hb z=>by
  obtain ⟨o,e,_⟩:=T.obj _ _ j b hb
  exact absurd (Heap.lt_size e) (by rw [z];exact Nat.lt_irrefl _)
 have G:∀ b∈fp,bF X pins (upd H2 s2.heap.objs.size (.lst [])) b:=fun b hb=>⟨by rw [aj (fneq b hb)];exact (f2 b hb).1,(f2 b hb).2⟩
 have L:∀ b∈fp,b < (s2.heap.push { cls := .type "list",dict:=none,data := .seq ([]:List Value).toArray }).objs.size:=fun b hb=>by
  obtain ⟨o,e,_⟩:=T.obj _ _ j b hb
  rw [Heap.size_push]
  exact Nat.lt_succ_of_lt (Heap.lt_size e)
 have O:tn 0 (s2.heap.push { cls := .type "list",dict:=none,data := .seq ([]:List Value).toArray }):=T.keep _ _ _ j fun b _ o e=>Heap.get?_push_of_some _ e
 refine kh ?_
 have q:=qI (N':=N') U G L B
 have n:=T.keep _ (h':=pushCells (({ s2 with heap:=s2.heap.push { cls := .type "list",dict:=none,data := .seq ([]:List Value).toArray } }:Shared).heap.push { cls := .type "dict",data := .dict #[] }) sc.names) _ O fun b _ o e=>pushCells_keeps _ _ b o (Heap.get?_push_of_some _ e)
 have f4:∀ b∈fp,bF (aF X sc N' { s2 with heap:=s2.heap.push { cls := .type "list",dict:=none,data := .seq ([]:List Value).toArray } } (upd H2 s2.heap.objs.size (.lst [])) fp) [] (upd H2 s2.heap.objs.size (.lst [])) b:=fun b hb =>
  ⟨(G b hb).1,(q.ok.exf b hb).1,q.ok.exfs b hb, .inl hb,(q.ok.exf b hb).2,fun p hp=>absurd (show p∈([]:List (Addr×Obj)) from hp) (by simp)⟩
 have loop:=jC (X:=aF X sc N' { s2 with heap:=s2.heap.push { cls := .type "list",dict:=none,data := .seq ([]:List Value).toArray } } (upd H2 s2.heap.objs.size (.lst [])) fp) (fun _ _ z=>z) Y
  (elt:=elt) (pos:=pos) (scope:=sc) (gens:=⟨target,iter,ifs,0⟩::rest) (d := 0) (acc := .ref s2.heap.objs.size) rfl (fun g' e=>Z g' (by simpa using e)) (hg _ _ _) (hb _ _ _ _) q T n f4 (hw _ hf)
 refine codeAny_mono (i7 (R:=fun r s'=>match r with | .ok _ => ∃ σ' H',Inv (aF X sc N' { s2 with heap:=s2.heap.push { cls := .type "list",dict:=none,data := .seq ([]:List Value).toArray } } (upd H2 s2.heap.objs.size (.lst [])) fp) [] σ' H' s'/\Nn s2.heap.objs.size σ' H' | .error _=>False)
  (gens:=⟨target,iter,ifs,0⟩::rest) (d := 0) rfl loop (T.self _ 0 _ _ _ n loop)) fun r s5 hr => ?_
 cases r with
 | error e=>exact hr.elim
 | ok f =>
   obtain ⟨σ5,H5,I5,n5⟩:=hr
   exact hR _ fp _ _ s5 σ5 H5 f U G I5 n5
noncomputable def pe (wi:TI) (g:TG) (tb:Addr->TC) (fr:List (Option Nat)):TE:=fun σ H Q=>wi σ H fun J H1 => ∀ p,H1 p=none->bT J g (tb p) (fun _ H2=>Q (.ref p) H2) (inh fr σ) (upd H1 p (.lst []))
theorem jF (B:aY sc X.env.scope X.N N' fr):∀ x∈sc.names,x.2 = .local->sc.names.lookup x.1=some .local:=fun x hx e=>by
 obtain ⟨n,k⟩:=x
 have e':k = .local:=e
 subst e'
 exact aQ B.nd hx
theorem gd (n:X.calm=true) {elt target iter:Expr} {ifs:List Expr} {rest:List Comprehension} {pos:Pos}
 (hx:∀ e s,X.xe e s->False) (B:aY sc X.env.scope X.N N' fr) (z:∀ g',rest[0]? = some g'->g'.is_async=0) {wi:TI} (hi:PI X target iter wi) {g:TG} {tb:Addr->TC}
 (F:∀ s H fp,PG (aF X sc N' s H fp) target g)
 (hb:∀ s H fp p,PB (aF X sc N' s H fp) (fun k=>b9 ifs (aF X sc N' s H fp).env >>= fun ok=>if ok=true then aX elt (⟨target,iter,ifs,0⟩::rest) sc pos 0 (.ref p) (aF X sc N' s H fp).env k else k) (tb p))
 (hs:∀ x,foldedSetIterable iter X.env x=pure x) :
 PE X (.ListComp elt (⟨target,iter,ifs,0⟩::rest) sc pos) (pe wi g tb fr):=by
 intro pins s σ H Q I h
 rw [eval_ListComp]
 refine wpAny_comprehension_free (use:=none) rfl hs (i8 (eZ I B)) B.kind (jF B) (kN (Nn:=fun p _ H2=>Q (.ref p) H2) (RR:=fun acc C=>compPost (model X.prog X.w) X.A X.xe none (EP X pins σ Q) acc C) n hx B z hi F hb I h ?_)
 intro p fp s3 R s' σ' H' f G L J q
 obtain ⟨m,O,_⟩:=J.loc
 exact ⟨m,O,fun h' j=>⟨.ref p,H',jE G L J j,rfl,q⟩⟩
theorem i9 (Z:X.calm=true) {elt target iter:Expr} {ifs:List Expr} {rest:List Comprehension} {pos pos' spos:Pos} {x:Str} {i:Nat}
 (hx:∀ e s,X.xe e s->False) (B:aY sc X.env.scope X.N N' fr) (ha:∀ g',rest[0]? = some g'->g'.is_async=0) {wi:TI} (hi:PI X target iter wi) {g:TG} {tb:Addr->TC}
 (hg:∀ s H fp,PG (aF X sc N' s H fp) target g)
 (hb:∀ s H fp p,PB (aF X sc N' s H fp) (fun k=>b9 ifs (aF X sc N' s H fp).env >>= fun ok=>if ok=true then aX elt (⟨target,iter,ifs,0⟩::rest) sc pos 0 (.ref p) (aF X sc N' s H fp).env k else k) (tb p))
 (hs:∀ x,foldedSetIterable iter X.env x=pure x) (n:PG X (.Name x pos') (gW i))
 (F:swapsWith (.ListComp elt (⟨target,iter,ifs,0⟩::rest) sc pos) (some (.Name x pos')) spos.line X.env=pure true) :
 PS X (.Assign [.Name x pos'] (.ListComp elt (⟨target,iter,ifs,0⟩::rest) sc pos) spos) (oM (pe wi g tb fr) (gW i)):=by
 intro pins s σ H D I h
 rw [exec_Assign_Name_used _ _ _ _ F]
 refine wpAny_bind (wpAny_standAt (wpAny_bind ?_))
 show wpAny _ X.A (do let _ <- comprehension (.ListComp elt (⟨target,iter,ifs,0⟩::rest) sc pos) sc X.env _ (newList []) false (eval iter X.env) (some (assign (.Name x pos') X.env))) _ _ s
 refine wpAny_bind (wpAny_mono (wpAny_comprehension_free (use:=some (assign (.Name x pos') X.env)) (Q:=fun _ s'=>SP X pins D .next s') rfl hs (i8 (eZ I B)) B.kind (jF B)
  (kN (Nn:=fun p _ H2=>D.nx (σ.set i (some (.ref p))) H2) (RR:=fun acc C=>compPost (model X.prog X.w) X.A X.xe (some (assign (.Name x pos') X.env)) (fun _ s'=>SP X pins D .next s') acc C) Z hx B ha hi hg hb I h ?_)) (fun _ s' hq=>wpAny_pure (wpAny_pure hq)) fun _ _ e=>e)
 intro p fp s3 H3 s' σ' H' f j f3 J q
 obtain ⟨m,⟨o,es,ep,ho,hd,hk,hm⟩,_⟩:=J.loc
 have U:Inv X pins σ H' s':=jE (h':=s'.heap) j f3 J ⟨rfl,fun _ _=>rfl⟩
 have hL:(aF X sc N' s3 H3 fp).env.locals=s3.heap.objs.size:=rfl
 rw [hL] at ho
 have G:H' s3.heap.objs.size=none:=J.free
 have neL:s3.heap.objs.size≠X.env.locals:=Nat.ne_of_gt j.lt
 have nfs:s3.heap.objs.size∉X.fs:=j.nofs (Nat.le_refl _)
 have I5:Inv X (pins++[(s3.heap.objs.size,o)]) σ H' s':=U.pins_of fun pr L=>by
  rcases List.mem_append.mp L with z | z
  ·exact U.pin pr (List.mem_append_right _ z)
  ·have e:pr=(s3.heap.objs.size,o):=by simpa using z
   subst e
   exact ⟨ho,G,neL,nfs,fun v z=>by rw [hd] at z;cases z⟩
 show wpAny _ X.A (assign (.Name x pos') X.env (.ref p)) _ _ _
 refine thn (n _ s' σ H' (.ref p) (.ref p) D.nx I5 rfl q) fun _ s6 ⟨σ6,H6,Y,q6⟩ => ?_
 obtain ⟨O,R,_⟩:=Y.pin (s3.heap.objs.size,o) (List.mem_append_right _ (List.mem_append_right _ (by simp)))
 refine ⟨m,⟨o,es,ep,O,hd,hk,hm⟩,fun h' S=>⟨σ6,H6, ?_,q6⟩⟩
 refine (Y.unpinned).turned (t':=s6.toks) (it:=s3.heap.objs.size) (fun b o hb e=>(S.2 b hb).trans e) R neL (.inr j.sz) (fun y c e z => ?_) fun pr L z => ?_
 ·obtain ⟨v,q⟩:=j.cell y c e
  exact absurd q.lt (by rw [z];exact Nat.lt_irrefl _)
 ·exact absurd (Heap.lt_size (j.pin pr L).1) (by rw [z];exact Nat.lt_irrefl _)
end
end
end
end L2
namespace L2
namespace Zp
open PySem PySem.Spec PyProof.Rows
noncomputable def At (t:Bool) (h:Heap) (i l:Addr) (k:Nat):Prop:=match t with | true=>h.IsTupleIter i l k | false=>h.IsListIter i l k
noncomputable def Sq (t:Bool) (h:Heap) (l:Addr) (xs:Array Value):Prop:=match t with | true=>h.IsTuple l xs | false=>h.IsList l xs
theorem At.up {t:Bool} {h h':Heap} {i l:Addr} {k:Nat} (x:At t h i l k) (e:∀ o,h.get? i=some o->h'.get? i=some o):At t h' i l k:=by
 cases t <;> (obtain ⟨o,ho,r⟩:=x;exact ⟨o,e o ho,r⟩)
theorem Sq.up {t:Bool} {h h':Heap} {l:Addr} {xs:Array Value} (x:Sq t h l xs) (e:∀ o,h.get? l=some o->h'.get? l=some o):Sq t h' l xs:=by
 cases t <;> (obtain ⟨o,ho,r⟩:=x;exact ⟨o,e o ho,r⟩)
theorem At.lt {t:Bool} {h:Heap} {i l:Addr} {k:Nat} (x:At t h i l k):∃ o,h.get? i=some o /\ ∀ v,o.data ≠ .cell v:=by
 cases t <;> (obtain ⟨o,ho,j,hd⟩:=x;exact ⟨o,ho,fun v z=>by rw [hd] at z;cases z⟩)
section
variable {prog:Program} {w:World} {A:Around} {E:Value->Shared->Prop} {s:Shared}
open Builtin.SmallTypes in
theorem tW {i l:Addr} {k:Nat} {xs:Array Value} {x:Value} {Q:Value->Shared->Prop} (hi:s.heap.IsTupleIter i l k) (hl:s.heap.IsTuple l xs) (hx:xs[k]? = some x)
 (q:∀ h',h'.IsTupleIter i l (k+1)->Heap.SameBut i s.heap h'->Q x { s with heap:=h' }):wpAny (model prog w) A (nextOf (.ref i)) Q E s:=by
 obtain ⟨ob,n,z,j⟩:=id hi
 obtain ⟨oq,B,_,nq,G⟩:=hl
 unfold nextOf
 refine wpAny_bind (wpAny_callSpecial?_slot (name:=Str.ofString "__next__") hi.typeIs F.slot_tuple_iterator_next (wpAny_call_entry F.slot_tuple_iterator_next hi.typeIs F.entry_tuple_iterator_next ?_ (F.args_tuple_iterator_next_1 _)))
 refine wpAny_bind (m:=field (.ref i) 0) (wpAny_field n j (x := .ref l) rfl ?_)
 refine (if_neg (c:=(Value.ref l==Value.none)=true) Bool.false_ne_true) ▸ ?_
 refine wpAny_bind (m:=field (.ref i) 1) (wpAny_field n j (x := .int k 0) rfl ?_)
 refine wpAny_bind (m:=seqItems? (.ref l)) (wpAny_seqItems B G ?_)
 simp only [Int.toNat_natCast,hx]
 refine wpAny_bind (wpAny_setField n j (by simp) (wpAny_pure ⟨x,rfl,wpAny_pure (q _ ⟨_,Heap.get?_update_self _ n (Obj.isFreed_of_fields (Obj.data_mapFields j _)),(Obj.cls_mapFields ..).trans z, ?_⟩ (Heap.SameBut.update ..))⟩))
 rw [Obj.data_mapFields j];simp [rawInt]
open Builtin.SmallTypes in
theorem xf {i l:Addr} {k:Nat} {xs:Array Value} {Q:Value->Shared->Prop} (G:A.handled=none) (hi:s.heap.IsTupleIter i l k) (hl:s.heap.IsTuple l xs) (hx:xs[k]? = none)
 (q:∀ h' e,Heap.ExtBut i s.heap h'->(∃ o,h'.get? e=some o/\o.cls = .type "StopIteration")->E (.ref e) { s with heap:=h' }):wpAny (model prog w) A (nextOf (.ref i)) Q E s:=by
 obtain ⟨ob,j,I,n⟩:=id hi
 obtain ⟨oq,z,_,nq,B⟩:=hl
 unfold nextOf
 refine wpAny_bind (wpAny_callSpecial?_slot (name:=Str.ofString "__next__") hi.typeIs F.slot_tuple_iterator_next (wpAny_call_entry F.slot_tuple_iterator_next hi.typeIs F.entry_tuple_iterator_next ?_ (F.args_tuple_iterator_next_1 _)))
 refine wpAny_bind (m:=field (.ref i) 0) (wpAny_field j n (x := .ref l) rfl ?_)
 refine (if_neg (c:=(Value.ref l==Value.none)=true) Bool.false_ne_true) ▸ ?_
 refine wpAny_bind (m:=field (.ref i) 1) (wpAny_field j n (x := .int k 0) rfl ?_)
 refine wpAny_bind (m:=seqItems? (.ref l)) (wpAny_seqItems z B ?_)
 simp only [Int.toNat_natCast,hx]
 refine wpAny_bind (wpAny_rule (wpAny_bind (wpAny_setField j n (by simp) ?_)))
 refine wpAny_bind (m:=newExc (.type "StopIteration") []) ?_
 simp only [newExc,newTuple]
 refine wpAny_bind (wpAny_newObj_type ?_ (by size_fits))
 refine wpAny_bind (m:=firstArgMember _ _) (wpAny_of_eq (a:=Value.none) (by first | rfl | (simp only [firstArgMember];rfl)) (wpAny_newObj_type ?_ (by size_fits)))
 simp only [raiseNew]
 refine wpAny_bind (wpAny_handled ?_)
 first | rw [show A.in1.handled=none from G] | rw [G]
 exact wpAny_bind (wpAny_pure (wpAny_throw (q _ _ (((Heap.SameBut.update ..).extBut.push _).push _) ⟨_,Heap.get?_push_size _ rfl,rfl⟩)))
open Builtin.SmallTypes in
theorem cI {t:Bool} {i l:Addr} {k:Nat} {xs:Array Value} {x:Value} {Q:Value->Shared->Prop} (hi:At t s.heap i l k) (hl:Sq t s.heap l xs) (hx:xs[k]? = some x)
 (q:∀ h',At t h' i l (k+1)->Heap.SameBut i s.heap h'->Q x { s with heap:=h' }):wpAny (model prog w) A (nextOf (.ref i)) Q E s:=by
 cases t with
 | true=>exact tW hi hl hx q
 | false=>exact wpAny_nextOf_list_item hi hl hx q
open Builtin.SmallTypes in
theorem nx_end {t:Bool} {i l:Addr} {k:Nat} {xs:Array Value} {Q:Value->Shared->Prop} (j:A.handled=none) (hi:At t s.heap i l k) (hl:Sq t s.heap l xs) (hx:xs[k]? = none)
 (q:∀ h' e,Heap.ExtBut i s.heap h'->(∃ o,h'.get? e=some o/\o.cls = .type "StopIteration")->E (.ref e) { s with heap:=h' }):wpAny (model prog w) A (nextOf (.ref i)) Q E s:=by
 cases t with
 | true=>exact xf j hi hl hx q
 | false=>exact wpAny_nextOf_list_end j hi hl hx q
open Builtin.SmallTypes in
theorem zv {z T O i j a b:Addr} {t u:Bool} {k:Nat} {xs ys:Array Value} {x y p r:Value} {Q:Value->Shared->Prop} (D:ZipApart z T O i j a b)
 (F:IsZip s.heap z T O .none) (hT:IsPair s.heap T (.ref i) (.ref j)) (hO:IsPair s.heap O p r)
 (hi:At t s.heap i a k) (hj:At u s.heap j b k) (ha:Sq t s.heap a xs) (hb:Sq u s.heap b ys) (hx:xs[k]? = some x) (hy:ys[k]? = some y)
 (q:∀ h',IsZip h' z T O (rawInt s.heap.objs.size)->IsPair h' O x y->At t h' i a (k+1)->At u h' j b (k+1)->IsPair h' s.heap.objs.size x y ->
   (∀ c o,c≠z->c≠O->c≠i->c≠j->s.heap.get? c=some o->h'.get? c=some o)->Q (.ref s.heap.objs.size) { s with heap:=h' }) :
 wpAny (model prog w) A (Builtin.«zip.__next__» ⟨[.ref z],[]⟩) (fun fin s' => ∃ v,fin = .done (.ret v)/\Q v s') E s:=by
 refine wpAny_bind (m:=field (.ref z) 2) (wpAny_field F rfl (x := .bool false) rfl ?_)
 refine wpAny_bind (m:=field (.ref z) 3) (wpAny_field F rfl (x := .ref T) rfl ?_)
 refine wpAny_bind (wpAny_seqItems hT rfl ?_)
 refine wpAny_bind (m:=ownedTupleIsFree (.ref z)) ?_
 unfold ownedTupleIsFree
 refine wpAny_bind (wpAny_field F rfl (x := .none) rfl (wpAny_pure ?_))
 simp only [if_true]
 refine wpAny_bind (wpAny_rule (wpAny_bind (wpAny_field F rfl (x := .ref O) rfl (wpAny_bind (wpAny_setField_rec F (by simp) fun g1 U s1 => ?_)))))
 have Z1:IsZip g1 z T O .ellipsis:=U
 clear U
 refine wpAny_bind ?_
 simp only [List.zipIdx_cons,List.zipIdx_nil,List.forIn_cons,List.forIn_nil]
 refine wpAny_bind (wpAny_bind (wpAny_onRaise (wpAny_bind (m:=nextOf (.ref i)) ?_)))
 refine cI (hi.up fun o e=>s1.extBut _ o D.i1z e) (ha.up fun o e=>s1.extBut _ o D.l1z e) hx fun g2 J s2=>wpAny_pure ?_
 have Y:IsPair g2 O p r:=s2.extBut _ _ D.TOi1 (s1.extBut _ _ D.TOz hO)
 refine wpAny_bind (wpAny_seqItems Y rfl (wpAny_bind (wpAny_updateSeq_pair Y fun g3 Z s3 => ?_)))
 have O3:IsPair g3 O x r:=Z
 clear Z
 refine wpAny_bind (wpAny_letGo (wpAny_pure (wpAny_bind (wpAny_bind (wpAny_onRaise (wpAny_bind (m:=nextOf (.ref j)) ?_))))))
 refine cI (hj.up fun o e=>s3.extBut _ o D.TOi2.symm (s2.extBut _ o D.i12.symm (s1.extBut _ o D.i2z e))) (hb.up fun o e=>s3.extBut _ o D.l2TO (s2.extBut _ o D.l2i1 (s1.extBut _ o D.l2z e))) hy fun g4 L s4=>wpAny_pure ?_
 have O4:IsPair g4 O x r:=s4.extBut _ _ D.TOi2 O3
 refine wpAny_bind (wpAny_seqItems O4 rfl (wpAny_bind (wpAny_updateSeq_pair O4 fun n o5 s5 => ?_)))
 have O5:IsPair n O x y:=o5
 clear o5
 refine wpAny_bind (wpAny_letGo (wpAny_pure (wpAny_pure (wpAny_bind (wpAny_seqItems O5 rfl (wpAny_bind (wpAny_newTuple ?_)))))))
 have sz:n.objs.size=s.heap.objs.size:=by rw [s5.1,s4.1,s3.1,s2.1,s1.1]
 have k5:∀ c o,c≠z->c≠O->c≠i->c≠j->s.heap.get? c=some o->n.get? c=some o:=fun c o B G R S e =>
  s5.extBut _ _ G (s4.extBut _ _ S (s3.extBut _ _ G (s2.extBut _ _ R (s1.extBut _ _ B e))))
 have Z5:IsZip n z T O .ellipsis:=s5.extBut _ _ D.TOz.symm (s4.extBut _ _ D.i2z.symm (s3.extBut _ _ D.TOz.symm (s2.extBut _ _ D.i1z.symm Z1)))
 have I5:At t n i a (k+1):=J.up fun o e=>s5.extBut _ o D.TOi1.symm (s4.extBut _ o D.i12 (s3.extBut _ o D.TOi1.symm e))
 have J5:At u n j b (k+1):=L.up fun o e=>s5.extBut _ o D.TOi2.symm e
 have zl:z < n.objs.size:=Heap.lt_size Z5
 refine wpAny_bind (m:=ownedTupleHandOut (.ref z) (.ref n.objs.size)) ?_
 unfold ownedTupleHandOut
 refine wpAny_bind (wpAny_setField_rec (Heap.get?_push_of_some _ Z5) (by simp) fun g7 z7 s7 => ?_)
 have Z7:IsZip g7 z T O (rawInt n.objs.size):=z7
 clear z7
 refine wpAny_setField_rec Z7 (by simp) fun I z8 s8 => ?_
 have Z8:IsZip I z T O (rawInt n.objs.size):=z8
 clear z8
 have up:∀ c o,c≠z->n.get? c=some o->I.get? c=some o:=fun c o B e=>s8.extBut _ _ B (s7.extBut _ _ B (Heap.get?_push_of_some _ e))
 have P8:IsPair I n.objs.size x y:=s8.extBut _ _ (Nat.ne_of_gt zl) (s7.extBut _ _ (Nat.ne_of_gt zl) (Heap.get?_push_size _ rfl))
 rw [sz] at Z8 P8
 refine wpAny_pure ⟨_,rfl, ?_⟩
 show Q (.ref n.objs.size) _
 rw [sz]
 exact q I Z8 (up _ _ D.TOz O5) (I5.up fun o e=>up _ o D.i1z e) (J5.up fun o e=>up _ o D.i2z e) P8 fun c o B G R S e=>up c o B (k5 c o B G R S e)
open Builtin.SmallTypes in
theorem AN {z T O i j a b:Addr} {t u:Bool} {k:Nat} {xs ys:Array Value} {p r:Value} {Q:Fin->Shared->Prop} (S:A.handled=none) (D:ZipApart z T O i j a b)
 (F:IsZip s.heap z T O .none) (hT:IsPair s.heap T (.ref i) (.ref j)) (hO:IsPair s.heap O p r)
 (hi:At t s.heap i a k) (hj:At u s.heap j b k) (ha:Sq t s.heap a xs) (hb:Sq u s.heap b ys) (G:xs[k]? = none∨ys[k]? = none)
 (q:∀ h' e,(∀ c o,c≠z->c≠O->c≠i->c≠j->s.heap.get? c=some o->h'.get? c=some o)->(∃ o,h'.get? e=some o/\o.cls = .type "StopIteration")->E (.ref e) { s with heap:=h' }) :
 wpAny (model prog w) A (Builtin.«zip.__next__» ⟨[.ref z],[]⟩) Q E s:=by
 refine wpAny_bind (m:=field (.ref z) 2) (wpAny_field F rfl (x := .bool false) rfl ?_)
 refine wpAny_bind (m:=field (.ref z) 3) (wpAny_field F rfl (x := .ref T) rfl ?_)
 refine wpAny_bind (wpAny_seqItems hT rfl ?_)
 refine wpAny_bind (m:=ownedTupleIsFree (.ref z)) ?_
 unfold ownedTupleIsFree
 refine wpAny_bind (wpAny_field F rfl (x := .none) rfl (wpAny_pure ?_))
 simp only [if_true]
 refine wpAny_bind (wpAny_rule (wpAny_bind (wpAny_field F rfl (x := .ref O) rfl (wpAny_bind (wpAny_setField_rec F (by simp) fun g1 U s1 => ?_)))))
 have Y:IsZip g1 z T O .ellipsis:=U
 clear U
 refine wpAny_bind ?_
 simp only [List.zipIdx_cons,List.zipIdx_nil,List.forIn_cons,List.forIn_nil]
 refine wpAny_bind (wpAny_bind (wpAny_onRaise (wpAny_bind (m:=nextOf (.ref i)) ?_)))
 have I:At t g1 i a k:=hi.up fun o e=>s1.extBut _ o D.i1z e
 have J:Sq t g1 a xs:=ha.up fun o e=>s1.extBut _ o D.l1z e
 cases hx:xs[k]? with
 | none =>
   refine nx_end S I J hx fun g2 e s2 he => ?_
   obtain ⟨oe,n,B⟩:=he
   have Z:IsZip g2 z T O .ellipsis:=s2 _ _ D.i1z.symm Y
   have ez:e≠z:=fun x=>by subst x;rw [Z] at n;cases n;simp at B
   exact wpAny_setField_rec Z (by simp) fun g3 _ s3=>q g3 e (fun c o L _ R _ x=>s3.extBut _ _ L (s2 _ _ R (s1.extBut _ _ L x))) ⟨oe,s3.extBut _ _ ez n,B⟩
 | some x =>
   have hy:ys[k]? = none:=G.elim (fun z=>by rw [hx] at z;cases z) id
   refine cI I J hx fun g2 BP s2=>wpAny_pure ?_
   have O2:IsPair g2 O p r:=s2.extBut _ _ D.TOi1 (s1.extBut _ _ D.TOz hO)
   refine wpAny_bind (wpAny_seqItems O2 rfl (wpAny_bind (wpAny_updateSeq_pair O2 fun g3 o3 s3 => ?_)))
   refine wpAny_bind (wpAny_letGo (wpAny_pure (wpAny_bind (wpAny_bind (wpAny_onRaise (wpAny_bind (m:=nextOf (.ref j)) ?_))))))
   refine nx_end S (hj.up fun o e=>s3.extBut _ o D.TOi2.symm (s2.extBut _ o D.i12.symm (s1.extBut _ o D.i2z e))) (hb.up fun o e=>s3.extBut _ o D.l2TO (s2.extBut _ o D.l2i1 (s1.extBut _ o D.l2z e))) hy fun g4 e s4 he => ?_
   obtain ⟨oe,n,B⟩:=he
   have Z4:IsZip g4 z T O .ellipsis:=s4 _ _ D.i2z.symm (s3.extBut _ _ D.TOz.symm (s2.extBut _ _ D.i1z.symm Y))
   have ez:e≠z:=fun x=>by subst x;rw [Z4] at n;cases n;simp at B
   exact wpAny_setField_rec Z4 (by simp) fun g5 _ s5=>q g5 e (fun c o L c2 R c4 x=>s5.extBut _ _ L (s4 _ _ c4 (s3.extBut _ _ c2 (s2.extBut _ _ R (s1.extBut _ _ L x))))) ⟨oe,s5.extBut _ _ ez n,B⟩
theorem nxt_item {z T O i j a b:Addr} {t u:Bool} {k:Nat} {xs ys:Array Value} {x y p r:Value} {Q:Option Value->Shared->Prop} (D:ZipApart z T O i j a b)
 (n:IsZip s.heap z T O .none) (B:IsPair s.heap T (.ref i) (.ref j)) (G:IsPair s.heap O p r)
 (hi:At t s.heap i a k) (I:At u s.heap j b k) (J:Sq t s.heap a xs) (hb:Sq u s.heap b ys) (hx:xs[k]? = some x) (L:ys[k]? = some y)
 (q:∀ h',IsZip h' z T O (rawInt s.heap.objs.size)->IsPair h' O x y->At t h' i a (k+1)->At u h' j b (k+1)->IsPair h' s.heap.objs.size x y ->
   (∀ c o,c≠z->c≠O->c≠i->c≠j->s.heap.get? c=some o->h'.get? c=some o)->Q (some (.ref s.heap.objs.size)) { s with heap:=h' }) :
 wpAny (model prog w) A (pyNext (.ref z)) Q E s:=by
 have ty:s.TypeIs (.ref z) "zip" := ⟨_,n,rfl⟩
 unfold pyNext
 exact wpAny_bind (wpAny_attempt (wpAny_callSpecial?_slot (name:=Str.ofString "__next__") ty F.slot_zip_next (wpAny_call_entry F.slot_zip_next ty F.entry_zip_next
  (zv D n B G hi I J hb hx L fun h' a1 a2 R S U Y=>wpAny_pure (q h' a1 a2 R S U Y)) (F.args_zip_next_1 _))))
theorem nxt_end {z T O i j a b:Addr} {t u:Bool} {k:Nat} {xs ys:Array Value} {p r:Value} {Q:Option Value->Shared->Prop} (G:A.handled=none) (D:ZipApart z T O i j a b)
 (B:IsZip s.heap z T O .none) (I:IsPair s.heap T (.ref i) (.ref j)) (J:IsPair s.heap O p r)
 (hi:At t s.heap i a k) (L:At u s.heap j b k) (R:Sq t s.heap a xs) (hb:Sq u s.heap b ys) (n:xs[k]? = none∨ys[k]? = none)
 (q:∀ h',(∀ c o,c≠z->c≠O->c≠i->c≠j->s.heap.get? c=some o->h'.get? c=some o)->Q none { s with heap:=h' }):wpAny (model prog w) A (pyNext (.ref z)) Q E s:=by
 have ty:s.TypeIs (.ref z) "zip" := ⟨_,B,rfl⟩
 unfold pyNext
 refine wpAny_bind (wpAny_attempt (wpAny_callSpecial?_slot (name:=Str.ofString "__next__") ty F.slot_zip_next (wpAny_call_entry F.slot_zip_next ty F.entry_zip_next
  (AN G D B I J hi L R hb n fun h' e S he => ?_) (F.args_zip_next_1 _))))
 obtain ⟨o,ho,U⟩:=he
 exact wpAny_bind (wpAny_isInstance (T := "StopIteration") (b:=true) ⟨o,ho,U⟩ isSubtype_stop (wpAny_pure (q _ S)))
noncomputable def itO (t:Bool) (l:Addr):Obj:=match t with | true => { cls := .type "tuple_iterator",data := .fields #[.ref l, .int 0 0] } | false => { cls := .type "list_iterator",data := .fields #[.ref l, .int 0 0] }
noncomputable def zH1 (h:Heap) (t:Bool) (a:Addr):Heap:=h.push (itO t a)
noncomputable def zH2 (h:Heap) (t u:Bool) (a b:Addr):Heap:=(zH1 h t a).push (itO u b)
noncomputable def zH3 (h:Heap) (t u:Bool) (a b:Addr):Heap:=(zH2 h t u a b).push { cls := .type "tuple",data := .seq #[.ref h.objs.size, .ref (zH1 h t a).objs.size] }
noncomputable def zH4 (h:Heap) (t u:Bool) (a b:Addr):Heap:=(zH3 h t u a b).push { cls := .type "tuple",data := .seq #[.none, .none] }
noncomputable def zH5 (h:Heap) (t u:Bool) (a b:Addr):Heap:=(zH4 h t u a b).push { cls := .type "zip",data := .fields #[.none, .bool false, .bool false, .ref (zH2 h t u a b).objs.size, .ref (zH3 h t u a b).objs.size] }
theorem qJ (t u:Bool) (a b:Addr) (xs ys:Array Value) :
 Meets (Builtin.«zip.__new__» ⟨[.type "zip", .ref a, .ref b],[]⟩) (fun _ R s=>Sq t s.heap a xs/\Sq u s.heap b ys/\R (.ok (.ret (.ref (zH4 s.heap t u a b).objs.size))) { s with heap:=zH5 s.heap t u a b }) :=
 .of_wp fun prog w A R s h=>by
  obtain ⟨j,g,d,tk,os⟩:=s;obtain ⟨z,hb,h⟩:=h
  have hs:=sub_zip
  cases t <;> cases u
  ·have n:Heap.IsList (Shared.heap ⟨j,g,d,tk,os⟩) a xs:=z
   have q:Heap.IsList (Shared.heap ⟨j.push { cls := .type "list_iterator",data := .fields #[.ref a, .int 0 0] },g,d,tk,os⟩) b ys:=Heap.IsList.push hb _
   wp_walk using wpAny_pyIter_list n,wpAny_pyIter_list q
   exact ⟨_,rfl,h⟩
  ·have n:Heap.IsList (Shared.heap ⟨j,g,d,tk,os⟩) a xs:=z
   have q:Heap.IsTuple (Shared.heap ⟨j.push { cls := .type "list_iterator",data := .fields #[.ref a, .int 0 0] },g,d,tk,os⟩) b ys:=Heap.IsTuple.push hb _
   wp_walk using wpAny_pyIter_list n,wpAny_pyIter_tuple q
   exact ⟨_,rfl,h⟩
  ·have n:Heap.IsTuple (Shared.heap ⟨j,g,d,tk,os⟩) a xs:=z
   have q:Heap.IsList (Shared.heap ⟨j.push { cls := .type "tuple_iterator",data := .fields #[.ref a, .int 0 0] },g,d,tk,os⟩) b ys:=Heap.IsList.push hb _
   wp_walk using wpAny_pyIter_tuple n,wpAny_pyIter_list q
   exact ⟨_,rfl,h⟩
  ·have n:Heap.IsTuple (Shared.heap ⟨j,g,d,tk,os⟩) a xs:=z
   have q:Heap.IsTuple (Shared.heap ⟨j.push { cls := .type "tuple_iterator",data := .fields #[.ref a, .int 0 0] },g,d,tk,os⟩) b ys:=Heap.IsTuple.push hb _
   wp_walk using wpAny_pyIter_tuple n,wpAny_pyIter_tuple q
   exact ⟨_,rfl,h⟩
theorem at_new {t:Bool} {h:Heap} {i l:Addr} (e:h.get? i=some (itO t l)):At t h i l 0:=by
 cases t <;> exact ⟨_,e,rfl,rfl⟩
theorem call_zip {t u:Bool} {a b:Addr} {xs ys:Array Value} {Q:Value->Shared->Prop} (S:Sq t s.heap a xs) (hb:Sq u s.heap b ys)
 (q:∀ h',IsZip h' (s.heap.objs.size+4) (s.heap.objs.size+2) (s.heap.objs.size+3) .none->IsPair h' (s.heap.objs.size+2) (.ref s.heap.objs.size) (.ref (s.heap.objs.size+1)) ->
   IsPair h' (s.heap.objs.size+3) .none .none->At t h' s.heap.objs.size a 0->At u h' (s.heap.objs.size+1) b 0->h'.objs.size=s.heap.objs.size+5 ->
   (∀ c o,s.heap.get? c=some o->h'.get? c=some o)->Q (.ref (s.heap.objs.size+4)) { s with heap:=h' }) :
 wpAny (model prog w) A (call (.type "zip") [.ref a, .ref b]) Q E s:=by
 refine callType_new F.called_zip (by decide) (F.typeCall_zip_2 _ _) (F.newCall_zip_2 _ _) (fun obj=>F.args_object_init_3 obj _ _) F.entry_zip_new (qJ t u a b xs ys) ⟨S,hb, ?_⟩
 have z:(zH1 s.heap t a).objs.size=s.heap.objs.size+1:=Heap.size_push ..
 have B:(zH2 s.heap t u a b).objs.size=s.heap.objs.size+2:=by unfold zH2;rw [Heap.size_push,z]
 have G:(zH3 s.heap t u a b).objs.size=s.heap.objs.size+3:=by unfold zH3;rw [Heap.size_push,B]
 have I:(zH4 s.heap t u a b).objs.size=s.heap.objs.size+4:=by unfold zH4;rw [Heap.size_push,G]
 have U:(zH5 s.heap t u a b).objs.size=s.heap.objs.size+5:=by unfold zH5;rw [Heap.size_push,I]
 have j:∀ {c o},(zH4 s.heap t u a b).get? c=some o->(zH5 s.heap t u a b).get? c=some o:=fun e=>Heap.get?_push_of_some _ e
 have n:∀ {c o},(zH3 s.heap t u a b).get? c=some o->(zH4 s.heap t u a b).get? c=some o:=fun e=>Heap.get?_push_of_some _ e
 have J:∀ {c o},(zH2 s.heap t u a b).get? c=some o->(zH3 s.heap t u a b).get? c=some o:=fun e=>Heap.get?_push_of_some _ e
 have O:∀ {c o},(zH1 s.heap t a).get? c=some o->(zH2 s.heap t u a b).get? c=some o:=fun e=>Heap.get?_push_of_some _ e
 have Y:∀ {c o},s.heap.get? c=some o->(zH1 s.heap t a).get? c=some o:=fun e=>Heap.get?_push_of_some _ e
 have f:∀ t l,(itO t l).isFreed=false:=fun t l=>by cases t <;> rfl
 have L:(zH5 s.heap t u a b).get? (zH4 s.heap t u a b).objs.size=some _:=Heap.get?_push_size _ rfl
 have R:(zH5 s.heap t u a b).get? (zH3 s.heap t u a b).objs.size=some _:=j (Heap.get?_push_size _ rfl)
 have g3:(zH5 s.heap t u a b).get? (zH2 s.heap t u a b).objs.size=some _:=j (n (Heap.get?_push_size _ rfl))
 have g2:(zH5 s.heap t u a b).get? (zH1 s.heap t a).objs.size=some _:=j (n (J (Heap.get?_push_size _ (f u b))))
 have g1:(zH5 s.heap t u a b).get? s.heap.objs.size=some _:=j (n (J (O (Heap.get?_push_size _ (f t a)))))
 show _/\_
 rw [B,G,I] at L
 rw [z,B] at g3
 rw [G] at R
 rw [z] at g2
 rw [I]
 exact ⟨⟨_,L,rfl⟩,q _ L g3 R (at_new g1) (at_new g2) U fun c o x=>j (n (J (O (Y x))))⟩
end
end Zp
end L2
namespace L2
open PySem PySem.Spec PyProof.Rows
section
section
variable {X:Cx} {pins:List (Addr×Obj)} {σ:St} {H:Hp} {s:Shared} {h':Heap}
theorem Inv.turnedL {t':Nat} {fp:List Addr} (I:Inv X pins σ H s) (hf:∀ b∈fp,bF X pins H b) (k:∀ b o,b∉fp->s.heap.get? b=some o->h'.get? b=some o):Inv X pins σ H { s with heap:=h',toks:=t' }:=by
 have nit:∀ b u,H b=some u->b∉fp:=fun b u e z=>by rw [(hf b z).1] at e;cases e
 refine I.step (g':=s.gens) (d':=s.drawn) (ch:=fp) (fun b hb => ?_) (fun b o _ _ j e _=>k b o j e) (fun b o _ _ j e _=>⟨o.slots,k b o j e⟩) (fun _ _ _ _ n=>n)
  (fun b o j e=>⟨o,k b o j e⟩) (fun _ _ e=>e) (fun _ _ _ e=>e) (fun b ps e=>⟨#[],by rw [e];simp⟩) (fun m hm => ?_) (fun b u e => ?_) I.bare
 ·obtain ⟨_,f1,_,B,f4,F⟩:=hf b hb
  exact ⟨B,f1,f4,F⟩
 ·obtain ⟨o,es,ep,ho,r⟩:=hm
  exact ⟨o,es,ep,k _ o (fun z=>(hf _ z).2.1 rfl) ho,r⟩
 ·refine (I.hok b u e).stay (fun c v j q=>k c v ?_ q) (fun _ q=>q) fun _ _ q=>q
  rcases j with z | z
  ·rw [z];exact nit b u e
  ·exact nit c _ z
end
noncomputable def SqV (K:Frag) (t:Bool) (H:Hp) (a:Addr) (xs:List V):Prop:=match t with | true=>SqT K H a xs | false=>SqL K H a xs
theorem Inv.sqv {X:Cx} {pins:List (Addr×Obj)} {σ:St} {H:Hp} {s:Shared} {t:Bool} {a:Addr} {xs:List V} (I:Inv X pins σ H s) (h:SqV X.K t H a xs):∃ its:List Value,Vals xs its/\Zp.Sq t s.heap a its.toArray:=by
 cases t with
 | true=>obtain ⟨its,r,p,_⟩:=I.tuple h;exact ⟨its,r,p⟩
 | false=>obtain ⟨its,r,p,_⟩:=I.list h;exact ⟨its,r,p.isList⟩
theorem Inv.sqv_inj {X:Cx} {pins:List (Addr×Obj)} {σ:St} {H:Hp} {s:Shared} {t:Bool} {a:Addr} {xs ys:List V} (I:Inv X pins σ H s) (h:SqV X.K t H a xs) (h':SqV X.K t H a ys):xs=ys:=by
 cases t with
 | true=>exact I.tuple_inj h h'
 | false=>exact I.list_inj h h'
noncomputable def Itz (K:Frag) (t u:Bool) (a b:Addr):It :=
 ⟨fun i H => ∃ xs ys x y,SqV K t H a xs/\SqV K u H b ys/\xs[i]? = some x/\ys[i]? = some y,
  fun i H v H' => ∃ p x y,H p=none/\v = .ref p/\H'=upd H p (.tup [x,y]) /\ ∀ xs ys,SqV K t H a xs->SqV K u H b ys->xs[i]? = some x/\ys[i]? = some y,
  fun i H => ∃ xs ys,SqV K t H a xs/\SqV K u H b ys/\(xs.length<=i∨ys.length<=i)⟩
theorem tX {P:Program} {w:World} {K:Frag} {elts:List Expr} {cx} {pos:Pos} {t u:Bool} {z T O i j a b:Addr} (D:ZipApart z T O i j a b) :
 eS P w K (.Tuple elts cx pos) (Itz K t u a b) [z,T,O,i,j] z (fun k h=>IsZip h z T O .none/\IsPair h T (.ref i) (.ref j)/\(∃ p r,IsPair h O p r)/\Zp.At t h i a k/\Zp.At u h j b k) where
 mem:=by simp
 obj:=fun k h ⟨B,F,⟨p,r,G⟩,hi,J⟩ c q=>by
  simp only [List.mem_cons,List.not_mem_nil,or_false] at q
  rcases q with rfl | rfl | rfl | rfl | rfl
  ·exact ⟨_,B,fun v e=>by cases e⟩
  ·exact ⟨_,F,fun v e=>by cases e⟩
  ·exact ⟨_,G,fun v e=>by cases e⟩
  ·exact hi.lt
  ·exact J.lt
 keep:=fun k h h' ⟨B,F,⟨p,r,G⟩,hi,J⟩ kk=>⟨kk z (by simp) _ B,kk T (by simp) _ F,⟨p,r,kk O (by simp) _ G⟩,hi.up fun o e=>kk i (by simp) o e,J.up fun o e=>kk j (by simp) o e⟩
 item:=by
  intro X S hw U q k pins s σ H E I hf st hg
  subst S hw U
  obtain ⟨B,F,⟨p,r,G⟩,hi,J⟩:=st
  obtain ⟨xs,ys,x,y,qx,qy,ex,ey⟩:=hg
  obtain ⟨is,rx,px⟩:=I.sqv qx
  obtain ⟨js,ry,py⟩:=I.sqv qy
  obtain ⟨ux,Y,rux⟩:=rx.get ex
  obtain ⟨uy,Z,ruy⟩:=ry.get ey
  refine Zp.nxt_item D B F G hi J px py (by simpa using Y) (by simpa using Z) fun h1 z1 o1 i1 j1 p1 R=>⟨_,rfl, ?_⟩
  refine wpAny_letOwnedTupleGo_zip (s := { s with heap:=h1 }) z1 fun h2 z2 s2 => ?_
  have lt:∀ {c o},s.heap.get? c=some o->c≠s.heap.objs.size:=fun e=>Nat.ne_of_lt (Heap.lt_size e)
  have nz:s.heap.objs.size≠z:=(lt B).symm
  have BP:∃ o,s.heap.get? i=some o:=hi.lt.imp fun _ h=>h.1
  have BQ:∃ o,s.heap.get? j=some o:=J.lt.imp fun _ h=>h.1
  have up:∀ c o,c≠z->h1.get? c=some o->h2.get? c=some o:=fun c o n e=>s2.extBut _ _ n e
  have IL:Inv X pins σ (upd H s.heap.objs.size (.tup [x,y])) { s with heap:=s.heap.push { cls := .type "tuple",data := .seq #[ux,uy] },toks:=s.toks } :=
   I.laid (fun b o e=>Heap.get?_push_of_some _ e) (Nat.le_refl _) ⟨by rw [sizeLine_eq];simp,[ux,uy], .cons rux (.cons ruy .nil),IsTup.new _ _⟩
  have fr:∀ c∈[z,T,O,i,j],c≠s.heap.objs.size:=fun c q=>by
   simp only [List.mem_cons,List.not_mem_nil,or_false] at q
   rcases q with rfl | rfl | rfl | rfl | rfl
   ·exact lt B
   ·exact lt F
   ·exact lt G
   ·obtain ⟨o,e⟩:=BP;exact lt e
   ·obtain ⟨o,e⟩:=BQ;exact lt e
  have un:∀ c∈[z,T,O,i,j],upd H s.heap.objs.size (.tup [x,y]) c=none:=fun c q=>by
   rw [aj (fr c q)];exact (hf c q).1
  have kk:∀ c o,c∉[z,T,O,i,j]->(s.heap.push { cls := .type "tuple",data := .seq #[ux,uy] }).get? c=some o->h2.get? c=some o:=fun c o q e=>by
   simp only [List.mem_cons,List.not_mem_nil,or_false,not_or] at q
   rcases Heap.get?_push_cases e with ⟨rfl,rfl⟩ | e
   ·exact up _ _ nz p1
   ·exact up _ _ q.1 (R c o q.1 q.2.2.1 q.2.2.2.1 q.2.2.2.2 e)
  have I2:Inv X pins σ (upd H s.heap.objs.size (.tup [x,y])) { s with heap:=h2,toks:=s.toks } :=
   (Inv.turnedL (s := { s with heap:=s.heap.push { cls := .type "tuple",data := .seq #[ux,uy] },toks:=s.toks }) (h':=h2) (t':=s.toks) (fp := [z,T,O,i,j]) IL (fun c q=>⟨un c q,(hf c q).2⟩) kk)
  refine ⟨.ref s.heap.objs.size,_,I2,rfl,⟨_,x,y,I.hok.fresh (Nat.le_refl _),rfl,rfl,fun xs' ys' q1 q2 => ?_⟩,⟨z2,up _ _ D.TIz (R _ _ D.TIz D.TITO D.TIi1 D.TIi2 F),⟨_,_,up _ _ D.TOz o1⟩,i1.up fun o e=>up _ o D.i1z e,j1.up fun o e=>up _ o D.i2z e⟩,un⟩
  rw [I.sqv_inj q1 qx,I.sqv_inj q2 qy];exact ⟨ex,ey⟩
 done:=by
  intro X S hw U q k pins s σ H E I hf st hg
  subst S hw U
  obtain ⟨B,F,⟨p,r,G⟩,hi,J⟩:=st
  obtain ⟨xs,ys,qx,qy,L⟩:=hg
  obtain ⟨is,rx,px⟩:=I.sqv qx
  obtain ⟨js,ry,py⟩:=I.sqv qy
  have lx:=rx.length
  have ly:=ry.length
  refine Zp.nxt_end (I.ok.hd q) D B F G hi J px py (L.imp (fun e=>by simp;lia) (fun e=>by simp;lia)) fun h1 R=>⟨rfl,I.turnedL (t':=s.toks) hf fun c o q e => ?_⟩
  simp only [List.mem_cons,List.not_mem_nil,or_false,not_or] at q
  exact R c o q.1 q.2.2.1 q.2.2.2.1 q.2.2.2.2 e
 self:=fun A k s Q E st h=>wpAny_pyIter_zip st.1 h
section
variable {X:Cx}
noncomputable def BE (K:Frag) (ta:TA):TI:=fun σ H R=>ta σ H fun vs H1 => ∃ a b t u xs ys,vs=[.ref a, .ref b]/\SqV K t H1 a xs/\SqV K u H1 b ys/\R (Itz K t u a b) H1
theorem zw {elts:List Expr} {cx} {pos p pos':Pos} {a b:Expr} {ta:TA} (F:Gl X "zip") (hm:X.mg "zip" = none) (G:PA X [a,b] ta) (hs:starEach [a,b] X.env=[(false,eval a X.env),(false,eval b X.env)]) (j:starEach [b] X.env=[(false,eval b X.env)]) :
 PI X (.Tuple elts cx pos) (.Call (.Name "zip" p) [a,b] [] pos') (BE X.K ta):=by
 intro pins s σ H R I h
 refine Call_ (cS I F hm (u := .type "zip") (by decide +kernel) (PyProof.Rows.callWith_type1 (thn (G pos' pins s σ H _ I h) fun us s1 ⟨vs,H1,n,J,L⟩ => ?_) (by rw [hs,j]) (by rw [j];rfl)))
 obtain ⟨a',b',t,u,xs,ys,rfl,qx,qy,q⟩:=L
 cases J with
 | cons r rr =>
   cases rr with
   | cons r' rr =>
     cases rr
     cases r
     cases r'
     obtain ⟨is,rx,px⟩:=n.sqv qx
     obtain ⟨js,ry,py⟩:=n.sqv qy
     refine Zp.call_zip px py fun h1 z t1 O S U sz Y => ?_
     refine wpAny_pyIter_zip z ?_
     have la:a' < s1.heap.objs.size:=by cases t <;> (obtain ⟨o,e,_⟩:=px;exact Heap.lt_size e)
     have lb:b' < s1.heap.objs.size:=by cases u <;> (obtain ⟨o,e,_⟩:=py;exact Heap.lt_size e)
     have D:ZipApart (s1.heap.objs.size+4) (s1.heap.objs.size+2) (s1.heap.objs.size+3) s1.heap.objs.size (s1.heap.objs.size+1) a' b':=by constructor <;> (intro e;subst_vars;first | lia | (simp only [Addr] at *;lia))
     refine ⟨_,_,_,_,H1,rfl,n.kept (t':=s1.toks) Y,tX (t:=t) (u:=u) D,⟨z,t1,⟨_,_,O⟩,S,U⟩,fun c B => ?_,q⟩
     have hle:s1.heap.objs.size<=c:=by
      simp only [List.mem_cons,List.not_mem_nil,or_false] at B
      rcases B with rfl | rfl | rfl | rfl | rfl <;> lia
     exact n.fpOk hle (n.hok.fresh hle)
end
end
end L2
namespace L2
namespace En
open PySem PySem.Spec PyProof.Rows
section
variable {prog:Program} {w:World} {A:Around} {E:Value->Shared->Prop} {s:Shared}
open Builtin.SmallTypes Zp in
theorem zx {z i a:Addr} {t:Bool} {k:Nat} {xs:Array Value} {x old:Value} {Q:Value->Shared->Prop} (L:IsEnum s.heap z i k old) (hi:At t s.heap i a k) (ha:Sq t s.heap a xs) (hx:xs[k]? = some x) (j:z≠i)
 (q:∀ h',IsEnumOut h' z i ((k:Int)+1) x s.heap.objs.size->At t h' i a (k+1)->h'.get? s.heap.objs.size=some { cls := .type "tuple",data := .seq #[.int k s.toks,x] } ->
   (∀ b o,b≠z->b≠i->s.heap.get? b=some o->h'.get? b=some o)->Q (.ref s.heap.objs.size) { s with heap:=h',toks:=s.toks+1 }) :
 wpAny (model prog w) A (Builtin.«enumerate.__next__» ⟨[.ref z],[]⟩) (fun fin s' => ∃ v,fin = .done (.ret v)/\Q v s') E s:=by
 obtain ⟨n,g,d,tk,os⟩:=s
 refine wpAny_bind (m:=field (.ref z) 2) (wpAny_field L rfl (x := .ref i) rfl (wpAny_bind (cI hi ha hx fun g1 i1 s1 => ?_)))
 have S1:Heap.SameBut i n g1:=s1
 clear s1
 have O:IsEnum g1 z i k old:=(S1.2 z j).trans L
 refine wpAny_bind (m:=field (.ref z) 3) (wpAny_field (s:=⟨g1,g,d,tk,os⟩) O rfl (x:=rawInt k) rfl ?_)
 refine wpAny_bind (m:=field (.ref z) 4) (wpAny_field (s:=⟨g1,g,d,tk,os⟩) O rfl (x := .none) rfl ?_)
 refine wpAny_bind (m:=mkInt k) (wpAny_mkInt ?_)
 refine wpAny_bind (m:=setField (.ref z) 3 (rawInt ((k:Int)+1))) (wpAny_setField_rec (s:=⟨g1,g,d,tk+1,os⟩) O (by simp) fun g2 U s2 => ?_)
 have R:Heap.SameBut z g1 g2:=s2
 have Z2:IsEnum g2 z i ((k:Int)+1) old:=U
 clear s2 U
 refine wpAny_bind (m:=setField (.ref z) 4 .none) (wpAny_setField_rec (s:=⟨g2,g,d,tk+1,os⟩) Z2 (by simp) fun g3 Y s3 => ?_)
 have S:Heap.SameBut z g2 g3:=s3
 have Z3:IsEnum g3 z i ((k:Int)+1) old:=Y
 clear s3 Y
 refine wpAny_bind (m:=newTuple [.int k tk,x]) (wpAny_newTuple ?_)
 have F:IsEnum (g3.push { cls := .type "tuple",data := .seq #[.int k tk,x] }) z i ((k:Int)+1) old:=Heap.get?_push_of_some _ Z3
 have sz:g3.objs.size=n.objs.size:=by rw [S.1,R.1,S1.1]
 have zl:z < n.objs.size:=Heap.lt_size L
 have Z:(g3.push { cls := .type "tuple",data := .seq #[.int k tk,x] }).get? n.objs.size=some { cls := .type "tuple",data := .seq #[.int k tk,x] }:=by rw [<- sz];exact Heap.get?_push_size _ rfl
 have K4:∀ b o,b≠z->b≠i->n.get? b=some o->(g3.push { cls := .type "tuple",data := .seq #[.int k tk,x] }).get? b=some o:=fun b o bz bi e =>
  Heap.get?_push_of_some _ (S.extBut b o bz (R.extBut b o bz (S1.extBut b o bi e)))
 have I4:At t (g3.push { cls := .type "tuple",data := .seq #[.int k tk,x] }) i a (k+1):=i1.up fun o e=>Heap.get?_push_of_some _ (S.extBut i o j.symm (R.extBut i o j.symm e))
 rw [sz]
 generalize g3.push { cls := .type "tuple",data := .seq #[.int k tk,x] }=B at F Z K4 I4
 refine wpAny_bind (m:=ownedTupleIsFree (.ref z)) ?_
 unfold ownedTupleIsFree
 refine wpAny_bind (wpAny_field (s:=⟨B,g,d,tk+1,os⟩) F rfl (x := .none) rfl (wpAny_pure ?_))
 simp only [if_true]
 refine wpAny_bind (wpAny_rule (wpAny_bind (wpAny_field (s:=⟨B,g,d,tk+1,os⟩) F rfl (x:=old) rfl (wpAny_bind (wpAny_setField_rec (s:=⟨B,g,d,tk+1,os⟩) F (by simp) fun G z5 s5 => ?_)))))
 have S5:Heap.SameBut z B G:=s5
 have Z5:IsEnum G z i ((k:Int)+1) x:=z5
 clear s5 z5
 refine wpAny_bind (m:=ownedTupleHandOut (.ref z) (.ref n.objs.size)) ?_
 unfold ownedTupleHandOut
 refine wpAny_bind (wpAny_setField_rec (s:=⟨G,g,d,tk+1,os⟩) Z5 (by simp) fun I z6 s6 => ?_)
 have S6:Heap.SameBut z G I:=s6
 have Z6:IsEnumOut I z i ((k:Int)+1) x n.objs.size:=z6
 clear s6 z6
 refine wpAny_setField_rec (s:=⟨I,g,d,tk+1,os⟩) Z6 (by simp) fun J z7 s7 => ?_
 have S7:Heap.SameBut z I J:=s7
 have Z7:IsEnumOut J z i ((k:Int)+1) x n.objs.size:=z7
 clear s7 z7
 have up:∀ b o,b≠z->B.get? b=some o->J.get? b=some o:=fun b o bz e=>S7.extBut b o bz (S6.extBut b o bz (S5.extBut b o bz e))
 exact wpAny_bind (wpAny_letGo (wpAny_pure ⟨_,rfl,q J Z7 (I4.up fun o e=>up i o j.symm e) (up _ _ (Nat.ne_of_gt zl) Z) fun b o bz bi e=>up b o bz (K4 b o bz bi e)⟩))
theorem nxt_item {z i a:Addr} {t:Bool} {k:Nat} {xs:Array Value} {x old:Value} {Q:Option Value->Shared->Prop} (n:IsEnum s.heap z i k old) (hi:Zp.At t s.heap i a k) (B:Zp.Sq t s.heap a xs) (hx:xs[k]? = some x) (j:z≠i)
 (q:∀ h',IsEnumOut h' z i ((k:Int)+1) x s.heap.objs.size->Zp.At t h' i a (k+1)->h'.get? s.heap.objs.size=some { cls := .type "tuple",data := .seq #[.int k s.toks,x] } ->
   (∀ b o,b≠z->b≠i->s.heap.get? b=some o->h'.get? b=some o)->Q (some (.ref s.heap.objs.size)) { s with heap:=h',toks:=s.toks+1 }) :
 wpAny (model prog w) A (pyNext (.ref z)) Q E s:=by
 have ty:s.TypeIs (.ref z) "enumerate" := ⟨_,n,rfl⟩
 unfold pyNext
 exact wpAny_bind (wpAny_attempt (wpAny_callSpecial?_slot (name:=Str.ofString "__next__") ty F.slot_enumerate_next (wpAny_call_entry F.slot_enumerate_next ty F.entry_enumerate_next
  (zx n hi B hx j fun h' a1 a2 G I=>wpAny_pure (q h' a1 a2 G I)) (F.args_enumerate_next_1 _))))
theorem nxt_end {z i a:Addr} {t:Bool} {k:Nat} {xs:Array Value} {old:Value} {Q:Option Value->Shared->Prop} (n:A.handled=none) (j:IsEnum s.heap z i k old) (hi:Zp.At t s.heap i a k) (B:Zp.Sq t s.heap a xs) (hx:xs[k]? = none)
 (q:∀ h',Heap.ExtBut i s.heap h'->Q none { s with heap:=h' }):wpAny (model prog w) A (pyNext (.ref z)) Q E s:=by
 have ty:s.TypeIs (.ref z) "enumerate" := ⟨_,j,rfl⟩
 unfold pyNext
 refine wpAny_bind (wpAny_attempt (wpAny_callSpecial?_slot (name:=Str.ofString "__next__") ty F.slot_enumerate_next (wpAny_call_entry F.slot_enumerate_next ty F.entry_enumerate_next ?_ (F.args_enumerate_next_1 _))))
 refine wpAny_bind (m:=field (.ref z) 2) (wpAny_field j rfl (x := .ref i) rfl (wpAny_bind (Zp.nx_end n hi B hx fun h' x he hs => ?_)))
 obtain ⟨o,ho,G⟩:=hs
 exact wpAny_bind (wpAny_isInstance (T := "StopIteration") (b:=true) ⟨o,ho,G⟩ isSubtype_stop (wpAny_pure (q _ he)))
open AutoSeq1 (wpAny_loadPart') in
theorem xg (l:Addr) (items:Array Value) (n:Nat) (dct:Option Addr) (sl:Array (Option Value)) :
 Meets (Builtin.«enumerate.__new__» ⟨[.type "enumerate", .ref l],[]⟩) (fun _ R s=>s.heap.get? l=some { cls := .type "tuple",dict:=dct,data := .seq items n,slots:=sl } /\
  R (.ok (.ret (.ref (s.heap.push (Zp.itO true l)).objs.size))) { s with heap:=(s.heap.push (Zp.itO true l)).push { cls := .type "enumerate",data := .fields #[.none, .bool false, .ref s.heap.objs.size,rawInt 0, .none, .none] } }) :=
 .of_wp fun prog w A R s h=>by
  obtain ⟨z,g,d,tk,os⟩:=s;obtain ⟨hl,h⟩:=h
  have j:=sub_enumerate
  have q:Heap.IsTuple (Shared.heap ⟨z,g,d,tk,os⟩) l items:=⟨_,hl,rfl,n,rfl⟩
  wp_walk using wpAny_loadPart' hl
  refine wpAny_stack_any fun st=>wpAny_pure ?_
  split
  ·rename_i c _ _ _ _ _
   cases (c==Value.type "enumerate") <;> (wp_walk using wpAny_loadPart' hl,wpAny_pyIter_tuple q;exact ⟨_,rfl,h⟩)
  ·wp_walk using wpAny_loadPart' hl,wpAny_pyIter_tuple q
   exact ⟨_,rfl,h⟩
theorem call_enum {t:Bool} {l:Addr} {items:Array Value} {Q:Value->Shared->Prop} (B:Zp.Sq t s.heap l items)
 (q:∀ h',IsEnum h' (s.heap.objs.size+1) s.heap.objs.size 0 .none->Zp.At t h' s.heap.objs.size l 0->(∀ b o,s.heap.get? b=some o->h'.get? b=some o)->Q (.ref (s.heap.objs.size+1)) { s with heap:=h' }) :
 wpAny (model prog w) A (call (.type "enumerate") [.ref l]) Q E s:=by
 cases t with
 | false=>exact call_enumerate_list B fun h' a b _ k=>q h' a b k
 | true =>
   obtain ⟨⟨c,dct,dt,sl⟩,hl,I,n,hd⟩:=B
   have j:c = .type "tuple" := I
   have z:dt = .seq items n:=hd
   subst j z
   refine callType_new F.called_enumerate (by decide) (F.typeCall_enumerate_1 _) (F.newCall_enumerate_1 _) (fun obj=>F.args_object_init_2 obj _) F.entry_enumerate_new (xg l items n dct sl) ⟨hl, ?_⟩
   have G:(s.heap.push (Zp.itO true l)).objs.size=s.heap.objs.size+1:=Heap.size_push ..
   have e:((s.heap.push (Zp.itO true l)).push { cls := .type "enumerate",data := .fields #[.none, .bool false, .ref s.heap.objs.size,rawInt 0, .none, .none] }).get? (s.heap.push (Zp.itO true l)).objs.size=some _:=Heap.get?_push_size _ rfl
   rw [G] at e
   show _/\_
   rw [G]
   exact ⟨⟨_,e,rfl⟩,q _ e (Zp.at_new (Heap.get?_push_of_some _ (Heap.get?_push_size _ rfl))) fun b o x=>Heap.get?_push_of_some _ (Heap.get?_push_of_some _ x)⟩
end
end En
open PySem PySem.Spec PyProof.Rows
noncomputable def Ite (K:Frag) (t:Bool) (a:Addr):It :=
 ⟨fun i H => ∃ xs x,SqV K t H a xs/\xs[i]? = some x,
  fun i H v H' => ∃ p x,H p=none/\v = .ref p/\H'=upd H p (.tup [.int (i:Nat),x]) /\ ∀ xs,SqV K t H a xs->xs[i]? = some x,
  fun i H => ∃ xs,SqV K t H a xs/\xs.length<=i⟩
theorem qK {P:Program} {w:World} {K:Frag} {elts:List Expr} {cx} {pos:Pos} {t:Bool} {z i a:Addr} (B:z≠i) :
 eS P w K (.Tuple elts cx pos) (Ite K t a) [z,i] z (fun k h=>(∃ old,IsEnum h z i k old)/\Zp.At t h i a k) where
 mem:=by simp
 obj:=fun k h ⟨⟨old,q⟩,hi⟩ c j=>by
  simp only [List.mem_cons,List.not_mem_nil,or_false] at j
  rcases j with rfl | rfl
  ·exact ⟨_,q,fun v e=>by cases e⟩
  ·exact hi.lt
 keep:=fun k h h' ⟨⟨old,q⟩,hi⟩ kk=>⟨⟨old,kk z (by simp) _ q⟩,hi.up fun o e=>kk i (by simp) o e⟩
 item:=by
  intro X F hw G j k pins s σ H E I hf st hg
  subst F hw G
  obtain ⟨⟨old,q⟩,hi⟩:=st
  obtain ⟨xs,x,qx,ex⟩:=hg
  obtain ⟨is,rx,px⟩:=I.sqv qx
  obtain ⟨ux,J,rux⟩:=rx.get ex
  refine En.nxt_item q hi px (by simpa using J) B fun h1 S U Y L=>⟨_,rfl, ?_⟩
  refine wpAny_letOwnedTupleGo_enum (s := { s with heap:=h1,toks:=s.toks+1 }) S fun h2 Z s2 => ?_
  have lt:∀ {c o},s.heap.get? c=some o->c≠s.heap.objs.size:=fun e=>Nat.ne_of_lt (Heap.lt_size e)
  have nz:s.heap.objs.size≠z:=(lt q).symm
  have O:∃ o,s.heap.get? i=some o:=hi.lt.imp fun _ h=>h.1
  have up:∀ c o,c≠z->h1.get? c=some o->h2.get? c=some o:=fun c o n e=>s2.extBut _ _ n e
  have IL:Inv X pins σ (upd H s.heap.objs.size (.tup [.int (k:Nat),x])) { s with heap:=s.heap.push { cls := .type "tuple",data := .seq #[.int k s.toks,ux] },toks:=s.toks+1 } :=
   I.laid (fun b o e=>Heap.get?_push_of_some _ e) (Nat.le_refl _) ⟨by rw [sizeLine_eq];simp,[.int k s.toks,ux], .cons ⟨_,rfl⟩ (.cons rux .nil),IsTup.new _ _⟩
  have fr:∀ c∈[z,i],c≠s.heap.objs.size:=fun c j=>by
   simp only [List.mem_cons,List.not_mem_nil,or_false] at j
   rcases j with rfl | rfl
   ·exact lt q
   ·obtain ⟨o,e⟩:=O;exact lt e
  have un:∀ c∈[z,i],upd H s.heap.objs.size (.tup [.int (k:Nat),x]) c=none:=fun c j=>by
   rw [aj (fr c j)];exact (hf c j).1
  have kk:∀ c o,c∉[z,i]->(s.heap.push { cls := .type "tuple",data := .seq #[.int k s.toks,ux] }).get? c=some o->h2.get? c=some o:=fun c o j e=>by
   simp only [List.mem_cons,List.not_mem_nil,or_false,not_or] at j
   rcases Heap.get?_push_cases e with ⟨rfl,rfl⟩ | e
   ·exact up _ _ nz Y
   ·exact up _ _ j.1 (L c o j.1 j.2 e)
  have I2:Inv X pins σ (upd H s.heap.objs.size (.tup [.int (k:Nat),x])) { s with heap:=h2,toks:=s.toks+1 } :=
   Inv.turnedL (s := { s with heap:=s.heap.push { cls := .type "tuple",data := .seq #[.int k s.toks,ux] },toks:=s.toks+1 }) (h':=h2) (t':=s.toks+1) (fp := [z,i]) IL (fun c j=>⟨un c j,(hf c j).2⟩) kk
  refine ⟨.ref s.heap.objs.size,_,I2,rfl,⟨_,x,I.hok.fresh (Nat.le_refl _),rfl,rfl,fun xs' q1 => ?_⟩,⟨⟨ux,by simpa using Z⟩,U.up fun o e=>up _ o B.symm e⟩,un⟩
  rw [I.sqv_inj q1 qx];exact ex
 done:=by
  intro X F hw G j k pins s σ H E I hf st hg
  subst F hw G
  obtain ⟨⟨old,q⟩,hi⟩:=st
  obtain ⟨xs,qx,R⟩:=hg
  obtain ⟨is,rx,px⟩:=I.sqv qx
  have lx:=rx.length
  refine En.nxt_end (I.ok.hd j) q hi px (by simp;lia) fun h1 L=>⟨rfl,I.turnedL (t':=s.toks) hf fun c o j e => ?_⟩
  simp only [List.mem_cons,List.not_mem_nil,or_false,not_or] at j
  exact L c o j.2 e
 self:=fun A k s Q E ⟨⟨old,q⟩,_⟩ h=>wpAny_pyIter_enum q h
section
variable {X:Cx}
noncomputable def AO (K:Frag) (ta:TA):TI:=fun σ H R=>ta σ H fun vs H1 => ∃ a t xs,vs=[.ref a]/\SqV K t H1 a xs/\R (Ite K t a) H1
theorem xh {elts:List Expr} {cx} {pos p pos':Pos} {a:Expr} {ta:TA} (B:Gl X "enumerate") (hm:X.mg "enumerate" = none) (F:PA X [a] ta) (hs:starEach [a] X.env=[(false,eval a X.env)]) :
 PI X (.Tuple elts cx pos) (.Call (.Name "enumerate" p) [a] [] pos') (AO X.K ta):=by
 intro pins s σ H R I h
 refine Call_ (cS I B hm (u := .type "enumerate") boot_enumerate (PyProof.Rows.callWith_type1 (thn (F pos' pins s σ H _ I h) fun us s1 ⟨vs,H1,j,G,J⟩ => ?_) hs rfl))
 obtain ⟨a',t,xs,rfl,qx,q⟩:=J
 cases G with
 | cons r rr =>
   cases rr
   cases r
   obtain ⟨is,rx,px⟩:=j.sqv qx
   refine En.call_enum px fun h1 n L O => ?_
   refine wpAny_pyIter_enum n ?_
   refine ⟨_,_,_,_,H1,rfl,j.kept (t':=s1.toks) O,qK (t:=t) (a:=a') (by simp),⟨⟨_,n⟩,L⟩,fun c z => ?_,q⟩
   have hle:s1.heap.objs.size<=c:=by
    simp only [List.mem_cons,List.not_mem_nil,or_false] at z
    rcases z with rfl | rfl <;> lia
   exact j.fpOk hle (j.hok.fresh hle)
end
end L2
namespace L2
namespace Rv
open PySem PySem.Spec PyProof.Rows
end Rv
open PySem PySem.Spec PyProof.Rows
end L2
namespace L2
namespace Mi
open PySem PySem.Spec PyProof.Rows
section
inductive D where
 | non | bl (b:Bool) | int (i:Int) | str (x:Str) | tup (ds:List D) | con (ds:List D) | ref (a:Addr)
inductive O where
 | lst (ds:List D)
 | dct (t:Bool) (kvs:List (D×D))
 | fdc (kvs:List (D×D))
noncomputable abbrev Mem:=Addr->Option O
noncomputable def fz:Option O->Bool
 | some (.lst _)=>false
 | some (.dct _ _)=>false
 | _=>true
noncomputable abbrev aq:=List (Option D)
noncomputable def af (M:Mem) (a:Addr) (o:O):Mem:=fun b=>if b=a then some o else M b
theorem ad {M:Mem} {a:Addr} {o:O}:af M a o a=some o:=by unfold af;rw [if_pos rfl]
theorem av {M:Mem} {a b:Addr} {o:O} (h:b≠a):af M a o b=M b:=by unfold af;rw [if_neg h]
noncomputable def SqF (K:Frag) (H:Hp) (a:Addr) (xs:List V):Prop :=
 (∃ o,H a=some (.frz o (.lst xs))) ∨
  ∃ (o:Obj) (its:Array Value) (n:Nat),K.lookup a=some o/\o.cls = .type "list" /\ o.dict=none/\o.data = .seq its n/\its.size<=sizeLine/\Vals xs its.toList
theorem SqF.sq {K:Frag} {H:Hp} {a:Addr} {xs:List V} (h:SqF K H a xs):SqL K H a xs:=by
 rcases h with ⟨o,h⟩ | h
 ·exact .inl (.inr ⟨o,h⟩)
 ·exact .inr h
mutual
noncomputable def RD (K:Frag) (H:Hp):D->V->Prop
 | .non,v=>v = .non
 | .bl b,v=>v = .bl b
 | .int i,v=>v = .int i
 | .str x,v=>v = .str x
 | .tup ds,v => ∃ a vs,v = .ref a/\H a=some (.tup vs)/\RDs K H ds vs
 | .con ds,v => ∃ a vs,v = .ref a/\SqF K H a vs/\RDs K H ds vs
 | .ref a,v=>v = .ref a
noncomputable def RDs (K:Frag) (H:Hp):List D->List V->Prop
 | [],vs=>vs=[]
 | d::ds,vs => ∃ v r,vs=v::r/\RD K H d v/\RDs K H ds r
end
structure Stab (H H':Hp):Prop where
 tup:∀ a xs,H a=some (.tup xs)->H' a=some (.tup xs)
 frz:∀ a o u,H a=some (.frz o u)->H' a=some (.frz o u)
theorem Stab.sqF {K:Frag} {H H':Hp} (st:Stab H H') {a:Addr} {xs:List V} (h:SqF K H a xs):SqF K H' a xs:=by
 rcases h with ⟨o,h⟩ | h
 ·exact .inl ⟨o,st.frz _ _ _ h⟩
 ·exact .inr h
mutual
theorem RD.mono {K:Frag} {H H':Hp} (st:Stab H H'):∀ {d:D} {v:V},RD K H d v->RD K H' d v
 | .non,_,h=>h
 | .bl _,_,h=>h
 | .int _,_,h=>h
 | .str _,_,h=>h
 | .tup ds,v,h=>by
  unfold RD at h ⊢
  obtain ⟨a,vs,e,q,r⟩:=h
  exact ⟨a,vs,e,st.tup _ _ q,RDs.mono st r⟩
 | .con ds,v,h=>by
  unfold RD at h ⊢
  obtain ⟨a,vs,e,q,r⟩:=h
  exact ⟨a,vs,e,st.sqF q,RDs.mono st r⟩
 | .ref _,_,h=>h
theorem RDs.mono {K:Frag} {H H':Hp} (st:Stab H H'):∀ {ds:List D} {vs:List V},RDs K H ds vs->RDs K H' ds vs
 | [],_,h=>h
 | d::ds,vs,h=>by
   unfold RDs at h ⊢
   obtain ⟨v,r,e,h1,h2⟩:=h
   exact ⟨v,r,e,RD.mono st h1,RDs.mono st h2⟩
end
section
variable {K:Frag} {H H':Hp}
theorem RD.int_iff {i:Int} {v:V}:RD K H (.int i) v↔v = .int i:=by unfold RD;exact Iff.rfl
theorem RD.bl_iff {b:Bool} {v:V}:RD K H (.bl b) v↔v = .bl b:=by unfold RD;exact Iff.rfl
theorem RD.non_iff {v:V}:RD K H .non v↔v = .non:=by unfold RD;exact Iff.rfl
theorem RD.str_iff {x:Str} {v:V}:RD K H (.str x) v↔v = .str x:=by unfold RD;exact Iff.rfl
theorem RD.ref_iff {a:Addr} {v:V}:RD K H (.ref a) v↔v = .ref a:=by unfold RD;exact Iff.rfl
theorem RD.tup_iff {ds:List D} {v:V}:RD K H (.tup ds) v ↔ ∃ a vs,v = .ref a/\H a=some (.tup vs)/\RDs K H ds vs:=by rw [RD]
theorem RD.con_iff {ds:List D} {v:V}:RD K H (.con ds) v ↔ ∃ a vs,v = .ref a/\SqF K H a vs/\RDs K H ds vs:=by rw [RD]
theorem RDs.nil_iff {vs:List V}:RDs K H [] vs↔vs=[]:=by rw [RDs]
theorem RDs.cons_iff {d:D} {ds:List D} {vs:List V}:RDs K H (d::ds) vs ↔ ∃ v r,vs=v::r/\RD K H d v/\RDs K H ds r:=by rw [RDs]
theorem RDs.nil:RDs K H [] []:=RDs.nil_iff.mpr rfl
theorem RDs.cons {d:D} {ds:List D} {v:V} {vs:List V} (h:RD K H d v) (r:RDs K H ds vs):RDs K H (d::ds) (v::vs):=RDs.cons_iff.mpr ⟨v,vs,rfl,h,r⟩
theorem RDs.length:∀ {ds:List D} {vs:List V},RDs K H ds vs->vs.length=ds.length
 | [],_,h=>by rw [RDs.nil_iff.mp h];rfl
 | d::ds,_,h=>by
   obtain ⟨v,r,rfl,_,h2⟩:=RDs.cons_iff.mp h
   simp [RDs.length h2]
theorem RDs.get:∀ {ds:List D} {vs:List V} {i:Nat} {d:D},RDs K H ds vs->ds[i]? = some d -> ∃ v,vs[i]? = some v/\RD K H d v
 | [],_,_,_,_,e=>by simp at e
 | d::ds,_,0,d',h,e=>by
   obtain ⟨v,r,rfl,h1,h2⟩:=RDs.cons_iff.mp h
   simp at e;subst e
   exact ⟨v,rfl,h1⟩
 | d::ds,_,i+1,d',h,e=>by
   obtain ⟨v,r,rfl,h1,h2⟩:=RDs.cons_iff.mp h
   obtain ⟨u,j,n⟩:=RDs.get (i:=i) (d:=d') h2 (by simpa using e)
   exact ⟨u,by simpa using j,n⟩
theorem RDs.getV {ds:List D} {vs:List V} {i:Nat} {v:V} (h:RDs K H ds vs) (e:vs[i]? = some v):∃ d,ds[i]? = some d/\RD K H d v:=by
 have hl:=h.length
 have hi:i < vs.length:=(List.getElem?_eq_some_iff.mp e).1
 obtain ⟨d,hd⟩:∃ d,ds[i]? = some d:=⟨ds[i]'(by lia),List.getElem?_eq_getElem (by lia)⟩
 obtain ⟨u,j,n⟩:=h.get hd
 rw [e] at j;cases j
 exact ⟨d,hd,n⟩
theorem RDs.append:∀ {ds es:List D} {vs us:List V},RDs K H ds vs->RDs K H es us->RDs K H (ds++es) (vs++us)
 | [],_,_,_,h,q=>by rw [RDs.nil_iff.mp h];exact q
 | d::ds,_,_,_,h,q=>by
   obtain ⟨v,r,rfl,h1,h2⟩:=RDs.cons_iff.mp h
   exact RDs.cons h1 (RDs.append h2 q)
theorem RDs.take:∀ {ds:List D} {vs:List V} (n:Nat),RDs K H ds vs->RDs K H (ds.take n) (vs.take n)
 | [],_,n,h=>by rw [RDs.nil_iff.mp h];simp;exact RDs.nil
 | _::_,_,0,h=>by simp;exact RDs.nil
 | d::ds,_,n+1,h=>by
   obtain ⟨v,r,rfl,h1,h2⟩:=RDs.cons_iff.mp h
   exact RDs.cons h1 (RDs.take n h2)
theorem RDs.drop:∀ {ds:List D} {vs:List V} (n:Nat),RDs K H ds vs->RDs K H (ds.drop n) (vs.drop n)
 | [],_,n,h=>by rw [RDs.nil_iff.mp h];simp;exact RDs.nil
 | d::ds,_,0,h=>h
 | d::ds,_,n+1,h=>by
   obtain ⟨v,r,rfl,h1,h2⟩:=RDs.cons_iff.mp h
   exact RDs.drop n h2
theorem RDs.set:∀ {ds:List D} {vs:List V} (n:Nat) {d:D} {v:V},RD K H d v->RDs K H ds vs->RDs K H (ds.set n d) (vs.set n v)
 | [],_,n,_,_,_,h=>by rw [RDs.nil_iff.mp h];exact RDs.nil
 | d::ds,_,0,_,_,q,h=>by
   obtain ⟨v,r,rfl,h1,h2⟩:=RDs.cons_iff.mp h
   exact RDs.cons q h2
 | d::ds,_,n+1,_,_,q,h=>by
   obtain ⟨v,r,rfl,h1,h2⟩:=RDs.cons_iff.mp h
   exact RDs.cons h1 (RDs.set n q h2)
theorem RDs.reverse {ds:List D} {vs:List V} (h:RDs K H ds vs):RDs K H ds.reverse vs.reverse:=by
 induction ds generalizing vs with
 | nil=>rw [RDs.nil_iff.mp h];exact RDs.nil
 | cons d ds ih =>
   obtain ⟨v,r,rfl,h1,h2⟩:=RDs.cons_iff.mp h
   rw [List.reverse_cons,List.reverse_cons]
   exact (ih h2).append (RDs.cons h1 RDs.nil)
theorem RDs.rep {ds:List D} {vs:List V} (h:RDs K H ds vs):∀ k:Nat,RDs K H (List.replicate k ds).flatten (List.replicate k vs).flatten
 | 0=>RDs.nil
 | k+1=>by
   rw [List.replicate_succ,List.replicate_succ,List.flatten_cons,List.flatten_cons]
   exact h.append (h.rep k)
theorem RDs.ints:∀ (ns:List Int),RDs K H (ns.map D.int) (ns.map V.int)
 | [] => RDs.nil
 | n::ns=>RDs.cons (RD.int_iff.mpr rfl) (RDs.ints ns)
end
mutual
noncomputable def D.eqb:D->D->Bool
 | .non, .non=>true
 | .bl a, .bl b=>a==b
 | .int a, .int b=>decide (a=b)
 | .str a, .str b=>decide (a=b)
 | .tup a, .tup b=>D.eqbs a b
 | .con a, .con b=>D.eqbs a b
 | .ref a, .ref b=>decide (a=b)
 | _,_=>false
noncomputable def D.eqbs:List D->List D->Bool
 | [],[] => true
 | a::r,b::s=>D.eqb a b&&D.eqbs r s
 | _,_=>false
end
mutual
theorem D.eqb_eq:∀ (a b:D),D.eqb a b=true->a=b
 | .non, .non,_=>rfl
 | .bl a, .bl b,h=>by simp [D.eqb] at h;rw [h]
 | .int a, .int b,h=>by simp [D.eqb] at h;rw [h]
 | .str a, .str b,h=>by simp [D.eqb] at h;rw [h]
 | .tup a, .tup b,h=>by simp [D.eqb] at h;rw [D.eqbs_eq a b h]
 | .con a, .con b,h=>by simp [D.eqb] at h;rw [D.eqbs_eq a b h]
 | .ref a, .ref b,h=>by simp [D.eqb] at h;rw [h]
 | .non, .bl _,h=>by simp [D.eqb] at h
 | .non, .int _,h=>by simp [D.eqb] at h
 | .non, .str _,h=>by simp [D.eqb] at h
 | .non, .tup _,h=>by simp [D.eqb] at h
 | .non, .con _,h=>by simp [D.eqb] at h
 | .non, .ref _,h=>by simp [D.eqb] at h
 | .bl _, .non,h=>by simp [D.eqb] at h
 | .bl _, .int _,h=>by simp [D.eqb] at h
 | .bl _, .str _,h=>by simp [D.eqb] at h
 | .bl _, .tup _,h=>by simp [D.eqb] at h
 | .bl _, .con _,h=>by simp [D.eqb] at h
 | .bl _, .ref _,h=>by simp [D.eqb] at h
 | .int _, .non,h=>by simp [D.eqb] at h
 | .int _, .bl _,h=>by simp [D.eqb] at h
 | .int _, .str _,h=>by simp [D.eqb] at h
 | .int _, .tup _,h=>by simp [D.eqb] at h
 | .int _, .con _,h=>by simp [D.eqb] at h
 | .int _, .ref _,h=>by simp [D.eqb] at h
 | .str _, .non,h=>by simp [D.eqb] at h
 | .str _, .bl _,h=>by simp [D.eqb] at h
 | .str _, .int _,h=>by simp [D.eqb] at h
 | .str _, .tup _,h=>by simp [D.eqb] at h
 | .str _, .con _,h=>by simp [D.eqb] at h
 | .str _, .ref _,h=>by simp [D.eqb] at h
 | .tup _, .non,h=>by simp [D.eqb] at h
 | .tup _, .bl _,h=>by simp [D.eqb] at h
 | .tup _, .int _,h=>by simp [D.eqb] at h
 | .tup _, .str _,h=>by simp [D.eqb] at h
 | .tup _, .con _,h=>by simp [D.eqb] at h
 | .tup _, .ref _,h=>by simp [D.eqb] at h
 | .con _, .non,h=>by simp [D.eqb] at h
 | .con _, .bl _,h=>by simp [D.eqb] at h
 | .con _, .int _,h=>by simp [D.eqb] at h
 | .con _, .str _,h=>by simp [D.eqb] at h
 | .con _, .tup _,h=>by simp [D.eqb] at h
 | .con _, .ref _,h=>by simp [D.eqb] at h
 | .ref _, .non,h=>by simp [D.eqb] at h
 | .ref _, .bl _,h=>by simp [D.eqb] at h
 | .ref _, .int _,h=>by simp [D.eqb] at h
 | .ref _, .str _,h=>by simp [D.eqb] at h
 | .ref _, .tup _,h=>by simp [D.eqb] at h
 | .ref _, .con _,h=>by simp [D.eqb] at h
theorem D.eqbs_eq:∀ (a b:List D),D.eqbs a b=true->a=b
 | [],[],_=>rfl
 | a::r,b::s,h=>by
   simp [D.eqbs] at h
   rw [D.eqb_eq a b h.1,D.eqbs_eq r s h.2]
 | [],_::_,h=>by simp [D.eqbs] at h
 | _::_,[],h=>by simp [D.eqbs] at h
end
mutual
theorem D.eqb_refl:∀ (a:D),D.eqb a a=true
 | .non=>rfl
 | .bl _=>by simp [D.eqb]
 | .int _=>by simp [D.eqb]
 | .str _=>by simp [D.eqb]
 | .tup a=>by simp [D.eqb,D.eqbs_refl a]
 | .con a=>by simp [D.eqb,D.eqbs_refl a]
 | .ref _=>by simp [D.eqb]
theorem D.eqbs_refl:∀ (a:List D),D.eqbs a a=true
 | [] => rfl
 | a::r=>by simp [D.eqbs,D.eqb_refl a,D.eqbs_refl r]
end
noncomputable instance:DecidableEq D:=fun a b=>if h:D.eqb a b=true then isTrue (D.eqb_eq a b h) else isFalse fun e=>h (by rw [e];exact D.eqb_refl b)
noncomputable def RKey:D->Key->Prop
 | .int i,k=>k = .inl i
 | .str x,k=>k = .inr x
 | _,_=>False
noncomputable def RKeys:D->List Key->Prop
 | .tup ds,ks=>Paired RKey ds ks
 | _,_=>False
noncomputable def dget (kvs:List (D×D)) (k:D):Option D:=(kvs.find? fun p=>decide (p.1=k)).map (·.2)
noncomputable def bP (kvs:List (D×D)) (k v:D):List (D×D):=if (kvs.any fun p=>decide (p.1=k))=true then kvs.map (fun p=>if p.1=k then (p.1,v) else p) else kvs++[(k,v)]
noncomputable def cD:D->Bool
 | .int _=>true
 | .str _=>true
 | _=>false
noncomputable def dJ:D->Bool
 | .tup ds=>ds.all cD
 | _=>false
noncomputable def dm (t:Bool) (k:D):Bool:=if t then dJ k else cD k
theorem ic {k:D} (h:cD k=true):∃ q,RKey k q:=by
 cases k <;> first | (simp [cD] at h;done) | exact ⟨_,rfl⟩
theorem nK:∀ {ds:List D},ds.all cD=true -> ∃ ks,Paired RKey ds ks
 | [],_=>⟨[], .nil⟩
 | d::ds,h=>by
   simp only [List.all_cons,Bool.and_eq_true] at h
   obtain ⟨k,j⟩:=ic h.1
   obtain ⟨ks,hs⟩:=nK h.2
   exact ⟨k::ks, .cons j hs⟩
theorem nL {k:D} (h:dJ k=true):∃ q,RKeys k q:=by
 cases k <;> first | (simp [dJ] at h;done) | exact nK h
noncomputable def RO (K:Frag) (H:Hp) (a:Addr):O->Prop
 | .lst ds => ∃ vs,H a=some (.lst vs)/\RDs K H ds vs
 | .dct false kvs => ∃ ps,H a=some (.dK ps)/\Paired (fun (p:D×D) (q:Key×V)=>RKey p.1 q.1/\RD K H p.2 q.2) kvs ps
 | .dct true kvs => ∃ ps,H a=some (.dT ps)/\Paired (fun (p:D×D) (q:List Key×V)=>RKeys p.1 q.1/\RD K H p.2 q.2) kvs ps
 | .fdc kvs => ∃ o ps,H a=some (.frz o (.dT ps))/\Paired (fun (p:D×D) (q:List Key×V)=>RKeys p.1 q.1/\RD K H p.2 q.2) kvs ps
noncomputable def RM (K:Frag) (M:Mem) (H:Hp):Prop := ∀ a o,M a=some o->RO K H a o
noncomputable def RS (K:Frag) (H:Hp) (σ:St) (ρ:aq):Prop := σ.length = ρ.length /\ ∀ (i:Nat) (d:D), ρ[i]? = some (some d) -> ∃ v, σ[i]? = some (some v)/\RD K H d v
structure Ext (M:Mem) (H:Hp) (M':Mem) (H':Hp):Prop where
 kp:∀ a o,fz (M a)=true->H a=some o->H' a=some o
 nw:∀ a o,fz (M a)=true->H a=some o->M' a=M a
section
variable {K:Frag} {M M' M'':Mem} {H H' H'':Hp}
theorem Ext.keep (x:Ext M H M' H') (a:Addr) (o:HO) (n:M a=none) (e:H a=some o):H' a=some o:=x.kp a o (by rw [n];rfl) e
theorem Ext.new (x:Ext M H M' H') (a:Addr) (o:HO) (n:M a=none) (e:H a=some o):M' a=none:=(x.nw a o (by rw [n];rfl) e).trans n
theorem Ext.refl:Ext M H M H:=⟨fun _ _ _ h=>h,fun _ _ _ _=>rfl⟩
theorem Ext.trans (a:Ext M H M' H') (b:Ext M' H' M'' H''):Ext M H M'' H'' :=
 ⟨fun c o n h=>b.kp c o (by rw [a.nw c o n h];exact n) (a.kp c o n h),fun c o n h=>(b.nw c o (by rw [a.nw c o n h];exact n) (a.kp c o n h)).trans (a.nw c o n h)⟩
theorem RM.mut (r:RM K M H) {a:Addr} {o:O} (h:M a=some o):∃ ho,H a=some ho/\(∀ xs,ho ≠ .tup xs)/\(fz (some o)=false->Mut (some ho) /\ ∀ ob u,ho ≠ .frz ob u):=by
 have q:=r a o h
 cases o with
 | lst ds =>
   obtain ⟨vs,e,_⟩:=q
   exact ⟨_,e,fun _ z=>(by cases z),fun _=>⟨trivial,fun _ _ z=>(by cases z)⟩⟩
 | dct t kvs =>
   cases t with
   | false=>obtain ⟨ps,e,_⟩:=q;exact ⟨_,e,fun _ z=>(by cases z),fun _=>⟨trivial,fun _ _ z=>(by cases z)⟩⟩
   | true=>obtain ⟨ps,e,_⟩:=q;exact ⟨_,e,fun _ z=>(by cases z),fun _=>⟨trivial,fun _ _ z=>(by cases z)⟩⟩
 | fdc kvs=>obtain ⟨ob,ps,e,_⟩:=q;exact ⟨_,e,fun _ z=>(by cases z),fun z=>(by cases z)⟩
theorem RM.fzT (r:RM K M H) {a:Addr} {xs:List V} (e:H a=some (.tup xs)):M a=none:=by
 cases q:M a with
 | none=>rfl
 | some o =>
   obtain ⟨ho,j,n,_⟩:=r.mut q
   rw [e] at j;cases j
   exact absurd rfl (n xs)
theorem RM.fzF (r:RM K M H) {a:Addr} {ob:Obj} {u:HO} (e:H a=some (.frz ob u)):fz (M a)=true:=by
 cases q:M a with
 | none=>rfl
 | some o =>
   obtain ⟨ho,j,_,n⟩:=r.mut q
   rw [e] at j;cases j
   cases z:fz (some o) with
   | true=>rfl
   | false=>exact absurd rfl ((n z).2 ob u)
theorem RM.out (r:RM K M H) {a:Addr} (h:H a=none):M a=none:=by
 cases e:M a with
 | none=>rfl
 | some o =>
   obtain ⟨ho,q,_⟩:=r.mut e
   rw [h] at q;cases q
theorem Ext.stab (r:RM K M H) (x:Ext M H M' H'):Stab H H' where
 tup:=fun a xs e=>x.keep a _ (r.fzT e) e
 frz:=fun a o u e=>x.kp a _ (r.fzF e) e
theorem RS.mono (st:Stab H H') {σ:St} {ρ:aq} (h:RS K H σ ρ):RS K H' σ ρ :=
 ⟨h.1,fun i d e=>let ⟨v,q,r⟩:=h.2 i d e; ⟨v,q,r.mono st⟩⟩
theorem RS.set {σ:St} {ρ:aq} (h:RS K H σ ρ) (i:Nat) {d:D} {v:V} (r:RD K H d v):RS K H (σ.set i (some v)) (ρ.set i (some d)):=by
 refine ⟨by simp [h.1],fun j e q => ?_⟩
 by_cases hij:i=j
 ·subst hij
  have hi:i < ρ.length:=by
   have:=(List.getElem?_eq_some_iff.mp q).1
   simpa using this
  rw [List.getElem?_set_self hi] at q
  cases q
  exact ⟨v,by rw [List.getElem?_set_self (by rw [h.1];exact hi)],r⟩
 ·rw [List.getElem?_set_ne hij] at q ⊢
  exact h.2 j e q
noncomputable def j7 (fr:List (Option Nat)) (ρ:aq):aq:=fr.map fun o=>o.bind fun j=>(ρ[j]?).join
theorem RS.inh {σ:St} {ρ:aq} (h:RS K H σ ρ) (fr:List (Option Nat)):RS K H (inh fr σ) (j7 fr ρ):=by
 refine ⟨by simp [L2.inh,j7],fun i d e => ?_⟩
 unfold j7 at e
 unfold L2.inh
 rw [List.getElem?_map] at e ⊢
 cases q:fr[i]? with
 | none=>rw [q] at e;cases e
 | some o =>
   rw [q] at e
   cases o with
   | none=>cases e
   | some j =>
     have e':some ((ρ[j]?).join)=some (some d):=e
     cases q' : ρ[j]? with
     | none=>rw [q'] at e';cases e'
     | some w =>
       rw [q'] at e'
       cases e'
       obtain ⟨v,v1,v2⟩:=h.2 j d q'
       exact ⟨v,by simp [v1],v2⟩
theorem RO.mono (st:Stab H H') {a:Addr} {o:O} (h:RO K H a o) (e:∀ ho,H a=some ho->H' a=some ho):RO K H' a o:=by
 cases o with
 | lst ds=>obtain ⟨vs,q,r⟩:=h;exact ⟨vs,e _ q,r.mono st⟩
 | dct t kvs =>
   cases t with
   | false=>obtain ⟨ps,q,r⟩:=h;exact ⟨ps,e _ q,Paired.mapP r fun _ _ z=>⟨z.1,z.2.mono st⟩⟩
   | true=>obtain ⟨ps,q,r⟩:=h;exact ⟨ps,e _ q,Paired.mapP r fun _ _ z=>⟨z.1,z.2.mono st⟩⟩
 | fdc kvs=>obtain ⟨ob,ps,q,r⟩:=h;exact ⟨ob,ps,e _ q,Paired.mapP r fun _ _ z=>⟨z.1,z.2.mono st⟩⟩
theorem RM.new {p:Addr} {ho:HO} (r:RM K M H) (n:H p=none):RM K M (upd H p ho):=fun a o e=>by
 have ne:a≠p:=fun z=>by subst z;obtain ⟨_,q,_⟩:=r.mut e;rw [n] at q;cases q
 refine (r a o e).mono ⟨fun b xs q => ?_,fun b o u q => ?_⟩ fun j q=>by rw [aj ne];exact q
 ·rw [aj (aT q n)];exact q
 ·rw [aj (aT q n)];exact q
theorem Ext.new' {p:Addr} {ho:HO} (n:H p=none):Ext M H M (upd H p ho):=⟨fun a o _ e=>by rw [aj (aT e n)];exact e,fun _ _ _ _=>rfl⟩
theorem RM.lay {p:Addr} {ho:HO} {o:O} (r:RM K M H) (n:H p=none) (h:RO K (upd H p ho) p o):RM K (af M p o) (upd H p ho):=fun a o' e=>by
 by_cases z:a=p
 ·subst z;rw [ad] at e;cases e;exact h
 ·rw [av z] at e;exact r.new n a o' e
theorem Ext.lay {p:Addr} {ho:HO} {o:O} (n:H p=none):Ext M H (af M p o) (upd H p ho) :=
 ⟨fun a u _ e=>by rw [aj (aT e n)];exact e,fun a u m e=>by rw [av (aT e n)]⟩
theorem RM.put {p:Addr} {ho:HO} {o o0:O} (r:RM K M H) (m:M p=some o0) (h:RO K (upd H p ho) p o) (w:fz (some o0)=false:=by rfl):RM K (af M p o) (upd H p ho):=fun a o' e=>by
 by_cases z:a=p
 ·subst z;rw [ad] at e;cases e;exact h
 ·rw [av z] at e
  obtain ⟨G,j,n,B⟩:=r.mut m
  refine (r a o' e).mono ⟨fun b xs q => ?_,fun b o u q => ?_⟩ fun F q=>by rw [aj z];exact q
  ·rw [aj (fun z=>by subst z;rw [j] at q;cases q;exact n xs rfl)];exact q
  ·rw [aj (fun z=>by subst z;rw [j] at q;cases q;exact (B w).2 o u rfl)];exact q
theorem Ext.put {p:Addr} {ho:HO} {o o0:O} (m:M p=some o0) (w:fz (some o0)=false:=by rfl):Ext M H (af M p o) (upd H p ho) :=
 ⟨fun a u n e=>by rw [aj (fun z=>by subst z;rw [m,w] at n;cases n)];exact e,fun a u n e=>av (fun z=>by subst z;rw [m,w] at n;cases n)⟩
theorem RM.stabPut {p:Addr} {ho:HO} {o0:O} (r:RM K M H) (m:M p=some o0) (w:fz (some o0)=false:=by rfl):Stab H (upd H p ho):=(Ext.put (o:=o0) (ho:=ho) m w).stab r
end
noncomputable abbrev QD:=D->Mem->Prop
noncomputable abbrev TEd:=aq->Mem->QD->Prop
noncomputable abbrev TTd:=aq->Mem->(Bool->Mem->Prop)->Prop
noncomputable abbrev TAd:=aq->Mem->(List D->Mem->Prop)->Prop
structure ba where
 nx:aq->Mem->Prop
 rt:QD
 bk:aq->Mem->Prop:=fun _ _=>False
 ct:aq->Mem->Prop:=fun _ _=>False
noncomputable abbrev TSd:=ba->aq->Mem->Prop
noncomputable def ab (T:TEd):Prop := ∀ ρ M Q Q',(∀ d M',Q d M'->Q' d M')->T ρ M Q->T ρ M Q'
noncomputable def aD (T:TTd):Prop := ∀ ρ M Q Q',(∀ d M',Q d M'->Q' d M')->T ρ M Q->T ρ M Q'
noncomputable def bb (T:TAd):Prop := ∀ ρ M Q Q',(∀ d M',Q d M'->Q' d M')->T ρ M Q->T ρ M Q'
structure LeD (a b:ba):Prop where
 nx:∀ ρ M,a.nx ρ M->b.nx ρ M
 rt:∀ d M,a.rt d M->b.rt d M
 bk:∀ ρ M,a.bk ρ M->b.bk ρ M
 ct:∀ ρ M,a.ct ρ M->b.ct ρ M
noncomputable def aE (T:TSd):Prop := ∀ a b ρ M,LeD a b->T a ρ M->T b ρ M
noncomputable def KE' (K:Frag) (M:Mem) (H:Hp) (Q:VK):QD:=fun d M' => ∀ v H',Ext M H M' H'->RM K M' H'->RD K H' d v->Q v H'
noncomputable def KT' (K:Frag) (M:Mem) (H:Hp) (Q:Bool->Hp->Prop):Bool->Mem->Prop:=fun b M' => ∀ H',Ext M H M' H'->RM K M' H'->Q b H'
noncomputable def KA' (K:Frag) (M:Mem) (H:Hp) (Q:List V->Hp->Prop):List D->Mem->Prop:=fun ds M' => ∀ vs H',Ext M H M' H'->RM K M' H'->RDs K H' ds vs->Q vs H'
noncomputable def lE (K:Frag) (T:TEd):TE:=fun σ H Q => ∃ ρ M,RS K H σ ρ /\ RM K M H/\T ρ M (KE' K M H Q)
noncomputable def lT (K:Frag) (T:TTd):TT:=fun σ H Q => ∃ ρ M,RS K H σ ρ /\ RM K M H/\T ρ M (KT' K M H Q)
noncomputable def lA (K:Frag) (T:TAd):TA:=fun σ H Q => ∃ ρ M,RS K H σ ρ /\ RM K M H/\T ρ M (KA' K M H Q)
structure Link (K:Frag) (M:Mem) (H:Hp) (a:ba) (b:bn):Prop where
 nx:∀ ρ M' σ H',Ext M H M' H'->RS K H' σ ρ -> RM K M' H'->a.nx ρ M'->b.nx σ H'
 rt:∀ d M' v H',Ext M H M' H'->RM K M' H'->RD K H' d v->a.rt d M'->b.rt v H'
 bk:∀ ρ M' σ H',Ext M H M' H'->RS K H' σ ρ -> RM K M' H'->a.bk ρ M'->b.bk σ H'
 ct:∀ ρ M' σ H',Ext M H M' H'->RS K H' σ ρ -> RM K M' H'->a.ct ρ M'->b.ct σ H'
noncomputable def lS (K:Frag) (T:TSd):TS:=fun D σ H => ∃ ρ M A,RS K H σ ρ /\ RM K M H/\Link K M H A D/\T A ρ M
theorem Link.ext {K:Frag} {M M':Mem} {H H':Hp} {a:ba} {b:bn} (l:Link K M H a b) (x:Ext M H M' H'):Link K M' H' a b :=
 ⟨fun ρ M2 σ H2 y=>l.nx ρ M2 σ H2 (x.trans y),fun d M2 v H2 y=>l.rt d M2 v H2 (x.trans y),fun ρ M2 σ H2 y=>l.bk ρ M2 σ H2 (x.trans y),fun ρ M2 σ H2 y=>l.ct ρ M2 σ H2 (x.trans y)⟩
theorem PE.imp {X:Cx} {e:Expr} {t t':TE} (h:PE X e t) (i:∀ σ H Q,t' σ H Q->t σ H Q):PE X e t':=fun pins s σ H Q I q=>h pins s σ H Q I (i _ _ _ q)
theorem PT.imp {X:Cx} {e:Expr} {t t':TT} (h:PT X e t) (i:∀ σ H Q,t' σ H Q->t σ H Q):PT X e t':=fun pins s σ H Q I q=>h pins s σ H Q I (i _ _ _ q)
theorem PW.imp {X:Cx} {e:Expr} {t t':TT} (h:PW X e t) (i:∀ σ H Q,t' σ H Q->t σ H Q):PW X e t':=fun wh pins s σ H Q I q=>h wh pins s σ H Q I (i _ _ _ q)
theorem PA.imp {X:Cx} {e:List Expr} {t t':TA} (h:PA X e t) (i:∀ σ H Q,t' σ H Q->t σ H Q):PA X e t':=fun p pins s σ H Q I q=>h p pins s σ H Q I (i _ _ _ q)
theorem PS.imp {X:Cx} {e:Stmt} {t t':TS} (h:PS X e t) (i:∀ D σ H,t' D σ H->t D σ H):PS X e t':=fun pins s σ H D I q=>h pins s σ H D I (i _ _ _ q)
theorem PSs.imp {X:Cx} {e:List Stmt} {t t':TS} (h:PSs X e t) (i:∀ D σ H,t' D σ H->t D σ H):PSs X e t':=fun pins s σ H D I q=>h pins s σ H D I (i _ _ _ q)
end
section
theorem KE'.ext {K:Frag} {M M2 M':Mem} {H H2:Hp} {Q:VK} {d:D} (x:Ext M H M2 H2) (h:KE' K M H Q d M'):KE' K M2 H2 Q d M':=fun v H' y=>h v H' (x.trans y)
theorem KT'.ext {K:Frag} {M M2 M':Mem} {H H2:Hp} {Q:Bool->Hp->Prop} {d:Bool} (x:Ext M H M2 H2) (h:KT' K M H Q d M'):KT' K M2 H2 Q d M':=fun H' y=>h H' (x.trans y)
noncomputable abbrev R2d:=D->D->Mem->QD->Prop
noncomputable abbrev R1d:=D->Mem->QD->Prop
noncomputable abbrev RAd:=List D->Mem->QD->Prop
noncomputable def al (r:R2d):Prop := ∀ x y M Q Q',(∀ d M',Q d M'->Q' d M')->r x y M Q->r x y M Q'
noncomputable def ph (r:R1d):Prop := ∀ x M Q Q',(∀ d M',Q d M'->Q' d M')->r x M Q->r x M Q'
noncomputable def aV (r:RAd):Prop := ∀ x M Q Q',(∀ d M',Q d M'->Q' d M')->r x M Q->r x M Q'
noncomputable def l2 (K:Frag) (rd:R2d):R2:=fun v u H Q => ∃ x y M,RM K M H/\RD K H x v/\RD K H y u/\rd x y M (KE' K M H Q)
noncomputable def l1 (K:Frag) (rd:R1d):V->Hp->VK->Prop:=fun v H Q => ∃ x M,RM K M H/\RD K H x v/\rd x M (KE' K M H Q)
noncomputable def lR (K:Frag) (rd:RAd):List V->Hp->VK->Prop:=fun vs H Q => ∃ ds M,RM K M H/\RDs K H ds vs/\rd ds M (KE' K M H Q)
noncomputable def lMt (K:Frag) (rd:D->List D->Mem->QD->Prop):V->List V->Hp->VK->Prop:=fun v vs H Q => ∃ x ds M,RM K M H/\RD K H x v/\RDs K H ds vs/\rd x ds M (KE' K M H Q)
noncomputable def gn (i:Nat):TEd:=fun ρ M Q => ∃ d, ρ[i]? = some (some d)/\Q d M
noncomputable def wC (d:D):TEd:=fun _ M Q=>Q d M
noncomputable def wOp (rd:R2d) (ta tb:TEd):TEd:=fun ρ M Q=>ta ρ M fun x M1=>tb ρ M1 fun y M2=>rd x y M2 Q
noncomputable def wUn (rd:R1d) (ta:TEd):TEd:=fun ρ M Q=>ta ρ M fun x M1=>rd x M1 Q
noncomputable def bV:TAd:=fun _ M Q=>Q [] M
noncomputable def be (ta:TEd) (tr:TAd):TAd:=fun ρ M Q=>ta ρ M fun x M1=>tr ρ M1 fun xs M2=>Q (x::xs) M2
noncomputable def wAr (rd:RAd) (t:TAd):TEd:=fun ρ M Q=>t ρ M fun ds M1=>rd ds M1 Q
theorem tY {i:Nat}:ab (gn i):=fun _ _ _ _ h ⟨d,e,q⟩=>⟨d,e,h _ _ q⟩
theorem ie {d:D}:ab (wC d):=fun _ _ _ _ h q=>h _ _ q
theorem dL {rd:R2d} {ta tb:TEd} (hr:al rd) (j:ab ta) (hb:ab tb):ab (wOp rd ta tb):=fun ρ M Q Q' h q =>
 j _ _ _ _ (fun x B n=>hb _ _ _ _ (fun y M2 z=>hr _ _ _ _ _ h z) n) q
theorem xi {rd:R1d} {ta:TEd} (hr:ph rd) (j:ab ta):ab (wUn rd ta):=fun ρ M Q Q' h q=>j _ _ _ _ (fun x z n=>hr _ _ _ _ h n) q
theorem aI:bb bV:=fun _ _ _ _ h q=>h _ _ q
theorem aG {ta:TEd} {tr:TAd} (j:ab ta) (hr:bb tr):bb (be ta tr):=fun ρ M Q Q' h q =>
 j _ _ _ _ (fun x B n=>hr _ _ _ _ (fun xs M2 z=>h _ _ z) n) q
theorem fK {rd:RAd} {t:TAd} (hr:aV rd) (j:bb t):ab (wAr rd t):=fun ρ M Q Q' h q=>j _ _ _ _ (fun ds z n=>hr _ _ _ _ h n) q
section
variable {X:Cx} {a b:Expr} {ta tb:TEd} {pos:Pos}
theorem zy {i:Nat} {x:Str} (z:X.N[i]? = some x) (j:Vis X.env.scope x) (hd:(x==("__debug__":Str))=false) (n:(x==("__classdict__":Str))=false):PE X (.Name x pos) (lE X.K (gn i)):=by
 refine PE.imp (yL z j hd n) fun σ H Q h => ?_
 obtain ⟨ρ,M,rs,rm,d,e,q⟩:=h
 obtain ⟨v,j,rd⟩:=rs.2 i d e
 exact ⟨v,j,q v H Ext.refl rm rd⟩
theorem le_int {i:Int} {j:Nat}:PE X (.Constant (.int i) j pos) (lE X.K (wC (.int i))) :=
 PE.imp yM fun σ H Q ⟨ρ,M,rs,rm,q⟩=>q _ H Ext.refl rm (RD.int_iff.mpr rfl)
theorem AQ {i:Bool} {j:Nat}:PE X (.Constant (.bool i) j pos) (lE X.K (wC (.bl i))) :=
 PE.imp As fun σ H Q ⟨ρ,M,rs,rm,q⟩=>q _ H Ext.refl rm (RD.bl_iff.mpr rfl)
theorem zz {j:Nat}:PE X (.Constant .none j pos) (lE X.K (wC .non)) :=
 PE.imp yN fun σ H Q ⟨ρ,M,rs,rm,q⟩=>q _ H Ext.refl rm (RD.non_iff.mpr rfl)
theorem fL {K:Frag} {rd:R2d} (hr:al rd) (ma:ab ta) (mb:ab tb) (σ:St) (H:Hp) (Q:VK) (h:lE K (wOp rd ta tb) σ H Q):tOp (l2 K rd) (lE K ta) (lE K tb) σ H Q:=by
 obtain ⟨ρ,M,rs,rm,q⟩:=h
 refine ⟨ρ,M,rs,rm,ma _ _ _ _ (fun x I J v H1 F j n => ?_) q⟩
 refine ⟨ρ,I,rs.mono (F.stab rm),j,mb _ _ _ _ (fun y M2 L u H2 G z B => ?_) J⟩
 exact ⟨x,y,M2,z,n.mono (G.stab j),B,hr _ _ _ _ _ (fun d M' k=>k.ext (F.trans G)) L⟩
theorem AR {op:Operator} {rd:R2d} (ho:OpR X (binaryOp op) (l2 X.K rd)) (hr:al rd) (ma:ab ta) (mb:ab tb) (j:PE X a (lE X.K ta)) (hb:PE X b (lE X.K tb)):PE X (.BinOp a op b pos) (lE X.K (wOp rd ta tb)) :=
 PE.imp (AC ho j hb) (fL hr ma mb)
theorem zA {op:CmpOp} {rd:R2d} (ho:OpR X (compareOp op) (l2 X.K rd)) (hr:al rd) (ma:ab ta) (mb:ab tb) (j:PE X a (lE X.K ta)) (hb:PE X b (lE X.K tb)) (hm:behindInMarks op b=false) :
 PE X (.Compare a [op] [b] pos) (lE X.K (wOp rd ta tb)):=PE.imp (wU ho j hb hm) (fL hr ma mb)
noncomputable def ee (t:TEd):TTd:=fun ρ M Q=>t ρ M fun x M1 => ∃ k,x = .bl k/\Q k M1
theorem kP {t:TEd} (h:ab t):aD (ee t):=fun ρ M Q Q' i q=>h _ _ _ _ (fun x n ⟨k,e,j⟩=>⟨k,e,i _ _ j⟩) q
theorem kQ {K:Frag} {t:TEd} (m:ab t) (σ:St) (H:Hp) (Q:Bool->Hp->Prop) (h:lT K (ee t) σ H Q):oT (lE K t) σ H Q:=by
 obtain ⟨ρ,M,rs,rm,q⟩:=h
 refine ⟨ρ,M,rs,rm,m _ _ _ _ (fun x F ⟨k,e,z⟩ v H1 B j n => ?_) q⟩
 subst e
 exact ⟨k,RD.bl_iff.mp n,z H1 B j⟩
theorem zB {op:CmpOp} {rd:R2d} (ho:OpR X (compareOp op) (l2 X.K rd)) (hr:al rd) (ma:ab ta) (mb:ab tb) (j:PE X a (lE X.K ta)) (hb:PE X b (lE X.K tb)) (hm:behindInMarks op b=false) :
 PT X (.Compare a [op] [b] pos) (lT X.K (ee (wOp rd ta tb))) :=
 PT.imp (wV ho j hb hm) fun σ H Q h=>by
  have h1:=kQ (dL hr ma mb) σ H Q h
  exact fL hr ma mb σ H _ h1
theorem AS {op:UnaryOp} {rd:R1d} (ho:UnR X (unaryOp op) (l1 X.K rd)) (hr:ph rd) (ma:ab ta) (z:PE X a (lE X.K ta)):PE X (.UnaryOp op a pos) (lE X.K (wUn rd ta)) :=
 PE.imp (AD ho z) fun σ H Q ⟨ρ,M,rs,rm,q⟩=>⟨ρ,M,rs,rm,ma _ _ _ _ (fun x B F v H1 G j n=>⟨x,B,j,n,hr _ _ _ _ (fun d M' k=>k.ext G) F⟩) q⟩
theorem AT {rd:R2d} (ho:IxR X (l2 X.K rd)) (hr:al rd) (ma:ab ta) (mb:ab tb) (j:PE X a (lE X.K ta)) (hb:PE X b (lE X.K tb)) (hs:j4 b):PE X (.Subscript a b pos) (lE X.K (wOp rd ta tb)) :=
 PE.imp (AK ho j hb hs) (fL hr ma mb)
theorem dM:PA X [] (lA X.K bV):=PA.imp qA fun σ H Q ⟨ρ,M,rs,rm,q⟩=>q _ H Ext.refl rm RDs.nil
theorem qL {K:Frag} {tr:TAd} (ma:ab ta) (mr:bb tr) (σ:St) (H:Hp) (Q:List V->Hp->Prop) (h:lA K (be ta tr) σ H Q):vU (lE K ta) (lA K tr) σ H Q:=by
 obtain ⟨ρ,M,rs,rm,q⟩:=h
 refine ⟨ρ,M,rs,rm,ma _ _ _ _ (fun x I J v H1 F j n => ?_) q⟩
 refine ⟨ρ,I,rs.mono (F.stab rm),j,mr _ _ _ _ (fun xs M2 L vs H2 G z B => ?_) J⟩
 exact L (v::vs) H2 (F.trans G) z (RDs.cons (n.mono (G.stab j)) B)
theorem bR {e:Expr} {es:List Expr} {tr:TAd} (ma:ab ta) (mr:bb tr) (j:PE X e (lE X.K ta)) (hr:PA X es (lA X.K tr)) (hs:starEach (e::es) X.env=(false,eval e X.env)::starEach es X.env) :
 PA X (e::es) (lA X.K (be ta tr)):=PA.imp (j0 j hr hs) (qL ma mr)
theorem br {K:Frag} {rd:RAd} {t:TAd} (hr:aV rd) (mt:bb t) (σ:St) (H:Hp) (Q:VK) (h:lE K (wAr rd t) σ H Q):tCB (lR K rd) (lA K t) σ H Q:=by
 obtain ⟨ρ,M,rs,rm,q⟩:=h
 exact ⟨ρ,M,rs,rm,mt _ _ _ _ (fun ds z B vs H1 F j n=>⟨ds,z,j,n,hr _ _ _ _ (fun d M' k=>k.ext F) B⟩) q⟩
noncomputable def kR:RAd:=fun ds M Q=>ds.length<=sizeLine/\Q (.tup ds) M
noncomputable def kS:RAd:=fun ds M Q=>ds.length<=sizeLine /\ ∀ p,M p=none->Q (.ref p) (af M p (.lst ds))
theorem qM:aV kR:=fun _ _ _ _ h ⟨z,q⟩=>⟨z,h _ _ q⟩
theorem qN:aV kS:=fun _ _ _ _ h ⟨z,q⟩=>⟨z,fun p n=>h _ _ (q p n)⟩
theorem cJ {K:Frag} {M:Mem} {H:Hp} {Q:VK} {ds:List D} {vs:List V} {p:Addr} (rm:RM K M H) (rd:RDs K H ds vs) (q:KE' K M H Q (.tup ds) M) (n:H p=none):Q (.ref p) (upd H p (.tup vs)):=by
 have x:Ext M H M (upd H p (.tup vs)):=Ext.new' n
 exact q (.ref p) _ x (rm.new n) (RD.tup_iff.mpr ⟨p,vs,rfl,ar,rd.mono (x.stab rm)⟩)
theorem cK {K:Frag} {M:Mem} {H:Hp} {Q:VK} {ds:List D} {vs:List V} {p:Addr} (rm:RM K M H) (rd:RDs K H ds vs) (q:∀ p,M p=none->KE' K M H Q (.ref p) (af M p (.lst ds))) (n:H p=none):Q (.ref p) (upd H p (.lst vs)):=by
 have x:Ext M H (af M p (.lst ds)) (upd H p (.lst vs)):=Ext.lay n
 have x0:Ext M H M (upd H p (.lst vs)):=Ext.new' n
 exact q p (rm.out n) (.ref p) _ x (rm.lay n ⟨vs,ar,rd.mono (x0.stab rm)⟩) (RD.ref_iff.mpr rfl)
theorem zC {es:List Expr} {t:TAd} {k:Nat} (mt:bb t) (h:PA X es (lA X.K t)):PE X (.Tuple es k pos) (lE X.K (wAr kR t)) :=
 PE.imp (zm h) fun σ H Q ⟨ρ,M,rs,rm,q⟩=>⟨ρ,M,rs,rm,mt _ _ _ _ (fun ds I ⟨z,F⟩ vs H1 G B j=>⟨by rw [j.length];exact z,fun p n=>cJ B j (F.ext G) n⟩) q⟩
theorem zD {es:List Expr} {t:TAd} (mt:bb t) (h:PA X es (lA X.K t)):PE X (.List es pos) (lE X.K (wAr kS t)) :=
 PE.imp (zn h) fun σ H Q ⟨ρ,M,rs,rm,q⟩=>⟨ρ,M,rs,rm,mt _ _ _ _ (fun ds I ⟨z,F⟩ vs H1 G B j=>⟨by rw [j.length];exact z,fun p n=>cK B j (fun p' n'=>(F p' n').ext G) n⟩) q⟩
end
end
end Mi
end L2
namespace L2
open PySem PySem.Spec PyProof.Rows
namespace Mi
end Mi
end L2
namespace L2
open PySem PySem.Spec PyProof.Rows
section
theorem gp:fillsNumberSlot (.type "tuple") "mul" = pure false :=
 PyProof.Rows.fillsNumberSlot_seq (id := "tuple.__mul__") (r:=some (.builtin "tuple.__rmul__")) F.slot_tuple_mul.lookup (by decide +kernel) F.slot_tuple_rmul.lookup (by decide +kernel)
theorem kT:seqRepeat? (.type "tuple")=pure (some (.builtin "tuple.__mul__")):=by
 unfold seqRepeat?
 rw [PyProof.Rows.seqSlot_of (T := "tuple") (name := "__mul__") (id := "tuple.__mul__") F.slot_tuple_mul.lookup (by decide +kernel),PyProof.Rows.seqSlot_of (T := "tuple") (name := "__rmul__") (id := "tuple.__rmul__") F.slot_tuple_rmul.lookup (by decide +kernel)]
 rfl
theorem j8 (a:Int) (t:Tok) (l:Addr) (items:Array Value) (n:Nat) (d:Option Addr) (sl:Array (Option Value)) :
 Meets (Builtin.«int.__rmul__» ⟨[.int a t, .ref l],[]⟩) (fun _ R s=>s.heap.get? l=some { cls := .type "tuple",dict:=d,data := .seq items n,slots:=sl }/\R (.ok (.ret Value.notImplemented)) s) :=
 .of_wp fun prog w A R s h=>by obtain ⟨j,g,d,tk,os⟩:=s;obtain ⟨hl,h⟩:=h;wp_walk;exact ⟨_,rfl,h⟩
open AutoSeq1 (wpAny_loadPart') in
theorem qO (l:Addr) (items:Array Value) (n:Nat) (dd:Option Addr) (sl:Array (Option Value)) (x:Int) (u:Tok) (h1 : -(2 ^ 63)<=x) (h2:x < 2 ^ 63) (z:items.size*x.toNat<=sizeLine) :
 Meets (Builtin.«tuple.__mul__» ⟨[.ref l, .int x u],[]⟩) (fun _ R s=>s.heap.get? l=some { cls := .type "tuple",dict:=dd,data := .seq items n,slots:=sl } /\
  (if items.isEmpty || x==1 then R (.ok (.ret (.ref l))) s else R (.ok (.ret (.ref s.heap.objs.size))) { s with heap:=s.heap.push { cls := .type "tuple",data := .seq ((List.replicate x.toNat items).foldl (· ++ ·) #[]) } })) :=
 .of_wp fun prog w A R s h=>by
  obtain ⟨L,g,d,tk,os⟩:=s;obtain ⟨hl,h⟩:=h
  have f1:=AutoSeq1.idx_int
  have B:(decide (x < -(2 ^ 63)) || decide (x≥2 ^ 63))=false:=by
   rw [decide_eq_false (by lia),decide_eq_false (by lia)];rfl
  wp_walk using wpAny_loadPart' hl
  refine wpAny_ite_false (decide_eq_false (by rw [B];decide)) ?_
  dsimp only
  by_cases j:(items.isEmpty || x==1)=true
  ·rw [if_pos j] at h
   wp_walk using wpAny_loadPart' hl
   exact ⟨_,rfl,h⟩
  ·rw [if_neg j] at h
   wp_walk using wpAny_loadPart' hl
   simp only [Bool.or_eq_true,not_or] at j
   by_cases e2:x<=0
   ·have q:(decide (x<=0) || items.isEmpty)=true:=by rw [decide_eq_true e2];rfl
    rw [if_pos q]
    have F:x.toNat=0:=by lia
    rw [F] at h
    wp_walk
    exact ⟨_,rfl,h⟩
   ·have q : ¬ (decide (x<=0) || items.isEmpty)=true:=by simp;exact ⟨by lia,by simpa using j.1⟩
    rw [if_neg q]
    have hx:((items.size:Nat):Int)*x=((items.size*x.toNat:Nat):Int):=by
     rw [Int.natCast_mul,Int.toNat_of_nonneg (by lia)]
    have hs:sizeLine=16777216:=sizeLine_eq
    have G : ¬ ((items.size:Nat):Int)*x > (2 ^ 63 - 1) / 8:=by rw [hx];lia
    rw [if_neg G]
    have I : ¬ Builtin.Tuple.tupleTooMany (((items.size:Nat):Int)*x)=true:=by
     rw [hx];unfold Builtin.Tuple.tupleTooMany
     intro J;have O:=of_decide_eq_true J;lia
    rw [if_neg I]
    wp_walk
    have hsz:((List.replicate x.toNat items).foldl (· ++ ·) #[]).size<=sizeLine:=by
     have:∀ (k:Nat) (a:Array Value),((List.replicate k items).foldl (· ++ ·) a).size=a.size+items.size*k:=by
      intro k;induction k with
      | zero=>intro a;simp
      | succ k ih=>intro a;rw [List.replicate_succ,List.foldl_cons,ih,Array.size_append,Nat.mul_succ];lia
     rw [this];simpa using z
    refine wpAny_ite_false (decide_eq_false (Nat.not_lt.mpr hsz)) ?_
    wp_walk
    exact ⟨_,rfl,h⟩
end
section
section
variable {X:Cx}
noncomputable def w8 (K:Frag):R2:=fun x y H Q => ∃ l k xs,x = .ref l/\y = .int k/\SqT K H l xs /\ -(2 ^ 63)<=k/\k < 2 ^ 63/\xs.length*k.toNat<=sizeLine /\
 ((xs=[]∨k=1)->Q (.ref l) H)/\(¬ (xs=[]∨k=1) -> ∀ p,H p=none->Q (.ref p) (upd H p (.tup (List.replicate k.toNat xs).flatten)))
theorem xj:OpR X (binaryOp .Mult) (w8 X.K):=by
 intro pins s σ H x y v u Q I rx ry h
 obtain ⟨l,k,xs,rfl,rfl,G,h1,h2,j,J,L⟩:=h
 cases rx
 obtain ⟨t,rfl⟩:=ry
 obtain ⟨its,r,O,_⟩:=I.tuple G
 have hl:=r.length
 obtain ⟨⟨cls,dd,dat,sl⟩,e,B,n,hd⟩:=O
 dsimp only at B hd
 subst B hd
 have hlen:its.toArray.size*k.toNat<=sizeLine:=by rw [List.size_toArray, <- hl];exact j
 have f0:∀ m:Nat,List.foldl (fun R S=>R++S) #[] (List.replicate m its.toArray)=(List.replicate m its).flatten.toArray:=fun m=>by
  have:=eW its m []
  rw [List.nil_append] at this
  exact this
 refine wpAny_binaryOp_repeat_ref (T := "tuple") (U := "int") (by decide) ⟨_,e,rfl⟩ (fun s'=>typeIs_int s' k t) gp F.fills_int_mul F.slot_int_rmul kT F.slot_int_index.lookup
  (call_meets F.slot_int_rmul (typeIs_int s k t) F.entry_int_rmul (F.args_int_rmul_2 _ _) (j8 k t l its.toArray n dd sl)
    ⟨e,rfl,⟨_,e,rfl⟩,call_meets F.slot_tuple_mul ⟨_,e,rfl⟩ F.entry_tuple_mul (F.args_tuple_mul_2 _ _) (qO l its.toArray n dd sl k t h1 h2 hlen) ⟨e, ?_⟩⟩)
 have hi:(its.toArray.isEmpty || k==1)=true↔(xs=[]∨k=1):=by
  rw [<- r.nil_iff];simp
 split
 ·next c=>exact ⟨.ref l,H,I,rfl,J (hi.mp c)⟩
 ·next c =>
  rw [f0]
  refine ⟨.ref s.heap.objs.size,_,I.laid (t':=s.toks) (o := .tup (List.replicate k.toNat xs).flatten) (fun b ob q=>Heap.get?_push_of_some _ q) (Nat.le_refl _) ?_,rfl,L (fun z=>c (hi.mpr z)) _ (I.hok.fresh (Nat.le_refl _))⟩
  exact ⟨by rw [nJ,Nat.mul_comm];exact j,_,r.rep k.toNat,IsTup.new _ _⟩
end
end
section
section
variable {X:Cx}
theorem xk:OpR X (binaryOp .Add) (fun x y H Q => ∃ a b ys,x = .ref a/\y = .ref b/\SqT X.K H a []/\SqT X.K H b ys/\Q (.ref b) H):=by
 intro pins s σ H x y v u Q I rx ry h
 obtain ⟨a,b,ys,rfl,rfl,R,hb,q⟩:=h
 cases rx
 cases ry
 obtain ⟨its,S,U,_⟩:=I.tuple R
 obtain ⟨j,r2,p2,_⟩:=I.tuple hb
 have Y:its=[]:=S.nil_iff.mpr rfl
 obtain ⟨⟨cls,dd,data,sl⟩,ho,L,n,hd⟩:=id U
 obtain ⟨⟨O,G,data2,J⟩,z,B,Z,hd2⟩:=id p2
 simp only at L hd B hd2
 subst L hd B hd2
 exact concat_meets ⟨_,ho,rfl⟩ ⟨_,z,rfl⟩ noFill_tuple_add seq_tuple_add PySem.F.slot_tuple_add PySem.F.entry_tuple_add (PySem.F.args_tuple_add_2 _ _)
  (tuple_addW0 a b its.toArray j.toArray n Z dd G sl J (by simp [Y])) ⟨ho,z,⟨.ref b,H,I,rfl,q⟩⟩
end
end
end L2
namespace L2
namespace Mi
open PySem PySem.Spec PyProof.Rows
section
noncomputable def MulOk (i j:Int):Prop:=(-(2 ^ 64) < i/\i < 2 ^ 64)∨(-(2 ^ 64) < j/\j < 2 ^ 64)∨(Builtin.Int.intBits i<=2 ^ 20/\Builtin.Int.intBits j<=2 ^ 20)
theorem MulOk.ok {i j:Int} (h:MulOk i j):IntMulOk i j:=by
 rcases h with h | h | h
 ·exact IntMulOk.of_left (intBits_le_64 h.1 h.2)
 ·exact IntMulOk.of_right (intBits_le_64 h.1 h.2)
 ·exact IntMulOk.of_bits h.1 h.2
noncomputable def gu:R2d
 | .int i, .int j,M,Q=>Q (.int (i+j)) M
 | .tup a, .tup b,M,Q=>(a≠[]∨True)/\a.length+b.length<=sizeLine/\Q (.tup (a++b)) M
 | .ref a, .ref b,M,Q => ∃ xs ys,M a=some (.lst xs)/\M b=some (.lst ys)/\xs.length+ys.length<=sizeLine /\ ∀ p,M p=none->Q (.ref p) (af M p (.lst (xs++ys)))
 | .str x, .str y,M,Q=>x.length+y.length<=sizeLine/\Q (.str (x++y)) M
 | _,_,_,_=>False
noncomputable def pi:R2d
 | .int i, .int j,M,Q=>Q (.int (i - j)) M
 | _,_,_,_=>False
noncomputable def j9:R2d
 | .int i, .int j,M,Q=>MulOk i j/\Q (.int (i*j)) M
 | .ref a, .int k,M,Q => ∃ xs,M a=some (.lst xs) /\ -(2 ^ 63)<=k/\k < 2 ^ 63/\xs.length*k.toNat<=sizeLine /\ ∀ p,M p=none->Q (.ref p) (af M p (.lst (List.replicate k.toNat xs).flatten))
 | .tup ds, .int k,M,Q => -(2 ^ 63)<=k/\k < 2 ^ 63/\ds.length*k.toNat<=sizeLine/\Q (.tup (List.replicate k.toNat ds).flatten) M
 | _,_,_,_=>False
noncomputable def kl:R2d
 | .int i, .int j,M,Q => 0 < j/\j < 2 ^ 256/\Q (.int (i / j)) M
 | _,_,_,_=>False
noncomputable def pj:R2d
 | .int i, .int j,M,Q => 0 < j/\Q (.int (i % j)) M
 | _,_,_,_=>False
noncomputable def pk:R2d
 | .int i, .int j,M,Q => 0<=j/\j<=1000000/\i.natAbs < 2 ^ 64/\Q (.int (i ^ j.toNat)) M
 | _,_,_,_=>False
theorem tZ:al gu:=by
 intro x y M Q Q' h q
 cases x <;> cases y <;> first
  | exact q.elim
  | exact h _ _ q
  | exact ⟨q.1,h _ _ q.2⟩
  | exact ⟨q.1,q.2.1,h _ _ q.2.2⟩
  | (obtain ⟨xs,ys,j,B,z,q⟩:=q;exact ⟨xs,ys,j,B,z,fun p n=>h _ _ (q p n)⟩)
theorem u4:al pi:=by
 intro x y M Q Q' h q
 cases x <;> cases y <;> first | exact q.elim | exact h _ _ q
theorem u5:al j9:=by
 intro x y M Q Q' h q
 cases x <;> cases y <;> first
  | exact q.elim
  | exact ⟨q.1,h _ _ q.2⟩
  | exact ⟨q.1,q.2.1,q.2.2.1,h _ _ q.2.2.2⟩
  | (obtain ⟨xs,j,z,B,F,q⟩:=q;exact ⟨xs,j,z,B,F,fun p n=>h _ _ (q p n)⟩)
theorem qP:al kl:=by
 intro x y M Q Q' h q
 cases x <;> cases y <;> first | exact q.elim | exact ⟨q.1,q.2.1,h _ _ q.2.2⟩
theorem u6:al pj:=by
 intro x y M Q Q' h q
 cases x <;> cases y <;> first | exact q.elim | exact ⟨q.1,h _ _ q.2⟩
theorem u7:al pk:=by
 intro x y M Q Q' h q
 cases x <;> cases y <;> first | exact q.elim | exact ⟨q.1,q.2.1,q.2.2.1,h _ _ q.2.2.2⟩
section
variable {X:Cx}
theorem OpR.of {f:Value->Value->Sem Value} {r r':R2} (h:OpR X f r) (i:∀ v u H Q,r' v u H Q->r v u H Q):OpR X f r':=fun pins s σ H x y v u Q I rx ry q=>h pins s σ H x y v u Q I rx ry (i _ _ _ _ q)
theorem IxR.of {r r':R2} (h:IxR X r) (i:∀ v u H Q,r' v u H Q->r v u H Q):IxR X r':=fun a b pins s σ H x y v u Q I rx ry q=>h a b pins s σ H x y v u Q I rx ry (i _ _ _ _ q)
theorem CallR.of {f:Value} {r r':List V->Hp->VK->Prop} (h:CallR X f r) (i:∀ vs H Q,r' vs H Q->r vs H Q):CallR X f r':=fun pins s σ H xs us Q I rx q=>h pins s σ H xs us Q I rx (i _ _ _ q)
theorem AU {K:Frag} {M:Mem} {H:Hp} {Q:VK} {a b:List D} {v u:V} (rm:RM K M H) (rx:RD K H (.tup a) v) (ry:RD K H (.tup b) u) (q:gu (.tup a) (.tup b) M (KE' K M H Q)):vX K v u H Q ∨ ∃ a b ys,v = .ref a/\u = .ref b/\SqT K H a []/\SqT K H b ys/\Q (.ref b) H:=by
 obtain ⟨a',vs,rfl,z,j⟩:=RD.tup_iff.mp rx
 obtain ⟨b',us,rfl,hb,B⟩:=RD.tup_iff.mp ry
 obtain ⟨_,G,q⟩:=q
 have l1:=j.length
 have l2:=B.length
 by_cases F:a=[]
 ·subst F
  have:vs=[]:=RDs.nil_iff.mp j
  subst this
  exact .inr ⟨a',b',us,rfl,rfl,SqT.of z,SqT.of hb,q _ H Ext.refl rm ry⟩
 refine .inl ⟨a',b',vs,us,rfl,rfl,SqT.of z,SqT.of hb,fun e=>F (List.length_eq_zero_iff.mp (by rw [<- l1,e];rfl)),by lia,fun e => ?_,fun _ p n=>cJ rm (j.append B) q n⟩
 have eb:b=[]:=List.length_eq_zero_iff.mp (by rw [<- l2,e];rfl)
 subst eb
 rw [List.append_nil] at q
 exact q _ H Ext.refl rm rx
theorem u8:OpR X (binaryOp .Add) (l2 X.K gu):=by
 refine OpR.of (op_add.or ((op_catT.or xk).or (op_cat.or oV))) fun v u H Q h => ?_
 obtain ⟨x,y,M,rm,rx,ry,q⟩:=h
 cases x <;> cases y <;> first
  | exact q.elim
  | (cases RD.int_iff.mp rx;cases RD.int_iff.mp ry;exact .inl ⟨_,_,rfl,rfl,q _ H Ext.refl rm (RD.int_iff.mpr rfl)⟩)
  | exact .inr (.inl (AU rm rx ry q))
  | (cases RD.ref_iff.mp rx;cases RD.ref_iff.mp ry
     obtain ⟨xs,ys,F,G,z,q⟩:=q
     obtain ⟨vs,h1,j⟩:=rm _ _ F
     obtain ⟨us,h2,B⟩:=rm _ _ G
     have l1:=j.length
     have l2:=B.length
     refine .inr (.inr (.inl ⟨_,_,vs,us,rfl,rfl,h1,h2,by lia,fun p n=>cK rm (j.append B) q n⟩)))
  | (cases RD.str_iff.mp rx;cases RD.str_iff.mp ry;exact .inr (.inr (.inr ⟨_,_,rfl,rfl,q.1,q.2 _ H Ext.refl rm (RD.str_iff.mpr rfl)⟩)))
theorem u9:OpR X (binaryOp .Sub) (l2 X.K pi):=by
 refine OpR.of zf fun v u H Q h => ?_
 obtain ⟨x,y,M,rm,rx,ry,q⟩:=h
 cases x <;> cases y <;> first
  | exact q.elim
  | (cases RD.int_iff.mp rx;cases RD.int_iff.mp ry;exact ⟨_,_,rfl,rfl,q _ H Ext.refl rm (RD.int_iff.mpr rfl)⟩)
theorem op_mul_i:OpR X (binaryOp .Mult) (rI MulOk fun i j => .int (i*j)):=opI fun _ _ _ _ _ _ _ n q=>mul_int q n.ok
theorem AV {K:Frag} {M:Mem} {H:Hp} {Q:VK} {a:List D} {k:Int} {v u:V} (rm:RM K M H) (rx:RD K H (.tup a) v) (ry:RD K H (.int k) u) (q:j9 (.tup a) (.int k) M (KE' K M H Q)):w8 K v u H Q:=by
 obtain ⟨a',vs,rfl,z,j⟩:=RD.tup_iff.mp rx
 cases RD.int_iff.mp ry
 obtain ⟨B,F,G,q⟩:=q
 have l1:=j.length
 refine ⟨a',k,vs,rfl,rfl,SqT.of z,B,F,by rw [l1];exact G,fun e => ?_,fun _ p n=>cJ rm (j.rep _) q n⟩
 have ea:(List.replicate k.toNat a).flatten=a:=by
  rcases e with e | e
  ·have:a=[]:=List.length_eq_zero_iff.mp (by rw [<- l1,e];rfl)
   subst this;simp
  ·subst e;simp
 rw [ea] at q
 exact q _ H Ext.refl rm rx
theorem ua:OpR X (binaryOp .Mult) (l2 X.K j9):=by
 refine OpR.of (op_mul_i.or (op_rep.or xj)) fun v u H Q h => ?_
 obtain ⟨x,y,M,rm,rx,ry,q⟩:=h
 cases x <;> cases y <;> first
  | exact q.elim
  | (cases RD.int_iff.mp rx;cases RD.int_iff.mp ry;exact .inl ⟨_,_,rfl,rfl,q.1,q.2 _ H Ext.refl rm (RD.int_iff.mpr rfl)⟩)
  | (cases RD.ref_iff.mp rx;cases RD.int_iff.mp ry
     obtain ⟨xs,z,B,F,G,q⟩:=q
     obtain ⟨vs,h1,j⟩:=rm _ _ z
     have l1:=j.length
     exact .inr (.inl ⟨_,_,vs,rfl,rfl,h1,B,F,by rw [l1];exact G,fun p n=>cK rm (j.rep _) q n⟩))
  | exact .inr (.inr (AV rm rx ry q))
theorem ub:OpR X (binaryOp .FloorDiv) (rI (fun _ j => 0 < j/\j < 2 ^ 256) fun i j => .int (i / j)):=L2.opI fun i j _ _ _ _ _ n q=>by
 have h1:(0:Int) < j:=n.1
 have h2:j < 2 ^ 256:=n.2
 have z:j.natAbs.log2 < 256:=(Nat.log2_lt (by lia)).mpr (by lia)
 exact floordiv_int (by lia) (by rw [Int.fdiv_eq_ediv_of_nonneg i (by lia)];exact q) (.inl (PyProof.noPylong_of_log2 (by lia)))
theorem qQ:OpR X (binaryOp .FloorDiv) (l2 X.K kl):=by
 refine OpR.of ub fun v u H Q h => ?_
 obtain ⟨x,y,M,rm,rx,ry,q⟩:=h
 cases x <;> cases y <;> first
  | exact q.elim
  | (cases RD.int_iff.mp rx;cases RD.int_iff.mp ry;exact ⟨_,_,rfl,rfl,⟨q.1,q.2.1⟩,q.2.2 _ H Ext.refl rm (RD.int_iff.mpr rfl)⟩)
theorem uc:OpR X (binaryOp .Mod) (l2 X.K pj):=by
 refine OpR.of zg fun v u H Q h => ?_
 obtain ⟨x,y,M,rm,rx,ry,q⟩:=h
 cases x <;> cases y <;> first
  | exact q.elim
  | (cases RD.int_iff.mp rx;cases RD.int_iff.mp ry;exact ⟨_,_,rfl,rfl,q.1,q.2 _ H Ext.refl rm (RD.int_iff.mpr rfl)⟩)
theorem ud:OpR X (binaryOp .Pow) (l2 X.K pk):=by
 refine OpR.of zh fun v u H Q h => ?_
 obtain ⟨x,y,M,rm,rx,ry,q⟩:=h
 cases x <;> cases y <;> first
  | exact q.elim
  | (cases RD.int_iff.mp rx;cases RD.int_iff.mp ry;exact ⟨_,_,rfl,rfl,⟨q.1,q.2.1,q.2.2.1⟩,q.2.2.2 _ H Ext.refl rm (RD.int_iff.mpr rfl)⟩)
noncomputable def pv:R1d
 | .int i,M,Q=>Q (.int (-i)) M
 | _,_,_=>False
theorem kU:ph pv:=by
 intro x M Q Q' h q
 cases x <;> first | exact q.elim | exact h _ _ q
theorem UnR.of {f:Value->Sem Value} {r r':V->Hp->VK->Prop} (h:UnR X f r) (i:∀ v H Q,r' v H Q->r v H Q):UnR X f r':=fun pins s σ H x v Q I rx q=>h pins s σ H x v Q I rx (i _ _ _ q)
theorem ue:UnR X (unaryOp .USub) (l1 X.K pv):=by
 refine UnR.of zi fun v H Q h => ?_
 obtain ⟨x,M,rm,rx,q⟩:=h
 cases x <;> first
  | exact q.elim
  | (cases RD.int_iff.mp rx;exact ⟨_,rfl,q _ H Ext.refl rm (RD.int_iff.mpr rfl)⟩)
noncomputable def aw {α β:Type} (f : α -> Option β):List α -> Option (List β)
 | [] => some []
 | x::xs=>(f x).bind fun y=>(aw f xs).map (y :: ·)
noncomputable def rb:Nat->Mem->D->Option PyData
 | _,_, .non=>some .none
 | _,_, .bl b=>some (.bool b)
 | _,_, .int i=>some (.int i)
 | _,_, .str x=>if PyData.strOk x=true then some (.str x) else none
 | n+1,M, .tup ds=>(aw (rb n M) ds).map PyData.tuple
 | n+1,M, .con ds=>(aw (rb n M) ds).map PyData.list
 | n+1,M, .ref a=>match M a with
   | some (.lst ds)=>(aw (rb n M) ds).map PyData.list
   | _=>none
 | 0,_, .tup _=>none
 | 0,_, .con _=>none
 | 0,_, .ref _=>none
theorem cE {n:Nat} {M:Mem} (ih:∀ d p,rb n M d=some p->p.depth<=n/\p.canLay0=true):∀ {ds:List D} {ps:List PyData},aw (rb n M) ds=some ps->PyData.depthAll ps<=n/\PyData.canLayAll0 ps=true
 | [],ps,h=>by
  simp [aw] at h;subst h
  exact ⟨Nat.zero_le _,rfl⟩
 | d::ds,ps,h=>by
   simp only [aw] at h
   cases e1:rb n M d with
   | none=>rw [e1] at h;cases h
   | some p =>
     rw [e1] at h
     cases e2:aw (rb n M) ds with
     | none=>simp [e2] at h
     | some qs =>
       simp [e2] at h
       subst h
       obtain ⟨a1,a2⟩:=ih d p e1
       obtain ⟨b1,b2⟩:=cE ih e2
       refine ⟨?_, ?_⟩
       ·show max p.depth (PyData.depthAll qs)<=n
        lia
       ·show (p.canLay0&&PyData.canLayAll0 qs)=true
        rw [a2,b2];rfl
theorem bQ {M:Mem}:∀ (n:Nat) (d:D) (p:PyData),rb n M d=some p->p.depth<=n/\p.canLay0=true
 | n, .non,p,h=>by simp [rb] at h;subst h;exact ⟨Nat.zero_le _,rfl⟩
 | n, .bl b,p,h=>by simp [rb] at h;subst h;exact ⟨Nat.zero_le _,rfl⟩
 | n, .int b,p,h=>by simp [rb] at h;subst h;exact ⟨Nat.zero_le _,rfl⟩
 | n, .str x,p,h=>by
   simp [rb] at h
   obtain ⟨h1,h2⟩:=h
   subst h2;exact ⟨Nat.zero_le _,h1⟩
 | 0, .tup _,p,h=>by simp [rb] at h
 | 0, .con _,p,h=>by simp [rb] at h
 | 0, .ref _,p,h=>by simp [rb] at h
 | n+1, .tup ds,p,h=>by
   simp only [rb] at h
   cases e:aw (rb n M) ds with
   | none=>rw [e] at h;cases h
   | some ps =>
     rw [e] at h;cases h
     obtain ⟨a,b⟩:=cE (bQ n) e
     exact ⟨Nat.succ_le_succ a,b⟩
 | n+1, .con ds,p,h=>by
   simp only [rb] at h
   cases e:aw (rb n M) ds with
   | none=>rw [e] at h;cases h
   | some ps =>
     rw [e] at h;cases h
     obtain ⟨a,b⟩:=cE (bQ n) e
     exact ⟨Nat.succ_le_succ a,b⟩
 | n+1, .ref a,p,h=>by
   simp only [rb] at h
   cases e0:M a with
   | none=>rw [e0] at h;cases h
   | some o =>
     rw [e0] at h
     cases o with
     | dct _ _=>cases h
     | fdc _=>cases h
     | lst ds =>
       simp only at h
       cases e:aw (rb n M) ds with
       | none=>rw [e] at h;cases h
       | some ps =>
         rw [e] at h;cases h
         obtain ⟨a,b⟩:=cE (bQ n) e
         exact ⟨Nat.succ_le_succ a,b⟩
theorem cF {K:Frag} {H:Hp} {n:Nat} {M:Mem} {h:Heap} (ih:∀ d p v u,rb n M d=some p->RD K H d v->RelV v u -> ∃ as,Reads h u p as) :
 ∀ {ds:List D} {ps:List PyData} {vs:List V} {us:List Value},aw (rb n M) ds=some ps->RDs K H ds vs->Vals vs us -> ∃ as,ReadsAll h us ps as
 | [],ps,vs,us,hm,r,rv=>by
  simp [aw] at hm;subst hm
  rw [RDs.nil_iff.mp r] at rv
  cases rv
  exact ⟨_, .nil⟩
 | d::ds,ps,vs,us,hm,r,rv=>by
   obtain ⟨v,vr,rfl,j,q⟩:=RDs.cons_iff.mp r
   cases rv with
   | cons z B =>
     simp only [aw] at hm
     cases e1:rb n M d with
     | none=>rw [e1] at hm;cases hm
     | some p =>
       rw [e1] at hm
       cases e2:aw (rb n M) ds with
       | none=>simp [e2] at hm
       | some qs =>
         simp [e2] at hm
         subst hm
         obtain ⟨as,ra⟩:=ih d p v _ e1 j z
         obtain ⟨bs,rbs⟩:=cF ih e2 q B
         exact ⟨_, .cons ra rbs⟩
theorem bh {pins:List (Addr×Obj)} {σ:St} {H:Hp} {s:Shared} {M:Mem} (I:Inv X pins σ H s) (rm:RM X.K M H):∀ (n:Nat) (d:D) (p:PyData) (v:V) (u:Value),rb n M d=some p->RD X.K H d v->RelV v u -> ∃ as,Reads s.heap u p as
 | n, .non,p,v,u,h,r,q=>by simp [rb] at h;subst h;cases RD.non_iff.mp r;cases q;exact ⟨_, .none⟩
 | n, .bl b,p,v,u,h,r,q=>by simp [rb] at h;subst h;cases RD.bl_iff.mp r;cases q;exact ⟨_, .bool b⟩
 | n, .int b,p,v,u,h,r,q=>by simp [rb] at h;subst h;cases RD.int_iff.mp r;obtain ⟨t,rfl⟩:=q;exact ⟨_, .int b t⟩
 | n, .str x,p,v,u,h,r,q=>by
   simp [rb] at h
   obtain ⟨_,h2⟩:=h
   subst h2;cases RD.str_iff.mp r;obtain ⟨t,rfl⟩:=q;exact ⟨_, .str x t⟩
 | 0, .tup _,p,_,_,h,_,_=>by simp [rb] at h
 | 0, .con _,p,_,_,h,_,_=>by simp [rb] at h
 | 0, .ref _,p,_,_,h,_,_=>by simp [rb] at h
 | n+1, .tup ds,p,v,u,h,r,q=>by
   simp only [rb] at h
   cases e:aw (rb n M) ds with
   | none=>rw [e] at h;cases h
   | some ps =>
     rw [e] at h;cases h
     obtain ⟨a,vs,rfl,j,rs⟩:=RD.tup_iff.mp r
     cases q
     obtain ⟨its,rv,⟨o,ho,z,k,hd⟩,_⟩:=I.tuple (SqT.of j)
     obtain ⟨as,ra⟩:=cF (bh I rm n) e rs rv
     exact ⟨_, .tuple ho z hd (by simpa using ra)⟩
 | n+1, .con ds,p,v,u,h,r,q=>by
   simp only [rb] at h
   cases e:aw (rb n M) ds with
   | none=>rw [e] at h;cases h
   | some ps =>
     rw [e] at h;cases h
     obtain ⟨a,vs,rfl,j,rs⟩:=RD.con_iff.mp r
     cases q
     obtain ⟨its,rv,⟨o,k,ho,z,_,hd⟩,_⟩:=I.list j.sq
     obtain ⟨as,ra⟩:=cF (bh I rm n) e rs rv
     exact ⟨_, .list ho z hd (by simpa using ra)⟩
 | n+1, .ref a,p,v,u,h,r,q=>by
   simp only [rb] at h
   cases e0:M a with
   | none=>rw [e0] at h;cases h
   | some o =>
     rw [e0] at h
     cases o with
     | dct _ _=>cases h
     | fdc _=>cases h
     | lst ds =>
       simp only at h
       cases e:aw (rb n M) ds with
       | none=>rw [e] at h;cases h
       | some ps =>
         rw [e] at h;cases h
         cases RD.ref_iff.mp r
         cases q
         obtain ⟨vs,j,rs⟩:=rm _ _ e0
         obtain ⟨its,rv,⟨o,k,ho,z,_,hd⟩,_⟩:=I.list (SqL.of j)
         obtain ⟨as,ra⟩:=cF (bh I rm n) e rs rv
         exact ⟨_, .list ho z hd (by simpa using ra)⟩
noncomputable def wEq:R2d:=fun x y M Q => ∃ p q,rb 16 M x=some p/\rb 16 M y=some q/\Q (.bl (PyData.eqv p q)) M
noncomputable def wNe:R2d:=fun x y M Q => ∃ p q,rb 16 M x=some p/\rb 16 M y=some q/\Q (.bl (!PyData.eqv p q)) M
theorem xm:al wEq:=fun _ _ _ _ _ h ⟨p,q,a,b,c⟩=>⟨p,q,a,b,h _ _ c⟩
theorem xo:al wNe:=fun _ _ _ _ _ h ⟨p,q,a,b,c⟩=>⟨p,q,a,b,h _ _ c⟩
theorem xp (B:X.A.units+16 < cLine):OpR X (compareOp .Eq) (l2 X.K wEq):=by
 intro pins s σ H x y v u Q I rx ry h
 obtain ⟨d,e,M,rm,rd,re,p,q,j,n,k⟩:=h
 obtain ⟨as,ra⟩:=bh I rm _ _ _ _ _ j rd rx
 obtain ⟨bs,rb'⟩:=bh I rm _ _ _ _ _ n re ry
 obtain ⟨F,p2⟩:=bQ _ _ _ j
 obtain ⟨G,z⟩:=bQ _ _ _ n
 exact SeqAt.compareEq_reads ra rb' p2 z (by lia) ⟨.bl _,H,I,rfl,k _ H Ext.refl rm (RD.bl_iff.mpr rfl)⟩
theorem xq (B:X.A.units+16 < cLine):OpR X (compareOp .NotEq) (l2 X.K wNe):=by
 intro pins s σ H x y v u Q I rx ry h
 obtain ⟨d,e,M,rm,rd,re,p,q,j,n,k⟩:=h
 obtain ⟨as,ra⟩:=bh I rm _ _ _ _ _ j rd rx
 obtain ⟨bs,rb'⟩:=bh I rm _ _ _ _ _ n re ry
 obtain ⟨F,p2⟩:=bQ _ _ _ j
 obtain ⟨G,z⟩:=bQ _ _ _ n
 exact SeqAt.compareNe_reads ra rb' p2 z (by lia) ⟨.bl _,H,I,rfl,k _ H Ext.refl rm (RD.bl_iff.mpr rfl)⟩
noncomputable def wLt:R2d
 | .int i, .int j,M,Q=>Q (.bl (decide (i < j))) M
 | _,_,_,_=>False
noncomputable def wLe:R2d
 | .int i, .int j,M,Q=>Q (.bl (decide (i<=j))) M
 | _,_,_,_=>False
noncomputable def wGt:R2d
 | .int i, .int j,M,Q=>Q (.bl (decide (j < i))) M
 | _,_,_,_=>False
noncomputable def wGe:R2d
 | .int i, .int j,M,Q=>Q (.bl (decide (j<=i))) M
 | _,_,_,_=>False
theorem xr:al wLt:=by
 intro x y M Q Q' h q
 cases x <;> cases y <;> first | exact q.elim | exact h _ _ q
theorem xt:al wLe:=by
 intro x y M Q Q' h q
 cases x <;> cases y <;> first | exact q.elim | exact h _ _ q
theorem xu:al wGt:=by
 intro x y M Q Q' h q
 cases x <;> cases y <;> first | exact q.elim | exact h _ _ q
theorem xv:al wGe:=by
 intro x y M Q Q' h q
 cases x <;> cases y <;> first | exact q.elim | exact h _ _ q
theorem xw:OpR X (compareOp .Lt) (l2 X.K wLt):=by
 refine OpR.of AE fun v u H Q h => ?_
 obtain ⟨x,y,M,rm,rx,ry,q⟩:=h
 cases x <;> cases y <;> first
  | exact q.elim
  | (cases RD.int_iff.mp rx;cases RD.int_iff.mp ry;exact ⟨_,_,rfl,rfl,q _ H Ext.refl rm (RD.bl_iff.mpr rfl)⟩)
theorem xx:OpR X (compareOp .LtE) (l2 X.K wLe):=by
 refine OpR.of AF fun v u H Q h => ?_
 obtain ⟨x,y,M,rm,rx,ry,q⟩:=h
 cases x <;> cases y <;> first
  | exact q.elim
  | (cases RD.int_iff.mp rx;cases RD.int_iff.mp ry;exact ⟨_,_,rfl,rfl,q _ H Ext.refl rm (RD.bl_iff.mpr rfl)⟩)
theorem xz:OpR X (compareOp .Gt) (l2 X.K wGt):=by
 refine OpR.of AG fun v u H Q h => ?_
 obtain ⟨x,y,M,rm,rx,ry,q⟩:=h
 cases x <;> cases y <;> first
  | exact q.elim
  | (cases RD.int_iff.mp rx;cases RD.int_iff.mp ry;exact ⟨_,_,rfl,rfl,q _ H Ext.refl rm (RD.bl_iff.mpr rfl)⟩)
theorem xA:OpR X (compareOp .GtE) (l2 X.K wGe):=by
 refine OpR.of AH fun v u H Q h => ?_
 obtain ⟨x,y,M,rm,rx,ry,q⟩:=h
 cases x <;> cases y <;> first
  | exact q.elim
  | (cases RD.int_iff.mp rx;cases RD.int_iff.mp ry;exact ⟨_,_,rfl,rfl,q _ H Ext.refl rm (RD.bl_iff.mpr rfl)⟩)
end
end
section
noncomputable def wIx:R2d:=fun x y M Q=>match x with
 | .tup ds => ∃ i d,y = .int i/\atI ds i=some d/\Q d M
 | .con ds => ∃ i d,y = .int i/\atI ds i=some d/\Q d M
 | .ref a=>(∃ ds i d,M a=some (.lst ds)/\y = .int i/\atI ds i=some d/\Q d M)∨(∃ t kvs d,M a=some (.dct t kvs)/\dm t y=true/\dget kvs y=some d/\Q d M) ∨ ∃ kvs d,M a=some (.fdc kvs)/\dJ y=true/\dget kvs y=some d/\Q d M
 | _=>False
theorem nM:al wIx:=by
 intro x y M Q Q' h q
 cases x with
 | tup ds=>obtain ⟨i,d,e,j,q⟩:=q;exact ⟨i,d,e,j,h _ _ q⟩
 | con ds=>obtain ⟨i,d,e,j,q⟩:=q;exact ⟨i,d,e,j,h _ _ q⟩
 | ref a =>
   rcases q with ⟨ds,i,d,n,j,z,q⟩ | ⟨t,kvs,d,n,j,z,q⟩ | ⟨kvs,d,n,j,z,q⟩
   ·exact .inl ⟨ds,i,d,n,j,z,h _ _ q⟩
   ·exact .inr (.inl ⟨t,kvs,d,n,j,z,h _ _ q⟩)
   ·exact .inr (.inr ⟨kvs,d,n,j,z,h _ _ q⟩)
 | _=>exact q.elim
theorem ig {K:Frag} {H:Hp} {ds:List D} {vs:List V} {i:Int} {d:D} (r:RDs K H ds vs) (e:atI ds i=some d):∃ v,atI vs i=some v/\RD K H d v:=by
 unfold atI at e ⊢
 rw [r.length]
 cases q:ixN ds.length i with
 | none=>rw [q] at e;cases e
 | some j =>
   rw [q] at e
   exact r.get e
theorem fM {K:Frag} {H:Hp} {k:D} {q:Key} {v:V} (r:RKey k q) (h:RD K H k v):v=kV q:=by
 cases k <;> first
  | exact r.elim
  | (cases (show q=_ from r);first | exact RD.int_iff.mp h | exact RD.str_iff.mp h)
theorem gv {K:Frag} {H:Hp}:∀ {ds:List D} {ks:List Key} {vs:List V},Paired RKey ds ks->RDs K H ds vs->vs=ks.map kV
 | _,_,vs, .nil,h=>by rw [RDs.nil_iff.mp h];rfl
 | _,_,vs, .cons r t,h=>by
   obtain ⟨v,vr,rfl,h1,h2⟩:=RDs.cons_iff.mp h
   rw [fM r h1,gv t h2];rfl
theorem RKey.inj {d e:D} {k:Key} (a:RKey d k) (b:RKey e k):d=e:=by
 cases d <;> first
  | exact a.elim
  | (cases e <;> first | exact b.elim | (cases (show k=_ from a);injection (show _=_ from b) with z;rw [z]) | (cases (show k=_ from a);cases (show _=_ from b)))
theorem RKeysP.inj:∀ {d e:List D} {k:List Key},Paired RKey d k->Paired RKey e k->d=e
 | _,_,_, .nil, .nil=>rfl
 | _,_,_, .cons r t, .cons r' t'=>by rw [r.inj r',RKeysP.inj t t']
theorem RKeys.inj {d e:D} {k:List Key} (a:RKeys d k) (b:RKeys e k):d=e:=by
 cases d <;> first
  | exact a.elim
  | (cases e <;> first | exact b.elim | exact congrArg D.tup (RKeysP.inj a b))
theorem RKey.fun {d:D} {k k':Key} (a:RKey d k) (b:RKey d k'):k=k':=by
 cases d <;> first
  | exact a.elim
  | (cases (show k=_ from a);cases (show k'=_ from b);rfl)
theorem RKeysP.fun:∀ {d:List D} {k k':List Key},Paired RKey d k->Paired RKey d k'->k=k'
 | _,_,_, .nil, .nil=>rfl
 | _,_,_, .cons r t, .cons r' t'=>by rw [r.fun r',RKeysP.fun t t']
theorem RKeys.fun {d:D} {k k':List Key} (a:RKeys d k) (b:RKeys d k'):k=k':=by
 cases d <;> first
  | exact a.elim
  | exact RKeysP.fun a b
section
variable {κ:Type} [DecidableEq κ] {K:Frag} {H:Hp} {RK:D -> κ -> Prop} (inj:∀ {d e:D} {k : κ},RK d k->RK e k->d=e) (fn:∀ {d:D} {k k' : κ},RK d k->RK d k'->k=k')
include inj fn
theorem gw {k:D} {q : κ} (j:RK k q):∀ {kvs:List (D×D)} {ps:List (κ × V)},Paired (fun p r=>RK p.1 r.1/\RD K H p.2 r.2) kvs ps ->
 (∀ d,dget kvs k=some d -> ∃ v,bu ps q=some v/\RD K H d v)/\(dget kvs k=none->bu ps q=none)
 | _,_, .nil=>⟨fun d e=>by simp [dget] at e,fun _=>rfl⟩
 | _,_, .cons (a:=p) (b:=r) (l₂ := ps) hr t=>by
   obtain ⟨n,B⟩:=gw j t
   by_cases e:p.1=k
   ·have e':r.1=q:=by
     have h1:=hr.1
     rw [e] at h1
     exact fn h1 j
    refine ⟨fun d he => ?_,fun he => ?_⟩
    ·simp [dget,List.find?_cons,e] at he
     subst he
     exact ⟨r.2,e8 e',hr.2⟩
    ·simp [dget,List.find?_cons,e] at he
   ·have e' : ¬ r.1=q:=fun z=>e (by
     have h1:=hr.1
     rw [z] at h1
     exact inj h1 j)
    have eq1:∀ l:List (D×D),dget (p::l) k=dget l k:=fun l=>by simp [dget,List.find?_cons,e]
    have eq2:bu (r::ps) q=bu ps q:=e9 e'
    refine ⟨fun d he => ?_,fun he => ?_⟩
    ·rw [eq1] at he
     rw [eq2]
     exact n d he
    ·rw [eq1] at he
     rw [eq2]
     exact B he
end
section
variable {X:Cx}
theorem qR {K:Frag} {H:Hp} {a:Addr} {ps:List (List Key×V)} {kvs:List (D×D)} {k:D} {v:V} (n:Rd H a (.dT ps)) (pr:Paired (fun (p:D×D) (q:List Key×V)=>RKeys p.1 q.1/\RD K H p.2 q.2) kvs ps) (ok:dJ k=true) (rk:RD K H k v) :
 ∃ o,DGet H a v o/\(∀ d,dget kvs k=some d -> ∃ w,o=some w/\RD K H d w)/\(dget kvs k=none->o=none):=by
 obtain ⟨q,j⟩:=nL ok
 obtain ⟨g1,g2⟩:=gw (RK:=RKeys) RKeys.inj RKeys.fun j pr
 refine ⟨bu ps q, ?_,g1,g2⟩
 cases k <;> first
  | exact j.elim
  | (obtain ⟨b,us,rfl,hb,ru⟩:=RD.tup_iff.mp rk
     rw [gv j ru] at hb
     exact .inr ⟨ps,q,b,n,rfl,hb,rfl⟩)
theorem ja {K:Frag} {M:Mem} {H:Hp} {a:Addr} {t:Bool} {kvs:List (D×D)} {k:D} {v:V} (rm:RM K M H) (e:M a=some (.dct t kvs)) (ok:dm t k=true) (rk:RD K H k v) :
 ∃ o,DGet H a v o/\(∀ d,dget kvs k=some d -> ∃ w,o=some w/\RD K H d w)/\(dget kvs k=none->o=none):=by
 have ro:=rm a _ e
 cases t with
 | false =>
   obtain ⟨ps,j,pr⟩:=ro
   obtain ⟨q,n⟩:=ic (show cD k=true from ok)
   obtain ⟨g1,g2⟩:=gw (RK:=RKey) RKey.inj RKey.fun n pr
   refine ⟨bu ps q, ?_,g1,g2⟩
   rw [fM n rk]
   exact DGet.k j
 | true =>
   obtain ⟨ps,j,pr⟩:=ro
   exact qR (.inl j) pr ok rk
theorem xB (j:X.A.units+1 < cLine):IxR X (fun x y H Q => ∃ a v,x = .ref a/\DGet H a y (some v)/\Q v H):=by
 intro value slice pins s σ H x y v u Q I rx ry h hs
 obtain ⟨a,w,rfl,g,q⟩:=h
 cases rx
 have hd:IsD H a:=by
  rcases g with ⟨kvs,k,e,_⟩ | ⟨kvs,k,b,e,_⟩
  ·exact .inl ⟨kvs,e⟩
  ·exact .inr ⟨kvs,e⟩
 obtain ⟨n,_⟩:=eY I hd
 exact tail_any n PySem.F.slot_dict_getitem.lookup (qF j I g ry fun w' s' I' r'=>⟨w,H,I',r',q⟩) hs
theorem BG (F:X.A.units+1 < cLine):IxR X (l2 X.K wIx):=by
 refine IxR.of (ix_list.or (ix_tup.or (xB F))) fun v u H Q h => ?_
 obtain ⟨x,y,M,rm,rx,ry,q⟩:=h
 cases x with
 | tup ds =>
   obtain ⟨i,d,rfl,e,q⟩:=q
   obtain ⟨a,vs,rfl,j,rs⟩:=RD.tup_iff.mp rx
   cases RD.int_iff.mp ry
   obtain ⟨w,hw,rw'⟩:=ig rs e
   exact .inr (.inl ⟨a,vs,i,w,rfl,rfl,SqT.of j,hw,q w H Ext.refl rm rw'⟩)
 | con ds =>
   obtain ⟨i,d,rfl,e,q⟩:=q
   obtain ⟨a,vs,rfl,j,rs⟩:=RD.con_iff.mp rx
   cases RD.int_iff.mp ry
   obtain ⟨w,hw,rw'⟩:=ig rs e
   exact .inl ⟨a,vs,i,w,rfl,rfl,j.sq,hw,q w H Ext.refl rm rw'⟩
 | ref a =>
   cases RD.ref_iff.mp rx
   rcases q with ⟨ds,i,d,n,rfl,z,q⟩ | ⟨t,kvs,d,n,B,z,q⟩ | ⟨kvs,d,n,B,z,q⟩
   ·cases RD.int_iff.mp ry
    obtain ⟨vs,j,rs⟩:=rm _ _ n
    obtain ⟨w,hw,rw'⟩:=ig rs z
    exact .inl ⟨a,vs,i,w,rfl,rfl,SqL.of j,hw,q w H Ext.refl rm rw'⟩
   ·obtain ⟨o,g,g1,_⟩:=ja rm n B ry
    obtain ⟨w,rfl,rw'⟩:=g1 d z
    exact .inr (.inr ⟨a,w,rfl,g,q w H Ext.refl rm rw'⟩)
   ·obtain ⟨ob,ps,G,pr⟩:=rm _ _ n
    obtain ⟨o,g,g1,_⟩:=qR (.inr ⟨ob,G⟩) pr B ry
    obtain ⟨w,rfl,rw'⟩:=g1 d z
    exact .inr (.inr ⟨a,w,rfl,g,q w H Ext.refl rm rw'⟩)
 | _=>exact q.elim
noncomputable def jb (M:Mem):D->Option Nat
 | .tup ds=>some ds.length
 | .con ds=>some ds.length
 | .ref a=>match M a with
  | some (.lst ds)=>some ds.length
  | _=>none
 | _=>none
noncomputable def gx:RAd:=fun xs M Q => ∃ x n,xs=[x]/\jb M x=some n/\Q (.int n) M
theorem kW:aV gx:=fun _ _ _ _ h ⟨x,n,e,l,q⟩=>⟨x,n,e,l,h _ _ q⟩
theorem RDs.one {K:Frag} {H:Hp} {d:D} {vs:List V} (h:RDs K H [d] vs):∃ v,vs=[v]/\RD K H d v:=by
 obtain ⟨v,r,rfl,h1,h2⟩:=RDs.cons_iff.mp h
 rw [RDs.nil_iff.mp h2]
 exact ⟨v,rfl,h1⟩
theorem RDs.two {K:Frag} {H:Hp} {d e:D} {vs:List V} (h:RDs K H [d,e] vs):∃ v u,vs=[v,u]/\RD K H d v/\RD K H e u:=by
 obtain ⟨v,r,rfl,h1,h2⟩:=RDs.cons_iff.mp h
 obtain ⟨u,rfl,j⟩:=RDs.one h2
 exact ⟨v,u,rfl,h1,j⟩
theorem pA:CallR X (.builtin "len") (lR X.K gx):=by
 refine CallR.of tK fun vs H Q h => ?_
 obtain ⟨ds,M,rm,rs,x,n,rfl,l,q⟩:=h
 obtain ⟨v,rfl,r⟩:=rs.one
 refine ⟨v,n,rfl, ?_,q _ H Ext.refl rm (RD.int_iff.mpr rfl)⟩
 cases x with
 | tup ds =>
   cases l
   obtain ⟨a,us,rfl,j,ru⟩:=RD.tup_iff.mp r
   exact .inr ⟨us,SqT.of j,ru.length.symm⟩
 | con ds =>
   cases l
   obtain ⟨a,us,rfl,j,ru⟩:=RD.con_iff.mp r
   exact .inl ⟨us,j.sq,ru.length.symm⟩
 | ref a =>
   cases RD.ref_iff.mp r
   simp only [jb] at l
   cases e:M a with
   | none=>rw [e] at l;cases l
   | some o =>
     rw [e] at l
     cases o with
     | dct _ _=>cases l
     | fdc _=>cases l
     | lst ds =>
       cases l
       obtain ⟨us,j,ru⟩:=rm _ _ e
       exact .inl ⟨us,SqL.of j,ru.length.symm⟩
 | _=>cases l
noncomputable def kX:RAd:=fun xs M Q => ∃ i,xs=[.int i]/\Q (.int (if i < 0 then -i else i)) M
noncomputable def km:RAd:=fun xs M Q => ∃ i j,xs=[.int i, .int j]/\Q (.int (if j < i then j else i)) M
noncomputable def kY:RAd:=fun xs M Q=>(∃ i,xs=[.int i]/\Q (.int i) M) ∨ ∃ k,xs=[.bl k]/\Q (.int (if k then 1 else 0)) M
theorem kZ:aV kX:=fun _ _ _ _ h ⟨i,e,q⟩=>⟨i,e,h _ _ q⟩
theorem jG:aV km:=fun _ _ _ _ h ⟨i,j,e,q⟩=>⟨i,j,e,h _ _ q⟩
theorem lc:aV kY:=fun _ _ _ _ h q=>q.elim (fun ⟨i,e,q⟩ => .inl ⟨i,e,h _ _ q⟩) fun ⟨i,e,q⟩ => .inr ⟨i,e,h _ _ q⟩
theorem pB:CallR X (.builtin "abs") (lR X.K kX):=by
 refine CallR.of tJ fun vs H Q h => ?_
 obtain ⟨ds,M,rm,rs,i,rfl,q⟩:=h
 obtain ⟨v,rfl,r⟩:=rs.one
 cases RD.int_iff.mp r
 exact ⟨i,rfl,q _ H Ext.refl rm (RD.int_iff.mpr rfl)⟩
theorem no (n:X.calm=true):CallR X (.builtin "min") (lR X.K km):=by
 refine CallR.of (qu n) fun vs H Q h => ?_
 obtain ⟨ds,M,rm,rs,i,j,rfl,q⟩:=h
 obtain ⟨v,u,rfl,z,B⟩:=rs.two
 cases RD.int_iff.mp z
 cases RD.int_iff.mp B
 exact ⟨i,j,rfl,q _ H Ext.refl rm (RD.int_iff.mpr rfl)⟩
theorem pC:CallR X (.type "int") (lR X.K kY):=by
 refine CallR.of qv fun vs H Q h => ?_
 obtain ⟨ds,M,rm,rs,⟨i,rfl,q⟩ | ⟨i,rfl,q⟩⟩:=h
 ·obtain ⟨v,rfl,r⟩:=rs.one
  cases RD.int_iff.mp r
  exact .inl ⟨i,rfl,q _ H Ext.refl rm (RD.int_iff.mpr rfl)⟩
 ·obtain ⟨v,rfl,r⟩:=rs.one
  cases RD.bl_iff.mp r
  exact .inr ⟨i,rfl,q _ H Ext.refl rm (RD.int_iff.mpr rfl)⟩
noncomputable def aC (M:Mem):D->Option (List D)
 | .tup ds=>some ds
 | .con ds=>some ds
 | .ref a=>match M a with
  | some (.lst ds)=>some ds
  | _=>none
 | _=>none
theorem qS {K:Frag} {M:Mem} {H:Hp} {x:D} {ds:List D} {v:V} (rm:RM K M H) (r:RD K H x v) (e:aC M x=some ds):∃ p vs,v = .ref p/\(SqL K H p vs∨SqT K H p vs)/\RDs K H ds vs:=by
 cases x with
 | tup es =>
   cases e
   obtain ⟨a,us,rfl,j,ru⟩:=RD.tup_iff.mp r
   exact ⟨a,us,rfl, .inr (SqT.of j),ru⟩
 | con es =>
   cases e
   obtain ⟨a,us,rfl,j,ru⟩:=RD.con_iff.mp r
   exact ⟨a,us,rfl, .inl j.sq,ru⟩
 | ref a =>
   cases RD.ref_iff.mp r
   simp only [aC] at e
   cases e0:M a with
   | none=>rw [e0] at e;cases e
   | some o =>
     rw [e0] at e
     cases o with
     | dct _ _=>cases e
     | fdc _=>cases e
     | lst es =>
       cases e
       obtain ⟨us,j,ru⟩:=rm _ _ e0
       exact ⟨a,us,rfl, .inl (SqL.of j),ru⟩
 | _=>cases e
noncomputable def lf:RAd:=fun xs M Q => ∃ x ds,xs=[x]/\aC M x=some ds/\Q (.tup ds) M
theorem ii:aV lf:=fun _ _ _ _ h ⟨x,ds,e,l,q⟩=>⟨x,ds,e,l,h _ _ q⟩
theorem lg:CallR X (.type "tuple") (lR X.K lf):=by
 refine CallR.of kg fun vs H Q h => ?_
 obtain ⟨ds,M,rm,rs,x,es,rfl,l,q⟩:=h
 obtain ⟨v,rfl,r⟩:=rs.one
 cases x with
 | tup ds' =>
   cases l
   obtain ⟨a,us,rfl,j,ru⟩:=RD.tup_iff.mp r
   exact ⟨a,us,rfl, .inr ⟨SqT.of j,q _ H Ext.refl rm r⟩⟩
 | con ds' =>
   cases l
   obtain ⟨a,us,rfl,j,ru⟩:=RD.con_iff.mp r
   exact ⟨a,us,rfl, .inl ⟨j.sq,fun l' n=>cJ rm ru q n⟩⟩
 | ref a =>
   cases RD.ref_iff.mp r
   simp only [aC] at l
   cases e0:M a with
   | none=>rw [e0] at l;cases l
   | some o =>
     rw [e0] at l
     cases o with
     | dct _ _=>cases l
     | fdc _=>cases l
     | lst es' =>
       cases l
       obtain ⟨us,j,ru⟩:=rm _ _ e0
       exact ⟨a,us,rfl, .inl ⟨SqL.of j,fun l' n=>cJ rm ru q n⟩⟩
 | _=>cases l
end
end
section
section
variable {X:Cx}
noncomputable def uf (M:Mem):D->Option Bool
 | .non=>some false
 | .bl b=>some b
 | .int i=>some (i != 0)
 | .tup ds=>some (!ds.isEmpty)
 | .con ds=>some (!ds.isEmpty)
 | .ref a=>match M a with
  | some (.lst ds)=>some (!ds.isEmpty)
  | _=>none
 | _=>none
noncomputable def lh (t:TEd):TTd:=fun ρ M Q=>t ρ M fun x M1 => ∃ b,uf M1 x=some b/\Q b M1
theorem ug {t:TEd} (h:ab t):aD (lh t):=fun ρ M Q Q' i q=>h _ _ _ _ (fun x n ⟨k,e,j⟩=>⟨k,e,i _ _ j⟩) q
theorem zE {K:Frag} {M:Mem} {H:Hp} {x:D} {b:Bool} {v:V} (rm:RM K M H) (r:RD K H x v) (e:uf M x=some b):tH K v H b:=by
 have emp:∀ {ds:List D} {vs:List V},RDs K H ds vs->(!ds.isEmpty) = !vs.isEmpty:=fun {ds vs} h=>by
  have l:=h.length
  cases ds <;> cases vs <;> first | rfl | (simp at l)
 cases x with
 | non=>cases e;cases RD.non_iff.mp r;rfl
 | bl k=>cases e;cases RD.bl_iff.mp r;rfl
 | int i=>cases e;cases RD.int_iff.mp r;rfl
 | tup ds =>
   cases e
   obtain ⟨a,vs,rfl,j,rs⟩:=RD.tup_iff.mp r
   exact .inr (.inl ⟨vs,SqT.of j,emp rs⟩)
 | con ds =>
   cases e
   obtain ⟨a,vs,rfl,j,rs⟩:=RD.con_iff.mp r
   exact .inl ⟨vs,j.sq,emp rs⟩
 | ref a =>
   cases RD.ref_iff.mp r
   simp only [uf] at e
   cases e0:M a with
   | none=>rw [e0] at e;cases e
   | some o =>
     rw [e0] at e
     cases o with
     | dct _ _=>cases e
     | fdc _=>cases e
     | lst ds =>
       cases e
       obtain ⟨vs,j,rs⟩:=rm _ _ e0
       exact .inl ⟨vs,SqL.of j,emp rs⟩
 | str _=>cases e
variable {a b:Expr} {ta tb:TEd} {pos:Pos}
theorem zF (m:ab ta) (z:PE X a (lE X.K ta)) (he:∀ whole,isTrue a X.env whole=(do let v <- whole;standAt a.pos;holding [v] (truthy v))):PT X a (lT X.K (lh ta)):=by
 refine PT.imp (tI z he) fun σ H Q h => ?_
 obtain ⟨ρ,M,rs,rm,q⟩:=h
 exact ⟨ρ,M,rs,rm,m _ _ _ _ (fun x G ⟨k,e,B⟩ v H1 F j n=>⟨k,zE j n e,B H1 F j⟩) q⟩
noncomputable def ik (t:TTd):TTd:=fun ρ M Q=>t ρ M fun c M1=>Q (!c) M1
theorem qT {t:TTd} (h:aD t):aD (ik t):=fun ρ M Q Q' i q=>h _ _ _ _ (fun c n j=>i _ _ j) q
theorem zG {tA:TTd} (m:aD tA) (j:PT X a (lT X.K tA)):PT X (.UnaryOp .Not a pos) (lT X.K (ik tA)):=by
 refine PT.imp (yQ j) fun σ H Q h => ?_
 obtain ⟨ρ,M,rs,rm,q⟩:=h
 exact ⟨ρ,M,rs,rm,m _ _ _ _ (fun c z n=>n) q⟩
noncomputable def im (t u:TTd):TTd:=fun ρ M Q=>t ρ M fun c M1=>if c=true then u ρ M1 Q else Q false M1
noncomputable def lj (t u:TTd):TTd:=fun ρ M Q=>t ρ M fun c M1=>if c=true then Q true M1 else u ρ M1 Q
theorem qU {t u:TTd} (h:aD t) (k:aD u):aD (im t u):=fun ρ M Q Q' i q=>h _ _ _ _ (fun c n j=>by
 cases c with
 | true=>rw [if_pos rfl] at j ⊢;exact k _ _ _ _ i j
 | false=>rw [if_neg Bool.false_ne_true] at j ⊢;exact i _ _ j) q
theorem uh {t u:TTd} (h:aD t) (k:aD u):aD (lj t u):=fun ρ M Q Q' i q=>h _ _ _ _ (fun c n j=>by
 cases c with
 | true=>rw [if_pos rfl] at j ⊢;exact i _ _ j
 | false=>rw [if_neg Bool.false_ne_true] at j ⊢;exact k _ _ _ _ i j) q
theorem xC {tA:TTd} (j:PT X a (lT X.K tA)):PW X (.BoolOp .And [a] pos) (lT X.K tA):=wJ j
theorem zH {tA:TTd} (j:PT X a (lT X.K tA)):PW X (.BoolOp .Or [a] pos) (lT X.K tA):=yO j
theorem zI {tA tB:TTd} {rest:List Expr} (mA:aD tA) (mB:aD tB) (B:PT X a (lT X.K tA)) (hb:PW X (.BoolOp .And (b::rest) pos) (lT X.K tB)):PW X (.BoolOp .And (a::b::rest) pos) (lT X.K (im tA tB)):=by
 refine PW.imp (yP B hb) fun σ H Q h => ?_
 obtain ⟨ρ,M,rs,rm,q⟩:=h
 refine ⟨ρ,M,rs,rm,mA _ _ _ _ (fun c F n H1 z j => ?_) q⟩
 cases c with
 | true=>rw [if_pos rfl] at n ⊢;exact ⟨ρ,F,rs.mono (z.stab rm),j,mB _ _ _ _ (fun d M2 k=>k.ext z) n⟩
 | false=>rw [if_neg Bool.false_ne_true] at n ⊢;exact n H1 z j
theorem AW {tA tB:TTd} {rest:List Expr} (mA:aD tA) (mB:aD tB) (B:PT X a (lT X.K tA)) (hb:PW X (.BoolOp .Or (b::rest) pos) (lT X.K tB)):PW X (.BoolOp .Or (a::b::rest) pos) (lT X.K (lj tA tB)):=by
 refine PW.imp (Au B hb) fun σ H Q h => ?_
 obtain ⟨ρ,M,rs,rm,q⟩:=h
 refine ⟨ρ,M,rs,rm,mA _ _ _ _ (fun c F n H1 z j => ?_) q⟩
 cases c with
 | true=>rw [if_pos rfl] at n ⊢;exact n H1 z j
 | false=>rw [if_neg Bool.false_ne_true] at n ⊢;exact ⟨ρ,F,rs.mono (z.stab rm),j,mB _ _ _ _ (fun d M2 k=>k.ext z) n⟩
noncomputable def io (ta tb:TEd):TEd:=fun ρ M Q=>ta ρ M fun x M1 => ∃ c,x = .bl c/\if c=true then tb ρ M1 Q else Q (.bl false) M1
noncomputable def ll (ta tb:TEd):TEd:=fun ρ M Q=>ta ρ M fun x M1 => ∃ c,x = .bl c/\if c=true then Q (.bl true) M1 else tb ρ M1 Q
noncomputable def iq (ta:TEd):TEd:=fun ρ M Q=>ta ρ M fun x M1 => ∃ c,x = .bl c/\Q (.bl (!c)) M1
theorem qV (h:ab ta) (k:ab tb):ab (io ta tb):=fun ρ M Q Q' i q=>h _ _ _ _ (fun x n ⟨c,e,j⟩=>⟨c,e,by
 cases c with
 | true=>rw [if_pos rfl] at j ⊢;exact k _ _ _ _ i j
 | false=>rw [if_neg Bool.false_ne_true] at j ⊢;exact i _ _ j⟩) q
theorem ui (h:ab ta) (k:ab tb):ab (ll ta tb):=fun ρ M Q Q' i q=>h _ _ _ _ (fun x n ⟨c,e,j⟩=>⟨c,e,by
 cases c with
 | true=>rw [if_pos rfl] at j ⊢;exact i _ _ j
 | false=>rw [if_neg Bool.false_ne_true] at j ⊢;exact k _ _ _ _ i j⟩) q
theorem qW (h:ab ta):ab (iq ta):=fun ρ M Q Q' i q=>h _ _ _ _ (fun x n ⟨c,e,j⟩=>⟨c,e,i _ _ j⟩) q
theorem qX {op:BoolOp} {t:TEd} (h:PE X a (lE X.K t)):PE X (.BoolOp op [a] pos) (lE X.K t):=yR h
theorem zJ {rest:List Expr} (ma:ab ta) (mb:ab tb) (F:PE X a (lE X.K ta)) (hb:PE X (.BoolOp .And (b::rest) pos) (lE X.K tb)):PE X (.BoolOp .And (a::b::rest) pos) (lE X.K (io ta tb)):=by
 refine PE.imp (yS F hb) fun σ H Q h => ?_
 obtain ⟨ρ,M,rs,rm,q⟩:=h
 refine ⟨ρ,M,rs,rm,ma _ _ _ _ (fun x G ⟨c,e,n⟩ v H1 z j B => ?_) q⟩
 subst e
 refine ⟨c,RD.bl_iff.mp B, ?_⟩
 cases c with
 | true=>rw [if_pos rfl] at n ⊢;exact ⟨ρ,G,rs.mono (z.stab rm),j,mb _ _ _ _ (fun d M2 k=>k.ext z) n⟩
 | false=>rw [if_neg Bool.false_ne_true] at n ⊢;exact n _ H1 z j (RD.bl_iff.mpr rfl)
theorem AX {rest:List Expr} (ma:ab ta) (mb:ab tb) (F:PE X a (lE X.K ta)) (hb:PE X (.BoolOp .Or (b::rest) pos) (lE X.K tb)):PE X (.BoolOp .Or (a::b::rest) pos) (lE X.K (ll ta tb)):=by
 refine PE.imp (Ax F hb) fun σ H Q h => ?_
 obtain ⟨ρ,M,rs,rm,q⟩:=h
 refine ⟨ρ,M,rs,rm,ma _ _ _ _ (fun x G ⟨c,e,n⟩ v H1 z j B => ?_) q⟩
 subst e
 refine ⟨c,RD.bl_iff.mp B, ?_⟩
 cases c with
 | true=>rw [if_pos rfl] at n ⊢;exact n _ H1 z j (RD.bl_iff.mpr rfl)
 | false=>rw [if_neg Bool.false_ne_true] at n ⊢;exact ⟨ρ,G,rs.mono (z.stab rm),j,mb _ _ _ _ (fun d M2 k=>k.ext z) n⟩
theorem zK (ma:ab ta) (z:PE X a (lE X.K ta)):PE X (.UnaryOp .Not a pos) (lE X.K (iq ta)):=by
 refine PE.imp (yT z) fun σ H Q h => ?_
 obtain ⟨ρ,M,rs,rm,q⟩:=h
 refine ⟨ρ,M,rs,rm,ma _ _ _ _ (fun x G ⟨c,e,B⟩ v H1 F j n => ?_) q⟩
 subst e
 exact ⟨c,RD.bl_iff.mp n,B _ H1 F j (RD.bl_iff.mpr rfl)⟩
noncomputable def wIf (t:TTd) (ta tb:TEd):TEd:=fun ρ M Q=>t ρ M fun c M1=>if c=true then ta ρ M1 Q else tb ρ M1 Q
theorem xD {t:TTd} (h:aD t) (n:ab ta) (hb:ab tb):ab (wIf t ta tb):=fun ρ M Q Q' i q=>h _ _ _ _ (fun c z j=>by
 cases c with
 | true=>rw [if_pos rfl] at j ⊢;exact n _ _ _ _ i j
 | false=>rw [if_neg Bool.false_ne_true] at j ⊢;exact hb _ _ _ _ i j) q
theorem AY {c:Expr} {t:TTd} (mt:aD t) (ma:ab ta) (mb:ab tb) (F:PT X c (lT X.K t)) (G:PE X a (lE X.K ta)) (hb:PE X b (lE X.K tb)):PE X (.IfExp c a b pos) (lE X.K (wIf t ta tb)):=by
 refine PE.imp (tm F G hb) fun σ H Q h => ?_
 obtain ⟨ρ,M,rs,rm,q⟩:=h
 refine ⟨ρ,M,rs,rm,mt _ _ _ _ (fun x B n H1 z j => ?_) q⟩
 cases x with
 | true=>rw [if_pos rfl] at n ⊢;exact ⟨ρ,B,rs.mono (z.stab rm),j,ma _ _ _ _ (fun d M2 k=>k.ext z) n⟩
 | false=>rw [if_neg Bool.false_ne_true] at n ⊢;exact ⟨ρ,B,rs.mono (z.stab rm),j,mb _ _ _ _ (fun d M2 k=>k.ext z) n⟩
noncomputable def gy (xs:List D) (lo hi:Option Int):List D:=(xs.drop (HT.sIx xs.length 0 lo)).take (HT.sIx xs.length xs.length hi - HT.sIx xs.length 0 lo)
theorem lm {K:Frag} {H:Hp} {ds:List D} {vs:List V} (r:RDs K H ds vs) (lo hi:Option Int):RDs K H (gy ds lo hi) (eV vs lo hi):=by
 unfold gy eV
 rw [r.length]
 exact (r.drop _).take _
noncomputable abbrev TOd:=aq->Mem->(Option Int->Mem->Prop)->Prop
noncomputable def eh (T:TOd):Prop := ∀ ρ M Q Q',(∀ d M',Q d M'->Q' d M')->T ρ M Q->T ρ M Q'
noncomputable def dN:TOd:=fun _ M Q=>Q none M
noncomputable def ir (t:TEd):TOd:=fun ρ M Q=>t ρ M fun x M1 => ∃ i,x = .int i/\Q (some i) M1
theorem nu:eh dN:=fun _ _ _ _ h q=>h _ _ q
theorem qY (h:ab ta):eh (ir ta):=fun ρ M Q Q' i q=>h _ _ _ _ (fun x n ⟨c,e,j⟩=>⟨c,e,i _ _ j⟩) q
noncomputable def lO (K:Frag) (T:TOd):TO:=fun σ H Q => ∃ ρ M,RS K H σ ρ /\ RM K M H/\T ρ M (fun o M' => ∀ H',Ext M H M' H'->RM K M' H'->Q o H')
theorem xE:PO X none (lO X.K dN):=fun pins s σ H Q I h=>by
 obtain ⟨ρ,M,rs,rm,q⟩:=h
 exact wZ pins s σ H Q I (q H Ext.refl rm)
theorem xF {e:Expr} (m:ab ta) (h:PE X e (lE X.K ta)):PO X (some e) (lO X.K (ir ta)):=fun pins s σ H Q I hq=>by
 obtain ⟨ρ,M,rs,rm,q⟩:=hq
 refine xb h pins s σ H Q I ⟨ρ,M,rs,rm,m _ _ _ _ (fun x F ⟨i,e,z⟩ v H1 B j n => ?_) q⟩
 subst e
 exact ⟨i,RD.int_iff.mp n,z H1 B j⟩
noncomputable def dO:D->Option Int->Option Int->Mem->QD->Prop:=fun x lo hi M Q=>match x with
 | .tup ds=>Q (.tup (gy ds lo hi)) M
 | .ref a => ∃ ds,M a=some (.lst ds) /\ ∀ p,M p=none->Q (.ref p) (af M p (.lst (gy ds lo hi)))
 | .con ds => ∀ p,M p=none->Q (.ref p) (af M p (.lst (gy ds lo hi)))
 | _=>False
noncomputable def wSl (te:TEd) (tl th:TOd):TEd:=fun ρ M Q=>te ρ M fun x M1=>tl ρ M1 fun l M2=>th ρ M2 fun u M3=>dO x l u M3 Q
theorem pE {x:D} {lo hi:Option Int} {M:Mem} {Q Q':QD} (h:∀ d M',Q d M'->Q' d M') (q:dO x lo hi M Q):dO x lo hi M Q':=by
 cases x with
 | tup ds=>exact h _ _ q
 | ref a=>obtain ⟨ds,e,q⟩:=q;exact ⟨ds,e,fun p n=>h _ _ (q p n)⟩
 | con ds=>exact fun p n=>h _ _ (q p n)
 | _=>exact q.elim
theorem xG {tl th:TOd} (m:ab ta) (ml:eh tl) (mh:eh th):ab (wSl ta tl th):=fun ρ M Q Q' i q =>
 m _ _ _ _ (fun x B j=>ml _ _ _ _ (fun l M2 n=>mh _ _ _ _ (fun u F z=>pE i z) n) j) q
theorem AZ {e:Expr} {lo hi:Option Expr} {tl th:TOd} {p2:Pos} (m:ab ta) (ml:eh tl) (mh:eh th) (he:PE X e (lE X.K ta)) (hl:PO X lo (lO X.K tl)) (U:PO X hi (lO X.K th)) :
 PE X (.Subscript e (.Slice lo hi none p2) pos) (lE X.K (wSl ta tl th)):=by
 refine PE.imp (tN (sl_tup.or (sl_list.or tQ)) he hl U) fun σ H Q h => ?_
 obtain ⟨ρ,M,rs,rm,q⟩:=h
 refine ⟨ρ,M,rs,rm,m _ _ _ _ (fun x Y Z v H1 L G O => ?_) q⟩
 refine ⟨ρ,Y,rs.mono (L.stab rm),G,ml _ _ _ _ (fun l M2 q2 H2 R J => ?_) Z⟩
 refine ⟨ρ,M2,(rs.mono (L.stab rm)).mono (R.stab G),J,mh _ _ _ _ (fun u M3 z H3 S j => ?_) q2⟩
 have B:=L.trans (R.trans S)
 have F:=(O.mono (R.stab G)).mono (S.stab J)
 cases x with
 | tup ds =>
   obtain ⟨a,vs,rfl,I,r⟩:=RD.tup_iff.mp F
   by_cases hw:HT.sIx vs.length 0 l=0/\HT.sIx vs.length vs.length u=vs.length
   ·refine .inr (.inr ⟨a,vs,rfl,SqT.of I,hw, ?_⟩)
    have e:gy ds l u=ds:=by
     unfold gy
     rw [<- r.length,hw.1,hw.2,r.length];simp
    simp only [dO] at z
    rw [e] at z
    exact z.ext B _ H3 Ext.refl j F
   ·simp only [dO] at z
    exact .inl ⟨a,vs,rfl,SqT.of I,hw,fun p n=>cJ j (lm r l u) (z.ext B) n⟩
 | ref a =>
   cases RD.ref_iff.mp F
   obtain ⟨ds,e,z⟩:=z
   obtain ⟨vs,I,r⟩:=j _ _ e
   exact .inr (.inl ⟨a,vs,rfl,SqL.of I,fun p n=>cK j (lm r l u) (fun p' n'=>(z p' n').ext B) n⟩)
 | con ds =>
   obtain ⟨a,vs,rfl,I,r⟩:=RD.con_iff.mp F
   exact .inr (.inl ⟨a,vs,rfl,I.sq,fun p n=>cK j (lm r l u) (fun p' n'=>(z p' n').ext B) n⟩)
 | _=>exact z.elim
end
end
section
section
variable {X:Cx}
noncomputable def tyN (M:Mem):D->Option String
 | .non=>some "NoneType"
 | .bl _=>some "bool"
 | .int _=>some "int"
 | .str _=>some "str"
 | .tup _=>some "tuple"
 | .ref a=>match M a with
  | some (.lst _)=>some "list"
  | some (.dct _ _)=>some "dict"
  | _=>none
 | .con _=>none
noncomputable def uj (T t:String):Bool:=t==T || (t == "bool" && T == "int")
theorem B0 {K:Frag} {M:Mem} {H:Hp} {x:D} {t:String} {v:V} (rm:RM K M H) (r:RD K H x v) (e:tyN M x=some t):bS K H v (.type t):=by
 cases x with
 | non=>cases e;cases RD.non_iff.mp r;exact .non
 | bl k=>cases e;cases RD.bl_iff.mp r;exact .bl k
 | int i=>cases e;cases RD.int_iff.mp r;exact .int i
 | str i=>cases e;cases RD.str_iff.mp r;exact .str i
 | tup ds =>
   cases e
   obtain ⟨a,vs,rfl,j,rs⟩:=RD.tup_iff.mp r
   exact .tup j
 | con ds=>cases e
 | ref a =>
   cases RD.ref_iff.mp r
   simp only [tyN] at e
   cases e0:M a with
   | none=>rw [e0] at e;cases e
   | some o =>
     rw [e0] at e
     cases o with
     | lst ds =>
       cases e
       obtain ⟨vs,j,rs⟩:=rm _ _ e0
       exact .lst j
     | dct t kvs =>
       cases e
       have ro:=rm _ _ e0
       cases t with
       | false=>obtain ⟨ps,j,_⟩:=ro;exact .dK j
       | true=>obtain ⟨ps,j,_⟩:=ro;exact .dT j
     | fdc kvs=>cases e
noncomputable def cL:List String := ["NoneType", "bool", "int", "str", "tuple", "list", "dict"]
theorem xH (K:Frag):∀ T∈["bool", "int", "str", "tuple", "list", "dict"], ∀ t∈cL,PySem.W.kitOne K (.type t) (.type T)=some (uj T t):=by
 intro T j t n
 simp only [cL,List.mem_cons,List.not_mem_nil,or_false] at j n
 rcases j with rfl | rfl | rfl | rfl | rfl | rfl <;> rcases n with rfl | rfl | rfl | rfl | rfl | rfl | rfl <;> rfl
noncomputable def iu (T:String) (ta:TEd):TEd:=fun ρ M Q=>ta ρ M fun x M1 => ∃ t,tyN M1 x=some t/\Q (.bl (uj T t)) M1
theorem qZ {T:String} {ta:TEd} (h:ab ta):ab (iu T ta):=fun ρ M Q Q' i q=>h _ _ _ _ (fun x n ⟨t,e,j⟩=>⟨t,e,i _ _ j⟩) q
theorem xI {M:Mem} {x:D} {t:String} (e:tyN M x=some t):t∈cL:=by
 cases x with
 | ref a =>
   simp only [tyN] at e
   cases e0:M a with
   | none=>rw [e0] at e;cases e
   | some o=>rw [e0] at e;cases o <;> cases e <;> simp [cL]
 | con _=>cases e
 | _=>cases e;simp [cL]
theorem r6 (T:String) (j:T∈["bool", "int", "str", "tuple", "list", "dict"]):CallR X (.builtin "isinstance") (fun vs H Q => ∃ v t,vs=[v, .ty T]/\bS X.K H v (.type t)/\t∈cL/\Q (.bl (uj T t)) H):=by
 intro pins s σ H xs us Q I r h
 obtain ⟨v,t,rfl,ty,n,q⟩:=h
 obtain ⟨u,c,rfl,ru,rc⟩:=vT r
 cases rc
 exact qz I ru ty (xH X.K T j t n) fun tk=>⟨.bl _,H,I.tok tk,rfl,q⟩
theorem xJ {e:Expr} {ta:TEd} {T:String} {y:Str} {p p2 pos:Pos} (I:T∈["bool", "int", "str", "tuple", "list", "dict"]) (m:ab ta) (he:PE X e (lE X.K ta)) (J:Gl X "isinstance") (hm:X.mg "isinstance" = none)
 (n:Gl X y) (z:X.mg y=none) (L:bootBuiltins y=some (.type T)) (O:y ≠ "__name__") (B:(y==("__debug__":Str))=false)
 (hs:starEach [e, .Name y p2] X.env=(false,eval e X.env)::starEach [.Name y p2] X.env) (F:(backTo pos (starEach [.Name y p2] X.env)).any (·.1)=false) :
 PE X (.Call (.Name "isinstance" p) [e, .Name y p2] [] pos) (lE X.K (iu T ta)):=by
 have h2:PE X (.Name y p2) (tC (.ty T)):=wH n z L rfl O B
 refine PE.imp (bO (r6 T I) J hm (by decide +kernel) (j0 he (j0 h2 qA rfl) hs) (by decide) (by decide) hs F) fun σ H Q h => ?_
 obtain ⟨ρ,M,rs,rm,q⟩:=h
 exact ⟨ρ,M,rs,rm,m _ _ _ _ (fun x U ⟨t,e,R⟩ v H1 S j G=>⟨v,t,rfl,B0 j G e,xI e,R _ H1 S j (RD.bl_iff.mpr rfl)⟩) q⟩
noncomputable def wBM (rd:D->List D->Mem->QD->Prop) (to:TEd) (t:TAd):TEd:=fun ρ M Q=>to ρ M fun x M1=>(∃ a xs,x = .ref a/\M1 a=some (.lst xs))/\t ρ M1 fun ds M2=>rd x ds M2 Q
noncomputable def ko (rd:D->List D->Mem->QD->Prop):Prop := ∀ x ds M Q Q',(∀ d M',Q d M'->Q' d M')->rd x ds M Q->rd x ds M Q'
theorem xK {rd:D->List D->Mem->QD->Prop} {to:TEd} {t:TAd} (hr:ko rd) (mo:ab to) (mt:bb t):ab (wBM rd to t):=fun ρ M Q Q' i q =>
 mo _ _ _ _ (fun x z ⟨e,j⟩=>⟨e,mt _ _ _ _ (fun ds M2 n=>hr _ _ _ _ _ i n) j⟩) q
theorem B1 {K:Frag} {M:Mem} {H:Hp} {x:D} {v:V} (rm:RM K M H) (r:RD K H x v) (h:∃ a xs,x = .ref a/\M a=some (.lst xs)):tyV K "list" v H:=by
 obtain ⟨a,xs,rfl,e⟩:=h
 cases RD.ref_iff.mp r
 obtain ⟨vs,j,_⟩:=rm _ _ e
 exact .inl ⟨rfl,vs,SqL.of j⟩
theorem xL {K:Frag} {rd:D->List D->Mem->QD->Prop} {r:V->List V->Hp->VK->Prop} {to:TEd} {t:TAd} (hr:ko rd) (mo:ab to) (mt:bb t)
 (I:∀ v vs H Q,lMt K rd v vs H Q->r v vs H Q) (σ:St) (H:Hp) (Q:VK) (h:lE K (wBM rd to t) σ H Q):tBM K "list" r (lE K to) (lA K t) σ H Q:=by
 obtain ⟨ρ,M,rs,rm,q⟩:=h
 refine ⟨ρ,M,rs,rm,mo _ _ _ _ (fun x J ⟨e,L⟩ v H1 F j n=>⟨B1 j n e, ?_⟩) q⟩
 refine ⟨ρ,J,rs.mono (F.stab rm),j,mt _ _ _ _ (fun ds M2 O vs H2 G z B => ?_) L⟩
 exact I v vs H2 Q ⟨x,ds,M2,z,n.mono (G.stab j),B,hr _ _ _ _ _ (fun d M' k=>k.ext (F.trans G)) O⟩
noncomputable def jc:D->List D->Mem->QD->Prop:=fun x ds M Q => ∃ a xs y,x = .ref a/\ds=[y]/\M a=some (.lst xs)/\xs.length < sizeLine/\Q .non (af M a (.lst (xs++[y])))
noncomputable def zL:D->List D->Mem->QD->Prop:=fun x ds M Q => ∃ a xs,x = .ref a/\ds=[]/\M a=some (.lst xs)/\Q .non (af M a (.lst []))
noncomputable def uk:D->List D->Mem->QD->Prop:=fun x ds M Q => ∃ a xs,x = .ref a/\ds=[]/\M a=some (.lst xs)/\Q .non (af M a (.lst xs.reverse))
theorem gf:ko jc:=fun _ _ _ _ _ h ⟨a,xs,y,j,n,B,z,q⟩=>⟨a,xs,y,j,n,B,z,h _ _ q⟩
theorem xM {K:Frag} {M:Mem} {H:Hp} {Q:VK} {d:D} {v:V} {a:Addr} {o0:O} {ds:List D} {vs:List V} (rm:RM K M H) (m:M a=some o0) (rd:RDs K H ds vs) (r:RD K H d v) (q:KE' K M H Q d (af M a (.lst ds))) (w:fz (some o0)=false:=by rfl) :
 Q v (upd H a (.lst vs)):=by
 have st:Stab H (upd H a (.lst vs)):=rm.stabPut m w
 exact q v _ (Ext.put m w) (rm.put m ⟨vs,ar,rd.mono st⟩ w) (r.mono st)
theorem um {K:Frag} (v:V) (vs:List V) (H:Hp) (Q:VK) (h:lMt K jc v vs H Q):nI v vs H Q:=by
 obtain ⟨x,ds,M,rm,rx,rs,a,xs,y,rfl,rfl,e,z,q⟩:=h
 cases RD.ref_iff.mp rx
 obtain ⟨w,rfl,rw'⟩:=rs.one
 obtain ⟨us,j,ru⟩:=rm _ _ e
 exact ⟨a,us,w,rfl,rfl,j,by rw [ru.length];exact z,xM rm e (ru.append (RDs.cons rw' RDs.nil)) (RD.non_iff.mpr rfl) q⟩
noncomputable abbrev BT:=D->aq->Option aq
noncomputable abbrev BTs:=List D->aq->Option aq
noncomputable def bI (i:Nat):BT:=fun d ρ => some (ρ.set i (some d))
noncomputable def fb:BTs:=fun ds ρ => match ds with | [] => some ρ | _=>none
noncomputable def bD (b:BT) (bs:BTs):BTs:=fun ds ρ => match ds with | d::r=>(b d ρ).bind fun ρ'=>bs r ρ' | [] => none
noncomputable def lp (bs:BTs):BT:=fun d ρ => match d with | .tup ds=>bs ds ρ | _=>none
noncomputable def lG (K:Frag) (b:BT):TG:=fun v σ H Q => ∃ d ρ ρ',RD K H d v/\RS K H σ ρ /\ b d ρ = some ρ' /\ ∀ σ',RS K H σ' ρ'->Q σ' H
noncomputable def lGs (K:Frag) (b:BTs):TGs:=fun vs σ H Q => ∃ ds ρ ρ',RDs K H ds vs/\RS K H σ ρ /\ b ds ρ = some ρ' /\ ∀ σ',RS K H σ' ρ'->Q σ' H
theorem PG.imp {e:Expr} {t t':TG} (h:PG X e t) (i:∀ v σ H Q,t' v σ H Q->t v σ H Q):PG X e t':=fun pins s σ H v u Q I r q=>h pins s σ H v u Q I r (i _ _ _ _ q)
theorem PGs.imp {e:List Expr} {t t':TGs} (h:PGs X e t) (i:∀ v σ H Q,t' v σ H Q->t v σ H Q):PGs X e t':=fun pins s σ H v u Q I r q=>h pins s σ H v u Q I r (i _ _ _ _ q)
theorem xN {i:Nat} {x:Str} {pos:Pos} (j:X.N.Nodup) (hi:X.N[i]? = some x) (hx:Loc X.env.scope x) (hf:X.fn x=true∨X.env.scope.names.lookup x=some .local):PG X (.Name x pos) (lG X.K (bI i)) :=
 PG.imp (nF j hi hx hf) fun v σ H Q ⟨d, ρ, ρ',r,rs,e,q⟩=>by
  cases e
  exact q _ (rs.set i r)
theorem xO:PGs X [] (lGs X.K fb):=PGs.imp wN fun vs σ H Q ⟨ds, ρ, ρ',r,rs,e,q⟩=>by
 cases ds with
 | nil=>cases e;exact ⟨RDs.nil_iff.mp r,q σ rs⟩
 | cons _ _=>cases e
theorem uo {e:Expr} {es:List Expr} {b:BT} {bs:BTs} (h1:PG X e (lG X.K b)) (h2:PGs X es (lGs X.K bs)) (hs:(assignEach (e::es) X.env).map (·.2)=assign e X.env::(assignEach es X.env).map (·.2)) :
 PGs X (e::es) (lGs X.K (bD b bs)):=PGs.imp (tw h1 h2 hs) fun vs σ H Q ⟨ds, ρ, ρ',r,rs,e,q⟩=>by
 cases ds with
 | nil=>cases e
 | cons d ds =>
   obtain ⟨v,vr,rfl,n,z⟩:=RDs.cons_iff.mp r
   simp only [bD] at e
   cases j:b d ρ with
   | none=>rw [j] at e;cases e
   | some ρ1 =>
     rw [j] at e
     exact ⟨v,vr,rfl,d, ρ, ρ1,n,rs,j,fun σ' rs'=>⟨ds, ρ1, ρ',z,rs',e,q⟩⟩
theorem zM {es:List Expr} {k:Nat} {bs:BTs} {n:Nat} {pos:Pos} (z:X.calm=true) (hlen:∀ ds ρ ρ',bs ds ρ = some ρ'->ds.length=n) (h:PGs X es (lGs X.K bs)) (B:(assignEach es X.env).length=n) (j:(assignEach es X.env).findIdx? (·.1)=none) :
 PG X (.Tuple es k pos) (lG X.K (lp bs)):=PG.imp (yY z h B j) fun v σ H Q ⟨d, ρ, ρ',r,rs,e,q⟩=>by
 cases d with
 | tup ds =>
   obtain ⟨a,vs,rfl,F,rv⟩:=RD.tup_iff.mp r
   exact ⟨a,vs,rfl,SqT.of F,by rw [rv.length];exact hlen _ _ _ e,ds, ρ, ρ',rv,rs,e,q⟩
 | _=>cases e
noncomputable abbrev TId:=aq->Mem->(List D->(Mem->Prop)->Mem->Prop)->Prop
noncomputable def bJ (T:TId):Prop := ∀ ρ M Q Q',(∀ xs c M',Q xs c M'->Q' xs c M')->T ρ M Q->T ρ M Q'
noncomputable def Yl (H H':Hp):Prop:=H'=H ∨ ∃ q vs,H q=none/\H'=upd H q (.tup vs)
noncomputable def fe (K:Frag) (H1:Hp) (xs:List D) (chk:Mem->Prop) (J:It):Prop := ∀ M H,Stab H1 H->RM K M H->chk M -> ∀ i,(xs.length<=i->J.stop i H)/\(i < xs.length->J.go i H /\
 ∀ x H',J.yld i H x H'->Yl H H' /\ ∃ d,xs[i]? = some d/\RD K H' d x)
noncomputable def lI (K:Frag) (T:TId):TI:=fun σ H R => ∃ ρ M,RS K H σ ρ /\ RM K M H/\T ρ M (fun xs chk M1 => ∀ J H1,Ext M H M1 H1->RM K M1 H1->fe K H1 xs chk J->R J H1)
theorem PI.imp {tg e:Expr} {t t':TI} (h:PI X tg e t) (i:∀ σ H Q,t' σ H Q->t σ H Q):PI X tg e t':=fun pins s σ H Q I q=>h pins s σ H Q I (i _ _ _ q)
theorem Yl.ext {K:Frag} {M:Mem} {H H':Hp} (rm:RM K M H) (y:Yl H H'):Ext M H M H'/\RM K M H':=by
 rcases y with rfl | ⟨q,vs,n,rfl⟩
 ·exact ⟨Ext.refl,rm⟩
 ·exact ⟨Ext.new' n,rm.new n⟩
noncomputable def BH (K:Frag) (tl:TE):TI:=fun σ H R=>tl σ H fun x H1 => ∃ a,x = .ref a/\(((∃ xs,SqL K H1 a xs)/\R (Itl K a) H1)∨((∃ xs,SqT K H1 a xs)/\R (Itt K a) H1))
theorem zN {tg l:Expr} {tl:TE} (hl:PE X l tl):PI X tg l (BH X.K tl):=by
 intro pins s σ H R I h
 refine thn (hl pins s σ H _ I h) fun v s1 ⟨x,H1,j,z,B⟩ => ?_
 obtain ⟨a,e,q⟩:=B
 subst e
 cases z
 rcases q with ⟨⟨xs,n⟩,q⟩ | ⟨⟨xs,n⟩,q⟩
 ·obtain ⟨its,rv,p,F⟩:=j.list n
  refine wpAny_pyIter_list p.isList ?_
  refine ⟨s1.heap.objs.size,[s1.heap.objs.size],_,_,H1,rfl,j.kept (t':=s1.toks) fun b o e=>Heap.get?_push_of_some _ e,qq a _,⟨_,Heap.get?_push_size _ rfl,rfl,rfl⟩,fun b hb => ?_,q⟩
  have e:b=s1.heap.objs.size:=by simpa using hb
  subst e
  exact j.fpOk (Nat.le_refl _) (j.hok.fresh (Nat.le_refl _))
 ·obtain ⟨its,rv,p,F⟩:=j.tuple n
  refine wpAny_pyIter_tuple (show s1.heap.IsTuple a its.toArray from p) ?_
  refine ⟨s1.heap.objs.size,[s1.heap.objs.size],_,_,H1,rfl,j.kept (t':=s1.toks) fun b o e=>Heap.get?_push_of_some _ e,oP a _,⟨_,Heap.get?_push_size _ rfl,rfl,rfl⟩,fun b hb => ?_,q⟩
  have e:b=s1.heap.objs.size:=by simpa using hb
  subst e
  exact j.fpOk (Nat.le_refl _) (j.hok.fresh (Nat.le_refl _))
noncomputable def lq (ta:TEd):TId:=fun ρ M R=>ta ρ M fun x M1 => ∃ ds,aC M1 x=some ds/\R ds (fun M=>aC M x=some ds) M1
theorem uq {ta:TEd} (h:ab ta):bJ (lq ta):=fun ρ M Q Q' i q=>h _ _ _ _ (fun x n ⟨ds,e,j⟩=>⟨ds,e,i _ _ _ j⟩) q
theorem r8 {K:Frag} {H1:Hp} {a:Addr} {ds:List D} {chk:Mem->Prop} (h:∀ M H,Stab H1 H->RM K M H->chk M -> ∃ vs,SqL K H a vs/\RDs K H ds vs):fe K H1 ds chk (Itl K a):=fun M H st rm c i=>by
 obtain ⟨vs,sq,r⟩:=h M H st rm c
 have l:=r.length
 refine ⟨fun hi=>⟨vs,sq,by lia⟩,fun hi=>⟨⟨vs,vs[i]'(by lia),sq,List.getElem?_eq_getElem (by lia)⟩,fun x H' y => ?_⟩⟩
 obtain ⟨e,y⟩:=y
 subst e
 exact ⟨.inl rfl,r.getV (y vs sq)⟩
theorem zO {K:Frag} {H1:Hp} {a:Addr} {ds:List D} {chk:Mem->Prop} (h:∀ M H,Stab H1 H->RM K M H->chk M -> ∃ vs,SqT K H a vs/\RDs K H ds vs):fe K H1 ds chk (Itt K a):=fun M H st rm c i=>by
 obtain ⟨vs,sq,r⟩:=h M H st rm c
 have l:=r.length
 refine ⟨fun hi=>⟨vs,sq,by lia⟩,fun hi=>⟨⟨vs,vs[i]'(by lia),sq,List.getElem?_eq_getElem (by lia)⟩,fun x H' y => ?_⟩⟩
 obtain ⟨e,y⟩:=y
 subst e
 exact ⟨.inl rfl,r.getV (y vs sq)⟩
theorem zP {tg l:Expr} {ta:TEd} (m:ab ta) (hl:PE X l (lE X.K ta)):PI X tg l (lI X.K (lq ta)):=by
 refine PI.imp (zN hl) fun σ H R h => ?_
 obtain ⟨ρ,M,rs,rm,q⟩:=h
 refine ⟨ρ,M,rs,rm,m _ _ _ _ (fun x F ⟨ds,e,z⟩ v H1 B j rd1 => ?_) q⟩
 cases x with
 | tup es =>
   cases e
   obtain ⟨a,vs,rfl,n,rv⟩:=RD.tup_iff.mp rd1
   exact ⟨a,rfl, .inr ⟨⟨vs,SqT.of n⟩,z _ H1 B j (zO fun M' H' st _ _=>⟨vs,SqT.of (st.tup _ _ n),rv.mono st⟩)⟩⟩
 | con es =>
   cases e
   obtain ⟨a,vs,rfl,n,rv⟩:=RD.con_iff.mp rd1
   exact ⟨a,rfl, .inl ⟨⟨vs,n.sq⟩,z _ H1 B j (r8 fun M' H' st _ _=>⟨vs,(st.sqF n).sq,rv.mono st⟩)⟩⟩
 | ref a =>
   cases RD.ref_iff.mp rd1
   have get:∀ {M':Mem} {es:List D},aC M' (.ref a)=some es->M' a=some (.lst es):=fun {M' es} e=>by
    simp only [aC] at e
    cases e0:M' a with
    | none=>rw [e0] at e;cases e
    | some o =>
      rw [e0] at e
      cases o with
      | dct _ _=>cases e
      | fdc _=>cases e
      | lst es'=>cases e;rfl
   obtain ⟨vs,n,rv⟩:=j _ _ (get e)
   exact ⟨a,rfl, .inl ⟨⟨vs,SqL.of n⟩,z _ H1 B j (r8 fun M' H' st rm' c=>by
    obtain ⟨us,hb,ru⟩:=rm' _ _ (get c)
    exact ⟨us,SqL.of hb,ru⟩)⟩⟩
 | _=>cases e
noncomputable def cV (lo:Int) (n:Nat):List D:=(List.range n).map fun i => .int (lo+(i:Nat))
theorem zQ {K:Frag} {H1:Hp} {lo:Int} {n:Nat}:fe K H1 (cV lo n) (fun _=>True) (Itr lo n):=fun M H st rm c i=>by
 have l:(cV lo n).length=n:=by simp [cV]
 refine ⟨fun hi=>by show n<=i;lia,fun hi=>⟨by show i < n;lia,fun x H' y => ?_⟩⟩
 obtain ⟨e,y⟩:=y
 subst e y
 refine ⟨.inl rfl, .int (lo+i), ?_,RD.int_iff.mpr rfl⟩
 simp only [cV,List.getElem?_map,List.getElem?_range (show i < n by lia),Option.map_some]
noncomputable def iw (ta:TAd):TId:=fun ρ M R=>ta ρ M fun ds M1 => ∃ j:Int,ds=[.int j] /\ -(2 ^ 62)<=j/\j < 2 ^ 62/\R (cV 0 j.toNat) (fun _=>True) M1
theorem r9 {ta:TAd} (h:bb ta):bJ (iw ta):=fun ρ M Q Q' i q=>h _ _ _ _ (fun x z ⟨j,e,a,b,n⟩=>⟨j,e,a,b,i _ _ _ n⟩) q
theorem xP {tg a:Expr} {ta:TAd} {p pos:Pos} (m:bb ta) (z:Gl X "range") (hm:X.mg "range" = none) (B:PA X [a] (lA X.K ta)) (hs:starEach [a] X.env=[(false,eval a X.env)]):PI X tg (.Call (.Name "range" p) [a] [] pos) (lI X.K (iw ta)):=by
 refine PI.imp (qr z hm B hs) fun σ H R h => ?_
 obtain ⟨ρ,M,rs,rm,q⟩:=h
 refine ⟨ρ,M,rs,rm,m _ _ _ _ (fun ds L ⟨j,e,F,G,I⟩ vs H1 J n rd1 => ?_) q⟩
 subst e
 obtain ⟨v,rfl,r⟩:=rd1.one
 cases RD.int_iff.mp r
 exact ⟨j,rfl,F,G,I _ H1 J n zQ⟩
end
end
section
section
variable {X:Cx}
noncomputable def isT:D->Bool | .tup _=>true | _=>false
theorem dP {K:Frag} {M:Mem} {H:Hp} {x:D} {ds:List D} {v:V} (rm:RM K M H) (r:RD K H x v) (e:aC M x=some ds):∃ p vs,v = .ref p/\SqV K (isT x) H p vs/\RDs K H ds vs:=by
 cases x with
 | tup es =>
   cases e
   obtain ⟨a,vs,rfl,j,rv⟩:=RD.tup_iff.mp r
   exact ⟨a,vs,rfl,SqT.of j,rv⟩
 | con es =>
   cases e
   obtain ⟨a,vs,rfl,j,rv⟩:=RD.con_iff.mp r
   exact ⟨a,vs,rfl,j.sq,rv⟩
 | ref a =>
   cases RD.ref_iff.mp r
   simp only [aC] at e
   cases e0:M a with
   | none=>rw [e0] at e;cases e
   | some o =>
     rw [e0] at e
     cases o with
     | dct _ _=>cases e
     | fdc _=>cases e
     | lst es =>
       cases e
       obtain ⟨vs,j,rv⟩:=rm _ _ e0
       exact ⟨a,vs,rfl,SqL.of j,rv⟩
 | _=>cases e
noncomputable def kr (x y:D):D := .tup [x,y]
noncomputable def lr (ta tb:TEd):TId:=fun ρ M R=>be ta (be tb bV) ρ M fun ds M1 => ∃ x y xs ys,ds=[x,y]/\aC M1 x=some xs/\aC M1 y=some ys/\R (List.zipWith kr xs ys) (fun M=>aC M x=some xs/\aC M y=some ys) M1
theorem ut {ta tb:TEd} (j:ab ta) (hb:ab tb):bJ (lr ta tb):=fun ρ M Q Q' i q=>aG j (aG hb aI) _ _ _ _ (fun ds F ⟨x,y,xs,ys,e,n,z,B⟩=>⟨x,y,xs,ys,e,n,z,i _ _ _ B⟩) q
theorem ls {H:Hp} {p:Addr} {o:HO} (n:H p=none):Stab H (upd H p o):=⟨fun a xs e=>by rw [aj (fun z=>by rw [z,n] at e;cases e)];exact e,fun a o u e=>by rw [aj (fun z=>by rw [z,n] at e;cases e)];exact e⟩
theorem zR {K:Frag} {H1:Hp} {x y:D} {xs ys:List D} {a b:Addr} (rx:RD K H1 x (.ref a)) (ry:RD K H1 y (.ref b)):fe K H1 (List.zipWith kr xs ys) (fun M=>aC M x=some xs/\aC M y=some ys) (Itz K (isT x) (isT y) a b):=fun M H st rm c i=>by
 obtain ⟨R,vs,J,j,G⟩:=dP rm (rx.mono st) c.1
 obtain ⟨p2,us,L,q,I⟩:=dP rm (ry.mono st) c.2
 cases J
 cases L
 have l1:=G.length
 have l2:=I.length
 have lz:(List.zipWith kr xs ys).length=min xs.length ys.length:=List.length_zipWith
 refine ⟨fun hi=>⟨vs,us,j,q,by lia⟩,fun hi=>⟨⟨vs,us,vs[i]'(by lia),us[i]'(by lia),j,q,List.getElem?_eq_getElem (by lia),List.getElem?_eq_getElem (by lia)⟩,fun v H' O => ?_⟩⟩
 obtain ⟨p,v1,v2,n,rfl,rfl,g⟩:=O
 obtain ⟨g1,g2⟩:=g vs us j q
 obtain ⟨d1,z,B⟩:=G.getV g1
 obtain ⟨d2,hd2,F⟩:=I.getV g2
 have sb:=ls (o := .tup [v1,v2]) n
 refine ⟨.inr ⟨p,[v1,v2],n,rfl⟩, .tup [d1,d2], ?_,RD.tup_iff.mpr ⟨p,[v1,v2],rfl,ar,RDs.cons (B.mono sb) (RDs.cons (F.mono sb) RDs.nil)⟩⟩
 rw [List.getElem?_zipWith,z,hd2];rfl
theorem zS {elts:List Expr} {cx} {pos p pos':Pos} {a b:Expr} {ta tb:TEd} (ma:ab ta) (mb:ab tb) (F:Gl X "zip") (hm:X.mg "zip" = none) (G:PA X [a,b] (lA X.K (be ta (be tb bV)))) (hs:starEach [a,b] X.env=[(false,eval a X.env),(false,eval b X.env)]) (n:starEach [b] X.env=[(false,eval b X.env)]) :
 PI X (.Tuple elts cx pos) (.Call (.Name "zip" p) [a,b] [] pos') (lI X.K (lr ta tb)):=by
 refine PI.imp (zw F hm G hs n) fun σ H R h => ?_
 obtain ⟨ρ,M,rs,rm,q⟩:=h
 refine ⟨ρ,M,rs,rm,aG ma (aG mb aI) _ _ _ _ (fun ds U ⟨x,y,xs,ys,e,I,J,L⟩ vs H1 O j rd1 => ?_) q⟩
 subst e
 obtain ⟨v,u,rfl,z,B⟩:=rd1.two
 obtain ⟨S,vs,rfl,s1,_⟩:=dP j z I
 obtain ⟨p2,us,rfl,s2,_⟩:=dP j B J
 exact ⟨S,p2,isT x,isT y,vs,us,rfl,s1,s2,L _ H1 O j (zR z B)⟩
end
end
section
section
variable {X:Cx}
noncomputable def eA (xs:List D):List D:=xs.mapIdx fun i x => .tup [.int (i:Nat),x]
noncomputable def iy (ta:TEd):TId:=fun ρ M R=>ta ρ M fun x M1 => ∃ xs,aC M1 x=some xs/\R (eA xs) (fun M=>aC M x=some xs) M1
theorem rf {ta:TEd} (h:ab ta):bJ (iy ta):=fun ρ M Q Q' i q=>h _ _ _ _ (fun x n ⟨ds,e,j⟩=>⟨ds,e,i _ _ _ j⟩) q
theorem zT {K:Frag} {H1:Hp} {x:D} {xs:List D} {a:Addr} (rx:RD K H1 x (.ref a)):fe K H1 (eA xs) (fun M=>aC M x=some xs) (Ite K (isT x) a):=fun M H st rm c i=>by
 obtain ⟨I,vs,F,j,B⟩:=dP rm (rx.mono st) c
 cases F
 have l1:=B.length
 have lz:(eA xs).length=xs.length:=by simp [eA]
 refine ⟨fun hi=>⟨vs,j,by lia⟩,fun hi=>⟨⟨vs,vs[i]'(by lia),j,List.getElem?_eq_getElem (by lia)⟩,fun v H' G => ?_⟩⟩
 obtain ⟨p,v1,n,rfl,rfl,g⟩:=G
 obtain ⟨d1,q,z⟩:=B.getV (g vs j)
 have sb:=ls (o := .tup [.int (i:Nat),v1]) n
 refine ⟨.inr ⟨p,[.int (i:Nat),v1],n,rfl⟩, .tup [.int (i:Nat),d1], ?_,RD.tup_iff.mpr ⟨p,[.int (i:Nat),v1],rfl,ar,RDs.cons (RD.int_iff.mpr rfl) (RDs.cons (z.mono sb) RDs.nil)⟩⟩
 simp [eA,List.getElem?_mapIdx,q]
theorem xQ {elts:List Expr} {cx} {pos p pos':Pos} {a:Expr} {ta:TEd} (ma:ab ta) (z:Gl X "enumerate") (hm:X.mg "enumerate" = none) (B:PA X [a] (lA X.K (be ta bV))) (hs:starEach [a] X.env=[(false,eval a X.env)]) :
 PI X (.Tuple elts cx pos) (.Call (.Name "enumerate" p) [a] [] pos') (lI X.K (iy ta)):=by
 refine PI.imp (xh z hm B hs) fun σ H R h => ?_
 obtain ⟨ρ,M,rs,rm,q⟩:=h
 refine ⟨ρ,M,rs,rm,ma _ _ _ _ (fun x L ⟨xs,F,G⟩ vs H1 I j rd1 => ?_) q⟩
 obtain ⟨v,rfl,n⟩:=rd1.one
 obtain ⟨J,us,rfl,s1,_⟩:=dP j n F
 exact ⟨J,isT x,us,rfl,s1,G _ H1 I j (zT n)⟩
end
end
section
noncomputable abbrev NC:=aq->Mem->List D->Prop
noncomputable abbrev TCd:=aq->Mem->List D->NC->Prop
noncomputable def bE (T:TCd):Prop := ∀ ρ M acc N N',(∀ ρ' M' acc',N ρ' M' acc'->N' ρ' M' acc')->T ρ M acc N->T ρ M acc N'
structure ExtP (p:Addr) (M:Mem) (H:Hp) (M':Mem) (H':Hp):Prop where
 kp:∀ a o,a≠p->fz (M a)=true->H a=some o->H' a=some o
 nw:∀ a o,fz (M a)=true->H a=some o->M' a=M a
section
variable {K:Frag} {M M' M'':Mem} {H H' H'':Hp} {p:Addr}
theorem ExtP.new (x:ExtP p M H M' H') (a:Addr) (o:HO) (n:M a=none) (e:H a=some o):M' a=none:=(x.nw a o (by rw [n];rfl) e).trans n
theorem Ext.toP (x:Ext M H M' H'):ExtP p M H M' H':=⟨fun a o _=>x.kp a o,x.nw⟩
theorem ExtP.refl:ExtP p M H M H:=⟨fun _ _ _ _ h=>h,fun _ _ _ _=>rfl⟩
theorem ExtP.trans {vs:List V} (a:ExtP p M H M' H') (q:H p=some (.lst vs)) (j:∃ vs',H' p=some (.lst vs')) (b:ExtP p M' H' M'' H''):ExtP p M H M'' H'' :=
 ⟨fun c o ne n h=>b.kp c o ne (by rw [a.nw c o n h];exact n) (a.kp c o ne n h),fun c o n h=>by
   have n':fz (M' c)=true:=by rw [a.nw c o n h];exact n
   refine Eq.trans ?_ (a.nw c o n h)
   by_cases z:c=p
   ·subst z
    obtain ⟨vs',e⟩:=j
    exact b.nw c _ n' e
   ·exact b.nw c o n' (a.kp c o z n h)⟩
theorem ExtP.stab {vs:List V} (r:RM K M H) (j:H p=some (.lst vs)) (x:ExtP p M H M' H'):Stab H H' where
 tup:=fun a xs e=>x.kp a _ (fun z=>by subst z;rw [j] at e;cases e) (by rw [r.fzT e];rfl) e
 frz:=fun a o u e=>x.kp a _ (fun z=>by subst z;rw [j] at e;cases e) (r.fzF e) e
theorem lu {vs:List V} {ho:HO} (j:H p=some (.lst vs)):Stab H (upd H p ho) :=
 ⟨fun a xs e=>by rw [aj (fun z=>by subst z;rw [j] at e;cases e)];exact e,fun a o u e=>by rw [aj (fun z=>by subst z;rw [j] at e;cases e)];exact e⟩
theorem RM.side {vs:List V} {ho:HO} (r:RM K M H) (n:M p=none) (j:H p=some (.lst vs)):RM K M (upd H p ho):=fun a o e=>by
 have ne:a≠p:=fun z=>by subst z;rw [n] at e;cases e
 exact (r a o e).mono (lu j) fun B q=>by rw [aj ne];exact q
end
noncomputable def fN (K:Frag) (H:Hp) (p:Addr) (acc:List D):Prop := ∃ vs,H p=some (.lst vs)/\RDs K H acc vs
noncomputable def KC (K:Frag) (p:Addr) (M:Mem) (H:Hp) (N:St->Hp->Prop):NC:=fun ρ' M' acc' => ∀ σ' H',ExtP p M H M' H'->RS K H' σ' ρ'->RM K M' H'->fN K H' p acc'->N σ' H'
noncomputable def lC (K:Frag) (p:Addr) (T:TCd):TC:=fun σ H N => ∃ ρ M acc,RS K H σ ρ /\ RM K M H/\M p=none/\fN K H p acc/\T ρ M acc (KC K p M H N)
theorem KC.ext {K:Frag} {p:Addr} {M M2 M':Mem} {H H2:Hp} {N:St->Hp->Prop} {ρ:aq} {acc:List D} {vs:List V} (n:H p=some (.lst vs)) (j:∃ vs',H2 p=some (.lst vs')) (x:ExtP p M H M2 H2) (h:KC K p M H N ρ M' acc):KC K p M2 H2 N ρ M' acc :=
 fun σ' H' y=>h σ' H' (x.trans n j y)
noncomputable def dq (te:TEd):TCd:=fun ρ M acc N=>te ρ M fun x M1=>acc.length < sizeLine/\N ρ M1 (acc++[x])
noncomputable def bf:List TTd->TCd->TCd
 | [],tb=>tb
 | t::r,tb=>fun ρ M acc N=>t ρ M fun b M1=>if b=true then bf r tb ρ M1 acc N else N ρ M1 acc
noncomputable def ci (b:BT) (tb:TCd) (chk:Mem->Prop) (N:NC):List D->NC
 | [] => fun ρ M acc=>chk M/\N ρ M acc
 | x::xs=>fun ρ M acc=>chk M /\ ∃ ρ',b x ρ = some ρ'/\tb ρ' M acc (ci b tb chk N xs)
noncomputable def cM (src:TId) (b:BT) (tb:TCd):TCd:=fun ρ M acc N=>src ρ M fun xs chk M1=>ci b tb chk N xs ρ M1 acc
noncomputable def fO (fr:List (Option Nat)) (src:TId) (b:BT) (tb:TCd):TEd:=fun ρ M Q=>src ρ M fun xs chk M1=>ci b tb chk (fun _ M' acc => ∀ p,M' p=none->Q (.ref p) (af M' p (.lst acc))) xs (j7 fr ρ) M1 []
theorem bm {te:TEd} (h:ab te):bE (dq te):=fun ρ M acc N N' i q=>h _ _ _ _ (fun x n ⟨z,j⟩=>⟨z,i _ _ _ j⟩) q
theorem aM {tb:TCd} (hb:bE tb):∀ {ts:List TTd},(∀ t∈ts,aD t)->bE (bf ts tb)
 | [],_=>hb
 | t::r,h=>fun ρ M acc N N' i q=>h t List.mem_cons_self _ _ _ _ (fun b z j=>by
   cases b with
   | true=>rw [if_pos rfl] at j ⊢;exact aM hb (fun t' n=>h t' (List.mem_cons_of_mem _ n)) _ _ _ _ _ i j
   | false=>rw [if_neg Bool.false_ne_true] at j ⊢;exact i _ _ _ j) q
theorem fg {b:BT} {tb:TCd} (hb:bE tb) {chk:Mem->Prop} {N N':NC} (i:∀ ρ' M' acc',N ρ' M' acc'->N' ρ' M' acc'):∀ (xs:List D) (ρ:aq) (M:Mem) (acc:List D),ci b tb chk N xs ρ M acc->ci b tb chk N' xs ρ M acc
 | [], ρ,M,acc,h=>⟨h.1,i _ _ _ h.2⟩
 | x::xs, ρ,M,acc,⟨c, ρ',e,q⟩=>⟨c, ρ',e,hb _ _ _ _ _ (fun ρ2 M2 j n=>fg hb i xs ρ2 M2 j n) q⟩
theorem gh {src:TId} {b:BT} {tb:TCd} (hs:bJ src) (hb:bE tb):bE (cM src b tb):=fun ρ M acc N N' i q=>hs _ _ _ _ (fun xs c n j=>fg hb i xs _ _ _ j) q
theorem jH {fr:List (Option Nat)} {src:TId} {b:BT} {tb:TCd} (hs:bJ src) (hb:bE tb):ab (fO fr src b tb):=fun ρ M Q Q' i q =>
 hs _ _ _ _ (fun xs c B j=>fg hb (fun _ M' acc z p n=>i _ _ (z p n)) xs _ _ _ j) q
section
variable {K:Frag} {p:Addr}
theorem fh {te:TEd} (m:ab te) (σ:St) (H:Hp) (N:St->Hp->Prop) (h:lC K p (dq te) σ H N):w6 p (lE K te) σ H N:=by
 obtain ⟨ρ,M,acc,rs,rm,n,⟨vs,J,ra⟩,q⟩:=h
 refine ⟨ρ,M,rs,rm,m _ _ _ _ (fun x R ⟨z,L⟩ v H1 F G I => ?_) q⟩
 have j:=F.keep p _ n J
 have O:=F.new p _ n J
 have st:=F.stab rm
 have B:Stab H1 (upd H1 p (.lst (vs++[v]))):=lu j
 refine ⟨vs,j,by rw [ra.length];exact z,L σ _ ⟨fun a o ne m' e => ?_,F.nw⟩ ((rs.mono st).mono B) (G.side O j) ⟨vs++[v],ar,((ra.mono st).mono B).append (RDs.cons (I.mono B) RDs.nil)⟩⟩
 rw [aj ne]
 exact F.kp a o m' e
theorem iz {tb:TCd} (mb:bE tb):∀ {ts:List TTd},(∀ t∈ts,aD t) -> ∀ (σ:St) (H:Hp) (N:St->Hp->Prop),lC K p (bf ts tb) σ H N->i5 (ts.map (lT K)) (lC K p tb) σ H N
 | [],_, σ,H,N,h=>h
 | t::r,hm, σ,H,N,h=>by
   obtain ⟨ρ,M,acc,rs,rm,n,⟨vs,G,ra⟩,q⟩:=h
   refine ⟨ρ,M,rs,rm,hm t List.mem_cons_self _ _ _ _ (fun b J F H1 z B => ?_) q⟩
   have j:=z.keep p _ n G
   have L:=z.new p _ n G
   have st:=z.stab rm
   cases b with
   | false =>
     rw [if_neg Bool.false_ne_true] at F
     dsimp only
     rw [if_neg Bool.false_ne_true]
     exact F σ H1 z.toP (rs.mono st) B ⟨vs,j,ra.mono st⟩
   | true =>
     rw [if_pos rfl] at F
     dsimp only
     rw [if_pos rfl]
     exact iz mb (fun t' I=>hm t' (List.mem_cons_of_mem _ I)) σ H1 N ⟨ρ,J,acc,rs.mono st,B,L,⟨vs,j,ra.mono st⟩,
      aM mb (fun t' I=>hm t' (List.mem_cons_of_mem _ I)) _ _ _ _ _ (fun ρ' M' acc' k=>k.ext G ⟨vs,j⟩ z.toP) F⟩
theorem jI {b:BT} {tb:TCd} (mb:bE tb) {xs:List D} {chk:Mem->Prop} {J:It} {H1:Hp} {B:Mem} {Nd:NC} {N:St->Hp->Prop} {σ:St} {ρ:aq} {acc:List D} (it:fe K H1 xs chk J) (rs:RS K H1 σ ρ) (rm:RM K B H1) (n:B p=none)
 (ac:fN K H1 p acc) (q:ci b tb chk Nd xs ρ B acc) (Z:∀ ρ' M' acc' σ' H',ExtP p B H1 M' H'->RS K H' σ' ρ'->RM K M' H'->fN K H' p acc'->Nd ρ' M' acc'->N σ' H') :
 bT J (lG K b) (lC K p tb) N σ H1:=by
 obtain ⟨BP,F,_⟩:=id ac
 refine ⟨fun i m σ H=>m=xs.length - i/\i<=xs.length /\ ∃ ρ M acc,RS K H σ ρ /\ RM K M H/\M p=none/\fN K H p acc/\ExtP p B H1 M H/\ci b tb chk Nd (xs.drop i) ρ M acc,⟨xs.length,by simp,Nat.zero_le _, ρ,B,acc,rs,rm,n,ac,ExtP.refl,q⟩, ?_⟩
 rintro i m σ H ⟨rfl,hi, ρ,M,acc,rs,j,n,ac,x,q⟩
 have st:=x.stab rm F
 obtain ⟨vs,U,ra⟩:=id ac
 by_cases z:i < xs.length
 ·rw [List.drop_eq_getElem_cons z] at q
  obtain ⟨c, ρ',hb,q⟩:=q
  obtain ⟨go,yl⟩:=(it M H st j c i).2 z
  refine .inr ⟨go,fun σ' H' => ∃ m',m' < xs.length - i/\(m'=xs.length - (i+1)/\i+1<=xs.length /\ ∃ ρ M acc,RS K H' σ' ρ /\ RM K M H'/\M p=none/\fN K H' p acc/\ExtP p B H1 M H'/\ci b tb chk Nd (xs.drop (i+1)) ρ M acc),fun σ' H' h=>h,fun x' H' y => ?_⟩
  obtain ⟨yy,d,hd,rd⟩:=yl x' H' y
  rw [List.getElem?_eq_getElem z] at hd
  cases hd
  obtain ⟨xy,rmy⟩:=yy.ext j
  have sty:=xy.stab j
  have G:=xy.keep p _ n U
  refine ⟨_, ρ, ρ',rd,rs.mono sty,hb,fun σ2 L => ?_⟩
  refine ⟨ρ',M,acc,L,rmy,n,⟨vs,G,ra.mono sty⟩,mb _ _ _ _ _ (fun ρ3 Y I q3 σ3 H3 x3 O R S => ?_) q⟩
  have n3:Y p=none:=x3.new p _ n G
  exact ⟨xs.length - (i+1),by lia,rfl,z, ρ3,Y,I,O,R,n3,S,(x.trans F ⟨vs,U⟩ xy.toP).trans F ⟨vs,G⟩ x3,q3⟩
 ·have e:i=xs.length:=by lia
  subst e
  rw [List.drop_length] at q
  exact .inl ⟨(it M H st j q.1 _).1 (Nat.le_refl _),Z ρ M acc σ H x rs j ac q.2⟩
theorem gi {src:TId} {b:BT} {tb:TCd} (ms:bJ src) (mb:bE tb) (σ:St) (H:Hp) (N:St->Hp->Prop) (h:lC K p (cM src b tb) σ H N):(lI K src) σ H fun J H1=>bT J (lG K b) (lC K p tb) N σ H1:=by
 obtain ⟨ρ,M,acc,rs,rm,n,⟨vs,B,ra⟩,q⟩:=h
 refine ⟨ρ,M,rs,rm,ms _ _ _ _ (fun xs chk L G J H1 z F it => ?_) q⟩
 have j:=z.keep p _ n B
 have I:=z.new p _ n B
 have st:=z.stab rm
 exact jI mb it (rs.mono st) F I ⟨vs,j,ra.mono st⟩ G fun ρ' M' acc' σ' H' x2 rs' rm' ac' k=>k σ' H' (z.toP.trans B ⟨vs,j⟩ x2) rs' rm' ac'
theorem dr {fr:List (Option Nat)} {src:TId} {b:BT} {tb:TCd} (ms:bJ src) (mb:bE tb) (σ:St) (H:Hp) (Q:VK) (h:lE K (fO fr src b tb) σ H Q):pe (lI K src) (lG K b) (fun p=>lC K p tb) fr σ H Q:=by
 obtain ⟨ρ,M,rs,rm,q⟩:=h
 refine ⟨ρ,M,rs,rm,ms _ _ _ _ (fun xs chk G O J H1 F j it p n => ?_) q⟩
 have st:=F.stab rm
 have xn:Ext G H1 G (upd H1 p (.lst [])):=Ext.new' n
 have stn:=xn.stab j
 have L:G p=none:=j.out n
 refine jI (p:=p) mb (xs:=xs) (chk:=chk) (fun M' H' st'=>it M' H' ⟨fun a xs e=>st'.tup _ _ (stn.tup _ _ e),fun a o u e=>st'.frz _ _ _ (stn.frz _ _ _ e)⟩) (((rs.mono st).mono stn).inh fr) (j.new n) L ⟨[],ar,RDs.nil⟩ O fun ρ' M' acc' σ' H' I rs' rm' ac' k => ?_
 obtain ⟨vs,R,ra⟩:=ac'
 have n':M' p=none:=I.new p _ L ar
 refine k p n' (.ref p) H' ⟨fun a o m e => ?_,fun a o m e => ?_⟩ (fun a o e => ?_) (RD.ref_iff.mpr rfl)
 ·have B:=F.kp a o m e
  have ne:a≠p:=fun z=>by subst z;rw [n] at B;cases B
  exact I.kp a o ne (by rw [F.nw a o m e];exact m) (by rw [aj ne];exact B)
 ·have B:=F.kp a o m e
  have ne:a≠p:=fun z=>by subst z;rw [n] at B;cases B
  rw [av ne]
  exact (I.nw a o (by rw [F.nw a o m e];exact m) (by rw [aj ne];exact B)).trans (F.nw a o m e)
 ·by_cases z:a=p
  ·subst z
   rw [ad] at e;cases e
   exact ⟨vs,R,ra⟩
  ·rw [av z] at e
   exact rm' a o e
end
end
section
noncomputable def fP:TSd:=fun D ρ M=>D.nx ρ M
noncomputable def lw (t u:TSd):TSd:=fun D ρ M=>t { D with nx:=u D } ρ M
noncomputable def fi:TSd:=fun D ρ M=>D.bk ρ M
noncomputable def iA:TSd:=fun D ρ M=>D.ct ρ M
noncomputable def iB (te:TEd):TSd:=fun D ρ M=>te ρ M fun _ M1=>D.nx ρ M1
noncomputable def lB (te:TEd):TSd:=fun D ρ M=>te ρ M D.rt
noncomputable def sIf (c:TTd) (t u:TSd):TSd:=fun D ρ M=>c ρ M fun b M1=>if b=true then t D ρ M1 else u D ρ M1
noncomputable def gA (te:TEd) (b:BT):TSd:=fun D ρ M=>te ρ M fun x M1 => ∃ ρ',b x ρ = some ρ'/\D.nx ρ' M1
noncomputable def lD (ta:TAd) (bs:BTs):TSd:=fun D ρ M=>ta ρ M fun xs M1 => ∃ ρ',bs xs ρ = some ρ'/\D.nx ρ' M1
noncomputable def bv (b:BT) (tb:TSd) (chk:Mem->Prop) (D:ba):List Mi.D->aq->Mem->Prop
 | [] => fun ρ M=>chk M/\D.nx ρ M
 | x::xs=>fun ρ M=>chk M /\ ∃ ρ',b x ρ = some ρ'/\tb { D with nx:=bv b tb chk D xs,ct:=bv b tb chk D xs,bk:=D.nx } ρ' M
noncomputable def lF (src:TId) (b:BT) (tb:TSd):TSd:=fun D ρ M=>src ρ M fun xs chk M1=>bv b tb chk D xs ρ M1
noncomputable def b7 (c:TTd) (tb:TSd) (D:ba):Nat->aq->Mem->Prop
 | 0=>fun _ _=>False
 | n+1=>fun ρ M=>c ρ M fun b M1=>if b=true then tb { D with nx:=b7 c tb D n,ct:=b7 c tb D n,bk:=D.nx } ρ M1 else D.nx ρ M1
noncomputable def fj (c:TTd) (tb:TSd):TSd:=fun D ρ M => ∃ n,b7 c tb D n ρ M
theorem jJ:aE fP:=fun _ _ _ _ h q=>h.nx _ _ q
theorem pF:aE fi:=fun _ _ _ _ h q=>h.bk _ _ q
theorem rg:aE iA:=fun _ _ _ _ h q=>h.ct _ _ q
theorem rh {t u:TSd} (j:aE t) (n:aE u):aE (lw t u):=fun a b ρ M h q=>j { a with nx:=u a } { b with nx:=u b } _ _ ⟨fun ρ' M' q'=>n _ _ _ _ h q',h.rt,h.bk,h.ct⟩ q
theorem rj {te:TEd} (h:ab te):aE (iB te):=fun a b ρ M i q=>h _ _ _ _ (fun _ n j=>i.nx _ _ j) q
theorem uu {te:TEd} (h:ab te):aE (lB te):=fun a b ρ M i q=>h _ _ _ _ (fun d n j=>i.rt _ _ j) q
theorem uv {c:TTd} {t u:TSd} (n:aD c) (z:aE t) (B:aE u):aE (sIf c t u):=fun a b ρ M i q=>n _ _ _ _ (fun k F j=>by
 cases k with
 | true=>rw [if_pos rfl] at j ⊢;exact z _ _ _ _ i j
 | false=>rw [if_neg Bool.false_ne_true] at j ⊢;exact B _ _ _ _ i j) q
theorem uw {te:TEd} {bt:BT} (h:ab te):aE (gA te bt):=fun a b ρ M i q=>h _ _ _ _ (fun d n ⟨ρ',e,j⟩=>⟨ρ',e,i.nx _ _ j⟩) q
theorem uz {ta:TAd} {bs:BTs} (h:bb ta):aE (lD ta bs):=fun a b ρ M i q=>h _ _ _ _ (fun d n ⟨ρ',e,j⟩=>⟨ρ',e,i.nx _ _ j⟩) q
theorem fk {bt:BT} {tb:TSd} (hb:aE tb) {chk:Mem->Prop} {a b:ba} (i:LeD a b):∀ (xs:List D) (ρ:aq) (M:Mem),bv bt tb chk a xs ρ M->bv bt tb chk b xs ρ M
 | [], ρ,M,h=>⟨h.1,i.nx _ _ h.2⟩
 | x::xs, ρ,M,⟨c, ρ',e,q⟩=>⟨c, ρ',e,hb { a with nx:=bv bt tb chk a xs,ct:=bv bt tb chk a xs,bk:=a.nx } { b with nx:=bv bt tb chk b xs,ct:=bv bt tb chk b xs,bk:=b.nx } _ _ ⟨fun ρ2 M2 j=>fk hb i xs ρ2 M2 j,i.rt,i.nx,fun ρ2 M2 j=>fk hb i xs ρ2 M2 j⟩ q⟩
theorem uA {src:TId} {bt:BT} {tb:TSd} (hs:bJ src) (hb:aE tb):aE (lF src bt tb):=fun a b ρ M i q=>hs _ _ _ _ (fun xs c n j=>fk hb i xs _ _ j) q
theorem dE {c:TTd} {tb:TSd} (q:aD c) (hb:aE tb) {a b:ba} (i:LeD a b):∀ (n:Nat) (ρ:aq) (M:Mem),b7 c tb a n ρ M->b7 c tb b n ρ M
 | 0, ρ,M,h=>h
 | n+1, ρ,M,h=>q _ _ _ _ (fun k B j=>by
   cases k with
   | true=>rw [if_pos rfl] at j ⊢;exact hb { a with nx:=b7 c tb a n,ct:=b7 c tb a n,bk:=a.nx } { b with nx:=b7 c tb b n,ct:=b7 c tb b n,bk:=b.nx } _ _ ⟨fun ρ2 M2 z=>dE q hb i n ρ2 M2 z,i.rt,i.nx,fun ρ2 M2 z=>dE q hb i n ρ2 M2 z⟩ j
   | false=>rw [if_neg Bool.false_ne_true] at j ⊢;exact i.nx _ _ j) h
theorem pG {c:TTd} {tb:TSd} (j:aD c) (hb:aE tb):aE (fj c tb):=fun a b ρ M i ⟨n,q⟩=>⟨n,dE j hb i n _ _ q⟩
section
variable {K:Frag}
theorem jK (D:bn) (σ:St) (H:Hp) (h:lS K fP D σ H):oK D σ H:=by
 obtain ⟨ρ,M,A,rs,rm,l,q⟩:=h
 exact l.nx ρ M σ H Ext.refl rs rm q
theorem pH (D:bn) (σ:St) (H:Hp) (h:lS K fi D σ H):qm D σ H:=by
 obtain ⟨ρ,M,A,rs,rm,l,q⟩:=h
 exact l.bk ρ M σ H Ext.refl rs rm q
theorem rl (D:bn) (σ:St) (H:Hp) (h:lS K iA D σ H):vR D σ H:=by
 obtain ⟨ρ,M,A,rs,rm,l,q⟩:=h
 exact l.ct ρ M σ H Ext.refl rs rm q
theorem uB {t u:TSd} (mt:aE t) (mu:aE u) (D:bn) (σ:St) (H:Hp) (h:lS K (lw t u) D σ H):yU (lS K t) (lS K u) D σ H:=by
 obtain ⟨ρ,M,A,rs,rm,l,q⟩:=h
 exact ⟨ρ,M, { A with nx:=u A },rs,rm,⟨fun ρ' M' σ' H' x rs' rm' q'=>⟨ρ',M',A,rs',rm',l.ext x,q'⟩,l.rt,l.bk,l.ct⟩,q⟩
theorem rn {te:TEd} (m:ab te) (D:bn) (σ:St) (H:Hp) (h:lS K (iB te) D σ H):vS (lE K te) D σ H:=by
 obtain ⟨ρ,M,A,rs,rm,l,q⟩:=h
 exact ⟨ρ,M,rs,rm,m _ _ _ _ (fun d z B v H1 n j F=>l.nx ρ z σ H1 n (rs.mono (n.stab rm)) j B) q⟩
theorem uC {te:TEd} (m:ab te) (D:bn) (σ:St) (H:Hp) (h:lS K (lB te) D σ H):yV (lE K te) D σ H:=by
 obtain ⟨ρ,M,A,rs,rm,l,q⟩:=h
 exact ⟨ρ,M,rs,rm,m _ _ _ _ (fun d z B v H1 F j n=>l.rt d z v H1 F j n B) q⟩
theorem xR {c:TTd} {t u:TSd} (mc:aD c) (D:bn) (σ:St) (H:Hp) (h:lS K (sIf c t u) D σ H):yX (lT K c) (lS K t) (lS K u) D σ H:=by
 obtain ⟨ρ,M,A,rs,rm,l,q⟩:=h
 refine ⟨ρ,M,rs,rm,mc _ _ _ _ (fun k B n H1 z j => ?_) q⟩
 cases k with
 | true=>rw [if_pos rfl] at n ⊢;exact ⟨ρ,B,A,rs.mono (z.stab rm),j,l.ext z,n⟩
 | false=>rw [if_neg Bool.false_ne_true] at n ⊢;exact ⟨ρ,B,A,rs.mono (z.stab rm),j,l.ext z,n⟩
theorem uD {te:TEd} {b:BT} (m:ab te) (D:bn) (σ:St) (H:Hp) (h:lS K (gA te b) D σ H):oM (lE K te) (lG K b) D σ H:=by
 obtain ⟨ρ,M,A,rs,rm,l,q⟩:=h
 refine ⟨ρ,M,rs,rm,m _ _ _ _ (fun d B ⟨ρ',e,F⟩ v H1 z j n => ?_) q⟩
 exact ⟨d, ρ, ρ',n,rs.mono (z.stab rm),e,fun σ' rs'=>l.nx ρ' B σ' H1 z rs' j F⟩
theorem jL {te:TEd} {i:Nat} (m:ab te) (D:bn) (σ:St) (H:Hp) (h:lS K (gA te (bI i)) D σ H):oM (lE K te) (gW i) D σ H:=by
 obtain ⟨ρ,M,A,rs,rm,l,q⟩:=h
 refine ⟨ρ,M,rs,rm,m _ _ _ _ (fun d n ⟨ρ',e,z⟩ v H1 j rm1 rd1 => ?_) q⟩
 cases e
 exact l.nx _ n _ H1 j ((rs.mono (j.stab rm)).set i rd1) rm1 z
theorem uE {src:TId} {b:BT} {tb:TSd} (ms:bJ src) (mb:aE tb) (D:bn) (σ:St) (H:Hp) (h:lS K (lF src b tb) D σ H):zc (lI K src) (lG K b) (lS K tb) D σ H:=by
 obtain ⟨ρ,M,A,rs,rm,l,q⟩:=h
 refine ⟨ρ,M,rs,rm,ms _ _ _ _ (fun xs chk S q1 J H1 Y F it => ?_) q⟩
 refine ⟨fun i m σ H'=>m=xs.length - i/\i<=xs.length /\ ∃ ρ M2,RS K H' σ ρ /\ RM K M2 H'/\Ext S H1 M2 H'/\bv b tb chk A (xs.drop i) ρ M2,⟨xs.length,by simp,Nat.zero_le _, ρ,S,rs.mono (Y.stab rm),F,Ext.refl,q1⟩, ?_⟩
 rintro i m σ2 H2 ⟨rfl,hi, ρ2,M2,G,j,U,I⟩
 have L:=U.stab F
 by_cases z:i < xs.length
 ·rw [List.drop_eq_getElem_cons z] at I
  obtain ⟨c, ρ',hb,q3⟩:=I
  obtain ⟨go,yl⟩:=(it M2 H2 L j c i).2 z
  refine .inr ⟨go,fun σ' H' => ∃ m',m' < xs.length - i/\(m'=xs.length - (i+1)/\i+1<=xs.length /\ ∃ ρ M,RS K H' σ' ρ /\ RM K M H'/\Ext S H1 M H'/\bv b tb chk A (xs.drop (i+1)) ρ M),fun σ' H' h=>h,fun x' H' y => ?_⟩
  obtain ⟨yy,d,hd,rd⟩:=yl x' H' y
  rw [List.getElem?_eq_getElem z] at hd
  cases hd
  obtain ⟨xy,rmy⟩:=yy.ext j
  have O:=Y.trans (U.trans xy)
  refine ⟨_, ρ2, ρ',rd,G.mono (xy.stab j),hb,fun σ3 Z => ?_⟩
  have nx:∀ ρ5 B σ5 n,Ext M2 H' B n->RS K n σ5 ρ5->RM K B n->bv b tb chk A (xs.drop (i+1)) ρ5 B -> ∃ m',m' < xs.length - i/\(m'=xs.length - (i+1)/\i+1<=xs.length /\ ∃ ρ M,RS K n σ5 ρ /\ RM K M n/\Ext S H1 M n/\bv b tb chk A (xs.drop (i+1)) ρ M) :=
   fun ρ5 B σ5 n R BP BQ q5=>⟨xs.length - (i+1),by lia,rfl,z, ρ5,B,BP,BQ,(U.trans xy).trans R,q5⟩
  refine ⟨ρ',M2, { A with nx:=bv b tb chk A (xs.drop (i+1)),ct:=bv b tb chk A (xs.drop (i+1)),bk:=A.nx },Z,rmy,⟨nx,fun d B v n R=>l.rt d B v n (O.trans R),fun ρ5 B σ5 n R=>l.nx ρ5 B σ5 n (O.trans R),nx⟩,q3⟩
 ·have e:i=xs.length:=by lia
  subst e
  rw [List.drop_length] at I
  exact .inl ⟨(it M2 H2 L j I.1 _).1 (Nat.le_refl _),l.nx ρ2 M2 σ2 H2 (Y.trans U) G j I.2⟩
theorem pI {c:TTd} {tb:TSd} (mc:aD c) (mb:aE tb) (D:bn) (σ:St) (H:Hp) (h:lS K (fj c tb) D σ H):qp (lT K c) (lS K tb) D σ H:=by
 obtain ⟨ρ,M,A,rs,rm,l,n,q⟩:=h
 refine ⟨fun m σ' H' => ∃ ρ' M',RS K H' σ' ρ'/\RM K M' H'/\Ext M H M' H'/\b7 c tb A m ρ' M',⟨n, ρ,M,rs,rm,Ext.refl,q⟩, ?_⟩
 rintro m σ1 H1 ⟨ρ1,M1,I,J,x1,Y⟩
 cases m with
 | zero=>exact Y.elim
 | succ m =>
   refine ⟨ρ1,M1,I,J,mc _ _ _ _ (fun k M2 S H2 Z L => ?_) Y⟩
   have j:=x1.trans Z
   have O:=I.mono (Z.stab J)
   cases k with
   | false=>rw [if_neg Bool.false_ne_true] at S;dsimp only;rw [if_neg Bool.false_ne_true];exact l.nx ρ1 M2 σ1 H2 j O L S
   | true =>
     rw [if_pos rfl] at S
     dsimp only
     rw [if_pos rfl]
     refine ⟨fun σ' H' => ∃ ρ' M',RS K H' σ' ρ'/\RM K M' H'/\Ext M H M' H'/\b7 c tb A m ρ' M',fun σ' H' h=>⟨m,Nat.lt_succ_self m,h⟩, ρ1,M2, { A with nx:=b7 c tb A m,ct:=b7 c tb A m,bk:=A.nx },O,L,⟨?_,fun d z v R B=>l.rt d z v R (j.trans B),fun ρ5 z σ5 R B=>l.nx ρ5 z σ5 R (j.trans B), ?_⟩,S⟩
     ·exact fun ρ5 z σ5 R B F G U=>⟨ρ5,z,F,G,j.trans B,U⟩
     ·exact fun ρ5 z σ5 R B F G U=>⟨ρ5,z,F,G,j.trans B,U⟩
end
noncomputable def eB:D->D->D->Mem->(Mem->Prop)->Prop:=fun o i v M Q => ∃ a,o = .ref a /\
 ((∃ xs k j,i = .int k/\M a=some (.lst xs)/\ixN xs.length k=some j/\Q (af M a (.lst (xs.set j v)))) ∨
  ∃ t kvs,M a=some (.dct t kvs)/\dm t i=true/\kvs.length < sizeLine/\Q (af M a (.dct t (bP kvs i v))))
noncomputable def lH (te to ti:TEd):TSd:=fun D ρ M=>te ρ M fun v M1=>to ρ M1 fun o M2=>ti ρ M2 fun i M3=>eB o i v M3 fun M4=>D.nx ρ M4
theorem jM {o i v:D} {M:Mem} {Q Q':Mem->Prop} (h:∀ M',Q M'->Q' M') (q:eB o i v M Q):eB o i v M Q':=by
 obtain ⟨a,e,⟨xs,k,j,n,z,B,q⟩ | ⟨t,kvs,n,z,B,q⟩⟩:=q
 ·exact ⟨a,e, .inl ⟨xs,k,j,n,z,B,h _ q⟩⟩
 ·exact ⟨a,e, .inr ⟨t,kvs,n,z,B,h _ q⟩⟩
theorem uF {te to ti:TEd} (he:ab te) (ho:ab to) (hi:ab ti):aE (lH te to ti):=fun a b ρ M i q =>
 he _ _ _ _ (fun v B j=>ho _ _ _ _ (fun o M2 n=>hi _ _ _ _ (fun k F z=>jM (fun M' q'=>i.nx _ _ q') z) n) j) q
section
variable {X:Cx} {K:Frag}
theorem lJ (j:X.A.units+1 < cLine):PSet X (fun o i v H Q => ∃ a H',o = .ref a/\DPut H a i v H'/\Q H'):=by
 intro pins s σ H o i v ov iv u Q I ro ri rv h
 obtain ⟨a,H',rfl,g,q⟩:=h
 cases ro
 exact qH j I g ri rv fun s' I'=>⟨H',I',q⟩
theorem PSet.or {t t':iZ} (h:PSet X t) (h':PSet X t'):PSet X (fun o i v H Q=>t o i v H Q∨t' o i v H Q):=by
 intro pins s σ H o i v ov iv u Q I ro ri rv q
 rcases q with q | q
 ·exact h pins s σ H o i v ov iv u Q I ro ri rv q
 ·exact h' pins s σ H o i v ov iv u Q I ro ri rv q
section
variable {κ:Type} [DecidableEq κ] {H:Hp} {RK:D -> κ -> Prop} (inj:∀ {d e:D} {k : κ},RK d k->RK e k->d=e) (fn:∀ {d:D} {k k' : κ},RK d k->RK d k'->k=k')
include inj fn
theorem nN {k:D} {q : κ} (j:RK k q):∀ {kvs:List (D×D)} {ps:List (κ × V)},Paired (fun p r=>RK p.1 r.1/\RD K H p.2 r.2) kvs ps ->
 (kvs.any fun p=>decide (p.1=k))=(ps.any fun p=>decide (p.1=q))
 | _,_, .nil=>rfl
 | _,_, .cons (a:=p) (b:=r) hr t=>by
   rw [List.any_cons,List.any_cons,nN j t]
   congr 1
   by_cases e:p.1=k
   ·have e':r.1=q:=by have h1:=hr.1;rw [e] at h1;exact fn h1 j
    rw [decide_eq_true e,decide_eq_true e']
   ·have e' : ¬ r.1=q:=fun z=>e (by have h1:=hr.1;rw [z] at h1;exact inj h1 j)
    rw [decide_eq_false e,decide_eq_false e']
theorem nO {k:D} {q : κ} (j:RK k q) {d:D} {v:V} (n:RD K H d v):∀ {kvs:List (D×D)} {ps:List (κ × V)},Paired (fun p r=>RK p.1 r.1/\RD K H p.2 r.2) kvs ps ->
 Paired (fun p r=>RK p.1 r.1/\RD K H p.2 r.2) (kvs.map fun p=>if p.1=k then (p.1,d) else p) (ps.map fun p=>if p.1=q then (p.1,v) else p)
 | _,_, .nil => .nil
 | _,_, .cons (a:=p) (b:=r) hr t=>by
   refine .cons ?_ (nO j n t)
   by_cases e:p.1=k
   ·have e':r.1=q:=by have h1:=hr.1;rw [e] at h1;exact fn h1 j
    dsimp only
    rw [if_pos e,if_pos e']
    exact ⟨hr.1,n⟩
   ·have e' : ¬ r.1=q:=fun z=>e (by have h1:=hr.1;rw [z] at h1;exact inj h1 j)
    dsimp only
    rw [if_neg e,if_neg e']
    exact hr
theorem gB {k:D} {q : κ} (j:RK k q) {d:D} {v:V} (n:RD K H d v) {kvs:List (D×D)} {ps:List (κ × V)} (r:Paired (fun p r=>RK p.1 r.1/\RD K H p.2 r.2) kvs ps) :
 Paired (fun p r=>RK p.1 r.1/\RD K H p.2 r.2) (bP kvs k d) (b8 ps q v):=by
 unfold bP b8
 rw [nN (K:=K) (H:=H) (RK:=RK) inj fn j r]
 by_cases e:(ps.any fun p=>decide (p.1=q))=true
 ·rw [if_pos e,if_pos e]
  exact nO (RK:=RK) inj fn j n r
 ·rw [if_neg e,if_neg e]
  exact r.snoc ⟨j,n⟩
end
theorem lK {M:Mem} {H:Hp} {o i v:D} {ov iv vv:V} {Qd:Mem->Prop} {Q:Hp->Prop} (rm:RM K M H) (ro:RD K H o ov) (ri:RD K H i iv) (rv:RD K H v vv) (h:eB o i v M Qd) (J:∀ M' H',Ext M H M' H'->RM K M' H'->Qd M'->Q H') :
 vY ov iv vv H Q ∨ ∃ a H',ov = .ref a/\DPut H a iv vv H'/\Q H':=by
 obtain ⟨a,rfl,⟨xs,k,j,rfl,n,I,q⟩ | ⟨t,kvs,B,n,I,q⟩⟩:=h
 ·cases RD.ref_iff.mp ro
  cases RD.int_iff.mp ri
  obtain ⟨vs,O,rs⟩:=rm _ _ n
  have st:Stab H (upd H a (.lst (vs.set j vv))):=rm.stabPut n
  exact .inl ⟨a,vs,k,j,rfl,rfl,O,by rw [rs.length];exact I,J _ _ (Ext.put n) (rm.put (o := .lst (xs.set j v)) n ⟨_,ar,(rs.set j rv).mono st⟩) q⟩
 ·cases RD.ref_iff.mp ro
  have ro':=rm _ _ B
  cases t with
  | false =>
    obtain ⟨ps,L,pr⟩:=ro'
    obtain ⟨kq,G⟩:=ic (show cD i=true from n)
    have st:Stab H (upd H a (.dK (b8 ps kq vv))):=rm.stabPut B
    have F:=gB (RK:=RKey) RKey.inj RKey.fun G rv pr
    rw [fM G ri]
    refine .inr ⟨a,_,rfl,DPut.k L (by rw [<- Paired.length pr];exact I),J _ _ (Ext.put B) (rm.put (o := .dct false (bP kvs i v)) B ⟨_,ar,Paired.mapP F fun _ _ z=>⟨z.1,z.2.mono st⟩⟩) q⟩
  | true =>
    obtain ⟨ps,L,pr⟩:=ro'
    obtain ⟨kq,G⟩:=nL (show dJ i=true from n)
    have st:Stab H (upd H a (.dT (b8 ps kq vv))):=rm.stabPut B
    have F:=gB (RK:=RKeys) RKeys.inj RKeys.fun G rv pr
    cases i <;> first
     | exact G.elim
     | (obtain ⟨b,us,rfl,hb,ru⟩:=RD.tup_iff.mp ri
        rw [gv G ru] at hb
        exact .inr ⟨a,_,rfl,DPut.t L hb (by rw [<- Paired.length pr];exact I),J _ _ (Ext.put B) (rm.put (o := .dct true (bP kvs _ v)) B ⟨_,ar,Paired.mapP F fun _ _ z=>⟨z.1,z.2.mono st⟩⟩) q⟩)
theorem zU {o i e:Expr} {te to ti:TEd} {pos tpos:Pos} (U:X.A.units+1 < cLine) (me:ab te) (mo:ab to) (mi:ab ti) (he:PE X e (lE X.K te)) (ho:PE X o (lE X.K to)) (hi:PE X i (lE X.K ti))
 (hs:swapsWithSole [.Subscript o i tpos] e pos.line X.env=pure false) (hw:swappedStores [.Subscript o i tpos] e X.env=pure none)
 (Y:∀ v,assign (.Subscript o i tpos) X.env v=(do
   let ov <- holding [v] (eval o X.env)
   let iv <- holding [v,ov] (eval i X.env)
   standAt tpos
   holding [v,ov,iv] (setItem ov iv v)
   release [v,ov,iv] [])):PS X (.Assign [.Subscript o i tpos] e pos) (lS X.K (lH te to ti)):=by
 refine PS.imp (qo he (yZ ho hi (PSet.or kH (lJ U)) Y) hs hw rfl) fun D σ H h => ?_
 obtain ⟨ρ,M,A,rs,rm,l,q⟩:=h
 refine ⟨ρ,M,rs,rm,me _ _ _ _ (fun v Z q1 vv H1 B j F => ?_) q⟩
 refine ⟨ρ,Z,rs.mono (B.stab rm),j,mo _ _ _ _ (fun ov M2 q2 vo H2 G n I => ?_) q1⟩
 refine ⟨ρ,M2,(rs.mono (B.stab rm)).mono (G.stab j),n,mi _ _ _ _ (fun iv M3 q3 vi H3 J L O => ?_) q2⟩
 have z:=B.trans (G.trans J)
 exact lK L (I.mono (J.stab n)) O ((F.mono (G.stab j)).mono (J.stab n)) q3 fun M' H' S R q4=>l.nx ρ M' σ H' (z.trans S) (rs.mono ((z.trans S).stab rm)) R q4
noncomputable def ku:R2d
 | .int i, .int j,M,Q=>Q (.int (i+j)) M
 | _,_,_,_=>False
noncomputable def kw:R2d
 | .int i, .int j,M,Q=>Q (.int (i - j)) M
 | _,_,_,_=>False
noncomputable def kx:R2d
 | .int i, .int j,M,Q=>MulOk i j/\Q (.int (i*j)) M
 | _,_,_,_=>False
theorem jN:al ku:=by
 intro x y M Q Q' h q
 cases x <;> cases y <;> first | exact q.elim | exact h _ _ q
theorem jO:al kw:=by
 intro x y M Q Q' h q
 cases x <;> cases y <;> first | exact q.elim | exact h _ _ q
theorem jP:al kx:=by
 intro x y M Q Q' h q
 cases x <;> cases y <;> first | exact q.elim | exact ⟨q.1,h _ _ q.2⟩
theorem rp:OpR X (inplaceOp .Add) (l2 X.K ku):=by
 refine OpR.of wQ fun v u H Q h => ?_
 obtain ⟨x,y,M,rm,rx,ry,q⟩:=h
 cases x <;> cases y <;> first
  | exact q.elim
  | (cases RD.int_iff.mp rx;cases RD.int_iff.mp ry;exact ⟨_,_,rfl,rfl,q _ H Ext.refl rm (RD.int_iff.mpr rfl)⟩)
theorem rq:OpR X (inplaceOp .Sub) (l2 X.K kw):=by
 refine OpR.of wR fun v u H Q h => ?_
 obtain ⟨x,y,M,rm,rx,ry,q⟩:=h
 cases x <;> cases y <;> first
  | exact q.elim
  | (cases RD.int_iff.mp rx;cases RD.int_iff.mp ry;exact ⟨_,_,rfl,rfl,q _ H Ext.refl rm (RD.int_iff.mpr rfl)⟩)
theorem rA:OpR X (inplaceOp .Mult) (rI MulOk fun i j => .int (i*j)):=opI fun _ _ _ _ _ _ _ n q=>imul_int q n.ok
theorem rB:OpR X (inplaceOp .Mult) (l2 X.K kx):=by
 refine OpR.of rA fun v u H Q h => ?_
 obtain ⟨x,y,M,rm,rx,ry,q⟩:=h
 cases x <;> cases y <;> first
  | exact q.elim
  | (cases RD.int_iff.mp rx;cases RD.int_iff.mp ry;exact ⟨_,_,rfl,rfl,q.1,q.2 _ H Ext.refl rm (RD.int_iff.mpr rfl)⟩)
end
end
end Mi
end L2
namespace L2
open PySem PySem.Spec PyProof.Rows
namespace Mi
variable {K:Frag}
theorem rC {ta:TAd} {i j:Nat} (m:bb ta) (D:bn) (σ:St) (H:Hp) (h:lS K (lD ta (bD (bI i) (bD (bI j) fb))) D σ H):z9 i j (lA K ta) D σ H:=by
 obtain ⟨ρ,M,A,rs,rm,l,q⟩:=h
 refine ⟨ρ,M,rs,rm,m _ _ _ _ (fun ds F ⟨ρ',e,G⟩ vs H1 B z n => ?_) q⟩
 match ds,e,n with
 | [d1,d2],e,n =>
  obtain ⟨v,u,rfl,I,J⟩:=n.two
  simp only [bD,bI,fb,Option.bind_some,Option.some.injEq] at e
  subst e
  exact ⟨v,u,rfl,l.nx _ F _ H1 B (((rs.mono (B.stab rm)).set i I).set j J) z G⟩
end Mi
end L2
namespace L2
open PySem PySem.Spec PyProof.Rows
section
section
variable {X:Cx}
theorem ax:zb X (fun o i H Q => ∃ a xs k x,o = .ref a/\i = .int k/\SqL X.K H a xs/\atI xs k=some x/\Q x H):=by
 intro pins s σ H o i ov iv Q I ro ri h
 obtain ⟨a,xs,k,x,rfl,rfl,sq,he,q⟩:=h
 cases ro
 obtain ⟨t,rfl⟩:=ri
 obtain ⟨its,r,pl,F⟩:=I.list sq
 obtain ⟨j,h1,h2,G,z,B⟩:=j3 he
 obtain ⟨w,ew,rw'⟩:=r.get h2
 have hl:=r.length
 have J:=dI
 have fin:EP X pins σ Q w s:=⟨x,H,I,rw',q⟩
 by_cases h0 : 0<=k
 ·have n:k.toNat=j:=Option.some.inj (by rw [<- h1,seqIndex_of h0 B])
  exact wpAny_getItem_list pl.isList h0 (by lia) (by rw [n];simpa using ew) fin
 ·have n:(k+(its.toArray.size:Int)).toNat=j:=by
   rw [List.size_toArray, <- hl]
   exact Option.some.inj (by rw [<- h1,seqIndex_neg (by lia) z])
  exact wpAny_getItem_list_neg pl.isList (by lia) (by rw [List.size_toArray];lia) (by lia) (by rw [n];simpa using ew) fin
end
namespace Mi
section
variable {X:Cx}
noncomputable def w9:R2d:=fun x y M Q => ∃ a ds k d,x = .ref a/\y = .int k/\M a=some (.lst ds)/\atI ds k=some d/\Q d M
theorem rD:al w9:=fun _ _ _ _ _ h ⟨a,ds,k,d,j,n,z,B,q⟩=>⟨a,ds,k,d,j,n,z,B,h _ _ q⟩
noncomputable def iC (to ti te:TEd) (rd:R2d):TSd:=fun D ρ M=>to ρ M fun o M1=>ti ρ M1 fun i M2=>w9 o i M2 fun x M3=>te ρ M3 fun y M4=>rd x y M4 fun z M5=>eB o i z M5 fun M6=>D.nx ρ M6
theorem rE {to ti te:TEd} {rd:R2d} (ho:ab to) (hi:ab ti) (he:ab te) (hr:al rd):aE (iC to ti te rd):=fun a b ρ M l q =>
 ho _ _ _ _ (fun o J j=>hi _ _ _ _ (fun i M2 n=>rD _ _ _ _ _ (fun x L B=>he _ _ _ _ (fun y O F=>hr _ _ _ _ _ (fun z R G=>jM (fun S I=>l.nx _ _ I) G) F) B) n) j) q
theorem jd {o i e:Expr} {to ti te:TEd} {op:Operator} {rd:R2d} {pos tpos:Pos} (hu:X.A.units+1 < cLine) (mo:ab to) (mi:ab ti) (me:ab te) (hr:al rd) (ho:PE X o (lE X.K to)) (hi:PE X i (lE X.K ti)) (he:PE X e (lE X.K te)) (G:OpR X (inplaceOp op) (l2 X.K rd))
 (ha:∀ ov iv new,augStore i ov iv new=(do holding [new,ov,iv] (setItem ov iv new);release [new,ov,iv] [];pure .next)):PS X (.AugAssign (.Subscript o i tpos) op e pos) (lS X.K (iC to ti te rd)):=by
 refine PS.imp (wP ho hi ax he (tip:=l2 X.K rd) G (PSet.or kH (lJ hu)) ha) fun D σ H h => ?_
 obtain ⟨ρ,M,A,rs,rm,l,q⟩:=h
 refine ⟨ρ,M,rs,rm,mo _ _ _ _ (fun d1 M1 q1 v1 H1 x1 j I => ?_) q⟩
 have z:=rs.mono (x1.stab rm)
 refine ⟨ρ,M1,z,j,mi _ _ _ _ (fun d2 M2 q2 v2 H2 J n L => ?_) q1⟩
 have O:=z.mono (J.stab j)
 have B:=I.mono (J.stab j)
 obtain ⟨a,ds,k,d,rfl,rfl,e3,e4,q3⟩:=q2
 cases RD.ref_iff.mp B
 cases RD.int_iff.mp L
 obtain ⟨vs,R,rv⟩:=n _ _ e3
 obtain ⟨v3,S,U⟩:=ig rv e4
 refine ⟨a,vs,k,v3,rfl,rfl,SqL.of R,S, ?_⟩
 refine ⟨ρ,M2,O,n,me _ _ _ _ (fun d4 M4 q4 v4 H4 x4 Y Z => ?_) q3⟩
 refine ⟨d,d4,M4,Y,U.mono (x4.stab n),Z,hr _ _ _ _ _ (fun d5 M5 q5 v5 H5 x5 BP BQ => ?_) q4⟩
 have F:=((x1.trans J).trans x4).trans x5
 exact lK BP (RD.ref_iff.mpr rfl) (RD.int_iff.mpr rfl) BQ q5 fun M' H' x6 BR q6=>l.nx ρ M' σ H' (F.trans x6) (rs.mono ((F.trans x6).stab rm)) BR q6
end
section
section
variable {X:Cx}
noncomputable def isD:D->D->Option Bool
 | x, .non=>some (match x with | .non=>true | _=>false)
 | x, .bl b=>some (match x with | .bl c=>c==b | _=>false)
 | _,_=>none
noncomputable def uG:R2d:=fun x y M Q => ∃ k,isD x y=some k/\Q (.bl (!k)) M
theorem uH:al uG:=fun _ _ _ _ _ h ⟨k,e,q⟩=>⟨k,e,h _ _ q⟩
theorem uI {M:Model} {A:Around} {E:Value->Shared->Prop} {s:Shared} {Q:Value->Shared->Prop} {v:Value} {b:Bool} (j:∀ id,v ≠ .builtin id) (h:Q (.bool (!(v == .bool b))) s):wpAny M A (compareOp .IsNot v (.bool b)) Q E s:=by
 cases v <;> first | exact wpAny_pure h | exact absurd rfl (j _)
theorem zV {K:Frag} {H:Hp} {x y:D} {v w:V} {u t:Value} {k:Bool} (e:isD x y=some k) (rx:RD K H x v) (ry:RD K H y w) (ru:RelV v u) (rt:RelV w t):(t = .none/\(u == .none)=k) ∨ ∃ b,t = .bool b/\(u == .bool b)=k /\ ∀ id,u ≠ .builtin id:=by
 cases y with
 | non =>
   cases RD.non_iff.mp ry
   cases rt
   refine .inl ⟨rfl, ?_⟩
   cases x with
   | non=>cases RD.non_iff.mp rx;cases ru;cases e;rfl
   | bl c=>cases RD.bl_iff.mp rx;cases ru;cases e;rfl
   | int i=>cases RD.int_iff.mp rx;obtain ⟨tk,rfl⟩:=ru;cases e;rfl
   | str z=>cases RD.str_iff.mp rx;obtain ⟨tk,rfl⟩:=ru;cases e;rfl
   | tup ds=>obtain ⟨a,vs,rfl,_⟩:=RD.tup_iff.mp rx;cases ru;cases e;rfl
   | con ds=>obtain ⟨a,vs,rfl,_⟩:=RD.con_iff.mp rx;cases ru;cases e;rfl
   | ref a=>cases RD.ref_iff.mp rx;cases ru;cases e;rfl
 | bl b =>
   cases RD.bl_iff.mp ry
   cases rt
   refine .inr ⟨b,rfl, ?_⟩
   cases x with
   | non=>cases RD.non_iff.mp rx;cases ru;cases e;exact ⟨rfl,fun _ z=>by cases z⟩
   | bl c=>cases RD.bl_iff.mp rx;cases ru;cases e;exact ⟨by cases b <;> cases c <;> rfl,fun _ z=>by cases z⟩
   | int i=>cases RD.int_iff.mp rx;obtain ⟨tk,rfl⟩:=ru;cases e;exact ⟨rfl,fun _ z=>by cases z⟩
   | str z=>cases RD.str_iff.mp rx;obtain ⟨tk,rfl⟩:=ru;cases e;exact ⟨rfl,fun _ z=>by cases z⟩
   | tup ds=>obtain ⟨a,vs,rfl,_⟩:=RD.tup_iff.mp rx;cases ru;cases e;exact ⟨rfl,fun _ z=>by cases z⟩
   | con ds=>obtain ⟨a,vs,rfl,_⟩:=RD.con_iff.mp rx;cases ru;cases e;exact ⟨rfl,fun _ z=>by cases z⟩
   | ref a=>cases RD.ref_iff.mp rx;cases ru;cases e;exact ⟨rfl,fun _ z=>by cases z⟩
 | _=>cases e
theorem uJ:OpR X (compareOp .IsNot) (l2 X.K uG):=by
 intro pins s σ H v w u t Q I ru rt h
 obtain ⟨x,y,M,rm,rx,ry,k,e,q⟩:=h
 have fin:EP X pins σ Q (.bool (!k)) s:=⟨.bl (!k),H,I,rfl,q _ H Ext.refl rm (RD.bl_iff.mpr rfl)⟩
 rcases zV e rx ry ru rt with ⟨rfl,j⟩ | ⟨b,rfl,j,nb⟩
 ·exact isnot_none_gen (by rw [j];exact fin)
 ·exact uI nb (by rw [j];exact fin)
noncomputable def cj (r r':R2d) (ta tb tc:TEd):TEd:=fun ρ M Q=>ta ρ M fun x M1=>tb ρ M1 fun y M2=>r x y M2 fun z M3 => ∃ k,z = .bl k/\(if k=true then tc ρ M3 fun w M4=>r' y w M4 Q else Q (.bl false) M3)
theorem eC {r r':R2d} {ta tb tc:TEd} (hr:al r) (n:al r') (B:ab ta) (hb:ab tb) (F:ab tc):ab (cj r r' ta tb tc):=fun ρ M Q Q' i q =>
 B _ _ _ _ (fun x L G=>hb _ _ _ _ (fun y M2 I=>hr _ _ _ _ _ (fun z O ⟨k,e,j⟩=>⟨k,e,by
  cases k with
  | true=>rw [if_pos rfl] at j ⊢;exact F _ _ _ _ (fun w R J=>n _ _ _ _ _ i J) j
  | false=>rw [if_neg Bool.false_ne_true] at j ⊢;exact i _ _ j⟩) I) G) q
theorem iD {r r':R2d} {ta tb tc:TEd} (hr:al r) (O:al r') (ma:ab ta) (mb:ab tb) (mc:ab tc) (σ:St) (H:Hp) (Q:VK) (h:lE X.K (cj r r' ta tb tc) σ H Q):kF (l2 X.K r) (l2 X.K r') (lE X.K ta) (lE X.K tb) (lE X.K tc) σ H Q:=by
 obtain ⟨ρ,M,rs,rm,q⟩:=h
 refine ⟨ρ,M,rs,rm,ma _ _ _ _ (fun x M1 q1 v H1 G j R => ?_) q⟩
 refine ⟨ρ,M1,rs.mono (G.stab rm),j,mb _ _ _ _ (fun y M2 q2 w H2 I n F => ?_) q1⟩
 refine ⟨x,y,M2,n,R.mono (I.stab j),F,hr _ _ _ _ _ (fun z M3 ⟨k,e,J⟩ v3 H3 L B S => ?_) q2⟩
 subst e
 refine ⟨k,RD.bl_iff.mp S, ?_⟩
 cases k with
 | true =>
   rw [if_pos rfl] at J ⊢
   refine ⟨ρ,M3,(((rs.mono (G.stab rm)).mono (I.stab j)).mono (L.stab n)),B,mc _ _ _ _ (fun w4 M4 q4 v4 H4 Z U Y => ?_) J⟩
   exact ⟨y,w4,M4,U,(F.mono (L.stab n)).mono (Z.stab B),Y,O _ _ _ _ _ (fun d M5 k5=>k5.ext (((G.trans I).trans L).trans Z)) q4⟩
 | false =>
   rw [if_neg Bool.false_ne_true] at J ⊢
   exact J (.bl false) H3 ((G.trans I).trans L) B (RD.bl_iff.mpr rfl)
noncomputable def pJ:D->Option Bool
 | .bl b=>some b
 | .int i=>some (i != 0)
 | _=>none
noncomputable def pK:RAd:=fun xs M Q => ∃ x ds ts,xs=[x]/\aC M x=some ds/\aw pJ ds=some ts/\Q (.bl (ts.all id)) M
theorem lL:aV pK:=fun _ _ _ _ h ⟨x,ds,ts,e,j,n,q⟩=>⟨x,ds,ts,e,j,n,h _ _ q⟩
theorem lM {α β:Type} {f : α -> Option β}:∀ {xs:List α} {ys:List β},aw f xs=some ys->ys.length=xs.length /\ ∀ (i:Nat) x,xs[i]? = some x -> ∃ y,ys[i]? = some y/\f x=some y
 | [],ys,h=>by cases h;exact ⟨rfl,fun i x e=>by simp at e⟩
 | x::xs,ys,h=>by
   simp only [aw] at h
   cases j:f x with
   | none=>rw [j] at h;cases h
   | some y =>
     rw [j] at h
     simp only [Option.bind_some] at h
     cases e2:aw f xs with
     | none=>rw [e2] at h;cases h
     | some r =>
       rw [e2] at h;cases h
       obtain ⟨l,g⟩:=lM e2
       refine ⟨by simp [l],fun i z e => ?_⟩
       cases i with
       | zero=>simp at e;subst e;exact ⟨y,rfl,j⟩
       | succ i=>simp at e;simpa using g i z e
theorem xS {P:Program} {w:World} {A:Around} {E:Value->Shared->Prop} {s:Shared} {K:Frag} {H:Hp} {d:D} {v:V} {u:Value} {b:Bool} {Q:Bool->Shared->Prop} (e:pJ d=some b) (rd:RD K H d v) (ru:RelV v u) (q:Q b s):wpAny (model P w) A (truthy u) Q E s:=by
 cases d with
 | bl c=>cases RD.bl_iff.mp rd;cases ru;cases e;exact wpAny_truthy_bool q
 | int i=>cases RD.int_iff.mp rd;obtain ⟨t,rfl⟩:=ru;cases e;exact PyProof.Rows.truthy_int q
 | _=>cases e
theorem range_all {ts:List Bool}:(List.range ts.length).all (fun i=>ts.getD i false)=ts.all id/\(List.range ts.length).any (fun i=>ts.getD i false)=ts.any id:=by
 have e:(List.range ts.length).map (fun i=>ts.getD i false)=ts:=by
  apply List.ext_getElem
  ·simp
  ·intro i h1 h2;simp [List.getD_eq_getElem?_getD,List.getElem?_eq_getElem h2]
 constructor
 ·conv=>rhs;rw [<- e]
  rw [List.all_map];rfl
 ·conv=>rhs;rw [<- e]
  rw [List.any_map];rfl
theorem uK (J:X.calm=true) {pins:List (Addr×Obj)} {s:Shared} {σ:St} {H:Hp} {M:Mem} {x:D} {ds:List D} {ts:List Bool} {v:V} {u:Value} {Q:Value->Shared->Prop} {g:List Bool->Bool} (I:Inv X pins σ H s) (rm:RM X.K M H) (rd:RD X.K H x v) (ru:RelV v u) (R:aC M x=some ds) (S:aw pJ ds=some ts)
 (fin:∀ h' tk,Inv X pins σ H { s with heap:=h',toks:=tk }->Q (.bool (g ts)) { s with heap:=h',toks:=tk })
 (gg:Nat->(Nat->Bool)->Bool) (L:gg ts.length (fun i=>ts.getD i false)=g ts) :
 wpAny (model X.prog X.w) X.A.in1 (pyIter u) (fun it s₂ => ∃ I fp wr n P St tr,it = .ref I/\Walks X.prog X.w X.A.in1 I fp wr n P St/\St 0 s₂.heap/\TruthOf X.prog X.w X.A.in1 P tr /\
  ∀ h' tk,(∀ b o,b∉wr->s₂.heap.get? b=some o->h'.get? b=some o)->Q (.bool (gg n tr)) { s₂ with heap:=h',toks:=tk }) X.xe s:=by
 obtain ⟨p,vs,rfl,sq,O⟩:=qS rm rd R
 cases ru
 obtain ⟨lt,get⟩:=lM S
 have lv:=O.length
 have tr:∀ (its:List Value),Vals vs its->TruthOf X.prog X.w X.A.in1 (fun i w=>its.toArray[i]? = some w) (fun i=>ts.getD i false):=by
  intro its rv i w s' Q' E' U B
  have q:its[i]? = some w:=by simpa using U
  have li:=rv.length
  have hi:i < its.length:=(List.getElem?_eq_some_iff.mp q).1
  obtain ⟨d,hd⟩:∃ d,ds[i]? = some d:=⟨ds[i]'(by lia),List.getElem?_eq_getElem (by lia)⟩
  obtain ⟨v',F,rd'⟩:=O.get hd
  obtain ⟨u',z,ru'⟩:=rv.get F
  rw [q] at z;cases z
  obtain ⟨b,hb,eb⟩:=get i d hd
  have:ts.getD i false=b:=by rw [List.getD_eq_getElem?_getD,hb];rfl
  have B:Q' (ts.getD i false) s':=B
  rw [this] at B
  exact xS eb rd' ru' B
 rcases sq with sq | sq
 ·obtain ⟨its,rv,pl,Y⟩:=I.list sq
  have li:=rv.length
  have j:p < s.heap.objs.size:=by obtain ⟨o,n,e,_⟩:=pl;exact Heap.lt_size e
  refine wpAny_pyIter_list pl.isList ⟨s.heap.objs.size,_,_,_,_,_,_,rfl,Walks.list (by rw [Around.in1_handled];exact I.ok.hd J) s.heap.objs.size p (Nat.ne_of_lt j) its.toArray,⟨⟨_,Heap.get?_push_size _ rfl,rfl,rfl⟩,pl.isList.at fun o e=>Heap.get?_push_of_some _ e⟩,tr its rv,fun h' tk k => ?_⟩
  have G:its.toArray.size=ts.length:=by rw [List.size_toArray];lia
  rw [G,L]
  exact fin h' tk (I.kept (t':=tk) fun b o e=>k b o (by simp;exact Nat.ne_of_lt (Heap.lt_size e)) (Heap.get?_push_of_some _ e))
 ·obtain ⟨its,rv,pl,Y⟩:=I.tuple sq
  have li:=rv.length
  have j:p < s.heap.objs.size:=by obtain ⟨o,e,_⟩:=pl;exact Heap.lt_size e
  have pt:s.heap.IsTuple p its.toArray:=pl
  refine wpAny_pyIter_tuple pt ⟨s.heap.objs.size,_,_,_,_,_,_,rfl,Walks.tuple (by rw [Around.in1_handled];exact I.ok.hd J) s.heap.objs.size p (Nat.ne_of_lt j) its.toArray,⟨⟨_,Heap.get?_push_size _ rfl,rfl,rfl⟩,pt.push _⟩,tr its rv,fun h' tk k => ?_⟩
  have G:its.toArray.size=ts.length:=by rw [List.size_toArray];lia
  rw [G,L]
  exact fin h' tk (I.kept (t':=tk) fun b o e=>k b o (by simp;exact Nat.ne_of_lt (Heap.lt_size e)) (Heap.get?_push_of_some _ e))
theorem pM (j:X.calm=true):CallR X (.builtin "all") (lR X.K pK):=by
 intro pins s σ H xs us Q I rv h
 obtain ⟨ds,M,rm,rs,x,es,ts,rfl,z,B,q⟩:=h
 obtain ⟨v,rfl,r⟩:=rs.one
 obtain ⟨u,rfl,ru⟩:=dl rv
 exact call_all_walk (uK j I rm r ru z B (g:=fun ts=>ts.all id) (fun h' tk I'=>⟨.bl _,H,I',rfl,q _ H Ext.refl rm (RD.bl_iff.mpr rfl)⟩) (fun n tr=>(List.range n).all tr) range_all.1)
noncomputable def iE (t:Bool):TEd:=fun _ M Q => ∀ p,M p=none->Q (.ref p) (af M p (.dct t []))
theorem rF {t:Bool}:ab (iE t):=fun _ _ _ _ i q p n=>i _ _ (q p n)
theorem xT {t:Bool} {pos:Pos}:PE X (.Dict [] [] pos) (lE X.K (iE t)):=by
 cases t with
 | false =>
   refine PE.imp tS fun σ H Q ⟨ρ,M,rs,rm,q⟩ p n => ?_
   exact q p (rm.out n) (.ref p) _ (Ext.lay n) (rm.lay n ⟨[],ar, .nil⟩) (RD.ref_iff.mpr rfl)
 | true =>
   refine PE.imp tT fun σ H Q ⟨ρ,M,rs,rm,q⟩ p n => ?_
   exact q p (rm.out n) (.ref p) _ (Ext.lay n) (rm.lay n ⟨[],ar, .nil⟩) (RD.ref_iff.mpr rfl)
theorem uL {op op':CmpOp} {r r':R2d} {a b c:Expr} {ta tb tc:TEd} {pos:Pos} (ho:OpR X (compareOp op) (l2 X.K r)) (j:OpR X (compareOp op') (l2 X.K r')) (hr:al r) (n:al r') (ma:ab ta) (mb:ab tb) (mc:ab tc) (q:PE X a (lE X.K ta)) (hb:PE X b (lE X.K tb)) (z:PE X c (lE X.K tc)) (hm:lastMarks [op,op'] [b,c]=false) :
 PE X (.Compare a [op,op'] [b,c] pos) (lE X.K (cj r r' ta tb tc)):=PE.imp (tF ho j q hb z hm) (iD hr n ma mb mc)
theorem uM {op op':CmpOp} {r r':R2d} {a b c:Expr} {ta tb tc:TEd} {pos:Pos} (ho:OpR X (compareOp op) (l2 X.K r)) (n:OpR X (compareOp op') (l2 X.K r')) (hr:al r) (j:al r') (ma:ab ta) (mb:ab tb) (mc:ab tc) (q:PE X a (lE X.K ta)) (hb:PE X b (lE X.K tb)) (z:PE X c (lE X.K tc)) (hm:lastMarks [op,op'] [b,c]=false) :
 PT X (.Compare a [op,op'] [b,c] pos) (lT X.K (ee (cj r r' ta tb tc))):=PT.imp (tG ho n q hb z hm) fun σ H Q h=>iD hr j ma mb mc σ H _ (kQ (eC hr j ma mb mc) σ H Q h)
end
end
end Mi
end
end L2
namespace L2
namespace Srt
open PySem PySem.Spec PyProof.Rows
structure Cm (prog:Program) (w:World) (A:Around) (s:Shared) (kd:SortKind) (P:Keyed->Prop) (lt:Keyed->Keyed->Bool):Prop where
 asym:∀ x y,lt x y=true->lt y x=false
 neg:∀ x y z,lt x z=true->lt x y=true∨lt y z=true
 run:∀ (x y:Keyed) (E:Value->Shared->Prop) (Q:Bool->Shared->Prop),P x->P y->Q (lt x y) s->wpAny (PySem.model prog w) A (keyLt' kd x.1 y.1) Q E s
section
variable {prog:Program} {w:World} {A:Around} {E:Value->Shared->Prop} {s:Shared} {kd:SortKind} {P:Keyed->Prop} {lt:Keyed->Keyed->Bool}
theorem aa {σ α:Type} {M:Model} {x : α} {st : σ} {Q : α -> σ -> Prop} (q:Q x st):wpS M A E s (pure x) Q st :=
 fun _ _ _=>⟨rfl,q⟩
theorem bY {σ:Type} {M:Model} {tag:String} {st : σ} {Q:Unit -> σ -> Prop} (q:Q () st):wpS M A E s (liftM (PySem.rule tag)) Q st :=
 wpS_lift (wpAny_rule ⟨rfl,q⟩)
theorem xU {σ:Type} {M:Model} {st st' : σ} {Q:PUnit -> σ -> Prop} (q:Q PUnit.unit st'):wpS M A E s (set st') Q st :=
 fun _ _ _=>⟨rfl,q⟩
theorem iF (c:Cm prog w A s kd P lt) {x y:Keyed} {st:SortSt} {Q:Option Bool->SortSt->Prop} (j:kindOf st=kd) (hx:P x) (n:P y) (q:Q (some (lt x y)) st):wpS (PySem.model prog w) A E s (lt' x y) Q st:=by
 rw [lt'_eq]
 refine wpS_bind (wpS_get ?_)
 refine wpS_bind (wpS_lift ?_)
 rw [j]
 intro Γ p hp
 rw [Sem.wp_attempt]
 exact c.run x y (fun e s'=>s'=s/\wpS (PySem.model prog w) A E s (do modify fun s=>SortSt.mk' (kindOf s) (arrOf s) (pendingOf s) (gallopOf s) (some e);pure none) Q st) (fun b s'=>s'=s/\wpS (PySem.model prog w) A E s (pure (some b)) Q st) hx n ⟨rfl,aa q⟩ Γ p hp
theorem ay {arr:Array Keyed} {i:Nat} {x:Keyed} {st:SortSt} {Q:Keyed->SortSt->Prop} (h:arr[i]? = some x) (q:Q x st):wpS (PySem.model prog w) A E s (elem' arr i) Q st:=by
 rw [elem'_eq,h]
 exact aa q
theorem Cm.le_trans (c:Cm prog w A s kd P lt) {x y z:Keyed} (h:lt y x=false) (h2:lt z y=false):lt z x=false:=by
 cases e:lt z x with
 | false=>rfl
 | true=>rcases c.neg z y x e with q | q <;> simp_all
theorem Cm.irr (c:Cm prog w A s kd P lt) {x:Keyed}:lt x x=false:=by
 cases e:lt x x with
 | false=>rfl
 | true=>have:=c.asym x x e;rw [e] at this;exact this
theorem az {σ α:Type} {M:Model} {m:StateT σ Sem α} {st : σ} {Q Q' : α -> σ -> Prop} (h:wpS M A E s m Q st) (q:∀ a st',Q a st'->Q' a st'):wpS M A E s m Q' st :=
 wpAny_mono h (fun a s' z=>⟨z.1,q _ _ z.2⟩) fun _ _ z=>z
end
noncomputable abbrev zW:=Bool->Keyed->Array Keyed->Nat->Nat->Nat->StateT SortSt Sem (Option Nat)
noncomputable abbrev zX:=Array Keyed->Array Keyed->StateT SortSt Sem (Array Keyed)
noncomputable def bey (lt:Keyed->Keyed->Bool) (left:Bool) (key x:Keyed):Bool:=if left=true then lt x key else !(lt key x)
structure Same (st st':SortSt):Prop where
 arr:arrOf st'=arrOf st
 kind:kindOf st'=kindOf st
 pend:pendingOf st'=pendingOf st
 fail:failedOf st'=failedOf st
noncomputable def fQ (prog:Program) (w:World) (A:Around) (E:Value->Shared->Prop) (s:Shared) (kd:SortKind) (P:Keyed->Prop) (lt:Keyed->Keyed->Bool) (g:zW):Prop :=
 ∀ (left:Bool) (key:Keyed) (arr:Array Keyed) (L xs R:List Keyed) (base n hint:Nat) (st:SortSt) (Q:Option Nat->SortSt->Prop),kindOf st=kd->P key->arr.toList=L++xs++R->base=L.length->n=xs.length->(∀ x∈xs,P x)->hint < n ->
  xs.Pairwise (fun x y=>lt y x=false) ->
  (∀ X Y,xs=X++Y->(∀ x∈X,bey lt left key x=true)->(∀ x∈Y,bey lt left key x=false)->Q (some X.length) st) ->
  wpS (PySem.model prog w) A E s (g left key arr base n hint) Q st
noncomputable def fR (prog:Program) (w:World) (A:Around) (E:Value->Shared->Prop) (s:Shared) (kd:SortKind) (P:Keyed->Prop) (lt:Keyed->Keyed->Bool) (m:zX):Prop :=
 ∀ (a b:Array Keyed) (st:SortSt) (Q:Array Keyed->SortSt->Prop),kindOf st=kd->(∀ x∈a.toList,P x)->(∀ x∈b.toList,P x)->0 < a.size->0 < b.size ->
  a.toList.Pairwise (fun x y=>lt y x=false)->b.toList.Pairwise (fun x y=>lt y x=false)->(∀ x y,a[0]? = some x->b[0]? = some y->lt x y=false)->(∀ x y,a[a.size - 1]? = some x->b[b.size - 1]? = some y->lt x y=false) ->
  (∀ r st',r.toList.Perm (a.toList++b.toList)->r.toList.Pairwise (fun x y=>lt y x=false)->Same st st'->Q r st') ->
  wpS (PySem.model prog w) A E s (m a b) Q st
section
variable {prog:Program} {w:World} {A:Around} {E:Value->Shared->Prop} {s:Shared} {kd:SortKind} {P:Keyed->Prop} {lt:Keyed->Keyed->Bool}
theorem fo (c:Cm prog w A s kd P lt) {left:Bool} {key x:Keyed} {arr:Array Keyed} {j:Nat} {st:SortSt} {Q:Option Bool->SortSt->Prop} (n:kindOf st=kd) (hx:P key) (z:P x) (e:arr[j]? = some x) (q:Q (some (bey lt left key x)) st) :
 wpS (PySem.model prog w) A E s (do
  let x <- elem' arr j
  if left=true then lt' x key else do
   let r <- lt' key x
   pure (Option.map (fun x => !x) r)) Q st:=by
 refine wpS_bind (ay e ?_)
 cases left with
 | true=>exact iF c n z hx q
 | false=>exact wpS_bind (iF c n hx z (aa q))
theorem lP (c:Cm prog w A s kd P lt) {left:Bool} {key x y:Keyed} (h:lt y x=false) (hb:bey lt left key y=true):bey lt left key x=true:=by
 unfold bey at hb ⊢
 cases left with
 | true =>
   rw [if_pos rfl] at hb ⊢
   rcases c.neg y x key hb with q | q
   ·rw [h] at q;cases q
   ·exact q
 | false =>
   simp at hb ⊢
   cases e:lt key x with
   | false=>rfl
   | true =>
     rcases c.neg key y x e with q | q
     ·rw [hb] at q;cases q
     ·rw [h] at q;cases q
structure Gal (lt:Keyed->Keyed->Bool) (left:Bool) (key:Keyed) (xs:List Keyed) (lo hi:Nat):Prop where
 le:lo<=hi
 len:hi<=xs.length
 up:∀ i x,i < lo->xs[i]? = some x->bey lt left key x=true
 dn:∀ i x,hi<=i->xs[i]? = some x->bey lt left key x=false
theorem dQ {xs:List Keyed} {R:Keyed->Keyed->Prop} (h:xs.Pairwise R) {i j:Nat} {x y:Keyed} (n:i < j) (hx:xs[i]? = some x) (q:xs[j]? = some y):R x y:=by
 obtain ⟨h1,z⟩:=List.getElem?_eq_some_iff.mp hx
 obtain ⟨h2,B⟩:=List.getElem?_eq_some_iff.mp q
 rw [<- z, <- B]
 exact List.pairwise_iff_getElem.mp h i j h1 h2 n
theorem fS (c:Cm prog w A s kd P lt) {left:Bool} {key:Keyed} {xs:List Keyed} (h:xs.Pairwise (fun x y=>lt y x=false)) {j:Nat} {y:Keyed} (n:xs[j]? = some y) (hb:bey lt left key y=true):∀ i x,i < j+1->xs[i]? = some x->bey lt left key x=true:=by
 intro i x hi hx
 by_cases e:i=j
 ·subst e;rw [hx] at n;cases n;exact hb
 ·exact lP c (dQ h (by lia) hx n) hb
theorem fT (c:Cm prog w A s kd P lt) {left:Bool} {key:Keyed} {xs:List Keyed} (h:xs.Pairwise (fun x y=>lt y x=false)) {j:Nat} {y:Keyed} (n:xs[j]? = some y) (hb:bey lt left key y=false):∀ i x,j<=i->xs[i]? = some x->bey lt left key x=false:=by
 intro i x hi hx
 by_cases e:i=j
 ·subst e;rw [hx] at n;cases n;exact hb
 ·cases q:bey lt left key x with
  | false=>rfl
  | true=>have:=lP c (dQ h (by lia) n hx) q;rw [hb] at this;cases this
theorem Gal.out {left:Bool} {key:Keyed} {xs:List Keyed} {k:Nat} (g:Gal lt left key xs k k):∃ X Y,xs=X++Y/\X.length=k/\(∀ x∈X,bey lt left key x=true)/\(∀ x∈Y,bey lt left key x=false):=by
 refine ⟨xs.take k,xs.drop k,(List.take_append_drop k xs).symm,by rw [List.length_take];exact Nat.min_eq_left g.len,fun x hx => ?_,fun x hx => ?_⟩
 ·obtain ⟨i,hi,e⟩:=List.mem_iff_getElem.mp hx
  rw [List.length_take] at hi
  exact g.up i x (by lia) (by rw [List.getElem_take] at e;rw [<- e];exact List.getElem?_eq_getElem _)
 ·obtain ⟨i,hi,e⟩:=List.mem_iff_getElem.mp hx
  rw [List.length_drop] at hi
  refine g.dn (k+i) x (by lia) ?_
  rw [List.getElem_drop] at e
  rw [<- e];exact List.getElem?_eq_getElem _
noncomputable abbrev Ord (lt:Keyed->Keyed->Bool) (l:List Keyed):Prop:=l.Pairwise fun x y=>lt y x=false
theorem lQ {out X A' B:List Keyed} (h1:Ord lt (out++(X++A'))) (h2:Ord lt (out++B)) (h:∀ x∈X, ∀ y∈B,lt y x=false):Ord lt ((out++X)++A')/\Ord lt ((out++X)++B):=by
 refine ⟨by rw [List.append_assoc];exact h1, ?_⟩
 rw [List.append_assoc]
 obtain ⟨j,n,q⟩:=List.pairwise_append.mp h1
 obtain ⟨J,p2,F⟩:=List.pairwise_append.mp h2
 obtain ⟨G,L,O⟩:=List.pairwise_append.mp n
 refine List.pairwise_append.mpr ⟨j,List.pairwise_append.mpr ⟨G,p2,h⟩,fun x hx y I => ?_⟩
 rcases List.mem_append.mp I with z | z
 ·exact q x hx y (List.mem_append_left _ z)
 ·exact F x hx y z
structure ML (lt:Keyed->Keyed->Bool) (la lb out:List Keyed) (ia ib:Nat):Prop where
 pa:Ord lt (out++la.drop ia)
 pb:Ord lt (out++lb.drop ib)
 pm:(out++(la.drop ia++lb.drop ib)).Perm (la++lb)
theorem nP (c:Cm prog w A s kd P lt) {l:List Keyed} {i:Nat} {x y:Keyed} (h:Ord lt (l.drop i)) (j:l[i]? = some y) (hx:lt y x=false):∀ z∈l.drop i,lt z x=false:=by
 obtain ⟨hi,e⟩:=List.getElem?_eq_some_iff.mp j
 rw [List.drop_eq_getElem_cons hi,e] at h ⊢
 intro z n
 rcases List.mem_cons.mp n with q | q
 ·rw [q];exact hx
 ·exact c.le_trans hx ((List.pairwise_cons.mp h).1 z q)
theorem cW {l X Y:List Keyed} {i:Nat} (e:l.drop i=X++Y):l.drop (i+X.length)=Y:=by
 rw [<- List.drop_drop,e,List.drop_left]
theorem ML.galA (c:Cm prog w A s kd P lt) {la lb out X Y:List Keyed} {ia ib:Nat} {y:Keyed} (m:ML lt la lb out ia ib) (e:la.drop ia=X++Y) (j:lb[ib]? = some y) (h:∀ x∈X,lt y x=false):ML lt la lb (out++X) (ia+X.length) ib:=by
 have p2:=(List.pairwise_append.mp m.pb).2.1
 have q:=lQ (X:=X) (A':=Y) (by rw [<- e];exact m.pa) m.pb fun x hx=>nP c p2 j (h x hx)
 refine ⟨by rw [cW e];exact q.1,q.2, ?_⟩
 rw [cW e]
 refine List.Perm.trans (List.Perm.of_eq ?_) m.pm
 rw [e];simp
theorem ML.galB (c:Cm prog w A s kd P lt) {la lb out X Y:List Keyed} {ia ib:Nat} {y:Keyed} (m:ML lt la lb out ia ib) (e:lb.drop ib=X++Y) (j:la[ia]? = some y) (h:∀ x∈X,lt y x=false):ML lt la lb (out++X) ia (ib+X.length):=by
 have p2:=(List.pairwise_append.mp m.pa).2.1
 have q:=lQ (X:=X) (A':=Y) (by rw [<- e];exact m.pb) m.pa fun x hx=>nP c p2 j (h x hx)
 refine ⟨q.2,by rw [cW e];exact q.1, ?_⟩
 rw [cW e]
 refine List.Perm.trans ?_ m.pm
 rw [e,List.append_assoc]
 refine List.Perm.append_left _ ?_
 rw [<- List.append_assoc, <- List.append_assoc]
 exact List.Perm.append_right _ List.perm_append_comm
theorem cX {l:List Keyed} {i:Nat} {x:Keyed} (h:l[i]? = some x):l.drop i=[x]++l.drop (i+1):=by
 obtain ⟨hi,e⟩:=List.getElem?_eq_some_iff.mp h
 rw [List.drop_eq_getElem_cons hi,e];rfl
theorem ML.pushA (c:Cm prog w A s kd P lt) {la lb out:List Keyed} {ia ib:Nat} {x y:Keyed} (m:ML lt la lb out ia ib) (hx:la[ia]? = some x) (j:lb[ib]? = some y) (h:lt y x=false):ML lt la lb (out++[x]) (ia+1) ib :=
 m.galA c (cX hx) j (by simpa using h)
theorem ML.pushB (c:Cm prog w A s kd P lt) {la lb out:List Keyed} {ia ib:Nat} {x y:Keyed} (m:ML lt la lb out ia ib) (hx:la[ia]? = some x) (j:lb[ib]? = some y) (h:lt x y=false):ML lt la lb (out++[y]) ia (ib+1) :=
 m.galB c (cX j) hx (by simpa using h)
noncomputable def Res (lt:Keyed->Keyed->Bool) (la lb r:List Keyed):Prop:=r.Perm (la++lb)/\Ord lt r
theorem ML.fin {la lb out:List Keyed} {ia ib:Nat} (m:ML lt la lb out ia ib) (h:lb.length<=ib):Res lt la lb (out++la.drop ia++lb.drop ib):=by
 rw [List.drop_eq_nil_of_le h,List.append_nil]
 refine ⟨?_,m.pa⟩
 have:=m.pm
 rw [List.drop_eq_nil_of_le h,List.append_nil] at this
 exact this
theorem ML.finE {la lb out:List Keyed} {ia ib:Nat} (m:ML lt la lb out ia ib) (h:la.length<=ia):Res lt la lb (out++la.drop ia++lb.drop ib):=by
 rw [List.drop_eq_nil_of_le h,List.append_nil]
 refine ⟨?_,m.pb⟩
 have:=m.pm
 rw [List.drop_eq_nil_of_le h,List.nil_append] at this
 exact this
theorem ML.finA {la lb out:List Keyed} {ia ib:Nat} (m:ML lt la lb out ia ib) (h:∀ x∈lb, ∀ y∈la.drop ia,lt y x=false):Res lt la lb (out++lb.drop ib++la.drop ia):=by
 refine ⟨?_, ?_⟩
 ·refine List.Perm.trans ?_ m.pm
  rw [List.append_assoc]
  exact List.Perm.append_left _ List.perm_append_comm
 ·obtain ⟨B,n,q⟩:=List.pairwise_append.mp m.pa
  refine List.pairwise_append.mpr ⟨m.pb,n,fun x hx y j => ?_⟩
  rcases List.mem_append.mp hx with z | z
  ·exact q x z y j
  ·exact h x (List.mem_of_mem_drop z) y j
theorem ML.size {la lb out:List Keyed} {ia ib:Nat} (m:ML lt la lb out ia ib) (j:ia<=la.length) (hb:ib<=lb.length):out.length=ia+ib:=by
 have:=m.pm.length_eq
 simp only [List.length_append,List.length_drop] at this
 lia
theorem ax {a:Array Keyed} {i:Nat} (h:i < a.size):∃ x,a[i]? = some x/\a.toList[i]? = some x/\x∈a.toList:=by
 refine ⟨a[i],Array.getElem?_eq_getElem h, ?_,Array.getElem_mem_toList h⟩
 rw [Array.getElem?_toList];exact Array.getElem?_eq_getElem h
theorem bo {a:Array Keyed} {i:Nat}:(a.extract i).toList=a.toList.drop i:=by
 rw [Array.toList_extract]
 simp only [List.extract]
 exact List.take_of_length_le (by simp)
theorem xV {a:Array Keyed} {i:Nat} {X Y:List Keyed} (e:a.toList.drop i=X++Y):(a.extract i (i+X.length)).toList=X:=by
 rw [Array.toList_extract]
 simp [List.extract,e]
theorem Same.refl {st:SortSt}:Same st st:=⟨rfl,rfl,rfl,rfl⟩
theorem Same.trans {a b c:SortSt} (h:Same a b) (g:Same b c):Same a c:=⟨g.arr.trans h.arr,g.kind.trans h.kind,g.pend.trans h.pend,g.fail.trans h.fail⟩
theorem jQ {O Y A' B:List Keyed} (h1:Ord lt (A'++(Y++O))) (h2:Ord lt (B++O)) (h:∀ y∈Y, ∀ x∈B,lt y x=false):Ord lt (B++(Y++O)):=by
 obtain ⟨G,j,I⟩:=List.pairwise_append.mp h1
 obtain ⟨n,p2,q⟩:=List.pairwise_append.mp h2
 refine List.pairwise_append.mpr ⟨n,j,fun x hx y F => ?_⟩
 rcases List.mem_append.mp F with z | z
 ·exact h y z x hx
 ·exact q x hx y z
structure MH (lt:Keyed->Keyed->Bool) (la lb out:List Keyed) (na nb:Nat):Prop where
 pa:Ord lt (la.take na++out.reverse)
 pb:Ord lt (lb.take nb++out.reverse)
 pm:(la.take na++lb.take nb++out.reverse).Perm (la++lb)
theorem fU (c:Cm prog w A s kd P lt) {l:List Keyed} {n:Nat} {x y:Keyed} (h:Ord lt (l.take n)) (G : 0 < n) (B:l[n - 1]? = some y) (hx:lt x y=false):∀ z∈l.take n,lt x z=false:=by
 intro z F
 obtain ⟨i,hi,e⟩:=List.mem_iff_getElem.mp F
 have j:(l.take n)[i]? = some z:=by rw [<- e];exact List.getElem?_eq_getElem hi
 have q:(l.take n)[n - 1]? = some y:=by rw [List.getElem?_take_of_lt (by lia)];exact B
 rw [List.length_take] at hi
 by_cases hin:i=n - 1
 ·subst hin;rw [q] at j;cases j;exact hx
 ·exact c.le_trans (dQ h (by lia) j q) hx
theorem cY {l X Y:List Keyed} {n:Nat} (e:l.take n=X++Y):l.take X.length=X:=by
 have h:X.length<=n:=by
  have:=congrArg List.length e
  simp only [List.length_take,List.length_append] at this;lia
 have h2:(l.take n).take X.length=X:=by rw [e,List.take_left]
 rw [List.take_take,Nat.min_eq_left h] at h2
 exact h2
theorem MH.galA (c:Cm prog w A s kd P lt) {la lb out X Y:List Keyed} {na nb:Nat} {y:Keyed} (m:MH lt la lb out na nb) (e:la.take na=X++Y) (j : 0 < nb) (n:lb[nb - 1]? = some y) (h:∀ x∈Y,lt x y=false):MH lt la lb (out++Y.reverse) X.length nb:=by
 have p2:=(List.pairwise_append.mp m.pb).1
 have h1:Ord lt (X++(Y++out.reverse)):=by rw [<- List.append_assoc, <- e];exact m.pa
 have q:=jQ h1 m.pb fun x hx=>fU c p2 j n (h x hx)
 refine ⟨by rw [cY e];simpa using h1,by simpa using q, ?_⟩
 rw [cY e]
 refine List.Perm.trans ?_ m.pm
 rw [e]
 simp only [List.reverse_append,List.reverse_reverse,List.append_assoc]
 refine List.Perm.append_left _ ?_
 rw [<- List.append_assoc, <- List.append_assoc]
 exact List.Perm.append_right _ List.perm_append_comm
theorem MH.galB (c:Cm prog w A s kd P lt) {la lb out X Y:List Keyed} {na nb:Nat} {y:Keyed} (m:MH lt la lb out na nb) (e:lb.take nb=X++Y) (j : 0 < na) (n:la[na - 1]? = some y) (h:∀ x∈Y,lt x y=false):MH lt la lb (out++Y.reverse) na X.length:=by
 have p2:=(List.pairwise_append.mp m.pa).1
 have h1:Ord lt (X++(Y++out.reverse)):=by rw [<- List.append_assoc, <- e];exact m.pb
 have q:=jQ h1 m.pa fun x hx=>fU c p2 j n (h x hx)
 refine ⟨by simpa using q,by rw [cY e];simpa using h1, ?_⟩
 rw [cY e]
 refine List.Perm.trans (List.Perm.of_eq ?_) m.pm
 rw [e];simp
theorem bZ {l:List Keyed} {n:Nat} {x:Keyed} (j : 0 < n) (h:l[n - 1]? = some x):l.take n=l.take (n - 1)++[x]:=by
 obtain ⟨k,rfl⟩:∃ k,n=k+1:=⟨n - 1,by lia⟩
 rw [Nat.add_sub_cancel] at h ⊢
 rw [List.take_add_one,h];rfl
theorem nQ {l:List Keyed} {n:Nat} {x:Keyed} (j : 0 < n) (h:l[n - 1]? = some x):(l.take (n - 1)).length=n - 1:=by
 obtain ⟨hi,_⟩:=List.getElem?_eq_some_iff.mp h
 rw [List.length_take];lia
theorem MH.pushA (c:Cm prog w A s kd P lt) {la lb out:List Keyed} {na nb:Nat} {x y:Keyed} (m:MH lt la lb out na nb) (j : 0 < na) (hb : 0 < nb) (hx:la[na - 1]? = some x) (n:lb[nb - 1]? = some y) (h:lt x y=false):MH lt la lb (out++[x]) (na - 1) nb:=by
 have q:=m.galA c (bZ j hx) hb n (by simpa using h)
 rw [nQ j hx] at q
 simpa using q
theorem MH.pushB (c:Cm prog w A s kd P lt) {la lb out:List Keyed} {na nb:Nat} {x y:Keyed} (m:MH lt la lb out na nb) (n : 0 < na) (hb : 0 < nb) (hx:la[na - 1]? = some x) (j:lb[nb - 1]? = some y) (h:lt y x=false):MH lt la lb (out++[y]) na (nb - 1):=by
 have q:=m.galB c (bZ hb j) n hx (by simpa using h)
 rw [nQ hb j] at q
 simpa using q
theorem MH.fin {la lb out:List Keyed} {na nb:Nat} (m:MH lt la lb out na nb) (h:na=0∨nb=0):Res lt la lb (la.take na++lb.take nb++out.reverse):=by
 refine ⟨m.pm, ?_⟩
 rcases h with rfl | rfl
 ·simpa using m.pb
 ·simpa using m.pa
theorem MH.finB {la lb out:List Keyed} {na nb:Nat} (m:MH lt la lb out na nb) (h:∀ x∈lb.take nb, ∀ y∈la,lt y x=false):Res lt la lb (lb.take nb++la.take na++out.reverse):=by
 refine ⟨List.Perm.trans (List.Perm.append_right _ List.perm_append_comm) m.pm, ?_⟩
 obtain ⟨j,B,n⟩:=List.pairwise_append.mp m.pb
 rw [List.append_assoc]
 refine List.pairwise_append.mpr ⟨j,m.pa,fun x hx y q => ?_⟩
 rcases List.mem_append.mp q with z | z
 ·exact h x hx y (List.mem_of_mem_take z)
 ·exact n x hx y z
theorem MH.size {la lb out:List Keyed} {na nb:Nat} (m:MH lt la lb out na nb) (j:na<=la.length) (hb:nb<=lb.length):out.length+na+nb=la.length+lb.length:=by
 have:=m.pm.length_eq
 simp only [List.length_append,List.length_take,List.length_reverse] at this
 lia
theorem du {a:Array Keyed}:a.toList.take a.size=a.toList:=List.take_of_length_le (by simp)
theorem b4 {a:Array Keyed} {i:Nat}:(a.extract 0 i).toList=a.toList.take i:=by
 rw [Array.toList_extract];simp [List.extract]
theorem uN {a:Array Keyed} {n:Nat} {X Y:List Keyed} (e:a.toList.take n=X++Y):(a.extract X.length n).toList=Y:=by
 rw [Array.toList_extract]
 simp only [List.extract]
 rw [<- List.drop_take,e,List.drop_left]
theorem uO:∀ (m old L R:List Keyed) (a:Array Keyed),a.toList=L++old++R->m.length=old.length->(List.foldl (fun a x=>a.setIfInBounds (L.length+x.snd) x.fst) a m.zipIdx).toList=L++m++R:=by
 have g:∀ (m old L R:List Keyed) (k:Nat) (a:Array Keyed),a.toList=L++old++R->m.length=old.length -> ∀ b:Nat,b+k=L.length->(List.foldl (fun a x=>a.setIfInBounds (b+x.snd) x.fst) a (m.zipIdx k)).toList=L++m++R:=by
  intro m
  induction m with
  | nil =>
    intro old L R k a e h b hb
    have:old=[]:=List.length_eq_zero_iff.mp h.symm
    subst this
    simpa using e
  | cons x m ih =>
    intro old L R k a e h b hb
    cases old with
    | nil=>simp at h
    | cons y old =>
      rw [List.zipIdx_cons,List.foldl_cons]
      have j:(a.setIfInBounds (b+k) x).toList=(L++[x])++old++R:=by
       rw [Array.toList_setIfInBounds,e,hb]
       simp
      have:=ih old (L++[x]) R (k+1) _ j (by simpa using h) b (by simp;lia)
      rw [this];simp
 exact fun m old L R a e h=>g m old L R 0 a e h L.length (by lia)
theorem ae {σ α:Type} {M:Model} {p:Prop} [Decidable p] {j n:StateT σ Sem α} {st : σ} {Q : α -> σ -> Prop} (h1:p->wpS M A E s j Q st) (h2 : ¬p->wpS M A E s n Q st):wpS M A E s (if p then j else n) Q st:=by
 split
 ·next h=>exact h1 h
 ·next h=>exact h2 h
theorem ML.cut {a out:Array Keyed} {la lb X Y:List Keyed} {i j n:Nat} (m:ML lt la lb (out.toList++X) i j) (e:a.toList.drop n=X++Y):ML lt la lb (out++a.extract n (n+X.length)).toList i j:=by
 rw [Array.toList_append,xV e];exact m
theorem MH.cut {a out:Array Keyed} {la lb X Y:List Keyed} {i j n:Nat} (m:MH lt la lb (out.toList++Y.reverse) i j) (e:a.toList.take n=X++Y):MH lt la lb (out++(a.extract X.length n).reverse).toList i j:=by
 rw [Array.toList_append,Array.toList_reverse,uN e];exact m
theorem rG {σ α:Type} {M:Model} {m:StateT σ Sem α} {st : σ} {Q : α -> σ -> Prop} {P : σ -> Prop} (j:P st) (h:∀ st',P st'->wpS M A E s m Q st'):wpS M A E s m Q st:=h st j
theorem wa {σ α:Type} {M:Model} {m:StateT σ Sem α} {st : σ} {Q : α -> σ -> Prop} (h:∀ Q' : α -> σ -> Prop,(∀ a st',Q a st'->Q' a st')->wpS M A E s m Q' st):wpS M A E s m Q st:=h Q fun _ _ h=>h
theorem wb {key x:Keyed} (h:bey lt false key x=true):lt key x=false:=by simpa [bey] using h
theorem rH {key x:Keyed} (h:bey lt false key x=false):lt key x=true:=by simpa [bey] using h
theorem wc {key x:Keyed} (h:bey lt true key x=true):lt x key=true:=by simpa [bey] using h
theorem rJ {key x:Keyed} (h:bey lt true key x=false):lt x key=false:=by simpa [bey] using h
theorem lU {l X Y:List Keyed} {i:Nat} {x:Keyed} (e:l.drop i=X++Y) (h:l[i+X.length]? = some x):x∈Y:=by
 rw [<- cW e,cX h];simp
theorem lV {l X Y:List Keyed} {n:Nat} {x:Keyed} (e:l.take n=X++Y) (h0 : 0 < X.length) (h:l[X.length - 1]? = some x):x∈X:=by
 have:=bZ h0 h
 rw [cY e] at this
 rw [this];simp
theorem lW {a:Array Keyed} {X Y:List Keyed} {i:Nat} (e:a.toList.drop i=X++Y):X.length<=a.size - i:=by
 have:=congrArg List.length e
 simp at this;lia
theorem jR {a:Array Keyed} {X Y:List Keyed} {n:Nat} (e:a.toList.take n=X++Y) (h:n<=a.size):X.length+Y.length=n:=by
 have:=congrArg List.length e
 simp at this;lia
theorem eD {a:Array Keyed} {n:Nat} (h:n<=a.size):n=(a.toList.take n).length:=by simp;lia
theorem ML.finR {a b out:Array Keyed} {ia ib:Nat} (m:ML lt a.toList b.toList out.toList ia ib) (h:b.size<=ib):Res lt a.toList b.toList (out++a.extract ia++b.extract ib).toList:=by
 have:=m.fin (by simpa using h)
 simpa only [Array.toList_append,bo] using this
theorem ML.finS {a b out:Array Keyed} {ia ib:Nat} (m:ML lt a.toList b.toList out.toList ia ib) (h:a.size<=ia):Res lt a.toList b.toList (out++a.extract ia++b.extract ib).toList:=by
 have:=m.finE (by simpa using h)
 simpa only [Array.toList_append,bo] using this
theorem ML.finL {a b out:Array Keyed} {ia ib:Nat} (m:ML lt a.toList b.toList out.toList ia ib) (h:∀ x∈b.toList, ∀ y∈a.toList.drop ia,lt y x=false):Res lt a.toList b.toList (out++b.extract ib++a.extract ia).toList:=by
 have:=m.finA h
 simpa only [Array.toList_append,bo] using this
theorem MH.finR {a b out:Array Keyed} {na nb:Nat} (m:MH lt a.toList b.toList out.toList na nb) (h:∀ x∈b.toList.take nb, ∀ y∈a.toList,lt y x=false):Res lt a.toList b.toList (b.extract 0 nb++a.extract 0 na++out.reverse).toList:=by
 have:=m.finB h
 simpa only [Array.toList_append,Array.toList_reverse,b4] using this
theorem MH.finL {a b out:Array Keyed} {na nb:Nat} (m:MH lt a.toList b.toList out.toList na nb) (h:na=0∨nb=0):Res lt a.toList b.toList (a.extract 0 na++b.extract 0 nb++out.reverse).toList:=by
 have:=m.fin h
 simpa only [Array.toList_append,Array.toList_reverse,b4] using this
theorem B2 (c:Cm prog w A s kd P lt) :
 ∃ (g:zW) (lo hi:zX),(fQ prog w A E s kd P lt g/\(fQ prog w A E s kd P lt g->fR prog w A E s kd P lt lo)/\(fQ prog w A E s kd P lt g->fR prog w A E s kd P lt hi))/\(fQ prog w A E s kd P lt g->fR prog w A E s kd P lt lo->fR prog w A E s kd P lt hi ->
  ∀ (i sa na pa sb nb pb:Nat) (L r1 r2 R:List Keyed) (st:SortSt) (Q:Bool->SortSt->Prop),kindOf st=kd->failedOf st=none->(pendingOf st)[i]? = some (sa,na,pa)->(pendingOf st)[i+1]? = some (sb,nb,pb) ->
   (arrOf st).toList=L++(r1++r2)++R->sa=L.length->na=r1.length->sb=L.length+r1.length->nb=r2.length->r1≠[]->r2≠[]->(∀ x∈r1,P x)->(∀ x∈r2,P x)->Ord lt r1->Ord lt r2 ->
   (∀ m st',(arrOf st').toList=L++m++R->m.Perm (r1++r2)->Ord lt m->kindOf st'=kd->failedOf st'=none->pendingOf st'=((pendingOf st).setIfInBounds i (sa,na+nb,pa)).eraseIdxIfInBounds (i+1)->Q true st') ->
   wpS (PySem.model prog w) A E s (mergeAt' i) Q st):=by
 apply Exists.intro
 apply Exists.intro
 apply Exists.intro
 apply And.intro
 rotate_left
 ·intro hg DH DI i sa na pa sb nb pb L r1 r2 R st Q hk hf h1 h2 S Da Cu Db CL DJ DK Dl Dm o1 o2 q
  unfold mergeAt'
  refine wpS_bind (wpS_get ?_)
  rw [h1,h2]
  dsimp only
  refine wpS_bind (xU ?_)
  obtain ⟨y0,t2,rfl⟩:∃ y t,r2=y::t:=by cases r2 with | nil=>exact absurd rfl DK | cons y t=>exact ⟨y,t,rfl⟩
  have hz:(arrOf st)[sb]? = some y0:=by
   rw [<- Array.getElem?_toList,S,Db];simp
  refine wpS_bind (ay hz ?_)
  refine wpS_bind (hg false y0 (arrOf st) L r1 (y0::t2++R) sa na 0 _ _ hk (Dm _ (by simp)) (by rw [S];simp) Da Cu Dl (by rw [Cu];exact List.length_pos_iff.mpr DJ) o1 fun X Y e hX hY => ?_)
  dsimp only
  have lX:∀ x∈X,lt y0 x=false:=fun x hx=>by have:=hX x hx;simpa [bey] using this
  have lY:∀ x∈Y,lt x y0=false:=fun x hx=>c.asym _ _ (by have:=hY x hx;simpa [bey] using this)
  have hlen:na - X.length=Y.length:=by rw [Cu,e];simp
  subst e
  obtain ⟨oX,oY,oXY⟩:=List.pairwise_append.mp o1
  have oy:=List.pairwise_cons.mp o2
  have Dc:∀ x∈X, ∀ z∈y0::t2,lt z x=false:=fun x hx z hz=>by
   rcases List.mem_cons.mp hz with h | h
   ·rw [h];exact lX x hx
   ·exact c.le_trans (lX x hx) (oy.1 z h)
  refine ae (fun h => ?_) (fun h => ?_)
  ·have Dd:Y=[]:=List.length_eq_zero_iff.mp (by rw [<- hlen];simpa using h)
   subst Dd
   refine aa (q (X++(y0::t2)) _ (by simpa using S) (by simp) ?_ hk hf rfl)
   exact List.pairwise_append.mpr ⟨oX,o2,Dc⟩
  ·have Dd : 0 < Y.length:=by
    have:na - X.length≠0:=by simpa using h
    lia
   obtain ⟨Y0,xl,rfl⟩:∃ Y0 xl,Y=Y0++[xl]:=⟨Y.dropLast,Y.getLast (by intro z;rw [z] at Dd;simp at Dd),(List.dropLast_concat_getLast _).symm⟩
   have DL:(arrOf st)[sa+X.length+(na - X.length) - 1]? = some xl:=by
    rw [<- Array.getElem?_toList,S,hlen,Da]
    simp only [List.append_assoc,List.length_append,List.length_singleton]
    rw [List.getElem?_append_right (by lia),List.getElem?_append_right (by lia),List.getElem?_append_right (by lia)]
    rw [show L.length+X.length+(Y0.length+1) - 1 - L.length - X.length - Y0.length=0 by lia];rfl
   refine wpS_bind (ay DL ?_)
   refine wpS_bind (hg true xl (arrOf st) (L++(X++(Y0++[xl]))) (y0::t2) R sb nb (nb - 1) _ _ hk (Dl _ (by simp)) (by rw [S];simp) (by rw [Db];simp) CL Dm (by rw [CL];simp) o2 fun X2 Y2 e2 Cv Cw => ?_)
   dsimp only
   have DM:∀ x∈X2,lt xl x=false:=fun x hx=>c.asym _ _ (by have:=Cv x hx;simpa [bey] using this)
   have Dv:∀ x∈Y2,lt x xl=false:=fun x hx=>by have:=Cw x hx;simpa [bey] using this
   have DN:Ord lt (X2++Y2):=by rw [<- e2];exact o2
   obtain ⟨DO,DP,Dw⟩:=List.pairwise_append.mp DN
   obtain ⟨DX,_,oYl⟩:=List.pairwise_append.mp oY
   have lYY:∀ x∈Y0++[xl], ∀ z∈Y2,lt z x=false:=fun x hx z hz=>by
    rcases List.mem_append.mp hx with h | h
    ·exact c.le_trans (oYl x h xl (by simp)) (Dv z hz)
    ·simp at h;subst h;exact Dv z hz
   refine ae (fun h => ?_) (fun h => ?_)
   ·have Cn:X2=[]:=List.length_eq_zero_iff.mp (by simpa using h)
    subst Cn
    have e2:y0::t2=Y2:=by simpa using e2
    refine aa (q (X++(Y0++[xl])++(y0::t2)) _ (by simpa using S) (List.Perm.refl _) ?_ hk hf rfl)
    refine List.pairwise_append.mpr ⟨o1,o2,fun x hx z hz => ?_⟩
    rcases List.mem_append.mp hx with g | g
    ·exact Dc x g z hz
    ·exact lYY x g z (by rw [<- e2];exact hz)
   ·have Cn:X2≠[]:=fun z=>h (by rw [z];rfl)
    have hx:((arrOf st).extract (sa+X.length) sb).toList=Y0++[xl]:=by
     rw [Array.toList_extract,S,Da,Db]
     simp only [List.extract]
     have e1:(L++(X++(Y0++[xl])++y0::t2)++R).drop (L.length+X.length)=(Y0++[xl])++(y0::t2++R):=by
      rw [<- List.drop_drop];simp
     rw [e1,show L.length+(X++(Y0++[xl])).length - (L.length+X.length)=(Y0++[xl]).length by simp only [List.length_append];lia,List.take_left]
    have hy:((arrOf st).extract sb (sb+X2.length)).toList=X2:=by
     rw [Array.toList_extract,S,Db]
     simp only [List.extract]
     have e1:(L++(X++(Y0++[xl])++y0::t2)++R).drop (L.length+(X++(Y0++[xl])).length)=(y0::t2)++R:=by
      rw [<- List.drop_drop];simp
     rw [e1,e2]
     simp
    have G:∀ (r:Array Keyed) (BR:SortSt),r.toList.Perm ((Y0++[xl])++X2)->Ord lt r.toList->Same (PyProof.Rows.SortSt.mk' (kindOf st) (arrOf st) (((pendingOf st).setIfInBounds i (sa,na+nb,pa)).eraseIdxIfInBounds (i+1)) (gallopOf st) (failedOf st)) BR -> ∀ U:SortSt,arrOf U=List.foldl (fun a x=>a.setIfInBounds (sa+X.length+x.snd) x.fst) (arrOf BR) r.toList.zipIdx->kindOf U=kindOf BR->failedOf U=failedOf BR->pendingOf U=pendingOf BR->Q (failedOf U).isNone U:=by
     intro r BR hp ho hs U g1 g2 g3 g4
     have Dx:failedOf U=none:=g3.trans (hs.fail.trans hf)
     rw [Dx]
     refine q (X++r.toList++Y2) U ?_ ?_ ?_ (g2.trans (hs.kind.trans hk)) Dx (g4.trans hs.pend)
     ·rw [g1,hs.arr]
      have e3:(arrOf st).toList=(L++X)++((Y0++[xl])++X2)++(Y2++R):=by
       rw [S,e2];simp
      rw [show sa+X.length=(L++X).length by rw [Da];simp]
      rw [uO _ _ _ _ _ e3 (hp.length_eq)]
      simp
     ·rw [e2]
      refine List.Perm.trans (List.Perm.append_right _ (List.Perm.append_left _ hp)) ?_
      simp
     ·refine List.pairwise_append.mpr ⟨List.pairwise_append.mpr ⟨oX,ho,fun x hx z hz => ?_⟩,DP,fun x hx z hz => ?_⟩
      ·rcases List.mem_append.mp (hp.mem_iff.mp hz) with g | g
       ·exact oXY x hx z g
       ·exact Dc x hx z (by rw [e2];exact List.mem_append_left _ g)
      ·rcases List.mem_append.mp hx with g | g
       ·exact Dc x g z (by rw [e2];exact List.mem_append_right _ hz)
       ·rcases List.mem_append.mp (hp.mem_iff.mp g) with g | g
        ·exact lYY x g z hz
        ·exact Dw x g z hz
    have Di:∀ x y,((arrOf st).extract (sa+X.length) sb)[0]? = some x->((arrOf st).extract sb (sb+X2.length))[0]? = some y->lt x y=false:=by
     intro x y Ce CM
     rw [<- Array.getElem?_toList,hx] at Ce
     rw [<- Array.getElem?_toList,hy] at CM
     have CN:=List.mem_of_getElem? Ce
     have:y=y0:=by
      cases X2 with
      | nil=>exact absurd rfl Cn
      | cons z t=>simp at e2 CM;rw [<- CM, <- e2.1]
     subst this
     exact lY x CN
    have preL:∀ x y,((arrOf st).extract (sa+X.length) sb)[((arrOf st).extract (sa+X.length) sb).size - 1]? = some x->((arrOf st).extract sb (sb+X2.length))[((arrOf st).extract sb (sb+X2.length)).size - 1]? = some y->lt x y=false:=by
     intro x y Ce CM
     rw [<- Array.getElem?_toList, <- Array.length_toList,hx] at Ce
     rw [<- Array.getElem?_toList, <- Array.length_toList,hy] at CM
     have Cf:=List.mem_of_getElem? CM
     have:x=xl:=by simp at Ce;exact Ce.symm
     subst this
     exact DM y Cf
    have Dy : 0 < ((arrOf st).extract (sa+X.length) sb).size:=by rw [<- Array.length_toList,hx];simp
    have Dz : 0 < ((arrOf st).extract sb (sb+X2.length)).size:=by rw [<- Array.length_toList,hy];exact List.length_pos_iff.mpr Cn
    have DA:∀ x∈((arrOf st).extract (sa+X.length) sb).toList,P x:=by rw [hx];exact fun x hx=>Dl x (List.mem_append_right _ hx)
    have DB:∀ x∈((arrOf st).extract sb (sb+X2.length)).toList,P x:=by rw [hy];exact fun x hx=>Dm x (by rw [e2];exact List.mem_append_left _ hx)
    have DC:Ord lt ((arrOf st).extract (sa+X.length) sb).toList:=by rw [hx];exact oY
    have DD:Ord lt ((arrOf st).extract sb (sb+X2.length)).toList:=by rw [hy];exact DO
    refine ae (fun h => ?_) (fun h => ?_)
    ·refine wpS_bind (DH _ _ _ _ hk DA DB Dy Dz DC DD Di preL fun r BR hp ho hs => ?_)
     rw [hx,hy] at hp
     refine wpS_bind (wpS_modify ?_)
     refine wpS_bind (wpS_get ?_)
     exact aa (G r BR hp ho hs _ rfl rfl rfl rfl)
    ·refine wpS_bind (DI _ _ _ _ hk DA DB Dy Dz DC DD Di preL fun r BR hp ho hs => ?_)
     rw [hx,hy] at hp
     refine wpS_bind (wpS_modify ?_)
     refine wpS_bind (wpS_get ?_)
     exact aa (G r BR hp ho hs _ rfl rfl rfl rfl)
 apply And.intro
 ·intro left key arr L xs R base n hint st Q hk Co S Dn hn hP hh hs q
  subst Dn hn
  have at_:∀ i,i < xs.length -> ∃ x,xs[i]? = some x/\arr[L.length+i]? = some x/\P x:=by
   intro i hi
   refine ⟨xs[i],List.getElem?_eq_getElem hi, ?_,hP _ (List.getElem_mem _)⟩
   rw [<- Array.getElem?_toList,S,List.append_assoc,List.getElem?_append_right (by lia),List.getElem?_append_left (by lia)]
   rw [show L.length+i - L.length=i by lia]
   exact List.getElem?_eq_getElem hi
  obtain ⟨x0,Ce,CO,DQ⟩:=at_ hint hh
  refine wpS_bind (fo c hk Co DQ CO ?_)
  try dsimp only
  refine ae (fun hb => ?_) (fun hb => ?_)
  ·skip
   refine wpS_bind (az (Q:=fun r st'=>st'=st /\ ∃ la ofs,r=(none,la,ofs)/\hint+la < xs.length/\la < ofs/\(∀ j x,j < hint+la+1->xs[j]? = some x->bey lt left key x=true)/\(xs.length<=hint+ofs ∨ ∀ j x,hint+ofs<=j->xs[j]? = some x->bey lt left key x=false))
    (wpS_forRange (fun i r st'=>st'=st /\ ∃ la ofs,r=(none,la,ofs)/\hint+la < xs.length/\la < ofs/\i+1<=ofs/\(∀ j x,j < hint+la+1->xs[j]? = some x->bey lt left key x=true)) ?_ ?_ ⟨rfl,0,1,rfl,hh,by lia,by lia,fS c hs Ce hb⟩) ?_)
   ·rintro i r st' _ hi ⟨rfl,la,ofs,rfl,h1,h2,h3,h4⟩
    try dsimp only
    refine ae (fun Cy => ?_) (fun Cy => ?_)
    ·exact aa ⟨rfl,la,ofs,rfl,h1,h2,h4, .inl (by lia)⟩
    ·skip
     obtain ⟨x1,C9,Cz,CA⟩:=at_ (hint+ofs) (by lia)
     refine wpS_bind (fo c hk Co CA Cz ?_)
     try dsimp only
     refine ae (fun hf => ?_) (fun hf => ?_)
     ·exact aa ⟨rfl,la,ofs,rfl,h1,h2,h4, .inr (fT c hs C9 (by simpa using hf))⟩
     ·exact aa ⟨rfl,ofs,2*ofs+1,rfl,by lia,by lia,by lia,fS c hs C9 (by simpa using hf)⟩
   ·rintro r st' ⟨rfl,la,ofs,rfl,h1,h2,h3,h4⟩
    exact ⟨rfl,la,ofs,rfl,h1,h2,h4, .inl (by lia)⟩
   ·rintro r st' ⟨rfl,la,ofs,rfl,h1,h2,h3,h4⟩
    try dsimp only
    have Z:Gal lt left key xs (hint+la+1) (hint+min ofs (xs.length - hint)):=by
     refine ⟨by lia,by lia,h3,fun i x hi hx => ?_⟩
     have DY:i < xs.length:=(List.getElem?_eq_some_iff.mp hx).1
     rcases h4 with h4 | h4
     ·lia
     ·exact h4 i x (by lia) hx
    generalize hint+la+1=lo at Z
    generalize hint+min ofs (xs.length - hint)=hi at Z
    refine wpS_bind (az (Q:=fun r st''=>st''=st' /\ ∃ k,r=(none,k,k)/\Gal lt left key xs k k)
     (wpS_forRange (fun i r st''=>st''=st' /\ ∃ lo hi,r=(none,lo,hi)/\Gal lt left key xs lo hi/\hi - lo+i<=xs.length) ?_ ?_ ⟨rfl,lo,hi,rfl,Z,by have:=Z.len;lia⟩) ?_)
    ·rintro i r st'' _ hi ⟨rfl,lo,hi,rfl,Z,hm⟩
     try dsimp only
     have hl:=Z.le
     have CP:=Z.len
     refine ae (fun Cy => ?_) (fun Cy => ?_)
     ·exact aa ⟨rfl,hi,by rw [show lo=hi by lia],by rw [show lo=hi by lia] at Z;exact Z⟩
     ·skip
      obtain ⟨x1,C9,Cz,CA⟩:=at_ (lo+(hi - lo) / 2) (by lia)
      refine wpS_bind (fo c hk Co CA Cz ?_)
      try dsimp only
      refine ae (fun hf => ?_) (fun hf => ?_)
      ·exact aa ⟨rfl,_,_,rfl,⟨by lia,CP,fS c hs C9 hf,Z.dn⟩,by lia⟩
      ·exact aa ⟨rfl,_,_,rfl,⟨by lia,by lia,Z.up,fT c hs C9 (by simpa using hf)⟩,by lia⟩
    ·rintro r st'' ⟨rfl,lo,hi,rfl,Z,hm⟩
     have hl:=Z.le
     exact ⟨rfl,hi,by rw [show lo=hi by lia],by rw [show lo=hi by lia] at Z;exact Z⟩
    ·rintro r st'' ⟨rfl,k,rfl,Z⟩
     obtain ⟨X,Y,e,hl,hX,hY⟩:=Z.out
     subst hl
     exact aa (q X Y e hX hY)
  ·skip
   refine wpS_bind (az (Q:=fun r st'=>st'=st /\ ∃ la ofs,r=(none,la,ofs)/\la<=hint/\la < ofs/\(∀ j x,hint - la<=j->xs[j]? = some x->bey lt left key x=false)/\(hint < ofs ∨ ∀ j x,j < hint - ofs+1->xs[j]? = some x->bey lt left key x=true))
    (wpS_forRange (fun i r st'=>st'=st /\ ∃ la ofs,r=(none,la,ofs)/\la<=hint/\la < ofs/\i+1<=ofs/\(∀ j x,hint - la<=j->xs[j]? = some x->bey lt left key x=false)) ?_ ?_ ⟨rfl,0,1,rfl,by lia,by lia,by lia,fT c hs Ce (by simpa using hb)⟩) ?_)
   ·rintro i r st' _ hi ⟨rfl,la,ofs,rfl,h1,h2,h3,h4⟩
    try dsimp only
    refine ae (fun Cy => ?_) (fun Cy => ?_)
    ·exact aa ⟨rfl,la,ofs,rfl,h1,h2,h4, .inl (by lia)⟩
    ·skip
     obtain ⟨x1,C9,Cz,CA⟩:=at_ (hint - ofs) (by lia)
     refine wpS_bind (fo c hk Co CA Cz ?_)
     try dsimp only
     refine ae (fun hf => ?_) (fun hf => ?_)
     ·exact aa ⟨rfl,la,ofs,rfl,h1,h2,h4, .inr (fS c hs C9 hf)⟩
     ·exact aa ⟨rfl,ofs,2*ofs+1,rfl,by lia,by lia,by lia,fT c hs C9 (by simpa using hf)⟩
   ·rintro r st' ⟨rfl,la,ofs,rfl,h1,h2,h3,h4⟩
    exact ⟨rfl,la,ofs,rfl,h1,h2,h4, .inl (by lia)⟩
   ·rintro r st' ⟨rfl,la,ofs,rfl,h1,h2,h3,h4⟩
    try dsimp only
    have Z:Gal lt left key xs (hint+1 - min ofs (hint+1)) (hint - la):=by
     refine ⟨by lia,by lia,fun i x hi hx => ?_,h3⟩
     rcases h4 with h4 | h4
     ·lia
     ·exact h4 i x (by lia) hx
    generalize hint+1 - min ofs (hint+1)=lo at Z
    generalize hint - la=hi at Z
    refine wpS_bind (az (Q:=fun r st''=>st''=st' /\ ∃ k,r=(none,k,k)/\Gal lt left key xs k k)
     (wpS_forRange (fun i r st''=>st''=st' /\ ∃ lo hi,r=(none,lo,hi)/\Gal lt left key xs lo hi/\hi - lo+i<=xs.length) ?_ ?_ ⟨rfl,lo,hi,rfl,Z,by have:=Z.len;lia⟩) ?_)
    ·rintro i r st'' _ hi ⟨rfl,lo,hi,rfl,Z,hm⟩
     try dsimp only
     have hl:=Z.le
     have CP:=Z.len
     refine ae (fun Cy => ?_) (fun Cy => ?_)
     ·exact aa ⟨rfl,hi,by rw [show lo=hi by lia],by rw [show lo=hi by lia] at Z;exact Z⟩
     ·skip
      obtain ⟨x1,C9,Cz,CA⟩:=at_ (lo+(hi - lo) / 2) (by lia)
      refine wpS_bind (fo c hk Co CA Cz ?_)
      try dsimp only
      refine ae (fun hf => ?_) (fun hf => ?_)
      ·exact aa ⟨rfl,_,_,rfl,⟨by lia,CP,fS c hs C9 hf,Z.dn⟩,by lia⟩
      ·exact aa ⟨rfl,_,_,rfl,⟨by lia,by lia,Z.up,fT c hs C9 (by simpa using hf)⟩,by lia⟩
    ·rintro r st'' ⟨rfl,lo,hi,rfl,Z,hm⟩
     have hl:=Z.le
     exact ⟨rfl,hi,by rw [show lo=hi by lia],by rw [show lo=hi by lia] at Z;exact Z⟩
    ·rintro r st'' ⟨rfl,k,rfl,Z⟩
     obtain ⟨X,Y,e,hl,hX,hY⟩:=Z.out
     subst hl
     exact aa (q X Y e hX hY)
 apply And.intro
 ·intro hg a b st Q hk CB CC De Df sa sb CQ CS q
  refine wpS_bind (bY ?_)
  obtain ⟨b0,Dg,CT,DS⟩:=ax Df
  obtain ⟨a0,CO,CJ,DT⟩:=ax De
  refine wpS_bind (ay Dg ?_)
  have m0:ML lt a.toList b.toList [] 0 0:=⟨sa,sb,by simp⟩
  have m1:ML lt a.toList b.toList [b0] 0 1:=m0.pushB c CJ CT (CQ a0 b0 CO Dg)
  have Cg:∀ x∈b.toList, ∀ (i:Nat),i+1=a.size -> ∀ y∈a.toList.drop i,lt y x=false:=by
   intro x hx i hi y hy
   obtain ⟨aL,Dh,CU,_⟩:=ax (a:=a) (i:=i) (by lia)
   obtain ⟨bL,Do,CK,_⟩:=ax (a:=b) (i:=b.size - 1) (by lia)
   have e:a.toList.drop i=[aL]:=by
    rw [cX CU,List.drop_eq_nil_of_le (by simp;lia)];rfl
   rw [e] at hy
   simp at hy;subst hy
   have hl:=CS y bL (by rw [show a.size - 1=i by lia];exact Dh) Do
   obtain ⟨j,hj,e⟩:=List.mem_iff_getElem.mp hx
   have CD:b.toList[j]? = some x:=by rw [<- e];exact List.getElem?_eq_getElem hj
   by_cases hjb:j=b.size - 1
   ·subst hjb;rw [CK] at CD;cases CD;exact hl
   ·have:=dQ sb (show j < b.size - 1 by simp at hj;lia) CD CK
    exact c.le_trans this hl
  try dsimp -zeta -zetaHave -zetaUnused only
  refine ae (fun h => ?_) (fun h => ?_)
  ·skip
   have h : 1=b.size:=by simpa using h
   refine aa ?_
   have r:=m1.fin (by simp;lia)
   exact q _ _ (by simpa only [Array.toList_append,Array.toList_push,List.toList_toArray,bo] using r.1) (by simpa only [Array.toList_append,Array.toList_push,List.toList_toArray,bo] using r.2) Same.refl
  ·skip
   refine ae (fun h2 => ?_) (fun h2 => ?_)
   ·skip
    have h2 : 0+1=a.size:=by simpa using h2
    refine aa ?_
    have r:=m1.finA (Cg · · 0 h2)
    exact q _ _ (by simpa only [Array.toList_append,Array.toList_push,List.toList_toArray,bo] using r.1) (by simpa only [Array.toList_append,Array.toList_push,List.toList_toArray,bo] using r.2) Same.refl
   ·skip
    have h : 1≠b.size:=by simpa using h
    have h2 : 0+1≠a.size:=by simpa using h2
    refine wpS_bind (wpS_get ?_)
    try dsimp -zeta -zetaHave -zetaUnused only
    refine wpS_bind (az (Q:=fun r st'=>Same st st' /\ ∃ res t,r=(some res,t)/\Res lt a.toList b.toList res.toList)
     (wpS_forRange (fun i r st'=>Same st st' /\ ∃ out ia ib mg,r=(none,out,ia,ib,mg)/\ML lt a.toList b.toList out.toList ia ib/\ia+1 < a.size/\ib < b.size/\i+1<=out.size) ?_ ?_ ⟨Same.refl,_,_,_,_,rfl,m1,by lia,by lia,by simp⟩) ?_)
    ·rintro i r Ca _ hi ⟨sm,out,ia,ib,mg,rfl,m,Dp,Dq,hsz⟩
     try dsimp -zeta -zetaHave -zetaUnused only
     refine wpS_bind (az (Q:=fun r st'=>st'=Ca/\((∃ B C2 C6 ac bc,r=(none,B,C2,C6,ac,bc)/\ML lt a.toList b.toList B.toList C2 C6/\C2+1 < a.size/\C6 < b.size/\i+2<=B.size) ∨ ∃ res t,r=(some res,t)/\Res lt a.toList b.toList res.toList))
      (wpS_forRange (fun j r st'=>st'=Ca /\ ∃ B C2 C6 ac bc,r=(none,B,C2,C6,ac,bc)/\ML lt a.toList b.toList B.toList C2 C6/\C2+1 < a.size/\C6 < b.size/\i+1+j<=B.size) ?_ ?_ ⟨rfl,_,_,_,_,_,rfl,m,Dp,Dq,by lia⟩) ?_)
     ·rintro j r BR _ hj ⟨rfl,B,C2,C6,ac,bc,rfl,m2,h1,h2,h3⟩
      try dsimp only
      obtain ⟨y,hy,Cb,Cf⟩:=ax (a:=b) h2
      obtain ⟨x,hx,CV,CN⟩:=ax (a:=a) (i:=C2) (by lia)
      refine wpS_bind (ay hy (wpS_bind (ay hx (wpS_bind (iF c (sm.kind.trans hk) (CC _ Cf) (CB _ CN) ?_)))))
      try dsimp only
      refine ae (fun hl => ?_) (fun hl => ?_)
      ·skip
       refine wpS_bind (ay hy ?_)
       try dsimp only
       have m3:=m2.pushB c CV Cb (c.asym _ _ hl)
       refine ae (fun h => ?_) (fun h => ?_)
       ·skip
        have h:C6+1=b.size:=by simpa using h
        exact aa ⟨rfl, .inr ⟨_,_,rfl,by simpa only [Array.toList_append,Array.toList_push,List.toList_toArray,bo] using m3.fin (by simp;lia)⟩⟩
       ·skip
        have h:C6+1≠b.size:=by simpa using h
        refine ae (fun _ => ?_) (fun _ => ?_)
        ·exact aa ⟨rfl, .inl ⟨_,_,_,_,_,rfl,by simpa only [Array.toList_append,Array.toList_push] using m3,h1,by lia,by simp;lia⟩⟩
        ·exact aa ⟨rfl,_,_,_,_,_,rfl,by simpa only [Array.toList_append,Array.toList_push] using m3,h1,by lia,by simp;lia⟩
      ·skip
       refine wpS_bind (ay hx ?_)
       try dsimp only
       have m3:=m2.pushA c CV Cb (by simpa using hl)
       refine ae (fun h => ?_) (fun h => ?_)
       ·skip
        have h:C2+1+1=a.size:=by simpa using h
        exact aa ⟨rfl, .inr ⟨_,_,rfl,by simpa only [Array.toList_append,Array.toList_push,List.toList_toArray,bo] using m3.finA (Cg · · _ h)⟩⟩
       ·skip
        have h:C2+1+1≠a.size:=by simpa using h
        refine ae (fun _ => ?_) (fun _ => ?_)
        ·exact aa ⟨rfl, .inl ⟨_,_,_,_,_,rfl,by simpa only [Array.toList_append,Array.toList_push] using m3,by lia,h2,by simp;lia⟩⟩
        ·exact aa ⟨rfl,_,_,_,_,_,rfl,by simpa only [Array.toList_append,Array.toList_push] using m3,by lia,h2,by simp;lia⟩
     ·rintro r BR ⟨rfl,B,C2,C6,ac,bc,rfl,m2,h1,h2,h3⟩
      exact ⟨rfl, .inl ⟨_,_,_,_,_,rfl,m2,h1,h2,by lia⟩⟩
     ·rintro r BR ⟨rfl,⟨B,C2,C6,ac,bc,rfl,m2,h1,h2,h3⟩ | ⟨res,t,rfl,I⟩⟩
      ·dsimp -zeta -zetaHave -zetaUnused only
       refine wpS_bind (bY ?_)
       refine wpS_bind (az (Q:=fun r st'=>Same st st'/\((∃ F BU BP C3 ac bc,r=(none,F,BU,BP,C3,ac,bc)/\ML lt a.toList b.toList F.toList BU BP/\BU+1 < a.size/\BP < b.size/\i+2<=F.size) ∨ ∃ res t,r=(some res,t)/\Res lt a.toList b.toList res.toList))
        (wpS_forRange (fun j r st'=>Same st st' /\ ∃ F BU BP C3 ac bc,r=(none,F,BU,BP,C3,ac,bc)/\ML lt a.toList b.toList F.toList BU BP/\BU+1 < a.size/\BP < b.size/\i+2<=F.size) ?_ ?_ ⟨sm,_,_,_,_,_,_,rfl,m2,h1,h2,h3⟩) ?_)
       ·rintro j r U _ hj ⟨C4,F,BU,BP,C3,CW,CY,rfl,m3,h1,h2,h5⟩
        obtain ⟨y,hy,Cb,Cf⟩:=ax (a:=b) h2
        refine wa fun QQ hQ => ?_
        have G:∀ (st':SortSt) (res:Array Keyed) t,Same st st'->Res lt a.toList b.toList res.toList->QQ (.done (some res,t)) st':=fun st' res t hs hr=>hQ _ _ ⟨hs, .inr ⟨_,_,rfl,hr⟩⟩
        have Dr:∀ (st':SortSt) (out:Array Keyed) ia ib mg ac bc,Same st st'->ML lt a.toList b.toList out.toList ia ib->ia+1 < a.size->ib < b.size->i+2<=out.size->QQ (.done (none,out,ia,ib,mg,ac,bc)) st'/\QQ (.yield (none,out,ia,ib,mg,ac,bc)) st':=fun st' out ia ib mg ac bc hs p1 p2 p3 p4=>⟨hQ _ _ ⟨hs, .inl ⟨_,_,_,_,_,_,rfl,p1,p2,p3,p4⟩⟩,hQ _ _ ⟨hs,_,_,_,_,_,_,rfl,p1,p2,p3,p4⟩⟩
        clear hQ hj
        extract_lets -underBinder s0 vout s1 via s2 vib s3 vmg s4 vac vbc jp vmx
        have CZ:∀ mg,wpS (PySem.model prog w) A E s (jp () mg) QQ U:=by
         intro mg
         dsimp -zeta -zetaHave -zetaUnused only [jp,s0,vout,s1,via,s2,vib,s3,vmg,s4,vac,vbc]
         clear vmx jp vbc vac s4 vmg s3 vib s2 via s1 vout s0
         refine wpS_bind (wpS_modify ?_)
         refine rG (P:=Same st) (C4.trans ⟨rfl,rfl,rfl,rfl⟩) fun CF BV => ?_
         have D3:=BV.kind.trans hk
         refine wpS_bind (ay hy ?_)
         refine wpS_bind (hg false y a (a.toList.take BU) (a.toList.drop BU) [] _ _ _ _ _ D3 (CC _ Cf) (by simp) (eD (by lia)) (by simp) (fun x hx=>CB x (List.mem_of_mem_drop hx)) (by lia) ((List.pairwise_append.mp m3.pa).2.1) fun X Y e hX hY => ?_)
         dsimp -zeta -zetaHave -zetaUnused only
         have m4:=m3.galA c e Cb fun x hx=>wb (hX x hx)
         have BW:∀ x4,a.toList[BU+X.length]? = some x4->lt x4 y=false:=fun x4 Ch=>c.asym _ _ (rH (hY x4 (lU e Ch)))
         have CG:=lW e
         extract_lets -underBinder +onlyGivenNames vac Ci
         clear_value vac
         have Cp:∀ (J:Array Keyed) (Cc:Nat),ML lt a.toList b.toList J.toList Cc BP->(∀ x4,a.toList[Cc]? = some x4->lt x4 y=false)->Cc+1 < a.size->i+2<=J.size->wpS (PySem.model prog w) A E s (Ci () J Cc) QQ CF:=by
          intro J Cc Ds Cj DU D4
          dsimp -zeta -zetaHave -zetaUnused only [Ci]
          clear Ci CG BW m4 hX hY
          obtain ⟨x4,Ch,C0,D5⟩:=ax (a:=a) (i:=Cc) (by lia)
          refine wpS_bind (ay hy ?_)
          have m5:=Ds.pushB c C0 Cb (Cj x4 C0)
          rw [<- Array.toList_push] at m5
          have C1:i+2<=(J.push y).size:=by rw [Array.size_push];lia
          try dsimp -zeta -zetaHave -zetaUnused only
          extract_lets -underBinder +onlyGivenNames vo5 vi5
          dsimp -zeta -zetaHave -zetaUnused only [vo5]
          clear vo5
          have e5:vi5=BP+1:=rfl
          clear_value vi5
          subst e5
          revert m5 C1
          generalize J.push y=out5
          intro m5 C1
          refine ae (fun h => ?_) (fun h => ?_)
          ·exact aa (G _ _ _ BV (m5.finR (by have h:=eq_of_beq h;lia)))
          ·have h:BP+1≠b.size:=by simpa using h
           refine wpS_bind (ay Ch ?_)
           refine wpS_bind (hg true x4 b (b.toList.take (BP+1)) (b.toList.drop (BP+1)) [] _ _ _ _ _ D3 (CB _ D5) (by simp) (eD (by lia)) (by simp) (fun x hx=>CC x (List.mem_of_mem_drop hx)) (by lia) ((List.pairwise_append.mp m5.pb).2.1) fun X2 Y2 e2 Cv Cw => ?_)
           dsimp -zeta -zetaHave -zetaUnused only
           have m6:=m5.galB c e2 C0 fun x hx=>c.asym _ _ (wc (Cv x hx))
           have BX:∀ y6,b.toList[BP+1+X2.length]? = some y6->lt y6 x4=false:=fun y6 D6=>rJ (Cw y6 (lU e2 D6))
           have CH:=lW e2
           extract_lets -underBinder +onlyGivenNames vbc Ck
           clear_value vbc
           have Cq:∀ (BQ:Array Keyed) (CI:Nat),ML lt a.toList b.toList BQ.toList Cc CI->(∀ y6,b.toList[CI]? = some y6->lt y6 x4=false)->CI < b.size->i+2<=BQ.size->wpS (PySem.model prog w) A E s (Ck () BQ CI) QQ CF:=by
            intro BQ CI Dt Cl Dj DE
            dsimp -zeta -zetaHave -zetaUnused only [Ck]
            clear Ck CH BX m6 Cv Cw m5 C1 D4 h5 h1 h2 hsz Dq Dp h3
            obtain ⟨y6,D6,Cr,DF⟩:=ax (a:=b) (i:=CI) Dj
            refine wpS_bind (ay Ch ?_)
            have m7:=Dt.pushA c C0 Cr (Cl y6 Cr)
            rw [<- Array.toList_push] at m7
            dsimp only
            refine ae (fun h => ?_) (fun h => ?_)
            ·exact aa (G _ _ _ BV (m7.finL (Cg · · (Cc+1) (eq_of_beq h))))
            ·have h:Cc+1+1≠a.size:=by simpa using h
             have:=Dr CF (BQ.push x4) (Cc+1) CI mg vac vbc BV m7 (by lia) Dj (by rw [Array.size_push];lia)
             exact ae (fun _=>aa this.1) (fun _=>aa this.2)
           clear_value Ck
           refine ae (fun h0 => ?_) (fun h0 => ?_)
           ·dsimp only
            have m6:=m6.cut (a:=b) e2
            refine ae (fun h => ?_) (fun h => ?_)
            ·exact aa (G _ _ _ BV (m6.finR (by have h:=eq_of_beq h;lia)))
            ·have h:BP+1+X2.length≠b.size:=by simpa using h
             exact Cq _ _ m6 BX (by lia) (by rw [Array.size_append];lia)
           ·have Cn:X2=[]:=List.length_eq_zero_iff.mp (by lia)
            subst Cn
            exact Cq _ _ m5 BX (by lia) C1
         clear_value Ci
         refine ae (fun h0 => ?_) (fun h0 => ?_)
         ·dsimp only
          have m4:=m4.cut (a:=a) e
          refine ae (fun h => ?_) (fun h => ?_)
          ·exact aa (G _ _ _ BV (m4.finL (Cg · · _ (eq_of_beq h))))
          ·have h:BU+X.length+1≠a.size:=by simpa using h
           refine ae (fun h => ?_) (fun h9 => ?_)
           ·exact aa (G _ _ _ BV (m4.finS (by have h:=eq_of_beq h;lia)))
           ·have h9:BU+X.length≠a.size:=by simpa using h9
            exact Cp _ _ m4 BW (by lia) (by rw [Array.size_append];lia)
         ·have Cn:X=[]:=List.length_eq_zero_iff.mp (by lia)
          subst Cn
          exact Cp _ _ m3 BW h1 h5
        clear_value jp
        exact ae (fun _=>CZ _) (fun _=>CZ _)
       ·rintro r U ⟨C4,F,BU,BP,C3,CW,CY,rfl,m3,h1,h2,h5⟩
        exact ⟨C4, .inl ⟨_,_,_,_,_,_,rfl,m3,h1,h2,h5⟩⟩
       ·rintro r U ⟨C4,⟨F,BU,BP,C3,CW,CY,rfl,m3,h1,h2,h5⟩ | ⟨res,t,rfl,I⟩⟩
        ·dsimp -zeta -zetaHave -zetaUnused only
         refine wpS_bind (wpS_modify ?_)
         exact aa ⟨C4.trans ⟨rfl,rfl,rfl,rfl⟩,_,_,_,_,rfl,m3,h1,h2,by lia⟩
        ·exact aa ⟨C4,_,_,rfl,I⟩
      ·exact aa ⟨sm,_,_,rfl,I⟩
    ·rintro r Ca ⟨sm,out,ia,ib,mg,rfl,m,Dp,Dq,hsz⟩
     have:=m.size (by simp;lia) (by simp;lia)
     simp at this
     lia
    ·rintro r Ca ⟨sm,res,t,rfl,I⟩
     exact aa (q res Ca I.1 I.2 sm)
 ·intro hg a b st Q hk CB CC De Df sa sb CQ CS q
  refine wpS_bind (bY ?_)
  obtain ⟨bL,Do,CK,DV⟩:=ax (a:=b) (i:=b.size - 1) (by lia)
  obtain ⟨aL,Dh,CU,DW⟩:=ax (a:=a) (i:=a.size - 1) (by lia)
  refine wpS_bind (ay Dh ?_)
  have m0:MH lt a.toList b.toList [] a.size b.size:=⟨by rw [du];simpa using sa,by rw [du];simpa using sb,by rw [du,du];simp⟩
  have m1:MH lt a.toList b.toList [aL] (a.size - 1) b.size:=m0.pushA c De Df CU CK (CS aL bL Dh Do)
  have C8:∀ x∈b.toList.take 1, ∀ y∈a.toList,lt y x=false:=by
   intro x hx y hy
   obtain ⟨b0,Dg,CT,_⟩:=ax Df
   obtain ⟨a0,CO,CJ,_⟩:=ax De
   have ex:x=b0:=by
    rw [bZ (by lia) CT] at hx
    simpa using hx
   subst ex
   have h:=CQ a0 x CO Dg
   obtain ⟨j,hj,e⟩:=List.mem_iff_getElem.mp hy
   have CD:a.toList[j]? = some y:=by rw [<- e];exact List.getElem?_eq_getElem hj
   by_cases hj0:j=0
   ·subst hj0;rw [CJ] at CD;cases CD;exact h
   ·exact c.le_trans h (dQ sa (by lia) CJ CD)
  try dsimp -zeta -zetaHave -zetaUnused only
  refine ae (fun h => ?_) (fun h => ?_)
  ·skip
   have h:a.size - 1=0:=by simpa using h
   refine aa ?_
   have r:=m1.fin (.inl h)
   exact q _ _ (by simpa only [Array.toList_append,Array.toList_push,Array.toList_reverse,List.toList_toArray,b4] using r.1) (by simpa only [Array.toList_append,Array.toList_push,Array.toList_reverse,List.toList_toArray,b4] using r.2) Same.refl
  ·skip
   refine ae (fun h2 => ?_) (fun h2 => ?_)
   ·skip
    have h2:b.size=1:=by simpa using h2
    refine aa ?_
    have r:=m1.finB (by rw [h2];exact C8)
    exact q _ _ (by simpa only [Array.toList_append,Array.toList_push,Array.toList_reverse,List.toList_toArray,b4] using r.1) (by simpa only [Array.toList_append,Array.toList_push,Array.toList_reverse,List.toList_toArray,b4] using r.2) Same.refl
   ·skip
    have h:a.size - 1≠0:=by simpa using h
    have h2:b.size≠1:=by simpa using h2
    refine wpS_bind (wpS_get ?_)
    try dsimp -zeta -zetaHave -zetaUnused only
    refine wpS_bind (az (Q:=fun r st'=>Same st st' /\ ∃ res t,r=(some res,t)/\Res lt a.toList b.toList res.toList)
     (wpS_forRange (fun i r st'=>Same st st' /\ ∃ na nb out mg,r=(none,na,nb,out,mg)/\MH lt a.toList b.toList out.toList na nb/\0 < na/\1 < nb/\na < a.size/\nb<=b.size/\i+1<=out.size) ?_ ?_ ⟨Same.refl,_,_,_,_,rfl,m1,by lia,by lia,by lia,by lia,by simp⟩) ?_)
    ·rintro i r Ca _ hi ⟨sm,na,nb,out,mg,rfl,m,Cu,CL,D7,D8,hsz⟩
     try dsimp -zeta -zetaHave -zetaUnused only
     refine wpS_bind (az (Q:=fun r st'=>st'=Ca/\((∃ BY BZ B ac bc,r=(none,BY,BZ,B,ac,bc)/\MH lt a.toList b.toList B.toList BY BZ/\0 < BY/\1 < BZ/\BY < a.size/\BZ<=b.size/\i+2<=B.size) ∨ ∃ res t,r=(some res,t)/\Res lt a.toList b.toList res.toList))
      (wpS_forRange (fun j r st'=>st'=Ca /\ ∃ BY BZ B ac bc,r=(none,BY,BZ,B,ac,bc)/\MH lt a.toList b.toList B.toList BY BZ/\0 < BY/\1 < BZ/\BY < a.size/\BZ<=b.size/\i+1+j<=B.size) ?_ ?_ ⟨rfl,_,_,_,_,_,rfl,m,Cu,CL,D7,D8,by lia⟩) ?_)
     ·rintro j r BR _ hj ⟨rfl,BY,BZ,B,ac,bc,rfl,m2,h1,h2,C5,C7,h3⟩
      try dsimp only
      obtain ⟨y,hy,Cb,Cf⟩:=ax (a:=b) (i:=BZ - 1) (by lia)
      obtain ⟨x,hx,CV,CN⟩:=ax (a:=a) (i:=BY - 1) (by lia)
      refine wpS_bind (ay hy (wpS_bind (ay hx (wpS_bind (iF c (sm.kind.trans hk) (CC _ Cf) (CB _ CN) ?_)))))
      try dsimp only
      refine ae (fun hl => ?_) (fun hl => ?_)
      ·skip
       refine wpS_bind (ay hx ?_)
       try dsimp only
       have m3:=m2.pushA c h1 (by lia) CV Cb (c.asym _ _ hl)
       refine ae (fun h => ?_) (fun h => ?_)
       ·skip
        have h:BY - 1=0:=by simpa using h
        exact aa ⟨rfl, .inr ⟨_,_,rfl,by have r:=m3.fin (.inl h);simpa only [Array.toList_append,Array.toList_push,Array.toList_reverse,List.toList_toArray,b4] using r⟩⟩
       ·skip
        have h:BY - 1≠0:=by simpa using h
        refine ae (fun _ => ?_) (fun _ => ?_)
        ·exact aa ⟨rfl, .inl ⟨_,_,_,_,_,rfl,by simpa only [Array.toList_append,Array.toList_push,Array.toList_reverse,List.toList_toArray,b4] using m3,by lia,h2,by lia,C7,by simp;lia⟩⟩
        ·exact aa ⟨rfl,_,_,_,_,_,rfl,by simpa only [Array.toList_append,Array.toList_push,Array.toList_reverse,List.toList_toArray,b4] using m3,by lia,h2,by lia,C7,by simp;lia⟩
      ·skip
       refine wpS_bind (ay hy ?_)
       try dsimp only
       have m3:=m2.pushB c h1 (by lia) CV Cb (by simpa using hl)
       refine ae (fun h => ?_) (fun h => ?_)
       ·skip
        have h:BZ - 1=1:=by simpa using h
        exact aa ⟨rfl, .inr ⟨_,_,rfl,by have r:=m3.finB (by rw [h];exact C8);simpa only [Array.toList_append,Array.toList_push,Array.toList_reverse,List.toList_toArray,b4] using r⟩⟩
       ·skip
        have h:BZ - 1≠1:=by simpa using h
        refine ae (fun _ => ?_) (fun _ => ?_)
        ·exact aa ⟨rfl, .inl ⟨_,_,_,_,_,rfl,by simpa only [Array.toList_append,Array.toList_push,Array.toList_reverse,List.toList_toArray,b4] using m3,h1,by lia,C5,by lia,by simp;lia⟩⟩
        ·exact aa ⟨rfl,_,_,_,_,_,rfl,by simpa only [Array.toList_append,Array.toList_push,Array.toList_reverse,List.toList_toArray,b4] using m3,h1,by lia,C5,by lia,by simp;lia⟩
     ·rintro r BR ⟨rfl,BY,BZ,B,ac,bc,rfl,m2,h1,h2,C5,C7,h3⟩
      exact ⟨rfl, .inl ⟨_,_,_,_,_,rfl,m2,h1,h2,C5,C7,by lia⟩⟩
     ·rintro r BR ⟨rfl,⟨BY,BZ,B,ac,bc,rfl,m2,h1,h2,C5,C7,h3⟩ | ⟨res,t,rfl,I⟩⟩
      ·try dsimp -zeta -zetaHave -zetaUnused only
       refine wpS_bind (bY ?_)
       refine wpS_bind (az (Q:=fun r st'=>Same st st'/\((∃ BS O F C3 ac bc,r=(none,BS,O,F,C3,ac,bc)/\MH lt a.toList b.toList F.toList BS O/\0 < BS/\1 < O/\BS < a.size/\O<=b.size/\i+2<=F.size) ∨ ∃ res t,r=(some res,t)/\Res lt a.toList b.toList res.toList))
        (wpS_forRange (fun j r st'=>Same st st' /\ ∃ BS O F C3 ac bc,r=(none,BS,O,F,C3,ac,bc)/\MH lt a.toList b.toList F.toList BS O/\0 < BS/\1 < O/\BS < a.size/\O<=b.size/\i+2<=F.size) ?_ ?_ ⟨sm,_,_,_,_,_,_,rfl,m2,h1,h2,C5,C7,h3⟩) ?_)
       ·rintro j r U _ hj ⟨C4,BS,O,F,C3,CW,CY,rfl,m3,h1,h2,C5,C7,h5⟩
        obtain ⟨y,hy,Cb,Cf⟩:=ax (a:=b) (i:=O - 1) (by lia)
        refine wa fun QQ hQ => ?_
        have G:∀ (st':SortSt) (res:Array Keyed) t,Same st st'->Res lt a.toList b.toList res.toList->QQ (.done (some res,t)) st':=fun st' res t hs hr=>hQ _ _ ⟨hs, .inr ⟨_,_,rfl,hr⟩⟩
        have Dr:∀ (st':SortSt) (out:Array Keyed) na nb mg ac bc,Same st st'->MH lt a.toList b.toList out.toList na nb->0 < na->1 < nb->na < a.size->nb<=b.size->i+2<=out.size->QQ (.done (none,na,nb,out,mg,ac,bc)) st'/\QQ (.yield (none,na,nb,out,mg,ac,bc)) st':=fun st' out ia ib mg ac bc hs p1 p2 p3 p4 p5 p6=>⟨hQ _ _ ⟨hs, .inl ⟨_,_,_,_,_,_,rfl,p1,p2,p3,p4,p5,p6⟩⟩,hQ _ _ ⟨hs,_,_,_,_,_,_,rfl,p1,p2,p3,p4,p5,p6⟩⟩
        clear hQ hj
        extract_lets -underBinder s0 vna s1 vnb s2 vout s3 vmg s4 vac vbc jp vmx
        have CZ:∀ mg,wpS (PySem.model prog w) A E s (jp () mg) QQ U:=by
         intro mg
         dsimp -zeta -zetaHave -zetaUnused only [jp,s0,vna,s1,vnb,s2,vout,s3,vmg,s4,vac,vbc]
         clear vmx jp vbc vac s4 vmg s3 vout s2 vnb s1 vna s0
         refine wpS_bind (wpS_modify ?_)
         refine rG (P:=Same st) (C4.trans ⟨rfl,rfl,rfl,rfl⟩) fun CF BV => ?_
         have D3:=BV.kind.trans hk
         refine wpS_bind (ay hy ?_)
         refine wpS_bind (hg false y a [] (a.toList.take BS) (a.toList.drop BS) _ _ _ _ _ D3 (CC _ Cf) (by simp) rfl (eD (by lia)) (fun x hx=>CB x (List.mem_of_mem_take hx)) (by lia) ((List.pairwise_append.mp m3.pa).1) fun X Y e hX hY => ?_)
         dsimp -zeta -zetaHave -zetaUnused only
         have m4:=m3.galA c e (by lia) Cb fun x hx=>c.asym _ _ (rH (hY x hx))
         have BW : 0 < X.length -> ∀ x4,a.toList[X.length - 1]? = some x4->lt y x4=false:=fun h0 x4 Ch=>wb (hX x4 (lV e h0 Ch))
         have CG:=jR e (by lia)
         extract_lets -underBinder +onlyGivenNames vk vac Ci
         clear_value vac
         have Cp:∀ (Cd:Nat) (J:Array Keyed),MH lt a.toList b.toList J.toList Cd O->(∀ x4,a.toList[Cd - 1]? = some x4->lt y x4=false)->0 < Cd->Cd < a.size->i+2<=J.size->wpS (PySem.model prog w) A E s (Ci () Cd J) QQ CF:=by
          intro Cd J Ds Cj D9 DR D4
          dsimp -zeta -zetaHave -zetaUnused only [Ci]
          clear Ci vk CG BW m4 hX hY
          obtain ⟨x4,Ch,C0,D5⟩:=ax (a:=a) (i:=Cd - 1) (by lia)
          refine wpS_bind (ay hy ?_)
          have m5:=Ds.pushB c D9 (by lia) C0 Cb (Cj x4 C0)
          rw [<- Array.toList_push] at m5
          have C1:i+2<=(J.push y).size:=by rw [Array.size_push];lia
          try dsimp -zeta -zetaHave -zetaUnused only
          extract_lets -underBinder +onlyGivenNames vo5
          dsimp -zeta -zetaHave -zetaUnused only [vo5]
          clear vo5
          revert m5 C1
          generalize J.push y=out5
          intro m5 C1
          refine ae (fun h => ?_) (fun h => ?_)
          ·exact aa (G _ _ _ BV (m5.finR (by rw [eq_of_beq h];exact C8)))
          ·have h:O - 1≠1:=by simpa using h
           refine wpS_bind (ay Ch ?_)
           refine wpS_bind (hg true x4 b [] (b.toList.take (O - 1)) (b.toList.drop (O - 1)) _ _ _ _ _ D3 (CB _ D5) (by simp) rfl (eD (by lia)) (fun x hx=>CC x (List.mem_of_mem_take hx)) (by lia) ((List.pairwise_append.mp m5.pb).1) fun X2 Y2 e2 Cv Cw => ?_)
           dsimp -zeta -zetaHave -zetaUnused only
           have m6:=m5.galB c e2 D9 C0 fun x hx=>rJ (Cw x hx)
           have BX : 0 < X2.length -> ∀ y6,b.toList[X2.length - 1]? = some y6->lt x4 y6=false:=fun h0 y6 D6=>c.asym _ _ (wc (Cv y6 (lV e2 h0 D6)))
           have CH:=jR e2 (by lia)
           extract_lets -underBinder +onlyGivenNames vk vbc Ck
           clear_value vbc
           have Cq:∀ (Ct:Nat) (BQ:Array Keyed),MH lt a.toList b.toList BQ.toList Cd Ct->(∀ y6,b.toList[Ct - 1]? = some y6->lt x4 y6=false)->1 < Ct->Ct<=b.size->i+2<=BQ.size->wpS (PySem.model prog w) A E s (Ck () Ct BQ) QQ CF:=by
            intro Ct BQ Dt Cl DG Du DE
            dsimp -zeta -zetaHave -zetaUnused only [Ck]
            clear Ck vk CH BX m6 Cv Cw m5 C1 D4 h5 h1 h2 C5 C7 hsz Cu CL D7 D8 h3
            obtain ⟨y6,D6,Cr,DF⟩:=ax (a:=b) (i:=Ct - 1) (by lia)
            refine wpS_bind (ay Ch ?_)
            have m7:=Dt.pushA c D9 (by lia) C0 Cr (Cl y6 Cr)
            rw [<- Array.toList_push] at m7
            dsimp only
            refine ae (fun h => ?_) (fun h => ?_)
            ·exact aa (G _ _ _ BV (m7.finL (.inl (eq_of_beq h))))
            ·have h:Cd - 1≠0:=by simpa using h
             have:=fun mg ac bc=>Dr CF (BQ.push x4) (Cd - 1) Ct mg ac bc BV m7 (by lia) DG (by lia) Du (by rw [Array.size_push];lia)
             exact ae (fun _=>aa (this _ _ _).1) (fun _=>aa (this _ _ _).2)
           clear_value Ck
           refine ae (fun h0 => ?_) (fun h0 => ?_)
           ·dsimp only
            have m6:=m6.cut (a:=b) e2
            refine ae (fun h => ?_) (fun h => ?_)
            ·exact aa (G _ _ _ BV (m6.finR (by rw [eq_of_beq h];exact C8)))
            ·have h:X2.length≠1:=by simpa using h
             refine ae (fun h9 => ?_) (fun h9 => ?_)
             ·exact aa (G _ _ _ BV (m6.finL (.inr (eq_of_beq h9))))
             ·have h9:X2.length≠0:=by simpa using h9
              exact Cq _ _ m6 (BX (by lia)) (by lia) (by lia) (by rw [Array.size_append];lia)
           ·have h0 : ¬ (O - 1 - X2.length > 0):=h0
            have hl:X2.length=O - 1:=by lia
            have CP : 0 < X2.length:=by lia
            have hr:=BX CP
            rw [hl] at hr
            exact Cq _ _ m5 hr (by lia) (by lia) C1
         clear_value Ci
         refine ae (fun h0 => ?_) (fun h0 => ?_)
         ·dsimp only
          have m4:=m4.cut (a:=a) e
          refine ae (fun h => ?_) (fun h => ?_)
          ·exact aa (G _ _ _ BV (m4.finL (.inl (eq_of_beq h))))
          ·have h:X.length≠0:=by simpa using h
           exact Cp _ _ m4 (BW (by lia)) (by lia) (by lia) (by rw [Array.size_append];lia)
         ·have h0 : ¬ (BS - X.length > 0):=h0
          have hl:X.length=BS:=by lia
          have hr:=BW (by lia)
          rw [hl] at hr
          exact Cp _ _ m3 hr h1 C5 h5
        clear_value jp
        exact ae (fun _=>CZ _) (fun _=>CZ _)
       ·rintro r U ⟨C4,BS,O,F,C3,CW,CY,rfl,m3,h1,h2,C5,C7,h5⟩
        exact ⟨C4, .inl ⟨_,_,_,_,_,_,rfl,m3,h1,h2,C5,C7,h5⟩⟩
       ·rintro r U ⟨C4,⟨BS,O,F,C3,CW,CY,rfl,m3,h1,h2,C5,C7,h5⟩ | ⟨res,t,rfl,I⟩⟩
        ·try dsimp -zeta -zetaHave -zetaUnused only
         refine wpS_bind (wpS_modify ?_)
         exact aa ⟨C4.trans ⟨rfl,rfl,rfl,rfl⟩,_,_,_,_,rfl,m3,h1,h2,C5,C7,by lia⟩
        ·exact aa ⟨C4,_,_,rfl,I⟩
      ·exact aa ⟨sm,_,_,rfl,I⟩
    ·rintro r Ca ⟨sm,na,nb,out,mg,rfl,m,Cu,CL,D7,D8,hsz⟩
     have:=m.size (by simp;lia) (by simp;lia)
     simp at this
     lia
    ·rintro r Ca ⟨sm,res,t,rfl,I⟩
     exact aa (q res Ca I.1 I.2 sm)
end
end Srt
end L2
namespace L2
namespace Srt
open PySem PySem.Spec PyProof.Rows
section
variable {prog:Program} {w:World} {A:Around} {E:Value->Shared->Prop} {s:Shared} {kd:SortKind} {P:Keyed->Prop} {lt:Keyed->Keyed->Bool}
structure Kp (st st':SortSt):Prop where
 kind:kindOf st'=kindOf st
 pend:pendingOf st'=pendingOf st
 fail:failedOf st'=failedOf st
theorem Kp.refl {st:SortSt}:Kp st st:=⟨rfl,rfl,rfl⟩
theorem Kp.trans {a b c:SortSt} (h:Kp a b) (g:Kp b c):Kp a c:=⟨g.kind.trans h.kind,g.pend.trans h.pend,g.fail.trans h.fail⟩
theorem nv {a:Array Keyed} {L B R:List Keyed} (e:a.toList=L++(B++R)) {i j:Nat} (hi:i=L.length) (q:j=L.length+B.length):(mirror a i j ((j - i) / 2)).toList=L++(B.reverse++R):=by
 have hs:a.size=L.length+(B.length+R.length):=by rw [<- Array.length_toList,e];simp
 apply List.ext_getElem?
 intro k
 rw [Array.getElem?_toList,getElem?_mirror_all (by lia)]
 have g:∀ n:Nat,a[n]? = (L++(B++R))[n]? := fun n=>by rw [<- Array.getElem?_toList,e]
 rw [g,g]
 by_cases h1:k < L.length
 ·rw [if_neg (by lia),List.getElem?_append_left h1,List.getElem?_append_left h1]
 ·by_cases h2:k < j
  ·rw [if_pos (by lia),List.getElem?_append_right (by lia),List.getElem?_append_left (by lia),List.getElem?_append_right (by lia),List.getElem?_append_left (by simp;lia),List.getElem?_reverse (by lia)]
   congr 1;lia
  ·rw [if_neg (by lia),List.getElem?_append_right (by lia),List.getElem?_append_right (by lia),List.getElem?_append_right (by lia),List.getElem?_append_right (by simp;lia)]
   simp
theorem ny {a:Array Keyed} {L j q R:List Keyed} {x:Keyed} (e:a.toList=L++((j++q)++x::R)) {src d:Nat} (hi:src=L.length+(j.length+q.length)) (hd:d=q.length):(bubble a src d).toList=L++((j++x::q)++R):=by
 have hs:a.size=L.length+(j.length+q.length+(R.length+1)):=by rw [<- Array.length_toList,e];simp;lia
 apply List.ext_getElem?
 intro k
 rw [Array.getElem?_toList,getElem?_bubble (by lia) d (by lia)]
 have g:∀ n:Nat,a[n]? = (L++((j++q)++x::R))[n]? := fun n=>by rw [<- Array.getElem?_toList,e]
 rw [g,g,g]
 by_cases h1:k < L.length
 ·rw [if_neg (by lia),if_neg (by lia),List.getElem?_append_left h1,List.getElem?_append_left h1]
 ·by_cases h2:k < L.length+j.length
  ·rw [if_neg (by lia),if_neg (by lia),List.getElem?_append_right (by lia),List.getElem?_append_left (by simp;lia),List.getElem?_append_left (by lia),List.getElem?_append_right (by lia),List.getElem?_append_left (by simp;lia),List.getElem?_append_left (by lia)]
  ·by_cases h3:k=L.length+j.length
   ·rw [if_pos (by lia),List.getElem?_append_right (by lia),List.getElem?_append_right (by simp;lia),List.getElem?_append_right (by lia),List.getElem?_append_left (by simp;lia),List.getElem?_append_right (by lia)]
    have B:src - L.length - (j++q).length=0:=by simp;lia
    have z:k - L.length - j.length=0:=by lia
    rw [B,z];rfl
   ·by_cases h4:k<=src
    ·rw [if_neg (by lia),if_pos (by lia),List.getElem?_append_right (by lia),List.getElem?_append_left (by simp;lia),List.getElem?_append_right (by lia),List.getElem?_append_right (by lia),List.getElem?_append_left (by simp;lia),List.getElem?_append_right (by lia)]
     have z:k - L.length - j.length=(k - 1 - L.length - j.length)+1:=by lia
     rw [z,List.getElem?_cons_succ]
    ·rw [if_neg (by lia),if_neg (by lia),List.getElem?_append_right (by lia),List.getElem?_append_right (by simp;lia),List.getElem?_append_right (by lia),List.getElem?_append_right (by simp;lia)]
     have z:k - L.length - (j++q).length=(k - L.length - (j++x::q).length)+1:=by simp;lia
     rw [z,List.getElem?_cons_succ]
theorem cN (c:Cm prog w A s kd P lt) {i j:Nat} {x y:Keyed} {st:SortSt} {Q:Option Bool->SortSt->Prop} (n:kindOf st=kd) (hx:(arrOf st)[i]? = some x) (z:(arrOf st)[j]? = some y) (px:P x) (py:P y) (q:Q (some (lt x y)) st):wpS (PySem.model prog w) A E s (ltAt' i j) Q st:=by
 rw [ltAt'_eq]
 exact wpS_bind (wpS_get (wpS_bind (ay hx (wpS_bind (ay z (iF c n px py q))))))
theorem iG {i j:Nat} {st:SortSt} {Q:Unit->SortSt->Prop} {L B R:List Keyed} (e:(arrOf st).toList=L++(B++R)) (hi:i=L.length) (n:j=L.length+B.length) (q:∀ st',(arrOf st').toList=L++(B.reverse++R)->Kp st st'->Q () st'):wpS (PySem.model prog w) A E s (reverseSlice' i j) Q st:=by
 rw [reverseSlice'_eq]
 exact wpS_modify (q _ (nv e hi n) ⟨rfl,rfl,rfl⟩)
theorem bH {st:SortSt} {L xs:List Keyed} (e:(arrOf st).toList=L++xs) {i n:Nat} (hi:i=L.length+n):(arrOf st)[i]? = xs[n]? := by
 rw [<- Array.getElem?_toList,e,hi,List.getElem?_append_right (by lia)]
 congr 1;lia
theorem lZ (c:Cm prog w A s kd P lt) {xs:List Keyed} {n:Nat} {x y:Keyed} (h:Ord lt (xs.take n)) (q : 0 < n) (hx:xs[n]? = some x) (B:xs[n - 1]? = some y) (hl:lt x y=false):Ord lt (xs.take (n+1)):=by
 rw [List.take_add_one,hx]
 refine List.pairwise_append.mpr ⟨h,by simp,fun z F u j => ?_⟩
 simp at j;subst j
 exact fU c h q B hl z F
noncomputable abbrev ck (lt:Keyed->Keyed->Bool) (l:List Keyed):Prop:=l.Pairwise fun x y=>lt x y=false
theorem gC (c:Cm prog w A s kd P lt) {D:List Keyed} {e x:Keyed} (h:ck lt (D++[e])) (hx:lt e x=false):ck lt (D++[e]++[x]):=by
 refine List.pairwise_append.mpr ⟨h,by simp,fun z n u j => ?_⟩
 simp at j;subst j
 obtain ⟨_,_,B⟩:=List.pairwise_append.mp h
 rcases List.mem_append.mp n with g | g
 ·cases q:lt z u with
  | false=>rfl
  | true=>rcases c.neg z e u q with r | r
          ·rw [B z g e (by simp)] at r;cases r
          ·rw [hx] at r;cases r
 ·simp at g;subst g;exact hx
theorem nR {n F:List Keyed} (h:ck lt (n++F)) (he:∀ x∈F, ∀ y∈F,lt x y=false):ck lt (n++F.reverse):=by
 obtain ⟨h1,h2,q⟩:=List.pairwise_append.mp h
 refine List.pairwise_append.mpr ⟨h1, ?_,fun x hx y j=>q x hx y (List.mem_reverse.mp j)⟩
 rw [List.pairwise_reverse]
 exact h2.imp_of_mem fun hx j _=>he _ j _ hx
theorem perm_take {xs:List Keyed} {n:Nat}:(xs.take n++xs.drop n).Perm xs:=by rw [List.take_append_drop]
theorem nA (c:Cm prog w A s kd P lt) {L xs:List Keyed} {st:SortSt} {Q:Option Nat->SortSt->Prop} (hk:kindOf st=kd) (J:(arrOf st).toList=L++xs) (h0:xs≠[]) (hP:∀ x∈xs,P x)
 (q:∀ r R st',(arrOf st').toList=L++(r++R)->(r++R).Perm xs->r≠[]->Ord lt r->Kp st st'->Q (some r.length) st'):wpS (PySem.model prog w) A E s (countRun' L.length xs.length) Q st:=by
 have Cb : 0 < xs.length:=List.length_pos_iff.mpr h0
 rw [countRun'_eq]
 try dsimp -zeta -zetaHave -zetaUnused only
 refine wpS_bind (az (Q:=fun r st'=>st'=st /\ ∃ n,r=(none,n)/\1<=n/\n<=xs.length/\Ord lt (xs.take n)/\(n=xs.length ∨ ∃ x y,xs[n]? = some x/\xs[n - 1]? = some y/\lt x y=true))
  (wpS_forRange (fun i r st'=>st'=st/\r=(none,i)/\Ord lt (xs.take i)) ?_ ?_ ⟨rfl,rfl,by
    cases xs with
    | nil=>exact absurd rfl h0
    | cons x t=>simp⟩) ?_)
 ·rintro i r st' h1 hi ⟨rfl,rfl,ho⟩
  dsimp only
  obtain ⟨x,hx⟩:∃ x,xs[i]? = some x:=⟨_,List.getElem?_eq_getElem hi⟩
  obtain ⟨y,hy⟩:∃ y,xs[i - 1]? = some y:=⟨_,List.getElem?_eq_getElem (by lia)⟩
  refine wpS_bind (cN c hk ((bH J rfl).trans hx) ((bH J (by lia)).trans hy) (hP _ (List.mem_of_getElem? hx)) (hP _ (List.mem_of_getElem? hy)) ?_)
  dsimp only
  refine ae (fun h => ?_) (fun h => ?_)
  ·exact aa ⟨rfl,i,rfl,h1,by lia,ho, .inr ⟨x,y,hx,hy,h⟩⟩
  ·exact aa ⟨rfl,rfl,lZ c ho (by lia) hx hy (by simpa using h)⟩
 ·rintro r st' ⟨rfl,rfl,ho⟩
  exact ⟨rfl,_,rfl,by lia,by lia,ho, .inl (by lia)⟩
 ·rintro r st' ⟨rfl,n,rfl,CB,Cc,ho,hc⟩
  dsimp -zeta -zetaHave -zetaUnused only
  have BZ:Q (some n) st':=by
   have:=q (xs.take n) (xs.drop n) st' (by rw [J,List.take_append_drop]) perm_take (fun z=>by
    have h3:=congrArg List.length z
    rw [List.length_take,List.length_nil] at h3;lia) ho Kp.refl
   rw [List.length_take,Nat.min_eq_left Cc] at this
   exact this
  extract_lets -underBinder +onlyGivenNames vr vn
  dsimp -zeta -zetaHave -zetaUnused only [vr]
  clear vr
  have en:n=vn:=rfl
  clear_value vn
  subst en
  refine ae (fun h=>aa BZ) (fun h => ?_)
  have Co:n≠xs.length:=by simpa using h
  obtain ⟨x,y,hx,hy,Cp⟩:=hc.resolve_left Co
  have CC:n < xs.length:=by lia
  have exs:xs=xs.take n++x::xs.drop (n+1):=by
   have h1:=(List.take_append_drop n xs).symm
   rw [cX hx] at h1
   exact h1
  have Cd:y∈xs.take n:=by rw [bZ (by lia) hy];simp
  extract_lets -underBinder +onlyGivenNames jp
  have Ce:∀ (B:List Keyed) (Z:SortSt),(arrOf Z).toList=L++(B++x::xs.drop (n+1))->B.Perm (xs.take n)->B.length=n->(∀ u∈B, ∀ v∈B,lt u v=false)->y∈B->Kp st' Z->wpS (PySem.model prog w) A E s (jp ()) Q Z:=by
   intro B Z e1 hB BP BQ BR BS
   dsimp -zeta -zetaHave -zetaUnused only [jp]
   clear jp
   refine wpS_bind (bY ?_)
   try dsimp -zeta -zetaHave -zetaUnused only
   extract_lets -underBinder +onlyGivenNames vn1 vq1
   have Cq:vn1=n+1:=rfl
   have eq1:vq1=0:=rfl
   clear_value vn1 vq1
   subst Cq eq1
   refine wpS_bind (az (Q:=fun r O => ∃ G F R neq,Kp st' O/\(arrOf O).toList=L++((G++F)++R)/\((G++F)++R).Perm xs/\r=(none,(G++F).length,neq)/\F.length=neq+1/\ck lt (G++F)/\(∀ u∈F, ∀ v∈F,lt u v=false))
    (wpS_forRange (fun i r O => ∃ G F R neq,Kp st' O/\(arrOf O).toList=L++((G++F)++R)/\((G++F)++R).Perm xs/\r=(none,(G++F).length,neq)/\F.length=neq+1/\ck lt (G++F)/\(∀ u∈F, ∀ v∈F,lt u v=false)/\(G++F).length=i) ?_ ?_ ?_) ?_)
   ·rintro i r O CD hi ⟨G,F,R,neq,kp,ea,hp,rfl,hF,hN,hE,Cf⟩
    subst Cf
    have hlen:=hp.length_eq
    rw [List.length_append] at hlen
    obtain ⟨z,R',rfl⟩:∃ z R',R=z::R':=by
     cases R with
     | nil=>simp at hlen;simp at hi;lia
     | cons z R'=>exact ⟨z,R',rfl⟩
    have Cr:F≠[]:=fun z=>by rw [z] at hF;simp at hF
    obtain ⟨F0,e,rfl⟩:∃ F0 e,F=F0++[e]:=⟨F.dropLast,F.getLast Cr,(List.dropLast_concat_getLast _).symm⟩
    have hz:(arrOf O)[L.length+(G++(F0++[e])).length]? = some z:=by
     rw [bH ea rfl,List.getElem?_append_right (by lia),Nat.sub_self];rfl
    have he:(arrOf O)[L.length+(G++(F0++[e])).length - 1]? = some e:=by
     rw [bH ea (n:=(G++F0).length) (by simp <;> lia),List.getElem?_append_left (by simp <;> lia), <- List.append_assoc,List.getElem?_append_right (by lia),Nat.sub_self];rfl
    have Cg:P z:=hP z (hp.mem_iff.mp (by simp))
    have Ch:P e:=hP e (hp.mem_iff.mp (by simp))
    dsimp only
    refine wpS_bind (cN c (kp.kind.trans hk) hz he Cg Ch ?_)
    dsimp only
    have C3:ck lt (G++F0++[e]):=by rw [List.append_assoc];exact hN
    refine ae (fun C4 => ?_) (fun C4 => ?_)
    ·have BU:lt e z=false:=c.asym _ _ C4
     refine ae (fun BV => ?_) (fun BV => ?_)
     ·refine wpS_bind (iG (L:=L++G) (B:=F0++[e]) (R:=z::R') (by rw [ea];simp) (by simp only [List.length_append] at hF ⊢;simp only [List.length_singleton] at hF ⊢;lia) (by simp <;> lia) fun U e3 S => ?_)
      refine aa ⟨G++(F0++[e]).reverse,[z],R',0,kp.trans S,by rw [e3];simp, ?_,by simp <;> lia,rfl, ?_, ?_,by simp <;> lia⟩
      ·refine List.Perm.trans ?_ hp
       rw [List.append_assoc,List.append_assoc,List.append_assoc]
       exact List.Perm.append_left _ (List.Perm.append_right _ (List.reverse_perm _))
      ·have h1:=nR hN hE
       refine List.pairwise_append.mpr ⟨h1,by simp,fun u j v I => ?_⟩
       simp at I;subst I
       have hm:=gC c C3 BU
       refine (List.pairwise_append.mp hm).2.2 u ?_ v (by simp)
       rw [List.append_assoc]
       rcases List.mem_append.mp j with g | g
       ·exact List.mem_append_left _ g
       ·exact List.mem_append_right _ (List.mem_reverse.mp g)
      ·intro u j v I;simp at j I;subst j I;exact c.irr
     ·refine aa ⟨G++(F0++[e]),[z],R',0,kp,by rw [ea];simp,by simpa using hp,by simp <;> lia,rfl, ?_, ?_,by simp <;> lia⟩
      ·have hm:=gC c C3 BU
       simpa using hm
      ·intro u j v I;simp at j I;subst j I;exact c.irr
    ·have Ct:lt z e=false:=by simpa using C4
     refine wpS_bind (cN c (kp.kind.trans hk) he hz Ch Cg ?_)
     dsimp only
     refine ae (fun Ci => ?_) (fun Ci => ?_)
     ·exact aa ⟨G,F0++[e],z::R',neq,kp,ea,hp,rfl,hF,hN,hE⟩
     ·have BU:lt e z=false:=by simpa using Ci
      refine aa ⟨G,(F0++[e])++[z],R',neq+1,kp,by rw [ea];simp,by simpa using hp,by simp <;> lia,by simp at hF ⊢;lia, ?_, ?_,by simp <;> lia⟩
      ·have hm:=gC c C3 BU
       simpa using hm
      ·have Cu:∀ u∈F0++[e],lt u z=false:=fun u j=>by
        cases q1:lt u z with
        | false=>rfl
        | true=>rcases c.neg u e z q1 with r | r
                ·rw [hE u j e (by simp)] at r;cases r
                ·rw [BU] at r;cases r
       have Cv:∀ u∈F0++[e],lt z u=false:=fun u j=>by
        cases q1:lt z u with
        | false=>rfl
        | true=>rcases c.neg z e u q1 with r | r
                ·rw [Ct] at r;cases r
                ·rw [hE e (by simp) u j] at r;cases r
       intro u j v I
       rcases List.mem_append.mp j with g | g <;> rcases List.mem_append.mp I with g2 | g2
       ·exact hE u g v g2
       ·simp at g2;subst g2;exact Cu u g
       ·simp at g;subst g;exact Cv v g2
       ·simp at g g2;subst g g2;exact c.irr
   ·rintro r O ⟨G,F,R,neq,kp,ea,hp,hr,hF,hN,hE,Cf⟩
    exact ⟨G,F,R,neq,kp,ea,hp,hr,hF,hN,hE⟩
   ·refine ⟨B,[x],xs.drop (n+1),0,BS,by rw [e1];simp, ?_,by simp [BP],rfl, ?_, ?_,by simp [BP]⟩
    ·have h9:(B++x::xs.drop (n+1)).Perm xs:=by
      have h9:=List.Perm.append_right (x::xs.drop (n+1)) hB
      rw [<- exs] at h9
      exact h9
     simpa using h9
    ·refine List.pairwise_append.mpr ⟨List.Pairwise.imp_of_mem (fun j I _=>BQ _ j _ I) (List.pairwise_of_forall_mem_list (r:=fun _ _=>True) fun _ _ _ _=>trivial),by simp,fun u j v I => ?_⟩
     simp at I;subst I
     cases q1:lt u v with
     | false=>rfl
     | true=>rcases c.neg u y v q1 with r | r
             ·rw [BQ u j y BR] at r;cases r
             ·rw [c.asym _ _ Cp] at r;cases r
    ·intro u j v I;simp at j I;subst j I;exact c.irr
   ·rintro r O ⟨G,F,R,neq,kp,ea,hp,rfl,hF,hN,hE⟩
    dsimp -zeta -zetaHave -zetaUnused only
    extract_lets -underBinder +onlyGivenNames vr vs vn2 vq2
    dsimp -zeta -zetaHave -zetaUnused only [vr]
    have Cw:vn2=(G++F).length:=rfl
    have eq2:neq=vq2:=rfl
    clear_value vn2 vq2
    clear vs vr
    subst Cw eq2
    extract_lets -underBinder +onlyGivenNames BW
    have C0:∀ (D:List Keyed) (U:SortSt),(arrOf U).toList=L++(D++R)->ck lt D->(D++R).Perm xs->D.length=(G++F).length->0 < D.length->Kp st' U->wpS (PySem.model prog w) A E s (BW ()) Q U:=by
     intro D U e3 C5 C6 BX C1 S
     dsimp -zeta -zetaHave -zetaUnused only [BW]
     clear BW
     have Cy : 0 < D.length:=by lia
     refine wpS_bind (iG (L:=L) (B:=D) (R:=R) e3 rfl (by rw [BX]) fun Cj e4 Ck => ?_)
     have o4:Ord lt D.reverse:=List.pairwise_reverse.mpr C5
     have BY:(D.reverse++R).Perm xs:=(List.Perm.append_right _ (List.reverse_perm D)).trans C6
     have Cl:(D.reverse++R).length=xs.length:=BY.length_eq
     have C7:Ord lt ((D.reverse++R).take D.length):=by
      rw [List.take_append_of_le_length (by simp),List.take_of_length_le (by simp)];exact o4
     have C8:∀ u∈D.reverse++R,P u:=fun u j=>hP u (BY.mem_iff.mp j)
     have Cz:D.length<=xs.length:=by rw [<- Cl];simp
     rw [<- BX]
     generalize D.length=N0 at C7 Cy Cz
     generalize D.reverse++R=ys at e4 BY Cl C7 C8
     refine wpS_bind (az (Q:=fun r Y=>Y=Cj /\ ∃ n,r=(none,n)/\1<=n/\n<=xs.length/\Ord lt (ys.take n))
      (wpS_forRange (fun i r Y=>Y=Cj/\r=(none,i)/\Ord lt (ys.take i)) ?_ ?_ ⟨rfl,rfl,C7⟩) ?_)
     ·rintro i r Y h1 hi ⟨rfl,rfl,ho⟩
      dsimp only
      obtain ⟨u,j⟩:∃ u,ys[i]? = some u:=⟨_,List.getElem?_eq_getElem (by lia)⟩
      obtain ⟨v,I⟩:∃ v,ys[i - 1]? = some v:=⟨_,List.getElem?_eq_getElem (by lia)⟩
      refine wpS_bind (cN c ((S.trans Ck).kind.trans hk) ((bH e4 rfl).trans j) ((bH e4 (by lia)).trans I) (C8 _ (List.mem_of_getElem? j)) (C8 _ (List.mem_of_getElem? I)) ?_)
      dsimp only
      refine ae (fun h => ?_) (fun h => ?_)
      ·exact aa ⟨rfl,i,rfl,by lia,by lia,ho⟩
      ·exact aa ⟨rfl,rfl,lZ c ho (by lia) j I (by simpa using h)⟩
     ·rintro r Y ⟨rfl,rfl,ho⟩
      exact ⟨rfl,_,rfl,by lia,by lia,ho⟩
     ·rintro r Y ⟨rfl,m,rfl,CF,CG,ho⟩
      refine aa ?_
      have:=q (ys.take m) (ys.drop m) Y (by rw [e4,List.take_append_drop]) (perm_take.trans BY) (fun z=>by
       have h3:=congrArg List.length z
       rw [List.length_take,List.length_nil] at h3;lia) ho (S.trans Ck)
      rw [List.length_take,Nat.min_eq_left (by lia)] at this
      exact this
    clear_value BW
    refine ae (fun BV => ?_) (fun BV => ?_)
    ·refine wpS_bind (iG (L:=L++G) (B:=F) (R:=R) (by rw [ea];simp) (by simp <;> lia) (by simp <;> lia) fun U e3 S => ?_)
     have S:=kp.trans S
     have e3:(arrOf U).toList=L++((G++F.reverse)++R):=by rw [e3];simp
     have C5:=nR hN hE
     have C6:((G++F.reverse)++R).Perm xs:=(List.Perm.append_right _ (List.Perm.append_left _ (List.reverse_perm _))).trans hp
     have BX:(G++F.reverse).length=(G++F).length:=by simp
     have C1 : 0 < (G++F.reverse).length:=by simp <;> lia
     exact C0 _ _ e3 C5 C6 BX C1 S
    ·exact C0 _ _ ea hN hp rfl (by simp <;> lia) kp
  clear_value jp
  refine ae (fun h1 => ?_) (fun h1 => ?_)
  ·obtain ⟨x0,C9⟩:∃ x0,xs[0]? = some x0:=⟨_,List.getElem?_eq_getElem Cb⟩
   refine wpS_bind (cN c hk ((bH J (n := 0) (by lia)).trans C9) ((bH J (by lia)).trans hy) (hP _ (List.mem_of_getElem? C9)) (hP _ (List.mem_of_getElem? hy)) ?_)
   dsimp only
   refine ae (fun hr=>aa BZ) (fun hr => ?_)
   have hr:lt x0 y=false:=by simpa using hr
   have Cn:∀ u∈xs.take n,lt u x0=false:=fun u j=>by
    obtain ⟨i,hi,eu⟩:=List.mem_iff_getElem.mp j
    have Ca:(xs.take n)[i]? = some u:=by rw [<- eu];exact List.getElem?_eq_getElem hi
    have C2:(xs.take n)[0]? = some x0:=by rw [List.getElem?_take_of_lt (by lia)];exact C9
    by_cases hi0:i=0
    ·subst hi0;rw [C2] at Ca;cases Ca;exact c.irr
    ·exact dQ ho (by lia) C2 Ca
   have CA:∀ u∈xs.take n,lt y u=false:=fU c ho (by lia) hy c.irr
   have heq:∀ u∈xs.take n, ∀ v∈xs.take n,lt u v=false:=fun u j v I=>by
    exact c.le_trans (c.le_trans (CA v I) hr) (Cn u j)
   refine wpS_bind (iG (L:=L) (B:=xs.take n) (R:=x::xs.drop (n+1)) (by rw [J];exact congrArg (L ++ ·) exs) rfl (by rw [List.length_take,Nat.min_eq_left Cc]) fun Z e1 BS => ?_)
   have hB:(xs.take n).reverse.Perm (xs.take n):=List.reverse_perm _
   have BP:(xs.take n).reverse.length=n:=by rw [List.length_reverse,List.length_take];lia
   have BQ:∀ u∈(xs.take n).reverse, ∀ v∈(xs.take n).reverse,lt u v=false:=fun u j v I=>heq u (List.mem_reverse.mp j) v (List.mem_reverse.mp I)
   have BR:y∈(xs.take n).reverse:=List.mem_reverse.mpr Cd
   exact Ce _ _ e1 hB BP BQ BR BS
  ·have Z:=st'
   have hn:n=1:=by lia
   have BS:Kp st' st':=Kp.refl
   have e1:(arrOf st').toList=L++(xs.take n++x::xs.drop (n+1)):=by rw [J];exact congrArg (L ++ ·) exs
   have hB:(xs.take n).Perm (xs.take n):=List.Perm.refl _
   have BP:(xs.take n).length=n:=by rw [List.length_take];lia
   have BR:=Cd
   have BQ:∀ u∈xs.take n, ∀ v∈xs.take n,lt u v=false:=fun u j v I=>by
    have e0:xs.take n=[y]:=by
     subst hn
     rw [bZ (by lia) hy];rfl
    rw [e0] at j I
    simp at j I;subst j I;exact c.irr
   exact Ce _ _ e1 hB BP BQ BR BS
end
end Srt
end L2
namespace L2
namespace Srt
open PySem PySem.Spec PyProof.Rows
section
variable {prog:Program} {w:World} {A:Around} {E:Value->Shared->Prop} {s:Shared} {kd:SortKind} {P:Keyed->Prop} {lt:Keyed->Keyed->Bool}
theorem rK (c:Cm prog w A s kd P lt) {L r R:List Keyed} {n:Nat} {st:SortSt} {Q:Bool->SortSt->Prop} (hk:kindOf st=kd) (S:(arrOf st).toList=L++(r++R)) (h0:r≠[]) (ho:Ord lt r) (hn:r.length<=n) (Z:n<=(r++R).length) (hP:∀ x∈r++R,P x)
 (q:∀ r' R' st',(arrOf st').toList=L++(r'++R')->(r'++R').Perm (r++R)->r'.length=n->Ord lt r'->Kp st st'->Q true st'):wpS (PySem.model prog w) A E s (binarySort' L.length n r.length) Q st:=by
 have BV : 0 < r.length:=List.length_pos_iff.mpr h0
 rw [binarySort'_eq]
 refine wpS_bind (az (Q:=fun x st'=>x=(none,()) /\ ∃ D T,Kp st st'/\(arrOf st').toList=L++(D++T)/\(D++T).Perm (r++R)/\D.length=n/\Ord lt D)
  (wpS_forRange (fun i x st'=>x=(none,()) /\ ∃ D T,Kp st st'/\(arrOf st').toList=L++(D++T)/\(D++T).Perm (r++R)/\D.length=i/\Ord lt D) ?_ ?_ ⟨rfl,r,R,Kp.refl,S,List.Perm.refl _,by lia,ho⟩) ?_)
 ·rintro k x B BW BX ⟨rfl,D,T,kp,ea,I,U,J⟩
  dsimp only
  subst U
  have hlen:=I.length_eq
  rw [List.length_append] at hlen
  obtain ⟨z,T',rfl⟩:∃ z T',T=z::T':=by
   cases T with
   | nil=>simp at hlen Z;lia
   | cons z T'=>exact ⟨z,T',rfl⟩
  have BP:∀ u∈D,P u:=fun u G=>hP u (I.mem_iff.mp (List.mem_append_left _ G))
  have BQ:P z:=hP z (I.mem_iff.mp (by simp))
  have hz:(arrOf B)[L.length+D.length]? = some z:=by
   rw [bH ea rfl,List.getElem?_append_right (by lia),Nat.sub_self];rfl
  refine wpS_bind (az (Q:=fun x st'=>st'=B /\ ∃ k,x=(none,k,k)/\Gal lt false z D k k)
   (wpS_forRange (fun i x st'=>st'=B /\ ∃ lo hi,x=(none,lo,hi)/\Gal lt false z D lo hi/\hi - lo+i<=D.length) ?_ ?_ ⟨rfl,0,D.length,rfl,⟨by lia,by lia,fun _ _ h=>by lia,fun i x hi hx=>by
     have:=(List.getElem?_eq_some_iff.mp hx).1
     lia⟩,by lia⟩) ?_)
  ·rintro i x O _ hi ⟨rfl,lo,j,rfl,F,hm⟩
   dsimp only
   have hl:=F.le
   have BR:=F.len
   refine ae (fun BS => ?_) (fun BS => ?_)
   ·exact aa ⟨rfl,j,by rw [show lo=j by lia],by rw [show lo=j by lia] at F;exact F⟩
   ·obtain ⟨u,G⟩:∃ u,D[(lo+j) / 2]? = some u:=⟨_,List.getElem?_eq_getElem (by lia)⟩
    have BU:(arrOf O)[L.length+(lo+j) / 2]? = some u:=by
     rw [bH ea rfl,List.getElem?_append_left (by lia)];exact G
    refine wpS_bind (cN c (kp.kind.trans hk) hz BU BQ (BP _ (List.mem_of_getElem? G)) ?_)
    dsimp only
    refine ae (fun hf => ?_) (fun hf => ?_)
    ·exact aa ⟨rfl,_,_,rfl,⟨by lia,by lia,F.up,fT c J G (by simp [bey,hf])⟩,by lia⟩
    ·exact aa ⟨rfl,_,_,rfl,⟨by lia,BR,fS c J G (by simpa [bey] using hf),F.dn⟩,by lia⟩
  ·rintro x O ⟨rfl,lo,j,rfl,F,hm⟩
   have hl:=F.le
   exact ⟨rfl,j,by rw [show lo=j by lia],by rw [show lo=j by lia] at F;exact F⟩
  ·rintro x O ⟨rfl,l,rfl,F⟩
   dsimp only
   obtain ⟨X,Y,e,hl,hX,hY⟩:=F.out
   subst hl e
   rw [moveDown'_eq]
   refine wpS_bind (wpS_modify ?_)
   refine aa ⟨rfl,X++z::Y,T',kp.trans ⟨rfl,rfl,rfl⟩,ny ea (by simp) (by simp;lia), ?_,by simp;lia, ?_⟩
   ·refine List.Perm.trans ?_ I
    rw [List.append_assoc,List.append_assoc]
    refine List.Perm.append_left _ ?_
    rw [List.cons_append]
    exact List.perm_middle.symm
   ·obtain ⟨o1,o2,o3⟩:=List.pairwise_append.mp J
    refine List.pairwise_append.mpr ⟨o1,List.pairwise_cons.mpr ⟨fun u G=>c.asym _ _ (by have:=hY u G;simpa [bey] using this),o2⟩,fun u G v hv => ?_⟩
    rcases List.mem_cons.mp hv with g | g
    ·subst g;have:=hX u G;simpa [bey] using this
    ·exact o3 u G v g
 ·rintro x B ⟨rfl,D,T,kp,ea,I,U,J⟩
  exact ⟨rfl,D,T,kp,ea,I,by lia,J⟩
 ·rintro x B ⟨rfl,D,T,kp,ea,I,U,J⟩
  exact aa (q D T B ea I U J kp)
noncomputable def Pd:Nat->List (List Keyed)->List (Nat×Nat×Nat)->Prop
 | _,[],ps=>ps=[]
 | s,r::rs,ps => ∃ p t,ps=(s,r.length,p)::t/\Pd (s+r.length) rs t
theorem Pd.split:∀ {l t:List (List Keyed)} {s:Nat} {ps:List (Nat×Nat×Nat)},Pd s (l++t) ps -> ∃ pl pt,ps=pl++pt/\pl.length=l.length/\Pd s l pl/\Pd (s+l.flatten.length) t pt
 | [],t,s,ps,h=>⟨[],ps,rfl,rfl,rfl,by simpa using h⟩
 | r::l,t,s,ps,h=>by
   obtain ⟨p,q,e,h⟩:=h
   obtain ⟨pl,pt,j,hl,h1,h2⟩:=Pd.split h
   refine ⟨(s,r.length,p)::pl,pt,by rw [e,j];rfl,by simp [hl],⟨p,pl,rfl,h1⟩, ?_⟩
   rw [List.flatten_cons,List.length_append, <- Nat.add_assoc];exact h2
theorem Pd.join:∀ {l t:List (List Keyed)} {s:Nat} {pl pt:List (Nat×Nat×Nat)},Pd s l pl->Pd (s+l.flatten.length) t pt->Pd s (l++t) (pl++pt)
 | [],t,s,pl,pt,h,g=>by
  have:pl=[]:=h
  subst this;simpa using g
 | r::l,t,s,pl,pt,h,g=>by
   obtain ⟨p,q,e,h⟩:=h
   subst e
   refine ⟨p,q++pt,rfl,Pd.join h ?_⟩
   rw [List.flatten_cons,List.length_append, <- Nat.add_assoc] at g;exact g
theorem Pd.length:∀ {l:List (List Keyed)} {s:Nat} {ps:List (Nat×Nat×Nat)},Pd s l ps->ps.length=l.length
 | [],_,_,h=>by rw [show _=[] from h];rfl
 | r::l,s,ps,h=>by
   obtain ⟨p,q,e,h⟩:=h
   rw [e];simp [h.length]
structure Rn (lt:Keyed->Keyed->Bool) (kd:SortKind) (a₀:List Keyed) (st:SortSt) (rs:List (List Keyed)) (R:List Keyed):Prop where
 arr:(arrOf st).toList=rs.flatten++R
 perm:(rs.flatten++R).Perm a₀
 ord:∀ r∈rs,r≠[]/\Ord lt r
 pend:Pd 0 rs (pendingOf st).toList
 kind:kindOf st=kd
 fail:failedOf st=none
theorem Rn.merge (c:Cm prog w A s kd P lt) {a₀:List Keyed} (hP:∀ x∈a₀,P x) {st:SortSt} {l t:List (List Keyed)} {j B R:List Keyed} (h:Rn lt kd a₀ st (l++j::B::t) R) {i:Nat} (hi:i=l.length) {Q:Bool->SortSt->Prop}
 (q:∀ m st',Rn lt kd a₀ st' (l++m::t) R->m.length=j.length+B.length->Q true st'):wpS (PySem.model prog w) A E s (mergeAt' i) Q st:=by
 obtain ⟨g,lo,BR,⟨J,L,O⟩,S⟩:=B2 (E:=E) c
 obtain ⟨pl,pt,ep,G,U,Y⟩:=h.pend.split
 obtain ⟨I,t1,e1,Z⟩:=Y
 obtain ⟨p2,t2,e2,BP⟩:=Z
 subst e1 e2
 have o1:=h.ord j (by simp)
 have o2:=h.ord B (by simp)
 have F:∀ x,x∈j∨x∈B->P x:=fun x hx=>hP x (h.perm.mem_iff.mp (by simp only [List.flatten_append,List.flatten_cons,List.mem_append];rcases hx with z | z <;> simp [z]))
 have ip:∀ (k:Nat) (v:Nat×Nat×Nat),(pendingOf st).toList[k]? = some v->(pendingOf st)[k]? = some v:=fun k v e=>by rw [<- Array.getElem?_toList];exact e
 refine S J (L J) (O J) i (0+l.flatten.length) j.length I (0+l.flatten.length+j.length) B.length p2 l.flatten j B (t.flatten++R) st Q h.kind h.fail (ip _ _ ?_) (ip _ _ ?_) (by rw [h.arr];simp) (Nat.zero_add _) rfl (by lia) rfl o1.1 o2.1 (fun x hx=>F x (.inl hx)) (fun x hx=>F x (.inr hx)) o1.2 o2.2 ?_
 ·rw [ep,hi, <- G,List.getElem?_append_right (by lia),Nat.sub_self];rfl
 ·rw [ep,hi, <- G,List.getElem?_append_right (by lia),show pl.length+1 - pl.length=1 by lia];rfl
 ·intro m st' ea hm om hk hf BQ
  have n:m.length=j.length+B.length:=by rw [hm.length_eq];simp
  refine q m st' ⟨by rw [ea];simp, ?_, ?_, ?_,hk,hf⟩ n
  ·refine List.Perm.trans ?_ h.perm
   simp only [List.flatten_append,List.flatten_cons,List.append_assoc]
   refine List.Perm.append_left _ ?_
   rw [<- List.append_assoc j]
   exact List.Perm.append_right _ hm
  ·intro r hr
   rcases List.mem_append.mp hr with z | z
   ·exact h.ord r (List.mem_append_left _ z)
   ·rcases List.mem_cons.mp z with z | z
    ·subst z;exact ⟨fun z=>by rw [z] at n;have:=List.length_pos_iff.mpr o1.1;simp at n;lia,om⟩
    ·exact h.ord r (by simp [z])
  ·rw [BQ]
   have e3:(((pendingOf st).setIfInBounds i (0+l.flatten.length,j.length+B.length,I)).eraseIdxIfInBounds (i+1)).toList=pl++(0+l.flatten.length,j.length+B.length,I)::t2:=by
    rw [Array.toList_eraseIdxIfInBounds,Array.toList_setIfInBounds,ep,hi, <- G]
    rw [List.set_append_right _ _ (by lia),Nat.sub_self,List.eraseIdx_append_of_length_le (by lia),show pl.length+1 - pl.length=1 by lia];rfl
   rw [e3]
   refine U.join ⟨I,t2,by rw [n], ?_⟩
   rw [n, <- Nat.add_assoc];exact BP
theorem m8 {α:Type} {l:List α} (h : 1 < l.length):∃ t a b,l=t++[a,b]:=by
 obtain ⟨t1,b,j⟩:∃ t b,l=t++[b]:=⟨l.dropLast,l.getLast (fun z=>by rw [z] at h;simp at h),(List.dropLast_concat_getLast _).symm⟩
 obtain ⟨n,a,q⟩:∃ t b,t1=t++[b]:=⟨t1.dropLast,t1.getLast (fun z=>by rw [j,z] at h;simp at h),(List.dropLast_concat_getLast _).symm⟩
 exact ⟨n,a,b,by rw [j,q];simp⟩
theorem zY {α:Type} {l:List α} {i:Nat} (h:i+1 < l.length):∃ t a b u,l=t++a::b::u/\t.length=i:=by
 refine ⟨l.take i,l[i],l[i+1],l.drop (i+2), ?_,by rw [List.length_take];lia⟩
 rw [<- List.drop_eq_getElem_cons (by lia), <- List.drop_eq_getElem_cons (by lia),List.take_append_drop]
theorem Rn.size {a₀:List Keyed} {st:SortSt} {rs:List (List Keyed)} {R:List Keyed} (h:Rn lt kd a₀ st rs R):rs.flatten.length+R.length=a₀.length:=by
 have:=h.perm.length_eq
 rw [List.length_append] at this;exact this
theorem nS:∀ {rs:List (List Keyed)},(∀ r∈rs,r≠[])->rs.length<=rs.flatten.length
 | [],_=>by simp
 | r::rs,h=>by
   have h1:=List.length_pos_iff.mpr (h r (by simp))
   have h2:=nS (rs:=rs) fun r hr=>h r (by simp [hr])
   rw [List.flatten_cons,List.length_append,List.length_cons];lia
theorem rL {l:List (List Keyed)} {s pw:Nat} {ps:Array (Nat×Nat×Nat)} (h:Pd s l ps.toList):Pd s l (ps.modify (ps.size - 1) fun x=>(x.1,x.2.1,pw)).toList:=by
 rw [Array.toList_modify]
 have g:∀ (l:List (List Keyed)) (s k:Nat) (ps:List (Nat×Nat×Nat)),Pd s l ps->Pd s l (ps.modify k fun x=>(x.1,x.2.1,pw)):=by
  intro l
  induction l with
  | nil=>intro s k ps h;have:ps=[]:=h;subst this;cases k <;> rfl
  | cons r l ih =>
    intro s k ps h
    obtain ⟨p,t,e,h⟩:=h
    subst e
    cases k with
    | zero=>exact ⟨pw,t,rfl,h⟩
    | succ k=>exact ⟨p,_,rfl,ih _ k t h⟩
 exact g _ _ _ _ h
theorem nB (c:Cm prog w A s kd P lt) {st:SortSt} {Q:Unit->SortSt->Prop} (hk:kindOf st=kd) (hf:failedOf st=none) (hp:pendingOf st = #[]) (hP:∀ x∈(arrOf st).toList,P x)
 (q:∀ st',(arrOf st').toList.Perm (arrOf st).toList->Ord lt (arrOf st').toList->failedOf st'=none->Q () st'):wpS (PySem.model prog w) A E s sortRuns' Q st:=by
 rw [sortRuns'_eq]
 refine wpS_bind (wpS_get ?_)
 try dsimp only
 have hsz:(arrOf st).size=(arrOf st).toList.length:=by simp
 generalize hA:(arrOf st).toList=a₀ at hP q hsz
 generalize hS:(arrOf st).size=size at hsz
 generalize minRun' size size 0=minrun
 refine wpS_bind (az (Q:=fun r st' => ∃ rs lo,r=(none,lo)/\Rn lt kd a₀ st' rs [])
  (wpS_forRange (fun i r st' => ∃ rs R,r=(none,rs.flatten.length)/\Rn lt kd a₀ st' rs R/\i<=rs.flatten.length) ?_ ?_ ⟨[],a₀,rfl,⟨by simpa using hA,by simp,by simp,by rw [hp];rfl,hk,hf⟩,by simp⟩) ?_)
 ·rintro i r BX _ hi ⟨rs,R,rfl,J,BU⟩
  try dsimp only
  have C8:=J.size
  refine ae (fun C5 => ?_) (fun C5 => ?_)
  ·have:R=[]:=List.length_eq_zero_iff.mp (by lia)
   subst this
   exact aa ⟨rs,_,rfl,J⟩
  ·have BY:size - rs.flatten.length=R.length:=by lia
   have C6:R≠[]:=fun z=>by rw [z,List.length_nil] at BY;lia
   have BZ:∀ x∈R,P x:=fun x hx=>hP x (J.perm.mem_iff.mp (List.mem_append_right _ hx))
   rw [BY]
   refine wpS_bind (nA c J.kind J.arr C6 BZ fun r Z I ea BP O ho kp => ?_)
   try dsimp only
   have F:Rn lt kd a₀ I rs (r++Z):=⟨ea,(List.Perm.append_left _ BP).trans J.perm,J.ord,by rw [kp.pend];exact J.pend,kp.kind.trans J.kind,kp.fail.trans J.fail⟩
   have C0:r.length+Z.length=R.length:=by rw [<- BP.length_eq];simp
   refine ae (fun BV => ?_) (fun BV => ?_)
   ·refine wpS_bind (bY ?_)
    refine wpS_bind (rK c F.kind F.arr O ho (n:=min R.length minrun) (by lia) (by simp;lia) (fun x hx=>BZ x (BP.mem_iff.mp hx)) fun r2 R2 B C1 BS G C7 BR => ?_)
    try dsimp only
    refine ae (fun h=>absurd h (by simp)) (fun _ => ?_)
    have C2:r2≠[]:=fun z=>by
     rw [z] at G;simp at G
     have:=List.length_pos_iff.mpr O
     lia
    have F:Rn lt kd a₀ B rs (r2++R2):=⟨C1,(List.Perm.append_left _ BS).trans F.perm,F.ord,by rw [BR.pend];exact F.pend,BR.kind.trans F.kind,BR.fail.trans F.fail⟩
    rw [<- G]
    clear G BS C1 BR ea BP kp C0 BV
    generalize B=I at F
    clear ho O
    have ho:=C7
    have O:=C2
    generalize r2=r at F ho O
    generalize R2=Z at F
    refine wpS_bind (wpS_get ?_)
    try dsimp only
    have C3:(pendingOf I).size=rs.length:=by rw [<- Array.length_toList];exact F.pend.length
    cases hb:(pendingOf I).back? with
    | none =>
      try dsimp only
      have HL:rs.flatten.length=rs.flatten.length:=rfl
      refine wpS_bind (wpS_modify ?_)
      have BW:=List.length_pos_iff.mpr O
      have S:(rs++[r]).flatten.length=rs.flatten.length+r.length:=by rw [List.flatten_append,List.length_append,HL];simp
      refine aa ⟨rs++[r],Z,by rw [S],⟨by rw [show _=_ from F.arr];simp, ?_, ?_, ?_,F.kind,F.fail⟩,by rw [S];lia⟩
      ·refine List.Perm.trans (List.Perm.of_eq (by simp)) F.perm
      ·intro u hu
       rcases List.mem_append.mp hu with z | z
       ·exact F.ord u z
       ·simp at z;subst z;exact ⟨O,ho⟩
      ·have h8:(pendingOf (setPending I ((pendingOf I).push (rs.flatten.length,r.length,0)))).toList=(pendingOf I).toList++[(rs.flatten.length,r.length,0)]:=by
        show ((pendingOf I).push _).toList=_
        rw [Array.toList_push]
       rw [show _=_ from h8]
       exact F.pend.join ⟨0,[],by rw [HL,Nat.zero_add],rfl⟩
    | some v =>
      obtain ⟨s1,n1,p1⟩:=v
      try dsimp only
      refine wpS_bind (az (Q:=fun x st'=>x=(none,()) /\ ∃ rs',Rn lt kd a₀ st' rs' (r++Z)/\rs'.flatten.length=rs.flatten.length)
       (wpS_forRange (fun i x st'=>x=(none,()) /\ ∃ rs',Rn lt kd a₀ st' rs' (r++Z)/\rs'.flatten.length=rs.flatten.length) ?_ ?_ ⟨rfl,rs,F,rfl⟩) ?_)
      ·rintro j x B _ hj ⟨rfl,rs',L,G⟩
       refine wpS_bind (wpS_get ?_)
       try dsimp only
       have BQ:(pendingOf B).size=rs'.length:=by rw [<- Array.length_toList];exact L.pend.length
       by_cases h1:(pendingOf B).size > 1
       ·rw [if_pos h1]
        have h2:(pendingOf B)[(pendingOf B).size - 2]? = some ((pendingOf B)[(pendingOf B).size - 2]'(by lia)):=Array.getElem?_eq_getElem (by lia)
        rw [h2]
        try dsimp only
        refine ae (fun h => ?_) (fun h => ?_)
        ·exact aa ⟨rfl,rs',L,G⟩
        ·obtain ⟨t,a,b,e⟩:=m8 (l:=rs') (by lia)
         subst e
         refine wpS_bind (L.merge c hP (by rw [BQ];simp) fun m U Y hm => ?_)
         refine ae (fun h=>absurd h (by simp)) (fun _=>aa ⟨rfl,_,Y, ?_⟩)
         rw [<- G];simp [hm]
       ·rw [if_neg h1]
        exact aa ⟨rfl,rs',L,G⟩
      ·rintro x B ⟨rfl,rs',L,G⟩
       exact ⟨rfl,rs',L,G⟩
      ·rintro x B ⟨rfl,rs',L,G⟩
       try dsimp only
       refine wpS_bind (wpS_modify ?_)
       have Y:Rn lt kd a₀ (setPending B ((pendingOf B).modify ((pendingOf B).size - 1) fun x=>(x.1,x.2.1,power' size (2*s1+n1) (2*s1+n1+n1+r.length) size))) rs' (r++Z):=⟨L.arr,L.perm,L.ord,rL L.pend,L.kind,L.fail⟩
       generalize C4:setPending B ((pendingOf B).modify ((pendingOf B).size - 1) fun x=>(x.1,x.2.1,power' size (2*s1+n1) (2*s1+n1+n1+r.length) size))=U at Y
       have HL:=G
       refine wpS_bind (wpS_modify ?_)
       have BW:=List.length_pos_iff.mpr O
       have S:(rs'++[r]).flatten.length=rs.flatten.length+r.length:=by rw [List.flatten_append,List.length_append,HL];simp
       refine aa ⟨rs'++[r],Z,by rw [S],⟨by rw [show _=_ from Y.arr];simp, ?_, ?_, ?_,Y.kind,Y.fail⟩,by rw [S];lia⟩
       ·refine List.Perm.trans (List.Perm.of_eq (by simp)) Y.perm
       ·intro u hu
        rcases List.mem_append.mp hu with z | z
        ·exact Y.ord u z
        ·simp at z;subst z;exact ⟨O,ho⟩
       ·have h8:(pendingOf (setPending U ((pendingOf U).push (rs.flatten.length,r.length,0)))).toList=(pendingOf U).toList++[(rs.flatten.length,r.length,0)]:=by
         show ((pendingOf U).push _).toList=_
         rw [Array.toList_push]
        rw [show _=_ from h8]
        exact Y.pend.join ⟨0,[],by rw [HL,Nat.zero_add],rfl⟩
   ·clear ea BP kp C0 BV
    refine wpS_bind (wpS_get ?_)
    try dsimp only
    have C3:(pendingOf I).size=rs.length:=by rw [<- Array.length_toList];exact F.pend.length
    cases hb:(pendingOf I).back? with
    | none =>
      try dsimp only
      have HL:rs.flatten.length=rs.flatten.length:=rfl
      refine wpS_bind (wpS_modify ?_)
      have BW:=List.length_pos_iff.mpr O
      have S:(rs++[r]).flatten.length=rs.flatten.length+r.length:=by rw [List.flatten_append,List.length_append,HL];simp
      refine aa ⟨rs++[r],Z,by rw [S],⟨by rw [show _=_ from F.arr];simp, ?_, ?_, ?_,F.kind,F.fail⟩,by rw [S];lia⟩
      ·refine List.Perm.trans (List.Perm.of_eq (by simp)) F.perm
      ·intro u hu
       rcases List.mem_append.mp hu with z | z
       ·exact F.ord u z
       ·simp at z;subst z;exact ⟨O,ho⟩
      ·have h8:(pendingOf (setPending I ((pendingOf I).push (rs.flatten.length,r.length,0)))).toList=(pendingOf I).toList++[(rs.flatten.length,r.length,0)]:=by
        show ((pendingOf I).push _).toList=_
        rw [Array.toList_push]
       rw [show _=_ from h8]
       exact F.pend.join ⟨0,[],by rw [HL,Nat.zero_add],rfl⟩
    | some v =>
      obtain ⟨s1,n1,p1⟩:=v
      try dsimp only
      refine wpS_bind (az (Q:=fun x st'=>x=(none,()) /\ ∃ rs',Rn lt kd a₀ st' rs' (r++Z)/\rs'.flatten.length=rs.flatten.length)
       (wpS_forRange (fun i x st'=>x=(none,()) /\ ∃ rs',Rn lt kd a₀ st' rs' (r++Z)/\rs'.flatten.length=rs.flatten.length) ?_ ?_ ⟨rfl,rs,F,rfl⟩) ?_)
      ·rintro j x B _ hj ⟨rfl,rs',L,G⟩
       refine wpS_bind (wpS_get ?_)
       try dsimp only
       have BQ:(pendingOf B).size=rs'.length:=by rw [<- Array.length_toList];exact L.pend.length
       by_cases h1:(pendingOf B).size > 1
       ·rw [if_pos h1]
        have h2:(pendingOf B)[(pendingOf B).size - 2]? = some ((pendingOf B)[(pendingOf B).size - 2]'(by lia)):=Array.getElem?_eq_getElem (by lia)
        rw [h2]
        try dsimp only
        refine ae (fun h => ?_) (fun h => ?_)
        ·exact aa ⟨rfl,rs',L,G⟩
        ·obtain ⟨t,a,b,e⟩:=m8 (l:=rs') (by lia)
         subst e
         refine wpS_bind (L.merge c hP (by rw [BQ];simp) fun m U Y hm => ?_)
         refine ae (fun h=>absurd h (by simp)) (fun _=>aa ⟨rfl,_,Y, ?_⟩)
         rw [<- G];simp [hm]
       ·rw [if_neg h1]
        exact aa ⟨rfl,rs',L,G⟩
      ·rintro x B ⟨rfl,rs',L,G⟩
       exact ⟨rfl,rs',L,G⟩
      ·rintro x B ⟨rfl,rs',L,G⟩
       try dsimp only
       refine wpS_bind (wpS_modify ?_)
       have Y:Rn lt kd a₀ (setPending B ((pendingOf B).modify ((pendingOf B).size - 1) fun x=>(x.1,x.2.1,power' size (2*s1+n1) (2*s1+n1+n1+r.length) size))) rs' (r++Z):=⟨L.arr,L.perm,L.ord,rL L.pend,L.kind,L.fail⟩
       generalize C4:setPending B ((pendingOf B).modify ((pendingOf B).size - 1) fun x=>(x.1,x.2.1,power' size (2*s1+n1) (2*s1+n1+n1+r.length) size))=U at Y
       have HL:=G
       refine wpS_bind (wpS_modify ?_)
       have BW:=List.length_pos_iff.mpr O
       have S:(rs'++[r]).flatten.length=rs.flatten.length+r.length:=by rw [List.flatten_append,List.length_append,HL];simp
       refine aa ⟨rs'++[r],Z,by rw [S],⟨by rw [show _=_ from Y.arr];simp, ?_, ?_, ?_,Y.kind,Y.fail⟩,by rw [S];lia⟩
       ·refine List.Perm.trans (List.Perm.of_eq (by simp)) Y.perm
       ·intro u hu
        rcases List.mem_append.mp hu with z | z
        ·exact Y.ord u z
        ·simp at z;subst z;exact ⟨O,ho⟩
       ·have h8:(pendingOf (setPending U ((pendingOf U).push (rs.flatten.length,r.length,0)))).toList=(pendingOf U).toList++[(rs.flatten.length,r.length,0)]:=by
         show ((pendingOf U).push _).toList=_
         rw [Array.toList_push]
        rw [show _=_ from h8]
        exact Y.pend.join ⟨0,[],by rw [HL,Nat.zero_add],rfl⟩
 ·rintro r BX ⟨rs,R,rfl,J,BU⟩
  have:=J.size
  have:R=[]:=List.length_eq_zero_iff.mp (by lia)
  subst this
  exact ⟨rs,_,rfl,J⟩
 ·rintro r BX ⟨rs,lo,rfl,J⟩
  try dsimp only
  refine wpS_bind (az (Q:=fun r st'=>r=(none,()) /\ ∃ rs,Rn lt kd a₀ st' rs []/\rs.length<=1)
   (wpS_forRange (fun i r st'=>r=(none,()) /\ ∃ rs,Rn lt kd a₀ st' rs []/\rs.length+i<=size) ?_ ?_ ⟨rfl,rs,J, ?_⟩) ?_)
  ·rintro i r I _ hi ⟨rfl,rs,J,BU⟩
   refine wpS_bind (wpS_get ?_)
   try dsimp only
   have C3:(pendingOf I).size=rs.length:=by rw [<- Array.length_toList];exact J.pend.length
   refine ae (fun h => ?_) (fun h => ?_)
   ·exact aa ⟨rfl,rs,J,by lia⟩
   ·have go:∀ k,k+1 < rs.length->wpS (PySem.model prog w) A E s (mergeAt' k) (fun b st'=>b=true /\ ∃ rs',Rn lt kd a₀ st' rs' []/\rs'.length+1=rs.length) I:=by
     intro k hk
     obtain ⟨t,a,b,u,e,ht⟩:=zY hk
     subst e
     refine J.merge c hP ht.symm fun m B L _=>⟨rfl,_,L,by simp;lia⟩
    refine wpS_bind (az (go _ ?_) ?_)
    ·(repeat' split) <;> lia
    ·rintro b B ⟨rfl,rs',L,G⟩
     refine ae (fun h=>absurd h (by simp)) (fun _=>aa ⟨rfl,rs',L,by lia⟩)
  ·rintro r I ⟨rfl,rs,J,BU⟩
   exact ⟨rfl,rs,J,by lia⟩
  ·have h1:=nS fun r hr=>(J.ord r hr).1
   have h2:=J.size
   simp only [List.length_nil] at h2
   lia
  ·rintro r I ⟨rfl,rs,J,hl⟩
   refine aa (q I (by rw [J.arr];exact J.perm) ?_ J.fail)
   rw [J.arr,List.append_nil]
   match rs,hl,J with
   | [],_,_=>exact List.Pairwise.nil
   | [r],_,J=>simpa using (J.ord r (by simp)).2
end
end Srt
end L2
namespace L2
namespace Srt
open PySem PySem.Spec PyProof.Rows
inductive Ky where
 | int (i:Int)
 | tup (l:List Ky)
mutual
noncomputable def ak:Ky->Ky->Ordering
 | .int a, .int b=>if a < b then .lt else if a=b then .eq else .gt
 | .int _, .tup _ => .lt
 | .tup _, .int _ => .gt
 | .tup a, .tup b=>cmpKs a b
noncomputable def cmpKs:List Ky->List Ky->Ordering
 | [],[] => .eq
 | [],_::_ => .lt
 | _::_,[] => .gt
 | x::xs,y::ys=>(ak x y).then (cmpKs xs ys)
end
mutual
theorem cm:∀ a b,ak b a=(ak a b).swap
 | .int a, .int b=>by
  simp only [ak]
  by_cases h1:a < b
  ·rw [if_pos h1,if_neg (by lia),if_neg (by lia)];rfl
  ·by_cases h2:a=b
   ·rw [if_neg h1,if_pos h2,if_neg (by lia),if_pos h2.symm];rfl
   ·rw [if_neg h1,if_neg h2,if_pos (by lia)];rfl
 | .int _, .tup _=>by simp [ak]
 | .tup _, .int _=>by simp [ak]
 | .tup a, .tup b=>by simp only [ak];exact cmpKs_swap a b
theorem cmpKs_swap:∀ a b,cmpKs b a=(cmpKs a b).swap
 | [],[] => rfl
 | [],_::_=>rfl
 | _::_,[] => rfl
 | x::xs,y::ys=>by
   simp only [cmpKs]
   rw [cm x y,cmpKs_swap xs ys]
   cases ak x y <;> rfl
end
mutual
theorem fV:∀ a b,ak a b = .eq->a=b
 | .int a, .int b,h=>by
  simp only [ak] at h
  by_cases h1:a < b
  ·rw [if_pos h1] at h;cases h
  ·by_cases h2:a=b
   ·rw [h2]
   ·rw [if_neg h1,if_neg h2] at h;cases h
 | .int _, .tup _,h=>by simp [ak] at h
 | .tup _, .int _,h=>by simp [ak] at h
 | .tup a, .tup b,h=>by simp only [ak] at h;rw [cmpKs_eq a b h]
theorem cmpKs_eq:∀ a b,cmpKs a b = .eq->a=b
 | [],[],_=>rfl
 | [],_::_,h=>by simp [cmpKs] at h
 | _::_,[],h=>by simp [cmpKs] at h
 | x::xs,y::ys,h=>by
   simp only [cmpKs] at h
   cases e:ak x y with
   | lt=>rw [e] at h;cases h
   | gt=>rw [e] at h;cases h
   | eq=>rw [e] at h;rw [fV x y e,cmpKs_eq xs ys h]
end
mutual
theorem iH:∀ a b c,ak a b = .lt->ak b c = .lt->ak a c = .lt
 | .int a, .int b, .int c,h,g=>by
  simp only [ak] at h g ⊢
  have h1:a < b:=by
   by_cases h1:a < b
   ·exact h1
   ·rw [if_neg h1] at h;split at h <;> cases h
  have h2:b < c:=by
   by_cases h1:b < c
   ·exact h1
   ·rw [if_neg h1] at g;split at g <;> cases g
  rw [if_pos (by lia)]
 | .int _, .tup _, .int _,_,g=>by simp [ak] at g
 | .int _, .int _, .tup _,_,_=>by simp [ak]
 | .int _, .tup _, .tup _,_,_=>by simp [ak]
 | .tup _, .int _,_,h,_=>by simp [ak] at h
 | .tup _, .tup _, .int _,_,g=>by simp [ak] at g
 | .tup a, .tup b, .tup c,h,g=>by simp only [ak] at h g ⊢;exact cmpKs_trans a b c h g
theorem cmpKs_trans:∀ a b c,cmpKs a b = .lt->cmpKs b c = .lt->cmpKs a c = .lt
 | [],[],_,h,_=>by simp [cmpKs] at h
 | [],_::_,[],_,g=>by simp [cmpKs] at g
 | [],_::_,_::_,_,_=>by simp [cmpKs]
 | _::_,[],_,h,_=>by simp [cmpKs] at h
 | _::_,_::_,[],_,g=>by simp [cmpKs] at g
 | x::xs,y::ys,z::zs,h,g=>by
   simp only [cmpKs] at h g ⊢
   cases e:ak x y with
   | gt=>rw [e] at h;cases h
   | eq =>
     have:=fV x y e
     subst this
     rw [e] at h
     cases e2:ak x z with
     | gt=>rw [e2] at g;cases g
     | lt=>rfl
     | eq=>rw [e2] at g;exact cmpKs_trans xs ys zs h g
   | lt =>
     cases e2:ak y z with
     | gt=>rw [e2] at g;cases g
     | lt=>rw [iH x y z e e2];rfl
     | eq =>
       have:=fV y z e2
       subst this
       rw [e];rfl
end
noncomputable def ltK (a b:Ky):Bool:=ak a b == .lt
noncomputable def m9 (a b:List Ky):Bool:=cmpKs a b == .lt
theorem gD (a b:Ky) (h:ltK a b=true):ltK b a=false:=by
 unfold ltK at h ⊢
 rw [cm a b,(by simpa using h:ak a b = .lt)];rfl
theorem fu (a b:Ky) (h:ltK a b=false) (g:ltK b a=false):a=b:=by
 unfold ltK at h g
 rw [cm a b] at g
 apply fV
 cases e:ak a b with
 | eq=>rfl
 | lt=>rw [e] at h;cases h
 | gt=>rw [e] at g;cases g
theorem xW (a b c:Ky) (h:ltK a c=true):ltK a b=true∨ltK b c=true:=by
 cases e:ltK a b with
 | true=>exact .inl rfl
 | false =>
   right
   cases j:ltK b a with
   | false=>rw [fu a b e j] at h;exact h
   | true =>
     unfold ltK at h j ⊢
     rw [iH b a c (by simpa using j) (by simpa using h)];rfl
theorem rM (x y:Ky) (xs ys:List Ky):m9 (x::xs) (y::ys)=if (!ltK x y && !ltK y x)=true then m9 xs ys else ltK x y:=by
 unfold m9 ltK
 rw [cm x y]
 simp only [cmpKs]
 cases ak x y <;> simp
mutual
noncomputable def toK:PyData->Ky
 | .int i => .int i
 | .tuple xs => .tup (toKs xs)
 | _ => .int 0
noncomputable def toKs:List PyData->List Ky
 | [] => []
 | x::xs=>toK x::toKs xs
end
inductive Cmpb:PyData->PyData->Prop where
 | int (a b:Int):Cmpb (.int a) (.int b)
 | nil (ys:List PyData):Cmpb (.tuple []) (.tuple ys)
 | nil' (xs:List PyData):Cmpb (.tuple xs) (.tuple [])
 | cons {x y:PyData} {xs ys:List PyData}:Cmpb x y->Cmpb (.tuple xs) (.tuple ys)->Cmpb (.tuple (x::xs)) (.tuple (y::ys))
theorem Cmpb.eqv {x y:PyData} (h:Cmpb x y):PyData.eqv x y=(!ltK (toK x) (toK y) && !ltK (toK y) (toK x)):=by
 have g:∀ {x y:PyData},Cmpb x y->PyData.eqv x y=(ak (toK x) (toK y) == .eq):=by
  intro x y h
  induction h with
  | int a b =>
    simp only [PyData.eqv,toK,ak]
    by_cases h1:a < b
    ·rw [if_pos h1];simp;lia
    ·by_cases h2:a=b
     ·rw [if_neg h1,if_pos h2];simp [h2]
     ·rw [if_neg h1,if_neg h2];simp;lia
  | nil ys=>cases ys <;> simp [PyData.eqv,PyData.eqvAll,toK,toKs,ak,cmpKs]
  | nil' xs=>cases xs <;> simp [PyData.eqv,PyData.eqvAll,toK,toKs,ak,cmpKs]
  | @cons x y xs ys h1 h2 ih1 j =>
   simp only [PyData.eqv] at j ⊢
   simp only [PyData.eqvAll,toK,toKs,ak,cmpKs] at j ⊢
   rw [ih1,j]
   cases ak (toK x) (toK y) <;> simp
 rw [g h]
 unfold ltK
 rw [cm (toK x) (toK y)]
 cases ak (toK x) (toK y) <;> rfl
section
variable {prog:Program} {w:World} {A:Around} {E:Value->Shared->Prop} {s:Shared}
theorem trd {b:Bool} {Q:Bool->Shared->Prop} (q:Q b s):wpAny (PySem.model prog w) A (truthOfDropped (.bool b)) Q E s:=by
 unfold truthOfDropped
 wp_walk
 exact q
theorem fW (a b:Int):ltK (.int a) (.int b)=decide (a < b):=by
 simp only [ltK,ak]
 by_cases h:a < b
 ·simp [h]
 ·by_cases h2:a=b <;> simp [h,h2]
theorem rN {a b:Int} {t u:Tok} {Q:Value->Shared->Prop} (q:Q (.bool (decide (a < b))) s):wpAny (PySem.model prog w) A (richCompare .Lt (.int a t) (.int b u)) Q E s :=
 wpAny_richCompare_same (T := "int") rfl rfl F.slot_int_lt (call_int_lt ⟨by simp,q⟩)
noncomputable def bK:List PyData->List PyData->Option Bool
 | x::xs,y::ys=>if PyData.eqv x y=true then bK xs ys else some (ltK (toK x) (toK y))
 | _,_=>none
theorem gE:∀ {xs ys:List PyData},Cmpb (.tuple xs) (.tuple ys)->ltK (toK (.tuple xs)) (toK (.tuple ys))=match bK xs ys with | some b=>b | none=>decide (xs.length < ys.length)
 | [],[],_=>rfl
 | [],_::_,_=>by simp [bK,toK,toKs,ltK,ak,cmpKs]
 | _::_,[],_=>by simp [bK,toK,toKs,ltK,ak,cmpKs]
 | x::xs,y::ys,h=>by
   cases h with
   | cons h1 h2 =>
     have ih:=gE h2
     have e:∀ a b:List Ky,ltK (.tup a) (.tup b)=m9 a b:=fun a b=>by simp [ltK,m9,ak]
     simp only [toK,toKs,e] at ih ⊢
     rw [rM, <- h1.eqv]
     simp only [bK]
     split
     ·rw [ih];simp
     ·rfl
noncomputable def bT {α β:Type} (M:Model) (A:Around) (E:Value->Shared->Prop) (f : α -> β -> Sem (ForInStep β)) (Q : β -> Shared->Prop):List α -> β -> Shared->Prop
 | [],c,s=>Q c s
 | x::xs,c,s=>wpAny M A (f x c) (fun r s'=>match r with | .done c'=>Q c' s' | .yield c'=>bT M A E f Q xs c' s') E s
theorem eE {α β:Type} {M:Model} {f : α -> β -> Sem (ForInStep β)} {Q : β -> Shared->Prop}:∀ {l:List α} {c : β} {s:Shared},bT M A E f Q l c s->wpAny M A (forIn l c f) Q E s
 | [],c,s,h=>by rw [List.forIn_nil];exact wpAny_pure h
 | x::xs,c,s,h=>by
   rw [List.forIn_cons]
   refine wpAny_bind (wpAny_mono h (fun r s' hr => ?_) fun _ _ z=>z)
   cases r with
   | done c'=>exact wpAny_pure hr
   | yield c'=>exact eE hr
theorem bw {h:Heap}:∀ {vs:List Value} {xs:List PyData} {as:List Addr},ReadsAll h vs xs as->vs.length=xs.length
 | _,_,_, .nil=>rfl
 | _,_,_, .cons _ r=>by simp [bw r]
theorem gF {α β:Type} {M:Model} {n:Nat} {f : α -> Option β × Unit->Sem (ForInStep (Option β × Unit))} {g:Bool -> β} {pr : α -> Value×Value} {Q:Option β × Unit->Shared->Prop} :
 ∀ {l:List α} {vs us:List Value} {xs ys:List PyData} {as bs:List Addr},l.map pr=vs.zip us->ReadsAll s.heap vs xs as->ReadsAll s.heap us ys bs->Cmpb (.tuple xs) (.tuple ys)->PyData.canLayAll0 xs=true->PyData.canLayAll0 ys=true->PyData.depthAll xs<=n ->
  (∀ (z : α) (x y:Value) (d e:PyData) (as bs:List Addr) (R:ForInStep (Option β × Unit)->Shared->Prop),z∈l->pr z=(x,y)->Reads s.heap x d as->Reads s.heap y e bs->Cmpb d e->d.canLay0=true->e.canLay0=true->d.depth<=n ->
   R (if PyData.eqv d e=true then .yield (none,()) else .done (some (g (ltK (toK d) (toK e))),())) s->wpAny M A (f z (none,())) R E s) ->
  Q ((bK xs ys).map g,()) s->bT M A E f Q l (none,()) s
 | [],vs,us,xs,ys,as,bs,e,j,B,F,_,_,_,_,q=>by
  have h1:=bw j
  have h2:=bw B
  have:vs=[]∨us=[]:=by
   cases vs with
   | nil=>exact .inl rfl
   | cons v vs=>cases us with
     | nil=>exact .inr rfl
     | cons u us=>simp at e
  have G:bK xs ys=none:=by
   rcases this with rfl | rfl
   ·cases xs with
    | nil=>simp [bK]
    | cons x xs=>simp at h1
   ·cases ys with
    | nil=>cases xs <;> simp [bK]
    | cons y ys=>simp at h2
  rw [G] at q
  exact q
 | z::l,vs,us,xs,ys,as,bs,e,j,B,F,lx,ly,hd,hf,q=>by
   cases j with
   | nil=>simp at e
   | cons rx j =>
     cases B with
     | nil=>simp at e
     | cons ry B =>
       simp only [List.map_cons,List.zip_cons_cons,List.cons.injEq] at e
       simp only [PyData.canLayAll0,Bool.and_eq_true] at lx ly
       simp only [PyData.depthAll] at hd
       cases F with
       | cons I J =>
         simp only [bT]
         refine hf z _ _ _ _ _ _ _ (by simp) e.1 rx ry I lx.1 ly.1 (by lia) ?_
         simp only [bK] at q
         split at q
         ·next h =>
          rw [if_pos h]
          exact gF e.2 j B J lx.2 ly.2 (by lia) (fun z x y d e as bs R L=>hf z x y d e as bs R (by simp [L])) q
         ·next h =>
          rw [if_neg h]
          exact q
noncomputable def BI (n:Nat):Prop := ∀ (prog:Program) (w:World) (A:Around) (s:Shared) (a b:Value) (d e:PyData) (as bs:List Addr) (E:Value->Shared->Prop) (Q:Value->Shared->Prop),d.depth<=n->Cmpb d e->Reads s.heap a d as->Reads s.heap b e bs->d.canLay0=true->e.canLay0=true->A.units+n+1 < cLine ->
 Q (.bool (ltK (toK d) (toK e))) s->wpAny (PySem.model prog w) A (richCompare .Lt a b) Q E s
theorem B3:∀ n,BI n:=by
 intro n
 induction n with
 | zero =>
   intro prog w A s a b d e as bs E Q hd z ra rb ld le U q
   cases z with
   | int i j =>
     cases ra;cases rb
     exact rN (by rw [<- fW];exact q)
   | nil ys=>simp [PyData.depth] at hd
   | nil' xs=>simp [PyData.depth] at hd
   | cons _ _=>simp [PyData.depth] at hd
 | succ n ih =>
   intro prog w A s a b d e as bs E Q hd z ra rb ld le U q
   have tup:∀ xs ys,d = .tuple xs->e = .tuple ys->wpAny (PySem.model prog w) A (richCompare .Lt a b) Q E s:=by
    rintro xs ys rfl rfl
    cases ra with
    | tuple h1 h2 Y I =>
      cases rb with
      | tuple g1 g2 g3 J =>
        rename_i l ol vl nl p ob vb nb
        have tl:s.TypeIs (.ref l) "tuple" := ⟨_,h1,h2⟩
        have tb:s.TypeIs (.ref p) "tuple" := ⟨_,g1,g2⟩
        refine wpAny_richCompare_same_room tl tb F.slot_tuple_lt (wpAny_call_entry F.slot_tuple_lt tl F.entry_tuple_lt ?_ (F.args_tuple_lt_2 _ _)) (by lia)
        unfold Builtin.«tuple.__lt__»
        refine wpAny_bind ?_
        have L:isSubtype (.type "tuple") (.type "tuple")=pure true:=by rw [isSubtype_type];kernel_rfl
        wp_walk
        rw [Y]
        wp_walk
        rw [g3]
        refine wpAny_pure ?_
        refine wpAny_pure ?_
        refine wpAny_bind (eE (gF (n:=n) (g:=fun b=>Fin.done (Flow.ret (Value.bool b))) (pr:=id) (List.map_id _) I J z ld le (by simp [PyData.depth] at hd;lia) ?_ ?_))
        ·rintro ⟨x,y⟩ x' y' d e as bs R _ hz rx ry z ld le hd r
         cases hz
         dsimp only
         refine wpAny_bind (SeqAt.eqAt_reads d e _ _ _ _ _ _ rx ry ld le ?_ prog w E _ ?_)
         ·show A.units+1+min d.depth e.depth < cLine
          lia
         ·by_cases B:PyData.eqv d e=true
          ·rw [if_pos B] at r
           rw [B]
           exact wpAny_pure r
          ·rw [if_neg B] at r
           have B:PyData.eqv d e=false:=by simpa using B
           rw [B]
           refine wpAny_bind (wpAny_rule (wpAny_bind (ih prog w _ s x y d e as bs E _ hd z rx ry ld le ?_ ?_)))
           ·show A.units+1+n+1 < cLine
            lia
           ·exact wpAny_pure r
        ·have G:=gE z
         cases e2:bK xs ys with
         | some b =>
           rw [e2] at G
           dsimp only at G
           rw [G] at q
           exact wpAny_pure ⟨_,rfl,by simp,q⟩
         | none =>
           rw [e2] at G
           dsimp only at G
           rw [G] at q
           have O:=bw I
           have S:=bw J
           refine wpAny_pure ⟨_,rfl, ?_, ?_⟩
           ·simp [Builtin.Tuple.tupleCompareSizes]
           ·simp only [Array.length_toList] at O S
            simp only [Builtin.Tuple.tupleCompareSizes]
            rw [O,S]
            exact q
   cases z with
   | int i j =>
     cases ra;cases rb
     exact rN (by rw [<- fW];exact q)
   | nil ys=>exact tup _ _ rfl rfl
   | nil' xs=>exact tup _ _ rfl rfl
   | cons _ _=>exact tup _ _ rfl rfl
end
end Srt
end L2
namespace L2
namespace Srt
open PySem PySem.Spec PyProof.Rows
section
variable {prog:Program} {w:World} {A:Around} {E:Value->Shared->Prop} {s:Shared}
theorem iI {α β:Type} {M:Model} {f : α -> Sem β} {g : α -> β}:∀ {l:List α} {Q:List β -> Shared->Prop},(∀ x∈l, ∀ R : β -> Shared->Prop,R (g x) s->wpAny M A (f x) R E s)->Q (l.map g) s->wpAny M A (l.mapM f) Q E s
 | [],Q,_,q=>by rw [List.mapM_nil];exact wpAny_pure q
 | x::xs,Q,h,q=>by
   rw [List.mapM_cons]
   refine wpAny_bind (h x (by simp) _ (wpAny_bind (iI (fun y j=>h y (by simp [j])) (wpAny_pure q))))
theorem dv {α β:Type} {M:Model} {f : α -> Sem β} {g : α -> β} {xs:Array α} {Q:Array β -> Shared->Prop} (h:∀ x∈xs.toList, ∀ R : β -> Shared->Prop,R (g x) s->wpAny M A (f x) R E s) (q:Q (xs.map g) s):wpAny M A (xs.mapM f) Q E s:=by
 rw [Array.mapM_eq_mapM_toList]
 rw [map_eq_pure_bind]
 refine wpAny_bind (iI h (wpAny_pure ?_))
 have:(xs.toList.map g).toArray=xs.map g:=by
  apply Array.toList_inj.mp;simp
 rw [this];exact q
theorem jS {a:Addr} {v:Value} {vs:List Value} {o:Obj} {n:Nat} (h1:s.heap.get? a=some o) (h2:o.cls = .type "tuple") (j:o.data = .seq (v::vs).toArray n) {Q:Option Value->Shared->Prop} (q:Q (some v) s):wpAny (PySem.model prog w) A (firstOfTuple' (.ref a)) Q E s:=by
 unfold firstOfTuple'
 have ty:s.TypeIs (.ref a) "tuple" := ⟨_,h1,h2⟩
 wp_walk
 rw [j]
 refine wpAny_pure ?_
 refine wpAny_pure ?_
 exact wpAny_pure q
theorem xX {a:Addr} {o:Obj} {T:Value} (h1:s.heap.get? a=some o) (h2:o.cls=T) {Q:Value->Shared->Prop} (q:Q T s):wpAny (PySem.model prog w) A (typeOf (.ref a)) Q E s:=by
 wp_walk
 rw [h2];exact q
theorem rO {n:Nat} {x y:Value} {d e:PyData} {as bs:List Addr} (j:Cmpb d e) (rx:Reads s.heap x d as) (ry:Reads s.heap y e bs) (ld:d.canLay0=true) (le:e.canLay0=true) (hd:d.depth<=n) (z:A.units+n+1 < cLine) {Q:Bool->Shared->Prop} (q:Q (ltK (toK d) (toK e)) s):wpAny (PySem.model prog w) A (oneLt' false x y) Q E s:=by
 rw [oneLt'_eq]
 exact wpAny_bind (B3 n prog w A s x y d e as bs E _ hd j rx ry ld le z (trd q))
theorem jT {n:Nat} {b:Bool} {x y:Value} {xs ys:List PyData} {as bs:List Addr} (hb:b=true -> ∀ d e,xs.head? = some d->ys.head? = some e->(∃ i,d = .int i) /\ ∃ i,e = .int i)
 (G:Cmpb (.tuple xs) (.tuple ys)) (rx:Reads s.heap x (.tuple xs) as) (ry:Reads s.heap y (.tuple ys) bs) (lx:PyData.canLayAll0 xs=true) (ly:PyData.canLayAll0 ys=true) (hd:PyData.depthAll xs<=n) (hu:A.units+n+1 < cLine) {Q:Bool->Shared->Prop} (q:Q (ltK (toK (.tuple xs)) (toK (.tuple ys))) s) :
 wpAny (PySem.model prog w) A (keyLt' (tuples' b) x y) Q E s:=by
 cases rx with
 | tuple h1 h2 h3 I =>
   cases ry with
   | tuple g1 g2 g3 J =>
     refine wpAny_bind (listItems_at h1 h3 ?_)
     refine wpAny_bind (listItems_at g1 g3 ?_)
     refine wpAny_bind (eE (gF (n:=n) (g:=id) (pr:=Prod.fst) (List.zipIdx_map_fst _ _) I J G lx ly hd ?_ ?_))
     ·rintro ⟨⟨x,y⟩,i⟩ x' y' d e as bs R hz hp rx ry G ld le hd r
      cases hp
      dsimp only
      refine wpAny_bind (SeqAt.eqAt_reads d e _ _ _ _ _ _ rx ry ld le (by lia) prog w E _ ?_)
      by_cases F:PyData.eqv d e=true
      ·rw [if_pos F] at r
       rw [F]
       exact wpAny_pure r
      ·rw [if_neg F] at r
       have F:PyData.eqv d e=false:=by simpa using F
       rw [F]
       refine wpAny_bind ?_
       by_cases z:(b&&i==0)=true
       ·rw [z]
        simp only [Bool.and_eq_true,beq_iff_eq] at z
        obtain ⟨rfl,rfl⟩:=z
        have j:=List.mem_zipIdx_iff_getElem?.mp hz
        obtain ⟨O,S,t1,U,B,L⟩:∃ (O S:Int) (t1 U:Tok),x = .int O t1/\y = .int S U:=by
         generalize hV:Array.toList _=vl at I j
         generalize hU:Array.toList _=ul at J j
         cases I with
         | nil=>simp at j
         | cons p1 p2 =>
           cases J with
           | nil=>simp at j
           | cons q1 q2 =>
             simp at j
             obtain ⟨⟨O,ei⟩,⟨S,ej⟩⟩:=hb rfl _ _ rfl rfl
             subst ei ej
             cases p1;cases q1
             exact ⟨_,_,_,_,j.1.symm,j.2.symm⟩
        subst B L
        cases rx;cases ry
        refine oneLt_int ?_
        rw [<- fW]
        exact wpAny_pure r
       ·have z:(b&&i==0)=false:=by simpa using z
        rw [z]
        exact rO G rx ry ld le hd hu (wpAny_pure r)
     ·have B:=gE G
      cases L:bK xs ys with
      | some b =>
        rw [L] at B
        dsimp only at B
        rw [B] at q
        exact wpAny_pure q
      | none =>
        rw [L] at B
        dsimp only at B
        rw [B] at q
        have Y:=bw I
        have Z:=bw J
        refine wpAny_pure ?_
        simp only [Array.length_toList] at Y Z
        rw [Y,Z]
        exact q
end
end Srt
end L2
namespace L2
namespace Srt
open PySem PySem.Spec PyProof.Rows
structure md (n:Nat) (ds:List PyData):Prop where
 cmp:∀ d∈ds, ∀ e∈ds,Cmpb d e
 lay:∀ d∈ds,d.canLay0=true/\d.depth<=n
 kind:(∀ d∈ds, ∃ i,d = .int i)∨(∀ d∈ds, ∃ i xs,d = .tuple (.int i::xs))∨(∀ d∈ds, ∃ ys xs,d = .tuple (.tuple ys::xs))
noncomputable def bW (h:Heap):Value->Option Value
 | .ref a=>(h.get? a).bind fun o=>match o.data with | .seq xs _=>xs[0]? | _=>none
 | _=>none
section
variable {prog:Program} {w:World} {A:Around} {E:Value->Shared->Prop} {s:Shared}
noncomputable def cG (h:Heap) (x:Keyed):Ky:=toK (SeqAt.readOf h x.1)
noncomputable def RdL (h:Heap) (vs:List Value) (ds:List PyData):Prop := ∀ v∈vs, ∃ d∈ds, ∃ as,Reads h v d as
theorem fw {arr:Array Value} {T:String} (h0 : 0 < arr.size) (h:∀ v∈arr.toList, ∀ R:Value->Shared->Prop,R (.type T) s->wpAny (PySem.model prog w) A (typeOf v) R E s) {Q:Option Value->Shared->Prop} (q:Q (some (.type T)) s):wpAny (PySem.model prog w) A (oneTypeOnly' arr) Q E s:=by
 rw [oneTypeOnly'_eq]
 refine wpAny_bind (dv (g:=fun _=>Value.type T) h ?_)
 have e:(Array.map (fun _=>Value.type T) arr)[0]? = some (Value.type T):=by
  rw [Array.getElem?_map,Array.getElem?_eq_getElem h0];rfl
 rw [e]
 dsimp only
 have j:((Array.map (fun _=>Value.type T) arr).all fun x=>x==Value.type T)=true:=by
  rw [Array.all_eq_true]
  intro i hi
  simp
 rw [j]
 exact wpAny_pure q
theorem pN {n:Nat} {kd:SortKind} {vs:List Value} {ds:List PyData} (hr:RdL s.heap vs ds) (hs:md n ds)
 (h:∀ (x y:Value) (d e:PyData) (as bs:List Addr) (E:Value->Shared->Prop) (Q:Bool->Shared->Prop),d∈ds->e∈ds->Reads s.heap x d as->Reads s.heap y e bs->Q (ltK (toK d) (toK e)) s->wpAny (PySem.model prog w) A (keyLt' kd x y) Q E s) :
 Cm prog w A s kd (fun x=>x.1∈vs) (fun x y=>ltK (cG s.heap x) (cG s.heap y)) where
 asym:=fun x y=>gD _ _
 neg:=fun x y z=>xW _ _ _
 run:=fun x y E Q hx j q=>by
  obtain ⟨d,hd,as,ra⟩:=hr _ hx
  obtain ⟨e,he,bs,rb⟩:=hr _ j
  have B:=SeqAt.readOf_eq (hs.lay d hd).1 ra
  have F:=SeqAt.readOf_eq (hs.lay e he).1 rb
  unfold cG at q
  rw [B,F] at q
  exact h _ _ d e as bs E Q hd he ra rb q
theorem mf {h:Heap} {vs:List Value} (j:∀ v∈vs, ∃ u,bW h v=some u):((vs.toArray.map (bW h)).all fun x=>x.isSome)=true:=by
 rw [Array.all_eq_true]
 intro i hi
 simp at hi
 obtain ⟨u,n⟩:=j vs[i] (List.getElem_mem hi)
 simp [n]
theorem rP {h:Heap} {vs:List Value} {x:Value} (hx:x∈(Array.filterMap id (vs.toArray.map (bW h))).toList):∃ v∈vs,bW h v=some x:=by
 simp at hx
 exact hx
theorem rQ {h:Heap} {v:Value} {vs:List Value} {u:Value} (j:bW h v=some u) : 0 < (Array.filterMap id ((v::vs).toArray.map (bW h))).size:=by
 rw [<- Array.length_toList]
 simp [j]
theorem jU {h:Heap} {v:Value} {d:PyData} {xs:List PyData} {as:List Addr} (r:Reads h v (.tuple (d::xs)) as):∃ a o u us n bs,v = .ref a/\h.get? a=some o/\o.cls = .type "tuple" /\ o.data = .seq (u::us).toArray n/\Reads h u d bs:=by
 cases r with
 | @tuple a o vs n xs as h1 h2 j h4 =>
  generalize q:vs.toList=vl at h4
  cases h4 with
  | @cons u us _ _ bs _ z p2=>exact ⟨_,_,u,us,n,bs,rfl,h1,h2,by rw [j];congr 1;apply Array.toList_inj.mp;simpa using q,z⟩
theorem B4 {n:Nat} {v:Value} {vs:List Value} {ds:List PyData} (hr:RdL s.heap (v::vs) ds) (hs:md n ds) (z:A.units+n+1 < cLine) :
 ∃ kd,(∀ (E:Value->Shared->Prop) (Q:SortKind->Shared->Prop),Q kd s->wpAny (PySem.model prog w) A (keyKind' (v::vs).toArray) Q E s)/\Cm prog w A s kd (fun x=>x.1∈v::vs) (fun x y=>ltK (cG s.heap x) (cG s.heap y)):=by
 rcases hs.kind with I | I | I
 ·refine ⟨oneType',fun E Q q => ?_,pN hr hs fun x y d e as bs E Q hd he ra rb q => ?_⟩
  ·have hint:∀ u∈v::vs, ∃ i t,u = .int i t:=fun u z=>by
    obtain ⟨d,hd,as,ra⟩:=hr u z
    obtain ⟨i,rfl⟩:=I d hd
    cases ra
    exact ⟨_,_,rfl⟩
   rw [keyKind'_eq]
   refine wpAny_bind (dv (g:=fun _=>(none:Option Value)) (fun u z R r => ?_) ?_)
   ·obtain ⟨i,t,rfl⟩:=hint u (by simpa using z)
    rw [firstOfTuple'_int];exact wpAny_pure r
   ·have S:((Array.map (fun _=>(none:Option Value)) (v::vs).toArray).all fun x=>x.isSome)=false:=by
     simp
    rw [S]
    have B:((Array.map (fun _=>(none:Option Value)) (v::vs).toArray)[0]?.bind id).isSome=false:=by simp
    simp only [B,Bool.false_eq_true,if_false]
    refine wpAny_bind (fw (T := "int") (by simp) (fun u z R r => ?_) ?_)
    ·obtain ⟨i,t,rfl⟩:=hint u (by simpa using z)
     exact wpAny_pure r
    ·exact wpAny_pure q
  ·obtain ⟨i,rfl⟩:=I d hd
   obtain ⟨j,rfl⟩:=I e he
   cases ra;cases rb
   rw [keyLt'_oneType]
   exact oneLt_int (by rw [<- fW];exact q)
 ·refine ⟨tuples' true,fun E Q q => ?_,pN hr hs fun x y d e as bs E Q hd he ra rb q => ?_⟩
  ·have hf:∀ u∈v::vs, ∃ a o i t us n,u = .ref a/\s.heap.get? a=some o/\o.cls = .type "tuple" /\ o.data = .seq (.int i t::us).toArray n:=fun u z=>by
    obtain ⟨d,hd,as,ra⟩:=hr u z
    obtain ⟨i,xs,rfl⟩:=I d hd
    obtain ⟨a,o,Z,us,n,bs,S,B,J,G,L⟩:=jU ra
    cases L
    exact ⟨a,o,_,_,us,n,S,B,J,G⟩
   have F:∀ u∈v::vs, ∃ i t,bW s.heap u=some (.int i t):=fun u z=>by
    obtain ⟨a,o,i,t,us,n,rfl,B,J,G⟩:=hf u z
    exact ⟨i,t,by simp [bW,B,G]⟩
   rw [keyKind'_eq]
   refine wpAny_bind (dv (g:=bW s.heap) (fun u z R r => ?_) ?_)
   ·obtain ⟨a,o,i,t,us,n,rfl,B,J,G⟩:=hf u (by simpa using z)
    refine jS B J G ?_
    simpa [bW,B,G] using r
   ·rw [mf (fun u z=>let ⟨i,t,e⟩:=F u z; ⟨_,e⟩)]
    refine wpAny_bind (wpAny_rule ?_)
    obtain ⟨i0,t0,Y⟩:=F v (by simp)
    refine wpAny_bind (fw (T := "int") (rQ Y) (fun u z R r => ?_) ?_)
    ·obtain ⟨u',O,e⟩:=rP z
     obtain ⟨i,t,e'⟩:=F u' O
     rw [e'] at e;cases e
     exact wpAny_pure r
    ·exact wpAny_pure q
  ·obtain ⟨i,xs,rfl⟩:=I d hd
   obtain ⟨j,ys,rfl⟩:=I e he
   have l1:=hs.lay _ hd
   have l2:=hs.lay _ he
   refine jT (n:=n) (fun _ d e hd he => ?_) (hs.cmp _ hd _ he) ra rb (by simpa [PyData.canLay0] using l1.1) (by simpa [PyData.canLay0] using l2.1) (by have:=l1.2;simp [PyData.depth] at this;lia) z q
   simp at hd he;subst hd he
   exact ⟨⟨_,rfl⟩,_,rfl⟩
 ·refine ⟨tuples' false,fun E Q q => ?_,pN hr hs fun x y d e as bs E Q hd he ra rb q => ?_⟩
  ·have hf:∀ u∈v::vs, ∃ a o b ob us n,u = .ref a/\s.heap.get? a=some o/\o.cls = .type "tuple" /\ o.data = .seq (.ref b::us).toArray n/\s.heap.get? b=some ob/\ob.cls = .type "tuple" := fun u z=>by
    obtain ⟨d,hd,as,ra⟩:=hr u z
    obtain ⟨ys,xs,rfl⟩:=I d hd
    obtain ⟨a,o,Z,us,n,bs,S,B,J,G,L⟩:=jU ra
    cases L with
    | tuple h1 h2 h3 h4=>exact ⟨a,o,_,_,us,n,S,B,J,G,h1,h2⟩
   have F:∀ u∈v::vs, ∃ b ob,bW s.heap u=some (.ref b)/\s.heap.get? b=some ob/\ob.cls = .type "tuple" := fun u z=>by
    obtain ⟨a,o,b,ob,us,n,rfl,B,J,G,L,U⟩:=hf u z
    exact ⟨b,ob,by simp [bW,B,G],L,U⟩
   rw [keyKind'_eq]
   refine wpAny_bind (dv (g:=bW s.heap) (fun u z R r => ?_) ?_)
   ·obtain ⟨a,o,b,ob,us,n,rfl,B,J,G,L,U⟩:=hf u (by simpa using z)
    refine jS B J G ?_
    simpa [bW,B,G] using r
   ·rw [mf (fun u z=>let ⟨i,t,e,_⟩:=F u z; ⟨_,e⟩)]
    refine wpAny_bind (wpAny_rule ?_)
    obtain ⟨i0,t0,Y,_⟩:=F v (by simp)
    refine wpAny_bind (fw (T := "tuple") (rQ Y) (fun u z R r => ?_) ?_)
    ·obtain ⟨u',O,e⟩:=rP z
     obtain ⟨b,ob,e',L,U⟩:=F u' O
     rw [e'] at e;cases e
     exact xX L U r
    ·exact wpAny_pure q
  ·obtain ⟨zs,xs,rfl⟩:=I d hd
   obtain ⟨zs',ys,rfl⟩:=I e he
   have l1:=hs.lay _ hd
   have l2:=hs.lay _ he
   exact jT (n:=n) (fun h=>by cases h) (hs.cmp _ hd _ he) ra rb (by simpa [PyData.canLay0] using l1.1) (by simpa [PyData.canLay0] using l2.1) (by have:=l1.2;simp [PyData.depth] at this;lia) z q
end
end Srt
end L2
namespace L2
namespace Srt
open PySem PySem.Spec PyProof.Rows
inductive Pl:PyData->Prop where
 | int (i:Int):Pl (.int i)
 | tup (xs:List PyData):(∀ x∈xs,Pl x)->Pl (.tuple xs)
theorem aU {h h':Heap} (k:∀ b o,h.get? b=some o->o.cls = .type "tuple" -> h'.get? b=some o) {d:PyData} (p:Pl d):∀ {v:Value} {as:List Addr},Reads h v d as->Reads h' v d as:=by
 induction p with
 | int i=>intro v as r;cases r;exact .int _ _
 | tup xs hx ih =>
   intro v as r
   cases r with
   | tuple h1 h2 n q =>
     refine .tuple (k _ _ h1 h2) h2 n ?_
     have g:∀ (xs:List PyData),(∀ x∈xs, ∀ {v:Value} {as:List Addr},Reads h v x as->Reads h' v x as) -> ∀ (vs:List Value) (as:List Addr),ReadsAll h vs xs as->ReadsAll h' vs xs as:=by
      intro xs
      induction xs with
      | nil=>intro _ vs as r;cases r;exact .nil
      | cons x xs ihx =>
        intro j vs as r
        cases r with
        | cons z p2=>exact .cons (j x (by simp) z) (ihx (fun y B=>j y (by simp [B])) _ _ p2)
     exact g xs ih _ _ q
section
variable {prog:Program} {w:World} {A:Around} {E:Value->Shared->Prop} {s:Shared}
theorem xY {m:Nat} {a:Addr} {vs:List Value} {n:Nat} {ds:List PyData} (Z:s.heap.get? a=some (seqObj "list" vs.toArray n)) (hr:RdL s.heap vs ds) (hs:md m ds) (hp:∀ d∈ds,Pl d) (hl:vs.length<=sizeLine) (hu:A.units+m+1 < cLine) {Q:PySem.Fin->Shared->Prop}
 (q:∀ (h':Heap) (out:List Value) (n':Nat),(∀ b o,b≠a->s.heap.get? b=some o->h'.get? b=some o)->h'.get? a=some (seqObj "list" out.toArray n')->out.Perm vs->out.Pairwise (fun x y=>ltK (toK (SeqAt.readOf s.heap y)) (toK (SeqAt.readOf s.heap x))=false)->Q (.done (.ret .none)) { s with heap:=h' }) :
 wpAny (PySem.model prog w) A (Builtin.«list.sort» ⟨[.ref a],[]⟩) Q E s:=by
 rw [list_sort_plain]
 refine wpAny_bind (listItems_at Z rfl ?_)
 refine wpAny_bind (listUpdate_at Z rfl ?_ (by simpa using hl) (by simp))
 have g1:=get?_update_seq Z (fun _ => #[])
 generalize BP:s.heap.update a (Obj.mapSeq fun _ => #[])=h1 at g1
 generalize (if ((#[]:Array Value).size==vs.toArray.size)=true then n else n+1)=n1 at g1
 refine wpAny_bind (seqEpoch_at g1 rfl ?_)
 refine wpAny_bind (wpAny_newTuple ?_ (by simpa using hl))
 refine wpAny_bind (wpAny_newList ?_ (by simp))
 refine wpAny_holding ?_
 dsimp only
 generalize J:({ heap:=(h1.push { cls:=Value.type "tuple",data:=Data.seq vs.toArray.toList.toArray }).push { cls:=Value.type "list",data:=Data.seq [].toArray },gens:=s.gens,drawn:=s.drawn,toks:=s.toks,os:=s.os }:Shared)=s3
 have g3:s3.heap.get? a=some (seqObj "list" #[] n1):=by
  rw [<- J];exact Heap.get?_push_of_some _ (Heap.get?_push_of_some _ g1)
 have keep:∀ b o,b≠a->s.heap.get? b=some o->s3.heap.get? b=some o:=fun b o hb F=>by
  rw [<- J, <- BP]
  exact Heap.get?_push_of_some _ (Heap.get?_push_of_some _ (by rw [Heap.get?_update_ne _ _ _ _ hb];exact F))
 have keepT:∀ b o,s.heap.get? b=some o->o.cls = .type "tuple" -> s3.heap.get? b=some o:=fun b o hb hc=>keep b o (fun z=>by
  rw [z,Z] at hb;cases hb;simp at hc) hb
 have BQ:RdL s3.heap vs ds:=fun v hv=>by
  obtain ⟨d,hd,as,r⟩:=hr v hv
  exact ⟨d,hd,as,aU keepT (hp d hd) r⟩
 have same:∀ v∈vs,SeqAt.readOf s3.heap v=SeqAt.readOf s.heap v:=fun v hv=>by
  obtain ⟨d,hd,as,r⟩:=hr v hv
  rw [SeqAt.readOf_eq (hs.lay d hd).1 r,SeqAt.readOf_eq (hs.lay d hd).1 (aU keepT (hp d hd) r)]
 have q:∀ (h':Heap) (out:List Value) (n':Nat),(∀ b o,b≠a->s.heap.get? b=some o->h'.get? b=some o)->h'.get? a=some (seqObj "list" out.toArray n')->out.Perm vs->out.Pairwise (fun x y=>ltK (toK (SeqAt.readOf s.heap y)) (toK (SeqAt.readOf s.heap x))=false)->Q (.done (.ret .none)) { s3 with heap:=h' }:=by
  rw [<- J];exact q
 have BR:∀ A':Around,A'.units=A.units->True:=fun _ _=>trivial
 clear J
 let Good:SortSt->Prop:=fun st'=>failedOf st'=none/\(arrOf st').toList.Perm (vs.zip vs)/\(arrOf st').toList.Pairwise (fun x y=>ltK (cG s3.heap y) (cG s3.heap x)=false)
 by_cases B:vs.toArray.size < 2
 ·rw [if_pos B,if_pos B]
  refine wpAny_bind (wpAny_pure ?_)
  have G:vs.length < 2:=by simpa using B
  have run:wpAny (PySem.model prog w) A ((pure ():StateT SortSt Sem Unit).run (SortSt.mk' general' (vs.toArray.zip vs.toArray) #[] 7 none)) (fun r s'=>s'=s3/\Good r.2) E s3:=by
   refine wpAny_pure ⟨rfl,rfl, ?_, ?_⟩
   ·show (vs.toArray.zip vs.toArray).toList.Perm _
    simp
   ·show List.Pairwise _ (vs.toArray.zip vs.toArray).toList
    match vs,G with
    | [],_=>simp
    | [x],_=>simp
  refine wpAny_bind (wpAny_mono (Q:=fun r s'=>s'=s3/\Good r.2) run (fun r s' hr => ?_) (fun _ _ z=>z))
  obtain ⟨rfl,I,j,L⟩:=hr
  obtain ⟨u,st'⟩:=r
  refine wpAny_bind (seqEpoch_at g3 rfl ?_)
  refine wpAny_bind (listUpdate_at g3 rfl ?_ (by simp) (by simp only [Array.size_map];have:=j.length_eq;simp at this;rw [this];lia))
  dsimp only at I
  rw [I]
  simp only [bne_self_eq_false,Bool.false_eq_true,if_false]
  refine wpAny_pure ?_
  have gq:=get?_update_seq g3 (fun _=>Array.map (fun x=>x.snd) (arrOf st'))
  have eo:Array.map (fun x=>x.snd) (arrOf st')=((arrOf st').toList.map fun x=>x.snd).toArray:=by apply Array.toList_inj.mp;simp
  refine q _ ((arrOf st').toList.map fun x=>x.snd) _ (fun b o hb F => ?_) (by rw [gq,eo]) ?_ ?_
  ·rw [Heap.get?_update_ne _ _ _ _ hb]
   exact keep b o hb F
  ·have R:=j.map (fun x:Keyed=>x.snd)
   rw [List.map_snd_zip (by simp)] at R
   exact R
  ·rw [List.pairwise_map]
   refine L.imp_of_mem fun {x y} hx hy hxy => ?_
   have mx:=mem_zip_self (j.mem_iff.mp hx)
   have my:=mem_zip_self (j.mem_iff.mp hy)
   unfold cG at hxy
   rw [mx.1,my.1,same y.2 (by rw [<- my.1];exact my.2),same x.2 (by rw [<- mx.1];exact mx.2)] at hxy
   exact hxy
 ·rw [if_neg B,if_neg B]
  have G : 2<=vs.length:=by simpa using B
  obtain ⟨v0,O,S⟩:∃ v0 O,vs=v0::O:=by
   match vs,G with
   | v::t,_=>exact ⟨v,t,rfl⟩
  obtain ⟨kd,U,Y⟩:=B4 (prog:=prog) (w:=w) (A:=A) (v:=v0) (vs:=O) (by rw [<- S];exact BQ) hs hu
  rw [<- S] at U Y
  refine wpAny_bind (U E _ ?_)
  have run:wpAny (PySem.model prog w) A (sortRuns'.run (SortSt.mk' kd (vs.toArray.zip vs.toArray) #[] 7 none)) (fun r s'=>s'=s3/\Good r.2) E s3:=by
   have ez:(arrOf (SortSt.mk' kd (vs.toArray.zip vs.toArray) #[] 7 none)).toList=vs.zip vs:=by
    show (vs.toArray.zip vs.toArray).toList=_
    simp
   have h9:wpS (PySem.model prog w) A E s3 sortRuns' (fun _ st'=>Good st') (SortSt.mk' kd (vs.toArray.zip vs.toArray) #[] 7 none):=by
    refine nB (st:=SortSt.mk' kd (vs.toArray.zip vs.toArray) #[] 7 none) Y rfl rfl rfl (fun x hx => ?_) fun st' p1 p2 p3=>⟨p3,by rw [ez] at p1;exact p1,p2⟩
    rw [ez] at hx
    exact (mem_zip_self hx).2
   exact h9
  refine wpAny_bind (wpAny_mono (Q:=fun r s'=>s'=s3/\Good r.2) run (fun r s' hr => ?_) (fun _ _ z=>z))
  obtain ⟨rfl,I,j,L⟩:=hr
  obtain ⟨u,st'⟩:=r
  refine wpAny_bind (seqEpoch_at g3 rfl ?_)
  refine wpAny_bind (listUpdate_at g3 rfl ?_ (by simp) (by simp only [Array.size_map];have:=j.length_eq;simp at this;rw [this];lia))
  dsimp only at I
  rw [I]
  simp only [bne_self_eq_false,Bool.false_eq_true,if_false]
  refine wpAny_pure ?_
  have gq:=get?_update_seq g3 (fun _=>Array.map (fun x=>x.snd) (arrOf st'))
  have eo:Array.map (fun x=>x.snd) (arrOf st')=((arrOf st').toList.map fun x=>x.snd).toArray:=by apply Array.toList_inj.mp;simp
  refine q _ ((arrOf st').toList.map fun x=>x.snd) _ (fun b o hb F => ?_) (by rw [gq,eo]) ?_ ?_
  ·rw [Heap.get?_update_ne _ _ _ _ hb]
   exact keep b o hb F
  ·have R:=j.map (fun x:Keyed=>x.snd)
   rw [List.map_snd_zip (by simp)] at R
   exact R
  ·rw [List.pairwise_map]
   refine L.imp_of_mem fun {x y} hx hy hxy => ?_
   have mx:=mem_zip_self (j.mem_iff.mp hx)
   have my:=mem_zip_self (j.mem_iff.mp hy)
   unfold cG at hxy
   rw [mx.1,my.1,same y.2 (by rw [<- my.1];exact my.2),same x.2 (by rw [<- mx.1];exact mx.2)] at hxy
   exact hxy
theorem pO (u:Value):checkBuiltinCall "sorted" ⟨[u],[]⟩=pure ():=by kernel_rfl
theorem jV {m:Nat} {u:Value} {ds:List PyData} {C:Heap->List Value->Prop} {Q:Value->Shared->Prop} (S:A.units+m+3 < cLine) (hs:md m ds) (z:∀ d∈ds,Pl d)
 (B:∀ (E:Value->Shared->Prop) (R:List Value->Shared->Prop),(∀ (h':Heap) (vs':List Value) (t':Nat),C h' vs'->RdL h' vs' ds->vs'.length<=sizeLine->s.toks<=t'->R vs' { s with heap:=h',toks:=t' })->wpAny (PySem.model prog w) A.in1 (collect u) R E s)
 (q:∀ (h1 h2:Heap) (vs out:List Value) (n' t':Nat),C h1 vs->(∀ b o,h1.get? b=some o->h2.get? b=some o)->h2.get? h1.objs.size=some (seqObj "list" out.toArray n')->out.Perm vs->out.Pairwise (fun x y=>ltK (toK (SeqAt.readOf h2 y)) (toK (SeqAt.readOf h2 x))=false)->RdL h2 out ds->vs.length<=sizeLine->s.toks<=t'->Q (.ref h1.objs.size) { s with heap:=h2,toks:=t' }) :
 wpAny (PySem.model prog w) A (call (.builtin "sorted") [u]) Q E s:=by
 refine wpAny_call (codeAny_call_builtin plain_sorted entry_sorted (wpAny_of_eq (pO u) ?_))
 unfold Builtin.sorted
 refine wpAny_bind (wpAny_of_eq (a:=()) (by kernel_rfl) ?_)
 refine wpAny_bind (B _ _ fun h1 vs t' L hr hl O => ?_)
 refine wpAny_bind (wpAny_newList ?_ hl)
 refine wpAny_bind (wpAny_holding ?_)
 have F:RdL (h1.push { cls:=Value.type "list",data:=Data.seq vs.toArray }) vs ds:=fun v n=>by
  obtain ⟨d,hd,as,r⟩:=hr v n
  exact ⟨d,hd,as,aU (fun b o hb _=>Heap.get?_push_of_some _ hb) (z d hd) r⟩
 have J:(h1.push { cls:=Value.type "list",data:=Data.seq vs.toArray }).get? h1.objs.size=some (seqObj "list" vs.toArray 0):=Heap.get?_push_size _ rfl
 refine wpAny_call_entry slot_list_sort (T := "list") ⟨_,J,rfl⟩ entry_list_sort ?_ (args_list_sort _)
 refine xY (m:=m) J F hs z hl (by show A.units+1+1+m+1 < cLine;lia) fun h2 out n' keep g2 j G=>⟨_,rfl,wpAny_pure ?_⟩
 have old:∀ b o,h1.get? b=some o->h2.get? b=some o:=fun b o hb=>keep b o (Nat.ne_of_lt (Heap.lt_size hb)) (Heap.get?_push_of_some _ hb)
 have I:RdL h2 vs ds:=fun v n=>by
  obtain ⟨d,hd,as,r⟩:=hr v n
  exact ⟨d,hd,as,aU (fun b o hb _=>old b o hb) (z d hd) r⟩
 refine q h1 h2 vs out n' t' L old g2 j ?_ (fun v n=>I v (j.mem_iff.mp n)) hl O
 have same:∀ v∈vs,SeqAt.readOf (h1.push { cls:=Value.type "list",data:=Data.seq vs.toArray }) v=SeqAt.readOf h2 v:=fun v n=>by
  obtain ⟨d,hd,as,r⟩:=hr v n
  rw [SeqAt.readOf_eq (hs.lay d hd).1 (aU (fun b o hb _=>old b o hb) (z d hd) r),SeqAt.readOf_eq (hs.lay d hd).1 (aU (fun b o hb _=>Heap.get?_push_of_some _ hb) (z d hd) r)]
 refine G.imp_of_mem fun {x y} hx hy hxy => ?_
 rw [same y (j.mem_iff.mp hy),same x (j.mem_iff.mp hx)] at hxy
 exact hxy
end
end Srt
end L2
namespace L2
namespace It
open PySem PySem.Spec PyProof.Rows
noncomputable def iO (f0:Value) (b:Bool) (d:Addr) (i n ep:Nat) (ok ov:Value):Obj := { cls := .type "dict_itemiterator",data := .fields #[f0, .bool b, .ref d, .int i 0, .int n 0, .int ep 0,ok,ov] }
theorem slot_next:Slot "dict_itemiterator" "__next__" "dict_itemiterator.__next__" := .of (owner := "dict_itemiterator") (n := "__next__") (by rw [typeLookup_type,builtinLookup_eq_fast];kernel_rfl) (by decide +kernel) (by decide +kernel) (by decide +kernel) (.inl (by decide +kernel)) (by rw [isSubtype_type];kernel_rfl)
theorem bp:entryFor table "dict_itemiterator.__next__" = some Builtin.«dict_itemiterator.__next__» := entryFor_of_tree (by kernel_rfl)
theorem bx (a:Value):argsOk "dict_itemiterator.__next__" ⟨[a],[]⟩:=by unfold argsOk;kernel_rfl
theorem fx:mroOf (.type "dict_itemiterator")=pure [.type "dict_itemiterator", .type "object"]:=by rw [mroOf_type];kernel_rfl
section
variable {prog:Program} {w:World} {A:Around} {E:Value->Shared->Prop} {s:Shared}
theorem uP {M:Model} {a:Addr} {Q:Option Obj->Shared->Prop} (q:Q (s.heap.get? a) s):wpAny M A (loadIfAlive a) Q E s:=fun Γ p hp=>by
 show Sem.wp M Γ (Sem.loadIfAlive a Sem.pure) _ _ p s
 rw [Sem.wp_loadIfAlive];exact q
theorem bq {it:Addr} (ty:s.TypeIs (.ref it) "dict_itemiterator") {types:List String} {Q:Bool->Shared->Prop} (q:Q (types.any fun t => [Value.type "dict_itemiterator",Value.type "object"].contains (Value.type t)) s):wpAny (model prog w) A (Builtin.Dict_items.isOneOf (.ref it) types) Q E s:=by
 have hm:=fx
 unfold Builtin.Dict_items.isOneOf
 wp_walk
 exact q
theorem rR {it d a:Addr} {b:Bool} {i n ep:Nat} {ok ov:Value} {oa:Obj} {Q:Bool->Shared->Prop} (hi:s.heap.get? it=some (iO (rawInt a) b d i n ep ok ov)) (j:s.heap.get? a=some oa)
 (q:∀ h',h'.get? it=some (iO (rawInt a) true d i n ep ok ov)->Heap.SameBut it s.heap h'->Q false { s with heap:=h' }):wpAny (model prog w) A (Builtin.Dict_items.ownedTupleIsFree (.ref it)) Q E s:=by
 unfold Builtin.Dict_items.ownedTupleIsFree
 refine wpAny_bind (wpAny_field hi rfl (x:=rawInt a) rfl ?_)
 refine wpAny_bind (uP ?_)
 rw [show ((a:Int)).toNat=a from Int.toNat_natCast a,j]
 dsimp only
 rw [if_neg (by simp)]
 refine wpAny_bind (wpAny_field hi rfl (x := .bool b) rfl ?_)
 cases b with
 | true =>
   rw [if_neg (by decide)]
   exact wpAny_pure (q s.heap hi (Heap.SameBut.refl ..))
 | false =>
   rw [if_pos (by decide)]
   refine wpAny_bind (wpAny_setField_rec hi (by simp) fun h' e' s' => ?_)
   exact wpAny_pure (q h' e' s')
theorem rS {it d a:Addr} {b:Bool} {i n ep:Nat} {ok ov k v:Value} {oa:Obj} {Q:Value->Shared->Prop} (hi:s.heap.get? it=some (iO (rawInt a) b d i n ep ok ov)) (z:s.heap.get? a=some oa)
 (q:∀ h',h'.get? it=some (iO (rawInt a) true d i n ep ok ov)->h'.get? s.heap.objs.size=some { cls := .type "tuple",data := .seq #[k,v] }->(∀ b o,b≠it->s.heap.get? b=some o->h'.get? b=some o)->Q (.ref s.heap.objs.size) { s with heap:=h' }):wpAny (model prog w) A (Builtin.Dict_items.pairFromOwner (.ref it) 6 k v) Q E s:=by
 unfold Builtin.Dict_items.pairFromOwner
 refine wpAny_bind (wpAny_newTuple ?_ (by size_fits))
 have j:=Heap.lt_size hi
 refine wpAny_bind (rR (a:=a) (oa:=oa) (Heap.get?_push_of_some _ hi) (Heap.get?_push_of_some _ z) fun h' e' s' => ?_)
 dsimp only
 rw [if_neg (by simp)]
 refine wpAny_pure (q h' e' ?_ fun b o hb e => ?_)
 ·exact s'.extBut _ _ (Nat.ne_of_gt j) (Heap.get?_push_size _ rfl)
 ·exact s'.extBut _ _ hb (Heap.get?_push_of_some _ e)
theorem xZ {it d a:Addr} {b:Bool} {i ep:Nat} {ok ov cd:Value} {oa:Obj} {dd:Option Addr} {sl:Array (Option Value)} {es:Array DictEntry} {e:DictEntry} {Q:Option Value->Shared->Prop} (hi:s.heap.get? it=some (iO (rawInt a) b d i es.size ep ok ov)) (F:a≠it) (J:s.heap.get? a=some oa) (hd:s.heap.get? d=some { cls:=cd,dict:=dd,data := .dict es ep,slots:=sl }) (he:es[i]? = some e)
 (q:∀ h',h'.get? it=some (iO (rawInt a) true d (i+1) es.size ep ok ov)->h'.get? s.heap.objs.size=some { cls := .type "tuple",data := .seq #[e.key,e.val] }->(∀ b o,b≠it->s.heap.get? b=some o->h'.get? b=some o)->Q (some (.ref s.heap.objs.size)) { s with heap:=h' }):wpAny (model prog w) A (pyNext (.ref it)) Q E s:=by
 have ty:s.TypeIs (.ref it) "dict_itemiterator" := ⟨_,hi,rfl⟩
 unfold pyNext
 refine wpAny_bind (wpAny_attempt (wpAny_callSpecial?_slot (name:=Str.ofString "__next__") ty slot_next (wpAny_call_entry slot_next ty bp ?_ (bx _))))
 unfold Builtin.«dict_itemiterator.__next__»
 have hm:=fx
 wp_walk
 dsimp only
 rw [if_neg (by simp)]
 wp_walk
 simp only [Int.toNat_natCast,he]
 refine wpAny_bind (wpAny_mono (Q:=fun n s'=>n=2/\s'=s) ?_ (fun n s' hs => ?_) fun _ _ z=>z)
 ·wp_walk
  exact ⟨by kernel_rfl,rfl⟩
 obtain ⟨rfl,rfl⟩:=hs
 refine wpAny_bind (bq ty ?_)
 refine wpAny_bind (wpAny_setField_rec hi (by simp) fun h1 j s1 => ?_)
 refine wpAny_bind (wpAny_holding ?_)
 have B:Shared.TypeIs { s' with heap:=h1 } (.ref it) "dict_itemiterator" := ⟨_,j,rfl⟩
 refine wpAny_bind (bq B ?_)
 rw [if_neg (by decide +kernel)] at j
 have j:h1.get? it=some (iO (rawInt a) b d (i+1) es.size ep ok ov):=j
 have hsz:h1.objs.size=s'.heap.objs.size:=s1.1
 have G:h1.get? a=some oa:=s1.extBut a oa F J
 refine wpAny_ite_false (by decide +kernel) ?_
 refine wpAny_bind (bq B ?_)
 refine wpAny_ite_false (by decide +kernel) ?_
 refine rS (s := { s' with heap:=h1 }) j G fun h2 L I O => ?_
 refine wpAny_pure ⟨_,rfl,wpAny_pure ?_⟩
 dsimp only at I ⊢
 rw [hsz] at I ⊢
 exact q h2 L I fun b o hb e=>O b o hb (s1.extBut b o hb e)
theorem nx_end {it d:Addr} {f0:Value} {b:Bool} {ep:Nat} {ok ov cd:Value} {dd:Option Addr} {sl:Array (Option Value)} {es:Array DictEntry} {Q:Option Value->Shared->Prop} (j:A.handled=none) (hi:s.heap.get? it=some (iO f0 b d es.size es.size ep ok ov)) (hd:s.heap.get? d=some { cls:=cd,dict:=dd,data := .dict es ep,slots:=sl })
 (q:∀ h',(∀ b o,b≠it->s.heap.get? b=some o->h'.get? b=some o)->Q none { s with heap:=h' }):wpAny (model prog w) A (pyNext (.ref it)) Q E s:=by
 have ty:s.TypeIs (.ref it) "dict_itemiterator" := ⟨_,hi,rfl⟩
 unfold pyNext
 refine wpAny_bind (wpAny_attempt (wpAny_callSpecial?_slot (name:=Str.ofString "__next__") ty slot_next (wpAny_call_entry slot_next ty bp ?_ (bx _))))
 unfold Builtin.«dict_itemiterator.__next__»
 have hm:=fx
 wp_walk
 dsimp only
 rw [if_neg (by simp)]
 wp_walk
 have he:es[es.size]? = none:=Array.getElem?_eq_none (Nat.le_refl _)
 simp only [Int.toNat_natCast,he]
 refine wpAny_bind (wpAny_mono (Q:=fun n s'=>n=2/\s'=s) ?_ (fun n s' hs => ?_) fun _ _ z=>z)
 ·wp_walk
  exact ⟨by kernel_rfl,rfl⟩
 obtain ⟨rfl,rfl⟩:=hs
 refine wpAny_bind (wpAny_setField_rec hi (by simp) fun h1 B s1 => ?_)
 refine wpAny_bind (m:=newExc (.type "StopIteration") []) ?_
 simp only [newExc,newTuple]
 refine wpAny_bind (wpAny_newObj_type ?_ (by size_fits))
 refine wpAny_bind (m:=firstArgMember _ _) (wpAny_of_eq (a:=Value.none) (by first | rfl | (simp only [firstArgMember];rfl)) (wpAny_newObj_type ?_ (by size_fits)))
 simp only [raiseNew]
 refine wpAny_bind (wpAny_handled ?_)
 first | rw [show A.in1.handled=none from j] | rw [j]
 refine wpAny_bind (wpAny_pure (wpAny_throw ?_))
 exact wpAny_bind (wpAny_isInstance (T := "StopIteration") (b:=true) ⟨_,Heap.get?_push_size _ rfl,rfl⟩ isSubtype_stop (wpAny_pure (q _ fun b o hb e=>Heap.get?_push_of_some _ (Heap.get?_push_of_some _ (s1.extBut b o hb e)))))
end
end It
end L2
namespace L2
namespace It
open PySem PySem.Spec PyProof.Rows
section
variable {prog:Program} {w:World} {A:Around} {E:Value->Shared->Prop} {s:Shared}
theorem rT {it d:Addr} {i n ep:Nat} {k v:Value} {Q:Value->Shared->Prop} (hi:s.heap.get? it=some (iO .none false d i n ep .none .none))
 (q:∀ h',h'.get? it=some (iO (rawInt s.heap.objs.size) false d i n ep k v)->h'.get? s.heap.objs.size=some { cls := .type "tuple",data := .seq #[k,v] }->(∀ b o,b≠it->s.heap.get? b=some o->h'.get? b=some o)->Q (.ref s.heap.objs.size) { s with heap:=h' }):wpAny (model prog w) A (Builtin.Dict_items.pairFromOwner (.ref it) 6 k v) Q E s:=by
 unfold Builtin.Dict_items.pairFromOwner
 refine wpAny_bind (wpAny_newTuple ?_ (by size_fits))
 have z:=Heap.lt_size hi
 have j:=Heap.get?_push_of_some ({ cls := .type "tuple",data := .seq [k,v].toArray }) hi
 unfold Builtin.Dict_items.ownedTupleIsFree
 refine wpAny_bind (wpAny_bind (wpAny_field j rfl (x := .none) rfl (wpAny_pure ?_)))
 dsimp only
 rw [if_pos rfl]
 refine wpAny_bind (wpAny_field j rfl (x := .none) rfl ?_)
 refine wpAny_bind (wpAny_field j rfl (x := .none) rfl ?_)
 refine wpAny_bind (wpAny_setField_rec j (by simp) fun h1 F s1 => ?_)
 refine wpAny_bind (wpAny_setField_rec F (by simp) fun h2 G s2 => ?_)
 refine wpAny_bind (wpAny_setField_rec G (by simp) fun L I s3 => ?_)
 refine wpAny_bind (wpAny_setField_rec I (by simp) fun B J s4 => ?_)
 refine wpAny_bind (wpAny_letGo ?_)
 have kp:∀ b o,b≠it->(s.heap.push { cls := .type "tuple",data := .seq [k,v].toArray }).get? b=some o->B.get? b=some o:=fun b o hb e=>s4.extBut b o hb (s3.extBut b o hb (s2.extBut b o hb (s1.extBut b o hb e)))
 refine wpAny_pure (q B J (kp _ _ (Nat.ne_of_gt z) (Heap.get?_push_size _ rfl)) fun b o hb e=>kp b o hb (Heap.get?_push_of_some _ e))
theorem y7 {it d:Addr} {i ep:Nat} {cd:Value} {dd:Option Addr} {sl:Array (Option Value)} {es:Array DictEntry} {e:DictEntry} {Q:Option Value->Shared->Prop} (hi:s.heap.get? it=some (iO .none false d i es.size ep .none .none)) (hd:s.heap.get? d=some { cls:=cd,dict:=dd,data := .dict es ep,slots:=sl }) (he:es[i]? = some e)
 (q:∀ h',h'.get? it=some (iO (rawInt s.heap.objs.size) false d (i+1) es.size ep e.key e.val)->h'.get? s.heap.objs.size=some { cls := .type "tuple",data := .seq #[e.key,e.val] }->(∀ b o,b≠it->s.heap.get? b=some o->h'.get? b=some o)->Q (some (.ref s.heap.objs.size)) { s with heap:=h' }):wpAny (model prog w) A (pyNext (.ref it)) Q E s:=by
 have ty:s.TypeIs (.ref it) "dict_itemiterator" := ⟨_,hi,rfl⟩
 unfold pyNext
 refine wpAny_bind (wpAny_attempt (wpAny_callSpecial?_slot (name:=Str.ofString "__next__") ty slot_next (wpAny_call_entry slot_next ty bp ?_ (bx _))))
 unfold Builtin.«dict_itemiterator.__next__»
 have hm:=fx
 wp_walk
 dsimp only
 rw [if_neg (by simp)]
 wp_walk
 simp only [Int.toNat_natCast,he]
 refine wpAny_bind (wpAny_mono (Q:=fun n s'=>n=2/\s'=s) ?_ (fun n s' hs => ?_) fun _ _ z=>z)
 ·wp_walk
  exact ⟨by kernel_rfl,rfl⟩
 obtain ⟨rfl,rfl⟩:=hs
 refine wpAny_bind (bq ty ?_)
 refine wpAny_bind (wpAny_setField_rec hi (by simp) fun h1 j s1 => ?_)
 refine wpAny_bind (wpAny_holding ?_)
 have B:Shared.TypeIs { s' with heap:=h1 } (.ref it) "dict_itemiterator" := ⟨_,j,rfl⟩
 refine wpAny_bind (bq B ?_)
 rw [if_neg (by decide +kernel)] at j
 have j:h1.get? it=some (iO .none false d (i+1) es.size ep .none .none):=j
 have hsz:h1.objs.size=s'.heap.objs.size:=s1.1
 refine wpAny_ite_false (by decide +kernel) ?_
 refine wpAny_bind (bq B ?_)
 refine wpAny_ite_false (by decide +kernel) ?_
 refine rT (s := { s' with heap:=h1 }) j fun h2 F G I => ?_
 refine wpAny_pure ⟨_,rfl,wpAny_pure ?_⟩
 dsimp only at F G ⊢
 rw [hsz] at F G ⊢
 exact q h2 F G fun b o hb e=>I b o hb (s1.extBut b o hb e)
structure BJ (h0:Heap) (s:Shared) (it d:Addr) (es:Array DictEntry) (ep i:Nat) (acc:Array Value):Prop where
 dict:∃ cd dd sl,s.heap.get? d=some { cls:=cd,dict:=dd,data := .dict es ep,slots:=sl }
 iter:(i=0/\s.heap.get? it=some (iO .none false d 0 es.size ep .none .none))∨(1<=i /\ ∃ (a:Addr) (b:Bool) (ok ov:Value) (oa:Obj),s.heap.get? it=some (iO (rawInt a) b d i es.size ep ok ov)/\a≠it/\s.heap.get? a=some oa/\oa.cls = .type "tuple")
 size:acc.size=i
 nd:acc.toList.Nodup
 item:∀ j,j < i -> ∃ t e,acc[j]? = some (.ref t)/\es[j]? = some e/\s.heap.get? t=some { cls := .type "tuple",data := .seq #[e.key,e.val] }/\h0.get? t=none
theorem y8 (hn:A.handled=none) {S it d:Addr} {es:Array DictEntry} {ep:Nat} {res:Value} {R:Result->Shared->Prop} (B:S≠it) (BS:S≠d) (BU:it≠d) (hz:es.size<=sizeLine) (h0:Heap) (BX:S < h0.objs.size->True) :
 ∀ (k i:Nat) (s:Shared) (acc:Array Value) (c:Nat),es.size - i=k->i<=es.size->BJ h0 s it d es ep i acc->s.heap.get? S=some { cls := .type "list",data := .seq acc c } ->
  (∀ b o,b≠it->b≠S->h0.get? b=some o->s.heap.get? b=some o) ->
  (∀ (h':Heap) (acc':Array Value) (c':Nat),(∀ b o,b≠it->b≠S->h0.get? b=some o->h'.get? b=some o)->h'.get? S=some { cls := .type "list",data := .seq acc' c' }->acc'.size=es.size->acc'.toList.Nodup->(∀ j,j < es.size -> ∃ t e,acc'[j]? = some (.ref t)/\es[j]? = some e/\h'.get? t=some { cls := .type "tuple",data := .seq #[e.key,e.val] }/\h0.get? t=none)->R (.ok (.ret res)) { s with heap:=h' }) ->
  codeAny (model prog w) A (.builtin "list.extend.loop" ⟨[.ref S, .ref it,res],[]⟩) R s:=by
 intro k
 induction k with
 | zero =>
   intro i s acc c hk hi H L kp q
   have G:i=es.size:=by lia
   obtain ⟨cd,dd,sl,hd⟩:=H.dict
   refine codeAny_builtin F.entry_extend_loop ?_
   unfold Builtin.«list.extend.loop»
   dsimp only
   refine wpAny_bind ?_
   have key:∀ (f0:Value) (b:Bool) (ok ov:Value),s.heap.get? it=some (iO f0 b d es.size es.size ep ok ov)->wpAny (model prog w) (A.under (Code.builtin "list.extend.loop" { pos := [Value.ref S,Value.ref it,res] })) (pyNext (.ref it)) (fun a s'=>a=none /\ ∃ h',(∀ b o,b≠it->s.heap.get? b=some o->h'.get? b=some o)/\s' = { s with heap:=h' }) (fun e s'=>R (.error e) s') s:=by
    intro f0 b ok ov hi
    refine nx_end hn hi hd fun h' kp'=>⟨rfl,h',kp',rfl⟩
   have Z:wpAny (model prog w) (A.under (Code.builtin "list.extend.loop" { pos := [Value.ref S,Value.ref it,res] })) (pyNext (.ref it)) (fun a s'=>a=none /\ ∃ h',(∀ b o,b≠it->s.heap.get? b=some o->h'.get? b=some o)/\s' = { s with heap:=h' }) (fun e s'=>R (.error e) s') s:=by
    rcases H.iter with ⟨h0,e⟩ | ⟨h1,a,b,ok,ov,oa,e,_⟩
    ·refine key .none false .none .none ?_
     rw [<- G,h0];rw [<- G,h0] at e;exact e
    ·refine key (rawInt a) b ok ov ?_
     rw [<- G];rw [<- G] at e;exact e
   refine wpAny_mono Z (fun a s' hs => ?_) fun _ _ z=>z
   obtain ⟨rfl,h',kp',rfl⟩:=hs
   refine wpAny_pure (q h' acc c (fun b o h1 h2 e=>kp' b o h1 (kp b o h1 h2 e)) (kp' S _ B L) (by rw [H.size];exact G) H.nd fun j hj => ?_)
   obtain ⟨t,e,I,O,n,e4⟩:=H.item j (by lia)
   refine ⟨t,e,I,O,kp' t _ (fun z => ?_) n,e4⟩
   rcases H.iter with ⟨_,e⟩ | ⟨_,a,b,ok,ov,oa,e,_⟩
   ·rw [z,e] at n;simp [iO] at n
   ·rw [z,e] at n;simp [iO] at n
 | succ k ih =>
   intro i s acc c hk hi H L kp q
   have BV:i < es.size:=by lia
   obtain ⟨cd,dd,sl,hd⟩:=H.dict
   have he:es[i]? = some es[i]:=Array.getElem?_eq_getElem BV
   refine codeAny_builtin F.entry_extend_loop ?_
   unfold Builtin.«list.extend.loop»
   dsimp only
   refine wpAny_bind ?_
   have key:wpAny (model prog w) (A.under (Code.builtin "list.extend.loop" { pos := [Value.ref S,Value.ref it,res] })) (pyNext (.ref it)) (fun v s'=>v=some (.ref s.heap.objs.size) /\ ∃ (h':Heap) (a:Addr) (b:Bool) (ok ov:Value) (oa:Obj),s' = { s with heap:=h' }/\h'.get? it=some (iO (rawInt a) b d (i+1) es.size ep ok ov)/\a≠it/\h'.get? a=some oa/\oa.cls = .type "tuple" /\ h'.get? s.heap.objs.size=some { cls := .type "tuple",data := .seq #[es[i].key,es[i].val] } /\ ∀ b o,b≠it->s.heap.get? b=some o->h'.get? b=some o) (fun e s'=>R (.error e) s') s:=by
    rcases H.iter with ⟨h0,e⟩ | ⟨h1,a,b,ok,ov,oa,e,I,O,n⟩
    ·subst h0
     refine y7 e hd he fun h' g1 g2 g3=>⟨rfl,h',_,_,_,_,_,rfl,g1, ?_,g2,rfl,g2,g3⟩
     exact Nat.ne_of_gt (Heap.lt_size e)
    ·refine xZ e I O hd he fun h' g1 g2 g3=>⟨rfl,h',a,_,_,_,oa,rfl,g1,I,g3 a oa I O,n,g2,g3⟩
   refine wpAny_mono key (fun v s' hs => ?_) fun _ _ z=>z
   obtain ⟨rfl,h',a,b,ok,ov,oa,rfl,g1,g2,g3,g4,g5,Y⟩:=hs
   have J:=Heap.lt_size L
   refine wpAny_bind (listUpdate_at (Y S _ B L) rfl ?_ (by rw [H.size];lia) (by simp [H.size];lia))
   refine wpAny_pure ⟨plainId_quiet F.plain_extend_loop _, ?_⟩
   have gS:=get?_update_seq (c := "list") (Y S _ B L) (fun x=>x.push (Value.ref s.heap.objs.size))
   have oth:∀ b o,b≠S->h'.get? b=some o->(h'.update S (Obj.mapSeq fun x=>x.push (Value.ref s.heap.objs.size))).get? b=some o:=fun b o hb e=>by rw [Heap.get?_update_ne _ _ _ _ hb];exact e
   have tup_ne:∀ t (o:Obj),s.heap.get? t=some o->o.cls = .type "tuple" -> t≠it/\t≠S:=fun t o e ec=>by
    constructor
    ·intro z
     rcases H.iter with ⟨_,e'⟩ | ⟨_,a,b,ok,ov,oa,e',_⟩
     ·rw [z,e'] at e;cases e;simp [iO] at ec
     ·rw [z,e'] at e;cases e;simp [iO] at ec
    ·intro z
     rw [z,L] at e;cases e;simp at ec
   refine ih (i+1) _ _ _ (by lia) (by lia) ⟨⟨cd,dd,sl,oth d _ BS.symm (Y d _ BU.symm hd)⟩, .inr ⟨by lia,a,b,ok,ov,oa,oth it _ B.symm g1,g2,oth a _ ?_ g3,g4⟩,by simp [H.size], ?_, ?_⟩ gS (fun b o h1 h2 e=>oth b o h2 (Y b o h1 (kp b o h1 h2 e))) fun h2 BP c2=>q h2 BP c2
   ·intro z
    rw [z,Y S _ B L] at g3;cases g3;simp at g4
   ·rw [Array.toList_push]
    refine List.nodup_append.mpr ⟨H.nd,by simp,fun x hx y hy BW => ?_⟩
    simp at hy;subst hy BW
    obtain ⟨j,hj,ej⟩:=List.mem_iff_getElem.mp hx
    obtain ⟨t,e,I,O,n,e4⟩:=H.item j (by rw [<- H.size];simpa using hj)
    have e5:acc[j]? = some (Value.ref s.heap.objs.size):=by
     rw [<- Array.getElem?_toList,List.getElem?_eq_getElem hj,ej]
    rw [e5] at I;cases I
    exact absurd (Heap.lt_size n) (Nat.lt_irrefl _)
   ·intro j hj
    by_cases BQ:j < i
    ·obtain ⟨t,e,I,O,n,e4⟩:=H.item j BQ
     obtain ⟨t1,t2⟩:=tup_ne t _ n rfl
     refine ⟨t,e, ?_,O,oth t _ t2 (Y t _ t1 n),e4⟩
     rw [Array.getElem?_push_lt (by rw [H.size];exact BQ)]
     rw [<- I,Array.getElem?_eq_getElem]
    ·have:j=i:=by lia
     subst this
     have U:it < s.heap.objs.size:=by
      rcases H.iter with ⟨_,e'⟩ | ⟨_,a,b,ok,ov,oa,e',_⟩
      ·exact Heap.lt_size e'
      ·exact Heap.lt_size e'
     have BR:h0.get? s.heap.objs.size=none:=by
      cases hq:h0.get? s.heap.objs.size with
      | none=>rfl
      | some o=>exact absurd (Heap.lt_size (kp _ _ (Nat.ne_of_gt U) (Nat.ne_of_gt J) hq)) (Nat.lt_irrefl _)
     refine ⟨s.heap.objs.size,es[j], ?_,he,oth _ _ (Nat.ne_of_gt J) g5,BR⟩
     have:=H.size
     subst this
     simp
end
end It
end L2
namespace L2
namespace It
open PySem PySem.Spec PyProof.Rows
section
variable {prog:Program} {w:World} {A:Around} {E:Value->Shared->Prop} {s:Shared}
theorem it_view {v d:Addr} {es:Array DictEntry} {ep:Nat} {cd:Value} {dd:Option Addr} {sl:Array (Option Value)} {Q:Value->Shared->Prop} (j:s.heap.get? v=some { cls := .type "dict_items",data := .fields #[.ref d] }) (hd:s.heap.get? d=some { cls:=cd,dict:=dd,data := .dict es ep,slots:=sl })
 (q:Q (.ref s.heap.objs.size) { s with heap:=s.heap.push (iO .none false d 0 es.size ep .none .none) }):wpAny (model prog w) A (pyIter (.ref v)) Q E s:=by
 have ty:s.TypeIs (.ref v) "dict_items" := ⟨_,j,rfl⟩
 refine wpAny_pyIter_slot ty F.slot_dict_items_iter (wpAny_call_entry F.slot_dict_items_iter ty F.entry_dict_items_iter ?_ (F.args_dict_items_iter_1 _))
 unfold Builtin.«dict_items.__iter__»
 wp_walk
 exact ⟨_,rfl, "dict_itemiterator",_,⟨_,Heap.get?_push_size _ rfl,rfl⟩,slot_next.lookup,q⟩
theorem rV {v d:Addr} {Q:Bool->Shared->Prop} (z:s.heap.get? v=some { cls := .type "dict_items",data := .fields #[.ref d] }) (q:Q false s):wpAny (model prog w) A (Builtin.List.listLengthHint (.ref v)) Q E s:=by
 have ty:s.TypeIs (.ref v) "dict_items" := ⟨_,z,rfl⟩
 unfold Builtin.List.listLengthHint
 refine wpAny_bind (wpAny_specialOf ty F.slot_dict_items_len.lookup ?_)
 generalize j:("dict_items.__len__":String)=n
 (fail_if_success (clear j n));wp_delta
 rw [show splitId n=some ("dict_items", "__len__") from by subst j;decide +kernel]
 subst j
 refine wpAny_bind (wpAny_isInstance (b:=true) ty (by rw [isSubtype_type];kernel_rfl) ?_)
 rw [if_neg (by decide)]
 refine wpAny_ite_true (by decide +kernel) ?_
 refine wpAny_bind (wpAny_typeOf ty ?_)
 exact wpAny_pure q
open Builtin.List in
theorem uQ {B:Around} (hn:A.handled=none) {S v d:Addr} {es:Array DictEntry} {ep c:Nat} {cd:Value} {dd:Option Addr} {sl:Array (Option Value)} {R:Result->Shared->Prop} (res:Value) (G:s.heap.get? v=some { cls := .type "dict_items",data := .fields #[.ref d] }) (hd:s.heap.get? d=some { cls:=cd,dict:=dd,data := .dict es ep,slots:=sl }) (z:s.heap.get? S=some { cls := .type "list",data := .seq #[] c }) (hz:es.size<=sizeLine)
 (q:∀ (h':Heap) (acc':Array Value) (c':Nat),(∀ b o,b≠S->s.heap.get? b=some o->h'.get? b=some o)->h'.get? S=some { cls := .type "list",data := .seq acc' c' }->acc'.size=es.size->acc'.toList.Nodup->(∀ j,j < es.size -> ∃ t e,acc'[j]? = some (.ref t)/\es[j]? = some e/\h'.get? t=some { cls := .type "tuple",data := .seq #[e.key,e.val] }/\s.heap.get? t=none)->R (.ok (.ret res)) { s with heap:=h' }) :
 wpAny (model prog w) B (listExtendWith (.ref S) (.ref v) res) (fun fin s'=>match fin with | .done f=>R (.ok f) s' | .again c'=>c'.quiet=true/\codeAny (model prog w) A c' R s') (fun e s'=>R (.error e) s') s:=by
 have ty:s.TypeIs (.ref v) "dict_items" := ⟨_,G,rfl⟩
 have U:S≠v:=fun e=>by rw [e,G] at z;simp at z
 have I:S≠d:=fun e=>by rw [e,hd] at z;simp at z
 have J:=Heap.lt_size hd
 have n:=Heap.lt_size z
 have Z:=Heap.lt_size G
 have h1:listSameRef (.ref S) (.ref v)=false:=by simp [listSameRef,U]
 unfold listExtendWith
 refine wpAny_bind (wpAny_typeOf ty ?_)
 rw [if_neg (by rw [h1];decide)]
 refine wpAny_bind (it_view G hd ?_)
 refine wpAny_bind (wpAny_holding (rV (d:=d) (Heap.get?_push_of_some _ G) ?_))
 refine wpAny_ite_true (by decide +kernel) ?_
 refine wpAny_bind (wpAny_rule ?_)
 unfold listTouch
 have L:(s.heap.push (iO .none false d 0 es.size ep .none .none)).get? S=some (seqObj "list" #[] c):=Heap.get?_push_of_some _ z
 refine wpAny_bind (wpAny_bind (listUpdate_at L rfl ?_ (by simp) (by simp)))
 have O:=get?_update_seq L (fun x=>x.push Value.none)
 refine listUpdate_at O rfl ?_ (by simp;decide) (by simp)
 have Y:=get?_update_seq O (fun x=>x.pop)
 refine wpAny_pure ⟨plainId_quiet F.plain_extend_loop _, ?_⟩
 have oth:∀ b o,b≠S->s.heap.get? b=some o->(((s.heap.push (iO .none false d 0 es.size ep .none .none)).update S (Obj.mapSeq fun x=>x.push Value.none)).update S (Obj.mapSeq fun x=>x.pop)).get? b=some o:=fun b o hb e=>by
  rw [Heap.get?_update_ne _ _ _ _ hb,Heap.get?_update_ne _ _ _ _ hb]
  exact Heap.get?_push_of_some _ e
 have hit:(((s.heap.push (iO .none false d 0 es.size ep .none .none)).update S (Obj.mapSeq fun x=>x.push Value.none)).update S (Obj.mapSeq fun x=>x.pop)).get? s.heap.objs.size=some (iO .none false d 0 es.size ep .none .none):=by
  rw [Heap.get?_update_ne _ _ _ _ (Nat.ne_of_gt n),Heap.get?_update_ne _ _ _ _ (Nat.ne_of_gt n)]
  exact Heap.get?_push_size _ rfl
 refine y8 hn (S:=S) (it:=s.heap.objs.size) (d:=d) (es:=es) (ep:=ep) (Nat.ne_of_lt n) I (Nat.ne_of_gt J) hz s.heap (fun _=>trivial) es.size 0 _ #[] _ (by lia) (by lia) ⟨⟨cd,dd,sl,oth d _ I.symm hd⟩, .inl ⟨rfl,hit⟩,rfl,by simp,fun j hj=>by lia⟩ Y (fun b o h1 h2 e=>oth b o h2 e) fun h' acc' c' k1 k2 k3 k5 k4 => ?_
 exact q h' acc' c' (fun b o hb e=>k1 b o (Nat.ne_of_lt (Heap.lt_size e)) hb e) k2 k3 k5 k4
theorem collect_view (U:A.handled=none) {v d:Addr} {es:Array DictEntry} {ep:Nat} {cd:Value} {dd:Option Addr} {sl:Array (Option Value)} {Q:List Value->Shared->Prop} (L:s.heap.get? v=some { cls := .type "dict_items",data := .fields #[.ref d] }) (hd:s.heap.get? d=some { cls:=cd,dict:=dd,data := .dict es ep,slots:=sl }) (Y:es.size<=sizeLine)
 (q:∀ (h':Heap) (us:List Value),(∀ b o,s.heap.get? b=some o->h'.get? b=some o)->us.length=es.size->us.Nodup->(∀ j,j < es.size -> ∃ t e,us[j]? = some (.ref t)/\es[j]? = some e/\h'.get? t=some { cls := .type "tuple",data := .seq #[e.key,e.val] }/\s.heap.get? t=none)->Q us { s with heap:=h' }):wpAny (model prog w) A (collect (.ref v)) Q E s:=by
 unfold collect
 refine wpAny_bind (wpAny_runValue (codeAny_builtin F.entry_proto_collect ?_))
 unfold Builtin.«proto.collect»
 dsimp only
 refine wpAny_bind (wpAny_newList ?_ (by simp))
 refine wpAny_pure ⟨Code.quiet_builtin _ (by decide +kernel), ?_⟩
 refine codeAny_builtin entry_list_iadd' ?_
 unfold Builtin.«list.__iadd__»
 refine wpAny_bind (wpAny_of_eq (a:=(Value.ref s.heap.objs.size,[Value.ref v])) (by kernel_rfl) ?_)
 have O:=Heap.lt_size L
 have n:(s.heap.push { cls:=Value.type "list",data:=Data.seq [].toArray }).get? s.heap.objs.size=some { cls:=Value.type "list",data:=Data.seq #[] 0 }:=Heap.get?_push_size _ rfl
 have fin:∀ (h':Heap) (acc:Array Value) (c':Nat),(∀ b o,b≠s.heap.objs.size->(s.heap.push { cls:=Value.type "list",data:=Data.seq [].toArray }).get? b=some o->h'.get? b=some o)->h'.get? s.heap.objs.size=some { cls := .type "list",data := .seq acc c' }->acc.size=es.size->acc.toList.Nodup->(∀ j,j < es.size -> ∃ t e,acc[j]? = some (.ref t)/\es[j]? = some e/\h'.get? t=some { cls := .type "tuple",data := .seq #[e.key,e.val] }/\(s.heap.push { cls:=Value.type "list",data:=Data.seq [].toArray }).get? t=none) ->
  wpAny (model prog w) A (do
   let o <- load s.heap.objs.size
   match o.data with
   | .seq xs _=>pure xs.toList
   | _=>unsupported "internal:collect") Q E { s with heap:=h' }:=by
  intro h' acc c' z B G I J
  refine wpAny_bind (wpAny_load B ?_)
  exact wpAny_pure (q h' acc.toList (fun b o e=>z b o (Nat.ne_of_lt (Heap.lt_size e)) (Heap.get?_push_of_some _ e)) (by simpa using G) I fun j Z=>by
   obtain ⟨t,e,e1,e2,e3,S⟩:=J j Z
   refine ⟨t,e,by rw [Array.getElem?_toList];exact e1,e2,e3, ?_⟩
   cases hq:s.heap.get? t with
   | none=>rfl
   | some o=>rw [Heap.get?_push_of_some _ hq] at S;cases S)
 refine wpAny_mono (uQ (s := { s with heap:=s.heap.push { cls:=Value.type "list",data:=Data.seq [].toArray } }) (R:=fun r s'=>r = .ok (.ret (.ref s.heap.objs.size))/\wpAny (model prog w) A (do
  let o <- load s.heap.objs.size
  match o.data with
  | .seq xs _=>pure xs.toList
  | _=>unsupported "internal:collect") Q E s') U (Value.ref s.heap.objs.size) (Heap.get?_push_of_some _ L) (Heap.get?_push_of_some _ hd) n Y fun h' acc c' z B G I J=>⟨rfl,fin h' acc c' z B G I J⟩) (fun fn s' h => ?_) (fun e s' h => ?_)
 ·cases fn with
  | done f =>
    obtain ⟨e,h⟩:=h
    cases e
    exact h
  | again c' =>
    refine ⟨h.1,codeAny_mono h.2 fun r s1 hr => ?_⟩
    obtain ⟨rfl,hr⟩:=hr
    exact hr
 ·cases h.1
end
end It
end L2
namespace L2
open PySem PySem.Spec PyProof.Rows
section
section
variable {P:Program} {w:World} {H:Hp} {h:Heap} {a:Addr} {o:HO}
theorem ObjOk.there (x:ObjOk P w H h a o):∃ ob,h.get? a=some ob:=by
 cases o with
 | lst xs=>obtain ⟨_,_,_,_,e⟩:=x;exact ⟨_,e⟩
 | tup xs=>obtain ⟨_,_,_,_,e,_⟩:=x;exact ⟨_,e⟩
 | dK kvs=>obtain ⟨_,_,_,_,o,_,_,e,_⟩:=x;exact ⟨_,e⟩
 | dT kvs=>obtain ⟨_,_,_,_,o,_,_,e,_⟩:=x;exact ⟨_,e⟩
 | set S n=>obtain ⟨o,_,_,_,e,_⟩:=x;exact ⟨_,e⟩
 | ins C dx fs=>obtain ⟨_,_,_,e,_⟩:=x;exact ⟨_,e⟩
 | own y=>obtain ⟨_,e⟩:=x;exact ⟨_,e⟩
 | xd fs=>obtain ⟨_,⟨_,_,_,e,_⟩,_⟩:=x;exact ⟨_,e⟩
 | rng lo hi=>obtain ⟨_,_,_,e⟩:=x;exact ⟨_,e⟩
 | frz ob u=>obtain ⟨e,_⟩:=x;exact ⟨_,e⟩
 | tbl ps=>exact ⟨_,show h.get? a=some _ from x⟩
 | met f y=>exact ⟨_,show h.get? a=some _ from x⟩
 | ext φ => obtain ⟨_,⟨_,e⟩,_⟩:=x;exact ⟨_,e⟩
end
noncomputable def lay (H:Hp) (N:Addr->Option HO):Hp:=fun b=>match N b with | some o=>some o | none=>H b
section
variable {X:Cx} {pins:List (Addr×Obj)} {σ:List (Option V)} {H:Hp} {s:Shared} {h':Heap} {N:Addr->Option HO}
theorem je {b:Addr} {o:HO} (e:N b=some o):lay H N b=some o:=by unfold lay;rw [e]
theorem fX {b:Addr} (e:N b=none):lay H N b=H b:=by unfold lay;rw [e]
theorem Inv.fresh' (I:Inv X pins σ H s) {b:Addr} (e:s.heap.get? b=none):H b=none:=by
 cases q:H b with
 | none=>rfl
 | some o=>obtain ⟨ob,eo⟩:=(I.hok b o q).there;rw [e] at eo;cases eo
theorem Inv.laidN {t':Nat} (I:Inv X pins σ H s) (k:∀ b u,s.heap.get? b=some u->h'.get? b=some u) (j:∀ b o,N b=some o->s.heap.get? b=none) (new:∀ b o,N b=some o->ObjOk X.prog X.w (lay H N) h' b o):Inv X pins σ (lay H N) { s with heap:=h',toks:=t' }:=by
 have old:∀ b u,s.heap.get? b=some u->N b=none:=fun b u e=>by
  cases q:N b with
  | none=>rfl
  | some o=>rw [j b o q] at e;cases e
 have oldH:∀ b o,H b=some o->lay H N b=some o:=fun b o e=>by
  obtain ⟨ob,eo⟩:=(I.hok b o e).there
  rw [fX (old b ob eo)];exact e
 refine I.un ⟨fun b u q _ _ _=>k b u q,fun b u q _ _ _=>⟨u.slots,k b u q⟩,fun b u q n _=>by rw [fX (old b u q)];exact n,fun b u q _=>⟨u,k b u q⟩,fun b xs q=>oldH b _ q,fun b u xs q=>oldH b _ q,fun b ps q=>⟨#[],by rw [oldH b _ q];simp⟩⟩ fun b o e => ?_
 cases q:N b with
 | some o'=>rw [je q] at e;cases e;exact new b o q
 | none =>
   rw [fX q] at e
   exact (I.hok b o e).stay (fun c v _ q=>k c v q) (fun c q=>oldH c _ q) fun c xs q=>oldH c _ q
end
namespace Mi
open L2.Srt
inductive Sh where
 | int
 | tup (l:List Sh)
mutual
noncomputable def hs:Sh->D->Bool
 | .int, .int _=>true
 | .tup l, .tup ds=>hss l ds
 | _,_=>false
noncomputable def hss:List Sh->List D->Bool
 | [],[] => true
 | s::l,d::ds=>hs s d&&hss l ds
 | _,_=>false
end
mutual
noncomputable def pd:D->PyData
 | .int i => .int i
 | .tup ds => .tuple (pds ds)
 | _ => .none
noncomputable def pds:List D->List PyData
 | [] => []
 | d::ds=>pd d::pds ds
end
mutual
noncomputable def dep:Sh->Nat
 | .int => 0
 | .tup l=>deps l+1
noncomputable def deps:List Sh->Nat
 | [] => 0
 | s::l=>max (dep s) (deps l)
end
noncomputable def eF:Sh->Bool
 | .int=>true
 | .tup (.int::l)=>decide (deps l<=6)
 | .tup (.tup a::l)=>decide (deps (.tup a::l)<=6)
 | .tup [] => false
noncomputable def kyD (d:D):Ky:=toK (pd d)
mutual
theorem rW:∀ (s:Sh) (x y:D),hs s x=true->hs s y=true->Cmpb (pd x) (pd y)
 | .int, .int a, .int b,_,_=>by simp only [pd];exact .int a b
 | .tup l, .tup a, .tup b,h,g=>by simp only [hs] at h g;simp only [pd];exact hss_cmp l a b h g
 | .int, .int _, .non,_,g=>by simp [hs] at g
 | .int, .int _, .bl _,_,g=>by simp [hs] at g
 | .int, .int _, .str _,_,g=>by simp [hs] at g
 | .int, .int _, .tup _,_,g=>by simp [hs] at g
 | .int, .int _, .con _,_,g=>by simp [hs] at g
 | .int, .int _, .ref _,_,g=>by simp [hs] at g
 | .int, .non,_,h,_=>by simp [hs] at h
 | .int, .bl _,_,h,_=>by simp [hs] at h
 | .int, .str _,_,h,_=>by simp [hs] at h
 | .int, .tup _,_,h,_=>by simp [hs] at h
 | .int, .con _,_,h,_=>by simp [hs] at h
 | .int, .ref _,_,h,_=>by simp [hs] at h
 | .tup _, .non,_,h,_=>by simp [hs] at h
 | .tup _, .bl _,_,h,_=>by simp [hs] at h
 | .tup _, .int _,_,h,_=>by simp [hs] at h
 | .tup _, .str _,_,h,_=>by simp [hs] at h
 | .tup _, .con _,_,h,_=>by simp [hs] at h
 | .tup _, .ref _,_,h,_=>by simp [hs] at h
 | .tup _, .tup _, .non,_,g=>by simp [hs] at g
 | .tup _, .tup _, .bl _,_,g=>by simp [hs] at g
 | .tup _, .tup _, .int _,_,g=>by simp [hs] at g
 | .tup _, .tup _, .str _,_,g=>by simp [hs] at g
 | .tup _, .tup _, .con _,_,g=>by simp [hs] at g
 | .tup _, .tup _, .ref _,_,g=>by simp [hs] at g
theorem hss_cmp:∀ (l:List Sh) (a b:List D),hss l a=true->hss l b=true->Cmpb (.tuple (pds a)) (.tuple (pds b))
 | [],[],[],_,_=>by simp only [pds];exact .nil _
 | [],[],_::_,_,g=>by simp [hss] at g
 | [],_::_,_,h,_=>by simp [hss] at h
 | _::_,[],_,h,_=>by simp [hss] at h
 | _::_,_::_,[],_,g=>by simp [hss] at g
 | s::l,x::a,y::b,h,g=>by
   simp only [hss,Bool.and_eq_true] at h g
   simp only [pds]
   exact .cons (rW s x y h.1 g.1) (hss_cmp l a b h.2 g.2)
end
mutual
theorem iJ:∀ (s:Sh) (x:D),hs s x=true->Pl (pd x)/\(pd x).canLay0=true/\(pd x).depth<=dep s
 | .int, .int a,_=>by simp only [pd];exact ⟨.int a,rfl,by simp [PyData.depth]⟩
 | .tup l, .tup a,h=>by
  simp only [hs] at h
  obtain ⟨h1,h2,j⟩:=hss_pl l a h
  simp only [pd]
  exact ⟨.tup _ h1,by simpa [PyData.canLay0] using h2,by simp [PyData.depth,dep];lia⟩
 | .int, .non,h=>by simp [hs] at h
 | .int, .bl _,h=>by simp [hs] at h
 | .int, .str _,h=>by simp [hs] at h
 | .int, .tup _,h=>by simp [hs] at h
 | .int, .con _,h=>by simp [hs] at h
 | .int, .ref _,h=>by simp [hs] at h
 | .tup _, .non,h=>by simp [hs] at h
 | .tup _, .bl _,h=>by simp [hs] at h
 | .tup _, .int _,h=>by simp [hs] at h
 | .tup _, .str _,h=>by simp [hs] at h
 | .tup _, .con _,h=>by simp [hs] at h
 | .tup _, .ref _,h=>by simp [hs] at h
theorem hss_pl:∀ (l:List Sh) (a:List D),hss l a=true->(∀ x∈pds a,Pl x)/\PyData.canLayAll0 (pds a)=true/\PyData.depthAll (pds a)<=deps l
 | [],[],_=>by simp [pds,PyData.canLayAll0,PyData.depthAll]
 | [],_::_,h=>by simp [hss] at h
 | _::_,[],h=>by simp [hss] at h
 | s::l,x::a,h=>by
   simp only [hss,Bool.and_eq_true] at h
   obtain ⟨h1,h2,n⟩:=iJ s x h.1
   obtain ⟨g1,g2,g3⟩:=hss_pl l a h.2
   simp only [pds]
   refine ⟨fun y j => ?_,by simp [PyData.canLayAll0,h2,g2],by simp [PyData.depthAll,deps];lia⟩
   rcases List.mem_cons.mp j with z | z
   ·rw [z];exact h1
   ·exact g1 y z
end
mutual
theorem ky (M:Mem):∀ (s:Sh) (x:D) (n:Nat),hs s x=true->dep s<=n->rb n M x=some (pd x)
 | .int, .int a,n,_,_=>by cases n <;> simp [rb,pd]
 | .tup l, .tup a,n,h,j=>by
  simp only [hs] at h
  simp only [dep] at j
  obtain ⟨k,rfl⟩:∃ k,n=k+1:=⟨n - 1,by lia⟩
  simp only [rb,pd]
  rw [hss_rb M l a k h (by lia)];rfl
 | .int, .non,_,h,_=>by simp [hs] at h
 | .int, .bl _,_,h,_=>by simp [hs] at h
 | .int, .str _,_,h,_=>by simp [hs] at h
 | .int, .tup _,_,h,_=>by simp [hs] at h
 | .int, .con _,_,h,_=>by simp [hs] at h
 | .int, .ref _,_,h,_=>by simp [hs] at h
 | .tup _, .non,_,h,_=>by simp [hs] at h
 | .tup _, .bl _,_,h,_=>by simp [hs] at h
 | .tup _, .int _,_,h,_=>by simp [hs] at h
 | .tup _, .str _,_,h,_=>by simp [hs] at h
 | .tup _, .con _,_,h,_=>by simp [hs] at h
 | .tup _, .ref _,_,h,_=>by simp [hs] at h
theorem hss_rb (M:Mem):∀ (l:List Sh) (a:List D) (n:Nat),hss l a=true->deps l<=n->aw (rb n M) a=some (pds a)
 | [],[],_,_,_=>by simp [pds,aw]
 | [],_::_,_,h,_=>by simp [hss] at h
 | _::_,[],_,h,_=>by simp [hss] at h
 | s::l,x::a,n,h,j=>by
   simp only [hss,Bool.and_eq_true] at h
   simp only [deps] at j
   simp only [pds,aw]
   rw [ky M s x n h.1 (by lia),hss_rb M l a n h.2 (by lia)];rfl
end
theorem gG {s:Sh} (h:eF s=true):dep s<=7:=by
 match s,h with
 | .int,_=>simp [dep]
 | .tup (.int::l),h=>simp [eF] at h;simp [dep,deps];lia
 | .tup (.tup a::l),h=>simp only [eF,decide_eq_true_eq] at h;simp only [dep];lia
theorem nT {s:Sh} (h:eF s=true) {xs:List D} (hx:∀ x∈xs,hs s x=true):md 7 (xs.map pd) /\ ∀ d∈xs.map pd,Pl d:=by
 refine ⟨⟨?_, ?_, ?_⟩, ?_⟩
 ·intro d hd e he
  obtain ⟨x,h1,rfl⟩:=List.mem_map.mp hd
  obtain ⟨y,h2,rfl⟩:=List.mem_map.mp he
  exact rW s x y (hx x h1) (hx y h2)
 ·intro d hd
  obtain ⟨x,h1,rfl⟩:=List.mem_map.mp hd
  obtain ⟨_,g2,g3⟩:=iJ s x (hx x h1)
  exact ⟨g2,by have:=gG h;lia⟩
 ·match s,h with
  | .int,_ =>
   left
   intro d hd
   obtain ⟨x,h1,rfl⟩:=List.mem_map.mp hd
   have:=hx x h1
   cases x <;> simp [hs] at this
   exact ⟨_,rfl⟩
  | .tup (.int::l),_ =>
   right;left
   intro d hd
   obtain ⟨x,h1,rfl⟩:=List.mem_map.mp hd
   have:=hx x h1
   cases x <;> simp [hs] at this
   rename_i ds
   cases ds with
   | nil=>simp [hss] at this
   | cons y ys =>
     simp [hss] at this
     cases y <;> simp [hs] at this
     exact ⟨_,_,rfl⟩
  | .tup (.tup a::l),_ =>
   right;right
   intro d hd
   obtain ⟨x,h1,rfl⟩:=List.mem_map.mp hd
   have:=hx x h1
   cases x <;> simp [hs] at this
   rename_i ds
   cases ds with
   | nil=>simp [hss] at this
   | cons y ys =>
     simp [hss] at this
     cases y <;> simp [hs] at this
     exact ⟨_,_,rfl⟩
 ·intro d hd
  obtain ⟨x,h1,rfl⟩:=List.mem_map.mp hd
  exact (iJ s x (hx x h1)).1
theorem cn {α β:Type} (f : α -> β):∀ {l m:List β},l.Perm m -> ∀ {t:List α},t.map f=m -> ∃ t':List α,t'.Perm t/\t'.map f=l:=by
 intro l m h
 induction h with
 | nil=>intro t e;exact ⟨[],by rw [List.map_eq_nil_iff.mp e],rfl⟩
 | cons x h ih =>
   intro t e
   cases t with
   | nil=>simp at e
   | cons a t =>
     simp at e
     obtain ⟨t',h1,h2⟩:=ih e.2
     exact ⟨a::t',h1.cons a,by simp [h2,e.1]⟩
 | swap x y l =>
   intro t e
   match t,e with
   | a::b::t,e =>
     simp at e
     exact ⟨b::a::t, .swap _ _ _,by simp [e]⟩
 | trans h1 h2 j n =>
   intro t e
   obtain ⟨F,p2,q⟩:=n e
   obtain ⟨t1,z,B⟩:=j q
   exact ⟨t1,z.trans p2,B⟩
noncomputable def cy (ys:List D):Prop:=ys.Pairwise fun a b=>ltK (kyD b) (kyD a)=false
noncomputable def jf:RAd:=fun ds M Q => ∃ x xs sh,ds=[x]/\aC M x=some xs/\eF sh=true/\(∀ d∈xs,hs sh d=true) /\ ∀ p ys,M p=none->ys.Perm xs->cy ys->Q (.ref p) (af M p (.lst ys))
theorem gj:aV jf:=fun _ _ _ _ h ⟨x,xs,sh,e,l,o,a,q⟩=>⟨x,xs,sh,e,l,o,a,fun p ys n j hs=>h _ _ (q p ys n j hs)⟩
theorem nU {K:Frag} {H:Hp}:∀ {ds:List D} {vs:List V} {us:List Value},RDs K H ds vs->Vals vs us -> ∃ t:List (D×V×Value),t.map (·.1)=ds/\t.map (·.2.1)=vs/\t.map (·.2.2)=us /\ ∀ p∈t,RD K H p.1 p.2.1/\RelV p.2.1 p.2.2
 | [],vs,us,h,g=>by
  cases RDs.nil_iff.mp h
  cases g
  exact ⟨[],rfl,rfl,rfl,fun _ h=>by simp at h⟩
 | d::ds,vs,us,h,g=>by
   obtain ⟨v,r,rfl,h1,h2⟩:=RDs.cons_iff.mp h
   cases g with
   | cons g1 g2 =>
     rename_i u us
     obtain ⟨t,j,n,q,B⟩:=nU h2 g2
     exact ⟨(d,v,u)::t,by simp [j],by simp [n],by simp [q],fun p F=>by
      rcases List.mem_cons.mp F with z | z
      ·rw [z];exact ⟨h1,g1⟩
      ·exact B p z⟩
theorem nV {K:Frag} {H:Hp}:∀ {t:List (D×V×Value)},(∀ p∈t,RD K H p.1 p.2.1/\RelV p.2.1 p.2.2)->RDs K H (t.map (·.1)) (t.map (·.2.1))/\Vals (t.map (·.2.1)) (t.map (·.2.2))
 | [],_=>⟨RDs.nil, .nil⟩
 | p::t,h=>by
   obtain ⟨h1,h2⟩:=nV (t:=t) fun q j=>h q (by simp [j])
   exact ⟨RDs.cons (h p (by simp)).1 h1, .cons (h p (by simp)).2 h2⟩
section
variable {X:Cx}
theorem dF (J:X.A.units+16 < cLine) {pins:List (Addr×Obj)} {s:Shared} {σ:St} {H:Hp} {Q:VK} (I:Inv X pins σ H s) {M:Mem} (rm:RM X.K M H) {es:List D} {sh:Sh} {vs:List V} {p:Addr} (rvs:RDs X.K H es vs) (hok:eF sh=true) (L:∀ d∈es,hs sh d=true)
 (q:∀ p ys,M p=none->ys.Perm es->cy ys->KE' X.K M H Q (.ref p) (af M p (.lst ys))) {its:List Value} (hv:Vals vs its) (hl:vs.length<=sizeLine)
 (O:∀ (E:Value->Shared->Prop) (R:List Value->Shared->Prop),(∀ (h':Heap) (tk:Nat),(∀ b o,s.heap.get? b=some o->h'.get? b=some o)->s.toks<=tk->R its { s with heap:=h',toks:=tk })->wpAny (PySem.model X.prog X.w) X.A.in1 (collect (.ref p)) R E s) :
 wpAny (PySem.model X.prog X.w) X.A (call (.builtin "sorted") [.ref p]) (EP X pins σ Q) X.xe s:=by
 obtain ⟨hS,G⟩:=nT hok L
 have BR:=gG hok
 obtain ⟨t,t1,t2,t3,t4⟩:=nU rvs hv
 have S:∀ pp∈t, ∃ as,Reads s.heap pp.2.2 (pd pp.1) as:=fun pp j=>by
  have hm:pp.1∈es:=by rw [<- t1];exact List.mem_map_of_mem j
  exact bh I rm 16 pp.1 (pd pp.1) pp.2.1 pp.2.2 (ky M sh pp.1 16 (L _ hm) (by lia)) (t4 pp j).1 (t4 pp j).2
 have U:RdL s.heap its (es.map pd):=fun u J=>by
  rw [<- t3] at J
  obtain ⟨pp,j,rfl⟩:=List.mem_map.mp J
  obtain ⟨as,ra⟩:=S pp j
  exact ⟨pd pp.1,List.mem_map_of_mem (by rw [<- t1];exact List.mem_map_of_mem j),as,ra⟩
 refine jV (m := 7) (ds:=es.map pd) (C:=fun h' vs'=>vs'=its /\ ∀ b o,s.heap.get? b=some o->h'.get? b=some o) (by lia) hS G (fun E R hR => ?_) fun h1 h2 vs' out n' tk hC old g2 B Y BS BU ht => ?_
 ·refine O E R fun h' tk kp BP=>hR h' its tk ⟨rfl,kp⟩ (fun u J => ?_) (by rw [<- hv.length];exact hl) BP
  obtain ⟨d,hd,as,ra⟩:=U u J
  exact ⟨d,hd,as,aU (fun b o e _=>kp b o e) (G d hd) ra⟩
 ·obtain ⟨rfl,kp⟩:=hC
  rw [<- t3] at B
  obtain ⟨t',p1,p2⟩:=cn (fun pp:D×V×Value=>pp.2.2) B rfl
  have hz:=nV (t:=t') fun pp j=>t4 pp (p1.mem_iff.mp j)
  have Z:∀ b o,s.heap.get? b=some o->h2.get? b=some o:=fun b o e=>old b o (kp b o e)
  have z:s.heap.get? h1.objs.size=none:=by
   cases hq:s.heap.get? h1.objs.size with
   | none=>rfl
   | some o=>exact absurd (Heap.lt_size (kp _ _ hq)) (Nat.lt_irrefl _)
  have BQ:=I.fresh' z
  have hlen:(t'.map (·.2.1)).length<=sizeLine:=by
   rw [List.length_map,p1.length_eq, <- List.length_map (f:=fun pp:D×V×Value=>pp.2.1),t2];exact hl
  have I2:=I.laidN (t':=tk) (h':=h2) (N:=fun b=>if b=h1.objs.size then some (.lst (t'.map (·.2.1))) else none) Z (fun b o e=>by
   by_cases hb:b=h1.objs.size
   ·rw [hb];exact z
   ·rw [if_neg hb] at e;cases e) (fun b o e=>by
   by_cases hb:b=h1.objs.size
   ·subst hb
    rw [if_pos rfl] at e;cases e
    exact ⟨hlen,out,n',by rw [<- p2];exact hz.2,g2⟩
   ·rw [if_neg hb] at e;cases e)
  have eH:lay H (fun b=>if b=h1.objs.size then some (.lst (t'.map (·.2.1))) else none)=upd H h1.objs.size (.lst (t'.map (·.2.1))):=by
   funext b
   unfold lay upd
   dsimp only
   by_cases hb:b=h1.objs.size
   ·rw [if_pos hb,if_pos hb]
   ·rw [if_neg hb,if_neg hb]
  rw [eH] at I2
  refine ⟨.ref h1.objs.size,_,I2,rfl, ?_⟩
  refine cK rm hz.1 (fun p' n=>q p' _ n ?_ ?_) BQ
  ·have:=p1.map (fun pp:D×V×Value=>pp.1)
   rw [t1] at this;exact this
  ·unfold cy
   rw [List.pairwise_map]
   rw [<- p2,List.pairwise_map] at Y
   refine Y.imp_of_mem fun {a b} ha hb hab => ?_
   have rd:∀ pp∈t',SeqAt.readOf h2 pp.2.2=pd pp.1:=fun pp j=>by
    have F:=p1.mem_iff.mp j
    obtain ⟨as,ra⟩:=S pp F
    have hm:pp.1∈es:=by rw [<- t1];exact List.mem_map_of_mem F
    exact SeqAt.readOf_eq (hS.lay _ (List.mem_map_of_mem hm)).1 (aU (fun b o e _=>Z b o e) (G _ (List.mem_map_of_mem hm)) ra)
   rw [rd a ha,rd b hb] at hab
   exact hab
theorem ki (J:X.A.units+16 < cLine):CallR X (.builtin "sorted") (lR X.K jf):=by
 intro pins s σ H xs us Q I r h
 obtain ⟨ds,M,rm,rs,x,es,sh,rfl,j,hok,z,q⟩:=h
 obtain ⟨v,rfl,rv⟩:=rs.one
 obtain ⟨u,rfl,ru⟩:=dl r
 obtain ⟨p,vs,rfl,sq,rvs⟩:=qS rm rv j
 cases ru
 rcases sq with sq | sq
 ·obtain ⟨its,r',pl,B⟩:=I.list sq
  have hlen:=r'.length
  obtain ⟨o,ho,F,n,hd⟩:=pl.isList
  exact dF J I rm rvs hok z q r' B fun E R G=>wpAny_collect_seq p (.inl rfl) ho F hd (fun h' kp=>G h' s.toks kp (Nat.le_refl _)) (by simp only [List.size_toArray] <;> lia)
 ·obtain ⟨its,r',pl,B⟩:=I.tuple sq
  have hlen:=r'.length
  obtain ⟨o,ho,F,n,hd⟩:=pl
  exact dF J I rm rvs hok z q r' B fun E R G=>wpAny_collect_seq p (.inr rfl) ho F hd (fun h' kp=>G h' s.toks kp (Nat.le_refl _)) (by simp only [List.size_toArray] <;> lia)
end
end Mi
end
end L2
namespace L2
namespace Mi
open PySem PySem.Spec PyProof.Rows L2.Srt
noncomputable def kvD (kv:D×D):D := .tup [kv.1,kv.2]
noncomputable def fy (ta:TEd):TEd:=fun ρ M Q=>ta ρ M fun x M1 => ∃ a t kvs sh,x = .ref a/\M1 a=some (.dct t kvs)/\eF sh=true/\(∀ kv∈kvs,hs sh (kvD kv)=true) /\ ∀ p ys,M1 p=none->ys.Perm (kvs.map kvD)->cy ys->Q (.ref p) (af M1 p (.lst ys))
theorem pP {ta:TEd} (h:ab ta):ab (fy ta):=fun ρ M Q Q' i q=>h _ _ _ _ (fun x I ⟨a,t,kvs,sh,e,j,z,B,F⟩=>⟨a,t,kvs,sh,e,j,z,B,fun p ys n G hs=>i _ _ (F p ys n G hs)⟩) q
noncomputable def gH (K:Frag) (H:Hp) (kv:D×D) (e:DictEntry):Prop := ∃ kV vV,RD K H kv.1 kV/\RelV kV e.key/\RD K H kv.2 vV/\RelV vV e.val
theorem nW {K:Frag} {H:Hp} {d:D} {k:Key} (h:RKey d k):RD K H d (kV k):=by
 cases d <;> first
  | exact h.elim
  | (cases h;first | exact RD.int_iff.mpr rfl | exact RD.str_iff.mpr rfl)
theorem jW {K:Frag} {H:Hp}:∀ {ds:List D} {ks:List Key},Paired RKey ds ks->RDs K H ds (ks.map kV)
 | _,_, .nil=>RDs.nil
 | _,_, .cons r t=>RDs.cons (nW r) (jW t)
theorem wd {P:Program} {w:World} {K:Frag} {H:Hp}:∀ {kvs:List (D×D)} {ps:List (Key×V)} {vs:List (Key×Value)} {es:List DictEntry},Paired (fun (p:D×D) (q:Key×V)=>RKey p.1 q.1/\RD K H p.2 q.2) kvs ps->KV ps vs->Pairs (aJ P w) es vs->Paired (gH K H) kvs es
 | _,_,_,_, .nil, .nil, .nil => .nil
 | _,_,_,_, .cons z t1, .cons B F, .cons h1 h2 t3=>by
   refine .cons ⟨kV _,_,nW z.1, ?_,z.2,by rw [h2];exact B.2⟩ (wd t1 F t3)
   rw [<- B.1] at h1
   rcases aO h1 with ⟨i,t,j,n⟩ | ⟨x,t,j,n⟩
   ·rw [j,n];exact ⟨t,rfl⟩
   ·rw [j,n];exact ⟨t,rfl⟩
theorem we {P:Program} {w:World} {K:Frag} {H:Hp}:∀ {kvs:List (D×D)} {ps:List (List Key×V)} {xs:List (List Key×Addr×Value)},Paired (fun (p:D×D) (q:List Key×V)=>RKeys p.1 q.1/\RD K H p.2 q.2) kvs ps->Paired (fun (p:List Key×V) (q:List Key×Addr×Value)=>p.1=q.1/\H q.2.1=some (.tup (p.1.map kV))/\RelV p.2 q.2.2) ps xs->Paired (gH K H) kvs (xs.map (entryOfKey (tupleKind (aJ P w))))
 | _,_,_, .nil, .nil => .nil
 | kv::_,_,_, .cons n t1, .cons z B=>by
   refine .cons ?_ (we t1 B)
   obtain ⟨d,v⟩:=kv
   have j:=n.1
   cases d <;> first
    | exact j.elim
    | exact ⟨.ref _,_,RD.tup_iff.mpr ⟨_,_,rfl,z.2.1,jW j⟩,rfl,n.2,z.2.2⟩
theorem bg {α β:Type} {R : α -> β -> Prop}:∀ {l:List α} {m:List β},Paired R l m->l.length=m.length
 | _,_, .nil=>rfl
 | _,_, .cons _ t=>by simp [bg t]
noncomputable abbrev Rw:=Addr×(D×D)×V×V×DictEntry
theorem wf {K:Frag} {H:Hp} {G:Addr->DictEntry->Prop}:∀ {kvs:List (D×D)} {es:List DictEntry} {us:List Value},Paired (gH K H) kvs es->us.length=es.length->(∀ j,j < es.length -> ∃ t e,us[j]? = some (.ref t)/\es[j]? = some e/\G t e) ->
 ∃ L:List Rw,L.map (fun r=>Value.ref r.1)=us/\L.map (fun r=>r.2.1)=kvs /\ ∀ r∈L,RD K H r.2.1.1 r.2.2.1/\RelV r.2.2.1 r.2.2.2.2.key/\RD K H r.2.1.2 r.2.2.2.1/\RelV r.2.2.2.1 r.2.2.2.2.val/\G r.1 r.2.2.2.2
 | _,_,us, .nil,hl,_=>⟨[],by simp at hl;simp [hl],rfl,fun _ h=>by simp at h⟩
 | kv::kvs,e::es,us, .cons r t,hl,h=>by
   cases us with
   | nil=>simp at hl
   | cons u us =>
     obtain ⟨L,h1,h2,F⟩:=wf (us:=us) t (by simpa using hl) fun j I=>by
      obtain ⟨t,e',n,q,B⟩:=h (j+1) (by simpa using I)
      exact ⟨t,e',by simpa using n,by simpa using q,B⟩
     obtain ⟨t0,e',n,q,B⟩:=h 0 (by simp)
     simp at n q
     subst n q
     obtain ⟨kV,vV,g1,g2,g3,J⟩:=r
     exact ⟨(t0,kv,kV,vV,e)::L,by simp [h1],by simp [h2],fun r hr=>by
      rcases List.mem_cons.mp hr with z | z
      ·rw [z];exact ⟨g1,g2,g3,J,B⟩
      ·exact F r z⟩
theorem uR {L:List Rw} (j:(L.map fun r=>r.1).Nodup) {r:Rw} (hr:r∈L):L.find? (fun x=>decide (x.1=r.1))=some r:=by
 induction L with
 | nil=>simp at hr
 | cons x L ih =>
   simp only [List.map_cons,List.nodup_cons] at j
   rcases List.mem_cons.mp hr with z | z
   ·subst z;simp
   ·have:x.1≠r.1:=fun e=>j.1 (by rw [e];exact List.mem_map_of_mem z)
    rw [List.find?_cons_of_neg (by simpa using this)]
    exact ih j.2 z
section
variable {X:Cx}
theorem mj {H:Hp} {h:Heap} {P:Program} {w:World} {K:Frag} {a:Addr} {ps:List (List Key×V)} {kvs:List (D×D)} (ok:ObjOk P w H h a (.dT ps)) (pr:Paired (fun (p:D×D) (q:List Key×V)=>RKeys p.1 q.1/\RD K H p.2 q.2) kvs ps) :
 ∃ cd dd sl es ep,h.get? a=some { cls:=cd,dict:=dd,data := .dict es ep,slots:=sl }/\es.size<=sizeLine/\Paired (gH K H) kvs es.toList:=by
 obtain ⟨hl,z,xs,j,o,es,ep,h1,h2,n,B,F⟩:=ok
 obtain ⟨cd,dd,dat,sl⟩:=o
 dsimp only at n
 subst n
 have pp:=we (P:=P) (w:=w) pr j
 rw [<- B] at pp
 refine ⟨cd,dd,sl,es,ep,h1, ?_,pp⟩
 have:=bg pp
 have:=bg pr
 simp at *;lia
theorem nX {pins:List (Addr×Obj)} {σ:St} {H:Hp} {s:Shared} {M:Mem} (I:Inv X pins σ H s) (rm:RM X.K M H) {a:Addr} {t:Bool} {kvs:List (D×D)} (e:M a=some (.dct t kvs)) :
 ∃ cd dd sl es ep,s.heap.get? a=some { cls:=cd,dict:=dd,data := .dict es ep,slots:=sl }/\es.size<=sizeLine/\Paired (gH X.K H) kvs es.toList/\IsD H a:=by
 have ro:=rm a _ e
 cases t with
 | false =>
   obtain ⟨ps,j,pr⟩:=ro
   obtain ⟨hl,z,vs,q,o,es,ep,h1,h2,n,F,B,G⟩:=I.hok a _ j
   obtain ⟨cd,dd,dat,sl⟩:=o
   dsimp only at n
   subst n
   have pp:=wd pr q B
   refine ⟨cd,dd,sl,es,ep,h1, ?_,pp, .inl ⟨_,Rd.of j⟩⟩
   have:=bg pp
   have:=bg pr
   simp at *;lia
 | true =>
   obtain ⟨ps,j,pr⟩:=ro
   obtain ⟨cd,dd,sl,es,ep,h1,h2,n⟩:=mj (I.hok a _ j) pr
   exact ⟨cd,dd,sl,es,ep,h1,h2,n, .inr ⟨_,Rd.of j⟩⟩
theorem jX {d:Addr} {Q:Value->Shared->Prop} {A:Around} {E:Value->Shared->Prop} {s:Shared} {cd:Value} {dd:Option Addr} {sl:Array (Option Value)} {es:Array DictEntry} {ep:Nat} {prog:Program} {w:World} (ty:s.TypeIs (.ref d) "dict") (n:(d==sysModules)=false) (hd:s.heap.get? d=some { cls:=cd,dict:=dd,data := .dict es ep,slots:=sl })
 (q:Q (.ref s.heap.objs.size) { s with heap:=s.heap.push { cls := .type "dict_items",data := .fields #[.ref d] } }):wpAny (model prog w) A (call (.builtin "dict.items") [.ref d]) Q E s:=by
 have j:cd = .type "dict" := by
  obtain ⟨o,h1,h2⟩:=ty
  rw [hd] at h1;cases h1;exact h2
 subst j
 refine wpAny_call_entry F.slot_dict_items ty F.entry_dict_items ?_ (F.args_dict_items_1 _)
 unfold Builtin.«dict.items»
 wp_walk
 exact ⟨_,rfl,q⟩
theorem uS {e:Expr} {ta:TEd} {p pos apos cpos:Pos} (hu:X.A.units+16 < cLine) (m:ab ta) (hc:X.calm=true) (he:PE X e (lE X.K ta)) (hg:Gl X "sorted") (hm:X.mg "sorted" = none)
 (BQ:attributeBase e "items" X.env (eval e X.env)=eval e X.env) (BR:(apos.endLine==cpos.line)=true) :
 PE X (.Call (.Name "sorted" p) [.Call (.Attribute e "items" apos) [] [] cpos] [] pos) (lE X.K (fy ta)):=by
 intro pins s σ H Q I h
 obtain ⟨ρ,M,rs,rm,h⟩:=h
 refine wpAny_Call_Name_kw (cS I hg hm (u := .builtin "sorted") (by decide +kernel) ?_ (by decide) (by decide))
 refine PyProof.Rows.callWith_builtin1 ?_ rfl rfl
 refine Calls.spliced_cons ?_
 refine wpAny_Call_method0_late BQ BR (thn (he pins s σ H (fun v H1 => ∃ U a t kvs sh,Ext M H U H1/\RM X.K U H1/\v = .ref a/\U a=some (.dct t kvs)/\eF sh=true/\(∀ kv∈kvs,hs sh (kvD kv)=true) /\ ∀ p ys,U p=none->ys.Perm (kvs.map kvD)->cy ys->KE' X.K M H Q (.ref p) (af U p (.lst ys))) I ⟨ρ,M,rs,rm,m _ _ _ _ (fun x U ⟨a,t,kvs,sh,e,e1,e2,e3,q1⟩ v H1 x1 S C3=>by
  subst e
  exact ⟨U,a,t,kvs,sh,x1,S,RD.ref_iff.mp C3,e1,e2,e3,q1⟩) h⟩) fun v s1 ⟨x,H1,I1,r1,U,a,t,kvs,sh,x1,S,ex,e1,hok,BV,q⟩ => ?_)
 subst ex
 obtain rfl:v=Value.ref a:=r1
 obtain ⟨cd,dd,sl,es,ep,hd,hz,BW,hD⟩:=nX I1 S e1
 obtain ⟨t1,t2,C4⟩:=eY I1 hD
 refine ⟨"dict", "dict.items",F.plainAttrs_dict,F.slot_dict_items,F.type_dict_items,t1,t2,Calls.callWith_builtin rfl (PySem.evalArgs_none ?_)⟩
 refine jX t1 C4 hd ?_
 refine Calls.spliced_nil ?_
 have kpv:∀ b o,s1.heap.get? b=some o->(s1.heap.push { cls:=Value.type "dict_items",data:=Data.fields #[Value.ref a] }).get? b=some o:=fun b o e=>Heap.get?_push_of_some _ e
 obtain ⟨hS,C5⟩:=nT (xs:=kvs.map kvD) hok (fun d hd=>by
  obtain ⟨kv,C6,rfl⟩:=List.mem_map.mp hd
  exact BV kv C6)
 have O:=gG hok
 have BX:∀ (h':Heap) (r:Rw),(∀ b o,s1.heap.get? b=some o->h'.get? b=some o)->r.2.1∈kvs->RD X.K H1 r.2.1.1 r.2.2.1->RelV r.2.2.1 r.2.2.2.2.key->RD X.K H1 r.2.1.2 r.2.2.2.1->RelV r.2.2.2.1 r.2.2.2.2.val->h'.get? r.1=some { cls := .type "tuple",data := .seq #[r.2.2.2.2.key,r.2.2.2.2.val] } -> ∃ as,Reads h' (.ref r.1) (pd (kvD r.2.1)) as:=by
  intro h' r kp hm g1 g2 g3 g4 g5
  have J:=BV _ hm
  match sh,J,O with
  | .tup l,J,O =>
   simp only [kvD,hs] at J
   match l,J,O with
   | [sa,sb],J,O =>
    simp only [hss,Bool.and_eq_true,and_true] at J
    simp only [dep,deps] at O
    obtain ⟨as,ra⟩:=bh I1 S 16 _ _ _ _ (ky U sa _ 16 J.1 (by lia)) g1 g2
    obtain ⟨bs,rb'⟩:=bh I1 S 16 _ _ _ _ (ky U sb _ 16 J.2 (by lia)) g3 g4
    have ra:=aU (fun b o e _=>kp b o e) (iJ sa _ J.1).1 ra
    have rb':=aU (fun b o e _=>kp b o e) (iJ sb _ J.2).1 rb'
    have fin:Reads h' (.ref r.1) (.tuple [pd r.2.1.1,pd r.2.1.2]) (as++(bs++[])) := .tuple g5 rfl rfl (.cons ra (.cons rb' .nil))
    exact ⟨_,fin⟩
   | [],J,_=>simp [hss] at J
   | [_],J,_=>simp [hss] at J
   | _::_::_::_,J,_=>simp [hss] at J
  | .int,J,_=>simp [kvD,hs] at J
 refine jV (m := 7) (ds:=(kvs.map kvD).map pd) (C:=fun h' us=>(∀ b o,s1.heap.get? b=some o->h'.get? b=some o) /\ ∃ L:List Rw,L.map (fun r=>Value.ref r.1)=us/\L.map (fun r=>r.2.1)=kvs/\us.Nodup /\ ∀ r∈L,RD X.K H1 r.2.1.1 r.2.2.1/\RelV r.2.2.1 r.2.2.2.2.key/\RD X.K H1 r.2.1.2 r.2.2.2.1/\RelV r.2.2.2.1 r.2.2.2.2.val/\h'.get? r.1=some { cls := .type "tuple",data := .seq #[r.2.2.2.2.key,r.2.2.2.2.val] }/\s1.heap.get? r.1=none) (by lia) hS C5 (fun E R hR => ?_) fun h1 h2 us out n' tk hC old g2 Y BY Cc Cd ht => ?_
 ·refine It.collect_view (A:=X.A.in1) (s := { s1 with heap:=s1.heap.push { cls:=Value.type "dict_items",data:=Data.fields #[Value.ref a] } }) (I.ok.hd hc) (Heap.get?_push_size _ rfl) (kpv _ _ hd) hz fun h' us k1 k2 k3 k4 => ?_
  obtain ⟨L,l1,l2,l3⟩:=wf (G:=fun t e=>h'.get? t=some { cls := .type "tuple",data := .seq #[e.key,e.val] }/\s1.heap.get? t=none) BW (by simpa using k2) fun j hj=>by
   obtain ⟨t,e,e1,e2,e3,e4⟩:=k4 j (by simpa using hj)
   refine ⟨t,e,e1,by rw [Array.getElem?_toList];exact e2,e3, ?_⟩
   cases hq:s1.heap.get? t with
   | none=>rfl
   | some o=>rw [kpv _ _ hq] at e4;cases e4
  refine hR h' us _ ⟨fun b o e=>k1 b o (kpv b o e),L,l1,l2,k3,l3⟩ (fun u hu => ?_) (by rw [k2];exact hz) (Nat.le_refl _)
  rw [<- l1] at hu
  obtain ⟨r,hr,rfl⟩:=List.mem_map.mp hu
  obtain ⟨p1,p2,p3,p4,p5,p6⟩:=l3 r hr
  have hm:r.2.1∈kvs:=by rw [<- l2];exact List.mem_map_of_mem hr
  obtain ⟨as,ra⟩:=BX h' r (fun b o e=>k1 b o (kpv b o e)) hm p1 p2 p3 p4 p5
  exact ⟨_,List.mem_map_of_mem (List.mem_map_of_mem hm),as,ra⟩
 ·obtain ⟨kp,L,l1,l2,l3,l4⟩:=hC
  rw [<- l1] at Y
  obtain ⟨L',p1,p2⟩:=cn (fun r:Rw=>Value.ref r.1) Y rfl
  have BZ:∀ b o,s1.heap.get? b=some o->h2.get? b=some o:=fun b o e=>old b o (kp b o e)
  have B:s1.heap.get? h1.objs.size=none:=by
   cases hq:s1.heap.get? h1.objs.size with
   | none=>rfl
   | some o=>exact absurd (Heap.lt_size (kp _ _ hq)) (Nat.lt_irrefl _)
  have C7:(L.map fun r=>r.1).Nodup:=by
   rw [<- l1] at l3
   have:(L.map fun r=>Value.ref r.1)=(L.map fun r=>r.1).map Value.ref:=by simp
   rw [this] at l3
   exact List.Pairwise.of_map _ (fun a b BP he=>BP (by rw [he])) l3
  have Z:∀ r∈L',r∈L:=fun r hr=>p1.mem_iff.mp hr
  have hp:∀ r∈L,r.1≠h1.objs.size:=fun r hr=>Nat.ne_of_lt (Heap.lt_size (l4 r hr).2.2.2.2.1)
  let N:Addr->Option HO:=fun b=>if b=h1.objs.size then some (.lst (L'.map fun r=>V.ref r.1)) else (L.find? fun x=>decide (x.1=b)).map fun r => .tup [r.2.2.1,r.2.2.2.1]
  have C0:N h1.objs.size=some (.lst (L'.map fun r=>V.ref r.1)):=by show (if _ then _ else _)=_;rw [if_pos rfl]
  have C8:∀ r∈L,N r.1=some (.tup [r.2.2.1,r.2.2.2.1]):=fun r hr=>by
   show (if _ then _ else _)=_
   rw [if_neg (hp r hr),uR C7 hr];rfl
  have BS:∀ b o,N b=some o->b=h1.objs.size/\o = .lst (L'.map fun r=>V.ref r.1) ∨ ∃ r∈L,b=r.1/\o = .tup [r.2.2.1,r.2.2.2.1]:=fun b o e=>by
   by_cases hb:b=h1.objs.size
   ·subst hb;rw [C0] at e;cases e;exact .inl ⟨rfl,rfl⟩
   ·right
    have e:((L.find? fun x=>decide (x.1=b)).map fun r=>HO.tup [r.2.2.1,r.2.2.2.1])=some o:=by
     have e':(if b=h1.objs.size then some (HO.lst (L'.map fun r=>V.ref r.1)) else (L.find? fun x=>decide (x.1=b)).map fun r=>HO.tup [r.2.2.1,r.2.2.2.1])=some o:=e
     rw [if_neg hb] at e';exact e'
    cases hf:L.find? fun x=>decide (x.1=b) with
    | none=>rw [hf] at e;cases e
    | some r =>
      rw [hf] at e;cases e
      have C9:=List.find?_some hf
      exact ⟨r,List.mem_of_find?_eq_some hf,(by simpa using C9:r.1=b).symm,rfl⟩
  have oldH:∀ b o,H1 b=some o->lay H1 N b=some o:=fun b o e=>by
   rw [fX]
   ·exact e
   ·cases hq:N b with
    | none=>rfl
    | some o' =>
      obtain ⟨ob,eo⟩:=(I1.hok b o e).there
      rcases BS b o' hq with ⟨rfl,_⟩ | ⟨r,hr,rfl,_⟩
      ·rw [B] at eo;cases eo
      ·rw [(l4 r hr).2.2.2.2.2] at eo;cases eo
  have st:Stab H1 (lay H1 N):=⟨fun b xs e=>oldH b _ e,fun b o u e=>oldH b _ e⟩
  have BU:L'.length=kvs.length:=by rw [p1.length_eq, <- l2];simp
  have Ca:=bg BW
  have I2:=I1.laidN (t':=tk) (h':=h2) (N:=N) BZ (fun b o e=>by
   rcases BS b o e with ⟨rfl,_⟩ | ⟨r,hr,rfl,_⟩
   ·exact B
   ·exact (l4 r hr).2.2.2.2.2) (fun b o e=>by
   rcases BS b o e with ⟨rfl,rfl⟩ | ⟨r,hr,rfl,rfl⟩
   ·refine ⟨by rw [List.length_map,BU,Ca];simpa using hz,out,n', ?_,g2⟩
    rw [<- p2]
    have:∀ l:List Rw,Vals (l.map fun r=>V.ref r.1) (l.map fun r=>Value.ref r.1):=by
     intro l
     induction l with
     | nil=>exact .nil
     | cons r l ih=>exact .cons rfl ih
    exact this L'
   ·obtain ⟨q1,q2,q3,q4,q5,q6⟩:=l4 r hr
    exact ⟨by show 2<=sizeLine;decide,[r.2.2.2.2.key,r.2.2.2.2.val], .cons q2 (.cons q4 .nil),_,old _ _ q5,rfl,0,rfl⟩)
  refine ⟨.ref h1.objs.size,_,I2,rfl, ?_⟩
  have C1:U h1.objs.size=none:=S.out (I1.fresh' B)
  have C2:RDs X.K (lay H1 N) (L'.map fun r=>kvD r.2.1) (L'.map fun r=>V.ref r.1):=by
   have:∀ l:List Rw,(∀ r∈l,r∈L)->RDs X.K (lay H1 N) (l.map fun r=>kvD r.2.1) (l.map fun r=>V.ref r.1):=by
    intro l
    induction l with
    | nil=>intro _;exact RDs.nil
    | cons r l ih =>
      intro hl
      obtain ⟨q1,q2,q3,q4,q5,q6⟩:=l4 r (hl r (by simp))
      refine RDs.cons (RD.tup_iff.mpr ⟨r.1,_,rfl,je (C8 r (hl r (by simp))),RDs.cons (q1.mono st) (RDs.cons (q3.mono st) RDs.nil)⟩) (ih fun r' Cb=>hl r' (by simp [Cb]))
   exact this L' Z
  refine q h1.objs.size (L'.map fun r=>kvD r.2.1) C1 ?_ ?_ (.ref h1.objs.size) (lay H1 N) (x1.trans ⟨fun b o _ e=>oldH b o e,fun b o n e => ?_⟩) (fun a' o' e' => ?_) (RD.ref_iff.mpr rfl)
  ·have:=p1.map (fun r:Rw=>kvD r.2.1)
   rw [show L.map (fun r:Rw=>kvD r.2.1)=(L.map fun r=>r.2.1).map kvD by simp,l2] at this
   exact this
  ·unfold cy
   rw [List.pairwise_map]
   rw [<- p2,List.pairwise_map] at BY
   refine BY.imp_of_mem fun {a b} ha hb BP => ?_
   have rd:∀ r∈L',SeqAt.readOf h2 (Value.ref r.1)=pd (kvD r.2.1):=fun r hr=>by
    obtain ⟨q1,q2,q3,q4,q5,q6⟩:=l4 r (Z r hr)
    have hm:r.2.1∈kvs:=by rw [<- l2];exact List.mem_map_of_mem (Z r hr)
    obtain ⟨as,ra⟩:=BX h2 r BZ hm q1 q2 q3 q4 (old _ _ q5)
    exact SeqAt.readOf_eq (hS.lay _ (List.mem_map_of_mem (List.mem_map_of_mem hm))).1 ra
   rw [rd a ha,rd b hb] at BP
   exact BP
  ·have hb:b≠h1.objs.size:=fun z=>by
    rw [z,I1.fresh' B] at e;cases e
   exact av hb
  ·by_cases hz:a'=h1.objs.size
   ·subst hz
    rw [ad] at e';cases e'
    exact ⟨_,je C0,C2⟩
   ·rw [av hz] at e'
    exact (S a' o' e').mono st fun ho e=>oldH a' ho e
end
section
noncomputable def iK (to tk tx:TEd):TEd:=fun ρ M Q=>to ρ M fun x M1 => ∃ a t kvs,x = .ref a/\M1 a=some (.dct t kvs)/\tk ρ M1 fun k M2=>tx ρ M2 fun z M3 => ∃ t' kvs',M3 a=some (.dct t' kvs')/\dm t' k=true/\Q ((dget kvs' k).getD z) M3
theorem rX {to tk tx:TEd} (h1:ab to) (h2:ab tk) (j:ab tx):ab (iK to tk tx):=fun ρ M Q Q' i q=>h1 _ _ _ _ (fun x J ⟨a,t,kvs,e,n,B⟩=>⟨a,t,kvs,e,n,h2 _ _ _ _ (fun k M2 F=>j _ _ _ _ (fun z L ⟨t',kvs',G,ok,I⟩=>⟨t',kvs',G,ok,i _ _ I⟩) F) B⟩) q
section
variable {X:Cx}
theorem zZ {K:Frag} {M:Mem} {H:Hp} (rm:RM K M H) {a:Addr} {t:Bool} {kvs:List (D×D)} (e:M a=some (.dct t kvs)):IsD H a:=by
 have ro:=rm a _ e
 cases t with
 | false=>obtain ⟨ps,j,_⟩:=ro;exact .inl ⟨_,Rd.of j⟩
 | true=>obtain ⟨ps,j,_⟩:=ro;exact .inr ⟨_,Rd.of j⟩
theorem y9 {o e f:Expr} {to tk tx:TEd} {apos cpos:Pos} (O:X.A.units+1 < cLine) (mo:ab to) (mk:ab tk) (mx:ab tx) (ho:PE X o (lE X.K to)) (he:PE X e (lE X.K tk)) (hf:PE X f (lE X.K tx)) (m:M2 X o "get" apos e f cpos) :
 PE X (.Call (.Attribute o "get" apos) [e,f] [] cpos) (lE X.K (iK to tk tx)):=by
 refine PE.imp (tU O ho he hf m) fun σ H Q h => ?_
 obtain ⟨ρ,M,rs,rm,q⟩:=h
 refine ⟨ρ,M,rs,rm,mo _ _ _ _ (fun x R ⟨a,t,kvs,e,S,U⟩ v H1 I j rd1 => ?_) q⟩
 subst e
 cases RD.ref_iff.mp rd1
 have n:=rs.mono (I.stab rm)
 refine ⟨a,rfl,zZ j S, ρ,R,n,j,mk _ _ _ _ (fun k M2 Y v2 H2 J B F => ?_) U⟩
 have G:=n.mono (J.stab j)
 refine ⟨ρ,M2,G,B,mx _ _ _ _ (fun z M3 ⟨t',kvs',Z,ok,q3⟩ v3 H3 L rm3 rd3 => ?_) Y⟩
 obtain ⟨w,g,g1,g2⟩:=ja rm3 Z ok (F.mono (L.stab B))
 refine ⟨w,g, ?_⟩
 refine q3 _ H3 (I.trans (J.trans L)) rm3 ?_
 cases e4:dget kvs' k with
 | none=>rw [g2 e4];exact rd3
 | some d =>
   obtain ⟨w',e5,r5⟩:=g1 d e4
   rw [e5];exact r5
end
end
end Mi
end L2
namespace L2
open PySem PySem.Spec PyProof.Rows
namespace Mi
end Mi
end L2
namespace L2
open PySem PySem.Spec PyProof.Rows
namespace Mi
end Mi
end L2
namespace L2
open PySem PySem.Spec PyProof.Rows
namespace Mi
end Mi
end L2
namespace L2
open PySem PySem.Spec PyProof.Rows
section
section
variable {prog:Program} {w:World} {A:Around} {E:Value->Shared->Prop} {s:Shared}
theorem ya:typeLookup (.type "list") "keys" = pure none:=by rw [typeLookup_type,builtinLookup_eq_fast];kernel_rfl
theorem yb {l:Addr} {o:Obj} {xs:Array Value} {k:Nat} {Q:Option Value->Shared->Prop} (z:A.handled=none) (ho:s.heap.get? l=some o) (n:o.cls = .type "list") (hd:o.data = .seq xs k) (j:o.dict=none)
 (q:∀ h' tk,(∀ b o,s.heap.get? b=some o->h'.get? b=some o)->Q none { s with heap:=h',toks:=tk }):wpAny (model prog w) A (getAttr? (.ref l) "keys") Q E s:=by
 have ty:s.TypeIs (.ref l) "list" := ⟨_,ho,n⟩
 unfold getAttr?
 unfold mkText
 refine wpAny_bind ?_
 refine wpAny_bind (wpAny_fresh ?_)
 refine wpAny_pure ?_
 unfold getAttrBy?
 refine wpAny_bind (wpAny_attempt ?_)
 unfold getAttrBy
 refine wpAny_holding ?_
 refine wpAny_bind (wpAny_typeOf (s := { s with toks:=s.toks+1 }) ty ?_)
 refine wpAny_bind (wpAny_of_eq F.slot_list_getattribute.lookup ?_)
 refine wpAny_ite_false (by decide) ?_
 unfold getAttrByItsOwn hookBefore
 rw [if_neg (by decide)]
 refine wpAny_bind (wpAny_pure ?_)
 refine wpAny_bind (wpAny_attempt (wpAny_holding ?_))
 unfold callGetattribute boundAndCalled
 rw [if_neg (by decide)]
 refine wpAny_bind (wpAny_of_eq (F.slot_list_getattribute.bind _) ?_)
 dsimp only
 obtain ⟨cls,dd,dat,sl⟩:=o
 dsimp only at n hd j
 subst n hd j
 refine call_meetsIn F.slot_list_getattribute (s := { s with toks:=s.toks+1 }) ty am_entry_list_getattribute (F.args_list_getattribute_2 _ _) ((meets_getattribute_miss_list l xs k sl "keys" s.toks ya (by decide) (by decide)).inModel prog w) ⟨ho,z,fun h' tk a ne => ?_⟩
 ·have ne:s.heap.NewAttrErr h' a (.ref l) "keys" := ne
  obtain ⟨t,u,he⟩:=ne.there
  unfold getattributeRaised
  refine wpAny_bind (wpAny_isInstance (T := "AttributeError") (b:=true) ⟨_,he,rfl⟩ (by rw [isSubtype_type];kernel_rfl) ?_)
  rw [if_pos rfl]
  unfold hookBehind
  rw [if_neg (by decide)]
  refine wpAny_bind (wpAny_of_eq am_list_getattr_none ?_)
  unfold hookOrError attributeErrorLeaves
  dsimp only
  rw [if_pos (by decide)]
  refine wpAny_bind (wpAny_throw ?_)
  refine wpAny_bind (wpAny_isInstance (T := "AttributeError") (b:=true) ⟨_,he,rfl⟩ (by rw [isSubtype_type];kernel_rfl) ?_)
  rw [if_pos rfl]
  exact wpAny_pure (q h' tk ne.keeps)
end
end
section
theorem mm:entryFor table "dict.update.loop" = some Builtin.«dict.update.loop» := entryFor_of_tree (by kernel_rfl)
theorem mn:plainId "dict.update.loop" = true:=by decide +kernel
section
variable {X:Cx} {pins:List (Addr×Obj)} {σ:St} {H:Hp}
theorem iL {α β:Type} {R : α -> β -> Prop}:∀ {l:List α} {m:List β} {i:Nat} {x : α},Paired R l m->l[i]? = some x -> ∃ y,m[i]? = some y/\R x y
 | _,_,_,_, .nil,e=>by simp at e
 | _,_,0,_, .cons r _,e=>by simp at e;subst e;exact ⟨_,rfl,r⟩
 | _,_,i+1,x, .cons _ t,e=>by
   simp at e
   obtain ⟨y,h1,h2⟩:=iL t e
   exact ⟨y,by simpa using h1,h2⟩
end
end
end L2
namespace L2
namespace Mi
open PySem PySem.Spec PyProof.Rows
section
section
variable {X:Cx}
noncomputable def pQ (kvs:List (D×D)):List (D×D):=kvs.foldl (fun a kv=>bP a kv.1 kv.2) []
end
end
section
noncomputable abbrev RKv (K:Frag) (H:Hp):D×D->Key×V->Prop:=fun p q=>RKey p.1 q.1/\RD K H p.2 q.2
end
end Mi
end L2
namespace L2
namespace Dk
open PySem PySem.Spec PyProof.Rows
section
variable {prog:Program} {w:World} {A:Around} {E:Value->Shared->Prop} {s:Shared}
noncomputable def kO (d:Addr) (i n ep:Nat):Obj := { cls := .type "dict_keyiterator",data := .fields #[.ref d, .int i 0, .int n 0, .int ep 0] }
theorem slot_next:Slot "dict_keyiterator" "__next__" "dict_keyiterator.__next__" := .of (owner := "dict_keyiterator") (n := "__next__") (by rw [typeLookup_type,builtinLookup_eq_fast];kernel_rfl) (by decide +kernel) (by decide +kernel) (by decide +kernel) (.inl (by decide +kernel)) (by rw [isSubtype_type];kernel_rfl)
theorem bp:entryFor table "dict_keyiterator.__next__" = some Builtin.«dict_keyiterator.__next__» := entryFor_of_tree (by kernel_rfl)
theorem bx (a:Value):argsOk "dict_keyiterator.__next__" ⟨[a],[]⟩:=by unfold argsOk;kernel_rfl
theorem bq {it:Addr} (ty:s.TypeIs (.ref it) "dict_keyiterator") {types:List String} {Q:Bool->Shared->Prop} (q:Q (types.any fun t => [Value.type "dict_keyiterator",Value.type "object"].contains (Value.type t)) s):wpAny (model prog w) A (Builtin.Dict_items.isOneOf (.ref it) types) Q E s:=by
 have hm:=mroOf_keyiter
 unfold Builtin.Dict_items.isOneOf
 wp_walk
 exact q
theorem cI {it d:Addr} {i ep:Nat} {cd:Value} {dd:Option Addr} {sl:Array (Option Value)} {es:Array DictEntry} {e:DictEntry} {Q:Option Value->Shared->Prop} (hi:s.heap.get? it=some (kO d i es.size ep)) (hd:s.heap.get? d=some { cls:=cd,dict:=dd,data := .dict es ep,slots:=sl }) (he:es[i]? = some e)
 (q:∀ h',h'.get? it=some (kO d (i+1) es.size ep)->Heap.SameBut it s.heap h'->Q (some e.key) { s with heap:=h' }):wpAny (model prog w) A (pyNext (.ref it)) Q E s:=by
 have ty:s.TypeIs (.ref it) "dict_keyiterator" := ⟨_,hi,rfl⟩
 unfold pyNext
 refine wpAny_bind (wpAny_attempt (wpAny_callSpecial?_slot (name:=Str.ofString "__next__") ty slot_next (wpAny_call_entry slot_next ty bp ?_ (bx _))))
 unfold Builtin.«dict_keyiterator.__next__»
 have hm:=mroOf_keyiter
 wp_walk
 dsimp only
 rw [if_neg (by simp)]
 simp only [Int.toNat_natCast,he]
 refine wpAny_bind (wpAny_mono (Q:=fun n s'=>n=0/\s'=s) ?_ (fun n s' hs => ?_) fun _ _ z=>z)
 ·wp_walk
  exact ⟨by kernel_rfl,rfl⟩
 obtain ⟨rfl,rfl⟩:=hs
 refine wpAny_bind (bq ty ?_)
 refine wpAny_bind (wpAny_setField_rec hi (by simp) fun h1 j s1 => ?_)
 rw [if_neg (by decide +kernel)] at j
 have j:h1.get? it=some (kO d (i+1) es.size ep):=j
 have B:Shared.TypeIs { s' with heap:=h1 } (.ref it) "dict_keyiterator" := ⟨_,j,rfl⟩
 refine wpAny_bind (wpAny_holding ?_)
 refine wpAny_bind (bq B ?_)
 refine wpAny_ite_true (by decide +kernel) ?_
 refine wpAny_pure (wpAny_pure ⟨_,rfl,wpAny_pure ?_⟩)
 exact q h1 j s1
theorem nx_end {it d:Addr} {ep:Nat} {cd:Value} {dd:Option Addr} {sl:Array (Option Value)} {es:Array DictEntry} {Q:Option Value->Shared->Prop} (j:A.handled=none) (hi:s.heap.get? it=some (kO d es.size es.size ep)) (hd:s.heap.get? d=some { cls:=cd,dict:=dd,data := .dict es ep,slots:=sl })
 (q:∀ h',(∀ b o,b≠it->s.heap.get? b=some o->h'.get? b=some o)->Q none { s with heap:=h' }):wpAny (model prog w) A (pyNext (.ref it)) Q E s:=by
 have ty:s.TypeIs (.ref it) "dict_keyiterator" := ⟨_,hi,rfl⟩
 unfold pyNext
 refine wpAny_bind (wpAny_attempt (wpAny_callSpecial?_slot (name:=Str.ofString "__next__") ty slot_next (wpAny_call_entry slot_next ty bp ?_ (bx _))))
 unfold Builtin.«dict_keyiterator.__next__»
 have hm:=mroOf_keyiter
 wp_walk
 dsimp only
 rw [if_neg (by simp)]
 have he:es[es.size]? = none:=Array.getElem?_eq_none (Nat.le_refl _)
 simp only [Int.toNat_natCast,he]
 refine wpAny_bind (wpAny_mono (Q:=fun n s'=>n=0/\s'=s) ?_ (fun n s' hs => ?_) fun _ _ z=>z)
 ·wp_walk
  exact ⟨by kernel_rfl,rfl⟩
 obtain ⟨rfl,rfl⟩:=hs
 refine wpAny_bind (wpAny_setField_rec hi (by simp) fun h1 B s1 => ?_)
 refine wpAny_bind (m:=newExc (.type "StopIteration") []) ?_
 simp only [newExc,newTuple]
 refine wpAny_bind (wpAny_newObj_type ?_ (by size_fits))
 refine wpAny_bind (m:=firstArgMember _ _) (wpAny_of_eq (a:=Value.none) (by first | rfl | (simp only [firstArgMember];rfl)) (wpAny_newObj_type ?_ (by size_fits)))
 simp only [raiseNew]
 refine wpAny_bind (wpAny_handled ?_)
 first | rw [show A.in1.handled=none from j] | rw [j]
 refine wpAny_bind (wpAny_pure (wpAny_throw ?_))
 exact wpAny_bind (wpAny_isInstance (T := "StopIteration") (b:=true) ⟨_,Heap.get?_push_size _ rfl,rfl⟩ isSubtype_stop (wpAny_pure (q _ fun b o hb e=>Heap.get?_push_of_some _ (Heap.get?_push_of_some _ (s1.extBut b o hb e)))))
theorem yc {d:Addr} {es:Array DictEntry} {ep:Nat} {dd:Option Addr} {sl:Array (Option Value)} {Q:Value->Shared->Prop} (j:(d==sysModules)=false) (hd:s.heap.get? d=some { cls := .type "dict",dict:=dd,data := .dict es ep,slots:=sl })
 (q:Q (.ref s.heap.objs.size) { s with heap:=s.heap.push (kO d 0 es.size ep) }):wpAny (model prog w) A (pyIter (.ref d)) Q E s:=by
 have ty:s.TypeIs (.ref d) "dict" := ⟨_,hd,rfl⟩
 refine wpAny_pyIter_slot ty F.slot_dict_iter (wpAny_call_entry F.slot_dict_iter ty F.entry_dict_iter ?_ (F.args_dict_iter_1 _))
 unfold Builtin.«dict.__iter__»
 wp_walk
 exact ⟨_,rfl, "dict_keyiterator",_,⟨_,Heap.get?_push_size _ rfl,rfl⟩,slot_next.lookup,q⟩
theorem walk (hn:A.handled=none) (it d:Addr) (hne:d≠it) (es:Array DictEntry) (ep:Nat) :
 Walks prog w A it [it,d] [it] es.size (fun i v => ∃ e,es[i]? = some e/\v=e.key) (fun i h=>h.get? it=some (kO d i es.size ep) /\ ∃ cd dd sl,h.get? d=some { cls:=cd,dict:=dd,data := .dict es ep,slots:=sl }) where
 sub:=fun b hb=>by simp at hb;simp [hb]
 frame:=fun _ _ _ st k=>⟨k it (by simp) _ st.1,by obtain ⟨cd,dd,sl,h⟩:=st.2;exact ⟨cd,dd,sl,k d (by simp) _ h⟩⟩
 item:=fun i s Q E hi st q=>by
  obtain ⟨h1,cd,dd,sl,h2⟩:=st
  refine cI (e:=es[i]) h1 h2 (Array.getElem?_eq_getElem hi) fun h' e' s' => ?_
  exact q _ h' s.toks ⟨_,Array.getElem?_eq_getElem hi,rfl⟩ ⟨e',cd,dd,sl,s'.extBut d _ hne h2⟩ fun b o hb x=>s'.extBut b o (fun z=>hb (by simp [z])) x
 done:=fun s Q E st q=>by
  obtain ⟨h1,cd,dd,sl,h2⟩:=st
  exact nx_end hn h1 h2 fun h' k=>q h' s.toks fun b o hb x=>k b o (fun z=>hb (by simp [z])) x
 self:=fun i s Q E st q=>wpAny_pyIter_keyiter ⟨_,st.1,rfl,rfl⟩ q
theorem rY {d:Addr} {Q:Bool->Shared->Prop} (ty:s.TypeIs (.ref d) "dict") (q:Q false s):wpAny (model prog w) A (Builtin.List.listLengthHint (.ref d)) Q E s:=by
 unfold Builtin.List.listLengthHint
 refine wpAny_bind (wpAny_specialOf ty F.slot_dict_len.lookup ?_)
 generalize j:("dict.__len__":String)=n
 (fail_if_success (clear j n));wp_delta
 rw [show splitId n=some ("dict", "__len__") from by subst j;decide +kernel]
 subst j
 refine wpAny_bind (wpAny_isInstance (b:=true) ty (by rw [isSubtype_type];kernel_rfl) ?_)
 rw [if_neg (by decide)]
 refine wpAny_ite_true (by decide +kernel) ?_
 refine wpAny_bind (wpAny_typeOf ty ?_)
 exact wpAny_pure q
open Builtin.List in
theorem uT (hn:A.handled=none) {S d:Addr} {es:Array DictEntry} {ep c:Nat} {dd:Option Addr} {sl:Array (Option Value)} {R:Result->Shared->Prop} (res:Value) (O:(d==sysModules)=false) (hd:s.heap.get? d=some { cls := .type "dict",dict:=dd,data := .dict es ep,slots:=sl }) (L:s.heap.get? S=some { cls := .type "list",data := .seq #[] c }) (hz:es.size<=sizeLine)
 (q:∀ (h':Heap) (tk:Nat) (acc':Array Value) (c':Nat),(∀ b o,b≠S->s.heap.get? b=some o->h'.get? b=some o)->h'.get? S=some { cls := .type "list",data := .seq acc' c' }->acc'.toList=es.toList.map (·.key)->s.toks<=tk->R (.ok (.ret res)) { s with heap:=h',toks:=tk }) :
 wpAny (model prog w) A.in1 (listExtendWith (.ref S) (.ref d) res) (fun fin s'=>match fin with | .done f=>R (.ok f) s' | .again c'=>c'.quiet=true/\codeAny (model prog w) A c' R s') (fun e s'=>R (.error e) s') s:=by
 have ty:s.TypeIs (.ref d) "dict" := ⟨_,hd,rfl⟩
 have B:S≠d:=fun e=>by rw [e,hd] at L;simp at L
 have h1:listSameRef (.ref S) (.ref d)=false:=by simp [listSameRef,B]
 unfold listExtendWith
 refine wpAny_bind (wpAny_typeOf ty ?_)
 rw [if_neg (by rw [h1];decide)]
 refine wpAny_bind (yc O hd ?_)
 refine wpAny_bind (wpAny_holding (rY (s := { s with heap:=s.heap.push (kO d 0 es.size ep) }) ⟨_,Heap.get?_push_of_some _ hd,rfl⟩ ?_))
 have n:=Heap.lt_size L
 have G:=Heap.lt_size hd
 have W:=(walk (prog:=prog) (w:=w) (A:=A.in1) hn s.heap.objs.size d (Nat.ne_of_lt G) es ep).toS
 have U:S∉[s.heap.objs.size,d]:=fun hm=>by
  simp only [List.mem_cons,List.not_mem_nil,or_false] at hm
  rcases hm with e | e
  ·exact absurd (e ▸ n) (Nat.lt_irrefl _)
  ·exact B e
 refine wpAny_ite_true (by decide +kernel) ?_
 refine wpAny_bind (wpAny_rule ?_)
 unfold listTouch
 have I:(s.heap.push (kO d 0 es.size ep)).get? S=some (seqObj "list" #[] c):=Heap.get?_push_of_some _ L
 refine wpAny_bind (wpAny_bind (listUpdate_at I rfl ?_ (by simp) (by simp)))
 have J:=get?_update_seq I (fun x=>x.push Value.none)
 refine listUpdate_at J rfl ?_ (by simp;decide) (by simp)
 have Y:=get?_update_seq J (fun x=>x.pop)
 have oth:∀ b o,b≠S->s.heap.get? b=some o->(((s.heap.push (kO d 0 es.size ep)).update S (Obj.mapSeq fun x=>x.push Value.none)).update S (Obj.mapSeq fun x=>x.pop)).get? b=some o:=fun b o hb e=>by
  rw [Heap.get?_update_ne _ _ _ _ hb,Heap.get?_update_ne _ _ _ _ hb]
  exact Heap.get?_push_of_some _ e
 have hit:(((s.heap.push (kO d 0 es.size ep)).update S (Obj.mapSeq fun x=>x.push Value.none)).update S (Obj.mapSeq fun x=>x.pop)).get? s.heap.objs.size=some (kO d 0 es.size ep):=by
  rw [Heap.get?_update_ne _ _ _ _ (Nat.ne_of_gt n),Heap.get?_update_ne _ _ _ _ (Nat.ne_of_gt n)]
  exact Heap.get?_push_size _ rfl
 refine wpAny_pure ⟨plainId_quiet F.plain_extend_loop _,codeAny_extend_loopS W hz _ U _ es.size 0 _ _ _ rfl (Nat.zero_le _) ⟨hit,_,_,_,oth d _ B.symm hd⟩ Y (ItemsOf.nil _) fun s' acc c' hm Z ha => ?_⟩
 rw [hm.eq_with]
 refine q _ _ acc c' (fun b o hb e => ?_) Z ?_ hm.toks
 ·exact hm.heap b o (fun z=>by
   simp only [List.mem_cons,List.not_mem_nil,or_false] at z
   rcases z with z | z
   ·exact hb z
   ·exact absurd (z ▸ Heap.lt_size e) (Nat.lt_irrefl _)) (oth b o hb e)
 ·obtain ⟨g1,g2⟩:=ha
  apply List.ext_getElem?
  intro j
  rw [Array.getElem?_toList,List.getElem?_map,Array.getElem?_toList]
  by_cases hj:j < es.size
  ·obtain ⟨e,he,hv⟩:=g2 j (acc[j]'(by lia)) (Array.getElem?_eq_getElem (by lia))
   rw [Array.getElem?_eq_getElem (by lia),hv,he];rfl
  ·rw [Array.getElem?_eq_none (by lia),Array.getElem?_eq_none (by lia)];rfl
theorem collect_dict (G:A.handled=none) {d:Addr} {es:Array DictEntry} {ep:Nat} {dd:Option Addr} {sl:Array (Option Value)} {Q:List Value->Shared->Prop} (j:(d==sysModules)=false) (hd:s.heap.get? d=some { cls := .type "dict",dict:=dd,data := .dict es ep,slots:=sl }) (I:es.size<=sizeLine)
 (q:∀ (h':Heap) (tk:Nat),(∀ b o,s.heap.get? b=some o->h'.get? b=some o)->s.toks<=tk->Q (es.toList.map (·.key)) { s with heap:=h',toks:=tk }):wpAny (model prog w) A (collect (.ref d)) Q E s:=by
 unfold collect
 refine wpAny_bind (wpAny_runValue (codeAny_builtin F.entry_proto_collect ?_))
 unfold Builtin.«proto.collect»
 dsimp only
 refine wpAny_bind (wpAny_newList ?_ (by simp))
 refine wpAny_pure ⟨Code.quiet_builtin _ (by decide +kernel), ?_⟩
 refine codeAny_builtin entry_list_iadd' ?_
 unfold Builtin.«list.__iadd__»
 refine wpAny_bind (wpAny_of_eq (a:=(Value.ref s.heap.objs.size,[Value.ref d])) (by kernel_rfl) ?_)
 have n:(s.heap.push { cls:=Value.type "list",data:=Data.seq [].toArray }).get? s.heap.objs.size=some { cls:=Value.type "list",data:=Data.seq #[] 0 }:=Heap.get?_push_size _ rfl
 rw [Around.under_plain (by rfl) (by rfl)]
 refine wpAny_mono (uT (s := { s with heap:=s.heap.push { cls:=Value.type "list",data:=Data.seq [].toArray } }) (R:=fun r s'=>r = .ok (.ret (.ref s.heap.objs.size))/\wpAny (model prog w) A (do
  let o <- load s.heap.objs.size
  match o.data with
  | .seq xs _=>pure xs.toList
  | _=>unsupported "internal:collect") Q E s') G (Value.ref s.heap.objs.size) j (Heap.get?_push_of_some _ hd) n I fun h' tk acc c' kp z J B=>⟨rfl, ?_⟩) (fun fn s' h => ?_) (fun e s' h => ?_)
 ·refine wpAny_bind (wpAny_load z ?_)
  refine wpAny_pure ?_
  rw [J]
  exact q h' tk (fun b o e=>kp b o (Nat.ne_of_lt (Heap.lt_size e)) (Heap.get?_push_of_some _ e)) B
 ·cases fn with
  | done f =>
    obtain ⟨e,h⟩:=h
    cases e
    exact h
  | again c' =>
    refine ⟨h.1,codeAny_mono h.2 fun r s1 hr => ?_⟩
    obtain ⟨rfl,hr⟩:=hr
    exact hr
 ·cases h.1
end
end Dk
end L2
namespace L2
namespace Mi
open PySem PySem.Spec PyProof.Rows L2.Srt
noncomputable def mq:RAd:=fun ds M Q => ∃ a t kvs sh,ds=[.ref a]/\M a=some (.dct t kvs)/\eF sh=true/\(∀ kv∈kvs,hs sh kv.1=true) /\ ∀ p ys,M p=none->ys.Perm (kvs.map (·.1))->cy ys->Q (.ref p) (af M p (.lst ys))
theorem iM:aV mq:=fun _ _ _ _ h ⟨a,t,kvs,sh,e,j,z,B,q⟩=>⟨a,t,kvs,sh,e,j,z,B,fun p ys n F hs=>h _ _ (q p ys n F hs)⟩
theorem nY {K:Frag} {H:Hp}:∀ {kvs:List (D×D)} {es:List DictEntry},Paired (gH K H) kvs es -> ∃ vs,RDs K H (kvs.map (·.1)) vs/\Vals vs (es.map (·.key))
 | _,_, .nil=>⟨[],RDs.nil, .nil⟩
 | _,_, .cons r t=>by
   obtain ⟨vs,h1,h2⟩:=nY t
   obtain ⟨kV,vV,g1,g2,_,_⟩:=r
   exact ⟨kV::vs,RDs.cons g1 h1, .cons g2 h2⟩
section
variable {X:Cx}
theorem mv (J:X.A.units+16 < cLine) (L:X.calm=true):CallR X (.builtin "sorted") (lR X.K mq):=by
 intro pins s σ H xs us Q I r h
 obtain ⟨ds,M,rm,rs,a,t,kvs,sh,rfl,e,hok,j,q⟩:=h
 obtain ⟨v,rfl,rv⟩:=rs.one
 obtain ⟨u,rfl,ru⟩:=dl r
 cases RD.ref_iff.mp rv
 cases (show u=Value.ref a from ru)
 obtain ⟨cd,dd,sl,es,ep,hd,O,n,S⟩:=nX I rm e
 obtain ⟨t1,Z,z⟩:=eY I S
 obtain ⟨vs,h1,h2⟩:=nY n
 have B:cd = .type "dict" := by
  obtain ⟨o,g1,g2⟩:=t1
  rw [hd] at g1;cases g1;exact g2
 subst B
 have U:X.A.in1.handled=none:=I.ok.hd L
 exact dF J I rm h1 hok (fun d hd=>by
  obtain ⟨kv,F,rfl⟩:=List.mem_map.mp hd
  exact j kv F) q h2 (by have:=h2.length;rw [List.length_map] at this;simp at this;lia) fun E R Y=>Dk.collect_dict U z hd O fun h' tk kp G=>Y h' tk kp G
end
end Mi
end L2
namespace L2
open PySem PySem.Spec PyProof.Rows
namespace Mi
end Mi
end L2
namespace L2
namespace Mi
open PySem PySem.Spec PyProof.Rows
end Mi
end L2
namespace L2
open PySem PySem.Spec PyProof.Rows
section
section
variable {X:Cx} {pins:List (Addr×Obj)} {σ:St} {H:Hp} {s:Shared}
theorem Inv.freeze (I:Inv X pins σ H s) {a:Addr} {ps:List (List Key×V)} (e:H a=some (.dT ps)):∃ o,Inv X pins σ (upd H a (.frz o (.dT ps))) s:=by
 obtain ⟨hl,j,xs,pr,o,es,ep,h1,h2,n,B,F⟩:=id (I.hok a _ e)
 have mu:Mut (H a):=by rw [e];exact True.intro
 have u:Un X.fs [] H (upd H a (.frz o (.dT ps))) s.heap s.heap:=Un.write mu (.inl rfl) (fun b u _ q=>q) ⟨_,h1⟩
 have ok:HOk X.prog X.w (upd H a (.frz o (.dT ps))) s.heap:=HOk.write I.hok mu (.inl rfl) (fun b u _ q=>q) ⟨_,h1⟩
  ⟨h1,(I.hok a _ e).stay (fun b u _ q=>q) (fun b q=>by rw [aj (fun z=>by subst z;rw [e] at q;cases q)];exact q) (fun b xs q=>by rw [aj (fun z=>by subst z;rw [e] at q;cases q)];exact q)⟩
 exact ⟨o,I.un (t':=s.toks) u ok⟩
end
namespace Mi
section
variable {X:Cx}
noncomputable def pR (i:Nat) (t:TSd):TSd:=fun A ρ M => ∃ a kvs, ρ[i]? = some (some (.ref a))/\((M a=some (.dct true kvs)/\t A ρ (af M a (.fdc kvs)))∨(M a=some (.fdc kvs)/\t A ρ M))
theorem uU {i:Nat} {t:TSd} (h:aE t):aE (pR i t):=fun a b ρ M l ⟨p,kvs,e,q⟩=>⟨p,kvs,e,q.imp (fun q=>⟨q.1,h _ _ _ _ l q.2⟩) fun q=>⟨q.1,h _ _ _ _ l q.2⟩⟩
theorem A0 {st:Stmt} {i:Nat} {t:TSd} (h:PS X st (lS X.K t)):PS X st (lS X.K (pR i t)):=by
 intro pins s σ H D I ⟨ρ,M,A,rs,rm,lk,a,kvs,e,q⟩
 rcases q with ⟨m,q⟩ | ⟨m,q⟩
 ·obtain ⟨ps,j,pr⟩:=rm a _ m
  obtain ⟨o,I'⟩:=I.freeze j
  have sb:Stab H (upd H a (.frz o (.dT ps))):=rm.stabPut m
  exact h pins s σ _ D I' ⟨ρ,af M a (.fdc kvs),A,rs.mono sb,rm.put m ⟨o,ps,ar,Paired.mapP pr fun _ _ z=>⟨z.1,z.2.mono sb⟩⟩,lk.ext (Ext.put m),q⟩
 ·exact h pins s σ H D I ⟨ρ,M,A,rs,rm,lk,q⟩
end
end Mi
end
end L2
namespace L2
open PySem PySem.Spec PyProof.Rows
namespace Mi
end Mi
end L2
namespace L2
namespace Mi
open PySem PySem.Spec PyProof.Rows
end Mi
end L2
namespace L2
open PySem PySem.Spec PyProof.Rows
namespace Mi
end Mi
end L2
namespace L2
namespace Mi
open PySem PySem.Spec PyProof.Rows
section
section
variable {X:Cx}
noncomputable def uV (neg:Bool):R2d:=fun k x M Q => ∃ a t kvs,x = .ref a/\M a=some (.dct t kvs)/\dm t k=true/\Q (.bl (if neg then !(dget kvs k).isSome else (dget kvs k).isSome)) M
theorem uW {neg:Bool}:al (uV neg):=fun _ _ _ _ _ h ⟨a,t,kvs,j,n,z,q⟩=>⟨a,t,kvs,j,n,z,h _ _ q⟩
theorem A1 {K:Frag} {M:Mem} {H:Hp} {a:Addr} {t:Bool} {kvs:List (D×D)} {k:D} {v:V} (rm:RM K M H) (e:M a=some (.dct t kvs)) (ok:dm t k=true) (rk:RD K H k v):∃ o,DGet H a v o/\o.isSome=(dget kvs k).isSome:=by
 obtain ⟨o,g,g1,g2⟩:=ja rm e ok rk
 refine ⟨o,g, ?_⟩
 cases h:dget kvs k with
 | none=>rw [g2 h];rfl
 | some d=>obtain ⟨w,rfl,_⟩:=g1 d h;rfl
theorem rZ (j:X.A.units+1 < cLine):OpR X (compareOp .NotIn) (l2 X.K (uV true)):=by
 intro pins s σ H y x u v Q I ry rx h
 obtain ⟨dk,dx,M,rm,rk,rd,a,t,kvs,rfl,e,ok,q⟩:=h
 cases RD.ref_iff.mp rd
 cases rx
 obtain ⟨o,g,ho⟩:=A1 rm e ok rk
 exact xc j I g ry fun s' I'=>⟨.bl (!o.isSome),H,I',rfl,by rw [ho];exact q _ H Ext.refl rm (RD.bl_iff.mpr rfl)⟩
end
end
end Mi
end L2
namespace L2
namespace It
open PySem PySem.Spec PyProof.Rows
section
variable {prog:Program} {w:World} {A:Around} {E:Value->Shared->Prop} {s:Shared}
theorem uX {it d:Addr} {i n ep:Nat} {k v ok ov:Value} {Q:Value->Shared->Prop} (hi:s.heap.get? it=some (iO .none false d i n ep ok ov))
 (q:∀ h',h'.get? it=some (iO (rawInt s.heap.objs.size) false d i n ep k v)->h'.get? s.heap.objs.size=some { cls := .type "tuple",data := .seq #[k,v] }->(∀ b o,b≠it->s.heap.get? b=some o->h'.get? b=some o)->Q (.ref s.heap.objs.size) { s with heap:=h' }):wpAny (model prog w) A (Builtin.Dict_items.pairFromOwner (.ref it) 6 k v) Q E s:=by
 unfold Builtin.Dict_items.pairFromOwner
 refine wpAny_bind (wpAny_newTuple ?_ (by size_fits))
 have z:=Heap.lt_size hi
 have j:=Heap.get?_push_of_some ({ cls := .type "tuple",data := .seq [k,v].toArray }) hi
 unfold Builtin.Dict_items.ownedTupleIsFree
 refine wpAny_bind (wpAny_bind (wpAny_field j rfl (x := .none) rfl (wpAny_pure ?_)))
 dsimp only
 rw [if_pos rfl]
 refine wpAny_bind (wpAny_field j rfl (x:=ok) rfl ?_)
 refine wpAny_bind (wpAny_field j rfl (x:=ov) rfl ?_)
 refine wpAny_bind (wpAny_setField_rec j (by simp) fun h1 F s1 => ?_)
 refine wpAny_bind (wpAny_setField_rec F (by simp) fun h2 G s2 => ?_)
 refine wpAny_bind (wpAny_setField_rec G (by simp) fun L I s3 => ?_)
 refine wpAny_bind (wpAny_setField_rec I (by simp) fun B J s4 => ?_)
 refine wpAny_bind (wpAny_letGo ?_)
 have kp:∀ b o,b≠it->(s.heap.push { cls := .type "tuple",data := .seq [k,v].toArray }).get? b=some o->B.get? b=some o:=fun b o hb e=>s4.extBut b o hb (s3.extBut b o hb (s2.extBut b o hb (s1.extBut b o hb e)))
 refine wpAny_pure (q B J (kp _ _ (Nat.ne_of_gt z) (Heap.get?_push_size _ rfl)) fun b o hb e=>kp b o hb (Heap.get?_push_of_some _ e))
theorem nx_any {it d:Addr} {i ep:Nat} {cd ok ov:Value} {dd:Option Addr} {sl:Array (Option Value)} {es:Array DictEntry} {e:DictEntry} {Q:Option Value->Shared->Prop} (hi:s.heap.get? it=some (iO .none false d i es.size ep ok ov)) (hd:s.heap.get? d=some { cls:=cd,dict:=dd,data := .dict es ep,slots:=sl }) (he:es[i]? = some e)
 (q:∀ h',h'.get? it=some (iO (rawInt s.heap.objs.size) false d (i+1) es.size ep e.key e.val)->h'.get? s.heap.objs.size=some { cls := .type "tuple",data := .seq #[e.key,e.val] }->(∀ b o,b≠it->s.heap.get? b=some o->h'.get? b=some o)->Q (some (.ref s.heap.objs.size)) { s with heap:=h' }):wpAny (model prog w) A (pyNext (.ref it)) Q E s:=by
 have ty:s.TypeIs (.ref it) "dict_itemiterator" := ⟨_,hi,rfl⟩
 unfold pyNext
 refine wpAny_bind (wpAny_attempt (wpAny_callSpecial?_slot (name:=Str.ofString "__next__") ty slot_next (wpAny_call_entry slot_next ty bp ?_ (bx _))))
 unfold Builtin.«dict_itemiterator.__next__»
 have hm:=fx
 wp_walk
 dsimp only
 rw [if_neg (by simp)]
 wp_walk
 simp only [Int.toNat_natCast,he]
 refine wpAny_bind (wpAny_mono (Q:=fun n s'=>n=2/\s'=s) ?_ (fun n s' hs => ?_) fun _ _ z=>z)
 ·wp_walk
  exact ⟨by kernel_rfl,rfl⟩
 obtain ⟨rfl,rfl⟩:=hs
 refine wpAny_bind (bq ty ?_)
 refine wpAny_bind (wpAny_setField_rec hi (by simp) fun h1 j s1 => ?_)
 refine wpAny_bind (wpAny_holding ?_)
 have B:Shared.TypeIs { s' with heap:=h1 } (.ref it) "dict_itemiterator" := ⟨_,j,rfl⟩
 refine wpAny_bind (bq B ?_)
 rw [if_neg (by decide +kernel)] at j
 have j:h1.get? it=some (iO .none false d (i+1) es.size ep ok ov):=j
 have hsz:h1.objs.size=s'.heap.objs.size:=s1.1
 refine wpAny_ite_false (by decide +kernel) ?_
 refine wpAny_bind (bq B ?_)
 refine wpAny_ite_false (by decide +kernel) ?_
 refine uX (s := { s' with heap:=h1 }) j fun h2 F G I => ?_
 refine wpAny_pure ⟨_,rfl,wpAny_pure ?_⟩
 dsimp only at F G ⊢
 rw [hsz] at F G ⊢
 exact q h2 F G fun b o hb e=>I b o hb (s1.extBut b o hb e)
theorem jY:Slot "dict_itemiterator" "__iter__" "dict_itemiterator.__iter__" := .of (owner := "dict_itemiterator") (n := "__iter__") (by rw [typeLookup_type,builtinLookup_eq_fast];kernel_rfl) (by decide +kernel) (by decide +kernel) (by decide +kernel) (.inl (by decide +kernel)) (by rw [isSubtype_type];kernel_rfl)
theorem pS:entryFor table "dict_itemiterator.__iter__" = some Builtin.«dict_keyiterator.__iter__» :=
 entryFor_alias (id' := "dict_keyiterator.__iter__") (by kernel_rfl) (by first | rfl | decide +kernel | (unfold String.splitOn;simp +decide [String.splitOnAux])) (by decide +kernel) (by kernel_rfl)
theorem s9 (a:Value):argsOk "dict_itemiterator.__iter__" ⟨[a],[]⟩:=by unfold argsOk;kernel_rfl
theorem it_self {it:Addr} {f0 ok ov:Value} {b:Bool} {d:Addr} {i n ep:Nat} {Q:Value->Shared->Prop} (hi:s.heap.get? it=some (iO f0 b d i n ep ok ov)) (h:Q (.ref it) s):wpAny (model prog w) A (pyIter (.ref it)) Q E s:=by
 have ty:s.TypeIs (.ref it) "dict_itemiterator" := ⟨_,hi,rfl⟩
 refine wpAny_pyIter_slot ty jY (wpAny_call_entry jY ty pS ?_ (s9 _))
 exact wpAny_pure ⟨_,rfl, "dict_itemiterator",_,ty,slot_next.lookup,h⟩
end
end It
open PySem PySem.Spec PyProof.Rows
noncomputable def Itp (n:Nat) (G:Hp->Prop) (yl:Nat->V->V->Hp->Prop):It:=⟨fun i H=>i < n/\G H,fun i H x H' => ∃ p u v,H p=none/\x = .ref p/\H'=upd H p (.tup [u,v])/\yl i u v H,fun i H=>n<=i/\G H⟩
theorem pT {P:Program} {w:World} {K:Frag} {elts:List Expr} {cx} {pos:Pos} (a it:Addr) {cd:Value} {dd:Option Addr} {sl:Array (Option Value)} {es:Array DictEntry} {ep:Nat} {G:Hp->Prop} {yl:Nat->V->V->Hp->Prop}
 (L:∀ H,G H -> ∃ u,H a=some (.frz { cls:=cd,dict:=dd,data := .dict es ep,slots:=sl } u)) (O:∀ i H h,HOk P w H h->G H -> ∀ e,es[i]? = some e -> ∃ u v,RelV u e.key/\RelV v e.val/\yl i u v H) :
 eS P w K (.Tuple elts cx pos) (Itp es.size G yl) [it] it (fun i h=>i<=es.size /\ ∃ ok ov,h.get? it=some (It.iO .none false a i es.size ep ok ov)) where
 mem:=by simp
 obj:=fun i h st b hb=>by
  have e:b=it:=by simpa using hb
  subst e
  obtain ⟨_,ok,ov,e⟩:=st
  exact ⟨_,e,fun v z=>by cases z⟩
 keep:=fun i h h' st k=>by
  obtain ⟨h1,ok,ov,e⟩:=st
  exact ⟨h1,ok,ov,k it (by simp) _ e⟩
 item:=by
  intro X B hw F j i pins s σ H E I hf st q
  subst B hw F
  obtain ⟨hi,q⟩:=q
  obtain ⟨_,ok,ov,st⟩:=st
  obtain ⟨u',J⟩:=L H q
  obtain ⟨u,v,ru,rv,yx⟩:=O i H s.heap I.hok q es[i] (Array.getElem?_eq_getElem hi)
  refine It.nx_any (e:=es[i]) st (I.hok a _ J).1 (Array.getElem?_eq_getElem hi) fun h1 R S U=>⟨_,rfl, ?_⟩
  refine wpAny_letOwnedTupleGo_items (s := { s with heap:=h1 }) R fun h2 Y s2 => ?_
  have lt:∀ {c o},s.heap.get? c=some o->c≠s.heap.objs.size:=fun e=>Nat.ne_of_lt (Heap.lt_size e)
  have nz:s.heap.objs.size≠it:=(lt st).symm
  have up:∀ c o,c≠it->h1.get? c=some o->h2.get? c=some o:=fun c o n e=>s2.extBut _ _ n e
  have IL:Inv X pins σ (upd H s.heap.objs.size (.tup [u,v])) { s with heap:=s.heap.push { cls := .type "tuple",data := .seq #[es[i].key,es[i].val] } } :=
   I.laid (t':=s.toks) (fun b o e=>Heap.get?_push_of_some _ e) (Nat.le_refl _) ⟨by rw [sizeLine_eq];simp,[es[i].key,es[i].val], .cons ru (.cons rv .nil),IsTup.new _ _⟩
  have un:∀ c∈[it],upd H s.heap.objs.size (.tup [u,v]) c=none:=fun c j=>by
   have e:c=it:=by simpa using j
   rw [e,aj nz.symm];exact (hf it (by simp)).1
  have kk:∀ c o,c∉[it]->(s.heap.push { cls := .type "tuple",data := .seq #[es[i].key,es[i].val] }).get? c=some o->h2.get? c=some o:=fun c o j e=>by
   simp only [List.mem_cons,List.not_mem_nil,or_false] at j
   rcases Heap.get?_push_cases e with ⟨rfl,rfl⟩ | e
   ·exact up _ _ nz S
   ·exact up _ _ j (U c o j e)
  have Z:Inv X pins σ (upd H s.heap.objs.size (.tup [u,v])) { s with heap:=h2 } :=
   Inv.turnedL (s := { s with heap:=s.heap.push { cls := .type "tuple",data := .seq #[es[i].key,es[i].val] } }) (h':=h2) (t':=s.toks) (fp := [it]) IL (fun c j=>⟨un c j,(hf c j).2⟩) kk
  exact ⟨.ref s.heap.objs.size,_,Z,rfl,⟨_,u,v,I.hok.fresh (Nat.le_refl _),rfl,rfl,yx⟩,⟨hi,_,_,Y⟩,un⟩
 done:=by
  intro X B hw F j i pins s σ H E I hf st q
  subst B hw F
  obtain ⟨hi,q⟩:=q
  obtain ⟨h0,ok,ov,st⟩:=st
  obtain ⟨u,J⟩:=L H q
  obtain ⟨f0,f1,f2,f3,f4,f5⟩:=hf it (by simp)
  have e:i=es.size:=by lia
  subst e
  exact It.nx_end (I.ok.hd j) st (I.hok a _ J).1 fun h' k=>⟨rfl,I.turned (t':=s.toks) (fun b o hb e=>k b o hb e) f0 f1 f3 f4 f5⟩
 self:=fun A i s Q E st h=>by
  obtain ⟨_,ok,ov,e⟩:=st
  exact It.it_self e h
namespace Mi
section
variable {X:Cx}
noncomputable def fA (ta:TEd):TId:=fun ρ M R=>ta ρ M fun x M1 => ∃ a kvs,x = .ref a/\M1 a=some (.fdc kvs)/\R (kvs.map kvD) (fun _=>True) M1
theorem pU {ta:TEd} (h:ab ta):bJ (fA ta):=fun ρ M Q Q' i q=>h _ _ _ _ (fun x z ⟨a,ds,e,j,n⟩=>⟨a,ds,e,j,i _ _ _ n⟩) q
theorem mw {K:Frag} {H:Hp}:∀ {kvs:List (D×D)} {es:List DictEntry},Paired (gH K H) kvs es -> ∀ (i:Nat) (e:DictEntry),es[i]? = some e -> ∃ (kv:D×D) (u v:V),kvs[i]? = some kv/\RD K H kv.1 u/\RelV u e.key/\RD K H kv.2 v/\RelV v e.val
 | _,_, .nil,_,_,h=>by simp at h
 | _,_, .cons r t,0,_,h=>by
   simp at h;subst h
   obtain ⟨kV,vV,g1,g2,g3,j⟩:=r
   exact ⟨_,kV,vV,rfl,g1,g2,g3,j⟩
 | _,_, .cons _ t,i+1,e,h=>by
   obtain ⟨kv,u,v,h1,h2⟩:=mw t i e (by simpa using h)
   exact ⟨kv,u,v,by simpa using h1,h2⟩
theorem uY {elts:List Expr} {cx} {tpos:Pos} {e:Expr} {ta:TEd} {apos cpos:Pos} (m:ab ta) (he:PE X e (lE X.K ta)) (B:attributeBase e "items" X.env (eval e X.env)=eval e X.env) (L:(apos.endLine==cpos.line)=true) :
 PI X (.Tuple elts cx tpos) (.Call (.Attribute e "items" apos) [] [] cpos) (lI X.K (fA ta)):=by
 intro pins s σ H R I h
 obtain ⟨ρ,M,rs,rm,q⟩:=h
 have hq:lE X.K ta σ H (fun v H1 => ∃ a kvs O,v = .ref a/\Ext M H O H1/\RM X.K O H1/\O a=some (.fdc kvs) /\ ∀ J,fe X.K H1 (kvs.map kvD) (fun _=>True) J->R J H1) :=
  ⟨ρ,M,rs,rm,m _ _ _ _ (fun x O ⟨a,kvs,e,Z,q1⟩ v H1 x1 j rd1=>by
    subst e
    cases RD.ref_iff.mp rd1
    exact ⟨a,kvs,O,rfl,x1,j,Z,fun J ij=>q1 J H1 x1 j ij⟩) q⟩
 refine wpAny_Call_method0_late B L (thn (he pins s σ H _ I hq) fun u s1 ⟨x,H1,I1,r1,a,kvs,O,e0,x1,j,Z,q1⟩ => ?_)
 subst e0
 obtain rfl:u=Value.ref a:=r1
 obtain ⟨o,ps,hp,pr⟩:=j _ _ Z
 obtain ⟨Y,ok⟩:=I1.hok a _ hp
 obtain ⟨cd,dd,sl,es,ep,g1,g2,g3⟩:=mj ok pr
 obtain ⟨ty,t2,BP⟩:=eY I1 (.inr ⟨ps, .inr ⟨o,hp⟩⟩)
 rw [Y] at g1
 cases g1
 have BQ:cd = .type "dict" := by
  obtain ⟨o,h1,h2⟩:=ty
  rw [Y] at h1;cases h1;exact h2
 subst BQ
 have lz:kvs.length=es.size:=by have:=bg g3;simpa using this
 refine ⟨"dict", "dict.items",F.plainAttrs_dict,F.slot_dict_items,F.type_dict_items,ty,t2,Calls.callWith_builtin rfl (PySem.evalArgs_none ?_)⟩
 refine jX ty BP Y ?_
 have kpv:∀ b o,s1.heap.get? b=some o->(s1.heap.push { cls:=Value.type "dict_items",data:=Data.fields #[Value.ref a] }).get? b=some o:=fun b o e=>Heap.get?_push_of_some _ e
 have I2:Inv X pins σ H1 { s1 with heap:=s1.heap.push { cls:=Value.type "dict_items",data:=Data.fields #[Value.ref a] } }:=I1.kept (t':=s1.toks) kpv
 refine It.it_view (s := { s1 with heap:=s1.heap.push { cls:=Value.type "dict_items",data:=Data.fields #[Value.ref a] } }) (Heap.get?_push_size _ rfl) (kpv _ _ Y) ?_
 refine ⟨_,_,_,_,H1,rfl,I2.kept (t':=s1.toks) fun b o e=>Heap.get?_push_of_some _ e,pT (G:=fun H=>H a=some (.frz { cls := .type "dict",dict:=dd,data := .dict es ep,slots:=sl } (.dT ps))/\Paired (fun (p:D×D) (q:List Key×V)=>RKeys p.1 q.1/\RD X.K H p.2 q.2) kvs ps) (yl:=fun i u v H => ∃ kv,kvs[i]? = some kv/\RD X.K H kv.1 u/\RD X.K H kv.2 v) a _ (fun H h=>⟨_,h.1⟩) (fun i H h hok ⟨ha,pr'⟩ e he => ?_),⟨Nat.zero_le _,_,_,Heap.get?_push_size _ rfl⟩,fun b hb => ?_,q1 _ ?_⟩
 ·obtain ⟨z0,ok'⟩:=hok a _ ha
  obtain ⟨cd,dd,sl',es',ep',z1,_,z3⟩:=mj ok' pr'
  rw [z0] at z1
  cases z1
  obtain ⟨kv,u,v,y1,y2,y3,y4,y5⟩:=mw z3 i e (by simpa using he)
  exact ⟨u,v,y3,y5,kv,y1,y2,y4⟩
 ·have e:b=(s1.heap.push { cls:=Value.type "dict_items",data:=Data.fields #[Value.ref a] }).objs.size:=by simpa using hb
  subst e
  exact I2.fpOk (Nat.le_refl _) (I2.hok.fresh (Nat.le_refl _))
 ·intro M' H' st rm' _ i
  have S:=st.frz _ _ _ hp
  have pr':Paired (fun (p:D×D) (q:List Key×V)=>RKeys p.1 q.1/\RD X.K H' p.2 q.2) kvs ps:=Paired.mapP pr fun _ _ z=>⟨z.1,z.2.mono st⟩
  rw [List.length_map,lz]
  refine ⟨fun hi=>⟨hi,S,pr'⟩,fun hi=>⟨⟨hi,S,pr'⟩,fun x H'' y => ?_⟩⟩
  obtain ⟨p,u,v,n,e,e2,kv,y1,y2,y3⟩:=y
  subst e e2
  have U:Stab H' (upd H' p (.tup [u,v])):=(Ext.new' (M:=M') n).stab rm'
  exact ⟨.inr ⟨p,[u,v],n,rfl⟩,kvD kv,by rw [List.getElem?_map,y1];rfl,RD.tup_iff.mpr ⟨p,[u,v],rfl,ar,RDs.cons (y2.mono U) (RDs.cons (y3.mono U) RDs.nil)⟩⟩
end
end Mi
end L2
namespace L2
open PySem PySem.Spec PyProof.Rows
namespace Mi
end Mi
end L2
namespace L2
open PySem PySem.Spec PyProof.Rows
namespace Mi
open L2.Srt
end Mi
end L2
namespace L2
open PySem PySem.Spec PyProof.Rows
section
section
variable {X:Cx} {pins:List (Addr×Obj)} {σ:St} {H:Hp}
noncomputable def PrI (H:Hp) (v:V) (kv:Key×V):Prop := ∃ t,v = .ref t/\H t=some (.tup [kV kv.1,kv.2])
noncomputable abbrev bM (kvs:List (Key×V)):List (Key×V):=kvs.foldl (fun a kv=>b8 a kv.1 kv.2) []
theorem sd (kvs:List (Key×V)):(bM kvs).length<=kvs.length:=by
 have g:∀ (r:List (Key×V)) (a:List (Key×V)),(r.foldl (fun a kv=>b8 a kv.1 kv.2) a).length<=a.length+r.length:=by
  intro r
  induction r with
  | nil=>intro a;simp
  | cons x r ih =>
    intro a
    have h1:=ih (b8 a x.1 x.2)
    have h2:=cg a x.1 x.2
    simp only [List.foldl_cons,List.length_cons]
    lia
 have:=g kvs []
 simpa using this
theorem yd {A:Around} (hu:A.units+1 < cLine) (hn:A.handled=none) {l it p:Addr} {vs:List V} {kvs:List (Key×V)} (hp:H p=none) (hl:H l=some (.lst vs)) (B:Paired (PrI H) vs kvs) (hz:vs.length < sizeLine) {R:Result->Shared->Prop} (hf:bF X pins H it) (j:it≠p) :
 ∀ (k i:Nat) (s:Shared),vs.length - i=k->i<=vs.length->Inv X pins σ (upd H p (.dK (bM (kvs.take i)))) s->s.heap.IsListIter it l i ->
  (∀ s',Inv X pins σ (upd H p (.dK (bM kvs))) s'->R (.ok (.ret .none)) s') ->
  codeAny (model X.prog X.w) A (.builtin "dict.update.loop" ⟨[.ref p, .ref it,rawInt i, .none],[]⟩) R s:=by
 have F:l≠p:=fun z=>by rw [z,hp] at hl;cases hl
 have hlen:vs.length=kvs.length:=Paired.length B
 obtain ⟨f0,f1,f2,f3,f4,f5⟩:=hf
 intro k
 induction k with
 | zero =>
   intro i s hk hi I st q
   have L:i=vs.length:=by lia
   obtain ⟨its,rv,pl,_⟩:=I.list (SqL.of (K:=X.K) ((aj F).trans hl))
   refine codeAny_builtin mm ?_
   unfold Builtin.«dict.update.loop»
   dsimp only
   refine wpAny_bind (wpAny_pyNext_list_end hn st pl.isList (by have:=rv.length;simp;lia) fun h' eb => ?_)
   refine wpAny_bind ?_
   unfold Builtin.Dict.addKeywords
   refine wpAny_bind ?_
   have n:=I.turned (t':=s.toks) (h':=h') (fun b o hb e=>eb b o hb e) ((aj j).trans f0) f1 f3 f4 f5
   rw [L,hlen,List.take_length] at n
   exact wpAny_pure (wpAny_pure (wpAny_pure (q _ n)))
 | succ k ih =>
   intro i s hk hi I st q
   have G:i < vs.length:=by lia
   obtain ⟨its,rv,pl,_⟩:=I.list (SqL.of (K:=X.K) ((aj F).trans hl))
   obtain ⟨u,O,ru⟩:=rv.get (List.getElem?_eq_getElem G)
   obtain ⟨kv,S,t,hv,U⟩:=iL B (List.getElem?_eq_getElem G)
   rw [hv] at ru
   cases (show u=Value.ref t from ru)
   refine codeAny_builtin mm ?_
   rw [Around.under_plain (by rfl) (by rfl)]
   unfold Builtin.«dict.update.loop»
   dsimp only
   refine wpAny_bind (wpAny_pyNext_list_item st pl.isList (x := .ref t) (by simpa using O) fun h' st' sb => ?_)
   have n:=I.turned (t':=s.toks) (h':=h') (fun b o hb e=>(sb.2 b hb).trans e) ((aj j).trans f0) f1 f3 f4 f5
   dsimp only
   have Y:t≠p:=fun z=>by rw [z,hp] at U;cases U
   obtain ⟨tits,rt,tt,_⟩:=n.tuple (SqT.of (K:=X.K) ((aj Y).trans U))
   obtain ⟨ob,J,Z,nt,BP⟩:=id tt
   cases rt with
   | cons r1 rt =>
     cases rt with
     | cons r2 rt =>
       cases rt
       refine wpAny_bind (wpAny_holding ?_)
       refine wpAny_bind (wpAny_tryCatch ?_)
       unfold Builtin.Dict.pairItems
       refine wpAny_bind (wpAny_typeOf (T := "tuple") (s := { s with heap:=h' }) ⟨ob,J,Z⟩ ?_)
       rw [if_pos (by decide)]
       refine wpAny_bind (wpAny_seqItems (s := { s with heap:=h' }) J BP ?_)
       refine wpAny_pure ?_
       refine wpAny_holding ?_
       have BS:(bM (kvs.take i)).length < sizeLine:=by
        have h2:=sd (kvs.take i)
        rw [List.length_take] at h2
        lia
       have etk:b8 (bM (kvs.take i)) kv.1 kv.2=bM (kvs.take (i+1)):=by
        unfold bM
        rw [List.take_succ,S,List.foldl_append];rfl
       obtain ⟨z,hd,xs,rel,dd⟩:=kj (a:=p) n.hok ar
       have BQ:xs.length<=sizeLine:=by rw [<- Paired.length rel];exact z
       have BR:(b8 (bM (kvs.take i)) kv.1 kv.2).length<=sizeLine:=by
        have h1:=cg (bM (kvs.take i)) kv.1 kv.2
        lia
       refine wpAny_dictSet_pairs (hsz:=BQ) (fJ r1) dd fun h2 dd' hs => ?_
       have he:∃ q,h2.get? p=some q:=let ⟨q,_,_,hq,_⟩:=dd'; ⟨q,hq⟩
       have I2:=j5 (t':=s.toks+1) n (a:=p) (ob := .dK (b8 (bM (kvs.take i)) kv.1 kv.2)) (by rw [ar];exact True.intro) hs he (qG BR hd (rel.put kv.1 r2) dd')
       rw [wB,etk] at I2
       refine wpAny_pure ⟨plainId_quiet mn _,ih (i+1) _ (by lia) (by lia) I2 ?_ q⟩
       exact st'.at fun o e=>(hs.2 it j).trans e
end
section
variable {X:Cx}
theorem jg (hu:X.A.units+16 < cLine) (Y:X.calm=true):CallR X (.type "dict") (fun xs H Q => ∃ l vs kvs,xs=[V.ref l]/\H l=some (.lst vs)/\Paired (PrI H) vs kvs/\vs.length < sizeLine /\ ∀ p,H p=none->Q (.ref p) (upd H p (.dK (bM kvs)))):=by
 intro pins s σ H xs us Q I r h
 obtain ⟨l,vs,kvs,rfl,hl,G,Z,q⟩:=h
 cases r with
 | cons r1 rr =>
 cases rr
 cases (show _=Value.ref l from r1)
 have R:=I.ok.hd Y
 have J:H s.heap.objs.size=none:=I.hok.fresh (Nat.le_refl _)
 have S:=I.laid (a:=s.heap.objs.size) (o := .dK []) (t':=s.toks) (fun _ _ q=>Heap.get?_push_of_some _ q) (Nat.le_refl _) (kK s.heap I.big)
 have L:l≠s.heap.objs.size:=fun z=>by rw [z,J] at hl;cases hl
 refine callType_codes (Q₁ := fun obj s₁ => obj = .ref s.heap.objs.size/\s₁ = { s with heap:=s.heap.push { cls := .type "dict",data := .dict #[] } }) F.kt_called_dict (F.kt_typeCall_dict_1 _) F.entry_dict_init (kt_code_dict_new _ ⟨rfl,rfl⟩) fun obj s₁ h₁ => ?_
 obtain ⟨rfl,rfl⟩:=h₁
 refine ⟨⟨_,Heap.get?_push_size _ rfl,rfl⟩,F.args_dict_init_2 _ _, ?_⟩
 unfold Builtin.«dict.__init__»
 refine wpAny_bind ?_
 unfold Builtin.Dict.selfAndRest
 unfold Builtin.Dict.notOrdered
 rw [if_pos (by decide)]
 have tyd:Shared.TypeIs { s with heap:=s.heap.push { cls := .type "dict",data := .dict #[] } } (.ref s.heap.objs.size) "dict" := ⟨_,Heap.get?_push_size _ rfl,rfl⟩
 refine wpAny_bind (wpAny_bind (wpAny_typeOf tyd ?_))
 rw [if_neg (by decide)]
 refine wpAny_pure ?_
 refine wpAny_bind (wpAny_pure (wpAny_pure ?_))
 unfold Builtin.Dict.updateCommon Builtin.Dict.updateFrom
 dsimp only
 obtain ⟨its,rv,pl,_⟩:=S.list (SqL.of (K:=X.K) ((aj L).trans hl))
 have il:=pl.isList
 refine wpAny_bind (wpAny_typeOf il.typeIs ?_)
 rw [if_pos (by decide)]
 obtain ⟨ob,nn,U,j,n,B⟩:=id pl
 refine wpAny_bind (yb R U j B n fun h1 tk kp => ?_)
 rw [if_pos (show (none:Option Value).isNone=true from rfl)]
 refine wpAny_bind (wpAny_rule ?_)
 have O:=S.kept (t':=tk) kp
 refine wpAny_bind (wpAny_pyIter_list (s := { s with heap:=h1,toks:=tk }) (PlainL.isList (⟨ob,nn,kp _ _ U,j,n,B⟩)) ?_)
 have I3:=O.kept (t':=tk) (h':=h1.push { cls := .type "list_iterator",data := .fields #[.ref l, .int 0 0] }) fun b o e=>Heap.get?_push_of_some _ e
 refine wpAny_pure ⟨plainId_quiet mn _, ?_⟩
 have hle:s.heap.objs.size < h1.objs.size:=Heap.lt_size (kp _ _ (Heap.get?_push_size _ rfl))
 have hf:bF X pins H h1.objs.size:=by
  have:=O.fpOk (H':=upd H s.heap.objs.size (.dK [])) (Nat.le_refl _) (O.hok.fresh (Nat.le_refl _))
  exact ⟨by rw [<- this.1,aj (Nat.ne_of_gt hle)],this.2⟩
 refine yd (A:=X.A.in1) (X:=X) (pins:=pins) (σ := σ) (H:=H) (p:=s.heap.objs.size) (kvs:=kvs) (by have:X.A.in1.units=X.A.units+1:=rfl;lia) R J hl G Z hf (Nat.ne_of_gt hle) vs.length 0 _ (by lia) (by lia) I3 ⟨_,Heap.get?_push_size _ rfl,rfl,rfl⟩ fun s' I' => ?_
 exact ⟨rfl, .ref s.heap.objs.size,_,I',rfl,q _ J⟩
end
end
end L2
namespace L2
namespace Mi
open PySem PySem.Spec PyProof.Rows
section
section
variable {X:Cx}
noncomputable def mz:RAd:=fun ds M Q => ∃ a kvs,ds=[.ref a]/\M a=some (.lst (kvs.map fun kv:D×D => .tup [kv.1,kv.2]))/\(∀ kv∈kvs,cD kv.1=true)/\kvs.length < sizeLine /\ ∀ p,M p=none->Q (.ref p) (af M p (.dct false (pQ kvs)))
theorem iN:aV mz:=fun _ _ _ _ h ⟨a,kvs,e,j,z,B,q⟩=>⟨a,kvs,e,j,z,B,fun p n=>h _ _ (q p n)⟩
theorem jZ {K:Frag} {H:Hp}:∀ {kvs:List (D×D)} {vs:List V},RDs K H (kvs.map fun kv:D×D => .tup [kv.1,kv.2]) vs->(∀ kv∈kvs,cD kv.1=true) ->
 ∃ ps:List (Key×V),Paired (PrI H) vs ps/\Paired (RKv K H) kvs ps
 | [],vs,r,_=>by rw [RDs.nil_iff.mp r];exact ⟨[], .nil, .nil⟩
 | kv::kvs,vs,r,h=>by
   rw [List.map_cons] at r
   obtain ⟨v,vr,rfl,q,z⟩:=RDs.cons_iff.mp r
   obtain ⟨ps,h1,h2⟩:=jZ z fun x hx=>h x (List.mem_cons_of_mem _ hx)
   obtain ⟨t,us,rfl,j,ru⟩:=RD.tup_iff.mp q
   obtain ⟨B,ur,rfl,F,ru⟩:=RDs.cons_iff.mp ru
   obtain ⟨G,I,rfl,J,ru⟩:=RDs.cons_iff.mp ru
   rw [RDs.nil_iff.mp ru] at j
   obtain ⟨k,n⟩:=ic (h kv (List.mem_cons_self ..))
   have ek:B=kV k:=fM n F
   rw [ek] at j
   exact ⟨(k,G)::ps, .cons ⟨t,rfl,j⟩ h1, .cons ⟨n,J⟩ h2⟩
theorem ka {K:Frag} {H:Hp}:∀ {kvs:List (D×D)} {ps:List (Key×V)} {a:List (D×D)} {b:List (Key×V)},Paired (RKv K H) kvs ps->Paired (RKv K H) a b ->
 Paired (RKv K H) (kvs.foldl (fun a kv=>bP a kv.1 kv.2) a) (ps.foldl (fun a kv=>b8 a kv.1 kv.2) b)
 | _,_,_,_, .nil,h=>h
 | _,_,_,_, .cons r t,h=>by
   have g:=ka t (gB (RK:=RKey) RKey.inj RKey.fun r.1 r.2 h)
   exact g
theorem mC (j:X.A.units+16 < cLine) (B:X.calm=true):CallR X (.type "dict") (lR X.K mz):=by
 refine CallR.of (jg j B) fun vs H Q h => ?_
 obtain ⟨ds,M,rm,rs,a,kvs,rfl,e,F,G,q⟩:=h
 obtain ⟨v,rfl,r⟩:=rs.one
 cases RD.ref_iff.mp r
 obtain ⟨us,I,ru⟩:=rm _ _ e
 obtain ⟨ps,h1,h2⟩:=jZ ru F
 refine ⟨a,us,ps,rfl,I,h1,by rw [ru.length,List.length_map];exact G,fun p n => ?_⟩
 have st:Stab H (upd H p (.dK (bM ps))):=(Ext.new' (M:=M) n).stab rm
 exact q p (rm.out n) (.ref p) _ (Ext.lay n) (rm.lay n ⟨_,ar,Paired.mapP (ka h2 .nil) fun _ _ z=>⟨z.1,z.2.mono st⟩⟩) (RD.ref_iff.mpr rfl)
end
end
end Mi
end L2
namespace L2
open PySem PySem.Spec PyProof.Rows
section
section
variable {prog:Program} {w:World} {A:Around} {E:Value->Shared->Prop} {s:Shared} {K:Type} [DecidableEq K] {knd:KeyKind prog w K}
theorem kb {es:List DictEntry} {xs:List (K×Value)} (h:Pairs knd es xs):xs.length=es.length:=h.length.symm
theorem A2 {nm:String} {a b:Addr} {xa:List (K×Value)} {Q:Bool->Shared->Prop} (L:(a==sysModules)=false) (hb:(b==sysModules)=false)
 (da:s.heap.DictOf knd a xa) (db:s.heap.DictOf knd b []) (h:Q (xa.length==0) s) :
 wpAny (model prog w) A (Builtin.Dict.samePairs nm a b) Q E s:=by
 obtain ⟨oa,es,ep,n,_,q,O,z⟩:=da
 obtain ⟨ob,es',ep',B,_,F,R,G⟩:=db
 have I:xa.length=es.size:=by rw [kb z.1];simp
 have j:es'.size=0:=by have:=kb G.1;simp at this;simp [<- this]
 rw [I] at h
 unfold Builtin.Dict.samePairs Builtin.Dict.showsAll
 rw [if_neg (show ¬ (a==sysModules)=true by rw [L];exact Bool.false_ne_true),if_neg (show ¬ (b==sysModules)=true by rw [hb];exact Bool.false_ne_true)]
 refine wpAny_bind (wpAny_pure (wpAny_bind (wpAny_pure ?_)))
 refine wpAny_bind (wpAny_dictEntries n q ?_)
 dsimp only
 refine wpAny_bind (wpAny_dictEntries B F ?_)
 by_cases hsz:es.size=es'.size
 case neg =>
  rw [if_pos (by simpa using hsz)]
  have J:(es.size==0)=false:=by rw [j] at hsz;simpa using hsz
  rw [J] at h
  exact wpAny_bind (wpAny_rule (wpAny_pure h))
 case pos =>
  have h':Q true s:=by rw [hsz,j] at h;exact h
  rw [if_neg (by rw [hsz];simp)]
  refine wpAny_bind (wpAny_dictEpoch n q ?_)
  refine wpAny_bind ?_
  rw [Std.Legacy.Range.forIn_eq_forIn_range']
  simp only [Std.Legacy.Range.size,Nat.sub_zero,Nat.add_sub_cancel,Nat.div_one]
  rw [hsz,j]
  refine wpAny_pure ?_
  exact wpAny_pure h'
theorem B5 {a b:Addr} {xa:List (K×Value)} {Q:Value->Shared->Prop} (j:A.units < cLine) (n:(a==sysModules)=false) (hb:(b==sysModules)=false)
 (da:s.heap.DictOf knd a xa) (db:s.heap.DictOf knd b []) (h:Q (.bool (!(xa.length==0))) s) :
 wpAny (model prog w) A (compareOp .NotEq (.ref a) (.ref b)) Q E s:=by
 refine wpAny_richCompare_same_room (op := .NotEq) da.typeIs db.typeIs PySem.F.slot_dict_ne (wpAny_call_entry PySem.F.slot_dict_ne da.typeIs PySem.F.entry_dict_ne ?_ (PySem.F.args_dict_ne_2 _ _)) j
 show wpAny _ _ (Builtin.Dict.dictSlotArgs "__ne__" ⟨[.ref a, .ref b],[]⟩ >>= _) _ _ s
 refine wpAny_bind ?_
 unfold Builtin.Dict.dictSlotArgs
 refine wpAny_bind (wpAny_notOrdered_dict da.typeIs ?_)
 show wpAny _ _ (pure (Value.ref a,Value.ref b)) _ _ s
 refine wpAny_pure ?_
 refine wpAny_bind (wpAny_isInstance (T := "dict") db.typeIs PySem.F.sub_dict_dict ?_)
 simp only [Bool.not_true,Bool.false_eq_true,if_false]
 refine wpAny_bind (wpAny_pure (wpAny_bind (wpAny_pure ?_)))
 refine wpAny_bind (A2 n hb da db ?_)
 refine wpAny_pure ⟨_,rfl, ?_, ?_⟩
 ·exact fun x=>nomatch x
 ·simpa using h
end
namespace Mi
section
variable {X:Cx}
noncomputable def uZ:R2d:=fun x y M Q => ∃ a b kvs,x = .ref a/\y = .ref b/\M a=some (.dct false kvs)/\M b=some (.dct false [])/\Q (.bl (!(kvs.length==0))) M
theorem v9:al uZ:=fun _ _ _ _ _ h ⟨a,b,ps,j,n,z,B,q⟩=>⟨a,b,ps,j,n,z,B,h _ _ q⟩
theorem va (z:X.A.units+2 < cLine):OpR X (compareOp .NotEq) (l2 X.K uZ):=by
 intro pins s σ H x y v u Q I rx ry h
 obtain ⟨x',y',M,rm,rdx,rdy,a,b,kvs,rfl,rfl,h1,h2,q⟩:=h
 cases RD.ref_iff.mp rdx
 cases RD.ref_iff.mp rdy
 cases rx
 cases ry
 obtain ⟨ps,j,pr⟩:=rm _ _ h1
 obtain ⟨qs,n,pr'⟩:=rm _ _ h2
 cases pr'
 obtain ⟨_,sm,xs,kv,dd⟩:=kj I.hok j
 obtain ⟨_,sm',ys,kv',dd'⟩:=kj I.hok n
 cases kv'
 have hl:xs.length=kvs.length:=by rw [<- Paired.length kv, <- bg pr]
 refine B5 (by lia) sm sm' dd dd' ?_
 rw [hl]
 exact ⟨.bl (!(kvs.length==0)),H,I,rfl,q _ H Ext.refl rm (RD.bl_iff.mpr rfl)⟩
end
section
inductive BOp where | add | sub | mul | fdiv | mod | pow
inductive COp where | eq | ne | lt | le | gt | ge | isn | neE | ninD
inductive BF where | len | abs | min2 | int | tuple | all | sorted | sortk | dicti
inductive MF where | append
inductive MF0 where | clear | reverse
mutual
inductive MG where
 | name (i:Nat)
 | tup (gs:MGs)
inductive MGs where
 | nil
 | cons (g:MG) (r:MGs)
end
mutual
inductive ME where
 | var (i:Nat)
 | int (i:Int)
 | bl (b:Bool)
 | non
 | bin (op:BOp) (a b:ME)
 | neg (a:ME)
 | cmp (op:COp) (a b:ME)
 | and (es:MEs)
 | or (es:MEs)
 | not (a:ME)
 | ite (c:MT) (a b:ME)
 | tup (es:MEs)
 | lst (es:MEs)
 | ix (a b:ME)
 | sl (a:ME) (lo hi:MO)
 | call (f:Nat) (es:MEs)
 | blt (f:BF) (es:MEs)
 | isin (a:ME) (T:String)
 | chain (op op':COp) (a b c:ME)
 | glob (x:Str) (k:Int)
 | dnew (t:Bool)
 | sortI (a:ME)
 | dget (o k x:ME)
 | meth (m:MF) (o a:ME)
 | comp (fr:List (Option Nat)) (N:List Str) (c:MC)
inductive MEs where
 | nil
 | cons (e:ME) (r:MEs)
inductive MO where
 | none
 | some (e:ME)
inductive MT where
 | tru (e:ME)
 | cmp (op:COp) (a b:ME)
 | chain (op op':COp) (a b c:ME)
 | and (ts:MTs)
 | or (ts:MTs)
 | not (t:MT)
inductive MTs where
 | nil
 | cons (t:MT) (r:MTs)
inductive MI where
 | seq (e:ME)
 | rng1 (a:ME)
 | zip (a b:ME)
 | enum (a:ME)
 | items (a:ME)
inductive MC where
 | last (src:MI) (g:MG) (ifs:MTs) (elt:ME)
 | more (src:MI) (g:MG) (ifs:MTs) (rest:MC)
end
mutual
inductive MS where
 | asg (g:MG) (e:ME)
 | par (i j:Nat) (a b:ME)
 | put (o i e:ME)
 | augI (o i:ME) (op:BOp) (e:ME)
 | drop (e:ME)
 | ret (e:ME)
 | ite (c:MT) (a b:MSs)
 | for (g:MG) (src:MI) (b:MSs)
 | while (c:MT) (b:MSs)
 | frz (i:Nat) (s:MS)
 | pass | brk | cnt
inductive MSs where
 | nil
 | cons (s:MS) (r:MSs)
end
noncomputable def opB:BOp->R2d
 | .add=>gu | .sub=>pi | .mul=>j9 | .fdiv=>kl | .mod=>pj | .pow=>pk
noncomputable def opC:COp->R2d
 | .eq=>wEq | .ne=>wNe | .lt=>wLt | .le=>wLe | .gt=>wGt | .ge=>wGe| .isn=>uG| .neE=>uZ| .ninD=>uV true
noncomputable def opF:BF->RAd
 | .len=>gx | .abs=>kX| .min2=>km | .int=>kY| .tuple=>lf| .all=>pK| .sorted=>jf| .sortk=>mq| .dicti=>mz
noncomputable def opM:MF->D->List D->Mem->QD->Prop
 | .append=>jc
noncomputable def A3:MF0->D->List D->Mem->QD->Prop
 | .clear=>zL | .reverse=>uk
noncomputable def opI:BOp->R2d
 | .add=>ku | .sub=>kw | .mul=>kx | _=>fun _ _ _ _=>False
theorem mD:∀ o,al (opB o)
 | .add=>tZ | .sub=>u4 | .mul=>u5 | .fdiv=>qP | .mod=>u6 | .pow=>u7
theorem b5:∀ o,al (opC o)
 | .eq=>xm | .ne=>xo | .lt=>xr | .le=>xt | .gt=>xu | .ge=>xv| .isn=>uH| .neE=>v9| .ninD=>uW
theorem vc:∀ o,aV (opF o)
 | .len=>kW | .abs=>kZ| .min2=>jG | .int=>lc| .tuple=>ii| .all=>lL| .sorted=>gj| .sortk=>iM| .dicti=>iN
theorem vd:∀ o,ko (opM o)
 | .append=>gf
theorem ve:∀ o,al (opI o)
 | .add=>jN | .sub=>jO | .mul=>jP
 | .fdiv=>fun _ _ _ _ _ _ q=>q.elim | .mod=>fun _ _ _ _ _ _ q=>q.elim | .pow=>fun _ _ _ _ _ _ q=>q.elim
noncomputable abbrev Phi:=Nat->RAd
mutual
noncomputable def bG:MG->BT
 | .name i=>bI i
 | .tup gs=>lp (bGs gs)
noncomputable def bGs:MGs->BTs
 | .nil=>fb
 | .cons g r=>bD (bG g) (bGs r)
end
mutual
noncomputable def wE (Φ:Phi):ME->TEd
 | .var i=>gn i
 | .int i=>wC (.int i)
 | .bl b=>wC (.bl b)
 | .non=>wC .non
 | .bin op a b=>wOp (opB op) (wE Φ a) (wE Φ b)
 | .neg a=>wUn pv (wE Φ a)
 | .cmp op a b=>wOp (opC op) (wE Φ a) (wE Φ b)
 | .and es=>wAnds Φ es
 | .or es=>wOrs Φ es
 | .not a=>iq (wE Φ a)
 | .ite c a b=>wIf (wT Φ c) (wE Φ a) (wE Φ b)
 | .tup es=>wAr kR (wA Φ es)
 | .lst es=>wAr kS (wA Φ es)
 | .ix a b=>wOp wIx (wE Φ a) (wE Φ b)
 | .sl a lo hi=>wSl (wE Φ a) (wO Φ lo) (wO Φ hi)
 | .call f es=>wAr (Φ f) (wA Φ es)
 | .blt f es=>wAr (opF f) (wA Φ es)
 | .isin a T=>iu T (wE Φ a)
 | .chain op op' a b c=>cj (opC op) (opC op') (wE Φ a) (wE Φ b) (wE Φ c)
 | .glob _ k=>wC (.int k)
 | .dnew t=>iE t
 | .sortI a=>fy (wE Φ a)
 | .dget o k x=>iK (wE Φ o) (wE Φ k) (wE Φ x)
 | .meth m o a=>wBM (opM m) (wE Φ o) (be (wE Φ a) bV)
 | .comp fr _ c=>wCmp Φ fr c
noncomputable def wA (Φ:Phi):MEs->TAd
 | .nil=>bV
 | .cons e r=>be (wE Φ e) (wA Φ r)
noncomputable def wAnds (Φ:Phi):MEs->TEd
 | .nil=>fun _ _ _=>False
 | .cons e .nil=>wE Φ e
 | .cons e (.cons f r)=>io (wE Φ e) (wAnds Φ (.cons f r))
noncomputable def wOrs (Φ:Phi):MEs->TEd
 | .nil=>fun _ _ _=>False
 | .cons e .nil=>wE Φ e
 | .cons e (.cons f r)=>ll (wE Φ e) (wOrs Φ (.cons f r))
noncomputable def wO (Φ:Phi):MO->TOd
 | .none=>dN
 | .some e=>ir (wE Φ e)
noncomputable def wT (Φ:Phi):MT->TTd
 | .tru e=>lh (wE Φ e)
 | .cmp op a b=>ee (wOp (opC op) (wE Φ a) (wE Φ b))
 | .chain op op' a b c=>ee (cj (opC op) (opC op') (wE Φ a) (wE Φ b) (wE Φ c))
 | .and ts=>wAndTs Φ ts
 | .or ts=>wOrTs Φ ts
 | .not t=>ik (wT Φ t)
noncomputable def wAndTs (Φ:Phi):MTs->TTd
 | .nil=>fun _ _ _=>False
 | .cons e .nil=>wT Φ e
 | .cons e (.cons f r)=>im (wT Φ e) (wAndTs Φ (.cons f r))
noncomputable def wOrTs (Φ:Phi):MTs->TTd
 | .nil=>fun _ _ _=>False
 | .cons e .nil=>wT Φ e
 | .cons e (.cons f r)=>lj (wT Φ e) (wOrTs Φ (.cons f r))
noncomputable def wTl (Φ:Phi):MTs->List TTd
 | .nil => []
 | .cons t r=>wT Φ t::wTl Φ r
noncomputable def wI (Φ:Phi):MI->TId
 | .seq e=>lq (wE Φ e)
 | .rng1 a=>iw (be (wE Φ a) bV)
 | .zip a b=>lr (wE Φ a) (wE Φ b)
 | .enum a=>iy (wE Φ a)
 | .items a=>fA (wE Φ a)
noncomputable def wCl (Φ:Phi):MC->TCd
 | .last src g ifs elt=>cM (wI Φ src) (bG g) (bf (wTl Φ ifs) (dq (wE Φ elt)))
 | .more src g ifs rest=>cM (wI Φ src) (bG g) (bf (wTl Φ ifs) (wCl Φ rest))
noncomputable def wCmp (Φ:Phi) (fr:List (Option Nat)):MC->TEd
 | .last src g ifs elt=>fO fr (wI Φ src) (bG g) (bf (wTl Φ ifs) (dq (wE Φ elt)))
 | .more src g ifs rest=>fO fr (wI Φ src) (bG g) (bf (wTl Φ ifs) (wCl Φ rest))
end
mutual
noncomputable def wS (Φ:Phi):MS->TSd
 | .asg g e=>gA (wE Φ e) (bG g)
 | .par i j a b=>lD (be (wE Φ a) (be (wE Φ b) bV)) (bD (bI i) (bD (bI j) fb))
 | .put o i e=>lH (wE Φ e) (wE Φ o) (wE Φ i)
 | .augI o i op e=>iC (wE Φ o) (wE Φ i) (wE Φ e) (opI op)
 | .drop e=>iB (wE Φ e)
 | .ret e=>lB (wE Φ e)
 | .ite c a b=>sIf (wT Φ c) (wSs Φ a) (wSs Φ b)
 | .for g src b=>lF (wI Φ src) (bG g) (wSs Φ b)
 | .while c b=>fj (wT Φ c) (wSs Φ b)
 | .frz i s=>pR i (wS Φ s)
 | .pass=>fP
 | .brk=>fi
 | .cnt=>iA
noncomputable def wSs (Φ:Phi):MSs->TSd
 | .nil=>fP
 | .cons s r=>lw (wS Φ s) (wSs Φ r)
end
section
variable {Φ:Phi} (hΦ:∀ f,aV (Φ f))
include hΦ
mutual
theorem mE:∀ m,ab (wE Φ m)
 | .var _=>tY
 | .int _=>ie
 | .bl _=>ie
 | .non=>ie
 | .bin op a b=>dL (mD op) (mE a) (mE b)
 | .neg a=>xi kU (mE a)
 | .cmp op a b=>dL (b5 op) (mE a) (mE b)
 | .and es=>mAnds es
 | .or es=>mOrs es
 | .not a=>qW (mE a)
 | .ite c a b=>xD (mT c) (mE a) (mE b)
 | .tup es=>fK qM (mA es)
 | .lst es=>fK qN (mA es)
 | .ix a b=>dL nM (mE a) (mE b)
 | .sl a lo hi=>xG (mE a) (mO lo) (mO hi)
 | .call f es=>fK (hΦ f) (mA es)
 | .blt f es=>fK (vc f) (mA es)
 | .isin a T=>qZ (mE a)
 | .chain op op' a b c=>eC (b5 op) (b5 op') (mE a) (mE b) (mE c)
 | .glob _ _=>ie
 | .dnew _=>rF
 | .sortI a=>pP (mE a)
 | .dget o k x=>rX (mE o) (mE k) (mE x)
 | .meth m o a=>xK (vd m) (mE o) (aG (mE a) aI)
 | .comp fr _ c=>mCmp fr c
theorem mA:∀ m,bb (wA Φ m)
 | .nil=>aI
 | .cons e r=>aG (mE e) (mA r)
theorem mAnds:∀ m,ab (wAnds Φ m)
 | .nil=>fun _ _ _ _ _ q=>q.elim
 | .cons e .nil=>mE e
 | .cons e (.cons f r)=>qV (mE e) (mAnds (.cons f r))
theorem mOrs:∀ m,ab (wOrs Φ m)
 | .nil=>fun _ _ _ _ _ q=>q.elim
 | .cons e .nil=>mE e
 | .cons e (.cons f r)=>ui (mE e) (mOrs (.cons f r))
theorem mO:∀ m,eh (wO Φ m)
 | .none=>nu
 | .some e=>qY (mE e)
theorem mT:∀ m,aD (wT Φ m)
 | .tru e=>ug (mE e)
 | .cmp op a b=>kP (dL (b5 op) (mE a) (mE b))
 | .chain op op' a b c=>kP (eC (b5 op) (b5 op') (mE a) (mE b) (mE c))
 | .and ts=>mAndTs ts
 | .or ts=>mOrTs ts
 | .not t=>qT (mT t)
theorem mAndTs:∀ m,aD (wAndTs Φ m)
 | .nil=>fun _ _ _ _ _ q=>q.elim
 | .cons e .nil=>mT e
 | .cons e (.cons f r)=>qU (mT e) (mAndTs (.cons f r))
theorem mOrTs:∀ m,aD (wOrTs Φ m)
 | .nil=>fun _ _ _ _ _ q=>q.elim
 | .cons e .nil=>mT e
 | .cons e (.cons f r)=>uh (mT e) (mOrTs (.cons f r))
theorem mTl:∀ m, ∀ t∈wTl Φ m,aD t
 | .nil=>by rw [wTl];intro t j;simp at j
 | .cons t r=>by
  rw [wTl];intro t' j
  rcases List.mem_cons.mp j with e | e
  ·rw [e];exact mT t
  ·exact mTl r t' e
theorem mI:∀ m,bJ (wI Φ m)
 | .seq e=>uq (mE e)
 | .rng1 a=>r9 (aG (mE a) aI)
 | .zip a b=>ut (mE a) (mE b)
 | .enum a=>rf (mE a)
 | .items a=>pU (mE a)
theorem mCl:∀ m,bE (wCl Φ m)
 | .last src g ifs elt=>gh (mI src) (aM (bm (mE elt)) (mTl ifs))
 | .more src g ifs rest=>gh (mI src) (aM (mCl rest) (mTl ifs))
theorem mCmp (fr:List (Option Nat)):∀ m,ab (wCmp Φ fr m)
 | .last src g ifs elt=>jH (mI src) (aM (bm (mE elt)) (mTl ifs))
 | .more src g ifs rest=>jH (mI src) (aM (mCl rest) (mTl ifs))
end
mutual
theorem mS:∀ m,aE (wS Φ m)
 | .asg g e=>uw (mE hΦ e)
 | .par i j a b=>uz (aG (mE hΦ a) (aG (mE hΦ b) aI))
 | .put o i e=>uF (mE hΦ e) (mE hΦ o) (mE hΦ i)
 | .augI o i op e=>rE (mE hΦ o) (mE hΦ i) (mE hΦ e) (ve op)
 | .drop e=>rj (mE hΦ e)
 | .ret e=>uu (mE hΦ e)
 | .ite c a b=>uv (mT hΦ c) (mSs a) (mSs b)
 | .for g src b=>uA (mI hΦ src) (mSs b)
 | .while c b=>pG (mT hΦ c) (mSs b)
 | .frz i s=>uU (mS s)
 | .pass=>jJ
 | .brk=>pF
 | .cnt=>rg
theorem mSs:∀ m,aE (wSs Φ m)
 | .nil=>jJ
 | .cons s r=>rh (mS s) (mSs r)
end
end
end
section
structure Ctx where
 Γ:List Str
 N:List Str
 sc:Scope
 fn:List Str
 cs:List (Str×Int)
noncomputable def glB (sc:Scope) (x:Str):Bool:=sc.names.lookup x==some .globalImplicit
noncomputable def vf (sc:Scope) (x:Str):Bool:=sc.names.lookup x==some .local || sc.names.lookup x==some .cell || sc.names.lookup x==some .free
noncomputable def vg (sc:Scope) (x:Str):Bool:=sc.names.lookup x==some .local || sc.names.lookup x==some .cell
noncomputable def aS:Expr->Bool
 | .Starred .. => false
 | _=>true
noncomputable def mF:Expr->Bool
 | .Name .. | .Call .. | .Subscript .. | .Constant .. | .BinOp .. | .Attribute .. => true
 | _=>false
noncomputable def ca:Expr->Bool
 | .Slice .. => false
 | _=>true
noncomputable def fB:Expr->Bool
 | .ListComp .. | .SetComp .. | .DictComp .. => false
 | _=>true
noncomputable def kz:Expr->Bool
 | .Set .. => false
 | _=>true
noncomputable def cO:Expr->Bool
 | .Call .. => false
 | _=>true
noncomputable def opO:BOp->Operator
 | .add => .Add | .sub => .Sub | .mul => .Mult | .fdiv => .FloorDiv | .mod => .Mod | .pow => .Pow
noncomputable def gI:COp->CmpOp
 | .eq => .Eq | .ne => .NotEq | .lt => .Lt | .le => .LtE | .gt => .Gt | .ge => .GtE| .isn => .IsNot| .neE => .NotEq| .ninD => .NotIn
noncomputable def mG:BF->Str
 | .len => "len" | .abs => "abs"| .min2 => "min" | .int => "int"| .tuple => "tuple"| .all => "all"| .sorted => "sorted"| .sortk => "sorted"| .dicti => "dict"
noncomputable def A4:MF->Str
 | .append => "append"
noncomputable def bltNames:List Str := ["len", "abs", "max", "min", "int", "list", "tuple", "sum", "isinstance", "range", "bool", "str", "dict", "zip", "enumerate", "reversed", "sorted", "all", "any", "set"]
noncomputable def gJ (sc osc:Scope):Scope :=
 { sc with names:=sc.names.map fun (n,k)=>if (k == .free&&osc.kind == .function&&osc.names.lookup n==some .cell) then (n, .cell) else (n,k) }
theorem nC (sc:Scope) (env:Env):relabel sc env=gJ sc env.scope:=rfl
noncomputable def vh (sc osc:Scope) (oN N':List Str) (fr:List (Option Nat)):Bool :=
 decide (sc.kind = .function)&&decide ((sc.names.map (·.1)).Nodup)&&decide (N'.Nodup)
  && sc.names.all (fun x => !(x.2 == .free) || osc.names.lookup x.1==some .cell || osc.names.lookup x.1==some .free)
  && decide (fr.length=N'.length)
  && (List.range N'.length).all fun i=>match fr[i]?,N'[i]? with
   | some (some j),some x=>decide (oN[j]? = some x)&&sc.names.any (fun y=>decide (y=(x,NameKind.free)))
   | _,_=>true
mutual
noncomputable def okG:MG->Ctx->Expr->Bool
 | .name i,C,e=>match e with
  | .Name x _=>decide (C.N[i]? = some x)&&vg C.sc x&&(C.sc.names.lookup x==some .local || C.fn.contains x)
  | _=>false
 | .tup gs,C,e=>match e with
  | .Tuple es _ _=>okGs gs C es
  | _=>false
noncomputable def okGs:MGs->Ctx->List Expr->Bool
 | .nil,_,es=>es.isEmpty
 | .cons g r,C,es=>match es with
  | e::es=>aS e&&okG g C e&&okGs r C es
  | [] => false
end
noncomputable def gK:Expr->Option Str
 | .Name x _=>some x
 | _=>none
noncomputable def dw:Expr->Option (List Expr)
 | .Tuple ts _ _=>some ts
 | _=>none
noncomputable def wg:Stmt->Option (List Expr×Expr)
 | .Assign ts e _=>some (ts,e)
 | _=>none
theorem fY {e:Expr} {x:Str} (h:gK e=some x):∃ p,e = .Name x p:=by
 cases e <;> first
  | (cases h;exact ⟨_,rfl⟩)
  | cases h
theorem cZ {e:Expr} {ts:List Expr} (h:dw e=some ts):∃ k p,e = .Tuple ts k p:=by
 cases e <;> first
  | (cases h;exact ⟨_,_,rfl⟩)
  | cases h
theorem vj {s:Stmt} {ts:List Expr} {e:Expr} (h:wg s=some (ts,e)):∃ p,s = .Assign ts e p:=by
 cases s <;> first
  | (cases h;exact ⟨_,rfl⟩)
  | cases h
noncomputable def cOf:Expr->Option (Expr×List Expr×List Keyword×Pos)
 | .Call f xs ks p=>some (f,xs,ks,p)
 | _=>none
noncomputable def kA:Expr->Option (Expr×Str×Pos)
 | .Attribute o n p=>some (o,n,p)
 | _=>none
noncomputable def kB:Expr->Option (Expr×Expr)
 | .Subscript x y _=>some (x,y)
 | _=>none
noncomputable def pV:Expr->Option (Option Expr×Option Expr×Option Expr)
 | .Slice l u s _=>some (l,u,s)
 | _=>none
noncomputable def eG:Expr->Option (Expr×List CmpOp×List Expr)
 | .Compare l os rs _=>some (l,os,rs)
 | _=>none
noncomputable def A5:Expr->Option (Expr×Expr×Comprehension×Scope)
 | .DictComp k v [g] sc _=>some (k,v,g,sc)
 | _=>none
theorem se {e f:Expr} {xs:List Expr} {ks:List Keyword} {p:Pos} (h:cOf e=some (f,xs,ks,p)):e = .Call f xs ks p:=by
 cases e <;> first
  | (cases h;rfl)
  | cases h
theorem vm {e o:Expr} {n:Str} {p:Pos} (h:kA e=some (o,n,p)):e = .Attribute o n p:=by
 cases e <;> first
  | (cases h;rfl)
  | cases h
theorem vp {e x y:Expr} (h:kB e=some (x,y)):∃ p,e = .Subscript x y p:=by
 cases e <;> first
  | (cases h;exact ⟨_,rfl⟩)
  | cases h
theorem ye {e:Expr} {l u s:Option Expr} (h:pV e=some (l,u,s)):∃ p,e = .Slice l u s p:=by
 cases e <;> first
  | (cases h;exact ⟨_,rfl⟩)
  | cases h
theorem eI {e l:Expr} {os:List CmpOp} {rs:List Expr} (h:eG e=some (l,os,rs)):∃ p,e = .Compare l os rs p:=by
 cases e <;> first
  | (cases h;exact ⟨_,rfl⟩)
  | cases h
noncomputable def bA (e:Expr):Option (Str×List Expr):=match cOf e with
 | some (f,xs,[],_)=>match gK f with
   | some x=>some (x,xs)
   | none=>none
 | _=>none
noncomputable def cq (e:Expr):Option (Expr×Str×List Expr×Pos×Pos):=match cOf e with
 | some (f,xs,[],p)=>match kA f with
   | some (o,n,q)=>some (o,n,xs,q,p)
   | none=>none
 | _=>none
noncomputable def dR (e:Expr):Option (Expr×Option Expr×Option Expr×Option Expr):=match kB e with
 | some (x,y)=>match pV y with
   | some (l,u,s)=>some (x,l,u,s)
   | none=>none
 | none=>none
theorem bB {e:Expr} {x:Str} {xs:List Expr} (h:bA e=some (x,xs)):∃ p pos,e = .Call (.Name x p) xs [] pos:=by
 unfold bA at h
 split at h
 ·next f ys q h1 =>
  split at h
  ·next y h2 =>
   cases h
   obtain ⟨p,rfl⟩:=fY h2
   exact ⟨p,q,se h1⟩
  ·cases h
 ·cases h
theorem dy {e o:Expr} {n:Str} {xs:List Expr} {q p:Pos} (h:cq e=some (o,n,xs,q,p)):e = .Call (.Attribute o n q) xs [] p:=by
 unfold cq at h
 split at h
 ·next f ys p' h1 =>
  split at h
  ·next o' n' q' h2 =>
   cases h
   rw [se h1,vm h2]
  ·cases h
 ·cases h
theorem pW {e x:Expr} {l u s:Option Expr} (h:dR e=some (x,l,u,s)):∃ p pos,e = .Subscript x (.Slice l u s p) pos:=by
 unfold dR at h
 split at h
 ·next x' y h1 =>
  split at h
  ·next l' u' s' h2 =>
   cases h
   obtain ⟨pos,rfl⟩:=vp h1
   obtain ⟨p,rfl⟩:=ye h2
   exact ⟨p,pos,rfl⟩
  ·cases h
 ·cases h
mutual
noncomputable def okE:ME->Ctx->Expr->Bool
 | .var i,C,e=>match e with
  | .Name x _=>decide (C.N[i]? = some x)&&vf C.sc x && !(x==("__debug__":Str)) && !(x==("__classdict__":Str))
  | _=>false
 | .int i,_,e=>match e with
  | .Constant (.int j) _ _=>decide (i=j)
  | _=>false
 | .bl i,_,e=>match e with
  | .Constant (.bool j) _ _=>i==j
  | _=>false
 | .non,_,e=>match e with
  | .Constant .none _ _=>true
  | _=>false
 | .bin op a b,C,e=>match e with
  | .BinOp l o r _=>decide (o=opO op)&&okE a C l&&okE b C r
  | _=>false
 | .neg a,C,e=>match e with
  | .UnaryOp .USub x _=>okE a C x
  | _=>false
 | .cmp op a b,C,e=>match eG e with
  | some (l,[o],[r])=>decide (o=gI op)&&okE a C l&&okE b C r && !(behindInMarks o r)
  | _=>false
 | .and es,C,e=>match e with
  | .BoolOp .And xs _ => !xs.isEmpty&&okEs es C xs
  | _=>false
 | .or es,C,e=>match e with
  | .BoolOp .Or xs _ => !xs.isEmpty&&okEs es C xs
  | _=>false
 | .not a,C,e=>match e with
  | .UnaryOp .Not x _=>okE a C x
  | _=>false
 | .ite c a b,C,e=>match e with
  | .IfExp t x y _=>okT c C t&&okE a C x&&okE b C y
  | _=>false
 | .tup es,C,e=>match e with
  | .Tuple xs _ _=>okEs es C xs
  | _=>false
 | .lst es,C,e=>match e with
  | .List xs _=>okEs es C xs
  | _=>false
 | .ix a b,C,e=>match e with
  | .Subscript x y _=>ca y&&okE a C x&&okE b C y
  | _=>false
 | .sl a lo hi,C,e=>match dR e with
  | some (x,l,u,none)=>okE a C x&&okO lo C l&&okO hi C u
  | _=>false
 | .call f es,C,e=>match bA e with
  | some (x,xs)=>decide (C.Γ[f]? = some x)&&glB C.sc x && !(x==("__debug__":Str))&&okEs es C xs
  | _=>false
 | .blt f es,C,e=>match bA e with
  | some (x,xs)=>decide (x=mG f)&&glB C.sc x && !xs.isEmpty&&okEs es C xs
  | _=>false
 | .isin a T,C,e=>match bA e with
  | some (x,[y,z'])=>match gK z' with
    | some z=>decide (x = "isinstance")&&glB C.sc x&&glB C.sc z&&decide (z=Str.ofString T)&&decide (T∈["bool", "int", "str", "tuple", "list", "dict"])&&aS y&&okE a C y
    | none=>false
  | _=>false
 | .chain op op' a b c,C,e=>match eG e with
  | some (l,[o,o'],[r,q])=>decide (o=gI op)&&decide (o'=gI op')&&okE a C l&&okE b C r&&okE c C q && !(lastMarks [o,o'] [r,q])
  | _=>false
 | .glob x k,C,e=>match e with
  | .Name y _=>decide (y=x)&&glB C.sc y&&decide ((x,k)∈C.cs) && !(x==("__debug__":Str))
  | _=>false
 | .dnew _,_,e=>match e with
  | .Dict [] [] _=>true
  | _=>false
 | .sortI a,C,e=>match bA e with
  | some (x,[w])=>match cq w with
    | some (y,n,[],ap,cp)=>decide (x = "sorted")&&glB C.sc x&&decide (n = "items")&&cO y&&(ap.endLine==cp.line)&&okE a C y
    | _=>false
  | _=>false
 | .dget o k x,C,e=>match cq e with
  | some (y,n,[e1,e2],ap,cp)=>decide (n = "get")&&cO y&&(ap.endLine==cp.line)&&aS e1&&aS e2&&okE o C y&&okE k C e1&&okE x C e2
  | _=>false
 | .meth m o a,C,e=>match cq e with
  | some (x,n,[y],ap,cp)=>decide (n=A4 m)&&cO x&&(ap.endLine==cp.line)&&aS y&&okE o C x&&okE a C y
  | _=>false
 | .comp fr N' c,C,e=>match e with
  | .ListComp elt gens sc _=>vh sc C.sc C.N N' fr&&okC c C ⟨C.Γ,N',gJ sc C.sc,(sc.names.filter (·.2 == .cell)).map (·.1),C.cs⟩ gens elt
  | _=>false
noncomputable def okEs:MEs->Ctx->List Expr->Bool
 | .nil,_,es=>es.isEmpty
 | .cons m r,C,es=>match es with
  | e::es=>aS e&&okE m C e&&okEs r C es
  | [] => false
noncomputable def okO:MO->Ctx->Option Expr->Bool
 | .none,_,e=>e.isNone
 | .some m,C,e=>match e with
  | some e=>okE m C e
  | none=>false
noncomputable def okT:MT->Ctx->Expr->Bool
 | .tru m,C,e=>mF e&&okE m C e
 | .cmp op a b,C,e=>match eG e with
  | some (l,[o],[r])=>decide (o=gI op)&&okE a C l&&okE b C r && !(behindInMarks o r)
  | _=>false
 | .chain op op' a b c,C,e=>match eG e with
  | some (l,[o,o'],[r,q])=>decide (o=gI op)&&decide (o'=gI op')&&okE a C l&&okE b C r&&okE c C q && !(lastMarks [o,o'] [r,q])
  | _=>false
 | .and ts,C,e=>match e with
  | .BoolOp .And xs _ => !xs.isEmpty&&okTs ts C xs
  | _=>false
 | .or ts,C,e=>match e with
  | .BoolOp .Or xs _ => !xs.isEmpty&&okTs ts C xs
  | _=>false
 | .not t,C,e=>match e with
  | .UnaryOp .Not x _=>okT t C x
  | _=>false
noncomputable def okTs:MTs->Ctx->List Expr->Bool
 | .nil,_,es=>es.isEmpty
 | .cons m r,C,es=>match es with
  | e::es=>okT m C e&&okTs r C es
  | [] => false
noncomputable def okI:MI->Ctx->Expr->Expr->Bool
 | .seq m,C,_,e=>kz e&&okE m C e
 | .items a,C,t,e=>match cq e with
  | some (x,n,[],ap,cp)=>(dw t).isSome&&decide (n = "items")&&cO x&&(ap.endLine==cp.line)&&okE a C x
  | _=>false
 | .rng1 a,C,_,e=>match bA e with
  | some (x,[y])=>decide (x = "range")&&glB C.sc x&&aS y&&okE a C y
  | _=>false
 | .enum a,C,t,e=>match bA e with
  | some (x,[y])=>(dw t).isSome&&decide (x = "enumerate")&&glB C.sc x&&aS y&&okE a C y
  | _=>false
 | .zip a b,C,t,e=>match bA e with
  | some (x,[y,z])=>(dw t).isSome&&decide (x = "zip")&&glB C.sc x&&aS y&&aS z&&okE a C y&&okE b C z
  | _=>false
noncomputable def okC:MC->Ctx->Ctx->List Comprehension->Expr->Bool
 | .last src g ifs m,Cs,C,gens,elt=>match gens with
  | [⟨t,it,fs,a⟩] => decide (a=0)&&okI src Cs t it&&okG g C t&&okTs ifs C fs&&okE m C elt
  | _=>false
 | .more src g ifs rest,Cs,C,gens,elt=>match gens with
  | ⟨t,it,fs,a⟩::g2::gs=>decide (a=0)&&okI src Cs t it&&okG g C t&&okTs ifs C fs&&okC rest C C (g2::gs) elt
  | _=>false
end
noncomputable def aW (sc:Scope) (ts:List Expr):List Str:=ts.filterMap fun
 | .Name id pos=>if sc.names.lookup id==some .local&&pos.line==(ts.head?.map (·.pos.line)).getD 0 then some id else none
 | _=>none
noncomputable def pX (sc:Scope) (ts vs:List Expr):Bool := !(ts.length==2 || ts.length==3) || vs.length != ts.length || (aW sc ts).length != ts.length || (aW sc ts).eraseDups.length != (aW sc ts).length || vs.all (foldedForSure 8)
noncomputable def pY (C:Ctx) (i:Nat) (x:Str):Bool:=decide (C.N[i]? = some x)&&decide (C.sc.names.lookup x=some .local)
noncomputable def pZ (sc:Scope) (ts vs:List Expr) (ns:List Str):Bool := !(!(ts.length==2 || ts.length==3) || vs.length != ts.length) && !(vs.any fun | .Starred .. => true | _=>false)&&decide (aW sc ts=ns) && !((aW sc ts).length != ts.length || (aW sc ts).eraseDups.length != (aW sc ts).length) && !(vs.all (foldedForSure 8)) && !(vs.all (constantsAlone 8))
noncomputable def iP (sc:Scope) (tg e:Expr):Bool:=match tg,e with
 | .Tuple ts _ _, .Tuple vs _ _=>pX sc ts vs
 | .Tuple ..,_=>true
 | .Name ..,_=>true
 | _,_=>false
noncomputable def A6 (sc:Scope) (x:Str) (px:Pos) (e:Expr):Bool:=match e with
 | .DictComp _ _ _ s _ => !(sc.names.lookup x==some .local&&px.line==e.pos.line && !(s.names.any fun (n,k)=>n==x&&(k == .local || k == .cell)))
 | _=>true
noncomputable def q0 (sc:Scope) (x:Str) (px:Pos) (e:Expr):Bool:=match e with
 | .ListComp _ _ s _=>sc.names.lookup x==some .local&&px.line==e.pos.line && !(s.names.any fun (n,k)=>n==x&&(k == .local || k == .cell))
 | _=>false
noncomputable def q8 (s:Stmt):Option (List Expr×List Expr):=match wg s with
 | some ([t],e)=>match dw t with
   | some ts=>match dw e with
     | some es=>some (ts,es)
     | none=>none
   | none=>none
 | _=>none
theorem vq {s:Stmt} {ts es:List Expr} (h:q8 s=some (ts,es)):∃ k p k' p' pos,s = .Assign [.Tuple ts k p] (.Tuple es k' p') pos:=by
 unfold q8 at h
 split at h
 ·next t e h1 =>
  split at h
  ·next ts' h2 =>
   split at h
   ·next es' j =>
    cases h
    obtain ⟨k,p,rfl⟩:=cZ h2
    obtain ⟨k',p',rfl⟩:=cZ j
    obtain ⟨pos,rfl⟩:=vj h1
    exact ⟨k,p,k',p',pos,rfl⟩
   ·cases h
  ·cases h
 ·cases h
mutual
noncomputable def okS:MS->Ctx->Stmt->Bool
 | .asg g m,C,s=>match s with
  | .Assign [tg] e _=>okG g C tg&&okE m C e&&iP C.sc tg e&&(match tg with | .Name x px=>A6 C.sc x px e | _=>fB e)
  | _=>false
 | .par i j a b,C,s=>match q8 s with
  | some ([t,u],[e,f])=>match gK t with
    | some x=>match gK u with
      | some y=>pY C i x&&pY C j y&&decide (i≠j)&&aS e&&aS f&&okE a C e&&okE b C f&&pZ C.sc [t,u] [e,f] [x,y]
      | none=>false
    | none=>false
  | _=>false
 | .put o i m,C,s=>match s with
  | .Assign [.Subscript x y _] e _=>ca y&&fB e&&okE o C x&&okE i C y&&okE m C e
  | _=>false
 | .augI o i op m,C,s=>match s with
  | .AugAssign (.Subscript x y _) o' e _=>decide (o'=opO op)&&(match op with | .add | .sub | .mul=>true | _=>false)&&ca y&&okE o C x&&okE i C y&&okE m C e
  | _=>false
 | .drop m,C,s=>match s with
  | .Expr e _=>fB e&&okE m C e
  | _=>false
 | .ret m,C,s=>match s with
  | .Return (some e) _=>okE m C e
  | _=>false
 | .ite c a b,C,s=>match s with
  | .If t x y _=>okT c C t&&okSs a C x&&okSs b C y
  | _=>false
 | .for g src b,C,s=>match s with
  | .For tg it body [] _=>kz it&&okG g C tg&&okI src C tg it&&okSs b C body
  | _=>false
 | .while c b,C,s=>match s with
  | .While t body [] _=>okT c C t&&okSs b C body
  | _=>false
 | .frz _ m,C,s=>okS m C s
 | .pass,_,s=>match s with
  | .Pass _=>true
  | _=>false
 | .brk,_,s=>match s with
  | .Break _=>true
  | _=>false
 | .cnt,_,s=>match s with
  | .Continue _=>true
  | _=>false
noncomputable def okSs:MSs->Ctx->List Stmt->Bool
 | .nil,_,ss=>ss.isEmpty
 | .cons m r,C,ss=>match ss with
  | s::ss=>okS m C s&&okSs r C ss
  | [] => false
end
theorem ao {e:Expr} {es:List Expr} {env:Env} (h:aS e=true):starEach (e::es) env=(false,eval e env)::starEach es env:=by
 cases e <;> first | rfl | (simp [aS] at h;done)
theorem kc {e:Expr} {es:List Expr} {env:Env} (h:aS e=true):assignEach (e::es) env=(false,assign e env)::assignEach es env:=by
 cases e <;> first | rfl | (simp [aS] at h;done)
theorem q9 {e:Expr} {env:Env} (h:mF e=true):∀ whole,isTrue e env whole=(do let v <- whole;standAt e.pos;holding [v] (truthy v)):=by
 intro w
 cases e <;> first | rfl | (simp [mF] at h;done)
theorem vt {e:Expr} (h:ca e=true):j4 e:=by
 intro o i
 cases e <;> first | rfl | (simp [ca] at h;done)
theorem sg {e:Expr} {env:Env} (h:kz e=true):∀ x,foldedSetIterable e env x=pure x:=by
 intro x
 cases e <;> first | rfl | (simp [kz] at h;done)
theorem eJ {e:Expr} {n:Str} {env:Env} (h:cO e=true):attributeBase e n env (eval e env)=eval e env:=by
 cases e <;> first | rfl | (simp [cO] at h;done)
theorem jh {e:Expr} {t:Option Expr} {l:Nat} {env:Env} (h:fB e=true):swapsWith e t l env=pure false:=by
 cases e <;> first | rfl | (simp [fB] at h;done)
end
section
noncomputable def lSp (K:Frag) (r:RAd):Sp:=fun vs H Q _=>lR K r vs H Q
structure Good (C:Ctx) (Φ:Phi) (k:Nat) (X:Cx):Prop where
 hx:∀ e s,X.xe e s->False
 calm:X.calm=true
 N:X.N=C.N
 sc:X.env.scope=C.sc
 nd:X.N.Nodup
 fn:∀ x∈C.fn,X.fn x=true
 room:Room k X.A
 mgB:∀ x∈bltNames,X.mg x=none
 fns:∀ (i:Nat) (x:Str),C.Γ[i]? = some x -> ∃ f fd ps,X.mg x=some (.ref f)/\PySem.W.keepIn X.K (.ref f)=true/\Binds X.K fd ps []/\cT X.prog X.w X.K X.mg X.base CX0 k f fd ps (lSp X.K (Φ i))
 mono:∀ f,aV (Φ f)
 cs:∀ x i,(x,i)∈C.cs -> ∃ t,X.mg x=some (.int i t)
section
variable {C:Ctx} {Φ:Phi} {k:Nat} {X:Cx}
theorem Good.units (G:Good C Φ k X):X.A.units+64 < cLine:=G.room.units
theorem Good.gl (G:Good C Φ k X) {x:Str} (h:glB C.sc x=true):Gl X x:=by
 show X.env.scope.names.lookup x=_
 rw [G.sc]
 simpa [glB] using h
theorem Good.vis (G:Good C Φ k X) {x:Str} (h:vf C.sc x=true):Vis X.env.scope x:=by
 unfold Vis
 rw [G.sc]
 simp [vf] at h
 rcases h with (h | h) | h
 ·exact .inl h
 ·exact .inr (.inl h)
 ·exact .inr (.inr h)
theorem Good.loc (G:Good C Φ k X) {x:Str} (h:vg C.sc x=true):Loc X.env.scope x:=by
 unfold Loc
 rw [G.sc]
 simpa [vg] using h
theorem Good.own (G:Good C Φ k X) {x:Str} (h:(C.sc.names.lookup x==some .local || C.fn.contains x)=true):X.fn x=true∨X.env.scope.names.lookup x=some .local:=by
 rw [G.sc]
 simp at h
 rcases h with h | h
 ·exact .inr h
 ·exact .inl (G.fn x h)
theorem A7 (G:Good C Φ k X):∀ o:BOp,OpR X (binaryOp (opO o)) (l2 X.K (opB o))
 | .add=>u8 | .sub=>u9 | .mul=>ua | .fdiv=>qQ | .mod=>uc | .pow=>ud
theorem cP (G:Good C Φ k X):∀ o:COp,OpR X (compareOp (gI o)) (l2 X.K (opC o))
 | .eq=>xp (by have:=G.units;lia) | .ne=>xq (by have:=G.units;lia) | .lt=>xw | .le=>xx | .gt=>xz | .ge=>xA| .isn=>uJ| .neE=>va (by have:=G.units;lia)| .ninD=>rZ (by have:=G.units;lia)
theorem A8 (G:Good C Φ k X) {f:BF} {e:Expr} {es:List Expr} {t:TAd} {p pos:Pos} (mt:bb t) (n:Gl X (mG f)) (q:PA X (e::es) (lA X.K t))
 (he:starEach (e::es) X.env=(false,eval e X.env)::starEach es X.env) (j:(backTo pos (starEach es X.env)).any (·.1)=false):PE X (.Call (.Name (mG f) p) (e::es) [] pos) (lE X.K (wAr (opF f) t)):=by
 cases f with
 | len=>exact PE.imp (bO pA n (G.mgB _ (by decide)) PySem.boot_len q (by decide) (by decide) he j) (br kW mt)
 | abs=>exact PE.imp (bO pB n (G.mgB _ (by decide)) (by decide +kernel) q (by decide) (by decide) he j) (br kZ mt)
 | min2=>exact PE.imp (bO (no G.calm) n (G.mgB _ (by decide)) (by decide +kernel) q (by decide) (by decide) he j) (br jG mt)
 | int=>exact PE.imp (eU pC n (G.mgB _ (by decide)) (by decide +kernel) q (by decide) (by decide) he j) (br lc mt)
 | tuple=>exact PE.imp (eU lg n (G.mgB _ (by decide)) (by decide +kernel) q (by decide) (by decide) he j) (br ii mt)
 | all=>exact PE.imp (bO (pM G.calm) n (G.mgB _ (by decide)) (by decide +kernel) q (by decide) (by decide) he j) (br lL mt)
 | sorted=>exact PE.imp (bO (ki (by have:=G.units;lia)) n (G.mgB _ (by decide)) (by decide +kernel) q (by decide) (by decide) he j) (br gj mt)
 | dicti=>exact PE.imp (eU (mC (by have:=G.units;lia) G.calm) n (G.mgB _ (by decide)) (by decide +kernel) q (by decide) (by decide) he j) (br iN mt)
 | sortk=>exact PE.imp (bO (mv (by have:=G.units;lia) G.calm) n (G.mgB _ (by decide)) (by decide +kernel) q (by decide) (by decide) he j) (br iM mt)
theorem yf (G:Good C Φ k X) {f:Nat} {x:Str} {e:Expr} {es:List Expr} {t:TAd} {p pos:Pos} (mt:bb t) (hf:C.Γ[f]? = some x) (q:Gl X x) (j:(x==("__debug__":Str))=false) (z:PA X (e::es) (lA X.K t))
 (he:starEach (e::es) X.env=(false,eval e X.env)::starEach es X.env) (n:(backTo pos (starEach es X.env)).any (·.1)=false):PE X (.Call (.Name x p) (e::es) [] pos) (lE X.K (wAr (Φ f) t)):=by
 obtain ⟨a,fd,ps,hm,B,hb,F⟩:=G.fns f x hf
 refine PE.imp (wX F G.room q hm B hb .nil vZ z j he n) fun σ H Q h => ?_
 have h2:=br (G.mono f) mt σ H Q h
 have:(fun vs H1=>lSp X.K (Φ f) (vs++[]) H1 Q E0)=fun vs H1=>lR X.K (Φ f) vs H1 Q:=by
  funext vs H1;rw [List.append_nil];rfl
 show (lA X.K t) σ H _
 rw [this]
 exact h2
theorem vw (G:Good C Φ k X) {f:Nat} {x:Str} {p pos:Pos} (hf:C.Γ[f]? = some x) (n:Gl X x) (j:(x==("__debug__":Str))=false):PE X (.Call (.Name x p) [] [] pos) (lE X.K (wAr (Φ f) bV)):=by
 obtain ⟨a,fd,ps,hm,z,hb,F⟩:=G.fns f x hf
 refine PE.imp (tL F G.room n hm z hb .nil vZ j) fun σ H Q h => ?_
 obtain ⟨ρ,M,rs,rm,q⟩:=h
 exact ⟨[],M,rm,RDs.nil,q⟩
theorem gL {env:Env} {pos:Pos}:∀ {es:List Expr},es.all aS=true->(backTo pos (starEach es env)).any (·.1)=false
 | [],_=>rfl
 | e::es,h=>by
   simp only [List.all_cons,Bool.and_eq_true] at h
   rw [ao h.1]
   show (false || (backTo pos (starEach es env)).any (·.1))=false
   rw [gL h.2];rfl
theorem fC:∀ {ms:MEs} {es:List Expr},okEs ms C es=true->es.all aS=true
 | .nil,[],_=>rfl
 | .nil,_::_,h=>by simp [okEs] at h
 | .cons m r,[],h=>by simp [okEs] at h
 | .cons m r,e::es,h=>by
  simp only [okEs,Bool.and_eq_true] at h
  simp only [List.all_cons,Bool.and_eq_true]
  exact ⟨h.1.1,fC h.2⟩
theorem nZ:∀ {gs:MGs} {es:List Expr},okGs gs C es=true -> ∀ ds ρ ρ',bGs gs ds ρ = some ρ'->ds.length=es.length
 | .nil,es,h,ds, ρ, ρ',e=>by
  simp [okGs] at h;subst h
  rw [bGs] at e
  cases ds with
  | nil=>rfl
  | cons _ _=>cases e
 | .cons g r,[],h,_,_,_,_=>by simp [okGs] at h
 | .cons g r,x::es,h,ds, ρ, ρ',e=>by
  simp only [okGs,Bool.and_eq_true] at h
  rw [bGs] at e
  cases ds with
  | nil=>cases e
  | cons d ds =>
    simp only [bD] at e
    cases e1:bG g d ρ with
    | none=>rw [e1] at e;cases e
    | some ρ1 =>
      rw [e1] at e
      simp [nZ h.2 ds ρ1 ρ' e]
theorem mH {env:Env}:∀ {gs:MGs} {es:List Expr},okGs gs C es=true->(assignEach es env).length=es.length/\(assignEach es env).findIdx? (·.1)=none
 | .nil,es,h=>by simp [okGs] at h;subst h;exact ⟨rfl,rfl⟩
 | .cons g r,[],h=>by simp [okGs] at h
 | .cons g r,x::es,h=>by
  simp only [okGs,Bool.and_eq_true] at h
  obtain ⟨a,b⟩:=mH (env:=env) h.2
  rw [kc h.1.1]
  refine ⟨by simp [a], ?_⟩
  rw [List.findIdx?_cons]
  simp [b]
mutual
theorem sG (G:Good C Φ k X):∀ (m:MG) (e:Expr),okG m C e=true->PG X e (lG X.K (bG m))
 | .name i,e,h=>by
  simp only [okG] at h
  split at h
  ·simp only [Bool.and_eq_true] at h
   exact xN G.nd (by rw [G.N];exact of_decide_eq_true h.1.1) (G.loc h.1.2) (G.own h.2)
  ·cases h
 | .tup gs,e,h=>by
  simp only [okG] at h
  split at h
  ·rw [bG]
   obtain ⟨a,b⟩:=mH (env:=X.env) h
   exact zM G.calm (nZ h) (sGs G gs _ h) a b
  ·cases h
theorem sGs (G:Good C Φ k X):∀ (m:MGs) (es:List Expr),okGs m C es=true->PGs X es (lGs X.K (bGs m))
 | .nil,es,h=>by
  simp [okGs] at h;subst h
  exact xO
 | .cons g r,[],h=>by simp [okGs] at h
 | .cons g r,e::es,h=>by
  simp only [okGs,Bool.and_eq_true] at h
  exact uo (sG G g e h.1.2) (sGs G r es h.2) (by rw [kc h.1.1];rfl)
end
theorem PB.imp {F:Sem Fin->Sem Fin} {t t':TC} (h:PB X F t) (i:∀ σ H N,t' σ H N->t σ H N):PB X F t':=fun pins s σ H N k Q E I q hk=>h pins s σ H N k Q E I (i _ _ _ q) hk
theorem iQ {sc osc:Scope} {oN N':List Str} {fr:List (Option Nat)} (h:vh sc osc oN N' fr=true):aY sc osc oN N' fr:=by
 simp only [vh,Bool.and_eq_true,decide_eq_true_eq] at h
 obtain ⟨⟨⟨⟨⟨h1,h2⟩,B⟩,F⟩,G⟩,I⟩:=h
 refine ⟨h1,h2,B,fun x hx e => ?_,G,fun i j x hi hf => ?_⟩
 ·have q:=List.all_eq_true.mp F x hx
  rw [e] at q
  simpa using q
 ·have z:i < N'.length:=(List.getElem?_eq_some_iff.mp hi).1
  have n:=List.all_eq_true.mp I i (List.mem_range.mpr z)
  rw [hf,hi] at n
  simp only [Bool.and_eq_true,decide_eq_true_eq,List.any_eq_true] at n
  obtain ⟨a,y,J,e⟩:=n
  exact ⟨a,by rw [<- e];exact J⟩
theorem Good.blk (G:Good C Φ k X) {sc:Scope} {N':List Str} {fr:List (Option Nat)} (B:aY sc C.sc C.N N' fr) (s:Shared) (H:Hp) (fp:List Addr) :
 Good ⟨C.Γ,N',gJ sc C.sc,(sc.names.filter (·.2 == .cell)).map (·.1),C.cs⟩ Φ k (aF X sc N' s H fp):=by
 refine ⟨fun _ _ h=>h,G.calm,rfl, ?_,B.ndN,fun x hx => ?_,G.room,G.mgB,G.fns,G.mono,G.cs⟩
 ·show relabel sc X.env=_
  rw [nC,G.sc]
 ·obtain ⟨y,q,e⟩:=List.mem_map.mp hx
  obtain ⟨h1,h2⟩:=List.mem_filter.mp q
  obtain ⟨n,kd⟩:=y
  have j:kd = .cell:=by simpa using h2
  subst j
  have e':n=x:=e
  subst e'
  show (sc.names.lookup n==some .cell)=true
  rw [aQ B.nd h1]
  rfl
end
end
section
section
variable {Φ:Phi} {k:Nat}
theorem cQ {C:Ctx} {X:Cx} (G:Good C Φ k X) {F:Sem Fin->Sem Fin} {p:Addr} {tb:TCd} {ifs:List Expr} {ts:List TTd} (mb:bE tb) (mt:∀ t∈ts,aD t) (hb:PB X F (lC X.K p tb)) (j:Paired (fun c t=>PT X c t) ifs (ts.map (lT X.K))) :
 PB X (fun k=>b9 ifs X.env >>= fun ok=>if ok=true then F k else k) (lC X.K p (bf ts tb)) :=
 PB.imp (tV G.hx hb j) (iz mb mt)
theorem fD {m:MC} {Cs C:Ctx} {g2:Comprehension} {gs:List Comprehension} {elt:Expr} (h:okC m Cs C (g2::gs) elt=true):g2.is_async=0:=by
 obtain ⟨t,i,f,a⟩:=g2
 cases m with
 | last src g ifs m =>
   cases gs with
   | nil=>simp only [okC,Bool.and_eq_true,decide_eq_true_eq] at h;exact h.1.1.1.1
   | cons _ _=>simp [okC] at h
 | more src g ifs rest =>
   cases gs with
   | nil=>simp [okC] at h
   | cons _ _=>simp only [okC,Bool.and_eq_true,decide_eq_true_eq] at h;exact h.1.1.1.1
theorem vx {C:Ctx} {X:Cx} (G:Good C Φ k X):∀ T∈["bool", "int", "str", "tuple", "list", "dict"],X.mg (Str.ofString T)=none/\bootBuiltins (Str.ofString T)=some (.type T)/\Str.ofString T ≠ "__name__" /\ (Str.ofString T==("__debug__":Str))=false:=by
 intro T j
 simp only [List.mem_cons,List.not_mem_nil,or_false] at j
 rcases j with rfl | rfl | rfl | rfl | rfl | rfl
 all_goals exact ⟨G.mgB _ (by decide),by decide +kernel,by decide,by decide⟩
mutual
theorem sE:∀ (m:ME) {C:Ctx} {X:Cx} (G:Good C Φ k X) (e:Expr),okE m C e=true->PE X e (lE X.K (wE Φ m))
 | .var i,C,X,G,e,h=>by
  simp only [okE] at h
  split at h
  ·simp only [Bool.and_eq_true,Bool.not_eq_true',decide_eq_true_eq] at h
   exact zy (by rw [G.N];exact h.1.1.1) (G.vis h.1.1.2) h.1.2 h.2
  ·cases h
 | .int i,C,X,G,e,h=>by
  simp only [okE] at h
  split at h
  ·rw [of_decide_eq_true h];exact le_int
  ·cases h
 | .bl i,C,X,G,e,h=>by
  simp only [okE] at h
  split at h
  ·rw [eq_of_beq h];exact AQ
  ·cases h
 | .non,C,X,G,e,h=>by
  simp only [okE] at h
  split at h
  ·exact zz
  ·cases h
 | .bin op a b,C,X,G,e,h=>by
  simp only [okE] at h
  split at h
  ·simp only [Bool.and_eq_true,decide_eq_true_eq] at h
   rw [h.1.1]
   exact AR (A7 G op) (mD op) (mE G.mono a) (mE G.mono b) (sE a G _ h.1.2) (sE b G _ h.2)
  ·cases h
 | .neg a,C,X,G,e,h=>by
  simp only [okE] at h
  split at h
  ·exact AS ue kU (mE G.mono a) (sE a G _ h)
  ·cases h
 | .cmp op a b,C,X,G,e,h=>by
  simp only [okE] at h
  split at h
  ·next l o r j =>
   obtain ⟨pos,rfl⟩:=eI j
   simp only [Bool.and_eq_true,decide_eq_true_eq] at h
   obtain ⟨⟨⟨ho,O⟩,hb⟩,hm⟩:=h
   rw [Bool.not_eq_true'] at hm
   subst ho
   exact zA (cP G op) (b5 op) (mE G.mono a) (mE G.mono b) (sE a G _ O) (sE b G _ hb) hm
  ·cases h
 | .and es,C,X,G,e,h=>by
  simp only [okE] at h
  split at h
  ·simp only [Bool.and_eq_true] at h
   exact sAnds es G _ _ h.2 (by intro z;rw [z] at h;simp at h)
  ·cases h
 | .or es,C,X,G,e,h=>by
  simp only [okE] at h
  split at h
  ·simp only [Bool.and_eq_true] at h
   exact sOrs es G _ _ h.2 (by intro z;rw [z] at h;simp at h)
  ·cases h
 | .not a,C,X,G,e,h=>by
  simp only [okE] at h
  split at h
  ·exact zK (mE G.mono a) (sE a G _ h)
  ·cases h
 | .ite c a b,C,X,G,e,h=>by
  simp only [okE] at h
  split at h
  ·simp only [Bool.and_eq_true] at h
   exact AY (mT G.mono c) (mE G.mono a) (mE G.mono b) (sT c G _ h.1.1) (sE a G _ h.1.2) (sE b G _ h.2)
  ·cases h
 | .tup es,C,X,G,e,h=>by
  simp only [okE] at h
  split at h
  ·exact zC (mA G.mono es) (sA es G _ h)
  ·cases h
 | .lst es,C,X,G,e,h=>by
  simp only [okE] at h
  split at h
  ·exact zD (mA G.mono es) (sA es G _ h)
  ·cases h
 | .ix a b,C,X,G,e,h=>by
  simp only [okE] at h
  split at h
  ·simp only [Bool.and_eq_true] at h
   exact AT (BG (by have:=G.units;lia)) nM (mE G.mono a) (mE G.mono b) (sE a G _ h.1.2) (sE b G _ h.2) (vt h.1.1)
  ·cases h
 | .sl a lo hi,C,X,G,e,h=>by
  simp only [okE] at h
  split at h
  ·next x l u j =>
   obtain ⟨p,pos,rfl⟩:=pW j
   simp only [Bool.and_eq_true] at h
   exact AZ (mE G.mono a) (mO G.mono lo) (mO G.mono hi) (sE a G _ h.1.1) (sO lo G _ h.1.2) (sO hi G _ h.2)
  ·cases h
 | .call f es,C,X,G,e,h=>by
  simp only [okE] at h
  split at h
  ·next x xs j =>
   obtain ⟨p,pos,rfl⟩:=bB j
   simp only [Bool.and_eq_true,decide_eq_true_eq,Bool.not_eq_true'] at h
   have S:=sA es G _ h.2
   have I:=fC h.2
   cases xs with
   | nil =>
     cases es with
     | nil=>exact vw G h.1.1.1 (G.gl h.1.1.2) h.1.2
     | cons _ _=>simp [okEs] at h
   | cons y ys =>
     simp only [List.all_cons,Bool.and_eq_true] at I
     exact yf G (mA G.mono es) h.1.1.1 (G.gl h.1.1.2) h.1.2 S (ao I.1) (gL I.2)
  ·cases h
 | .blt f es,C,X,G,e,h=>by
  simp only [okE] at h
  split at h
  ·next x xs j =>
   obtain ⟨p,pos,rfl⟩:=bB j
   simp only [Bool.and_eq_true,decide_eq_true_eq,Bool.not_eq_true'] at h
   have S:=sA es G _ h.2
   have I:=fC h.2
   obtain ⟨⟨⟨rfl,J⟩,U⟩,_⟩:=h
   cases xs with
   | nil=>simp at U
   | cons y ys =>
     simp only [List.all_cons,Bool.and_eq_true] at I
     exact A8 G (mA G.mono es) (G.gl J) S (ao I.1) (gL I.2)
  ·cases h
 | .chain op op' a b c,C,X,G,e,h=>by
  simp only [okE] at h
  split at h
  ·next l o o' r q Y =>
   obtain ⟨pos,rfl⟩:=eI Y
   simp only [Bool.and_eq_true,decide_eq_true_eq,Bool.not_eq_true'] at h
   obtain ⟨⟨⟨⟨⟨rfl,rfl⟩,O⟩,hb⟩,j⟩,hm⟩:=h
   exact uL (cP G op) (cP G op') (b5 op) (b5 op') (mE G.mono a) (mE G.mono b) (mE G.mono c) (sE a G _ O) (sE b G _ hb) (sE c G _ j) hm
  ·cases h
 | .glob x k',C,X,G,e,h=>by
  simp only [okE] at h
  split at h
  ·simp only [Bool.and_eq_true,decide_eq_true_eq,Bool.not_eq_true'] at h
   obtain ⟨⟨⟨rfl,J⟩,j⟩,hd⟩:=h
   obtain ⟨t,R⟩:=G.cs _ _ j
   exact PE.imp (wG (v := .int k') (G.gl J) R ⟨t,rfl⟩ hd) fun σ H Q ⟨ρ,M,rs,rm,q⟩=>q _ H Ext.refl rm (RD.int_iff.mpr rfl)
  ·cases h
 | .dnew t,C,X,G,e,h=>by
  simp only [okE] at h
  split at h
  ·exact xT
  ·cases h
 | .sortI a,C,X,G,e,h=>by
  simp only [okE] at h
  split at h
  ·next x w j =>
   obtain ⟨p,pos,rfl⟩:=bB j
   split at h
   ·next y n ap cp Z =>
    cases dy Z
    simp only [Bool.and_eq_true,decide_eq_true_eq] at h
    obtain ⟨⟨⟨⟨⟨rfl,J⟩,rfl⟩,L⟩,hl⟩,O⟩:=h
    exact uS (by have:=G.units;lia) (mE G.mono a) G.calm (sE a G _ O) (G.gl J) (G.mgB _ (by decide)) (eJ L) hl
   ·cases h
  ·cases h
 | .dget o k' x,C,X,G,e,h=>by
  simp only [okE] at h
  split at h
  ·next y n e1 e2 ap cp j =>
   cases dy j
   simp only [Bool.and_eq_true,decide_eq_true_eq] at h
   obtain ⟨⟨⟨⟨⟨⟨⟨rfl,L⟩,hl⟩,BP⟩,BQ⟩,ho⟩,hk⟩,hx⟩:=h
   have st:starEach [e1,e2] X.env=[(false,eval e1 X.env),(false,eval e2 X.env)]:=by
    rw [ao BP,ao BQ];rfl
   refine y9 (by have:=G.units;lia) (mE G.mono o) (mE G.mono k') (mE G.mono x) (sE o G _ ho) (sE k' G _ hk) (sE x G _ hx) ⟨eJ L, ?_,hl, ?_⟩
   ·rw [st];rfl
   ·rw [st];rfl
  ·cases h
 | .isin a T,C,X,G,e,h=>by
  simp only [okE] at h
  split at h
  ·next x y z' j =>
   obtain ⟨p,pos,rfl⟩:=bB j
   split at h
   ·next z BR =>
    obtain ⟨p2,rfl⟩:=fY BR
    simp only [Bool.and_eq_true,decide_eq_true_eq] at h
    obtain ⟨⟨⟨⟨⟨⟨rfl,J⟩,BS⟩,hz⟩,hT⟩,hs⟩,O⟩:=h
    obtain ⟨n1,n2,n3,n4⟩:=vx G T hT
    subst hz
    exact xJ hT (mE G.mono a) (sE a G _ O) (G.gl J) (G.mgB _ (by decide)) (G.gl BS) n1 n2 n3 n4 (ao hs) rfl
   ·cases h
  ·cases h
 | .meth m o a,C,X,G,e,h=>by
  simp only [okE] at h
  split at h
  ·next x n y ap cp j =>
   cases dy j
   simp only [Bool.and_eq_true,decide_eq_true_eq] at h
   obtain ⟨⟨⟨⟨⟨hn,L⟩,hl⟩,hs⟩,ho⟩,O⟩:=h
   subst hn
   have pa:PA X [y] (lA X.K (be (wE Φ a) bV)):=bR (mE G.mono a) aI (sE a G _ O) dM (ao hs)
   have few:((backTo cp (starEach [y] X.env)).all (fun x => !x.1)&&(backToKw cp (keywordEach [] X.env)).all (fun x=>x.1.isSome)&&decide (([y]:List Expr).length+([]:List Keyword).length+(if ([]:List Keyword).isEmpty then 0 else 1) < 30))=true:=by
    rw [ao hs];rfl
   cases m with
   | append=>exact PE.imp (AL PySem.F.plainAttrs_list PySem.F.slot_list_append PySem.F.type_list_append jz (sE o G _ ho) pa (eJ L) few hl (ao hs) rfl) (xL gf (mE G.mono o) (aG (mE G.mono a) aI) um)
  ·cases h
 | .comp fr N' c,C,X,G,e,h=>by
  simp only [okE] at h
  split at h
  ·rename_i elt gens sc pos
   simp only [Bool.and_eq_true] at h
   have B:aY sc X.env.scope X.N N' fr:=by rw [G.sc,G.N];exact iQ h.1
   have B':aY sc C.sc C.N N' fr:=iQ h.1
   cases c with
   | last src g ifs m =>
     have h2:=h.2
     simp only [okC] at h2
     split at h2
     ·rename_i t it fs a
      simp only [Bool.and_eq_true,decide_eq_true_eq] at h2
      obtain ⟨⟨⟨⟨rfl,hi⟩,J⟩,R⟩,he⟩:=h2
      refine PE.imp (gd G.calm G.hx B (fun g' z=>by simp at z) (sI src G _ t hi).1 (fun s H fp=>sG (G.blk B' s H fp) g t J) (tb:=fun p=>lC X.K p (bf (wTl Φ ifs) (dq (wE Φ m)))) (fun s H fp p => ?_) (sI src G _ t hi).2) (dr (mI G.mono src) (aM (bm (mE G.mono m)) (mTl G.mono ifs)))
      have G':=G.blk B' s H fp
      exact cQ (p:=p) G' (bm (mE G.mono m)) (mTl G.mono ifs) (PB.imp (j6 G'.hx (sE m G' elt he) rfl) (fh (mE G.mono m))) (sTl ifs G' fs R)
     ·cases h2
   | more src g ifs rest =>
     have h2:=h.2
     simp only [okC] at h2
     split at h2
     ·rename_i t it fs a g2 gs
      simp only [Bool.and_eq_true,decide_eq_true_eq] at h2
      obtain ⟨⟨⟨⟨rfl,hi⟩,J⟩,R⟩,he⟩:=h2
      have BU:∀ g',(g2::gs)[0]? = some g'->g'.is_async=0:=fun g' z=>by
       have z':g2=g':=by simpa using z
       subst z'
       exact fD he
      refine PE.imp (gd G.calm G.hx B BU (sI src G _ t hi).1 (fun s H fp=>sG (G.blk B' s H fp) g t J) (tb:=fun p=>lC X.K p (bf (wTl Φ ifs) (wCl Φ rest))) (fun s H fp p => ?_) (sI src G _ t hi).2) (dr (mI G.mono src) (aM (mCl G.mono rest) (mTl G.mono ifs)))
      have G':=G.blk B' s H fp
      exact cQ (p:=p) G' (mCl G.mono rest) (mTl G.mono ifs) (sCl rest G' elt (⟨t,it,fs,0⟩::g2::gs) sc pos 0 (.inl rfl) p he) (sTl ifs G' fs R)
     ·cases h2
  ·cases h
theorem sA:∀ (m:MEs) {C:Ctx} {X:Cx} (G:Good C Φ k X) (es:List Expr),okEs m C es=true->PA X es (lA X.K (wA Φ m))
 | .nil,C,X,G,es,h=>by
  simp [okEs] at h;subst h
  exact dM
 | .cons m r,C,X,G,[],h=>by simp [okEs] at h
 | .cons m r,C,X,G,e::es,h=>by
  simp only [okEs,Bool.and_eq_true] at h
  exact bR (mE G.mono m) (mA G.mono r) (sE m G e h.1.2) (sA r G es h.2) (ao h.1.1)
theorem sAnds:∀ (m:MEs) {C:Ctx} {X:Cx} (G:Good C Φ k X) (es:List Expr) (pos:Pos),okEs m C es=true->es≠[]->PE X (.BoolOp .And es pos) (lE X.K (wAnds Φ m))
 | .nil,C,X,G,es,pos,h,j=>by simp [okEs] at h;exact absurd h j
 | .cons m r,C,X,G,[],pos,h,j=>absurd rfl j
 | .cons m .nil,C,X,G,e::es,pos,h,_=>by
  simp only [okEs,Bool.and_eq_true] at h
  obtain ⟨h1,h2⟩:=h
  simp at h2;subst h2
  exact qX (sE m G e h1.2)
 | .cons m (.cons m2 r),C,X,G,e::es,pos,h,_=>by
  simp only [okEs,Bool.and_eq_true] at h
  obtain ⟨h1,h2⟩:=h
  cases es with
  | nil=>simp at h2
  | cons f fs =>
    exact zJ (mE G.mono m) (mAnds G.mono _) (sE m G e h1.2) (sAnds (.cons m2 r) G (f::fs) pos (by simpa only [okEs,Bool.and_eq_true] using h2) (by simp))
theorem sOrs:∀ (m:MEs) {C:Ctx} {X:Cx} (G:Good C Φ k X) (es:List Expr) (pos:Pos),okEs m C es=true->es≠[]->PE X (.BoolOp .Or es pos) (lE X.K (wOrs Φ m))
 | .nil,C,X,G,es,pos,h,j=>by simp [okEs] at h;exact absurd h j
 | .cons m r,C,X,G,[],pos,h,j=>absurd rfl j
 | .cons m .nil,C,X,G,e::es,pos,h,_=>by
  simp only [okEs,Bool.and_eq_true] at h
  obtain ⟨h1,h2⟩:=h
  simp at h2;subst h2
  exact qX (sE m G e h1.2)
 | .cons m (.cons m2 r),C,X,G,e::es,pos,h,_=>by
  simp only [okEs,Bool.and_eq_true] at h
  obtain ⟨h1,h2⟩:=h
  cases es with
  | nil=>simp at h2
  | cons f fs =>
    exact AX (mE G.mono m) (mOrs G.mono _) (sE m G e h1.2) (sOrs (.cons m2 r) G (f::fs) pos (by simpa only [okEs,Bool.and_eq_true] using h2) (by simp))
theorem sO:∀ (m:MO) {C:Ctx} {X:Cx} (G:Good C Φ k X) (e:Option Expr),okO m C e=true->PO X e (lO X.K (wO Φ m))
 | .none,C,X,G,e,h=>by
  simp [okO] at h;subst h
  exact xE
 | .some m,C,X,G,none,h=>by simp [okO] at h
 | .some m,C,X,G,some e,h=>by
  simp only [okO] at h
  exact xF (mE G.mono m) (sE m G e h)
theorem sT:∀ (m:MT) {C:Ctx} {X:Cx} (G:Good C Φ k X) (e:Expr),okT m C e=true->PT X e (lT X.K (wT Φ m))
 | .tru m,C,X,G,e,h=>by
  simp only [okT,Bool.and_eq_true] at h
  exact zF (mE G.mono m) (sE m G e h.2) (q9 h.1)
 | .cmp op a b,C,X,G,e,h=>by
  simp only [okT] at h
  split at h
  ·next l o r j =>
   obtain ⟨pos,rfl⟩:=eI j
   simp only [Bool.and_eq_true,decide_eq_true_eq] at h
   obtain ⟨⟨⟨ho,n⟩,hb⟩,hm⟩:=h
   rw [Bool.not_eq_true'] at hm
   subst ho
   exact zB (cP G op) (b5 op) (mE G.mono a) (mE G.mono b) (sE a G _ n) (sE b G _ hb) hm
  ·cases h
 | .chain op op' a b c,C,X,G,e,h=>by
  simp only [okT] at h
  split at h
  ·next l o o' r q B =>
   obtain ⟨pos,rfl⟩:=eI B
   simp only [Bool.and_eq_true,decide_eq_true_eq,Bool.not_eq_true'] at h
   obtain ⟨⟨⟨⟨⟨rfl,rfl⟩,n⟩,hb⟩,j⟩,hm⟩:=h
   exact uM (cP G op) (cP G op') (b5 op) (b5 op') (mE G.mono a) (mE G.mono b) (mE G.mono c) (sE a G _ n) (sE b G _ hb) (sE c G _ j) hm
  ·cases h
 | .and ts,C,X,G,e,h=>by
  simp only [okT] at h
  split at h
  ·simp only [Bool.and_eq_true] at h
   exact (sAndTs ts G _ _ h.2 (by intro z;rw [z] at h;simp at h)).pt
  ·cases h
 | .or ts,C,X,G,e,h=>by
  simp only [okT] at h
  split at h
  ·simp only [Bool.and_eq_true] at h
   exact (sOrTs ts G _ _ h.2 (by intro z;rw [z] at h;simp at h)).pt
  ·cases h
 | .not t,C,X,G,e,h=>by
  simp only [okT] at h
  split at h
  ·exact zG (mT G.mono t) (sT t G _ h)
  ·cases h
theorem sAndTs:∀ (m:MTs) {C:Ctx} {X:Cx} (G:Good C Φ k X) (es:List Expr) (pos:Pos),okTs m C es=true->es≠[]->PW X (.BoolOp .And es pos) (lT X.K (wAndTs Φ m))
 | .nil,C,X,G,es,pos,h,j=>by simp [okTs] at h;exact absurd h j
 | .cons m r,C,X,G,[],pos,h,j=>absurd rfl j
 | .cons m .nil,C,X,G,e::es,pos,h,_=>by
  simp only [okTs,Bool.and_eq_true] at h
  obtain ⟨h1,h2⟩:=h
  simp at h2;subst h2
  exact xC (sT m G e h1)
 | .cons m (.cons m2 r),C,X,G,e::es,pos,h,_=>by
  simp only [okTs,Bool.and_eq_true] at h
  obtain ⟨h1,h2⟩:=h
  cases es with
  | nil=>simp at h2
  | cons f fs =>
    exact zI (mT G.mono m) (mAndTs G.mono _) (sT m G e h1) (sAndTs (.cons m2 r) G (f::fs) pos (by simpa only [okTs,Bool.and_eq_true] using h2) (by simp))
theorem sOrTs:∀ (m:MTs) {C:Ctx} {X:Cx} (G:Good C Φ k X) (es:List Expr) (pos:Pos),okTs m C es=true->es≠[]->PW X (.BoolOp .Or es pos) (lT X.K (wOrTs Φ m))
 | .nil,C,X,G,es,pos,h,j=>by simp [okTs] at h;exact absurd h j
 | .cons m r,C,X,G,[],pos,h,j=>absurd rfl j
 | .cons m .nil,C,X,G,e::es,pos,h,_=>by
  simp only [okTs,Bool.and_eq_true] at h
  obtain ⟨h1,h2⟩:=h
  simp at h2;subst h2
  exact zH (sT m G e h1)
 | .cons m (.cons m2 r),C,X,G,e::es,pos,h,_=>by
  simp only [okTs,Bool.and_eq_true] at h
  obtain ⟨h1,h2⟩:=h
  cases es with
  | nil=>simp at h2
  | cons f fs =>
    exact AW (mT G.mono m) (mOrTs G.mono _) (sT m G e h1) (sOrTs (.cons m2 r) G (f::fs) pos (by simpa only [okTs,Bool.and_eq_true] using h2) (by simp))
theorem sTl:∀ (m:MTs) {C:Ctx} {X:Cx} (G:Good C Φ k X) (es:List Expr),okTs m C es=true->Paired (fun c t=>PT X c t) es ((wTl Φ m).map (lT X.K))
 | .nil,C,X,G,es,h=>by
  simp [okTs] at h;subst h
  exact .nil
 | .cons m r,C,X,G,[],h=>by simp [okTs] at h
 | .cons m r,C,X,G,e::es,h=>by
  simp only [okTs,Bool.and_eq_true] at h
  exact .cons (sT m G e h.1) (sTl r G es h.2)
theorem sI:∀ (m:MI) {C:Ctx} {X:Cx} (G:Good C Φ k X) (e tg:Expr),okI m C tg e=true->PI X tg e (lI X.K (wI Φ m)) /\ ∀ x,foldedSetIterable e X.env x=pure x
 | .seq m,C,X,G,e,tg,h=>by
  simp only [okI,Bool.and_eq_true] at h
  exact ⟨zP (mE G.mono m) (sE m G e h.2),sg h.1⟩
 | .rng1 a,C,X,G,e,tg,h=>by
  simp only [okI] at h
  split at h
  ·next x y q =>
   obtain ⟨p,pos,rfl⟩:=bB q
   simp only [Bool.and_eq_true,decide_eq_true_eq] at h
   obtain ⟨⟨⟨rfl,I⟩,hs⟩,B⟩:=h
   exact ⟨xP (aG (mE G.mono a) aI) (G.gl I) (G.mgB _ (by decide)) (bR (mE G.mono a) aI (sE a G _ B) dM (ao hs)) (ao hs),fun x=>rfl⟩
  ·cases h
 | .enum a,C,X,G,e,tg,h=>by
  simp only [okI] at h
  split at h
  ·next x y q =>
   obtain ⟨p,pos,rfl⟩:=bB q
   simp only [Bool.and_eq_true,decide_eq_true_eq] at h
   obtain ⟨⟨⟨⟨j,rfl⟩,I⟩,hs⟩,B⟩:=h
   obtain ⟨ts,j⟩:=Option.isSome_iff_exists.mp j
   obtain ⟨kt,pt,rfl⟩:=cZ j
   exact ⟨xQ (mE G.mono a) (G.gl I) (G.mgB _ (by decide)) (bR (mE G.mono a) aI (sE a G _ B) dM (ao hs)) (ao hs),fun x=>rfl⟩
  ·cases h
 | .items a,C,X,G,e,tg,h=>by
  simp only [okI] at h
  split at h
  ·next x n ap cp q =>
   cases dy q
   simp only [Bool.and_eq_true,decide_eq_true_eq] at h
   obtain ⟨⟨⟨⟨j,rfl⟩,J⟩,hl⟩,B⟩:=h
   obtain ⟨ts,j⟩:=Option.isSome_iff_exists.mp j
   obtain ⟨kt,pt,rfl⟩:=cZ j
   exact ⟨uY (mE G.mono a) (sE a G _ B) (eJ J) hl,fun x=>rfl⟩
  ·cases h
 | .zip a b,C,X,G,e,tg,h=>by
  simp only [okI] at h
  split at h
  ·next x y z q =>
   obtain ⟨p,pos,rfl⟩:=bB q
   simp only [Bool.and_eq_true,decide_eq_true_eq] at h
   obtain ⟨⟨⟨⟨⟨⟨j,rfl⟩,I⟩,hs⟩,F⟩,B⟩,hb⟩:=h
   obtain ⟨ts,j⟩:=Option.isSome_iff_exists.mp j
   obtain ⟨kt,pt,rfl⟩:=cZ j
   exact ⟨zS (mE G.mono a) (mE G.mono b) (G.gl I) (G.mgB _ (by decide)) (bR (mE G.mono a) (aG (mE G.mono b) aI) (sE a G _ B) (bR (mE G.mono b) aI (sE b G _ hb) dM (ao F)) (ao hs)) (by rw [ao hs,ao F];rfl) (ao F),fun x=>rfl⟩
  ·cases h
theorem sCl:∀ (m:MC) {C:Ctx} {X:Cx} (G:Good C Φ k X) (elt:Expr) (gens:List Comprehension) (sc:Scope) (pos:Pos) (d:Nat) (_:d=0∨d=d) (p:Addr),okC m C C (gens.drop (d+1)) elt=true ->
 PB X (aX elt gens sc pos d (.ref p) X.env) (lC X.K p (wCl Φ m))
 | .last src g ifs m,C,X,G,elt,gens,sc,pos,d,_,p,h=>by
  simp only [okC] at h
  split at h
  ·rename_i t it fs a hd
   simp only [Bool.and_eq_true,decide_eq_true_eq] at h
   obtain ⟨⟨⟨⟨rfl,hi⟩,n⟩,q⟩,he⟩:=h
   have B:gens[d+1]? = some ⟨t,it,fs,0⟩:=by
    have z:(gens.drop (d+1))[0]? = some ⟨t,it,fs,0⟩:=by rw [hd];rfl
    rw [List.getElem?_drop] at z;simpa using z
   have j:gens[d+1+1]? = none:=by
    have z:(gens.drop (d+1))[1]? = none:=by rw [hd];rfl
    rw [List.getElem?_drop] at z;simpa using z
   refine PB.imp (jD G.hx G.calm B (fun g' z=>by rw [j] at z;cases z) (sI src G _ t hi).1 (sG G g t n) (cQ (p:=p) G (bm (mE G.mono m)) (mTl G.mono ifs) (PB.imp (j6 G.hx (sE m G elt he) j) (fh (mE G.mono m))) (sTl ifs G fs q)) (sI src G _ t hi).2) (gi (mI G.mono src) (aM (bm (mE G.mono m)) (mTl G.mono ifs)))
  ·cases h
 | .more src g ifs rest,C,X,G,elt,gens,sc,pos,d,_,p,h=>by
  simp only [okC] at h
  split at h
  ·rename_i t it fs a g2 gs hd
   simp only [Bool.and_eq_true,decide_eq_true_eq] at h
   obtain ⟨⟨⟨⟨rfl,hi⟩,n⟩,q⟩,he⟩:=h
   have B:gens[d+1]? = some ⟨t,it,fs,0⟩:=by
    have z:(gens.drop (d+1))[0]? = some ⟨t,it,fs,0⟩:=by rw [hd];rfl
    rw [List.getElem?_drop] at z;simpa using z
   have j:gens[d+1+1]? = some g2:=by
    have z:(gens.drop (d+1))[1]? = some g2:=by rw [hd];rfl
    rw [List.getElem?_drop] at z;simpa using z
   have I:gens.drop (d+1+1)=g2::gs:=by
    have z:(gens.drop (d+1)).drop 1=g2::gs:=by rw [hd];rfl
    rw [List.drop_drop] at z;simpa using z
   have F:∀ g',gens[d+1+1]? = some g'->g'.is_async=0:=fun g' z=>by
    rw [j] at z;cases z
    exact fD he
   refine PB.imp (jD G.hx G.calm B F (sI src G _ t hi).1 (sG G g t n) (cQ (p:=p) G (mCl G.mono rest) (mTl G.mono ifs) (sCl rest G elt gens sc pos (d+1) (.inr rfl) p (by rw [I];exact he)) (sTl ifs G fs q)) (sI src G _ t hi).2) (gi (mI G.mono src) (aM (mCl G.mono rest) (mTl G.mono ifs)))
  ·cases h
end
end
end
section
section
variable {Φ:Phi} {k:Nat} {C:Ctx} {X:Cx}
theorem vy {sc:Scope} {ts vs:List Expr} {kk j:Nat} {pp p2:Pos} {env:Env} (hs:env.scope=sc) (n:sc.kind = .function) (h:pX sc ts vs=true):swappedStores [.Tuple ts kk pp] (.Tuple vs j p2) env=pure none:=by
 have hb:env.blockKind = .function:=by unfold Env.blockKind;rw [hs,n];rfl
 have h':pX sc ts vs=true:=h
 unfold swappedStores
 dsimp only
 rw [hb]
 by_cases c1:(!(ts.length==2 || ts.length==3) || vs.length != ts.length)=true
 ·simp only [c1,Bool.true_or,if_true]
 ·simp only [Bool.not_eq_true] at c1
  rw [c1]
  simp only [Bool.false_or,bne_self_eq_false,Bool.false_eq_true,if_false]
  split
  ·rfl
  ·
    generalize q:List.filterMap _ ts=L
    obtain rfl:L=aW sc ts:=by
     rw [<- q]
     unfold aW
     congr 1
     funext x
     cases x <;> first | rfl | (unfold Env.kindOf;rw [hs])
    unfold pX at h'
    rw [c1] at h'
    simp only [Bool.false_or,Bool.or_eq_true] at h'
    by_cases c3:((aW sc ts).length != ts.length || (aW sc ts).eraseDups.length != (aW sc ts).length)=true
    ·rw [if_pos c3]
    ·rw [if_neg c3]
     have z:vs.all (foldedForSure 8)=true:=by
      rcases h' with h' | h'
      ·exact absurd (Bool.or_eq_true _ _ |>.mpr h') c3
      ·exact h'
     rw [if_pos z]
theorem yg {sc:Scope} {ts vs:List Expr} {ns:List Str} {kk j:Nat} {pp p2:Pos} {env:Env} (hs:env.scope=sc) (n:sc.kind = .function) (h:pZ sc ts vs ns=true):swappedStores [.Tuple ts kk pp] (.Tuple vs j p2) env=pure (some ns):=by
 have hb:env.blockKind = .function:=by unfold Env.blockKind;rw [hs,n];rfl
 simp only [pZ,Bool.and_eq_true,Bool.not_eq_true',decide_eq_true_eq] at h
 obtain ⟨⟨⟨⟨⟨q,B⟩,F⟩,G⟩,I⟩,J⟩:=h
 unfold swappedStores
 dsimp only
 rw [hb,q]
 simp only [Bool.false_or,bne_self_eq_false,Bool.false_eq_true,if_false]
 split
 ·next z=>exact absurd z (by rw [Bool.not_eq_true];exact B)
 ·generalize O:List.filterMap _ ts=L
  obtain rfl:L=aW sc ts:=by
   rw [<- O]
   unfold aW
   congr 1
   funext x
   cases x <;> first | rfl | (unfold Env.kindOf;rw [hs])
  rw [G,I,J,F]
  rfl
theorem og {C:Ctx} {i:Nat} {x:Str} (h:pY C i x=true):C.N[i]? = some x/\C.sc.names.lookup x=some .local:=by
 simpa [pY] using h
theorem cR {tg e:Expr} {l:Nat} {env:Env} {b:Bool} (h:swapsWith e (some tg) l env=pure b):swapsWithSole [tg] e l env=pure b:=by
 unfold swapsWithSole
 exact h
theorem yh {sc:Scope} {tg e:Expr} {env:Env} (hs:env.scope=sc) (j:sc.kind = .function) (h:iP sc tg e=true):swappedStores [tg] e env=pure none:=by
 cases tg with
 | Tuple ts kk pp =>
   cases e with
   | Tuple vs n p2=>exact vy hs j h
   | _=>rfl
 | _=>first | rfl | (simp [iP] at h;done)
theorem mJ {elt:Expr} {gens:List Comprehension} {s sc:Scope} {pos px:Pos} {x:Str} {l:Nat} {env:Env} (hs:env.scope=sc) (j:sc.kind = .function) :
 swapsWith (.ListComp elt gens s pos) (some (.Name x px)) l env=pure (q0 sc x px (.ListComp elt gens s pos)):=by
 have hb:env.blockKind = .function:=by unfold Env.blockKind;rw [hs,j];rfl
 unfold swapsWith
 dsimp only
 rw [hb]
 unfold q0 Env.kindOf
 rw [hs]
 rfl
theorem si {ek ev:Expr} {gens:List Comprehension} {s sc:Scope} {pos px:Pos} {x:Str} {l:Nat} {env:Env} (hs:env.scope=sc) (j:sc.kind = .function) :
 swapsWith (.DictComp ek ev gens s pos) (some (.Name x px)) l env=pure (sc.names.lookup x==some .local&&px.line==(Expr.DictComp ek ev gens s pos).pos.line && !(s.names.any fun (n,k)=>n==x&&(k == .local || k == .cell))):=by
 have hb:env.blockKind = .function:=by unfold Env.blockKind;rw [hs,j];rfl
 unfold swapsWith
 dsimp only
 rw [hb]
 unfold Env.kindOf
 rw [hs]
 rfl
mutual
theorem sS:∀ (m:MS) (G:Good C Φ k X) (n:C.sc.kind = .function) (s:Stmt),okS m C s=true->PS X s (lS X.K (wS Φ m))
 | .asg g m,G,n,s,h=>by
  simp only [okS] at h
  split at h
  ·rename_i tg e pos
   simp only [Bool.and_eq_true] at h
   obtain ⟨⟨⟨I,he⟩,q⟩,O⟩:=h
   have hw:=yh G.sc n q
   have pg:=sG G g tg I
   have plain:swapsWithSole [tg] e pos.line X.env=pure false->PS X (.Assign [tg] e pos) (lS X.K (gA (wE Φ m) (bG g))):=fun hs =>
    PS.imp (qo (sE m G e he) pg hs hw (by cases tg <;> first | rfl | (simp [iP] at q;done))) (uD (mE G.mono m))
   cases tg with
   | Tuple ts a b=>exact plain (cR (jh O))
   | Name x px =>
     cases e with
     | ListComp elt gens sc cpos =>
       by_cases sw:q0 C.sc x px (.ListComp elt gens sc cpos)=true
       ·cases g with
        | tup gs=>simp [okG] at I
        | name i =>
          cases m with
          | comp fr N' c =>
            simp only [okE,Bool.and_eq_true] at he
            have B:aY sc X.env.scope X.N N' fr:=by rw [G.sc,G.N];exact iQ he.1
            have B':aY sc C.sc C.N N' fr:=iQ he.1
            have R:PG X (.Name x px) (gW i):=by
             simp only [okG,Bool.and_eq_true] at I
             exact nF G.nd (by rw [G.N];exact of_decide_eq_true I.1.1) (G.loc I.1.2) (G.own I.2)
            have S:∀ l,swapsWith (.ListComp elt gens sc cpos) (some (.Name x px)) l X.env=pure true:=fun l=>by rw [mJ G.sc n,sw]
            have mc:=mCmp G.mono fr c
            cases c with
            | last src g ifs m =>
              have h2:=he.2
              simp only [okC] at h2
              split at h2
              ·rename_i t it fs a
               simp only [Bool.and_eq_true,decide_eq_true_eq] at h2
               obtain ⟨⟨⟨⟨rfl,hi⟩,J⟩,U⟩,F⟩:=h2
               refine PS.imp (i9 (i:=i) (g:=lG X.K (bG g)) (wi:=lI X.K (wI Φ src)) G.calm G.hx B (fun g' z=>by simp at z) (sI src G _ t hi).1 (fun s H fp=>sG (G.blk B' s H fp) g t J) (tb:=fun p=>lC X.K p (bf (wTl Φ ifs) (dq (wE Φ m)))) (fun s H fp p => ?_) (sI src G _ t hi).2 R (S _)) fun D σ H h => ?_
               ·have G':=G.blk B' s H fp
                exact cQ (p:=p) G' (bm (mE G.mono m)) (mTl G.mono ifs) (PB.imp (j6 G'.hx (sE m G' elt F) rfl) (fh (mE G.mono m))) (sTl ifs G' fs U)
               ·exact dr (mI G.mono src) (aM (bm (mE G.mono m)) (mTl G.mono ifs)) σ H _ (jL mc D σ H h)
              ·cases h2
            | more src g ifs rest =>
              have h2:=he.2
              simp only [okC] at h2
              split at h2
              ·rename_i t it fs a g2 gs
               simp only [Bool.and_eq_true,decide_eq_true_eq] at h2
               obtain ⟨⟨⟨⟨rfl,hi⟩,J⟩,U⟩,F⟩:=h2
               have Y:∀ g',(g2::gs)[0]? = some g'->g'.is_async=0:=fun g' z=>by
                have z':g2=g':=by simpa using z
                subst z'
                exact fD F
               refine PS.imp (i9 (i:=i) (g:=lG X.K (bG g)) (wi:=lI X.K (wI Φ src)) G.calm G.hx B Y (sI src G _ t hi).1 (fun s H fp=>sG (G.blk B' s H fp) g t J) (tb:=fun p=>lC X.K p (bf (wTl Φ ifs) (wCl Φ rest))) (fun s H fp p => ?_) (sI src G _ t hi).2 R (S _)) fun D σ H h => ?_
               ·have G':=G.blk B' s H fp
                exact cQ (p:=p) G' (mCl G.mono rest) (mTl G.mono ifs) (sCl rest G' elt (⟨t,it,fs,0⟩::g2::gs) sc cpos 0 (.inl rfl) p F) (sTl ifs G' fs U)
               ·exact dr (mI G.mono src) (aM (mCl G.mono rest) (mTl G.mono ifs)) σ H _ (jL mc D σ H h)
              ·cases h2
          | _=>simp [okE,gK,dw,cOf,kA,kB,pV,eG,bA,cq,dR,A5] at he
       ·refine plain ?_
        simp only [Bool.not_eq_true] at sw
        refine cR ?_
        rw [mJ G.sc n,sw]
     | SetComp _ _ _ _=>cases m <;> simp [okE,gK,dw,cOf,kA,kB,pV,eG,bA,cq,dR,A5] at he
     | DictComp _ _ _ _ _ =>
       refine plain (cR ?_)
       rw [si G.sc n]
       unfold A6 at O
       simp only [Bool.not_eq_true'] at O
       rw [O]
     | _=>exact plain (cR rfl)
   | _=>simp [iP] at q
  ·cases h
 | .par i j a b,G,n,s,h=>by
  simp only [okS] at h
  split at h
  ·next t u e f hp =>
   split at h
   ·next x hx =>
    split at h
    ·next y hy =>
     obtain ⟨k,p,k',p',pos,rfl⟩:=vq hp
     obtain ⟨px,rfl⟩:=fY hx
     obtain ⟨py,rfl⟩:=fY hy
     simp only [Bool.and_eq_true,decide_eq_true_eq] at h
     obtain ⟨⟨⟨⟨⟨⟨⟨hi,hj⟩,Z⟩,n1⟩,n2⟩,q⟩,hb⟩,hw⟩:=h
     obtain ⟨i1,i2⟩:=og hi
     obtain ⟨j1,j2⟩:=og hj
     exact PS.imp (za G.calm G.nd (by rw [G.N];exact i1) (by rw [G.N];exact j1) Z (by rw [G.sc];exact i2) (by rw [G.sc];exact j2) (bR (mE G.mono a) (aG (mE G.mono b) aI) (sE a G _ q) (bR (mE G.mono b) aI (sE b G _ hb) dM (ao n2)) (ao n1)) (yg G.sc n hw) (cR rfl)) (rC (aG (mE G.mono a) (aG (mE G.mono b) aI)))
    ·cases h
   ·cases h
  ·cases h
 | .put o i m,G,n,s,h=>by
  simp only [okS] at h
  split at h
  ·rename_i x y tp e pos
   simp only [Bool.and_eq_true] at h
   obtain ⟨⟨⟨⟨L,O⟩,ho⟩,hi⟩,he⟩:=h
   exact zU (by have:=G.units;lia) (mE G.mono m) (mE G.mono o) (mE G.mono i) (sE m G e he) (sE o G x ho) (sE i G y hi) (cR (jh O)) rfl (fun v=>by cases y <;> first | rfl | (simp [ca] at L;done))
  ·cases h
 | .augI o i op m,G,n,s,h=>by
  simp only [okS] at h
  split at h
  ·rename_i x y tp o' e pos
   simp only [Bool.and_eq_true,decide_eq_true_eq] at h
   obtain ⟨⟨⟨⟨⟨rfl,BP⟩,L⟩,ho⟩,hi⟩,he⟩:=h
   have hu:X.A.units+1 < cLine:=by have:=G.units;lia
   have q:∀ ov iv new,augStore y ov iv new=(do holding [new,ov,iv] (setItem ov iv new);release [new,ov,iv] [];pure .next):=fun ov iv new=>by cases y <;> first | rfl | (simp [ca] at L;done)
   cases op with
   | add=>exact jd hu (mE G.mono o) (mE G.mono i) (mE G.mono m) jN (sE o G x ho) (sE i G y hi) (sE m G e he) rp q
   | sub=>exact jd hu (mE G.mono o) (mE G.mono i) (mE G.mono m) jO (sE o G x ho) (sE i G y hi) (sE m G e he) rq q
   | mul=>exact jd hu (mE G.mono o) (mE G.mono i) (mE G.mono m) jP (sE o G x ho) (sE i G y hi) (sE m G e he) rB q
   | _=>simp at BP
  ·cases h
 | .drop m,G,n,s,h=>by
  simp only [okS] at h
  split at h
  ·simp only [Bool.and_eq_true] at h
   exact PS.imp (wM (sE m G _ h.2) (jh h.1)) (rn (mE G.mono m))
  ·cases h
 | .ret m,G,n,s,h=>by
  simp only [okS] at h
  split at h
  ·rw [wS]
   exact PS.imp (yW (sE m G _ h)) (uC (mE G.mono m))
  ·cases h
 | .ite c a b,G,n,s,h=>by
  simp only [okS] at h
  split at h
  ·simp only [Bool.and_eq_true] at h
   exact PS.imp (Ay (sT c G _ h.1.1) (sSs a G n _ h.1.2) (sSs b G n _ h.2)) (xR (mT G.mono c))
  ·cases h
 | .for g src b,G,n,s,h=>by
  simp only [okS] at h
  split at h
  ·simp only [Bool.and_eq_true] at h
   obtain ⟨⟨⟨hs,I⟩,hi⟩,hb⟩:=h
   exact PS.imp (ze (fun e s z=>(G.hx e s z).elim) G.calm (sI src G _ _ hi).1 (sG G g _ I) (sSs b G n _ hb) (sg hs)) (uE (mI G.mono src) (mSs G.mono b))
  ·cases h
 | .while c b,G,n,s,h=>by
  simp only [okS] at h
  split at h
  ·simp only [Bool.and_eq_true] at h
   exact PS.imp (tz (fun e s z=>(G.hx e s z).elim) (sT c G _ h.1) (sSs b G n _ h.2)) (pI (mT G.mono c) (mSs G.mono b))
  ·cases h
 | .frz i m,G,n,s,h=>by
  simp only [okS] at h
  exact A0 (sS m G n s h)
 | .pass,G,n,s,h=>by
  simp only [okS] at h
  split at h
  ·exact PS.imp wL jK
  ·cases h
 | .brk,G,n,s,h=>by
  simp only [okS] at h
  split at h
  ·exact PS.imp tu pH
  ·cases h
 | .cnt,G,n,s,h=>by
  simp only [okS] at h
  split at h
  ·exact PS.imp nj rl
  ·cases h
theorem sSs:∀ (m:MSs) (G:Good C Φ k X) (j:C.sc.kind = .function) (s:List Stmt),okSs m C s=true->PSs X s (lS X.K (wSs Φ m))
 | .nil,G,j,s,h=>by
  simp [okSs] at h;subst h
  exact PSs.imp wK jK
 | .cons m r,G,j,[],h=>by simp [okSs] at h
 | .cons m r,G,j,s::ss,h=>by
  simp only [okSs,Bool.and_eq_true] at h
  exact PSs.imp (tq (sS m G j s h.1) (sSs r G j ss h.2)) (uB (mS G.mono m) (mSs G.mono r))
end
end
end
section
structure FD where
 name:Str
 st:Stmt
 N:List Str
 np:Nat
 body:MSs
noncomputable def dS (N:List Str) (ds:List D):aq:=ds.map some++List.replicate (N.length - ds.length) none
noncomputable def phi (T:List FD):Nat->Phi
 | 0=>fun _ _ _ _=>False
 | k+1=>fun f ds M Q => ∃ d,T[f]? = some d/\ds.length=d.np/\wSs (phi T k) d.body { nx:=fun _ M'=>Q .non M',rt:=Q } (dS d.N ds) M
theorem gN (T:List FD):∀ k f,aV (phi T k f)
 | 0,f=>fun _ _ _ _ _ q=>q.elim
 | k+1,f=>fun ds M Q Q' h ⟨d,e,l,q⟩=>⟨d,e,l,mSs (gN T k) d.body { nx:=fun _ M'=>Q .non M',rt:=Q } { nx:=fun _ M'=>Q' .non M',rt:=Q' } _ _ ⟨fun _ M' q'=>h _ _ q',h,fun _ _ z=>z,fun _ _ z=>z⟩ q⟩
noncomputable def qa (Γ:List Str) (cs:List (Str×Int)) (d:FD):Bool :=
 decide ((au d.st).kind = .function) && !(au d.st).isCoroutine && !(au d.st).isGenerator&&decide (d.N.Nodup)&&decide (d.np<=d.N.length)
  && (d.N.take d.np).all (fun x=>(au d.st).names.lookup x==some .local || (au d.st).names.lookup x==some .cell)
  && (au d.st).names.all (fun y => !(y.2 == .free))&&okSs d.body ⟨Γ,d.N,au d.st,d.N,cs⟩ (bC d.st)
theorem vz {Γ:List Str} {cs:List (Str×Int)} {d:FD} (h:qa Γ cs d=true):fI d.N (d.N.take d.np) (au d.st)/\(d.N.take d.np).length=d.np/\okSs d.body ⟨Γ,d.N,au d.st,d.N,cs⟩ (bC d.st)=true:=by
 simp only [qa,Bool.and_eq_true,decide_eq_true_eq,Bool.not_eq_true'] at h
 obtain ⟨⟨⟨⟨⟨⟨⟨h1,h2⟩,j⟩,n⟩,I⟩,q⟩,B⟩,F⟩:=h
 have hl:(d.N.take d.np).length=d.np:=by rw [List.length_take];lia
 refine ⟨⟨h1,h2,j,n,by rw [hl],fun x hx => ?_,fun y G e => ?_⟩,hl,F⟩
 ·have z:=List.all_eq_true.mp q x hx
  simpa using z
 ·have z:=List.all_eq_true.mp B y G
  rw [e] at z
  simp at z
section
variable {P:Program} {w:World} {K:Frag} {mg:Str->Option Value} {base:Heap}
structure wj (K:Frag) (mg:Str->Option Value) (T:List FD) (cs:List (Str×Int)):Prop where
 blt:∀ x∈bltNames,mg x=none
 fns:∀ (i:Nat) (d:FD),T[i]? = some d -> ∃ f fd,Fun K d.name d.name d.st f fd/\mg d.name=some (.ref f)/\Binds K fd (d.N.take d.np) []
 ok:∀ d∈T,qa (T.map (·.name)) cs d=true
 cst:∀ x i,(x,i)∈cs -> ∃ t,mg x=some (.int i t)
theorem sj {T:List FD} {cs:List (Str×Int)} (O:wj K mg T cs):∀ (k i:Nat) (d:FD) (f:Addr) (fd:FuncData),T[i]? = some d->Fun K d.name d.name d.st f fd->cT P w K mg base CX0 k f fd (d.N.take d.np) (lSp K (phi T k i))
 | 0,i,d,f,fd,e,F=>⟨fun vs H Q E h=>by obtain ⟨ds,M,_,_,q⟩:=h;exact q.elim,fun A outer s H args us vs Q E _ _ _ _ h=>by obtain ⟨ds,M,_,_,q⟩:=h;exact q.elim⟩
 | k+1,i,d,f,fd,e,F=>by
   obtain ⟨S,hl,hb⟩:=vz (O.ok d (List.mem_of_getElem? e))
   refine F.ok S (fun vs H Q E h => ?_) fun cdv A outer s H vs Q E hr h => ?_
   ·obtain ⟨ds,M,rm,rs,d',e',l,q⟩:=h
    rw [e] at e';cases e'
    rw [rs.length,l,hl]
   ·obtain ⟨ds,M,rm,rs,d',e',l,q⟩:=h
    rw [e] at e';cases e'
    have G:Good ⟨T.map (·.name),d.N,au d.st,d.N,cs⟩ (phi T k) k ((gm CX0 P w K mg base d.N d.name (au d.st) f cdv A outer s H E).nox):=by
     refine ⟨fun _ _ z=>z,rfl,rfl,rfl,S.nd,fun _ _=>rfl,hr,O.blt,fun j x hx => ?_,gN T k,O.cst⟩
     have n:(T.map (·.name))[j]? = some x:=hx
     rw [List.getElem?_map] at n
     cases L:T[j]? with
     | none=>rw [L] at n;cases n
     | some d2 =>
       rw [L] at n;cases n
       obtain ⟨f2,J,R,U,b2⟩:=O.fns j d2 L
       exact ⟨f2,J,_,U,R.kp,b2,sj O k j d2 f2 J L R⟩
    refine ⟨_,sSs d.body G S.kind _ hb,dS d.N ds,M, { nx:=fun _ M'=>KE' K M H Q .non M',rt:=KE' K M H Q }, ?_,rm,⟨fun ρ M' σ H' x rs' rm' q' => ?_,fun d M' v H' x rm' rd' q'=>q' v H' x rm' rd',fun _ _ _ _ _ _ _ z=>z,fun _ _ _ _ _ _ _ z=>z⟩,q⟩
    ·refine ⟨by simp [ce,dS,rs.length],fun j dd B => ?_⟩
     unfold dS at B
     unfold ce
     by_cases I:j < ds.length
     ·rw [List.getElem?_append_left (by simpa using I),List.getElem?_map] at B
      cases e3:ds[j]? with
      | none=>rw [e3] at B;cases B
      | some z =>
        rw [e3] at B;cases B
        obtain ⟨v,Y,rv⟩:=rs.get e3
        refine ⟨v, ?_,rv⟩
        rw [List.getElem?_append_left (by rw [List.length_map,rs.length];exact I),List.getElem?_map,Y];rfl
     ·rw [List.getElem?_append_right (by simpa using I),List.getElem?_replicate] at B
      split at B <;> cases B
    ·exact q' .non H' x rm' (RD.non_iff.mpr rfl)
theorem A9 {T:List FD} {k i:Nat} {H:Hp} {a:Addr} {ns:List Int} (n:p9 H) (B:SqL K H a (ns.map V.int)) (h:phi T k i [.con (ns.map D.int)] (fun _=>none) fun d _=>d = .bl true) :
 lSp K (phi T k i) [.ref a] H (fun v _=>v = .bl true) fun _ _ _=>False:=by
 have j:RM K (fun _=>none) H:=fun _ _ z=>by cases z
 refine ⟨[.con (ns.map D.int)],fun _=>none,j,RDs.cons (RD.con_iff.mpr ⟨a,ns.map V.int,rfl, ?_,RDs.ints ns⟩) RDs.nil,gN T k i [.con (ns.map D.int)] (fun _=>none) (fun d _=>d = .bl true) (KE' K (fun _=>none) H fun v _=>v = .bl true) (fun d M' e=>fun v H' x rm rd => ?_) h⟩
 ·rcases B with (z | ⟨o,z⟩) | z
  ·rcases n a with q | ⟨o,xs,q⟩
   ·rw [z] at q;cases q
   ·rw [z] at q;cases q
  ·exact .inl ⟨o,z⟩
  ·exact .inr z
 ·subst e
  exact RD.bl_iff.mp rd
end
theorem bN (us:List Value) (h:us.length=1):∃ a,us=[a]:=List.length_eq_one_iff.mp h
theorem bX (us:List Value) (h:us.length=2):∃ a b,us=[a,b]:=by
 cases us with
 | nil=>cases h
 | cons a us=>obtain ⟨b,rfl⟩:=bN us (Nat.succ.inj h);exact ⟨a,b,rfl⟩
theorem wk (us:List Value) (h:us.length=3):∃ a b c,us=[a,b,c]:=by
 cases us with
 | nil=>cases h
 | cons a us=>obtain ⟨b,c,rfl⟩:=bX us (Nat.succ.inj h);exact ⟨a,b,c,rfl⟩
theorem B6 (us:List Value) (h:us.length=4):∃ a b c d,us=[a,b,c,d]:=by
 cases us with
 | nil=>cases h
 | cons a us=>obtain ⟨b,c,d,rfl⟩:=wk us (Nat.succ.inj h);exact ⟨a,b,c,d,rfl⟩
end
section
theorem Aa {T:List FD} {k f:Nat} {d:FD} {ds:List D} {M:Mem} {Q:QD} (e:T[f]? = some d) (l:ds.length=d.np) {ρ:aq} (r:dS d.N ds = ρ)
 (h:wSs (phi T k) d.body { nx:=fun _ M'=>Q .non M',rt:=Q } ρ M):phi T (k+1) f ds M Q:=⟨d,e,l,by rw [r];exact h⟩
theorem aA {T:List FD} {n f:Nat} {d:FD} {ds:List D} {M:Mem} {Q:QD} (j : 1<=n) (e:T[f]? = some d) (l:ds.length=d.np) {ρ:aq} (r:dS d.N ds = ρ)
 (h:wSs (phi T (n - 1)) d.body { nx:=fun _ M'=>Q .non M',rt:=Q } ρ M):phi T n f ds M Q:=by
 obtain ⟨k,rfl⟩:∃ k,n=k+1:=⟨n - 1,by lia⟩
 exact Aa e l r h
theorem yi {Φ:Phi} {D:ba} {ρ:aq} {M:Mem}:wSs Φ .nil D ρ M=D.nx ρ M:=by rw [wSs];rfl
theorem aP {Φ:Phi} {s:MS} {r:MSs} {D:ba} {ρ:aq} {M:Mem}:wSs Φ (.cons s r) D ρ M=wS Φ s { D with nx:=wSs Φ r D } ρ M:=by rw [wSs];rfl
theorem oh {ds:List D} {y:D} {M:Mem} {Q:QD}:wIx (.tup ds) y M Q = ∃ i d,y = .int i/\atI ds i=some d/\Q d M:=rfl
theorem oi {ds:List D} {y:D} {M:Mem} {Q:QD}:wIx (.con ds) y M Q = ∃ i d,y = .int i/\atI ds i=some d/\Q d M:=rfl
theorem aK {a:Addr} {i:Int} {ds:List D} {d:D} {M:Mem} {Q:QD} (h:M a=some (.lst ds)) (e:atI ds i=some d) (q:Q d M):wIx (.ref a) (.int i) M Q := .inl ⟨ds,i,d,h,rfl,e,q⟩
theorem de {a:Addr} {i:Int} {ds:List D} {v:D} {j:Nat} {M:Mem} {Q:Mem->Prop} (h:M a=some (.lst ds)) (e:ixN ds.length i=some j) (q:Q (af M a (.lst (ds.set j v)))):eB (.ref a) (.int i) v M Q:=⟨a,rfl, .inl ⟨ds,i,j,rfl,h,e,q⟩⟩
theorem ai {a:Addr} {ds:List D} {M:Mem} (h:M a=some (.lst ds)):aC M (.ref a)=some ds:=by simp only [aC,h]
theorem Ab {i:Int} {M:Mem} {Q:QD}:kY [.int i] M Q=Q (.int i) M:=by
 apply propext;constructor
 ·rintro (⟨j,e,q⟩ | ⟨k,e,q⟩)
  ·cases e;exact q
  ·cases e
 ·exact fun q => .inl ⟨i,rfl,q⟩
theorem Ac {b:Bool} {M:Mem} {Q:QD}:kY [.bl b] M Q=Q (.int (if b then 1 else 0)) M:=by
 apply propext;constructor
 ·rintro (⟨j,e,q⟩ | ⟨k,e,q⟩)
  ·cases e
  ·cases e;exact q
 ·exact fun q => .inr ⟨b,rfl,q⟩
theorem B7 {i j:Int} {M:Mem} {Q:QD}:wEq (.int i) (.int j) M Q=Q (.bl (i==j)) M:=by
 simp [wEq,rb,PyData.eqv]
theorem B8 {i j:Int} {M:Mem} {Q:QD}:wNe (.int i) (.int j) M Q=Q (.bl (!(i==j))) M:=by
 simp [wNe,rb,PyData.eqv]
theorem so {i j:Int} {M:Mem} {Q:QD}:gu (.int i) (.int j) M Q=Q (.int (i+j)) M:=rfl
theorem su {a b:List D} {M:Mem} {Q:QD}:gu (.tup a) (.tup b) M Q=((a≠[]∨True)/\a.length+b.length<=sizeLine/\Q (.tup (a++b)) M):=rfl
theorem sv {i j:Int} {M:Mem} {Q:QD}:pi (.int i) (.int j) M Q=Q (.int (i - j)) M:=rfl
theorem sx {i j:Int} {M:Mem} {Q:QD}:j9 (.int i) (.int j) M Q=(MulOk i j/\Q (.int (i*j)) M):=rfl
theorem sy {ds:List D} {k:Int} {M:Mem} {Q:QD}:j9 (.tup ds) (.int k) M Q=(-(2 ^ 63)<=k/\k < 2 ^ 63/\ds.length*k.toNat<=sizeLine/\Q (.tup (List.replicate k.toNat ds).flatten) M):=rfl
theorem oj {i j:Int} {M:Mem} {Q:QD}:kl (.int i) (.int j) M Q=(0 < j/\j < 2 ^ 256/\Q (.int (i / j)) M):=rfl
theorem sB {i j:Int} {M:Mem} {Q:QD}:pj (.int i) (.int j) M Q=(0 < j/\Q (.int (i % j)) M):=rfl
theorem sC {i j:Int} {M:Mem} {Q:QD}:pk (.int i) (.int j) M Q=(0<=j/\j<=1000000/\i.natAbs < 2 ^ 64/\Q (.int (i ^ j.toNat)) M):=rfl
theorem wl {i j:Int} {M:Mem} {Q:QD}:wLt (.int i) (.int j) M Q=Q (.bl (decide (i < j))) M:=rfl
theorem wm {i j:Int} {M:Mem} {Q:QD}:wLe (.int i) (.int j) M Q=Q (.bl (decide (i<=j))) M:=rfl
theorem qb {i j:Int} {M:Mem} {Q:QD}:wGt (.int i) (.int j) M Q=Q (.bl (decide (j < i))) M:=rfl
theorem wn {i j:Int} {M:Mem} {Q:QD}:wGe (.int i) (.int j) M Q=Q (.bl (decide (j<=i))) M:=rfl
theorem on {i j:Int} {M:Mem} {Q:QD}:ku (.int i) (.int j) M Q=Q (.int (i+j)) M:=rfl
theorem oo {i j:Int} {M:Mem} {Q:QD}:kw (.int i) (.int j) M Q=Q (.int (i - j)) M:=rfl
theorem ot {i j:Int} {M:Mem} {Q:QD}:kx (.int i) (.int j) M Q=(MulOk i j/\Q (.int (i*j)) M):=rfl
theorem sD {i:Int} {M:Mem} {Q:QD}:pv (.int i) M Q=Q (.int (-i)) M:=rfl
theorem Ad {i:Int} {M:Mem} {Q:QD}:kX [.int i] M Q=Q (.int (if i < 0 then -i else i)) M:=by simp [kX]
theorem yj {i j:Int} {M:Mem} {Q:QD}:km [.int i, .int j] M Q=Q (.int (if j < i then j else i)) M:=by
 apply propext;constructor
 ·rintro ⟨a,b,e,q⟩;cases e;exact q
 ·exact fun q=>⟨i,j,rfl,q⟩
theorem Ae {ds:List D} {M:Mem} {Q:QD}:gx [.con ds] M Q=Q (.int ds.length) M:=by simp [gx,jb]
theorem Af {ds:List D} {M:Mem} {Q:QD}:gx [.tup ds] M Q=Q (.int ds.length) M:=by simp [gx,jb]
theorem sF {ds:List D} {M:Mem}:aC M (.tup ds)=some ds:=rfl
theorem sH {ds:List D} {M:Mem}:aC M (.con ds)=some ds:=rfl
theorem wo {α:Sort _} {a b : α}:(if true=true then a else b)=a:=rfl
theorem wq {α:Sort _} {a b : α}:(if false=true then a else b)=b:=rfl
theorem yk {ta tb:TEd} {ρ:aq} {M:Mem} {R:List D->(Mem->Prop)->Mem->Prop}:lr ta tb ρ M R=ta ρ M fun x j=>tb ρ j fun y M2 => ∃ xs ys,aC M2 x=some xs/\aC M2 y=some ys/\R (List.zipWith kr xs ys) (fun M=>aC M x=some xs/\aC M y=some ys) M2:=by
 unfold lr be
 congr 1;funext x j
 unfold bV
 congr 1;funext y M2
 apply propext;constructor
 ·rintro ⟨x',y',xs,ys,e,q⟩
  cases e;exact ⟨xs,ys,q⟩
 ·rintro ⟨xs,ys,q⟩
  exact ⟨x,y,xs,ys,rfl,q⟩
theorem sJ {x y:Str} {M:Mem} {Q:QD}:gu (.str x) (.str y) M Q=(x.length+y.length<=sizeLine/\Q (.str (x++y)) M):=rfl
local macro_rules | `(tactic| walk_at "wp") => `(tactic| ((try dsimp only [wS,wE,wA,wAnds,wOrs,wO,wT,wAndTs,wOrTs,wTl,wI,wCl,wCmp,bG,bGs,opB,opC,opF,opM,A3,opI,gn,wC,wOp,wUn,bV,be,wAr,ee,kR,kS,lh,ik,im,lj,io,ll,iq,wIf,dN,ir,wSl,iu,cj,iE,fy,iK,wBM,bI,fb,bD,lp,lq,iy,fA,iw,dq,bf,cM,fO,j7,fP,lw,fi,iA,iB,lB,sIf,gA,lD,lF,fj,lH,iC,so,su,sJ,sv,sx,sy,oj,sB,sC,wl,wm,qb,wn,on,oo,ot,sD,sF,sH,oh,oi,wo,wq,List.getElem?_cons_zero,List.getElem?_cons_succ,List.set_cons_zero,List.set_cons_succ,Option.bind_some,Option.map_some,Option.join_some,Option.bind_none,Option.join_none,List.map_cons,List.map_nil,List.length_cons,List.length_nil]);(try simp only [wS,wE,wA,wAnds,wOrs,wO,wT,wAndTs,wOrTs,wTl,wI,wCl,wCmp,bG,bGs,opB,opC,opF,opM,A3,opI,gn,wC,wOp,wUn,bV,be,wAr,ee,kR,kS,lh,ik,im,lj,io,ll,iq,wIf,dN,ir,wSl,iu,cj,iE,fy,iK,wBM,bI,fb,bD,lp,lq,yk,iy,fA,iw,dq,bf,cM,fO,j7,fP,lw,fi,iA,iB,lB,sIf,gA,lD,lF,fj,lH,iC,yi,
 so,su,sJ,sv,sx,sy,oj,sB,sC,wl,wm,qb,wn,on,oo,ot,sD,Ab,Ac,B7,B8,Ad,yj,Ae,Af,sF,sH,oh,oi,wo,wq,Bool.false_eq_true,if_false,if_true,
 List.getElem?_cons_zero,List.getElem?_cons_succ,List.set_cons_zero,List.set_cons_succ,Option.some.injEq,exists_eq_left',exists_eq_left,exists_eq_right,exists_and_left,exists_and_right,D.bl.injEq,D.int.injEq,D.ref.injEq,D.tup.injEq,Option.bind_some,Option.map_some,Option.join_some,Option.bind_none,Option.join_none,List.map_cons,List.map_nil,decide_eq_true_eq,List.cons.injEq,and_true,true_and,List.length_cons,List.length_nil])))
local macro_rules | `(tactic| walk_at "st") => `(tactic| ((first | rw [aP] | (dsimp only;rw [aP]));walk_at "wp"))
theorem mK {a:Addr} {t:Bool} {kvs:List (D×D)} {k d:D} {M:Mem} {Q:QD} (h:M a=some (.dct t kvs)) (ok:dm t k=true) (e:dget kvs k=some d) (q:Q d M):wIx (.ref a) k M Q := .inr (.inl ⟨t,kvs,d,h,ok,e,q⟩)
theorem ym {i:Nat} {t:TSd} {A:ba} {ρ:aq} {M:Mem} {a:Addr} {kvs:List (D×D)} (e : ρ[i]? = some (some (.ref a))) (m:M a=some (.dct true kvs)) (h:t A ρ (af M a (.fdc kvs))):pR i t A ρ M:=⟨a,kvs,e, .inl ⟨m,h⟩⟩
theorem gO {a:Addr} {t:Bool} {kvs:List (D×D)} {k v:D} {M:Mem} {Q:Mem->Prop} (h:M a=some (.dct t kvs)) (ok:dm t k=true) (hl:kvs.length < sizeLine) (q:Q (af M a (.dct t (bP kvs k v)))):eB (.ref a) k v M Q:=⟨a,rfl, .inr ⟨t,kvs,h,ok,hl,q⟩⟩
theorem sK {M:Mem} {a:Addr} {o o':O}:af (af M a o) a o'=af M a o':=by
 funext b;unfold af;split <;> rfl
theorem sL {M:Mem} {a:Addr} {o:O} (h:M a=some o):af M a o=M:=by
 funext b;unfold af;split
 ·next e=>rw [e,h]
 ·rfl
noncomputable def Ge (M M':Mem):Prop := ∀ a o,M a=some o->M' a=some o
theorem Ge.refl {M:Mem}:Ge M M:=fun _ _ h=>h
theorem Ge.trans {M M' M'':Mem} (h:Ge M M') (g:Ge M' M''):Ge M M'':=fun _ _ e=>g _ _ (h _ _ e)
theorem Ge.new {M:Mem} {p:Addr} {o:O} (h:M p=none):Ge M (af M p o):=fun a o' e=>by
 rw [av (fun z=>by rw [z,h] at e;cases e)];exact e
noncomputable def Box (b:Addr) (M:Mem):Prop := ∃ x y z:Int,M b=some (.lst [.int x, .int y, .int z])
structure Bx (b:Addr) (M M':Mem):Prop where
 box:Box b M'
 keep:∀ a o,a≠b->M a=some o->M' a=some o
theorem Bx.refl {b:Addr} {M:Mem} (h:Box b M):Bx b M M:=⟨h,fun _ _ _ e=>e⟩
theorem Bx.trans {b:Addr} {M M' M'':Mem} (h:Bx b M M') (g:Bx b M' M''):Bx b M M'':=⟨g.box,fun a o n e=>g.keep a o n (h.keep a o n e)⟩
theorem Bx.ge {b:Addr} {M M' M'':Mem} (h:Bx b M M') (g:Ge M' M''):Bx b M M'':=⟨by obtain ⟨x,y,z,e⟩:=h.box;exact ⟨x,y,z,g _ _ e⟩,fun a o n e=>g _ _ (h.keep a o n e)⟩
theorem Bx.put {b:Addr} {M:Mem} {x y z:Int}:Bx b M (af M b (.lst [.int x, .int y, .int z])):=⟨⟨x,y,z,ad⟩,fun a o n e=>by rw [av n];exact e⟩
theorem Bx.of {b:Addr} {M M':Mem} (h:Box b M) (g:Ge M M'):Bx b M M':=(Bx.refl h).ge g
section
variable {T:List FD}
noncomputable def iR (s:Stmt):FD:=⟨"_law_cell_at",s,["_law_script", "_law_k"],2,
 (.cons (.ite (.cmp .lt (.var 1) (.blt .len (.cons (.var 0) .nil))) (.cons (.ret (.ix (.var 0) (.var 1)))
 .nil) .nil)
 (.cons (.ret (.int 0))
 .nil))⟩
theorem vA {α:Type} {xs:List α} {i:Int} (h0 : 0<=i) (h1:i < xs.length):∃ x,atI xs i=some x/\xs[i.toNat]? = some x:=by
 have:i.toNat < xs.length:=by lia
 refine ⟨xs[i.toNat], ?_,List.getElem?_eq_getElem this⟩
 unfold atI ixN
 simp [h0,h1,List.getElem?_eq_getElem this]
theorem yn {f:Nat} {s:Stmt} (hf:T[f]? = some (iR s)) {n:Nat} (z : 1<=n) {ns:List Int} {k:Int} {M:Mem} {Q:QD} (h0 : 0<=k) (q:∀ i,Q (.int i) M):phi T n f [.con (ns.map D.int), .int k] M Q:=by
 refine aA z hf rfl (ρ := [some _,some _]) rfl ?_
 unfold iR
 walk_at "st"
 split
 ·next h =>
  walk_at "st"
  obtain ⟨x,e,j⟩:=vA (xs:=ns.map D.int) h0 h
  rw [List.getElem?_map] at j
  cases e3:ns[k.toNat]? with
  | none=>rw [e3] at j;cases j
  | some y=>rw [e3] at j;cases j;exact ⟨_,e,q y⟩
 ·walk_at "st"
  exact q 0
theorem dG {i j:Int} (h : -(2 ^ 64) < i/\i < 2 ^ 64):MulOk i j := .inl h
theorem mL {i j:Int} (h : -(2 ^ 64) < j/\j < 2 ^ 64):MulOk i j := .inr (.inl h)
noncomputable def ji (s:Stmt):FD:=⟨"_law_mixed",s,["_law_number_here", "_law_k", "_law_once", "_law_twice"],2,
 (.cons (.asg (.name 2) (.bin .mod (.bin .mul (.bin .add (.bin .add (.bin .mod (.var 0) (.int 1000000007)) (.bin .mul (.int 7) (.var 1))) (.int 1)) (.int 48271)) (.int 2147483647)))
 (.cons (.asg (.name 3) (.bin .mod (.bin .mul (.var 2) (.bin .add (.bin .add (.bin .mod (.var 2) (.int 1009)) (.var 1)) (.int 3))) (.int 998244353)))
 (.cons (.ret (.bin .fdiv (.bin .mod (.bin .add (.bin .mul (.var 3) (.int 39373)) (.var 2)) (.int 2147483629)) (.int 64)))
 .nil)))⟩
theorem vB {f:Nat} {s:Stmt} (hf:T[f]? = some (ji s)) {n:Nat} (j : 1<=n) {x k:Int} {M:Mem} {Q:QD} (q:∀ i,Q (.int i) M):phi T n f [.int x, .int k] M Q:=by
 refine aA j hf rfl (ρ := [some _,some _,none,none]) rfl ?_
 unfold ji
 walk_at "st"
 refine ⟨by decide,dG (by decide),mL (by decide),by decide, ?_⟩
 walk_at "st"
 refine ⟨by decide,dG ?_,by decide, ?_⟩
 ·have h1:=Int.emod_nonneg ((x % 1000000007+7*k+1)*48271) (b := 2147483647) (by decide)
  have h2:=Int.emod_lt_of_pos ((x % 1000000007+7*k+1)*48271) (b := 2147483647) (by decide)
  lia
 walk_at "st"
 refine ⟨mL (by decide),by decide,by decide,by decide, ?_⟩
 exact q _
noncomputable def qc (s:Stmt) (fc fm:Nat):FD:=⟨"_law_box",s,["_law_script", "_law_k", "_law_cell"],2,
 (.cons (.asg (.name 2) (.call fc (.cons (.var 0) (.cons (.var 1) .nil))))
 (.cons (.ret (.lst (.cons (.bin .mul (.blt .abs (.cons (.var 2) .nil)) (.blt .int (.cons (.cmp .ge (.blt .abs (.cons (.var 2) .nil)) (.bin .pow (.int 10) (.int 18))) .nil))) (.cons (.call fm (.cons (.var 2) (.cons (.bin .add (.int 900) (.var 1)) .nil))) (.cons (.int 0) .nil)))))
 .nil))⟩
theorem Ag {f fc fm:Nat} {s sc:Stmt} (hf:T[f]? = some (qc s fc fm)) (z:T[fc]? = some (iR sc)) {n:Nat} (B:∀ {x k:Int} {M:Mem} {Q:QD},(∀ i,Q (.int i) M)->phi T (n - 1) fm [.int x, .int k] M Q) (G : 2<=n) {ns:List Int} {k:Int} {M:Mem} {Q:QD} (h0 : 0<=k)
 (q:∀ p x y,M p=none->Q (.ref p) (af M p (.lst [.int x, .int y, .int 0]))):phi T n f [.con (ns.map D.int), .int k] M Q:=by
 refine aA (by lia) hf rfl (ρ := [some _,some _,none]) rfl ?_
 unfold qc
 walk_at "st"
 refine yn z (by lia) h0 fun i => ?_
 walk_at "st"
 refine ⟨by decide,by decide,by decide,mL ?_, ?_⟩
 ·split <;> lia
 refine B fun j => ?_
 exact ⟨by rw [sizeLine_eq];lia,fun p F=>q p _ _ F⟩
noncomputable def mM (s:Stmt) (fm:Nat):FD:=⟨"_law_take",s,["_law_box_here", "_law_many", "_law_found", "_law_reach"],2,
 (.cons (.ite (.cmp .gt (.ix (.var 0) (.int 0)) (.int 0)) (.cons (.asg (.name 2) (.bin .mod (.ix (.var 0) (.int 0)) (.var 1)))
 (.cons (.put (.var 0) (.int 0) (.bin .fdiv (.ix (.var 0) (.int 0)) (.var 1)))
 (.cons (.ret (.var 2))
 .nil))) .nil)
 (.cons (.asg (.tup (.cons (.name 2) (.cons (.name 3) .nil))) (.tup (.cons (.int 0) (.cons (.int 1) .nil))))
 (.cons (.while (.cmp .lt (.var 3) (.var 1)) (.cons (.put (.var 0) (.int 2) (.bin .add (.ix (.var 0) (.int 2)) (.int 1)))
 (.cons (.asg (.name 2) (.bin .add (.bin .mul (.var 2) (.int 33554432)) (.call fm (.cons (.ix (.var 0) (.int 1)) (.cons (.ix (.var 0) (.int 2)) .nil)))))
 (.cons (.asg (.name 3) (.bin .mul (.var 3) (.int 33554432)))
 .nil))))
 (.cons (.ret (.bin .mod (.var 2) (.var 1)))
 .nil))))⟩
noncomputable def wt (T:List FD) (n fm:Nat):Prop := ∀ {x k:Int} {M:Mem} {Q:QD},(∀ i,Q (.int i) M)->phi T n fm [.int x, .int k] M Q
theorem yo {f fm:Nat} {s:Stmt} (hf:T[f]? = some (mM s fm)) {n:Nat} (I:wt T (n - 1) fm) (J : 2<=n) {b:Addr} {m:Int} {M:Mem} {Q:QD} (hb:Box b M) (h1 : 0 < m) (h2:m<=2 ^ 100)
 (q:∀ r M',0<=r->r < m->Bx b M M'->Q (.int r) M'):phi T n f [.ref b, .int m] M Q:=by
 refine aA (by lia) hf rfl (ρ := [some _,some _,none,none]) rfl ?_
 unfold mM
 obtain ⟨x,y,z,G⟩:=hb
 walk_at "st"
 refine aK G (d := .int x) rfl ?_
 simp only [qb]
 walk_at "wp"
 split
 ·next hx =>
  walk_at "st"
  refine aK G (d := .int x) rfl ?_
  walk_at "wp"
  refine ⟨h1, ?_⟩
  walk_at "st"
  refine aK G (d := .int x) rfl ?_
  walk_at "wp"
  refine ⟨h1,by lia, ?_⟩
  refine de G (j := 0) rfl ?_
  walk_at "st"
  exact q _ _ (Int.emod_nonneg _ (by lia)) (Int.emod_lt_of_pos _ h1) Bx.put
 ·next hx =>
  walk_at "st"
  refine ⟨by rw [sizeLine_eq];lia, ?_⟩
  walk_at "st"
  refine ⟨5, ?_⟩
  have go:∀ (f:Nat) (found reach z:Int) (M':Mem),m<=reach*33554432 ^ f->M' b=some (.lst [.int x, .int y, .int z])->Bx b M M' ->
   b7 (ee (wOp wLt (gn 3) (gn 1))) (wSs (phi T (n - 1)) (MSs.cons (MS.put (ME.var 0) (ME.int 2) (ME.bin BOp.add ((ME.var 0).ix (ME.int 2)) (ME.int 1)))
    (MSs.cons (MS.asg (MG.name 2) (ME.bin BOp.add (ME.bin BOp.mul (ME.var 2) (ME.int 33554432)) (ME.call fm (MEs.cons ((ME.var 0).ix (ME.int 1)) (MEs.cons ((ME.var 0).ix (ME.int 2)) MEs.nil)))))
      (MSs.cons (MS.asg (MG.name 3) (ME.bin BOp.mul (ME.var 3) (ME.int 33554432))) MSs.nil))))
    { nx:=wSs (phi T (n - 1)) (MSs.cons (MS.ret (ME.bin BOp.mod (ME.var 2) (ME.var 1))) MSs.nil) { nx:=fun x M'=>Q D.non M',rt:=Q },rt:=Q } (f+1) [some (.ref b),some (.int m),some (.int found),some (.int reach)] M':=by
   intro f
   induction f with
   | zero =>
     intro found reach z M' hm F B
     simp only [b7]
     walk_at "wp"
     rw [if_neg (by lia)]
     walk_at "st"
     exact ⟨h1,q _ _ (Int.emod_nonneg _ (by lia)) (Int.emod_lt_of_pos _ h1) B⟩
   | succ f ih =>
     intro found reach z M' hm F B
     rw [b7]
     walk_at "wp"
     split
     ·next hr =>
      walk_at "st"
      refine aK F (d := .int z) rfl ?_
      walk_at "wp"
      refine de F (j := 2) rfl ?_
      walk_at "st"
      refine ⟨mL (by decide), ?_⟩
      refine aK ad (d := .int y) rfl ?_
      refine aK ad (d := .int (z+1)) rfl ?_
      refine I fun i => ?_
      walk_at "wp"
      walk_at "st"
      refine ⟨mL (by decide), ?_⟩
      exact ih _ _ (z+1) _ (by rw [Int.mul_assoc, <- Int.pow_succ'];exact hm) ad (B.trans Bx.put)
     ·walk_at "st"
      exact ⟨h1,q _ _ (Int.emod_nonneg _ (by lia)) (Int.emod_lt_of_pos _ h1) B⟩
  exact go 4 0 1 z M (by lia) G (Bx.refl ⟨x,y,z,G⟩)
noncomputable def sM (T:List FD) (n f:Nat):Prop := ∀ {b:Addr} {m:Int} {M:Mem} {Q:QD},Box b M->0 < m->m<=2 ^ 100->(∀ r M',0<=r->r < m->Bx b M M'->Q (.int r) M')->phi T n f [.ref b, .int m] M Q
noncomputable def gP (s:Stmt) (ft:Nat):FD:=⟨"_law_number",s,["_law_box_here", "_law_way"],1,
 (.cons (.asg (.name 1) (.call ft (.cons (.var 0) (.cons (.int 9) .nil))))
 (.cons (.ite (.cmp .eq (.var 1) (.int 0)) (.cons (.ret (.bin .sub (.call ft (.cons (.var 0) (.cons (.int 2001) .nil))) (.int 1000)))
 .nil) .nil)
 (.cons (.ret (.ix (.lst (.cons (.int 0) (.cons (.int 0) (.cons (.int 0) (.cons (.int 1) (.cons (.int 1) (.cons (.int 1) (.cons (.neg (.int 1)) (.cons (.neg (.int 1)) (.cons (.int 2) .nil)))))))))) (.var 1)))
 .nil)))⟩
theorem sN {f ft:Nat} {s:Stmt} (hf:T[f]? = some (gP s ft)) {n:Nat} (j:sM T (n - 1) ft) (J : 1<=n) {b:Addr} {M:Mem} {Q:QD} (hb:Box b M)
 (q:∀ r M', -1000<=r->r<=1000->Bx b M M'->Q (.int r) M'):phi T n f [.ref b] M Q:=by
 refine aA (by lia) hf rfl (ρ := [some _,none]) rfl ?_
 unfold gP
 walk_at "st"
 refine j hb (by decide) (by decide) fun r L h0 h1 B => ?_
 walk_at "st"
 split
 ·walk_at "st"
  refine j B.box (by decide) (by decide) fun O M2 h0 h1 F => ?_
  walk_at "wp"
  exact q _ _ (by lia) (by lia) (B.trans F)
 ·next hr =>
  walk_at "st"
  refine ⟨by rw [sizeLine_eq];lia,fun p G => ?_⟩
  have hr:r=1∨r=2∨r=3∨r=4∨r=5∨r=6∨r=7∨r=8:=by
   have:r≠0:=fun z=>hr (by rw [z];rfl)
   lia
  have I:=B.ge (Ge.new (o := .lst [.int 0, .int 0, .int 0, .int 1, .int 1, .int 1, .int (-1), .int (-1), .int 2]) G)
  rcases hr with rfl | rfl | rfl | rfl | rfl | rfl | rfl | rfl <;> exact aK ad rfl (q _ _ (by decide) (by decide) I)
end
section
variable {T:List FD}
theorem am {α:Type} {xs l r:List α} {x : α} (e:xs=l++x::r):l.length < xs.length:=by rw [e];simp
noncomputable abbrev Pr:=List Int×List Int×List Int
noncomputable def prD (p:Pr):D := .tup [.tup (p.1.map .int), .tup (p.2.1.map .int), .tup (p.2.2.map .int)]
noncomputable def dH (p:Pr):PyData := .tuple [.tuple (p.1.map .int), .tuple (p.2.1.map .int), .tuple (p.2.2.map .int)]
theorem ou {k:Nat} {M:Mem}:∀ ns:List Int,aw (rb k M) (ns.map D.int)=some (ns.map PyData.int)
 | [] => rfl
 | x::r=>by
   have e:rb k M (.int x)=some (.int x):=by cases k <;> rfl
   simp [aw,e,ou r]
theorem B9 {k:Nat} {M:Mem} (p:Pr):rb (k+2) M (prD p)=some (dH p):=by
 simp [rb,prD,dH,aw,ou]
theorem sP {k:Nat} {M:Mem}:∀ ps:List Pr,aw (rb (k+2) M) (ps.map prD)=some (ps.map dH)
 | [] => rfl
 | p::r=>by simp [aw,B9,sP r]
theorem mN {k:Nat} {M:Mem} {a:Addr} {ds:List D} (h:M a=some (.lst ds)):rb (k+1) M (.ref a)=(aw (rb k M) ds).map PyData.list:=by
 simp only [rb,h]
theorem mP {Φ:Phi} {s:MS} {r:MSs} {E:ba} {ρ:aq} {M:Mem} (I:aq->Mem->Prop) (h1:∀ R:aq->Mem->Prop,(∀ ρ M,I ρ M->R ρ M)->wS Φ s { E with nx:=R } ρ M) (h2:∀ ρ M,I ρ M->wSs Φ r E ρ M):wSs Φ (.cons s r) E ρ M:=by
 rw [aP];exact h1 _ h2
theorem vC {k:Nat}:(List.replicate k [D.int 0]).flatten=(List.replicate k (0:Int)).map D.int:=by
 induction k with
 | zero=>rfl
 | succ k ih=>rw [List.replicate_succ,List.flatten_cons,ih];rfl
end
section
theorem aB {α:Type} {f : α -> D} {b:BT} {tb:TCd} {chk:Mem->Prop} {N:NC} (I:List α -> aq->Mem->List D->Prop) {ys:List α} {xs:List D} (hx:xs=ys.map f) {ρ:aq} {M:Mem} {acc:List D}
 (h0:I [] ρ M acc)
 (n:∀ l ρ M acc,I l ρ M acc->chk M)
 (hs:∀ l x r ρ M acc,ys=l++x::r->I l ρ M acc -> ∃ ρ',b (f x) ρ = some ρ' /\ ∀ N':NC,(∀ ρ2 M2 j,I (l++[x]) ρ2 M2 j->N' ρ2 M2 j)->tb ρ' M acc N')
 (q:∀ ρ M acc,I ys ρ M acc->N ρ M acc):ci b tb chk N xs ρ M acc:=by
 subst hx
 have g:∀ (r l:List α) (ρ:aq) (M:Mem) (acc:List D),ys=l++r->I l ρ M acc->ci b tb chk N (r.map f) ρ M acc:=by
  intro r
  induction r with
  | nil=>intro l ρ M acc e i;rw [List.append_nil] at e;subst e;exact ⟨n _ _ _ _ i,q _ _ _ i⟩
  | cons x r ih =>
    intro l ρ M acc e i
    obtain ⟨ρ',z,h⟩:=hs l x r ρ M acc e i
    exact ⟨n _ _ _ _ i, ρ',z,h _ fun ρ2 M2 j B=>ih (l++[x]) ρ2 M2 j (by rw [e];simp) B⟩
 exact g ys [] ρ M acc rfl h0
theorem bj {α:Type} {f : α -> D} {b:BT} {tb:TSd} {chk:Mem->Prop} {E:ba} (I:List α -> aq->Mem->Prop) {ys:List α} {xs:List D} (hx:xs=ys.map f) {ρ:aq} {M:Mem}
 (h0:I [] ρ M)
 (j:∀ l ρ M,I l ρ M->chk M)
 (hs:∀ l x r ρ M,ys=l++x::r->I l ρ M -> ∃ ρ',b (f x) ρ = some ρ' /\ ∀ F:aq->Mem->Prop,(∀ ρ2 M2,I (l++[x]) ρ2 M2->F ρ2 M2)->tb { E with nx:=F,ct:=F,bk:=E.nx } ρ' M)
 (n:∀ ρ M,I ys ρ M->E.nx ρ M):bv b tb chk E xs ρ M:=by
 subst hx
 have g:∀ (r l:List α) (ρ:aq) (M:Mem),ys=l++r->I l ρ M->bv b tb chk E (r.map f) ρ M:=by
  intro r
  induction r with
  | nil=>intro l ρ M e i;rw [List.append_nil] at e;subst e;exact ⟨j _ _ _ i,n _ _ i⟩
  | cons x r ih =>
    intro l ρ M e i
    obtain ⟨ρ',q,h⟩:=hs l x r ρ M e i
    exact ⟨j _ _ _ i, ρ',q,h _ fun ρ2 M2 z=>ih (l++[x]) ρ2 M2 (by rw [e];simp) z⟩
 exact g ys [] ρ M rfl h0
theorem ow {M M':Mem} {x:D} {ds:List D} (h:aC M x=some ds) (g:Ge M M'):aC M' x=some ds:=by
 cases x with
 | ref a =>
   simp only [aC] at h ⊢
   split at h
   ·next e=>rw [g _ _ e];exact h
   ·cases h
 | _=>exact h
theorem vD {M:Mem} {x:D} {ds:List D} (h:aC M x=some ds):jb M x=some ds.length:=by
 cases x with
 | ref a =>
   simp only [aC] at h
   split at h
   ·next e=>cases h;simp only [jb,e]
   ·cases h
 | tup es=>cases h;rfl
 | con es=>cases h;rfl
 | _=>cases h
theorem yp {α:Type} {xs:List α} {k:Nat} {x : α} (h:xs[k]? = some x):atI xs (k:Int)=some x:=by
 have j:k < xs.length:=(List.getElem?_eq_some_iff.mp h).1
 unfold atI ixN
 rw [if_pos (by lia),if_pos (by lia)]
 exact h
theorem aH {n:Nat}:cV 0 n=(List.range n).map fun i=>D.int (i:Nat):=by simp [cV]
end
section
variable {T:List FD}
noncomputable def Big (ns:List Int):Prop := ∀ x∈ns, -1000000000000<=x/\x<=1000000000000
end
section
open PySem PySem.Spec PyProof.Rows L2.Srt
variable {T:List FD}
noncomputable abbrev K3:=Int×Int×Int
noncomputable abbrev Tm:=K3×Int
noncomputable def k3D (k:K3):D := .tup [.int k.1, .int k.2.1, .int k.2.2]
noncomputable def tmD (t:Tm):D := .tup [.int t.1.1, .int t.1.2.1, .int t.1.2.2, .int t.2]
noncomputable def kcD (t:Tm):D×D:=(k3D t.1, .int t.2)
noncomputable def k3K (k:K3):Ky := .tup [.int k.1, .int k.2.1, .int k.2.2]
noncomputable def klt (a b:K3):Prop:=ltK (k3K a) (k3K b)=true
theorem jj {a b:K3} (h:k3D a=k3D b):a=b:=by
 obtain ⟨a1,a2,j⟩:=a
 obtain ⟨b1,b2,b3⟩:=b
 simp [k3D] at h
 simp [h]
theorem ox {a b:K3} (h:k3K a=k3K b):a=b:=by
 obtain ⟨a1,a2,j⟩:=a
 obtain ⟨b1,b2,b3⟩:=b
 simp [k3K] at h
 simp [h]
noncomputable def cf (ts:List Tm) (k:K3):Int:=((ts.filter fun t=>decide (t.1=k)).map (·.2)).sum
theorem cr {k:K3}:cf [] k=0:=rfl
theorem aN {t:Tm} {ts:List Tm} {k:K3}:cf (t::ts) k=(if t.1=k then t.2 else 0)+cf ts k:=by
 unfold cf
 by_cases h:t.1=k
 ·rw [List.filter_cons_of_pos (by simpa using h),if_pos h];simp
 ·rw [List.filter_cons_of_neg (by simpa using h),if_neg h];simp
theorem dz {a b:List Tm} {k:K3}:cf (a++b) k=cf a k+cf b k:=by
 induction a with
 | nil=>simp [cr]
 | cons t a ih=>rw [List.cons_append,aN,aN,ih];lia
theorem oz {a b:List Tm} (h:a.Perm b) {k:K3}:cf a k=cf b k:=by
 induction h with
 | nil=>rfl
 | cons x h ih=>rw [aN,aN,ih]
 | swap x y l=>simp only [aN];lia
 | trans _ _ j n=>rw [j,n]
theorem dU {ts:List Tm} {k:K3} (h:∀ t∈ts,t.1≠k):cf ts k=0:=by
 induction ts with
 | nil=>rfl
 | cons t ts ih=>rw [aN,if_neg (h t (by simp)),ih fun u j=>h u (by simp [j])];rfl
theorem Ah {ts:List Tm} (j:(ts.map (·.1)).Nodup) {t:Tm} (n:t∈ts):cf ts t.1=t.2:=by
 induction ts with
 | nil=>simp at n
 | cons u ts ih =>
   simp only [List.map_cons,List.nodup_cons] at j
   rw [aN]
   rcases List.mem_cons.mp n with z | z
   ·subst z
    rw [if_pos rfl,dU fun v q e=>j.1 (by rw [<- e];exact List.mem_map_of_mem q)]
    lia
   ·rw [if_neg fun e=>j.1 (by rw [e];exact List.mem_map_of_mem z),ih j.2 z];lia
theorem mQ {ts:List Tm} {B:Int} (n : 0<=B) (h:∀ t∈ts, -B<=t.2/\t.2<=B) {k:K3} : -(ts.length*B)<=cf ts k/\cf ts k<=ts.length*B:=by
 induction ts with
 | nil=>simp [cr]
 | cons t ts ih =>
   obtain ⟨h1,h2⟩:=ih fun u j=>h u (by simp [j])
   obtain ⟨q,z⟩:=h t (by simp)
   rw [aN,List.length_cons,Int.natCast_add,Int.add_mul]
   split <;> lia
noncomputable def cz (L:List Tm) (k:K3) (c:Int):List Tm:=if (L.any fun p=>decide (p.1=k))=true then L.map fun p=>if p.1=k then (p.1,p.2+c) else p else L++[(k,c)]
theorem yq {L:List Tm} {k:K3}:dget (L.map kcD) (k3D k)=(L.find? fun p=>decide (p.1=k)).map fun p => .int p.2:=by
 unfold dget
 induction L with
 | nil=>rfl
 | cons t L ih =>
   by_cases h:t.1=k
   ·rw [List.map_cons,List.find?_cons_of_pos (by simp [kcD,h]),List.find?_cons_of_pos (by simpa using h)];rfl
   ·rw [List.map_cons,List.find?_cons_of_neg (by simp only [decide_eq_true_eq];exact fun e=>h (jj e)),List.find?_cons_of_neg (by simpa using h),ih]
theorem Ai {L:List Tm} {k:K3}:((L.map kcD).any fun p=>decide (p.1=k3D k))=L.any fun p=>decide (p.1=k):=by
 induction L with
 | nil=>rfl
 | cons t L ih =>
   rw [List.map_cons,List.any_cons,List.any_cons,ih]
   congr 1
   by_cases h:t.1=k
   ·simp [kcD,h]
   ·rw [decide_eq_false h];exact decide_eq_false (fun e=>h (jj e))
theorem yr {L:List Tm} (j:(L.map (·.1)).Nodup) {k:K3} {c:Int}:bP (L.map kcD) (k3D k) (.int ((((L.find? fun p=>decide (p.1=k)).map (·.2)).getD 0)+c))=(cz L k c).map kcD:=by
 unfold bP cz
 rw [Ai]
 split
 ·next h =>
  rw [List.map_map,List.map_map]
  apply List.map_congr_left
  intro t n
  simp only [Function.comp]
  by_cases e:t.1=k
  ·rw [if_pos (by rw [<- e];rfl),if_pos e]
   have:L.find? (fun p=>decide (p.1=k))=some t:=by
    clear h
    induction L with
    | nil=>simp at n
    | cons u L ih =>
      simp only [List.map_cons,List.nodup_cons] at j
      rcases List.mem_cons.mp n with z | z
      ·subst z;rw [List.find?_cons_of_pos (by simpa using e)]
      ·rw [List.find?_cons_of_neg (by simp;intro q;exact j.1 (by rw [q, <- e];exact List.mem_map_of_mem z))]
       exact ih j.2 z
   rw [this];rfl
  ·rw [if_neg (c:=(kcD t).1=k3D k) (fun z=>e (jj z)),if_neg e]
 ·next h =>
  have:L.find? (fun p=>decide (p.1=k))=none:=by
   rw [List.find?_eq_none]
   intro x hx
   simp only [decide_eq_true_eq]
   intro e
   exact h (List.any_eq_true.mpr ⟨x,hx,by simpa using e⟩)
  rw [this];simp [kcD]
theorem ke {L:List Tm} {k:K3} {c:Int}:(cz L k c).map (·.1)=if (L.any fun p=>decide (p.1=k))=true then L.map (·.1) else L.map (·.1)++[k]:=by
 unfold cz
 split
 ·rw [List.map_map]
  apply List.map_congr_left
  intro t _
  simp only [Function.comp]
  split <;> rfl
 ·simp
theorem qd {L:List Tm} (j:(L.map (·.1)).Nodup) {k:K3} {c:Int}:((cz L k c).map (·.1)).Nodup:=by
 rw [ke]
 split
 ·exact j
 ·next h =>
  refine List.nodup_append.mpr ⟨j,by simp,fun a n b hb e => ?_⟩
  simp at hb;subst hb;subst e
  obtain ⟨t,q,e⟩:=List.mem_map.mp n
  exact h (List.any_eq_true.mpr ⟨t,q,by simpa using e⟩)
theorem vE {L:List Tm} {k:K3} {c:Int} {a:K3} (h:a∈(cz L k c).map (·.1)):a∈L.map (·.1)∨a=k:=by
 rw [ke] at h
 split at h
 ·exact .inl h
 ·rcases List.mem_append.mp h with z | z
  ·exact .inl z
  ·exact .inr (by simpa using z)
theorem vF {L:List Tm} {k:K3} {c:Int}:(cz L k c).length<=L.length+1:=by
 unfold cz;split <;> simp
theorem yt {L:List Tm} (j:(L.map (·.1)).Nodup) {k a:K3} {c:Int}:cf (cz L k c) a=cf L a+if k=a then c else 0:=by
 unfold cz
 split
 ·next h =>
  obtain ⟨t,n,e⟩:=List.any_eq_true.mp h
  have e:t.1=k:=by simpa using e
  clear h
  induction L with
  | nil=>simp at n
  | cons u L ih =>
    simp only [List.map_cons,List.nodup_cons] at j
    rw [List.map_cons,aN,aN]
    by_cases eu:u.1=k
    ·have rest:(L.map fun p=>if p.1=k then (p.1,p.2+c) else p)=L:=by
      conv=>rhs;rw [<- List.map_id L]
      apply List.map_congr_left
      intro p q
      rw [if_neg fun z=>j.1 (by rw [eu, <- z];exact List.mem_map_of_mem q)];rfl
     rw [rest,if_pos eu]
     dsimp only
     by_cases ea:u.1=a
     ·rw [if_pos ea,if_pos ea,if_pos (by rw [<- eu];exact ea)];lia
     ·rw [if_neg ea,if_neg ea,if_neg (by rw [<- eu];exact ea)];lia
    ·rcases List.mem_cons.mp n with z | z
     ·exact absurd (by rw [<- z];exact e) eu
     ·rw [ih j.2 z,if_neg eu];lia
 ·rw [dz,aN,cr];simp
noncomputable def tset (ts:List Tm):List Tm:=ts.foldl (fun L t=>cz L t.1 t.2) []
theorem cu {ts:List Tm} {t:Tm}:tset (ts++[t])=cz (tset ts) t.1 t.2:=by simp [tset]
theorem df {α:Type} {P:List α -> Prop} (h0:P []) (h1:∀ l x,P l->P (l++[x])) (l:List α):P l:=by
 have:∀ r:List α,P r.reverse:=by
  intro r
  induction r with
  | nil=>exact h0
  | cons x r ih=>rw [List.reverse_cons];exact h1 _ _ ih
 have:=this l.reverse
 rw [List.reverse_reverse] at this
 exact this
theorem eK (ts:List Tm):((tset ts).map (·.1)).Nodup:=df (P:=fun ts=>((tset ts).map (·.1)).Nodup) (by simp [tset]) (fun l x ih=>by rw [cu];exact qd ih) ts
theorem yu (ts:List Tm) (k:K3):cf (tset ts) k=cf ts k:=df (P:=fun ts=>cf (tset ts) k=cf ts k) rfl (fun l x ih=>by
 rw [cu,yt (eK l),ih,dz,aN,cr];lia) ts
theorem mR (ts:List Tm):(tset ts).length<=ts.length:=df (P:=fun ts=>(tset ts).length<=ts.length) (by simp [tset]) (fun l x ih=>by
 rw [cu];have:=vF (L:=tset l) (k:=x.1) (c:=x.2);simp;lia) ts
theorem vG (ts:List Tm):∀ a∈(tset ts).map (·.1),a∈ts.map (·.1):=df (P:=fun ts => ∀ a∈(tset ts).map (·.1),a∈ts.map (·.1)) (by simp [tset]) (fun l x ih a j=>by
 rw [cu] at j
 rw [List.map_append]
 rcases vE j with z | z
 ·exact List.mem_append_left _ (ih a z)
 ·exact List.mem_append_right _ (by simp [z])) ts
structure IsTask (ts rs:List Tm):Prop where
 srt:rs.Pairwise fun a b=>klt a.1 b.1
 nz:∀ r∈rs,r.2≠0
 cf:∀ k,cf rs k=cf ts k
 mem:∀ r∈rs,r.1∈ts.map (·.1)
 len:rs.length<=ts.length
theorem yv {a:K3} (h:klt a a):False:=by
 have:=gD _ _ h
 unfold klt at h
 rw [h] at this;cases this
theorem IsTask.nodup {ts rs:List Tm} (h:IsTask ts rs):(rs.map (·.1)).Nodup:=by
 rw [List.nodup_iff_pairwise_ne,List.pairwise_map]
 refine h.srt.imp ?_
 intro a b j e
 rw [e] at j
 exact yv j
theorem IsTask.val {ts rs:List Tm} (h:IsTask ts rs) {r:Tm} (hr:r∈rs):r.2=Mi.cf ts r.1:=by rw [<- h.cf,Ah h.nodup hr]
theorem Ba {ts:List Tm} {k:K3}:Mi.cf (ts.filter fun t => !(t.2==0)) k=Mi.cf ts k:=by
 induction ts with
 | nil=>rfl
 | cons t ts ih =>
   rw [aN]
   by_cases h:t.2=0
   ·rw [List.filter_cons_of_neg (by simp [h]),ih,h];split <;> lia
   ·rw [List.filter_cons_of_pos (by simp [h]),aN,ih]
theorem Ge.upd {M j:Mem} {d:Addr} {o:O} (g:Ge M j) (hd:M d=none):Ge M (af j d o):=fun a o' e=>by
 rw [av (fun z=>by rw [z,hd] at e;cases e)];exact g _ _ e
noncomputable def dg (s:Stmt):FD:=⟨"task_of",s,["left", "right", "many", "terms", "sums", "k", "i", "j", "c"],4,
 (.cons (.asg (.name 4) (.dnew true))
 (.cons (.for (.tup (.cons (.name 5) (.cons (.name 6) (.cons (.name 7) (.cons (.name 8) .nil))))) (.seq (.var 3)) (.cons (.put (.var 4) (.tup (.cons (.var 5) (.cons (.var 6) (.cons (.var 7) .nil)))) (.bin .add (.dget (.var 4) (.tup (.cons (.var 5) (.cons (.var 6) (.cons (.var 7) .nil)))) (.int 0)) (.var 8)))
 .nil))
 (.cons (.ret (.tup (.cons (.var 0) (.cons (.var 1) (.cons (.var 2) (.cons (.comp [none,none,none,none] ["k", "i", "j", "c"] (.last (.seq (.sortI (.var 4))) (.tup (.cons (.tup (.cons (.name 0) (.cons (.name 1) (.cons (.name 2) .nil)))) (.cons (.name 3) .nil))) (.cons (.cmp .ne (.var 3) (.int 0)) .nil) (.tup (.cons (.var 0) (.cons (.var 1) (.cons (.var 2) (.cons (.var 3) .nil))))))) .nil))))))
 .nil)))⟩
theorem dW {f:Nat} {s:Stmt} (hf:T[f]? = some (dg s)) {n:Nat} (hn : 1<=n) {L R N:D} {x:D} {ts:List Tm} {M:Mem} {Q:QD} (hx:aC M x=some (ts.map tmD)) (hl:ts.length<=100000)
 (q:∀ (rs:List Tm) p M',IsTask ts rs->Ge M M'->M p=none->M' p=some (.lst (rs.map tmD))->Q (.tup [L,R,N, .ref p]) M'):phi T n f [L,R,N,x] M Q:=by
 refine aA (by lia) hf rfl (ρ := [some _,some _,some _,some _,none,none,none,none,none]) rfl ?_
 unfold dg
 walk_at "st"
 intro d hd
 walk_at "st"
 have g0:=Ge.new (o := .dct true []) hd
 refine ⟨_,ow hx g0, ?_⟩
 refine bj (I:=fun l ρ M' => ∃ Y Z o7 o8, ρ = [some L,some R,some N,some x,some (.ref d),Y,Z,o7,o8]/\Ge M M'/\M' d=some (.dct true ((tset l).map kcD))) rfl ⟨_,_,_,_,rfl,g0,ad⟩ (fun l ρ M' ⟨_,_,_,_,_,g,_⟩=>ow hx g) ?_ ?_
 ·rintro l t r ρ M1 e ⟨Y,Z,o7,o8,rfl,g1,B⟩
  refine ⟨_,rfl,fun F hF => ?_⟩
  have BP:=am e
  have BS:=mR l
  rw [aP]
  walk_at "wp"
  refine ⟨⟨_,_,B⟩,by rw [sizeLine_eq];lia,_,_,B,rfl, ?_⟩
  have ek:D.tup [D.int t.1.1,D.int t.1.2.1,D.int t.1.2.2]=k3D t.1:=rfl
  rw [ek,yq]
  have eg:((Option.map (fun p:Tm=>D.int p.2) ((tset l).find? fun p=>decide (p.1=t.1))).getD (.int 0)) = .int (((((tset l).find? fun p=>decide (p.1=t.1)).map (·.2)).getD 0)):=by
   cases (tset l).find? fun p=>decide (p.1=t.1) <;> rfl
  rw [eg]
  walk_at "wp"
  refine ⟨by rw [sizeLine_eq];lia,gO B rfl (by rw [List.length_map,sizeLine_eq];lia) ?_⟩
  rw [yr (eK l)]
  refine hF _ _ ⟨_,_,_,_,rfl,g1.upd hd, ?_⟩
  rw [ad,cu]
 ·rintro ρ M1 ⟨Y,Z,o7,o8,rfl,g1,B⟩
  dsimp only
  walk_at "st"
  refine ⟨_,_,B, .tup [.tup [.int, .int, .int], .int],rfl,fun kv BQ => ?_,fun p ys hp z j => ?_⟩
  ·obtain ⟨t,_,rfl⟩:=List.mem_map.mp BQ
   rfl
  rw [List.map_map] at z
  obtain ⟨L',S,p2⟩:=cn (fun t:Tm=>kvD (kcD t)) z rfl
  have G:(L'.map (·.1)).Nodup:=(S.map (·.1)).nodup_iff.mpr (eK ts)
  have BR:L'.Pairwise fun a b=>klt a.1 b.1:=by
   rw [<- p2] at j
   unfold cy at j
   rw [List.pairwise_map] at j
   rw [List.nodup_iff_pairwise_ne,List.pairwise_map] at G
   refine (j.and G).imp ?_
   rintro a b ⟨h1,h2⟩
   unfold klt
   cases e1:ltK (k3K a.1) (k3K b.1) with
   | true=>rfl
   | false =>
     exfalso
     cases J:ltK (k3K b.1) (k3K a.1) with
     | false=>exact h2 (ox (fu _ _ e1 J))
     | true =>
       have:ltK (kyD (kvD (kcD b))) (kyD (kvD (kcD a)))=true:=by
        show ltK (.tup [k3K b.1, .int b.2]) (.tup [k3K a.1, .int a.2])=true
        unfold ltK at J ⊢
        have J:ak (k3K b.1) (k3K a.1) = .lt:=by simpa using J
        simp only [ak,cmpKs]
        rw [J];rfl
       rw [this] at h1;cases h1
  have g2:=g1.trans (Ge.new (o := .lst ys) hp)
  subst p2
  refine ⟨_,ai ad, ?_⟩
  have BU:L'.length<=ts.length:=by rw [S.length_eq];exact mR ts
  refine aB (f:=fun t:Tm=>kvD (kcD t)) (I:=fun l ρ M' acc=>(∃ o0 o1 o2 o3, ρ = [o0,o1,o2,o3])/\M'=af M1 p (.lst (L'.map fun t=>kvD (kcD t)))/\acc=(l.filter fun t => !(t.2==0)).map tmD) rfl ⟨⟨_,_,_,_,rfl⟩,rfl,rfl⟩ (fun _ _ _ _ hI=>by rw [hI.2.1];exact ai ad) ?_ ?_
  ·rintro l t r ρ M2 acc e ⟨⟨o0,o1,o2,o3,rfl⟩,rfl,rfl⟩
   refine ⟨_,rfl,fun N' hN => ?_⟩
   have BP:=am e
   have BV:(l.filter fun t => !(t.2==0)).length<=l.length:=List.length_filter_le _ _
   walk_at "wp"
   simp only [show (kcD t).2=D.int t.2 from rfl]
   walk_at "wp"
   by_cases U:t.2=0
   ·rw [if_neg (by simp [U])]
    exact hN _ _ _ ⟨⟨_,_,_,_,rfl⟩,rfl,by simp [List.filter_append,U]⟩
   ·rw [if_pos (by simp [U])]
    refine ⟨by rw [sizeLine_eq];lia,by rw [List.length_map,sizeLine_eq];lia,hN _ _ _ ⟨⟨_,_,_,_,rfl⟩,rfl, ?_⟩⟩
    simp [List.filter_append,U,tmD]
  ·rintro ρ M2 acc ⟨_,rfl,rfl⟩ p2 hp2
   refine ⟨by rw [sizeLine_eq];lia, ?_⟩
   have O:M p2=none:=by
    cases hq:M p2 with
    | none=>rfl
    | some o=>rw [g2 _ _ hq] at hp2;cases hp2
   refine q (L'.filter fun t => !(t.2==0)) p2 _ ⟨BR.sublist List.filter_sublist,fun r hr=>by simpa using (List.mem_filter.mp hr).2,fun k => ?_,fun r hr => ?_, ?_⟩ (g2.trans (Ge.new hp2)) O ad
   ·rw [Ba,oz S,yu]
   ·have:=(List.mem_filter.mp hr).1
    exact vG ts _ (List.mem_map_of_mem (S.mem_iff.mp this))
   ·have:=List.length_filter_le (fun t:Tm => !(t.2==0)) L'
    lia
end
section
open PySem PySem.Spec PyProof.Rows L2.Srt
variable {T:List FD}
structure InB (rs:List Tm) (la lb N:Nat):Prop where
 k:∀ r∈rs,0<=r.1.1/\r.1.1 < N
 i:∀ r∈rs,0<=r.1.2.1/\r.1.2.1 < la
 j:∀ r∈rs,0<=r.1.2.2/\r.1.2.2 < lb
 c:∀ r∈rs, -(2 ^ 64) < r.2/\r.2 < 2 ^ 64
end
section
open PySem PySem.Spec PyProof.Rows L2.Srt
theorem jk {α:Type} {lt : α -> α -> Prop} (as:∀ a b,lt a b->lt b a->False):∀ {l m:List α},l.Pairwise lt->m.Pairwise lt->(∀ x,x∈l↔x∈m)->l=m
 | [],[],_,_,_=>rfl
 | [],y::m,_,_,h=>by have:=(h y).mpr (by simp);simp at this
 | x::l,[],_,_,h=>by have:=(h x).mp (by simp);simp at this
 | x::l,y::m,hl,hm,h=>by
   rw [List.pairwise_cons] at hl hm
   have e:x=y:=by
    rcases List.mem_cons.mp ((h x).mp (by simp)) with z | z
    ·exact z
    ·rcases List.mem_cons.mp ((h y).mpr (by simp)) with w | w
     ·exact w.symm
     ·exact (as _ _ (hm.1 _ z) (hl.1 _ w)).elim
   subst e
   rw [jk as hl.2 hm.2 fun z => ?_]
   constructor
   ·intro j
    rcases List.mem_cons.mp ((h z).mp (by simp [j])) with w | w
    ·subst w;exact (as _ _ (hl.1 _ j) (hl.1 _ j)).elim
    ·exact w
   ·intro j
    rcases List.mem_cons.mp ((h z).mpr (by simp [j])) with w | w
    ·subst w;exact (as _ _ (hm.1 _ j) (hm.1 _ j)).elim
    ·exact w
theorem IsTask.iff {ts rs:List Tm} (h:IsTask ts rs) {r:Tm}:r∈rs↔r.2≠0/\r.2=Mi.cf ts r.1:=by
 constructor
 ·exact fun hr=>⟨h.nz r hr,h.val hr⟩
 ·rintro ⟨h1,h2⟩
  apply Classical.byContradiction
  intro n
  apply h1
  rw [h2, <- h.cf]
  refine dU fun t j e=>n ?_
  have:=h.val j
  rw [e, <- h2] at this
  have q:t=r:=Prod.ext e this
  rw [<- q];exact j
theorem IsTask.uniq {ts ts' rs rs':List Tm} (h:IsTask ts rs) (h':IsTask ts' rs') (e:∀ k,Mi.cf ts k=Mi.cf ts' k):rs=rs':=by
 refine jk (fun a b h1 h2 => ?_) h.srt h'.srt fun r=>by rw [h.iff,h'.iff,e]
 have j:=gD _ _ h1
 unfold klt at h2
 rw [h2] at j;cases j
theorem nD {ts L:List Tm} (j:L.Perm ts) (hs:cy (L.map tmD)) (B:(ts.map (·.1)).Nodup) (F:∀ t∈ts,t.2≠0):IsTask ts L:=by
 refine ⟨?_,fun r hr=>F r (j.mem_iff.mp hr),fun k=>oz j,fun r hr=>List.mem_map_of_mem (j.mem_iff.mp hr),by rw [j.length_eq];lia⟩
 have n:(L.map (·.1)).Nodup:=(j.map (·.1)).nodup_iff.mpr B
 unfold cy at hs
 rw [List.pairwise_map] at hs
 rw [List.nodup_iff_pairwise_ne,List.pairwise_map] at n
 refine (hs.and n).imp ?_
 rintro a b ⟨h1,h2⟩
 unfold klt
 cases G:ltK (k3K a.1) (k3K b.1) with
 | true=>rfl
 | false =>
   exfalso
   cases q:ltK (k3K b.1) (k3K a.1) with
   | false=>exact h2 (ox (fu _ _ G q))
   | true =>
     have:ltK (kyD (tmD b)) (kyD (tmD a))=true:=by
      have z:ak (k3K b.1) (k3K a.1) = .lt:=by unfold ltK at q;simpa using q
      have I:ak (k3K b.1) (k3K a.1)=(ak (.int b.1.1) (.int a.1.1)).then ((ak (.int b.1.2.1) (.int a.1.2.1)).then ((ak (.int b.1.2.2) (.int a.1.2.2)).then .eq)):=by
       conv=>lhs;unfold k3K ak
       simp only [cmpKs]
      have J:ak (kyD (tmD b)) (kyD (tmD a))=(ak (.int b.1.1) (.int a.1.1)).then ((ak (.int b.1.2.1) (.int a.1.2.1)).then ((ak (.int b.1.2.2) (.int a.1.2.2)).then ((ak (.int b.2) (.int a.2)).then .eq))):=by
       show ak (.tup [.int b.1.1, .int b.1.2.1, .int b.1.2.2, .int b.2]) (.tup [.int a.1.1, .int a.1.2.1, .int a.1.2.2, .int a.2])=_
       conv=>lhs;unfold ak
       simp only [cmpKs]
      unfold ltK
      rw [J]
      rw [I] at z
      revert z
      generalize ak (.int b.1.1) (.int a.1.1)=o1
      generalize ak (.int b.1.2.1) (.int a.1.2.1)=o2
      generalize ak (.int b.1.2.2) (.int a.1.2.2)=o3
      generalize ak (.int b.2) (.int a.2)=o4
      cases o1 <;> cases o2 <;> cases o3 <;> cases o4 <;> decide
     rw [this] at h1;cases h1
end
section
open PySem PySem.Spec PyProof.Rows L2.Srt
variable {T:List FD}
noncomputable def iS (n m:Nat) (g:Nat->Nat->Tm):List Tm:=(List.range n).flatMap fun i=>(List.range m).map (g i)
noncomputable def eM (i j:Nat):Tm:=(((i+j:Nat),(i:Int),(j:Int)),1)
noncomputable def dA (n:Nat) (t:Int) (i j:Nat):Tm:=if i+j < n then (((i+j:Nat),(i:Int),(j:Int)),1) else (((i+j - n:Nat),(i:Int),(j:Int)),t)
noncomputable def eN (n m:Nat):List Tm:=iS n m eM
noncomputable def eO (n:Nat) (t:Int):List Tm:=iS n n (dA n t)
theorem vH {n:Nat} {t:Int} {i j:Nat} (h:i+j < n):dA n t i j=((((i+j:Nat):Int),(i:Int),(j:Int)),1):=if_pos h
theorem vI {n:Nat} {t:Int} {i j:Nat} (h : ¬ i+j < n):dA n t i j=((((i+j - n:Nat):Int),(i:Int),(j:Int)),t):=if_neg h
end
section
open PySem PySem.Spec PyProof.Rows L2.Srt
variable {T:List FD}
noncomputable def mU (s:Stmt) (ft:Nat):FD:=⟨"line_task",s,["n", "m", "terms"],2,
 (.cons (.asg (.name 2) (.comp [none,none,(some 1)] ["i", "j", "m"] (.more (.rng1 (.var 0)) (.name 0) .nil (.last (.rng1 (.var 2)) (.name 1) .nil (.tup (.cons (.bin .add (.var 0) (.var 1)) (.cons (.var 0) (.cons (.var 1) (.cons (.int 1) .nil)))))))))
 (.cons (.ret (.call ft (.cons (.var 0) (.cons (.var 1) (.cons (.bin .sub (.bin .add (.var 0) (.var 1)) (.int 1)) (.cons (.var 2) .nil))))))
 .nil))⟩
noncomputable def mV (s:Stmt) (ft:Nat):FD:=⟨"ring_task",s,["n", "turn", "terms"],2,
 (.cons (.asg (.name 2) (.comp [none,none,(some 0),(some 1)] ["i", "j", "n", "turn"] (.more (.rng1 (.var 0)) (.name 0) .nil (.last (.rng1 (.var 2)) (.name 1) .nil (.tup (.cons (.bin .mod (.bin .add (.var 0) (.var 1)) (.var 2)) (.cons (.var 0) (.cons (.var 1) (.cons (.ite (.cmp .lt (.bin .add (.var 0) (.var 1)) (.var 2)) (.int 1) (.var 3)) .nil)))))))))
 (.cons (.ret (.call ft (.cons (.var 0) (.cons (.var 0) (.cons (.var 0) (.cons (.var 2) .nil))))))
 .nil))⟩
theorem eP {n m:Nat} {g:Nat->Nat->Tm}:(iS n m g).length=n*m:=by
 unfold iS
 rw [List.length_flatMap]
 induction n with
 | zero=>simp
 | succ n ih=>rw [List.range_succ,List.map_append,List.sum_append,ih,Nat.succ_mul];simp
theorem dB {l:List Nat} {i:Nat} {G:Nat->List Tm}:(l++[i]).flatMap G=l.flatMap G++G i:=by simp
theorem dh {l:List Nat} {m:Nat} {g:Nat->Nat->Tm}:(l.flatMap fun i=>(List.range m).map (g i)).length=l.length*m:=by
 induction l with
 | nil=>simp
 | cons i l ih=>rw [List.flatMap_cons,List.length_append,ih,List.length_cons,Nat.succ_mul];simp;lia
theorem yw {f ft:Nat} {s s':Stmt} (hf:T[f]? = some (mU s ft)) (L:T[ft]? = some (dg s')) {k:Nat} (U : 2<=k) {n m:Nat} {M:Mem} {Q:QD} (O:n<=100) (hm:m<=100)
 (q:∀ (rs:List Tm) p M',IsTask (eN n m) rs->Ge M M'->M p=none->M' p=some (.lst (rs.map tmD))->Q (.tup [.int n, .int m, .int (n+m - 1), .ref p]) M'):phi T k f [.int n, .int m] M Q:=by
 refine aA (by lia) hf rfl (ρ := [some _,some _,none]) rfl ?_
 unfold mU
 walk_at "st"
 refine ⟨by lia,by lia, ?_⟩
 refine aB (f:=fun i=>D.int (i:Nat)) (I:=fun l ρ M' acc=>(∃ o0 z, ρ = [o0,z,some (.int m)])/\M'=M/\acc=(l.flatMap fun i=>(List.range m).map (eM i)).map tmD) aH ⟨⟨_,_,rfl⟩,rfl,rfl⟩ (fun _ _ _ _ _=>trivial) ?_ ?_
 ·rintro l i r ρ M1 acc e ⟨⟨o0,z,rfl⟩,rfl,rfl⟩
  refine ⟨_,rfl,fun N' R => ?_⟩
  have G:=am e
  rw [List.length_range] at G
  walk_at "wp"
  refine ⟨by lia,by lia, ?_⟩
  refine aB (f:=fun i=>D.int (i:Nat)) (I:=fun l' ρ M' acc=>(∃ z, ρ = [some (.int i),z,some (.int m)])/\M'=M1/\acc=((l.flatMap fun i=>(List.range m).map (eM i))++l'.map (eM i)).map tmD) aH ⟨⟨_,rfl⟩,rfl,by simp⟩ (fun _ _ _ _ _=>trivial) ?_ ?_
  ·rintro l' j r' ρ M2 acc e' ⟨⟨z,rfl⟩,rfl,rfl⟩
   refine ⟨_,rfl,fun Y J => ?_⟩
   have B:=am e'
   rw [List.length_range] at B
   have hmul:l.length*m<=100*100:=Nat.mul_le_mul (by lia) (by lia)
   walk_at "wp"
   refine ⟨by rw [sizeLine_eq];lia,by rw [List.length_map,List.length_append,dh,List.length_map,sizeLine_eq];lia,J _ _ _ ⟨⟨_,rfl⟩,rfl, ?_⟩⟩
   simp [tmD,eM]
  ·rintro ρ M2 acc ⟨⟨z,rfl⟩,rfl,rfl⟩
   refine R _ _ _ ⟨⟨_,_,rfl⟩,rfl, ?_⟩
   rw [dB];simp
 ·rintro ρ M1 acc ⟨_,rfl,rfl⟩ p hp
  have eL:((List.range (n:Int).toNat).flatMap fun i=>(List.range m).map (eM i))=eN n m:=by rw [Int.toNat_natCast];rfl
  rw [eL]
  have hl:(eN n m).length<=100*100:=by unfold eN;rw [eP];exact Nat.mul_le_mul O hm
  walk_at "st"
  refine dW L (by lia) (ai ad) (by lia) fun rs p2 M2 h1 g F S => ?_
  have g1:=Ge.new (o := .lst ((eN n m).map tmD)) hp
  refine q rs p2 M2 h1 (g1.trans g) ?_ S
  cases hq:M1 p2 with
  | none=>rfl
  | some o=>rw [g1 _ _ hq] at F;cases F
theorem yz {f ft:Nat} {s s':Stmt} (hf:T[f]? = some (mV s ft)) (O:T[ft]? = some (dg s')) {k:Nat} (U : 2<=k) {n:Nat} {t:Int} {M:Mem} {Q:QD} (L:n<=100)
 (q:∀ (rs:List Tm) p M',IsTask (eO n t) rs->Ge M M'->M p=none->M' p=some (.lst (rs.map tmD))->Q (.tup [.int n, .int n, .int n, .ref p]) M'):phi T k f [.int n, .int t] M Q:=by
 refine aA (by lia) hf rfl (ρ := [some _,some _,none]) rfl ?_
 unfold mV
 walk_at "st"
 refine ⟨by lia,by lia, ?_⟩
 refine aB (f:=fun i=>D.int (i:Nat)) (I:=fun l ρ M' acc=>(∃ o0 z, ρ = [o0,z,some (.int n),some (.int t)])/\M'=M/\acc=(l.flatMap fun i=>(List.range n).map (dA n t i)).map tmD) aH ⟨⟨_,_,rfl⟩,rfl,rfl⟩ (fun _ _ _ _ _=>trivial) ?_ ?_
 ·rintro l i r ρ M1 acc e ⟨⟨o0,z,rfl⟩,rfl,rfl⟩
  refine ⟨_,rfl,fun N' R => ?_⟩
  have J:=am e
  rw [List.length_range] at J
  have hi:i < n:=by have:i∈List.range (n:Int).toNat:=by rw [e];simp
                    have:=List.mem_range.mp this;lia
  walk_at "wp"
  refine ⟨by lia,by lia, ?_⟩
  refine aB (f:=fun i=>D.int (i:Nat)) (I:=fun l' ρ M' acc=>(∃ z, ρ = [some (.int i),z,some (.int n),some (.int t)])/\M'=M1/\acc=((l.flatMap fun i=>(List.range n).map (dA n t i))++l'.map (dA n t i)).map tmD) aH ⟨⟨_,rfl⟩,rfl,by simp⟩ (fun _ _ _ _ _=>trivial) ?_ ?_
  ·rintro l' j r' ρ M2 acc e' ⟨⟨z,rfl⟩,rfl,rfl⟩
   refine ⟨_,rfl,fun Y B => ?_⟩
   have F:=am e'
   rw [List.length_range] at F
   have hmul:l.length*n<=100*100:=Nat.mul_le_mul (by lia) (by lia)
   have Z:j < n:=by have:j∈List.range (n:Int).toNat:=by rw [e'];simp
                    have:=List.mem_range.mp this;lia
   walk_at "wp"
   refine ⟨by lia, ?_⟩
   by_cases h1:i+j < n
   ·rw [if_pos (by lia)]
    refine ⟨by rw [sizeLine_eq];lia,by rw [List.length_map,List.length_append,dh,List.length_map,sizeLine_eq];lia,B _ _ _ ⟨⟨_,rfl⟩,rfl, ?_⟩⟩
    have ep:((i:Int)+j) % n=((i+j:Nat):Int):=by rw [Int.emod_eq_of_lt (by lia) (by lia)];lia
    simp [tmD,vH h1,ep]
   ·rw [if_neg (by lia)]
    refine ⟨by rw [sizeLine_eq];lia,by rw [List.length_map,List.length_append,dh,List.length_map,sizeLine_eq];lia,B _ _ _ ⟨⟨_,rfl⟩,rfl, ?_⟩⟩
    have ep:((i:Int)+j) % n=((i+j - n:Nat):Int):=by rw [show ((i:Int)+j)=((i+j - n:Nat):Int)+n by lia,Int.add_emod_right,Int.emod_eq_of_lt (by lia) (by lia)]
    simp [tmD,vI h1,ep]
  ·rintro ρ M2 acc ⟨⟨z,rfl⟩,rfl,rfl⟩
   refine R _ _ _ ⟨⟨_,_,rfl⟩,rfl, ?_⟩
   rw [dB];simp
 ·rintro ρ M1 acc ⟨_,rfl,rfl⟩ p hp
  have eL:((List.range (n:Int).toNat).flatMap fun i=>(List.range n).map (dA n t i))=eO n t:=by rw [Int.toNat_natCast];rfl
  rw [eL]
  have hl:(eO n t).length<=100*100:=by unfold eO;rw [eP];exact Nat.mul_le_mul L L
  walk_at "st"
  refine dW O (by lia) (ai ad) (by lia) fun rs p2 M2 h1 g G S => ?_
  have g1:=Ge.new (o := .lst ((eO n t).map tmD)) hp
  refine q rs p2 M2 h1 (g1.trans g) ?_ S
  cases hq:M1 p2 with
  | none=>rfl
  | some o=>rw [g1 _ _ hq] at G;cases G
end
section
open PySem PySem.Spec PyProof.Rows L2.Srt
theorem mW {b p:Addr} {M:Mem} (hb:Box b M) (j:M p=none):p≠b:=fun z=>by
 obtain ⟨x,y,w,e⟩:=hb;rw [<- z,j] at e;cases e
noncomputable def cb (t:Tm):PyData := .tuple [.int t.1.1, .int t.1.2.1, .int t.1.2.2, .int t.2]
theorem Bb {k:Nat} {M:Mem} (t:Tm):rb (k+2) M (tmD t)=some (cb t):=by
 simp [tmD,rb,aw,cb]
theorem mX {k:Nat} {M:Mem}:∀ ts:List Tm,aw (rb (k+2) M) (ts.map tmD)=some (ts.map cb)
 | [] => rfl
 | t::r=>by simp [aw,Bb,mX r]
theorem jl:∀ ts:List Tm,PyData.eqvAll (ts.map cb) (ts.map cb)=true
 | [] => rfl
 | t::r=>by simp [PyData.eqvAll,PyData.eqv,jl r,cb]
theorem oA {M:Mem} {p:Addr} {ts:List Tm} {a b c:Int} (h:M p=some (.lst (ts.map tmD))):rb 16 M (.tup [.int a, .int b, .int c, .ref p])=some (.tuple [.int a, .int b, .int c, .list (ts.map cb)]):=by
 have e:rb 15 M (.ref p)=some (.list (ts.map cb)):=by rw [mN h,mX];rfl
 have ei:∀ x:Int,rb 15 M (.int x)=some (.int x):=fun _=>rfl
 show (aw (rb 15 M) [.int a, .int b, .int c, .ref p]).map PyData.tuple=_
 simp [aw,e,ei]
theorem vJ {ts:List Tm} {a b c:Int}:PyData.eqv (.tuple [.int a, .int b, .int c, .list (ts.map cb)]) (.tuple [.int a, .int b, .int c, .list (ts.map cb)])=true:=by
 simp [PyData.eqv,PyData.eqvAll,jl]
theorem mY {n m:Nat} {g:Nat->Nat->Tm} {t:Tm} (h:t∈iS n m g):∃ i j,i < n/\j < m/\t=g i j:=by
 obtain ⟨i,hi,h⟩:=List.mem_flatMap.mp h
 obtain ⟨j,q,rfl⟩:=List.mem_map.mp h
 exact ⟨i,j,List.mem_range.mp hi,List.mem_range.mp q,rfl⟩
end
section
open PySem PySem.Spec PyProof.Rows L2.Srt
variable {T:List FD}
theorem yA {L0 L1 L2:Nat} {ts rs:List Tm} (h:IsTask ts rs) (hb:∀ t∈ts,(0<=t.1.1/\t.1.1 < L2)/\(0<=t.1.2.1/\t.1.2.1 < L0)/\(0<=t.1.2.2/\t.1.2.2 < L1) /\ -1000000000<=t.2/\t.2<=1000000000) (hl:ts.length<=1000000):InB rs L0 L1 L2:=by
 have key:∀ r∈rs, ∃ t∈ts,t.1=r.1:=fun r hr=>by
  obtain ⟨t,h1,h2⟩:=List.mem_map.mp (h.mem r hr)
  exact ⟨t,h1,h2⟩
 refine ⟨fun r hr => ?_,fun r hr => ?_,fun r hr => ?_,fun r hr => ?_⟩
 ·obtain ⟨t,h1,h2⟩:=key r hr;rw [<- h2];exact (hb t h1).1
 ·obtain ⟨t,h1,h2⟩:=key r hr;rw [<- h2];exact (hb t h1).2.1
 ·obtain ⟨t,h1,h2⟩:=key r hr;rw [<- h2];exact (hb t h1).2.2.1
 ·rw [h.val hr]
  obtain ⟨h1,h2⟩:=mQ (ts:=ts) (B := 1000000000) (by lia) (fun t j=>(hb t j).2.2.2) (k:=r.1)
  have:(ts.length:Int)*1000000000<=1000000*1000000000:=Int.mul_le_mul_of_nonneg_right (by lia) (by lia)
  lia
noncomputable def gQ (m p a b c:Nat):Tm:=(((a*p+c:Nat),((a*m+b:Nat):Int),((b*p+c:Nat):Int)),1)
noncomputable def eQ (m p a:Nat):List Tm:=(List.range m).flatMap fun b=>(List.range p).map (gQ m p a b)
noncomputable def fE (n m p:Nat):List Tm:=(List.range n).flatMap (eQ m p)
theorem vK {m p a:Nat}:(eQ m p a).length=m*p:=by unfold eQ;rw [dh,List.length_range]
theorem jm {m p:Nat} {l:List Nat}:(l.flatMap (eQ m p)).length=l.length*(m*p):=by
 induction l with
 | nil=>simp
 | cons i l ih=>rw [List.flatMap_cons,List.length_append,ih,List.length_cons,vK,Nat.succ_mul];lia
theorem yB {n m p:Nat} {t:Tm} (h:t∈fE n m p):∃ a b c,a < n/\b < m/\c < p/\t=gQ m p a b c:=by
 obtain ⟨a,j,h⟩:=List.mem_flatMap.mp h
 obtain ⟨b,hb,h⟩:=List.mem_flatMap.mp h
 obtain ⟨c,q,rfl⟩:=List.mem_map.mp h
 exact ⟨a,b,c,List.mem_range.mp j,List.mem_range.mp hb,List.mem_range.mp q,rfl⟩
theorem mZ {a b n m:Nat} (j:a < n) (hb:b < m):a*m+b < n*m:=by
 have:(a+1)*m<=n*m:=Nat.mul_le_mul_right m j
 rw [Nat.succ_mul] at this;lia
noncomputable def jn (s:Stmt) (ft:Nat):FD:=⟨"table_task",s,["n", "m", "p", "terms"],3,
 (.cons (.asg (.name 3) (.comp [none,none,none,(some 2),(some 1)] ["a", "b", "c", "p", "m"] (.more (.rng1 (.var 0)) (.name 0) .nil (.more (.rng1 (.var 4)) (.name 1) .nil (.last (.rng1 (.var 3)) (.name 2) .nil (.tup (.cons (.bin .add (.bin .mul (.var 0) (.var 3)) (.var 2)) (.cons (.bin .add (.bin .mul (.var 0) (.var 4)) (.var 1)) (.cons (.bin .add (.bin .mul (.var 1) (.var 3)) (.var 2)) (.cons (.int 1) .nil))))))))))
 (.cons (.ret (.call ft (.cons (.bin .mul (.var 0) (.var 1)) (.cons (.bin .mul (.var 1) (.var 2)) (.cons (.bin .mul (.var 0) (.var 2)) (.cons (.var 3) .nil))))))
 .nil))⟩
theorem vL {f ft:Nat} {s s':Stmt} (hf:T[f]? = some (jn s ft)) (U:T[ft]? = some (dg s')) {k:Nat} (hk : 2<=k) {n m p:Nat} {M:Mem} {Q:QD} (Y:n<=40) (hm:m<=40) (S:p<=40)
 (q:∀ (rs:List Tm) a M',IsTask (fE n m p) rs->Ge M M'->M a=none->M' a=some (.lst (rs.map tmD))->Q (.tup [.int ((n*m:Nat):Int), .int ((m*p:Nat):Int), .int ((n*p:Nat):Int), .ref a]) M'):phi T k f [.int n, .int m, .int p] M Q:=by
 refine aA (by lia) hf rfl (ρ := [some _,some _,some _,none]) rfl ?_
 unfold jn
 have B:m*p<=40*40:=Nat.mul_le_mul hm S
 walk_at "st"
 refine ⟨by lia,by lia, ?_⟩
 refine aB (f:=fun i=>D.int (i:Nat)) (I:=fun l ρ M' acc=>(∃ o0 z j, ρ = [o0,z,j,some (.int p),some (.int m)])/\M'=M/\acc=(l.flatMap (eQ m p)).map tmD) aH ⟨⟨_,_,_,rfl⟩,rfl,rfl⟩ (fun _ _ _ _ _=>trivial) ?_ ?_
 ·rintro l a r ρ M1 acc e ⟨⟨o0,z,j,rfl⟩,rfl,rfl⟩
  refine ⟨_,rfl,fun N' Z => ?_⟩
  have L:=am e
  rw [List.length_range] at L
  have ha:a < n:=by
   have:a∈List.range (n:Int).toNat:=by rw [e];simp
   have:=List.mem_range.mp this
   lia
  walk_at "wp"
  refine ⟨by lia,by lia, ?_⟩
  refine aB (f:=fun i=>D.int (i:Nat)) (I:=fun l' ρ M' acc=>(∃ z j, ρ = [some (.int a),z,j,some (.int p),some (.int m)])/\M'=M1/\acc=((l.flatMap (eQ m p))++l'.flatMap fun b=>(List.range p).map (gQ m p a b)).map tmD) aH ⟨⟨_,_,rfl⟩,rfl,by simp⟩ (fun _ _ _ _ _=>trivial) ?_ ?_
  ·rintro l' b r' ρ M2 acc e' ⟨⟨z,j,rfl⟩,rfl,rfl⟩
   refine ⟨_,rfl,fun N2 O => ?_⟩
   have F:=am e'
   rw [List.length_range] at F
   have hb:b < m:=by
    have:b∈List.range (m:Int).toNat:=by rw [e'];simp
    have:=List.mem_range.mp this
    lia
   walk_at "wp"
   refine ⟨by lia,by lia, ?_⟩
   refine aB (f:=fun i=>D.int (i:Nat)) (I:=fun l3 ρ M' acc=>(∃ j, ρ = [some (.int a),some (.int b),j,some (.int p),some (.int m)])/\M'=M2/\acc=(((l.flatMap (eQ m p))++l'.flatMap fun b=>(List.range p).map (gQ m p a b))++l3.map (gQ m p a b)).map tmD) aH ⟨⟨_,rfl⟩,rfl,by simp⟩ (fun _ _ _ _ _=>trivial) ?_ ?_
   ·rintro l3 c r3 ρ M3 acc e3 ⟨⟨j,rfl⟩,rfl,rfl⟩
    refine ⟨_,rfl,fun N3 R => ?_⟩
    have G:=am e3
    rw [List.length_range] at G
    have h1:l.length*(m*p)<=40*(40*40):=Nat.mul_le_mul (by lia) B
    have h2:l'.length*p<=40*40:=Nat.mul_le_mul (by lia) S
    walk_at "wp"
    refine ⟨dG (by lia),dG (by lia),dG (by lia),by rw [sizeLine_eq];lia, ?_,R _ _ _ ⟨⟨_,rfl⟩,rfl, ?_⟩⟩
    ·rw [List.length_map,List.length_append,List.length_append,jm,dh,List.length_map,sizeLine_eq];lia
    ·simp [tmD,gQ]
   ·rintro ρ M3 acc ⟨⟨j,rfl⟩,rfl,rfl⟩
    refine O _ _ _ ⟨⟨_,_,rfl⟩,rfl, ?_⟩
    rw [dB];simp
  ·rintro ρ M2 acc ⟨⟨z,j,rfl⟩,rfl,rfl⟩
   refine Z _ _ _ ⟨⟨_,_,_,rfl⟩,rfl, ?_⟩
   rw [dB];simp [eQ]
 ·rintro ρ M1 acc ⟨_,rfl,rfl⟩ pa hpa
  have eL:((List.range (n:Int).toNat).flatMap (eQ m p))=fE n m p:=by rw [Int.toNat_natCast];rfl
  rw [eL]
  have hl:(fE n m p).length<=40*(40*40):=by unfold fE;rw [jm,List.length_range];exact Nat.mul_le_mul Y B
  walk_at "st"
  refine ⟨dG (by lia),dG (by lia),dG (by lia), ?_⟩
  refine dW U (by lia) (ai ad) (by lia) fun rs p2 M2 h1 g J e2 => ?_
  have g1:=Ge.new (o := .lst ((fE n m p).map tmD)) hpa
  rw [<- Int.natCast_mul, <- Int.natCast_mul, <- Int.natCast_mul]
  refine q rs p2 M2 h1 (g1.trans g) ?_ e2
  cases hq:M1 p2 with
  | none=>rfl
  | some o=>rw [g1 _ _ hq] at J;cases J
end
section
open PySem PySem.Spec PyProof.Rows L2.Srt
variable {T:List FD}
noncomputable def idx (l:List Int):List (Int×Int):=l.mapIdx fun i x=>((i:Nat),x)
noncomputable def nz (l:List Int):List (Int×Int):=(idx l).filter fun q => !(q.2==0)
noncomputable def pD (q:Int×Int):D := .tup [.int q.1, .int q.2]
theorem oB {l:List Int}:(idx l).length=l.length:=by simp [idx]
theorem Aj {l:List Int}:(nz l).length<=l.length:=by
 unfold nz;exact Nat.le_trans (List.length_filter_le _ _) (by rw [oB];exact Nat.le_refl _)
theorem vM {l:List Int}:eA (l.map .int)=(idx l).map pD:=by
 unfold eA idx
 apply List.ext_getElem?
 intro j
 simp only [List.getElem?_mapIdx,List.getElem?_map]
 cases l[j]? <;> rfl
noncomputable def jo (i a j b:Int) (zs:List (Int×Int)):List Tm:=zs.map fun z=>((z.1,i,j),a*b*z.2)
noncomputable abbrev bd (x:Int):Prop := -1000000000000<=x/\x<=1000000000000
theorem sQ {l:List Int} (h:Big l):∀ z∈nz l,bd z.2:=fun z j=>by
 unfold nz at j
 have j:=(List.mem_filter.mp j).1
 unfold idx at j
 obtain ⟨i,hi,e⟩:=List.mem_mapIdx.mp j
 rw [<- e]
 exact h _ (List.getElem_mem hi)
end
section
open PySem PySem.Spec PyProof.Rows L2.Srt
noncomputable def S1 (zs:List (Int×Int)) (k:Int):Int:=(zs.map fun z=>if z.1=k then z.2 else 0).sum
theorem cc {z:Int×Int} {zs:List (Int×Int)} {k:Int}:S1 (z::zs) k=(if z.1=k then z.2 else 0)+S1 zs k:=by simp [S1]
theorem oC {i a j b k i' j':Int}:∀ {zs:List (Int×Int)},cf (jo i a j b zs) (k,i',j')=if i=i'/\j=j' then a*b*S1 zs k else 0
 | [] => by simp [jo,cr,S1]
 | z::zs=>by
   rw [show jo i a j b (z::zs)=((z.1,i,j),a*b*z.2)::jo i a j b zs from rfl,aN,oC,cc]
   by_cases h:i=i'/\j=j'
   ·obtain ⟨rfl,rfl⟩:=h
    by_cases n:z.1=k
    ·subst n;simp [Int.mul_add]
    ·have : ¬ ((z.1,i,j)=(k,i,j)):=fun e=>n (congrArg (·.1) e)
     rw [if_neg this,if_pos ⟨rfl,rfl⟩,if_pos ⟨rfl,rfl⟩,if_neg n];simp
   ·have : ¬ ((z.1,i,j)=(k,i',j')):=fun e=>h ⟨congrArg (·.2.1) e,congrArg (·.2.2) e⟩
    rw [if_neg this,if_neg h,if_neg h];rfl
noncomputable def gz (l:List Int) (i:Int):Int:=if i < 0 then 0 else l.getD i.toNat 0
theorem sR {l:List Int} {i:Int} (h:i < 0):gz l i=0:=if_pos h
theorem sU {i:Int}:gz [] i=0:=by unfold gz;split <;> simp
theorem jq {x:Int} {l:List Int} {i:Int}:gz (x::l) i=if i=0 then x else gz l (i - 1):=by
 unfold gz
 by_cases h:i < 0
 ·rw [if_pos h,if_neg (by lia),if_pos (by lia)]
 ·rw [if_neg h]
  by_cases h0:i=0
  ·subst h0;simp
  ·rw [if_neg h0,if_neg (by lia)]
   obtain ⟨n,rfl⟩:∃ n:Nat,i=((n+1:Nat):Int):=⟨(i - 1).toNat,by lia⟩
   rw [show (((n+1:Nat):Int) - 1).toNat=n by lia,Int.toNat_natCast]
   simp
theorem sV {a b:List Int}:∀ {i:Int},gz (a++b) i=if i < a.length then gz a i else gz b (i - a.length):=by
 induction a with
 | nil =>
   intro i
   by_cases h:i < 0
   ·rw [if_pos (by simpa using h),List.nil_append,sR h,sR h]
   ·rw [if_neg (by simpa using h)];simp
 | cons x a ih =>
   intro i
   rw [List.cons_append,jq,jq,ih,List.length_cons]
   by_cases h0:i=0
   ·subst h0;rw [if_pos rfl,if_pos rfl,if_pos (by lia)]
   ·rw [if_neg h0,if_neg h0]
    by_cases h:i < ((a.length+1:Nat):Int)
    ·rw [if_pos (by lia),if_pos h]
    ·rw [if_neg (by lia),if_neg h]
     congr 1;lia
theorem sW {l:List Int} {i:Int} (h:gz l i≠0) : 0<=i/\i < l.length:=by
 unfold gz at h
 by_cases hi:i < 0
 ·rw [if_pos hi] at h;exact absurd rfl h
 ·rw [if_neg hi] at h
  refine ⟨by lia, ?_⟩
  by_cases hl:i.toNat < l.length
  ·lia
  ·rw [List.getD_eq_getElem?_getD,List.getElem?_eq_none (by lia)] at h;exact absurd rfl h
theorem dC {a b:List (Int×Int)} {k:Int}:S1 (a++b) k=S1 a k+S1 b k:=by simp [S1]
theorem qe {k:Int}:∀ zs:List (Int×Int),S1 (zs.filter fun q => !(q.2==0)) k=S1 zs k
 | [] => rfl
 | z::zs=>by
   rw [cc]
   by_cases h:z.2=0
   ·rw [List.filter_cons_of_neg (by simp [h]),qe zs,h];simp
   ·rw [List.filter_cons_of_pos (by simp [h]),cc,qe zs]
theorem Ak (l:List Int) (k:Int):S1 (idx l) k=gz l k:=df (P:=fun l=>S1 (idx l) k=gz l k) (by rw [sU];rfl) (fun l x ih=>by
 have e:idx (l++[x])=idx l++[(((l.length:Nat):Int),x)]:=by simp [idx,List.mapIdx_append]
 rw [e,dC,ih,sV,cc]
 simp only [S1,List.map_nil,List.sum_nil]
 by_cases h:k < l.length
 ·rw [if_pos h,if_neg (by lia)];lia
 ·rw [if_neg h,jq,sU]
  have z:gz l k=0:=by
   cases Decidable.em (gz l k=0) with
   | inl h=>exact h
   | inr h'=>exact absurd (sW h').2 h
  rw [z]
  by_cases e:(l.length:Int)=k
  ·rw [if_pos e,if_pos (by lia)];lia
  ·rw [if_neg e,if_neg (by lia)];rfl) l
noncomputable def Tn (ps:List Pr) (k i j:Int):Int:=(ps.map fun p=>gz p.1 i*gz p.2.1 j*gz p.2.2 k).sum
theorem sX {a b:List Pr} {k i j:Int}:Tn (a++b) k i j=Tn a k i j+Tn b k i j:=by simp [Tn]
theorem yC {p:Pr} {a:List Pr} {k i j:Int}:Tn (p::a) k i j=gz p.1 i*gz p.2.1 j*gz p.2.2 k+Tn a k i j:=by simp [Tn]
end
section
noncomputable abbrev K2:=Int×Int
noncomputable def k2D (k:K2):D := .tup [.int k.1, .int k.2]
noncomputable def raD (r:K2×Addr):D×D:=(k2D r.1, .ref r.2)
theorem oD {a b:K2} (h:k2D a=k2D b):a=b:=by
 obtain ⟨a1,a2⟩:=a
 obtain ⟨b1,b2⟩:=b
 simp only [k2D,D.tup.injEq,List.cons.injEq,D.int.injEq,and_true] at h
 rw [h.1,h.2]
theorem di {α β:Type} {f : α -> β}:∀ {l:List α},(l.map f).Nodup -> ∀ {x y : α},x∈l->y∈l->f x=f y->x=y
 | [],_,x,_,hx,_,_=>by cases hx
 | z::l,h,x,y,hx,q,e=>by
   rw [List.map_cons,List.nodup_cons] at h
   rcases List.mem_cons.mp hx with rfl | j <;> rcases List.mem_cons.mp q with rfl | n
   ·rfl
   ·exact absurd (List.mem_map.mpr ⟨y,n,e.symm⟩) h.1
   ·exact absurd (List.mem_map.mpr ⟨x,j,e⟩) h.1
   ·exact di h.2 j n e
structure RI (d:Addr) (N:Nat) (M:Mem) (R:List (K2×Addr)) (g:K2->List Int):Prop where
 dct:M d=some (.dct true (R.map raD))
 keys:(R.map (·.1)).Nodup
 ads:(R.map (·.2)).Nodup
 nd:∀ r∈R,r.2≠d
 row:∀ r∈R,M r.2=some (.lst ((g r.1).map .int))
 ln:∀ k,(g k).length=N
 out:∀ k,k∉R.map (·.1)->g k=List.replicate N 0
structure Run (d:Addr) (R:List (K2×Addr)) (M:Mem) (R':List (K2×Addr)) (M':Mem):Prop where
 ex:∀ r∈R',r∈R∨M r.2=none
 kp:∀ b o,b≠d->b∉R.map (·.2)->M b=some o->M' b=some o
theorem Run.refl {d:Addr} {R:List (K2×Addr)} {M:Mem}:Run d R M R M:=⟨fun r h => .inl h,fun _ _ _ _ e=>e⟩
theorem jr {k:K2}:∀ R:List (K2×Addr),dget (R.map raD) (k2D k)=(R.find? fun r=>decide (r.1=k)).map fun r => .ref r.2
 | [] => rfl
 | r::R=>by
   have ih:=jr (k:=k) R
   unfold dget at ih ⊢
   rw [List.map_cons,List.find?_cons,List.find?_cons]
   by_cases h:r.1=k
   ·have e:decide ((raD r).1=k2D k)=true:=decide_eq_true (by rw [<- h];rfl)
    rw [e,decide_eq_true h];rfl
   ·have e:decide ((raD r).1=k2D k)=false:=decide_eq_false (fun z=>h (oD z))
    rw [e,decide_eq_false h];exact ih
theorem oE {k:K2} {R:List (K2×Addr)} (h:k∉R.map (·.1)):dget (R.map raD) (k2D k)=none:=by
 rw [jr,List.find?_eq_none.mpr fun r hr=>by
  intro z
  exact h (List.mem_map.mpr ⟨r,hr,of_decide_eq_true z⟩)]
 rfl
theorem dX {k:K2} {R:List (K2×Addr)} (h:k∈R.map (·.1)):∃ a,(k,a)∈R/\dget (R.map raD) (k2D k)=some (.ref a):=by
 cases e:R.find? fun r=>decide (r.1=k) with
 | none =>
   obtain ⟨r,hr,j⟩:=List.mem_map.mp h
   exact absurd (decide_eq_true j) (List.find?_eq_none.mp e r hr)
 | some r =>
   have h1:=List.find?_some e
   have h2:=List.mem_of_find?_eq_some e
   have n:r.1=k:=of_decide_eq_true h1
   obtain ⟨rk,ra⟩:=r
   cases n
   exact ⟨ra,h2,by rw [jr,e];rfl⟩
theorem oF {k:K2} {R:List (K2×Addr)} {a:Addr} (h:k∉R.map (·.1)):bP (R.map raD) (k2D k) (.ref a)=(R++[(k,a)]).map raD:=by
 unfold bP
 rw [if_neg,List.map_append]
 ·rfl
 ·intro z
  obtain ⟨x,hx,j⟩:=List.any_eq_true.mp z
  obtain ⟨r,hr,rfl⟩:=List.mem_map.mp hx
  exact h (List.mem_map.mpr ⟨r,hr,oD (of_decide_eq_true j)⟩)
theorem RI.ge {d:Addr} {N:Nat} {M M':Mem} {R:List (K2×Addr)} {g:K2->List Int} (h:RI d N M R g) (x:Ge M M'):RI d N M' R g:=⟨x _ _ h.dct,h.keys,h.ads,h.nd,fun r hr=>x _ _ (h.row r hr),h.ln,h.out⟩
theorem Run.trans {d:Addr} {N:Nat} {R R' R'':List (K2×Addr)} {M M' M'':Mem} {g g':K2->List Int} (h:Run d R M R' M') (h2:Run d R' M' R'' M'') (i:RI d N M' R' g') (sub:∀ r∈R,r∈R'):Run d R M R'' M'':=by
 refine ⟨fun r hr => ?_,fun b o n m e => ?_⟩
 ·rcases h2.ex r hr with j | j
  ·exact h.ex r j
  ·by_cases z:r.2∈R.map (·.2)
   ·obtain ⟨r',q,e⟩:=List.mem_map.mp z
    rw [<- e,i.row r' (sub r' q)] at j;cases j
   ·refine .inr ?_
    cases e:M r.2 with
    | none=>rfl
    | some o =>
      by_cases zd:r.2=d
      ·rw [zd,i.dct] at j;cases j
      ·rw [h.kp _ _ zd z e] at j;cases j
 ·refine h2.kp b o n (fun z => ?_) (h.kp b o n m e)
  obtain ⟨r',q,e'⟩:=List.mem_map.mp z
  rcases h.ex r' q with j | j
  ·exact m (List.mem_map.mpr ⟨r',j,e'⟩)
  ·rw [e',e] at j;cases j
theorem RI.new {d:Addr} {N:Nat} {M:Mem} {R:List (K2×Addr)} {g:K2->List Int} (h:RI d N M R g) {k:K2} (I:k∉R.map (·.1)) {F:Mem} {a:Addr} (ga:Ge M F) (j:M a=none) (h1:F a=some (.lst ((List.replicate N (0:Int)).map .int))) :
 RI d N (af F d (.dct true ((R++[(k,a)]).map raD))) (R++[(k,a)]) g/\Run d R M (R++[(k,a)]) (af F d (.dct true ((R++[(k,a)]).map raD))):=by
 have q:a≠d:=fun z=>by rw [z,h.dct] at j;cases j
 refine ⟨⟨ad, ?_, ?_, ?_, ?_,h.ln, ?_⟩,⟨?_, ?_⟩⟩
 ·rw [List.map_append,List.nodup_append]
  exact ⟨h.keys,by simp,fun x hx y B=>by simp at B;subst B;exact fun z=>I (z ▸ hx)⟩
 ·rw [List.map_append,List.nodup_append]
  refine ⟨h.ads,by simp,fun x hx y B => ?_⟩
  simp at B;subst B
  intro z
  obtain ⟨r,hr,rfl⟩:=List.mem_map.mp hx
  rw [<- z,h.row r hr] at j;cases j
 ·intro r hr
  rcases List.mem_append.mp hr with hr | hr
  ·exact h.nd r hr
  ·simp at hr;subst hr;exact q
 ·intro r hr
  rcases List.mem_append.mp hr with hr | hr
  ·rw [av (h.nd r hr)];exact ga _ _ (h.row r hr)
  ·simp at hr;subst hr
   rw [av q,h1,h.out k I]
 ·intro k' G
  exact h.out k' fun z=>G (by rw [List.map_append];exact List.mem_append_left _ z)
 ·intro r hr
  rcases List.mem_append.mp hr with hr | hr
  ·exact .inl hr
  ·simp at hr;subst hr;exact .inr j
 ·intro b o n m e
  rw [av n];exact ga _ _ e
theorem RI.put {d:Addr} {N:Nat} {M:Mem} {R:List (K2×Addr)} {g:K2->List Int} (h:RI d N M R g) {k:K2} {a:Addr} (hr:(k,a)∈R) {row:List Int} (hl:row.length=N) :
 RI d N (af M a (.lst (row.map .int))) R (fun k'=>if k'=k then row else g k')/\Run d R M R (af M a (.lst (row.map .int))):=by
 refine ⟨⟨?_,h.keys,h.ads,h.nd, ?_, ?_, ?_⟩,⟨fun r h => .inl h, ?_⟩⟩
 ·rw [av (fun z=>h.nd _ hr z.symm)];exact h.dct
 ·intro r j
  by_cases e:r=(k,a)
  ·subst e;rw [ad,if_pos rfl]
  ·have na:r.2≠a:=fun z=>e (di h.ads j hr z)
   have nk:r.1≠k:=fun z=>e (di h.keys j hr z)
   rw [av na,if_neg nk];exact h.row r j
 ·intro k'
  split
  ·exact hl
  ·exact h.ln k'
 ·intro k' q
  rw [if_neg (fun z=>q (List.mem_map.mpr ⟨_,hr,z.symm⟩))]
  exact h.out k' q
 ·intro b o n m e
  rw [av (fun z=>m (List.mem_map.mpr ⟨_,hr,z.symm⟩))];exact e
end
section
open PySem PySem.Spec PyProof.Rows L2.Srt
variable {T:List FD}
noncomputable def dj (s:Stmt):FD:=⟨"filled",s,["part"],1,
 (.cons (.ret (.comp [none,none] ["at", "x"] (.last (.enum (.var 0)) (.tup (.cons (.name 0) (.cons (.name 1) .nil))) (.cons (.cmp .ne (.var 1) (.int 0)) .nil) (.tup (.cons (.var 0) (.cons (.var 1) .nil))))))
 .nil)⟩
theorem dD {f:Nat} {s:Stmt} (hf:T[f]? = some (dj s)) {n:Nat} (G : 1<=n) {x:D} {l:List Int} (hl:l.length<=1000000) {M:Mem} {Q:QD} (hx:aC M x=some (l.map .int)) (q:∀ p,M p=none->Q (.ref p) (af M p (.lst ((nz l).map pD)))):phi T n f [x] M Q:=by
 refine aA (by lia) hf rfl (ρ := [some _]) rfl ?_
 unfold dj
 walk_at "st"
 refine ⟨_,hx, ?_⟩
 rw [vM]
 refine aB (f:=pD) (ys:=idx l) (I:=fun r ρ M' acc=>(∃ o0 z, ρ = [o0,z])/\M'=M/\acc=(r.filter fun q => !(q.2==0)).map pD) rfl ⟨⟨_,_,rfl⟩,rfl,rfl⟩ (fun _ _ _ _ h=>by rw [h.2.1];exact hx) ?_ ?_
 ·rintro l' y r ρ M1 acc e ⟨⟨o0,z,rfl⟩,rfl,rfl⟩
  refine ⟨_,rfl,fun N' j => ?_⟩
  have B:=am e
  rw [oB] at B
  have F:(l'.filter fun q => !(q.2==0)).length<=l'.length:=List.length_filter_le _ _
  walk_at "wp"
  by_cases hz:y.2=0
  ·rw [if_neg (by simp [hz])]
   refine j _ _ _ ⟨⟨_,_,rfl⟩,rfl, ?_⟩
   rw [List.filter_append,List.filter_cons_of_neg (by simp [hz])];simp
  ·rw [if_pos (by simp [hz])]
   refine ⟨by rw [sizeLine_eq];lia,by rw [List.length_map,sizeLine_eq];lia,j _ _ _ ⟨⟨_,_,rfl⟩,rfl, ?_⟩⟩
   rw [List.filter_append,List.filter_cons_of_pos (by simp [hz])];simp [pD]
 ·rintro ρ M1 acc ⟨⟨o0,z,rfl⟩,rfl,rfl⟩ p hp
  exact q p hp
theorem sY {l:List Int} {v:Int} {k:Nat} (j:k < l.length) {i:Int}:gz (l.set k v) i=if i=k then v else gz l i:=by
 unfold gz
 by_cases h:i < 0
 ·rw [if_pos h,if_pos h,if_neg (by lia)]
 ·rw [if_neg h,if_neg h,List.getD_eq_getElem?_getD,List.getD_eq_getElem?_getD]
  by_cases e:i=k
  ·subst e;rw [Int.toNat_natCast,List.getElem?_set_self j,if_pos rfl];rfl
  ·rw [List.getElem?_set_ne (by lia),if_neg e]
theorem sZ {l:List Int} {k:Nat} (j:k < l.length):l[k]? = some (gz l k):=by
 unfold gz
 rw [if_neg (by lia),Int.toNat_natCast,List.getD_eq_getElem?_getD,List.getElem?_eq_getElem j];rfl
theorem n0 {n:Nat} {i:Int}:gz (List.replicate n 0) i=0:=by
 unfold gz
 split
 ·rfl
 ·rw [List.getD_eq_getElem?_getD]
  cases e:(List.replicate n (0:Int))[i.toNat]? with
  | none=>rfl
  | some x=>exact List.eq_of_mem_replicate (List.mem_of_getElem? e)
noncomputable def qf:MSs := .cons (.augI (.var 15) (.var 17) .add (.bin .mul (.var 18) (.var 16))) .nil
theorem Bc {Φ:Phi} {v0 v1 v2 U v4 Y v6 Z v8 v10 v11 G J L n B:Option D} {a po:Addr} {pr:Int} {N:Nat} {row:List Int} {zs:List (Int×Int)} {M:Mem} {E:ba} (R:M po=some (.lst (zs.map pD))) (BP:po≠a) (ha:M a=some (.lst (row.map .int))) (hl:row.length=N) (hz:∀ z∈zs,0<=z.1/\z.1 < N/\bd z.2)
 (q:∀ row' n B,row'.length=N->(∀ k,gz row' k=gz row k+pr*S1 zs k)->E.nx [v0,v1,v2,U,v4,Y,v6,Z,v8,some (.ref po),v10,v11,G,J,L,some (.ref a),some (.int pr),n,B] (af M a (.lst (row'.map .int)))) :
 wSs Φ (.cons (.for (.tup (.cons (.name 17) (.cons (.name 18) .nil))) (.seq (.var 9)) qf) .nil) E [v0,v1,v2,U,v4,Y,v6,Z,v8,some (.ref po),v10,v11,G,J,L,some (.ref a),some (.int pr),n,B] M:=by
 walk_at "st"
 refine ⟨_,ai R, ?_⟩
 refine bj (f:=pD) (ys:=zs) (I:=fun l ρ M' => ∃ n B row', ρ = [v0,v1,v2,U,v4,Y,v6,Z,v8,some (.ref po),v10,v11,G,J,L,some (.ref a),some (.int pr),n,B]/\M'=af M a (.lst (row'.map .int))/\row'.length=N /\ ∀ k,gz row' k=gz row k+pr*S1 l k) rfl ⟨_,_,row,rfl,(sL ha).symm,hl,fun k=>by simp [S1]⟩ (fun l ρ M' ⟨_,_,_,_,e,_⟩=>by rw [e];exact ai (by rw [av BP];exact R)) ?_ ?_
 ·rintro l z r ρ M1 e ⟨n,B,row',rfl,rfl,O,hg⟩
  refine ⟨_,rfl,fun F hF => ?_⟩
  obtain ⟨z0,z1,z2⟩:=hz z (by rw [e];simp)
  obtain ⟨kn,ek⟩:∃ k:Nat,z.1=k:=⟨z.1.toNat,by lia⟩
  have S:kn < row'.length:=by lia
  unfold qf
  rw [aP]
  walk_at "wp"
  refine ⟨a,_,_, .int (gz row' kn),rfl,rfl,ad, ?_, ?_⟩
  ·rw [ek]
   refine yp ?_
   rw [List.getElem?_map,sZ S];rfl
  walk_at "wp"
  refine ⟨dG (by unfold bd at z2;lia), ?_⟩
  rw [ek]
  refine de ad (j:=kn) ?_ ?_
  ·unfold ixN
   rw [List.length_map,if_pos (by lia),if_pos (by lia)];simp
  rw [sK]
  refine hF _ _ ⟨_,_,row'.set kn (gz row' kn+z.2*pr),rfl,by rw [List.map_set],by rw [List.length_set];exact O,fun k => ?_⟩
  rw [sY S,dC,cc,show S1 [] k=0 from rfl,Int.add_zero,ek,Int.mul_add, <- Int.add_assoc, <- hg]
  by_cases ekk:k=kn
  ·rw [if_pos ekk,if_pos ekk.symm,ekk,Int.mul_comm]
  ·rw [if_neg ekk,if_neg (fun h=>ekk h.symm)];lia
 ·rintro ρ M1 ⟨n,B,row',rfl,rfl,O,hg⟩
  dsimp only
  walk_at "wp"
  exact q row' _ _ O hg
theorem Run.keep {d:Addr} {N:Nat} {M M':Mem} {R R':List (K2×Addr)} {g:K2->List Int} (h:Run d R M R' M') (i:RI d N M R g) {a:Addr} {ds:List D} (e:M a=some (.lst ds)) (j:a∉R.map (·.2)):M' a=some (.lst ds) :=
 h.kp a _ (fun z=>by rw [z,i.dct] at e;cases e) j e
noncomputable def qg:MSs:=(.cons (.ite (.cmp .ninD (.tup (.cons (.var 11) (.cons (.var 13) .nil))) (.var 5)) (.cons (.put (.var 5) (.tup (.cons (.var 11) (.cons (.var 13) .nil))) (.bin .mul (.lst (.cons (.int 0) .nil)) (.var 3)))
 .nil) .nil)
 (.cons (.par 15 16 (.ix (.var 5) (.tup (.cons (.var 11) (.cons (.var 13) .nil)))) (.bin .mul (.var 12) (.var 14)))
 (.cons (.for (.tup (.cons (.name 17) (.cons (.name 18) .nil))) (.seq (.var 9)) qf)
 .nil)))
theorem fZ {d:Addr} {N:Nat} {M M':Mem} {R R':List (K2×Addr)} {g:K2->List Int} (h:Run d R M R' M') (i:RI d N M R g) {a:Addr} {o:O} (e:M a=some o) (j:a∉R.map (·.2)):a∉R'.map (·.2):=fun z=>by
 obtain ⟨r,hr,rfl⟩:=List.mem_map.mp z
 rcases h.ex r hr with h1 | h1
 ·exact j (List.mem_map.mpr ⟨r,h1,rfl⟩)
 ·rw [h1] at e;cases e
theorem BK {Φ:Phi} {v0 v1 v2 v4 v6 v7 v8 v10 F G n B:Option D} {d po:Addr} {i x j y:Int} {N:Nat} {R:List (K2×Addr)} {g:K2->List Int} {zs:List (Int×Int)} {M:Mem} {E:ba} (hN:N<=1000) (I:RI d N M R g) (O:M po=some (.lst (zs.map pD))) (S:po∉R.map (·.2)) (hl:R.length<=1000000) (hx:bd x) (hz:∀ z∈zs,0<=z.1/\z.1 < N/\bd z.2)
 (q:∀ M' R' g' F G n B,RI d N M' R' g'->Run d R M R' M'->(∀ r∈R,r∈R')->R'.length<=R.length+1->(∀ k i' j',gz (g' (i',j')) k=gz (g (i',j')) k+if i'=i/\j'=j then x*y*S1 zs k else 0)->E.nx [v0,v1,v2,some (.int N),v4,some (.ref d),v6,v7,v8,some (.ref po),v10,some (.int i),some (.int x),some (.int j),some (.int y),F,G,n,B] M') :
 wSs Φ qg E [v0,v1,v2,some (.int N),v4,some (.ref d),v6,v7,v8,some (.ref po),v10,some (.int i),some (.int x),some (.int j),some (.int y),F,G,n,B] M:=by
 unfold qg
 have ek:D.tup [D.int i,D.int j]=k2D (i,j):=rfl
 refine mP (I:=fun ρ M' => ρ = [v0,v1,v2,some (.int N),v4,some (.ref d),v6,v7,v8,some (.ref po),v10,some (.int i),some (.int x),some (.int j),some (.int y),F,G,n,B] /\ ∃ R',RI d N M' R' g/\Run d R M R' M'/\(∀ r∈R,r∈R')/\R'.length<=R.length+1/\(i,j)∈R'.map (·.1)) (fun RR hR => ?_) (fun ρ M1 h => ?_)
 ·walk_at "wp"
  refine ⟨by rw [sizeLine_eq];lia,d,true,_,rfl,I.dct,rfl, ?_⟩
  walk_at "wp"
  rw [ek]
  by_cases J:(i,j)∈R.map (·.1)
  ·obtain ⟨a,ha,e⟩:=dX J
   rw [e]
   walk_at "wp"
   exact hR _ _ ⟨rfl,R,I,Run.refl,fun r h=>h,by lia,J⟩
  ·rw [oE J]
   walk_at "wp"
   rw [aP]
   walk_at "wp"
   refine ⟨by rw [sizeLine_eq];lia,fun p1 BQ => ?_⟩
   have g1:=Ge.new (o := .lst [.int 0]) BQ
   refine ⟨_,ad,by lia,by lia,by rw [sizeLine_eq];simp;lia,fun p2 L => ?_⟩
   have g2:=g1.trans (Ge.new (o := .lst (List.replicate (N:Int).toNat [D.int 0]).flatten) L)
   have U:M p2=none:=by
    cases hq:M p2 with
    | none=>rfl
    | some o=>rw [g1 _ _ hq] at L;cases L
   have e2:af (af M p1 (.lst [.int 0])) p2 (.lst (List.replicate (N:Int).toNat [D.int 0]).flatten) p2=some (.lst ((List.replicate N (0:Int)).map .int)):=by
    rw [ad,vC];simp
   generalize af (af M p1 (.lst [.int 0])) p2 (.lst (List.replicate (N:Int).toNat [D.int 0]).flatten)=M2 at g2 e2
   refine ⟨by rw [sizeLine_eq];lia,gO (g2 _ _ I.dct) rfl (by rw [List.length_map,sizeLine_eq];lia) ?_⟩
   rw [ek,oF J]
   obtain ⟨I2,r2⟩:=I.new J g2 U e2
   exact hR _ _ ⟨rfl,_,I2,r2,fun r h=>List.mem_append_left _ h,by simp,by simp⟩
 ·obtain ⟨rfl,R',Y,r1,sub,BR,J⟩:=h
  obtain ⟨a,ha,e⟩:=dX J
  walk_at "st"
  refine ⟨by rw [sizeLine_eq];lia, ?_⟩
  rw [ek]
  refine mK Y.dct rfl e ?_
  walk_at "wp"
  refine ⟨dG (by unfold bd at hx;lia), ?_⟩
  have Z:=r1.keep I O S
  have BP:=fZ r1 I O S
  refine Bc (pr:=x*y) Z (fun z=>BP (List.mem_map.mpr ⟨_,ha,z.symm⟩)) (Y.row _ ha) (Y.ln _) hz fun row' n B BS hg => ?_
  obtain ⟨I2,r2⟩:=Y.put ha BS
  refine q _ _ _ _ _ _ _ I2 (r1.trans (g:=g) r2 Y sub) sub BR fun k i' j' => ?_
  by_cases h:i'=i/\j'=j
  ·obtain ⟨rfl,rfl⟩:=h
   rw [if_pos rfl,if_pos ⟨rfl,rfl⟩];exact hg k
  ·rw [if_neg (fun z=>h ⟨congrArg (·.1) z,congrArg (·.2) z⟩),if_neg h,Int.add_zero]
noncomputable def qh:MSs := .cons (.for (.tup (.cons (.name 13) (.cons (.name 14) .nil))) (.seq (.var 10)) qg) .nil
theorem BL {Φ:Phi} {v0 v1 v2 v4 v6 v7 v8 L O n B G J:Option D} {d po pr:Addr} {i x:Int} {N:Nat} {R:List (K2×Addr)} {g:K2->List Int} {ys zs:List (Int×Int)} {M:Mem} {E:ba} (hN:N<=1000) (I:RI d N M R g) (U:M po=some (.lst (zs.map pD))) (Y:po∉R.map (·.2)) (Z:M pr=some (.lst (ys.map pD))) (BR:pr∉R.map (·.2)) (hl:R.length+ys.length<=1000000) (hx:bd x) (hz:∀ z∈zs,0<=z.1/\z.1 < N/\bd z.2)
 (q:∀ M' R' g' L O n B G J,RI d N M' R' g'->Run d R M R' M'->(∀ r∈R,r∈R')->R'.length<=R.length+ys.length->(∀ k i' j',gz (g' (i',j')) k=gz (g (i',j')) k+if i=i' then x*S1 ys j'*S1 zs k else 0)->E.nx [v0,v1,v2,some (.int N),v4,some (.ref d),v6,v7,v8,some (.ref po),some (.ref pr),some (.int i),some (.int x),L,O,n,B,G,J] M') :
 wSs Φ qh E [v0,v1,v2,some (.int N),v4,some (.ref d),v6,v7,v8,some (.ref po),some (.ref pr),some (.int i),some (.int x),L,O,n,B,G,J] M:=by
 unfold qh
 walk_at "st"
 refine ⟨_,ai Z, ?_⟩
 refine bj (f:=pD) (ys:=ys) (I:=fun l ρ M' => ∃ R' g' L O n B G J, ρ = [v0,v1,v2,some (.int N),v4,some (.ref d),v6,v7,v8,some (.ref po),some (.ref pr),some (.int i),some (.int x),L,O,n,B,G,J]/\RI d N M' R' g'/\Run d R M R' M'/\(∀ r∈R,r∈R')/\R'.length<=R.length+l.length /\ ∀ k i' j',gz (g' (i',j')) k=gz (g (i',j')) k+if i=i' then x*S1 l j'*S1 zs k else 0) rfl ⟨R,g,_,_,_,_,_,_,rfl,I,Run.refl,fun r h=>h,by simp,fun k i' j'=>by simp [S1]⟩ (fun l ρ M' ⟨_,_,_,_,_,_,_,_,_,_,S,_⟩=>ai (S.keep I Z BR)) ?_ ?_
 ·rintro l y r ρ M1 e ⟨R1,g1,L,O,n,B,G,J,rfl,I1,S,sub,BP,hg⟩
  refine ⟨_,rfl,fun F hF => ?_⟩
  have BU:=am e
  refine BK (j:=y.1) (y:=y.2) hN I1 (S.keep I U Y) (fZ S I U Y) (by lia) hx hz fun M2 R2 g2 n B G J I2 r2 BQ BV BS=>hF _ _ ⟨R2,g2,_,_,_,_,_,_,rfl,I2,S.trans (g:=g) r2 I1 sub,fun r h=>BQ r (sub r h),by simp;lia,fun k i' j' => ?_⟩
  rw [BS,hg,dC,cc,show S1 [] j'=0 from rfl,Int.add_zero,Int.add_assoc]
  congr 1
  by_cases hi:i=i'
  ·subst hi
   by_cases hj:y.1=j'
   ·subst hj;simp [Int.mul_add,Int.add_mul]
   ·rw [if_pos rfl,if_neg (fun z=>hj z.2.symm),if_pos rfl,if_neg hj];simp
  ·rw [if_neg hi,if_neg (fun z=>hi z.1.symm),if_neg hi];rfl
 ·rintro ρ M1 ⟨R1,g1,L,O,n,B,G,J,rfl,I1,S,sub,BP,hg⟩
  dsimp only
  walk_at "wp"
  exact q _ _ _ _ _ _ _ _ _ I1 S sub BP hg
theorem BM {Φ:Phi} {v0 v1 v2 v4 v6 v7 v8 O S j n B G J L:Option D} {d po pr pl:Addr} {N:Nat} {R:List (K2×Addr)} {g:K2->List Int} {xs ys zs:List (Int×Int)} {M:Mem} {E:ba} (hN:N<=1000) (I:RI d N M R g) (Y:M po=some (.lst (zs.map pD))) (Z:po∉R.map (·.2)) (BP:M pr=some (.lst (ys.map pD))) (BQ:pr∉R.map (·.2)) (BU:M pl=some (.lst (xs.map pD))) (BV:pl∉R.map (·.2)) (hl:R.length+xs.length*ys.length<=1000000) (hx:∀ z∈xs,bd z.2) (hz:∀ z∈zs,0<=z.1/\z.1 < N/\bd z.2)
 (q:∀ M' R' g' O S j n B G J L,RI d N M' R' g'->Run d R M R' M'->(∀ r∈R,r∈R')->R'.length<=R.length+xs.length*ys.length->(∀ k i' j',gz (g' (i',j')) k=gz (g (i',j')) k+S1 xs i'*S1 ys j'*S1 zs k)->E.nx [v0,v1,v2,some (.int N),v4,some (.ref d),v6,v7,v8,some (.ref po),some (.ref pr),O,S,j,n,B,G,J,L] M') :
 bv (lp (bD (bI 11) (bD (bI 12) fb))) (wSs Φ qh) (fun M=>aC M (.ref pl)=some (xs.map pD)) E (xs.map pD) [v0,v1,v2,some (.int N),v4,some (.ref d),v6,v7,v8,some (.ref po),some (.ref pr),O,S,j,n,B,G,J,L] M:=by
 refine bj (f:=pD) (ys:=xs) (I:=fun l ρ M' => ∃ R' g' O S j n B G J L, ρ = [v0,v1,v2,some (.int N),v4,some (.ref d),v6,v7,v8,some (.ref po),some (.ref pr),O,S,j,n,B,G,J,L]/\RI d N M' R' g'/\Run d R M R' M'/\(∀ r∈R,r∈R')/\R'.length<=R.length+l.length*ys.length /\ ∀ k i' j',gz (g' (i',j')) k=gz (g (i',j')) k+S1 l i'*S1 ys j'*S1 zs k) rfl ⟨R,g,_,_,_,_,_,_,_,_,rfl,I,Run.refl,fun r h=>h,by simp,fun k i' j'=>by simp [S1]⟩ (fun l ρ M' ⟨_,_,_,_,_,_,_,_,_,_,_,_,U,_⟩=>ai (U.keep I BU BV)) ?_ ?_
 ·rintro l x r ρ M1 e ⟨R1,g1,O,S,j,n,B,G,J,L,rfl,I1,U,sub,BR,hg⟩
  refine ⟨_,rfl,fun F hF => ?_⟩
  have BW:=am e
  have hm:(l.length+1)*ys.length<=xs.length*ys.length:=Nat.mul_le_mul_right _ BW
  rw [Nat.succ_mul] at hm
  refine BL (i:=x.1) (x:=x.2) hN I1 (U.keep I Y Z) (fZ U I Y Z) (U.keep I BP BQ) (fZ U I BP BQ) (by lia) (hx x (by rw [e];simp)) hz fun M2 R2 g2 j n B G J L I2 r2 BS BY BX=>hF _ _ ⟨R2,g2,_,_,_,_,_,_,_,_,rfl,I2,U.trans (g:=g) r2 I1 sub,fun r h=>BS r (sub r h),by rw [List.length_append,List.length_singleton,Nat.succ_mul];lia,fun k i' j' => ?_⟩
  rw [BX,hg,dC,cc,show S1 [] i'=0 from rfl,Int.add_zero,Int.add_assoc,Int.add_mul,Int.add_mul]
  congr 2
  by_cases hi:x.1=i'
  ·rw [if_pos hi,if_pos hi]
  ·rw [if_neg hi,if_neg hi];simp
 ·rintro ρ M1 ⟨R1,g1,O,S,j,n,B,G,J,L,rfl,I1,U,sub,BR,hg⟩
  exact q _ _ _ _ _ _ _ _ _ _ _ I1 U sub BR hg
noncomputable def iT (s:Stmt) (ff:Nat):FD:=⟨"rows_by_pairs",s,["scheme", "left", "right", "many", "products", "rows", "l", "r", "o", "outs", "rights", "i", "x", "j", "y", "row", "product", "k", "c"],1,
 (.cons (.asg (.tup (.cons (.name 1) (.cons (.name 2) (.cons (.name 3) (.cons (.name 4) .nil))))) (.var 0))
 (.cons (.asg (.name 5) (.dnew true))
 (.cons (.for (.tup (.cons (.name 6) (.cons (.name 7) (.cons (.name 8) .nil)))) (.seq (.var 4)) (.cons (.par 9 10 (.call ff (.cons (.var 8) .nil)) (.call ff (.cons (.var 7) .nil)))
 (.cons (.for (.tup (.cons (.name 11) (.cons (.name 12) .nil))) (.seq (.call ff (.cons (.var 6) .nil))) (.cons (.for (.tup (.cons (.name 13) (.cons (.name 14) .nil))) (.seq (.var 10)) (.cons (.ite (.cmp .ninD (.tup (.cons (.var 11) (.cons (.var 13) .nil))) (.var 5)) (.cons (.put (.var 5) (.tup (.cons (.var 11) (.cons (.var 13) .nil))) (.bin .mul (.lst (.cons (.int 0) .nil)) (.var 3)))
 .nil) .nil)
 (.cons (.par 15 16 (.ix (.var 5) (.tup (.cons (.var 11) (.cons (.var 13) .nil)))) (.bin .mul (.var 12) (.var 14)))
 (.cons (.for (.tup (.cons (.name 17) (.cons (.name 18) .nil))) (.seq (.var 9)) (.cons (.augI (.var 15) (.var 17) .add (.bin .mul (.var 18) (.var 16)))
 .nil))
 .nil))))
 .nil))
 .nil)))
 (.cons (.ret (.var 5))
 .nil))))⟩
theorem Bd {l:List Int} {N:Nat} (h:Big l) (hl:l.length=N):∀ z∈nz l,0<=z.1/\z.1 < N/\bd z.2:=fun z j=>by
 have hb:=sQ h z j
 unfold nz at j
 have j:=(List.mem_filter.mp j).1
 unfold idx at j
 obtain ⟨i,hi,e⟩:=List.mem_mapIdx.mp j
 refine ⟨?_, ?_,hb⟩ <;> rw [<- e] <;> dsimp only <;> lia
theorem iU {l:List Int} {k:Int}:S1 (nz l) k=gz l k:=by unfold nz;rw [qe,Ak]
structure Pf (L0 L1 L2:Nat) (p:Pr):Prop where
 b1:Big p.1
 b2:Big p.2.1
 b3:Big p.2.2
 l1:p.1.length=L0
 l2:p.2.1.length=L1
 l3:p.2.2.length=L2
theorem vN {f ff:Nat} {s sf:Stmt} (hf:T[f]? = some (iT s ff)) (BP:T[ff]? = some (dj sf)) {n:Nat} (hn : 2<=n) {x0 x1:D} {L0 L1 N B:Nat} {p:Addr} {ps:List Pr} {M:Mem} {Q:QD} (hp:M p=some (.lst (ps.map prD))) (hN:N<=1000) (h0:L0<=1000) (h1:L1<=1000) (hB:ps.length*B<=1000000) (hF:∀ p∈ps,Pf L0 L1 N p) (hZ:∀ p∈ps,(nz p.1).length*(nz p.2.1).length<=B)
 (q:∀ d M' R g,RI d N M' R g->Ge M M'->M d=none->(∀ r∈R,M r.2=none)->R.length<=ps.length*B->(∀ k i j,gz (g (i,j)) k=Tn ps k i j)->Q (.ref d) M'):phi T n f [.tup [x0,x1, .int N, .ref p]] M Q:=by
 refine aA (by lia) hf rfl (ρ := [some _,none,none,none,none,none,none,none,none,none,none,none,none,none,none,none,none,none,none]) rfl ?_
 unfold iT
 walk_at "st"
 walk_at "st"
 intro d hd
 have g0:=Ge.new (o := .dct true []) hd
 have d0:=ad (M:=M) (a:=d) (o := .dct true [])
 generalize af M d (.dct true [])=M0 at g0 d0 ⊢
 walk_at "st"
 refine ⟨_,ai (g0 _ _ hp), ?_⟩
 have C3:p≠d:=fun z=>by rw [z,hd] at hp;cases hp
 refine bj (f:=prD) (ys:=ps) (I:=fun l ρ M' => ∃ R g o6 o7 o8 o9 BQ G J L O S U Y Z, ρ = [some (.tup [x0,x1, .int N, .ref p]),some x0,some x1,some (.int N),some (.ref p),some (.ref d),o6,o7,o8,o9,BQ,G,J,L,O,S,U,Y,Z]/\Ge M M'/\RI d N M' R g/\(∀ r∈R,M r.2=none)/\R.length<=l.length*B /\ ∀ k i j,gz (g (i,j)) k=Tn l k i j) rfl ⟨[],fun _=>List.replicate N 0,_,_,_,_,_,_,_,_,_,_,_,_,_,rfl,g0,⟨d0,by simp,by simp,by simp,by simp,by simp,fun _ _=>rfl⟩,by simp,by simp,fun k i j=>by rw [n0];simp [Tn]⟩ (fun l ρ M' ⟨_,_,_,_,_,_,_,_,_,_,_,_,_,_,_,_,g,_⟩=>ai (g _ _ hp)) ?_ ?_
 ·rintro l x r ρ M1 e ⟨R,g,o6,o7,o8,o9,BQ,G,J,L,O,S,U,Y,Z,rfl,g1,I1,fr,BV,hg⟩
  refine ⟨_,rfl,fun F BW => ?_⟩
  have hx:=hF x (by rw [e];simp)
  have BX:=am e
  have hm:(l.length+1)*B<=ps.length*B:=Nat.mul_le_mul_right _ BX
  rw [Nat.succ_mul] at hm
  have C4:=hZ x (by rw [e];simp)
  have nr:∀ {M2:Mem} {a:Addr},Ge M1 M2->M2 a=none->a∉R.map (·.2):=fun {M2 a} g2 ha z=>by
   obtain ⟨r,hr,rfl⟩:=List.mem_map.mp z
   rw [g2 _ _ (I1.row r hr)] at ha;cases ha
  walk_at "st"
  refine dD BP (by lia) (l:=x.2.2) (by have:=hx.l3;lia) rfl fun po BR => ?_
  have BY:=nr Ge.refl BR
  have g2:Ge M1 _:=Ge.new (o := .lst ((nz x.2.2).map pD)) BR
  have eo:=ad (M:=M1) (a:=po) (o := .lst ((nz x.2.2).map pD))
  generalize af M1 po (.lst ((nz x.2.2).map pD))=M2 at eo g2 ⊢
  walk_at "wp"
  refine dD BP (by lia) (l:=x.2.1) (by have:=hx.l2;lia) rfl fun pr BS => ?_
  have BZ:=nr g2 BS
  have gr:=Ge.new (o := .lst ((nz x.2.1).map pD)) BS
  have er:=ad (M:=M2) (a:=pr) (o := .lst ((nz x.2.1).map pD))
  have eo:=gr _ _ eo
  have g3:=g2.trans gr
  generalize af M2 pr (.lst ((nz x.2.1).map pD))=M3 at eo er g3 ⊢
  clear g2 gr BR BS
  walk_at "wp"
  walk_at "st"
  refine dD BP (by lia) (l:=x.1) (by have:=hx.l1;lia) rfl fun pl BU => ?_
  have C0:=nr g3 BU
  have gl:=Ge.new (o := .lst ((nz x.1).map pD)) BU
  have el:=ad (M:=M3) (a:=pl) (o := .lst ((nz x.1).map pD))
  have eo:=gl _ _ eo
  have er:=gl _ _ er
  have g4:=g3.trans gl
  generalize af M3 pl (.lst ((nz x.1).map pD))=M4 at eo er el g4 ⊢
  clear g3 gl BU
  refine ⟨_,ai el, ?_⟩
  refine BM hN (I1.ge g4) eo BY er BZ el C0 (by lia) (sQ hx.b1) (Bd hx.b3 hx.l3) fun M5 R5 g5 G J L O S U Y Z I5 r5 sub C5 C1 => ?_
  walk_at "wp"
  refine BW _ _ ⟨R5,g5,_,_,_,_,_,_,_,_,_,_,_,_,_,rfl,fun a o ea => ?_,I5,fun r hr => ?_, ?_,fun k i j => ?_⟩
  ·refine r5.kp a o (fun z=>by rw [z,hd] at ea;cases ea) (fun z => ?_) (g4 _ _ (g1 _ _ ea))
   obtain ⟨r',C2,rfl⟩:=List.mem_map.mp z
   rw [fr r' C2] at ea;cases ea
  ·rcases r5.ex r hr with h | h
   ·exact fr r h
   ·cases ea:M r.2 with
    | none=>rfl
    | some o=>rw [g4 _ _ (g1 _ _ ea)] at h;cases h
  ·rw [List.length_append,List.length_singleton,Nat.succ_mul];lia
  ·rw [C1,hg,iU,iU,iU,sX]
   simp [Tn]
 ·rintro ρ M1 ⟨R,g,o6,o7,o8,o9,BQ,G,J,L,O,S,U,Y,Z,rfl,g1,I1,fr,BV,hg⟩
  dsimp only
  walk_at "st"
  exact q d M1 R g I1 g1 hd fr BV hg
end
section
open PySem PySem.Spec PyProof.Rows L2.Srt
variable {T:List FD}
noncomputable def tr1 (k:K2) (zs:List (Int×Int)):List Tm:=zs.map fun z=>((z.1,k.1,k.2),z.2)
noncomputable def tr (g:K2->List Int) (r:K2×Addr):List Tm:=tr1 r.1 (nz (g r.1))
theorem yD {k:K2} {zs:List (Int×Int)}:tr1 k zs=jo k.1 1 k.2 1 zs:=by
 unfold tr1 jo
 exact List.map_congr_left fun z _=>by rw [Int.one_mul,Int.one_mul]
theorem wu {g:K2->List Int} {k i j:Int}:∀ {R:List (K2×Addr)},(R.map (·.1)).Nodup->cf (R.flatMap (tr g)) (k,i,j)=if (i,j)∈R.map (·.1) then gz (g (i,j)) k else 0
 | [],_=>by simp [cr]
 | r::R,h=>by
   rw [List.map_cons,List.nodup_cons] at h
   rw [List.flatMap_cons,dz,wu h.2]
   unfold tr
   rw [yD,oC,iU,List.map_cons]
   by_cases e:r.1=(i,j)
   ·have n:r.1.1=i:=by rw [e]
    have q:r.1.2=j:=by rw [e]
    rw [if_pos ⟨n,q⟩,if_neg (by rw [<- e];exact h.1),if_pos (by rw [e];simp),e];simp
   ·rw [if_neg (fun z=>e (Prod.ext z.1 z.2))]
    by_cases m:(i,j)∈R.map (·.1)
    ·rw [if_pos m,if_pos (List.mem_cons_of_mem _ m)];simp
    ·rw [if_neg m,if_neg (fun z=>by
      rcases List.mem_cons.mp z with z | z
      ·exact e z.symm
      ·exact m z)];rfl
theorem n6 {g:K2->List Int} {N:Nat} (h:∀ k,(g k).length=N):∀ {R:List (K2×Addr)},(R.flatMap (tr g)).length<=R.length*N
 | [] => by simp
 | r::R=>by
   rw [List.flatMap_cons,List.length_append,List.length_cons,Nat.succ_mul]
   have h1:=n6 h (R:=R)
   have h2:=Aj (l:=g r.1)
   rw [h] at h2
   have j:(tr g r).length=(nz (g r.1)).length:=by simp [tr,tr1]
   lia
noncomputable def gR (s:Stmt) (ft ff fr:Nat):FD:=⟨"task_by",s,["scheme", "left", "right", "many", "products", "rows"],1,
 (.cons (.asg (.tup (.cons (.name 1) (.cons (.name 2) (.cons (.name 3) (.cons (.name 4) .nil))))) (.var 0))
 (.cons (.asg (.name 5) (.call fr (.cons (.var 0) .nil)))
 (.cons (.frz 5 (.ret (.call ft (.cons (.var 1) (.cons (.var 2) (.cons (.var 3) (.cons (.comp [none,none,none,none,none] ["i", "j", "row", "k", "c"] (.more (.items (.var 5)) (.tup (.cons (.tup (.cons (.name 0) (.cons (.name 1) .nil))) (.cons (.name 2) .nil))) .nil (.last (.seq (.call ff (.cons (.var 2) .nil))) (.tup (.cons (.name 3) (.cons (.name 4) .nil))) .nil (.tup (.cons (.var 3) (.cons (.var 0) (.cons (.var 1) (.cons (.var 4) .nil)))))))) .nil)))))))
 .nil)))⟩
theorem nE {f ft ff fr:Nat} {s sk sf sr:Stmt} (hf:T[f]? = some (gR s ft ff fr)) (Z:T[ft]? = some (dg sk)) (L:T[ff]? = some (dj sf)) (BP:T[fr]? = some (iT sr ff)) {n:Nat} (hn : 3<=n) {x0 x1:D} {L0 L1 N B:Nat} {p:Addr} {ps:List Pr} {M:Mem} {Q:QD} (hp:M p=some (.lst (ps.map prD))) (hN:N<=1000) (h0:L0<=1000) (h1:L1<=1000) (hB:ps.length*B*N<=100000) (BU:ps.length*B<=100000) (hF:∀ p∈ps,Pf L0 L1 N p) (hZ:∀ p∈ps,(nz p.1).length*(nz p.2.1).length<=B)
 (q:∀ (ts rs:List Tm) p' M',IsTask ts rs->(∀ k i j,cf ts (k,i,j)=Tn ps k i j)->Ge M M'->M p'=none->M' p'=some (.lst (rs.map tmD))->Q (.tup [x0,x1, .int N, .ref p']) M'):phi T n f [.tup [x0,x1, .int N, .ref p]] M Q:=by
 refine aA (by lia) hf rfl (ρ := [some _,none,none,none,none,none]) rfl ?_
 unfold gR
 walk_at "st"
 walk_at "st"
 refine vN BP L (by lia) hp hN h0 h1 (by lia) hF hZ fun d Y R g I g1 hd fr hl hg => ?_
 walk_at "st"
 refine ym rfl I.dct ?_
 have fd:=ad (M:=Y) (a:=d) (o := .fdc (R.map raD))
 have g2:Ge M (af Y d (.fdc (R.map raD))):=g1.upd hd
 have F:∀ r∈R,af Y d (.fdc (R.map raD)) r.2=some (.lst ((g r.1).map .int)):=fun r hr=>by
  rw [av (I.nd r hr)];exact I.row r hr
 generalize af Y d (.fdc (R.map raD))=M2 at fd g2 F ⊢
 have hlen:=n6 I.ln (R:=R)
 have BV:R.length*N<=ps.length*B*N:=Nat.mul_le_mul_right _ hl
 walk_at "wp"
 refine ⟨_,fd, ?_⟩
 refine aB (f:=fun r:K2×Addr=>kvD (raD r)) (ys:=R) (I:=fun l ρ M' acc=>(∃ o0 o1 o2 G J, ρ = [o0,o1,o2,G,J])/\Ge M2 M'/\acc=(l.flatMap (tr g)).map tmD) (by rw [List.map_map];rfl) ⟨⟨_,_,_,_,_,rfl⟩,Ge.refl,rfl⟩ (fun _ _ _ _ _=>trivial) ?_ ?_
 ·rintro l r rr ρ O acc e ⟨⟨o0,o1,o2,G,J,rfl⟩,g3,rfl⟩
  refine ⟨_,rfl,fun N' BQ => ?_⟩
  have hr:r∈R:=by rw [e];simp
  have BW:=n6 I.ln (R:=l)
  have BX:(l.flatMap (tr g)).length+(nz (g r.1)).length<=(R.flatMap (tr g)).length:=by
   rw [e,List.flatMap_append,List.flatMap_cons,List.length_append,List.length_append]
   have:(tr g r).length=(nz (g r.1)).length:=by simp [tr,tr1]
   lia
  walk_at "wp"
  refine dD L (by lia) (l:=g r.1) (by rw [I.ln];lia) (ai (g3 _ _ (F r hr))) fun pz BR => ?_
  have S:=g3.trans (Ge.new (o := .lst ((nz (g r.1)).map pD)) BR)
  have ez:=ad (M:=O) (a:=pz) (o := .lst ((nz (g r.1)).map pD))
  generalize af O pz (.lst ((nz (g r.1)).map pD))=M4 at S ez ⊢
  walk_at "wp"
  refine ⟨_,ai ez, ?_⟩
  refine aB (f:=pD) (ys:=nz (g r.1)) (I:=fun zs ρ M' acc=>(∃ G J, ρ = [some (.int r.1.1),some (.int r.1.2),some (.ref r.2),G,J])/\M'=M4/\acc=(l.flatMap (tr g)).map tmD++(tr1 r.1 zs).map tmD) rfl ⟨⟨_,_,rfl⟩,rfl,by simp [tr1]⟩ (fun _ _ _ _ h=>by rw [h.2.1];exact ai ez) ?_ ?_
  ·rintro zs z r' ρ M5 acc e' ⟨⟨G,J,rfl⟩,rfl,rfl⟩
   refine ⟨_,rfl,fun N2 BS => ?_⟩
   have BY:=am e'
   have BZ:(tr1 r.1 zs).length=zs.length:=by simp [tr1]
   walk_at "wp"
   refine ⟨by rw [sizeLine_eq];lia,by rw [List.length_append,List.length_map,List.length_map,sizeLine_eq];lia,BS _ _ _ ⟨⟨_,_,rfl⟩,rfl, ?_⟩⟩
   simp [tr1,tmD]
  ·rintro ρ M5 acc ⟨⟨G,J,rfl⟩,rfl,rfl⟩
   exact BQ _ _ _ ⟨⟨_,_,_,_,_,rfl⟩,S,by rw [List.flatMap_append];simp [tr]⟩
 ·rintro ρ O acc ⟨⟨o0,o1,o2,G,J,rfl⟩,g3,rfl⟩ pt hpt
  have S:=g3.trans (Ge.new (o := .lst ((R.flatMap (tr g)).map tmD)) hpt)
  have et:=ad (M:=O) (a:=pt) (o := .lst ((R.flatMap (tr g)).map tmD))
  generalize af O pt (.lst ((R.flatMap (tr g)).map tmD))=M4 at S et ⊢
  walk_at "wp"
  refine dW Z (by lia) (ai et) (by lia) fun rs p' M' hT gT U eT => ?_
  have gM:=g2.trans S
  refine q _ rs p' M' hT (fun k i j => ?_) (gM.trans gT) ?_ eT
  ·rw [wu I.keys]
   by_cases m:(i,j)∈R.map (·.1)
   ·rw [if_pos m];exact hg k i j
   ·rw [if_neg m, <- hg,I.out _ m,n0]
  ·cases hq:M p' with
   | none=>rfl
   | some o=>rw [gM _ _ hq] at U;cases U
end
section
open PySem PySem.Spec PyProof.Rows L2.Srt
variable {T:List FD}
noncomputable def one (L:Nat) (k:Int):List Int:=(List.range L).map fun h=>if ((h:Nat):Int)=k then 1 else 0
theorem jt {L:Nat} {k:Int}:(one L k).length=L:=by simp [one]
theorem t5 {L:Nat} {k i:Int} (h0 : 0<=k) (h1:k < L):gz (one L k) i=if i=k then 1 else 0:=by
 unfold gz one
 by_cases hi:i < 0
 ·rw [if_pos hi,if_neg (by lia)]
 ·rw [if_neg hi,List.getD_eq_getElem?_getD,List.getElem?_map]
  by_cases hl:i.toNat < L
  ·rw [List.getElem?_range hl]
   simp only [Option.map_some,Option.getD_some]
   by_cases e:i=k
   ·rw [if_pos (by lia),if_pos e]
   ·rw [if_neg (by lia),if_neg e]
  ·rw [List.getElem?_eq_none (by simp;lia),if_neg (by lia)];rfl
end
section
open PySem PySem.Spec PyProof.Rows L2.Srt
theorem Al:∀ ns:List Int,PyData.eqvAll (ns.map .int) (ns.map .int)=true
 | [] => rfl
 | n::ns=>by simp [PyData.eqvAll,PyData.eqv,Al ns]
theorem Am:∀ ps:List Pr,PyData.eqvAll (ps.map dH) (ps.map dH)=true
 | [] => rfl
 | p::ps=>by simp [PyData.eqvAll,PyData.eqv,Am ps,dH,Al]
theorem wv {M:Mem} {x y z:Int} {a:Addr} {ps:List Pr} (h:M a=some (.lst (ps.map prD))):rb 16 M (.tup [.int x, .int y, .int z, .ref a])=some (.tuple [.int x, .int y, .int z, .list (ps.map dH)]):=by
 have e:rb 15 M (.ref a)=some (.list (ps.map dH)):=by rw [mN h,sP];rfl
 show (aw (rb 15 M) [.int x, .int y, .int z, .ref a]).map PyData.tuple=_
 simp only [aw,e]
 simp [rb]
theorem ww {M:Mem} {x y z x' y' z':Int} (ex:x=x') (ey:y=y') (ez:z=z') {a b:Addr} {ps:List Pr} {Q:QD} (j:M a=some (.lst (ps.map prD))) (hb:M b=some (.lst (ps.map prD))) (q:Q (.bl false) M):wNe (.tup [.int x, .int y, .int z, .ref a]) (.tup [.int x', .int y', .int z', .ref b]) M Q:=by
 subst ex ey ez
 refine ⟨_,_,wv j,wv hb, ?_⟩
 rw [show PyData.eqv (.tuple [.int x, .int y, .int z, .list (ps.map dH)]) (.tuple [.int x, .int y, .int z, .list (ps.map dH)])=true by simp [PyData.eqv,PyData.eqvAll,Am]]
 exact q
end
section
variable {T:List FD}
noncomputable def eR (s:Stmt):FD:=⟨"is_number",s,["thing"],1,
 (.cons (.ret (.and (.cons (.isin (.var 0) "int") (.cons (.not (.isin (.var 0) "bool")) .nil))))
 .nil)⟩
noncomputable def kC (s:Stmt) (fn:Nat):FD:=⟨"is_length",s,["thing"],1,
 (.cons (.ret (.and (.cons (.call fn (.cons (.var 0) .nil)) (.cons (.chain .le .le (.int 1) (.var 0) (.glob "LONGEST" 81)) .nil))))
 .nil)⟩
noncomputable def dY (s:Stmt) (fn:Nat):FD:=⟨"is_part",s,["thing", "length"],2,
 (.cons (.ret (.and (.cons (.isin (.var 0) "tuple") (.cons (.cmp .eq (.blt .len (.cons (.var 0) .nil)) (.var 1)) (.cons (.blt .all (.cons (.comp [none] ["x"] (.last (.seq (.var 0)) (.name 0) .nil (.call fn (.cons (.var 0) .nil)))) .nil)) .nil)))))
 .nil)⟩
noncomputable def g9 (s:Stmt) (fp:Nat):FD:=⟨"is_product",s,["thing", "lengths"],2,
 (.cons (.ite (.or (.cons (.not (.tru (.isin (.var 0) "tuple"))) (.cons (.cmp .ne (.blt .len (.cons (.var 0) .nil)) (.int 3)) .nil))) (.cons (.ret (.bl false))
 .nil) .nil)
 (.cons (.ret (.blt .all (.cons (.comp [none,none] ["part", "length"] (.last (.zip (.var 0) (.var 1)) (.tup (.cons (.name 0) (.cons (.name 1) .nil))) .nil (.call fp (.cons (.var 0) (.cons (.var 1) .nil))))) .nil)))
 .nil))⟩
noncomputable def n8 (s:Stmt) (fl fq:Nat):FD:=⟨"is_scheme",s,["thing", "lengths", "products"],1,
 (.cons (.ite (.or (.cons (.not (.tru (.isin (.var 0) "tuple"))) (.cons (.cmp .ne (.blt .len (.cons (.var 0) .nil)) (.int 4)) .nil))) (.cons (.ret (.bl false))
 .nil) .nil)
 (.cons (.asg (.tup (.cons (.name 1) (.cons (.name 2) .nil))) (.tup (.cons (.sl (.var 0) .none (.some (.int 3))) (.cons (.ix (.var 0) (.int 3)) .nil))))
 (.cons (.ite (.not (.tru (.blt .all (.cons (.comp [none] ["x"] (.last (.seq (.var 1)) (.name 0) .nil (.call fl (.cons (.var 0) .nil)))) .nil)))) (.cons (.ret (.bl false))
 .nil) .nil)
 (.cons (.ite (.or (.cons (.not (.tru (.isin (.var 2) "list"))) (.cons (.cmp .gt (.blt .len (.cons (.var 2) .nil)) (.glob "MOST_PRODUCTS" 400)) .nil))) (.cons (.ret (.bl false))
 .nil) .nil)
 (.cons (.ret (.blt .all (.cons (.comp [none,(some 1)] ["x", "lengths"] (.last (.seq (.var 2)) (.name 0) .nil (.call fq (.cons (.var 0) (.cons (.var 1) .nil))))) .nil)))
 .nil)))))⟩
theorem t6 {f:Nat} {s:Stmt} (hf:T[f]? = some (eR s)) {n:Nat} (j : 1<=n) {i:Int} {M:Mem} {Q:QD} (q:Q (.bl true) M):phi T n f [.int i] M Q:=by
 refine aA j hf rfl (ρ := [some _]) rfl ?_
 unfold eR
 walk_at "st"
 refine ⟨_,rfl, ?_⟩
 rw [if_pos (by decide)]
 exact ⟨_,rfl,q⟩
theorem oG:∀ n:Nat,aw pJ (List.replicate n (D.bl true))=some (List.replicate n true)
 | 0=>rfl
 | n+1=>by
   rw [List.replicate_succ]
   unfold aw
   rw [oG n];rfl
theorem iV {M:Mem} {p:Addr} {n:Nat} {Q:QD} (e:M p=some (.lst (List.replicate n (.bl true)))) (q:Q (.bl true) M):pK [.ref p] M Q:=by
 refine ⟨_,_,_,rfl,ai e,oG n, ?_⟩
 rw [show (List.replicate n true).all id=true by simp]
 exact q
theorem ju {f fn:Nat} {s sn:Stmt} (hf:T[f]? = some (kC s fn)) (j:T[fn]? = some (eR sn)) {n:Nat} (z : 2<=n) {i:Int} (h1 : 1<=i) (h2:i<=81) {M:Mem} {Q:QD} (q:Q (.bl true) M):phi T n f [.int i] M Q:=by
 refine aA (by lia) hf rfl (ρ := [some _]) rfl ?_
 unfold kC
 walk_at "st"
 refine t6 j (by lia) ?_
 refine ⟨_,rfl, ?_⟩
 rw [if_pos (by decide)]
 walk_at "wp"
 rw [if_pos h1,show decide (i<=81)=true by simpa using h2]
 exact q
theorem gU {f fn:Nat} {s sn:Stmt} (hf:T[f]? = some (dY s fn)) (j:T[fn]? = some (eR sn)) {n:Nat} (F : 2<=n) {l:List Int} {L:Int} (hl:(l.length:Int)=L) (hb:l.length<=1000) {M:Mem} {Q:QD} (q:∀ M',Ge M M'->Q (.bl true) M'):phi T n f [.tup (l.map .int), .int L] M Q:=by
 refine aA (by lia) hf rfl (ρ := [some _,some _]) rfl ?_
 unfold dY
 walk_at "st"
 refine ⟨_,rfl, ?_⟩
 rw [if_pos (by decide)]
 walk_at "wp"
 rw [List.length_map,if_pos (by simpa using hl)]
 refine aB (I:=fun l ρ M' acc=>(∃ o, ρ = [o])/\M'=M/\acc=List.replicate l.length (.bl true)) (ys:=l) (f:=D.int) rfl ⟨⟨_,rfl⟩,rfl,rfl⟩ (fun _ _ _ _ G=>by first | trivial | simp) ?_ ?_
 ·rintro l' y r ρ M1 acc e ⟨⟨o,rfl⟩,rfl,rfl⟩
  refine ⟨_,rfl,fun N z => ?_⟩
  have B:=am e
  walk_at "wp"
  refine t6 j (by lia) ⟨by rw [List.length_replicate,sizeLine_eq];lia,z _ _ _ ⟨⟨_,rfl⟩,rfl,by simp [List.replicate_succ']⟩⟩
 ·rintro ρ M1 acc ⟨⟨o,rfl⟩,rfl,rfl⟩ p hp
  exact iV ad (q _ (Ge.new hp))
theorem vO {f fp fn:Nat} {s sp sn:Stmt} (hf:T[f]? = some (g9 s fp)) (j:T[fp]? = some (dY sp fn)) (z:T[fn]? = some (eR sn)) {n:Nat} (F : 3<=n) {p:Pr} {L0 L1 N:Nat} (h:p.1.length=L0/\p.2.1.length=L1/\p.2.2.length=N) (h0:L0<=1000) (h1:L1<=1000) (G:N<=1000) {M:Mem} {Q:QD} (q:∀ M',Ge M M'->Q (.bl true) M'):phi T n f [prD p, .tup [.int L0, .int L1, .int N]] M Q:=by
 refine aA (by lia) hf rfl (ρ := [some _,some _]) rfl ?_
 unfold g9 prD
 walk_at "st"
 refine ⟨_,rfl,_,rfl, ?_⟩
 rw [if_neg (by decide)]
 walk_at "wp"
 rw [if_neg (by decide)]
 walk_at "st"
 refine ⟨trivial,_,rfl, ?_⟩
 walk_at "wp"
 refine gU j z (by lia) (by rw [h.1]) (by lia) fun I g1=>⟨by rw [sizeLine_eq];simp,trivial,_,rfl, ?_⟩
 walk_at "wp"
 refine gU j z (by lia) (by rw [h.2.1]) (by lia) fun M2 g2=>⟨by rw [sizeLine_eq];simp,trivial,_,rfl, ?_⟩
 walk_at "wp"
 refine gU j z (by lia) (by rw [h.2.2]) (by lia) fun J g3=>⟨by rw [sizeLine_eq];simp,trivial,fun p B => ?_⟩
 exact iV (n := 3) ad (q _ (((g1.trans g2).trans g3).trans (Ge.new B)))
theorem yE {a b c d:D} {M:Mem} {Q:QD} (q:Q (.tup [a,b,c]) M):dO (.tup [a,b,c,d]) none (some 3) M Q:=q
theorem yF {f fl fq fp fn:Nat} {s sl sq sp sn:Stmt} (hf:T[f]? = some (n8 s fl fq)) (z:T[fl]? = some (kC sl fn)) (F:T[fq]? = some (g9 sq fp)) (G:T[fp]? = some (dY sp fn)) (j:T[fn]? = some (eR sn)) {n:Nat} (U : 4<=n) {ps:List Pr} {pr:Addr} {L0 L1 N:Nat} (h0 : 1<=L0/\L0<=81) (h1 : 1<=L1/\L1<=81) (Y : 1<=N/\N<=81) (Z:ps.length<=400) (h:∀ p∈ps,p.1.length=L0/\p.2.1.length=L1/\p.2.2.length=N) {M:Mem} {Q:QD} (e:M pr=some (.lst (ps.map prD))) (q:∀ M',Ge M M'->Q (.bl true) M'):phi T n f [.tup [.int L0, .int L1, .int N, .ref pr]] M Q:=by
 refine aA (by lia) hf rfl (ρ := [some _,none,none]) rfl ?_
 unfold n8
 walk_at "st"
 refine ⟨_,rfl,_,rfl, ?_⟩
 rw [if_neg (by decide)]
 walk_at "wp"
 rw [if_neg (by decide)]
 walk_at "st"
 refine yE ⟨_,rfl,by rw [sizeLine_eq];lia, ?_⟩
 walk_at "st"
 refine ⟨trivial,_,rfl, ?_⟩
 walk_at "wp"
 refine ju z j (by lia) (by lia) (by lia) ⟨by rw [sizeLine_eq];simp,trivial,_,rfl, ?_⟩
 walk_at "wp"
 refine ju z j (by lia) (by lia) (by lia) ⟨by rw [sizeLine_eq];simp,trivial,_,rfl, ?_⟩
 walk_at "wp"
 refine ju z j (by lia) (by lia) (by lia) ⟨by rw [sizeLine_eq];simp,trivial,fun O J => ?_⟩
 have g1:=Ge.new (o := .lst ([]++[D.bl true]++[D.bl true]++[D.bl true])) J
 refine iV (n := 3) ad ⟨_,rfl, ?_⟩
 have B:=g1 _ _ e
 generalize af M O (.lst ([]++[D.bl true]++[D.bl true]++[D.bl true]))=M1 at g1 B ⊢
 rw [if_neg (by decide)]
 walk_at "st"
 refine ⟨"list",by simp [tyN,B],_,rfl, ?_⟩
 rw [if_neg (by decide)]
 refine ⟨_,_,rfl,vD (ai B), ?_⟩
 walk_at "wp"
 rw [List.length_map,if_neg (by lia)]
 walk_at "st"
 refine ⟨_,ai B, ?_⟩
 refine aB (I:=fun l ρ M' acc=>(∃ o, ρ = [o,some (.tup [.int L0, .int L1, .int N])])/\Ge M1 M'/\acc=List.replicate l.length (.bl true)) (ys:=ps) (f:=prD) rfl ⟨⟨_,rfl⟩,Ge.refl,rfl⟩ (fun _ _ _ _ R=>ai (R.2.1 _ _ B)) ?_ ?_
 ·rintro l' y r ρ M2 acc e' ⟨⟨o,rfl⟩,g2,rfl⟩
  refine ⟨_,rfl,fun N' L => ?_⟩
  have S:=am e'
  walk_at "wp"
  refine vO F G j (by lia) (h y (by rw [e'];simp)) (by lia) (by lia) (by lia) fun M3 g3=>⟨by rw [List.length_replicate,sizeLine_eq];lia,L _ _ _ ⟨⟨_,rfl⟩,g2.trans g3,by simp [List.replicate_succ']⟩⟩
 ·rintro ρ M2 acc ⟨⟨o,rfl⟩,g2,rfl⟩ p hp
  exact iV ad (q _ ((g1.trans g2).trans (Ge.new hp)))
end
section
namespace K12
noncomputable def ah (i:Nat):Stmt:=PySem.Challenge.pw_fewtimes_k12_plain_schemes.main.body.getD i (.Pass ⟨0,0,0,0⟩)
noncomputable def d0:FD:=dg (ah 1)
noncomputable def d1:FD:=jn (ah 2) 0
noncomputable def d2:FD:=mU (ah 3) 0
noncomputable def d3:FD:=mV (ah 4) 0
noncomputable def d4:FD:=eR (ah 8)
noncomputable def d5:FD:=kC (ah 9) 4
noncomputable def d6:FD:=dY (ah 10) 4
noncomputable def d7:FD:=g9 (ah 11) 6
noncomputable def d8:FD:=n8 (ah 12) 5 7
noncomputable def d9:FD:=dj (ah 13)
noncomputable def d10:FD:=iT (ah 14) 9
noncomputable def d11:FD:=gR (ah 15) 0 9 10
noncomputable def b12:MSs :=
 (.cons (.ret (.cmp .eq (.call 11 (.cons (.var 0) .nil)) (.var 1)))
 .nil)
noncomputable def d12:FD:=⟨"does",ah 16,["scheme", "task"],2,b12⟩
noncomputable def b13:MSs :=
 (.cons (.asg (.name 2) (.bin .mul (.lst (.cons (.int 0) .nil)) (.var 0)))
 (.cons (.put (.var 2) (.var 1) (.int 1))
 (.cons (.ret (.var 2))
 .nil)))
noncomputable def d13:FD:=⟨"single_one",ah 17,["length", "at", "row"],2,b13⟩
noncomputable def b14:MSs :=
 (.cons (.asg (.tup (.cons (.name 1) (.cons (.name 2) (.cons (.name 3) (.cons (.name 4) .nil))))) (.var 0))
 (.cons (.asg (.name 5) (.dnew true))
 (.cons (.for (.tup (.cons (.name 6) (.cons (.name 7) (.cons (.name 8) (.cons (.name 9) .nil))))) (.seq (.var 4)) (.cons (.ite (.cmp .ninD (.tup (.cons (.var 7) (.cons (.var 8) .nil))) (.var 5)) (.cons (.put (.var 5) (.tup (.cons (.var 7) (.cons (.var 8) .nil))) (.bin .mul (.lst (.cons (.int 0) .nil)) (.var 3)))
 .nil) .nil)
 (.cons (.put (.ix (.var 5) (.tup (.cons (.var 7) (.cons (.var 8) .nil)))) (.var 6) (.var 9))
 .nil)))
 (.cons (.asg (.name 10) (.comp [none,none,(some 1),(some 2),(some 5)] ["i", "j", "left", "right", "outs"] (.last (.seq (.blt .sortk (.cons (.var 5) .nil))) (.tup (.cons (.name 0) (.cons (.name 1) .nil))) .nil (.tup (.cons (.blt .tuple (.cons (.call 13 (.cons (.var 2) (.cons (.var 0) .nil))) .nil)) (.cons (.blt .tuple (.cons (.call 13 (.cons (.var 3) (.cons (.var 1) .nil))) .nil)) (.cons (.blt .tuple (.cons (.ix (.var 4) (.tup (.cons (.var 0) (.cons (.var 1) .nil)))) .nil)) .nil)))))))
 (.cons (.ret (.tup (.cons (.var 1) (.cons (.var 2) (.cons (.var 3) (.cons (.var 10) .nil))))))
 .nil)))))
noncomputable def d14:FD:=⟨"plain",ah 19,["task", "left", "right", "many", "terms", "outs", "k", "i", "j", "c", "products"],1,b14⟩
noncomputable def d15:FD:=iR (ah 21)
noncomputable def d16:FD:=ji (ah 22)
noncomputable def d17:FD:=qc (ah 23) 15 16
noncomputable def d18:FD:=mM (ah 24) 16
noncomputable def d19:FD:=gP (ah 25) 18
noncomputable def b20:MSs :=
 (.cons (.asg (.name 1) (.call 18 (.cons (.var 0) (.cons (.int 8) .nil))))
 (.cons (.asg (.name 2) (.comp [none,(some 0)] ["_law_side", "_law_box_here"] (.last (.rng1 (.int 3)) (.name 0) .nil (.bin .add (.int 1) (.call 18 (.cons (.var 1) (.cons (.int 3) .nil)))))))
 (.cons (.ite (.cmp .eq (.var 1) (.int 0)) (.cons (.ret (.call 1 (.cons (.ix (.var 2) (.int 0)) (.cons (.ix (.var 2) (.int 1)) (.cons (.ix (.var 2) (.int 2)) .nil)))))
 .nil) .nil)
 (.cons (.ite (.cmp .eq (.var 1) (.int 1)) (.cons (.ret (.call 2 (.cons (.ix (.var 2) (.int 0)) (.cons (.ix (.var 2) (.int 1)) .nil))))
 .nil) .nil)
 (.cons (.ite (.cmp .eq (.var 1) (.int 2)) (.cons (.ret (.call 3 (.cons (.ix (.var 2) (.int 0)) (.cons (.ix (.lst (.cons (.int 1) (.cons (.neg (.int 1)) .nil))) (.call 18 (.cons (.var 0) (.cons (.int 2) .nil)))) .nil))))
 .nil) .nil)
 (.cons (.ite (.cmp .eq (.var 1) (.int 3)) (.cons (.ret (.call 2 (.cons (.bin .add (.int 7) (.call 18 (.cons (.var 0) (.cons (.int 3) .nil)))) (.cons (.bin .add (.int 7) (.call 18 (.cons (.var 0) (.cons (.int 3) .nil)))) .nil))))
 .nil) .nil)
 (.cons (.asg (.name 3) (.comp [none,(some 0)] ["_law_side", "_law_box_here"] (.last (.rng1 (.int 3)) (.name 0) .nil (.bin .add (.int 1) (.call 18 (.cons (.var 1) (.cons (.int 6) .nil)))))))
 (.cons (.asg (.name 4) (.lst .nil))
 (.cons (.for (.name 5) (.rng1 (.call 18 (.cons (.var 0) (.cons (.int 15) .nil)))) (.cons (.asg (.name 6) (.tup (.cons (.call 18 (.cons (.var 0) (.cons (.ix (.var 3) (.int 2)) .nil))) (.cons (.call 18 (.cons (.var 0) (.cons (.ix (.var 3) (.int 0)) .nil))) (.cons (.call 18 (.cons (.var 0) (.cons (.ix (.var 3) (.int 1)) .nil))) .nil)))))
 (.cons (.drop (.meth .append (.var 4) (.bin .add (.var 6) (.tup (.cons (.call 19 (.cons (.var 0) .nil)) .nil)))))
 .nil)))
 (.cons (.ret (.call 0 (.cons (.ix (.var 3) (.int 0)) (.cons (.ix (.var 3) (.int 1)) (.cons (.ix (.var 3) (.int 2)) (.cons (.var 4) .nil))))))
 .nil))))))))))
noncomputable def d20:FD:=⟨"_law_task",ah 26,["_law_box_here", "_law_way", "_law_sizes", "_law_lengths", "_law_terms", "_law_turn", "_law_place"],1,b20⟩
noncomputable def b21:MSs :=
 (.cons (.asg (.tup (.cons (.name 1) (.cons (.name 2) (.cons (.name 3) (.cons (.name 4) .nil))))) (.var 0))
 (.cons (.asg (.name 5) (.lst .nil))
 (.cons (.for (.name 6) (.rng1 (.var 1)) (.cons (.for (.name 7) (.rng1 (.var 2)) (.cons (.asg (.name 8) (.blt .dicti (.cons (.comp [none,none,none,none,(some 6),(some 7)] ["_law_k", "_law_one", "_law_other", "_law_c", "_law_i", "_law_j"] (.last (.seq (.var 4)) (.tup (.cons (.name 0) (.cons (.name 1) (.cons (.name 2) (.cons (.name 3) .nil))))) (.cons (.cmp .eq (.tup (.cons (.var 1) (.cons (.var 2) .nil))) (.tup (.cons (.var 4) (.cons (.var 5) .nil)))) .nil) (.tup (.cons (.var 0) (.cons (.var 3) .nil))))) .nil)))
 (.cons (.ite (.cmp .neE (.var 8) (.dnew false)) (.cons (.asg (.name 9) (.blt .tuple (.cons (.comp [none,(some 6)] ["_law_place", "_law_i"] (.last (.rng1 (.var 1)) (.name 0) .nil (.blt .int (.cons (.cmp .eq (.var 0) (.var 1)) .nil)))) .nil)))
 (.cons (.asg (.name 10) (.blt .tuple (.cons (.comp [none,(some 7)] ["_law_place", "_law_j"] (.last (.rng1 (.var 2)) (.name 0) .nil (.blt .int (.cons (.cmp .eq (.var 0) (.var 1)) .nil)))) .nil)))
 (.cons (.drop (.meth .append (.var 5) (.tup (.cons (.var 9) (.cons (.var 10) (.cons (.blt .tuple (.cons (.comp [none,(some 8)] ["_law_k", "_law_here"] (.last (.rng1 (.var 3)) (.name 0) .nil (.dget (.var 1) (.var 0) (.int 0)))) .nil)) .nil))))))
 .nil))) .nil)
 .nil)))
 .nil))
 (.cons (.ret (.tup (.cons (.var 1) (.cons (.var 2) (.cons (.var 3) (.cons (.var 5) .nil))))))
 .nil))))
noncomputable def d21:FD:=⟨"_law_due",ah 27,["_law_task_here", "_law_left", "_law_right", "_law_many", "_law_terms", "_law_products", "_law_i", "_law_j", "_law_here", "_law_one", "_law_other"],1,b21⟩
noncomputable def b22:MSs :=
 (.cons (.for (.name 1) (.rng1 (.bin .add (.int 1) (.blt .min2 (.cons (.int 8) (.cons (.blt .len (.cons (.var 0) .nil)) .nil))))) (.cons (.asg (.name 2) (.call 20 (.cons (.call 17 (.cons (.var 0) (.cons (.var 1) .nil))) .nil)))
 (.cons (.asg (.name 3) (.call 14 (.cons (.var 2) .nil)))
 (.cons (.asg (.name 4) (.call 21 (.cons (.var 2) .nil)))
 (.cons (.ite (.or (.cons (.cmp .ne (.var 3) (.var 4)) (.cons (.cmp .isn (.call 8 (.cons (.var 3) .nil)) (.bl true)) (.cons (.cmp .isn (.call 12 (.cons (.var 3) (.cons (.var 2) .nil))) (.bl true)) .nil)))) (.cons (.ret (.bl false))
 .nil) .nil)
 (.cons (.drop (.meth .append (.ix (.var 3) (.int 3)) .non))
 (.cons (.ite (.or (.cons (.cmp .ne (.call 14 (.cons (.var 2) .nil)) (.var 4)) (.cons (.cmp .ne (.ix (.var 2) (.int 3)) (.blt .sorted (.cons (.ix (.var 2) (.int 3)) .nil))) .nil))) (.cons (.ret (.bl false))
 .nil) .nil)
 .nil)))))))
 (.cons (.ret (.bl true))
 .nil))
noncomputable def d22:FD:=⟨"law",ah 28,["_law_script", "_law_k", "_law_task_here", "_law_found", "_law_due_here"],1,b22⟩
noncomputable def tab:List FD := [d0,d1,d2,d3,d4,d5,d6,d7,d8,d9,d10,d11,d12,d13,d14,d15,d16,d17,d18,d19,d20,d21,d22]
noncomputable def n9:List (Str×Int) := [("LONGEST",81),("MOST_PRODUCTS",400)]
end K12
end
section
namespace K12
theorem An:∀ d∈tab,qa (tab.map (·.name)) n9 d=true:=by decide +kernel
noncomputable abbrev PA (K:Frag) (x:Str) (f:Addr):Prop:=PySem.W.nsIn K mainGlobals x=some (some (.ref f))
noncomputable abbrev PL (K:Frag) (f:Addr) (x:Str) (s:Stmt) (oc:Value) (od:Option Addr) (kV dc pm:Value) (an:Option Addr) (cd ct:Value) (sl:Array (Option Value)):Prop:=K.lookup f=some ⟨oc,od, .func (PySem.W.fnOf x x (cH s) (bC s) (au s) .none kV dc pm an cd ct),sl⟩
noncomputable abbrev PC (K:Frag) (c:Value) (x:Str):Prop:=PySem.W.codeIn K c x=true
noncomputable abbrev PK (K:Frag) (f:Addr):Prop:=PySem.W.keepIn K (.ref f)=true
theorem all_mk {l:PySem.W.OpenLaw} {w:World} {K:Frag} {h:Heap} {mg:Str->Option Value} {fa:Addr} (X:K.In h) (G:h.Ns mainGlobals mg) (hfa:mg "law" = some (.ref fa)) (z:∀ x∈bltNames,PySem.W.nsIn K mainGlobals x=some none)
 (a0:PA K "task_of" f0) (l0:PL K f0 "task_of" (ah 1) oc0 od0 kV0 dc0 pm0 an0 cd0 ct0 sl0) (c0:PC K cd0 "task_of") (k0:PK K f0)
 (a1:PA K "table_task" f1) (l1:PL K f1 "table_task" (ah 2) oc1 od1 kV1 dc1 pm1 an1 cd1 ct1 sl1) (c1:PC K cd1 "table_task") (k1:PK K f1)
 (a2:PA K "line_task" f2) (l2:PL K f2 "line_task" (ah 3) oc2 od2 kV2 dc2 pm2 an2 cd2 ct2 sl2) (c2:PC K cd2 "line_task") (k2:PK K f2)
 (a3:PA K "ring_task" f3) (l3:PL K f3 "ring_task" (ah 4) oc3 od3 kV3 dc3 pm3 an3 cd3 ct3 sl3) (c3:PC K cd3 "ring_task") (k3:PK K f3)
 (a4:PA K "is_number" f4) (l4:PL K f4 "is_number" (ah 8) oc4 od4 kV4 dc4 pm4 an4 cd4 ct4 sl4) (c4:PC K cd4 "is_number") (k4:PK K f4)
 (a5:PA K "is_length" f5) (l5:PL K f5 "is_length" (ah 9) oc5 od5 kV5 dc5 pm5 an5 cd5 ct5 sl5) (c5:PC K cd5 "is_length") (k5:PK K f5)
 (a6:PA K "is_part" f6) (l6:PL K f6 "is_part" (ah 10) oc6 od6 kV6 dc6 pm6 an6 cd6 ct6 sl6) (c6:PC K cd6 "is_part") (k6:PK K f6)
 (a7:PA K "is_product" f7) (l7:PL K f7 "is_product" (ah 11) oc7 od7 kV7 dc7 pm7 an7 cd7 ct7 sl7) (c7:PC K cd7 "is_product") (k7:PK K f7)
 (a8:PA K "is_scheme" f8) (l8:PL K f8 "is_scheme" (ah 12) oc8 od8 kV8 dc8 pm8 an8 cd8 ct8 sl8) (c8:PC K cd8 "is_scheme") (k8:PK K f8)
 (a9:PA K "filled" f9) (l9:PL K f9 "filled" (ah 13) oc9 od9 kV9 dc9 pm9 an9 cd9 ct9 sl9) (c9:PC K cd9 "filled") (k9:PK K f9)
 (a10:PA K "rows_by_pairs" f10) (l10:PL K f10 "rows_by_pairs" (ah 14) oc10 od10 kV10 dc10 pm10 an10 cd10 ct10 sl10) (c10:PC K cd10 "rows_by_pairs") (k10:PK K f10)
 (a11:PA K "task_by" f11) (l11:PL K f11 "task_by" (ah 15) oc11 od11 kV11 dc11 pm11 an11 cd11 ct11 sl11) (c11:PC K cd11 "task_by") (k11:PK K f11)
 (a12:PA K "does" f12) (l12:PL K f12 "does" (ah 16) oc12 od12 kV12 dc12 pm12 an12 cd12 ct12 sl12) (c12:PC K cd12 "does") (k12:PK K f12)
 (a13:PA K "single_one" f13) (l13:PL K f13 "single_one" (ah 17) oc13 od13 kV13 dc13 pm13 an13 cd13 ct13 sl13) (c13:PC K cd13 "single_one") (k13:PK K f13)
 (a14:PA K "plain" f14) (l14:PL K f14 "plain" (ah 19) oc14 od14 kV14 dc14 pm14 an14 cd14 ct14 sl14) (c14:PC K cd14 "plain") (k14:PK K f14)
 (a15:PA K "_law_cell_at" f15) (l15:PL K f15 "_law_cell_at" (ah 21) oc15 od15 kV15 dc15 pm15 an15 cd15 ct15 sl15) (c15:PC K cd15 "_law_cell_at") (k15:PK K f15)
 (a16:PA K "_law_mixed" f16) (l16:PL K f16 "_law_mixed" (ah 22) oc16 od16 kV16 dc16 pm16 an16 cd16 ct16 sl16) (c16:PC K cd16 "_law_mixed") (k16:PK K f16)
 (a17:PA K "_law_box" f17) (l17:PL K f17 "_law_box" (ah 23) oc17 od17 kV17 dc17 pm17 an17 cd17 ct17 sl17) (c17:PC K cd17 "_law_box") (k17:PK K f17)
 (a18:PA K "_law_take" f18) (l18:PL K f18 "_law_take" (ah 24) oc18 od18 kV18 dc18 pm18 an18 cd18 ct18 sl18) (c18:PC K cd18 "_law_take") (k18:PK K f18)
 (a19:PA K "_law_number" f19) (l19:PL K f19 "_law_number" (ah 25) oc19 od19 kV19 dc19 pm19 an19 cd19 ct19 sl19) (c19:PC K cd19 "_law_number") (k19:PK K f19)
 (a20:PA K "_law_task" f20) (l20:PL K f20 "_law_task" (ah 26) oc20 od20 kV20 dc20 pm20 an20 cd20 ct20 sl20) (c20:PC K cd20 "_law_task") (k20:PK K f20)
 (a21:PA K "_law_due" f21) (l21:PL K f21 "_law_due" (ah 27) oc21 od21 kV21 dc21 pm21 an21 cd21 ct21 sl21) (c21:PC K cd21 "_law_due") (k21:PK K f21)
 (a22:PA K "law" f22) (l22:PL K f22 "law" (ah 28) oc22 od22 kV22 dc22 pm22 an22 cd22 ct22 sl22) (c22:PC K cd22 "law") (k22:PK K f22)
 (gcst0:PySem.W.nsIn K mainGlobals "LONGEST" = some (some (.int 81 gt0))) (gcst1:PySem.W.nsIn K mainGlobals "MOST_PRODUCTS" = some (some (.int 400 gt1)))
 : ∃ fd:FuncData,(∀ (s:Shared) (v:Value),BindsTo s fd ⟨[v],[]⟩ [("_law_script",v)]) /\ ∀ base:Heap,K.In base->base.Ns mainGlobals mg->cT l.prog w K mg base CX0 40 fa fd ["_law_script"] (lSp K (phi tab 40 22)):=by
 have e:=hfa.symm.trans (PySem.W.mg_of X G a22)
 cases e
 have O:wj K mg tab n9:=by
  refine ⟨fun x hx=>PySem.W.mg_none_of X G (z x hx), ?_,An, ?_⟩
  ·intro i d hd
   match i,hd with
   | 0,hd=>cases hd;exact ⟨_,_,ag l0 c0 k0,PySem.W.mg_of X G a0,(ag l0 c0 k0).binds fun _ _ _ _ _ _ us hl=>by obtain ⟨u0,u1,u2,u3,rfl⟩:=B6 us hl;rfl⟩
   | 1,hd=>cases hd;exact ⟨_,_,ag l1 c1 k1,PySem.W.mg_of X G a1,(ag l1 c1 k1).binds fun _ _ _ _ _ _ us hl=>by obtain ⟨u0,u1,u2,rfl⟩:=wk us hl;rfl⟩
   | 2,hd=>cases hd;exact ⟨_,_,ag l2 c2 k2,PySem.W.mg_of X G a2,(ag l2 c2 k2).binds fun _ _ _ _ _ _ us hl=>by obtain ⟨u0,u1,rfl⟩:=bX us hl;rfl⟩
   | 3,hd=>cases hd;exact ⟨_,_,ag l3 c3 k3,PySem.W.mg_of X G a3,(ag l3 c3 k3).binds fun _ _ _ _ _ _ us hl=>by obtain ⟨u0,u1,rfl⟩:=bX us hl;rfl⟩
   | 4,hd=>cases hd;exact ⟨_,_,ag l4 c4 k4,PySem.W.mg_of X G a4,(ag l4 c4 k4).binds fun _ _ _ _ _ _ us hl=>by obtain ⟨u0,rfl⟩:=bN us hl;rfl⟩
   | 5,hd=>cases hd;exact ⟨_,_,ag l5 c5 k5,PySem.W.mg_of X G a5,(ag l5 c5 k5).binds fun _ _ _ _ _ _ us hl=>by obtain ⟨u0,rfl⟩:=bN us hl;rfl⟩
   | 6,hd=>cases hd;exact ⟨_,_,ag l6 c6 k6,PySem.W.mg_of X G a6,(ag l6 c6 k6).binds fun _ _ _ _ _ _ us hl=>by obtain ⟨u0,u1,rfl⟩:=bX us hl;rfl⟩
   | 7,hd=>cases hd;exact ⟨_,_,ag l7 c7 k7,PySem.W.mg_of X G a7,(ag l7 c7 k7).binds fun _ _ _ _ _ _ us hl=>by obtain ⟨u0,u1,rfl⟩:=bX us hl;rfl⟩
   | 8,hd=>cases hd;exact ⟨_,_,ag l8 c8 k8,PySem.W.mg_of X G a8,(ag l8 c8 k8).binds fun _ _ _ _ _ _ us hl=>by obtain ⟨u0,rfl⟩:=bN us hl;rfl⟩
   | 9,hd=>cases hd;exact ⟨_,_,ag l9 c9 k9,PySem.W.mg_of X G a9,(ag l9 c9 k9).binds fun _ _ _ _ _ _ us hl=>by obtain ⟨u0,rfl⟩:=bN us hl;rfl⟩
   | 10,hd=>cases hd;exact ⟨_,_,ag l10 c10 k10,PySem.W.mg_of X G a10,(ag l10 c10 k10).binds fun _ _ _ _ _ _ us hl=>by obtain ⟨u0,rfl⟩:=bN us hl;rfl⟩
   | 11,hd=>cases hd;exact ⟨_,_,ag l11 c11 k11,PySem.W.mg_of X G a11,(ag l11 c11 k11).binds fun _ _ _ _ _ _ us hl=>by obtain ⟨u0,rfl⟩:=bN us hl;rfl⟩
   | 12,hd=>cases hd;exact ⟨_,_,ag l12 c12 k12,PySem.W.mg_of X G a12,(ag l12 c12 k12).binds fun _ _ _ _ _ _ us hl=>by obtain ⟨u0,u1,rfl⟩:=bX us hl;rfl⟩
   | 13,hd=>cases hd;exact ⟨_,_,ag l13 c13 k13,PySem.W.mg_of X G a13,(ag l13 c13 k13).binds fun _ _ _ _ _ _ us hl=>by obtain ⟨u0,u1,rfl⟩:=bX us hl;rfl⟩
   | 14,hd=>cases hd;exact ⟨_,_,ag l14 c14 k14,PySem.W.mg_of X G a14,(ag l14 c14 k14).binds fun _ _ _ _ _ _ us hl=>by obtain ⟨u0,rfl⟩:=bN us hl;rfl⟩
   | 15,hd=>cases hd;exact ⟨_,_,ag l15 c15 k15,PySem.W.mg_of X G a15,(ag l15 c15 k15).binds fun _ _ _ _ _ _ us hl=>by obtain ⟨u0,u1,rfl⟩:=bX us hl;rfl⟩
   | 16,hd=>cases hd;exact ⟨_,_,ag l16 c16 k16,PySem.W.mg_of X G a16,(ag l16 c16 k16).binds fun _ _ _ _ _ _ us hl=>by obtain ⟨u0,u1,rfl⟩:=bX us hl;rfl⟩
   | 17,hd=>cases hd;exact ⟨_,_,ag l17 c17 k17,PySem.W.mg_of X G a17,(ag l17 c17 k17).binds fun _ _ _ _ _ _ us hl=>by obtain ⟨u0,u1,rfl⟩:=bX us hl;rfl⟩
   | 18,hd=>cases hd;exact ⟨_,_,ag l18 c18 k18,PySem.W.mg_of X G a18,(ag l18 c18 k18).binds fun _ _ _ _ _ _ us hl=>by obtain ⟨u0,u1,rfl⟩:=bX us hl;rfl⟩
   | 19,hd=>cases hd;exact ⟨_,_,ag l19 c19 k19,PySem.W.mg_of X G a19,(ag l19 c19 k19).binds fun _ _ _ _ _ _ us hl=>by obtain ⟨u0,rfl⟩:=bN us hl;rfl⟩
   | 20,hd=>cases hd;exact ⟨_,_,ag l20 c20 k20,PySem.W.mg_of X G a20,(ag l20 c20 k20).binds fun _ _ _ _ _ _ us hl=>by obtain ⟨u0,rfl⟩:=bN us hl;rfl⟩
   | 21,hd=>cases hd;exact ⟨_,_,ag l21 c21 k21,PySem.W.mg_of X G a21,(ag l21 c21 k21).binds fun _ _ _ _ _ _ us hl=>by obtain ⟨u0,rfl⟩:=bN us hl;rfl⟩
   | 22,hd=>cases hd;exact ⟨_,_,ag l22 c22 k22,PySem.W.mg_of X G a22,(ag l22 c22 k22).binds fun _ _ _ _ _ _ us hl=>by obtain ⟨u0,rfl⟩:=bN us hl;rfl⟩
   | i+23,hd=>simp [tab] at hd
  ·intro x i hx
   simp only [n9,List.mem_cons,List.not_mem_nil,or_false,Prod.mk.injEq] at hx
   rcases hx with ⟨rfl,rfl⟩ | ⟨rfl,rfl⟩
   ·exact ⟨_,PySem.W.mg_of X G gcst0⟩
   ·exact ⟨_,PySem.W.mg_of X G gcst1⟩
 refine ⟨PySem.W.fnOf "law" "law" (cH (ah 28)) (bC (ah 28)) (au (ah 28)) .none kV22 dc22 pm22 an22 cd22 ct22,fun s v => .of_eq rfl,fun base _ _ => ?_⟩
 exact sj O 40 22 d22 _ _ rfl (ag l22 c22 k22)
theorem walk {l:PySem.W.OpenLaw} {q:Program} {loose:List Str} {XP:(Str->Option Value)->Heap->Prop} {YP:World->Heap->Prop} {d:DefRec} {K:Params->Frag} (hn:l.most=some 63) (hdf:d.params.defaults=[])
 (hlaw:∀ ns:List Int,ns.length<=63->phi tab 40 22 [.con (ns.map D.int)] (fun _=>none) fun d _=>d = .bl true)
 (hY:∀ (w:World) (h:Heap),YP w h->(K w.params).In h)
 (F:∀ (w:World) (mg:Str->Option Value) (fa:Addr) (h:Heap),(K w.params).In h->h.Ns mainGlobals mg->mg d.name=some (.ref fa) ->
   ∃ fd:FuncData,(∀ (s:Shared) (u:Value),BindsTo s fd ⟨[u],[]⟩ [("_law_script",u)]) /\ ∀ base:Heap,(K w.params).In base->base.Ns mainGlobals mg->cT l.prog w (K w.params) mg base CX0 40 fa fd ["_law_script"] (lSp (K w.params) (phi tab 40 22))) :
 PySem.W.WalkO q loose XP YP l.row.toRowW d [] (fun f vs=>PySem.call f vs) :=
 L2.walk_of (n := 63) (k := 40) (x := "_law_script") (CX:=fun _=>CX0) (sp:=fun w=>lSp (K w.params) (phi tab 40 22)) hn (by decide) hdf ⟨rfl,by decide,by decide⟩ hY F (fun w H a ns hl hO hS=>A9 hO hS (hlaw ns hl)) fun _ _ _ _ _ z=>z
end K12
end
section
namespace K12
open PySem PySem.Spec PyProof.Rows L2.Srt
noncomputable def at2 (rs:List Tm) (i j:Int):Bool:=rs.any fun t=>decide (t.1.2=(i,j))
noncomputable def pq (L0 L1 N:Nat) (rs:List Tm) (i j:Int):Pr:=(one L0 i,one L1 j,(List.range N).map fun k:Nat=>cf rs (k,i,j))
noncomputable def plJ (L0 L1 N:Nat) (rs:List Tm) (i:Nat) (l:List Nat):List Pr:=(l.filter fun j:Nat=>at2 rs i j).map fun j:Nat=>pq L0 L1 N rs i j
noncomputable def pl (L0 L1 N:Nat) (rs:List Tm) (l:List Nat):List Pr:=l.flatMap fun i=>plJ L0 L1 N rs i (List.range L1)
noncomputable def hr (rs:List Tm) (i j:Int):List Tm:=rs.filter fun t=>decide (t.1.2=(i,j))
noncomputable def kiD (t:Tm):D×D:=(.int t.1.1, .int t.2)
theorem vP {kvs:List (D×D)} (j:(kvs.map (·.1)).Nodup):pQ kvs=kvs:=by
 have g:∀ (r l:List (D×D)),(((l++r).map (·.1)).Nodup)->r.foldl (fun a kv=>bP a kv.1 kv.2) l=l++r:=by
  intro r
  induction r with
  | nil=>intro l _;simp
  | cons t r ih =>
    intro l h
    rw [List.foldl_cons]
    have e:bP l t.1 t.2=l++[t]:=by
     unfold bP
     rw [if_neg]
     intro z
     obtain ⟨p,n,e⟩:=List.any_eq_true.mp z
     rw [List.map_append,List.nodup_append] at h
     exact h.2.2 _ (List.mem_map_of_mem n) _ (List.mem_map_of_mem (List.mem_cons_self ..)) (of_decide_eq_true e)
    rw [e,ih (l++[t]) (by rw [List.append_assoc];exact h),List.append_assoc];rfl
 have:=g kvs [] (by simpa using j)
 simpa [pQ] using this
theorem oH {i j:Int}:∀ {rs:List Tm},(rs.map (·.1)).Nodup->(((hr rs i j).map kiD).map (·.1)).Nodup
 | [],_=>by simp [hr]
 | t::rs,h=>by
   rw [List.map_cons,List.nodup_cons] at h
   have ih:=oH (i:=i) (j:=j) h.2
   unfold hr at ih ⊢
   by_cases e:t.1.2=(i,j)
   ·rw [List.filter_cons_of_pos (by simpa using e),List.map_cons,List.map_cons,List.nodup_cons]
    refine ⟨fun z => ?_,ih⟩
    obtain ⟨y,B,F⟩:=List.mem_map.mp z
    obtain ⟨u,G,rfl⟩:=List.mem_map.mp B
    obtain ⟨q,n⟩:=List.mem_filter.mp G
    have n:u.1.2=(i,j):=of_decide_eq_true n
    have I:u.1.1=t.1.1:=D.int.inj F
    exact h.1 (by rw [show t.1=u.1 from Prod.ext I.symm (e.trans n.symm)];exact List.mem_map_of_mem q)
   ·rw [List.filter_cons_of_neg (by simpa using e)];exact ih
theorem t7 {i j k:Int}:∀ {rs:List Tm},(rs.map (·.1)).Nodup->(dget ((hr rs i j).map kiD) (.int k)).getD (.int 0) = .int (cf rs (k,i,j))
 | [],_=>rfl
 | t::rs,h=>by
   rw [List.map_cons,List.nodup_cons] at h
   have ih:=t7 (i:=i) (j:=j) (k:=k) h.2
   rw [aN]
   unfold hr at ih ⊢
   by_cases e:t.1.2=(i,j)
   ·rw [List.filter_cons_of_pos (by simpa using e),List.map_cons]
    by_cases n:t.1.1=k
    ·have et:t.1=(k,i,j):=Prod.ext n e
     have z:cf rs (k,i,j)=0:=dU fun u q eu=>h.1 (by rw [et, <- eu];exact List.mem_map_of_mem q)
     rw [if_pos et,z]
     unfold dget
     rw [List.find?_cons_of_pos (by simp [kiD,n])]
     simp [kiD]
    ·rw [if_neg (fun z=>n (congrArg (·.1) z)),Int.zero_add, <- ih]
     unfold dget
     rw [List.find?_cons_of_neg (by simp [kiD,n])]
   ·rw [List.filter_cons_of_neg (by simpa using e),if_neg (fun z=>e (congrArg (·.2) z)),Int.zero_add];exact ih
theorem Ao {rs:List Tm} {i j:Int}:(!(((hr rs i j).map kiD).length==0))=at2 rs i j:=by
 rw [List.length_map]
 unfold hr at2
 cases e:rs.any fun t=>decide (t.1.2=(i,j)) with
 | true =>
   obtain ⟨t,n,h⟩:=List.any_eq_true.mp e
   have : 0 < (rs.filter fun t=>decide (t.1.2=(i,j))).length:=List.length_pos_of_mem (List.mem_filter.mpr ⟨n,h⟩)
   have h2:((rs.filter fun t=>decide (t.1.2=(i,j))).length==0)=false:=by rw [beq_eq_false_iff_ne];lia
   rw [h2];rfl
 | false =>
   have:(rs.filter fun t=>decide (t.1.2=(i,j)))=[]:=List.filter_eq_nil_iff.mpr fun t n z=>by
    have:=(List.any_eq_true (p:=fun t:Tm=>decide (t.1.2=(i,j)))).mpr ⟨t,n,z⟩
    rw [this] at e;cases e
   rw [this];rfl
theorem fF {L0 L1 N:Nat} {rs:List Tm}:∀ {l:List Nat},(pl L0 L1 N rs l).length<=l.length*L1
 | [] => by simp [pl]
 | i::l=>by
   have ih:=fF (L0:=L0) (L1:=L1) (N:=N) (rs:=rs) (l:=l)
   have h1:(plJ L0 L1 N rs i (List.range L1)).length<=L1:=by
    unfold plJ;rw [List.length_map]
    exact Nat.le_trans (List.length_filter_le _ _) (by simp)
   unfold pl at ih ⊢
   rw [List.flatMap_cons,List.length_append,List.length_cons,Nat.succ_mul]
   lia
theorem t8 {Φ:Phi} {ρ:aq} {L:Nat} {i:Int} (B:L<=1000) {vi vl:Nat} (ei : ρ[vi]? = some (some (.int i))) (el : ρ[vl]? = some (some (.int L))) {x y:Str} {M:Mem} {Q:QD} (q:∀ M',Ge M M'->Q (.tup ((one L i).map .int)) M') :
 wE Φ (.blt .tuple (.cons (.comp [none,(some vi)] [x,y] (.last (.rng1 (.var vl)) (.name 0) .nil (.blt .int (.cons (.cmp .eq (.var 0) (.var 1)) .nil)))) .nil)) ρ M Q:=by
 walk_at "wp"
 rw [ei]
 refine ⟨_,el,_,rfl,by lia,by lia, ?_⟩
 rw [Int.toNat_natCast]
 refine aB (f:=fun i=>D.int (i:Nat)) (ys:=List.range L) (I:=fun l ρ M' acc=>(∃ o0, ρ = [o0,some (.int i)])/\M'=M/\acc=(l.map fun h=>if ((h:Nat):Int)=i then (1:Int) else 0).map .int) aH ⟨⟨_,rfl⟩,rfl,rfl⟩ (fun _ _ _ _ _=>trivial) ?_ ?_
 ·rintro l k r ρ M1 acc e ⟨⟨o0,rfl⟩,rfl,rfl⟩
  refine ⟨_,rfl,fun N' j => ?_⟩
  have n:=am e
  rw [List.length_range] at n
  walk_at "wp"
  refine ⟨by rw [List.length_map,List.length_map,sizeLine_eq];lia,j _ _ _ ⟨⟨_,rfl⟩,rfl, ?_⟩⟩
  simp
 ·rintro ρ M1 acc ⟨⟨o0,rfl⟩,rfl,rfl⟩ p z
  exact ⟨_,_,rfl,ai ad,q _ (Ge.new z)⟩
theorem Ap {n:Nat} (hn : 1<=n) {L0 L1 N:Nat} (h0:L0<=100) (h1:L1<=100) (hN:N<=100) {pt:Addr} {rs:List Tm} {M:Mem} {Q:QD} (ept:M pt=some (.lst (rs.map tmD))) (BP:(rs.map (·.1)).Nodup) (hl:rs.length<=100000)
 (q:∀ p M',Ge M M'->M p=none->M' p=some (.lst ((pl L0 L1 N rs (List.range L0)).map prD))->Q (.tup [.int L0, .int L1, .int N, .ref p]) M'):phi tab n 21 [.tup [.int L0, .int L1, .int N, .ref pt]] M Q:=by
 refine aA (by lia) rfl rfl (ρ := [some _,none,none,none,none,none,none,none,none,none,none]) rfl ?_
 unfold d21 b21
 walk_at "st"
 walk_at "st"
 refine ⟨by rw [sizeLine_eq];lia,fun pp J => ?_⟩
 have g0:=Ge.new (o := .lst []) J
 have e0:=ad (M:=M) (a:=pp) (o := .lst [])
 generalize af M pp (.lst [])=M0 at g0 e0 ⊢
 have BX:pt≠pp:=fun z=>by rw [z,J] at ept;cases ept
 walk_at "st"
 refine ⟨by lia,by lia, ?_⟩
 rw [Int.toNat_natCast]
 refine bj (I:=fun l ρ M' => ∃ o6 S U Y B, ρ = [some (.tup [.int L0, .int L1, .int N, .ref pt]),some (.int L0),some (.int L1),some (.int N),some (.ref pt),some (.ref pp),o6,S,U,Y,B]/\Ge M M'/\M' pp=some (.lst ((pl L0 L1 N rs l).map prD))) aH ⟨_,_,_,_,_,rfl,g0,e0⟩ (fun _ _ _ _=>trivial) ?_ ?_
 ·rintro l i r ρ M1 e ⟨o6,S,U,Y,B,rfl,g1,e1⟩
  refine ⟨_,rfl,fun F hF => ?_⟩
  walk_at "st"
  refine ⟨by lia,by lia, ?_⟩
  rw [Int.toNat_natCast]
  refine bj (I:=fun l' ρ M' => ∃ S U Y B, ρ = [some (.tup [.int L0, .int L1, .int N, .ref pt]),some (.int L0),some (.int L1),some (.int N),some (.ref pt),some (.ref pp),some (.int i),S,U,Y,B]/\Ge M M'/\M' pp=some (.lst ((pl L0 L1 N rs l).map prD++(plJ L0 L1 N rs i l').map prD))) aH ⟨_,_,_,_,rfl,g1,by rw [e1];simp [plJ]⟩ (fun _ _ _ _=>trivial) ?_ ?_
  ·rintro l' j r' ρ M2 e' ⟨S,U,Y,B,rfl,g2,G⟩
   refine ⟨_,rfl,fun F2 BQ => ?_⟩
   walk_at "st"
   refine ⟨_,ai (g2 _ _ ept), ?_⟩
   refine aB (f:=tmD) (ys:=rs) (I:=fun l ρ M' acc=>(∃ o0 o1 o2 o3, ρ = [o0,o1,o2,o3,some (.int i),some (.int j)])/\M'=M2/\acc=((hr l i j).map kiD).map fun kv => .tup [kv.1,kv.2]) rfl ⟨⟨_,_,_,_,rfl⟩,rfl,rfl⟩ (fun _ _ _ _ h=>by rw [h.2.1];exact ai (g2 _ _ ept)) ?_ ?_
   ·rintro lt t rt ρ M3 acc et ⟨⟨o0,o1,o2,o3,rfl⟩,rfl,rfl⟩
    refine ⟨_,rfl,fun N' L => ?_⟩
    have BR:=am et
    have BU:(hr lt i j).length<=lt.length:=List.length_filter_le _ _
    walk_at "wp"
    refine ⟨by rw [sizeLine_eq];lia,by rw [sizeLine_eq];lia,_,_,rfl,rfl, ?_⟩
    rw [show PyData.eqv (.tuple [.int t.1.2.1, .int t.1.2.2]) (.tuple [.int i, .int j])=decide (t.1.2=((i:Int),(j:Int))) from by
     simp [PyData.eqv,PyData.eqvAll,Prod.ext_iff,Bool.decide_and];rfl]
    refine ⟨_,rfl, ?_⟩
    by_cases O:t.1.2=((i:Int),(j:Int))
    ·rw [if_pos (by simpa using O)]
     refine ⟨by rw [sizeLine_eq];lia,by rw [List.length_map,List.length_map,sizeLine_eq];lia,L _ _ _ ⟨⟨_,_,_,_,rfl⟩,rfl, ?_⟩⟩
     unfold hr
     rw [List.filter_append,List.filter_cons_of_pos (by simpa using O)];simp [kiD]
    ·rw [if_neg (by simpa using O)]
     refine L _ _ _ ⟨⟨_,_,_,_,rfl⟩,rfl, ?_⟩
     unfold hr
     rw [List.filter_append,List.filter_cons_of_neg (by simpa using O)];simp
   ·rintro ρ M3 acc ⟨_,rfl,rfl⟩ p3 hp3
    have BU:(hr rs i j).length<=rs.length:=List.length_filter_le _ _
    refine ⟨p3,_,rfl,ad,fun kv BV => ?_,by rw [List.length_map,sizeLine_eq];lia,fun p4 BW => ?_⟩
    ·obtain ⟨t,_,rfl⟩:=List.mem_map.mp BV
     rfl
    rw [vP (oH BP)]
    have g4:=(Ge.new (o := .lst (((hr rs i j).map kiD).map fun kv:D×D => .tup [kv.1,kv.2])) hp3).trans (Ge.new (o := .dct false ((hr rs i j).map kiD)) BW)
    have R:=ad (M:=af M3 p3 (.lst (((hr rs i j).map kiD).map fun kv:D×D => .tup [kv.1,kv.2]))) (a:=p4) (o := .dct false ((hr rs i j).map kiD))
    generalize af (af M3 p3 (.lst (((hr rs i j).map kiD).map fun kv:D×D => .tup [kv.1,kv.2]))) p4 (.dct false ((hr rs i j).map kiD))=M4 at g4 R ⊢
    have G:=g4 _ _ G
    have g4:=g2.trans g4
    dsimp only
    rw [aP]
    walk_at "wp"
    refine fun p5 BS=>⟨p4,p5,_,rfl,rfl,(Ge.new BS) _ _ R,ad, ?_⟩
    have Z:=Ge.new (o := .dct false []) BS
    have R:=Z _ _ R
    have G:=Z _ _ G
    generalize af M4 p5 (.dct false [])=M5 at Z R G ⊢
    have Z:=g4.trans Z
    rw [Ao]
    refine ⟨_,rfl, ?_⟩
    by_cases O:at2 rs i j=true
    ·rw [if_pos O,aP]
     refine t8 (x := "") (y := "") (by lia) rfl rfl fun M6 g6=>⟨_,rfl, ?_⟩
     dsimp only
     rw [aP]
     refine t8 (x := "") (y := "") (by lia) rfl rfl fun M7 g7=>⟨_,rfl, ?_⟩
     have g7:=g6.trans g7
     have R:=g7 _ _ R
     have G:=g7 _ _ G
     have g7:=Z.trans g7
     dsimp only
     rw [aP]
     walk_at "wp"
     refine ⟨⟨_,G⟩,by lia,by lia, ?_⟩
     rw [Int.toNat_natCast]
     refine aB (f:=fun i=>D.int (i:Nat)) (ys:=List.range N) (I:=fun l ρ M' acc=>(∃ o0, ρ = [o0,some (.ref p4)])/\M'=M7/\acc=(l.map fun k:Nat=>cf rs (k,i,j)).map .int) aH ⟨⟨_,rfl⟩,rfl,rfl⟩ (fun _ _ _ _ _=>trivial) ?_ ?_
     ·rintro lk k rk ρ M8 acc ek ⟨⟨o0,rfl⟩,rfl,rfl⟩
      refine ⟨_,rfl,fun N' L => ?_⟩
      have BR:=am ek
      rw [List.length_range] at BR
      walk_at "wp"
      refine ⟨⟨_,_,R⟩,_,_,R,rfl, ?_⟩
      rw [t7 BP]
      exact ⟨by rw [List.length_map,List.length_map,sizeLine_eq];lia,L _ _ _ ⟨⟨_,rfl⟩,rfl,by simp⟩⟩
     ·rintro ρ M8 acc ⟨⟨o0,rfl⟩,rfl,rfl⟩ p8 hp8
      have g8:=Ge.new (o := .lst (((List.range N).map fun k:Nat=>cf rs (k,i,j)).map D.int)) hp8
      refine ⟨_,_,rfl,ai ad,by rw [sizeLine_eq];lia, ?_⟩
      refine ⟨pp,_,_,rfl,rfl,g8 _ _ G, ?_, ?_⟩
      ·have h2:=fF (L0:=L0) (L1:=L1) (N:=N) (rs:=rs) (l:=l)
       have h3:(plJ L0 L1 N rs i l').length<=l'.length:=by unfold plJ;rw [List.length_map];exact List.length_filter_le _ _
       have h4:=am e
       have h5:=am e'
       rw [List.length_range] at h4 h5
       have h6:l.length*L1<=100*100:=Nat.mul_le_mul (by lia) h1
       rw [List.length_append,List.length_map,List.length_map,sizeLine_eq];lia
      ·refine BQ _ _ ⟨_,_,_,_,rfl,(g7.trans g8).upd J, ?_⟩
       rw [ad]
       unfold plJ
       rw [List.filter_append,List.filter_cons_of_pos (by simpa using O)]
       simp [pq,prD]
    ·rw [if_neg O]
     refine BQ _ _ ⟨_,_,_,_,rfl,Z, ?_⟩
     rw [G]
     unfold plJ
     rw [List.filter_append,List.filter_cons_of_neg (by simpa using O)];simp
  ·rintro ρ M2 ⟨S,U,Y,B,rfl,g2,G⟩
   dsimp only
   walk_at "wp"
   refine hF _ _ ⟨_,_,_,_,_,rfl,g2, ?_⟩
   rw [G, <- List.map_append];unfold pl;rw [List.flatMap_append];simp
 ·rintro ρ M1 ⟨o6,S,U,Y,B,rfl,g1,e1⟩
  dsimp only
  walk_at "st"
  exact ⟨by rw [sizeLine_eq];lia,q pp M1 g1 J e1⟩
theorem oI {L i:Nat} (h:i < L):ixN L (i:Nat)=some i:=by
 unfold ixN;simp;lia
theorem iW {n:Nat} (O : 1<=n) {L:Nat} (R:L<=1000) {i:Int} (h0 : 0<=i) (h1:i < L) {M:Mem} {Q:QD} (q:∀ p M',Ge M M'->M p=none->M' p=some (.lst ((one L i).map .int))->Q (.ref p) M'):phi tab n 13 [.int L, .int i] M Q:=by
 refine aA (by lia) rfl rfl (ρ := [some _,some _,none]) rfl ?_
 unfold d13 b13
 walk_at "st"
 refine ⟨by rw [sizeLine_eq];lia,fun I G => ?_⟩
 have g1:=Ge.new (o := .lst [.int 0]) G
 refine ⟨_,ad,by lia,by lia,by rw [sizeLine_eq];simp;lia,fun p2 F => ?_⟩
 have g2:=g1.trans (Ge.new (o := .lst (List.replicate (L:Int).toNat [D.int 0]).flatten) F)
 have B:M p2=none:=by
  cases hq:M p2 with
  | none=>rfl
  | some o=>rw [g1 _ _ hq] at F;cases F
 have J:af (af M I (.lst [.int 0])) p2 (.lst (List.replicate (L:Int).toNat [D.int 0]).flatten) p2=some (.lst ((List.replicate L (0:Int)).map .int)):=by
  rw [ad,vC];simp
 generalize af (af M I (.lst [.int 0])) p2 (.lst (List.replicate (L:Int).toNat [D.int 0]).flatten)=M2 at g2 J ⊢
 walk_at "st"
 refine de J (j:=i.toNat) ?_ ?_
 ·rw [List.length_map,List.length_replicate]
  obtain ⟨k,rfl⟩:=Int.eq_ofNat_of_zero_le h0
  exact oI (by lia)
 ·walk_at "st"
  refine q p2 _ (g2.upd B) B ?_
  rw [ad]
  obtain ⟨k,rfl⟩:=Int.eq_ofNat_of_zero_le h0
  congr 2
  rw [<- List.map_set (f:=D.int) (a := 1)]
  congr 1
  unfold one
  apply List.ext_getElem?
  intro m
  rw [List.getElem?_set,List.getElem?_map,List.getElem?_replicate]
  by_cases hm:m < L
  ·rw [List.getElem?_range hm]
   by_cases e:m=k
   ·subst e;simp [hm]
   ·rw [if_neg (by simpa using fun z=>e z.symm)]
    simp [hm];lia
  ·rw [List.getElem?_eq_none (by simp;lia)]
   rw [if_neg (by simp;lia),if_neg hm];rfl
noncomputable def lt2 (a b:K2):Prop:=a.1 < b.1∨(a.1=b.1/\a.2 < b.2)
theorem BN {a b:K2} (h:lt2 a b):ltK (kyD (k2D a)) (kyD (k2D b))=true:=by
 unfold ltK
 have e:ak (kyD (k2D a)) (kyD (k2D b))=(ak (.int a.1) (.int b.1)).then ((ak (.int a.2) (.int b.2)).then .eq):=by
  show ak (.tup [.int a.1, .int a.2]) (.tup [.int b.1, .int b.2])=_
  conv=>lhs;unfold ak
  simp only [cmpKs]
 rw [e]
 simp only [ak]
 rcases h with h | ⟨h1,h2⟩
 ·rw [if_pos h];rfl
 ·rw [if_neg (by lia),if_pos h1,if_pos h2];rfl
noncomputable def gr (rs:List Tm) (L1:Nat) (l:List Nat):List K2:=l.flatMap fun i:Nat=>((List.range L1).filter fun j:Nat=>at2 rs i j).map fun j:Nat=>((i:Int),(j:Int))
theorem iX {L0 L1 N:Nat} {rs:List Tm} {l:List Nat}:pl L0 L1 N rs l=(gr rs L1 l).map fun k=>pq L0 L1 N rs k.1 k.2:=by
 unfold pl gr plJ
 rw [List.map_flatMap]
 simp [List.map_map,Function.comp_def]
theorem gr_lt {rs:List Tm} {L1 L0:Nat}:(gr rs L1 (List.range L0)).Pairwise lt2:=by
 unfold gr
 rw [List.pairwise_flatMap]
 refine ⟨fun i _ => ?_, ?_⟩
 ·rw [List.pairwise_map]
  refine (List.pairwise_lt_range.filter _).imp ?_
  intro a b h
  exact .inr ⟨rfl,by dsimp only;lia⟩
 ·refine List.pairwise_lt_range.imp ?_
  intro a b h x hx y j
  obtain ⟨_,_,rfl⟩:=List.mem_map.mp hx
  obtain ⟨_,_,rfl⟩:=List.mem_map.mp j
  exact .inl (by dsimp only;lia)
theorem fG {rs:List Tm} {L0 L1 N:Nat} (n:InB rs L0 L1 N) {k:K2}:k∈gr rs L1 (List.range L0)↔at2 rs k.1 k.2=true:=by
 unfold gr
 constructor
 ·intro h
  obtain ⟨i,hi,h⟩:=List.mem_flatMap.mp h
  obtain ⟨j,z,rfl⟩:=List.mem_map.mp h
  exact (List.mem_filter.mp z).2
 ·intro h
  have h':=h
  unfold at2 at h'
  obtain ⟨t,q,e⟩:=List.any_eq_true.mp h'
  have e:t.1.2=(k.1,k.2):=of_decide_eq_true e
  have b1:=n.i t q
  have b2:=n.j t q
  rw [e] at b1 b2
  refine List.mem_flatMap.mpr ⟨k.1.toNat,List.mem_range.mpr (by dsimp only at b1;lia),List.mem_map.mpr ⟨k.2.toNat,List.mem_filter.mpr ⟨List.mem_range.mpr (by dsimp only at b2;lia), ?_⟩, ?_⟩⟩
  ·rw [Int.toNat_of_nonneg b1.1,Int.toNat_of_nonneg b2.1];exact h
  ·rw [Int.toNat_of_nonneg b1.1,Int.toNat_of_nonneg b2.1]
theorem Be {rs:List Tm} {L0 L1 N:Nat} (F:InB rs L0 L1 N) {R:List (K2×Addr)} (G:(R.map (·.1)).Nodup) (I:∀ i j,(i,j)∈R.map (·.1)↔at2 rs i j=true) {ys:List D} (q:ys.Perm ((R.map raD).map (·.1))) (hs:cy ys):ys=(gr rs L1 (List.range L0)).map k2D:=by
 have J:(R.map raD).map (·.1)=(R.map (·.1)).map k2D:=by rw [List.map_map,List.map_map];rfl
 rw [J] at q
 obtain ⟨ks,B,p2⟩:=cn k2D q rfl
 have n:ks.Nodup:=B.nodup_iff.mpr G
 rw [<- p2]
 congr 1
 unfold cy at hs
 rw [<- p2,List.pairwise_map] at hs
 refine jk (lt:=lt2) (fun a b h1 h2 => ?_) ((hs.and (List.nodup_iff_pairwise_ne.mp n)).imp ?_) gr_lt fun x => ?_
 ·unfold lt2 at h1 h2;lia
 ·rintro a b ⟨h1,h2⟩
  unfold lt2
  by_cases h3:lt2 b a
  ·rw [BN h3] at h1;cases h1
  ·unfold lt2 at h3
   by_cases h4:a.1=b.1
   ·have:a.2≠b.2:=fun z=>h2 (Prod.ext h4 z)
    lia
   ·lia
 ·rw [fG F,B.mem_iff];exact I x.1 x.2
theorem nc {n:Nat} (hn : 2<=n) {L0 L1 N:Nat} (h0:L0<=100) (h1:L1<=100) (hN:N<=100) {pt:Addr} {rs:List Tm} {M:Mem} {Q:QD} (ept:M pt=some (.lst (rs.map tmD))) (BP:(rs.map (·.1)).Nodup) (hB:InB rs L0 L1 N) (hl:rs.length<=100000)
 (q:∀ p M',Ge M M'->M p=none->M' p=some (.lst ((pl L0 L1 N rs (List.range L0)).map prD))->Q (.tup [.int L0, .int L1, .int N, .ref p]) M'):phi tab n 14 [.tup [.int L0, .int L1, .int N, .ref pt]] M Q:=by
 refine aA (by lia) rfl rfl (ρ := [some _,none,none,none,none,none,none,none,none,none,none]) rfl ?_
 unfold d14 b14
 walk_at "st"
 walk_at "st"
 intro d hd
 have g0:=Ge.new (o := .dct true []) hd
 have d0:=ad (M:=M) (a:=d) (o := .dct true [])
 generalize af M d (.dct true [])=M0 at g0 d0 ⊢
 walk_at "st"
 refine ⟨_,ai (g0 _ _ ept), ?_⟩
 have C7:pt≠d:=fun z=>by rw [z,hd] at ept;cases ept
 refine bj (f:=tmD) (ys:=rs) (I:=fun l ρ M' => ∃ R g o6 o7 o8 o9 L, ρ = [some (.tup [.int L0, .int L1, .int N, .ref pt]),some (.int L0),some (.int L1),some (.int N),some (.ref pt),some (.ref d),o6,o7,o8,o9,L]/\Ge M M'/\RI d N M' R g/\(∀ r∈R,M r.2=none)/\R.length<=l.length/\(∀ k i j,gz (g (i,j)) k=cf l (k,i,j)) /\ ∀ i j,(i,j)∈R.map (·.1)↔at2 l i j=true) rfl ⟨[],fun _=>List.replicate N 0,_,_,_,_,_,rfl,g0,⟨d0,by simp,by simp,by simp,by simp,by simp,fun _ _=>rfl⟩,by simp,by simp,fun k i j=>by rw [n0,cr],by simp [at2]⟩ (fun l ρ M' ⟨_,_,_,_,_,_,_,_,g,_⟩=>ai (g _ _ ept)) ?_ ?_
 ·rintro l t r ρ S e ⟨R,g,o6,o7,o8,o9,L,rfl,g1,J,fr,BW,hg,hk⟩
  refine ⟨_,rfl,fun F hF => ?_⟩
  have BX:=am e
  have BY:t∈rs:=by rw [e];simp
  have tB:=hB.k t BY
  have BZ:cf l t.1=0:=by
   refine dU fun u hu eu => ?_
   rw [e,List.map_append,List.map_cons] at BP
   exact (List.nodup_append.mp BP).2.2 _ (List.mem_map_of_mem hu) _ (List.mem_cons_self ..) eu
  have ek:D.tup [D.int t.1.2.1,D.int t.1.2.2]=k2D t.1.2:=rfl
  refine mP (fun ρ M' => ρ = [some (.tup [.int L0, .int L1, .int N, .ref pt]),some (.int L0),some (.int L1),some (.int N),some (.ref pt),some (.ref d),some (.int t.1.1),some (.int t.1.2.1),some (.int t.1.2.2),some (.int t.2),L] /\ ∃ R',RI d N M' R' g/\Run d R S R' M'/\(∀ r∈R,r∈R')/\R'.length<=R.length+1/\(∀ k,k∈R'.map (·.1)↔k∈R.map (·.1)∨k=t.1.2)) (fun RR hR => ?_) ?_
  ·walk_at "wp"
   refine ⟨by rw [sizeLine_eq];lia,d,true,_,rfl,J.dct,rfl, ?_⟩
   walk_at "wp"
   rw [ek]
   by_cases G:t.1.2∈R.map (·.1)
   ·obtain ⟨a,ha,e⟩:=dX G
    rw [e]
    walk_at "wp"
    exact hR _ _ ⟨rfl,R,J,Run.refl,fun r h=>h,by lia,fun k=>⟨.inl,fun z=>z.elim id fun z=>by rw [z];exact G⟩⟩
   ·rw [oE G]
    walk_at "wp"
    rw [aP]
    walk_at "wp"
    refine ⟨by rw [sizeLine_eq];lia,fun p1 C0 => ?_⟩
    have BQ:=Ge.new (o := .lst [.int 0]) C0
    refine ⟨_,ad,by lia,by lia,by rw [sizeLine_eq];simp;lia,fun p2 U => ?_⟩
    have g2:=BQ.trans (Ge.new (o := .lst (List.replicate (N:Int).toNat [D.int 0]).flatten) U)
    have BR:S p2=none:=by
     cases hq:S p2 with
     | none=>rfl
     | some o=>rw [BQ _ _ hq] at U;cases U
    have e2:af (af S p1 (.lst [.int 0])) p2 (.lst (List.replicate (N:Int).toNat [D.int 0]).flatten) p2=some (.lst ((List.replicate N (0:Int)).map .int)):=by
     rw [ad,vC];simp
    generalize af (af S p1 (.lst [.int 0])) p2 (.lst (List.replicate (N:Int).toNat [D.int 0]).flatten)=M2 at g2 e2
    refine ⟨by rw [sizeLine_eq];lia,gO (g2 _ _ J.dct) rfl (by rw [List.length_map,sizeLine_eq];lia) ?_⟩
    rw [ek,oF G]
    obtain ⟨B,r2⟩:=J.new G g2 BR e2
    exact hR _ _ ⟨rfl,_,B,r2,fun r h=>List.mem_append_left _ h,by simp,fun k=>by simp⟩
  ·rintro ρ M2 ⟨rfl,R',B,r2,sub,C8,BS⟩
   rw [aP]
   walk_at "wp"
   refine ⟨by rw [sizeLine_eq];lia, ?_⟩
   rw [ek]
   obtain ⟨a,O,ea⟩:=dX ((BS t.1.2).mpr (.inr rfl))
   refine mK B.dct rfl ea ?_
   obtain ⟨kn,ekn⟩:=Int.eq_ofNat_of_zero_le tB.1
   have BU:kn < N:=by lia
   rw [ekn]
   refine de (B.row _ O) (j:=kn) (by rw [List.length_map,B.ln];exact oI BU) ?_
   obtain ⟨I3,r3⟩:=B.put O (row:=(g t.1.2).set kn t.2) (by rw [List.length_set];exact B.ln _)
   rw [show ((g t.1.2).map D.int).set kn (.int t.2)=((g t.1.2).set kn t.2).map D.int from List.map_set.symm]
   have rr:=r2.trans (g:=g) r3 B sub
   refine hF _ _ ⟨R',_,_,_,_,_,_,rfl, ?_,I3,fun r hr => ?_,by simp;lia,fun k i j => ?_,fun i j => ?_⟩
   ·intro b o hb
    refine rr.kp b o (fun z=>by rw [z,hd] at hb;cases hb) (fun z => ?_) (g1 _ _ hb)
    obtain ⟨r,hr,rfl⟩:=List.mem_map.mp z
    rw [fr r hr] at hb;cases hb
   ·rcases rr.ex r hr with h | h
    ·exact fr r h
    ·cases hz:M r.2 with
     | none=>rfl
     | some o=>rw [g1 _ _ hz] at h;cases h
   ·rw [dz,aN,cr]
    by_cases h:(i,j)=t.1.2
    ·rw [if_pos h,sY (by rw [B.ln];exact BU)]
     by_cases h3:k=kn
     ·have et:t.1=(k,i,j):=Prod.ext (ekn.trans h3.symm) h.symm
      rw [if_pos h3,if_pos et, <- et,BZ];lia
     ·rw [if_neg h3,if_neg (fun z=>h3 ((congrArg (·.1) z).symm.trans ekn)), <- h,hg];lia
    ·rw [if_neg h,if_neg (fun z=>h (congrArg (·.2) z).symm),hg];lia
   ·rw [BS,hk]
    unfold at2
    rw [List.any_append,List.any_cons,List.any_nil,Bool.or_false,Bool.or_eq_true]
    exact or_congr Iff.rfl ⟨fun z=>by simp [z],fun z=>(of_decide_eq_true z).symm⟩
 ·rintro ρ S ⟨R,g,o6,o7,o8,o9,L,rfl,g1,J,fr,BW,hg,hk⟩
  dsimp only
  rw [aP]
  walk_at "wp"
  refine ⟨d,true,_, .tup [.int, .int],rfl,J.dct,rfl,fun kv C1 => ?_,fun ps ys C2 Y BV => ?_⟩
  ·obtain ⟨t,_,rfl⟩:=List.mem_map.mp C1
   rfl
  have ey:=Be hB J.keys hk Y BV
  subst ey
  have g2:=Ge.new (o := .lst ((gr rs L1 (List.range L0)).map k2D)) C2
  have e2:=ad (M:=S) (a:=ps) (o := .lst ((gr rs L1 (List.range L0)).map k2D))
  have B:=J.ge g2
  have g2:=g1.trans g2
  generalize af S ps (.lst ((gr rs L1 (List.range L0)).map k2D))=M2 at g2 e2 B ⊢
  refine ⟨_,ai e2, ?_⟩
  refine aB (f:=k2D) (ys:=gr rs L1 (List.range L0)) (I:=fun l ρ M' acc=>(∃ o0 o1, ρ = [o0,o1,some (.int L0),some (.int L1),some (.ref d)])/\Ge M2 M'/\acc=(l.map fun k=>pq L0 L1 N rs k.1 k.2).map prD) rfl ⟨⟨_,_,rfl⟩,Ge.refl,rfl⟩ (fun _ _ _ _ h=>ai (h.2.1 _ _ e2)) ?_ ?_
  ·rintro lk k rk ρ M3 acc ek ⟨⟨o0,o1,rfl⟩,g3,rfl⟩
   refine ⟨_,rfl,fun N' C3 => ?_⟩
   have C4:k∈gr rs L1 (List.range L0):=by rw [ek];simp
   have Z:=(fG hB).mp C4
   have C5:=(hk k.1 k.2).mpr Z
   have BX:=am ek
   have C6:=fF (L0:=L0) (L1:=L1) (N:=N) (rs:=rs) (l:=List.range L0)
   rw [iX,List.length_map,List.length_range] at C6
   have h6:L0*L1<=100*100:=Nat.mul_le_mul h0 h1
   unfold at2 at Z
   obtain ⟨t,ht,et⟩:=List.any_eq_true.mp Z
   have et:t.1.2=(k.1,k.2):=of_decide_eq_true et
   have b1:=hB.i t ht
   have b2:=hB.j t ht
   rw [et] at b1 b2
   walk_at "wp"
   refine iW (by lia) (by lia) b1.1 b1.2 fun p4 M4 g4 _ e4=>⟨_,_,rfl,ai e4, ?_⟩
   refine iW (by lia) (by lia) b2.1 b2.2 fun p5 M5 g5 _ e5=>⟨_,_,rfl,ai e5, ?_⟩
   have g5:=(g3.trans g4).trans g5
   have I5:=B.ge g5
   obtain ⟨a,O,ea⟩:=dX C5
   refine ⟨by rw [sizeLine_eq];lia,mK I5.dct rfl ea ⟨_,_,rfl,ai (I5.row _ O), ?_⟩⟩
   refine ⟨by rw [sizeLine_eq];lia,by rw [List.length_map,List.length_map,sizeLine_eq];lia,C3 _ _ _ ⟨⟨_,_,rfl⟩,g5, ?_⟩⟩
   rw [List.map_append,List.map_append]
   congr 1
   have eg:g (k.1,k.2)=(List.range N).map fun m:Nat=>cf rs (m,k.1,k.2):=by
    apply List.ext_getElem?
    intro m
    rw [List.getElem?_map]
    by_cases hm:m < N
    ·rw [List.getElem?_range hm,sZ (by rw [J.ln];exact hm),hg];rfl
    ·rw [List.getElem?_eq_none (by rw [J.ln];lia),List.getElem?_eq_none (by simp;lia)];rfl
   show [D.tup [_,_,D.tup ((g (k.1,k.2)).map D.int)]]=_
   rw [eg];rfl
  ·rintro ρ M3 acc ⟨⟨o0,o1,rfl⟩,g3,rfl⟩ p6 hp6
   have g6:=Ge.new (o := .lst (((gr rs L1 (List.range L0)).map fun k=>pq L0 L1 N rs k.1 k.2).map prD)) hp6
   walk_at "st"
   refine ⟨by rw [sizeLine_eq];lia,q p6 _ ((g2.trans g3).trans g6) ?_ (by rw [ad,iX])⟩
   cases hz:M p6 with
   | none=>rfl
   | some o=>rw [(g2.trans g3) _ _ hz] at hp6;cases hp6
theorem oJ {n:Nat} (j : 1<=n):wt tab n 16:=fun q=>vB (s:=ah 22) rfl j q
theorem b6 {n:Nat} (j : 2<=n):sM tab n 18:=fun hb h1 h2 q=>yo (s:=ah 24) (fm := 16) rfl (oJ (by lia)) j hb h1 h2 q
structure GT (L0 L1 N:Nat) (ts rs:List Tm):Prop where
 t:IsTask ts rs
 hb:∀ t∈ts,(0<=t.1.1/\t.1.1 < N)/\(0<=t.1.2.1/\t.1.2.1 < L0)/\(0<=t.1.2.2/\t.1.2.2 < L1) /\ -1000<=t.2/\t.2<=1000
 hl:ts.length<=100
 l0 : 1<=L0/\L0<=9
 l1 : 1<=L1/\L1<=9
 lN : 1<=N/\N<=17
theorem GT.inB {L0 L1 N:Nat} {ts rs:List Tm} (h:GT L0 L1 N ts rs):InB rs L0 L1 N:=yA h.t (fun t j=>⟨(h.hb t j).1,(h.hb t j).2.1,(h.hb t j).2.2.1,by have:=(h.hb t j).2.2.2;lia⟩) (by have:=h.hl;lia)
theorem GT.bd {L0 L1 N:Nat} {ts rs:List Tm} (h:GT L0 L1 N ts rs) (k:K3) : -1000000000000<=cf rs k/\cf rs k<=1000000000000:=by
 rw [h.t.cf]
 obtain ⟨h1,h2⟩:=mQ (ts:=ts) (B := 1000) (by lia) (fun t j=>(h.hb t j).2.2.2) (k:=k)
 have:=h.hl
 lia
theorem wx {L0 L1 N:Nat} {rs:List Tm} {k i j:Int}:∀ {ks:List K2},ks.Nodup->(∀ x∈ks,(0<=x.1/\x.1 < L0)/\(0<=x.2/\x.2 < L1))->Tn (ks.map fun x=>pq L0 L1 N rs x.1 x.2) k i j=if (i,j)∈ks then gz ((List.range N).map fun m:Nat=>cf rs (m,i,j)) k else 0
 | [],_,_=>by simp [Tn]
 | x::ks,n,hb=>by
   rw [List.nodup_cons] at n
   have ih:=wx (N:=N) (rs:=rs) (k:=k) (i:=i) (j:=j) n.2 fun y q=>hb y (by simp [q])
   obtain ⟨b1,b2⟩:=hb x (by simp)
   rw [List.map_cons,yC,ih]
   unfold pq
   dsimp only
   rw [t5 b1.1 b1.2,t5 b2.1 b2.2]
   by_cases e:(i,j)=x
   ·subst e
    rw [if_pos rfl,if_pos rfl,if_neg n.1,if_pos (by simp)];simp
   ·have hm:((i,j)∈x::ks)↔(i,j)∈ks:=⟨fun z=>by rcases List.mem_cons.mp z with z | z;exact absurd z e;exact z,fun z=>List.mem_cons_of_mem _ z⟩
    have B:(if i=x.1 then (1:Int) else 0)*(if j=x.2 then 1 else 0)=0:=by
     by_cases e1:i=x.1
     ·rw [if_neg (fun z=>e (Prod.ext e1 z))];simp
     ·rw [if_neg e1];simp
    rw [B]
    simp only [hm];simp
theorem Aq {a b:K2} (h:lt2 a b):a≠b:=fun z=>by subst z;unfold lt2 at h;lia
theorem Bf {L0 L1 N:Nat} {rs:List Tm} (n:InB rs L0 L1 N) {k i j:Int}:Tn (pl L0 L1 N rs (List.range L0)) k i j=cf rs (k,i,j):=by
 have B:∀ x∈gr rs L1 (List.range L0),(0<=x.1/\x.1 < L0)/\(0<=x.2/\x.2 < L1):=fun x hx=>by
  have h:=(fG n).mp hx
  unfold at2 at h
  obtain ⟨t,q,e⟩:=List.any_eq_true.mp h
  have e:t.1.2=(x.1,x.2):=of_decide_eq_true e
  have b1:=n.i t q
  have b2:=n.j t q
  rw [e] at b1 b2
  exact ⟨b1,b2⟩
 rw [iX,wx (List.nodup_iff_pairwise_ne.mpr (gr_lt.imp Aq)) B]
 have out:(¬ (0<=k/\k < N)∨at2 rs i j≠true)->cf rs (k,i,j)=0:=fun h=>dU fun t q e=>by
  rcases h with h | h
  ·have:=n.k t q
   rw [e] at this
   exact h this
  ·exact h (List.any_eq_true.mpr ⟨t,q,by simp [e]⟩)
 by_cases h:at2 rs i j=true
 ·rw [if_pos ((fG n).mpr h)]
  by_cases hk : 0<=k/\k < N
  ·obtain ⟨m,rfl⟩:=Int.eq_ofNat_of_zero_le hk.1
   have hm:m < N:=by lia
   unfold gz
   rw [if_neg (by lia),Int.toNat_natCast,List.getD_eq_getElem?_getD,List.getElem?_map,List.getElem?_range hm];rfl
  ·rw [out (.inl hk)]
   apply Classical.byContradiction
   intro z
   have:=sW z
   simp at this
   exact hk this
 ·rw [if_neg (fun z=>h ((fG n).mp z)),out (.inr h)]
theorem kD {L0 L1 N:Nat} {ts rs:List Tm} (h:GT L0 L1 N ts rs):∀ p∈pl L0 L1 N rs (List.range L0),Pf L0 L1 N p:=fun p j=>by
 rw [iX] at j
 obtain ⟨k,_,rfl⟩:=List.mem_map.mp j
 have ob:∀ {L:Nat} {i:Int},Big (one L i):=fun {L i} x hx=>by
  unfold one at hx
  obtain ⟨m,_,rfl⟩:=List.mem_map.mp hx
  split <;> lia
 refine ⟨ob,ob,fun x hx => ?_,jt,jt,by simp [pq]⟩
 obtain ⟨m,_,rfl⟩:=List.mem_map.mp hx
 exact h.bd _
theorem t9 {i:Int}:∀ L:Nat,(nz (one L i)).length<=if i < L then 1 else 0
 | 0=>by simp [one,nz,idx]
 | L+1=>by
   have ih:=t9 (i:=i) L
   have e:one (L+1) i=one L i++[if ((L:Nat):Int)=i then 1 else 0]:=by unfold one;rw [List.range_succ,List.map_append];rfl
   have j:idx (one (L+1) i)=idx (one L i)++[(((L:Nat):Int),if ((L:Nat):Int)=i then 1 else 0)]:=by
    rw [e];unfold idx;rw [List.mapIdx_append];simp [jt]
   unfold nz at ih ⊢
   rw [j,List.filter_append,List.length_append]
   by_cases h:((L:Nat):Int)=i
   ·rw [if_neg (by lia)] at ih
    rw [if_pos h,if_pos (by lia)]
    have:([(((L:Nat):Int),(1:Int))].filter fun q => !(q.2==0)).length=1:=rfl
    lia
   ·rw [if_neg h]
    have:([(((L:Nat):Int),(0:Int))].filter fun q => !(q.2==0)).length=0:=rfl
    by_cases h2:i < (L:Nat)
    ·rw [if_pos h2] at ih;rw [if_pos (by lia)];lia
    ·rw [if_neg h2] at ih;lia
theorem tf {L:Nat} {i:Int}:(nz (one L i)).length<=1:=by
 have:=t9 (i:=i) L
 split at this <;> lia
theorem Bg {L0 L1 N:Nat} {rs:List Tm}:∀ p∈pl L0 L1 N rs (List.range L0),(nz p.1).length*(nz p.2.1).length<=1:=fun p j=>by
 rw [iX] at j
 obtain ⟨k,_,rfl⟩:=List.mem_map.mp j
 exact Nat.mul_le_mul tf tf
theorem yG {n:Nat} (J : 4<=n) {L0 L1 N:Nat} {ts rs:List Tm} (h:GT L0 L1 N ts rs) {pp pt:Addr} {M:Mem} {Q:QD} (ep:M pp=some (.lst ((pl L0 L1 N rs (List.range L0)).map prD))) (et:M pt=some (.lst (rs.map tmD))) (q:∀ M',Ge M M'->Q (.bl true) M'):phi tab n 12 [.tup [.int L0, .int L1, .int N, .ref pp], .tup [.int L0, .int L1, .int N, .ref pt]] M Q:=by
 refine aA (by lia) rfl rfl (ρ := [some _,some _]) rfl ?_
 unfold d12 b12
 walk_at "st"
 have h0:=h.l0
 have h1:=h.l1
 have G:=h.lN
 have z:=fF (L0:=L0) (L1:=L1) (N:=N) (rs:=rs) (l:=List.range L0)
 rw [List.length_range] at z
 have L:L0*L1<=9*9:=Nat.mul_le_mul h0.2 h1.2
 have O:(pl L0 L1 N rs (List.range L0)).length*1*N<=81*1*17:=Nat.mul_le_mul (Nat.mul_le_mul (by lia) (by lia)) G.2
 refine nE (B := 1) (s:=ah 15) (sk:=ah 1) (sf:=ah 13) (sr:=ah 14) rfl rfl rfl rfl (by lia) ep (by lia) (by lia) (by lia) (by lia) (by lia) (kD h) Bg fun ts' rs' p' M' I F g' _ e' => ?_
 have er:rs'=rs:=I.uniq h.t fun k=>by
  obtain ⟨k,i,j⟩:=k
  rw [F,Bf h.inB,h.t.cf]
 subst er
 refine ⟨_,_,oA e',oA (g' _ _ et), ?_⟩
 rw [vJ]
 exact q _ g'
theorem ng {n:Nat} (B : 2<=n) {b:Addr} {m:Int} (hm : 1<=m/\m<=100) {ρ:aq} (eb : ρ[0]? = some (some (.ref b))) {x y:Str} {M:Mem} {Q:QD} (hb:Box b M)
 (q:∀ (u v w:Nat) p M',(1<=u/\(u:Int)<=m)->(1<=v/\(v:Int)<=m)->(1<=w/\(w:Int)<=m)->Box b M'->p≠b->M' p=some (.lst [.int u, .int v, .int w])->Q (.ref p) M') :
 wE (phi tab n) (.comp [none,(some 0)] [x,y] (.last (.rng1 (.int 3)) (.name 0) .nil (.bin .add (.int 1) (.call 18 (.cons (.var 1) (.cons (.int m) .nil)))))) ρ M Q:=by
 have j:∀ r:Int,0<=r->r < m -> ∃ u:Nat,1+r=(u:Int)/\1<=u/\(u:Int)<=m:=fun r h0 h1=>⟨(1+r).toNat,by lia,by lia,by lia⟩
 walk_at "wp"
 rw [eb]
 refine ⟨by decide,by decide,trivial,_,rfl, ?_⟩
 walk_at "wp"
 refine b6 B hb (by lia) (by lia) fun I Y z a1 J => ?_
 obtain ⟨u,eu,L⟩:=j I z a1
 walk_at "wp"
 refine ⟨by rw [sizeLine_eq];simp,trivial,_,rfl, ?_⟩
 walk_at "wp"
 refine b6 B J.box (by lia) (by lia) fun O M2 z a1 R => ?_
 obtain ⟨v,ev,S⟩:=j O z a1
 walk_at "wp"
 refine ⟨by rw [sizeLine_eq];simp,trivial,_,rfl, ?_⟩
 walk_at "wp"
 refine b6 B R.box (by lia) (by lia) fun U Z z a1 F => ?_
 obtain ⟨w,ew,hw⟩:=j U z a1
 walk_at "wp"
 refine ⟨by rw [sizeLine_eq];simp,trivial,fun p G => ?_⟩
 rw [eu,ev,ew]
 exact q u v w p _ L S hw (Bx.of F.box (Ge.new G)).box (mW F.box G) ad
theorem wy {Φ:Phi} {g:MG} {e:ME} {r:MSs} {E:ba} {ρ:aq} {M:Mem} (h:wE Φ e ρ M fun x j => ∃ ρ',bG g x ρ = some ρ'/\wSs Φ r E ρ' j):wSs Φ (.cons (.asg g e) r) E ρ M:=by
 rw [aP];exact h
theorem vQ {n:Nat} (hn : 4<=n) {b:Addr} {M:Mem} {Q:QD} (hb:Box b M) (q:∀ L0 L1 N ts rs pt M',GT L0 L1 N ts rs->M' pt=some (.lst (rs.map tmD))->Q (.tup [.int (L0:Nat), .int (L1:Nat), .int (N:Nat), .ref pt]) M'):phi tab n 20 [.ref b] M Q:=by
 refine aA (by lia) rfl rfl (ρ := [some _,none,none,none,none,none,none]) rfl ?_
 unfold d20 b20
 walk_at "st"
 refine b6 (by lia) hb (by decide) (by decide) fun way M1 w0 w1 x1 => ?_
 have hb:=x1.box
 clear x1
 refine wy (ng (n:=n - 1) (m := 3) (x := "") (y := "") (by lia) (by decide) rfl hb fun u v w pz M2 R hv hw hb C6 ez=>⟨_,rfl, ?_⟩)
 have R : 1<=u/\u<=3:=by lia
 have hv : 1<=v/\v<=3:=by lia
 have hw : 1<=w/\w<=3:=by lia
 have lineC:∀ (x y:Nat) (M3:Mem),(1<=x/\x<=9)->(1<=y/\y<=9)->phi tab (n - 1) 2 [.int (x:Nat), .int (y:Nat)] M3 Q:=fun x y M3 hx hy=>by
  refine yw (s:=ah 3) (s':=ah 1) (ft := 0) rfl rfl (by lia) (by lia) (by lia) fun rs pt S U g4 _ e4 => ?_
  have BU:x*y<=9*9:=Nat.mul_le_mul hx.2 hy.2
  have:=q x y (x+y - 1) (eN x y) rs pt S ⟨U,fun t Y => ?_,by rw [show (eN x y).length=x*y from eP];lia,hx,hy,by lia⟩ e4
  ·rw [show ((x+y - 1:Nat):Int)=(x:Int)+y - 1 by lia] at this;exact this
  ·obtain ⟨i,j,hi,hj,rfl⟩:=mY Y
   unfold eM
   dsimp only;exact ⟨by lia,by lia,by lia,by decide,by decide⟩
 walk_at "st"
 split
 ·walk_at "st"
  refine aK ez rfl (aK ez rfl (aK ez rfl ?_))
  refine vL (s:=ah 2) (s':=ah 1) (ft := 0) rfl rfl (by lia) (by lia) (by lia) (by lia) fun rs pt S U g4 _ e4 => ?_
  have a1:u*v<=3*3:=Nat.mul_le_mul R.2 hv.2
  have a2:v*w<=3*3:=Nat.mul_le_mul hv.2 hw.2
  have a3:u*w<=3*3:=Nat.mul_le_mul R.2 hw.2
  have a4:u*(v*w)<=3*9:=Nat.mul_le_mul R.2 a2
  have b1 : 1<=u*v:=Nat.mul_le_mul R.1 hv.1
  have b2 : 1<=v*w:=Nat.mul_le_mul hv.1 hw.1
  have b3 : 1<=u*w:=Nat.mul_le_mul R.1 hw.1
  refine q _ _ _ (fE u v w) rs pt S ⟨U,fun t Y => ?_, ?_,⟨b1,by lia⟩,⟨b2,by lia⟩,⟨b3,by lia⟩⟩ e4
  ·obtain ⟨a,b,c,ha,hb,hc,rfl⟩:=yB Y
   have c1:=mZ ha hc
   have c2:=mZ ha hb
   have c3:=mZ hb hc
   unfold gQ
   dsimp only
   exact ⟨by lia,by lia,by lia,by decide,by decide⟩
  ·unfold fE
   rw [jm,List.length_range];lia
 ·walk_at "st"
  split
  ·walk_at "st"
   refine aK ez rfl (aK ez rfl ?_)
   exact lineC u v _ (by lia) (by lia)
  ·walk_at "st"
   split
   ·walk_at "st"
    refine aK ez rfl ?_
    refine ⟨by rw [sizeLine_eq];lia,fun pc BR => ?_⟩
    have g3:=Ge.new (o := .lst [.int 1, .int (-1)]) BR
    have ec:=ad (M:=M2) (a:=pc) (o := .lst [.int 1, .int (-1)])
    have BV:=mW hb BR
    generalize af M2 pc (.lst [.int 1, .int (-1)])=M3 at g3 ec ⊢
    refine b6 (by lia) (Bx.of hb g3).box (by decide) (by decide) fun rr S r0 r1 x4 => ?_
    have ec:=x4.keep _ _ BV ec
    have ringC:∀ (tn:Int),(tn=1∨tn = -1)->phi tab (n - 1) 3 [.int (u:Nat), .int tn] S Q:=fun tn C7=>by
     refine yz (s:=ah 4) (s':=ah 1) (ft := 0) rfl rfl (by lia) (by lia) fun rs pt M5 U g5 _ e5 => ?_
     have BU:u*u<=3*3:=Nat.mul_le_mul R.2 R.2
     refine q u u u (eO u tn) rs pt M5 ⟨U,fun t Y => ?_,by rw [show (eO u tn).length=u*u from eP];lia,by lia,by lia,by lia⟩ e5
     obtain ⟨i,j,hi,hj,rfl⟩:=mY Y
     unfold dA;split
     ·dsimp only;exact ⟨by lia,by lia,by lia,by decide,by decide⟩
     ·dsimp only;exact ⟨by lia,by lia,by lia,by lia,by lia⟩
    have:rr=0∨rr=1:=by lia
    rcases this with rfl | rfl
    ·exact aK ec rfl (ringC 1 (.inl rfl))
    ·exact aK ec rfl (ringC (-1) (.inr rfl))
   ·walk_at "st"
    split
    ·walk_at "st"
     refine b6 (by lia) hb (by decide) (by decide) fun r1 S a0 a1 x4 => ?_
     walk_at "wp"
     refine b6 (by lia) x4.box (by decide) (by decide) fun r2 M5 c0 c1 x5 => ?_
     walk_at "wp"
     have:=lineC (7+r1).toNat (7+r2).toNat M5 (by lia) (by lia)
     rw [Int.toNat_of_nonneg (by lia),Int.toNat_of_nonneg (by lia)] at this
     exact this
    ·clear lineC
     refine wy (ng (n:=n - 1) (m := 6) (x := "") (y := "") (by lia) (by decide) rfl hb fun L0 L1 N pl' M3 h0 h1 hN hb G epl=>⟨_,rfl, ?_⟩)
     walk_at "st"
     refine ⟨by rw [sizeLine_eq];lia,fun pt Z => ?_⟩
     have g4:=Ge.new (o := .lst []) Z
     have et:=ad (M:=M3) (a:=pt) (o := .lst [])
     have J:=mW hb Z
     have BW:pl'≠pt:=fun z=>by rw [z,Z] at epl;cases epl
     generalize af M3 pt (.lst [])=S at g4 et ⊢
     have epl:=g4 _ _ epl
     have hb:=(Bx.of hb g4).box
     walk_at "st"
     refine b6 (by lia) hb (by decide) (by decide) fun c M5 c0 c1 x5=>⟨c,rfl,by lia,by lia, ?_⟩
     have et:=x5.keep _ _ J et
     have epl:=x5.keep _ _ G epl
     have hb:=x5.box
     refine bj (I:=fun l ρ M' => ∃ (o5 o6:Option D) (ts:List Tm), ρ = [some (.ref b),some (.int way),some (.ref pz),some (.ref pl'),some (.ref pt),o5,o6]/\Box b M'/\M' pl'=some (.lst [.int L0, .int L1, .int N])/\M' pt=some (.lst (ts.map tmD))/\ts.length=l.length /\ ∀ t∈ts,(0<=t.1.1/\t.1.1 < (N:Int))/\(0<=t.1.2.1/\t.1.2.1 < (L0:Int))/\(0<=t.1.2.2/\t.1.2.2 < (L1:Int)) /\ -1000<=t.2/\t.2<=1000) aH ⟨_,_,[],rfl,hb,epl,et,rfl,by simp⟩ (fun _ _ _ _=>trivial) ?_ ?_
     ·rintro l k r ρ M6 e ⟨o5,o6,ts,rfl,BS,B,O,BP,BQ⟩
      refine ⟨_,rfl,fun F hF => ?_⟩
      have BX:=am e
      rw [List.length_range] at BX
      walk_at "st"
      refine aK B rfl (b6 (by lia) BS (by lia) (by lia) fun k1 M7 BY BZ x7 => ?_)
      refine aK (x7.keep _ _ G B) rfl (b6 (by lia) x7.box (by lia) (by lia) fun i1 M8 C0 C1 x8 => ?_)
      have x8:=x7.trans x8
      refine aK (x8.keep _ _ G B) rfl (b6 (by lia) x8.box (by lia) (by lia) fun j1 M9 C2 C3 x9 => ?_)
      have x9:=x8.trans x9
      refine ⟨by rw [sizeLine_eq];lia, ?_⟩
      walk_at "st"
      refine ⟨⟨_,x9.keep _ _ J O⟩, ?_⟩
      refine sN (s:=ah 25) (ft := 18) rfl (b6 (by lia)) (by lia) x9.box fun c1 C8 C4 C5 L => ?_
      have L:=x9.trans L
      refine ⟨by rw [sizeLine_eq];lia, ?_⟩
      walk_at "wp"
      refine ⟨.inr trivial,by rw [sizeLine_eq];lia,pt,_,_,rfl,rfl,L.keep _ _ J O,by rw [List.length_map,sizeLine_eq];lia, ?_⟩
      refine hF _ _ ⟨_,_,ts++[((k1,i1,j1),c1)],rfl, ?_, ?_, ?_,by simp [BP],fun t Y => ?_⟩
      ·obtain ⟨u,v,w,eb⟩:=L.box
       exact ⟨u,v,w,by rw [av (Ne.symm J)];exact eb⟩
      ·rw [av BW];exact L.keep _ _ G B
      ·rw [ad,List.map_append];rfl
      ·rcases List.mem_append.mp Y with h | h
       ·exact BQ t h
       ·simp at h
        subst h
        exact ⟨⟨BY,BZ⟩,⟨C0,C1⟩,⟨C2,C3⟩,C4,C5⟩
     ·rintro ρ M6 ⟨o5,o6,ts,rfl,BS,B,O,BP,BQ⟩
      dsimp only
      rw [List.length_range] at BP
      walk_at "st"
      refine aK B rfl (aK B rfl (aK B rfl ?_))
      refine dW (s:=ah 1) rfl (by lia) (ai O) (by lia) fun rs p' M7 U g7 _ e7 => ?_
      exact q L0 L1 N ts rs p' M7 ⟨U,BQ,by lia,by lia,by lia,by lia⟩ e7
theorem wz {M:Mem} {p:Addr} {ts:List Tm} (h:M p=some (.lst (ts.map tmD))):rb 16 M (.ref p)=some (.list (ts.map cb)):=by rw [mN h,mX];rfl
theorem law_holds (ns:List Int) (hl:ns.length<=63):phi tab 40 22 [.con (ns.map D.int)] (fun _=>none) fun d _=>d = .bl true:=by
 refine aA (by lia) rfl rfl (ρ := [some _,none,none,none,none]) rfl ?_
 unfold d22 b22
 walk_at "st"
 rw [List.length_map]
 refine ⟨by split <;> lia,by split <;> lia, ?_⟩
 refine bj (I:=fun l ρ M' => ∃ J O R S, ρ = [some (.con (ns.map D.int)),J,O,R,S]) aH ⟨_,_,_,_,rfl⟩ (fun _ _ _ hI=>trivial) ?_ ?_
 ·rintro l k r ρ M8 e ⟨J,O,R,S,rfl⟩
  refine ⟨_,rfl,fun F hF => ?_⟩
  walk_at "st"
  refine Ag (s:=ah 23) (fc := 15) (fm := 16) (sc:=ah 21) rfl rfl (oJ (by lia)) (by lia) (by lia) fun b x y BQ => ?_
  refine vQ (by lia) ⟨_,_,_,ad⟩ fun L0 L1 N ts rs pt M0 j et => ?_
  have h0:=j.l0
  have h1:=j.l1
  have hN:=j.lN
  have BR:rs.length<=100:=Nat.le_trans j.t.len j.hl
  have U:=fF (L0:=L0) (L1:=L1) (N:=N) (rs:=rs) (l:=List.range L0)
  rw [List.length_range] at U
  have hm:L0*L1<=9*9:=Nat.mul_le_mul h0.2 h1.2
  walk_at "st"
  refine nc (by lia) (by lia) (by lia) (by lia) et j.t.nodup j.inB (by lia) fun pf M1 g1 npf ef => ?_
  have q:pt≠pf:=fun z=>by rw [z,npf] at et;cases et
  have et:=g1 _ _ et
  walk_at "st"
  refine Ap (by lia) (by lia) (by lia) (by lia) et j.t.nodup (by lia) fun pd M2 g2 nd ed => ?_
  have et:=g2 _ _ et
  have Y:pd≠pf:=fun z=>by rw [z,ef] at nd;cases nd
  have ef:=g2 _ _ ef
  walk_at "st"
  refine ww rfl rfl rfl ef ed ⟨false,rfl, ?_⟩
  rw [if_neg (by decide)]
  walk_at "wp"
  refine yF (s:=ah 12) (sl:=ah 9) (sq:=ah 11) (sp:=ah 10) (sn:=ah 8) (fl := 5) (fq := 7) (fp := 6) (fn := 4) rfl rfl rfl rfl rfl (by lia) (by lia) (by lia) (by lia) (by lia) (fun p B=>⟨(kD j p B).l1,(kD j p B).l2,(kD j p B).l3⟩) ef fun M3 g3=>⟨_,rfl,_,rfl, ?_⟩
  rw [if_neg (by decide)]
  have et:=g3 _ _ et
  have ef:=g3 _ _ ef
  have ed:=g3 _ _ ed
  refine yG (by lia) j ef et fun Z g4=>⟨_,rfl,_,rfl, ?_⟩
  rw [if_neg (by decide)]
  have et:=g4 _ _ et
  have ef:=g4 _ _ ef
  have ed:=g4 _ _ ed
  walk_at "st"
  refine ⟨_,rfl,⟨_,rfl,_,ef⟩,pf,_,_,rfl,rfl,ef,by rw [List.length_map,sizeLine_eq];lia, ?_⟩
  have et:af Z pf (.lst ((pl L0 L1 N rs (List.range L0)).map prD++[.non])) pt=_:=(av q).trans et
  have ed:af Z pf (.lst ((pl L0 L1 N rs (List.range L0)).map prD++[.non])) pd=_:=(av Y).trans ed
  generalize af Z pf (.lst ((pl L0 L1 N rs (List.range L0)).map prD++[.non]))=M5 at et ed ⊢
  walk_at "st"
  refine nc (by lia) (by lia) (by lia) (by lia) et j.t.nodup j.inB (by lia) fun BS M6 g6 _ BP => ?_
  have et:=g6 _ _ et
  have ed:=g6 _ _ ed
  refine ww rfl rfl rfl BP ed ⟨false,rfl, ?_⟩
  rw [if_neg (by decide)]
  walk_at "wp"
  refine ⟨_,rfl,_,rfl, ?_⟩
  refine ⟨_,_, .tup [.int, .int, .int, .int],rfl,ai et,rfl,fun d hd => ?_,fun p ys B n G => ?_⟩
  ·obtain ⟨t,_,rfl⟩:=List.mem_map.mp hd
   rfl
  obtain ⟨L,pL,eL⟩:=cn tmD n rfl
  subst eL
  have er:L=rs:=(nD pL G j.t.nodup j.t.nz).uniq j.t fun k=>j.t.cf k
  subst er
  have g7:=Ge.new (o := .lst (L.map tmD)) B
  refine ⟨_,_,wz (g7 _ _ et),wz ad, ?_⟩
  rw [show PyData.eqv (.list (L.map cb)) (.list (L.map cb))=true by simp [PyData.eqv,jl]]
  refine ⟨_,rfl, ?_⟩
  rw [if_neg (by decide)]
  exact hF _ _ ⟨_,_,_,_,rfl⟩
 ·rintro ρ M8 ⟨J,O,R,S,rfl⟩
  dsimp only
  walk_at "st"
end K12
end
end
end Mi
end
end L2
namespace PySem.W.Fast
theorem tw12833068772528373402:True:=trivial
theorem tw6248295009673441841:True:=trivial
theorem tw16101804872688740283:True:=trivial
theorem tw14089280254331341612:True:=trivial
theorem tw8533890217830762905:True:=trivial
theorem tw3695726089158853505:True:=trivial
theorem tw9862932887803429545:True:=trivial
theorem tw12602628561869037327:True:=trivial
theorem tw13999059266228433316:True:=trivial
theorem tw15038678040176857929:True:=trivial
theorem tw15337998044296942522:True:=trivial
theorem tw14176289711075562799:True:=trivial
theorem tw14559335661762452794:True:=trivial
theorem tw16408472058976108865:True:=trivial
theorem tw11203426966864362114:True:=trivial
theorem tw12518769416169551503:True:=trivial
theorem tw1961686669895409855:True:=trivial
theorem tw16541399061149967024:True:=trivial
theorem tw2678693692942589079:True:=trivial
theorem tw207447556510301599:True:=trivial
theorem tw12285852034976720138:True:=trivial
theorem tw14118067761665924535:True:=trivial
theorem tw13309266365281693721:True:=trivial
theorem tw12881526433227082451:True:=trivial
theorem tw14495451929547390845:True:=trivial
theorem tw6905731827276924869:True:=trivial
theorem tw17342586079247063667:True:=trivial
theorem tw7764539627922279188:True:=trivial
theorem tw10632253910351013299:True:=trivial
theorem tw7840107923735682890:True:=trivial
theorem tw14009325617756661627:True:=trivial
theorem tw11065452539614826613:True:=trivial
theorem tw430138752171148282:True:=trivial
theorem tw2670318023628295191:True:=trivial
theorem tw10295533001416203654:True:=trivial
theorem tw17220507594624000806:True:=trivial
theorem tw10188433368449281812:True:=trivial
theorem tw15896664990736197488:True:=trivial
theorem tw10487477909343200828:True:=trivial
theorem tw3101319867162126159:True:=trivial
theorem tw13174320583037456725:True:=trivial
theorem tw10254668721111679071:True:=trivial
theorem tw6566804563588394203:True:=trivial
theorem tw7301168325981749503:True:=trivial
theorem tw14245085646876107080:True:=trivial
theorem tw16387414463369052445:True:=trivial
theorem tw7936323434944566481:True:=trivial
theorem tw10238245343121584845:True:=trivial
theorem tw16334876826897582396:True:=trivial
theorem tw13242600523474056553:True:=trivial
theorem tw18171959005594694684:True:=trivial
theorem tw871581626790809089:True:=trivial
theorem tw13898091734938066086:True:=trivial
theorem tw13802582844745476284:True:=trivial
theorem tw11788300040597287209:True:=trivial
theorem tw4038680734129124475:True:=trivial
theorem tw17600163813623694378:True:=trivial
end PySem.W.Fast
open PySem.W in
set_option maxRecDepth 100000 in
set_option maxHeartbeats 0 in
theorem PySem.Challenge.cw_fewtimes_k12_plain_schemes_holds : PySem.Challenge.rw_fewtimes_k12_plain_schemes.Holds := by
 w_on;o_law;k_head;(case hw=>w_witness2)
 k_fill
 refine L2.Mi.K12.walk (l:=PySem.Challenge.rw_fewtimes_k12_plain_schemes) rfl rfl L2.Mi.K12.law_holds (fun w h Y=>PySem.W.kIn_of Y) ?F
 case F =>
  intro w mg fa h KX G hmg
  refine' L2.Mi.K12.all_mk KX G hmg ?z ?_ ?_ ?_ ?_ ?_ ?_ ?_ ?_ ?_ ?_ ?_ ?_ ?_ ?_ ?_ ?_ ?_ ?_ ?_ ?_ ?_ ?_ ?_ ?_ ?_ ?_ ?_ ?_ ?_ ?_ ?_ ?_ ?_ ?_ ?_ ?_ ?_ ?_ ?_ ?_ ?_ ?_ ?_ ?_ ?_ ?_ ?_ ?_ ?_ ?_ ?_ ?_ ?_ ?_ ?_ ?_ ?_ ?_ ?_ ?_ ?_ ?_ ?_ ?_ ?_ ?_ ?_ ?_ ?_ ?_ ?_ ?_ ?_ ?_ ?_ ?_ ?_ ?_ ?_ ?_ ?_ ?_ ?_ ?_ ?_ ?_ ?_ ?_ ?_ ?_ ?_ ?_ ?_ ?_
  case z =>
   intro x hx
   simp only [L2.Mi.bltNames,List.mem_cons,List.not_mem_nil,or_false] at hx
   rcases hx with rfl | rfl | rfl | rfl | rfl | rfl | rfl | rfl | rfl | rfl | rfl | rfl | rfl | rfl | rfl | rfl | rfl | rfl | rfl | rfl <;> k_is
  all_goals try (show _=_;k_is)
