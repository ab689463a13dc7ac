import PyProof.Rows.All
import Wide.All
import OpenK.AllK
import Wide.FinOn
import Lean
import PyProof.EqAt
import PyProof.EqKinds
import PyProof.TupleCall
import PyProof.ZipIter
import PyProof.EnumMake
import PyProof.EnumFor
import PyProof.CollectIter
import PyProof.Rows.SeqMore
import PyProof.ConsumeWalk
import PyProof.Rows.SortShellK
import PyProof.DictItems
import PyProof.DictWalks
import PyProof.AttrMissHeap
import PyProof.DictIter
import PyProof.MaxThree
import PyProof.SeqI3
import KE.KDictOf
import PySem.Challenge.RW_fewtimes_k17_tables_within
set_option Elab.async false
set_option linter.all false
set_option compiler.extract_closed false
set_option genSizeOf false
set_option bootstrap.genMatcherCode false
set_option maxRecDepth 100000
set_option maxHeartbeats 4000000
open PySem.W (Frag)
namespace L2
open PySem PySem.Spec PyProof.Rows
section
noncomputable abbrev Key:=Sum Int Str
noncomputable def fQ:Key->Value->Bool
 | .inl k,v=>Value.isInt k v
 | .inr x,v=>Value.isStrOf x v
noncomputable def Cw (w:World):Key->Int
 | .inl k=>hashInt k
 | .inr x=>hashStr w x
theorem aS:∀ {k:Key} {v:Value},fQ k v=true->(∃ i t,k=Sum.inl i/\v=Value.int i t)∨(∃ x t,k=Sum.inr x/\v=Value.str x t)
 | .inl i,v,h=>by
  obtain ⟨t,e⟩:=Value.isInt_shape (k:=i) (v:=v) h
  exact .inl ⟨i,t,rfl,e⟩
 | .inr x,v,h=>by
  obtain ⟨t,e⟩:=Value.isStrOf_shape (x:=x) (v:=v) h
  exact .inr ⟨x,t,rfl,e⟩
theorem rH (i:Int) (t:Tok):fQ (.inl i) (.int i t)=true:=by simp [fQ,Value.isInt]
theorem rJ (x:Str) (t:Tok):fQ (.inr x) (.str x t)=true:=by simp [fQ,Value.isStrOf]
theorem zV (a b:Int):decide ((Sum.inl a:Key)=Sum.inl b)=(a==b):=by
 by_cases e:a=b
 ·subst e;simp
 ·have h : ¬ (Sum.inl a:Key)=Sum.inl b:=fun q=>e (Sum.inl.inj q)
  rw [decide_eq_false h]
  exact (beq_eq_false_iff_ne.mpr e).symm
theorem zW (a b:Str):decide ((Sum.inr a:Key)=Sum.inr b)=decide (a=b):=by
 by_cases e:a=b
 ·subst e;simp
 ·have h : ¬ (Sum.inr a:Key)=Sum.inr b:=fun q=>e (Sum.inr.inj q)
  rw [decide_eq_false h,decide_eq_false e]
theorem zX (a:Int) (b:Str):decide ((Sum.inl a:Key)=Sum.inr b)=false:=decide_eq_false (fun q=>nomatch q)
theorem zY (a:Str) (b:Int):decide ((Sum.inr a:Key)=Sum.inl b)=false:=decide_eq_false (fun q=>nomatch q)
noncomputable def aF (prog:Program) (w:World):PySem.KeyKind prog w Key where
 is:=fQ
 hash:=Cw w
 inj:=fun v a b ha hb=>by
  rcases aS ha with ⟨i,t,rfl,rfl⟩ | ⟨x,t,rfl,rfl⟩
  ·rcases aS hb with ⟨j,u,rfl,e⟩ | ⟨y,u,rfl,e⟩
   ·injection e with e1 _;rw [e1]
   ·exact nomatch e
  ·rcases aS hb with ⟨j,u,rfl,e⟩ | ⟨y,u,rfl,e⟩
   ·exact nomatch e
   ·injection e with e1 _;rw [e1]
 byValue:=fun k v h=>by
  rcases aS h with ⟨i,t,rfl,rfl⟩ | ⟨x,t,rfl,rfl⟩ <;> rfl
 pyHash:=fun hv h=>by
  rcases aS hv with ⟨i,t,rfl,rfl⟩ | ⟨x,t,rfl,rfl⟩
  ·exact wpAny_pyHash_int h
  ·exact wpAny_pyHash_str h
 eqBool:=fun hu hv h=>by
  rcases aS hu with ⟨i,t,rfl,rfl⟩ | ⟨x,t,rfl,rfl⟩
  ·rcases aS hv with ⟨j,u,rfl,rfl⟩ | ⟨y,u,rfl,rfl⟩
   ·rw [zV] at h;exact wpAny_eqBool_int h
   ·rw [zX] at h;exact SeqAt.EqAt.int_str i t y u _ _ _ _ h
  ·rcases aS hv with ⟨j,u,rfl,rfl⟩ | ⟨y,u,rfl,rfl⟩
   ·rw [zY] at h;exact SeqAt.EqAt.str_int x t j u _ _ _ _ h
   ·rw [zW] at h;exact wpAny_eqBool_str h
 «strs» := fun k x t v h=>by
  rcases aS h with ⟨i,u,rfl,e⟩ | ⟨y,u,rfl,e⟩
  ·exact nomatch e
  ·injection e with e1 _
   subst e1
   cases v <;> rfl
theorem nW (prog:Program) (w:World) (i:Int) (t:Tok):(aF prog w).is (.inl i) (.int i t)=true:=rH i t
theorem nX (prog:Program) (w:World) (x:Str) (t:Tok):(aF prog w).is (.inr x) (.str x t)=true:=rJ x t
end
section
inductive V where
 | non | bl (b:Bool) | int (i:Int) | str (x:Str) | byt (b:Array UInt8) | flt (b:UInt64) | ref (a:Addr) | ty (n:String)
 deriving DecidableEq
noncomputable def RelV:V->Value->Prop
 | .non,u=>u=Value.none
 | .bl b,u=>u=Value.bool b
 | .int i,u => ∃ t,u=Value.int i t
 | .str x,u => ∃ t,u=Value.str x t
 | .byt b,u => ∃ t,u=Value.bytes b t
 | .flt b,u => ∃ t,u=Value.float b t
 | .ref a,u=>u=Value.ref a
 | .ty n,u=>u=Value.type n
noncomputable abbrev Vals:List V->List Value->Prop:=Paired RelV
theorem Vals.length {xs:List V} {us:List Value} (r:Vals xs us):xs.length=us.length:=Paired.length r
theorem Vals.get:∀ {xs:List V} {us:List Value} {i:Nat} {x:V},Vals xs us->xs[i]? = some x -> ∃ u,us[i]? = some u/\RelV x u
 | _,_,_,_, .nil,e=>by simp at e
 | _,_,0,_, .cons r _,e=>by simp at e;subst e;exact ⟨_,rfl,r⟩
 | _,_,i+1,x, .cons _ t,e=>by
   obtain ⟨u,h1,h2⟩:=Vals.get (i:=i) (x:=x) t (by simpa using e)
   exact ⟨u,by simpa using h1,h2⟩
theorem Vals.set {x:V} {u:Value} (r:RelV x u):∀ {xs:List V} {us:List Value} (i:Nat),Vals xs us->Vals (xs.set i x) (us.set i u)
 | _,_,_, .nil => .nil
 | _,_,0, .cons _ t => .cons r t
 | _,_,i+1, .cons q t => .cons q (Vals.set r i t)
theorem Vals.append:∀ {xs ys:List V} {us ws:List Value},Vals xs us->Vals ys ws->Vals (xs++ys) (us++ws)
 | _,_,_,_, .nil,s=>s
 | _,_,_,_, .cons r t,s => .cons r (Vals.append t s)
theorem Vals.take:∀ {xs:List V} {us:List Value} (n:Nat),Vals xs us->Vals (xs.take n) (us.take n)
 | _,_,0,_ => .nil
 | _,_,_+1, .nil => .nil
 | _,_,n+1, .cons r t => .cons r (Vals.take n t)
theorem Vals.drop:∀ {xs:List V} {us:List Value} (n:Nat),Vals xs us->Vals (xs.drop n) (us.drop n)
 | _,_,0,r=>r
 | _,_,_+1, .nil => .nil
 | _,_,n+1, .cons _ t=>Vals.drop n t
noncomputable def RelO:Option V->Option Value->Prop
 | some v,some u=>RelV v u
 | none,none=>True
 | _,_=>False
noncomputable def KV {κ:Type}:List (κ × V)->List (κ × Value)->Prop:=Paired fun (p : κ × V) (q : κ × Value)=>p.1=q.1/\RelV p.2 q.2
noncomputable def kV:Key->V
 | .inl i => .int i
 | .inr x => .str x
inductive HO where
 | lst (xs:List V)
 | tup (xs:List V)
 | dK (kvs:List (Key×V)) | dT (kvs:List (List Key×V))
 | set (S:Int->Bool) (n:Nat)
 | ins (C dx:Addr) (fs:List (Str×V))
 | own (x:Addr)
 | xd (fs:List (Str×V))
 | met (f x:Addr)
 | rng (lo hi:Int)
 | frz (o:Obj) (u:HO)
 | tbl (ps:Array Value)
 | ext (φ:Heap->Prop)
noncomputable abbrev Hp:=Addr->Option HO
noncomputable def upd (H:Hp) (a:Addr) (o:HO):Hp:=fun b=>if b=a then some o else H b
theorem aw {H:Hp} {a:Addr} {o:HO}:upd H a o a=some o:=by unfold upd;rw [if_pos rfl]
theorem aj {H:Hp} {a b:Addr} {o:HO} (h:b≠a):upd H a o b=H b:=by unfold upd;rw [if_neg h]
theorem xR {H:Hp} {a:Addr} {o u:HO}:upd (upd H a o) a u=upd H a u:=by
 funext b;unfold upd;split <;> rfl
theorem xh {H:Hp} {a b:Addr} {o u:HO} (h:H a=some o) (h':H b=some u) (d:o≠u):a≠b:=by
 intro e;subst e;rw [h] at h';exact d (Option.some.inj h')
theorem aW {H:Hp} {a b:Addr} {o:HO} (h:H a=some o) (h':H b=none):a≠b:=by
 intro e;subst e;rw [h] at h';cases h'
section
variable (P:Program) (w:World)
noncomputable def ObjOk (H:Hp) (h:Heap) (a:Addr):HO->Prop
 | .lst xs=>xs.length<=sizeLine /\ ∃ (its:List Value) (n:Nat),Vals xs its/\h.get? a=some { cls := .type "list",data := .seq its.toArray n }
 | .tup xs=>xs.length<=sizeLine /\ ∃ its:List Value,Vals xs its/\IsTup h a its.toArray
 | .dK kvs=>kvs.length<=sizeLine/\(a==sysModules)=false /\ ∃ vs,KV kvs vs/\h.DictOf (aF P w) a vs
 | .dT kvs=>kvs.length<=sizeLine/\(a==sysModules)=false /\ ∃ xs:List (List Key×Addr×Value),
  Paired (fun (p:List Key×V) (q:List Key×Addr×Value)=>p.1=q.1/\H q.2.1=some (.tup (p.1.map kV))/\RelV p.2 q.2.2) kvs xs /\
  ∃ o es ep,h.get? a=some o/\o.ExactDict/\o.data = .dict es ep/\es.toList=xs.map (entryOfKey (tupleKind (aF P w)))/\(xs.map (·.1)).Nodup
 | .set S n=>h.SetOf (intKind P w) a S n
 | .ins C dx fs=>H dx=some (.own a)/\fs.length<=1000/\dx≠a/\h.get? a=some (PySem.W.instObj C dx) /\
  ∃ mA,h.Ns1 dx mA/\(∀ f,RelO (fs.lookup f) (mA f))/\PySem.Within mA (fs.map (·.1))
 | .own _ => ∃ o,h.get? a=some o
 | .xd fs => ∃ mA,h.Ns1 a mA /\ ∀ f,RelO (fs.lookup f) (mA f)
 | .rng lo hi => ∃ t u v,h.get? a=some { cls := .type "range",data := .fields #[.int lo t, .int hi u, .int 1 v] }
 | .frz o u=>h.get? a=some o/\ObjOk H h a u
 | .tbl ps=>h.get? a=some { cls := .none,data := .fields ps }
 | .met f x=>h.get? a=some (PySem.W.methodObj (.ref f) (.ref x))
 | .ext φ => φ h/\(∃ o,h.get? a=some o) /\ ∀ h1 h2:Heap, φ h1->(∀ o,h1.get? a=some o->h2.get? a=some o) -> φ h2
noncomputable def HOk (H:Hp) (h:Heap):Prop := ∀ a o,H a=some o->ObjOk P w H h a o
end
section
variable {P:Program} {w:World} {H H':Hp} {h h':Heap} {a:Addr} {o:HO}
theorem ObjOk.lt (x:ObjOk P w H h a o):a < h.objs.size:=by
 cases o with
 | lst xs=>obtain ⟨_,_,_,_,e⟩:=x;exact Heap.lt_size e
 | tup xs=>obtain ⟨_,_,_,p⟩:=x;exact p.lt
 | dK kvs=>obtain ⟨_,_,_,_,o,_,_,e,_⟩:=x;exact Heap.lt_size e
 | dT kvs=>obtain ⟨_,_,_,_,o,_,_,e,_⟩:=x;exact Heap.lt_size e
 | set S n=>obtain ⟨o,_,_,_,e,_⟩:=x;exact Heap.lt_size e
 | ins C dx fs=>obtain ⟨_,_,_,e,_⟩:=x;exact Heap.lt_size e
 | own y=>obtain ⟨_,e⟩:=x;exact Heap.lt_size e
 | xd fs=>obtain ⟨_,⟨_,_,_,e,_⟩,_⟩:=x;exact Heap.lt_size e
 | rng lo hi=>obtain ⟨_,_,_,e⟩:=x;exact Heap.lt_size e
 | frz ob u=>obtain ⟨e,_⟩:=x;exact Heap.lt_size e
 | tbl ps=>exact Heap.lt_size (show h.get? a=some _ from x)
 | met f y=>exact Heap.lt_size (show h.get? a=some _ from x)
 | ext φ => obtain ⟨_,⟨_,e⟩,_⟩:=x;exact Heap.lt_size e
theorem Paired.mapP {α β:Type} {F G : α -> β -> Prop}:∀ {l₁:List α} {l₂:List β},Paired F l₁ l₂ -> (∀ a b,F a b->G a b)->Paired G l₁ l₂
 | _,_, .nil,_ => .nil
 | _,_, .cons r t,f => .cons (f _ _ r) (Paired.mapP t f)
theorem ObjOk.stay (x:ObjOk P w H h a o) (k:∀ b u,(b=a∨H b=some (.own a))->h.get? b=some u->h'.get? b=some u)
 (ho:∀ b,H b=some (.own a)->H' b=some (.own a)) (j:∀ b xs,H b=some (.tup xs)->H' b=some (.tup xs)):ObjOk P w H' h' a o:=by
 induction o with
 | lst xs=>obtain ⟨z,its,n,r,e⟩:=x;exact ⟨z,its,n,r,k _ _ (.inl rfl) e⟩
 | tup xs=>obtain ⟨z,its,r,ob,e,c⟩:=x;exact ⟨z,its,r,ob,k _ _ (.inl rfl) e,c⟩
 | dK kvs=>obtain ⟨z,y,vs,r,ob,es,ep,e,c⟩:=x;exact ⟨z,y,vs,r,ob,es,ep,k _ _ (.inl rfl) e,c⟩
 | dT kvs =>
   obtain ⟨z,y,xs,r,ob,es,ep,e,c⟩:=x
   exact ⟨z,y,xs,Paired.mapP r fun p q z=>⟨z.1,j _ _ z.2.1,z.2.2⟩,ob,es,ep,k _ _ (.inl rfl) e,c⟩
 | set S n=>obtain ⟨ob,es,ep,t,e,c⟩:=x;exact ⟨ob,es,ep,t,k _ _ (.inl rfl) e,c⟩
 | ins C dx fs =>
   obtain ⟨d,z,ne,e,mA,⟨od,es,ep,e2,c⟩,r⟩:=x
   exact ⟨ho _ d,z,ne,k _ _ (.inl rfl) e,mA,⟨od,es,ep,k _ _ (.inr d) e2,c⟩,r⟩
 | own y=>obtain ⟨ob,e⟩:=x;exact ⟨ob,k _ _ (.inl rfl) e⟩
 | xd fs=>obtain ⟨mA,⟨od,es,ep,e,c⟩,r⟩:=x;exact ⟨mA,⟨od,es,ep,k _ _ (.inl rfl) e,c⟩,r⟩
 | rng lo hi=>obtain ⟨t,u,v,e⟩:=x;exact ⟨t,u,v,k _ _ (.inl rfl) e⟩
 | frz ob u ih=>obtain ⟨e,q⟩:=x;exact ⟨k _ _ (.inl rfl) e,ih q⟩
 | tbl ps =>
   have e:h.get? a=some { cls := .none,data := .fields ps }:=x
   show h'.get? a=some { cls := .none,data := .fields ps }
   exact k a _ (.inl rfl) e
 | met f y =>
   have e:h.get? a=some (PySem.W.methodObj (.ref f) (.ref y)):=x
   show h'.get? a=some (PySem.W.methodObj (.ref f) (.ref y))
   exact k a _ (.inl rfl) e
 | ext φ => obtain ⟨p,⟨o,e⟩,st⟩:=x;exact ⟨st _ _ p fun o q=>k _ _ (.inl rfl) q,⟨o,k _ _ (.inl rfl) e⟩,st⟩
theorem HOk.lt (x:HOk P w H h) (e:H a=some o):a < h.objs.size:=(x a o e).lt
theorem HOk.fresh (x:HOk P w H h) (e:h.objs.size<=a):H a=none:=by
 cases q:H a with
 | none=>rfl
 | some u=>exact absurd (Nat.lt_of_lt_of_le (x.lt q) e) (Nat.lt_irrefl _)
theorem HOk.kept (x:HOk P w H h) (k:∀ b u,h.get? b=some u->h'.get? b=some u):HOk P w H h':=fun a o e =>
 (x a o e).stay (fun b u _ q=>k b u q) (fun _ q=>q) fun _ _ q=>q
theorem HOk.laid (x:HOk P w H h) (k:∀ b u,h.get? b=some u->h'.get? b=some u) (hp:h.objs.size<=a) (new:ObjOk P w (upd H a o) h' a o):HOk P w (upd H a o) h':=fun b u e=>by
 have hn:=x.fresh hp
 by_cases hb:b=a
 ·subst hb;rw [aw] at e;cases e;exact new
 ·rw [aj hb] at e
  exact (x b u e).stay (fun c v _ q=>k c v q) (fun c q=>by rw [aj (aW q hn)];exact q) fun c xs q=>by rw [aj (aW q hn)];exact q
end
noncomputable def Rd (H:Hp) (a:Addr) (u:HO):Prop:=H a=some u ∨ ∃ o,H a=some (.frz o u)
theorem Rd.of {H:Hp} {a:Addr} {u:HO} (h:H a=some u):Rd H a u := .inl h
theorem Rd.ok {P:Program} {w:World} {H:Hp} {h:Heap} {a:Addr} {u:HO} (r:Rd H a u) (x:HOk P w H h):ObjOk P w H h a u:=by
 rcases r with r | ⟨o,r⟩
 ·exact x a u r
 ·obtain ⟨_,q⟩:=x a _ r
  exact q
noncomputable def Mut:Option HO->Prop
 | some (.lst _)=>True
 | some (.dK _)=>True
 | some (.dT _)=>True
 | some (.set _ _)=>True
 | some (.ins _ _ _)=>True
 | some (.ext _)=>True
 | _=>False
section
variable {P:Program} {w:World} {H:Hp} {h h':Heap} {x e:Addr} {o':HO}
theorem HOk.write (ok:HOk P w H h) (mu:Mut (H x)) (he:e=x∨H e=some (.own x)) (k:∀ b u,b≠e->h.get? b=some u->h'.get? b=some u) (n:∃ u,h'.get? e=some u)
 (new:ObjOk P w (upd H x o') h' x o'):HOk P w (upd H x o') h':=fun b u q=>by
 have nown:∀ c y,H c=some (.own y)->c≠x:=fun c y r z=>by subst z;rw [r] at mu;exact mu
 have ntup:∀ c xs,H c=some (.tup xs)->c≠x:=fun c xs r z=>by subst z;rw [r] at mu;exact mu
 by_cases hb:b=x
 ·subst hb;rw [aw] at q;cases q;exact new
 ·rw [aj hb] at q
  by_cases j:b=e
  ·have q':H b=some (.own x):=by
    rcases he with z | z
    ·exact absurd (j.trans z) hb
    ·rw [j];exact z
   rw [q] at q';cases q'
   obtain ⟨v,B⟩:=n
   exact ⟨v,by rw [j];exact B⟩
  ·refine (ok b u q).stay (fun c v hc r=>k c v ?_ r) (fun c r=>by rw [aj (nown c b r)];exact r) fun c xs r=>by rw [aj (ntup c xs r)];exact r
   rcases hc with rfl | hc
   ·exact j
   ·rintro rfl
    rcases he with z | z
    ·exact nown c b hc z
    ·rw [hc] at z;cases z;exact hb rfl
end
structure Un (fs ex:List Addr) (H H':Hp) (h h':Heap):Prop where
 keep:∀ b o,h.get? b=some o->H b=none->b∉fs->b∉ex->h'.get? b=some o
 slot:∀ b o,h.get? b=some o->H b=none->b∈fs->b∉ex -> ∃ sl,h'.get? b=some { o with slots:=sl }
 free:∀ b o,h.get? b=some o->H b=none->b∉ex->H' b=none
 there:∀ b o,h.get? b=some o->b∉ex -> ∃ o',h'.get? b=some o'
 tups:∀ b xs,H b=some (.tup xs)->H' b=some (.tup xs)
 frzs:∀ b o u,H b=some (.frz o u)->H' b=some (.frz o u)
 tbls:∀ b ps,H b=some (.tbl ps) -> ∃ more,H' b=some (.tbl (ps++more))
section
variable {fs fs' ex ex':List Addr} {H H1 H2:Hp} {h h1 h2 h':Heap} {a x e:Addr} {o:HO}
theorem Un.any (u:Un fs ex H H1 h h1) {b:Addr} {ob:Obj} (q:h.get? b=some ob) (n:H b=none) (hx:b∉ex):∃ sl,h1.get? b=some { ob with slots:=sl }:=by
 by_cases hb:b∈fs
 ·exact u.slot b ob q n hb hx
 ·exact ⟨ob.slots,u.keep b ob q n hb hx⟩
theorem Un.trans (a:Un fs ex H H1 h h1) (b:Un fs ex H1 H2 h1 h2):Un fs ex H H2 h h2 where
 keep:=fun c ob q n hc hx=>b.keep c ob (a.keep c ob q n hc hx) (a.free c ob q n hx) hc hx
 slot:=fun c ob q n hc hx=>by
  obtain ⟨sl,e1⟩:=a.slot c ob q n hc hx
  obtain ⟨sl',e2⟩:=b.slot c _ e1 (a.free c ob q n hx) hc hx
  exact ⟨sl',e2⟩
 free:=fun c ob q n hx=>by
  obtain ⟨o',e1⟩:=a.there c ob q hx
  exact b.free c o' e1 (a.free c ob q n hx) hx
 there:=fun c ob q hx=>by
  obtain ⟨o',e1⟩:=a.there c ob q hx
  exact b.there c o' e1 hx
 tups:=fun c xs q=>b.tups c xs (a.tups c xs q)
 frzs:=fun c ob xs q=>b.frzs c ob xs (a.frzs c ob xs q)
 tbls:=fun c ps q=>by
  obtain ⟨j,e1⟩:=a.tbls c ps q
  obtain ⟨z,e2⟩:=b.tbls c _ e1
  exact ⟨j++z,by rw [e2,Array.append_assoc]⟩
theorem Un.kept (k:∀ b u,h.get? b=some u->h'.get? b=some u):Un fs ex H H h h' :=
 ⟨fun b ob q _ _ _=>k b ob q,fun b ob q _ _ _=>⟨ob.slots,k b ob q⟩,fun _ _ _ n _=>n,fun b ob q _=>⟨ob,k b ob q⟩,fun _ _ q=>q,fun _ _ _ q=>q,fun _ ps q=>⟨#[],by rw [q];simp⟩⟩
theorem Un.refl:Un fs ex H H h h:=Un.kept fun _ _ q=>q
theorem Un.laid (k:∀ b u,h.get? b=some u->h'.get? b=some u) (hp:h.objs.size<=a) (hn:H a=none):Un fs ex H (upd H a o) h h' where
 keep:=fun b u q _ _ _=>k b u q
 slot:=fun b u q _ _ _=>⟨u.slots,k b u q⟩
 free:=fun b u q n _=>by rw [aj (Nat.ne_of_lt (Nat.lt_of_lt_of_le (Heap.lt_size q) hp))];exact n
 there:=fun b u q _=>⟨u,k b u q⟩
 tups:=fun b xs q=>by rw [aj (aW q hn)];exact q
 frzs:=fun b u xs q=>by rw [aj (aW q hn)];exact q
 tbls:=fun b ps q=>⟨#[],by rw [aj (aW q hn),q];simp⟩
theorem Un.write (mu:Mut (H x)) (he:e=x∨H e=some (.own x)) (k:∀ b u,b≠e->h.get? b=some u->h'.get? b=some u) (B:∃ u,h'.get? e=some u):Un fs ex H (upd H x o) h h':=by
 have hx:∀ b,H b=none->b≠x:=fun b n z=>by subst z;rw [n] at mu;exact mu
 have hb:∀ b,H b=none->b≠e:=fun b n z=>by
  subst z
  rcases he with r | r
  ·exact hx b n r
  ·rw [n] at r;cases r
 have hm:∀ b u,H b=some u -> ¬ Mut (some u)->b≠x:=fun b u q nm z=>by subst z;rw [q] at mu;exact nm mu
 refine ⟨fun b u q n _ _=>k b u (hb b n) q,fun b u q n _ _=>⟨u.slots,k b u (hb b n) q⟩,fun b u q n _=>by rw [aj (hx b n)];exact n,fun b u q _ => ?_,
  fun b xs q=>by rw [aj (hm b _ q fun z=>z)];exact q,fun b u xs q=>by rw [aj (hm b _ q fun z=>z)];exact q,fun b ps q=>⟨#[],by rw [aj (hm b _ q fun z=>z),q];simp⟩⟩
 by_cases j:b=e
 ·subst j;exact B
 ·exact ⟨u,k b u j q⟩
end
noncomputable def trk (h:Heap) (H:Hp):List Addr:=(List.range h.objs.size).filter fun a=>(H a).isSome
noncomputable def eI (h:Heap) (H:Hp):Heap:=PySem.W.hideAll h (trk h H)
theorem rK (h:Heap) (H:Hp):(eI h H).objs.size=h.objs.size:=PySem.W.hideAll_size _ _
theorem uI {h:Heap} {H:Hp} {b:Addr} {o:Obj} (e:h.get? b=some o) (n:H b=none):(eI h H).get? b=some o :=
 PySem.W.hideAll_get _ e fun hm=>by
  have q:(H b).isSome=true:=(List.mem_filter.mp hm).2
  rw [n] at q;simp at q
theorem xS {h:Heap} {H:Hp} {b:Addr} {o:Obj} (e:(eI h H).get? b=some o):h.get? b=some o/\H b=none:=by
 have e':h.get? b=some o:=PySem.W.of_hideAll (trk h H) e
 refine ⟨e', ?_⟩
 cases q:H b with
 | none=>rfl
 | some x =>
   have hm:b∈trk h H:=List.mem_filter.mpr ⟨List.mem_range.mpr (Heap.lt_size e'),by simp [q]⟩
   have z:(eI h H).get? b=none:=PySem.W.hideAll_none (trk h H) hm
   rw [z] at e;cases e
noncomputable def xT (g h:Heap) (L:Addr):List (Addr×Obj):=(List.range h.objs.size).filterMap fun a=>if a=L∨(g.get? a).isSome=true then none else (h.get? a).map fun o=>(a,o)
noncomputable def rest (g h:Heap) (L d:Addr):List (Addr×Obj):=(xT g h L).filter fun p=>decide (p.1≠d)
end
section
structure Mod (K:Frag) (mg:Str->Option Value) (base:Heap):Prop where
 kin:K.In base
 glob:base.Ns mainGlobals mg
 blt:∃ mb,base.Ns builtinsNs mb /\ ∀ x:Str,x ≠ "__name__" -> mb x=bootBuiltins x
 nolimit:base.NoLimit
structure Cx where
 prog:Program
 w:World
 K:Frag
 mg:Str->Option Value
 base:Heap
 A:Around
 N:List Str
 s₀:Shared
 H₀:Hp
 env:Env
 outer:List Env
 stack:List Env
 ex:List Addr
 fn:Str->Bool
 calm:Bool
 pn:List (Addr×Obj)
 xe:Value->Shared->Prop
noncomputable def frs (l:List Env):List Addr:=l.filterMap (·.frame)
noncomputable abbrev Cx.fs (X:Cx):List Addr:=frs X.outer
noncomputable def Vis (sc:Scope) (x:Str):Prop:=sc.names.lookup x=some .local∨sc.names.lookup x=some .cell∨sc.names.lookup x=some .free
noncomputable def Loc (sc:Scope) (x:Str):Prop:=sc.names.lookup x=some .local∨sc.names.lookup x=some .cell
noncomputable def Cy (env:Env) (h:Heap) (m:Str->Option Value) (x:Str) (u:Value):Prop :=
 (env.kindOf x=some .local/\m x=some u)∨((env.kindOf x=some .cell∨env.kindOf x=some .free) /\ ∃ c,env.cells.lookup x=some c/\h.IsCell c (some u))
structure Cx.Ok (X:Cx):Prop where
 mod:Mod X.K X.mg X.base
 kind:X.env.scope.kind = .function
 glob:X.env.globals=mainGlobals
 blt:X.env.builtins=builtinsNs
 above:X.s₀.heap.objs.size<=X.env.locals
 inj:∀ x y c,X.env.cells.lookup x=some c->X.env.cells.lookup y=some c->x=y
 has:∀ x,(X.env.kindOf x=some .cell∨X.env.kindOf x=some .free) -> ∃ c,X.env.cells.lookup x=some c
 cab:∀ x c,X.fn x=true->X.env.cells.lookup x=some c->X.s₀.heap.objs.size<=c
 hd:X.calm=true->X.A.handled=none
 frames:X.A.frames=some X.stack
 stk:X.stack=X.outer∨(X.stack=X.env::X.outer/\X.env.frame=some X.env.locals)
 exf:∀ b∈X.ex,b≠X.env.locals /\ ∀ x c,X.env.cells.lookup x=some c->c≠b
 bs:∀ b o,X.base.get? b=some o->X.s₀.heap.get? b=some o/\X.H₀ b=none
 bsz:X.base.objs.size<=X.s₀.heap.objs.size
 noex:∀ b o,X.base.get? b=some o->b∉X.ex
 exfs:∀ b∈X.ex,b∉X.fs
 funs:X.s₀.heap.FunFrames X.base X.outer
 frf:∀ b∈X.fs,X.H₀ b=none
structure Inv (X:Cx) (pins:List (Addr×Obj)) (σ:List (Option V)) (H:Hp) (s:Shared):Prop where
 ok:X.Ok
 os:s.os=X.s₀.os
 bare:AllBare s.gens
 base:Un X.fs X.ex X.H₀ H X.s₀.heap s.heap
 loc:∃ m,s.heap.Ns X.env.locals m /\ ∀ (i:Nat) (x:Str) (v:V),X.N[i]? = some x -> σ[i]? = some (some v)->Vis X.env.scope x -> ∃ u,RelV v u/\Cy X.env s.heap m x u
 cell:∀ x c,X.env.cells.lookup x=some c -> ∃ v,s.heap.IsCell c v
 free:H X.env.locals=none
 freeC:∀ x c,X.env.cells.lookup x=some c->H c=none
 pin:∀ p∈X.pn++pins,s.heap.get? p.1=some p.2/\H p.1=none/\p.1≠X.env.locals/\p.1∉X.fs /\ ∀ v,p.2.data ≠ .cell v
 hok:HOk X.prog X.w H s.heap
 len : σ.length=X.N.length
section
variable {X:Cx} {pins:List (Addr×Obj)} {σ:List (Option V)} {H H':Hp} {s:Shared} {h':Heap}
theorem Cx.Ok.nofr (ok:X.Ok) {b:Addr} {o:Obj} (e:X.base.get? b=some o):b∉X.fs:=fun hb=>by
 have:=(ok.funs.mem hb).1
 rw [e] at this;cases this
theorem Inv.bs (I:Inv X pins σ H s):∀ b o,X.base.get? b=some o->s.heap.get? b=some o/\H b=none:=fun b o e =>
 ⟨I.base.keep b o (I.ok.bs b o e).1 (I.ok.bs b o e).2 (I.ok.nofr e) (I.ok.noex b o e),I.base.free b o (I.ok.bs b o e).1 (I.ok.bs b o e).2 (I.ok.noex b o e)⟩
theorem Inv.bk (I:Inv X pins σ H s):∀ b o,X.base.get? b=some o->s.heap.get? b=some o:=fun b o e=>(I.bs b o e).1
theorem Inv.mod (I:Inv X pins σ H s):Mod X.K X.mg X.base:=I.ok.mod
theorem Inv.kIn (I:Inv X pins σ H s):X.K.In s.heap:=I.ok.mod.kin.keeps I.bk
theorem Inv.lt (I:Inv X pins σ H s):X.env.locals < s.heap.objs.size:=let ⟨_,hn,_⟩:=I.loc;hn.lt
theorem Inv.sz (I:Inv X pins σ H s):X.s₀.heap.objs.size<=s.heap.objs.size:=Nat.le_trans I.ok.above (Nat.le_of_lt I.lt)
theorem Inv.nofs (I:Inv X pins σ H s) {a:Addr} (h:s.heap.objs.size<=a):a∉X.fs:=fun hb=>by
 obtain ⟨_,o,ho,_⟩:=I.ok.funs.mem hb
 exact absurd (Nat.lt_of_lt_of_le (Heap.lt_size ho) (Nat.le_trans I.sz h)) (Nat.lt_irrefl _)
theorem Inv.cne (I:Inv X pins σ H s):∀ x c,X.env.cells.lookup x=some c->c≠X.env.locals:=fun x c e z=>by
 obtain ⟨v,o,ho,hd⟩:=I.cell x c e
 obtain ⟨m,⟨o',es,ep,j,n,_⟩,_⟩:=I.loc
 rw [z,j] at ho;cases ho;rw [n] at hd;cases hd
theorem Inv.funs (I:Inv X pins σ H s):s.heap.FunFrames X.base X.outer:=by
 have all:∀ (l:List Env),(∀ b∈frs l,b∈X.fs)->X.s₀.heap.FunFrames X.base l->s.heap.FunFrames X.base l:=by
  intro l
  induction l with
  | nil=>intro _ _;trivial
  | cons env r ih =>
    intro hs n
    obtain ⟨q,⟨L,o,hf,hn,ho,hd⟩,B⟩:=n
    have j:L∈X.fs:=hs L (by unfold frs;rw [List.filterMap_cons,hf];exact List.mem_cons_self)
    obtain ⟨sl,e⟩:=I.base.slot L o ho (I.ok.frf L j) j fun z=>I.ok.exfs L z j
    exact ⟨q,⟨L,_,hf,hn,e,hd⟩,ih (fun b hb=>hs b (by unfold frs;rw [List.filterMap_cons,hf];exact List.mem_cons_of_mem _ hb)) B⟩
 exact all X.outer (fun _ hb=>hb) I.ok.funs
theorem Inv.stack (I:Inv X pins σ H s):s.heap.FunFrames X.base X.stack:=by
 rcases I.ok.stk with e | ⟨e,hf⟩
 ·rw [e];exact I.funs
 ·rw [e]
  obtain ⟨m,hn,_⟩:=I.loc
  refine .cons (by rw [I.ok.kind];decide) hf hn ?_ I.funs
  exact Heap.get?_none_of_le (Nat.le_trans I.ok.bsz I.ok.above)
theorem Inv.stkSub (I:Inv X pins σ H s):∀ b∈frs X.stack,b∈X.env.locals::X.fs:=fun b hb=>by
 rcases I.ok.stk with e | ⟨e,hf⟩
 ·rw [e] at hb;exact List.mem_cons_of_mem _ hb
 ·rw [e] at hb
  unfold frs at hb
  rw [List.filterMap_cons,hf] at hb
  exact hb
theorem Inv.stkFree (I:Inv X pins σ H s):∀ b∈frs X.stack,H b=none:=fun b hb=>by
 rcases List.mem_cons.mp (I.stkSub b hb) with e | hb
 ·rw [e];exact I.free
 ·obtain ⟨_,o,ho,_⟩:=I.ok.funs.mem hb
  exact I.base.free b o ho (I.ok.frf b hb) fun z=>I.ok.exfs b z hb
theorem Inv.step {g':Array GenState} {t':Nat} {d':Drawn} {ch:List Addr} (I:Inv X pins σ H s)
 (j:∀ b∈ch,(b∈X.ex∨X.s₀.heap.objs.size<=b)/\b≠X.env.locals/\(∀ x c,X.env.cells.lookup x=some c->c≠b) /\ ∀ p∈X.pn++pins,p.1≠b)
 (keep:∀ b o,b≠X.env.locals->b∉X.fs->b∉ch->s.heap.get? b=some o->H b=none->h'.get? b=some o)
 (slot:∀ b o,b≠X.env.locals->b∈X.fs->b∉ch->s.heap.get? b=some o->H b=none -> ∃ sl,h'.get? b=some { o with slots:=sl }) (free:∀ b o,b∉ch->s.heap.get? b=some o->H b=none->H' b=none)
 (there:∀ b o,b∉ch->s.heap.get? b=some o -> ∃ o',h'.get? b=some o')
 (tups:∀ b xs,H b=some (.tup xs)->H' b=some (.tup xs)) (frzs:∀ b o u,H b=some (.frz o u)->H' b=some (.frz o u)) (tbls:∀ b ps,H b=some (.tbl ps) -> ∃ more,H' b=some (.tbl (ps++more)))
 (ns:∀ m,s.heap.Ns X.env.locals m->h'.Ns X.env.locals m) (hok:HOk X.prog X.w H' h') (B:AllBare g') :
 Inv X pins σ H' { s with heap:=h',gens:=g',drawn:=d',toks:=t' }:=by
 have neL:∀ b o,X.s₀.heap.get? b=some o->b≠X.env.locals:=fun b o e=>Nat.ne_of_lt (Nat.lt_of_lt_of_le (Heap.lt_size e) I.ok.above)
 have neC:∀ b o,X.s₀.heap.get? b=some o->b∉X.ex->b∉ch:=fun b o e hx hb=>by
  rcases (j b hb).1 with z | z
  ·exact hx z
  ·exact absurd (Nat.lt_of_lt_of_le (Heap.lt_size e) z) (Nat.lt_irrefl _)
 have cellK:∀ x c,X.env.cells.lookup x=some c -> ∀ v,s.heap.IsCell c v->h'.IsCell c v:=fun x c e v ⟨o,ho,hd⟩=>by
  have nch:c∉ch:=fun z=>(j c z).2.2.1 x c e rfl
  by_cases hc:c∈X.fs
  ·obtain ⟨sl,q⟩:=slot c o (I.cne x c e) hc nch ho (I.freeC x c e)
   exact ⟨_,q,hd⟩
  ·exact ⟨o,keep c o (I.cne x c e) hc nch ho (I.freeC x c e),hd⟩
 refine ⟨I.ok,I.os,B,⟨fun b o e n hb hx => ?_,fun b o e n hb hx => ?_,fun b o e n hx => ?_,fun b o e hx => ?_,fun b xs e=>tups b xs (I.base.tups b xs e),fun b o xs e=>frzs b o xs (I.base.frzs b o xs e),fun b ps e => ?_⟩, ?_,fun x c e => ?_, ?_,fun x c e => ?_,fun p hp => ?_,hok,I.len⟩
 ·exact keep b o (neL b o e) hb (neC b o e hx) (I.base.keep b o e n hb hx) (I.base.free b o e n hx)
 ·obtain ⟨sl,e1⟩:=I.base.slot b o e n hb hx
  obtain ⟨sl',e2⟩:=slot b _ (neL b o e) hb (neC b o e hx) e1 (I.base.free b o e n hx)
  exact ⟨sl',e2⟩
 ·obtain ⟨o',e1⟩:=I.base.there b o e hx
  exact free b o' (neC b o e hx) e1 (I.base.free b o e n hx)
 ·obtain ⟨o',e1⟩:=I.base.there b o e hx
  exact there b o' (neC b o e hx) e1
 ·obtain ⟨F,e1⟩:=I.base.tbls b ps e
  obtain ⟨G,e2⟩:=tbls b _ e1
  exact ⟨F++G,by rw [e2,Array.append_assoc]⟩
 ·obtain ⟨m,hn,J⟩:=I.loc
  refine ⟨m,ns m hn,fun i x v e1 e2 L => ?_⟩
  obtain ⟨u,r,l⟩:=J i x v e1 e2 L
  refine ⟨u,r, ?_⟩
  rcases l with l | ⟨k,c,e,z⟩
  ·exact .inl l
  ·exact .inr ⟨k,c,e,cellK x c e _ z⟩
 ·obtain ⟨v,z⟩:=I.cell x c e
  exact ⟨v,cellK x c e v z⟩
 ·obtain ⟨m,⟨o,_,_,ho,_⟩,_⟩:=I.loc
  exact free _ o (fun z=>(j _ z).2.1 rfl) ho I.free
 ·obtain ⟨v,o,ho,hd⟩:=I.cell x c e
  exact free c o (fun z=>(j c z).2.2.1 x c e rfl) ho (I.freeC x c e)
 ·obtain ⟨e,n,ne,nf,d⟩:=I.pin p hp
  have nch:p.1∉ch:=fun z=>(j p.1 z).2.2.2 p hp rfl
  exact ⟨keep p.1 p.2 ne nf nch e n,free p.1 p.2 nch e n,ne,nf,d⟩
theorem Inv.un {t':Nat} (I:Inv X pins σ H s) (u:Un X.fs [] H H' s.heap h') (hok:HOk X.prog X.w H' h'):Inv X pins σ H' { s with heap:=h',toks:=t' }:=by
 obtain ⟨m,⟨o,es,ep,ho,r⟩,_⟩:=id I.loc
 obtain ⟨sl,q⟩:=u.any ho I.free (by simp)
 exact I.step (g':=s.gens) (d':=s.drawn) (ch := []) (fun _ z=>nomatch z) (fun b o _ hb _ e n=>u.keep b o e n hb (by simp)) (fun b o _ hb _ e n=>u.slot b o e n hb (by simp)) (fun b o _ e n=>u.free b o e n (by simp)) (fun b o _ e=>u.there b o e (by simp)) u.tups u.frzs u.tbls (fun m' hm=>by
  obtain ⟨o',es',ep',j,r'⟩:=hm
  rw [ho] at j;cases j
  exact ⟨_,es',ep',q,r'⟩) hok I.bare
theorem Inv.call {g':Array GenState} {t':Nat} {d':Drawn} {ch:List Addr} (I:Inv X pins σ H s) (u:Un (frs X.stack) ch H H' s.heap h') (hok:HOk X.prog X.w H' h') (F:AllBare g')
 (j:∀ b∈ch,(b∈X.ex∨X.s₀.heap.objs.size<=b)/\b≠X.env.locals/\(∀ x c,X.env.cells.lookup x=some c->c≠b) /\ ∀ p∈X.pn++pins,p.1≠b) :
 Inv X pins σ H' { s with heap:=h',gens:=g',drawn:=d',toks:=t' }:=by
 obtain ⟨m,⟨o,es,ep,ho,r⟩,_⟩:=id I.loc
 obtain ⟨sl,B⟩:=u.any ho I.free fun z=>(j _ z).2.1 rfl
 exact I.step (ch:=ch) j (fun b o B hb hc e n=>u.keep b o e n (fun z=>(List.mem_cons.mp (I.stkSub b z)).elim B hb) hc) (fun b o _ _ hc e n=>u.any e n hc) (fun b o hc e n=>u.free b o e n hc) (fun b o hc e=>u.there b o e hc) u.tups u.frzs u.tbls (fun m' hm=>by
  obtain ⟨o',es',ep',q,r'⟩:=hm
  rw [ho] at q;cases q
  exact ⟨_,es',ep',B,r'⟩) hok F
theorem Inv.turned {t':Nat} {it:Addr} (I:Inv X pins σ H s) (k:∀ b o,b≠it->s.heap.get? b=some o->h'.get? b=some o) (hn:H it=none) (j:it≠X.env.locals)
 (h1:it∈X.ex∨X.s₀.heap.objs.size<=it) (h2:∀ x c,X.env.cells.lookup x=some c->c≠it) (B:∀ p∈X.pn++pins,p.1≠it):Inv X pins σ H { s with heap:=h',toks:=t' }:=by
 have nit:∀ b u,H b=some u->b≠it:=fun b u e z=>by rw [z,hn] at e;cases e
 refine I.step (g':=s.gens) (d':=s.drawn) (ch := [it]) (fun b hb => ?_) (fun b o _ _ hc e _=>k b o (fun z=>hc (by simp [z])) e) (fun b o _ _ hc e _=>⟨o.slots,k b o (fun z=>hc (by simp [z])) e⟩) (fun _ _ _ _ n=>n)
  (fun b o hc e=>⟨o,k b o (fun z=>hc (by simp [z])) e⟩) (fun _ _ e=>e) (fun _ _ _ e=>e) (fun b ps e=>⟨#[],by rw [e];simp⟩) (fun m hm => ?_) (fun b u e => ?_) I.bare
 ·have e:b=it:=by simpa using hb
  subst e
  exact ⟨h1,j,h2,B⟩
 ·obtain ⟨o,es,ep,ho,r⟩:=hm
  exact ⟨o,es,ep,k _ o (Ne.symm j) ho,r⟩
 ·refine (I.hok b u e).stay (fun c v hc q=>k c v ?_ q) (fun _ q=>q) fun _ _ q=>q
  rcases hc with z | z
  ·rw [z];exact nit b u e
  ·exact nit c _ z
theorem Inv.tok (I:Inv X pins σ H s) (t:Nat):Inv X pins σ H { s with toks:=t }:=I.un (h':=s.heap) (t':=t) Un.refl I.hok
theorem Inv.kept {t':Nat} (I:Inv X pins σ H s) (k:∀ b u,s.heap.get? b=some u->h'.get? b=some u):Inv X pins σ H { s with heap:=h',toks:=t' }:=I.un (Un.kept k) (I.hok.kept k)
theorem Inv.laid {a:Addr} {o:HO} {t':Nat} (I:Inv X pins σ H s) (k:∀ b u,s.heap.get? b=some u->h'.get? b=some u) (hp:s.heap.objs.size<=a) (new:ObjOk X.prog X.w (upd H a o) h' a o) :
 Inv X pins σ (upd H a o) { s with heap:=h',toks:=t' }:=I.un (Un.laid k hp (I.hok.fresh hp)) (I.hok.laid k hp new)
theorem Inv.write {x e:Addr} {o:HO} {t':Nat} (I:Inv X pins σ H s) (mu:Mut (H x)) (he:e=x∨H e=some (.own x)) (k:∀ b u,b≠e->s.heap.get? b=some u->h'.get? b=some u) (j:∃ u,h'.get? e=some u)
 (new:ObjOk X.prog X.w (upd H x o) h' x o):Inv X pins σ (upd H x o) { s with heap:=h',toks:=t' }:=I.un (Un.write mu he k j) (I.hok.write mu he k j new)
theorem Inv.pins_of {pins':List (Addr×Obj)} (I:Inv X pins σ H s) (h:∀ p∈pins',s.heap.get? p.1=some p.2/\H p.1=none/\p.1≠X.env.locals/\p.1∉X.fs /\ ∀ v,p.2.data ≠ .cell v):Inv X pins' σ H s :=
 ⟨I.ok,I.os,I.bare,I.base,I.loc,I.cell,I.free,I.freeC,fun p hp=>(List.mem_append.mp hp).elim (fun z=>I.pin p (List.mem_append_left _ z)) (h p),I.hok,I.len⟩
theorem lh {N:List Str} (n:N.Nodup) {i j:Nat} {x:Str} (a:N[i]? = some x) (b:N[j]? = some x):i=j:=by
 obtain ⟨h1,e1⟩:=List.getElem?_eq_some_iff.mp a
 obtain ⟨h2,e2⟩:=List.getElem?_eq_some_iff.mp b
 exact (List.getElem_inj n).mp (e1.trans e2.symm)
theorem rL {M:Model} {A:Around} {E:Value->Shared->Prop} {i:Nat} {x:Str} {v:V} {u:Value} {Q:Unit->Shared->Prop} (I:Inv X pins σ H s) (hN:X.N.Nodup) (hi:X.N[i]? = some x) (hx:Loc X.env.scope x) (r:RelV v u)
 (h:∀ s',Inv X pins (σ.set i (some v)) H s'->(∃ a,Heap.SameBut a s.heap s'.heap/\(a=X.env.locals∨X.env.cells.lookup x=some a))->Q () s') (hf:X.fn x=true∨X.env.scope.names.lookup x=some .local:=by first | exact .inl rfl | exact .inr rfl | assumption):wpAny M A (storeName X.env x u) Q E s:=by
 obtain ⟨m,hn,hl⟩:=id I.loc
 have L:(X.env.scope.kind == .class || (X.env.scope.kind == .module&&X.env.locals != X.env.globals))=false:=by rw [I.ok.kind];rfl
 have O:i < σ.length:=by rw [I.len];exact (List.getElem?_eq_some_iff.mp hi).1
 have cne:=I.cne
 have tracked:∀ {a:Addr} {h':Heap},(∃ o,s.heap.get? a=some o/\H a=none)->Heap.SameBut a s.heap h'->HOk X.prog X.w H h':=fun {a h'} ha hs b ob e=>by
  obtain ⟨_,_,B⟩:=ha
  refine (I.hok b ob e).stay (fun c w' hc q=>(hs.2 c ?_).trans q) (fun _ q=>q) fun _ _ q=>q
  rintro rfl
  rcases hc with rfl | hc
  ·rw [B] at e;cases e
  ·rw [B] at hc;cases hc
 rcases hx with F | F
 ·refine wpAny_storeName_local F hn (fun h' Z hs => ?_) L
  obtain ⟨oL,_,_,D7,_⟩:=id hn
  refine h _ ⟨I.ok,I.os,I.bare,⟨fun b o e n hb hx => ?_,fun b o e n hb hx => ?_,I.base.free,fun b o e hx => ?_,I.base.tups,I.base.frzs,I.base.tbls⟩,⟨_,Z,fun j y v' e1 e2 e3 => ?_⟩,fun y c e => ?_,I.free,I.freeC,fun p hp => ?_,tracked ⟨oL,D7,I.free⟩ hs,by simpa using I.len⟩ ⟨_,hs, .inl rfl⟩
  ·exact (hs.2 b (Nat.ne_of_lt (Nat.lt_of_lt_of_le (Heap.lt_size e) I.ok.above))).trans (I.base.keep b o e n hb hx)
  ·obtain ⟨sl,e1⟩:=I.base.slot b o e n hb hx
   exact ⟨sl,(hs.2 b (Nat.ne_of_lt (Nat.lt_of_lt_of_le (Heap.lt_size e) I.ok.above))).trans e1⟩
  ·obtain ⟨o',e1⟩:=I.base.there b o e hx
   exact ⟨o',(hs.2 b (Nat.ne_of_lt (Nat.lt_of_lt_of_le (Heap.lt_size e) I.ok.above))).trans e1⟩
  ·by_cases G:j=i
   ·subst G
    rw [hi] at e1;cases e1
    rw [List.getElem?_set_self O] at e2
    cases e2
    exact ⟨u,r, .inl ⟨F,by simp⟩⟩
   ·rw [List.getElem?_set_ne (Ne.symm G)] at e2
    obtain ⟨u',r',q⟩:=hl j y v' e1 e2 e3
    refine ⟨u',r', ?_⟩
    rcases q with ⟨k,e⟩ | ⟨k,c,e,z⟩
    ·refine .inl ⟨k, ?_⟩
     have:y≠x:=fun e=>G (lh hN e1 (e ▸ hi))
     simp [this,e]
    ·exact .inr ⟨k,c,e,z.sameBut hs (cne y c e)⟩
  ·obtain ⟨w',z⟩:=I.cell y c e
   exact ⟨w',z.sameBut hs (cne y c e)⟩
  ·obtain ⟨e,n,ne,nf,d⟩:=I.pin p hp
   exact ⟨(hs.2 p.1 ne).trans e,n,ne,nf,d⟩
 ·have J:X.fn x=true:=by
   rcases hf with z | z
   ·exact z
   ·rw [z] at F;cases F
  obtain ⟨c,hc⟩:=I.ok.has x (.inl F)
  obtain ⟨w',z⟩:=I.cell x c hc
  refine wpAny_storeName_cell I.ok.kind F hc z (fun h' R hs => ?_)
  obtain ⟨oc,S,U⟩:=id z
  refine h { s with heap:=h' } ⟨I.ok,I.os,I.bare,⟨fun b o e n hb hx => ?_,fun b o e n hb hx => ?_,I.base.free,fun b o e hx => ?_,I.base.tups,I.base.frzs,I.base.tbls⟩,⟨m,hn.sameBut hs (Ne.symm (cne x c hc)),fun j y v' e1 e2 e3 => ?_⟩,fun y c' e => ?_,I.free,I.freeC,fun p hp => ?_,tracked ⟨oc,S,I.freeC x c hc⟩ hs,by simpa using I.len⟩ ⟨c,hs, .inr hc⟩
  ·exact (hs.2 b (Nat.ne_of_lt (Nat.lt_of_lt_of_le (Heap.lt_size e) (I.ok.cab x c J hc)))).trans (I.base.keep b o e n hb hx)
  ·obtain ⟨sl,e1⟩:=I.base.slot b o e n hb hx
   exact ⟨sl,(hs.2 b (Nat.ne_of_lt (Nat.lt_of_lt_of_le (Heap.lt_size e) (I.ok.cab x c J hc)))).trans e1⟩
  ·obtain ⟨o',e1⟩:=I.base.there b o e hx
   exact ⟨o',(hs.2 b (Nat.ne_of_lt (Nat.lt_of_lt_of_le (Heap.lt_size e) (I.ok.cab x c J hc)))).trans e1⟩
  ·by_cases G:j=i
   ·subst G
    rw [hi] at e1;cases e1
    rw [List.getElem?_set_self O] at e2
    cases e2
    exact ⟨u,r, .inr ⟨.inl F,c,hc,R⟩⟩
   ·rw [List.getElem?_set_ne (Ne.symm G)] at e2
    obtain ⟨u',r',q⟩:=hl j y v' e1 e2 e3
    refine ⟨u',r', ?_⟩
    rcases q with q | ⟨k,c',e,z'⟩
    ·exact .inl q
    ·refine .inr ⟨k,c',e,z'.sameBut hs ?_⟩
     rintro rfl
     exact G (lh hN e1 (I.ok.inj _ _ _ e hc ▸ hi))
  ·by_cases Y:c'=c
   ·subst Y;exact ⟨_,R⟩
   ·obtain ⟨w2,z2⟩:=I.cell y c' e
    exact ⟨w2,z2.sameBut hs Y⟩
  ·obtain ⟨e,n,ne,nf,d⟩:=I.pin p hp
   refine ⟨(hs.2 p.1 ?_).trans e,n,ne,nf,d⟩
   intro q
   rw [q,S] at e
   have q':oc=p.2:=Option.some.inj e
   exact d w' (by rw [<- q'];exact U)
theorem gD {M:Model} {A:Around} {E:Value->Shared->Prop} {i:Nat} {x:Str} {v:V} {u:Value} {Q:Unit->Shared->Prop} (I:Inv X pins σ H s) (j:X.N.Nodup) (hi:X.N[i]? = some x) (hx:Loc X.env.scope x) (r:RelV v u)
 (h:∀ s',Inv X pins (σ.set i (some v)) H s'->Q () s') (hf:X.fn x=true∨X.env.scope.names.lookup x=some .local:=by first | exact .inl rfl | exact .inr rfl | assumption):wpAny M A (storeName X.env x u) Q E s :=
 rL I j hi hx r (fun s' I' _=>h s' I') hf
theorem Inv.call' {s':Shared} {ch:List Addr} (I:Inv X pins σ H s) (ho:s'.os=s.os) (u:Un (frs X.stack) ch H H' s.heap s'.heap) (hok:HOk X.prog X.w H' s'.heap) (n:AllBare s'.gens)
 (j:∀ b∈ch,(b∈X.ex∨X.s₀.heap.objs.size<=b)/\b≠X.env.locals/\(∀ x c,X.env.cells.lookup x=some c->c≠b) /\ ∀ p∈X.pn++pins,p.1≠b):Inv X pins σ H' s':=by
 obtain ⟨h',g',d',t',o'⟩:=s'
 have e:o'=s.os:=ho
 subst e
 exact I.call (g':=g') (t':=t') (d':=d') u hok n j
end
noncomputable abbrev XK:=Value->Option Addr->Hp->Prop
noncomputable abbrev St:=List (Option V)
noncomputable abbrev VK:=V->Hp->Prop
noncomputable abbrev TE:=St->Hp->VK->Prop
noncomputable abbrev TT:=St->Hp->(Bool->Hp->Prop)->Prop
noncomputable abbrev TA:=St->Hp->(List V->Hp->Prop)->Prop
structure bC where
 nx:St->Hp->Prop
 rt:VK
 bk:St->Hp->Prop:=fun _ _=>False
 ct:St->Hp->Prop:=fun _ _=>False
noncomputable abbrev TS:=bC->St->Hp->Prop
noncomputable def EP (X:Cx) (pins:List (Addr×Obj)) (σ:St) (Q:VK) (u:Value) (s':Shared):Prop := ∃ v H',Inv X pins σ H' s'/\RelV v u/\Q v H'
noncomputable def TP (X:Cx) (pins:List (Addr×Obj)) (σ:St) (Q:Bool->Hp->Prop) (b:Bool) (s':Shared):Prop := ∃ H',Inv X pins σ H' s'/\Q b H'
noncomputable def AP (X:Cx) (pins:List (Addr×Obj)) (σ:St) (Q:List V->Hp->Prop) (us:List Value) (s':Shared):Prop := ∃ vs H',Inv X pins σ H' s'/\Vals vs us/\Q vs H'
noncomputable def SP (X:Cx) (pins:List (Addr×Obj)) (D:bC) (f:Flow) (s':Shared):Prop :=
 match f with
 | .next => ∃ σ' H',Inv X pins σ' H' s'/\D.nx σ' H'
 | .brk => ∃ σ' H',Inv X pins σ' H' s'/\D.bk σ' H'
 | .cont => ∃ σ' H',Inv X pins σ' H' s'/\D.ct σ' H'
 | .ret u => ∃ v σ' H',Inv X pins σ' H' s'/\RelV v u/\D.rt v H'
noncomputable def PE (X:Cx) (e:Expr) (t:TE):Prop :=
 ∀ (pins:List (Addr×Obj)) (s:Shared) (σ:St) (H:Hp) (Q:VK),Inv X pins σ H s->t σ H Q->wpAny (model X.prog X.w) X.A (eval e X.env) (EP X pins σ Q) X.xe s
noncomputable def PT (X:Cx) (e:Expr) (t:TT):Prop :=
 ∀ (pins:List (Addr×Obj)) (s:Shared) (σ:St) (H:Hp) (Q:Bool->Hp->Prop),Inv X pins σ H s->t σ H Q->wpAny (model X.prog X.w) X.A (isTrue e X.env (eval e X.env)) (TP X pins σ Q) X.xe s
noncomputable def PW (X:Cx) (e:Expr) (t:TT):Prop :=
 ∀ (whole:Sem Value) (pins:List (Addr×Obj)) (s:Shared) (σ:St) (H:Hp) (Q:Bool->Hp->Prop),Inv X pins σ H s->t σ H Q->wpAny (model X.prog X.w) X.A (isTrue e X.env whole) (TP X pins σ Q) X.xe s
theorem PW.pt {X:Cx} {e:Expr} {t:TT} (h:PW X e t):PT X e t:=h _
noncomputable def PA (X:Cx) (es:List Expr) (t:TA):Prop :=
 ∀ (pos:Pos) (pins:List (Addr×Obj)) (s:Shared) (σ:St) (H:Hp) (Q:List V->Hp->Prop),Inv X pins σ H s->t σ H Q->wpAny (model X.prog X.w) X.A (spliced (backTo pos (starEach es X.env))) (AP X pins σ Q) X.xe s
noncomputable def PS (X:Cx) (st:Stmt) (t:TS):Prop :=
 ∀ (pins:List (Addr×Obj)) (s:Shared) (σ:St) (H:Hp) (D:bC),Inv X pins σ H s->t D σ H->wpAny (model X.prog X.w) X.A (exec st X.env) (SP X pins D) X.xe s
noncomputable def PSs (X:Cx) (st:List Stmt) (t:TS):Prop :=
 ∀ (pins:List (Addr×Obj)) (s:Shared) (σ:St) (H:Hp) (D:bC),Inv X pins σ H s->t D σ H->wpAny (model X.prog X.w) X.A (execs st X.env) (SP X pins D) X.xe s
theorem thn {α:Type} {t:Sem α} {Q Q' : α -> Shared->Prop} {M:Model} {A:Around} {E:Value->Shared->Prop} {s:Shared} (h:wpAny M A t Q E s) (j:∀ a s,Q a s->Q' a s):wpAny M A t Q' E s:=wpAny_mono h j fun _ _ x=>x
end
section
section
variable {X:Cx}
noncomputable def Cz (i:Nat):TE:=fun σ H Q => ∃ v, σ[i]? = some (some v)/\Q v H
noncomputable def tC (v:V):TE:=fun _ H Q=>Q v H
theorem zZ {i:Nat} {x:Str} {pos:Pos} (z:X.N[i]? = some x) (B:Vis X.env.scope x) (hd:(x==("__debug__":Str))=false:=by decide) (q:(x==("__classdict__":Str))=false:=by decide):PE X (.Name x pos) (Cz i):=by
 intro pins s σ H Q I h
 obtain ⟨v,e,h⟩:=h
 obtain ⟨m,hn,F⟩:=I.loc
 obtain ⟨u,r,l⟩:=F i x v z e B
 have fin:EP X pins σ Q u s:=⟨v,H,I,r,h⟩
 rcases l with ⟨n,hm⟩ | ⟨n,c,hc,j⟩
 ·exact wpAny_Name (wpAny_loadName_local I.ok.kind n hn hm fin) hd
 ·rcases n with n | n
  ·exact wpAny_Name (wpAny_loadName_cell I.ok.kind n hc j fin) hd
  ·exact wpAny_Name (wpAny_loadName_free I.ok.kind n hc j fin q) hd
theorem A3 {i j pos}:PE X (.Constant (.int i) j pos) (tC (.int i)):=fun _ _ _ H _ I h=>wpAny_Constant_int ⟨.int i,H,I.tok _,⟨_,rfl⟩,h⟩
theorem BH {b j pos}:PE X (.Constant (.bool b) j pos) (tC (.bl b)):=fun _ _ _ H _ I h=>Constant_bool ⟨.bl b,H,I,rfl,h⟩
theorem A4 {j pos}:PE X (.Constant .none j pos) (tC .non):=fun _ _ _ H _ I h=>Constant_none ⟨.non,H,I,rfl,h⟩
noncomputable def Gl (X:Cx) (x:Str):Prop:=X.env.kindOf x=some .globalImplicit
theorem jb {E:Value->Shared->Prop} {pins:List (Addr×Obj)} {s:Shared} {σ:St} {H:Hp} {x:Str} {u:Value} {pos:Pos} {Q:Value->Shared->Prop} (I:Inv X pins σ H s) (j:Gl X x) (hm:X.mg x=some u) (h:Q u s)
 (hd:(x==("__debug__":Str))=false:=by decide):wpAny (model X.prog X.w) X.A (eval (.Name x pos) X.env) Q E s :=
 Calls.Name_function_global I.ok.kind j (Calls.loadGlobal_global (by rw [I.ok.glob];exact I.mod.glob.keeps I.bk) hm h) hd
theorem dA {E:Value->Shared->Prop} {pins:List (Addr×Obj)} {s:Shared} {σ:St} {H:Hp} {x:Str} {u:Value} {pos:Pos} {Q:Value->Shared->Prop} (I:Inv X pins σ H s) (j:Gl X x) (hm:X.mg x=none) (n:bootBuiltins x=some u) (h:Q u s)
 (hn:x ≠ "__name__" := by decide) (hd:(x==("__debug__":Str))=false:=by decide):wpAny (model X.prog X.w) X.A (eval (.Name x pos) X.env) Q E s:=by
 obtain ⟨mb,h1,h2⟩:=I.mod.blt
 exact Calls.Name_function_global I.ok.kind j (Calls.loadGlobal_builtin (by rw [I.ok.glob];exact I.mod.glob.keeps I.bk) hm (by rw [I.ok.blt];exact h1.keeps I.bk) ((h2 x hn).trans n) h) hd
theorem xU {x:Str} {v:V} {u:Value} {pos:Pos} (j:Gl X x) (hm:X.mg x=some u) (r:RelV v u) (hd:(x==("__debug__":Str))=false:=by decide):PE X (.Name x pos) (tC v) :=
 fun _ _ _ H _ I h=>jb I j hm ⟨v,H,I,r,h⟩ hd
theorem jc {x:Str} {v:V} {u:Value} {pos:Pos} (j:Gl X x) (hm:X.mg x=none) (n:bootBuiltins x=some u) (r:RelV v u) (hn:x ≠ "__name__" := by decide) (hd:(x==("__debug__":Str))=false:=by decide):PE X (.Name x pos) (tC v) :=
 fun _ _ _ H _ I h=>dA I j hm n ⟨v,H,I,r,h⟩ hn hd
variable {a b:Expr} {ta tb:TE} {pos:Pos}
variable {tA tB':TT} {rest:List Expr}
noncomputable def CA (t u:TT):TT:=fun σ H Q=>t σ H fun c H1=>if c=true then u σ H1 Q else Q false H1
noncomputable def tOr (t u:TT):TT:=fun σ H Q=>t σ H fun c H1=>if c=true then Q true H1 else u σ H1 Q
noncomputable def CB (t:TT):TT:=fun σ H Q=>t σ H fun c H1=>Q (!c) H1
theorem xV (ha:PT X a tA):PW X (.BoolOp .And [a] pos) tA:=by
 intro wh pins s σ H Q I h
 refine isTrue_and (thn (ha pins s σ H Q I h) fun c s1 e => ?_)
 cases c with
 | true=>exact isTrue_and_nil e
 | false=>exact e
theorem A5 (ha:PT X a tA):PW X (.BoolOp .Or [a] pos) tA:=by
 intro wh pins s σ H Q I h
 refine isTrue_or (thn (ha pins s σ H Q I h) fun c s1 e => ?_)
 cases c with
 | false=>exact isTrue_or_nil e
 | true=>exact e
theorem A6 (ha:PT X a tA) (hb:PW X (.BoolOp .And (b::rest) pos) tB'):PW X (.BoolOp .And (a::b::rest) pos) (CA tA tB'):=by
 intro wh pins s σ H Q I h
 refine isTrue_and (thn (ha pins s σ H _ I h) fun c s1 ⟨H1,j,n⟩ => ?_)
 cases c with
 | true=>exact hb wh pins s1 σ H1 Q j n
 | false=>exact ⟨H1,j,n⟩
theorem BI (ha:PT X a tA) (hb:PW X (.BoolOp .Or (b::rest) pos) tB'):PW X (.BoolOp .Or (a::b::rest) pos) (tOr tA tB'):=by
 intro wh pins s σ H Q I h
 refine isTrue_or (thn (ha pins s σ H _ I h) fun c s1 ⟨H1,j,n⟩ => ?_)
 cases c with
 | true=>exact ⟨H1,j,n⟩
 | false=>exact hb wh pins s1 σ H1 Q j n
theorem A7 (ha:PT X a tA):PT X (.UnaryOp .Not a pos) (CB tA):=by
 intro pins s σ H Q I h
 exact isTrue_not (ha pins s σ H (fun c H1=>Q (!c) H1) I h)
noncomputable def BJ (ta tb:TE):TE:=fun σ H Q=>ta σ H fun x H1 => ∃ c,x = .bl c/\if c=true then tb σ H1 Q else Q (.bl false) H1
noncomputable def CC (ta tb:TE):TE:=fun σ H Q=>ta σ H fun x H1 => ∃ c,x = .bl c/\if c=true then Q (.bl true) H1 else tb σ H1 Q
noncomputable def BK (ta:TE):TE:=fun σ H Q=>ta σ H fun x H1 => ∃ c,x = .bl c/\Q (.bl (!c)) H1
theorem A8 {op} {t:TE} (h:PE X a t):PE X (.BoolOp op [a] pos) t:=fun pins s σ H Q I hw=>BoolOp_one (h pins s σ H Q I hw)
theorem A9 (ha:PE X a ta) (hb:PE X (.BoolOp .And (b::rest) pos) tb):PE X (.BoolOp .And (a::b::rest) pos) (BJ ta tb):=by
 intro pins s σ H Q I h
 refine BoolOp_and (thn (ha pins s σ H _ I h) fun v s1 ⟨x,H1,n,q,j⟩ => ?_)
 obtain ⟨c,rfl,j⟩:=j
 cases q
 refine wpAny_truthy_bool ?_
 cases c with
 | true=>exact hb pins s1 σ H1 Q n j
 | false=>exact ⟨.bl false,H1,n,rfl,j⟩
theorem BL (ha:PE X a ta) (hb:PE X (.BoolOp .Or (b::rest) pos) tb):PE X (.BoolOp .Or (a::b::rest) pos) (CC ta tb):=by
 intro pins s σ H Q I h
 refine BoolOp_or (thn (ha pins s σ H _ I h) fun v s1 ⟨x,H1,n,q,j⟩ => ?_)
 obtain ⟨c,rfl,j⟩:=j
 cases q
 refine wpAny_truthy_bool ?_
 cases c with
 | false=>exact hb pins s1 σ H1 Q n j
 | true=>exact ⟨.bl true,H1,n,rfl,j⟩
theorem Aa (ha:PE X a ta):PE X (.UnaryOp .Not a pos) (BK ta):=by
 intro pins s σ H Q I h
 refine UnaryOp_ (thn (ha pins s σ H _ I h) fun v s1 ⟨x,H1,n,q,j⟩ => ?_)
 obtain ⟨c,rfl,j⟩:=j
 cases q
 exact not_of (wpAny_truthy_bool ⟨.bl (!c),H1,n,rfl,j⟩)
noncomputable def tIf (t:TT) (ta tb:TE):TE:=fun σ H Q=>t σ H fun c H1=>if c=true then ta σ H1 Q else tb σ H1 Q
theorem uJ {c:Expr} (hc:PT X c tA) (ha:PE X a ta) (hb:PE X b tb):PE X (.IfExp c a b pos) (tIf tA ta tb):=by
 intro pins s σ H Q I h
 refine wpAny_IfExp (thn (hc pins s σ H _ I h) fun d s1 ⟨H1,j,n⟩ => ?_)
 cases d with
 | true=>exact ha pins s1 σ H1 Q j n
 | false=>exact hb pins s1 σ H1 Q j n
end
end
section
noncomputable def SqL (K:Frag) (H:Hp) (a:Addr) (xs:List V):Prop :=
 Rd H a (.lst xs) ∨
  ∃ (o:Obj) (its:Array Value) (n:Nat),K.lookup a=some o/\o.cls = .type "list" /\ o.dict=none/\o.data = .seq its n/\its.size<=sizeLine/\Vals xs its.toList
noncomputable def SqT (K:Frag) (H:Hp) (a:Addr) (xs:List V):Prop :=
 Rd H a (.tup xs) ∨
  ∃ (o:Obj) (its:Array Value) (n:Nat),K.lookup a=some o/\o.cls = .type "tuple" /\ o.data = .seq its n/\its.size<=sizeLine/\Vals xs its.toList
noncomputable def CD:Value->Option V
 | .none=>some .non
 | .bool b=>some (.bl b)
 | .int i _=>some (.int i)
 | .str x _=>some (.str x)
 | .bytes b _=>some (.byt b)
 | .float b _=>some (.flt b)
 | .ref a=>some (.ref a)
 | .type n=>some (.ty n)
 | _=>none
theorem RelV.abs {x:V} {u:Value} (r:RelV x u):CD u=some x:=by
 cases x with
 | non=>cases r;rfl
 | bl _=>cases r;rfl
 | int _=>obtain ⟨t,rfl⟩:=r;rfl
 | str _=>obtain ⟨t,rfl⟩:=r;rfl
 | byt _=>obtain ⟨t,rfl⟩:=r;rfl
 | flt _=>obtain ⟨t,rfl⟩:=r;rfl
 | ref _=>cases r;rfl
 | ty _=>cases r;rfl
theorem RelV.inj {x y:V} {u:Value} (r:RelV x u) (q:RelV y u):x=y:=Option.some.inj (r.abs.symm.trans q.abs)
theorem Vals.inj:∀ {xs ys:List V} {us:List Value},Vals xs us->Vals ys us->xs=ys
 | _,_,_, .nil, .nil=>rfl
 | _,_,_, .cons r t, .cons r' t'=>by rw [r.inj r',Vals.inj t t']
section
variable {X:Cx} {pins:List (Addr×Obj)} {σ:St} {H:Hp} {s:Shared} {a:Addr} {xs ys:List V}
theorem SqL.of {K:Frag} (h:H a=some (.lst xs)):SqL K H a xs := .inl (.inl h)
theorem SqT.of {K:Frag} (h:H a=some (.tup xs)):SqT K H a xs := .inl (.inl h)
theorem Inv.list (I:Inv X pins σ H s) (h:SqL X.K H a xs):∃ its:List Value,Vals xs its/\PlainL s.heap a its.toArray/\xs.length<=sizeLine:=by
 rcases h with h | ⟨o,its,n,j,hc,hd,hs,hz,r⟩
 ·obtain ⟨z,its,n,r,e⟩:=h.ok I.hok
  exact ⟨its,r,⟨_,n,e,rfl,rfl,rfl⟩,z⟩
 ·refine ⟨its.toList,r,⟨o,n,I.kIn a o j,hc,hd,by simpa using hs⟩, ?_⟩
  have e:=r.length
  simp only [Array.length_toList] at e
  omega
theorem Inv.tuple (I:Inv X pins σ H s) (h:SqT X.K H a xs):∃ its:List Value,Vals xs its/\IsTup s.heap a its.toArray/\xs.length<=sizeLine:=by
 rcases h with h | ⟨o,its,n,j,hc,hs,hz,r⟩
 ·obtain ⟨z,its,r,p⟩:=h.ok I.hok
  exact ⟨its,r,p,z⟩
 ·refine ⟨its.toList,r,⟨o,I.kIn a o j,hc,n,by simpa using hs⟩, ?_⟩
  have e:=r.length
  simp only [Array.length_toList] at e
  omega
theorem Inv.list_inj (I:Inv X pins σ H s) (h:SqL X.K H a xs) (h':SqL X.K H a ys):xs=ys:=by
 obtain ⟨its,r,⟨o,n,e,_,_,d⟩,_⟩:=I.list h
 obtain ⟨its',r',⟨o',n',e',_,_,d'⟩,_⟩:=I.list h'
 rw [e] at e';cases e'
 rw [d] at d'
 injection d' with d1 _
 have:its=its':=by simpa using congrArg Array.toList d1
 subst this
 exact r.inj r'
theorem Inv.tuple_inj (I:Inv X pins σ H s) (h:SqT X.K H a xs) (h':SqT X.K H a ys):xs=ys:=by
 obtain ⟨its,r,⟨o,e,_,n,d⟩,_⟩:=I.tuple h
 obtain ⟨its',r',⟨o',e',_,n',d'⟩,_⟩:=I.tuple h'
 rw [e] at e';cases e'
 rw [d] at d'
 injection d' with d1 _
 have:its=its':=by simpa using congrArg Array.toList d1
 subst this
 exact r.inj r'
end
noncomputable abbrev Cx.wish (X:Cx) (E:Value->Shared->Prop):Cx := { X with xe:=E }
noncomputable abbrev Cx.nox (X:Cx):Cx:=X.wish fun _ _=>False
theorem Cx.Ok.wish {X:Cx} (ok:X.Ok) (E:Value->Shared->Prop):(X.wish E).Ok :=
 ⟨ok.mod,ok.kind,ok.glob,ok.blt,ok.above,ok.inj,ok.has,ok.cab,ok.hd,ok.frames,ok.stk,ok.exf,ok.bs,ok.bsz,ok.noex,ok.exfs,ok.funs,ok.frf⟩
theorem Cx.Ok.unwish {X:Cx} {E:Value->Shared->Prop} (ok:(X.wish E).Ok):X.Ok :=
 ⟨ok.mod,ok.kind,ok.glob,ok.blt,ok.above,ok.inj,ok.has,ok.cab,ok.hd,ok.frames,ok.stk,ok.exf,ok.bs,ok.bsz,ok.noex,ok.exfs,ok.funs,ok.frf⟩
section
variable {X:Cx} {pins:List (Addr×Obj)} {σ:St} {H:Hp} {s:Shared} {E:Value->Shared->Prop}
theorem Inv.wish (I:Inv X pins σ H s) (E:Value->Shared->Prop):Inv (X.wish E) pins σ H s:=⟨I.ok.wish E,I.os,I.bare,I.base,I.loc,I.cell,I.free,I.freeC,I.pin,I.hok,I.len⟩
theorem Inv.unwish (I:Inv (X.wish E) pins σ H s):Inv X pins σ H s:=⟨I.ok.unwish,I.os,I.bare,I.base,I.loc,I.cell,I.free,I.freeC,I.pin,I.hok,I.len⟩
theorem SP.unwish {D:bC} {f:Flow} {s':Shared} (h:SP (X.wish E) pins D f s'):SP X pins D f s':=by
 cases f with
 | next=>obtain ⟨σ',H',I,q⟩:=h;exact ⟨σ',H',I.unwish,q⟩
 | brk=>obtain ⟨σ',H',I,q⟩:=h;exact ⟨σ',H',I.unwish,q⟩
 | cont=>obtain ⟨σ',H',I,q⟩:=h;exact ⟨σ',H',I.unwish,q⟩
 | ret u=>obtain ⟨v, σ',H',I,r,q⟩:=h;exact ⟨v, σ',H',I.unwish,r,q⟩
theorem PSs.nox {st:List Stmt} {t:TS} (h:PSs X.nox st t):PSs X st t:=fun pins s σ H D I hw =>
 wpAny_mono (h pins s σ H D (I.wish _) hw) (fun _ _ q=>q.unwish) fun _ _ z=>False.elim z
end
section
variable {X:Cx} {st:Stmt} {rest:List Stmt} {t u:TS} {e:Expr} {te:TE} {pos:Pos}
noncomputable def pV:TS:=fun D σ H=>D.nx σ H
noncomputable def Ab (t u:TS):TS:=fun D σ H=>t { D with nx:=u D } σ H
theorem xW:PSs X [] pV:=fun _ _ σ H _ I h=>wpAny_execs_nil ⟨σ,H,I,h⟩
theorem uK (h1:PS X st t) (h2:PSs X rest u):PSs X (st::rest) (Ab t u):=by
 intro pins s σ H D I h
 refine wpAny_execs_cons (thn (h1 pins s σ H { D with nx:=u D } I h) fun f s1 q => ?_)
 cases f with
 | next =>
   obtain ⟨σ',H',I',q⟩:=q
   exact h2 pins s1 σ' H' D I' q
 | ret v=>exact q
 | brk=>exact q
 | cont=>exact q
noncomputable def rM:TS:=fun D σ H=>D.bk σ H
noncomputable def xi:TS:=fun D σ H=>D.ct σ H
theorem xX:PS X (.Pass pos) pV:=fun _ _ σ H _ I h=>wpAny_Pass ⟨σ,H,I,h⟩
theorem uL:PS X (.Break pos) rM:=fun _ _ σ H _ I h=>wpAny_Break ⟨σ,H,I,h⟩
theorem nY:PS X (.Continue pos) xi:=fun _ _ σ H _ I h=>wpAny_Continue ⟨σ,H,I,h⟩
theorem Inv.quiet {pins:List (Addr×Obj)} {σ:St} {H:Hp} {s:Shared} (I:Inv X pins σ H s):interactive X.env=false:=by simp [interactive,I.ok.kind]
noncomputable def xj (te:TE):TS:=fun D σ H=>te σ H fun _ H1=>D.nx σ H1
theorem xY (he:PE X e te) (hs:swapsWith e none pos.line X.env=pure false:=by rfl):PS X (.Expr e pos) (xj te):=by
 intro pins s σ H D I h
 exact wpAny_Expr_any (thn (he pins s σ H _ I h) fun v s1 ⟨x,H1,j,q,n⟩=>⟨σ,H1,j,n⟩) I.quiet hs
noncomputable def Ac (te:TE):TS:=fun D σ H=>te σ H D.rt
theorem Ad (he:PE X e te):PS X (.Return (some e) pos) (Ac te):=by
 intro pins s σ H D I h
 exact wpAny_Return_some (thn (he pins s σ H _ I h) fun v s1 ⟨x,H1,j,n,q⟩=>⟨x, σ,H1,j,n,q⟩)
noncomputable def Ae (c:TT) (t u:TS):TS:=fun D σ H=>c σ H fun b H1=>if b=true then t D σ H1 else u D σ H1
theorem BM {c:Expr} {a b:List Stmt} {tc:TT} (hc:PT X c tc) (ha:PSs X a t) (hb:PSs X b u):PS X (.If c a b pos) (Ae tc t u):=by
 intro pins s σ H D I h
 refine wpAny_If (thn (hc pins s σ H _ I h) fun d s1 ⟨H1,j,n⟩ => ?_)
 cases d with
 | true=>exact ha pins s1 σ H1 D j n
 | false=>exact hb pins s1 σ H1 D j n
end
noncomputable abbrev TG:=V->St->Hp->(St->Hp->Prop)->Prop
noncomputable abbrev TGs:=List V->St->Hp->(St->Hp->Prop)->Prop
noncomputable def PG (X:Cx) (target:Expr) (t:TG):Prop :=
 ∀ (pins:List (Addr×Obj)) (s:Shared) (σ:St) (H:Hp) (v:V) (u:Value) (Q:St->Hp->Prop),Inv X pins σ H s->RelV v u->t v σ H Q ->
  wpAny (model X.prog X.w) X.A (assign target X.env u) (fun _ s' => ∃ σ' H',Inv X pins σ' H' s'/\Q σ' H') X.xe s
noncomputable def PGs (X:Cx) (ts:List Expr) (t:TGs):Prop :=
 ∀ (pins:List (Addr×Obj)) (s:Shared) (σ:St) (H:Hp) (vs:List V) (us:List Value) (Q:St->Hp->Prop),Inv X pins σ H s->Vals vs us->t vs σ H Q ->
  wpAny (model X.prog X.w) X.A (assignInOrder ((assignEach ts X.env).map (·.2)) us) (fun _ s' => ∃ σ' H',Inv X pins σ' H' s'/\Q σ' H') X.xe s
noncomputable abbrev jd:=V->V->V->Hp->(Hp->Prop)->Prop
noncomputable def PSet (X:Cx) (t:jd):Prop :=
 ∀ (pins:List (Addr×Obj)) (s:Shared) (σ:St) (H:Hp) (o i v:V) (ov iv u:Value) (Q:Hp->Prop),Inv X pins σ H s->RelV o ov->RelV i iv->RelV v u->t o i v H Q ->
  wpAny (model X.prog X.w) X.A (setItem ov iv u) (fun _ s' => ∃ H',Inv X pins σ H' s'/\Q H') X.xe s
noncomputable abbrev TIp:=V->V->Hp->VK->Prop
noncomputable def PIp (X:Cx) (op:Operator) (t:TIp):Prop :=
 ∀ (pins:List (Addr×Obj)) (s:Shared) (σ:St) (H:Hp) (x y:V) (v u:Value) (Q:VK),Inv X pins σ H s->RelV x v->RelV y u->t x y H Q ->
  wpAny (model X.prog X.w) X.A (inplaceOp op v u) (EP X pins σ Q) X.xe s
section
variable {X:Cx} {pos:Pos}
noncomputable def i4 (i:Nat):TG:=fun v σ H Q=>Q (σ.set i (some v)) H
theorem ox {i:Nat} {x:Str} (j:X.N.Nodup) (hi:X.N[i]? = some x) (hx:Loc X.env.scope x) (hf:X.fn x=true∨X.env.scope.names.lookup x=some .local:=by first | exact .inl rfl | exact .inr rfl | assumption):PG X (.Name x pos) (i4 i):=by
 intro pins s σ H v u Q I r h
 exact wpAny_assign_Name (gD I j hi hx r (fun s' I'=>⟨_,H,I',h⟩) hf)
noncomputable def CF:TGs:=fun vs σ H Q=>vs=[]/\Q σ H
noncomputable def BN (t:TG) (u:TGs):TGs:=fun vs σ H Q => ∃ v r,vs=v::r/\t v σ H fun σ' H'=>u r σ' H' Q
theorem xZ:PGs X [] CF:=by
 intro pins s σ H vs us Q I r h
 obtain ⟨e,h⟩:=h
 subst e
 cases r
 exact assignInOrder_nil ⟨σ,H,I,h⟩
theorem uM {e:Expr} {es:List Expr} {t:TG} {u:TGs} (h1:PG X e t) (h2:PGs X es u)
 (hs:(assignEach (e::es) X.env).map (·.2)=assign e X.env::(assignEach es X.env).map (·.2):=by rfl):PGs X (e::es) (BN t u):=by
 intro pins s σ H vs us Q I r h
 obtain ⟨v,vr,e1,h⟩:=h
 subst e1
 cases r with
 | cons r rr =>
   rw [hs]
   refine assignInOrder_cons (thn (h1 pins s σ H _ _ _ I r h) fun _ s1 ⟨σ1,H1,j,n⟩ => ?_)
   exact h2 pins s1 σ1 H1 _ _ Q j rr n
noncomputable def CG (K:Frag) (n:Nat) (t:TGs):TG:=fun v σ H Q => ∃ a xs,v = .ref a/\SqT K H a xs/\xs.length=n/\t xs σ H Q
theorem Af {es:List Expr} {k:Nat} {t:TGs} {n:Nat} (hc:X.calm=true) (h:PGs X es t)
 (hn:(assignEach es X.env).length=n:=by rfl) (j:(assignEach es X.env).findIdx? (·.1)=none:=by rfl):PG X (.Tuple es k pos) (CG X.K n t):=by
 intro pins s σ H v u Q I r hw
 obtain ⟨a,xs,e1,q,z,hw⟩:=hw
 subst e1
 cases r
 obtain ⟨its,rv,B,hz⟩:=I.tuple q
 refine assign_Tuple_tuple (I.ok.hd hc) B (by simp [hn, <- z,rv.length]) j fun h' hx => ?_
 have F:Inv X pins σ H { s with heap:=h' }:=I.kept (t':=s.toks) fun b o e=>hx b o (Nat.ne_of_lt (Heap.lt_size e)) e
 exact h pins _ σ H xs _ Q F (by simpa using rv) hw
noncomputable def CH (to ti:TE) (t:jd):TG:=fun v σ H Q=>to σ H fun o H1=>ti σ H1 fun i H2=>t o i v H2 fun H3=>Q σ H3
theorem Ag {o i:Expr} {to ti:TE} {t:jd} (ho:PE X o to) (hi:PE X i ti) (hs:PSet X t)
 (ha:∀ v,assign (.Subscript o i pos) X.env v=(do
   let ov <- holding [v] (eval o X.env)
   let iv <- holding [v,ov] (eval i X.env)
   standAt pos
   holding [v,ov,iv] (setItem ov iv v)
   release [v,ov,iv] []):=by intro _;rfl):PG X (.Subscript o i pos) (CH to ti t):=by
 intro pins s σ H v u Q I r h
 rw [ha]
 refine wpAny_bind (wpAny_holding (thn (ho pins s σ H _ I h) fun ov s1 ⟨x,H1,j,n,q⟩ => ?_))
 refine wpAny_bind (wpAny_holding (thn (hi pins s1 σ H1 _ j q) fun iv s2 ⟨y,H2,z,B,F⟩ => ?_))
 refine wpAny_bind (wpAny_standAt (wpAny_bind (wpAny_holding (thn (hs pins s2 σ H2 x y v ov iv u _ z n B r F) fun _ s3 ⟨G,J,L⟩ => ?_))))
 exact wpAny_release ⟨σ,G,J,L⟩
noncomputable def pW (te:TE) (g:TG):TS:=fun D σ H=>te σ H fun x H1=>g x σ H1 D.nx
theorem rN {tg e:Expr} {te:TE} {g:TG} (he:PE X e te) (j:PG X tg g) (hs:swapsWithSole [tg] e pos.line X.env=pure false:=by rfl) (hw:swappedStores [tg] e X.env=pure none:=by rfl)
 (h1:(assignEach [tg] X.env).map (·.2)=[assign tg X.env]:=by rfl):PS X (.Assign [tg] e pos) (pW te g):=by
 intro pins s σ H D I h
 refine wpAny_Assign_stores (thn (he pins s σ H _ I h) fun v s1 ⟨x,H1,n,z,B⟩ => ?_) hs hw
 rw [h1]
 exact thn (j pins s1 σ H1 x v _ n z B) fun _ s2 q=>q
noncomputable def Ah (i j:Nat) (ta:TA):TS:=fun D σ H=>ta σ H fun vs H1 => ∃ v w,vs=[v,w]/\D.nx ((σ.set i (some v)).set j (some w)) H1
theorem Ai {i j:Nat} {x y:Str} {a b:Expr} {ta:TA} {px py pt:Pos} {kt k2 n} (hc:X.calm=true) (L:X.N.Nodup) (hi:X.N[i]? = some x) (R:X.N[j]? = some y) (F:i≠j)
 (hx:X.env.scope.names.lookup x=some .local) (hy:X.env.scope.names.lookup y=some .local) (ha:PA X [a,b] ta)
 (hw:swappedStores [.Tuple [.Name x px, .Name y py] kt pt] (.Tuple [a,b] k2 n) X.env=pure (some [x,y]))
 (hs:swapsWithSole [.Tuple [.Name x px, .Name y py] kt pt] (.Tuple [a,b] k2 n) pos.line X.env=pure false:=by rfl) :
 PS X (.Assign [.Tuple [.Name x px, .Name y py] kt pt] (.Tuple [a,b] k2 n) pos) (Ah i j ta):=by
 intro pins s σ H D I h
 rw [exec_Assign_arm]
 refine wpAny_bind (wpAny_standAt ?_)
 rw [hs]
 refine wpAny_bind (wpAny_pure ?_)
 rw [if_neg (by decide)]
 refine wpAny_bind (Tuple_ (thn (ha _ pins s σ H _ I h) fun us s1 ⟨vs,H1,S,U,G⟩ => ?_))
 obtain ⟨v,w,e1,G⟩:=G
 subst e1
 obtain ⟨z,B,rfl,rv,rw'⟩:∃ z B,us=[z,B]/\RelV v z/\RelV w B:=by
  cases U with
  | cons p q =>
    cases q with
    | cons p' q' =>
      cases q'
      exact ⟨_,_,rfl,p,p'⟩
 refine wpAny_newObj_type ?_ (by show 2<=sizeLine;decide)
 have Y:Inv X pins σ H1 { s1 with heap:=s1.heap.push { cls := .type "tuple",data := .seq [z,B].toArray } }:=S.kept (t':=s1.toks) fun b o e=>Heap.get?_push_of_some _ e
 rw [hw]
 refine wpAny_bind (wpAny_pure ?_)
 show wpAny (model X.prog X.w) X.A (do rule "assign.swapped-stores";let items <- unpackItems (.ref s1.heap.objs.size) 2 none;assignInOrder [fun v=>bindName X.env y v,fun v=>bindName X.env x v] items.reverse;pure Flow.next) _ _ _
 refine wpAny_bind (wpAny_rule (wpAny_bind (unpackItems_tuple (items := #[z,B]) (I.ok.hd hc) (IsTup.new s1.heap _) fun h' J => ?_)))
 have Z:=Y.kept (h':=h') (t':=s1.toks) fun b o e=>J b o (Nat.ne_of_lt (Heap.lt_size e)) e
 show wpAny _ _ (assignInOrder [fun v=>bindName X.env y v,fun v=>bindName X.env x v] [B,z] >>= fun _=>pure Flow.next) _ _ _
 refine wpAny_bind (assignInOrder_cons (wpAny_bindName (gD Z L R (.inl hy) rw' (fun s2 I4 => ?_) (.inr hy))))
 refine assignInOrder_cons (wpAny_bindName (gD I4 L hi (.inl hx) rv (fun s3 O=>assignInOrder_nil (wpAny_pure ?_)) (.inr hx)))
 rw [List.set_comm _ _ (Ne.symm F)] at O
 exact ⟨_,H1,O,G⟩
noncomputable def BO (to ti te:TE) (tget:V->V->Hp->VK->Prop) (tip:TIp) (tset:jd):TS:=fun D σ H=>to σ H fun o H1=>ti σ H1 fun i H2=>tget o i H2 fun x H3=>te σ H3 fun y H4=>tip x y H4 fun z H5=>tset o i z H5 fun H6=>D.nx σ H6
noncomputable def Aj (X:Cx) (t:V->V->Hp->VK->Prop):Prop :=
 ∀ (pins:List (Addr×Obj)) (s:Shared) (σ:St) (H:Hp) (o i:V) (ov iv:Value) (Q:VK),Inv X pins σ H s->RelV o ov->RelV i iv->t o i H Q ->
  wpAny (model X.prog X.w) X.A (getItem ov iv) (EP X pins σ Q) X.xe s
theorem y4 {o i e:Expr} {to ti te:TE} {tget:V->V->Hp->VK->Prop} {tip:TIp} {tset:jd} {op:Operator} {tpos:Pos} (ho:PE X o to) (hi:PE X i ti) (B:Aj X tget) (he:PE X e te) (hp:PIp X op tip) (hs:PSet X tset)
 (ha:∀ ov iv new,augStore i ov iv new=(do holding [new,ov,iv] (setItem ov iv new);release [new,ov,iv] [];pure .next):=by intros;rfl):PS X (.AugAssign (.Subscript o i tpos) op e pos) (BO to ti te tget tip tset):=by
 intro pins s σ H D I h
 refine wpAny_AugAssign_SubscriptAny (thn (ho pins s σ H _ I h) fun ov s1 ⟨j,H1,F,n,G⟩ => ?_) ha
 refine thn (hi pins s1 σ H1 _ F G) fun iv s2 ⟨q,H2,J,z,L⟩ => ?_
 refine thn (B pins s2 σ H2 j q ov iv _ J n z L) fun old s3 ⟨O,R,S,U,Y⟩ => ?_
 refine thn (he pins s3 σ R _ S Y) fun v s4 ⟨Z,H4,I4,r4,q4⟩ => ?_
 refine thn (hp pins s4 σ H4 O Z old v _ I4 U r4 q4) fun new s5 ⟨x5,H5,I5,r5,q5⟩ => ?_
 exact thn (hs pins s5 σ H5 j q x5 ov iv new _ I5 n z r5 q5) fun _ s6 ⟨H6,I6,q6⟩=>⟨σ,H6,I6,q6⟩
end
section
variable {X:Cx} {pos:Pos}
noncomputable def rO (c:TT) (tb:TS):TS:=fun D σ H => ∃ W:Nat->St->Hp->Prop,(∃ m,W m σ H) /\ ∀ m σ H,W m σ H ->
 c σ H fun b H1=>if b=true then ∃ N:St->Hp->Prop,(∀ σ' H',N σ' H' -> ∃ m',m' < m/\W m' σ' H')/\tb { D with nx:=N,ct:=N,bk:=D.nx } σ H1 else D.nx σ H1
theorem uN {c:Expr} {body:List Stmt} {tc:TT} {tb:TS} (hp:PassesOwn (model X.prog X.w) X.A X.env X.xe) (hc:PT X c tc) (hb:PSs X body tb):PS X (.While c body [] pos) (rO tc tb):=by
 intro pins s σ H D I h
 obtain ⟨W,⟨m0,O⟩,turn⟩:=h
 refine wpAny_While (codeAny_whileLoop (fun n s' => ∃ σ' H',Inv X pins σ' H' s'/\W n σ' H') ?_ m0 ⟨σ,H,I,O⟩)
 rintro n s1 ⟨σ1,H1,R,S⟩
 refine wpAny_passesOwn hp (thn (hc pins s1 σ1 H1 _ R (turn n σ1 H1 S)) fun b s2 ⟨H2,J,q⟩ => ?_)
 cases b with
 | true =>
   obtain ⟨N,L,q⟩:=q
   rw [if_pos rfl]
   refine wpAny_passesOwn hp (thn (hb pins s2 σ1 H2 _ J q) fun f s3 z => ?_)
   cases f with
   | next =>
     obtain ⟨σ3,j,B,F⟩:=z
     obtain ⟨m',hm,G⟩:=L σ3 j F
     exact ⟨m',hm, σ3,j,B,G⟩
   | cont =>
     obtain ⟨σ3,j,B,F⟩:=z
     obtain ⟨m',hm,G⟩:=L σ3 j F
     exact ⟨m',hm, σ3,j,B,G⟩
   | brk=>exact z
   | ret v=>exact z
 | false =>
   rw [if_neg Bool.false_ne_true]
   exact wpAny_execs_nil ⟨σ1,H2,J,q⟩
end
structure It where
 go:Nat->Hp->Prop
 yld:Nat->Hp->V->Hp->Prop
 stop:Nat->Hp->Prop
noncomputable def bY (X:Cx) (pins:List (Addr×Obj)) (H:Hp) (b:Addr):Prop :=
 H b=none/\b≠X.env.locals/\b∉X.fs/\(b∈X.ex∨X.s₀.heap.objs.size<=b)/\(∀ x c,X.env.cells.lookup x=some c->c≠b) /\ ∀ p∈X.pn++pins,p.1≠b
theorem Inv.fpOk {X:Cx} {pins:List (Addr×Obj)} {σ:St} {H H':Hp} {s:Shared} {b:Addr} (I:Inv X pins σ H s) (hb:s.heap.objs.size<=b) (hn:H' b=none):bY X pins H' b:=by
 refine ⟨hn,Nat.ne_of_gt (Nat.lt_of_lt_of_le I.lt hb),I.nofs hb, .inr (Nat.le_trans I.sz hb),fun x c e z => ?_,fun p hp z => ?_⟩
 ·obtain ⟨v,q⟩:=I.cell x c e
  exact absurd (Nat.lt_of_lt_of_le q.lt (by rw [z];exact hb)) (Nat.lt_irrefl _)
 ·exact absurd (Nat.lt_of_lt_of_le (Heap.lt_size (I.pin p hp).1) (by rw [z];exact hb)) (Nat.lt_irrefl _)
structure eJ (P:Program) (w:World) (K:Frag) (tg:Expr) (J:It) (fp:List Addr) (it:Addr) (tn:Nat->Heap->Prop):Prop where
 mem:it∈fp
 obj:∀ i h,tn i h -> ∀ b∈fp, ∃ o,h.get? b=some o /\ ∀ v,o.data ≠ .cell v
 keep:∀ i h h',tn i h->(∀ b∈fp, ∀ o,h.get? b=some o->h'.get? b=some o)->tn i h'
 item:∀ (X:Cx),X.prog=P->X.w=w->X.K=K->X.calm=true -> ∀ (i:Nat) (pins:List (Addr×Obj)) (s:Shared) (σ:St) (H:Hp) (E:Value->Shared->Prop),Inv X pins σ H s->(∀ b∈fp,bY X pins H b)->tn i s.heap->J.go i H ->
  wpAny (model P w) X.A (pyNext (.ref it)) (fun r s1 => ∃ u,r=some u /\
   wpAny (model P w) X.A (letOwnedTupleGo tg (.ref it) u) (fun _ s2 => ∃ x H',Inv X pins σ H' s2/\RelV x u/\J.yld i H x H'/\tn (i+1) s2.heap /\ ∀ b∈fp,H' b=none) E s1) E s
 done:∀ (X:Cx),X.prog=P->X.w=w->X.K=K->X.calm=true -> ∀ (i:Nat) (pins:List (Addr×Obj)) (s:Shared) (σ:St) (H:Hp) (E:Value->Shared->Prop),Inv X pins σ H s->(∀ b∈fp,bY X pins H b)->tn i s.heap->J.stop i H ->
  wpAny (model P w) X.A (pyNext (.ref it)) (fun r s1=>r=none/\Inv X pins σ H s1) E s
 self:∀ (A:Around) (i:Nat) (s:Shared) (Q:Value->Shared->Prop) (E:Value->Shared->Prop),tn i s.heap->Q (.ref it) s->wpAny (model P w) A (pyIter (.ref it)) Q E s
noncomputable abbrev TI:=St->Hp->(It->Hp->Prop)->Prop
noncomputable def PIE (X:Cx) (pins:List (Addr×Obj)) (σ:St) (tg:Expr) (R:It->Hp->Prop) (itv:Value) (s2:Shared):Prop :=
 ∃ (it:Addr) (fp:List Addr) (tn:Nat->Heap->Prop) (J:It) (H':Hp),itv = .ref it/\Inv X pins σ H' s2/\eJ X.prog X.w X.K tg J fp it tn/\tn 0 s2.heap/\(∀ b∈fp,bY X pins H' b)/\R J H'
noncomputable def PI (X:Cx) (tg iter:Expr) (wi:TI):Prop :=
 ∀ (pins:List (Addr×Obj)) (s:Shared) (σ:St) (H:Hp) (R:It->Hp->Prop),Inv X pins σ H s->wi σ H R ->
  wpAny (model X.prog X.w) X.A (eval iter X.env) (fun v s1=>wpAny (model X.prog X.w) X.A (pyIter v) (PIE X pins σ tg R) X.xe s1) X.xe s
theorem kM {M:Model} {A:Around} {E:Value->Shared->Prop} {s:Shared} {tg:Expr} {it:Addr} {u:Value} {o:Obj} {n:String} {vs:Array Value} {Q:Unit->Shared->Prop} (ho:s.heap.get? it=some o) (hc:o.cls = .type n) (hd:o.data = .fields vs)
 (hn : ["enumerate", "zip", "dict_itemiterator", "dict_reverseitemiterator", "odict_iterator", "itertools.zip_longest", "itertools.pairwise"].contains n=false) (j:Q () s):wpAny M A (letOwnedTupleGo tg (.ref it) u) Q E s:=by
 unfold letOwnedTupleGo
 cases tg <;> first
  | exact wpAny_pure j
  | (cases u <;> first
      | exact wpAny_pure j
      | (refine wpAny_bind (wpAny_load ho ?_)
         rw [hc,hd]
         show wpAny M A (if (["enumerate", "zip", "dict_itemiterator", "dict_reverseitemiterator", "odict_iterator", "itertools.zip_longest", "itertools.pairwise"].contains n&&vs[0]? == some (rawInt _))=true then _ else _) Q E s
         rw [if_neg (by intro h;rw [hn,Bool.false_and] at h;cases h)]
         exact wpAny_pure j))
noncomputable def Itl (K:Frag) (a:Addr):It :=
 ⟨fun i H => ∃ xs x,SqL K H a xs/\xs[i]? = some x,fun i H x H'=>H'=H /\ ∀ xs,SqL K H a xs->xs[i]? = some x,fun i H => ∃ xs,SqL K H a xs/\xs.length<=i⟩
noncomputable def Itt (K:Frag) (a:Addr):It :=
 ⟨fun i H => ∃ xs x,SqT K H a xs/\xs[i]? = some x,fun i H x H'=>H'=H /\ ∀ xs,SqT K H a xs->xs[i]? = some x,fun i H => ∃ xs,SqT K H a xs/\xs.length<=i⟩
noncomputable def Itr (lo:Int) (n:Nat):It:=⟨fun i _=>i < n,fun i H x H'=>H'=H/\x = .int (lo+i),fun i _=>n<=i⟩
theorem rP {P:Program} {w:World} {K:Frag} {tg:Expr} (a it:Addr):eJ P w K tg (Itl K a) [it] it (fun i h=>h.IsListIter it a i) where
 mem:=by simp
 obj:=fun i h st b hb=>by
  have e:b=it:=by simpa using hb
  subst e
  obtain ⟨o,e,c,d⟩:=st
  exact ⟨o,e,fun v z=>by rw [d] at z;cases z⟩
 keep:=fun i h h' st k=>st.at fun o e=>k it (by simp) o e
 item:=by
  intro X n hw q hc i pins s σ H E I hf st hg
  subst n hw q
  obtain ⟨xs,x,j,hx⟩:=hg
  obtain ⟨its,rv,p,hz⟩:=I.list j
  obtain ⟨u,G,ru⟩:=rv.get hx
  obtain ⟨f0,f1,f2,B,f4,F⟩:=hf it (by simp)
  refine wpAny_pyNext_list_item st p.isList (x:=u) (by simpa using G) fun h' st' sb => ?_
  have J:Inv X pins σ H { s with heap:=h' }:=I.turned (t':=s.toks) (fun b o hb e=>(sb.2 b hb).trans e) f0 f1 B f4 F
  obtain ⟨o,e,c,d⟩:=id st'
  exact ⟨u,rfl,kM (s := { s with heap:=h' }) e c d (by decide) ⟨x,H,J,ru,⟨rfl,fun ys hy=>by rw [I.list_inj hy j];exact hx⟩,st',fun b hb=>(hf b hb).1⟩⟩
 done:=by
  intro X n hw q hc i pins s σ H E I hf st hg
  subst n hw q
  obtain ⟨xs,j,hx⟩:=hg
  obtain ⟨its,rv,p,hz⟩:=I.list j
  obtain ⟨f0,f1,f2,B,f4,F⟩:=hf it (by simp)
  have L:=rv.length
  exact wpAny_pyNext_list_end (I.ok.hd hc) st p.isList (by simp;omega) fun h' eb=>⟨rfl,I.turned (t':=s.toks) (fun b o hb e=>eb b o hb e) f0 f1 B f4 F⟩
 self:=fun _ _ _ _ _ st h=>wpAny_pyIter_listiter st h
theorem pX {P:Program} {w:World} {K:Frag} {tg:Expr} (a it:Addr):eJ P w K tg (Itt K a) [it] it (fun i h=>h.IsTupleIter it a i) where
 mem:=by simp
 obj:=fun i h st b hb=>by
  have e:b=it:=by simpa using hb
  subst e
  obtain ⟨o,e,c,d⟩:=st
  exact ⟨o,e,fun v z=>by rw [d] at z;cases z⟩
 keep:=fun i h h' st k=>st.at fun o e=>k it (by simp) o e
 item:=by
  intro X n hw q hc i pins s σ H E I hf st hg
  subst n hw q
  obtain ⟨xs,x,j,hx⟩:=hg
  obtain ⟨its,rv,p,hz⟩:=I.tuple j
  obtain ⟨u,G,ru⟩:=rv.get hx
  obtain ⟨f0,f1,f2,B,f4,F⟩:=hf it (by simp)
  refine wpAny_pyNext_tuple_item st (show s.heap.IsTuple a its.toArray from p) (x:=u) (by simpa using G) fun h' st' sb => ?_
  have J:Inv X pins σ H { s with heap:=h' }:=I.turned (t':=s.toks) (fun b o hb e=>(sb.2 b hb).trans e) f0 f1 B f4 F
  obtain ⟨o,e,c,d⟩:=id st'
  exact ⟨u,rfl,kM (s := { s with heap:=h' }) e c d (by decide) ⟨x,H,J,ru,⟨rfl,fun ys hy=>by rw [I.tuple_inj hy j];exact hx⟩,st',fun b hb=>(hf b hb).1⟩⟩
 done:=by
  intro X n hw q hc i pins s σ H E I hf st hg
  subst n hw q
  obtain ⟨xs,j,hx⟩:=hg
  obtain ⟨its,rv,p,hz⟩:=I.tuple j
  obtain ⟨f0,f1,f2,B,f4,F⟩:=hf it (by simp)
  have L:=rv.length
  exact wpAny_pyNext_tuple_end (I.ok.hd hc) st (show s.heap.IsTuple a its.toArray from p) (by simp;omega) fun h' eb=>⟨rfl,I.turned (t':=s.toks) (fun b o hb e=>eb b o hb e) f0 f1 B f4 F⟩
 self:=fun _ _ _ _ _ st h=>wpAny_pyIter_tupleiter st h
theorem pY {P:Program} {w:World} {K:Frag} {tg:Expr} (it:Addr) (lo:Int) (n:Nat):eJ P w K tg (Itr lo n) [it] it (fun i h=>IsRangeIter h it (lo+(i:Nat)*1) ((n:Int) - (i:Nat)) 1) where
 mem:=by simp
 obj:=fun i h st b hb=>by
  have e:b=it:=by simpa using hb
  subst e
  exact ⟨_,st,fun v z=>by
   have z':Data.fields _=Data.cell v:=z
   cases z'⟩
 keep:=fun i h h' st k=>k it (by simp) _ st
 item:=by
  intro X j hw q hc i pins s σ H E I hf st hg
  subst j hw q
  obtain ⟨f0,f1,f2,B,f4,F⟩:=hf it (by simp)
  have W:=Walks.range (prog:=X.prog) (w:=X.w) (I.ok.hd hc) it lo 1 n
  refine W.item i s _ _ hg st fun v h' tk G st' kk => ?_
  obtain ⟨t,rfl⟩:=G
  have J:Inv X pins σ H { s with heap:=h',toks:=tk }:=I.turned (fun b o hb e=>kk b o (by simpa using hb) e) f0 f1 B f4 F
  refine ⟨_,rfl,kM (s := { s with heap:=h',toks:=tk }) (n := "range_iterator") st' rfl rfl (by decide) ⟨.int (lo+i),H,J,⟨t, ?_⟩,⟨rfl,rfl⟩,st',fun b hb=>(hf b hb).1⟩⟩
  rw [Int.mul_one]
 done:=by
  intro X j hw q hc i pins s σ H E I hf st hg
  subst j hw q
  obtain ⟨f0,f1,f2,B,f4,F⟩:=hf it (by simp)
  exact wpAny_pyNext_range_end (I.ok.hd hc) st (by have:n<=i:=hg;omega) fun h' eb=>⟨rfl,I.turned (t':=s.toks) (fun b o hb e=>eb b o hb e) f0 f1 B f4 F⟩
 self:=fun _ _ _ _ _ st h=>wpAny_pyIter_rangeiter st h
end
section
section
variable {X:Cx} {tg:Expr}
theorem uO {pins:List (Addr×Obj)} {σ:St} {H:Hp} {s:Shared} {R:It->Hp->Prop} {E:Value->Shared->Prop} {lo hi:Int} {t u v:Tok} {tk:Nat} (I:Inv X pins σ H s) (h1 : -(2 ^ 62)<=lo) (h2:lo < 2 ^ 62) (n : -(2 ^ 62)<=hi) (z:hi < 2 ^ 62)
 (q:R (Itr lo (hi - lo).toNat) H):wpAny (model X.prog X.w) X.A (pyIter (.ref s.heap.objs.size)) (PIE X pins σ tg R) E { s with heap:=s.heap.push { cls := .type "range",data := .fields #[.int lo t, .int hi u, .int 1 v] },toks:=tk }:=by
 refine wpAny_pyIter_range (IsRange.new ..) (small_one h1 h2 n z) ?_
 have j:Inv X pins σ H { s with heap:=s.heap.push { cls := .type "range",data := .fields #[.int lo t, .int hi u, .int 1 v] },toks:=tk }:=I.kept fun b o e=>Heap.get?_push_of_some _ e
 refine ⟨(s.heap.push { cls := .type "range",data := .fields #[.int lo t, .int hi u, .int 1 v] }).objs.size,[(s.heap.push { cls := .type "range",data := .fields #[.int lo t, .int hi u, .int 1 v] }).objs.size],_,_,H,rfl,
  j.kept (t':=tk) fun b o e=>Heap.get?_push_of_some _ e,pY _ lo (hi - lo).toNat, ?_,fun b hb => ?_,q⟩
 ·have e1:lo+((0:Nat):Int)*1=lo:=by simp
  have e2:(((hi - lo).toNat:Nat):Int) - ((0:Nat):Int)=Builtin.Range.rangeSize lo hi 1:=by rw [rangeSize_one];split <;> omega
  show IsRangeIter _ _ (lo+((0:Nat):Int)*1) ((((hi - lo).toNat:Nat):Int) - ((0:Nat):Int)) 1
  rw [e1,e2]
  exact Heap.get?_push_size _ rfl
 ·have e:b=(s.heap.push { cls := .type "range",data := .fields #[.int lo t, .int hi u, .int 1 v] }).objs.size:=by simpa using hb
  subst e
  exact j.fpOk (Nat.le_refl _) (j.hok.fresh (Nat.le_refl _))
noncomputable def BP (ta:TA):TI:=fun σ H R=>ta σ H fun vs H1 => ∃ j:Int,vs=[.int j] /\ -(2 ^ 62)<=j/\j < 2 ^ 62/\R (Itr 0 j.toNat) H1
theorem rQ {a:Expr} {ta:TA} {p pos:Pos} (z:Gl X "range") (hm:X.mg "range" = none) (ha:PA X [a] ta) (hs:starEach [a] X.env=[(false,eval a X.env)]:=by rfl):PI X tg (.Call (.Name "range" p) [a] [] pos) (BP ta):=by
 intro pins s σ H R I h
 refine Call_ (dA I z hm boot_range (PyProof.Rows.callWith_type1 (thn (ha pos pins s σ H _ I h) fun us s1 ⟨vs,H1,B,F,n⟩ => ?_) hs rfl))
 obtain ⟨j,e,n,G,q⟩:=n
 subst e
 cases F with
 | cons r rr =>
   cases rr
   obtain ⟨t,rfl⟩:=r
   exact call_range_1 (uO B (by omega) (by omega) n G (by simpa using q))
noncomputable def Ak (wi:TI) (g:TG) (tb:TS):TS:=fun D σ H=>wi σ H fun J H1 => ∃ W:Nat->Nat->St->Hp->Prop,(∃ m,W 0 m σ H1) /\ ∀ i m σ H,W i m σ H ->
 (J.stop i H/\D.nx σ H)∨(J.go i H /\ ∃ N:St->Hp->Prop,(∀ σ' H',N σ' H' -> ∃ m',m' < m/\W (i+1) m' σ' H') /\ ∀ x H',J.yld i H x H'->g x σ H' fun σ2 H2=>tb { D with nx:=N,ct:=N,bk:=D.nx } σ2 H2)
noncomputable def i5 (fp:List Addr) (h:Heap):List (Addr×Obj):=fp.filterMap fun b=>(h.get? b).map fun o=>(b,o)
theorem cX {fp:List Addr} {h:Heap} {b:Addr} {o:Obj} (hb:b∈fp) (e:h.get? b=some o):(b,o)∈i5 fp h:=List.mem_filterMap.mpr ⟨b,hb,by rw [e];rfl⟩
theorem rR {fp:List Addr} {h:Heap} {p:Addr×Obj} (hp:p∈i5 fp h):p.1∈fp/\h.get? p.1=some p.2:=by
 obtain ⟨b,hb,e⟩:=List.mem_filterMap.mp hp
 cases q:h.get? b with
 | none=>rw [q] at e;cases e
 | some o =>
   rw [q] at e
   have e':(b,o)=p:=Option.some.inj e
   subst e'
   exact ⟨hb,q⟩
theorem Inv.pinned {pins:List (Addr×Obj)} {σ:St} {H:Hp} {s:Shared} {fp:List Addr} (I:Inv X pins σ H s) (hf:∀ b∈fp,bY X pins H b) (ho:∀ b∈fp, ∃ o,s.heap.get? b=some o /\ ∀ v,o.data ≠ .cell v):Inv X (pins++i5 fp s.heap) σ H s :=
 I.pins_of fun p hp=>(List.mem_append.mp hp).elim (fun z=>I.pin p (List.mem_append_right _ z)) fun z=>by
  obtain ⟨hb,e⟩:=rR z
  obtain ⟨f0,f1,f2,_⟩:=hf p.1 hb
  obtain ⟨o,e',d⟩:=ho p.1 hb
  rw [e] at e';cases e'
  exact ⟨e,f0,f1,f2,d⟩
theorem Inv.unpinned {pins pl:List (Addr×Obj)} {σ:St} {H:Hp} {s:Shared} (I:Inv X (pins++pl) σ H s):Inv X pins σ H s:=I.pins_of fun p hp=>I.pin p (List.mem_append_right _ (List.mem_append_left _ hp))
theorem Al {iter:Expr} {body:List Stmt} {wi:TI} {g:TG} {tb:TS} {pos:Pos} (hp:PassesOwn (model X.prog X.w) X.A X.env X.xe) (hc:X.calm=true) (hi:PI X tg iter wi) (hg:PG X tg g) (hb:PSs X body tb)
 (hs:∀ x,foldedSetIterable iter X.env x=pure x:=by intro _;rfl):PS X (.For tg iter body [] pos) (Ak wi g tb):=by
 intro pins s σ H D I h
 refine wpAny_For (thn (hi pins s σ H _ I h) fun v s1 h1=>thn h1 fun itv s2 h2 => ?_) hs
 obtain ⟨it,fp,tn,J,H2,e,I2,T,R,f2,W,⟨m0,w0⟩,turn⟩:=h2
 subst e
 have stat:∀ {H':Hp},(∀ b∈fp,H' b=none) -> ∀ b∈fp,bY X pins H' b:=fun hn b hb=>⟨hn b hb,(f2 b hb).2⟩
 refine codeAny_forLoop_any (fun n s' => ∃ i σ' H',Inv X pins σ' H' s'/\tn i s'.heap/\(∀ b∈fp,H' b=none)/\W i n σ' H') ?_ m0 ⟨0, σ,H2,I2,R,fun b hb=>(f2 b hb).1,w0⟩
 rintro n s3 ⟨i, σ3,O,I3,F,G,w3⟩
 rcases turn i n σ3 O w3 with ⟨stop,qn⟩ | ⟨go,N,hN,step⟩
 ·refine wpAny_passesOwn hp (thn (T.done X rfl rfl rfl hc i pins s3 σ3 O X.xe I3 (stat G) F stop) fun r s4 ⟨S,I4⟩ => ?_)
  subst S
  exact wpAny_execs_nil ⟨σ3,O,I4,qn⟩
 ·refine wpAny_passesOwn hp (thn (T.item X rfl rfl rfl hc i pins s3 σ3 O X.xe I3 (stat G) F go) fun r s4 ⟨u,S,h4⟩ => ?_)
  subst S
  refine wpAny_passesOwn hp (thn h4 fun _ s5 ⟨x,H5,I5,r5,y5,B,U⟩ => ?_)
  have Y:=I5.pinned (stat U) (T.obj _ _ B)
  refine wpAny_passesOwn hp (thn (hg _ s5 σ3 H5 x u _ Y r5 (step x H5 y5)) fun _ s6 ⟨σ6,H6,I6,q6⟩ => ?_)
  refine wpAny_passesOwn hp (thn (hb _ s6 σ6 H6 _ I6 q6) fun f Z z => ?_)
  have again:∀ {σ7:St} {j:Hp},Inv X (pins++i5 fp s5.heap) σ7 j Z->N σ7 j -> ∃ m,m < n /\ ∃ i σ' H',Inv X pins σ' H' Z/\tn i Z.heap/\(∀ b∈fp,H' b=none)/\W i m σ' H':=fun {σ7 j} q L=>by
   obtain ⟨m',hm,w7⟩:=hN σ7 j L
   refine ⟨m',hm,i+1, σ7,j,q.unpinned,T.keep _ _ _ B fun b hb o e=>(q.pin (b,o) (List.mem_append_right _ (List.mem_append_right _ (cX hb e)))).1,fun b hb => ?_,w7⟩
   obtain ⟨o,e,d⟩:=T.obj _ _ B b hb
   exact (q.pin (b,o) (List.mem_append_right _ (List.mem_append_right _ (cX hb e)))).2.1
  cases f with
  | next=>obtain ⟨σ7,j,q,L⟩:=z;exact again q L
  | cont=>obtain ⟨σ7,j,q,L⟩:=z;exact again q L
  | brk=>obtain ⟨σ7,j,q,z⟩:=z;exact ⟨σ7,j,q.unpinned,z⟩
  | ret v=>obtain ⟨x7, σ7,j,q,r7,z⟩:=z;exact ⟨x7, σ7,j,q.unpinned,r7,z⟩
end
end
section
noncomputable abbrev R2:=V->V->Hp->VK->Prop
noncomputable def OpR (X:Cx) (f:Value->Value->Sem Value) (r:R2):Prop :=
 ∀ (pins:List (Addr×Obj)) (s:Shared) (σ:St) (H:Hp) (x y:V) (v u:Value) (Q:VK),Inv X pins σ H s->RelV x v->RelV y u->r x y H Q ->
  wpAny (model X.prog X.w) X.A (f v u) (EP X pins σ Q) X.xe s
noncomputable def UnR (X:Cx) (f:Value->Sem Value) (r:V->Hp->VK->Prop):Prop :=
 ∀ (pins:List (Addr×Obj)) (s:Shared) (σ:St) (H:Hp) (x:V) (v:Value) (Q:VK),Inv X pins σ H s->RelV x v->r x H Q ->
  wpAny (model X.prog X.w) X.A (f v) (EP X pins σ Q) X.xe s
noncomputable def CallR (X:Cx) (f:Value) (r:List V->Hp->VK->Prop):Prop :=
 ∀ (pins:List (Addr×Obj)) (s:Shared) (σ:St) (H:Hp) (xs:List V) (us:List Value) (Q:VK),Inv X pins σ H s->Vals xs us->r xs H Q ->
  wpAny (model X.prog X.w) X.A (call f us) (EP X pins σ Q) X.xe s
noncomputable def CI (X:Cx) (r:V->Hp->(Bool->Hp->Prop)->Prop):Prop :=
 ∀ (pins:List (Addr×Obj)) (s:Shared) (σ:St) (H:Hp) (x:V) (v:Value) (Q:Bool->Hp->Prop),Inv X pins σ H s->RelV x v->r x H Q ->
  wpAny (model X.prog X.w) X.A (truthy v) (TP X pins σ Q) X.xe s
noncomputable def tOp (r:R2) (ta tb:TE):TE:=fun σ H Q=>ta σ H fun x H1=>tb σ H1 fun y H2=>r x y H2 Q
noncomputable def tUn (r:V->Hp->VK->Prop) (ta:TE):TE:=fun σ H Q=>ta σ H fun x H1=>r x H1 Q
noncomputable def rI (C:Int->Int->Prop) (g:Int->Int->V):R2:=fun x y H Q => ∃ i j,x = .int i/\y = .int j/\C i j/\Q (g i j) H
noncomputable def rI0 (g:Int->Int->V):R2:=fun x y H Q => ∃ i j,x = .int i/\y = .int j/\Q (g i j) H
noncomputable def rU (g:Int->V):V->Hp->VK->Prop:=fun x H Q => ∃ i,x = .int i/\Q (g i) H
section
variable {X:Cx} {a b c:Expr} {ta tb tc:TE} {pos:Pos}
theorem uP (ha:PE X a ta) (hb:PE X b tb) {pins:List (Addr×Obj)} {s:Shared} {σ:St} {H:Hp} {R:V->V->Hp->Prop} (I:Inv X pins σ H s)
 (h:ta σ H fun x H1=>tb σ H1 fun y H2=>R x y H2) {Q:Value->Shared->Prop} {f:Value->Value->Sem Value}
 (hf:∀ v u s2 x y H2,Inv X pins σ H2 s2->RelV x v->RelV y u->R x y H2->wpAny (model X.prog X.w) X.A (f v u) Q X.xe s2) :
 wpAny (model X.prog X.w) X.A (eval a X.env) (fun v s₁ => wpAny (model X.prog X.w) X.A (eval b X.env) (fun u s₂ => wpAny (model X.prog X.w) X.A (f v u) Q X.xe s₂) X.xe s₁) X.xe s:=by
 refine thn (ha pins s σ H _ I h) fun v s1 ⟨x,H1,j,n,q⟩ => ?_
 refine thn (hb pins s1 σ H1 _ j q) fun u s2 ⟨y,H2,z,B,F⟩ => ?_
 exact hf v u s2 x y H2 z n B F
theorem BQ {op:Operator} {r:R2} (ho:OpR X (binaryOp op) r) (ha:PE X a ta) (hb:PE X b tb):PE X (.BinOp a op b pos) (tOp r ta tb):=by
 intro pins s σ H Q I h
 exact wpAny_BinOp (uP ha hb I h fun v u s2 x y H2 j rx ry q=>ho pins s2 σ H2 x y v u Q j rx ry q)
theorem BR {op:UnaryOp} {r:V->Hp->VK->Prop} (ho:UnR X (unaryOp op) r) (ha:PE X a ta):PE X (.UnaryOp op a pos) (tUn r ta):=by
 intro pins s σ H Q I h
 exact UnaryOp_ (thn (ha pins s σ H _ I h) fun v s1 ⟨x,H1,j,n,q⟩=>ho pins s1 σ H1 x v Q j n q)
theorem opI {f:Value->Value->Sem Value} {C:Int->Int->Prop} {g:Int->Int->Int}
 (rule:∀ (i j:Int) (t u:Tok) (s:Shared) (Q:Value->Shared->Prop) (E:Value->Shared->Prop),C i j->Q (.int (g i j) s.toks) { s with toks:=s.toks+1 }->wpAny (model X.prog X.w) X.A (f (.int i t) (.int j u)) Q E s) :
 OpR X f (rI C fun i j => .int (g i j)):=by
 intro pins s σ H x y v u Q I rx ry h
 obtain ⟨i,j,rfl,rfl,hc,q⟩:=h
 obtain ⟨t,rfl⟩:=rx
 obtain ⟨t',rfl⟩:=ry
 exact rule i j t t' s _ _ hc ⟨.int (g i j),H,I.tok _,⟨_,rfl⟩,q⟩
theorem pZ {f:Value->Value->Sem Value} {g:Int->Int->Int}
 (rule:∀ (i j:Int) (t u:Tok) (s:Shared) (Q:Value->Shared->Prop) (E:Value->Shared->Prop),Q (.int (g i j) s.toks) { s with toks:=s.toks+1 }->wpAny (model X.prog X.w) X.A (f (.int i t) (.int j u)) Q E s) :
 OpR X f (rI0 fun i j => .int (g i j)):=by
 intro pins s σ H x y v u Q I rx ry h
 obtain ⟨i,j,rfl,rfl,q⟩:=h
 obtain ⟨t,rfl⟩:=rx
 obtain ⟨t',rfl⟩:=ry
 exact rule i j t t' s _ _ ⟨.int (g i j),H,I.tok _,⟨_,rfl⟩,q⟩
theorem uQ {f:Value->Value->Sem Value} {g:Int->Int->Bool}
 (rule:∀ (i j:Int) (t u:Tok) (s:Shared) (Q:Value->Shared->Prop) (E:Value->Shared->Prop),Q (.bool (g i j)) s->wpAny (model X.prog X.w) X.A (f (.int i t) (.int j u)) Q E s) :
 OpR X f (rI0 fun i j => .bl (g i j)):=by
 intro pins s σ H x y v u Q I rx ry h
 obtain ⟨i,j,rfl,rfl,q⟩:=h
 obtain ⟨t,rfl⟩:=rx
 obtain ⟨t',rfl⟩:=ry
 exact rule i j t t' s _ _ ⟨.bl (g i j),H,I,rfl,q⟩
noncomputable def CJ (i j:Int):Prop := 0<=j/\j<=1000000/\i.natAbs < 2 ^ 64
theorem op_add:OpR X (binaryOp .Add) (rI0 fun i j => .int (i+j)):=pZ fun _ _ _ _ _ _ _ q=>add_int q
theorem Am:OpR X (binaryOp .Sub) (rI0 fun i j => .int (i - j)):=pZ fun _ _ _ _ _ _ _ q=>sub_int q
theorem An:OpR X (binaryOp .Mod) (rI (fun _ j => 0 < j) fun i j => .int (i % j)):=opI fun i j _ _ _ _ _ hc q=>by
 have h1:(0:Int) < j:=hc
 exact mod_int' (by omega) (by rw [Int.fmod_eq_emod_of_nonneg i (by omega)];exact q)
theorem Ao:OpR X (binaryOp .Pow) (rI CJ fun i j => .int (i ^ j.toNat)):=opI fun _ _ _ _ _ _ _ hc q=>pow_int_small hc.1 hc.2.1 hc.2.2 q
theorem y6:OpR X (inplaceOp .Add) (rI0 fun i j => .int (i+j)):=pZ fun _ _ _ _ _ _ _ q=>iadd_int q
theorem y7:OpR X (inplaceOp .Sub) (rI0 fun i j => .int (i - j)):=pZ fun _ _ _ _ _ _ _ q=>isub_int q
theorem unI {f:Value->Sem Value} {g:Int->Int}
 (rule:∀ (i:Int) (t:Tok) (s:Shared) (Q:Value->Shared->Prop) (E:Value->Shared->Prop),Q (.int (g i) s.toks) { s with toks:=s.toks+1 }->wpAny (model X.prog X.w) X.A (f (.int i t)) Q E s) :
 UnR X f (rU fun i => .int (g i)):=by
 intro pins s σ H x v Q I rx h
 obtain ⟨i,rfl,q⟩:=h
 obtain ⟨t,rfl⟩:=rx
 exact rule i t s _ _ ⟨.int (g i),H,I.tok _,⟨_,rfl⟩,q⟩
theorem Ap:UnR X (unaryOp .USub) (rU fun i => .int (-i)):=unI fun _ _ _ _ _ q=>neg_int q
end
section
variable {X:Cx} {a b c:Expr} {ta tb tc:TE} {pos:Pos}
theorem BS:OpR X (compareOp .Lt) (rI0 fun i j => .bl (decide (i < j))):=uQ fun _ _ _ _ _ _ _ q=>lt_int q
theorem BU:OpR X (compareOp .Gt) (rI0 fun i j => .bl (decide (j < i))):=uQ fun _ _ _ _ _ _ _ q=>gt_int q
theorem BV:OpR X (compareOp .GtE) (rI0 fun i j => .bl (decide (j<=i))):=uQ fun _ _ _ _ _ _ _ q=>ge_int q
theorem OpR.or {f:Value->Value->Sem Value} {r r':R2} (h:OpR X f r) (h':OpR X f r'):OpR X f (fun x y H Q=>r x y H Q∨r' x y H Q):=by
 intro pins s σ H x y v u Q I rx ry q
 rcases q with q | q
 ·exact h pins s σ H x y v u Q I rx ry q
 ·exact h' pins s σ H x y v u Q I rx ry q
theorem y8 {op:CmpOp} {r:R2} (ho:OpR X (compareOp op) r) (ha:PE X a ta) (hb:PE X b tb) (hm:behindInMarks op b=false):PE X (.Compare a [op] [b] pos) (tOp r ta tb):=by
 intro pins s σ H Q I h
 exact wpAny_Compare1 (uP ha hb I h fun v u s2 x y H2 j rx ry q=>ho pins s2 σ H2 x y v u Q j rx ry q) hm
noncomputable def xk (t:TE):TT:=fun σ H Q=>t σ H fun x H' => ∃ k,x = .bl k/\Q k H'
theorem y9 {op:CmpOp} {r:R2} (ho:OpR X (compareOp op) r) (ha:PE X a ta) (hb:PE X b tb) (hm:behindInMarks op b=false):PT X (.Compare a [op] [b] pos) (xk (tOp r ta tb)):=by
 intro pins s σ H Q I h
 refine wpAny_isTrue_Compare1 (thn (ha pins s σ H _ I h) fun v s1 ⟨x,H1,j,n,q⟩=>thn (hb pins s1 σ H1 _ j q) fun u s2 ⟨y,H2,B,F,G⟩ =>
  thn (ho pins s2 σ H2 x y v u _ B n F G) fun c s3 ⟨z,J,L,O,k,e,R⟩ => ?_) hm
 subst e
 cases O
 exact wpAny_truthy_bool ⟨J,L,R⟩
noncomputable def uR (K:Frag) (x:V) (H:Hp) (k:Bool):Prop :=
 match x with
 | .non=>k=false
 | .bl b=>k=b
 | .int i=>k=(i != 0)
 | .str y=>y.length<=sizeLine/\k=((y.length:Int) != 0)
 | .byt y=>y.size<=sizeLine/\k=((y.size:Int) != 0)
 | .ref p=>(∃ xs,SqL K H p xs/\k = !xs.isEmpty)∨(∃ xs,SqT K H p xs/\k = !xs.isEmpty) ∨ ∃ kvs,H p=some (.dK kvs)/\k = !kvs.isEmpty
 | _=>False
theorem q8 {κ:Type} {kvs:List (κ × V)} {vs:List (κ × Value)} (r:KV kvs vs):(!vs.isEmpty) = !kvs.isEmpty:=by
 cases r <;> rfl
theorem i6 {xs:List V} {its:List Value} (r:Vals xs its):(!its.toArray.isEmpty) = !xs.isEmpty:=by
 cases r <;> simp
theorem dX:(sizeLine:Nat) < 2 ^ 63:=by rw [sizeLine_eq];decide
theorem Aq:CI X (fun x H Q => ∃ k,uR X.K x H k/\Q k H):=by
 intro pins s σ H x v Q I rx h
 obtain ⟨k,e,q⟩:=h
 have n:=dX
 have hs:sizeLine=16777216:=sizeLine_eq
 cases x with
 | non =>
   cases rx
   have e':k=false:=e
   subst e'
   exact truthy_none ⟨H,I,q⟩
 | bl b =>
   cases rx
   have e':k=b:=e
   subst e'
   exact wpAny_truthy_bool ⟨H,I,q⟩
 | int i =>
   obtain ⟨t,rfl⟩:=rx
   have e':k=(i != 0):=e
   subst e'
   exact PySem.P.truthy_int ⟨H,I,q⟩
 | str y =>
   obtain ⟨t,rfl⟩:=rx
   obtain ⟨hy,e'⟩:y.length<=sizeLine/\k=((y.length:Int) != 0):=e
   subst e'
   exact PySem.P.truthy_str (by omega) ⟨H,I.tok _,q⟩
 | byt y =>
   obtain ⟨t,rfl⟩:=rx
   obtain ⟨hy,e'⟩:y.size<=sizeLine/\k=((y.size:Int) != 0):=e
   subst e'
   exact PySem.W.truthy_bytes (by omega) ⟨H,I.tok _,q⟩
 | ref p =>
   cases rx
   have e':(∃ xs,SqL X.K H p xs/\k = !xs.isEmpty)∨(∃ xs,SqT X.K H p xs/\k = !xs.isEmpty) ∨ ∃ kvs,H p=some (.dK kvs)/\k = !kvs.isEmpty:=e
   rcases e' with ⟨xs,hx,e'⟩ | ⟨xs,hx,e'⟩ | ⟨kvs,hx,e'⟩
   ·subst e'
    obtain ⟨its,r,pl,hz⟩:=I.list hx
    have hlen:=r.length
    exact wpAny_truthy_list pl.isList (by simp only [List.size_toArray];omega) ⟨H,I.tok _,by rw [i6 r];exact q⟩
   ·subst e'
    obtain ⟨its,r,pl,hz⟩:=I.tuple hx
    have hlen:=r.length
    exact truthy_tuple pl (by simp only [List.size_toArray];omega) ⟨H,I.tok _,by rw [i6 r];exact q⟩
   ·subst e'
    obtain ⟨hz,j,vs,r,m⟩:kvs.length<=sizeLine/\(p==sysModules)=false /\ ∃ vs,KV kvs vs/\s.heap.DictOf (aF X.prog X.w) p vs:=I.hok p _ hx
    have hlen:kvs.length=vs.length:=Paired.length r
    exact wpAny_truthy_dict j m (by omega) ⟨H,I.tok _,by rw [q8 r];exact q⟩
 | _=>exact (show False from e).elim
theorem uS (ha:PE X a ta) (he:∀ whole,isTrue a X.env whole=(do let v <- whole;standAt a.pos;holding [v] (truthy v))) :
 PT X a (fun σ H Q=>ta σ H fun x H' => ∃ k,uR X.K x H' k/\Q k H'):=by
 intro pins s σ H Q I h
 exact isTrue_plain (thn (ha pins s σ H _ I h) fun v s1 ⟨x,H1,j,n,q⟩=>Aq pins s1 σ H1 x v Q j n q) (he _)
theorem q9:OpR X (binaryOp .Add) (fun x y H Q => ∃ i j,x = .str i/\y = .str j/\i.length+j.length<=sizeLine/\Q (.str (i++j)) H):=by
 intro pins s σ H x y v u Q I rx ry h
 obtain ⟨i,j,rfl,rfl,hz,q⟩:=h
 obtain ⟨t,rfl⟩:=rx
 obtain ⟨t',rfl⟩:=ry
 exact add_str (fun t' tk=>⟨.str (i++j),H,I.tok _,⟨_,rfl⟩,q⟩) hz
theorem dH {x:V} {us:List Value} (r:Vals [x] us):∃ u,us=[u]/\RelV x u:=by
 cases r with
 | cons j n=>cases n;exact ⟨_,rfl,j⟩
theorem kP {x y:V} {us:List Value} (r:Vals [x,y] us):∃ u w',us=[u,w']/\RelV x u/\RelV y w':=by
 cases r with
 | cons j n =>
   cases n with
   | cons q z=>cases z;exact ⟨_,_,rfl,j,q⟩
theorem uT:CallR X (.builtin "abs") (fun xs H Q => ∃ i,xs=[.int i]/\Q (.int (if i < 0 then -i else i)) H):=by
 intro pins s σ H xs us Q I r h
 obtain ⟨i,rfl,q⟩:=h
 obtain ⟨u,rfl,t,rfl⟩:=dH r
 exact call_abs_int fun u tk=>⟨.int (if i < 0 then -i else i),H,I.tok _,⟨_,rfl⟩,q⟩
theorem rS (hc:X.calm=true):CallR X (.builtin "min") (fun xs H Q => ∃ i j,xs=[.int i, .int j]/\Q (.int (if j < i then j else i)) H):=by
 intro pins s σ H xs us Q I r h
 obtain ⟨i,j,rfl,q⟩:=h
 obtain ⟨u,w',rfl,⟨t,rfl⟩,⟨t',rfl⟩⟩:=kP r
 refine min_two_ints (I.ok.hd hc) fun h' tk k=>⟨_,H,I.kept k, ?_,q⟩
 by_cases n:j < i
 ·rw [if_pos n,if_pos n];exact ⟨_,rfl⟩
 ·rw [if_neg n,if_neg n];exact ⟨_,rfl⟩
theorem rT:CallR X (.type "int") (fun xs H Q=>(∃ i,xs=[.int i]/\Q (.int i) H) ∨ ∃ k,xs=[.bl k]/\Q (.int (if k then 1 else 0)) H):=by
 intro pins s σ H xs us Q I r h
 rcases h with ⟨i,rfl,q⟩ | ⟨k,rfl,q⟩
 ·obtain ⟨u,rfl,t,rfl⟩:=dH r
  exact call_int_int ⟨.int i,H,I,⟨_,rfl⟩,q⟩
 ·obtain ⟨u,rfl,j⟩:=dH r
  cases j
  exact call_int_bool ⟨.int (if k then 1 else 0),H,I.tok _,⟨_,rfl⟩,q⟩
noncomputable def CK (K:Frag) (x:V) (H:Hp) (n:Nat):Prop :=
 match x with
 | .str y=>y.length<=sizeLine/\n=y.length
 | .byt y=>y.size<=sizeLine/\n=y.size
 | .ref p=>(∃ xs,SqL K H p xs/\n=xs.length) ∨ ∃ xs,SqT K H p xs/\n=xs.length
 | _=>False
theorem uU:CallR X (.builtin "len") (fun xs H Q => ∃ x n,xs=[x]/\CK X.K x H n/\Q (.int n) H):=by
 intro pins s σ H xs us Q I r h
 obtain ⟨x,n,rfl,e,q⟩:=h
 obtain ⟨u,rfl,rx⟩:=dH r
 have j:=dX
 have hs:sizeLine=16777216:=sizeLine_eq
 cases x with
 | str y =>
   obtain ⟨t,rfl⟩:=rx
   obtain ⟨hy,e'⟩:y.length<=sizeLine/\n=y.length:=e
   subst e'
   exact len_str (by omega) ⟨.int _,H,I.tok _,⟨_,rfl⟩,q⟩
 | byt y =>
   obtain ⟨t,rfl⟩:=rx
   obtain ⟨hy,e'⟩:y.size<=sizeLine/\n=y.size:=e
   subst e'
   exact PySem.W.len_bytes (by omega) ⟨.int _,H,I.tok _,⟨_,rfl⟩,q⟩
 | ref p =>
   cases rx
   have e':(∃ xs,SqL X.K H p xs/\n=xs.length) ∨ ∃ xs,SqT X.K H p xs/\n=xs.length:=e
   rcases e' with ⟨xs,hx,e'⟩ | ⟨xs,hx,e'⟩
   ·subst e'
    obtain ⟨its,r',pl,hz⟩:=I.list hx
    have hlen:=r'.length
    exact Calls.call_len_list pl.isList (by simp only [List.size_toArray];omega) ⟨.int xs.length,H,I.tok _,⟨_,by simp only [List.size_toArray];rw [hlen]⟩,q⟩
   ·subst e'
    obtain ⟨its,r',pl,hz⟩:=I.tuple hx
    have hlen:=r'.length
    exact len_tuple pl (by simp only [List.size_toArray];omega) ⟨.int xs.length,H,I.tok _,⟨_,by simp only [List.size_toArray];rw [hlen]⟩,q⟩
 | _=>exact (show False from e).elim
end
end
section
structure ObjM (h:Heap) (x dx C:Addr) (mA:Str->Option Value):Prop where
 obj:h.get? x=some (PySem.W.instObj C dx)
 ns:h.Ns1 dx mA
 ne:dx≠x
theorem rV {h:Heap} {dx:Addr} {mA:Str->Option Value} (n:h.Ns1 dx mA):∃ od,h.get? dx=some od /\ ∀ name,PySem.W.lookIn name od=some (mA name):=by
 obtain ⟨o,es,ep,ho,hd,B,_,hm⟩:=n
 refine ⟨o,ho,fun name => ?_⟩
 have e:=hm name
 unfold nsFind findBy at e
 rw [<- Array.find?_toList] at e
 unfold PySem.W.lookIn
 rw [hd]
 dsimp only
 split
 ·rename_i y q
  rw [q] at e
  exact congrArg some e
 ·rename_i q
  rw [q] at e
  have a:es.toList.any (·.refKey)=false:=by
   rw [List.any_eq_false]
   intro y hy
   obtain ⟨z,t,j⟩:=B y (Array.mem_toList_iff.mp hy)
   simp [DictEntry.refKey,j]
  have a' : ¬ es.toList.any (·.refKey)=true:=by rw [a];exact Bool.false_ne_true
  rw [if_neg a']
  exact congrArg some e
theorem ObjM.look {h:Heap} {x dx C:Addr} {mA:Str->Option Value} (I:ObjM h x dx C mA):∃ od,PySem.W.InstAt h x (PySem.W.instObj C dx) C (some od) /\ ∀ name,PySem.W.lookIn name od=some (mA name) :=
 let ⟨od,ho,j⟩:=rV I.ns
 ⟨od,⟨I.obj,rfl,rfl,ho⟩,j⟩
theorem RelO.some_of {v:V} {o:Option Value} (r:RelO (some v) o):∃ u,o=some u/\RelV v u:=by
 cases o with
 | none=>exact (show False from r).elim
 | some u=>exact ⟨u,rfl,r⟩
section
variable {P:Program} {w:World} {H H':Hp} {h h':Heap} {a C dx:Addr} {fs fs':List (Str×V)}
theorem ya (hok:HOk P w H h) (e:H a=some (.ins C dx fs)):∃ mA,ObjM h a dx C mA/\(∀ f,RelO (fs.lookup f) (mA f))/\PySem.Within mA (fs.map (·.1))/\fs.length<=1000/\H dx=some (.own a):=by
 obtain ⟨d,z,ne,ob,mA,n,r,q⟩:=(show ObjOk P w H h a (.ins C dx fs) from hok a _ e)
 exact ⟨mA,⟨ob,n,ne⟩,r,q,z,d⟩
end
structure Cls (K:Frag) (C:Addr):Prop where
 pg:PySem.W.plainGet K C Str.empty=true
 hd:PySem.W.hasDictIn K C=true
 po:PySem.W.plainOver K C=true
 sa:PySem.W.findIn K (.ref C) "__setattr__" = some (some (.builtin "object.__setattr__"))
theorem Cls.get {K:Frag} {C:Addr} (c:Cls K C) (f:Str):PySem.W.plainGet K C f=true:=c.pg
section
variable {X:Cx} {pins:List (Addr×Obj)} {σ:St} {H:Hp} {s:Shared} {A:Around} {E:Value->Shared->Prop} {Q:Value->Shared->Prop} {c:Value} {b:Bool}
inductive bZ (K:Frag) (H:Hp):V->Value->Prop where
 | non:bZ K H .non (.type "NoneType")
 | bl (x:Bool):bZ K H (.bl x) (.type "bool")
 | int (i:Int):bZ K H (.int i) (.type "int")
 | str (x:Str):bZ K H (.str x) (.type "str")
 | flt (x:UInt64):bZ K H (.flt x) (.type "float")
 | lst {a:Addr} {xs:List V} (e:H a=some (.lst xs)):bZ K H (.ref a) (.type "list")
 | frz {a:Addr} {o:Obj} {xs:List V} (e:H a=some (.frz o (.lst xs))):bZ K H (.ref a) (.type "list")
 | tup {a:Addr} {xs:List V} (e:SqT K H a xs):bZ K H (.ref a) (.type "tuple")
 | dK {a:Addr} {kvs:List (Key×V)} (e:H a=some (.dK kvs)):bZ K H (.ref a) (.type "dict")
 | dT {a:Addr} {kvs:List (List Key×V)} (e:H a=some (.dT kvs)):bZ K H (.ref a) (.type "dict")
 | ins {a C dx:Addr} {fs:List (Str×V)} (e:H a=some (.ins C dx fs)) (cl:Cls K C) (ha:PySem.W.findIn K (.ref C) "__class__" = some (some (.builtin "object.__class__")))
    (hn:PySem.W.specialIn K (.builtin "object.__class__") "__get__" = some (some (.builtin "getset_descriptor.__get__"))) (htk:PySem.W.takesIn K (.builtin "object.__class__")=some true)
    (hm:PySem.W.mroIn K C (.type "object")=some true):bZ K H (.ref a) (.ref C)
theorem rW {x:V} {u t:Value} (I:Inv X pins σ H s) (rx:RelV x u) (ty:bZ X.K H x t) (e:PySem.W.kitOne X.K t c=some b) (h:∀ tk,Q (.bool b) { s with toks:=tk }) :
 wpAny (model X.prog X.w) A (call (.builtin "isinstance") [u,c]) Q E s:=by
 cases ty with
 | non=>cases (show u=Value.none from rx);exact PySem.W.kia_one PySem.W.kitx_none I.kIn True.intro e (fun z=>nomatch z) h
 | bl y=>cases (show u=Value.bool y from rx);exact PySem.W.kia_one PySem.W.kitx_bool I.kIn True.intro e (fun z=>nomatch z) h
 | int i=>obtain ⟨t,q⟩:=(show ∃ t,u=Value.int i t from rx);cases q;exact PySem.W.kia_one PySem.W.kitx_int I.kIn True.intro e (fun z=>nomatch z) h
 | str y=>obtain ⟨t,q⟩:=(show ∃ t,u=Value.str y t from rx);cases q;exact PySem.W.kia_one PySem.W.kitx_str I.kIn True.intro e (fun z=>nomatch z) h
 | flt y=>obtain ⟨t,q⟩:=(show ∃ t,u=Value.float y t from rx);cases q;exact PySem.W.kia_one PySem.W.kitx_float I.kIn True.intro e (fun z=>nomatch z) h
 | @lst a xs ea =>
  cases (show u=Value.ref a from rx)
  obtain ⟨_,_,n,_,h1⟩:=(show ObjOk X.prog X.w H s.heap a (.lst xs) from I.hok a _ ea)
  exact PySem.W.kia_one PySem.W.kitx_list I.kIn ⟨_,h1,rfl⟩ e (fun z=>nomatch z) h
 | @frz a ob xs ea =>
  cases (show u=Value.ref a from rx)
  obtain ⟨_,_,_,n,_,h1⟩:=(show ObjOk X.prog X.w H s.heap a (.frz ob (.lst xs)) from I.hok a _ ea)
  exact PySem.W.kia_one PySem.W.kitx_list I.kIn ⟨_,h1,rfl⟩ e (fun z=>nomatch z) h
 | @tup a xs ea =>
  cases (show u=Value.ref a from rx)
  obtain ⟨_,_,p,_⟩:=I.tuple ea
  obtain ⟨o,h1,h2,_⟩:=p
  exact PySem.W.kia_one PySem.W.kitx_tuple I.kIn ⟨o,h1,h2⟩ e (fun z=>nomatch z) h
 | @dK a kvs ea =>
  cases (show u=Value.ref a from rx)
  obtain ⟨_,_,vs,_,p⟩:=(show ObjOk X.prog X.w H s.heap a (.dK kvs) from I.hok a _ ea)
  obtain ⟨o,es,ep,h1,h2,_⟩:=p
  exact PySem.W.kia_one PySem.W.kitx_dict I.kIn ⟨o,h1,h2.1⟩ e (fun z=>nomatch z) h
 | @dT a kvs ea =>
  cases (show u=Value.ref a from rx)
  obtain ⟨_,_,xs,_,o,es,ep,h1,h2,_⟩:=(show ObjOk X.prog X.w H s.heap a (.dT kvs) from I.hok a _ ea)
  exact PySem.W.kia_one PySem.W.kitx_dict I.kIn ⟨o,h1,h2.1⟩ e (fun z=>nomatch z) h
 | @ins a C dx fs ea cl ha hn htk hm =>
  cases (show u=Value.ref a from rx)
  obtain ⟨mA,O,_⟩:=ya I.hok ea
  obtain ⟨od,J,_⟩:=O.look
  exact PySem.W.kia_one (PySem.W.kitx_own (cl.get _) cl.hd ha hn htk hm) I.kIn J e (fun z=>nomatch z) h
end
end
section
structure Room (k:Nat) (A:Around):Prop where
 hd:A.handled=none
 dp:A.depth+3*k+5 < recursionLimit
 un:A.units+16*k+200 < cLine
theorem Room.deeper {k:Nat} {A:Around} (r:Room (k+1) A) (env:Env):Room k (A.deeper env) :=
 ⟨r.hd,by have:=r.dp;show A.depth+1+3*k+5 < _;omega,by have:=r.un;show A.units+3+16*k+200 < _;omega⟩
theorem Room.depth {k:Nat} {A:Around} (r:Room k A):A.depth < recursionLimit:=by have:=r.dp;omega
theorem Room.units {k:Nat} {A:Around} (r:Room k A):A.units+64 < cLine:=by have:=r.un;omega
noncomputable def Ar:TA:=fun _ H Q=>Q [] H
noncomputable def xl (ta:TE) (tr:TA):TA:=fun σ H Q=>ta σ H fun x H1=>tr σ H1 fun xs H2=>Q (x::xs) H2
section
variable {X:Cx} {e:Expr} {es:List Expr} {te:TE} {t:TA} {pos:Pos}
theorem i7:PA X [] Ar:=fun _ _ _ _ H Q I h=>Calls.spliced_nil ⟨[],H,I, .nil,h⟩
theorem cA (ha:PE X e te) (j:PA X es t) (hs:starEach (e::es) X.env=(false,eval e X.env)::starEach es X.env:=by rfl):PA X (e::es) (xl te t):=by
 intro pos pins s σ H Q I h
 rw [hs]
 show wpAny _ _ (spliced ((false,eval e X.env)::backTo pos (starEach es X.env))) _ _ s
 refine Calls.spliced_cons (thn (ha pins s σ H _ I h) fun u s1 ⟨x,H1,n,q,z⟩ => ?_)
 exact thn (j pos pins s1 σ H1 _ n z) fun us s2 ⟨xs,H2,B,F,G⟩=>⟨x::xs,H2,B, .cons q F,G⟩
noncomputable def CL (t:TA):TE:=fun σ H Q=>t σ H fun xs H1=>xs.length<=sizeLine /\ ∀ p,H1 p=none->Q (.ref p) (upd H1 p (.tup xs))
noncomputable def CM (t:TA):TE:=fun σ H Q=>t σ H fun xs H1=>xs.length<=sizeLine /\ ∀ p,H1 p=none->Q (.ref p) (upd H1 p (.lst xs))
theorem rX {n} (h:PA X es t):PE X (.Tuple es n pos) (CL t):=by
 intro pins s σ H Q I hq
 refine wpAny_Tuple_spliced (thn (h pos pins s σ H _ I hq) fun us s1 ⟨xs,H1,j,r,z,q⟩=>⟨by rw [<- r.length];exact z, ?_⟩)
 have hf:H1 s1.heap.objs.size=none:=j.hok.fresh (Nat.le_refl _)
 refine ⟨.ref s1.heap.objs.size,upd H1 s1.heap.objs.size (.tup xs),j.laid (t':=s1.toks) (fun b u e=>Heap.get?_push_of_some _ e) (Nat.le_refl _) ?_,rfl,q _ hf⟩
 exact ⟨z,us,r,⟨_,Heap.get?_push_size _ rfl,rfl,_,rfl⟩⟩
theorem As (h:PA X es t):PE X (.List es pos) (CM t):=by
 intro pins s σ H Q I hq
 refine wpAny_List_spliced (thn (h pos pins s σ H _ I hq) fun us s1 ⟨xs,H1,j,r,z,q⟩=>⟨by rw [<- r.length];exact z, ?_⟩)
 have hf:H1 s1.heap.objs.size=none:=j.hok.fresh (Nat.le_refl _)
 refine ⟨.ref s1.heap.objs.size,upd H1 s1.heap.objs.size (.lst xs),j.laid (t':=s1.toks) (fun b u e=>Heap.get?_push_of_some _ e) (Nat.le_refl _) ?_,rfl,q _ hf⟩
 exact ⟨z,us,0,r,Heap.get?_push_size _ rfl⟩
end
noncomputable abbrev Sp:=List V->Hp->VK->XK->Prop
noncomputable abbrev CXT:=List Env->Hp->Shared->XK->Value->Shared->Prop
structure qa (P:Program) (w:World) (K:Frag) (mg:Str->Option Value) (base:Heap) (A:Around) (outer:List Env) (s:Shared) (H:Hp):Prop where
 frames:A.frames=some outer
 mod:Mod K mg base
 bs:∀ b o,base.get? b=some o->s.heap.get? b=some o/\H b=none
 bsz:base.objs.size<=s.heap.objs.size
 funs:s.heap.FunFrames base outer
 frf:∀ b∈frs outer,H b=none
 hok:HOk P w H s.heap
 bare:AllBare s.gens
noncomputable def CE (outer:List Env) (P:Program) (w:World) (H:Hp) (s:Shared) (Q:VK) (u:Value) (s':Shared):Prop :=
 ∃ v H',s'.os=s.os/\AllBare s'.gens/\Un (frs outer) [] H H' s.heap s'.heap/\HOk P w H' s'.heap/\RelV v u/\Q v H'
noncomputable def CR (CX:CXT) (outer:List Env) (P:Program) (w:World) (H:Hp) (s:Shared) (Q:VK) (E:XK) (r:Result) (s':Shared):Prop :=
 match r with
 | .ok (.ret u)=>CE outer P w H s Q u s'
 | .ok _=>False
 | .error e=>CX outer H s E e s'
structure dB (P:Program) (w:World) (K:Frag) (mg:Str->Option Value) (base:Heap) (CX:CXT) (k:Nat) (f:Addr) (fd:FuncData) (ps:List Str) (sp:Sp):Prop where
 len:∀ vs H Q E,sp vs H Q E->vs.length=ps.length
 run:∀ (A:Around) (outer:List Env) (s:Shared) (H:Hp) (args:Args) (us:List Value) (vs:List V) (Q:VK) (E:XK),Room k A->qa P w K mg base A outer s H->BindsTo s fd args (ps.zip us)->Vals vs us->sp vs H Q E ->
  codeAny (model P w) A (.call (.ref f) args) (CR CX outer P w H s Q E) s
section
variable {X:Cx} {pins:List (Addr×Obj)} {σ:St} {H:Hp} {s s':Shared}
theorem Inv.env0 (I:Inv X pins σ H s):qa X.prog X.w X.K X.mg X.base X.A X.stack s H :=
 ⟨I.ok.frames,I.ok.mod,I.bs,Nat.le_trans I.ok.bsz I.sz,I.stack,I.stkFree,I.hok,I.bare⟩
theorem Inv.after {Q:VK} {u:Value} (I:Inv X pins σ H s) (h:CE X.stack X.prog X.w H s Q u s'):EP X pins σ Q u s':=by
 obtain ⟨v,H',os,bare,un,hok,r,q⟩:=h
 obtain ⟨j,g,d,t,os'⟩:=s'
 obtain rfl:os'=s.os:=os
 exact ⟨v,H',I.call (h':=j) (g':=g) (d':=d) (t':=t) (ch := []) un hok bare (fun b z=>absurd z (by simp)),r,q⟩
end
noncomputable def xm (sp:Sp) (dvs:List V) (E:XK) (t:TA):TE:=fun σ H Q=>t σ H fun vs H1=>sp (vs++dvs) H1 Q E
noncomputable def Binds (K:Frag) (fd:FuncData) (ps:List Str) (ds:List Value):Prop :=
 ∀ (s:Shared) (us:List Value),K.In s.heap->(us++ds).length=ps.length->BindsTo s fd ⟨us,[]⟩ (ps.zip (us++ds))
theorem Binds.all {K:Frag} {fd:FuncData} {ps:List Str} (h:∀ us:List Value,us.length=ps.length->bindArgs fd ⟨us,[]⟩=pure (ps.zip us)):Binds K fd ps []:=fun s us _ j=>by
 rw [List.append_nil] at j ⊢
 exact .of_eq (h us j)
noncomputable def i8 (CX:CXT) (X:Cx) (E:XK):Prop := ∀ (pins:List (Addr×Obj)) (σ:St) (H:Hp) (s:Shared) (e:Value) (s':Shared),Inv X pins σ H s->CX X.stack H s E e s'->X.xe e s'
section
variable {X:Cx} {CX:CXT} {k:Nat} {f C:Addr} {fd:FuncData} {ps:List Str} {sp:Sp} {dvs:List V} {ds:List Value} {E:XK} {x m:Str} {p pos apos:Pos} {e o:Expr} {es:List Expr} {ta:TE} {t:TA}
theorem rY {pins:List (Addr×Obj)} {σ:St} {H:Hp} {s:Shared} {Q:VK} {us:List Value} {vs:List V} (F:dB X.prog X.w X.K X.mg X.base CX k f fd ps sp) (q:Room k X.A) (hb:Binds X.K fd ps ds) (hd:Vals dvs ds) (hx:i8 CX X E)
 (I:Inv X pins σ H s) (r:Vals vs us) (h:sp (vs++dvs) H Q E):wpAny (model X.prog X.w) X.A (call (.ref f) us) (EP X pins σ Q) X.xe s:=by
 have n:Vals (vs++dvs) (us++ds):=r.append hd
 have z:(us++ds).length=ps.length:=by rw [<- n.length];exact F.len _ _ _ _ h
 refine wpAny_call (codeAny_mono (F.run X.A X.stack s H ⟨us,[]⟩ (us++ds) (vs++dvs) Q E q I.env0 (hb s us I.kIn z) n h) fun r s' j => ?_)
 cases r with
 | error e=>exact hx pins σ H s e s' I j
 | ok fl =>
   cases fl with
   | ret u=>exact I.after j
   | next=>exact False.elim j
   | brk=>exact False.elim j
   | cont=>exact False.elim j
theorem yb (F:dB X.prog X.w X.K X.mg X.base CX k f fd ps sp) (B:Room k X.A) (G:Gl X x) (hm:X.mg x=some (.ref f)) (J:PySem.W.keepIn X.K (.ref f)=true) (hb:Binds X.K fd ps ds) (hd:Vals dvs ds) (hx:i8 CX X E)
 (ha:PA X (e::es) t) (j:(x==("__debug__":Str))=false:=by decide) (he:starEach (e::es) X.env=(false,eval e X.env)::starEach es X.env:=by rfl) (n:(backTo pos (starEach es X.env)).any (·.1)=false:=by rfl) :
 PE X (.Call (.Name x p) (e::es) [] pos) (xm sp dvs E t):=by
 intro pins s σ H Q I h
 refine wpAny_Call_Name_kw (jb I G hm ?_ j)
 refine PySem.W.callWith_K (h₀ := X.base) I.ok.mod.kin J (thn (ha pos pins s σ H _ I h) fun us s1 ⟨vs,H1,z,r,q⟩=>⟨z.kIn, ?_⟩) he n
 exact rY F B hb hd hx z r q
theorem uV (F:dB X.prog X.w X.K X.mg X.base CX k f fd ps sp) (n:Room k X.A) (q:Gl X x) (hm:X.mg x=some (.ref f)) (z:PySem.W.keepIn X.K (.ref f)=true) (hb:Binds X.K fd ps ds) (hd:Vals dvs ds) (hx:i8 CX X E)
 (j:(x==("__debug__":Str))=false:=by decide):PE X (.Call (.Name x p) [] [] pos) (xm sp dvs E Ar):=by
 intro pins s σ H Q I h
 refine wpAny_Call_Name_kw (jb I q hm ?_ j)
 exact PySem.W.callWith_K0 I.kIn z (rY (us := []) F n hb hd hx I .nil h)
end
structure fR (N P:List Str) (sc:Scope):Prop where
 kind:sc.kind = .function
 co:sc.isCoroutine=false
 gen:sc.isGenerator=false
 nd:N.Nodup
 pre:N.take P.length=P
 par:∀ x∈P,sc.names.lookup x=some .local∨sc.names.lookup x=some .cell
 nofree:∀ y∈sc.names,y.2 ≠ .free
theorem jO {kindOf:Str->Option NameKind} {x:Str}:∀ {binds:List (Str×Value)} {m:Str->Option Value},(∀ v,(x,v)∉binds)->bindL kindOf binds m x=m x
 | [],_,_=>rfl
 | (n,v)::r,m,h=>by
  unfold bindL
  rw [jO fun w hw=>h w (List.mem_cons_of_mem _ hw)]
  split
  ·have:x≠n:=by rintro rfl;exact h v List.mem_cons_self
   simp [this]
  ·rfl
theorem jP {kindOf:Str->Option NameKind} {x:Str}:∀ {binds:List (Str×Value)} {m:Str->Option Value},(∀ v,(x,v)∉binds)->bindC kindOf binds m x=m x
 | [],_,_=>rfl
 | (n,v)::r,m,h=>by
  unfold bindC
  rw [jP fun w hw=>h w (List.mem_cons_of_mem _ hw)]
  split
  ·rfl
  ·have:x≠n:=by rintro rfl;exact h v List.mem_cons_self
   simp [this]
theorem jQ {kindOf:Str->Option NameKind} {x:Str} {v:Value}:∀ {P:List Str} {vs:List Value} {i:Nat} {m:Str->Option Value},P.Nodup->P[i]? = some x->vs[i]? = some v->kindOf x=some .local ->
 bindL kindOf (P.zip vs) m x=some v
 | [],_,_,_,_,h,_,_=>by simp at h
 | _::_,[],_,_,_,_,h,_=>by simp at h
 | p::P,w::vs,0,m,nd,h1,h2,j=>by
   simp at h1 h2;subst h1;subst h2
   show bindL kindOf ((p,w)::P.zip vs) m p=_
   unfold bindL
   rw [jO fun v n=>(List.nodup_cons.mp nd).1 (List.of_mem_zip n).1,if_pos j]
   simp
 | p::P,w::vs,i+1,m,nd,h1,h2,j=>by
   show bindL kindOf ((p,w)::P.zip vs) m x=_
   unfold bindL
   exact jQ (i:=i) (List.nodup_cons.mp nd).2 (by simpa using h1) (by simpa using h2) j
theorem jR {kindOf:Str->Option NameKind} {x:Str} {v:Value}:∀ {P:List Str} {vs:List Value} {i:Nat} {m:Str->Option Value},P.Nodup->P[i]? = some x->vs[i]? = some v->kindOf x≠some .local ->
 bindC kindOf (P.zip vs) m x=some v
 | [],_,_,_,_,h,_,_=>by simp at h
 | _::_,[],_,_,_,_,h,_=>by simp at h
 | p::P,w::vs,0,m,nd,h1,h2,j=>by
   simp at h1 h2;subst h1;subst h2
   show bindC kindOf ((p,w)::P.zip vs) m p=_
   unfold bindC
   rw [jP fun v n=>(List.nodup_cons.mp nd).1 (List.of_mem_zip n).1,if_neg j]
   simp
 | p::P,w::vs,i+1,m,nd,h1,h2,j=>by
   show bindC kindOf ((p,w)::P.zip vs) m x=_
   unfold bindC
   exact jR (i:=i) (List.nodup_cons.mp nd).2 (by simpa using h1) (by simpa using h2) j
noncomputable def cI (N:List Str) (vs:List V):St:=vs.map some++List.replicate (N.length - vs.length) none
noncomputable def gE (CX:CXT) (P:Program) (w:World) (K:Frag) (mg:Str->Option Value) (base:Heap) (N:List Str) (qual:Str) (scope:Scope) (f:Addr) (cd:Value) (A:Around) (outer:List Env) (s:Shared) (H:Hp) (E:XK):Cx where
 prog:=P
 w:=w
 K:=K
 mg:=mg
 base:=base
 A:=A.deeper (envOfC qual scope s.heap.objs.size f cd)
 N:=N
 s₀ := s
 H₀ := H
 env:=envOfC qual scope s.heap.objs.size f cd
 outer:=outer
 stack:=envOfC qual scope s.heap.objs.size f cd::outer
 ex := []
 calm:=true
 fn:=fun _=>true
 pn := []
 xe:=fun e s'=>wpAny (model P w) (A.deeper (envOfC qual scope s.heap.objs.size f cd)) (leaving (envOfC qual scope s.heap.objs.size f cd) e) (fun _ s''=>CX outer H s E e s'') (fun e' s''=>CX outer H s E e' s'') s'
theorem lj {sc:Scope} {n:Nat} {x:Str} (h:sc.names.lookup x=some .cell):∃ c,(cellsFrom n sc.names []).lookup x=some c:=by
 have q:=PySem.W.cellsFrom_some sc.names n [] (.inl h)
 exact Option.isSome_iff_exists.mp q
theorem rZ {CX:CXT} {P:Program} {w:World} {K:Frag} {mg:Str->Option Value} {base:Heap} {N ps:List Str} {qual:Str} {scope:Scope} {f:Addr} {cd:Value} {A:Around} {outer:List Env} {s s1:Shared} {H:Hp} {E:XK} {us:List Value} {vs:List V}
 (S:fR N ps scope) (hd:A.handled=none) (e0:qa P w K mg base A outer s H) (G:vs.length=ps.length) (r:Vals vs us)
 (x:InCallC s s.heap.objs.size (bindL (envOfC qual scope s.heap.objs.size f cd).kindOf (ps.zip us) fun _=>none) (cellsFrom (s.heap.objs.size+1) scope.names []) (bindC (envOfC qual scope s.heap.objs.size f cd).kindOf (ps.zip us) fun _=>none) s1) :
 Inv (gE CX P w K mg base N qual scope f cd A outer s H E) [] (cI N vs) H s1:=by
 have F:ps.length<=N.length:=by have:=congrArg List.length S.pre;rw [List.length_take] at this;omega
 obtain ⟨h1,tk,rfl,j⟩:=x.done
 have noA:∀ b:Addr,b∉(gE CX P w K mg base N qual scope f cd A outer s H E).ex:=fun b z=>absurd (show b∈([]:List Addr) from z) (by simp)
 refine ⟨⟨e0.mod,S.kind,rfl,rfl,Nat.le_refl _,fun y z c h1 h2 => ?_,fun y hy => ?_,fun y c _ h => ?_,fun _=>hd,Around.frames_deeper e0.frames, .inr ⟨rfl,rfl⟩,fun b z=>absurd z (noA b),e0.bs,e0.bsz,fun b _ _=>noA b,fun b z=>absurd z (noA b),e0.funs,e0.frf⟩,
  rfl,e0.bare,Un.kept j,⟨_,x.toInCall.ns,fun i y v h1 h2 I => ?_⟩,fun y c h=>⟨_,x.cell y c h⟩,e0.hok.fresh (Nat.le_refl _),fun y c h => ?_,fun p hp=>absurd (show p∈([]:List (Addr×Obj)) from hp) (by simp),e0.hok.kept j, ?_⟩
 ·exact name_of_addr x.apart (PySem.mem_of_lookup h1) (PySem.mem_of_lookup h2)
 ·have hy:scope.names.lookup y=some .cell∨scope.names.lookup y=some .free:=hy
  rcases hy with hy | hy
  ·exact lj hy
  ·exact absurd rfl (S.nofree _ (PySem.mem_of_lookup hy))
 ·exact Nat.le_of_lt (x.above y c (PySem.mem_of_lookup h))
 ·have hi:i < vs.length:=by
   unfold cI at h2
   by_cases hi:i < vs.length
   ·exact hi
   ·rw [List.getElem?_append_right (by simpa using hi)] at h2
    rw [List.getElem?_replicate] at h2
    split at h2 <;> cases h2
  have ha:vs[i]? = some v:=by
   unfold cI at h2
   rw [List.getElem?_append_left (by simpa using hi),List.getElem?_map] at h2
   cases e:vs[i]? with
   | none=>rw [e] at h2;cases h2
   | some a=>rw [e] at h2;cases h2;rfl
  obtain ⟨u,B,rv⟩:=r.get ha
  have hp:ps[i]? = some y:=by
   rw [<- S.pre,List.getElem?_take_of_lt (by omega)];exact h1
  have ndP:ps.Nodup:=by rw [<- S.pre];exact S.nd.sublist (List.take_sublist _ _)
  refine ⟨u,rv, ?_⟩
  rcases S.par y (List.mem_of_getElem? hp) with k | k
  ·exact .inl ⟨k,jQ ndP hp B k⟩
  ·obtain ⟨c,e⟩:=lj (n:=s.heap.objs.size+1) k
   refine .inr ⟨.inl k,c,e, ?_⟩
   have q:=x.cell y c e
   rw [jR ndP hp B (by show scope.names.lookup y≠_;rw [k];decide)] at q
   exact q
 ·exact e0.hok.fresh (Nat.le_of_lt (x.above y c (PySem.mem_of_lookup h)))
 ·unfold cI
  show _=N.length
  rw [List.length_append,List.length_map,List.length_replicate]
  omega
theorem BW {CX:CXT} {P:Program} {w:World} {K:Frag} {mg:Str->Option Value} {base:Heap} {k:Nat} {f:Addr} {name qual:Str} {params:Arguments} {body:List Stmt} {scope:Scope} {dV kV doc pm cdv ct oc:Value} {an od:Option Addr}
 {osl:Array (Option Value)} {N ps:List Str} {sp:Sp} (lk:K.lookup f=some ⟨oc,od, .func (PySem.W.fnOf name qual params body scope dV kV doc pm an cdv ct),osl⟩) (F:PySem.W.codeIn K cdv qual=true) (S:fR N ps scope)
 (len:∀ vs H Q E,sp vs H Q E->vs.length=ps.length)
 (j:∀ (A:Around) (outer:List Env) (s:Shared) (H:Hp) (vs:List V) (Q:VK) (E:XK),Room k (A.deeper (envOfC qual scope s.heap.objs.size f cdv))->sp vs H Q E ->
   ∃ t,PSs (gE CX P w K mg base N qual scope f cdv A outer s H E) body t/\t { nx:=fun _ H'=>Q .non H',rt:=Q } (cI N vs) H) :
 dB P w K mg base CX (k+1) f (PySem.W.fnOf name qual params body scope dV kV doc pm an cdv ct) ps sp:=by
 refine ⟨len,fun A outer s H args us vs Q E G e0 hb r B => ?_⟩
 have L:=len _ _ _ _ B
 have KX:K.In s.heap:=e0.mod.kin.keeps fun b o e=>(e0.bs b o e).1
 have lim:s.heap.NoLimit:=e0.mod.nolimit.keeps fun b o e=>(e0.bs b o e).1
 have z:∀ y∈ps.zip us,scope.names.lookup y.1=some .local∨(scope.names.lookup y.1=some .cell/\((cellsFrom (s.heap.objs.size+1) scope.names []).lookup y.1).isSome=true):=fun ⟨n,v⟩ hy=>by
  rcases S.par n (List.of_mem_zip hy).1 with q | q
  ·exact .inl q
  ·exact .inr ⟨q,PySem.W.cellsFrom_some _ _ _ (.inl q)⟩
 refine codeAny_call_function G.depth (KX _ _ lk) rfl S.co S.gen rfl (PySem.W.codeRec_of KX F) (hb _ _ _ _ ?_)
 refine wpAny_newFunctionEnv_cells S.kind z fun env he s1 x => ?_
 subst he
 refine ⟨lim.keeps x.toInCall.keep,codeAny_func ?_⟩
 obtain ⟨t,O,R⟩:=j A outer s H vs Q E (G.deeper _) B
 have I:Inv (gE CX P w K mg base N qual scope f cdv A outer s H E) [] (cI N vs) H s1:=rZ S G.hd e0 L r x
 refine wpAny_mono (O [] s1 (cI N vs) H _ I R) (fun fl s' hs => ?_) fun e s' hs=>hs
 have fin:∀ {σ':St} {H':Hp} {v:V} {u:Value},Inv (gE CX P w K mg base N qual scope f cdv A outer s H E) [] σ' H' s'->RelV v u->Q v H'->CE outer P w H s Q u s' :=
  fun {σ' H' v u} J rv q=>⟨v,H',J.os,J.bare,J.base,J.hok,rv,q⟩
 cases fl with
 | ret u =>
   obtain ⟨v, σ',H',J,rv,q⟩:=hs
   exact fin J rv q
 | next =>
   obtain ⟨σ',H',J,q⟩:=hs
   exact fin (v:=V.non) (u:=Value.none) J rfl q
 | brk =>
   obtain ⟨_,_,_,q⟩:=hs
   exact False.elim q
 | cont =>
   obtain ⟨_,_,_,q⟩:=hs
   exact False.elim q
end
section
section
variable {X:Cx} {x:Str} {p pos:Pos} {e:Expr} {es:List Expr} {t:TA} {id T:String} {r:List V->Hp->VK->Prop}
noncomputable def tCB (r:List V->Hp->VK->Prop) (t:TA):TE:=fun σ H Q=>t σ H fun vs H1=>r vs H1 Q
theorem ci (hc:CallR X (.builtin id) r) (q:Gl X x) (hm:X.mg x=none) (z:bootBuiltins x=some (.builtin id)) (ha:PA X (e::es) t) (hn:x ≠ "__name__" := by decide) (j:(x==("__debug__":Str))=false:=by decide)
 (he:starEach (e::es) X.env=(false,eval e X.env)::starEach es X.env:=by rfl) (n:(backTo pos (starEach es X.env)).any (·.1)=false:=by rfl):PE X (.Call (.Name x p) (e::es) [] pos) (tCB r t):=by
 intro pins s σ H Q I h
 refine wpAny_Call_Name_kw (dA I q hm z ?_ hn j)
 exact PyProof.Rows.callWith_builtin1 (thn (ha pos pins s σ H _ I h) fun us s1 ⟨vs,H1,B,F,G⟩=>hc pins s1 σ H1 vs us Q B F G) he n
theorem dJ (hc:CallR X (.type T) r) (q:Gl X x) (hm:X.mg x=none) (z:bootBuiltins x=some (.type T)) (ha:PA X (e::es) t) (hn:x ≠ "__name__" := by decide) (j:(x==("__debug__":Str))=false:=by decide)
 (he:starEach (e::es) X.env=(false,eval e X.env)::starEach es X.env:=by rfl) (n:(backTo pos (starEach es X.env)).any (·.1)=false:=by rfl):PE X (.Call (.Name x p) (e::es) [] pos) (tCB r t):=by
 intro pins s σ H Q I h
 refine wpAny_Call_Name_kw (dA I q hm z ?_ hn j)
 exact PyProof.Rows.callWith_type1 (thn (ha pos pins s σ H _ I h) fun us s1 ⟨vs,H1,B,F,G⟩=>hc pins s1 σ H1 vs us Q B F G) he n
end
end
end L2
namespace HT
open PySem PyProof.Rows
section
variable {prog:Program} {w:World} {A:Around} {E:Value->Shared->Prop} {s:Shared}
theorem cat_tup {t b:Addr} {vs ws:List Value} {Q:Value->Shared->Prop} (L:IsTup s.heap t vs.toArray) (hb:IsTup s.heap b ws.toArray) (G:vs≠[])
 (h1:ws=[]->Q (.ref t) s) (h2:ws≠[]->Q (.ref s.heap.objs.size) { s with heap:=s.heap.push { cls := .type "tuple",data := .seq (vs++ws).toArray } })
 (hsz:vs.length+ws.length<=sizeLine):wpAny (model prog w) A (binaryOp .Add (.ref t) (.ref b)) Q E s:=by
 obtain ⟨⟨cls,dd,data,sl⟩,ho,hc,n,hd⟩:=id L
 obtain ⟨⟨I,q,data2,z⟩,j,B,J,hd2⟩:=id hb
 simp only at hc hd B hd2
 subst hc hd B hd2
 have e:vs.toArray++ws.toArray=(vs++ws).toArray:=by simp
 by_cases hw:ws=[]
 ·exact concat_meets ⟨_,ho,rfl⟩ ⟨_,j,rfl⟩ noFill_tuple_add seq_tuple_add PySem.F.slot_tuple_add PySem.F.entry_tuple_add (PySem.F.args_tuple_add_2 _ _)
   (tuple_addW1 t b vs.toArray ws.toArray n J dd q sl z (by simpa using G) (by simp [hw])) ⟨ho,j,h1 hw⟩
 ·refine concat_meets ⟨_,ho,rfl⟩ ⟨_,j,rfl⟩ noFill_tuple_add seq_tuple_add PySem.F.slot_tuple_add PySem.F.entry_tuple_add (PySem.F.args_tuple_add_2 _ _)
   (tuple_addW2 t b vs.toArray ws.toArray n J dd q sl z (by simpa using G) (by simpa using hw) (by rw [List.size_toArray,List.size_toArray];exact hsz)) ⟨ho,j, ?_⟩
  rw [e]
  exact h2 hw
noncomputable def sIx (n d:Nat):Option Int->Nat
 | none=>d
 | some v=>if v < 0 then (v+(n:Int)).toNat else min v.toNat n
theorem Au (n d:Nat) (hd:d<=n) (o:Option Int):sIx n d o<=n:=by
 cases o with
 | none=>exact hd
 | some v =>
   show (if v < 0 then (v+(n:Int)).toNat else min v.toNat n)<=n
   by_cases hv:v < 0
   ·rw [if_pos hv];omega
   ·rw [if_neg hv];exact Nat.min_le_right _ _
theorem oy (v:Int) (n d:Nat):(if v < 0 then max (v+(n:Int)) 0 else min v (n:Int))=((sIx n d (some v):Nat):Int):=by
 show (if v < 0 then max (v+(n:Int)) 0 else min v (n:Int))=(((if v < 0 then (v+(n:Int)).toNat else min v.toNat n):Nat):Int)
 by_cases hv:v < 0
 ·simp only [if_pos hv];omega
 ·simp only [if_neg hv];omega
theorem qb (lo hi:Option Int) (n:Nat):Builtin.Slice.sliceAdjust lo hi 1 (n:Int)=(((sIx n 0 lo:Nat):Int),((sIx n n hi:Nat):Int)):=by
 have h1 : ¬ ((1:Int) < 0):=by omega
 unfold Builtin.Slice.sliceAdjust
 simp only [h1,if_false]
 refine Prod.ext ?_ ?_
 ·cases lo with
  | none=>rfl
  | some v=>exact oy v n 0
 ·cases hi with
  | none=>rfl
  | some v=>exact oy v n n
theorem qc (i j:Nat):Builtin.Slice.slicePlaces (i:Int) (j:Int) 1=j - i:=by
 unfold Builtin.Slice.slicePlaces
 have h1:(1:Int) > 0:=by omega
 simp only [h1,if_true,Int.ediv_one]
 split <;> omega
theorem i9 {v:Value} {o:Option Int} {Q:Option Int->Shared->Prop} (p:IsPart v o) (h:Q o s):wpAny (model prog w) A (Builtin.Slice.slicePartIndex v) Q E s:=by
 cases p with
 | none=>exact slicePart_none h
 | int i t=>exact slicePart_int h
theorem dC {sl:Addr} {vl vu:Value} {lo hi:Option Int} {n:Nat} {Q:Int×Int×Nat->Shared->Prop} (hs:s.heap.IsSliceOf sl vl vu .none) (pl:IsPart vl lo) (pu:IsPart vu hi)
 (h:Q (((sIx n 0 lo:Nat):Int),1,sIx n n hi - sIx n 0 lo) s):wpAny (model prog w) A (Builtin.Slice.sliceApplied (.ref sl) (pure (n:Int))) Q E s:=by
 obtain ⟨os,j,z,q⟩:=id hs
 unfold Builtin.Slice.sliceApplied Builtin.Slice.sliceFields
 refine wpAny_bind (wpAny_bind (wpAny_field j q (x:=vl) rfl (wpAny_bind (wpAny_field j q (x:=vu) rfl (wpAny_bind (wpAny_field j q (x := .none) rfl (wpAny_pure ?_)))))))
 refine wpAny_bind (slicePart_none ?_)
 show wpAny _ _ (if ((1:Int)==0)=true then _ else _) _ _ s
 rw [if_neg (by decide)]
 refine wpAny_bind (i9 pl (wpAny_bind (i9 pu (wpAny_bind (wpAny_pure ?_)))))
 show wpAny _ _ (match Builtin.Slice.sliceAdjust lo hi 1 (n:Int) with | (lo,hi)=>pure (lo,(1:Int),Builtin.Slice.slicePlaces lo hi 1)) _ _ s
 rw [qb lo hi n]
 show wpAny _ _ (pure (((sIx n 0 lo:Nat):Int),(1:Int),Builtin.Slice.slicePlaces ((sIx n 0 lo:Nat):Int) ((sIx n n hi:Nat):Int) 1)) _ _ s
 rw [qc]
 exact wpAny_pure h
theorem uW (xs:Array Value) (i k:Nat):((List.range k).filterMap fun (m:Nat)=>xs[((i:Int)+(m:Int)*1).toNat]?).toArray=((xs.toList.drop i).take k).toArray:=by
 have e:(fun (m:Nat)=>xs[((i:Int)+(m:Int)*1).toNat]?)=fun m=>xs[i+m]? := by
  funext m
  have:((i:Int)+(m:Int)*1).toNat=i+m:=by omega
  rw [this]
 rw [e]
 have:=pick_run xs i k
 rw [List.filterMap_map] at this
 have e2:((fun x=>xs[x]?) ∘ fun x=>i+x)=fun m=>xs[i+m]? := rfl
 rw [e2] at this
 rw [this]
theorem getItem_tuple_cut {t sl:Addr} {items:Array Value} {vl vu:Value} {lo hi:Option Int} {Q:Value->Shared->Prop} (n:IsTup s.heap t items) (hs:s.heap.IsSliceOf sl vl vu .none) (pl:IsPart vl lo) (pu:IsPart vu hi)
 (hw : ¬ (sIx items.size 0 lo=0/\sIx items.size items.size hi=items.size))
 (h:Q (.ref s.heap.objs.size) { s with heap:=s.heap.push { cls := .type "tuple",data := .seq ((items.toList.drop (sIx items.size 0 lo)).take (sIx items.size items.size hi - sIx items.size 0 lo)).toArray } })
 (hsz:items.size<=sizeLine):wpAny (model prog w) A (getItem (.ref t) (.ref sl)) Q E s:=by
 have j:sizeOk (.seq ((items.toList.drop (sIx items.size 0 lo)).take (sIx items.size items.size hi - sIx items.size 0 lo)).toArray):=by
  show ((items.toList.drop (sIx items.size 0 lo)).take (sIx items.size items.size hi - sIx items.size 0 lo)).toArray.size<=sizeLine
  rw [List.size_toArray,List.length_take,List.length_drop,Array.length_toList]
  omega
 have J:sIx items.size items.size hi<=items.size:=Au _ _ (Nat.le_refl _) hi
 obtain ⟨os,z,B,I⟩:=id hs
 have F:s.TypeIs (.ref sl) "slice" := ⟨os,z,B⟩
 unfold getItem
 try with_reducible refine wpAny_holding ?_
 first | refine wpAny_bind (wpAny_pure ?_) | skip
 refine wpAny_bind (wpAny_sequenceKey n.typeIs (by decide) ?_)
 refine wpAny_bind (wpAny_callSpecial?_slot (name:=Str.ofString "__getitem__") n.typeIs PyProof.Rows.slot_tuple_getitem
  (wpAny_call_entry PyProof.Rows.slot_tuple_getitem n.typeIs entry_tuple_getitem ?_ (args_tuple_getitem _ _)))
 show wpAny _ _ (Builtin.Tuple.tupleItemsOf (.ref t) >>= _) _ _ s
 refine wpAny_bind (tupleItemsOf_ n ?_)
 refine wpAny_bind (wpAny_typeOf F ?_)
 rw [if_pos (by decide)]
 refine wpAny_bind (dC hs pl pu ?_)
 have G : ¬ ((((sIx items.size 0 lo:Nat):Int)==0&&(1:Int)==1&&(sIx items.size items.size hi - sIx items.size 0 lo)==items.size)=true):=by
  intro q
  rw [Bool.and_eq_true,Bool.and_eq_true] at q
  have L:((sIx items.size 0 lo:Nat):Int)=0:=eq_of_beq q.1.1
  have O:sIx items.size items.size hi - sIx items.size 0 lo=items.size:=eq_of_beq q.2
  exact hw ⟨by omega,by omega⟩
 show wpAny _ _ (if (((sIx items.size 0 lo:Nat):Int)==0&&(1:Int)==1&&(sIx items.size items.size hi - sIx items.size 0 lo)==items.size)=true then _ else _) _ _ s
 rw [if_neg G,uW]
 first
  | exact wpAny_bind (m:=Builtin.Tuple.tupleExact _) (wpAny_newObj_type (wpAny_pure ⟨_,rfl,wpAny_pure h⟩) j)
  | exact wpAny_bind (m:=Builtin.Tuple.tupleExact _) (wpAny_newObj_type (wpAny_bind (wpAny_pure (wpAny_pure ⟨_,rfl,wpAny_pure h⟩))) j)
  | exact wpAny_bind (wpAny_bind (m:=Builtin.Tuple.tupleExact _) (wpAny_newObj_type (wpAny_pure (wpAny_pure ⟨_,rfl,wpAny_pure h⟩)) j))
  | exact wpAny_bind (wpAny_bind (m:=Builtin.Tuple.tupleExact _) (wpAny_newObj_type (wpAny_pure ⟨_,rfl,wpAny_pure h⟩) j))
end
end HT
namespace L2
open PySem PySem.Spec PyProof.Rows
section
noncomputable abbrev TO:=St->Hp->(Option Int->Hp->Prop)->Prop
noncomputable def PO (X:Cx) (e:Option Expr) (t:TO):Prop :=
 ∀ (pins:List (Addr×Obj)) (s:Shared) (σ:St) (H:Hp) (Q:Option Int->Hp->Prop),Inv X pins σ H s->t σ H Q ->
  wpAny (model X.prog X.w) X.A (evalPart e X.env) (fun u s' => ∃ o H',Inv X pins σ H' s'/\IsPart u o/\Q o H') X.xe s
noncomputable def yc:TO:=fun _ H Q=>Q none H
noncomputable def BX (t:TE):TO:=fun σ H Q=>t σ H fun x H1 => ∃ i,x = .int i/\Q (some i) H1
section
variable {X:Cx} {e:Expr} {te:TE} {lo hi:Option Expr} {tl th:TO} {pos p2:Pos}
theorem yd:PO X none yc:=by
 intro pins s σ H Q I h
 rw [evalPart_none]
 exact wpAny_pure ⟨none,H,I, .none,h⟩
theorem ye (h:PE X e te):PO X (some e) (BX te):=by
 intro pins s σ H Q I hw
 rw [evalPart_some]
 refine thn (h pins s σ H _ I hw) fun u s1 ⟨x,H1,j,n,z⟩ => ?_
 obtain ⟨i,rfl,q⟩:=z
 obtain ⟨t,rfl⟩:=n
 exact ⟨some i,H1,j, .int i t,q⟩
noncomputable def SlR (X:Cx) (r:V->Option Int->Option Int->Hp->VK->Prop):Prop :=
 ∀ (pins:List (Addr×Obj)) (s:Shared) (σ:St) (H:Hp) (x:V) (v vl vu:Value) (lo hi:Option Int) (sl:Addr) (Q:VK),Inv X pins σ H s->RelV x v->s.heap.IsSliceOf sl vl vu .none->IsPart vl lo->IsPart vu hi->r x lo hi H Q ->
  ∃ T id,typeLookup (.type T) "__getitem__" = pure (some (.builtin id))/\s.TypeIs v T/\wpAny (model X.prog X.w) X.A (getItem v (.ref sl)) (EP X pins σ Q) X.xe s
theorem SlR.or {r r':V->Option Int->Option Int->Hp->VK->Prop} (h:SlR X r) (h':SlR X r'):SlR X (fun x lo hi H Q=>r x lo hi H Q∨r' x lo hi H Q):=by
 intro pins s σ H x v vl vu lo hi sl Q I rx hs pl pu q
 rcases q with q | q
 ·exact h pins s σ H x v vl vu lo hi sl Q I rx hs pl pu q
 ·exact h' pins s σ H x v vl vu lo hi sl Q I rx hs pl pu q
noncomputable def tSl (r:V->Option Int->Option Int->Hp->VK->Prop) (te:TE) (tl th:TO):TE:=fun σ H Q=>te σ H fun x H1=>tl σ H1 fun l H2=>th σ H2 fun u H3=>r x l u H3 Q
theorem uX {r:V->Option Int->Option Int->Hp->VK->Prop} (n:SlR X r) (he:PE X e te) (z:PO X lo tl) (B:PO X hi th):PE X (.Subscript e (.Slice lo hi none p2) pos) (tSl r te tl th):=by
 intro pins s σ H Q I h
 refine Subscript_ (thn (he pins s σ H _ I h) fun v s1 ⟨x,H1,F,G,J⟩ => ?_)
 refine wpAny_Slice (thn (z pins s1 σ H1 _ F J) fun vl s2 ⟨l,H2,L,pl,O⟩=>thn (B pins s2 σ H2 _ L O) fun vu s3 ⟨u,j,R,pu,S⟩ => ?_)
 rw [evalPart_none]
 refine wpAny_pure ?_
 have U:Inv X pins σ j { s3 with heap:=s3.heap.push { cls := .type "slice",data := .fields #[vl,vu, .none] } }:=R.kept (t':=s3.toks) fun b ob q=>Heap.get?_push_of_some _ q
 obtain ⟨T,id,Y,Z,hg⟩:=n pins { s3 with heap:=s3.heap.push { cls := .type "slice",data := .fields #[vl,vu, .none] } } σ j x v vl vu l u s3.heap.objs.size Q U G (Heap.IsSliceOf.new ..) pl pu S
 show wpAny (model X.prog X.w) X.A (subscriptTail e (.Slice lo hi none p2) v (.ref s3.heap.objs.size)) (EP X pins σ Q) X.xe { s3 with heap:=s3.heap.push { cls := .type "slice",data := .fields #[vl,vu, .none] } }
 exact tail_any (ops := [.ref s3.heap.objs.size,v]) Z Y hg (by with_unfolding_all rfl)
noncomputable def fi (xs:List V) (lo hi:Option Int):List V:=(xs.drop (HT.sIx xs.length 0 lo)).take (HT.sIx xs.length xs.length hi - HT.sIx xs.length 0 lo)
theorem gn (xs:List V) (lo hi:Option Int):(fi xs lo hi).length<=xs.length:=by
 unfold fi
 rw [List.length_take,List.length_drop]
 omega
noncomputable def CN (K:Frag):V->Option Int->Option Int->Hp->VK->Prop:=fun x lo hi H Q => ∃ a xs,x = .ref a/\SqT K H a xs /\
 ¬ (HT.sIx xs.length 0 lo=0/\HT.sIx xs.length xs.length hi=xs.length) /\ ∀ p,H p=none->Q (.ref p) (upd H p (.tup (fi xs lo hi)))
theorem sl_tup:SlR X (CN X.K):=by
 intro pins s σ H x v vl vu lo hi sl Q I rx hs pl pu h
 obtain ⟨a,xs,rfl,hx,hw,q⟩:=h
 cases rx
 obtain ⟨its,r,j,hz⟩:=I.tuple hx
 have hlen:its.toArray.size=xs.length:=by rw [List.size_toArray];exact r.length.symm
 refine ⟨"tuple",_,PyProof.Rows.slot_tuple_getitem.lookup,j.typeIs, ?_⟩
 refine HT.getItem_tuple_cut j hs pl pu (by rw [hlen];exact hw) ?_ (by rw [hlen];exact hz)
 rw [hlen]
 refine ⟨.ref s.heap.objs.size,_,I.laid (t':=s.toks) (o := .tup (fi xs lo hi)) (fun b ob q=>Heap.get?_push_of_some _ q) (Nat.le_refl _) ?_,rfl,q _ (I.hok.fresh (Nat.le_refl _))⟩
 exact ⟨Nat.le_trans (gn xs lo hi) hz,_,(r.drop (HT.sIx xs.length 0 lo)).take (HT.sIx xs.length xs.length hi - HT.sIx xs.length 0 lo),IsTup.new _ _⟩
noncomputable def xo (K:Frag):R2:=fun x y H Q => ∃ a b xs ys,x = .ref a/\y = .ref b/\SqT K H a xs/\SqT K H b ys/\xs≠[]/\xs.length+ys.length<=sizeLine /\
 (ys=[]->Q (.ref a) H)/\(ys≠[] -> ∀ p,H p=none->Q (.ref p) (upd H p (.tup (xs++ys))))
theorem Vals.nil_iff {xs:List V} {us:List Value} (r:Vals xs us):us=[]↔xs=[]:=by
 cases r with
 | nil=>simp
 | cons _ _=>simp
theorem op_catT:OpR X (binaryOp .Add) (xo X.K):=by
 intro pins s σ H x y v u Q I rx ry h
 obtain ⟨a,b,xs,ys,rfl,rfl,ha,hb,hx,hz,F,G⟩:=h
 cases rx
 cases ry
 obtain ⟨its,n,J,_⟩:=I.tuple ha
 obtain ⟨B,j,p2,_⟩:=I.tuple hb
 refine HT.cat_tup J p2 (fun z=>hx (n.nil_iff.mp z)) (fun z=>⟨.ref a,H,I,rfl,F (j.nil_iff.mp z)⟩) (fun z => ?_) (by rw [<- n.length, <- j.length];exact hz)
 refine ⟨.ref s.heap.objs.size,_,I.laid (t':=s.toks) (o := .tup (xs++ys)) (fun b ob q=>Heap.get?_push_of_some _ q) (Nat.le_refl _) ?_,rfl,G (fun w=>z (j.nil_iff.mpr w)) _ (I.hok.fresh (Nat.le_refl _))⟩
 exact ⟨by rw [List.length_append];exact hz,_,n.append j,IsTup.new _ _⟩
end
end
section
noncomputable def ixN (n:Nat) (i:Int):Option Nat:=if 0<=i then (if i < n then some i.toNat else none) else if -(n:Int)<=i then some (i+n).toNat else none
noncomputable def atI {α:Type} (xs:List α) (i:Int):Option α := (ixN xs.length i).bind fun j=>xs[j]?
theorem oz {n:Nat} {i:Int} {j:Nat} (h:ixN n i=some j):seqIndex? i n=some j/\j < n /\ -(n:Int)<=i/\i < n:=by
 unfold ixN at h
 by_cases h0 : 0<=i
 ·rw [if_pos h0] at h
  by_cases h1:i < n
  ·rw [if_pos h1] at h
   have e:i.toNat=j:=Option.some.inj h
   exact ⟨by rw [seqIndex_of h0 h1,e],by omega,by omega,h1⟩
  ·rw [if_neg h1] at h;cases h
 ·rw [if_neg h0] at h
  by_cases h1 : -(n:Int)<=i
  ·rw [if_pos h1] at h
   have e:(i+n).toNat=j:=Option.some.inj h
   exact ⟨by rw [seqIndex_neg (by omega) h1,e],by omega,h1,by omega⟩
  ·rw [if_neg h1] at h;cases h
theorem je {α:Type} {xs:List α} {i:Int} {v : α} (h:atI xs i=some v):∃ j,seqIndex? i xs.length=some j/\xs[j]? = some v/\j < xs.length /\ -(xs.length:Int)<=i/\i < xs.length:=by
 unfold atI at h
 cases e:ixN xs.length i with
 | none=>rw [e] at h;cases h
 | some j =>
   rw [e] at h
   obtain ⟨h1,h2,n,q⟩:=oz e
   exact ⟨j,h1,h,h2,n,q⟩
noncomputable def jf (b:Expr):Prop := ∀ o i,subscripted b false o i=operate [o,i] (getItem o i)
noncomputable def IxR (X:Cx) (r:R2):Prop :=
 ∀ (value slice:Expr) (pins:List (Addr×Obj)) (s:Shared) (σ:St) (H:Hp) (x y:V) (v u:Value) (Q:VK),Inv X pins σ H s->RelV x v->RelV y u->r x y H Q ->
  subscripted slice false v u=operate [v,u] (getItem v u)->wpAny (model X.prog X.w) X.A (subscriptTail value slice v u) (EP X pins σ Q) X.xe s
noncomputable def MtR (X:Cx) (id:String) (r:V->List V->Hp->VK->Prop):Prop :=
 ∀ (pins:List (Addr×Obj)) (s:Shared) (σ:St) (H:Hp) (x:V) (xs:List V) (v:Value) (us:List Value) (Q:VK),Inv X pins σ H s->RelV x v->Vals xs us->r x xs H Q ->
  wpAny (model X.prog X.w) X.A (call (.builtin id) (v::us)) (EP X pins σ Q) X.xe s
section
variable {X:Cx} {a b:Expr} {ta tb:TE} {pos:Pos}
theorem IxR.or {r r':R2} (h:IxR X r) (h':IxR X r'):IxR X (fun x y H Q=>r x y H Q∨r' x y H Q):=by
 intro value slice pins s σ H x y v u Q I rx ry q hs
 rcases q with q | q
 ·exact h value slice pins s σ H x y v u Q I rx ry q hs
 ·exact h' value slice pins s σ H x y v u Q I rx ry q hs
theorem BY {r:R2} (j:IxR X r) (ha:PE X a ta) (hb:PE X b tb) (hs:jf b):PE X (.Subscript a b pos) (tOp r ta tb):=by
 intro pins s σ H Q I h
 exact Subscript_ (uP ha hb I h fun v u s2 x y H2 n rx ry q=>j a b pins s2 σ H2 x y v u Q n rx ry q (hs _ _))
noncomputable def CO (K:Frag):R2:=fun x y H Q => ∃ p xs i v,x = .ref p/\y = .int i/\SqL K H p xs/\atI xs i=some v/\Q v H
noncomputable def CP (K:Frag):R2:=fun x y H Q => ∃ p xs i v,x = .ref p/\y = .int i/\SqT K H p xs/\atI xs i=some v/\Q v H
theorem ix_list:IxR X (CO X.K):=by
 intro value slice pins s σ H x y v u Q I rx ry h hs
 obtain ⟨p,xs,i,z,rfl,rfl,B,he,q⟩:=h
 cases rx
 obtain ⟨t,rfl⟩:=ry
 obtain ⟨its,r,pl,hz⟩:=I.list B
 obtain ⟨j,h1,h2,L,F,G⟩:=je he
 obtain ⟨w,ew,rw'⟩:=r.get h2
 have J:=r.length
 have hn:=dX
 have fin:EP X pins σ Q w s:=⟨z,H,I,rw',q⟩
 by_cases h0 : 0<=i
 ·have n:i.toNat=j:=by
   rw [seqIndex_of h0 G] at h1
   exact Option.some.inj h1
  exact item_listR pl.isList h0 (by omega) (by rw [n];simpa using ew) fin hs
 ·have n:(i+(its.toArray.size:Int)).toNat=j:=by
   rw [seqIndex_neg (by omega) F] at h1
   rw [List.size_toArray, <- J]
   exact Option.some.inj h1
  exact subscriptTail_builtinR (x:=w) pl.isList.typeIs slot_list_getitem.lookup
   (wpAny_getItem_list_neg (Q:=fun r s'=>r=w/\EP X pins σ Q r s') pl.isList (by omega) (by rw [List.size_toArray] <;> omega) (by omega) (by rw [n];simpa using ew) ⟨rfl,fin⟩) hs
theorem ix_tup:IxR X (CP X.K):=by
 intro value slice pins s σ H x y v u Q I rx ry h hs
 obtain ⟨p,xs,i,z,rfl,rfl,n,he,q⟩:=h
 cases rx
 obtain ⟨t,rfl⟩:=ry
 obtain ⟨its,r,pl,hz⟩:=I.tuple n
 obtain ⟨j,h1,h2,F,G,J⟩:=je he
 obtain ⟨w,ew,rw'⟩:=r.get h2
 have B:=r.length
 have hn:=dX
 have fin:EP X pins σ Q w s:=⟨z,H,I,rw',q⟩
 exact subscriptTail_builtinR (x:=w) pl.typeIs slot_tuple_getitem.lookup
  (getItem_tuple (j:=j) (Q:=fun r s'=>r=w/\EP X pins σ Q r s') pl (by omega) (by omega) (by rw [List.size_toArray, <- B];exact h1) (by simpa using ew) ⟨rfl,fin⟩) hs
theorem qd (its:List Value) (n j:Nat) (u:Value):Obj.mapSeq (·.setIfInBounds j u) { cls := .type "list",data := .seq its.toArray n } = { cls := .type "list",data := .seq (its.set j u).toArray n }:=by
 simp [Obj.mapSeq]
theorem Inv.lst {pins:List (Addr×Obj)} {σ:St} {H:Hp} {s:Shared} {p:Addr} {xs:List V} (I:Inv X pins σ H s) (h:H p=some (.lst xs)) :
 ∃ (its:List Value) (n:Nat),Vals xs its/\s.heap.get? p=some { cls := .type "list",data := .seq its.toArray n }/\xs.length<=sizeLine:=by
 obtain ⟨z,its,n,r,e⟩:=I.hok p _ h
 exact ⟨its,n,r,e,z⟩
theorem Inv.lstUpd {pins:List (Addr×Obj)} {σ:St} {H:Hp} {s:Shared} {p:Addr} {xs ys:List V} {its its':List Value} {n n':Nat} {f:Obj->Obj} (I:Inv X pins σ H s) (h:H p=some (.lst xs))
 (ho:s.heap.get? p=some { cls := .type "list",data := .seq its.toArray n }) (hf:f { cls := .type "list",data := .seq its.toArray n } = { cls := .type "list",data := .seq its'.toArray n' }) (r:Vals ys its') (hz:ys.length<=sizeLine) (t:Nat) :
 Inv X pins σ (upd H p (.lst ys)) { s with heap:=s.heap.update p f,toks:=t }:=by
 have e:(s.heap.update p f).get? p=some { cls := .type "list",data := .seq its'.toArray n' }:=by
  rw [Heap.get?_update_self f ho (by rw [hf] <;> rfl),hf]
 refine I.write (x:=p) (e:=p) (by rw [h];trivial) (.inl rfl) (fun b u hb q=>(Heap.get?_update_other _ _ (Ne.symm hb)).trans q) ⟨_,e⟩ ?_
 exact ⟨hz,its',n',r,e⟩
noncomputable def xq:V->V->V->Hp->(Hp->Prop)->Prop:=fun o i v H Q => ∃ p xs k j,o = .ref p/\i = .int k/\H p=some (.lst xs)/\ixN xs.length k=some j/\Q (upd H p (.lst (xs.set j v)))
theorem ll:PSet X xq:=by
 intro pins s σ H o i v ov iv u Q I ro ri rv h
 obtain ⟨p,xs,k,j,rfl,rfl,hp,J,q⟩:=h
 cases ro
 obtain ⟨t,rfl⟩:=ri
 obtain ⟨its,n,r,ho,hz⟩:=I.lst hp
 obtain ⟨h1,h2,F,G⟩:=oz J
 have z:=r.length
 have hn:=dX
 have I':Inv X pins σ (upd H p (.lst (xs.set j v))) { s with heap:=s.heap.update p (Obj.mapSeq (·.setIfInBounds j u)) } :=
  I.lstUpd hp ho (qd its n j u) (r.set rv j) (by rw [List.length_set];exact hz) s.toks
 by_cases h0 : 0<=k
 ·have B:k.toNat=j:=by
   rw [seqIndex_of h0 G] at h1
   exact Option.some.inj h1
  exact PySem.W.ki_setAt ho h0 (by omega) (by rw [List.size_toArray, <- z];exact G) (by rw [B];exact ⟨_,I',q⟩)
 ·have B:(k+(its.toArray.size:Int)).toNat=j:=by
   rw [seqIndex_neg (by omega) F] at h1
   rw [List.size_toArray, <- z]
   exact Option.some.inj h1
  exact PySem.W.ki_setBack ho (by omega) (by rw [List.size_toArray, <- z];exact F) (by omega) (by rw [B];exact ⟨_,I',q⟩)
theorem lm (lo hi:Option Int) (n:Nat):(sliceBounds lo hi none n).1=((HT.sIx n 0 lo:Nat):Int)/\(sliceBounds lo hi none n).2.1=((HT.sIx n n hi:Nat):Int)/\(sliceBounds lo hi none n).2.2=1:=by
 refine ⟨?_, ?_,rfl⟩
 ·cases lo with
  | none=>simp [sliceBounds,HT.sIx]
  | some i =>
    simp only [sliceBounds,HT.sIx,Option.getD_none,show (1:Int) > 0 by decide,if_true]
    by_cases h:i < 0
    ·simp only [h,if_true] <;> omega
    ·simp only [h,if_false] <;> omega
 ·cases hi with
  | none=>simp [sliceBounds,HT.sIx]
  | some i =>
    simp only [sliceBounds,HT.sIx,Option.getD_none,show (1:Int) > 0 by decide,if_true]
    by_cases h:i < 0
    ·simp only [h,if_true] <;> omega
    ·simp only [h,if_false] <;> omega
theorem kI (its:List Value) (lo hi:Option Int):slicePick its.toArray lo hi none=((its.drop (HT.sIx its.length 0 lo)).take (HT.sIx its.length its.length hi - HT.sIx its.length 0 lo)).toArray:=by
 obtain ⟨h1,h2,j⟩:=lm lo hi its.toArray.size
 unfold slicePick
 rw [h1,h2,j]
 simp only [sliceRange_one,pick_run,List.size_toArray] <;> rfl
noncomputable def CQ (K:Frag):V->Option Int->Option Int->Hp->VK->Prop:=fun x lo hi H Q => ∃ a xs,x = .ref a/\SqL K H a xs /\ ∀ p,H p=none->Q (.ref p) (upd H p (.lst (fi xs lo hi)))
theorem sl_list:SlR X (CQ X.K):=by
 intro pins s σ H x v vl vu lo hi sl Q I rx hs pl pu h
 obtain ⟨a,xs,rfl,hx,q⟩:=h
 cases rx
 obtain ⟨its,r,j,hz⟩:=I.list hx
 have hlen:=r.length
 refine ⟨"list",_,slot_list_getitem.lookup,j.isList.typeIs, ?_⟩
 refine wpAny_getItem_list_slice j.isList hs pl pu .none (by simp) ?_ (by rw [List.size_toArray] <;> omega)
 rw [kI, <- hlen]
 refine ⟨.ref s.heap.objs.size,_,I.laid (t':=s.toks) (o := .lst (fi xs lo hi)) (fun b ob q=>Heap.get?_push_of_some _ q) (Nat.le_refl _) ?_,rfl,q _ (I.hok.fresh (Nat.le_refl _))⟩
 exact ⟨Nat.le_trans (gn xs lo hi) hz,_,0,(r.drop (HT.sIx xs.length 0 lo)).take (HT.sIx xs.length xs.length hi - HT.sIx xs.length 0 lo),Heap.get?_push_size _ rfl⟩
theorem ln:CallR X (.type "list") (fun xs H Q => ∃ p ys,xs=[.ref p]/\(SqL X.K H p ys∨SqT X.K H p ys) /\ ∀ l,H l=none->Q (.ref l) (upd H l (.lst ys))):=by
 intro pins s σ H xs us Q I r h
 obtain ⟨p,ys,rfl,j,q⟩:=h
 obtain ⟨u,rfl,rx⟩:=dH r
 cases rx
 have fin:∀ (its:List Value),Vals ys its->ys.length<=sizeLine -> ∀ (h':Heap) (c':Nat),(∀ b o',s.heap.get? b=some o'->h'.get? b=some o') ->
  h'.get? s.heap.objs.size=some { cls := .type "list",dict:=none,data := .seq its.toArray c',slots := #[] }->EP X pins σ Q (.ref s.heap.objs.size) { s with heap:=h' }:=fun its r' hz h' c' kp e =>
  ⟨.ref s.heap.objs.size,_,I.laid (t':=s.toks) kp (Nat.le_refl _) (show ObjOk X.prog X.w _ h' _ (.lst ys) from ⟨hz,its,c',r',e⟩),rfl,q _ (I.hok.fresh (Nat.le_refl _))⟩
 rcases j with j | j
 ·obtain ⟨its,r',pl,hz⟩:=I.list j
  have hlen:=r'.length
  obtain ⟨o,ho,hc,n,hd⟩:=pl.isList
  exact call_list_seq p (.inl rfl) ho hc hd (fun h' c' kp e=>fin its r' hz h' c' kp e) (by simp only [List.size_toArray] <;> omega)
 ·obtain ⟨its,r',pl,hz⟩:=I.tuple j
  have hlen:=r'.length
  obtain ⟨o,ho,hc,n,hd⟩:=pl
  exact call_list_seq p (.inr rfl) ho hc hd (fun h' c' kp e=>fin its r' hz h' c' kp e) (by simp only [List.size_toArray] <;> omega)
theorem kJ:CallR X (.type "tuple") (fun xs H Q => ∃ p ys,xs=[.ref p]/\((SqL X.K H p ys /\ ∀ l,H l=none->Q (.ref l) (upd H l (.tup ys)))∨(SqT X.K H p ys/\Q (.ref p) H))):=by
 intro pins s σ H xs us Q I r h
 obtain ⟨p,ys,rfl,h⟩:=h
 obtain ⟨u,rfl,rx⟩:=dH r
 cases rx
 rcases h with ⟨j,q⟩ | ⟨j,q⟩
 ·obtain ⟨its,r',pl,hz⟩:=I.list j
  have hlen:=r'.length
  refine call_tuple_list pl.isList (fun h' kp => ?_) (by simp only [List.size_toArray] <;> omega)
  have n:Inv X pins σ H { s with heap:=h' }:=I.kept (t':=s.toks) kp
  have z:Inv X pins σ (upd H h'.objs.size (.tup ys)) { s with heap:=h'.push { cls := .type "tuple",data := .seq its.toArray } } :=
   n.laid (t':=s.toks) (fun b o e=>Heap.get?_push_of_some _ e) (Nat.le_refl _) (show ObjOk X.prog X.w _ _ _ (.tup ys) from ⟨hz,its,r',IsTup.new _ _⟩)
  exact ⟨.ref h'.objs.size,_,z,rfl,q _ (n.hok.fresh (Nat.le_refl _))⟩
 ·obtain ⟨its,r',pl,hz⟩:=I.tuple j
  exact call_tuple_same pl ⟨.ref p,H,I,rfl,q⟩
noncomputable def tyV (K:Frag) (T:String) (x:V) (H:Hp):Prop:=match x with
 | .str _=>T = "str"
 | .int _=>T = "int"
 | .ref p=>(T = "list" /\ ∃ xs,SqL K H p xs)∨(T = "tuple" /\ ∃ o,K.lookup p=some o/\o.cls = .type "tuple" /\ o.dict=none) ∨
  (T = "dict" /\ ((∃ kvs,H p=some (.dK kvs)) ∨ ∃ kvs,H p=some (.dT kvs)))∨(T = "set" /\ ∃ S n,H p=some (.set S n))
 | _=>False
theorem s0 {pins:List (Addr×Obj)} {σ:St} {H:Hp} {s:Shared} {T:String} {x:V} {v:Value} (I:Inv X pins σ H s) (r:RelV x v) (ty:tyV X.K T x H) :
 s.TypeIs v T /\ ∀ a,v = .ref a -> ∃ ob,s.heap.get? a=some ob/\ob.dict=none:=by
 cases x with
 | str z =>
   obtain ⟨t,rfl⟩:=r
   cases (show T = "str" from ty)
   exact ⟨typeIs_str s z t,fun _ e=>nomatch e⟩
 | int i =>
   obtain ⟨t,rfl⟩:=r
   cases (show T = "int" from ty)
   exact ⟨typeIs_int s i t,fun _ e=>nomatch e⟩
 | ref p =>
   cases r
   rcases ty with ⟨rfl,xs,q⟩ | ⟨rfl,o,j,hc,hd⟩ | ⟨rfl,j⟩ | ⟨rfl,S,n,j⟩
   ·obtain ⟨its,_,pl,_⟩:=I.list q
    refine ⟨pl.isList.typeIs,fun a e => ?_⟩
    cases e
    obtain ⟨o,n,e,c,hd,_⟩:=pl
    exact ⟨o,e,hd⟩
   ·refine ⟨⟨o,I.kIn p o j,hc⟩,fun a e => ?_⟩
    cases e
    exact ⟨o,I.kIn _ o j,hd⟩
   ·have z:∃ o,s.heap.get? p=some o/\o.ExactDict:=by
     rcases j with ⟨kvs,j⟩ | ⟨kvs,j⟩
     ·obtain ⟨_,_,_,_,o,_,_,e,ex,_⟩:=I.hok p _ j
      exact ⟨o,e,ex⟩
     ·obtain ⟨_,_,_,_,o,_,_,e,ex,_⟩:=I.hok p _ j
      exact ⟨o,e,ex⟩
    obtain ⟨o,e,ex⟩:=z
    refine ⟨⟨o,e,ex.1⟩,fun a e2 => ?_⟩
    cases e2
    exact ⟨o,e,ex.2.1⟩
   ·obtain ⟨o,_,_,_,e,ex,_⟩:=I.hok p _ j
    refine ⟨⟨o,e,ex.1⟩,fun a e2 => ?_⟩
    cases e2
    exact ⟨o,e,ex.2.1⟩
 | _=>exact False.elim ty
noncomputable def Av (K:Frag) (T:String) (r:V->List V->Hp->VK->Prop) (to:TE):TE:=fun σ H Q=>to σ H fun x H1=>tyV K T x H1/\r x [] H1 Q
noncomputable def tBM (K:Frag) (T:String) (r:V->List V->Hp->VK->Prop) (to:TE) (t:TA):TE:=fun σ H Q=>to σ H fun x H1=>tyV K T x H1/\t σ H1 fun xs H2=>r x xs H2 Q
variable {o e:Expr} {es:List Expr} {to:TE} {t:TA} {name:Str} {apos cpos:Pos} {T id:String} {r:V->List V->Hp->VK->Prop}
theorem sd (pa:PlainAttrs T) (slot:Slot T name id) (q:typeOf (.builtin id)=pure (.type "method_descriptor")) (hm:MtR X id r) (ho:PE X o to)
 (j:attributeBase o name X.env (eval o X.env)=eval o X.env:=by rfl) (n:(apos.endLine==cpos.line)=true:=by rfl):PE X (.Call (.Attribute o name apos) [] [] cpos) (Av X.K T r to):=by
 intro pins s σ H Q I h
 refine wpAny_Call_method0_late j n (thn (ho pins s σ H _ I h) fun v s1 ⟨x,H1,z,B,ty,F⟩ => ?_)
 obtain ⟨h1,h2⟩:=s0 z B ty
 exact ⟨T,id,pa,slot,q,h1,h2,Calls.callWith_builtin rfl (PySem.evalArgs_none (hm pins s1 σ H1 x [] v [] Q z B .nil F))⟩
theorem qe (pa:PlainAttrs T) (slot:Slot T name id) (B:typeOf (.builtin id)=pure (.type "method_descriptor")) (hm:MtR X id r) (ho:PE X o to) (ha:PA X (e::es) t)
 (n:attributeBase o name X.env (eval o X.env)=eval o X.env:=by rfl)
 (z:((backTo cpos (starEach (e::es) X.env)).all (fun x => !x.1)&&(backToKw cpos (keywordEach [] X.env)).all (fun x=>x.1.isSome)
   && decide ((e::es).length+([]:List Keyword).length+(if ([]:List Keyword).isEmpty then 0 else 1) < 30))=true:=by rfl)
 (q:(apos.endLine==cpos.line)=true:=by rfl) (hs:starEach (e::es) X.env=(false,eval e X.env)::starEach es X.env:=by rfl) (j:(backTo cpos (starEach es X.env)).any (·.1)=false:=by rfl) :
 PE X (.Call (.Attribute o name apos) (e::es) [] cpos) (tBM X.K T r to t):=by
 intro pins s σ H Q I h
 refine wpAny_Call_method_late n z q rfl (thn (ho pins s σ H _ I h) fun v s1 ⟨x,H1,F,G,ty,L⟩ => ?_)
 obtain ⟨h1,h2⟩:=s0 F G ty
 refine ⟨T,id,pa,slot,B,h1,h2, ?_⟩
 have J:=ha cpos pins s1 σ H1 _ F L
 rw [hs] at J ⊢
 refine Calls.callWith_builtin (by show (false || (backTo cpos (starEach es X.env)).any (·.1))=false;rw [j] <;> rfl) (Calls.evalArgs_plain ?_)
 exact thn J fun us s2 ⟨vs,H2,O,R,S⟩=>hm pins s2 σ H2 x vs v us Q O G R S
end
end
section
noncomputable def MtM (X:Cx) (id:String) (r:V->List V->Hp->VK->Prop):Prop :=
 ∀ (pins:List (Addr×Obj)) (s:Shared) (σ:St) (H:Hp) (x:V) (xs:List V) (v:Value) (us:List Value) (Q:VK),Inv X pins σ H s->RelV x v->Vals xs us->r x xs H Q ->
  wpAny (model X.prog X.w) X.A (call (.builtin id) (v::us)) (EP X pins σ Q) X.xe s
theorem Vals.one:∀ {x:V} {us:List Value},Vals [x] us -> ∃ u,us=[u]/\RelV x u
 | _,_, .cons r .nil=>⟨_,rfl,r⟩
theorem Vals.zero:∀ {us:List Value},Vals [] us->us=[]
 | _, .nil=>rfl
theorem Vals.reverse {xs:List V} {us:List Value} (h:Vals xs us):Vals xs.reverse us.reverse:=by
 induction h with
 | nil=>exact .nil
 | cons r t ih=>rw [List.reverse_cons,List.reverse_cons];exact Vals.append ih (.cons r .nil)
theorem Vals.rep {xs:List V} {us:List Value} (h:Vals xs us):∀ k:Nat,Vals (List.replicate k xs).flatten (List.replicate k us).flatten
 | 0 => .nil
 | k+1=>by
   rw [List.replicate_succ,List.replicate_succ,List.flatten_cons,List.flatten_cons]
   exact Vals.append h (Vals.rep h k)
theorem fj (its:List Value):∀ (k:Nat) (acc:List Value),
 List.foldl (fun j n=>j++n) acc.toArray (List.replicate k its.toArray)=(acc++(List.replicate k its).flatten).toArray
 | 0,acc=>by simp
 | k+1,acc=>by
   have e:acc.toArray++its.toArray=(acc++its).toArray:=by simp
   have e2:(acc++its)++(List.replicate k its).flatten=acc++(List.replicate (k+1) its).flatten:=by
    rw [List.replicate_succ,List.flatten_cons,List.append_assoc]
   rw [<- e2, <- fj its k (acc++its), <- e,List.replicate_succ,List.foldl_cons]
section
variable {X:Cx} {pins:List (Addr×Obj)} {σ:St} {H:Hp} {s:Shared} {l b:Addr} {xs ys zs:List V}
theorem Inv.lset {its its':List Value} {n:Nat} {f:Array Value->Array Value} {t':Nat} (I:Inv X pins σ H s) (j:H l=some (.lst xs))
 (e:s.heap.get? l=some { cls := .type "list",data := .seq its.toArray n }) (hf:f its.toArray=its'.toArray) (z:Vals ys its') (hz:ys.length<=sizeLine) :
 Inv X pins σ (upd H l (.lst ys)) { s with heap:=s.heap.update l (Obj.mapSeq f),toks:=t' }:=by
 have q:=PySem.IsL.update e f
 rw [hf] at q
 refine I.write (x:=l) (e:=l) (by rw [j];exact trivial) (.inl rfl) (fun b' u hb B=>(Heap.get?_update_other s.heap (Obj.mapSeq f) (Ne.symm hb)).trans B) ⟨_,q⟩ ?_
 exact ⟨hz,its',_,z,q⟩
theorem Inv.lnew {its:List Value} {t':Nat} (I:Inv X pins σ H s) (j:Vals ys its) (hz:ys.length<=sizeLine) :
 Inv X pins σ (upd H s.heap.objs.size (.lst ys)) { s with heap:=s.heap.push { cls := .type "list",data := .seq its.toArray },toks:=t' } :=
 I.laid (fun _ _ q=>Heap.get?_push_of_some _ q) (Nat.le_refl _) ⟨hz,its,0,j,Heap.get?_push_size _ rfl⟩
theorem Inv.fresh (I:Inv X pins σ H s):H s.heap.objs.size=none:=I.hok.fresh (Nat.le_refl _)
theorem Inv.lstM (I:Inv X pins σ H s) (j:H l=some (.lst xs)):xs.length<=sizeLine /\ ∃ (its:List Value) (n:Nat),Vals xs its/\xs.length=its.length/\s.heap.get? l=some { cls := .type "list",data := .seq its.toArray n }:=by
 obtain ⟨z,its,n,r,e⟩:=I.hok l _ j
 exact ⟨z,its,n,r,r.length,e⟩
theorem lp {n:Nat} (h:n<=sizeLine):Builtin.List.listTooLong n=false:=by
 unfold Builtin.List.listTooLong
 exact decide_eq_false (by omega)
end
section
variable {X:Cx}
noncomputable def oA:V->List V->Hp->VK->Prop:=fun x vs H Q => ∃ l xs y,x = .ref l/\vs=[y]/\H l=some (.lst xs)/\xs.length < sizeLine/\Q .non (upd H l (.lst (xs++[y])))
theorem jS:MtM X "list.append" oA:=by
 intro pins s σ H x vs v us Q I rx rv h
 obtain ⟨l,xs,y,rfl,rfl,j,hz,q⟩:=h
 cases rx
 obtain ⟨u,rfl,ru⟩:=rv.one
 obtain ⟨z,its,n,r,B,e⟩:=I.lstM j
 refine call_meets F.slot_list_append ⟨_,e,rfl⟩ F.entry_list_append (F.args_list_append_2 _ _) (PySem.list_append l its.toArray n u (by rw [List.size_toArray];omega)) ⟨e, ?_⟩
 refine ⟨.non,_,I.lset (its':=its++[u]) j e (by simp) (r.append (.cons ru .nil)) ?_,rfl,q⟩
 rw [List.length_append,List.length_singleton]
 omega
noncomputable def oB:V->List V->Hp->VK->Prop:=fun x vs H Q => ∃ l b xs zs,x = .ref l/\vs=[.ref b]/\H l=some (.lst xs)/\H b=some (.lst zs)/\xs.length+zs.length<=sizeLine/\Q .non (upd H l (.lst (xs++zs)))
theorem se:MtM X "list.extend" oB:=by
 intro pins s σ H x vs v us Q I rx rv h
 obtain ⟨l,b,xs,zs,rfl,rfl,G,J,hz,q⟩:=h
 cases rx
 obtain ⟨u,rfl,ru⟩:=rv.one
 cases ru
 obtain ⟨z,its,n,r,S,e⟩:=I.lstM G
 obtain ⟨U,j,L,O,R,e2⟩:=I.lstM J
 have hsz:its.toArray.size+j.toArray.size<=sizeLine:=by rw [List.size_toArray,List.size_toArray];omega
 have B : ¬ (!its.toArray.isEmpty&&Builtin.List.listTooLong (its.toArray.size+j.toArray.size))=true:=by
  rw [lp hsz,Bool.and_false]
  exact Bool.false_ne_true
 refine call_meets F.slot_list_extend ⟨_,e,rfl⟩ F.entry_list_extend (F.args_list_extend_2 _ _)
  (AutoSeq1.list_extend_list_list_0 l its.toArray n b j.toArray L B (by rw [List.size_toArray];omega) (by omega)) ⟨e,e2, ?_⟩
 refine ⟨.non,_,I.lset (its':=its++j) G e (by simp) (r.append O) ?_,rfl,q⟩
 rw [List.length_append]
 omega
noncomputable def lq:V->List V->Hp->VK->Prop:=fun x vs H Q => ∃ l xs,x = .ref l/\vs=[]/\H l=some (.lst xs)/\Q .non (upd H l (.lst xs.reverse))
theorem qf:MtM X "list.reverse" lq:=by
 intro pins s σ H x vs v us Q I rx rv h
 obtain ⟨l,xs,rfl,rfl,B,q⟩:=h
 cases rx
 have j:=rv.zero
 subst j
 obtain ⟨z,its,n,r,G,e⟩:=I.lstM B
 refine call_meets F.slot_list_reverse ⟨_,e,rfl⟩ F.entry_list_reverse (F.args_list_reverse_1 _) (AutoSeq1.list_reverse_list_0 l its.toArray n (by rw [List.size_toArray];omega)) ⟨e, ?_⟩
 refine ⟨.non,_,I.lset (its':=its.reverse) B e (by simp) r.reverse ?_,rfl,q⟩
 rw [List.length_reverse]
 omega
noncomputable def sf:V->List V->Hp->VK->Prop:=fun x vs H Q => ∃ l xs,x = .ref l/\vs=[]/\H l=some (.lst xs)/\Q .non (upd H l (.lst []))
theorem uY:MtM X "list.clear" sf:=by
 intro pins s σ H x vs v us Q I rx rv h
 obtain ⟨l,xs,rfl,rfl,B,q⟩:=h
 cases rx
 have j:=rv.zero
 subst j
 obtain ⟨z,its,n,r,G,e⟩:=I.lstM B
 refine call_meets F.slot_list_clear ⟨_,e,rfl⟩ F.entry_list_clear (F.args_list_clear_1 _) (AutoSeq1.list_clear_list_0 l its.toArray n (by rw [List.size_toArray];omega)) ⟨e, ?_⟩
 exact ⟨.non,_,I.lset (its' := []) (ys := []) B e rfl .nil (Nat.zero_le _),rfl,q⟩
noncomputable def CS:R2:=fun x y H Q => ∃ l b xs zs,x = .ref l/\y = .ref b/\H l=some (.lst xs)/\H b=some (.lst zs)/\xs.length+zs.length<=sizeLine /\ ∀ p,H p=none->Q (.ref p) (upd H p (.lst (xs++zs)))
theorem op_cat:OpR X (binaryOp .Add) CS:=by
 intro pins s σ H x y v u Q I rx ry h
 obtain ⟨l,b,xs,zs,rfl,rfl,B,F,hz,q⟩:=h
 cases rx
 cases ry
 obtain ⟨z,its,n,r,L,e⟩:=I.lstM B
 obtain ⟨O,j,R,G,J,e2⟩:=I.lstM F
 refine PySem.P.add_list e e2 ?_ (by rw [List.size_toArray,List.size_toArray];omega)
 have ea:its.toArray++j.toArray=(its++j).toArray:=by simp
 rw [ea]
 exact ⟨.ref _,_,I.lnew (t':=s.toks) (r.append G) (by rw [List.length_append];omega),rfl,q _ I.fresh⟩
noncomputable def CT:R2:=fun x y H Q => ∃ l k xs,x = .ref l/\y = .int k/\H l=some (.lst xs) /\ -(2 ^ 63)<=k/\k < 2 ^ 63/\xs.length*k.toNat<=sizeLine /\
 ∀ p,H p=none->Q (.ref p) (upd H p (.lst (List.replicate k.toNat xs).flatten))
theorem oC {α:Type} (xs:List α) (k:Nat):(List.replicate k xs).flatten.length=k*xs.length:=by
 induction k with
 | zero=>simp
 | succ k ih=>rw [List.replicate_succ,List.flatten_cons,List.length_append,ih,Nat.succ_mul,Nat.add_comm]
theorem op_rep:OpR X (binaryOp .Mult) CT:=by
 intro pins s σ H x y v u Q I rx ry h
 obtain ⟨l,k,xs,rfl,rfl,R,h1,h2,hz,q⟩:=h
 cases rx
 obtain ⟨t,rfl⟩:=ry
 obtain ⟨z,its,n,r,S,e⟩:=I.lstM R
 have hlen:its.toArray.size*k.toNat<=sizeLine:=by rw [List.size_toArray, <- S];exact hz
 have B : ¬ its.toArray.size*k.toNat > (2 ^ 63 - 1) / 8:=by
  have:(sizeLine:Nat)<=(2 ^ 63 - 1) / 8:=by decide
  omega
 have G : ¬ (!Builtin.List.listFitsIndex k)=true:=by
  rw [fitsIndex_both h1 h2]
  exact Bool.false_ne_true
 have j : ¬ Builtin.List.listTooLong (its.toArray.size*k.toNat)=true:=by
  rw [lp hlen]
  exact Bool.false_ne_true
 have J:List.foldl (fun L O=>L++O) #[] (List.replicate (if its.toArray.isEmpty=true then 0 else k.toNat) its.toArray)=(List.replicate k.toNat its).flatten.toArray:=by
  have f0:∀ m:Nat,List.foldl (fun L O=>L++O) #[] (List.replicate m its.toArray)=(List.replicate m its).flatten.toArray:=fun m=>by
   have:=fj its m []
   rw [List.nil_append] at this
   exact this
  rw [f0]
  cases its with
  | nil=>simp
  | cons a r'=>rw [if_neg (by simp)]
 refine wpAny_binaryOp_repeat_ref (T := "list") (U := "int") (by decide) ⟨_,e,rfl⟩ (fun s'=>typeIs_int s' k t) noFill_list_mul F.fills_int_mul F.slot_int_rmul repeat_list F.slot_int_index.lookup
  (call_meets F.slot_int_rmul (typeIs_int s k t) F.entry_int_rmul (F.args_int_rmul_2 _ _) (int___rmul___int_list k t l its.toArray n)
    ⟨e,rfl,⟨_,e,rfl⟩,call_meets F.slot_list_mul ⟨_,e,rfl⟩ F.entry_list_mul (F.args_list_mul_2 _ _) (AutoListH.list___mul___list_int_3 l its.toArray n k t G B j) ⟨e, ?_⟩⟩)
 rw [J]
 exact ⟨.ref _,_,I.lnew (t':=s.toks) (r.rep k.toNat) (by rw [oC,Nat.mul_comm];exact hz),rfl,q _ I.fresh⟩
end
end
end L2
namespace Att
open PySem PySem.W PySem.Calls PyProof.Rows
theorem ic {P:Params} {h:Heap}:∀ (ns:List Int) (vs:List Value),WellAll P h vs (ns.map WData.int)->IntsAre vs ns:=by
 intro ns
 induction ns with
 | nil =>
   intro vs w
   rw [List.map_nil] at w
   cases w
   exact .nil
 | cons n ns ih =>
   intro vs w
   rw [List.map_cons] at w
   cases w with
   | cons a b =>
     cases a
     exact .cons _ _ (ih _ b)
theorem sg {l:OpenLaw} {n:Nat} (hn:l.most=some n) {P:Params} {h:Heap} {args:List WData} {vals:List Value}
 (j:l.row.toRowW.claim.pre args=true) (G:WellAll P h vals args) :
 ∃ a vs ns,vals=[Value.ref a]/\args=[WData.list (ns.map WData.int)]/\h.get? a=some { cls := .type "list",data := .seq vs.toArray }/\IntsAre vs ns/\ns.length<=n:=by
 have I:WShape.hasAll [] args [.list .int]=true:=(pre_splitW j).1
 have hc:l.pre.holds [] { args:=args }=true:=(pre_splitW j).2
 obtain ⟨d,r,rfl,h1,h2⟩:=hasAllW_cons I
 obtain rfl:=hasAllW_nil h2
 obtain ⟨xs,rfl,J⟩:=hasW_list h1
 obtain ⟨ns,rfl⟩:=items_int J
 have hlen:ns.length<=n:=by
  unfold OpenLaw.pre at hc
  have B:(WTm.not (.lt (.lit (.int (n:Int))) (.len (.arg 0)))).holds [] { args := [.list (ns.map .int)] }=true:=by
   have B:=(holds_andW hc).1
   rw [hn] at B
   exact B
  have F:=condW_of B (w_not (w_lt w_lit (w_len_list (w_arg rfl))))
  rw [List.length_map] at F
  refine Nat.le_of_not_lt fun q => ?_
  have q':(n:Int) < ((ns.length:Nat):Int):=by omega
  first
   | (rw [decide_eq_true q'] at F;exact absurd F (by decide))
   | (simp at F;omega)
 cases G with
 | cons L O =>
   cases O
   cases L with
   | list ho z=>exact ⟨_,_,ns,rfl,rfl,ho,ic ns _ z,hlen⟩
theorem si (l:OpenLaw) (args:List WData):l.row.toRowW.claim.post args (.bool true) args=true :=
 postW_of (r:=l.row.toRowW) (X:=(true==true))
  (show WShape.has [] (.bool true) .bool=true by first | rfl | decide | simp [WShape.has,WShape.arms,WShape.armsAll])
  (show (WTm.eq .res (.lit (.bool true))).value [] { args:=args,res:=some (.bool true),after:=args }=some (.bool (true==true)) from w_eq_bool (w_res rfl) w_lit) rfl
theorem attach_call {l:OpenLaw} {n:Nat} {q:Program} {loose:List Str} {XP:(Str->Option Value)->Heap->Prop} {YP:World->Heap->Prop} {d:DefRec}
 (hn:l.most=some n) (B:d.params.defaults=[])
 (call:∀ (w:World) (s₀ s₁:Shared) (mg mb:Str->Option Value) (fa:Addr) (o:Obj) (pm cd doc:Value) (a:Addr) (vs:List Value) (ns:List Int),
   Ground q loose [] XP w s₀ mg mb s₁.heap->YP w s₁.heap ->
   s₁.heap.get? fa=some o->o.data = .func (docDef d.name d.params d.body d.scope pm cd doc)->s₁.heap.CodeRec cd d.name->mg d.name=some (.ref fa) ->
   s₁.heap.get? a=some { cls := .type "list",data := .seq vs.toArray }->IntsAre vs ns->ns.length<=n->s₁.gens = #[] ->
   codeAny (model l.prog w) callerA (.call (.ref fa) ⟨[.ref a],[]⟩) (fun r s'=>r = .ok (.ret (.bool true))/\OldK s₁.heap s'.heap/\s'.os=s₁.os/\AllBare s'.gens) s₁) :
 WalkO q loose XP YP l.row.toRowW d [] (fun f vs=>PySem.call f vs):=by
 intro w s₀ s₁ mg mb G Y fa o pm cd doc dV kV ho hd F L I R args vals as j O S J U
 obtain rfl:dV = .none:=Dflts.none L B
 obtain rfl:kV = .none:=Dflts.noKw L
 obtain ⟨a,vs,ns,rfl,rfl,z,hints,hlen⟩:=sg hn j J
 refine enter_call (codeAny_mono (call w s₀ s₁ mg mb fa o pm cd doc a vs ns G Y ho (fd_plain hd) F I z hints hlen R) fun r s' Z => ?_)
 obtain ⟨rfl,h2,h3,h4⟩:=Z
 exact ⟨.inl ⟨.bool true, .bool true,[],rfl,fun _=>rfl, .bool true,si l _,fun _=>⟨List.Pairwise.nil,fun _ hm=>(nomatch hm)⟩⟩,h2,h3,h4⟩
section
variable {prog:Program} {w:World} {A:Around} {E:Value->Shared->Prop} {s:Shared} {K:Frag}
noncomputable def D6 (h:Heap) (L d:Addr):List (Addr×Obj):=(List.range h.objs.size).filterMap fun a=>if a=L∨a=d then none else (h.get? a).map fun o=>(a,o)
end
end Att
namespace L2
open PySem PySem.Spec PyProof.Rows
section
theorem jT:∀ {vs:List Value} {ns:List Int},IntsAre vs ns->Vals (ns.map V.int) vs
 | _,_, .nil => .nil
 | _,_, .cons n t h => .cons ⟨t,rfl⟩ (jT h)
noncomputable def qg (H:Hp):Prop := ∀ b,H b=none ∨ ∃ o xs,H b=some (.frz o (.lst xs))
theorem uZ {P:Program} {w:World} {K:Frag} {mg mb:Str->Option Value} {CX:CXT} {k:Nat} {fa a:Addr} {fd:FuncData} {x:Str} {sp:Sp} {s₁:Shared} {vs:List Value} {ns:List Int}
 (KX:K.In s₁.heap) (B:s₁.heap.Ns mainGlobals mg) (hb:s₁.heap.Ns builtinsNs mb) (L:∀ x:Str,x ≠ "__name__" -> mb x=bootBuiltins x) (G:s₁.heap.NoLimit) (hg:s₁.gens = #[])
 (ha:s₁.heap.get? a=some { cls := .type "list",data := .seq vs.toArray }) (hi:IntsAre vs ns) (U:ns.length<=sizeLine) (hr:Room k callerA)
 (F:∀ base:Heap,K.In base->base.Ns mainGlobals mg->dB P w K mg base CX k fa fd [x] sp) (j:∀ (s:Shared) (u:Value),BindsTo s fd ⟨[u],[]⟩ [(x,u)])
 (O:∀ H:Hp,qg H->SqL K H a (ns.map V.int)->sp [.ref a] H (fun v _=>v = .bl true) fun _ _ _=>False)
 (R:∀ H e s',CX [] H s₁ (fun _ _ _=>False) e s'->False) :
 codeAny (model P w) callerA (.call (.ref fa) ⟨[.ref a],[]⟩) (fun r s'=>r = .ok (.ret (.bool true))/\OldK s₁.heap s'.heap/\s'.os=s₁.os/\AllBare s'.gens) s₁ := by
 have rv:=jT hi
 have lenV:=hi.length
 have core:∀ H:Hp,qg H->SqL K H a (ns.map V.int)->HOk P w H s₁.heap->(∀ b,H b≠none->b=a)->(H a≠none->K.lookup a=none) ->
  codeAny (model P w) callerA (.call (.ref fa) ⟨[.ref a],[]⟩) (fun r s'=>r = .ok (.ret (.bool true))/\OldK s₁.heap s'.heap/\s'.os=s₁.os/\AllBare s'.gens) s₁ := by
  intro H Y hS hok Z hK
  have base_of:∀ {b:Addr} {o:Obj},s₁.heap.get? b=some o->H b=none->(eI s₁.heap H).get? b=some o:=fun e n=>uI e n
  have noA:∀ {b:Addr} {o:Obj} {es:Array DictEntry} {ep:Nat},s₁.heap.get? b=some o->o.data = .dict es ep->H b=none:=fun {b o es ep} e d=>by
   cases q:H b with
   | none=>rfl
   | some u =>
     have e':b=a:=Z b (by rw [q];simp)
     subst e'
     rw [ha] at e;cases e
     have d':Data.seq vs.toArray _=Data.dict es ep:=d
     cases d'
  have nsK:∀ {b:Addr} {m:Str->Option Value},s₁.heap.Ns b m->(eI s₁.heap H).Ns b m:=fun {b m} ⟨o,es,ep,e,d,r⟩=>⟨o,es,ep,base_of e (noA e d),d,r⟩
  have I:K.In (eI s₁.heap H):=fun b o e=>base_of (KX b o e) (by
   cases q:H b with
   | none=>rfl
   | some u =>
     have e':b=a:=Z b (by rw [q];simp)
     subst e'
     rw [hK (by rw [q];simp)] at e;cases e)
  have hM:Mod K mg (eI s₁.heap H):=⟨I,nsK B,⟨mb,nsK hb,L⟩,let ⟨mc,h1,h2⟩:=G; ⟨mc,nsK h1,h2⟩⟩
  have e0:qa P w K mg (eI s₁.heap H) callerA [] s₁ H:=⟨rfl,hM,fun b o e=>xS e,Nat.le_of_eq (rK _ _),trivial,fun b hb=>absurd (show b∈([]:List Addr) from hb) (by simp),hok, .of_eq hg⟩
  refine codeAny_mono ((F _ I (nsK B)).run callerA [] s₁ H ⟨[.ref a],[]⟩ [.ref a] [.ref a] _ _ hr e0 (j s₁ (.ref a)) (.cons rfl .nil) (O H Y hS)) fun r s' h => ?_
  cases r with
  | error e=>exact (R H e s' h).elim
  | ok fl =>
    cases fl with
    | next=>exact False.elim h
    | brk=>exact False.elim h
    | cont=>exact False.elim h
    | ret u =>
      obtain ⟨v,H',os,bare,un,J,r',q⟩:=h
      have q':v = .bl true:=q
      subst q'
      obtain rfl:u=Value.bool true:=r'
      refine ⟨rfl,OldK.of_keep fun b o e => ?_,os,bare⟩
      cases q:H b with
      | none=>exact un.keep b o e q (by intro z;exact absurd (show b∈([]:List Addr) from z) (by simp)) (by simp)
      | some u =>
        rcases Y b with z | ⟨ob,xs,z⟩
        ·rw [q] at z;cases z
        ·have z2:=un.frzs b ob _ z
         obtain ⟨e1,_⟩:=hok b _ z
         obtain ⟨e2,_⟩:=J b _ z2
         rw [e] at e1;cases e1
         exact e2
 cases S:K.lookup a with
 | some o =>
   have e:=KX a o S
   rw [ha] at e
   cases e
   refine core (fun _=>none) (fun _ => .inl rfl) (.inr ⟨_,vs.toArray,_,S,rfl,rfl,rfl,by rw [List.size_toArray,lenV];exact U,by simpa using rv⟩) (fun b u z=>by have z':(none:Option HO)=some u:=z;cases z') (fun b z=>absurd rfl z) fun z=>absurd rfl z
 | none =>
   refine core (fun b=>if b=a then some (.frz { cls := .type "list",data := .seq vs.toArray } (.lst (ns.map V.int))) else none) (fun b => ?_) (.inl (.inr ⟨{ cls := .type "list",data := .seq vs.toArray },if_pos rfl⟩)) (fun b u z => ?_) (fun b z => ?_) fun _=>S
   ·by_cases hb:b=a
    ·exact .inr ⟨_,_,if_pos hb⟩
    ·exact .inl (if_neg hb)
   ·by_cases hb:b=a
    ·have z':=(if_pos hb).symm.trans z
     cases z'
     subst hb
     exact ⟨ha,by rw [List.length_map];exact U,vs,_,rv,ha⟩
    ·have z':=(if_neg hb).symm.trans z
     cases z'
   ·by_cases hb:b=a
    ·exact hb
    ·exact absurd (if_neg hb) z
end
section
theorem walk_of {l:PySem.W.OpenLaw} {n k:Nat} {q:Program} {loose:List Str} {XP:(Str->Option Value)->Heap->Prop} {YP:World->Heap->Prop} {d:DefRec} {K:Params->Frag} {CX:World->CXT} {sp:World->Sp} {x:Str}
 (hn:l.most=some n) (z:n<=sizeLine) (B:d.params.defaults=[]) (O:Room k callerA)
 (R:∀ (w:World) (h:Heap),YP w h->(K w.params).In h)
 (F:∀ (w:World) (mg:Str->Option Value) (fa:Addr) (h:Heap),(K w.params).In h->h.Ns mainGlobals mg->mg d.name=some (.ref fa) ->
   ∃ fd:FuncData,(∀ (s:Shared) (u:Value),BindsTo s fd ⟨[u],[]⟩ [(x,u)]) /\
    ∀ base:Heap,(K w.params).In base->base.Ns mainGlobals mg->dB l.prog w (K w.params) mg base (CX w) k fa fd [x] (sp w))
 (I:∀ (w:World) (H:Hp) (a:Addr) (ns:List Int),ns.length<=n->qg H->SqL (K w.params) H a (ns.map V.int)->sp w [.ref a] H (fun v _=>v = .bl true) fun _ _ _=>False)
 (J:∀ (w:World) (H:Hp) (s:Shared) (e:Value) (s':Shared),CX w [] H s (fun _ _ _=>False) e s'->False) :
 PySem.W.WalkO q loose XP YP l.row.toRowW d [] (fun f vs=>PySem.call f vs):=by
 refine Att.attach_call hn B fun w s₀ s₁ mg mb fa o pm cd doc a vs ns G Y ho hd S L j hints hlen U => ?_
 have KX:=R w _ Y
 obtain ⟨fd,hb,Z⟩:=F w mg fa _ KX G.T.g L
 exact uZ KX G.T.g G.T.b G.T.builtins G.T.nolimit U j hints (Nat.le_trans hlen z) O Z hb (fun H hO hS=>I w H a ns hlen hO hS) fun H e s'=>J w H s₁ e s'
end
section
noncomputable def dj (s:Stmt):Arguments:=match s with
 | .FunctionDef _ a _ _ _ _ _ _ _ _=>a
 | _ => { posonlyargs := [],args := [],vararg:=none,kwonlyargs := [],kw_defaults := [],kwarg:=none,defaults := [] }
noncomputable def bV (s:Stmt):List Stmt:=match s with
 | .FunctionDef _ _ b _ _ _ _ _ _ _=>b
 | _ => []
noncomputable def ay (s:Stmt):Scope:=match s with
 | .FunctionDef _ _ _ _ _ _ sc _ _ _=>sc
 | _ => { kind := .function,names := [],isGenerator:=false,isCoroutine:=false }
noncomputable abbrev CX0:CXT:=fun _ _ _ _ _ _=>False
noncomputable abbrev E0:XK:=fun _ _ _=>False
theorem xr {X:Cx}:i8 CX0 X E0:=fun _ _ _ _ _ _ _ h=>h.elim
structure Fun (K:Frag) (x qual:Str) (st:Stmt) (f:Addr) (fd:FuncData):Prop where
 ex:∃ (oc:Value) (od:Option Addr) (kV doc pm:Value) (an:Option Addr) (cdv ct:Value) (osl:Array (Option Value)),
  fd=PySem.W.fnOf x qual (dj st) (bV st) (ay st) .none kV doc pm an cdv ct/\K.lookup f=some ⟨oc,od, .func fd,osl⟩/\PySem.W.codeIn K cdv qual=true
 kp:PySem.W.keepIn K (.ref f)=true
section
variable {P:Program} {w:World} {K:Frag} {mg:Str->Option Value} {base:Heap}
theorem Fun.ok {x qual:Str} {st:Stmt} {f:Addr} {fd:FuncData} {N ps:List Str} {k:Nat} {sp:Sp} (F:Fun K x qual st f fd) (S:fR N ps (ay st)) (len:∀ vs H Q E,sp vs H Q E->vs.length=ps.length)
 (j:∀ (cdv:Value) (A:Around) (outer:List Env) (s:Shared) (H:Hp) (vs:List V) (Q:VK) (E:XK),Room k (A.deeper (envOfC qual (ay st) s.heap.objs.size f cdv))->sp vs H Q E ->
   ∃ t,PSs (gE CX0 P w K mg base N qual (ay st) f cdv A outer s H E).nox (bV st) t/\t { nx:=fun _ H'=>Q .non H',rt:=Q } (cI N vs) H):dB P w K mg base CX0 (k+1) f fd ps sp:=by
 obtain ⟨oc,od,kV,doc,pm,an,cdv,ct,osl,rfl,lk,n⟩:=F.ex
 refine BW lk n S len fun A outer s H vs Q E B z => ?_
 obtain ⟨t,h,q⟩:=j cdv A outer s H vs Q E B z
 exact ⟨t,h.nox,q⟩
theorem Fun.binds {x qual:Str} {st:Stmt} {f:Addr} {fd:FuncData} {ps:List Str} (F:Fun K x qual st f fd)
 (h:∀ (kV doc pm:Value) (an:Option Addr) (cdv ct:Value) (us:List Value),us.length=ps.length->bindArgs (PySem.W.fnOf x qual (dj st) (bV st) (ay st) .none kV doc pm an cdv ct) ⟨us,[]⟩=pure (ps.zip us)):Binds K fd ps []:=by
 obtain ⟨oc,od,kV,doc,pm,an,cdv,ct,osl,rfl,lk,j⟩:=F.ex
 exact .all (h kV doc pm an cdv ct)
theorem ah {x qual:Str} {st:Stmt} {f:Addr} {oc:Value} {od an:Option Addr} {osl:Array (Option Value)} {kV doc pm cdv ct:Value} (l:K.lookup f=some ⟨oc,od, .func (PySem.W.fnOf x qual (dj st) (bV st) (ay st) .none kV doc pm an cdv ct),osl⟩)
 (c:PySem.W.codeIn K cdv qual=true) (k:PySem.W.keepIn K (.ref f)=true):Fun K x qual st f (PySem.W.fnOf x qual (dj st) (bV st) (ay st) .none kV doc pm an cdv ct):=⟨⟨oc,od,kV,doc,pm,an,cdv,ct,osl,rfl,l,c⟩,k⟩
end
noncomputable def Same (H H':Hp):Prop := ∀ b o,H b=some o->H' b=some o
theorem Same.trans {H H1 H2:Hp} (a:Same H H1) (b:Same H1 H2):Same H H2:=fun c o h=>b c o (a c o h)
theorem Same.free {H H':Hp} (e:Same H H') {l:Addr} (h:H' l=Option.none):H l=Option.none:=by
 cases q:H l with
 | none=>rfl
 | some o =>
   rw [e l o q] at h
   cases h
end
end L2
namespace HT
open PySem PySem.Spec PyProof.Rows
section
variable {prog:Program} {w:World} {A:Around} {E:Value->Shared->Prop} {s:Shared}
theorem getItem_tuple_whole {t sl:Addr} {items:Array Value} {vl vu:Value} {lo hi:Option Int} {Q:Value->Shared->Prop} (j:IsTup s.heap t items) (hs:s.heap.IsSliceOf sl vl vu .none) (pl:IsPart vl lo) (pu:IsPart vu hi)
 (hw:sIx items.size 0 lo=0/\sIx items.size items.size hi=items.size) (h:Q (.ref t) s):wpAny (model prog w) A (getItem (.ref t) (.ref sl)) Q E s:=by
 obtain ⟨os,n,q,F⟩:=id hs
 have z:s.TypeIs (.ref sl) "slice" := ⟨os,n,q⟩
 unfold getItem
 try with_reducible refine wpAny_holding ?_
 first | refine wpAny_bind (wpAny_pure ?_) | skip
 refine wpAny_bind (wpAny_sequenceKey j.typeIs (by decide) ?_)
 refine wpAny_bind (wpAny_callSpecial?_slot (name:=Str.ofString "__getitem__") j.typeIs PyProof.Rows.slot_tuple_getitem
  (wpAny_call_entry PyProof.Rows.slot_tuple_getitem j.typeIs entry_tuple_getitem ?_ (args_tuple_getitem _ _)))
 show wpAny _ _ (Builtin.Tuple.tupleItemsOf (.ref t) >>= _) _ _ s
 refine wpAny_bind (tupleItemsOf_ j ?_)
 refine wpAny_bind (wpAny_typeOf z ?_)
 rw [if_pos (by decide)]
 refine wpAny_bind (dC hs pl pu ?_)
 have B:(((sIx items.size 0 lo:Nat):Int)==0&&(1:Int)==1&&(sIx items.size items.size hi - sIx items.size 0 lo)==items.size)=true:=by
  rw [hw.1,hw.2];simp
 show wpAny _ _ (if (((sIx items.size 0 lo:Nat):Int)==0&&(1:Int)==1&&(sIx items.size items.size hi - sIx items.size 0 lo)==items.size)=true then _ else _) _ _ s
 rw [if_pos B]
 refine wpAny_bind (m:=Builtin.Tuple.tupleIsExact (.ref t)) ?_
 unfold Builtin.Tuple.tupleIsExact
 refine wpAny_bind (wpAny_typeOf j.typeIs (wpAny_pure ?_))
 show wpAny _ _ (if true=true then _ else _) _ _ s
 rw [if_pos rfl]
 exact wpAny_bind (wpAny_rule (wpAny_pure ⟨_,rfl,wpAny_pure h⟩))
end
end HT
namespace L2
open PySem PySem.Spec PyProof.Rows
section
section
variable {X:Cx}
noncomputable def CU (K:Frag):V->Option Int->Option Int->Hp->VK->Prop:=fun x lo hi H Q => ∃ a xs,x = .ref a/\SqT K H a xs/\(HT.sIx xs.length 0 lo=0/\HT.sIx xs.length xs.length hi=xs.length)/\Q x H
theorem v7:SlR X (CU X.K):=by
 intro pins s σ H x v vl vu lo hi sl Q I rx hs pl pu h
 obtain ⟨a,xs,rfl,hx,hw,q⟩:=h
 cases rx
 obtain ⟨its,r,j,hz⟩:=I.tuple hx
 have hlen:=r.length
 refine ⟨"tuple",_,slot_tuple_getitem.lookup,j.typeIs, ?_⟩
 refine HT.getItem_tuple_whole j hs pl pu (by rw [List.size_toArray, <- hlen];exact hw) ⟨.ref a,H,I,rfl,q⟩
end
end
section
section
variable {κ:Type} [DecidableEq κ]
noncomputable def bN (kvs:List (κ × V)) (k : κ):Option V:=(kvs.find? fun kv=>decide (kv.1=k)).map (·.2)
noncomputable def be (kvs:List (κ × V)) (k : κ) (v:V):List (κ × V) :=
 if (kvs.any fun kv=>decide (kv.1=k))=true then kvs.map (fun kv=>if kv.1=k then (kv.1,v) else kv) else kvs++[(k,v)]
noncomputable def xt (kvs:List (κ × V)) (k : κ):List (κ × V):=kvs.filter fun kv=>decide (kv.1≠k)
theorem eK {p : κ × V} {r:List (κ × V)} {k : κ} (e:p.1=k):bN (p::r) k=some p.2:=by simp [bN,List.find?_cons,e]
theorem eL {p : κ × V} {r:List (κ × V)} {k : κ} (e : ¬ p.1=k):bN (p::r) k=bN r k:=by simp [bN,List.find?_cons,e]
theorem lr (k : κ):∀ kvs:List (κ × V),(kvs.any fun kv=>decide (kv.1=k))=(bN kvs k).isSome
 | [] => rfl
 | p::r=>by
   rw [List.any_cons]
   by_cases e:p.1=k
   ·simp only [eK e,decide_eq_true e,Bool.true_or,Option.isSome_some]
   ·rw [eL e,decide_eq_false e,Bool.false_or];exact lr k r
theorem cJ (kvs:List (κ × V)) (k : κ) (v:V):(be kvs k v).length<=kvs.length+1:=by
 unfold be
 split
 ·rw [List.length_map];omega
 ·rw [List.length_append,List.length_cons,List.length_nil];omega
theorem RelO.isSome_eq {o:Option V} {u:Option Value} (r:RelO o u):o.isSome=u.isSome:=by
 cases o with
 | none=>cases u with
   | none=>rfl
   | some _=>exact (show False from r).elim
 | some _=>cases u with
   | none=>exact (show False from r).elim
   | some _=>rfl
theorem RelO.getD {o:Option V} {u:Option Value} {d:V} {d':Value} (r:RelO o u) (rd:RelV d d'):RelV (o.getD d) (u.getD d'):=by
 cases o with
 | none=>cases u with
   | none=>exact rd
   | some _=>exact (show False from r).elim
 | some _=>cases u with
   | none=>exact (show False from r).elim
   | some _=>exact r
theorem KV.val {kvs:List (κ × V)} {vs:List (κ × Value)} (r:KV kvs vs) (k : κ):RelO (bN kvs k) (valueAt vs k):=by
 unfold KV at r
 induction r with
 | nil=>exact True.intro
 | @cons p q ps qs h t ih =>
  obtain ⟨h1,h2⟩:=h
  by_cases e:p.1=k
  ·have e':q.1=k:=h1.symm.trans e
   have b:valueAt (q::qs) k=some q.2:=by simp [valueAt,List.find?_cons,e']
   rw [eK e,b];exact h2
  ·have e' : ¬ q.1=k:=fun z=>e (h1.trans z)
   have b:valueAt (q::qs) k=valueAt qs k:=by simp [valueAt,List.find?_cons,e']
   rw [eL e,b];exact ih
theorem KV.any {kvs:List (κ × V)} {vs:List (κ × Value)} (r:KV kvs vs) (k : κ):(kvs.any fun kv=>decide (kv.1=k))=vs.any fun kv=>decide (kv.1=k):=by
 unfold KV at r
 induction r with
 | nil=>rfl
 | cons h t ih=>rw [List.any_cons,List.any_cons,ih,h.1]
theorem KV.repl {kvs:List (κ × V)} {vs:List (κ × Value)} (r:KV kvs vs) (k : κ) {y:V} {u:Value} (ry:RelV y u) :
 KV (kvs.map fun kv=>if kv.1=k then (kv.1,y) else kv) (vs.map fun kv=>if kv.1=k then (kv.1,u) else kv):=by
 unfold KV at r ⊢
 induction r with
 | nil=>exact .nil
 | @cons p q ps qs h t ih =>
  rw [List.map_cons,List.map_cons]
  refine .cons ?_ ih
  obtain ⟨h1,h2⟩:=h
  by_cases e:p.1=k
  ·rw [if_pos e,if_pos (h1.symm.trans e)];exact ⟨h1,ry⟩
  ·rw [if_neg e,if_neg (fun z=>e (h1.trans z))];exact ⟨h1,h2⟩
theorem KV.put {kvs:List (κ × V)} {vs:List (κ × Value)} (r:KV kvs vs) (k : κ) {y:V} {u:Value} (ry:RelV y u):KV (be kvs k y) (stored vs k u):=by
 unfold be stored
 rw [r.any k]
 by_cases e:(vs.any fun kv=>decide (kv.1=k))=true
 ·rw [if_pos e,if_pos e];exact r.repl k ry
 ·rw [if_neg e,if_neg e];exact Paired.snoc r ⟨rfl,ry⟩
theorem KV.drop {kvs:List (κ × V)} {vs:List (κ × Value)} (r:KV kvs vs) (k : κ):KV (xt kvs k) (without vs k):=by
 unfold KV at r ⊢
 unfold xt without
 induction r with
 | nil=>exact .nil
 | @cons p q ps qs h t ih =>
  obtain ⟨h1,h2⟩:=h
  rw [List.filter_cons,List.filter_cons]
  by_cases e:p.1=k
  ·have a : ¬ decide (p.1≠k)=true:=by simp [e]
   have b : ¬ decide (q.1≠k)=true:=by simp [h1.symm.trans e]
   rw [if_neg a,if_neg b];exact ih
  ·have e' : ¬ q.1=k:=fun z=>e (h1.trans z)
   have a:decide (p.1≠k)=true:=by simp [e]
   have b:decide (q.1≠k)=true:=by simp [e']
   rw [if_pos a,if_pos b];exact .cons ⟨h1,h2⟩ ih
theorem KV.length {kvs:List (κ × V)} {vs:List (κ × Value)} (r:KV kvs vs):kvs.length=vs.length:=Paired.length r
end
theorem kQ {P:Program} {w:World} {k:Key} {u:Value} (r:RelV (kV k) u):(aF P w).is k u=true:=by
 cases k with
 | inl i=>obtain ⟨t,e⟩:=(show ∃ t,u=Value.int i t from r);subst e;exact nW P w i t
 | inr x=>obtain ⟨t,e⟩:=(show ∃ t,u=Value.str x t from r);subst e;exact nX P w x t
theorem jU {P:Program} {w:World}:∀ {ks:List Key} {us:List Value},Vals (ks.map kV) us->ItemsAre (aF P w) ks us
 | [],_,r=>by rw [List.map_nil] at r;cases r;exact .nil
 | k::ks,_,r=>by
   rw [List.map_cons] at r
   cases r with
   | cons h t=>exact .cons (kQ h) (jU t)
noncomputable abbrev KT (H:Hp):List (List Key×V)->List (List Key×Addr×Value)->Prop:=Paired fun p q=>p.1=q.1/\H q.2.1=some (.tup (p.1.map kV))/\RelV p.2 q.2.2
theorem KT.val {H:Hp} {kvs:List (List Key×V)} {xs:List (List Key×Addr×Value)} (r:KT H kvs xs) (k:List Key):RelO (bN kvs k) ((atKey xs k).map (·.2)):=by
 induction r with
 | nil=>exact True.intro
 | @cons p q ps qs h t ih =>
  obtain ⟨h1,_,h2⟩:=h
  by_cases e:p.1=k
  ·have e':q.1=k:=h1.symm.trans e
   have b:atKey (q::qs) k=some q.2:=by simp [atKey,List.find?_cons,e']
   rw [eK e,b];exact h2
  ·have e' : ¬ q.1=k:=fun z=>e (h1.trans z)
   have b:atKey (q::qs) k=atKey qs k:=by simp [atKey,List.find?_cons,e']
   rw [eL e,b];exact ih
theorem KT.repl {H:Hp} {kvs:List (List Key×V)} {xs:List (List Key×Addr×Value)} (r:KT H kvs xs) (k:List Key) {y:V} {u:Value} (ry:RelV y u) :
 KT H (kvs.map fun kv=>if kv.1=k then (kv.1,y) else kv) (xs.map (putAt k u)):=by
 induction r with
 | nil=>exact .nil
 | @cons p q ps qs h t ih =>
  rw [List.map_cons,List.map_cons]
  refine .cons ?_ ih
  obtain ⟨h1,h2,j⟩:=h
  unfold putAt
  by_cases e:p.1=k
  ·rw [if_pos e,if_pos (h1.symm.trans e)];exact ⟨h1,h2,ry⟩
  ·rw [if_neg e,if_neg (fun z=>e (h1.trans z))];exact ⟨h1,h2,j⟩
theorem KT.put {H:Hp} {kvs:List (List Key×V)} {xs:List (List Key×Addr×Value)} (r:KT H kvs xs) (k:List Key) {b:Addr} {y:V} {u:Value} (hb:H b=some (.tup (k.map kV))) (ry:RelV y u) :
 KT H (be kvs k y) (storedH xs k b u):=by
 have e:(kvs.any fun kv=>decide (kv.1=k))=(atKey xs k).isSome:=by
  rw [lr,(r.val k).isSome_eq,Option.isSome_map]
 unfold be storedH
 rw [e]
 by_cases q:(atKey xs k).isSome=true
 ·rw [if_pos q,if_pos q];exact r.repl k ry
 ·rw [if_neg q,if_neg q];exact Paired.snoc r ⟨rfl,hb,ry⟩
theorem KT.keeps {H H':Hp} {kvs:List (List Key×V)} {xs:List (List Key×Addr×Value)} (r:KT H kvs xs) (j:∀ b ys,H b=some (.tup ys)->H' b=some (.tup ys)):KT H' kvs xs :=
 Paired.mapP r fun _ _ z=>⟨z.1,j _ _ z.2.1,z.2.2⟩
section
variable {P:Program} {w:World} {H:Hp} {h:Heap} {a:Addr}
theorem xu {u:HO} (ok:HOk P w H h) (e:Rd H a u):ObjOk P w H h a u:=e.ok ok
theorem kR {kvs:List (Key×V)} (ok:HOk P w H h) (e:Rd H a (.dK kvs)):kvs.length<=sizeLine/\(a==sysModules)=false /\ ∃ vs,KV kvs vs/\h.DictOf (aF P w) a vs :=
 show ObjOk P w H h a (.dK kvs) from xu ok e
theorem BZ {kvs:List (Key×V)} (ok:HOk P w H h) (e:H a=some (.dK kvs)):kvs.length<=sizeLine/\(a==sysModules)=false /\ ∃ vs,KV kvs vs/\h.DictOf (aF P w) a vs:=kR ok (.inl e)
theorem fo {ks:List Key} (ok:HOk P w H h) (e:H a=some (.tup (ks.map kV))):(tupleKind (aF P w)).is h ks a:=by
 obtain ⟨_,its,r,o,h1,h2,n,j⟩:=(show ObjOk P w H h a (.tup (ks.map kV)) from ok a _ e)
 exact ⟨o,its.toArray,n,h1,h2,j,by simpa using jU r⟩
theorem fS {kvs:List (List Key×V)} (ok:HOk P w H h) (e:Rd H a (.dT kvs)):kvs.length<=sizeLine/\(a==sysModules)=false /\
 ∃ xs,KT H kvs xs/\h.DictOfH (tupleKind (aF P w)) a xs:=by
 obtain ⟨z,y,xs,r,o,es,ep,h1,h2,j,n,B⟩:=(show ObjOk P w H h a (.dT kvs) from xu ok e)
 refine ⟨z,y,xs,r,o,es,ep,h1,h2,j,n,fun x hx => ?_,B⟩
 have all:∀ {l:List (List Key×V)} {m:List (List Key×Addr×Value)},KT H l m -> ∀ x∈m,(tupleKind (aF P w)).is h x.1 x.2.1:=by
  intro l m q
  induction q with
  | nil=>intro x hx;exact nomatch hx
  | @cons p q ps qs hq t ih =>
   intro x hx
   rcases List.mem_cons.mp hx with e | hx
   ·subst e
    exact fo ok (by rw [<- hq.1];exact hq.2.1)
   ·exact ih x hx
 exact all r x hx
theorem xv {kvs:List (List Key×V)} (ok:HOk P w H h) (e:H a=some (.dT kvs)):kvs.length<=sizeLine/\(a==sysModules)=false /\
 ∃ xs,KT H kvs xs/\h.DictOfH (tupleKind (aF P w)) a xs:=fS ok (.inl e)
end
noncomputable def DGet (H:Hp) (a:Addr) (y:V) (r:Option V):Prop :=
 (∃ kvs k,Rd H a (.dK kvs)/\y=kV k/\r=bN kvs k) ∨ ∃ kvs k b,Rd H a (.dT kvs)/\y = .ref b/\H b=some (.tup (k.map kV))/\r=bN kvs k
noncomputable def DPut (H:Hp) (a:Addr) (y v:V) (H':Hp):Prop :=
 (∃ kvs k,H a=some (.dK kvs)/\y=kV k/\kvs.length < sizeLine/\H'=upd H a (.dK (be kvs k v))) ∨
 ∃ kvs k b,H a=some (.dT kvs)/\y = .ref b/\H b=some (.tup (k.map kV))/\kvs.length < sizeLine/\H'=upd H a (.dT (be kvs k v))
theorem DGet.k {H:Hp} {a:Addr} {kvs:List (Key×V)} {k:Key} (e:H a=some (.dK kvs)):DGet H a (kV k) (bN kvs k) := .inl ⟨kvs,k, .inl e,rfl,rfl⟩
theorem DGet.t {H:Hp} {a b:Addr} {kvs:List (List Key×V)} {k:List Key} (e:H a=some (.dT kvs)) (eb:H b=some (.tup (k.map kV))):DGet H a (.ref b) (bN kvs k) := .inr ⟨kvs,k,b, .inl e,rfl,eb,rfl⟩
theorem DPut.k {H:Hp} {a:Addr} {kvs:List (Key×V)} {k:Key} {v:V} (e:H a=some (.dK kvs)) (j:kvs.length < sizeLine):DPut H a (kV k) v (upd H a (.dK (be kvs k v))) := .inl ⟨kvs,k,e,rfl,j,rfl⟩
theorem DPut.t {H:Hp} {a b:Addr} {kvs:List (List Key×V)} {k:List Key} {v:V} (e:H a=some (.dT kvs)) (eb:H b=some (.tup (k.map kV))) (j:kvs.length < sizeLine) :
 DPut H a (.ref b) v (upd H a (.dT (be kvs k v))) := .inr ⟨kvs,k,b,e,rfl,eb,j,rfl⟩
section
variable {X:Cx} {pins:List (Addr×Obj)} {σ:St} {H:Hp} {s:Shared} {a:Addr} {y v:V} {u r:Value} {o:Option V} {A:Around} {E:Value->Shared->Prop}
theorem Inv.big (I:Inv X pins σ H s):sysModules < s.heap.objs.size:=by
 have h:mainGlobals < s.heap.objs.size:=(I.mod.glob.keeps I.bk).lt
 exact Nat.lt_trans (by decide) h
theorem sj {Q:Value->Shared->Prop} (n:A.units+1 < cLine) (I:Inv X pins σ H s) (g:DGet H a y (some v)) (ry:RelV y u) (h:∀ w' s',Inv X pins σ H s'->RelV v w'->Q w' s') :
 wpAny (model X.prog X.w) A (getItem (.ref a) u) Q E s:=by
 rcases g with ⟨kvs,k,e,ey,l⟩ | ⟨kvs,k,b,e,ey,eb,l⟩
 ·subst ey
  obtain ⟨z,hd,vs,rel,dd⟩:=kR I.hok e
  obtain ⟨w',hw,rw'⟩:=RelO.some_of (v:=v) (o:=valueAt vs k) (by rw [l];exact rel.val k)
  exact wpAny_getItem_of (kQ ry) dd.mapOf hw (h w' _ (I.tok _) rw')
 ·subst ey
  cases (show u=Value.ref b from ry)
  obtain ⟨z,hd,xs,rel,dd⟩:=fS I.hok e
  obtain ⟨w',hw,rw'⟩:=RelO.some_of (v:=v) (o:=(atKey xs k).map (·.2)) (by rw [l];exact rel.val k)
  obtain ⟨p,hp,j⟩:=Option.map_eq_some_iff.mp hw
  refine wpAny_getItem_heap (tupleKind_room_in1 n) (fo I.hok eb) dd hp ?_
  rw [j]
  exact h w' _ (I.tok _) rw'
theorem jg {h':Heap} {t':Nat} {ob:HO} (I:Inv X pins σ H s) (mu:Mut (H a)) (hs:Heap.SameBut a s.heap h') (he:∃ q,h'.get? a=some q) (new:ObjOk X.prog X.w (upd H a ob) h' a ob) :
 Inv X pins σ (upd H a ob) { s with heap:=h',toks:=t' } :=
 I.write (x:=a) (e:=a) mu (.inl rfl) (fun b q hb z=>(hs.2 b hb).trans z) he new
theorem Aw {P:Program} {w:World} {H':Hp} {h':Heap} {kvs:List (Key×V)} {vs:List (Key×Value)} (z:kvs.length<=sizeLine) (hd:(a==sysModules)=false) (rel:KV kvs vs) (dd:h'.DictOf (aF P w) a vs) :
 ObjOk P w H' h' a (.dK kvs):=⟨z,hd,vs,rel,dd⟩
theorem sk {H':Hp} {Q:Unit->Shared->Prop} (B:A.units+1 < cLine) (I:Inv X pins σ H s) (g:DPut H a y v H') (ry:RelV y u) (rv:RelV v r) (h:∀ s',Inv X pins σ H' s'->Q () s') :
 wpAny (model X.prog X.w) A (setItem (.ref a) u r) Q E s:=by
 rcases g with ⟨kvs,k,e,ey,l,eH⟩ | ⟨kvs,k,b,e,ey,eb,l,eH⟩
 ·subst ey eH
  obtain ⟨z,hd,vs,rel,dd⟩:=BZ I.hok e
  have hz:vs.length<=sizeLine:=by rw [<- rel.length];exact z
  have n:(be kvs k v).length<=sizeLine:=by have:=cJ kvs k v;omega
  refine wpAny_setItem_pairs (hsz:=hz) (kQ ry) dd fun h' dd' hs=>h _ ?_
  have he:∃ q,h'.get? a=some q:=let ⟨q,_,_,j,_⟩:=dd'; ⟨q,j⟩
  exact jg I (by rw [e];exact True.intro) hs he (Aw n hd (rel.put k rv) dd')
 ·subst ey eH
  cases (show u=Value.ref b from ry)
  obtain ⟨z,hd,xs,rel,dd⟩:=xv I.hok e
  have hz:xs.length<=sizeLine:=by rw [<- Paired.length rel];exact z
  have n:(be kvs k v).length<=sizeLine:=by have:=cJ kvs k v;omega
  refine wpAny_setItem_heap (hsz:=hz) (tupleKind_room_in1 B) (fo I.hok eb) dd fun h' dd' hs=>h _ ?_
  obtain ⟨q,es,ep,j,h2,F,G,_,J⟩:=dd'
  refine jg I (by rw [e];exact True.intro) hs ⟨q,j⟩ ⟨n,hd,_,(rel.put k eb rv).keeps fun c ys ec => ?_,q,es,ep,j,h2,F,G,J⟩
  rw [aj (xh ec e (fun z=>nomatch z))]
  exact ec
end
theorem v8 {P:Program} {w:World} {H:Hp} (h:Heap) (hb:sysModules < h.objs.size):ObjOk P w H (h.push { cls := .type "dict",data := .dict #[] }) h.objs.size (.dK []) :=
 ⟨Nat.zero_le _,beq_eq_false_iff_ne.mpr (Ne.symm (Nat.ne_of_lt hb)),[], .nil,Heap.DictOf.new h⟩
theorem lu {P:Program} {w:World} {H:Hp} (h:Heap) (hb:sysModules < h.objs.size):ObjOk P w H (h.push { cls := .type "dict",data := .dict #[] }) h.objs.size (.dT []) :=
 ⟨Nat.zero_le _,beq_eq_false_iff_ne.mpr (Ne.symm (Nat.ne_of_lt hb)),[], .nil,_, #[],0,Heap.get?_push_size _ rfl,⟨rfl,rfl,rfl⟩,rfl,rfl,List.nodup_nil⟩
noncomputable def Ax:TE:=fun _ H Q => ∀ p,H p=none->Q (.ref p) (upd H p (.dK []))
noncomputable def Ay:TE:=fun _ H Q => ∀ p,H p=none->Q (.ref p) (upd H p (.dT []))
section
variable {X:Cx} {pos:Pos}
theorem v9:PE X (.Dict [] [] pos) Ax:=fun pins s σ H Q I h =>
 wpAny_Dict_empty ⟨.ref s.heap.objs.size,_,I.laid (a:=s.heap.objs.size) (o := .dK []) (t':=s.toks) (fun _ _ q=>Heap.get?_push_of_some _ q) (Nat.le_refl _) (v8 s.heap I.big),rfl,h _ (I.hok.fresh (Nat.le_refl _))⟩
theorem va:PE X (.Dict [] [] pos) Ay:=fun pins s σ H Q I h =>
 wpAny_Dict_empty ⟨.ref s.heap.objs.size,_,I.laid (a:=s.heap.objs.size) (o := .dT []) (t':=s.toks) (fun _ _ q=>Heap.get?_push_of_some _ q) (Nat.le_refl _) (lu s.heap I.big),rfl,h _ (I.hok.fresh (Nat.le_refl _))⟩
end
structure M2 (X:Cx) (o:Expr) (m:Str) (apos:Pos) (e f:Expr) (cpos:Pos):Prop where
 base:attributeBase o m X.env (eval o X.env)=eval o X.env
 few:((backTo cpos (starEach [e,f] X.env)).all (fun x => !x.1)&&(backToKw cpos (keywordEach [] X.env)).all (fun x=>x.1.isSome)
  && decide (([e,f]:List Expr).length+([]:List Keyword).length+(if ([]:List Keyword).isEmpty then 0 else 1) < 30))=true
 line:(apos.endLine==cpos.line)=true
 trees:backTo cpos (starEach [e,f] X.env)=[(false,eval e X.env),(false,eval f X.env)]
noncomputable def IsD (H:Hp) (a:Addr):Prop:=(∃ kvs,Rd H a (.dK kvs)) ∨ ∃ kvs,Rd H a (.dT kvs)
theorem ie {X:Cx} {pins:List (Addr×Obj)} {σ:St} {H:Hp} {s:Shared} {a:Addr} (I:Inv X pins σ H s) (d:IsD H a) :
 s.TypeIs (.ref a) "dict" /\ (∀ b,Value.ref a = .ref b -> ∃ ob,s.heap.get? b=some ob/\ob.dict=none)/\(a==sysModules)=false:=by
 rcases d with ⟨kvs,e⟩ | ⟨kvs,e⟩
 ·obtain ⟨_,hd,vs,_,dd⟩:=kR I.hok e
  refine ⟨dd.typeIs,fun b q => ?_,hd⟩
  cases q
  obtain ⟨ob,_,_,h1,h2,_⟩:=dd
  exact ⟨ob,h1,h2.2.1⟩
 ·obtain ⟨_,hd,xs,_,dd⟩:=fS I.hok e
  refine ⟨dd.typeIs,fun b q => ?_,hd⟩
  cases q
  obtain ⟨ob,_,_,h1,h2,_⟩:=dd
  exact ⟨ob,h1,h2.2.1⟩
section
variable {X:Cx} {pins:List (Addr×Obj)} {σ:St} {H:Hp} {s:Shared} {a:Addr} {y d:V} {u r:Value} {o:Option V} {A:Around} {E:Value->Shared->Prop}
theorem Az {Q:Value->Shared->Prop} (j:A.units+1 < cLine) (I:Inv X pins σ H s) (g:DGet H a y o) (ry:RelV y u) (rd:RelV d r) (h:∀ w' s',Inv X pins σ H s'->RelV (o.getD d) w'->Q w' s') :
 wpAny (model X.prog X.w) A (call (.builtin "dict.get") [.ref a,u,r]) Q E s:=by
 rcases g with ⟨kvs,k,e,ey,l⟩ | ⟨kvs,k,b,e,ey,eb,l⟩
 ·subst ey
  obtain ⟨z,hd,vs,rel,dd⟩:=kR I.hok e
  refine call_meetsIn PySem.F.slot_dict_get dd.typeIs PySem.F.entry_dict_get (PySem.F.args_dict_get_3 _ _ _) (meets_dict_get_default (aF X.prog X.w) a (kQ ry) hd r) ⟨_,dd.mapOf,h _ _ (I.tok _) ?_⟩
  rw [l]
  exact (rel.val k).getD rd
 ·subst ey
  cases (show u=Value.ref b from ry)
  obtain ⟨z,hd,xs,rel,dd⟩:=fS I.hok e
  refine call_meetsIn PySem.F.slot_dict_get dd.typeIs PySem.F.entry_dict_get (PySem.F.args_dict_get_3 _ _ _) (meetsH_dict_get_default (tupleKind (aF X.prog X.w)) a b hd r) ⟨tupleKind_room_in1 j,k,xs,fo I.hok eb,dd,h _ _ (I.tok _) ?_⟩
  rw [l]
  exact (rel.val k).getD rd
end
noncomputable def AA (td ty tx:TE):TE:=fun σ H Q=>td σ H fun x H1 => ∃ a,x = .ref a/\IsD H1 a/\ty σ H1 fun y H2=>tx σ H2 fun z H3 => ∃ o,DGet H3 a y o/\Q (o.getD z) H3
section
variable {X:Cx} {o e f:Expr} {apos cpos:Pos} {td ty tx:TE}
theorem vc (n:X.A.units+1 < cLine) (ho:PE X o td) (he:PE X e ty) (hf:PE X f tx) (m:M2 X o "get" apos e f cpos):PE X (.Call (.Attribute o "get" apos) [e,f] [] cpos) (AA td ty tx):=by
 intro pins s σ H Q I h
 refine wpAny_Call_method m.base m.few m.line PySem.F.plainAttrs_dict PySem.F.slot_dict_get PySem.F.type_dict_get (thn (ho pins s σ H _ I h) fun u s1 ⟨x,H1,j,rx,a,ex,d,q⟩ => ?_)
 subst ex
 obtain rfl:u=Value.ref a:=rx
 obtain ⟨t1,B,_⟩:=ie j d
 refine ⟨t1,B, ?_⟩
 rw [m.trees]
 refine Calls.callWith_builtin rfl (Calls.evalArgs_plain (Calls.spliced_cons (thn (he pins s1 σ H1 _ j q) fun iv s2 ⟨y,H2,G,ry,J⟩ =>
  Calls.spliced_cons (thn (hf pins s2 σ H2 _ G J) fun fv s3 ⟨z,L,O,rz,ov,g,R⟩=>Calls.spliced_nil ?_))))
 exact Az n O g ry rz fun w' s4 S rw'=>⟨_,L,S,rw',R⟩
end
end
section
noncomputable def b8 (elt:Expr) (gens:List Comprehension) (scope:Scope) (pos:Pos) (d:Nat) (acc:Value) (env:Env) (k:Sem Fin):Sem Fin :=
 match gens[d+1]? with
 | some g'=>eval g'.iter env >>= fun x=>standAt g'.iter.pos >>= fun _=>foldedSetIterable g'.iter env x >>= fun x=>holding [x] (pyIter x) >>= fun it' =>
    runOwn (.compStart (.ListComp elt gens scope pos) (d+1) it' acc env) env >>= fun _=>k
 | none=>(eval elt env >>= fun x=>call (.builtin "list.append") [acc,x] >>= fun _=>pure ()) >>= fun _=>k
noncomputable def bg (ifs:List Expr) (env:Env):Sem Bool :=
 forIn ifs true fun c r=>if r=true then do let ok <- isTrue c env (eval c env);pure (ForInStep.yield ok) else pure (ForInStep.yield r)
theorem lw (elt target iter:Expr) (ifs:List Expr) (gens:List Comprehension) (scope:Scope) (pos:Pos) (d:Nat) (it acc:Value) (env:Env)
 (hd:gens[d]? = some ⟨target,iter,ifs,0⟩) (ha:∀ g',gens[d+1]? = some g'->g'.is_async=0) :
 compTurn (.ListComp elt gens scope pos) d it acc env=(standAt iter.pos >>= fun _=>pyNext it >>= fun r=>match r with
  | none=>pure (.done .next)
  | some v=>letOwnedTupleGo target it v >>= fun _=>assign target env v >>= fun _=>bg ifs env >>= fun ok =>
    (if ok=true then b8 elt gens scope pos d acc env (again (.compLoop (.ListComp elt gens scope pos) d it acc env)) else again (.compLoop (.ListComp elt gens scope pos) d it acc env))):=by
 unfold compTurn
 simp only [hd]
 unfold b8 bg
 cases hn:gens[d+1]? with
 | none=>rfl
 | some g' =>
   obtain ⟨t',i',f',a'⟩:=g'
   have e:a'=0:=ha _ hn
   subst e
   rfl
noncomputable abbrev TC:=St->Hp->(St->Hp->Prop)->Prop
noncomputable def cr (J:It) (g:TG) (tb:TC) (N:St->Hp->Prop) (σ:St) (H:Hp):Prop :=
 ∃ W:Nat->Nat->St->Hp->Prop,(∃ m,W 0 m σ H) /\ ∀ i m σ H,W i m σ H ->
  (J.stop i H/\N σ H)∨(J.go i H /\ ∃ N':St->Hp->Prop,(∀ σ' H',N' σ' H' -> ∃ m',m' < m/\W (i+1) m' σ' H') /\ ∀ x H',J.yld i H x H'->g x σ H' fun σ2 H2=>tb σ2 H2 N')
noncomputable def PB (X:Cx) (F:Sem Fin->Sem Fin) (t:TC):Prop :=
 ∀ (pins:List (Addr×Obj)) (s:Shared) (σ:St) (H:Hp) (N:St->Hp->Prop) (k:Sem Fin) (Q:Fin->Shared->Prop) (E:Value->Shared->Prop),Inv X pins σ H s->t σ H N ->
  (∀ s' σ' H',Inv X pins σ' H' s'->N σ' H'->wpAny (model X.prog X.w) X.A k Q E s')->wpAny (model X.prog X.w) X.A (F k) Q E s
section
variable {X:Cx}
theorem nox {α:Type} {m:Sem α} {Q : α -> Shared->Prop} {E:Value->Shared->Prop} {s:Shared} (hx:∀ e s,X.xe e s->False) (h:wpAny (model X.prog X.w) X.A m Q X.xe s):wpAny (model X.prog X.w) X.A m Q E s :=
 wpAny_mono h (fun _ _ q=>q) fun e s' q=>(hx e s' q).elim
noncomputable def ig (ts:List TT) (tb:TC):TC:=match ts with
 | [] => tb
 | t::r=>fun σ H N=>t σ H fun b H1=>if b=true then ig r tb σ H1 N else N σ H1
theorem ii {env:Env} {M:Model} {A:Around} {Q:Bool->Shared->Prop} {E:Value->Shared->Prop} {s:Shared} (h:Q false s):∀ ifs:List Expr,
 wpAny M A (forIn ifs false fun c r=>if r=true then do let ok <- isTrue c env (eval c env);pure (ForInStep.yield ok) else pure (ForInStep.yield r)) Q E s
 | [] => wpAny_pure h
 | c::r=>by
   rw [List.forIn_cons]
   simp only [Bool.false_eq_true,if_false]
   exact wpAny_bind (wpAny_pure (ii h r))
theorem lB (hx:∀ e s,X.xe e s->False) {tb:TC} {N:St->Hp->Prop}:∀ {ifs:List Expr} {ts:List TT},Paired (fun c t=>PT X c t) ifs ts ->
 ∀ (pins:List (Addr×Obj)) (s:Shared) (σ:St) (H:Hp) (E:Value->Shared->Prop),Inv X pins σ H s->ig ts tb σ H N ->
 wpAny (model X.prog X.w) X.A (bg ifs X.env) (fun ok s' => ∃ H',Inv X pins σ H' s'/\if ok=true then tb σ H' N else N σ H') E s
 | _,_, .nil=>fun pins s σ H E I h=>wpAny_pure ⟨H,I,by rw [if_pos rfl];exact h⟩
 | c::ifs,_, .cons (b:=t) hc hr=>by
   intro pins s σ H E I h
   have ih:=lB hx hr (tb:=tb) (N:=N) pins
   unfold bg at ih ⊢
   rw [List.forIn_cons]
   simp only [if_true]
   refine wpAny_bind (wpAny_bind (nox hx (thn (hc pins s σ H _ I h) fun b s1 ⟨H1,n,j⟩=>wpAny_pure ?_)))
   cases b with
   | false =>
     rw [if_neg Bool.false_ne_true] at j
     exact ii ⟨H1,n,by rw [if_neg Bool.false_ne_true];exact j⟩ ifs
   | true =>
     rw [if_pos rfl] at j
     exact ih s1 σ H1 E n j
theorem vd (hx:∀ e s,X.xe e s->False) {F:Sem Fin->Sem Fin} {tb:TC} (hb:PB X F tb) {ifs:List Expr} {ts:List TT} (hp:Paired (fun c t=>PT X c t) ifs ts) :
 PB X (fun k=>bg ifs X.env >>= fun ok=>if ok=true then F k else k) (ig ts tb):=by
 intro pins s σ H N k Q E I h hk
 refine wpAny_bind (thn (lB hx hp pins s σ H E I h) fun ok s1 ⟨H1,n,j⟩ => ?_)
 cases ok with
 | false =>
   rw [if_neg Bool.false_ne_true] at j ⊢
   exact hk s1 σ H1 n j
 | true =>
   rw [if_pos rfl] at j ⊢
   exact hb pins s1 σ H1 N k Q E n j hk
noncomputable def xw (p:Addr) (te:TE):TC:=fun σ H N=>te σ H fun x H1 => ∃ xs,H1 p=some (.lst xs)/\xs.length < sizeLine/\N σ (upd H1 p (.lst (xs++[x])))
theorem jh (hx:∀ e s,X.xe e s->False) {elt:Expr} {gens:List Comprehension} {scope:Scope} {pos:Pos} {d:Nat} {p:Addr} {te:TE} (he:PE X elt te) (hd:gens[d+1]? = none) :
 PB X (b8 elt gens scope pos d (.ref p) X.env) (xw p te):=by
 intro pins s σ H N k Q E I h j
 unfold b8
 rw [hd]
 refine wpAny_bind (wpAny_bind (nox hx (thn (he pins s σ H _ I h) fun u s1 ⟨x,H1,n,q,xs,e1,l1,z⟩ => ?_)))
 refine wpAny_bind (nox hx (thn (jS (X:=X) pins s1 σ H1 (.ref p) [x] (.ref p) [u] (fun _ H2=>N σ H2) n rfl (.cons q .nil) ⟨p,xs,x,rfl,rfl,e1,l1,z⟩) fun v s2 ⟨_,H2,B,_,F⟩ => ?_))
 exact wpAny_pure (j s2 σ H2 B F)
theorem jV (hx:∀ e s,X.xe e s->False) (hc:X.calm=true) {elt target iter:Expr} {ifs:List Expr} {gens:List Comprehension} {scope:Scope} {pos:Pos} {d:Nat} {acc:Value}
 (hd:gens[d]? = some ⟨target,iter,ifs,0⟩) (ha:∀ g',gens[d+1]? = some g'->g'.is_async=0) {g:TG} (Y:PG X target g) {tb:TC}
 (hb:PB X (fun k=>bg ifs X.env >>= fun ok=>if ok=true then b8 elt gens scope pos d acc X.env k else k) tb)
 {pins:List (Addr×Obj)} {s:Shared} {σ:St} {H:Hp} {N:St->Hp->Prop} {it:Addr} {fp:List Addr} {tn:Nat->Heap->Prop} {J:It} (I:Inv X pins σ H s) (T:eJ X.prog X.w X.K target J fp it tn)
 (t0:tn 0 s.heap) (f2:∀ b∈fp,bY X pins H b) (h:cr J g tb N σ H) :
 codeAny (model X.prog X.w) X.A (.compLoop (.ListComp elt gens scope pos) d (.ref it) acc X.env) (fun r s'=>match r with | .ok _ => ∃ σ' H',Inv X pins σ' H' s'/\N σ' H' | .error _=>False) s:=by
 obtain ⟨W,⟨m0,Z⟩,turn⟩:=h
 have stat:∀ {H':Hp},(∀ b∈fp,H' b=none) -> ∀ b∈fp,bY X pins H' b:=fun hn b hb=>⟨hn b hb,(f2 b hb).2⟩
 refine codeAny_loop rfl (fun n s' => ∃ i σ' H',Inv X pins σ' H' s'/\tn i s'.heap/\(∀ b∈fp,H' b=none)/\W i n σ' H') ?_ m0 ⟨0, σ,H,I,t0,fun b hb=>(f2 b hb).1,Z⟩
 rintro n s3 ⟨i, σ3,B,R,q,z,w3⟩
 show wpAny _ _ ((compTurn (.ListComp elt gens scope pos) d (.ref it) acc X.env).onRaise (fun x=>do noteFrame x X.env;theTreesLotGoes x)) _ _ s3
 refine wpAny_noted ?_
 rw [lw elt target iter ifs gens scope pos d (.ref it) acc X.env hd ha]
 refine wpAny_bind (wpAny_standAt (wpAny_bind ?_))
 show wpAny (model X.prog X.w) X.A _ _ _ s3
 rcases turn i n σ3 B w3 with ⟨stop,qn⟩ | ⟨go,N',hN,step⟩
 ·refine thn (T.done X rfl rfl rfl hc i pins s3 σ3 B _ R (stat z) q stop) fun r s4 ⟨F,I4⟩ => ?_
  subst F
  exact wpAny_pure ⟨σ3,B,I4,qn⟩
 ·refine thn (T.item X rfl rfl rfl hc i pins s3 σ3 B _ R (stat z) q go) fun r s4 ⟨u,F,h4⟩ => ?_
  subst F
  refine wpAny_bind (thn h4 fun _ s5 ⟨x,S,I5,r5,y5,j,G⟩ => ?_)
  have L:=I5.pinned (stat G) (T.obj _ _ j)
  refine wpAny_bind (nox hx (thn (Y _ s5 σ3 S x u _ L r5 (step x S y5)) fun _ s6 ⟨σ6,H6,I6,q6⟩ => ?_))
  refine hb _ s6 σ6 H6 N' (again (.compLoop (.ListComp elt gens scope pos) d (.ref it) acc X.env)) _ _ I6 q6 fun s7 σ7 U O n7 => ?_
  obtain ⟨m',hm,w7⟩:=hN σ7 U n7
  refine wpAny_pure ⟨rfl,m',hm,i+1, σ7,U,O.unpinned,T.keep _ _ _ j fun b hb o e=>(O.pin (b,o) (List.mem_append_right _ (List.mem_append_right _ (cX hb e)))).1,fun b hb => ?_,w7⟩
  obtain ⟨o,e,dd⟩:=T.obj _ _ j b hb
  exact (O.pin (b,o) (List.mem_append_right _ (List.mem_append_right _ (cX hb e)))).2.1
theorem ik {elt target iter:Expr} {ifs:List Expr} {gens:List Comprehension} {scope:Scope} {pos:Pos} {d:Nat} {it acc:Value} {env:Env} {prog:Program} {w:World} {A:Around} {R:Result->Shared->Prop} {s:Shared}
 (hd:gens[d]? = some ⟨target,iter,ifs,0⟩)
 (h0:codeAny (model prog w) A (.compLoop (.ListComp elt gens scope pos) d it acc env) R s)
 (h:wpAny (model prog w) A (pyIter it) (fun it' s'=>codeAny (model prog w) A (.compLoop (.ListComp elt gens scope pos) d it' acc env) R s')
   (notedBy (model prog w) A env fun x s'=>R (.error x) s') s) :
 codeAny (model prog w) A (.compStart (.ListComp elt gens scope pos) d it acc env) R s:=by
 refine codeAny_of_tree ?_
 show wpAny _ _ ((compStart (.ListComp elt gens scope pos) d it acc env).onRaise (fun x=>do noteFrame x env;standAt theWindowsPlace)) _ _ s
 refine wpAny_notedAt ?_
 unfold compStart
 have hc:(clausesOf (.ListComp elt gens scope pos))[d]? = some ⟨target,iter,ifs,0⟩:=hd
 rw [hc]
 show wpAny _ _ (ask >>= _) _ _ s
 refine wpAny_bind (wpAny_askSetting (wpAny_ite ?_))
 split
 ·first
   | exact wpAny_bind (wpAny_pure (wpAny_pure (And.intro rfl h0)))
   | exact wpAny_pure (And.intro rfl h0)
 ·first
   | exact wpAny_bind (wpAny_rule (wpAny_bind (wpAny_standAt (wpAny_bind (wpAny_mono h (fun it' s' h'=>wpAny_pure (And.intro rfl h')) fun _ _ x=>x)))))
   | (refine wpAny_bind (wpAny_rule ?_);show wpAny _ _ (standAt iter.pos >>= _) _ _ s;exact wpAny_bind (wpAny_standAt (wpAny_bind (wpAny_mono h (fun it' s' h'=>wpAny_pure (And.intro rfl h')) fun _ _ x=>x))))
theorem jW (hx:∀ e s,X.xe e s->False) (hc:X.calm=true) {elt target iter:Expr} {ifs:List Expr} {gens:List Comprehension} {scope:Scope} {pos:Pos} {d:Nat} {acc:Value}
 (hd:gens[d+1]? = some ⟨target,iter,ifs,0⟩) (ha:∀ g',gens[d+1+1]? = some g'->g'.is_async=0) {wi:TI} (hi:PI X target iter wi) {g:TG} (q:PG X target g) {tb:TC}
 (hb:PB X (fun k=>bg ifs X.env >>= fun ok=>if ok=true then b8 elt gens scope pos (d+1) acc X.env k else k) tb)
 (hs:∀ x,foldedSetIterable iter X.env x=pure x) :
 PB X (b8 elt gens scope pos d acc X.env) (fun σ H N=>wi σ H fun J H1=>cr J g tb N σ H1):=by
 intro pins s σ H N k Q E I h hk
 unfold b8
 rw [hd]
 refine wpAny_bind (nox hx (thn (hi pins s σ H _ I h) fun v s1 h1 => ?_))
 refine wpAny_bind (wpAny_standAt (wpAny_bind (wpAny_of_eq (hs v) ?_)))
 refine wpAny_bind (wpAny_holding (nox hx (thn h1 fun itv s2 h2 => ?_)))
 obtain ⟨it,fp,tn,J,H2,e,z,T,j,f2,hw⟩:=h2
 subst e
 have loop:=jV (acc:=acc) hx hc hd ha q hb z T j f2 hw
 refine wpAny_bind (wpAny_runOwn (codeAny_mono (ik (R:=fun r s'=>match r with | .ok _ => ∃ σ' H',Inv X pins σ' H' s'/\N σ' H' | .error _=>False) hd loop (T.self _ 0 _ _ _ j loop)) fun r s3 n => ?_))
 cases r with
 | error e=>exact n.elim
 | ok f =>
   obtain ⟨σ3,B,F,G⟩:=n
   exact hk s3 σ3 B F G
noncomputable def aU (cells:List (Str×Addr)):List (Str×NameKind)->List (Str×Addr)->List (Str×Addr)
 | [],acc=>acc
 | (n,k)::r,acc=>if k == .free then (match cells.lookup n with | some c=>aU cells r ((n,c)::acc) | none=>aU cells r acc) else aU cells r acc
theorem gp {env:Env}:∀ (names:List (Str×NameKind)) (acc:List (Str×Addr)),(∀ x∈names,x.2 = .free->(env.cells.lookup x.1).isSome=true) ->
 (forIn names acc fun (x:Str×NameKind) (r:List (Str×Addr))=>(match x with | (name,kind)=>if (kind==NameKind.free)=true then do let c <- cellOf env name;pure (ForInStep.yield ((name,c)::r)) else pure (ForInStep.yield r):Sem (ForInStep (List (Str×Addr)))))=(pure (aU env.cells names acc):Sem (List (Str×Addr)))
 | [],acc,_=>rfl
 | (n,k)::r,acc,h=>by
  rw [List.forIn_cons]
  have ih:=fun acc'=>gp r acc' fun x hx=>h x (List.mem_cons_of_mem _ hx)
  unfold aU
  by_cases hk:(k==NameKind.free)=true
  ·obtain ⟨c,hc⟩:=Option.isSome_iff_exists.mp (h (n,k) List.mem_cons_self (beq_iff_eq.mp hk))
   have j:env.cells.lookup n=some c:=hc
   have e1:cellOf env n=pure c:=by unfold cellOf;rw [j]
   simp only [hk,if_true,e1,j,pure_bind]
   exact ih _
  ·simp only [hk,if_false,pure_bind]
   exact ih _
theorem im {scope:Scope} {env:Env} (h:∀ x∈scope.names,x.2 = .free->(env.cells.lookup x.1).isSome=true):closureFor scope env=pure (aU env.cells scope.names []):=by
 unfold closureFor
 have e:=gp (env:=env) scope.names [] h
 simp only [bind_pure]
 exact e
theorem cY {cells:List (Str×Addr)} {y:Str} {c:Addr}:∀ {names:List (Str×NameKind)} {acc:List (Str×Addr)},(y,c)∈aU cells names acc->(y,c)∈acc∨(cells.lookup y=some c/\(y,NameKind.free)∈names)
 | [],acc,h => .inl h
 | (n,k)::r,acc,h=>by
  unfold aU at h
  by_cases hk:(k==NameKind.free)=true
  ·rw [if_pos hk] at h
   have B:k = .free:=beq_iff_eq.mp hk
   subst B
   cases F:cells.lookup n with
   | none =>
     rw [F] at h
     rcases cY h with z | ⟨j,q⟩
     ·exact .inl z
     ·exact .inr ⟨j,List.mem_cons_of_mem _ q⟩
   | some c' =>
     rw [F] at h
     rcases cY h with z | ⟨j,q⟩
     ·rcases List.mem_cons.mp z with e | z
      ·cases e
       exact .inr ⟨F,List.mem_cons_self⟩
      ·exact .inl z
     ·exact .inr ⟨j,List.mem_cons_of_mem _ q⟩
  ·rw [if_neg hk] at h
   rcases cY h with z | ⟨j,q⟩
   ·exact .inl z
   ·exact .inr ⟨j,List.mem_cons_of_mem _ q⟩
theorem cZ {cells:List (Str×Addr)} {y:Str} {c:Addr} (hc:cells.lookup y=some c):∀ {names:List (Str×NameKind)} {acc:List (Str×Addr)},((y,c)∈acc∨(y,NameKind.free)∈names)->(y,c)∈aU cells names acc
 | [],acc,h=>by
  rcases h with h | h
  ·exact h
  ·simp at h
 | (n,k)::r,acc,h=>by
  unfold aU
  by_cases hk:(k==NameKind.free)=true
  ·rw [if_pos hk]
   have j:k = .free:=beq_iff_eq.mp hk
   subst j
   cases hl:cells.lookup n with
   | none =>
     refine cZ hc ?_
     rcases h with h | h
     ·exact .inl h
     ·rcases List.mem_cons.mp h with e | h
      ·cases e;rw [hl] at hc;cases hc
      ·exact .inr h
   | some c' =>
     refine cZ hc ?_
     rcases h with h | h
     ·exact .inl (List.mem_cons_of_mem _ h)
     ·rcases List.mem_cons.mp h with e | h
      ·cases e;rw [hl] at hc;cases hc;exact .inl List.mem_cons_self
      ·exact .inr h
  ·rw [if_neg hk]
   refine cZ hc ?_
   rcases h with h | h
   ·exact .inl h
   ·rcases List.mem_cons.mp h with e | h
    ·cases e;exact absurd rfl hk
    ·exact .inr h
theorem cT:∀ (names:List (Str×NameKind)) (n:Nat) (acc acc':List (Str×Addr)),cellsFrom n names (acc++acc')=cellsFrom n names acc++acc'
 | [],_,_,_=>rfl
 | (x,k)::r,n,acc,acc'=>by
  unfold cellsFrom
  by_cases j:(k==NameKind.cell)=true
  ·rw [if_pos j,if_pos j]
   exact cT r (n+1) ((x,n)::acc) acc'
  ·rw [if_neg j,if_neg j]
   exact cT r n acc acc'
theorem cU:∀ {names:List (Str×NameKind)} {n:Nat} {acc:List (Str×Addr)} {y:Str} {c:Addr},(y,c)∈cellsFrom n names acc->(y,c)∈acc∨(n<=c/\(y,NameKind.cell)∈names)
 | [],_,_,_,_,h => .inl h
 | (x,k)::r,n,acc,y,c,h=>by
  unfold cellsFrom at h
  by_cases hk:(k==NameKind.cell)=true
  ·rw [if_pos hk] at h
   have j:k = .cell:=beq_iff_eq.mp hk
   subst j
   rcases cU h with z | ⟨q,B⟩
   ·rcases List.mem_cons.mp z with e | z
    ·cases e;exact .inr ⟨Nat.le_refl _,List.mem_cons_self⟩
    ·exact .inl z
   ·exact .inr ⟨Nat.le_of_succ_le q,List.mem_cons_of_mem _ B⟩
  ·rw [if_neg hk] at h
   rcases cU h with z | ⟨q,B⟩
   ·exact .inl z
   ·exact .inr ⟨q,List.mem_cons_of_mem _ B⟩
structure b9 (sc osc:Scope) (oN N':List Str) (fr:List (Option Nat)):Prop where
 kind:sc.kind = .function
 nd:(sc.names.map (·.1)).Nodup
 ndN:N'.Nodup
 free:∀ x∈sc.names,x.2 = .free->osc.names.lookup x.1=some .cell∨osc.names.lookup x.1=some .free
 len:fr.length=N'.length
 fr:∀ (i j:Nat) (x:Str),N'[i]? = some x->fr[i]? = some (some j)->oN[j]? = some x/\(x,NameKind.free)∈sc.names
noncomputable def inh (fr:List (Option Nat)) (σ:St):St:=fr.map fun o=>o.bind fun j=>(σ[j]?).join
noncomputable def ba (X:Cx) (sc:Scope) (L:Addr):Env :=
 { scope:=relabel sc X.env,locals:=L,globals:=X.env.globals,cells:=cellsFrom (L+1) sc.names (aU X.env.cells sc.names []),qual:=X.env.qual,func:=none,code:=X.env.code,frame:=X.env.frame,builtins:=X.env.builtins }
noncomputable def aG (X:Cx) (sc:Scope) (N':List Str) (s:Shared) (H:Hp) (fp:List Addr):Cx :=
 { X with N:=N',s₀ := s,H₀ := H,env:=ba X sc s.heap.objs.size,outer:=X.stack,stack:=X.stack,ex:=fp,fn:=fun x=>sc.names.lookup x==some .cell,pn := [],xe:=fun _ _=>False }
theorem aT:∀ {l:List (Str×NameKind)} {x:Str} {k:NameKind},(l.map (·.1)).Nodup->(x,k)∈l->l.lookup x=some k
 | (y,k')::r,x,k,nd,h=>by
  have nd':(y::r.map (·.1)).Nodup:=nd
  obtain ⟨n,q⟩:=List.nodup_cons.mp nd'
  rw [List.lookup_cons]
  rcases List.mem_cons.mp h with e | hm
  ·cases e;simp
  ·have j:(x==y)=false:=by
    refine beq_eq_false_iff_ne.mpr fun e => ?_
    subst e
    exact n (List.mem_map.mpr ⟨(x,k),hm,rfl⟩)
   rw [j]
   exact aT q hm
theorem cu {env:Env}:∀ {names:List (Str×NameKind)} {x:Str},
 (names.map fun (n,k)=>if (k==NameKind.free&&env.scope.kind == .function&&env.kindOf n==some .cell) then (n,NameKind.cell) else (n,k)).lookup x =
   (names.lookup x).map fun k=>if (k==NameKind.free&&env.scope.kind == .function&&env.kindOf x==some .cell) then NameKind.cell else k
 | [],_=>rfl
 | (n,k)::r,x=>by
  have ih:=cu (env:=env) (names:=r) (x:=x)
  show List.lookup x ((if (k==NameKind.free&&env.scope.kind == .function&&env.kindOf n==some .cell)=true then (n,NameKind.cell) else (n,k))::_)=_
  rw [List.lookup_cons (a:=x) (b:=k)]
  by_cases hx:x=n
  ·subst hx
   simp only [beq_self_eq_true]
   show _=some (if (k==NameKind.free&&env.scope.kind == .function&&env.kindOf x==some .cell)=true then NameKind.cell else k)
   by_cases hc:(k==NameKind.free&&env.scope.kind == .function&&env.kindOf x==some .cell)=true
   ·rw [if_pos hc,if_pos hc,List.lookup_cons];simp only [beq_self_eq_true]
   ·rw [if_neg hc,if_neg hc,List.lookup_cons];simp only [beq_self_eq_true]
  ·have hb:(x==n)=false:=beq_eq_false_iff_ne.mpr hx
   rw [hb]
   by_cases hc:(k==NameKind.free&&env.scope.kind == .function&&env.kindOf n==some .cell)=true
   ·rw [if_pos hc,List.lookup_cons,hb];exact ih
   ·rw [if_neg hc,List.lookup_cons,hb];exact ih
section
variable {pins:List (Addr×Obj)} {σ:St} {H:Hp} {s:Shared} {sc:Scope} {N':List Str} {fr:List (Option Nat)} {fp:List Addr}
theorem fq (I:Inv X pins σ H s) (B:b9 sc X.env.scope X.N N' fr):∀ x∈sc.names,x.2 = .free->(X.env.cells.lookup x.1).isSome=true:=fun x hx e=>by
 obtain ⟨c,hc⟩:=I.ok.has x.1 (B.free x hx e)
 rw [hc];rfl
theorem sn (I:Inv X pins σ H s) (f2:∀ b∈fp,bY X pins H b) (L:∀ b∈fp,b < s.heap.objs.size) (B:b9 sc X.env.scope X.N N' fr) :
 Inv (aG X sc N' s H fp) [] (inh fr σ) H { s with heap:=pushCells (s.heap.push { cls := .type "dict",data := .dict #[] }) sc.names }:=by
 have F:∀ b o,s.heap.get? b=some o->(pushCells (s.heap.push { cls := .type "dict",data := .dict #[] }) sc.names).get? b=some o:=fun b o e=>pushCells_keeps _ _ b o (Heap.get?_push_of_some _ e)
 have ok:=cellsFrom_ok sc.names (s.heap.push { cls := .type "dict",data := .dict #[] }) (s.heap.objs.size+1) [] ⟨fun _ _ hm=>(nomatch hm),List.Pairwise.nil⟩ (by rw [Heap.size_push];exact Nat.le_refl _)
 rw [Heap.size_push] at ok
 have capp:cellsFrom (s.heap.objs.size+1) sc.names (aU X.env.cells sc.names [])=cellsFrom (s.heap.objs.size+1) sc.names []++aU X.env.cells sc.names []:=cT sc.names _ [] _
 have cof:∀ x c,(ba X sc s.heap.objs.size).cells.lookup x=some c->((x,c)∈cellsFrom (s.heap.objs.size+1) sc.names []/\s.heap.objs.size < c)∨(X.env.cells.lookup x=some c/\(x,NameKind.free)∈sc.names):=fun x c e=>by
  have m:=PySem.mem_of_lookup e
  have m':(x,c)∈cellsFrom (s.heap.objs.size+1) sc.names (aU X.env.cells sc.names []):=m
  rw [capp] at m'
  rcases List.mem_append.mp m' with z | z
  ·exact .inl ⟨z,(ok.empty x c z).2⟩
  ·rcases cY z with q | q
   ·simp at q
   ·exact .inr q
 have cOld:∀ x c,X.env.cells.lookup x=some c->c < s.heap.objs.size:=fun x c e=>by
  obtain ⟨v,q⟩:=I.cell x c e
  exact q.lt
 have kindF:∀ x,(x,NameKind.free)∈sc.names->(ba X sc s.heap.objs.size).kindOf x=some .cell∨(ba X sc s.heap.objs.size).kindOf x=some .free:=fun x hx=>by
  have e1:sc.names.lookup x=some .free:=aT B.nd hx
  have e2:(ba X sc s.heap.objs.size).kindOf x=_:=cu (env:=X.env) (names:=sc.names) (x:=x)
  rw [e1] at e2
  rw [e2]
  by_cases hc:(NameKind.free==NameKind.free&&X.env.scope.kind == .function&&X.env.kindOf x==some .cell)=true
  ·exact .inl (by simp only [Option.map_some,if_pos hc])
  ·exact .inr (by simp only [Option.map_some,if_neg hc])
 have cellF:∀ x c,(x,NameKind.free)∈sc.names->X.env.cells.lookup x=some c->(ba X sc s.heap.objs.size).cells.lookup x=some c:=fun x c hx hc=>by
  have m:=cZ (acc := []) hc (.inr hx)
  have m2:(x,c)∈(ba X sc s.heap.objs.size).cells:=by
   show (x,c)∈cellsFrom (s.heap.objs.size+1) sc.names (aU X.env.cells sc.names [])
   rw [capp]
   exact List.mem_append_right _ m
  cases n:(ba X sc s.heap.objs.size).cells.lookup x with
  | none =>
    exfalso
    have:∀ {l:List (Str×Addr)},(x,c)∈l->l.lookup x=none->False:=by
     intro l
     induction l with
     | nil=>intro h;simp at h
     | cons a r ih =>
       intro h e
       obtain ⟨y,d⟩:=a
       rw [List.lookup_cons] at e
       rcases List.mem_cons.mp h with z | z
       ·cases z;simp at e
       ·by_cases hxy:(x==y)=true
        ·rw [hxy] at e;cases e
        ·simp only [Bool.not_eq_true] at hxy
         rw [hxy] at e
         exact ih z e
    exact this m2 n
  | some c' =>
    rcases cof x c' n with ⟨z,_⟩ | ⟨z,_⟩
    ·rcases cU z with q | ⟨_,q⟩
     ·simp at q
     ·have a1:=aT B.nd hx
      have a2:=aT B.nd q
      rw [a1] at a2;cases a2
    ·rw [hc] at z;rw [z]
 have kindC:∀ x,(ba X sc s.heap.objs.size).kindOf x=some .cell->(x,NameKind.cell)∈sc.names∨(x,NameKind.free)∈sc.names:=fun x e=>by
  have e2:(ba X sc s.heap.objs.size).kindOf x=_:=cu (env:=X.env) (names:=sc.names) (x:=x)
  rw [e2] at e
  cases n:sc.names.lookup x with
  | none=>rw [n] at e;cases e
  | some k =>
    rw [n] at e
    have m:=PySem.mem_of_lookup n
    cases k with
    | cell=>exact .inl m
    | free=>exact .inr m
    | «local» => simp at e
    | globalImplicit=>simp at e
    | globalExplicit=>simp at e
 have kindFr:∀ x,(ba X sc s.heap.objs.size).kindOf x=some .free->(x,NameKind.free)∈sc.names:=fun x e=>by
  have e2:(ba X sc s.heap.objs.size).kindOf x=_:=cu (env:=X.env) (names:=sc.names) (x:=x)
  rw [e2] at e
  cases n:sc.names.lookup x with
  | none=>rw [n] at e;cases e
  | some k =>
    rw [n] at e
    have m:=PySem.mem_of_lookup n
    cases k with
    | free=>exact m
    | cell=>simp at e
    | «local» => simp at e
    | globalImplicit=>simp at e
    | globalExplicit=>simp at e
 refine ⟨⟨I.ok.mod,B.kind,I.ok.glob,I.ok.blt,Nat.le_refl _,fun y z c h1 h2 => ?_,fun y hy => ?_,fun y c hf h => ?_,I.ok.hd,I.ok.frames, .inl rfl,fun b hb=>⟨?_,fun x c e => ?_⟩,fun b o e=>I.bs b o e, ?_,fun b o e hb => ?_,fun b hb => ?_,I.stack,I.stkFree⟩,
  rfl,I.bare,Un.kept F,⟨_,(Heap.Ns.new s.heap (.type "dict")).keeps (pushCells_keeps _ _),fun i x v h1 h2 h3 => ?_⟩,fun y c h => ?_,I.hok.fresh (Nat.le_refl _),fun y c h => ?_,fun p hp=>absurd (show p∈([]:List (Addr×Obj)) from hp) (by simp),I.hok.kept F, ?_⟩
 ·rcases cof y c h1 with ⟨a1,a2⟩ | ⟨a1,a2⟩
  ·rcases cof z c h2 with ⟨b1,b2⟩ | ⟨b1,b2⟩
   ·exact name_of_addr ok.apart a1 b1
   ·exact absurd (cOld z c b1) (Nat.not_lt.mpr (Nat.le_of_lt a2))
  ·rcases cof z c h2 with ⟨b1,b2⟩ | ⟨b1,b2⟩
   ·exact absurd (cOld y c a1) (Nat.not_lt.mpr (Nat.le_of_lt b2))
   ·exact I.ok.inj y z c a1 b1
 ·have U:(y,NameKind.cell)∈sc.names∨(y,NameKind.free)∈sc.names:=by
   rcases hy with hy | hy
   ·exact kindC y hy
   ·exact .inr (kindFr y hy)
  rcases U with q | q
  ·exact Option.isSome_iff_exists.mp (PySem.W.cellsFrom_some sc.names _ _ (.inl (aT B.nd q)))
  ·obtain ⟨c,hc⟩:=Option.isSome_iff_exists.mp (fq I B _ q rfl)
   exact ⟨c,cellF y c q hc⟩
 ·have Y:(sc.names.lookup y==some .cell)=true:=hf
  have O:sc.names.lookup y=some .cell:=by simpa using Y
  rcases cof y c h with ⟨_,a2⟩ | ⟨_,a2⟩
  ·exact Nat.le_of_lt a2
  ·rw [aT B.nd a2] at O;cases O
 ·exact Nat.ne_of_lt (L b hb)
 ·rcases cof x c e with ⟨_,a2⟩ | ⟨a1,_⟩
  ·exact Nat.ne_of_gt (Nat.lt_trans (L b hb) a2)
  ·exact (f2 b hb).2.2.2.2.1 x c a1
 ·exact Nat.le_trans I.ok.bsz I.sz
 ·obtain ⟨f0,f1,Z,f4,f5,f6⟩:=f2 b hb
  rcases f4 with z | z
  ·exact I.ok.noex b o e z
  ·exact absurd (Nat.lt_of_lt_of_le (Nat.lt_of_lt_of_le (Heap.lt_size e) I.ok.bsz) z) (Nat.lt_irrefl _)
 ·obtain ⟨f0,f1,Z,f4,f5,f6⟩:=f2 b hb
  exact fun z=>(List.mem_cons.mp (I.stkSub b z)).elim f1 Z
 ·have hi:∃ j,fr[i]? = some (some j) /\ σ[j]? = some (some v):=by
   unfold inh at h2
   rw [List.getElem?_map] at h2
   cases e:fr[i]? with
   | none=>rw [e] at h2;cases h2
   | some o =>
     rw [e] at h2
     cases o with
     | none=>cases h2
     | some j =>
       refine ⟨j,rfl, ?_⟩
       have G:some ((σ[j]?).join)=some (some v):=h2
       cases e' : σ[j]? with
       | none=>rw [e'] at G;cases G
       | some w=>rw [e'] at G;cases G;rfl
  obtain ⟨j,e1,e2⟩:=hi
  obtain ⟨n1,S⟩:=B.fr i j x h1 e1
  obtain ⟨m,hn,n⟩:=I.loc
  have hv:Vis X.env.scope x := .inr (B.free (x, .free) S rfl)
  obtain ⟨u,ru,lk⟩:=n j x v n1 e2 hv
  refine ⟨u,ru, .inr ⟨kindF x S, ?_⟩⟩
  rcases lk with ⟨k1,_⟩ | ⟨_,c,hc,J⟩
  ·have R:X.env.scope.names.lookup x=some .local:=k1
   rcases B.free (x, .free) S rfl with z | z
   ·rw [R] at z;cases z
   ·rw [R] at z;cases z
  ·exact ⟨c,cellF x c S hc,J.keeps F⟩
 ·rcases cof y c h with ⟨a1,a2⟩ | ⟨a1,a2⟩
  ·exact ⟨_,(ok.empty y c a1).1⟩
  ·obtain ⟨v,q⟩:=I.cell y c a1
   exact ⟨v,q.keeps F⟩
 ·rcases cof y c h with ⟨a1,a2⟩ | ⟨a1,a2⟩
  ·exact I.hok.fresh (Nat.le_of_lt a2)
  ·exact I.freeC y c a1
 ·show (inh fr σ).length=N'.length
  unfold inh
  rw [List.length_map]
  exact B.len
theorem jX {σ':St} {H':Hp} {s':Shared} {h':Heap} (I:Inv X pins σ H s) (f2:∀ b∈fp,bY X pins H b) (J:Inv (aG X sc N' s H fp) [] σ' H' s') (hs:Heap.SameBut s.heap.objs.size s'.heap h') :
 Inv X pins σ H' { s' with heap:=h' }:=by
 have u:Un (frs X.stack) fp H H' s.heap s'.heap:=J.base
 have ne:∀ b o,s.heap.get? b=some o->b≠s.heap.objs.size:=fun b o e=>Nat.ne_of_lt (Heap.lt_size e)
 refine I.call' (s' := { s' with heap:=h' }) (ch:=fp) J.os ⟨fun b o e n hb hx => ?_,fun b o e n hb hx => ?_,u.free,fun b o e hx => ?_,u.tups,u.frzs,u.tbls⟩ (fun b v e => ?_) J.bare fun b hb => ?_
 ·exact (hs.2 b (ne b o e)).trans (u.keep b o e n hb hx)
 ·obtain ⟨sl,q⟩:=u.slot b o e n hb hx
  exact ⟨sl,(hs.2 b (ne b o e)).trans q⟩
 ·obtain ⟨o',q⟩:=u.there b o e hx
  exact ⟨o',(hs.2 b (ne b o e)).trans q⟩
 ·refine (J.hok b v e).stay (fun c w hc q=>(hs.2 c ?_).trans q) (fun _ q=>q) fun _ _ q=>q
  have fr:H' s.heap.objs.size=none:=J.free
  rcases hc with z | z
  ·rw [z];intro j;rw [j,fr] at e;cases e
  ·intro j;rw [j,fr] at z;cases z
 ·obtain ⟨f0,f1,G,f4,B,F⟩:=f2 b hb
  exact ⟨f4,f1,B,F⟩
theorem kK {Q:Env->Shared->Prop} {E:Value->Shared->Prop} {M:Model} {A:Around}
 (h:Q { scope:=sc,locals:=s.heap.objs.size,globals:=X.env.globals,cells:=cellsFrom (s.heap.objs.size+1) sc.names (aU X.env.cells sc.names []),qual:=X.env.qual,func:=none,code:=X.env.code,frame:=X.env.frame,builtins:=X.env.builtins }
   { s with heap:=pushCells (s.heap.push { cls := .type "dict",data := .dict #[] }) sc.names }) :
 wpAny M A (newFunctionEnv sc X.env.globals (aU X.env.cells sc.names []) [] X.env.qual none .none (some X.env)) Q E s:=by
 simp only [newFunctionEnv,Option.isSome_some,if_true]
 refine wpAny_bind (wpAny_alloc ?_)
 refine wpAny_bind (wpAny_layCells _ (fun name kind cells=>by cases hkc:kind==NameKind.cell <;> simp [hkc]) _ _ _ _ ?_)
 rw [show ({ s with heap:=s.heap.push { cls := .type "dict",data := .dict #[] } }:Shared).heap.objs.size=s.heap.objs.size+1 from Heap.size_push ..]
 exact wpAny_bind (wpAny_pure (wpAny_pure h))
theorem lD (hc:X.calm=true) {elt target iter:Expr} {ifs:List Expr} {rest:List Comprehension} {pos:Pos} {E:Value->Shared->Prop}
 (hx:∀ e s,X.xe e s->False) (B:b9 sc X.env.scope X.N N' fr) (ha:∀ g',rest[0]? = some g'->g'.is_async=0) {wi:TI} (hi:PI X target iter wi) {g:TG} {tb:Addr->TC}
 (Z:∀ s H fp,PG (aG X sc N' s H fp) target g)
 (hb:∀ s H fp p,PB (aG X sc N' s H fp) (fun k=>bg ifs (aG X sc N' s H fp).env >>= fun ok=>if ok=true then b8 elt (⟨target,iter,ifs,0⟩::rest) sc pos 0 (.ref p) (aG X sc N' s H fp).env k else k) (tb p))
 {Nn:Addr->St->Hp->Prop} {RR:Value->Addr->Result->Shared->Prop} (I:Inv X pins σ H s)
 (h:wi σ H fun J H1 => ∀ p,H1 p=none->cr J g (tb p) (Nn p) (inh fr σ) (upd H1 p (.lst [])))
 (hR:∀ p fp s3 F s' σ' H' f,Inv X pins σ F s3->(∀ b∈fp,bY X pins F b)->Inv (aG X sc N' s3 F fp) [] σ' H' s'->Nn p σ' H'->RR (.ref p) s3.heap.objs.size (.ok f) s') :
 wpAny (model X.prog X.w) X.A (eval iter X.env) (fun x s₁ => wpAny (model X.prog X.w) X.A (pyIter x) (fun it s₂ => wpAny (model X.prog X.w) X.A (newList []) (fun acc s₃ =>
  wpAny (model X.prog X.w) X.A (newFunctionEnv sc X.env.globals (aU X.env.cells sc.names []) [] X.env.qual none .none (some X.env)) (fun cenv s₄ =>
   codeAny (model X.prog X.w) X.A (.compStart (.ListComp elt (⟨target,iter,ifs,0⟩::rest) sc pos) 0 it acc { cenv with scope:=relabel sc X.env }) (RR acc cenv.locals) s₄) E s₃) E s₂) E s₁) E s:=by
 refine nox hx (thn (hi pins s σ H _ I h) fun v s1 h1=>nox hx (thn h1 fun itv s2 h2 => ?_))
 obtain ⟨it,fp,tn,J,H2,e,S,T,j,f2,hw⟩:=h2
 subst e
 have hf:H2 s2.heap.objs.size=none:=S.hok.fresh (Nat.le_refl _)
 refine wpAny_newList ?_
 have U:Inv X pins σ (upd H2 s2.heap.objs.size (.lst [])) { s2 with heap:=s2.heap.push { cls := .type "list",dict:=none,data := .seq ([]:List Value).toArray } } :=
  S.laid (t':=s2.toks) (fun b u e=>Heap.get?_push_of_some _ e) (Nat.le_refl _) ⟨Nat.zero_le _,[],0, .nil,Heap.get?_push_size _ rfl⟩
 have fneq:∀ b∈fp,b≠s2.heap.objs.size:=fun b hb z=>by
  obtain ⟨o,e,_⟩:=T.obj _ _ j b hb
  exact absurd (Heap.lt_size e) (by rw [z];exact Nat.lt_irrefl _)
 have G:∀ b∈fp,bY X pins (upd H2 s2.heap.objs.size (.lst [])) b:=fun b hb=>⟨by rw [aj (fneq b hb)];exact (f2 b hb).1,(f2 b hb).2⟩
 have L:∀ b∈fp,b < (s2.heap.push { cls := .type "list",dict:=none,data := .seq ([]:List Value).toArray }).objs.size:=fun b hb=>by
  obtain ⟨o,e,_⟩:=T.obj _ _ j b hb
  rw [Heap.size_push]
  exact Nat.lt_succ_of_lt (Heap.lt_size e)
 have O:tn 0 (s2.heap.push { cls := .type "list",dict:=none,data := .seq ([]:List Value).toArray }):=T.keep _ _ _ j fun b _ o e=>Heap.get?_push_of_some _ e
 refine kK ?_
 have q:=sn (N':=N') U G L B
 have n:=T.keep _ (h':=pushCells (({ s2 with heap:=s2.heap.push { cls := .type "list",dict:=none,data := .seq ([]:List Value).toArray } }:Shared).heap.push { cls := .type "dict",data := .dict #[] }) sc.names) _ O fun b _ o e=>pushCells_keeps _ _ b o (Heap.get?_push_of_some _ e)
 have f4:∀ b∈fp,bY (aG X sc N' { s2 with heap:=s2.heap.push { cls := .type "list",dict:=none,data := .seq ([]:List Value).toArray } } (upd H2 s2.heap.objs.size (.lst [])) fp) [] (upd H2 s2.heap.objs.size (.lst [])) b:=fun b hb =>
  ⟨(G b hb).1,(q.ok.exf b hb).1,q.ok.exfs b hb, .inl hb,(q.ok.exf b hb).2,fun p hp=>absurd (show p∈([]:List (Addr×Obj)) from hp) (by simp)⟩
 have loop:=jV (X:=aG X sc N' { s2 with heap:=s2.heap.push { cls := .type "list",dict:=none,data := .seq ([]:List Value).toArray } } (upd H2 s2.heap.objs.size (.lst [])) fp) (fun _ _ z=>z) hc
  (elt:=elt) (pos:=pos) (scope:=sc) (gens:=⟨target,iter,ifs,0⟩::rest) (d := 0) (acc := .ref s2.heap.objs.size) rfl (fun g' e=>ha g' (by simpa using e)) (Z _ _ _) (hb _ _ _ _) q T n f4 (hw _ hf)
 refine codeAny_mono (ik (R:=fun r s'=>match r with | .ok _ => ∃ σ' H',Inv (aG X sc N' { s2 with heap:=s2.heap.push { cls := .type "list",dict:=none,data := .seq ([]:List Value).toArray } } (upd H2 s2.heap.objs.size (.lst [])) fp) [] σ' H' s'/\Nn s2.heap.objs.size σ' H' | .error _=>False)
  (gens:=⟨target,iter,ifs,0⟩::rest) (d := 0) rfl loop (T.self _ 0 _ _ _ n loop)) fun r s5 Y => ?_
 cases r with
 | error e=>exact Y.elim
 | ok f =>
   obtain ⟨σ5,H5,I5,n5⟩:=Y
   exact hR _ fp _ _ s5 σ5 H5 f U G I5 n5
noncomputable def qh (wi:TI) (g:TG) (tb:Addr->TC) (fr:List (Option Nat)):TE:=fun σ H Q=>wi σ H fun J H1 => ∀ p,H1 p=none->cr J g (tb p) (fun _ H2=>Q (.ref p) H2) (inh fr σ) (upd H1 p (.lst []))
theorem jY (B:b9 sc X.env.scope X.N N' fr):∀ x∈sc.names,x.2 = .local->sc.names.lookup x.1=some .local:=fun x hx e=>by
 obtain ⟨n,k⟩:=x
 have e':k = .local:=e
 subst e'
 exact aT B.nd hx
theorem gu (hc:X.calm=true) {elt target iter:Expr} {ifs:List Expr} {rest:List Comprehension} {pos:Pos}
 (hx:∀ e s,X.xe e s->False) (B:b9 sc X.env.scope X.N N' fr) (ha:∀ g',rest[0]? = some g'->g'.is_async=0) {wi:TI} (hi:PI X target iter wi) {g:TG} {tb:Addr->TC}
 (n:∀ s H fp,PG (aG X sc N' s H fp) target g)
 (hb:∀ s H fp p,PB (aG X sc N' s H fp) (fun k=>bg ifs (aG X sc N' s H fp).env >>= fun ok=>if ok=true then b8 elt (⟨target,iter,ifs,0⟩::rest) sc pos 0 (.ref p) (aG X sc N' s H fp).env k else k) (tb p))
 (hs:∀ x,foldedSetIterable iter X.env x=pure x) :
 PE X (.ListComp elt (⟨target,iter,ifs,0⟩::rest) sc pos) (qh wi g tb fr):=by
 intro pins s σ H Q I h
 rw [eval_ListComp]
 refine wpAny_comprehension_free (use:=none) rfl hs (im (fq I B)) B.kind (jY B) (lD (Nn:=fun p _ H2=>Q (.ref p) H2) (RR:=fun acc C=>compPost (model X.prog X.w) X.A X.xe none (EP X pins σ Q) acc C) hc hx B ha hi n hb I h ?_)
 intro p fp s3 G s' σ' H' f z F J q
 obtain ⟨m,hn,_⟩:=J.loc
 exact ⟨m,hn,fun h' j=>⟨.ref p,H',jX z F J j,rfl,q⟩⟩
theorem io (hc:X.calm=true) {elt target iter:Expr} {ifs:List Expr} {rest:List Comprehension} {pos pos' spos:Pos} {x:Str} {i:Nat}
 (hx:∀ e s,X.xe e s->False) (B:b9 sc X.env.scope X.N N' fr) (ha:∀ g',rest[0]? = some g'->g'.is_async=0) {wi:TI} (hi:PI X target iter wi) {g:TG} {tb:Addr->TC}
 (Y:∀ s H fp,PG (aG X sc N' s H fp) target g)
 (hb:∀ s H fp p,PB (aG X sc N' s H fp) (fun k=>bg ifs (aG X sc N' s H fp).env >>= fun ok=>if ok=true then b8 elt (⟨target,iter,ifs,0⟩::rest) sc pos 0 (.ref p) (aG X sc N' s H fp).env k else k) (tb p))
 (hs:∀ x,foldedSetIterable iter X.env x=pure x) (n:PG X (.Name x pos') (i4 i))
 (F:swapsWith (.ListComp elt (⟨target,iter,ifs,0⟩::rest) sc pos) (some (.Name x pos')) spos.line X.env=pure true) :
 PS X (.Assign [.Name x pos'] (.ListComp elt (⟨target,iter,ifs,0⟩::rest) sc pos) spos) (pW (qh wi g tb fr) (i4 i)):=by
 intro pins s σ H D I h
 rw [exec_Assign_Name_used _ _ _ _ F]
 refine wpAny_bind (wpAny_standAt (wpAny_bind ?_))
 show wpAny _ X.A (do let _ <- comprehension (.ListComp elt (⟨target,iter,ifs,0⟩::rest) sc pos) sc X.env _ (newList []) false (eval iter X.env) (some (assign (.Name x pos') X.env))) _ _ s
 refine wpAny_bind (wpAny_mono (wpAny_comprehension_free (use:=some (assign (.Name x pos') X.env)) (Q:=fun _ s'=>SP X pins D .next s') rfl hs (im (fq I B)) B.kind (jY B)
  (lD (Nn:=fun p _ H2=>D.nx (σ.set i (some (.ref p))) H2) (RR:=fun acc C=>compPost (model X.prog X.w) X.A X.xe (some (assign (.Name x pos') X.env)) (fun _ s'=>SP X pins D .next s') acc C) hc hx B ha hi Y hb I h ?_)) (fun _ s' Z=>wpAny_pure (wpAny_pure Z)) fun _ _ e=>e)
 intro p fp s3 H3 s' σ' H' f j f3 J q
 obtain ⟨m,⟨o,es,ep,ho,hd,hk,hm⟩,_⟩:=J.loc
 have S:Inv X pins σ H' s':=jX (h':=s'.heap) j f3 J ⟨rfl,fun _ _=>rfl⟩
 have hL:(aG X sc N' s3 H3 fp).env.locals=s3.heap.objs.size:=rfl
 rw [hL] at ho
 have G:H' s3.heap.objs.size=none:=J.free
 have neL:s3.heap.objs.size≠X.env.locals:=Nat.ne_of_gt j.lt
 have nfs:s3.heap.objs.size∉X.fs:=j.nofs (Nat.le_refl _)
 have I5:Inv X (pins++[(s3.heap.objs.size,o)]) σ H' s':=S.pins_of fun pr hp=>by
  rcases List.mem_append.mp hp with z | z
  ·exact S.pin pr (List.mem_append_right _ z)
  ·have e:pr=(s3.heap.objs.size,o):=by simpa using z
   subst e
   exact ⟨ho,G,neL,nfs,fun v z=>by rw [hd] at z;cases z⟩
 show wpAny _ X.A (assign (.Name x pos') X.env (.ref p)) _ _ _
 refine thn (n _ s' σ H' (.ref p) (.ref p) D.nx I5 rfl q) fun _ s6 ⟨σ6,H6,U,q6⟩ => ?_
 obtain ⟨L,O,_⟩:=U.pin (s3.heap.objs.size,o) (List.mem_append_right _ (List.mem_append_right _ (by simp)))
 refine ⟨m,⟨o,es,ep,L,hd,hk,hm⟩,fun h' R=>⟨σ6,H6, ?_,q6⟩⟩
 refine (U.unpinned).turned (t':=s6.toks) (it:=s3.heap.objs.size) (fun b o hb e=>(R.2 b hb).trans e) O neL (.inr j.sz) (fun y c e z => ?_) fun pr hp z => ?_
 ·obtain ⟨v,q⟩:=j.cell y c e
  exact absurd q.lt (by rw [z];exact Nat.lt_irrefl _)
 ·exact absurd (Heap.lt_size (j.pin pr hp).1) (by rw [z];exact Nat.lt_irrefl _)
end
end
end
end L2
namespace L2
namespace Zp
open PySem PySem.Spec PyProof.Rows
noncomputable def At (t:Bool) (h:Heap) (i l:Addr) (k:Nat):Prop:=match t with | true=>h.IsTupleIter i l k | false=>h.IsListIter i l k
noncomputable def Sq (t:Bool) (h:Heap) (l:Addr) (xs:Array Value):Prop:=match t with | true=>h.IsTuple l xs | false=>h.IsList l xs
theorem At.up {t:Bool} {h h':Heap} {i l:Addr} {k:Nat} (x:At t h i l k) (e:∀ o,h.get? i=some o->h'.get? i=some o):At t h' i l k:=by
 cases t <;> (obtain ⟨o,ho,r⟩:=x;exact ⟨o,e o ho,r⟩)
theorem Sq.up {t:Bool} {h h':Heap} {l:Addr} {xs:Array Value} (x:Sq t h l xs) (e:∀ o,h.get? l=some o->h'.get? l=some o):Sq t h' l xs:=by
 cases t <;> (obtain ⟨o,ho,r⟩:=x;exact ⟨o,e o ho,r⟩)
theorem At.lt {t:Bool} {h:Heap} {i l:Addr} {k:Nat} (x:At t h i l k):∃ o,h.get? i=some o /\ ∀ v,o.data ≠ .cell v:=by
 cases t <;> (obtain ⟨o,ho,hc,hd⟩:=x;exact ⟨o,ho,fun v z=>by rw [hd] at z;cases z⟩)
section
variable {prog:Program} {w:World} {A:Around} {E:Value->Shared->Prop} {s:Shared}
open Builtin.SmallTypes in
theorem ve {i l:Addr} {k:Nat} {xs:Array Value} {x:Value} {Q:Value->Shared->Prop} (hi:s.heap.IsTupleIter i l k) (I:s.heap.IsTuple l xs) (hx:xs[k]? = some x)
 (q:∀ h',h'.IsTupleIter i l (k+1)->Heap.SameBut i s.heap h'->Q x { s with heap:=h' }):wpAny (model prog w) A (nextOf (.ref i)) Q E s:=by
 obtain ⟨ob,n,z,j⟩:=id hi
 obtain ⟨oq,B,_,nq,G⟩:=I
 unfold nextOf
 refine wpAny_bind (wpAny_callSpecial?_slot (name:=Str.ofString "__next__") hi.typeIs F.slot_tuple_iterator_next (wpAny_call_entry F.slot_tuple_iterator_next hi.typeIs F.entry_tuple_iterator_next ?_ (F.args_tuple_iterator_next_1 _)))
 refine wpAny_bind (m:=field (.ref i) 0) (wpAny_field n j (x := .ref l) rfl ?_)
 refine (if_neg (c:=(Value.ref l==Value.none)=true) Bool.false_ne_true) ▸ ?_
 refine wpAny_bind (m:=field (.ref i) 1) (wpAny_field n j (x := .int k 0) rfl ?_)
 refine wpAny_bind (m:=seqItems? (.ref l)) (wpAny_seqItems B G ?_)
 simp only [Int.toNat_natCast,hx]
 refine wpAny_bind (wpAny_setField n j (by simp) (wpAny_pure ⟨x,rfl,wpAny_pure (q _ ⟨_,Heap.get?_update_self _ n (Obj.isFreed_of_fields (Obj.data_mapFields j _)),(Obj.cls_mapFields ..).trans z, ?_⟩ (Heap.SameBut.update ..))⟩))
 rw [Obj.data_mapFields j];simp [rawInt]
open Builtin.SmallTypes in
theorem yf {i l:Addr} {k:Nat} {xs:Array Value} {Q:Value->Shared->Prop} (hn:A.handled=none) (hi:s.heap.IsTupleIter i l k) (G:s.heap.IsTuple l xs) (hx:xs[k]? = none)
 (q:∀ h' e,Heap.ExtBut i s.heap h'->(∃ o,h'.get? e=some o/\o.cls = .type "StopIteration")->E (.ref e) { s with heap:=h' }):wpAny (model prog w) A (nextOf (.ref i)) Q E s:=by
 obtain ⟨ob,j,I,n⟩:=id hi
 obtain ⟨oq,z,_,nq,B⟩:=G
 unfold nextOf
 refine wpAny_bind (wpAny_callSpecial?_slot (name:=Str.ofString "__next__") hi.typeIs F.slot_tuple_iterator_next (wpAny_call_entry F.slot_tuple_iterator_next hi.typeIs F.entry_tuple_iterator_next ?_ (F.args_tuple_iterator_next_1 _)))
 refine wpAny_bind (m:=field (.ref i) 0) (wpAny_field j n (x := .ref l) rfl ?_)
 refine (if_neg (c:=(Value.ref l==Value.none)=true) Bool.false_ne_true) ▸ ?_
 refine wpAny_bind (m:=field (.ref i) 1) (wpAny_field j n (x := .int k 0) rfl ?_)
 refine wpAny_bind (m:=seqItems? (.ref l)) (wpAny_seqItems z B ?_)
 simp only [Int.toNat_natCast,hx]
 refine wpAny_bind (wpAny_rule (wpAny_bind (wpAny_setField j n (by simp) ?_)))
 refine wpAny_bind (m:=newExc (.type "StopIteration") []) ?_
 simp only [newExc,newTuple]
 refine wpAny_bind (wpAny_newObj_type ?_ (by size_fits))
 refine wpAny_bind (m:=firstArgMember _ _) (wpAny_of_eq (a:=Value.none) (by first | rfl | (simp only [firstArgMember];rfl)) (wpAny_newObj_type ?_ (by size_fits)))
 simp only [raiseNew]
 refine wpAny_bind (wpAny_handled ?_)
 first | rw [show A.in1.handled=none from hn] | rw [hn]
 exact wpAny_bind (wpAny_pure (wpAny_throw (q _ _ (((Heap.SameBut.update ..).extBut.push _).push _) ⟨_,Heap.get?_push_size _ rfl,rfl⟩)))
open Builtin.SmallTypes in
theorem nx_item {t:Bool} {i l:Addr} {k:Nat} {xs:Array Value} {x:Value} {Q:Value->Shared->Prop} (hi:At t s.heap i l k) (j:Sq t s.heap l xs) (hx:xs[k]? = some x)
 (q:∀ h',At t h' i l (k+1)->Heap.SameBut i s.heap h'->Q x { s with heap:=h' }):wpAny (model prog w) A (nextOf (.ref i)) Q E s:=by
 cases t with
 | true=>exact ve hi j hx q
 | false=>exact wpAny_nextOf_list_item hi j hx q
open Builtin.SmallTypes in
theorem nx_end {t:Bool} {i l:Addr} {k:Nat} {xs:Array Value} {Q:Value->Shared->Prop} (hn:A.handled=none) (hi:At t s.heap i l k) (j:Sq t s.heap l xs) (hx:xs[k]? = none)
 (q:∀ h' e,Heap.ExtBut i s.heap h'->(∃ o,h'.get? e=some o/\o.cls = .type "StopIteration")->E (.ref e) { s with heap:=h' }):wpAny (model prog w) A (nextOf (.ref i)) Q E s:=by
 cases t with
 | true=>exact yf hn hi j hx q
 | false=>exact wpAny_nextOf_list_end hn hi j hx q
open Builtin.SmallTypes in
theorem AB {z T O i j a b:Addr} {t u:Bool} {k:Nat} {xs ys:Array Value} {x y p r:Value} {Q:Value->Shared->Prop} (D:ZipApart z T O i j a b)
 (hz:IsZip s.heap z T O .none) (hT:IsPair s.heap T (.ref i) (.ref j)) (hO:IsPair s.heap O p r)
 (hi:At t s.heap i a k) (hj:At u s.heap j b k) (ha:Sq t s.heap a xs) (hb:Sq u s.heap b ys) (hx:xs[k]? = some x) (hy:ys[k]? = some y)
 (q:∀ h',IsZip h' z T O (rawInt s.heap.objs.size)->IsPair h' O x y->At t h' i a (k+1)->At u h' j b (k+1)->IsPair h' s.heap.objs.size x y ->
   (∀ c o,c≠z->c≠O->c≠i->c≠j->s.heap.get? c=some o->h'.get? c=some o)->Q (.ref s.heap.objs.size) { s with heap:=h' }) :
 wpAny (model prog w) A (Builtin.«zip.__next__» ⟨[.ref z],[]⟩) (fun fin s' => ∃ v,fin = .done (.ret v)/\Q v s') E s:=by
 refine wpAny_bind (m:=field (.ref z) 2) (wpAny_field hz rfl (x := .bool false) rfl ?_)
 refine wpAny_bind (m:=field (.ref z) 3) (wpAny_field hz rfl (x := .ref T) rfl ?_)
 refine wpAny_bind (wpAny_seqItems hT rfl ?_)
 refine wpAny_bind (m:=ownedTupleIsFree (.ref z)) ?_
 unfold ownedTupleIsFree
 refine wpAny_bind (wpAny_field hz rfl (x := .none) rfl (wpAny_pure ?_))
 simp only [if_true]
 refine wpAny_bind (wpAny_rule (wpAny_bind (wpAny_field hz rfl (x := .ref O) rfl (wpAny_bind (wpAny_setField_rec hz (by simp) fun g1 S s1 => ?_)))))
 have Z1:IsZip g1 z T O .ellipsis:=S
 clear S
 refine wpAny_bind ?_
 simp only [List.zipIdx_cons,List.zipIdx_nil,List.forIn_cons,List.forIn_nil]
 refine wpAny_bind (wpAny_bind (wpAny_onRaise (wpAny_bind (m:=nextOf (.ref i)) ?_)))
 refine nx_item (hi.up fun o e=>s1.extBut _ o D.i1z e) (ha.up fun o e=>s1.extBut _ o D.l1z e) hx fun g2 I s2=>wpAny_pure ?_
 have U:IsPair g2 O p r:=s2.extBut _ _ D.TOi1 (s1.extBut _ _ D.TOz hO)
 refine wpAny_bind (wpAny_seqItems U rfl (wpAny_bind (wpAny_updateSeq_pair U fun g3 Y s3 => ?_)))
 have O3:IsPair g3 O x r:=Y
 clear Y
 refine wpAny_bind (wpAny_letGo (wpAny_pure (wpAny_bind (wpAny_bind (wpAny_onRaise (wpAny_bind (m:=nextOf (.ref j)) ?_))))))
 refine nx_item (hj.up fun o e=>s3.extBut _ o D.TOi2.symm (s2.extBut _ o D.i12.symm (s1.extBut _ o D.i2z e))) (hb.up fun o e=>s3.extBut _ o D.l2TO (s2.extBut _ o D.l2i1 (s1.extBut _ o D.l2z e))) hy fun g4 J s4=>wpAny_pure ?_
 have Z:IsPair g4 O x r:=s4.extBut _ _ D.TOi2 O3
 refine wpAny_bind (wpAny_seqItems Z rfl (wpAny_bind (wpAny_updateSeq_pair Z fun n o5 s5 => ?_)))
 have O5:IsPair n O x y:=o5
 clear o5
 refine wpAny_bind (wpAny_letGo (wpAny_pure (wpAny_pure (wpAny_bind (wpAny_seqItems O5 rfl (wpAny_bind (wpAny_newTuple ?_)))))))
 have sz:n.objs.size=s.heap.objs.size:=by rw [s5.1,s4.1,s3.1,s2.1,s1.1]
 have k5:∀ c o,c≠z->c≠O->c≠i->c≠j->s.heap.get? c=some o->n.get? c=some o:=fun c o B F L R e =>
  s5.extBut _ _ F (s4.extBut _ _ R (s3.extBut _ _ F (s2.extBut _ _ L (s1.extBut _ _ B e))))
 have Z5:IsZip n z T O .ellipsis:=s5.extBut _ _ D.TOz.symm (s4.extBut _ _ D.i2z.symm (s3.extBut _ _ D.TOz.symm (s2.extBut _ _ D.i1z.symm Z1)))
 have I5:At t n i a (k+1):=I.up fun o e=>s5.extBut _ o D.TOi1.symm (s4.extBut _ o D.i12 (s3.extBut _ o D.TOi1.symm e))
 have J5:At u n j b (k+1):=J.up fun o e=>s5.extBut _ o D.TOi2.symm e
 have zl:z < n.objs.size:=Heap.lt_size Z5
 refine wpAny_bind (m:=ownedTupleHandOut (.ref z) (.ref n.objs.size)) ?_
 unfold ownedTupleHandOut
 refine wpAny_bind (wpAny_setField_rec (Heap.get?_push_of_some _ Z5) (by simp) fun g7 z7 s7 => ?_)
 have Z7:IsZip g7 z T O (rawInt n.objs.size):=z7
 clear z7
 refine wpAny_setField_rec Z7 (by simp) fun G z8 s8 => ?_
 have Z8:IsZip G z T O (rawInt n.objs.size):=z8
 clear z8
 have up:∀ c o,c≠z->n.get? c=some o->G.get? c=some o:=fun c o B e=>s8.extBut _ _ B (s7.extBut _ _ B (Heap.get?_push_of_some _ e))
 have P8:IsPair G n.objs.size x y:=s8.extBut _ _ (Nat.ne_of_gt zl) (s7.extBut _ _ (Nat.ne_of_gt zl) (Heap.get?_push_size _ rfl))
 rw [sz] at Z8 P8
 refine wpAny_pure ⟨_,rfl, ?_⟩
 show Q (.ref n.objs.size) _
 rw [sz]
 exact q G Z8 (up _ _ D.TOz O5) (I5.up fun o e=>up _ o D.i1z e) (J5.up fun o e=>up _ o D.i2z e) P8 fun c o B F L R e=>up c o B (k5 c o B F L R e)
open Builtin.SmallTypes in
theorem C0 {z T O i j a b:Addr} {t u:Bool} {k:Nat} {xs ys:Array Value} {p r:Value} {Q:Fin->Shared->Prop} (hn:A.handled=none) (D:ZipApart z T O i j a b)
 (hz:IsZip s.heap z T O .none) (hT:IsPair s.heap T (.ref i) (.ref j)) (hO:IsPair s.heap O p r)
 (hi:At t s.heap i a k) (hj:At u s.heap j b k) (ha:Sq t s.heap a xs) (hb:Sq u s.heap b ys) (F:xs[k]? = none∨ys[k]? = none)
 (q:∀ h' e,(∀ c o,c≠z->c≠O->c≠i->c≠j->s.heap.get? c=some o->h'.get? c=some o)->(∃ o,h'.get? e=some o/\o.cls = .type "StopIteration")->E (.ref e) { s with heap:=h' }) :
 wpAny (model prog w) A (Builtin.«zip.__next__» ⟨[.ref z],[]⟩) Q E s:=by
 refine wpAny_bind (m:=field (.ref z) 2) (wpAny_field hz rfl (x := .bool false) rfl ?_)
 refine wpAny_bind (m:=field (.ref z) 3) (wpAny_field hz rfl (x := .ref T) rfl ?_)
 refine wpAny_bind (wpAny_seqItems hT rfl ?_)
 refine wpAny_bind (m:=ownedTupleIsFree (.ref z)) ?_
 unfold ownedTupleIsFree
 refine wpAny_bind (wpAny_field hz rfl (x := .none) rfl (wpAny_pure ?_))
 simp only [if_true]
 refine wpAny_bind (wpAny_rule (wpAny_bind (wpAny_field hz rfl (x := .ref O) rfl (wpAny_bind (wpAny_setField_rec hz (by simp) fun g1 R s1 => ?_)))))
 have S:IsZip g1 z T O .ellipsis:=R
 clear R
 refine wpAny_bind ?_
 simp only [List.zipIdx_cons,List.zipIdx_nil,List.forIn_cons,List.forIn_nil]
 refine wpAny_bind (wpAny_bind (wpAny_onRaise (wpAny_bind (m:=nextOf (.ref i)) ?_)))
 have G:At t g1 i a k:=hi.up fun o e=>s1.extBut _ o D.i1z e
 have I:Sq t g1 a xs:=ha.up fun o e=>s1.extBut _ o D.l1z e
 cases hx:xs[k]? with
 | none =>
   refine nx_end hn G I hx fun g2 e s2 he => ?_
   obtain ⟨oe,n,B⟩:=he
   have U:IsZip g2 z T O .ellipsis:=s2 _ _ D.i1z.symm S
   have ez:e≠z:=fun x=>by subst x;rw [U] at n;cases n;simp at B
   exact wpAny_setField_rec U (by simp) fun g3 _ s3=>q g3 e (fun c o J _ L _ x=>s3.extBut _ _ J (s2 _ _ L (s1.extBut _ _ J x))) ⟨oe,s3.extBut _ _ ez n,B⟩
 | some x =>
   have hy:ys[k]? = none:=F.elim (fun z=>by rw [hx] at z;cases z) id
   refine nx_item G I hx fun g2 D7 s2=>wpAny_pure ?_
   have Y:IsPair g2 O p r:=s2.extBut _ _ D.TOi1 (s1.extBut _ _ D.TOz hO)
   refine wpAny_bind (wpAny_seqItems Y rfl (wpAny_bind (wpAny_updateSeq_pair Y fun g3 o3 s3 => ?_)))
   refine wpAny_bind (wpAny_letGo (wpAny_pure (wpAny_bind (wpAny_bind (wpAny_onRaise (wpAny_bind (m:=nextOf (.ref j)) ?_))))))
   refine nx_end hn (hj.up fun o e=>s3.extBut _ o D.TOi2.symm (s2.extBut _ o D.i12.symm (s1.extBut _ o D.i2z e))) (hb.up fun o e=>s3.extBut _ o D.l2TO (s2.extBut _ o D.l2i1 (s1.extBut _ o D.l2z e))) hy fun g4 e s4 he => ?_
   obtain ⟨oe,n,B⟩:=he
   have Z:IsZip g4 z T O .ellipsis:=s4 _ _ D.i2z.symm (s3.extBut _ _ D.TOz.symm (s2.extBut _ _ D.i1z.symm S))
   have ez:e≠z:=fun x=>by subst x;rw [Z] at n;cases n;simp at B
   exact wpAny_setField_rec Z (by simp) fun g5 _ s5=>q g5 e (fun c o J c2 L c4 x=>s5.extBut _ _ J (s4 _ _ c4 (s3.extBut _ _ c2 (s2.extBut _ _ L (s1.extBut _ _ J x))))) ⟨oe,s5.extBut _ _ ez n,B⟩
theorem nxt_item {z T O i j a b:Addr} {t u:Bool} {k:Nat} {xs ys:Array Value} {x y p r:Value} {Q:Option Value->Shared->Prop} (D:ZipApart z T O i j a b)
 (hz:IsZip s.heap z T O .none) (n:IsPair s.heap T (.ref i) (.ref j)) (B:IsPair s.heap O p r)
 (hi:At t s.heap i a k) (G:At u s.heap j b k) (ha:Sq t s.heap a xs) (hb:Sq u s.heap b ys) (hx:xs[k]? = some x) (hy:ys[k]? = some y)
 (q:∀ h',IsZip h' z T O (rawInt s.heap.objs.size)->IsPair h' O x y->At t h' i a (k+1)->At u h' j b (k+1)->IsPair h' s.heap.objs.size x y ->
   (∀ c o,c≠z->c≠O->c≠i->c≠j->s.heap.get? c=some o->h'.get? c=some o)->Q (some (.ref s.heap.objs.size)) { s with heap:=h' }) :
 wpAny (model prog w) A (pyNext (.ref z)) Q E s:=by
 have ty:s.TypeIs (.ref z) "zip" := ⟨_,hz,rfl⟩
 unfold pyNext
 exact wpAny_bind (wpAny_attempt (wpAny_callSpecial?_slot (name:=Str.ofString "__next__") ty F.slot_zip_next (wpAny_call_entry F.slot_zip_next ty F.entry_zip_next
  (AB D hz n B hi G ha hb hx hy fun h' a1 a2 I J L R=>wpAny_pure (q h' a1 a2 I J L R)) (F.args_zip_next_1 _))))
theorem nxt_end {z T O i j a b:Addr} {t u:Bool} {k:Nat} {xs ys:Array Value} {p r:Value} {Q:Option Value->Shared->Prop} (hn:A.handled=none) (D:ZipApart z T O i j a b)
 (hz:IsZip s.heap z T O .none) (B:IsPair s.heap T (.ref i) (.ref j)) (G:IsPair s.heap O p r)
 (hi:At t s.heap i a k) (I:At u s.heap j b k) (ha:Sq t s.heap a xs) (hb:Sq u s.heap b ys) (n:xs[k]? = none∨ys[k]? = none)
 (q:∀ h',(∀ c o,c≠z->c≠O->c≠i->c≠j->s.heap.get? c=some o->h'.get? c=some o)->Q none { s with heap:=h' }):wpAny (model prog w) A (pyNext (.ref z)) Q E s:=by
 have ty:s.TypeIs (.ref z) "zip" := ⟨_,hz,rfl⟩
 unfold pyNext
 refine wpAny_bind (wpAny_attempt (wpAny_callSpecial?_slot (name:=Str.ofString "__next__") ty F.slot_zip_next (wpAny_call_entry F.slot_zip_next ty F.entry_zip_next
  (C0 hn D hz B G hi I ha hb n fun h' e J he => ?_) (F.args_zip_next_1 _))))
 obtain ⟨o,ho,hc⟩:=he
 exact wpAny_bind (wpAny_isInstance (T := "StopIteration") (b:=true) ⟨o,ho,hc⟩ isSubtype_stop (wpAny_pure (q _ J)))
noncomputable def itO (t:Bool) (l:Addr):Obj:=match t with | true => { cls := .type "tuple_iterator",data := .fields #[.ref l, .int 0 0] } | false => { cls := .type "list_iterator",data := .fields #[.ref l, .int 0 0] }
noncomputable def zH1 (h:Heap) (t:Bool) (a:Addr):Heap:=h.push (itO t a)
noncomputable def zH2 (h:Heap) (t u:Bool) (a b:Addr):Heap:=(zH1 h t a).push (itO u b)
noncomputable def zH3 (h:Heap) (t u:Bool) (a b:Addr):Heap:=(zH2 h t u a b).push { cls := .type "tuple",data := .seq #[.ref h.objs.size, .ref (zH1 h t a).objs.size] }
noncomputable def zH4 (h:Heap) (t u:Bool) (a b:Addr):Heap:=(zH3 h t u a b).push { cls := .type "tuple",data := .seq #[.none, .none] }
noncomputable def zH5 (h:Heap) (t u:Bool) (a b:Addr):Heap:=(zH4 h t u a b).push { cls := .type "zip",data := .fields #[.none, .bool false, .bool false, .ref (zH2 h t u a b).objs.size, .ref (zH3 h t u a b).objs.size] }
theorem so (t u:Bool) (a b:Addr) (xs ys:Array Value) :
 Meets (Builtin.«zip.__new__» ⟨[.type "zip", .ref a, .ref b],[]⟩) (fun _ R s=>Sq t s.heap a xs/\Sq u s.heap b ys/\R (.ok (.ret (.ref (zH4 s.heap t u a b).objs.size))) { s with heap:=zH5 s.heap t u a b }) :=
 .of_wp fun prog w A R s h=>by
  obtain ⟨hp,g,d,tk,os⟩:=s;obtain ⟨ha,hb,h⟩:=h
  have hs:=sub_zip
  cases t <;> cases u
  ·have e1:Heap.IsList (Shared.heap ⟨hp,g,d,tk,os⟩) a xs:=ha
   have e2:Heap.IsList (Shared.heap ⟨hp.push { cls := .type "list_iterator",data := .fields #[.ref a, .int 0 0] },g,d,tk,os⟩) b ys:=Heap.IsList.push hb _
   wp_walk using wpAny_pyIter_list e1,wpAny_pyIter_list e2
   exact ⟨_,rfl,h⟩
  ·have e1:Heap.IsList (Shared.heap ⟨hp,g,d,tk,os⟩) a xs:=ha
   have e2:Heap.IsTuple (Shared.heap ⟨hp.push { cls := .type "list_iterator",data := .fields #[.ref a, .int 0 0] },g,d,tk,os⟩) b ys:=Heap.IsTuple.push hb _
   wp_walk using wpAny_pyIter_list e1,wpAny_pyIter_tuple e2
   exact ⟨_,rfl,h⟩
  ·have e1:Heap.IsTuple (Shared.heap ⟨hp,g,d,tk,os⟩) a xs:=ha
   have e2:Heap.IsList (Shared.heap ⟨hp.push { cls := .type "tuple_iterator",data := .fields #[.ref a, .int 0 0] },g,d,tk,os⟩) b ys:=Heap.IsList.push hb _
   wp_walk using wpAny_pyIter_tuple e1,wpAny_pyIter_list e2
   exact ⟨_,rfl,h⟩
  ·have e1:Heap.IsTuple (Shared.heap ⟨hp,g,d,tk,os⟩) a xs:=ha
   have e2:Heap.IsTuple (Shared.heap ⟨hp.push { cls := .type "tuple_iterator",data := .fields #[.ref a, .int 0 0] },g,d,tk,os⟩) b ys:=Heap.IsTuple.push hb _
   wp_walk using wpAny_pyIter_tuple e1,wpAny_pyIter_tuple e2
   exact ⟨_,rfl,h⟩
theorem at_new {t:Bool} {h:Heap} {i l:Addr} (e:h.get? i=some (itO t l)):At t h i l 0:=by
 cases t <;> exact ⟨_,e,rfl,rfl⟩
theorem call_zip {t u:Bool} {a b:Addr} {xs ys:Array Value} {Q:Value->Shared->Prop} (ha:Sq t s.heap a xs) (hb:Sq u s.heap b ys)
 (q:∀ h',IsZip h' (s.heap.objs.size+4) (s.heap.objs.size+2) (s.heap.objs.size+3) .none->IsPair h' (s.heap.objs.size+2) (.ref s.heap.objs.size) (.ref (s.heap.objs.size+1)) ->
   IsPair h' (s.heap.objs.size+3) .none .none->At t h' s.heap.objs.size a 0->At u h' (s.heap.objs.size+1) b 0->h'.objs.size=s.heap.objs.size+5 ->
   (∀ c o,s.heap.get? c=some o->h'.get? c=some o)->Q (.ref (s.heap.objs.size+4)) { s with heap:=h' }) :
 wpAny (model prog w) A (call (.type "zip") [.ref a, .ref b]) Q E s:=by
 refine callType_new F.called_zip (by decide) (F.typeCall_zip_2 _ _) (F.newCall_zip_2 _ _) (fun obj=>F.args_object_init_3 obj _ _) F.entry_zip_new (so t u a b xs ys) ⟨ha,hb, ?_⟩
 have z:(zH1 s.heap t a).objs.size=s.heap.objs.size+1:=Heap.size_push ..
 have B:(zH2 s.heap t u a b).objs.size=s.heap.objs.size+2:=by unfold zH2;rw [Heap.size_push,z]
 have G:(zH3 s.heap t u a b).objs.size=s.heap.objs.size+3:=by unfold zH3;rw [Heap.size_push,B]
 have I:(zH4 s.heap t u a b).objs.size=s.heap.objs.size+4:=by unfold zH4;rw [Heap.size_push,G]
 have R:(zH5 s.heap t u a b).objs.size=s.heap.objs.size+5:=by unfold zH5;rw [Heap.size_push,I]
 have j:∀ {c o},(zH4 s.heap t u a b).get? c=some o->(zH5 s.heap t u a b).get? c=some o:=fun e=>Heap.get?_push_of_some _ e
 have n:∀ {c o},(zH3 s.heap t u a b).get? c=some o->(zH4 s.heap t u a b).get? c=some o:=fun e=>Heap.get?_push_of_some _ e
 have J:∀ {c o},(zH2 s.heap t u a b).get? c=some o->(zH3 s.heap t u a b).get? c=some o:=fun e=>Heap.get?_push_of_some _ e
 have k2:∀ {c o},(zH1 s.heap t a).get? c=some o->(zH2 s.heap t u a b).get? c=some o:=fun e=>Heap.get?_push_of_some _ e
 have k1:∀ {c o},s.heap.get? c=some o->(zH1 s.heap t a).get? c=some o:=fun e=>Heap.get?_push_of_some _ e
 have f:∀ t l,(itO t l).isFreed=false:=fun t l=>by cases t <;> rfl
 have L:(zH5 s.heap t u a b).get? (zH4 s.heap t u a b).objs.size=some _:=Heap.get?_push_size _ rfl
 have O:(zH5 s.heap t u a b).get? (zH3 s.heap t u a b).objs.size=some _:=j (Heap.get?_push_size _ rfl)
 have g3:(zH5 s.heap t u a b).get? (zH2 s.heap t u a b).objs.size=some _:=j (n (Heap.get?_push_size _ rfl))
 have g2:(zH5 s.heap t u a b).get? (zH1 s.heap t a).objs.size=some _:=j (n (J (Heap.get?_push_size _ (f u b))))
 have g1:(zH5 s.heap t u a b).get? s.heap.objs.size=some _:=j (n (J (k2 (Heap.get?_push_size _ (f t a)))))
 show _/\_
 rw [B,G,I] at L
 rw [z,B] at g3
 rw [G] at O
 rw [z] at g2
 rw [I]
 exact ⟨⟨_,L,rfl⟩,q _ L g3 O (at_new g1) (at_new g2) R fun c o x=>j (n (J (k2 (k1 x))))⟩
end
end Zp
end L2
namespace L2
open PySem PySem.Spec PyProof.Rows
section
section
variable {X:Cx} {pins:List (Addr×Obj)} {σ:St} {H:Hp} {s:Shared} {h':Heap}
theorem Inv.turnedL {t':Nat} {fp:List Addr} (I:Inv X pins σ H s) (hf:∀ b∈fp,bY X pins H b) (k:∀ b o,b∉fp->s.heap.get? b=some o->h'.get? b=some o):Inv X pins σ H { s with heap:=h',toks:=t' }:=by
 have nit:∀ b u,H b=some u->b∉fp:=fun b u e z=>by rw [(hf b z).1] at e;cases e
 refine I.step (g':=s.gens) (d':=s.drawn) (ch:=fp) (fun b hb => ?_) (fun b o _ _ hc e _=>k b o hc e) (fun b o _ _ hc e _=>⟨o.slots,k b o hc e⟩) (fun _ _ _ _ n=>n)
  (fun b o hc e=>⟨o,k b o hc e⟩) (fun _ _ e=>e) (fun _ _ _ e=>e) (fun b ps e=>⟨#[],by rw [e];simp⟩) (fun m hm => ?_) (fun b u e => ?_) I.bare
 ·obtain ⟨_,f1,_,j,f4,B⟩:=hf b hb
  exact ⟨j,f1,f4,B⟩
 ·obtain ⟨o,es,ep,ho,r⟩:=hm
  exact ⟨o,es,ep,k _ o (fun z=>(hf _ z).2.1 rfl) ho,r⟩
 ·refine (I.hok b u e).stay (fun c v hc q=>k c v ?_ q) (fun _ q=>q) fun _ _ q=>q
  rcases hc with z | z
  ·rw [z];exact nit b u e
  ·exact nit c _ z
end
noncomputable def SqV (K:Frag) (t:Bool) (H:Hp) (a:Addr) (xs:List V):Prop:=match t with | true=>SqT K H a xs | false=>SqL K H a xs
theorem Inv.sqv {X:Cx} {pins:List (Addr×Obj)} {σ:St} {H:Hp} {s:Shared} {t:Bool} {a:Addr} {xs:List V} (I:Inv X pins σ H s) (h:SqV X.K t H a xs):∃ its:List Value,Vals xs its/\Zp.Sq t s.heap a its.toArray:=by
 cases t with
 | true=>obtain ⟨its,r,p,_⟩:=I.tuple h;exact ⟨its,r,p⟩
 | false=>obtain ⟨its,r,p,_⟩:=I.list h;exact ⟨its,r,p.isList⟩
theorem Inv.sqv_inj {X:Cx} {pins:List (Addr×Obj)} {σ:St} {H:Hp} {s:Shared} {t:Bool} {a:Addr} {xs ys:List V} (I:Inv X pins σ H s) (h:SqV X.K t H a xs) (h':SqV X.K t H a ys):xs=ys:=by
 cases t with
 | true=>exact I.tuple_inj h h'
 | false=>exact I.list_inj h h'
noncomputable def Itz (K:Frag) (t u:Bool) (a b:Addr):It :=
 ⟨fun i H => ∃ xs ys x y,SqV K t H a xs/\SqV K u H b ys/\xs[i]? = some x/\ys[i]? = some y,
  fun i H v H' => ∃ p x y,H p=none/\v = .ref p/\H'=upd H p (.tup [x,y]) /\ ∀ xs ys,SqV K t H a xs->SqV K u H b ys->xs[i]? = some x/\ys[i]? = some y,
  fun i H => ∃ xs ys,SqV K t H a xs/\SqV K u H b ys/\(xs.length<=i∨ys.length<=i)⟩
theorem vf {P:Program} {w:World} {K:Frag} {elts:List Expr} {cx} {pos:Pos} {t u:Bool} {z T O i j a b:Addr} (D:ZipApart z T O i j a b) :
 eJ P w K (.Tuple elts cx pos) (Itz K t u a b) [z,T,O,i,j] z (fun k h=>IsZip h z T O .none/\IsPair h T (.ref i) (.ref j)/\(∃ p r,IsPair h O p r)/\Zp.At t h i a k/\Zp.At u h j b k) where
 mem:=by simp
 obj:=fun k h ⟨hz,q,⟨p,r,B⟩,hi,F⟩ c hc=>by
  simp only [List.mem_cons,List.not_mem_nil,or_false] at hc
  rcases hc with rfl | rfl | rfl | rfl | rfl
  ·exact ⟨_,hz,fun v e=>by cases e⟩
  ·exact ⟨_,q,fun v e=>by cases e⟩
  ·exact ⟨_,B,fun v e=>by cases e⟩
  ·exact hi.lt
  ·exact F.lt
 keep:=fun k h h' ⟨hz,q,⟨p,r,B⟩,hi,F⟩ kk=>⟨kk z (by simp) _ hz,kk T (by simp) _ q,⟨p,r,kk O (by simp) _ B⟩,hi.up fun o e=>kk i (by simp) o e,F.up fun o e=>kk j (by simp) o e⟩
 item:=by
  intro X J hw L hc k pins s σ H E I hf st hg
  subst J hw L
  obtain ⟨hz,q,⟨p,r,B⟩,hi,F⟩:=st
  obtain ⟨xs,ys,x,y,qx,qy,ex,ey⟩:=hg
  obtain ⟨is,rx,px⟩:=I.sqv qx
  obtain ⟨js,ry,py⟩:=I.sqv qy
  obtain ⟨ux,R,rux⟩:=rx.get ex
  obtain ⟨uy,S,ruy⟩:=ry.get ey
  refine Zp.nxt_item D hz q B hi F px py (by simpa using R) (by simpa using S) fun h1 Z o1 i1 j1 p1 k1=>⟨_,rfl, ?_⟩
  refine wpAny_letOwnedTupleGo_zip (s := { s with heap:=h1 }) Z fun h2 z2 s2 => ?_
  have lt:∀ {c o},s.heap.get? c=some o->c≠s.heap.objs.size:=fun e=>Nat.ne_of_lt (Heap.lt_size e)
  have nz:s.heap.objs.size≠z:=(lt hz).symm
  have U:∃ o,s.heap.get? i=some o:=hi.lt.imp fun _ h=>h.1
  have Y:∃ o,s.heap.get? j=some o:=F.lt.imp fun _ h=>h.1
  have up:∀ c o,c≠z->h1.get? c=some o->h2.get? c=some o:=fun c o n e=>s2.extBut _ _ n e
  have IL:Inv X pins σ (upd H s.heap.objs.size (.tup [x,y])) { s with heap:=s.heap.push { cls := .type "tuple",data := .seq #[ux,uy] },toks:=s.toks } :=
   I.laid (fun b o e=>Heap.get?_push_of_some _ e) (Nat.le_refl _) ⟨by rw [sizeLine_eq];simp,[ux,uy], .cons rux (.cons ruy .nil),IsTup.new _ _⟩
  have fr:∀ c∈[z,T,O,i,j],c≠s.heap.objs.size:=fun c hc=>by
   simp only [List.mem_cons,List.not_mem_nil,or_false] at hc
   rcases hc with rfl | rfl | rfl | rfl | rfl
   ·exact lt hz
   ·exact lt q
   ·exact lt B
   ·obtain ⟨o,e⟩:=U;exact lt e
   ·obtain ⟨o,e⟩:=Y;exact lt e
  have un:∀ c∈[z,T,O,i,j],upd H s.heap.objs.size (.tup [x,y]) c=none:=fun c hc=>by
   rw [aj (fr c hc)];exact (hf c hc).1
  have kk:∀ c o,c∉[z,T,O,i,j]->(s.heap.push { cls := .type "tuple",data := .seq #[ux,uy] }).get? c=some o->h2.get? c=some o:=fun c o hc e=>by
   simp only [List.mem_cons,List.not_mem_nil,or_false,not_or] at hc
   rcases Heap.get?_push_cases e with ⟨rfl,rfl⟩ | e
   ·exact up _ _ nz p1
   ·exact up _ _ hc.1 (k1 c o hc.1 hc.2.2.1 hc.2.2.2.1 hc.2.2.2.2 e)
  have I2:Inv X pins σ (upd H s.heap.objs.size (.tup [x,y])) { s with heap:=h2,toks:=s.toks } :=
   (Inv.turnedL (s := { s with heap:=s.heap.push { cls := .type "tuple",data := .seq #[ux,uy] },toks:=s.toks }) (h':=h2) (t':=s.toks) (fp := [z,T,O,i,j]) IL (fun c hc=>⟨un c hc,(hf c hc).2⟩) kk)
  refine ⟨.ref s.heap.objs.size,_,I2,rfl,⟨_,x,y,I.hok.fresh (Nat.le_refl _),rfl,rfl,fun xs' ys' q1 q2 => ?_⟩,⟨z2,up _ _ D.TIz (k1 _ _ D.TIz D.TITO D.TIi1 D.TIi2 q),⟨_,_,up _ _ D.TOz o1⟩,i1.up fun o e=>up _ o D.i1z e,j1.up fun o e=>up _ o D.i2z e⟩,un⟩
  rw [I.sqv_inj q1 qx,I.sqv_inj q2 qy];exact ⟨ex,ey⟩
 done:=by
  intro X J hw L hc k pins s σ H E I hf st hg
  subst J hw L
  obtain ⟨hz,q,⟨p,r,B⟩,hi,F⟩:=st
  obtain ⟨xs,ys,qx,qy,G⟩:=hg
  obtain ⟨is,rx,px⟩:=I.sqv qx
  obtain ⟨js,ry,py⟩:=I.sqv qy
  have lx:=rx.length
  have ly:=ry.length
  refine Zp.nxt_end (I.ok.hd hc) D hz q B hi F px py (G.imp (fun e=>by simp;lia) (fun e=>by simp;lia)) fun h1 k1=>⟨rfl,I.turnedL (t':=s.toks) hf fun c o hc e => ?_⟩
  simp only [List.mem_cons,List.not_mem_nil,or_false,not_or] at hc
  exact k1 c o hc.1 hc.2.2.1 hc.2.2.2.1 hc.2.2.2.2 e
 self:=fun A k s Q E st h=>wpAny_pyIter_zip st.1 h
section
variable {X:Cx}
noncomputable def CV (K:Frag) (ta:TA):TI:=fun σ H R=>ta σ H fun vs H1 => ∃ a b t u xs ys,vs=[.ref a, .ref b]/\SqV K t H1 a xs/\SqV K u H1 b ys/\R (Itz K t u a b) H1
theorem AC {elts:List Expr} {cx} {pos p pos':Pos} {a b:Expr} {ta:TA} (B:Gl X "zip") (hm:X.mg "zip" = none) (ha:PA X [a,b] ta) (hs:starEach [a,b] X.env=[(false,eval a X.env),(false,eval b X.env)]) (j:starEach [b] X.env=[(false,eval b X.env)]) :
 PI X (.Tuple elts cx pos) (.Call (.Name "zip" p) [a,b] [] pos') (CV X.K ta):=by
 intro pins s σ H R I h
 refine Call_ (dA I B hm (u := .type "zip") (by decide +kernel) (PyProof.Rows.callWith_type1 (thn (ha pos' pins s σ H _ I h) fun us s1 ⟨vs,H1,n,F,G⟩ => ?_) (by rw [hs,j]) (by rw [j];rfl)))
 obtain ⟨a',b',t,u,xs,ys,rfl,qx,qy,q⟩:=G
 cases F with
 | cons r rr =>
   cases rr with
   | cons r' rr =>
     cases rr
     cases r
     cases r'
     obtain ⟨is,rx,px⟩:=n.sqv qx
     obtain ⟨js,ry,py⟩:=n.sqv qy
     refine Zp.call_zip px py fun h1 z t1 J i1 j1 sz k1 => ?_
     refine wpAny_pyIter_zip z ?_
     have la:a' < s1.heap.objs.size:=by cases t <;> (obtain ⟨o,e,_⟩:=px;exact Heap.lt_size e)
     have lb:b' < s1.heap.objs.size:=by cases u <;> (obtain ⟨o,e,_⟩:=py;exact Heap.lt_size e)
     have D:ZipApart (s1.heap.objs.size+4) (s1.heap.objs.size+2) (s1.heap.objs.size+3) s1.heap.objs.size (s1.heap.objs.size+1) a' b':=by constructor <;> (intro e;subst_vars;first | lia | (simp only [Addr] at *;lia))
     refine ⟨_,_,_,_,H1,rfl,n.kept (t':=s1.toks) k1,vf (t:=t) (u:=u) D,⟨z,t1,⟨_,_,J⟩,i1,j1⟩,fun c hc => ?_,q⟩
     have hle:s1.heap.objs.size<=c:=by
      simp only [List.mem_cons,List.not_mem_nil,or_false] at hc
      rcases hc with rfl | rfl | rfl | rfl | rfl <;> lia
     exact n.fpOk hle (n.hok.fresh hle)
end
end
end L2
namespace L2
namespace Zp
open PySem PySem.Spec PyProof.Rows
noncomputable abbrev bD (h:Heap) (T:Addr) (a b c:Value):Prop:=h.get? T=some { cls := .type "tuple",data := .seq #[a,b,c] }
structure Z3 (t u v:Bool) (n a b c:Addr) (f0:Value) (k:Nat) (h:Heap):Prop where
 z:IsZip h (n+5) (n+3) (n+4) f0
 T:bD h (n+3) (.ref n) (.ref (n+1)) (.ref (n+2))
 O:∃ p q r,bD h (n+4) p q r
 i:At t h n a k
 j:At u h (n+1) b k
 l:At v h (n+2) c k
section
variable {prog:Program} {w:World} {A:Around} {E:Value->Shared->Prop} {s:Shared}
theorem dY {T:Addr} {a b c x:Value} {k:Nat} {Q:Unit->Shared->Prop} (j:bD s.heap T a b c)
 (h:∀ h',h'.get? T=some { cls := .type "tuple",data := .seq ((#[a,b,c]:Array Value).setIfInBounds k x) }->Heap.SameBut T s.heap h'->Q () { s with heap:=h' }) :
 wpAny (model prog w) A (updateSeq T (·.setIfInBounds k x)) Q E s:=by
 refine wpAny_updateSeq j rfl (h _ ?_ (Heap.SameBut.update ..))
 rw [Heap.get?_update_self _ j rfl]
 simp [Obj.mapSeq]
theorem gN {a n k:Nat} (h:a < n):a≠n+k:=by lia
theorem kN {n j k:Nat} (h:j≠k):n+j≠n+k:=by lia
theorem oN {n k:Nat} (h:k≠0):n≠n+k:=by lia
theorem pN {n k:Nat} (h:k≠0):n+k≠n:=by lia
open Builtin.SmallTypes in
theorem yg {n a b c:Addr} {t u v:Bool} {k:Nat} {xs ys zs:Array Value} {x y e:Value} {Q:Value->Shared->Prop} (la:a < n) (lb:b < n) (lc:c < n)
 (Z:Z3 t u v n a b c .none k s.heap) (ha:Sq t s.heap a xs) (hb:Sq u s.heap b ys) (hc:Sq v s.heap c zs) (hx:xs[k]? = some x) (hy:ys[k]? = some y) (he:zs[k]? = some e)
 (q:∀ h',Z3 t u v n a b c (rawInt s.heap.objs.size) (k+1) h'->bD h' s.heap.objs.size x y e ->
   (∀ c o,c≠n->c≠n+1->c≠n+2->c≠n+4->c≠n+5->s.heap.get? c=some o->h'.get? c=some o)->Q (.ref s.heap.objs.size) { s with heap:=h' }) :
 wpAny (model prog w) A (Builtin.«zip.__next__» ⟨[.ref (n+5)],[]⟩) (fun fin s' => ∃ v,fin = .done (.ret v)/\Q v s') E s:=by
 obtain ⟨hz,hT,⟨p1,p2,L,hO⟩,hi,hj,hl⟩:=Z
 refine wpAny_bind (m:=field (.ref (n+5)) 2) (wpAny_field hz rfl (x := .bool false) rfl ?_)
 refine wpAny_bind (m:=field (.ref (n+5)) 3) (wpAny_field hz rfl (x := .ref (n+3)) rfl ?_)
 refine wpAny_bind (wpAny_seqItems hT rfl ?_)
 refine wpAny_bind (m:=ownedTupleIsFree (.ref (n+5))) ?_
 unfold ownedTupleIsFree
 refine wpAny_bind (wpAny_field hz rfl (x := .none) rfl (wpAny_pure ?_))
 simp only [if_true]
 refine wpAny_bind (wpAny_rule (wpAny_bind (wpAny_field hz rfl (x := .ref (n+4)) rfl (wpAny_bind (wpAny_setField_rec hz (by simp) fun g1 z1 s1 => ?_)))))
 have Z1:IsZip g1 (n+5) (n+3) (n+4) .ellipsis:=z1
 clear z1
 refine wpAny_bind ?_
 simp only [List.zipIdx_cons,List.zipIdx_nil,List.forIn_cons,List.forIn_nil]
 refine wpAny_bind (wpAny_bind (wpAny_onRaise (wpAny_bind (m:=nextOf (.ref n)) ?_)))
 refine nx_item (hi.up fun o e=>s1.extBut _ o (oN (by decide)) e) (ha.up fun o e=>s1.extBut _ o (gN la) e) hx fun g2 S s2=>wpAny_pure ?_
 have O2:bD g2 (n+4) p1 p2 L:=s2.extBut _ _ (pN (by decide)) (s1.extBut _ _ (kN (by decide)) hO)
 refine wpAny_bind (wpAny_seqItems O2 rfl (wpAny_bind (dY O2 fun g3 o3 s3 => ?_)))
 have O3:bD g3 (n+4) x p2 L:=o3
 clear o3
 have U:∀ c o,c≠n->c≠n+4->c≠n+5->s.heap.get? c=some o->g3.get? c=some o:=fun c o z F B e=>s3.extBut _ _ F (s2.extBut _ _ z (s1.extBut _ _ B e))
 refine wpAny_bind (wpAny_letGo (wpAny_pure (wpAny_bind (wpAny_bind (wpAny_onRaise (wpAny_bind (m:=nextOf (.ref (n+1))) ?_))))))
 refine nx_item (hj.up fun o e=>U _ o (pN (by decide)) (kN (by decide)) (kN (by decide)) e) (hb.up fun o e=>U _ o (gN (k := 0) lb) (gN lb) (gN lb) e) hy fun g4 Y s4=>wpAny_pure ?_
 have O4:bD g4 (n+4) x p2 L:=s4.extBut _ _ (kN (by decide)) O3
 refine wpAny_bind (wpAny_seqItems O4 rfl (wpAny_bind (dY O4 fun g5 o5 s5 => ?_)))
 have O5:bD g5 (n+4) x y L:=o5
 clear o5
 have k5:∀ c o,c≠n->c≠n+1->c≠n+4->c≠n+5->s.heap.get? c=some o->g5.get? c=some o:=fun c o z F B G e=>s5.extBut _ _ B (s4.extBut _ _ F (U c o z B G e))
 refine wpAny_bind (wpAny_letGo (wpAny_pure (wpAny_bind (wpAny_bind (wpAny_onRaise (wpAny_bind (m:=nextOf (.ref (n+2))) ?_))))))
 refine nx_item (hl.up fun o e=>k5 _ o (pN (by decide)) (kN (by decide)) (kN (by decide)) (kN (by decide)) e) (hc.up fun o e=>k5 _ o (gN (k := 0) lc) (gN lc) (gN lc) (gN lc) e) he fun g6 D7 I=>wpAny_pure ?_
 have O6:bD g6 (n+4) x y L:=I.extBut _ _ (kN (by decide)) O5
 refine wpAny_bind (wpAny_seqItems O6 rfl (wpAny_bind (dY O6 fun j o7 J => ?_)))
 have O7:bD j (n+4) x y e:=o7
 clear o7
 refine wpAny_bind (wpAny_letGo (wpAny_pure (wpAny_pure (wpAny_bind (wpAny_seqItems O7 rfl (wpAny_bind (wpAny_newTuple ?_)))))))
 have sz:j.objs.size=s.heap.objs.size:=by rw [J.1,I.1,s5.1,s4.1,s3.1,s2.1,s1.1]
 have k7:∀ c o,c≠n->c≠n+1->c≠n+2->c≠n+4->c≠n+5->s.heap.get? c=some o->j.get? c=some o:=fun c o z F B G O e=>J.extBut _ _ G (I.extBut _ _ B (k5 c o z F G O e))
 have Z7:IsZip j (n+5) (n+3) (n+4) .ellipsis:=J.extBut _ _ (kN (by decide)) (I.extBut _ _ (kN (by decide)) (s5.extBut _ _ (kN (by decide)) (s4.extBut _ _ (kN (by decide)) (s3.extBut _ _ (kN (by decide)) (s2.extBut _ _ (pN (by decide)) Z1)))))
 have T7:=k7 _ _ (pN (by decide)) (kN (by decide)) (kN (by decide)) (kN (by decide)) (kN (by decide)) hT
 have I7:At t j n a (k+1):=S.up fun o e=>J.extBut _ o (oN (by decide)) (I.extBut _ o (oN (by decide)) (s5.extBut _ o (oN (by decide)) (s4.extBut _ o (oN (by decide)) (s3.extBut _ o (oN (by decide)) e))))
 have J7:At u j (n+1) b (k+1):=Y.up fun o e=>J.extBut _ o (kN (by decide)) (I.extBut _ o (kN (by decide)) (s5.extBut _ o (kN (by decide)) e))
 have L7:At v j (n+2) c (k+1):=D7.up fun o e=>J.extBut _ o (kN (by decide)) e
 have zl:n+5 < j.objs.size:=Heap.lt_size Z7
 refine wpAny_bind (m:=ownedTupleHandOut (.ref (n+5)) (.ref j.objs.size)) ?_
 unfold ownedTupleHandOut
 refine wpAny_bind (wpAny_setField_rec (Heap.get?_push_of_some _ Z7) (by simp) fun g8 z8 s8 => ?_)
 have Z8:IsZip g8 (n+5) (n+3) (n+4) (rawInt j.objs.size):=z8
 clear z8
 refine wpAny_setField_rec Z8 (by simp) fun R z9 s9 => ?_
 have Z9:IsZip R (n+5) (n+3) (n+4) (rawInt j.objs.size):=z9
 clear z9
 have up:∀ c o,c≠n+5->j.get? c=some o->R.get? c=some o:=fun c o z e=>s9.extBut _ _ z (s8.extBut _ _ z (Heap.get?_push_of_some _ e))
 have P9:bD R j.objs.size x y e:=s9.extBut _ _ (Nat.ne_of_gt zl) (s8.extBut _ _ (Nat.ne_of_gt zl) (Heap.get?_push_size _ rfl))
 rw [sz] at Z9 P9
 refine wpAny_pure ⟨_,rfl, ?_⟩
 show Q (.ref j.objs.size) _
 rw [sz]
 exact q R ⟨Z9,up _ _ (kN (by decide)) T7,⟨_,_,_,up _ _ (kN (by decide)) O7⟩,I7.up fun o e=>up _ o (oN (by decide)) e,J7.up fun o e=>up _ o (kN (by decide)) e,L7.up fun o e=>up _ o (kN (by decide)) e⟩ P9 fun c o z F B G O e=>up c o O (k7 c o z F B G O e)
open Builtin.SmallTypes in
theorem AD {n a b c:Addr} {t u v:Bool} {k:Nat} {xs ys zs:Array Value} {Q:Fin->Shared->Prop} (hn:A.handled=none) (la:a < n) (lb:b < n) (lc:c < n)
 (Z:Z3 t u v n a b c .none k s.heap) (ha:Sq t s.heap a xs) (hb:Sq u s.heap b ys) (hc:Sq v s.heap c zs) (O:xs[k]? = none∨ys[k]? = none∨zs[k]? = none)
 (q:∀ h' e,(∀ c o,c≠n->c≠n+1->c≠n+2->c≠n+4->c≠n+5->s.heap.get? c=some o->h'.get? c=some o)->(∃ o,h'.get? e=some o/\o.cls = .type "StopIteration")->E (.ref e) { s with heap:=h' }) :
 wpAny (model prog w) A (Builtin.«zip.__next__» ⟨[.ref (n+5)],[]⟩) Q E s:=by
 obtain ⟨hz,hT,⟨p1,p2,p3,hO⟩,hi,hj,hl⟩:=Z
 refine wpAny_bind (m:=field (.ref (n+5)) 2) (wpAny_field hz rfl (x := .bool false) rfl ?_)
 refine wpAny_bind (m:=field (.ref (n+5)) 3) (wpAny_field hz rfl (x := .ref (n+3)) rfl ?_)
 refine wpAny_bind (wpAny_seqItems hT rfl ?_)
 refine wpAny_bind (m:=ownedTupleIsFree (.ref (n+5))) ?_
 unfold ownedTupleIsFree
 refine wpAny_bind (wpAny_field hz rfl (x := .none) rfl (wpAny_pure ?_))
 simp only [if_true]
 refine wpAny_bind (wpAny_rule (wpAny_bind (wpAny_field hz rfl (x := .ref (n+4)) rfl (wpAny_bind (wpAny_setField_rec hz (by simp) fun g1 z1 s1 => ?_)))))
 have Z1:IsZip g1 (n+5) (n+3) (n+4) .ellipsis:=z1
 clear z1
 refine wpAny_bind ?_
 simp only [List.zipIdx_cons,List.zipIdx_nil,List.forIn_cons,List.forIn_nil]
 refine wpAny_bind (wpAny_bind (wpAny_onRaise (wpAny_bind (m:=nextOf (.ref n)) ?_)))
 have R:At t g1 n a k:=hi.up fun o e=>s1.extBut _ o (oN (by decide)) e
 have S:Sq t g1 a xs:=ha.up fun o e=>s1.extBut _ o (gN la) e
 have fin:∀ {h':Heap} {e:Addr} {o:Obj},(∀ c o,c≠n->c≠n+1->c≠n+2->c≠n+4->c≠n+5->s.heap.get? c=some o->h'.get? c=some o)->IsZip h' (n+5) (n+3) (n+4) .ellipsis->h'.get? e=some o->o.cls = .type "StopIteration" -> wpAny (model prog w) A (setField (.ref (n+5)) 0 .none) (fun _ s'=>E (.ref e) s') E { s with heap:=h' }:=fun {h' e o} kk Z j B=>by
  have ez:e≠n+5:=fun x=>by subst x;rw [Z] at j;cases j;simp at B
  exact wpAny_setField_rec Z (by simp) fun g3 _ s3=>q g3 e (fun c o F G I L J x=>s3.extBut _ _ J (kk c o F G I L J x)) ⟨o,s3.extBut _ _ ez j,B⟩
 cases hx:xs[k]? with
 | none =>
   refine nx_end hn R S hx fun g2 e s2 he => ?_
   obtain ⟨oe,j,B⟩:=he
   exact fin (fun c o F _ _ _ J x=>s2 _ _ F (s1.extBut _ _ J x)) (s2 _ _ (pN (by decide)) Z1) j B
 | some x =>
   refine nx_item R S hx fun g2 D7 s2=>wpAny_pure ?_
   have O2:bD g2 (n+4) p1 p2 p3:=s2.extBut _ _ (pN (by decide)) (s1.extBut _ _ (kN (by decide)) hO)
   refine wpAny_bind (wpAny_seqItems O2 rfl (wpAny_bind (dY O2 fun g3 o3 s3 => ?_)))
   have O3:bD g3 (n+4) x p2 p3:=o3
   clear o3
   have k3:∀ c o,c≠n->c≠n+4->c≠n+5->s.heap.get? c=some o->g3.get? c=some o:=fun c o F G I e=>s3.extBut _ _ G (s2.extBut _ _ F (s1.extBut _ _ I e))
   have Z3:IsZip g3 (n+5) (n+3) (n+4) .ellipsis:=s3.extBut _ _ (kN (by decide)) (s2.extBut _ _ (pN (by decide)) Z1)
   refine wpAny_bind (wpAny_letGo (wpAny_pure (wpAny_bind (wpAny_bind (wpAny_onRaise (wpAny_bind (m:=nextOf (.ref (n+1))) ?_))))))
   have U:At u g3 (n+1) b k:=hj.up fun o e=>k3 _ o (pN (by decide)) (kN (by decide)) (kN (by decide)) e
   have Y:Sq u g3 b ys:=hb.up fun o e=>k3 _ o (gN (k := 0) lb) (gN lb) (gN lb) e
   cases hy:ys[k]? with
   | none =>
     refine nx_end hn U Y hy fun g4 e s4 he => ?_
     obtain ⟨oe,j,B⟩:=he
     exact fin (fun c o F G _ L J x=>s4 _ _ G (k3 c o F L J x)) (s4 _ _ (kN (by decide)) Z3) j B
   | some y =>
     refine nx_item U Y hy fun g4 D8 s4=>wpAny_pure ?_
     have O4:bD g4 (n+4) x p2 p3:=s4.extBut _ _ (kN (by decide)) O3
     refine wpAny_bind (wpAny_seqItems O4 rfl (wpAny_bind (dY O4 fun g5 o5 s5 => ?_)))
     have k5:∀ c o,c≠n->c≠n+1->c≠n+4->c≠n+5->s.heap.get? c=some o->g5.get? c=some o:=fun c o F G I L e=>s5.extBut _ _ I (s4.extBut _ _ G (k3 c o F I L e))
     have Z5:IsZip g5 (n+5) (n+3) (n+4) .ellipsis:=s5.extBut _ _ (kN (by decide)) (s4.extBut _ _ (kN (by decide)) Z3)
     refine wpAny_bind (wpAny_letGo (wpAny_pure (wpAny_bind (wpAny_bind (wpAny_onRaise (wpAny_bind (m:=nextOf (.ref (n+2))) ?_))))))
     refine nx_end hn (hl.up fun o e=>k5 _ o (pN (by decide)) (kN (by decide)) (kN (by decide)) (kN (by decide)) e) (hc.up fun o e=>k5 _ o (gN (k := 0) lc) (gN lc) (gN lc) (gN lc) e) ?_ fun g6 e s6 he => ?_
     ·rcases O with z | z | z
      ·rw [hx] at z;cases z
      ·rw [hy] at z;cases z
      ·exact z
     ·obtain ⟨oe,j,B⟩:=he
      exact fin (fun c o F G I L J x=>s6 _ _ I (k5 c o F G L J x)) (s6 _ _ (kN (by decide)) Z5) j B
theorem nxt3_item {n a b c:Addr} {t u v:Bool} {k:Nat} {xs ys zs:Array Value} {x y e:Value} {Q:Option Value->Shared->Prop} (la:a < n) (lb:b < n) (lc:c < n)
 (Z:Z3 t u v n a b c .none k s.heap) (ha:Sq t s.heap a xs) (hb:Sq u s.heap b ys) (hc:Sq v s.heap c zs) (hx:xs[k]? = some x) (hy:ys[k]? = some y) (he:zs[k]? = some e)
 (q:∀ h',Z3 t u v n a b c (rawInt s.heap.objs.size) (k+1) h'->bD h' s.heap.objs.size x y e ->
   (∀ c o,c≠n->c≠n+1->c≠n+2->c≠n+4->c≠n+5->s.heap.get? c=some o->h'.get? c=some o)->Q (some (.ref s.heap.objs.size)) { s with heap:=h' }) :
 wpAny (model prog w) A (pyNext (.ref (n+5))) Q E s:=by
 have ty:s.TypeIs (.ref (n+5)) "zip" := ⟨_,Z.z,rfl⟩
 unfold pyNext
 exact wpAny_bind (wpAny_attempt (wpAny_callSpecial?_slot (name:=Str.ofString "__next__") ty F.slot_zip_next (wpAny_call_entry F.slot_zip_next ty F.entry_zip_next
  (yg la lb lc Z ha hb hc hx hy he fun h' a1 a2 j=>wpAny_pure (q h' a1 a2 j)) (F.args_zip_next_1 _))))
theorem nxt3_end {n a b c:Addr} {t u v:Bool} {k:Nat} {xs ys zs:Array Value} {Q:Option Value->Shared->Prop} (hn:A.handled=none) (la:a < n) (lb:b < n) (lc:c < n)
 (Z:Z3 t u v n a b c .none k s.heap) (ha:Sq t s.heap a xs) (hb:Sq u s.heap b ys) (hc:Sq v s.heap c zs) (j:xs[k]? = none∨ys[k]? = none∨zs[k]? = none)
 (q:∀ h',(∀ c o,c≠n->c≠n+1->c≠n+2->c≠n+4->c≠n+5->s.heap.get? c=some o->h'.get? c=some o)->Q none { s with heap:=h' }):wpAny (model prog w) A (pyNext (.ref (n+5))) Q E s:=by
 have ty:s.TypeIs (.ref (n+5)) "zip" := ⟨_,Z.z,rfl⟩
 unfold pyNext
 refine wpAny_bind (wpAny_attempt (wpAny_callSpecial?_slot (name:=Str.ofString "__next__") ty F.slot_zip_next (wpAny_call_entry F.slot_zip_next ty F.entry_zip_next
  (AD hn la lb lc Z ha hb hc j fun h' e B he => ?_) (F.args_zip_next_1 _))))
 obtain ⟨o,ho,hc⟩:=he
 exact wpAny_bind (wpAny_isInstance (T := "StopIteration") (b:=true) ⟨o,ho,hc⟩ isSubtype_stop (wpAny_pure (q _ B)))
theorem ji (a b c:Value):checkTypeCall "zip" ⟨[a,b,c],[]⟩=pure ():=by kernel_rfl
theorem kL (a b c:Value):checkBuiltinCall "zip.__new__" ⟨[.type "zip",a,b,c],[]⟩=pure ():=by kernel_rfl
theorem fu (a b c d:Value):argsOk "object.__init__" ⟨[a,b,c,d],[]⟩:=by
 unfold argsOk;rw [signature?_of (id := "object.__init__") (n := ['_', '_', 't', 'i', 'n', 'i', '_', '_']) (o := ['t', 'c', 'e', 'j', 'b', 'o']) (by kernel_rfl) F.owner_object];kernel_rfl
noncomputable def yH1 (h:Heap) (a:Addr):Heap:=h.push (itO true a)
noncomputable def yH2 (h:Heap) (a b:Addr):Heap:=(yH1 h a).push (itO false b)
noncomputable def yH3 (h:Heap) (a b c:Addr):Heap:=(yH2 h a b).push (itO true c)
noncomputable def yH4 (h:Heap) (a b c:Addr):Heap:=(yH3 h a b c).push { cls := .type "tuple",data := .seq #[.ref h.objs.size, .ref (yH1 h a).objs.size, .ref (yH2 h a b).objs.size] }
noncomputable def yH5 (h:Heap) (a b c:Addr):Heap:=(yH4 h a b c).push { cls := .type "tuple",data := .seq #[.none, .none, .none] }
noncomputable def yH6 (h:Heap) (a b c:Addr):Heap:=(yH5 h a b c).push { cls := .type "zip",data := .fields #[.none, .bool false, .bool false, .ref (yH3 h a b c).objs.size, .ref (yH4 h a b c).objs.size] }
theorem qi (a b c:Addr) (xs ys zs:Array Value) :
 Meets (Builtin.«zip.__new__» ⟨[.type "zip", .ref a, .ref b, .ref c],[]⟩) (fun _ R s=>s.heap.IsTuple a xs/\s.heap.IsList b ys/\s.heap.IsTuple c zs/\R (.ok (.ret (.ref (yH5 s.heap a b c).objs.size))) { s with heap:=yH6 s.heap a b c }) :=
 .of_wp fun prog w A R s h=>by
  obtain ⟨hp,g,d,tk,os⟩:=s;obtain ⟨ha,hb,hc,h⟩:=h
  have hs:=sub_zip
  have e1:Heap.IsTuple (Shared.heap ⟨hp,g,d,tk,os⟩) a xs:=ha
  have e2:Heap.IsList (Shared.heap ⟨hp.push { cls := .type "tuple_iterator",data := .fields #[.ref a, .int 0 0] },g,d,tk,os⟩) b ys:=Heap.IsList.push hb _
  have j:Heap.IsTuple (Shared.heap ⟨(hp.push { cls := .type "tuple_iterator",data := .fields #[.ref a, .int 0 0] }).push { cls := .type "list_iterator",data := .fields #[.ref b, .int 0 0] },g,d,tk,os⟩) c zs:=Heap.IsTuple.push (Heap.IsTuple.push hc _) _
  wp_walk using wpAny_pyIter_tuple e1,wpAny_pyIter_list e2,wpAny_pyIter_tuple j
  exact ⟨_,rfl,h⟩
theorem call_zip3 {a b c:Addr} {xs ys zs:Array Value} {Q:Value->Shared->Prop} (ha:s.heap.IsTuple a xs) (hb:s.heap.IsList b ys) (hc:s.heap.IsTuple c zs)
 (q:∀ h',Z3 true false true s.heap.objs.size a b c .none 0 h'->(∀ c o,s.heap.get? c=some o->h'.get? c=some o)->Q (.ref (s.heap.objs.size+5)) { s with heap:=h' }) :
 wpAny (model prog w) A (call (.type "zip") [.ref a, .ref b, .ref c]) Q E s:=by
 refine callType_new F.called_zip (by decide) (ji _ _ _) (kL _ _ _) (fun obj=>fu obj _ _ _) F.entry_zip_new (qi a b c xs ys zs) ⟨ha,hb,hc, ?_⟩
 have j:(yH1 s.heap a).objs.size=s.heap.objs.size+1:=Heap.size_push ..
 have n:(yH2 s.heap a b).objs.size=s.heap.objs.size+2:=by unfold yH2;rw [Heap.size_push,j]
 have z:(yH3 s.heap a b c).objs.size=s.heap.objs.size+3:=by unfold yH3;rw [Heap.size_push,n]
 have B:(yH4 s.heap a b c).objs.size=s.heap.objs.size+4:=by unfold yH4;rw [Heap.size_push,z]
 have I:(yH5 s.heap a b c).objs.size=s.heap.objs.size+5:=by unfold yH5;rw [Heap.size_push,B]
 have J:∀ {x o},(yH5 s.heap a b c).get? x=some o->(yH6 s.heap a b c).get? x=some o:=fun e=>Heap.get?_push_of_some _ e
 have L:∀ {x o},(yH4 s.heap a b c).get? x=some o->(yH6 s.heap a b c).get? x=some o:=fun e=>J (Heap.get?_push_of_some _ e)
 have O:∀ {x o},(yH3 s.heap a b c).get? x=some o->(yH6 s.heap a b c).get? x=some o:=fun e=>L (Heap.get?_push_of_some _ e)
 have R:∀ {x o},(yH2 s.heap a b).get? x=some o->(yH6 s.heap a b c).get? x=some o:=fun e=>O (Heap.get?_push_of_some _ e)
 have k2:∀ {x o},(yH1 s.heap a).get? x=some o->(yH6 s.heap a b c).get? x=some o:=fun e=>R (Heap.get?_push_of_some _ e)
 have G:(yH6 s.heap a b c).get? (yH5 s.heap a b c).objs.size=some _:=Heap.get?_push_size _ rfl
 have S:(yH6 s.heap a b c).get? (yH4 s.heap a b c).objs.size=some _:=J (Heap.get?_push_size _ rfl)
 have U:(yH6 s.heap a b c).get? (yH3 s.heap a b c).objs.size=some _:=L (Heap.get?_push_size _ rfl)
 have g3:(yH6 s.heap a b c).get? (yH2 s.heap a b).objs.size=some _:=O (Heap.get?_push_size _ rfl)
 have g2:(yH6 s.heap a b c).get? (yH1 s.heap a).objs.size=some _:=R (Heap.get?_push_size _ rfl)
 have g1:(yH6 s.heap a b c).get? s.heap.objs.size=some _:=k2 (Heap.get?_push_size _ rfl)
 rw [z,B,I] at G
 rw [B] at S
 rw [j,n,z] at U
 rw [n] at g3
 rw [j] at g2
 show _/\_
 rw [I]
 exact ⟨⟨_,G,rfl⟩,q _ ⟨G,U,⟨_,_,_,S⟩,at_new g1,at_new g2,at_new g3⟩ fun x o e=>k2 (Heap.get?_push_of_some _ e)⟩
end
end Zp
open PySem PySem.Spec PyProof.Rows
noncomputable def vg (K:Frag) (t u v:Bool) (a b c:Addr):It :=
 ⟨fun i H => ∃ xs ys zs x y z,SqV K t H a xs/\SqV K u H b ys/\SqV K v H c zs/\xs[i]? = some x/\ys[i]? = some y/\zs[i]? = some z,
  fun i H r H' => ∃ p x y z,H p=none/\r = .ref p/\H'=upd H p (.tup [x,y,z]) /\ ∀ xs ys zs,SqV K t H a xs->SqV K u H b ys->SqV K v H c zs->xs[i]? = some x/\ys[i]? = some y/\zs[i]? = some z,
  fun i H => ∃ xs ys zs,SqV K t H a xs/\SqV K u H b ys/\SqV K v H c zs/\(xs.length<=i∨ys.length<=i∨zs.length<=i)⟩
theorem sr {P:Program} {w:World} {K:Frag} {elts:List Expr} {cx} {pos:Pos} {t u v:Bool} {n a b c:Addr} (la:a < n) (lb:b < n) (lc:c < n) :
 eJ P w K (.Tuple elts cx pos) (vg K t u v a b c) [n+5,n+3,n+4,n,n+1,n+2] (n+5) (Zp.Z3 t u v n a b c .none) where
 mem:=by simp
 obj:=fun k h Z x hx=>by
  obtain ⟨p,q,r,F⟩:=Z.O
  simp only [List.mem_cons,List.not_mem_nil,or_false] at hx
  rcases hx with rfl | rfl | rfl | rfl | rfl | rfl
  ·exact ⟨_,Z.z,fun v e=>by cases e⟩
  ·exact ⟨_,Z.T,fun v e=>by cases e⟩
  ·exact ⟨_,F,fun v e=>by cases e⟩
  ·exact Z.i.lt
  ·exact Z.j.lt
  ·exact Z.l.lt
 keep:=fun k h h' Z kk=>⟨kk _ (by simp) _ Z.z,kk _ (by simp) _ Z.T,let ⟨p,q,r,F⟩:=Z.O; ⟨p,q,r,kk _ (by simp) _ F⟩,Z.i.up fun o e=>kk _ (by simp) o e,Z.j.up fun o e=>kk _ (by simp) o e,Z.l.up fun o e=>kk _ (by simp) o e⟩
 item:=by
  intro X L hw R G k pins s σ H E I hf Z hg
  subst L hw R
  obtain ⟨xs,ys,zs,x,y,z,qx,qy,qz,ex,ey,ez⟩:=hg
  obtain ⟨is,rx,px⟩:=I.sqv qx
  obtain ⟨js,ry,py⟩:=I.sqv qy
  obtain ⟨ks,rz,pz⟩:=I.sqv qz
  obtain ⟨ux,S,rux⟩:=rx.get ex
  obtain ⟨uy,U,ruy⟩:=ry.get ey
  obtain ⟨uz,Y,ruz⟩:=rz.get ez
  refine Zp.nxt3_item la lb lc Z px py pz (by simpa using S) (by simpa using U) (by simpa using Y) fun h1 B p1 k1=>⟨_,rfl, ?_⟩
  refine wpAny_letOwnedTupleGo_zip (s := { s with heap:=h1 }) B.z fun h2 z2 s2 => ?_
  have up:∀ c o,c≠n+5->h1.get? c=some o->h2.get? c=some o:=fun c o n e=>s2.extBut _ _ n e
  have IL:Inv X pins σ (upd H s.heap.objs.size (.tup [x,y,z])) { s with heap:=s.heap.push { cls := .type "tuple",data := .seq #[ux,uy,uz] },toks:=s.toks } :=
   I.laid (fun b o e=>Heap.get?_push_of_some _ e) (Nat.le_refl _) ⟨by rw [sizeLine_eq];simp,[ux,uy,uz], .cons rux (.cons ruy (.cons ruz .nil)),IsTup.new _ _⟩
  have D7:n+5 < s.heap.objs.size:=Heap.lt_size Z.z
  have fr:∀ c∈[n+5,n+3,n+4,n,n+1,n+2],c < s.heap.objs.size:=fun c hc=>by
   simp only [List.mem_cons,List.not_mem_nil,or_false] at hc
   rcases hc with rfl | rfl | rfl | rfl | rfl | rfl <;> first | lia | (simp only [Addr] at *;lia)
  have un:∀ c∈[n+5,n+3,n+4,n,n+1,n+2],upd H s.heap.objs.size (.tup [x,y,z]) c=none:=fun c hc=>by
   rw [aj (Nat.ne_of_lt (fr c hc))];exact (hf c hc).1
  have kk:∀ c o,c∉[n+5,n+3,n+4,n,n+1,n+2]->(s.heap.push { cls := .type "tuple",data := .seq #[ux,uy,uz] }).get? c=some o->h2.get? c=some o:=fun c o hc e=>by
   simp only [List.mem_cons,List.not_mem_nil,or_false,not_or] at hc
   rcases Heap.get?_push_cases e with ⟨rfl,rfl⟩ | e
   ·exact up _ _ (Nat.ne_of_gt D7) p1
   ·exact up _ _ hc.1 (k1 c o hc.2.2.2.1 hc.2.2.2.2.1 hc.2.2.2.2.2 hc.2.2.1 hc.1 e)
  have I2:Inv X pins σ (upd H s.heap.objs.size (.tup [x,y,z])) { s with heap:=h2,toks:=s.toks } :=
   (Inv.turnedL (s := { s with heap:=s.heap.push { cls := .type "tuple",data := .seq #[ux,uy,uz] },toks:=s.toks }) (h':=h2) (t':=s.toks) (fp := [n+5,n+3,n+4,n,n+1,n+2]) IL (fun c hc=>⟨un c hc,(hf c hc).2⟩) kk)
  obtain ⟨p,q,r,F⟩:=B.O
  refine ⟨.ref s.heap.objs.size,_,I2,rfl,⟨_,x,y,z,I.hok.fresh (Nat.le_refl _),rfl,rfl,fun xs' ys' zs' q1 q2 q3 => ?_⟩,⟨z2,up _ _ (Zp.kN (by decide)) B.T,⟨p,q,r,up _ _ (Zp.kN (by decide)) F⟩,B.i.up fun o e=>up _ o (Zp.oN (by decide)) e,B.j.up fun o e=>up _ o (Zp.kN (by decide)) e,B.l.up fun o e=>up _ o (Zp.kN (by decide)) e⟩,un⟩
  rw [I.sqv_inj q1 qx,I.sqv_inj q2 qy,I.sqv_inj q3 qz];exact ⟨ex,ey,ez⟩
 done:=by
  intro X L hw R G k pins s σ H E I hf Z hg
  subst L hw R
  obtain ⟨xs,ys,zs,qx,qy,qz,J⟩:=hg
  obtain ⟨is,rx,px⟩:=I.sqv qx
  obtain ⟨js,ry,py⟩:=I.sqv qy
  obtain ⟨ks,rz,pz⟩:=I.sqv qz
  have lx:=rx.length
  have ly:=ry.length
  have lz:=rz.length
  refine Zp.nxt3_end (I.ok.hd G) la lb lc Z px py pz (J.imp (fun e=>by simp;lia) (fun e=>e.imp (fun e=>by simp;lia) (fun e=>by simp;lia))) fun h1 k1=>⟨rfl,I.turnedL (t':=s.toks) hf fun c o hc e => ?_⟩
  simp only [List.mem_cons,List.not_mem_nil,or_false,not_or] at hc
  exact k1 c o hc.2.2.2.1 hc.2.2.2.2.1 hc.2.2.2.2.2 hc.2.2.1 hc.1 e
 self:=fun A k s Q E Z h=>wpAny_pyIter_zip Z.z h
section
variable {X:Cx}
noncomputable def C1 (K:Frag) (ta:TA):TI:=fun σ H R=>ta σ H fun vs H1 => ∃ a b c xs ys zs,vs=[.ref a, .ref b, .ref c]/\SqT K H1 a xs/\SqL K H1 b ys/\SqT K H1 c zs/\R (vg K true false true a b c) H1
theorem yh {elts:List Expr} {cx} {pos p pos':Pos} {a b c:Expr} {ta:TA} (F:Gl X "zip") (hm:X.mg "zip" = none) (ha:PA X [a,b,c] ta) (hs:starEach [a,b,c] X.env=[(false,eval a X.env),(false,eval b X.env),(false,eval c X.env)]) (n:starEach [b,c] X.env=[(false,eval b X.env),(false,eval c X.env)]) :
 PI X (.Tuple elts cx pos) (.Call (.Name "zip" p) [a,b,c] [] pos') (C1 X.K ta):=by
 intro pins s σ H R I h
 refine Call_ (dA I F hm (u := .type "zip") (by decide +kernel) (PyProof.Rows.callWith_type1 (thn (ha pos' pins s σ H _ I h) fun us s1 ⟨vs,H1,j,G,J⟩ => ?_) (by rw [hs,n]) (by rw [n];rfl)))
 obtain ⟨a',b',c',xs,ys,zs,rfl,qx,qy,qz,q⟩:=J
 cases G with
 | cons r rr =>
   cases rr with
   | cons r' rr =>
     cases rr with
     | cons r'' rr =>
       cases rr
       cases r
       cases r'
       cases r''
       obtain ⟨is,rx,px,_⟩:=j.tuple qx
       obtain ⟨js,ry,py,_⟩:=j.list qy
       obtain ⟨ks,rz,pz,_⟩:=j.tuple qz
       refine Zp.call_zip3 px py.isList pz fun h1 B k1 => ?_
       refine wpAny_pyIter_zip B.z ?_
       have la:a' < s1.heap.objs.size:=by obtain ⟨o,e,_⟩:=px;exact Heap.lt_size e
       have lb:b' < s1.heap.objs.size:=by obtain ⟨o,e,_⟩:=py.isList;exact Heap.lt_size e
       have lc:c' < s1.heap.objs.size:=by obtain ⟨o,e,_⟩:=pz;exact Heap.lt_size e
       refine ⟨_,_,_,_,H1,rfl,j.kept (t':=s1.toks) k1,sr (t:=true) (u:=false) (v:=true) la lb lc,B,fun x hx => ?_,q⟩
       have hle:s1.heap.objs.size<=x:=by
        simp only [List.mem_cons,List.not_mem_nil,or_false] at hx
        rcases hx with rfl | rfl | rfl | rfl | rfl | rfl <;> lia
       exact j.fpOk hle (j.hok.fresh hle)
end
end L2
namespace L2
namespace En
open PySem PySem.Spec PyProof.Rows
section
variable {prog:Program} {w:World} {A:Around} {E:Value->Shared->Prop} {s:Shared}
open Builtin.SmallTypes Zp in
theorem AE {z i a:Addr} {t:Bool} {k:Nat} {xs:Array Value} {x old:Value} {Q:Value->Shared->Prop} (hz:IsEnum s.heap z i k old) (hi:At t s.heap i a k) (ha:Sq t s.heap a xs) (hx:xs[k]? = some x) (j:z≠i)
 (q:∀ h',IsEnumOut h' z i ((k:Int)+1) x s.heap.objs.size->At t h' i a (k+1)->h'.get? s.heap.objs.size=some { cls := .type "tuple",data := .seq #[.int k s.toks,x] } ->
   (∀ b o,b≠z->b≠i->s.heap.get? b=some o->h'.get? b=some o)->Q (.ref s.heap.objs.size) { s with heap:=h',toks:=s.toks+1 }) :
 wpAny (model prog w) A (Builtin.«enumerate.__next__» ⟨[.ref z],[]⟩) (fun fin s' => ∃ v,fin = .done (.ret v)/\Q v s') E s:=by
 obtain ⟨hp,g,d,tk,os⟩:=s
 refine wpAny_bind (m:=field (.ref z) 2) (wpAny_field hz rfl (x := .ref i) rfl (wpAny_bind (nx_item hi ha hx fun g1 i1 s1 => ?_)))
 have S1:Heap.SameBut i hp g1:=s1
 clear s1
 have J:IsEnum g1 z i k old:=(S1.2 z j).trans hz
 refine wpAny_bind (m:=field (.ref z) 3) (wpAny_field (s:=⟨g1,g,d,tk,os⟩) J rfl (x:=rawInt k) rfl ?_)
 refine wpAny_bind (m:=field (.ref z) 4) (wpAny_field (s:=⟨g1,g,d,tk,os⟩) J rfl (x := .none) rfl ?_)
 refine wpAny_bind (m:=mkInt k) (wpAny_mkInt ?_)
 refine wpAny_bind (m:=setField (.ref z) 3 (rawInt ((k:Int)+1))) (wpAny_setField_rec (s:=⟨g1,g,d,tk+1,os⟩) J (by simp) fun g2 O s2 => ?_)
 have L:Heap.SameBut z g1 g2:=s2
 have Z2:IsEnum g2 z i ((k:Int)+1) old:=O
 clear s2 O
 refine wpAny_bind (m:=setField (.ref z) 4 .none) (wpAny_setField_rec (s:=⟨g2,g,d,tk+1,os⟩) Z2 (by simp) fun g3 R s3 => ?_)
 have S3:Heap.SameBut z g2 g3:=s3
 have Z3:IsEnum g3 z i ((k:Int)+1) old:=R
 clear s3 R
 refine wpAny_bind (m:=newTuple [.int k tk,x]) (wpAny_newTuple ?_)
 have B:IsEnum (g3.push { cls := .type "tuple",data := .seq #[.int k tk,x] }) z i ((k:Int)+1) old:=Heap.get?_push_of_some _ Z3
 have sz:g3.objs.size=hp.objs.size:=by rw [S3.1,L.1,S1.1]
 have zl:z < hp.objs.size:=Heap.lt_size hz
 have S:(g3.push { cls := .type "tuple",data := .seq #[.int k tk,x] }).get? hp.objs.size=some { cls := .type "tuple",data := .seq #[.int k tk,x] }:=by rw [<- sz];exact Heap.get?_push_size _ rfl
 have U:∀ b o,b≠z->b≠i->hp.get? b=some o->(g3.push { cls := .type "tuple",data := .seq #[.int k tk,x] }).get? b=some o:=fun b o bz bi e =>
  Heap.get?_push_of_some _ (S3.extBut b o bz (L.extBut b o bz (S1.extBut b o bi e)))
 have Y:At t (g3.push { cls := .type "tuple",data := .seq #[.int k tk,x] }) i a (k+1):=i1.up fun o e=>Heap.get?_push_of_some _ (S3.extBut i o j.symm (L.extBut i o j.symm e))
 rw [sz]
 generalize g3.push { cls := .type "tuple",data := .seq #[.int k tk,x] }=n at B S U Y
 refine wpAny_bind (m:=ownedTupleIsFree (.ref z)) ?_
 unfold ownedTupleIsFree
 refine wpAny_bind (wpAny_field (s:=⟨n,g,d,tk+1,os⟩) B rfl (x := .none) rfl (wpAny_pure ?_))
 simp only [if_true]
 refine wpAny_bind (wpAny_rule (wpAny_bind (wpAny_field (s:=⟨n,g,d,tk+1,os⟩) B rfl (x:=old) rfl (wpAny_bind (wpAny_setField_rec (s:=⟨n,g,d,tk+1,os⟩) B (by simp) fun F Z s5 => ?_)))))
 have S5:Heap.SameBut z n F:=s5
 have Z5:IsEnum F z i ((k:Int)+1) x:=Z
 clear s5 Z
 refine wpAny_bind (m:=ownedTupleHandOut (.ref z) (.ref hp.objs.size)) ?_
 unfold ownedTupleHandOut
 refine wpAny_bind (wpAny_setField_rec (s:=⟨F,g,d,tk+1,os⟩) Z5 (by simp) fun G z6 s6 => ?_)
 have S6:Heap.SameBut z F G:=s6
 have Z6:IsEnumOut G z i ((k:Int)+1) x hp.objs.size:=z6
 clear s6 z6
 refine wpAny_setField_rec (s:=⟨G,g,d,tk+1,os⟩) Z6 (by simp) fun I z7 s7 => ?_
 have S7:Heap.SameBut z G I:=s7
 have Z7:IsEnumOut I z i ((k:Int)+1) x hp.objs.size:=z7
 clear s7 z7
 have up:∀ b o,b≠z->n.get? b=some o->I.get? b=some o:=fun b o bz e=>S7.extBut b o bz (S6.extBut b o bz (S5.extBut b o bz e))
 exact wpAny_bind (wpAny_letGo (wpAny_pure ⟨_,rfl,q I Z7 (Y.up fun o e=>up i o j.symm e) (up _ _ (Nat.ne_of_gt zl) S) fun b o bz bi e=>up b o bz (U b o bz bi e)⟩))
theorem nxt_item {z i a:Addr} {t:Bool} {k:Nat} {xs:Array Value} {x old:Value} {Q:Option Value->Shared->Prop} (hz:IsEnum s.heap z i k old) (hi:Zp.At t s.heap i a k) (ha:Zp.Sq t s.heap a xs) (hx:xs[k]? = some x) (j:z≠i)
 (q:∀ h',IsEnumOut h' z i ((k:Int)+1) x s.heap.objs.size->Zp.At t h' i a (k+1)->h'.get? s.heap.objs.size=some { cls := .type "tuple",data := .seq #[.int k s.toks,x] } ->
   (∀ b o,b≠z->b≠i->s.heap.get? b=some o->h'.get? b=some o)->Q (some (.ref s.heap.objs.size)) { s with heap:=h',toks:=s.toks+1 }) :
 wpAny (model prog w) A (pyNext (.ref z)) Q E s:=by
 have ty:s.TypeIs (.ref z) "enumerate" := ⟨_,hz,rfl⟩
 unfold pyNext
 exact wpAny_bind (wpAny_attempt (wpAny_callSpecial?_slot (name:=Str.ofString "__next__") ty F.slot_enumerate_next (wpAny_call_entry F.slot_enumerate_next ty F.entry_enumerate_next
  (AE hz hi ha hx j fun h' a1 a2 n B=>wpAny_pure (q h' a1 a2 n B)) (F.args_enumerate_next_1 _))))
theorem nxt_end {z i a:Addr} {t:Bool} {k:Nat} {xs:Array Value} {old:Value} {Q:Option Value->Shared->Prop} (hn:A.handled=none) (hz:IsEnum s.heap z i k old) (hi:Zp.At t s.heap i a k) (ha:Zp.Sq t s.heap a xs) (hx:xs[k]? = none)
 (q:∀ h',Heap.ExtBut i s.heap h'->Q none { s with heap:=h' }):wpAny (model prog w) A (pyNext (.ref z)) Q E s:=by
 have ty:s.TypeIs (.ref z) "enumerate" := ⟨_,hz,rfl⟩
 unfold pyNext
 refine wpAny_bind (wpAny_attempt (wpAny_callSpecial?_slot (name:=Str.ofString "__next__") ty F.slot_enumerate_next (wpAny_call_entry F.slot_enumerate_next ty F.entry_enumerate_next ?_ (F.args_enumerate_next_1 _))))
 refine wpAny_bind (m:=field (.ref z) 2) (wpAny_field hz rfl (x := .ref i) rfl (wpAny_bind (Zp.nx_end hn hi ha hx fun h' x he hs => ?_)))
 obtain ⟨o,ho,hc⟩:=hs
 exact wpAny_bind (wpAny_isInstance (T := "StopIteration") (b:=true) ⟨o,ho,hc⟩ isSubtype_stop (wpAny_pure (q _ he)))
open AutoSeq1 (wpAny_loadPart') in
theorem yi (l:Addr) (items:Array Value) (n:Nat) (dct:Option Addr) (sl:Array (Option Value)) :
 Meets (Builtin.«enumerate.__new__» ⟨[.type "enumerate", .ref l],[]⟩) (fun _ R s=>s.heap.get? l=some { cls := .type "tuple",dict:=dct,data := .seq items n,slots:=sl } /\
  R (.ok (.ret (.ref (s.heap.push (Zp.itO true l)).objs.size))) { s with heap:=(s.heap.push (Zp.itO true l)).push { cls := .type "enumerate",data := .fields #[.none, .bool false, .ref s.heap.objs.size,rawInt 0, .none, .none] } }) :=
 .of_wp fun prog w A R s h=>by
  obtain ⟨hp,g,d,tk,os⟩:=s;obtain ⟨j,h⟩:=h
  have q:=sub_enumerate
  have z:Heap.IsTuple (Shared.heap ⟨hp,g,d,tk,os⟩) l items:=⟨_,j,rfl,n,rfl⟩
  wp_walk using wpAny_loadPart' j
  refine wpAny_stack_any fun st=>wpAny_pure ?_
  split
  ·rename_i c _ _ _ _ _
   cases (c==Value.type "enumerate") <;> (wp_walk using wpAny_loadPart' j,wpAny_pyIter_tuple z;exact ⟨_,rfl,h⟩)
  ·wp_walk using wpAny_loadPart' j,wpAny_pyIter_tuple z
   exact ⟨_,rfl,h⟩
theorem call_enum {t:Bool} {l:Addr} {items:Array Value} {Q:Value->Shared->Prop} (B:Zp.Sq t s.heap l items)
 (q:∀ h',IsEnum h' (s.heap.objs.size+1) s.heap.objs.size 0 .none->Zp.At t h' s.heap.objs.size l 0->(∀ b o,s.heap.get? b=some o->h'.get? b=some o)->Q (.ref (s.heap.objs.size+1)) { s with heap:=h' }) :
 wpAny (model prog w) A (call (.type "enumerate") [.ref l]) Q E s:=by
 cases t with
 | false=>exact call_enumerate_list B fun h' a b _ k=>q h' a b k
 | true =>
   obtain ⟨⟨c,dct,dt,sl⟩,I,hc,n,hd⟩:=B
   have j:c = .type "tuple" := hc
   have z:dt = .seq items n:=hd
   subst j z
   refine callType_new F.called_enumerate (by decide) (F.typeCall_enumerate_1 _) (F.newCall_enumerate_1 _) (fun obj=>F.args_object_init_2 obj _) F.entry_enumerate_new (yi l items n dct sl) ⟨I, ?_⟩
   have G:(s.heap.push (Zp.itO true l)).objs.size=s.heap.objs.size+1:=Heap.size_push ..
   have e:((s.heap.push (Zp.itO true l)).push { cls := .type "enumerate",data := .fields #[.none, .bool false, .ref s.heap.objs.size,rawInt 0, .none, .none] }).get? (s.heap.push (Zp.itO true l)).objs.size=some _:=Heap.get?_push_size _ rfl
   rw [G] at e
   show _/\_
   rw [G]
   exact ⟨⟨_,e,rfl⟩,q _ e (Zp.at_new (Heap.get?_push_of_some _ (Heap.get?_push_size _ rfl))) fun b o x=>Heap.get?_push_of_some _ (Heap.get?_push_of_some _ x)⟩
end
end En
open PySem PySem.Spec PyProof.Rows
noncomputable def Ite (K:Frag) (t:Bool) (a:Addr):It :=
 ⟨fun i H => ∃ xs x,SqV K t H a xs/\xs[i]? = some x,
  fun i H v H' => ∃ p x,H p=none/\v = .ref p/\H'=upd H p (.tup [.int (i:Nat),x]) /\ ∀ xs,SqV K t H a xs->xs[i]? = some x,
  fun i H => ∃ xs,SqV K t H a xs/\xs.length<=i⟩
theorem su {P:Program} {w:World} {K:Frag} {elts:List Expr} {cx} {pos:Pos} {t:Bool} {z i a:Addr} (j:z≠i) :
 eJ P w K (.Tuple elts cx pos) (Ite K t a) [z,i] z (fun k h=>(∃ old,IsEnum h z i k old)/\Zp.At t h i a k) where
 mem:=by simp
 obj:=fun k h ⟨⟨old,hz⟩,hi⟩ c hc=>by
  simp only [List.mem_cons,List.not_mem_nil,or_false] at hc
  rcases hc with rfl | rfl
  ·exact ⟨_,hz,fun v e=>by cases e⟩
  ·exact hi.lt
 keep:=fun k h h' ⟨⟨old,hz⟩,hi⟩ kk=>⟨⟨old,kk z (by simp) _ hz⟩,hi.up fun o e=>kk i (by simp) o e⟩
 item:=by
  intro X q hw B hc k pins s σ H E I hf st hg
  subst q hw B
  obtain ⟨⟨old,hz⟩,hi⟩:=st
  obtain ⟨xs,x,qx,ex⟩:=hg
  obtain ⟨is,rx,px⟩:=I.sqv qx
  obtain ⟨ux,F,rux⟩:=rx.get ex
  refine En.nxt_item hz hi px (by simpa using F) j fun h1 L i1 O k1=>⟨_,rfl, ?_⟩
  refine wpAny_letOwnedTupleGo_enum (s := { s with heap:=h1,toks:=s.toks+1 }) L fun h2 R s2 => ?_
  have lt:∀ {c o},s.heap.get? c=some o->c≠s.heap.objs.size:=fun e=>Nat.ne_of_lt (Heap.lt_size e)
  have nz:s.heap.objs.size≠z:=(lt hz).symm
  have G:∃ o,s.heap.get? i=some o:=hi.lt.imp fun _ h=>h.1
  have up:∀ c o,c≠z->h1.get? c=some o->h2.get? c=some o:=fun c o n e=>s2.extBut _ _ n e
  have IL:Inv X pins σ (upd H s.heap.objs.size (.tup [.int (k:Nat),x])) { s with heap:=s.heap.push { cls := .type "tuple",data := .seq #[.int k s.toks,ux] },toks:=s.toks+1 } :=
   I.laid (fun b o e=>Heap.get?_push_of_some _ e) (Nat.le_refl _) ⟨by rw [sizeLine_eq];simp,[.int k s.toks,ux], .cons ⟨_,rfl⟩ (.cons rux .nil),IsTup.new _ _⟩
  have fr:∀ c∈[z,i],c≠s.heap.objs.size:=fun c hc=>by
   simp only [List.mem_cons,List.not_mem_nil,or_false] at hc
   rcases hc with rfl | rfl
   ·exact lt hz
   ·obtain ⟨o,e⟩:=G;exact lt e
  have un:∀ c∈[z,i],upd H s.heap.objs.size (.tup [.int (k:Nat),x]) c=none:=fun c hc=>by
   rw [aj (fr c hc)];exact (hf c hc).1
  have kk:∀ c o,c∉[z,i]->(s.heap.push { cls := .type "tuple",data := .seq #[.int k s.toks,ux] }).get? c=some o->h2.get? c=some o:=fun c o hc e=>by
   simp only [List.mem_cons,List.not_mem_nil,or_false,not_or] at hc
   rcases Heap.get?_push_cases e with ⟨rfl,rfl⟩ | e
   ·exact up _ _ nz O
   ·exact up _ _ hc.1 (k1 c o hc.1 hc.2 e)
  have S:Inv X pins σ (upd H s.heap.objs.size (.tup [.int (k:Nat),x])) { s with heap:=h2,toks:=s.toks+1 } :=
   Inv.turnedL (s := { s with heap:=s.heap.push { cls := .type "tuple",data := .seq #[.int k s.toks,ux] },toks:=s.toks+1 }) (h':=h2) (t':=s.toks+1) (fp := [z,i]) IL (fun c hc=>⟨un c hc,(hf c hc).2⟩) kk
  refine ⟨.ref s.heap.objs.size,_,S,rfl,⟨_,x,I.hok.fresh (Nat.le_refl _),rfl,rfl,fun xs' U => ?_⟩,⟨⟨ux,by simpa using R⟩,i1.up fun o e=>up _ o j.symm e⟩,un⟩
  rw [I.sqv_inj U qx];exact ex
 done:=by
  intro X q hw B hc k pins s σ H E I hf st hg
  subst q hw B
  obtain ⟨⟨old,hz⟩,hi⟩:=st
  obtain ⟨xs,qx,J⟩:=hg
  obtain ⟨is,rx,px⟩:=I.sqv qx
  have lx:=rx.length
  refine En.nxt_end (I.ok.hd hc) hz hi px (by simp;lia) fun h1 k1=>⟨rfl,I.turnedL (t':=s.toks) hf fun c o hc e => ?_⟩
  simp only [List.mem_cons,List.not_mem_nil,or_false,not_or] at hc
  exact k1 c o hc.2 e
 self:=fun A k s Q E ⟨⟨old,hz⟩,_⟩ h=>wpAny_pyIter_enum hz h
section
variable {X:Cx}
noncomputable def C2 (K:Frag) (ta:TA):TI:=fun σ H R=>ta σ H fun vs H1 => ∃ a t xs,vs=[.ref a]/\SqV K t H1 a xs/\R (Ite K t a) H1
theorem yj {elts:List Expr} {cx} {pos p pos':Pos} {a:Expr} {ta:TA} (z:Gl X "enumerate") (hm:X.mg "enumerate" = none) (ha:PA X [a] ta) (hs:starEach [a] X.env=[(false,eval a X.env)]) :
 PI X (.Tuple elts cx pos) (.Call (.Name "enumerate" p) [a] [] pos') (C2 X.K ta):=by
 intro pins s σ H R I h
 refine Call_ (dA I z hm (u := .type "enumerate") boot_enumerate (PyProof.Rows.callWith_type1 (thn (ha pos' pins s σ H _ I h) fun us s1 ⟨vs,H1,j,B,F⟩ => ?_) hs rfl))
 obtain ⟨a',t,xs,rfl,qx,q⟩:=F
 cases B with
 | cons r rr =>
   cases rr
   cases r
   obtain ⟨is,rx,px⟩:=j.sqv qx
   refine En.call_enum px fun h1 n i1 k1 => ?_
   refine wpAny_pyIter_enum n ?_
   refine ⟨_,_,_,_,H1,rfl,j.kept (t':=s1.toks) k1,su (t:=t) (a:=a') (by simp),⟨⟨_,n⟩,i1⟩,fun c hc => ?_,q⟩
   have hle:s1.heap.objs.size<=c:=by
    simp only [List.mem_cons,List.not_mem_nil,or_false] at hc
    rcases hc with rfl | rfl <;> lia
   exact j.fpOk hle (j.hok.fresh hle)
end
end L2
namespace L2
namespace Rv
open PySem PySem.Spec PyProof.Rows
end Rv
open PySem PySem.Spec PyProof.Rows
end L2
namespace L2
namespace Mi
open PySem PySem.Spec PyProof.Rows
section
inductive D where
 | non | bl (b:Bool) | int (i:Int) | str (x:Str) | tup (ds:List D) | con (ds:List D) | ref (a:Addr)
inductive O where
 | lst (ds:List D)
 | dct (t:Bool) (kvs:List (D×D))
 | fdc (kvs:List (D×D))
noncomputable abbrev Mem:=Addr->Option O
noncomputable def fz:Option O->Bool
 | some (.lst _)=>false
 | some (.dct _ _)=>false
 | _=>true
noncomputable abbrev av:=List (Option D)
noncomputable def ag (M:Mem) (a:Addr) (o:O):Mem:=fun b=>if b=a then some o else M b
theorem ad {M:Mem} {a:Addr} {o:O}:ag M a o a=some o:=by unfold ag;rw [if_pos rfl]
theorem aK {M:Mem} {a b:Addr} {o:O} (h:b≠a):ag M a o b=M b:=by unfold ag;rw [if_neg h]
noncomputable def SqF (K:Frag) (H:Hp) (a:Addr) (xs:List V):Prop :=
 (∃ o,H a=some (.frz o (.lst xs))) ∨
  ∃ (o:Obj) (its:Array Value) (n:Nat),K.lookup a=some o/\o.cls = .type "list" /\ o.dict=none/\o.data = .seq its n/\its.size<=sizeLine/\Vals xs its.toList
theorem SqF.sq {K:Frag} {H:Hp} {a:Addr} {xs:List V} (h:SqF K H a xs):SqL K H a xs:=by
 rcases h with ⟨o,h⟩ | h
 ·exact .inl (.inr ⟨o,h⟩)
 ·exact .inr h
noncomputable def fk2:Bool:=false
noncomputable def fk:List D->Bool
 | [.int _, .int _, .int _] => true
 | [.tup _,_] => true
 | [.int _,_] => fk2
 | _=>false
noncomputable def TupR (K:Frag) (H:Hp) (ds:List D) (a:Addr) (vs:List V):Prop:=H a=some (.tup vs)∨(fk ds=false/\SqT K H a vs)
theorem TupR.sq {K:Frag} {H:Hp} {ds:List D} {a:Addr} {vs:List V} (h:TupR K H ds a vs):SqT K H a vs:=h.elim SqT.of (·.2)
mutual
noncomputable def RD (K:Frag) (H:Hp):D->V->Prop
 | .non,v=>v = .non
 | .bl b,v=>v = .bl b
 | .int i,v=>v = .int i
 | .str x,v=>v = .str x
 | .tup ds,v => ∃ a vs,v = .ref a/\TupR K H ds a vs/\RDs K H ds vs
 | .con ds,v => ∃ a vs,v = .ref a/\SqF K H a vs/\RDs K H ds vs
 | .ref a,v=>v = .ref a
noncomputable def RDs (K:Frag) (H:Hp):List D->List V->Prop
 | [],vs=>vs=[]
 | d::ds,vs => ∃ v r,vs=v::r/\RD K H d v/\RDs K H ds r
end
structure Stab (H H':Hp):Prop where
 tup:∀ a xs,H a=some (.tup xs)->H' a=some (.tup xs)
 frz:∀ a o u,H a=some (.frz o u)->H' a=some (.frz o u)
theorem Stab.sqT {K:Frag} {H H':Hp} (st:Stab H H') {a:Addr} {xs:List V} (h:SqT K H a xs):SqT K H' a xs:=by
 rcases h with (h | ⟨o,h⟩) | h
 ·exact .inl (.inl (st.tup _ _ h))
 ·exact .inl (.inr ⟨o,st.frz _ _ _ h⟩)
 ·exact .inr h
theorem Stab.sqF {K:Frag} {H H':Hp} (st:Stab H H') {a:Addr} {xs:List V} (h:SqF K H a xs):SqF K H' a xs:=by
 rcases h with ⟨o,h⟩ | h
 ·exact .inl ⟨o,st.frz _ _ _ h⟩
 ·exact .inr h
mutual
theorem RD.mono {K:Frag} {H H':Hp} (st:Stab H H'):∀ {d:D} {v:V},RD K H d v->RD K H' d v
 | .non,_,h=>h
 | .bl _,_,h=>h
 | .int _,_,h=>h
 | .str _,_,h=>h
 | .tup ds,v,h=>by
  unfold RD at h ⊢
  obtain ⟨a,vs,e,q,r⟩:=h
  exact ⟨a,vs,e,q.imp (st.tup _ _) (fun z=>⟨z.1,st.sqT z.2⟩),RDs.mono st r⟩
 | .con ds,v,h=>by
  unfold RD at h ⊢
  obtain ⟨a,vs,e,q,r⟩:=h
  exact ⟨a,vs,e,st.sqF q,RDs.mono st r⟩
 | .ref _,_,h=>h
theorem RDs.mono {K:Frag} {H H':Hp} (st:Stab H H'):∀ {ds:List D} {vs:List V},RDs K H ds vs->RDs K H' ds vs
 | [],_,h=>h
 | d::ds,vs,h=>by
   unfold RDs at h ⊢
   obtain ⟨v,r,e,h1,h2⟩:=h
   exact ⟨v,r,e,RD.mono st h1,RDs.mono st h2⟩
end
section
variable {K:Frag} {H H':Hp}
theorem RD.int_iff {i:Int} {v:V}:RD K H (.int i) v↔v = .int i:=by unfold RD;exact Iff.rfl
theorem RD.bl_iff {b:Bool} {v:V}:RD K H (.bl b) v↔v = .bl b:=by unfold RD;exact Iff.rfl
theorem RD.non_iff {v:V}:RD K H .non v↔v = .non:=by unfold RD;exact Iff.rfl
theorem RD.str_iff {x:Str} {v:V}:RD K H (.str x) v↔v = .str x:=by unfold RD;exact Iff.rfl
theorem RD.ref_iff {a:Addr} {v:V}:RD K H (.ref a) v↔v = .ref a:=by unfold RD;exact Iff.rfl
theorem RD.tup_iff {ds:List D} {v:V}:RD K H (.tup ds) v ↔ ∃ a vs,v = .ref a/\TupR K H ds a vs/\RDs K H ds vs:=by rw [RD]
theorem RD.tup_mk {ds:List D} {v:V} (h:∃ a vs,v = .ref a/\H a=some (.tup vs)/\RDs K H ds vs):RD K H (.tup ds) v:=RD.tup_iff.mpr (let ⟨a,vs,e,h,r⟩:=h; ⟨a,vs,e, .inl h,r⟩)
theorem RD.tupS {ds:List D} {v:V} (h:RD K H (.tup ds) v):∃ a vs,v = .ref a/\SqT K H a vs/\RDs K H ds vs:=let ⟨a,vs,e,h,r⟩:=RD.tup_iff.mp h; ⟨a,vs,e,h.sq,r⟩
theorem RD.tupK {ds:List D} {v:V} (f:fk ds=true) (h:RD K H (.tup ds) v):∃ a vs,v = .ref a/\H a=some (.tup vs)/\RDs K H ds vs:=let ⟨a,vs,e,h,r⟩:=RD.tup_iff.mp h; ⟨a,vs,e,h.elim id fun z=>(by rw [f] at z;cases z.1),r⟩
theorem RD.con_iff {ds:List D} {v:V}:RD K H (.con ds) v ↔ ∃ a vs,v = .ref a/\SqF K H a vs/\RDs K H ds vs:=by rw [RD]
theorem RDs.nil_iff {vs:List V}:RDs K H [] vs↔vs=[]:=by rw [RDs]
theorem RDs.cons_iff {d:D} {ds:List D} {vs:List V}:RDs K H (d::ds) vs ↔ ∃ v r,vs=v::r/\RD K H d v/\RDs K H ds r:=by rw [RDs]
theorem RDs.nil:RDs K H [] []:=RDs.nil_iff.mpr rfl
theorem RDs.cons {d:D} {ds:List D} {v:V} {vs:List V} (h:RD K H d v) (r:RDs K H ds vs):RDs K H (d::ds) (v::vs):=RDs.cons_iff.mpr ⟨v,vs,rfl,h,r⟩
theorem RDs.length:∀ {ds:List D} {vs:List V},RDs K H ds vs->vs.length=ds.length
 | [],_,h=>by rw [RDs.nil_iff.mp h];rfl
 | d::ds,_,h=>by
   obtain ⟨v,r,rfl,_,h2⟩:=RDs.cons_iff.mp h
   simp [RDs.length h2]
theorem RDs.get:∀ {ds:List D} {vs:List V} {i:Nat} {d:D},RDs K H ds vs->ds[i]? = some d -> ∃ v,vs[i]? = some v/\RD K H d v
 | [],_,_,_,_,e=>by simp at e
 | d::ds,_,0,d',h,e=>by
   obtain ⟨v,r,rfl,h1,h2⟩:=RDs.cons_iff.mp h
   simp at e;subst e
   exact ⟨v,rfl,h1⟩
 | d::ds,_,i+1,d',h,e=>by
   obtain ⟨v,r,rfl,h1,h2⟩:=RDs.cons_iff.mp h
   obtain ⟨u,j,n⟩:=RDs.get (i:=i) (d:=d') h2 (by simpa using e)
   exact ⟨u,by simpa using j,n⟩
theorem RDs.getV {ds:List D} {vs:List V} {i:Nat} {v:V} (h:RDs K H ds vs) (e:vs[i]? = some v):∃ d,ds[i]? = some d/\RD K H d v:=by
 have q:=h.length
 have hi:i < vs.length:=(List.getElem?_eq_some_iff.mp e).1
 obtain ⟨d,hd⟩:∃ d,ds[i]? = some d:=⟨ds[i]'(by lia),List.getElem?_eq_getElem (by lia)⟩
 obtain ⟨u,j,n⟩:=h.get hd
 rw [e] at j;cases j
 exact ⟨d,hd,n⟩
theorem RDs.append:∀ {ds es:List D} {vs us:List V},RDs K H ds vs->RDs K H es us->RDs K H (ds++es) (vs++us)
 | [],_,_,_,h,q=>by rw [RDs.nil_iff.mp h];exact q
 | d::ds,_,_,_,h,q=>by
   obtain ⟨v,r,rfl,h1,h2⟩:=RDs.cons_iff.mp h
   exact RDs.cons h1 (RDs.append h2 q)
theorem RDs.take:∀ {ds:List D} {vs:List V} (n:Nat),RDs K H ds vs->RDs K H (ds.take n) (vs.take n)
 | [],_,n,h=>by rw [RDs.nil_iff.mp h];simp;exact RDs.nil
 | _::_,_,0,h=>by simp;exact RDs.nil
 | d::ds,_,n+1,h=>by
   obtain ⟨v,r,rfl,h1,h2⟩:=RDs.cons_iff.mp h
   exact RDs.cons h1 (RDs.take n h2)
theorem RDs.drop:∀ {ds:List D} {vs:List V} (n:Nat),RDs K H ds vs->RDs K H (ds.drop n) (vs.drop n)
 | [],_,n,h=>by rw [RDs.nil_iff.mp h];simp;exact RDs.nil
 | d::ds,_,0,h=>h
 | d::ds,_,n+1,h=>by
   obtain ⟨v,r,rfl,h1,h2⟩:=RDs.cons_iff.mp h
   exact RDs.drop n h2
theorem RDs.set:∀ {ds:List D} {vs:List V} (n:Nat) {d:D} {v:V},RD K H d v->RDs K H ds vs->RDs K H (ds.set n d) (vs.set n v)
 | [],_,n,_,_,_,h=>by rw [RDs.nil_iff.mp h];exact RDs.nil
 | d::ds,_,0,_,_,q,h=>by
   obtain ⟨v,r,rfl,h1,h2⟩:=RDs.cons_iff.mp h
   exact RDs.cons q h2
 | d::ds,_,n+1,_,_,q,h=>by
   obtain ⟨v,r,rfl,h1,h2⟩:=RDs.cons_iff.mp h
   exact RDs.cons h1 (RDs.set n q h2)
theorem RDs.reverse {ds:List D} {vs:List V} (h:RDs K H ds vs):RDs K H ds.reverse vs.reverse:=by
 induction ds generalizing vs with
 | nil=>rw [RDs.nil_iff.mp h];exact RDs.nil
 | cons d ds ih =>
   obtain ⟨v,r,rfl,h1,h2⟩:=RDs.cons_iff.mp h
   rw [List.reverse_cons,List.reverse_cons]
   exact (ih h2).append (RDs.cons h1 RDs.nil)
theorem RDs.rep {ds:List D} {vs:List V} (h:RDs K H ds vs):∀ k:Nat,RDs K H (List.replicate k ds).flatten (List.replicate k vs).flatten
 | 0=>RDs.nil
 | k+1=>by
   rw [List.replicate_succ,List.replicate_succ,List.flatten_cons,List.flatten_cons]
   exact h.append (h.rep k)
theorem RDs.ints:∀ (ns:List Int),RDs K H (ns.map D.int) (ns.map V.int)
 | [] => RDs.nil
 | n::ns=>RDs.cons (RD.int_iff.mpr rfl) (RDs.ints ns)
end
mutual
noncomputable def D.eqb:D->D->Bool
 | .non, .non=>true
 | .bl a, .bl b=>a==b
 | .int a, .int b=>decide (a=b)
 | .str a, .str b=>decide (a=b)
 | .tup a, .tup b=>D.eqbs a b
 | .con a, .con b=>D.eqbs a b
 | .ref a, .ref b=>decide (a=b)
 | _,_=>false
noncomputable def D.eqbs:List D->List D->Bool
 | [],[] => true
 | a::r,b::s=>D.eqb a b&&D.eqbs r s
 | _,_=>false
end
mutual
theorem D.eqb_eq:∀ (a b:D),D.eqb a b=true->a=b
 | .non, .non,_=>rfl
 | .bl a, .bl b,h=>by simp [D.eqb] at h;rw [h]
 | .int a, .int b,h=>by simp [D.eqb] at h;rw [h]
 | .str a, .str b,h=>by simp [D.eqb] at h;rw [h]
 | .tup a, .tup b,h=>by simp [D.eqb] at h;rw [D.eqbs_eq a b h]
 | .con a, .con b,h=>by simp [D.eqb] at h;rw [D.eqbs_eq a b h]
 | .ref a, .ref b,h=>by simp [D.eqb] at h;rw [h]
 | .non, .bl _,h=>by simp [D.eqb] at h
 | .non, .int _,h=>by simp [D.eqb] at h
 | .non, .str _,h=>by simp [D.eqb] at h
 | .non, .tup _,h=>by simp [D.eqb] at h
 | .non, .con _,h=>by simp [D.eqb] at h
 | .non, .ref _,h=>by simp [D.eqb] at h
 | .bl _, .non,h=>by simp [D.eqb] at h
 | .bl _, .int _,h=>by simp [D.eqb] at h
 | .bl _, .str _,h=>by simp [D.eqb] at h
 | .bl _, .tup _,h=>by simp [D.eqb] at h
 | .bl _, .con _,h=>by simp [D.eqb] at h
 | .bl _, .ref _,h=>by simp [D.eqb] at h
 | .int _, .non,h=>by simp [D.eqb] at h
 | .int _, .bl _,h=>by simp [D.eqb] at h
 | .int _, .str _,h=>by simp [D.eqb] at h
 | .int _, .tup _,h=>by simp [D.eqb] at h
 | .int _, .con _,h=>by simp [D.eqb] at h
 | .int _, .ref _,h=>by simp [D.eqb] at h
 | .str _, .non,h=>by simp [D.eqb] at h
 | .str _, .bl _,h=>by simp [D.eqb] at h
 | .str _, .int _,h=>by simp [D.eqb] at h
 | .str _, .tup _,h=>by simp [D.eqb] at h
 | .str _, .con _,h=>by simp [D.eqb] at h
 | .str _, .ref _,h=>by simp [D.eqb] at h
 | .tup _, .non,h=>by simp [D.eqb] at h
 | .tup _, .bl _,h=>by simp [D.eqb] at h
 | .tup _, .int _,h=>by simp [D.eqb] at h
 | .tup _, .str _,h=>by simp [D.eqb] at h
 | .tup _, .con _,h=>by simp [D.eqb] at h
 | .tup _, .ref _,h=>by simp [D.eqb] at h
 | .con _, .non,h=>by simp [D.eqb] at h
 | .con _, .bl _,h=>by simp [D.eqb] at h
 | .con _, .int _,h=>by simp [D.eqb] at h
 | .con _, .str _,h=>by simp [D.eqb] at h
 | .con _, .tup _,h=>by simp [D.eqb] at h
 | .con _, .ref _,h=>by simp [D.eqb] at h
 | .ref _, .non,h=>by simp [D.eqb] at h
 | .ref _, .bl _,h=>by simp [D.eqb] at h
 | .ref _, .int _,h=>by simp [D.eqb] at h
 | .ref _, .str _,h=>by simp [D.eqb] at h
 | .ref _, .tup _,h=>by simp [D.eqb] at h
 | .ref _, .con _,h=>by simp [D.eqb] at h
theorem D.eqbs_eq:∀ (a b:List D),D.eqbs a b=true->a=b
 | [],[],_=>rfl
 | a::r,b::s,h=>by
   simp [D.eqbs] at h
   rw [D.eqb_eq a b h.1,D.eqbs_eq r s h.2]
 | [],_::_,h=>by simp [D.eqbs] at h
 | _::_,[],h=>by simp [D.eqbs] at h
end
mutual
theorem D.eqb_refl:∀ (a:D),D.eqb a a=true
 | .non=>rfl
 | .bl _=>by simp [D.eqb]
 | .int _=>by simp [D.eqb]
 | .str _=>by simp [D.eqb]
 | .tup a=>by simp [D.eqb,D.eqbs_refl a]
 | .con a=>by simp [D.eqb,D.eqbs_refl a]
 | .ref _=>by simp [D.eqb]
theorem D.eqbs_refl:∀ (a:List D),D.eqbs a a=true
 | [] => rfl
 | a::r=>by simp [D.eqbs,D.eqb_refl a,D.eqbs_refl r]
end
noncomputable instance:DecidableEq D:=fun a b=>if h:D.eqb a b=true then isTrue (D.eqb_eq a b h) else isFalse fun e=>h (by rw [e];exact D.eqb_refl b)
noncomputable def RKey:D->Key->Prop
 | .int i,k=>k = .inl i
 | .str x,k=>k = .inr x
 | _,_=>False
noncomputable def RKeys:D->List Key->Prop
 | .tup ds,ks=>Paired RKey ds ks
 | _,_=>False
noncomputable def dget (kvs:List (D×D)) (k:D):Option D:=(kvs.find? fun p=>decide (p.1=k)).map (·.2)
noncomputable def cj (kvs:List (D×D)) (k v:D):List (D×D):=if (kvs.any fun p=>decide (p.1=k))=true then kvs.map (fun p=>if p.1=k then (p.1,v) else p) else kvs++[(k,v)]
noncomputable def eM:D->Bool
 | .int _=>true
 | .str _=>true
 | _=>false
noncomputable def bR:D->Bool
 | .tup ds=>ds.all eM&&fk ds
 | _=>false
noncomputable def fT (t:Bool) (k:D):Bool:=if t then bR k else eM k
theorem lF {k:D} (h:eM k=true):∃ q,RKey k q:=by
 cases k <;> first | (simp [eM] at h;done) | exact ⟨_,rfl⟩
theorem oD:∀ {ds:List D},ds.all eM=true -> ∃ ks,Paired RKey ds ks
 | [],_=>⟨[], .nil⟩
 | d::ds,h=>by
   simp only [List.all_cons,Bool.and_eq_true] at h
   obtain ⟨k,j⟩:=lF h.1
   obtain ⟨ks,hs⟩:=oD h.2
   exact ⟨k::ks, .cons j hs⟩
theorem jj {k:D} (h:bR k=true):∃ q,RKeys k q:=by
 cases k <;> first | (simp [bR] at h;done) | exact oD (Bool.and_eq_true_iff.mp h).1
theorem jk {ds:List D} (h:bR (.tup ds)=true):fk ds=true:=(Bool.and_eq_true_iff.mp h).2
noncomputable def RO (K:Frag) (H:Hp) (a:Addr):O->Prop
 | .lst ds => ∃ vs,H a=some (.lst vs)/\RDs K H ds vs
 | .dct false kvs => ∃ ps,H a=some (.dK ps)/\Paired (fun (p:D×D) (q:Key×V)=>RKey p.1 q.1/\RD K H p.2 q.2) kvs ps
 | .dct true kvs => ∃ ps,H a=some (.dT ps)/\Paired (fun (p:D×D) (q:List Key×V)=>RKeys p.1 q.1/\RD K H p.2 q.2) kvs ps
 | .fdc kvs => ∃ o ps,H a=some (.frz o (.dT ps))/\Paired (fun (p:D×D) (q:List Key×V)=>RKeys p.1 q.1/\RD K H p.2 q.2) kvs ps
noncomputable def RM (K:Frag) (M:Mem) (H:Hp):Prop := ∀ a o,M a=some o->RO K H a o
noncomputable def RS (K:Frag) (H:Hp) (σ:St) (ρ:av):Prop := σ.length = ρ.length /\ ∀ (i:Nat) (d:D), ρ[i]? = some (some d) -> ∃ v, σ[i]? = some (some v)/\RD K H d v
structure Ext (M:Mem) (H:Hp) (M':Mem) (H':Hp):Prop where
 kp:∀ a o,fz (M a)=true->H a=some o->H' a=some o
 nw:∀ a o,fz (M a)=true->H a=some o->M' a=M a
section
variable {K:Frag} {M M' M'':Mem} {H H' H'':Hp}
theorem Ext.keep (x:Ext M H M' H') (a:Addr) (o:HO) (n:M a=none) (e:H a=some o):H' a=some o:=x.kp a o (by rw [n];rfl) e
theorem Ext.new (x:Ext M H M' H') (a:Addr) (o:HO) (n:M a=none) (e:H a=some o):M' a=none:=(x.nw a o (by rw [n];rfl) e).trans n
theorem Ext.refl:Ext M H M H:=⟨fun _ _ _ h=>h,fun _ _ _ _=>rfl⟩
theorem Ext.trans (a:Ext M H M' H') (b:Ext M' H' M'' H''):Ext M H M'' H'' :=
 ⟨fun c o n h=>b.kp c o (by rw [a.nw c o n h];exact n) (a.kp c o n h),fun c o n h=>(b.nw c o (by rw [a.nw c o n h];exact n) (a.kp c o n h)).trans (a.nw c o n h)⟩
theorem RM.mut (r:RM K M H) {a:Addr} {o:O} (h:M a=some o):∃ ho,H a=some ho/\(∀ xs,ho ≠ .tup xs)/\(fz (some o)=false->Mut (some ho) /\ ∀ ob u,ho ≠ .frz ob u):=by
 have q:=r a o h
 cases o with
 | lst ds =>
   obtain ⟨vs,e,_⟩:=q
   exact ⟨_,e,fun _ z=>(by cases z),fun _=>⟨trivial,fun _ _ z=>(by cases z)⟩⟩
 | dct t kvs =>
   cases t with
   | false=>obtain ⟨ps,e,_⟩:=q;exact ⟨_,e,fun _ z=>(by cases z),fun _=>⟨trivial,fun _ _ z=>(by cases z)⟩⟩
   | true=>obtain ⟨ps,e,_⟩:=q;exact ⟨_,e,fun _ z=>(by cases z),fun _=>⟨trivial,fun _ _ z=>(by cases z)⟩⟩
 | fdc kvs=>obtain ⟨ob,ps,e,_⟩:=q;exact ⟨_,e,fun _ z=>(by cases z),fun z=>(by cases z)⟩
theorem RM.fzT (r:RM K M H) {a:Addr} {xs:List V} (e:H a=some (.tup xs)):M a=none:=by
 cases q:M a with
 | none=>rfl
 | some o =>
   obtain ⟨ho,j,n,_⟩:=r.mut q
   rw [e] at j;cases j
   exact absurd rfl (n xs)
theorem RM.fzF (r:RM K M H) {a:Addr} {ob:Obj} {u:HO} (e:H a=some (.frz ob u)):fz (M a)=true:=by
 cases q:M a with
 | none=>rfl
 | some o =>
   obtain ⟨ho,j,_,n⟩:=r.mut q
   rw [e] at j;cases j
   cases z:fz (some o) with
   | true=>rfl
   | false=>exact absurd rfl ((n z).2 ob u)
theorem RM.out (r:RM K M H) {a:Addr} (h:H a=none):M a=none:=by
 cases e:M a with
 | none=>rfl
 | some o =>
   obtain ⟨ho,q,_⟩:=r.mut e
   rw [h] at q;cases q
theorem Ext.stab (r:RM K M H) (x:Ext M H M' H'):Stab H H' where
 tup:=fun a xs e=>x.keep a _ (r.fzT e) e
 frz:=fun a o u e=>x.kp a _ (r.fzF e) e
theorem RS.mono (st:Stab H H') {σ:St} {ρ:av} (h:RS K H σ ρ):RS K H' σ ρ :=
 ⟨h.1,fun i d e=>let ⟨v,q,r⟩:=h.2 i d e; ⟨v,q,r.mono st⟩⟩
theorem RS.set {σ:St} {ρ:av} (h:RS K H σ ρ) (i:Nat) {d:D} {v:V} (r:RD K H d v):RS K H (σ.set i (some v)) (ρ.set i (some d)):=by
 refine ⟨by simp [h.1],fun j e q => ?_⟩
 by_cases hij:i=j
 ·subst hij
  have hi:i < ρ.length:=by
   have:=(List.getElem?_eq_some_iff.mp q).1
   simpa using this
  rw [List.getElem?_set_self hi] at q
  cases q
  exact ⟨v,by rw [List.getElem?_set_self (by rw [h.1];exact hi)],r⟩
 ·rw [List.getElem?_set_ne hij] at q ⊢
  exact h.2 j e q
noncomputable def jm (fr:List (Option Nat)) (ρ:av):av:=fr.map fun o=>o.bind fun j=>(ρ[j]?).join
theorem RS.inh {σ:St} {ρ:av} (h:RS K H σ ρ) (fr:List (Option Nat)):RS K H (inh fr σ) (jm fr ρ):=by
 refine ⟨by simp [L2.inh,jm],fun i d e => ?_⟩
 unfold jm at e
 unfold L2.inh
 rw [List.getElem?_map] at e ⊢
 cases q:fr[i]? with
 | none=>rw [q] at e;cases e
 | some o =>
   rw [q] at e
   cases o with
   | none=>cases e
   | some j =>
     have e':some ((ρ[j]?).join)=some (some d):=e
     cases q' : ρ[j]? with
     | none=>rw [q'] at e';cases e'
     | some w =>
       rw [q'] at e'
       cases e'
       obtain ⟨v,v1,v2⟩:=h.2 j d q'
       exact ⟨v,by simp [v1],v2⟩
theorem RO.mono (st:Stab H H') {a:Addr} {o:O} (h:RO K H a o) (e:∀ ho,H a=some ho->H' a=some ho):RO K H' a o:=by
 cases o with
 | lst ds=>obtain ⟨vs,q,r⟩:=h;exact ⟨vs,e _ q,r.mono st⟩
 | dct t kvs =>
   cases t with
   | false=>obtain ⟨ps,q,r⟩:=h;exact ⟨ps,e _ q,Paired.mapP r fun _ _ z=>⟨z.1,z.2.mono st⟩⟩
   | true=>obtain ⟨ps,q,r⟩:=h;exact ⟨ps,e _ q,Paired.mapP r fun _ _ z=>⟨z.1,z.2.mono st⟩⟩
 | fdc kvs=>obtain ⟨ob,ps,q,r⟩:=h;exact ⟨ob,ps,e _ q,Paired.mapP r fun _ _ z=>⟨z.1,z.2.mono st⟩⟩
theorem RM.new {p:Addr} {ho:HO} (r:RM K M H) (n:H p=none):RM K M (upd H p ho):=fun a o e=>by
 have ne:a≠p:=fun z=>by subst z;obtain ⟨_,q,_⟩:=r.mut e;rw [n] at q;cases q
 refine (r a o e).mono ⟨fun b xs q => ?_,fun b o u q => ?_⟩ fun j q=>by rw [aj ne];exact q
 ·rw [aj (aW q n)];exact q
 ·rw [aj (aW q n)];exact q
theorem Ext.new' {p:Addr} {ho:HO} (n:H p=none):Ext M H M (upd H p ho):=⟨fun a o _ e=>by rw [aj (aW e n)];exact e,fun _ _ _ _=>rfl⟩
theorem RM.lay {p:Addr} {ho:HO} {o:O} (r:RM K M H) (n:H p=none) (h:RO K (upd H p ho) p o):RM K (ag M p o) (upd H p ho):=fun a o' e=>by
 by_cases z:a=p
 ·subst z;rw [ad] at e;cases e;exact h
 ·rw [aK z] at e;exact r.new n a o' e
theorem Ext.lay {p:Addr} {ho:HO} {o:O} (n:H p=none):Ext M H (ag M p o) (upd H p ho) :=
 ⟨fun a u _ e=>by rw [aj (aW e n)];exact e,fun a u m e=>by rw [aK (aW e n)]⟩
theorem RM.put {p:Addr} {ho:HO} {o o0:O} (r:RM K M H) (m:M p=some o0) (h:RO K (upd H p ho) p o) (w:fz (some o0)=false:=by rfl):RM K (ag M p o) (upd H p ho):=fun a o' e=>by
 by_cases z:a=p
 ·subst z;rw [ad] at e;cases e;exact h
 ·rw [aK z] at e
  obtain ⟨hp,j,n,B⟩:=r.mut m
  refine (r a o' e).mono ⟨fun b xs q => ?_,fun b o u q => ?_⟩ fun F q=>by rw [aj z];exact q
  ·rw [aj (fun z=>by subst z;rw [j] at q;cases q;exact n xs rfl)];exact q
  ·rw [aj (fun z=>by subst z;rw [j] at q;cases q;exact (B w).2 o u rfl)];exact q
theorem Ext.put {p:Addr} {ho:HO} {o o0:O} (m:M p=some o0) (w:fz (some o0)=false:=by rfl):Ext M H (ag M p o) (upd H p ho) :=
 ⟨fun a u n e=>by rw [aj (fun z=>by subst z;rw [m,w] at n;cases n)];exact e,fun a u n e=>aK (fun z=>by subst z;rw [m,w] at n;cases n)⟩
theorem RM.stabPut {p:Addr} {ho:HO} {o0:O} (r:RM K M H) (m:M p=some o0) (w:fz (some o0)=false:=by rfl):Stab H (upd H p ho):=(Ext.put (o:=o0) (ho:=ho) m w).stab r
end
noncomputable abbrev QD:=D->Mem->Prop
noncomputable abbrev TEd:=av->Mem->QD->Prop
noncomputable abbrev TTd:=av->Mem->(Bool->Mem->Prop)->Prop
noncomputable abbrev TAd:=av->Mem->(List D->Mem->Prop)->Prop
structure bu where
 nx:av->Mem->Prop
 rt:QD
 bk:av->Mem->Prop:=fun _ _=>False
 ct:av->Mem->Prop:=fun _ _=>False
noncomputable abbrev TSd:=bu->av->Mem->Prop
noncomputable def aa (T:TEd):Prop := ∀ ρ M Q Q',(∀ d M',Q d M'->Q' d M')->T ρ M Q->T ρ M Q'
noncomputable def aB (T:TTd):Prop := ∀ ρ M Q Q',(∀ d M',Q d M'->Q' d M')->T ρ M Q->T ρ M Q'
noncomputable def bj (T:TAd):Prop := ∀ ρ M Q Q',(∀ d M',Q d M'->Q' d M')->T ρ M Q->T ρ M Q'
structure LeD (a b:bu):Prop where
 nx:∀ ρ M,a.nx ρ M->b.nx ρ M
 rt:∀ d M,a.rt d M->b.rt d M
 bk:∀ ρ M,a.bk ρ M->b.bk ρ M
 ct:∀ ρ M,a.ct ρ M->b.ct ρ M
noncomputable def aC (T:TSd):Prop := ∀ a b ρ M,LeD a b->T a ρ M->T b ρ M
noncomputable def KE' (K:Frag) (M:Mem) (H:Hp) (Q:VK):QD:=fun d M' => ∀ v H',Ext M H M' H'->RM K M' H'->RD K H' d v->Q v H'
noncomputable def KT' (K:Frag) (M:Mem) (H:Hp) (Q:Bool->Hp->Prop):Bool->Mem->Prop:=fun b M' => ∀ H',Ext M H M' H'->RM K M' H'->Q b H'
noncomputable def KA' (K:Frag) (M:Mem) (H:Hp) (Q:List V->Hp->Prop):List D->Mem->Prop:=fun ds M' => ∀ vs H',Ext M H M' H'->RM K M' H'->RDs K H' ds vs->Q vs H'
noncomputable def lE (K:Frag) (T:TEd):TE:=fun σ H Q => ∃ ρ M,RS K H σ ρ /\ RM K M H/\T ρ M (KE' K M H Q)
noncomputable def lT (K:Frag) (T:TTd):TT:=fun σ H Q => ∃ ρ M,RS K H σ ρ /\ RM K M H/\T ρ M (KT' K M H Q)
noncomputable def lA (K:Frag) (T:TAd):TA:=fun σ H Q => ∃ ρ M,RS K H σ ρ /\ RM K M H/\T ρ M (KA' K M H Q)
structure Link (K:Frag) (M:Mem) (H:Hp) (a:bu) (b:bC):Prop where
 nx:∀ ρ M' σ H',Ext M H M' H'->RS K H' σ ρ -> RM K M' H'->a.nx ρ M'->b.nx σ H'
 rt:∀ d M' v H',Ext M H M' H'->RM K M' H'->RD K H' d v->a.rt d M'->b.rt v H'
 bk:∀ ρ M' σ H',Ext M H M' H'->RS K H' σ ρ -> RM K M' H'->a.bk ρ M'->b.bk σ H'
 ct:∀ ρ M' σ H',Ext M H M' H'->RS K H' σ ρ -> RM K M' H'->a.ct ρ M'->b.ct σ H'
noncomputable def lS (K:Frag) (T:TSd):TS:=fun D σ H => ∃ ρ M A,RS K H σ ρ /\ RM K M H/\Link K M H A D/\T A ρ M
theorem Link.ext {K:Frag} {M M':Mem} {H H':Hp} {a:bu} {b:bC} (l:Link K M H a b) (x:Ext M H M' H'):Link K M' H' a b :=
 ⟨fun ρ M2 σ H2 y=>l.nx ρ M2 σ H2 (x.trans y),fun d M2 v H2 y=>l.rt d M2 v H2 (x.trans y),fun ρ M2 σ H2 y=>l.bk ρ M2 σ H2 (x.trans y),fun ρ M2 σ H2 y=>l.ct ρ M2 σ H2 (x.trans y)⟩
theorem PE.imp {X:Cx} {e:Expr} {t t':TE} (h:PE X e t) (i:∀ σ H Q,t' σ H Q->t σ H Q):PE X e t':=fun pins s σ H Q I q=>h pins s σ H Q I (i _ _ _ q)
theorem PT.imp {X:Cx} {e:Expr} {t t':TT} (h:PT X e t) (i:∀ σ H Q,t' σ H Q->t σ H Q):PT X e t':=fun pins s σ H Q I q=>h pins s σ H Q I (i _ _ _ q)
theorem PW.imp {X:Cx} {e:Expr} {t t':TT} (h:PW X e t) (i:∀ σ H Q,t' σ H Q->t σ H Q):PW X e t':=fun wh pins s σ H Q I q=>h wh pins s σ H Q I (i _ _ _ q)
theorem PA.imp {X:Cx} {e:List Expr} {t t':TA} (h:PA X e t) (i:∀ σ H Q,t' σ H Q->t σ H Q):PA X e t':=fun p pins s σ H Q I q=>h p pins s σ H Q I (i _ _ _ q)
theorem PS.imp {X:Cx} {e:Stmt} {t t':TS} (h:PS X e t) (i:∀ D σ H,t' D σ H->t D σ H):PS X e t':=fun pins s σ H D I q=>h pins s σ H D I (i _ _ _ q)
theorem PSs.imp {X:Cx} {e:List Stmt} {t t':TS} (h:PSs X e t) (i:∀ D σ H,t' D σ H->t D σ H):PSs X e t':=fun pins s σ H D I q=>h pins s σ H D I (i _ _ _ q)
end
section
theorem KE'.ext {K:Frag} {M M2 M':Mem} {H H2:Hp} {Q:VK} {d:D} (x:Ext M H M2 H2) (h:KE' K M H Q d M'):KE' K M2 H2 Q d M':=fun v H' y=>h v H' (x.trans y)
theorem KT'.ext {K:Frag} {M M2 M':Mem} {H H2:Hp} {Q:Bool->Hp->Prop} {d:Bool} (x:Ext M H M2 H2) (h:KT' K M H Q d M'):KT' K M2 H2 Q d M':=fun H' y=>h H' (x.trans y)
noncomputable abbrev R2d:=D->D->Mem->QD->Prop
noncomputable abbrev R1d:=D->Mem->QD->Prop
noncomputable abbrev RAd:=List D->Mem->QD->Prop
noncomputable def aI (r:R2d):Prop := ∀ x y M Q Q',(∀ d M',Q d M'->Q' d M')->r x y M Q->r x y M Q'
noncomputable def qj (r:R1d):Prop := ∀ x M Q Q',(∀ d M',Q d M'->Q' d M')->r x M Q->r x M Q'
noncomputable def aY (r:RAd):Prop := ∀ x M Q Q',(∀ d M',Q d M'->Q' d M')->r x M Q->r x M Q'
noncomputable def l2 (K:Frag) (rd:R2d):R2:=fun v u H Q => ∃ x y M,RM K M H/\RD K H x v/\RD K H y u/\rd x y M (KE' K M H Q)
noncomputable def l1 (K:Frag) (rd:R1d):V->Hp->VK->Prop:=fun v H Q => ∃ x M,RM K M H/\RD K H x v/\rd x M (KE' K M H Q)
noncomputable def lR (K:Frag) (rd:RAd):List V->Hp->VK->Prop:=fun vs H Q => ∃ ds M,RM K M H/\RDs K H ds vs/\rd ds M (KE' K M H Q)
noncomputable def lMt (K:Frag) (rd:D->List D->Mem->QD->Prop):V->List V->Hp->VK->Prop:=fun v vs H Q => ∃ x ds M,RM K M H/\RD K H x v/\RDs K H ds vs/\rd x ds M (KE' K M H Q)
noncomputable def bS (i:Nat):TEd:=fun ρ M Q => ∃ d, ρ[i]? = some (some d)/\Q d M
noncomputable def wC (d:D):TEd:=fun _ M Q=>Q d M
noncomputable def wOp (rd:R2d) (ta tb:TEd):TEd:=fun ρ M Q=>ta ρ M fun x M1=>tb ρ M1 fun y M2=>rd x y M2 Q
noncomputable def wUn (rd:R1d) (ta:TEd):TEd:=fun ρ M Q=>ta ρ M fun x M1=>rd x M1 Q
noncomputable def bn:TAd:=fun _ M Q=>Q [] M
noncomputable def az (ta:TEd) (tr:TAd):TAd:=fun ρ M Q=>ta ρ M fun x M1=>tr ρ M1 fun xs M2=>Q (x::xs) M2
noncomputable def wAr (rd:RAd) (t:TAd):TEd:=fun ρ M Q=>t ρ M fun ds M1=>rd ds M1 Q
theorem vh {i:Nat}:aa (bS i):=fun _ _ _ _ h ⟨d,e,q⟩=>⟨d,e,h _ _ q⟩
theorem ip {d:D}:aa (wC d):=fun _ _ _ _ h q=>h _ _ q
theorem dZ {rd:R2d} {ta tb:TEd} (j:aI rd) (ha:aa ta) (hb:aa tb):aa (wOp rd ta tb):=fun ρ M Q Q' h q =>
 ha _ _ _ _ (fun x B n=>hb _ _ _ _ (fun y M2 z=>j _ _ _ _ _ h z) n) q
theorem yk {rd:R1d} {ta:TEd} (j:qj rd) (ha:aa ta):aa (wUn rd ta):=fun ρ M Q Q' h q=>ha _ _ _ _ (fun x z n=>j _ _ _ _ h n) q
theorem am:bj bn:=fun _ _ _ _ h q=>h _ _ q
theorem al {ta:TEd} {tr:TAd} (ha:aa ta) (j:bj tr):bj (az ta tr):=fun ρ M Q Q' h q =>
 ha _ _ _ _ (fun x B n=>j _ _ _ _ (fun xs M2 z=>h _ _ z) n) q
theorem fU {rd:RAd} {t:TAd} (j:aY rd) (n:bj t):aa (wAr rd t):=fun ρ M Q Q' h q=>n _ _ _ _ (fun ds B z=>j _ _ _ _ h z) q
section
variable {X:Cx} {a b:Expr} {ta tb:TEd} {pos:Pos}
theorem AF {i:Nat} {x:Str} (z:X.N[i]? = some x) (j:Vis X.env.scope x) (hd:(x==("__debug__":Str))=false) (n:(x==("__classdict__":Str))=false):PE X (.Name x pos) (lE X.K (bS i)):=by
 refine PE.imp (zZ z j hd n) fun σ H Q h => ?_
 obtain ⟨ρ,M,rs,rm,d,e,q⟩:=h
 obtain ⟨v,j,rd⟩:=rs.2 i d e
 exact ⟨v,j,q v H Ext.refl rm rd⟩
theorem AG {i:Int} {j:Nat}:PE X (.Constant (.int i) j pos) (lE X.K (wC (.int i))) :=
 PE.imp A3 fun σ H Q ⟨ρ,M,rs,rm,q⟩=>q _ H Ext.refl rm (RD.int_iff.mpr rfl)
theorem C3 {i:Bool} {j:Nat}:PE X (.Constant (.bool i) j pos) (lE X.K (wC (.bl i))) :=
 PE.imp BH fun σ H Q ⟨ρ,M,rs,rm,q⟩=>q _ H Ext.refl rm (RD.bl_iff.mpr rfl)
theorem AH {j:Nat}:PE X (.Constant .none j pos) (lE X.K (wC .non)) :=
 PE.imp A4 fun σ H Q ⟨ρ,M,rs,rm,q⟩=>q _ H Ext.refl rm (RD.non_iff.mpr rfl)
theorem fV {K:Frag} {rd:R2d} (I:aI rd) (ma:aa ta) (mb:aa tb) (σ:St) (H:Hp) (Q:VK) (h:lE K (wOp rd ta tb) σ H Q):tOp (l2 K rd) (lE K ta) (lE K tb) σ H Q:=by
 obtain ⟨ρ,M,rs,rm,q⟩:=h
 refine ⟨ρ,M,rs,rm,ma _ _ _ _ (fun x J L v H1 F j n => ?_) q⟩
 refine ⟨ρ,J,rs.mono (F.stab rm),j,mb _ _ _ _ (fun y M2 O u H2 G z B => ?_) L⟩
 exact ⟨x,y,M2,z,n.mono (G.stab j),B,I _ _ _ _ _ (fun d M' k=>k.ext (F.trans G)) O⟩
theorem C4 {op:Operator} {rd:R2d} (ho:OpR X (binaryOp op) (l2 X.K rd)) (j:aI rd) (ma:aa ta) (mb:aa tb) (ha:PE X a (lE X.K ta)) (hb:PE X b (lE X.K tb)):PE X (.BinOp a op b pos) (lE X.K (wOp rd ta tb)) :=
 PE.imp (BQ ho ha hb) (fV j ma mb)
theorem AI {op:CmpOp} {rd:R2d} (ho:OpR X (compareOp op) (l2 X.K rd)) (j:aI rd) (ma:aa ta) (mb:aa tb) (ha:PE X a (lE X.K ta)) (hb:PE X b (lE X.K tb)) (hm:behindInMarks op b=false) :
 PE X (.Compare a [op] [b] pos) (lE X.K (wOp rd ta tb)):=PE.imp (y8 ho ha hb hm) (fV j ma mb)
noncomputable def gF (t:TEd):TTd:=fun ρ M Q=>t ρ M fun x M1 => ∃ k,x = .bl k/\Q k M1
theorem vj {t:TEd} (h:aa t):aB (gF t):=fun ρ M Q Q' i q=>h _ _ _ _ (fun x n ⟨k,e,j⟩=>⟨k,e,i _ _ j⟩) q
theorem vk {K:Frag} {t:TEd} (m:aa t) (σ:St) (H:Hp) (Q:Bool->Hp->Prop) (h:lT K (gF t) σ H Q):xk (lE K t) σ H Q:=by
 obtain ⟨ρ,M,rs,rm,q⟩:=h
 refine ⟨ρ,M,rs,rm,m _ _ _ _ (fun x F ⟨k,e,z⟩ v H1 B j n => ?_) q⟩
 subst e
 exact ⟨k,RD.bl_iff.mp n,z H1 B j⟩
theorem AJ {op:CmpOp} {rd:R2d} (ho:OpR X (compareOp op) (l2 X.K rd)) (j:aI rd) (ma:aa ta) (mb:aa tb) (ha:PE X a (lE X.K ta)) (hb:PE X b (lE X.K tb)) (hm:behindInMarks op b=false) :
 PT X (.Compare a [op] [b] pos) (lT X.K (gF (wOp rd ta tb))) :=
 PT.imp (y9 ho ha hb hm) fun σ H Q h=>by
  have h1:=vk (dZ j ma mb) σ H Q h
  exact fV j ma mb σ H _ h1
theorem C5 {op:UnaryOp} {rd:R1d} (ho:UnR X (unaryOp op) (l1 X.K rd)) (z:qj rd) (ma:aa ta) (ha:PE X a (lE X.K ta)):PE X (.UnaryOp op a pos) (lE X.K (wUn rd ta)) :=
 PE.imp (BR ho ha) fun σ H Q ⟨ρ,M,rs,rm,q⟩=>⟨ρ,M,rs,rm,ma _ _ _ _ (fun x B F v H1 G j n=>⟨x,B,j,n,z _ _ _ _ (fun d M' k=>k.ext G) F⟩) q⟩
theorem C6 {rd:R2d} (ho:IxR X (l2 X.K rd)) (j:aI rd) (ma:aa ta) (mb:aa tb) (ha:PE X a (lE X.K ta)) (hb:PE X b (lE X.K tb)) (hs:jf b):PE X (.Subscript a b pos) (lE X.K (wOp rd ta tb)) :=
 PE.imp (BY ho ha hb hs) (fV j ma mb)
theorem cM:PA X [] (lA X.K bn):=PA.imp i7 fun σ H Q ⟨ρ,M,rs,rm,q⟩=>q _ H Ext.refl rm RDs.nil
theorem sx {K:Frag} {tr:TAd} (ma:aa ta) (mr:bj tr) (σ:St) (H:Hp) (Q:List V->Hp->Prop) (h:lA K (az ta tr) σ H Q):xl (lE K ta) (lA K tr) σ H Q:=by
 obtain ⟨ρ,M,rs,rm,q⟩:=h
 refine ⟨ρ,M,rs,rm,ma _ _ _ _ (fun x I J v H1 F j n => ?_) q⟩
 refine ⟨ρ,I,rs.mono (F.stab rm),j,mr _ _ _ _ (fun xs M2 L vs H2 G z B => ?_) J⟩
 exact L (v::vs) H2 (F.trans G) z (RDs.cons (n.mono (G.stab j)) B)
theorem bc {e:Expr} {es:List Expr} {tr:TAd} (ma:aa ta) (mr:bj tr) (ha:PE X e (lE X.K ta)) (j:PA X es (lA X.K tr)) (hs:starEach (e::es) X.env=(false,eval e X.env)::starEach es X.env) :
 PA X (e::es) (lA X.K (az ta tr)):=PA.imp (cA ha j hs) (sx ma mr)
theorem bM {K:Frag} {rd:RAd} {t:TAd} (z:aY rd) (mt:bj t) (σ:St) (H:Hp) (Q:VK) (h:lE K (wAr rd t) σ H Q):tCB (lR K rd) (lA K t) σ H Q:=by
 obtain ⟨ρ,M,rs,rm,q⟩:=h
 exact ⟨ρ,M,rs,rm,mt _ _ _ _ (fun ds B F vs H1 G j n=>⟨ds,B,j,n,z _ _ _ _ (fun d M' k=>k.ext G) F⟩) q⟩
noncomputable def lH:RAd:=fun ds M Q=>ds.length<=sizeLine/\Q (.tup ds) M
noncomputable def lJ:RAd:=fun ds M Q=>ds.length<=sizeLine /\ ∀ p,M p=none->Q (.ref p) (ag M p (.lst ds))
theorem sy:aY lH:=fun _ _ _ _ h ⟨z,q⟩=>⟨z,h _ _ q⟩
theorem sB:aY lJ:=fun _ _ _ _ h ⟨z,q⟩=>⟨z,fun p n=>h _ _ (q p n)⟩
theorem dk {K:Frag} {M:Mem} {H:Hp} {Q:VK} {ds:List D} {vs:List V} {p:Addr} (rm:RM K M H) (rd:RDs K H ds vs) (q:KE' K M H Q (.tup ds) M) (n:H p=none):Q (.ref p) (upd H p (.tup vs)):=by
 have x:Ext M H M (upd H p (.tup vs)):=Ext.new' n
 exact q (.ref p) _ x (rm.new n) (RD.tup_mk ⟨p,vs,rfl,aw,rd.mono (x.stab rm)⟩)
theorem cB {K:Frag} {M:Mem} {H:Hp} {Q:VK} {ds:List D} {vs:List V} {p:Addr} (rm:RM K M H) (rd:RDs K H ds vs) (q:∀ p,M p=none->KE' K M H Q (.ref p) (ag M p (.lst ds))) (n:H p=none):Q (.ref p) (upd H p (.lst vs)):=by
 have x:Ext M H (ag M p (.lst ds)) (upd H p (.lst vs)):=Ext.lay n
 have x0:Ext M H M (upd H p (.lst vs)):=Ext.new' n
 exact q p (rm.out n) (.ref p) _ x (rm.lay n ⟨vs,aw,rd.mono (x0.stab rm)⟩) (RD.ref_iff.mpr rfl)
theorem AK {es:List Expr} {t:TAd} {k:Nat} (mt:bj t) (h:PA X es (lA X.K t)):PE X (.Tuple es k pos) (lE X.K (wAr lH t)) :=
 PE.imp (rX h) fun σ H Q ⟨ρ,M,rs,rm,q⟩=>⟨ρ,M,rs,rm,mt _ _ _ _ (fun ds I ⟨z,F⟩ vs H1 G B j=>⟨by rw [j.length];exact z,fun p n=>dk B j (F.ext G) n⟩) q⟩
theorem AL {es:List Expr} {t:TAd} (mt:bj t) (h:PA X es (lA X.K t)):PE X (.List es pos) (lE X.K (wAr lJ t)) :=
 PE.imp (As h) fun σ H Q ⟨ρ,M,rs,rm,q⟩=>⟨ρ,M,rs,rm,mt _ _ _ _ (fun ds I ⟨z,F⟩ vs H1 G B j=>⟨by rw [j.length];exact z,fun p n=>cB B j (fun p' n'=>(F p' n').ext G) n⟩) q⟩
end
end
end Mi
end L2
namespace L2
open PySem PySem.Spec PyProof.Rows
namespace Mi
end Mi
end L2
namespace L2
open PySem PySem.Spec PyProof.Rows
section
theorem gG:fillsNumberSlot (.type "tuple") "mul" = pure false :=
 PyProof.Rows.fillsNumberSlot_seq (id := "tuple.__mul__") (r:=some (.builtin "tuple.__rmul__")) F.slot_tuple_mul.lookup (by decide +kernel) F.slot_tuple_rmul.lookup (by decide +kernel)
theorem lK:seqRepeat? (.type "tuple")=pure (some (.builtin "tuple.__mul__")):=by
 unfold seqRepeat?
 rw [PyProof.Rows.seqSlot_of (T := "tuple") (name := "__mul__") (id := "tuple.__mul__") F.slot_tuple_mul.lookup (by decide +kernel),PyProof.Rows.seqSlot_of (T := "tuple") (name := "__rmul__") (id := "tuple.__rmul__") F.slot_tuple_rmul.lookup (by decide +kernel)]
 rfl
theorem jn (a:Int) (t:Tok) (l:Addr) (items:Array Value) (n:Nat) (d:Option Addr) (sl:Array (Option Value)) :
 Meets (Builtin.«int.__rmul__» ⟨[.int a t, .ref l],[]⟩) (fun _ R s=>s.heap.get? l=some { cls := .type "tuple",dict:=d,data := .seq items n,slots:=sl }/\R (.ok (.ret Value.notImplemented)) s) :=
 .of_wp fun prog w A R s h=>by obtain ⟨hp,g,d,tk,os⟩:=s;obtain ⟨j,h⟩:=h;wp_walk;exact ⟨_,rfl,h⟩
open AutoSeq1 (wpAny_loadPart') in
theorem sC (l:Addr) (items:Array Value) (n:Nat) (dd:Option Addr) (sl:Array (Option Value)) (x:Int) (u:Tok) (h1 : -(2 ^ 63)<=x) (h2:x < 2 ^ 63) (hz:items.size*x.toNat<=sizeLine) :
 Meets (Builtin.«tuple.__mul__» ⟨[.ref l, .int x u],[]⟩) (fun _ R s=>s.heap.get? l=some { cls := .type "tuple",dict:=dd,data := .seq items n,slots:=sl } /\
  (if items.isEmpty || x==1 then R (.ok (.ret (.ref l))) s else R (.ok (.ret (.ref s.heap.objs.size))) { s with heap:=s.heap.push { cls := .type "tuple",data := .seq ((List.replicate x.toNat items).foldl (· ++ ·) #[]) } })) :=
 .of_wp fun prog w A R s h=>by
  obtain ⟨hp,g,d,tk,os⟩:=s;obtain ⟨j,h⟩:=h
  have f1:=AutoSeq1.idx_int
  have z:(decide (x < -(2 ^ 63)) || decide (x≥2 ^ 63))=false:=by
   rw [decide_eq_false (by lia),decide_eq_false (by lia)];rfl
  wp_walk using wpAny_loadPart' j
  refine wpAny_ite_false (decide_eq_false (by rw [z];decide)) ?_
  dsimp only
  by_cases e1:(items.isEmpty || x==1)=true
  ·rw [if_pos e1] at h
   wp_walk using wpAny_loadPart' j
   exact ⟨_,rfl,h⟩
  ·rw [if_neg e1] at h
   wp_walk using wpAny_loadPart' j
   simp only [Bool.or_eq_true,not_or] at e1
   by_cases e2:x<=0
   ·have q:(decide (x<=0) || items.isEmpty)=true:=by rw [decide_eq_true e2];rfl
    rw [if_pos q]
    have B:x.toNat=0:=by lia
    rw [B] at h
    wp_walk
    exact ⟨_,rfl,h⟩
   ·have q : ¬ (decide (x<=0) || items.isEmpty)=true:=by simp;exact ⟨by lia,by simpa using e1.1⟩
    rw [if_neg q]
    have hx:((items.size:Nat):Int)*x=((items.size*x.toNat:Nat):Int):=by
     rw [Int.natCast_mul,Int.toNat_of_nonneg (by lia)]
    have hs:sizeLine=16777216:=sizeLine_eq
    have F : ¬ ((items.size:Nat):Int)*x > (2 ^ 63 - 1) / 8:=by rw [hx];lia
    rw [if_neg F]
    have G : ¬ Builtin.Tuple.tupleTooMany (((items.size:Nat):Int)*x)=true:=by
     rw [hx];unfold Builtin.Tuple.tupleTooMany
     intro I;have J:=of_decide_eq_true I;lia
    rw [if_neg G]
    wp_walk
    have hsz:((List.replicate x.toNat items).foldl (· ++ ·) #[]).size<=sizeLine:=by
     have:∀ (k:Nat) (a:Array Value),((List.replicate k items).foldl (· ++ ·) a).size=a.size+items.size*k:=by
      intro k;induction k with
      | zero=>intro a;simp
      | succ k ih=>intro a;rw [List.replicate_succ,List.foldl_cons,ih,Array.size_append,Nat.mul_succ];lia
     rw [this];simpa using hz
    refine wpAny_ite_false (decide_eq_false (Nat.not_lt.mpr hsz)) ?_
    wp_walk
    exact ⟨_,rfl,h⟩
end
section
section
variable {X:Cx}
noncomputable def xx (K:Frag):R2:=fun x y H Q => ∃ l k xs,x = .ref l/\y = .int k/\SqT K H l xs /\ -(2 ^ 63)<=k/\k < 2 ^ 63/\xs.length*k.toNat<=sizeLine /\
 ((xs=[]∨k=1)->Q (.ref l) H)/\(¬ (xs=[]∨k=1) -> ∀ p,H p=none->Q (.ref p) (upd H p (.tup (List.replicate k.toNat xs).flatten)))
theorem ym:OpR X (binaryOp .Mult) (xx X.K):=by
 intro pins s σ H x y v u Q I rx ry h
 obtain ⟨l,k,xs,rfl,rfl,j,h1,h2,hz,B,G⟩:=h
 cases rx
 obtain ⟨t,rfl⟩:=ry
 obtain ⟨its,r,J,_⟩:=I.tuple j
 have L:=r.length
 obtain ⟨⟨cls,dd,dat,sl⟩,e,hc,n,hd⟩:=J
 dsimp only at hc hd
 subst hc hd
 have hlen:its.toArray.size*k.toNat<=sizeLine:=by rw [List.size_toArray, <- L];exact hz
 have f0:∀ m:Nat,List.foldl (fun O R=>O++R) #[] (List.replicate m its.toArray)=(List.replicate m its).flatten.toArray:=fun m=>by
  have:=fj its m []
  rw [List.nil_append] at this
  exact this
 refine wpAny_binaryOp_repeat_ref (T := "tuple") (U := "int") (by decide) ⟨_,e,rfl⟩ (fun s'=>typeIs_int s' k t) gG F.fills_int_mul F.slot_int_rmul lK F.slot_int_index.lookup
  (call_meets F.slot_int_rmul (typeIs_int s k t) F.entry_int_rmul (F.args_int_rmul_2 _ _) (jn k t l its.toArray n dd sl)
    ⟨e,rfl,⟨_,e,rfl⟩,call_meets F.slot_tuple_mul ⟨_,e,rfl⟩ F.entry_tuple_mul (F.args_tuple_mul_2 _ _) (sC l its.toArray n dd sl k t h1 h2 hlen) ⟨e, ?_⟩⟩)
 have hi:(its.toArray.isEmpty || k==1)=true↔(xs=[]∨k=1):=by
  rw [<- r.nil_iff];simp
 split
 ·next c=>exact ⟨.ref l,H,I,rfl,B (hi.mp c)⟩
 ·next c =>
  rw [f0]
  refine ⟨.ref s.heap.objs.size,_,I.laid (t':=s.toks) (o := .tup (List.replicate k.toNat xs).flatten) (fun b ob q=>Heap.get?_push_of_some _ q) (Nat.le_refl _) ?_,rfl,G (fun z=>c (hi.mpr z)) _ (I.hok.fresh (Nat.le_refl _))⟩
  exact ⟨by rw [oC,Nat.mul_comm];exact hz,_,r.rep k.toNat,IsTup.new _ _⟩
end
end
section
section
variable {X:Cx}
theorem yn:OpR X (binaryOp .Add) (fun x y H Q => ∃ a b ys,x = .ref a/\y = .ref b/\SqT X.K H a []/\SqT X.K H b ys/\Q (.ref b) H):=by
 intro pins s σ H x y v u Q I rx ry h
 obtain ⟨a,b,ys,rfl,rfl,ha,hb,q⟩:=h
 cases rx
 cases ry
 obtain ⟨its,O,R,_⟩:=I.tuple ha
 obtain ⟨j,U,p2,_⟩:=I.tuple hb
 have e0:its=[]:=O.nil_iff.mpr rfl
 obtain ⟨⟨cls,dd,data,sl⟩,ho,hc,n,hd⟩:=id R
 obtain ⟨⟨L,G,data2,J⟩,z,B,S,hd2⟩:=id p2
 simp only at hc hd B hd2
 subst hc hd B hd2
 exact concat_meets ⟨_,ho,rfl⟩ ⟨_,z,rfl⟩ noFill_tuple_add seq_tuple_add PySem.F.slot_tuple_add PySem.F.entry_tuple_add (PySem.F.args_tuple_add_2 _ _)
  (tuple_addW0 a b its.toArray j.toArray n S dd G sl J (by simp [e0])) ⟨ho,z,⟨.ref b,H,I,rfl,q⟩⟩
end
end
end L2
namespace L2
namespace Mi
open PySem PySem.Spec PyProof.Rows
section
noncomputable def MulOk (i j:Int):Prop:=(-(2 ^ 64) < i/\i < 2 ^ 64)∨(-(2 ^ 64) < j/\j < 2 ^ 64)∨(Builtin.Int.intBits i<=2 ^ 20/\Builtin.Int.intBits j<=2 ^ 20)
theorem MulOk.ok {i j:Int} (h:MulOk i j):IntMulOk i j:=by
 rcases h with h | h | h
 ·exact IntMulOk.of_left (intBits_le_64 h.1 h.2)
 ·exact IntMulOk.of_right (intBits_le_64 h.1 h.2)
 ·exact IntMulOk.of_bits h.1 h.2
noncomputable def gH:R2d
 | .int i, .int j,M,Q=>Q (.int (i+j)) M
 | .tup a, .tup b,M,Q=>(a≠[]∨True)/\a.length+b.length<=sizeLine/\Q (.tup (a++b)) M
 | .ref a, .ref b,M,Q => ∃ xs ys,M a=some (.lst xs)/\M b=some (.lst ys)/\xs.length+ys.length<=sizeLine /\ ∀ p,M p=none->Q (.ref p) (ag M p (.lst (xs++ys)))
 | .str x, .str y,M,Q=>x.length+y.length<=sizeLine/\Q (.str (x++y)) M
 | _,_,_,_=>False
noncomputable def jo:R2d
 | .int i, .int j,M,Q=>Q (.int (i - j)) M
 | _,_,_,_=>False
noncomputable def gI:R2d
 | .int i, .int j,M,Q=>MulOk i j/\Q (.int (i*j)) M
 | .ref a, .int k,M,Q => ∃ xs,M a=some (.lst xs) /\ -(2 ^ 63)<=k/\k < 2 ^ 63/\xs.length*k.toNat<=sizeLine /\ ∀ p,M p=none->Q (.ref p) (ag M p (.lst (List.replicate k.toNat xs).flatten))
 | .tup ds, .int k,M,Q => -(2 ^ 63)<=k/\k < 2 ^ 63/\ds.length*k.toNat<=sizeLine/\Q (.tup (List.replicate k.toNat ds).flatten) M
 | _,_,_,_=>False
noncomputable def kS:R2d
 | .int i, .int j,M,Q => 0 < j/\j < 2 ^ 256/\Q (.int (i / j)) M
 | _,_,_,_=>False
noncomputable def qk:R2d
 | .int i, .int j,M,Q => 0 < j/\Q (.int (i % j)) M
 | _,_,_,_=>False
noncomputable def ql:R2d
 | .int i, .int j,M,Q => 0<=j/\j<=1000000/\i.natAbs < 2 ^ 64/\Q (.int (i ^ j.toNat)) M
 | _,_,_,_=>False
theorem vm:aI gH:=by
 intro x y M Q Q' h q
 cases x <;> cases y <;> first
  | exact q.elim
  | exact h _ _ q
  | exact ⟨q.1,h _ _ q.2⟩
  | exact ⟨q.1,q.2.1,h _ _ q.2.2⟩
  | (obtain ⟨xs,ys,e1,e2,z,q⟩:=q;exact ⟨xs,ys,e1,e2,z,fun p n=>h _ _ (q p n)⟩)
theorem vp:aI jo:=by
 intro x y M Q Q' h q
 cases x <;> cases y <;> first | exact q.elim | exact h _ _ q
theorem vq:aI gI:=by
 intro x y M Q Q' h q
 cases x <;> cases y <;> first
  | exact q.elim
  | exact ⟨q.1,h _ _ q.2⟩
  | exact ⟨q.1,q.2.1,q.2.2.1,h _ _ q.2.2.2⟩
  | (obtain ⟨xs,e1,j,z,B,q⟩:=q;exact ⟨xs,e1,j,z,B,fun p n=>h _ _ (q p n)⟩)
theorem sD:aI kS:=by
 intro x y M Q Q' h q
 cases x <;> cases y <;> first | exact q.elim | exact ⟨q.1,q.2.1,h _ _ q.2.2⟩
theorem vt:aI qk:=by
 intro x y M Q Q' h q
 cases x <;> cases y <;> first | exact q.elim | exact ⟨q.1,h _ _ q.2⟩
theorem vw:aI ql:=by
 intro x y M Q Q' h q
 cases x <;> cases y <;> first | exact q.elim | exact ⟨q.1,q.2.1,q.2.2.1,h _ _ q.2.2.2⟩
section
variable {X:Cx}
theorem OpR.of {f:Value->Value->Sem Value} {r r':R2} (h:OpR X f r) (i:∀ v u H Q,r' v u H Q->r v u H Q):OpR X f r':=fun pins s σ H x y v u Q I rx ry q=>h pins s σ H x y v u Q I rx ry (i _ _ _ _ q)
theorem IxR.of {r r':R2} (h:IxR X r) (i:∀ v u H Q,r' v u H Q->r v u H Q):IxR X r':=fun a b pins s σ H x y v u Q I rx ry q=>h a b pins s σ H x y v u Q I rx ry (i _ _ _ _ q)
theorem CallR.of {f:Value} {r r':List V->Hp->VK->Prop} (h:CallR X f r) (i:∀ vs H Q,r' vs H Q->r vs H Q):CallR X f r':=fun pins s σ H xs us Q I rx q=>h pins s σ H xs us Q I rx (i _ _ _ q)
theorem C7 {K:Frag} {M:Mem} {H:Hp} {Q:VK} {a b:List D} {v u:V} (rm:RM K M H) (rx:RD K H (.tup a) v) (ry:RD K H (.tup b) u) (q:gH (.tup a) (.tup b) M (KE' K M H Q)):xo K v u H Q ∨ ∃ a b ys,v = .ref a/\u = .ref b/\SqT K H a []/\SqT K H b ys/\Q (.ref b) H:=by
 obtain ⟨a',vs,rfl,ha,j⟩:=RD.tupS rx
 obtain ⟨b',us,rfl,hb,z⟩:=RD.tupS ry
 obtain ⟨_,F,q⟩:=q
 have l1:=j.length
 have l2:=z.length
 by_cases B:a=[]
 ·subst B
  have:vs=[]:=RDs.nil_iff.mp j
  subst this
  exact .inr ⟨a',b',us,rfl,rfl,ha,hb,q _ H Ext.refl rm ry⟩
 refine .inl ⟨a',b',vs,us,rfl,rfl,ha,hb,fun e=>B (List.length_eq_zero_iff.mp (by rw [<- l1,e];rfl)),by lia,fun e => ?_,fun _ p n=>dk rm (j.append z) q n⟩
 have eb:b=[]:=List.length_eq_zero_iff.mp (by rw [<- l2,e];rfl)
 subst eb
 rw [List.append_nil] at q
 exact q _ H Ext.refl rm rx
theorem vx:OpR X (binaryOp .Add) (l2 X.K gH):=by
 refine OpR.of (op_add.or ((op_catT.or yn).or (op_cat.or q9))) fun v u H Q h => ?_
 obtain ⟨x,y,M,rm,rx,ry,q⟩:=h
 cases x <;> cases y <;> first
  | exact q.elim
  | (cases RD.int_iff.mp rx;cases RD.int_iff.mp ry;exact .inl ⟨_,_,rfl,rfl,q _ H Ext.refl rm (RD.int_iff.mpr rfl)⟩)
  | exact .inr (.inl (C7 rm rx ry q))
  | (cases RD.ref_iff.mp rx;cases RD.ref_iff.mp ry
     obtain ⟨xs,ys,e1,e2,z,q⟩:=q
     obtain ⟨vs,h1,j⟩:=rm _ _ e1
     obtain ⟨us,h2,B⟩:=rm _ _ e2
     have l1:=j.length
     have l2:=B.length
     refine .inr (.inr (.inl ⟨_,_,vs,us,rfl,rfl,h1,h2,by lia,fun p n=>cB rm (j.append B) q n⟩)))
  | (cases RD.str_iff.mp rx;cases RD.str_iff.mp ry;exact .inr (.inr (.inr ⟨_,_,rfl,rfl,q.1,q.2 _ H Ext.refl rm (RD.str_iff.mpr rfl)⟩)))
theorem vy:OpR X (binaryOp .Sub) (l2 X.K jo):=by
 refine OpR.of Am fun v u H Q h => ?_
 obtain ⟨x,y,M,rm,rx,ry,q⟩:=h
 cases x <;> cases y <;> first
  | exact q.elim
  | (cases RD.int_iff.mp rx;cases RD.int_iff.mp ry;exact ⟨_,_,rfl,rfl,q _ H Ext.refl rm (RD.int_iff.mpr rfl)⟩)
theorem op_mul_i:OpR X (binaryOp .Mult) (rI MulOk fun i j => .int (i*j)):=opI fun _ _ _ _ _ _ _ hc q=>mul_int q hc.ok
theorem C8 {K:Frag} {M:Mem} {H:Hp} {Q:VK} {a:List D} {k:Int} {v u:V} (rm:RM K M H) (rx:RD K H (.tup a) v) (ry:RD K H (.int k) u) (q:gI (.tup a) (.int k) M (KE' K M H Q)):xx K v u H Q:=by
 obtain ⟨a',vs,rfl,ha,j⟩:=RD.tupS rx
 cases RD.int_iff.mp ry
 obtain ⟨z,B,F,q⟩:=q
 have l1:=j.length
 refine ⟨a',k,vs,rfl,rfl,ha,z,B,by rw [l1];exact F,fun e => ?_,fun _ p n=>dk rm (j.rep _) q n⟩
 have ea:(List.replicate k.toNat a).flatten=a:=by
  rcases e with e | e
  ·have:a=[]:=List.length_eq_zero_iff.mp (by rw [<- l1,e];rfl)
   subst this;simp
  ·subst e;simp
 rw [ea] at q
 exact q _ H Ext.refl rm rx
theorem vz:OpR X (binaryOp .Mult) (l2 X.K gI):=by
 refine OpR.of (op_mul_i.or (op_rep.or ym)) fun v u H Q h => ?_
 obtain ⟨x,y,M,rm,rx,ry,q⟩:=h
 cases x <;> cases y <;> first
  | exact q.elim
  | (cases RD.int_iff.mp rx;cases RD.int_iff.mp ry;exact .inl ⟨_,_,rfl,rfl,q.1,q.2 _ H Ext.refl rm (RD.int_iff.mpr rfl)⟩)
  | (cases RD.ref_iff.mp rx;cases RD.int_iff.mp ry
     obtain ⟨xs,e1,z,B,F,q⟩:=q
     obtain ⟨vs,h1,j⟩:=rm _ _ e1
     have l1:=j.length
     exact .inr (.inl ⟨_,_,vs,rfl,rfl,h1,z,B,by rw [l1];exact F,fun p n=>cB rm (j.rep _) q n⟩))
  | exact .inr (.inr (C8 rm rx ry q))
theorem vA:OpR X (binaryOp .FloorDiv) (rI (fun _ j => 0 < j/\j < 2 ^ 256) fun i j => .int (i / j)):=L2.opI fun i j _ _ _ _ _ hc q=>by
 have h1:(0:Int) < j:=hc.1
 have h2:j < 2 ^ 256:=hc.2
 have n:j.natAbs.log2 < 256:=(Nat.log2_lt (by lia)).mpr (by lia)
 exact floordiv_int (by lia) (by rw [Int.fdiv_eq_ediv_of_nonneg i (by lia)];exact q) (.inl (PyProof.noPylong_of_log2 (by lia)))
theorem sF:OpR X (binaryOp .FloorDiv) (l2 X.K kS):=by
 refine OpR.of vA fun v u H Q h => ?_
 obtain ⟨x,y,M,rm,rx,ry,q⟩:=h
 cases x <;> cases y <;> first
  | exact q.elim
  | (cases RD.int_iff.mp rx;cases RD.int_iff.mp ry;exact ⟨_,_,rfl,rfl,⟨q.1,q.2.1⟩,q.2.2 _ H Ext.refl rm (RD.int_iff.mpr rfl)⟩)
theorem vB:OpR X (binaryOp .Mod) (l2 X.K qk):=by
 refine OpR.of An fun v u H Q h => ?_
 obtain ⟨x,y,M,rm,rx,ry,q⟩:=h
 cases x <;> cases y <;> first
  | exact q.elim
  | (cases RD.int_iff.mp rx;cases RD.int_iff.mp ry;exact ⟨_,_,rfl,rfl,q.1,q.2 _ H Ext.refl rm (RD.int_iff.mpr rfl)⟩)
theorem vC:OpR X (binaryOp .Pow) (l2 X.K ql):=by
 refine OpR.of Ao fun v u H Q h => ?_
 obtain ⟨x,y,M,rm,rx,ry,q⟩:=h
 cases x <;> cases y <;> first
  | exact q.elim
  | (cases RD.int_iff.mp rx;cases RD.int_iff.mp ry;exact ⟨_,_,rfl,rfl,⟨q.1,q.2.1,q.2.2.1⟩,q.2.2.2 _ H Ext.refl rm (RD.int_iff.mpr rfl)⟩)
noncomputable def qm:R1d
 | .int i,M,Q=>Q (.int (-i)) M
 | _,_,_=>False
theorem lL:qj qm:=by
 intro x M Q Q' h q
 cases x <;> first | exact q.elim | exact h _ _ q
theorem UnR.of {f:Value->Sem Value} {r r':V->Hp->VK->Prop} (h:UnR X f r) (i:∀ v H Q,r' v H Q->r v H Q):UnR X f r':=fun pins s σ H x v Q I rx q=>h pins s σ H x v Q I rx (i _ _ _ q)
theorem vD:UnR X (unaryOp .USub) (l1 X.K qm):=by
 refine UnR.of Ap fun v H Q h => ?_
 obtain ⟨x,M,rm,rx,q⟩:=h
 cases x <;> first
  | exact q.elim
  | (cases RD.int_iff.mp rx;exact ⟨_,rfl,q _ H Ext.refl rm (RD.int_iff.mpr rfl)⟩)
noncomputable def aJ {α β:Type} (f : α -> Option β):List α -> Option (List β)
 | [] => some []
 | x::xs=>(f x).bind fun y=>(aJ f xs).map (y :: ·)
noncomputable def rb:Nat->Mem->D->Option PyData
 | _,_, .non=>some .none
 | _,_, .bl b=>some (.bool b)
 | _,_, .int i=>some (.int i)
 | _,_, .str x=>if PyData.strOk x=true then some (.str x) else none
 | n+1,M, .tup ds=>(aJ (rb n M) ds).map PyData.tuple
 | n+1,M, .con ds=>(aJ (rb n M) ds).map PyData.list
 | n+1,M, .ref a=>match M a with
   | some (.lst ds)=>(aJ (rb n M) ds).map PyData.list
   | _=>none
 | 0,_, .tup _=>none
 | 0,_, .con _=>none
 | 0,_, .ref _=>none
theorem de {n:Nat} {M:Mem} (ih:∀ d p,rb n M d=some p->p.depth<=n/\p.canLay0=true):∀ {ds:List D} {ps:List PyData},aJ (rb n M) ds=some ps->PyData.depthAll ps<=n/\PyData.canLayAll0 ps=true
 | [],ps,h=>by
  simp [aJ] at h;subst h
  exact ⟨Nat.zero_le _,rfl⟩
 | d::ds,ps,h=>by
   simp only [aJ] at h
   cases e1:rb n M d with
   | none=>rw [e1] at h;cases h
   | some p =>
     rw [e1] at h
     cases e2:aJ (rb n M) ds with
     | none=>simp [e2] at h
     | some qs =>
       simp [e2] at h
       subst h
       obtain ⟨a1,a2⟩:=ih d p e1
       obtain ⟨b1,b2⟩:=de ih e2
       refine ⟨?_, ?_⟩
       ·show max p.depth (PyData.depthAll qs)<=n
        lia
       ·show (p.canLay0&&PyData.canLayAll0 qs)=true
        rw [a2,b2];rfl
theorem ck {M:Mem}:∀ (n:Nat) (d:D) (p:PyData),rb n M d=some p->p.depth<=n/\p.canLay0=true
 | n, .non,p,h=>by simp [rb] at h;subst h;exact ⟨Nat.zero_le _,rfl⟩
 | n, .bl b,p,h=>by simp [rb] at h;subst h;exact ⟨Nat.zero_le _,rfl⟩
 | n, .int b,p,h=>by simp [rb] at h;subst h;exact ⟨Nat.zero_le _,rfl⟩
 | n, .str x,p,h=>by
   simp [rb] at h
   obtain ⟨h1,h2⟩:=h
   subst h2;exact ⟨Nat.zero_le _,h1⟩
 | 0, .tup _,p,h=>by simp [rb] at h
 | 0, .con _,p,h=>by simp [rb] at h
 | 0, .ref _,p,h=>by simp [rb] at h
 | n+1, .tup ds,p,h=>by
   simp only [rb] at h
   cases e:aJ (rb n M) ds with
   | none=>rw [e] at h;cases h
   | some ps =>
     rw [e] at h;cases h
     obtain ⟨a,b⟩:=de (ck n) e
     exact ⟨Nat.succ_le_succ a,b⟩
 | n+1, .con ds,p,h=>by
   simp only [rb] at h
   cases e:aJ (rb n M) ds with
   | none=>rw [e] at h;cases h
   | some ps =>
     rw [e] at h;cases h
     obtain ⟨a,b⟩:=de (ck n) e
     exact ⟨Nat.succ_le_succ a,b⟩
 | n+1, .ref a,p,h=>by
   simp only [rb] at h
   cases e0:M a with
   | none=>rw [e0] at h;cases h
   | some o =>
     rw [e0] at h
     cases o with
     | dct _ _=>cases h
     | fdc _=>cases h
     | lst ds =>
       simp only at h
       cases e:aJ (rb n M) ds with
       | none=>rw [e] at h;cases h
       | some ps =>
         rw [e] at h;cases h
         obtain ⟨a,b⟩:=de (ck n) e
         exact ⟨Nat.succ_le_succ a,b⟩
theorem df {K:Frag} {H:Hp} {n:Nat} {M:Mem} {h:Heap} (ih:∀ d p v u,rb n M d=some p->RD K H d v->RelV v u -> ∃ as,Reads h u p as) :
 ∀ {ds:List D} {ps:List PyData} {vs:List V} {us:List Value},aJ (rb n M) ds=some ps->RDs K H ds vs->Vals vs us -> ∃ as,ReadsAll h us ps as
 | [],ps,vs,us,hm,r,rv=>by
  simp [aJ] at hm;subst hm
  rw [RDs.nil_iff.mp r] at rv
  cases rv
  exact ⟨_, .nil⟩
 | d::ds,ps,vs,us,hm,r,rv=>by
   obtain ⟨v,vr,rfl,j,q⟩:=RDs.cons_iff.mp r
   cases rv with
   | cons z B =>
     simp only [aJ] at hm
     cases e1:rb n M d with
     | none=>rw [e1] at hm;cases hm
     | some p =>
       rw [e1] at hm
       cases e2:aJ (rb n M) ds with
       | none=>simp [e2] at hm
       | some qs =>
         simp [e2] at hm
         subst hm
         obtain ⟨as,ra⟩:=ih d p v _ e1 j z
         obtain ⟨bs,rbs⟩:=df ih e2 q B
         exact ⟨_, .cons ra rbs⟩
theorem bT {pins:List (Addr×Obj)} {σ:St} {H:Hp} {s:Shared} {M:Mem} (I:Inv X pins σ H s) (rm:RM X.K M H):∀ (n:Nat) (d:D) (p:PyData) (v:V) (u:Value),rb n M d=some p->RD X.K H d v->RelV v u -> ∃ as,Reads s.heap u p as
 | n, .non,p,v,u,h,r,q=>by simp [rb] at h;subst h;cases RD.non_iff.mp r;cases q;exact ⟨_, .none⟩
 | n, .bl b,p,v,u,h,r,q=>by simp [rb] at h;subst h;cases RD.bl_iff.mp r;cases q;exact ⟨_, .bool b⟩
 | n, .int b,p,v,u,h,r,q=>by simp [rb] at h;subst h;cases RD.int_iff.mp r;obtain ⟨t,rfl⟩:=q;exact ⟨_, .int b t⟩
 | n, .str x,p,v,u,h,r,q=>by
   simp [rb] at h
   obtain ⟨_,h2⟩:=h
   subst h2;cases RD.str_iff.mp r;obtain ⟨t,rfl⟩:=q;exact ⟨_, .str x t⟩
 | 0, .tup _,p,_,_,h,_,_=>by simp [rb] at h
 | 0, .con _,p,_,_,h,_,_=>by simp [rb] at h
 | 0, .ref _,p,_,_,h,_,_=>by simp [rb] at h
 | n+1, .tup ds,p,v,u,h,r,q=>by
   simp only [rb] at h
   cases e:aJ (rb n M) ds with
   | none=>rw [e] at h;cases h
   | some ps =>
     rw [e] at h;cases h
     obtain ⟨a,vs,rfl,ha,rs⟩:=RD.tupS r
     cases q
     obtain ⟨its,rv,⟨o,ho,hc,k,hd⟩,_⟩:=I.tuple ha
     obtain ⟨as,ra⟩:=df (bT I rm n) e rs rv
     exact ⟨_, .tuple ho hc hd (by simpa using ra)⟩
 | n+1, .con ds,p,v,u,h,r,q=>by
   simp only [rb] at h
   cases e:aJ (rb n M) ds with
   | none=>rw [e] at h;cases h
   | some ps =>
     rw [e] at h;cases h
     obtain ⟨a,vs,rfl,ha,rs⟩:=RD.con_iff.mp r
     cases q
     obtain ⟨its,rv,⟨o,k,ho,hc,_,hd⟩,_⟩:=I.list ha.sq
     obtain ⟨as,ra⟩:=df (bT I rm n) e rs rv
     exact ⟨_, .list ho hc hd (by simpa using ra)⟩
 | n+1, .ref a,p,v,u,h,r,q=>by
   simp only [rb] at h
   cases e0:M a with
   | none=>rw [e0] at h;cases h
   | some o =>
     rw [e0] at h
     cases o with
     | dct _ _=>cases h
     | fdc _=>cases h
     | lst ds =>
       simp only at h
       cases e:aJ (rb n M) ds with
       | none=>rw [e] at h;cases h
       | some ps =>
         rw [e] at h;cases h
         cases RD.ref_iff.mp r
         cases q
         obtain ⟨vs,ha,rs⟩:=rm _ _ e0
         obtain ⟨its,rv,⟨o,k,ho,hc,_,hd⟩,_⟩:=I.list (SqL.of ha)
         obtain ⟨as,ra⟩:=df (bT I rm n) e rs rv
         exact ⟨_, .list ho hc hd (by simpa using ra)⟩
noncomputable def wEq:R2d:=fun x y M Q => ∃ p q,rb 16 M x=some p/\rb 16 M y=some q/\Q (.bl (PyData.eqv p q)) M
noncomputable def wNe:R2d:=fun x y M Q => ∃ p q,rb 16 M x=some p/\rb 16 M y=some q/\Q (.bl (!PyData.eqv p q)) M
theorem yo:aI wEq:=fun _ _ _ _ _ h ⟨p,q,a,b,c⟩=>⟨p,q,a,b,h _ _ c⟩
theorem yp:aI wNe:=fun _ _ _ _ _ h ⟨p,q,a,b,c⟩=>⟨p,q,a,b,h _ _ c⟩
theorem yq (z:X.A.units+16 < cLine):OpR X (compareOp .Eq) (l2 X.K wEq):=by
 intro pins s σ H x y v u Q I rx ry h
 obtain ⟨d,e,M,rm,rd,re,p,q,hp,j,k⟩:=h
 obtain ⟨as,ra⟩:=bT I rm _ _ _ _ _ hp rd rx
 obtain ⟨bs,rb'⟩:=bT I rm _ _ _ _ _ j re ry
 obtain ⟨B,p2⟩:=ck _ _ _ hp
 obtain ⟨F,n⟩:=ck _ _ _ j
 exact SeqAt.compareEq_reads ra rb' p2 n (by lia) ⟨.bl _,H,I,rfl,k _ H Ext.refl rm (RD.bl_iff.mpr rfl)⟩
theorem yr (z:X.A.units+16 < cLine):OpR X (compareOp .NotEq) (l2 X.K wNe):=by
 intro pins s σ H x y v u Q I rx ry h
 obtain ⟨d,e,M,rm,rd,re,p,q,hp,j,k⟩:=h
 obtain ⟨as,ra⟩:=bT I rm _ _ _ _ _ hp rd rx
 obtain ⟨bs,rb'⟩:=bT I rm _ _ _ _ _ j re ry
 obtain ⟨B,p2⟩:=ck _ _ _ hp
 obtain ⟨F,n⟩:=ck _ _ _ j
 exact SeqAt.compareNe_reads ra rb' p2 n (by lia) ⟨.bl _,H,I,rfl,k _ H Ext.refl rm (RD.bl_iff.mpr rfl)⟩
noncomputable def wLt:R2d
 | .int i, .int j,M,Q=>Q (.bl (decide (i < j))) M
 | _,_,_,_=>False
noncomputable def wLe:R2d
 | .int i, .int j,M,Q=>Q (.bl (decide (i<=j))) M
 | _,_,_,_=>False
noncomputable def wGt:R2d
 | .int i, .int j,M,Q=>Q (.bl (decide (j < i))) M
 | _,_,_,_=>False
noncomputable def wGe:R2d
 | .int i, .int j,M,Q=>Q (.bl (decide (j<=i))) M
 | _,_,_,_=>False
theorem yt:aI wLt:=by
 intro x y M Q Q' h q
 cases x <;> cases y <;> first | exact q.elim | exact h _ _ q
theorem yu:aI wGt:=by
 intro x y M Q Q' h q
 cases x <;> cases y <;> first | exact q.elim | exact h _ _ q
theorem yv:aI wGe:=by
 intro x y M Q Q' h q
 cases x <;> cases y <;> first | exact q.elim | exact h _ _ q
theorem yw:OpR X (compareOp .Lt) (l2 X.K wLt):=by
 refine OpR.of BS fun v u H Q h => ?_
 obtain ⟨x,y,M,rm,rx,ry,q⟩:=h
 cases x <;> cases y <;> first
  | exact q.elim
  | (cases RD.int_iff.mp rx;cases RD.int_iff.mp ry;exact ⟨_,_,rfl,rfl,q _ H Ext.refl rm (RD.bl_iff.mpr rfl)⟩)
theorem yz:OpR X (compareOp .Gt) (l2 X.K wGt):=by
 refine OpR.of BU fun v u H Q h => ?_
 obtain ⟨x,y,M,rm,rx,ry,q⟩:=h
 cases x <;> cases y <;> first
  | exact q.elim
  | (cases RD.int_iff.mp rx;cases RD.int_iff.mp ry;exact ⟨_,_,rfl,rfl,q _ H Ext.refl rm (RD.bl_iff.mpr rfl)⟩)
theorem yA:OpR X (compareOp .GtE) (l2 X.K wGe):=by
 refine OpR.of BV fun v u H Q h => ?_
 obtain ⟨x,y,M,rm,rx,ry,q⟩:=h
 cases x <;> cases y <;> first
  | exact q.elim
  | (cases RD.int_iff.mp rx;cases RD.int_iff.mp ry;exact ⟨_,_,rfl,rfl,q _ H Ext.refl rm (RD.bl_iff.mpr rfl)⟩)
end
end
section
noncomputable def wIx:R2d:=fun x y M Q=>match x with
 | .tup ds => ∃ i d,y = .int i/\atI ds i=some d/\Q d M
 | .con ds => ∃ i d,y = .int i/\atI ds i=some d/\Q d M
 | .ref a=>(∃ ds i d,M a=some (.lst ds)/\y = .int i/\atI ds i=some d/\Q d M)∨(∃ t kvs d,M a=some (.dct t kvs)/\fT t y=true/\dget kvs y=some d/\Q d M) ∨ ∃ kvs d,M a=some (.fdc kvs)/\bR y=true/\dget kvs y=some d/\Q d M
 | _=>False
theorem oE:aI wIx:=by
 intro x y M Q Q' h q
 cases x with
 | tup ds=>obtain ⟨i,d,e,e2,q⟩:=q;exact ⟨i,d,e,e2,h _ _ q⟩
 | con ds=>obtain ⟨i,d,e,e2,q⟩:=q;exact ⟨i,d,e,e2,h _ _ q⟩
 | ref a =>
   rcases q with ⟨ds,i,d,e1,e2,j,q⟩ | ⟨t,kvs,d,e1,e2,j,q⟩ | ⟨kvs,d,e1,e2,j,q⟩
   ·exact .inl ⟨ds,i,d,e1,e2,j,h _ _ q⟩
   ·exact .inr (.inl ⟨t,kvs,d,e1,e2,j,h _ _ q⟩)
   ·exact .inr (.inr ⟨kvs,d,e1,e2,j,h _ _ q⟩)
 | _=>exact q.elim
theorem iq {K:Frag} {H:Hp} {ds:List D} {vs:List V} {i:Int} {d:D} (r:RDs K H ds vs) (e:atI ds i=some d):∃ v,atI vs i=some v/\RD K H d v:=by
 unfold atI at e ⊢
 rw [r.length]
 cases q:ixN ds.length i with
 | none=>rw [q] at e;cases e
 | some j =>
   rw [q] at e
   exact r.get e
theorem jq {K:Frag} {H:Hp} {k:D} {q:Key} {v:V} (r:RKey k q) (h:RD K H k v):v=kV q:=by
 cases k <;> first
  | exact r.elim
  | (cases (show q=_ from r);first | exact RD.int_iff.mp h | exact RD.str_iff.mp h)
theorem eN {K:Frag} {H:Hp}:∀ {ds:List D} {ks:List Key} {vs:List V},Paired RKey ds ks->RDs K H ds vs->vs=ks.map kV
 | _,_,vs, .nil,h=>by rw [RDs.nil_iff.mp h];rfl
 | _,_,vs, .cons r t,h=>by
   obtain ⟨v,vr,rfl,h1,h2⟩:=RDs.cons_iff.mp h
   rw [jq r h1,eN t h2];rfl
theorem RKey.inj {d e:D} {k:Key} (a:RKey d k) (b:RKey e k):d=e:=by
 cases d <;> first
  | exact a.elim
  | (cases e <;> first | exact b.elim | (cases (show k=_ from a);injection (show _=_ from b) with z;rw [z]) | (cases (show k=_ from a);cases (show _=_ from b)))
theorem RKeysP.inj:∀ {d e:List D} {k:List Key},Paired RKey d k->Paired RKey e k->d=e
 | _,_,_, .nil, .nil=>rfl
 | _,_,_, .cons r t, .cons r' t'=>by rw [r.inj r',RKeysP.inj t t']
theorem RKeys.inj {d e:D} {k:List Key} (a:RKeys d k) (b:RKeys e k):d=e:=by
 cases d <;> first
  | exact a.elim
  | (cases e <;> first | exact b.elim | exact congrArg D.tup (RKeysP.inj a b))
theorem RKey.fun {d:D} {k k':Key} (a:RKey d k) (b:RKey d k'):k=k':=by
 cases d <;> first
  | exact a.elim
  | (cases (show k=_ from a);cases (show k'=_ from b);rfl)
theorem RKeysP.fun:∀ {d:List D} {k k':List Key},Paired RKey d k->Paired RKey d k'->k=k'
 | _,_,_, .nil, .nil=>rfl
 | _,_,_, .cons r t, .cons r' t'=>by rw [r.fun r',RKeysP.fun t t']
theorem RKeys.fun {d:D} {k k':List Key} (a:RKeys d k) (b:RKeys d k'):k=k':=by
 cases d <;> first
  | exact a.elim
  | exact RKeysP.fun a b
section
variable {κ:Type} [DecidableEq κ] {K:Frag} {H:Hp} {RK:D -> κ -> Prop} (inj:∀ {d e:D} {k : κ},RK d k->RK e k->d=e) (fn:∀ {d:D} {k k' : κ},RK d k->RK d k'->k=k')
include inj fn
theorem eO {k:D} {q : κ} (j:RK k q):∀ {kvs:List (D×D)} {ps:List (κ × V)},Paired (fun p r=>RK p.1 r.1/\RD K H p.2 r.2) kvs ps ->
 (∀ d,dget kvs k=some d -> ∃ v,bN ps q=some v/\RD K H d v)/\(dget kvs k=none->bN ps q=none)
 | _,_, .nil=>⟨fun d e=>by simp [dget] at e,fun _=>rfl⟩
 | _,_, .cons (a:=p) (b:=r) (l₂ := ps) n t=>by
   obtain ⟨B,F⟩:=eO j t
   by_cases e:p.1=k
   ·have e':r.1=q:=by
     have h1:=n.1
     rw [e] at h1
     exact fn h1 j
    refine ⟨fun d he => ?_,fun he => ?_⟩
    ·simp [dget,List.find?_cons,e] at he
     subst he
     exact ⟨r.2,eK e',n.2⟩
    ·simp [dget,List.find?_cons,e] at he
   ·have e' : ¬ r.1=q:=fun z=>e (by
     have h1:=n.1
     rw [z] at h1
     exact inj h1 j)
    have eq1:∀ l:List (D×D),dget (p::l) k=dget l k:=fun l=>by simp [dget,List.find?_cons,e]
    have eq2:bN (r::ps) q=bN ps q:=eL e'
    refine ⟨fun d he => ?_,fun he => ?_⟩
    ·rw [eq1] at he
     rw [eq2]
     exact B d he
    ·rw [eq1] at he
     rw [eq2]
     exact F he
end
section
variable {X:Cx}
theorem sH {K:Frag} {H:Hp} {a:Addr} {ps:List (List Key×V)} {kvs:List (D×D)} {k:D} {v:V} (hp:Rd H a (.dT ps)) (pr:Paired (fun (p:D×D) (q:List Key×V)=>RKeys p.1 q.1/\RD K H p.2 q.2) kvs ps) (ok:bR k=true) (rk:RD K H k v) :
 ∃ o,DGet H a v o/\(∀ d,dget kvs k=some d -> ∃ w,o=some w/\RD K H d w)/\(dget kvs k=none->o=none):=by
 obtain ⟨q,j⟩:=jj ok
 obtain ⟨g1,g2⟩:=eO (RK:=RKeys) RKeys.inj RKeys.fun j pr
 refine ⟨bN ps q, ?_,g1,g2⟩
 cases k <;> first
  | exact j.elim
  | (obtain ⟨b,us,rfl,hb,ru⟩:=RD.tupK (jk ok) rk
     rw [eN j ru] at hb
     exact .inr ⟨ps,q,b,hp,rfl,hb,rfl⟩)
theorem oF {K:Frag} {M:Mem} {H:Hp} {a:Addr} {t:Bool} {kvs:List (D×D)} {k:D} {v:V} (rm:RM K M H) (e:M a=some (.dct t kvs)) (ok:fT t k=true) (rk:RD K H k v) :
 ∃ o,DGet H a v o/\(∀ d,dget kvs k=some d -> ∃ w,o=some w/\RD K H d w)/\(dget kvs k=none->o=none):=by
 have ro:=rm a _ e
 cases t with
 | false =>
   obtain ⟨ps,hp,pr⟩:=ro
   obtain ⟨q,j⟩:=lF (show eM k=true from ok)
   obtain ⟨g1,g2⟩:=eO (RK:=RKey) RKey.inj RKey.fun j pr
   refine ⟨bN ps q, ?_,g1,g2⟩
   rw [jq j rk]
   exact DGet.k hp
 | true =>
   obtain ⟨ps,hp,pr⟩:=ro
   exact sH (.inl hp) pr ok rk
theorem yB (j:X.A.units+1 < cLine):IxR X (fun x y H Q => ∃ a v,x = .ref a/\DGet H a y (some v)/\Q v H):=by
 intro value slice pins s σ H x y v u Q I rx ry h hs
 obtain ⟨a,w,rfl,g,q⟩:=h
 cases rx
 have hd:IsD H a:=by
  rcases g with ⟨kvs,k,e,_⟩ | ⟨kvs,k,b,e,_⟩
  ·exact .inl ⟨kvs,e⟩
  ·exact .inr ⟨kvs,e⟩
 obtain ⟨n,_⟩:=ie I hd
 exact tail_any n PySem.F.slot_dict_getitem.lookup (sj j I g ry fun w' s' I' r'=>⟨w,H,I',r',q⟩) hs
theorem CW (n:X.A.units+1 < cLine):IxR X (l2 X.K wIx):=by
 refine IxR.of (ix_list.or (ix_tup.or (yB n))) fun v u H Q h => ?_
 obtain ⟨x,y,M,rm,rx,ry,q⟩:=h
 cases x with
 | tup ds =>
   obtain ⟨i,d,rfl,e,q⟩:=q
   obtain ⟨a,vs,rfl,ha,rs⟩:=RD.tupS rx
   cases RD.int_iff.mp ry
   obtain ⟨w,hw,rw'⟩:=iq rs e
   exact .inr (.inl ⟨a,vs,i,w,rfl,rfl,ha,hw,q w H Ext.refl rm rw'⟩)
 | con ds =>
   obtain ⟨i,d,rfl,e,q⟩:=q
   obtain ⟨a,vs,rfl,ha,rs⟩:=RD.con_iff.mp rx
   cases RD.int_iff.mp ry
   obtain ⟨w,hw,rw'⟩:=iq rs e
   exact .inl ⟨a,vs,i,w,rfl,rfl,ha.sq,hw,q w H Ext.refl rm rw'⟩
 | ref a =>
   cases RD.ref_iff.mp rx
   rcases q with ⟨ds,i,d,e1,rfl,j,q⟩ | ⟨t,kvs,d,e1,e2,j,q⟩ | ⟨kvs,d,e1,e2,j,q⟩
   ·cases RD.int_iff.mp ry
    obtain ⟨vs,ha,rs⟩:=rm _ _ e1
    obtain ⟨w,hw,rw'⟩:=iq rs j
    exact .inl ⟨a,vs,i,w,rfl,rfl,SqL.of ha,hw,q w H Ext.refl rm rw'⟩
   ·obtain ⟨o,g,g1,_⟩:=oF rm e1 e2 ry
    obtain ⟨w,rfl,rw'⟩:=g1 d j
    exact .inr (.inr ⟨a,w,rfl,g,q w H Ext.refl rm rw'⟩)
   ·obtain ⟨ob,ps,hp,pr⟩:=rm _ _ e1
    obtain ⟨o,g,g1,_⟩:=sH (.inr ⟨ob,hp⟩) pr e2 ry
    obtain ⟨w,rfl,rw'⟩:=g1 d j
    exact .inr (.inr ⟨a,w,rfl,g,q w H Ext.refl rm rw'⟩)
 | _=>exact q.elim
noncomputable def gJ (M:Mem):D->Option Nat
 | .tup ds=>some ds.length
 | .con ds=>some ds.length
 | .ref a=>match M a with
  | some (.lst ds)=>some ds.length
  | _=>none
 | _=>none
noncomputable def eP:RAd:=fun xs M Q => ∃ x n,xs=[x]/\gJ M x=some n/\Q (.int n) M
theorem lM:aY eP:=fun _ _ _ _ h ⟨x,n,e,l,q⟩=>⟨x,n,e,l,h _ _ q⟩
theorem RDs.one {K:Frag} {H:Hp} {d:D} {vs:List V} (h:RDs K H [d] vs):∃ v,vs=[v]/\RD K H d v:=by
 obtain ⟨v,r,rfl,h1,h2⟩:=RDs.cons_iff.mp h
 rw [RDs.nil_iff.mp h2]
 exact ⟨v,rfl,h1⟩
theorem RDs.two {K:Frag} {H:Hp} {d e:D} {vs:List V} (h:RDs K H [d,e] vs):∃ v u,vs=[v,u]/\RD K H d v/\RD K H e u:=by
 obtain ⟨v,r,rfl,h1,h2⟩:=RDs.cons_iff.mp h
 obtain ⟨u,rfl,j⟩:=RDs.one h2
 exact ⟨v,u,rfl,h1,j⟩
theorem qo:CallR X (.builtin "len") (lR X.K eP):=by
 refine CallR.of uU fun vs H Q h => ?_
 obtain ⟨ds,M,rm,rs,x,n,rfl,l,q⟩:=h
 obtain ⟨v,rfl,r⟩:=rs.one
 refine ⟨v,n,rfl, ?_,q _ H Ext.refl rm (RD.int_iff.mpr rfl)⟩
 cases x with
 | tup ds =>
   cases l
   obtain ⟨a,us,rfl,ha,ru⟩:=RD.tupS r
   exact .inr ⟨us,ha,ru.length.symm⟩
 | con ds =>
   cases l
   obtain ⟨a,us,rfl,ha,ru⟩:=RD.con_iff.mp r
   exact .inl ⟨us,ha.sq,ru.length.symm⟩
 | ref a =>
   cases RD.ref_iff.mp r
   simp only [gJ] at l
   cases e:M a with
   | none=>rw [e] at l;cases l
   | some o =>
     rw [e] at l
     cases o with
     | dct _ _=>cases l
     | fdc _=>cases l
     | lst ds =>
       cases l
       obtain ⟨us,ha,ru⟩:=rm _ _ e
       exact .inl ⟨us,SqL.of ha,ru.length.symm⟩
 | _=>cases l
noncomputable def lN:RAd:=fun xs M Q => ∃ i,xs=[.int i]/\Q (.int (if i < 0 then -i else i)) M
noncomputable def kT:RAd:=fun xs M Q => ∃ i j,xs=[.int i, .int j]/\Q (.int (if j < i then j else i)) M
noncomputable def lP:RAd:=fun xs M Q=>(∃ i,xs=[.int i]/\Q (.int i) M) ∨ ∃ k,xs=[.bl k]/\Q (.int (if k then 1 else 0)) M
theorem lQ:aY lN:=fun _ _ _ _ h ⟨i,e,q⟩=>⟨i,e,h _ _ q⟩
theorem jZ:aY kT:=fun _ _ _ _ h ⟨i,j,e,q⟩=>⟨i,j,e,h _ _ q⟩
theorem lU:aY lP:=fun _ _ _ _ h q=>q.elim (fun ⟨i,e,q⟩ => .inl ⟨i,e,h _ _ q⟩) fun ⟨i,e,q⟩ => .inr ⟨i,e,h _ _ q⟩
theorem qp:CallR X (.builtin "abs") (lR X.K lN):=by
 refine CallR.of uT fun vs H Q h => ?_
 obtain ⟨ds,M,rm,rs,i,rfl,q⟩:=h
 obtain ⟨v,rfl,r⟩:=rs.one
 cases RD.int_iff.mp r
 exact ⟨i,rfl,q _ H Ext.refl rm (RD.int_iff.mpr rfl)⟩
theorem nZ (hc:X.calm=true):CallR X (.builtin "min") (lR X.K kT):=by
 refine CallR.of (rS hc) fun vs H Q h => ?_
 obtain ⟨ds,M,rm,rs,i,j,rfl,q⟩:=h
 obtain ⟨v,u,rfl,n,z⟩:=rs.two
 cases RD.int_iff.mp n
 cases RD.int_iff.mp z
 exact ⟨i,j,rfl,q _ H Ext.refl rm (RD.int_iff.mpr rfl)⟩
theorem qq:CallR X (.type "int") (lR X.K lP):=by
 refine CallR.of rT fun vs H Q h => ?_
 obtain ⟨ds,M,rm,rs,⟨i,rfl,q⟩ | ⟨i,rfl,q⟩⟩:=h
 ·obtain ⟨v,rfl,r⟩:=rs.one
  cases RD.int_iff.mp r
  exact .inl ⟨i,rfl,q _ H Ext.refl rm (RD.int_iff.mpr rfl)⟩
 ·obtain ⟨v,rfl,r⟩:=rs.one
  cases RD.bl_iff.mp r
  exact .inr ⟨i,rfl,q _ H Ext.refl rm (RD.int_iff.mpr rfl)⟩
noncomputable def ar (M:Mem):D->Option (List D)
 | .tup ds=>some ds
 | .con ds=>some ds
 | .ref a=>match M a with
  | some (.lst ds)=>some ds
  | _=>none
 | _=>none
theorem sJ {K:Frag} {M:Mem} {H:Hp} {x:D} {ds:List D} {v:V} (rm:RM K M H) (r:RD K H x v) (e:ar M x=some ds):∃ p vs,v = .ref p/\(SqL K H p vs∨SqT K H p vs)/\RDs K H ds vs:=by
 cases x with
 | tup es =>
   cases e
   obtain ⟨a,us,rfl,ha,ru⟩:=RD.tupS r
   exact ⟨a,us,rfl, .inr ha,ru⟩
 | con es =>
   cases e
   obtain ⟨a,us,rfl,ha,ru⟩:=RD.con_iff.mp r
   exact ⟨a,us,rfl, .inl ha.sq,ru⟩
 | ref a =>
   cases RD.ref_iff.mp r
   simp only [ar] at e
   cases e0:M a with
   | none=>rw [e0] at e;cases e
   | some o =>
     rw [e0] at e
     cases o with
     | dct _ _=>cases e
     | fdc _=>cases e
     | lst es =>
       cases e
       obtain ⟨us,ha,ru⟩:=rm _ _ e0
       exact ⟨a,us,rfl, .inl (SqL.of ha),ru⟩
 | _=>cases e
noncomputable def qr:RAd:=fun xs M Q => ∃ x ds,xs=[x]/\ar M x=some ds /\ ∀ p,M p=none->Q (.ref p) (ag M p (.lst ds))
noncomputable def lV:RAd:=fun xs M Q => ∃ x ds,xs=[x]/\ar M x=some ds/\Q (.tup ds) M
theorem ka:aY qr:=fun _ _ _ _ h ⟨x,ds,e,l,q⟩=>⟨x,ds,e,l,fun p n=>h _ _ (q p n)⟩
theorem ir:aY lV:=fun _ _ _ _ h ⟨x,ds,e,l,q⟩=>⟨x,ds,e,l,h _ _ q⟩
theorem og:CallR X (.type "list") (lR X.K qr):=by
 refine CallR.of ln fun vs H Q h => ?_
 obtain ⟨ds,M,rm,rs,x,es,rfl,l,q⟩:=h
 obtain ⟨v,rfl,r⟩:=rs.one
 obtain ⟨p,us,rfl,sq,ru⟩:=sJ rm r l
 exact ⟨p,us,rfl,sq,fun l' n=>cB rm ru q n⟩
theorem lW:CallR X (.type "tuple") (lR X.K lV):=by
 refine CallR.of kJ fun vs H Q h => ?_
 obtain ⟨ds,M,rm,rs,x,es,rfl,l,q⟩:=h
 obtain ⟨v,rfl,r⟩:=rs.one
 cases x with
 | tup ds' =>
   cases l
   obtain ⟨a,us,rfl,ha,ru⟩:=RD.tupS r
   exact ⟨a,us,rfl, .inr ⟨ha,q _ H Ext.refl rm r⟩⟩
 | con ds' =>
   cases l
   obtain ⟨a,us,rfl,ha,ru⟩:=RD.con_iff.mp r
   exact ⟨a,us,rfl, .inl ⟨ha.sq,fun l' n=>dk rm ru q n⟩⟩
 | ref a =>
   cases RD.ref_iff.mp r
   simp only [ar] at l
   cases e0:M a with
   | none=>rw [e0] at l;cases l
   | some o =>
     rw [e0] at l
     cases o with
     | dct _ _=>cases l
     | fdc _=>cases l
     | lst es' =>
       cases l
       obtain ⟨us,ha,ru⟩:=rm _ _ e0
       exact ⟨a,us,rfl, .inl ⟨SqL.of ha,fun l' n=>dk rm ru q n⟩⟩
 | _=>cases l
end
end
section
section
variable {X:Cx}
noncomputable def vE (M:Mem):D->Option Bool
 | .non=>some false
 | .bl b=>some b
 | .int i=>some (i != 0)
 | .tup ds=>some (!ds.isEmpty)
 | .con ds=>some (!ds.isEmpty)
 | .ref a=>match M a with
  | some (.lst ds)=>some (!ds.isEmpty)
  | _=>none
 | _=>none
noncomputable def lX (t:TEd):TTd:=fun ρ M Q=>t ρ M fun x M1 => ∃ b,vE M1 x=some b/\Q b M1
theorem vF {t:TEd} (h:aa t):aB (lX t):=fun ρ M Q Q' i q=>h _ _ _ _ (fun x n ⟨k,e,j⟩=>⟨k,e,i _ _ j⟩) q
theorem AM {K:Frag} {M:Mem} {H:Hp} {x:D} {b:Bool} {v:V} (rm:RM K M H) (r:RD K H x v) (e:vE M x=some b):uR K v H b:=by
 have emp:∀ {ds:List D} {vs:List V},RDs K H ds vs->(!ds.isEmpty) = !vs.isEmpty:=fun {ds vs} h=>by
  have l:=h.length
  cases ds <;> cases vs <;> first | rfl | (simp at l)
 cases x with
 | non=>cases e;cases RD.non_iff.mp r;rfl
 | bl k=>cases e;cases RD.bl_iff.mp r;rfl
 | int i=>cases e;cases RD.int_iff.mp r;rfl
 | tup ds =>
   cases e
   obtain ⟨a,vs,rfl,ha,rs⟩:=RD.tupS r
   exact .inr (.inl ⟨vs,ha,emp rs⟩)
 | con ds =>
   cases e
   obtain ⟨a,vs,rfl,ha,rs⟩:=RD.con_iff.mp r
   exact .inl ⟨vs,ha.sq,emp rs⟩
 | ref a =>
   cases RD.ref_iff.mp r
   simp only [vE] at e
   cases e0:M a with
   | none=>rw [e0] at e;cases e
   | some o =>
     rw [e0] at e
     cases o with
     | dct _ _=>cases e
     | fdc _=>cases e
     | lst ds =>
       cases e
       obtain ⟨vs,ha,rs⟩:=rm _ _ e0
       exact .inl ⟨vs,SqL.of ha,emp rs⟩
 | str _=>cases e
variable {a b:Expr} {ta tb:TEd} {pos:Pos}
theorem AN (m:aa ta) (ha:PE X a (lE X.K ta)) (he:∀ whole,isTrue a X.env whole=(do let v <- whole;standAt a.pos;holding [v] (truthy v))):PT X a (lT X.K (lX ta)):=by
 refine PT.imp (uS ha he) fun σ H Q h => ?_
 obtain ⟨ρ,M,rs,rm,q⟩:=h
 exact ⟨ρ,M,rs,rm,m _ _ _ _ (fun x F ⟨k,e,z⟩ v H1 B j n=>⟨k,AM j n e,z H1 B j⟩) q⟩
noncomputable def iu (t:TTd):TTd:=fun ρ M Q=>t ρ M fun c M1=>Q (!c) M1
theorem sK {t:TTd} (h:aB t):aB (iu t):=fun ρ M Q Q' i q=>h _ _ _ _ (fun c n j=>i _ _ j) q
theorem AO {tA:TTd} (m:aB tA) (ha:PT X a (lT X.K tA)):PT X (.UnaryOp .Not a pos) (lT X.K (iu tA)):=by
 refine PT.imp (A7 ha) fun σ H Q h => ?_
 obtain ⟨ρ,M,rs,rm,q⟩:=h
 exact ⟨ρ,M,rs,rm,m _ _ _ _ (fun c n j=>j) q⟩
noncomputable def iw (t u:TTd):TTd:=fun ρ M Q=>t ρ M fun c M1=>if c=true then u ρ M1 Q else Q false M1
noncomputable def lY (t u:TTd):TTd:=fun ρ M Q=>t ρ M fun c M1=>if c=true then Q true M1 else u ρ M1 Q
theorem sL {t u:TTd} (h:aB t) (k:aB u):aB (iw t u):=fun ρ M Q Q' i q=>h _ _ _ _ (fun c n j=>by
 cases c with
 | true=>rw [if_pos rfl] at j ⊢;exact k _ _ _ _ i j
 | false=>rw [if_neg Bool.false_ne_true] at j ⊢;exact i _ _ j) q
theorem vG {t u:TTd} (h:aB t) (k:aB u):aB (lY t u):=fun ρ M Q Q' i q=>h _ _ _ _ (fun c n j=>by
 cases c with
 | true=>rw [if_pos rfl] at j ⊢;exact i _ _ j
 | false=>rw [if_neg Bool.false_ne_true] at j ⊢;exact k _ _ _ _ i j) q
theorem yC {tA:TTd} (ha:PT X a (lT X.K tA)):PW X (.BoolOp .And [a] pos) (lT X.K tA):=xV ha
theorem AQ {tA:TTd} (ha:PT X a (lT X.K tA)):PW X (.BoolOp .Or [a] pos) (lT X.K tA):=A5 ha
theorem AR {tA tB:TTd} {rest:List Expr} (mA:aB tA) (mB:aB tB) (ha:PT X a (lT X.K tA)) (hb:PW X (.BoolOp .And (b::rest) pos) (lT X.K tB)):PW X (.BoolOp .And (a::b::rest) pos) (lT X.K (iw tA tB)):=by
 refine PW.imp (A6 ha hb) fun σ H Q h => ?_
 obtain ⟨ρ,M,rs,rm,q⟩:=h
 refine ⟨ρ,M,rs,rm,mA _ _ _ _ (fun c B n H1 z j => ?_) q⟩
 cases c with
 | true=>rw [if_pos rfl] at n ⊢;exact ⟨ρ,B,rs.mono (z.stab rm),j,mB _ _ _ _ (fun d M2 k=>k.ext z) n⟩
 | false=>rw [if_neg Bool.false_ne_true] at n ⊢;exact n H1 z j
theorem C9 {tA tB:TTd} {rest:List Expr} (mA:aB tA) (mB:aB tB) (ha:PT X a (lT X.K tA)) (hb:PW X (.BoolOp .Or (b::rest) pos) (lT X.K tB)):PW X (.BoolOp .Or (a::b::rest) pos) (lT X.K (lY tA tB)):=by
 refine PW.imp (BI ha hb) fun σ H Q h => ?_
 obtain ⟨ρ,M,rs,rm,q⟩:=h
 refine ⟨ρ,M,rs,rm,mA _ _ _ _ (fun c B n H1 z j => ?_) q⟩
 cases c with
 | true=>rw [if_pos rfl] at n ⊢;exact n H1 z j
 | false=>rw [if_neg Bool.false_ne_true] at n ⊢;exact ⟨ρ,B,rs.mono (z.stab rm),j,mB _ _ _ _ (fun d M2 k=>k.ext z) n⟩
noncomputable def iy (ta tb:TEd):TEd:=fun ρ M Q=>ta ρ M fun x M1 => ∃ c,x = .bl c/\if c=true then tb ρ M1 Q else Q (.bl false) M1
noncomputable def lZ (ta tb:TEd):TEd:=fun ρ M Q=>ta ρ M fun x M1 => ∃ c,x = .bl c/\if c=true then Q (.bl true) M1 else tb ρ M1 Q
noncomputable def iz (ta:TEd):TEd:=fun ρ M Q=>ta ρ M fun x M1 => ∃ c,x = .bl c/\Q (.bl (!c)) M1
theorem sM (h:aa ta) (k:aa tb):aa (iy ta tb):=fun ρ M Q Q' i q=>h _ _ _ _ (fun x n ⟨c,e,j⟩=>⟨c,e,by
 cases c with
 | true=>rw [if_pos rfl] at j ⊢;exact k _ _ _ _ i j
 | false=>rw [if_neg Bool.false_ne_true] at j ⊢;exact i _ _ j⟩) q
theorem vH (h:aa ta) (k:aa tb):aa (lZ ta tb):=fun ρ M Q Q' i q=>h _ _ _ _ (fun x n ⟨c,e,j⟩=>⟨c,e,by
 cases c with
 | true=>rw [if_pos rfl] at j ⊢;exact i _ _ j
 | false=>rw [if_neg Bool.false_ne_true] at j ⊢;exact k _ _ _ _ i j⟩) q
theorem sN (h:aa ta):aa (iz ta):=fun ρ M Q Q' i q=>h _ _ _ _ (fun x n ⟨c,e,j⟩=>⟨c,e,i _ _ j⟩) q
theorem sP {op:BoolOp} {t:TEd} (h:PE X a (lE X.K t)):PE X (.BoolOp op [a] pos) (lE X.K t):=A8 h
theorem AS {rest:List Expr} (ma:aa ta) (mb:aa tb) (ha:PE X a (lE X.K ta)) (hb:PE X (.BoolOp .And (b::rest) pos) (lE X.K tb)):PE X (.BoolOp .And (a::b::rest) pos) (lE X.K (iy ta tb)):=by
 refine PE.imp (A9 ha hb) fun σ H Q h => ?_
 obtain ⟨ρ,M,rs,rm,q⟩:=h
 refine ⟨ρ,M,rs,rm,ma _ _ _ _ (fun x F ⟨c,e,n⟩ v H1 z j B => ?_) q⟩
 subst e
 refine ⟨c,RD.bl_iff.mp B, ?_⟩
 cases c with
 | true=>rw [if_pos rfl] at n ⊢;exact ⟨ρ,F,rs.mono (z.stab rm),j,mb _ _ _ _ (fun d M2 k=>k.ext z) n⟩
 | false=>rw [if_neg Bool.false_ne_true] at n ⊢;exact n _ H1 z j (RD.bl_iff.mpr rfl)
theorem Ca {rest:List Expr} (ma:aa ta) (mb:aa tb) (ha:PE X a (lE X.K ta)) (hb:PE X (.BoolOp .Or (b::rest) pos) (lE X.K tb)):PE X (.BoolOp .Or (a::b::rest) pos) (lE X.K (lZ ta tb)):=by
 refine PE.imp (BL ha hb) fun σ H Q h => ?_
 obtain ⟨ρ,M,rs,rm,q⟩:=h
 refine ⟨ρ,M,rs,rm,ma _ _ _ _ (fun x F ⟨c,e,n⟩ v H1 z j B => ?_) q⟩
 subst e
 refine ⟨c,RD.bl_iff.mp B, ?_⟩
 cases c with
 | true=>rw [if_pos rfl] at n ⊢;exact n _ H1 z j (RD.bl_iff.mpr rfl)
 | false=>rw [if_neg Bool.false_ne_true] at n ⊢;exact ⟨ρ,F,rs.mono (z.stab rm),j,mb _ _ _ _ (fun d M2 k=>k.ext z) n⟩
theorem AT (ma:aa ta) (ha:PE X a (lE X.K ta)):PE X (.UnaryOp .Not a pos) (lE X.K (iz ta)):=by
 refine PE.imp (Aa ha) fun σ H Q h => ?_
 obtain ⟨ρ,M,rs,rm,q⟩:=h
 refine ⟨ρ,M,rs,rm,ma _ _ _ _ (fun x F ⟨c,e,z⟩ v H1 B j n => ?_) q⟩
 subst e
 exact ⟨c,RD.bl_iff.mp n,z _ H1 B j (RD.bl_iff.mpr rfl)⟩
noncomputable def wIf (t:TTd) (ta tb:TEd):TEd:=fun ρ M Q=>t ρ M fun c M1=>if c=true then ta ρ M1 Q else tb ρ M1 Q
theorem yD {t:TTd} (h:aB t) (ha:aa ta) (hb:aa tb):aa (wIf t ta tb):=fun ρ M Q Q' i q=>h _ _ _ _ (fun c n j=>by
 cases c with
 | true=>rw [if_pos rfl] at j ⊢;exact ha _ _ _ _ i j
 | false=>rw [if_neg Bool.false_ne_true] at j ⊢;exact hb _ _ _ _ i j) q
theorem Cb {c:Expr} {t:TTd} (mt:aB t) (ma:aa ta) (mb:aa tb) (hc:PT X c (lT X.K t)) (ha:PE X a (lE X.K ta)) (hb:PE X b (lE X.K tb)):PE X (.IfExp c a b pos) (lE X.K (wIf t ta tb)):=by
 refine PE.imp (uJ hc ha hb) fun σ H Q h => ?_
 obtain ⟨ρ,M,rs,rm,q⟩:=h
 refine ⟨ρ,M,rs,rm,mt _ _ _ _ (fun x B n H1 z j => ?_) q⟩
 cases x with
 | true=>rw [if_pos rfl] at n ⊢;exact ⟨ρ,B,rs.mono (z.stab rm),j,ma _ _ _ _ (fun d M2 k=>k.ext z) n⟩
 | false=>rw [if_neg Bool.false_ne_true] at n ⊢;exact ⟨ρ,B,rs.mono (z.stab rm),j,mb _ _ _ _ (fun d M2 k=>k.ext z) n⟩
noncomputable def gK (xs:List D) (lo hi:Option Int):List D:=(xs.drop (HT.sIx xs.length 0 lo)).take (HT.sIx xs.length xs.length hi - HT.sIx xs.length 0 lo)
theorem m5 {K:Frag} {H:Hp} {ds:List D} {vs:List V} (r:RDs K H ds vs) (lo hi:Option Int):RDs K H (gK ds lo hi) (fi vs lo hi):=by
 unfold gK fi
 rw [r.length]
 exact (r.drop _).take _
noncomputable abbrev TOd:=av->Mem->(Option Int->Mem->Prop)->Prop
noncomputable def eQ (T:TOd):Prop := ∀ ρ M Q Q',(∀ d M',Q d M'->Q' d M')->T ρ M Q->T ρ M Q'
noncomputable def eh:TOd:=fun _ M Q=>Q none M
noncomputable def iA (t:TEd):TOd:=fun ρ M Q=>t ρ M fun x M1 => ∃ i,x = .int i/\Q (some i) M1
theorem oh:eQ eh:=fun _ _ _ _ h q=>h _ _ q
theorem sQ (h:aa ta):eQ (iA ta):=fun ρ M Q Q' i q=>h _ _ _ _ (fun x n ⟨c,e,j⟩=>⟨c,e,i _ _ j⟩) q
noncomputable def lO (K:Frag) (T:TOd):TO:=fun σ H Q => ∃ ρ M,RS K H σ ρ /\ RM K M H/\T ρ M (fun o M' => ∀ H',Ext M H M' H'->RM K M' H'->Q o H')
theorem yE:PO X none (lO X.K eh):=fun pins s σ H Q I h=>by
 obtain ⟨ρ,M,rs,rm,q⟩:=h
 exact yd pins s σ H Q I (q H Ext.refl rm)
theorem yF {e:Expr} (m:aa ta) (h:PE X e (lE X.K ta)):PO X (some e) (lO X.K (iA ta)):=fun pins s σ H Q I hq=>by
 obtain ⟨ρ,M,rs,rm,q⟩:=hq
 refine ye h pins s σ H Q I ⟨ρ,M,rs,rm,m _ _ _ _ (fun x F ⟨i,e,z⟩ v H1 B j n => ?_) q⟩
 subst e
 exact ⟨i,RD.int_iff.mp n,z H1 B j⟩
noncomputable def dD:D->Option Int->Option Int->Mem->QD->Prop:=fun x lo hi M Q=>match x with
 | .tup ds=>Q (.tup (gK ds lo hi)) M
 | .ref a => ∃ ds,M a=some (.lst ds) /\ ∀ p,M p=none->Q (.ref p) (ag M p (.lst (gK ds lo hi)))
 | .con ds => ∀ p,M p=none->Q (.ref p) (ag M p (.lst (gK ds lo hi)))
 | _=>False
noncomputable def wSl (te:TEd) (tl th:TOd):TEd:=fun ρ M Q=>te ρ M fun x M1=>tl ρ M1 fun l M2=>th ρ M2 fun u M3=>dD x l u M3 Q
theorem qt {x:D} {lo hi:Option Int} {M:Mem} {Q Q':QD} (h:∀ d M',Q d M'->Q' d M') (q:dD x lo hi M Q):dD x lo hi M Q':=by
 cases x with
 | tup ds=>exact h _ _ q
 | ref a=>obtain ⟨ds,e,q⟩:=q;exact ⟨ds,e,fun p n=>h _ _ (q p n)⟩
 | con ds=>exact fun p n=>h _ _ (q p n)
 | _=>exact q.elim
theorem yG {tl th:TOd} (m:aa ta) (ml:eQ tl) (mh:eQ th):aa (wSl ta tl th):=fun ρ M Q Q' i q =>
 m _ _ _ _ (fun x B j=>ml _ _ _ _ (fun l M2 n=>mh _ _ _ _ (fun u F z=>qt i z) n) j) q
theorem Cc {e:Expr} {lo hi:Option Expr} {tl th:TOd} {p2:Pos} (m:aa ta) (ml:eQ tl) (mh:eQ th) (he:PE X e (lE X.K ta)) (S:PO X lo (lO X.K tl)) (U:PO X hi (lO X.K th)) :
 PE X (.Subscript e (.Slice lo hi none p2) pos) (lE X.K (wSl ta tl th)):=by
 refine PE.imp (uX (sl_tup.or (sl_list.or v7)) he S U) fun σ H Q h => ?_
 obtain ⟨ρ,M,rs,rm,q⟩:=h
 refine ⟨ρ,M,rs,rm,m _ _ _ _ (fun x Y Z v H1 J G L => ?_) q⟩
 refine ⟨ρ,Y,rs.mono (J.stab rm),G,ml _ _ _ _ (fun l M2 q2 H2 O I => ?_) Z⟩
 refine ⟨ρ,M2,(rs.mono (J.stab rm)).mono (O.stab G),I,mh _ _ _ _ (fun u M3 z H3 R j => ?_) q2⟩
 have B:=J.trans (O.trans R)
 have F:=(L.mono (O.stab G)).mono (R.stab I)
 cases x with
 | tup ds =>
   obtain ⟨a,vs,rfl,ha,r⟩:=RD.tupS F
   by_cases hw:HT.sIx vs.length 0 l=0/\HT.sIx vs.length vs.length u=vs.length
   ·refine .inr (.inr ⟨a,vs,rfl,ha,hw, ?_⟩)
    have e:gK ds l u=ds:=by
     unfold gK
     rw [<- r.length,hw.1,hw.2,r.length];simp
    simp only [dD] at z
    rw [e] at z
    exact z.ext B _ H3 Ext.refl j F
   ·simp only [dD] at z
    exact .inl ⟨a,vs,rfl,ha,hw,fun p n=>dk j (m5 r l u) (z.ext B) n⟩
 | ref a =>
   cases RD.ref_iff.mp F
   obtain ⟨ds,e,z⟩:=z
   obtain ⟨vs,ha,r⟩:=j _ _ e
   exact .inr (.inl ⟨a,vs,rfl,SqL.of ha,fun p n=>cB j (m5 r l u) (fun p' n'=>(z p' n').ext B) n⟩)
 | con ds =>
   obtain ⟨a,vs,rfl,ha,r⟩:=RD.con_iff.mp F
   exact .inr (.inl ⟨a,vs,rfl,ha.sq,fun p n=>cB j (m5 r l u) (fun p' n'=>(z p' n').ext B) n⟩)
 | _=>exact z.elim
end
end
section
section
variable {X:Cx}
noncomputable def tyN (M:Mem):D->Option String
 | .non=>some "NoneType"
 | .bl _=>some "bool"
 | .int _=>some "int"
 | .str _=>some "str"
 | .tup _=>some "tuple"
 | .ref a=>match M a with
  | some (.lst _)=>some "list"
  | some (.dct _ _)=>some "dict"
  | _=>none
 | .con _=>none
noncomputable def dE (T t:String):Bool:=t==T || (t == "bool" && T == "int")
theorem xz {K:Frag} {M:Mem} {H:Hp} {x:D} {t:String} {v:V} (rm:RM K M H) (r:RD K H x v) (e:tyN M x=some t):bZ K H v (.type t):=by
 cases x with
 | non=>cases e;cases RD.non_iff.mp r;exact .non
 | bl k=>cases e;cases RD.bl_iff.mp r;exact .bl k
 | int i=>cases e;cases RD.int_iff.mp r;exact .int i
 | str i=>cases e;cases RD.str_iff.mp r;exact .str i
 | tup ds =>
   cases e
   obtain ⟨a,vs,rfl,ha,rs⟩:=RD.tupS r
   exact .tup ha
 | con ds=>cases e
 | ref a =>
   cases RD.ref_iff.mp r
   simp only [tyN] at e
   cases e0:M a with
   | none=>rw [e0] at e;cases e
   | some o =>
     rw [e0] at e
     cases o with
     | lst ds =>
       cases e
       obtain ⟨vs,ha,rs⟩:=rm _ _ e0
       exact .lst ha
     | dct t kvs =>
       cases e
       have ro:=rm _ _ e0
       cases t with
       | false=>obtain ⟨ps,ha,_⟩:=ro;exact .dK ha
       | true=>obtain ⟨ps,ha,_⟩:=ro;exact .dT ha
     | fdc kvs=>cases e
noncomputable def cn:List String := ["NoneType", "bool", "int", "str", "tuple", "list", "dict"]
theorem jr (K:Frag):∀ T∈["bool", "int", "str", "tuple", "list", "dict"], ∀ t∈cn,PySem.W.kitOne K (.type t) (.type T)=some (dE T t):=by
 intro T j t n
 simp only [cn,List.mem_cons,List.not_mem_nil,or_false] at j n
 rcases j with rfl | rfl | rfl | rfl | rfl | rfl <;> rcases n with rfl | rfl | rfl | rfl | rfl | rfl | rfl <;> rfl
noncomputable def iB (T:String) (ta:TEd):TEd:=fun ρ M Q=>ta ρ M fun x M1 => ∃ t,tyN M1 x=some t/\Q (.bl (dE T t)) M1
theorem sR {T:String} {ta:TEd} (h:aa ta):aa (iB T ta):=fun ρ M Q Q' i q=>h _ _ _ _ (fun x n ⟨t,e,j⟩=>⟨t,e,i _ _ j⟩) q
theorem oG {M:Mem} {x:D} {t:String} (e:tyN M x=some t):t∈cn:=by
 cases x with
 | ref a =>
   simp only [tyN] at e
   cases e0:M a with
   | none=>rw [e0] at e;cases e
   | some o=>rw [e0] at e;cases o <;> cases e <;> simp [cn]
 | con _=>cases e
 | _=>cases e;simp [cn]
theorem sU (T:String) (j:T∈["bool", "int", "str", "tuple", "list", "dict"]):CallR X (.builtin "isinstance") (fun vs H Q => ∃ v t,vs=[v, .ty T]/\bZ X.K H v (.type t)/\t∈cn/\Q (.bl (dE T t)) H):=by
 intro pins s σ H xs us Q I r h
 obtain ⟨v,t,rfl,ty,n,q⟩:=h
 obtain ⟨u,c,rfl,ru,rc⟩:=kP r
 cases rc
 exact rW I ru ty (jr X.K T j t n) fun tk=>⟨.bl _,H,I.tok tk,rfl,q⟩
theorem yH {e:Expr} {ta:TEd} {T:String} {y:Str} {p p2 pos:Pos} (I:T∈["bool", "int", "str", "tuple", "list", "dict"]) (m:aa ta) (he:PE X e (lE X.K ta)) (J:Gl X "isinstance") (hm:X.mg "isinstance" = none)
 (n:Gl X y) (z:X.mg y=none) (L:bootBuiltins y=some (.type T)) (hn:y ≠ "__name__") (B:(y==("__debug__":Str))=false)
 (hs:starEach [e, .Name y p2] X.env=(false,eval e X.env)::starEach [.Name y p2] X.env) (F:(backTo pos (starEach [.Name y p2] X.env)).any (·.1)=false) :
 PE X (.Call (.Name "isinstance" p) [e, .Name y p2] [] pos) (lE X.K (iB T ta)):=by
 have h2:PE X (.Name y p2) (tC (.ty T)):=jc n z L rfl hn B
 refine PE.imp (ci (sU T I) J hm (by decide +kernel) (cA he (cA h2 i7 rfl) hs) (by decide) (by decide) hs F) fun σ H Q h => ?_
 obtain ⟨ρ,M,rs,rm,q⟩:=h
 exact ⟨ρ,M,rs,rm,m _ _ _ _ (fun x S ⟨t,e,O⟩ v H1 R j G=>⟨v,t,rfl,xz j G e,oG e,O _ H1 R j (RD.bl_iff.mpr rfl)⟩) q⟩
noncomputable def wBM (rd:D->List D->Mem->QD->Prop) (to:TEd) (t:TAd):TEd:=fun ρ M Q=>to ρ M fun x M1=>(∃ a xs,x = .ref a/\M1 a=some (.lst xs))/\t ρ M1 fun ds M2=>rd x ds M2 Q
noncomputable def cK (rd:D->List D->Mem->QD->Prop):Prop := ∀ x ds M Q Q',(∀ d M',Q d M'->Q' d M')->rd x ds M Q->rd x ds M Q'
theorem jt {rd:D->List D->Mem->QD->Prop} {to:TEd} {t:TAd} (j:cK rd) (mo:aa to) (mt:bj t):aa (wBM rd to t):=fun ρ M Q Q' i q =>
 mo _ _ _ _ (fun x B ⟨e,n⟩=>⟨e,mt _ _ _ _ (fun ds M2 z=>j _ _ _ _ _ i z) n⟩) q
theorem xA {K:Frag} {M:Mem} {H:Hp} {x:D} {v:V} (rm:RM K M H) (r:RD K H x v) (h:∃ a xs,x = .ref a/\M a=some (.lst xs)):tyV K "list" v H:=by
 obtain ⟨a,xs,rfl,e⟩:=h
 cases RD.ref_iff.mp r
 obtain ⟨vs,ha,_⟩:=rm _ _ e
 exact .inl ⟨rfl,vs,SqL.of ha⟩
theorem ju {K:Frag} {rd:D->List D->Mem->QD->Prop} {r:V->List V->Hp->VK->Prop} {to:TEd} {t:TAd} (I:cK rd) (mo:aa to) (mt:bj t)
 (J:∀ v vs H Q,lMt K rd v vs H Q->r v vs H Q) (σ:St) (H:Hp) (Q:VK) (h:lE K (wBM rd to t) σ H Q):tBM K "list" r (lE K to) (lA K t) σ H Q:=by
 obtain ⟨ρ,M,rs,rm,q⟩:=h
 refine ⟨ρ,M,rs,rm,mo _ _ _ _ (fun x L ⟨e,O⟩ v H1 F j n=>⟨xA j n e, ?_⟩) q⟩
 refine ⟨ρ,L,rs.mono (F.stab rm),j,mt _ _ _ _ (fun ds M2 R vs H2 G z B => ?_) O⟩
 exact J v vs H2 Q ⟨x,ds,M2,z,n.mono (G.stab j),B,I _ _ _ _ _ (fun d M' k=>k.ext (F.trans G)) R⟩
theorem m6 {K:Frag} {rd:D->List D->Mem->QD->Prop} {r:V->List V->Hp->VK->Prop} {to:TEd} (z:cK rd) (mo:aa to)
 (B:∀ v vs H Q,lMt K rd v vs H Q->r v vs H Q) (σ:St) (H:Hp) (Q:VK) (h:lE K (wBM rd to bn) σ H Q):Av K "list" r (lE K to) σ H Q:=by
 obtain ⟨ρ,M,rs,rm,q⟩:=h
 refine ⟨ρ,M,rs,rm,mo _ _ _ _ (fun x F ⟨e,G⟩ v H1 I j n=>⟨xA j n e, ?_⟩) q⟩
 exact B v [] H1 Q ⟨x,[],F,j,n,RDs.nil,z _ _ _ _ _ (fun d M' k=>k.ext I) G⟩
noncomputable def jv:D->List D->Mem->QD->Prop:=fun x ds M Q => ∃ a xs y,x = .ref a/\ds=[y]/\M a=some (.lst xs)/\xs.length < sizeLine/\Q .non (ag M a (.lst (xs++[y])))
noncomputable def jw:D->List D->Mem->QD->Prop:=fun x ds M Q => ∃ a b xs ys,x = .ref a/\ds=[.ref b]/\M a=some (.lst xs)/\M b=some (.lst ys)/\xs.length+ys.length<=sizeLine/\Q .non (ag M a (.lst (xs++ys)))
noncomputable def m7:D->List D->Mem->QD->Prop:=fun x ds M Q => ∃ a xs,x = .ref a/\ds=[]/\M a=some (.lst xs)/\Q .non (ag M a (.lst []))
noncomputable def gL:D->List D->Mem->QD->Prop:=fun x ds M Q => ∃ a xs,x = .ref a/\ds=[]/\M a=some (.lst xs)/\Q .non (ag M a (.lst xs.reverse))
theorem gv:cK jv:=fun _ _ _ _ _ h ⟨a,xs,y,e1,e2,j,z,q⟩=>⟨a,xs,y,e1,e2,j,z,h _ _ q⟩
theorem gw:cK jw:=fun _ _ _ _ _ h ⟨a,b,xs,y,e1,e2,j,n,z,q⟩=>⟨a,b,xs,y,e1,e2,j,n,z,h _ _ q⟩
theorem iC:cK m7:=fun _ _ _ _ _ h ⟨a,xs,e1,e2,j,q⟩=>⟨a,xs,e1,e2,j,h _ _ q⟩
theorem fw:cK gL:=fun _ _ _ _ _ h ⟨a,xs,e1,e2,j,q⟩=>⟨a,xs,e1,e2,j,h _ _ q⟩
theorem et {K:Frag} {M:Mem} {H:Hp} {Q:VK} {d:D} {v:V} {a:Addr} {o0:O} {ds:List D} {vs:List V} (rm:RM K M H) (m:M a=some o0) (rd:RDs K H ds vs) (r:RD K H d v) (q:KE' K M H Q d (ag M a (.lst ds))) (w:fz (some o0)=false:=by rfl) :
 Q v (upd H a (.lst vs)):=by
 have st:Stab H (upd H a (.lst vs)):=rm.stabPut m w
 exact q v _ (Ext.put m w) (rm.put m ⟨vs,aw,rd.mono st⟩ w) (r.mono st)
theorem vI {K:Frag} (v:V) (vs:List V) (H:Hp) (Q:VK) (h:lMt K jv v vs H Q):oA v vs H Q:=by
 obtain ⟨x,ds,M,rm,rx,rs,a,xs,y,rfl,rfl,e,z,q⟩:=h
 cases RD.ref_iff.mp rx
 obtain ⟨w,rfl,rw'⟩:=rs.one
 obtain ⟨us,ha,ru⟩:=rm _ _ e
 exact ⟨a,us,w,rfl,rfl,ha,by rw [ru.length];exact z,et rm e (ru.append (RDs.cons rw' RDs.nil)) (RD.non_iff.mpr rfl) q⟩
theorem vJ {K:Frag} (v:V) (vs:List V) (H:Hp) (Q:VK) (h:lMt K jw v vs H Q):oB v vs H Q:=by
 obtain ⟨x,ds,M,rm,rx,rs,a,b,xs,y,rfl,rfl,e,e2,z,q⟩:=h
 cases RD.ref_iff.mp rx
 obtain ⟨w,rfl,rw'⟩:=rs.one
 cases RD.ref_iff.mp rw'
 obtain ⟨us,ha,ru⟩:=rm _ _ e
 obtain ⟨ws,hb,j⟩:=rm _ _ e2
 have l1:=ru.length
 have l2:=j.length
 exact ⟨a,b,us,ws,rfl,rfl,ha,hb,by lia,et rm e (ru.append j) (RD.non_iff.mpr rfl) q⟩
theorem yI {K:Frag} (v:V) (vs:List V) (H:Hp) (Q:VK) (h:lMt K m7 v vs H Q):sf v vs H Q:=by
 obtain ⟨x,ds,M,rm,rx,rs,a,xs,rfl,rfl,e,q⟩:=h
 cases RD.ref_iff.mp rx
 obtain ⟨us,ha,ru⟩:=rm _ _ e
 exact ⟨a,us,rfl,RDs.nil_iff.mp rs,ha,et rm e RDs.nil (RD.non_iff.mpr rfl) q⟩
theorem sV {K:Frag} (v:V) (vs:List V) (H:Hp) (Q:VK) (h:lMt K gL v vs H Q):lq v vs H Q:=by
 obtain ⟨x,ds,M,rm,rx,rs,a,xs,rfl,rfl,e,q⟩:=h
 cases RD.ref_iff.mp rx
 obtain ⟨us,ha,ru⟩:=rm _ _ e
 exact ⟨a,us,rfl,RDs.nil_iff.mp rs,ha,et rm e ru.reverse (RD.non_iff.mpr rfl) q⟩
noncomputable abbrev BT:=D->av->Option av
noncomputable abbrev BTs:=List D->av->Option av
noncomputable def bm (i:Nat):BT:=fun d ρ => some (ρ.set i (some d))
noncomputable def eR:BTs:=fun ds ρ => match ds with | [] => some ρ | _=>none
noncomputable def bE (b:BT) (bs:BTs):BTs:=fun ds ρ => match ds with | d::r=>(b d ρ).bind fun ρ'=>bs r ρ' | [] => none
noncomputable def jx (bs:BTs):BT:=fun d ρ => match d with | .tup ds=>bs ds ρ | _=>none
noncomputable def lG (K:Frag) (b:BT):TG:=fun v σ H Q => ∃ d ρ ρ',RD K H d v/\RS K H σ ρ /\ b d ρ = some ρ' /\ ∀ σ',RS K H σ' ρ'->Q σ' H
noncomputable def lGs (K:Frag) (b:BTs):TGs:=fun vs σ H Q => ∃ ds ρ ρ',RDs K H ds vs/\RS K H σ ρ /\ b ds ρ = some ρ' /\ ∀ σ',RS K H σ' ρ'->Q σ' H
theorem PG.imp {e:Expr} {t t':TG} (h:PG X e t) (i:∀ v σ H Q,t' v σ H Q->t v σ H Q):PG X e t':=fun pins s σ H v u Q I r q=>h pins s σ H v u Q I r (i _ _ _ _ q)
theorem PGs.imp {e:List Expr} {t t':TGs} (h:PGs X e t) (i:∀ v σ H Q,t' v σ H Q->t v σ H Q):PGs X e t':=fun pins s σ H v u Q I r q=>h pins s σ H v u Q I r (i _ _ _ _ q)
theorem yJ {i:Nat} {x:Str} {pos:Pos} (j:X.N.Nodup) (hi:X.N[i]? = some x) (hx:Loc X.env.scope x) (hf:X.fn x=true∨X.env.scope.names.lookup x=some .local):PG X (.Name x pos) (lG X.K (bm i)) :=
 PG.imp (ox j hi hx hf) fun v σ H Q ⟨d, ρ, ρ',r,rs,e,q⟩=>by
  cases e
  exact q _ (rs.set i r)
theorem yK:PGs X [] (lGs X.K eR):=PGs.imp xZ fun vs σ H Q ⟨ds, ρ, ρ',r,rs,e,q⟩=>by
 cases ds with
 | nil=>cases e;exact ⟨RDs.nil_iff.mp r,q σ rs⟩
 | cons _ _=>cases e
theorem vK {e:Expr} {es:List Expr} {b:BT} {bs:BTs} (h1:PG X e (lG X.K b)) (h2:PGs X es (lGs X.K bs)) (hs:(assignEach (e::es) X.env).map (·.2)=assign e X.env::(assignEach es X.env).map (·.2)) :
 PGs X (e::es) (lGs X.K (bE b bs)):=PGs.imp (uM h1 h2 hs) fun vs σ H Q ⟨ds, ρ, ρ',r,rs,e,q⟩=>by
 cases ds with
 | nil=>cases e
 | cons d ds =>
   obtain ⟨v,vr,rfl,j,n⟩:=RDs.cons_iff.mp r
   simp only [bE] at e
   cases e1:b d ρ with
   | none=>rw [e1] at e;cases e
   | some ρ1 =>
     rw [e1] at e
     exact ⟨v,vr,rfl,d, ρ, ρ1,j,rs,e1,fun σ' rs'=>⟨ds, ρ1, ρ',n,rs',e,q⟩⟩
theorem AU {es:List Expr} {k:Nat} {bs:BTs} {n:Nat} {pos:Pos} (hc:X.calm=true) (hlen:∀ ds ρ ρ',bs ds ρ = some ρ'->ds.length=n) (h:PGs X es (lGs X.K bs)) (hn:(assignEach es X.env).length=n) (j:(assignEach es X.env).findIdx? (·.1)=none) :
 PG X (.Tuple es k pos) (lG X.K (jx bs)):=PG.imp (Af hc h hn j) fun v σ H Q ⟨d, ρ, ρ',r,rs,e,q⟩=>by
 cases d with
 | tup ds =>
   obtain ⟨a,vs,rfl,ha,rv⟩:=RD.tupS r
   exact ⟨a,vs,rfl,ha,by rw [rv.length];exact hlen _ _ _ e,ds, ρ, ρ',rv,rs,e,q⟩
 | _=>cases e
noncomputable abbrev TId:=av->Mem->(List D->(Mem->Prop)->Mem->Prop)->Prop
noncomputable def bW (T:TId):Prop := ∀ ρ M Q Q',(∀ xs c M',Q xs c M'->Q' xs c M')->T ρ M Q->T ρ M Q'
noncomputable def Yl (H H':Hp):Prop:=H'=H ∨ ∃ q vs,H q=none/\H'=upd H q (.tup vs)
noncomputable def eS (K:Frag) (H1:Hp) (xs:List D) (chk:Mem->Prop) (J:It):Prop := ∀ M H,Stab H1 H->RM K M H->chk M -> ∀ i,(xs.length<=i->J.stop i H)/\(i < xs.length->J.go i H /\
 ∀ x H',J.yld i H x H'->Yl H H' /\ ∃ d,xs[i]? = some d/\RD K H' d x)
noncomputable def lI (K:Frag) (T:TId):TI:=fun σ H R => ∃ ρ M,RS K H σ ρ /\ RM K M H/\T ρ M (fun xs chk M1 => ∀ J H1,Ext M H M1 H1->RM K M1 H1->eS K H1 xs chk J->R J H1)
theorem PI.imp {tg e:Expr} {t t':TI} (h:PI X tg e t) (i:∀ σ H Q,t' σ H Q->t σ H Q):PI X tg e t':=fun pins s σ H Q I q=>h pins s σ H Q I (i _ _ _ q)
theorem Yl.ext {K:Frag} {M:Mem} {H H':Hp} (rm:RM K M H) (y:Yl H H'):Ext M H M H'/\RM K M H':=by
 rcases y with rfl | ⟨q,vs,n,rfl⟩
 ·exact ⟨Ext.refl,rm⟩
 ·exact ⟨Ext.new' n,rm.new n⟩
noncomputable def CY (K:Frag) (tl:TE):TI:=fun σ H R=>tl σ H fun x H1 => ∃ a,x = .ref a/\(((∃ xs,SqL K H1 a xs)/\R (Itl K a) H1)∨((∃ xs,SqT K H1 a xs)/\R (Itt K a) H1))
theorem AV {tg l:Expr} {tl:TE} (z:PE X l tl):PI X tg l (CY X.K tl):=by
 intro pins s σ H R I h
 refine thn (z pins s σ H _ I h) fun v s1 ⟨x,H1,j,B,F⟩ => ?_
 obtain ⟨a,e,q⟩:=F
 subst e
 cases B
 rcases q with ⟨⟨xs,n⟩,q⟩ | ⟨⟨xs,n⟩,q⟩
 ·obtain ⟨its,rv,p,hz⟩:=j.list n
  refine wpAny_pyIter_list p.isList ?_
  refine ⟨s1.heap.objs.size,[s1.heap.objs.size],_,_,H1,rfl,j.kept (t':=s1.toks) fun b o e=>Heap.get?_push_of_some _ e,rP a _,⟨_,Heap.get?_push_size _ rfl,rfl,rfl⟩,fun b hb => ?_,q⟩
  have e:b=s1.heap.objs.size:=by simpa using hb
  subst e
  exact j.fpOk (Nat.le_refl _) (j.hok.fresh (Nat.le_refl _))
 ·obtain ⟨its,rv,p,hz⟩:=j.tuple n
  refine wpAny_pyIter_tuple (show s1.heap.IsTuple a its.toArray from p) ?_
  refine ⟨s1.heap.objs.size,[s1.heap.objs.size],_,_,H1,rfl,j.kept (t':=s1.toks) fun b o e=>Heap.get?_push_of_some _ e,pX a _,⟨_,Heap.get?_push_size _ rfl,rfl,rfl⟩,fun b hb => ?_,q⟩
  have e:b=s1.heap.objs.size:=by simpa using hb
  subst e
  exact j.fpOk (Nat.le_refl _) (j.hok.fresh (Nat.le_refl _))
noncomputable def jy (ta:TEd):TId:=fun ρ M R=>ta ρ M fun x M1 => ∃ ds,ar M1 x=some ds/\R ds (fun M=>ar M x=some ds) M1
theorem vL {ta:TEd} (h:aa ta):bW (jy ta):=fun ρ M Q Q' i q=>h _ _ _ _ (fun x n ⟨ds,e,j⟩=>⟨ds,e,i _ _ _ j⟩) q
theorem sW {K:Frag} {H1:Hp} {a:Addr} {ds:List D} {chk:Mem->Prop} (h:∀ M H,Stab H1 H->RM K M H->chk M -> ∃ vs,SqL K H a vs/\RDs K H ds vs):eS K H1 ds chk (Itl K a):=fun M H st rm c i=>by
 obtain ⟨vs,sq,r⟩:=h M H st rm c
 have l:=r.length
 refine ⟨fun hi=>⟨vs,sq,by lia⟩,fun hi=>⟨⟨vs,vs[i]'(by lia),sq,List.getElem?_eq_getElem (by lia)⟩,fun x H' y => ?_⟩⟩
 obtain ⟨e,y⟩:=y
 subst e
 exact ⟨.inl rfl,r.getV (y vs sq)⟩
theorem AW {K:Frag} {H1:Hp} {a:Addr} {ds:List D} {chk:Mem->Prop} (h:∀ M H,Stab H1 H->RM K M H->chk M -> ∃ vs,SqT K H a vs/\RDs K H ds vs):eS K H1 ds chk (Itt K a):=fun M H st rm c i=>by
 obtain ⟨vs,sq,r⟩:=h M H st rm c
 have l:=r.length
 refine ⟨fun hi=>⟨vs,sq,by lia⟩,fun hi=>⟨⟨vs,vs[i]'(by lia),sq,List.getElem?_eq_getElem (by lia)⟩,fun x H' y => ?_⟩⟩
 obtain ⟨e,y⟩:=y
 subst e
 exact ⟨.inl rfl,r.getV (y vs sq)⟩
theorem AX {tg l:Expr} {ta:TEd} (m:aa ta) (B:PE X l (lE X.K ta)):PI X tg l (lI X.K (jy ta)):=by
 refine PI.imp (AV B) fun σ H R h => ?_
 obtain ⟨ρ,M,rs,rm,q⟩:=h
 refine ⟨ρ,M,rs,rm,m _ _ _ _ (fun x F ⟨ds,e,n⟩ v H1 z j rd1 => ?_) q⟩
 cases x with
 | tup es =>
   cases e
   obtain ⟨a,vs,rfl,ha,rv⟩:=RD.tupS rd1
   exact ⟨a,rfl, .inr ⟨⟨vs,ha⟩,n _ H1 z j (AW fun M' H' st _ _=>⟨vs,st.sqT ha,rv.mono st⟩)⟩⟩
 | con es =>
   cases e
   obtain ⟨a,vs,rfl,ha,rv⟩:=RD.con_iff.mp rd1
   exact ⟨a,rfl, .inl ⟨⟨vs,ha.sq⟩,n _ H1 z j (sW fun M' H' st _ _=>⟨vs,(st.sqF ha).sq,rv.mono st⟩)⟩⟩
 | ref a =>
   cases RD.ref_iff.mp rd1
   have get:∀ {M':Mem} {es:List D},ar M' (.ref a)=some es->M' a=some (.lst es):=fun {M' es} e=>by
    simp only [ar] at e
    cases e0:M' a with
    | none=>rw [e0] at e;cases e
    | some o =>
      rw [e0] at e
      cases o with
      | dct _ _=>cases e
      | fdc _=>cases e
      | lst es'=>cases e;rfl
   obtain ⟨vs,ha,rv⟩:=j _ _ (get e)
   exact ⟨a,rfl, .inl ⟨⟨vs,SqL.of ha⟩,n _ H1 z j (sW fun M' H' st rm' c=>by
    obtain ⟨us,hb,ru⟩:=rm' _ _ (get c)
    exact ⟨us,SqL.of hb,ru⟩)⟩⟩
 | _=>cases e
noncomputable def cN (lo:Int) (n:Nat):List D:=(List.range n).map fun i => .int (lo+(i:Nat))
theorem AY {K:Frag} {H1:Hp} {lo:Int} {n:Nat}:eS K H1 (cN lo n) (fun _=>True) (Itr lo n):=fun M H st rm c i=>by
 have l:(cN lo n).length=n:=by simp [cN]
 refine ⟨fun hi=>by show n<=i;lia,fun hi=>⟨by show i < n;lia,fun x H' y => ?_⟩⟩
 obtain ⟨e,y⟩:=y
 subst e y
 refine ⟨.inl rfl, .int (lo+i), ?_,RD.int_iff.mpr rfl⟩
 simp only [cN,List.getElem?_map,List.getElem?_range (show i < n by lia),Option.map_some]
noncomputable def iD (ta:TAd):TId:=fun ρ M R=>ta ρ M fun ds M1 => ∃ j:Int,ds=[.int j] /\ -(2 ^ 62)<=j/\j < 2 ^ 62/\R (cN 0 j.toNat) (fun _=>True) M1
theorem sX {ta:TAd} (h:bj ta):bW (iD ta):=fun ρ M Q Q' i q=>h _ _ _ _ (fun x z ⟨j,e,a,b,n⟩=>⟨j,e,a,b,i _ _ _ n⟩) q
theorem yL {tg a:Expr} {ta:TAd} {p pos:Pos} (m:bj ta) (z:Gl X "range") (hm:X.mg "range" = none) (ha:PA X [a] (lA X.K ta)) (hs:starEach [a] X.env=[(false,eval a X.env)]):PI X tg (.Call (.Name "range" p) [a] [] pos) (lI X.K (iD ta)):=by
 refine PI.imp (rQ z hm ha hs) fun σ H R h => ?_
 obtain ⟨ρ,M,rs,rm,q⟩:=h
 refine ⟨ρ,M,rs,rm,m _ _ _ _ (fun ds J ⟨j,e,B,F,G⟩ vs H1 I n rd1 => ?_) q⟩
 subst e
 obtain ⟨v,rfl,r⟩:=rd1.one
 cases RD.int_iff.mp r
 exact ⟨j,rfl,B,F,G _ H1 I n AY⟩
end
end
section
section
variable {X:Cx}
noncomputable def isT:D->Bool | .tup _=>true | _=>false
theorem cO {K:Frag} {M:Mem} {H:Hp} {x:D} {ds:List D} {v:V} (rm:RM K M H) (r:RD K H x v) (e:ar M x=some ds):∃ p vs,v = .ref p/\SqV K (isT x) H p vs/\RDs K H ds vs:=by
 cases x with
 | tup es =>
   cases e
   obtain ⟨a,vs,rfl,ha,rv⟩:=RD.tupS r
   exact ⟨a,vs,rfl,ha,rv⟩
 | con es =>
   cases e
   obtain ⟨a,vs,rfl,ha,rv⟩:=RD.con_iff.mp r
   exact ⟨a,vs,rfl,ha.sq,rv⟩
 | ref a =>
   cases RD.ref_iff.mp r
   simp only [ar] at e
   cases e0:M a with
   | none=>rw [e0] at e;cases e
   | some o =>
     rw [e0] at e
     cases o with
     | dct _ _=>cases e
     | fdc _=>cases e
     | lst es =>
       cases e
       obtain ⟨vs,ha,rv⟩:=rm _ _ e0
       exact ⟨a,vs,rfl,SqL.of ha,rv⟩
 | _=>cases e
noncomputable def eT (x y:D):D := .tup [x,y]
noncomputable def m8 (ta tb:TEd):TId:=fun ρ M R=>az ta (az tb bn) ρ M fun ds M1 => ∃ x y xs ys,ds=[x,y]/\ar M1 x=some xs/\ar M1 y=some ys/\R (List.zipWith eT xs ys) (fun M=>ar M x=some xs/\ar M y=some ys) M1
theorem vM {ta tb:TEd} (ha:aa ta) (hb:aa tb):bW (m8 ta tb):=fun ρ M Q Q' i q=>al ha (al hb am) _ _ _ _ (fun ds n ⟨x,y,xs,ys,e,e1,e2,j⟩=>⟨x,y,xs,ys,e,e1,e2,i _ _ _ j⟩) q
theorem gM {H:Hp} {p:Addr} {o:HO} (n:H p=none):Stab H (upd H p o):=⟨fun a xs e=>by rw [aj (fun z=>by rw [z,n] at e;cases e)];exact e,fun a o u e=>by rw [aj (fun z=>by rw [z,n] at e;cases e)];exact e⟩
theorem AZ {K:Frag} {H1:Hp} {x y:D} {xs ys:List D} {a b:Addr} (rx:RD K H1 x (.ref a)) (ry:RD K H1 y (.ref b)):eS K H1 (List.zipWith eT xs ys) (fun M=>ar M x=some xs/\ar M y=some ys) (Itz K (isT x) (isT y) a b):=fun M H st rm c i=>by
 obtain ⟨J,vs,e1,j,G⟩:=cO rm (rx.mono st) c.1
 obtain ⟨p2,us,e2,q,I⟩:=cO rm (ry.mono st) c.2
 cases e1
 cases e2
 have l1:=G.length
 have l2:=I.length
 have lz:(List.zipWith eT xs ys).length=min xs.length ys.length:=List.length_zipWith
 refine ⟨fun hi=>⟨vs,us,j,q,by lia⟩,fun hi=>⟨⟨vs,us,vs[i]'(by lia),us[i]'(by lia),j,q,List.getElem?_eq_getElem (by lia),List.getElem?_eq_getElem (by lia)⟩,fun v H' hy => ?_⟩⟩
 obtain ⟨p,v1,v2,n,rfl,rfl,g⟩:=hy
 obtain ⟨g1,g2⟩:=g vs us j q
 obtain ⟨d1,z,B⟩:=G.getV g1
 obtain ⟨d2,hd2,F⟩:=I.getV g2
 have sb:=gM (o := .tup [v1,v2]) n
 refine ⟨.inr ⟨p,[v1,v2],n,rfl⟩, .tup [d1,d2], ?_,RD.tup_mk ⟨p,[v1,v2],rfl,aw,RDs.cons (B.mono sb) (RDs.cons (F.mono sb) RDs.nil)⟩⟩
 rw [List.getElem?_zipWith,z,hd2];rfl
theorem B3 {elts:List Expr} {cx} {pos p pos':Pos} {a b:Expr} {ta tb:TEd} (ma:aa ta) (mb:aa tb) (F:Gl X "zip") (hm:X.mg "zip" = none) (ha:PA X [a,b] (lA X.K (az ta (az tb bn)))) (hs:starEach [a,b] X.env=[(false,eval a X.env),(false,eval b X.env)]) (n:starEach [b] X.env=[(false,eval b X.env)]) :
 PI X (.Tuple elts cx pos) (.Call (.Name "zip" p) [a,b] [] pos') (lI X.K (m8 ta tb)):=by
 refine PI.imp (AC F hm ha hs n) fun σ H R h => ?_
 obtain ⟨ρ,M,rs,rm,q⟩:=h
 refine ⟨ρ,M,rs,rm,al ma (al mb am) _ _ _ _ (fun ds L ⟨x,y,xs,ys,e,e1,e2,G⟩ vs H1 I j rd1 => ?_) q⟩
 subst e
 obtain ⟨v,u,rfl,z,B⟩:=rd1.two
 obtain ⟨J,vs,rfl,s1,_⟩:=cO j z e1
 obtain ⟨p2,us,rfl,s2,_⟩:=cO j B e2
 exact ⟨J,p2,isT x,isT y,vs,us,rfl,s1,s2,G _ H1 I j (AZ z B)⟩
noncomputable def z3D (xs ys zs:List D):List D:=List.zipWith (fun x p => .tup [x,p.1,p.2]) xs (ys.zip zs)
noncomputable def iE (ta tb tc:TEd):TId:=fun ρ M R=>az ta (az tb (az tc bn)) ρ M fun ds M1 => ∃ xs y ys zs,ds=[.tup xs,y, .tup zs]/\isT y=false/\ar M1 y=some ys/\R (z3D xs ys zs) (fun M=>ar M y=some ys) M1
theorem sY {ta tb tc:TEd} (ha:aa ta) (hb:aa tb) (hc:aa tc):bW (iE ta tb tc):=fun ρ M Q Q' i q=>al ha (al hb (al hc am)) _ _ _ _ (fun ds n ⟨xs,y,ys,zs,e,e1,e2,j⟩=>⟨xs,y,ys,zs,e,e1,e2,i _ _ _ j⟩) q
theorem yM {K:Frag} {H1:Hp} {y:D} {xs ys zs:List D} {a b c:Addr} (hy:isT y=false) (rx:RD K H1 (.tup xs) (.ref a)) (ry:RD K H1 y (.ref b)) (rz:RD K H1 (.tup zs) (.ref c)):eS K H1 (z3D xs ys zs) (fun M=>ar M y=some ys) (vg K true false true a b c):=fun M H st rm cc i=>by
 obtain ⟨Y,vs,e1,q,O⟩:=RD.tupS (rx.mono st)
 obtain ⟨p2,us,e2,j,R⟩:=cO rm (ry.mono st) cc
 obtain ⟨Z,ws,U,z,S⟩:=RD.tupS (rz.mono st)
 cases e1
 cases e2
 cases U
 rw [hy] at j
 have l1:=O.length
 have l2:=R.length
 have l3:=S.length
 have lz:(z3D xs ys zs).length=min xs.length (min ys.length zs.length):=by unfold z3D;rw [List.length_zipWith,List.length_zip]
 refine ⟨fun hi=>⟨vs,us,ws,q,j,z,by lia⟩,fun hi=>⟨⟨vs,us,ws,vs[i]'(by lia),us[i]'(by lia),ws[i]'(by lia),q,j,z,List.getElem?_eq_getElem (by lia),List.getElem?_eq_getElem (by lia),List.getElem?_eq_getElem (by lia)⟩,fun v H' hy => ?_⟩⟩
 obtain ⟨p,v1,v2,B,n,rfl,rfl,g⟩:=hy
 obtain ⟨g1,g2,g3⟩:=g vs us ws q j z
 obtain ⟨d1,F,G⟩:=O.getV g1
 obtain ⟨d2,hd2,I⟩:=R.getV g2
 obtain ⟨d3,J,L⟩:=S.getV g3
 have sb:=gM (o := .tup [v1,v2,B]) n
 refine ⟨.inr ⟨p,[v1,v2,B],n,rfl⟩, .tup [d1,d2,d3], ?_,RD.tup_mk ⟨p,[v1,v2,B],rfl,aw,RDs.cons (G.mono sb) (RDs.cons (I.mono sb) (RDs.cons (L.mono sb) RDs.nil))⟩⟩
 unfold z3D
 rw [List.getElem?_zipWith,F,List.zip,List.getElem?_zipWith,hd2,J]
theorem RDs.three {K:Frag} {H:Hp} {x y z:D} {vs:List V} (h:RDs K H [x,y,z] vs):∃ a b c,vs=[a,b,c]/\RD K H x a/\RD K H y b/\RD K H z c:=by
 obtain ⟨a,r,rfl,h1,h⟩:=RDs.cons_iff.mp h
 obtain ⟨b,r,rfl,h2,h⟩:=RDs.cons_iff.mp h
 obtain ⟨c,r,rfl,j,h⟩:=RDs.cons_iff.mp h
 cases RDs.nil_iff.mp h
 exact ⟨a,b,c,rfl,h1,h2,j⟩
theorem yN {elts:List Expr} {cx} {pos p pos':Pos} {a b c:Expr} {ta tb tc:TEd} (ma:aa ta) (mb:aa tb) (mc:aa tc) (G:Gl X "zip") (hm:X.mg "zip" = none) (ha:PA X [a,b,c] (lA X.K (az ta (az tb (az tc bn))))) (hs:starEach [a,b,c] X.env=[(false,eval a X.env),(false,eval b X.env),(false,eval c X.env)]) (n:starEach [b,c] X.env=[(false,eval b X.env),(false,eval c X.env)]) :
 PI X (.Tuple elts cx pos) (.Call (.Name "zip" p) [a,b,c] [] pos') (lI X.K (iE ta tb tc)):=by
 refine PI.imp (yh G hm ha hs n) fun σ H R h => ?_
 obtain ⟨ρ,M,rs,rm,q⟩:=h
 refine ⟨ρ,M,rs,rm,al ma (al mb (al mc am)) _ _ _ _ (fun ds S ⟨xs,y,ys,zs,e,e1,e2,I⟩ vs H1 J j rd1 => ?_) q⟩
 subst e
 obtain ⟨v,u,t,rfl,z,B,F⟩:=rd1.three
 obtain ⟨L,vs,rfl,s1,_⟩:=RD.tupS z
 obtain ⟨p2,us,rfl,s2,_⟩:=cO j B e2
 obtain ⟨O,ws,rfl,s3,_⟩:=RD.tupS F
 rw [e1] at s2
 exact ⟨L,p2,O,vs,us,ws,rfl,s1,s2,s3,I _ H1 J j (yM e1 z B F)⟩
end
end
section
section
variable {X:Cx}
noncomputable def eU (xs:List D):List D:=xs.mapIdx fun i x => .tup [.int (i:Nat),x]
noncomputable def iF (ta:TEd):TId:=fun ρ M R=>ta ρ M fun x M1 => ∃ xs,ar M1 x=some xs/\R (eU xs) (fun M=>ar M x=some xs) M1
theorem sZ {ta:TEd} (h:aa ta):bW (iF ta):=fun ρ M Q Q' i q=>h _ _ _ _ (fun x n ⟨ds,e,j⟩=>⟨ds,e,i _ _ _ j⟩) q
theorem B4 {K:Frag} {H1:Hp} {x:D} {xs:List D} {a:Addr} (rx:RD K H1 x (.ref a)):eS K H1 (eU xs) (fun M=>ar M x=some xs) (Ite K (isT x) a):=fun M H st rm c i=>by
 obtain ⟨F,vs,e1,j,B⟩:=cO rm (rx.mono st) c
 cases e1
 have l1:=B.length
 have lz:(eU xs).length=xs.length:=by simp [eU]
 refine ⟨fun hi=>⟨vs,j,by lia⟩,fun hi=>⟨⟨vs,vs[i]'(by lia),j,List.getElem?_eq_getElem (by lia)⟩,fun v H' hy => ?_⟩⟩
 obtain ⟨p,v1,n,rfl,rfl,g⟩:=hy
 obtain ⟨d1,q,z⟩:=B.getV (g vs j)
 have sb:=gM (o := .tup [.int (i:Nat),v1]) n
 refine ⟨.inr ⟨p,[.int (i:Nat),v1],n,rfl⟩, .tup [.int (i:Nat),d1], ?_,RD.tup_mk ⟨p,[.int (i:Nat),v1],rfl,aw,RDs.cons (RD.int_iff.mpr rfl) (RDs.cons (z.mono sb) RDs.nil)⟩⟩
 simp [eU,List.getElem?_mapIdx,q]
theorem yO {elts:List Expr} {cx} {pos p pos':Pos} {a:Expr} {ta:TEd} (ma:aa ta) (z:Gl X "enumerate") (hm:X.mg "enumerate" = none) (ha:PA X [a] (lA X.K (az ta bn))) (hs:starEach [a] X.env=[(false,eval a X.env)]) :
 PI X (.Tuple elts cx pos) (.Call (.Name "enumerate" p) [a] [] pos') (lI X.K (iF ta)):=by
 refine PI.imp (yj z hm ha hs) fun σ H R h => ?_
 obtain ⟨ρ,M,rs,rm,q⟩:=h
 refine ⟨ρ,M,rs,rm,ma _ _ _ _ (fun x I ⟨xs,e1,B⟩ vs H1 F j rd1 => ?_) q⟩
 obtain ⟨v,rfl,n⟩:=rd1.one
 obtain ⟨G,us,rfl,s1,_⟩:=cO j n e1
 exact ⟨G,isT x,us,rfl,s1,B _ H1 F j (B4 n)⟩
end
end
section
noncomputable abbrev NC:=av->Mem->List D->Prop
noncomputable abbrev TCd:=av->Mem->List D->NC->Prop
noncomputable def bX (T:TCd):Prop := ∀ ρ M acc N N',(∀ ρ' M' acc',N ρ' M' acc'->N' ρ' M' acc')->T ρ M acc N->T ρ M acc N'
structure ExtP (p:Addr) (M:Mem) (H:Hp) (M':Mem) (H':Hp):Prop where
 kp:∀ a o,a≠p->fz (M a)=true->H a=some o->H' a=some o
 nw:∀ a o,fz (M a)=true->H a=some o->M' a=M a
section
variable {K:Frag} {M M' M'':Mem} {H H' H'':Hp} {p:Addr}
theorem ExtP.new (x:ExtP p M H M' H') (a:Addr) (o:HO) (n:M a=none) (e:H a=some o):M' a=none:=(x.nw a o (by rw [n];rfl) e).trans n
theorem Ext.toP (x:Ext M H M' H'):ExtP p M H M' H':=⟨fun a o _=>x.kp a o,x.nw⟩
theorem ExtP.refl:ExtP p M H M H:=⟨fun _ _ _ _ h=>h,fun _ _ _ _=>rfl⟩
theorem ExtP.trans {vs:List V} (a:ExtP p M H M' H') (hp:H p=some (.lst vs)) (j:∃ vs',H' p=some (.lst vs')) (b:ExtP p M' H' M'' H''):ExtP p M H M'' H'' :=
 ⟨fun c o ne n h=>b.kp c o ne (by rw [a.nw c o n h];exact n) (a.kp c o ne n h),fun c o n h=>by
   have n':fz (M' c)=true:=by rw [a.nw c o n h];exact n
   refine Eq.trans ?_ (a.nw c o n h)
   by_cases z:c=p
   ·subst z
    obtain ⟨vs',e⟩:=j
    exact b.nw c _ n' e
   ·exact b.nw c o n' (a.kp c o z n h)⟩
theorem ExtP.stab {vs:List V} (r:RM K M H) (hp:H p=some (.lst vs)) (x:ExtP p M H M' H'):Stab H H' where
 tup:=fun a xs e=>x.kp a _ (fun z=>by subst z;rw [hp] at e;cases e) (by rw [r.fzT e];rfl) e
 frz:=fun a o u e=>x.kp a _ (fun z=>by subst z;rw [hp] at e;cases e) (r.fzF e) e
theorem m9 {vs:List V} {ho:HO} (hp:H p=some (.lst vs)):Stab H (upd H p ho) :=
 ⟨fun a xs e=>by rw [aj (fun z=>by subst z;rw [hp] at e;cases e)];exact e,fun a o u e=>by rw [aj (fun z=>by subst z;rw [hp] at e;cases e)];exact e⟩
theorem RM.side {vs:List V} {ho:HO} (r:RM K M H) (n:M p=none) (hp:H p=some (.lst vs)):RM K M (upd H p ho):=fun a o e=>by
 have ne:a≠p:=fun z=>by subst z;rw [n] at e;cases e
 exact (r a o e).mono (m9 hp) fun j q=>by rw [aj ne];exact q
end
noncomputable def fW (K:Frag) (H:Hp) (p:Addr) (acc:List D):Prop := ∃ vs,H p=some (.lst vs)/\RDs K H acc vs
noncomputable def KC (K:Frag) (p:Addr) (M:Mem) (H:Hp) (N:St->Hp->Prop):NC:=fun ρ' M' acc' => ∀ σ' H',ExtP p M H M' H'->RS K H' σ' ρ'->RM K M' H'->fW K H' p acc'->N σ' H'
noncomputable def lC (K:Frag) (p:Addr) (T:TCd):TC:=fun σ H N => ∃ ρ M acc,RS K H σ ρ /\ RM K M H/\M p=none/\fW K H p acc/\T ρ M acc (KC K p M H N)
theorem KC.ext {K:Frag} {p:Addr} {M M2 M':Mem} {H H2:Hp} {N:St->Hp->Prop} {ρ:av} {acc:List D} {vs:List V} (hp:H p=some (.lst vs)) (j:∃ vs',H2 p=some (.lst vs')) (x:ExtP p M H M2 H2) (h:KC K p M H N ρ M' acc):KC K p M2 H2 N ρ M' acc :=
 fun σ' H' y=>h σ' H' (x.trans hp j y)
noncomputable def ce (te:TEd):TCd:=fun ρ M acc N=>te ρ M fun x M1=>acc.length < sizeLine/\N ρ M1 (acc++[x])
noncomputable def bq:List TTd->TCd->TCd
 | [],tb=>tb
 | t::r,tb=>fun ρ M acc N=>t ρ M fun b M1=>if b=true then bq r tb ρ M1 acc N else N ρ M1 acc
noncomputable def bQ (b:BT) (tb:TCd) (chk:Mem->Prop) (N:NC):List D->NC
 | [] => fun ρ M acc=>chk M/\N ρ M acc
 | x::xs=>fun ρ M acc=>chk M /\ ∃ ρ',b x ρ = some ρ'/\tb ρ' M acc (bQ b tb chk N xs)
noncomputable def cC (src:TId) (b:BT) (tb:TCd):TCd:=fun ρ M acc N=>src ρ M fun xs chk M1=>bQ b tb chk N xs ρ M1 acc
noncomputable def fX (fr:List (Option Nat)) (src:TId) (b:BT) (tb:TCd):TEd:=fun ρ M Q=>src ρ M fun xs chk M1=>bQ b tb chk (fun _ M' acc => ∀ p,M' p=none->Q (.ref p) (ag M' p (.lst acc))) xs (jm fr ρ) M1 []
theorem bA {te:TEd} (h:aa te):bX (ce te):=fun ρ M acc N N' i q=>h _ _ _ _ (fun x n ⟨z,j⟩=>⟨z,i _ _ _ j⟩) q
theorem aO {tb:TCd} (hb:bX tb):∀ {ts:List TTd},(∀ t∈ts,aB t)->bX (bq ts tb)
 | [],_=>hb
 | t::r,h=>fun ρ M acc N N' i q=>h t List.mem_cons_self _ _ _ _ (fun b z j=>by
   cases b with
   | true=>rw [if_pos rfl] at j ⊢;exact aO hb (fun t' n=>h t' (List.mem_cons_of_mem _ n)) _ _ _ _ _ i j
   | false=>rw [if_neg Bool.false_ne_true] at j ⊢;exact i _ _ _ j) q
theorem fx {b:BT} {tb:TCd} (hb:bX tb) {chk:Mem->Prop} {N N':NC} (i:∀ ρ' M' acc',N ρ' M' acc'->N' ρ' M' acc'):∀ (xs:List D) (ρ:av) (M:Mem) (acc:List D),bQ b tb chk N xs ρ M acc->bQ b tb chk N' xs ρ M acc
 | [], ρ,M,acc,h=>⟨h.1,i _ _ _ h.2⟩
 | x::xs, ρ,M,acc,⟨c, ρ',e,q⟩=>⟨c, ρ',e,hb _ _ _ _ _ (fun ρ2 M2 j n=>fx hb i xs ρ2 M2 j n) q⟩
theorem gx {src:TId} {b:BT} {tb:TCd} (hs:bW src) (hb:bX tb):bX (cC src b tb):=fun ρ M acc N N' i q=>hs _ _ _ _ (fun xs c n j=>fx hb i xs _ _ _ j) q
theorem kb {fr:List (Option Nat)} {src:TId} {b:BT} {tb:TCd} (hs:bW src) (hb:bX tb):aa (fX fr src b tb):=fun ρ M Q Q' i q =>
 hs _ _ _ _ (fun xs c B j=>fx hb (fun _ M' acc z p n=>i _ _ (z p n)) xs _ _ _ j) q
section
variable {K:Frag} {p:Addr}
theorem fy {te:TEd} (m:aa te) (σ:St) (H:Hp) (N:St->Hp->Prop) (h:lC K p (ce te) σ H N):xw p (lE K te) σ H N:=by
 obtain ⟨ρ,M,acc,rs,rm,n,⟨vs,hp,ra⟩,q⟩:=h
 refine ⟨ρ,M,rs,rm,m _ _ _ _ (fun x O ⟨z,J⟩ v H1 F G I => ?_) q⟩
 have j:=F.keep p _ n hp
 have L:=F.new p _ n hp
 have st:=F.stab rm
 have B:Stab H1 (upd H1 p (.lst (vs++[v]))):=m9 j
 refine ⟨vs,j,by rw [ra.length];exact z,J σ _ ⟨fun a o ne m' e => ?_,F.nw⟩ ((rs.mono st).mono B) (G.side L j) ⟨vs++[v],aw,((ra.mono st).mono B).append (RDs.cons (I.mono B) RDs.nil)⟩⟩
 rw [aj ne]
 exact F.kp a o m' e
theorem iG {tb:TCd} (mb:bX tb):∀ {ts:List TTd},(∀ t∈ts,aB t) -> ∀ (σ:St) (H:Hp) (N:St->Hp->Prop),lC K p (bq ts tb) σ H N->ig (ts.map (lT K)) (lC K p tb) σ H N
 | [],_, σ,H,N,h=>h
 | t::r,hm, σ,H,N,h=>by
   obtain ⟨ρ,M,acc,rs,rm,n,⟨vs,hp,ra⟩,q⟩:=h
   refine ⟨ρ,M,rs,rm,hm t List.mem_cons_self _ _ _ _ (fun b I F H1 z B => ?_) q⟩
   have j:=z.keep p _ n hp
   have J:=z.new p _ n hp
   have st:=z.stab rm
   cases b with
   | false =>
     rw [if_neg Bool.false_ne_true] at F
     dsimp only
     rw [if_neg Bool.false_ne_true]
     exact F σ H1 z.toP (rs.mono st) B ⟨vs,j,ra.mono st⟩
   | true =>
     rw [if_pos rfl] at F
     dsimp only
     rw [if_pos rfl]
     exact iG mb (fun t' G=>hm t' (List.mem_cons_of_mem _ G)) σ H1 N ⟨ρ,I,acc,rs.mono st,B,J,⟨vs,j,ra.mono st⟩,
      aO mb (fun t' G=>hm t' (List.mem_cons_of_mem _ G)) _ _ _ _ _ (fun ρ' M' acc' k=>k.ext hp ⟨vs,j⟩ z.toP) F⟩
theorem kc {b:BT} {tb:TCd} (mb:bX tb) {xs:List D} {chk:Mem->Prop} {J:It} {H1:Hp} {B:Mem} {Nd:NC} {N:St->Hp->Prop} {σ:St} {ρ:av} {acc:List D} (it:eS K H1 xs chk J) (rs:RS K H1 σ ρ) (rm:RM K B H1) (n:B p=none)
 (ac:fW K H1 p acc) (q:bQ b tb chk Nd xs ρ B acc) (Y:∀ ρ' M' acc' σ' H',ExtP p B H1 M' H'->RS K H' σ' ρ'->RM K M' H'->fW K H' p acc'->Nd ρ' M' acc'->N σ' H') :
 cr J (lG K b) (lC K p tb) N σ H1:=by
 obtain ⟨Z,F,_⟩:=id ac
 refine ⟨fun i m σ H=>m=xs.length - i/\i<=xs.length /\ ∃ ρ M acc,RS K H σ ρ /\ RM K M H/\M p=none/\fW K H p acc/\ExtP p B H1 M H/\bQ b tb chk Nd (xs.drop i) ρ M acc,⟨xs.length,by simp,Nat.zero_le _, ρ,B,acc,rs,rm,n,ac,ExtP.refl,q⟩, ?_⟩
 rintro i m σ H ⟨rfl,hi, ρ,M,acc,rs,j,n,ac,x,q⟩
 have st:=x.stab rm F
 obtain ⟨vs,hp,ra⟩:=id ac
 by_cases z:i < xs.length
 ·rw [List.drop_eq_getElem_cons z] at q
  obtain ⟨c, ρ',hb,q⟩:=q
  obtain ⟨go,yl⟩:=(it M H st j c i).2 z
  refine .inr ⟨go,fun σ' H' => ∃ m',m' < xs.length - i/\(m'=xs.length - (i+1)/\i+1<=xs.length /\ ∃ ρ M acc,RS K H' σ' ρ /\ RM K M H'/\M p=none/\fW K H' p acc/\ExtP p B H1 M H'/\bQ b tb chk Nd (xs.drop (i+1)) ρ M acc),fun σ' H' h=>h,fun x' H' y => ?_⟩
  obtain ⟨yy,d,hd,rd⟩:=yl x' H' y
  rw [List.getElem?_eq_getElem z] at hd
  cases hd
  obtain ⟨xy,rmy⟩:=yy.ext j
  have sty:=xy.stab j
  have G:=xy.keep p _ n hp
  refine ⟨_, ρ, ρ',rd,rs.mono sty,hb,fun σ2 L => ?_⟩
  refine ⟨ρ',M,acc,L,rmy,n,⟨vs,G,ra.mono sty⟩,mb _ _ _ _ _ (fun ρ3 U I q3 σ3 H3 x3 O R S => ?_) q⟩
  have n3:U p=none:=x3.new p _ n G
  exact ⟨xs.length - (i+1),by lia,rfl,z, ρ3,U,I,O,R,n3,S,(x.trans F ⟨vs,hp⟩ xy.toP).trans F ⟨vs,G⟩ x3,q3⟩
 ·have e:i=xs.length:=by lia
  subst e
  rw [List.drop_length] at q
  exact .inl ⟨(it M H st j q.1 _).1 (Nat.le_refl _),Y ρ M acc σ H x rs j ac q.2⟩
theorem gy {src:TId} {b:BT} {tb:TCd} (ms:bW src) (mb:bX tb) (σ:St) (H:Hp) (N:St->Hp->Prop) (h:lC K p (cC src b tb) σ H N):(lI K src) σ H fun J H1=>cr J (lG K b) (lC K p tb) N σ H1:=by
 obtain ⟨ρ,M,acc,rs,rm,n,⟨vs,hp,ra⟩,q⟩:=h
 refine ⟨ρ,M,rs,rm,ms _ _ _ _ (fun xs chk I F J H1 z B it => ?_) q⟩
 have j:=z.keep p _ n hp
 have G:=z.new p _ n hp
 have st:=z.stab rm
 exact kc mb it (rs.mono st) B G ⟨vs,j,ra.mono st⟩ F fun ρ' M' acc' σ' H' x2 rs' rm' ac' k=>k σ' H' (z.toP.trans hp ⟨vs,j⟩ x2) rs' rm' ac'
theorem dL {fr:List (Option Nat)} {src:TId} {b:BT} {tb:TCd} (ms:bW src) (mb:bX tb) (σ:St) (H:Hp) (Q:VK) (h:lE K (fX fr src b tb) σ H Q):qh (lI K src) (lG K b) (fun p=>lC K p tb) fr σ H Q:=by
 obtain ⟨ρ,M,rs,rm,q⟩:=h
 refine ⟨ρ,M,rs,rm,ms _ _ _ _ (fun xs chk F L J H1 B j it p n => ?_) q⟩
 have st:=B.stab rm
 have xn:Ext F H1 F (upd H1 p (.lst [])):=Ext.new' n
 have stn:=xn.stab j
 have I:F p=none:=j.out n
 refine kc (p:=p) mb (xs:=xs) (chk:=chk) (fun M' H' st'=>it M' H' ⟨fun a xs e=>st'.tup _ _ (stn.tup _ _ e),fun a o u e=>st'.frz _ _ _ (stn.frz _ _ _ e)⟩) (((rs.mono st).mono stn).inh fr) (j.new n) I ⟨[],aw,RDs.nil⟩ L fun ρ' M' acc' σ' H' G rs' rm' ac' k => ?_
 obtain ⟨vs,hp,ra⟩:=ac'
 have n':M' p=none:=G.new p _ I aw
 refine k p n' (.ref p) H' ⟨fun a o m e => ?_,fun a o m e => ?_⟩ (fun a o e => ?_) (RD.ref_iff.mpr rfl)
 ·have e1:=B.kp a o m e
  have ne:a≠p:=fun z=>by subst z;rw [n] at e1;cases e1
  exact G.kp a o ne (by rw [B.nw a o m e];exact m) (by rw [aj ne];exact e1)
 ·have e1:=B.kp a o m e
  have ne:a≠p:=fun z=>by subst z;rw [n] at e1;cases e1
  rw [aK ne]
  exact (G.nw a o (by rw [B.nw a o m e];exact m) (by rw [aj ne];exact e1)).trans (B.nw a o m e)
 ·by_cases z:a=p
  ·subst z
   rw [ad] at e;cases e
   exact ⟨vs,hp,ra⟩
  ·rw [aK z] at e
   exact rm' a o e
end
end
section
noncomputable def fY:TSd:=fun D ρ M=>D.nx ρ M
noncomputable def md (t u:TSd):TSd:=fun D ρ M=>t { D with nx:=u D } ρ M
noncomputable def fA:TSd:=fun D ρ M=>D.bk ρ M
noncomputable def iH:TSd:=fun D ρ M=>D.ct ρ M
noncomputable def iI (te:TEd):TSd:=fun D ρ M=>te ρ M fun _ M1=>D.nx ρ M1
noncomputable def mf (te:TEd):TSd:=fun D ρ M=>te ρ M D.rt
noncomputable def sIf (c:TTd) (t u:TSd):TSd:=fun D ρ M=>c ρ M fun b M1=>if b=true then t D ρ M1 else u D ρ M1
noncomputable def gO (te:TEd) (b:BT):TSd:=fun D ρ M=>te ρ M fun x M1 => ∃ ρ',b x ρ = some ρ'/\D.nx ρ' M1
noncomputable def mj (ta:TAd) (bs:BTs):TSd:=fun D ρ M=>ta ρ M fun xs M1 => ∃ ρ',bs xs ρ = some ρ'/\D.nx ρ' M1
noncomputable def bO (b:BT) (tb:TSd) (chk:Mem->Prop) (D:bu):List Mi.D->av->Mem->Prop
 | [] => fun ρ M=>chk M/\D.nx ρ M
 | x::xs=>fun ρ M=>chk M /\ ∃ ρ',b x ρ = some ρ'/\tb { D with nx:=bO b tb chk D xs,ct:=bO b tb chk D xs,bk:=D.nx } ρ' M
noncomputable def mn (src:TId) (b:BT) (tb:TSd):TSd:=fun D ρ M=>src ρ M fun xs chk M1=>bO b tb chk D xs ρ M1
noncomputable def bb (c:TTd) (tb:TSd) (D:bu):Nat->av->Mem->Prop
 | 0=>fun _ _=>False
 | n+1=>fun ρ M=>c ρ M fun b M1=>if b=true then tb { D with nx:=bb c tb D n,ct:=bb c tb D n,bk:=D.nx } ρ M1 else D.nx ρ M1
noncomputable def fB (c:TTd) (tb:TSd):TSd:=fun D ρ M => ∃ n,bb c tb D n ρ M
theorem ke:aC fY:=fun _ _ _ _ h q=>h.nx _ _ q
theorem qu:aC fA:=fun _ _ _ _ h q=>h.bk _ _ q
theorem t5:aC iH:=fun _ _ _ _ h q=>h.ct _ _ q
theorem t6 {t u:TSd} (j:aC t) (n:aC u):aC (md t u):=fun a b ρ M h q=>j { a with nx:=u a } { b with nx:=u b } _ _ ⟨fun ρ' M' q'=>n _ _ _ _ h q',h.rt,h.bk,h.ct⟩ q
theorem t7 {te:TEd} (h:aa te):aC (iI te):=fun a b ρ M i q=>h _ _ _ _ (fun _ n j=>i.nx _ _ j) q
theorem vN {te:TEd} (h:aa te):aC (mf te):=fun a b ρ M i q=>h _ _ _ _ (fun d n j=>i.rt _ _ j) q
theorem vO {c:TTd} {t u:TSd} (hc:aB c) (n:aC t) (z:aC u):aC (sIf c t u):=fun a b ρ M i q=>hc _ _ _ _ (fun k B j=>by
 cases k with
 | true=>rw [if_pos rfl] at j ⊢;exact n _ _ _ _ i j
 | false=>rw [if_neg Bool.false_ne_true] at j ⊢;exact z _ _ _ _ i j) q
theorem vP {te:TEd} {bt:BT} (h:aa te):aC (gO te bt):=fun a b ρ M i q=>h _ _ _ _ (fun d n ⟨ρ',e,j⟩=>⟨ρ',e,i.nx _ _ j⟩) q
theorem vQ {ta:TAd} {bs:BTs} (h:bj ta):aC (mj ta bs):=fun a b ρ M i q=>h _ _ _ _ (fun d n ⟨ρ',e,j⟩=>⟨ρ',e,i.nx _ _ j⟩) q
theorem fC {bt:BT} {tb:TSd} (hb:aC tb) {chk:Mem->Prop} {a b:bu} (i:LeD a b):∀ (xs:List D) (ρ:av) (M:Mem),bO bt tb chk a xs ρ M->bO bt tb chk b xs ρ M
 | [], ρ,M,h=>⟨h.1,i.nx _ _ h.2⟩
 | x::xs, ρ,M,⟨c, ρ',e,q⟩=>⟨c, ρ',e,hb { a with nx:=bO bt tb chk a xs,ct:=bO bt tb chk a xs,bk:=a.nx } { b with nx:=bO bt tb chk b xs,ct:=bO bt tb chk b xs,bk:=b.nx } _ _ ⟨fun ρ2 M2 j=>fC hb i xs ρ2 M2 j,i.rt,i.nx,fun ρ2 M2 j=>fC hb i xs ρ2 M2 j⟩ q⟩
theorem vR {src:TId} {bt:BT} {tb:TSd} (hs:bW src) (hb:aC tb):aC (mn src bt tb):=fun a b ρ M i q=>hs _ _ _ _ (fun xs c n j=>fC hb i xs _ _ j) q
theorem dS {c:TTd} {tb:TSd} (hc:aB c) (hb:aC tb) {a b:bu} (i:LeD a b):∀ (n:Nat) (ρ:av) (M:Mem),bb c tb a n ρ M->bb c tb b n ρ M
 | 0, ρ,M,h=>h
 | n+1, ρ,M,h=>hc _ _ _ _ (fun k z j=>by
   cases k with
   | true=>rw [if_pos rfl] at j ⊢;exact hb { a with nx:=bb c tb a n,ct:=bb c tb a n,bk:=a.nx } { b with nx:=bb c tb b n,ct:=bb c tb b n,bk:=b.nx } _ _ ⟨fun ρ2 M2 q=>dS hc hb i n ρ2 M2 q,i.rt,i.nx,fun ρ2 M2 q=>dS hc hb i n ρ2 M2 q⟩ j
   | false=>rw [if_neg Bool.false_ne_true] at j ⊢;exact i.nx _ _ j) h
theorem qv {c:TTd} {tb:TSd} (hc:aB c) (hb:aC tb):aC (fB c tb):=fun a b ρ M i ⟨n,q⟩=>⟨n,dS hc hb i n _ _ q⟩
section
variable {K:Frag}
theorem kf (D:bC) (σ:St) (H:Hp) (h:lS K fY D σ H):pV D σ H:=by
 obtain ⟨ρ,M,A,rs,rm,l,q⟩:=h
 exact l.nx ρ M σ H Ext.refl rs rm q
theorem qw (D:bC) (σ:St) (H:Hp) (h:lS K fA D σ H):rM D σ H:=by
 obtain ⟨ρ,M,A,rs,rm,l,q⟩:=h
 exact l.bk ρ M σ H Ext.refl rs rm q
theorem t8 (D:bC) (σ:St) (H:Hp) (h:lS K iH D σ H):xi D σ H:=by
 obtain ⟨ρ,M,A,rs,rm,l,q⟩:=h
 exact l.ct ρ M σ H Ext.refl rs rm q
theorem vS {t u:TSd} (mt:aC t) (mu:aC u) (D:bC) (σ:St) (H:Hp) (h:lS K (md t u) D σ H):Ab (lS K t) (lS K u) D σ H:=by
 obtain ⟨ρ,M,A,rs,rm,l,q⟩:=h
 exact ⟨ρ,M, { A with nx:=u A },rs,rm,⟨fun ρ' M' σ' H' x rs' rm' q'=>⟨ρ',M',A,rs',rm',l.ext x,q'⟩,l.rt,l.bk,l.ct⟩,q⟩
theorem t9 {te:TEd} (m:aa te) (D:bC) (σ:St) (H:Hp) (h:lS K (iI te) D σ H):xj (lE K te) D σ H:=by
 obtain ⟨ρ,M,A,rs,rm,l,q⟩:=h
 exact ⟨ρ,M,rs,rm,m _ _ _ _ (fun d z B v H1 n j F=>l.nx ρ z σ H1 n (rs.mono (n.stab rm)) j B) q⟩
theorem vT {te:TEd} (m:aa te) (D:bC) (σ:St) (H:Hp) (h:lS K (mf te) D σ H):Ac (lE K te) D σ H:=by
 obtain ⟨ρ,M,A,rs,rm,l,q⟩:=h
 exact ⟨ρ,M,rs,rm,m _ _ _ _ (fun d z B v H1 F j n=>l.rt d z v H1 F j n B) q⟩
theorem yP {c:TTd} {t u:TSd} (mc:aB c) (D:bC) (σ:St) (H:Hp) (h:lS K (sIf c t u) D σ H):Ae (lT K c) (lS K t) (lS K u) D σ H:=by
 obtain ⟨ρ,M,A,rs,rm,l,q⟩:=h
 refine ⟨ρ,M,rs,rm,mc _ _ _ _ (fun k B n H1 z j => ?_) q⟩
 cases k with
 | true=>rw [if_pos rfl] at n ⊢;exact ⟨ρ,B,A,rs.mono (z.stab rm),j,l.ext z,n⟩
 | false=>rw [if_neg Bool.false_ne_true] at n ⊢;exact ⟨ρ,B,A,rs.mono (z.stab rm),j,l.ext z,n⟩
theorem vU {te:TEd} {b:BT} (m:aa te) (D:bC) (σ:St) (H:Hp) (h:lS K (gO te b) D σ H):pW (lE K te) (lG K b) D σ H:=by
 obtain ⟨ρ,M,A,rs,rm,l,q⟩:=h
 refine ⟨ρ,M,rs,rm,m _ _ _ _ (fun d B ⟨ρ',e,F⟩ v H1 z j n => ?_) q⟩
 exact ⟨d, ρ, ρ',n,rs.mono (z.stab rm),e,fun σ' rs'=>l.nx ρ' B σ' H1 z rs' j F⟩
theorem kg {te:TEd} {i:Nat} (m:aa te) (D:bC) (σ:St) (H:Hp) (h:lS K (gO te (bm i)) D σ H):pW (lE K te) (i4 i) D σ H:=by
 obtain ⟨ρ,M,A,rs,rm,l,q⟩:=h
 refine ⟨ρ,M,rs,rm,m _ _ _ _ (fun d n ⟨ρ',e,z⟩ v H1 j rm1 rd1 => ?_) q⟩
 cases e
 exact l.nx _ n _ H1 j ((rs.mono (j.stab rm)).set i rd1) rm1 z
theorem vW {src:TId} {b:BT} {tb:TSd} (ms:bW src) (mb:aC tb) (D:bC) (σ:St) (H:Hp) (h:lS K (mn src b tb) D σ H):Ak (lI K src) (lG K b) (lS K tb) D σ H:=by
 obtain ⟨ρ,M,A,rs,rm,l,q⟩:=h
 refine ⟨ρ,M,rs,rm,ms _ _ _ _ (fun xs chk S q1 J H1 Y F it => ?_) q⟩
 refine ⟨fun i m σ H'=>m=xs.length - i/\i<=xs.length /\ ∃ ρ M2,RS K H' σ ρ /\ RM K M2 H'/\Ext S H1 M2 H'/\bO b tb chk A (xs.drop i) ρ M2,⟨xs.length,by simp,Nat.zero_le _, ρ,S,rs.mono (Y.stab rm),F,Ext.refl,q1⟩, ?_⟩
 rintro i m σ2 H2 ⟨rfl,hi, ρ2,M2,G,j,U,I⟩
 have L:=U.stab F
 by_cases z:i < xs.length
 ·rw [List.drop_eq_getElem_cons z] at I
  obtain ⟨c, ρ',hb,q3⟩:=I
  obtain ⟨go,yl⟩:=(it M2 H2 L j c i).2 z
  refine .inr ⟨go,fun σ' H' => ∃ m',m' < xs.length - i/\(m'=xs.length - (i+1)/\i+1<=xs.length /\ ∃ ρ M,RS K H' σ' ρ /\ RM K M H'/\Ext S H1 M H'/\bO b tb chk A (xs.drop (i+1)) ρ M),fun σ' H' h=>h,fun x' H' y => ?_⟩
  obtain ⟨yy,d,hd,rd⟩:=yl x' H' y
  rw [List.getElem?_eq_getElem z] at hd
  cases hd
  obtain ⟨xy,rmy⟩:=yy.ext j
  have O:=Y.trans (U.trans xy)
  refine ⟨_, ρ2, ρ',rd,G.mono (xy.stab j),hb,fun σ3 Z => ?_⟩
  have nx:∀ ρ5 B σ5 n,Ext M2 H' B n->RS K n σ5 ρ5->RM K B n->bO b tb chk A (xs.drop (i+1)) ρ5 B -> ∃ m',m' < xs.length - i/\(m'=xs.length - (i+1)/\i+1<=xs.length /\ ∃ ρ M,RS K n σ5 ρ /\ RM K M n/\Ext S H1 M n/\bO b tb chk A (xs.drop (i+1)) ρ M) :=
   fun ρ5 B σ5 n R D7 D8 q5=>⟨xs.length - (i+1),by lia,rfl,z, ρ5,B,D7,D8,(U.trans xy).trans R,q5⟩
  refine ⟨ρ',M2, { A with nx:=bO b tb chk A (xs.drop (i+1)),ct:=bO b tb chk A (xs.drop (i+1)),bk:=A.nx },Z,rmy,⟨nx,fun d B v n R=>l.rt d B v n (O.trans R),fun ρ5 B σ5 n R=>l.nx ρ5 B σ5 n (O.trans R),nx⟩,q3⟩
 ·have e:i=xs.length:=by lia
  subst e
  rw [List.drop_length] at I
  exact .inl ⟨(it M2 H2 L j I.1 _).1 (Nat.le_refl _),l.nx ρ2 M2 σ2 H2 (Y.trans U) G j I.2⟩
theorem qA {c:TTd} {tb:TSd} (mc:aB c) (mb:aC tb) (D:bC) (σ:St) (H:Hp) (h:lS K (fB c tb) D σ H):rO (lT K c) (lS K tb) D σ H:=by
 obtain ⟨ρ,M,A,rs,rm,l,n,q⟩:=h
 refine ⟨fun m σ' H' => ∃ ρ' M',RS K H' σ' ρ'/\RM K M' H'/\Ext M H M' H'/\bb c tb A m ρ' M',⟨n, ρ,M,rs,rm,Ext.refl,q⟩, ?_⟩
 rintro m σ1 H1 ⟨ρ1,M1,I,J,x1,Y⟩
 cases m with
 | zero=>exact Y.elim
 | succ m =>
   refine ⟨ρ1,M1,I,J,mc _ _ _ _ (fun k M2 S H2 Z L => ?_) Y⟩
   have j:=x1.trans Z
   have O:=I.mono (Z.stab J)
   cases k with
   | false=>rw [if_neg Bool.false_ne_true] at S;dsimp only;rw [if_neg Bool.false_ne_true];exact l.nx ρ1 M2 σ1 H2 j O L S
   | true =>
     rw [if_pos rfl] at S
     dsimp only
     rw [if_pos rfl]
     refine ⟨fun σ' H' => ∃ ρ' M',RS K H' σ' ρ'/\RM K M' H'/\Ext M H M' H'/\bb c tb A m ρ' M',fun σ' H' h=>⟨m,Nat.lt_succ_self m,h⟩, ρ1,M2, { A with nx:=bb c tb A m,ct:=bb c tb A m,bk:=A.nx },O,L,⟨?_,fun d z v R B=>l.rt d z v R (j.trans B),fun ρ5 z σ5 R B=>l.nx ρ5 z σ5 R (j.trans B), ?_⟩,S⟩
     ·exact fun ρ5 z σ5 R B F G U=>⟨ρ5,z,F,G,j.trans B,U⟩
     ·exact fun ρ5 z σ5 R B F G U=>⟨ρ5,z,F,G,j.trans B,U⟩
end
noncomputable def eV:D->D->D->Mem->(Mem->Prop)->Prop:=fun o i v M Q => ∃ a,o = .ref a /\
 ((∃ xs k j,i = .int k/\M a=some (.lst xs)/\ixN xs.length k=some j/\Q (ag M a (.lst (xs.set j v)))) ∨
  ∃ t kvs,M a=some (.dct t kvs)/\fT t i=true/\kvs.length < sizeLine/\Q (ag M a (.dct t (cj kvs i v))))
noncomputable def mq (te to ti:TEd):TSd:=fun D ρ M=>te ρ M fun v M1=>to ρ M1 fun o M2=>ti ρ M2 fun i M3=>eV o i v M3 fun M4=>D.nx ρ M4
theorem kh {o i v:D} {M:Mem} {Q Q':Mem->Prop} (h:∀ M',Q M'->Q' M') (q:eV o i v M Q):eV o i v M Q':=by
 obtain ⟨a,e,⟨xs,k,j,e1,e2,n,q⟩ | ⟨t,kvs,e1,e2,n,q⟩⟩:=q
 ·exact ⟨a,e, .inl ⟨xs,k,j,e1,e2,n,h _ q⟩⟩
 ·exact ⟨a,e, .inr ⟨t,kvs,e1,e2,n,h _ q⟩⟩
theorem vX {te to ti:TEd} (he:aa te) (ho:aa to) (hi:aa ti):aC (mq te to ti):=fun a b ρ M i q =>
 he _ _ _ _ (fun v B j=>ho _ _ _ _ (fun o M2 n=>hi _ _ _ _ (fun k F z=>kh (fun M' q'=>i.nx _ _ q') z) n) j) q
section
variable {X:Cx} {K:Frag}
theorem mw (j:X.A.units+1 < cLine):PSet X (fun o i v H Q => ∃ a H',o = .ref a/\DPut H a i v H'/\Q H'):=by
 intro pins s σ H o i v ov iv u Q I ro ri rv h
 obtain ⟨a,H',rfl,g,q⟩:=h
 cases ro
 exact sk j I g ri rv fun s' I'=>⟨H',I',q⟩
theorem PSet.or {t t':jd} (h:PSet X t) (h':PSet X t'):PSet X (fun o i v H Q=>t o i v H Q∨t' o i v H Q):=by
 intro pins s σ H o i v ov iv u Q I ro ri rv q
 rcases q with q | q
 ·exact h pins s σ H o i v ov iv u Q I ro ri rv q
 ·exact h' pins s σ H o i v ov iv u Q I ro ri rv q
section
variable {κ:Type} [DecidableEq κ] {H:Hp} {RK:D -> κ -> Prop} (inj:∀ {d e:D} {k : κ},RK d k->RK e k->d=e) (fn:∀ {d:D} {k k' : κ},RK d k->RK d k'->k=k')
include inj fn
theorem oH {k:D} {q : κ} (j:RK k q):∀ {kvs:List (D×D)} {ps:List (κ × V)},Paired (fun p r=>RK p.1 r.1/\RD K H p.2 r.2) kvs ps ->
 (kvs.any fun p=>decide (p.1=k))=(ps.any fun p=>decide (p.1=q))
 | _,_, .nil=>rfl
 | _,_, .cons (a:=p) (b:=r) hr t=>by
   rw [List.any_cons,List.any_cons,oH j t]
   congr 1
   by_cases e:p.1=k
   ·have e':r.1=q:=by have h1:=hr.1;rw [e] at h1;exact fn h1 j
    rw [decide_eq_true e,decide_eq_true e']
   ·have e' : ¬ r.1=q:=fun z=>e (by have h1:=hr.1;rw [z] at h1;exact inj h1 j)
    rw [decide_eq_false e,decide_eq_false e']
theorem oI {k:D} {q : κ} (n:RK k q) {d:D} {v:V} (B:RD K H d v):∀ {kvs:List (D×D)} {ps:List (κ × V)},Paired (fun p r=>RK p.1 r.1/\RD K H p.2 r.2) kvs ps ->
 Paired (fun p r=>RK p.1 r.1/\RD K H p.2 r.2) (kvs.map fun p=>if p.1=k then (p.1,d) else p) (ps.map fun p=>if p.1=q then (p.1,v) else p)
 | _,_, .nil => .nil
 | _,_, .cons (a:=p) (b:=r) j t=>by
   refine .cons ?_ (oI n B t)
   by_cases e:p.1=k
   ·have e':r.1=q:=by have h1:=j.1;rw [e] at h1;exact fn h1 n
    dsimp only
    rw [if_pos e,if_pos e']
    exact ⟨j.1,B⟩
   ·have e' : ¬ r.1=q:=fun z=>e (by have h1:=j.1;rw [z] at h1;exact inj h1 n)
    dsimp only
    rw [if_neg e,if_neg e']
    exact j
theorem gP {k:D} {q : κ} (j:RK k q) {d:D} {v:V} (n:RD K H d v) {kvs:List (D×D)} {ps:List (κ × V)} (r:Paired (fun p r=>RK p.1 r.1/\RD K H p.2 r.2) kvs ps) :
 Paired (fun p r=>RK p.1 r.1/\RD K H p.2 r.2) (cj kvs k d) (be ps q v):=by
 unfold cj be
 rw [oH (K:=K) (H:=H) (RK:=RK) inj fn j r]
 by_cases e:(ps.any fun p=>decide (p.1=q))=true
 ·rw [if_pos e,if_pos e]
  exact oI (RK:=RK) inj fn j n r
 ·rw [if_neg e,if_neg e]
  exact r.snoc ⟨j,n⟩
end
theorem mz {M:Mem} {H:Hp} {o i v:D} {ov iv vv:V} {Qd:Mem->Prop} {Q:Hp->Prop} (rm:RM K M H) (ro:RD K H o ov) (ri:RD K H i iv) (rv:RD K H v vv) (h:eV o i v M Qd) (G:∀ M' H',Ext M H M' H'->RM K M' H'->Qd M'->Q H') :
 xq ov iv vv H Q ∨ ∃ a H',ov = .ref a/\DPut H a iv vv H'/\Q H':=by
 obtain ⟨a,rfl,⟨xs,k,j,rfl,e2,F,q⟩ | ⟨t,kvs,e1,e2,F,q⟩⟩:=h
 ·cases RD.ref_iff.mp ro
  cases RD.int_iff.mp ri
  obtain ⟨vs,ha,rs⟩:=rm _ _ e2
  have st:Stab H (upd H a (.lst (vs.set j vv))):=rm.stabPut e2
  exact .inl ⟨a,vs,k,j,rfl,rfl,ha,by rw [rs.length];exact F,G _ _ (Ext.put e2) (rm.put (o := .lst (xs.set j v)) e2 ⟨_,aw,(rs.set j rv).mono st⟩) q⟩
 ·cases RD.ref_iff.mp ro
  have ro':=rm _ _ e1
  cases t with
  | false =>
    obtain ⟨ps,hp,pr⟩:=ro'
    obtain ⟨kq,B⟩:=lF (show eM i=true from e2)
    have st:Stab H (upd H a (.dK (be ps kq vv))):=rm.stabPut e1
    have n:=gP (RK:=RKey) RKey.inj RKey.fun B rv pr
    rw [jq B ri]
    refine .inr ⟨a,_,rfl,DPut.k hp (by rw [<- Paired.length pr];exact F),G _ _ (Ext.put e1) (rm.put (o := .dct false (cj kvs i v)) e1 ⟨_,aw,Paired.mapP n fun _ _ z=>⟨z.1,z.2.mono st⟩⟩) q⟩
  | true =>
    obtain ⟨ps,hp,pr⟩:=ro'
    obtain ⟨kq,B⟩:=jj (show bR i=true from e2)
    have st:Stab H (upd H a (.dT (be ps kq vv))):=rm.stabPut e1
    have n:=gP (RK:=RKeys) RKeys.inj RKeys.fun B rv pr
    cases i <;> first
     | exact B.elim
     | (obtain ⟨b,us,rfl,hb,ru⟩:=RD.tupK (jk e2) ri
        rw [eN B ru] at hb
        exact .inr ⟨a,_,rfl,DPut.t hp hb (by rw [<- Paired.length pr];exact F),G _ _ (Ext.put e1) (rm.put (o := .dct true (cj kvs _ v)) e1 ⟨_,aw,Paired.mapP n fun _ _ z=>⟨z.1,z.2.mono st⟩⟩) q⟩)
theorem B5 {o i e:Expr} {te to ti:TEd} {pos tpos:Pos} (U:X.A.units+1 < cLine) (me:aa te) (mo:aa to) (mi:aa ti) (he:PE X e (lE X.K te)) (ho:PE X o (lE X.K to)) (hi:PE X i (lE X.K ti))
 (hs:swapsWithSole [.Subscript o i tpos] e pos.line X.env=pure false) (hw:swappedStores [.Subscript o i tpos] e X.env=pure none)
 (ha:∀ v,assign (.Subscript o i tpos) X.env v=(do
   let ov <- holding [v] (eval o X.env)
   let iv <- holding [v,ov] (eval i X.env)
   standAt tpos
   holding [v,ov,iv] (setItem ov iv v)
   release [v,ov,iv] [])):PS X (.Assign [.Subscript o i tpos] e pos) (lS X.K (mq te to ti)):=by
 refine PS.imp (rN he (Ag ho hi (PSet.or ll (mw U)) ha) hs hw rfl) fun D σ H h => ?_
 obtain ⟨ρ,M,A,rs,rm,l,q⟩:=h
 refine ⟨ρ,M,rs,rm,me _ _ _ _ (fun v Y Z vv H1 B j F => ?_) q⟩
 refine ⟨ρ,Y,rs.mono (B.stab rm),j,mo _ _ _ _ (fun ov M2 q2 vo H2 G n I => ?_) Z⟩
 refine ⟨ρ,M2,(rs.mono (B.stab rm)).mono (G.stab j),n,mi _ _ _ _ (fun iv M3 q3 vi H3 J L O => ?_) q2⟩
 have z:=B.trans (G.trans J)
 exact mz L (I.mono (J.stab n)) O ((F.mono (G.stab j)).mono (J.stab n)) q3 fun M' H' S R q4=>l.nx ρ M' σ H' (z.trans S) (rs.mono ((z.trans S).stab rm)) R q4
noncomputable def kU:R2d
 | .int i, .int j,M,Q=>Q (.int (i+j)) M
 | _,_,_,_=>False
noncomputable def kW:R2d
 | .int i, .int j,M,Q=>Q (.int (i - j)) M
 | _,_,_,_=>False
noncomputable def kX:R2d
 | .int i, .int j,M,Q=>MulOk i j/\Q (.int (i*j)) M
 | _,_,_,_=>False
theorem ki:aI kU:=by
 intro x y M Q Q' h q
 cases x <;> cases y <;> first | exact q.elim | exact h _ _ q
theorem kj:aI kW:=by
 intro x y M Q Q' h q
 cases x <;> cases y <;> first | exact q.elim | exact h _ _ q
theorem km:aI kX:=by
 intro x y M Q Q' h q
 cases x <;> cases y <;> first | exact q.elim | exact ⟨q.1,h _ _ q.2⟩
theorem tf:OpR X (inplaceOp .Add) (l2 X.K kU):=by
 refine OpR.of y6 fun v u H Q h => ?_
 obtain ⟨x,y,M,rm,rx,ry,q⟩:=h
 cases x <;> cases y <;> first
  | exact q.elim
  | (cases RD.int_iff.mp rx;cases RD.int_iff.mp ry;exact ⟨_,_,rfl,rfl,q _ H Ext.refl rm (RD.int_iff.mpr rfl)⟩)
theorem tj:OpR X (inplaceOp .Sub) (l2 X.K kW):=by
 refine OpR.of y7 fun v u H Q h => ?_
 obtain ⟨x,y,M,rm,rx,ry,q⟩:=h
 cases x <;> cases y <;> first
  | exact q.elim
  | (cases RD.int_iff.mp rx;cases RD.int_iff.mp ry;exact ⟨_,_,rfl,rfl,q _ H Ext.refl rm (RD.int_iff.mpr rfl)⟩)
theorem tq:OpR X (inplaceOp .Mult) (rI MulOk fun i j => .int (i*j)):=opI fun _ _ _ _ _ _ _ hc q=>imul_int q hc.ok
theorem tu:OpR X (inplaceOp .Mult) (l2 X.K kX):=by
 refine OpR.of tq fun v u H Q h => ?_
 obtain ⟨x,y,M,rm,rx,ry,q⟩:=h
 cases x <;> cases y <;> first
  | exact q.elim
  | (cases RD.int_iff.mp rx;cases RD.int_iff.mp ry;exact ⟨_,_,rfl,rfl,q.1,q.2 _ H Ext.refl rm (RD.int_iff.mpr rfl)⟩)
end
end
end Mi
end L2
namespace L2
open PySem PySem.Spec PyProof.Rows
namespace Mi
variable {K:Frag}
theorem tw {ta:TAd} {i j:Nat} (m:bj ta) (D:bC) (σ:St) (H:Hp) (h:lS K (mj ta (bE (bm i) (bE (bm j) eR))) D σ H):Ah i j (lA K ta) D σ H:=by
 obtain ⟨ρ,M,A,rs,rm,l,q⟩:=h
 refine ⟨ρ,M,rs,rm,m _ _ _ _ (fun ds F ⟨ρ',e,G⟩ vs H1 B z n => ?_) q⟩
 match ds,e,n with
 | [d1,d2],e,n =>
  obtain ⟨v,u,rfl,I,J⟩:=n.two
  simp only [bE,bm,eR,Option.bind_some,Option.some.injEq] at e
  subst e
  exact ⟨v,u,rfl,l.nx _ F _ H1 B (((rs.mono (B.stab rm)).set i I).set j J) z G⟩
end Mi
end L2
namespace L2
open PySem PySem.Spec PyProof.Rows
section
section
variable {X:Cx}
theorem vY:Aj X (fun o i H Q => ∃ a xs k x,o = .ref a/\i = .int k/\SqL X.K H a xs/\atI xs k=some x/\Q x H):=by
 intro pins s σ H o i ov iv Q I ro ri h
 obtain ⟨a,xs,k,x,rfl,rfl,sq,he,q⟩:=h
 cases ro
 obtain ⟨t,rfl⟩:=ri
 obtain ⟨its,r,pl,hz⟩:=I.list sq
 obtain ⟨j,h1,h2,G,z,B⟩:=je he
 obtain ⟨w,ew,rw'⟩:=r.get h2
 have F:=r.length
 have hn:=dX
 have fin:EP X pins σ Q w s:=⟨x,H,I,rw',q⟩
 by_cases h0 : 0<=k
 ·have n:k.toNat=j:=Option.some.inj (by rw [<- h1,seqIndex_of h0 B])
  exact wpAny_getItem_list pl.isList h0 (by lia) (by rw [n];simpa using ew) fin
 ·have n:(k+(its.toArray.size:Int)).toNat=j:=by
   rw [List.size_toArray, <- F]
   exact Option.some.inj (by rw [<- h1,seqIndex_neg (by lia) z])
  exact wpAny_getItem_list_neg pl.isList (by lia) (by rw [List.size_toArray];lia) (by lia) (by rw [n];simpa using ew) fin
end
namespace Mi
section
variable {X:Cx}
noncomputable def xB:R2d:=fun x y M Q => ∃ a ds k d,x = .ref a/\y = .int k/\M a=some (.lst ds)/\atI ds k=some d/\Q d M
theorem tz:aI xB:=fun _ _ _ _ _ h ⟨a,ds,k,d,e1,e2,j,n,q⟩=>⟨a,ds,k,d,e1,e2,j,n,h _ _ q⟩
noncomputable def iJ (to ti te:TEd) (rd:R2d):TSd:=fun D ρ M=>to ρ M fun o M1=>ti ρ M1 fun i M2=>xB o i M2 fun x M3=>te ρ M3 fun y M4=>rd x y M4 fun z M5=>eV o i z M5 fun M6=>D.nx ρ M6
theorem tE {to ti te:TEd} {rd:R2d} (ho:aa to) (hi:aa ti) (he:aa te) (j:aI rd):aC (iJ to ti te rd):=fun a b ρ M l q =>
 ho _ _ _ _ (fun o L n=>hi _ _ _ _ (fun i M2 B=>tz _ _ _ _ _ (fun x O F=>he _ _ _ _ (fun y R G=>j _ _ _ _ _ (fun z S I=>kh (fun U J=>l.nx _ _ J) I) G) F) B) n) q
theorem jz {o i e:Expr} {to ti te:TEd} {op:Operator} {rd:R2d} {pos tpos:Pos} (hu:X.A.units+1 < cLine) (mo:aa to) (mi:aa ti) (me:aa te) (hr:aI rd) (ho:PE X o (lE X.K to)) (hi:PE X i (lE X.K ti)) (he:PE X e (lE X.K te)) (G:OpR X (inplaceOp op) (l2 X.K rd))
 (ha:∀ ov iv new,augStore i ov iv new=(do holding [new,ov,iv] (setItem ov iv new);release [new,ov,iv] [];pure .next)):PS X (.AugAssign (.Subscript o i tpos) op e pos) (lS X.K (iJ to ti te rd)):=by
 refine PS.imp (y4 ho hi vY he (tip:=l2 X.K rd) G (PSet.or ll (mw hu)) ha) fun D σ H h => ?_
 obtain ⟨ρ,M,A,rs,rm,l,q⟩:=h
 refine ⟨ρ,M,rs,rm,mo _ _ _ _ (fun d1 M1 q1 v1 H1 x1 j I => ?_) q⟩
 have z:=rs.mono (x1.stab rm)
 refine ⟨ρ,M1,z,j,mi _ _ _ _ (fun d2 M2 q2 v2 H2 J n L => ?_) q1⟩
 have O:=z.mono (J.stab j)
 have B:=I.mono (J.stab j)
 obtain ⟨a,ds,k,d,rfl,rfl,e3,e4,q3⟩:=q2
 cases RD.ref_iff.mp B
 cases RD.int_iff.mp L
 obtain ⟨vs,R,rv⟩:=n _ _ e3
 obtain ⟨v3,S,U⟩:=iq rv e4
 refine ⟨a,vs,k,v3,rfl,rfl,SqL.of R,S, ?_⟩
 refine ⟨ρ,M2,O,n,me _ _ _ _ (fun d4 M4 q4 v4 H4 x4 Y Z => ?_) q3⟩
 refine ⟨d,d4,M4,Y,U.mono (x4.stab n),Z,hr _ _ _ _ _ (fun d5 M5 q5 v5 H5 x5 D7 D8 => ?_) q4⟩
 have F:=((x1.trans J).trans x4).trans x5
 exact mz D7 (RD.ref_iff.mpr rfl) (RD.int_iff.mpr rfl) D8 q5 fun M' H' x6 D9 q6=>l.nx ρ M' σ H' (F.trans x6) (rs.mono ((F.trans x6).stab rm)) D9 q6
end
section
section
variable {X:Cx}
noncomputable def mC:D->Option Bool
 | .bl b=>some b
 | .int i=>some (i != 0)
 | _=>none
noncomputable def qB:RAd:=fun xs M Q => ∃ x ds ts,xs=[x]/\ar M x=some ds/\aJ mC ds=some ts/\Q (.bl (ts.all id)) M
theorem mD:aY qB:=fun _ _ _ _ h ⟨x,ds,ts,e,e1,e2,q⟩=>⟨x,ds,ts,e,e1,e2,h _ _ q⟩
theorem mF {α β:Type} {f : α -> Option β}:∀ {xs:List α} {ys:List β},aJ f xs=some ys->ys.length=xs.length /\ ∀ (i:Nat) x,xs[i]? = some x -> ∃ y,ys[i]? = some y/\f x=some y
 | [],ys,h=>by cases h;exact ⟨rfl,fun i x e=>by simp at e⟩
 | x::xs,ys,h=>by
   simp only [aJ] at h
   cases e1:f x with
   | none=>rw [e1] at h;cases h
   | some y =>
     rw [e1] at h
     simp only [Option.bind_some] at h
     cases e2:aJ f xs with
     | none=>rw [e2] at h;cases h
     | some r =>
       rw [e2] at h;cases h
       obtain ⟨l,g⟩:=mF e2
       refine ⟨by simp [l],fun i z e => ?_⟩
       cases i with
       | zero=>simp at e;subst e;exact ⟨y,rfl,e1⟩
       | succ i=>simp at e;simpa using g i z e
theorem yQ {P:Program} {w:World} {A:Around} {E:Value->Shared->Prop} {s:Shared} {K:Frag} {H:Hp} {d:D} {v:V} {u:Value} {b:Bool} {Q:Bool->Shared->Prop} (e:mC d=some b) (rd:RD K H d v) (ru:RelV v u) (q:Q b s):wpAny (model P w) A (truthy u) Q E s:=by
 cases d with
 | bl c=>cases RD.bl_iff.mp rd;cases ru;cases e;exact wpAny_truthy_bool q
 | int i=>cases RD.int_iff.mp rd;obtain ⟨t,rfl⟩:=ru;cases e;exact PyProof.Rows.truthy_int q
 | _=>cases e
theorem range_all {ts:List Bool}:(List.range ts.length).all (fun i=>ts.getD i false)=ts.all id/\(List.range ts.length).any (fun i=>ts.getD i false)=ts.any id:=by
 have e:(List.range ts.length).map (fun i=>ts.getD i false)=ts:=by
  apply List.ext_getElem
  ·simp
  ·intro i h1 h2;simp [List.getD_eq_getElem?_getD,List.getElem?_eq_getElem h2]
 constructor
 ·conv=>rhs;rw [<- e]
  rw [List.all_map];rfl
 ·conv=>rhs;rw [<- e]
  rw [List.any_map];rfl
theorem vZ (hc:X.calm=true) {pins:List (Addr×Obj)} {s:Shared} {σ:St} {H:Hp} {M:Mem} {x:D} {ds:List D} {ts:List Bool} {v:V} {u:Value} {Q:Value->Shared->Prop} {g:List Bool->Bool} (I:Inv X pins σ H s) (rm:RM X.K M H) (rd:RD X.K H x v) (ru:RelV v u) (e1:ar M x=some ds) (e2:aJ mC ds=some ts)
 (fin:∀ h' tk,Inv X pins σ H { s with heap:=h',toks:=tk }->Q (.bool (g ts)) { s with heap:=h',toks:=tk })
 (gg:Nat->(Nat->Bool)->Bool) (G:gg ts.length (fun i=>ts.getD i false)=g ts) :
 wpAny (model X.prog X.w) X.A.in1 (pyIter u) (fun it s₂ => ∃ I fp wr n P St tr,it = .ref I/\Walks X.prog X.w X.A.in1 I fp wr n P St/\St 0 s₂.heap/\TruthOf X.prog X.w X.A.in1 P tr /\
  ∀ h' tk,(∀ b o,b∉wr->s₂.heap.get? b=some o->h'.get? b=some o)->Q (.bool (gg n tr)) { s₂ with heap:=h',toks:=tk }) X.xe s:=by
 obtain ⟨p,vs,rfl,sq,J⟩:=sJ rm rd e1
 cases ru
 obtain ⟨lt,get⟩:=mF e2
 have lv:=J.length
 have tr:∀ (its:List Value),Vals vs its->TruthOf X.prog X.w X.A.in1 (fun i w=>its.toArray[i]? = some w) (fun i=>ts.getD i false):=by
  intro its rv i w s' Q' E' L B
  have q:its[i]? = some w:=by simpa using L
  have li:=rv.length
  have hi:i < its.length:=(List.getElem?_eq_some_iff.mp q).1
  obtain ⟨d,hd⟩:∃ d,ds[i]? = some d:=⟨ds[i]'(by lia),List.getElem?_eq_getElem (by lia)⟩
  obtain ⟨v',F,rd'⟩:=J.get hd
  obtain ⟨u',z,ru'⟩:=rv.get F
  rw [q] at z;cases z
  obtain ⟨b,hb,eb⟩:=get i d hd
  have:ts.getD i false=b:=by rw [List.getD_eq_getElem?_getD,hb];rfl
  have B:Q' (ts.getD i false) s':=B
  rw [this] at B
  exact yQ eb rd' ru' B
 rcases sq with sq | sq
 ·obtain ⟨its,rv,pl,hz⟩:=I.list sq
  have li:=rv.length
  have j:p < s.heap.objs.size:=by obtain ⟨o,n,e,_⟩:=pl;exact Heap.lt_size e
  refine wpAny_pyIter_list pl.isList ⟨s.heap.objs.size,_,_,_,_,_,_,rfl,Walks.list (by rw [Around.in1_handled];exact I.ok.hd hc) s.heap.objs.size p (Nat.ne_of_lt j) its.toArray,⟨⟨_,Heap.get?_push_size _ rfl,rfl,rfl⟩,pl.isList.at fun o e=>Heap.get?_push_of_some _ e⟩,tr its rv,fun h' tk k => ?_⟩
  have hn:its.toArray.size=ts.length:=by rw [List.size_toArray];lia
  rw [hn,G]
  exact fin h' tk (I.kept (t':=tk) fun b o e=>k b o (by simp;exact Nat.ne_of_lt (Heap.lt_size e)) (Heap.get?_push_of_some _ e))
 ·obtain ⟨its,rv,pl,hz⟩:=I.tuple sq
  have li:=rv.length
  have j:p < s.heap.objs.size:=by obtain ⟨o,e,_⟩:=pl;exact Heap.lt_size e
  have pt:s.heap.IsTuple p its.toArray:=pl
  refine wpAny_pyIter_tuple pt ⟨s.heap.objs.size,_,_,_,_,_,_,rfl,Walks.tuple (by rw [Around.in1_handled];exact I.ok.hd hc) s.heap.objs.size p (Nat.ne_of_lt j) its.toArray,⟨⟨_,Heap.get?_push_size _ rfl,rfl,rfl⟩,pt.push _⟩,tr its rv,fun h' tk k => ?_⟩
  have hn:its.toArray.size=ts.length:=by rw [List.size_toArray];lia
  rw [hn,G]
  exact fin h' tk (I.kept (t':=tk) fun b o e=>k b o (by simp;exact Nat.ne_of_lt (Heap.lt_size e)) (Heap.get?_push_of_some _ e))
theorem qC (hc:X.calm=true):CallR X (.builtin "all") (lR X.K qB):=by
 intro pins s σ H xs us Q I rv h
 obtain ⟨ds,M,rm,rs,x,es,ts,rfl,e1,e2,q⟩:=h
 obtain ⟨v,rfl,r⟩:=rs.one
 obtain ⟨u,rfl,ru⟩:=dH rv
 exact call_all_walk (vZ hc I rm r ru e1 e2 (g:=fun ts=>ts.all id) (fun h' tk I'=>⟨.bl _,H,I',rfl,q _ H Ext.refl rm (RD.bl_iff.mpr rfl)⟩) (fun n tr=>(List.range n).all tr) range_all.1)
noncomputable def iK (t:Bool):TEd:=fun _ M Q => ∀ p,M p=none->Q (.ref p) (ag M p (.dct t []))
theorem tF {t:Bool}:aa (iK t):=fun _ _ _ _ i q p n=>i _ _ (q p n)
theorem yR {t:Bool} {pos:Pos}:PE X (.Dict [] [] pos) (lE X.K (iK t)):=by
 cases t with
 | false =>
   refine PE.imp v9 fun σ H Q ⟨ρ,M,rs,rm,q⟩ p n => ?_
   exact q p (rm.out n) (.ref p) _ (Ext.lay n) (rm.lay n ⟨[],aw, .nil⟩) (RD.ref_iff.mpr rfl)
 | true =>
   refine PE.imp va fun σ H Q ⟨ρ,M,rs,rm,q⟩ p n => ?_
   exact q p (rm.out n) (.ref p) _ (Ext.lay n) (rm.lay n ⟨[],aw, .nil⟩) (RD.ref_iff.mpr rfl)
end
end
end Mi
end
end L2
namespace L2
namespace Srt
open PySem PySem.Spec PyProof.Rows
structure Cm (prog:Program) (w:World) (A:Around) (s:Shared) (kd:SortKind) (P:Keyed->Prop) (lt:Keyed->Keyed->Bool):Prop where
 asym:∀ x y,lt x y=true->lt y x=false
 neg:∀ x y z,lt x z=true->lt x y=true∨lt y z=true
 run:∀ (x y:Keyed) (E:Value->Shared->Prop) (Q:Bool->Shared->Prop),P x->P y->Q (lt x y) s->wpAny (PySem.model prog w) A (keyLt' kd x.1 y.1) Q E s
section
variable {prog:Program} {w:World} {A:Around} {E:Value->Shared->Prop} {s:Shared} {kd:SortKind} {P:Keyed->Prop} {lt:Keyed->Keyed->Bool}
theorem au {σ α:Type} {M:Model} {x : α} {st : σ} {Q : α -> σ -> Prop} (q:Q x st):wpS M A E s (pure x) Q st :=
 fun _ _ _=>⟨rfl,q⟩
theorem mG {σ:Type} {M:Model} {tag:String} {st : σ} {Q:Unit -> σ -> Prop} (q:Q () st):wpS M A E s (liftM (PySem.rule tag)) Q st :=
 wpS_lift (wpAny_rule ⟨rfl,q⟩)
theorem Cd (c:Cm prog w A s kd P lt) {x y:Keyed} {st:SortSt} {Q:Option Bool->SortSt->Prop} (j:kindOf st=kd) (hx:P x) (hy:P y) (q:Q (some (lt x y)) st):wpS (PySem.model prog w) A E s (lt' x y) Q st:=by
 rw [lt'_eq]
 refine wpS_bind (wpS_get ?_)
 refine wpS_bind (wpS_lift ?_)
 rw [j]
 intro Γ p hp
 rw [Sem.wp_attempt]
 exact c.run x y (fun e s'=>s'=s/\wpS (PySem.model prog w) A E s (do modify fun s=>SortSt.mk' (kindOf s) (arrOf s) (pendingOf s) (gallopOf s) (some e);pure none) Q st) (fun b s'=>s'=s/\wpS (PySem.model prog w) A E s (pure (some b)) Q st) hx hy ⟨rfl,au q⟩ Γ p hp
theorem oJ {arr:Array Keyed} {i:Nat} {x:Keyed} {st:SortSt} {Q:Keyed->SortSt->Prop} (h:arr[i]? = some x) (q:Q x st):wpS (PySem.model prog w) A E s (elem' arr i) Q st:=by
 rw [elem'_eq,h]
 exact au q
theorem Cm.le_trans (c:Cm prog w A s kd P lt) {x y z:Keyed} (h:lt y x=false) (h2:lt z y=false):lt z x=false:=by
 cases e:lt z x with
 | false=>rfl
 | true=>rcases c.neg z y x e with q | q <;> simp_all
theorem Cm.irr (c:Cm prog w A s kd P lt) {x:Keyed}:lt x x=false:=by
 cases e:lt x x with
 | false=>rfl
 | true=>have:=c.asym x x e;rw [e] at this;exact this
theorem bF {σ α:Type} {M:Model} {m:StateT σ Sem α} {st : σ} {Q Q' : α -> σ -> Prop} (h:wpS M A E s m Q st) (q:∀ a st',Q a st'->Q' a st'):wpS M A E s m Q' st :=
 wpAny_mono h (fun a s' z=>⟨z.1,q _ _ z.2⟩) fun _ _ z=>z
end
noncomputable def bey (lt:Keyed->Keyed->Bool) (left:Bool) (key x:Keyed):Bool:=if left=true then lt x key else !(lt key x)
structure Same (st st':SortSt):Prop where
 arr:arrOf st'=arrOf st
 kind:kindOf st'=kindOf st
 pend:pendingOf st'=pendingOf st
 fail:failedOf st'=failedOf st
section
variable {prog:Program} {w:World} {A:Around} {E:Value->Shared->Prop} {s:Shared} {kd:SortKind} {P:Keyed->Prop} {lt:Keyed->Keyed->Bool}
theorem mH (c:Cm prog w A s kd P lt) {left:Bool} {key x y:Keyed} (h:lt y x=false) (hb:bey lt left key y=true):bey lt left key x=true:=by
 unfold bey at hb ⊢
 cases left with
 | true =>
   rw [if_pos rfl] at hb ⊢
   rcases c.neg y x key hb with q | q
   ·rw [h] at q;cases q
   ·exact q
 | false =>
   simp at hb ⊢
   cases e:lt key x with
   | false=>rfl
   | true =>
     rcases c.neg key y x e with q | q
     ·rw [hb] at q;cases q
     ·rw [h] at q;cases q
structure Gal (lt:Keyed->Keyed->Bool) (left:Bool) (key:Keyed) (xs:List Keyed) (lo hi:Nat):Prop where
 le:lo<=hi
 len:hi<=xs.length
 up:∀ i x,i < lo->xs[i]? = some x->bey lt left key x=true
 dn:∀ i x,hi<=i->xs[i]? = some x->bey lt left key x=false
theorem iL {xs:List Keyed} {R:Keyed->Keyed->Prop} (h:xs.Pairwise R) {i j:Nat} {x y:Keyed} (n:i < j) (hx:xs[i]? = some x) (hy:xs[j]? = some y):R x y:=by
 obtain ⟨h1,e1⟩:=List.getElem?_eq_some_iff.mp hx
 obtain ⟨h2,e2⟩:=List.getElem?_eq_some_iff.mp hy
 rw [<- e1, <- e2]
 exact List.pairwise_iff_getElem.mp h i j h1 h2 n
theorem Ce (c:Cm prog w A s kd P lt) {left:Bool} {key:Keyed} {xs:List Keyed} (h:xs.Pairwise (fun x y=>lt y x=false)) {j:Nat} {y:Keyed} (hy:xs[j]? = some y) (hb:bey lt left key y=true):∀ i x,i < j+1->xs[i]? = some x->bey lt left key x=true:=by
 intro i x hi hx
 by_cases e:i=j
 ·subst e;rw [hx] at hy;cases hy;exact hb
 ·exact mH c (iL h (by lia) hx hy) hb
theorem Cf (c:Cm prog w A s kd P lt) {left:Bool} {key:Keyed} {xs:List Keyed} (h:xs.Pairwise (fun x y=>lt y x=false)) {j:Nat} {y:Keyed} (hy:xs[j]? = some y) (hb:bey lt left key y=false):∀ i x,j<=i->xs[i]? = some x->bey lt left key x=false:=by
 intro i x hi hx
 by_cases e:i=j
 ·subst e;rw [hx] at hy;cases hy;exact hb
 ·cases q:bey lt left key x with
  | false=>rfl
  | true=>have:=mH c (iL h (by lia) hy hx) q;rw [hb] at this;cases this
theorem Gal.out {left:Bool} {key:Keyed} {xs:List Keyed} {k:Nat} (g:Gal lt left key xs k k):∃ X Y,xs=X++Y/\X.length=k/\(∀ x∈X,bey lt left key x=true)/\(∀ x∈Y,bey lt left key x=false):=by
 refine ⟨xs.take k,xs.drop k,(List.take_append_drop k xs).symm,by rw [List.length_take];exact Nat.min_eq_left g.len,fun x hx => ?_,fun x hx => ?_⟩
 ·obtain ⟨i,hi,e⟩:=List.mem_iff_getElem.mp hx
  rw [List.length_take] at hi
  exact g.up i x (by lia) (by rw [List.getElem_take] at e;rw [<- e];exact List.getElem?_eq_getElem _)
 ·obtain ⟨i,hi,e⟩:=List.mem_iff_getElem.mp hx
  rw [List.length_drop] at hi
  refine g.dn (k+i) x (by lia) ?_
  rw [List.getElem_drop] at e
  rw [<- e];exact List.getElem?_eq_getElem _
noncomputable abbrev Ord (lt:Keyed->Keyed->Bool) (l:List Keyed):Prop:=l.Pairwise fun x y=>lt y x=false
structure ML (lt:Keyed->Keyed->Bool) (la lb out:List Keyed) (ia ib:Nat):Prop where
 pa:Ord lt (out++la.drop ia)
 pb:Ord lt (out++lb.drop ib)
 pm:(out++(la.drop ia++lb.drop ib)).Perm (la++lb)
theorem w4 {l:List Keyed} {i:Nat} {x:Keyed} (h:l[i]? = some x):l.drop i=[x]++l.drop (i+1):=by
 obtain ⟨hi,e⟩:=List.getElem?_eq_some_iff.mp h
 rw [List.drop_eq_getElem_cons hi,e];rfl
theorem ML.size {la lb out:List Keyed} {ia ib:Nat} (m:ML lt la lb out ia ib) (ha:ia<=la.length) (hb:ib<=lb.length):out.length=ia+ib:=by
 have:=m.pm.length_eq
 simp only [List.length_append,List.length_drop] at this
 lia
theorem Same.trans {a b c:SortSt} (h:Same a b) (g:Same b c):Same a c:=⟨g.arr.trans h.arr,g.kind.trans h.kind,g.pend.trans h.pend,g.fail.trans h.fail⟩
structure MH (lt:Keyed->Keyed->Bool) (la lb out:List Keyed) (na nb:Nat):Prop where
 pa:Ord lt (la.take na++out.reverse)
 pb:Ord lt (lb.take nb++out.reverse)
 pm:(la.take na++lb.take nb++out.reverse).Perm (la++lb)
theorem oK (c:Cm prog w A s kd P lt) {l:List Keyed} {n:Nat} {x y:Keyed} (h:Ord lt (l.take n)) (hn : 0 < n) (hy:l[n - 1]? = some y) (hx:lt x y=false):∀ z∈l.take n,lt x z=false:=by
 intro z hz
 obtain ⟨i,hi,e⟩:=List.mem_iff_getElem.mp hz
 have j:(l.take n)[i]? = some z:=by rw [<- e];exact List.getElem?_eq_getElem hi
 have q:(l.take n)[n - 1]? = some y:=by rw [List.getElem?_take_of_lt (by lia)];exact hy
 rw [List.length_take] at hi
 by_cases hin:i=n - 1
 ·subst hin;rw [q] at j;cases j;exact hx
 ·exact c.le_trans (iL h (by lia) j q) hx
theorem mJ {l:List Keyed} {n:Nat} {x:Keyed} (hn : 0 < n) (h:l[n - 1]? = some x):l.take n=l.take (n - 1)++[x]:=by
 obtain ⟨k,rfl⟩:∃ k,n=k+1:=⟨n - 1,by lia⟩
 rw [Nat.add_sub_cancel] at h ⊢
 rw [List.take_add_one,h];rfl
theorem MH.size {la lb out:List Keyed} {na nb:Nat} (m:MH lt la lb out na nb) (ha:na<=la.length) (hb:nb<=lb.length):out.length+na+nb=la.length+lb.length:=by
 have:=m.pm.length_eq
 simp only [List.length_append,List.length_take,List.length_reverse] at this
 lia
theorem bv {σ α:Type} {M:Model} {p:Prop} [Decidable p] {j n:StateT σ Sem α} {st : σ} {Q : α -> σ -> Prop} (h1:p->wpS M A E s j Q st) (h2 : ¬p->wpS M A E s n Q st):wpS M A E s (if p then j else n) Q st:=by
 split
 ·next h=>exact h1 h
 ·next h=>exact h2 h
end
end Srt
end L2
namespace L2
namespace Srt
open PySem PySem.Spec PyProof.Rows
section
variable {prog:Program} {w:World} {A:Around} {E:Value->Shared->Prop} {s:Shared} {kd:SortKind} {P:Keyed->Prop} {lt:Keyed->Keyed->Bool}
structure Kp (st st':SortSt):Prop where
 kind:kindOf st'=kindOf st
 pend:pendingOf st'=pendingOf st
 fail:failedOf st'=failedOf st
theorem Kp.refl {st:SortSt}:Kp st st:=⟨rfl,rfl,rfl⟩
theorem Kp.trans {a b c:SortSt} (h:Kp a b) (g:Kp b c):Kp a c:=⟨g.kind.trans h.kind,g.pend.trans h.pend,g.fail.trans h.fail⟩
theorem oi {a:Array Keyed} {L B R:List Keyed} (e:a.toList=L++(B++R)) {i j:Nat} (hi:i=L.length) (q:j=L.length+B.length):(mirror a i j ((j - i) / 2)).toList=L++(B.reverse++R):=by
 have hs:a.size=L.length+(B.length+R.length):=by rw [<- Array.length_toList,e];simp
 apply List.ext_getElem?
 intro k
 rw [Array.getElem?_toList,getElem?_mirror_all (by lia)]
 have g:∀ n:Nat,a[n]? = (L++(B++R))[n]? := fun n=>by rw [<- Array.getElem?_toList,e]
 rw [g,g]
 by_cases h1:k < L.length
 ·rw [if_neg (by lia),List.getElem?_append_left h1,List.getElem?_append_left h1]
 ·by_cases h2:k < j
  ·rw [if_pos (by lia),List.getElem?_append_right (by lia),List.getElem?_append_left (by lia),List.getElem?_append_right (by lia),List.getElem?_append_left (by simp;lia),List.getElem?_reverse (by lia)]
   congr 1;lia
  ·rw [if_neg (by lia),List.getElem?_append_right (by lia),List.getElem?_append_right (by lia),List.getElem?_append_right (by lia),List.getElem?_append_right (by simp;lia)]
   simp
theorem oj {a:Array Keyed} {L j q R:List Keyed} {x:Keyed} (e:a.toList=L++((j++q)++x::R)) {src d:Nat} (hi:src=L.length+(j.length+q.length)) (hd:d=q.length):(bubble a src d).toList=L++((j++x::q)++R):=by
 have hs:a.size=L.length+(j.length+q.length+(R.length+1)):=by rw [<- Array.length_toList,e];simp;lia
 apply List.ext_getElem?
 intro k
 rw [Array.getElem?_toList,getElem?_bubble (by lia) d (by lia)]
 have g:∀ n:Nat,a[n]? = (L++((j++q)++x::R))[n]? := fun n=>by rw [<- Array.getElem?_toList,e]
 rw [g,g,g]
 by_cases h1:k < L.length
 ·rw [if_neg (by lia),if_neg (by lia),List.getElem?_append_left h1,List.getElem?_append_left h1]
 ·by_cases h2:k < L.length+j.length
  ·rw [if_neg (by lia),if_neg (by lia),List.getElem?_append_right (by lia),List.getElem?_append_left (by simp;lia),List.getElem?_append_left (by lia),List.getElem?_append_right (by lia),List.getElem?_append_left (by simp;lia),List.getElem?_append_left (by lia)]
  ·by_cases h3:k=L.length+j.length
   ·rw [if_pos (by lia),List.getElem?_append_right (by lia),List.getElem?_append_right (by simp;lia),List.getElem?_append_right (by lia),List.getElem?_append_left (by simp;lia),List.getElem?_append_right (by lia)]
    have e1:src - L.length - (j++q).length=0:=by simp;lia
    have e2:k - L.length - j.length=0:=by lia
    rw [e1,e2];rfl
   ·by_cases h4:k<=src
    ·rw [if_neg (by lia),if_pos (by lia),List.getElem?_append_right (by lia),List.getElem?_append_left (by simp;lia),List.getElem?_append_right (by lia),List.getElem?_append_right (by lia),List.getElem?_append_left (by simp;lia),List.getElem?_append_right (by lia)]
     have e2:k - L.length - j.length=(k - 1 - L.length - j.length)+1:=by lia
     rw [e2,List.getElem?_cons_succ]
    ·rw [if_neg (by lia),if_neg (by lia),List.getElem?_append_right (by lia),List.getElem?_append_right (by simp;lia),List.getElem?_append_right (by lia),List.getElem?_append_right (by simp;lia)]
     have e2:k - L.length - (j++q).length=(k - L.length - (j++x::q).length)+1:=by simp;lia
     rw [e2,List.getElem?_cons_succ]
theorem dl (c:Cm prog w A s kd P lt) {i j:Nat} {x y:Keyed} {st:SortSt} {Q:Option Bool->SortSt->Prop} (n:kindOf st=kd) (hx:(arrOf st)[i]? = some x) (hy:(arrOf st)[j]? = some y) (px:P x) (py:P y) (q:Q (some (lt x y)) st):wpS (PySem.model prog w) A E s (ltAt' i j) Q st:=by
 rw [ltAt'_eq]
 exact wpS_bind (wpS_get (wpS_bind (oJ hx (wpS_bind (oJ hy (Cd c n px py q))))))
theorem iM {i j:Nat} {st:SortSt} {Q:Unit->SortSt->Prop} {L B R:List Keyed} (e:(arrOf st).toList=L++(B++R)) (hi:i=L.length) (n:j=L.length+B.length) (q:∀ st',(arrOf st').toList=L++(B.reverse++R)->Kp st st'->Q () st'):wpS (PySem.model prog w) A E s (reverseSlice' i j) Q st:=by
 rw [reverseSlice'_eq]
 exact wpS_modify (q _ (oi e hi n) ⟨rfl,rfl,rfl⟩)
theorem cb {st:SortSt} {L xs:List Keyed} (e:(arrOf st).toList=L++xs) {i n:Nat} (hi:i=L.length+n):(arrOf st)[i]? = xs[n]? := by
 rw [<- Array.getElem?_toList,e,hi,List.getElem?_append_right (by lia)]
 congr 1;lia
theorem mK (c:Cm prog w A s kd P lt) {xs:List Keyed} {n:Nat} {x y:Keyed} (h:Ord lt (xs.take n)) (hn : 0 < n) (hx:xs[n]? = some x) (hy:xs[n - 1]? = some y) (q:lt x y=false):Ord lt (xs.take (n+1)):=by
 rw [List.take_add_one,hx]
 refine List.pairwise_append.mpr ⟨h,by simp,fun z hz u j => ?_⟩
 simp at j;subst j
 exact oK c h hn hy q z hz
noncomputable abbrev cP (lt:Keyed->Keyed->Bool) (l:List Keyed):Prop:=l.Pairwise fun x y=>lt x y=false
theorem gQ (c:Cm prog w A s kd P lt) {D:List Keyed} {e x:Keyed} (h:cP lt (D++[e])) (hx:lt e x=false):cP lt (D++[e]++[x]):=by
 refine List.pairwise_append.mpr ⟨h,by simp,fun z hz u j => ?_⟩
 simp at j;subst j
 obtain ⟨_,_,n⟩:=List.pairwise_append.mp h
 rcases List.mem_append.mp hz with g | g
 ·cases q:lt z u with
  | false=>rfl
  | true=>rcases c.neg z e u q with r | r
          ·rw [n z g e (by simp)] at r;cases r
          ·rw [hx] at r;cases r
 ·simp at g;subst g;exact hx
theorem oM {j F:List Keyed} (h:cP lt (j++F)) (he:∀ x∈F, ∀ y∈F,lt x y=false):cP lt (j++F.reverse):=by
 obtain ⟨h1,h2,n⟩:=List.pairwise_append.mp h
 refine List.pairwise_append.mpr ⟨h1, ?_,fun x hx y hy=>n x hx y (List.mem_reverse.mp hy)⟩
 rw [List.pairwise_reverse]
 exact h2.imp_of_mem fun hx hy _=>he _ hy _ hx
theorem perm_take {xs:List Keyed} {n:Nat}:(xs.take n++xs.drop n).Perm xs:=by rw [List.take_append_drop]
theorem om (c:Cm prog w A s kd P lt) {L xs:List Keyed} {st:SortSt} {Q:Option Nat->SortSt->Prop} (hk:kindOf st=kd) (J:(arrOf st).toList=L++xs) (h0:xs≠[]) (hP:∀ x∈xs,P x)
 (q:∀ r R st',(arrOf st').toList=L++(r++R)->(r++R).Perm xs->r≠[]->Ord lt r->Kp st st'->Q (some r.length) st'):wpS (PySem.model prog w) A E s (countRun' L.length xs.length) Q st:=by
 have Du : 0 < xs.length:=List.length_pos_iff.mpr h0
 rw [countRun'_eq]
 try dsimp -zeta -zetaHave -zetaUnused only
 refine wpS_bind (bF (Q:=fun r st'=>st'=st /\ ∃ n,r=(none,n)/\1<=n/\n<=xs.length/\Ord lt (xs.take n)/\(n=xs.length ∨ ∃ x y,xs[n]? = some x/\xs[n - 1]? = some y/\lt x y=true))
  (wpS_forRange (fun i r st'=>st'=st/\r=(none,i)/\Ord lt (xs.take i)) ?_ ?_ ⟨rfl,rfl,by
    cases xs with
    | nil=>exact absurd rfl h0
    | cons x t=>simp⟩) ?_)
 ·rintro i r st' h1 hi ⟨rfl,rfl,ho⟩
  dsimp only
  obtain ⟨x,hx⟩:∃ x,xs[i]? = some x:=⟨_,List.getElem?_eq_getElem hi⟩
  obtain ⟨y,hy⟩:∃ y,xs[i - 1]? = some y:=⟨_,List.getElem?_eq_getElem (by lia)⟩
  refine wpS_bind (dl c hk ((cb J rfl).trans hx) ((cb J (by lia)).trans hy) (hP _ (List.mem_of_getElem? hx)) (hP _ (List.mem_of_getElem? hy)) ?_)
  dsimp only
  refine bv (fun h => ?_) (fun h => ?_)
  ·exact au ⟨rfl,i,rfl,h1,by lia,ho, .inr ⟨x,y,hx,hy,h⟩⟩
  ·exact au ⟨rfl,rfl,mK c ho (by lia) hx hy (by simpa using h)⟩
 ·rintro r st' ⟨rfl,rfl,ho⟩
  exact ⟨rfl,_,rfl,by lia,by lia,ho, .inl (by lia)⟩
 ·rintro r st' ⟨rfl,n,rfl,DR,Dv,ho,hc⟩
  dsimp -zeta -zetaHave -zetaUnused only
  have Dg:Q (some n) st':=by
   have:=q (xs.take n) (xs.drop n) st' (by rw [J,List.take_append_drop]) perm_take (fun z=>by
    have h3:=congrArg List.length z
    rw [List.length_take,List.length_nil] at h3;lia) ho Kp.refl
   rw [List.length_take,Nat.min_eq_left Dv] at this
   exact this
  extract_lets -underBinder +onlyGivenNames vr vn
  dsimp -zeta -zetaHave -zetaUnused only [vr]
  clear vr
  have en:n=vn:=rfl
  clear_value vn
  subst en
  refine bv (fun h=>au Dg) (fun h => ?_)
  have DG:n≠xs.length:=by simpa using h
  obtain ⟨x,y,hx,hy,DH⟩:=hc.resolve_left DG
  have DS:n < xs.length:=by lia
  have exs:xs=xs.take n++x::xs.drop (n+1):=by
   have h1:=(List.take_append_drop n xs).symm
   rw [w4 hx] at h1
   exact h1
  have Dw:y∈xs.take n:=by rw [mJ (by lia) hy];simp
  extract_lets -underBinder +onlyGivenNames jp
  have Dx:∀ (B:List Keyed) (Z:SortSt),(arrOf Z).toList=L++(B++x::xs.drop (n+1))->B.Perm (xs.take n)->B.length=n->(∀ u∈B, ∀ v∈B,lt u v=false)->y∈B->Kp st' Z->wpS (PySem.model prog w) A E s (jp ()) Q Z:=by
   intro B Z e1 hB D7 D8 D9 Da
   dsimp -zeta -zetaHave -zetaUnused only [jp]
   clear jp
   refine wpS_bind (mG ?_)
   try dsimp -zeta -zetaHave -zetaUnused only
   extract_lets -underBinder +onlyGivenNames vn1 vq1
   have DI:vn1=n+1:=rfl
   have eq1:vq1=0:=rfl
   clear_value vn1 vq1
   subst DI eq1
   refine wpS_bind (bF (Q:=fun r O => ∃ G F R neq,Kp st' O/\(arrOf O).toList=L++((G++F)++R)/\((G++F)++R).Perm xs/\r=(none,(G++F).length,neq)/\F.length=neq+1/\cP lt (G++F)/\(∀ u∈F, ∀ v∈F,lt u v=false))
    (wpS_forRange (fun i r O => ∃ G F R neq,Kp st' O/\(arrOf O).toList=L++((G++F)++R)/\((G++F)++R).Perm xs/\r=(none,(G++F).length,neq)/\F.length=neq+1/\cP lt (G++F)/\(∀ u∈F, ∀ v∈F,lt u v=false)/\(G++F).length=i) ?_ ?_ ?_) ?_)
   ·rintro i r O DT hi ⟨G,F,R,neq,kp,ea,hp,rfl,hF,hN,hE,Dy⟩
    subst Dy
    have hlen:=hp.length_eq
    rw [List.length_append] at hlen
    obtain ⟨z,R',rfl⟩:∃ z R',R=z::R':=by
     cases R with
     | nil=>simp at hlen;simp at hi;lia
     | cons z R'=>exact ⟨z,R',rfl⟩
    have DJ:F≠[]:=fun z=>by rw [z] at hF;simp at hF
    obtain ⟨F0,e,rfl⟩:∃ F0 e,F=F0++[e]:=⟨F.dropLast,F.getLast DJ,(List.dropLast_concat_getLast _).symm⟩
    have hz:(arrOf O)[L.length+(G++(F0++[e])).length]? = some z:=by
     rw [cb ea rfl,List.getElem?_append_right (by lia),Nat.sub_self];rfl
    have he:(arrOf O)[L.length+(G++(F0++[e])).length - 1]? = some e:=by
     rw [cb ea (n:=(G++F0).length) (by simp <;> lia),List.getElem?_append_left (by simp <;> lia), <- List.append_assoc,List.getElem?_append_right (by lia),Nat.sub_self];rfl
    have Dz:P z:=hP z (hp.mem_iff.mp (by simp))
    have DA:P e:=hP e (hp.mem_iff.mp (by simp))
    dsimp only
    refine wpS_bind (dl c (kp.kind.trans hk) hz he Dz DA ?_)
    dsimp only
    have Dl:cP lt (G++F0++[e]):=by rw [List.append_assoc];exact hN
    refine bv (fun Dm => ?_) (fun Dm => ?_)
    ·have Db:lt e z=false:=c.asym _ _ Dm
     refine bv (fun Dc => ?_) (fun Dc => ?_)
     ·refine wpS_bind (iM (L:=L++G) (B:=F0++[e]) (R:=z::R') (by rw [ea];simp) (by simp only [List.length_append] at hF ⊢;simp only [List.length_singleton] at hF ⊢;lia) (by simp <;> lia) fun U e3 S => ?_)
      refine au ⟨G++(F0++[e]).reverse,[z],R',0,kp.trans S,by rw [e3];simp, ?_,by simp <;> lia,rfl, ?_, ?_,by simp <;> lia⟩
      ·refine List.Perm.trans ?_ hp
       rw [List.append_assoc,List.append_assoc,List.append_assoc]
       exact List.Perm.append_left _ (List.Perm.append_right _ (List.reverse_perm _))
      ·have h1:=oM hN hE
       refine List.pairwise_append.mpr ⟨h1,by simp,fun u j v I => ?_⟩
       simp at I;subst I
       have hm:=gQ c Dl Db
       refine (List.pairwise_append.mp hm).2.2 u ?_ v (by simp)
       rw [List.append_assoc]
       rcases List.mem_append.mp j with g | g
       ·exact List.mem_append_left _ g
       ·exact List.mem_append_right _ (List.mem_reverse.mp g)
      ·intro u j v I;simp at j I;subst j I;exact c.irr
     ·refine au ⟨G++(F0++[e]),[z],R',0,kp,by rw [ea];simp,by simpa using hp,by simp <;> lia,rfl, ?_, ?_,by simp <;> lia⟩
      ·have hm:=gQ c Dl Db
       simpa using hm
      ·intro u j v I;simp at j I;subst j I;exact c.irr
    ·have DK:lt z e=false:=by simpa using Dm
     refine wpS_bind (dl c (kp.kind.trans hk) he hz DA Dz ?_)
     dsimp only
     refine bv (fun DB => ?_) (fun DB => ?_)
     ·exact au ⟨G,F0++[e],z::R',neq,kp,ea,hp,rfl,hF,hN,hE⟩
     ·have Db:lt e z=false:=by simpa using DB
      refine au ⟨G,(F0++[e])++[z],R',neq+1,kp,by rw [ea];simp,by simpa using hp,by simp <;> lia,by simp at hF ⊢;lia, ?_, ?_,by simp <;> lia⟩
      ·have hm:=gQ c Dl Db
       simpa using hm
      ·have DL:∀ u∈F0++[e],lt u z=false:=fun u j=>by
        cases q1:lt u z with
        | false=>rfl
        | true=>rcases c.neg u e z q1 with r | r
                ·rw [hE u j e (by simp)] at r;cases r
                ·rw [Db] at r;cases r
       have DM:∀ u∈F0++[e],lt z u=false:=fun u j=>by
        cases q1:lt z u with
        | false=>rfl
        | true=>rcases c.neg z e u q1 with r | r
                ·rw [DK] at r;cases r
                ·rw [hE e (by simp) u j] at r;cases r
       intro u j v I
       rcases List.mem_append.mp j with g | g <;> rcases List.mem_append.mp I with g2 | g2
       ·exact hE u g v g2
       ·simp at g2;subst g2;exact DL u g
       ·simp at g;subst g;exact DM v g2
       ·simp at g g2;subst g g2;exact c.irr
   ·rintro r O ⟨G,F,R,neq,kp,ea,hp,hr,hF,hN,hE,Dy⟩
    exact ⟨G,F,R,neq,kp,ea,hp,hr,hF,hN,hE⟩
   ·refine ⟨B,[x],xs.drop (n+1),0,Da,by rw [e1];simp, ?_,by simp [D7],rfl, ?_, ?_,by simp [D7]⟩
    ·have h9:(B++x::xs.drop (n+1)).Perm xs:=by
      have h9:=List.Perm.append_right (x::xs.drop (n+1)) hB
      rw [<- exs] at h9
      exact h9
     simpa using h9
    ·refine List.pairwise_append.mpr ⟨List.Pairwise.imp_of_mem (fun j I _=>D8 _ j _ I) (List.pairwise_of_forall_mem_list (r:=fun _ _=>True) fun _ _ _ _=>trivial),by simp,fun u j v I => ?_⟩
     simp at I;subst I
     cases q1:lt u v with
     | false=>rfl
     | true=>rcases c.neg u y v q1 with r | r
             ·rw [D8 u j y D9] at r;cases r
             ·rw [c.asym _ _ DH] at r;cases r
    ·intro u j v I;simp at j I;subst j I;exact c.irr
   ·rintro r O ⟨G,F,R,neq,kp,ea,hp,rfl,hF,hN,hE⟩
    dsimp -zeta -zetaHave -zetaUnused only
    extract_lets -underBinder +onlyGivenNames vr vs vn2 vq2
    dsimp -zeta -zetaHave -zetaUnused only [vr]
    have DN:vn2=(G++F).length:=rfl
    have eq2:neq=vq2:=rfl
    clear_value vn2 vq2
    clear vs vr
    subst DN eq2
    extract_lets -underBinder +onlyGivenNames Dd
    have Dh:∀ (D:List Keyed) (U:SortSt),(arrOf U).toList=L++(D++R)->cP lt D->(D++R).Perm xs->D.length=(G++F).length->0 < D.length->Kp st' U->wpS (PySem.model prog w) A E s (Dd ()) Q U:=by
     intro D U e3 Dn Do De Di S
     dsimp -zeta -zetaHave -zetaUnused only [Dd]
     clear Dd
     have DO : 0 < D.length:=by lia
     refine wpS_bind (iM (L:=L) (B:=D) (R:=R) e3 rfl (by rw [De]) fun DC e4 DD => ?_)
     have o4:Ord lt D.reverse:=List.pairwise_reverse.mpr Dn
     have Df:(D.reverse++R).Perm xs:=(List.Perm.append_right _ (List.reverse_perm D)).trans Do
     have DE:(D.reverse++R).length=xs.length:=Df.length_eq
     have Dp:Ord lt ((D.reverse++R).take D.length):=by
      rw [List.take_append_of_le_length (by simp),List.take_of_length_le (by simp)];exact o4
     have Dq:∀ u∈D.reverse++R,P u:=fun u j=>hP u (Df.mem_iff.mp j)
     have DP:D.length<=xs.length:=by rw [<- DE];simp
     rw [<- De]
     generalize D.length=N0 at Dp DO DP
     generalize D.reverse++R=ys at e4 Df DE Dp Dq
     refine wpS_bind (bF (Q:=fun r Y=>Y=DC /\ ∃ n,r=(none,n)/\1<=n/\n<=xs.length/\Ord lt (ys.take n))
      (wpS_forRange (fun i r Y=>Y=DC/\r=(none,i)/\Ord lt (ys.take i)) ?_ ?_ ⟨rfl,rfl,Dp⟩) ?_)
     ·rintro i r Y h1 hi ⟨rfl,rfl,ho⟩
      dsimp only
      obtain ⟨u,j⟩:∃ u,ys[i]? = some u:=⟨_,List.getElem?_eq_getElem (by lia)⟩
      obtain ⟨v,I⟩:∃ v,ys[i - 1]? = some v:=⟨_,List.getElem?_eq_getElem (by lia)⟩
      refine wpS_bind (dl c ((S.trans DD).kind.trans hk) ((cb e4 rfl).trans j) ((cb e4 (by lia)).trans I) (Dq _ (List.mem_of_getElem? j)) (Dq _ (List.mem_of_getElem? I)) ?_)
      dsimp only
      refine bv (fun h => ?_) (fun h => ?_)
      ·exact au ⟨rfl,i,rfl,by lia,by lia,ho⟩
      ·exact au ⟨rfl,rfl,mK c ho (by lia) j I (by simpa using h)⟩
     ·rintro r Y ⟨rfl,rfl,ho⟩
      exact ⟨rfl,_,rfl,by lia,by lia,ho⟩
     ·rintro r Y ⟨rfl,m,rfl,DU,DV,ho⟩
      refine au ?_
      have:=q (ys.take m) (ys.drop m) Y (by rw [e4,List.take_append_drop]) (perm_take.trans Df) (fun z=>by
       have h3:=congrArg List.length z
       rw [List.length_take,List.length_nil] at h3;lia) ho (S.trans DD)
      rw [List.length_take,Nat.min_eq_left (by lia)] at this
      exact this
    clear_value Dd
    refine bv (fun Dc => ?_) (fun Dc => ?_)
    ·refine wpS_bind (iM (L:=L++G) (B:=F) (R:=R) (by rw [ea];simp) (by simp <;> lia) (by simp <;> lia) fun U e3 S => ?_)
     have S:=kp.trans S
     have e3:(arrOf U).toList=L++((G++F.reverse)++R):=by rw [e3];simp
     have Dn:=oM hN hE
     have Do:((G++F.reverse)++R).Perm xs:=(List.Perm.append_right _ (List.Perm.append_left _ (List.reverse_perm _))).trans hp
     have De:(G++F.reverse).length=(G++F).length:=by simp
     have Di : 0 < (G++F.reverse).length:=by simp <;> lia
     exact Dh _ _ e3 Dn Do De Di S
    ·exact Dh _ _ ea hN hp rfl (by simp <;> lia) kp
  clear_value jp
  refine bv (fun h1 => ?_) (fun h1 => ?_)
  ·obtain ⟨x0,Ds⟩:∃ x0,xs[0]? = some x0:=⟨_,List.getElem?_eq_getElem Du⟩
   refine wpS_bind (dl c hk ((cb J (n := 0) (by lia)).trans Ds) ((cb J (by lia)).trans hy) (hP _ (List.mem_of_getElem? Ds)) (hP _ (List.mem_of_getElem? hy)) ?_)
   dsimp only
   refine bv (fun hr=>au Dg) (fun hr => ?_)
   have hr:lt x0 y=false:=by simpa using hr
   have DF:∀ u∈xs.take n,lt u x0=false:=fun u j=>by
    obtain ⟨i,hi,eu⟩:=List.mem_iff_getElem.mp j
    have Dt:(xs.take n)[i]? = some u:=by rw [<- eu];exact List.getElem?_eq_getElem hi
    have Dj:(xs.take n)[0]? = some x0:=by rw [List.getElem?_take_of_lt (by lia)];exact Ds
    by_cases hi0:i=0
    ·subst hi0;rw [Dj] at Dt;cases Dt;exact c.irr
    ·exact iL ho (by lia) Dj Dt
   have DQ:∀ u∈xs.take n,lt y u=false:=oK c ho (by lia) hy c.irr
   have heq:∀ u∈xs.take n, ∀ v∈xs.take n,lt u v=false:=fun u j v I=>by
    exact c.le_trans (c.le_trans (DQ v I) hr) (DF u j)
   refine wpS_bind (iM (L:=L) (B:=xs.take n) (R:=x::xs.drop (n+1)) (by rw [J];exact congrArg (L ++ ·) exs) rfl (by rw [List.length_take,Nat.min_eq_left Dv]) fun Z e1 Da => ?_)
   have hB:(xs.take n).reverse.Perm (xs.take n):=List.reverse_perm _
   have D7:(xs.take n).reverse.length=n:=by rw [List.length_reverse,List.length_take];lia
   have D8:∀ u∈(xs.take n).reverse, ∀ v∈(xs.take n).reverse,lt u v=false:=fun u j v I=>heq u (List.mem_reverse.mp j) v (List.mem_reverse.mp I)
   have D9:y∈(xs.take n).reverse:=List.mem_reverse.mpr Dw
   exact Dx _ _ e1 hB D7 D8 D9 Da
  ·have Z:=st'
   have hn:n=1:=by lia
   have Da:Kp st' st':=Kp.refl
   have e1:(arrOf st').toList=L++(xs.take n++x::xs.drop (n+1)):=by rw [J];exact congrArg (L ++ ·) exs
   have hB:(xs.take n).Perm (xs.take n):=List.Perm.refl _
   have D7:(xs.take n).length=n:=by rw [List.length_take];lia
   have D9:=Dw
   have D8:∀ u∈xs.take n, ∀ v∈xs.take n,lt u v=false:=fun u j v I=>by
    have e0:xs.take n=[y]:=by
     subst hn
     rw [mJ (by lia) hy];rfl
    rw [e0] at j I
    simp at j I;subst j I;exact c.irr
   exact Dx _ _ e1 hB D7 D8 D9 Da
end
end Srt
end L2
namespace L2
namespace Srt
open PySem PySem.Spec PyProof.Rows
section
variable {prog:Program} {w:World} {A:Around} {E:Value->Shared->Prop} {s:Shared} {kd:SortKind} {P:Keyed->Prop} {lt:Keyed->Keyed->Bool}
theorem tG (c:Cm prog w A s kd P lt) {L r R:List Keyed} {n:Nat} {st:SortSt} {Q:Bool->SortSt->Prop} (hk:kindOf st=kd) (O:(arrOf st).toList=L++(r++R)) (h0:r≠[]) (ho:Ord lt r) (hn:r.length<=n) (U:n<=(r++R).length) (hP:∀ x∈r++R,P x)
 (q:∀ r' R' st',(arrOf st').toList=L++(r'++R')->(r'++R').Perm (r++R)->r'.length=n->Ord lt r'->Kp st st'->Q true st'):wpS (PySem.model prog w) A E s (binarySort' L.length n r.length) Q st:=by
 have Db : 0 < r.length:=List.length_pos_iff.mpr h0
 rw [binarySort'_eq]
 refine wpS_bind (bF (Q:=fun x st'=>x=(none,()) /\ ∃ D T,Kp st st'/\(arrOf st').toList=L++(D++T)/\(D++T).Perm (r++R)/\D.length=n/\Ord lt D)
  (wpS_forRange (fun i x st'=>x=(none,()) /\ ∃ D T,Kp st st'/\(arrOf st').toList=L++(D++T)/\(D++T).Perm (r++R)/\D.length=i/\Ord lt D) ?_ ?_ ⟨rfl,r,R,Kp.refl,O,List.Perm.refl _,by lia,ho⟩) ?_)
 ·rintro k x B Dc Dd ⟨rfl,D,T,kp,ea,hp,S,I⟩
  dsimp only
  subst S
  have hlen:=hp.length_eq
  rw [List.length_append] at hlen
  obtain ⟨z,T',rfl⟩:∃ z T',T=z::T':=by
   cases T with
   | nil=>simp at hlen U;lia
   | cons z T'=>exact ⟨z,T',rfl⟩
  have Z:∀ u∈D,P u:=fun u G=>hP u (hp.mem_iff.mp (List.mem_append_left _ G))
  have D7:P z:=hP z (hp.mem_iff.mp (by simp))
  have hz:(arrOf B)[L.length+D.length]? = some z:=by
   rw [cb ea rfl,List.getElem?_append_right (by lia),Nat.sub_self];rfl
  refine wpS_bind (bF (Q:=fun x st'=>st'=B /\ ∃ k,x=(none,k,k)/\Gal lt false z D k k)
   (wpS_forRange (fun i x st'=>st'=B /\ ∃ lo hi,x=(none,lo,hi)/\Gal lt false z D lo hi/\hi - lo+i<=D.length) ?_ ?_ ⟨rfl,0,D.length,rfl,⟨by lia,by lia,fun _ _ h=>by lia,fun i x hi hx=>by
     have:=(List.getElem?_eq_some_iff.mp hx).1
     lia⟩,by lia⟩) ?_)
  ·rintro i x J _ hi ⟨rfl,lo,j,rfl,F,hm⟩
   dsimp only
   have hl:=F.le
   have D8:=F.len
   refine bv (fun D9 => ?_) (fun D9 => ?_)
   ·exact au ⟨rfl,j,by rw [show lo=j by lia],by rw [show lo=j by lia] at F;exact F⟩
   ·obtain ⟨u,G⟩:∃ u,D[(lo+j) / 2]? = some u:=⟨_,List.getElem?_eq_getElem (by lia)⟩
    have Da:(arrOf J)[L.length+(lo+j) / 2]? = some u:=by
     rw [cb ea rfl,List.getElem?_append_left (by lia)];exact G
    refine wpS_bind (dl c (kp.kind.trans hk) hz Da D7 (Z _ (List.mem_of_getElem? G)) ?_)
    dsimp only
    refine bv (fun hf => ?_) (fun hf => ?_)
    ·exact au ⟨rfl,_,_,rfl,⟨by lia,by lia,F.up,Cf c I G (by simp [bey,hf])⟩,by lia⟩
    ·exact au ⟨rfl,_,_,rfl,⟨by lia,D8,Ce c I G (by simpa [bey] using hf),F.dn⟩,by lia⟩
  ·rintro x J ⟨rfl,lo,j,rfl,F,hm⟩
   have hl:=F.le
   exact ⟨rfl,j,by rw [show lo=j by lia],by rw [show lo=j by lia] at F;exact F⟩
  ·rintro x J ⟨rfl,l,rfl,F⟩
   dsimp only
   obtain ⟨X,Y,e,hl,hX,hY⟩:=F.out
   subst hl e
   rw [moveDown'_eq]
   refine wpS_bind (wpS_modify ?_)
   refine au ⟨rfl,X++z::Y,T',kp.trans ⟨rfl,rfl,rfl⟩,oj ea (by simp) (by simp;lia), ?_,by simp;lia, ?_⟩
   ·refine List.Perm.trans ?_ hp
    rw [List.append_assoc,List.append_assoc]
    refine List.Perm.append_left _ ?_
    rw [List.cons_append]
    exact List.perm_middle.symm
   ·obtain ⟨o1,o2,o3⟩:=List.pairwise_append.mp I
    refine List.pairwise_append.mpr ⟨o1,List.pairwise_cons.mpr ⟨fun u G=>c.asym _ _ (by have:=hY u G;simpa [bey] using this),o2⟩,fun u G v hv => ?_⟩
    rcases List.mem_cons.mp hv with g | g
    ·subst g;have:=hX u G;simpa [bey] using this
    ·exact o3 u G v g
 ·rintro x B ⟨rfl,D,T,kp,ea,hp,S,I⟩
  exact ⟨rfl,D,T,kp,ea,hp,by lia,I⟩
 ·rintro x B ⟨rfl,D,T,kp,ea,hp,S,I⟩
  exact au (q D T B ea hp S I kp)
noncomputable def Pd:Nat->List (List Keyed)->List (Nat×Nat×Nat)->Prop
 | _,[],ps=>ps=[]
 | s,r::rs,ps => ∃ p t,ps=(s,r.length,p)::t/\Pd (s+r.length) rs t
theorem Pd.length:∀ {l:List (List Keyed)} {s:Nat} {ps:List (Nat×Nat×Nat)},Pd s l ps->ps.length=l.length
 | [],_,_,h=>by rw [show _=[] from h];rfl
 | r::l,s,ps,h=>by
   obtain ⟨p,q,e,h⟩:=h
   rw [e];simp [h.length]
structure Rn (lt:Keyed->Keyed->Bool) (kd:SortKind) (a₀:List Keyed) (st:SortSt) (rs:List (List Keyed)) (R:List Keyed):Prop where
 arr:(arrOf st).toList=rs.flatten++R
 perm:(rs.flatten++R).Perm a₀
 ord:∀ r∈rs,r≠[]/\Ord lt r
 pend:Pd 0 rs (pendingOf st).toList
 kind:kindOf st=kd
 fail:failedOf st=none
theorem Rn.size {a₀:List Keyed} {st:SortSt} {rs:List (List Keyed)} {R:List Keyed} (h:Rn lt kd a₀ st rs R):rs.flatten.length+R.length=a₀.length:=by
 have:=h.perm.length_eq
 rw [List.length_append] at this;exact this
end
end Srt
end L2
namespace L2
namespace Srt
open PySem PySem.Spec PyProof.Rows
noncomputable def fZ (cap:Nat):Prop := ∀ (prog:Program) (w:World) (A:Around) (E:Value->Shared->Prop) (s:Shared) (kd:SortKind) (P:Keyed->Prop) (lt:Keyed->Keyed->Bool),Cm prog w A s kd P lt -> ∀ (st:SortSt) (Q:Unit->SortSt->Prop),kindOf st=kd->failedOf st=none->pendingOf st = #[]->(∀ x∈(arrOf st).toList,P x)->2<=(arrOf st).size->(arrOf st).size<=cap ->
 (∀ st',(arrOf st').toList.Perm (arrOf st).toList->Ord lt (arrOf st').toList->failedOf st'=none->Q () st')->wpS (PySem.model prog w) A E s sortRuns' Q st
theorem on:fZ 63:=by
 intro prog w A E s kd P lt c st Q hk hf hp U h2 Y q
 rw [sortRuns'_eq]
 refine wpS_bind (wpS_get ?_)
 dsimp only
 have J:minRun' (arrOf st).size (arrOf st).size 0=(arrOf st).size:=by
  obtain ⟨f,hf⟩:∃ f,(arrOf st).size=f+1:=⟨(arrOf st).size - 1,by lia⟩
  have:minRun' (f+1) (arrOf st).size 0=(arrOf st).size:=by rw [minRun'_succ,if_pos (by lia)];rfl
  rwa [<- hf] at this
 rw [J]
 have hsz:(arrOf st).size=(arrOf st).toList.length:=by simp
 generalize hA:(arrOf st).toList=a₀ at U q hsz
 generalize hS:(arrOf st).size=size at hsz h2 Y J
 have h0:a₀ ≠ []:=fun z=>by rw [z] at hsz;simp at hsz;lia
 refine wpS_bind (bF (Q:=fun r st'=>r=(none,size)/\(arrOf st').toList.Perm a₀ /\ Ord lt (arrOf st').toList/\failedOf st'=none/\pendingOf st' = #[(0,size,0)])
  (wpS_forRange (fun i r st'=>(i=0/\r=(none,0)/\st'=st)∨(1<=i/\r=(none,size)/\(arrOf st').toList.Perm a₀ /\ Ord lt (arrOf st').toList/\failedOf st'=none/\pendingOf st' = #[(0,size,0)])) ?_ ?_ (.inl ⟨rfl,rfl,rfl⟩)) ?_)
 ·rintro i r B _ hi (⟨rfl,rfl,rfl⟩ | ⟨_,rfl,Z⟩)
  ·dsimp only
   rw [if_neg (by lia)]
   rw [show size - 0=a₀.length by lia,show min a₀.length size=size by lia]
   refine wpS_bind (om (L := []) c hk hA h0 U fun r R O ea F D7 ho kp => ?_)
   dsimp only
   have hl:=F.length_eq
   rw [List.length_append] at hl
   have fin:∀ (r':List Keyed) (j:SortSt),(arrOf j).toList=r'->r'.Perm a₀ -> Ord lt r'->Kp B j->wpS (PySem.model prog w) A E s (modify fun z=>setPending z ((pendingOf z).push (0,size,0))) (fun _ st'=>(arrOf st').toList.Perm a₀ /\ Ord lt (arrOf st').toList/\failedOf st'=none/\pendingOf st' = #[(0,size,0)]) j:=fun r' j e3 p3 o3 k3=>by
    refine wpS_modify ?_
    exact ⟨by show (arrOf j).toList.Perm a₀;rw [e3];exact p3,by show Ord lt (arrOf j).toList;rw [e3];exact o3,k3.fail.trans hf,by show (pendingOf j).push _=_;rw [k3.pend,hp];rfl⟩
   by_cases hlt:r.length < size
   ·rw [if_pos hlt]
    refine wpS_bind (mG ?_)
    refine wpS_bind (tG (L := []) c (kp.kind.trans hk) ea D7 ho (n:=size) (by lia) (by simp;lia) (fun x hx=>U x (F.mem_iff.mp hx)) fun r2 R2 j D8 G Dd D9 S => ?_)
    rw [if_neg (by simp)]
    refine wpS_bind (wpS_get ?_)
    have hb:(pendingOf j).back? = none:=by rw [S.pend,kp.pend,hp];rfl
    rw [hb]
    dsimp only
    have Da:=G.length_eq
    rw [List.length_append,List.length_append] at Da
    have:R2=[]:=List.length_eq_zero_iff.mp (by lia)
    subst this
    rw [show 0+size=size by lia]
    refine wpS_bind (bF (fin r2 j (by simpa using D8) (by simpa using G.trans F) D9 (kp.trans S)) fun _ Db h4=>au (.inr ⟨by lia,rfl,h4⟩))
   ·rw [if_neg hlt]
    refine wpS_bind (wpS_get ?_)
    have hb:(pendingOf O).back? = none:=by rw [kp.pend,hp];rfl
    rw [hb]
    dsimp only
    have:R=[]:=List.length_eq_zero_iff.mp (by lia)
    subst this
    have Dc:r.length=size:=by simp at hl;lia
    rw [Dc,show 0+size=size by lia]
    refine wpS_bind (bF (fin r O (by simpa using ea) (by simpa using F) ho kp) fun _ Db h4=>au (.inr ⟨by lia,rfl,h4⟩))
  ·dsimp only
   rw [if_pos (Nat.le_refl _)]
   exact au ⟨rfl,Z⟩
 ·rintro r B (⟨h,_,_⟩ | ⟨_,rfl,Z⟩)
  ·lia
  ·exact ⟨rfl,Z⟩
 ·rintro r B ⟨rfl,p1,o1,f1,pd⟩
  dsimp only
  refine wpS_bind (bF (wpS_forRange (I:=fun _ c st''=>st''=B/\c=(none,())) (Q:=fun c st''=>st''=B/\c=(none,())) ?_ (fun _ _ hh=>hh) ⟨rfl,rfl⟩) ?_)
  ·rintro x c st'' _ _ ⟨rfl,rfl⟩
   refine wpS_bind (wpS_get ?_)
   rw [if_pos (by rw [pd];exact Nat.le_refl 1)]
   exact au ⟨rfl,rfl⟩
  ·rintro c st'' ⟨rfl,rfl⟩
   exact au (q _ p1 o1 f1)
end Srt
end L2
namespace L2
namespace Srt
open PySem PySem.Spec PyProof.Rows
inductive Ky where
 | int (i:Int)
 | tup (l:List Ky)
mutual
noncomputable def ax:Ky->Ky->Ordering
 | .int a, .int b=>if a < b then .lt else if a=b then .eq else .gt
 | .int _, .tup _ => .lt
 | .tup _, .int _ => .gt
 | .tup a, .tup b=>cmpKs a b
noncomputable def cmpKs:List Ky->List Ky->Ordering
 | [],[] => .eq
 | [],_::_ => .lt
 | _::_,[] => .gt
 | x::xs,y::ys=>(ax x y).then (cmpKs xs ys)
end
mutual
theorem cQ:∀ a b,ax b a=(ax a b).swap
 | .int a, .int b=>by
  simp only [ax]
  by_cases h1:a < b
  ·rw [if_pos h1,if_neg (by lia),if_neg (by lia)];rfl
  ·by_cases h2:a=b
   ·rw [if_neg h1,if_pos h2,if_neg (by lia),if_pos h2.symm];rfl
   ·rw [if_neg h1,if_neg h2,if_pos (by lia)];rfl
 | .int _, .tup _=>by simp [ax]
 | .tup _, .int _=>by simp [ax]
 | .tup a, .tup b=>by simp only [ax];exact cmpKs_swap a b
theorem cmpKs_swap:∀ a b,cmpKs b a=(cmpKs a b).swap
 | [],[] => rfl
 | [],_::_=>rfl
 | _::_,[] => rfl
 | x::xs,y::ys=>by
   simp only [cmpKs]
   rw [cQ x y,cmpKs_swap xs ys]
   cases ax x y <;> rfl
end
mutual
theorem ga:∀ a b,ax a b = .eq->a=b
 | .int a, .int b,h=>by
  simp only [ax] at h
  by_cases h1:a < b
  ·rw [if_pos h1] at h;cases h
  ·by_cases h2:a=b
   ·rw [h2]
   ·rw [if_neg h1,if_neg h2] at h;cases h
 | .int _, .tup _,h=>by simp [ax] at h
 | .tup _, .int _,h=>by simp [ax] at h
 | .tup a, .tup b,h=>by simp only [ax] at h;rw [cmpKs_eq a b h]
theorem cmpKs_eq:∀ a b,cmpKs a b = .eq->a=b
 | [],[],_=>rfl
 | [],_::_,h=>by simp [cmpKs] at h
 | _::_,[],h=>by simp [cmpKs] at h
 | x::xs,y::ys,h=>by
   simp only [cmpKs] at h
   cases e:ax x y with
   | lt=>rw [e] at h;cases h
   | gt=>rw [e] at h;cases h
   | eq=>rw [e] at h;rw [ga x y e,cmpKs_eq xs ys h]
end
mutual
theorem iN:∀ a b c,ax a b = .lt->ax b c = .lt->ax a c = .lt
 | .int a, .int b, .int c,h,g=>by
  simp only [ax] at h g ⊢
  have h1:a < b:=by
   by_cases h1:a < b
   ·exact h1
   ·rw [if_neg h1] at h;split at h <;> cases h
  have h2:b < c:=by
   by_cases h1:b < c
   ·exact h1
   ·rw [if_neg h1] at g;split at g <;> cases g
  rw [if_pos (by lia)]
 | .int _, .tup _, .int _,_,g=>by simp [ax] at g
 | .int _, .int _, .tup _,_,_=>by simp [ax]
 | .int _, .tup _, .tup _,_,_=>by simp [ax]
 | .tup _, .int _,_,h,_=>by simp [ax] at h
 | .tup _, .tup _, .int _,_,g=>by simp [ax] at g
 | .tup a, .tup b, .tup c,h,g=>by simp only [ax] at h g ⊢;exact cmpKs_trans a b c h g
theorem cmpKs_trans:∀ a b c,cmpKs a b = .lt->cmpKs b c = .lt->cmpKs a c = .lt
 | [],[],_,h,_=>by simp [cmpKs] at h
 | [],_::_,[],_,g=>by simp [cmpKs] at g
 | [],_::_,_::_,_,_=>by simp [cmpKs]
 | _::_,[],_,h,_=>by simp [cmpKs] at h
 | _::_,_::_,[],_,g=>by simp [cmpKs] at g
 | x::xs,y::ys,z::zs,h,g=>by
   simp only [cmpKs] at h g ⊢
   cases e:ax x y with
   | gt=>rw [e] at h;cases h
   | eq =>
     have:=ga x y e
     subst this
     rw [e] at h
     cases e2:ax x z with
     | gt=>rw [e2] at g;cases g
     | lt=>rfl
     | eq=>rw [e2] at g;exact cmpKs_trans xs ys zs h g
   | lt =>
     cases e2:ax y z with
     | gt=>rw [e2] at g;cases g
     | lt=>rw [iN x y z e e2];rfl
     | eq =>
       have:=ga y z e2
       subst this
       rw [e];rfl
end
noncomputable def ltK (a b:Ky):Bool:=ax a b == .lt
noncomputable def mL (a b:List Ky):Bool:=cmpKs a b == .lt
theorem w5 (a b:Ky) (h:ltK a b=true):ltK b a=false:=by
 unfold ltK at h ⊢
 rw [cQ a b,(by simpa using h:ax a b = .lt)];rfl
theorem kn (a b:Ky) (h:ltK a b=false) (g:ltK b a=false):a=b:=by
 unfold ltK at h g
 rw [cQ a b] at g
 apply ga
 cases e:ax a b with
 | eq=>rfl
 | lt=>rw [e] at h;cases h
 | gt=>rw [e] at g;cases g
theorem yS (a b c:Ky) (h:ltK a c=true):ltK a b=true∨ltK b c=true:=by
 cases e:ltK a b with
 | true=>exact .inl rfl
 | false =>
   right
   cases e2:ltK b a with
   | false=>rw [kn a b e e2] at h;exact h
   | true =>
     unfold ltK at h e2 ⊢
     rw [iN b a c (by simpa using e2) (by simpa using h)];rfl
theorem tH (x y:Ky) (xs ys:List Ky):mL (x::xs) (y::ys)=if (!ltK x y && !ltK y x)=true then mL xs ys else ltK x y:=by
 unfold mL ltK
 rw [cQ x y]
 simp only [cmpKs]
 cases ax x y <;> simp
mutual
noncomputable def toK:PyData->Ky
 | .int i => .int i
 | .tuple xs => .tup (toKs xs)
 | _ => .int 0
noncomputable def toKs:List PyData->List Ky
 | [] => []
 | x::xs=>toK x::toKs xs
end
inductive Cmpb:PyData->PyData->Prop where
 | int (a b:Int):Cmpb (.int a) (.int b)
 | nil (ys:List PyData):Cmpb (.tuple []) (.tuple ys)
 | nil' (xs:List PyData):Cmpb (.tuple xs) (.tuple [])
 | cons {x y:PyData} {xs ys:List PyData}:Cmpb x y->Cmpb (.tuple xs) (.tuple ys)->Cmpb (.tuple (x::xs)) (.tuple (y::ys))
theorem Cmpb.eqv {x y:PyData} (h:Cmpb x y):PyData.eqv x y=(!ltK (toK x) (toK y) && !ltK (toK y) (toK x)):=by
 have g:∀ {x y:PyData},Cmpb x y->PyData.eqv x y=(ax (toK x) (toK y) == .eq):=by
  intro x y h
  induction h with
  | int a b =>
    simp only [PyData.eqv,toK,ax]
    by_cases h1:a < b
    ·rw [if_pos h1];simp;lia
    ·by_cases h2:a=b
     ·rw [if_neg h1,if_pos h2];simp [h2]
     ·rw [if_neg h1,if_neg h2];simp;lia
  | nil ys=>cases ys <;> simp [PyData.eqv,PyData.eqvAll,toK,toKs,ax,cmpKs]
  | nil' xs=>cases xs <;> simp [PyData.eqv,PyData.eqvAll,toK,toKs,ax,cmpKs]
  | @cons x y xs ys h1 h2 ih1 j =>
   simp only [PyData.eqv] at j ⊢
   simp only [PyData.eqvAll,toK,toKs,ax,cmpKs] at j ⊢
   rw [ih1,j]
   cases ax (toK x) (toK y) <;> simp
 rw [g h]
 unfold ltK
 rw [cQ (toK x) (toK y)]
 cases ax (toK x) (toK y) <;> rfl
section
variable {prog:Program} {w:World} {A:Around} {E:Value->Shared->Prop} {s:Shared}
theorem trd {b:Bool} {Q:Bool->Shared->Prop} (q:Q b s):wpAny (PySem.model prog w) A (truthOfDropped (.bool b)) Q E s:=by
 unfold truthOfDropped
 wp_walk
 exact q
theorem gb (a b:Int):ltK (.int a) (.int b)=decide (a < b):=by
 simp only [ltK,ax]
 by_cases h:a < b
 ·simp [h]
 ·by_cases h2:a=b <;> simp [h,h2]
theorem tI {a b:Int} {t u:Tok} {Q:Value->Shared->Prop} (q:Q (.bool (decide (a < b))) s):wpAny (PySem.model prog w) A (richCompare .Lt (.int a t) (.int b u)) Q E s :=
 wpAny_richCompare_same (T := "int") rfl rfl F.slot_int_lt (call_int_lt ⟨by simp,q⟩)
noncomputable def cg:List PyData->List PyData->Option Bool
 | x::xs,y::ys=>if PyData.eqv x y=true then cg xs ys else some (ltK (toK x) (toK y))
 | _,_=>none
theorem gR:∀ {xs ys:List PyData},Cmpb (.tuple xs) (.tuple ys)->ltK (toK (.tuple xs)) (toK (.tuple ys))=match cg xs ys with | some b=>b | none=>decide (xs.length < ys.length)
 | [],[],_=>rfl
 | [],_::_,_=>by simp [cg,toK,toKs,ltK,ax,cmpKs]
 | _::_,[],_=>by simp [cg,toK,toKs,ltK,ax,cmpKs]
 | x::xs,y::ys,h=>by
   cases h with
   | cons h1 h2 =>
     have ih:=gR h2
     have e:∀ a b:List Ky,ltK (.tup a) (.tup b)=mL a b:=fun a b=>by simp [ltK,mL,ax]
     simp only [toK,toKs,e] at ih ⊢
     rw [tH, <- h1.eqv]
     simp only [cg]
     split
     ·rw [ih];simp
     ·rfl
noncomputable def cr {α β:Type} (M:Model) (A:Around) (E:Value->Shared->Prop) (f : α -> β -> Sem (ForInStep β)) (Q : β -> Shared->Prop):List α -> β -> Shared->Prop
 | [],c,s=>Q c s
 | x::xs,c,s=>wpAny M A (f x c) (fun r s'=>match r with | .done c'=>Q c' s' | .yield c'=>cr M A E f Q xs c' s') E s
theorem eW {α β:Type} {M:Model} {f : α -> β -> Sem (ForInStep β)} {Q : β -> Shared->Prop}:∀ {l:List α} {c : β} {s:Shared},cr M A E f Q l c s->wpAny M A (forIn l c f) Q E s
 | [],c,s,h=>by rw [List.forIn_nil];exact wpAny_pure h
 | x::xs,c,s,h=>by
   rw [List.forIn_cons]
   refine wpAny_bind (wpAny_mono h (fun r s' j => ?_) fun _ _ z=>z)
   cases r with
   | done c'=>exact wpAny_pure j
   | yield c'=>exact eW j
theorem bU {h:Heap}:∀ {vs:List Value} {xs:List PyData} {as:List Addr},ReadsAll h vs xs as->vs.length=xs.length
 | _,_,_, .nil=>rfl
 | _,_,_, .cons _ r=>by simp [bU r]
theorem gS {α β:Type} {M:Model} {n:Nat} {f : α -> Option β × Unit->Sem (ForInStep (Option β × Unit))} {g:Bool -> β} {pr : α -> Value×Value} {Q:Option β × Unit->Shared->Prop} :
 ∀ {l:List α} {vs us:List Value} {xs ys:List PyData} {as bs:List Addr},l.map pr=vs.zip us->ReadsAll s.heap vs xs as->ReadsAll s.heap us ys bs->Cmpb (.tuple xs) (.tuple ys)->PyData.canLayAll0 xs=true->PyData.canLayAll0 ys=true->PyData.depthAll xs<=n ->
  (∀ (z : α) (x y:Value) (d e:PyData) (as bs:List Addr) (R:ForInStep (Option β × Unit)->Shared->Prop),z∈l->pr z=(x,y)->Reads s.heap x d as->Reads s.heap y e bs->Cmpb d e->d.canLay0=true->e.canLay0=true->d.depth<=n ->
   R (if PyData.eqv d e=true then .yield (none,()) else .done (some (g (ltK (toK d) (toK e))),())) s->wpAny M A (f z (none,())) R E s) ->
  Q ((cg xs ys).map g,()) s->cr M A E f Q l (none,()) s
 | [],vs,us,xs,ys,as,bs,e,j,B,hc,_,_,_,_,q=>by
  have h1:=bU j
  have h2:=bU B
  have:vs=[]∨us=[]:=by
   cases vs with
   | nil=>exact .inl rfl
   | cons v vs=>cases us with
     | nil=>exact .inr rfl
     | cons u us=>simp at e
  have e2:cg xs ys=none:=by
   rcases this with rfl | rfl
   ·cases xs with
    | nil=>simp [cg]
    | cons x xs=>simp at h1
   ·cases ys with
    | nil=>cases xs <;> simp [cg]
    | cons y ys=>simp at h2
  rw [e2] at q
  exact q
 | z::l,vs,us,xs,ys,as,bs,e,j,B,hc,lx,ly,hd,hf,q=>by
   cases j with
   | nil=>simp at e
   | cons rx j =>
     cases B with
     | nil=>simp at e
     | cons ry B =>
       simp only [List.map_cons,List.zip_cons_cons,List.cons.injEq] at e
       simp only [PyData.canLayAll0,Bool.and_eq_true] at lx ly
       simp only [PyData.depthAll] at hd
       cases hc with
       | cons F G =>
         simp only [cr]
         refine hf z _ _ _ _ _ _ _ (by simp) e.1 rx ry F lx.1 ly.1 (by lia) ?_
         simp only [cg] at q
         split at q
         ·next h =>
          rw [if_pos h]
          exact gS e.2 j B G lx.2 ly.2 (by lia) (fun z x y d e as bs R hz=>hf z x y d e as bs R (by simp [hz])) q
         ·next h =>
          rw [if_neg h]
          exact q
noncomputable def CZ (n:Nat):Prop := ∀ (prog:Program) (w:World) (A:Around) (s:Shared) (a b:Value) (d e:PyData) (as bs:List Addr) (E:Value->Shared->Prop) (Q:Value->Shared->Prop),d.depth<=n->Cmpb d e->Reads s.heap a d as->Reads s.heap b e bs->d.canLay0=true->e.canLay0=true->A.units+n+1 < cLine ->
 Q (.bool (ltK (toK d) (toK e))) s->wpAny (PySem.model prog w) A (richCompare .Lt a b) Q E s
theorem Cg:∀ n,CZ n:=by
 intro n
 induction n with
 | zero =>
   intro prog w A s a b d e as bs E Q hd hc ra rb ld le O q
   cases hc with
   | int i j =>
     cases ra;cases rb
     exact tI (by rw [<- gb];exact q)
   | nil ys=>simp [PyData.depth] at hd
   | nil' xs=>simp [PyData.depth] at hd
   | cons _ _=>simp [PyData.depth] at hd
 | succ n ih =>
   intro prog w A s a b d e as bs E Q hd hc ra rb ld le O q
   have tup:∀ xs ys,d = .tuple xs->e = .tuple ys->wpAny (PySem.model prog w) A (richCompare .Lt a b) Q E s:=by
    rintro xs ys rfl rfl
    cases ra with
    | tuple h1 h2 S B =>
      cases rb with
      | tuple g1 g2 g3 G =>
        rename_i l ol vl nl p ob vb nb
        have tl:s.TypeIs (.ref l) "tuple" := ⟨_,h1,h2⟩
        have tb:s.TypeIs (.ref p) "tuple" := ⟨_,g1,g2⟩
        refine wpAny_richCompare_same_room tl tb F.slot_tuple_lt (wpAny_call_entry F.slot_tuple_lt tl F.entry_tuple_lt ?_ (F.args_tuple_lt_2 _ _)) (by lia)
        unfold Builtin.«tuple.__lt__»
        refine wpAny_bind ?_
        have I:isSubtype (.type "tuple") (.type "tuple")=pure true:=by rw [isSubtype_type];kernel_rfl
        wp_walk
        rw [S]
        wp_walk
        rw [g3]
        refine wpAny_pure ?_
        refine wpAny_pure ?_
        refine wpAny_bind (eW (gS (n:=n) (g:=fun b=>Fin.done (Flow.ret (Value.bool b))) (pr:=id) (List.map_id _) B G hc ld le (by simp [PyData.depth] at hd;lia) ?_ ?_))
        ·rintro ⟨x,y⟩ x' y' d e as bs R _ hz rx ry hc ld le hd r
         cases hz
         dsimp only
         refine wpAny_bind (SeqAt.eqAt_reads d e _ _ _ _ _ _ rx ry ld le ?_ prog w E _ ?_)
         ·show A.units+1+min d.depth e.depth < cLine
          lia
         ·by_cases z:PyData.eqv d e=true
          ·rw [if_pos z] at r
           rw [z]
           exact wpAny_pure r
          ·rw [if_neg z] at r
           have z:PyData.eqv d e=false:=by simpa using z
           rw [z]
           refine wpAny_bind (wpAny_rule (wpAny_bind (ih prog w _ s x y d e as bs E _ hd hc rx ry ld le ?_ ?_)))
           ·show A.units+1+n+1 < cLine
            lia
           ·exact wpAny_pure r
        ·have e1:=gR hc
         cases e2:cg xs ys with
         | some b =>
           rw [e2] at e1
           dsimp only at e1
           rw [e1] at q
           exact wpAny_pure ⟨_,rfl,by simp,q⟩
         | none =>
           rw [e2] at e1
           dsimp only at e1
           rw [e1] at q
           have J:=bU B
           have L:=bU G
           refine wpAny_pure ⟨_,rfl, ?_, ?_⟩
           ·simp [Builtin.Tuple.tupleCompareSizes]
           ·simp only [Array.length_toList] at J L
            simp only [Builtin.Tuple.tupleCompareSizes]
            rw [J,L]
            exact q
   cases hc with
   | int i j =>
     cases ra;cases rb
     exact tI (by rw [<- gb];exact q)
   | nil ys=>exact tup _ _ rfl rfl
   | nil' xs=>exact tup _ _ rfl rfl
   | cons _ _=>exact tup _ _ rfl rfl
end
end Srt
end L2
namespace L2
namespace Srt
open PySem PySem.Spec PyProof.Rows
section
variable {prog:Program} {w:World} {A:Around} {E:Value->Shared->Prop} {s:Shared}
theorem iO {α β:Type} {M:Model} {f : α -> Sem β} {g : α -> β}:∀ {l:List α} {Q:List β -> Shared->Prop},(∀ x∈l, ∀ R : β -> Shared->Prop,R (g x) s->wpAny M A (f x) R E s)->Q (l.map g) s->wpAny M A (l.mapM f) Q E s
 | [],Q,_,q=>by rw [List.mapM_nil];exact wpAny_pure q
 | x::xs,Q,h,q=>by
   rw [List.mapM_cons]
   refine wpAny_bind (h x (by simp) _ (wpAny_bind (iO (fun y hy=>h y (by simp [hy])) (wpAny_pure q))))
theorem dM {α β:Type} {M:Model} {f : α -> Sem β} {g : α -> β} {xs:Array α} {Q:Array β -> Shared->Prop} (h:∀ x∈xs.toList, ∀ R : β -> Shared->Prop,R (g x) s->wpAny M A (f x) R E s) (q:Q (xs.map g) s):wpAny M A (xs.mapM f) Q E s:=by
 rw [Array.mapM_eq_mapM_toList]
 rw [map_eq_pure_bind]
 refine wpAny_bind (iO h (wpAny_pure ?_))
 have:(xs.toList.map g).toArray=xs.map g:=by
  apply Array.toList_inj.mp;simp
 rw [this];exact q
theorem ko {a:Addr} {v:Value} {vs:List Value} {o:Obj} {n:Nat} (h1:s.heap.get? a=some o) (h2:o.cls = .type "tuple") (j:o.data = .seq (v::vs).toArray n) {Q:Option Value->Shared->Prop} (q:Q (some v) s):wpAny (PySem.model prog w) A (firstOfTuple' (.ref a)) Q E s:=by
 unfold firstOfTuple'
 have ty:s.TypeIs (.ref a) "tuple" := ⟨_,h1,h2⟩
 wp_walk
 rw [j]
 refine wpAny_pure ?_
 refine wpAny_pure ?_
 exact wpAny_pure q
theorem yT {a:Addr} {o:Obj} {T:Value} (h1:s.heap.get? a=some o) (h2:o.cls=T) {Q:Value->Shared->Prop} (q:Q T s):wpAny (PySem.model prog w) A (typeOf (.ref a)) Q E s:=by
 wp_walk
 rw [h2];exact q
theorem tJ {n:Nat} {x y:Value} {d e:PyData} {as bs:List Addr} (hc:Cmpb d e) (rx:Reads s.heap x d as) (ry:Reads s.heap y e bs) (ld:d.canLay0=true) (le:e.canLay0=true) (hd:d.depth<=n) (j:A.units+n+1 < cLine) {Q:Bool->Shared->Prop} (q:Q (ltK (toK d) (toK e)) s):wpAny (PySem.model prog w) A (oneLt' false x y) Q E s:=by
 rw [oneLt'_eq]
 exact wpAny_bind (Cg n prog w A s x y d e as bs E _ hd hc rx ry ld le j (trd q))
theorem ku {n:Nat} {b:Bool} {x y:Value} {xs ys:List PyData} {as bs:List Addr} (hb:b=true -> ∀ d e,xs.head? = some d->ys.head? = some e->(∃ i,d = .int i) /\ ∃ i,e = .int i)
 (hc:Cmpb (.tuple xs) (.tuple ys)) (rx:Reads s.heap x (.tuple xs) as) (ry:Reads s.heap y (.tuple ys) bs) (lx:PyData.canLayAll0 xs=true) (ly:PyData.canLayAll0 ys=true) (hd:PyData.depthAll xs<=n) (O:A.units+n+1 < cLine) {Q:Bool->Shared->Prop} (q:Q (ltK (toK (.tuple xs)) (toK (.tuple ys))) s) :
 wpAny (PySem.model prog w) A (keyLt' (tuples' b) x y) Q E s:=by
 cases rx with
 | tuple h1 h2 S F =>
   cases ry with
   | tuple g1 g2 g3 G =>
     refine wpAny_bind (listItems_at h1 S ?_)
     refine wpAny_bind (listItems_at g1 g3 ?_)
     refine wpAny_bind (eW (gS (n:=n) (g:=id) (pr:=Prod.fst) (List.zipIdx_map_fst _ _) F G hc lx ly hd ?_ ?_))
     ·rintro ⟨⟨x,y⟩,i⟩ x' y' d e as bs R hz hp rx ry hc ld le hd r
      cases hp
      dsimp only
      refine wpAny_bind (SeqAt.eqAt_reads d e _ _ _ _ _ _ rx ry ld le (by lia) prog w E _ ?_)
      by_cases B:PyData.eqv d e=true
      ·rw [if_pos B] at r
       rw [B]
       exact wpAny_pure r
      ·rw [if_neg B] at r
       have B:PyData.eqv d e=false:=by simpa using B
       rw [B]
       refine wpAny_bind ?_
       by_cases z:(b&&i==0)=true
       ·rw [z]
        simp only [Bool.and_eq_true,beq_iff_eq] at z
        obtain ⟨rfl,rfl⟩:=z
        have j:=List.mem_zipIdx_iff_getElem?.mp hz
        obtain ⟨i1,j1,t1,I,e1,e2⟩:∃ (i1 j1:Int) (t1 I:Tok),x = .int i1 t1/\y = .int j1 I:=by
         generalize Z:Array.toList _=vl at F j
         generalize hU:Array.toList _=ul at G j
         cases F with
         | nil=>simp at j
         | cons U p2 =>
           cases G with
           | nil=>simp at j
           | cons Y q2 =>
             simp at j
             obtain ⟨⟨i1,ei⟩,⟨j1,ej⟩⟩:=hb rfl _ _ rfl rfl
             subst ei ej
             cases U;cases Y
             exact ⟨_,_,_,_,j.1.symm,j.2.symm⟩
        subst e1 e2
        cases rx;cases ry
        refine oneLt_int ?_
        rw [<- gb]
        exact wpAny_pure r
       ·have z:(b&&i==0)=false:=by simpa using z
        rw [z]
        exact tJ hc rx ry ld le hd O (wpAny_pure r)
     ·have e1:=gR hc
      cases e2:cg xs ys with
      | some b =>
        rw [e2] at e1
        dsimp only at e1
        rw [e1] at q
        exact wpAny_pure q
      | none =>
        rw [e2] at e1
        dsimp only at e1
        rw [e1] at q
        have J:=bU F
        have L:=bU G
        refine wpAny_pure ?_
        simp only [Array.length_toList] at J L
        rw [J,L]
        exact q
end
end Srt
end L2
namespace L2
namespace Srt
open PySem PySem.Spec PyProof.Rows
structure mM (n:Nat) (ds:List PyData):Prop where
 cmp:∀ d∈ds, ∀ e∈ds,Cmpb d e
 lay:∀ d∈ds,d.canLay0=true/\d.depth<=n
 kind:(∀ d∈ds, ∃ i,d = .int i)∨(∀ d∈ds, ∃ i xs,d = .tuple (.int i::xs))∨(∀ d∈ds, ∃ ys xs,d = .tuple (.tuple ys::xs))
noncomputable def cv (h:Heap):Value->Option Value
 | .ref a=>(h.get? a).bind fun o=>match o.data with | .seq xs _=>xs[0]? | _=>none
 | _=>none
section
variable {prog:Program} {w:World} {A:Around} {E:Value->Shared->Prop} {s:Shared}
noncomputable def dg (h:Heap) (x:Keyed):Ky:=toK (SeqAt.readOf h x.1)
noncomputable def RdL (h:Heap) (vs:List Value) (ds:List PyData):Prop := ∀ v∈vs, ∃ d∈ds, ∃ as,Reads h v d as
theorem fD {arr:Array Value} {T:String} (h0 : 0 < arr.size) (h:∀ v∈arr.toList, ∀ R:Value->Shared->Prop,R (.type T) s->wpAny (PySem.model prog w) A (typeOf v) R E s) {Q:Option Value->Shared->Prop} (q:Q (some (.type T)) s):wpAny (PySem.model prog w) A (oneTypeOnly' arr) Q E s:=by
 rw [oneTypeOnly'_eq]
 refine wpAny_bind (dM (g:=fun _=>Value.type T) h ?_)
 have e:(Array.map (fun _=>Value.type T) arr)[0]? = some (Value.type T):=by
  rw [Array.getElem?_map,Array.getElem?_eq_getElem h0];rfl
 rw [e]
 dsimp only
 have e2:((Array.map (fun _=>Value.type T) arr).all fun x=>x==Value.type T)=true:=by
  rw [Array.all_eq_true]
  intro i hi
  simp
 rw [e2]
 exact wpAny_pure q
theorem qD {n:Nat} {kd:SortKind} {vs:List Value} {ds:List PyData} (j:RdL s.heap vs ds) (hs:mM n ds)
 (h:∀ (x y:Value) (d e:PyData) (as bs:List Addr) (E:Value->Shared->Prop) (Q:Bool->Shared->Prop),d∈ds->e∈ds->Reads s.heap x d as->Reads s.heap y e bs->Q (ltK (toK d) (toK e)) s->wpAny (PySem.model prog w) A (keyLt' kd x y) Q E s) :
 Cm prog w A s kd (fun x=>x.1∈vs) (fun x y=>ltK (dg s.heap x) (dg s.heap y)) where
 asym:=fun x y=>w5 _ _
 neg:=fun x y z=>yS _ _ _
 run:=fun x y E Q hx hy q=>by
  obtain ⟨d,hd,as,ra⟩:=j _ hx
  obtain ⟨e,he,bs,rb⟩:=j _ hy
  have e1:=SeqAt.readOf_eq (hs.lay d hd).1 ra
  have e2:=SeqAt.readOf_eq (hs.lay e he).1 rb
  unfold dg at q
  rw [e1,e2] at q
  exact h _ _ d e as bs E Q hd he ra rb q
theorem mN {h:Heap} {vs:List Value} (j:∀ v∈vs, ∃ u,cv h v=some u):((vs.toArray.map (cv h)).all fun x=>x.isSome)=true:=by
 rw [Array.all_eq_true]
 intro i hi
 simp at hi
 obtain ⟨u,n⟩:=j vs[i] (List.getElem_mem hi)
 simp [n]
theorem tK {h:Heap} {vs:List Value} {x:Value} (hx:x∈(Array.filterMap id (vs.toArray.map (cv h))).toList):∃ v∈vs,cv h v=some x:=by
 simp at hx
 exact hx
theorem tL {h:Heap} {v:Value} {vs:List Value} {u:Value} (j:cv h v=some u) : 0 < (Array.filterMap id ((v::vs).toArray.map (cv h))).size:=by
 rw [<- Array.length_toList]
 simp [j]
theorem kw {h:Heap} {v:Value} {d:PyData} {xs:List PyData} {as:List Addr} (r:Reads h v (.tuple (d::xs)) as):∃ a o u us n bs,v = .ref a/\h.get? a=some o/\o.cls = .type "tuple" /\ o.data = .seq (u::us).toArray n/\Reads h u d bs:=by
 cases r with
 | @tuple a o vs n xs as h1 h2 j h4 =>
  generalize q:vs.toList=vl at h4
  cases h4 with
  | @cons u us _ _ bs _ z p2=>exact ⟨_,_,u,us,n,bs,rfl,h1,h2,by rw [j];congr 1;apply Array.toList_inj.mp;simpa using q,z⟩
theorem Ch {n:Nat} {v:Value} {vs:List Value} {ds:List PyData} (O:RdL s.heap (v::vs) ds) (hs:mM n ds) (z:A.units+n+1 < cLine) :
 ∃ kd,(∀ (E:Value->Shared->Prop) (Q:SortKind->Shared->Prop),Q kd s->wpAny (PySem.model prog w) A (keyKind' (v::vs).toArray) Q E s)/\Cm prog w A s kd (fun x=>x.1∈v::vs) (fun x y=>ltK (dg s.heap x) (dg s.heap y)):=by
 rcases hs.kind with G | G | G
 ·refine ⟨oneType',fun E Q q => ?_,qD O hs fun x y d e as bs E Q hd he ra rb q => ?_⟩
  ·have hint:∀ u∈v::vs, ∃ i t,u = .int i t:=fun u z=>by
    obtain ⟨d,hd,as,ra⟩:=O u z
    obtain ⟨i,rfl⟩:=G d hd
    cases ra
    exact ⟨_,_,rfl⟩
   rw [keyKind'_eq]
   refine wpAny_bind (dM (g:=fun _=>(none:Option Value)) (fun u z R r => ?_) ?_)
   ·obtain ⟨i,t,rfl⟩:=hint u (by simpa using z)
    rw [firstOfTuple'_int];exact wpAny_pure r
   ·have e1:((Array.map (fun _=>(none:Option Value)) (v::vs).toArray).all fun x=>x.isSome)=false:=by
     simp
    rw [e1]
    have e2:((Array.map (fun _=>(none:Option Value)) (v::vs).toArray)[0]?.bind id).isSome=false:=by simp
    simp only [e2,Bool.false_eq_true,if_false]
    refine wpAny_bind (fD (T := "int") (by simp) (fun u z R r => ?_) ?_)
    ·obtain ⟨i,t,rfl⟩:=hint u (by simpa using z)
     exact wpAny_pure r
    ·exact wpAny_pure q
  ·obtain ⟨i,rfl⟩:=G d hd
   obtain ⟨j,rfl⟩:=G e he
   cases ra;cases rb
   rw [keyLt'_oneType]
   exact oneLt_int (by rw [<- gb];exact q)
 ·refine ⟨tuples' true,fun E Q q => ?_,qD O hs fun x y d e as bs E Q hd he ra rb q => ?_⟩
  ·have hf:∀ u∈v::vs, ∃ a o i t us n,u = .ref a/\s.heap.get? a=some o/\o.cls = .type "tuple" /\ o.data = .seq (.int i t::us).toArray n:=fun u z=>by
    obtain ⟨d,hd,as,ra⟩:=O u z
    obtain ⟨i,xs,rfl⟩:=G d hd
    obtain ⟨a,o,U,us,n,bs,e1,e2,I,F,J⟩:=kw ra
    cases J
    exact ⟨a,o,_,_,us,n,e1,e2,I,F⟩
   have B:∀ u∈v::vs, ∃ i t,cv s.heap u=some (.int i t):=fun u z=>by
    obtain ⟨a,o,i,t,us,n,rfl,e2,I,F⟩:=hf u z
    exact ⟨i,t,by simp [cv,e2,F]⟩
   rw [keyKind'_eq]
   refine wpAny_bind (dM (g:=cv s.heap) (fun u z R r => ?_) ?_)
   ·obtain ⟨a,o,i,t,us,n,rfl,e2,I,F⟩:=hf u (by simpa using z)
    refine ko e2 I F ?_
    simpa [cv,e2,F] using r
   ·rw [mN (fun u z=>let ⟨i,t,e⟩:=B u z; ⟨_,e⟩)]
    refine wpAny_bind (wpAny_rule ?_)
    obtain ⟨i0,t0,e0⟩:=B v (by simp)
    refine wpAny_bind (fD (T := "int") (tL e0) (fun u z R r => ?_) ?_)
    ·obtain ⟨u',L,e⟩:=tK z
     obtain ⟨i,t,e'⟩:=B u' L
     rw [e'] at e;cases e
     exact wpAny_pure r
    ·exact wpAny_pure q
  ·obtain ⟨i,xs,rfl⟩:=G d hd
   obtain ⟨j,ys,rfl⟩:=G e he
   have l1:=hs.lay _ hd
   have l2:=hs.lay _ he
   refine ku (n:=n) (fun _ d e hd he => ?_) (hs.cmp _ hd _ he) ra rb (by simpa [PyData.canLay0] using l1.1) (by simpa [PyData.canLay0] using l2.1) (by have:=l1.2;simp [PyData.depth] at this;lia) z q
   simp at hd he;subst hd he
   exact ⟨⟨_,rfl⟩,_,rfl⟩
 ·refine ⟨tuples' false,fun E Q q => ?_,qD O hs fun x y d e as bs E Q hd he ra rb q => ?_⟩
  ·have hf:∀ u∈v::vs, ∃ a o b ob us n,u = .ref a/\s.heap.get? a=some o/\o.cls = .type "tuple" /\ o.data = .seq (.ref b::us).toArray n/\s.heap.get? b=some ob/\ob.cls = .type "tuple" := fun u z=>by
    obtain ⟨d,hd,as,ra⟩:=O u z
    obtain ⟨ys,xs,rfl⟩:=G d hd
    obtain ⟨a,o,U,us,n,bs,e1,e2,I,F,J⟩:=kw ra
    cases J with
    | tuple h1 h2 Y Z=>exact ⟨a,o,_,_,us,n,e1,e2,I,F,h1,h2⟩
   have B:∀ u∈v::vs, ∃ b ob,cv s.heap u=some (.ref b)/\s.heap.get? b=some ob/\ob.cls = .type "tuple" := fun u z=>by
    obtain ⟨a,o,b,ob,us,n,rfl,e2,I,F,J,S⟩:=hf u z
    exact ⟨b,ob,by simp [cv,e2,F],J,S⟩
   rw [keyKind'_eq]
   refine wpAny_bind (dM (g:=cv s.heap) (fun u z R r => ?_) ?_)
   ·obtain ⟨a,o,b,ob,us,n,rfl,e2,I,F,J,S⟩:=hf u (by simpa using z)
    refine ko e2 I F ?_
    simpa [cv,e2,F] using r
   ·rw [mN (fun u z=>let ⟨i,t,e,_⟩:=B u z; ⟨_,e⟩)]
    refine wpAny_bind (wpAny_rule ?_)
    obtain ⟨i0,t0,e0,_⟩:=B v (by simp)
    refine wpAny_bind (fD (T := "tuple") (tL e0) (fun u z R r => ?_) ?_)
    ·obtain ⟨u',L,e⟩:=tK z
     obtain ⟨b,ob,e',J,S⟩:=B u' L
     rw [e'] at e;cases e
     exact yT J S r
    ·exact wpAny_pure q
  ·obtain ⟨zs,xs,rfl⟩:=G d hd
   obtain ⟨zs',ys,rfl⟩:=G e he
   have l1:=hs.lay _ hd
   have l2:=hs.lay _ he
   exact ku (n:=n) (fun h=>by cases h) (hs.cmp _ hd _ he) ra rb (by simpa [PyData.canLay0] using l1.1) (by simpa [PyData.canLay0] using l2.1) (by have:=l1.2;simp [PyData.depth] at this;lia) z q
end
end Srt
end L2
namespace L2
namespace Srt
open PySem PySem.Spec PyProof.Rows
inductive Pl:PyData->Prop where
 | int (i:Int):Pl (.int i)
 | tup (xs:List PyData):(∀ x∈xs,Pl x)->Pl (.tuple xs)
theorem br {h h':Heap} (k:∀ b o,h.get? b=some o->o.cls = .type "tuple" -> h'.get? b=some o) {d:PyData} (p:Pl d):∀ {v:Value} {as:List Addr},Reads h v d as->Reads h' v d as:=by
 induction p with
 | int i=>intro v as r;cases r;exact .int _ _
 | tup xs hx ih =>
   intro v as r
   cases r with
   | tuple h1 h2 n q =>
     refine .tuple (k _ _ h1 h2) h2 n ?_
     have g:∀ (xs:List PyData),(∀ x∈xs, ∀ {v:Value} {as:List Addr},Reads h v x as->Reads h' v x as) -> ∀ (vs:List Value) (as:List Addr),ReadsAll h vs xs as->ReadsAll h' vs xs as:=by
      intro xs
      induction xs with
      | nil=>intro _ vs as r;cases r;exact .nil
      | cons x xs ihx =>
        intro j vs as r
        cases r with
        | cons z p2=>exact .cons (j x (by simp) z) (ihx (fun y hy=>j y (by simp [hy])) _ _ p2)
     exact g xs ih _ _ q
section
variable {prog:Program} {w:World} {A:Around} {E:Value->Shared->Prop} {s:Shared}
theorem yU {cap:Nat} (S:fZ cap) {m:Nat} {a:Addr} {vs:List Value} {n:Nat} {ds:List PyData} (ha:s.heap.get? a=some (seqObj "list" vs.toArray n)) (R:RdL s.heap vs ds) (hs:mM m ds) (hp:∀ d∈ds,Pl d) (hl:vs.length<=sizeLine) (D9:vs.length<=cap) (hu:A.units+m+1 < cLine) {Q:PySem.Fin->Shared->Prop}
 (q:∀ (h':Heap) (out:List Value) (n':Nat),(∀ b o,b≠a->s.heap.get? b=some o->h'.get? b=some o)->h'.get? a=some (seqObj "list" out.toArray n')->out.Perm vs->out.Pairwise (fun x y=>ltK (toK (SeqAt.readOf s.heap y)) (toK (SeqAt.readOf s.heap x))=false)->Q (.done (.ret .none)) { s with heap:=h' }) :
 wpAny (PySem.model prog w) A (Builtin.«list.sort» ⟨[.ref a],[]⟩) Q E s:=by
 rw [list_sort_plain]
 refine wpAny_bind (listItems_at ha rfl ?_)
 refine wpAny_bind (listUpdate_at ha rfl ?_ (by simpa using hl) (by simp))
 have g1:=get?_update_seq ha (fun _ => #[])
 generalize Da:s.heap.update a (Obj.mapSeq fun _ => #[])=h1 at g1
 generalize (if ((#[]:Array Value).size==vs.toArray.size)=true then n else n+1)=n1 at g1
 refine wpAny_bind (seqEpoch_at g1 rfl ?_)
 refine wpAny_bind (wpAny_newTuple ?_ (by simpa using hl))
 refine wpAny_bind (wpAny_newList ?_ (by simp))
 refine wpAny_holding ?_
 dsimp only
 generalize J:({ heap:=(h1.push { cls:=Value.type "tuple",data:=Data.seq vs.toArray.toList.toArray }).push { cls:=Value.type "list",data:=Data.seq [].toArray },gens:=s.gens,drawn:=s.drawn,toks:=s.toks,os:=s.os }:Shared)=s3
 have g3:s3.heap.get? a=some (seqObj "list" #[] n1):=by
  rw [<- J];exact Heap.get?_push_of_some _ (Heap.get?_push_of_some _ g1)
 have keep:∀ b o,b≠a->s.heap.get? b=some o->s3.heap.get? b=some o:=fun b o hb G=>by
  rw [<- J, <- Da]
  exact Heap.get?_push_of_some _ (Heap.get?_push_of_some _ (by rw [Heap.get?_update_ne _ _ _ _ hb];exact G))
 have keepT:∀ b o,s.heap.get? b=some o->o.cls = .type "tuple" -> s3.heap.get? b=some o:=fun b o hb hc=>keep b o (fun z=>by
  rw [z,ha] at hb;cases hb;simp at hc) hb
 have Db:RdL s3.heap vs ds:=fun v hv=>by
  obtain ⟨d,hd,as,r⟩:=R v hv
  exact ⟨d,hd,as,br keepT (hp d hd) r⟩
 have same:∀ v∈vs,SeqAt.readOf s3.heap v=SeqAt.readOf s.heap v:=fun v hv=>by
  obtain ⟨d,hd,as,r⟩:=R v hv
  rw [SeqAt.readOf_eq (hs.lay d hd).1 r,SeqAt.readOf_eq (hs.lay d hd).1 (br keepT (hp d hd) r)]
 have q:∀ (h':Heap) (out:List Value) (n':Nat),(∀ b o,b≠a->s.heap.get? b=some o->h'.get? b=some o)->h'.get? a=some (seqObj "list" out.toArray n')->out.Perm vs->out.Pairwise (fun x y=>ltK (toK (SeqAt.readOf s.heap y)) (toK (SeqAt.readOf s.heap x))=false)->Q (.done (.ret .none)) { s3 with heap:=h' }:=by
  rw [<- J];exact q
 have Dc:∀ A':Around,A'.units=A.units->True:=fun _ _=>trivial
 clear J
 let Good:SortSt->Prop:=fun st'=>failedOf st'=none/\(arrOf st').toList.Perm (vs.zip vs)/\(arrOf st').toList.Pairwise (fun x y=>ltK (dg s3.heap y) (dg s3.heap x)=false)
 by_cases F:vs.toArray.size < 2
 ·rw [if_pos F,if_pos F]
  refine wpAny_bind (wpAny_pure ?_)
  have B:vs.length < 2:=by simpa using F
  have run:wpAny (PySem.model prog w) A ((pure ():StateT SortSt Sem Unit).run (SortSt.mk' general' (vs.toArray.zip vs.toArray) #[] 7 none)) (fun r s'=>s'=s3/\Good r.2) E s3:=by
   refine wpAny_pure ⟨rfl,rfl, ?_, ?_⟩
   ·show (vs.toArray.zip vs.toArray).toList.Perm _
    simp
   ·show List.Pairwise _ (vs.toArray.zip vs.toArray).toList
    match vs,B with
    | [],_=>simp
    | [x],_=>simp
  refine wpAny_bind (wpAny_mono (Q:=fun r s'=>s'=s3/\Good r.2) run (fun r s' R => ?_) (fun _ _ z=>z))
  obtain ⟨rfl,I,j,L⟩:=R
  obtain ⟨u,st'⟩:=r
  refine wpAny_bind (seqEpoch_at g3 rfl ?_)
  refine wpAny_bind (listUpdate_at g3 rfl ?_ (by simp) (by simp only [Array.size_map];have:=j.length_eq;simp at this;rw [this];lia))
  dsimp only at I
  rw [I]
  simp only [bne_self_eq_false,Bool.false_eq_true,if_false]
  refine wpAny_pure ?_
  have gq:=get?_update_seq g3 (fun _=>Array.map (fun x=>x.snd) (arrOf st'))
  have eo:Array.map (fun x=>x.snd) (arrOf st')=((arrOf st').toList.map fun x=>x.snd).toArray:=by apply Array.toList_inj.mp;simp
  refine q _ ((arrOf st').toList.map fun x=>x.snd) _ (fun b o hb G => ?_) (by rw [gq,eo]) ?_ ?_
  ·rw [Heap.get?_update_ne _ _ _ _ hb]
   exact keep b o hb G
  ·have U:=j.map (fun x:Keyed=>x.snd)
   rw [List.map_snd_zip (by simp)] at U
   exact U
  ·rw [List.pairwise_map]
   refine L.imp_of_mem fun {x y} hx hy hxy => ?_
   have mx:=mem_zip_self (j.mem_iff.mp hx)
   have my:=mem_zip_self (j.mem_iff.mp hy)
   unfold dg at hxy
   rw [mx.1,my.1,same y.2 (by rw [<- my.1];exact my.2),same x.2 (by rw [<- mx.1];exact mx.2)] at hxy
   exact hxy
 ·rw [if_neg F,if_neg F]
  have B : 2<=vs.length:=by simpa using F
  obtain ⟨v0,O,Y⟩:∃ v0 O,vs=v0::O:=by
   match vs,B with
   | v::t,_=>exact ⟨v,t,rfl⟩
  obtain ⟨kd,Z,D7⟩:=Ch (prog:=prog) (w:=w) (A:=A) (v:=v0) (vs:=O) (by rw [<- Y];exact Db) hs hu
  rw [<- Y] at Z D7
  refine wpAny_bind (Z E _ ?_)
  have run:wpAny (PySem.model prog w) A (sortRuns'.run (SortSt.mk' kd (vs.toArray.zip vs.toArray) #[] 7 none)) (fun r s'=>s'=s3/\Good r.2) E s3:=by
   have ez:(arrOf (SortSt.mk' kd (vs.toArray.zip vs.toArray) #[] 7 none)).toList=vs.zip vs:=by
    show (vs.toArray.zip vs.toArray).toList=_
    simp
   have h9:wpS (PySem.model prog w) A E s3 sortRuns' (fun _ st'=>Good st') (SortSt.mk' kd (vs.toArray.zip vs.toArray) #[] 7 none):=by
    have D8:(arrOf (SortSt.mk' kd (vs.toArray.zip vs.toArray) #[] 7 none)).size=vs.length:=by rw [<- Array.length_toList,ez];simp
    refine S _ _ _ _ _ _ _ _ D7 (SortSt.mk' kd (vs.toArray.zip vs.toArray) #[] 7 none) _ rfl rfl rfl (fun x hx => ?_) (by rw [D8];exact B) (by rw [D8];exact D9) fun st' p1 p2 p3=>⟨p3,by rw [ez] at p1;exact p1,p2⟩
    rw [ez] at hx
    exact (mem_zip_self hx).2
   exact h9
  refine wpAny_bind (wpAny_mono (Q:=fun r s'=>s'=s3/\Good r.2) run (fun r s' R => ?_) (fun _ _ z=>z))
  obtain ⟨rfl,I,j,L⟩:=R
  obtain ⟨u,st'⟩:=r
  refine wpAny_bind (seqEpoch_at g3 rfl ?_)
  refine wpAny_bind (listUpdate_at g3 rfl ?_ (by simp) (by simp only [Array.size_map];have:=j.length_eq;simp at this;rw [this];lia))
  dsimp only at I
  rw [I]
  simp only [bne_self_eq_false,Bool.false_eq_true,if_false]
  refine wpAny_pure ?_
  have gq:=get?_update_seq g3 (fun _=>Array.map (fun x=>x.snd) (arrOf st'))
  have eo:Array.map (fun x=>x.snd) (arrOf st')=((arrOf st').toList.map fun x=>x.snd).toArray:=by apply Array.toList_inj.mp;simp
  refine q _ ((arrOf st').toList.map fun x=>x.snd) _ (fun b o hb G => ?_) (by rw [gq,eo]) ?_ ?_
  ·rw [Heap.get?_update_ne _ _ _ _ hb]
   exact keep b o hb G
  ·have U:=j.map (fun x:Keyed=>x.snd)
   rw [List.map_snd_zip (by simp)] at U
   exact U
  ·rw [List.pairwise_map]
   refine L.imp_of_mem fun {x y} hx hy hxy => ?_
   have mx:=mem_zip_self (j.mem_iff.mp hx)
   have my:=mem_zip_self (j.mem_iff.mp hy)
   unfold dg at hxy
   rw [mx.1,my.1,same y.2 (by rw [<- my.1];exact my.2),same x.2 (by rw [<- mx.1];exact mx.2)] at hxy
   exact hxy
theorem qE (u:Value):checkBuiltinCall "sorted" ⟨[u],[]⟩=pure ():=by kernel_rfl
theorem tM {cap:Nat} (S:fZ cap) {m:Nat} {u:Value} {ds:List PyData} {C:Heap->List Value->Prop} {Q:Value->Shared->Prop} (Y:A.units+m+3 < cLine) (hs:mM m ds) (hp:∀ d∈ds,Pl d)
 (z:∀ (E:Value->Shared->Prop) (R:List Value->Shared->Prop),(∀ (h':Heap) (vs':List Value) (t':Nat),C h' vs'->RdL h' vs' ds->vs'.length<=sizeLine/\vs'.length<=cap->s.toks<=t'->R vs' { s with heap:=h',toks:=t' })->wpAny (PySem.model prog w) A.in1 (collect u) R E s)
 (q:∀ (h1 h2:Heap) (vs out:List Value) (n' t':Nat),C h1 vs->(∀ b o,h1.get? b=some o->h2.get? b=some o)->h2.get? h1.objs.size=some (seqObj "list" out.toArray n')->out.Perm vs->out.Pairwise (fun x y=>ltK (toK (SeqAt.readOf h2 y)) (toK (SeqAt.readOf h2 x))=false)->RdL h2 out ds->vs.length<=sizeLine->s.toks<=t'->Q (.ref h1.objs.size) { s with heap:=h2,toks:=t' }) :
 wpAny (PySem.model prog w) A (call (.builtin "sorted") [u]) Q E s:=by
 refine wpAny_call (codeAny_call_builtin plain_sorted entry_sorted (wpAny_of_eq (qE u) ?_))
 unfold Builtin.sorted
 refine wpAny_bind (wpAny_of_eq (a:=()) (by kernel_rfl) ?_)
 refine wpAny_bind (z _ _ fun h1 vs t' O F B U => ?_)
 obtain ⟨B,G⟩:=B
 refine wpAny_bind (wpAny_newList ?_ B)
 refine wpAny_bind (wpAny_holding ?_)
 have I:RdL (h1.push { cls:=Value.type "list",data:=Data.seq vs.toArray }) vs ds:=fun v n=>by
  obtain ⟨d,hd,as,r⟩:=F v n
  exact ⟨d,hd,as,br (fun b o hb _=>Heap.get?_push_of_some _ hb) (hp d hd) r⟩
 have ha:(h1.push { cls:=Value.type "list",data:=Data.seq vs.toArray }).get? h1.objs.size=some (seqObj "list" vs.toArray 0):=Heap.get?_push_size _ rfl
 refine wpAny_call_entry slot_list_sort (T := "list") ⟨_,ha,rfl⟩ entry_list_sort ?_ (args_list_sort _)
 refine yU S (m:=m) ha I hs hp B G (by show A.units+1+1+m+1 < cLine;lia) fun h2 out n' keep g2 j J=>⟨_,rfl,wpAny_pure ?_⟩
 have old:∀ b o,h1.get? b=some o->h2.get? b=some o:=fun b o hb=>keep b o (Nat.ne_of_lt (Heap.lt_size hb)) (Heap.get?_push_of_some _ hb)
 have L:RdL h2 vs ds:=fun v n=>by
  obtain ⟨d,hd,as,r⟩:=F v n
  exact ⟨d,hd,as,br (fun b o hb _=>old b o hb) (hp d hd) r⟩
 refine q h1 h2 vs out n' t' O old g2 j ?_ (fun v n=>L v (j.mem_iff.mp n)) B U
 have same:∀ v∈vs,SeqAt.readOf (h1.push { cls:=Value.type "list",data:=Data.seq vs.toArray }) v=SeqAt.readOf h2 v:=fun v n=>by
  obtain ⟨d,hd,as,r⟩:=F v n
  rw [SeqAt.readOf_eq (hs.lay d hd).1 (br (fun b o hb _=>old b o hb) (hp d hd) r),SeqAt.readOf_eq (hs.lay d hd).1 (br (fun b o hb _=>Heap.get?_push_of_some _ hb) (hp d hd) r)]
 refine J.imp_of_mem fun {x y} hx hy hxy => ?_
 rw [same y (j.mem_iff.mp hy),same x (j.mem_iff.mp hx)] at hxy
 exact hxy
end
end Srt
end L2
namespace L2
namespace It
open PySem PySem.Spec PyProof.Rows
end It
end L2
namespace L2
namespace It
open PySem PySem.Spec PyProof.Rows
end It
end L2
namespace L2
namespace It
open PySem PySem.Spec PyProof.Rows
end It
end L2
namespace L2
open PySem PySem.Spec PyProof.Rows
section
section
variable {P:Program} {w:World} {H:Hp} {h:Heap} {a:Addr} {o:HO}
theorem ObjOk.there (x:ObjOk P w H h a o):∃ ob,h.get? a=some ob:=by
 cases o with
 | lst xs=>obtain ⟨_,_,_,_,e⟩:=x;exact ⟨_,e⟩
 | tup xs=>obtain ⟨_,_,_,_,e,_⟩:=x;exact ⟨_,e⟩
 | dK kvs=>obtain ⟨_,_,_,_,o,_,_,e,_⟩:=x;exact ⟨_,e⟩
 | dT kvs=>obtain ⟨_,_,_,_,o,_,_,e,_⟩:=x;exact ⟨_,e⟩
 | set S n=>obtain ⟨o,_,_,_,e,_⟩:=x;exact ⟨_,e⟩
 | ins C dx fs=>obtain ⟨_,_,_,e,_⟩:=x;exact ⟨_,e⟩
 | own y=>obtain ⟨_,e⟩:=x;exact ⟨_,e⟩
 | xd fs=>obtain ⟨_,⟨_,_,_,e,_⟩,_⟩:=x;exact ⟨_,e⟩
 | rng lo hi=>obtain ⟨_,_,_,e⟩:=x;exact ⟨_,e⟩
 | frz ob u=>obtain ⟨e,_⟩:=x;exact ⟨_,e⟩
 | tbl ps=>exact ⟨_,show h.get? a=some _ from x⟩
 | met f y=>exact ⟨_,show h.get? a=some _ from x⟩
 | ext φ => obtain ⟨_,⟨_,e⟩,_⟩:=x;exact ⟨_,e⟩
end
noncomputable def lay (H:Hp) (N:Addr->Option HO):Hp:=fun b=>match N b with | some o=>some o | none=>H b
section
variable {X:Cx} {pins:List (Addr×Obj)} {σ:List (Option V)} {H:Hp} {s:Shared} {h':Heap} {N:Addr->Option HO}
theorem yV {b:Addr} {o:HO} (e:N b=some o):lay H N b=some o:=by unfold lay;rw [e]
theorem jA {b:Addr} (e:N b=none):lay H N b=H b:=by unfold lay;rw [e]
theorem Inv.fresh' (I:Inv X pins σ H s) {b:Addr} (e:s.heap.get? b=none):H b=none:=by
 cases q:H b with
 | none=>rfl
 | some o=>obtain ⟨ob,eo⟩:=(I.hok b o q).there;rw [e] at eo;cases eo
theorem Inv.laidN {t':Nat} (I:Inv X pins σ H s) (k:∀ b u,s.heap.get? b=some u->h'.get? b=some u) (j:∀ b o,N b=some o->s.heap.get? b=none) (new:∀ b o,N b=some o->ObjOk X.prog X.w (lay H N) h' b o):Inv X pins σ (lay H N) { s with heap:=h',toks:=t' }:=by
 have old:∀ b u,s.heap.get? b=some u->N b=none:=fun b u e=>by
  cases q:N b with
  | none=>rfl
  | some o=>rw [j b o q] at e;cases e
 have oldH:∀ b o,H b=some o->lay H N b=some o:=fun b o e=>by
  obtain ⟨ob,eo⟩:=(I.hok b o e).there
  rw [jA (old b ob eo)];exact e
 refine I.un ⟨fun b u q _ _ _=>k b u q,fun b u q _ _ _=>⟨u.slots,k b u q⟩,fun b u q n _=>by rw [jA (old b u q)];exact n,fun b u q _=>⟨u,k b u q⟩,fun b xs q=>oldH b _ q,fun b u xs q=>oldH b _ q,fun b ps q=>⟨#[],by rw [oldH b _ q];simp⟩⟩ fun b o e => ?_
 cases q:N b with
 | some o'=>rw [yV q] at e;cases e;exact new b o q
 | none =>
   rw [jA q] at e
   exact (I.hok b o e).stay (fun c v _ q=>k c v q) (fun c q=>oldH c _ q) fun c xs q=>oldH c _ q
end
namespace Mi
open L2.Srt
inductive Sh where
 | int
 | tup (l:List Sh)
mutual
noncomputable def hs:Sh->D->Bool
 | .int, .int _=>true
 | .tup l, .tup ds=>hss l ds
 | _,_=>false
noncomputable def hss:List Sh->List D->Bool
 | [],[] => true
 | s::l,d::ds=>hs s d&&hss l ds
 | _,_=>false
end
mutual
noncomputable def pd:D->PyData
 | .int i => .int i
 | .tup ds => .tuple (pds ds)
 | _ => .none
noncomputable def pds:List D->List PyData
 | [] => []
 | d::ds=>pd d::pds ds
end
mutual
noncomputable def dep:Sh->Nat
 | .int => 0
 | .tup l=>deps l+1
noncomputable def deps:List Sh->Nat
 | [] => 0
 | s::l=>max (dep s) (deps l)
end
noncomputable def gT:Sh->Bool
 | .int=>true
 | .tup (.int::l)=>decide (deps l<=6)
 | .tup (.tup a::l)=>decide (deps (.tup a::l)<=6)
 | .tup [] => false
noncomputable def kyD (d:D):Ky:=toK (pd d)
mutual
theorem tN:∀ (s:Sh) (x y:D),hs s x=true->hs s y=true->Cmpb (pd x) (pd y)
 | .int, .int a, .int b,_,_=>by simp only [pd];exact .int a b
 | .tup l, .tup a, .tup b,h,g=>by simp only [hs] at h g;simp only [pd];exact hss_cmp l a b h g
 | .int, .int _, .non,_,g=>by simp [hs] at g
 | .int, .int _, .bl _,_,g=>by simp [hs] at g
 | .int, .int _, .str _,_,g=>by simp [hs] at g
 | .int, .int _, .tup _,_,g=>by simp [hs] at g
 | .int, .int _, .con _,_,g=>by simp [hs] at g
 | .int, .int _, .ref _,_,g=>by simp [hs] at g
 | .int, .non,_,h,_=>by simp [hs] at h
 | .int, .bl _,_,h,_=>by simp [hs] at h
 | .int, .str _,_,h,_=>by simp [hs] at h
 | .int, .tup _,_,h,_=>by simp [hs] at h
 | .int, .con _,_,h,_=>by simp [hs] at h
 | .int, .ref _,_,h,_=>by simp [hs] at h
 | .tup _, .non,_,h,_=>by simp [hs] at h
 | .tup _, .bl _,_,h,_=>by simp [hs] at h
 | .tup _, .int _,_,h,_=>by simp [hs] at h
 | .tup _, .str _,_,h,_=>by simp [hs] at h
 | .tup _, .con _,_,h,_=>by simp [hs] at h
 | .tup _, .ref _,_,h,_=>by simp [hs] at h
 | .tup _, .tup _, .non,_,g=>by simp [hs] at g
 | .tup _, .tup _, .bl _,_,g=>by simp [hs] at g
 | .tup _, .tup _, .int _,_,g=>by simp [hs] at g
 | .tup _, .tup _, .str _,_,g=>by simp [hs] at g
 | .tup _, .tup _, .con _,_,g=>by simp [hs] at g
 | .tup _, .tup _, .ref _,_,g=>by simp [hs] at g
theorem hss_cmp:∀ (l:List Sh) (a b:List D),hss l a=true->hss l b=true->Cmpb (.tuple (pds a)) (.tuple (pds b))
 | [],[],[],_,_=>by simp only [pds];exact .nil _
 | [],[],_::_,_,g=>by simp [hss] at g
 | [],_::_,_,h,_=>by simp [hss] at h
 | _::_,[],_,h,_=>by simp [hss] at h
 | _::_,_::_,[],_,g=>by simp [hss] at g
 | s::l,x::a,y::b,h,g=>by
   simp only [hss,Bool.and_eq_true] at h g
   simp only [pds]
   exact .cons (tN s x y h.1 g.1) (hss_cmp l a b h.2 g.2)
end
mutual
theorem qF:∀ (s:Sh) (x:D),hs s x=true->Pl (pd x)/\(pd x).canLay0=true/\(pd x).depth<=dep s
 | .int, .int a,_=>by simp only [pd];exact ⟨.int a,rfl,by simp [PyData.depth]⟩
 | .tup l, .tup a,h=>by
  simp only [hs] at h
  obtain ⟨h1,h2,j⟩:=hss_pl l a h
  simp only [pd]
  exact ⟨.tup _ h1,by simpa [PyData.canLay0] using h2,by simp [PyData.depth,dep];lia⟩
 | .int, .non,h=>by simp [hs] at h
 | .int, .bl _,h=>by simp [hs] at h
 | .int, .str _,h=>by simp [hs] at h
 | .int, .tup _,h=>by simp [hs] at h
 | .int, .con _,h=>by simp [hs] at h
 | .int, .ref _,h=>by simp [hs] at h
 | .tup _, .non,h=>by simp [hs] at h
 | .tup _, .bl _,h=>by simp [hs] at h
 | .tup _, .int _,h=>by simp [hs] at h
 | .tup _, .str _,h=>by simp [hs] at h
 | .tup _, .con _,h=>by simp [hs] at h
 | .tup _, .ref _,h=>by simp [hs] at h
theorem hss_pl:∀ (l:List Sh) (a:List D),hss l a=true->(∀ x∈pds a,Pl x)/\PyData.canLayAll0 (pds a)=true/\PyData.depthAll (pds a)<=deps l
 | [],[],_=>by simp [pds,PyData.canLayAll0,PyData.depthAll]
 | [],_::_,h=>by simp [hss] at h
 | _::_,[],h=>by simp [hss] at h
 | s::l,x::a,h=>by
   simp only [hss,Bool.and_eq_true] at h
   obtain ⟨h1,h2,j⟩:=qF s x h.1
   obtain ⟨g1,g2,g3⟩:=hss_pl l a h.2
   simp only [pds]
   refine ⟨fun y hy => ?_,by simp [PyData.canLayAll0,h2,g2],by simp [PyData.depthAll,deps];lia⟩
   rcases List.mem_cons.mp hy with z | z
   ·rw [z];exact h1
   ·exact g1 y z
end
mutual
theorem xC (M:Mem):∀ (s:Sh) (x:D) (n:Nat),hs s x=true->dep s<=n->rb n M x=some (pd x)
 | .int, .int a,n,_,_=>by cases n <;> simp [rb,pd]
 | .tup l, .tup a,n,h,hn=>by
  simp only [hs] at h
  simp only [dep] at hn
  obtain ⟨k,rfl⟩:∃ k,n=k+1:=⟨n - 1,by lia⟩
  simp only [rb,pd]
  rw [hss_rb M l a k h (by lia)];rfl
 | .int, .non,_,h,_=>by simp [hs] at h
 | .int, .bl _,_,h,_=>by simp [hs] at h
 | .int, .str _,_,h,_=>by simp [hs] at h
 | .int, .tup _,_,h,_=>by simp [hs] at h
 | .int, .con _,_,h,_=>by simp [hs] at h
 | .int, .ref _,_,h,_=>by simp [hs] at h
 | .tup _, .non,_,h,_=>by simp [hs] at h
 | .tup _, .bl _,_,h,_=>by simp [hs] at h
 | .tup _, .int _,_,h,_=>by simp [hs] at h
 | .tup _, .str _,_,h,_=>by simp [hs] at h
 | .tup _, .con _,_,h,_=>by simp [hs] at h
 | .tup _, .ref _,_,h,_=>by simp [hs] at h
theorem hss_rb (M:Mem):∀ (l:List Sh) (a:List D) (n:Nat),hss l a=true->deps l<=n->aJ (rb n M) a=some (pds a)
 | [],[],_,_,_=>by simp [pds,aJ]
 | [],_::_,_,h,_=>by simp [hss] at h
 | _::_,[],_,h,_=>by simp [hss] at h
 | s::l,x::a,n,h,hn=>by
   simp only [hss,Bool.and_eq_true] at h
   simp only [deps] at hn
   simp only [pds,aJ]
   rw [xC M s x n h.1 (by lia),hss_rb M l a n h.2 (by lia)];rfl
end
theorem mP {s:Sh} (h:gT s=true):dep s<=7:=by
 match s,h with
 | .int,_=>simp [dep]
 | .tup (.int::l),h=>simp [gT] at h;simp [dep,deps];lia
 | .tup (.tup a::l),h=>simp only [gT,decide_eq_true_eq] at h;simp only [dep];lia
theorem yW {s:Sh} (h:gT s=true) {xs:List D} (hx:∀ x∈xs,hs s x=true):mM 7 (xs.map pd) /\ ∀ d∈xs.map pd,Pl d:=by
 refine ⟨⟨?_, ?_, ?_⟩, ?_⟩
 ·intro d hd e he
  obtain ⟨x,h1,rfl⟩:=List.mem_map.mp hd
  obtain ⟨y,h2,rfl⟩:=List.mem_map.mp he
  exact tN s x y (hx x h1) (hx y h2)
 ·intro d hd
  obtain ⟨x,h1,rfl⟩:=List.mem_map.mp hd
  obtain ⟨_,g2,g3⟩:=qF s x (hx x h1)
  exact ⟨g2,by have:=mP h;lia⟩
 ·match s,h with
  | .int,_ =>
   left
   intro d hd
   obtain ⟨x,h1,rfl⟩:=List.mem_map.mp hd
   have:=hx x h1
   cases x <;> simp [hs] at this
   exact ⟨_,rfl⟩
  | .tup (.int::l),_ =>
   right;left
   intro d hd
   obtain ⟨x,h1,rfl⟩:=List.mem_map.mp hd
   have:=hx x h1
   cases x <;> simp [hs] at this
   rename_i ds
   cases ds with
   | nil=>simp [hss] at this
   | cons y ys =>
     simp [hss] at this
     cases y <;> simp [hs] at this
     exact ⟨_,_,rfl⟩
  | .tup (.tup a::l),_ =>
   right;right
   intro d hd
   obtain ⟨x,h1,rfl⟩:=List.mem_map.mp hd
   have:=hx x h1
   cases x <;> simp [hs] at this
   rename_i ds
   cases ds with
   | nil=>simp [hss] at this
   | cons y ys =>
     simp [hss] at this
     cases y <;> simp [hs] at this
     exact ⟨_,_,rfl⟩
 ·intro d hd
  obtain ⟨x,h1,rfl⟩:=List.mem_map.mp hd
  exact (qF s x (hx x h1)).1
theorem kx {α β:Type} (f : α -> β):∀ {l m:List β},l.Perm m -> ∀ {t:List α},t.map f=m -> ∃ t':List α,t'.Perm t/\t'.map f=l:=by
 intro l m h
 induction h with
 | nil=>intro t e;exact ⟨[],by rw [List.map_eq_nil_iff.mp e],rfl⟩
 | cons x h ih =>
   intro t e
   cases t with
   | nil=>simp at e
   | cons a t =>
     simp at e
     obtain ⟨t',h1,h2⟩:=ih e.2
     exact ⟨a::t',h1.cons a,by simp [h2,e.1]⟩
 | swap x y l =>
   intro t e
   match t,e with
   | a::b::t,e =>
     simp at e
     exact ⟨b::a::t, .swap _ _ _,by simp [e]⟩
 | trans h1 h2 j n =>
   intro t e
   obtain ⟨z,p2,e2⟩:=n e
   obtain ⟨t1,q,e1⟩:=j e2
   exact ⟨t1,q.trans p2,e1⟩
noncomputable def jB (ys:List D):Prop:=ys.Pairwise fun a b=>ltK (kyD b) (kyD a)=false
theorem oO {K:Frag} {H:Hp}:∀ {ds:List D} {vs:List V} {us:List Value},RDs K H ds vs->Vals vs us -> ∃ t:List (D×V×Value),t.map (·.1)=ds/\t.map (·.2.1)=vs/\t.map (·.2.2)=us /\ ∀ p∈t,RD K H p.1 p.2.1/\RelV p.2.1 p.2.2
 | [],vs,us,h,g=>by
  cases RDs.nil_iff.mp h
  cases g
  exact ⟨[],rfl,rfl,rfl,fun _ h=>by simp at h⟩
 | d::ds,vs,us,h,g=>by
   obtain ⟨v,r,rfl,h1,h2⟩:=RDs.cons_iff.mp h
   cases g with
   | cons g1 g2 =>
     rename_i u us
     obtain ⟨t,e1,e2,j,n⟩:=oO h2 g2
     exact ⟨(d,v,u)::t,by simp [e1],by simp [e2],by simp [j],fun p hp=>by
      rcases List.mem_cons.mp hp with z | z
      ·rw [z];exact ⟨h1,g1⟩
      ·exact n p z⟩
theorem oP {K:Frag} {H:Hp}:∀ {t:List (D×V×Value)},(∀ p∈t,RD K H p.1 p.2.1/\RelV p.2.1 p.2.2)->RDs K H (t.map (·.1)) (t.map (·.2.1))/\Vals (t.map (·.2.1)) (t.map (·.2.2))
 | [],_=>⟨RDs.nil, .nil⟩
 | p::t,h=>by
   obtain ⟨h1,h2⟩:=oP (t:=t) fun q j=>h q (by simp [j])
   exact ⟨RDs.cons (h p (by simp)).1 h1, .cons (h p (by simp)).2 h2⟩
section
variable {X:Cx}
theorem oo {cap:Nat} (S:fZ cap) (J:X.A.units+16 < cLine) {pins:List (Addr×Obj)} {s:Shared} {σ:St} {H:Hp} {Q:VK} (I:Inv X pins σ H s) {M:Mem} (rm:RM X.K M H) {es:List D} {sh:Sh} {vs:List V} {p:Addr} (rvs:RDs X.K H es vs) (hok:gT sh=true) (L:∀ d∈es,hs sh d=true)
 (q:∀ p ys,M p=none->ys.Perm es->jB ys->KE' X.K M H Q (.ref p) (ag M p (.lst ys))) {its:List Value} (hv:Vals vs its) (hl:vs.length<=sizeLine) (D8:vs.length<=cap)
 (O:∀ (E:Value->Shared->Prop) (R:List Value->Shared->Prop),(∀ (h':Heap) (tk:Nat),(∀ b o,s.heap.get? b=some o->h'.get? b=some o)->s.toks<=tk->R its { s with heap:=h',toks:=tk })->wpAny (PySem.model X.prog X.w) X.A.in1 (collect (.ref p)) R E s) :
 wpAny (PySem.model X.prog X.w) X.A (call (.builtin "sorted") [.ref p]) (EP X pins σ Q) X.xe s:=by
 obtain ⟨hS,G⟩:=yW hok L
 have Db:=mP hok
 obtain ⟨t,t1,t2,t3,t4⟩:=oO rvs hv
 have U:∀ pp∈t, ∃ as,Reads s.heap pp.2.2 (pd pp.1) as:=fun pp j=>by
  have hm:pp.1∈es:=by rw [<- t1];exact List.mem_map_of_mem j
  exact bT I rm 16 pp.1 (pd pp.1) pp.2.1 pp.2.2 (xC M sh pp.1 16 (L _ hm) (by lia)) (t4 pp j).1 (t4 pp j).2
 have Y:RdL s.heap its (es.map pd):=fun u J=>by
  rw [<- t3] at J
  obtain ⟨pp,j,rfl⟩:=List.mem_map.mp J
  obtain ⟨as,ra⟩:=U pp j
  exact ⟨pd pp.1,List.mem_map_of_mem (by rw [<- t1];exact List.mem_map_of_mem j),as,ra⟩
 refine tM S (m := 7) (ds:=es.map pd) (C:=fun h' vs'=>vs'=its /\ ∀ b o,s.heap.get? b=some o->h'.get? b=some o) (by lia) hS G (fun E R hR => ?_) fun h1 h2 vs' out n' tk hC old g2 B Z Dc Dd ht => ?_
 ·refine O E R fun h' tk kp D9=>hR h' its tk ⟨rfl,kp⟩ (fun u J => ?_) ⟨by rw [<- hv.length];exact hl,by rw [<- hv.length];exact D8⟩ D9
  obtain ⟨d,hd,as,ra⟩:=Y u J
  exact ⟨d,hd,as,br (fun b o e _=>kp b o e) (G d hd) ra⟩
 ·obtain ⟨rfl,kp⟩:=hC
  rw [<- t3] at B
  obtain ⟨t',p1,p2⟩:=kx (fun pp:D×V×Value=>pp.2.2) B rfl
  have hz:=oP (t:=t') fun pp j=>t4 pp (p1.mem_iff.mp j)
  have D7:∀ b o,s.heap.get? b=some o->h2.get? b=some o:=fun b o e=>old b o (kp b o e)
  have z:s.heap.get? h1.objs.size=none:=by
   cases hq:s.heap.get? h1.objs.size with
   | none=>rfl
   | some o=>exact absurd (Heap.lt_size (kp _ _ hq)) (Nat.lt_irrefl _)
  have Da:=I.fresh' z
  have hlen:(t'.map (·.2.1)).length<=sizeLine:=by
   rw [List.length_map,p1.length_eq, <- List.length_map (f:=fun pp:D×V×Value=>pp.2.1),t2];exact hl
  have I2:=I.laidN (t':=tk) (h':=h2) (N:=fun b=>if b=h1.objs.size then some (.lst (t'.map (·.2.1))) else none) D7 (fun b o e=>by
   by_cases hb:b=h1.objs.size
   ·rw [hb];exact z
   ·rw [if_neg hb] at e;cases e) (fun b o e=>by
   by_cases hb:b=h1.objs.size
   ·subst hb
    rw [if_pos rfl] at e;cases e
    exact ⟨hlen,out,n',by rw [<- p2];exact hz.2,g2⟩
   ·rw [if_neg hb] at e;cases e)
  have eH:lay H (fun b=>if b=h1.objs.size then some (.lst (t'.map (·.2.1))) else none)=upd H h1.objs.size (.lst (t'.map (·.2.1))):=by
   funext b
   unfold lay upd
   dsimp only
   by_cases hb:b=h1.objs.size
   ·rw [if_pos hb,if_pos hb]
   ·rw [if_neg hb,if_neg hb]
  rw [eH] at I2
  refine ⟨.ref h1.objs.size,_,I2,rfl, ?_⟩
  refine cB rm hz.1 (fun p' n=>q p' _ n ?_ ?_) Da
  ·have:=p1.map (fun pp:D×V×Value=>pp.1)
   rw [t1] at this;exact this
  ·unfold jB
   rw [List.pairwise_map]
   rw [<- p2,List.pairwise_map] at Z
   refine Z.imp_of_mem fun {a b} ha hb hab => ?_
   have rd:∀ pp∈t',SeqAt.readOf h2 pp.2.2=pd pp.1:=fun pp j=>by
    have F:=p1.mem_iff.mp j
    obtain ⟨as,ra⟩:=U pp F
    have hm:pp.1∈es:=by rw [<- t1];exact List.mem_map_of_mem F
    exact SeqAt.readOf_eq (hS.lay _ (List.mem_map_of_mem hm)).1 (br (fun b o e _=>D7 b o e) (G _ (List.mem_map_of_mem hm)) ra)
   rw [rd a ha,rd b hb] at hab
   exact hab
end
end Mi
end
end L2
namespace L2
namespace Mi
open PySem PySem.Spec PyProof.Rows L2.Srt
noncomputable def jC (K:Frag) (H:Hp) (kv:D×D) (e:DictEntry):Prop := ∃ kV vV,RD K H kv.1 kV/\RelV kV e.key/\RD K H kv.2 vV/\RelV vV e.val
theorem oQ {K:Frag} {H:Hp} {d:D} {k:Key} (h:RKey d k):RD K H d (kV k):=by
 cases d <;> first
  | exact h.elim
  | (cases h;first | exact RD.int_iff.mpr rfl | exact RD.str_iff.mpr rfl)
theorem ky {K:Frag} {H:Hp}:∀ {ds:List D} {ks:List Key},Paired RKey ds ks->RDs K H ds (ks.map kV)
 | _,_, .nil=>RDs.nil
 | _,_, .cons r t=>RDs.cons (oQ r) (ky t)
theorem xD {P:Program} {w:World} {K:Frag} {H:Hp}:∀ {kvs:List (D×D)} {ps:List (Key×V)} {vs:List (Key×Value)} {es:List DictEntry},Paired (fun (p:D×D) (q:Key×V)=>RKey p.1 q.1/\RD K H p.2 q.2) kvs ps->KV ps vs->Pairs (aF P w) es vs->Paired (jC K H) kvs es
 | _,_,_,_, .nil, .nil, .nil => .nil
 | _,_,_,_, .cons j t1, .cons n z, .cons h1 h2 t3=>by
   refine .cons ⟨kV _,_,oQ j.1, ?_,j.2,by rw [h2];exact n.2⟩ (xD t1 z t3)
   rw [<- n.1] at h1
   rcases aS h1 with ⟨i,t,e1,e2⟩ | ⟨x,t,e1,e2⟩
   ·rw [e1,e2];exact ⟨t,rfl⟩
   ·rw [e1,e2];exact ⟨t,rfl⟩
theorem xE {P:Program} {w:World} {K:Frag} {H:Hp}:∀ {kvs:List (D×D)} {ps:List (List Key×V)} {xs:List (List Key×Addr×Value)},Paired (fun (p:D×D) (q:List Key×V)=>RKeys p.1 q.1/\RD K H p.2 q.2) kvs ps->Paired (fun (p:List Key×V) (q:List Key×Addr×Value)=>p.1=q.1/\H q.2.1=some (.tup (p.1.map kV))/\RelV p.2 q.2.2) ps xs->Paired (jC K H) kvs (xs.map (entryOfKey (tupleKind (aF P w))))
 | _,_,_, .nil, .nil => .nil
 | kv::_,_,_, .cons n t1, .cons z B=>by
   refine .cons ?_ (xE t1 B)
   obtain ⟨d,v⟩:=kv
   have j:=n.1
   cases d <;> first
    | exact j.elim
    | exact ⟨.ref _,_,RD.tup_mk ⟨_,_,rfl,z.2.1,ky j⟩,rfl,n.2,z.2.2⟩
theorem aX {α β:Type} {R : α -> β -> Prop}:∀ {l:List α} {m:List β},Paired R l m->l.length=m.length
 | _,_, .nil=>rfl
 | _,_, .cons _ t=>by simp [aX t]
section
variable {X:Cx}
theorem mQ {H:Hp} {h:Heap} {P:Program} {w:World} {K:Frag} {a:Addr} {ps:List (List Key×V)} {kvs:List (D×D)} (ok:ObjOk P w H h a (.dT ps)) (pr:Paired (fun (p:D×D) (q:List Key×V)=>RKeys p.1 q.1/\RD K H p.2 q.2) kvs ps) :
 ∃ cd dd sl es ep,h.get? a=some { cls:=cd,dict:=dd,data := .dict es ep,slots:=sl }/\es.size<=sizeLine/\Paired (jC K H) kvs es.toList:=by
 obtain ⟨F,z,xs,j,o,es,ep,h1,h2,n,B,G⟩:=ok
 obtain ⟨cd,dd,dat,sl⟩:=o
 dsimp only at n
 subst n
 have pp:=xE (P:=P) (w:=w) pr j
 rw [<- B] at pp
 refine ⟨cd,dd,sl,es,ep,h1, ?_,pp⟩
 have:=aX pp
 have:=aX pr
 simp at *;lia
theorem yX {pins:List (Addr×Obj)} {σ:St} {H:Hp} {s:Shared} {M:Mem} (I:Inv X pins σ H s) (rm:RM X.K M H) {a:Addr} {t:Bool} {kvs:List (D×D)} (e:M a=some (.dct t kvs)) :
 ∃ cd dd sl es ep,s.heap.get? a=some { cls:=cd,dict:=dd,data := .dict es ep,slots:=sl }/\es.size<=sizeLine/\Paired (jC X.K H) kvs es.toList/\IsD H a:=by
 have ro:=rm a _ e
 cases t with
 | false =>
   obtain ⟨ps,hp,pr⟩:=ro
   obtain ⟨B,q,vs,n,o,es,ep,h1,h2,j,F,z,G⟩:=I.hok a _ hp
   obtain ⟨cd,dd,dat,sl⟩:=o
   dsimp only at j
   subst j
   have pp:=xD pr n z
   refine ⟨cd,dd,sl,es,ep,h1, ?_,pp, .inl ⟨_,Rd.of hp⟩⟩
   have:=aX pp
   have:=aX pr
   simp at *;lia
 | true =>
   obtain ⟨ps,hp,pr⟩:=ro
   obtain ⟨cd,dd,sl,es,ep,h1,h2,j⟩:=mQ (I.hok a _ hp) pr
   exact ⟨cd,dd,sl,es,ep,h1,h2,j, .inr ⟨_,Rd.of hp⟩⟩
end
section
noncomputable def iP (to tk tx:TEd):TEd:=fun ρ M Q=>to ρ M fun x M1 => ∃ a t kvs,x = .ref a/\M1 a=some (.dct t kvs)/\tk ρ M1 fun k M2=>tx ρ M2 fun z M3 => ∃ t' kvs',M3 a=some (.dct t' kvs')/\fT t' k=true/\Q ((dget kvs' k).getD z) M3
theorem tO {to tk tx:TEd} (h1:aa to) (h2:aa tk) (j:aa tx):aa (iP to tk tx):=fun ρ M Q Q' i q=>h1 _ _ _ _ (fun x I ⟨a,t,kvs,e,e1,n⟩=>⟨a,t,kvs,e,e1,h2 _ _ _ _ (fun k M2 B=>j _ _ _ _ (fun z J ⟨t',kvs',F,ok,G⟩=>⟨t',kvs',F,ok,i _ _ G⟩) B) n⟩) q
section
variable {X:Cx}
theorem B6 {K:Frag} {M:Mem} {H:Hp} (rm:RM K M H) {a:Addr} {t:Bool} {kvs:List (D×D)} (e:M a=some (.dct t kvs)):IsD H a:=by
 have ro:=rm a _ e
 cases t with
 | false=>obtain ⟨ps,hp,_⟩:=ro;exact .inl ⟨_,Rd.of hp⟩
 | true=>obtain ⟨ps,hp,_⟩:=ro;exact .inr ⟨_,Rd.of hp⟩
theorem yY {o e f:Expr} {to tk tx:TEd} {apos cpos:Pos} (O:X.A.units+1 < cLine) (mo:aa to) (mk:aa tk) (mx:aa tx) (ho:PE X o (lE X.K to)) (he:PE X e (lE X.K tk)) (hf:PE X f (lE X.K tx)) (m:M2 X o "get" apos e f cpos) :
 PE X (.Call (.Attribute o "get" apos) [e,f] [] cpos) (lE X.K (iP to tk tx)):=by
 refine PE.imp (vc O ho he hf m) fun σ H Q h => ?_
 obtain ⟨ρ,M,rs,rm,q⟩:=h
 refine ⟨ρ,M,rs,rm,mo _ _ _ _ (fun x R ⟨a,t,kvs,e,e1,S⟩ v H1 I j rd1 => ?_) q⟩
 subst e
 cases RD.ref_iff.mp rd1
 have n:=rs.mono (I.stab rm)
 refine ⟨a,rfl,B6 j e1, ρ,R,n,j,mk _ _ _ _ (fun k M2 U v2 H2 J B F => ?_) S⟩
 have G:=n.mono (J.stab j)
 refine ⟨ρ,M2,G,B,mx _ _ _ _ (fun z M3 ⟨t',kvs',Y,ok,Z⟩ v3 H3 L rm3 rd3 => ?_) U⟩
 obtain ⟨w,g,g1,g2⟩:=oF rm3 Y ok (F.mono (L.stab B))
 refine ⟨w,g, ?_⟩
 refine Z _ H3 (I.trans (J.trans L)) rm3 ?_
 cases e4:dget kvs' k with
 | none=>rw [g2 e4];exact rd3
 | some d =>
   obtain ⟨w',e5,r5⟩:=g1 d e4
   rw [e5];exact r5
end
end
end Mi
end L2
namespace L2
open PySem PySem.Spec PyProof.Rows
namespace Mi
end Mi
end L2
namespace L2
open PySem PySem.Spec PyProof.Rows
namespace Mi
end Mi
end L2
namespace L2
open PySem PySem.Spec PyProof.Rows
namespace Mi
end Mi
end L2
namespace L2
open PySem PySem.Spec PyProof.Rows
section
section
variable {prog:Program} {w:World} {A:Around} {E:Value->Shared->Prop} {s:Shared}
theorem yZ:typeLookup (.type "list") "keys" = pure none:=by rw [typeLookup_type,builtinLookup_eq_fast];kernel_rfl
theorem zc {l:Addr} {o:Obj} {xs:Array Value} {k:Nat} {Q:Option Value->Shared->Prop} (hn:A.handled=none) (ho:s.heap.get? l=some o) (hc:o.cls = .type "list") (hd:o.data = .seq xs k) (j:o.dict=none)
 (q:∀ h' tk,(∀ b o,s.heap.get? b=some o->h'.get? b=some o)->Q none { s with heap:=h',toks:=tk }):wpAny (model prog w) A (getAttr? (.ref l) "keys") Q E s:=by
 have ty:s.TypeIs (.ref l) "list" := ⟨_,ho,hc⟩
 unfold getAttr?
 unfold mkText
 refine wpAny_bind ?_
 refine wpAny_bind (wpAny_fresh ?_)
 refine wpAny_pure ?_
 unfold getAttrBy?
 refine wpAny_bind (wpAny_attempt ?_)
 unfold getAttrBy
 refine wpAny_holding ?_
 refine wpAny_bind (wpAny_typeOf (s := { s with toks:=s.toks+1 }) ty ?_)
 refine wpAny_bind (wpAny_of_eq F.slot_list_getattribute.lookup ?_)
 refine wpAny_ite_false (by decide) ?_
 unfold getAttrByItsOwn hookBefore
 rw [if_neg (by decide)]
 refine wpAny_bind (wpAny_pure ?_)
 refine wpAny_bind (wpAny_attempt (wpAny_holding ?_))
 unfold callGetattribute boundAndCalled
 rw [if_neg (by decide)]
 refine wpAny_bind (wpAny_of_eq (F.slot_list_getattribute.bind _) ?_)
 dsimp only
 obtain ⟨cls,dd,dat,sl⟩:=o
 dsimp only at hc hd j
 subst hc hd j
 refine call_meetsIn F.slot_list_getattribute (s := { s with toks:=s.toks+1 }) ty am_entry_list_getattribute (F.args_list_getattribute_2 _ _) ((meets_getattribute_miss_list l xs k sl "keys" s.toks yZ (by decide) (by decide)).inModel prog w) ⟨ho,hn,fun h' tk a ne => ?_⟩
 ·have ne:s.heap.NewAttrErr h' a (.ref l) "keys" := ne
  obtain ⟨t,u,he⟩:=ne.there
  unfold getattributeRaised
  refine wpAny_bind (wpAny_isInstance (T := "AttributeError") (b:=true) ⟨_,he,rfl⟩ (by rw [isSubtype_type];kernel_rfl) ?_)
  rw [if_pos rfl]
  unfold hookBehind
  rw [if_neg (by decide)]
  refine wpAny_bind (wpAny_of_eq am_list_getattr_none ?_)
  unfold hookOrError attributeErrorLeaves
  dsimp only
  rw [if_pos (by decide)]
  refine wpAny_bind (wpAny_throw ?_)
  refine wpAny_bind (wpAny_isInstance (T := "AttributeError") (b:=true) ⟨_,he,rfl⟩ (by rw [isSubtype_type];kernel_rfl) ?_)
  rw [if_pos rfl]
  exact wpAny_pure (q h' tk ne.keeps)
end
end
section
theorem mR:entryFor table "dict.update.loop" = some Builtin.«dict.update.loop» := entryFor_of_tree (by kernel_rfl)
theorem mU:plainId "dict.update.loop" = true:=by decide +kernel
section
variable {X:Cx} {pins:List (Addr×Obj)} {σ:St} {H:Hp}
noncomputable def PrV (H:Hp) (v:V) (kv:List Key×V):Prop := ∃ t b,v = .ref t/\H t=some (.tup [.ref b,kv.2])/\H b=some (.tup (kv.1.map kV))
noncomputable abbrev bK (kvs:List (List Key×V)):List (List Key×V):=kvs.foldl (fun a kv=>be a kv.1 kv.2) []
theorem qG (kvs:List (List Key×V)):(bK kvs).length<=kvs.length:=by
 have g:∀ (r:List (List Key×V)) (a:List (List Key×V)),(r.foldl (fun a kv=>be a kv.1 kv.2) a).length<=a.length+r.length:=by
  intro r
  induction r with
  | nil=>intro a;simp
  | cons x r ih =>
    intro a
    have h1:=ih (be a x.1 x.2)
    have h2:=cJ a x.1 x.2
    simp only [List.foldl_cons,List.length_cons]
    lia
 have:=g kvs []
 simpa using this
theorem iQ {α β:Type} {R : α -> β -> Prop}:∀ {l:List α} {m:List β} {i:Nat} {x : α},Paired R l m->l[i]? = some x -> ∃ y,m[i]? = some y/\R x y
 | _,_,_,_, .nil,e=>by simp at e
 | _,_,0,_, .cons r _,e=>by simp at e;subst e;exact ⟨_,rfl,r⟩
 | _,_,i+1,x, .cons _ t,e=>by
   simp at e
   obtain ⟨y,h1,h2⟩:=iQ t e
   exact ⟨y,by simpa using h1,h2⟩
theorem zd {A:Around} (hu:A.units+1 < cLine) (hn:A.handled=none) {l it p:Addr} {vs:List V} {kvs:List (List Key×V)} (hp:H p=none) (O:H l=some (.lst vs)) (B:Paired (PrV H) vs kvs) (hz:vs.length < sizeLine) {R:Result->Shared->Prop} (hf:bY X pins H it) (j:it≠p) :
 ∀ (k i:Nat) (s:Shared),vs.length - i=k->i<=vs.length->Inv X pins σ (upd H p (.dT (bK (kvs.take i)))) s->s.heap.IsListIter it l i ->
  (∀ s',Inv X pins σ (upd H p (.dT (bK kvs))) s'->R (.ok (.ret .none)) s') ->
  codeAny (model X.prog X.w) A (.builtin "dict.update.loop" ⟨[.ref p, .ref it,rawInt i, .none],[]⟩) R s:=by
 have F:l≠p:=fun z=>by rw [z,hp] at O;cases O
 have hlen:vs.length=kvs.length:=Paired.length B
 obtain ⟨f0,f1,f2,f3,f4,f5⟩:=hf
 intro k
 induction k with
 | zero =>
   intro i s hk hi I st q
   have S:i=vs.length:=by lia
   obtain ⟨its,rv,pl,_⟩:=I.list (SqL.of (K:=X.K) ((aj F).trans O))
   refine codeAny_builtin mR ?_
   unfold Builtin.«dict.update.loop»
   dsimp only
   refine wpAny_bind (wpAny_pyNext_list_end hn st pl.isList (by have:=rv.length;simp;lia) fun h' eb => ?_)
   refine wpAny_bind ?_
   unfold Builtin.Dict.addKeywords
   refine wpAny_bind ?_
   have n:=I.turned (t':=s.toks) (h':=h') (fun b o hb e=>eb b o hb e) ((aj j).trans f0) f1 f3 f4 f5
   rw [S,hlen,List.take_length] at n
   exact wpAny_pure (wpAny_pure (wpAny_pure (q _ n)))
 | succ k ih =>
   intro i s hk hi I st q
   have G:i < vs.length:=by lia
   obtain ⟨its,rv,pl,_⟩:=I.list (SqL.of (K:=X.K) ((aj F).trans O))
   obtain ⟨u,U,ru⟩:=rv.get (List.getElem?_eq_getElem G)
   obtain ⟨kv,Y,t,b,hv,Z,hb⟩:=iQ B (List.getElem?_eq_getElem G)
   rw [hv] at ru
   cases (show u=Value.ref t from ru)
   refine codeAny_builtin mR ?_
   rw [Around.under_plain (by rfl) (by rfl)]
   unfold Builtin.«dict.update.loop»
   dsimp only
   refine wpAny_bind (wpAny_pyNext_list_item st pl.isList (x := .ref t) (by simpa using U) fun h' st' sb => ?_)
   have n:=I.turned (t':=s.toks) (h':=h') (fun b o hb e=>(sb.2 b hb).trans e) ((aj j).trans f0) f1 f3 f4 f5
   dsimp only
   have D7:t≠p:=fun z=>by rw [z,hp] at Z;cases Z
   have D8:b≠p:=fun z=>by rw [z,hp] at hb;cases hb
   obtain ⟨tits,rt,tt,_⟩:=n.tuple (SqT.of (K:=X.K) ((aj D7).trans Z))
   obtain ⟨ob,J,D9,nt,Da⟩:=id tt
   cases rt with
   | cons r1 rt =>
     cases rt with
     | cons r2 rt =>
       cases rt
       cases (show _=Value.ref b from r1)
       rename_i uv
       refine wpAny_bind (wpAny_holding ?_)
       refine wpAny_bind (wpAny_tryCatch ?_)
       unfold Builtin.Dict.pairItems
       refine wpAny_bind (wpAny_typeOf (T := "tuple") (s := { s with heap:=h' }) ⟨ob,J,D9⟩ ?_)
       rw [if_pos (by decide)]
       refine wpAny_bind (wpAny_seqItems (s := { s with heap:=h' }) J Da ?_)
       refine wpAny_pure ?_
       refine wpAny_holding ?_
       obtain ⟨z,hd,xs,rel,dd⟩:=xv (a:=p) n.hok aw
       have Db:xs.length<=sizeLine:=by rw [<- Paired.length rel];exact z
       have L:upd H p (.dT (bK (kvs.take i))) b=some (.tup (kv.1.map kV)):=(aj D8).trans hb
       have Dc:(be (bK (kvs.take i)) kv.1 kv.2).length<=sizeLine:=by
        have h1:=cJ (bK (kvs.take i)) kv.1 kv.2
        have h2:=qG (kvs.take i)
        rw [List.length_take] at h2
        lia
       have etk:be (bK (kvs.take i)) kv.1 kv.2=bK (kvs.take (i+1)):=by
        unfold bK
        rw [List.take_succ,Y,List.foldl_append];rfl
       refine wpAny_dictSet_heap (hsz:=Db) (knd:=tupleKind (aF X.prog X.w)) (tupleKind_room_in1 hu) (fo n.hok L) dd fun h2 dd' hs => ?_
       obtain ⟨q',es,ep,hq,g2,g3,g4,_,g5⟩:=dd'
       have I2:=jg (t':=s.toks+(tupleKind (aF X.prog X.w)).draws kv.1) n (a:=p) (ob := .dT (be (bK (kvs.take i)) kv.1 kv.2)) (by rw [aw];exact True.intro) hs ⟨q',hq⟩ ⟨Dc,hd,_,(rel.put kv.1 L r2).keeps fun c ys ec => ?_,q',es,ep,hq,g2,g3,g4,g5⟩
       ·rw [xR,etk] at I2
        refine wpAny_pure ⟨plainId_quiet mU _,ih (i+1) _ (by lia) (by lia) I2 ?_ q⟩
        exact st'.at fun o e=>(hs.2 it j).trans e
       ·rw [aj (xh ec aw (fun z=>nomatch z))]
        exact ec
end
section
variable {X:Cx}
theorem iR (Z:X.A.units+16 < cLine) (hc:X.calm=true):CallR X (.type "dict") (fun xs H Q => ∃ l vs kvs,xs=[V.ref l]/\H l=some (.lst vs)/\Paired (PrV H) vs kvs/\vs.length < sizeLine /\ ∀ p,H p=none->Q (.ref p) (upd H p (.dT (bK kvs)))):=by
 intro pins s σ H xs us Q I r h
 obtain ⟨l,vs,kvs,rfl,G,J,hz,q⟩:=h
 cases r with
 | cons S rr =>
 cases rr
 cases (show _=Value.ref l from S)
 have hn:=I.ok.hd hc
 have hp:H s.heap.objs.size=none:=I.hok.fresh (Nat.le_refl _)
 have R:=I.laid (a:=s.heap.objs.size) (o := .dT []) (t':=s.toks) (fun _ _ q=>Heap.get?_push_of_some _ q) (Nat.le_refl _) (lu s.heap I.big)
 have L:l≠s.heap.objs.size:=fun z=>by rw [z,hp] at G;cases G
 refine callType_codes (Q₁ := fun obj s₁ => obj = .ref s.heap.objs.size/\s₁ = { s with heap:=s.heap.push { cls := .type "dict",data := .dict #[] } }) F.kt_called_dict (F.kt_typeCall_dict_1 _) F.entry_dict_init (kt_code_dict_new _ ⟨rfl,rfl⟩) fun obj s₁ U => ?_
 obtain ⟨rfl,rfl⟩:=U
 refine ⟨⟨_,Heap.get?_push_size _ rfl,rfl⟩,F.args_dict_init_2 _ _, ?_⟩
 unfold Builtin.«dict.__init__»
 refine wpAny_bind ?_
 unfold Builtin.Dict.selfAndRest
 unfold Builtin.Dict.notOrdered
 rw [if_pos (by decide)]
 have tyd:Shared.TypeIs { s with heap:=s.heap.push { cls := .type "dict",data := .dict #[] } } (.ref s.heap.objs.size) "dict" := ⟨_,Heap.get?_push_size _ rfl,rfl⟩
 refine wpAny_bind (wpAny_bind (wpAny_typeOf tyd ?_))
 rw [if_neg (by decide)]
 refine wpAny_pure ?_
 refine wpAny_bind (wpAny_pure (wpAny_pure ?_))
 unfold Builtin.Dict.updateCommon Builtin.Dict.updateFrom
 dsimp only
 obtain ⟨its,rv,pl,_⟩:=R.list (SqL.of (K:=X.K) ((aj L).trans G))
 have il:=pl.isList
 refine wpAny_bind (wpAny_typeOf il.typeIs ?_)
 rw [if_pos (by decide)]
 obtain ⟨ob,nn,e1,j,n,B⟩:=id pl
 refine wpAny_bind (zc hn e1 j B n fun h1 tk kp => ?_)
 rw [if_pos (show (none:Option Value).isNone=true from rfl)]
 refine wpAny_bind (wpAny_rule ?_)
 have O:=R.kept (t':=tk) kp
 refine wpAny_bind (wpAny_pyIter_list (s := { s with heap:=h1,toks:=tk }) (PlainL.isList (⟨ob,nn,kp _ _ e1,j,n,B⟩)) ?_)
 have Y:=O.kept (t':=tk) (h':=h1.push { cls := .type "list_iterator",data := .fields #[.ref l, .int 0 0] }) fun b o e=>Heap.get?_push_of_some _ e
 refine wpAny_pure ⟨plainId_quiet mU _, ?_⟩
 have hle:s.heap.objs.size < h1.objs.size:=Heap.lt_size (kp _ _ (Heap.get?_push_size _ rfl))
 have hf:bY X pins H h1.objs.size:=by
  have:=O.fpOk (H':=upd H s.heap.objs.size (.dT [])) (Nat.le_refl _) (O.hok.fresh (Nat.le_refl _))
  exact ⟨by rw [<- this.1,aj (Nat.ne_of_gt hle)],this.2⟩
 refine zd (A:=X.A.in1) (X:=X) (pins:=pins) (σ := σ) (H:=H) (p:=s.heap.objs.size) (kvs:=kvs) (by have:X.A.in1.units=X.A.units+1:=rfl;lia) hn hp G J hz hf (Nat.ne_of_gt hle) vs.length 0 _ (by lia) (by lia) Y ⟨_,Heap.get?_push_size _ rfl,rfl,rfl⟩ fun s' I' => ?_
 exact ⟨rfl, .ref s.heap.objs.size,_,I',rfl,q _ hp⟩
end
end
end L2
namespace L2
namespace Mi
open PySem PySem.Spec PyProof.Rows
section
section
variable {X:Cx}
noncomputable def qH (kvs:List (D×D)):List (D×D):=kvs.foldl (fun a kv=>cj a kv.1 kv.2) []
noncomputable def qI:RAd:=fun ds M Q => ∃ a kvs,ds=[.ref a]/\M a=some (.lst (kvs.map fun kv:D×D => .tup [kv.1,kv.2]))/\(∀ kv∈kvs,bR kv.1=true)/\kvs.length < sizeLine /\ ∀ p,M p=none->Q (.ref p) (ag M p (.dct true (qH kvs)))
theorem kz:aY qI:=fun _ _ _ _ h ⟨a,kvs,e,e1,e2,j,q⟩=>⟨a,kvs,e,e1,e2,j,fun p n=>h _ _ (q p n)⟩
theorem mV {K:Frag} {H:Hp}:∀ {kvs:List (D×D)} {vs:List V},RDs K H (kvs.map fun kv:D×D => .tup [kv.1,kv.2]) vs->(∀ kv∈kvs,bR kv.1=true) ->
 ∃ ps:List (List Key×V),Paired (PrV H) vs ps/\Paired (fun (p:D×D) (q:List Key×V)=>RKeys p.1 q.1/\RD K H p.2 q.2) kvs ps
 | [],vs,r,_=>by rw [RDs.nil_iff.mp r];exact ⟨[], .nil, .nil⟩
 | kv::kvs,vs,r,h=>by
   rw [List.map_cons] at r
   obtain ⟨v,vr,rfl,B,F⟩:=RDs.cons_iff.mp r
   obtain ⟨ps,h1,h2⟩:=mV F fun x hx=>h x (List.mem_cons_of_mem _ hx)
   have n:=h kv (List.mem_cons_self ..)
   obtain ⟨k,v⟩:=kv
   obtain ⟨ks,j⟩:=jj n
   cases k <;> first
    | exact j.elim
    | (obtain ⟨t,us,rfl,z,ru⟩:=RD.tupK rfl B
       obtain ⟨O,ur,rfl,G,ru⟩:=RDs.cons_iff.mp ru
       obtain ⟨I,J,rfl,L,ru⟩:=RDs.cons_iff.mp ru
       rw [RDs.nil_iff.mp ru] at z
       obtain ⟨b,ws,rfl,hb,rw'⟩:=RD.tupK (jk n) G
       rw [eN j rw'] at hb
       exact ⟨(ks,I)::ps, .cons ⟨t,b,rfl,z,hb⟩ h1, .cons ⟨j,L⟩ h2⟩)
theorem mW {K:Frag} {H:Hp}:∀ {kvs:List (D×D)} {ps:List (List Key×V)} {a:List (D×D)} {b:List (List Key×V)},Paired (fun (p:D×D) (q:List Key×V)=>RKeys p.1 q.1/\RD K H p.2 q.2) kvs ps->Paired (fun (p:D×D) (q:List Key×V)=>RKeys p.1 q.1/\RD K H p.2 q.2) a b ->
 Paired (fun (p:D×D) (q:List Key×V)=>RKeys p.1 q.1/\RD K H p.2 q.2) (kvs.foldl (fun a kv=>cj a kv.1 kv.2) a) (ps.foldl (fun a kv=>be a kv.1 kv.2) b)
 | _,_,_,_, .nil,h=>h
 | _,_,_,_, .cons r t,h=>by
   have g:=mW t (gP (RK:=RKeys) RKeys.inj RKeys.fun r.1 r.2 h)
   exact g
theorem ot (j:X.A.units+16 < cLine) (hc:X.calm=true):CallR X (.type "dict") (lR X.K qI):=by
 refine CallR.of (iR j hc) fun vs H Q h => ?_
 obtain ⟨ds,M,rm,rs,a,kvs,rfl,e,B,hz,q⟩:=h
 obtain ⟨v,rfl,r⟩:=rs.one
 cases RD.ref_iff.mp r
 obtain ⟨us,ha,ru⟩:=rm _ _ e
 obtain ⟨ps,h1,h2⟩:=mV ru B
 refine ⟨a,us,ps,rfl,ha,h1,by rw [ru.length,List.length_map];exact hz,fun p n => ?_⟩
 have st:Stab H (upd H p (.dT (bK ps))):=(Ext.new' (M:=M) n).stab rm
 exact q p (rm.out n) (.ref p) _ (Ext.lay n) (rm.lay n ⟨_,aw,Paired.mapP (mW h2 .nil) fun _ _ z=>⟨z.1,z.2.mono st⟩⟩) (RD.ref_iff.mpr rfl)
end
end
end Mi
end L2
namespace L2
namespace Dk
open PySem PySem.Spec PyProof.Rows
section
variable {prog:Program} {w:World} {A:Around} {E:Value->Shared->Prop} {s:Shared}
noncomputable def kO (d:Addr) (i n ep:Nat):Obj := { cls := .type "dict_keyiterator",data := .fields #[.ref d, .int i 0, .int n 0, .int ep 0] }
theorem slot_next:Slot "dict_keyiterator" "__next__" "dict_keyiterator.__next__" := .of (owner := "dict_keyiterator") (n := "__next__") (by rw [typeLookup_type,builtinLookup_eq_fast];kernel_rfl) (by decide +kernel) (by decide +kernel) (by decide +kernel) (.inl (by decide +kernel)) (by rw [isSubtype_type];kernel_rfl)
theorem iS:entryFor table "dict_keyiterator.__next__" = some Builtin.«dict_keyiterator.__next__» := entryFor_of_tree (by kernel_rfl)
theorem kA (a:Value):argsOk "dict_keyiterator.__next__" ⟨[a],[]⟩:=by unfold argsOk;kernel_rfl
theorem tP {it:Addr} (ty:s.TypeIs (.ref it) "dict_keyiterator") {types:List String} {Q:Bool->Shared->Prop} (q:Q (types.any fun t => [Value.type "dict_keyiterator",Value.type "object"].contains (Value.type t)) s):wpAny (model prog w) A (Builtin.Dict_items.isOneOf (.ref it) types) Q E s:=by
 have hm:=mroOf_keyiter
 unfold Builtin.Dict_items.isOneOf
 wp_walk
 exact q
theorem nx_item {it d:Addr} {i ep:Nat} {cd:Value} {dd:Option Addr} {sl:Array (Option Value)} {es:Array DictEntry} {e:DictEntry} {Q:Option Value->Shared->Prop} (hi:s.heap.get? it=some (kO d i es.size ep)) (hd:s.heap.get? d=some { cls:=cd,dict:=dd,data := .dict es ep,slots:=sl }) (he:es[i]? = some e)
 (q:∀ h',h'.get? it=some (kO d (i+1) es.size ep)->Heap.SameBut it s.heap h'->Q (some e.key) { s with heap:=h' }):wpAny (model prog w) A (pyNext (.ref it)) Q E s:=by
 have ty:s.TypeIs (.ref it) "dict_keyiterator" := ⟨_,hi,rfl⟩
 unfold pyNext
 refine wpAny_bind (wpAny_attempt (wpAny_callSpecial?_slot (name:=Str.ofString "__next__") ty slot_next (wpAny_call_entry slot_next ty iS ?_ (kA _))))
 unfold Builtin.«dict_keyiterator.__next__»
 have hm:=mroOf_keyiter
 wp_walk
 dsimp only
 rw [if_neg (by simp)]
 simp only [Int.toNat_natCast,he]
 refine wpAny_bind (wpAny_mono (Q:=fun n s'=>n=0/\s'=s) ?_ (fun n s' hs => ?_) fun _ _ z=>z)
 ·wp_walk
  exact ⟨by kernel_rfl,rfl⟩
 obtain ⟨rfl,rfl⟩:=hs
 refine wpAny_bind (tP ty ?_)
 refine wpAny_bind (wpAny_setField_rec hi (by simp) fun h1 e1 s1 => ?_)
 rw [if_neg (by decide +kernel)] at e1
 have e1:h1.get? it=some (kO d (i+1) es.size ep):=e1
 have j:Shared.TypeIs { s' with heap:=h1 } (.ref it) "dict_keyiterator" := ⟨_,e1,rfl⟩
 refine wpAny_bind (wpAny_holding ?_)
 refine wpAny_bind (tP j ?_)
 refine wpAny_ite_true (by decide +kernel) ?_
 refine wpAny_pure (wpAny_pure ⟨_,rfl,wpAny_pure ?_⟩)
 exact q h1 e1 s1
theorem nx_end {it d:Addr} {ep:Nat} {cd:Value} {dd:Option Addr} {sl:Array (Option Value)} {es:Array DictEntry} {Q:Option Value->Shared->Prop} (hn:A.handled=none) (hi:s.heap.get? it=some (kO d es.size es.size ep)) (hd:s.heap.get? d=some { cls:=cd,dict:=dd,data := .dict es ep,slots:=sl })
 (q:∀ h',(∀ b o,b≠it->s.heap.get? b=some o->h'.get? b=some o)->Q none { s with heap:=h' }):wpAny (model prog w) A (pyNext (.ref it)) Q E s:=by
 have ty:s.TypeIs (.ref it) "dict_keyiterator" := ⟨_,hi,rfl⟩
 unfold pyNext
 refine wpAny_bind (wpAny_attempt (wpAny_callSpecial?_slot (name:=Str.ofString "__next__") ty slot_next (wpAny_call_entry slot_next ty iS ?_ (kA _))))
 unfold Builtin.«dict_keyiterator.__next__»
 have hm:=mroOf_keyiter
 wp_walk
 dsimp only
 rw [if_neg (by simp)]
 have he:es[es.size]? = none:=Array.getElem?_eq_none (Nat.le_refl _)
 simp only [Int.toNat_natCast,he]
 refine wpAny_bind (wpAny_mono (Q:=fun n s'=>n=0/\s'=s) ?_ (fun n s' hs => ?_) fun _ _ z=>z)
 ·wp_walk
  exact ⟨by kernel_rfl,rfl⟩
 obtain ⟨rfl,rfl⟩:=hs
 refine wpAny_bind (wpAny_setField_rec hi (by simp) fun h1 e1 s1 => ?_)
 refine wpAny_bind (m:=newExc (.type "StopIteration") []) ?_
 simp only [newExc,newTuple]
 refine wpAny_bind (wpAny_newObj_type ?_ (by size_fits))
 refine wpAny_bind (m:=firstArgMember _ _) (wpAny_of_eq (a:=Value.none) (by first | rfl | (simp only [firstArgMember];rfl)) (wpAny_newObj_type ?_ (by size_fits)))
 simp only [raiseNew]
 refine wpAny_bind (wpAny_handled ?_)
 first | rw [show A.in1.handled=none from hn] | rw [hn]
 refine wpAny_bind (wpAny_pure (wpAny_throw ?_))
 exact wpAny_bind (wpAny_isInstance (T := "StopIteration") (b:=true) ⟨_,Heap.get?_push_size _ rfl,rfl⟩ isSubtype_stop (wpAny_pure (q _ fun b o hb e=>Heap.get?_push_of_some _ (Heap.get?_push_of_some _ (s1.extBut b o hb e)))))
theorem it_dict {d:Addr} {es:Array DictEntry} {ep:Nat} {dd:Option Addr} {sl:Array (Option Value)} {Q:Value->Shared->Prop} (j:(d==sysModules)=false) (hd:s.heap.get? d=some { cls := .type "dict",dict:=dd,data := .dict es ep,slots:=sl })
 (q:Q (.ref s.heap.objs.size) { s with heap:=s.heap.push (kO d 0 es.size ep) }):wpAny (model prog w) A (pyIter (.ref d)) Q E s:=by
 have ty:s.TypeIs (.ref d) "dict" := ⟨_,hd,rfl⟩
 refine wpAny_pyIter_slot ty F.slot_dict_iter (wpAny_call_entry F.slot_dict_iter ty F.entry_dict_iter ?_ (F.args_dict_iter_1 _))
 unfold Builtin.«dict.__iter__»
 wp_walk
 exact ⟨_,rfl, "dict_keyiterator",_,⟨_,Heap.get?_push_size _ rfl,rfl⟩,slot_next.lookup,q⟩
theorem walk (hn:A.handled=none) (it d:Addr) (hne:d≠it) (es:Array DictEntry) (ep:Nat) :
 Walks prog w A it [it,d] [it] es.size (fun i v => ∃ e,es[i]? = some e/\v=e.key) (fun i h=>h.get? it=some (kO d i es.size ep) /\ ∃ cd dd sl,h.get? d=some { cls:=cd,dict:=dd,data := .dict es ep,slots:=sl }) where
 sub:=fun b hb=>by simp at hb;simp [hb]
 frame:=fun _ _ _ st k=>⟨k it (by simp) _ st.1,by obtain ⟨cd,dd,sl,h⟩:=st.2;exact ⟨cd,dd,sl,k d (by simp) _ h⟩⟩
 item:=fun i s Q E hi st q=>by
  obtain ⟨h1,cd,dd,sl,h2⟩:=st
  refine nx_item (e:=es[i]) h1 h2 (Array.getElem?_eq_getElem hi) fun h' e' s' => ?_
  exact q _ h' s.toks ⟨_,Array.getElem?_eq_getElem hi,rfl⟩ ⟨e',cd,dd,sl,s'.extBut d _ hne h2⟩ fun b o hb x=>s'.extBut b o (fun z=>hb (by simp [z])) x
 done:=fun s Q E st q=>by
  obtain ⟨h1,cd,dd,sl,h2⟩:=st
  exact nx_end hn h1 h2 fun h' k=>q h' s.toks fun b o hb x=>k b o (fun z=>hb (by simp [z])) x
 self:=fun i s Q E st q=>wpAny_pyIter_keyiter ⟨_,st.1,rfl,rfl⟩ q
theorem tQ {d:Addr} {Q:Bool->Shared->Prop} (ty:s.TypeIs (.ref d) "dict") (q:Q false s):wpAny (model prog w) A (Builtin.List.listLengthHint (.ref d)) Q E s:=by
 unfold Builtin.List.listLengthHint
 refine wpAny_bind (wpAny_specialOf ty F.slot_dict_len.lookup ?_)
 generalize j:("dict.__len__":String)=n
 (fail_if_success (clear j n));wp_delta
 rw [show splitId n=some ("dict", "__len__") from by subst j;decide +kernel]
 subst j
 refine wpAny_bind (wpAny_isInstance (b:=true) ty (by rw [isSubtype_type];kernel_rfl) ?_)
 rw [if_neg (by decide)]
 refine wpAny_ite_true (by decide +kernel) ?_
 refine wpAny_bind (wpAny_typeOf ty ?_)
 exact wpAny_pure q
open Builtin.List in
theorem w6 (hn:A.handled=none) {S d:Addr} {es:Array DictEntry} {ep c:Nat} {dd:Option Addr} {sl:Array (Option Value)} {R:Result->Shared->Prop} (res:Value) (O:(d==sysModules)=false) (hd:s.heap.get? d=some { cls := .type "dict",dict:=dd,data := .dict es ep,slots:=sl }) (L:s.heap.get? S=some { cls := .type "list",data := .seq #[] c }) (hz:es.size<=sizeLine)
 (q:∀ (h':Heap) (tk:Nat) (acc':Array Value) (c':Nat),(∀ b o,b≠S->s.heap.get? b=some o->h'.get? b=some o)->h'.get? S=some { cls := .type "list",data := .seq acc' c' }->acc'.toList=es.toList.map (·.key)->s.toks<=tk->R (.ok (.ret res)) { s with heap:=h',toks:=tk }) :
 wpAny (model prog w) A.in1 (listExtendWith (.ref S) (.ref d) res) (fun fin s'=>match fin with | .done f=>R (.ok f) s' | .again c'=>c'.quiet=true/\codeAny (model prog w) A c' R s') (fun e s'=>R (.error e) s') s:=by
 have ty:s.TypeIs (.ref d) "dict" := ⟨_,hd,rfl⟩
 have B:S≠d:=fun e=>by rw [e,hd] at L;simp at L
 have h1:listSameRef (.ref S) (.ref d)=false:=by simp [listSameRef,B]
 unfold listExtendWith
 refine wpAny_bind (wpAny_typeOf ty ?_)
 rw [if_neg (by rw [h1];decide)]
 refine wpAny_bind (it_dict O hd ?_)
 refine wpAny_bind (wpAny_holding (tQ (s := { s with heap:=s.heap.push (kO d 0 es.size ep) }) ⟨_,Heap.get?_push_of_some _ hd,rfl⟩ ?_))
 have n:=Heap.lt_size L
 have G:=Heap.lt_size hd
 have W:=(walk (prog:=prog) (w:=w) (A:=A.in1) hn s.heap.objs.size d (Nat.ne_of_lt G) es ep).toS
 have U:S∉[s.heap.objs.size,d]:=fun hm=>by
  simp only [List.mem_cons,List.not_mem_nil,or_false] at hm
  rcases hm with e | e
  ·exact absurd (e ▸ n) (Nat.lt_irrefl _)
  ·exact B e
 refine wpAny_ite_true (by decide +kernel) ?_
 refine wpAny_bind (wpAny_rule ?_)
 unfold listTouch
 have I:(s.heap.push (kO d 0 es.size ep)).get? S=some (seqObj "list" #[] c):=Heap.get?_push_of_some _ L
 refine wpAny_bind (wpAny_bind (listUpdate_at I rfl ?_ (by simp) (by simp)))
 have J:=get?_update_seq I (fun x=>x.push Value.none)
 refine listUpdate_at J rfl ?_ (by simp;decide) (by simp)
 have Y:=get?_update_seq J (fun x=>x.pop)
 have oth:∀ b o,b≠S->s.heap.get? b=some o->(((s.heap.push (kO d 0 es.size ep)).update S (Obj.mapSeq fun x=>x.push Value.none)).update S (Obj.mapSeq fun x=>x.pop)).get? b=some o:=fun b o hb e=>by
  rw [Heap.get?_update_ne _ _ _ _ hb,Heap.get?_update_ne _ _ _ _ hb]
  exact Heap.get?_push_of_some _ e
 have hit:(((s.heap.push (kO d 0 es.size ep)).update S (Obj.mapSeq fun x=>x.push Value.none)).update S (Obj.mapSeq fun x=>x.pop)).get? s.heap.objs.size=some (kO d 0 es.size ep):=by
  rw [Heap.get?_update_ne _ _ _ _ (Nat.ne_of_gt n),Heap.get?_update_ne _ _ _ _ (Nat.ne_of_gt n)]
  exact Heap.get?_push_size _ rfl
 refine wpAny_pure ⟨plainId_quiet F.plain_extend_loop _,codeAny_extend_loopS W hz _ U _ es.size 0 _ _ _ rfl (Nat.zero_le _) ⟨hit,_,_,_,oth d _ B.symm hd⟩ Y (ItemsOf.nil _) fun s' acc c' hm Z ha => ?_⟩
 rw [hm.eq_with]
 refine q _ _ acc c' (fun b o hb e => ?_) Z ?_ hm.toks
 ·exact hm.heap b o (fun z=>by
   simp only [List.mem_cons,List.not_mem_nil,or_false] at z
   rcases z with z | z
   ·exact hb z
   ·exact absurd (z ▸ Heap.lt_size e) (Nat.lt_irrefl _)) (oth b o hb e)
 ·obtain ⟨g1,g2⟩:=ha
  apply List.ext_getElem?
  intro j
  rw [Array.getElem?_toList,List.getElem?_map,Array.getElem?_toList]
  by_cases hj:j < es.size
  ·obtain ⟨e,he,hv⟩:=g2 j (acc[j]'(by lia)) (Array.getElem?_eq_getElem (by lia))
   rw [Array.getElem?_eq_getElem (by lia),hv,he];rfl
  ·rw [Array.getElem?_eq_none (by lia),Array.getElem?_eq_none (by lia)];rfl
theorem collect_dict (hn:A.handled=none) {d:Addr} {es:Array DictEntry} {ep:Nat} {dd:Option Addr} {sl:Array (Option Value)} {Q:List Value->Shared->Prop} (j:(d==sysModules)=false) (hd:s.heap.get? d=some { cls := .type "dict",dict:=dd,data := .dict es ep,slots:=sl }) (hz:es.size<=sizeLine)
 (q:∀ (h':Heap) (tk:Nat),(∀ b o,s.heap.get? b=some o->h'.get? b=some o)->s.toks<=tk->Q (es.toList.map (·.key)) { s with heap:=h',toks:=tk }):wpAny (model prog w) A (collect (.ref d)) Q E s:=by
 unfold collect
 refine wpAny_bind (wpAny_runValue (codeAny_builtin F.entry_proto_collect ?_))
 unfold Builtin.«proto.collect»
 dsimp only
 refine wpAny_bind (wpAny_newList ?_ (by simp))
 refine wpAny_pure ⟨Code.quiet_builtin _ (by decide +kernel), ?_⟩
 refine codeAny_builtin entry_list_iadd' ?_
 unfold Builtin.«list.__iadd__»
 refine wpAny_bind (wpAny_of_eq (a:=(Value.ref s.heap.objs.size,[Value.ref d])) (by kernel_rfl) ?_)
 have n:(s.heap.push { cls:=Value.type "list",data:=Data.seq [].toArray }).get? s.heap.objs.size=some { cls:=Value.type "list",data:=Data.seq #[] 0 }:=Heap.get?_push_size _ rfl
 rw [Around.under_plain (by rfl) (by rfl)]
 refine wpAny_mono (w6 (s := { s with heap:=s.heap.push { cls:=Value.type "list",data:=Data.seq [].toArray } }) (R:=fun r s'=>r = .ok (.ret (.ref s.heap.objs.size))/\wpAny (model prog w) A (do
  let o <- load s.heap.objs.size
  match o.data with
  | .seq xs _=>pure xs.toList
  | _=>unsupported "internal:collect") Q E s') hn (Value.ref s.heap.objs.size) j (Heap.get?_push_of_some _ hd) n hz fun h' tk acc c' kp z ha B=>⟨rfl, ?_⟩) (fun fn s' h => ?_) (fun e s' h => ?_)
 ·refine wpAny_bind (wpAny_load z ?_)
  refine wpAny_pure ?_
  rw [ha]
  exact q h' tk (fun b o e=>kp b o (Nat.ne_of_lt (Heap.lt_size e)) (Heap.get?_push_of_some _ e)) B
 ·cases fn with
  | done f =>
    obtain ⟨e,h⟩:=h
    cases e
    exact h
  | again c' =>
    refine ⟨h.1,codeAny_mono h.2 fun r s1 G => ?_⟩
    obtain ⟨rfl,G⟩:=G
    exact G
 ·cases h.1
end
end Dk
end L2
namespace L2
namespace Mi
open PySem PySem.Spec PyProof.Rows L2.Srt
noncomputable def mX:RAd:=fun ds M Q => ∃ a t kvs sh,ds=[.ref a]/\M a=some (.dct t kvs)/\gT sh=true/\(∀ kv∈kvs,hs sh kv.1=true)/\kvs.length<=63 /\ ∀ p ys,M p=none->ys.Perm (kvs.map (·.1))->jB ys->Q (.ref p) (ag M p (.lst ys))
theorem iT:aY mX:=fun _ _ _ _ h ⟨a,t,kvs,sh,e,e1,e2,j,z,q⟩=>⟨a,t,kvs,sh,e,e1,e2,j,z,fun p ys n hp hs=>h _ _ (q p ys n hp hs)⟩
theorem oR {K:Frag} {H:Hp}:∀ {kvs:List (D×D)} {es:List DictEntry},Paired (jC K H) kvs es -> ∃ vs,RDs K H (kvs.map (·.1)) vs/\Vals vs (es.map (·.key))
 | _,_, .nil=>⟨[],RDs.nil, .nil⟩
 | _,_, .cons r t=>by
   obtain ⟨vs,h1,h2⟩:=oR t
   obtain ⟨kV,vV,g1,g2,_,_⟩:=r
   exact ⟨kV::vs,RDs.cons g1 h1, .cons g2 h2⟩
section
variable {X:Cx}
theorem mY (J:X.A.units+16 < cLine) (hc:X.calm=true):CallR X (.builtin "sorted") (lR X.K mX):=by
 intro pins s σ H xs us Q I r h
 obtain ⟨ds,M,rm,rs,a,t,kvs,sh,rfl,e,hok,j,L,q⟩:=h
 obtain ⟨v,rfl,rv⟩:=rs.one
 obtain ⟨u,rfl,ru⟩:=dH r
 cases RD.ref_iff.mp rv
 cases (show u=Value.ref a from ru)
 obtain ⟨cd,dd,sl,es,ep,hd,hz,n,O⟩:=yX I rm e
 obtain ⟨t1,Y,z⟩:=ie I O
 obtain ⟨vs,h1,h2⟩:=oR n
 have B:cd = .type "dict" := by
  obtain ⟨o,g1,g2⟩:=t1
  rw [hd] at g1;cases g1;exact g2
 subst B
 have hn:X.A.in1.handled=none:=I.ok.hd hc
 exact oo on J I rm h1 hok (fun d hd=>by
  obtain ⟨kv,F,rfl⟩:=List.mem_map.mp hd
  exact j kv F) q h2 (by have:=h2.length;rw [List.length_map] at this;simp at this;lia) (by have:=h2.length;rw [List.length_map] at this;have S:=h1.length;rw [List.length_map] at S;lia) fun E R U=>Dk.collect_dict hn z hd hz fun h' tk kp G=>U h' tk kp G
end
end Mi
end L2
namespace L2
open PySem PySem.Spec PyProof.Rows
section
section
variable {X:Cx} {pins:List (Addr×Obj)} {σ:St} {H:Hp} {s:Shared}
theorem ze {x:V} {u:Value} {t:String} (I:Inv X pins σ H s) (rx:RelV x u) (ty:bZ X.K H x (.type t)):∃ P,PySem.W.KitX X.K u (.type t) P/\P s.heap/\u≠Value.builtin "__main__.__loader__#opaque" := by
 generalize j:Value.type t=T at ty
 cases ty with
 | non=>cases (show u=Value.none from rx);exact ⟨_,PySem.W.kitx_none,True.intro,fun z=>nomatch z⟩
 | bl y=>cases (show u=Value.bool y from rx);exact ⟨_,PySem.W.kitx_bool,True.intro,fun z=>nomatch z⟩
 | int i=>obtain ⟨t,rfl⟩:=(show ∃ t,u=Value.int i t from rx);exact ⟨_,PySem.W.kitx_int,True.intro,fun z=>nomatch z⟩
 | str y=>obtain ⟨t,rfl⟩:=(show ∃ t,u=Value.str y t from rx);exact ⟨_,PySem.W.kitx_str,True.intro,fun z=>nomatch z⟩
 | flt y=>obtain ⟨t,rfl⟩:=(show ∃ t,u=Value.float y t from rx);exact ⟨_,PySem.W.kitx_float,True.intro,fun z=>nomatch z⟩
 | @lst a xs ea =>
  cases (show u=Value.ref a from rx)
  obtain ⟨_,_,n,_,h1⟩:=(show ObjOk X.prog X.w H s.heap a (.lst xs) from I.hok a _ ea)
  exact ⟨_,PySem.W.kitx_list,⟨_,h1,rfl⟩,fun z=>nomatch z⟩
 | @frz a ob xs ea =>
  cases (show u=Value.ref a from rx)
  obtain ⟨_,_,_,n,_,h1⟩:=(show ObjOk X.prog X.w H s.heap a (.frz ob (.lst xs)) from I.hok a _ ea)
  exact ⟨_,PySem.W.kitx_list,⟨_,h1,rfl⟩,fun z=>nomatch z⟩
 | @tup a xs ea =>
  cases (show u=Value.ref a from rx)
  obtain ⟨_,_,⟨o,h1,h2,_⟩,_⟩:=I.tuple ea
  exact ⟨_,PySem.W.kitx_tuple,⟨o,h1,h2⟩,fun z=>nomatch z⟩
 | @dK a kvs ea =>
  cases (show u=Value.ref a from rx)
  obtain ⟨_,_,vs,_,o,es,ep,h1,h2,_⟩:=(show ObjOk X.prog X.w H s.heap a (.dK kvs) from I.hok a _ ea)
  exact ⟨_,PySem.W.kitx_dict,⟨o,h1,h2.1⟩,fun z=>nomatch z⟩
 | @dT a kvs ea =>
  cases (show u=Value.ref a from rx)
  obtain ⟨_,_,xs,_,o,es,ep,h1,h2,_⟩:=(show ObjOk X.prog X.w H s.heap a (.dT kvs) from I.hok a _ ea)
  exact ⟨_,PySem.W.kitx_dict,⟨o,h1,h2.1⟩,fun z=>nomatch z⟩
 | ins=>cases j
end
namespace Mi
section
variable {X:Cx}
theorem zf (K:Frag) {T U:String} (n:T∈["bool", "int", "str", "tuple", "list", "dict"]) (q:U∈["bool", "int", "str", "tuple", "list", "dict"]) {t:String} (j:t∈cn):PySem.W.kitAny K (.type t) [.type T, .type U]=some (dE T t || dE U t):=by
 have h1:=jr K T n t j
 have h2:=jr K U q t j
 unfold PySem.W.kitAny
 rw [h1]
 cases e1:dE T t with
 | true=>rfl
 | false =>
   dsimp only
   unfold PySem.W.kitAny
   rw [h2]
   cases dE U t <;> rfl
theorem qJ {T U:String} (z:T∈["bool", "int", "str", "tuple", "list", "dict"]) (B:U∈["bool", "int", "str", "tuple", "list", "dict"]):CallR X (.builtin "isinstance") (fun vs H Q => ∃ v t p,vs=[v, .ref p]/\H p=some (.tup [.ty T, .ty U])/\bZ X.K H v (.type t)/\t∈cn/\Q (.bl (dE T t || dE U t)) H):=by
 intro pins s σ H xs us Q I r h
 obtain ⟨v,t,p,rfl,hp,ty,F,q⟩:=h
 obtain ⟨u,c,rfl,ru,rc⟩:=kP r
 cases (show c=Value.ref p from rc)
 obtain ⟨P,g1,g2,g3⟩:=ze I ru ty
 obtain ⟨_,its,rv,⟨cls,dd,dat,sl⟩,h1,h2,n,j⟩:=(show ObjOk X.prog X.w H s.heap p (.tup [.ty T, .ty U]) from I.hok p _ hp)
 dsimp only at h2 j
 subst h2 j
 cases rv with
 | cons G rv =>
 cases rv with
 | cons J rv =>
 cases rv
 cases G
 cases J
 exact PySem.W.kia_tup g1 I.kIn g2 h1 (zf X.K z B F) g3 fun tk=>⟨.bl _,H,I.tok tk,rfl,q⟩
noncomputable def fE (T U:String) (ta:TEd):TEd:=fun ρ M Q=>ta ρ M fun x M1 => ∃ t,tyN M1 x=some t/\Q (.bl (dE T t || dE U t)) M1
theorem qK {T U:String} {ta:TEd} (h:aa ta):aa (fE T U ta):=fun ρ M Q Q' i q=>h _ _ _ _ (fun x n ⟨t,e,j⟩=>⟨t,e,i _ _ j⟩) q
theorem w8 {e:Expr} {ta:TEd} {T U:String} {y z:Str} {k:Nat} {p p2 j G pos:Pos} (hT:T∈["bool", "int", "str", "tuple", "list", "dict"]) (hU:U∈["bool", "int", "str", "tuple", "list", "dict"]) (m:aa ta) (he:PE X e (lE X.K ta)) (hg:Gl X "isinstance") (hm:X.mg "isinstance" = none)
 (I:Gl X y) (J:X.mg y=none) (hv:bootBuiltins y=some (.type T)) (hn:y ≠ "__name__") (L:(y==("__debug__":Str))=false)
 (O:Gl X z) (R:X.mg z=none) (S:bootBuiltins z=some (.type U)) (Y:z ≠ "__name__") (B:(z==("__debug__":Str))=false)
 (hs:starEach [e, .Tuple [.Name y p2, .Name z j] k G] X.env=(false,eval e X.env)::starEach [.Tuple [.Name y p2, .Name z j] k G] X.env) :
 PE X (.Call (.Name "isinstance" p) [e, .Tuple [.Name y p2, .Name z j] k G] [] pos) (lE X.K (fE T U ta)):=by
 have h2:PE X (.Name y p2) (tC (.ty T)):=jc I J hv rfl hn L
 have h3:PE X (.Name z j) (tC (.ty U)):=jc O R S rfl Y B
 have h4:PE X (.Tuple [.Name y p2, .Name z j] k G) _:=rX (cA h2 (cA h3 i7 rfl) rfl)
 refine PE.imp (ci (qJ hT hU) hg hm (by decide +kernel) (cA he (cA h4 i7 rfl) hs) (by decide) (by decide) hs rfl) fun σ H Q h => ?_
 obtain ⟨ρ,M,rs,rm,q⟩:=h
 refine ⟨ρ,M,rs,rm,m _ _ _ _ (fun x M1 ⟨t,e,q1⟩ v H1 x1 rm1 Z => ?_) q⟩
 refine ⟨by simp;decide,fun pp n => ?_⟩
 have st:=(Ext.new' (M:=M1) (ho := .tup [.ty T, .ty U]) n).stab rm1
 have F:=rm1.new (ho := .tup [.ty T, .ty U]) n
 exact ⟨v,t,pp,rfl,aw,xz F (Z.mono st) e,oG e,q1 _ _ (x1.trans (Ext.new' n)) F (RD.bl_iff.mpr rfl)⟩
end
end Mi
end
section
section
variable {X:Cx} {pins:List (Addr×Obj)} {σ:St} {H:Hp} {s:Shared}
theorem Inv.freeze (I:Inv X pins σ H s) {a:Addr} {ps:List (List Key×V)} (e:H a=some (.dT ps)):∃ o,Inv X pins σ (upd H a (.frz o (.dT ps))) s:=by
 obtain ⟨n,j,xs,pr,o,es,ep,h1,h2,B,F,G⟩:=id (I.hok a _ e)
 have mu:Mut (H a):=by rw [e];exact True.intro
 have u:Un X.fs [] H (upd H a (.frz o (.dT ps))) s.heap s.heap:=Un.write mu (.inl rfl) (fun b u _ q=>q) ⟨_,h1⟩
 have ok:HOk X.prog X.w (upd H a (.frz o (.dT ps))) s.heap:=HOk.write I.hok mu (.inl rfl) (fun b u _ q=>q) ⟨_,h1⟩
  ⟨h1,(I.hok a _ e).stay (fun b u _ q=>q) (fun b q=>by rw [aj (fun z=>by subst z;rw [e] at q;cases q)];exact q) (fun b xs q=>by rw [aj (fun z=>by subst z;rw [e] at q;cases q)];exact q)⟩
 exact ⟨o,I.un (t':=s.toks) u ok⟩
end
noncomputable def Itk (n:Nat) (G:Hp->Prop) (yl:Nat->V->Hp->Prop):It:=⟨fun i H=>i < n/\G H,fun i H x H'=>H'=H/\yl i x H,fun i H=>n<=i/\G H⟩
theorem tR {P:Program} {w:World} {K:Frag} {tg:Expr} (a it:Addr) {cd:Value} {dd:Option Addr} {sl:Array (Option Value)} {es:Array DictEntry} {ep:Nat} {G:Hp->Prop} {yl:Nat->V->Hp->Prop}
 (L:∀ H,G H -> ∃ u,H a=some (.frz { cls:=cd,dict:=dd,data := .dict es ep,slots:=sl } u)) (hy:∀ i H h,HOk P w H h->G H -> ∀ e,es[i]? = some e -> ∃ x,RelV x e.key/\yl i x H) :
 eJ P w K tg (Itk es.size G yl) [it] it (fun i h=>i<=es.size/\h.get? it=some (Dk.kO a i es.size ep)) where
 mem:=by simp
 obj:=fun i h st b hb=>by
  have e:b=it:=by simpa using hb
  subst e
  exact ⟨_,st.2,fun v z=>by cases z⟩
 keep:=fun i h h' st k=>⟨st.1,k it (by simp) _ st.2⟩
 item:=by
  intro X q hw B hc i pins s σ H E I hf st j
  subst q hw B
  obtain ⟨hi,j⟩:=j
  obtain ⟨u,ha⟩:=L H j
  obtain ⟨f0,f1,f2,F,f4,J⟩:=hf it (by simp)
  obtain ⟨x,rx,yx⟩:=hy i H s.heap I.hok j es[i] (Array.getElem?_eq_getElem hi)
  refine Dk.nx_item (e:=es[i]) st.2 (I.hok a _ ha).1 (Array.getElem?_eq_getElem hi) fun h' st' sb => ?_
  have O:Inv X pins σ H { s with heap:=h' }:=I.turned (t':=s.toks) (fun b o hb e=>(sb.2 b hb).trans e) f0 f1 F f4 J
  exact ⟨_,rfl,kM (s := { s with heap:=h' }) (n := "dict_keyiterator") st' rfl rfl (by decide) ⟨x,H,O,rx,⟨rfl,yx⟩,⟨hi,st'⟩,fun b hb=>(hf b hb).1⟩⟩
 done:=by
  intro X q hw B hc i pins s σ H E I hf st j
  subst q hw B
  obtain ⟨hi,j⟩:=j
  obtain ⟨u,ha⟩:=L H j
  obtain ⟨f0,f1,f2,F,f4,J⟩:=hf it (by simp)
  have e:i=es.size:=by have:=st.1;lia
  subst e
  exact Dk.nx_end (I.ok.hd hc) st.2 (I.hok a _ ha).1 fun h' k=>⟨rfl,I.turned (t':=s.toks) (fun b o hb e=>k b o hb e) f0 f1 F f4 J⟩
 self:=fun A i s Q E st h=>wpAny_pyIter_keyiter ⟨_,st.2,rfl,rfl⟩ h
namespace Mi
section
variable {X:Cx}
noncomputable def qL (i:Nat) (t:TSd):TSd:=fun A ρ M => ∃ a kvs, ρ[i]? = some (some (.ref a))/\((M a=some (.dct true kvs)/\t A ρ (ag M a (.fdc kvs)))∨(M a=some (.fdc kvs)/\t A ρ M))
theorem w9 {i:Nat} {t:TSd} (h:aC t):aC (qL i t):=fun a b ρ M l ⟨p,kvs,e,q⟩=>⟨p,kvs,e,q.imp (fun q=>⟨q.1,h _ _ _ _ l q.2⟩) fun q=>⟨q.1,h _ _ _ _ l q.2⟩⟩
theorem B7 {st:Stmt} {i:Nat} {t:TSd} (h:PS X st (lS X.K t)):PS X st (lS X.K (qL i t)):=by
 intro pins s σ H D I ⟨ρ,M,A,rs,rm,lk,a,kvs,e,q⟩
 rcases q with ⟨m,q⟩ | ⟨m,q⟩
 ·obtain ⟨ps,hp,pr⟩:=rm a _ m
  obtain ⟨o,I'⟩:=I.freeze hp
  have sb:Stab H (upd H a (.frz o (.dT ps))):=rm.stabPut m
  exact h pins s σ _ D I' ⟨ρ,ag M a (.fdc kvs),A,rs.mono sb,rm.put m ⟨o,ps,aw,Paired.mapP pr fun _ _ z=>⟨z.1,z.2.mono sb⟩⟩,lk.ext (Ext.put m),q⟩
 ·exact h pins s σ H D I ⟨ρ,M,A,rs,rm,lk,q⟩
noncomputable def iU (ta:TEd):TId:=fun ρ M R=>ta ρ M fun x M1 => ∃ a kvs,x = .ref a/\M1 a=some (.fdc kvs)/\R (kvs.map (·.1)) (fun _=>True) M1
theorem tS {ta:TEd} (h:aa ta):bW (iU ta):=fun ρ M Q Q' i q=>h _ _ _ _ (fun x n ⟨a,ds,e,e1,j⟩=>⟨a,ds,e,e1,i _ _ _ j⟩) q
theorem oS {K:Frag} {H:Hp}:∀ {kvs:List (D×D)} {es:List DictEntry},Paired (jC K H) kvs es -> ∀ (i:Nat) (e:DictEntry),es[i]? = some e -> ∃ (kv:D×D) (v:V),kvs[i]? = some kv/\RD K H kv.1 v/\RelV v e.key
 | _,_, .nil,_,_,h=>by simp at h
 | _,_, .cons r t,0,_,h=>by
   simp at h;subst h
   obtain ⟨kV,vV,g1,g2,_,_⟩:=r
   exact ⟨_,kV,rfl,g1,g2⟩
 | _,_, .cons _ t,i+1,e,h=>by
   obtain ⟨kv,v,h1,h2⟩:=oS t i e (by simpa using h)
   exact ⟨kv,v,by simpa using h1,h2⟩
theorem zg {tg e:Expr} {ta:TEd} (m:aa ta) (he:PE X e (lE X.K ta)):PI X tg e (lI X.K (iU ta)):=by
 intro pins s σ H R I h
 obtain ⟨ρ,M,rs,rm,q⟩:=h
 have hq:lE X.K ta σ H (fun v H1 => ∃ a kvs n,v = .ref a/\Ext M H n H1/\RM X.K n H1/\n a=some (.fdc kvs) /\ ∀ J,eS X.K H1 (kvs.map (·.1)) (fun _=>True) J->R J H1) :=
  ⟨ρ,M,rs,rm,m _ _ _ _ (fun x n ⟨a,kvs,e,e1,L⟩ v H1 O j rd1=>by
    subst e
    cases RD.ref_iff.mp rd1
    exact ⟨a,kvs,n,rfl,O,j,e1,fun J ij=>L J H1 O j ij⟩) q⟩
 refine thn (he pins s σ H _ I hq) fun u s1 ⟨x,H1,B,r1,a,kvs,n,e0,O,j,e1,L⟩ => ?_
 subst e0
 cases r1
 obtain ⟨o,ps,hp,pr⟩:=j _ _ e1
 obtain ⟨S,ok⟩:=B.hok a _ hp
 obtain ⟨cd,dd,sl,es,ep,g1,g2,g3⟩:=mQ ok pr
 obtain ⟨ty,_,U⟩:=ie B (.inr ⟨ps, .inr ⟨o,hp⟩⟩)
 rw [S] at g1
 cases g1
 have Y:cd = .type "dict" := by
  obtain ⟨o,h1,h2⟩:=ty
  rw [S] at h1;cases h1;exact h2
 subst Y
 have lz:kvs.length=es.size:=by have:=aX g3;simpa using this
 refine Dk.it_dict U S ?_
 refine ⟨s1.heap.objs.size,[s1.heap.objs.size],_,_,H1,rfl,B.kept (t':=s1.toks) fun b o e=>Heap.get?_push_of_some _ e,tR (G:=fun H=>H a=some (.frz { cls := .type "dict",dict:=dd,data := .dict es ep,slots:=sl } (.dT ps))/\Paired (fun (p:D×D) (q:List Key×V)=>RKeys p.1 q.1/\RD X.K H p.2 q.2) kvs ps) (yl:=fun i x H => ∃ kv,kvs[i]? = some kv/\RD X.K H kv.1 x) a _ (fun H h=>⟨_,h.1⟩) (fun i H h hok ⟨ha,pr'⟩ e he => ?_),⟨Nat.zero_le _,Heap.get?_push_size _ rfl⟩,fun b hb => ?_,L _ ?_⟩
 ·obtain ⟨z0,ok'⟩:=hok a _ ha
  obtain ⟨cd,dd,sl',es',ep',z1,_,z3⟩:=mQ ok' pr'
  rw [z0] at z1
  cases z1
  obtain ⟨kv,v,Z,y2,y3⟩:=oS z3 i e (by simpa using he)
  exact ⟨v,y3,kv,Z,y2⟩
 ·have e:b=s1.heap.objs.size:=by simpa using hb
  subst e
  exact B.fpOk (Nat.le_refl _) (B.hok.fresh (Nat.le_refl _))
 ·intro M' H' st rm' _ i
  have F:=st.frz _ _ _ hp
  have pr':Paired (fun (p:D×D) (q:List Key×V)=>RKeys p.1 q.1/\RD X.K H' p.2 q.2) kvs ps:=Paired.mapP pr fun _ _ z=>⟨z.1,z.2.mono st⟩
  rw [List.length_map,lz]
  refine ⟨fun hi=>⟨hi,F,pr'⟩,fun hi=>⟨⟨hi,F,pr'⟩,fun x H'' y => ?_⟩⟩
  obtain ⟨e,kv,Z,y2⟩:=y
  subst e
  exact ⟨.inl rfl,kv.1,by rw [List.getElem?_map,Z];rfl,y2⟩
end
end Mi
end
section
section
variable {prog:Program} {w:World} {K:Type} [DecidableEq K] {knd:HeapKind prog w K} {A:Around} {E:Value->Shared->Prop} {s:Shared}
noncomputable def cV (ev:Value->Value->Bool) (xb:List (K×Addr×Value)) (x:K×Addr×Value):Bool:=match atKey xb x.1 with
 | some p=>ev x.2.2 p.2
 | none=>false
theorem B8 {nm:String} {a b:Addr} {xa xb:List (K×Addr×Value)} {ev:Value->Value->Bool} {Q:Bool->Shared->Prop} (hu:knd.room A) (ha:(a==sysModules)=false) (hb:(b==sysModules)=false)
 (da:s.heap.DictOfH knd a xa) (db:s.heap.DictOfH knd b xb) (D8:∀ x∈xa, ∀ y∈xb,SeqAt.EqAt A s x.2.2 y.2.2 (ev x.2.2 y.2.2)) (h:Q (xa.length==xb.length&&xa.all (cV ev xb)) s) :
 wpAny (model prog w) A (Builtin.Dict.samePairs nm a b) Q E s:=by
 obtain ⟨oa,es,ep,B,_,F,Y,D9,Df⟩:=da
 obtain ⟨ob,es',ep',I,_,J,L,Da,Z⟩:=db
 have O:xa.length=es.size:=(size_of_entries Y).symm
 have Db:xb.length=es'.size:=(size_of_entries L).symm
 rw [O,Db] at h
 unfold Builtin.Dict.samePairs Builtin.Dict.showsAll
 rw [if_neg (show ¬ (a==sysModules)=true by rw [ha];exact Bool.false_ne_true),if_neg (show ¬ (b==sysModules)=true by rw [hb];exact Bool.false_ne_true)]
 refine wpAny_bind (wpAny_pure (wpAny_bind (wpAny_pure ?_)))
 refine wpAny_bind (wpAny_dictEntries B F ?_)
 dsimp only
 refine wpAny_bind (wpAny_dictEntries I J ?_)
 by_cases hsz:es.size=es'.size
 case neg =>
  rw [if_pos (by simpa using hsz)]
  have Dc:(es.size==es'.size)=false:=by simpa using hsz
  rw [Dc,Bool.false_and] at h
  exact wpAny_bind (wpAny_rule (wpAny_pure h))
 case pos =>
  have h':Q (xa.all (cV ev xb)) s:=by simpa [hsz] using h
  rw [if_neg (by rw [hsz];simp)]
  refine wpAny_bind (wpAny_dictEpoch B F ?_)
  refine wpAny_bind ?_
  rw [Std.Legacy.Range.forIn_eq_forIn_range']
  simp only [Std.Legacy.Range.size,Nat.sub_zero,Nat.add_sub_cancel,Nat.div_one]
  refine wpAny_forIn_list _
   (fun rest q s'=>s'=s/\q=(none,()) /\ ∃ i,rest=List.range' i (es.size - i)/\i<=es.size/\xa.all (cV ev xb)=(xa.drop i).all (cV ev xb))
   _ ?_ ?_ _ _ ⟨rfl,rfl,0,by simp,Nat.zero_le _,by simp⟩
  ·rintro x rest q s' ⟨rfl,rfl,i,R,hi,n⟩
   have D7:i < es.size:=by
    rcases Nat.lt_or_ge i es.size with h | h
    ·exact h
    ·rw [Nat.sub_eq_zero_of_le h] at R;simp at R
   obtain ⟨rfl,S⟩:x=i/\rest=List.range' (i+1) (es.size - (i+1)):=by
    have e:es.size - i=(es.size - (i+1))+1:=by lia
    rw [e,List.range'_succ] at R
    injection R with h1 h2
    exact ⟨h1,h2⟩
   have z:x < xa.length:=by rw [O];exact D7
   refine wpAny_bind (wpAny_dictEntries B F ?_)
   rw [entry_at Y x,List.getElem?_eq_getElem z]
   have U:xa.drop x=xa[x]::xa.drop (x+1):=List.drop_eq_getElem_cons z
   have G:xa[x]∈xa:=List.getElem_mem z
   rw [U,List.all_cons] at n
   show wpAny _ _ (holding [_,_] _ >>= _) _ _ _
   refine wpAny_bind (wpAny_holding (wpAny_bind (wpAny_dictFind_heap (k:=xa[x].1) (a:=xa[x].2.1) hu (D9 _ G) I J L Da Z (fun Dd => ?_) (fun j p hj => ?_))))
   ·have hn:cV ev xb xa[x]=false:=by unfold cV;rw [atKey_none_of_get Dd]
    rw [n,hn,Bool.false_and] at h'
    refine wpAny_pure ?_
    show wpAny _ _ (if (!false)=true then _ else _) _ _ _
    rw [if_pos (by decide)]
    exact wpAny_pure (wpAny_pure h')
   ·have hn:cV ev xb xa[x]=ev xa[x].2.2 p.2:=by unfold cV;rw [atKey_of_get Z hj]
    refine wpAny_bind (wpAny_dictEntries I J ?_)
    rw [entry_at L j,hj]
    refine wpAny_holding (D8 _ G _ (List.mem_of_getElem? hj) prog w _ _ ?_)
    show wpAny _ _ (if (!(ev xa[x].2.2 p.2))=true then _ else _) _ _ _
    rw [hn] at n
    cases e:ev xa[x].2.2 p.2 with
    | false =>
      rw [e,Bool.false_and] at n
      rw [n] at h'
      rw [if_pos (by decide)]
      exact wpAny_pure (wpAny_pure h')
    | true =>
      rw [e,Bool.true_and] at n
      rw [if_neg (by decide)]
      refine wpAny_bind (wpAny_dictEpoch B F ?_)
      rw [if_neg (by simp)]
      exact wpAny_pure ⟨rfl,rfl,x+1,S,D7,n⟩
  ·rintro q s' ⟨rfl,rfl,i,R,hi,n⟩
   have De:i=es.size:=by
    rcases Nat.lt_or_ge i es.size with h | h
    ·have e:es.size - i=(es.size - (i+1))+1:=by lia
     rw [e,List.range'_succ] at R;exact nomatch R
    ·exact Nat.le_antisymm hi h
   refine wpAny_pure ?_
   rw [De, <- O,List.drop_length] at n
   rw [n] at h'
   exact h'
theorem Ci {a b:Addr} {xa xb:List (K×Addr×Value)} {ev:Value->Value->Bool} {Q:Value->Shared->Prop} (n:A.units < cLine) (q:knd.room A.in1) (ha:(a==sysModules)=false) (hb:(b==sysModules)=false)
 (da:s.heap.DictOfH knd a xa) (db:s.heap.DictOfH knd b xb) (j:∀ x∈xa, ∀ y∈xb,SeqAt.EqAt A.in1 s x.2.2 y.2.2 (ev x.2.2 y.2.2)) (h:Q (.bool (!(xa.length==xb.length&&xa.all (cV ev xb)))) s) :
 wpAny (model prog w) A (compareOp .NotEq (.ref a) (.ref b)) Q E s:=by
 refine wpAny_richCompare_same_room (op := .NotEq) da.typeIs db.typeIs PySem.F.slot_dict_ne (wpAny_call_entry PySem.F.slot_dict_ne da.typeIs PySem.F.entry_dict_ne ?_ (PySem.F.args_dict_ne_2 _ _)) n
 show wpAny _ _ (Builtin.Dict.dictSlotArgs "__ne__" ⟨[.ref a, .ref b],[]⟩ >>= _) _ _ s
 refine wpAny_bind ?_
 unfold Builtin.Dict.dictSlotArgs
 refine wpAny_bind (wpAny_notOrdered_dict da.typeIs ?_)
 show wpAny _ _ (pure (Value.ref a,Value.ref b)) _ _ s
 refine wpAny_pure ?_
 refine wpAny_bind (wpAny_isInstance (T := "dict") db.typeIs PySem.F.sub_dict_dict ?_)
 simp only [Bool.not_true,Bool.false_eq_true,if_false]
 refine wpAny_bind (wpAny_pure (wpAny_bind (wpAny_pure ?_)))
 refine wpAny_bind (B8 q ha hb da db j ?_)
 refine wpAny_pure ⟨_,rfl, ?_, ?_⟩
 ·exact fun x=>nomatch x
 ·simpa using h
end
namespace Mi
section
variable {X:Cx}
noncomputable def dI (M:Mem) (a:Addr) (kvs:List (D×D)):Prop:=(M a=some (.dct true kvs)∨M a=some (.fdc kvs)) /\ ∀ kv∈kvs, ∃ i,kv.2 = .int i
noncomputable def eqD (ps qs:List (D×D)):Bool:=ps.length==qs.length&&ps.all fun kv=>decide (dget qs kv.1=some kv.2)
noncomputable def qM:R2d:=fun x y M Q => ∃ a b ps qs,x = .ref a/\y = .ref b/\dI M a ps/\dI M b qs/\Q (.bl (!eqD ps qs)) M
theorem wa:aI qM:=fun _ _ _ _ _ h ⟨a,b,ps,qs,e1,e2,j,n,q⟩=>⟨a,b,ps,qs,e1,e2,j,n,h _ _ q⟩
noncomputable def evI:Value->Value->Bool
 | .int i _, .int j _=>i==j
 | _,_=>false
theorem dI.at {K:Frag} {M:Mem} {H:Hp} {a:Addr} {kvs:List (D×D)} (rm:RM K M H) (h:dI M a kvs):∃ ps,Rd H a (.dT ps)/\Paired (fun (p:D×D) (q:List Key×V)=>RKeys p.1 q.1/\RD K H p.2 q.2) kvs ps:=by
 rcases h.1 with e | e
 ·obtain ⟨ps,hp,pr⟩:=rm a _ e;exact ⟨ps, .inl hp,pr⟩
 ·obtain ⟨o,ps,hp,pr⟩:=rm a _ e;exact ⟨ps, .inr ⟨o,hp⟩,pr⟩
theorem mZ {K:Frag} {H:Hp} {kvs:List (D×D)} {ps:List (List Key×V)} {xs:List (List Key×Addr×Value)} (pr:Paired (fun (p:D×D) (q:List Key×V)=>RKeys p.1 q.1/\RD K H p.2 q.2) kvs ps) (kt:KT H ps xs) (hi:∀ kv∈kvs, ∃ i,kv.2 = .int i):∀ x∈xs, ∃ i t,x.2.2 = .int i t:=by
 induction pr generalizing xs with
 | nil=>cases kt;intro x hx;exact nomatch hx
 | @cons p q ps qs h t ih =>
  cases kt with
  | cons g gt =>
    intro x hx
    rcases List.mem_cons.mp hx with e | hx
    ·subst e
     obtain ⟨i,ei⟩:=hi p (by simp)
     have:=h.2
     rw [ei] at this
     have z:=g.2.2
     rw [RD.int_iff.mp this] at z
     obtain ⟨t,n⟩:=z
     exact ⟨i,t,n⟩
    ·exact ih gt (fun kv j=>hi kv (by simp [j])) x hx
theorem B9 {K:Frag} {H:Hp} {kvs:List (D×D)} {ps:List (List Key×V)} {xs:List (List Key×Addr×Value)} (pr:Paired (fun (p:D×D) (q:List Key×V)=>RKeys p.1 q.1/\RD K H p.2 q.2) kvs ps) (kt:KT H ps xs) (hi:∀ kv∈kvs, ∃ i,kv.2 = .int i)
 {k:D} {q:List Key} (F:RKeys k q) (i:Int) (t:Tok) (b:Addr):cV evI xs (q,b, .int i t)=decide (dget kvs k=some (.int i)):=by
 obtain ⟨g1,g2⟩:=eO (RK:=RKeys) RKeys.inj RKeys.fun F pr
 have n:=KT.val kt q
 unfold cV
 dsimp only
 cases e:dget kvs k with
 | none =>
   rw [g2 e] at n
   cases z:atKey xs q with
   | none=>simp
   | some p=>rw [z] at n;exact n.elim
 | some d =>
   obtain ⟨v,e1,e2⟩:=g1 d e
   rw [e1] at n
   cases z:atKey xs q with
   | none=>rw [z] at n;exact n.elim
   | some p =>
     rw [z] at n
     obtain ⟨j,ej⟩:∃ j,d = .int j:=by
      unfold dget at e
      obtain ⟨kv,h1,h2⟩:=Option.map_eq_some_iff.mp e
      obtain ⟨j,G⟩:=hi kv (List.mem_of_find?_eq_some h1)
      exact ⟨j,by rw [<- h2];exact G⟩
     subst ej
     cases RD.int_iff.mp e2
     obtain ⟨t',I⟩:∃ t',p.2 = .int j t':=n
     dsimp only
     rw [I]
     show (i==j)=decide (some (D.int j)=some (D.int i))
     by_cases hij:i=j
     ·subst hij;simp
     ·have B : ¬ j=i:=fun z=>hij z.symm
      simp [hij,B]
theorem Ba {K:Frag} {H:Hp} {kvs ls:List (D×D)} {ps us:List (List Key×V)} {xs ys:List (List Key×Addr×Value)} (pr:Paired (fun (p:D×D) (q:List Key×V)=>RKeys p.1 q.1/\RD K H p.2 q.2) kvs ps) (kt:KT H ps xs) (hi:∀ kv∈kvs, ∃ i,kv.2 = .int i)
 (pr':Paired (fun (p:D×D) (q:List Key×V)=>RKeys p.1 q.1/\RD K H p.2 q.2) ls us) (kt':KT H us ys) (j:∀ kv∈ls, ∃ i,kv.2 = .int i) :
 (xs.length==ys.length&&xs.all (cV evI ys))=eqD kvs ls:=by
 have l1:xs.length=kvs.length:=by rw [aX pr,aX kt]
 have l2:ys.length=ls.length:=by rw [aX pr',aX kt']
 unfold eqD
 rw [l1,l2]
 congr 1
 clear l1 l2
 induction pr generalizing xs with
 | nil=>cases kt;rfl
 | @cons p q ps qs h t ih =>
  cases kt with
  | @cons _ x _ xs g gt =>
   rw [List.all_cons,List.all_cons,ih gt (fun kv n=>hi kv (by simp [n]))]
   congr 1
   obtain ⟨i,ei⟩:=hi p (by simp)
   have:=h.2
   rw [ei] at this
   have z:=g.2.2
   rw [RD.int_iff.mp this] at z
   obtain ⟨t,B⟩:∃ t',x.2.2 = .int i t':=z
   obtain ⟨G,F,I⟩:=x
   dsimp only at B g
   subst B
   rw [ei, <- g.1]
   exact B9 pr' kt' j h.1 i t F
theorem wb {pins:List (Addr×Obj)} {σ:St} {H:Hp} {s:Shared} {M:Mem} {A:Around} {E:Value->Shared->Prop} {Q:Value->Shared->Prop} {ps qs:List (D×D)} {a b:Addr} (q:A.units+2 < cLine) (I:Inv X pins σ H s) (rm:RM X.K M H) (h1:dI M a ps) (h2:dI M b qs) (h:Q (.bool (!eqD ps qs)) s):wpAny (model X.prog X.w) A (compareOp .NotEq (.ref a) (.ref b)) Q E s:=by
 obtain ⟨us,hp,pr⟩:=h1.at rm
 obtain ⟨vs,n,pr'⟩:=h2.at rm
 obtain ⟨_,sm,xs,kt,dd⟩:=fS I.hok hp
 obtain ⟨_,sm',ys,kt',dd'⟩:=fS I.hok n
 have i1:=mZ pr kt h1.2
 have i2:=mZ pr' kt' h2.2
 refine Ci (ev:=evI) (by lia) (tupleKind_room_in1 (by lia)) sm sm' dd dd' (fun x hx y hy => ?_) (by rw [Ba pr kt h1.2 pr' kt' h2.2];exact h)
 obtain ⟨i,t,e⟩:=i1 x hx
 obtain ⟨j,u,e'⟩:=i2 y hy
 rw [e,e']
 exact SeqAt.EqAt.int_int i t j u
theorem wc (j:X.A.units+2 < cLine):OpR X (compareOp .NotEq) (l2 X.K qM):=by
 intro pins s σ H x y v u Q I rx ry h
 obtain ⟨x',y',M,rm,rdx,rdy,a,b,ps,qs,rfl,rfl,h1,h2,q⟩:=h
 cases RD.ref_iff.mp rdx
 cases RD.ref_iff.mp rdy
 cases rx
 cases ry
 exact wb j I rm h1 h2 ⟨.bl (!eqD ps qs),H,I,rfl,q _ H Ext.refl rm (RD.bl_iff.mpr rfl)⟩
end
end Mi
end
section
section
variable {X:Cx}
noncomputable def oT:V->List V->Hp->VK->Prop:=fun x vs H Q => ∃ (l:Addr) (xs:List V) (i:Int) (y:V),x = .ref l/\vs=[.int i,y]/\H l=some (.lst xs)/\0<=i/\i.toNat<=xs.length/\xs.length < sizeLine/\Q .non (upd H l (.lst (xs.take i.toNat++y::xs.drop i.toNat)))
theorem Vals.take':∀ {xs:List V} {us:List Value} (n:Nat),Vals xs us->Vals (xs.take n) (us.take n)
 | _,_,0,_=>by simp only [List.take_zero];exact .nil
 | _,_,_+1, .nil => .nil
 | _,_,n+1, .cons r t => .cons r (Vals.take' n t)
theorem Vals.drop':∀ {xs:List V} {us:List Value} (n:Nat),Vals xs us->Vals (xs.drop n) (us.drop n)
 | _,_,0,r=>r
 | _,_,_+1, .nil => .nil
 | _,_,n+1, .cons _ t=>Vals.drop' n t
theorem tT:MtM X "list.insert" oT:=by
 intro pins s σ H x vs v us Q I rx rv h
 obtain ⟨l,xs,i,y,rfl,rfl,G,h0,J,hz,q⟩:=h
 cases rx
 obtain ⟨u,j,rfl,ru,B⟩:=kP rv
 obtain ⟨t,rfl⟩:=ru
 obtain ⟨z,its,n,r,L,e⟩:=I.lstM G
 have hf : ¬(!Builtin.List.listFitsIndex i)=true:=by
  have:Builtin.List.listFitsIndex i=true:=by
   unfold Builtin.List.listFitsIndex
   rw [sizeLine_eq] at hz
   rw [Bool.and_eq_true]
   exact ⟨decide_eq_true (by lia),decide_eq_true (by lia)⟩
  rw [this];decide
 have hs:its.toArray.size<=sizeLine:=by rw [List.size_toArray];lia
 have mt:=PySem.AutoSeq1.list_insert_list_int_val_1 l its.toArray n i t j hf hs
 refine call_meets PySem.F.slot_list_insert ⟨_,e,rfl⟩ PySem.F.entry_list_insert (PySem.F.args_list_insert_3 _ _ _) mt ⟨e, ?_⟩
 refine ⟨.non,_,I.lset (its':=its.take i.toNat++j::its.drop i.toNat) G e ?_ ((Vals.take' i.toNat r).append (.cons B (Vals.drop' i.toNat r))) ?_,rfl,q⟩
 ·have hm:(if i < 0 then (i+(its.toArray.size:Int)).toNat else min i.toNat its.toArray.size)=i.toNat:=by
   rw [if_neg (by lia),List.size_toArray];lia
  show (its.toArray.extract 0 (if i < 0 then (i+(its.toArray.size:Int)).toNat else min i.toNat its.toArray.size)).push j++its.toArray.extract (if i < 0 then (i+(its.toArray.size:Int)).toNat else min i.toNat its.toArray.size)=_
  rw [hm]
  apply Array.ext'
  simp only [List.extract_toArray,List.push_toArray,List.append_toArray]
  simp [List.take_of_length_le]
 ·rw [List.length_append,List.length_cons,List.length_take,List.length_drop];lia
end
namespace Mi
noncomputable def jD:D->List D->Mem->QD->Prop:=fun x ds M Q => ∃ (a:Addr) (xs:List D) (i:Int) (y:D),x = .ref a/\ds=[.int i,y]/\M a=some (.lst xs)/\0<=i/\i.toNat<=xs.length/\xs.length < sizeLine/\Q .non (ag M a (.lst (xs.take i.toNat++y::xs.drop i.toNat)))
theorem gA:cK jD:=fun _ _ _ _ _ h ⟨a,xs,k,y,e1,e2,j,n,z,B,q⟩=>⟨a,xs,k,y,e1,e2,j,n,z,B,h _ _ q⟩
theorem wd {K:Frag} (v:V) (vs:List V) (H:Hp) (Q:VK) (h:lMt K jD v vs H Q):oT v vs H Q:=by
 obtain ⟨x,ds,M,rm,rx,rs,a,xs,i,y,rfl,rfl,e,j,z,n,q⟩:=h
 cases RD.ref_iff.mp rx
 obtain ⟨F,w,rfl,B,rw'⟩:=rs.two
 cases RD.int_iff.mp B
 obtain ⟨us,ha,ru⟩:=rm _ _ e
 exact ⟨a,us,i,w,rfl,rfl,ha,j,by rw [ru.length];exact z,by rw [ru.length];exact n,et rm e ((ru.take i.toNat).append (RDs.cons rw' (ru.drop i.toNat))) (RD.non_iff.mpr rfl) q⟩
end Mi
end
end L2
namespace L2
namespace Mi
open PySem PySem.Spec PyProof.Rows
end Mi
end L2
namespace L2
namespace It
open PySem PySem.Spec PyProof.Rows
end It
open PySem PySem.Spec PyProof.Rows
namespace Mi
end Mi
end L2
namespace L2
open PySem PySem.Spec PyProof.Rows
namespace Mi
end Mi
end L2
namespace L2
open PySem PySem.Spec PyProof.Rows
namespace Mi
open L2.Srt
end Mi
end L2
namespace L2
open PySem PySem.Spec PyProof.Rows
end L2
namespace L2
namespace Mi
open PySem PySem.Spec PyProof.Rows
end Mi
end L2
namespace L2
open PySem PySem.Spec PyProof.Rows
namespace Mi
end Mi
end L2
namespace L2
namespace Mi
open PySem PySem.Spec PyProof.Rows
section
mutual
noncomputable def GV (K:Frag):D->Value->Prop
 | .int i,v => ∃ t,v = .int i t
 | .str x,v => ∃ t,v = .str x t
 | .tup ds,v => ∃ a o its n,v = .ref a/\K.lookup a=some o/\o.cls = .type "tuple" /\ o.data = .seq its n/\its.size<=sizeLine/\fk ds=false/\GVs K ds its.toList
 | _,_=>False
noncomputable def GVs (K:Frag):List D->List Value->Prop
 | [],us=>us=[]
 | d::ds,us => ∃ u r,us=u::r/\GV K d u/\GVs K ds r
end
theorem GV.ints {K:Frag} {i:Int} {t}:GV K (.int i) (.int i t):=by unfold GV;exact ⟨t,rfl⟩
theorem GV.tups {K:Frag} {ds:List D} {a:Addr} {od sl} {its:Array Value} {n:Nat} (h:K.lookup a=some ⟨.type "tuple",od, .seq its n,sl⟩) (hz:its.size<=1000) (f:fk ds=false) (r:GVs K ds its.toList):GV K (.tup ds) (.ref a):=by
 unfold GV;exact ⟨a,_,its,n,rfl,h,rfl,rfl,by rw [sizeLine_eq];lia,f,r⟩
theorem GVs.nil {K:Frag}:GVs K [] []:=by unfold GVs;rfl
theorem GVs.cons {K:Frag} {d:D} {ds:List D} {u:Value} {us:List Value} (h:GV K d u) (r:GVs K ds us):GVs K (d::ds) (u::us):=by unfold GVs;exact ⟨u,us,rfl,h,r⟩
mutual
theorem xF {K:Frag}:∀ {d:D} {u:Value},GV K d u -> ∃ v,RelV v u /\ ∀ H,RD K H d v
 | .int i,u,h=>by unfold GV at h;obtain ⟨t,rfl⟩:=h;exact ⟨.int i,⟨t,rfl⟩,fun H=>RD.int_iff.mpr rfl⟩
 | .str i,u,h=>by unfold GV at h;obtain ⟨t,rfl⟩:=h;exact ⟨.str i,⟨t,rfl⟩,fun H=>RD.str_iff.mpr rfl⟩
 | .tup ds,u,h=>by
  unfold GV at h
  obtain ⟨a,o,its,n,rfl,h1,h2,j,q,z,B⟩:=h
  obtain ⟨vs,g1,g2⟩:=gvs_rd B
  exact ⟨.ref a,rfl,fun H=>RD.tup_iff.mpr ⟨a,vs,rfl, .inr ⟨z, .inr ⟨o,its,n,h1,h2,j,q,g1⟩⟩,g2 H⟩⟩
 | .non,u,h=>by unfold GV at h;exact h.elim
 | .bl _,u,h=>by unfold GV at h;exact h.elim
 | .con _,u,h=>by unfold GV at h;exact h.elim
 | .ref _,u,h=>by unfold GV at h;exact h.elim
theorem gvs_rd {K:Frag}:∀ {ds:List D} {us:List Value},GVs K ds us -> ∃ vs,Vals vs us /\ ∀ H,RDs K H ds vs
 | [],us,h=>by unfold GVs at h;subst h;exact ⟨[], .nil,fun H=>RDs.nil⟩
 | d::ds,us,h=>by
   unfold GVs at h
   obtain ⟨u,r,rfl,h1,h2⟩:=h
   obtain ⟨v,g1,g2⟩:=xF h1
   obtain ⟨vs,g3,j⟩:=gvs_rd h2
   exact ⟨v::vs, .cons g1 g3,fun H=>RDs.cons (g2 H) (j H)⟩
end
end
section
inductive BOp where | add | sub | mul | fdiv | mod | pow
inductive COp where | eq | ne | lt | gt | ge | neD
inductive BF where | len | abs | min2 | int | list | tuple | all | dict | sorts
inductive MF where | append | extend
inductive MF0 where | clear | reverse
mutual
inductive MG where
 | name (i:Nat)
 | tup (gs:MGs)
inductive MGs where
 | nil
 | cons (g:MG) (r:MGs)
end
mutual
inductive ME where
 | var (i:Nat)
 | int (i:Int)
 | bl (b:Bool)
 | non
 | bin (op:BOp) (a b:ME)
 | neg (a:ME)
 | cmp (op:COp) (a b:ME)
 | and (es:MEs)
 | or (es:MEs)
 | not (a:ME)
 | ite (c:MT) (a b:ME)
 | tup (es:MEs)
 | lst (es:MEs)
 | ix (a b:ME)
 | sl (a:ME) (lo hi:MO)
 | call (f:Nat) (es:MEs)
 | blt (f:BF) (es:MEs)
 | isin (a:ME) (T:String)
 | isin2 (a:ME) (T U:String)
 | glob (x:Str) (d:D)
 | dnew (t:Bool)
 | dget (o k x:ME)
 | meth (m:MF) (o a:ME)
 | meth0 (m:MF0) (o:ME)
 | ins (o i a:ME)
 | comp (fr:List (Option Nat)) (N:List Str) (c:MC)
inductive MEs where
 | nil
 | cons (e:ME) (r:MEs)
inductive MO where
 | none
 | some (e:ME)
inductive MT where
 | tru (e:ME)
 | cmp (op:COp) (a b:ME)
 | and (ts:MTs)
 | or (ts:MTs)
 | not (t:MT)
inductive MTs where
 | nil
 | cons (t:MT) (r:MTs)
inductive MI where
 | seq (e:ME)
 | rng1 (a:ME)
 | zip (a b:ME)
 | zip3 (a b c:ME)
 | enum (a:ME)
 | keys (a:ME)
inductive MC where
 | last (src:MI) (g:MG) (ifs:MTs) (elt:ME)
 | more (src:MI) (g:MG) (ifs:MTs) (rest:MC)
end
mutual
inductive MS where
 | asg (g:MG) (e:ME)
 | par (i j:Nat) (a b:ME)
 | put (o i e:ME)
 | augI (o i:ME) (op:BOp) (e:ME)
 | drop (e:ME)
 | ret (e:ME)
 | ite (c:MT) (a b:MSs)
 | for (g:MG) (src:MI) (b:MSs)
 | while (c:MT) (b:MSs)
 | frz (i:Nat) (s:MS)
 | pass | brk | cnt
inductive MSs where
 | nil
 | cons (s:MS) (r:MSs)
end
noncomputable def opB:BOp->R2d
 | .add=>gH | .sub=>jo | .mul=>gI | .fdiv=>kS | .mod=>qk | .pow=>ql
noncomputable def opC:COp->R2d
 | .eq=>wEq | .ne=>wNe | .lt=>wLt| .gt=>wGt | .ge=>wGe| .neD=>qM
noncomputable def opF:BF->RAd
 | .len=>eP | .abs=>lN| .min2=>kT | .int=>lP | .list=>qr | .tuple=>lV| .all=>qB| .dict=>qI| .sorts=>mX
noncomputable def opM:MF->D->List D->Mem->QD->Prop
 | .append=>jv | .extend=>jw
noncomputable def qN:MF0->D->List D->Mem->QD->Prop
 | .clear=>m7 | .reverse=>gL
noncomputable def opI:BOp->R2d
 | .add=>kU | .sub=>kW | .mul=>kX | _=>fun _ _ _ _=>False
theorem n0:∀ o,aI (opB o)
 | .add=>vm | .sub=>vp | .mul=>vq | .fdiv=>sD | .mod=>vt | .pow=>vw
theorem eX:∀ o,aI (opC o)
 | .eq=>yo | .ne=>yp | .lt=>yt| .gt=>yu | .ge=>yv| .neD=>wa
theorem we:∀ o,aY (opF o)
 | .len=>lM | .abs=>lQ| .min2=>jZ | .int=>lU | .list=>ka | .tuple=>ir| .all=>mD| .dict=>kz| .sorts=>iT
theorem wf:∀ o,cK (opM o)
 | .append=>gv | .extend=>gw
theorem tU:∀ o,cK (qN o)
 | .clear=>iC | .reverse=>fw
theorem wg:∀ o,aI (opI o)
 | .add=>ki | .sub=>kj | .mul=>km
 | .fdiv=>fun _ _ _ _ _ _ q=>q.elim | .mod=>fun _ _ _ _ _ _ q=>q.elim | .pow=>fun _ _ _ _ _ _ q=>q.elim
noncomputable abbrev Phi:=Nat->RAd
mutual
noncomputable def bG:MG->BT
 | .name i=>bm i
 | .tup gs=>jx (bGs gs)
noncomputable def bGs:MGs->BTs
 | .nil=>eR
 | .cons g r=>bE (bG g) (bGs r)
end
mutual
noncomputable def wE (Φ:Phi):ME->TEd
 | .var i=>bS i
 | .int i=>wC (.int i)
 | .bl b=>wC (.bl b)
 | .non=>wC .non
 | .bin op a b=>wOp (opB op) (wE Φ a) (wE Φ b)
 | .neg a=>wUn qm (wE Φ a)
 | .cmp op a b=>wOp (opC op) (wE Φ a) (wE Φ b)
 | .and es=>wAnds Φ es
 | .or es=>wOrs Φ es
 | .not a=>iz (wE Φ a)
 | .ite c a b=>wIf (wT Φ c) (wE Φ a) (wE Φ b)
 | .tup es=>wAr lH (wA Φ es)
 | .lst es=>wAr lJ (wA Φ es)
 | .ix a b=>wOp wIx (wE Φ a) (wE Φ b)
 | .sl a lo hi=>wSl (wE Φ a) (wO Φ lo) (wO Φ hi)
 | .call f es=>wAr (Φ f) (wA Φ es)
 | .blt f es=>wAr (opF f) (wA Φ es)
 | .isin a T=>iB T (wE Φ a)
 | .isin2 a T U=>fE T U (wE Φ a)
 | .glob _ d=>wC d
 | .dnew t=>iK t
 | .dget o k x=>iP (wE Φ o) (wE Φ k) (wE Φ x)
 | .meth m o a=>wBM (opM m) (wE Φ o) (az (wE Φ a) bn)
 | .meth0 m o=>wBM (qN m) (wE Φ o) bn
 | .ins o i a=>wBM jD (wE Φ o) (az (wE Φ i) (az (wE Φ a) bn))
 | .comp fr _ c=>wCmp Φ fr c
noncomputable def wA (Φ:Phi):MEs->TAd
 | .nil=>bn
 | .cons e r=>az (wE Φ e) (wA Φ r)
noncomputable def wAnds (Φ:Phi):MEs->TEd
 | .nil=>fun _ _ _=>False
 | .cons e .nil=>wE Φ e
 | .cons e (.cons f r)=>iy (wE Φ e) (wAnds Φ (.cons f r))
noncomputable def wOrs (Φ:Phi):MEs->TEd
 | .nil=>fun _ _ _=>False
 | .cons e .nil=>wE Φ e
 | .cons e (.cons f r)=>lZ (wE Φ e) (wOrs Φ (.cons f r))
noncomputable def wO (Φ:Phi):MO->TOd
 | .none=>eh
 | .some e=>iA (wE Φ e)
noncomputable def wT (Φ:Phi):MT->TTd
 | .tru e=>lX (wE Φ e)
 | .cmp op a b=>gF (wOp (opC op) (wE Φ a) (wE Φ b))
 | .and ts=>wAndTs Φ ts
 | .or ts=>wOrTs Φ ts
 | .not t=>iu (wT Φ t)
noncomputable def wAndTs (Φ:Phi):MTs->TTd
 | .nil=>fun _ _ _=>False
 | .cons e .nil=>wT Φ e
 | .cons e (.cons f r)=>iw (wT Φ e) (wAndTs Φ (.cons f r))
noncomputable def wOrTs (Φ:Phi):MTs->TTd
 | .nil=>fun _ _ _=>False
 | .cons e .nil=>wT Φ e
 | .cons e (.cons f r)=>lY (wT Φ e) (wOrTs Φ (.cons f r))
noncomputable def wTl (Φ:Phi):MTs->List TTd
 | .nil => []
 | .cons t r=>wT Φ t::wTl Φ r
noncomputable def wI (Φ:Phi):MI->TId
 | .seq e=>jy (wE Φ e)
 | .rng1 a=>iD (az (wE Φ a) bn)
 | .zip a b=>m8 (wE Φ a) (wE Φ b)
 | .zip3 a b c=>iE (wE Φ a) (wE Φ b) (wE Φ c)
 | .enum a=>iF (wE Φ a)
 | .keys a=>iU (wE Φ a)
noncomputable def wCl (Φ:Phi):MC->TCd
 | .last src g ifs elt=>cC (wI Φ src) (bG g) (bq (wTl Φ ifs) (ce (wE Φ elt)))
 | .more src g ifs rest=>cC (wI Φ src) (bG g) (bq (wTl Φ ifs) (wCl Φ rest))
noncomputable def wCmp (Φ:Phi) (fr:List (Option Nat)):MC->TEd
 | .last src g ifs elt=>fX fr (wI Φ src) (bG g) (bq (wTl Φ ifs) (ce (wE Φ elt)))
 | .more src g ifs rest=>fX fr (wI Φ src) (bG g) (bq (wTl Φ ifs) (wCl Φ rest))
end
mutual
noncomputable def wS (Φ:Phi):MS->TSd
 | .asg g e=>gO (wE Φ e) (bG g)
 | .par i j a b=>mj (az (wE Φ a) (az (wE Φ b) bn)) (bE (bm i) (bE (bm j) eR))
 | .put o i e=>mq (wE Φ e) (wE Φ o) (wE Φ i)
 | .augI o i op e=>iJ (wE Φ o) (wE Φ i) (wE Φ e) (opI op)
 | .drop e=>iI (wE Φ e)
 | .ret e=>mf (wE Φ e)
 | .ite c a b=>sIf (wT Φ c) (wSs Φ a) (wSs Φ b)
 | .for g src b=>mn (wI Φ src) (bG g) (wSs Φ b)
 | .while c b=>fB (wT Φ c) (wSs Φ b)
 | .frz i s=>qL i (wS Φ s)
 | .pass=>fY
 | .brk=>fA
 | .cnt=>iH
noncomputable def wSs (Φ:Phi):MSs->TSd
 | .nil=>fY
 | .cons s r=>md (wS Φ s) (wSs Φ r)
end
section
variable {Φ:Phi} (hΦ:∀ f,aY (Φ f))
include hΦ
mutual
theorem mE:∀ m,aa (wE Φ m)
 | .var _=>vh
 | .int _=>ip
 | .bl _=>ip
 | .non=>ip
 | .bin op a b=>dZ (n0 op) (mE a) (mE b)
 | .neg a=>yk lL (mE a)
 | .cmp op a b=>dZ (eX op) (mE a) (mE b)
 | .and es=>mAnds es
 | .or es=>mOrs es
 | .not a=>sN (mE a)
 | .ite c a b=>yD (mT c) (mE a) (mE b)
 | .tup es=>fU sy (mA es)
 | .lst es=>fU sB (mA es)
 | .ix a b=>dZ oE (mE a) (mE b)
 | .sl a lo hi=>yG (mE a) (mO lo) (mO hi)
 | .call f es=>fU (hΦ f) (mA es)
 | .blt f es=>fU (we f) (mA es)
 | .isin a T=>sR (mE a)
 | .isin2 a T U=>qK (mE a)
 | .glob _ _=>ip
 | .dnew _=>tF
 | .dget o k x=>tO (mE o) (mE k) (mE x)
 | .meth m o a=>jt (wf m) (mE o) (al (mE a) am)
 | .meth0 m o=>jt (tU m) (mE o) am
 | .ins o i a=>jt gA (mE o) (al (mE i) (al (mE a) am))
 | .comp fr _ c=>mCmp fr c
theorem mA:∀ m,bj (wA Φ m)
 | .nil=>am
 | .cons e r=>al (mE e) (mA r)
theorem mAnds:∀ m,aa (wAnds Φ m)
 | .nil=>fun _ _ _ _ _ q=>q.elim
 | .cons e .nil=>mE e
 | .cons e (.cons f r)=>sM (mE e) (mAnds (.cons f r))
theorem mOrs:∀ m,aa (wOrs Φ m)
 | .nil=>fun _ _ _ _ _ q=>q.elim
 | .cons e .nil=>mE e
 | .cons e (.cons f r)=>vH (mE e) (mOrs (.cons f r))
theorem mO:∀ m,eQ (wO Φ m)
 | .none=>oh
 | .some e=>sQ (mE e)
theorem mT:∀ m,aB (wT Φ m)
 | .tru e=>vF (mE e)
 | .cmp op a b=>vj (dZ (eX op) (mE a) (mE b))
 | .and ts=>mAndTs ts
 | .or ts=>mOrTs ts
 | .not t=>sK (mT t)
theorem mAndTs:∀ m,aB (wAndTs Φ m)
 | .nil=>fun _ _ _ _ _ q=>q.elim
 | .cons e .nil=>mT e
 | .cons e (.cons f r)=>sL (mT e) (mAndTs (.cons f r))
theorem mOrTs:∀ m,aB (wOrTs Φ m)
 | .nil=>fun _ _ _ _ _ q=>q.elim
 | .cons e .nil=>mT e
 | .cons e (.cons f r)=>vG (mT e) (mOrTs (.cons f r))
theorem mTl:∀ m, ∀ t∈wTl Φ m,aB t
 | .nil=>by rw [wTl];intro t j;simp at j
 | .cons t r=>by
  rw [wTl];intro t' j
  rcases List.mem_cons.mp j with e | e
  ·rw [e];exact mT t
  ·exact mTl r t' e
theorem mI:∀ m,bW (wI Φ m)
 | .seq e=>vL (mE e)
 | .rng1 a=>sX (al (mE a) am)
 | .zip a b=>vM (mE a) (mE b)
 | .zip3 a b c=>sY (mE a) (mE b) (mE c)
 | .enum a=>sZ (mE a)
 | .keys a=>tS (mE a)
theorem mCl:∀ m,bX (wCl Φ m)
 | .last src g ifs elt=>gx (mI src) (aO (bA (mE elt)) (mTl ifs))
 | .more src g ifs rest=>gx (mI src) (aO (mCl rest) (mTl ifs))
theorem mCmp (fr:List (Option Nat)):∀ m,aa (wCmp Φ fr m)
 | .last src g ifs elt=>kb (mI src) (aO (bA (mE elt)) (mTl ifs))
 | .more src g ifs rest=>kb (mI src) (aO (mCl rest) (mTl ifs))
end
mutual
theorem mS:∀ m,aC (wS Φ m)
 | .asg g e=>vP (mE hΦ e)
 | .par i j a b=>vQ (al (mE hΦ a) (al (mE hΦ b) am))
 | .put o i e=>vX (mE hΦ e) (mE hΦ o) (mE hΦ i)
 | .augI o i op e=>tE (mE hΦ o) (mE hΦ i) (mE hΦ e) (wg op)
 | .drop e=>t7 (mE hΦ e)
 | .ret e=>vN (mE hΦ e)
 | .ite c a b=>vO (mT hΦ c) (mSs a) (mSs b)
 | .for g src b=>vR (mI hΦ src) (mSs b)
 | .while c b=>qv (mT hΦ c) (mSs b)
 | .frz i s=>w9 (mS s)
 | .pass=>ke
 | .brk=>qu
 | .cnt=>t5
theorem mSs:∀ m,aC (wSs Φ m)
 | .nil=>ke
 | .cons s r=>t6 (mS s) (mSs r)
end
end
end
section
structure Ctx where
 Γ:List Str
 N:List Str
 sc:Scope
 fn:List Str
 cs:List (Str×D)
noncomputable def glB (sc:Scope) (x:Str):Bool:=sc.names.lookup x==some .globalImplicit
noncomputable def wj (sc:Scope) (x:Str):Bool:=sc.names.lookup x==some .local || sc.names.lookup x==some .cell || sc.names.lookup x==some .free
noncomputable def wk (sc:Scope) (x:Str):Bool:=sc.names.lookup x==some .local || sc.names.lookup x==some .cell
noncomputable def aD:Expr->Bool
 | .Starred .. => false
 | _=>true
noncomputable def n6:Expr->Bool
 | .Name .. | .Call .. | .Subscript .. | .Constant .. | .BinOp .. | .Attribute .. => true
 | _=>false
noncomputable def cD:Expr->Bool
 | .Slice .. => false
 | _=>true
noncomputable def fF:Expr->Bool
 | .ListComp .. | .SetComp .. | .DictComp .. => false
 | _=>true
noncomputable def iV:Expr->Bool
 | .Set .. => false
 | _=>true
noncomputable def dm:Expr->Bool
 | .Call .. => false
 | _=>true
noncomputable def opO:BOp->Operator
 | .add => .Add | .sub => .Sub | .mul => .Mult | .fdiv => .FloorDiv | .mod => .Mod | .pow => .Pow
noncomputable def wl:COp->CmpOp
 | .eq => .Eq | .ne => .NotEq | .lt => .Lt| .gt => .Gt | .ge => .GtE| .neD => .NotEq
noncomputable def n8:BF->Str
 | .len => "len" | .abs => "abs"| .min2 => "min" | .int => "int" | .list => "list" | .tuple => "tuple"| .all => "all"| .dict => "dict"| .sorts => "sorted"
noncomputable def Bb:MF->Str
 | .append => "append" | .extend => "extend"
noncomputable def zh:MF0->Str
 | .clear => "clear" | .reverse => "reverse"
noncomputable def bltNames:List Str := ["len", "abs", "max", "min", "int", "list", "tuple", "sum", "isinstance", "range", "bool", "str", "dict", "zip", "enumerate", "reversed", "sorted", "all", "any", "set"]
noncomputable def gU (sc osc:Scope):Scope :=
 { sc with names:=sc.names.map fun (n,k)=>if (k == .free&&osc.kind == .function&&osc.names.lookup n==some .cell) then (n, .cell) else (n,k) }
theorem ou (sc:Scope) (env:Env):relabel sc env=gU sc env.scope:=rfl
noncomputable def wm (sc osc:Scope) (oN N':List Str) (fr:List (Option Nat)):Bool :=
 decide (sc.kind = .function)&&decide ((sc.names.map (·.1)).Nodup)&&decide (N'.Nodup)
  && sc.names.all (fun x => !(x.2 == .free) || osc.names.lookup x.1==some .cell || osc.names.lookup x.1==some .free)
  && decide (fr.length=N'.length)
  && (List.range N'.length).all fun i=>match fr[i]?,N'[i]? with
   | some (some j),some x=>decide (oN[j]? = some x)&&sc.names.any (fun y=>decide (y=(x,NameKind.free)))
   | _,_=>true
mutual
noncomputable def okG:MG->Ctx->Expr->Bool
 | .name i,C,e=>match e with
  | .Name x _=>decide (C.N[i]? = some x)&&wk C.sc x&&(C.sc.names.lookup x==some .local || C.fn.contains x)
  | _=>false
 | .tup gs,C,e=>match e with
  | .Tuple es _ _=>okGs gs C es
  | _=>false
noncomputable def okGs:MGs->Ctx->List Expr->Bool
 | .nil,_,es=>es.isEmpty
 | .cons g r,C,es=>match es with
  | e::es=>aD e&&okG g C e&&okGs r C es
  | [] => false
end
noncomputable def eY:Expr->Option Str
 | .Name x _=>some x
 | _=>none
noncomputable def dh:Expr->Option (List Expr)
 | .Tuple ts _ _=>some ts
 | _=>none
noncomputable def xG:Stmt->Option (List Expr×Expr)
 | .Assign ts e _=>some (ts,e)
 | _=>none
theorem dq {e:Expr} {x:Str} (h:eY e=some x):∃ p,e = .Name x p:=by
 cases e <;> first
  | (cases h;exact ⟨_,rfl⟩)
  | cases h
theorem cE {e:Expr} {ts:List Expr} (h:dh e=some ts):∃ k p,e = .Tuple ts k p:=by
 cases e <;> first
  | (cases h;exact ⟨_,_,rfl⟩)
  | cases h
theorem wn {s:Stmt} {ts:List Expr} {e:Expr} (h:xG s=some (ts,e)):∃ p,s = .Assign ts e p:=by
 cases s <;> first
  | (cases h;exact ⟨_,rfl⟩)
  | cases h
noncomputable def cOf:Expr->Option (Expr×List Expr×List Keyword×Pos)
 | .Call f xs ks p=>some (f,xs,ks,p)
 | _=>none
noncomputable def kY:Expr->Option (Expr×Str×Pos)
 | .Attribute o n p=>some (o,n,p)
 | _=>none
noncomputable def kZ:Expr->Option (Expr×Expr)
 | .Subscript x y _=>some (x,y)
 | _=>none
noncomputable def qO:Expr->Option (Option Expr×Option Expr×Option Expr)
 | .Slice l u s _=>some (l,u,s)
 | _=>none
noncomputable def iW:Expr->Option (Expr×List CmpOp×List Expr)
 | .Compare l os rs _=>some (l,os,rs)
 | _=>none
noncomputable def Bc:Expr->Option (Expr×Expr×Comprehension×Scope)
 | .DictComp k v [g] sc _=>some (k,v,g,sc)
 | _=>none
theorem tV {e f:Expr} {xs:List Expr} {ks:List Keyword} {p:Pos} (h:cOf e=some (f,xs,ks,p)):e = .Call f xs ks p:=by
 cases e <;> first
  | (cases h;rfl)
  | cases h
theorem wo {e o:Expr} {n:Str} {p:Pos} (h:kY e=some (o,n,p)):e = .Attribute o n p:=by
 cases e <;> first
  | (cases h;rfl)
  | cases h
theorem wp {e x y:Expr} (h:kZ e=some (x,y)):∃ p,e = .Subscript x y p:=by
 cases e <;> first
  | (cases h;exact ⟨_,rfl⟩)
  | cases h
theorem zi {e:Expr} {l u s:Option Expr} (h:qO e=some (l,u,s)):∃ p,e = .Slice l u s p:=by
 cases e <;> first
  | (cases h;exact ⟨_,rfl⟩)
  | cases h
theorem n9 {e l:Expr} {os:List CmpOp} {rs:List Expr} (h:iW e=some (l,os,rs)):∃ p,e = .Compare l os rs p:=by
 cases e <;> first
  | (cases h;exact ⟨_,rfl⟩)
  | cases h
noncomputable def bL (e:Expr):Option (Str×List Expr):=match cOf e with
 | some (f,xs,[],_)=>match eY f with
   | some x=>some (x,xs)
   | none=>none
 | _=>none
noncomputable def cR (e:Expr):Option (Expr×Str×List Expr×Pos×Pos):=match cOf e with
 | some (f,xs,[],p)=>match kY f with
   | some (o,n,q)=>some (o,n,xs,q,p)
   | none=>none
 | _=>none
noncomputable def eA (e:Expr):Option (Expr×Option Expr×Option Expr×Option Expr):=match kZ e with
 | some (x,y)=>match qO y with
   | some (l,u,s)=>some (x,l,u,s)
   | none=>none
 | none=>none
theorem bB {e:Expr} {x:Str} {xs:List Expr} (h:bL e=some (x,xs)):∃ p pos,e = .Call (.Name x p) xs [] pos:=by
 unfold bL at h
 split at h
 ·next f ys q h1 =>
  split at h
  ·next y h2 =>
   cases h
   obtain ⟨p,rfl⟩:=dq h2
   exact ⟨p,q,tV h1⟩
  ·cases h
 ·cases h
theorem dN {e o:Expr} {n:Str} {xs:List Expr} {q p:Pos} (h:cR e=some (o,n,xs,q,p)):e = .Call (.Attribute o n q) xs [] p:=by
 unfold cR at h
 split at h
 ·next f ys p' h1 =>
  split at h
  ·next o' n' q' h2 =>
   cases h
   rw [tV h1,wo h2]
  ·cases h
 ·cases h
theorem qP {e x:Expr} {l u s:Option Expr} (h:eA e=some (x,l,u,s)):∃ p pos,e = .Subscript x (.Slice l u s p) pos:=by
 unfold eA at h
 split at h
 ·next x' y h1 =>
  split at h
  ·next l' u' s' h2 =>
   cases h
   obtain ⟨pos,rfl⟩:=wp h1
   obtain ⟨p,rfl⟩:=zi h2
   exact ⟨p,pos,rfl⟩
  ·cases h
 ·cases h
mutual
noncomputable def okE:ME->Ctx->Expr->Bool
 | .var i,C,e=>match e with
  | .Name x _=>decide (C.N[i]? = some x)&&wj C.sc x && !(x==("__debug__":Str)) && !(x==("__classdict__":Str))
  | _=>false
 | .int i,_,e=>match e with
  | .Constant (.int j) _ _=>decide (i=j)
  | _=>false
 | .bl i,_,e=>match e with
  | .Constant (.bool j) _ _=>i==j
  | _=>false
 | .non,_,e=>match e with
  | .Constant .none _ _=>true
  | _=>false
 | .bin op a b,C,e=>match e with
  | .BinOp l o r _=>decide (o=opO op)&&okE a C l&&okE b C r
  | _=>false
 | .neg a,C,e=>match e with
  | .UnaryOp .USub x _=>okE a C x
  | _=>false
 | .cmp op a b,C,e=>match iW e with
  | some (l,[o],[r])=>decide (o=wl op)&&okE a C l&&okE b C r && !(behindInMarks o r)
  | _=>false
 | .and es,C,e=>match e with
  | .BoolOp .And xs _ => !xs.isEmpty&&okEs es C xs
  | _=>false
 | .or es,C,e=>match e with
  | .BoolOp .Or xs _ => !xs.isEmpty&&okEs es C xs
  | _=>false
 | .not a,C,e=>match e with
  | .UnaryOp .Not x _=>okE a C x
  | _=>false
 | .ite c a b,C,e=>match e with
  | .IfExp t x y _=>okT c C t&&okE a C x&&okE b C y
  | _=>false
 | .tup es,C,e=>match e with
  | .Tuple xs _ _=>okEs es C xs
  | _=>false
 | .lst es,C,e=>match e with
  | .List xs _=>okEs es C xs
  | _=>false
 | .ix a b,C,e=>match e with
  | .Subscript x y _=>cD y&&okE a C x&&okE b C y
  | _=>false
 | .sl a lo hi,C,e=>match eA e with
  | some (x,l,u,none)=>okE a C x&&okO lo C l&&okO hi C u
  | _=>false
 | .call f es,C,e=>match bL e with
  | some (x,xs)=>decide (C.Γ[f]? = some x)&&glB C.sc x && !(x==("__debug__":Str))&&okEs es C xs
  | _=>false
 | .blt f es,C,e=>match bL e with
  | some (x,xs)=>decide (x=n8 f)&&glB C.sc x && !xs.isEmpty&&okEs es C xs
  | _=>false
 | .isin2 a T U,C,e=>match bL e with
  | some (x,[y,w])=>match dh w with
    | some [z',v'] => match eY z' with
      | some z=>match eY v' with
        | some v=>decide (x = "isinstance")&&glB C.sc x&&glB C.sc z&&glB C.sc v&&decide (z=Str.ofString T)&&decide (v=Str.ofString U)&&decide (T∈["bool", "int", "str", "tuple", "list", "dict"])&&decide (U∈["bool", "int", "str", "tuple", "list", "dict"])&&aD y&&okE a C y
        | none=>false
      | none=>false
    | _=>false
  | _=>false
 | .isin a T,C,e=>match bL e with
  | some (x,[y,z'])=>match eY z' with
    | some z=>decide (x = "isinstance")&&glB C.sc x&&glB C.sc z&&decide (z=Str.ofString T)&&decide (T∈["bool", "int", "str", "tuple", "list", "dict"])&&aD y&&okE a C y
    | none=>false
  | _=>false
 | .glob x k,C,e=>match e with
  | .Name y _=>decide (y=x)&&glB C.sc y&&decide ((x,k)∈C.cs) && !(x==("__debug__":Str))
  | _=>false
 | .dnew _,_,e=>match e with
  | .Dict [] [] _=>true
  | _=>false
 | .dget o k x,C,e=>match cR e with
  | some (y,n,[e1,e2],ap,cp)=>decide (n = "get")&&dm y&&(ap.endLine==cp.line)&&aD e1&&aD e2&&okE o C y&&okE k C e1&&okE x C e2
  | _=>false
 | .meth m o a,C,e=>match cR e with
  | some (x,n,[y],ap,cp)=>decide (n=Bb m)&&dm x&&(ap.endLine==cp.line)&&aD y&&okE o C x&&okE a C y
  | _=>false
 | .ins o i a,C,e=>match cR e with
  | some (x,n,[y,z],ap,cp)=>decide (n = "insert")&&dm x&&(ap.endLine==cp.line)&&aD y&&aD z&&okE o C x&&okE i C y&&okE a C z
  | _=>false
 | .meth0 m o,C,e=>match cR e with
  | some (x,n,[],ap,cp)=>decide (n=zh m)&&dm x&&(ap.endLine==cp.line)&&okE o C x
  | _=>false
 | .comp fr N' c,C,e=>match e with
  | .ListComp elt gens sc _=>wm sc C.sc C.N N' fr&&okC c C ⟨C.Γ,N',gU sc C.sc,(sc.names.filter (·.2 == .cell)).map (·.1),C.cs⟩ gens elt
  | _=>false
noncomputable def okEs:MEs->Ctx->List Expr->Bool
 | .nil,_,es=>es.isEmpty
 | .cons m r,C,es=>match es with
  | e::es=>aD e&&okE m C e&&okEs r C es
  | [] => false
noncomputable def okO:MO->Ctx->Option Expr->Bool
 | .none,_,e=>e.isNone
 | .some m,C,e=>match e with
  | some e=>okE m C e
  | none=>false
noncomputable def okT:MT->Ctx->Expr->Bool
 | .tru m,C,e=>n6 e&&okE m C e
 | .cmp op a b,C,e=>match iW e with
  | some (l,[o],[r])=>decide (o=wl op)&&okE a C l&&okE b C r && !(behindInMarks o r)
  | _=>false
 | .and ts,C,e=>match e with
  | .BoolOp .And xs _ => !xs.isEmpty&&okTs ts C xs
  | _=>false
 | .or ts,C,e=>match e with
  | .BoolOp .Or xs _ => !xs.isEmpty&&okTs ts C xs
  | _=>false
 | .not t,C,e=>match e with
  | .UnaryOp .Not x _=>okT t C x
  | _=>false
noncomputable def okTs:MTs->Ctx->List Expr->Bool
 | .nil,_,es=>es.isEmpty
 | .cons m r,C,es=>match es with
  | e::es=>okT m C e&&okTs r C es
  | [] => false
noncomputable def okI:MI->Ctx->Expr->Expr->Bool
 | .seq m,C,_,e=>iV e&&okE m C e
 | .keys m,C,_,e=>iV e&&okE m C e
 | .rng1 a,C,_,e=>match bL e with
  | some (x,[y])=>decide (x = "range")&&glB C.sc x&&aD y&&okE a C y
  | _=>false
 | .enum a,C,t,e=>match bL e with
  | some (x,[y])=>(dh t).isSome&&decide (x = "enumerate")&&glB C.sc x&&aD y&&okE a C y
  | _=>false
 | .zip3 a b c,C,t,e=>match bL e with
  | some (x,[y,z,u])=>(dh t).isSome&&decide (x = "zip")&&glB C.sc x&&aD y&&aD z&&aD u&&okE a C y&&okE b C z&&okE c C u
  | _=>false
 | .zip a b,C,t,e=>match bL e with
  | some (x,[y,z])=>(dh t).isSome&&decide (x = "zip")&&glB C.sc x&&aD y&&aD z&&okE a C y&&okE b C z
  | _=>false
noncomputable def okC:MC->Ctx->Ctx->List Comprehension->Expr->Bool
 | .last src g ifs m,Cs,C,gens,elt=>match gens with
  | [⟨t,it,fs,a⟩] => decide (a=0)&&okI src Cs t it&&okG g C t&&okTs ifs C fs&&okE m C elt
  | _=>false
 | .more src g ifs rest,Cs,C,gens,elt=>match gens with
  | ⟨t,it,fs,a⟩::g2::gs=>decide (a=0)&&okI src Cs t it&&okG g C t&&okTs ifs C fs&&okC rest C C (g2::gs) elt
  | _=>false
end
noncomputable def b6 (sc:Scope) (ts:List Expr):List Str:=ts.filterMap fun
 | .Name id pos=>if sc.names.lookup id==some .local&&pos.line==(ts.head?.map (·.pos.line)).getD 0 then some id else none
 | _=>none
noncomputable def qQ (sc:Scope) (ts vs:List Expr):Bool := !(ts.length==2 || ts.length==3) || vs.length != ts.length || (b6 sc ts).length != ts.length || (b6 sc ts).eraseDups.length != (b6 sc ts).length || vs.all (foldedForSure 8)
noncomputable def qR (C:Ctx) (i:Nat) (x:Str):Bool:=decide (C.N[i]? = some x)&&decide (C.sc.names.lookup x=some .local)
noncomputable def qS (sc:Scope) (ts vs:List Expr) (ns:List Str):Bool := !(!(ts.length==2 || ts.length==3) || vs.length != ts.length) && !(vs.any fun | .Starred .. => true | _=>false)&&decide (b6 sc ts=ns) && !((b6 sc ts).length != ts.length || (b6 sc ts).eraseDups.length != (b6 sc ts).length) && !(vs.all (foldedForSure 8)) && !(vs.all (constantsAlone 8))
noncomputable def iX (sc:Scope) (tg e:Expr):Bool:=match tg,e with
 | .Tuple ts _ _, .Tuple vs _ _=>qQ sc ts vs
 | .Tuple ..,_=>true
 | .Name ..,_=>true
 | _,_=>false
noncomputable def Be (sc:Scope) (x:Str) (px:Pos) (e:Expr):Bool:=match e with
 | .DictComp _ _ _ s _ => !(sc.names.lookup x==some .local&&px.line==e.pos.line && !(s.names.any fun (n,k)=>n==x&&(k == .local || k == .cell)))
 | _=>true
noncomputable def qT (sc:Scope) (x:Str) (px:Pos) (e:Expr):Bool:=match e with
 | .ListComp _ _ s _=>sc.names.lookup x==some .local&&px.line==e.pos.line && !(s.names.any fun (n,k)=>n==x&&(k == .local || k == .cell))
 | _=>false
noncomputable def qU (s:Stmt):Option (List Expr×List Expr):=match xG s with
 | some ([t],e)=>match dh t with
   | some ts=>match dh e with
     | some es=>some (ts,es)
     | none=>none
   | none=>none
 | _=>none
theorem wq {s:Stmt} {ts es:List Expr} (h:qU s=some (ts,es)):∃ k p k' p' pos,s = .Assign [.Tuple ts k p] (.Tuple es k' p') pos:=by
 unfold qU at h
 split at h
 ·next t e h1 =>
  split at h
  ·next ts' h2 =>
   split at h
   ·next es' j =>
    cases h
    obtain ⟨k,p,rfl⟩:=cE h2
    obtain ⟨k',p',rfl⟩:=cE j
    obtain ⟨pos,rfl⟩:=wn h1
    exact ⟨k,p,k',p',pos,rfl⟩
   ·cases h
  ·cases h
 ·cases h
mutual
noncomputable def okS:MS->Ctx->Stmt->Bool
 | .asg g m,C,s=>match s with
  | .Assign [tg] e _=>okG g C tg&&okE m C e&&iX C.sc tg e&&(match tg with | .Name x px=>Be C.sc x px e | _=>fF e)
  | _=>false
 | .par i j a b,C,s=>match qU s with
  | some ([t,u],[e,f])=>match eY t with
    | some x=>match eY u with
      | some y=>qR C i x&&qR C j y&&decide (i≠j)&&aD e&&aD f&&okE a C e&&okE b C f&&qS C.sc [t,u] [e,f] [x,y]
      | none=>false
    | none=>false
  | _=>false
 | .put o i m,C,s=>match s with
  | .Assign [.Subscript x y _] e _=>cD y&&fF e&&okE o C x&&okE i C y&&okE m C e
  | _=>false
 | .augI o i op m,C,s=>match s with
  | .AugAssign (.Subscript x y _) o' e _=>decide (o'=opO op)&&(match op with | .add | .sub | .mul=>true | _=>false)&&cD y&&okE o C x&&okE i C y&&okE m C e
  | _=>false
 | .drop m,C,s=>match s with
  | .Expr e _=>fF e&&okE m C e
  | _=>false
 | .ret m,C,s=>match s with
  | .Return (some e) _=>okE m C e
  | _=>false
 | .ite c a b,C,s=>match s with
  | .If t x y _=>okT c C t&&okSs a C x&&okSs b C y
  | _=>false
 | .for g src b,C,s=>match s with
  | .For tg it body [] _=>iV it&&okG g C tg&&okI src C tg it&&okSs b C body
  | _=>false
 | .while c b,C,s=>match s with
  | .While t body [] _=>okT c C t&&okSs b C body
  | _=>false
 | .frz _ m,C,s=>okS m C s
 | .pass,_,s=>match s with
  | .Pass _=>true
  | _=>false
 | .brk,_,s=>match s with
  | .Break _=>true
  | _=>false
 | .cnt,_,s=>match s with
  | .Continue _=>true
  | _=>false
noncomputable def okSs:MSs->Ctx->List Stmt->Bool
 | .nil,_,ss=>ss.isEmpty
 | .cons m r,C,ss=>match ss with
  | s::ss=>okS m C s&&okSs r C ss
  | [] => false
end
theorem af {e:Expr} {es:List Expr} {env:Env} (h:aD e=true):starEach (e::es) env=(false,eval e env)::starEach es env:=by
 cases e <;> first | rfl | (simp [aD] at h;done)
theorem kB {e:Expr} {es:List Expr} {env:Env} (h:aD e=true):assignEach (e::es) env=(false,assign e env)::assignEach es env:=by
 cases e <;> first | rfl | (simp [aD] at h;done)
theorem qV {e:Expr} {env:Env} (h:n6 e=true):∀ whole,isTrue e env whole=(do let v <- whole;standAt e.pos;holding [v] (truthy v)):=by
 intro w
 cases e <;> first | rfl | (simp [n6] at h;done)
theorem wt {e:Expr} (h:cD e=true):jf e:=by
 intro o i
 cases e <;> first | rfl | (simp [cD] at h;done)
theorem nc {e:Expr} {env:Env} (h:iV e=true):∀ x,foldedSetIterable e env x=pure x:=by
 intro x
 cases e <;> first | rfl | (simp [iV] at h;done)
theorem cF {e:Expr} {n:Str} {env:Env} (h:dm e=true):attributeBase e n env (eval e env)=eval e env:=by
 cases e <;> first | rfl | (simp [dm] at h;done)
theorem jE {e:Expr} {t:Option Expr} {l:Nat} {env:Env} (h:fF e=true):swapsWith e t l env=pure false:=by
 cases e <;> first | rfl | (simp [fF] at h;done)
end
section
noncomputable def lSp (K:Frag) (r:RAd):Sp:=fun vs H Q _=>lR K r vs H Q
structure Good (C:Ctx) (Φ:Phi) (k:Nat) (X:Cx):Prop where
 hx:∀ e s,X.xe e s->False
 calm:X.calm=true
 N:X.N=C.N
 sc:X.env.scope=C.sc
 nd:X.N.Nodup
 fn:∀ x∈C.fn,X.fn x=true
 room:Room k X.A
 mgB:∀ x∈bltNames,X.mg x=none
 fns:∀ (i:Nat) (x:Str),C.Γ[i]? = some x -> ∃ f fd ps,X.mg x=some (.ref f)/\PySem.W.keepIn X.K (.ref f)=true/\Binds X.K fd ps []/\dB X.prog X.w X.K X.mg X.base CX0 k f fd ps (lSp X.K (Φ i))
 mono:∀ f,aY (Φ f)
 cs:∀ x d,(x,d)∈C.cs -> ∃ u,X.mg x=some u/\GV X.K d u
section
variable {C:Ctx} {Φ:Phi} {k:Nat} {X:Cx}
theorem Good.units (G:Good C Φ k X):X.A.units+64 < cLine:=G.room.units
theorem Good.gl (G:Good C Φ k X) {x:Str} (h:glB C.sc x=true):Gl X x:=by
 show X.env.scope.names.lookup x=_
 rw [G.sc]
 simpa [glB] using h
theorem Good.vis (G:Good C Φ k X) {x:Str} (h:wj C.sc x=true):Vis X.env.scope x:=by
 unfold Vis
 rw [G.sc]
 simp [wj] at h
 rcases h with (h | h) | h
 ·exact .inl h
 ·exact .inr (.inl h)
 ·exact .inr (.inr h)
theorem Good.loc (G:Good C Φ k X) {x:Str} (h:wk C.sc x=true):Loc X.env.scope x:=by
 unfold Loc
 rw [G.sc]
 simpa [wk] using h
theorem Good.own (G:Good C Φ k X) {x:Str} (h:(C.sc.names.lookup x==some .local || C.fn.contains x)=true):X.fn x=true∨X.env.scope.names.lookup x=some .local:=by
 rw [G.sc]
 simp at h
 rcases h with h | h
 ·exact .inr h
 ·exact .inl (G.fn x h)
theorem Bf (G:Good C Φ k X):∀ o:BOp,OpR X (binaryOp (opO o)) (l2 X.K (opB o))
 | .add=>vx | .sub=>vy | .mul=>vz | .fdiv=>sF | .mod=>vB | .pow=>vC
theorem oU (G:Good C Φ k X):∀ o:COp,OpR X (compareOp (wl o)) (l2 X.K (opC o))
 | .eq=>yq (by have:=G.units;lia) | .ne=>yr (by have:=G.units;lia) | .lt=>yw| .gt=>yz | .ge=>yA| .neD=>wc (by have:=G.units;lia)
theorem Bg (G:Good C Φ k X) {f:BF} {e:Expr} {es:List Expr} {t:TAd} {p pos:Pos} (mt:bj t) (n:Gl X (n8 f)) (ha:PA X (e::es) (lA X.K t))
 (he:starEach (e::es) X.env=(false,eval e X.env)::starEach es X.env) (j:(backTo pos (starEach es X.env)).any (·.1)=false):PE X (.Call (.Name (n8 f) p) (e::es) [] pos) (lE X.K (wAr (opF f) t)):=by
 cases f with
 | len=>exact PE.imp (ci qo n (G.mgB _ (by decide)) PySem.boot_len ha (by decide) (by decide) he j) (bM lM mt)
 | abs=>exact PE.imp (ci qp n (G.mgB _ (by decide)) (by decide +kernel) ha (by decide) (by decide) he j) (bM lQ mt)
 | min2=>exact PE.imp (ci (nZ G.calm) n (G.mgB _ (by decide)) (by decide +kernel) ha (by decide) (by decide) he j) (bM jZ mt)
 | int=>exact PE.imp (dJ qq n (G.mgB _ (by decide)) (by decide +kernel) ha (by decide) (by decide) he j) (bM lU mt)
 | list=>exact PE.imp (dJ og n (G.mgB _ (by decide)) (by decide +kernel) ha (by decide) (by decide) he j) (bM ka mt)
 | tuple=>exact PE.imp (dJ lW n (G.mgB _ (by decide)) (by decide +kernel) ha (by decide) (by decide) he j) (bM ir mt)
 | all=>exact PE.imp (ci (qC G.calm) n (G.mgB _ (by decide)) (by decide +kernel) ha (by decide) (by decide) he j) (bM mD mt)
 | dict=>exact PE.imp (dJ (ot (by have:=G.units;lia) G.calm) n (G.mgB _ (by decide)) (by decide +kernel) ha (by decide) (by decide) he j) (bM kz mt)
 | sorts=>exact PE.imp (ci (mY (by have:=G.units;lia) G.calm) n (G.mgB _ (by decide)) (by decide +kernel) ha (by decide) (by decide) he j) (bM iT mt)
theorem zj (G:Good C Φ k X) {f:Nat} {x:Str} {e:Expr} {es:List Expr} {t:TAd} {p pos:Pos} (mt:bj t) (hf:C.Γ[f]? = some x) (q:Gl X x) (j:(x==("__debug__":Str))=false) (ha:PA X (e::es) (lA X.K t))
 (he:starEach (e::es) X.env=(false,eval e X.env)::starEach es X.env) (n:(backTo pos (starEach es X.env)).any (·.1)=false):PE X (.Call (.Name x p) (e::es) [] pos) (lE X.K (wAr (Φ f) t)):=by
 obtain ⟨a,fd,ps,hm,z,hb,F⟩:=G.fns f x hf
 refine PE.imp (yb F G.room q hm z hb .nil xr ha j he n) fun σ H Q h => ?_
 have h2:=bM (G.mono f) mt σ H Q h
 have:(fun vs H1=>lSp X.K (Φ f) (vs++[]) H1 Q E0)=fun vs H1=>lR X.K (Φ f) vs H1 Q:=by
  funext vs H1;rw [List.append_nil];rfl
 show (lA X.K t) σ H _
 rw [this]
 exact h2
theorem wu (G:Good C Φ k X) {f:Nat} {x:Str} {p pos:Pos} (hf:C.Γ[f]? = some x) (n:Gl X x) (j:(x==("__debug__":Str))=false):PE X (.Call (.Name x p) [] [] pos) (lE X.K (wAr (Φ f) bn)):=by
 obtain ⟨a,fd,ps,hm,z,hb,F⟩:=G.fns f x hf
 refine PE.imp (uV F G.room n hm z hb .nil xr j) fun σ H Q h => ?_
 obtain ⟨ρ,M,rs,rm,q⟩:=h
 exact ⟨[],M,rm,RDs.nil,q⟩
theorem gW {env:Env} {pos:Pos}:∀ {es:List Expr},es.all aD=true->(backTo pos (starEach es env)).any (·.1)=false
 | [],_=>rfl
 | e::es,h=>by
   simp only [List.all_cons,Bool.and_eq_true] at h
   rw [af h.1]
   show (false || (backTo pos (starEach es env)).any (·.1))=false
   rw [gW h.2];rfl
theorem fG:∀ {ms:MEs} {es:List Expr},okEs ms C es=true->es.all aD=true
 | .nil,[],_=>rfl
 | .nil,_::_,h=>by simp [okEs] at h
 | .cons m r,[],h=>by simp [okEs] at h
 | .cons m r,e::es,h=>by
  simp only [okEs,Bool.and_eq_true] at h
  simp only [List.all_cons,Bool.and_eq_true]
  exact ⟨h.1.1,fG h.2⟩
theorem oV:∀ {gs:MGs} {es:List Expr},okGs gs C es=true -> ∀ ds ρ ρ',bGs gs ds ρ = some ρ'->ds.length=es.length
 | .nil,es,h,ds, ρ, ρ',e=>by
  simp [okGs] at h;subst h
  rw [bGs] at e
  cases ds with
  | nil=>rfl
  | cons _ _=>cases e
 | .cons g r,[],h,_,_,_,_=>by simp [okGs] at h
 | .cons g r,x::es,h,ds, ρ, ρ',e=>by
  simp only [okGs,Bool.and_eq_true] at h
  rw [bGs] at e
  cases ds with
  | nil=>cases e
  | cons d ds =>
    simp only [bE] at e
    cases e1:bG g d ρ with
    | none=>rw [e1] at e;cases e
    | some ρ1 =>
      rw [e1] at e
      simp [oV h.2 ds ρ1 ρ' e]
theorem ng {env:Env}:∀ {gs:MGs} {es:List Expr},okGs gs C es=true->(assignEach es env).length=es.length/\(assignEach es env).findIdx? (·.1)=none
 | .nil,es,h=>by simp [okGs] at h;subst h;exact ⟨rfl,rfl⟩
 | .cons g r,[],h=>by simp [okGs] at h
 | .cons g r,x::es,h=>by
  simp only [okGs,Bool.and_eq_true] at h
  obtain ⟨a,b⟩:=ng (env:=env) h.2
  rw [kB h.1.1]
  refine ⟨by simp [a], ?_⟩
  rw [List.findIdx?_cons]
  simp [b]
mutual
theorem sG (G:Good C Φ k X):∀ (m:MG) (e:Expr),okG m C e=true->PG X e (lG X.K (bG m))
 | .name i,e,h=>by
  simp only [okG] at h
  split at h
  ·simp only [Bool.and_eq_true] at h
   exact yJ G.nd (by rw [G.N];exact of_decide_eq_true h.1.1) (G.loc h.1.2) (G.own h.2)
  ·cases h
 | .tup gs,e,h=>by
  simp only [okG] at h
  split at h
  ·rw [bG]
   obtain ⟨a,b⟩:=ng (env:=X.env) h
   exact AU G.calm (oV h) (sGs G gs _ h) a b
  ·cases h
theorem sGs (G:Good C Φ k X):∀ (m:MGs) (es:List Expr),okGs m C es=true->PGs X es (lGs X.K (bGs m))
 | .nil,es,h=>by
  simp [okGs] at h;subst h
  exact yK
 | .cons g r,[],h=>by simp [okGs] at h
 | .cons g r,e::es,h=>by
  simp only [okGs,Bool.and_eq_true] at h
  exact vK (sG G g e h.1.2) (sGs G r es h.2) (by rw [kB h.1.1];rfl)
end
theorem PB.imp {F:Sem Fin->Sem Fin} {t t':TC} (h:PB X F t) (i:∀ σ H N,t' σ H N->t σ H N):PB X F t':=fun pins s σ H N k Q E I q hk=>h pins s σ H N k Q E I (i _ _ _ q) hk
theorem iY {sc osc:Scope} {oN N':List Str} {fr:List (Option Nat)} (h:wm sc osc oN N' fr=true):b9 sc osc oN N' fr:=by
 simp only [wm,Bool.and_eq_true,decide_eq_true_eq] at h
 obtain ⟨⟨⟨⟨⟨h1,h2⟩,B⟩,F⟩,G⟩,I⟩:=h
 refine ⟨h1,h2,B,fun x hx e => ?_,G,fun i j x hi hf => ?_⟩
 ·have q:=List.all_eq_true.mp F x hx
  rw [e] at q
  simpa using q
 ·have z:i < N'.length:=(List.getElem?_eq_some_iff.mp hi).1
  have n:=List.all_eq_true.mp I i (List.mem_range.mpr z)
  rw [hf,hi] at n
  simp only [Bool.and_eq_true,decide_eq_true_eq,List.any_eq_true] at n
  obtain ⟨a,y,hy,e⟩:=n
  exact ⟨a,by rw [<- e];exact hy⟩
theorem Good.blk (G:Good C Φ k X) {sc:Scope} {N':List Str} {fr:List (Option Nat)} (B:b9 sc C.sc C.N N' fr) (s:Shared) (H:Hp) (fp:List Addr) :
 Good ⟨C.Γ,N',gU sc C.sc,(sc.names.filter (·.2 == .cell)).map (·.1),C.cs⟩ Φ k (aG X sc N' s H fp):=by
 refine ⟨fun _ _ h=>h,G.calm,rfl, ?_,B.ndN,fun x hx => ?_,G.room,G.mgB,G.fns,G.mono,G.cs⟩
 ·show relabel sc X.env=_
  rw [ou,G.sc]
 ·obtain ⟨y,hy,e⟩:=List.mem_map.mp hx
  obtain ⟨h1,h2⟩:=List.mem_filter.mp hy
  obtain ⟨n,kd⟩:=y
  have j:kd = .cell:=by simpa using h2
  subst j
  have e':n=x:=e
  subst e'
  show (sc.names.lookup n==some .cell)=true
  rw [aT B.nd h1]
  rfl
end
end
section
section
variable {Φ:Phi} {k:Nat}
theorem dr {C:Ctx} {X:Cx} (G:Good C Φ k X) {F:Sem Fin->Sem Fin} {p:Addr} {tb:TCd} {ifs:List Expr} {ts:List TTd} (mb:bX tb) (mt:∀ t∈ts,aB t) (hb:PB X F (lC X.K p tb)) (hp:Paired (fun c t=>PT X c t) ifs (ts.map (lT X.K))) :
 PB X (fun k=>bg ifs X.env >>= fun ok=>if ok=true then F k else k) (lC X.K p (bq ts tb)) :=
 PB.imp (vd G.hx hb hp) (iG mb mt)
theorem fH {m:MC} {Cs C:Ctx} {g2:Comprehension} {gs:List Comprehension} {elt:Expr} (h:okC m Cs C (g2::gs) elt=true):g2.is_async=0:=by
 obtain ⟨t,i,f,a⟩:=g2
 cases m with
 | last src g ifs m =>
   cases gs with
   | nil=>simp only [okC,Bool.and_eq_true,decide_eq_true_eq] at h;exact h.1.1.1.1
   | cons _ _=>simp [okC] at h
 | more src g ifs rest =>
   cases gs with
   | nil=>simp [okC] at h
   | cons _ _=>simp only [okC,Bool.and_eq_true,decide_eq_true_eq] at h;exact h.1.1.1.1
theorem gX {C:Ctx} {X:Cx} (G:Good C Φ k X):∀ T∈["bool", "int", "str", "tuple", "list", "dict"],X.mg (Str.ofString T)=none/\bootBuiltins (Str.ofString T)=some (.type T)/\Str.ofString T ≠ "__name__" /\ (Str.ofString T==("__debug__":Str))=false:=by
 intro T j
 simp only [List.mem_cons,List.not_mem_nil,or_false] at j
 rcases j with rfl | rfl | rfl | rfl | rfl | rfl
 all_goals exact ⟨G.mgB _ (by decide),by decide +kernel,by decide,by decide⟩
mutual
theorem sE:∀ (m:ME) {C:Ctx} {X:Cx} (G:Good C Φ k X) (e:Expr),okE m C e=true->PE X e (lE X.K (wE Φ m))
 | .var i,C,X,G,e,h=>by
  simp only [okE] at h
  split at h
  ·simp only [Bool.and_eq_true,Bool.not_eq_true',decide_eq_true_eq] at h
   exact AF (by rw [G.N];exact h.1.1.1) (G.vis h.1.1.2) h.1.2 h.2
  ·cases h
 | .int i,C,X,G,e,h=>by
  simp only [okE] at h
  split at h
  ·rw [of_decide_eq_true h];exact AG
  ·cases h
 | .bl i,C,X,G,e,h=>by
  simp only [okE] at h
  split at h
  ·rw [eq_of_beq h];exact C3
  ·cases h
 | .non,C,X,G,e,h=>by
  simp only [okE] at h
  split at h
  ·exact AH
  ·cases h
 | .bin op a b,C,X,G,e,h=>by
  simp only [okE] at h
  split at h
  ·simp only [Bool.and_eq_true,decide_eq_true_eq] at h
   rw [h.1.1]
   exact C4 (Bf G op) (n0 op) (mE G.mono a) (mE G.mono b) (sE a G _ h.1.2) (sE b G _ h.2)
  ·cases h
 | .neg a,C,X,G,e,h=>by
  simp only [okE] at h
  split at h
  ·exact C5 vD lL (mE G.mono a) (sE a G _ h)
  ·cases h
 | .cmp op a b,C,X,G,e,h=>by
  simp only [okE] at h
  split at h
  ·next l o r hc =>
   obtain ⟨pos,rfl⟩:=n9 hc
   simp only [Bool.and_eq_true,decide_eq_true_eq] at h
   obtain ⟨⟨⟨ho,ha⟩,hb⟩,hm⟩:=h
   rw [Bool.not_eq_true'] at hm
   subst ho
   exact AI (oU G op) (eX op) (mE G.mono a) (mE G.mono b) (sE a G _ ha) (sE b G _ hb) hm
  ·cases h
 | .and es,C,X,G,e,h=>by
  simp only [okE] at h
  split at h
  ·simp only [Bool.and_eq_true] at h
   exact sAnds es G _ _ h.2 (by intro z;rw [z] at h;simp at h)
  ·cases h
 | .or es,C,X,G,e,h=>by
  simp only [okE] at h
  split at h
  ·simp only [Bool.and_eq_true] at h
   exact sOrs es G _ _ h.2 (by intro z;rw [z] at h;simp at h)
  ·cases h
 | .not a,C,X,G,e,h=>by
  simp only [okE] at h
  split at h
  ·exact AT (mE G.mono a) (sE a G _ h)
  ·cases h
 | .ite c a b,C,X,G,e,h=>by
  simp only [okE] at h
  split at h
  ·simp only [Bool.and_eq_true] at h
   exact Cb (mT G.mono c) (mE G.mono a) (mE G.mono b) (sT c G _ h.1.1) (sE a G _ h.1.2) (sE b G _ h.2)
  ·cases h
 | .tup es,C,X,G,e,h=>by
  simp only [okE] at h
  split at h
  ·exact AK (mA G.mono es) (sA es G _ h)
  ·cases h
 | .lst es,C,X,G,e,h=>by
  simp only [okE] at h
  split at h
  ·exact AL (mA G.mono es) (sA es G _ h)
  ·cases h
 | .ix a b,C,X,G,e,h=>by
  simp only [okE] at h
  split at h
  ·simp only [Bool.and_eq_true] at h
   exact C6 (CW (by have:=G.units;lia)) oE (mE G.mono a) (mE G.mono b) (sE a G _ h.1.2) (sE b G _ h.2) (wt h.1.1)
  ·cases h
 | .sl a lo hi,C,X,G,e,h=>by
  simp only [okE] at h
  split at h
  ·next x l u hc =>
   obtain ⟨p,pos,rfl⟩:=qP hc
   simp only [Bool.and_eq_true] at h
   exact Cc (mE G.mono a) (mO G.mono lo) (mO G.mono hi) (sE a G _ h.1.1) (sO lo G _ h.1.2) (sO hi G _ h.2)
  ·cases h
 | .call f es,C,X,G,e,h=>by
  simp only [okE] at h
  split at h
  ·next x xs hc =>
   obtain ⟨p,pos,rfl⟩:=bB hc
   simp only [Bool.and_eq_true,decide_eq_true_eq,Bool.not_eq_true'] at h
   have hA:=sA es G _ h.2
   have I:=fG h.2
   cases xs with
   | nil =>
     cases es with
     | nil=>exact wu G h.1.1.1 (G.gl h.1.1.2) h.1.2
     | cons _ _=>simp [okEs] at h
   | cons y ys =>
     simp only [List.all_cons,Bool.and_eq_true] at I
     exact zj G (mA G.mono es) h.1.1.1 (G.gl h.1.1.2) h.1.2 hA (af I.1) (gW I.2)
  ·cases h
 | .blt f es,C,X,G,e,h=>by
  simp only [okE] at h
  split at h
  ·next x xs hc =>
   obtain ⟨p,pos,rfl⟩:=bB hc
   simp only [Bool.and_eq_true,decide_eq_true_eq,Bool.not_eq_true'] at h
   have hA:=sA es G _ h.2
   have I:=fG h.2
   obtain ⟨⟨⟨rfl,J⟩,D7⟩,_⟩:=h
   cases xs with
   | nil=>simp at D7
   | cons y ys =>
     simp only [List.all_cons,Bool.and_eq_true] at I
     exact Bg G (mA G.mono es) (G.gl J) hA (af I.1) (gW I.2)
  ·cases h
 | .glob x k',C,X,G,e,h=>by
  simp only [okE] at h
  split at h
  ·simp only [Bool.and_eq_true,decide_eq_true_eq,Bool.not_eq_true'] at h
   obtain ⟨⟨⟨rfl,J⟩,hc⟩,hd⟩:=h
   obtain ⟨u,R,hv⟩:=G.cs _ _ hc
   obtain ⟨v,rv,rd⟩:=xF hv
   exact PE.imp (xU (v:=v) (G.gl J) R rv hd) fun σ H Q ⟨ρ,M,rs,rm,q⟩=>q _ H Ext.refl rm (rd H)
  ·cases h
 | .dnew t,C,X,G,e,h=>by
  simp only [okE] at h
  split at h
  ·exact yR
  ·cases h
 | .dget o k' x,C,X,G,e,h=>by
  simp only [okE] at h
  split at h
  ·next y n e1 e2 ap cp hc =>
   cases dN hc
   simp only [Bool.and_eq_true,decide_eq_true_eq] at h
   obtain ⟨⟨⟨⟨⟨⟨⟨rfl,j⟩,O⟩,D8⟩,L⟩,ho⟩,hk⟩,hx⟩:=h
   have st:starEach [e1,e2] X.env=[(false,eval e1 X.env),(false,eval e2 X.env)]:=by
    rw [af D8,af L];rfl
   refine yY (by have:=G.units;lia) (mE G.mono o) (mE G.mono k') (mE G.mono x) (sE o G _ ho) (sE k' G _ hk) (sE x G _ hx) ⟨cF j, ?_,O, ?_⟩
   ·rw [st];rfl
   ·rw [st];rfl
  ·cases h
 | .isin2 a T U,C,X,G,e,h=>by
  simp only [okE] at h
  split at h
  ·next x y w hc =>
   obtain ⟨p,pos,rfl⟩:=bB hc
   split at h
   ·next z' v' R =>
    obtain ⟨k1,p1,rfl⟩:=cE R
    split at h
    ·next z S =>
     obtain ⟨p2,rfl⟩:=dq S
     split at h
     ·next v D9 =>
      obtain ⟨p3,rfl⟩:=dq D9
      simp only [Bool.and_eq_true,decide_eq_true_eq] at h
      obtain ⟨⟨⟨⟨⟨⟨⟨⟨⟨rfl,J⟩,Y⟩,Da⟩,hz⟩,hy⟩,Z⟩,hU⟩,hs⟩,ha⟩:=h
      obtain ⟨n1,n2,n3,n4⟩:=gX G T Z
      obtain ⟨m1,m2,m3,m4⟩:=gX G U hU
      subst hz hy
      exact w8 Z hU (mE G.mono a) (sE a G _ ha) (G.gl J) (G.mgB _ (by decide)) (G.gl Y) n1 n2 n3 n4 (G.gl Da) m1 m2 m3 m4 (af hs)
     ·cases h
    ·cases h
   ·cases h
  ·cases h
 | .isin a T,C,X,G,e,h=>by
  simp only [okE] at h
  split at h
  ·next x y z' hc =>
   obtain ⟨p,pos,rfl⟩:=bB hc
   split at h
   ·next z S =>
    obtain ⟨p2,rfl⟩:=dq S
    simp only [Bool.and_eq_true,decide_eq_true_eq] at h
    obtain ⟨⟨⟨⟨⟨⟨rfl,J⟩,Y⟩,hz⟩,Z⟩,hs⟩,ha⟩:=h
    obtain ⟨n1,n2,n3,n4⟩:=gX G T Z
    subst hz
    exact yH Z (mE G.mono a) (sE a G _ ha) (G.gl J) (G.mgB _ (by decide)) (G.gl Y) n1 n2 n3 n4 (af hs) rfl
   ·cases h
  ·cases h
 | .meth m o a,C,X,G,e,h=>by
  simp only [okE] at h
  split at h
  ·next x n y ap cp hc =>
   cases dN hc
   simp only [Bool.and_eq_true,decide_eq_true_eq] at h
   obtain ⟨⟨⟨⟨⟨hn,j⟩,O⟩,hs⟩,ho⟩,ha⟩:=h
   subst hn
   have pa:PA X [y] (lA X.K (az (wE Φ a) bn)):=bc (mE G.mono a) am (sE a G _ ha) cM (af hs)
   have few:((backTo cp (starEach [y] X.env)).all (fun x => !x.1)&&(backToKw cp (keywordEach [] X.env)).all (fun x=>x.1.isSome)&&decide (([y]:List Expr).length+([]:List Keyword).length+(if ([]:List Keyword).isEmpty then 0 else 1) < 30))=true:=by
    rw [af hs];rfl
   cases m with
   | append=>exact PE.imp (qe PySem.F.plainAttrs_list PySem.F.slot_list_append PySem.F.type_list_append jS (sE o G _ ho) pa (cF j) few O (af hs) rfl) (ju gv (mE G.mono o) (al (mE G.mono a) am) vI)
   | extend=>exact PE.imp (qe PySem.F.plainAttrs_list PySem.F.slot_list_extend PySem.F.type_list_extend se (sE o G _ ho) pa (cF j) few O (af hs) rfl) (ju gw (mE G.mono o) (al (mE G.mono a) am) vJ)
  ·cases h
 | .ins o i a,C,X,G,e,h=>by
  simp only [okE] at h
  split at h
  ·next x n y z ap cp hc =>
   cases dN hc
   simp only [Bool.and_eq_true,decide_eq_true_eq] at h
   obtain ⟨⟨⟨⟨⟨⟨⟨hn,j⟩,O⟩,hs⟩,L⟩,ho⟩,hi⟩,ha⟩:=h
   subst hn
   have pa:PA X [y,z] (lA X.K (az (wE Φ i) (az (wE Φ a) bn))):=bc (mE G.mono i) (al (mE G.mono a) am) (sE i G _ hi) (bc (mE G.mono a) am (sE a G _ ha) cM (af L)) (af hs)
   have few:((backTo cp (starEach [y,z] X.env)).all (fun x => !x.1)&&(backToKw cp (keywordEach [] X.env)).all (fun x=>x.1.isSome)&&decide (([y,z]:List Expr).length+([]:List Keyword).length+(if ([]:List Keyword).isEmpty then 0 else 1) < 30))=true:=by
    rw [af hs,af L];rfl
   exact PE.imp (qe PySem.F.plainAttrs_list PySem.F.slot_list_insert PySem.F.type_list_insert tT (sE o G _ ho) pa (cF j) few O (af hs) (by rw [af L];rfl)) (ju gA (mE G.mono o) (al (mE G.mono i) (al (mE G.mono a) am)) wd)
  ·cases h
 | .meth0 m o,C,X,G,e,h=>by
  simp only [okE] at h
  split at h
  ·next x n ap cp hc =>
   cases dN hc
   simp only [Bool.and_eq_true,decide_eq_true_eq] at h
   obtain ⟨⟨⟨hn,j⟩,O⟩,ho⟩:=h
   subst hn
   cases m with
   | clear=>exact PE.imp (sd PySem.F.plainAttrs_list PySem.F.slot_list_clear PySem.F.type_list_clear uY (sE o G _ ho) (cF j) O) (m6 iC (mE G.mono o) yI)
   | reverse=>exact PE.imp (sd PySem.F.plainAttrs_list PySem.F.slot_list_reverse PySem.F.type_list_reverse qf (sE o G _ ho) (cF j) O) (m6 fw (mE G.mono o) sV)
  ·cases h
 | .comp fr N' c,C,X,G,e,h=>by
  simp only [okE] at h
  split at h
  ·rename_i elt gens sc pos
   simp only [Bool.and_eq_true] at h
   have B:b9 sc X.env.scope X.N N' fr:=by rw [G.sc,G.N];exact iY h.1
   have B':b9 sc C.sc C.N N' fr:=iY h.1
   cases c with
   | last src g ifs m =>
     have h2:=h.2
     simp only [okC] at h2
     split at h2
     ·rename_i t it fs a
      simp only [Bool.and_eq_true,decide_eq_true_eq] at h2
      obtain ⟨⟨⟨⟨rfl,hi⟩,J⟩,R⟩,he⟩:=h2
      refine PE.imp (gu G.calm G.hx B (fun g' z=>by simp at z) (sI src G _ t hi).1 (fun s H fp=>sG (G.blk B' s H fp) g t J) (tb:=fun p=>lC X.K p (bq (wTl Φ ifs) (ce (wE Φ m)))) (fun s H fp p => ?_) (sI src G _ t hi).2) (dL (mI G.mono src) (aO (bA (mE G.mono m)) (mTl G.mono ifs)))
      have G':=G.blk B' s H fp
      exact dr (p:=p) G' (bA (mE G.mono m)) (mTl G.mono ifs) (PB.imp (jh G'.hx (sE m G' elt he) rfl) (fy (mE G.mono m))) (sTl ifs G' fs R)
     ·cases h2
   | more src g ifs rest =>
     have h2:=h.2
     simp only [okC] at h2
     split at h2
     ·rename_i t it fs a g2 gs
      simp only [Bool.and_eq_true,decide_eq_true_eq] at h2
      obtain ⟨⟨⟨⟨rfl,hi⟩,J⟩,R⟩,he⟩:=h2
      have Db:∀ g',(g2::gs)[0]? = some g'->g'.is_async=0:=fun g' z=>by
       have z':g2=g':=by simpa using z
       subst z'
       exact fH he
      refine PE.imp (gu G.calm G.hx B Db (sI src G _ t hi).1 (fun s H fp=>sG (G.blk B' s H fp) g t J) (tb:=fun p=>lC X.K p (bq (wTl Φ ifs) (wCl Φ rest))) (fun s H fp p => ?_) (sI src G _ t hi).2) (dL (mI G.mono src) (aO (mCl G.mono rest) (mTl G.mono ifs)))
      have G':=G.blk B' s H fp
      exact dr (p:=p) G' (mCl G.mono rest) (mTl G.mono ifs) (sCl rest G' elt (⟨t,it,fs,0⟩::g2::gs) sc pos 0 (.inl rfl) p he) (sTl ifs G' fs R)
     ·cases h2
  ·cases h
theorem sA:∀ (m:MEs) {C:Ctx} {X:Cx} (G:Good C Φ k X) (es:List Expr),okEs m C es=true->PA X es (lA X.K (wA Φ m))
 | .nil,C,X,G,es,h=>by
  simp [okEs] at h;subst h
  exact cM
 | .cons m r,C,X,G,[],h=>by simp [okEs] at h
 | .cons m r,C,X,G,e::es,h=>by
  simp only [okEs,Bool.and_eq_true] at h
  exact bc (mE G.mono m) (mA G.mono r) (sE m G e h.1.2) (sA r G es h.2) (af h.1.1)
theorem sAnds:∀ (m:MEs) {C:Ctx} {X:Cx} (G:Good C Φ k X) (es:List Expr) (pos:Pos),okEs m C es=true->es≠[]->PE X (.BoolOp .And es pos) (lE X.K (wAnds Φ m))
 | .nil,C,X,G,es,pos,h,j=>by simp [okEs] at h;exact absurd h j
 | .cons m r,C,X,G,[],pos,h,j=>absurd rfl j
 | .cons m .nil,C,X,G,e::es,pos,h,_=>by
  simp only [okEs,Bool.and_eq_true] at h
  obtain ⟨h1,h2⟩:=h
  simp at h2;subst h2
  exact sP (sE m G e h1.2)
 | .cons m (.cons m2 r),C,X,G,e::es,pos,h,_=>by
  simp only [okEs,Bool.and_eq_true] at h
  obtain ⟨h1,h2⟩:=h
  cases es with
  | nil=>simp at h2
  | cons f fs =>
    exact AS (mE G.mono m) (mAnds G.mono _) (sE m G e h1.2) (sAnds (.cons m2 r) G (f::fs) pos (by simpa only [okEs,Bool.and_eq_true] using h2) (by simp))
theorem sOrs:∀ (m:MEs) {C:Ctx} {X:Cx} (G:Good C Φ k X) (es:List Expr) (pos:Pos),okEs m C es=true->es≠[]->PE X (.BoolOp .Or es pos) (lE X.K (wOrs Φ m))
 | .nil,C,X,G,es,pos,h,j=>by simp [okEs] at h;exact absurd h j
 | .cons m r,C,X,G,[],pos,h,j=>absurd rfl j
 | .cons m .nil,C,X,G,e::es,pos,h,_=>by
  simp only [okEs,Bool.and_eq_true] at h
  obtain ⟨h1,h2⟩:=h
  simp at h2;subst h2
  exact sP (sE m G e h1.2)
 | .cons m (.cons m2 r),C,X,G,e::es,pos,h,_=>by
  simp only [okEs,Bool.and_eq_true] at h
  obtain ⟨h1,h2⟩:=h
  cases es with
  | nil=>simp at h2
  | cons f fs =>
    exact Ca (mE G.mono m) (mOrs G.mono _) (sE m G e h1.2) (sOrs (.cons m2 r) G (f::fs) pos (by simpa only [okEs,Bool.and_eq_true] using h2) (by simp))
theorem sO:∀ (m:MO) {C:Ctx} {X:Cx} (G:Good C Φ k X) (e:Option Expr),okO m C e=true->PO X e (lO X.K (wO Φ m))
 | .none,C,X,G,e,h=>by
  simp [okO] at h;subst h
  exact yE
 | .some m,C,X,G,none,h=>by simp [okO] at h
 | .some m,C,X,G,some e,h=>by
  simp only [okO] at h
  exact yF (mE G.mono m) (sE m G e h)
theorem sT:∀ (m:MT) {C:Ctx} {X:Cx} (G:Good C Φ k X) (e:Expr),okT m C e=true->PT X e (lT X.K (wT Φ m))
 | .tru m,C,X,G,e,h=>by
  simp only [okT,Bool.and_eq_true] at h
  exact AN (mE G.mono m) (sE m G e h.2) (qV h.1)
 | .cmp op a b,C,X,G,e,h=>by
  simp only [okT] at h
  split at h
  ·next l o r hc =>
   obtain ⟨pos,rfl⟩:=n9 hc
   simp only [Bool.and_eq_true,decide_eq_true_eq] at h
   obtain ⟨⟨⟨ho,ha⟩,hb⟩,hm⟩:=h
   rw [Bool.not_eq_true'] at hm
   subst ho
   exact AJ (oU G op) (eX op) (mE G.mono a) (mE G.mono b) (sE a G _ ha) (sE b G _ hb) hm
  ·cases h
 | .and ts,C,X,G,e,h=>by
  simp only [okT] at h
  split at h
  ·simp only [Bool.and_eq_true] at h
   exact (sAndTs ts G _ _ h.2 (by intro z;rw [z] at h;simp at h)).pt
  ·cases h
 | .or ts,C,X,G,e,h=>by
  simp only [okT] at h
  split at h
  ·simp only [Bool.and_eq_true] at h
   exact (sOrTs ts G _ _ h.2 (by intro z;rw [z] at h;simp at h)).pt
  ·cases h
 | .not t,C,X,G,e,h=>by
  simp only [okT] at h
  split at h
  ·exact AO (mT G.mono t) (sT t G _ h)
  ·cases h
theorem sAndTs:∀ (m:MTs) {C:Ctx} {X:Cx} (G:Good C Φ k X) (es:List Expr) (pos:Pos),okTs m C es=true->es≠[]->PW X (.BoolOp .And es pos) (lT X.K (wAndTs Φ m))
 | .nil,C,X,G,es,pos,h,j=>by simp [okTs] at h;exact absurd h j
 | .cons m r,C,X,G,[],pos,h,j=>absurd rfl j
 | .cons m .nil,C,X,G,e::es,pos,h,_=>by
  simp only [okTs,Bool.and_eq_true] at h
  obtain ⟨h1,h2⟩:=h
  simp at h2;subst h2
  exact yC (sT m G e h1)
 | .cons m (.cons m2 r),C,X,G,e::es,pos,h,_=>by
  simp only [okTs,Bool.and_eq_true] at h
  obtain ⟨h1,h2⟩:=h
  cases es with
  | nil=>simp at h2
  | cons f fs =>
    exact AR (mT G.mono m) (mAndTs G.mono _) (sT m G e h1) (sAndTs (.cons m2 r) G (f::fs) pos (by simpa only [okTs,Bool.and_eq_true] using h2) (by simp))
theorem sOrTs:∀ (m:MTs) {C:Ctx} {X:Cx} (G:Good C Φ k X) (es:List Expr) (pos:Pos),okTs m C es=true->es≠[]->PW X (.BoolOp .Or es pos) (lT X.K (wOrTs Φ m))
 | .nil,C,X,G,es,pos,h,j=>by simp [okTs] at h;exact absurd h j
 | .cons m r,C,X,G,[],pos,h,j=>absurd rfl j
 | .cons m .nil,C,X,G,e::es,pos,h,_=>by
  simp only [okTs,Bool.and_eq_true] at h
  obtain ⟨h1,h2⟩:=h
  simp at h2;subst h2
  exact AQ (sT m G e h1)
 | .cons m (.cons m2 r),C,X,G,e::es,pos,h,_=>by
  simp only [okTs,Bool.and_eq_true] at h
  obtain ⟨h1,h2⟩:=h
  cases es with
  | nil=>simp at h2
  | cons f fs =>
    exact C9 (mT G.mono m) (mOrTs G.mono _) (sT m G e h1) (sOrTs (.cons m2 r) G (f::fs) pos (by simpa only [okTs,Bool.and_eq_true] using h2) (by simp))
theorem sTl:∀ (m:MTs) {C:Ctx} {X:Cx} (G:Good C Φ k X) (es:List Expr),okTs m C es=true->Paired (fun c t=>PT X c t) es ((wTl Φ m).map (lT X.K))
 | .nil,C,X,G,es,h=>by
  simp [okTs] at h;subst h
  exact .nil
 | .cons m r,C,X,G,[],h=>by simp [okTs] at h
 | .cons m r,C,X,G,e::es,h=>by
  simp only [okTs,Bool.and_eq_true] at h
  exact .cons (sT m G e h.1) (sTl r G es h.2)
theorem sI:∀ (m:MI) {C:Ctx} {X:Cx} (G:Good C Φ k X) (e tg:Expr),okI m C tg e=true->PI X tg e (lI X.K (wI Φ m)) /\ ∀ x,foldedSetIterable e X.env x=pure x
 | .seq m,C,X,G,e,tg,h=>by
  simp only [okI,Bool.and_eq_true] at h
  exact ⟨AX (mE G.mono m) (sE m G e h.2),nc h.1⟩
 | .keys m,C,X,G,e,tg,h=>by
  simp only [okI,Bool.and_eq_true] at h
  exact ⟨zg (mE G.mono m) (sE m G e h.2),nc h.1⟩
 | .rng1 a,C,X,G,e,tg,h=>by
  simp only [okI] at h
  split at h
  ·next x y hc =>
   obtain ⟨p,pos,rfl⟩:=bB hc
   simp only [Bool.and_eq_true,decide_eq_true_eq] at h
   obtain ⟨⟨⟨rfl,q⟩,hs⟩,ha⟩:=h
   exact ⟨yL (al (mE G.mono a) am) (G.gl q) (G.mgB _ (by decide)) (bc (mE G.mono a) am (sE a G _ ha) cM (af hs)) (af hs),fun x=>rfl⟩
  ·cases h
 | .enum a,C,X,G,e,tg,h=>by
  simp only [okI] at h
  split at h
  ·next x y hc =>
   obtain ⟨p,pos,rfl⟩:=bB hc
   simp only [Bool.and_eq_true,decide_eq_true_eq] at h
   obtain ⟨⟨⟨⟨n,rfl⟩,q⟩,hs⟩,ha⟩:=h
   obtain ⟨ts,n⟩:=Option.isSome_iff_exists.mp n
   obtain ⟨kt,pt,rfl⟩:=cE n
   exact ⟨yO (mE G.mono a) (G.gl q) (G.mgB _ (by decide)) (bc (mE G.mono a) am (sE a G _ ha) cM (af hs)) (af hs),fun x=>rfl⟩
  ·cases h
 | .zip3 a b c,C,X,G,e,tg,h=>by
  simp only [okI] at h
  split at h
  ·next x y z u F =>
   obtain ⟨p,pos,rfl⟩:=bB F
   clear F
   simp only [Bool.and_eq_true,decide_eq_true_eq] at h
   obtain ⟨⟨⟨⟨⟨⟨⟨⟨n,rfl⟩,q⟩,hs⟩,j⟩,B⟩,ha⟩,hb⟩,hc⟩:=h
   obtain ⟨ts,n⟩:=Option.isSome_iff_exists.mp n
   obtain ⟨kt,pt,rfl⟩:=cE n
   exact ⟨yN (mE G.mono a) (mE G.mono b) (mE G.mono c) (G.gl q) (G.mgB _ (by decide)) (bc (mE G.mono a) (al (mE G.mono b) (al (mE G.mono c) am)) (sE a G _ ha) (bc (mE G.mono b) (al (mE G.mono c) am) (sE b G _ hb) (bc (mE G.mono c) am (sE c G _ hc) cM (af B)) (af j)) (af hs)) (by rw [af hs,af j,af B];rfl) (by rw [af j,af B];rfl),fun x=>rfl⟩
  ·cases h
 | .zip a b,C,X,G,e,tg,h=>by
  simp only [okI] at h
  split at h
  ·next x y z hc =>
   obtain ⟨p,pos,rfl⟩:=bB hc
   simp only [Bool.and_eq_true,decide_eq_true_eq] at h
   obtain ⟨⟨⟨⟨⟨⟨n,rfl⟩,q⟩,hs⟩,j⟩,ha⟩,hb⟩:=h
   obtain ⟨ts,n⟩:=Option.isSome_iff_exists.mp n
   obtain ⟨kt,pt,rfl⟩:=cE n
   exact ⟨B3 (mE G.mono a) (mE G.mono b) (G.gl q) (G.mgB _ (by decide)) (bc (mE G.mono a) (al (mE G.mono b) am) (sE a G _ ha) (bc (mE G.mono b) am (sE b G _ hb) cM (af j)) (af hs)) (by rw [af hs,af j];rfl) (af j),fun x=>rfl⟩
  ·cases h
theorem sCl:∀ (m:MC) {C:Ctx} {X:Cx} (G:Good C Φ k X) (elt:Expr) (gens:List Comprehension) (sc:Scope) (pos:Pos) (d:Nat) (_:d=0∨d=d) (p:Addr),okC m C C (gens.drop (d+1)) elt=true ->
 PB X (b8 elt gens sc pos d (.ref p) X.env) (lC X.K p (wCl Φ m))
 | .last src g ifs m,C,X,G,elt,gens,sc,pos,d,_,p,h=>by
  simp only [okC] at h
  split at h
  ·rename_i t it fs a hd
   simp only [Bool.and_eq_true,decide_eq_true_eq] at h
   obtain ⟨⟨⟨⟨rfl,hi⟩,j⟩,n⟩,he⟩:=h
   have e1:gens[d+1]? = some ⟨t,it,fs,0⟩:=by
    have z:(gens.drop (d+1))[0]? = some ⟨t,it,fs,0⟩:=by rw [hd];rfl
    rw [List.getElem?_drop] at z;simpa using z
   have e2:gens[d+1+1]? = none:=by
    have z:(gens.drop (d+1))[1]? = none:=by rw [hd];rfl
    rw [List.getElem?_drop] at z;simpa using z
   refine PB.imp (jW G.hx G.calm e1 (fun g' z=>by rw [e2] at z;cases z) (sI src G _ t hi).1 (sG G g t j) (dr (p:=p) G (bA (mE G.mono m)) (mTl G.mono ifs) (PB.imp (jh G.hx (sE m G elt he) e2) (fy (mE G.mono m))) (sTl ifs G fs n)) (sI src G _ t hi).2) (gy (mI G.mono src) (aO (bA (mE G.mono m)) (mTl G.mono ifs)))
  ·cases h
 | .more src g ifs rest,C,X,G,elt,gens,sc,pos,d,_,p,h=>by
  simp only [okC] at h
  split at h
  ·rename_i t it fs a g2 gs hd
   simp only [Bool.and_eq_true,decide_eq_true_eq] at h
   obtain ⟨⟨⟨⟨rfl,hi⟩,j⟩,n⟩,he⟩:=h
   have e1:gens[d+1]? = some ⟨t,it,fs,0⟩:=by
    have z:(gens.drop (d+1))[0]? = some ⟨t,it,fs,0⟩:=by rw [hd];rfl
    rw [List.getElem?_drop] at z;simpa using z
   have e2:gens[d+1+1]? = some g2:=by
    have z:(gens.drop (d+1))[1]? = some g2:=by rw [hd];rfl
    rw [List.getElem?_drop] at z;simpa using z
   have B:gens.drop (d+1+1)=g2::gs:=by
    have z:(gens.drop (d+1)).drop 1=g2::gs:=by rw [hd];rfl
    rw [List.drop_drop] at z;simpa using z
   have q:∀ g',gens[d+1+1]? = some g'->g'.is_async=0:=fun g' z=>by
    rw [e2] at z;cases z
    exact fH he
   refine PB.imp (jW G.hx G.calm e1 q (sI src G _ t hi).1 (sG G g t j) (dr (p:=p) G (mCl G.mono rest) (mTl G.mono ifs) (sCl rest G elt gens sc pos (d+1) (.inr rfl) p (by rw [B];exact he)) (sTl ifs G fs n)) (sI src G _ t hi).2) (gy (mI G.mono src) (aO (mCl G.mono rest) (mTl G.mono ifs)))
  ·cases h
end
end
end
section
section
variable {Φ:Phi} {k:Nat} {C:Ctx} {X:Cx}
theorem ww {sc:Scope} {ts vs:List Expr} {kk k2:Nat} {pp p2:Pos} {env:Env} (hs:env.scope=sc) (j:sc.kind = .function) (h:qQ sc ts vs=true):swappedStores [.Tuple ts kk pp] (.Tuple vs k2 p2) env=pure none:=by
 have hb:env.blockKind = .function:=by unfold Env.blockKind;rw [hs,j];rfl
 have h':qQ sc ts vs=true:=h
 unfold swappedStores
 dsimp only
 rw [hb]
 by_cases c1:(!(ts.length==2 || ts.length==3) || vs.length != ts.length)=true
 ·simp only [c1,Bool.true_or,if_true]
 ·simp only [Bool.not_eq_true] at c1
  rw [c1]
  simp only [Bool.false_or,bne_self_eq_false,Bool.false_eq_true,if_false]
  split
  ·rfl
  ·
    generalize n:List.filterMap _ ts=L
    obtain rfl:L=b6 sc ts:=by
     rw [<- n]
     unfold b6
     congr 1
     funext x
     cases x <;> first | rfl | (unfold Env.kindOf;rw [hs])
    unfold qQ at h'
    rw [c1] at h'
    simp only [Bool.false_or,Bool.or_eq_true] at h'
    by_cases c3:((b6 sc ts).length != ts.length || (b6 sc ts).eraseDups.length != (b6 sc ts).length)=true
    ·rw [if_pos c3]
    ·rw [if_neg c3]
     have q:vs.all (foldedForSure 8)=true:=by
      rcases h' with h' | h'
      ·exact absurd (Bool.or_eq_true _ _ |>.mpr h') c3
      ·exact h'
     rw [if_pos q]
theorem zk {sc:Scope} {ts vs:List Expr} {ns:List Str} {kk k2:Nat} {pp p2:Pos} {env:Env} (hs:env.scope=sc) (j:sc.kind = .function) (h:qS sc ts vs ns=true):swappedStores [.Tuple ts kk pp] (.Tuple vs k2 p2) env=pure (some ns):=by
 have hb:env.blockKind = .function:=by unfold Env.blockKind;rw [hs,j];rfl
 simp only [qS,Bool.and_eq_true,Bool.not_eq_true',decide_eq_true_eq] at h
 obtain ⟨⟨⟨⟨⟨n,q⟩,B⟩,F⟩,G⟩,I⟩:=h
 unfold swappedStores
 dsimp only
 rw [hb,n]
 simp only [Bool.false_or,bne_self_eq_false,Bool.false_eq_true,if_false]
 split
 ·next z=>exact absurd z (by rw [Bool.not_eq_true];exact q)
 ·generalize J:List.filterMap _ ts=L
  obtain rfl:L=b6 sc ts:=by
   rw [<- J]
   unfold b6
   congr 1
   funext x
   cases x <;> first | rfl | (unfold Env.kindOf;rw [hs])
  rw [F,G,I,B]
  rfl
theorem oW {C:Ctx} {i:Nat} {x:Str} (h:qR C i x=true):C.N[i]? = some x/\C.sc.names.lookup x=some .local:=by
 simpa [qR] using h
theorem dv {tg e:Expr} {l:Nat} {env:Env} {b:Bool} (h:swapsWith e (some tg) l env=pure b):swapsWithSole [tg] e l env=pure b:=by
 unfold swapsWithSole
 exact h
theorem zm {sc:Scope} {tg e:Expr} {env:Env} (hs:env.scope=sc) (j:sc.kind = .function) (h:iX sc tg e=true):swappedStores [tg] e env=pure none:=by
 cases tg with
 | Tuple ts kk pp =>
   cases e with
   | Tuple vs k2 p2=>exact ww hs j h
   | _=>rfl
 | _=>first | rfl | (simp [iX] at h;done)
theorem nh {elt:Expr} {gens:List Comprehension} {s sc:Scope} {pos px:Pos} {x:Str} {l:Nat} {env:Env} (hs:env.scope=sc) (j:sc.kind = .function) :
 swapsWith (.ListComp elt gens s pos) (some (.Name x px)) l env=pure (qT sc x px (.ListComp elt gens s pos)):=by
 have hb:env.blockKind = .function:=by unfold Env.blockKind;rw [hs,j];rfl
 unfold swapsWith
 dsimp only
 rw [hb]
 unfold qT Env.kindOf
 rw [hs]
 rfl
theorem tW {ek ev:Expr} {gens:List Comprehension} {s sc:Scope} {pos px:Pos} {x:Str} {l:Nat} {env:Env} (hs:env.scope=sc) (j:sc.kind = .function) :
 swapsWith (.DictComp ek ev gens s pos) (some (.Name x px)) l env=pure (sc.names.lookup x==some .local&&px.line==(Expr.DictComp ek ev gens s pos).pos.line && !(s.names.any fun (n,k)=>n==x&&(k == .local || k == .cell))):=by
 have hb:env.blockKind = .function:=by unfold Env.blockKind;rw [hs,j];rfl
 unfold swapsWith
 dsimp only
 rw [hb]
 unfold Env.kindOf
 rw [hs]
 rfl
mutual
theorem sS:∀ (m:MS) (G:Good C Φ k X) (n:C.sc.kind = .function) (s:Stmt),okS m C s=true->PS X s (lS X.K (wS Φ m))
 | .asg g m,G,n,s,h=>by
  simp only [okS] at h
  split at h
  ·rename_i tg e pos
   simp only [Bool.and_eq_true] at h
   obtain ⟨⟨⟨F,he⟩,ha⟩,hc⟩:=h
   have hw:=zm G.sc n ha
   have pg:=sG G g tg F
   have plain:swapsWithSole [tg] e pos.line X.env=pure false->PS X (.Assign [tg] e pos) (lS X.K (gO (wE Φ m) (bG g))):=fun hs =>
    PS.imp (rN (sE m G e he) pg hs hw (by cases tg <;> first | rfl | (simp [iX] at ha;done))) (vU (mE G.mono m))
   cases tg with
   | Tuple ts a b=>exact plain (dv (jE hc))
   | Name x px =>
     cases e with
     | ListComp elt gens sc cpos =>
       by_cases sw:qT C.sc x px (.ListComp elt gens sc cpos)=true
       ·cases g with
        | tup gs=>simp [okG] at F
        | name i =>
          cases m with
          | comp fr N' c =>
            simp only [okE,Bool.and_eq_true] at he
            have B:b9 sc X.env.scope X.N N' fr:=by rw [G.sc,G.N];exact iY he.1
            have B':b9 sc C.sc C.N N' fr:=iY he.1
            have L:PG X (.Name x px) (i4 i):=by
             simp only [okG,Bool.and_eq_true] at F
             exact ox G.nd (by rw [G.N];exact of_decide_eq_true F.1.1) (G.loc F.1.2) (G.own F.2)
            have O:∀ l,swapsWith (.ListComp elt gens sc cpos) (some (.Name x px)) l X.env=pure true:=fun l=>by rw [nh G.sc n,sw]
            have mc:=mCmp G.mono fr c
            cases c with
            | last src g ifs m =>
              have h2:=he.2
              simp only [okC] at h2
              split at h2
              ·rename_i t it fs a
               simp only [Bool.and_eq_true,decide_eq_true_eq] at h2
               obtain ⟨⟨⟨⟨rfl,hi⟩,I⟩,R⟩,q⟩:=h2
               refine PS.imp (io (i:=i) (g:=lG X.K (bG g)) (wi:=lI X.K (wI Φ src)) G.calm G.hx B (fun g' z=>by simp at z) (sI src G _ t hi).1 (fun s H fp=>sG (G.blk B' s H fp) g t I) (tb:=fun p=>lC X.K p (bq (wTl Φ ifs) (ce (wE Φ m)))) (fun s H fp p => ?_) (sI src G _ t hi).2 L (O _)) fun D σ H h => ?_
               ·have G':=G.blk B' s H fp
                exact dr (p:=p) G' (bA (mE G.mono m)) (mTl G.mono ifs) (PB.imp (jh G'.hx (sE m G' elt q) rfl) (fy (mE G.mono m))) (sTl ifs G' fs R)
               ·exact dL (mI G.mono src) (aO (bA (mE G.mono m)) (mTl G.mono ifs)) σ H _ (kg mc D σ H h)
              ·cases h2
            | more src g ifs rest =>
              have h2:=he.2
              simp only [okC] at h2
              split at h2
              ·rename_i t it fs a g2 gs
               simp only [Bool.and_eq_true,decide_eq_true_eq] at h2
               obtain ⟨⟨⟨⟨rfl,hi⟩,I⟩,R⟩,q⟩:=h2
               have S:∀ g',(g2::gs)[0]? = some g'->g'.is_async=0:=fun g' z=>by
                have z':g2=g':=by simpa using z
                subst z'
                exact fH q
               refine PS.imp (io (i:=i) (g:=lG X.K (bG g)) (wi:=lI X.K (wI Φ src)) G.calm G.hx B S (sI src G _ t hi).1 (fun s H fp=>sG (G.blk B' s H fp) g t I) (tb:=fun p=>lC X.K p (bq (wTl Φ ifs) (wCl Φ rest))) (fun s H fp p => ?_) (sI src G _ t hi).2 L (O _)) fun D σ H h => ?_
               ·have G':=G.blk B' s H fp
                exact dr (p:=p) G' (mCl G.mono rest) (mTl G.mono ifs) (sCl rest G' elt (⟨t,it,fs,0⟩::g2::gs) sc cpos 0 (.inl rfl) p q) (sTl ifs G' fs R)
               ·exact dL (mI G.mono src) (aO (mCl G.mono rest) (mTl G.mono ifs)) σ H _ (kg mc D σ H h)
              ·cases h2
          | _=>simp [okE,eY,dh,cOf,kY,kZ,qO,iW,bL,cR,eA,Bc] at he
       ·refine plain ?_
        simp only [Bool.not_eq_true] at sw
        refine dv ?_
        rw [nh G.sc n,sw]
     | SetComp _ _ _ _=>cases m <;> simp [okE,eY,dh,cOf,kY,kZ,qO,iW,bL,cR,eA,Bc] at he
     | DictComp _ _ _ _ _ =>
       refine plain (dv ?_)
       rw [tW G.sc n]
       unfold Be at hc
       simp only [Bool.not_eq_true'] at hc
       rw [hc]
     | _=>exact plain (dv rfl)
   | _=>simp [iX] at ha
  ·cases h
 | .par i j a b,G,n,s,h=>by
  simp only [okS] at h
  split at h
  ·next t u e f hp =>
   split at h
   ·next x hx =>
    split at h
    ·next y hy =>
     obtain ⟨k,p,k',p',pos,rfl⟩:=wq hp
     obtain ⟨px,rfl⟩:=dq hx
     obtain ⟨py,rfl⟩:=dq hy
     simp only [Bool.and_eq_true,decide_eq_true_eq] at h
     obtain ⟨⟨⟨⟨⟨⟨⟨hi,hj⟩,U⟩,n1⟩,n2⟩,ha⟩,hb⟩,hw⟩:=h
     obtain ⟨i1,i2⟩:=oW hi
     obtain ⟨j1,j2⟩:=oW hj
     exact PS.imp (Ai G.calm G.nd (by rw [G.N];exact i1) (by rw [G.N];exact j1) U (by rw [G.sc];exact i2) (by rw [G.sc];exact j2) (bc (mE G.mono a) (al (mE G.mono b) am) (sE a G _ ha) (bc (mE G.mono b) am (sE b G _ hb) cM (af n2)) (af n1)) (zk G.sc n hw) (dv rfl)) (tw (al (mE G.mono a) (al (mE G.mono b) am)))
    ·cases h
   ·cases h
  ·cases h
 | .put o i m,G,n,s,h=>by
  simp only [okS] at h
  split at h
  ·rename_i x y tp e pos
   simp only [Bool.and_eq_true] at h
   obtain ⟨⟨⟨⟨J,hc⟩,ho⟩,hi⟩,he⟩:=h
   exact B5 (by have:=G.units;lia) (mE G.mono m) (mE G.mono o) (mE G.mono i) (sE m G e he) (sE o G x ho) (sE i G y hi) (dv (jE hc)) rfl (fun v=>by cases y <;> first | rfl | (simp [cD] at J;done))
  ·cases h
 | .augI o i op m,G,n,s,h=>by
  simp only [okS] at h
  split at h
  ·rename_i x y tp o' e pos
   simp only [Bool.and_eq_true,decide_eq_true_eq] at h
   obtain ⟨⟨⟨⟨⟨rfl,Y⟩,J⟩,ho⟩,hi⟩,he⟩:=h
   have Z:X.A.units+1 < cLine:=by have:=G.units;lia
   have ha:∀ ov iv new,augStore y ov iv new=(do holding [new,ov,iv] (setItem ov iv new);release [new,ov,iv] [];pure .next):=fun ov iv new=>by cases y <;> first | rfl | (simp [cD] at J;done)
   cases op with
   | add=>exact jz Z (mE G.mono o) (mE G.mono i) (mE G.mono m) ki (sE o G x ho) (sE i G y hi) (sE m G e he) tf ha
   | sub=>exact jz Z (mE G.mono o) (mE G.mono i) (mE G.mono m) kj (sE o G x ho) (sE i G y hi) (sE m G e he) tj ha
   | mul=>exact jz Z (mE G.mono o) (mE G.mono i) (mE G.mono m) km (sE o G x ho) (sE i G y hi) (sE m G e he) tu ha
   | _=>simp at Y
  ·cases h
 | .drop m,G,n,s,h=>by
  simp only [okS] at h
  split at h
  ·simp only [Bool.and_eq_true] at h
   exact PS.imp (xY (sE m G _ h.2) (jE h.1)) (t9 (mE G.mono m))
  ·cases h
 | .ret m,G,n,s,h=>by
  simp only [okS] at h
  split at h
  ·rw [wS]
   exact PS.imp (Ad (sE m G _ h)) (vT (mE G.mono m))
  ·cases h
 | .ite c a b,G,n,s,h=>by
  simp only [okS] at h
  split at h
  ·simp only [Bool.and_eq_true] at h
   exact PS.imp (BM (sT c G _ h.1.1) (sSs a G n _ h.1.2) (sSs b G n _ h.2)) (yP (mT G.mono c))
  ·cases h
 | .for g src b,G,n,s,h=>by
  simp only [okS] at h
  split at h
  ·simp only [Bool.and_eq_true] at h
   obtain ⟨⟨⟨hs,F⟩,hi⟩,hb⟩:=h
   exact PS.imp (Al (fun e s z=>(G.hx e s z).elim) G.calm (sI src G _ _ hi).1 (sG G g _ F) (sSs b G n _ hb) (nc hs)) (vW (mI G.mono src) (mSs G.mono b))
  ·cases h
 | .while c b,G,n,s,h=>by
  simp only [okS] at h
  split at h
  ·simp only [Bool.and_eq_true] at h
   exact PS.imp (uN (fun e s z=>(G.hx e s z).elim) (sT c G _ h.1) (sSs b G n _ h.2)) (qA (mT G.mono c) (mSs G.mono b))
  ·cases h
 | .frz i m,G,n,s,h=>by
  simp only [okS] at h
  exact B7 (sS m G n s h)
 | .pass,G,n,s,h=>by
  simp only [okS] at h
  split at h
  ·exact PS.imp xX kf
  ·cases h
 | .brk,G,n,s,h=>by
  simp only [okS] at h
  split at h
  ·exact PS.imp uL qw
  ·cases h
 | .cnt,G,n,s,h=>by
  simp only [okS] at h
  split at h
  ·exact PS.imp nY t8
  ·cases h
theorem sSs:∀ (m:MSs) (G:Good C Φ k X) (j:C.sc.kind = .function) (s:List Stmt),okSs m C s=true->PSs X s (lS X.K (wSs Φ m))
 | .nil,G,j,s,h=>by
  simp [okSs] at h;subst h
  exact PSs.imp xW kf
 | .cons m r,G,j,[],h=>by simp [okSs] at h
 | .cons m r,G,j,s::ss,h=>by
  simp only [okSs,Bool.and_eq_true] at h
  exact PSs.imp (uK (sS m G j s h.1) (sSs r G j ss h.2)) (vS (mS G.mono m) (mSs G.mono r))
end
end
end
section
structure FD where
 name:Str
 st:Stmt
 N:List Str
 np:Nat
 body:MSs
noncomputable def eB (N:List Str) (ds:List D):av:=ds.map some++List.replicate (N.length - ds.length) none
noncomputable def phi (T:List FD):Nat->Phi
 | 0=>fun _ _ _ _=>False
 | k+1=>fun f ds M Q => ∃ d,T[f]? = some d/\ds.length=d.np/\wSs (phi T k) d.body { nx:=fun _ M'=>Q .non M',rt:=Q } (eB d.N ds) M
theorem gY (T:List FD):∀ k f,aY (phi T k f)
 | 0,f=>fun _ _ _ _ _ q=>q.elim
 | k+1,f=>fun ds M Q Q' h ⟨d,e,l,q⟩=>⟨d,e,l,mSs (gY T k) d.body { nx:=fun _ M'=>Q .non M',rt:=Q } { nx:=fun _ M'=>Q' .non M',rt:=Q' } _ _ ⟨fun _ M' q'=>h _ _ q',h,fun _ _ z=>z,fun _ _ z=>z⟩ q⟩
noncomputable def qW (Γ:List Str) (cs:List (Str×D)) (d:FD):Bool :=
 decide ((ay d.st).kind = .function) && !(ay d.st).isCoroutine && !(ay d.st).isGenerator&&decide (d.N.Nodup)&&decide (d.np<=d.N.length)
  && (d.N.take d.np).all (fun x=>(ay d.st).names.lookup x==some .local || (ay d.st).names.lookup x==some .cell)
  && (ay d.st).names.all (fun y => !(y.2 == .free))&&okSs d.body ⟨Γ,d.N,ay d.st,d.N,cs⟩ (bV d.st)
theorem wy {Γ:List Str} {cs:List (Str×D)} {d:FD} (h:qW Γ cs d=true):fR d.N (d.N.take d.np) (ay d.st)/\(d.N.take d.np).length=d.np/\okSs d.body ⟨Γ,d.N,ay d.st,d.N,cs⟩ (bV d.st)=true:=by
 simp only [qW,Bool.and_eq_true,decide_eq_true_eq,Bool.not_eq_true'] at h
 obtain ⟨⟨⟨⟨⟨⟨⟨h1,h2⟩,n⟩,q⟩,I⟩,B⟩,F⟩,G⟩:=h
 have j:(d.N.take d.np).length=d.np:=by rw [List.length_take];lia
 refine ⟨⟨h1,h2,n,q,by rw [j],fun x hx => ?_,fun y hy e => ?_⟩,j,G⟩
 ·have z:=List.all_eq_true.mp B x hx
  simpa using z
 ·have z:=List.all_eq_true.mp F y hy
  rw [e] at z
  simp at z
section
variable {P:Program} {w:World} {K:Frag} {mg:Str->Option Value} {base:Heap}
structure xH (K:Frag) (mg:Str->Option Value) (T:List FD) (cs:List (Str×D)):Prop where
 blt:∀ x∈bltNames,mg x=none
 fns:∀ (i:Nat) (d:FD),T[i]? = some d -> ∃ f fd,Fun K d.name d.name d.st f fd/\mg d.name=some (.ref f)/\Binds K fd (d.N.take d.np) []
 ok:∀ d∈T,qW (T.map (·.name)) cs d=true
 cst:∀ x d,(x,d)∈cs -> ∃ u,mg x=some u/\GV K d u
theorem tX {T:List FD} {cs:List (Str×D)} (O:xH K mg T cs):∀ (k i:Nat) (d:FD) (f:Addr) (fd:FuncData),T[i]? = some d->Fun K d.name d.name d.st f fd->dB P w K mg base CX0 k f fd (d.N.take d.np) (lSp K (phi T k i))
 | 0,i,d,f,fd,e,F=>⟨fun vs H Q E h=>by obtain ⟨ds,M,_,_,q⟩:=h;exact q.elim,fun A outer s H args us vs Q E _ _ _ _ h=>by obtain ⟨ds,M,_,_,q⟩:=h;exact q.elim⟩
 | k+1,i,d,f,fd,e,F=>by
   obtain ⟨S,R,hb⟩:=wy (O.ok d (List.mem_of_getElem? e))
   refine F.ok S (fun vs H Q E h => ?_) fun cdv A outer s H vs Q E U h => ?_
   ·obtain ⟨ds,M,rm,rs,d',e',l,q⟩:=h
    rw [e] at e';cases e'
    rw [rs.length,l,R]
   ·obtain ⟨ds,M,rm,rs,d',e',l,q⟩:=h
    rw [e] at e';cases e'
    have G:Good ⟨T.map (·.name),d.N,ay d.st,d.N,cs⟩ (phi T k) k ((gE CX0 P w K mg base d.N d.name (ay d.st) f cdv A outer s H E).nox):=by
     refine ⟨fun _ _ z=>z,rfl,rfl,rfl,S.nd,fun _ _=>rfl,U,O.blt,fun j x hx => ?_,gY T k,O.cst⟩
     have n:(T.map (·.name))[j]? = some x:=hx
     rw [List.getElem?_map] at n
     cases e2:T[j]? with
     | none=>rw [e2] at n;cases n
     | some d2 =>
       rw [e2] at n;cases n
       obtain ⟨f2,J,L,Y,b2⟩:=O.fns j d2 e2
       exact ⟨f2,J,_,Y,L.kp,b2,tX O k j d2 f2 J e2 L⟩
    refine ⟨_,sSs d.body G S.kind _ hb,eB d.N ds,M, { nx:=fun _ M'=>KE' K M H Q .non M',rt:=KE' K M H Q }, ?_,rm,⟨fun ρ M' σ H' x rs' rm' q' => ?_,fun d M' v H' x rm' rd' q'=>q' v H' x rm' rd',fun _ _ _ _ _ _ _ z=>z,fun _ _ _ _ _ _ _ z=>z⟩,q⟩
    ·refine ⟨by simp [cI,eB,rs.length],fun j dd B => ?_⟩
     unfold eB at B
     unfold cI
     by_cases I:j < ds.length
     ·rw [List.getElem?_append_left (by simpa using I),List.getElem?_map] at B
      cases e3:ds[j]? with
      | none=>rw [e3] at B;cases B
      | some z =>
        rw [e3] at B;cases B
        obtain ⟨v,Z,rv⟩:=rs.get e3
        refine ⟨v, ?_,rv⟩
        rw [List.getElem?_append_left (by rw [List.length_map,rs.length];exact I),List.getElem?_map,Z];rfl
     ·rw [List.getElem?_append_right (by simpa using I),List.getElem?_replicate] at B
      split at B <;> cases B
    ·exact q' .non H' x rm' (RD.non_iff.mpr rfl)
theorem Bh {T:List FD} {k i:Nat} {H:Hp} {a:Addr} {ns:List Int} (n:qg H) (B:SqL K H a (ns.map V.int)) (h:phi T k i [.con (ns.map D.int)] (fun _=>none) fun d _=>d = .bl true) :
 lSp K (phi T k i) [.ref a] H (fun v _=>v = .bl true) fun _ _ _=>False:=by
 have j:RM K (fun _=>none) H:=fun _ _ z=>by cases z
 refine ⟨[.con (ns.map D.int)],fun _=>none,j,RDs.cons (RD.con_iff.mpr ⟨a,ns.map V.int,rfl, ?_,RDs.ints ns⟩) RDs.nil,gY T k i [.con (ns.map D.int)] (fun _=>none) (fun d _=>d = .bl true) (KE' K (fun _=>none) H fun v _=>v = .bl true) (fun d M' e=>fun v H' x rm rd => ?_) h⟩
 ·rcases B with (z | ⟨o,z⟩) | z
  ·rcases n a with q | ⟨o,xs,q⟩
   ·rw [z] at q;cases q
   ·rw [z] at q;cases q
  ·exact .inl ⟨o,z⟩
  ·exact .inr z
 ·subst e
  exact RD.bl_iff.mp rd
end
theorem Cj (us:List Value) (h:us.length=0):us=[]:=List.length_eq_zero_iff.mp h
theorem dO (us:List Value) (h:us.length=1):∃ a,us=[a]:=List.length_eq_one_iff.mp h
theorem cL (us:List Value) (h:us.length=2):∃ a b,us=[a,b]:=by
 cases us with
 | nil=>cases h
 | cons a us=>obtain ⟨b,rfl⟩:=dO us (Nat.succ.inj h);exact ⟨a,b,rfl⟩
theorem iZ (us:List Value) (h:us.length=3):∃ a b c,us=[a,b,c]:=by
 cases us with
 | nil=>cases h
 | cons a us=>obtain ⟨b,c,rfl⟩:=cL us (Nat.succ.inj h);exact ⟨a,b,c,rfl⟩
theorem lf (us:List Value) (h:us.length=4):∃ a b c d,us=[a,b,c,d]:=by
 cases us with
 | nil=>cases h
 | cons a us=>obtain ⟨b,c,d,rfl⟩:=iZ us (Nat.succ.inj h);exact ⟨a,b,c,d,rfl⟩
end
section
theorem Bi {T:List FD} {k f:Nat} {d:FD} {ds:List D} {M:Mem} {Q:QD} (e:T[f]? = some d) (l:ds.length=d.np) {ρ:av} (r:eB d.N ds = ρ)
 (h:wSs (phi T k) d.body { nx:=fun _ M'=>Q .non M',rt:=Q } ρ M):phi T (k+1) f ds M Q:=⟨d,e,l,by rw [r];exact h⟩
theorem aq {T:List FD} {n f:Nat} {d:FD} {ds:List D} {M:Mem} {Q:QD} (hn : 1<=n) (e:T[f]? = some d) (l:ds.length=d.np) {ρ:av} (r:eB d.N ds = ρ)
 (h:wSs (phi T (n - 1)) d.body { nx:=fun _ M'=>Q .non M',rt:=Q } ρ M):phi T n f ds M Q:=by
 obtain ⟨k,rfl⟩:∃ k,n=k+1:=⟨n - 1,by lia⟩
 exact Bi e l r h
theorem zn {Φ:Phi} {D:bu} {ρ:av} {M:Mem}:wSs Φ .nil D ρ M=D.nx ρ M:=by rw [wSs];rfl
theorem bH {Φ:Phi} {s:MS} {r:MSs} {D:bu} {ρ:av} {M:Mem}:wSs Φ (.cons s r) D ρ M=wS Φ s { D with nx:=wSs Φ r D } ρ M:=by rw [wSs];rfl
theorem oX {ds:List D} {y:D} {M:Mem} {Q:QD}:wIx (.tup ds) y M Q = ∃ i d,y = .int i/\atI ds i=some d/\Q d M:=rfl
theorem oY {ds:List D} {y:D} {M:Mem} {Q:QD}:wIx (.con ds) y M Q = ∃ i d,y = .int i/\atI ds i=some d/\Q d M:=rfl
theorem aA {a:Addr} {i:Int} {ds:List D} {d:D} {M:Mem} {Q:QD} (h:M a=some (.lst ds)) (e:atI ds i=some d) (q:Q d M):wIx (.ref a) (.int i) M Q := .inl ⟨ds,i,d,h,rfl,e,q⟩
theorem eZ {a:Addr} {i:Int} {ds:List D} {v:D} {j:Nat} {M:Mem} {Q:Mem->Prop} (h:M a=some (.lst ds)) (e:ixN ds.length i=some j) (q:Q (ag M a (.lst (ds.set j v)))):eV (.ref a) (.int i) v M Q:=⟨a,rfl, .inl ⟨ds,i,j,rfl,h,e,q⟩⟩
theorem jF {a:Addr} {ds:List D} {M:Mem} {Q:QD} (h:M a=some (.lst ds)) (q:Q (.int ds.length) M):eP [.ref a] M Q:=⟨_,_,rfl,by simp only [gJ,h],q⟩
theorem ae {a:Addr} {ds:List D} {M:Mem} (h:M a=some (.lst ds)):ar M (.ref a)=some ds:=by simp only [ar,h]
theorem Bj {i:Int} {M:Mem} {Q:QD}:lP [.int i] M Q=Q (.int i) M:=by
 apply propext;constructor
 ·rintro (⟨j,e,q⟩ | ⟨k,e,q⟩)
  ·cases e;exact q
  ·cases e
 ·exact fun q => .inl ⟨i,rfl,q⟩
theorem Bk {b:Bool} {M:Mem} {Q:QD}:lP [.bl b] M Q=Q (.int (if b then 1 else 0)) M:=by
 apply propext;constructor
 ·rintro (⟨j,e,q⟩ | ⟨k,e,q⟩)
  ·cases e
  ·cases e;exact q
 ·exact fun q => .inr ⟨b,rfl,q⟩
theorem Ck {i j:Int} {M:Mem} {Q:QD}:wEq (.int i) (.int j) M Q=Q (.bl (i==j)) M:=by
 simp [wEq,rb,PyData.eqv]
theorem Cl {i j:Int} {M:Mem} {Q:QD}:wNe (.int i) (.int j) M Q=Q (.bl (!(i==j))) M:=by
 simp [wNe,rb,PyData.eqv]
theorem tY {i j:Int} {M:Mem} {Q:QD}:gH (.int i) (.int j) M Q=Q (.int (i+j)) M:=rfl
theorem tZ {a b:List D} {M:Mem} {Q:QD}:gH (.tup a) (.tup b) M Q=((a≠[]∨True)/\a.length+b.length<=sizeLine/\Q (.tup (a++b)) M):=rfl
theorem u4 {i j:Int} {M:Mem} {Q:QD}:jo (.int i) (.int j) M Q=Q (.int (i - j)) M:=rfl
theorem u5 {i j:Int} {M:Mem} {Q:QD}:gI (.int i) (.int j) M Q=(MulOk i j/\Q (.int (i*j)) M):=rfl
theorem u6 {ds:List D} {k:Int} {M:Mem} {Q:QD}:gI (.tup ds) (.int k) M Q=(-(2 ^ 63)<=k/\k < 2 ^ 63/\ds.length*k.toNat<=sizeLine/\Q (.tup (List.replicate k.toNat ds).flatten) M):=rfl
theorem oZ {i j:Int} {M:Mem} {Q:QD}:kS (.int i) (.int j) M Q=(0 < j/\j < 2 ^ 256/\Q (.int (i / j)) M):=rfl
theorem u7 {i j:Int} {M:Mem} {Q:QD}:qk (.int i) (.int j) M Q=(0 < j/\Q (.int (i % j)) M):=rfl
theorem u8 {i j:Int} {M:Mem} {Q:QD}:ql (.int i) (.int j) M Q=(0<=j/\j<=1000000/\i.natAbs < 2 ^ 64/\Q (.int (i ^ j.toNat)) M):=rfl
theorem xI {i j:Int} {M:Mem} {Q:QD}:wLt (.int i) (.int j) M Q=Q (.bl (decide (i < j))) M:=rfl
theorem xJ {i j:Int} {M:Mem} {Q:QD}:wLe (.int i) (.int j) M Q=Q (.bl (decide (i<=j))) M:=rfl
theorem qX {i j:Int} {M:Mem} {Q:QD}:wGt (.int i) (.int j) M Q=Q (.bl (decide (j < i))) M:=rfl
theorem xK {i j:Int} {M:Mem} {Q:QD}:wGe (.int i) (.int j) M Q=Q (.bl (decide (j<=i))) M:=rfl
theorem p5 {i j:Int} {M:Mem} {Q:QD}:kU (.int i) (.int j) M Q=Q (.int (i+j)) M:=rfl
theorem p6 {i j:Int} {M:Mem} {Q:QD}:kW (.int i) (.int j) M Q=Q (.int (i - j)) M:=rfl
theorem p8 {i j:Int} {M:Mem} {Q:QD}:kX (.int i) (.int j) M Q=(MulOk i j/\Q (.int (i*j)) M):=rfl
theorem u9 {i:Int} {M:Mem} {Q:QD}:qm (.int i) M Q=Q (.int (-i)) M:=rfl
theorem Bl {i:Int} {M:Mem} {Q:QD}:lN [.int i] M Q=Q (.int (if i < 0 then -i else i)) M:=by simp [lN]
theorem zo {i j:Int} {M:Mem} {Q:QD}:kT [.int i, .int j] M Q=Q (.int (if j < i then j else i)) M:=by
 apply propext;constructor
 ·rintro ⟨a,b,e,q⟩;cases e;exact q
 ·exact fun q=>⟨i,j,rfl,q⟩
theorem Bm {ds:List D} {M:Mem} {Q:QD}:eP [.con ds] M Q=Q (.int ds.length) M:=by simp [eP,gJ]
theorem Bn {ds:List D} {M:Mem} {Q:QD}:eP [.tup ds] M Q=Q (.int ds.length) M:=by simp [eP,gJ]
theorem ua {ds:List D} {M:Mem}:ar M (.tup ds)=some ds:=rfl
theorem ub {ds:List D} {M:Mem}:ar M (.con ds)=some ds:=rfl
theorem xL {α:Sort _} {a b : α}:(if true=true then a else b)=a:=rfl
theorem xM {α:Sort _} {a b : α}:(if false=true then a else b)=b:=rfl
theorem zp {ta tb:TEd} {ρ:av} {M:Mem} {R:List D->(Mem->Prop)->Mem->Prop}:m8 ta tb ρ M R=ta ρ M fun x j=>tb ρ j fun y M2 => ∃ xs ys,ar M2 x=some xs/\ar M2 y=some ys/\R (List.zipWith eT xs ys) (fun M=>ar M x=some xs/\ar M y=some ys) M2:=by
 unfold m8 az
 congr 1;funext x j
 unfold bn
 congr 1;funext y M2
 apply propext;constructor
 ·rintro ⟨x',y',xs,ys,e,q⟩
  cases e;exact ⟨xs,ys,q⟩
 ·rintro ⟨xs,ys,q⟩
  exact ⟨x,y,xs,ys,rfl,q⟩
theorem wz {ta tb tc:TEd} {ρ:av} {M:Mem} {R:List D->(Mem->Prop)->Mem->Prop}:iE ta tb tc ρ M R=ta ρ M fun x n=>tb ρ n fun y M2=>tc ρ M2 fun z j => ∃ xs ys zs,x = .tup xs/\z = .tup zs/\isT y=false/\ar j y=some ys/\R (z3D xs ys zs) (fun M=>ar M y=some ys) j:=by
 unfold iE az
 congr 1;funext x n;congr 1;funext y M2;congr 1;funext z j
 apply propext
 constructor
 ·rintro ⟨xs,y',ys,zs,e,q⟩
  cases e;exact ⟨xs,ys,zs,rfl,rfl,q⟩
 ·rintro ⟨xs,ys,zs,rfl,rfl,q⟩
  exact ⟨xs,y,ys,zs,rfl,q⟩
theorem uc {x y:Str} {M:Mem} {Q:QD}:gH (.str x) (.str y) M Q=(x.length+y.length<=sizeLine/\Q (.str (x++y)) M):=rfl
local macro_rules | `(tactic| walk_at "wp") => `(tactic| ((try dsimp only [wS,wE,wA,wAnds,wOrs,wO,wT,wAndTs,wOrTs,wTl,wI,wCl,wCmp,bG,bGs,opB,opC,opF,opM,qN,opI,bS,wC,wOp,wUn,bn,az,wAr,gF,lH,lJ,lX,iu,iw,lY,iy,lZ,iz,wIf,eh,iA,wSl,iB,fE,iK,iP,wBM,bm,eR,bE,jx,jy,iF,iU,iD,ce,bq,cC,fX,jm,fY,md,fA,iH,iI,mf,sIf,gO,mj,mn,fB,mq,iJ,tY,tZ,uc,u4,u5,u6,oZ,u7,u8,xI,xJ,qX,xK,p5,p6,p8,u9,ua,ub,oX,oY,xL,xM,List.getElem?_cons_zero,List.getElem?_cons_succ,List.set_cons_zero,List.set_cons_succ,Option.bind_some,Option.map_some,Option.join_some,Option.bind_none,Option.join_none,List.map_cons,List.map_nil,List.length_cons,List.length_nil]);(try simp only [wS,wE,wA,wAnds,wOrs,wO,wT,wAndTs,wOrTs,wTl,wI,wCl,wCmp,bG,bGs,opB,opC,opF,opM,qN,opI,bS,wC,wOp,wUn,bn,az,wAr,gF,lH,lJ,lX,iu,iw,lY,iy,lZ,iz,wIf,eh,iA,wSl,iB,fE,iK,iP,wBM,bm,eR,bE,jx,jy,zp,wz,iF,iU,iD,ce,bq,cC,fX,jm,fY,md,fA,iH,iI,mf,sIf,gO,mj,mn,fB,mq,iJ,zn,
 tY,tZ,uc,u4,u5,u6,oZ,u7,u8,xI,xJ,qX,xK,p5,p6,p8,u9,Bj,Bk,Ck,Cl,Bl,zo,Bm,Bn,ua,ub,oX,oY,xL,xM,Bool.false_eq_true,if_false,if_true,
 List.getElem?_cons_zero,List.getElem?_cons_succ,List.set_cons_zero,List.set_cons_succ,Option.some.injEq,exists_eq_left',exists_eq_left,exists_eq_right,exists_and_left,exists_and_right,D.bl.injEq,D.int.injEq,D.ref.injEq,D.tup.injEq,Option.bind_some,Option.map_some,Option.join_some,Option.bind_none,Option.join_none,List.map_cons,List.map_nil,decide_eq_true_eq,List.cons.injEq,and_true,true_and,List.length_cons,List.length_nil])))
local macro_rules | `(tactic| walk_at "st") => `(tactic| ((first | rw [bH] | (dsimp only;rw [bH]));walk_at "wp"))
theorem Bo {a:Addr} {t:Bool} {kvs:List (D×D)} {k d:D} {M:Mem} {Q:QD} (h:M a=some (.dct t kvs)) (ok:fT t k=true) (e:dget kvs k=some d) (q:Q d M):wIx (.ref a) k M Q := .inr (.inl ⟨t,kvs,d,h,ok,e,q⟩)
theorem ud {a:Addr} {kvs:List (D×D)} {k d:D} {M:Mem} {Q:QD} (h:M a=some (.fdc kvs)) (ok:bR k=true) (e:dget kvs k=some d) (q:Q d M):wIx (.ref a) k M Q := .inr (.inr ⟨kvs,d,h,ok,e,q⟩)
theorem zq {i:Nat} {t:TSd} {A:bu} {ρ:av} {M:Mem} {a:Addr} {kvs:List (D×D)} (e : ρ[i]? = some (some (.ref a))) (m:M a=some (.dct true kvs)) (h:t A ρ (ag M a (.fdc kvs))):qL i t A ρ M:=⟨a,kvs,e, .inl ⟨m,h⟩⟩
theorem ni {a:Addr} {t:Bool} {kvs:List (D×D)} {k v:D} {M:Mem} {Q:Mem->Prop} (h:M a=some (.dct t kvs)) (ok:fT t k=true) (j:kvs.length < sizeLine) (q:Q (ag M a (.dct t (cj kvs k v)))):eV (.ref a) k v M Q:=⟨a,rfl, .inr ⟨t,kvs,h,ok,j,q⟩⟩
noncomputable def Ge (M M':Mem):Prop := ∀ a o,M a=some o->M' a=some o
theorem Ge.refl {M:Mem}:Ge M M:=fun _ _ h=>h
theorem Ge.trans {M M' M'':Mem} (h:Ge M M') (g:Ge M' M''):Ge M M'':=fun _ _ e=>g _ _ (h _ _ e)
theorem Ge.new {M:Mem} {p:Addr} {o:O} (h:M p=none):Ge M (ag M p o):=fun a o' e=>by
 rw [aK (fun z=>by rw [z,h] at e;cases e)];exact e
noncomputable def Box (b:Addr) (M:Mem):Prop := ∃ x y z:Int,M b=some (.lst [.int x, .int y, .int z])
structure Bx (b:Addr) (M M':Mem):Prop where
 box:Box b M'
 keep:∀ a o,a≠b->M a=some o->M' a=some o
theorem Bx.refl {b:Addr} {M:Mem} (h:Box b M):Bx b M M:=⟨h,fun _ _ _ e=>e⟩
theorem Bx.trans {b:Addr} {M M' M'':Mem} (h:Bx b M M') (g:Bx b M' M''):Bx b M M'':=⟨g.box,fun a o n e=>g.keep a o n (h.keep a o n e)⟩
theorem Bx.ge {b:Addr} {M M' M'':Mem} (h:Bx b M M') (g:Ge M' M''):Bx b M M'':=⟨by obtain ⟨x,y,z,e⟩:=h.box;exact ⟨x,y,z,g _ _ e⟩,fun a o n e=>g _ _ (h.keep a o n e)⟩
theorem Bx.put {b:Addr} {M:Mem} {x y z:Int}:Bx b M (ag M b (.lst [.int x, .int y, .int z])):=⟨⟨x,y,z,ad⟩,fun a o n e=>by rw [aK n];exact e⟩
theorem Bx.of {b:Addr} {M M':Mem} (h:Box b M) (g:Ge M M'):Bx b M M':=(Bx.refl h).ge g
section
variable {T:List FD}
noncomputable def j3 (s:Stmt):FD:=⟨"_law_cell_at",s,["_law_script", "_law_k"],2,
 (.cons (.ite (.cmp .lt (.var 1) (.blt .len (.cons (.var 0) .nil))) (.cons (.ret (.ix (.var 0) (.var 1)))
 .nil) .nil)
 (.cons (.ret (.int 0))
 .nil))⟩
theorem wB {α:Type} {xs:List α} {i:Int} (h0 : 0<=i) (h1:i < xs.length):∃ x,atI xs i=some x/\xs[i.toNat]? = some x:=by
 have:i.toNat < xs.length:=by lia
 refine ⟨xs[i.toNat], ?_,List.getElem?_eq_getElem this⟩
 unfold atI ixN
 simp [h0,h1,List.getElem?_eq_getElem this]
theorem zr {f:Nat} {s:Stmt} (hf:T[f]? = some (j3 s)) {n:Nat} (hn : 1<=n) {ns:List Int} {k:Int} {M:Mem} {Q:QD} (h0 : 0<=k) (q:∀ i,Q (.int i) M):phi T n f [.con (ns.map D.int), .int k] M Q:=by
 refine aq hn hf rfl (ρ := [some _,some _]) rfl ?_
 unfold j3
 walk_at "st"
 split
 ·next h =>
  walk_at "st"
  obtain ⟨x,e,e2⟩:=wB (xs:=ns.map D.int) h0 h
  rw [List.getElem?_map] at e2
  cases e3:ns[k.toNat]? with
  | none=>rw [e3] at e2;cases e2
  | some y=>rw [e3] at e2;cases e2;exact ⟨_,e,q y⟩
 ·walk_at "st"
  exact q 0
theorem aL {i j:Int} (h : -(2 ^ 64) < i/\i < 2 ^ 64):MulOk i j := .inl h
theorem jG {i j:Int} (h : -(2 ^ 64) < j/\j < 2 ^ 64):MulOk i j := .inr (.inl h)
noncomputable def pc (s:Stmt):FD:=⟨"_law_mixed",s,["_law_number_here", "_law_k", "_law_once", "_law_twice"],2,
 (.cons (.asg (.name 2) (.bin .mod (.bin .mul (.bin .add (.bin .add (.bin .mod (.var 0) (.int 1000000007)) (.bin .mul (.int 7) (.var 1))) (.int 1)) (.int 48271)) (.int 2147483647)))
 (.cons (.asg (.name 3) (.bin .mod (.bin .mul (.var 2) (.bin .add (.bin .add (.bin .mod (.var 2) (.int 1009)) (.var 1)) (.int 3))) (.int 998244353)))
 (.cons (.ret (.bin .fdiv (.bin .mod (.bin .add (.bin .mul (.var 3) (.int 39373)) (.var 2)) (.int 2147483629)) (.int 64)))
 .nil)))⟩
noncomputable def qY (s:Stmt) (fc fm:Nat):FD:=⟨"_law_box",s,["_law_script", "_law_k", "_law_cell"],2,
 (.cons (.asg (.name 2) (.call fc (.cons (.var 0) (.cons (.var 1) .nil))))
 (.cons (.ret (.lst (.cons (.bin .mul (.blt .abs (.cons (.var 2) .nil)) (.blt .int (.cons (.cmp .ge (.blt .abs (.cons (.var 2) .nil)) (.bin .pow (.int 10) (.int 18))) .nil))) (.cons (.call fm (.cons (.var 2) (.cons (.bin .add (.int 900) (.var 1)) .nil))) (.cons (.int 0) .nil)))))
 .nil))⟩
theorem Bp {f fc fm:Nat} {s sc:Stmt} (hf:T[f]? = some (qY s fc fm)) (z:T[fc]? = some (j3 sc)) {n:Nat} (B:∀ {x k:Int} {M:Mem} {Q:QD},(∀ i,Q (.int i) M)->phi T (n - 1) fm [.int x, .int k] M Q) (hn : 2<=n) {ns:List Int} {k:Int} {M:Mem} {Q:QD} (h0 : 0<=k)
 (q:∀ p x y,M p=none->Q (.ref p) (ag M p (.lst [.int x, .int y, .int 0]))):phi T n f [.con (ns.map D.int), .int k] M Q:=by
 refine aq (by lia) hf rfl (ρ := [some _,some _,none]) rfl ?_
 unfold qY
 walk_at "st"
 refine zr z (by lia) h0 fun i => ?_
 walk_at "st"
 refine ⟨by decide,by decide,by decide,jG ?_, ?_⟩
 ·split <;> lia
 refine B fun j => ?_
 exact ⟨by rw [sizeLine_eq];lia,fun p hp=>q p _ _ hp⟩
noncomputable def nj (s:Stmt) (fm:Nat):FD:=⟨"_law_take",s,["_law_box_here", "_law_many", "_law_found", "_law_reach"],2,
 (.cons (.ite (.cmp .gt (.ix (.var 0) (.int 0)) (.int 0)) (.cons (.asg (.name 2) (.bin .mod (.ix (.var 0) (.int 0)) (.var 1)))
 (.cons (.put (.var 0) (.int 0) (.bin .fdiv (.ix (.var 0) (.int 0)) (.var 1)))
 (.cons (.ret (.var 2))
 .nil))) .nil)
 (.cons (.asg (.tup (.cons (.name 2) (.cons (.name 3) .nil))) (.tup (.cons (.int 0) (.cons (.int 1) .nil))))
 (.cons (.while (.cmp .lt (.var 3) (.var 1)) (.cons (.put (.var 0) (.int 2) (.bin .add (.ix (.var 0) (.int 2)) (.int 1)))
 (.cons (.asg (.name 2) (.bin .add (.bin .mul (.var 2) (.int 33554432)) (.call fm (.cons (.ix (.var 0) (.int 1)) (.cons (.ix (.var 0) (.int 2)) .nil)))))
 (.cons (.asg (.name 3) (.bin .mul (.var 3) (.int 33554432)))
 .nil))))
 (.cons (.ret (.bin .mod (.var 2) (.var 1)))
 .nil))))⟩
noncomputable def qZ (T:List FD) (n fm:Nat):Prop := ∀ {x k:Int} {M:Mem} {Q:QD},(∀ i,Q (.int i) M)->phi T n fm [.int x, .int k] M Q
theorem zt {f fm:Nat} {s:Stmt} (hf:T[f]? = some (nj s fm)) {n:Nat} (I:qZ T (n - 1) fm) (hn : 2<=n) {b:Addr} {m:Int} {M:Mem} {Q:QD} (hb:Box b M) (h1 : 0 < m) (h2:m<=2 ^ 100)
 (q:∀ r M',0<=r->r < m->Bx b M M'->Q (.int r) M'):phi T n f [.ref b, .int m] M Q:=by
 refine aq (by lia) hf rfl (ρ := [some _,some _,none,none]) rfl ?_
 unfold nj
 obtain ⟨x,y,z,G⟩:=hb
 walk_at "st"
 refine aA G (d := .int x) rfl ?_
 simp only [qX]
 walk_at "wp"
 split
 ·next hx =>
  walk_at "st"
  refine aA G (d := .int x) rfl ?_
  walk_at "wp"
  refine ⟨h1, ?_⟩
  walk_at "st"
  refine aA G (d := .int x) rfl ?_
  walk_at "wp"
  refine ⟨h1,by lia, ?_⟩
  refine eZ G (j := 0) rfl ?_
  walk_at "st"
  exact q _ _ (Int.emod_nonneg _ (by lia)) (Int.emod_lt_of_pos _ h1) Bx.put
 ·next hx =>
  walk_at "st"
  refine ⟨by rw [sizeLine_eq];lia, ?_⟩
  walk_at "st"
  refine ⟨5, ?_⟩
  have go:∀ (f:Nat) (found reach z:Int) (M':Mem),m<=reach*33554432 ^ f->M' b=some (.lst [.int x, .int y, .int z])->Bx b M M' ->
   bb (gF (wOp wLt (bS 3) (bS 1))) (wSs (phi T (n - 1)) (MSs.cons (MS.put (ME.var 0) (ME.int 2) (ME.bin BOp.add ((ME.var 0).ix (ME.int 2)) (ME.int 1)))
    (MSs.cons (MS.asg (MG.name 2) (ME.bin BOp.add (ME.bin BOp.mul (ME.var 2) (ME.int 33554432)) (ME.call fm (MEs.cons ((ME.var 0).ix (ME.int 1)) (MEs.cons ((ME.var 0).ix (ME.int 2)) MEs.nil)))))
      (MSs.cons (MS.asg (MG.name 3) (ME.bin BOp.mul (ME.var 3) (ME.int 33554432))) MSs.nil))))
    { nx:=wSs (phi T (n - 1)) (MSs.cons (MS.ret (ME.bin BOp.mod (ME.var 2) (ME.var 1))) MSs.nil) { nx:=fun x M'=>Q D.non M',rt:=Q },rt:=Q } (f+1) [some (.ref b),some (.int m),some (.int found),some (.int reach)] M':=by
   intro f
   induction f with
   | zero =>
     intro found reach z M' hm F B
     simp only [bb]
     walk_at "wp"
     rw [if_neg (by lia)]
     walk_at "st"
     exact ⟨h1,q _ _ (Int.emod_nonneg _ (by lia)) (Int.emod_lt_of_pos _ h1) B⟩
   | succ f ih =>
     intro found reach z M' hm F B
     rw [bb]
     walk_at "wp"
     split
     ·next J =>
      walk_at "st"
      refine aA F (d := .int z) rfl ?_
      walk_at "wp"
      refine eZ F (j := 2) rfl ?_
      walk_at "st"
      refine ⟨jG (by decide), ?_⟩
      refine aA ad (d := .int y) rfl ?_
      refine aA ad (d := .int (z+1)) rfl ?_
      refine I fun i => ?_
      walk_at "wp"
      walk_at "st"
      refine ⟨jG (by decide), ?_⟩
      exact ih _ _ (z+1) _ (by rw [Int.mul_assoc, <- Int.pow_succ'];exact hm) ad (B.trans Bx.put)
     ·walk_at "st"
      exact ⟨h1,q _ _ (Int.emod_nonneg _ (by lia)) (Int.emod_lt_of_pos _ h1) B⟩
  exact go 4 0 1 z M (by lia) G (Bx.refl ⟨x,y,z,G⟩)
noncomputable def j4 (T:List FD) (n f:Nat):Prop := ∀ {b:Addr} {m:Int} {M:Mem} {Q:QD},Box b M->0 < m->m<=2 ^ 100->(∀ r M',0<=r->r < m->Bx b M M'->Q (.int r) M')->phi T n f [.ref b, .int m] M Q
end
section
variable {T:List FD}
theorem ak {α:Type} {xs l r:List α} {x : α} (e:xs=l++x::r):l.length < xs.length:=by rw [e];simp
noncomputable abbrev Pr:=List Int×List Int×List Int
noncomputable def prD (p:Pr):D := .tup [.tup (p.1.map .int), .tup (p.2.1.map .int), .tup (p.2.2.map .int)]
noncomputable def cw (p:Pr):PyData := .tuple [.tuple (p.1.map .int), .tuple (p.2.1.map .int), .tuple (p.2.2.map .int)]
theorem ph {k:Nat} {M:Mem}:∀ ns:List Int,aJ (rb k M) (ns.map D.int)=some (ns.map PyData.int)
 | [] => rfl
 | x::r=>by
   have e:rb k M (.int x)=some (.int x):=by cases k <;> rfl
   simp [aJ,e,ph r]
theorem Cn {k:Nat} {M:Mem} (p:Pr):rb (k+2) M (prD p)=some (cw p):=by
 simp [rb,prD,cw,aJ,ph]
theorem nk {k:Nat} {M:Mem}:∀ ps:List Pr,aJ (rb (k+2) M) (ps.map prD)=some (ps.map cw)
 | [] => rfl
 | p::r=>by simp [aJ,Cn,nk r]
theorem no {k:Nat} {M:Mem} {a:Addr} {ds:List D} (h:M a=some (.lst ds)):rb (k+1) M (.ref a)=(aJ (rb k M) ds).map PyData.list:=by
 simp only [rb,h]
theorem cG {Φ:Phi} {s:MS} {r:MSs} {E:bu} {ρ:av} {M:Mem} (I:av->Mem->Prop) (h1:∀ R:av->Mem->Prop,(∀ ρ M,I ρ M->R ρ M)->wS Φ s { E with nx:=R } ρ M) (h2:∀ ρ M,I ρ M->wSs Φ r E ρ M):wSs Φ (.cons s r) E ρ M:=by
 rw [bH];exact h1 _ h2
theorem Bx.upd {b q:Addr} {M M':Mem} {o:O} (h:Bx b M M') (n:M q=none) (j:q≠b):Bx b M (ag M' q o) :=
 ⟨by obtain ⟨x,y,z,e⟩:=h.box;exact ⟨x,y,z,by rw [aK j.symm];exact e⟩,fun u o' nu eu=>by
   rw [aK (fun z=>by rw [z,n] at eu;cases eu)];exact h.keep u o' nu eu⟩
theorem Bx.none {b q:Addr} {M M':Mem} (h:Bx b M M') (n:M' q=none) (j:q≠b):M q=none:=by
 cases e:M q with
 | none=>rfl
 | some o=>rw [h.keep q o j e] at n;cases n
theorem D3 {k:Nat}:(List.replicate k [D.int 0]).flatten=(List.replicate k (0:Int)).map D.int:=by
 induction k with
 | zero=>rfl
 | succ k ih=>rw [List.replicate_succ,List.flatten_cons,ih];rfl
end
section
theorem ao {α:Type} {f : α -> D} {b:BT} {tb:TCd} {chk:Mem->Prop} {N:NC} (I:List α -> av->Mem->List D->Prop) {ys:List α} {xs:List D} (hx:xs=ys.map f) {ρ:av} {M:Mem} {acc:List D}
 (h0:I [] ρ M acc)
 (hc:∀ l ρ M acc,I l ρ M acc->chk M)
 (hs:∀ l x r ρ M acc,ys=l++x::r->I l ρ M acc -> ∃ ρ',b (f x) ρ = some ρ' /\ ∀ N':NC,(∀ ρ2 M2 j,I (l++[x]) ρ2 M2 j->N' ρ2 M2 j)->tb ρ' M acc N')
 (n:∀ ρ M acc,I ys ρ M acc->N ρ M acc):bQ b tb chk N xs ρ M acc:=by
 subst hx
 have g:∀ (r l:List α) (ρ:av) (M:Mem) (acc:List D),ys=l++r->I l ρ M acc->bQ b tb chk N (r.map f) ρ M acc:=by
  intro r
  induction r with
  | nil=>intro l ρ M acc e i;rw [List.append_nil] at e;subst e;exact ⟨hc _ _ _ _ i,n _ _ _ i⟩
  | cons x r ih =>
    intro l ρ M acc e i
    obtain ⟨ρ',e1,h⟩:=hs l x r ρ M acc e i
    exact ⟨hc _ _ _ _ i, ρ',e1,h _ fun ρ2 M2 j i2=>ih (l++[x]) ρ2 M2 j (by rw [e];simp) i2⟩
 exact g ys [] ρ M acc rfl h0
theorem aP {α:Type} {f : α -> D} {b:BT} {tb:TSd} {chk:Mem->Prop} {E:bu} (I:List α -> av->Mem->Prop) {ys:List α} {xs:List D} (hx:xs=ys.map f) {ρ:av} {M:Mem}
 (h0:I [] ρ M)
 (hc:∀ l ρ M,I l ρ M->chk M)
 (hs:∀ l x r ρ M,ys=l++x::r->I l ρ M -> ∃ ρ',b (f x) ρ = some ρ' /\ ∀ F:av->Mem->Prop,(∀ ρ2 M2,I (l++[x]) ρ2 M2->F ρ2 M2)->tb { E with nx:=F,ct:=F,bk:=E.nx } ρ' M)
 (j:∀ ρ M,I ys ρ M->E.nx ρ M):bO b tb chk E xs ρ M:=by
 subst hx
 have g:∀ (r l:List α) (ρ:av) (M:Mem),ys=l++r->I l ρ M->bO b tb chk E (r.map f) ρ M:=by
  intro r
  induction r with
  | nil=>intro l ρ M e i;rw [List.append_nil] at e;subst e;exact ⟨hc _ _ _ i,j _ _ i⟩
  | cons x r ih =>
    intro l ρ M e i
    obtain ⟨ρ',e1,h⟩:=hs l x r ρ M e i
    exact ⟨hc _ _ _ i, ρ',e1,h _ fun ρ2 M2 i2=>ih (l++[x]) ρ2 M2 (by rw [e];simp) i2⟩
 exact g ys [] ρ M rfl h0
theorem pj {M M':Mem} {x:D} {ds:List D} (h:ar M x=some ds) (g:Ge M M'):ar M' x=some ds:=by
 cases x with
 | ref a =>
   simp only [ar] at h ⊢
   split at h
   ·next e=>rw [g _ _ e];exact h
   ·cases h
 | _=>exact h
theorem wD {M:Mem} {x:D} {ds:List D} (h:ar M x=some ds):gJ M x=some ds.length:=by
 cases x with
 | ref a =>
   simp only [ar] at h
   split at h
   ·next e=>cases h;simp only [gJ,e]
   ·cases h
 | tup es=>cases h;rfl
 | con es=>cases h;rfl
 | _=>cases h
theorem jH {M:Mem} {x:D} {ds:List D} {Q:QD} (h:ar M x=some ds) (q:Q (.int ds.length) M):eP [x] M Q:=⟨_,_,rfl,wD h,q⟩
theorem dw {α:Type} {xs:List α} {k:Nat} {x : α} (h:xs[k]? = some x):atI xs (k:Int)=some x:=by
 have j:k < xs.length:=(List.getElem?_eq_some_iff.mp h).1
 unfold atI ixN
 rw [if_pos (by lia),if_pos (by lia)]
 exact h
theorem aE {n:Nat}:cN 0 n=(List.range n).map fun i=>D.int (i:Nat):=by simp [cN]
end
section
variable {T:List FD}
noncomputable def Big (ns:List Int):Prop := ∀ x∈ns, -1000000000000<=x/\x<=1000000000000
end
section
variable {T:List FD}
noncomputable def nr (x:Str) (s:Stmt):FD:=⟨"_law_mixed",s,[x, "_law_k", "_law_once", "_law_twice"],2,(pc s).body⟩
theorem ue {f:Nat} {x:Str} {s:Stmt} (hf:T[f]? = some (nr x s)) {n:Nat} (hn : 1<=n):qZ T n f:=by
 intro x k M Q q
 refine aq hn hf rfl (ρ := [some _,some _,none,none]) rfl ?_
 unfold nr pc
 walk_at "st"
 refine ⟨by decide,aL (by decide),jG (by decide),by decide, ?_⟩
 walk_at "st"
 refine ⟨by decide,aL ?_,by decide, ?_⟩
 ·have h1:=Int.emod_nonneg ((x % 1000000007+7*k+1)*48271) (b := 2147483647) (by decide)
  have h2:=Int.emod_lt_of_pos ((x % 1000000007+7*k+1)*48271) (b := 2147483647) (by decide)
  lia
 walk_at "st"
 refine ⟨jG (by decide),by decide,by decide,by decide, ?_⟩
 exact q _
end
section
open PySem PySem.Spec PyProof.Rows L2.Srt
variable {T:List FD}
noncomputable abbrev K3:=Int×Int×Int
noncomputable abbrev Tm:=K3×Int
noncomputable def k3D (k:K3):D := .tup [.int k.1, .int k.2.1, .int k.2.2]
noncomputable def kcD (t:Tm):D×D:=(k3D t.1, .int t.2)
noncomputable def k3K (k:K3):Ky := .tup [.int k.1, .int k.2.1, .int k.2.2]
noncomputable def klt (a b:K3):Prop:=ltK (k3K a) (k3K b)=true
theorem gc {a b:K3} (h:k3D a=k3D b):a=b:=by
 obtain ⟨a1,a2,j⟩:=a
 obtain ⟨b1,b2,b3⟩:=b
 simp [k3D] at h
 simp [h]
theorem zu {a b:K3} (h:k3K a=k3K b):a=b:=by
 obtain ⟨a1,a2,j⟩:=a
 obtain ⟨b1,b2,b3⟩:=b
 simp [k3K] at h
 simp [h]
noncomputable def cf (ts:List Tm) (k:K3):Int:=((ts.filter fun t=>decide (t.1=k)).map (·.2)).sum
theorem eC {k:K3}:cf [] k=0:=rfl
theorem aV {t:Tm} {ts:List Tm} {k:K3}:cf (t::ts) k=(if t.1=k then t.2 else 0)+cf ts k:=by
 unfold cf
 by_cases h:t.1=k
 ·rw [List.filter_cons_of_pos (by simpa using h),if_pos h];simp
 ·rw [List.filter_cons_of_neg (by simpa using h),if_neg h];simp
theorem cS {a b:List Tm} {k:K3}:cf (a++b) k=cf a k+cf b k:=by
 induction a with
 | nil=>simp [eC]
 | cons t a ih=>rw [List.cons_append,aV,aV,ih];lia
theorem pv {a b:List Tm} (h:a.Perm b) {k:K3}:cf a k=cf b k:=by
 induction h with
 | nil=>rfl
 | cons x h ih=>rw [aV,aV,ih]
 | swap x y l=>simp only [aV];lia
 | trans _ _ j n=>rw [j,n]
theorem eD {ts:List Tm} {k:K3} (h:∀ t∈ts,t.1≠k):cf ts k=0:=by
 induction ts with
 | nil=>rfl
 | cons t ts ih=>rw [aV,if_neg (h t (by simp)),ih fun u j=>h u (by simp [j])];rfl
theorem eE {ts:List Tm} (hn:(ts.map (·.1)).Nodup) {t:Tm} (j:t∈ts):cf ts t.1=t.2:=by
 induction ts with
 | nil=>simp at j
 | cons u ts ih =>
   simp only [List.map_cons,List.nodup_cons] at hn
   rw [aV]
   rcases List.mem_cons.mp j with z | z
   ·subst z
    rw [if_pos rfl,eD fun v n e=>hn.1 (by rw [<- e];exact List.mem_map_of_mem n)]
    lia
   ·rw [if_neg fun e=>hn.1 (by rw [e];exact List.mem_map_of_mem z),ih hn.2 z];lia
noncomputable def dF (L:List Tm) (k:K3) (c:Int):List Tm:=if (L.any fun p=>decide (p.1=k))=true then L.map fun p=>if p.1=k then (p.1,p.2+c) else p else L++[(k,c)]
theorem pA {L:List Tm} {k:K3}:dget (L.map kcD) (k3D k)=(L.find? fun p=>decide (p.1=k)).map fun p => .int p.2:=by
 unfold dget
 induction L with
 | nil=>rfl
 | cons t L ih =>
   by_cases h:t.1=k
   ·rw [List.map_cons,List.find?_cons_of_pos (by simp [kcD,h]),List.find?_cons_of_pos (by simpa using h)];rfl
   ·rw [List.map_cons,List.find?_cons_of_neg (by simp only [decide_eq_true_eq];exact fun e=>h (gc e)),List.find?_cons_of_neg (by simpa using h),ih]
theorem uf {L:List Tm} {k:K3}:((L.map kcD).any fun p=>decide (p.1=k3D k))=L.any fun p=>decide (p.1=k):=by
 induction L with
 | nil=>rfl
 | cons t L ih =>
   rw [List.map_cons,List.any_cons,List.any_cons,ih]
   congr 1
   by_cases h:t.1=k
   ·simp [kcD,h]
   ·rw [decide_eq_false h];exact decide_eq_false (fun e=>h (gc e))
theorem zv {L:List Tm} (hn:(L.map (·.1)).Nodup) {k:K3} {c:Int}:cj (L.map kcD) (k3D k) (.int ((((L.find? fun p=>decide (p.1=k)).map (·.2)).getD 0)+c))=(dF L k c).map kcD:=by
 unfold cj dF
 rw [uf]
 split
 ·next h =>
  rw [List.map_map,List.map_map]
  apply List.map_congr_left
  intro t j
  simp only [Function.comp]
  by_cases e:t.1=k
  ·rw [if_pos (by rw [<- e];rfl),if_pos e]
   have:L.find? (fun p=>decide (p.1=k))=some t:=by
    clear h
    induction L with
    | nil=>simp at j
    | cons u L ih =>
      simp only [List.map_cons,List.nodup_cons] at hn
      rcases List.mem_cons.mp j with z | z
      ·subst z;rw [List.find?_cons_of_pos (by simpa using e)]
      ·rw [List.find?_cons_of_neg (by simp;intro e2;exact hn.1 (by rw [e2, <- e];exact List.mem_map_of_mem z))]
       exact ih hn.2 z
   rw [this];rfl
  ·rw [if_neg (c:=(kcD t).1=k3D k) (fun z=>e (gc z)),if_neg e]
 ·next h =>
  have:L.find? (fun p=>decide (p.1=k))=none:=by
   rw [List.find?_eq_none]
   intro x hx
   simp only [decide_eq_true_eq]
   intro e
   exact h (List.any_eq_true.mpr ⟨x,hx,by simpa using e⟩)
  rw [this];simp [kcD]
theorem ug {L:List Tm} {k:K3} {c:Int}:(dF L k c).map (·.1)=if (L.any fun p=>decide (p.1=k))=true then L.map (·.1) else L.map (·.1)++[k]:=by
 unfold dF
 split
 ·rw [List.map_map]
  apply List.map_congr_left
  intro t _
  simp only [Function.comp]
  split <;> rfl
 ·simp
theorem r0 {L:List Tm} (hn:(L.map (·.1)).Nodup) {k:K3} {c:Int}:((dF L k c).map (·.1)).Nodup:=by
 rw [ug]
 split
 ·exact hn
 ·next h =>
  refine List.nodup_append.mpr ⟨hn,by simp,fun a ha b hb e => ?_⟩
  simp at hb;subst hb;subst e
  obtain ⟨t,j,e⟩:=List.mem_map.mp ha
  exact h (List.any_eq_true.mpr ⟨t,j,by simpa using e⟩)
theorem wF {L:List Tm} {k:K3} {c:Int}:(dF L k c).length<=L.length+1:=by
 unfold dF;split <;> simp
theorem zw {L:List Tm} (hn:(L.map (·.1)).Nodup) {k a:K3} {c:Int}:cf (dF L k c) a=cf L a+if k=a then c else 0:=by
 unfold dF
 split
 ·next h =>
  obtain ⟨t,j,e⟩:=List.any_eq_true.mp h
  have e:t.1=k:=by simpa using e
  clear h
  induction L with
  | nil=>simp at j
  | cons u L ih =>
    simp only [List.map_cons,List.nodup_cons] at hn
    rw [List.map_cons,aV,aV]
    by_cases eu:u.1=k
    ·have rest:(L.map fun p=>if p.1=k then (p.1,p.2+c) else p)=L:=by
      conv=>rhs;rw [<- List.map_id L]
      apply List.map_congr_left
      intro p hp
      rw [if_neg fun z=>hn.1 (by rw [eu, <- z];exact List.mem_map_of_mem hp)];rfl
     rw [rest,if_pos eu]
     dsimp only
     by_cases ea:u.1=a
     ·rw [if_pos ea,if_pos ea,if_pos (by rw [<- eu];exact ea)];lia
     ·rw [if_neg ea,if_neg ea,if_neg (by rw [<- eu];exact ea)];lia
    ·rcases List.mem_cons.mp j with z | z
     ·exact absurd (by rw [<- z];exact e) eu
     ·rw [ih hn.2 z,if_neg eu];lia
 ·rw [cS,aV,eC];simp
noncomputable def tset (ts:List Tm):List Tm:=ts.foldl (fun L t=>dF L t.1 t.2) []
theorem dP {ts:List Tm} {t:Tm}:tset (ts++[t])=dF (tset ts) t.1 t.2:=by simp [tset]
theorem fb {α:Type} {P:List α -> Prop} (h0:P []) (h1:∀ l x,P l->P (l++[x])) (l:List α):P l:=by
 have:∀ r:List α,P r.reverse:=by
  intro r
  induction r with
  | nil=>exact h0
  | cons x r ih=>rw [List.reverse_cons];exact h1 _ _ ih
 have:=this l.reverse
 rw [List.reverse_reverse] at this
 exact this
theorem fe (ts:List Tm):((tset ts).map (·.1)).Nodup:=fb (P:=fun ts=>((tset ts).map (·.1)).Nodup) (by simp [tset]) (fun l x ih=>by rw [dP];exact r0 ih) ts
theorem zx (ts:List Tm) (k:K3):cf (tset ts) k=cf ts k:=fb (P:=fun ts=>cf (tset ts) k=cf ts k) rfl (fun l x ih=>by
 rw [dP,zw (fe l),ih,cS,aV,eC];lia) ts
theorem nv (ts:List Tm):(tset ts).length<=ts.length:=fb (P:=fun ts=>(tset ts).length<=ts.length) (by simp [tset]) (fun l x ih=>by
 rw [dP];have:=wF (L:=tset l) (k:=x.1) (c:=x.2);simp;lia) ts
theorem Co {ts:List Tm} {k:K3}:Mi.cf (ts.filter fun t => !(t.2==0)) k=Mi.cf ts k:=by
 induction ts with
 | nil=>rfl
 | cons t ts ih =>
   rw [aV]
   by_cases h:t.2=0
   ·rw [List.filter_cons_of_neg (by simp [h]),ih,h];split <;> lia
   ·rw [List.filter_cons_of_pos (by simp [h]),aV,ih]
theorem Ge.upd {M j:Mem} {d:Addr} {o:O} (g:Ge M j) (hd:M d=none):Ge M (ag j d o):=fun a o' e=>by
 rw [aK (fun z=>by rw [z,hd] at e;cases e)];exact g _ _ e
end
section
open PySem PySem.Spec PyProof.Rows L2.Srt
variable {T:List FD}
theorem wG {l:List Nat} {m:Nat} {g:Nat->Nat->Tm}:(l.flatMap fun i=>(List.range m).map (g i)).length=l.length*m:=by
 induction l with
 | nil=>simp
 | cons i l ih=>rw [List.flatMap_cons,List.length_append,ih,List.length_cons,Nat.succ_mul];simp;lia
end
section
open PySem PySem.Spec PyProof.Rows L2.Srt
variable {T:List FD}
noncomputable def bP (m p a b c:Nat):Tm:=(((a*p+c:Nat),((a*m+b:Nat):Int),((b*p+c:Nat):Int)),1)
noncomputable def dU (m p a:Nat):List Tm:=(List.range m).flatMap fun b=>(List.range p).map (bP m p a b)
noncomputable def bh (n m p:Nat):List Tm:=(List.range n).flatMap (dU m p)
theorem wH {m p a:Nat}:(dU m p a).length=m*p:=by unfold dU;rw [wG,List.length_range]
theorem zy {m p:Nat} {l:List Nat}:(l.flatMap (dU m p)).length=l.length*(m*p):=by
 induction l with
 | nil=>simp
 | cons i l ih=>rw [List.flatMap_cons,List.length_append,ih,List.length_cons,wH,Nat.succ_mul];lia
theorem eF {n m p:Nat} {t:Tm} (h:t∈bh n m p):∃ a b c,a < n/\b < m/\c < p/\t=bP m p a b c:=by
 obtain ⟨a,ha,h⟩:=List.mem_flatMap.mp h
 obtain ⟨b,hb,h⟩:=List.mem_flatMap.mp h
 obtain ⟨c,hc,rfl⟩:=List.mem_map.mp h
 exact ⟨a,b,c,List.mem_range.mp ha,List.mem_range.mp hb,List.mem_range.mp hc,rfl⟩
theorem aR {a b n m:Nat} (ha:a < n) (hb:b < m):a*m+b < n*m:=by
 have:(a+1)*m<=n*m:=Nat.mul_le_mul_right m ha
 rw [Nat.succ_mul] at this;lia
end
section
open PySem PySem.Spec PyProof.Rows L2.Srt
variable {T:List FD}
noncomputable def cW (L:List Tm) (k:K3) (c:Int):List Tm:=if (L.any fun p=>decide (p.1=k))=true then L.map (fun p=>if p.1=k then (p.1,c) else p) else L++[(k,c)]
theorem ny {L:List Tm} {k:K3} {c:Int}:cj (L.map kcD) (k3D k) (.int c)=(cW L k c).map kcD:=by
 unfold cj cW
 rw [uf]
 split
 ·rw [List.map_map,List.map_map]
  refine List.map_congr_left fun p _ => ?_
  simp only [Function.comp]
  by_cases h:p.1=k
  ·rw [if_pos h,if_pos (show (kcD p).1=k3D k by show k3D p.1=k3D k;rw [h])];rfl
  ·rw [if_neg h,if_neg (show ¬ (kcD p).1=k3D k from fun z=>h (gc z))]
 ·rw [List.map_append];rfl
theorem r6 {L:List Tm} (hn:(L.map (·.1)).Nodup) {k:K3} {c:Int}:((cW L k c).map (·.1)).Nodup:=by
 unfold cW
 split
 ·rw [List.map_map]
  have e:L.map ((fun x:Tm=>x.1) ∘ fun p=>if p.1=k then (p.1,c) else p)=L.map (·.1):=List.map_congr_left fun p _=>by
   simp only [Function.comp];split <;> rfl
  rw [e];exact hn
 ·next h =>
  rw [List.map_append,List.nodup_append]
  refine ⟨hn,by simp,fun a ha b hb e => ?_⟩
  simp at hb
  subst e hb
  obtain ⟨p,hp,rfl⟩:=List.mem_map.mp ha
  exact h (List.any_eq_true.mpr ⟨p,hp,by simp⟩)
theorem wJ {L:List Tm} {k:K3} {c:Int} {t:Tm} (h:t∈cW L k c):t∈L∨t=(k,c):=by
 unfold cW at h
 split at h
 ·obtain ⟨p,hp,rfl⟩:=List.mem_map.mp h
  by_cases e:p.1=k
  ·rw [if_pos e];exact .inr (by rw [e])
  ·rw [if_neg e];exact .inl hp
 ·rcases List.mem_append.mp h with h | h
  ·exact .inl h
  ·exact .inr (by simpa using h)
theorem wK {L:List Tm} {k:K3} {c:Int}:(cW L k c).length<=L.length+1:=by
 unfold cW;split <;> simp
theorem ow {L:List Tm} (hn:(L.map (·.1)).Nodup) {ys:List D} (hp:ys.Perm ((L.map kcD).map (·.1))) (hs:jB ys):∃ rs:List Tm,rs.Perm L/\ys=rs.map (fun t=>k3D t.1)/\rs.Pairwise fun a b=>klt a.1 b.1:=by
 have e0:(L.map kcD).map (·.1)=L.map fun t=>k3D t.1:=by rw [List.map_map];rfl
 rw [e0] at hp
 obtain ⟨rs,n,p2⟩:=kx (fun t:Tm=>k3D t.1) hp rfl
 refine ⟨rs,n,p2.symm, ?_⟩
 have j:(rs.map (·.1)).Nodup:=(n.map (·.1)).nodup_iff.mpr hn
 unfold jB at hs
 rw [<- p2,List.pairwise_map] at hs
 rw [List.nodup_iff_pairwise_ne,List.pairwise_map] at j
 refine (hs.and j).imp ?_
 rintro a b ⟨h1,h2⟩
 unfold klt
 cases e1:ltK (k3K a.1) (k3K b.1) with
 | true=>rfl
 | false=>exact absurd (zu (kn _ _ e1 h1)) h2
theorem ff {L:List Tm} (hn:(L.map (·.1)).Nodup) {t:Tm} (j:t∈L):dget (L.map kcD) (k3D t.1)=some (.int t.2):=by
 rw [pA]
 have:L.find? (fun p=>decide (p.1=t.1))=some t:=by
  induction L with
  | nil=>simp at j
  | cons x L ih =>
    simp only [List.map_cons,List.nodup_cons] at hn
    rcases List.mem_cons.mp j with z | z
    ·subst z;simp
    ·have:x.1≠t.1:=fun e=>hn.1 (by rw [e];exact List.mem_map_of_mem z)
     rw [List.find?_cons_of_neg (by simpa using this)]
     exact ih hn.2 z
 rw [this];rfl
theorem wL {L:List Tm} (hn:(L.map (·.1)).Nodup):qH (L.map kcD)=L.map kcD:=by
 have g:∀ (r l:List Tm),(((l++r).map (·.1)).Nodup)->(r.map kcD).foldl (fun a kv=>cj a kv.1 kv.2) (l.map kcD)=(l++r).map kcD:=by
  intro r
  induction r with
  | nil=>intro l _;simp
  | cons t r ih =>
    intro l h
    rw [List.map_cons,List.foldl_cons]
    have e:cj (l.map kcD) (kcD t).1 (kcD t).2=(l++[t]).map kcD:=by
     show cj (l.map kcD) (k3D t.1) (.int t.2)=_
     rw [ny]
     unfold cW
     rw [if_neg]
     intro z
     obtain ⟨p,hp,e⟩:=List.any_eq_true.mp z
     rw [List.map_append,List.nodup_append] at h
     exact h.2.2 _ (List.mem_map_of_mem hp) _ (List.mem_map_of_mem (List.mem_cons_self ..)) (of_decide_eq_true e)
    rw [e,ih (l++[t]) (by rw [List.append_assoc];exact h)]
    rw [List.append_assoc];rfl
 have:=g L [] (by simpa using hn)
 simpa [qH] using this
theorem j5 (k:K3):bR (k3D k)=true:=rfl
end
section
open PySem PySem.Spec PyProof.Rows L2.Srt
variable {T:List FD}
noncomputable def idx (l:List Int):List (Int×Int):=l.mapIdx fun i x=>((i:Nat),x)
noncomputable def nz (l:List Int):List (Int×Int):=(idx l).filter fun q => !(q.2==0)
noncomputable def pD (q:Int×Int):D := .tup [.int q.1, .int q.2]
theorem pB {l:List Int}:(idx l).length=l.length:=by simp [idx]
theorem nA {l:List Int}:(nz l).length<=l.length:=by
 unfold nz;exact Nat.le_trans (List.length_filter_le _ _) (by rw [pB];exact Nat.le_refl _)
theorem wM {l:List Int}:eU (l.map .int)=(idx l).map pD:=by
 unfold eU idx
 apply List.ext_getElem?
 intro j
 simp only [List.getElem?_mapIdx,List.getElem?_map]
 cases l[j]? <;> rfl
noncomputable def fI (xp xn:Str) (s:Stmt):FD:=⟨"_law_nonzero",s,[xp],1,
 (.cons (.ret (.comp [none,none] ["_law_place",xn] (.last (.enum (.var 0)) (.tup (.cons (.name 0) (.cons (.name 1) .nil))) (.cons (.cmp .ne (.var 1) (.int 0)) .nil) (.tup (.cons (.var 0) (.cons (.var 1) .nil))))))
 .nil)⟩
theorem r8 {f:Nat} {xp xn:Str} {s:Stmt} (hf:T[f]? = some (fI xp xn s)) {n:Nat} (hn : 1<=n) {l:List Int} (G:l.length<=10000000) {M:Mem} {Q:QD} (q:∀ p,M p=none->Q (.ref p) (ag M p (.lst ((nz l).map pD)))):phi T n f [.tup (l.map .int)] M Q:=by
 refine aq (by lia) hf rfl (ρ := [some _]) rfl ?_
 unfold fI
 walk_at "st"
 rw [wM]
 refine ao (f:=pD) (ys:=idx l) (I:=fun r ρ M' acc=>(∃ o0 z, ρ = [o0,z])/\M'=M/\acc=(r.filter fun q => !(q.2==0)).map pD) rfl ⟨⟨_,_,rfl⟩,rfl,rfl⟩ (fun _ _ _ _ _=>by first | rfl | trivial) ?_ ?_
 ·rintro l' x r ρ M1 acc e ⟨⟨o0,z,rfl⟩,rfl,rfl⟩
  refine ⟨_,rfl,fun N' j => ?_⟩
  have B:=ak e
  rw [pB] at B
  have F:(l'.filter fun q => !(q.2==0)).length<=l'.length:=List.length_filter_le _ _
  walk_at "wp"
  by_cases hz:x.2=0
  ·rw [if_neg (by simp [hz])]
   refine j _ _ _ ⟨⟨_,_,rfl⟩,rfl, ?_⟩
   rw [List.filter_append,List.filter_cons_of_neg (by simp [hz])];simp
  ·rw [if_pos (by simp [hz])]
   refine ⟨by rw [sizeLine_eq];lia,by rw [List.length_map,sizeLine_eq];lia,j _ _ _ ⟨⟨_,_,rfl⟩,rfl, ?_⟩⟩
   rw [List.filter_append,List.filter_cons_of_pos (by simp [hz])];simp [pD]
 ·rintro ρ M1 acc ⟨⟨o0,z,rfl⟩,rfl,rfl⟩ p hp
  exact q p hp
noncomputable def bI (i a j b:Int) (zs:List (Int×Int)):List Tm:=zs.map fun z=>((z.1,i,j),a*b*z.2)
noncomputable def ca (i a:Int) (ys zs:List (Int×Int)):List Tm:=ys.flatMap fun y=>bI i a y.1 y.2 zs
noncomputable def cy (xs ys zs:List (Int×Int)):List Tm:=xs.flatMap fun x=>ca x.1 x.2 ys zs
noncomputable def dW (p:Pr):List Tm:=cy (nz p.1) (nz p.2.1) (nz p.2.2)
noncomputable def aZ (ps:List Pr):List Tm:=ps.flatMap dW
theorem nB {i a j b:Int} {zs:List (Int×Int)}:(bI i a j b zs).length=zs.length:=by simp [bI]
theorem nC {i a:Int} {ys zs:List (Int×Int)}:(ca i a ys zs).length=ys.length*zs.length:=by
 unfold ca
 induction ys with
 | nil=>simp
 | cons y ys ih=>rw [List.flatMap_cons,List.length_append,ih,nB,List.length_cons,Nat.succ_mul];lia
theorem gZ {xs ys zs:List (Int×Int)}:(cy xs ys zs).length=xs.length*(ys.length*zs.length):=by
 unfold cy
 induction xs with
 | nil=>simp
 | cons y ys ih=>rw [List.flatMap_cons,List.length_append,ih,nC,List.length_cons,Nat.succ_mul];lia
noncomputable def nD (xs:Str) (s:Stmt) (fz:Nat):FD:=⟨"_law_sums",s,[xs, "_law_found", "_law_l", "_law_r", "_law_o", "_law_rights", "_law_outs", "_law_i", "_law_a", "_law_j", "_law_b", "_law_k", "_law_c"],1,
 (.cons (.asg (.name 1) (.dnew true))
 (.cons (.for (.tup (.cons (.name 2) (.cons (.name 3) (.cons (.name 4) .nil)))) (.seq (.ix (.var 0) (.int 3))) (.cons (.asg (.name 5) (.call fz (.cons (.var 3) .nil)))
 (.cons (.asg (.name 6) (.call fz (.cons (.var 4) .nil)))
 (.cons (.for (.tup (.cons (.name 7) (.cons (.name 8) .nil))) (.seq (.call fz (.cons (.var 2) .nil))) (.cons (.for (.tup (.cons (.name 9) (.cons (.name 10) .nil))) (.seq (.var 5)) (.cons (.for (.tup (.cons (.name 11) (.cons (.name 12) .nil))) (.seq (.var 6)) (.cons (.put (.var 1) (.tup (.cons (.var 11) (.cons (.var 7) (.cons (.var 9) .nil)))) (.bin .add (.dget (.var 1) (.tup (.cons (.var 11) (.cons (.var 7) (.cons (.var 9) .nil)))) (.int 0)) (.bin .mul (.bin .mul (.var 8) (.var 10)) (.var 12))))
 .nil))
 .nil))
 .nil))
 .nil))))
 (.cons (.frz 1 (.ret (.blt .dict (.cons (.comp [none,(some 1)] ["_law_place", "_law_found"] (.last (.keys (.var 1)) (.name 0) (.cons (.cmp .ne (.ix (.var 1) (.var 0)) (.int 0)) .nil) (.tup (.cons (.var 0) (.cons (.ix (.var 1) (.var 0)) .nil))))) .nil))))
 .nil)))⟩
noncomputable def Bq (T:List FD) (n f:Nat):Prop := ∀ {l:List Int} {M:Mem} {Q:QD},l.length<=10000000->(∀ p,M p=none->Q (.ref p) (ag M p (.lst ((nz l).map pD))))->phi T n f [.tup (l.map .int)] M Q
structure Br (p:Pr):Prop where
 b1:Big p.1
 b2:Big p.2.1
 b3:Big p.2.2
 l1:p.1.length<=100
 l2:p.2.1.length<=100
 l3:p.2.2.length<=100
structure xN (ps:List Pr) (L:List Tm):Prop where
 nd:(L.map (·.1)).Nodup
 nz:∀ t∈L,t.2≠0
 cf:∀ k,cf L k=cf (aZ ps) k
noncomputable def Od (d:Addr) (M M':Mem):Prop := ∀ a,a≠d->M' a=M a
theorem Od.refl {d:Addr} {M:Mem}:Od d M M:=fun _ _=>rfl
theorem Od.trans {d:Addr} {M M' M'':Mem} (h:Od d M M') (g:Od d M' M''):Od d M M'':=fun a n=>(g a n).trans (h a n)
theorem Od.upd {d:Addr} {M M':Mem} {o:O} (h:Od d M M'):Od d M (ag M' d o):=fun a n=>(aK n).trans (h a n)
noncomputable def xO:MSs := .cons (.put (.var 1) (.tup (.cons (.var 11) (.cons (.var 7) (.cons (.var 9) .nil)))) (.bin .add (.dget (.var 1) (.tup (.cons (.var 11) (.cons (.var 7) (.cons (.var 9) .nil)))) (.int 0)) (.bin .mul (.bin .mul (.var 8) (.var 10)) (.var 12)))) .nil
noncomputable def r9:MSs := .cons (.for (.tup (.cons (.name 11) (.cons (.name 12) .nil))) (.seq (.var 6)) xO) .nil
noncomputable def rf:MSs := .cons (.for (.tup (.cons (.name 9) (.cons (.name 10) .nil))) (.seq (.var 5)) r9) .nil
noncomputable abbrev bd (x:Int):Prop := -1000000000000<=x/\x<=1000000000000
theorem Cp {Φ:Phi} {v0 v2 L v4 O n B:Option D} {d po:Addr} {i a j b:Int} {zs:List (Int×Int)} {pre:List Tm} {M:Mem} {E:bu} (G:M po=some (.lst (zs.map pD))) (R:po≠d) (hd:M d=some (.dct true ((tset pre).map kcD))) (Z:pre.length+zs.length<=10000000) (ha:bd a) (hb:bd b)  (hc:∀ z∈zs,bd z.2)
 (q:∀ M' n B,Od d M M'->M' d=some (.dct true ((tset (pre++bI i a j b zs)).map kcD))->E.nx [v0,some (.ref d),v2,L,v4,O,some (.ref po),some (.int i),some (.int a),some (.int j),some (.int b),n,B] M') :
 wSs Φ r9 E [v0,some (.ref d),v2,L,v4,O,some (.ref po),some (.int i),some (.int a),some (.int j),some (.int b),n,B] M:=by
 unfold r9
 walk_at "st"
 refine ⟨_,ae G, ?_⟩
 refine aP (f:=pD) (ys:=zs) (I:=fun l ρ M' => ∃ n B, ρ = [v0,some (.ref d),v2,L,v4,O,some (.ref po),some (.int i),some (.int a),some (.int j),some (.int b),n,B]/\Od d M M'/\M' d=some (.dct true ((tset (pre++bI i a j b l)).map kcD))) rfl ⟨_,_,rfl,Od.refl,by simpa [bI] using hd⟩ (fun l ρ M' ⟨_,_,_,g,_⟩=>ae ((g po R).trans G)) ?_ ?_
 ·rintro l z r ρ M1 e ⟨n,B,rfl,g1,J⟩
  refine ⟨_,rfl,fun F U => ?_⟩
  have Y:=ak e
  have hz:=hc z (by rw [e];simp)
  have S:=nv (pre++bI i a j b l)
  rw [List.length_append,nB] at S
  unfold xO
  rw [bH]
  walk_at "wp"
  refine ⟨⟨_,_,J⟩,by rw [sizeLine_eq];lia,_,_,J,rfl,aL (by lia),jG (by lia), ?_⟩
  have ek:D.tup [D.int z.1,D.int i,D.int j]=k3D (z.1,i,j):=rfl
  rw [ek,pA]
  have eg:((Option.map (fun p:Tm=>D.int p.2) ((tset (pre++bI i a j b l)).find? fun p=>decide (p.1=(z.1,i,j)))).getD (.int 0)) = .int (((((tset (pre++bI i a j b l)).find? fun p=>decide (p.1=(z.1,i,j))).map (·.2)).getD 0)):=by
   cases (tset (pre++bI i a j b l)).find? fun p=>decide (p.1=(z.1,i,j)) <;> rfl
  rw [eg]
  walk_at "wp"
  refine ⟨by rw [sizeLine_eq];lia,ni J rfl (by rw [List.length_map,sizeLine_eq];lia) ?_⟩
  rw [zv (fe _)]
  refine U _ _ ⟨_,_,rfl,g1.upd, ?_⟩
  rw [ad,show bI i a j b (l++[z])=bI i a j b l++[((z.1,i,j),a*b*z.2)] by simp [bI], <- List.append_assoc,dP]
 ·rintro ρ M1 ⟨n,B,rfl,g1,J⟩
  dsimp only
  walk_at "wp"
  exact q _ _ _ g1 J
theorem Cq {Φ:Phi} {v0 v2 O v4 G B j n:Option D} {d pr po:Addr} {i a:Int} {ys zs:List (Int×Int)} {pre:List Tm} {M:Mem} {E:bu} (J:M pr=some (.lst (ys.map pD))) (R:pr≠d) (S:M po=some (.lst (zs.map pD))) (L:po≠d) (hd:M d=some (.dct true ((tset pre).map kcD))) (hl:pre.length+ys.length*zs.length<=10000000) (ha:bd a) (hb:∀ z∈ys,bd z.2) (hc:∀ z∈zs,bd z.2)
 (q:∀ M' G B j n,Od d M M'->M' d=some (.dct true ((tset (pre++ca i a ys zs)).map kcD))->E.nx [v0,some (.ref d),v2,O,v4,some (.ref pr),some (.ref po),some (.int i),some (.int a),G,B,j,n] M') :
 wSs Φ rf E [v0,some (.ref d),v2,O,v4,some (.ref pr),some (.ref po),some (.int i),some (.int a),G,B,j,n] M:=by
 unfold rf
 walk_at "st"
 refine ⟨_,ae J, ?_⟩
 refine aP (f:=pD) (ys:=ys) (I:=fun l ρ M' => ∃ G B j n, ρ = [v0,some (.ref d),v2,O,v4,some (.ref pr),some (.ref po),some (.int i),some (.int a),G,B,j,n]/\Od d M M'/\M' d=some (.dct true ((tset (pre++ca i a l zs)).map kcD))) rfl ⟨_,_,_,_,rfl,Od.refl,by simpa [ca] using hd⟩ (fun l ρ M' ⟨_,_,_,_,_,g,_⟩=>ae ((g pr R).trans J)) ?_ ?_
 ·rintro l y r ρ M1 e ⟨G,B,j,n,rfl,g1,U⟩
  refine ⟨_,rfl,fun F Z => ?_⟩
  have Y:=ak e
  have hy:=hb y (by rw [e];simp)
  have hm:(l.length+1)*zs.length<=ys.length*zs.length:=Nat.mul_le_mul_right _ Y
  rw [Nat.succ_mul] at hm
  refine Cp ((g1 po L).trans S) L U (by rw [List.length_append,nC];lia) ha hy hc fun M2 j n g2 h2=>Z _ _ ⟨_,_,_,_,rfl,g1.trans g2, ?_⟩
  rw [h2,show ca i a (l++[y]) zs=ca i a l zs++bI i a y.1 y.2 zs by simp [ca],List.append_assoc]
 ·rintro ρ M1 ⟨G,B,j,n,rfl,g1,U⟩
  dsimp only
  walk_at "wp"
  exact q _ _ _ _ _ g1 U
theorem Cr {Φ:Phi} {v0 v2 S v4:Option D} {d pr po pl:Addr} {xs ys zs:List (Int×Int)} {pre:List Tm} {M:Mem} {E:bu} {J L G j n B:Option D} (U:M pl=some (.lst (xs.map pD))) (Y:pl≠d) (Z:M pr=some (.lst (ys.map pD))) (O:pr≠d) (D7:M po=some (.lst (zs.map pD))) (R:po≠d) (hd:M d=some (.dct true ((tset pre).map kcD))) (hl:pre.length+xs.length*(ys.length*zs.length)<=10000000) (ha:∀ z∈xs,bd z.2) (hb:∀ z∈ys,bd z.2) (hc:∀ z∈zs,bd z.2)
 (q:∀ M' J L G j n B,Od d M M'->M' d=some (.dct true ((tset (pre++cy xs ys zs)).map kcD))->E.nx [v0,some (.ref d),v2,S,v4,some (.ref pr),some (.ref po),J,L,G,j,n,B] M') :
 bO (jx (bE (bm 7) (bE (bm 8) eR))) (wSs Φ rf) (fun M=>ar M (.ref pl)=some (xs.map pD)) E (xs.map pD) [v0,some (.ref d),v2,S,v4,some (.ref pr),some (.ref po),J,L,G,j,n,B] M:=by
 refine aP (f:=pD) (ys:=xs) (I:=fun l ρ M' => ∃ J L G j n B, ρ = [v0,some (.ref d),v2,S,v4,some (.ref pr),some (.ref po),J,L,G,j,n,B]/\Od d M M'/\M' d=some (.dct true ((tset (pre++cy l ys zs)).map kcD))) rfl ⟨_,_,_,_,_,_,rfl,Od.refl,by simpa [cy] using hd⟩ (fun l ρ M' ⟨_,_,_,_,_,_,_,g,_⟩=>ae ((g pl Y).trans U)) ?_ ?_
 ·rintro l x r ρ M1 e ⟨J,L,G,j,n,B,rfl,g1,hM⟩
  refine ⟨_,rfl,fun F hF => ?_⟩
  have D8:=ak e
  have hx:=ha x (by rw [e];simp)
  have hm:(l.length+1)*(ys.length*zs.length)<=xs.length*(ys.length*zs.length):=Nat.mul_le_mul_right _ D8
  rw [Nat.succ_mul] at hm
  refine Cq ((g1 pr O).trans Z) O ((g1 po R).trans D7) R hM (by rw [List.length_append,gZ];lia) hx hb hc fun M2 G j n B g2 h2=>hF _ _ ⟨_,_,_,_,_,_,rfl,g1.trans g2, ?_⟩
  rw [h2,show cy (l++[x]) ys zs=cy l ys zs++ca x.1 x.2 ys zs by simp [cy],List.append_assoc]
 ·rintro ρ M1 ⟨J,L,G,j,n,B,rfl,g1,hM⟩
  exact q _ _ _ _ _ _ _ g1 hM
theorem nE {l:List Int} (h:Big l):∀ z∈nz l,bd z.2:=fun z hz=>by
 unfold nz at hz
 have hz:=(List.mem_filter.mp hz).1
 unfold idx at hz
 obtain ⟨i,hi,e⟩:=List.mem_mapIdx.mp hz
 rw [<- e]
 exact h _ (List.getElem_mem hi)
theorem uh {ps:List Pr} {p:Pr}:aZ (ps++[p])=aZ ps++dW p:=by simp [aZ]
theorem zz {f fz:Nat} {xs:Str} {s:Stmt} (hf:T[f]? = some (nD xs s fz)) {n:Nat} (Y:Bq T (n - 1) fz) (hn : 1<=n) {x0 x1 x2:D} {p:Addr} {ps:List Pr} {M:Mem} {Q:QD} (hp:M p=some (.lst (ps.map prD))) (hl:(aZ ps).length<=10000000) (hF:∀ p∈ps,Br p)
 (q:∀ (L:List Tm) d M',xN ps L->L.length<=10000000->Ge M M'->M d=none->M' d=some (.dct true (L.map kcD))->Q (.ref d) M'):phi T n f [.tup [x0,x1,x2, .ref p]] M Q:=by
 refine aq (by lia) hf rfl (ρ := [some _,none,none,none,none,none,none,none,none,none,none,none,none]) rfl ?_
 unfold nD
 walk_at "st"
 intro d hd
 have g0:=Ge.new (o := .dct true []) hd
 have d0:=ad (M:=M) (a:=d) (o := .dct true [])
 generalize ag M d (.dct true [])=M0 at g0 d0 ⊢
 walk_at "st"
 refine ⟨_,rfl,_,ae (g0 _ _ hp), ?_⟩
 have Di:p≠d:=fun z=>by rw [z,hd] at hp;cases hp
 refine aP (f:=prD) (ys:=ps) (I:=fun l ρ M' => ∃ o2 o3 o4 o5 o6 o7 o8 o9 B G J, ρ = [some (.tup [x0,x1,x2, .ref p]),some (.ref d),o2,o3,o4,o5,o6,o7,o8,o9,B,G,J]/\Ge M M'/\M' d=some (.dct true ((tset (aZ l)).map kcD))) rfl ⟨_,_,_,_,_,_,_,_,_,_,_,rfl,g0,d0⟩ (fun l ρ M' ⟨_,_,_,_,_,_,_,_,_,_,_,_,g,_⟩=>ae (g _ _ hp)) ?_ ?_
 ·rintro l x r ρ M1 e ⟨o2,o3,o4,o5,o6,o7,o8,o9,B,G,J,rfl,g1,j⟩
  refine ⟨_,rfl,fun F Da => ?_⟩
  have hx:=hF x (by rw [e];simp)
  have Db:(aZ l).length+(dW x).length<=10000000:=by
   have:aZ ps=aZ l++dW x++aZ r:=by rw [e];simp [aZ]
   rw [this,List.length_append,List.length_append] at hl
   lia
  walk_at "st"
  refine Y (by have:=hx.l2;lia) fun pr O => ?_
  have Dc:pr≠d:=fun z=>by rw [z,j] at O;cases O
  have gr:=Ge.new (o := .lst ((nz x.2.1).map pD)) O
  have er:=ad (M:=M1) (a:=pr) (o := .lst ((nz x.2.1).map pD))
  have j:=gr _ _ j
  have g2:=g1.trans gr
  generalize ag M1 pr (.lst ((nz x.2.1).map pD))=M2 at er j g2 ⊢
  clear g1 gr O
  walk_at "st"
  refine Y (by have:=hx.l3;lia) fun po R => ?_
  have Dd:po≠d:=fun z=>by rw [z,j] at R;cases R
  have go:=Ge.new (o := .lst ((nz x.2.2).map pD)) R
  have eo:=ad (M:=M2) (a:=po) (o := .lst ((nz x.2.2).map pD))
  have j:=go _ _ j
  have er:=go _ _ er
  have g3:=g2.trans go
  generalize ag M2 po (.lst ((nz x.2.2).map pD))=M3 at er eo j g3 ⊢
  clear g2 go R
  walk_at "st"
  refine Y (by have:=hx.l1;lia) fun pl S => ?_
  have De:pl≠d:=fun z=>by rw [z,j] at S;cases S
  have gl:=Ge.new (o := .lst ((nz x.1).map pD)) S
  have el:=ad (M:=M3) (a:=pl) (o := .lst ((nz x.1).map pD))
  have j:=gl _ _ j
  have er:=gl _ _ er
  have eo:=gl _ _ eo
  have g4:=g3.trans gl
  generalize ag M3 pl (.lst ((nz x.1).map pD))=M4 at er eo el j g4 ⊢
  clear g3 gl S
  refine ⟨_,ae el, ?_⟩
  refine Cr el De er Dc eo Dd j (by have:=gZ (xs:=nz x.1) (ys:=nz x.2.1) (zs:=nz x.2.2);unfold dW at Db;lia) (nE hx.b1) (nE hx.b2) (nE hx.b3) fun M5 o7 o8 o9 B G J g5 h5 => ?_
  walk_at "wp"
  refine Da _ _ ⟨_,_,_,_,_,_,_,_,_,_,_,rfl,fun a o ea => ?_,by rw [h5,uh];rfl⟩
  by_cases had:a=d
  ·subst had;rw [hd] at ea;cases ea
  ·rw [g5 a had];exact g4 _ _ ea
 ·rintro ρ M1 ⟨o2,o3,o4,o5,o6,o7,o8,o9,B,G,J,rfl,g1,j⟩
  dsimp only
  walk_at "st"
  refine zq rfl j ?_
  have fd:=ad (M:=M1) (a:=d) (o := .fdc ((tset (aZ ps)).map kcD))
  have g2:Ge M (ag M1 d (.fdc ((tset (aZ ps)).map kcD))):=g1.upd hd
  have Df:=Nat.le_trans (nv (aZ ps)) hl
  have U:=fe (aZ ps)
  have D7:=zx (aZ ps)
  generalize ag M1 d (.fdc ((tset (aZ ps)).map kcD))=M2 at fd g2 ⊢
  generalize tset (aZ ps)=L at fd Df U D7
  walk_at "wp"
  refine ⟨_,fd, ?_⟩
  refine ao (f:=fun t:Tm=>k3D t.1) (ys:=L) (I:=fun l ρ M' acc=>(∃ o0, ρ = [o0,some (.ref d)])/\M'=M2/\acc=(l.filter fun t => !(t.2==0)).map fun t => .tup [k3D t.1, .int t.2]) (by rw [List.map_map];rfl) ⟨⟨_,rfl⟩,rfl,rfl⟩ (fun _ _ _ _ _=>trivial) ?_ ?_
  ·rintro l t r ρ M3 acc e ⟨⟨o0,rfl⟩,rfl,rfl⟩
   refine ⟨_,rfl,fun N' D8 => ?_⟩
   have Dj:=ak e
   have ht:t∈L:=by rw [e];simp
   have Dg:(l.filter fun t => !(t.2==0)).length<=l.length:=List.length_filter_le _ _
   walk_at "wp"
   refine ud fd (j5 _) (ff U ht) ?_
   walk_at "wp"
   by_cases hz:t.2=0
   ·rw [if_neg (by simp [hz])]
    refine D8 _ _ _ ⟨⟨_,rfl⟩,rfl, ?_⟩
    rw [List.filter_append,List.filter_cons_of_neg (by simp [hz])];simp
   ·rw [if_pos (by simp [hz])]
    refine ud fd (j5 _) (ff U ht) ?_
    refine ⟨by rw [sizeLine_eq];lia,by rw [List.length_map,sizeLine_eq];lia,D8 _ _ _ ⟨⟨_,rfl⟩,rfl, ?_⟩⟩
    rw [List.filter_append,List.filter_cons_of_pos (by simp [hz])];simp
  ·rintro ρ M3 acc ⟨⟨o0,rfl⟩,rfl,rfl⟩ p2 hp2
   have Dg:(L.filter fun t => !(t.2==0)).length<=L.length:=List.length_filter_le _ _
   have D9:((L.filter fun t => !(t.2==0)).map (·.1)).Nodup:=U.sublist (List.Sublist.map _ List.filter_sublist)
   refine ⟨p2,(L.filter fun t => !(t.2==0)).map kcD,rfl,by rw [ad,List.map_map];rfl,fun kv Dh => ?_,by rw [List.length_map,sizeLine_eq];lia,fun pf Z => ?_⟩
   ·obtain ⟨t,_,rfl⟩:=List.mem_map.mp Dh
    exact j5 _
   ·rw [wL D9]
    have g3:=g2.trans (Ge.new (o := .lst ((L.filter fun t => !(t.2==0)).map fun t=>D.tup [k3D t.1, .int t.2])) hp2)
    refine q (L.filter fun t => !(t.2==0)) pf _ ⟨D9,fun t ht => ?_,fun k=>by rw [Co];exact D7 k⟩ (by lia) (g3.trans (Ge.new Z)) ?_ ad
    ·have:=(List.mem_filter.mp ht).2
     simpa using this
    ·cases hz:M pf with
     | none=>rfl
     | some o=>rw [g3 _ _ hz] at Z;cases Z
end
section
open PySem PySem.Spec PyProof.Rows L2.Srt
noncomputable def S1 (zs:List (Int×Int)) (k:Int):Int:=(zs.map fun z=>if z.1=k then z.2 else 0).sum
theorem dy {z:Int×Int} {zs:List (Int×Int)} {k:Int}:S1 (z::zs) k=(if z.1=k then z.2 else 0)+S1 zs k:=by simp [S1]
theorem pC {α:Type} {F : α -> List Tm} {k:K3}:∀ l:List α,cf (l.flatMap F) k=(l.map fun x=>cf (F x) k).sum
 | [] => rfl
 | x::l=>by rw [List.flatMap_cons,cS,pC l];simp
theorem pE {i a j b k i' j':Int}:∀ {zs:List (Int×Int)},cf (bI i a j b zs) (k,i',j')=if i=i'/\j=j' then a*b*S1 zs k else 0
 | [] => by simp [bI,eC,S1]
 | z::zs=>by
   rw [show bI i a j b (z::zs)=((z.1,i,j),a*b*z.2)::bI i a j b zs from rfl,aV,pE,dy]
   by_cases h:i=i'/\j=j'
   ·obtain ⟨rfl,rfl⟩:=h
    by_cases n:z.1=k
    ·subst n;simp [Int.mul_add]
    ·have : ¬ ((z.1,i,j)=(k,i,j)):=fun e=>n (congrArg (·.1) e)
     rw [if_neg this,if_pos ⟨rfl,rfl⟩,if_pos ⟨rfl,rfl⟩,if_neg n];simp
   ·have : ¬ ((z.1,i,j)=(k,i',j')):=fun e=>h ⟨congrArg (·.2.1) e,congrArg (·.2.2) e⟩
    rw [if_neg this,if_neg h,if_neg h];rfl
theorem pF {i a k i' j':Int} {zs:List (Int×Int)}:∀ {ys:List (Int×Int)},cf (ca i a ys zs) (k,i',j')=if i=i' then a*S1 ys j'*S1 zs k else 0
 | [] => by simp [ca,eC,S1]
 | y::ys=>by
   rw [show ca i a (y::ys) zs=bI i a y.1 y.2 zs++ca i a ys zs from by simp [ca],cS,pF,pE,dy]
   by_cases h:i=i'
   ·subst h
    by_cases j:y.1=j'
    ·subst j;simp [Int.mul_add,Int.add_mul]
    ·rw [if_neg (fun e=>j e.2),if_pos rfl,if_pos rfl,if_neg j];simp
   ·rw [if_neg (fun e=>h e.1),if_neg h,if_neg h];rfl
theorem pG {k i' j':Int} {ys zs:List (Int×Int)}:∀ {xs:List (Int×Int)},cf (cy xs ys zs) (k,i',j')=S1 xs i'*S1 ys j'*S1 zs k
 | [] => by simp [cy,eC,S1]
 | x::xs=>by
   rw [show cy (x::xs) ys zs=ca x.1 x.2 ys zs++cy xs ys zs from by simp [cy],cS,pG,pF,dy]
   by_cases h:x.1=i'
   ·subst h;simp [Int.add_mul]
   ·rw [if_neg h,if_neg h];simp
noncomputable def gz (l:List Int) (i:Int):Int:=if i < 0 then 0 else l.getD i.toNat 0
theorem j6 {l:List Int} {i:Int} (h:i < 0):gz l i=0:=if_pos h
theorem dG {i:Int}:gz [] i=0:=by unfold gz;split <;> simp
theorem bw {x:Int} {l:List Int} {i:Int}:gz (x::l) i=if i=0 then x else gz l (i - 1):=by
 unfold gz
 by_cases h:i < 0
 ·rw [if_pos h,if_neg (by lia),if_pos (by lia)]
 ·rw [if_neg h]
  by_cases h0:i=0
  ·subst h0;simp
  ·rw [if_neg h0,if_neg (by lia)]
   obtain ⟨n,rfl⟩:∃ n:Nat,i=((n+1:Nat):Int):=⟨(i - 1).toNat,by lia⟩
   rw [show (((n+1:Nat):Int) - 1).toNat=n by lia,Int.toNat_natCast]
   simp
theorem kC {a b:List Int}:∀ {i:Int},gz (a++b) i=if i < a.length then gz a i else gz b (i - a.length):=by
 induction a with
 | nil =>
   intro i
   by_cases h:i < 0
   ·rw [if_pos (by simpa using h),List.nil_append,j6 h,j6 h]
   ·rw [if_neg (by simpa using h)];simp
 | cons x a ih =>
   intro i
   rw [List.cons_append,bw,bw,ih,List.length_cons]
   by_cases h0:i=0
   ·subst h0;rw [if_pos rfl,if_pos rfl,if_pos (by lia)]
   ·rw [if_neg h0,if_neg h0]
    by_cases h:i < ((a.length+1:Nat):Int)
    ·rw [if_pos (by lia),if_pos h]
    ·rw [if_neg (by lia),if_neg h]
     congr 1;lia
theorem nF {x:Int}:∀ {b:List Int} {i:Int},gz (b.map (x * ·)) i=x*gz b i
 | [],i=>by rw [List.map_nil,dG];simp
 | y::b,i=>by rw [List.map_cons,bw,bw,nF];split <;> rfl
theorem j7 {l:List Int} {i:Int} (h:gz l i≠0) : 0<=i/\i < l.length:=by
 unfold gz at h
 by_cases hi:i < 0
 ·rw [if_pos hi] at h;exact absurd rfl h
 ·rw [if_neg hi] at h
  refine ⟨by lia, ?_⟩
  by_cases hl:i.toNat < l.length
  ·lia
  ·rw [List.getD_eq_getElem?_getD,List.getElem?_eq_none (by lia)] at h;exact absurd rfl h
theorem ui {a b:List (Int×Int)} {k:Int}:S1 (a++b) k=S1 a k+S1 b k:=by simp [S1]
theorem j8 {k:Int}:∀ zs:List (Int×Int),S1 (zs.filter fun q => !(q.2==0)) k=S1 zs k
 | [] => rfl
 | z::zs=>by
   rw [dy]
   by_cases h:z.2=0
   ·rw [List.filter_cons_of_neg (by simp [h]),j8 zs,h];simp
   ·rw [List.filter_cons_of_pos (by simp [h]),dy,j8 zs]
theorem nG (l:List Int) (k:Int):S1 (idx l) k=gz l k:=fb (P:=fun l=>S1 (idx l) k=gz l k) (by rw [dG];rfl) (fun l x ih=>by
 have e:idx (l++[x])=idx l++[(((l.length:Nat):Int),x)]:=by simp [idx,List.mapIdx_append]
 rw [e,ui,ih,kC,dy]
 simp only [S1,List.map_nil,List.sum_nil]
 by_cases h:k < l.length
 ·rw [if_pos h,if_neg (by lia)];lia
 ·rw [if_neg h,bw,dG]
  have z:gz l k=0:=by
   cases Decidable.em (gz l k=0) with
   | inl h=>exact h
   | inr h'=>exact absurd (j7 h').2 h
  rw [z]
  by_cases e:(l.length:Int)=k
  ·rw [if_pos e,if_pos (by lia)];lia
  ·rw [if_neg e,if_neg (by lia)];rfl) l
theorem zA {p:Pr} {k i j:Int}:cf (dW p) (k,i,j)=gz p.1 i*gz p.2.1 j*gz p.2.2 k:=by
 unfold dW
 rw [pG]
 unfold nz
 rw [j8,j8,j8,nG,nG,nG]
noncomputable def kr (a b:List Int):List Int:=a.flatMap fun x=>b.map (x * ·)
theorem pH {x:Int} {a b:List Int}:kr (x::a) b=b.map (x * ·)++kr a b:=by simp [kr]
theorem j9 {b:List Int}:∀ {a:List Int},(kr a b).length=a.length*b.length
 | [] => by simp [kr]
 | x::a=>by rw [pH,List.length_append,j9,List.length_map,List.length_cons,Nat.succ_mul];lia
theorem xP {b:List Int} {B:Nat} (hb:b.length=B) (j : 1<=B):∀ {a:List Int} {i:Int},gz (kr a b) i=gz a (i / B)*gz b (i % B)
 | [],i=>by rw [show kr [] b=[] from rfl,dG,dG];simp
 | x::a,i=>by
   rw [pH,kC,nF,xP hb j,List.length_map,hb,bw]
   by_cases h:i < B
   ·rw [if_pos h]
    by_cases h0:i < 0
    ·have:i / B < 0:=Int.ediv_neg_of_neg_of_pos h0 (by lia)
     rw [j6 h0,if_neg (by lia),j6 (by lia)];simp
    ·rw [Int.ediv_eq_zero_of_lt (by lia) h,if_pos rfl,Int.emod_eq_of_lt (by lia) h]
   ·rw [if_neg h]
    have e1:(i - B) / B=i / B - 1:=by rw [Int.sub_ediv_of_dvd _ (Int.dvd_refl _),Int.ediv_self (by lia)]
    have e2:(i - B) % B=i % B:=by rw [Int.sub_emod,Int.emod_self];simp
    have n:i / B≠0:=by
     have : 1<=i / B:=by rw [Int.le_ediv_iff_mul_le (by lia)];lia
     lia
    rw [e1,e2,if_neg n]
noncomputable def krP (p u:Pr):Pr:=(kr p.1 u.1,kr p.2.1 u.2.1,kr p.2.2 u.2.2)
noncomputable def cz (ps us:List Pr):List Pr:=ps.flatMap fun p=>us.map (krP p)
noncomputable def Tn (ps:List Pr) (k i j:Int):Int:=(ps.map fun p=>gz p.1 i*gz p.2.1 j*gz p.2.2 k).sum
theorem zB {ps:List Pr} {k i j:Int}:cf (aZ ps) (k,i,j)=Tn ps k i j:=by
 unfold aZ Tn
 rw [pC]
 congr 1
 exact List.map_congr_left fun p _=>zA
theorem dQ {a b:List Pr} {k i j:Int}:Tn (a++b) k i j=Tn a k i j+Tn b k i j:=by simp [Tn]
theorem dz {p:Pr} {a:List Pr} {k i j:Int}:Tn (p::a) k i j=gz p.1 i*gz p.2.1 j*gz p.2.2 k+Tn a k i j:=by simp [Tn]
theorem nH {L0 L1 L2:Nat} {k i j:Int}:∀ {us:List Pr},(∀ u∈us,u.1.length=L0/\u.2.1.length=L1/\u.2.2.length=L2)->Tn us k i j≠0->(0<=k/\k < L2)/\(0<=i/\i < L0)/\(0<=j/\j < L1)
 | [],_,h=>absurd (by simp [Tn]) h
 | u::us,n,h=>by
   obtain ⟨e0,e1,e2⟩:=n u (by simp)
   rw [dz] at h
   by_cases z:gz u.1 i*gz u.2.1 j*gz u.2.2 k=0
   ·rw [z,Int.zero_add] at h
    exact nH (fun v q=>n v (by simp [q])) h
   ·have a1:gz u.1 i≠0:=fun e=>z (by rw [e];simp)
    have a2:gz u.2.1 j≠0:=fun e=>z (by rw [e];simp)
    have B:gz u.2.2 k≠0:=fun e=>z (by rw [e];simp)
    have:=j7 a1
    have:=j7 a2
    have:=j7 B
    lia
theorem lg {l:List Tm} (g:(l.map (·.1)).Nodup):l.Nodup:=by
 rw [List.nodup_iff_pairwise_ne] at g ⊢
 rw [List.pairwise_map] at g
 exact g.imp fun {a b} hab e=>hab (by rw [e])
theorem uj {a:List Tm} (hn:(a.map (·.1)).Nodup) {k:K3} (h:cf a k≠0):(k,cf a k)∈a:=by
 by_cases e:∃ r∈a,r.1=k
 ·obtain ⟨r,j,rfl⟩:=e
  rw [eE hn j];exact j
 ·exact absurd (eD fun r j z=>e ⟨r,j,z⟩) h
theorem zC {a b:List Tm} (ha:(a.map (·.1)).Nodup) (hb:(b.map (·.1)).Nodup) (za:∀ t∈a,t.2≠0) (zb:∀ t∈b,t.2≠0) (h:∀ k,cf a k=cf b k):a.Perm b:=by
 refine (List.perm_ext_iff_of_nodup (lg ha) (lg hb)).mpr fun t=>⟨fun j => ?_,fun j => ?_⟩
 ·have e:=eE ha j
  have:=uj hb (k:=t.1) (by rw [<- h,e];exact za t j)
  rwa [<- h,e] at this
 ·have e:=eE hb j
  have:=uj ha (k:=t.1) (by rw [h,e];exact zb t j)
  rwa [h,e] at this
theorem wN {a b:List Tm} (hb:(b.map (·.1)).Nodup) (h:a.Perm b):eqD (a.map kcD) (b.map kcD)=true:=by
 unfold eqD
 rw [Bool.and_eq_true]
 refine ⟨by simp [h.length_eq], ?_⟩
 rw [List.all_eq_true]
 intro kv j
 obtain ⟨t,n,rfl⟩:=List.mem_map.mp j
 exact decide_eq_true (ff hb (h.mem_iff.mp n))
end
section
open PySem PySem.Spec PyProof.Rows L2.Srt
theorem aH {a b m:Nat} (hb:b < m):(a*m+b) / m=a:=by
 rw [Nat.mul_comm,Nat.mul_add_div (by lia),Nat.div_eq_of_lt hb,Nat.add_zero]
theorem cq {n m p:Nat}:((bh n m p).map (·.1)).Nodup:=by
 unfold bh dU
 rw [List.map_flatMap,List.nodup_iff_pairwise_ne,List.pairwise_flatMap]
 refine ⟨fun a _ => ?_, ?_⟩
 ·rw [List.map_flatMap,List.pairwise_flatMap]
  refine ⟨fun b _ => ?_, ?_⟩
  ·rw [List.map_map,List.pairwise_map]
   refine (List.nodup_iff_pairwise_ne.mp List.nodup_range).imp ?_
   intro c c' hc e
   have h:=congrArg (fun k:K3=>k.2.2) e
   simp only [Function.comp,bP] at h
   lia
  ·refine (List.nodup_iff_pairwise_ne.mp List.nodup_range).imp ?_
   intro b b' hb x hx y hy e
   rw [List.map_map] at hx hy
   obtain ⟨u,_,rfl⟩:=List.mem_map.mp hx
   obtain ⟨v,_,rfl⟩:=List.mem_map.mp hy
   have h:=congrArg (fun k:K3=>k.2.1) e
   simp only [Function.comp,bP] at h
   lia
 ·refine (List.nodup_iff_pairwise_ne.mp List.nodup_range).imp ?_
  intro a a' ha x hx y hy e
  rw [List.map_flatMap] at hx hy
  obtain ⟨b,hb,hx⟩:=List.mem_flatMap.mp hx
  obtain ⟨b',j,hy⟩:=List.mem_flatMap.mp hy
  rw [List.map_map] at hx hy
  obtain ⟨u,_,rfl⟩:=List.mem_map.mp hx
  obtain ⟨v,_,rfl⟩:=List.mem_map.mp hy
  have h:=congrArg (fun k:K3=>k.2.1) e
  simp only [Function.comp,bP] at h
  have h2:a*m+b=a'*m+b':=by lia
  apply ha
  rw [<- aH (a:=a) (List.mem_range.mp hb),h2,aH (List.mem_range.mp j)]
theorem Bs {n m p:Nat}:∀ u∈bh n m p,u.2≠0:=fun u j=>by
 obtain ⟨a,b,c,_,_,_,rfl⟩:=eF j
 exact Int.one_ne_zero
theorem fJ {α:Type} {n p:Nat} {f:Nat -> α}:(List.range (n*p)).map f=(List.range n).flatMap fun i=>(List.range p).map fun j=>f (i*p+j):=by
 induction n with
 | zero=>simp
 | succ n ih =>
   rw [Nat.succ_mul,List.range_add,List.map_append,ih,List.range_succ,List.flatMap_append,List.map_map]
   simp
end
section
open PySem PySem.Spec PyProof.Rows L2.Srt
variable {T:List FD}
noncomputable def jI (xs:Str) (s:Stmt):FD:=⟨"_law_table_sums",s,[xs, "_law_n", "_law_m", "_law_p", "_law_found", "_law_a", "_law_b", "_law_c"],1,
 (.cons (.asg (.tup (.cons (.name 1) (.cons (.name 2) (.cons (.name 3) .nil)))) (.var 0))
 (.cons (.asg (.name 4) (.dnew true))
 (.cons (.for (.name 5) (.rng1 (.var 1)) (.cons (.for (.name 6) (.rng1 (.var 2)) (.cons (.for (.name 7) (.rng1 (.var 3)) (.cons (.put (.var 4) (.tup (.cons (.bin .add (.bin .mul (.var 5) (.var 3)) (.var 7)) (.cons (.bin .add (.bin .mul (.var 5) (.var 2)) (.var 6)) (.cons (.bin .add (.bin .mul (.var 6) (.var 3)) (.var 7)) .nil)))) (.int 1))
 .nil))
 .nil))
 .nil))
 (.cons (.ret (.var 4))
 .nil))))⟩
structure TI (n m p:Nat) (X:List Tm) (L:List Tm):Prop where
 nd:(L.map (·.1)).Nodup
 sub:∀ t∈L,t∈X
 all:∀ t∈X,t.1∈L.map (·.1)
theorem kD {L:List Tm} {k a:K3} {c:Int} (h:a∈L.map (·.1)∨a=k):a∈(cW L k c).map (·.1):=by
 unfold cW
 split
 ·next j =>
  rw [List.map_map]
  have e:L.map ((fun x:Tm=>x.1) ∘ fun p=>if p.1=k then (p.1,c) else p)=L.map (·.1):=List.map_congr_left fun p _=>by
   simp only [Function.comp];split <;> rfl
  rw [e]
  rcases h with h | rfl
  ·exact h
  ·obtain ⟨t,n,e⟩:=List.any_eq_true.mp j
   rw [<- of_decide_eq_true e];exact List.mem_map_of_mem n
 ·rw [List.map_append]
  rcases h with h | rfl
  ·exact List.mem_append_left _ h
  ·exact List.mem_append_right _ (by simp)
theorem TI.put {n m p:Nat} {X L:List Tm} (h:TI n m p X L) (t:Tm):TI n m p (X++[t]) (cW L t.1 t.2) where
 nd:=r6 h.nd
 sub:=fun u j=>by
  rcases wJ j with z | z
  ·exact List.mem_append_left _ (h.sub u z)
  ·exact List.mem_append_right _ (by rw [z];simp)
 all:=fun u j=>by
  rcases List.mem_append.mp j with z | z
  ·exact kD (.inl (h.all u z))
  ·have e:u=t:=by simpa using z
   rw [e];exact kD (.inr rfl)
theorem TI.perm {n m p:Nat} {L:List Tm} (h:TI n m p (bh n m p) L):L.Perm (bh n m p):=by
 refine (List.perm_ext_iff_of_nodup (lg h.nd) (lg cq)).mpr fun t=>⟨h.sub t,fun j => ?_⟩
 obtain ⟨u,q,e⟩:=List.mem_map.mp (h.all t j)
 have h1:=eE cq (h.sub u q)
 have h2:=eE cq j
 rw [e,h2] at h1
 have:u=t:=Prod.ext e h1.symm
 rw [<- this];exact q
theorem wP {f:Nat} {xs:Str} {s:Stmt} (hf:T[f]? = some (jI xs s)) {k:Nat} (hk : 1<=k) {n m p:Nat} (hn:n<=50) (hm:m<=50) (hp:p<=50) {M:Mem} {Q:QD}
 (q:∀ (L:List Tm) d M',L.Perm (bh n m p)->Ge M M'->M d=none->M' d=some (.dct true (L.map kcD))->Q (.ref d) M'):phi T k f [.tup [.int n, .int m, .int p]] M Q:=by
 refine aq (by lia) hf rfl (ρ := [some _,none,none,none,none,none,none,none]) rfl ?_
 unfold jI
 walk_at "st"
 walk_at "st"
 intro d hd
 have g0:=Ge.new (o := .dct true []) hd
 have d0:=ad (M:=M) (a:=d) (o := .dct true [])
 generalize ag M d (.dct true [])=M0 at g0 d0 ⊢
 walk_at "st"
 refine ⟨by lia,by lia, ?_⟩
 rw [Int.toNat_natCast]
 refine aP (f:=fun i=>D.int (i:Nat)) (ys:=List.range n) (I:=fun l ρ M' => ∃ L R G j, ρ = [some (.tup [.int n, .int m, .int p]),some (.int n),some (.int m),some (.int p),some (.ref d),R,G,j]/\Ge M M'/\M' d=some (.dct true (L.map kcD))/\TI n m p (l.flatMap (dU m p)) L/\L.length<=l.length*2500) aE ⟨[],_,_,_,rfl,g0,d0,⟨by simp,fun _ h=>by simp at h,fun _ h=>by simp at h⟩,by simp⟩ (fun _ _ _ _=>trivial) ?_ ?_
 ·rintro l a r ρ M1 e ⟨L,R,G,j,rfl,g1,h1,z,B⟩
  refine ⟨_,rfl,fun F hF => ?_⟩
  have S:=ak e
  rw [List.length_range] at S
  have ha:a < n:=List.mem_range.mp (by rw [e];simp)
  walk_at "st"
  refine ⟨by lia,by lia, ?_⟩
  rw [Int.toNat_natCast]
  refine aP (f:=fun i=>D.int (i:Nat)) (ys:=List.range m) (I:=fun l' ρ M' => ∃ L G j, ρ = [some (.tup [.int n, .int m, .int p]),some (.int n),some (.int m),some (.int p),some (.ref d),some (.int (a:Nat)),G,j]/\Ge M M'/\M' d=some (.dct true (L.map kcD))/\TI n m p (l.flatMap (dU m p)++l'.flatMap fun b=>(List.range p).map (bP m p a b)) L/\L.length<=l.length*2500+l'.length*50) aE ⟨L,_,_,rfl,g1,h1,by simpa using z,by simpa using B⟩ (fun _ _ _ _=>trivial) ?_ ?_
  ·rintro l' b r' ρ M2 e' ⟨L,G,j,rfl,g2,h2,z,B⟩
   refine ⟨_,rfl,fun F' U => ?_⟩
   have J:=ak e'
   rw [List.length_range] at J
   have hb:b < m:=List.mem_range.mp (by rw [e'];simp)
   walk_at "st"
   refine ⟨by lia,by lia, ?_⟩
   rw [Int.toNat_natCast]
   refine aP (f:=fun i=>D.int (i:Nat)) (ys:=List.range p) (I:=fun l3 ρ M' => ∃ L j, ρ = [some (.tup [.int n, .int m, .int p]),some (.int n),some (.int m),some (.int p),some (.ref d),some (.int (a:Nat)),some (.int (b:Nat)),j]/\Ge M M'/\M' d=some (.dct true (L.map kcD))/\TI n m p ((l.flatMap (dU m p)++l'.flatMap fun b=>(List.range p).map (bP m p a b))++l3.map (bP m p a b)) L/\L.length<=l.length*2500+l'.length*50+l3.length) aE ⟨L,_,rfl,g2,h2,by simpa using z,by simpa using B⟩ (fun _ _ _ _=>trivial) ?_ ?_
   ·rintro l3 c r3 ρ M3 e3 ⟨L,j,rfl,g3,Y,z,B⟩
    refine ⟨_,rfl,fun F3 Z => ?_⟩
    have O:=ak e3
    rw [List.length_range] at O
    rw [bH]
    walk_at "wp"
    refine ⟨aL (by lia),aL (by lia),aL (by lia),by rw [sizeLine_eq];lia, ?_⟩
    have ek:D.tup [.int (a*p+c), .int (a*m+b), .int (b*p+c)]=k3D (bP m p a b c).1:=by
     unfold bP k3D
     simp only [Int.natCast_add,Int.natCast_mul]
    rw [ek]
    refine ni Y (j5 (bP m p a b c).1) (by rw [List.length_map,sizeLine_eq];lia) ?_
    rw [show D.int 1 = .int (bP m p a b c).2 from rfl,ny]
    refine Z _ _ ⟨_,_,rfl,g3.upd hd,ad, ?_, ?_⟩
    ·rw [List.map_append, <- List.append_assoc];exact z.put _
    ·have:=wK (L:=L) (k:=(bP m p a b c).1) (c:=(bP m p a b c).2)
     rw [List.length_append,List.length_singleton];lia
   ·rintro ρ M3 ⟨L,j,rfl,g3,Y,z,B⟩
    dsimp only
    walk_at "wp"
    refine U _ _ ⟨L,_,_,rfl,g3,Y, ?_, ?_⟩
    ·rw [List.flatMap_append];simpa using z
    ·rw [List.length_append];rw [List.length_range] at B;simp;lia
  ·rintro ρ M2 ⟨L,G,j,rfl,g2,h2,z,B⟩
   dsimp only
   walk_at "wp"
   refine hF _ _ ⟨L,_,_,_,rfl,g2,h2, ?_, ?_⟩
   ·rw [List.flatMap_append];simpa [dU] using z
   ·rw [List.length_append];rw [List.length_range] at B;simp;lia
 ·rintro ρ M1 ⟨L,R,G,j,rfl,g1,h1,z,B⟩
  dsimp only
  walk_at "st"
  exact q L d M1 z.perm g1 hd h1
noncomputable def one (L:Nat) (k:Int):List Int:=(List.range L).map fun h=>if ((h:Nat):Int)=k then 1 else 0
theorem gd {L:Nat} {k:Int}:(one L k).length=L:=by simp [one]
theorem nI {L:Nat} {k i:Int} (h0 : 0<=k) (h1:k < L):gz (one L k) i=if i=k then 1 else 0:=by
 unfold gz one
 by_cases hi:i < 0
 ·rw [if_pos hi,if_neg (by lia)]
 ·rw [if_neg hi,List.getD_eq_getElem?_getD,List.getElem?_map]
  by_cases hl:i.toNat < L
  ·rw [List.getElem?_range hl]
   simp only [Option.map_some,Option.getD_some]
   by_cases e:i=k
   ·rw [if_pos (by lia),if_pos e]
   ·rw [if_neg (by lia),if_neg e]
  ·rw [List.getElem?_eq_none (by simp;lia),if_neg (by lia)];rfl
noncomputable def hJ (s:Stmt):FD:=⟨"_law_single",s,["_law_length", "_law_place"],2,
 (.cons (.ret (.blt .tuple (.cons (.comp [none,(some 1)] ["_law_here", "_law_place"] (.last (.rng1 (.var 0)) (.name 0) .nil (.blt .int (.cons (.cmp .eq (.var 0) (.var 1)) .nil)))) .nil)))
 .nil)⟩
theorem uk {f:Nat} {s:Stmt} (hf:T[f]? = some (hJ s)) {n:Nat} (hn : 1<=n) {L:Nat} (B:L<=100000) {k:Int} {M:Mem} {Q:QD} (q:∀ M',Ge M M'->Q (.tup ((one L k).map .int)) M'):phi T n f [.int L, .int k] M Q:=by
 refine aq (by lia) hf rfl (ρ := [some _,some _]) rfl ?_
 unfold hJ
 walk_at "st"
 refine ⟨by lia,by lia, ?_⟩
 rw [Int.toNat_natCast]
 refine ao (f:=fun i=>D.int (i:Nat)) (ys:=List.range L) (I:=fun l ρ M' acc=>(∃ o0, ρ = [o0,some (.int k)])/\M'=M/\acc=(l.map fun h=>if ((h:Nat):Int)=k then (1:Int) else 0).map .int) aE ⟨⟨_,rfl⟩,rfl,rfl⟩ (fun _ _ _ _ _=>trivial) ?_ ?_
 ·rintro l i r ρ M1 acc e ⟨⟨o0,rfl⟩,rfl,rfl⟩
  refine ⟨_,rfl,fun N' j => ?_⟩
  have z:=ak e
  rw [List.length_range] at z
  walk_at "wp"
  refine ⟨by rw [List.length_map,List.length_map,sizeLine_eq];lia,j _ _ _ ⟨⟨_,rfl⟩,rfl, ?_⟩⟩
  simp
 ·rintro ρ M1 acc ⟨⟨o0,rfl⟩,rfl,rfl⟩ p hp
  exact ⟨_,_,rfl,ae ad,q _ (Ge.new hp)⟩
noncomputable def jJ (x y:Str) (s:Stmt):FD:=⟨"_law_turned_about",s,[x],1,
 (.cons (.ret (.blt .tuple (.cons (.comp [none] [y] (.last (.seq (.var 0)) (.name 0) .nil (.neg (.var 0)))) .nil)))
 .nil)⟩
theorem wQ {f:Nat} {x y:Str} {s:Stmt} (hf:T[f]? = some (jJ x y s)) {n:Nat} (hn : 1<=n) {l:List Int} (B:l.length<=100000) {M:Mem} {Q:QD} (q:∀ M',Ge M M'->Q (.tup ((l.map (- ·)).map .int)) M'):phi T n f [.tup (l.map .int)] M Q:=by
 refine aq (by lia) hf rfl (ρ := [some _]) rfl ?_
 unfold jJ
 walk_at "st"
 refine ao (f:=D.int) (ys:=l) (I:=fun l ρ M' acc=>(∃ o0, ρ = [o0])/\M'=M/\acc=(l.map (- ·)).map .int) rfl ⟨⟨_,rfl⟩,rfl,rfl⟩ (fun _ _ _ _ _=>by first | rfl | trivial) ?_ ?_
 ·rintro l' i r ρ M1 acc e ⟨⟨o0,rfl⟩,rfl,rfl⟩
  refine ⟨_,rfl,fun N' j => ?_⟩
  have z:=ak e
  walk_at "wp"
  refine ⟨by rw [List.length_map,List.length_map,sizeLine_eq];lia,j _ _ _ ⟨⟨_,rfl⟩,rfl, ?_⟩⟩
  simp
 ·rintro ρ M1 acc ⟨⟨o0,rfl⟩,rfl,rfl⟩ p hp
  exact ⟨_,_,rfl,ae ad,q _ (Ge.new hp)⟩
noncomputable def plP (L0 L1 L2:Nat) (t:Tm):Pr:=(one L0 t.1.2.1,one L1 t.1.2.2,(one L2 t.1.1).map (· * t.2))
theorem pI {x:Int}:∀ {b:List Int} {i:Int},gz (b.map (· * x)) i=gz b i*x
 | [],i=>by rw [List.map_nil,dG];simp
 | y::b,i=>by rw [List.map_cons,bw,bw,pI];split <;> rfl
theorem nJ {L0 L1 L2:Nat} {k i j:Int}:∀ {L:List Tm},(∀ t∈L,(0<=t.1.1/\t.1.1 < L2)/\(0<=t.1.2.1/\t.1.2.1 < L0)/\(0<=t.1.2.2/\t.1.2.2 < L1))->Tn (L.map (plP L0 L1 L2)) k i j=cf L (k,i,j)
 | [],_=>rfl
 | t::L,h=>by
   obtain ⟨⟨q,a1⟩,⟨z,b1⟩,⟨B,F⟩⟩:=h t (by simp)
   rw [List.map_cons,dz,aV,nJ fun u G=>h u (by simp [G])]
   congr 1
   unfold plP
   dsimp only
   rw [nI z b1,nI B F,pI,nI q a1]
   by_cases e:t.1=(k,i,j)
   ·rw [if_pos e,if_pos (by rw [e]),if_pos (by rw [e]),if_pos (by rw [e])];lia
   ·rw [if_neg e]
    by_cases e1:i=t.1.2.1
    ·by_cases e2:j=t.1.2.2
     ·by_cases n:k=t.1.1
      ·exact absurd (by rw [e1,e2,n]) e
      ·rw [if_neg n];simp
     ·rw [if_neg e2];simp
    ·rw [if_neg e1];simp
noncomputable def pJ (cap:Nat) (bf:BF):Prop := ∀ {d:Addr} {kvs:List (D×D)} (sh:Sh) {M:Mem} {Q:QD},M d=some (.dct true kvs)->gT sh=true->(∀ kv∈kvs,hs sh kv.1=true)->kvs.length<=cap->(∀ p ys,M p=none->ys.Perm (kvs.map (·.1))->jB ys->Q (.ref p) (ag M p (.lst ys)))->opF bf [.ref d] M Q
theorem D4:pJ 63 .sorts:=fun sh _ _ h1 h2 j n q=>⟨_,true,_,sh,rfl,h1,h2,j,n,q⟩
noncomputable def fK (bf:BF) (y:Str) (s:Stmt) (fs:Nat):FD:=⟨"_law_plainly",s,["_law_lengths", "_law_sums_here"],2,
 (.cons (.ret (.comp [none,none,none,(some 0),(some 1)] ["_law_k", "_law_i", "_law_j", "_law_lengths", "_law_sums_here"] (.last (.seq (.blt bf (.cons (.var 1) .nil))) (.tup (.cons (.name 0) (.cons (.name 1) (.cons (.name 2) .nil)))) .nil (.tup (.cons (.call fs (.cons (.ix (.var 3) (.int 0)) (.cons (.var 1) .nil))) (.cons (.call fs (.cons (.ix (.var 3) (.int 1)) (.cons (.var 2) .nil))) (.cons (.blt .tuple (.cons (.comp [none,(some 4),(some 0),(some 1),(some 2)] [y, "_law_sums_here", "_law_k", "_law_i", "_law_j"] (.last (.seq (.call fs (.cons (.ix (.var 3) (.int 2)) (.cons (.var 0) .nil)))) (.name 0) .nil (.bin .mul (.var 0) (.ix (.var 1) (.tup (.cons (.var 2) (.cons (.var 3) (.cons (.var 4) .nil)))))))) .nil)) .nil)))))))
 .nil)⟩
noncomputable def nK (T:List FD) (n f:Nat):Prop := ∀ {L:Nat} {k:Int} {M:Mem} {Q:QD},L<=100000->(∀ M',Ge M M'->Q (.tup ((one L k).map .int)) M')->phi T n f [.int L, .int k] M Q
theorem rg {f fs:Nat} {y:Str} {s:Stmt} {cap:Nat} {bf:BF} (hS:pJ cap bf) (hf:T[f]? = some (fK bf y s fs)) {n:Nat} (j:nK T (n - 1) fs) (hn : 1<=n) {L0 L1 L2:Nat} (h0:L0<=1000) (h1:L1<=1000) (h2:L2<=1000) {L:List Tm} (B:(L.map (·.1)).Nodup) (hl:L.length<=1000000) (F:L.length<=cap) {d:Addr} {M:Mem} {Q:QD} (hd:M d=some (.dct true (L.map kcD)))
 (q:∀ (rs:List Tm) p M',rs.Perm L->Ge M M'->M p=none->M' p=some (.lst ((rs.map (plP L0 L1 L2)).map prD))->Q (.ref p) M'):phi T n f [.tup [.int L0, .int L1, .int L2], .ref d] M Q:=by
 refine aq (by lia) hf rfl (ρ := [some _,some _]) rfl ?_
 unfold fK
 walk_at "st"
 refine hS (.tup [.int, .int, .int]) hd rfl (fun kv S => ?_) (by rw [List.length_map];exact F) fun ps ys U z G => ?_
 ·obtain ⟨t,_,rfl⟩:=List.mem_map.mp S
  rfl
 obtain ⟨rs,hp,rfl,D8⟩:=ow B z G
 have g1:=Ge.new (o := .lst (rs.map fun t=>k3D t.1)) U
 have e1:=ad (M:=M) (a:=ps) (o := .lst (rs.map fun t=>k3D t.1))
 generalize ag M ps (.lst (rs.map fun t=>k3D t.1))=M1 at g1 e1 ⊢
 have D9:rs.length<=1000000:=by rw [hp.length_eq];exact hl
 refine ⟨_,ae e1, ?_⟩
 refine ao (f:=fun t:Tm=>k3D t.1) (ys:=rs) (I:=fun l ρ M' acc=>(∃ o0 Y Z, ρ = [o0,Y,Z,some (.tup [.int L0, .int L1, .int L2]),some (.ref d)])/\Ge M1 M'/\acc=(l.map (plP L0 L1 L2)).map prD) rfl ⟨⟨_,_,_,rfl⟩,Ge.refl,rfl⟩ (fun _ _ _ _ h=>ae (h.2.1 _ _ e1)) ?_ ?_
 ·rintro l t r ρ M2 acc e ⟨⟨o0,Y,Z,rfl⟩,g2,rfl⟩
  refine ⟨_,rfl,fun N' D7 => ?_⟩
  have Da:=ak e
  have ht:t∈L:=hp.mem_iff.mp (by rw [e];simp)
  walk_at "wp"
  refine ⟨_,rfl,j (by lia) fun M3 g3=>⟨_,rfl,j (by lia) fun M4 g4=>⟨_,rfl,j (by lia) fun M5 R=>⟨_,rfl, ?_⟩⟩⟩⟩
  have R:=g2.trans (g3.trans (g4.trans R))
  have d5:=R _ _ (g1 _ _ hd)
  have ho:∀ x∈one L2 t.1.1,x=0∨x=1:=fun x hx=>by
   unfold one at hx
   obtain ⟨h,_,rfl⟩:=List.mem_map.mp hx
   split <;> simp
  refine ao (f:=D.int) (ys:=one L2 t.1.1) (I:=fun l' ρ M' acc=>(∃ o0, ρ = [o0,some (.ref d),some (.int t.1.1),some (.int t.1.2.1),some (.int t.1.2.2)])/\M'=M5/\acc=(l'.map (· * t.2)).map .int) rfl ⟨⟨_,rfl⟩,rfl,rfl⟩ (fun _ _ _ _ _=>by first | rfl | trivial) ?_ ?_
  ·rintro l' x r' ρ M6 acc e' ⟨⟨o0,rfl⟩,rfl,rfl⟩
   refine ⟨_,rfl,fun N'' J => ?_⟩
   have O:=ak e'
   rw [gd] at O
   have hx:=ho x (by rw [e'];simp)
   walk_at "wp"
   refine ⟨by rw [sizeLine_eq];lia, ?_⟩
   rw [show D.tup [.int t.1.1, .int t.1.2.1, .int t.1.2.2]=k3D t.1 from rfl]
   refine Bo d5 (j5 t.1) (ff B ht) ?_
   walk_at "wp"
   refine ⟨aL (by lia),by rw [List.length_map,List.length_map,sizeLine_eq];lia,J _ _ _ ⟨⟨_,rfl⟩,rfl,by simp⟩⟩
  ·rintro ρ M6 acc ⟨⟨o0,rfl⟩,rfl,rfl⟩ p hp
   refine ⟨_,_,rfl,ae ad,by rw [sizeLine_eq];lia,by rw [List.length_map,List.length_map,sizeLine_eq];lia,D7 _ _ _ ⟨⟨_,_,_,rfl⟩,R.trans (Ge.new hp), ?_⟩⟩
   simp [prD,plP]
 ·rintro ρ M2 acc ⟨⟨o0,Y,Z,rfl⟩,g2,rfl⟩ p2 hp2
  have g3:=g1.trans g2
  refine q rs p2 _ hp (g3.trans (Ge.new hp2)) ?_ ad
  cases hz:M p2 with
  | none=>rfl
  | some o=>rw [g3 _ _ hz] at hp2;cases hp2
end
section
open PySem PySem.Spec PyProof.Rows L2.Srt
noncomputable def tm (p:Pr) (k i j:Int):Int:=gz p.1 i*gz p.2.1 j*gz p.2.2 k
theorem gf {p:Pr} {a:List Pr} {k i j:Int}:Tn (p::a) k i j=tm p k i j+Tn a k i j:=dz
theorem um {ps:List Pr} {n:Nat} {p:Pr} {k i j:Int}:Tn (ps.take n++p::ps.drop n) k i j=Tn ps k i j+tm p k i j:=by
 have e:Tn ps k i j=Tn (ps.take n) k i j+Tn (ps.drop n) k i j:=by rw [<- dQ,List.take_append_drop]
 rw [dQ,gf,e];lia
theorem uo {k i j:Int} {p':Pr}:∀ {ps:List Pr} {n:Nat} {p:Pr},ps[n]? = some p->Tn (ps.set n p') k i j=Tn ps k i j - tm p k i j+tm p' k i j
 | [],n,p,h=>by simp at h
 | a::ps,0,p,h=>by
   simp at h;subst h
   rw [List.set_cons_zero,gf,gf];lia
 | a::ps,n+1,p,h=>by
   rw [List.set_cons_succ,gf,gf,uo (ps:=ps) (n:=n) (p:=p) (by simpa using h)];lia
theorem gh {i:Int}:∀ {l:List Int},gz (l.map (- ·)) i = - gz l i:=by
 intro l
 have:=nF (x := -1) (b:=l) (i:=i)
 rw [show l.map (- ·)=l.map (-1 * ·) from List.map_congr_left fun x _=>by lia,this];lia
theorem Ct {l r o:List Int} {k i j:Int}:tm (l.map (- ·),r,o.map (- ·)) k i j=tm (l,r,o) k i j:=by
 unfold tm;dsimp only;rw [gh,gh];simp [Int.neg_mul,Int.mul_neg]
theorem tm_lr {l r o:List Int} {k i j:Int}:tm (l.map (- ·),r.map (- ·),o) k i j=tm (l,r,o) k i j:=by
 unfold tm;dsimp only;rw [gh,gh];simp [Int.neg_mul,Int.mul_neg]
noncomputable def aM (a b:List Int):List Int:=List.zipWith (· - ·) a b
theorem jK {i:Int}:∀ {a b:List Int},a.length=b.length->gz (aM a b) i+gz b i=gz a i:=by
 intro a
 induction a generalizing i with
 | nil=>intro b h;cases b with | nil=>rw [show aM [] []=[] from rfl,dG];rfl | cons y b=>simp at h
 | cons x a ih =>
   intro b h
   cases b with
   | nil=>simp at h
   | cons y b =>
     rw [show aM (x::a) (y::b)=(x - y)::aM a b from rfl,bw,bw,bw]
     by_cases e:i=0
     ·rw [if_pos e,if_pos e,if_pos e];lia
     ·rw [if_neg e,if_neg e,if_neg e];exact ih (by simpa using h)
theorem zD {l r o m:List Int} {k i j:Int} (h:l.length=m.length):tm (aM l m,r,o) k i j+tm (m,r,o) k i j=tm (l,r,o) k i j:=by
 unfold tm;dsimp only;rw [<- Int.add_mul, <- Int.add_mul,jK h]
theorem zE {l r o m:List Int} {k i j:Int} (h:r.length=m.length):tm (l,aM r m,o) k i j+tm (l,m,o) k i j=tm (l,r,o) k i j:=by
 unfold tm;dsimp only;rw [<- Int.add_mul, <- Int.mul_add,jK h]
theorem zF {l r o m:List Int} {k i j:Int} (h:o.length=m.length):tm (l,r,aM o m) k i j+tm (l,r,m) k i j=tm (l,r,o) k i j:=by
 unfold tm;dsimp only;rw [<- Int.mul_add,jK h]
noncomputable def seven:List Pr := [([1,0,0,1],[1,0,0,1],[1,0,0,1]),([0,0,1,1],[1,0,0,0],[0,0,1, -1]),([1,0,0,0],[0,1,0, -1],[0,1,0,1]),([0,0,0,1],[-1,0,1,0],[1,0,1,0]),([1,1,0,0],[0,0,0,1],[-1,1,0,0]),([-1,0,1,0],[1,1,0,0],[0,0,0,1]),([0,1,0, -1],[0,0,1,1],[1,0,0,0])]
theorem wR:∀ a b c:Fin 4,Tn seven (a.val:Nat) (b.val:Nat) (c.val:Nat)=cf (bh 2 2 2) (((a.val:Nat):Int),((b.val:Nat):Int),((c.val:Nat):Int)):=by decide +kernel
theorem wU {k i j:Int}:Tn seven k i j=cf (bh 2 2 2) (k,i,j):=by
 by_cases h:(0<=k/\k < 4)/\(0<=i/\i < 4)/\(0<=j/\j < 4)
 ·have:=wR ⟨k.toNat,by lia⟩ ⟨i.toNat,by lia⟩ ⟨j.toNat,by lia⟩
  dsimp only at this
  rw [Int.toNat_of_nonneg h.1.1,Int.toNat_of_nonneg h.2.1.1,Int.toNat_of_nonneg h.2.2.1] at this
  exact this
 ·have n:Tn seven k i j=0:=by
   cases Decidable.em (Tn seven k i j=0) with
   | inl e=>exact e
   | inr e=>exact absurd (nH (L0 := 4) (L1 := 4) (L2 := 4) (us:=seven) (by decide) e) h
  have z:cf (bh 2 2 2) (k,i,j)=0:=eD fun t B e=>by
   obtain ⟨a,b,c,ha,hb,hc,rfl⟩:=eF B
   unfold bP at e
   have e1:=congrArg (fun q:K3=>q.1) e
   have e2:=congrArg (fun q:K3=>q.2.1) e
   have F:=congrArg (fun q:K3=>q.2.2) e
   dsimp only at e1 e2 F
   lia
  rw [n,z]
end
section
open PySem PySem.Spec PyProof.Rows L2.Srt
variable {T:List FD}
noncomputable def mvl (l:List (Int×Nat)) (L:Nat):List Int:=(List.range L).map fun t=>(l.map fun q=>if q.2=t then q.1 else 0).sum
noncomputable def mv (xs:List Int) (ps:List Nat) (L:Nat):List Int:=mvl (xs.zip ps) L
theorem gj {l:List (Int×Nat)} {L:Nat}:(mvl l L).length=L:=by simp [mvl]
theorem zG {L:Nat}:mvl [] L=List.replicate L 0:=by
 unfold mvl
 rw [List.eq_replicate_iff]
 exact ⟨by simp,fun x hx=>by obtain ⟨t,_,rfl⟩:=List.mem_map.mp hx;rfl⟩
theorem jL {l:List (Int×Nat)} {L t:Nat} (h:t < L):(mvl l L)[t]? = some ((l.map fun q=>if q.2=t then q.1 else 0).sum):=by
 unfold mvl
 rw [List.getElem?_map,List.getElem?_range h];rfl
theorem zH {l:List (Int×Nat)} {x:Int} {t L:Nat} (h:t < L):(mvl l L).set t ((l.map fun q=>if q.2=t then q.1 else 0).sum+x)=mvl (l++[(x,t)]) L:=by
 apply List.ext_getElem?
 intro i
 rw [List.getElem?_set,gj]
 by_cases hi:i < L
 ·rw [jL hi,jL hi,List.map_append,List.sum_append]
  by_cases e:t=i
  ·subst e;simp [h]
  ·rw [if_neg e];simp [e]
 ·rw [List.getElem?_eq_none (by rw [gj];lia),List.getElem?_eq_none (by rw [gj];lia),if_neg (by lia)]
noncomputable def nsD (ps:List Nat):List D:=ps.map fun t=>D.int (t:Nat)
noncomputable def jM (s:Stmt):FD:=⟨"moved",s,["part", "places", "length", "row", "x", "at"],3,
 (.cons (.asg (.name 3) (.bin .mul (.lst (.cons (.int 0) .nil)) (.var 2)))
 (.cons (.for (.tup (.cons (.name 4) (.cons (.name 5) .nil))) (.zip (.var 0) (.var 1)) (.cons (.augI (.var 3) (.var 5) .add (.var 4))
 .nil))
 (.cons (.ret (.blt .tuple (.cons (.var 3) .nil)))
 .nil)))⟩
noncomputable def pK (T:List FD) (n f:Nat):Prop := ∀ {xs:List Int} {ps:List Nat} {L:Nat} {pp:Addr} {M:Mem} {Q:QD},L<=100000->(∀ t∈ps,t < L)->M pp=some (.lst (nsD ps))->(∀ M',Ge M M'->Q (.tup ((mv xs ps L).map .int)) M')->phi T n f [.tup (xs.map .int), .ref pp, .int L] M Q
theorem uq:∀ {xs:List Int} {ps:List Nat},List.zipWith eT (xs.map .int) (nsD ps)=(xs.zip ps).map fun q=>D.tup [.int q.1, .int (q.2:Nat)]
 | [],ps=>by simp [nsD]
 | x::xs,[] => by simp [nsD]
 | x::xs,t::ps=>by
   have:=uq (xs:=xs) (ps:=ps)
   unfold nsD at this ⊢
   rw [List.map_cons,List.map_cons,List.zipWith_cons_cons,this];rfl
theorem wV {f:Nat} {s:Stmt} (hf:T[f]? = some (jM s)) {n:Nat} (hn : 1<=n):pK T n f:=by
 intro xs ps L pp M Q hL O ep q
 refine aq (by lia) hf rfl (ρ := [some _,some _,some _,none,none,none]) rfl ?_
 unfold jM
 walk_at "st"
 refine ⟨by rw [sizeLine_eq];lia,fun Y R => ?_⟩
 have g1:=Ge.new (o := .lst [.int 0]) R
 refine ⟨_,ad,by lia,by lia,by rw [sizeLine_eq];simp;lia,fun p2 B => ?_⟩
 have g2:=g1.trans (Ge.new (o := .lst (List.replicate (L:Int).toNat [D.int 0]).flatten) B)
 have G:M p2=none:=by
  cases hq:M p2 with
  | none=>rfl
  | some o=>rw [g1 _ _ hq] at B;cases B
 have e2:ag (ag M Y (.lst [.int 0])) p2 (.lst (List.replicate (L:Int).toNat [D.int 0]).flatten) p2=some (.lst ((mvl [] L).map .int)):=by
  rw [ad,D3,zG];simp
 generalize ag (ag M Y (.lst [.int 0])) p2 (.lst (List.replicate (L:Int).toNat [D.int 0]).flatten)=M2 at g2 e2 ⊢
 walk_at "st"
 refine ⟨_,ae (g2 _ _ ep), ?_⟩
 rw [uq]
 refine aP (f:=fun q:Int×Nat=>D.tup [.int q.1, .int (q.2:Nat)]) (ys:=xs.zip ps) (I:=fun l ρ M' => ∃ S U, ρ = [some (.tup (xs.map .int)),some (.ref pp),some (.int L),some (.ref p2),S,U]/\Ge M M'/\M' p2=some (.lst ((mvl l L).map .int))) rfl ⟨_,_,rfl,g2,e2⟩ (fun _ _ _ ⟨_,_,_,g,_⟩=>by first | exact ae (g _ _ ep) | exact ⟨rfl,ae (g _ _ ep)⟩) ?_ ?_
 ·rintro l z r ρ M3 e ⟨S,U,rfl,g3,J⟩
  refine ⟨_,rfl,fun F Z => ?_⟩
  have hz:z.2 < L:=O z.2 (List.of_mem_zip (show (z.1,z.2)∈xs.zip ps by rw [e];simp)).2
  rw [bH]
  walk_at "wp"
  refine ⟨p2,_,_, .int ((l.map fun q=>if q.2=z.2 then q.1 else 0).sum),rfl,rfl,J, ?_, ?_⟩
  ·refine dw ?_
   rw [List.getElem?_map,jL hz];rfl
  walk_at "wp"
  refine eZ J (j:=z.2) ?_ ?_
  ·unfold ixN
   rw [List.length_map,gj,if_pos (by lia),if_pos (by lia)];simp
  refine Z _ _ ⟨_,_,rfl,g3.upd G, ?_⟩
  rw [ad, <- zH hz,List.map_set]
 ·rintro ρ M3 ⟨S,U,rfl,g3,J⟩
  dsimp only
  walk_at "st"
  exact ⟨_,_,rfl,ae J,q _ g3⟩
noncomputable def mvP (P0 P1 P2:List Nat) (L0 L1 L2:Nat) (u:Pr):Pr:=(mv u.1 P0 L0,mv u.2.1 P1 L1,mv u.2.2 P2 L2)
noncomputable def wW (s:Stmt) (fm:Nat):FD:=⟨"products_moved",s,["products", "places", "lengths"],3,
 (.cons (.ret (.comp [none,(some 1),(some 2)] ["product", "places", "lengths"] (.last (.seq (.var 0)) (.name 0) .nil (.blt .tuple (.cons (.comp [none,none,none] ["part", "spots", "length"] (.last (.zip3 (.var 0) (.var 1) (.var 2)) (.tup (.cons (.name 0) (.cons (.name 1) (.cons (.name 2) .nil)))) .nil (.call fm (.cons (.var 0) (.cons (.var 1) (.cons (.var 2) .nil)))))) .nil)))))
 .nil)⟩
theorem ut {f fm:Nat} {s:Stmt} (hf:T[f]? = some (wW s fm)) {n:Nat} (L:pK T (n - 1) fm) (hn : 1<=n) {us:List Pr} (hl:us.length<=100000) {j z B:List Nat} {L0 L1 L2:Nat} (h0:L0<=100000) (h1:L1<=100000) (h2:L2<=100000) (Y:∀ t∈j,t < L0) (b1:∀ t∈z,t < L1) (b2:∀ t∈B,t < L2) {pu pl G J p2:Addr} {M:Mem} {Q:QD} (eu:M pu=some (.lst (us.map prD))) (el:M pl=some (.lst [.ref G, .ref J, .ref p2])) (e0:M G=some (.lst (nsD j))) (e1:M J=some (.lst (nsD z))) (e2:M p2=some (.lst (nsD B)))
 (q:∀ p M',Ge M M'->M p=none->M' p=some (.lst ((us.map (mvP j z B L0 L1 L2)).map prD))->Q (.ref p) M'):phi T n f [.ref pu, .ref pl, .tup [.int L0, .int L1, .int L2]] M Q:=by
 refine aq (by lia) hf rfl (ρ := [some _,some _,some _]) rfl ?_
 unfold wW
 walk_at "st"
 refine ⟨_,ae eu, ?_⟩
 refine ao (f:=prD) (ys:=us) (I:=fun l ρ M' acc=>(∃ o0, ρ = [o0,some (.ref pl),some (.tup [.int L0, .int L1, .int L2])])/\Ge M M'/\acc=(l.map (mvP j z B L0 L1 L2)).map prD) rfl ⟨⟨_,rfl⟩,Ge.refl,rfl⟩ (fun _ _ _ _ h=>ae (h.2.1 _ _ eu)) ?_ ?_
 ·rintro l u r ρ M1 acc e ⟨⟨o0,rfl⟩,g1,rfl⟩
  refine ⟨_,rfl,fun N' O => ?_⟩
  have Z:=ak e
  have el:=g1 _ _ el
  walk_at "wp"
  refine ⟨_,rfl,rfl,_,ae el, ?_⟩
  refine ao (f:=fun w:List Int×(Addr×List Nat)×Nat=>D.tup [.tup (w.1.map .int), .ref w.2.1.1, .int (w.2.2:Nat)]) (ys := [(u.1,(G,j),L0),(u.2.1,(J,z),L1),(u.2.2,(p2,B),L2)]) (I:=fun l' ρ M' acc=>(∃ o0 R S, ρ = [o0,R,S])/\Ge M M'/\acc=l'.map fun w=>D.tup ((mv w.1 w.2.1.2 w.2.2).map .int)) rfl ⟨⟨_,_,_,rfl⟩,g1,rfl⟩ (fun _ _ _ _ h=>by first | exact ae (h.2.1 _ _ (by assumption)) | trivial) ?_ ?_
  ·rintro l' w r' ρ M2 acc e' ⟨⟨o0,R,S,rfl⟩,g2,rfl⟩
   refine ⟨_,rfl,fun N'' F => ?_⟩
   have U:l'.length < 3:=ak e'
   have hw:w.2.2<=100000/\(∀ t∈w.2.1.2,t < w.2.2)/\M2 w.2.1.1=some (.lst (nsD w.2.1.2)):=by
    have hm:w∈[(u.1,(G,j),L0),(u.2.1,(J,z),L1),(u.2.2,(p2,B),L2)]:=by rw [e'];simp
    simp only [List.mem_cons,List.not_mem_nil,or_false] at hm
    rcases hm with rfl | rfl | rfl
    ·exact ⟨h0,Y,g2 _ _ e0⟩
    ·exact ⟨h1,b1,g2 _ _ e1⟩
    ·exact ⟨h2,b2,g2 _ _ e2⟩
   walk_at "wp"
   refine L hw.1 hw.2.1 hw.2.2 fun M3 g3 => ?_
   exact ⟨by rw [List.length_map,sizeLine_eq];lia,F _ _ _ ⟨⟨_,_,_,rfl⟩,g2.trans g3,by simp⟩⟩
  ·rintro ρ M2 acc ⟨⟨o0,R,S,rfl⟩,g2,rfl⟩ pt hpt
   refine ⟨_,_,rfl,ae ad, ?_⟩
   exact ⟨by rw [List.length_map,List.length_map,sizeLine_eq];lia,O _ _ _ ⟨⟨_,rfl⟩,g2.trans (Ge.new hpt),by simp [prD,mvP]⟩⟩
 ·rintro ρ M1 acc ⟨⟨o0,rfl⟩,g1,rfl⟩ p hp
  refine q p _ (g1.trans (Ge.new hp)) ?_ ad
  cases hq:M p with
  | none=>rfl
  | some o=>rw [g1 _ _ hq] at hp;cases hp
end
section
open PySem PySem.Spec PyProof.Rows L2.Srt
variable {T:List FD}
noncomputable def fL (s:Stmt) (ft fa:Nat):FD:=⟨"_law_dressed",s,["_law_box_here", "_law_lengths", "_law_products", "_law_most", "_law_found", "_law_l", "_law_r", "_law_o", "_law_way", "_law_turn", "_law_at", "_law_side", "_law_more", "_law_less", "_law_extra"],4,
 (.cons (.asg (.name 4) (.lst .nil))
 (.cons (.for (.tup (.cons (.name 5) (.cons (.name 6) (.cons (.name 7) .nil)))) (.seq (.var 2)) (.cons (.asg (.name 8) (.call ft (.cons (.var 0) (.cons (.int 6) .nil))))
 (.cons (.ite (.cmp .eq (.var 8) (.int 0)) (.cons (.par 5 7 (.call fa (.cons (.var 5) .nil)) (.call fa (.cons (.var 7) .nil)))
 .nil) .nil)
 (.cons (.ite (.cmp .eq (.var 8) (.int 1)) (.cons (.par 5 6 (.call fa (.cons (.var 5) .nil)) (.call fa (.cons (.var 6) .nil)))
 .nil) .nil)
 (.cons (.drop (.ins (.var 4) (.call ft (.cons (.var 0) (.cons (.bin .add (.blt .len (.cons (.var 4) .nil)) (.int 1)) .nil))) (.tup (.cons (.var 5) (.cons (.var 6) (.cons (.var 7) .nil))))))
 .nil)))))
 (.cons (.for (.name 9) (.rng1 (.call ft (.cons (.var 0) (.cons (.bin .add (.var 3) (.int 1)) .nil)))) (.cons (.asg (.name 10) (.call ft (.cons (.var 0) (.cons (.blt .len (.cons (.var 4) .nil)) .nil))))
 (.cons (.asg (.tup (.cons (.name 5) (.cons (.name 6) (.cons (.name 7) .nil)))) (.ix (.var 4) (.var 10)))
 (.cons (.asg (.name 11) (.call ft (.cons (.var 0) (.cons (.int 3) .nil))))
 (.cons (.asg (.name 12) (.blt .tuple (.cons (.comp [none,(some 0)] ["_law_number", "_law_box_here"] (.last (.seq (.ix (.ix (.var 4) (.var 10)) (.var 11))) (.name 0) .nil (.bin .sub (.call ft (.cons (.var 1) (.cons (.int 5) .nil))) (.int 2)))) .nil)))
 (.cons (.asg (.name 13) (.blt .tuple (.cons (.comp [none,none] ["_law_number", "_law_other"] (.last (.zip (.ix (.ix (.var 4) (.var 10)) (.var 11)) (.var 12)) (.tup (.cons (.name 0) (.cons (.name 1) .nil))) .nil (.bin .sub (.var 0) (.var 1)))) .nil)))
 (.cons (.put (.var 4) (.var 10) (.bin .add (.bin .add (.sl (.ix (.var 4) (.var 10)) .none (.some (.var 11))) (.tup (.cons (.var 13) .nil))) (.sl (.ix (.var 4) (.var 10)) (.some (.bin .add (.var 11) (.int 1))) .none)))
 (.cons (.asg (.name 14) (.bin .add (.bin .add (.sl (.tup (.cons (.var 5) (.cons (.var 6) (.cons (.var 7) .nil)))) .none (.some (.var 11))) (.tup (.cons (.var 12) .nil))) (.sl (.tup (.cons (.var 5) (.cons (.var 6) (.cons (.var 7) .nil)))) (.some (.bin .add (.var 11) (.int 1))) .none)))
 (.cons (.drop (.ins (.var 4) (.call ft (.cons (.var 0) (.cons (.bin .add (.blt .len (.cons (.var 4) .nil)) (.int 1)) .nil))) (.var 14)))
 .nil)))))))))
 (.cons (.ret (.bin .add (.blt .tuple (.cons (.var 1) .nil)) (.tup (.cons (.var 4) .nil))))
 .nil))))⟩
noncomputable def pL (T:List FD) (n f:Nat):Prop := ∀ {l:List Int} {M:Mem} {Q:QD},l.length<=100000->(∀ M',Ge M M'->Q (.tup ((l.map (- ·)).map .int)) M')->phi T n f [.tup (l.map .int)] M Q
noncomputable def Within (B:Int) (l:List Int):Prop := ∀ x∈l, -B<=x/\x<=B
structure Dr (B:Int) (L0 L1 L2:Nat) (p:Pr):Prop where
 l0:p.1.length=L0
 l1:p.2.1.length=L1
 l2:p.2.2.length=L2
 e0:Within B p.1
 e1:Within B p.2.1
 e2:Within B p.2.2
theorem Within.neg {B:Int} {l:List Int} (h:Within B l):Within B (l.map (- ·)):=fun x hx=>by
 obtain ⟨y,hy,rfl⟩:=List.mem_map.mp hx
 have:=h y hy;lia
theorem Within.mono {B B':Int} (hb:B<=B') {l:List Int} (h:Within B l):Within B' l:=fun x hx=>by
 have:=h x hx;lia
theorem Dr.mono {B B':Int} (hb:B<=B') {L0 L1 L2:Nat} {p:Pr} (h:Dr B L0 L1 L2 p):Dr B' L0 L1 L2 p:=⟨h.l0,h.l1,h.l2,h.e0.mono hb,h.e1.mono hb,h.e2.mono hb⟩
theorem wX {a b:List Int} (h:a.length=b.length):(aM a b).length=a.length:=by simp [aM,h]
theorem Within.less {B:Int}:∀ {a b:List Int},Within B a->Within 2 b->Within (B+2) (aM a b)
 | [],_,_,_=>fun x hx=>by simp [aM] at hx
 | _::_,[],_,_=>fun x hx=>by simp [aM] at hx
 | x::a,y::b,ha,hb=>fun z hz=>by
   rw [show aM (x::a) (y::b)=(x - y)::aM a b from rfl] at hz
   rcases List.mem_cons.mp hz with rfl | hz
   ·have:=ha x (by simp);have:=hb y (by simp);lia
   ·exact Within.less (fun w hw=>ha w (by simp [hw])) (fun w hw=>hb w (by simp [hw])) z hz
noncomputable def pAt (p:Pr):Nat->List Int | 0=>p.1 | 1=>p.2.1 | _=>p.2.2
noncomputable def cm (p:Pr) (m:List Int):Nat->Pr | 0=>(m,p.2.1,p.2.2) | 1=>(p.1,m,p.2.2) | _=>(p.1,p.2.1,m)
theorem Bt {p:Pr} {m:List Int} {s:Nat} {k i j:Int} (h:(pAt p s).length=m.length):tm (cm p (aM (pAt p s) m) s) k i j+tm (cm p m s) k i j=tm p k i j:=by
 match s with
 | 0=>exact zD h
 | 1=>exact zE h
 | _+2=>exact zF h
theorem Dr.set {B:Int} {L0 L1 L2:Nat} {p:Pr} (h:Dr B L0 L1 L2 p) {m:List Int} {s:Nat} (j:m.length=(pAt p s).length) (hw:Within B m):Dr B L0 L1 L2 (cm p m s):=by
 match s with
 | 0=>exact ⟨j.trans h.l0,h.l1,h.l2,hw,h.e1,h.e2⟩
 | 1=>exact ⟨h.l0,j.trans h.l1,h.l2,h.e0,hw,h.e2⟩
 | _+2=>exact ⟨h.l0,h.l1,j.trans h.l2,h.e0,h.e1,hw⟩
theorem Dr.at {B:Int} {L0 L1 L2:Nat} {p:Pr} (h:Dr B L0 L1 L2 p) {s:Nat}:Within B (pAt p s):=by
 match s with
 | 0=>exact h.e0
 | 1=>exact h.e1
 | _+2=>exact h.e2
theorem zI {ft n:Nat} (B:j4 T n ft) {b:Addr} {M:Mem} {N:NC} (hb:Box b M) {l:List Int} (j:l.length<=1000)
 (q:∀ (ns:List Int) ρ M',ns.length=l.length->Within 2 ns->Bx b M M'->N ρ M' (ns.map .int)) :
 bQ (bm 0) (ce (wOp jo (wAr (phi T n ft) (az (bS 1) (az (wC (.int 5)) bn))) (wC (.int 2)))) (fun M=>ar M (.tup (l.map .int))=some (l.map .int)) N (l.map .int) [none,some (.ref b)] M []:=by
 refine ao (f:=D.int) (ys:=l) (I:=fun l ρ M' acc => ∃ ns:List Int,(∃ o, ρ = [o,some (.ref b)])/\acc=ns.map .int/\ns.length=l.length/\Within 2 ns/\Bx b M M') rfl ⟨[],⟨_,rfl⟩,rfl,rfl,fun _ h=>by simp at h,Bx.refl hb⟩ (fun _ _ _ _ _=>rfl) ?_ ?_
 ·rintro l i r ρ M1 acc e ⟨ns,⟨o,rfl⟩,rfl,j,F,z⟩
  refine ⟨_,rfl,fun N' G => ?_⟩
  have J:=ak e
  walk_at "wp"
  refine B z.box (by lia) (by lia) fun v M2 v0 v1 L => ?_
  walk_at "wp"
  refine ⟨by rw [List.length_map,sizeLine_eq];lia,G _ _ _ ⟨ns++[v - 2],⟨_,rfl⟩,by simp,by simp [j],fun y hy => ?_,z.trans L⟩⟩
  rcases List.mem_append.mp hy with h | h
  ·exact F y h
  ·simp at h;subst h;lia
 ·rintro ρ M1 acc ⟨ns,⟨o,rfl⟩,rfl,j,F,z⟩
  exact q ns _ M1 j F z
theorem zJ {M:Mem} {N:NC} {a b:List Int} (F:a.length<=1000) {chk:Mem->Prop} (hc:chk M)
 (q:∀ ρ,N ρ M ((aM a b).map .int)) :
 bQ (jx (bE (bm 0) (bE (bm 1) eR))) (ce (wOp jo (bS 0) (bS 1))) chk N (List.zipWith eT (a.map .int) (b.map .int)) [none,none] M []:=by
 have ez:List.zipWith eT (a.map D.int) (b.map D.int)=(a.zip b).map fun z=>D.tup [.int z.1, .int z.2]:=by
  rw [List.zipWith_map,List.zip,List.map_zipWith];rfl
 refine ao (f:=fun z:Int×Int=>D.tup [.int z.1, .int z.2]) (ys:=a.zip b) (I:=fun l ρ M' acc=>(∃ o0 j, ρ = [o0,j])/\M'=M/\acc=(l.map fun z=>z.1 - z.2).map .int) ez ⟨⟨_,_,rfl⟩,rfl,rfl⟩ (fun _ _ _ _ h=>by rw [h.2.1];exact hc) ?_ ?_
 ·rintro l z r ρ M1 acc e ⟨⟨o0,j,rfl⟩,rfl,rfl⟩
  refine ⟨_,rfl,fun N' n => ?_⟩
  have B:=ak e
  rw [List.length_zip] at B
  walk_at "wp"
  exact ⟨by rw [List.length_map,List.length_map,sizeLine_eq];lia,n _ _ _ ⟨⟨_,_,rfl⟩,rfl,by simp⟩⟩
 ·rintro ρ M1 acc ⟨⟨o0,j,rfl⟩,rfl,rfl⟩
  have:(a.zip b).map (fun z=>z.1 - z.2)=aM a b:=by rw [List.zip,List.map_zipWith];rfl
  rw [this];exact q _
theorem uu {p:Pr} {s:Nat} (h:s < 3):atI [D.tup (p.1.map .int), .tup (p.2.1.map .int), .tup (p.2.2.map .int)] (s:Nat)=some (.tup ((pAt p s).map .int)):=by
 match s,h with
 | 0,_=>rfl
 | 1,_=>rfl
 | 2,_=>rfl
noncomputable def pts (p:Pr):List D := [.tup (p.1.map .int), .tup (p.2.1.map .int), .tup (p.2.2.map .int)]
theorem pM {p:Pr} {s:Nat} (h:s < 3) {M:Mem} {Q:QD} (q:Q (.tup ((pts p).take s)) M):dD (prD p) none (some ((s:Nat):Int)) M Q:=by
 match s,h with
 | 0,_=>exact q
 | 1,_=>exact q
 | 2,_=>exact q
theorem pO {p:Pr} {s:Nat} (h:s < 3) {M:Mem} {Q:QD} (q:Q (.tup ((pts p).drop (s+1))) M):dD (prD p) (some (((s:Nat):Int)+1)) none M Q:=by
 match s,h with
 | 0,_=>exact q
 | 1,_=>exact q
 | 2,_=>exact q
theorem pP {p:Pr} {m:List Int} {s:Nat} (h:s < 3):D.tup ((pts p).take s++[.tup (m.map .int)]++(pts p).drop (s+1))=prD (cm p m s):=by
 match s,h with
 | 0,_=>rfl
 | 1,_=>rfl
 | 2,_=>rfl
theorem gk {p:Pr}:(pts p).length=3:=rfl
theorem rh {f ft fa:Nat} {s:Stmt} (hf:T[f]? = some (fL s ft fa)) {n:Nat} (S:j4 T (n - 1) ft) (D9:pL T (n - 1) fa) (hn : 1<=n) {b:Addr} {L0 L1 L2 most:Nat} {B:Int} (hB : 1<=B/\B<=100) (h0:L0<=100) (h1:L1<=100) (h2:L2<=100) (hm:most<=20) {ps:List Pr} (Ds:∀ p∈ps,Dr B L0 L1 L2 p) (Dl:ps≠[]) (hl:ps.length<=10000) {y0 y1 y2:D} {pp:Addr} {M:Mem} {Q:QD} (hb:Box b M) (Dm:pp≠b) (ep:M pp=some (.lst (ps.map prD)))
 (q:∀ (qs:List Pr) pf M',(∀ p∈qs,Dr (B+2*most) L0 L1 L2 p)->qs.length<=ps.length+most->qs≠[]->(∀ k i j,Tn qs k i j=Tn ps k i j)->Bx b M M'->M pf=none->pf≠b->M' pf=some (.lst (qs.map prD))->Q (.tup [y0,y1,y2, .ref pf]) M') :
 phi T n f [.ref b, .tup [y0,y1,y2], .ref pp, .int most] M Q:=by
 refine aq (by lia) hf rfl (ρ := [some _,some _,some _,some _,none,none,none,none,none,none,none,none,none,none,none]) rfl ?_
 unfold fL
 walk_at "st"
 refine ⟨by rw [sizeLine_eq];lia,fun pf U => ?_⟩
 have G:pf≠b:=fun w=>by obtain ⟨_,_,_,e⟩:=hb;rw [<- w,U] at e;cases e
 have x1:=Bx.of hb (Ge.new (o := .lst []) U)
 have e1:=ad (M:=M) (a:=pf) (o := .lst [])
 generalize ag M pf (.lst [])=M1 at x1 e1 ⊢
 walk_at "st"
 refine ⟨_,ae (x1.keep _ _ Dm ep), ?_⟩
 refine aP (f:=prD) (ys:=ps) (I:=fun l ρ M' => ∃ qs o5 o6 o7 o8, ρ = [some (.ref b),some (.tup [y0,y1,y2]),some (.ref pp),some (.int most),some (.ref pf),o5,o6,o7,o8,none,none,none,none,none,none]/\Bx b M M'/\M' pf=some (.lst (qs.map prD))/\qs.length=l.length/\(∀ p∈qs,Dr B L0 L1 L2 p) /\ ∀ k i j,Tn qs k i j=Tn l k i j) rfl ⟨[],_,_,_,_,rfl,x1,e1,rfl,fun _ h=>by simp at h,fun _ _ _=>rfl⟩ (fun _ _ _ ⟨_,_,_,_,_,_,h,_⟩=>ae (h.keep _ _ Dm ep)) ?_ ?_
 ·rintro l p r ρ M2 e ⟨qs,o5,o6,o7,o8,rfl,x2,e2,Y,L,hT⟩
  refine ⟨_,rfl,fun F hF => ?_⟩
  have hp:=Ds p (by rw [e];simp)
  have Dn:=ak e
  walk_at "st"
  refine S x2.box (by decide) (by decide) fun v M3 v0 v1 Z => ?_
  have e3:=Z.keep pf _ G e2
  have Z:=x2.trans Z
  clear e2 x2
  refine cG (fun ρ M' => ∃ l' r' o', ρ = [some (.ref b),some (.tup [y0,y1,y2]),some (.ref pp),some (.int most),some (.ref pf),some (.tup (l'.map .int)),some (.tup (r'.map .int)),some (.tup (o'.map .int)),some (.int v),none,none,none,none,none,none]/\Bx b M M'/\M' pf=some (.lst (qs.map prD))/\Dr B L0 L1 L2 (l',r',o') /\ ∀ k i j,tm (l',r',o') k i j=tm p k i j) (fun R hR => ?_) ?_
  ·walk_at "wp"
   by_cases hv:v=0
   ·rw [if_pos (by simp [hv])]
    walk_at "st"
    refine D9 (by have:=hp.l0;lia) fun M4 g4=>D9 (by have:=hp.l2;lia) fun M5 g5=>hR _ _ ⟨_,_,_,rfl,Z.ge (g4.trans g5),(g4.trans g5) _ _ e3,⟨by rw [List.length_map];exact hp.l0,hp.l1,by rw [List.length_map];exact hp.l2,hp.e0.neg,hp.e1,hp.e2.neg⟩,fun k i j=>Ct⟩
   ·rw [if_neg (by simp [hv])]
    exact hR _ _ ⟨_,_,_,rfl,Z,e3,hp,fun _ _ _=>rfl⟩
  rintro ρ M4 ⟨l',r',o',rfl,x4,e4,J,ht⟩
  refine cG (fun ρ M' => ∃ l' r' o', ρ = [some (.ref b),some (.tup [y0,y1,y2]),some (.ref pp),some (.int most),some (.ref pf),some (.tup (l'.map .int)),some (.tup (r'.map .int)),some (.tup (o'.map .int)),some (.int v),none,none,none,none,none,none]/\Bx b M M'/\M' pf=some (.lst (qs.map prD))/\Dr B L0 L1 L2 (l',r',o') /\ ∀ k i j,tm (l',r',o') k i j=tm p k i j) (fun R hR => ?_) ?_
  ·walk_at "wp"
   by_cases hv:v=1
   ·rw [if_pos (by simp [hv])]
    walk_at "st"
    refine D9 (by have:=J.l0;dsimp only at this;lia) fun M5 g5=>D9 (by have:=J.l1;dsimp only at this;lia) fun M6 g6=>hR _ _ ⟨_,_,_,rfl,x4.ge (g5.trans g6),(g5.trans g6) _ _ e4,⟨by rw [List.length_map];exact J.l0,by rw [List.length_map];exact J.l1,J.l2,J.e0.neg,J.e1.neg,J.e2⟩,fun k i j=>tm_lr.trans (ht k i j)⟩
   ·rw [if_neg (by simp [hv])]
    exact hR _ _ ⟨_,_,_,rfl,x4,e4,J,ht⟩
  clear Z e3 x4 e4 J ht
  rintro ρ M5 ⟨l',r',o',rfl,x5,e5,J,ht⟩
  walk_at "st"
  refine ⟨⟨_,e5⟩,jF e5 ?_⟩
  walk_at "wp"
  rw [List.length_map]
  refine S x5.box (by lia) (by lia) fun w M6 w0 w1 x6 => ?_
  have e6:=x6.keep pf _ G e5
  have x6:=x5.trans x6
  refine ⟨by rw [sizeLine_eq];lia, ?_⟩
  refine ⟨_,_,_,_,rfl,rfl,e6,w0,by rw [List.length_map];lia,by rw [List.length_map,sizeLine_eq];lia, ?_⟩
  refine hF _ _ ⟨qs.take w.toNat++(l',r',o')::qs.drop w.toNat,_,_,_,_,rfl,x6.upd U G, ?_, ?_, ?_, ?_⟩
  ·rw [ad,List.map_append,List.map_cons,List.map_take,List.map_drop];rfl
  ·rw [List.length_append,List.length_cons,List.length_take,List.length_drop,List.length_append,List.length_singleton];lia
  ·intro y hy
   rcases List.mem_append.mp hy with h | h
   ·exact L y (List.mem_of_mem_take h)
   ·rcases List.mem_cons.mp h with rfl | h
    ·exact J
    ·exact L y (List.mem_of_mem_drop h)
  ·intro k i j
   rw [um,hT,ht,dQ,gf];simp [Tn]
 ·rintro ρ M2 ⟨qs,o5,o6,o7,o8,rfl,x2,e2,Y,L,hT⟩
  dsimp only
  walk_at "st"
  refine S x2.box (by lia) (by lia) fun v M3 v0 v1 Z => ?_
  have e3:=Z.keep pf _ G e2
  have Z:=x2.trans Z
  clear e1 x1 e2 x2
  refine ⟨_,rfl,by lia,by lia, ?_⟩
  refine aP (f:=fun i=>D.int (i:Nat)) (ys:=List.range v.toNat) (I:=fun l ρ M' => ∃ qs o5 o6 o7 o8 o9 Dc Dd De Df Dg, ρ = [some (.ref b),some (.tup [y0,y1,y2]),some (.ref pp),some (.int most),some (.ref pf),o5,o6,o7,o8,o9,Dc,Dd,De,Df,Dg]/\Bx b M M'/\M' pf=some (.lst (qs.map prD))/\qs.length=ps.length+l.length/\(∀ p∈qs,Dr (B+2*l.length) L0 L1 L2 p) /\ ∀ k i j,Tn qs k i j=Tn ps k i j) aE ⟨qs,_,_,_,_,_,_,_,_,_,_,rfl,Z,e3,Y,fun p hp=>(L p hp).mono (by simp),hT⟩ (fun _ _ _ _=>trivial) ?_ ?_
  ·rintro l t r ρ M4 e ⟨qs,o5,o6,o7,o8,o9,Dc,Dd,De,Df,Dg,rfl,x4,e4,Y,L,hT⟩
   refine ⟨_,rfl,fun F hF => ?_⟩
   have Dn:=ak e
   rw [List.length_range] at Dn
   have Dx : 1<=ps.length:=by
    cases ps with
    | nil=>exact absurd rfl Dl
    | cons _ _=>simp
   walk_at "st"
   refine jF e4 ?_
   rw [List.length_map]
   refine S x4.box (by lia) (by lia) fun a M5 a0 a1 x5 => ?_
   have e5:=x5.keep pf _ G e4
   have x5:=x4.trans x5
   clear e4 x4
   obtain ⟨a,rfl⟩:∃ k:Nat,a=k:=⟨a.toNat,by lia⟩
   obtain ⟨p,hp⟩:∃ p,qs[a]? = some p:=⟨_,List.getElem?_eq_getElem (by lia)⟩
   have Dt:=List.mem_of_getElem? hp
   have hd:=L p Dt
   have D7:atI (qs.map prD) ((a:Nat):Int)=some (prD p):=dw (by rw [List.getElem?_map,hp];rfl)
   walk_at "st"
   refine aA e5 D7 ?_
   refine ⟨_,rfl, ?_⟩
   walk_at "st"
   refine S x5.box (by decide) (by decide) fun c M6 c0 c1 x6 => ?_
   have e6:=x6.keep pf _ G e5
   have x6:=x5.trans x6
   clear e5 x5
   obtain ⟨c,rfl⟩:∃ k:Nat,c=k:=⟨c.toNat,by lia⟩
   have O:c < 3:=by lia
   have Do:(pAt p c).length<=1000:=by
    have:=hd.l0;have:=hd.l1;have:=hd.l2
    match c,O with
    | 0,_=>show p.1.length<=_;lia
    | 1,_=>show p.2.1.length<=_;lia
    | 2,_=>show p.2.2.length<=_;lia
   walk_at "st"
   refine aA e6 D7 ?_
   refine ⟨_,_,rfl,uu O,_,rfl, ?_⟩
   refine zI S x6.box Do fun m ρ M7 Dh Dp x7 p7 hp7 => ?_
   have e7:=x7.keep pf _ G e6
   have x7:=x6.trans x7
   refine ⟨_,_,rfl,ae ad, ?_⟩
   have g8:=Ge.new (o := .lst (m.map .int)) hp7
   have e8:=g8 _ _ e7
   have x8:=x7.ge g8
   generalize ag M7 p7 (.lst (m.map .int))=M8 at g8 e8 x8 ⊢
   clear e6 x6 e7 x7 g8 hp7
   walk_at "st"
   refine aA e8 D7 ?_
   refine ⟨_,_,rfl,uu O,_,rfl, ?_⟩
   refine zJ Do rfl fun ρ p9 hp9 => ?_
   refine ⟨_,_,rfl,ae ad, ?_⟩
   have g9:=Ge.new (o := .lst ((aM (pAt p c) m).map .int)) hp9
   have e9:=g9 _ _ e8
   have x9:=x8.ge g9
   generalize ag M8 p9 (.lst ((aM (pAt p c) m).map .int))=M9 at g9 e9 x9 ⊢
   clear e8 x8 g9 hp9
   walk_at "st"
   refine aA e9 D7 ?_
   refine pM O ⟨by rw [sizeLine_eq];lia, .inr trivial,by rw [sizeLine_eq,List.length_take,gk,List.length_singleton];lia, ?_⟩
   refine aA e9 D7 ?_
   refine pO O ⟨.inr trivial,by rw [sizeLine_eq,List.length_append,List.length_take,List.length_drop,gk,List.length_singleton];lia, ?_⟩
   rw [pP O]
   refine eZ e9 (j:=a) (by rw [List.length_map];unfold ixN;rw [if_pos (by lia),if_pos (by lia),Int.toNat_natCast]) ?_
   have Di:Bx b M (ag M9 pf (.lst ((qs.map prD).set a (prD (cm p (aM (pAt p c) m) c))))):=x9.upd U G
   have D8:ag M9 pf (.lst ((qs.map prD).set a (prD (cm p (aM (pAt p c) m) c)))) pf=some (.lst ((qs.set a (cm p (aM (pAt p c) m) c)).map prD)):=by rw [ad,List.map_set]
   generalize ag M9 pf (.lst ((qs.map prD).set a (prD (cm p (aM (pAt p c) m) c))))=M10 at Di D8 ⊢
   clear e9 x9
   have Dq:∀ k i j,Tn (qs.set a (cm p (aM (pAt p c) m) c)) k i j+tm (cm p m c) k i j=Tn ps k i j:=fun k i j=>by
    have h1:=Bt (p:=p) (m:=m) (s:=c) (k:=k) (i:=i) (j:=j) Dh.symm
    rw [uo hp,hT, <- h1];lia
   have Dj:∀ y∈qs.set a (cm p (aM (pAt p c) m) c),Dr (B+2*(l++[t]).length) L0 L1 L2 y:=fun y hy=>by
    have Da:B+2*l.length<=B+2*(l++[t]).length:=by rw [List.length_append,List.length_singleton];lia
    rcases List.mem_or_eq_of_mem_set hy with h | h
    ·exact (L y h).mono Da
    ·rw [h]
     refine (hd.mono Da).set (wX Dh.symm) ?_
     have:=(hd.at (s:=c)).less Dp
     exact this.mono (by rw [List.length_append,List.length_singleton];lia)
   have Du:Dr (B+2*(l++[t]).length) L0 L1 L2 (cm p m c):=by
    have Da:B+2*l.length<=B+2*(l++[t]).length:=by rw [List.length_append,List.length_singleton];lia
    exact (hd.mono Da).set Dh (Dp.mono (by rw [List.length_append,List.length_singleton];lia))
   have Dv:(qs.set a (cm p (aM (pAt p c) m) c)).length=qs.length:=List.length_set
   generalize qs.set a (cm p (aM (pAt p c) m) c)=us at Dq Dj Dv D8
   walk_at "st"
   refine ⟨by rw [sizeLine_eq];lia, ?_⟩
   refine pM O ⟨by rw [sizeLine_eq];lia, .inr trivial,by rw [sizeLine_eq,List.length_take,gk,List.length_singleton];lia, ?_⟩
   refine ⟨by rw [sizeLine_eq];lia, ?_⟩
   refine pO O ⟨.inr trivial,by rw [sizeLine_eq,List.length_append,List.length_take,List.length_drop,gk,List.length_singleton];lia, ?_⟩
   rw [pP O]
   walk_at "st"
   refine ⟨⟨_,D8⟩,jF D8 ?_⟩
   walk_at "wp"
   rw [List.length_map]
   refine S Di.box (by lia) (by lia) fun w Dy w0 w1 Db => ?_
   have Dw:=Db.keep pf _ G D8
   have Db:=Di.trans Db
   refine ⟨_,_,_,_,rfl,rfl,Dw,w0,by rw [List.length_map];lia,by rw [List.length_map,sizeLine_eq];lia, ?_⟩
   refine hF _ _ ⟨us.take w.toNat++cm p m c::us.drop w.toNat,_,_,_,_,_,_,_,_,_,_,rfl,Db.upd U G, ?_, ?_, ?_, ?_⟩
   ·rw [ad,List.map_append,List.map_cons,List.map_take,List.map_drop]
   ·rw [List.length_append,List.length_cons,List.length_take,List.length_drop,List.length_append,List.length_singleton];lia
   ·intro y hy
    rcases List.mem_append.mp hy with h | h
    ·exact Dj y (List.mem_of_mem_take h)
    ·rcases List.mem_cons.mp h with rfl | h
     ·exact Du
     ·exact Dj y (List.mem_of_mem_drop h)
   ·intro k i j
    rw [um,Dq]
  ·rintro ρ M4 ⟨qs,o5,o6,o7,o8,o9,Dc,Dd,De,Df,Dg,rfl,x4,e4,Y,L,hT⟩
   dsimp only
   rw [List.length_range] at Y L
   walk_at "st"
   refine ⟨_,_,rfl,rfl,by rw [sizeLine_eq];lia, .inr trivial,by rw [sizeLine_eq];simp, ?_⟩
   refine q qs pf M4 (fun p hp=>(L p hp).mono (by lia)) (by lia) (fun z => ?_) hT x4 U G e4
   subst z
   cases ps with
   | nil=>exact Dl rfl
   | cons _ _=>rw [List.length_nil,List.length_cons] at Y;lia
end
section
open PySem PySem.Spec PyProof.Rows L2.Srt
variable {T:List FD}
structure Bd (p:Pr):Prop where
 l0:p.1.length<=100
 l1:p.2.1.length<=100
 l2:p.2.2.length<=100
 e0:Within 100 p.1
 e1:Within 100 p.2.1
 e2:Within 100 p.2.2
theorem Dr.bd {B:Int} (j:B<=100) {L0 L1 L2:Nat} (h0:L0<=100) (h1:L1<=100) (h2:L2<=100) {p:Pr} (h:Dr B L0 L1 L2 p):Bd p:=by
 have w:∀ {l:List Int},Within B l->Within 100 l:=fun h x hx=>by have:=h x hx;lia
 exact ⟨by rw [h.l0];exact h0,by rw [h.l1];exact h1,by rw [h.l2];exact h2,w h.e0,w h.e1,w h.e2⟩
theorem zK {a b:List Int} {x:Int}:kr (a++[x]) b=kr a b++b.map (x * ·):=by simp [kr]
theorem zL {Φ:Phi} {a b:List Int} (ha:Within 100 a) (la:a.length<=100) (lb:b.length<=100) {M:Mem} {N:NC} (q:∀ ρ,N ρ M ((kr a b).map .int)) {o0 j:Option D} :
 bQ (bm 0) (cC (jy (bS 2)) (bm 1) (ce (wOp gI (bS 0) (bS 1)))) (fun M=>True) N (a.map .int) [o0,j,some (.tup (b.map .int))] M []:=by
 refine ao (f:=D.int) (ys:=a) (I:=fun l ρ M' acc=>(∃ o0 j, ρ = [o0,j,some (.tup (b.map .int))])/\M'=M/\acc=(kr l b).map .int) rfl ⟨⟨_,_,rfl⟩,rfl,rfl⟩ (fun _ _ _ _ _=>trivial) ?_ ?_
 ·rintro l x r ρ M1 acc e ⟨⟨o0,j,rfl⟩,rfl,rfl⟩
  refine ⟨_,rfl,fun N' z => ?_⟩
  have F:=ak e
  have hx:=ha x (by rw [e];simp)
  walk_at "wp"
  refine ao (f:=D.int) (ys:=b) (I:=fun l' ρ M' acc=>(∃ j, ρ = [some (.int x),j,some (.tup (b.map .int))])/\M'=M1/\acc=(kr l b++l'.map (x * ·)).map .int) rfl ⟨⟨_,rfl⟩,rfl,by simp⟩ (fun _ _ _ _ _=>by first | rfl | trivial) ?_ ?_
  ·rintro l' y r' ρ M2 acc e' ⟨⟨j,rfl⟩,rfl,rfl⟩
   refine ⟨_,rfl,fun N'' n => ?_⟩
   have B:=ak e'
   walk_at "wp"
   refine ⟨aL (by lia), ?_,n _ _ _ ⟨⟨_,rfl⟩,rfl,by simp⟩⟩
   rw [List.length_map,List.length_append,List.length_map,j9,sizeLine_eq]
   have:l.length*b.length<=100*100:=Nat.mul_le_mul (by lia) lb
   lia
  ·rintro ρ M2 acc ⟨⟨j,rfl⟩,rfl,rfl⟩
   exact z _ _ _ ⟨⟨_,_,rfl⟩,rfl,by rw [zK]⟩
 ·rintro ρ M1 acc ⟨⟨o0,j,rfl⟩,rfl,rfl⟩
  exact q _
noncomputable def rj (s:Stmt):FD:=⟨"product_within",s,["outer", "inner"],2,
 (.cons (.ret (.blt .tuple (.cons (.comp [none,none] ["block", "part"] (.last (.zip (.var 0) (.var 1)) (.tup (.cons (.name 0) (.cons (.name 1) .nil))) .nil (.blt .tuple (.cons (.comp [none,none,(some 1)] ["x", "y", "part"] (.more (.seq (.var 0)) (.name 0) .nil (.last (.seq (.var 2)) (.name 1) .nil (.bin .mul (.var 0) (.var 1))))) .nil)))) .nil)))
 .nil)⟩
theorem rl {f:Nat} {s:Stmt} (hf:T[f]? = some (rj s)) {n:Nat} (hn : 1<=n) {p u:Pr} (hp:Bd p) (z:Bd u) {M:Mem} {Q:QD} (q:∀ M',Ge M M'->Q (prD (krP p u)) M'):phi T n f [prD p,prD u] M Q:=by
 refine aq (by lia) hf rfl (ρ := [some _,some _]) rfl ?_
 unfold rj prD
 walk_at "st"
 have hy:∀ ab∈[(p.1,u.1),(p.2.1,u.2.1),(p.2.2,u.2.2)],Within 100 ab.1/\ab.1.length<=100/\ab.2.length<=100:=by
  intro ab j
  simp only [List.mem_cons,List.not_mem_nil,or_false] at j
  rcases j with rfl | rfl | rfl
  ·exact ⟨hp.e0,hp.l0,z.l0⟩
  ·exact ⟨hp.e1,hp.l1,z.l1⟩
  ·exact ⟨hp.e2,hp.l2,z.l2⟩
 refine ao (f:=fun ab:List Int×List Int=>D.tup [.tup (ab.1.map .int), .tup (ab.2.map .int)]) (ys := [(p.1,u.1),(p.2.1,u.2.1),(p.2.2,u.2.2)]) (I:=fun l ρ M' acc=>(∃ o0 B, ρ = [o0,B])/\Ge M M'/\acc=l.map fun ab=>D.tup ((kr ab.1 ab.2).map .int)) rfl ⟨⟨_,_,rfl⟩,Ge.refl,rfl⟩ (fun _ _ _ _ _=>by first | rfl | trivial) ?_ ?_
 ·rintro l ab r ρ M1 acc e ⟨⟨o0,B,rfl⟩,g,rfl⟩
  refine ⟨_,rfl,fun N' F => ?_⟩
  have G:=ak e
  obtain ⟨h1,h2,L⟩:=hy ab (by rw [e];simp)
  walk_at "wp"
  refine zL (Φ := phi T n) h1 h2 L fun ρ pq hpq=>⟨_,_,rfl,ae ad, ?_⟩
  have O:l.length < 3:=G
  refine ⟨by rw [List.length_map,sizeLine_eq];lia,F _ _ _ ⟨⟨_,_,rfl⟩,g.trans (Ge.new hpq),by simp⟩⟩
 ·rintro ρ M1 acc ⟨⟨o0,B,rfl⟩,g,rfl⟩ pp J
  exact ⟨_,_,rfl,ae ad,q _ (g.trans (Ge.new J))⟩
theorem uw {ps us:List Pr} {p:Pr}:cz (ps++[p]) us=cz ps us++us.map (krP p):=by simp [cz]
theorem hW {us:List Pr}:∀ {ps:List Pr},(cz ps us).length=ps.length*us.length
 | [] => by simp [cz]
 | p::ps=>by rw [show cz (p::ps) us=us.map (krP p)++cz ps us by simp [cz],List.length_append,hW,List.length_map,List.length_cons,Nat.succ_mul];lia
noncomputable def hZ (s:Stmt) (fp:Nat):FD:=⟨"within",s,["outer", "inner", "products"],2,
 (.cons (.asg (.name 2) (.comp [none,none,(some 1)] ["block", "product", "inner"] (.more (.seq (.ix (.var 0) (.int 3))) (.name 0) .nil (.last (.seq (.ix (.var 2) (.int 3))) (.name 1) .nil (.call fp (.cons (.var 0) (.cons (.var 1) .nil)))))))
 (.cons (.ret (.tup (.cons (.bin .mul (.ix (.var 0) (.int 0)) (.ix (.var 1) (.int 0))) (.cons (.bin .mul (.ix (.var 0) (.int 1)) (.ix (.var 1) (.int 1))) (.cons (.bin .mul (.ix (.var 0) (.int 2)) (.ix (.var 1) (.int 2))) (.cons (.var 2) .nil))))))
 .nil))⟩
theorem uA {f fp:Nat} {s sp:Stmt} (hf:T[f]? = some (hZ s fp)) (J:T[fp]? = some (rj sp)) {n:Nat} (hn : 2<=n) {L O R B F G:Nat} (hA:L<=1000/\O<=1000/\R<=1000) {ps us:List Pr} (ha:∀ p∈ps,Bd p) (hb:∀ p∈us,Bd p) (Z:ps.length<=1000) (S:us.length<=1000) {po pi:Addr} {M:Mem} {Q:QD} (ho:M po=some (.lst (ps.map prD))) (hi:M pi=some (.lst (us.map prD)))
 (q:∀ p M',Ge M M'->M p=none->M' p=some (.lst ((cz ps us).map prD))->Q (.tup [.int (L*B:Nat), .int (O*F:Nat), .int (R*G:Nat), .ref p]) M') :
 phi T n f [.tup [.int L, .int O, .int R, .ref po], .tup [.int B, .int F, .int G, .ref pi]] M Q:=by
 refine aq (by lia) hf rfl (ρ := [some _,some _,none]) rfl ?_
 unfold hZ
 walk_at "st"
 refine ⟨_,rfl,_,ae ho, ?_⟩
 refine ao (f:=prD) (ys:=ps) (I:=fun l ρ M' acc=>(∃ o0 j, ρ = [o0,j,some (.tup [.int B, .int F, .int G, .ref pi])])/\Ge M M'/\acc=(cz l us).map prD) rfl ⟨⟨_,_,rfl⟩,Ge.refl,rfl⟩ (fun _ _ _ _ h=>ae (h.2.1 _ _ ho)) ?_ ?_
 ·rintro l x r ρ M1 acc e ⟨⟨o0,j,rfl⟩,g,rfl⟩
  refine ⟨_,rfl,fun N' U => ?_⟩
  have D7:=ak e
  have hx:=ha x (by rw [e];simp)
  walk_at "wp"
  refine ⟨_,rfl,_,ae (g _ _ hi), ?_⟩
  refine ao (f:=prD) (ys:=us) (I:=fun l' ρ M' acc=>(∃ j, ρ = [some (prD x),j,some (.tup [.int B, .int F, .int G, .ref pi])])/\Ge M M'/\acc=(cz l us++l'.map (krP x)).map prD) rfl ⟨⟨_,rfl⟩,g,by simp⟩ (fun _ _ _ _ h=>ae (h.2.1 _ _ hi)) ?_ ?_
  ·rintro l' y r' ρ M2 acc e' ⟨⟨j,rfl⟩,g2,rfl⟩
   refine ⟨_,rfl,fun N'' z => ?_⟩
   have Y:=ak e'
   have hy:=hb y (by rw [e'];simp)
   walk_at "wp"
   refine rl J (by lia) hx hy fun M3 g3=>⟨?_,z _ _ _ ⟨⟨_,rfl⟩,g2.trans g3,by simp⟩⟩
   rw [List.length_map,List.length_append,List.length_map,hW,sizeLine_eq]
   have:l.length*us.length<=1000*1000:=Nat.mul_le_mul (by lia) S
   lia
  ·rintro ρ M2 acc ⟨⟨j,rfl⟩,g2,rfl⟩
   exact U _ _ _ ⟨⟨_,_,rfl⟩,g2,by rw [uw]⟩
 ·rintro ρ M1 acc ⟨⟨o0,j,rfl⟩,g,rfl⟩ p hp
  walk_at "st"
  refine ⟨_,rfl,_,rfl,aL (by lia), ?_⟩
  refine ⟨_,rfl,_,rfl,aL (by lia),_,rfl,_,rfl,aL (by lia),by rw [sizeLine_eq];lia, ?_⟩
  rw [<- Int.natCast_mul, <- Int.natCast_mul, <- Int.natCast_mul]
  refine q p _ (g.trans (Ge.new hp)) ?_ ad
  cases hz:M p with
  | none=>rfl
  | some o=>rw [g _ _ hz] at hp;cases hp
end
section
open PySem PySem.Spec PyProof.Rows L2.Srt
variable {T:List FD}
noncomputable def dR (s:Stmt):FD:=⟨"_law_lengths_of",s,["_law_sizes_here"],1,
 (.cons (.ret (.tup (.cons (.bin .mul (.ix (.var 0) (.int 0)) (.ix (.var 0) (.int 1))) (.cons (.bin .mul (.ix (.var 0) (.int 1)) (.ix (.var 0) (.int 2))) (.cons (.bin .mul (.ix (.var 0) (.int 0)) (.ix (.var 0) (.int 2))) .nil)))))
 .nil)⟩
theorem ja {f:Nat} {s:Stmt} (hf:T[f]? = some (dR s)) {n:Nat} (hn : 1<=n) {x y z:Nat} (hx:x<=1000) (hy:y<=1000) {M:Mem} {Q:QD} (q:Q (.tup [.int (x*y:Nat), .int (y*z:Nat), .int (x*z:Nat)]) M):phi T n f [.tup [.int x, .int y, .int z]] M Q:=by
 refine aq (by lia) hf rfl (ρ := [some _]) rfl ?_
 unfold dR
 walk_at "st"
 refine ⟨_,rfl,_,rfl,aL (by lia),_,rfl,_,rfl,aL (by lia),_,rfl,_,rfl,aL (by lia),by rw [sizeLine_eq];lia, ?_⟩
 rw [Int.natCast_mul,Int.natCast_mul,Int.natCast_mul] at q
 exact q
noncomputable def gm (s:Stmt):FD:=⟨"_law_seven",s,[],0,
 (.cons (.ret (.lst (.cons (.tup (.cons (.tup (.cons (.int 1) (.cons (.int 0) (.cons (.int 0) (.cons (.int 1) .nil))))) (.cons (.tup (.cons (.int 1) (.cons (.int 0) (.cons (.int 0) (.cons (.int 1) .nil))))) (.cons (.tup (.cons (.int 1) (.cons (.int 0) (.cons (.int 0) (.cons (.int 1) .nil))))) .nil)))) (.cons (.tup (.cons (.tup (.cons (.int 0) (.cons (.int 0) (.cons (.int 1) (.cons (.int 1) .nil))))) (.cons (.tup (.cons (.int 1) (.cons (.int 0) (.cons (.int 0) (.cons (.int 0) .nil))))) (.cons (.tup (.cons (.int 0) (.cons (.int 0) (.cons (.int 1) (.cons (.neg (.int 1)) .nil))))) .nil)))) (.cons (.tup (.cons (.tup (.cons (.int 1) (.cons (.int 0) (.cons (.int 0) (.cons (.int 0) .nil))))) (.cons (.tup (.cons (.int 0) (.cons (.int 1) (.cons (.int 0) (.cons (.neg (.int 1)) .nil))))) (.cons (.tup (.cons (.int 0) (.cons (.int 1) (.cons (.int 0) (.cons (.int 1) .nil))))) .nil)))) (.cons (.tup (.cons (.tup (.cons (.int 0) (.cons (.int 0) (.cons (.int 0) (.cons (.int 1) .nil))))) (.cons (.tup (.cons (.neg (.int 1)) (.cons (.int 0) (.cons (.int 1) (.cons (.int 0) .nil))))) (.cons (.tup (.cons (.int 1) (.cons (.int 0) (.cons (.int 1) (.cons (.int 0) .nil))))) .nil)))) (.cons (.tup (.cons (.tup (.cons (.int 1) (.cons (.int 1) (.cons (.int 0) (.cons (.int 0) .nil))))) (.cons (.tup (.cons (.int 0) (.cons (.int 0) (.cons (.int 0) (.cons (.int 1) .nil))))) (.cons (.tup (.cons (.neg (.int 1)) (.cons (.int 1) (.cons (.int 0) (.cons (.int 0) .nil))))) .nil)))) (.cons (.tup (.cons (.tup (.cons (.neg (.int 1)) (.cons (.int 0) (.cons (.int 1) (.cons (.int 0) .nil))))) (.cons (.tup (.cons (.int 1) (.cons (.int 1) (.cons (.int 0) (.cons (.int 0) .nil))))) (.cons (.tup (.cons (.int 0) (.cons (.int 0) (.cons (.int 0) (.cons (.int 1) .nil))))) .nil)))) (.cons (.tup (.cons (.tup (.cons (.int 0) (.cons (.int 1) (.cons (.int 0) (.cons (.neg (.int 1)) .nil))))) (.cons (.tup (.cons (.int 0) (.cons (.int 0) (.cons (.int 1) (.cons (.int 1) .nil))))) (.cons (.tup (.cons (.int 1) (.cons (.int 0) (.cons (.int 0) (.cons (.int 0) .nil))))) .nil)))) .nil)))))))))
 .nil)⟩
theorem uB {f:Nat} {s:Stmt} (hf:T[f]? = some (gm s)) {n:Nat} (hn : 1<=n) {M:Mem} {Q:QD} (q:∀ p,M p=none->Q (.ref p) (ag M p (.lst (seven.map prD)))):phi T n f [] M Q:=by
 refine aq (by lia) hf rfl (ρ := []) rfl ?_
 unfold gm
 have j : 0+1+1+1+1<=sizeLine:=by rw [sizeLine_eq];lia
 have z : 0+1+1+1<=sizeLine:=by rw [sizeLine_eq];lia
 have B : 0+1+1+1+1+1+1+1<=sizeLine:=by rw [sizeLine_eq];lia
 walk_at "st"
 repeat refine ⟨by assumption, ?_⟩
 exact q
noncomputable def pQ (T:List FD) (k f:Nat):Prop := ∀ {n m p:Nat} {M:Mem} {Q:QD},n<=50->m<=50->p<=50->(∀ (L:List Tm) d M',L.Perm (bh n m p)->Ge M M'->M d=none->M' d=some (.dct true (L.map kcD))->Q (.ref d) M')->phi T k f [.tup [.int n, .int m, .int p]] M Q
noncomputable def kE (T:List FD) (n f:Nat):Prop := ∀ {b:Addr} {L0 L1 L2 most:Nat} {B:Int},(1<=B/\B<=100)->L0<=100->L1<=100->L2<=100->most<=20 -> ∀ {ps:List Pr},(∀ p∈ps,Dr B L0 L1 L2 p)->ps≠[]->ps.length<=10000 -> ∀ {y0 y1 y2:D} {pp:Addr} {M:Mem} {Q:QD},Box b M->pp≠b->M pp=some (.lst (ps.map prD)) ->
 (∀ (qs:List Pr) pf M',(∀ p∈qs,Dr (B+2*most) L0 L1 L2 p)->qs.length<=ps.length+most->qs≠[]->(∀ k i j,Tn qs k i j=Tn ps k i j)->Bx b M M'->M pf=none->pf≠b->M' pf=some (.lst (qs.map prD))->Q (.tup [y0,y1,y2, .ref pf]) M') ->
 phi T n f [.ref b, .tup [y0,y1,y2], .ref pp, .int most] M Q
noncomputable def kF (T:List FD) (cap n f:Nat):Prop := ∀ {L0 L1 L2:Nat},L0<=1000->L1<=1000->L2<=1000 -> ∀ {L:List Tm},(L.map (·.1)).Nodup->L.length<=1000000->L.length<=cap -> ∀ {d:Addr} {M:Mem} {Q:QD},M d=some (.dct true (L.map kcD)) ->
 (∀ (rs:List Tm) p M',rs.Perm L->Ge M M'->M p=none->M' p=some (.lst ((rs.map (plP L0 L1 L2)).map prD))->Q (.ref p) M')->phi T n f [.tup [.int L0, .int L1, .int L2], .ref d] M Q
noncomputable def i3 (s:Stmt) (ft fd fv fl fp fs:Nat):FD:=⟨"_law_tables",s,["_law_box_here", "_law_sizes_here", "_law_most", "_law_lengths"],3,
 (.cons (.ite (.and (.cons (.cmp .eq (.var 1) (.tup (.cons (.int 2) (.cons (.int 2) (.cons (.int 2) .nil))))) (.cons (.cmp .eq (.call ft (.cons (.var 0) (.cons (.int 2) .nil))) (.int 0)) .nil))) (.cons (.ret (.call fd (.cons (.var 0) (.cons (.tup (.cons (.int 4) (.cons (.int 4) (.cons (.int 4) .nil)))) (.cons (.call fv .nil) (.cons (.var 2) .nil))))))
 .nil) .nil)
 (.cons (.asg (.name 3) (.call fl (.cons (.var 1) .nil)))
 (.cons (.ret (.call fd (.cons (.var 0) (.cons (.var 3) (.cons (.call fp (.cons (.var 3) (.cons (.call fs (.cons (.var 1) .nil)) .nil))) (.cons (.var 2) .nil))))))
 .nil)))⟩
theorem wY:∀ p∈seven,Dr 1 4 4 4 p:=by
 intro p hp
 have h:∀ p∈seven,(p.1.length=4/\p.2.1.length=4/\p.2.2.length=4)/\(∀ x∈p.1, -1<=x/\x<=1)/\(∀ x∈p.2.1, -1<=x/\x<=1)/\(∀ x∈p.2.2, -1<=x/\x<=1):=by decide
 obtain ⟨⟨a,b,c⟩,d,e,g⟩:=h p hp
 exact ⟨a,b,c,d,e,g⟩
theorem nL {L:Nat} {k:Int}:Within 1 (one L k):=fun x hx=>by
 unfold one at hx
 obtain ⟨h,_,rfl⟩:=List.mem_map.mp hx
 split <;> lia
theorem fg {n m p:Nat}:(bh n m p).length=n*(m*p):=by unfold bh;rw [zy,List.length_range]
theorem pR {n m p:Nat} {t:Tm} (h:t∈bh n m p):(0<=t.1.1/\t.1.1 < (n*p:Nat))/\(0<=t.1.2.1/\t.1.2.1 < (n*m:Nat))/\(0<=t.1.2.2/\t.1.2.2 < (m*p:Nat)):=by
 obtain ⟨a,b,c,ha,hb,hc,rfl⟩:=eF h
 have h1:=aR ha hc
 have h2:=aR ha hb
 have j:=aR hb hc
 unfold bP
 dsimp only
 lia
theorem Bu {L0 L1 L2:Nat} {t:Tm} (h:t.2=1):Dr 1 L0 L1 L2 (plP L0 L1 L2 t):=by
 refine ⟨gd,gd,by unfold plP;rw [List.length_map];exact gd,nL,nL,fun x hx => ?_⟩
 unfold plP at hx
 dsimp only at hx
 rw [h] at hx
 obtain ⟨y,hy,rfl⟩:=List.mem_map.mp hx
 have:=nL y hy
 lia
theorem kG {cap f ft fd fv fl fp fs:Nat} {s sv sl:Stmt} (hf:T[f]? = some (i3 s ft fd fv fl fp fs)) {n:Nat} (Z:j4 T (n - 1) ft) (U:kE T (n - 1) fd) (D7:T[fv]? = some (gm sv)) (D8:T[fl]? = some (dR sl)) (D9:kF T cap (n - 1) fp) (Da:pQ T (n - 1) fs) (hn : 2<=n) {b:Addr} {x y z most:Nat} (hx : 1<=x/\x<=50) (hy : 1<=y/\y<=50) (hz : 1<=z/\z<=50) (h1:x*y<=100) (h2:y*z<=100) (h3:x*z<=100) (h4:x*(y*z)<=10000) (h5:x*(y*z)<=cap) (hm:most<=20) {M:Mem} {Q:QD} (hb:Box b M)
 (q:∀ (qs:List Pr) pf M',(∀ p∈qs,Dr (1+2*most) (x*y) (y*z) (x*z) p)->qs.length<=x*(y*z)+most->(∀ k i j,Tn qs k i j=cf (bh x y z) (k,i,j))->Bx b M M'->M pf=none->pf≠b->M' pf=some (.lst (qs.map prD))->Q (.tup [.int (x*y:Nat), .int (y*z:Nat), .int (x*z:Nat), .ref pf]) M') :
 phi T n f [.ref b, .tup [.int x, .int y, .int z], .int most] M Q:=by
 have bne:∀ {M':Mem} {p:Addr},Box b M'->M' p=none->p≠b:=fun Db hp w=>by obtain ⟨_,_,_,e⟩:=Db;rw [<- w,hp] at e;cases e
 refine aq (by lia) hf rfl (ρ := [some _,some _,some _,none]) rfl ?_
 unfold i3
 refine cG (fun ρ M' => ρ = [some (.ref b),some (.tup [.int x, .int y, .int z]),some (.int most),none]/\Bx b M M') (fun R hR => ?_) ?_
 ·walk_at "wp"
  refine ⟨by rw [sizeLine_eq];lia, .tuple [.int x, .int y, .int z], .tuple [.int 2, .int 2, .int 2],rfl,rfl, ?_⟩
  refine ⟨_,rfl, ?_⟩
  by_cases h:x=2/\y=2/\z=2
  ·obtain ⟨rfl,rfl,rfl⟩:=h
   rw [if_pos (by rfl)]
   refine Z hb (by decide) (by decide) fun v M1 _ _ S => ?_
   walk_at "wp"
   by_cases hv:v=0
   ·rw [if_pos (by simp [hv])]
    walk_at "st"
    refine ⟨by rw [sizeLine_eq];lia, ?_⟩
    refine uB D7 (by lia) fun p hp => ?_
    have g2:=Ge.new (o := .lst (seven.map prD)) hp
    have e2:=ad (M:=M1) (a:=p) (o := .lst (seven.map prD))
    generalize ag M1 p (.lst (seven.map prD))=M2 at g2 e2 ⊢
    have x2:=S.ge g2
    refine U (B := 1) (by lia) (by lia) (by lia) (by lia) hm wY (by simp [seven]) (by simp [seven]) x2.box (bne S.box hp) e2 fun qs pf M3 hq I Dc J Y O F e3 => ?_
    refine q qs pf M3 hq (by simp [seven] at I;lia) (fun k i j => ?_) (x2.trans Y) (x2.none O F) F e3
    rw [J,wU]
   ·rw [if_neg (by simp [hv])]
    exact hR _ _ ⟨rfl,S⟩
  ·rw [if_neg]
   ·exact hR _ _ ⟨rfl,Bx.refl hb⟩
   ·intro w
    simp [PyData.eqv,PyData.eqvAll] at w
    exact h (by lia)
 ·rintro ρ M1 ⟨rfl,S⟩
  walk_at "st"
  refine ja D8 (by lia) (by lia) (by lia) ?_
  walk_at "st"
  refine Da (by lia) (by lia) (by lia) fun L d M2 hL g2 hd e2 => ?_
  have Dd:(L.map (·.1)).Nodup:=(hL.map _).nodup_iff.mpr cq
  have hlen:=hL.length_eq
  rw [fg] at hlen
  refine D9 (by lia) (by lia) (by lia) Dd (by lia) (by lia) e2 fun rs p M3 De g3 hp e3 => ?_
  have Y:=S.ge (g2.trans g3)
  have Df:=bne (S.ge g2).box hp
  have G:=De.trans hL
  refine U (B := 1) (by lia) h1 h2 h3 hm (ps:=rs.map (plP (x*y) (y*z) (x*z))) ?_ ?_ ?_ Y.box Df e3 fun qs pf M4 hq I Dc J x4 O F e4 => ?_
  ·intro u hu
   obtain ⟨t,ht,rfl⟩:=List.mem_map.mp hu
   obtain ⟨a,b',c,_,_,_,rfl⟩:=eF (G.mem_iff.mp ht)
   exact Bu rfl
  ·intro w
   have:=congrArg List.length w
   rw [List.length_map,G.length_eq,fg,List.length_nil] at this
   have : 1*(1*1)<=x*(y*z):=Nat.mul_le_mul hx.1 (Nat.mul_le_mul hy.1 hz.1)
   lia
  ·rw [List.length_map,G.length_eq,fg];lia
  ·refine q qs pf M4 hq (by rw [List.length_map,G.length_eq,fg] at I;exact I) (fun k i j => ?_) (Y.trans x4) (Y.none O F) F e4
   rw [J,nJ fun t ht=>pR (G.mem_iff.mp ht)]
   exact pv G
end
section
open PySem PySem.Spec PyProof.Rows L2.Srt
theorem aN {a b m:Nat} (hb:b < m):(a*m+b) % m=b:=by
 rw [Nat.add_comm,Nat.add_mul_mod_self_right,Nat.mod_eq_of_lt hb]
theorem fM {F:Nat->Int} {n:Nat} {i:Nat} (h:i < n):gz ((List.range n).map F) (i:Nat)=F i:=by
 unfold gz
 rw [if_neg (by lia),Int.toNat_natCast,List.getD_eq_getElem?_getD,List.getElem?_map,List.getElem?_range h];rfl
theorem Bv {a b:List Int} (j:a.length=b.length) (h:∀ i:Nat,i < a.length->gz a (i:Nat)=gz b (i:Nat)):a=b:=by
 refine List.ext_getElem j fun i h1 h2 => ?_
 have:=h i h1
 unfold gz at this
 rw [if_neg (by lia),if_neg (by lia),Int.toNat_natCast,List.getD_eq_getElem?_getD,List.getD_eq_getElem?_getD,List.getElem?_eq_getElem h1,List.getElem?_eq_getElem h2] at this
 exact this
theorem rn {n m i:Nat} (h:i < n*m):∃ a b,a < n/\b < m/\i=a*m+b:=by
 have hm : 0 < m:=by
  rcases Nat.eq_zero_or_pos m with z | z
  ·rw [z] at h;simp at h
  ·exact z
 exact ⟨i / m,i % m,Nat.div_lt_of_lt_mul (by rw [Nat.mul_comm];exact h),Nat.mod_lt _ hm,by rw [Nat.mul_comm];exact (Nat.div_add_mod i m).symm⟩
theorem nM {n m p x x' y y' z z':Nat} (hx:x < n) (F:x' < n) (hy:y < m) (G:y' < m) (hz:z < p) (j:z' < p):cf (bh n m p) (((x*p+z:Nat):Int),((x'*m+y:Nat):Int),((y'*p+z':Nat):Int))=if x=x'/\y=y'/\z=z' then 1 else 0:=by
 by_cases h:x=x'/\y=y'/\z=z'
 ·obtain ⟨rfl,rfl,rfl⟩:=h
  rw [if_pos ⟨rfl,rfl,rfl⟩]
  have hm:bP m p x y z∈bh n m p:=by
   unfold bh dU
   exact List.mem_flatMap.mpr ⟨x,List.mem_range.mpr hx,List.mem_flatMap.mpr ⟨y,List.mem_range.mpr hy,List.mem_map_of_mem (List.mem_range.mpr hz)⟩⟩
  exact eE cq hm
 ·rw [if_neg h]
  refine eD fun t I e=>h ?_
  obtain ⟨a,b,c,ha,hb,hc,rfl⟩:=eF I
  unfold bP at e
  have e1:=congrArg (fun q:K3=>q.1) e
  have e2:=congrArg (fun q:K3=>q.2.1) e
  have B:=congrArg (fun q:K3=>q.2.2) e
  dsimp only at e1 e2 B
  have e1:=Int.ofNat.inj e1
  have e2:=Int.ofNat.inj e2
  have B:=Int.ofNat.inj B
  have a1:a=x:=by rw [<- aH (a:=a) hc,e1,aH hz]
  have a2:c=z:=by rw [<- aN (a:=a) hc,e1,aN hz]
  have J:a=x':=by rw [<- aH (a:=a) hb,e2,aH hy]
  have L:b=y:=by rw [<- aN (a:=a) hb,e2,aN hy]
  have O:b=y':=by rw [<- aH (a:=b) hc,B,aH j]
  have R:c=z':=by rw [<- aN (a:=b) hc,B,aN j]
  lia
theorem rp {n m p:Nat} {k i j:Int} (h : ¬ ((0<=k/\k < (n*p:Nat))/\(0<=i/\i < (n*m:Nat))/\(0<=j/\j < (m*p:Nat)))):cf (bh n m p) (k,i,j)=0:=eD fun t q e=>h (by
 have:=pR q
 rw [e] at this
 exact this)
end
section
open PySem PySem.Spec PyProof.Rows L2.Srt
variable {T:List FD}
noncomputable def bkv (a b:List Int) (C h w r c:Nat):Int:=gz a ((r / h*C+c / w:Nat):Int)*gz b ((r % h*w+c % w:Nat):Int)
noncomputable def bl (a b:List Int) (R C h w:Nat):List Int:=(List.range (R*h)).flatMap fun r=>(List.range (C*w)).map fun c=>bkv a b C h w r c
theorem nN {a b:List Int} {R C h w:Nat}:bl a b R C h w=(List.range (R*h*(C*w))).map fun t=>bkv a b C h w (t / (C*w)) (t % (C*w)):=by
 rw [fJ]
 unfold bl
 rw [List.flatMap_def,List.flatMap_def]
 congr 1
 refine List.map_congr_left fun i hi=>List.map_congr_left fun j n => ?_
 rw [aH (List.mem_range.mp n),aN (List.mem_range.mp n)]
theorem nO {a b:List Int} {R C h w:Nat}:(bl a b R C h w).length=R*h*(C*w):=by rw [nN];simp
theorem rq {a b:List Int} {R C h w r c:Nat} (j:r < R*h) (hc:c < C*w):gz (bl a b R C h w) ((r*(C*w)+c:Nat):Int)=bkv a b C h w r c:=by
 rw [nN,fM (aR j hc),aH hc,aN hc]
noncomputable def bp (R C h w:Nat):List Nat:=(List.range R).flatMap fun q=>(List.range C).flatMap fun d=>(List.range h).flatMap fun x=>(List.range w).map fun y=>(q*h+x)*(C*w)+(d*w+y)
noncomputable def bpi (C h w i:Nat):Nat:=(i / (h*w) / C*h+i % (h*w) / w)*(C*w)+(i / (h*w) % C*w+i % (h*w) % w)
theorem wZ {α:Type} {n p:Nat} {g:Nat->List α}:(List.range (n*p)).flatMap g=(List.range n).flatMap fun i=>(List.range p).flatMap fun j=>g (i*p+j):=by
 induction n with
 | zero=>simp
 | succ n ih =>
   rw [Nat.succ_mul,List.range_add,List.flatMap_append,ih,List.range_succ,List.flatMap_append,List.flatMap_map]
   simp
theorem di {α β:Type} {f g : α -> List β} {l:List α} (h:∀ x∈l,f x=g x):l.flatMap f=l.flatMap g:=by
 rw [List.flatMap_def,List.flatMap_def,List.map_congr_left h]
theorem Bw {R C h w:Nat}:bp R C h w=(List.range (R*C*(h*w))).map (bpi C h w):=by
 rw [fJ,wZ]
 unfold bp
 refine di fun q j=>di fun d hd => ?_
 rw [fJ]
 refine di fun x hx=>List.map_congr_left fun y hy => ?_
 have hd:=List.mem_range.mp hd
 have hx:=List.mem_range.mp hx
 have hy:=List.mem_range.mp hy
 unfold bpi
 rw [aH (aR hx hy),aN (aR hx hy),aH hd,aN hd,aH hy,aN hy]
theorem rA {R C h w:Nat}:∀ t∈bp R C h w,t < R*h*(C*w):=by
 intro t j
 unfold bp at j
 simp only [List.mem_flatMap,List.mem_map,List.mem_range] at j
 obtain ⟨q,n,d,hd,x,hx,y,hy,rfl⟩:=j
 exact aR (aR n hx) (aR hd hy)
theorem nP {i0:Nat} {f:Nat->Int} {p:Nat->Prop} [DecidablePred p]:∀ {n:Nat},(∀ i,i < n->(p i↔i=i0))->((List.range n).map fun i=>if p i then f i else 0).sum=if i0 < n then f i0 else 0
 | 0,_=>by simp
 | n+1,h=>by
   rw [List.range_succ,List.map_append,List.sum_append,nP (n:=n) fun i hi=>h i (by lia)]
   have hn:=h n (by lia)
   by_cases e:n=i0
   ·have hp:=hn.mpr e
    subst e
    rw [if_neg (by lia),if_pos (by lia)];simp [hp]
   ·have : ¬ p n:=fun z=>e (hn.mp z)
    by_cases g:i0 < n
    ·rw [if_pos g,if_pos (by lia)];simp [this]
    ·rw [if_neg g,if_neg (by lia)];simp [this]
theorem By {α β:Type} {f:Nat -> α} {g:Nat -> β} {l:List Nat}:(l.map f).zip (l.map g)=l.map fun i=>(f i,g i):=by
 induction l with
 | nil=>rfl
 | cons x l ih=>simp [ih]
theorem Bz {a b:List Int} {n m:Nat} (ha:a.length=n) (hb:b.length=m) (hm : 1<=m):kr a b=(List.range (n*m)).map fun i=>gz a ((i / m:Nat):Int)*gz b ((i % m:Nat):Int):=by
 refine Bv (by rw [j9,ha,hb];simp) fun i hi => ?_
 rw [j9,ha,hb] at hi
 rw [xP hb hm,fM hi,Int.natCast_ediv,Int.natCast_emod]
theorem bo {t n m:Nat} (h:t < n*m):t / m < n:=Nat.div_lt_of_lt_mul (by rw [Nat.mul_comm];exact h)
theorem rB {a b:List Int} {R C h w:Nat} (ha:a.length=R*C) (hb:b.length=h*w) (I : 1<=C) (J : 1<=h) (hw : 1<=w):mv (kr a b) (bp R C h w) (R*h*(C*w))=bl a b R C h w:=by
 have n : 1<=h*w:=Nat.mul_le_mul J hw
 have B : 1<=C*w:=Nat.mul_le_mul I hw
 unfold mv mvl
 rw [Bz ha hb n,Bw,By,nN]
 refine List.map_congr_left fun t F => ?_
 have F:=List.mem_range.mp F
 rw [List.map_map]
 have S:t / (C*w) / h < R:=bo (bo F)
 have G:t % (C*w) / w < C:=bo (Nat.mod_lt _ B)
 have q:t / (C*w) % h < h:=Nat.mod_lt _ J
 have j:t % (C*w) % w < w:=Nat.mod_lt _ hw
 show ((List.range (R*C*(h*w))).map fun i=>if bpi C h w i=t then gz a ((i / (h*w):Nat):Int)*gz b ((i % (h*w):Nat):Int) else 0).sum=_
 rw [nP (i0:=(t / (C*w) / h*C+t % (C*w) / w)*(h*w)+(t / (C*w) % h*w+t % (C*w) % w)) (f:=fun i=>gz a ((i / (h*w):Nat):Int)*gz b ((i % (h*w):Nat):Int)),if_pos (aR (aR S G) (aR q j))]
 ·rw [aH (aR q j),aN (aR q j)];rfl
 ·intro i hi
  have L:i / (h*w) % C < C:=Nat.mod_lt _ I
  have O:i % (h*w) / w < h:=bo (Nat.mod_lt _ n)
  have z:i % (h*w) % w < w:=Nat.mod_lt _ hw
  unfold bpi
  constructor
  ·rintro rfl
   rw [aH (aR L z),aN (aR L z),aH O,aN O,aH z,aN z,Nat.div_add_mod',Nat.div_add_mod',Nat.div_add_mod']
  ·rintro rfl
   rw [aH (aR q j),aN (aR q j),aH G,aN G,aH j,aN j,Nat.div_add_mod',Nat.div_add_mod',Nat.div_add_mod']
noncomputable def blP (n m p a b c:Nat) (u v:Pr):Pr:=(bl u.1 v.1 n m a b,bl u.2.1 v.2.1 m p b c,bl u.2.2 v.2.2 n p a c)
noncomputable def bJ (n m p a b c:Nat) (ps us:List Pr):List Pr:=ps.flatMap fun u=>us.map (blP n m p a b c u)
noncomputable def Ln (n m p:Nat) (u:Pr):Prop:=u.1.length=n*m/\u.2.1.length=m*p/\u.2.2.length=n*p
theorem fh {n m p a b c:Nat} {us:List Pr}:∀ {ps:List Pr},(bJ n m p a b c ps us).length=ps.length*us.length
 | [] => by simp [bJ]
 | u::ps=>by rw [show bJ n m p a b c (u::ps) us=us.map (blP n m p a b c u)++bJ n m p a b c ps us by simp [bJ],List.length_append,fh,List.length_map,List.length_cons,Nat.succ_mul];lia
theorem uC {n m p a b c:Nat} {u v:Pr}:Ln (n*a) (m*b) (p*c) (blP n m p a b c u v):=⟨nO,nO,nO⟩
theorem nQ {n m p a b c:Nat} {ps us:List Pr} {t:Pr} (h:t∈bJ n m p a b c ps us):∃ u∈ps, ∃ v∈us,t=blP n m p a b c u v:=by
 unfold bJ at h
 obtain ⟨u,j,h⟩:=List.mem_flatMap.mp h
 obtain ⟨v,q,rfl⟩:=List.mem_map.mp h
 exact ⟨u,j,v,q,rfl⟩
theorem zM {n m p a b c:Nat} (h1 : 1<=n/\1<=m/\1<=p) (h2 : 1<=a/\1<=b/\1<=c) {ps us:List Pr} (hp:∀ u∈ps,Ln n m p u) (j:∀ u∈us,Ln a b c u) :
 (cz ps us).map (mvP (bp n m a b) (bp m p b c) (bp n p a c) (n*a*(m*b)) (m*b*(p*c)) (n*a*(p*c)))=bJ n m p a b c ps us:=by
 unfold cz bJ
 rw [List.map_flatMap]
 refine di fun u h => ?_
 rw [List.map_map]
 refine List.map_congr_left fun v h' => ?_
 obtain ⟨q,a1,a2⟩:=hp u h
 obtain ⟨z,b1,b2⟩:=j v h'
 show mvP _ _ _ _ _ _ (krP u v)=_
 unfold mvP krP blP
 dsimp only
 rw [rB q z h1.2.1 h2.1 h2.2.1,rB a1 b1 h1.2.2 h2.2.1 h2.2.2,rB a2 b2 h1.2.2 h2.1 h2.2.2]
theorem uD {F:Pr->Pr->Pr} {k i j k1 i1 j1 k2 i2 j2:Int} {us:List Pr} (h:∀ u v,tm (F u v) k i j=tm u k1 i1 j1*tm v k2 i2 j2):∀ {ps:List Pr},Tn (ps.flatMap fun u=>us.map (F u)) k i j=Tn ps k1 i1 j1*Tn us k2 i2 j2
 | [] => by simp [Tn]
 | u::ps=>by
   have e:∀ {us:List Pr},Tn (us.map (F u)) k i j=tm u k1 i1 j1*Tn us k2 i2 j2:=by
    intro us
    induction us with
    | nil=>simp [Tn]
    | cons v us ih =>
      rw [List.map_cons,dz,dz,ih,Int.mul_add]
      congr 1
      exact h u v
   rw [List.flatMap_cons,dQ,e,uD h,dz,Int.add_mul];rfl
theorem div_mod_eq {x y a:Nat}:(x / a=y / a/\x % a=y % a)↔x=y:=by
 constructor
 ·rintro ⟨h1,h2⟩
  rw [<- Nat.div_add_mod' x a,h1,h2,Nat.div_add_mod']
 ·rintro rfl;exact ⟨rfl,rfl⟩
theorem Cu {n m p a b c:Nat} (h1 : 1<=n/\1<=m/\1<=p) (h2 : 1<=a/\1<=b/\1<=c) {ps us:List Pr} (hp:∀ k i j,Tn ps k i j=cf (bh n m p) (k,i,j)) (Z:∀ k i j,Tn us k i j=cf (bh a b c) (k,i,j)) (k i j:Int):Tn (bJ n m p a b c ps us) k i j=cf (bh (n*a) (m*b) (p*c)) (k,i,j):=by
 by_cases q:(0<=k/\k < (n*a*(p*c):Nat))/\(0<=i/\i < (n*a*(m*b):Nat))/\(0<=j/\j < (m*b*(p*c):Nat))
 ·obtain ⟨⟨k0,kl⟩,⟨i0,il⟩,⟨j0,jl⟩⟩:=q
  obtain ⟨k,rfl⟩:=Int.eq_ofNat_of_zero_le k0
  obtain ⟨i,rfl⟩:=Int.eq_ofNat_of_zero_le i0
  obtain ⟨j,rfl⟩:=Int.eq_ofNat_of_zero_le j0
  obtain ⟨L,O,z,B,rfl⟩:=rn (Int.ofNat_lt.mp kl)
  obtain ⟨R,S,F,G,rfl⟩:=rn (Int.ofNat_lt.mp il)
  obtain ⟨U,Y,I,J,rfl⟩:=rn (Int.ofNat_lt.mp jl)
  unfold bJ
  rw [uD (k1:=((L / a*p+O / c:Nat):Int)) (i1:=((R / a*m+S / b:Nat):Int)) (j1:=((U / b*p+Y / c:Nat):Int)) (k2:=((L % a*c+O % c:Nat):Int)) (i2:=((R % a*b+S % b:Nat):Int)) (j2:=((U % b*c+Y % c:Nat):Int)),hp,Z]
  ·rw [nM (bo z) (bo F) (bo G) (bo I) (bo B) (bo J),nM (Nat.mod_lt _ h2.1) (Nat.mod_lt _ h2.1) (Nat.mod_lt _ h2.2.1) (Nat.mod_lt _ h2.2.1) (Nat.mod_lt _ h2.2.2) (Nat.mod_lt _ h2.2.2),nM z F G I B J]
   by_cases e:L=R/\S=U/\O=Y
   ·obtain ⟨rfl,rfl,rfl⟩:=e
    simp
   ·rw [if_neg e]
    by_cases e1:L / a=R / a/\S / b=U / b/\O / c=Y / c
    ·rw [if_neg (c:=L % a=R % a/\S % b=U % b/\O % c=Y % c)]
     ·simp
     ·intro e2
      exact e ⟨div_mod_eq.mp ⟨e1.1,e2.1⟩,div_mod_eq.mp ⟨e1.2.1,e2.2.1⟩,div_mod_eq.mp ⟨e1.2.2,e2.2.2⟩⟩
    ·rw [if_neg e1];simp
  ·intro u v
   unfold tm blP
   dsimp only
   rw [rq F G,rq I J,rq z B]
   unfold bkv
   generalize gz u.1 _=x1
   generalize gz u.2.1 _=x2
   generalize gz u.2.2 _=x3
   generalize gz v.1 _=y1
   generalize gz v.2.1 _=y2
   generalize gz v.2.2 _=y3
   simp only [Int.mul_assoc,Int.mul_comm,Int.mul_left_comm]
 ·rw [rp q]
  apply Classical.byContradiction
  intro hz
  refine q (nH (fun t ht => ?_) hz)
  obtain ⟨u,_,v,_,rfl⟩:=nQ ht
  exact uC
theorem rC {A B:Int} (j : 0<=A) {a b:List Int} (ha:Within A a) (hb:Within B b) (n : 0<=B) {R C h w:Nat}:Within (A*B) (bl a b R C h w):=fun x hx=>by
 have gi:∀ {A:Int} {l:List Int} {i:Nat},0<=A->Within A l -> -A<=gz l (i:Nat)/\gz l (i:Nat)<=A:=fun {A l i} j hl=>by
  unfold gz
  rw [if_neg (by lia),List.getD_eq_getElem?_getD]
  cases e:l[((i:Nat):Int).toNat]? with
  | none=>simp;lia
  | some y=>exact hl y (List.mem_of_getElem? e)
 unfold bl at hx
 obtain ⟨r,_,hx⟩:=List.mem_flatMap.mp hx
 obtain ⟨c,_,rfl⟩:=List.mem_map.mp hx
 unfold bkv
 obtain ⟨a1,a2⟩:=gi (i:=r / h*C+c / w) j ha
 obtain ⟨b1,b2⟩:=gi (i:=r % h*w+c % w) n hb
 generalize gz a _=x at a1 a2 ⊢
 generalize gz b _=y at b1 b2 ⊢
 have:=Int.mul_nonneg (show 0<=A - x by lia) (show 0<=B - y by lia)
 have:=Int.mul_nonneg (show 0<=A+x by lia) (show 0<=B+y by lia)
 have:=Int.mul_nonneg (show 0<=A - x by lia) (show 0<=B+y by lia)
 have:=Int.mul_nonneg (show 0<=A+x by lia) (show 0<=B - y by lia)
 simp only [Int.sub_mul,Int.mul_sub,Int.add_mul,Int.mul_add] at *
 lia
end
section
variable {T:List FD}
noncomputable def eG (y:Str) (s:Stmt) (f:Nat):FD:=⟨"_law_same",s,["_law_found",y],2,
 (.cons (.ite (.tru (.isin2 (.var 1) "list" "tuple")) (.cons (.ite (.or (.cons (.cmp .ne (.isin (.var 1) "list") (.isin (.var 0) "list")) (.cons (.cmp .ne (.isin (.var 1) "tuple") (.isin (.var 0) "tuple")) .nil))) (.cons (.ret (.bl false))
 .nil) .nil)
 (.cons (.ret (.and (.cons (.cmp .eq (.blt .len (.cons (.var 0) .nil)) (.blt .len (.cons (.var 1) .nil))) (.cons (.blt .all (.cons (.comp [none,(some 0),(some 1)] ["_law_k", "_law_found",y] (.last (.rng1 (.blt .len (.cons (.var 1) .nil))) (.name 0) .nil (.call f (.cons (.ix (.var 1) (.var 0)) (.cons (.ix (.var 2) (.var 0)) .nil))))) .nil)) .nil))))
 .nil)) .nil)
 (.cons (.ret (.and (.cons (.isin (.var 0) "int") (.cons (.not (.isin (.var 0) "bool")) (.cons (.cmp .eq (.var 0) (.var 1)) .nil)))))
 .nil))⟩
theorem xQ {M:Mem} {x d:D} {ds:List D} {i:Int} {Q:QD} (h:ar M x=some ds) (e:atI ds i=some d) (q:Q d M):wIx x (.int i) M Q:=by
 cases x with
 | ref a =>
   simp only [ar] at h
   split at h
   ·next e0=>cases h;exact aA e0 e q
   ·cases h
 | tup es=>cases h;exact ⟨i,d,rfl,e,q⟩
 | con es=>cases h;exact ⟨i,d,rfl,e,q⟩
 | _=>cases h
noncomputable def Sm (M:Mem):Nat->D->D->Prop
 | _, .int i, .int j=>i=j
 | n+1, .tup ds, .tup es=>ds.length<=100000/\ds.length=es.length /\ ∀ (k:Nat) d e,ds[k]? = some d->es[k]? = some e->Sm M n d e
 | n+1, .ref a, .ref b => ∃ ds es,M a=some (.lst ds)/\M b=some (.lst es)/\ds.length<=100000/\ds.length=es.length /\ ∀ (k:Nat) d e,ds[k]? = some d->es[k]? = some e->Sm M n d e
 | _,_,_=>False
theorem Sm.ge {M M':Mem} (g:Ge M M'):∀ {n:Nat} {x y:D},Sm M n x y->Sm M' n x y:=by
 intro n
 induction n with
 | zero=>intro x y h;cases x <;> cases y <;> first | exact h.elim | exact h
 | succ n ih =>
   intro x y h
   cases x <;> cases y <;> first
    | exact h.elim
    | (obtain ⟨ds,es,e1,e2,z,l,q⟩:=h;exact ⟨ds,es,g _ _ e1,g _ _ e2,z,l,fun k d e h1 h2=>ih (q k d e h1 h2)⟩)
    | (obtain ⟨z,l,q⟩:=h;exact ⟨z,l,fun k d e h1 h2=>ih (q k d e h1 h2)⟩)
    | exact h
theorem Sm.int {M:Mem} {n:Nat} {i:Int}:Sm M n (.int i) (.int i):=by unfold Sm;cases n <;> rfl
section
variable {f:Nat} {y:Str} {s:Stmt}
theorem nR (hf:T[f]? = some (eG y s f)) {n:Nat} (hn : 1<=n) {x:Int} {M:Mem} {Q:QD} (q:Q (.bl true) M):phi T n f [.int x, .int x] M Q:=by
 refine aq (by lia) hf rfl (ρ := [some _,some _]) rfl ?_
 unfold eG
 walk_at "st"
 refine ⟨"int",rfl,false,rfl, ?_⟩
 rw [if_neg (by decide)]
 walk_at "st"
 refine ⟨"int",rfl, ?_⟩
 rw [if_pos (by decide)]
 refine ⟨"int",rfl, ?_⟩
 rw [if_pos (by decide),beq_self_eq_true]
 exact q
theorem kH {n m:Nat} (ih:∀ {x y:D} {M:Mem} {Q:QD},Sm M n x y->(∀ M',Ge M M'->Q (.bl true) M')->phi T m f [x,y] M Q) {u v:D} {ds es:List D} {M:Mem} {N:NC} (F:ar M u=some ds) (G:ar M v=some es) (z:ds.length<=100000) (l:ds.length=es.length)
 (h:∀ (k:Nat) d e,ds[k]? = some d->es[k]? = some e->Sm M n d e) (q:∀ ρ M',Ge M M'->N ρ M' (es.map fun _ => .bl true)) :
 bQ (bm 0) (ce (wAr (phi T m f) (az (wOp wIx (bS 1) (bS 0)) (az (wOp wIx (bS 2) (bS 0)) bn)))) (fun _=>True) N (cN 0 (es.length:Int).toNat) [none,some u,some v] M []:=by
 refine ao (f:=fun i=>D.int (i:Nat)) (I:=fun l ρ M' acc=>(∃ o0, ρ = [o0,some u,some v])/\Ge M M'/\acc=l.map fun _ => .bl true) aE ⟨⟨_,rfl⟩,Ge.refl,rfl⟩ (fun _ _ _ _ _=>trivial) ?_ ?_
 ·rintro l' i r ρ M1 acc e ⟨⟨o0,rfl⟩,g,rfl⟩
  refine ⟨_,rfl,fun N' j => ?_⟩
  have B:=ak e
  rw [List.length_range] at B
  have hi:i < es.length:=by
   have:i∈List.range (es.length:Int).toNat:=by rw [e];simp
   have:=List.mem_range.mp this
   lia
  walk_at "wp"
  have h1:ds[i]? = some ds[i]:=List.getElem?_eq_getElem (by lia)
  have h2:es[i]? = some es[i]:=List.getElem?_eq_getElem hi
  refine xQ (pj F g) (dw h1) (xQ (pj G g) (dw h2) (ih ((h i _ _ h1 h2).ge g) fun M2 g2 => ?_))
  refine ⟨by rw [List.length_map,sizeLine_eq];lia,j _ _ _ ⟨⟨_,rfl⟩,g.trans g2,by simp⟩⟩
 ·rintro ρ M1 acc ⟨⟨o0,rfl⟩,g,rfl⟩
  have e:(List.range (es.length:Int).toNat).map (fun _=>D.bl true)=es.map fun _ => .bl true:=by
   rw [List.map_const',List.map_const'];simp
  rw [e]
  exact q _ M1 g
theorem nS:∀ es:List D,aJ mC (es.map fun _ => .bl true)=some (es.map fun _=>true)
 | [] => rfl
 | e::es=>by rw [List.map_cons,List.map_cons];simp only [aJ,mC,nS es];rfl
theorem nT {es:List D} {p:Addr} {M:Mem} {Q:QD} (q:Q (.bl true) (ag M p (.lst (es.map fun _ => .bl true)))):qB [.ref p] (ag M p (.lst (es.map fun _ => .bl true))) Q:=by
 refine ⟨_,_,es.map (fun _=>true),rfl,ae ad,nS es, ?_⟩
 rw [show ((es.map fun _=>true).all id)=true by simp]
 exact q
theorem zN (hf:T[f]? = some (eG y s f)):∀ {n m:Nat},n+1<=m -> ∀ {u v:D} {M:Mem} {Q:QD},Sm M n u v->(∀ M',Ge M M'->Q (.bl true) M')->phi T m f [u,v] M Q:=by
 intro n
 induction n with
 | zero =>
   intro m hm u v M Q h q
   cases u <;> cases v <;> first
    | exact h.elim
    | (have e:=h;unfold Sm at e;subst e;exact nR hf (by lia) (q _ Ge.refl))
 | succ n ih =>
   intro m hm u v M Q h q
   cases u <;> cases v <;> first
    | exact h.elim
    | (have e:=h;unfold Sm at e;subst e;exact nR hf (by lia) (q _ Ge.refl))
    | skip
   case tup.tup ds es =>
    obtain ⟨z,l,h⟩:=h
    refine aq (by lia) hf rfl (ρ := [some _,some _]) rfl ?_
    unfold eG
    walk_at "st"
    refine ⟨"tuple",rfl,true,rfl, ?_⟩
    rw [if_pos rfl]
    walk_at "st"
    refine ⟨"tuple",rfl, "tuple",rfl,_,_,rfl,rfl,false,rfl, ?_⟩
    rw [if_neg (by decide)]
    refine ⟨"tuple",rfl, "tuple",rfl,_,_,rfl,rfl,false,rfl, ?_⟩
    rw [if_neg (by decide)]
    walk_at "st"
    rw [if_pos (by simp [l])]
    refine ⟨by lia,by lia, ?_⟩
    exact kH (ih (m:=m - 1) (by lia)) rfl rfl z l h fun ρ M' g p hp=>nT (q _ (g.trans (Ge.new hp)))
   case ref.ref a b =>
    obtain ⟨ds,es,e1,e2,z,l,h⟩:=h
    refine aq (by lia) hf rfl (ρ := [some _,some _]) rfl ?_
    unfold eG
    have t1:tyN M (.ref a)=some "list" := by simp [tyN,e1]
    have j:tyN M (.ref b)=some "list" := by simp [tyN,e2]
    walk_at "st"
    refine ⟨"list",j,true,rfl, ?_⟩
    rw [if_pos rfl]
    walk_at "st"
    refine ⟨"list",j, "list",t1,_,_,rfl,rfl,false,rfl, ?_⟩
    rw [if_neg (by decide)]
    refine ⟨"list",j, "list",t1,_,_,rfl,rfl,false,rfl, ?_⟩
    rw [if_neg (by decide)]
    walk_at "st"
    refine jH (ae e1) (jH (ae e2) ?_)
    walk_at "wp"
    rw [if_pos (by simp [l])]
    refine jH (ae e2) ?_
    refine ⟨_,rfl,by lia,by lia, ?_⟩
    exact kH (ih (m:=m - 1) (by lia)) (ae e1) (ae e2) z l h fun ρ M' g p hp=>nT (q _ (g.trans (Ge.new hp)))
end
end
section
open PySem PySem.Spec PyProof.Rows L2.Srt
theorem fN {M:Mem} {n:Nat} {l:List Int} (j:l.length<=100000):Sm M (n+1) (.tup (l.map .int)) (.tup (l.map .int)):=by
 refine ⟨by rw [List.length_map];exact j,rfl,fun k d e h1 h2 => ?_⟩
 rw [h1] at h2;cases h2
 rw [List.getElem?_map] at h1
 obtain ⟨i,_,rfl⟩:=Option.map_eq_some_iff.mp h1
 exact Sm.int
theorem zO {M:Mem} {p:Pr} (h:p.1.length<=100000/\p.2.1.length<=100000/\p.2.2.length<=100000):Sm M 2 (prD p) (prD p):=by
 refine ⟨by simp,rfl,fun k d e h1 h2 => ?_⟩
 rw [h1] at h2;cases h2
 have hm:=List.mem_of_getElem? h1
 simp only [List.mem_cons,List.not_mem_nil,or_false] at hm
 rcases hm with rfl | rfl | rfl
 ·exact fN h.1
 ·exact fN h.2.1
 ·exact fN h.2.2
theorem zP {M:Mem} {x y z:Int} {a b:Addr} {qs:List Pr} (j:qs.length<=100000) (ha:M a=some (.lst (qs.map prD))) (hb:M b=some (.lst (qs.map prD))) (h:∀ p∈qs,p.1.length<=100000/\p.2.1.length<=100000/\p.2.2.length<=100000) :
 Sm M 4 (.tup [.int x, .int y, .int z, .ref a]) (.tup [.int x, .int y, .int z, .ref b]):=by
 refine ⟨by simp,rfl,fun k d e h1 h2 => ?_⟩
 have:k=0∨k=1∨k=2∨k=3:=by
  have:=(List.getElem?_eq_some_iff.mp h1).1
  simp at this;lia
 rcases this with rfl | rfl | rfl | rfl
 ·cases h1;cases h2;exact Sm.int
 ·cases h1;cases h2;exact Sm.int
 ·cases h1;cases h2;exact Sm.int
 ·cases h1;cases h2
  refine ⟨_,_,ha,hb,by rw [List.length_map];exact j,rfl,fun k d e h1 h2 => ?_⟩
  rw [h1] at h2;cases h2
  rw [List.getElem?_map] at h1
  obtain ⟨p,hp,rfl⟩:=Option.map_eq_some_iff.mp h1
  exact zO (h p (List.mem_of_getElem? hp))
theorem BA:∀ ns:List Int,PyData.eqvAll (ns.map .int) (ns.map .int)=true
 | [] => rfl
 | n::ns=>by simp [PyData.eqvAll,PyData.eqv,BA ns]
theorem BB:∀ ps:List Pr,PyData.eqvAll (ps.map cw) (ps.map cw)=true
 | [] => rfl
 | p::ps=>by simp [PyData.eqvAll,PyData.eqv,BB ps,cw,BA]
theorem nU {a b c:Nat}:∀ {ps:List Pr},(∀ p∈ps,p.1.length<=a/\p.2.1.length<=b/\p.2.2.length<=c)->(aZ ps).length<=ps.length*(a*(b*c))
 | [],_=>by simp [aZ]
 | p::ps,h=>by
   rw [show aZ (p::ps)=dW p++aZ ps by simp [aZ],List.length_append,List.length_cons,Nat.succ_mul]
   have h1:=nU (ps:=ps) fun q j=>h q (by simp [j])
   obtain ⟨x,y,z⟩:=h p (by simp)
   have h2:(dW p).length<=a*(b*c):=by
    unfold dW
    rw [gZ]
    have:=nA (l:=p.1);have:=nA (l:=p.2.1);have:=nA (l:=p.2.2)
    exact Nat.mul_le_mul (by lia) (Nat.mul_le_mul (by lia) (by lia))
   lia
theorem pS {L:List Tm}:∀ kv∈L.map kcD, ∃ i,kv.2 = .int i:=fun kv h=>by
 obtain ⟨t,_,rfl⟩:=List.mem_map.mp h
 exact ⟨t.2,rfl⟩
end
section
namespace K17
noncomputable def ai (i:Nat):Stmt:=PySem.Challenge.pw_fewtimes_k17_tables_within.main.body.getD i (.Pass ⟨0,0,0,0⟩)
noncomputable def d0:FD:=rj (ai 2)
noncomputable def d1:FD:=hZ (ai 3) 0
noncomputable def d2:FD:=jM (ai 4)
noncomputable def d3:FD:=wW (ai 5) 2
noncomputable def b4:MSs :=
 (.cons (.ret (.comp [none,none,none,none,(some 2),(some 1),(some 3)] ["block_row", "block_column", "a", "b", "high", "columns", "wide"] (.more (.rng1 (.var 0)) (.name 0) .nil (.more (.rng1 (.var 5)) (.name 1) .nil (.more (.rng1 (.var 4)) (.name 2) .nil (.last (.rng1 (.var 6)) (.name 3) .nil (.bin .add (.bin .add (.bin .mul (.bin .mul (.bin .add (.bin .mul (.var 0) (.var 4)) (.var 2)) (.var 5)) (.var 6)) (.bin .mul (.var 1) (.var 6))) (.var 3))))))))
 .nil)
noncomputable def d4:FD:=⟨"block_places",ai 6,["rows", "columns", "high", "wide"],4,b4⟩
noncomputable def b5:MSs :=
 (.cons (.asg (.tup (.cons (.name 4) (.cons (.name 5) (.cons (.name 6) (.cons (.name 7) .nil))))) (.call 1 (.cons (.var 0) (.cons (.var 2) .nil))))
 (.cons (.asg (.name 8) (.comp [none,none,(some 1),(some 3)] ["row", "column", "sizes", "others"] (.last (.seq (.glob "TABLES" (.tup [(.tup [(.int 0),(.int 1)]),(.tup [(.int 1),(.int 2)]),(.tup [(.int 0),(.int 2)])]))) (.tup (.cons (.name 0) (.cons (.name 1) .nil))) .nil (.call 4 (.cons (.ix (.var 2) (.var 0)) (.cons (.ix (.var 2) (.var 1)) (.cons (.ix (.var 3) (.var 0)) (.cons (.ix (.var 3) (.var 1)) .nil))))))))
 (.cons (.ret (.tup (.cons (.var 4) (.cons (.var 5) (.cons (.var 6) (.cons (.call 3 (.cons (.var 7) (.cons (.var 8) (.cons (.tup (.cons (.var 4) (.cons (.var 5) (.cons (.var 6) .nil)))) .nil)))) .nil))))))
 .nil)))
noncomputable def d5:FD:=⟨"tables_within",ai 7,["outer", "sizes", "inner", "others", "left", "right", "many", "products", "places"],4,b5⟩
noncomputable def d6:FD:=j3 (ai 9)
noncomputable def b7:MSs :=
 (.cons (.asg (.name 2) (.bin .mod (.bin .mul (.bin .add (.bin .add (.bin .mod (.var 0) (.int 1000000007)) (.bin .mul (.int 7) (.var 1))) (.int 1)) (.int 48271)) (.int 2147483647)))
 (.cons (.asg (.name 3) (.bin .mod (.bin .mul (.var 2) (.bin .add (.bin .add (.bin .mod (.var 2) (.int 1009)) (.var 1)) (.int 3))) (.int 998244353)))
 (.cons (.ret (.bin .fdiv (.bin .mod (.bin .add (.bin .mul (.var 3) (.int 39373)) (.var 2)) (.int 2147483629)) (.int 64)))
 .nil)))
noncomputable def d7:FD:=⟨"_law_mixed",ai 10,["_law_number", "_law_k", "_law_once", "_law_twice"],2,b7⟩
noncomputable def d8:FD:=qY (ai 11) 6 7
noncomputable def d9:FD:=nj (ai 12) 7
noncomputable def d10:FD:=eG "_law_due_here" (ai 13) 10
noncomputable def d11:FD:=fI "_law_part" "_law_number" (ai 14)
noncomputable def d12:FD:=nD "_law_scheme" (ai 15) 11
noncomputable def d13:FD:=jI "_law_sizes_here" (ai 16)
noncomputable def d14:FD:=dR (ai 17)
noncomputable def d15:FD:=hJ (ai 18)
noncomputable def d16:FD:=fK .sorts "_law_number" (ai 19) 15
noncomputable def d17:FD:=jJ "_law_part" "_law_number" (ai 20)
noncomputable def d18:FD:=fL (ai 21) 9 17
noncomputable def d19:FD:=gm (ai 22)
noncomputable def d20:FD:=i3 (ai 23) 9 18 19 14 16 13
noncomputable def b21:MSs :=
 (.cons (.asg (.name 1) (.tup (.cons (.bin .add (.int 1) (.call 9 (.cons (.var 0) (.cons (.int 3) .nil)))) (.cons (.bin .add (.int 1) (.call 9 (.cons (.var 0) (.cons (.int 3) .nil)))) (.cons (.bin .add (.int 1) (.call 9 (.cons (.var 0) (.cons (.int 3) .nil)))) .nil)))))
 (.cons (.asg (.name 2) (.tup (.cons (.bin .add (.int 1) (.call 9 (.cons (.var 0) (.cons (.int 3) .nil)))) (.cons (.bin .add (.int 1) (.call 9 (.cons (.var 0) (.cons (.int 3) .nil)))) (.cons (.bin .add (.int 1) (.call 9 (.cons (.var 0) (.cons (.int 3) .nil)))) .nil)))))
 (.cons (.ite (.cmp .gt (.bin .mul (.bin .mul (.bin .mul (.bin .mul (.bin .mul (.ix (.var 1) (.int 0)) (.ix (.var 1) (.int 1))) (.ix (.var 1) (.int 2))) (.ix (.var 2) (.int 0))) (.ix (.var 2) (.int 1))) (.ix (.var 2) (.int 2))) (.int 108)) (.cons (.asg (.name 2) (.ix (.lst (.cons (.tup (.cons (.int 2) (.cons (.int 1) (.cons (.int 1) .nil)))) (.cons (.tup (.cons (.int 1) (.cons (.int 1) (.cons (.int 2) .nil)))) (.cons (.tup (.cons (.int 1) (.cons (.int 2) (.cons (.int 1) .nil)))) .nil)))) (.call 9 (.cons (.var 0) (.cons (.int 3) .nil)))))
 .nil) .nil)
 (.cons (.ite (.cmp .eq (.call 9 (.cons (.var 0) (.cons (.int 3) .nil))) (.int 0)) (.cons (.par 1 2 (.tup (.cons (.int 2) (.cons (.int 2) (.cons (.int 2) .nil)))) (.ix (.lst (.cons (.tup (.cons (.int 2) (.cons (.int 2) (.cons (.int 2) .nil)))) (.cons (.tup (.cons (.int 1) (.cons (.int 2) (.cons (.int 1) .nil)))) (.cons (.tup (.cons (.int 2) (.cons (.int 1) (.cons (.int 2) .nil)))) .nil)))) (.call 9 (.cons (.var 0) (.cons (.int 3) .nil)))))
 .nil) .nil)
 (.cons (.ite (.cmp .eq (.call 9 (.cons (.var 0) (.cons (.int 8) .nil))) (.int 0)) (.cons (.par 1 2 (.ix (.lst (.cons (.tup (.cons (.int 9) (.cons (.int 1) (.cons (.int 3) .nil)))) (.cons (.tup (.cons (.int 2) (.cons (.int 9) (.cons (.int 2) .nil)))) (.cons (.tup (.cons (.int 1) (.cons (.int 5) (.cons (.int 9) .nil)))) .nil)))) (.call 9 (.cons (.var 0) (.cons (.int 3) .nil)))) (.tup (.cons (.int 1) (.cons (.int 1) (.cons (.int 1) .nil)))))
 .nil) .nil)
 (.cons (.ret (.ix (.lst (.cons (.tup (.cons (.var 1) (.cons (.var 2) .nil))) (.cons (.tup (.cons (.var 2) (.cons (.var 1) .nil))) .nil))) (.call 9 (.cons (.var 0) (.cons (.int 2) .nil)))))
 .nil))))))
noncomputable def d21:FD:=⟨"_law_sizes",ai 24,["_law_box_here", "_law_one", "_law_other"],1,b21⟩
noncomputable def b22:MSs :=
 (.cons (.asg (.tup (.cons (.name 3) (.cons (.name 4) (.cons (.name 5) (.cons (.name 6) .nil))))) (.var 2))
 (.cons (.asg (.name 7) (.lst .nil))
 (.cons (.for (.name 8) (.rng1 (.bin .mul (.var 3) (.var 5))) (.cons (.for (.name 9) (.rng1 (.bin .mul (.var 4) (.var 6))) (.cons (.asg (.name 10) (.bin .add (.bin .mul (.bin .fdiv (.var 8) (.var 5)) (.var 4)) (.bin .fdiv (.var 9) (.var 6))))
 (.cons (.asg (.name 11) (.bin .add (.bin .mul (.bin .mod (.var 8) (.var 5)) (.var 6)) (.bin .mod (.var 9) (.var 6))))
 (.cons (.drop (.meth .append (.var 7) (.bin .mul (.ix (.var 0) (.var 10)) (.ix (.var 1) (.var 11)))))
 .nil))))
 .nil))
 (.cons (.ret (.blt .tuple (.cons (.var 7) .nil)))
 .nil))))
noncomputable def d22:FD:=⟨"_law_part_due",ai 25,["_law_one", "_law_other", "_law_sides", "_law_rows", "_law_columns", "_law_inner_rows", "_law_inner_columns", "_law_found", "_law_row", "_law_column", "_law_block", "_law_spot"],3,b22⟩
noncomputable def b23:MSs :=
 (.cons (.asg (.tup (.cons (.name 4) (.cons (.name 5) (.cons (.name 6) .nil)))) (.var 1))
 (.cons (.asg (.tup (.cons (.name 7) (.cons (.name 8) (.cons (.name 9) .nil)))) (.var 3))
 (.cons (.asg (.name 10) (.lst (.cons (.tup (.cons (.var 4) (.cons (.var 5) (.cons (.var 7) (.cons (.var 8) .nil))))) (.cons (.tup (.cons (.var 5) (.cons (.var 6) (.cons (.var 8) (.cons (.var 9) .nil))))) (.cons (.tup (.cons (.var 4) (.cons (.var 6) (.cons (.var 7) (.cons (.var 9) .nil))))) .nil)))))
 (.cons (.asg (.name 11) (.lst .nil))
 (.cons (.for (.name 12) (.seq (.ix (.var 0) (.int 3))) (.cons (.drop (.meth .extend (.var 11) (.comp [none,(some 12),(some 10)] ["_law_other", "_law_one", "_law_sides"] (.last (.seq (.ix (.var 2) (.int 3))) (.name 0) .nil (.blt .tuple (.cons (.comp [none,(some 1),(some 0),(some 2)] ["_law_side", "_law_one", "_law_other", "_law_sides"] (.last (.rng1 (.int 3)) (.name 0) .nil (.call 22 (.cons (.ix (.var 1) (.var 0)) (.cons (.ix (.var 2) (.var 0)) (.cons (.ix (.var 3) (.var 0)) .nil)))))) .nil))))))
 .nil))
 (.cons (.ret (.bin .add (.call 14 (.cons (.tup (.cons (.bin .mul (.var 4) (.var 7)) (.cons (.bin .mul (.var 5) (.var 8)) (.cons (.bin .mul (.var 6) (.var 9)) .nil)))) .nil)) (.tup (.cons (.var 11) .nil))))
 .nil))))))
noncomputable def d23:FD:=⟨"_law_due",ai 26,["_law_outer", "_law_sizes_here", "_law_inner", "_law_others", "_law_n", "_law_m", "_law_p", "_law_a", "_law_b", "_law_c", "_law_sides", "_law_found", "_law_one"],4,b23⟩
noncomputable def b24:MSs :=
 (.cons (.for (.name 1) (.rng1 (.bin .add (.int 1) (.blt .min2 (.cons (.int 7) (.cons (.blt .len (.cons (.var 0) .nil)) .nil))))) (.cons (.asg (.name 2) (.call 8 (.cons (.var 0) (.cons (.var 1) .nil))))
 (.cons (.asg (.tup (.cons (.name 3) (.cons (.name 4) .nil))) (.call 21 (.cons (.var 2) .nil)))
 (.cons (.par 5 6 (.call 20 (.cons (.var 2) (.cons (.var 3) (.cons (.int 3) .nil)))) (.call 20 (.cons (.var 2) (.cons (.var 4) (.cons (.int 2) .nil)))))
 (.cons (.asg (.name 7) (.lst (.cons (.blt .list (.cons (.ix (.var 5) (.int 3)) .nil)) (.cons (.blt .list (.cons (.ix (.var 6) (.int 3)) .nil)) .nil))))
 (.cons (.asg (.name 8) (.call 23 (.cons (.var 5) (.cons (.var 3) (.cons (.var 6) (.cons (.var 4) .nil))))))
 (.cons (.for (.name 9) (.rng1 (.int 2)) (.cons (.asg (.name 10) (.call 5 (.cons (.var 5) (.cons (.var 3) (.cons (.var 6) (.cons (.var 4) .nil))))))
 (.cons (.ite (.not (.tru (.call 10 (.cons (.var 10) (.cons (.var 8) .nil))))) (.cons (.ret (.bl false))
 .nil) .nil)
 (.cons (.drop (.meth0 .clear (.ix (.var 10) (.int 3))))
 .nil))))
 (.cons (.asg (.name 11) (.tup (.cons (.bin .mul (.ix (.var 3) (.int 0)) (.ix (.var 4) (.int 0))) (.cons (.bin .mul (.ix (.var 3) (.int 1)) (.ix (.var 4) (.int 1))) (.cons (.bin .mul (.ix (.var 3) (.int 2)) (.ix (.var 4) (.int 2))) .nil)))))
 (.cons (.ite (.or (.cons (.cmp .neD (.call 12 (.cons (.var 8) .nil)) (.call 13 (.cons (.var 11) .nil))) (.cons (.cmp .ne (.lst (.cons (.ix (.var 5) (.int 3)) (.cons (.ix (.var 6) (.int 3)) .nil))) (.var 7)) .nil))) (.cons (.ret (.bl false))
 .nil) .nil)
 .nil)))))))))
 (.cons (.ret (.bl true))
 .nil))
noncomputable def d24:FD:=⟨"law",ai 27,["_law_script", "_law_k", "_law_box_here", "_law_sizes_here", "_law_others", "_law_outer", "_law_inner", "_law_kept", "_law_due_here", "_law_turn", "_law_found", "_law_whole"],1,b24⟩
noncomputable def tab:List FD := [d0,d1,d2,d3,d4,d5,d6,d7,d8,d9,d10,d11,d12,d13,d14,d15,d16,d17,d18,d19,d20,d21,d22,d23,d24]
noncomputable def nV:List (Str×D) := [("TABLES",(.tup [(.tup [(.int 0),(.int 1)]),(.tup [(.int 1),(.int 2)]),(.tup [(.int 0),(.int 2)])]))]
end K17
end
section
namespace K17
theorem BC:∀ d∈tab,qW (tab.map (·.name)) nV d=true:=by decide +kernel
noncomputable abbrev PA (K:Frag) (x:Str) (f:Addr):Prop:=PySem.W.nsIn K mainGlobals x=some (some (.ref f))
noncomputable abbrev PL (K:Frag) (f:Addr) (x:Str) (s:Stmt) (oc:Value) (od:Option Addr) (kV dc pm:Value) (an:Option Addr) (cd ct:Value) (sl:Array (Option Value)):Prop:=K.lookup f=some ⟨oc,od, .func (PySem.W.fnOf x x (dj s) (bV s) (ay s) .none kV dc pm an cd ct),sl⟩
noncomputable abbrev PC (K:Frag) (c:Value) (x:Str):Prop:=PySem.W.codeIn K c x=true
noncomputable abbrev PK (K:Frag) (f:Addr):Prop:=PySem.W.keepIn K (.ref f)=true
theorem all_mk {l:PySem.W.OpenLaw} {w:World} {K:Frag} {h:Heap} {mg:Str->Option Value} {fa:Addr} (X:K.In h) (G:h.Ns mainGlobals mg) (hfa:mg "law" = some (.ref fa)) (z:∀ x∈bltNames,PySem.W.nsIn K mainGlobals x=some none)
 (a0:PA K "product_within" f0) (l0:PL K f0 "product_within" (ai 2) oc0 od0 kV0 dc0 pm0 an0 cd0 ct0 sl0) (c0:PC K cd0 "product_within") (k0:PK K f0)
 (a1:PA K "within" f1) (l1:PL K f1 "within" (ai 3) oc1 od1 kV1 dc1 pm1 an1 cd1 ct1 sl1) (c1:PC K cd1 "within") (k1:PK K f1)
 (a2:PA K "moved" f2) (l2:PL K f2 "moved" (ai 4) oc2 od2 kV2 dc2 pm2 an2 cd2 ct2 sl2) (c2:PC K cd2 "moved") (k2:PK K f2)
 (a3:PA K "products_moved" f3) (l3:PL K f3 "products_moved" (ai 5) oc3 od3 kV3 dc3 pm3 an3 cd3 ct3 sl3) (c3:PC K cd3 "products_moved") (k3:PK K f3)
 (a4:PA K "block_places" f4) (l4:PL K f4 "block_places" (ai 6) oc4 od4 kV4 dc4 pm4 an4 cd4 ct4 sl4) (c4:PC K cd4 "block_places") (k4:PK K f4)
 (a5:PA K "tables_within" f5) (l5:PL K f5 "tables_within" (ai 7) oc5 od5 kV5 dc5 pm5 an5 cd5 ct5 sl5) (c5:PC K cd5 "tables_within") (k5:PK K f5)
 (a6:PA K "_law_cell_at" f6) (l6:PL K f6 "_law_cell_at" (ai 9) oc6 od6 kV6 dc6 pm6 an6 cd6 ct6 sl6) (c6:PC K cd6 "_law_cell_at") (k6:PK K f6)
 (a7:PA K "_law_mixed" f7) (l7:PL K f7 "_law_mixed" (ai 10) oc7 od7 kV7 dc7 pm7 an7 cd7 ct7 sl7) (c7:PC K cd7 "_law_mixed") (k7:PK K f7)
 (a8:PA K "_law_box" f8) (l8:PL K f8 "_law_box" (ai 11) oc8 od8 kV8 dc8 pm8 an8 cd8 ct8 sl8) (c8:PC K cd8 "_law_box") (k8:PK K f8)
 (a9:PA K "_law_take" f9) (l9:PL K f9 "_law_take" (ai 12) oc9 od9 kV9 dc9 pm9 an9 cd9 ct9 sl9) (c9:PC K cd9 "_law_take") (k9:PK K f9)
 (a10:PA K "_law_same" f10) (l10:PL K f10 "_law_same" (ai 13) oc10 od10 kV10 dc10 pm10 an10 cd10 ct10 sl10) (c10:PC K cd10 "_law_same") (k10:PK K f10)
 (a11:PA K "_law_nonzero" f11) (l11:PL K f11 "_law_nonzero" (ai 14) oc11 od11 kV11 dc11 pm11 an11 cd11 ct11 sl11) (c11:PC K cd11 "_law_nonzero") (k11:PK K f11)
 (a12:PA K "_law_sums" f12) (l12:PL K f12 "_law_sums" (ai 15) oc12 od12 kV12 dc12 pm12 an12 cd12 ct12 sl12) (c12:PC K cd12 "_law_sums") (k12:PK K f12)
 (a13:PA K "_law_table_sums" f13) (l13:PL K f13 "_law_table_sums" (ai 16) oc13 od13 kV13 dc13 pm13 an13 cd13 ct13 sl13) (c13:PC K cd13 "_law_table_sums") (k13:PK K f13)
 (a14:PA K "_law_lengths_of" f14) (l14:PL K f14 "_law_lengths_of" (ai 17) oc14 od14 kV14 dc14 pm14 an14 cd14 ct14 sl14) (c14:PC K cd14 "_law_lengths_of") (k14:PK K f14)
 (a15:PA K "_law_single" f15) (l15:PL K f15 "_law_single" (ai 18) oc15 od15 kV15 dc15 pm15 an15 cd15 ct15 sl15) (c15:PC K cd15 "_law_single") (k15:PK K f15)
 (a16:PA K "_law_plainly" f16) (l16:PL K f16 "_law_plainly" (ai 19) oc16 od16 kV16 dc16 pm16 an16 cd16 ct16 sl16) (c16:PC K cd16 "_law_plainly") (k16:PK K f16)
 (a17:PA K "_law_turned_about" f17) (l17:PL K f17 "_law_turned_about" (ai 20) oc17 od17 kV17 dc17 pm17 an17 cd17 ct17 sl17) (c17:PC K cd17 "_law_turned_about") (k17:PK K f17)
 (a18:PA K "_law_dressed" f18) (l18:PL K f18 "_law_dressed" (ai 21) oc18 od18 kV18 dc18 pm18 an18 cd18 ct18 sl18) (c18:PC K cd18 "_law_dressed") (k18:PK K f18)
 (a19:PA K "_law_seven" f19) (l19:PL K f19 "_law_seven" (ai 22) oc19 od19 kV19 dc19 pm19 an19 cd19 ct19 sl19) (c19:PC K cd19 "_law_seven") (k19:PK K f19)
 (a20:PA K "_law_tables" f20) (l20:PL K f20 "_law_tables" (ai 23) oc20 od20 kV20 dc20 pm20 an20 cd20 ct20 sl20) (c20:PC K cd20 "_law_tables") (k20:PK K f20)
 (a21:PA K "_law_sizes" f21) (l21:PL K f21 "_law_sizes" (ai 24) oc21 od21 kV21 dc21 pm21 an21 cd21 ct21 sl21) (c21:PC K cd21 "_law_sizes") (k21:PK K f21)
 (a22:PA K "_law_part_due" f22) (l22:PL K f22 "_law_part_due" (ai 25) oc22 od22 kV22 dc22 pm22 an22 cd22 ct22 sl22) (c22:PC K cd22 "_law_part_due") (k22:PK K f22)
 (a23:PA K "_law_due" f23) (l23:PL K f23 "_law_due" (ai 26) oc23 od23 kV23 dc23 pm23 an23 cd23 ct23 sl23) (c23:PC K cd23 "_law_due") (k23:PK K f23)
 (a24:PA K "law" f24) (l24:PL K f24 "law" (ai 27) oc24 od24 kV24 dc24 pm24 an24 cd24 ct24 sl24) (c24:PC K cd24 "law") (k24:PK K f24)
 (gcst0:PySem.W.nsIn K mainGlobals "TABLES" = some (some (.ref ua0))) (gu0:K.lookup ua0=some ⟨.type "tuple",uo0, .seq #[(.ref ua1),(.ref ua4),(.ref ua7)] un0,us0⟩) (gu1:K.lookup ua1=some ⟨.type "tuple",uo1, .seq #[(.int 0 ut2),(.int 1 ut3)] un1,us1⟩) (gu4:K.lookup ua4=some ⟨.type "tuple",uo4, .seq #[(.int 1 ut5),(.int 2 ut6)] un4,us4⟩) (gu7:K.lookup ua7=some ⟨.type "tuple",uo7, .seq #[(.int 0 ut8),(.int 2 ut9)] un7,us7⟩)
 : ∃ fd:FuncData,(∀ (s:Shared) (v:Value),BindsTo s fd ⟨[v],[]⟩ [("_law_script",v)]) /\ ∀ base:Heap,K.In base->base.Ns mainGlobals mg->dB l.prog w K mg base CX0 40 fa fd ["_law_script"] (lSp K (phi tab 40 24)):=by
 have e:=hfa.symm.trans (PySem.W.mg_of X G a24)
 cases e
 have O:xH K mg tab nV:=by
  refine ⟨fun x hx=>PySem.W.mg_none_of X G (z x hx), ?_,BC, ?_⟩
  ·intro i d hd
   match i,hd with
   | 0,hd=>cases hd;exact ⟨_,_,ah l0 c0 k0,PySem.W.mg_of X G a0,(ah l0 c0 k0).binds fun _ _ _ _ _ _ us hl=>by obtain ⟨u0,u1,rfl⟩:=cL us hl;rfl⟩
   | 1,hd=>cases hd;exact ⟨_,_,ah l1 c1 k1,PySem.W.mg_of X G a1,(ah l1 c1 k1).binds fun _ _ _ _ _ _ us hl=>by obtain ⟨u0,u1,rfl⟩:=cL us hl;rfl⟩
   | 2,hd=>cases hd;exact ⟨_,_,ah l2 c2 k2,PySem.W.mg_of X G a2,(ah l2 c2 k2).binds fun _ _ _ _ _ _ us hl=>by obtain ⟨u0,u1,u2,rfl⟩:=iZ us hl;rfl⟩
   | 3,hd=>cases hd;exact ⟨_,_,ah l3 c3 k3,PySem.W.mg_of X G a3,(ah l3 c3 k3).binds fun _ _ _ _ _ _ us hl=>by obtain ⟨u0,u1,u2,rfl⟩:=iZ us hl;rfl⟩
   | 4,hd=>cases hd;exact ⟨_,_,ah l4 c4 k4,PySem.W.mg_of X G a4,(ah l4 c4 k4).binds fun _ _ _ _ _ _ us hl=>by obtain ⟨u0,u1,u2,u3,rfl⟩:=lf us hl;rfl⟩
   | 5,hd=>cases hd;exact ⟨_,_,ah l5 c5 k5,PySem.W.mg_of X G a5,(ah l5 c5 k5).binds fun _ _ _ _ _ _ us hl=>by obtain ⟨u0,u1,u2,u3,rfl⟩:=lf us hl;rfl⟩
   | 6,hd=>cases hd;exact ⟨_,_,ah l6 c6 k6,PySem.W.mg_of X G a6,(ah l6 c6 k6).binds fun _ _ _ _ _ _ us hl=>by obtain ⟨u0,u1,rfl⟩:=cL us hl;rfl⟩
   | 7,hd=>cases hd;exact ⟨_,_,ah l7 c7 k7,PySem.W.mg_of X G a7,(ah l7 c7 k7).binds fun _ _ _ _ _ _ us hl=>by obtain ⟨u0,u1,rfl⟩:=cL us hl;rfl⟩
   | 8,hd=>cases hd;exact ⟨_,_,ah l8 c8 k8,PySem.W.mg_of X G a8,(ah l8 c8 k8).binds fun _ _ _ _ _ _ us hl=>by obtain ⟨u0,u1,rfl⟩:=cL us hl;rfl⟩
   | 9,hd=>cases hd;exact ⟨_,_,ah l9 c9 k9,PySem.W.mg_of X G a9,(ah l9 c9 k9).binds fun _ _ _ _ _ _ us hl=>by obtain ⟨u0,u1,rfl⟩:=cL us hl;rfl⟩
   | 10,hd=>cases hd;exact ⟨_,_,ah l10 c10 k10,PySem.W.mg_of X G a10,(ah l10 c10 k10).binds fun _ _ _ _ _ _ us hl=>by obtain ⟨u0,u1,rfl⟩:=cL us hl;rfl⟩
   | 11,hd=>cases hd;exact ⟨_,_,ah l11 c11 k11,PySem.W.mg_of X G a11,(ah l11 c11 k11).binds fun _ _ _ _ _ _ us hl=>by obtain ⟨u0,rfl⟩:=dO us hl;rfl⟩
   | 12,hd=>cases hd;exact ⟨_,_,ah l12 c12 k12,PySem.W.mg_of X G a12,(ah l12 c12 k12).binds fun _ _ _ _ _ _ us hl=>by obtain ⟨u0,rfl⟩:=dO us hl;rfl⟩
   | 13,hd=>cases hd;exact ⟨_,_,ah l13 c13 k13,PySem.W.mg_of X G a13,(ah l13 c13 k13).binds fun _ _ _ _ _ _ us hl=>by obtain ⟨u0,rfl⟩:=dO us hl;rfl⟩
   | 14,hd=>cases hd;exact ⟨_,_,ah l14 c14 k14,PySem.W.mg_of X G a14,(ah l14 c14 k14).binds fun _ _ _ _ _ _ us hl=>by obtain ⟨u0,rfl⟩:=dO us hl;rfl⟩
   | 15,hd=>cases hd;exact ⟨_,_,ah l15 c15 k15,PySem.W.mg_of X G a15,(ah l15 c15 k15).binds fun _ _ _ _ _ _ us hl=>by obtain ⟨u0,u1,rfl⟩:=cL us hl;rfl⟩
   | 16,hd=>cases hd;exact ⟨_,_,ah l16 c16 k16,PySem.W.mg_of X G a16,(ah l16 c16 k16).binds fun _ _ _ _ _ _ us hl=>by obtain ⟨u0,u1,rfl⟩:=cL us hl;rfl⟩
   | 17,hd=>cases hd;exact ⟨_,_,ah l17 c17 k17,PySem.W.mg_of X G a17,(ah l17 c17 k17).binds fun _ _ _ _ _ _ us hl=>by obtain ⟨u0,rfl⟩:=dO us hl;rfl⟩
   | 18,hd=>cases hd;exact ⟨_,_,ah l18 c18 k18,PySem.W.mg_of X G a18,(ah l18 c18 k18).binds fun _ _ _ _ _ _ us hl=>by obtain ⟨u0,u1,u2,u3,rfl⟩:=lf us hl;rfl⟩
   | 19,hd=>cases hd;exact ⟨_,_,ah l19 c19 k19,PySem.W.mg_of X G a19,(ah l19 c19 k19).binds fun _ _ _ _ _ _ us hl=>by obtain ⟨rfl⟩:=Cj us hl;rfl⟩
   | 20,hd=>cases hd;exact ⟨_,_,ah l20 c20 k20,PySem.W.mg_of X G a20,(ah l20 c20 k20).binds fun _ _ _ _ _ _ us hl=>by obtain ⟨u0,u1,u2,rfl⟩:=iZ us hl;rfl⟩
   | 21,hd=>cases hd;exact ⟨_,_,ah l21 c21 k21,PySem.W.mg_of X G a21,(ah l21 c21 k21).binds fun _ _ _ _ _ _ us hl=>by obtain ⟨u0,rfl⟩:=dO us hl;rfl⟩
   | 22,hd=>cases hd;exact ⟨_,_,ah l22 c22 k22,PySem.W.mg_of X G a22,(ah l22 c22 k22).binds fun _ _ _ _ _ _ us hl=>by obtain ⟨u0,u1,u2,rfl⟩:=iZ us hl;rfl⟩
   | 23,hd=>cases hd;exact ⟨_,_,ah l23 c23 k23,PySem.W.mg_of X G a23,(ah l23 c23 k23).binds fun _ _ _ _ _ _ us hl=>by obtain ⟨u0,u1,u2,u3,rfl⟩:=lf us hl;rfl⟩
   | 24,hd=>cases hd;exact ⟨_,_,ah l24 c24 k24,PySem.W.mg_of X G a24,(ah l24 c24 k24).binds fun _ _ _ _ _ _ us hl=>by obtain ⟨u0,rfl⟩:=dO us hl;rfl⟩
   | i+25,hd=>simp [tab] at hd
  ·intro x i hx
   simp only [nV,List.mem_cons,List.not_mem_nil,or_false,Prod.mk.injEq] at hx
   rcases hx with ⟨rfl,rfl⟩
   ·exact ⟨_,PySem.W.mg_of X G gcst0,(GV.tups gu0 (by simp) rfl (GVs.cons (GV.tups gu1 (by simp) rfl (GVs.cons GV.ints (GVs.cons GV.ints GVs.nil))) (GVs.cons (GV.tups gu4 (by simp) rfl (GVs.cons GV.ints (GVs.cons GV.ints GVs.nil))) (GVs.cons (GV.tups gu7 (by simp) rfl (GVs.cons GV.ints (GVs.cons GV.ints GVs.nil))) GVs.nil))))⟩
 refine ⟨PySem.W.fnOf "law" "law" (dj (ai 27)) (bV (ai 27)) (ay (ai 27)) .none kV24 dc24 pm24 an24 cd24 ct24,fun s v => .of_eq rfl,fun base _ _ => ?_⟩
 exact tX O 40 24 d24 _ _ rfl (ah l24 c24 k24)
theorem walk {l:PySem.W.OpenLaw} {q:Program} {loose:List Str} {XP:(Str->Option Value)->Heap->Prop} {YP:World->Heap->Prop} {d:DefRec} {K:Params->Frag} (hn:l.most=some 63) (hdf:d.params.defaults=[])
 (hlaw:∀ ns:List Int,ns.length<=63->phi tab 40 24 [.con (ns.map D.int)] (fun _=>none) fun d _=>d = .bl true)
 (hY:∀ (w:World) (h:Heap),YP w h->(K w.params).In h)
 (F:∀ (w:World) (mg:Str->Option Value) (fa:Addr) (h:Heap),(K w.params).In h->h.Ns mainGlobals mg->mg d.name=some (.ref fa) ->
   ∃ fd:FuncData,(∀ (s:Shared) (u:Value),BindsTo s fd ⟨[u],[]⟩ [("_law_script",u)]) /\ ∀ base:Heap,(K w.params).In base->base.Ns mainGlobals mg->dB l.prog w (K w.params) mg base CX0 40 fa fd ["_law_script"] (lSp (K w.params) (phi tab 40 24))) :
 PySem.W.WalkO q loose XP YP l.row.toRowW d [] (fun f vs=>PySem.call f vs) :=
 L2.walk_of (n := 63) (k := 40) (x := "_law_script") (CX:=fun _=>CX0) (sp:=fun w=>lSp (K w.params) (phi tab 40 24)) hn (by decide) hdf ⟨rfl,by decide,by decide⟩ hY F (fun w H a ns hl hO hS=>Bh hO hS (hlaw ns hl)) fun _ _ _ _ _ z=>z
end K17
end
section
namespace K17
open PySem PySem.Spec PyProof.Rows L2.Srt
theorem pT {n:Nat} (hn : 1<=n):qZ tab n 7:=ue (x := "_law_number") (s:=ai 10) rfl hn
theorem aQ {n:Nat} (hn : 2<=n):j4 tab n 9:=fun hb h1 h2 q=>zt (s:=ai 12) (fm := 7) rfl (pT (by lia)) hn hb h1 h2 q
theorem xc {n m:Nat} (hn:n+1<=m) {u v:D} {M:Mem} {Q:QD} (h:Sm M n u v) (q:∀ M',Ge M M'->Q (.bl true) M'):phi tab m 10 [u,v] M Q:=zN (s:=ai 13) (y := "_law_due_here") rfl hn h q
theorem BD {n:Nat} (hn : 1<=n):Bq tab n 11:=fun j q=>r8 (s:=ai 14) (xp := "_law_part") (xn := "_law_number") rfl hn j q
theorem xf {n:Nat} (hn : 2<=n) {x0 j z:D} {p:Addr} {ps:List Pr} {M:Mem} {Q:QD} (hp:M p=some (.lst (ps.map prD))) (B:(aZ ps).length<=10000000) (F:∀ p∈ps,Br p)
 (q:∀ (L:List Tm) d M',xN ps L->L.length<=10000000->Ge M M'->M d=none->M' d=some (.dct true (L.map kcD))->Q (.ref d) M'):phi tab n 12 [.tup [x0,j,z, .ref p]] M Q:=zz (s:=ai 15) (xs := "_law_scheme") (fz := 11) rfl (BD (by lia)) (by lia) hp B F q
theorem fO {n:Nat} (hn : 1<=n):pQ tab n 13:=fun a b c q=>wP (s:=ai 16) (xs := "_law_sizes_here") rfl hn a b c q
theorem zQ {k:Nat} (j : 1<=k) {x y z:Nat} (hx:x<=1000) (hy:y<=1000) {M:Mem} {Q:QD} (q:Q (.tup [.int (x*y:Nat), .int (y*z:Nat), .int (x*z:Nat)]) M):phi tab k 14 [.tup [.int x, .int y, .int z]] M Q:=ja (s:=ai 17) rfl j hx hy q
theorem rD {n:Nat} (hn : 1<=n):nK tab n 15:=fun j q=>uk (s:=ai 18) rfl hn j q
theorem gB {n:Nat} (hn : 2<=n):kF tab 63 n 16:=fun a b c _ h1 h2 j _ _ _ z q=>rg D4 (s:=ai 19) (y := "_law_number") (fs := 15) rfl (rD (by lia)) (by lia) a b c h1 h2 j z q
theorem uE {n:Nat} (hn : 1<=n):pL tab n 17:=fun j q=>wQ (s:=ai 20) (x := "_law_part") (y := "_law_number") rfl hn j q
theorem gC {n:Nat} (hn : 3<=n):kE tab n 18:=fun a b c d e _ f g h _ _ _ _ _ _ i j k q=>rh (s:=ai 21) (ft := 9) (fa := 17) rfl (aQ (by lia)) (uE (by lia)) (by lia) a b c d e f g h i j k q
theorem pU {M M':Mem} {p:Addr} (g:Ge M M') (h:M' p=none):M p=none:=by
 cases hz:M p with
 | none=>rfl
 | some o=>rw [g _ _ hz] at h;cases h
theorem zR {a:List Nat}:(nsD a).length=a.length:=by simp [nsD]
noncomputable def bq1 (h w C q d x:Nat) (l:List Nat):List Nat:=l.map fun y=>(q*h+x)*(C*w)+(d*w+y)
noncomputable def bq2 (h w C q d:Nat) (l:List Nat):List Nat:=l.flatMap fun x=>bq1 h w C q d x (List.range w)
noncomputable def bq3 (h w C q:Nat) (l:List Nat):List Nat:=l.flatMap fun d=>bq2 h w C q d (List.range h)
noncomputable def bq4 (h w C:Nat) (l:List Nat):List Nat:=l.flatMap fun q=>bq3 h w C q (List.range C)
theorem fP {α:Type} {F:Nat->List α} {k:Nat} (j:∀ x,(F x).length=k):∀ {l:List Nat},(l.flatMap F).length=l.length*k
 | [] => by simp
 | x::l=>by rw [List.flatMap_cons,List.length_append,fP j,j,List.length_cons,Nat.succ_mul];lia
theorem uF {h w C q d:Nat} {l:List Nat}:(bq2 h w C q d l).length=l.length*w:=fP fun x=>by simp [bq1]
theorem uG {h w C q:Nat} {l:List Nat}:(bq3 h w C q l).length=l.length*(h*w):=fP fun x=>by rw [uF,List.length_range]
theorem BE {h w C:Nat} {l:List Nat}:(bq4 h w C l).length=l.length*(C*(h*w)):=fP fun x=>by rw [uG,List.length_range]
theorem xg {n:Nat} (hn : 1<=n) {R C h w:Nat} (hR:R<=9) (Z:C<=9) (L:h<=9) (hw:w<=9) {M:Mem} {Q:QD} (q:∀ p,M p=none->Q (.ref p) (ag M p (.lst (nsD (bp R C h w))))):phi tab n 4 [.int R, .int C, .int h, .int w] M Q:=by
 have mm:∀ {a b c d:Nat},a<=c->b<=d->a*b<=c*d:=fun h1 h2=>Nat.mul_le_mul h1 h2
 refine aq (by lia) rfl rfl (ρ := [some _,some _,some _,some _]) rfl ?_
 unfold d4 L2.Mi.K17.b4
 walk_at "st"
 refine ⟨by lia,by lia, ?_⟩
 rw [Int.toNat_natCast]
 refine ao (f:=fun i=>D.int (i:Nat)) (ys:=List.range R) (I:=fun l ρ M' acc=>(∃ o0 F B j, ρ = [o0,F,B,j,some (.int h),some (.int C),some (.int w)])/\M'=M/\acc=nsD (bq4 h w C l)) aE ⟨⟨_,_,_,_,rfl⟩,rfl,rfl⟩ (fun _ _ _ _ _=>trivial) ?_ ?_
 ·rintro J z r4 ρ M1 acc e4 ⟨⟨o0,F,B,j,rfl⟩,rfl,rfl⟩
  refine ⟨_,rfl,fun N4 O => ?_⟩
  have hq:=ak e4
  rw [List.length_range] at hq
  have D7:z < R:=List.mem_range.mp (by rw [e4];simp)
  walk_at "wp"
  refine ⟨by lia,by lia, ?_⟩
  rw [Int.toNat_natCast]
  refine ao (f:=fun i=>D.int (i:Nat)) (ys:=List.range C) (I:=fun l ρ M' acc=>(∃ F B j, ρ = [some (.int (z:Nat)),F,B,j,some (.int h),some (.int C),some (.int w)])/\M'=M1/\acc=nsD (bq4 h w C J++bq3 h w C z l)) aE ⟨⟨_,_,_,rfl⟩,rfl,by simp [bq3]⟩ (fun _ _ _ _ _=>trivial) ?_ ?_
  ·rintro l3 d3 r3 ρ M2 acc e3 ⟨⟨F,B,j,rfl⟩,rfl,rfl⟩
   refine ⟨_,rfl,fun N3 S => ?_⟩
   have hd:=ak e3
   rw [List.length_range] at hd
   have D8:d3 < C:=List.mem_range.mp (by rw [e3];simp)
   walk_at "wp"
   refine ⟨by lia,by lia, ?_⟩
   rw [Int.toNat_natCast]
   refine ao (f:=fun i=>D.int (i:Nat)) (ys:=List.range h) (I:=fun l ρ M' acc=>(∃ B j, ρ = [some (.int (z:Nat)),some (.int (d3:Nat)),B,j,some (.int h),some (.int C),some (.int w)])/\M'=M2/\acc=nsD (bq4 h w C J++bq3 h w C z l3++bq2 h w C z d3 l)) aE ⟨⟨_,_,rfl⟩,rfl,by simp [bq2]⟩ (fun _ _ _ _ _=>trivial) ?_ ?_
   ·rintro l2 G r2 ρ M3 acc e2 ⟨⟨B,j,rfl⟩,rfl,rfl⟩
    refine ⟨_,rfl,fun N2 U => ?_⟩
    have hx:=ak e2
    rw [List.length_range] at hx
    have D9:G < h:=List.mem_range.mp (by rw [e2];simp)
    walk_at "wp"
    refine ⟨by lia,by lia, ?_⟩
    rw [Int.toNat_natCast]
    refine ao (f:=fun i=>D.int (i:Nat)) (ys:=List.range w) (I:=fun l ρ M' acc=>(∃ j, ρ = [some (.int (z:Nat)),some (.int (d3:Nat)),some (.int (G:Nat)),j,some (.int h),some (.int C),some (.int w)])/\M'=M3/\acc=nsD (bq4 h w C J++bq3 h w C z l3++bq2 h w C z d3 l2++bq1 h w C z d3 G l)) aE ⟨⟨_,rfl⟩,rfl,by simp [bq1]⟩ (fun _ _ _ _ _=>trivial) ?_ ?_
    ·rintro l1 y1 r1 ρ M4 acc e1 ⟨⟨j,rfl⟩,rfl,rfl⟩
     refine ⟨_,rfl,fun N1 Y => ?_⟩
     have hy:=ak e1
     rw [List.length_range] at hy
     have Da:z*h<=9*9:=mm (by lia) L
     have Db:(z*h+G)*C<=100*9:=mm (by lia) Z
     walk_at "wp"
     rw [<- Int.natCast_mul, <- Int.natCast_add, <- Int.natCast_mul, <- Int.natCast_mul, <- Int.natCast_mul, <- Int.natCast_add, <- Int.natCast_add]
     refine ⟨aL (by lia),aL (by lia),aL (by lia),aL (by lia), ?_,Y _ _ _ ⟨⟨_,rfl⟩,rfl, ?_⟩⟩
     ·rw [zR,List.length_append,List.length_append,List.length_append,BE,uG,uF,sizeLine_eq]
      have a1:J.length*(C*(h*w))<=9*(9*(9*9)):=mm (by lia) (mm Z (mm L hw))
      have a2:l3.length*(h*w)<=9*(9*9):=mm (by lia) (mm L hw)
      have a3:l2.length*w<=9*9:=mm (by lia) hw
      simp [bq1];lia
     ·have e0:(z*h+G)*C*w+d3*w+y1=(z*h+G)*(C*w)+(d3*w+y1):=by rw [Nat.mul_assoc,Nat.add_assoc]
      rw [e0]
      simp [nsD,bq1]
    ·rintro ρ M4 acc ⟨⟨j,rfl⟩,rfl,rfl⟩
     exact U _ _ _ ⟨⟨_,_,rfl⟩,rfl,by simp [bq2,List.flatMap_append]⟩
   ·rintro ρ M3 acc ⟨⟨B,j,rfl⟩,rfl,rfl⟩
    exact S _ _ _ ⟨⟨_,_,_,rfl⟩,rfl,by simp [bq3,List.flatMap_append]⟩
  ·rintro ρ M2 acc ⟨⟨F,B,j,rfl⟩,rfl,rfl⟩
   exact O _ _ _ ⟨⟨_,_,_,_,rfl⟩,rfl,by simp [bq4,List.flatMap_append]⟩
 ·rintro ρ M1 acc ⟨⟨o0,F,B,j,rfl⟩,rfl,rfl⟩ p hp
  exact q p hp
theorem S3 {x y z:Nat} {i:Nat} (h:i < 3):atI [D.int x, .int y, .int z] (i:Nat)=some (.int ([x,y,z].getD i 0:Nat)):=by
 match i,h with
 | 0,_=>rfl
 | 1,_=>rfl
 | 2,_=>rfl
theorem Cv {k:Nat} (hk : 3<=k) {n m p a b c:Nat} (hn : 1<=n/\n<=9) (hm : 1<=m/\m<=9) (hp : 1<=p/\p<=9) (ha : 1<=a/\a<=9) (hb : 1<=b/\b<=9) (hc : 1<=c/\c<=9) {ps us:List Pr} (lps:∀ u∈ps,Ln n m p u) (lus:∀ u∈us,Ln a b c u) (dps:∀ u∈ps,Bd u) (dus:∀ u∈us,Bd u) (O:ps.length<=300) (R:us.length<=300) {po pi:Addr} {M:Mem} {Q:QD} (ho:M po=some (.lst (ps.map prD))) (hi:M pi=some (.lst (us.map prD)))
 (q:∀ pf M',Ge M M'->M pf=none->M' pf=some (.lst ((bJ n m p a b c ps us).map prD))->Q (.tup [.int (n*a*(m*b):Nat), .int (m*b*(p*c):Nat), .int (n*a*(p*c):Nat), .ref pf]) M') :
 phi tab k 5 [.tup [.int (n*m:Nat), .int (m*p:Nat), .int (n*p:Nat), .ref po], .tup [.int n, .int m, .int p], .tup [.int (a*b:Nat), .int (b*c:Nat), .int (a*c:Nat), .ref pi], .tup [.int a, .int b, .int c]] M Q:=by
 have mm:∀ {a b c d:Nat},a<=c->b<=d->a*b<=c*d:=fun h1 h2=>Nat.mul_le_mul h1 h2
 have z1:n*m<=9*9:=mm hn.2 hm.2
 have z2:m*p<=9*9:=mm hm.2 hp.2
 have z3:n*p<=9*9:=mm hn.2 hp.2
 refine aq (by lia) rfl rfl (ρ := [some _,some _,some _,some _,none,none,none,none,none]) rfl ?_
 unfold d5 L2.Mi.K17.b5
 walk_at "st"
 refine uA (s:=ai 3) (sp:=ai 2) (fp := 0) rfl rfl (by lia) (by lia) dps dus (by lia) (by lia) ho hi fun pw M1 g1 D8 e1=>⟨_,rfl, ?_⟩
 rw [Nat.mul_mul_mul_comm n m a b,Nat.mul_mul_mul_comm m p b c,Nat.mul_mul_mul_comm n p a c]
 walk_at "st"
 refine ao (f:=fun q:Nat×Nat=>D.tup [.int (q.1:Nat), .int (q.2:Nat)]) (ys := [(0,1),(1,2),(0,2)]) (I:=fun l ρ M' acc=>(∃ o0 S, ρ = [o0,S,some (.tup [.int n, .int m, .int p]),some (.tup [.int a, .int b, .int c])])/\Ge M1 M' /\ ∃ qs:List (Addr×Nat×Nat),qs.map (·.2)=l/\acc=qs.map (fun q => .ref q.1) /\ ∀ q∈qs,M' q.1=some (.lst (nsD (bp ([n,m,p].getD q.2.1 0) ([n,m,p].getD q.2.2 0) ([a,b,c].getD q.2.1 0) ([a,b,c].getD q.2.2 0))))) rfl ⟨⟨_,_,rfl⟩,Ge.refl,[],rfl,rfl,fun _ h=>by cases h⟩ (fun _ _ _ _ _=>by first | rfl | trivial) ?_ ?_
 ·rintro l x r ρ M2 acc e ⟨⟨o0,S,rfl⟩,g2,qs,rfl,rfl,F⟩
  refine ⟨_,rfl,fun N' U => ?_⟩
  have G:=ak e
  rw [List.length_map] at G
  have hx:x.1 < 3/\x.2 < 3:=by
   have hm:x∈[((0:Nat),(1:Nat)),(1,2),(0,2)]:=by rw [e];simp
   simp only [List.mem_cons,List.not_mem_nil,or_false] at hm
   rcases hm with rfl | rfl | rfl <;> exact ⟨by decide,by decide⟩
  have bnd:∀ {x y z i:Nat},x<=9->y<=9->z<=9->i < 3->[x,y,z].getD i 0<=9:=fun {x y z i} h1 h2 h3 h=>by
   match i,h with
   | 0,_=>exact h1
   | 1,_=>exact h2
   | 2,_=>exact h3
  walk_at "wp"
  refine ⟨_,S3 hx.1,_,S3 hx.2,_,S3 hx.1,_,S3 hx.2, ?_⟩
  refine xg (by lia) (bnd hn.2 hm.2 hp.2 hx.1) (bnd hn.2 hm.2 hp.2 hx.2) (bnd ha.2 hb.2 hc.2 hx.1) (bnd ha.2 hb.2 hc.2 hx.2) fun pb Y => ?_
  have g3:=Ge.new (o := .lst (nsD (bp ([n,m,p].getD x.1 0) ([n,m,p].getD x.2 0) ([a,b,c].getD x.1 0) ([a,b,c].getD x.2 0)))) Y
  refine ⟨by rw [List.length_map,sizeLine_eq];simp at G;lia,U _ _ _ ⟨⟨_,_,rfl⟩,g2.trans g3,qs++[(pb,x)],by simp,by simp,fun y hy => ?_⟩⟩
  rcases List.mem_append.mp hy with h | h
  ·exact g3 _ _ (F y h)
  ·simp at h;subst h;exact ad
 ·rintro ρ M2 acc ⟨⟨o0,S,rfl⟩,g2,qs,J,rfl,F⟩ pl hpl
  obtain ⟨j,B,p2,rfl⟩:∃ j B p2,qs=[(j,0,1),(B,1,2),(p2,0,2)]:=by
   have Z:qs.length=3:=by simpa using congrArg List.length J
   clear F
   match qs,Z,J with
   | [x,y,z],_,h =>
    obtain ⟨j,x⟩:=x
    obtain ⟨B,y⟩:=y
    obtain ⟨p2,z⟩:=z
    simp at h
    obtain ⟨rfl,rfl,rfl⟩:=h
    exact ⟨j,B,p2,rfl⟩
  have g3:=Ge.new (o := .lst ([(j,0,1),(B,1,2),(p2,0,2)].map fun q:Addr×Nat×Nat=>D.ref q.1)) hpl
  have el:=ad (M:=M2) (a:=pl) (o := .lst ([(j,0,1),(B,1,2),(p2,0,2)].map fun q:Addr×Nat×Nat=>D.ref q.1))
  generalize ag M2 pl (.lst ([(j,0,1),(B,1,2),(p2,0,2)].map fun q:Addr×Nat×Nat=>D.ref q.1))=M3 at g3 el ⊢
  have q0:=g3 _ _ (F _ (by simp:(j,0,1)∈_))
  have q1:=g3 _ _ (F _ (by simp:(B,1,2)∈_))
  have q2:=g3 _ _ (F _ (by simp:(p2,0,2)∈_))
  have g3:=g2.trans g3
  have w1:n*a*(m*b)<=(9*9)*(9*9):=mm (mm hn.2 ha.2) (mm hm.2 hb.2)
  have w2:m*b*(p*c)<=(9*9)*(9*9):=mm (mm hm.2 hb.2) (mm hp.2 hc.2)
  have w3:n*a*(p*c)<=(9*9)*(9*9):=mm (mm hn.2 ha.2) (mm hp.2 hc.2)
  have D9:ps.length*us.length<=300*300:=mm O R
  walk_at "st"
  refine ⟨by rw [sizeLine_eq];lia, ?_⟩
  refine ut (s:=ai 5) (fm := 2) rfl (wV (s:=ai 4) rfl (by lia)) (by lia) (by rw [hW];lia) (by lia) (by lia) (by lia) rA rA rA (g3 _ _ e1) el q0 q1 q2 fun pf M4 g4 D7 L => ?_
  have L:M4 pf=some (.lst (((cz ps us).map (mvP (bp n m a b) (bp m p b c) (bp n p a c) (n*a*(m*b)) (m*b*(p*c)) (n*a*(p*c)))).map prD)):=L
  rw [zM ⟨hn.1,hm.1,hp.1⟩ ⟨ha.1,hb.1,hc.1⟩ lps lus] at L
  exact ⟨by rw [sizeLine_eq];lia,q pf M4 (g1.trans (g3.trans g4)) (pU (g1.trans g3) D7) L⟩
theorem rE {l:List Int} {n:Nat} (h:n < l.length):l[n]? = some (gz l (n:Nat)):=by
 unfold gz
 rw [if_neg (by lia),Int.toNat_natCast,List.getD_eq_getElem?_getD,List.getElem?_eq_getElem h];rfl
noncomputable def pdI (a b:List Int) (C h w:Nat) (l:List Nat):List Int:=l.flatMap fun r=>(List.range (C*w)).map fun c=>bkv a b C h w r c
theorem zS {a b:List Int} {C h w:Nat} {l:List Nat}:(pdI a b C h w l).length=l.length*(C*w):=fP fun x=>by simp
theorem jN {k:Nat} (hk : 1<=k) {x y:List Int} {R C h w:Nat} (hx:x.length=R*C) (hy:y.length=h*w) (wx:Within 100 x) (hR:R<=9) (hC : 1<=C/\C<=9) (U : 1<=h/\h<=9) (hw : 1<=w/\w<=9) {M:Mem} {Q:QD} (q:∀ M',Ge M M'->Q (.tup ((bl x y R C h w).map .int)) M'):phi tab k 22 [.tup (x.map .int), .tup (y.map .int), .tup [.int R, .int C, .int h, .int w]] M Q:=by
 have mm:∀ {a b c d:Nat},a<=c->b<=d->a*b<=c*d:=fun h1 h2=>Nat.mul_le_mul h1 h2
 have z1:R*h<=9*9:=mm hR U.2
 have z2:C*w<=9*9:=mm hC.2 hw.2
 refine aq (by lia) rfl rfl (ρ := [some _,some _,some _,none,none,none,none,none,none,none,none,none]) rfl ?_
 unfold d22 L2.Mi.K17.b22
 walk_at "st"
 walk_at "st"
 refine ⟨by rw [sizeLine_eq];lia,fun pf B => ?_⟩
 have g1:=Ge.new (o := .lst []) B
 have e1:=ad (M:=M) (a:=pf) (o := .lst [])
 generalize ag M pf (.lst [])=M1 at g1 e1 ⊢
 walk_at "st"
 rw [<- Int.natCast_mul]
 refine ⟨aL (by lia),by lia,by lia, ?_⟩
 rw [Int.toNat_natCast]
 refine aP (I:=fun l ρ M'=>(∃ J z j n, ρ = [some (.tup (x.map .int)),some (.tup (y.map .int)),some (.tup [.int R, .int C, .int h, .int w]),some (.int R),some (.int C),some (.int h),some (.int w),some (.ref pf),J,z,j,n])/\Ge M M'/\M' pf=some (.lst ((pdI x y C h w l).map .int))) aE ⟨⟨_,_,_,_,rfl⟩,g1,e1⟩ (fun _ _ _ _=>trivial) ?_ ?_
 ·rintro l r l' ρ M2 e ⟨⟨J,z,j,n,rfl⟩,g2,e2⟩
  refine ⟨_,rfl,fun F hF => ?_⟩
  have hr:=ak e
  rw [List.length_range] at hr
  have L:r < R*h:=List.mem_range.mp (by rw [e];simp)
  walk_at "st"
  rw [<- Int.natCast_mul]
  refine ⟨aL (by lia),by lia,by lia, ?_⟩
  rw [Int.toNat_natCast]
  refine aP (I:=fun t ρ M'=>(∃ z j n, ρ = [some (.tup (x.map .int)),some (.tup (y.map .int)),some (.tup [.int R, .int C, .int h, .int w]),some (.int R),some (.int C),some (.int h),some (.int w),some (.ref pf),some (.int (r:Nat)),z,j,n])/\Ge M M'/\M' pf=some (.lst ((pdI x y C h w l++t.map fun c=>bkv x y C h w r c).map .int))) aE ⟨⟨_,_,_,rfl⟩,g2,by simpa using e2⟩ (fun _ _ _ _=>trivial) ?_ ?_
  ·rintro t c t' ρ M3 e' ⟨⟨z,j,n,rfl⟩,g3,G⟩
   refine ⟨_,rfl,fun F2 O => ?_⟩
   have hc:=ak e'
   rw [List.length_range] at hc
   have S:c < C*w:=List.mem_range.mp (by rw [e'];simp)
   have Y:r / h < R:=bo L
   have q2:c / w < C:=bo S
   have Z:r % h < h:=Nat.mod_lt _ U.1
   have q4:c % w < w:=Nat.mod_lt _ hw.1
   have i1:=aR Y q2
   have i2:=aR Z q4
   walk_at "st"
   rw [<- Int.natCast_ediv, <- Int.natCast_mul, <- Int.natCast_ediv, <- Int.natCast_add]
   refine ⟨by lia,by lia,aL ⟨by lia,Int.ofNat_lt.mpr (Nat.lt_of_lt_of_le Y (by lia))⟩,by lia,by lia, ?_⟩
   walk_at "st"
   rw [<- Int.natCast_emod, <- Int.natCast_mul, <- Int.natCast_emod, <- Int.natCast_add]
   refine ⟨by lia,aL ⟨by lia,Int.ofNat_lt.mpr (Nat.lt_of_lt_of_le Z (by lia))⟩,by lia, ?_⟩
   walk_at "st"
   have a1:atI (x.map D.int) ((r / h*C+c / w:Nat):Int)=some (.int (gz x ((r / h*C+c / w:Nat):Int))):=dw (by rw [List.getElem?_map,rE (by rw [hx];exact i1)];rfl)
   have a2:atI (y.map D.int) ((r % h*w+c % w:Nat):Int)=some (.int (gz y ((r % h*w+c % w:Nat):Int))):=dw (by rw [List.getElem?_map,rE (by rw [hy];exact i2)];rfl)
   have wv:=wx _ (List.mem_of_getElem? (rE (by rw [hx];exact i1)))
   refine ⟨⟨_,G⟩,_,a1,_,a2,aL (by lia), ?_⟩
   refine ⟨pf,_,_,rfl,rfl,G, ?_,O _ _ ⟨⟨_,_,_,rfl⟩,g3.upd B, ?_⟩⟩
   ·rw [List.length_map,List.length_append,List.length_map,zS,sizeLine_eq]
    have:l.length*(C*w)<=81*81:=mm (by lia) (by lia)
    lia
   ·rw [ad];simp [bkv]
  ·rintro ρ M3 ⟨⟨z,j,n,rfl⟩,g3,G⟩
   dsimp only
   walk_at "wp"
   exact hF _ _ ⟨⟨_,_,_,_,rfl⟩,g3,by rw [G];simp [pdI,List.flatMap_append]⟩
 ·rintro ρ M2 ⟨⟨J,z,j,n,rfl⟩,g2,e2⟩
  dsimp only
  walk_at "st"
  exact ⟨_,_,rfl,ae e2,q _ g2⟩
theorem BG {k:Nat} (hk : 2<=k) {n m p a b c:Nat} (hn : 1<=n/\n<=9) (hm : 1<=m/\m<=9) (hp : 1<=p/\p<=9) (ha : 1<=a/\a<=9) (hb : 1<=b/\b<=9) (hc : 1<=c/\c<=9) {ps us:List Pr} (lps:∀ u∈ps,Ln n m p u) (lus:∀ u∈us,Ln a b c u) (dps:∀ u∈ps,Bd u) (Dd:ps.length<=300) (Y:us.length<=300) {x0 x1 x2 y0 y1 y2:D} {po pi:Addr} {M:Mem} {Q:QD} (ho:M po=some (.lst (ps.map prD))) (hi:M pi=some (.lst (us.map prD)))
 (q:∀ pf M',Ge M M'->M pf=none->M' pf=some (.lst ((bJ n m p a b c ps us).map prD))->Q (.tup [.int (n*a*(m*b):Nat), .int (m*b*(p*c):Nat), .int (n*a*(p*c):Nat), .ref pf]) M') :
 phi tab k 23 [.tup [x0,x1,x2, .ref po], .tup [.int n, .int m, .int p], .tup [y0,y1,y2, .ref pi], .tup [.int a, .int b, .int c]] M Q:=by
 have mm:∀ {a b c d:Nat},a<=c->b<=d->a*b<=c*d:=fun h1 h2=>Nat.mul_le_mul h1 h2
 refine aq (by lia) rfl rfl (ρ := [some _,some _,some _,some _,none,none,none,none,none,none,none,none,none]) rfl ?_
 unfold d23 L2.Mi.K17.b23
 walk_at "st"
 walk_at "st"
 walk_at "st"
 have s4 : 0+1+1+1+1<=sizeLine:=by rw [sizeLine_eq];lia
 refine ⟨s4,s4,s4,by rw [sizeLine_eq];lia,fun pd Z => ?_⟩
 have g1:=Ge.new (o := .lst [.tup [.int n, .int m, .int a, .int b], .tup [.int m, .int p, .int b, .int c], .tup [.int n, .int p, .int a, .int c]]) Z
 have ed:=ad (M:=M) (a:=pd) (o := .lst [.tup [.int n, .int m, .int a, .int b], .tup [.int m, .int p, .int b, .int c], .tup [.int n, .int p, .int a, .int c]])
 generalize ag M pd (.lst [.tup [.int n, .int m, .int a, .int b], .tup [.int m, .int p, .int b, .int c], .tup [.int n, .int p, .int a, .int c]])=M1 at g1 ed ⊢
 walk_at "st"
 refine ⟨by rw [sizeLine_eq];lia,fun pf j => ?_⟩
 have g2:=Ge.new (o := .lst []) j
 have ef:=ad (M:=M1) (a:=pf) (o := .lst [])
 generalize ag M1 pf (.lst [])=M2 at g2 ef ⊢
 have ed:=g2 _ _ ed
 have G:M pf=none:=pU g1 j
 have g2:=g1.trans g2
 have D7:pd≠pf:=fun z=>by rw [<- z] at j;rw [j] at *;simp_all
 walk_at "st"
 refine ⟨_,rfl,_,ae (g2 _ _ ho), ?_⟩
 refine aP (f:=prD) (ys:=ps) (I:=fun l ρ M'=>(∃ J, ρ = [some (.tup [x0,x1,x2, .ref po]),some (.tup [.int n, .int m, .int p]),some (.tup [y0,y1,y2, .ref pi]),some (.tup [.int a, .int b, .int c]),some (.int n),some (.int m),some (.int p),some (.int a),some (.int b),some (.int c),some (.ref pd),some (.ref pf),J])/\Ge M M'/\M' pd=some (.lst [.tup [.int n, .int m, .int a, .int b], .tup [.int m, .int p, .int b, .int c], .tup [.int n, .int p, .int a, .int c]])/\M' pf=some (.lst ((bJ n m p a b c l us).map prD))) rfl ⟨⟨_,rfl⟩,g2,ed,ef⟩ (fun _ _ _ h=>ae (h.2.1 _ _ ho)) ?_ ?_
 ·rintro l u r ρ M3 e ⟨⟨J,rfl⟩,g3,ed,ef⟩
  refine ⟨_,rfl,fun F hF => ?_⟩
  have De:=ak e
  have hu:u∈ps:=by rw [e];simp
  obtain ⟨a0,a1,a2⟩:=lps u hu
  have du:=dps u hu
  walk_at "st"
  refine ⟨⟨_,ef⟩,_,rfl,_,ae (g3 _ _ hi), ?_⟩
  refine ao (f:=prD) (ys:=us) (I:=fun l' ρ M' acc=>(∃ o0, ρ = [o0,some (prD u),some (.ref pd)])/\Ge M3 M'/\acc=(l'.map (blP n m p a b c u)).map prD) rfl ⟨⟨_,rfl⟩,Ge.refl,rfl⟩ (fun _ _ _ _ h=>ae (h.2.1 _ _ (g3 _ _ hi))) ?_ ?_
  ·rintro l' v r' ρ S acc e' ⟨⟨o0,rfl⟩,U,rfl⟩
   refine ⟨_,rfl,fun N' D8 => ?_⟩
   have Db:=ak e'
   obtain ⟨c0,c1,c2⟩:=lus v (by rw [e'];simp)
   have D9:=U _ _ ed
   walk_at "wp"
   refine ⟨by lia,by lia, ?_⟩
   refine ao (f:=fun w:Nat×List Int=>D.int (w.1:Nat)) (ys := [(0,bl u.1 v.1 n m a b),(1,bl u.2.1 v.2.1 m p b c),(2,bl u.2.2 v.2.2 n p a c)]) (I:=fun l2 ρ M' acc=>(∃ o0, ρ = [o0,some (prD u),some (prD v),some (.ref pd)])/\Ge S M'/\acc=l2.map fun w=>D.tup (w.2.map .int)) rfl ⟨⟨_,rfl⟩,Ge.refl,rfl⟩ (fun _ _ _ _ _=>trivial) ?_ ?_
   ·rintro l2 w r2 ρ M5 acc e2 ⟨⟨o0,rfl⟩,B,rfl⟩
    refine ⟨_,rfl,fun N2 Da => ?_⟩
    have Dc:l2.length < 3:=ak e2
    have L:=B _ _ D9
    have hw:w∈[((0:Nat),bl u.1 v.1 n m a b),(1,bl u.2.1 v.2.1 m p b c),(2,bl u.2.2 v.2.2 n p a c)]:=by rw [e2];simp
    simp only [List.mem_cons,List.not_mem_nil,or_false] at hw
    have fin:∀ (w':Nat×List Int) (R:Mem),w'=w->Ge M5 R->N2 ([some (.int (w.1:Nat)),some (prD u),some (prD v),some (.ref pd)]) R ((l2.map fun w=>D.tup (w.2.map .int))++[.tup (w'.2.map .int)]):=fun w' R ew O=>by
     subst ew
     exact Da _ _ _ ⟨⟨_,rfl⟩,B.trans O,by simp⟩
    rcases hw with rfl | rfl | rfl
    ·walk_at "wp"
     refine ⟨_,_,rfl,rfl,⟨_,_,rfl,rfl,aA L (by rfl) ?_⟩⟩
     exact jN (by lia) a0 c0 du.e0 hn.2 hm ha hb fun R O=>⟨by rw [List.length_map,sizeLine_eq];lia,fin _ _ rfl O⟩
    ·walk_at "wp"
     refine ⟨_,_,rfl,rfl,⟨_,_,rfl,rfl,aA L (by rfl) ?_⟩⟩
     exact jN (by lia) a1 c1 du.e1 hm.2 hp hb hc fun R O=>⟨by rw [List.length_map,sizeLine_eq];lia,fin _ _ rfl O⟩
    ·walk_at "wp"
     refine ⟨_,_,rfl,rfl,⟨_,_,rfl,rfl,aA L (by rfl) ?_⟩⟩
     exact jN (by lia) a2 c2 du.e2 hn.2 hp ha hc fun R O=>⟨by rw [List.length_map,sizeLine_eq];lia,fin _ _ rfl O⟩
   ·rintro ρ M5 acc ⟨⟨o0,rfl⟩,B,rfl⟩ pt hpt
    refine ⟨_,_,rfl,ae ad,by rw [List.length_map,List.length_map,sizeLine_eq];lia, ?_⟩
    exact D8 _ _ _ ⟨⟨_,rfl⟩,U.trans (B.trans (Ge.new hpt)),by simp [prD,blP]⟩
  ·rintro ρ S acc ⟨⟨o0,rfl⟩,U,rfl⟩ pe hpe
   have B:=U.trans (Ge.new (o := .lst ((us.map (blP n m p a b c u)).map prD)) hpe)
   have ee:=ad (M:=S) (a:=pe) (o := .lst ((us.map (blP n m p a b c u)).map prD))
   generalize ag S pe (.lst ((us.map (blP n m p a b c u)).map prD))=M5 at B ee ⊢
   have Df:l.length*us.length<=300*300:=mm (by lia) Y
   refine ⟨pf,pe,_,_,rfl,rfl,B _ _ ef,ee,by rw [List.length_map,List.length_map,List.length_map,fh,sizeLine_eq];lia, ?_⟩
   refine hF _ _ ⟨⟨_,rfl⟩,(g3.trans B).upd G, ?_, ?_⟩
   ·rw [aK D7];exact B _ _ ed
   ·rw [ad];simp [bJ,List.flatMap_append]
 ·rintro ρ M3 ⟨⟨J,rfl⟩,g3,ed,ef⟩
  dsimp only
  walk_at "st"
  rw [<- Int.natCast_mul, <- Int.natCast_mul, <- Int.natCast_mul]
  have z1:n*a<=9*9:=mm hn.2 ha.2
  have z2:m*b<=9*9:=mm hm.2 hb.2
  refine ⟨aL (by lia),aL (by lia),aL (by lia),by rw [sizeLine_eq];lia, ?_⟩
  refine zQ (by lia) (by lia) (by lia) ?_
  exact ⟨by rw [sizeLine_eq];lia, .inr trivial,by rw [sizeLine_eq];simp,q pf _ g3 G ef⟩
structure Sz (n m p a b c:Nat):Prop where
 hn : 1<=n/\n<=9
 hm : 1<=m/\m<=9
 hp : 1<=p/\p<=9
 ha : 1<=a/\a<=9
 hb : 1<=b/\b<=9
 hc : 1<=c/\c<=9
 hx:n*(m*p)<=45
 hy:a*(b*c)<=45
 hz:n*(m*p)*(a*(b*c))<=108
 hw:n*a<=9/\m*b<=9/\p*c<=9
theorem Sz.swap {n m p a b c:Nat} (h:Sz n m p a b c):Sz a b c n m p:=⟨h.ha,h.hb,h.hc,h.hn,h.hm,h.hp,h.hy,h.hx,by rw [Nat.mul_comm];exact h.hz,by rw [Nat.mul_comm a,Nat.mul_comm b,Nat.mul_comm c];exact h.hw⟩
theorem rF {x y z:D} {v:Int} (h0 : 0<=v) (h1:v < 3):atI [x,y,z] v=some x∨atI [x,y,z] v=some y∨atI [x,y,z] v=some z:=by
 have:v=0∨v=1∨v=2:=by lia
 rcases this with rfl | rfl | rfl
 ·exact .inl rfl
 ·exact .inr (.inl rfl)
 ·exact .inr (.inr rfl)
theorem cH {v:Int} (h0 : 0<=v) (h1:v < 3):∃ n:Nat,1+v=n/\1<=n/\n<=3:=⟨(1+v).toNat,by lia,by lia,by lia⟩
noncomputable abbrev tD (x y z:Nat):D := .tup [.int x, .int y, .int z]
theorem rG {k:Nat} (hk : 3<=k) {bx:Addr} {M:Mem} {Q:QD} (hb:Box bx M)
 (q:∀ (n m p a b c:Nat) M',Sz n m p a b c->Bx bx M M'->Q (.tup [tD n m p,tD a b c]) M'):phi tab k 21 [.ref bx] M Q:=by
 have mm:∀ {a b c d:Nat},a<=c->b<=d->a*b<=c*d:=fun h1 h2=>Nat.mul_le_mul h1 h2
 have s3 : 0+1+1+1<=sizeLine:=by rw [sizeLine_eq];lia
 refine aq (by lia) rfl rfl (ρ := [some _,none,none]) rfl ?_
 unfold d21 L2.Mi.K17.b21
 walk_at "st"
 refine aQ (by lia) hb (by decide) (by decide) fun v1 M1 a1 a2 x1 => ?_
 walk_at "wp"
 refine aQ (by lia) x1.box (by decide) (by decide) fun v2 M2 b1 b2 x2 => ?_
 walk_at "wp"
 refine aQ (by lia) x2.box (by decide) (by decide) fun v3 M3 c1 c2 x3 => ?_
 walk_at "wp"
 refine ⟨s3, ?_⟩
 walk_at "st"
 refine aQ (by lia) x3.box (by decide) (by decide) fun v4 M4 d1 d2 x4 => ?_
 walk_at "wp"
 refine aQ (by lia) x4.box (by decide) (by decide) fun v5 M5 e1 e2 x5 => ?_
 walk_at "wp"
 refine aQ (by lia) x5.box (by decide) (by decide) fun v6 M6 f1 f2 Z => ?_
 walk_at "wp"
 refine ⟨s3, ?_⟩
 have Z:=(((((x1.trans x2).trans x3).trans x4).trans x5).trans Z)
 obtain ⟨n,hn,n1,n2⟩:=cH a1 a2
 obtain ⟨m,hm,m1,m2⟩:=cH b1 b2
 obtain ⟨p,hp,p1,p2⟩:=cH c1 c2
 obtain ⟨a,ha,Db,S⟩:=cH d1 d2
 obtain ⟨b,D7,Dc,U⟩:=cH e1 e2
 obtain ⟨c,hc,Dd,D8⟩:=cH f1 f2
 rw [hn,hm,hp,ha,D7,hc]
 have y1:n*(m*p)<=3*(3*3):=mm n2 (mm m2 p2)
 have y2:a*(b*c)<=3*(3*3):=mm S (mm U D8)
 refine cG (fun ρ M' => ∃ a b c:Nat, ρ = [some (.ref bx),some (tD n m p),some (tD a b c)]/\Sz n m p a b c/\Bx bx M M') (fun R J => ?_) ?_
 ·have z1:n*m<=3*3:=mm n2 m2
  have z2:n*m*p<=3*3*3:=mm z1 p2
  have z3:n*m*p*a<=3*3*3*3:=mm z2 S
  have z4:n*m*p*a*b<=3*3*3*3*3:=mm z3 U
  walk_at "wp"
  refine ⟨_,rfl,_,rfl,aL (by lia),_,rfl, ?_⟩
  rw [<- Int.natCast_mul]
  refine ⟨aL (by lia),_,rfl, ?_⟩
  rw [<- Int.natCast_mul]
  refine ⟨aL (by lia),_,rfl, ?_⟩
  rw [<- Int.natCast_mul]
  refine ⟨aL (by lia),_,rfl, ?_⟩
  rw [<- Int.natCast_mul]
  refine ⟨aL (by lia), ?_⟩
  rw [<- Int.natCast_mul]
  walk_at "wp"
  by_cases hg:(108:Int) < ((n*m*p*a*b*c:Nat):Int)
  ·rw [if_pos (by first | exact hg | simpa using hg),bH]
   walk_at "wp"
   refine ⟨s3,s3,s3,s3,fun pl F => ?_⟩
   have Y:=Z.ge (Ge.new (o := .lst [.tup [.int 2, .int 1, .int 1], .tup [.int 1, .int 1, .int 2], .tup [.int 1, .int 2, .int 1]]) F)
   have el:=ad (M:=M6) (a:=pl) (o := .lst [.tup [.int 2, .int 1, .int 1], .tup [.int 1, .int 1, .int 2], .tup [.int 1, .int 2, .int 1]])
   generalize ag M6 pl (.lst [.tup [.int 2, .int 1, .int 1], .tup [.int 1, .int 1, .int 2], .tup [.int 1, .int 2, .int 1]])=M7 at Y el ⊢
   refine aQ (by lia) Y.box (by decide) (by decide) fun v M8 v0 v1 G => ?_
   have I:pl≠bx:=fun w=>by obtain ⟨_,_,_,e⟩:=Z.box;rw [<- w,F] at e;cases e
   have el:=G.keep pl _ I el
   have G:=Y.trans G
   have sz:∀ {a b c:Nat},(1<=a/\a<=3)->(1<=b/\b<=3)->(1<=c/\c<=3)->a*(b*c)<=2->Sz n m p a b c:=fun h1 h2 h3 h4=>⟨by lia,by lia,by lia,by lia,by lia,by lia,by lia,by lia,Nat.le_trans (mm y1 h4) (by decide),mm n2 h1.2,mm m2 h2.2,mm p2 h3.2⟩
   rcases rF (x := .tup [.int 2, .int 1, .int 1]) (y := .tup [.int 1, .int 1, .int 2]) (z := .tup [.int 1, .int 2, .int 1]) v0 v1 with h | h | h
   ·exact aA el h (J _ _ ⟨2,1,1,rfl,sz (by decide) (by decide) (by decide) (by decide),G⟩)
   ·exact aA el h (J _ _ ⟨1,1,2,rfl,sz (by decide) (by decide) (by decide) (by decide),G⟩)
   ·exact aA el h (J _ _ ⟨1,2,1,rfl,sz (by decide) (by decide) (by decide) (by decide),G⟩)
  ·rw [if_neg (by first | exact hg | simpa using hg)]
   have hg:n*m*p*a*b*c<=108:=by lia
   exact J _ _ ⟨a,b,c,rfl,⟨by lia,by lia,by lia,by lia,by lia,by lia,by lia,by lia,by simpa only [Nat.mul_assoc] using hg,mm n2 S,mm m2 U,mm p2 D8⟩,Z⟩
 clear x1 x2 x3 x4 x5 Z y1 y2
 rintro ρ M7 ⟨a,b,c,rfl,O,Y⟩
 clear D7 hc ha
 refine cG (fun ρ M' => ∃ n m p a b c:Nat, ρ = [some (.ref bx),some (tD n m p),some (tD a b c)]/\Sz n m p a b c/\Bx bx M M') (fun R J => ?_) ?_
 ·walk_at "wp"
  refine aQ (by lia) Y.box (by decide) (by decide) fun w M8 _ _ G => ?_
  have G:=Y.trans G
  walk_at "wp"
  by_cases hw:w=0
  ·rw [if_pos (by simp [hw]),bH]
   walk_at "wp"
   refine ⟨s3,s3,s3,s3,s3,fun pl F => ?_⟩
   have L:=G.ge (Ge.new (o := .lst [.tup [.int 2, .int 2, .int 2], .tup [.int 1, .int 2, .int 1], .tup [.int 2, .int 1, .int 2]]) F)
   have el:=ad (M:=M8) (a:=pl) (o := .lst [.tup [.int 2, .int 2, .int 2], .tup [.int 1, .int 2, .int 1], .tup [.int 2, .int 1, .int 2]])
   have I:pl≠bx:=fun w=>by obtain ⟨_,_,_,e⟩:=G.box;rw [<- w,F] at e;cases e
   generalize ag M8 pl (.lst [.tup [.int 2, .int 2, .int 2], .tup [.int 1, .int 2, .int 1], .tup [.int 2, .int 1, .int 2]])=M9 at L el ⊢
   refine aQ (by lia) L.box (by decide) (by decide) fun v D9 v0 v1 j => ?_
   have el:=j.keep pl _ I el
   have j:=L.trans j
   rcases rF (x := .tup [.int 2, .int 2, .int 2]) (y := .tup [.int 1, .int 2, .int 1]) (z := .tup [.int 2, .int 1, .int 2]) v0 v1 with h | h | h
   ·exact aA el h (J _ _ ⟨2,2,2,2,2,2,rfl,by constructor <;> decide,j⟩)
   ·exact aA el h (J _ _ ⟨2,2,2,1,2,1,rfl,by constructor <;> decide,j⟩)
   ·exact aA el h (J _ _ ⟨2,2,2,2,1,2,rfl,by constructor <;> decide,j⟩)
  ·rw [if_neg (by simp [hw])]
   exact J _ _ ⟨n,m,p,a,b,c,rfl,O,G⟩
 clear Y O
 rintro ρ M8 ⟨n,m,p,a,b,c,rfl,O,G⟩
 refine cG (fun ρ M' => ∃ n m p a b c:Nat, ρ = [some (.ref bx),some (tD n m p),some (tD a b c)]/\Sz n m p a b c/\Bx bx M M') (fun R J => ?_) ?_
 ·walk_at "wp"
  refine aQ (by lia) G.box (by decide) (by decide) fun w M9 _ _ L => ?_
  have L:=G.trans L
  walk_at "wp"
  by_cases hw:w=0
  ·rw [if_pos (by simp [hw]),bH]
   walk_at "wp"
   refine ⟨s3,s3,s3,s3,fun pl F => ?_⟩
   have j:=L.ge (Ge.new (o := .lst [.tup [.int 9, .int 1, .int 3], .tup [.int 2, .int 9, .int 2], .tup [.int 1, .int 5, .int 9]]) F)
   have el:=ad (M:=M9) (a:=pl) (o := .lst [.tup [.int 9, .int 1, .int 3], .tup [.int 2, .int 9, .int 2], .tup [.int 1, .int 5, .int 9]])
   have I:pl≠bx:=fun w=>by obtain ⟨_,_,_,e⟩:=L.box;rw [<- w,F] at e;cases e
   generalize ag M9 pl (.lst [.tup [.int 9, .int 1, .int 3], .tup [.int 2, .int 9, .int 2], .tup [.int 1, .int 5, .int 9]])=D9 at j el ⊢
   refine aQ (by lia) j.box (by decide) (by decide) fun v Da v0 v1 B => ?_
   have el:=B.keep pl _ I el
   have B:=j.trans B
   rcases rF (x := .tup [.int 9, .int 1, .int 3]) (y := .tup [.int 2, .int 9, .int 2]) (z := .tup [.int 1, .int 5, .int 9]) v0 v1 with h | h | h
   ·exact aA el h ⟨s3,J _ _ ⟨9,1,3,1,1,1,rfl,by constructor <;> decide,B⟩⟩
   ·exact aA el h ⟨s3,J _ _ ⟨2,9,2,1,1,1,rfl,by constructor <;> decide,B⟩⟩
   ·exact aA el h ⟨s3,J _ _ ⟨1,5,9,1,1,1,rfl,by constructor <;> decide,B⟩⟩
  ·rw [if_neg (by simp [hw])]
   exact J _ _ ⟨n,m,p,a,b,c,rfl,O,L⟩
 clear G O
 rintro ρ M9 ⟨n,m,p,a,b,c,rfl,O,L⟩
 walk_at "st"
 have s2 : 0+1+1<=sizeLine:=by rw [sizeLine_eq];lia
 refine ⟨s2,s2,s2,fun pl F => ?_⟩
 have j:=L.ge (Ge.new (o := .lst [.tup [tD n m p,tD a b c], .tup [tD a b c,tD n m p]]) F)
 have el:=ad (M:=M9) (a:=pl) (o := .lst [.tup [tD n m p,tD a b c], .tup [tD a b c,tD n m p]])
 have I:pl≠bx:=fun w=>by obtain ⟨_,_,_,e⟩:=L.box;rw [<- w,F] at e;cases e
 generalize ag M9 pl (.lst [.tup [tD n m p,tD a b c], .tup [tD a b c,tD n m p]])=D9 at j el ⊢
 refine aQ (by lia) j.box (by decide) (by decide) fun v Da v0 v1 B => ?_
 have el:=B.keep pl _ I el
 have B:=j.trans B
 have:v=0∨v=1:=by lia
 rcases this with rfl | rfl
 ·exact aA el rfl (q _ _ _ _ _ _ _ O B)
 ·exact aA el rfl (q _ _ _ _ _ _ _ O.swap B)
structure H6 (po pi pk p1 p2 pd:Addr) (ps us ds:List Pr) (M:Mem):Prop where
 o:M po=some (.lst (ps.map prD))
 i:M pi=some (.lst (us.map prD))
 k:M pk=some (.lst [.ref p1, .ref p2])
 a:M p1=some (.lst (ps.map prD))
 b:M p2=some (.lst (us.map prD))
 d:M pd=some (.lst (ds.map prD))
theorem H6.ge {po pi pk j p2 pd:Addr} {ps us ds:List Pr} {M M':Mem} (h:H6 po pi pk j p2 pd ps us ds M) (g:Ge M M'):H6 po pi pk j p2 pd ps us ds M':=⟨g _ _ h.o,g _ _ h.i,g _ _ h.k,g _ _ h.a,g _ _ h.b,g _ _ h.d⟩
theorem H6.upd {po pi pk j p2 pd pf:Addr} {ps us ds:List Pr} {M M':Mem} {o:O} (h:H6 po pi pk j p2 pd ps us ds M) (h':H6 po pi pk j p2 pd ps us ds M') (n:M pf=none):H6 po pi pk j p2 pd ps us ds (ag M' pf o):=by
 have ne:∀ {a:Addr} {u:O},M a=some u->a≠pf:=fun e z=>by rw [z,n] at e;cases e
 exact ⟨(aK (ne h.o)).trans h'.o,(aK (ne h.i)).trans h'.i,(aK (ne h.k)).trans h'.k,(aK (ne h.a)).trans h'.a,(aK (ne h.b)).trans h'.b,(aK (ne h.d)).trans h'.d⟩
theorem uH {M:Mem} {p a b:Addr} {ps us:List Pr} (h:M p=some (.lst [.ref a, .ref b])) (ha:M a=some (.lst (ps.map prD))) (hb:M b=some (.lst (us.map prD))):rb 16 M (.ref p)=some (.list [.list (ps.map cw), .list (us.map cw)]):=by
 have e1:rb 15 M (.ref a)=some (.list (ps.map cw)):=by rw [no ha,nk];rfl
 have e2:rb 15 M (.ref b)=some (.list (us.map cw)):=by rw [no hb,nk];rfl
 rw [no h]
 simp [aJ,e1,e2]
theorem zT {ps us:List Pr}:PyData.eqv (.list [.list (ps.map cw), .list (us.map cw)]) (.list [.list (ps.map cw), .list (us.map cw)])=true:=by
 simp [PyData.eqv,PyData.eqvAll,BB]
theorem D5 {X Y Z:Nat} (h:X*(Y*Z)<=108):X*Y*(Y*Z*(X*Z))<=11664:=by
 have e:X*Y*(Y*Z*(X*Z))=X*(Y*Z)*(X*(Y*Z)):=by simp only [Nat.mul_assoc,Nat.mul_comm,Nat.mul_left_comm]
 rw [e];exact Nat.mul_le_mul h h
theorem zU {k:Nat} (Y : 2<=k) {n m p a b c:Nat} (J:Sz n m p a b c) {ds:List Pr} (Z:ds.length<=339) (hd:∀ u∈ds,Ln (n*a) (m*b) (p*c) u/\Within 35 u.1/\Within 35 u.2.1/\Within 35 u.2.2) (hT:∀ k i j,Tn ds k i j=cf (bh (n*a) (m*b) (p*c)) (k,i,j)) {x0 x1 x2:D} {pp:Addr} {M:Mem} {Q:QD} (ep:M pp=some (.lst (ds.map prD))) (q:∀ M',Ge M M'->Q (.bl false) M') :
 phi tab k 12 [.tup [x0,x1,x2, .ref pp]] M fun x O=>phi tab k 13 [tD (n*a) (m*b) (p*c)] O fun y M2=>qM x y M2 Q:=by
 have big:∀ {l:List Int},Within 35 l->Big l:=fun h x hx=>by have:=h x hx;lia
 obtain ⟨R,S,U⟩:=J.hw
 have m1:n*a*(m*b)<=9*9:=Nat.mul_le_mul R S
 have m2:m*b*(p*c)<=9*9:=Nat.mul_le_mul S U
 have m3:n*a*(p*c)<=9*9:=Nat.mul_le_mul R U
 refine xf Y ep ?_ (fun u F => ?_) fun L d O G D7 g1 D8 e1 => ?_
 ·have h1:=nU (a:=n*a*(m*b)) (b:=m*b*(p*c)) (c:=n*a*(p*c)) (ps:=ds) fun u F=>by
   obtain ⟨⟨a,b,c⟩,_⟩:=hd u F
   exact ⟨Nat.le_of_eq a,Nat.le_of_eq b,Nat.le_of_eq c⟩
  have h2:n*a*(m*b*(p*c))<=108:=by
   have e:n*a*(m*b*(p*c))=n*(m*p)*(a*(b*c)):=by simp only [Nat.mul_assoc,Nat.mul_comm,Nat.mul_left_comm]
   rw [e];exact J.hz
  have h3:ds.length*(n*a*(m*b)*(m*b*(p*c)*(n*a*(p*c))))<=339*11664:=Nat.mul_le_mul Z (D5 h2)
  lia
 ·obtain ⟨⟨a,b,c⟩,d,e,f⟩:=hd u F
  exact ⟨big d,big e,big f,by lia,by lia,by lia⟩
 refine fO (by lia) (by lia) (by lia) (by lia) fun L2 d2 M2 z g2 hd2 e2 => ?_
 refine ⟨d,d2,_,_,rfl,rfl,⟨.inl (g2 _ _ e1),pS⟩,⟨.inl e2,pS⟩, ?_⟩
 have B:(L2.map (·.1)).Nodup:=(z.map _).nodup_iff.mpr cq
 have I:∀ t∈L2,t.2≠0:=fun t ht=>Bs t (z.mem_iff.mp ht)
 rw [wN B (zC G.nd B G.nz I fun k=>by
  obtain ⟨k,i,j⟩:=k
  rw [G.cf,zB,hT,pv z])]
 exact q _ (g1.trans g2)
theorem few {N S x y:Nat} (h1:N<=45) (h2:S<=45) (j:N*S<=108) (hx:x<=N+3) (hy:y<=S+2):x*y<=339:=by
 have:=Nat.mul_le_mul hx hy
 rw [Nat.add_mul,Nat.mul_add,Nat.mul_add] at this
 lia
theorem law_holds (ns:List Int) (hl:ns.length<=63):phi tab 40 24 [.con (ns.map D.int)] (fun _=>none) fun d _=>d = .bl true:=by
 refine aq (by lia) rfl rfl (ρ := [some _,none,none,none,none,none,none,none,none,none,none,none]) rfl ?_
 unfold d24 b24
 walk_at "st"
 rw [List.length_map]
 refine ⟨by split <;> lia,by split <;> lia, ?_⟩
 refine aP (I:=fun l ρ M' => ∃ o1 o2 o3 o4 o5 o6 o7 o8 U q z, ρ = [some (.con (ns.map D.int)),o1,o2,o3,o4,o5,o6,o7,o8,U,q,z]) aE ⟨_,_,_,_,_,_,_,_,_,_,_,rfl⟩ (fun _ _ _ hI=>trivial) ?_ ?_
 ·rintro l k r ρ M8 e ⟨o1,o2,o3,o4,o5,o6,o7,o8,U,q,z,rfl⟩
  refine ⟨_,rfl,fun F hF => ?_⟩
  walk_at "st"
  refine Bp (s:=ai 11) (fc := 6) (fm := 7) (sc:=ai 9) rfl rfl (pT (by lia)) (by lia) (by lia) fun bx x y hp => ?_
  walk_at "st"
  refine rG (by lia) ⟨_,_,_,ad⟩ fun n m p a b c M1 hS x1=>⟨_,rfl, ?_⟩
  obtain ⟨hn,hm,R,ha,hb,hc,hx,hy,hz,hw⟩:=id hS
  have le_mul:∀ {u v:Nat},1<=v->u<=u*v:=fun h=>Nat.le_mul_of_pos_right _ h
  have q1:n*m<=45:=by have:=le_mul (u:=n*m) R.1;rw [Nat.mul_assoc] at this;lia
  have q2:m*p<=45:=by have:=Nat.le_mul_of_pos_left (m*p) hn.1;lia
  have q3:n*p<=45:=by
   have:=Nat.mul_le_mul_left n (Nat.le_mul_of_pos_left p hm.1);lia
  have q4:a*b<=45:=by have:=le_mul (u:=a*b) hc.1;rw [Nat.mul_assoc] at this;lia
  have q5:b*c<=45:=by have:=Nat.le_mul_of_pos_left (b*c) ha.1;lia
  have q6:a*c<=45:=by
   have:=Nat.mul_le_mul_left a (Nat.le_mul_of_pos_left c hb.1);lia
  walk_at "st"
  refine kG (s:=ai 23) (sv:=ai 22) (sl:=ai 17) (cap := 63) (ft := 9) (fd := 18) (fv := 19) (fl := 14) (fp := 16) (fs := 13) (most := 3) rfl (aQ (by lia)) (gC (by lia)) rfl rfl (gB (by lia)) (fO (by lia)) (by lia) (by lia) (by lia) (by lia) (by lia) (by lia) (by lia) (by lia) (by lia) (by lia) x1.box fun ps po M2 L D9 hT x2 Da D7 eo => ?_
  refine kG (s:=ai 23) (sv:=ai 22) (sl:=ai 17) (cap := 63) (ft := 9) (fd := 18) (fv := 19) (fl := 14) (fp := 16) (fs := 13) (most := 2) rfl (aQ (by lia)) (gC (by lia)) rfl rfl (gB (by lia)) (fO (by lia)) (by lia) (by lia) (by lia) (by lia) (by lia) (by lia) (by lia) (by lia) (by lia) (by lia) x2.box fun us pi M3 O Db hU x3 Dc Dg ei => ?_
  have eo:=x3.keep po _ D7 eo
  have lps:∀ u∈ps,Ln n m p u:=fun u G=>⟨(L u G).l0,(L u G).l1,(L u G).l2⟩
  have lus:∀ u∈us,Ln a b c u:=fun u G=>⟨(O u G).l0,(O u G).l1,(O u G).l2⟩
  have dps:∀ u∈ps,Bd u:=fun u G=>(L u G).bd (by lia) (by lia) (by lia) (by lia)
  have dus:∀ u∈us,Bd u:=fun u G=>(O u G).bd (by lia) (by lia) (by lia) (by lia)
  have Dh:=few hx hy hz D9 Db
  have D8:∀ u∈bJ n m p a b c ps us,Ln (n*a) (m*b) (p*c) u/\Within 35 u.1/\Within 35 u.2.1/\Within 35 u.2.2:=fun t ht=>by
   obtain ⟨u,G,v,hv,rfl⟩:=nQ ht
   have h1:=L u G
   have h2:=O v hv
   exact ⟨uC,rC (A := 7) (B := 5) (by decide) h1.e0 h2.e0 (by decide),rC (A := 7) (B := 5) (by decide) h1.e1 h2.e1 (by decide),rC (A := 7) (B := 5) (by decide) h1.e2 h2.e2 (by decide)⟩
  have Dd:=Cu ⟨hn.1,hm.1,R.1⟩ ⟨ha.1,hb.1,hc.1⟩ hT hU
  have lens:∀ u∈bJ n m p a b c ps us,u.1.length<=100000/\u.2.1.length<=100000/\u.2.2.length<=100000:=fun u G=>by
   obtain ⟨⟨a0,a1,a2⟩,_⟩:=D8 u G
   have:=Nat.mul_le_mul hw.1 hw.2.1
   have:=Nat.mul_le_mul hw.2.1 hw.2.2
   have:=Nat.mul_le_mul hw.1 hw.2.2
   lia
  clear x1 x2 x3 Da Dc hT hU L O hp
  walk_at "st"
  refine ⟨_,rfl,_,_,rfl,ae eo,fun Y h1 => ?_⟩
  have g1:=Ge.new (o := .lst (ps.map prD)) h1
  have e1:=ad (M:=M3) (a:=Y) (o := .lst (ps.map prD))
  generalize ag M3 Y (.lst (ps.map prD))=M4 at g1 e1 ⊢
  have eo:=g1 _ _ eo
  have ei:=g1 _ _ ei
  refine ⟨_,rfl,_,_,rfl,ae ei,fun p2 h2 => ?_⟩
  have g2:=Ge.new (o := .lst (us.map prD)) h2
  have e2:=ad (M:=M4) (a:=p2) (o := .lst (us.map prD))
  generalize ag M4 p2 (.lst (us.map prD))=M5 at g2 e2 ⊢
  have eo:=g2 _ _ eo
  have ei:=g2 _ _ ei
  have e1:=g2 _ _ e1
  refine ⟨by rw [sizeLine_eq];lia,fun pk hk => ?_⟩
  have g3:=Ge.new (o := .lst [.ref Y, .ref p2]) hk
  have ek:=ad (M:=M5) (a:=pk) (o := .lst [.ref Y, .ref p2])
  generalize ag M5 pk (.lst [.ref Y, .ref p2])=M6 at g3 ek ⊢
  have eo:=g3 _ _ eo
  have ei:=g3 _ _ ei
  have e1:=g3 _ _ e1
  have e2:=g3 _ _ e2
  clear g1 g2 g3 h1 h2 hk
  walk_at "st"
  refine BG (by lia) hn hm R ha hb hc lps lus dps (by lia) (by lia) eo ei fun pd M7 g7 npd ed => ?_
  have h7:H6 po pi pk Y p2 pd ps us (bJ n m p a b c ps us) M7:=⟨g7 _ _ eo,g7 _ _ ei,g7 _ _ ek,g7 _ _ e1,g7 _ _ e2,ed⟩
  clear eo ei ek e1 e2 ed g7 npd
  walk_at "st"
  refine ⟨by lia,by lia, ?_⟩
  refine aP (I:=fun l2 ρ M'=>(∃ U q z, ρ = [some (.con (ns.map D.int)),some (.int (k:Nat)),some (.ref bx),some (tD n m p),some (tD a b c),some (.tup [.int (n*m:Nat), .int (m*p:Nat), .int (n*p:Nat), .ref po]),some (.tup [.int (a*b:Nat), .int (b*c:Nat), .int (a*c:Nat), .ref pi]),some (.ref pk),some (.tup [.int (n*a*(m*b):Nat), .int (m*b*(p*c):Nat), .int (n*a*(p*c):Nat), .ref pd]),U,q,z])/\H6 po pi pk Y p2 pd ps us (bJ n m p a b c ps us) M') aE ⟨⟨_,_,_,rfl⟩,h7⟩ (fun _ _ _ _=>trivial) ?_ ?_
  ·rintro l2 j r2 ρ M9 e2 ⟨⟨U,q,z,rfl⟩,Z⟩
   refine ⟨_,rfl,fun F2 De => ?_⟩
   walk_at "st"
   refine Cv (by lia) hn hm R ha hb hc lps lus dps dus (by lia) (by lia) Z.o Z.i fun pf Ma g nf ef => ?_
   have S:=Z.ge g
   walk_at "st"
   refine xc (n := 4) (by lia) (zP (by rw [fh];lia) ef S.d lens) fun Mb g2 => ?_
   have J:=S.ge g2
   have ef:=g2 _ _ ef
   refine ⟨true,rfl, ?_⟩
   rw [if_neg (by decide)]
   walk_at "st"
   refine ⟨_,rfl,⟨_,rfl,_,ef⟩,pf,_,rfl,rfl,ef, ?_⟩
   exact De _ _ ⟨⟨_,_,_,rfl⟩,Z.upd J nf⟩
  ·rintro ρ M9 ⟨⟨U,q,z,rfl⟩,Z⟩
   dsimp only
   walk_at "st"
   refine ⟨_,rfl,_,rfl,aL (by lia),_,rfl,_,rfl,aL (by lia),_,rfl,_,rfl,aL (by lia),by rw [sizeLine_eq];lia, ?_⟩
   rw [<- Int.natCast_mul, <- Int.natCast_mul, <- Int.natCast_mul]
   walk_at "st"
   refine zU (by lia) hS (by rw [fh];lia) D8 Dd Z.d fun Di Df => ?_
   have S:=Z.ge Df
   walk_at "wp"
   refine ⟨_,rfl,_,rfl,by rw [sizeLine_eq];lia,fun pz hz => ?_⟩
   have gz:=Ge.new (o := .lst [.ref po, .ref pi]) hz
   have J:=S.ge gz
   refine ⟨_,_,uH ad J.o J.i,uH J.k J.a J.b, ?_⟩
   rw [zT]
   refine ⟨_,rfl, ?_⟩
   rw [if_neg (by decide)]
   exact hF _ _ ⟨_,_,_,_,_,_,_,_,_,_,_,rfl⟩
 ·rintro ρ M8 ⟨o1,o2,o3,o4,o5,o6,o7,o8,U,q,z,rfl⟩
  dsimp only
  walk_at "st"
end K17
end
end
end Mi
end L2
namespace PySem.W.Fast
theorem tw12755502531565250645:True:=trivial
theorem tw7320729285119576407:True:=trivial
theorem tw10604362413658615721:True:=trivial
theorem tw5848418290758562477:True:=trivial
theorem tw2744554708466137280:True:=trivial
theorem tw12677678848938300176:True:=trivial
theorem tw8410272053764511493:True:=trivial
theorem tw7472794197796814283:True:=trivial
theorem tw12840105433337510203:True:=trivial
theorem tw18325337194087998833:True:=trivial
theorem tw13228044970601448979:True:=trivial
theorem tw2163742367628406361:True:=trivial
theorem tw3191590580402818736:True:=trivial
theorem tw11634378150122526112:True:=trivial
theorem tw6300656323775754279:True:=trivial
theorem tw1308702052765480444:True:=trivial
theorem tw11708124353734306171:True:=trivial
theorem tw254680662142941245:True:=trivial
theorem tw8110749356998816502:True:=trivial
theorem tw10572033335469626523:True:=trivial
theorem tw8082460893731898037:True:=trivial
theorem tw16587107428784035995:True:=trivial
theorem tw7611972665297305739:True:=trivial
theorem tw6965699640490404530:True:=trivial
theorem tw15754057871221355702:True:=trivial
theorem tw10269683501376031115:True:=trivial
theorem tw2010306661316071908:True:=trivial
theorem tw2809065699207656563:True:=trivial
theorem tw4303990938251243062:True:=trivial
theorem tw9451101628116330688:True:=trivial
theorem tw5952674368471948417:True:=trivial
theorem tw12947341947554502018:True:=trivial
theorem tw15340628580105907794:True:=trivial
theorem tw9516418901423372112:True:=trivial
theorem tw6443189939633176624:True:=trivial
theorem tw16618576434680057341:True:=trivial
theorem tw16764739848684533916:True:=trivial
theorem tw6841787277392777600:True:=trivial
theorem tw17221202141132463436:True:=trivial
theorem tw13978590574197809744:True:=trivial
theorem tw10431382733333074001:True:=trivial
theorem tw1594833014499056803:True:=trivial
theorem tw1208726500852880161:True:=trivial
theorem tw4355609620361439227:True:=trivial
theorem tw9482968488683503626:True:=trivial
theorem tw18066183456712010927:True:=trivial
theorem tw4478800020986505918:True:=trivial
theorem tw844988678356998536:True:=trivial
theorem tw405830566177241496:True:=trivial
theorem tw18026718895342783686:True:=trivial
theorem tw10971879512098629679:True:=trivial
theorem tw4470994500484980872:True:=trivial
theorem tw11306855559262507214:True:=trivial
theorem tw11274261367476468909:True:=trivial
theorem tw3174632942109122873:True:=trivial
theorem tw4443460979160514886:True:=trivial
theorem tw8883546977774931518:True:=trivial
theorem tw8081537768920718716:True:=trivial
theorem tw17793036017010792095:True:=trivial
theorem tw6048476891122353756:True:=trivial
theorem tw15212728137902143400:True:=trivial
theorem tw4619452549684733041:True:=trivial
theorem tw10619713310715042657:True:=trivial
end PySem.W.Fast
open PySem.W in
set_option maxRecDepth 100000 in
set_option maxHeartbeats 0 in
theorem PySem.Challenge.cw_fewtimes_k17_tables_within_holds : PySem.Challenge.rw_fewtimes_k17_tables_within.Holds := by
 w_on;o_law;k_head;(case hw=>w_witness2)
 k_fill
 refine L2.Mi.K17.walk (l:=PySem.Challenge.rw_fewtimes_k17_tables_within) rfl rfl L2.Mi.K17.law_holds (fun w h Y=>PySem.W.kIn_of Y) ?F
 case F =>
  intro w mg fa h KX G hmg
  refine' L2.Mi.K17.all_mk KX G hmg ?z ?_ ?_ ?_ ?_ ?_ ?_ ?_ ?_ ?_ ?_ ?_ ?_ ?_ ?_ ?_ ?_ ?_ ?_ ?_ ?_ ?_ ?_ ?_ ?_ ?_ ?_ ?_ ?_ ?_ ?_ ?_ ?_ ?_ ?_ ?_ ?_ ?_ ?_ ?_ ?_ ?_ ?_ ?_ ?_ ?_ ?_ ?_ ?_ ?_ ?_ ?_ ?_ ?_ ?_ ?_ ?_ ?_ ?_ ?_ ?_ ?_ ?_ ?_ ?_ ?_ ?_ ?_ ?_ ?_ ?_ ?_ ?_ ?_ ?_ ?_ ?_ ?_ ?_ ?_ ?_ ?_ ?_ ?_ ?_ ?_ ?_ ?_ ?_ ?_ ?_ ?_ ?_ ?_ ?_ ?_ ?_ ?_ ?_ ?_ ?_ ?_ ?_ ?_ ?_ ?_
  case z =>
   intro x hx
   simp only [L2.Mi.bltNames,List.mem_cons,List.not_mem_nil,or_false] at hx
   rcases hx with rfl | rfl | rfl | rfl | rfl | rfl | rfl | rfl | rfl | rfl | rfl | rfl | rfl | rfl | rfl | rfl | rfl | rfl | rfl | rfl <;> k_is
  all_goals try (show _=_;k_is)
