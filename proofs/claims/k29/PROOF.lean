import PyProof.Rows.All
import Wide.All
import OpenK.AllK
import Wide.FinOn
import Lean
import PyProof.EqAt
import PyProof.EqKinds
import PyProof.TupleCall
import PyProof.Rows.EqDataRows
import PyProof.Rows.InDataRows
import PyProof.StrLawsRepr
import PyProof.AutoListH
import PySem.Challenge.RW_hatchwaits_k29_whole_front_alone
set_option Elab.async false
set_option linter.all false
set_option maxRecDepth 100000
namespace L2
open PySem PySem.Spec PyProof.Rows
noncomputable abbrev Key:=Sum Int Str
noncomputable def b08:Key->Value->Bool
 | .inl k,v=>Value.isInt k v
 | .inr x,v=>Value.isStrOf x v
noncomputable def b36 (w:World):Key->Int
 | .inl k=>hashInt k
 | .inr x=>hashStr w x
theorem v4:∀{k:Key} {v:Value},b08 k v=true->(∃i t,k=Sum.inl i∧v=Value.int i t)∨(∃x t,k=Sum.inr x∧v=Value.str x t)
 | .inl i,v,h=>by
  obtain⟨t,e⟩:=Value.isInt_shape (k:=i) (v:=v) h
  exact .inl ⟨i,t,rfl,e⟩
 | .inr x,v,h=>by
  obtain⟨t,e⟩:=Value.isStrOf_shape (x:=x) (v:=v) h
  exact .inr ⟨x,t,rfl,e⟩
theorem b1g (a b:Int):decide ((Sum.inl a:Key)=Sum.inl b)=(a == b):=by
 by_cases e:a=b
 ·subst e;simp
 ·have h:¬(Sum.inl a:Key)=Sum.inl b:=λq=>e (Sum.inl.inj q)
  rw[decide_eq_false h]
  exact(beq_eq_false_iff_ne.mpr e).symm
theorem b1e (a b:Str):decide ((Sum.inr a:Key)=Sum.inr b)=decide (a=b):=by
 by_cases e:a=b
 ·subst e;simp
 ·have h:¬(Sum.inr a:Key)=Sum.inr b:=λq=>e (Sum.inr.inj q)
  rw[decide_eq_false h,decide_eq_false e]
theorem b13 (a:Int)(b:Str):decide ((Sum.inl a:Key)=Sum.inr b)=false:=decide_eq_false (λq=>nomatch q)
theorem b0X (a:Str)(b:Int):decide ((Sum.inr a:Key)=Sum.inl b)=false:=decide_eq_false (λq=>nomatch q)
noncomputable def a34 (prog:Program)(w:World):PySem.KeyKind prog w Key where
 is:=b08
 hash:=b36 w
 inj:=λv a b ha hb=>by
  rcases v4 ha with ⟨i,t,rfl,rfl⟩ | ⟨x,t,rfl,rfl⟩
  ·rcases v4 hb with ⟨j,u,rfl,e⟩ | ⟨y,u,rfl,e⟩
   ·injection e with e1 _;rw[e1]
   ·exact nomatch e
  ·rcases v4 hb with ⟨j,u,rfl,e⟩ | ⟨y,u,rfl,e⟩
   ·exact nomatch e
   ·injection e with e1 _;rw[e1]
 byValue:=λk v h=>by
  rcases v4 h with ⟨i,t,rfl,rfl⟩ | ⟨x,t,rfl,rfl⟩ <;> rfl
 pyHash:=λhv h=>by
  rcases v4 hv with ⟨i,t,rfl,rfl⟩ | ⟨x,t,rfl,rfl⟩
  ·exact wpAny_pyHash_int h
  ·exact wpAny_pyHash_str h
 eqBool:=λhu hv h=>by
  rcases v4 hu with ⟨i,t,rfl,rfl⟩ | ⟨x,t,rfl,rfl⟩
  ·rcases v4 hv with ⟨j,u,rfl,rfl⟩ | ⟨y,u,rfl,rfl⟩
   ·rw[b1g]at h;exact wpAny_eqBool_int h
   ·rw[b13]at h;exact SeqAt.EqAt.int_str i t y u _ _ _ _ h
  ·rcases v4 hv with ⟨j,u,rfl,rfl⟩ | ⟨y,u,rfl,rfl⟩
   ·rw[b0X]at h;exact SeqAt.EqAt.str_int x t j u _ _ _ _ h
   ·rw[b1e]at h;exact wpAny_eqBool_str h
 «strs»:=λk x t v h=>by
  rcases v4 h with ⟨i,u,rfl,e⟩ | ⟨y,u,rfl,e⟩
  ·exact nomatch e
  ·injection e with e1 _
   subst e1
   cases v <;> rfl
end L2
namespace L2
open PySem PySem.Spec PyProof.Rows
inductive V where
 | non | bl (b:Bool) | int (i:Int) | str (x:Str) | byt (b:Array UInt8) | flt (b:UInt64) | ref (a:Addr) | ty (n:String)
 deriving DecidableEq
noncomputable def p8:V->Value->Prop
 | .non,u=>u=Value.none
 | .bl b,u=>u=Value.bool b
 | .int i,u=>∃t,u=Value.int i t
 | .str x,u=>∃t,u=Value.str x t
 | .byt b,u=>∃t,u=Value.bytes b t
 | .flt b,u=>∃t,u=Value.float b t
 | .ref a,u=>u=Value.ref a
 | .ty n,u=>u=Value.type n
noncomputable abbrev j3:List V->List Value->Prop:=Paired p8
theorem j3.length {xs:List V}{us:List Value}(r:j3 xs us):xs.length=us.length:=Paired.length r
theorem j3.get:∀{xs:List V} {us:List Value} {i:Nat} {x:V},j3 xs us->xs[i]? = some x->∃u,us[i]? = some u∧p8 x u
 | _,_,_,_,.nil,e=>by simp at e
 | _,_,0,_,.cons r _,e=>by simp at e;subst e;exact⟨_,rfl,r⟩
 | _,_,i+1,x,.cons _ t,e=>by
  obtain⟨u,h1,h2⟩:=j3.get (i:=i) (x:=x) t (by simpa using e)
  exact⟨u,by simpa using h1,h2⟩
theorem j3.set {x:V}{u:Value}(r:p8 x u):∀{xs:List V} {us:List Value} (i:Nat),j3 xs us->j3 (xs.set i x) (us.set i u)
 | _,_,_,.nil=>.nil
 | _,_,0,.cons _ t=>.cons r t
 | _,_,i+1,.cons q t=>.cons q (j3.set r i t)
theorem j3.append:∀{xs ys:List V} {us ws:List Value},j3 xs us->j3 ys ws->j3 (xs++ys) (us++ws)
 | _,_,_,_,.nil,s=>s
 | _,_,_,_,.cons r t,s=>.cons r (j3.append t s)
theorem j3.take:∀{xs:List V} {us:List Value} (n:Nat),j3 xs us->j3 (xs.take n) (us.take n)
 | _,_,0,_=>.nil
 | _,_,_+1,.nil=>.nil
 | _,_,n+1,.cons r t=>.cons r (j3.take n t)
theorem j3.drop:∀{xs:List V} {us:List Value} (n:Nat),j3 xs us->j3 (xs.drop n) (us.drop n)
 | _,_,0,r=>r
 | _,_,_+1,.nil=>.nil
 | _,_,n+1,.cons _ t=>j3.drop n t
theorem j3.none_of:∀{xs:List V} {us:List Value} {i:Nat},j3 xs us->xs[i]? = none->us[i]? = none:=λ{xs us i} r e=>by
 have h1:=r.length
 have h2:xs.length≤i:=List.getElem?_eq_none_iff.mp e
 exact List.getElem?_eq_none_iff.mpr (by omega)
noncomputable def b2w:Option V->Option Value->Prop
 | some v,some u=>p8 v u
 | none,none=>True
 | _,_=>False
noncomputable def KV {κ:Type}:List (κ×V)->List (κ×Value)->Prop:=Paired λ(p:κ×V) (q:κ×Value)=>p.1=q.1∧p8 p.2 q.2
noncomputable def kV:Key->V
 | .inl i=>.int i
 | .inr x=>.str x
inductive HO where
 /-- a list -/
 | lst (xs:List V)
 /-- a tuple (never changes) -/
 | tup (xs:List V)
 /-- a dict whose keys are ints and texts;one whose keys are tuples of ints and texts (the empty one is both) -/
 | dK (kvs:List (Key×V)) | dT (kvs:List (List Key×V))
 /-- a set of ints: its members,its size -/
 | set (S:Int->Bool) (n:Nat)
 /-- an instance of the class at C,its dict at dx,its attributes -/
 | ins (C dx:Addr) (fs:List (Str×V))
 /-- the dict of the instance at x -/
 | own (x:Addr)
 /-- the dict of an exception -/
 | xd (fs:List (Str×V))
 /-- a bound method,f of x -/
 | met (f x:Addr)
 /-- a range object lo,lo+1,.. below hi -/
 | rng (lo hi:Int)
 /-- a thing that is known to the object (the script;a dict while a loop walks it): read,never written while it is so -/
 | frz (o:Obj) (u:HO)
 /-- a code object's table -/
 | tbl (ps:Array Value)
 /-- any other thing,by what is true of its one object (a def of one's own: SetO a S n:=HO.ext λh=>..) -/
 | ext (φ:Heap->Prop)
noncomputable abbrev Hp:=Addr->Option HO
noncomputable def upd (H:Hp)(a:Addr)(o:HO):Hp:=λb=>if b=a then some o else H b
theorem g6 {H:Hp}{a:Addr}{o:HO}:upd H a o a=some o:=by unfold upd;rw[if_pos rfl]
theorem d8 {H:Hp}{a b:Addr}{o:HO}(h:b≠a):upd H a o b=H b:=by unfold upd;rw[if_neg h]
theorem j5 {H:Hp}{a b:Addr}{o:HO}(h:H a=some o)(h':H b=none):a≠b:=by
 intro e;subst e;rw[h]at h';cases h'
section
variable (P:Program)(w:World)
noncomputable def K2 (H:Hp)(h:Heap)(a:Addr):HO->Prop
 | .lst xs=>xs.length≤sizeLine∧∃(its:List Value) (n:Nat),j3 xs its∧h.get? a=some { cls:=.type "list",data:=.seq its.toArray n }
 | .tup xs=>xs.length≤sizeLine∧∃its:List Value,j3 xs its∧IsTup h a its.toArray
 | .dK kvs=>kvs.length≤sizeLine∧(a == sysModules)=false∧∃vs,KV kvs vs∧h.DictOf (a34 P w) a vs
 | .dT kvs=>kvs.length≤sizeLine∧(a == sysModules)=false∧∃xs:List (List Key×Addr×Value),
   Paired (λ(p:List Key×V) (q:List Key×Addr×Value)=>p.1=q.1∧H q.2.1=some (.tup (p.1.map kV))∧p8 p.2 q.2.2) kvs xs ∧
   ∃o es ep,h.get? a=some o∧o.ExactDict∧o.data = .dict es ep∧es.toList=xs.map (entryOfKey (tupleKind (a34 P w)))∧(xs.map (·.1)).Nodup
 | .set S n=>h.SetOf (intKind P w) a S n
 | .ins C dx fs=>H dx=some (.own a)∧fs.length≤1000∧dx≠a∧h.get? a=some (PySem.W.instObj C dx) ∧
   ∃mA,h.Ns1 dx mA∧(∀f,b2w (fs.lookup f) (mA f))∧PySem.Within mA (fs.map (·.1))
 | .own _=>∃o,h.get? a=some o
 | .xd fs=>∃mA,h.Ns1 a mA∧∀f,b2w (fs.lookup f) (mA f)
 | .rng lo hi=>∃t u v,h.get? a=some { cls:=.type "range",data:=.fields #[.int lo t,.int hi u,.int 1 v] }
 | .frz o u=>h.get? a=some o∧K2 H h a u
 | .tbl ps=>h.get? a=some { cls:=.none,data:=.fields ps }
 | .met f x=>h.get? a=some (PySem.W.methodObj (.ref f) (.ref x))
 | .ext φ=>φ h∧(∃o,h.get? a=some o)∧∀h1 h2:Heap,φ h1->(∀o,h1.get? a=some o->h2.get? a=some o)->φ h2
noncomputable def HOk (H:Hp)(h:Heap):Prop:=∀a o,H a=some o->K2 P w H h a o
end
section
variable {P:Program}{w:World}{H H':Hp}{h h':Heap}{a:Addr}{o:HO}
theorem K2.lt (x:K2 P w H h a o):a<h.objs.size:=by
 cases o with
 | lst xs=>obtain⟨_,_,_,_,e⟩:=x;exact Heap.lt_size e
 | tup xs=>obtain⟨_,_,_,p⟩:=x;exact p.lt
 | dK kvs=>obtain⟨_,_,_,_,o,_,_,e,_⟩:=x;exact Heap.lt_size e
 | dT kvs=>obtain⟨_,_,_,_,o,_,_,e,_⟩:=x;exact Heap.lt_size e
 | set S n=>obtain⟨o,_,_,_,e,_⟩:=x;exact Heap.lt_size e
 | ins C dx fs=>obtain⟨_,_,_,e,_⟩:=x;exact Heap.lt_size e
 | own y=>obtain⟨_,e⟩:=x;exact Heap.lt_size e
 | xd fs=>obtain⟨_,⟨_,_,_,e,_⟩,_⟩:=x;exact Heap.lt_size e
 | rng lo hi=>obtain⟨_,_,_,e⟩:=x;exact Heap.lt_size e
 | frz ob u=>obtain⟨e,_⟩:=x;exact Heap.lt_size e
 | tbl ps=>exact Heap.lt_size (show h.get? a=some _ from x)
 | met f y=>exact Heap.lt_size (show h.get? a=some _ from x)
 | ext φ=>obtain⟨_,⟨_,e⟩,_⟩:=x;exact Heap.lt_size e
theorem Paired.mapP {α β:Type}{F G:α->β->Prop}:∀{l₁:List α} {l₂:List β},Paired F l₁ l₂->(∀a b,F a b->G a b)->Paired G l₁ l₂
 | _,_,.nil,_=>.nil
 | _,_,.cons r t,f=>.cons (f _ _ r) (Paired.mapP t f)
theorem K2.stay (x:K2 P w H h a o)(k:∀b u,(b=a∨H b=some (.own a))->h.get? b=some u->h'.get? b=some u)
  (ho:∀b,H b=some (.own a)->H' b=some (.own a)) (ht:∀b xs,H b=some (.tup xs)->H' b=some (.tup xs)):K2 P w H' h' a o:=by
 induction o with
 | lst xs=>obtain⟨z,its,n,r,e⟩:=x;exact⟨z,its,n,r,k _ _ (.inl rfl) e⟩
 | tup xs=>obtain⟨z,its,r,ob,e,c⟩:=x;exact⟨z,its,r,ob,k _ _ (.inl rfl) e,c⟩
 | dK kvs=>obtain⟨z,y,vs,r,ob,es,ep,e,c⟩:=x;exact⟨z,y,vs,r,ob,es,ep,k _ _ (.inl rfl) e,c⟩
 | dT kvs =>
  obtain⟨z,y,xs,r,ob,es,ep,e,c⟩:=x
  exact⟨z,y,xs,Paired.mapP r λp q z=>⟨z.1,ht _ _ z.2.1,z.2.2⟩,ob,es,ep,k _ _ (.inl rfl) e,c⟩
 | set S n=>obtain⟨ob,es,ep,t,e,c⟩:=x;exact⟨ob,es,ep,t,k _ _ (.inl rfl) e,c⟩
 | ins C dx fs =>
  obtain⟨d,z,ne,e,mA,⟨od,es,ep,e2,c⟩,r⟩:=x
  exact⟨ho _ d,z,ne,k _ _ (.inl rfl) e,mA,⟨od,es,ep,k _ _ (.inr d) e2,c⟩,r⟩
 | own y=>obtain⟨ob,e⟩:=x;exact⟨ob,k _ _ (.inl rfl) e⟩
 | xd fs=>obtain⟨mA,⟨od,es,ep,e,c⟩,r⟩:=x;exact⟨mA,⟨od,es,ep,k _ _ (.inl rfl) e,c⟩,r⟩
 | rng lo hi=>obtain⟨t,u,v,e⟩:=x;exact⟨t,u,v,k _ _ (.inl rfl) e⟩
 | frz ob u ih=>obtain⟨e,q⟩:=x;exact⟨k _ _ (.inl rfl) e,ih q⟩
 | tbl ps =>
  have e:h.get? a=some { cls:=.none,data:=.fields ps }:=x
  show h'.get? a=some { cls:=.none,data:=.fields ps }
  exact k a _ (.inl rfl) e
 | met f y =>
  have e:h.get? a=some (PySem.W.methodObj (.ref f) (.ref y)):=x
  show h'.get? a=some (PySem.W.methodObj (.ref f) (.ref y))
  exact k a _ (.inl rfl) e
 | ext φ=>obtain⟨p,⟨o,e⟩,st⟩:=x;exact⟨st _ _ p λo q=>k _ _ (.inl rfl) q,⟨o,k _ _ (.inl rfl) e⟩,st⟩
theorem HOk.lt (x:HOk P w H h)(e:H a=some o):a<h.objs.size:=(x a o e).lt
theorem HOk.fresh (x:HOk P w H h)(e:h.objs.size≤a):H a=none:=by
 cases q:H a with
 | none=>rfl
 | some u=>exact absurd (Nat.lt_of_lt_of_le (x.lt q) e) (Nat.lt_irrefl _)
theorem HOk.kept (x:HOk P w H h)(k:∀b u,h.get? b=some u->h'.get? b=some u):HOk P w H h':=λa o e =>
 (x a o e).stay (λb u _ q=>k b u q) (λ_ q=>q) λ_ _ q=>q
theorem HOk.laid (x:HOk P w H h)(k:∀b u,h.get? b=some u->h'.get? b=some u)(hp:h.objs.size≤a)(new:K2 P w (upd H a o) h' a o):HOk P w (upd H a o) h':=λb u e=>by
 have hn:=x.fresh hp
 by_cases hb:b=a
 ·subst hb;rw[g6]at e;cases e;exact new
 ·rw[d8 hb]at e
  exact(x b u e).stay (λc v _ q=>k c v q) (λc q=>by rw[d8 (j5 q hn)];exact q) λc xs q=>by rw[d8 (j5 q hn)];exact q
end
noncomputable def Rd (H:Hp)(a:Addr)(u:HO):Prop:=H a=some u∨∃o,H a=some (.frz o u)
theorem Rd.ok {P:Program}{w:World}{H:Hp}{h:Heap}{a:Addr}{u:HO}(r:Rd H a u)(x:HOk P w H h):K2 P w H h a u:=by
 rcases r with r | ⟨o,r⟩
 ·exact x a u r
 ·obtain⟨_,q⟩:=x a _ r
  exact q
noncomputable def Mut:Option HO->Prop
 | some (.lst _)=>True
 | some (.dK _)=>True
 | some (.dT _)=>True
 | some (.set _ _)=>True
 | some (.ins _ _ _)=>True
 | some (.ext _)=>True
 | _=>False
section
variable {P:Program}{w:World}{H:Hp}{h h':Heap}{x e:Addr}{o':HO}
theorem HOk.write (ok:HOk P w H h)(mu:Mut (H x))(he:e=x∨H e=some (.own x))(k:∀b u,b≠e->h.get? b=some u->h'.get? b=some u)(heo:∃u,h'.get? e=some u)
  (new:K2 P w (upd H x o') h' x o'):HOk P w (upd H x o') h':=λb u q=>by
 have nown:∀c y,H c=some (.own y)->c≠x:=λc y r z=>by subst z;rw[r]at mu;exact mu
 have ntup:∀c xs,H c=some (.tup xs)->c≠x:=λc xs r z=>by subst z;rw[r]at mu;exact mu
 by_cases hb:b=x
 ·subst hb;rw[g6]at q;cases q;exact new
 ·rw[d8 hb]at q
  by_cases hbe:b=e
  ·have q':H b=some (.own x):=by
    rcases he with z | z
    ·exact absurd (hbe.trans z) hb
    ·rw[hbe];exact z
   rw[q]at q';cases q'
   obtain⟨v,hv⟩:=heo
   exact⟨v,by rw[hbe];exact hv⟩
  ·refine(ok b u q).stay (λc v hc r=>k c v ?_ r) (λc r=>by rw[d8 (nown c b r)];exact r) λc xs r=>by rw[d8 (ntup c xs r)];exact r
   rcases hc with rfl | hc
   ·exact hbe
   ·rintro rfl
    rcases he with z | z
    ·exact nown c b hc z
    ·rw[hc]at z;cases z;exact hb rfl
end
structure Un (fs ex:List Addr) (H H':Hp) (h h':Heap):Prop where
 keep:∀b o,h.get? b=some o->H b=none->b ∉ fs->b ∉ ex->h'.get? b=some o
 slot:∀b o,h.get? b=some o->H b=none->b∈fs->b ∉ ex->∃sl,h'.get? b=some { o with slots:=sl }
 free:∀b o,h.get? b=some o->H b=none->b ∉ ex->H' b=none
 there:∀b o,h.get? b=some o->b ∉ ex->∃o',h'.get? b=some o'
 tups:∀b xs,H b=some (.tup xs)->H' b=some (.tup xs)
 frzs:∀b o u,H b=some (.frz o u)->H' b=some (.frz o u)
 tbls:∀b ps,H b=some (.tbl ps)->∃more,H' b=some (.tbl (ps++more))
section
variable {fs fs' ex ex':List Addr}{H H1 H2:Hp}{h h1 h2 h':Heap}{a x e:Addr}{o:HO}
theorem Un.any (u:Un fs ex H H1 h h1){b:Addr}{ob:Obj}(q:h.get? b=some ob)(n:H b=none)(hx:b ∉ ex):∃sl,h1.get? b=some { ob with slots:=sl }:=by
 by_cases hb:b∈fs
 ·exact u.slot b ob q n hb hx
 ·exact⟨ob.slots,u.keep b ob q n hb hx⟩
theorem Un.kept (k:∀b u,h.get? b=some u->h'.get? b=some u):Un fs ex H H h h' :=
 ⟨λb ob q _ _ _=>k b ob q,λb ob q _ _ _=>⟨ob.slots,k b ob q⟩,λ_ _ _ n _=>n,λb ob q _=>⟨ob,k b ob q⟩,λ_ _ q=>q,λ_ _ _ q=>q,λ_ ps q=>⟨#[],by rw[q];simp⟩⟩
theorem Un.refl:Un fs ex H H h h:=Un.kept λ_ _ q=>q
theorem Un.laid (k:∀b u,h.get? b=some u->h'.get? b=some u)(hp:h.objs.size≤a)(hn:H a=none):Un fs ex H (upd H a o) h h' where
 keep:=λb u q _ _ _=>k b u q
 slot:=λb u q _ _ _=>⟨u.slots,k b u q⟩
 free:=λb u q n _=>by rw[d8 (Nat.ne_of_lt (Nat.lt_of_lt_of_le (Heap.lt_size q) hp))];exact n
 there:=λb u q _=>⟨u,k b u q⟩
 tups:=λb xs q=>by rw[d8 (j5 q hn)];exact q
 frzs:=λb u xs q=>by rw[d8 (j5 q hn)];exact q
 tbls:=λb ps q=>⟨#[],by rw[d8 (j5 q hn),q];simp⟩
theorem Un.write (mu:Mut (H x))(he:e=x∨H e=some (.own x))(k:∀b u,b≠e->h.get? b=some u->h'.get? b=some u)(heo:∃u,h'.get? e=some u):Un fs ex H (upd H x o) h h':=by
 have hx:∀b,H b=none->b≠x:=λb n z=>by subst z;rw[n]at mu;exact mu
 have hb:∀b,H b=none->b≠e:=λb n z=>by
  subst z
  rcases he with r | r
  ·exact hx b n r
  ·rw[n]at r;cases r
 have hm:∀b u,H b=some u->¬Mut (some u)->b≠x:=λb u q nm z=>by subst z;rw[q]at mu;exact nm mu
 refine⟨λb u q n _ _=>k b u (hb b n) q,λb u q n _ _=>⟨u.slots,k b u (hb b n) q⟩,λb u q n _=>by rw[d8 (hx b n)];exact n,λb u q _=>?_,
  λb xs q=>by rw[d8 (hm b _ q λz=>z)];exact q,λb u xs q=>by rw[d8 (hm b _ q λz=>z)];exact q,λb ps q=>⟨#[],by rw[d8 (hm b _ q λz=>z),q];simp⟩⟩
 by_cases hbe:b=e
 ·subst hbe;exact heo
 ·exact⟨u,k b u hbe q⟩
end
noncomputable def trk (h:Heap)(H:Hp):List Addr:=(List.range h.objs.size).filter λa=>(H a).isSome
noncomputable def a1P (h:Heap)(H:Hp):Heap:=PySem.W.hideAll h (trk h H)
theorem a6b (h:Heap)(H:Hp):(a1P h H).objs.size=h.objs.size:=PySem.W.hideAll_size _ _
theorem a8j {h:Heap}{H:Hp}{b:Addr}{o:Obj}(e:h.get? b=some o)(n:H b=none):(a1P h H).get? b=some o :=
 PySem.W.hideAll_get _ e λhm=>by
  have q:(H b).isSome=true:=(List.mem_filter.mp hm).2
  rw[n]at q;simp at q
theorem a8O {h:Heap}{H:Hp}{b:Addr}{o:Obj}(e:(a1P h H).get? b=some o):h.get? b=some o∧H b=none:=by
 have e':h.get? b=some o:=PySem.W.of_hideAll (trk h H) e
 refine⟨e',?_⟩
 cases q:H b with
 | none=>rfl
 | some x =>
  have hm:b∈trk h H:=List.mem_filter.mpr ⟨List.mem_range.mpr (Heap.lt_size e'),by simp[q]⟩
  have z:(a1P h H).get? b=none:=PySem.W.hideAll_none (trk h H) hm
  rw[z]at e;cases e
end L2
namespace L2
open PySem PySem.Spec PyProof.Rows
structure Mod (K:PySem.W.Frag) (mg:Str->Option Value) (base:Heap):Prop where
 kin:K.In base
 glob:base.Ns mainGlobals mg
 blt:∃mb,base.Ns builtinsNs mb∧∀x:Str,x ≠ "__name__"->mb x=bootBuiltins x
 nolimit:base.NoLimit
/-- the context: a def's body (or a comprehension's block) running. base: fixed through the whole law;s₀,H₀: the entry;outer: the frames whose slots others may change (a def's callers);stack: all frames that run;
   ex: iterators that were made E7 of the entry and are walked here (a comprehension's);fn: the names whose cells were made at the entry (a def: all;a comprehension's block: its own);calm: not within an except suite;pn: pins that every state bears;xe: what is wanted of an exception that leaves the code -/
structure Cx where
 prog:Program
 w:World
 K:PySem.W.Frag
 mg:Str->Option Value
 base:Heap
 A:Around
 N:List Str
 s₀:Shared
 H₀:Hp
 env:Env
 outer:List Env
 stack:List Env
 ex:List Addr
 fn:Str->Bool
 calm:Bool
 pn:List (Addr×Obj)
 xe:Value->Shared->Prop
noncomputable def frs (l:List Env):List Addr:=l.filterMap (·.frame)
noncomputable abbrev Cx.fs (X:Cx):List Addr:=frs X.outer
noncomputable def Vis (sc:Scope)(x:Str):Prop:=sc.names.lookup x=some .local∨sc.names.lookup x=some .cell∨sc.names.lookup x=some .free
noncomputable def Loc (sc:Scope)(x:Str):Prop:=sc.names.lookup x=some .local∨sc.names.lookup x=some .cell
noncomputable def b2T (env:Env)(h:Heap)(m:Str->Option Value)(x:Str)(u:Value):Prop :=
 (env.kindOf x=some .local∧m x=some u)∨((env.kindOf x=some .cell∨env.kindOf x=some .free)∧∃c,env.cells.lookup x=some c∧h.IsCell c (some u))
structure Cx.Ok (X:Cx):Prop where
 mod:Mod X.K X.mg X.base
 kind:X.env.scope.kind = .function
 glob:X.env.globals=mainGlobals
 blt:X.env.builtins=builtinsNs
 above:X.s₀.heap.objs.size≤X.env.locals
 inj:∀x y c,X.env.cells.lookup x=some c->X.env.cells.lookup y=some c->x=y
 has:∀x,(X.env.kindOf x=some .cell∨X.env.kindOf x=some .free)->∃c,X.env.cells.lookup x=some c
 cab:∀x c,X.fn x=true->X.env.cells.lookup x=some c->X.s₀.heap.objs.size≤c
 hd:X.calm=true->X.A.handled=none
 frames:X.A.frames=some X.stack
 stk:X.stack=X.outer∨(X.stack=X.env::X.outer∧X.env.frame=some X.env.locals)
 exf:∀b∈X.ex,b≠X.env.locals∧∀x c,X.env.cells.lookup x=some c->c≠b
 bs:∀b o,X.base.get? b=some o->X.s₀.heap.get? b=some o∧X.H₀ b=none
 bsz:X.base.objs.size≤X.s₀.heap.objs.size
 noex:∀b o,X.base.get? b=some o->b ∉ X.ex
 exfs:∀b∈X.ex,b ∉ X.fs
 funs:X.s₀.heap.FunFrames X.base X.outer
 frf:∀b∈X.fs,X.H₀ b=none
structure Inv (X:Cx) (pins:List (Addr×Obj)) (σ:List (Option V)) (H:Hp) (s:Shared):Prop where
 ok:X.Ok
 os:s.os=X.s₀.os
 bare:AllBare s.gens
 base:Un X.fs X.ex X.H₀ H X.s₀.heap s.heap
 loc:∃m,s.heap.Ns X.env.locals m∧∀(i:Nat) (x:Str) (v:V),X.N[i]? = some x->σ[i]? = some (some v)->Vis X.env.scope x->∃u,p8 v u∧b2T X.env s.heap m x u
 cell:∀x c,X.env.cells.lookup x=some c->∃v,s.heap.IsCell c v
 free:H X.env.locals=none
 freeC:∀x c,X.env.cells.lookup x=some c->H c=none
 pin:∀p∈X.pn++pins,s.heap.get? p.1=some p.2∧H p.1=none∧p.1≠X.env.locals∧p.1 ∉ X.fs∧∀v,p.2.data ≠ .cell v
 hok:HOk X.prog X.w H s.heap
 len:σ.length=X.N.length
section
variable {X:Cx}{pins:List (Addr×Obj)}{σ:List (Option V)}{H H':Hp}{s:Shared}{h':Heap}
theorem Cx.Ok.nofr (ok:X.Ok){b:Addr}{o:Obj}(e:X.base.get? b=some o):b ∉ X.fs:=λhb=>by
 have:=(ok.funs.mem hb).1
 rw[e]at this;cases this
theorem Inv.bs (I:Inv X pins σ H s):∀b o,X.base.get? b=some o->s.heap.get? b=some o∧H b=none:=λb o e =>
 ⟨I.base.keep b o (I.ok.bs b o e).1 (I.ok.bs b o e).2 (I.ok.nofr e) (I.ok.noex b o e),I.base.free b o (I.ok.bs b o e).1 (I.ok.bs b o e).2 (I.ok.noex b o e)⟩
theorem Inv.bk (I:Inv X pins σ H s):∀b o,X.base.get? b=some o->s.heap.get? b=some o:=λb o e=>(I.bs b o e).1
theorem Inv.mod (I:Inv X pins σ H s):Mod X.K X.mg X.base:=I.ok.mod
theorem Inv.kIn (I:Inv X pins σ H s):X.K.In s.heap:=I.ok.mod.kin.keeps I.bk
theorem Inv.nolimit (I:Inv X pins σ H s):s.heap.NoLimit:=I.ok.mod.nolimit.keeps I.bk
theorem Inv.lt (I:Inv X pins σ H s):X.env.locals<s.heap.objs.size:=let ⟨_,hn,_⟩:=I.loc;hn.lt
theorem Inv.sz (I:Inv X pins σ H s):X.s₀.heap.objs.size≤s.heap.objs.size:=Nat.le_trans I.ok.above (Nat.le_of_lt I.lt)
theorem Inv.nofs (I:Inv X pins σ H s){a:Addr}(h:s.heap.objs.size≤a):a ∉ X.fs:=λhb=>by
 obtain⟨_,o,ho,_⟩:=I.ok.funs.mem hb
 exact absurd (Nat.lt_of_lt_of_le (Heap.lt_size ho) (Nat.le_trans I.sz h)) (Nat.lt_irrefl _)
theorem Inv.cne (I:Inv X pins σ H s):∀x c,X.env.cells.lookup x=some c->c≠X.env.locals:=λx c e z=>by
 obtain⟨v,o,ho,hd⟩:=I.cell x c e
 obtain⟨m,⟨o',es,ep,ho',hd',_⟩,_⟩:=I.loc
 rw[z,ho']at ho;cases ho;rw[hd']at hd;cases hd
theorem Inv.funs (I:Inv X pins σ H s):s.heap.FunFrames X.base X.outer:=by
 have all:∀(l:List Env),(∀b∈frs l,b∈X.fs)->X.s₀.heap.FunFrames X.base l->s.heap.FunFrames X.base l:=by
  intro l
  induction l with
  | nil=>intro _ _;trivial
  | cons env r ih =>
   intro hs hl
   obtain⟨hk,⟨L,o,hf,hn,ho,hd⟩,hr⟩:=hl
   have hL:L∈X.fs:=hs L (by unfold frs;rw[List.filterMap_cons,hf];exact List.mem_cons_self)
   obtain⟨sl,e⟩:=I.base.slot L o ho (I.ok.frf L hL) hL λz=>I.ok.exfs L z hL
   exact⟨hk,⟨L,_,hf,hn,e,hd⟩,ih (λb hb=>hs b (by unfold frs;rw[List.filterMap_cons,hf];exact List.mem_cons_of_mem _ hb)) hr⟩
 exact all X.outer (λ_ hb=>hb) I.ok.funs
theorem Inv.stack (I:Inv X pins σ H s):s.heap.FunFrames X.base X.stack:=by
 rcases I.ok.stk with e | ⟨e,hf⟩
 ·rw[e];exact I.funs
 ·rw[e]
  obtain⟨m,hn,_⟩:=I.loc
  refine .cons (by rw[I.ok.kind];decide) hf hn ?_ I.funs
  exact Heap.get?_none_of_le (Nat.le_trans I.ok.bsz I.ok.above)
theorem Inv.stkSub (I:Inv X pins σ H s):∀b∈frs X.stack,b∈X.env.locals::X.fs:=λb hb=>by
 rcases I.ok.stk with e | ⟨e,hf⟩
 ·rw[e]at hb;exact List.mem_cons_of_mem _ hb
 ·rw[e]at hb
  unfold frs at hb
  rw[List.filterMap_cons,hf]at hb
  exact hb
theorem Inv.stkFree (I:Inv X pins σ H s):∀b∈frs X.stack,H b=none:=λb hb=>by
 rcases List.mem_cons.mp (I.stkSub b hb) with e | hb
 ·rw[e];exact I.free
 ·obtain⟨_,o,ho,_⟩:=I.ok.funs.mem hb
  exact I.base.free b o ho (I.ok.frf b hb) λz=>I.ok.exfs b z hb
theorem Inv.step {g':Array GenState}{t':Nat}{d':Drawn}{ch:List Addr}(I:Inv X pins σ H s)
  (hch:∀b∈ch,(b∈X.ex∨X.s₀.heap.objs.size≤b)∧b≠X.env.locals∧(∀x c,X.env.cells.lookup x=some c->c≠b)∧∀p∈X.pn++pins,p.1≠b)
  (keep:∀b o,b≠X.env.locals->b ∉ X.fs->b ∉ ch->s.heap.get? b=some o->H b=none->h'.get? b=some o)
  (slot:∀b o,b≠X.env.locals->b∈X.fs->b ∉ ch->s.heap.get? b=some o->H b=none->∃sl,h'.get? b=some { o with slots:=sl }) (free:∀b o,b ∉ ch->s.heap.get? b=some o->H b=none->H' b=none)
  (there:∀b o,b ∉ ch->s.heap.get? b=some o->∃o',h'.get? b=some o')
  (tups:∀b xs,H b=some (.tup xs)->H' b=some (.tup xs)) (frzs:∀b o u,H b=some (.frz o u)->H' b=some (.frz o u)) (tbls:∀b ps,H b=some (.tbl ps)->∃more,H' b=some (.tbl (ps++more)))
  (ns:∀m,s.heap.Ns X.env.locals m->h'.Ns X.env.locals m) (hok:HOk X.prog X.w H' h') (hg:AllBare g') :
  Inv X pins σ H' { s with heap:=h',gens:=g',drawn:=d',toks:=t' }:=by
 have neL:∀b o,X.s₀.heap.get? b=some o->b≠X.env.locals:=λb o e=>Nat.ne_of_lt (Nat.lt_of_lt_of_le (Heap.lt_size e) I.ok.above)
 have neC:∀b o,X.s₀.heap.get? b=some o->b ∉ X.ex->b ∉ ch:=λb o e hx hb=>by
  rcases(hch b hb).1 with z | z
  ·exact hx z
  ·exact absurd (Nat.lt_of_lt_of_le (Heap.lt_size e) z) (Nat.lt_irrefl _)
 have cellK:∀x c,X.env.cells.lookup x=some c->∀v,s.heap.IsCell c v->h'.IsCell c v:=λx c e v ⟨o,ho,hd⟩=>by
  have nch:c ∉ ch:=λz=>(hch c z).2.2.1 x c e rfl
  by_cases hc:c∈X.fs
  ·obtain⟨sl,q⟩:=slot c o (I.cne x c e) hc nch ho (I.freeC x c e)
   exact⟨_,q,hd⟩
  ·exact⟨o,keep c o (I.cne x c e) hc nch ho (I.freeC x c e),hd⟩
 refine⟨I.ok,I.os,hg,⟨λb o e n hb hx=>?_,λb o e n hb hx=>?_,λb o e n hx=>?_,λb o e hx=>?_,λb xs e=>tups b xs (I.base.tups b xs e),λb o xs e=>frzs b o xs (I.base.frzs b o xs e),λb ps e=>?_⟩,?_,λx c e=>?_,?_,λx c e=>?_,λp hp=>?_,hok,I.len⟩
 ·exact keep b o (neL b o e) hb (neC b o e hx) (I.base.keep b o e n hb hx) (I.base.free b o e n hx)
 ·obtain⟨sl,e1⟩:=I.base.slot b o e n hb hx
  obtain⟨sl',e2⟩:=slot b _ (neL b o e) hb (neC b o e hx) e1 (I.base.free b o e n hx)
  exact⟨sl',e2⟩
 ·obtain⟨o',e1⟩:=I.base.there b o e hx
  exact free b o' (neC b o e hx) e1 (I.base.free b o e n hx)
 ·obtain⟨o',e1⟩:=I.base.there b o e hx
  exact there b o' (neC b o e hx) e1
 ·obtain⟨m1,e1⟩:=I.base.tbls b ps e
  obtain⟨m2,e2⟩:=tbls b _ e1
  exact⟨m1++m2,by rw[e2,Array.append_assoc]⟩
 ·obtain⟨m,hn,hl⟩:=I.loc
  refine⟨m,ns m hn,λi x v e1 e2 e3=>?_⟩
  obtain⟨u,r,l⟩:=hl i x v e1 e2 e3
  refine⟨u,r,?_⟩
  rcases l with l | ⟨k,c,e,z⟩
  ·exact .inl l
  ·exact .inr ⟨k,c,e,cellK x c e _ z⟩
 ·obtain⟨v,z⟩:=I.cell x c e
  exact⟨v,cellK x c e v z⟩
 ·obtain⟨m,⟨o,_,_,ho,_⟩,_⟩:=I.loc
  exact free _ o (λz=>(hch _ z).2.1 rfl) ho I.free
 ·obtain⟨v,o,ho,hd⟩:=I.cell x c e
  exact free c o (λz=>(hch c z).2.2.1 x c e rfl) ho (I.freeC x c e)
 ·obtain⟨e,n,ne,nf,d⟩:=I.pin p hp
  have nch:p.1 ∉ ch:=λz=>(hch p.1 z).2.2.2 p hp rfl
  exact⟨keep p.1 p.2 ne nf nch e n,free p.1 p.2 nch e n,ne,nf,d⟩
theorem Inv.un {t':Nat}(I:Inv X pins σ H s)(u:Un X.fs [] H H' s.heap h')(hok:HOk X.prog X.w H' h'):Inv X pins σ H' { s with heap:=h',toks:=t' }:=by
 obtain⟨m,⟨o,es,ep,ho,r⟩,_⟩:=id I.loc
 obtain⟨sl,hL⟩:=u.any ho I.free (by simp)
 exact I.step (g':=s.gens) (d':=s.drawn) (ch:=[]) (λ_ z=>nomatch z) (λb o _ hb _ e n=>u.keep b o e n hb (by simp)) (λb o _ hb _ e n=>u.slot b o e n hb (by simp)) (λb o _ e n=>u.free b o e n (by simp)) (λb o _ e=>u.there b o e (by simp)) u.tups u.frzs u.tbls (λm' hm=>by
  obtain⟨o',es',ep',ho',r'⟩:=hm
  rw[ho]at ho';cases ho'
  exact⟨_,es',ep',hL,r'⟩) hok I.bare
theorem Inv.call {g':Array GenState}{t':Nat}{d':Drawn}{ch:List Addr}(I:Inv X pins σ H s)(u:Un (frs X.stack) ch H H' s.heap h')(hok:HOk X.prog X.w H' h')(hg:AllBare g')
  (hch:∀b∈ch,(b∈X.ex∨X.s₀.heap.objs.size≤b)∧b≠X.env.locals∧(∀x c,X.env.cells.lookup x=some c->c≠b)∧∀p∈X.pn++pins,p.1≠b) :
  Inv X pins σ H' { s with heap:=h',gens:=g',drawn:=d',toks:=t' }:=by
 obtain⟨m,⟨o,es,ep,ho,r⟩,_⟩:=id I.loc
 obtain⟨sl,hL⟩:=u.any ho I.free λz=>(hch _ z).2.1 rfl
 exact I.step (ch:=ch) hch (λb o hL hb hc e n=>u.keep b o e n (λz=>(List.mem_cons.mp (I.stkSub b z)).elim hL hb) hc) (λb o _ _ hc e n=>u.any e n hc) (λb o hc e n=>u.free b o e n hc) (λb o hc e=>u.there b o e hc) u.tups u.frzs u.tbls (λm' hm=>by
  obtain⟨o',es',ep',ho',r'⟩:=hm
  rw[ho]at ho';cases ho'
  exact⟨_,es',ep',hL,r'⟩) hok hg
theorem Inv.turned {t':Nat}{it:Addr}(I:Inv X pins σ H s)(k:∀b o,b≠it->s.heap.get? b=some o->h'.get? b=some o)(hn:H it=none)(hL:it≠X.env.locals)
  (h1:it∈X.ex∨X.s₀.heap.objs.size≤it) (h2:∀x c,X.env.cells.lookup x=some c->c≠it) (h3:∀p∈X.pn++pins,p.1≠it):Inv X pins σ H { s with heap:=h',toks:=t' }:=by
 have nit:∀b u,H b=some u->b≠it:=λb u e z=>by rw[z,hn]at e;cases e
 refine I.step (g':=s.gens) (d':=s.drawn) (ch:=[it]) (λb hb=>?_) (λb o _ _ hc e _=>k b o (λz=>hc (by simp[z])) e) (λb o _ _ hc e _=>⟨o.slots,k b o (λz=>hc (by simp[z])) e⟩) (λ_ _ _ _ n=>n)
  (λb o hc e=>⟨o,k b o (λz=>hc (by simp[z])) e⟩) (λ_ _ e=>e) (λ_ _ _ e=>e) (λb ps e=>⟨#[],by rw[e];simp⟩) (λm hm=>?_) (λb u e=>?_) I.bare
 ·have e:b=it:=by simpa using hb
  subst e
  exact⟨h1,hL,h2,h3⟩
 ·obtain⟨o,es,ep,ho,r⟩:=hm
  exact⟨o,es,ep,k _ o (Ne.symm hL) ho,r⟩
 ·refine(I.hok b u e).stay (λc v hc q=>k c v ?_ q) (λ_ q=>q) λ_ _ q=>q
  rcases hc with z | z
  ·rw[z];exact nit b u e
  ·exact nit c _ z
theorem Inv.tok (I:Inv X pins σ H s)(t:Nat):Inv X pins σ H { s with toks:=t }:=I.un (h':=s.heap) (t':=t) Un.refl I.hok
theorem Inv.kept {t':Nat}(I:Inv X pins σ H s)(k:∀b u,s.heap.get? b=some u->h'.get? b=some u):Inv X pins σ H { s with heap:=h',toks:=t' }:=I.un (Un.kept k) (I.hok.kept k)
theorem Inv.laid {a:Addr}{o:HO}{t':Nat}(I:Inv X pins σ H s)(k:∀b u,s.heap.get? b=some u->h'.get? b=some u)(hp:s.heap.objs.size≤a)(new:K2 X.prog X.w (upd H a o) h' a o) :
  Inv X pins σ (upd H a o) { s with heap:=h',toks:=t' }:=I.un (Un.laid k hp (I.hok.fresh hp)) (I.hok.laid k hp new)
theorem Inv.write {x e:Addr}{o:HO}{t':Nat}(I:Inv X pins σ H s)(mu:Mut (H x))(he:e=x∨H e=some (.own x))(k:∀b u,b≠e->s.heap.get? b=some u->h'.get? b=some u)(heo:∃u,h'.get? e=some u)
  (new:K2 X.prog X.w (upd H x o) h' x o):Inv X pins σ (upd H x o) { s with heap:=h',toks:=t' }:=I.un (Un.write mu he k heo) (I.hok.write mu he k heo new)
theorem Inv.pins_of {pins':List (Addr×Obj)}(I:Inv X pins σ H s)(h:∀p∈pins',s.heap.get? p.1=some p.2∧H p.1=none∧p.1≠X.env.locals∧p.1 ∉ X.fs∧∀v,p.2.data ≠ .cell v):Inv X pins' σ H s :=
 ⟨I.ok,I.os,I.bare,I.base,I.loc,I.cell,I.free,I.freeC,λp hp=>(List.mem_append.mp hp).elim (λz=>I.pin p (List.mem_append_left _ z)) (h p),I.hok,I.len⟩
theorem a3f {N:List Str}(hN:N.Nodup){i j:Nat}{x:Str}(a:N[i]? = some x)(b:N[j]? = some x):i=j:=by
 obtain⟨h1,e1⟩:=List.getElem?_eq_some_iff.mp a
 obtain⟨h2,e2⟩:=List.getElem?_eq_some_iff.mp b
 exact(List.getElem_inj hN).mp (e1.trans e2.symm)
theorem a6j {M:Model}{A:Around}{E:Value->Shared->Prop}{i:Nat}{x:Str}{v:V}{u:Value}{Q:Unit->Shared->Prop}(I:Inv X pins σ H s)(hN:X.N.Nodup)(hi:X.N[i]? = some x)(hx:Loc X.env.scope x)(r:p8 v u)
  (h:∀s',Inv X pins (σ.set i (some v)) H s'->(∃a,Heap.SameBut a s.heap s'.heap∧(a=X.env.locals∨X.env.cells.lookup x=some a))->Q () s') (hf:X.fn x=true∨X.env.scope.names.lookup x=some .local:=by first | exact .inl rfl | exact .inr rfl | assumption):wpAny M A (storeName X.env x u) Q E s:=by
 obtain⟨m,hn,hl⟩:=id I.loc
 have hcls:(X.env.scope.kind == .class||(X.env.scope.kind == .module&&X.env.locals != X.env.globals))=false:=by rw[I.ok.kind];rfl
 have hiσ:i < σ.length:=by rw[I.len];exact(List.getElem?_eq_some_iff.mp hi).1
 have cne:=I.cne
 have tracked:∀{a:Addr} {h':Heap},(∃o,s.heap.get? a=some o∧H a=none)->Heap.SameBut a s.heap h'->HOk X.prog X.w H h':=λ{a h'} ha hs b ob e=>by
  obtain⟨_,_,hfree⟩:=ha
  refine(I.hok b ob e).stay (λc w' hc q=>(hs.2 c ?_).trans q) (λ_ q=>q) λ_ _ q=>q
  rintro rfl
  rcases hc with rfl | hc
  ·rw[hfree]at e;cases e
  ·rw[hfree]at hc;cases hc
 rcases hx with hk | hk
 ·refine wpAny_storeName_local hk hn (λh' hn' hs=>?_) hcls
  obtain⟨oL,_,_,hoL,_⟩:=id hn
  refine h _ ⟨I.ok,I.os,I.bare,⟨λb o e n hb hx=>?_,λb o e n hb hx=>?_,I.base.free,λb o e hx=>?_,I.base.tups,I.base.frzs,I.base.tbls⟩,⟨_,hn',λj y v' e1 e2 e3=>?_⟩,λy c e=>?_,I.free,I.freeC,λp hp=>?_,tracked ⟨oL,hoL,I.free⟩ hs,by simpa using I.len⟩ ⟨_,hs,.inl rfl⟩
  ·exact(hs.2 b (Nat.ne_of_lt (Nat.lt_of_lt_of_le (Heap.lt_size e) I.ok.above))).trans (I.base.keep b o e n hb hx)
  ·obtain⟨sl,e1⟩:=I.base.slot b o e n hb hx
   exact⟨sl,(hs.2 b (Nat.ne_of_lt (Nat.lt_of_lt_of_le (Heap.lt_size e) I.ok.above))).trans e1⟩
  ·obtain⟨o',e1⟩:=I.base.there b o e hx
   exact⟨o',(hs.2 b (Nat.ne_of_lt (Nat.lt_of_lt_of_le (Heap.lt_size e) I.ok.above))).trans e1⟩
  ·by_cases hj:j=i
   ·subst hj
    rw[hi]at e1;cases e1
    rw[List.getElem?_set_self hiσ]at e2
    cases e2
    exact⟨u,r,.inl ⟨hk,by simp⟩⟩
   ·rw[List.getElem?_set_ne (Ne.symm hj)]at e2
    obtain⟨u',r',q⟩:=hl j y v' e1 e2 e3
    refine⟨u',r',?_⟩
    rcases q with ⟨k,e⟩ | ⟨k,c,e,z⟩
    ·refine .inl ⟨k,?_⟩
     have:y≠x:=λe=>hj (a3f hN e1 (e▸hi))
     simp[this,e]
    ·exact .inr ⟨k,c,e,z.sameBut hs (cne y c e)⟩
  ·obtain⟨w',z⟩:=I.cell y c e
   exact⟨w',z.sameBut hs (cne y c e)⟩
  ·obtain⟨e,n,ne,nf,d⟩:=I.pin p hp
   exact⟨(hs.2 p.1 ne).trans e,n,ne,nf,d⟩
 ·have hfn:X.fn x=true:=by
   rcases hf with z | z
   ·exact z
   ·rw[z]at hk;cases hk
  obtain⟨c,hc⟩:=I.ok.has x (.inl hk)
  obtain⟨w',z⟩:=I.cell x c hc
  refine wpAny_storeName_cell I.ok.kind hk hc z (λh' hc' hs=>?_)
  obtain⟨oc,hoc,hocd⟩:=id z
  refine h { s with heap:=h' } ⟨I.ok,I.os,I.bare,⟨λb o e n hb hx=>?_,λb o e n hb hx=>?_,I.base.free,λb o e hx=>?_,I.base.tups,I.base.frzs,I.base.tbls⟩,⟨m,hn.sameBut hs (Ne.symm (cne x c hc)),λj y v' e1 e2 e3=>?_⟩,λy c' e=>?_,I.free,I.freeC,λp hp=>?_,tracked ⟨oc,hoc,I.freeC x c hc⟩ hs,by simpa using I.len⟩ ⟨c,hs,.inr hc⟩
  ·exact(hs.2 b (Nat.ne_of_lt (Nat.lt_of_lt_of_le (Heap.lt_size e) (I.ok.cab x c hfn hc)))).trans (I.base.keep b o e n hb hx)
  ·obtain⟨sl,e1⟩:=I.base.slot b o e n hb hx
   exact⟨sl,(hs.2 b (Nat.ne_of_lt (Nat.lt_of_lt_of_le (Heap.lt_size e) (I.ok.cab x c hfn hc)))).trans e1⟩
  ·obtain⟨o',e1⟩:=I.base.there b o e hx
   exact⟨o',(hs.2 b (Nat.ne_of_lt (Nat.lt_of_lt_of_le (Heap.lt_size e) (I.ok.cab x c hfn hc)))).trans e1⟩
  ·by_cases hj:j=i
   ·subst hj
    rw[hi]at e1;cases e1
    rw[List.getElem?_set_self hiσ]at e2
    cases e2
    exact⟨u,r,.inr ⟨.inl hk,c,hc,hc'⟩⟩
   ·rw[List.getElem?_set_ne (Ne.symm hj)]at e2
    obtain⟨u',r',q⟩:=hl j y v' e1 e2 e3
    refine⟨u',r',?_⟩
    rcases q with q | ⟨k,c',e,z'⟩
    ·exact .inl q
    ·refine .inr ⟨k,c',e,z'.sameBut hs ?_⟩
     rintro rfl
     exact hj (a3f hN e1 (I.ok.inj _ _ _ e hc▸hi))
  ·by_cases hcc:c'=c
   ·subst hcc;exact⟨_,hc'⟩
   ·obtain⟨w2,z2⟩:=I.cell y c' e
    exact⟨w2,z2.sameBut hs hcc⟩
  ·obtain⟨e,n,ne,nf,d⟩:=I.pin p hp
   refine⟨(hs.2 p.1 ?_).trans e,n,ne,nf,d⟩
   intro q
   rw[q,hoc]at e
   have q':oc=p.2:=Option.some.inj e
   exact d w' (by rw[←q'];exact hocd)
theorem D1 {M:Model}{A:Around}{E:Value->Shared->Prop}{i:Nat}{x:Str}{v:V}{u:Value}{Q:Unit->Shared->Prop}(I:Inv X pins σ H s)(hN:X.N.Nodup)(hi:X.N[i]? = some x)(hx:Loc X.env.scope x)(r:p8 v u)
  (h:∀s',Inv X pins (σ.set i (some v)) H s'->Q () s') (hf:X.fn x=true∨X.env.scope.names.lookup x=some .local:=by first | exact .inl rfl | exact .inr rfl | assumption):wpAny M A (storeName X.env x u) Q E s :=
 a6j I hN hi hx r (λs' I' _=>h s' I') hf
theorem Inv.call' {s':Shared}{ch:List Addr}(I:Inv X pins σ H s)(ho:s'.os=s.os)(u:Un (frs X.stack) ch H H' s.heap s'.heap)(hok:HOk X.prog X.w H' s'.heap)(hg:AllBare s'.gens)
  (hch:∀b∈ch,(b∈X.ex∨X.s₀.heap.objs.size≤b)∧b≠X.env.locals∧(∀x c,X.env.cells.lookup x=some c->c≠b)∧∀p∈X.pn++pins,p.1≠b):Inv X pins σ H' s':=by
 obtain⟨h',g',d',t',o'⟩:=s'
 have e:o'=s.os:=ho
 subst e
 exact I.call (g':=g') (t':=t') (d':=d') u hok hg hch
end
noncomputable abbrev XK:=Value->Option Addr->Hp->Prop
noncomputable abbrev St:=List (Option V)
noncomputable abbrev VK:=V->Hp->Prop
noncomputable abbrev TE:=St->Hp->VK->Prop
noncomputable abbrev TT:=St->Hp->(Bool->Hp->Prop)->Prop
noncomputable abbrev TA:=St->Hp->(List V->Hp->Prop)->Prop
structure Ends where
 nx:St->Hp->Prop
 rt:VK
 bk:St->Hp->Prop:=λ_ _=>False
 ct:St->Hp->Prop:=λ_ _=>False
noncomputable abbrev TS:=Ends->St->Hp->Prop
noncomputable def EP (X:Cx)(pins:List (Addr×Obj))(σ:St)(Q:VK)(u:Value)(s':Shared):Prop:=∃v H',Inv X pins σ H' s'∧p8 v u∧Q v H'
noncomputable def TP (X:Cx)(pins:List (Addr×Obj))(σ:St)(Q:Bool->Hp->Prop)(b:Bool)(s':Shared):Prop:=∃H',Inv X pins σ H' s'∧Q b H'
noncomputable def AP (X:Cx)(pins:List (Addr×Obj))(σ:St)(Q:List V->Hp->Prop)(us:List Value)(s':Shared):Prop:=∃vs H',Inv X pins σ H' s'∧j3 vs us∧Q vs H'
noncomputable def SP (X:Cx)(pins:List (Addr×Obj))(D:Ends)(f:Flow)(s':Shared):Prop :=
 match f with
 | .next=>∃σ' H',Inv X pins σ' H' s'∧D.nx σ' H'
 | .brk=>∃σ' H',Inv X pins σ' H' s'∧D.bk σ' H'
 | .cont=>∃σ' H',Inv X pins σ' H' s'∧D.ct σ' H'
 | .ret u=>∃v σ' H',Inv X pins σ' H' s'∧p8 v u∧D.rt v H'
noncomputable def PE (X:Cx)(e:Expr)(t:TE):Prop :=
 ∀(pins:List (Addr×Obj)) (s:Shared) (σ:St) (H:Hp) (Q:VK),Inv X pins σ H s->t σ H Q->wpAny (model X.prog X.w) X.A (eval e X.env) (EP X pins σ Q) X.xe s
noncomputable def PT (X:Cx)(e:Expr)(t:TT):Prop :=
 ∀(pins:List (Addr×Obj)) (s:Shared) (σ:St) (H:Hp) (Q:Bool->Hp->Prop),Inv X pins σ H s->t σ H Q->wpAny (model X.prog X.w) X.A (isTrue e X.env (eval e X.env)) (TP X pins σ Q) X.xe s
noncomputable def PW (X:Cx)(e:Expr)(t:TT):Prop :=
 ∀(whole:Sem Value) (pins:List (Addr×Obj)) (s:Shared) (σ:St) (H:Hp) (Q:Bool->Hp->Prop),Inv X pins σ H s->t σ H Q->wpAny (model X.prog X.w) X.A (isTrue e X.env whole) (TP X pins σ Q) X.xe s
theorem PW.pt {X:Cx}{e:Expr}{t:TT}(h:PW X e t):PT X e t:=h _
noncomputable def PA (X:Cx)(es:List Expr)(t:TA):Prop :=
 ∀(pos:Pos) (pins:List (Addr×Obj)) (s:Shared) (σ:St) (H:Hp) (Q:List V->Hp->Prop),Inv X pins σ H s->t σ H Q->wpAny (model X.prog X.w) X.A (spliced (backTo pos (starEach es X.env))) (AP X pins σ Q) X.xe s
noncomputable def PS (X:Cx)(st:Stmt)(t:TS):Prop :=
 ∀(pins:List (Addr×Obj)) (s:Shared) (σ:St) (H:Hp) (D:Ends),Inv X pins σ H s->t D σ H->wpAny (model X.prog X.w) X.A (exec st X.env) (SP X pins D) X.xe s
noncomputable def PSs (X:Cx)(st:List Stmt)(t:TS):Prop :=
 ∀(pins:List (Addr×Obj)) (s:Shared) (σ:St) (H:Hp) (D:Ends),Inv X pins σ H s->t D σ H->wpAny (model X.prog X.w) X.A (execs st X.env) (SP X pins D) X.xe s
theorem thn {α:Type}{t:Sem α}{Q Q':α->Shared->Prop}{M:Model}{A:Around}{E:Value->Shared->Prop}{s:Shared}(h:wpAny M A t Q E s)(hQ:∀a s,Q a s->Q' a s):wpAny M A t Q' E s:=wpAny_mono h hQ λ_ _ x=>x
end L2
namespace L2
open PySem PySem.Spec PyProof.Rows
section
variable {X:Cx}
noncomputable def a0N (i:Nat):TE:=λσ H Q=>∃v,σ[i]? = some (some v)∧Q v H
noncomputable def tC (v:V):TE:=λ_ H Q=>Q v H
theorem V8 {i:Nat}{x:Str}{pos:Pos}(hN:X.N[i]? = some x)(hv:Vis X.env.scope x)(hd:(x == ("__debug__":Str))=false:=by decide)(hcd:(x == ("__classdict__":Str))=false:=by decide):PE X (.Name x pos) (a0N i):=by
 intro pins s σ H Q I h
 obtain⟨v,e,h⟩:=h
 obtain⟨m,hn,hl⟩:=I.loc
 obtain⟨u,r,l⟩:=hl i x v hN e hv
 have fin:EP X pins σ Q u s:=⟨v,H,I,r,h⟩
 rcases l with ⟨hk,hm⟩ | ⟨hk,c,hc,hcell⟩
 ·exact wpAny_Name (wpAny_loadName_local I.ok.kind hk hn hm fin) hd
 ·rcases hk with hk | hk
  ·exact wpAny_Name (wpAny_loadName_cell I.ok.kind hk hc hcell fin) hd
  ·exact wpAny_Name (wpAny_loadName_free I.ok.kind hk hc hcell fin hcd) hd
theorem l4 {i j pos}:PE X (.Constant (.int i) j pos) (tC (.int i)):=λ_ _ _ H _ I h=>wpAny_Constant_int ⟨.int i,H,I.tok _,⟨_,rfl⟩,h⟩
theorem b26 {b j pos}:PE X (.Constant (.bool b) j pos) (tC (.bl b)):=λ_ _ _ H _ I h=>Constant_bool ⟨.bl b,H,I,rfl,h⟩
theorem b1s {j pos}:PE X (.Constant .none j pos) (tC .non):=λ_ _ _ H _ I h=>Constant_none ⟨.non,H,I,rfl,h⟩
theorem b0Z {x j pos}:PE X (.Constant (.str x) j pos) (tC (.str x)):=λ_ _ _ H _ I h=>Calls.Constant_str ⟨.str x,H,I.tok _,⟨_,rfl⟩,h⟩
noncomputable def Gl (X:Cx)(x:Str):Prop:=X.env.kindOf x=some .globalImplicit
theorem a5m {E:Value->Shared->Prop}{pins:List (Addr×Obj)}{s:Shared}{σ:St}{H:Hp}{x:Str}{u:Value}{pos:Pos}{Q:Value->Shared->Prop}(I:Inv X pins σ H s)(hg:Gl X x)(hm:X.mg x=some u)(h:Q u s)
  (hd:(x == ("__debug__":Str))=false:=by decide):wpAny (model X.prog X.w) X.A (eval (.Name x pos) X.env) Q E s :=
 Calls.Name_function_global I.ok.kind hg (Calls.loadGlobal_global (by rw[I.ok.glob];exact I.mod.glob.keeps I.bk) hm h) hd
theorem U8 {E:Value->Shared->Prop}{pins:List (Addr×Obj)}{s:Shared}{σ:St}{H:Hp}{x:Str}{u:Value}{pos:Pos}{Q:Value->Shared->Prop}(I:Inv X pins σ H s)(hg:Gl X x)(hm:X.mg x=none)(hv:bootBuiltins x=some u)(h:Q u s)
  (hn:x ≠ "__name__":=by decide) (hd:(x == ("__debug__":Str))=false:=by decide):wpAny (model X.prog X.w) X.A (eval (.Name x pos) X.env) Q E s:=by
 obtain⟨mb,h1,h2⟩:=I.mod.blt
 exact Calls.Name_function_global I.ok.kind hg (Calls.loadGlobal_builtin (by rw[I.ok.glob];exact I.mod.glob.keeps I.bk) hm (by rw[I.ok.blt];exact h1.keeps I.bk) ((h2 x hn).trans hv) h) hd
theorem a9f {x:Str}{v:V}{u:Value}{pos:Pos}(hg:Gl X x)(hm:X.mg x=some u)(r:p8 v u)(hd:(x == ("__debug__":Str))=false:=by decide):PE X (.Name x pos) (tC v) :=
 λ_ _ _ H _ I h=>a5m I hg hm ⟨v,H,I,r,h⟩ hd
variable {a b:Expr}{ta tb:TE}{pos:Pos}
variable {tA tB':TT}{rest:List Expr}
noncomputable def b33 (t u:TT):TT:=λσ H Q=>t σ H λc H1=>if c=true then u σ H1 Q else Q false H1
noncomputable def tOr (t u:TT):TT:=λσ H Q=>t σ H λc H1=>if c=true then Q true H1 else u σ H1 Q
theorem a9u (ha:PT X a tA):PW X (.BoolOp .And [a] pos) tA:=by
 intro wh pins s σ H Q I h
 refine isTrue_and (thn (ha pins s σ H Q I h) λc s1 e=>?_)
 cases c with
 | true=>exact isTrue_and_nil e
 | false=>exact e
theorem b1r (ha:PT X a tA):PW X (.BoolOp .Or [a] pos) tA:=by
 intro wh pins s σ H Q I h
 refine isTrue_or (thn (ha pins s σ H Q I h) λc s1 e=>?_)
 cases c with
 | false=>exact isTrue_or_nil e
 | true=>exact e
theorem b0g (ha:PT X a tA)(hb:PW X (.BoolOp .And (b::rest) pos) tB'):PW X (.BoolOp .And (a::b::rest) pos) (b33 tA tB'):=by
 intro wh pins s σ H Q I h
 refine isTrue_and (thn (ha pins s σ H _ I h) λc s1 ⟨H1,I1,q1⟩=>?_)
 cases c with
 | true=>exact hb wh pins s1 σ H1 Q I1 q1
 | false=>exact⟨H1,I1,q1⟩
theorem b2x (ha:PT X a tA)(hb:PW X (.BoolOp .Or (b::rest) pos) tB'):PW X (.BoolOp .Or (a::b::rest) pos) (tOr tA tB'):=by
 intro wh pins s σ H Q I h
 refine isTrue_or (thn (ha pins s σ H _ I h) λc s1 ⟨H1,I1,q1⟩=>?_)
 cases c with
 | true=>exact⟨H1,I1,q1⟩
 | false=>exact hb wh pins s1 σ H1 Q I1 q1
noncomputable def b02 (ta:TE):TE:=λσ H Q=>ta σ H λx H1=>∃c,x = .bl c∧Q (.bl (!c)) H1
theorem b0Q (ha:PE X a ta):PE X (.UnaryOp .Not a pos) (b02 ta):=by
 intro pins s σ H Q I h
 refine UnaryOp_ (thn (ha pins s σ H _ I h) λv s1 ⟨x,H1,I1,r1,q1⟩=>?_)
 obtain⟨c,rfl,q1⟩:=q1
 cases r1
 exact not_of (wpAny_truthy_bool ⟨.bl (!c),H1,I1,rfl,q1⟩)
noncomputable def tIf (t:TT)(ta tb:TE):TE:=λσ H Q=>t σ H λc H1=>if c=true then ta σ H1 Q else tb σ H1 Q
theorem a3j {c:Expr}(hc:PT X c tA)(ha:PE X a ta)(hb:PE X b tb):PE X (.IfExp c a b pos) (tIf tA ta tb):=by
 intro pins s σ H Q I h
 refine wpAny_IfExp (thn (hc pins s σ H _ I h) λd s1 ⟨H1,I1,q1⟩=>?_)
 cases d with
 | true=>exact ha pins s1 σ H1 Q I1 q1
 | false=>exact hb pins s1 σ H1 Q I1 q1
end
end L2
namespace L2
open PySem PySem.Spec PyProof.Rows
noncomputable def SqL (K:PySem.W.Frag)(H:Hp)(a:Addr)(xs:List V):Prop :=
 Rd H a (.lst xs) ∨
  ∃(o:Obj) (its:Array Value) (n:Nat),K.lookup a=some o∧o.cls = .type "list" ∧ o.dict=none∧o.data = .seq its n∧its.size≤sizeLine∧j3 xs its.toList
noncomputable def SqT (K:PySem.W.Frag)(H:Hp)(a:Addr)(xs:List V):Prop :=
 Rd H a (.tup xs) ∨
  ∃(o:Obj) (its:Array Value) (n:Nat),K.lookup a=some o∧o.cls = .type "tuple" ∧ o.data = .seq its n∧its.size≤sizeLine∧j3 xs its.toList
noncomputable def b2Y:Value->Option V
 | .none=>some .non
 | .bool b=>some (.bl b)
 | .int i _=>some (.int i)
 | .str x _=>some (.str x)
 | .bytes b _=>some (.byt b)
 | .float b _=>some (.flt b)
 | .ref a=>some (.ref a)
 | .type n=>some (.ty n)
 | _=>none
theorem p8.abs {x:V}{u:Value}(r:p8 x u):b2Y u=some x:=by
 cases x with
 | non=>cases r;rfl
 | bl _=>cases r;rfl
 | int _=>obtain⟨t,rfl⟩:=r;rfl
 | str _=>obtain⟨t,rfl⟩:=r;rfl
 | byt _=>obtain⟨t,rfl⟩:=r;rfl
 | flt _=>obtain⟨t,rfl⟩:=r;rfl
 | ref _=>cases r;rfl
 | ty _=>cases r;rfl
theorem p8.inj {x y:V}{u:Value}(r:p8 x u)(q:p8 y u):x=y:=Option.some.inj (r.abs.symm.trans q.abs)
theorem j3.inj:∀{xs ys:List V} {us:List Value},j3 xs us->j3 ys us->xs=ys
 | _,_,_,.nil,.nil=>rfl
 | _,_,_,.cons r t,.cons r' t'=>by rw[r.inj r',j3.inj t t']
section
variable {X:Cx}{pins:List (Addr×Obj)}{σ:St}{H:Hp}{s:Shared}{a:Addr}{xs ys:List V}
theorem SqL.of {K:PySem.W.Frag}(h:H a=some (.lst xs)):SqL K H a xs:=.inl (.inl h)
theorem SqT.of {K:PySem.W.Frag}(h:H a=some (.tup xs)):SqT K H a xs:=.inl (.inl h)
theorem Inv.list (I:Inv X pins σ H s)(h:SqL X.K H a xs):∃its:List Value,j3 xs its∧PlainL s.heap a its.toArray∧xs.length≤sizeLine:=by
 rcases h with h | ⟨o,its,n,hk,hc,hd,hs,hz,r⟩
 ·obtain⟨z,its,n,r,e⟩:=h.ok I.hok
  exact⟨its,r,⟨_,n,e,rfl,rfl,rfl⟩,z⟩
 ·refine⟨its.toList,r,⟨o,n,I.kIn a o hk,hc,hd,by simpa using hs⟩,?_⟩
  have e:=r.length
  simp only[Array.length_toList]at e
  omega
theorem Inv.tuple (I:Inv X pins σ H s)(h:SqT X.K H a xs):∃its:List Value,j3 xs its∧IsTup s.heap a its.toArray∧xs.length≤sizeLine:=by
 rcases h with h | ⟨o,its,n,hk,hc,hs,hz,r⟩
 ·obtain⟨z,its,r,p⟩:=h.ok I.hok
  exact⟨its,r,p,z⟩
 ·refine⟨its.toList,r,⟨o,I.kIn a o hk,hc,n,by simpa using hs⟩,?_⟩
  have e:=r.length
  simp only[Array.length_toList]at e
  omega
theorem Inv.list_inj (I:Inv X pins σ H s)(h:SqL X.K H a xs)(h':SqL X.K H a ys):xs=ys:=by
 obtain⟨its,r,⟨o,n,e,_,_,d⟩,_⟩:=I.list h
 obtain⟨its',r',⟨o',n',e',_,_,d'⟩,_⟩:=I.list h'
 rw[e]at e';cases e'
 rw[d]at d'
 injection d' with d1 _
 have:its=its':=by simpa using congrArg Array.toList d1
 subst this
 exact r.inj r'
theorem Inv.tuple_inj (I:Inv X pins σ H s)(h:SqT X.K H a xs)(h':SqT X.K H a ys):xs=ys:=by
 obtain⟨its,r,⟨o,e,_,n,d⟩,_⟩:=I.tuple h
 obtain⟨its',r',⟨o',e',_,n',d'⟩,_⟩:=I.tuple h'
 rw[e]at e';cases e'
 rw[d]at d'
 injection d' with d1 _
 have:its=its':=by simpa using congrArg Array.toList d1
 subst this
 exact r.inj r'
end
noncomputable abbrev Cx.wish (X:Cx)(E:Value->Shared->Prop):Cx:={ X with xe:=E }
noncomputable abbrev Cx.nox (X:Cx):Cx:=X.wish λ_ _=>False
theorem Cx.Ok.wish {X:Cx}(ok:X.Ok)(E:Value->Shared->Prop):(X.wish E).Ok :=
 ⟨ok.mod,ok.kind,ok.glob,ok.blt,ok.above,ok.inj,ok.has,ok.cab,ok.hd,ok.frames,ok.stk,ok.exf,ok.bs,ok.bsz,ok.noex,ok.exfs,ok.funs,ok.frf⟩
theorem Cx.Ok.unwish {X:Cx}{E:Value->Shared->Prop}(ok:(X.wish E).Ok):X.Ok :=
 ⟨ok.mod,ok.kind,ok.glob,ok.blt,ok.above,ok.inj,ok.has,ok.cab,ok.hd,ok.frames,ok.stk,ok.exf,ok.bs,ok.bsz,ok.noex,ok.exfs,ok.funs,ok.frf⟩
section
variable {X:Cx}{pins:List (Addr×Obj)}{σ:St}{H:Hp}{s:Shared}{E:Value->Shared->Prop}
theorem Inv.wish (I:Inv X pins σ H s)(E:Value->Shared->Prop):Inv (X.wish E) pins σ H s:=⟨I.ok.wish E,I.os,I.bare,I.base,I.loc,I.cell,I.free,I.freeC,I.pin,I.hok,I.len⟩
theorem Inv.unwish (I:Inv (X.wish E) pins σ H s):Inv X pins σ H s:=⟨I.ok.unwish,I.os,I.bare,I.base,I.loc,I.cell,I.free,I.freeC,I.pin,I.hok,I.len⟩
theorem SP.unwish {D:Ends}{f:Flow}{s':Shared}(h:SP (X.wish E) pins D f s'):SP X pins D f s':=by
 cases f with
 | next=>obtain⟨σ',H',I,q⟩:=h;exact⟨σ',H',I.unwish,q⟩
 | brk=>obtain⟨σ',H',I,q⟩:=h;exact⟨σ',H',I.unwish,q⟩
 | cont=>obtain⟨σ',H',I,q⟩:=h;exact⟨σ',H',I.unwish,q⟩
 | ret u=>obtain⟨v,σ',H',I,r,q⟩:=h;exact⟨v,σ',H',I.unwish,r,q⟩
theorem PSs.nox {st:List Stmt}{t:TS}(h:PSs X.nox st t):PSs X st t:=λpins s σ H D I hw =>
 wpAny_mono (h pins s σ H D (I.wish _) hw) (λ_ _ q=>q.unwish) λ_ _ z=>False.elim z
end
section
variable {X:Cx}{st:Stmt}{rest:List Stmt}{t u:TS}{e:Expr}{te:TE}{pos:Pos}
noncomputable def b07:TS:=λD σ H=>D.nx σ H
noncomputable def b0Y (t u:TS):TS:=λD σ H=>t { D with nx:=u D } σ H
theorem a2S:PSs X [] b07:=λ_ _ σ H _ I h=>wpAny_execs_nil ⟨σ,H,I,h⟩
theorem A5 (h1:PS X st t)(h2:PSs X rest u):PSs X (st::rest) (b0Y t u):=by
 intro pins s σ H D I h
 refine wpAny_execs_cons (thn (h1 pins s σ H { D with nx:=u D } I h) λf s1 q=>?_)
 cases f with
 | next =>
  obtain⟨σ',H',I',q⟩:=q
  exact h2 pins s1 σ' H' D I' q
 | ret v=>exact q
 | brk=>exact q
 | cont=>exact q
theorem X1 (h1:PS X st t):PSs X [st] t:=by
 intro pins s σ H D I h
 refine wpAny_execs_cons (thn (h1 pins s σ H D I h) λf s1 q=>?_)
 cases f with
 | next=>exact wpAny_execs_nil q
 | ret v=>exact q
 | brk=>exact q
 | cont=>exact q
theorem Inv.quiet {pins:List (Addr×Obj)}{σ:St}{H:Hp}{s:Shared}(I:Inv X pins σ H s):interactive X.env=false:=by simp[interactive,I.ok.kind]
noncomputable def a78 (te:TE):TS:=λD σ H=>te σ H λ_ H1=>D.nx σ H1
theorem a9t (he:PE X e te)(hs:swapsWith e none pos.line X.env=pure false:=by rfl):PS X (.Expr e pos) (a78 te):=by
 intro pins s σ H D I h
 exact wpAny_Expr_any (thn (he pins s σ H _ I h) λv s1 ⟨x,H1,I1,r1,q1⟩=>⟨σ,H1,I1,q1⟩) I.quiet hs
noncomputable def b1w (te:TE):TS:=λD σ H=>te σ H D.rt
theorem a09 (he:PE X e te):PS X (.Return (some e) pos) (b1w te):=by
 intro pins s σ H D I h
 exact wpAny_Return_some (thn (he pins s σ H _ I h) λv s1 ⟨x,H1,I1,r1,q1⟩=>⟨x,σ,H1,I1,r1,q1⟩)
noncomputable def b27 (c:TT)(t u:TS):TS:=λD σ H=>c σ H λb H1=>if b=true then t D σ H1 else u D σ H1
theorem a8l {c:Expr}{a b:List Stmt}{tc:TT}(hc:PT X c tc)(ha:PSs X a t)(hb:PSs X b u):PS X (.If c a b pos) (b27 tc t u):=by
 intro pins s σ H D I h
 refine wpAny_If (thn (hc pins s σ H _ I h) λd s1 ⟨H1,I1,q1⟩=>?_)
 cases d with
 | true=>exact ha pins s1 σ H1 D I1 q1
 | false=>exact hb pins s1 σ H1 D I1 q1
end
noncomputable abbrev TG:=V->St->Hp->(St->Hp->Prop)->Prop
noncomputable abbrev TGs:=List V->St->Hp->(St->Hp->Prop)->Prop
noncomputable def PG (X:Cx)(target:Expr)(t:TG):Prop :=
 ∀(pins:List (Addr×Obj)) (s:Shared) (σ:St) (H:Hp) (v:V) (u:Value) (Q:St->Hp->Prop),Inv X pins σ H s->p8 v u->t v σ H Q ->
  wpAny (model X.prog X.w) X.A (assign target X.env u) (λ_ s'=>∃σ' H',Inv X pins σ' H' s'∧Q σ' H') X.xe s
noncomputable def PGs (X:Cx)(ts:List Expr)(t:TGs):Prop :=
 ∀(pins:List (Addr×Obj)) (s:Shared) (σ:St) (H:Hp) (vs:List V) (us:List Value) (Q:St->Hp->Prop),Inv X pins σ H s->j3 vs us->t vs σ H Q ->
  wpAny (model X.prog X.w) X.A (assignInOrder ((assignEach ts X.env).map (·.2)) us) (λ_ s'=>∃σ' H',Inv X pins σ' H' s'∧Q σ' H') X.xe s
noncomputable abbrev b0P:=V->V->V->Hp->(Hp->Prop)->Prop
noncomputable def b1I (X:Cx)(t:b0P):Prop :=
 ∀(pins:List (Addr×Obj)) (s:Shared) (σ:St) (H:Hp) (o i v:V) (ov iv u:Value) (Q:Hp->Prop),Inv X pins σ H s->p8 o ov->p8 i iv->p8 v u->t o i v H Q ->
  wpAny (model X.prog X.w) X.A (setItem ov iv u) (λ_ s'=>∃H',Inv X pins σ H' s'∧Q H') X.xe s
noncomputable abbrev TIp:=V->V->Hp->VK->Prop
noncomputable def PIp (X:Cx)(op:Operator)(t:TIp):Prop :=
 ∀(pins:List (Addr×Obj)) (s:Shared) (σ:St) (H:Hp) (x y:V) (v u:Value) (Q:VK),Inv X pins σ H s->p8 x v->p8 y u->t x y H Q ->
  wpAny (model X.prog X.w) X.A (inplaceOp op v u) (EP X pins σ Q) X.xe s
section
variable {X:Cx}{pos:Pos}
noncomputable def P3 (i:Nat):TG:=λv σ H Q=>Q (σ.set i (some v)) H
theorem a2R {i:Nat}{x:Str}(hN:X.N.Nodup)(hi:X.N[i]? = some x)(hx:Loc X.env.scope x)(hf:X.fn x=true∨X.env.scope.names.lookup x=some .local:=by first | exact .inl rfl | exact .inr rfl | assumption):PG X (.Name x pos) (P3 i):=by
 intro pins s σ H v u Q I r h
 exact wpAny_assign_Name (D1 I hN hi hx r (λs' I'=>⟨_,H,I',h⟩) hf)
noncomputable def b0K:TGs:=λvs σ H Q=>vs=[]∧Q σ H
noncomputable def a4V (t:TG)(u:TGs):TGs:=λvs σ H Q=>∃v r,vs=v::r∧t v σ H λσ' H'=>u r σ' H' Q
theorem a5u:PGs X [] b0K:=by
 intro pins s σ H vs us Q I r h
 obtain⟨e,h⟩:=h
 subst e
 cases r
 exact assignInOrder_nil ⟨σ,H,I,h⟩
theorem a1N {e:Expr}{es:List Expr}{t:TG}{u:TGs}(h1:PG X e t)(h2:PGs X es u)
  (hs:(assignEach (e::es) X.env).map (·.2)=assign e X.env::(assignEach es X.env).map (·.2):=by rfl):PGs X (e::es) (a4V t u):=by
 intro pins s σ H vs us Q I r h
 obtain⟨v,vr,e1,h⟩:=h
 subst e1
 cases r with
 | cons r rr =>
  rw[hs]
  refine assignInOrder_cons (thn (h1 pins s σ H _ _ _ I r h) λ_ s1 ⟨σ1,H1,I1,q1⟩=>?_)
  exact h2 pins s1 σ1 H1 _ _ Q I1 rr q1
noncomputable def a8U (K:PySem.W.Frag)(n:Nat)(t:TGs):TG:=λv σ H Q=>∃a xs,v = .ref a∧SqT K H a xs∧xs.length=n∧t xs σ H Q
theorem b1k {es:List Expr}{k:Nat}{t:TGs}{n:Nat}(hc:X.calm=true)(h:PGs X es t)
  (hn:(assignEach es X.env).length=n:=by rfl) (hst:(assignEach es X.env).findIdx? (·.1)=none:=by rfl):PG X (.Tuple es k pos) (a8U X.K n t):=by
 intro pins s σ H v u Q I r hw
 obtain⟨a,xs,e1,hq,hl,hw⟩:=hw
 subst e1
 cases r
 obtain⟨its,rv,ht,hz⟩:=I.tuple hq
 refine assign_Tuple_tuple (I.ok.hd hc) ht (by simp[hn,←hl,rv.length]) hst λh' hx=>?_
 have I1:Inv X pins σ H { s with heap:=h' }:=I.kept (t':=s.toks) λb o e=>hx b o (Nat.ne_of_lt (Heap.lt_size e)) e
 exact h pins _ σ H xs _ Q I1 (by simpa using rv) hw
noncomputable def b1N (to ti:TE)(t:b0P):TG:=λv σ H Q=>to σ H λo H1=>ti σ H1 λi H2=>t o i v H2 λH3=>Q σ H3
theorem a36 {o i:Expr}{to ti:TE}{t:b0P}(ho:PE X o to)(hi:PE X i ti)(hs:b1I X t)
  (ha:∀v,assign (.Subscript o i pos) X.env v=(do
   let ov ←holding [v] (eval o X.env)
   let iv ←holding [v,ov] (eval i X.env)
   standAt pos
   holding [v,ov,iv] (setItem ov iv v)
   release [v,ov,iv] []):=by intro _;rfl):PG X (.Subscript o i pos) (b1N to ti t):=by
 intro pins s σ H v u Q I r h
 rw[ha]
 refine wpAny_bind (wpAny_holding (thn (ho pins s σ H _ I h) λov s1 ⟨x,H1,I1,r1,q1⟩=>?_))
 refine wpAny_bind (wpAny_holding (thn (hi pins s1 σ H1 _ I1 q1) λiv s2 ⟨y,H2,I2,r2,q2⟩=>?_))
 refine wpAny_bind (wpAny_standAt (wpAny_bind (wpAny_holding (thn (hs pins s2 σ H2 x y v ov iv u _ I2 r1 r2 r q2) λ_ s3 ⟨H3,I3,q3⟩=>?_))))
 exact wpAny_release ⟨σ,H3,I3,q3⟩
noncomputable def a0Q (te:TE)(g:TG):TS:=λD σ H=>te σ H λx H1=>g x σ H1 D.nx
theorem a0g {tg e:Expr}{te:TE}{g:TG}(he:PE X e te)(hg:PG X tg g)(hs:swapsWithSole [tg] e pos.line X.env=pure false:=by rfl)(hw:swappedStores [tg] e X.env=pure none:=by rfl)
  (h1:(assignEach [tg] X.env).map (·.2)=[assign tg X.env]:=by rfl):PS X (.Assign [tg] e pos) (a0Q te g):=by
 intro pins s σ H D I h
 refine wpAny_Assign_stores (thn (he pins s σ H _ I h) λv s1 ⟨x,H1,I1,r1,q1⟩=>?_) hs hw
 rw[h1]
 exact thn (hg pins s1 σ H1 x v _ I1 r1 q1) λ_ s2 q=>q
theorem W2 {i:Nat}{x:Str}{e:Expr}{te:TE}{pos':Pos}(hN:X.N.Nodup)(hi:X.N[i]? = some x)(hx:Loc X.env.scope x)(he:PE X e te)(hs:swapsWith e (some (.Name x pos')) pos.line X.env=pure false:=by rfl)(hf:X.fn x=true∨X.env.scope.names.lookup x=some .local:=by first | exact .inl rfl | exact .inr rfl | assumption) :
  PS X (.Assign [.Name x pos'] e pos) (a0Q te (P3 i)):=by
 intro pins s σ H D I h
 refine wpAny_Assign_Name (thn (he pins s σ H _ I h) λv s1 ⟨y,H1,I1,r1,q1⟩=>?_) hs
 exact D1 I1 hN hi hx r1 (λs2 I2=>⟨_,H1,I2,q1⟩) hf
noncomputable def b2S (i j:Nat)(ta:TA):TS:=λD σ H=>ta σ H λvs H1=>∃v w,vs=[v,w]∧D.nx ((σ.set i (some v)).set j (some w)) H1
theorem b0L {i j:Nat}{x y:Str}{a b:Expr}{ta:TA}{px py pt:Pos}{kt k2 pt2}(hc:X.calm=true)(hN:X.N.Nodup)(hi:X.N[i]? = some x)(hj:X.N[j]? = some y)(hij:i≠j)
  (hx:X.env.scope.names.lookup x=some .local) (hy:X.env.scope.names.lookup y=some .local) (ha:PA X [a,b] ta)
  (hw:swappedStores [.Tuple [.Name x px,.Name y py] kt pt] (.Tuple [a,b] k2 pt2) X.env=pure (some [x,y]))
  (hs:swapsWithSole [.Tuple [.Name x px,.Name y py] kt pt] (.Tuple [a,b] k2 pt2) pos.line X.env=pure false:=by rfl) :
  PS X (.Assign [.Tuple [.Name x px,.Name y py] kt pt] (.Tuple [a,b] k2 pt2) pos) (b2S i j ta):=by
 intro pins s σ H D I h
 rw[exec_Assign_arm]
 refine wpAny_bind (wpAny_standAt ?_)
 rw[hs]
 refine wpAny_bind (wpAny_pure ?_)
 rw[if_neg (by decide)]
 refine wpAny_bind (Tuple_ (thn (ha _ pins s σ H _ I h) λus s1 ⟨vs,H1,I1,r1,q1⟩=>?_))
 obtain⟨v,w,e1,q1⟩:=q1
 subst e1
 obtain⟨u1,u2,rfl,rv,rw'⟩:∃u1 u2,us=[u1,u2]∧p8 v u1∧p8 w u2:=by
  cases r1 with
  | cons p q =>
   cases q with
   | cons p' q' =>
    cases q'
    exact⟨_,_,rfl,p,p'⟩
 refine wpAny_newObj_type ?_ (by show 2≤sizeLine;decide)
 have I2:Inv X pins σ H1 { s1 with heap:=s1.heap.push { cls:=.type "tuple",data:=.seq [u1,u2].toArray } }:=I1.kept (t':=s1.toks) λb o e=>Heap.get?_push_of_some _ e
 rw[hw]
 refine wpAny_bind (wpAny_pure ?_)
 show wpAny (model X.prog X.w) X.A (do rule "assign.swapped-stores";let items ←unpackItems (.ref s1.heap.objs.size) 2 none;assignInOrder [λv=>bindName X.env y v,λv=>bindName X.env x v] items.reverse;pure Flow.next) _ _ _
 refine wpAny_bind (wpAny_rule (wpAny_bind (unpackItems_tuple (items:=#[u1,u2]) (I.ok.hd hc) (IsTup.new s1.heap _) λh' hx'=>?_)))
 have I3:=I2.kept (h':=h') (t':=s1.toks) λb o e=>hx' b o (Nat.ne_of_lt (Heap.lt_size e)) e
 show wpAny _ _ (assignInOrder [λv=>bindName X.env y v,λv=>bindName X.env x v] [u2,u1] >>= λ_=>pure Flow.next) _ _ _
 refine wpAny_bind (assignInOrder_cons (wpAny_bindName (D1 I3 hN hj (.inl hy) rw' (λs2 I4=>?_) (.inr hy))))
 refine assignInOrder_cons (wpAny_bindName (D1 I4 hN hi (.inl hx) rv (λs3 I5=>assignInOrder_nil (wpAny_pure ?_)) (.inr hx)))
 rw[List.set_comm _ _ (Ne.symm hij)]at I5
 exact⟨_,H1,I5,q1⟩
noncomputable def a8h (i:Nat)(te:TE)(ti:TIp):TS:=λD σ H=>∃x,σ[i]? = some (some x)∧te σ H λy H1=>ti x y H1 λz H2=>D.nx (σ.set i (some z)) H2
theorem a75 {i:Nat}{x:Str}{e:Expr}{te:TE}{op:Operator}{ti:TIp}{pos':Pos}(hN:X.N.Nodup)(hi:X.N[i]? = some x)(hx:Loc X.env.scope x)(he:PE X e te)(ho:PIp X op ti)(hf:X.fn x=true∨X.env.scope.names.lookup x=some .local:=by first | exact .inl rfl | exact .inr rfl | assumption) :
  PS X (.AugAssign (.Name x pos') op e pos) (a8h i te ti):=by
 intro pins s σ H D I h
 obtain⟨v,e1,h⟩:=h
 obtain⟨m,hn,hl⟩:=I.loc
 have vis:Vis X.env.scope x:=by rcases hx with k | k;exact .inl k;exact .inr (.inl k)
 obtain⟨u,r,l⟩:=hl i x v hi e1 vis
 refine wpAny_AugAssign_Name ?_
 have go:wpAny (model X.prog X.w) X.A (eval e X.env) (λw s₂=>wpAny (model X.prog X.w) X.A (inplaceOp op u w) (λr s₃=>wpAny (model X.prog X.w) X.A (storeName X.env x r) (λ_=>SP X pins D .next) X.xe s₃) X.xe s₂) X.xe s:=by
  refine thn (he pins s σ H _ I h) λw s1 ⟨y,H1,I1,r1,q1⟩=>?_
  refine thn (ho pins s1 σ H1 v y u w _ I1 r r1 q1) λz s2 ⟨zv,H2,I2,r2,q2⟩=>?_
  exact D1 I2 hN hi hx r2 (λs3 I3=>⟨_,H2,I3,q2⟩) hf
 rcases l with ⟨hk,hm⟩ | ⟨hk,c,hc,hcell⟩
 ·exact wpAny_loadName_local I.ok.kind hk hn hm go
 ·rcases hk with hk | hk
  ·exact wpAny_loadName_cell I.ok.kind hk hc hcell go
  ·rcases hx with k | k
   ·have:X.env.scope.names.lookup x=some .free:=hk
    rw[k]at this;cases this
   ·have:X.env.scope.names.lookup x=some .free:=hk
    rw[k]at this;cases this
noncomputable def ipI (f:Int->Int->Int):TIp:=λx y H Q=>∃i j,x = .int i∧y = .int j∧Q (.int (f i j)) H
theorem b1F:PIp X .Add (ipI λi j=>i+j):=by
 intro pins s σ H x y v u Q I r1 r2 h
 obtain⟨i,j,e1,e2,q⟩:=h
 subst e1;subst e2
 obtain⟨t,rfl⟩:=r1
 obtain⟨t',rfl⟩:=r2
 exact iadd_int ⟨.int _,H,I.tok _,⟨_,rfl⟩,q⟩
end
section
variable {X:Cx}{pos:Pos}
noncomputable def a4a (c:TT)(tb:TS):TS:=λD σ H=>∃W:Nat->St->Hp->Prop,(∃m,W m σ H)∧∀m σ H,W m σ H ->
 c σ H λb H1=>if b=true then ∃N:St->Hp->Prop,(∀σ' H',N σ' H'->∃m',m'<m∧W m' σ' H')∧tb { D with nx:=N,ct:=N,bk:=D.nx } σ H1 else D.nx σ H1
theorem a85 {c:Expr}{body:List Stmt}{tc:TT}{tb:TS}(hp:PassesOwn (model X.prog X.w) X.A X.env X.xe)(hc:PT X c tc)(hb:PSs X body tb):PS X (.While c body [] pos) (a4a tc tb):=by
 intro pins s σ H D I h
 obtain⟨W,⟨m0,w0⟩,turn⟩:=h
 refine wpAny_While (codeAny_whileLoop (λn s'=>∃σ' H',Inv X pins σ' H' s'∧W n σ' H') ?_ m0 ⟨σ,H,I,w0⟩)
 rintro n s1 ⟨σ1,H1,I1,w1⟩
 refine wpAny_passesOwn hp (thn (hc pins s1 σ1 H1 _ I1 (turn n σ1 H1 w1)) λb s2 ⟨H2,I2,q2⟩=>?_)
 cases b with
 | true =>
  obtain⟨N,hN,q2⟩:=q2
  rw[if_pos rfl]
  refine wpAny_passesOwn hp (thn (hb pins s2 σ1 H2 _ I2 q2) λf s3 q3=>?_)
  cases f with
  | next =>
   obtain⟨σ3,H3,I3,n3⟩:=q3
   obtain⟨m',hm,w3⟩:=hN σ3 H3 n3
   exact⟨m',hm,σ3,H3,I3,w3⟩
  | cont =>
   obtain⟨σ3,H3,I3,n3⟩:=q3
   obtain⟨m',hm,w3⟩:=hN σ3 H3 n3
   exact⟨m',hm,σ3,H3,I3,w3⟩
  | brk=>exact q3
  | ret v=>exact q3
 | false =>
  rw[if_neg Bool.false_ne_true]
  exact wpAny_execs_nil ⟨σ1,H2,I2,q2⟩
end
structure It where
 go:Nat->Hp->Prop
 yld:Nat->Hp->V->Hp->Prop
 stop:Nat->Hp->Prop
noncomputable def V3 (X:Cx)(pins:List (Addr×Obj))(H:Hp)(b:Addr):Prop :=
 H b=none∧b≠X.env.locals∧b ∉ X.fs∧(b∈X.ex∨X.s₀.heap.objs.size≤b)∧(∀x c,X.env.cells.lookup x=some c->c≠b)∧∀p∈X.pn++pins,p.1≠b
theorem Inv.fpOk {X:Cx}{pins:List (Addr×Obj)}{σ:St}{H H':Hp}{s:Shared}{b:Addr}(I:Inv X pins σ H s)(hb:s.heap.objs.size≤b)(hn:H' b=none):V3 X pins H' b:=by
 refine⟨hn,Nat.ne_of_gt (Nat.lt_of_lt_of_le I.lt hb),I.nofs hb,.inr (Nat.le_trans I.sz hb),λx c e z=>?_,λp hp z=>?_⟩
 ·obtain⟨v,q⟩:=I.cell x c e
  exact absurd (Nat.lt_of_lt_of_le q.lt (by rw[z];exact hb)) (Nat.lt_irrefl _)
 ·exact absurd (Nat.lt_of_lt_of_le (Heap.lt_size (I.pin p hp).1) (by rw[z];exact hb)) (Nat.lt_irrefl _)
structure Turn (P:Program) (w:World) (K:PySem.W.Frag) (tg:Expr) (J:It) (fp:List Addr) (it:Addr) (tn:Nat->Heap->Prop):Prop where
 mem:it∈fp
 obj:∀i h,tn i h->∀b∈fp,∃o,h.get? b=some o∧∀v,o.data ≠ .cell v
 keep:∀i h h',tn i h->(∀b∈fp,∀o,h.get? b=some o->h'.get? b=some o)->tn i h'
 item:∀(X:Cx),X.prog=P->X.w=w->X.K=K->X.calm=true->∀(i:Nat) (pins:List (Addr×Obj)) (s:Shared) (σ:St) (H:Hp) (E:Value->Shared->Prop),Inv X pins σ H s->(∀b∈fp,V3 X pins H b)->tn i s.heap->J.go i H ->
  wpAny (model P w) X.A (pyNext (.ref it)) (λr s1=>∃u,r=some u ∧
   wpAny (model P w) X.A (letOwnedTupleGo tg (.ref it) u) (λ_ s2=>∃x H',Inv X pins σ H' s2∧p8 x u∧J.yld i H x H'∧tn (i+1) s2.heap∧∀b∈fp,H' b=none) E s1) E s
 done:∀(X:Cx),X.prog=P->X.w=w->X.K=K->X.calm=true->∀(i:Nat) (pins:List (Addr×Obj)) (s:Shared) (σ:St) (H:Hp) (E:Value->Shared->Prop),Inv X pins σ H s->(∀b∈fp,V3 X pins H b)->tn i s.heap->J.stop i H ->
  wpAny (model P w) X.A (pyNext (.ref it)) (λr s1=>r=none∧Inv X pins σ H s1) E s
 self:∀(A:Around) (i:Nat) (s:Shared) (Q:Value->Shared->Prop) (E:Value->Shared->Prop),tn i s.heap->Q (.ref it) s->wpAny (model P w) A (pyIter (.ref it)) Q E s
noncomputable abbrev TI:=St->Hp->(It->Hp->Prop)->Prop
noncomputable def PIE (X:Cx)(pins:List (Addr×Obj))(σ:St)(tg:Expr)(R:It->Hp->Prop)(itv:Value)(s2:Shared):Prop :=
 ∃(it:Addr) (fp:List Addr) (tn:Nat->Heap->Prop) (J:It) (H':Hp),itv = .ref it∧Inv X pins σ H' s2∧Turn X.prog X.w X.K tg J fp it tn∧tn 0 s2.heap∧(∀b∈fp,V3 X pins H' b)∧R J H'
noncomputable def PI (X:Cx)(tg iter:Expr)(wi:TI):Prop :=
 ∀(pins:List (Addr×Obj)) (s:Shared) (σ:St) (H:Hp) (R:It->Hp->Prop),Inv X pins σ H s->wi σ H R ->
  wpAny (model X.prog X.w) X.A (eval iter X.env) (λv s1=>wpAny (model X.prog X.w) X.A (pyIter v) (PIE X pins σ tg R) X.xe s1) X.xe s
theorem a7W {M:Model}{A:Around}{E:Value->Shared->Prop}{s:Shared}{tg:Expr}{it:Addr}{u:Value}{o:Obj}{n:String}{vs:Array Value}{Q:Unit->Shared->Prop}(ho:s.heap.get? it=some o)(hc:o.cls = .type n)(hd:o.data = .fields vs)
    (hn:["enumerate","zip","dict_itemiterator","dict_reverseitemiterator","odict_iterator","itertools.zip_longest","itertools.pairwise"].contains n=false) (hQ:Q () s):wpAny M A (letOwnedTupleGo tg (.ref it) u) Q E s:=by
  unfold letOwnedTupleGo
  cases tg <;> first
    | exact wpAny_pure hQ
    | (cases u <;> first
        | exact wpAny_pure hQ
        | (refine wpAny_bind (wpAny_load ho ?_)
           rw[hc,hd]
           show wpAny M A (if (["enumerate","zip","dict_itemiterator","dict_reverseitemiterator","odict_iterator","itertools.zip_longest","itertools.pairwise"].contains n&&vs[0]? == some (rawInt _))=true then _ else _) Q E s
           rw[if_neg (by intro h;rw[hn,Bool.false_and]at h;cases h)]
           exact wpAny_pure hQ))
noncomputable def Itl (K:PySem.W.Frag)(a:Addr):It :=
 ⟨λi H=>∃xs x,SqL K H a xs∧xs[i]? = some x,λi H x H'=>H'=H∧∀xs,SqL K H a xs->xs[i]? = some x,λi H=>∃xs,SqL K H a xs∧xs.length≤i⟩
noncomputable def Itt (K:PySem.W.Frag)(a:Addr):It :=
 ⟨λi H=>∃xs x,SqT K H a xs∧xs[i]? = some x,λi H x H'=>H'=H∧∀xs,SqT K H a xs->xs[i]? = some x,λi H=>∃xs,SqT K H a xs∧xs.length≤i⟩
noncomputable def Itr (lo:Int)(n:Nat):It:=⟨λi _=>i<n,λi H x H'=>H'=H∧x = .int (lo+i),λi _=>n≤i⟩
theorem a6h {P:Program}{w:World}{K:PySem.W.Frag}{tg:Expr}(a it:Addr):Turn P w K tg (Itl K a) [it] it (λi h=>h.IsListIter it a i) where
 mem:=by simp
 obj:=λi h st b hb=>by
  have e:b=it:=by simpa using hb
  subst e
  obtain⟨o,e,c,d⟩:=st
  exact⟨o,e,λv z=>by rw[d]at z;cases z⟩
 keep:=λi h h' st k=>st.at λo e=>k it (by simp) o e
 item:=by
  intro X hP hw hK hc i pins s σ H E I hf st hg
  subst hP hw hK
  obtain⟨xs,x,hq,hx⟩:=hg
  obtain⟨its,rv,p,hz⟩:=I.list hq
  obtain⟨u,hu,ru⟩:=rv.get hx
  obtain⟨f0,f1,f2,f3,f4,f5⟩:=hf it (by simp)
  refine wpAny_pyNext_list_item st p.isList (x:=u) (by simpa using hu) λh' st' sb=>?_
  have I1:Inv X pins σ H { s with heap:=h' }:=I.turned (t':=s.toks) (λb o hb e=>(sb.2 b hb).trans e) f0 f1 f3 f4 f5
  obtain⟨o,e,c,d⟩:=id st'
  exact⟨u,rfl,a7W (s:={ s with heap:=h' }) e c d (by decide) ⟨x,H,I1,ru,⟨rfl,λys hy=>by rw[I.list_inj hy hq];exact hx⟩,st',λb hb=>(hf b hb).1⟩⟩
 done:=by
  intro X hP hw hK hc i pins s σ H E I hf st hg
  subst hP hw hK
  obtain⟨xs,hq,hx⟩:=hg
  obtain⟨its,rv,p,hz⟩:=I.list hq
  obtain⟨f0,f1,f2,f3,f4,f5⟩:=hf it (by simp)
  have hl:=rv.length
  exact wpAny_pyNext_list_end (I.ok.hd hc) st p.isList (by simp;omega) λh' eb=>⟨rfl,I.turned (t':=s.toks) (λb o hb e=>eb b o hb e) f0 f1 f3 f4 f5⟩
 self:=λ_ _ _ _ _ st h=>wpAny_pyIter_listiter st h
theorem a4B {P:Program}{w:World}{K:PySem.W.Frag}{tg:Expr}(a it:Addr):Turn P w K tg (Itt K a) [it] it (λi h=>h.IsTupleIter it a i) where
 mem:=by simp
 obj:=λi h st b hb=>by
  have e:b=it:=by simpa using hb
  subst e
  obtain⟨o,e,c,d⟩:=st
  exact⟨o,e,λv z=>by rw[d]at z;cases z⟩
 keep:=λi h h' st k=>st.at λo e=>k it (by simp) o e
 item:=by
  intro X hP hw hK hc i pins s σ H E I hf st hg
  subst hP hw hK
  obtain⟨xs,x,hq,hx⟩:=hg
  obtain⟨its,rv,p,hz⟩:=I.tuple hq
  obtain⟨u,hu,ru⟩:=rv.get hx
  obtain⟨f0,f1,f2,f3,f4,f5⟩:=hf it (by simp)
  refine wpAny_pyNext_tuple_item st (show s.heap.IsTuple a its.toArray from p) (x:=u) (by simpa using hu) λh' st' sb=>?_
  have I1:Inv X pins σ H { s with heap:=h' }:=I.turned (t':=s.toks) (λb o hb e=>(sb.2 b hb).trans e) f0 f1 f3 f4 f5
  obtain⟨o,e,c,d⟩:=id st'
  exact⟨u,rfl,a7W (s:={ s with heap:=h' }) e c d (by decide) ⟨x,H,I1,ru,⟨rfl,λys hy=>by rw[I.tuple_inj hy hq];exact hx⟩,st',λb hb=>(hf b hb).1⟩⟩
 done:=by
  intro X hP hw hK hc i pins s σ H E I hf st hg
  subst hP hw hK
  obtain⟨xs,hq,hx⟩:=hg
  obtain⟨its,rv,p,hz⟩:=I.tuple hq
  obtain⟨f0,f1,f2,f3,f4,f5⟩:=hf it (by simp)
  have hl:=rv.length
  exact wpAny_pyNext_tuple_end (I.ok.hd hc) st (show s.heap.IsTuple a its.toArray from p) (by simp;omega) λh' eb=>⟨rfl,I.turned (t':=s.toks) (λb o hb e=>eb b o hb e) f0 f1 f3 f4 f5⟩
 self:=λ_ _ _ _ _ st h=>wpAny_pyIter_tupleiter st h
theorem a4d {P:Program}{w:World}{K:PySem.W.Frag}{tg:Expr}(it:Addr)(lo:Int)(n:Nat):Turn P w K tg (Itr lo n) [it] it (λi h=>IsRangeIter h it (lo+(i:Nat)*1) ((n:Int)-(i:Nat)) 1) where
 mem:=by simp
 obj:=λi h st b hb=>by
  have e:b=it:=by simpa using hb
  subst e
  exact⟨_,st,λv z=>by
   have z':Data.fields _=Data.cell v:=z
   cases z'⟩
 keep:=λi h h' st k=>k it (by simp) _ st
 item:=by
  intro X hP hw hK hc i pins s σ H E I hf st hg
  subst hP hw hK
  obtain⟨f0,f1,f2,f3,f4,f5⟩:=hf it (by simp)
  have W:=Walks.range (prog:=X.prog) (w:=X.w) (I.ok.hd hc) it lo 1 n
  refine W.item i s _ _ hg st λv h' tk hv st' kk=>?_
  obtain⟨t,rfl⟩:=hv
  have I1:Inv X pins σ H { s with heap:=h',toks:=tk }:=I.turned (λb o hb e=>kk b o (by simpa using hb) e) f0 f1 f3 f4 f5
  refine⟨_,rfl,a7W (s:={ s with heap:=h',toks:=tk }) (n:="range_iterator") st' rfl rfl (by decide) ⟨.int (lo+i),H,I1,⟨t,?_⟩,⟨rfl,rfl⟩,st',λb hb=>(hf b hb).1⟩⟩
  rw[Int.mul_one]
 done:=by
  intro X hP hw hK hc i pins s σ H E I hf st hg
  subst hP hw hK
  obtain⟨f0,f1,f2,f3,f4,f5⟩:=hf it (by simp)
  exact wpAny_pyNext_range_end (I.ok.hd hc) st (by have:n≤i:=hg;omega) λh' eb=>⟨rfl,I.turned (t':=s.toks) (λb o hb e=>eb b o hb e) f0 f1 f3 f4 f5⟩
 self:=λ_ _ _ _ _ st h=>wpAny_pyIter_rangeiter st h
end L2
namespace L2
open PySem PySem.Spec PyProof.Rows
section
variable {X:Cx}{tg:Expr}
theorem a7t {pins:List (Addr×Obj)}{σ:St}{H:Hp}{s:Shared}{R:It->Hp->Prop}{E:Value->Shared->Prop}{lo hi:Int}{t u v:Tok}{tk:Nat}(I:Inv X pins σ H s)(h1:-(2 ^ 62)≤lo)(h2:lo<2 ^ 62)(h3:-(2 ^ 62)≤hi)(h4:hi<2 ^ 62)
  (q:R (Itr lo (hi-lo).toNat) H):wpAny (model X.prog X.w) X.A (pyIter (.ref s.heap.objs.size)) (PIE X pins σ tg R) E { s with heap:=s.heap.push { cls:=.type "range",data:=.fields #[.int lo t,.int hi u,.int 1 v] },toks:=tk }:=by
 refine wpAny_pyIter_range (IsRange.new ..) (small_one h1 h2 h3 h4) ?_
 have I1:Inv X pins σ H { s with heap:=s.heap.push { cls:=.type "range",data:=.fields #[.int lo t,.int hi u,.int 1 v] },toks:=tk }:=I.kept λb o e=>Heap.get?_push_of_some _ e
 refine⟨(s.heap.push { cls:=.type "range",data:=.fields #[.int lo t,.int hi u,.int 1 v] }).objs.size,[(s.heap.push { cls:=.type "range",data:=.fields #[.int lo t,.int hi u,.int 1 v] }).objs.size],_,_,H,rfl,
  I1.kept (t':=tk) λb o e=>Heap.get?_push_of_some _ e,a4d _ lo (hi-lo).toNat,?_,λb hb=>?_,q⟩
 ·have e1:lo+((0:Nat):Int)*1=lo:=by simp
  have e2:(((hi-lo).toNat:Nat):Int)-((0:Nat):Int)=Builtin.Range.rangeSize lo hi 1:=by rw[rangeSize_one];split <;> omega
  show IsRangeIter _ _ (lo+((0:Nat):Int)*1) ((((hi-lo).toNat:Nat):Int)-((0:Nat):Int)) 1
  rw[e1,e2]
  exact Heap.get?_push_size _ rfl
 ·have e:b=(s.heap.push { cls:=.type "range",data:=.fields #[.int lo t,.int hi u,.int 1 v] }).objs.size:=by simpa using hb
  subst e
  exact I1.fpOk (Nat.le_refl _) (I1.hok.fresh (Nat.le_refl _))
noncomputable def b0d (ta:TA):TI:=λσ H R=>ta σ H λvs H1=>∃j:Int,vs=[.int j] ∧ -(2 ^ 62)≤j∧j<2 ^ 62∧R (Itr 0 j.toNat) H1
theorem a5P {a:Expr}{ta:TA}{p pos:Pos}(hg:Gl X "range")(hm:X.mg "range" = none)(ha:PA X [a] ta)(hs:starEach [a] X.env=[(false,eval a X.env)]:=by rfl):PI X tg (.Call (.Name "range" p) [a] [] pos) (b0d ta):=by
 intro pins s σ H R I h
 refine Call_ (U8 I hg hm boot_range (PyProof.Rows.callWith_type1 (thn (ha pos pins s σ H _ I h) λus s1 ⟨vs,H1,I1,r1,q1⟩=>?_) hs rfl))
 obtain⟨j,e,q1,q2,q⟩:=q1
 subst e
 cases r1 with
 | cons r rr =>
  cases rr
  obtain⟨t,rfl⟩:=r
  exact call_range_1 (a7t I1 (by omega) (by omega) q1 q2 (by simpa using q))
noncomputable def b1E (wi:TI)(g:TG)(tb:TS):TS:=λD σ H=>wi σ H λJ H1=>∃W:Nat->Nat->St->Hp->Prop,(∃m,W 0 m σ H1)∧∀i m σ H,W i m σ H ->
 (J.stop i H∧D.nx σ H)∨(J.go i H∧∃N:St->Hp->Prop,(∀σ' H',N σ' H'->∃m',m'<m∧W (i+1) m' σ' H')∧∀x H',J.yld i H x H'->g x σ H' λσ2 H2=>tb { D with nx:=N,ct:=N,bk:=D.nx } σ2 H2)
noncomputable def S5 (fp:List Addr)(h:Heap):List (Addr×Obj):=fp.filterMap λb=>(h.get? b).map λo=>(b,o)
theorem v5 {fp:List Addr}{h:Heap}{b:Addr}{o:Obj}(hb:b∈fp)(e:h.get? b=some o):(b,o)∈S5 fp h:=List.mem_filterMap.mpr ⟨b,hb,by rw[e];rfl⟩
theorem a6e {fp:List Addr}{h:Heap}{p:Addr×Obj}(hp:p∈S5 fp h):p.1∈fp∧h.get? p.1=some p.2:=by
 obtain⟨b,hb,e⟩:=List.mem_filterMap.mp hp
 cases q:h.get? b with
 | none=>rw[q]at e;cases e
 | some o =>
  rw[q]at e
  have e':(b,o)=p:=Option.some.inj e
  subst e'
  exact⟨hb,q⟩
theorem Inv.pinned {pins:List (Addr×Obj)}{σ:St}{H:Hp}{s:Shared}{fp:List Addr}(I:Inv X pins σ H s)(hf:∀b∈fp,V3 X pins H b)(ho:∀b∈fp,∃o,s.heap.get? b=some o∧∀v,o.data ≠ .cell v):Inv X (pins++S5 fp s.heap) σ H s :=
 I.pins_of λp hp=>(List.mem_append.mp hp).elim (λz=>I.pin p (List.mem_append_right _ z)) λz=>by
  obtain⟨hb,e⟩:=a6e z
  obtain⟨f0,f1,f2,_⟩:=hf p.1 hb
  obtain⟨o,e',d⟩:=ho p.1 hb
  rw[e]at e';cases e'
  exact⟨e,f0,f1,f2,d⟩
theorem Inv.unpinned {pins pl:List (Addr×Obj)}{σ:St}{H:Hp}{s:Shared}(I:Inv X (pins++pl) σ H s):Inv X pins σ H s:=I.pins_of λp hp=>I.pin p (List.mem_append_right _ (List.mem_append_left _ hp))
theorem b1f {iter:Expr}{body:List Stmt}{wi:TI}{g:TG}{tb:TS}{pos:Pos}(hp:PassesOwn (model X.prog X.w) X.A X.env X.xe)(hc:X.calm=true)(hi:PI X tg iter wi)(hg:PG X tg g)(hb:PSs X body tb)
  (hs:∀x,foldedSetIterable iter X.env x=pure x:=by intro _;rfl):PS X (.For tg iter body [] pos) (b1E wi g tb):=by
 intro pins s σ H D I h
 refine wpAny_For (thn (hi pins s σ H _ I h) λv s1 h1=>thn h1 λitv s2 h2=>?_) hs
 obtain⟨it,fp,tn,J,H2,e,I2,T,st2,f2,W,⟨m0,w0⟩,turn⟩:=h2
 subst e
 -- what stays true of the iterator's objects through the loop
 have stat:∀{H':Hp},(∀b∈fp,H' b=none)->∀b∈fp,V3 X pins H' b:=λhn b hb=>⟨hn b hb,(f2 b hb).2⟩
 refine codeAny_forLoop_any (λn s'=>∃i σ' H',Inv X pins σ' H' s'∧tn i s'.heap∧(∀b∈fp,H' b=none)∧W i n σ' H') ?_ m0 ⟨0,σ,H2,I2,st2,λb hb=>(f2 b hb).1,w0⟩
 rintro n s3 ⟨i,σ3,H3,I3,st3,fr3,w3⟩
 rcases turn i n σ3 H3 w3 with ⟨stop,qn⟩ | ⟨go,N,hN,step⟩
 ·refine wpAny_passesOwn hp (thn (T.done X rfl rfl rfl hc i pins s3 σ3 H3 X.xe I3 (stat fr3) st3 stop) λr s4 ⟨hr,I4⟩=>?_)
  subst hr
  exact wpAny_execs_nil ⟨σ3,H3,I4,qn⟩
 ·refine wpAny_passesOwn hp (thn (T.item X rfl rfl rfl hc i pins s3 σ3 H3 X.xe I3 (stat fr3) st3 go) λr s4 ⟨u,hr,h4⟩=>?_)
  subst hr
  refine wpAny_passesOwn hp (thn h4 λ_ s5 ⟨x,H5,I5,r5,y5,st5,fr5⟩=>?_)
  have I5':=I5.pinned (stat fr5) (T.obj _ _ st5)
  refine wpAny_passesOwn hp (thn (hg _ s5 σ3 H5 x u _ I5' r5 (step x H5 y5)) λ_ s6 ⟨σ6,H6,I6,q6⟩=>?_)
  refine wpAny_passesOwn hp (thn (hb _ s6 σ6 H6 _ I6 q6) λf s7 q7=>?_)
  have again:∀{σ7:St} {H7:Hp},Inv X (pins++S5 fp s5.heap) σ7 H7 s7->N σ7 H7->∃m,m<n∧∃i σ' H',Inv X pins σ' H' s7∧tn i s7.heap∧(∀b∈fp,H' b=none)∧W i m σ' H':=λ{σ7 H7} I7 n7=>by
   obtain⟨m',hm,w7⟩:=hN σ7 H7 n7
   refine⟨m',hm,i+1,σ7,H7,I7.unpinned,T.keep _ _ _ st5 λb hb o e=>(I7.pin (b,o) (List.mem_append_right _ (List.mem_append_right _ (v5 hb e)))).1,λb hb=>?_,w7⟩
   obtain⟨o,e,d⟩:=T.obj _ _ st5 b hb
   exact(I7.pin (b,o) (List.mem_append_right _ (List.mem_append_right _ (v5 hb e)))).2.1
  cases f with
  | next=>obtain⟨σ7,H7,I7,n7⟩:=q7;exact again I7 n7
  | cont=>obtain⟨σ7,H7,I7,n7⟩:=q7;exact again I7 n7
  | brk=>obtain⟨σ7,H7,I7,q7⟩:=q7;exact⟨σ7,H7,I7.unpinned,q7⟩
  | ret v=>obtain⟨x7,σ7,H7,I7,r7,q7⟩:=q7;exact⟨x7,σ7,H7,I7.unpinned,r7,q7⟩
end
end L2
namespace L2
open PySem PySem.Spec PyProof.Rows
noncomputable abbrev R2:=V->V->Hp->VK->Prop
noncomputable def OpR (X:Cx)(f:Value->Value->Sem Value)(r:R2):Prop :=
 ∀(pins:List (Addr×Obj)) (s:Shared) (σ:St) (H:Hp) (x y:V) (v u:Value) (Q:VK),Inv X pins σ H s->p8 x v->p8 y u->r x y H Q ->
  wpAny (model X.prog X.w) X.A (f v u) (EP X pins σ Q) X.xe s
noncomputable def UnR (X:Cx)(f:Value->Sem Value)(r:V->Hp->VK->Prop):Prop :=
 ∀(pins:List (Addr×Obj)) (s:Shared) (σ:St) (H:Hp) (x:V) (v:Value) (Q:VK),Inv X pins σ H s->p8 x v->r x H Q ->
  wpAny (model X.prog X.w) X.A (f v) (EP X pins σ Q) X.xe s
noncomputable def A3 (X:Cx)(f:Value)(r:List V->Hp->VK->Prop):Prop :=
 ∀(pins:List (Addr×Obj)) (s:Shared) (σ:St) (H:Hp) (xs:List V) (us:List Value) (Q:VK),Inv X pins σ H s->j3 xs us->r xs H Q ->
  wpAny (model X.prog X.w) X.A (call f us) (EP X pins σ Q) X.xe s
noncomputable def b3c (X:Cx)(r:V->Hp->(Bool->Hp->Prop)->Prop):Prop :=
 ∀(pins:List (Addr×Obj)) (s:Shared) (σ:St) (H:Hp) (x:V) (v:Value) (Q:Bool->Hp->Prop),Inv X pins σ H s->p8 x v->r x H Q ->
  wpAny (model X.prog X.w) X.A (truthy v) (TP X pins σ Q) X.xe s
noncomputable def tOp (r:R2)(ta tb:TE):TE:=λσ H Q=>ta σ H λx H1=>tb σ H1 λy H2=>r x y H2 Q
noncomputable def tUn (r:V->Hp->VK->Prop)(ta:TE):TE:=λσ H Q=>ta σ H λx H1=>r x H1 Q
noncomputable def rI (C:Int->Int->Prop)(g:Int->Int->V):R2:=λx y H Q=>∃i j,x = .int i∧y = .int j∧C i j∧Q (g i j) H
noncomputable def rI0 (g:Int->Int->V):R2:=λx y H Q=>∃i j,x = .int i∧y = .int j∧Q (g i j) H
noncomputable def rU (g:Int->V):V->Hp->VK->Prop:=λx H Q=>∃i,x = .int i∧Q (g i) H
section
variable {X:Cx}{a b c:Expr}{ta tb tc:TE}{pos:Pos}
theorem b0G (ha:PE X a ta)(hb:PE X b tb){pins:List (Addr×Obj)}{s:Shared}{σ:St}{H:Hp}{R:V->V->Hp->Prop}(I:Inv X pins σ H s)
  (h:ta σ H λx H1=>tb σ H1 λy H2=>R x y H2) {Q:Value->Shared->Prop} {f:Value->Value->Sem Value}
  (hf:∀v u s2 x y H2,Inv X pins σ H2 s2->p8 x v->p8 y u->R x y H2->wpAny (model X.prog X.w) X.A (f v u) Q X.xe s2) :
  wpAny (model X.prog X.w) X.A (eval a X.env) (λv s₁=>wpAny (model X.prog X.w) X.A (eval b X.env) (λu s₂=>wpAny (model X.prog X.w) X.A (f v u) Q X.xe s₂) X.xe s₁) X.xe s:=by
 refine thn (ha pins s σ H _ I h) λv s1 ⟨x,H1,I1,r1,q1⟩=>?_
 refine thn (hb pins s1 σ H1 _ I1 q1) λu s2 ⟨y,H2,I2,r2,q2⟩=>?_
 exact hf v u s2 x y H2 I2 r1 r2 q2
theorem x4 {op:Operator}{r:R2}(ho:OpR X (binaryOp op) r)(ha:PE X a ta)(hb:PE X b tb):PE X (.BinOp a op b pos) (tOp r ta tb):=by
 intro pins s σ H Q I h
 exact wpAny_BinOp (b0G ha hb I h λv u s2 x y H2 I2 rx ry q=>ho pins s2 σ H2 x y v u Q I2 rx ry q)
theorem a8n {op:UnaryOp}{r:V->Hp->VK->Prop}(ho:UnR X (unaryOp op) r)(ha:PE X a ta):PE X (.UnaryOp op a pos) (tUn r ta):=by
 intro pins s σ H Q I h
 exact UnaryOp_ (thn (ha pins s σ H _ I h) λv s1 ⟨x,H1,I1,r1,q1⟩=>ho pins s1 σ H1 x v Q I1 r1 q1)
theorem opI {f:Value->Value->Sem Value}{C:Int->Int->Prop}{g:Int->Int->Int}
  (rule:∀(i j:Int) (t u:Tok) (s:Shared) (Q:Value->Shared->Prop) (E:Value->Shared->Prop),C i j->Q (.int (g i j) s.toks) { s with toks:=s.toks+1 }->wpAny (model X.prog X.w) X.A (f (.int i t) (.int j u)) Q E s) :
  OpR X f (rI C λi j=>.int (g i j)):=by
 intro pins s σ H x y v u Q I rx ry h
 obtain⟨i,j,rfl,rfl,hc,q⟩:=h
 obtain⟨t,rfl⟩:=rx
 obtain⟨t',rfl⟩:=ry
 exact rule i j t t' s _ _ hc ⟨.int (g i j),H,I.tok _,⟨_,rfl⟩,q⟩
theorem b25 {f:Value->Value->Sem Value}{g:Int->Int->Int}
  (rule:∀(i j:Int) (t u:Tok) (s:Shared) (Q:Value->Shared->Prop) (E:Value->Shared->Prop),Q (.int (g i j) s.toks) { s with toks:=s.toks+1 }->wpAny (model X.prog X.w) X.A (f (.int i t) (.int j u)) Q E s) :
  OpR X f (rI0 λi j=>.int (g i j)):=by
 intro pins s σ H x y v u Q I rx ry h
 obtain⟨i,j,rfl,rfl,q⟩:=h
 obtain⟨t,rfl⟩:=rx
 obtain⟨t',rfl⟩:=ry
 exact rule i j t t' s _ _ ⟨.int (g i j),H,I.tok _,⟨_,rfl⟩,q⟩
theorem b14 {f:Value->Value->Sem Value}{g:Int->Int->Bool}
  (rule:∀(i j:Int) (t u:Tok) (s:Shared) (Q:Value->Shared->Prop) (E:Value->Shared->Prop),Q (.bool (g i j)) s->wpAny (model X.prog X.w) X.A (f (.int i t) (.int j u)) Q E s) :
  OpR X f (rI0 λi j=>.bl (g i j)):=by
 intro pins s σ H x y v u Q I rx ry h
 obtain⟨i,j,rfl,rfl,q⟩:=h
 obtain⟨t,rfl⟩:=rx
 obtain⟨t',rfl⟩:=ry
 exact rule i j t t' s _ _ ⟨.bl (g i j),H,I,rfl,q⟩
noncomputable def b34 (i j:Int):Prop:=0<j∧j<1073741824
noncomputable def a97 (i j:Int):Prop:=0≤j∧j≤1000000∧i.natAbs<2 ^ 64
noncomputable def a7a (i j:Int):Prop:=(-(2 ^ 64)<i∧i<2 ^ 64)∨(-(2 ^ 64)<j∧j<2 ^ 64)
theorem a7a.ok {i j:Int}(h:a7a i j):IntMulOk i j:=by
 rcases h with ⟨h1,h2⟩ | ⟨h1,h2⟩
 ·exact .of_left (intBits_le_64 h1 h2)
 ·exact .of_right (intBits_le_64 h1 h2)
theorem W3:OpR X (binaryOp .Add) (rI0 λi j=>.int (i+j)):=b25 λ_ _ _ _ _ _ _ q=>add_int q
theorem b1z:OpR X (binaryOp .Sub) (rI0 λi j=>.int (i-j)):=b25 λ_ _ _ _ _ _ _ q=>sub_int q
theorem W1:OpR X (binaryOp .Mult) (rI a7a λi j=>.int (i*j)):=opI λ_ _ _ _ _ _ _ hc q=>mul_int q hc.ok
theorem a2P:OpR X (binaryOp .FloorDiv) (rI b34 λi j=>.int (i / j)):=opI λi j _ _ _ _ _ hc q=>by
 have h1:(0:Int)<j:=hc.1
 have h2:j<1073741824:=hc.2
 exact floordiv_int (by omega) (by rw[Int.fdiv_eq_ediv_of_nonneg i (by omega)];exact q) (.inl (PyProof.noPylong_small (by omega)))
theorem Q7:OpR X (binaryOp .Mod) (rI (λ_ j=>0<j) λi j=>.int (i % j)):=opI λi j _ _ _ _ _ hc q=>by
 have h1:(0:Int)<j:=hc
 exact mod_int' (by omega) (by rw[Int.fmod_eq_emod_of_nonneg i (by omega)];exact q)
theorem a8w:OpR X (binaryOp .Pow) (rI a97 λi j=>.int (i ^ j.toNat)):=opI λ_ _ _ _ _ _ _ hc q=>pow_int_small hc.1 hc.2.1 hc.2.2 q
theorem unI {f:Value->Sem Value}{g:Int->Int}
  (rule:∀(i:Int) (t:Tok) (s:Shared) (Q:Value->Shared->Prop) (E:Value->Shared->Prop),Q (.int (g i) s.toks) { s with toks:=s.toks+1 }->wpAny (model X.prog X.w) X.A (f (.int i t)) Q E s) :
  UnR X f (rU λi=>.int (g i)):=by
 intro pins s σ H x v Q I rx h
 obtain⟨i,rfl,q⟩:=h
 obtain⟨t,rfl⟩:=rx
 exact rule i t s _ _ ⟨.int (g i),H,I.tok _,⟨_,rfl⟩,q⟩
theorem a4i:UnR X (unaryOp .USub) (rU λi=>.int (-i)):=unI λ_ _ _ _ _ q=>neg_int q
end
noncomputable def b2G:V->V->Bool
 | .non,.non=>true | .non,.int _=>true | .int _,.non=>true | .non,.bl _=>true | .bl _,.non=>true | .non,.str _=>true | .str _,.non=>true
 | .int _,.int _=>true | .bl _,.bl _=>true | .str _,.str _=>true | .byt _,.byt _=>true
 | .int _,.str _=>true | .str _,.int _=>true | .bl _,.str _=>true | .str _,.bl _=>true
 | _,_=>false
noncomputable def rEq:R2:=λx y H Q=>b2G x y=true∧Q (.bl (decide (x=y))) H
noncomputable def rNe:R2:=λx y H Q=>b2G x y=true∧Q (.bl (!decide (x=y))) H
theorem a5D {i j:Int}:decide (V.int i=V.int j)=(i == j):=by
 rw[Bool.eq_iff_iff]
 simp
theorem a7M {i j:Bool}:decide (V.bl i=V.bl j)=(i == j):=by
 rw[Bool.eq_iff_iff]
 simp
theorem a5A {i j:Str}:decide (V.str i=V.str j)=(i == j):=by
 rw[Bool.eq_iff_iff]
 simp
theorem a52 {i j:Array UInt8}:decide (V.byt i=V.byt j)=(i.toList == j.toList):=by
 rw[Bool.eq_iff_iff]
 cases i
 cases j
 simp
section
variable {X:Cx}{a b c:Expr}{ta tb tc:TE}{pos:Pos}
theorem m6 {pins:List (Addr×Obj)}{σ:St}{H:Hp}{s:Shared}{Q:VK}{k k':Bool}(I:Inv X pins σ H s)(q:Q (.bl k) H)(e:k=k'):EP X pins σ Q (.bool k') s:=by
 subst e
 exact⟨.bl k,H,I,rfl,q⟩
theorem b2r:OpR X (compareOp .Eq) rEq:=by
 intro pins s σ H x y v u Q I rx ry h
 obtain⟨hs,q⟩:=h
 cases x with
 | non =>
  cases rx
  cases y with
  | non=>cases ry;exact PySem.EqNone.eq_none_none (m6 I q (by simp))
  | bl j=>cases ry;exact PySem.EqNone.eq_none_bool (m6 I q (by simp))
  | int j=>obtain⟨t',rfl⟩:=ry;exact PySem.EqNone.eq_none_int (m6 I q (by simp))
  | str j=>obtain⟨t',rfl⟩:=ry;exact PySem.EqNone.eq_none_str (m6 I q (by simp))
  | _=>exact absurd (show false=true from hs) Bool.false_ne_true
 | bl i =>
  cases rx
  cases y with
  | non=>cases ry;exact PySem.EqNone.eq_bool_none (m6 I q (by simp))
  | bl j=>cases ry;exact eq_bool (m6 I q a7M)
  | str j=>obtain⟨t',rfl⟩:=ry;exact PySem.EqMixed.eq_bool_str (m6 I q (by simp))
  | _=>exact absurd (show false=true from hs) Bool.false_ne_true
 | int i =>
  obtain⟨t,rfl⟩:=rx
  cases y with
  | non=>cases ry;exact PySem.EqNone.eq_int_none (m6 I q (by simp))
  | int j=>obtain⟨t',rfl⟩:=ry;exact eq_int (m6 I q a5D)
  | str j=>obtain⟨t',rfl⟩:=ry;exact PySem.EqMixed.eq_int_str (m6 I q (by simp))
  | _=>exact absurd (show false=true from hs) Bool.false_ne_true
 | str i =>
  obtain⟨t,rfl⟩:=rx
  cases y with
  | non=>cases ry;exact PySem.EqNone.eq_str_none (m6 I q (by simp))
  | bl j=>cases ry;exact PySem.EqMixed.eq_str_bool (m6 I q (by simp))
  | int j=>obtain⟨t',rfl⟩:=ry;exact PySem.EqMixed.eq_str_int (m6 I q (by simp))
  | str j=>obtain⟨t',rfl⟩:=ry;exact eq_str (m6 I q a5A)
  | _=>exact absurd (show false=true from hs) Bool.false_ne_true
 | byt i =>
  obtain⟨t,rfl⟩:=rx
  cases y with
  | byt j=>obtain⟨t',rfl⟩:=ry;exact PySem.W.eq_bytes (m6 I q a52)
  | _=>exact absurd (show false=true from hs) Bool.false_ne_true
 | _=>cases y <;> exact absurd (show false=true from hs) Bool.false_ne_true
theorem b2Q:OpR X (compareOp .NotEq) rNe:=by
 intro pins s σ H x y v u Q I rx ry h
 obtain⟨hs,q⟩:=h
 cases x with
 | non =>
  cases rx
  cases y with
  | non=>cases ry;exact PySem.EqNone.ne_none_none (m6 I q (by simp))
  | bl j=>cases ry;exact PySem.EqNone.ne_none_bool (m6 I q (by simp))
  | int j=>obtain⟨t',rfl⟩:=ry;exact PySem.EqNone.ne_none_int (m6 I q (by simp))
  | str j=>obtain⟨t',rfl⟩:=ry;exact PySem.EqNone.ne_none_str (m6 I q (by simp))
  | _=>exact absurd (show false=true from hs) Bool.false_ne_true
 | bl i =>
  cases rx
  cases y with
  | non=>cases ry;exact PySem.EqNone.ne_bool_none (m6 I q (by simp))
  | bl j=>cases ry;exact ne_bool (m6 I q (congrArg not a7M))
  | str j=>obtain⟨t',rfl⟩:=ry;exact PySem.EqMixed.ne_bool_str (m6 I q (by simp))
  | _=>exact absurd (show false=true from hs) Bool.false_ne_true
 | int i =>
  obtain⟨t,rfl⟩:=rx
  cases y with
  | non=>cases ry;exact PySem.EqNone.ne_int_none (m6 I q (by simp))
  | int j=>obtain⟨t',rfl⟩:=ry;exact ne_int (m6 I q (congrArg not a5D))
  | str j=>obtain⟨t',rfl⟩:=ry;exact PySem.EqMixed.ne_int_str (m6 I q (by simp))
  | _=>exact absurd (show false=true from hs) Bool.false_ne_true
 | str i =>
  obtain⟨t,rfl⟩:=rx
  cases y with
  | non=>cases ry;exact PySem.EqNone.ne_str_none (m6 I q (by simp))
  | bl j=>cases ry;exact PySem.EqMixed.ne_str_bool (m6 I q (by simp))
  | int j=>obtain⟨t',rfl⟩:=ry;exact PySem.EqMixed.ne_str_int (m6 I q (by simp))
  | str j=>obtain⟨t',rfl⟩:=ry;exact ne_str (m6 I q (congrArg not a5A))
  | _=>exact absurd (show false=true from hs) Bool.false_ne_true
 | byt i =>
  obtain⟨t,rfl⟩:=rx
  cases y with
  | byt j=>obtain⟨t',rfl⟩:=ry;exact PySem.W.ne_bytes (m6 I q (congrArg not a52))
  | _=>exact absurd (show false=true from hs) Bool.false_ne_true
 | _=>cases y <;> exact absurd (show false=true from hs) Bool.false_ne_true
theorem a9J:OpR X (compareOp .Lt) (rI0 λi j=>.bl (decide (i<j))):=b14 λ_ _ _ _ _ _ _ q=>lt_int q
theorem a9G:OpR X (compareOp .Gt) (rI0 λi j=>.bl (decide (j<i))):=b14 λ_ _ _ _ _ _ _ q=>gt_int q
theorem b21:OpR X (compareOp .GtE) (rI0 λi j=>.bl (decide (j≤i))):=b14 λ_ _ _ _ _ _ _ q=>ge_int q
theorem b0U:OpR X (compareOp .Is) (λx y H Q=>y = .non∧Q (.bl (decide (x = .non))) H):=by
 intro pins s σ H x y v u Q I rx ry h
 obtain⟨rfl,q⟩:=h
 cases ry
 refine is_none_gen (m6 I q ?_)
 cases x <;> first
  | (cases rx;rfl)
  | (obtain⟨t,rfl⟩:=rx;rfl)
theorem a0d (b:Expr){op:CmpOp}(h:op ≠ .In:=by decide)(h2:op ≠ .NotIn:=by decide):behindInMarks op b=false:=by
 have e1:(op == CmpOp.In)=false:=by cases op <;> first | rfl | exact absurd rfl h
 have e2:(op == CmpOp.NotIn)=false:=by cases op <;> first | rfl | exact absurd rfl h2
 cases b <;> simp[behindInMarks,e1,e2]
theorem a8F {op:CmpOp}{r:R2}(ho:OpR X (compareOp op) r)(ha:PE X a ta)(hb:PE X b tb)(hm:behindInMarks op b=false):PE X (.Compare a [op] [b] pos) (tOp r ta tb):=by
 intro pins s σ H Q I h
 exact wpAny_Compare1 (b0G ha hb I h λv u s2 x y H2 I2 rx ry q=>ho pins s2 σ H2 x y v u Q I2 rx ry q) hm
noncomputable def a9S (t:TE):TT:=λσ H Q=>t σ H λx H'=>∃k,x = .bl k∧Q k H'
theorem Y2 {op:CmpOp}{r:R2}(ho:OpR X (compareOp op) r)(ha:PE X a ta)(hb:PE X b tb)(hm:behindInMarks op b=false):PT X (.Compare a [op] [b] pos) (a9S (tOp r ta tb)):=by
 intro pins s σ H Q I h
 refine wpAny_isTrue_Compare1 (thn (ha pins s σ H _ I h) λv s1 ⟨x,H1,I1,r1,q1⟩=>thn (hb pins s1 σ H1 _ I1 q1) λu s2 ⟨y,H2,I2,r2,q2⟩ =>
  thn (ho pins s2 σ H2 x y v u _ I2 r1 r2 q2) λc s3 ⟨z,H3,I3,r3,k,e,q3⟩=>?_) hm
 subst e
 cases r3
 exact wpAny_truthy_bool ⟨H3,I3,q3⟩
noncomputable def a7R (K:PySem.W.Frag)(x:V)(H:Hp)(k:Bool):Prop :=
 match x with
 | .non=>k=false
 | .bl b=>k=b
 | .int i=>k=(i != 0)
 | .str y=>y.length≤sizeLine∧k=((y.length:Int) != 0)
 | .byt y=>y.size≤sizeLine∧k=((y.size:Int) != 0)
 | .ref p=>(∃xs,SqL K H p xs∧k = !xs.isEmpty)∨(∃xs,SqT K H p xs∧k = !xs.isEmpty)∨∃kvs,H p=some (.dK kvs)∧k = !kvs.isEmpty
 | _=>False
theorem a4F {κ:Type}{kvs:List (κ×V)}{vs:List (κ×Value)}(r:KV kvs vs):(!vs.isEmpty) = !kvs.isEmpty:=by
 cases r <;> rfl
theorem a1c {xs:List V}{its:List Value}(r:j3 xs its):(!its.toArray.isEmpty) = !xs.isEmpty:=by
 cases r <;> simp
theorem V9:(sizeLine:Nat)<2 ^ 63:=by rw[sizeLine_eq];decide
theorem b1C:b3c X (λx H Q=>∃k,a7R X.K x H k∧Q k H):=by
 intro pins s σ H x v Q I rx h
 obtain⟨k,e,q⟩:=h
 have hl:=V9
 have hs:sizeLine=16777216:=sizeLine_eq
 cases x with
 | non =>
  cases rx
  have e':k=false:=e
  subst e'
  exact truthy_none ⟨H,I,q⟩
 | bl b =>
  cases rx
  have e':k=b:=e
  subst e'
  exact wpAny_truthy_bool ⟨H,I,q⟩
 | int i =>
  obtain⟨t,rfl⟩:=rx
  have e':k=(i != 0):=e
  subst e'
  exact PySem.P.truthy_int ⟨H,I,q⟩
 | str y =>
  obtain⟨t,rfl⟩:=rx
  obtain⟨hy,e'⟩:y.length≤sizeLine∧k=((y.length:Int) != 0):=e
  subst e'
  exact PySem.P.truthy_str (by omega) ⟨H,I.tok _,q⟩
 | byt y =>
  obtain⟨t,rfl⟩:=rx
  obtain⟨hy,e'⟩:y.size≤sizeLine∧k=((y.size:Int) != 0):=e
  subst e'
  exact PySem.W.truthy_bytes (by omega) ⟨H,I.tok _,q⟩
 | ref p =>
  cases rx
  have e':(∃xs,SqL X.K H p xs∧k = !xs.isEmpty)∨(∃xs,SqT X.K H p xs∧k = !xs.isEmpty)∨∃kvs,H p=some (.dK kvs)∧k = !kvs.isEmpty:=e
  rcases e' with ⟨xs,hx,e'⟩ | ⟨xs,hx,e'⟩ | ⟨kvs,hx,e'⟩
  ·subst e'
   obtain⟨its,r,pl,hz⟩:=I.list hx
   have hlen:=r.length
   exact wpAny_truthy_list pl.isList (by simp only[List.size_toArray];omega) ⟨H,I.tok _,by rw[a1c r];exact q⟩
  ·subst e'
   obtain⟨its,r,pl,hz⟩:=I.tuple hx
   have hlen:=r.length
   exact truthy_tuple pl (by simp only[List.size_toArray];omega) ⟨H,I.tok _,by rw[a1c r];exact q⟩
  ·subst e'
   obtain⟨hz,hS,vs,r,m⟩:kvs.length≤sizeLine∧(p == sysModules)=false∧∃vs,KV kvs vs∧s.heap.DictOf (a34 X.prog X.w) p vs:=I.hok p _ hx
   have hlen:kvs.length=vs.length:=Paired.length r
   exact wpAny_truthy_dict hS m (by omega) ⟨H,I.tok _,by rw[a4F r];exact q⟩
 | _=>exact(show False from e).elim
theorem a7O (ha:PE X a ta)(he:∀whole,isTrue a X.env whole=(do let v ←whole;standAt a.pos;holding [v] (truthy v))) :
  PT X a (λσ H Q=>ta σ H λx H'=>∃k,a7R X.K x H' k∧Q k H'):=by
 intro pins s σ H Q I h
 exact isTrue_plain (thn (ha pins s σ H _ I h) λv s1 ⟨x,H1,I1,r1,q1⟩=>b1C pins s1 σ H1 x v Q I1 r1 q1) (he _)
theorem a4q:OpR X (binaryOp .Add) (λx y H Q=>∃i j,x = .str i∧y = .str j∧i.length+j.length≤sizeLine∧Q (.str (i++j)) H):=by
 intro pins s σ H x y v u Q I rx ry h
 obtain⟨i,j,rfl,rfl,hz,q⟩:=h
 obtain⟨t,rfl⟩:=rx
 obtain⟨t',rfl⟩:=ry
 exact add_str (λt' tk=>⟨.str (i++j),H,I.tok _,⟨_,rfl⟩,q⟩) hz
theorem U5 {x:V}{us:List Value}(r:j3 [x] us):∃u,us=[u]∧p8 x u:=by
 cases r with
 | cons r1 r2=>cases r2;exact⟨_,rfl,r1⟩
theorem a9W {x y:V}{us:List Value}(r:j3 [x,y] us):∃u w',us=[u,w']∧p8 x u∧p8 y w':=by
 cases r with
 | cons r1 r2 =>
  cases r2 with
  | cons r3 r4=>cases r4;exact⟨_,_,rfl,r1,r3⟩
theorem a5R (hc:X.calm=true):A3 X (.builtin "max") (λxs H Q=>∃i j,xs=[.int i,.int j]∧Q (.int (if j > i then j else i)) H):=by
 intro pins s σ H xs us Q I r h
 obtain⟨i,j,rfl,q⟩:=h
 obtain⟨u,w',rfl,⟨t,rfl⟩,⟨t',rfl⟩⟩:=a9W r
 refine max_two_ints (I.ok.hd hc) λh' tk k=>⟨_,H,I.kept k,?_,q⟩
 by_cases hj:j > i
 ·rw[if_pos hj,if_pos hj];exact⟨_,rfl⟩
 ·rw[if_neg hj,if_neg hj];exact⟨_,rfl⟩
theorem a5T (hc:X.calm=true):A3 X (.builtin "min") (λxs H Q=>∃i j,xs=[.int i,.int j]∧Q (.int (if j<i then j else i)) H):=by
 intro pins s σ H xs us Q I r h
 obtain⟨i,j,rfl,q⟩:=h
 obtain⟨u,w',rfl,⟨t,rfl⟩,⟨t',rfl⟩⟩:=a9W r
 refine min_two_ints (I.ok.hd hc) λh' tk k=>⟨_,H,I.kept k,?_,q⟩
 by_cases hj:j<i
 ·rw[if_pos hj,if_pos hj];exact⟨_,rfl⟩
 ·rw[if_neg hj,if_neg hj];exact⟨_,rfl⟩
end
end L2
namespace L2
open PySem PySem.Spec PyProof.Rows
section
variable {prog:Program}{w:World}{A:Around}{E:Value->Shared->Prop}{s:Shared}{K:PySem.W.Frag}{x dx C f:Addr}{mA:Str->Option Value}{name:Str}{v:Value}
end
section
variable {P:Program}{w:World}{H H':Hp}{h h':Heap}{a C dx:Addr}{fs fs':List (Str×V)}
end
section
variable {X:Cx}{pins:List (Addr×Obj)}{σ:St}{H:Hp}{s:Shared}{a C dx:Addr}{fs:List (Str×V)}{f:Str}{v:V}{A:Around}{E:Value->Shared->Prop}
end
section
variable {X:Cx}{o e value:Expr}{f:Str}{pos pos' tpos:Pos}{ta tv:TE}
end
section
variable {X:Cx}{pins:List (Addr×Obj)}{σ:St}{H:Hp}{s:Shared}{A:Around}{E:Value->Shared->Prop}{Q:Value->Shared->Prop}{c:Value}{b:Bool}
end
end L2
namespace L2
open PySem PySem.Spec PyProof.Rows
structure Room (k:Nat) (A:Around):Prop where
 hd:A.handled=none
 dp:A.depth+3*k+5<recursionLimit
 un:A.units+16*k+200<cLine
 gd:A.guards=some []
theorem Room.mono {j k:Nat}{A:Around}(r:Room k A)(h:j≤k):Room j A:=⟨r.hd,by have:=r.dp;omega,by have:=r.un;omega,r.gd⟩
theorem Room.deeper {k:Nat}{A:Around}(r:Room (k+1) A)(env:Env):Room k (A.deeper env) :=
 ⟨r.hd,by have:=r.dp;show A.depth+1+3*k+5<_;omega,by have:=r.un;show A.units+3+16*k+200<_;omega,r.gd⟩
theorem Room.depth {k:Nat}{A:Around}(r:Room k A):A.depth<recursionLimit:=by have:=r.dp;omega
theorem Room.units {k:Nat}{A:Around}(r:Room k A):A.units+64<cLine:=by have:=r.un;omega
noncomputable def V5:TA:=λ_ H Q=>Q [] H
noncomputable def C6 (ta:TE)(tr:TA):TA:=λσ H Q=>ta σ H λx H1=>tr σ H1 λxs H2=>Q (x::xs) H2
section
variable {X:Cx}{e:Expr}{es:List Expr}{te:TE}{t:TA}{pos:Pos}
theorem A1:PA X [] V5:=λ_ _ _ _ H Q I h=>Calls.spliced_nil ⟨[],H,I,.nil,h⟩
theorem m8 (ha:PE X e te)(hr:PA X es t)(hs:starEach (e::es) X.env=(false,eval e X.env)::starEach es X.env:=by rfl):PA X (e::es) (C6 te t):=by
 intro pos pins s σ H Q I h
 rw[hs]
 show wpAny _ _ (spliced ((false,eval e X.env)::backTo pos (starEach es X.env))) _ _ s
 refine Calls.spliced_cons (thn (ha pins s σ H _ I h) λu s1 ⟨x,H1,I1,r1,q1⟩=>?_)
 exact thn (hr pos pins s1 σ H1 _ I1 q1) λus s2 ⟨xs,H2,I2,r2,q2⟩=>⟨x::xs,H2,I2,.cons r1 r2,q2⟩
noncomputable def a91 (t:TA):TE:=λσ H Q=>t σ H λxs H1=>xs.length≤sizeLine∧∀p,H1 p=none->Q (.ref p) (upd H1 p (.tup xs))
noncomputable def a8W (t:TA):TE:=λσ H Q=>t σ H λxs H1=>xs.length≤sizeLine∧∀p,H1 p=none->Q (.ref p) (upd H1 p (.lst xs))
theorem a4h {x1}(h:PA X es t):PE X (.Tuple es x1 pos) (a91 t):=by
 intro pins s σ H Q I hq
 refine wpAny_Tuple_spliced (thn (h pos pins s σ H _ I hq) λus s1 ⟨xs,H1,I1,r,z,q⟩=>⟨by rw[←r.length];exact z,?_⟩)
 have hf:H1 s1.heap.objs.size=none:=I1.hok.fresh (Nat.le_refl _)
 refine⟨.ref s1.heap.objs.size,upd H1 s1.heap.objs.size (.tup xs),I1.laid (t':=s1.toks) (λb u e=>Heap.get?_push_of_some _ e) (Nat.le_refl _) ?_,rfl,q _ hf⟩
 exact⟨z,us,r,⟨_,Heap.get?_push_size _ rfl,rfl,_,rfl⟩⟩
theorem a1o (h:PA X es t):PE X (.List es pos) (a8W t):=by
 intro pins s σ H Q I hq
 refine wpAny_List_spliced (thn (h pos pins s σ H _ I hq) λus s1 ⟨xs,H1,I1,r,z,q⟩=>⟨by rw[←r.length];exact z,?_⟩)
 have hf:H1 s1.heap.objs.size=none:=I1.hok.fresh (Nat.le_refl _)
 refine⟨.ref s1.heap.objs.size,upd H1 s1.heap.objs.size (.lst xs),I1.laid (t':=s1.toks) (λb u e=>Heap.get?_push_of_some _ e) (Nat.le_refl _) ?_,rfl,q _ hf⟩
 exact⟨z,us,0,r,Heap.get?_push_size _ rfl⟩
end
noncomputable abbrev Sp:=List V->Hp->VK->XK->Prop
noncomputable abbrev CXT:=List Env->Hp->Shared->XK->Value->Shared->Prop
structure Env0 (P:Program) (w:World) (K:PySem.W.Frag) (mg:Str->Option Value) (base:Heap) (A:Around) (outer:List Env) (s:Shared) (H:Hp):Prop where
 frames:A.frames=some outer
 mod:Mod K mg base
 bs:∀b o,base.get? b=some o->s.heap.get? b=some o∧H b=none
 bsz:base.objs.size≤s.heap.objs.size
 funs:s.heap.FunFrames base outer
 frf:∀b∈frs outer,H b=none
 hok:HOk P w H s.heap
 bare:AllBare s.gens
noncomputable def CE (outer:List Env)(P:Program)(w:World)(H:Hp)(s:Shared)(Q:VK)(u:Value)(s':Shared):Prop :=
 ∃v H',s'.os=s.os∧AllBare s'.gens∧Un (frs outer) [] H H' s.heap s'.heap∧HOk P w H' s'.heap∧p8 v u∧Q v H'
noncomputable def CR (CX:CXT)(outer:List Env)(P:Program)(w:World)(H:Hp)(s:Shared)(Q:VK)(E:XK)(r:Result)(s':Shared):Prop :=
 match r with
 | .ok (.ret u)=>CE outer P w H s Q u s'
 | .ok _=>False
 | .error e=>CX outer H s E e s'
structure FnOk (P:Program) (w:World) (K:PySem.W.Frag) (mg:Str->Option Value) (base:Heap) (CX:CXT) (k:Nat) (f:Addr) (fd:FuncData) (ps:List Str) (sp:Sp):Prop where
 len:∀vs H Q E,sp vs H Q E->vs.length=ps.length
 run:∀(A:Around) (outer:List Env) (s:Shared) (H:Hp) (args:Args) (us:List Value) (vs:List V) (Q:VK) (E:XK),Room k A->Env0 P w K mg base A outer s H->BindsTo s fd args (ps.zip us)->j3 vs us->sp vs H Q E ->
  codeAny (model P w) A (.call (.ref f) args) (CR CX outer P w H s Q E) s
section
variable {X:Cx}{pins:List (Addr×Obj)}{σ:St}{H:Hp}{s s':Shared}
theorem Inv.env0 (I:Inv X pins σ H s):Env0 X.prog X.w X.K X.mg X.base X.A X.stack s H :=
 ⟨I.ok.frames,I.ok.mod,I.bs,Nat.le_trans I.ok.bsz I.sz,I.stack,I.stkFree,I.hok,I.bare⟩
theorem Inv.after {Q:VK}{u:Value}(I:Inv X pins σ H s)(h:CE X.stack X.prog X.w H s Q u s'):EP X pins σ Q u s':=by
 obtain⟨v,H',os,bare,un,hok,r,q⟩:=h
 obtain⟨hh,g,d,t,os'⟩:=s'
 obtain rfl:os'=s.os:=os
 exact⟨v,H',I.call (h':=hh) (g':=g) (d':=d) (t':=t) (ch:=[]) un hok bare (λb z=>absurd z (by simp)),r,q⟩
end
noncomputable def a3W (sp:Sp)(dvs:List V)(E:XK)(t:TA):TE:=λσ H Q=>t σ H λvs H1=>sp (vs++dvs) H1 Q E
noncomputable def a2u (K:PySem.W.Frag)(fd:FuncData)(ps:List Str)(ds:List Value):Prop :=
 ∀(s:Shared) (us:List Value),K.In s.heap->(us++ds).length=ps.length->BindsTo s fd ⟨us,[]⟩ (ps.zip (us++ds))
theorem a2u.all {K:PySem.W.Frag}{fd:FuncData}{ps:List Str}(h:∀us:List Value,us.length=ps.length->bindArgs fd ⟨us,[]⟩=pure (ps.zip us)):a2u K fd ps []:=λs us _ hl=>by
 rw[List.append_nil]at hl ⊢
 exact .of_eq (h us hl)
noncomputable def a4N (CX:CXT)(X:Cx)(E:XK):Prop:=∀(pins:List (Addr×Obj)) (σ:St) (H:Hp) (s:Shared) (e:Value) (s':Shared),Inv X pins σ H s->CX X.stack H s E e s'->X.xe e s'
section
variable {X:Cx}{CX:CXT}{k:Nat}{f C:Addr}{fd:FuncData}{ps:List Str}{sp:Sp}{dvs:List V}{ds:List Value}{E:XK}{x m:Str}{p pos apos:Pos}{e o:Expr}{es:List Expr}{ta:TE}{t:TA}
theorem b0x {pins:List (Addr×Obj)}{σ:St}{H:Hp}{s:Shared}{Q:VK}{us:List Value}{vs:List V}(F:FnOk X.prog X.w X.K X.mg X.base CX k f fd ps sp)(hr:Room k X.A)(hb:a2u X.K fd ps ds)(hd:j3 dvs ds)(hx:a4N CX X E)
  (I:Inv X pins σ H s) (r:j3 vs us) (h:sp (vs++dvs) H Q E):wpAny (model X.prog X.w) X.A (call (.ref f) us) (EP X pins σ Q) X.xe s:=by
 have r2:j3 (vs++dvs) (us++ds):=r.append hd
 have hl:(us++ds).length=ps.length:=by rw[←r2.length];exact F.len _ _ _ _ h
 refine wpAny_call (codeAny_mono (F.run X.A X.stack s H ⟨us,[]⟩ (us++ds) (vs++dvs) Q E hr I.env0 (hb s us I.kIn hl) r2 h) λr s' hq=>?_)
 cases r with
 | error e=>exact hx pins σ H s e s' I hq
 | ok fl =>
  cases fl with
  | ret u=>exact I.after hq
  | next=>exact False.elim hq
  | brk=>exact False.elim hq
  | cont=>exact False.elim hq
theorem a8I (F:FnOk X.prog X.w X.K X.mg X.base CX k f fd ps sp)(hr:Room k X.A)(hg:Gl X x)(hm:X.mg x=some (.ref f))(hk:PySem.W.keepIn X.K (.ref f)=true)(hb:a2u X.K fd ps ds)(hd:j3 dvs ds)(hx:a4N CX X E)
  (ha:PA X (e::es) t) (hdb:(x == ("__debug__":Str))=false:=by decide) (he:starEach (e::es) X.env=(false,eval e X.env)::starEach es X.env:=by rfl) (hpl:(backTo pos (starEach es X.env)).any (·.1)=false:=by rfl) :
  PE X (.Call (.Name x p) (e::es) [] pos) (a3W sp dvs E t):=by
 intro pins s σ H Q I h
 refine wpAny_Call_Name_kw (a5m I hg hm ?_ hdb)
 refine PySem.W.callWith_K (h₀:=X.base) I.ok.mod.kin hk (thn (ha pos pins s σ H _ I h) λus s1 ⟨vs,H1,I1,r,q⟩=>⟨I1.kIn,?_⟩) he hpl
 exact b0x F hr hb hd hx I1 r q
end
section
variable {X:Cx}{CX:CXT}{k:Nat}{f C:Addr}{fd:FuncData}{ps ks:List Str}{sp:Sp}{E:XK}{x m:Str}{p pos apos kpos:Pos}{e o:Expr}{es:List Expr}{kws:List Keyword}{te ta:TE}{t tk:TA}{nm:Option Str}
variable {g:List Value->List Value->List Value}{gV:List V->List V->List V}
end
structure FnScope (N P:List Str) (sc:Scope):Prop where
 kind:sc.kind = .function
 co:sc.isCoroutine=false
 gen:sc.isGenerator=false
 nd:N.Nodup
 pre:N.take P.length=P
 par:∀x∈P,sc.names.lookup x=some .local∨sc.names.lookup x=some .cell
 nofree:∀y∈sc.names,y.2 ≠ .free
theorem a29 {kindOf:Str->Option NameKind}{x:Str}:∀{binds:List (Str×Value)} {m:Str->Option Value},(∀v,(x,v) ∉ binds)->bindL kindOf binds m x=m x
 | [],_,_=>rfl
 | (n,v)::r,m,h=>by
  unfold bindL
  rw[a29 λw hw=>h w (List.mem_cons_of_mem _ hw)]
  split
  ·have:x≠n:=by rintro rfl;exact h v List.mem_cons_self
   simp[this]
  ·rfl
theorem a25 {kindOf:Str->Option NameKind}{x:Str}:∀{binds:List (Str×Value)} {m:Str->Option Value},(∀v,(x,v) ∉ binds)->bindC kindOf binds m x=m x
 | [],_,_=>rfl
 | (n,v)::r,m,h=>by
  unfold bindC
  rw[a25 λw hw=>h w (List.mem_cons_of_mem _ hw)]
  split
  ·rfl
  ·have:x≠n:=by rintro rfl;exact h v List.mem_cons_self
   simp[this]
theorem a2p {kindOf:Str->Option NameKind}{x:Str}{v:Value}:∀{P:List Str} {vs:List Value} {i:Nat} {m:Str->Option Value},P.Nodup->P[i]? = some x->vs[i]? = some v->kindOf x=some .local ->
  bindL kindOf (P.zip vs) m x=some v
 | [],_,_,_,_,h,_,_=>by simp at h
 | _::_,[],_,_,_,_,h,_=>by simp at h
 | p::P,w::vs,0,m,nd,h1,h2,hk=>by
  simp at h1 h2;subst h1;subst h2
  show bindL kindOf ((p,w)::P.zip vs) m p=_
  unfold bindL
  rw[a29 λv hv=>(List.nodup_cons.mp nd).1 (List.of_mem_zip hv).1,if_pos hk]
  simp
 | p::P,w::vs,i+1,m,nd,h1,h2,hk=>by
  show bindL kindOf ((p,w)::P.zip vs) m x=_
  unfold bindL
  exact a2p (i:=i) (List.nodup_cons.mp nd).2 (by simpa using h1) (by simpa using h2) hk
theorem a2a {kindOf:Str->Option NameKind}{x:Str}{v:Value}:∀{P:List Str} {vs:List Value} {i:Nat} {m:Str->Option Value},P.Nodup->P[i]? = some x->vs[i]? = some v->kindOf x≠some .local ->
  bindC kindOf (P.zip vs) m x=some v
 | [],_,_,_,_,h,_,_=>by simp at h
 | _::_,[],_,_,_,_,h,_=>by simp at h
 | p::P,w::vs,0,m,nd,h1,h2,hk=>by
  simp at h1 h2;subst h1;subst h2
  show bindC kindOf ((p,w)::P.zip vs) m p=_
  unfold bindC
  rw[a25 λv hv=>(List.nodup_cons.mp nd).1 (List.of_mem_zip hv).1,if_neg hk]
  simp
 | p::P,w::vs,i+1,m,nd,h1,h2,hk=>by
  show bindC kindOf ((p,w)::P.zip vs) m x=_
  unfold bindC
  exact a2a (i:=i) (List.nodup_cons.mp nd).2 (by simpa using h1) (by simpa using h2) hk
noncomputable def K0 (N:List Str)(vs:List V):St:=vs.map some++List.replicate (N.length-vs.length) none
noncomputable def J3 (CX:CXT)(P:Program)(w:World)(K:PySem.W.Frag)(mg:Str->Option Value)(base:Heap)(N:List Str)(qual:Str)(scope:Scope)(f:Addr)(cd:Value)(A:Around)(outer:List Env)(s:Shared)(H:Hp)(E:XK):Cx where
 prog:=P
 w:=w
 K:=K
 mg:=mg
 base:=base
 A:=A.deeper (envOfC qual scope s.heap.objs.size f cd)
 N:=N
 s₀:=s
 H₀:=H
 env:=envOfC qual scope s.heap.objs.size f cd
 outer:=outer
 stack:=envOfC qual scope s.heap.objs.size f cd::outer
 ex:=[]
 calm:=true
 fn:=λ_=>true
 pn:=[]
 xe:=λe s'=>wpAny (model P w) (A.deeper (envOfC qual scope s.heap.objs.size f cd)) (leaving (envOfC qual scope s.heap.objs.size f cd) e) (λ_ s''=>CX outer H s E e s'') (λe' s''=>CX outer H s E e' s'') s'
theorem a3o {sc:Scope}{n:Nat}{x:Str}(h:sc.names.lookup x=some .cell):∃c,(cellsFrom n sc.names []).lookup x=some c:=by
 have q:=PySem.W.cellsFrom_some sc.names n [] (.inl h)
 exact Option.isSome_iff_exists.mp q
theorem a6d {CX:CXT}{P:Program}{w:World}{K:PySem.W.Frag}{mg:Str->Option Value}{base:Heap}{N ps:List Str}{qual:Str}{scope:Scope}{f:Addr}{cd:Value}{A:Around}{outer:List Env}{s s1:Shared}{H:Hp}{E:XK}{us:List Value}{vs:List V}
  (S:FnScope N ps scope) (hd:A.handled=none) (e0:Env0 P w K mg base A outer s H) (hl:vs.length=ps.length) (r:j3 vs us)
  (x:InCallC s s.heap.objs.size (bindL (envOfC qual scope s.heap.objs.size f cd).kindOf (ps.zip us) λ_=>none) (cellsFrom (s.heap.objs.size+1) scope.names []) (bindC (envOfC qual scope s.heap.objs.size f cd).kindOf (ps.zip us) λ_=>none) s1) :
  Inv (J3 CX P w K mg base N qual scope f cd A outer s H E) [] (K0 N vs) H s1:=by
 have hpl:ps.length≤N.length:=by have:=congrArg List.length S.pre;rw[List.length_take]at this;omega
 obtain⟨h1,tk,rfl,hk⟩:=x.done
 have noA:∀b:Addr,b ∉ (J3 CX P w K mg base N qual scope f cd A outer s H E).ex:=λb z=>absurd (show b∈([]:List Addr) from z) (by simp)
 refine⟨⟨e0.mod,S.kind,rfl,rfl,Nat.le_refl _,λy z c h1 h2=>?_,λy hy=>?_,λy c _ h=>?_,λ_=>hd,Around.frames_deeper e0.frames,.inr ⟨rfl,rfl⟩,λb z=>absurd z (noA b),e0.bs,e0.bsz,λb _ _=>noA b,λb z=>absurd z (noA b),e0.funs,e0.frf⟩,
  rfl,e0.bare,Un.kept hk,⟨_,x.toInCall.ns,λi y v h1 h2 h3=>?_⟩,λy c h=>⟨_,x.cell y c h⟩,e0.hok.fresh (Nat.le_refl _),λy c h=>?_,λp hp=>absurd (show p∈([]:List (Addr×Obj)) from hp) (by simp),e0.hok.kept hk,?_⟩
 ·exact name_of_addr x.apart (PySem.mem_of_lookup h1) (PySem.mem_of_lookup h2)
 ·have hy:scope.names.lookup y=some .cell∨scope.names.lookup y=some .free:=hy
  rcases hy with hy | hy
  ·exact a3o hy
  ·exact absurd rfl (S.nofree _ (PySem.mem_of_lookup hy))
 ·exact Nat.le_of_lt (x.above y c (PySem.mem_of_lookup h))
 ·have hi:i<vs.length:=by
   unfold K0 at h2
   by_cases hi:i<vs.length
   ·exact hi
   ·rw[List.getElem?_append_right (by simpa using hi)]at h2
    rw[List.getElem?_replicate]at h2
    split at h2 <;> cases h2
  have ha:vs[i]? = some v:=by
   unfold K0 at h2
   rw[List.getElem?_append_left (by simpa using hi),List.getElem?_map]at h2
   cases e:vs[i]? with
   | none=>rw[e]at h2;cases h2
   | some a=>rw[e]at h2;cases h2;rfl
  obtain⟨u,hu,rv⟩:=r.get ha
  have hp:ps[i]? = some y:=by
   rw[←S.pre,List.getElem?_take_of_lt (by omega)];exact h1
  have ndP:ps.Nodup:=by rw[←S.pre];exact S.nd.sublist (List.take_sublist _ _)
  refine⟨u,rv,?_⟩
  rcases S.par y (List.mem_of_getElem? hp) with k | k
  ·exact .inl ⟨k,a2p ndP hp hu k⟩
  ·obtain⟨c,e⟩:=a3o (n:=s.heap.objs.size+1) k
   refine .inr ⟨.inl k,c,e,?_⟩
   have q:=x.cell y c e
   rw[a2a ndP hp hu (by show scope.names.lookup y≠_;rw[k];decide)]at q
   exact q
 ·exact e0.hok.fresh (Nat.le_of_lt (x.above y c (PySem.mem_of_lookup h)))
 ·unfold K0
  show _=N.length
  rw[List.length_append,List.length_map,List.length_replicate]
  omega
theorem a9T {CX:CXT}{P:Program}{w:World}{K:PySem.W.Frag}{mg:Str->Option Value}{base:Heap}{k:Nat}{f:Addr}{name qual:Str}{params:Arguments}{body:List Stmt}{scope:Scope}{dV kV doc pm cdv ct oc:Value}{an od:Option Addr}
  {osl:Array (Option Value)} {N ps:List Str} {sp:Sp} (lk:K.lookup f=some ⟨oc,od,.func (PySem.W.fnOf name qual params body scope dV kV doc pm an cdv ct),osl⟩) (hcd:PySem.W.codeIn K cdv qual=true) (S:FnScope N ps scope)
  (len:∀vs H Q E,sp vs H Q E->vs.length=ps.length)
  (hbody:∀(A:Around) (outer:List Env) (s:Shared) (H:Hp) (vs:List V) (Q:VK) (E:XK),Room k (A.deeper (envOfC qual scope s.heap.objs.size f cdv))->sp vs H Q E ->
   ∃t,PSs (J3 CX P w K mg base N qual scope f cdv A outer s H E) body t∧t { nx:=λ_ H'=>Q .non H',rt:=Q } (K0 N vs) H) :
  FnOk P w K mg base CX (k+1) f (PySem.W.fnOf name qual params body scope dV kV doc pm an cdv ct) ps sp:=by
 refine⟨len,λA outer s H args us vs Q E hr e0 hb r hsp=>?_⟩
 have hl:=len _ _ _ _ hsp
 have KX:K.In s.heap:=e0.mod.kin.keeps λb o e=>(e0.bs b o e).1
 have lim:s.heap.NoLimit:=e0.mod.nolimit.keeps λb o e=>(e0.bs b o e).1
 have hkind:∀y∈ps.zip us,scope.names.lookup y.1=some .local∨(scope.names.lookup y.1=some .cell∧((cellsFrom (s.heap.objs.size+1) scope.names []).lookup y.1).isSome=true):=λ⟨n,v⟩ hy=>by
  rcases S.par n (List.of_mem_zip hy).1 with q | q
  ·exact .inl q
  ·exact .inr ⟨q,PySem.W.cellsFrom_some _ _ _ (.inl q)⟩
 refine codeAny_call_function hr.depth (KX _ _ lk) rfl S.co S.gen rfl (PySem.W.codeRec_of KX hcd) (hb _ _ _ _ ?_)
 refine wpAny_newFunctionEnv_cells S.kind hkind λenv he s1 x=>?_
 subst he
 refine⟨lim.keeps x.toInCall.keep,codeAny_func ?_⟩
 obtain⟨t,ht,hq⟩:=hbody A outer s H vs Q E (hr.deeper _) hsp
 have I:Inv (J3 CX P w K mg base N qual scope f cdv A outer s H E) [] (K0 N vs) H s1:=a6d S hr.hd e0 hl r x
 refine wpAny_mono (ht [] s1 (K0 N vs) H _ I hq) (λfl s' hs=>?_) λe s' hs=>hs
 have fin:∀{σ':St} {H':Hp} {v:V} {u:Value},Inv (J3 CX P w K mg base N qual scope f cdv A outer s H E) [] σ' H' s'->p8 v u->Q v H'->CE outer P w H s Q u s' :=
  λ{σ' H' v u} J rv q=>⟨v,H',J.os,J.bare,J.base,J.hok,rv,q⟩
 cases fl with
 | ret u =>
  obtain⟨v,σ',H',J,rv,q⟩:=hs
  exact fin J rv q
 | next =>
  obtain⟨σ',H',J,q⟩:=hs
  exact fin (v:=V.non) (u:=Value.none) J rfl q
 | brk =>
  obtain⟨_,_,_,q⟩:=hs
  exact False.elim q
 | cont =>
  obtain⟨_,_,_,q⟩:=hs
  exact False.elim q
end L2
namespace L2
open PySem PySem.Spec PyProof.Rows
section
variable {X:Cx}{x:Str}{p pos:Pos}{e:Expr}{es:List Expr}{t:TA}{id T:String}{r:List V->Hp->VK->Prop}
noncomputable def tCB (r:List V->Hp->VK->Prop)(t:TA):TE:=λσ H Q=>t σ H λvs H1=>r vs H1 Q
theorem a1E (hc:A3 X (.builtin id) r)(hg:Gl X x)(hm:X.mg x=none)(hv:bootBuiltins x=some (.builtin id))(ha:PA X (e::es) t)(hn:x ≠ "__name__":=by decide)(hdb:(x == ("__debug__":Str))=false:=by decide)
  (he:starEach (e::es) X.env=(false,eval e X.env)::starEach es X.env:=by rfl) (hpl:(backTo pos (starEach es X.env)).any (·.1)=false:=by rfl):PE X (.Call (.Name x p) (e::es) [] pos) (tCB r t):=by
 intro pins s σ H Q I h
 refine wpAny_Call_Name_kw (U8 I hg hm hv ?_ hn hdb)
 exact PyProof.Rows.callWith_builtin1 (thn (ha pos pins s σ H _ I h) λus s1 ⟨vs,H1,I1,r1,q1⟩=>hc pins s1 σ H1 vs us Q I1 r1 q1) he hpl
theorem T1 (hc:A3 X (.type T) r)(hg:Gl X x)(hm:X.mg x=none)(hv:bootBuiltins x=some (.type T))(ha:PA X (e::es) t)(hn:x ≠ "__name__":=by decide)(hdb:(x == ("__debug__":Str))=false:=by decide)
  (he:starEach (e::es) X.env=(false,eval e X.env)::starEach es X.env:=by rfl) (hpl:(backTo pos (starEach es X.env)).any (·.1)=false:=by rfl):PE X (.Call (.Name x p) (e::es) [] pos) (tCB r t):=by
 intro pins s σ H Q I h
 refine wpAny_Call_Name_kw (U8 I hg hm hv ?_ hn hdb)
 exact PyProof.Rows.callWith_type1 (thn (ha pos pins s σ H _ I h) λus s1 ⟨vs,H1,I1,r1,q1⟩=>hc pins s1 σ H1 vs us Q I1 r1 q1) he hpl
end
end L2
namespace HT
open PySem PyProof.Rows
section
open PySem.SeqAt
open PySem.AutoSeq1 (wpAny_loadPart')
open PySem.MeetsSeq PySem.MeetsSeq2 PySem.MeetsSeq3
end
section
variable {prog:Program}{w:World}{A:Around}{E:Value->Shared->Prop}{s:Shared}
theorem cat_tup {t b:Addr}{vs ws:List Value}{Q:Value->Shared->Prop}(ht:IsTup s.heap t vs.toArray)(hb:IsTup s.heap b ws.toArray)(hv:vs≠[])
  (h1:ws=[]->Q (.ref t) s) (h2:ws≠[]->Q (.ref s.heap.objs.size) { s with heap:=s.heap.push { cls:=.type "tuple",data:=.seq (vs++ws).toArray } })
  (hsz:vs.length+ws.length≤sizeLine):wpAny (model prog w) A (binaryOp .Add (.ref t) (.ref b)) Q E s:=by
 obtain⟨⟨cls,dd,data,sl⟩,ho,hc,n,hd⟩:=id ht
 obtain⟨⟨cls2,dd2,data2,sl2⟩,ho2,hc2,n2,hd2⟩:=id hb
 simp only at hc hd hc2 hd2
 subst hc hd hc2 hd2
 have e:vs.toArray++ws.toArray=(vs++ws).toArray:=by simp
 by_cases hw:ws=[]
 ·exact concat_meets ⟨_,ho,rfl⟩ ⟨_,ho2,rfl⟩ noFill_tuple_add seq_tuple_add PySem.F.slot_tuple_add PySem.F.entry_tuple_add (PySem.F.args_tuple_add_2 _ _)
   (tuple_addW1 t b vs.toArray ws.toArray n n2 dd dd2 sl sl2 (by simpa using hv) (by simp[hw])) ⟨ho,ho2,h1 hw⟩
 ·refine concat_meets ⟨_,ho,rfl⟩ ⟨_,ho2,rfl⟩ noFill_tuple_add seq_tuple_add PySem.F.slot_tuple_add PySem.F.entry_tuple_add (PySem.F.args_tuple_add_2 _ _)
   (tuple_addW2 t b vs.toArray ws.toArray n n2 dd dd2 sl sl2 (by simpa using hv) (by simpa using hw) (by rw[List.size_toArray,List.size_toArray];exact hsz)) ⟨ho,ho2,?_⟩
  rw[e]
  exact h2 hw
noncomputable def sIx (n d:Nat):Option Int->Nat
 | none=>d
 | some v=>if v<0 then(v+(n:Int)).toNat else min v.toNat n
theorem sIx_none (n d:Nat):sIx n d none=d:=rfl
theorem sIx_nat (n d k:Nat):sIx n d (some (k:Int))=min k n:=by
 show(if (k:Int)<0 then((k:Int)+(n:Int)).toNat else min (k:Int).toNat n)=min k n
 rw[if_neg (by omega),Int.toNat_natCast]
theorem b18 (n d:Nat)(hd:d≤n)(o:Option Int):sIx n d o≤n:=by
 cases o with
 | none=>exact hd
 | some v =>
  show(if v<0 then(v+(n:Int)).toNat else min v.toNat n)≤n
  by_cases hv:v<0
  ·rw[if_pos hv];omega
  ·rw[if_neg hv];exact Nat.min_le_right _ _
theorem a5J (v:Int)(n d:Nat):(if v<0 then max (v+(n:Int)) 0 else min v (n:Int))=((sIx n d (some v):Nat):Int):=by
 show(if v<0 then max (v+(n:Int)) 0 else min v (n:Int))=(((if v<0 then(v+(n:Int)).toNat else min v.toNat n):Nat):Int)
 by_cases hv:v<0
 ·simp only[if_pos hv];omega
 ·simp only[if_neg hv];omega
theorem a4z (lo hi:Option Int)(n:Nat):Builtin.Slice.sliceAdjust lo hi 1 (n:Int)=(((sIx n 0 lo:Nat):Int),((sIx n n hi:Nat):Int)):=by
 have h1:¬((1:Int)<0):=by omega
 unfold Builtin.Slice.sliceAdjust
 simp only[h1,if_false]
 refine Prod.ext ?_ ?_
 ·cases lo with
  | none=>rfl
  | some v=>exact a5J v n 0
 ·cases hi with
  | none=>rfl
  | some v=>exact a5J v n n
theorem a4E (i j:Nat):Builtin.Slice.slicePlaces (i:Int) (j:Int) 1=j-i:=by
 unfold Builtin.Slice.slicePlaces
 have h1:(1:Int) > 0:=by omega
 simp only[h1,if_true,Int.ediv_one]
 split <;> omega
theorem V1 {v:Value}{o:Option Int}{Q:Option Int->Shared->Prop}(p:IsPart v o)(h:Q o s):wpAny (model prog w) A (Builtin.Slice.slicePartIndex v) Q E s:=by
 cases p with
 | none=>exact slicePart_none h
 | int i t=>exact slicePart_int h
theorem M5 {sl:Addr}{vl vu:Value}{lo hi:Option Int}{n:Nat}{Q:Int×Int×Nat->Shared->Prop}(hs:s.heap.IsSliceOf sl vl vu .none)(pl:IsPart vl lo)(pu:IsPart vu hi)
  (h:Q (((sIx n 0 lo:Nat):Int),1,sIx n n hi-sIx n 0 lo) s):wpAny (model prog w) A (Builtin.Slice.sliceApplied (.ref sl) (pure (n:Int))) Q E s:=by
 obtain⟨os,hos,hcs,hds⟩:=id hs
 unfold Builtin.Slice.sliceApplied Builtin.Slice.sliceFields
 refine wpAny_bind (wpAny_bind (wpAny_field hos hds (x:=vl) rfl (wpAny_bind (wpAny_field hos hds (x:=vu) rfl (wpAny_bind (wpAny_field hos hds (x:=.none) rfl (wpAny_pure ?_)))))))
 refine wpAny_bind (slicePart_none ?_)
 show wpAny _ _ (if ((1:Int) == 0)=true then _ else _) _ _ s
 rw[if_neg (by decide)]
 refine wpAny_bind (V1 pl (wpAny_bind (V1 pu (wpAny_bind (wpAny_pure ?_)))))
 show wpAny _ _ (match Builtin.Slice.sliceAdjust lo hi 1 (n:Int) with | (lo,hi)=>pure (lo,(1:Int),Builtin.Slice.slicePlaces lo hi 1)) _ _ s
 rw[a4z lo hi n]
 show wpAny _ _ (pure (((sIx n 0 lo:Nat):Int),(1:Int),Builtin.Slice.slicePlaces ((sIx n 0 lo:Nat):Int) ((sIx n n hi:Nat):Int) 1)) _ _ s
 rw[a4E]
 exact wpAny_pure h
theorem a6z (xs:Array Value)(i k:Nat):((List.range k).filterMap λ(m:Nat)=>xs[((i:Int)+(m:Int)*1).toNat]?).toArray=((xs.toList.drop i).take k).toArray:=by
 have e:(λ(m:Nat)=>xs[((i:Int)+(m:Int)*1).toNat]?) = λm=>xs[i+m]?:=by
  funext m
  have:((i:Int)+(m:Int)*1).toNat=i+m:=by omega
  rw[this]
 rw[e]
 have:=pick_run xs i k
 rw[List.filterMap_map]at this
 have e2:((λx=>xs[x]?) ∘ λx=>i+x) = λm=>xs[i+m]?:=rfl
 rw[e2]at this
 rw[this]
theorem getItem_tuple_cut {t sl:Addr}{items:Array Value}{vl vu:Value}{lo hi:Option Int}{Q:Value->Shared->Prop}(ht:IsTup s.heap t items)(hs:s.heap.IsSliceOf sl vl vu .none)(pl:IsPart vl lo)(pu:IsPart vu hi)
  (hw:¬(sIx items.size 0 lo=0∧sIx items.size items.size hi=items.size))
  (h:Q (.ref s.heap.objs.size) { s with heap:=s.heap.push { cls:=.type "tuple",data:=.seq ((items.toList.drop (sIx items.size 0 lo)).take (sIx items.size items.size hi-sIx items.size 0 lo)).toArray } })
  (hsz:items.size≤sizeLine):wpAny (model prog w) A (getItem (.ref t) (.ref sl)) Q E s:=by
 have htake:sizeOk (.seq ((items.toList.drop (sIx items.size 0 lo)).take (sIx items.size items.size hi-sIx items.size 0 lo)).toArray):=by
  show((items.toList.drop (sIx items.size 0 lo)).take (sIx items.size items.size hi-sIx items.size 0 lo)).toArray.size≤sizeLine
  rw[List.size_toArray,List.length_take,List.length_drop,Array.length_toList]
  omega
 have hj:sIx items.size items.size hi≤items.size:=b18 _ _ (Nat.le_refl _) hi
 obtain⟨os,hos,hcs,hds⟩:=id hs
 have hTs:s.TypeIs (.ref sl) "slice":=⟨os,hos,hcs⟩
 unfold getItem
 try with_reducible refine wpAny_holding ?_
 first | refine wpAny_bind (wpAny_pure ?_) | skip
 refine wpAny_bind (wpAny_sequenceKey ht.typeIs (by decide) ?_)
 refine wpAny_bind (wpAny_callSpecial?_slot (name:=Str.ofString "__getitem__") ht.typeIs PyProof.Rows.slot_tuple_getitem
  (wpAny_call_entry PyProof.Rows.slot_tuple_getitem ht.typeIs entry_tuple_getitem ?_ (args_tuple_getitem _ _)))
 show wpAny _ _ (Builtin.Tuple.tupleItemsOf (.ref t) >>= _) _ _ s
 refine wpAny_bind (tupleItemsOf_ ht ?_)
 refine wpAny_bind (wpAny_typeOf hTs ?_)
 rw[if_pos (by decide)]
 refine wpAny_bind (M5 hs pl pu ?_)
 have hno:¬((((sIx items.size 0 lo:Nat):Int) == 0&&(1:Int) == 1&&(sIx items.size items.size hi-sIx items.size 0 lo) == items.size)=true):=by
  intro q
  rw[Bool.and_eq_true,Bool.and_eq_true]at q
  have q1:((sIx items.size 0 lo:Nat):Int)=0:=eq_of_beq q.1.1
  have q2:sIx items.size items.size hi-sIx items.size 0 lo=items.size:=eq_of_beq q.2
  exact hw ⟨by omega,by omega⟩
 show wpAny _ _ (if (((sIx items.size 0 lo:Nat):Int) == 0&&(1:Int) == 1&&(sIx items.size items.size hi-sIx items.size 0 lo) == items.size)=true then _ else _) _ _ s
 rw[if_neg hno,a6z]
 first
  | exact wpAny_bind (m:=Builtin.Tuple.tupleExact _) (wpAny_newObj_type (wpAny_pure ⟨_,rfl,wpAny_pure h⟩) htake)
  | exact wpAny_bind (m:=Builtin.Tuple.tupleExact _) (wpAny_newObj_type (wpAny_bind (wpAny_pure (wpAny_pure ⟨_,rfl,wpAny_pure h⟩))) htake)
  | exact wpAny_bind (wpAny_bind (m:=Builtin.Tuple.tupleExact _) (wpAny_newObj_type (wpAny_pure (wpAny_pure ⟨_,rfl,wpAny_pure h⟩)) htake))
  | exact wpAny_bind (wpAny_bind (m:=Builtin.Tuple.tupleExact _) (wpAny_newObj_type (wpAny_pure ⟨_,rfl,wpAny_pure h⟩) htake))
end
end HT
namespace L2
open PySem PySem.Spec PyProof.Rows
noncomputable abbrev TO:=St->Hp->(Option Int->Hp->Prop)->Prop
noncomputable def PO (X:Cx)(e:Option Expr)(t:TO):Prop :=
 ∀(pins:List (Addr×Obj)) (s:Shared) (σ:St) (H:Hp) (Q:Option Int->Hp->Prop),Inv X pins σ H s->t σ H Q ->
  wpAny (model X.prog X.w) X.A (evalPart e X.env) (λu s'=>∃o H',Inv X pins σ H' s'∧IsPart u o∧Q o H') X.xe s
noncomputable def a5M:TO:=λ_ H Q=>Q none H
noncomputable def a9O (t:TE):TO:=λσ H Q=>t σ H λx H1=>∃i,x = .int i∧Q (some i) H1
theorem a1U {ns:List Int}:∀{us:List Value},j3 (ns.map V.int) us->IntsAre us ns:=by
 induction ns with
 | nil=>intro us r;rw[List.map_nil]at r;cases r;exact .nil
 | cons n ns ih =>
  intro us r
  rw[List.map_cons]at r
  cases r with
  | cons r1 r2 =>
   obtain⟨t,e⟩:=r1
   subst e
   exact .cons n t (ih r2)
section
variable {X:Cx}{e:Expr}{te:TE}{lo hi:Option Expr}{tl th:TO}{pos p2:Pos}
theorem a56:PO X none a5M:=by
 intro pins s σ H Q I h
 rw[evalPart_none]
 exact wpAny_pure ⟨none,H,I,.none,h⟩
theorem a2N (h:PE X e te):PO X (some e) (a9O te):=by
 intro pins s σ H Q I hw
 rw[evalPart_some]
 refine thn (h pins s σ H _ I hw) λu s1 ⟨x,H1,I1,r1,q1⟩=>?_
 obtain⟨i,rfl,q⟩:=q1
 obtain⟨t,rfl⟩:=r1
 exact⟨some i,H1,I1,.int i t,q⟩
noncomputable def SlR (X:Cx)(r:V->Option Int->Option Int->Hp->VK->Prop):Prop :=
 ∀(pins:List (Addr×Obj)) (s:Shared) (σ:St) (H:Hp) (x:V) (v vl vu:Value) (lo hi:Option Int) (sl:Addr) (Q:VK),Inv X pins σ H s->p8 x v->s.heap.IsSliceOf sl vl vu .none->IsPart vl lo->IsPart vu hi->r x lo hi H Q ->
  ∃T id,typeLookup (.type T) "__getitem__" = pure (some (.builtin id))∧s.TypeIs v T∧wpAny (model X.prog X.w) X.A (getItem v (.ref sl)) (EP X pins σ Q) X.xe s
noncomputable def tSl (r:V->Option Int->Option Int->Hp->VK->Prop)(te:TE)(tl th:TO):TE:=λσ H Q=>te σ H λx H1=>tl σ H1 λl H2=>th σ H2 λu H3=>r x l u H3 Q
theorem a3Y {r:V->Option Int->Option Int->Hp->VK->Prop}(hr:SlR X r)(he:PE X e te)(hl:PO X lo tl)(hu:PO X hi th):PE X (.Subscript e (.Slice lo hi none p2) pos) (tSl r te tl th):=by
 intro pins s σ H Q I h
 refine Subscript_ (thn (he pins s σ H _ I h) λv s1 ⟨x,H1,I1,r1,q1⟩=>?_)
 refine wpAny_Slice (thn (hl pins s1 σ H1 _ I1 q1) λvl s2 ⟨l,H2,I2,pl,q2⟩=>thn (hu pins s2 σ H2 _ I2 q2) λvu s3 ⟨u,H3,I3,pu,q3⟩=>?_)
 rw[evalPart_none]
 refine wpAny_pure ?_
 have I4:Inv X pins σ H3 { s3 with heap:=s3.heap.push { cls:=.type "slice",data:=.fields #[vl,vu,.none] } }:=I3.kept (t':=s3.toks) λb ob q=>Heap.get?_push_of_some _ q
 obtain⟨T,id,hT,ht,hg⟩:=hr pins { s3 with heap:=s3.heap.push { cls:=.type "slice",data:=.fields #[vl,vu,.none] } } σ H3 x v vl vu l u s3.heap.objs.size Q I4 r1 (Heap.IsSliceOf.new ..) pl pu q3
 show wpAny (model X.prog X.w) X.A (subscriptTail e (.Slice lo hi none p2) v (.ref s3.heap.objs.size)) (EP X pins σ Q) X.xe { s3 with heap:=s3.heap.push { cls:=.type "slice",data:=.fields #[vl,vu,.none] } }
 exact tail_any (ops:=[.ref s3.heap.objs.size,v]) ht hT hg (by with_unfolding_all rfl)
noncomputable def a0b (xs:List V)(lo hi:Option Int):List V:=(xs.drop (HT.sIx xs.length 0 lo)).take (HT.sIx xs.length xs.length hi-HT.sIx xs.length 0 lo)
theorem a0H (xs:List V)(lo hi:Option Int):(a0b xs lo hi).length≤xs.length:=by
 unfold a0b
 rw[List.length_take,List.length_drop]
 omega
noncomputable def b2Z (K:PySem.W.Frag):V->Option Int->Option Int->Hp->VK->Prop:=λx lo hi H Q=>∃a xs,x = .ref a∧SqT K H a xs ∧
 ¬(HT.sIx xs.length 0 lo=0∧HT.sIx xs.length xs.length hi=xs.length)∧∀p,H p=none->Q (.ref p) (upd H p (.tup (a0b xs lo hi)))
theorem b1h:SlR X (b2Z X.K):=by
 intro pins s σ H x v vl vu lo hi sl Q I rx hs pl pu h
 obtain⟨a,xs,rfl,hx,hw,q⟩:=h
 cases rx
 obtain⟨its,r,ht,hz⟩:=I.tuple hx
 have hlen:its.toArray.size=xs.length:=by rw[List.size_toArray];exact r.length.symm
 refine⟨"tuple",_,PyProof.Rows.slot_tuple_getitem.lookup,ht.typeIs,?_⟩
 refine HT.getItem_tuple_cut ht hs pl pu (by rw[hlen];exact hw) ?_ (by rw[hlen];exact hz)
 rw[hlen]
 refine⟨.ref s.heap.objs.size,_,I.laid (t':=s.toks) (o:=.tup (a0b xs lo hi)) (λb ob q=>Heap.get?_push_of_some _ q) (Nat.le_refl _) ?_,rfl,q _ (I.hok.fresh (Nat.le_refl _))⟩
 exact⟨Nat.le_trans (a0H xs lo hi) hz,_,(r.drop (HT.sIx xs.length 0 lo)).take (HT.sIx xs.length xs.length hi-HT.sIx xs.length 0 lo),IsTup.new _ _⟩
noncomputable def b2I (K:PySem.W.Frag):R2:=λx y H Q=>∃a b xs ys,x = .ref a∧y = .ref b∧SqT K H a xs∧SqT K H b ys∧xs≠[]∧xs.length+ys.length≤sizeLine ∧
 (ys=[]->Q (.ref a) H)∧(ys≠[]->∀p,H p=none->Q (.ref p) (upd H p (.tup (xs++ys))))
theorem j3.nil_iff {xs:List V}{us:List Value}(r:j3 xs us):us=[]↔xs=[]:=by
 cases r with
 | nil=>simp
 | cons _ _=>simp
theorem a9i:OpR X (binaryOp .Add) (b2I X.K):=by
 intro pins s σ H x y v u Q I rx ry h
 obtain⟨a,b,xs,ys,rfl,rfl,ha,hb,hx,hz,q1,q2⟩:=h
 cases rx
 cases ry
 obtain⟨its,r1,p1,_⟩:=I.tuple ha
 obtain⟨its2,r2,p2,_⟩:=I.tuple hb
 refine HT.cat_tup p1 p2 (λz=>hx (r1.nil_iff.mp z)) (λz=>⟨.ref a,H,I,rfl,q1 (r2.nil_iff.mp z)⟩) (λz=>?_) (by rw[←r1.length,←r2.length];exact hz)
 refine⟨.ref s.heap.objs.size,_,I.laid (t':=s.toks) (o:=.tup (xs++ys)) (λb ob q=>Heap.get?_push_of_some _ q) (Nat.le_refl _) ?_,rfl,q2 (λw=>z (r2.nil_iff.mpr w)) _ (I.hok.fresh (Nat.le_refl _))⟩
 exact⟨by rw[List.length_append];exact hz,_,r1.append r2,IsTup.new _ _⟩
end
end L2
namespace L2
open PySem PySem.Spec PyProof.Rows
noncomputable def ixN (n:Nat)(i:Int):Option Nat:=if 0≤i then(if i<n then some i.toNat else none) else if -(n:Int)≤i then some (i+n).toNat else none
noncomputable def atI {α:Type}(xs:List α)(i:Int):Option α:=(ixN xs.length i).bind λj=>xs[j]?
theorem a5w {n:Nat}{i:Int}{j:Nat}(h:ixN n i=some j):seqIndex? i n=some j∧j<n ∧ -(n:Int)≤i∧i<n:=by
 unfold ixN at h
 by_cases h0:0≤i
 ·rw[if_pos h0]at h
  by_cases h1:i<n
  ·rw[if_pos h1]at h
   have e:i.toNat=j:=Option.some.inj h
   exact⟨by rw[seqIndex_of h0 h1,e],by omega,by omega,h1⟩
  ·rw[if_neg h1]at h;cases h
 ·rw[if_neg h0]at h
  by_cases h1:-(n:Int)≤i
  ·rw[if_pos h1]at h
   have e:(i+n).toNat=j:=Option.some.inj h
   exact⟨by rw[seqIndex_neg (by omega) h1,e],by omega,h1,by omega⟩
  ·rw[if_neg h1]at h;cases h
theorem a35 {α:Type}{xs:List α}{i:Int}{v:α}(h:atI xs i=some v):∃j,seqIndex? i xs.length=some j∧xs[j]? = some v∧j<xs.length ∧ -(xs.length:Int)≤i∧i<xs.length:=by
 unfold atI at h
 cases e:ixN xs.length i with
 | none=>rw[e]at h;cases h
 | some j =>
  rw[e]at h
  obtain⟨h1,h2,h3,h4⟩:=a5w e
  exact⟨j,h1,h,h2,h3,h4⟩
theorem Y1 {α:Type}{xs:List α}{j:Nat}{v:α}(h:xs[j]? = some v):atI xs (j:Int)=some v:=by
 have hj:j<xs.length:=(List.getElem?_eq_some_iff.mp h).1
 have e:ixN xs.length (j:Int)=some j:=by
  unfold ixN
  rw[if_pos (by omega),if_pos (by omega)];simp
 unfold atI;rw[e];exact h
noncomputable def a50 (b:Expr):Prop:=∀o i,subscripted b false o i=operate [o,i] (getItem o i)
noncomputable def IxR (X:Cx)(r:R2):Prop :=
 ∀(value slice:Expr) (pins:List (Addr×Obj)) (s:Shared) (σ:St) (H:Hp) (x y:V) (v u:Value) (Q:VK),Inv X pins σ H s->p8 x v->p8 y u->r x y H Q ->
  subscripted slice false v u=operate [v,u] (getItem v u)->wpAny (model X.prog X.w) X.A (subscriptTail value slice v u) (EP X pins σ Q) X.xe s
noncomputable def MtR (X:Cx)(id:String)(r:V->List V->Hp->VK->Prop):Prop :=
 ∀(pins:List (Addr×Obj)) (s:Shared) (σ:St) (H:Hp) (x:V) (xs:List V) (v:Value) (us:List Value) (Q:VK),Inv X pins σ H s->p8 x v->j3 xs us->r x xs H Q ->
  wpAny (model X.prog X.w) X.A (call (.builtin id) (v::us)) (EP X pins σ Q) X.xe s
section
variable {X:Cx}{a b:Expr}{ta tb:TE}{pos:Pos}
theorem U1 {r:R2}(hr:IxR X r)(ha:PE X a ta)(hb:PE X b tb)(hs:a50 b):PE X (.Subscript a b pos) (tOp r ta tb):=by
 intro pins s σ H Q I h
 exact Subscript_ (b0G ha hb I h λv u s2 x y H2 I2 rx ry q=>hr a b pins s2 σ H2 x y v u Q I2 rx ry q (hs _ _))
noncomputable def b1S (K:PySem.W.Frag):R2:=λx y H Q=>∃p xs i v,x = .ref p∧y = .int i∧SqL K H p xs∧atI xs i=some v∧Q v H
noncomputable def b2j (K:PySem.W.Frag):R2:=λx y H Q=>∃p xs i v,x = .ref p∧y = .int i∧SqT K H p xs∧atI xs i=some v∧Q v H
noncomputable def b32:R2:=λx y H Q=>∃z i c,x = .str z∧y = .int i∧z.length≤sizeLine∧atI z.cps.toList i=some c∧Q (.str ⟨#[c]⟩) H
theorem G1:IxR X (b1S X.K):=by
 intro value slice pins s σ H x y v u Q I rx ry h hs
 obtain⟨p,xs,i,z,rfl,rfl,hq,he,q⟩:=h
 cases rx
 obtain⟨t,rfl⟩:=ry
 obtain⟨its,r,pl,hz⟩:=I.list hq
 obtain⟨j,h1,h2,h3,h4,h5⟩:=a35 he
 obtain⟨w,ew,rw'⟩:=r.get h2
 have hl:=r.length
 have hn:=V9
 have fin:EP X pins σ Q w s:=⟨z,H,I,rw',q⟩
 by_cases h0:0≤i
 ·have hj:i.toNat=j:=by
   rw[seqIndex_of h0 h5]at h1
   exact Option.some.inj h1
  exact item_listR pl.isList h0 (by omega) (by rw[hj];simpa using ew) fin hs
 ·have hj:(i+(its.toArray.size:Int)).toNat=j:=by
   rw[seqIndex_neg (by omega) h4]at h1
   rw[List.size_toArray,←hl]
   exact Option.some.inj h1
  exact subscriptTail_builtinR (x:=w) pl.isList.typeIs slot_list_getitem.lookup
   (wpAny_getItem_list_neg (Q:=λr s'=>r=w∧EP X pins σ Q r s') pl.isList (by omega) (by rw[List.size_toArray] <;> omega) (by omega) (by rw[hj];simpa using ew) ⟨rfl,fin⟩) hs
theorem b0B:IxR X (b2j X.K):=by
 intro value slice pins s σ H x y v u Q I rx ry h hs
 obtain⟨p,xs,i,z,rfl,rfl,hq,he,q⟩:=h
 cases rx
 obtain⟨t,rfl⟩:=ry
 obtain⟨its,r,pl,hz⟩:=I.tuple hq
 obtain⟨j,h1,h2,h3,h4,h5⟩:=a35 he
 obtain⟨w,ew,rw'⟩:=r.get h2
 have hl:=r.length
 have hn:=V9
 have fin:EP X pins σ Q w s:=⟨z,H,I,rw',q⟩
 exact subscriptTail_builtinR (x:=w) pl.typeIs slot_tuple_getitem.lookup
  (getItem_tuple (j:=j) (Q:=λr s'=>r=w∧EP X pins σ Q r s') pl (by omega) (by omega) (by rw[List.size_toArray,←hl];exact h1) (by simpa using ew) ⟨rfl,fin⟩) hs
theorem b1y:IxR X b32:=by
 intro value slice pins s σ H x y v u Q I rx ry h hs
 obtain⟨z,i,c,rfl,rfl,hz,he,q⟩:=h
 obtain⟨t,rfl⟩:=rx
 obtain⟨t',rfl⟩:=ry
 obtain⟨j,h1,h2,h3,h4,h5⟩:=a35 he
 have hl:z.cps.toList.length=z.length:=by simp[Str.length]
 rw[hl]at h1 h4 h5
 have hn:=V9
 exact tail_any (typeIs_str s z t) slot_str_getitem.lookup (getItem_str (c:=c) (by
  have e1:decide (i < -(2 ^ 63:Int))=false:=decide_eq_false (by omega)
  have e2:decide (i ≥ 2 ^ 63)=false:=decide_eq_false (by omega)
  rw[e1,e2,Bool.or_false]) (by rw[h1];simpa using h2) ⟨.str ⟨#[c]⟩,H,I.tok _,⟨_,rfl⟩,q⟩) hs
theorem a4P (its:List Value)(n j:Nat)(u:Value):Obj.mapSeq (·.setIfInBounds j u) { cls:=.type "list",data:=.seq its.toArray n }={ cls:=.type "list",data:=.seq (its.set j u).toArray n }:=by
 simp[Obj.mapSeq]
theorem Inv.lst {pins:List (Addr×Obj)}{σ:St}{H:Hp}{s:Shared}{p:Addr}{xs:List V}(I:Inv X pins σ H s)(h:H p=some (.lst xs)) :
  ∃(its:List Value) (n:Nat),j3 xs its∧s.heap.get? p=some { cls:=.type "list",data:=.seq its.toArray n }∧xs.length≤sizeLine:=by
 obtain⟨z,its,n,r,e⟩:=I.hok p _ h
 exact⟨its,n,r,e,z⟩
theorem Inv.lstUpd {pins:List (Addr×Obj)}{σ:St}{H:Hp}{s:Shared}{p:Addr}{xs ys:List V}{its its':List Value}{n n':Nat}{f:Obj->Obj}(I:Inv X pins σ H s)(h:H p=some (.lst xs))
  (ho:s.heap.get? p=some { cls:=.type "list",data:=.seq its.toArray n }) (hf:f { cls:=.type "list",data:=.seq its.toArray n }={ cls:=.type "list",data:=.seq its'.toArray n' }) (r:j3 ys its') (hz:ys.length≤sizeLine) (t:Nat) :
  Inv X pins σ (upd H p (.lst ys)) { s with heap:=s.heap.update p f,toks:=t }:=by
 have e:(s.heap.update p f).get? p=some { cls:=.type "list",data:=.seq its'.toArray n' }:=by
  rw[Heap.get?_update_self f ho (by rw[hf] <;> rfl),hf]
 refine I.write (x:=p) (e:=p) (by rw[h];trivial) (.inl rfl) (λb u hb q=>(Heap.get?_update_other _ _ (Ne.symm hb)).trans q) ⟨_,e⟩ ?_
 exact⟨hz,its',n',r,e⟩
noncomputable def a9M:V->V->V->Hp->(Hp->Prop)->Prop:=λo i v H Q=>∃p xs k j,o = .ref p∧i = .int k∧H p=some (.lst xs)∧ixN xs.length k=some j∧Q (upd H p (.lst (xs.set j v)))
theorem X2:b1I X a9M:=by
 intro pins s σ H o i v ov iv u Q I ro ri rv h
 obtain⟨p,xs,k,j,rfl,rfl,hp,hj,q⟩:=h
 cases ro
 obtain⟨t,rfl⟩:=ri
 obtain⟨its,n,r,ho,hz⟩:=I.lst hp
 obtain⟨h1,h2,h3,h4⟩:=a5w hj
 have hl:=r.length
 have hn:=V9
 have I':Inv X pins σ (upd H p (.lst (xs.set j v))) { s with heap:=s.heap.update p (Obj.mapSeq (·.setIfInBounds j u)) } :=
  I.lstUpd hp ho (a4P its n j u) (r.set rv j) (by rw[List.length_set];exact hz) s.toks
 by_cases h0:0≤k
 ·have hk:k.toNat=j:=by
   rw[seqIndex_of h0 h4]at h1
   exact Option.some.inj h1
  exact PySem.W.ki_setAt ho h0 (by omega) (by rw[List.size_toArray,←hl];exact h4) (by rw[hk];exact⟨_,I',q⟩)
 ·have hk:(k+(its.toArray.size:Int)).toNat=j:=by
   rw[seqIndex_neg (by omega) h3]at h1
   rw[List.size_toArray,←hl]
   exact Option.some.inj h1
  exact PySem.W.ki_setBack ho (by omega) (by rw[List.size_toArray,←hl];exact h3) (by omega) (by rw[hk];exact⟨_,I',q⟩)
theorem a2Q (lo hi:Option Int)(n:Nat):(sliceBounds lo hi none n).1=((HT.sIx n 0 lo:Nat):Int)∧(sliceBounds lo hi none n).2.1=((HT.sIx n n hi:Nat):Int)∧(sliceBounds lo hi none n).2.2=1:=by
 refine⟨?_,?_,rfl⟩
 ·cases lo with
  | none=>simp[sliceBounds,HT.sIx]
  | some i =>
   simp only[sliceBounds,HT.sIx,Option.getD_none,show(1:Int) > 0 by decide,if_true]
   by_cases h:i<0
   ·simp only[h,if_true] <;> omega
   ·simp only[h,if_false] <;> omega
 ·cases hi with
  | none=>simp[sliceBounds,HT.sIx]
  | some i =>
   simp only[sliceBounds,HT.sIx,Option.getD_none,show(1:Int) > 0 by decide,if_true]
   by_cases h:i<0
   ·simp only[h,if_true] <;> omega
   ·simp only[h,if_false] <;> omega
theorem a22 (its:List Value)(lo hi:Option Int):slicePick its.toArray lo hi none=((its.drop (HT.sIx its.length 0 lo)).take (HT.sIx its.length its.length hi-HT.sIx its.length 0 lo)).toArray:=by
 obtain⟨h1,h2,h3⟩:=a2Q lo hi its.toArray.size
 unfold slicePick
 rw[h1,h2,h3]
 simp only[sliceRange_one,pick_run,List.size_toArray] <;> rfl
noncomputable def b3f (K:PySem.W.Frag):V->Option Int->Option Int->Hp->VK->Prop:=λx lo hi H Q=>∃a xs,x = .ref a∧SqL K H a xs∧∀p,H p=none->Q (.ref p) (upd H p (.lst (a0b xs lo hi)))
theorem a5s:SlR X (b3f X.K):=by
 intro pins s σ H x v vl vu lo hi sl Q I rx hs pl pu h
 obtain⟨a,xs,rfl,hx,q⟩:=h
 cases rx
 obtain⟨its,r,ht,hz⟩:=I.list hx
 have hlen:=r.length
 refine⟨"list",_,slot_list_getitem.lookup,ht.isList.typeIs,?_⟩
 refine wpAny_getItem_list_slice ht.isList hs pl pu .none (by simp) ?_ (by rw[List.size_toArray] <;> omega)
 rw[a22,←hlen]
 refine⟨.ref s.heap.objs.size,_,I.laid (t':=s.toks) (o:=.lst (a0b xs lo hi)) (λb ob q=>Heap.get?_push_of_some _ q) (Nat.le_refl _) ?_,rfl,q _ (I.hok.fresh (Nat.le_refl _))⟩
 exact⟨Nat.le_trans (a0H xs lo hi) hz,_,0,(r.drop (HT.sIx xs.length 0 lo)).take (HT.sIx xs.length xs.length hi-HT.sIx xs.length 0 lo),Heap.get?_push_size _ rfl⟩
theorem N5:A3 X (.builtin "len") (λxs H Q=>∃p ys,xs=[.ref p]∧(SqL X.K H p ys∨SqT X.K H p ys)∧Q (.int ys.length) H):=by
 intro pins s σ H xs us Q I r h
 obtain⟨p,ys,rfl,hq,q⟩:=h
 obtain⟨u,rfl,rx⟩:=U5 r
 cases rx
 have hn:=V9
 rcases hq with hq | hq
 ·obtain⟨its,r',pl,hz⟩:=I.list hq
  have hlen:=r'.length
  exact Calls.call_len_list pl.isList (by simp only[List.size_toArray] <;> omega) ⟨.int ys.length,H,I.tok _,⟨s.toks+1,by rw[List.size_toArray,hlen]⟩,q⟩
 ·obtain⟨its,r',pl,hz⟩:=I.tuple hq
  have hlen:=r'.length
  exact len_tuple pl (by simp only[List.size_toArray] <;> omega) ⟨.int ys.length,H,I.tok _,⟨s.toks+1,by rw[List.size_toArray,hlen]⟩,q⟩
theorem a2V:A3 X (.builtin "len") (λxs H Q=>∃z,xs=[.str z]∧z.length≤sizeLine∧Q (.int z.length) H):=by
 intro pins s σ H xs us Q I r h
 obtain⟨z,rfl,hz,q⟩:=h
 obtain⟨u,rfl,t,rfl⟩:=U5 r
 have hn:=V9
 exact len_str (by omega) ⟨.int z.length,H,I.tok _,⟨_,rfl⟩,q⟩
theorem a30:A3 X (.type "list") (λxs H Q=>∃p ys,xs=[.ref p]∧(SqL X.K H p ys∨SqT X.K H p ys)∧∀l,H l=none->Q (.ref l) (upd H l (.lst ys))):=by
 intro pins s σ H xs us Q I r h
 obtain⟨p,ys,rfl,hq,q⟩:=h
 obtain⟨u,rfl,rx⟩:=U5 r
 cases rx
 have fin:∀(its:List Value),j3 ys its->ys.length≤sizeLine->∀(h':Heap) (c':Nat),(∀b o',s.heap.get? b=some o'->h'.get? b=some o') ->
   h'.get? s.heap.objs.size=some { cls:=.type "list",dict:=none,data:=.seq its.toArray c',slots:=#[] }->EP X pins σ Q (.ref s.heap.objs.size) { s with heap:=h' }:=λits r' hz h' c' kp e =>
  ⟨.ref s.heap.objs.size,_,I.laid (t':=s.toks) kp (Nat.le_refl _) (show K2 X.prog X.w _ h' _ (.lst ys) from⟨hz,its,c',r',e⟩),rfl,q _ (I.hok.fresh (Nat.le_refl _))⟩
 rcases hq with hq | hq
 ·obtain⟨its,r',pl,hz⟩:=I.list hq
  have hlen:=r'.length
  obtain⟨o,ho,hc,n,hd⟩:=pl.isList
  exact call_list_seq p (.inl rfl) ho hc hd (λh' c' kp e=>fin its r' hz h' c' kp e) (by simp only[List.size_toArray] <;> omega)
 ·obtain⟨its,r',pl,hz⟩:=I.tuple hq
  have hlen:=r'.length
  obtain⟨o,ho,hc,n,hd⟩:=pl
  exact call_list_seq p (.inr rfl) ho hc hd (λh' c' kp e=>fin its r' hz h' c' kp e) (by simp only[List.size_toArray] <;> omega)
theorem a1W:A3 X (.type "tuple") (λxs H Q=>∃p ys,xs=[.ref p]∧((SqL X.K H p ys∧∀l,H l=none->Q (.ref l) (upd H l (.tup ys)))∨(SqT X.K H p ys∧Q (.ref p) H))):=by
 intro pins s σ H xs us Q I r h
 obtain⟨p,ys,rfl,h⟩:=h
 obtain⟨u,rfl,rx⟩:=U5 r
 cases rx
 rcases h with ⟨hq,q⟩ | ⟨hq,q⟩
 ·obtain⟨its,r',pl,hz⟩:=I.list hq
  have hlen:=r'.length
  refine call_tuple_list pl.isList (λh' kp=>?_) (by simp only[List.size_toArray] <;> omega)
  have I1:Inv X pins σ H { s with heap:=h' }:=I.kept (t':=s.toks) kp
  have I2:Inv X pins σ (upd H h'.objs.size (.tup ys)) { s with heap:=h'.push { cls:=.type "tuple",data:=.seq its.toArray } } :=
   I1.laid (t':=s.toks) (λb o e=>Heap.get?_push_of_some _ e) (Nat.le_refl _) (show K2 X.prog X.w _ _ _ (.tup ys) from⟨hz,its,r',IsTup.new _ _⟩)
  exact⟨.ref h'.objs.size,_,I2,rfl,q _ (I1.hok.fresh (Nat.le_refl _))⟩
 ·obtain⟨its,r',pl,hz⟩:=I.tuple hq
  exact call_tuple_same pl ⟨.ref p,H,I,rfl,q⟩
noncomputable def tyV (K:PySem.W.Frag)(T:String)(x:V)(H:Hp):Prop:=match x with
 | .str _=>T = "str"
 | .int _=>T = "int"
 | .ref p=>(T = "list" ∧ ∃xs,SqL K H p xs)∨(T = "tuple" ∧ ∃o,K.lookup p=some o∧o.cls = .type "tuple" ∧ o.dict=none) ∨
   (T = "dict" ∧ ((∃kvs,H p=some (.dK kvs))∨∃kvs,H p=some (.dT kvs)))∨(T = "set" ∧ ∃S n,H p=some (.set S n))
 | _=>False
theorem b0N {pins:List (Addr×Obj)}{σ:St}{H:Hp}{s:Shared}{T:String}{x:V}{v:Value}(I:Inv X pins σ H s)(r:p8 x v)(ty:tyV X.K T x H) :
  s.TypeIs v T∧∀a,v = .ref a->∃ob,s.heap.get? a=some ob∧ob.dict=none:=by
 cases x with
 | str z =>
  obtain⟨t,rfl⟩:=r
  cases(show T = "str" from ty)
  exact⟨typeIs_str s z t,λ_ e=>nomatch e⟩
 | int i =>
  obtain⟨t,rfl⟩:=r
  cases(show T = "int" from ty)
  exact⟨typeIs_int s i t,λ_ e=>nomatch e⟩
 | ref p =>
  cases r
  rcases ty with ⟨rfl,xs,hq⟩ | ⟨rfl,o,hk,hc,hd⟩ | ⟨rfl,hk⟩ | ⟨rfl,S,n,hk⟩
  ·obtain⟨its,_,pl,_⟩:=I.list hq
   refine⟨pl.isList.typeIs,λa e=>?_⟩
   cases e
   obtain⟨o,n,e,c,hd,_⟩:=pl
   exact⟨o,e,hd⟩
  ·refine⟨⟨o,I.kIn p o hk,hc⟩,λa e=>?_⟩
   cases e
   exact⟨o,I.kIn _ o hk,hd⟩
  ·have z:∃o,s.heap.get? p=some o∧o.ExactDict:=by
    rcases hk with ⟨kvs,hk⟩ | ⟨kvs,hk⟩
    ·obtain⟨_,_,_,_,o,_,_,e,ex,_⟩:=I.hok p _ hk
     exact⟨o,e,ex⟩
    ·obtain⟨_,_,_,_,o,_,_,e,ex,_⟩:=I.hok p _ hk
     exact⟨o,e,ex⟩
   obtain⟨o,e,ex⟩:=z
   refine⟨⟨o,e,ex.1⟩,λa e2=>?_⟩
   cases e2
   exact⟨o,e,ex.2.1⟩
  ·obtain⟨o,_,_,_,e,ex,_⟩:=I.hok p _ hk
   refine⟨⟨o,e,ex.1⟩,λa e2=>?_⟩
   cases e2
   exact⟨o,e,ex.2.1⟩
 | _=>exact False.elim ty
noncomputable def tBM (K:PySem.W.Frag)(T:String)(r:V->List V->Hp->VK->Prop)(to:TE)(t:TA):TE:=λσ H Q=>to σ H λx H1=>tyV K T x H1∧t σ H1 λxs H2=>r x xs H2 Q
variable {o e:Expr}{es:List Expr}{to:TE}{t:TA}{name:Str}{apos cpos:Pos}{T id:String}{r:V->List V->Hp->VK->Prop}
theorem b2E (pa:PlainAttrs T)(slot:Slot T name id)(hty:typeOf (.builtin id)=pure (.type "method_descriptor"))(hm:MtR X id r)(ho:PE X o to)(ha:PA X (e::es) t)
  (hbase:attributeBase o name X.env (eval o X.env)=eval o X.env:=by rfl)
  (hfew:((backTo cpos (starEach (e::es) X.env)).all (λx=>!x.1)&&(backToKw cpos (keywordEach [] X.env)).all (λx=>x.1.isSome)
   && decide ((e::es).length+([]:List Keyword).length+(if ([]:List Keyword).isEmpty then 0 else 1)<30))=true:=by rfl)
  (hline:(apos.endLine == cpos.line)=true:=by rfl) (hs:starEach (e::es) X.env=(false,eval e X.env)::starEach es X.env:=by rfl) (hplain:(backTo cpos (starEach es X.env)).any (·.1)=false:=by rfl) :
  PE X (.Call (.Attribute o name apos) (e::es) [] cpos) (tBM X.K T r to t):=by
 intro pins s σ H Q I h
 refine wpAny_Call_method_late hbase hfew hline rfl (thn (ho pins s σ H _ I h) λv s1 ⟨x,H1,I1,r1,ty,q1⟩=>?_)
 obtain⟨h1,h2⟩:=b0N I1 r1 ty
 refine⟨T,id,pa,slot,hty,h1,h2,?_⟩
 have hA:=ha cpos pins s1 σ H1 _ I1 q1
 rw[hs]at hA ⊢
 refine Calls.callWith_builtin (by show(false||(backTo cpos (starEach es X.env)).any (·.1))=false;rw[hplain] <;> rfl) (Calls.evalArgs_plain ?_)
 exact thn hA λus s2 ⟨vs,H2,I2,r2,q2⟩=>hm pins s2 σ H2 x vs v us Q I2 r1 r2 q2
/- xs.append(e),list.index on a module's tuple .. are MtR facts of 06m -/
end
end L2
namespace L2
open PySem PySem.Spec PyProof.Rows
noncomputable def MtM (X:Cx)(id:String)(r:V->List V->Hp->VK->Prop):Prop :=
 ∀(pins:List (Addr×Obj)) (s:Shared) (σ:St) (H:Hp) (x:V) (xs:List V) (v:Value) (us:List Value) (Q:VK),Inv X pins σ H s->p8 x v->j3 xs us->r x xs H Q ->
  wpAny (model X.prog X.w) X.A (call (.builtin id) (v::us)) (EP X pins σ Q) X.xe s
theorem j3.one:∀{x:V} {us:List Value},j3 [x] us->∃u,us=[u]∧p8 x u
 | _,_,.cons r .nil=>⟨_,rfl,r⟩
theorem j3.reverse {xs:List V}{us:List Value}(h:j3 xs us):j3 xs.reverse us.reverse:=by
 induction h with
 | nil=>exact .nil
 | cons r t ih=>rw[List.reverse_cons,List.reverse_cons];exact j3.append ih (.cons r .nil)
theorem j3.rep {xs:List V}{us:List Value}(h:j3 xs us):∀k:Nat,j3 (List.replicate k xs).flatten (List.replicate k us).flatten
 | 0=>.nil
 | k+1=>by
  rw[List.replicate_succ,List.replicate_succ,List.flatten_cons,List.flatten_cons]
  exact j3.append h (j3.rep h k)
theorem a0h (its:List Value):∀(k:Nat) (acc:List Value),
  List.foldl (λx1 x2=>x1++x2) acc.toArray (List.replicate k its.toArray)=(acc++(List.replicate k its).flatten).toArray
 | 0,acc=>by simp
 | k+1,acc=>by
  have e:acc.toArray++its.toArray=(acc++its).toArray:=by simp
  have e2:(acc++its)++(List.replicate k its).flatten=acc++(List.replicate (k+1) its).flatten:=by
   rw[List.replicate_succ,List.flatten_cons,List.append_assoc]
  rw[←e2,←a0h its k (acc++its),←e,List.replicate_succ,List.foldl_cons]
section
variable {X:Cx}{pins:List (Addr×Obj)}{σ:St}{H:Hp}{s:Shared}{l b:Addr}{xs ys zs:List V}
theorem Inv.lset {its its':List Value}{n:Nat}{f:Array Value->Array Value}{t':Nat}(I:Inv X pins σ H s)(hH:H l=some (.lst xs))
  (e:s.heap.get? l=some { cls:=.type "list",data:=.seq its.toArray n }) (hf:f its.toArray=its'.toArray) (hv:j3 ys its') (hz:ys.length≤sizeLine) :
  Inv X pins σ (upd H l (.lst ys)) { s with heap:=s.heap.update l (Obj.mapSeq f),toks:=t' }:=by
 have q:=PySem.IsL.update e f
 rw[hf]at q
 refine I.write (x:=l) (e:=l) (by rw[hH];exact trivial) (.inl rfl) (λb' u hb hu=>(Heap.get?_update_other s.heap (Obj.mapSeq f) (Ne.symm hb)).trans hu) ⟨_,q⟩ ?_
 exact⟨hz,its',_,hv,q⟩
theorem Inv.lnew {its:List Value}{t':Nat}(I:Inv X pins σ H s)(hv:j3 ys its)(hz:ys.length≤sizeLine) :
  Inv X pins σ (upd H s.heap.objs.size (.lst ys)) { s with heap:=s.heap.push { cls:=.type "list",data:=.seq its.toArray },toks:=t' } :=
 I.laid (λ_ _ q=>Heap.get?_push_of_some _ q) (Nat.le_refl _) ⟨hz,its,0,hv,Heap.get?_push_size _ rfl⟩
theorem Inv.fresh (I:Inv X pins σ H s):H s.heap.objs.size=none:=I.hok.fresh (Nat.le_refl _)
theorem Inv.lstM (I:Inv X pins σ H s)(hH:H l=some (.lst xs)):xs.length≤sizeLine∧∃(its:List Value) (n:Nat),j3 xs its∧xs.length=its.length∧s.heap.get? l=some { cls:=.type "list",data:=.seq its.toArray n }:=by
 obtain⟨z,its,n,r,e⟩:=I.hok l _ hH
 exact⟨z,its,n,r,r.length,e⟩
theorem a3I {n:Nat}(h:n≤sizeLine):Builtin.List.listTooLong n=false:=by
 unfold Builtin.List.listTooLong
 exact decide_eq_false (by omega)
end
section
variable {X:Cx}
noncomputable def a2E:V->List V->Hp->VK->Prop:=λx vs H Q=>∃l xs y,x = .ref l∧vs=[y]∧H l=some (.lst xs)∧xs.length<sizeLine∧Q .non (upd H l (.lst (xs++[y])))
theorem T2:MtM X "list.append" a2E:=by
 intro pins s σ H x vs v us Q I rx rv h
 obtain⟨l,xs,y,rfl,rfl,hH,hz,q⟩:=h
 cases rx
 obtain⟨u,rfl,ru⟩:=rv.one
 obtain⟨z,its,n,r,hl,e⟩:=I.lstM hH
 refine call_meets F.slot_list_append ⟨_,e,rfl⟩ F.entry_list_append (F.args_list_append_2 _ _) (PySem.list_append l its.toArray n u (by rw[List.size_toArray];omega)) ⟨e,?_⟩
 refine⟨.non,_,I.lset (its':=its++[u]) hH e (by simp) (r.append (.cons ru .nil)) ?_,rfl,q⟩
 rw[List.length_append,List.length_singleton]
 omega
noncomputable def b2X:R2:=λx y H Q=>∃l b xs zs,x = .ref l∧y = .ref b∧H l=some (.lst xs)∧H b=some (.lst zs)∧xs.length+zs.length≤sizeLine∧∀p,H p=none->Q (.ref p) (upd H p (.lst (xs++zs)))
theorem b1m:OpR X (binaryOp .Add) b2X:=by
 intro pins s σ H x y v u Q I rx ry h
 obtain⟨l,b,xs,zs,rfl,rfl,hH,hB,hz,q⟩:=h
 cases rx
 cases ry
 obtain⟨z,its,n,r,hl,e⟩:=I.lstM hH
 obtain⟨z2,its2,n2,r2,hl2,e2⟩:=I.lstM hB
 refine PySem.P.add_list e e2 ?_ (by rw[List.size_toArray,List.size_toArray];omega)
 have ea:its.toArray++its2.toArray=(its++its2).toArray:=by simp
 rw[ea]
 exact⟨.ref _,_,I.lnew (t':=s.toks) (r.append r2) (by rw[List.length_append];omega),rfl,q _ I.fresh⟩
noncomputable def b31:R2:=λx y H Q=>∃l k xs,x = .ref l∧y = .int k∧H l=some (.lst xs) ∧ -(2 ^ 63)≤k∧k<2 ^ 63∧xs.length*k.toNat≤sizeLine ∧
 ∀p,H p=none->Q (.ref p) (upd H p (.lst (List.replicate k.toNat xs).flatten))
theorem a2F {α:Type}(xs:List α)(k:Nat):(List.replicate k xs).flatten.length=k*xs.length:=by
 induction k with
 | zero=>simp
 | succ k ih=>rw[List.replicate_succ,List.flatten_cons,List.length_append,ih,Nat.succ_mul,Nat.add_comm]
theorem b0i:OpR X (binaryOp .Mult) b31:=by
 intro pins s σ H x y v u Q I rx ry h
 obtain⟨l,k,xs,rfl,rfl,hH,h1,h2,hz,q⟩:=h
 cases rx
 obtain⟨t,rfl⟩:=ry
 obtain⟨z,its,n,r,hl,e⟩:=I.lstM hH
 have hlen:its.toArray.size*k.toNat≤sizeLine:=by rw[List.size_toArray,←hl];exact hz
 have hcap:¬its.toArray.size*k.toNat > (2 ^ 63-1) / 8:=by
  have:(sizeLine:Nat)≤(2 ^ 63-1) / 8:=by decide
  omega
 have hfit:¬(!Builtin.List.listFitsIndex k)=true:=by
  rw[fitsIndex_both h1 h2]
  exact Bool.false_ne_true
 have hlong:¬Builtin.List.listTooLong (its.toArray.size*k.toNat)=true:=by
  rw[a3I hlen]
  exact Bool.false_ne_true
 have hnew:List.foldl (λx1 x2=>x1++x2) #[] (List.replicate (if its.toArray.isEmpty=true then 0 else k.toNat) its.toArray)=(List.replicate k.toNat its).flatten.toArray:=by
  have f0:∀m:Nat,List.foldl (λx1 x2=>x1++x2) #[] (List.replicate m its.toArray)=(List.replicate m its).flatten.toArray:=λm=>by
   have:=a0h its m []
   rw[List.nil_append]at this
   exact this
  rw[f0]
  cases its with
  | nil=>simp
  | cons a r'=>rw[if_neg (by simp)]
 refine wpAny_binaryOp_repeat_ref (T:="list") (U:="int") (by decide) ⟨_,e,rfl⟩ (λs'=>typeIs_int s' k t) noFill_list_mul F.fills_int_mul F.slot_int_rmul repeat_list F.slot_int_index.lookup
  (call_meets F.slot_int_rmul (typeIs_int s k t) F.entry_int_rmul (F.args_int_rmul_2 _ _) (int___rmul___int_list k t l its.toArray n)
   ⟨e,rfl,⟨_,e,rfl⟩,call_meets F.slot_list_mul ⟨_,e,rfl⟩ F.entry_list_mul (F.args_list_mul_2 _ _) (AutoListH.list___mul___list_int_3 l its.toArray n k t hfit hcap hlong) ⟨e,?_⟩⟩)
 rw[hnew]
 exact⟨.ref _,_,I.lnew (t':=s.toks) (r.rep k.toNat) (by rw[a2F,Nat.mul_comm];exact hz),rfl,q _ I.fresh⟩
end
section
variable {prog:Program}{w:World}{A:Around}{E:Value->Shared->Prop}{s:Shared}
end
section
variable {X:Cx}
end
end L2
namespace L2
open PySem PySem.Spec PyProof.Rows
section
variable {κ:Type}[DecidableEq κ]
end
section
variable {P:Program}{w:World}{H:Hp}{h:Heap}{a:Addr}
end
section
variable {X:Cx}{pins:List (Addr×Obj)}{σ:St}{H:Hp}{s:Shared}{a:Addr}{y v:V}{u r:Value}{o:Option V}{A:Around}{E:Value->Shared->Prop}
end
section
variable {X:Cx}{pins:List (Addr×Obj)}{σ:St}{H:Hp}{s:Shared}{a:Addr}{kvs:List (Key×V)}{k:Key}{u:Value}{A:Around}{E:Value->Shared->Prop}
end
section
variable {X:Cx}{o i e value:Expr}{pos pos' tpos:Pos}{td ty tv:TE}
end
section
variable {X:Cx}{pos:Pos}
end
section
variable {X:Cx}{pins:List (Addr×Obj)}{σ:St}{H:Hp}{s:Shared}{a:Addr}{y d:V}{u r:Value}{o:Option V}{A:Around}{E:Value->Shared->Prop}
end
section
variable {X:Cx}{o e f:Expr}{apos cpos:Pos}{td ty tx:TE}
end
section
variable {X:Cx}{pins:List (Addr×Obj)}{σ:St}{H:Hp}{s:Shared}{a:Addr}{kvs:List (Key×V)}{A:Around}{E:Value->Shared->Prop}
end
section
variable {X:Cx}{pins:List (Addr×Obj)}{σ:St}{H:Hp}{s:Shared}{a:Addr}{y:V}{u:Value}{A:Around}{E:Value->Shared->Prop}
end
end L2
namespace Att
open PySem PySem.W PySem.Calls PyProof.Rows
theorem a0S {P:Params}{h:Heap}:∀(ns:List Int) (vs:List Value),WellAll P h vs (ns.map WData.int)->IntsAre vs ns:=by
 intro ns
 induction ns with
 | nil =>
  intro vs w
  rw[List.map_nil]at w
  cases w
  exact .nil
 | cons n ns ih =>
  intro vs w
  rw[List.map_cons]at w
  cases w with
  | cons a b =>
   cases a
   exact .cons _ _ (ih _ b)
theorem a68 {l:OpenLaw}{n:Nat}(hn:l.most=some n){P:Params}{h:Heap}{args:List WData}{vals:List Value}
  (hpre:l.row.toRowW.claim.pre args=true) (hwl:WellAll P h vals args) :
  ∃a vs ns,vals=[Value.ref a]∧args=[WData.list (ns.map WData.int)]∧h.get? a=some { cls:=.type "list",data:=.seq vs.toArray }∧IntsAre vs ns∧ns.length≤n:=by
 have hsh:WShape.hasAll [] args [.list .int]=true:=(pre_splitW hpre).1
 have hc:l.pre.holds [] { args:=args }=true:=(pre_splitW hpre).2
 obtain⟨d,r,rfl,h1,h2⟩:=hasAllW_cons hsh
 obtain rfl:=hasAllW_nil h2
 obtain⟨xs,rfl,h3⟩:=hasW_list h1
 obtain⟨ns,rfl⟩:=items_int h3
 have hlen:ns.length≤n:=by
  unfold OpenLaw.pre at hc
  have h4:(WTm.not (.lt (.lit (.int (n:Int))) (.len (.arg 0)))).holds [] { args:=[.list (ns.map .int)] }=true:=by
   have h4:=(holds_andW hc).1
   rw[hn]at h4
   exact h4
  have h5:=condW_of h4 (w_not (w_lt w_lit (w_len_list (w_arg rfl))))
  rw[List.length_map]at h5
  refine Nat.le_of_not_lt λq=>?_
  have q':(n:Int)<((ns.length:Nat):Int):=by omega
  first
   | (rw[decide_eq_true q']at h5;exact absurd h5 (by decide))
   | (simp at h5;omega)
 cases hwl with
 | cons w1 w2 =>
  cases w2
  cases w1 with
  | list ho hall=>exact⟨_,_,ns,rfl,rfl,ho,a0S ns _ hall,hlen⟩
theorem a5W (l:OpenLaw)(args:List WData):l.row.toRowW.claim.post args (.bool true) args=true :=
 postW_of (r:=l.row.toRowW) (X:=(true == true))
  (show WShape.has [] (.bool true) .bool=true by first | rfl | decide | simp[WShape.has,WShape.arms,WShape.armsAll])
  (show(WTm.eq .res (.lit (.bool true))).value [] { args:=args,res:=some (.bool true),after:=args }=some (.bool (true == true)) from w_eq_bool (w_res rfl) w_lit) rfl
theorem attach_call {l:OpenLaw}{n:Nat}{q:Program}{loose:List Str}{XP:(Str->Option Value)->Heap->Prop}{YP:World->Heap->Prop}{d:DefRec}
  (hn:l.most=some n) (hdf:d.params.defaults=[])
  (call:∀(w:World) (s₀ s₁:Shared) (mg mb:Str->Option Value) (fa:Addr) (o:Obj) (pm cd doc:Value) (a:Addr) (vs:List Value) (ns:List Int),
   Ground q loose [] XP w s₀ mg mb s₁.heap->YP w s₁.heap ->
   s₁.heap.get? fa=some o->o.data = .func (docDef d.name d.params d.body d.scope pm cd doc)->s₁.heap.CodeRec cd d.name->mg d.name=some (.ref fa) ->
   s₁.heap.get? a=some { cls:=.type "list",data:=.seq vs.toArray }->IntsAre vs ns->ns.length≤n->s₁.gens = #[] ->
   codeAny (model l.prog w) callerA (.call (.ref fa) ⟨[.ref a],[]⟩) (λr s'=>r = .ok (.ret (.bool true))∧OldK s₁.heap s'.heap∧s'.os=s₁.os∧AllBare s'.gens) s₁) :
  WalkO q loose XP YP l.row.toRowW d [] (λf vs=>PySem.call f vs):=by
 intro w s₀ s₁ mg mb G Y fa o pm cd doc dV kV ho hd hcd hD hmg hg args vals as hpre hlay hrd hwl hlo
 obtain rfl:dV = .none:=Dflts.none hD hdf
 obtain rfl:kV = .none:=Dflts.noKw hD
 obtain⟨a,vs,ns,rfl,rfl,hobj,hints,hlen⟩:=a68 hn hpre hwl
 refine enter_call (codeAny_mono (call w s₀ s₁ mg mb fa o pm cd doc a vs ns G Y ho (fd_plain hd) hcd hmg hobj hints hlen hg) λr s' hq=>?_)
 obtain⟨rfl,h2,h3,h4⟩:=hq
 exact⟨.inl ⟨.bool true,.bool true,[],rfl,λ_=>rfl,.bool true,a5W l _,λ_=>⟨List.Pairwise.nil,λ_ hm=>(nomatch hm)⟩⟩,h2,h3,h4⟩
section
variable {prog:Program}{w:World}{A:Around}{E:Value->Shared->Prop}{s:Shared}{K:Frag}
end
end Att
namespace L2
open PySem PySem.Spec PyProof.Rows
theorem a0r:∀{vs:List Value} {ns:List Int},IntsAre vs ns->j3 (ns.map V.int) vs
 | _,_,.nil=>.nil
 | _,_,.cons n t h=>.cons ⟨t,rfl⟩ (a0r h)
end L2
namespace L2
open PySem PySem.Spec PyProof.Rows
end L2
/- THE LAST THEOREM (shape;LID,My.* are yours):
   My.Adr: a structure of the addresses that your layer names (classes,functions);My.Txt K t: a structure (Prop) of the equations over K;
   My.txt_mk:{K} {implicit addresses ..} (e1:nsIn K mainGlobals "law" = some (some (.ref f))) (e2:K.lookup f=some ⟨oc,od,.func (fnOf "law" "law" params body scope dV kV doc pm an cdv ct),sl⟩) (e3:codeIn K cdv "law" = true) ..:∃t,My.Txt K t
set_option maxRecDepth 100000 in
set_option maxHeartbeats 0 in
theorem PySem.Challenge.cw_LID_holds:PySem.Challenge.rw_LID.Holds:=by
 w_on;o_law;k_head;(case hw=>w_witness2)
 k_fill
 refine L2.walk_of (l:=PySem.Challenge.rw_LID) (n:=63) (k:=40) (x:="script") (CX:=λw=>..) (sp:=λ_=>My.sp_law) rfl (by decide) rfl ⟨rfl,by decide,by decide⟩ (λw h Y=>PySem.W.kIn_of Y) ?F ?S ?C
 case F =>
  intro w mg fa h KX G hmg
  have T:∃t,My.Txt (L2.KOf KX) t:=by
   dsimp only[L2.KOf]                          -- K must stand as «<heap const> w.params» for k_is
   refine' My.txt_mk ?e1 ?e2 ?e3 ..
   (case e1=>PySem.W.k_is)                    -- in the order: a name -> its address -> its object -> its parts
   (case e2=>PySem.W.k_is)
   ..
  obtain⟨t,T⟩:=T
  have e0:=hmg.symm.trans (PySem.W.mg_of KX G T.law)
  cases e0                                       -- fa is the law's own address
  exact⟨_,λs u=>.of_eq rfl,λbase kb nb=>My.law_fn T kb nb⟩     -- if «.of_eq rfl» comes too early: refine' ⟨_,?b,λbase kb nb=>My.law_fn T kb nb⟩;exact λs u=>.of_eq rfl
 case S=>exact λw H a ns hl hO hS=>..
 case C=>exact ..
(the tactic k_is has no namespace: write k_is) -/
namespace L2
open PySem PySem.Spec PyProof.Rows
noncomputable def defArgs (s:Stmt):Arguments:=match s with
 | .FunctionDef _ a _ _ _ _ _ _ _ _=>a
 | _=>{ posonlyargs:=[],args:=[],vararg:=none,kwonlyargs:=[],kw_defaults:=[],kwarg:=none,defaults:=[] }
noncomputable def defBody (s:Stmt):List Stmt:=match s with
 | .FunctionDef _ _ b _ _ _ _ _ _ _=>b
 | _=>[]
noncomputable def defScope (s:Stmt):Scope:=match s with
 | .FunctionDef _ _ _ _ _ _ sc _ _ _=>sc
 | _=>{ kind:=.function,names:=[],isGenerator:=false,isCoroutine:=false }
noncomputable abbrev CX0:CXT:=λ_ _ _ _ _ _=>False
noncomputable abbrev E0:XK:=λ_ _ _=>False
theorem b2q {X:Cx}:a4N CX0 X E0:=λ_ _ _ _ _ _ _ h=>h.elim
structure Fun (K:PySem.W.Frag) (x qual:Str) (st:Stmt) (f:Addr) (fd:FuncData):Prop where
 ex:∃(oc:Value) (od:Option Addr) (kV doc pm:Value) (an:Option Addr) (cdv ct:Value) (osl:Array (Option Value)),
  fd=PySem.W.fnOf x qual (defArgs st) (defBody st) (defScope st) .none kV doc pm an cdv ct∧K.lookup f=some ⟨oc,od,.func fd,osl⟩∧PySem.W.codeIn K cdv qual=true
 kp:PySem.W.keepIn K (.ref f)=true
section
variable {P:Program}{w:World}{K:PySem.W.Frag}{mg:Str->Option Value}{base:Heap}
theorem Fun.ok {x qual:Str}{st:Stmt}{f:Addr}{fd:FuncData}{N ps:List Str}{k:Nat}{sp:Sp}(F:Fun K x qual st f fd)(S:FnScope N ps (defScope st))(len:∀vs H Q E,sp vs H Q E->vs.length=ps.length)
  (hbody:∀(cdv:Value) (A:Around) (outer:List Env) (s:Shared) (H:Hp) (vs:List V) (Q:VK) (E:XK),Room k (A.deeper (envOfC qual (defScope st) s.heap.objs.size f cdv))->sp vs H Q E ->
   ∃t,PSs (J3 CX0 P w K mg base N qual (defScope st) f cdv A outer s H E).nox (defBody st) t∧t { nx:=λ_ H'=>Q .non H',rt:=Q } (K0 N vs) H):FnOk P w K mg base CX0 (k+1) f fd ps sp:=by
 obtain⟨oc,od,kV,doc,pm,an,cdv,ct,osl,rfl,lk,hcd⟩:=F.ex
 refine a9T lk hcd S len λA outer s H vs Q E hr hsp=>?_
 obtain⟨t,h,q⟩:=hbody cdv A outer s H vs Q E hr hsp
 exact⟨t,h.nox,q⟩
theorem Fun.binds {x qual:Str}{st:Stmt}{f:Addr}{fd:FuncData}{ps:List Str}(F:Fun K x qual st f fd)
  (h:∀(kV doc pm:Value) (an:Option Addr) (cdv ct:Value) (us:List Value),us.length=ps.length->bindArgs (PySem.W.fnOf x qual (defArgs st) (defBody st) (defScope st) .none kV doc pm an cdv ct) ⟨us,[]⟩=pure (ps.zip us)):a2u K fd ps []:=by
 obtain⟨oc,od,kV,doc,pm,an,cdv,ct,osl,rfl,lk,hcd⟩:=F.ex
 exact .all (h kV doc pm an cdv ct)
theorem fun_mk {x qual:Str}{st:Stmt}{f:Addr}{oc:Value}{od an:Option Addr}{osl:Array (Option Value)}{kV doc pm cdv ct:Value}(l:K.lookup f=some ⟨oc,od,.func (PySem.W.fnOf x qual (defArgs st) (defBody st) (defScope st) .none kV doc pm an cdv ct),osl⟩)
  (c:PySem.W.codeIn K cdv qual=true) (k:PySem.W.keepIn K (.ref f)=true):Fun K x qual st f (PySem.W.fnOf x qual (defArgs st) (defBody st) (defScope st) .none kV doc pm an cdv ct):=⟨⟨oc,od,kV,doc,pm,an,cdv,ct,osl,rfl,l,c⟩,k⟩
end
theorem a0i {n:Nat}(h:n≤1000):n<sizeLine:=Nat.lt_of_le_of_lt h (by decide)
section
variable {X:Cx}
theorem pv (i:Nat){x:Str}{pos:Pos}(hN:X.N[i]? = some x:=by rfl)(hv:Vis X.env.scope x:=by first | exact Or.inl rfl | exact Or.inr (Or.inl rfl) | exact Or.inr (Or.inr rfl))(hd:(x == ("__debug__":Str))=false:=by decide)
  (hcd:(x == ("__classdict__":Str))=false:=by decide):PE X (.Name x pos) (a0N i):=V8 hN hv hd hcd
end
theorem b2z {A B:Prop}(h:B):if false=true then A else B:=by
 rw[if_neg Bool.false_ne_true]
 exact h
theorem a60 {c A B:Prop}[Decidable c](h1:c->A)(h2:¬c->B):if c then A else B:=by
 by_cases h:c
 ·rw[if_pos h]
  exact h1 h
 ·rw[if_neg h]
  exact h2 h
noncomputable def i4 (H H':Hp):Prop:=∀b o,H b=some o->H' b=some o
theorem i4.refl (H:Hp):i4 H H:=λ_ _ h=>h
section
variable {X:Cx}
end
section
variable {κ:Type}[DecidableEq κ]
end
end L2
set_option maxHeartbeats 4000000
namespace L2
open PySem PySem.Spec PyProof.Rows
noncomputable def z3 (f:Str->Addr):List (Str×NameKind)->List (Str×Addr)->List (Str×Addr)
 | [],acc=>acc
 | (n,kd)::r,acc=>z3 f r (if (kd == NameKind.free)=true then(n,f n)::acc else acc)
theorem A9 {scope:Scope}{env:Env}{f:Str->Addr}(h:∀y∈scope.names,y.2 = .free->cellOf env y.1=pure (f y.1)) :
  closureFor scope env=pure (z3 f scope.names []):=by
 have key:∀(l:List (Str×NameKind)) (acc:List (Str×Addr)),(∀y∈l,y.2 = .free->cellOf env y.1=pure (f y.1)) ->
   (forIn l acc (λ(x:Str×NameKind) (cs:List (Str×Addr))=>if (x.2 == NameKind.free)=true then(do let c ←cellOf env x.1;pure (ForInStep.yield ((x.1,c)::cs))) else pure (ForInStep.yield cs)):Sem (List (Str×Addr)))=pure (z3 f l acc):=by
  intro l
  induction l with
  | nil=>intro acc _;rfl
  | cons y r ih =>
   intro acc hy
   obtain⟨n,kd⟩:=y
   rw[List.forIn_cons]
   by_cases hk:(kd == NameKind.free)=true
   ·have e:kd = .free:=by simpa using hk
    have hc:=hy (n,kd) List.mem_cons_self e
    simp only[hk,if_true]
    dsimp only at hc
    rw[hc]
    show(forIn r ((n,f n)::acc) _:Sem _)=_
    rw[ih _ λz hz=>hy z (List.mem_cons_of_mem _ hz)]
    simp only[z3,hk,if_true]
   ·simp only[hk,if_false]
    show(forIn r acc _:Sem _)=_
    rw[ih _ λz hz=>hy z (List.mem_cons_of_mem _ hz)]
    simp only[z3,hk,if_false]
    rfl
 have:=key scope.names [] h
 unfold closureFor
 show(forIn scope.names [] _ >>= λr=>pure r)=_
 rw[show(forIn scope.names ([]:List (Str×Addr)) _:Sem _)=_ from this]
 rfl
theorem D5 {f:Str->Addr}:∀(l:List (Str×NameKind)) (acc:List (Str×Addr)) {x:Str} {c:Addr},(z3 f l acc).lookup x=some c->((x,NameKind.free)∈l∧c=f x)∨acc.lookup x=some c
 | [],_,_,_,h=>.inr h
 | (n,kd)::r,acc,x,c,h=>by
  rw[z3]at h
  rcases D5 r _ h with ⟨h1,h2⟩ | h1
  ·exact .inl ⟨List.mem_cons_of_mem _ h1,h2⟩
  ·by_cases hk:(kd == NameKind.free)=true
   ·rw[if_pos hk]at h1
    have e:kd = .free:=by simpa using hk
    subst e
    by_cases hx:x=n
    ·subst hx
     simp at h1
     exact .inl ⟨List.mem_cons_self,h1.symm⟩
    ·have hb:(x == n)=false:=beq_eq_false_iff_ne.mpr hx
     rw[List.lookup_cons,hb]at h1
     exact .inr h1
   ·rw[if_neg hk]at h1
    exact .inr h1
theorem M6 {f:Str->Addr}:∀(l:List (Str×NameKind)) (acc:List (Str×Addr)) {x:Str},((x,NameKind.free)∈l∨acc.lookup x=some (f x))->(z3 f l acc).lookup x=some (f x)
 | [],_,_,h=>by
  rcases h with h | h
  ·exact absurd h (by simp)
  ·exact h
 | (n,kd)::r,acc,x,h=>by
  rw[z3]
  refine M6 r _ ?_
  by_cases hk:(kd == NameKind.free)=true
  ·rw[if_pos hk]
   have e:kd = .free:=by simpa using hk
   subst e
   by_cases hx:x=n
   ·subst hx
    exact .inr (by simp)
   ·have hb:(x == n)=false:=beq_eq_false_iff_ne.mpr hx
    rcases h with h | h
    ·rcases List.mem_cons.mp h with z | z
     ·cases z;exact absurd rfl hx
     ·exact .inl z
    ·exact .inr (by rw[List.lookup_cons,hb];exact h)
  ·rw[if_neg hk]
   rcases h with h | h
   ·rcases List.mem_cons.mp h with z | z
    ·cases z;exact absurd rfl hk
    ·exact .inl z
   ·exact .inr h
theorem P6 {scope:Scope}{env:Env}{x:Str}(hn:∀y∈scope.names,y.2 ≠ .cell)(h:(relabel scope env).names.lookup x=some .cell∨(relabel scope env).names.lookup x=some .free):(x,NameKind.free)∈scope.names:=by
 have go:∀kd,(relabel scope env).names.lookup x=some kd->kd = .cell∨kd = .free->(x,NameKind.free)∈scope.names:=by
  intro kd h hk
  have hm:=PySem.mem_of_lookup h
  unfold relabel at hm
  obtain⟨⟨n,k0⟩,hy,e⟩:=List.mem_map.mp hm
  by_cases hc:(k0 == NameKind.free&&env.scope.kind == .function&&env.kindOf n == some .cell)=true
  ·simp only[hc,if_true]at e
   cases e
   have:k0 = .free:=by
    simp only[Bool.and_eq_true]at hc
    simpa using hc.1.1
   subst this
   exact hy
  ·simp only[hc,if_false]at e
   cases e
   rcases hk with r | r
   ·subst r;exact absurd rfl (hn _ hy)
   ·subst r;exact hy
 rcases h with h | h
 ·exact go _ h (.inl rfl)
 ·exact go _ h (.inr rfl)
theorem T9 {φ:Str×NameKind->Str×NameKind}(hφ:∀n k,φ (n,k)=(n,k)∨(k = .free ∧ φ (n,k)=(n,.cell))):∀{names:List (Str×NameKind)} {x:Str},names.lookup x=some .free->(names.map φ).lookup x=some .cell∨(names.map φ).lookup x=some .free
 | [],_,h=>by simp at h
 | (n,k)::r,x,h=>by
  have ih:=@T9 φ hφ r x
  rw[List.map_cons]
  cases hx:x == n with
  | true =>
   simp only[List.lookup_cons,hx]at h
   cases h
   rcases hφ n .free with e | ⟨_,e⟩
   ·rw[e,List.lookup_cons,hx];exact .inr rfl
   ·rw[e,List.lookup_cons,hx];exact .inl rfl
  | false =>
   simp only[List.lookup_cons,hx]at h
   rcases hφ n k with e | ⟨_,e⟩
   ·rw[e,List.lookup_cons,hx];exact ih h
   ·rw[e,List.lookup_cons,hx];exact ih h
theorem N6 {scope:Scope}{env:Env}{x:Str}(h:scope.names.lookup x=some .free):(relabel scope env).names.lookup x=some .cell∨(relabel scope env).names.lookup x=some .free:=by
 unfold relabel
 refine T9 (λn k=>?_) h
 by_cases hc:(k == NameKind.free&&env.scope.kind == .function&&env.kindOf n == some .cell)=true
 ·refine .inr ⟨?_,if_pos hc⟩
  simp only[Bool.and_eq_true]at hc
  simpa using hc.1.1
 ·exact .inl (if_neg hc)
section
variable {prog:Program}{w:World}{A:Around}{R:Result->Shared->Prop}{s:Shared}
theorem Z3 {elt target iter:Expr}{ifs:List Expr}{scope:Scope}{pos:Pos}{it acc:Value}{env:Env}(I:Nat->Shared->Prop)
  (turn:∀n s,I n s->wpAny (model prog w) A (pyNext it) (λr s₁=>match r with
   | none=>R (.ok .next) s₁
   | some v=>wpAny (model prog w) A (letOwnedTupleGo target it v) (λ_ s₀=>wpAny (model prog w) A (assign target env v) (λ_ s₂ =>
     wpAny (model prog w) A (forIn ifs true λc r=>if r=true then do let ok ←isTrue c env (eval c env);pure (ForInStep.yield ok) else pure (ForInStep.yield r)) (λok s₃ =>
      if ok=true then wpAny (model prog w) A (eval elt env) (λx s₄ =>
       wpAny (model prog w) A (call (.builtin "list.append") [acc,x]) (λ_ s₅=>∃m,m<n∧I m s₅) (λ_ _=>False) s₄) (λ_ _=>False) s₃
      else ∃m,m<n∧I m s₃) (λ_ _=>False) s₂) (λ_ _=>False) s₀) (λ_ _=>False) s₁) (λ_ _=>False) s)
  (n:Nat) (h:I n s) :
  codeAny (model prog w) A (.compLoop (.ListComp elt [⟨target,iter,ifs,0⟩] scope pos) 0 it acc env) R s:=by
 refine codeAny_loop rfl I (λn s hI=>?_) n h
 show wpAny _ A ((compTurn (.ListComp elt [⟨target,iter,ifs,0⟩] scope pos) 0 it acc env).onRaise (λx=>do noteFrame x env;theTreesLotGoes x)) _ _ s
 refine wpAny_noted ?_
 rw[compTurn_list]
 refine wpAny_bind (wpAny_standAt (wpAny_bind (wpAny_mono (turn n s hI) (λr s₁ h₁=>?_) λ_ _ h'=>h'.elim)))
 cases r with
 | none=>exact wpAny_pure h₁
 | some v =>
  refine wpAny_bind (wpAny_mono h₁ (λ_ s₀ h₀=>?_) λ_ _ h'=>h'.elim)
  refine wpAny_bind (wpAny_mono h₀ (λ_ s₂ h₂=>wpAny_bind (wpAny_mono h₂ (λok s₃ h₃=>?_) λ_ _ h'=>h'.elim)) λ_ _ h'=>h'.elim)
  cases ok with
  | false=>exact wpAny_pure ⟨rfl,h₃⟩
  | true =>
   exact wpAny_bind (wpAny_bind (wpAny_mono h₃ (λx s₄ h₄=>wpAny_bind (wpAny_mono h₄ (λ_ s₅ h₅=>wpAny_pure (wpAny_pure ⟨rfl,h₅⟩)) λ_ _ h'=>h'.elim)) λ_ _ h'=>h'.elim))
end
noncomputable def J6 (k:Nat)(cap:List Nat)(σ:St):St:=List.replicate k none++cap.map λj=>(σ[j]?).join
structure Caps (ON:List Str) (osc:Scope) (N:List Str) (k:Nat) (cap:List Nat) (scope:Scope):Prop where
 kind:scope.kind = .function
 nocell:∀y∈scope.names,y.2 ≠ .cell
 loc:∀y∈scope.names,y.2 = .local->scope.names.lookup y.1=some .local
 free:∀y∈scope.names,y.2 = .free->osc.names.lookup y.1=some .cell∨osc.names.lookup y.1=some .free
 len:N.length=k+cap.length
 capx:(cap.map λj=>ON[j]?)=(N.drop k).map some
 capf:∀x∈N.drop k,scope.names.lookup x=some .free
noncomputable def cxC (X:Cx)(N:List Str)(scope:Scope)(cl:List (Str×Addr))(C:Addr)(ex:List Addr)(pins:List (Addr×Obj))(s₀:Shared)(H₀:Hp):Cx where
 prog:=X.prog
 w:=X.w
 K:=X.K
 mg:=X.mg
 base:=X.base
 A:=X.A
 N:=N
 s₀:=s₀
 H₀:=H₀
 env:=compEnvC scope cl C X.env
 outer:=X.stack
 stack:=X.stack
 ex:=ex
 fn:=λ_=>false
 calm:=X.calm
 pn:=X.pn++pins
 xe:=λ_ _=>False
noncomputable def PTs (X:Cx)(ifs:List Expr)(t:TT):Prop :=
 ∀(pins:List (Addr×Obj)) (s:Shared) (σ:St) (H:Hp) (Q:Bool->Hp->Prop),Inv X pins σ H s->t σ H Q ->
  wpAny (model X.prog X.w) X.A (forIn ifs true λc r=>if r=true then do let ok ←isTrue c X.env (eval c X.env);pure (ForInStep.yield ok) else pure (ForInStep.yield r)) (TP X pins σ Q) X.xe s
noncomputable def b1M:TT:=λ_ H Q=>Q true H
theorem a9A {X:Cx}:PTs X [] b1M:=λ_ _ _ H _ I h=>wpAny_tests_nil ⟨H,I,h⟩
theorem a9w {X:Cx}{c:Expr}{t:TT}(h:PT X c t):PTs X [c] t:=λpins s σ H Q I q=>wpAny_tests_one (h pins s σ H Q I q)
noncomputable def tLC (wi:TI)(k:Nat)(cap:List Nat)(g:TG)(tt:TT)(te:TE):TE:=λσ H Q=>wi σ H λJ H1=>∀D,H1 D=none ->
 ∃W:Nat->Nat->St->List V->Hp->Prop,(∃m,W 0 m (J6 k cap σ) [] (upd H1 D (.lst [])))∧∀i m σ' acc H',W i m σ' acc H' ->
  (J.stop i H'∧Q (.ref D) H') ∨
  (J.go i H'∧∀x H2,J.yld i H' x H2->g x σ' H2 λσ2 H3=>tt σ2 H3 λok H4=>if ok=true then te σ2 H4 λy H5=>H5 D=some (.lst acc)∧acc.length<sizeLine∧∃m',m'<m∧W (i+1) m' σ2 (acc++[y]) (upd H5 D (.lst (acc++[y])))
   else H4 D=some (.lst acc)∧∃m',m'<m∧W (i+1) m' σ2 acc H4)
theorem a7F {X:Cx}{elt tg iter:Expr}{ifs:List Expr}{scope osc:Scope}{pos:Pos}{N:List Str}{k:Nat}{cap:List Nat}{g:TG}{tt:TT}{te:TE}{cl:List (Str×Addr)}
  {pins:List (Addr×Obj)} {σ:St} {H3:Hp} {s3:Shared} {D it:Addr} {fp:List Addr} {tn:Nat->Heap->Prop} {J:It} {Q:VK} {W:Nat->Nat->St->List V->Hp->Prop} {m0:Nat}
  (hc:X.calm=true) (hosc:X.env.scope=osc) (hcap:Caps X.N osc N k cap scope)
  (hcl:∀{x:Str} {c:Addr},cl.lookup x=some c->X.env.cells.lookup x=some c) (hhas:∀x,(x,NameKind.free)∈scope.names->∃c,cl.lookup x=some c)
  (hg:∀cl C ex pins s H,PG (cxC X N scope cl C ex pins s H) tg g)
  (ht:∀cl C ex pins s H,PTs (cxC X N scope cl C ex pins s H) ifs tt)
  (he:∀cl C ex pins s H,PE (cxC X N scope cl C ex pins s H) elt te)
  (I3:Inv X pins σ H3 s3) (hD:H3 D=some (.lst [])) (T:Turn X.prog X.w X.K tg J fp it tn) (st:tn 0 s3.heap) (f3:∀b∈fp,V3 X pins H3 b) (w0:W 0 m0 (J6 k cap σ) [] H3)
  (turn:∀i m σ' acc H',W i m σ' acc H'->(J.stop i H'∧Q (.ref D) H') ∨
   (J.go i H'∧∀x H2,J.yld i H' x H2->g x σ' H2 λσ2 H3=>tt σ2 H3 λok H4=>if ok=true then te σ2 H4 λy H5=>H5 D=some (.lst acc)∧acc.length<sizeLine∧∃m',m'<m∧W (i+1) m' σ2 (acc++[y]) (upd H5 D (.lst (acc++[y])))
    else H4 D=some (.lst acc)∧∃m',m'<m∧W (i+1) m' σ2 acc H4)) :
  wpAny (model X.prog X.w) X.A (newFunctionEnv scope X.env.globals cl [] X.env.qual none .none (some X.env)) (λcenv s₄ =>
   codeAny (model X.prog X.w) X.A (.compStart (.ListComp elt [⟨tg,iter,ifs,0⟩] scope pos) 0 (.ref it) (.ref D) { cenv with scope:=relabel scope X.env }) (compPost (model X.prog X.w) X.A X.xe none (EP X pins σ Q) (.ref D) cenv.locals) s₄) X.xe s3:=by
 refine wpAny_newFunctionEnv hcap.nocell (by intro y hy;simp at hy) (λh₁ hns₁ hsb₁=>?_) hcap.kind
 have old:∀b o,s3.heap.get? b=some o->h₁.get? b=some o:=λb o e=>hsb₁.extBut b o (Nat.ne_of_lt (Heap.lt_size e)) (Heap.get?_push_of_some _ e)
 have neC:∀b∈fp,b≠s3.heap.objs.size:=λb hb=>by
  obtain⟨o,e,_⟩:=T.obj _ _ st b hb
  exact Nat.ne_of_lt (Heap.lt_size e)
 have nofs:∀{b:Addr},b≠X.env.locals->b ∉ X.fs->b ∉ frs X.stack:=λ{b} h1 h2 z=>(List.mem_cons.mp (I3.stkSub b z)).elim h1 h2
 have IY:Inv (cxC X N scope cl s3.heap.objs.size fp pins s3 H3) [] (J6 k cap σ) H3 { s3 with heap:=h₁,toks:=s3.toks+([]:List (Str×Value)).length }:=by
  refine⟨⟨I3.ok.mod,hcap.kind,I3.ok.glob,I3.ok.blt,Nat.le_refl _,λx y c h1 h2=>I3.ok.inj x y c (hcl h1) (hcl h2),λx hx=>hhas x (P6 hcap.nocell hx),λx c h=>absurd (show false=true from h) Bool.false_ne_true,I3.ok.hd,I3.ok.frames,.inl rfl,
   λb hb=>⟨neC b hb,λx c e=>(f3 b hb).2.2.2.2.1 x c (hcl e)⟩,I3.bs,Nat.le_trans I3.ok.bsz I3.sz,λb o e hb=>?_,λb hb=>nofs (f3 b hb).2.1 (f3 b hb).2.2.1,I3.stack,I3.stkFree⟩,
   rfl,I3.bare,Un.kept old,⟨_,hns₁,λi x v e1 e2 e3=>?_⟩,λx c e=>?_,I3.hok.fresh (Nat.le_refl _),λx c e=>I3.freeC x c (hcl e),λp hp=>?_,I3.hok.kept old,?_⟩
  ·rcases(f3 b hb).2.2.2.1 with z | z
   ·exact I3.ok.noex b o e z
   ·exact absurd (Nat.lt_of_lt_of_le (Heap.lt_size e) (Nat.le_trans I3.ok.bsz z)) (Nat.lt_irrefl _)
  ·by_cases hi:i<k
   ·unfold J6 at e2
    rw[List.getElem?_append_left (by simpa using hi),List.getElem?_replicate,if_pos hi]at e2
    cases e2
   ·obtain⟨d,rfl⟩:∃d,i=k+d:=⟨i-k,by omega⟩
    unfold J6 at e2
    rw[List.getElem?_append_right (by simp),List.length_replicate,Nat.add_sub_cancel_left,List.getElem?_map]at e2
    obtain⟨j,hj,hv⟩:=Option.map_eq_some_iff.mp e2
    have hσ:σ[j]? = some (some v):=by
     cases q:σ[j]? with
     | none=>rw[q]at hv;cases hv
     | some o=>rw[q]at hv;exact congrArg some hv
    have e1':(N.drop k)[d]? = some x:=by rw[List.getElem?_drop];exact e1
    have hx:X.N[j]? = some x:=by
     have z:=congrArg (λl=>l[d]?) hcap.capx
     simp only[List.getElem?_map,hj,e1',Option.map_some]at z
     exact Option.some.inj z
    have hfr:=hcap.capf x (List.mem_of_getElem? e1')
    have hfm:=PySem.mem_of_lookup hfr
    have hok:=hcap.free _ hfm rfl
    rw[←hosc]at hok
    obtain⟨m,hn,hl⟩:=I3.loc
    obtain⟨u,r,l⟩:=hl j x v hx hσ (.inr hok)
    refine⟨u,r,?_⟩
    rcases l with ⟨hk,_⟩ | ⟨hk,c,hc1,hc2⟩
    ·have hk:X.env.scope.names.lookup x=some .local:=hk
     rcases hok with z | z <;> (rw[hk]at z;cases z)
    ·obtain⟨c',hc'⟩:=hhas x hfm
     have:c'=c:=Option.some.inj ((hcl hc').symm.trans hc1)
     subst this
     exact .inr ⟨N6 hfr,c',hc',hc2.keeps old⟩
  ·obtain⟨v,z⟩:=I3.cell x c (hcl e)
   exact⟨v,z.keeps old⟩
  ·have hp:p∈(X.pn++pins)++[]:=hp
   rw[List.append_nil]at hp
   obtain⟨a1,a2,a3,a4,a5⟩:=I3.pin p hp
   exact⟨old _ _ a1,a2,Nat.ne_of_lt (Heap.lt_size a1),nofs a3 a4,a5⟩
  ·show(J6 k cap σ).length=N.length
   unfold J6
   rw[List.length_append,List.length_replicate,List.length_map,hcap.len]
 have stat:∀{H':Hp},(∀b∈fp,H' b=none)->∀b∈fp,V3 (cxC X N scope cl s3.heap.objs.size fp pins s3 H3) [] H' b:=λ{H'} hn b hb=>by
  obtain⟨a0,a1,a2,a3,a4,a5⟩:=f3 b hb
  refine⟨hn b hb,neC b hb,nofs a1 a2,.inl hb,λx c e=>a4 x c (hcl e),λp hp=>a5 p ?_⟩
  have hp:p∈(X.pn++pins)++[]:=hp
  rwa [List.append_nil]at hp
 have loop:codeAny (model X.prog X.w) X.A (.compLoop (.ListComp elt [⟨tg,iter,ifs,0⟩] scope pos) 0 (.ref it) (.ref D) (compEnvC scope cl s3.heap.objs.size X.env))
   (compPost (model X.prog X.w) X.A X.xe none (EP X pins σ Q) (.ref D) s3.heap.objs.size) { s3 with heap:=h₁,toks:=s3.toks+([]:List (Str×Value)).length }:=by
  refine Z3 (λn s'=>∃i σ' acc H',Inv (cxC X N scope cl s3.heap.objs.size fp pins s3 H3) [] σ' H' s'∧tn i s'.heap∧(∀b∈fp,H' b=none)∧H' D=some (.lst acc)∧W i n σ' acc H') ?_ m0
   ⟨0,_,[],H3,IY,T.keep _ _ _ st λb _ o e=>old b o e,λb hb=>(f3 b hb).1,hD,w0⟩
  rintro n s5 ⟨i,σ5,acc,H5,I5,st5,fr5,hD5,w5⟩
  rcases turn i n σ5 acc H5 w5 with ⟨stop,q⟩ | ⟨go,step⟩
  ·refine thn (T.done (cxC X N scope cl s3.heap.objs.size fp pins s3 H3) rfl rfl rfl hc i [] s5 σ5 H5 _ I5 (stat fr5) st5 stop) λr s6 ⟨hr,I6⟩=>?_
   subst hr
   obtain⟨m,hn,_⟩:=id I6.loc
   refine⟨m,hn,λh' hsb=>?_⟩
   have I7:Inv X pins σ H5 s6:=I3.call' I6.os I6.base I6.hok I6.bare λb hb=>by
    obtain⟨a0,a1,a2,a3,a4,a5⟩:=f3 b hb
    exact⟨a3,a1,a4,a5⟩
   obtain⟨g0,g1,g2,g3,g4,g5⟩:=I3.fpOk (H':=H5) (b:=s3.heap.objs.size) (Nat.le_refl _) I6.free
   exact⟨.ref D,H5,I7.turned (t':=s6.toks) (λb o hb e=>(hsb.2 b hb).trans e) g0 g1 g3 g4 g5,rfl,q⟩
  ·refine thn (T.item (cxC X N scope cl s3.heap.objs.size fp pins s3 H3) rfl rfl rfl hc i [] s5 σ5 H5 _ I5 (stat fr5) st5 go) λr s6 ⟨u,hr,h6⟩=>?_
   subst hr
   refine thn h6 λ_ s7 ⟨x,H7,I7,r7,y7,st7,fr7⟩=>?_
   have I7':=I7.pinned (stat fr7) (T.obj _ _ st7)
   have keepI:∀{s':Shared} {σ':St} {H':Hp},Inv (cxC X N scope cl s3.heap.objs.size fp pins s3 H3) ([]++S5 fp s7.heap) σ' H' s'->tn (i+1) s'.heap∧∀b∈fp,H' b=none:=λ{s' σ' H'} I'=>by
    refine⟨T.keep _ _ _ st7 λb hb o e=>(I'.pin (b,o) (List.mem_append_right _ (List.mem_append_right _ (v5 hb e)))).1,λb hb=>?_⟩
    obtain⟨o,e,d⟩:=T.obj _ _ st7 b hb
    exact(I'.pin (b,o) (List.mem_append_right _ (List.mem_append_right _ (v5 hb e)))).2.1
   refine thn (hg _ _ _ _ _ _ _ s7 σ5 H7 x u _ I7' r7 (step x H7 y7)) λ_ s8 ⟨σ8,H8,I8,q8⟩=>?_
   refine thn (ht _ _ _ _ _ _ _ s8 σ8 H8 _ I8 q8) λok s9 ⟨H9,I9,q9⟩=>?_
   cases ok with
   | false =>
    have q9:H9 D=some (.lst acc)∧∃m',m'<n∧W (i+1) m' σ8 acc H9:=q9
    obtain⟨hD9,m',hm,w9⟩:=q9
    obtain⟨k1,k2⟩:=keepI I9
    exact⟨m',hm,i+1,σ8,acc,H9,I9.unpinned,k1,k2,hD9,w9⟩
   | true =>
    refine thn (he _ _ _ _ _ _ _ s9 σ8 H9 _ I9 q9) λyv s10 ⟨y,H10,I10,r10,hD10,hz,m',hm,w10⟩=>?_
    refine thn (T2 (X:=cxC X N scope cl s3.heap.objs.size fp pins s3 H3) _ s10 σ8 H10 (.ref D) [y] (.ref D) [yv] (λ_ H'=>H'=upd H10 D (.lst (acc++[y]))) I10 rfl (.cons r10 .nil) ⟨D,acc,y,rfl,rfl,hD10,hz,rfl⟩)
     λ_ s11 ⟨_,H11,I11,_,e11⟩=>?_
    subst e11
    obtain⟨k1,k2⟩:=keepI I11
    exact⟨m',hm,i+1,σ8,acc++[y],_,I11.unpinned,k1,k2,g6,w10⟩
 exact codeAny_compStart_list loop (T.self X.A 0 _ _ _ (T.keep _ _ _ st λb _ o e=>old b o e) loop)
theorem a9Y {X:Cx}{elt tg iter:Expr}{ifs:List Expr}{scope osc:Scope}{pos:Pos}{N:List Str}{k:Nat}{cap:List Nat}{wi:TI}{g:TG}{tt:TT}{te:TE}
  (hc:X.calm=true) (hosc:X.env.scope=osc) (hcap:Caps X.N osc N k cap scope) (hi:PI X tg iter wi)
  (hg:∀cl C ex pins s H,PG (cxC X N scope cl C ex pins s H) tg g)
  (ht:∀cl C ex pins s H,PTs (cxC X N scope cl C ex pins s H) ifs tt)
  (he:∀cl C ex pins s H,PE (cxC X N scope cl C ex pins s H) elt te)
  (hs:∀x,foldedSetIterable iter X.env x=pure x:=by intro _;rfl) :
  PE X (.ListComp elt [⟨tg,iter,ifs,0⟩] scope pos) (tLC wi k cap g tt te):=by
 intro pins s σ H Q I h
 have hcell:∀y∈scope.names,y.2 = .free->∃c,X.env.cells.lookup y.1=some c:=λy hy hk=>I.ok.has y.1 (by
  show X.env.scope.names.lookup y.1=_∨X.env.scope.names.lookup y.1=_
  rw[hosc];exact hcap.free y hy hk)
 let f:Str->Addr:=λx=>(X.env.cells.lookup x).getD 0
 have hf:∀y∈scope.names,y.2 = .free->X.env.cells.lookup y.1=some (f y.1):=λy hy hk=>by
  obtain⟨c,e⟩:=hcell y hy hk
  show _=some ((X.env.cells.lookup y.1).getD 0)
  rw[e];rfl
 have hclos:closureFor scope X.env=pure (z3 f scope.names []):=A9 λy hy hk=>by
  unfold cellOf
  rw[hf y hy hk]
 have hcl:∀{x:Str} {c:Addr},(z3 f scope.names []).lookup x=some c->X.env.cells.lookup x=some c:=λ{x c} e=>by
  rcases D5 _ _ e with ⟨h1,h2⟩ | h1
  ·rw[h2];exact hf (x,.free) h1 rfl
  ·simp at h1
 have hhas:∀x,(x,NameKind.free)∈scope.names->∃c,(z3 f scope.names []).lookup x=some c:=λx hx=>⟨_,M6 _ _ (.inl hx)⟩
 generalize z3 f scope.names []=cl at hclos hcl hhas
 rw[eval_ListComp]
 refine wpAny_comprehension_free (use:=none) (cl:=cl) rfl hs hclos hcap.kind hcap.loc ?_
 refine thn (hi pins s σ H _ I h) λv s1 h1=>thn h1 λitv s2 h2=>?_
 obtain⟨it,fp,tn,J,H2,e,I2,T,st2,f2,q2⟩:=h2
 subst e
 obtain⟨W,⟨m0,w0⟩,turn⟩:=q2 s2.heap.objs.size (I2.hok.fresh (Nat.le_refl _))
 refine wpAny_newObj_type ?_
 have I3:Inv X pins σ (upd H2 s2.heap.objs.size (.lst [])) { s2 with heap:=s2.heap.push { cls:=.type "list",data:=.seq ([]:List Value).toArray } }:=I2.lnew (ys:=[]) (its:=[]) (t':=s2.toks) .nil (Nat.zero_le _)
 have lt2:∀b∈fp,b≠s2.heap.objs.size:=λb hb=>by
  obtain⟨o,e,_⟩:=T.obj _ _ st2 b hb
  exact Nat.ne_of_lt (Heap.lt_size e)
 exact a7F hc hosc hcap hcl hhas hg ht he I3 g6 T (T.keep _ _ (s2.heap.push { cls:=.type "list",data:=.seq ([]:List Value).toArray }) st2 λb _ o e=>Heap.get?_push_of_some _ e) (λb hb=>⟨by rw[d8 (lt2 b hb)];exact(f2 b hb).1,(f2 b hb).2⟩) w0 turn
end L2
namespace L2
open PySem PySem.Spec PyProof.Rows
mutual
noncomputable def b7 (K:PySem.W.Frag)(H:Hp):PyData->V->Prop
 | .none,v=>v = .non
 | .bool b,v=>v = .bl b
 | .int i,v=>v = .int i
 | .str x,v=>v = .str x
 | .tuple ds,v=>∃a xs,v = .ref a∧SqT K H a xs∧a6 K H ds xs
 | .list ds,v=>∃a xs,v = .ref a∧H a=some (.lst xs)∧a6 K H ds xs
 | .dict _,_=>False
noncomputable def a6 (K:PySem.W.Frag)(H:Hp):List PyData->List V->Prop
 | [],xs=>xs=[]
 | d::ds,xs=>∃x r,xs=x::r∧b7 K H d x∧a6 K H ds r
end
section
variable {X:Cx}{pins:List (Addr×Obj)}{σ:St}{H:Hp}{s:Shared}
mutual
theorem D9 (I:Inv X pins σ H s):∀(d:PyData) (v:V) (u:Value),b7 X.K H d v->p8 v u->∃as,Reads s.heap u d as
 | .none,v,u,h,r=>by
  simp only[b7]at h;subst h;cases(show u=Value.none from r);exact⟨_,.none⟩
 | .bool b,v,u,h,r=>by
  simp only[b7]at h;subst h;cases(show u=Value.bool b from r);exact⟨_,.bool b⟩
 | .int i,v,u,h,r=>by
  simp only[b7]at h;subst h;obtain⟨t,rfl⟩:=(show ∃t,u=Value.int i t from r);exact⟨_,.int i t⟩
 | .str x,v,u,h,r=>by
  simp only[b7]at h;subst h;obtain⟨t,rfl⟩:=(show ∃t,u=Value.str x t from r);exact⟨_,.str x t⟩
 | .tuple ds,v,u,h,r=>by
  simp only[b7]at h
  obtain⟨a,xs,rfl,hq,hd⟩:=h
  cases(show u=Value.ref a from r)
  obtain⟨its,rv,ht,_⟩:=I.tuple hq
  obtain⟨o,h1,h2,n,h3⟩:=ht
  obtain⟨as,ra⟩:=R3 I ds xs its hd rv
  exact⟨_,.tuple h1 h2 h3 ra⟩
 | .list ds,v,u,h,r=>by
  simp only[b7]at h
  obtain⟨a,xs,rfl,hq,hd⟩:=h
  cases(show u=Value.ref a from r)
  obtain⟨its,rv,ht,_⟩:=I.list (SqL.of hq)
  obtain⟨o,h1,h2,n,h3⟩:=ht.isList
  obtain⟨as,ra⟩:=R3 I ds xs its hd rv
  exact⟨_,.list h1 h2 h3 ra⟩
 | .dict kvs,v,u,h,r=>by
  simp only[b7]at h
theorem R3 (I:Inv X pins σ H s):∀(ds:List PyData) (xs:List V) (us:List Value),a6 X.K H ds xs->j3 xs us->∃as,ReadsAll s.heap us ds as
 | [],xs,us,h,r=>by
  simp only[a6]at h;subst h;cases r;exact⟨_,.nil⟩
 | d::ds,xs,us,h,r=>by
  simp only[a6]at h
  obtain⟨x,rr,rfl,h1,h2⟩:=h
  cases r with
  | cons r1 r2 =>
   obtain⟨as,ra⟩:=D9 I d x _ h1 r1
   obtain⟨bs,rb⟩:=R3 I ds rr _ h2 r2
   exact⟨_,.cons ra rb⟩
end
end
structure Shw (d:PyData) (dp n:Nat):Prop where
 sh:d.showable=true
 nd:d.hasDict=false
 de:d.depth≤dp
 ln:d.shown.length≤n
theorem Shw.int {i:Int}{k:Nat}(h:i.natAbs<2 ^ k)(hk:0<k)(hk2:k≤1900):Shw (.int i) 0 (k+20):=by
 have hlog:i.natAbs.log2<1920:=by
  by_cases h0:i.natAbs=0
  ·rw[h0];decide
  ·have:=(Nat.log2_lt h0).mpr h
   omega
 refine⟨by simp only[PyData.showable,hlog,decide_true],by simp only[PyData.hasDict],by simp only[PyData.depth];omega,?_⟩
 have hl2:i.natAbs.log2<k:=by
  by_cases h0:i.natAbs=0
  ·rw[h0];exact hk
  ·exact(Nat.log2_lt h0).mpr h
 have e:=int_text_length_le hk hl2
 simp only[PyData.shown]
 rw[PySem.ofString_length]
 omega
section
variable {X:Cx}
end
end L2
namespace HT
open PySem PyProof.Rows
section
variable {prog:Program}{w:World}{A:Around}{E:Value->Shared->Prop}{s:Shared}
theorem getItem_tuple_whole {t sl:Addr}{items:Array Value}{vl vu:Value}{lo hi:Option Int}{Q:Value->Shared->Prop}(ht:IsTup s.heap t items)(hs:s.heap.IsSliceOf sl vl vu .none)(pl:IsPart vl lo)(pu:IsPart vu hi)
  (h0:sIx items.size 0 lo=0) (h1:sIx items.size items.size hi=items.size) (h:Q (.ref t) s):wpAny (model prog w) A (getItem (.ref t) (.ref sl)) Q E s:=by
 obtain⟨os,hos,hcs,hds⟩:=id hs
 have hTs:s.TypeIs (.ref sl) "slice":=⟨os,hos,hcs⟩
 unfold getItem
 try with_reducible refine wpAny_holding ?_
 first | refine wpAny_bind (wpAny_pure ?_) | skip
 refine wpAny_bind (wpAny_sequenceKey ht.typeIs (by decide) ?_)
 refine wpAny_bind (wpAny_callSpecial?_slot (name:=Str.ofString "__getitem__") ht.typeIs PyProof.Rows.slot_tuple_getitem
  (wpAny_call_entry PyProof.Rows.slot_tuple_getitem ht.typeIs entry_tuple_getitem ?_ (args_tuple_getitem _ _)))
 show wpAny _ _ (Builtin.Tuple.tupleItemsOf (.ref t) >>= _) _ _ s
 refine wpAny_bind (tupleItemsOf_ ht ?_)
 refine wpAny_bind (wpAny_typeOf hTs ?_)
 rw[if_pos (by decide)]
 refine wpAny_bind (M5 hs pl pu ?_)
 have hyes:(((sIx items.size 0 lo:Nat):Int) == 0&&(1:Int) == 1&&(sIx items.size items.size hi-sIx items.size 0 lo) == items.size)=true:=by
  rw[h0,h1];simp
 show wpAny _ _ (if (((sIx items.size 0 lo:Nat):Int) == 0&&(1:Int) == 1&&(sIx items.size items.size hi-sIx items.size 0 lo) == items.size)=true then _ else _) _ _ s
 rw[if_pos hyes]
 unfold Builtin.Tuple.tupleIsExact
 refine wpAny_bind ?_
 refine wpAny_bind (wpAny_typeOf ht.typeIs (wpAny_pure ?_))
 rw[if_pos (by decide)]
 exact wpAny_bind (wpAny_rule (wpAny_pure ⟨_,rfl,wpAny_pure h⟩))
theorem a4c (n:Nat):Builtin.Slice.sliceAdjust none none (-1) (n:Int)=((n:Int)-1,-1):=by
 unfold Builtin.Slice.sliceAdjust
 simp
theorem a4s (n:Nat):Builtin.Slice.slicePlaces ((n:Int)-1) (-1) (-1)=n:=by
 unfold Builtin.Slice.slicePlaces
 rw[if_neg (by decide)]
 split
 ·rw[show(-(-1):Int)=1 by decide,Int.ediv_one];omega
 ·omega
theorem a0q {sl:Addr}{vst:Value}{n:Nat}{Q:Int×Int×Nat->Shared->Prop}(hs:s.heap.IsSliceOf sl .none .none vst)(pst:IsPart vst (some (-1)))
  (h:Q ((n:Int)-1,-1,n) s):wpAny (model prog w) A (Builtin.Slice.sliceApplied (.ref sl) (pure (n:Int))) Q E s:=by
 obtain⟨os,hos,hcs,hds⟩:=id hs
 unfold Builtin.Slice.sliceApplied Builtin.Slice.sliceFields
 refine wpAny_bind (wpAny_bind (wpAny_field hos hds (x:=.none) rfl (wpAny_bind (wpAny_field hos hds (x:=.none) rfl (wpAny_bind (wpAny_field hos hds (x:=vst) rfl (wpAny_pure ?_)))))))
 refine wpAny_bind (V1 pst ?_)
 show wpAny _ _ (if ((-1:Int) == 0)=true then _ else _) _ _ s
 rw[if_neg (by decide)]
 refine wpAny_bind (slicePart_none (wpAny_bind (slicePart_none (wpAny_bind (wpAny_pure ?_)))))
 show wpAny _ _ (match Builtin.Slice.sliceAdjust none none (-1) (n:Int) with | (lo,hi)=>pure (lo,(-1:Int),Builtin.Slice.slicePlaces lo hi (-1))) _ _ s
 rw[a4c n]
 show wpAny _ _ (pure ((n:Int)-1,(-1:Int),Builtin.Slice.slicePlaces ((n:Int)-1) (-1) (-1))) _ _ s
 rw[a4s]
 exact wpAny_pure h
theorem M4 {α β:Type}{f g:α->Option β}:∀{l:List α},(∀x∈l,f x=g x)->l.filterMap f=l.filterMap g
 | [],_=>rfl
 | x::r,h=>by
  rw[List.filterMap_cons,List.filterMap_cons,h x List.mem_cons_self,M4 λy hy=>h y (List.mem_cons_of_mem _ hy)]
theorem a80 (xs:Array Value):((List.range xs.size).filterMap λ(m:Nat)=>xs[(((xs.size:Int)-1)+(m:Int)*(-1)).toNat]?).toArray=xs.toList.reverse.toArray:=by
 congr 1
 have e:((List.range xs.size).filterMap λ(m:Nat)=>xs[(((xs.size:Int)-1)+(m:Int)*(-1)).toNat]?)=(List.range xs.size).filterMap λm=>xs.toList.reverse[m]?:=by
  refine M4 λm hm=>?_
  have hm:=List.mem_range.mp hm
  rw[List.getElem?_reverse (by simpa using hm)]
  have:(((xs.size:Int)-1)+(m:Int)*(-1)).toNat=xs.toList.length-1-m:=by
   rw[Array.length_toList];omega
  rw[this]
  simp
 rw[e]
 have:=PySem.W.krv_all xs.toList.reverse.toArray
 simpa using this
theorem getItem_tuple_rev {t sl:Addr}{items:Array Value}{vst:Value}{Q:Value->Shared->Prop}(ht:IsTup s.heap t items)(hs:s.heap.IsSliceOf sl .none .none vst)(pst:IsPart vst (some (-1)))
  (h:Q (.ref s.heap.objs.size) { s with heap:=s.heap.push { cls:=.type "tuple",data:=.seq items.toList.reverse.toArray } })
  (hsz:items.size≤sizeLine):wpAny (model prog w) A (getItem (.ref t) (.ref sl)) Q E s:=by
 have htake:sizeOk (.seq items.toList.reverse.toArray):=by
  show items.toList.reverse.toArray.size≤sizeLine
  rw[List.size_toArray,List.length_reverse,Array.length_toList];exact hsz
 obtain⟨os,hos,hcs,hds⟩:=id hs
 have hTs:s.TypeIs (.ref sl) "slice":=⟨os,hos,hcs⟩
 unfold getItem
 try with_reducible refine wpAny_holding ?_
 first | refine wpAny_bind (wpAny_pure ?_) | skip
 refine wpAny_bind (wpAny_sequenceKey ht.typeIs (by decide) ?_)
 refine wpAny_bind (wpAny_callSpecial?_slot (name:=Str.ofString "__getitem__") ht.typeIs PyProof.Rows.slot_tuple_getitem
  (wpAny_call_entry PyProof.Rows.slot_tuple_getitem ht.typeIs entry_tuple_getitem ?_ (args_tuple_getitem _ _)))
 show wpAny _ _ (Builtin.Tuple.tupleItemsOf (.ref t) >>= _) _ _ s
 refine wpAny_bind (tupleItemsOf_ ht ?_)
 refine wpAny_bind (wpAny_typeOf hTs ?_)
 rw[if_pos (by decide)]
 refine wpAny_bind (a0q hs pst ?_)
 have hno:¬(((items.size:Int)-1 == 0&&(-1:Int) == 1&&items.size == items.size)=true):=by simp
 show wpAny _ _ (if ((items.size:Int)-1 == 0&&(-1:Int) == 1&&items.size == items.size)=true then _ else _) _ _ s
 rw[if_neg hno,a80]
 first
  | exact wpAny_bind (m:=Builtin.Tuple.tupleExact _) (wpAny_newObj_type (wpAny_pure ⟨_,rfl,wpAny_pure h⟩) htake)
  | exact wpAny_bind (m:=Builtin.Tuple.tupleExact _) (wpAny_newObj_type (wpAny_bind (wpAny_pure (wpAny_pure ⟨_,rfl,wpAny_pure h⟩))) htake)
  | exact wpAny_bind (wpAny_bind (m:=Builtin.Tuple.tupleExact _) (wpAny_newObj_type (wpAny_pure (wpAny_pure ⟨_,rfl,wpAny_pure h⟩)) htake))
  | exact wpAny_bind (wpAny_bind (m:=Builtin.Tuple.tupleExact _) (wpAny_newObj_type (wpAny_pure ⟨_,rfl,wpAny_pure h⟩) htake))
end
end HT
namespace L2
open PySem PySem.Spec PyProof.Rows
section
variable {X:Cx}
noncomputable def b09 (K:PySem.W.Frag):V->Option Int->Option Int->Hp->VK->Prop:=λx lo hi H Q=>∃a xs,x = .ref a∧SqT K H a xs∧((a0b xs lo hi=xs∧HT.sIx xs.length 0 lo=0∧HT.sIx xs.length xs.length hi=xs.length->Q (.ref a) H) ∧
 (¬(HT.sIx xs.length 0 lo=0∧HT.sIx xs.length xs.length hi=xs.length)->∀p,H p=none->Q (.ref p) (upd H p (.tup (a0b xs lo hi)))))
theorem a8K:SlR X (b09 X.K):=by
 intro pins s σ H x v vl vu lo hi sl Q I rx hs pl pu h
 obtain⟨a,xs,rfl,hx,hw,hn⟩:=h
 by_cases hc:HT.sIx xs.length 0 lo=0∧HT.sIx xs.length xs.length hi=xs.length
 ·cases rx
  obtain⟨its,r,ht,hz⟩:=I.tuple hx
  have hlen:its.toArray.size=xs.length:=by rw[List.size_toArray];exact r.length.symm
  have hq:=hw ⟨by unfold a0b;rw[hc.1,hc.2];simp,hc.1,hc.2⟩
  exact⟨"tuple",_,PyProof.Rows.slot_tuple_getitem.lookup,ht.typeIs,HT.getItem_tuple_whole ht hs pl pu (by rw[hlen];exact hc.1) (by rw[hlen];exact hc.2) ⟨.ref a,H,I,rfl,hq⟩⟩
 ·exact b1h pins s σ H (.ref a) v vl vu lo hi sl Q I rx hs pl pu ⟨a,xs,rfl,hx,hc,hn hc⟩
noncomputable def b1t (K:PySem.W.Frag):R2:=λx y H Q=>∃a b xs,x = .ref a∧y = .ref b∧SqL K H a xs∧SqL K H b []∧Q (.bl (!xs.isEmpty)) H
theorem a7V (hu:X.A.units<cLine):OpR X (compareOp .NotEq) (b1t X.K):=by
 intro pins s σ H x y v u Q I rx ry h
 obtain⟨a,b,xs,rfl,rfl,ha,hb,q⟩:=h
 cases rx
 cases ry
 obtain⟨its,rv,p,hz⟩:=I.list ha
 obtain⟨its2,rv2,p2,hz2⟩:=I.list hb
 cases rv2
 cases rv with
 | nil=>exact(SeqAt.RcNeAt.lists (e:=λ_=>true) p.isList p2.isList rfl hu λj h1 _=>absurd h1 (by simp)) _ _ _ _ ⟨.bl false,H,I,rfl,q⟩
 | cons r1 r2=>exact(SeqAt.RcNeAt.lists_lengths p.isList p2.isList (by simp) hu) _ _ _ _ ⟨.bl true,H,I,rfl,q⟩
noncomputable def a9R (i j k:Nat)(ta:TA):TS:=λD σ H=>ta σ H λvs H1=>∃u v w,vs=[u,v,w]∧D.nx (((σ.set i (some u)).set j (some v)).set k (some w)) H1
theorem a8X {i j k:Nat}{x y z:Str}{a b c:Expr}{ta:TA}{px py pz pt pos:Pos}{kt k2 pt2}(hc:X.calm=true)(hN:X.N.Nodup)(hi:X.N[i]? = some x)(hj:X.N[j]? = some y)(hk:X.N[k]? = some z)(hij:i≠j)(hik:i≠k)(hjk:j≠k)
  (hx:X.env.scope.names.lookup x=some .local) (hy:X.env.scope.names.lookup y=some .local) (hz:X.env.scope.names.lookup z=some .local) (ha:PA X [a,b,c] ta)
  (hw:swappedStores [.Tuple [.Name x px,.Name y py,.Name z pz] kt pt] (.Tuple [a,b,c] k2 pt2) X.env=pure (some [x,y,z]))
  (hs:swapsWithSole [.Tuple [.Name x px,.Name y py,.Name z pz] kt pt] (.Tuple [a,b,c] k2 pt2) pos.line X.env=pure false:=by rfl) :
  PS X (.Assign [.Tuple [.Name x px,.Name y py,.Name z pz] kt pt] (.Tuple [a,b,c] k2 pt2) pos) (a9R i j k ta):=by
 intro pins s σ H D I h
 rw[exec_Assign_arm]
 refine wpAny_bind (wpAny_standAt ?_)
 rw[hs]
 refine wpAny_bind (wpAny_pure ?_)
 rw[if_neg (by decide)]
 refine wpAny_bind (Tuple_ (thn (ha _ pins s σ H _ I h) λus s1 ⟨vs,H1,I1,r1,q1⟩=>?_))
 obtain⟨v,w,t,e1,q1⟩:=q1
 subst e1
 obtain⟨u1,u2,u3,rfl,rv,rw',rt⟩:∃u1 u2 u3,us=[u1,u2,u3]∧p8 v u1∧p8 w u2∧p8 t u3:=by
  cases r1 with
  | cons p q =>
   cases q with
   | cons p' q' =>
    cases q' with
    | cons p'' q'' =>
     cases q''
     exact⟨_,_,_,rfl,p,p',p''⟩
 refine wpAny_newObj_type ?_ (by show 3≤sizeLine;decide)
 have I2:Inv X pins σ H1 { s1 with heap:=s1.heap.push { cls:=.type "tuple",data:=.seq [u1,u2,u3].toArray } }:=I1.kept (t':=s1.toks) λb o e=>Heap.get?_push_of_some _ e
 rw[hw]
 refine wpAny_bind (wpAny_pure ?_)
 show wpAny (model X.prog X.w) X.A (do rule "assign.swapped-stores";let items ←unpackItems (.ref s1.heap.objs.size) 3 none;assignInOrder [λv=>bindName X.env z v,λv=>bindName X.env y v,λv=>bindName X.env x v] items.reverse;pure Flow.next) _ _ _
 refine wpAny_bind (wpAny_rule (wpAny_bind (unpackItems_tuple (items:=#[u1,u2,u3]) (I.ok.hd hc) (IsTup.new s1.heap _) λh' hx'=>?_)))
 have I3:=I2.kept (h':=h') (t':=s1.toks) λb o e=>hx' b o (Nat.ne_of_lt (Heap.lt_size e)) e
 show wpAny _ _ (assignInOrder [λv=>bindName X.env z v,λv=>bindName X.env y v,λv=>bindName X.env x v] [u3,u2,u1] >>= λ_=>pure Flow.next) _ _ _
 refine wpAny_bind (assignInOrder_cons (wpAny_bindName (D1 I3 hN hk (.inl hz) rt (λs2 I4=>?_) (.inr hz))))
 refine assignInOrder_cons (wpAny_bindName (D1 I4 hN hj (.inl hy) rw' (λs3 I5=>?_) (.inr hy)))
 refine assignInOrder_cons (wpAny_bindName (D1 I5 hN hi (.inl hx) rv (λs4 I6=>assignInOrder_nil (wpAny_pure ?_)) (.inr hx)))
 rw[List.set_comm _ _ (Ne.symm hjk),List.set_comm _ _ (Ne.symm hik),List.set_comm _ _ (Ne.symm hij)]at I6
 exact⟨_,H1,I6,q1⟩
end
end L2
namespace L2
open PySem PySem.Spec PyProof.Rows
noncomputable def Callee (P:Program)(w:World)(K:PySem.W.Frag)(mg:Str->Option Value)(base:Heap)(x:Str)(k:Nat)(ps:List Str)(sp:Sp):Prop :=
 ∃f fd,FnOk P w K mg base CX0 k f fd ps sp∧mg x=some (.ref f)∧PySem.W.keepIn K (.ref f)=true∧a2u K fd ps []
theorem a2c {X:Cx}{x:Str}{k:Nat}{ps:List Str}{sp:Sp}{p pos:Pos}{e:Expr}{es:List Expr}{t:TA}(C:Callee X.prog X.w X.K X.mg X.base x k ps sp)(hr:Room k X.A)(hg:Gl X x)(ha:PA X (e::es) t)
  (hdb:(x == ("__debug__":Str))=false:=by decide) (he:starEach (e::es) X.env=(false,eval e X.env)::starEach es X.env:=by rfl) (hpl:(backTo pos (starEach es X.env)).any (·.1)=false:=by rfl) :
  PE X (.Call (.Name x p) (e::es) [] pos) (a3W sp [] E0 t):=by
 obtain⟨f,fd,G,m,kp,b⟩:=C
 exact a8I G hr hg m kp b .nil b2q ha hdb he hpl
noncomputable def KpE (D:Addr->Prop)(H H':Hp):Prop:=∀b o,H b=some o->¬D b->H' b=some o
theorem SqT.kp {K:PySem.W.Frag}{H H':Hp}{a:Addr}{xs:List V}{D:Addr->Prop}(h:SqT K H a xs)(k:KpE D H H')(hD:∀b,D b->∃kvs,H b=some (.dK kvs)):SqT K H' a xs:=by
 rcases h with (h | ⟨o,h⟩) | h
 ·refine .inl (.inl (k _ _ h λz=>?_))
  obtain⟨kvs,e⟩:=hD _ z;rw[h]at e;cases e
 ·refine .inl (.inr ⟨o,k _ _ h λz=>?_⟩)
  obtain⟨kvs,e⟩:=hD _ z;rw[h]at e;cases e
 ·exact .inr h
section
variable {K:PySem.W.Frag}{H H':Hp}{D:Addr->Prop}
mutual
theorem b7.kp (k:KpE D H H')(hD:∀b,D b->∃kvs,H b=some (.dK kvs)):∀(d:PyData) (v:V),b7 K H d v->b7 K H' d v
 | .none,v,h=>by simpa only[b7] using h
 | .bool b,v,h=>by simpa only[b7] using h
 | .int i,v,h=>by simpa only[b7] using h
 | .str x,v,h=>by simpa only[b7] using h
 | .tuple ds,v,h=>by
  simp only[b7]at h ⊢
  obtain⟨a,xs,e,hq,hd⟩:=h
  exact⟨a,xs,e,hq.kp k hD,a6.kp k hD ds xs hd⟩
 | .list ds,v,h=>by
  simp only[b7]at h ⊢
  obtain⟨a,xs,e,hq,hd⟩:=h
  refine⟨a,xs,e,k _ _ hq λz=>?_,a6.kp k hD ds xs hd⟩
  obtain⟨kvs,e⟩:=hD _ z;rw[hq]at e;cases e
 | .dict kvs,v,h=>by simp only[b7]at h
theorem a6.kp (k:KpE D H H')(hD:∀b,D b->∃kvs,H b=some (.dK kvs)):∀(ds:List PyData) (xs:List V),a6 K H ds xs->a6 K H' ds xs
 | [],xs,h=>by simpa only[a6] using h
 | d::ds,xs,h=>by
  simp only[a6]at h ⊢
  obtain⟨x,r,e,h1,h2⟩:=h
  exact⟨x,r,e,b7.kp k hD d x h1,a6.kp k hD ds r h2⟩
end
end
theorem i4.kpE {H H':Hp}(s:i4 H H'):KpE (λ_=>False) H H':=λb o h _=>s b o h
theorem b7.same {K:PySem.W.Frag}{H H':Hp}{d:PyData}{v:V}(h:b7 K H d v)(s:i4 H H'):b7 K H' d v:=b7.kp s.kpE (λ_ z=>z.elim) d v h
theorem a6.same {K:PySem.W.Frag}{H H':Hp}{ds:List PyData}{xs:List V}(h:a6 K H ds xs)(s:i4 H H'):a6 K H' ds xs:=a6.kp s.kpE (λ_ z=>z.elim) ds xs h
theorem SqT.same {K:PySem.W.Frag}{H H':Hp}{a:Addr}{xs:List V}(h:SqT K H a xs)(s:i4 H H'):SqT K H' a xs:=h.kp s.kpE (λ_ z=>z.elim)
theorem i4.upd {H:Hp}{p:Addr}{o:HO}(hp:H p=none):i4 H (upd H p o):=λb u e=>by rw[d8 (j5 e hp)];exact e
section
variable {K:PySem.W.Frag}{H:Hp}
theorem a6.length:∀{ds:List PyData} {xs:List V},a6 K H ds xs->xs.length=ds.length
 | [],xs,h=>by simp only[a6]at h;subst h;rfl
 | d::ds,xs,h=>by
  simp only[a6]at h
  obtain⟨x,r,rfl,h1,h2⟩:=h
  rw[List.length_cons,List.length_cons,h2.length]
theorem a6.get:∀{ds:List PyData} {xs:List V} {i:Nat} {x:V},a6 K H ds xs->xs[i]? = some x->∃d,ds[i]? = some d∧b7 K H d x
 | [],xs,i,x,h,e=>by simp only[a6]at h;subst h;simp at e
 | d::ds,xs,i,x,h,e=>by
  simp only[a6]at h
  obtain⟨y,r,rfl,h1,h2⟩:=h
  cases i with
  | zero=>simp at e;subst e;exact⟨d,rfl,h1⟩
  | succ i=>simpa using h2.get (i:=i) (by simpa using e)
theorem a6.snoc:∀{ds:List PyData} {xs:List V} {d:PyData} {x:V},a6 K H ds xs->b7 K H d x->a6 K H (ds++[d]) (xs++[x])
 | [],xs,d,x,h,h'=>by simp only[a6]at h;subst h;simp only[List.nil_append,a6];exact⟨x,[],rfl,h',rfl⟩
 | e::ds,xs,d,x,h,h'=>by
  simp only[a6]at h
  obtain⟨y,r,rfl,h1,h2⟩:=h
  simp only[List.cons_append,a6]
  exact⟨y,r++[x],rfl,h1,h2.snoc h'⟩
theorem a6.append {ds':List PyData}{xs':List V}(h':a6 K H ds' xs'):∀{ds:List PyData} {xs:List V},a6 K H ds xs->a6 K H (ds++ds') (xs++xs')
 | [],xs,h=>by simp only[a6]at h;subst h;simpa using h'
 | e::ds,xs,h=>by
  simp only[a6]at h
  obtain⟨y,r,rfl,h1,h2⟩:=h
  simp only[List.cons_append,a6]
  exact⟨y,r++xs',rfl,h1,a6.append h' h2⟩
theorem a6.reverse:∀{ds:List PyData} {xs:List V},a6 K H ds xs->a6 K H ds.reverse xs.reverse
 | [],xs,h=>by simp only[a6]at h;subst h;simp[a6]
 | d::ds,xs,h=>by
  simp only[a6]at h
  obtain⟨y,r,rfl,h1,h2⟩:=h
  rw[List.reverse_cons,List.reverse_cons]
  exact(a6.reverse h2).snoc h1
theorem a6.take:∀{ds:List PyData} {xs:List V} (n:Nat),a6 K H ds xs->a6 K H (ds.take n) (xs.take n)
 | [],xs,n,h=>by simp only[a6]at h;subst h;simp[a6]
 | d::ds,xs,0,h=>by simp[a6]
 | d::ds,xs,n+1,h=>by
  simp only[a6]at h
  obtain⟨y,r,rfl,h1,h2⟩:=h
  simp only[List.take_succ_cons,a6]
  exact⟨y,r.take n,rfl,h1,a6.take n h2⟩
theorem b7.tup {ds:List PyData}{xs:List V}{a:Addr}(h:H a=some (.tup xs))(h2:a6 K H ds xs):b7 K H (.tuple ds) (.ref a):=by
 simp only[b7];exact⟨a,xs,rfl,SqT.of h,h2⟩
theorem b7.lst {ds:List PyData}{xs:List V}{a:Addr}(h:H a=some (.lst xs))(h2:a6 K H ds xs):b7 K H (.list ds) (.ref a):=by
 simp only[b7];exact⟨a,xs,rfl,h,h2⟩
theorem a6.nil:a6 K H [] []:=by simp only[a6]
theorem a6.cons {d:PyData}{x:V}{ds:List PyData}{xs:List V}(h:b7 K H d x)(h2:a6 K H ds xs):a6 K H (d::ds) (x::xs):=by
 simp only[a6];exact⟨x,xs,rfl,h,h2⟩
theorem b7.int {i:Int}:b7 K H (.int i) (.int i):=by simp only[b7]
theorem b7.bl {b:Bool}:b7 K H (.bool b) (.bl b):=by simp only[b7]
theorem b7.st {x:Str}:b7 K H (.str x) (.str x):=by simp only[b7]
theorem b7.non:b7 K H .none .non:=by simp only[b7]
theorem b7.ofTup {ds:List PyData}{v:V}(h:b7 K H (.tuple ds) v):∃a xs,v = .ref a∧SqT K H a xs∧a6 K H ds xs:=by simpa only[b7] using h
end
theorem a7l {J:It}{D:Addr}(n:Nat){g:TG}{tt:TT}{te:TE}{Q:Hp->Prop}{σ0:St}{H0:Hp}(Pv:Nat->St->List V->Hp->Prop)(h0:Pv 0 σ0 [] H0)
  (hgo:∀i σ acc H,i<n->Pv i σ acc H->J.go i H) (hstop:∀σ acc H,Pv n σ acc H->J.stop n H)
  (hs:∀i σ acc H,i<n->Pv i σ acc H->∀x H2,J.yld i H x H2->∀R:St->List V->Hp->Prop,(∀σ acc H,Pv (i+1) σ acc H->R σ acc H) ->
   g x σ H2 λσ2 H3=>tt σ2 H3 λok H4=>if ok=true then te σ2 H4 λy H5=>H5 D=some (.lst acc)∧acc.length<sizeLine∧R σ2 (acc++[y]) (upd H5 D (.lst (acc++[y]))) else H4 D=some (.lst acc)∧R σ2 acc H4)
  (hd:∀σ acc H,Pv n σ acc H->Q H) :
  ∃W:Nat->Nat->St->List V->Hp->Prop,(∃m,W 0 m σ0 [] H0)∧∀i m σ' acc H',W i m σ' acc H' ->
  (J.stop i H'∧Q H') ∨
  (J.go i H'∧∀x H2,J.yld i H' x H2->g x σ' H2 λσ2 H3=>tt σ2 H3 λok H4=>if ok=true then te σ2 H4 λy H5=>H5 D=some (.lst acc)∧acc.length<sizeLine∧∃m',m'<m∧W (i+1) m' σ2 (acc++[y]) (upd H5 D (.lst (acc++[y])))
   else H4 D=some (.lst acc)∧∃m',m'<m∧W (i+1) m' σ2 acc H4):=by
 refine⟨λi m σ acc H=>m=n-i∧i≤n∧Pv i σ acc H,⟨n,by simp,Nat.zero_le _,h0⟩,?_⟩
 rintro i m σ acc H ⟨rfl,hi,p⟩
 by_cases hlt:i<n
 ·exact .inr ⟨hgo i σ acc H hlt p,λx H2 y=>hs i σ acc H hlt p x H2 y (λσ acc H=>∃m',m'<n-i∧m'=n-(i+1)∧i+1≤n∧Pv (i+1) σ acc H) λσ acc H q=>⟨n-(i+1),by omega,rfl,hlt,q⟩⟩
 ·have e:i=n:=by omega
  subst e
  exact .inl ⟨hstop σ acc H p,hd σ acc H p⟩
end L2
namespace L2
open PySem PySem.Spec PyProof.Rows
section
variable {X:Cx}{K:PySem.W.Frag}
theorem a5F {es:List Expr}{k:Nat}{t:TGs}{n:Nat}{pos:Pos}(hK:X.K=K)(hc:X.calm=true)(h:PGs X es t)
  (hn:(assignEach es X.env).length=n:=by rfl) (hst:(assignEach es X.env).findIdx? (·.1)=none:=by rfl):PG X (.Tuple es k pos) (a8U K n t):=by
 subst hK;exact b1k hc h hn hst
theorem a96 (hK:X.K=K):IxR X (b2j K):=by subst hK;exact b0B
theorem a6y (hK:X.K=K):IxR X (b1S K):=by subst hK;exact G1
theorem U6 (hK:X.K=K):A3 X (.builtin "len") (λxs H Q=>∃p ys,xs=[.ref p]∧(SqL K H p ys∨SqT K H p ys)∧Q (.int ys.length) H):=by subst hK;exact N5
theorem R0 (hK:X.K=K):A3 X (.type "tuple") (λxs H Q=>∃p ys,xs=[.ref p]∧((SqL K H p ys∧∀l,H l=none->Q (.ref l) (upd H l (.tup ys)))∨(SqT K H p ys∧Q (.ref p) H))):=by subst hK;exact a1W
theorem a7z (hK:X.K=K):SlR X (b09 K):=by subst hK;exact a8K
theorem a5Y {a:Expr}{ta:TE}(hK:X.K=K)(ha:PE X a ta)(he:∀whole,isTrue a X.env whole=(do let v ←whole;standAt a.pos;holding [v] (truthy v))) :
  PT X a (λσ H Q=>ta σ H λx H'=>∃k,a7R K x H' k∧Q k H'):=by subst hK;exact a7O ha he
end
end L2
namespace L2
open PySem PySem.Spec PyProof.Rows
section
variable {X:Cx}{K:PySem.W.Frag}
noncomputable def b2g (K:PySem.W.Frag):R2:=λx y H Q=>∃a b xs ys,x = .ref a∧y = .ref b∧SqT K H a xs∧SqT K H b ys∧xs.length+ys.length≤sizeLine ∧
 (xs=[]->Q (.ref b) H)∧(ys=[]->Q (.ref a) H)∧∀p,H p=none->Q (.ref p) (upd H p (.tup (xs++ys)))
theorem a93 (hK:X.K=K):OpR X (binaryOp .Add) (b2g K):=by
 subst hK
 intro pins s σ H x y v u Q I rx ry h
 obtain⟨a,b,xs,ys,rfl,rfl,ha,hb,hz,q0,q1,q2⟩:=h
 by_cases hx:xs=[]
 ·cases rx
  cases ry
  obtain⟨its,r1,p1,_⟩:=I.tuple ha
  obtain⟨its2,r2,p2,_⟩:=I.tuple hb
  subst hx
  cases r1
  obtain⟨⟨cls,dd,data,sl⟩,ho,hc,n,hd⟩:=id p1
  obtain⟨⟨cls2,dd2,data2,sl2⟩,ho2,hc2,n2,hd2⟩:=id p2
  simp only at hc hd hc2 hd2
  subst hc hd hc2 hd2
  exact concat_meets ⟨_,ho,rfl⟩ ⟨_,ho2,rfl⟩ noFill_tuple_add seq_tuple_add PySem.F.slot_tuple_add PySem.F.entry_tuple_add (PySem.F.args_tuple_add_2 _ _)
   (tuple_addW0 a b #[] its2.toArray n n2 dd dd2 sl sl2 rfl) ⟨ho,ho2,⟨.ref b,H,I,rfl,q0 rfl⟩⟩
 ·exact a9i pins s σ H (.ref a) (.ref b) v u Q I rx ry ⟨a,b,xs,ys,rfl,rfl,ha,hb,hx,hz,q1,λ_=>q2⟩
end
end L2
namespace L2
open PySem PySem.Spec PyProof.Rows
theorem a5Q {X:Cx}{y:Str}{py:Pos}{ix:Nat}{elt tg iter:Expr}{ifs:List Expr}{scope osc:Scope}{pos:Pos}{N:List Str}{k:Nat}{cap:List Nat}{g:TG}{tt:TT}{te:TE}{cl:List (Str×Addr)}
  {pins:List (Addr×Obj)} {σ:St} {H3:Hp} {s3:Shared} {D it:Addr} {fp:List Addr} {tn:Nat->Heap->Prop} {J:It} {Q:St->Hp->Prop} {W:Nat->Nat->St->List V->Hp->Prop} {m0:Nat}
  (hNd:X.N.Nodup) (hix:X.N[ix]? = some y) (hLy:Loc X.env.scope y) (hfy:X.fn y=true∨X.env.scope.names.lookup y=some .local)
  (hc:X.calm=true) (hosc:X.env.scope=osc) (hcap:Caps X.N osc N k cap scope)
  (hcl:∀{x:Str} {c:Addr},cl.lookup x=some c->X.env.cells.lookup x=some c) (hhas:∀x,(x,NameKind.free)∈scope.names->∃c,cl.lookup x=some c)
  (hg:∀cl C ex pins s H,PG (cxC X N scope cl C ex pins s H) tg g)
  (ht:∀cl C ex pins s H,PTs (cxC X N scope cl C ex pins s H) ifs tt)
  (he:∀cl C ex pins s H,PE (cxC X N scope cl C ex pins s H) elt te)
  (I3:Inv X pins σ H3 s3) (hD:H3 D=some (.lst [])) (T:Turn X.prog X.w X.K tg J fp it tn) (st:tn 0 s3.heap) (f3:∀b∈fp,V3 X pins H3 b) (w0:W 0 m0 (J6 k cap σ) [] H3)
  (turn:∀i m σ' acc H',W i m σ' acc H'->(J.stop i H'∧Q (σ.set ix (some (.ref D))) H') ∨
   (J.go i H'∧∀x H2,J.yld i H' x H2->g x σ' H2 λσ2 H3=>tt σ2 H3 λok H4=>if ok=true then te σ2 H4 λy H5=>H5 D=some (.lst acc)∧acc.length<sizeLine∧∃m',m'<m∧W (i+1) m' σ2 (acc++[y]) (upd H5 D (.lst (acc++[y])))
    else H4 D=some (.lst acc)∧∃m',m'<m∧W (i+1) m' σ2 acc H4)) :
  wpAny (model X.prog X.w) X.A (newFunctionEnv scope X.env.globals cl [] X.env.qual none .none (some X.env)) (λcenv s₄ =>
   codeAny (model X.prog X.w) X.A (.compStart (.ListComp elt [⟨tg,iter,ifs,0⟩] scope pos) 0 (.ref it) (.ref D) { cenv with scope:=relabel scope X.env }) (compPost (model X.prog X.w) X.A X.xe (some (assign (.Name y py) X.env)) (λ_ s'=>∃σ' H',Inv X pins σ' H' s'∧Q σ' H') (.ref D) cenv.locals) s₄) X.xe s3:=by
 refine wpAny_newFunctionEnv hcap.nocell (by intro y hy;simp at hy) (λh₁ hns₁ hsb₁=>?_) hcap.kind
 have old:∀b o,s3.heap.get? b=some o->h₁.get? b=some o:=λb o e=>hsb₁.extBut b o (Nat.ne_of_lt (Heap.lt_size e)) (Heap.get?_push_of_some _ e)
 have neC:∀b∈fp,b≠s3.heap.objs.size:=λb hb=>by
  obtain⟨o,e,_⟩:=T.obj _ _ st b hb
  exact Nat.ne_of_lt (Heap.lt_size e)
 have nofs:∀{b:Addr},b≠X.env.locals->b ∉ X.fs->b ∉ frs X.stack:=λ{b} h1 h2 z=>(List.mem_cons.mp (I3.stkSub b z)).elim h1 h2
 have IY:Inv (cxC X N scope cl s3.heap.objs.size fp pins s3 H3) [] (J6 k cap σ) H3 { s3 with heap:=h₁,toks:=s3.toks+([]:List (Str×Value)).length }:=by
  refine⟨⟨I3.ok.mod,hcap.kind,I3.ok.glob,I3.ok.blt,Nat.le_refl _,λx y c h1 h2=>I3.ok.inj x y c (hcl h1) (hcl h2),λx hx=>hhas x (P6 hcap.nocell hx),λx c h=>absurd (show false=true from h) Bool.false_ne_true,I3.ok.hd,I3.ok.frames,.inl rfl,
   λb hb=>⟨neC b hb,λx c e=>(f3 b hb).2.2.2.2.1 x c (hcl e)⟩,I3.bs,Nat.le_trans I3.ok.bsz I3.sz,λb o e hb=>?_,λb hb=>nofs (f3 b hb).2.1 (f3 b hb).2.2.1,I3.stack,I3.stkFree⟩,
   rfl,I3.bare,Un.kept old,⟨_,hns₁,λi x v e1 e2 e3=>?_⟩,λx c e=>?_,I3.hok.fresh (Nat.le_refl _),λx c e=>I3.freeC x c (hcl e),λp hp=>?_,I3.hok.kept old,?_⟩
  ·rcases(f3 b hb).2.2.2.1 with z | z
   ·exact I3.ok.noex b o e z
   ·exact absurd (Nat.lt_of_lt_of_le (Heap.lt_size e) (Nat.le_trans I3.ok.bsz z)) (Nat.lt_irrefl _)
  ·by_cases hi:i<k
   ·unfold J6 at e2
    rw[List.getElem?_append_left (by simpa using hi),List.getElem?_replicate,if_pos hi]at e2
    cases e2
   ·obtain⟨d,rfl⟩:∃d,i=k+d:=⟨i-k,by omega⟩
    unfold J6 at e2
    rw[List.getElem?_append_right (by simp),List.length_replicate,Nat.add_sub_cancel_left,List.getElem?_map]at e2
    obtain⟨j,hj,hv⟩:=Option.map_eq_some_iff.mp e2
    have hσ:σ[j]? = some (some v):=by
     cases q:σ[j]? with
     | none=>rw[q]at hv;cases hv
     | some o=>rw[q]at hv;exact congrArg some hv
    have e1':(N.drop k)[d]? = some x:=by rw[List.getElem?_drop];exact e1
    have hx:X.N[j]? = some x:=by
     have z:=congrArg (λl=>l[d]?) hcap.capx
     simp only[List.getElem?_map,hj,e1',Option.map_some]at z
     exact Option.some.inj z
    have hfr:=hcap.capf x (List.mem_of_getElem? e1')
    have hfm:=PySem.mem_of_lookup hfr
    have hok:=hcap.free _ hfm rfl
    rw[←hosc]at hok
    obtain⟨m,hn,hl⟩:=I3.loc
    obtain⟨u,r,l⟩:=hl j x v hx hσ (.inr hok)
    refine⟨u,r,?_⟩
    rcases l with ⟨hk,_⟩ | ⟨hk,c,hc1,hc2⟩
    ·have hk:X.env.scope.names.lookup x=some .local:=hk
     rcases hok with z | z <;> (rw[hk]at z;cases z)
    ·obtain⟨c',hc'⟩:=hhas x hfm
     have:c'=c:=Option.some.inj ((hcl hc').symm.trans hc1)
     subst this
     exact .inr ⟨N6 hfr,c',hc',hc2.keeps old⟩
  ·obtain⟨v,z⟩:=I3.cell x c (hcl e)
   exact⟨v,z.keeps old⟩
  ·have hp:p∈(X.pn++pins)++[]:=hp
   rw[List.append_nil]at hp
   obtain⟨a1,a2,a3,a4,a5⟩:=I3.pin p hp
   exact⟨old _ _ a1,a2,Nat.ne_of_lt (Heap.lt_size a1),nofs a3 a4,a5⟩
  ·show(J6 k cap σ).length=N.length
   unfold J6
   rw[List.length_append,List.length_replicate,List.length_map,hcap.len]
 have stat:∀{H':Hp},(∀b∈fp,H' b=none)->∀b∈fp,V3 (cxC X N scope cl s3.heap.objs.size fp pins s3 H3) [] H' b:=λ{H'} hn b hb=>by
  obtain⟨a0,a1,a2,a3,a4,a5⟩:=f3 b hb
  refine⟨hn b hb,neC b hb,nofs a1 a2,.inl hb,λx c e=>a4 x c (hcl e),λp hp=>a5 p ?_⟩
  have hp:p∈(X.pn++pins)++[]:=hp
  rwa [List.append_nil]at hp
 have loop:codeAny (model X.prog X.w) X.A (.compLoop (.ListComp elt [⟨tg,iter,ifs,0⟩] scope pos) 0 (.ref it) (.ref D) (compEnvC scope cl s3.heap.objs.size X.env))
   (compPost (model X.prog X.w) X.A X.xe (some (assign (.Name y py) X.env)) (λ_ s'=>∃σ' H',Inv X pins σ' H' s'∧Q σ' H') (.ref D) s3.heap.objs.size) { s3 with heap:=h₁,toks:=s3.toks+([]:List (Str×Value)).length }:=by
  refine Z3 (λn s'=>∃i σ' acc H',Inv (cxC X N scope cl s3.heap.objs.size fp pins s3 H3) [] σ' H' s'∧tn i s'.heap∧(∀b∈fp,H' b=none)∧H' D=some (.lst acc)∧W i n σ' acc H') ?_ m0
   ⟨0,_,[],H3,IY,T.keep _ _ _ st λb _ o e=>old b o e,λb hb=>(f3 b hb).1,hD,w0⟩
  rintro n s5 ⟨i,σ5,acc,H5,I5,st5,fr5,hD5,w5⟩
  rcases turn i n σ5 acc H5 w5 with ⟨stop,q⟩ | ⟨go,step⟩
  ·refine thn (T.done (cxC X N scope cl s3.heap.objs.size fp pins s3 H3) rfl rfl rfl hc i [] s5 σ5 H5 _ I5 (stat fr5) st5 stop) λr s6 ⟨hr,I6⟩=>?_
   subst hr
   obtain⟨m,hn,_⟩:=id I6.loc
   have I7:Inv X pins σ H5 s6:=I3.call' I6.os I6.base I6.hok I6.bare λb hb=>by
    obtain⟨a0,a1,a2,a3,a4,a5⟩:=f3 b hb
    exact⟨a3,a1,a4,a5⟩
   obtain⟨g0,g1,g2,g3,g4,g5⟩:=I3.fpOk (H':=H5) (b:=s3.heap.objs.size) (Nat.le_refl _) I6.free
   obtain⟨o,es,ep,ho,hdat,rest⟩:=id hn
   have I7p:Inv X (pins++[(s3.heap.objs.size,o)]) σ H5 s6:=I7.pins_of λp hp=>by
    rcases List.mem_append.mp hp with z | z
    ·exact I7.pin p (List.mem_append_right _ z)
    ·rw[List.mem_singleton.mp z]
     exact⟨ho,g0,g1,g2,λv z=>by have z':o.data = .cell v:=z;rw[hdat]at z';cases z'⟩
   show wpAny (model X.prog X.w) X.A (assign (.Name y py) X.env (.ref D)) _ _ s6
   refine wpAny_assign_Name (D1 I7p hNd hix hLy (v:=.ref D) rfl (λs7 I8=>?_) hfy)
   have hC7:=(I8.pin (s3.heap.objs.size,o) (List.mem_append_right _ (List.mem_append_right _ (List.mem_singleton.mpr rfl)))).1
   refine⟨m,⟨o,es,ep,hC7,hdat,rest⟩,λh' hsb=>?_⟩
   exact⟨_,H5,I8.unpinned.turned (t':=s7.toks) (λb o hb e=>(hsb.2 b hb).trans e) g0 g1 g3 g4 g5,q⟩
  ·refine thn (T.item (cxC X N scope cl s3.heap.objs.size fp pins s3 H3) rfl rfl rfl hc i [] s5 σ5 H5 _ I5 (stat fr5) st5 go) λr s6 ⟨u,hr,h6⟩=>?_
   subst hr
   refine thn h6 λ_ s7 ⟨x,H7,I7,r7,y7,st7,fr7⟩=>?_
   have I7':=I7.pinned (stat fr7) (T.obj _ _ st7)
   have keepI:∀{s':Shared} {σ':St} {H':Hp},Inv (cxC X N scope cl s3.heap.objs.size fp pins s3 H3) ([]++S5 fp s7.heap) σ' H' s'->tn (i+1) s'.heap∧∀b∈fp,H' b=none:=λ{s' σ' H'} I'=>by
    refine⟨T.keep _ _ _ st7 λb hb o e=>(I'.pin (b,o) (List.mem_append_right _ (List.mem_append_right _ (v5 hb e)))).1,λb hb=>?_⟩
    obtain⟨o,e,d⟩:=T.obj _ _ st7 b hb
    exact(I'.pin (b,o) (List.mem_append_right _ (List.mem_append_right _ (v5 hb e)))).2.1
   refine thn (hg _ _ _ _ _ _ _ s7 σ5 H7 x u _ I7' r7 (step x H7 y7)) λ_ s8 ⟨σ8,H8,I8,q8⟩=>?_
   refine thn (ht _ _ _ _ _ _ _ s8 σ8 H8 _ I8 q8) λok s9 ⟨H9,I9,q9⟩=>?_
   cases ok with
   | false =>
    have q9:H9 D=some (.lst acc)∧∃m',m'<n∧W (i+1) m' σ8 acc H9:=q9
    obtain⟨hD9,m',hm,w9⟩:=q9
    obtain⟨k1,k2⟩:=keepI I9
    exact⟨m',hm,i+1,σ8,acc,H9,I9.unpinned,k1,k2,hD9,w9⟩
   | true =>
    refine thn (he _ _ _ _ _ _ _ s9 σ8 H9 _ I9 q9) λyv s10 ⟨y,H10,I10,r10,hD10,hz,m',hm,w10⟩=>?_
    refine thn (T2 (X:=cxC X N scope cl s3.heap.objs.size fp pins s3 H3) _ s10 σ8 H10 (.ref D) [y] (.ref D) [yv] (λ_ H'=>H'=upd H10 D (.lst (acc++[y]))) I10 rfl (.cons r10 .nil) ⟨D,acc,y,rfl,rfl,hD10,hz,rfl⟩)
     λ_ s11 ⟨_,H11,I11,_,e11⟩=>?_
    subst e11
    obtain⟨k1,k2⟩:=keepI I11
    exact⟨m',hm,i+1,σ8,acc++[y],_,I11.unpinned,k1,k2,g6,w10⟩
 exact codeAny_compStart_list loop (T.self X.A 0 _ _ _ (T.keep _ _ _ st λb _ o e=>old b o e) loop)
theorem a72 {X:Cx}{y:Str}{py spos:Pos}{ix:Nat}{elt tg iter:Expr}{ifs:List Expr}{scope osc:Scope}{pos:Pos}{N:List Str}{k:Nat}{cap:List Nat}{wi:TI}{g:TG}{tt:TT}{te:TE}
  (hNd:X.N.Nodup) (hix:X.N[ix]? = some y) (hLy:Loc X.env.scope y)
  (hc:X.calm=true) (hosc:X.env.scope=osc) (hcap:Caps X.N osc N k cap scope) (hi:PI X tg iter wi)
  (hg:∀cl C ex pins s H,PG (cxC X N scope cl C ex pins s H) tg g)
  (ht:∀cl C ex pins s H,PTs (cxC X N scope cl C ex pins s H) ifs tt)
  (he:∀cl C ex pins s H,PE (cxC X N scope cl C ex pins s H) elt te)
  (hs:∀x,foldedSetIterable iter X.env x=pure x:=by intro _;rfl) (hfy:X.fn y=true∨X.env.scope.names.lookup y=some .local:=by first | exact .inl rfl | exact .inr rfl | assumption)
  (hsw:swapsWith (.ListComp elt [⟨tg,iter,ifs,0⟩] scope pos) (some (.Name y py)) spos.line X.env=pure true:=by rfl) :
  PS X (.Assign [.Name y py] (.ListComp elt [⟨tg,iter,ifs,0⟩] scope pos) spos) (a0Q (tLC wi k cap g tt te) (P3 ix)):=by
 intro pins s σ H D0 I h
 have hcell:∀y∈scope.names,y.2 = .free->∃c,X.env.cells.lookup y.1=some c:=λy hy hk=>I.ok.has y.1 (by
  show X.env.scope.names.lookup y.1=_∨X.env.scope.names.lookup y.1=_
  rw[hosc];exact hcap.free y hy hk)
 let f:Str->Addr:=λx=>(X.env.cells.lookup x).getD 0
 have hf:∀y∈scope.names,y.2 = .free->X.env.cells.lookup y.1=some (f y.1):=λy hy hk=>by
  obtain⟨c,e⟩:=hcell y hy hk
  show _=some ((X.env.cells.lookup y.1).getD 0)
  rw[e];rfl
 have hclos:closureFor scope X.env=pure (z3 f scope.names []):=A9 λy hy hk=>by
  unfold cellOf
  rw[hf y hy hk]
 have hcl:∀{x:Str} {c:Addr},(z3 f scope.names []).lookup x=some c->X.env.cells.lookup x=some c:=λ{x c} e=>by
  rcases D5 _ _ e with ⟨h1,h2⟩ | h1
  ·rw[h2];exact hf (x,.free) h1 rfl
  ·simp at h1
 have hhas:∀x,(x,NameKind.free)∈scope.names->∃c,(z3 f scope.names []).lookup x=some c:=λx hx=>⟨_,M6 _ _ (.inl hx)⟩
 generalize z3 f scope.names []=cl at hclos hcl hhas
 rw[exec_Assign_Name_used _ _ _ _ hsw]
 refine wpAny_bind (wpAny_standAt (wpAny_bind ?_))
 show wpAny _ X.A (do let _ ←comprehension (.ListComp elt [⟨tg,iter,ifs,0⟩] scope pos) scope X.env _ (newList []) false (eval iter X.env) (some (assign (.Name y py) X.env))) _ _ s
 refine wpAny_bind (wpAny_mono (wpAny_comprehension_free (use:=some (assign (.Name y py) X.env)) (cl:=cl) (Q:=λ_ s'=>∃σ' H',Inv X pins σ' H' s'∧D0.nx σ' H') rfl hs hclos hcap.kind hcap.loc ?_) (λ_ s' hq=>wpAny_pure (wpAny_pure hq)) λ_ _ e=>e)
 refine thn (hi pins s σ H _ I h) λv s1 h1=>thn h1 λitv s2 h2=>?_
 obtain⟨it,fp,tn,J,H2,e,I2,T,st2,f2,q2⟩:=h2
 subst e
 obtain⟨W,⟨m0,w0⟩,turn⟩:=q2 s2.heap.objs.size (I2.hok.fresh (Nat.le_refl _))
 refine wpAny_newObj_type ?_
 have I3:Inv X pins σ (upd H2 s2.heap.objs.size (.lst [])) { s2 with heap:=s2.heap.push { cls:=.type "list",data:=.seq ([]:List Value).toArray } }:=I2.lnew (ys:=[]) (its:=[]) (t':=s2.toks) .nil (Nat.zero_le _)
 have lt2:∀b∈fp,b≠s2.heap.objs.size:=λb hb=>by
  obtain⟨o,e,_⟩:=T.obj _ _ st2 b hb
  exact Nat.ne_of_lt (Heap.lt_size e)
 exact a5Q hNd hix hLy hfy hc hosc hcap hcl hhas hg ht he I3 g6 T (T.keep _ _ (s2.heap.push { cls:=.type "list",data:=.seq ([]:List Value).toArray }) st2 λb _ o e=>Heap.get?_push_of_some _ e) (λb hb=>⟨by rw[d8 (lt2 b hb)];exact(f2 b hb).1,(f2 b hb).2⟩) w0 turn
end L2
namespace L2
open PySem PySem.Spec PyProof.Rows
section
variable {X:Cx}{K:PySem.W.Frag}
noncomputable def a92 (K:PySem.W.Frag):List V->Hp->VK->Prop:=λxs H Q=>∃(a:Addr) (ns:List Int),xs=[.ref a]∧SqL K H a (ns.map V.int)∧ns.length<64 ∧
 ∀(p:Addr) (ns':List Int),H p=none->ns'.Perm ns->ns'.Pairwise (· ≤ ·)->Q (.ref p) (upd H p (.lst (ns'.map V.int)))
theorem a3Z (hK:X.K=K):A3 X (.builtin "sorted") (a92 K):=by
 subst hK
 intro pins s σ H xs us Q I r h
 obtain⟨a,ns,rfl,hq,h64,q⟩:=h
 obtain⟨u,rfl,ru⟩:=U5 r
 cases ru
 obtain⟨its,rv,p,hz⟩:=I.list hq
 have hi:=a1U rv
 have hlen:its.length=ns.length:=by rw[←rv.length,List.length_map]
 refine PyProof.Rows.sorted_ints p.isList hi (by omega) λout ns' a1 a2 a3=>?_
 obtain⟨e,he⟩:=sortedAll_at s.heap its out
 have I1:Inv X pins σ (upd H (s.heap.objs.size+1) (.lst (ns'.map V.int))) { s with heap:=sortedAll s.heap its out,toks:=s.toks } :=
  I.laid (a:=s.heap.objs.size+1) (λb o ho=>sortedAll_old ho) (Nat.le_succ _) ⟨by rw[List.length_map,a2.length_eq,←List.length_map (f:=V.int)];exact hz,out.toList,e,a0r a1,by rw[he]⟩
 exact⟨.ref (s.heap.objs.size+1),_,I1,rfl,q _ ns' (I.hok.fresh (Nat.le_succ _)) a2 a3⟩
noncomputable def b1U (ta:TA):TE:=λσ H Q=>ta σ H λvs H1=>∃j:Int,vs=[.int j]∧∀p,H1 p=none->Q (.ref p) (upd H1 p (.rng 0 j))
theorem a6A {a:Expr}{ta:TA}{p pos:Pos}(hg:Gl X "range")(hm:X.mg "range" = none)(ha:PA X [a] ta)(hs:starEach [a] X.env=[(false,eval a X.env)]:=by rfl):PE X (.Call (.Name "range" p) [a] [] pos) (b1U ta):=by
 intro pins s σ H Q I h
 refine Call_ (U8 I hg hm boot_range (PyProof.Rows.callWith_type1 (thn (ha pos pins s σ H _ I h) λus s1 ⟨vs,H1,I1,r1,q1⟩=>?_) hs rfl))
 obtain⟨j,e,q⟩:=q1
 subst e
 cases r1 with
 | cons r rr =>
  cases rr
  obtain⟨t,rfl⟩:=r
  refine call_range_1 ?_
  exact⟨.ref s1.heap.objs.size,_,I1.laid (a:=s1.heap.objs.size) (o:=.rng 0 j) (λb o e=>Heap.get?_push_of_some _ e) (Nat.le_refl _) ⟨_,_,_,Heap.get?_push_size _ rfl⟩,rfl,q _ (I1.hok.fresh (Nat.le_refl _))⟩
theorem K5:∀{xs:List V} {us:List Value},xs.length=us.length->(∀(i:Nat) x u,xs[i]? = some x->us[i]? = some u->p8 x u)->j3 xs us
 | [],[],_,_=>.nil
 | [],_::_,e,_=>by simp at e
 | _::_,[],e,_=>by simp at e
 | x::xs,u::us,e,h=>.cons (h 0 x u rfl rfl) (K5 (by simpa using e) λi y v h1 h2=>h (i+1) y v (by simpa using h1) (by simpa using h2))
end
end L2
namespace L2
open PySem PySem.Spec PyProof.Rows
section
variable {X:Cx}{K:PySem.W.Frag}
end
end L2
namespace L2
open PySem PySem.Spec PyProof.Rows
section
variable {X:Cx}{K:PySem.W.Frag}
end
end L2
namespace L2
open PySem PySem.Spec PyProof.Rows
section
variable {X:Cx}{K:PySem.W.Frag}
noncomputable def b2C (K:PySem.W.Frag):List V->Hp->VK->Prop:=λxs H Q=>∃(a:Addr) (ns:List Int),xs=[.ref a]∧SqT K H a (ns.map V.int)∧ns≠[]∧∀m,m∈ns->(∀n∈ns,m≤n)->Q (.int m) H
theorem a6s (hK:X.K=K)(hc:X.calm=true):A3 X (.builtin "min") (b2C K):=by
 subst hK
 intro pins s σ H xs us Q I r h
 obtain⟨a,ns,rfl,hq,hne,q⟩:=h
 obtain⟨u,rfl,ru⟩:=U5 r
 cases ru
 obtain⟨its,rv,p,hz⟩:=I.tuple hq
 have hlen:its.length=ns.length:=by rw[←rv.length,List.length_map]
 have hpos:0<ns.length:=List.length_pos_iff.mpr hne
 have p':s.heap.IsTuple a its.toArray:=p
 have hlt:a<s.heap.objs.size:=by obtain⟨o,e,_⟩:=p;exact Heap.lt_size e
 have hval:∀(i:Nat) (v:Value),its.toArray[i]? = some v->∃t,v = .int (ns.getD i 0) t:=λi v hv=>by
  have hv:its[i]? = some v:=by simpa using hv
  obtain⟨hi,_⟩:=List.getElem?_eq_some_iff.mp hv
  have hb:(ns.map V.int)[i]? = some (V.int (ns.getD i 0)):=by
   rw[List.getElem?_map,List.getElem?_eq_getElem (by omega)]
   simp[List.getD,List.getElem?_eq_getElem (show i<ns.length by omega)]
  obtain⟨u,hu,ru⟩:=rv.get hb
  rw[hv]at hu
  cases hu
  exact ru
 refine call_min_walk (wpAny_pyIter_tuple p' ?_)
 have hne':a≠s.heap.objs.size:=Nat.ne_of_lt hlt
 refine⟨_,_,_,_,_,_,_,rfl,Walks.tuple (A:=X.A.in1) (I.ok.hd hc) _ a hne' its.toArray,⟨⟨_,Heap.get?_push_size _ rfl,rfl,rfl⟩,?_⟩,?_,?_,CmpOf.ints_lt (λi=>ns.getD i 0) hval,λv h' tk hP hk=>?_⟩
 ·exact p'.at λo e=>Heap.get?_push_of_some _ e
 ·intro b hb
  rw[Heap.size_push]
  have:b=s.heap.objs.size∨b=a:=by simpa using hb
  rcases this with e | e
  ·rw[e];exact Nat.lt_succ_self _
  ·rw[e];exact Nat.lt_succ_of_lt hlt
 ·rw[List.size_toArray,hlen];exact hpos
 ·obtain⟨h1,h2⟩:=argBest_lt (λi=>ns.getD i 0) (its.toArray.size-1)
  obtain⟨t,rfl⟩:=hval _ v hP
  have hsz:its.toArray.size=ns.length:=by rw[List.size_toArray,hlen]
  refine⟨.int _,H,I.kept λb o e=>hk b o (by simp;exact Nat.ne_of_lt (Heap.lt_size e)) (Heap.get?_push_of_some _ e),⟨t,rfl⟩,q _ ?_ λn hn=>?_⟩
  ·exact getD_mem (by omega)
  ·obtain⟨j,hj,rfl⟩:=mem_getD hn
   exact h2 j (by omega)
end
end L2
namespace L2
open PySem PyProof.Rows
theorem a2D {prog:Program}{w:World}{A:Around}{E:Value->Shared->Prop}{s:Shared}{a b:Bool}{Q:Value->Shared->Prop}(h:Q (.bool (decide ((if a then(1:Int) else 0)<if b then 1 else 0))) s) :
  wpAny (model prog w) A (call (.builtin "int.__lt__") [.bool a,.bool b]) Q E s:=by
 refine wpAny_call_entry PySem.F.slot_bool_lt (T:="bool") rfl entry_int_lt ?_ (args_int_lt _ _)
 show wpAny _ _ (ret (.bool (decide ((if a then(1:Int) else 0)<if b then 1 else 0)))) _ _ s
 exact wpAny_pure ⟨_,rfl,h⟩
theorem a49 {prog:Program}{w:World}{A:Around}{E:Value->Shared->Prop}{s:Shared}{a b:Bool}{Q:Bool->Shared->Prop}(h:Q (decide ((if a then(1:Int) else 0)<if b then 1 else 0)) s):wpAny (model prog w) A (oneLt' true (.bool a) (.bool b)) Q E s:=by
 rw[oneLt'_eq]
 simp only[if_true]
 refine wpAny_bind (wpAny_cRoomFor_byValue rfl ?_)
 refine wpAny_bind (wpAny_callSpecialIfBound?_slot (T:="bool") rfl PySem.F.slot_bool_lt (a2D ?_))
 exact wpAny_truthy_bool h
noncomputable def Lx (κ:Nat->Int)(i j:Nat):Prop:=κ i < κ j∨(κ i = κ j∧i<j)
structure SB (kd:SortKind) (a0:Array Keyed) (st:SortSt):Prop where
 size:(arrOf st).size=a0.size
 kind:kindOf st=kd
 failed:failedOf st=none
 pend:pendingOf st = #[]
theorem SB.setArr {kd:SortKind}{a0:Array Keyed}{st:SortSt}(h:SB kd a0 st){xs:Array Keyed}(hp:xs.size=(arrOf st).size):SB kd a0 (PyProof.Rows.setArr st xs):=⟨hp.trans h.size,h.kind,h.failed,h.pend⟩
structure SG (kd:SortKind) (a0:Array Keyed) (st:SortSt) (p:Nat->Nat):Prop where
 base:SB kd a0 st
 inj:∀i j,i<a0.size->j<a0.size->p i=p j->i=j
 at_:∀i,i<a0.size->(arrOf st)[i]? = a0[p i]?
 lt:∀i,i<a0.size->p i<a0.size
noncomputable def a1A (prog:Program)(w:World)(A:Around)(s:Shared)(kd:SortKind)(a0:Array Keyed)(κ:Nat->Int):Prop :=
 ∀(i j:Nat) (x y:Keyed),i≠j->a0[i]? = some x->a0[j]? = some y->∀(E:Value->Shared->Prop) (Q:Bool->Shared->Prop),Q (decide (κ i < κ j)) s->wpAny (model prog w) A (keyLt' kd x.1 y.1) Q E s
noncomputable def SoK (κ:Nat->Int)(p:Nat->Nat)(n:Nat):Prop:=∀i j,i≤j->j<n->κ (p i) ≤ κ (p j)
noncomputable def SoS (κ:Nat->Int)(p:Nat->Nat)(n:Nat):Prop:=(∀i j,i<j->j<n->Lx κ (p i) (p j))∧(∀i,n≤i->p i=i)∧∀i,i<n->p i<n
theorem SoS.sorted {κ:Nat->Int}{p:Nat->Nat}{n:Nat}(h:SoS κ p n):SoK κ p n:=by
 intro i j hij hj
 by_cases e:i=j
 ·subst e;exact Int.le_refl _
 ·rcases h.1 i j (by omega) hj with q | q
  ·exact Int.le_of_lt q
  ·exact Int.le_of_eq q.1
theorem SoS.more {κ:Nat->Int}{p:Nat->Nat}{n m:Nat}(h:SoS κ p n)(hnm:n≤m)(hs:SoK κ p m):SoS κ p m:=by
 refine⟨λi j hij hj=>?_,λi hi=>h.2.1 i (by omega),λi hi=>?_⟩
 ·by_cases hjn:j<n
  ·exact h.1 i j hij hjn
  ·have q:=hs i j (by omega) hj
   have ej:=h.2.1 j (by omega)
   rcases Int.lt_or_eq_of_le q with q | q
   ·exact .inl q
   ·refine .inr ⟨q,?_⟩
    rw[ej]
    by_cases hin:i<n
    ·have:=h.2.2 i hin;omega
    ·rw[h.2.1 i (by omega)];exact hij
 ·by_cases hin:i<n
  ·have:=h.2.2 i hin;omega
  ·rw[h.2.1 i (by omega)];exact hi
section
variable {prog:Program}{w:World}{A:Around}{E:Value->Shared->Prop}{s:Shared}{a0:Array Keyed}{κ:Nat->Int}{kd:SortKind}
theorem a46 {st:SortSt}{p:Nat->Nat}{i j:Nat}{Q:Option Bool->SortSt->Prop}(g:SG kd a0 st p)(hL:a1A prog w A s kd a0 κ)(hi:i<a0.size)(hj:j<a0.size)(hij:i≠j)
  (h:Q (some (decide (κ (p i) < κ (p j)))) st):wpS (model prog w) A E s (ltAt' i j) Q st:=by
 have e1:=g.at_ i hi
 have e2:=g.at_ j hj
 have l1:=g.lt i hi
 have l2:=g.lt j hj
 have f1:a0[p i]? = some a0[p i]:=getElem?_pos a0 (p i) l1
 have f2:a0[p j]? = some a0[p j]:=getElem?_pos a0 (p j) l2
 rw[ltAt'_eq]
 refine wpS_bind (wpS_get ?_)
 show wpS _ _ _ _ (do let x ←elem' (arrOf st) i;let y ←elem' (arrOf st) j;lt' x y) Q st
 rw[elem'_eq,elem'_eq,e1,e2,f1,f2]
 refine wpS_bind (wpS_pure (wpS_bind (wpS_pure ?_)))
 rw[lt'_eq]
 refine wpS_bind (wpS_get ?_)
 rw[g.base.kind]
 refine wpS_bind (wpS_lift (wpAny_attempt (hL _ _ _ _ (λz=>hij (g.inj i j hi hj z)) f1 f2 _ _ ?_)))
 exact⟨rfl,wpS_pure h⟩
theorem SG.bub {st:SortSt}{p:Nat->Nat}(g:SG kd a0 st p){k l:Nat}(hk:k<a0.size)(hl:l≤k) :
  SG kd a0 (setArr st (bubble (arrOf st) k (k-l))) (λi=>if i=l then p k else if l<i∧i≤k then p (i-1) else p i):=by
 refine⟨g.base.setArr (bubble_size _ _ _),λi j hi hj e=>?_,λi hi=>?_,λi hi=>?_⟩
 ·have q:=g.inj
  try dsimp only at e
  repeat' split at e
  all_goals first
   | omega
   | (have:=q _ _ (by omega) (by omega) e;omega)
 ·have e:=getElem?_bubble (xs:=arrOf st) (src:=k) (by rw[g.base.size];exact hk) (k-l) (by omega) i
  rw[show k-(k-l)=l by omega]at e
  show(bubble (arrOf st) k (k-l))[i]? = _
  rw[e]
  repeat' split
  ·exact g.at_ _ hk
  ·exact g.at_ _ (by omega)
  ·exact g.at_ _ hi
 ·try dsimp only
  repeat' split
  ·exact g.lt _ hk
  ·exact g.lt _ (by omega)
  ·exact g.lt _ hi
theorem SG.mir {st:SortSt}{p:Nat->Nat}(g:SG kd a0 st p){u v:Nat}(hv:v≤a0.size) :
  SG kd a0 (setArr st (mirror (arrOf st) u v ((v-u) / 2))) (λi=>if u≤i∧i<v then p (u+v-1-i) else p i):=by
 refine⟨g.base.setArr (mirror_size _ _ _ _),λi j hi hj e=>?_,λi hi=>?_,λi hi=>?_⟩
 ·have q:=g.inj
  try dsimp only at e
  repeat' split at e
  all_goals first
   | omega
   | (have:=q _ _ (by omega) (by omega) e;omega)
 ·have e:=getElem?_mirror_all (xs:=arrOf st) (i:=u) (j:=v) (by rw[g.base.size];exact hv) i
  show(mirror (arrOf st) u v ((v-u) / 2))[i]? = _
  rw[e]
  repeat' split
  ·exact g.at_ _ (by omega)
  ·exact g.at_ _ hi
 ·try dsimp only
  split
  ·exact g.lt _ (by omega)
  ·exact g.lt _ hi
theorem a63 {st:SortSt}{p:Nat->Nat}{n ok:Nat}{Q:Bool->SortSt->Prop}(hL:a1A prog w A s kd a0 κ)(hn:n≤a0.size)(hok:ok≤n)(hB:SG kd a0 st p)(hs:SoS κ p ok)
  (h:∀st' p',SG kd a0 st' p'->SoS κ p' n->Q true st'):wpS (model prog w) A E s (binarySort' 0 n ok) Q st:=by
 rw[binarySort'_eq]
 simp only[Nat.zero_add]
 refine wpS_bind (wpS_mono (wpS_forRange (I:=λk c st'=>c=(none,())∧∃p',SG kd a0 st' p'∧SoS κ p' (min k n))
  (Q:=λc st'=>c=(none,())∧∃p',SG kd a0 st' p'∧SoS κ p' n) ?step ?fin ?init) ?post)
 case post =>
  rintro c st' ⟨rfl,p',hB',hs'⟩
  exact wpS_pure (h st' p' hB' hs')
 case init =>
  refine⟨rfl,p,hB,?_⟩
  by_cases h1:ok=0
  ·subst h1
   refine hs.more (by omega) λi j hij hj=>?_
   have:i=j:=by omega
   subst this;exact Int.le_refl _
  ·rw[show min (max ok 1) n=ok by omega];exact hs
 case fin =>
  rintro c st' ⟨hc,p',hB',hs'⟩
  refine⟨hc,p',hB',?_⟩
  rwa [show min (max (max ok 1) n) n=n by omega]at hs'
 case step =>
  rintro k c st' hak hkn ⟨rfl,p',hG',hS'⟩
  rw[show min k n=k by omega]at hS'
  have hk:k<a0.size:=by omega
  have hs':=hS'.sorted
  have hB':=hG'.base
  refine wpS_bind (wpS_mono (wpS_forRange (I:=λx c st''=>st''=st'∧∃l r,c=(none,l,r)∧l≤r∧r≤k∧r-l≤k-x ∧
    (∀i,i<l->κ (p' i) ≤ κ (p' k))∧(∀i,r≤i->i<k->κ (p' k) < κ (p' i)))
   (Q:=λc st''=>st''=st'∧∃l r,c=(none,l,r)∧l≤k ∧
    (∀i,i<l->κ (p' i) ≤ κ (p' k))∧(∀i,l≤i->i<k->κ (p' k) < κ (p' i))) ?istep ?ifin ?iinit) ?ipost)
  case iinit=>exact⟨rfl,0,k,rfl,by omega,by omega,by omega,λi hi=>by omega,λi h1 h2=>by omega⟩
  case ifin =>
   rintro c st'' ⟨rfl,l,r,rfl,hlr,hrk,hm,hlo,hhi⟩
   have:l=r:=by omega
   subst this
   exact⟨rfl,l,l,rfl,hrk,hlo,hhi⟩
  case istep =>
   rintro x c st'' _ hxk ⟨rfl,l,r,rfl,hlr,hrk,hm,hlo,hhi⟩
   dsimp only
   by_cases hge:l ≥ r
   ·rw[if_pos hge]
    have:l=r:=by omega
    subst this
    exact wpS_pure ⟨rfl,l,l,rfl,hrk,hlo,hhi⟩
   ·rw[if_neg hge]
    refine wpS_bind (a46 hG' hL hk (by omega) (by omega) ?_)
    by_cases hless:κ (p' k) < κ (p' ((l+r) / 2))
    ·simp only[hless,decide_true,if_true]
     refine wpS_pure ⟨rfl,l,(l+r) / 2,rfl,by omega,by omega,by omega,hlo,λi h1 h2=>?_⟩
     exact Int.lt_of_lt_of_le hless (hs' _ _ h1 h2)
    ·simp only[hless,decide_false,Bool.false_eq_true,if_false]
     refine wpS_pure ⟨rfl,(l+r) / 2+1,r,rfl,by omega,by omega,by omega,λi h1=>?_,hhi⟩
     exact Int.le_trans (hs' i ((l+r) / 2) (by omega) (by omega)) (Int.not_lt.mp hless)
  case ipost =>
   rintro c st'' ⟨rfl,l,r,rfl,hlk,hlo,hhi⟩
   show wpS _ _ _ _ (do moveDown' k l;pure (ForInStep.yield (none,()))) _ _
   rw[moveDown'_eq]
   refine wpS_bind (wpS_modify (wpS_pure ⟨rfl,_,hG'.bub hk hlk,?_⟩))
   rw[show min (k+1) n=k+1 by omega]
   have ek:=hS'.2.1 k (Nat.le_refl _)
   have lo':∀i,i<l->Lx κ (p' i) (p' k):=λi hi=>by
    have q:=hlo i hi
    rcases Int.lt_or_eq_of_le q with q | q
    ·exact .inl q
    ·refine .inr ⟨q,?_⟩
     rw[ek];exact hS'.2.2 i (by omega)
   have hi':∀i,l≤i->i<k->Lx κ (p' k) (p' i):=λi h1 h2=>by
    have q:=hhi i h1 h2
    exact .inl q
   refine⟨λi j hij hj=>?_,λi hi=>?_,λi hi=>?_⟩
   ·dsimp only
    repeat' split
    all_goals first
     | (exfalso;omega)
     | exact lo' _ (by omega)
     | exact hi' _ (by omega) (by omega)
     | exact hS'.1 _ _ (by omega) (by omega)
   ·dsimp only
    rw[if_neg (by omega),if_neg (by omega)]
    exact hS'.2.1 i (by omega)
   ·dsimp only
    repeat' split
    ·rw[ek];omega
    ·have:=hS'.2.2 (i-1) (by omega);omega
    ·have:=hS'.2.2 i (by omega);omega
theorem a7v {st:SortSt}{p:Nat->Nat}{a nrem:Nat}{Q:AscSt->SortSt->Prop}(hL:a1A prog w A s kd a0 κ)(hn:nrem≤a0.size)(ha:1≤a)(han:a≤nrem)(hG:SG kd a0 st p)
  (hs:SoK κ p a)
  (h:∀n,a≤n->n≤nrem->SoK κ p n->(n=nrem ∨ κ (p n) < κ (p (n-1)))->Q (none,n) st) :
  wpS (model prog w) A E s (ascLoop a nrem) Q st:=by
 unfold ascLoop
 refine wpS_forRange (I:=λx c st'=>st'=st∧c=(none,x)∧SoK κ p x) ?step ?fin ⟨rfl,rfl,hs⟩
 case fin =>
  rintro c st' ⟨rfl,rfl,hs'⟩
  rw[show max a nrem=nrem by omega]at hs' ⊢
  exact h nrem han (Nat.le_refl _) hs' (.inl rfl)
 case step =>
  rintro x c st' hax hxn ⟨rfl,rfl,hs'⟩
  dsimp only
  refine wpS_bind (a46 hG hL (by omega) (by omega) (by omega) ?_)
  by_cases hless:κ (p x) < κ (p (x-1))
  ·simp only[hless,decide_true,if_true]
   exact wpS_pure (h x hax (by omega) hs' (.inr hless))
  ·simp only[hless,decide_false,Bool.false_eq_true,if_false]
   refine wpS_pure ⟨rfl,rfl,λi j hij hj=>?_⟩
   by_cases hjx:j<x
   ·exact hs' i j hij hjx
   ·have hj':j=x:=by omega
    subst hj'
    by_cases hi':i=j
    ·subst hi';exact Int.le_refl _
    ·exact Int.le_trans (hs' i (j-1) (by omega) (by omega)) (Int.not_lt.mp hless)
noncomputable def DoS (κ:Nat->Int)(p:Nat->Nat)(n:Nat):Prop:=(∀i j,i<j->j<n->Lx κ (p j) (p i))∧(∀i,n≤i->p i=i)∧∀i,i<n->p i<n
theorem a44 {st:SortSt}{p:Nat->Nat}{n nrem:Nat}{Q:Option Nat->SortSt->Prop}(hL:a1A prog w A s kd a0 κ)(hn:nrem≤a0.size)(h1:1≤n)(hnn:n≤nrem)(hB:SG kd a0 st p)
  (hs:DoS κ p n) (h:∀m st' p',SG kd a0 st' p'->1≤m->m≤nrem->SoS κ p' m->Q (some m) st') :
  wpS (model prog w) A E s (tail3 n nrem) Q st:=by
 unfold tail3
 refine wpS_bind (wpS_reverse ?_)
 have hG:=hB.mir (u:=0) (v:=n) (by omega)
 have hS:SoS κ (λi=>if 0≤i∧i<n then p (0+n-1-i) else p i) n:=by
  refine⟨λi j hij hj=>?_,λi hi=>?_,λi hi=>?_⟩
  ·dsimp only
   rw[if_pos (by omega),if_pos (by omega)]
   exact hs.1 _ _ (by omega) (by omega)
  ·dsimp only
   rw[if_neg (by omega)]
   exact hs.2.1 i hi
  ·dsimp only
   rw[if_pos (by omega)]
   exact hs.2.2 _ (by omega)
 exact wpS_bind (a7v hL hn h1 hnn hG hS.sorted λm hm1 hm2 hsm _=>wpS_pure (h m _ _ hG (by omega) hm2 (hS.more hm1 hsm)))
noncomputable def GoS (κ:Nat->Int)(p:Nat->Nat)(g n:Nat):Prop :=
 DoS κ p g∧g<n∧(∀i,g≤i->i<n->κ i = κ (n-1))∧∀i,i<g->κ (n-1) < κ (p i)
theorem GoS.close {st:SortSt}{p:Nat->Nat}{g n:Nat}(hG:SG kd a0 st p)(h:GoS κ p g n)(hn:n≤a0.size):DoS κ (λi=>if g≤i∧i<n then p (g+n-1-i) else p i) n:=by
 obtain⟨hd,hg,he,hl⟩:=h
 refine⟨λi j hij hj=>?_,λi hi=>?_,λi hi=>?_⟩
 ·dsimp only
  by_cases h1:g≤i
  ·rw[if_pos (by omega),if_pos (by omega),hd.2.1 _ (by omega),hd.2.1 _ (by omega)]
   refine .inr ⟨?_,by omega⟩
   rw[he _ (by omega) (by omega),he (g+n-1-i) (by omega) (by omega)]
  ·by_cases h2:g≤j
   ·rw[if_pos (by omega),if_neg (by omega),hd.2.1 _ (by omega)]
    refine .inl ?_
    rw[he _ (by omega) (by omega)]
    exact hl i (by omega)
   ·rw[if_neg (by omega),if_neg (by omega)]
    exact hd.1 i j hij (by omega)
 ·dsimp only
  rw[if_neg (by omega)]
  exact hd.2.1 i (by omega)
 ·dsimp only
  split
  ·rw[hd.2.1 _ (by omega)];omega
  ·have:=hd.2.2 i (by omega);omega
theorem GoS.close1 {p:Nat->Nat}{g n:Nat}(h:GoS κ p g n)(e:n=g+1):DoS κ p n:=by
 obtain⟨hd,hg,he,hl⟩:=h
 subst e
 refine⟨λi j hij hj=>?_,λi hi=>hd.2.1 i (by omega),λi hi=>?_⟩
 ·by_cases h2:j<g
  ·exact hd.1 i j hij h2
  ·have:j=g:=by omega
   subst this
   rw[hd.2.1 j (Nat.le_refl _)]
   exact .inl (hl i hij)
 ·by_cases h2:i<g
  ·have:=hd.2.2 i h2;omega
  ·rw[hd.2.1 i (by omega)];exact hi
theorem a8T {st:SortSt}{p:Nat->Nat}{n nrem:Nat}{Q:DescSt->SortSt->Prop}(hL:a1A prog w A s kd a0 κ)(hn:nrem≤a0.size)(h1:1≤n)(hnn:n≤nrem)(hB:SG kd a0 st p)
  (hs:GoS κ p (n-1) n)
  (h:∀m neq st' p',SG kd a0 st' p'->n≤m->m≤nrem->neq+1≤m->GoS κ p' (m-(neq+1)) m->Q (none,m,neq) st') :
  wpS (model prog w) A E s (descLoop n nrem) Q st:=by
 unfold descLoop
 refine wpS_forRange (I:=λx c st'=>∃neq p',c=(none,x,neq)∧SG kd a0 st' p'∧neq+1≤x∧GoS κ p' (x-(neq+1)) x) ?step ?fin ⟨0,p,rfl,hB,by omega,hs⟩
 case fin =>
  rintro c st' ⟨neq,p',rfl,hG',hq,hS'⟩
  rw[show max n nrem=nrem by omega]at hq hS' ⊢
  exact h nrem neq st' p' hG' hnn (Nat.le_refl _) hq hS'
 case step =>
  rintro x c st' hax hxn ⟨neq,p',rfl,hG',hq,hS'⟩
  dsimp only
  refine wpS_bind (a46 hG' hL (by omega) (by omega) (by omega) ?_)
  have k1:p' x=x:=hS'.1.2.1 x (by omega)
  have k2:p' (x-1)=x-1:=hS'.1.2.1 (x-1) (by omega)
  rw[k1,k2]
  have put:∀{p2:Nat->Nat},κ x < κ (x-1)->DoS κ p2 x->(∀i,i<x->κ (x-1) ≤ κ (p2 i))->GoS κ p2 (x+1-(0+1)) (x+1):=by
   intro p2 hless d ge
   rw[show x+1-(0+1)=x by omega]
   refine⟨d,by omega,λi h1 h2=>?_,λi hi=>?_⟩
   ·rw[show i=x by omega];rfl
   ·exact Int.lt_of_lt_of_le hless (ge i hi)
  have ge0:∀i,i<x->κ (x-1) ≤ κ (p' i):=λi hi=>by
   by_cases hg:i<x-(neq+1)
   ·exact Int.le_of_lt (hS'.2.2.2 i hg)
   ·rw[hS'.1.2.1 i (by omega)]
    exact Int.le_of_eq (hS'.2.2.1 i (by omega) hi).symm
  by_cases hless:κ x < κ (x-1)
  ·simp only[hless,decide_true,if_true]
   by_cases hneq:neq > 0
   ·rw[if_pos hneq]
    have hG2:=hG'.mir (u:=x-(neq+1)) (v:=x) (by omega)
    refine wpS_bind (wpS_reverse (wpS_pure ⟨0,_,rfl,hG2,by omega,put hless (hS'.close hG' (by omega)) λi hi=>?_⟩))
    try dsimp only
    split
    ·exact ge0 _ (by omega)
    ·exact ge0 _ hi
   ·rw[if_neg hneq]
    exact wpS_pure ⟨0,p',rfl,hG',by omega,put hless (hS'.close1 (by omega)) ge0⟩
  ·simp only[hless,decide_false,Bool.false_eq_true,if_false]
   refine wpS_bind (a46 hG' hL (by omega) (by omega) (by omega) ?_)
   rw[k1,k2]
   by_cases hlarger:κ (x-1) < κ x
   ·simp only[hlarger,decide_true,if_true]
    exact wpS_pure (h x neq st' p' hG' hax (by omega) hq hS')
   ·simp only[hlarger,decide_false,Bool.false_eq_true,if_false]
    have heqx:κ x = κ (x-1):=by omega
    refine wpS_pure ⟨neq+1,p',rfl,hG',by omega,?_⟩
    rw[show x+1-(neq+1+1)=x-(neq+1) by omega]
    refine⟨hS'.1,by omega,λi h1 h2=>?_,λi hi=>?_⟩
    ·rw[show x+1-1=x by omega]
     by_cases hix:i=x
     ·subst hix;rfl
     ·rw[heqx];exact hS'.2.2.1 i h1 (by omega)
    ·rw[show x+1-1=x by omega,heqx];exact hS'.2.2.2 i hi
theorem a0x {st:SortSt}{p:Nat->Nat}{n nrem:Nat}{Q:Option Nat->SortSt->Prop}(hL:a1A prog w A s kd a0 κ)(hn:nrem≤a0.size)(hnn:n+1≤nrem)(hB:SG kd a0 st p)
  (hs:GoS κ p n (n+1)) (h:∀m st' p',SG kd a0 st' p'->1≤m->m≤nrem->SoS κ p' m->Q (some m) st') :
  wpS (model prog w) A E s (descPart n nrem) Q st:=by
 unfold descPart
 refine wpS_bind (wpS_lift (wpAny_rule ⟨rfl,?_⟩))
 refine wpS_bind (a8T hL hn (by omega) hnn hB hs λm neq st' p' hG' hm1 hm2 hq hS'=>?_)
 dsimp only
 by_cases hneq:neq > 0
 ·rw[if_pos hneq]
  exact wpS_bind (wpS_reverse (a44 hL hn (by omega) hm2 (hG'.mir (by omega)) (hS'.close hG' (by omega)) h))
 ·rw[if_neg hneq]
  exact a44 hL hn (by omega) hm2 hG' (hS'.close1 (by omega)) h
theorem a8t {st:SortSt}{nrem:Nat}{Q:Option Nat->SortSt->Prop}(hL:a1A prog w A s kd a0 κ)(hn:nrem≤a0.size)(h1:1≤nrem)(hB:SG kd a0 st id)
  (h:∀m st' p',SG kd a0 st' p'->1≤m->m≤nrem->SoS κ p' m->Q (some m) st') :
  wpS (model prog w) A E s (countRun' 0 nrem) Q st:=by
 rw[countRun0_eq]
 have S0:SoS κ id 0:=⟨λi j _ hj=>by omega,λi _=>rfl,λi hi=>by omega⟩
 have one:SoK κ id 1:=λi j hij hj=>by
  have:i=j:=by omega
  subst this;exact Int.le_refl _
 refine wpS_bind (a7v hL hn (Nat.le_refl 1) h1 hB one λn hn1 hn2 hsn hor=>?_)
 dsimp only
 by_cases hnn:n=nrem
 ·rw[if_pos (by simpa using hnn)]
  exact wpS_pure (h n st id hB hn1 hn2 (S0.more (by omega) hsn))
 ·rw[if_neg (by simpa using hnn)]
  have hlt:κ n < κ (n-1):=hor.resolve_left hnn
  by_cases hgt:n > 1
  ·rw[if_pos hgt]
   refine wpS_bind (a46 hB hL (by omega) (by omega) (by omega) ?_)
   simp only[id]
   by_cases hrose:κ 0 < κ (n-1)
   ·simp only[hrose,decide_true,if_true]
    exact wpS_pure (h n st id hB hn1 hn2 (S0.more (by omega) hsn))
   ·simp only[hrose,decide_false,Bool.false_eq_true,if_false]
    have hall:∀j,j<n->κ j = κ (n-1):=by
     intro j hk
     have a1:κ 0 ≤ κ j:=hsn 0 j (by omega) hk
     have a2:κ j ≤ κ (n-1):=hsn j (n-1) (by omega) (by omega)
     omega
    refine wpS_bind (wpS_reverse (a0x hL hn (by omega) (hB.mir (by omega)) ?_ h))
    refine⟨⟨λi j hij hj=>?_,λi hi=>?_,λi hi=>?_⟩,by omega,λi h1 h2=>?_,λi hi=>?_⟩
    ·dsimp only
     rw[if_pos (by omega),if_pos (by omega)]
     refine .inr ⟨?_,by simp only[id];omega⟩
     simp only[id]
     rw[hall _ (by omega),hall (0+n-1-i) (by omega)]
    ·dsimp only
     rw[if_neg (by omega)];rfl
    ·dsimp only
     rw[if_pos (by omega)];simp only[id];omega
    ·rw[show i=n by omega];rfl
    ·dsimp only
     rw[if_pos (by omega)];simp only[id]at hlt ⊢
     rw[hall (0+n-1-i) (by omega),show n+1-1=n by omega]
     exact hlt
  ·rw[if_neg hgt]
   have hn1':n=1:=by omega
   subst hn1'
   refine a0x hL hn (by omega) hB ⟨⟨λi j hij hj=>by omega,λi hi=>rfl,λi hi=>hi⟩,by omega,λi h1 h2=>?_,λi hi=>?_⟩ h
   ·rw[show i=1 by omega]
   ·rw[show i=0 by omega];exact hlt
noncomputable def a4f (κ:Nat->Int)(a0:Array Keyed)(st:SortSt):Prop :=
 failedOf st=none∧pendingOf st = #[(0,a0.size,0)]∧(arrOf st).size=a0.size∧∃p,(∀i,i<a0.size->(arrOf st)[i]? = a0[p i]?)∧SoS κ p a0.size
theorem SG.done {st:SortSt}{p:Nat->Nat}(g:SG kd a0 st p)(h:SoS κ p a0.size):a4f κ a0 (setPending st ((pendingOf st).push (0,a0.size,0))) :=
 ⟨g.base.failed,by show(pendingOf st).push _=_;rw[g.base.pend];rfl,g.base.size,p,g.at_,h⟩
theorem a5v {st:SortSt}{Q:Unit->SortSt->Prop}(hL:a1A prog w A s kd a0 κ)(hB:SG kd a0 st id)(h2:2≤a0.size)(h64:a0.size<64)
  (h:∀st',failedOf st'=none->(arrOf st').size=a0.size->(∃p,(∀i,i<a0.size->(arrOf st')[i]? = a0[p i]?)∧SoS κ p a0.size)->Q () st'):wpS (model prog w) A E s sortRuns' Q st:=by
 rw[sortRuns'_eq]
 refine wpS_bind (wpS_get ?_)
 dsimp only
 have hmr:minRun' a0.size a0.size 0=a0.size:=by
  obtain⟨f,hf⟩:∃f,a0.size=f+1:=⟨a0.size-1,by omega⟩
  have:minRun' (f+1) a0.size 0=a0.size:=by rw[minRun'_succ,if_pos h64];rfl
  rwa [←hf]at this
 simp only[hB.base.size,hmr]
 refine wpS_bind (wpS_mono (wpS_forRange
  (I:=λx c st'=>(x=0∧c=(none,0)∧SG kd a0 st' id)∨(1≤x∧c=(none,a0.size)∧a4f κ a0 st'))
  (Q:=λc st'=>c=(none,a0.size)∧a4f κ a0 st') ?step ?fin (.inl ⟨rfl,rfl,hB⟩)) ?post)
 case fin =>
  rintro c st' (⟨hx,_,_⟩ | ⟨_,hc,hD⟩)
  ·omega
  ·exact⟨hc,hD⟩
 case step =>
  rintro x c st' _ hx (⟨rfl,rfl,hB'⟩ | ⟨hx1,rfl,hD⟩)
  ·dsimp only
   rw[if_neg (by omega)]
   simp only[Nat.sub_zero,Nat.min_self,Nat.zero_add]
   refine wpS_bind (a8t hL (Nat.le_refl _) (by omega) hB' λm st2 p2 hB2 hm1 hm2 hs2=>?_)
   dsimp only
   by_cases hlt:m<a0.size
   ·rw[if_pos hlt]
    refine wpS_bind (wpS_lift (wpAny_rule ⟨rfl,?_⟩))
    refine wpS_bind (a63 hL (Nat.le_refl _) hm2 hB2 hs2 λst3 p3 hB3 hs3=>?_)
    simp only[Bool.not_true,Bool.false_eq_true,if_false]
    refine wpS_bind (wpS_get ?_)
    have hb:(pendingOf st3).back? = none:=by rw[hB3.base.pend];rfl
    rw[hb]
    dsimp only
    exact wpS_bind (wpS_modify (wpS_pure (.inr ⟨by omega,rfl,hB3.done hs3⟩)))
   ·rw[if_neg hlt]
    have hm:m=a0.size:=by omega
    subst hm
    refine wpS_bind (wpS_get ?_)
    have hb:(pendingOf st2).back? = none:=by rw[hB2.base.pend];rfl
    rw[hb]
    dsimp only
    exact wpS_bind (wpS_modify (wpS_pure (.inr ⟨by omega,rfl,hB2.done hs2⟩)))
  ·dsimp only
   rw[if_pos (Nat.le_refl _)]
   exact wpS_pure ⟨rfl,hD⟩
 case post =>
  rintro c st' ⟨rfl,hD⟩
  dsimp only
  refine wpS_bind (wpS_mono (wpS_forRange (I:=λ_ c st''=>st''=st'∧c=(none,())) (Q:=λc st''=>st''=st'∧c=(none,())) ?_ (λ_ _ hh=>hh) ⟨rfl,rfl⟩) ?_)
  ·rintro x c st'' _ _ ⟨rfl,rfl⟩
   refine wpS_bind (wpS_get ?_)
   rw[if_pos (by rw[hD.2.1];exact Nat.le_refl 1)]
   exact wpS_pure ⟨rfl,rfl⟩
  ·rintro c st'' ⟨rfl,rfl⟩
   exact wpS_pure (h _ hD.1 hD.2.2.1 hD.2.2.2)
end
end L2
namespace L2
open PySem PySem.Spec PyProof.Rows PySem.W
noncomputable def cdO (c:Addr)(q:Str):HO:=.ext λh=>h.CodeRec (.ref c) q
noncomputable def a2e (H:Hp)(P:Addr)(q:Str):Prop:=∃ps,H P=some (.tbl ps)∧TriplesOk ps.toList∧∀pos cv,codeAmong pos ps.toList=some cv->∃c,cv = .ref c∧H c=some (cdO c q)
theorem a4g {q p:Pos}{c cv:Value}:∀(l:List Value),TriplesOk l->codeAmong q (l++[rawInt p.line,rawInt p.col,c])=some cv->codeAmong q l=some cv∨cv=c:=by
 intro l h e
 fun_induction TriplesOk l with
 | case1 =>
  simp only[List.nil_append,codeAmong,rawInt]at e
  split at e
  ·exact .inr (Option.some.inj e).symm
  ·cases e
 | case2 a b c' d e' rest ih =>
  simp only[List.cons_append,codeAmong]at e ⊢
  split
  ·rename_i h1
   rw[if_pos h1]at e
   exact .inl e
  ·rename_i h1
   rw[if_neg h1]at e
   exact ih h e
 | case3=>exact h.elim
noncomputable def BMd (base:Heap)(mg:Str->Option Value):Prop:=∃bm ob,mg "__builtins__" = some (.ref bm)∧bm≠builtinsNs∧base.get? bm=some ob∧ob.cls = .type "module" ∧ ob.dict=some builtinsNs∧ob.data = .plain
noncomputable def b0k (P:Addr)(q:Str)(H H':Hp):Prop:=H'=H∨∃ps more c,H P=some (.tbl ps)∧H c=none∧c≠P∧H'=upd (upd H P (.tbl (ps++more))) c (cdO c q)
theorem a7n {c:Addr}{q:Str}:∀h1 h2:Heap,h1.CodeRec (.ref c) q->(∀o,h1.get? c=some o->h2.get? c=some o)->h2.CodeRec (.ref c) q:=λh1 h2 ⟨c',o,vs,t,e,g,r⟩ k=>by
 cases e
 exact⟨c,o,vs,t,rfl,k o g,r⟩
section
variable {X:Cx}{pins:List (Addr×Obj)}{σ:St}{H:Hp}{s:Shared}
theorem Inv.pin1 {a:Addr}{o:Obj}(I:Inv X pins σ H s)(ho:s.heap.get? a=some o)(hH:H a=none)(hL:a≠X.env.locals)(hf:a ∉ X.fs)(hd:∀v,o.data ≠ .cell v):Inv X ((a,o)::pins) σ H s :=
 I.pins_of λp hp=>by
  rcases List.mem_cons.mp hp with rfl | hp
  ·exact⟨ho,hH,hL,hf,hd⟩
  ·exact I.pin p (List.mem_append_right _ hp)
theorem Inv.pinFresh {a:Addr}{o:Obj}{s0:Shared}{pins0:List (Addr×Obj)}{σ0:St}{H0:Hp}(I:Inv X pins σ H s)(I0:Inv X pins0 σ0 H0 s0)(ho:s.heap.get? a=some o)(h:s0.heap.objs.size≤a)(hH:H a=none)(hd:∀v,o.data ≠ .cell v):Inv X ((a,o)::pins) σ H s :=
 I.pin1 ho hH (λe=>absurd (Nat.lt_of_lt_of_le I0.lt h) (by rw[e];exact Nat.lt_irrefl _)) (I0.nofs h) hd
theorem a8d {params:Arguments}{body:Expr}{scope:Scope}{lpos:Pos}{c P:Addr}{q:Str}{cl:List (Str×Addr)}{Q:Value->Shared->Prop}(I:Inv X pins σ H s)(hdef:defaultsOf params X.env=([],[]))(hcl:closureFor scope X.env=pure cl)
  (hcode:X.env.code = .ref c) (C:CodeHd X.base c P) (BM:BMd X.base X.mg) (T:a2e H P q) (hq:X.env.qual ++ "<lambda>" = q)
  (h:∀f c' ctv H' s',b0k P q H H'->a2e H' P q->H' c'=some (cdO c' q)->Inv X ((f,kla_obj "<lambda>" q params body scope cl ((X.mg "__name__").getD .none) c' ctv)::pins) σ H' s'->Q (.ref f) s') :
  wpAny (model X.prog X.w) X.A (eval (.Lambda params body scope lpos) X.env) Q X.xe s:=by
 subst hq
 obtain⟨ps,hP,ht,hall⟩:=T
 have hP':s.heap.get? P=some (tabObj ps):=I.hok P _ hP
 have hg:s.heap.Ns mainGlobals X.mg:=I.mod.glob.keeps I.bk
 obtain⟨bm,ob,b1,b2,b3,b4,b5,b6⟩:=BM
 have hgP:mainGlobals≠P:=λq=>by
  obtain⟨o,es,ep,e,hd,_⟩:=hg
  rw[q,hP']at e;cases e;cases hd
 have hbP:bm≠P:=λq=>by
  have e:=I.bk _ _ b3
  rw[q,hP']at e;cases e;cases b4
 have hbG:bm≠mainGlobals:=λq=>by
  obtain⟨o,es,ep,e,hd,_⟩:=I.mod.glob
  rw[q,e]at b3;cases b3;rw[hd]at b6;cases b6
 have hB:s.heap.BuiltinsAt X.mg P:=⟨bm,ob,b1,b2,hbG,hbP,I.bk _ _ b3,b4,b5,b6⟩
 refine kla_eval hdef ?_
 cases hf:codeAmong lpos ps.toList with
 | some cv =>
  obtain⟨c',rfl,hc'⟩:=hall _ _ hf
  refine kla_makeFunctionHit hcl I.ok.glob hg hcode (C.keeps I.bk) hP' ht hf hB λctv h' tk hk hsz=>?_
  have I1:Inv X pins σ H { s with heap:=h'.push (kla_obj "<lambda>" (X.env.qual ++ "<lambda>") params body scope cl ((X.mg "__name__").getD .none) c' ctv),toks:=tk }:=I.kept λb o e=>Heap.get?_push_of_some _ (hk b o e)
  exact h _ c' ctv H _ (.inl rfl) ⟨ps,hP,ht,hall⟩ hc' (I1.pinFresh I (Heap.get?_push_size _ rfl) hsz (I.hok.fresh hsz) (λv e=>nomatch e))
 | none =>
  refine kla_makeFunction hcl I.ok.glob hg hcode (C.keeps I.bk) hP' ht hf hgP hB λc' ctv h' tk hx hge hlt hrec htb=>?_
  have hcP:c'≠P:=λe=>absurd (Nat.lt_of_lt_of_le (Heap.lt_size hP') hge) (by rw[e];exact Nat.lt_irrefl _)
  have hcn:H c'=none:=I.hok.fresh hge
  have hk:∀b o,b≠P->s.heap.get? b=some o->(h'.push (kla_obj "<lambda>" (X.env.qual ++ "<lambda>") params body scope cl ((X.mg "__name__").getD .none) c' ctv)).get? b=some o:=λb o hb e=>Heap.get?_push_of_some _ (hx b o hb e)
  have hrec':=hrec.push (kla_obj "<lambda>" (X.env.qual ++ "<lambda>") params body scope cl ((X.mg "__name__").getD .none) c' ctv)
  have htb':=Heap.get?_push_of_some (kla_obj "<lambda>" (X.env.qual ++ "<lambda>") params body scope cl ((X.mg "__name__").getD .none) c' ctv) htb
  have hsz:s.heap.objs.size≤h'.objs.size:=Nat.le_trans hge (Nat.le_of_lt hlt)
  generalize hH':upd (upd H P (.tbl (ps ++ #[rawInt lpos.line,rawInt lpos.col,.ref c']))) c' (cdO c' (X.env.qual ++ "<lambda>"))=H'
  have a1:H' c'=some (cdO c' (X.env.qual ++ "<lambda>")):=by rw[←hH'];exact g6
  have a2:H' P=some (.tbl (ps ++ #[rawInt lpos.line,rawInt lpos.col,.ref c'])):=by rw[←hH',d8 hcP.symm];exact g6
  have a3:∀b,b≠c'->b≠P->H' b=H b:=λb h1 h2=>by rw[←hH',d8 h1,d8 h2]
  have ne:∀b o,H b=some o->b≠c':=λb o e z=>by rw[z,hcn]at e;cases e
  generalize hh2:h'.push (kla_obj "<lambda>" (X.env.qual ++ "<lambda>") params body scope cl ((X.mg "__name__").getD .none) c' ctv)=h2 at hk hrec' htb'
  have un:Un X.fs [] H H' s.heap h2:=by
   refine⟨λb o e n _ _=>hk b o (λz=>by rw[z,hP]at n;cases n) e,λb o e n _ _=>⟨o.slots,hk b o (λz=>by rw[z,hP]at n;cases n) e⟩,λb o e n _=>?_,λb o e _=>?_,λb xs e=>?_,λb o u e=>?_,λb qs e=>?_⟩
   ·rw[a3 b (λz=>absurd (Nat.lt_of_lt_of_le (Heap.lt_size e) hge) (by rw[z];exact Nat.lt_irrefl _)) λz=>by rw[z,hP]at n;cases n]
    exact n
   ·by_cases hb:b=P
    ·exact⟨_,by rw[hb];exact htb'⟩
    ·exact⟨o,hk b o hb e⟩
   ·rw[a3 b (ne b _ e) λz=>by rw[z,hP]at e;cases e];exact e
   ·rw[a3 b (ne b _ e) λz=>by rw[z,hP]at e;cases e];exact e
   ·by_cases hb:b=P
    ·subst hb
     rw[hP]at e;cases e
     exact⟨_,a2⟩
    ·exact⟨#[],by rw[a3 b (ne b _ e) hb,e];simp⟩
  have ok:HOk X.prog X.w H' h2:=by
   intro b u e
   by_cases hb:b=c'
   ·subst hb
    rw[a1]at e;cases e
    obtain⟨c2,o,vs,t,e2,g,r⟩:=id hrec'
    cases e2
    exact⟨hrec',⟨o,g⟩,a7n⟩
   ·by_cases hbP':b=P
    ·subst hbP'
     rw[a2]at e;cases e
     exact htb'
    ·rw[a3 b hb hbP']at e
     refine(I.hok b u e).stay (λb2 u2 hc q=>hk b2 u2 ?_ q) (λb2 q=>?_) λb2 xs q=>?_
     ·rcases hc with z | z
      ·rw[z];exact hbP'
      ·intro z2;rw[z2,hP]at z;cases z
     ·rw[a3 b2 (ne b2 _ q) λz=>by rw[z,hP]at q;cases q];exact q
     ·rw[a3 b2 (ne b2 _ q) λz=>by rw[z,hP]at q;cases q];exact q
  have I1:Inv X pins σ H' { s with heap:=h2,toks:=tk }:=I.un un ok
  have hfn:H' h'.objs.size=none:=by
   rw[a3 _ (Nat.ne_of_gt hlt) λz=>absurd (Nat.lt_of_lt_of_le (Heap.lt_size hP') hsz) (by rw[z];exact Nat.lt_irrefl _)]
   exact I.hok.fresh hsz
  refine h _ c' ctv H' _ (.inr ⟨ps,_,c',hP,hcn,hcP,hH'.symm⟩) ⟨_,a2,?_,λpos cv e=>?_⟩ a1 (I1.pinFresh I (by rw[←hh2];exact Heap.get?_push_size _ rfl) hsz hfn (λv e=>nomatch e))
  ·rw[Array.toList_append];exact TriplesOk_snoc _ _ _ _ ht
  ·rw[Array.toList_append]at e
   rcases a4g _ ht e with e | e
   ·obtain⟨c2,r1,r2⟩:=hall _ _ e
    refine⟨c2,r1,?_⟩
    by_cases hb:c2=c'
    ·subst hb;exact a1
    ·rw[a3 c2 hb λz=>by rw[z,hP]at r2;cases r2];exact r2
   ·exact⟨c',e,a1⟩
end
end L2
namespace L2
open PySem PySem.Spec PyProof.Rows PySem.W
noncomputable def cxL (X:Cx)(N:List Str)(q:Str)(scope:Scope)(cl:List (Str×Addr))(f c:Addr)(Y:Around)(s₀:Shared)(H₀:Hp):Cx where
 prog:=X.prog
 w:=X.w
 K:=X.K
 mg:=X.mg
 base:=X.base
 A:=Y.deeper (envX q scope s₀.heap.objs.size f (.ref c) cl)
 N:=N
 s₀:=s₀
 H₀:=H₀
 env:=envX q scope s₀.heap.objs.size f (.ref c) cl
 outer:=X.stack
 stack:=envX q scope s₀.heap.objs.size f (.ref c) cl::X.stack
 ex:=[]
 fn:=λ_=>false
 calm:=true
 pn:=[]
 xe:=λ_ _=>False
structure LamOk (ON:List Str) (osc:Scope) (x:Str) (N:List Str) (cap:List Nat) (scope:Scope):Prop where
 kind:scope.kind = .function
 co:scope.isCoroutine=false
 gen:scope.isGenerator=false
 nocell:∀y∈scope.names,y.2 ≠ .cell
 par:scope.names.lookup x=some .local
 first:N.head? = some x
 free:∀y∈scope.names,y.2 = .free->osc.names.lookup y.1=some .cell∨osc.names.lookup y.1=some .free
 len:N.length=1+cap.length
 capx:(cap.map λj=>ON[j]?)=(N.drop 1).map some
 capf:∀y∈N.drop 1,scope.names.lookup y=some .free
noncomputable def V4 (v:V)(cap:List Nat)(σ:St):St:=some v::cap.map λj=>(σ[j]?).join
section
variable {X:Cx}{pins:List (Addr×Obj)}{σ:St}{H:Hp}{s:Shared}
theorem a7L {Y:Around}{E:Value->Shared->Prop}{params:Arguments}{body:Expr}{scope osc:Scope}{f c:Addr}{q x:Str}{cl:List (Str×Addr)}{pm ctv:Value}{N:List Str}{cap:List Nat}{te:TE}{v:V}{u:Value}{R:VK}
  (I:Inv X pins σ H s) (hY:Y.frames=some X.stack) (hd:Y.handled=none) (hdp:Y.depth<recursionLimit)
  (hf:(f,kla_obj "<lambda>" q params body scope cl pm c ctv)∈X.pn++pins) (hc:H c=some (cdO c q)) (hosc:X.env.scope=osc) (L:LamOk X.N osc x N cap scope)
  (hcl:∀{x:Str} {c:Addr},cl.lookup x=some c->X.env.cells.lookup x=some c) (hhas:∀x,(x,NameKind.free)∈scope.names->∃c,cl.lookup x=some c)
  (hbind:bindArgs (kla_fn "<lambda>" q params body scope cl pm (.ref c) ctv) ⟨[u],[]⟩=pure [(x,u)])
  (he:∀s H,PE (cxL X N q scope cl f c Y s H) body te) (ru:p8 v u) (h:te (V4 v cap σ) H R) :
  wpAny (model X.prog X.w) Y (call (.ref f) [u]) (EP X pins σ R) E s:=by
 obtain⟨p1,p2,p3,p4,p5⟩:=I.pin _ hf
 obtain⟨hrec,_,_⟩:=I.hok c _ hc
 refine wpAny_call (kla_callFunE hdp p1 rfl L.co L.gen rfl hrec ?_)
 rw[hbind]
 refine wpAny_pure (wpAny_newFunctionEnv L.nocell (λy hy=>?_) (λh₁ hns hsb=>⟨I.nolimit.fresh _ hsb,?_⟩) L.kind)
 ·have e:y=(x,u):=by simpa using hy
  rw[e];exact L.par
 show codeAny _ _ (.expr body (envX q scope s.heap.objs.size f (.ref c) cl)) _ _
 have old:∀b o,s.heap.get? b=some o->h₁.get? b=some o:=λb o e=>hsb.extBut b o (Nat.ne_of_lt (Heap.lt_size e)) (Heap.get?_push_of_some _ e)
 have noA:∀b:Addr,b ∉ (cxL X N q scope cl f c Y s H).ex:=λb z=>absurd (show b∈([]:List Addr) from z) (by simp)
 have IY:Inv (cxL X N q scope cl f c Y s H) [] (V4 v cap σ) H { s with heap:=h₁,toks:=s.toks+[(x,u)].length }:=by
  refine⟨⟨I.ok.mod,L.kind,rfl,rfl,Nat.le_refl _,λx y c h1 h2=>I.ok.inj x y c (hcl h1) (hcl h2),λy hy=>?_,λx c h=>absurd (show false=true from h) Bool.false_ne_true,λ_=>hd,Around.frames_deeper hY,.inr ⟨rfl,rfl⟩,
   λb z=>absurd z (noA b),I.bs,Nat.le_trans I.ok.bsz I.sz,λb _ _=>noA b,λb z=>absurd z (noA b),I.stack,I.stkFree⟩,
   rfl,I.bare,Un.kept old,⟨_,hns,λi y w e1 e2 e3=>?_⟩,λy c' e=>?_,I.hok.fresh (Nat.le_refl _),λy c' e=>I.freeC y c' (hcl e),λp hp=>absurd (show p∈([]:List (Addr×Obj)) from hp) (by simp),I.hok.kept old,?_⟩
  ·have hy:scope.names.lookup y=some .cell∨scope.names.lookup y=some .free:=hy
   rcases hy with hy | hy
   ·exact absurd rfl (L.nocell _ (PySem.mem_of_lookup hy))
   ·exact hhas y (PySem.mem_of_lookup hy)
  ·cases i with
   | zero =>
    have e2':some (some v)=some (some w):=e2
    cases e2'
    have ex:y=x:=by
     have z:=L.first
     have e1':N[0]? = some y:=e1
     rw[List.head?_eq_getElem?,e1']at z
     exact Option.some.inj z
    subst ex
    exact⟨u,ru,.inl ⟨L.par,by simp⟩⟩
   | succ d =>
    have e2':(cap.map λj=>(σ[j]?).join)[d]? = some (some w):=e2
    rw[List.getElem?_map]at e2'
    obtain⟨j,hj,hv⟩:=Option.map_eq_some_iff.mp e2'
    have hσ:σ[j]? = some (some w):=by
     cases r:σ[j]? with
     | none=>rw[r]at hv;cases hv
     | some o=>rw[r]at hv;exact congrArg some hv
    have e1':(N.drop 1)[d]? = some y:=by rw[List.getElem?_drop,Nat.add_comm];exact e1
    have hx:X.N[j]? = some y:=by
     have z:=congrArg (λl=>l[d]?) L.capx
     simp only[List.getElem?_map,hj,e1',Option.map_some]at z
     exact Option.some.inj z
    have hfr:=L.capf y (List.mem_of_getElem? e1')
    have hfm:=PySem.mem_of_lookup hfr
    have hok:=L.free _ hfm rfl
    rw[←hosc]at hok
    obtain⟨m,hn,hl⟩:=I.loc
    obtain⟨u',r,l⟩:=hl j y w hx hσ (.inr hok)
    refine⟨u',r,?_⟩
    rcases l with ⟨hk,_⟩ | ⟨hk,c1,hc1,hc2⟩
    ·have hk:X.env.scope.names.lookup y=some .local:=hk
     rcases hok with z | z <;> (rw[hk]at z;cases z)
    ·obtain⟨c',hc'⟩:=hhas y hfm
     have:c'=c1:=Option.some.inj ((hcl hc').symm.trans hc1)
     subst this
     exact .inr ⟨.inr hfr,c',hc',hc2.keeps old⟩
  ·obtain⟨w,z⟩:=I.cell y c' (hcl e)
   exact⟨w,z.keeps old⟩
  ·show(V4 v cap σ).length=N.length
   unfold V4
   rw[List.length_cons,List.length_map,L.len,Nat.add_comm]
 refine kla_codeExpr (wpAny_mono (he s H [] _ _ _ _ IY h) (λuv s' hs=>?_) λe s' hs=>hs.elim)
 obtain⟨w,H',J,rw',qw⟩:=hs
 exact⟨w,H',I.call' (ch:=[]) J.os J.base J.hok J.bare (λb hb=>nomatch hb),rw',qw⟩
end
end L2
namespace L2
open PySem PySem.Spec PyProof.Rows PySem.W
noncomputable def a1Y:V->Int
 | .int i=>i
 | .bl b=>if b then 1 else 0
 | _=>0
noncomputable def a0I (ks:List V):Prop:=(∀k∈ks,∃i,k=V.int i)∨∀k∈ks,∃b,k=V.bl b
noncomputable def M0 (ks:List V)(i:Nat):Int:=a1Y (ks.getD i .non)
noncomputable def a0D (ks xs ys:List V):Prop:=ys.length=xs.length∧∃p,SoS (M0 ks) p xs.length∧∀i,i<xs.length->ys[i]? = xs[p i]?
theorem N1:∀{vs:List Value},(∀v∈vs,∃b,v = .bool b)->vs.mapM firstOfTuple'=pure (vs.map λ_=>none)
 | [],_=>by simp
 | v::vs,h=>by
  obtain⟨b,rfl⟩:=h v List.mem_cons_self
  rw[List.mapM_cons,show firstOfTuple' (.bool b)=pure none from rfl,N1 λw hw=>h w (List.mem_cons_of_mem _ hw)];simp
theorem K7:∀{vs:List Value},(∀v∈vs,∃b,v = .bool b)->vs.mapM typeOf=pure (vs.map λ_=>Value.type "bool")
 | [],_=>by simp
 | v::vs,h=>by
  obtain⟨b,rfl⟩:=h v List.mem_cons_self
  rw[List.mapM_cons,K7 λw hw=>h w (List.mem_cons_of_mem _ hw)]
  show(pure (Value.type "bool") >>= λb=>pure _ >>= λbs=>pure (b::bs))=_
  simp
theorem a1Z {v₁ v₂:Value}{vs:List Value}(hI:∀v∈(v₁::v₂::vs),∃b,v = .bool b):keyKind' (v₁::v₂::vs).toArray=pure oneType':=by
 rw[keyKind'_eq,List.mapM_toArray,N1 hI]
 simp only[map_pure,pure_bind]
 rw[if_neg (by simp),if_neg (by simp)]
 rw[oneTypeOnly'_eq,List.mapM_toArray,K7 hI]
 simp only[map_pure,pure_bind]
 have hall:((List.map (λ_=>Value.type "bool") (v₁::v₂::vs)).toArray.all λx=>x == Value.type "bool")=true:=by
  simp only[List.all_toArray,List.all_map,List.all_eq_true]
  intro _ _
  rfl
 have h0:(List.map (λ_=>Value.type "bool") (v₁::v₂::vs)).toArray[0]? = some (Value.type "bool"):=by simp
 rw[h0]
 simp only[hall,if_true,pure_bind,Option.isSome_some]
theorem Z6:∀{ks:List V} {us:List Value},j3 ks us->(∀k∈ks,∃i,k=V.int i)->IntsAre us (ks.map a1Y)
 | _,_,.nil,_=>.nil
 | k::ks,u::us,.cons r t,h=>by
  obtain⟨i,rfl⟩:=h k List.mem_cons_self
  obtain⟨t',rfl⟩:=r
  exact .cons i t' (Z6 t λk hk=>h k (List.mem_cons_of_mem _ hk))
theorem a1z:∀{ks:List V} {us:List Value},j3 ks us->(∀k∈ks,∃b,k=V.bl b)->∀u∈us,∃b,u = .bool b
 | _,_,.nil,_,u,hu=>by simp at hu
 | k::ks,u::us,.cons r t,h,w,hw=>by
  rcases List.mem_cons.mp hw with rfl | hw
  ·obtain⟨b,rfl⟩:=h k List.mem_cons_self
   exact⟨b,r⟩
  ·exact a1z t (λk hk=>h k (List.mem_cons_of_mem _ hk)) w hw
theorem a9y {ks:List V}{keys:Array Value}(r:j3 ks keys.toList)(h:a0I ks)(h2:2≤keys.size):keyKind' keys=pure oneType':=by
 obtain⟨v₁,v₂,rest,e⟩:∃v₁ v₂ rest,keys.toList=v₁::v₂::rest:=by
  have hl:2≤keys.toList.length:=by rw[Array.length_toList];exact h2
  cases q:keys.toList with
  | nil=>rw[q]at hl;simp at hl
  | cons v₁ r =>
   cases r with
   | nil=>rw[q]at hl;simp at hl
   | cons v₂ rest=>exact⟨v₁,v₂,rest,rfl⟩
 have ek:keys=(v₁::v₂::rest).toArray:=by rw[←e,Array.toArray_toList]
 rw[e]at r
 rw[ek]
 rcases h with h | h
 ·exact keyKind_ints (Z6 r h)
 ·exact a1Z (a1z r h)
theorem b24 {prog:Program}{w:World}{A:Around}{s:Shared}{ks:List V}{keys:Array Value}{its:List Value}(r:j3 ks keys.toList)(h:a0I ks):a1A prog w A s oneType' (keys.zip its.toArray) (M0 ks):=by
 have one:∀(i:Nat) (x:Keyed),(keys.zip its.toArray)[i]? = some x->∃k,ks[i]? = some k∧p8 k x.1:=λi x e=>by
  rw[←Array.getElem?_toList,ksk_zip,List.getElem?_zip_eq_some]at e
  cases q:ks[i]? with
  | none =>
   rw[r.none_of q]at e;exact absurd e.1 (by simp)
  | some k =>
   obtain⟨u,h1,h2⟩:=r.get q
   rw[h1]at e
   exact⟨k,rfl,by rw[←Option.some.inj e.1];exact h2⟩
 intro i j x y _ ex ey E Q hq
 rw[keyLt'_oneType]
 obtain⟨k1,a1,r1⟩:=one i x ex
 obtain⟨k2,a2,r2⟩:=one j y ey
 have n1:M0 ks i=a1Y k1:=by unfold M0;rw[List.getD_eq_getElem?_getD,a1];rfl
 have n2:M0 ks j=a1Y k2:=by unfold M0;rw[List.getD_eq_getElem?_getD,a2];rfl
 rw[n1,n2]at hq
 obtain⟨x1,x2⟩:=x
 obtain⟨y1,y2⟩:=y
 rcases h with h | h
 ·obtain⟨m,rfl⟩:=h k1 (List.mem_of_getElem? a1)
  obtain⟨n,rfl⟩:=h k2 (List.mem_of_getElem? a2)
  obtain⟨t,e⟩:=r1
  obtain⟨t',e'⟩:=r2
  dsimp only at e e'
  subst e;subst e'
  exact oneLt_int hq
 ·obtain⟨m,rfl⟩:=h k1 (List.mem_of_getElem? a1)
  obtain⟨n,rfl⟩:=h k2 (List.mem_of_getElem? a2)
  have e:x1 = .bool m:=r1
  have e':y1 = .bool n:=r2
  subst e;subst e'
  exact a49 hq
section
variable {X:Cx}{pins:List (Addr×Obj)}{σ:St}{H:Hp}{s:Shared}
noncomputable def New (X:Cx)(pins:List (Addr×Obj))(b:Addr):Prop:=X.s₀.heap.objs.size≤b∧b≠X.env.locals∧(∀x c,X.env.cells.lookup x=some c->c≠b)∧(∀p∈X.pn++pins,p.1≠b)∧b ∉ X.fs
theorem Inv.new {b:Addr}(I:Inv X pins σ H s)(h:s.heap.objs.size≤b):New X pins b:=by
 have ne:∀{c:Addr} {o:Obj},s.heap.get? c=some o->c≠b:=λe z=>absurd (Nat.lt_of_lt_of_le (Heap.lt_size e) h) (by rw[z];exact Nat.lt_irrefl _)
 refine⟨Nat.le_trans I.sz h,λz=>absurd (Nat.lt_of_lt_of_le I.lt h) (by rw[z];exact Nat.lt_irrefl _),λx c e=>?_,λp hp=>ne (I.pin p hp).1,I.nofs h⟩
 obtain⟨v,o,ho,_⟩:=I.cell x c e
 exact ne ho
theorem Inv.turn1 {b:Addr}{h':Heap}{t':Nat}(I:Inv X pins σ H s)(hb:New X pins b)(hn:H b=none)(k:∀c o,c≠b->s.heap.get? c=some o->h'.get? c=some o):Inv X pins σ H { s with heap:=h',toks:=t' } :=
 I.turned k hn hb.2.1 (.inr hb.1) hb.2.2.1 hb.2.2.2.1
theorem Inv.relay {a k:Addr}{ys:List V}{us:List Value}{n:Nat}{h':Heap}{t':Nat}(I:Inv X pins σ H s)(ha:New X pins a)(hk:New X pins k)(Ha:H a=none)(Hk:H k=none)
  (hs:∀c o,c≠a->c≠k->s.heap.get? c=some o->h'.get? c=some o) (hth:∃o,h'.get? k=some o) (hz:ys.length≤sizeLine) (r:j3 ys us) (ho:h'.get? a=some { cls:=.type "list",data:=.seq us.toArray n }) :
  Inv X pins σ (upd H a (.lst ys)) { s with heap:=h',toks:=t' }:=by
 have nin:∀{b:Addr},b ∉ [a,k]->b≠a∧b≠k:=λhb=>⟨λz=>hb (by simp[z]),λz=>hb (by simp[z])⟩
 have nu:∀{b:Addr} {u:HO},H b=some u->b≠a∧b≠k:=λe=>⟨λz=>(by rw[z,Ha]at e;cases e),λz=>(by rw[z,Hk]at e;cases e)⟩
 refine I.step (g':=s.gens) (d':=s.drawn) (ch:=[a,k]) (λb hb=>?_) (λb o _ _ hc e _=>hs b o (nin hc).1 (nin hc).2 e) (λb o _ _ hc e _=>⟨o.slots,hs b o (nin hc).1 (nin hc).2 e⟩) (λb o hc _ n=>by rw[d8 (nin hc).1];exact n)
  (λb o hc e=>⟨o,hs b o (nin hc).1 (nin hc).2 e⟩) (λb xs e=>by rw[d8 (nu e).1];exact e) (λb o u e=>by rw[d8 (nu e).1];exact e) (λb ps e=>⟨#[],by rw[d8 (nu e).1,e];simp⟩) (λm hm=>?_) (λb u e=>?_) I.bare
 ·have hb':b=a∨b=k:=by simpa using hb
  rcases hb' with rfl | rfl
  ·exact⟨.inr ha.1,ha.2.1,ha.2.2.1,ha.2.2.2.1⟩
  ·exact⟨.inr hk.1,hk.2.1,hk.2.2.1,hk.2.2.2.1⟩
 ·obtain⟨o,es,ep,ho',r'⟩:=hm
  exact⟨o,es,ep,hs _ o ha.2.1.symm hk.2.1.symm ho',r'⟩
 ·by_cases hb:b=a
  ·subst hb
   rw[g6]at e;cases e
   exact⟨hz,us,n,r,ho⟩
  ·rw[d8 hb]at e
   refine(I.hok b u e).stay (λc v hc q=>?_) (λc q=>by rw[d8 (nu q).1];exact q) λc xs q=>by rw[d8 (nu q).1];exact q
   rcases hc with rfl | z
   ·exact hs c v (nu e).1 (nu e).2 q
   ·exact hs c v (nu z).1 (nu z).2 q
end
end L2
namespace L2
open PySem PySem.Spec PyProof.Rows PySem.W
theorem atl {α:Type}(a:Array α):a.toList.length=a.size:=Array.length_toList
section
variable {X:Cx}{pins:List (Addr×Obj)}{σ:St}{H:Hp}{s:Shared}{Y:Around}{E:Value->Shared->Prop}{P:PySem.Fin->Shared->Prop}{a kS:Addr}{xs ks:List V}{its:List Value}{e1:Nat}
theorem a5i {keys:Array Value}{e:Nat}{st:SortSt}{p:Nat->Nat}(I:Inv X ((kS,seqObj "list" keys e)::(a,seqObj "list" #[] e1)::pins) σ H s)(ha:New X pins a)(hk:New X pins kS)(hka:kS≠a)
  (rx:j3 xs its) (hkl:keys.size≤64) (h64:its.length<64) (hfl:failedOf st=none) (hsz:(arrOf st).size=its.length) (hp:∀i,i<its.length->(arrOf st)[i]? = (keys.zip its.toArray)[p i]?) (hS:SoS (M0 ks) p its.length) (hke:keys.size=its.length)
  (h:∀s' ys,a0D ks xs ys->Inv X pins σ (upd H a (.lst ys)) s'->P (.done (.ret .none)) s') :
  wpAny (model X.prog X.w) Y (ksk_tail a false e1 (.ref kS) st) P E s:=by
 obtain⟨nk,Hk,_⟩:=I.pin (kS,seqObj "list" keys e) (List.mem_append_right _ (.head _))
 obtain⟨na,Ha,_⟩:=I.pin (a,seqObj "list" #[] e1) (List.mem_append_right _ (.tail _ (.head _)))
 have I0:Inv X pins σ H s:=I.pins_of λp hp=>I.pin p (List.mem_append_right _ (.tail _ (.tail _ hp)))
 have s1:=Heap.SameBut.update s.heap kS (Obj.mapSeq λ_=>(#[]:Array Value))
 have na1:(s.heap.update kS (Obj.mapSeq λ_=>(#[]:Array Value))).get? a=some (seqObj "list" #[] e1):=(s1.2 a hka.symm).trans na
 have s2:=Heap.SameBut.update (s.heap.update kS (Obj.mapSeq λ_=>(#[]:Array Value))) a (Obj.mapSeq λ_=>(arrOf st).map (·.2))
 obtain⟨c2,hc2⟩:∃c2,((s.heap.update kS (Obj.mapSeq λ_=>(#[]:Array Value))).update a (Obj.mapSeq λ_=>(arrOf st).map (·.2))).get? a=some (seqObj "list" ((arrOf st).map (·.2)) c2) :=
  ⟨_,get?_update_seq na1 λ_=>(arrOf st).map (·.2)⟩
 have hout:((arrOf st).map (·.2)).size=its.length:=by rw[Array.size_map];exact hsz
 unfold ksk_tail
 try dsimp only
 refine wpAny_bind (listUpdate_at nk rfl ?_ (by rw[sizeLine_eq];omega) (Nat.zero_le _))
 refine wpAny_bind (wpAny_letGo ?_)
 refine wpAny_bind (seqEpoch_at na1 rfl ?_)
 refine wpAny_bind (listUpdate_at na1 rfl ?_ (Nat.zero_le _) (by rw[if_neg Bool.false_ne_true,hout,sizeLine_eq];omega))
 rw[hfl]
 simp only[bne_self_eq_false,Bool.false_eq_true,if_false]
 have xl:xs.length=its.length:=rx.length
 have outv:∀i,i<its.length->((arrOf st).map (·.2)).toList[i]? = its[p i]?:=λi hi=>by
  rw[Array.getElem?_toList,Array.getElem?_map,hp i hi,←Array.getElem?_toList,ksk_zip]
  have hpi:=hS.2.2 i hi
  have e1:its[p i]? = some (its[p i]):=List.getElem?_eq_getElem hpi
  have e2:keys.toList[p i]? = some (keys.toList[p i]'(by rw[atl keys,hke];exact hpi)):=List.getElem?_eq_getElem _
  rw[show(keys.toList.zip its)[p i]? = some (keys.toList[p i]'(by rw[atl keys,hke];exact hpi),its[p i]) from List.getElem?_zip_eq_some.mpr ⟨e2,e1⟩,e1]
  rfl
 have ysl:((List.range its.length).map λi=>xs.getD (p i) .non).length=its.length:=by rw[List.length_map,List.length_range]
 have ysg:∀i,i<its.length->((List.range its.length).map λi=>xs.getD (p i) .non)[i]? = xs[p i]?:=λi hi=>by
  rw[List.getElem?_map,List.getElem?_range hi]
  have hpi:=hS.2.2 i hi
  show some (xs.getD (p i) .non)=_
  rw[List.getD_eq_getElem?_getD,List.getElem?_eq_getElem (by omega)]
  rfl
 refine wpAny_pure (h _ ((List.range its.length).map λi=>xs.getD (p i) .non) ⟨by rw[ysl,xl],p,by rw[xl];exact hS,λi hi=>ysg i (by omega)⟩ (I0.relay (k:=kS) (n:=c2) ha hk Ha Hk (λc o h1 h2 e=>(s2.2 c h1).trans ((s1.2 c h2).trans e)) ?_ (by rw[ysl,sizeLine_eq];omega)
  (us:=((arrOf st).map (·.2)).toList) ?_ (by rw[hc2])))
 ·obtain⟨c3,hc3⟩:∃c3,(s.heap.update kS (Obj.mapSeq λ_=>(#[]:Array Value))).get? kS=some (seqObj "list" #[] c3):=⟨_,get?_update_seq nk λ_=>(#[]:Array Value)⟩
  exact⟨_,(s2.2 kS hka).trans hc3⟩
 ·refine K5 (by rw[ysl,atl ((arrOf st).map (·.2)),hout]) λi x u hx hu=>?_
  have hi:i<its.length:=by
   have:=(List.getElem?_eq_some_iff.mp hx).1
   rwa [ysl]at this
  rw[ysg i hi]at hx
  rw[outv i hi]at hu
  obtain⟨u',h1,h2⟩:=rx.get hx
  rw[h1]at hu
  rw[←Option.some.inj hu]
  exact h2
theorem b1G {keys:Array Value}{e:Nat}(I:Inv X ((kS,seqObj "list" keys e)::(a,seqObj "list" #[] e1)::pins) σ H s)(ha:New X pins a)(hk:New X pins kS)(hka:kS≠a)
  (rx:j3 xs its) (rk:j3 ks keys.toList) (hl:ks.length=xs.length) (hko:a0I ks) (h64:its.length<64)
  (h:∀s' ys,a0D ks xs ys->Inv X pins σ (upd H a (.lst ys)) s'->P (.done (.ret .none)) s') :
  wpAny (model X.prog X.w) Y (ksk_end a false its.toArray e1 (.ref kS) keys) P E s:=by
 have xl:xs.length=its.length:=rx.length
 have hke:keys.size=its.length:=by
  have:=rk.length
  rw[atl keys]at this
  omega
 have hzs:(keys.zip its.toArray).size=its.length:=by rw[Array.size_zip,hke,List.size_toArray,Nat.min_self]
 unfold ksk_end
 simp only[Bool.false_eq_true,if_false]
 by_cases h2:its.toArray.size<2
 ·rw[if_pos h2,if_pos h2]
  refine wpAny_bind (wpAny_pure ?_)
  rw[StateT.run_pure]
  refine wpAny_bind (wpAny_pure ?_)
  try dsimp only
  rw[List.size_toArray]at h2
  refine a5i (st:=SortSt.mk' general' (keys.zip its.toArray) #[] 7 none) (p:=id) I ha hk hka rx (by omega) h64 rfl hzs (λi _=>rfl) ⟨λi j h1 h3=>by omega,λi _=>rfl,λi hi=>hi⟩ hke h
 ·rw[if_neg h2,if_neg h2]
  rw[List.size_toArray]at h2
  rw[a9y rk hko (by omega)]
  refine wpAny_bind (wpAny_pure ?_)
  refine wpAny_bind (wpAny_mono (a5v (a0:=keys.zip its.toArray) (κ:=M0 ks) (st:=SortSt.mk' oneType' (keys.zip its.toArray) #[] 7 none)
   (Q:=λ_ st'=>failedOf st'=none∧(arrOf st').size=(keys.zip its.toArray).size∧∃p,(∀i,i<(keys.zip its.toArray).size->(arrOf st')[i]? = (keys.zip its.toArray)[p i]?)∧SoS (M0 ks) p (keys.zip its.toArray).size)
   (b24 rk hko) ⟨⟨rfl,rfl,rfl,rfl⟩,λi j _ _ e=>e,λi _=>rfl,λi hi=>hi⟩ (by rw[hzs];omega) (by rw[hzs];exact h64) λst' a1 a2 a3=>⟨a1,a2,a3⟩) ?_ λ_ _ e=>e)
  rintro ⟨⟨⟩,st'⟩ s' ⟨rfl,hf,hsz,p,hp,hS⟩
  try dsimp only
  rw[hzs]at hsz hp hS
  exact a5i I ha hk hka rx (by omega) h64 hf hsz hp hS hke h
theorem a95 {f:Addr}{J:Nat->Hp->Prop}(I:Inv X ((kS,seqObj "list" #[] 0)::(a,seqObj "list" #[] e1)::pins) σ H s)(ha:New X pins a)(hk:New X pins kS)(hka:kS≠a)
  (rx:j3 xs its) (hl:ks.length=xs.length) (hko:a0I ks) (h64:its.length<64) (j0:J 0 H)
  (turn:∀(i:Nat) (v:V) (u:Value) (pn:List (Addr×Obj)) (H':Hp) (s':Shared),xs[i]? = some v->p8 v u->J i H'->Inv X (pn++pins) σ H' s' ->
   wpAny (model X.prog X.w) Y (call (.ref f) [u]) (EP X (pn++pins) σ λk H2=>ks[i]? = some k∧J (i+1) H2) (λ_ _=>False) s')
  (h:∀s' H' ys,J xs.length H'->H' a=none->a0D ks xs ys->Inv X pins σ (upd H' a (.lst ys)) s'->P (.done (.ret .none)) s') :
  wpAny (model X.prog X.w) Y (ksk_rest a (.ref f) false its.toArray e1 (.ref kS)) P E s:=by
 have xl:xs.length=its.length:=rx.length
 have hk2:New X ((a,seqObj "list" #[] e1)::pins) kS:=⟨hk.1,hk.2.1,hk.2.2.1,λp hp=>by
  rcases List.mem_append.mp hp with z | z
  ·exact hk.2.2.2.1 p (List.mem_append_left _ z)
  ·rcases List.mem_cons.mp z with rfl | z
   ·exact hka.symm
   ·exact hk.2.2.2.1 p (List.mem_append_right _ z),hk.2.2.2.2⟩
 unfold ksk_rest
 refine wpAny_bind (wpAny_rule ?_)
 first
  | rw[List.forIn_toArray]
  | (rw[←Array.forIn_toList];simp only[List.toList_toArray])
  | rw[←Array.forIn_toList]
 refine wpAny_bind (ksk_fold (λi s'=>∃H' kA e,Inv X ((kS,seqObj "list" kA e)::(a,seqObj "list" #[] e1)::pins) σ H' s'∧J i H'∧j3 (ks.take i) kA.toList) its 0 s ⟨H,#[],0,I,j0,by simpa using Paired.nil⟩ ?step ?done)
 case step =>
  rintro j x s' hx ⟨H',kA,e,I',hJ,hv⟩
  simp only[Nat.zero_add]at hJ hv ⊢
  have hj:j<its.length:=(List.getElem?_eq_some_iff.mp hx).1
  obtain⟨v,hxv⟩:∃v,xs[j]? = some v:=⟨_,List.getElem?_eq_getElem (by omega)⟩
  obtain⟨u,hu,ru⟩:=rx.get hxv
  rw[hx]at hu
  cases hu
  have hz:kA.size≤its.length:=by
   have h1:=hv.length
   rw[atl kA,List.length_take]at h1
   omega
  refine wpAny_bind (wpAny_attempt (wpAny_mono (turn j v x [(kS,seqObj "list" kA e),(a,seqObj "list" #[] e1)] H' s' hxv ru hJ I') (λkv s'' he=>?_) λ_ _ hF=>hF.elim))
  obtain⟨kk,H2,I2,rk,hkk,hJ2⟩:=he
  try dsimp only
  obtain⟨nk,Hk,_⟩:=I2.pin (kS,seqObj "list" kA e) (List.mem_append_right _ (.head _))
  have I3:Inv X ((a,seqObj "list" #[] e1)::pins) σ H2 s'':=I2.pins_of λp hp=>I2.pin p (List.mem_append_right _ (.tail _ hp))
  have s1:=Heap.SameBut.update s''.heap kS (Obj.mapSeq (·.push kv))
  obtain⟨c2,hc2⟩:∃c2,(s''.heap.update kS (Obj.mapSeq (·.push kv))).get? kS=some (seqObj "list" (kA.push kv) c2):=⟨_,get?_update_seq nk (·.push kv)⟩
  refine wpAny_bind (listUpdate_at nk rfl ?_ (by rw[sizeLine_eq];omega) (Nat.le_trans (Nat.le_of_eq (Array.size_push ..)) (by rw[sizeLine_eq];omega)))
  have I4:=I3.turn1 (h':=s''.heap.update kS (Obj.mapSeq (·.push kv))) (t':=s''.toks) hk2 Hk λc o hc e=>(s1.2 c hc).trans e
  have ek:ks.take (j+1)=ks.take j++[kk]:=by rw[List.take_add_one,hkk];simp
  have ea:(kA.push kv).toList=kA.toList++[kv]:=by simp
  exact wpAny_pure ⟨rfl,H2,kA.push kv,c2,I4.pin1 hc2 Hk hk.2.1 hk.2.2.2.2 (λv e=>nomatch e),hJ2,by rw[ea,ek];exact hv.append (.cons rk .nil)⟩
 case done =>
  rintro s' ⟨H',kA,e,I',hJ,hv⟩
  have e3:ks.take (0+its.length)=ks:=List.take_of_length_le (by omega)
  rw[e3]at hv
  rw[Nat.zero_add,←xl]at hJ
  obtain⟨nk,Hk,_⟩:=I'.pin (kS,seqObj "list" kA e) (List.mem_append_right _ (.head _))
  obtain⟨_,Ha,_⟩:=I'.pin (a,seqObj "list" #[] e1) (List.mem_append_right _ (.tail _ (.head _)))
  try dsimp only
  refine wpAny_bind (listItems_at nk rfl ?_)
  exact b1G I' ha hk hka rx hv hl hko h64 λs2 ys o J2=>h s2 H' ys hJ Ha o J2
end
end L2
namespace L2
open PySem PySem.Spec PyProof.Rows PySem.W
section
variable {X:Cx}{pins:List (Addr×Obj)}{σ:St}{H:Hp}{s:Shared}{Y:Around}{E:Value->Shared->Prop}{P:PySem.Fin->Shared->Prop}{a:Addr}{xs ks:List V}{its:List Value}
theorem a9C {f:Addr}{n:Nat}{J:Nat->Hp->Prop}(I:Inv X pins σ H s)(ho:s.heap.get? a=some (seqObj "list" its.toArray n))(ha:New X pins a)(Ha:H a=none)
  (rx:j3 xs its) (hl:ks.length=xs.length) (hko:a0I ks) (h64:its.length<64) (j0:J 0 H)
  (turn:∀(i:Nat) (v:V) (u:Value) (pn:List (Addr×Obj)) (H':Hp) (s':Shared),xs[i]? = some v->p8 v u->J i H'->Inv X (pn++pins) σ H' s' ->
   wpAny (model X.prog X.w) Y (call (.ref f) [u]) (EP X (pn++pins) σ λk H2=>ks[i]? = some k∧J (i+1) H2) (λ_ _=>False) s')
  (h:∀s' H' ys,J xs.length H'->H' a=none->a0D ks xs ys->Inv X pins σ (upd H' a (.lst ys)) s'->P (.done (.ret .none)) s') :
  wpAny (model X.prog X.w) Y (ksk_tree a (.ref f) false) P E s:=by
 have hlt:a<s.heap.objs.size:=Heap.lt_size ho
 have s1:=Heap.SameBut.update s.heap a (Obj.mapSeq λ_=>(#[]:Array Value))
 obtain⟨e1,ho1⟩:∃e1,(s.heap.update a (Obj.mapSeq λ_=>(#[]:Array Value))).get? a=some (seqObj "list" #[] e1):=⟨_,get?_update_seq ho λ_=>#[]⟩
 have hkS:((s.heap.update a (Obj.mapSeq λ_=>(#[]:Array Value))).push (seqObj "tuple" its.toArray 0)).objs.size=s.heap.objs.size+1:=by rw[size_push',Heap.size_update]
 have hz:s.heap.objs.size≤((s.heap.update a (Obj.mapSeq λ_=>(#[]:Array Value))).push (seqObj "tuple" its.toArray 0)).objs.size:=by rw[hkS];exact Nat.le_succ _
 unfold ksk_tree
 refine wpAny_bind (listItems_at ho rfl ?_)
 refine wpAny_bind (listUpdate_at ho rfl ?_ (by rw[List.size_toArray,sizeLine_eq];omega) (Nat.zero_le _))
 refine wpAny_bind (seqEpoch_at ho1 rfl ?_)
 refine wpAny_bind (wpAny_newTuple ?_ (by show its.length≤_;rw[sizeLine_eq];omega))
 refine wpAny_bind (wpAny_newList ?_ (Nat.zero_le _))
 refine wpAny_holding ?_
 have I1:Inv X pins σ H { s with heap:=((s.heap.update a (Obj.mapSeq λ_=>(#[]:Array Value))).push (seqObj "tuple" its.toArray 0)).push (seqObj "list" #[] 0),toks:=s.toks } :=
  I.turn1 ha Ha λc o hc e=>Heap.get?_push_of_some _ (Heap.get?_push_of_some _ ((s1.2 c hc).trans e))
 have hk:=I.new hz
 have Hk:=I.hok.fresh hz
 have hka:((s.heap.update a (Obj.mapSeq λ_=>(#[]:Array Value))).push (seqObj "tuple" its.toArray 0)).objs.size≠a:=by rw[hkS];exact Nat.ne_of_gt (Nat.lt_succ_of_lt hlt)
 have I2:=I1.pin1 (a:=a) (o:=seqObj "list" #[] e1) (Heap.get?_push_of_some _ (Heap.get?_push_of_some _ ho1)) Ha ha.2.1 ha.2.2.2.2 (λv e=>nomatch e)
 have I3:=I2.pin1 (a:=((s.heap.update a (Obj.mapSeq λ_=>(#[]:Array Value))).push (seqObj "tuple" its.toArray 0)).objs.size) (o:=seqObj "list" #[] 0) (Heap.get?_push_size _ rfl) Hk hk.2.1 hk.2.2.2.2 (λv e=>nomatch e)
 exact a95 I3 ha hk hka rx hl hko h64 j0 turn h
theorem a6n {l f:Addr}{J:Nat->Hp->Prop}{Q:Value->Shared->Prop}(I:Inv X pins σ H s)(hl':s.heap.IsList l its.toArray)
  (rx:j3 xs its) (hl:ks.length=xs.length) (hko:a0I ks) (h64:its.length<64) (j0:J 0 H)
  (turn:∀(i:Nat) (v:V) (u:Value) (pn:List (Addr×Obj)) (H':Hp) (s':Shared),xs[i]? = some v->p8 v u->J i H'->Inv X (pn++pins) σ H' s' ->
   wpAny (model X.prog X.w) X.A.in1.in1 (call (.ref f) [u]) (EP X (pn++pins) σ λk H2=>ks[i]? = some k∧J (i+1) H2) (λ_ _=>False) s')
  (h:∀a s' H' ys,J xs.length H'->H' a=none->a0D ks xs ys->Inv X pins σ (upd H' a (.lst ys)) s'->Q (.ref a) s') :
  wpAny (model X.prog X.w) X.A (call (.builtin "sorted") [.ref l] [(Str.ofString "key",.ref f)]) Q E s:=by
 refine call_function_entry_kw kind_sorted plain_sorted entry_sorted (ksk_s1 _ _) ?_
 unfold Builtin.«sorted»
 refine wpAny_bind (m:=checkCount "sorted" 1 1 _) (wpAny_pure ?_)
 refine wpAny_bind (collect_list hl' ?_ (by rw[sizeLine_eq];omega))
 refine wpAny_bind (wpAny_newList ?_ (by rw[sizeLine_eq];omega))
 have hsz:((s.heap.push (seqObj "list" #[] 0)).update s.heap.objs.size (Obj.mapSeq (· ++ its.toArray))).objs.size=s.heap.objs.size+1:=by
  rw[Heap.size_update,size_push']
 have hoL:(((s.heap.push (seqObj "list" #[] 0)).update s.heap.objs.size (Obj.mapSeq (· ++ its.toArray))).push (seqObj "list" its.toArray 0)).get? (s.heap.objs.size+1)=some (seqObj "list" its.toArray 0):=by
  rw[←hsz];exact Heap.get?_push_size _ rfl
 have keep:∀b o,s.heap.get? b=some o->(((s.heap.push (seqObj "list" #[] 0)).update s.heap.objs.size (Obj.mapSeq (· ++ its.toArray))).push (seqObj "list" its.toArray 0)).get? b=some o:=λb o q=>by
  have hlt:b<s.heap.objs.size:=Heap.lt_size q
  rw[Heap.get?_push_ne _ _ _ (by rw[hsz];exact Nat.ne_of_lt (Nat.lt_succ_of_lt hlt)),Heap.get?_update_ne _ _ _ _ (Nat.ne_of_lt hlt),Heap.get?_push_ne _ _ _ (Nat.ne_of_lt hlt)]
  exact q
 show wpAny _ _ _ _ _ { s with heap:=((s.heap.push (seqObj "list" #[] 0)).update s.heap.objs.size (Obj.mapSeq (· ++ its.toArray))).push (seqObj "list" its.toArray 0) }
 rw[hsz]
 refine wpAny_bind (wpAny_holding (wpAny_call_entry_kw slot_list_sort ⟨_,hoL,rfl⟩ entry_list_sort ?body (ksk_l1 _ _)))
 case body =>
  have ht':=ksk_t1 f (s.heap.objs.size+1)
  show wpAny (model X.prog X.w) X.A.in1.in1 (Builtin.«list.sort» ⟨[.ref (s.heap.objs.size+1)],[(Str.ofString "key",.ref f)]⟩) _ _ _
  rw[ht']
  have I1:Inv X pins σ H { s with heap:=((s.heap.push (seqObj "list" #[] 0)).update s.heap.objs.size (Obj.mapSeq (· ++ its.toArray))).push (seqObj "list" its.toArray 0),toks:=s.toks }:=I.kept keep
  refine a9C I1 hoL (I.new (Nat.le_succ _)) (I.hok.fresh (Nat.le_succ _)) rx hl hko h64 j0 turn λs' H' ys hJ Ha o I'=>⟨_,rfl,?_⟩
  exact wpAny_pure ⟨_,rfl,h _ s' H' ys hJ Ha o I'⟩
end
end L2
namespace L2
open PySem PySem.Spec PyProof.Rows PySem.W
noncomputable def tSK (K:Frag)(P:Addr)(q:Str)(cap:List Nat)(ta:TA)(te:TE):TE:=λσ H Q=>ta σ H λvs H1=>∃l xs,vs=[.ref l]∧SqL K H1 l xs∧xs.length<64∧a2e H1 P q ∧
 ∀H2,b0k P q H1 H2->a2e H2 P q->∀c,H2 c=some (cdO c q)->∃(J:Nat->Hp->Prop) (ks:List V),ks.length=xs.length∧a0I ks∧SqL K H2 l xs∧J 0 H2∧(∀i H',J i H'->H' c=some (cdO c q)) ∧
  (∀i v H',xs[i]? = some v->J i H'->te (V4 v cap σ) H' λk H3=>ks[i]? = some k∧J (i+1) H3) ∧
  ∀a H' ys,J xs.length H'->H' a=none->a0D ks xs ys->Q (.ref a) (upd H' a (.lst ys))
theorem a9a {M:Model}{A:Around}{E:Value->Shared->Prop}{s:Shared}{env:Env}{x:Str}{p pos:Pos}{args:List Expr}{kws:List Keyword}{Q:Value->Shared->Prop}
  (h:wpAny M A (eval (.Name x p) env) (λf s₁=>wpAny M A (callWith pos f [] (backTo pos (starEach args env)) (backToKw pos (keywordEach kws env))) Q E s₁) E s):wpAny M A (eval (.Call (.Name x p) args kws pos) env) Q E s:=by
 rw[show eval (.Call (.Name x p) args kws pos) env=(do callWith pos (←eval (.Name x p) env) [] (backTo pos (starEach args env)) (backToKw pos (keywordEach kws env))) from rfl]
 exact wpAny_bind h
theorem b2f {X:Cx}{e:Expr}{params:Arguments}{body:Expr}{scope osc:Scope}{p pos lpos kp:Pos}{c P:Addr}{q x:Str}{N:List Str}{cap:List Nat}{ta:TA}{te:TE}{k:Nat}
  (hg:Gl X "sorted") (hm:X.mg "sorted" = none) (hr:Room k X.A) (hc:X.calm=true) (ha:PA X [e] ta) (hdef:defaultsOf params X.env=([],[])) (hosc:X.env.scope=osc) (L:LamOk X.N osc x N cap scope)
  (hcode:X.env.code = .ref c) (C:CodeHd X.base c P) (BM:BMd X.base X.mg) (hq:X.env.qual ++ "<lambda>" = q)
  (hbind:∀(cl:List (Str×Addr)) (pm:Value) (c':Addr) (ctv u:Value),bindArgs (kla_fn "<lambda>" q params body scope cl pm (.ref c') ctv) ⟨[u],[]⟩=pure [(x,u)])
  (he:∀cl f c' Y s H,PE (cxL X N q scope cl f c' Y s H) body te) (hs:starEach [e] X.env=[(false,eval e X.env)]:=by rfl) :
  PE X (.Call (.Name "sorted" p) [e] [⟨some "key",.Lambda params body scope lpos,kp⟩] pos) (tSK X.K P q cap ta te):=by
 intro pins s σ H Q I h
 have hcell:∀y∈scope.names,y.2 = .free->∃c,X.env.cells.lookup y.1=some c:=λy hy hk=>I.ok.has y.1 (by
  show X.env.scope.names.lookup y.1=_∨X.env.scope.names.lookup y.1=_
  rw[hosc];exact L.free y hy hk)
 let f:Str->Addr:=λx=>(X.env.cells.lookup x).getD 0
 have hf:∀y∈scope.names,y.2 = .free->X.env.cells.lookup y.1=some (f y.1):=λy hy hk=>by
  obtain⟨c,e⟩:=hcell y hy hk
  show _=some ((X.env.cells.lookup y.1).getD 0)
  rw[e];rfl
 have hclos:closureFor scope X.env=pure (z3 f scope.names []):=A9 λy hy hk=>by
  unfold cellOf
  rw[hf y hy hk]
 have hcl:∀{x:Str} {c:Addr},(z3 f scope.names []).lookup x=some c->X.env.cells.lookup x=some c:=λ{x c} e=>by
  rcases D5 _ _ e with ⟨h1,h2⟩ | h1
  ·rw[h2];exact hf (x,.free) h1 rfl
  ·simp at h1
 have hhas:∀x,(x,NameKind.free)∈scope.names->∃c,(z3 f scope.names []).lookup x=some c:=λx hx=>⟨_,M6 _ _ (.inl hx)⟩
 generalize z3 f scope.names []=cl at hclos hcl hhas
 refine a9a (U8 I hg hm (by decide +kernel:bootBuiltins "sorted" = some (.builtin "sorted")) (callWith_kw (kws:=[⟨some "key",.Lambda params body scope lpos,kp⟩]) (thn (ha pos pins s σ H _ I h) λus s1 ⟨vs,H1,I1,r1,q1⟩=>?_) (by rw[hs];rfl) (by rw[hs];rfl)))
 obtain⟨l,xs,e0,hq0,h64,hT,q2⟩:=q1
 subst e0
 obtain⟨u,rfl,ru⟩:=U5 r1
 cases ru
 refine kws_cons (a8d I1 hdef hclos hcode C BM hT hq λf c' ctv H2 s2 gr hT2 hc2 I2=>kws_nil ?_)
 obtain⟨J,ks,hlk,hko,hq2,j0,jc,turn,fin⟩:=q2 H2 gr hT2 c' hc2
 obtain⟨its,rv,pl,hz⟩:=I2.list hq2
 have xl:xs.length=its.length:=rv.length
 show wpAny (model X.prog X.w) X.A (call (.builtin "sorted") [.ref l] [(Str.ofString "key",.ref f)]) _ X.xe s2
 refine a6n I2 pl.isList rv hlk hko (by omega) j0 (λi v u pn H' s' hx r hJ I'=>?_) λa s' H' ys hJ Ha o I'=>?_
 ·exact a7L I' I.ok.frames (I.ok.hd hc) (by have:=hr.dp;show X.A.depth<_;omega) (List.mem_append_right _ (List.mem_append_right _ (.head _))) (jc i H' hJ) hosc L hcl hhas (hbind _ _ _ _ _) (λs H=>he _ _ _ _ s H) r (turn i v H' hx hJ)
 ·exact⟨.ref a,_,I'.pins_of (λp hp=>I'.pin p (List.mem_append_right _ (.tail _ hp))),rfl,fin a H' ys hJ Ha o⟩
end L2
namespace L2
open PySem PySem.Spec PyProof.Rows PySem.W
section
variable {prog:Program}{w:World}{A:Around}{E:Value->Shared->Prop}{s:Shared}
theorem a2z {a:Addr}{vs:List Value}{n:Nat}{kd:SortKind}{κ:Nat->Int}{P:PySem.Fin->Shared->Prop}(ho:s.heap.get? a=some (seqObj "list" vs.toArray n))(h64:vs.length<64)
  (hkind:2≤vs.length->∀(h':Heap) (Q:SortKind->Shared->Prop),(∀b o,b≠a->s.heap.get? b=some o->h'.get? b=some o)->Q kd { s with heap:=h' }->wpAny (model prog w) A (keyKind' vs.toArray) Q E { s with heap:=h' })
  (hlt:∀h':Heap,(∀b o,b≠a->s.heap.get? b=some o->h'.get? b=some o)->a1A prog w A { s with heap:=h' } kd (pairsOf vs) κ)
  (h:∀(out:Array Value) (p:Nat->Nat),out.size=vs.length->(∀i,i<vs.length->out.toList[i]? = vs[p i]?)->SoS κ p vs.length->P (.done (.ret .none)) { s with heap:=sortedHeap s.heap a vs out }) :
  wpAny (model prog w) A (Builtin.«list.sort» ⟨[.ref a],[]⟩) P E s:=by
 rw[list_sort_plain]
 have ha:a<s.heap.objs.size:=Heap.lt_size ho
 refine wpAny_bind (listItems_at ho rfl ?_)
 refine wpAny_bind (listUpdate_at ho rfl ?_ (by rw[List.size_toArray,sizeLine_eq];omega) (Nat.zero_le _))
 obtain⟨e1,ho1⟩:∃e1,(s.heap.update a (Obj.mapSeq λ_=>#[])).get? a=some (seqObj "list" #[] e1):=⟨_,get?_update_seq ho (λ_=>#[])⟩
 refine wpAny_bind (seqEpoch_at ho1 rfl ?_)
 refine wpAny_bind (wpAny_newTuple ?_ (by show vs.length≤_;rw[sizeLine_eq];omega))
 refine wpAny_bind (wpAny_newList ?_ (Nat.zero_le _))
 refine wpAny_holding ?_
 have ho6:(((s.heap.update a (Obj.mapSeq λ_=>#[])).push (seqObj "tuple" vs.toArray 0)).push (seqObj "list" #[] 0)).get? a=some (seqObj "list" #[] e1):=by
  rw[Heap.get?_push_ne _ _ _ (by rw[size_push',Heap.size_update];exact Nat.ne_of_lt (Nat.lt_succ_of_lt ha)),Heap.get?_push_ne _ _ _ (by rw[Heap.size_update];exact Nat.ne_of_lt ha)]
  exact ho1
 have s1:=Heap.SameBut.update s.heap a (Obj.mapSeq λ_=>(#[]:Array Value))
 have kept:∀b o,b≠a->s.heap.get? b=some o->(((s.heap.update a (Obj.mapSeq λ_=>#[])).push (seqObj "tuple" vs.toArray 0)).push (seqObj "list" #[] 0)).get? b=some o:=λb o hb e=>Heap.get?_push_of_some _ (Heap.get?_push_of_some _ ((s1.2 b hb).trans e))
 show wpAny (model prog w) A _ P E { s with heap:=((s.heap.update a (Obj.mapSeq λ_=>#[])).push (seqObj "tuple" vs.toArray 0)).push (seqObj "list" #[] 0) }
 dsimp only
 have hsz:vs.toArray.size=vs.length:=by simp
 have fin:∀(st':SortSt) (p:Nat->Nat),(arrOf st').size=vs.length->(∀i,i<vs.length->(arrOf st')[i]? = (pairsOf vs)[p i]?)->SoS κ p vs.length->P (.done (.ret .none)) { s with heap:=sortedHeap s.heap a vs ((arrOf st').map (·.2)) }:=by
  intro st' p hz hp hS
  refine h _ p (by rw[Array.size_map];exact hz) (λi hi=>?_) hS
  rw[Array.getElem?_toList,Array.getElem?_map,hp i hi,←Array.getElem?_toList,pairsOf_toList]
  have hpi:=hS.2.2 i hi
  have e1:vs[p i]? = some vs[p i]:=List.getElem?_eq_getElem hpi
  rw[show(vs.zip vs)[p i]? = some (vs[p i],vs[p i]) from List.getElem?_zip_eq_some.mpr ⟨e1,e1⟩,e1]
  rfl
 by_cases h2:vs.toArray.size<2
 ·rw[if_pos h2,if_pos h2]
  refine wpAny_bind (wpAny_pure ?_)
  rw[StateT.run_pure]
  refine wpAny_bind (wpAny_pure ?_)
  dsimp only
  refine wpAny_bind (seqEpoch_at ho6 rfl ?_)
  refine wpAny_bind (listUpdate_at ho6 rfl ?_ (hsz2:=by rw[Array.size_map];show(pairsOf vs).size≤_;rw[pairsOf_size,sizeLine_eq];omega))
  simp only[bne_self_eq_false,Bool.false_eq_true,if_false]
  rw[hsz]at h2
  exact wpAny_pure (fin (SortSt.mk' general' (vs.toArray.zip vs.toArray) #[] 7 none) id (pairsOf_size vs) (λi _=>rfl) ⟨λi j h1 h3=>by omega,λi _=>rfl,λi hi=>hi⟩)
 ·rw[if_neg h2,if_neg h2]
  rw[hsz]at h2
  refine wpAny_bind (hkind (by omega) _ _ kept ?_)
  refine wpAny_bind (wpAny_mono (a5v (a0:=pairsOf vs) (κ:=κ) (kd:=kd) (st:=SortSt.mk' kd (vs.toArray.zip vs.toArray) #[] 7 none)
   (Q:=λ_ st'=>failedOf st'=none∧(arrOf st').size=(pairsOf vs).size∧∃p,(∀i,i<(pairsOf vs).size->(arrOf st')[i]? = (pairsOf vs)[p i]?)∧SoS κ p (pairsOf vs).size)
   (hlt _ kept) ⟨⟨rfl,rfl,rfl,rfl⟩,λi j _ _ e=>e,λi _=>rfl,λi hi=>hi⟩ (by rw[pairsOf_size];omega) (by rw[pairsOf_size];exact h64) λst' a1 a2 a3=>⟨a1,a2,a3⟩) ?_ λ_ _ e=>e)
  rintro ⟨⟨⟩,st'⟩ s' ⟨rfl,hf,hz,p,hp,hS⟩
  rw[pairsOf_size]at hz hp hS
  dsimp only
  refine wpAny_bind (seqEpoch_at ho6 rfl ?_)
  refine wpAny_bind (listUpdate_at ho6 rfl ?_ (hsz2:=by rw[Array.size_map,hz,sizeLine_eq];omega))
  rw[hf]
  simp only[bne_self_eq_false,Bool.false_eq_true,if_false]
  exact wpAny_pure (fin st' p hz hp hS)
theorem a5X {l:Addr}{vs:List Value}{kd:SortKind}{κ:Nat->Int}{Q:Value->Shared->Prop}(hl:s.heap.IsList l vs.toArray)(h64:vs.length<64)
  (hkind:2≤vs.length->∀(h':Heap) (Q:SortKind->Shared->Prop),(∀b o,s.heap.get? b=some o->h'.get? b=some o)->Q kd { s with heap:=h' }->wpAny (model prog w) A.in1.in1 (keyKind' vs.toArray) Q E { s with heap:=h' })
  (hlt:∀h':Heap,(∀b o,s.heap.get? b=some o->h'.get? b=some o)->a1A prog w A.in1.in1 { s with heap:=h' } kd (pairsOf vs) κ)
  (h:∀(out:Array Value) (p:Nat->Nat),out.size=vs.length->(∀i,i<vs.length->out.toList[i]? = vs[p i]?)->SoS κ p vs.length->Q (.ref (s.heap.objs.size+1)) { s with heap:=sortedAll s.heap vs out }) :
  wpAny (model prog w) A (call (.builtin "sorted") [.ref l]) Q E s:=by
 refine Calls.call_function_entry kind_sorted plain_sorted entry_sorted (args_sorted1 _) ?_
 unfold Builtin.«sorted»
 refine wpAny_bind (m:=checkCount "sorted" 1 1 _) (wpAny_pure ?_)
 refine wpAny_bind (collect_list hl ?_ (by rw[sizeLine_eq];omega))
 refine wpAny_bind (wpAny_newList ?_ (by rw[sizeLine_eq];omega))
 have hsz:((s.heap.push (seqObj "list" #[] 0)).update s.heap.objs.size (Obj.mapSeq (· ++ vs.toArray))).objs.size=s.heap.objs.size+1:=by
  rw[Heap.size_update,size_push']
 have hoL:(((s.heap.push (seqObj "list" #[] 0)).update s.heap.objs.size (Obj.mapSeq (· ++ vs.toArray))).push (seqObj "list" vs.toArray 0)).get? (s.heap.objs.size+1)=some (seqObj "list" vs.toArray 0):=by
  rw[←hsz];exact Heap.get?_push_size _ rfl
 have keep:∀b o,s.heap.get? b=some o->(((s.heap.push (seqObj "list" #[] 0)).update s.heap.objs.size (Obj.mapSeq (· ++ vs.toArray))).push (seqObj "list" vs.toArray 0)).get? b=some o∧b≠s.heap.objs.size+1:=λb o q=>by
  have hlt:b<s.heap.objs.size:=Heap.lt_size q
  refine⟨?_,Nat.ne_of_lt (Nat.lt_succ_of_lt hlt)⟩
  rw[Heap.get?_push_ne _ _ _ (by rw[hsz];exact Nat.ne_of_lt (Nat.lt_succ_of_lt hlt)),Heap.get?_update_ne _ _ _ _ (Nat.ne_of_lt hlt),Heap.get?_push_ne _ _ _ (Nat.ne_of_lt hlt)]
  exact q
 show wpAny _ _ _ _ _ { s with heap:=((s.heap.push (seqObj "list" #[] 0)).update s.heap.objs.size (Obj.mapSeq (· ++ vs.toArray))).push (seqObj "list" vs.toArray 0) }
 rw[hsz]
 refine wpAny_bind (wpAny_holding (wpAny_call_entry slot_list_sort ⟨_,hoL,rfl⟩ entry_list_sort (a2z (s:={ s with heap:=((s.heap.push (seqObj "list" #[] 0)).update s.heap.objs.size (Obj.mapSeq (· ++ vs.toArray))).push (seqObj "list" vs.toArray 0) }) hoL h64
  (λh2 h' Q hk hq=>hkind h2 h' Q (λb o e=>hk b o (keep b o e).2 (keep b o e).1) hq) (λh' hk=>hlt h' λb o e=>hk b o (keep b o e).2 (keep b o e).1) λout p a1 a2 a3=>⟨_,rfl,?_⟩) (args_list_sort _)))
 exact wpAny_pure ⟨_,rfl,h out p a1 a2 a3⟩
end
noncomputable def a3Q (K:Frag)(H:Hp):List Int->List V->Prop
 | [],xs=>xs=[]
 | n::ns,xs=>∃t r ys,xs = .ref t::ys∧SqT K H t (.int n::r)∧a3Q K H ns ys
theorem a3Q.len {K:Frag}{H:Hp}:∀{ns:List Int} {xs:List V},a3Q K H ns xs->xs.length=ns.length
 | [],_,h=>by cases h;rfl
 | n::ns,_,⟨t,r,ys,rfl,_,h⟩=>by simp[a3Q.len h]
theorem a3Q.get {K:Frag}{H:Hp}:∀{ns:List Int} {xs:List V} {i:Nat} {n:Int},a3Q K H ns xs->ns[i]? = some n->∃t r,xs[i]? = some (.ref t)∧SqT K H t (.int n::r)
 | [],_,_,_,_,e=>by simp at e
 | m::ns,_,0,n,⟨t,r,ys,rfl,h1,h⟩,e=>by
  simp at e;subst e;exact⟨t,r,rfl,h1⟩
 | m::ns,_,i+1,n,⟨t,r,ys,rfl,h1,h⟩,e=>by
  obtain⟨t',r',a,b⟩:=h.get (i:=i) (by simpa using e)
  exact⟨t',r',by simpa using a,b⟩
section
variable {X:Cx}{K:PySem.W.Frag}
noncomputable def b17 (K:Frag):List V->Hp->VK->Prop:=λxs H Q=>∃(a:Addr) (zs:List V) (ns:List Int),xs=[.ref a]∧SqL K H a zs∧a3Q K H ns zs∧ns.Nodup∧ns.length<64 ∧
 ∀(p:Addr) (ys:List V),H p=none->a0D (ns.map V.int) zs ys->Q (.ref p) (upd H p (.lst ys))
theorem a4H (hK:X.K=K):A3 X (.builtin "sorted") (b17 K):=by
 subst hK
 intro pins s σ H xs us Q I r h
 obtain⟨a,zs,ns,rfl,hq,hT,hnd,h64,q⟩:=h
 obtain⟨u,rfl,ru⟩:=U5 r
 cases ru
 obtain⟨its,rv,p,hz⟩:=I.list hq
 have hl1:=hT.len
 have hl2:its.length=zs.length:=rv.length.symm
 -- each item: a tuple in the heap with its int in front
 have item:∀(i:Nat) (n:Int),ns[i]? = some n->∃(t:Addr) (o:Obj) (ys:Array Value) (k:Nat) (tk:Tok),its[i]? = some (.ref t)∧s.heap.get? t=some o∧o.cls = .type "tuple" ∧ o.data = .seq ys k∧ys[0]? = some (.int n tk):=λi n e=>by
  obtain⟨t,r,e1,e2⟩:=hT.get e
  obtain⟨u,e3,e4⟩:=rv.get e1
  cases e4
  obtain⟨ys,ry,⟨o,ho,hc,k,hd⟩,_⟩:=I.tuple e2
  cases ry with
  | cons r1 r2 =>
   obtain⟨tk,rfl⟩:=r1
   exact⟨t,o,_,k,tk,e3,ho,hc,hd,by simp⟩
 have tups:∀(h':Heap),(∀b o,s.heap.get? b=some o->h'.get? b=some o)->∀(ms:List Int) (vs:List Value),ms.length=vs.length->(∀(i:Nat) (n:Int),ms[i]? = some n->∃(t:Addr) (o:Obj) (ys:Array Value) (k:Nat) (tk:Tok),vs[i]? = some (.ref t)∧s.heap.get? t=some o∧o.cls = .type "tuple" ∧ o.data = .seq ys k∧ys[0]? = some (.int n tk)) ->
   ∃fs:List Value,KatTups h' vs fs∧fs.length=vs.length∧∀v∈fs,∃n t,v=Value.int n t:=by
  intro h' hk ms
  induction ms with
  | nil =>
   intro vs hl _
   rw[List.length_eq_zero_iff.mp hl.symm]
   exact⟨[],KatTups.nil,rfl,λv hv=>by simp at hv⟩
  | cons m ms ih =>
   intro vs hl hi
   cases vs with
   | nil=>simp at hl
   | cons v vs =>
    obtain⟨t,o,ys,k,tk,e1,e2,e3,e4,e5⟩:=hi 0 m rfl
    have e1:some v=some (Value.ref t):=e1
    cases e1
    obtain⟨fs,f1,f2,f3⟩:=ih vs (by simpa using hl) λi n e=>by
     obtain⟨t,o,ys,k,tk,g1,g⟩:=hi (i+1) n (by simpa using e)
     exact⟨t,o,ys,k,tk,by simpa using g1,g⟩
    refine⟨.int m tk::fs,KatTups.cons (hk _ _ e2) e3 e4 e5 f1,by simp[f2],λv hv=>?_⟩
    rcases List.mem_cons.mp hv with rfl | hv
    ·exact⟨m,tk,rfl⟩
    ·exact f3 v hv
 refine a5X (kd:=tuples' true) (κ:=M0 (ns.map V.int)) p.isList (by omega) (λh2 h' Q' hk hQ=>?_) (λh' hk=>?_) λout p' a1 a2 a3=>?_
 ·obtain⟨fs,f1,f2,f3⟩:=tups h' hk ns its (by omega) item
  refine kat_kind (T:=.type "int") (s:={ s with heap:=h' }) f1 (by omega) (λv hv=>?_) rfl hQ
  obtain⟨n,t,rfl⟩:=f3 v hv
  exact .now
 ·intro i j x y hij ex ey E Q' hQ
  rw[←Array.getElem?_toList,pairsOf_toList,List.getElem?_zip_eq_some]at ex ey
  have hi:i<ns.length:=by have:=(List.getElem?_eq_some_iff.mp ex.1).1;omega
  have hj:j<ns.length:=by have:=(List.getElem?_eq_some_iff.mp ey.1).1;omega
  obtain⟨t1,o1,ys1,k1,tk1,b1,b2,b3,b4,b5⟩:=item i ns[i] (List.getElem?_eq_getElem hi)
  obtain⟨t2,o2,ys2,k2,tk2,c1,c2,c3,c4,c5⟩:=item j ns[j] (List.getElem?_eq_getElem hj)
  rw[b1]at ex
  rw[c1]at ey
  rw[←Option.some.inj ex.1,←Option.some.inj ey.1]
  have n1:M0 (ns.map V.int) i=ns[i]:=by
   unfold M0;rw[List.getD_eq_getElem?_getD,List.getElem?_map,List.getElem?_eq_getElem hi];rfl
  have n2:M0 (ns.map V.int) j=ns[j]:=by
   unfold M0;rw[List.getD_eq_getElem?_getD,List.getElem?_map,List.getElem?_eq_getElem hj];rfl
  rw[n1,n2]at hQ
  have hne:ns[i]≠ns[j]:=λe=>hij ((List.getElem_inj hnd).mp e)
  refine kat_lt (s:={ s with heap:=h' }) (hk _ _ b2) b4 (hk _ _ c2) c4 ?_
  obtain⟨r1,er1⟩:∃r1,ys1.toList = .int ns[i] tk1::r1:=by
   cases e:ys1.toList with
   | nil=>rw[←Array.getElem?_toList,e]at b5;simp at b5
   | cons z r=>rw[←Array.getElem?_toList,e]at b5;simp at b5;exact⟨r,by rw[b5]⟩
  obtain⟨r2,er2⟩:∃r2,ys2.toList = .int ns[j] tk2::r2:=by
   cases e:ys2.toList with
   | nil=>rw[←Array.getElem?_toList,e]at c5;simp at c5
   | cons z r=>rw[←Array.getElem?_toList,e]at c5;simp at c5;exact⟨r,by rw[c5]⟩
  rw[er1,er2,List.zip_cons_cons]
  refine kat_cons (wpAny_eqBool_int ?_)
  have hb:(ns[i] == ns[j])=false:=by simpa using hne
  rw[hb]
  refine kat_no ?_
  exact oneLt_int hQ
 ·have hlen:zs.length=its.length:=hl2.symm
  obtain⟨e,he⟩:=sortedAll_at s.heap its out
  have ysl:((List.range its.length).map λi=>zs.getD (p' i) .non).length=its.length:=by rw[List.length_map,List.length_range]
  have ysg:∀i,i<its.length->((List.range its.length).map λi=>zs.getD (p' i) .non)[i]? = zs[p' i]?:=λi hi=>by
   rw[List.getElem?_map,List.getElem?_range hi]
   have hpi:=a3.2.2 i hi
   show some (zs.getD (p' i) .non)=_
   rw[List.getD_eq_getElem?_getD,List.getElem?_eq_getElem (by omega)]
   rfl
  have I1:Inv X pins σ (upd H (s.heap.objs.size+1) (.lst ((List.range its.length).map λi=>zs.getD (p' i) .non))) { s with heap:=sortedAll s.heap its out,toks:=s.toks } :=
   I.laid (a:=s.heap.objs.size+1) (λb o ho=>sortedAll_old ho) (Nat.le_succ _) ⟨by rw[ysl,sizeLine_eq];omega,out.toList,e,K5 (by rw[ysl,atl out,a1]) (λi x u hx hu=>by
    have hi:i<its.length:=by
     have:=(List.getElem?_eq_some_iff.mp hx).1
     rwa [ysl]at this
    rw[ysg i hi]at hx
    rw[a2 i hi]at hu
    obtain⟨u',g1,g2⟩:=rv.get hx
    rw[g1]at hu
    rw[←Option.some.inj hu]
    exact g2),by rw[he]⟩
  exact⟨.ref (s.heap.objs.size+1),_,I1,rfl,q _ _ (I.hok.fresh (Nat.le_succ _)) ⟨by rw[ysl,hlen],p',by rw[hlen];exact a3,λi hi=>ysg i (by omega)⟩⟩
end
end L2
namespace L2
noncomputable def N9 {α:Type}(p:Int × α):List (Int × α)->List (Int × α)
 | []=>[p]
 | q::r=>if p.1≤q.1 then p::q::r else q::N9 p r
noncomputable def r6 {α:Type}:List (Int × α)->List (Int × α)
 | []=>[]
 | p::r=>N9 p (r6 r)
theorem a3P {α β:Type}(f:α->β)(p:Int × α):∀l:List (Int × α),N9 (p.1,f p.2) (l.map λq=>(q.1,f q.2))=(N9 p l).map λq=>(q.1,f q.2)
 | []=>rfl
 | q::r=>by
  simp only[List.map_cons,N9]
  split
  ·rfl
  ·rw[List.map_cons,a3P f p r]
theorem V7 {α β:Type}(f:α->β):∀l:List (Int × α),r6 (l.map λq=>(q.1,f q.2))=(r6 l).map λq=>(q.1,f q.2)
 | []=>rfl
 | p::r=>by
  rw[List.map_cons,r6,r6,V7 f r]
  exact a3P f p _
theorem N3 {α:Type}(p:Int × α):∀l:List (Int × α),(N9 p l).Perm (p::l)
 | []=>.refl _
 | q::r=>by
  rw[N9]
  split
  ·exact .refl _
  ·exact((N3 p r).cons q).trans (.swap p q r)
theorem u8 {α:Type}:∀l:List (Int × α),(r6 l).Perm l
 | []=>.refl _
 | p::r=>(N3 p _).trans ((u8 r).cons p)
noncomputable def LxP (a b:Int×Nat):Prop:=a.1<b.1∨(a.1=b.1∧a.2<b.2)
theorem a59 {p:Int×Nat}:∀{l:List (Int×Nat)},l.Pairwise LxP->(∀q∈l,p.2<q.2)->(N9 p l).Pairwise LxP
 | [],_,_=>by simp[N9]
 | q::r,h,hl=>by
  rw[List.pairwise_cons]at h
  rw[N9]
  split
  ·rename_i hle
   refine List.pairwise_cons.mpr ⟨λz hz=>?_,List.pairwise_cons.mpr h⟩
   have h1:LxP p q:=by
    rcases Int.lt_or_eq_of_le hle with e | e
    ·exact .inl e
    ·exact .inr ⟨e,hl q List.mem_cons_self⟩
   rcases List.mem_cons.mp hz with rfl | hz
   ·exact h1
   ·have h2:=h.1 z hz
    unfold LxP at h1 h2 ⊢
    omega
  ·rename_i hgt
   refine List.pairwise_cons.mpr ⟨λz hz=>?_,a59 h.2 λz hz=>hl z (List.mem_cons_of_mem _ hz)⟩
   rcases List.mem_cons.mp ((N3 p r).mem_iff.mp hz) with rfl | hz
   ·exact .inl (by omega)
   ·exact h.1 z hz
theorem a23:∀{l:List (Int×Nat)},l.Pairwise (λa b=>a.2<b.2)->(r6 l).Pairwise LxP
 | [],_=>.nil
 | p::r,h=>by
  rw[List.pairwise_cons]at h
  exact a59 (a23 h.2) λq hq=>h.1 q ((u8 r).mem_iff.mp hq)
theorem a27:∀{l₁ l₂:List (Int×Nat)},l₁.Perm l₂->l₁.Pairwise LxP->l₂.Pairwise LxP->l₁=l₂
 | [],l₂,p,_,_=>p.nil_eq
 | a::r,[],p,_,_=>by have:=p.length_eq;simp at this
 | a::r,b::t,p,h1,h2=>by
  rw[List.pairwise_cons]at h1 h2
  have ab:a=b:=by
   rcases List.mem_cons.mp (p.mem_iff.mp (List.mem_cons_self (a:=a) (l:=r))) with e | e
   ·exact e
   ·rcases List.mem_cons.mp (p.mem_iff.mpr (List.mem_cons_self (a:=b) (l:=t))) with e2 | e2
    ·exact e2.symm
    ·have q1:=h2.1 a e
     have q2:=h1.1 b e2
     unfold LxP at q1 q2
     omega
  subst ab
  rw[a27 (p.cons_inv) h1.2 h2.2]
theorem a1a:∀(n:Nat) (l:List Nat),l.Nodup->(∀x∈l,x<n)->l.length=n->l.Perm (List.range n)
 | 0,l,_,_,hl=>by rw[List.length_eq_zero_iff.mp hl];exact .refl _
 | n+1,l,hd,hb,hl=>by
  have short:∀(m:Nat) (l:List Nat),l.Nodup->(∀x∈l,x<m)->l.length≤m:=by
   intro m
   induction m with
   | zero =>
    intro l _ hb
    cases l with
    | nil=>simp
    | cons a r=>exact absurd (hb a List.mem_cons_self) (by omega)
   | succ m ih =>
    intro l hd hb
    by_cases hm:m∈l
    ·have e:=ih (l.erase m) (hd.erase m) λx hx=>by
      have h1:=hb x (List.mem_of_mem_erase hx)
      have h2:x≠m:=λz=>by subst z;exact(List.Nodup.not_mem_erase hd) hx
      omega
     rw[List.length_erase_of_mem hm]at e
     omega
    ·have e:=ih l hd λx hx=>by
      have h1:=hb x hx
      have h2:x≠m:=λz=>hm (z▸hx)
      omega
     omega
  have hn:n∈l:=by
   by_cases hm:n∈l
   ·exact hm
   ·have e:=short n l hd λx hx=>by
     have h1:=hb x hx
     have h2:x≠n:=λz=>hm (z▸hx)
     omega
    omega
  have ih:=a1a n (l.erase n) (hd.erase n) (λx hx=>by
   have h1:=hb x (List.mem_of_mem_erase hx)
   have h2:x≠n:=λz=>by subst z;exact(List.Nodup.not_mem_erase hd) hx
   omega) (by rw[List.length_erase_of_mem hn];omega)
  refine(List.perm_cons_erase hn).trans ((ih.cons n).trans ?_)
  rw[List.range_succ]
  exact(List.perm_append_singleton n (List.range n)).symm
theorem a3F {ks xs ys:List V}(h:a0D ks xs ys)(hl:ks.length=xs.length):ys=(r6 ((ks.map a1Y).zip xs)).map Prod.snd:=by
 obtain⟨hy,p,hS,hp⟩:=h
 generalize hn:xs.length=n at hy hS hp hl
 have nd:((List.range n).map p).Nodup:=by
  rw[List.nodup_iff_pairwise_ne,List.pairwise_iff_getElem]
  intro i j hi hj hij
  have hj':j<n:=by simpa using hj
  simp only[List.getElem_map,List.getElem_range]
  intro e
  have q:=hS.1 i j hij hj'
  rw[e]at q
  unfold Lx at q
  omega
 have pr:=a1a n ((List.range n).map p) nd (λx hx=>by
  obtain⟨i,hi,rfl⟩:=List.mem_map.mp hx
  exact hS.2.2 i (List.mem_range.mp hi)) (by simp)
 have q1:(((List.range n).map p).map λi=>(M0 ks i,i)).Pairwise LxP:=by
  rw[List.pairwise_iff_getElem]
  intro i j hi hj hij
  have hj':j<n:=by simpa using hj
  simp only[List.getElem_map,List.getElem_range]
  exact hS.1 i j hij hj'
 have q2:(r6 ((List.range n).map λi=>(M0 ks i,i))).Pairwise LxP:=a23 (by
  rw[List.pairwise_iff_getElem]
  intro i j hi hj hij
  simpa using hij)
 have e:=a27 ((pr.map λi=>(M0 ks i,i)).trans (u8 _).symm) q1 q2
 have ez:(ks.map a1Y).zip xs=((List.range n).map λi=>(M0 ks i,i)).map λq=>(q.1,xs.getD q.2 .non):=by
  refine List.ext_getElem? λi=>?_
  rw[List.map_map]
  by_cases hi:i<n
  ·have h1:(ks.map a1Y)[i]? = some (M0 ks i):=by
    rw[List.getElem?_map]
    unfold M0
    rw[List.getD_eq_getElem?_getD,List.getElem?_eq_getElem (by omega)]
    rfl
   have h2:xs[i]? = some (xs.getD i .non):=by
    rw[List.getD_eq_getElem?_getD,List.getElem?_eq_getElem (by omega)]
    rfl
   rw[show((ks.map a1Y).zip xs)[i]? = some (M0 ks i,xs.getD i .non) from List.getElem?_zip_eq_some.mpr ⟨h1,h2⟩,List.getElem?_map,List.getElem?_range hi]
   rfl
  ·rw[List.getElem?_eq_none (by rw[List.length_zip,List.length_map];omega),List.getElem?_eq_none (by simp;omega)]
 rw[ez,V7 (λi=>xs.getD i .non),←e,List.map_map,List.map_map,List.map_map]
 refine List.ext_getElem? λi=>?_
 by_cases hi:i<n
 ·rw[hp i hi,List.getElem?_map,List.getElem?_range hi]
  have hpi:=hS.2.2 i hi
  show xs[p i]? = some (xs.getD (p i) .non)
  rw[List.getD_eq_getElem?_getD,List.getElem?_eq_getElem (by omega)]
  rfl
 ·rw[List.getElem?_eq_none (by omega),List.getElem?_eq_none (by simp;omega)]
end L2
namespace L3
open PySem PySem.Spec PyProof.Rows L2
noncomputable abbrev St:=L2.St
noncomputable def hid (H:Hp)(B:List Addr):Hp:=λb=>if b∈B then none else H b
theorem j8 {H:Hp}{B:List Addr}{b:Addr}(h:b ∉ B):hid H B b=H b:=by unfold hid;rw[if_neg h]
theorem A4 {H:Hp}{B:List Addr}{b:Addr}(h:b∈B):hid H B b=none:=by unfold hid;rw[if_pos h]
theorem d4 {H:Hp}{B:List Addr}:i4 (hid H B) H:=λb o e=>by
 by_cases h:b∈B
 ·rw[A4 h]at e;cases e
 ·rwa [j8 h]at e
theorem N8 {H:Hp}{B B':List Addr}(s:∀b∈B',b∈B):i4 (hid H B) (hid H B'):=λb o e=>by
 by_cases h:b∈B
 ·rw[A4 h]at e;cases e
 ·rw[j8 h]at e;rw[j8 λz=>h (s b z)];exact e
noncomputable def Kp (fp:List Addr)(H H':Hp):Prop:=∀b o,H b=some o->b ∉ fp->H' b=some o
theorem Kp.refl {fp:List Addr}{H:Hp}:Kp fp H H:=λ_ _ e _=>e
theorem Kp.trans {fp:List Addr}{H H1 H2:Hp}(a:Kp fp H H1)(b:Kp fp H1 H2):Kp fp H H2:=λc o e n=>b c o (a c o e n) n
theorem Kp.same {fp:List Addr}{H H':Hp}(s:i4 H H'):Kp fp H H':=λb o e _=>s b o e
theorem Kp.upd {fp:List Addr}{H:Hp}{p:Addr}{o:HO}(hp:H p=none):Kp fp H (upd H p o):=Kp.same (i4.upd hp)
theorem Kp.hid {fp B:List Addr}{H H':Hp}(k:Kp fp H H')(s:∀b∈fp,b∈B):i4 (hid H B) (hid H' B):=λb o e=>by
 by_cases h:b∈B
 ·rw[A4 h]at e;cases e
 ·rw[j8 h]at e ⊢;exact k b o e λz=>h (s b z)
theorem S7 {H:Hp}{B:List Addr}{a:Addr}{o:HO}(h:a∈B):hid (upd H a o) B=hid H B:=by
 funext b
 by_cases hb:b∈B
 ·rw[A4 hb,A4 hb]
 ·rw[j8 hb,j8 hb,d8];intro e;subst e;exact hb h
noncomputable def B7 (K:PySem.W.Frag)(fp B:List Addr)(H:Hp):PyData->V->Prop
 | .tuple ds,v=>∃a xs,v = .ref a∧SqT K (hid H B) a xs∧a6 K (hid H B) ds xs
 | .list ds,v=>∃a xs,v = .ref a∧hid H fp a=some (.lst xs)∧a6 K (hid H B) ds xs
 | .none,v=>v = .non
 | .bool b,v=>v = .bl b
 | .int i,v=>v = .int i
 | .str x,v=>v = .str x
 | .dict _,_=>False
section
variable {K:PySem.W.Frag}{fp B:List Addr}{H H':Hp}{d:PyData}{v:V}
theorem b0e (h:b7 K (hid H B) d v)(s:∀b∈fp,b∈B):B7 K fp B H d v:=by
 cases d with
 | tuple ds =>
  simp only[b7]at h
  obtain⟨a,xs,e,hq,hd⟩:=h
  exact⟨a,xs,e,hq,hd⟩
 | list ds =>
  simp only[b7]at h
  obtain⟨a,xs,e,hq,hd⟩:=h
  exact⟨a,xs,e,N8 s _ _ hq,hd⟩
 | _=>simpa only[b7,B7] using h
theorem B7.dat (h:B7 K fp B H d v):b7 K H d v:=by
 cases d with
 | tuple ds =>
  obtain⟨a,xs,e,hq,hd⟩:=h
  simp only[b7]
  exact⟨a,xs,e,hq.same d4,hd.same d4⟩
 | list ds =>
  obtain⟨a,xs,e,hq,hd⟩:=h
  simp only[b7]
  exact⟨a,xs,e,d4 _ _ hq,hd.same d4⟩
 | _=>simpa only[b7,B7] using h
theorem B7.step (h:B7 K fp B H d v)(k:Kp fp H H')(s:∀b∈fp,b∈B):B7 K fp B H' d v:=by
 have sm:=k.hid s
 have sf:=k.hid (B:=fp) λ_ z=>z
 cases d with
 | tuple ds =>
  obtain⟨a,xs,e,hq,hd⟩:=h
  exact⟨a,xs,e,hq.same sm,hd.same sm⟩
 | list ds =>
  obtain⟨a,xs,e,hq,hd⟩:=h
  exact⟨a,xs,e,sf _ _ hq,hd.same sm⟩
 | _=>exact h
theorem B7.tup {ds:List PyData}(h:B7 K fp B H (.tuple ds) v):b7 K (hid H B) (.tuple ds) v:=by
 obtain⟨a,xs,e,hq,hd⟩:=h
 simp only[b7]
 exact⟨a,xs,e,hq,hd⟩
noncomputable def BOk (H:Hp)(B:List Addr):Prop:=∀b∈B,∃o,H b=some o
theorem BOk.nin (h:BOk H B){p:Addr}(hp:H p=none):p ∉ B:=λz=>by
 obtain⟨o,e⟩:=h p z;rw[hp]at e;cases e
theorem L1 {p:Addr}{ds:List PyData}{xs:List V}(bk:BOk H B)(hp:H p=none)(h:a6 K (hid H B) ds xs):b7 K (hid (upd H p (.tup xs)) B) (.tuple ds) (.ref p):=by
 have e:i4 (hid H B) (hid (upd H p (.tup xs)) B):=(Kp.upd (fp:=[]) hp).hid (by simp)
 refine b7.tup ?_ (h.same e)
 rw[j8 (bk.nin hp)];exact g6
theorem D8 {p:Addr}{ds:List PyData}{xs:List V}(bk:BOk H B)(hp:H p=none)(h:a6 K (hid H B) ds xs):b7 K (hid (upd H p (.lst xs)) B) (.list ds) (.ref p):=by
 have e:i4 (hid H B) (hid (upd H p (.lst xs)) B):=(Kp.upd (fp:=[]) hp).hid (by simp)
 refine b7.lst ?_ (h.same e)
 rw[j8 (bk.nin hp)];exact g6
end
noncomputable def NoT (o:HO):Prop:=(∀ps,o ≠ .tbl ps)∧∀φ,o ≠ .ext φ
class Feeds where
 S:Type
 At:Addr->Addr->Hp->S->Prop
 some1:∀{d c H F},At d c H F->∃o,H d=some o∧NoT o
 some2:∀{d c H F},At d c H F->∃o,H c=some o∧NoT o
 congr:∀{d c H H' F},At d c H F->H' d=H d->H' c=H c->At d c H' F
 lam:List Str
noncomputable abbrev GF:=Option (Addr×Addr)
noncomputable def tabsK (l:List Str)(K:PySem.W.Frag):List (Str×Addr×Addr):=l.filterMap λx=>(PySem.W.tabIn K x).map λp=>(x,p)
noncomputable def a3K (x:Str):Str:=x ++ ".<locals>." ++ "<lambda>"
noncomputable def J5 (ts:List (Str×Addr×Addr))(H:Hp):Prop:=∀t∈ts,a2e H t.2.2 (a3K t.1)
theorem J5.congr {ts:List (Str×Addr×Addr)}{H H':Hp}(h:J5 ts H)(e:∀b,(b∈ts.map (·.2.2)∨∃φ,H b=some (.ext φ))->H' b=H b):J5 ts H':=λt ht=>by
 obtain⟨ps,h1,h2,h3⟩:=h t ht
 refine⟨ps,(e _ (.inl (List.mem_map_of_mem ht))).trans h1,h2,λpos cv q=>?_⟩
 obtain⟨c,r1,r2⟩:=h3 pos cv q
 exact⟨c,r1,(e c (.inr ⟨_,r2⟩)).trans r2⟩
theorem J5.but {ts:List (Str×Addr×Addr)}{H H':Hp}{d:Addr}{o0:HO}(h:J5 ts H)(hd:H d=some o0)(hn:NoT o0)(kp:∀b o,H b=some o->b≠d->H' b=some o):J5 ts H':=h.congr λb hb=>by
 obtain⟨o,e,hne⟩:∃o,H b=some o∧b≠d:=by
  rcases hb with hb | ⟨φ,e⟩
  ·obtain⟨t,ht,rfl⟩:=List.mem_map.mp hb
   obtain⟨ps,e,_⟩:=h t ht
   exact⟨_,e,λz=>by rw[z,hd]at e;exact hn.1 ps (Option.some.inj e)⟩
  ·exact⟨_,e,λz=>by rw[z,hd]at e;exact hn.2 φ (Option.some.inj e)⟩
 rw[e];exact kp b o e hne
section
variable [Feeds]
noncomputable def tabP (K:PySem.W.Frag):List Addr:=(tabsK Feeds.lam K).map (·.2.2)
noncomputable def k9 (K:PySem.W.Frag):GF->List Addr
 | none=>tabP K
 | some (d,c)=>d::c::tabP K
theorem a6X {K:PySem.W.Frag}{G:GF}{b:Addr}(h:b∈tabP K):b∈k9 K G:=by
 cases G with
 | none=>exact h
 | some p=>exact List.mem_cons_of_mem _ (List.mem_cons_of_mem _ h)
noncomputable abbrev FS:=Feeds.S
noncomputable abbrev M (α:Type):=FS->Option (α×FS)
noncomputable def b3a (G:GF)(H:Hp)(F:FS):Prop:=match G with
 | none=>True
 | some (d,c)=>Feeds.At d c H F
noncomputable def FAt (K:PySem.W.Frag)(G:GF)(H:Hp)(F:FS):Prop:=b3a G H F∧J5 (tabsK Feeds.lam K) H
theorem FAt.bok {K:PySem.W.Frag}{G:GF}{H:Hp}{F:FS}(h:FAt K G H F):BOk H (k9 K G):=λb hb=>by
 have tb:b∈tabP K->∃o,H b=some o:=λz=>by
  obtain⟨t,ht,rfl⟩:=List.mem_map.mp z
  obtain⟨ps,h1,_⟩:=h.2 t ht
  exact⟨_,h1⟩
 cases G with
 | none=>exact tb hb
 | some p =>
  obtain⟨d,c⟩:=p
  simp only[k9,List.mem_cons]at hb
  rcases hb with rfl | rfl | hb
  ·obtain⟨o,e,_⟩:=Feeds.some1 h.1;exact⟨o,e⟩
  ·obtain⟨o,e,_⟩:=Feeds.some2 h.1;exact⟨o,e⟩
  ·exact tb hb
theorem FAt.congr {K:PySem.W.Frag}{G:GF}{H H':Hp}{F:FS}(h:FAt K G H F)(e:∀b,(b∈k9 K G∨∃φ,H b=some (.ext φ))->H' b=H b):FAt K G H' F:=by
 refine⟨?_,h.2.congr λb hb=>e b (hb.imp a6X id)⟩
 cases G with
 | none=>trivial
 | some p =>
  obtain⟨d,c⟩:=p
  exact Feeds.congr h.1 (e d (.inl (by simp[k9]))) (e c (.inl (by simp[k9])))
theorem FAt.same {K:PySem.W.Frag}{G:GF}{H H':Hp}{F:FS}(h:FAt K G H F)(s:i4 H H'):FAt K G H' F:=h.congr λb hb=>by
 rcases hb with hb | ⟨φ,e⟩
 ·obtain⟨o,e⟩:=h.bok b hb
  rw[e];exact s b o e
 ·rw[e];exact s b _ e
inductive DV where
 | dat (d:PyData) | feed | own (ds:List PyData)
noncomputable abbrev DE:=List (Option DV)
noncomputable def DVr (K:PySem.W.Frag)(G:GF)(B:List Addr)(H:Hp):DV->V->Prop
 | .dat d,v=>b7 K (hid H B) d v
 | .feed,v=>∃d c,G=some (d,c)∧v = .ref d
 | .own ds,v=>∃a xs,v = .ref a∧a∈B∧a ∉ k9 K G∧H a=some (.lst xs)∧a6 K (hid H B) ds xs
structure SitE (K:PySem.W.Frag) (G:GF) (B:List Addr) (E:DE) (F:FS) (σ:St) (H:Hp):Prop where
 fd:FAt K G H F
 fB:∀b∈k9 K G,b∈B
 bk:BOk H B
 ln:E.length = σ.length
 loc:∀(i:Nat) (x:DV),E[i]? = some (some x)->∃v,σ[i]? = some (some v)∧DVr K G B H x v
section
variable {K:PySem.W.Frag}{G:GF}{B:List Addr}{E:DE}{F F':FS}{σ:St}{H H':Hp}
theorem v0 (bk:BOk H B)(k:Kp (k9 K G) H H')(f:FAt K G H' F'):BOk H' B:=λb hb=>by
 by_cases h:b∈k9 K G
 ·exact f.bok b h
 ·obtain⟨o,e⟩:=bk b hb
  exact⟨o,k b o e h⟩
theorem DVr.step {x:DV}{v:V}(h:DVr K G B H x v)(k:Kp (k9 K G) H H')(fB:∀b∈k9 K G,b∈B):DVr K G B H' x v:=by
 cases x with
 | dat d=>exact b7.same (h:b7 _ _ _ _) (k.hid fB)
 | feed=>exact h
 | own ds =>
  obtain⟨a,xs,e,hB,hf,ha,hd⟩:=h
  exact⟨a,xs,e,hB,hf,k a _ ha hf,hd.same (k.hid fB)⟩
theorem SitE.step (I:SitE K G B E F σ H)(k:Kp (k9 K G) H H')(f:FAt K G H' F'):SitE K G B E F' σ H' :=
 ⟨f,I.fB,v0 I.bk k f,I.ln,λi x e=>by
  obtain⟨v,h1,h2⟩:=I.loc i x e
  exact⟨v,h1,h2.step k I.fB⟩⟩
end
end
end L3
namespace L3
open PySem PySem.Spec PyProof.Rows L2
section
variable [Feeds]
noncomputable def TEd (K:PySem.W.Frag)(te:TE)(m:DE->M PyData):Prop:=∀(G:GF) (B:List Addr) (E:DE) (F:FS) (σ:St) (H:Hp) (Q:VK) (d:PyData) (F':FS),SitE K G B E F σ H->m E F=some (d,F') ->
 (∀v H',Kp (k9 K G) H H'->FAt K G H' F'->b7 K (hid H' B) d v->Q v H')->te σ H Q
noncomputable def TEs (K:PySem.W.Frag)(te:TE)(m:DE->M PyData):Prop:=∀(G:GF) (B:List Addr) (E:DE) (F:FS) (σ:St) (H:Hp) (Q:VK) (d:PyData) (F':FS),SitE K G B E F σ H->m E F=some (d,F') ->
 (∀v H',Kp (k9 K G) H H'->FAt K G H' F'->B7 K (k9 K G) B H' d v->Q v H')->te σ H Q
theorem TEd.sh {K:PySem.W.Frag}{te:TE}{m:DE->M PyData}(h:TEd K te m):TEs K te m:=λG B E F σ H Q d F' I e q=>h G B E F σ H Q d F' I e λv H' k f hd=>q v H' k f (b0e hd I.fB)
noncomputable def TTd (K:PySem.W.Frag)(tt:TT)(m:DE->M Bool):Prop:=∀(G:GF) (B:List Addr) (E:DE) (F:FS) (σ:St) (H:Hp) (Q:Bool->Hp->Prop) (b:Bool) (F':FS),SitE K G B E F σ H->m E F=some (b,F') ->
 (∀H',Kp (k9 K G) H H'->FAt K G H' F'->Q b H')->tt σ H Q
noncomputable def TAd (K:PySem.W.Frag)(ta:TA)(m:DE->M (List PyData)):Prop:=∀(G:GF) (B:List Addr) (E:DE) (F:FS) (σ:St) (H:Hp) (Q:List V->Hp->Prop) (ds:List PyData) (F':FS),SitE K G B E F σ H->m E F=some (ds,F') ->
 (∀vs H',Kp (k9 K G) H H'->FAt K G H' F'->a6 K (hid H' B) ds vs->Q vs H')->ta σ H Q
noncomputable def a1h (K:PySem.W.Frag)(fp B:List Addr)(H:Hp):List PyData->List V->Prop
 | [],vs=>vs=[]
 | d::ds,vs=>∃v r,vs=v::r∧B7 K fp B H d v∧a1h K fp B H ds r
noncomputable def TAs (K:PySem.W.Frag)(ta:TA)(m:DE->M (List PyData)):Prop:=∀(G:GF) (B:List Addr) (E:DE) (F:FS) (σ:St) (H:Hp) (Q:List V->Hp->Prop) (ds:List PyData) (F':FS),SitE K G B E F σ H->m E F=some (ds,F') ->
 (∀vs H',Kp (k9 K G) H H'->FAt K G H' F'->a1h K (k9 K G) B H' ds vs->Q vs H')->ta σ H Q
structure Ev (K:PySem.W.Frag) (X:Cx) (e:Expr) (te:TE) (m:DE->M PyData):Prop where
 pe:PE X e te
 ok:TEd K te m
structure Eb (K:PySem.W.Frag) (X:Cx) (e:Expr) (te:TE) (m:DE->M PyData):Prop where
 pe:PE X e te
 ok:TEs K te m
structure Et (K:PySem.W.Frag) (X:Cx) (e:Expr) (tt:TT) (m:DE->M Bool):Prop where
 pt:PT X e tt
 ok:TTd K tt m
structure Ew (K:PySem.W.Frag) (X:Cx) (e:Expr) (tt:TT) (m:DE->M Bool):Prop where
 pw:PW X e tt
 ok:TTd K tt m
structure Ea (K:PySem.W.Frag) (X:Cx) (es:List Expr) (ta:TA) (m:DE->M (List PyData)):Prop where
 pa:PA X es ta
 ok:TAd K ta m
structure Es (K:PySem.W.Frag) (X:Cx) (es:List Expr) (ta:TA) (m:DE->M (List PyData)):Prop where
 pa:PA X es ta
 ok:TAs K ta m
variable {K:PySem.W.Frag}{X:Cx}{a b c e:Expr}{es:List Expr}{ta tb tc te:TE}{ma mb mc m:DE->M PyData}{pos:Pos}
theorem Ev.bw (h:Ev K X e te m):Eb K X e te m:=⟨h.pe,h.ok.sh⟩
noncomputable def sC (d:PyData):DE->M PyData:=λ_ F=>some (d,F)
noncomputable def sV (i:Nat):DE->M PyData:=λE F=>match E[i]? with
 | some (some (.dat d))=>some (d,F)
 | _=>none
noncomputable def sW (i:Nat):DE->M PyData:=λE F=>match E[i]? with
 | some (some (.dat d))=>some (d,F)
 | some (some (.own ds))=>some (.list ds,F)
 | _=>none
theorem a9o {d:PyData}{v:V}(h:∀H,b7 K H d v):TEd K (tC v) (sC d):=λG B E F σ H Q d' F' I e q=>by
 cases e
 exact q v H Kp.refl I.fd (h _)
theorem i5 {i j}:Ev K X (.Constant (.int i) j pos) (tC (.int i)) (sC (.int i)):=⟨l4,a9o λ_=>b7.int⟩
theorem a6S {x j}:Ev K X (.Constant (.bool x) j pos) (tC (.bl x)) (sC (.bool x)):=⟨b26,a9o λ_=>b7.bl⟩
theorem a0u {j}:Ev K X (.Constant .none j pos) (tC .non) (sC .none):=⟨b1s,a9o λ_=>b7.non⟩
theorem P9 {x j}:Ev K X (.Constant (.str x) j pos) (tC (.str x)) (sC (.str x)):=⟨b0Z,a9o λ_=>b7.st⟩
theorem b2v (i:Nat):TEd K (a0N i) (sV i):=λG B E F σ H Q d F' I e q=>by
 unfold sV at e
 split at e
 ·rename_i x hx
  cases e
  obtain⟨v,h1,h2⟩:=I.loc i _ hx
  exact⟨v,h1,q v H Kp.refl I.fd h2⟩
 ·cases e
theorem b2o (i:Nat):TEs K (a0N i) (sW i):=λG B E F σ H Q d F' I e q=>by
 unfold sW at e
 split at e
 ·rename_i x hx
  cases e
  obtain⟨v,h1,h2⟩:=I.loc i _ hx
  exact⟨v,h1,q v H Kp.refl I.fd (b0e h2 I.fB)⟩
 ·rename_i x hx
  cases e
  obtain⟨v,h1,h2⟩:=I.loc i _ hx
  refine⟨v,h1,q v H Kp.refl I.fd ?_⟩
  obtain⟨p,xs,rfl,hB,hf,hp,hd⟩:=h2
  exact⟨p,xs,rfl,by rw[j8 hf];exact hp,hd⟩
 ·cases e
theorem i9 (i:Nat){x:Str}(hN:X.N[i]? = some x:=by rfl)(hv:Vis X.env.scope x:=by first | exact Or.inl rfl | exact Or.inr (Or.inl rfl) | exact Or.inr (Or.inr rfl))(hd:(x == ("__debug__":Str))=false:=by decide)
  (hcd:(x == ("__classdict__":Str))=false:=by decide):Ev K X (.Name x pos) (a0N i) (sV i):=⟨V8 hN hv hd hcd,b2v i⟩
theorem f9 (i:Nat){x:Str}(hN:X.N[i]? = some x:=by rfl)(hv:Vis X.env.scope x:=by first | exact Or.inl rfl | exact Or.inr (Or.inl rfl) | exact Or.inr (Or.inr rfl))(hd:(x == ("__debug__":Str))=false:=by decide)
  (hcd:(x == ("__classdict__":Str))=false:=by decide):Eb K X (.Name x pos) (a0N i) (sW i):=⟨V8 hN hv hd hcd,b2o i⟩
noncomputable def rD1 (K:PySem.W.Frag)(f:PyData->Option PyData):V->Hp->VK->Prop:=λx H Q=>∃fp B d r,BOk H B∧B7 K fp B H d x∧f d=some r∧∀v H',i4 H H'->b7 K (hid H' B) r v->Q v H'
noncomputable def rD2 (K:PySem.W.Frag)(f:PyData->PyData->Option PyData):R2:=λx y H Q=>∃fp B d e r,BOk H B∧B7 K fp B H d x∧B7 K fp B H e y∧f d e=some r∧∀v H',i4 H H'->b7 K (hid H' B) r v->Q v H'
noncomputable def rDN (K:PySem.W.Frag)(f:List PyData->Option PyData):List V->Hp->VK->Prop:=λxs H Q=>∃fp B ds r,BOk H B∧a1h K fp B H ds xs∧f ds=some r∧∀v H',i4 H H'->b7 K (hid H' B) r v->Q v H'
noncomputable def s1 (f:PyData->Option PyData)(a:DE->M PyData):DE->M PyData:=λE F=>(a E F).bind λp=>(f p.1).bind λz=>some (z,p.2)
noncomputable def s2 (f:PyData->PyData->Option PyData)(a b:DE->M PyData):DE->M PyData:=λE F=>(a E F).bind λp=>(b E p.2).bind λq=>(f p.1 q.1).bind λz=>some (z,q.2)
noncomputable def sN (f:List PyData->Option PyData)(a:DE->M (List PyData)):DE->M PyData:=λE F=>(a E F).bind λp=>(f p.1).bind λz=>some (z,p.2)
theorem b0a {f:PyData->Option PyData}(ha:TEs K ta ma):TEd K (tUn (rD1 K f) ta) (s1 f ma):=λG B E F σ H Q d F' I e q=>by
 obtain⟨⟨x,F1⟩,e1,e⟩:=Option.bind_eq_some_iff.mp e
 obtain⟨z,e2,e⟩:=Option.bind_eq_some_iff.mp e
 cases e
 refine ha G B E F σ H _ x F1 I e1 λv H1 k1 f1 h1=>⟨k9 K G,B,x,_,v0 I.bk k1 f1,h1,e2,λw H2 s hw=>q w H2 (k1.trans (Kp.same s)) (f1.same s) hw⟩
theorem a5k {f:PyData->PyData->Option PyData}(ha:TEs K ta ma)(hb:TEs K tb mb):TEd K (tOp (rD2 K f) ta tb) (s2 f ma mb):=λG B E F σ H Q d F' I e q=>by
 obtain⟨⟨x,F1⟩,e1,e⟩:=Option.bind_eq_some_iff.mp e
 obtain⟨⟨y,F2⟩,e2,e⟩:=Option.bind_eq_some_iff.mp e
 obtain⟨z,e3,e⟩:=Option.bind_eq_some_iff.mp e
 cases e
 refine ha G B E F σ H _ x F1 I e1 λv H1 k1 f1 h1=>?_
 refine hb G B E F1 σ H1 _ y F2 (I.step k1 f1) e2 λw H2 k2 f2 h2=>⟨k9 K G,B,x,y,_,v0 I.bk (k1.trans k2) f2,h1.step k2 I.fB,h2,e3,λu H3 s hu=>q u H3 ((k1.trans k2).trans (Kp.same s)) (f2.same s) hu⟩
theorem b06 {f:List PyData->Option PyData}{t:TA}{ms:DE->M (List PyData)}(ha:TAs K t ms):TEd K (tCB (rDN K f) t) (sN f ms):=λG B E F σ H Q d F' I e q=>by
 obtain⟨⟨x,F1⟩,e1,e⟩:=Option.bind_eq_some_iff.mp e
 obtain⟨z,e2,e⟩:=Option.bind_eq_some_iff.mp e
 cases e
 exact ha G B E F σ H _ x F1 I e1 λvs H1 k1 f1 h1=>⟨k9 K G,B,x,_,v0 I.bk k1 f1,h1,e2,λw H2 s hw=>q w H2 (k1.trans (Kp.same s)) (f1.same s) hw⟩
theorem z4 {op:Operator}{f:PyData->PyData->Option PyData}(ho:OpR X (binaryOp op) (rD2 K f))(ha:Eb K X a ta ma)(hb:Eb K X b tb mb):Ev K X (.BinOp a op b pos) (tOp (rD2 K f) ta tb) (s2 f ma mb):=⟨x4 ho ha.pe hb.pe,a5k ha.ok hb.ok⟩
theorem a5q {op:UnaryOp}{f:PyData->Option PyData}(ho:UnR X (unaryOp op) (rD1 K f))(ha:Eb K X a ta ma):Ev K X (.UnaryOp op a pos) (tUn (rD1 K f) ta) (s1 f ma):=⟨a8n ho ha.pe,b0a ha.ok⟩
theorem a4U {op:CmpOp}{f:PyData->PyData->Option PyData}(ho:OpR X (compareOp op) (rD2 K f))(ha:Eb K X a ta ma)(hb:Eb K X b tb mb)(hm:behindInMarks op b=false:=by first | exact a0d _ | rfl):Ev K X (.Compare a [op] [b] pos) (tOp (rD2 K f) ta tb) (s2 f ma mb):=⟨a8F ho ha.pe hb.pe hm,a5k ha.ok hb.ok⟩
theorem y6 {f:PyData->PyData->Option PyData}(hr:IxR X (rD2 K f))(ha:Eb K X a ta ma)(hb:Eb K X b tb mb)(hs:a50 b:=by intro _ _;rfl):Ev K X (.Subscript a b pos) (tOp (rD2 K f) ta tb) (s2 f ma mb):=⟨U1 hr ha.pe hb.pe hs,a5k ha.ok hb.ok⟩
theorem n9 {f:List PyData->Option PyData}{id:String}{x:Str}{p:Pos}{t:TA}{ms:DE->M (List PyData)}(hc:A3 X (.builtin id) (rDN K f))(hm:X.mg x=none)(hv:bootBuiltins x=some (.builtin id))(ha:Es K X (e::es) t ms)(hg:Gl X x:=by rfl)(hn:x ≠ "__name__":=by decide)(hdb:(x == ("__debug__":Str))=false:=by decide)
  (he:starEach (e::es) X.env=(false,eval e X.env)::starEach es X.env:=by rfl) (hpl:(backTo pos (starEach es X.env)).any (·.1)=false:=by rfl):Ev K X (.Call (.Name x p) (e::es) [] pos) (tCB (rDN K f) t) (sN f ms):=⟨a1E hc hg hm hv ha.pa hn hdb he hpl,b06 ha.ok⟩
theorem u0 {f:List PyData->Option PyData}{T:String}{x:Str}{p:Pos}{t:TA}{ms:DE->M (List PyData)}(hc:A3 X (.type T) (rDN K f))(hm:X.mg x=none)(hv:bootBuiltins x=some (.type T))(ha:Es K X (e::es) t ms)(hg:Gl X x:=by rfl)(hn:x ≠ "__name__":=by decide)(hdb:(x == ("__debug__":Str))=false:=by decide)
  (he:starEach (e::es) X.env=(false,eval e X.env)::starEach es X.env:=by rfl) (hpl:(backTo pos (starEach es X.env)).any (·.1)=false:=by rfl):Ev K X (.Call (.Name x p) (e::es) [] pos) (tCB (rDN K f) t) (sN f ms):=⟨T1 hc hg hm hv ha.pa hn hdb he hpl,b06 ha.ok⟩
noncomputable def d7:DE->M (List PyData):=λ_ F=>some ([],F)
noncomputable def a7 (a:DE->M PyData)(r:DE->M (List PyData)):DE->M (List PyData):=λE F=>(a E F).bind λp=>(r E p.2).bind λq=>some (p.1::q.1,q.2)
theorem j6:Ea K X [] V5 d7:=⟨A1,λG B E F σ H Q ds F' I e q=>by cases e;exact q [] H Kp.refl I.fd a6.nil⟩
theorem d0 {t:TA}{ms:DE->M (List PyData)}(ha:Ev K X e te m)(hr:Ea K X es t ms)(hs:starEach (e::es) X.env=(false,eval e X.env)::starEach es X.env:=by rfl):Ea K X (e::es) (C6 te t) (a7 m ms) :=
 ⟨m8 ha.pe hr.pa hs,λG B E F σ H Q ds F' I e q=>by
  obtain⟨⟨x,F1⟩,e1,e⟩:=Option.bind_eq_some_iff.mp e
  obtain⟨⟨ys,F2⟩,e2,e⟩:=Option.bind_eq_some_iff.mp e
  cases e
  refine ha.ok G B E F σ H _ x F1 I e1 λv H1 k1 f1 h1=>?_
  refine hr.ok G B E F1 σ H1 _ ys F2 (I.step k1 f1) e2 λvs H2 k2 f2 h2=>q _ H2 (k1.trans k2) f2 (.cons (h1.same (k2.hid I.fB)) h2)⟩
theorem l6:Es K X [] V5 d7:=⟨A1,λG B E F σ H Q ds F' I e q=>by cases e;exact q [] H Kp.refl I.fd rfl⟩
theorem i7 {t:TA}{ms:DE->M (List PyData)}(ha:Eb K X e te m)(hr:Es K X es t ms)(hs:starEach (e::es) X.env=(false,eval e X.env)::starEach es X.env:=by rfl):Es K X (e::es) (C6 te t) (a7 m ms) :=
 ⟨m8 ha.pe hr.pa hs,λG B E F σ H Q ds F' I e q=>by
  obtain⟨⟨x,F1⟩,e1,e⟩:=Option.bind_eq_some_iff.mp e
  obtain⟨⟨ys,F2⟩,e2,e⟩:=Option.bind_eq_some_iff.mp e
  cases e
  refine ha.ok G B E F σ H _ x F1 I e1 λv H1 k1 f1 h1=>?_
  refine hr.ok G B E F1 σ H1 _ ys F2 (I.step k1 f1) e2 λvs H2 k2 f2 h2=>q _ H2 (k1.trans k2) f2 ⟨v,vs,rfl,h1.step k2 I.fB,h2⟩⟩
noncomputable def z8 (a:DE->M (List PyData)):DE->M PyData:=λE F=>(a E F).bind λp=>if p.1.length≤sizeLine then some (.tuple p.1,p.2) else none
noncomputable def a41 (a:DE->M (List PyData)):DE->M PyData:=λE F=>(a E F).bind λp=>if p.1.length≤sizeLine then some (.list p.1,p.2) else none
theorem z7 {k}{t:TA}{ms:DE->M (List PyData)}(h:Ea K X es t ms):Ev K X (.Tuple es k pos) (a91 t) (z8 ms):=⟨a4h h.pa,λG B E F σ H Q d F' I e q=>by
 obtain⟨⟨x,F1⟩,e1,e⟩:=Option.bind_eq_some_iff.mp e
 split at e
 ·rename_i hl
  cases e
  refine h.ok G B E F σ H _ x F1 I e1 λvs H1 k1 f1 h1=>⟨by rw[h1.length];exact hl,λp hp=>q _ _ (k1.trans (Kp.upd hp)) (f1.same (i4.upd hp)) (L1 (v0 I.bk k1 f1) hp h1)⟩
 ·cases e⟩
theorem a4T {t:TA}{ms:DE->M (List PyData)}(h:Ea K X es t ms):Ev K X (.List es pos) (a8W t) (a41 ms):=⟨a1o h.pa,λG B E F σ H Q d F' I e q=>by
 obtain⟨⟨x,F1⟩,e1,e⟩:=Option.bind_eq_some_iff.mp e
 split at e
 ·rename_i hl
  cases e
  refine h.ok G B E F σ H _ x F1 I e1 λvs H1 k1 f1 h1=>⟨by rw[h1.length];exact hl,λp hp=>q _ _ (k1.trans (Kp.upd hp)) (f1.same (i4.upd hp)) (D8 (v0 I.bk k1 f1) hp h1)⟩
 ·cases e⟩
noncomputable def a1H:PyData->Option Bool
 | .bool b=>some b
 | _=>none
theorem a0B {d:PyData}{b:Bool}(h:a1H d=some b):d = .bool b:=by
 cases d <;> simp[a1H]at h
 rw[h]
noncomputable def a7Z (a:DE->M PyData):DE->M PyData:=λE F=>(a E F).bind λp=>(a1H p.1).bind λc=>some (.bool (!c),p.2)
theorem b19 (ha:Ev K X a ta ma):Ev K X (.UnaryOp .Not a pos) (b02 ta) (a7Z ma):=⟨b0Q ha.pe,λG B E F σ H Q d F' I e q=>by
 obtain⟨⟨x,F1⟩,e1,e⟩:=Option.bind_eq_some_iff.mp e
 obtain⟨c,e2,e⟩:=Option.bind_eq_some_iff.mp e
 cases e
 refine ha.ok G B E F σ H _ x F1 I e1 λv H1 k1 f1 h1=>?_
 have:=a0B e2
 simp only at this
 subst this
 simp only[b7]at h1
 exact⟨_,h1,q _ H1 k1 f1 b7.bl⟩⟩
noncomputable def sIf (c:DE->M Bool)(a b:DE->M PyData):DE->M PyData:=λE F=>(c E F).bind λp=>if p.1=true then a E p.2 else b E p.2
theorem a3z {tt:TT}{mt:DE->M Bool}(hc:Et K X c tt mt)(ha:Ev K X a ta ma)(hb:Ev K X b tb mb):Ev K X (.IfExp c a b pos) (tIf tt ta tb) (sIf mt ma mb):=⟨a3j hc.pt ha.pe hb.pe,λG B E F σ H Q d F' I e q=>by
 obtain⟨⟨x,F1⟩,e1,e⟩:=Option.bind_eq_some_iff.mp e
 refine hc.ok G B E F σ H _ x F1 I e1 λH1 k1 f1=>?_
 cases x with
 | true=>exact ha.ok G B E F1 σ H1 _ d F' (I.step k1 f1) e λw H2 k2 f2 h2=>q w H2 (k1.trans k2) f2 h2
 | false=>exact hb.ok G B E F1 σ H1 _ d F' (I.step k1 f1) e λw H2 k2 f2 h2=>q w H2 (k1.trans k2) f2 h2⟩
variable {tA tB:TT}{na nb:DE->M Bool}
noncomputable def uB (a:DE->M PyData):DE->M Bool:=λE F=>(a E F).bind λp=>(a1H p.1).bind λc=>some (c,p.2)
noncomputable def uOr (a b:DE->M Bool):DE->M Bool:=λE F=>(a E F).bind λp=>if p.1=true then some (true,p.2) else b E p.2
theorem y9 {op:CmpOp}{f:PyData->PyData->Option PyData}(ho:OpR X (compareOp op) (rD2 K f))(ha:Eb K X a ta ma)(hb:Eb K X b tb mb)(hm:behindInMarks op b=false:=by first | exact a0d _ | rfl):Et K X (.Compare a [op] [b] pos) (a9S (tOp (rD2 K f) ta tb)) (uB (s2 f ma mb)) :=
 ⟨Y2 ho ha.pe hb.pe hm,λG B E F σ H Q d F' I e q=>by
  obtain⟨⟨x,F1⟩,e1,e⟩:=Option.bind_eq_some_iff.mp e
  obtain⟨c,e2,e⟩:=Option.bind_eq_some_iff.mp e
  cases e
  refine a5k ha.ok hb.ok G B E F σ H _ x F1 I e1 λv H1 k1 f1 h1=>?_
  have:=a0B e2
  simp only at this
  subst this
  simp only[b7]at h1
  exact⟨_,h1,q H1 k1 f1⟩⟩
theorem a6M (ha:Et K X a tA na):Ew K X (.BoolOp .Or [a] pos) tA na:=⟨b1r ha.pt,ha.ok⟩
theorem b04 {rest:List Expr}(ha:Et K X a tA na)(hb:Ew K X (.BoolOp .Or (b::rest) pos) tB nb):Ew K X (.BoolOp .Or (a::b::rest) pos) (tOr tA tB) (uOr na nb):=⟨b2x ha.pt hb.pw,λG B E F σ H Q d F' I e q=>by
 obtain⟨⟨x,F1⟩,e1,e⟩:=Option.bind_eq_some_iff.mp e
 refine ha.ok G B E F σ H _ x F1 I e1 λH1 k1 f1=>?_
 cases x with
 | false=>exact hb.ok G B E F1 σ H1 _ d F' (I.step k1 f1) e λH2 k2 f2=>q H2 (k1.trans k2) f2
 | true=>cases e;exact q H1 k1 f1⟩
theorem Ew.t (h:Ew K X a tA na):Et K X a tA na:=⟨h.pw.pt,h.ok⟩
noncomputable def a9E:PyData->Option Bool
 | .none=>some false
 | .bool b=>some b
 | .int i=>some (i != 0)
 | .str x=>if x.length≤sizeLine then some ((x.length:Int) != 0) else none
 | .tuple ds=>some (!ds.isEmpty)
 | .list ds=>some (!ds.isEmpty)
 | .dict _=>none
noncomputable def uT (a:DE->M PyData):DE->M Bool:=λE F=>(a E F).bind λp=>(a9E p.1).bind λc=>some (c,p.2)
theorem Y7 {H:Hp}{ds:List PyData}{xs:List V}(h:a6 K H ds xs):xs.isEmpty=ds.isEmpty:=by
 cases ds with
 | nil=>simp only[a6]at h;subst h;rfl
 | cons d r=>simp only[a6]at h;obtain⟨x,r,rfl,_⟩:=h;rfl
theorem b15 {fp B:List Addr}{H:Hp}{d:PyData}{v:V}{c:Bool}(h:B7 K fp B H d v)(e:a9E d=some c):a7R K v H c:=by
 cases d with
 | none=>cases h;cases e;rfl
 | bool b=>cases h;cases e;rfl
 | int i=>cases h;cases e;rfl
 | str x =>
  cases h
  simp only[a9E]at e
  split at e
  ·rename_i hl;cases e;exact⟨hl,rfl⟩
  ·cases e
 | tuple ds =>
  obtain⟨p,xs,rfl,hq,hd⟩:=h
  cases e
  exact .inr (.inl ⟨xs,hq.same d4,by rw[Y7 hd]⟩)
 | list ds =>
  obtain⟨p,xs,rfl,hq,hd⟩:=h
  cases e
  exact .inl ⟨xs,SqL.of (d4 _ _ hq),by rw[Y7 hd]⟩
 | dict kvs=>exact(show False from h).elim
theorem a6P (ha:Eb K X a ta ma)(hK:X.K=K:=by rfl)(he:∀whole,isTrue a X.env whole=(do let v ←whole;standAt a.pos;holding [v] (truthy v)):=by intro _;rfl) :
  Et K X a (λσ H Q=>ta σ H λx H'=>∃k,a7R K x H' k∧Q k H') (uT ma):=⟨a5Y hK ha.pe he,λG B E F σ H Q d F' I e q=>by
 obtain⟨⟨x,F1⟩,e1,e⟩:=Option.bind_eq_some_iff.mp e
 obtain⟨c,e2,e⟩:=Option.bind_eq_some_iff.mp e
 cases e
 exact ha.ok G B E F σ H _ x F1 I e1 λv H1 k1 f1 h1=>⟨_,b15 h1 e2,q H1 k1 f1⟩⟩
end
end L3
namespace L3
open PySem PySem.Spec PyProof.Rows L2
section
variable {K:PySem.W.Frag}{X:Cx}
theorem a2C {fp B:List Addr}{H:Hp}{ds:List PyData}{d:PyData}{vs:List V}(h:a1h K fp B H ds vs)(e:ds=[d]):∃v,vs=[v]∧B7 K fp B H d v:=by
 subst e
 obtain⟨v,r,rfl,h1,h2⟩:=h
 cases h2
 exact⟨v,rfl,h1⟩
theorem b2L {fp B:List Addr}{H:Hp}{ds:List PyData}{d e:PyData}{vs:List V}(h:a1h K fp B H ds vs)(eq:ds=[d,e]):∃v w,vs=[v,w]∧B7 K fp B H d v∧B7 K fp B H e w:=by
 subst eq
 obtain⟨v,r,rfl,h1,w,r2,rfl,h2,h3⟩:=h
 cases h3
 exact⟨v,w,rfl,h1,h2⟩
noncomputable def i2 (C:Int->Int->Prop)[∀i j,Decidable (C i j)](g:Int->Int->PyData):PyData->PyData->Option PyData
 | .int i,.int j=>if C i j then some (g i j) else none
 | _,_=>none
theorem a5L {C:Int->Int->Prop}[∀i j,Decidable (C i j)]{g:Int->Int->PyData}{d e r:PyData}(h:i2 C g d e=some r):∃i j,d = .int i∧e = .int j∧C i j∧r=g i j:=by
 cases d <;> cases e <;> simp only[i2]at h <;> try cases h
 split at h
 ·rename_i hc;cases h;exact⟨_,_,rfl,rfl,hc,rfl⟩
 ·cases h
theorem b1R {f:Value->Value->Sem Value}{C:Int->Int->Prop}[∀i j,Decidable (C i j)]{g:Int->Int->V}{gd:Int->Int->PyData}(ho:OpR X f (rI C g))(hg:∀H i j,b7 K H (gd i j) (g i j)):OpR X f (rD2 K (i2 C gd)):=by
 intro pins s σ H x y v u Q I rx ry h
 obtain⟨fp,B,d,e,r,bk,h1,h2,hf,q⟩:=h
 obtain⟨i,j,rfl,rfl,hc,rfl⟩:=a5L hf
 cases h1
 cases h2
 exact ho pins s σ H _ _ v u Q I rx ry ⟨i,j,rfl,rfl,hc,q _ H (i4.refl H) (hg _ i j)⟩
theorem a4I {f:Value->Value->Sem Value}{g:Int->Int->V}{gd:Int->Int->PyData}(ho:OpR X f (rI0 g))(hg:∀H i j,b7 K H (gd i j) (g i j)):OpR X f (rD2 K (i2 (λ_ _=>True) gd)):=by
 intro pins s σ H x y v u Q I rx ry h
 obtain⟨fp,B,d,e,r,bk,h1,h2,hf,q⟩:=h
 obtain⟨i,j,rfl,rfl,hc,rfl⟩:=a5L hf
 cases h1
 cases h2
 exact ho pins s σ H _ _ v u Q I rx ry ⟨i,j,rfl,rfl,q _ H (i4.refl H) (hg _ i j)⟩
noncomputable abbrev a00:=i2 (λ_ _=>True) λi j=>.int (i-j)
theorem a0s:OpR X (binaryOp .Sub) (rD2 K a00):=a4I b1z λ_ _ _=>b7.int
noncomputable instance:∀i j,Decidable (a97 i j):=λi j=>inferInstanceAs (Decidable (_∧_∧_))
noncomputable instance:∀i j,Decidable (a7a i j):=λi j=>inferInstanceAs (Decidable ((_∧_)∨(_∧_)))
noncomputable def a7C (i j:Int):Prop:=j≠0∧j.natAbs<2 ^ 9000
noncomputable instance {i j:Int}:Decidable (a7C i j):=inferInstanceAs (Decidable (_∧_))
@[irreducible] def a3T:Nat:=2 ^ 400000
theorem a5c:a3T=2 ^ 400000:=by unfold a3T;rfl
theorem a8L {n:Nat}(h:n≤400000):2 ^ n≤a3T:=by rw[a5c];exact Nat.pow_le_pow_right (by decide) h
noncomputable def Big (i j:Int):Prop:=a7a i j∨(i.natAbs<a3T∧j.natAbs<a3T)
noncomputable instance {i j:Int}:Decidable (Big i j):=inferInstanceAs (Decidable (_∨_))
theorem a4X {n:Nat}{i:Int}(h:i.natAbs<2 ^ n):Builtin.Int.intBits i≤n:=by
 unfold Builtin.Int.intBits
 split
 ·exact Nat.zero_le _
 ·rename_i h0
  have h0:i.natAbs≠0:=λz=>h0 (by simpa using z)
  exact(Nat.log2_lt h0).mpr h
theorem Big.ok {i j:Int}(h:Big i j):IntMulOk i j:=by
 rcases h with h | ⟨h1,h2⟩
 ·exact h.ok
 ·unfold IntMulOk
  have e:Builtin.Int.intTooBig ((Builtin.Int.intBits i:Int)+Builtin.Int.intBits j)=false:=by
   unfold Builtin.Int.intTooBig
   rw[a5c]at h1 h2
   have a:=a4X h1
   have b:=a4X h2
   have c:(bitsLine:Nat)=134217728:=by decide
   refine decide_eq_false ?_
   rw[c]
   omega
  rw[e,Bool.and_false]
  exact Bool.false_ne_true
theorem a9c:OpR X (binaryOp .Mult) (rI Big λi j=>.int (i*j)):=opI λ_ _ _ _ _ _ _ hc q=>mul_int q hc.ok
theorem a87:OpR X (binaryOp .FloorDiv) (rI a7C λi j=>.int (i.fdiv j)):=opI λi j _ _ _ _ _ hc q=>by
 have h0:j.natAbs≠0:=λz=>hc.1 (Int.natAbs_eq_zero.mp z)
 exact floordiv_int hc.1 q (.inl (PyProof.noPylong_of_log2 ((Nat.log2_lt h0).mpr hc.2)))
noncomputable abbrev a3e:=i2 a7C λi j=>.int (i.fdiv j)
theorem a9q:OpR X (binaryOp .FloorDiv) (rD2 K a3e):=b1R a87 λ_ _ _=>b7.int
noncomputable abbrev ltD:=i2 (λ_ _=>True) λi j=>.bool (decide (i<j))
noncomputable abbrev gtD:=i2 (λ_ _=>True) λi j=>.bool (decide (j<i))
theorem b0c:OpR X (compareOp .Lt) (rD2 K ltD):=a4I a9J λ_ _ _=>b7.bl
theorem a7i:OpR X (compareOp .Gt) (rD2 K gtD):=a4I a9G λ_ _ _=>b7.bl
noncomputable def C3:PyData->PyData->Option PyData
 | .int i,.int j=>some (.int (i+j))
 | .str x,.str y=>if x.length+y.length≤sizeLine then some (.str (x++y)) else none
 | .tuple xs,.tuple ys=>if xs.length+ys.length≤sizeLine then some (.tuple (xs++ys)) else none
 | .list xs,.list ys=>if xs.length+ys.length≤sizeLine then some (.list (xs++ys)) else none
 | _,_=>none
theorem a6.nil_of {H:Hp}{ds:List PyData}{xs:List V}(h:a6 K H ds xs)(e:xs=[]):ds=[]:=by
 subst e;exact List.length_eq_zero_iff.mp (by rw[←h.length];rfl)
theorem C9 (hK:X.K=K):OpR X (binaryOp .Add) (rD2 K C3):=by
 intro pins s σ H x y v u Q I rx ry h
 obtain⟨fp,B,d,e,r,bk,h1,h2,hf,q⟩:=h
 cases d <;> cases e <;> simp only[C3]at hf <;> try cases hf
 ·cases h1
  cases h2
  exact W3 pins s σ H _ _ v u Q I rx ry ⟨_,_,rfl,rfl,q _ H (i4.refl H) b7.int⟩
 ·cases h1
  cases h2
  split at hf
  ·rename_i hl
   cases hf
   exact a4q pins s σ H _ _ v u Q I rx ry ⟨_,_,rfl,rfl,hl,q _ H (i4.refl H) b7.st⟩
  ·cases hf
 ·obtain⟨a,xs,rfl,ha,hd⟩:=h1
  obtain⟨b,ys,rfl,hb,he⟩:=h2
  split at hf
  ·rename_i hl
   cases hf
   refine b1m pins s σ H _ _ v u Q I rx ry ⟨a,b,xs,ys,rfl,rfl,d4 _ _ ha,d4 _ _ hb,by rw[hd.length,he.length];exact hl,λp hp=>q _ _ (i4.upd hp) (D8 bk hp (a6.append he hd))⟩
  ·cases hf
 ·obtain⟨a,xs,rfl,ha,hd⟩:=h1
  obtain⟨b,ys,rfl,hb,he⟩:=h2
  split at hf
  ·rename_i hl
   cases hf
   refine a93 hK pins s σ H _ _ v u Q I rx ry ⟨a,b,xs,ys,rfl,rfl,ha.same d4,hb.same d4,by rw[hd.length,he.length];exact hl,λz=>q _ H (i4.refl H) ?_,λz=>q _ H (i4.refl H) ?_,λp hp=>q _ _ (i4.upd hp) (L1 bk hp (a6.append he hd))⟩
   ·cases a6.nil_of hd z
    simp only[b7,List.nil_append]
    exact⟨b,ys,rfl,hb,he⟩
   ·cases a6.nil_of he z
    simp only[b7,List.append_nil]
    exact⟨a,xs,rfl,ha,hd⟩
  ·cases hf
noncomputable def b1x:PyData->PyData->Option PyData
 | .int i,.int j=>if Big i j then some (.int (i*j)) else none
 | .list xs,.int k=>if -(2 ^ 63)≤k∧k<2 ^ 63∧xs.length*k.toNat≤sizeLine then some (.list (List.replicate k.toNat xs).flatten) else none
 | _,_=>none
theorem a6.rep {H:Hp}{ds:List PyData}{xs:List V}(h:a6 K H ds xs):∀n,a6 K H (List.replicate n ds).flatten (List.replicate n xs).flatten
 | 0=>a6.nil
 | n+1=>by
  rw[List.replicate_succ,List.replicate_succ,List.flatten_cons,List.flatten_cons]
  exact a6.append (a6.rep h n) h
theorem b10:OpR X (binaryOp .Mult) (rD2 K b1x):=by
 intro pins s σ H x y v u Q I rx ry h
 obtain⟨fp,B,d,e,r,bk,h1,h2,hf,q⟩:=h
 cases d <;> cases e <;> simp only[b1x]at hf <;> try cases hf
 ·cases h1
  cases h2
  split at hf
  ·rename_i hc
   cases hf
   exact a9c pins s σ H _ _ v u Q I rx ry ⟨_,_,rfl,rfl,hc,q _ H (i4.refl H) b7.int⟩
  ·cases hf
 ·obtain⟨a,xs,rfl,ha,hd⟩:=h1
  cases h2
  split at hf
  ·rename_i hc
   cases hf
   exact b0i pins s σ H _ _ v u Q I rx ry ⟨a,_,xs,rfl,rfl,d4 _ _ ha,hc.1,hc.2.1,by rw[hd.length];exact hc.2.2,λp hp=>q _ _ (i4.upd hp) (D8 bk hp (a6.rep hd _))⟩
  ·cases hf
open PySem.SeqAt in
noncomputable def eqD (neg:Bool):PyData->PyData->Option PyData
 | .str x,.str y=>some (.bool (if neg then !decide (x=y) else decide (x=y)))
 | d,e=>if shaped d=true∧shaped e=true then some (.bool (if neg then !PyData.eqv d e else PyData.eqv d e)) else none
theorem a2g (hK:X.K=K)(hu:X.A.units+64<cLine):OpR X (compareOp .Eq) (rD2 K (eqD false)):=by
 subst hK
 intro pins s σ H x y v u Q I rx ry h
 obtain⟨fp,B,d,e,r,bk,h1,h2,hf,q⟩:=h
 unfold eqD at hf
 split at hf
 ·cases hf
  cases h1
  cases h2
  have z:=q _ H (i4.refl H) b7.bl
  rename_i a b
  have e:decide (V.str a=V.str b)=decide (a=b):=by simp
  exact b2r pins s σ H _ _ v u Q I rx ry ⟨rfl,by rw[e];exact z⟩
 ·split at hf
  ·rename_i hs
   cases hf
   obtain⟨as,ra⟩:=D9 I _ x v h1.dat rx
   obtain⟨bs,rb⟩:=D9 I _ y u h2.dat ry
   exact eq_dataH ra rb hs.1 hs.2 hu ⟨.bl _,H,I,rfl,q _ H (i4.refl H) b7.bl⟩
  ·cases hf
theorem b2d (hK:X.K=K)(hu:X.A.units+64<cLine):OpR X (compareOp .NotEq) (rD2 K (eqD true)):=by
 subst hK
 intro pins s σ H x y v u Q I rx ry h
 obtain⟨fp,B,d,e,r,bk,h1,h2,hf,q⟩:=h
 unfold eqD at hf
 split at hf
 ·cases hf
  cases h1
  cases h2
  have z:=q _ H (i4.refl H) b7.bl
  rename_i a b
  have e:decide (V.str a=V.str b)=decide (a=b):=by simp
  exact b2Q pins s σ H _ _ v u Q I rx ry ⟨rfl,by rw[e];exact z⟩
 ·split at hf
  ·rename_i hs
   cases hf
   obtain⟨as,ra⟩:=D9 I _ x v h1.dat rx
   obtain⟨bs,rb⟩:=D9 I _ y u h2.dat ry
   exact ne_dataH ra rb hs.1 hs.2 hu ⟨.bl _,H,I,rfl,q _ H (i4.refl H) b7.bl⟩
  ·cases hf
open PySem.SeqAt in
noncomputable def inD (neg:Bool):PyData->PyData->Option PyData
 | d,.list xs=>if shaped (.list xs)=true∧shaped d=true then some (.bool (if neg then !(xs.any λy=>PyData.eqv y d) else xs.any λy=>PyData.eqv y d)) else none
 | d,.tuple xs=>if shaped (.tuple xs)=true∧shaped d=true then some (.bool (if neg then !(xs.any λy=>PyData.eqv y d) else xs.any λy=>PyData.eqv y d)) else none
 | _,_=>none
theorem a2d (hK:X.K=K)(hu:X.A.units+65<cLine):OpR X (compareOp .In) (rD2 K (inD false)):=by
 subst hK
 intro pins s σ H x y v u Q I rx ry h
 obtain⟨fp,B,d,e,r,bk,h1,h2,hf,q⟩:=h
 obtain⟨as,ra⟩:=D9 I _ x v h1.dat rx
 obtain⟨bs,rb⟩:=D9 I _ y u h2.dat ry
 cases e <;> simp only[inD]at hf <;> try cases hf
 ·split at hf
  ·rename_i hs
   cases hf
   exact PySem.SeqAt.in_list_reads rb ra (by have:=PySem.SeqAt.canLay_of_shaped hs.1;simpa only[PyData.canLay0] using this) (PySem.SeqAt.canLay_of_shaped hs.2) (room_in_shaped hs.2 hu) ⟨.bl _,H,I,rfl,q _ H (i4.refl H) b7.bl⟩
  ·cases hf
 ·split at hf
  ·rename_i hs
   cases hf
   exact PySem.SeqAt.in_tuple_reads rb ra (by have:=PySem.SeqAt.canLay_of_shaped hs.1;simpa only[PyData.canLay0] using this) (PySem.SeqAt.canLay_of_shaped hs.2) (room_in_shaped hs.2 hu) ⟨.bl _,H,I,rfl,q _ H (i4.refl H) b7.bl⟩
  ·cases hf
theorem a3p (hK:X.K=K)(hu:X.A.units+65<cLine):OpR X (compareOp .NotIn) (rD2 K (inD true)):=by
 subst hK
 intro pins s σ H x y v u Q I rx ry h
 obtain⟨fp,B,d,e,r,bk,h1,h2,hf,q⟩:=h
 obtain⟨as,ra⟩:=D9 I _ x v h1.dat rx
 obtain⟨bs,rb⟩:=D9 I _ y u h2.dat ry
 cases e <;> simp only[inD]at hf <;> try cases hf
 ·split at hf
  ·rename_i hs
   cases hf
   exact PySem.SeqAt.notIn_list_reads rb ra (by have:=PySem.SeqAt.canLay_of_shaped hs.1;simpa only[PyData.canLay0] using this) (PySem.SeqAt.canLay_of_shaped hs.2) (room_in_shaped hs.2 hu) ⟨.bl _,H,I,rfl,q _ H (i4.refl H) b7.bl⟩
  ·cases hf
 ·split at hf
  ·rename_i hs
   cases hf
   exact PySem.SeqAt.notIn_tuple_reads rb ra (by have:=PySem.SeqAt.canLay_of_shaped hs.1;simpa only[PyData.canLay0] using this) (PySem.SeqAt.canLay_of_shaped hs.2) (room_in_shaped hs.2 hu) ⟨.bl _,H,I,rfl,q _ H (i4.refl H) b7.bl⟩
  ·cases hf
end
end L3
namespace L3
open PySem PySem.Spec PyProof.Rows L2
section
variable {K:PySem.W.Frag}{X:Cx}
theorem a6.at {H:Hp}{ds:List PyData}{xs:List V}{i:Int}{d:PyData}(h:a6 K H ds xs)(e:atI ds i=some d):∃v,atI xs i=some v∧b7 K H d v:=by
 unfold atI at e ⊢
 rw[h.length]
 cases q:ixN ds.length i with
 | none=>rw[q]at e;cases e
 | some j =>
  rw[q]at e
  have e:ds[j]? = some d:=e
  obtain⟨hj,_⟩:=List.getElem?_eq_some_iff.mp e
  have hx:xs[j]? = some (xs[j]'(by rw[h.length];exact hj)):=by simp
  obtain⟨d',h1,h2⟩:=h.get hx
  rw[e]at h1;cases h1
  exact⟨_,hx,h2⟩
noncomputable def ixD:PyData->PyData->Option PyData
 | .list ds,.int i=>atI ds i
 | .tuple ds,.int i=>atI ds i
 | .str x,.int i=>if x.length≤sizeLine then(atI x.cps.toList i).map λc=>.str ⟨#[c]⟩ else none
 | _,_=>none
theorem y4 (hK:X.K=K):IxR X (rD2 K ixD):=by
 intro value slice pins s σ H x y v u Q I rx ry h hs
 obtain⟨fp,B,d,e,r,bk,h1,h2,hf,q⟩:=h
 cases d <;> cases e <;> simp only[ixD]at hf <;> try cases hf
 ·cases h1
  cases h2
  split at hf
  ·rename_i hl
   obtain⟨c,e1,rfl⟩:=Option.map_eq_some_iff.mp hf
   exact b1y value slice pins s σ H _ _ v u Q I rx ry ⟨_,_,c,rfl,rfl,hl,e1,q _ H (i4.refl H) b7.st⟩ hs
  ·cases hf
 ·obtain⟨a,xs,rfl,ha,hd⟩:=h1
  cases h2
  obtain⟨w,e1,e2⟩:=a6.at hd hf
  exact a6y hK value slice pins s σ H _ _ v u Q I rx ry ⟨a,xs,_,w,rfl,rfl,SqL.of (d4 _ _ ha),e1,q w H (i4.refl H) e2⟩ hs
 ·obtain⟨a,xs,rfl,ha,hd⟩:=h1
  cases h2
  obtain⟨w,e1,e2⟩:=a6.at hd hf
  exact a96 hK value slice pins s σ H _ _ v u Q I rx ry ⟨a,xs,_,w,rfl,rfl,ha.same d4,e1,q w H (i4.refl H) e2⟩ hs
noncomputable def a0P {α:Type}(xs:List α)(lo hi:Option Int):List α:=(xs.drop (HT.sIx xs.length 0 lo)).take (HT.sIx xs.length xs.length hi-HT.sIx xs.length 0 lo)
noncomputable def a6r (lo hi:Option Int):PyData->Option PyData
 | .list ds=>some (.list (a0P ds lo hi))
 | .tuple ds=>some (.tuple (a0P ds lo hi))
 | .str x=>if x.length≤sizeLine then some (.str (Txt.slice x lo hi)) else none
 | _=>none
theorem a6.drop {H:Hp}:∀{ds:List PyData} {xs:List V} (n:Nat),a6 K H ds xs->a6 K H (ds.drop n) (xs.drop n)
 | ds,xs,0,h=>h
 | [],xs,n+1,h=>by simp only[a6]at h;subst h;simp[a6]
 | d::ds,xs,n+1,h=>by
  simp only[a6]at h
  obtain⟨y,r,rfl,h1,h2⟩:=h
  simp only[List.drop_succ_cons]
  exact a6.drop n h2
theorem a6.cut {H:Hp}{ds:List PyData}{xs:List V}(h:a6 K H ds xs)(lo hi:Option Int):a6 K H (a0P ds lo hi) (a0b xs lo hi):=by
 unfold a0P a0b
 rw[h.length]
 exact a6.take _ (a6.drop _ h)
noncomputable def b2K (K:PySem.W.Frag):V->Option Int->Option Int->Hp->VK->Prop:=λx lo hi H Q=>∃fp B d r,BOk H B∧B7 K fp B H d x∧a6r lo hi d=some r∧∀v H',i4 H H'->b7 K (hid H' B) r v->Q v H'
theorem a2Y {v:Value}{o:Option Int}(h:IsPart v o):∃p:Option (Int×Tok),v=partValue p∧p.map (·.1)=o:=by
 cases h with
 | none=>exact⟨none,rfl,rfl⟩
 | int i t=>exact⟨some (i,t),rfl,rfl⟩
theorem b1u (hK:X.K=K):SlR X (b2K K):=by
 intro pins s σ H x v vl vu lo hi sl Q I rx hs pl pu h
 obtain⟨fp,B,d,r,bk,h1,hf,q⟩:=h
 cases d <;> simp only[a6r]at hf <;> try cases hf
 ·rename_i x0
  cases h1
  split at hf
  ·rename_i hl
   cases hf
   obtain⟨t,rfl⟩:=rx
   obtain⟨l,rfl,rfl⟩:=a2Y pl
   obtain⟨m,rfl,rfl⟩:=a2Y pu
   refine⟨"str",_,F.slot_str_getitem.lookup,typeIs_str _ _ _,getItem_meets (typeIs_str _ _ _) (by decide) F.slot_str_getitem F.entry_str_getitem (F.args_str_getitem_2 _ _) (meets_str_getitem_slice _ t sl l m none rfl) ⟨hs,?_⟩⟩
   have z:=q _ H (i4.refl H) b7.st
   unfold sliceMade
   unfold Txt.slice at z
   have e:slicePicked x0 l m none=Builtin.Str.strSliceIndices (l.map (·.1)) (m.map (·.1)) 1 x0.length:=rfl
   rw[e]
   simp only[Option.map_none,Option.getD_none]
   split
   ·rename_i hc
    rw[if_pos hc]at z
    exact⟨.str x0,H,I,⟨t,rfl⟩,z⟩
   ·rename_i hc
    rw[if_neg hc]at z
    refine⟨?_,⟨.str _,H,I.tok _,⟨_,rfl⟩,z⟩⟩
    have:=Txt.slice_le x0 (l.map (·.1)) (m.map (·.1))
    unfold Txt.slice at this
    rw[if_neg hc]at this
    exact Nat.le_trans this hl
  ·cases hf
 ·obtain⟨a,xs,rfl,ha,hd⟩:=h1
  subst hK
  exact a5s pins s σ H _ v vl vu lo hi sl Q I rx hs pl pu ⟨a,xs,rfl,SqL.of (d4 _ _ ha),λp hp=>q _ _ (i4.upd hp) (D8 bk hp (a6.cut hd lo hi))⟩
 ·obtain⟨a,xs,rfl,ha,hd⟩:=h1
  refine a7z hK pins s σ H _ v vl vu lo hi sl Q I rx hs pl pu ⟨a,xs,rfl,ha.same d4,λz=>q _ H (i4.refl H) ?_,λ_ p hp=>q _ _ (i4.upd hp) (L1 bk hp (a6.cut hd lo hi))⟩
  have:=a6.cut hd lo hi
  rw[z.1]at this
  simp only[b7]
  exact⟨a,xs,rfl,ha,this⟩
end
section
variable [Feeds]{K:PySem.W.Frag}{X:Cx}{e:Expr}{te:TE}{m:DE->M PyData}{pos p2:Pos}
noncomputable def TOd (K:PySem.W.Frag)(to:TO)(m:DE->M (Option Int)):Prop:=∀(G:GF) (B:List Addr) (E:DE) (F:FS) (σ:St) (H:Hp) (Q:Option Int->Hp->Prop) (d:Option Int) (F':FS),SitE K G B E F σ H->m E F=some (d,F') ->
 (∀H',Kp (k9 K G) H H'->FAt K G H' F'->Q d H')->to σ H Q
structure Eo (K:PySem.W.Frag) (X:Cx) (e:Option Expr) (to:TO) (m:DE->M (Option Int)):Prop where
 po:PO X e to
 ok:TOd K to m
noncomputable def oNo:DE->M (Option Int):=λ_ F=>some (none,F)
noncomputable def Y9:PyData->Option Int
 | .int i=>some i
 | _=>none
theorem V2 {d:PyData}{i:Int}(h:Y9 d=some i):d = .int i:=by
 cases d <;> simp[Y9]at h
 rw[h]
noncomputable def oI (a:DE->M PyData):DE->M (Option Int):=λE F=>(a E F).bind λp=>(Y9 p.1).bind λi=>some (some i,p.2)
theorem a9K:Eo K X none a5M oNo:=⟨a56,λG B E F σ H Q d F' I e q=>by cases e;exact q H Kp.refl I.fd⟩
theorem b20 (h:Ev K X e te m):Eo K X (some e) (a9O te) (oI m):=⟨a2N h.pe,λG B E F σ H Q d F' I e q=>by
 obtain⟨⟨x,F1⟩,e1,e⟩:=Option.bind_eq_some_iff.mp e
 obtain⟨i,e2,e⟩:=Option.bind_eq_some_iff.mp e
 cases e
 refine h.ok G B E F σ H _ x F1 I e1 λv H1 k1 f1 h1=>?_
 have:=V2 e2
 simp only at this
 subst this
 simp only[b7]at h1
 exact⟨i,h1,q H1 k1 f1⟩⟩
noncomputable def a2M (a:DE->M PyData)(l u:DE->M (Option Int)):DE->M PyData:=λE F=>(a E F).bind λp=>(l E p.2).bind λx=>(u E x.2).bind λy=>(a6r x.1 y.1 p.1).bind λz=>some (z,y.2)
theorem a7x {lo hi:Option Expr}{tl th:TO}{ml mh:DE->M (Option Int)}(he:Eb K X e te m)(hl:Eo K X lo tl ml)(hh:Eo K X hi th mh)(hK:X.K=K:=by rfl):Ev K X (.Subscript e (.Slice lo hi none p2) pos) (tSl (b2K K) te tl th) (a2M m ml mh) :=
 ⟨a3Y (b1u hK) he.pe hl.po hh.po,λG B E F σ H Q d F' I e q=>by
  obtain⟨⟨x,F1⟩,e1,e⟩:=Option.bind_eq_some_iff.mp e
  obtain⟨⟨l,F2⟩,e2,e⟩:=Option.bind_eq_some_iff.mp e
  obtain⟨⟨h,F3⟩,e3,e⟩:=Option.bind_eq_some_iff.mp e
  obtain⟨z,e4,e⟩:=Option.bind_eq_some_iff.mp e
  cases e
  refine he.ok G B E F σ H _ x F1 I e1 λv H1 k1 f1 h1=>?_
  refine hl.ok G B E F1 σ H1 _ l F2 (I.step k1 f1) e2 λH2 k2 f2=>?_
  refine hh.ok G B E F2 σ H2 _ h F3 (I.step (k1.trans k2) f2) e3 λH3 k3 f3=>?_
  exact⟨k9 K G,B,x,_,v0 I.bk ((k1.trans k2).trans k3) f3,h1.step (k2.trans k3) I.fB,e4,λu H4 s hu=>q u H4 (((k1.trans k2).trans k3).trans (Kp.same s)) (f3.same s) hu⟩⟩
end
section
variable {K:PySem.W.Frag}{X:Cx}
noncomputable def D2:List PyData->Option PyData
 | [.list ds]=>some (.int ds.length)
 | [.tuple ds]=>some (.int ds.length)
 | [.str x]=>if x.length≤sizeLine then some (.int x.length) else none
 | _=>none
theorem E9 (hK:X.K=K):A3 X (.builtin "len") (rDN K D2):=by
 intro pins s σ H xs us Q I r h
 obtain⟨fp,B,ds,z,bk,h1,hf,q⟩:=h
 unfold D2 at hf
 split at hf <;> try cases hf
 ·obtain⟨v,rfl,a,xs,rfl,ha,hd⟩:=a2C h1 rfl
  have:=q _ H (i4.refl H) b7.int
  rw[←hd.length]at this
  exact U6 hK pins s σ H _ us Q I r ⟨a,xs,rfl,.inl (SqL.of (d4 _ _ ha)),this⟩
 ·obtain⟨v,rfl,a,xs,rfl,ha,hd⟩:=a2C h1 rfl
  have:=q _ H (i4.refl H) b7.int
  rw[←hd.length]at this
  exact U6 hK pins s σ H _ us Q I r ⟨a,xs,rfl,.inr (ha.same d4),this⟩
 ·rename_i x0
  obtain⟨v,rfl,hv⟩:=a2C h1 rfl
  have hv:v = .str x0:=hv
  subst hv
  split at hf
  ·rename_i hl
   cases hf
   exact a2V pins s σ H _ us Q I r ⟨_,rfl,hl,q _ H (i4.refl H) b7.int⟩
  ·cases hf
noncomputable def m4:List PyData->Option PyData
 | [.list ds]=>some (.tuple ds)
 | [.tuple ds]=>some (.tuple ds)
 | _=>none
theorem u4 (hK:X.K=K):A3 X (.type "tuple") (rDN K m4):=by
 intro pins s σ H xs us Q I r h
 obtain⟨fp,B,ds,z,bk,h1,hf,q⟩:=h
 unfold m4 at hf
 split at hf <;> try cases hf
 ·obtain⟨v,rfl,a,xs,rfl,ha,hd⟩:=a2C h1 rfl
  exact R0 hK pins s σ H _ us Q I r ⟨a,xs,rfl,.inl ⟨SqL.of (d4 _ _ ha),λl hl=>q _ _ (i4.upd hl) (L1 bk hl hd)⟩⟩
 ·obtain⟨v,rfl,hv⟩:=a2C h1 rfl
  have hv':=hv.tup
  obtain⟨a,xs,rfl,ha,hd⟩:=hv
  exact R0 hK pins s σ H _ us Q I r ⟨a,xs,rfl,.inr ⟨ha.same d4,q _ H (i4.refl H) hv'⟩⟩
noncomputable def G4:List PyData->Option (List Int)
 | []=>some []
 | .int i::r=>(G4 r).map (i :: ·)
 | _=>none
theorem K4:∀{ds:List PyData} {ns:List Int},G4 ds=some ns->ds=ns.map .int
 | [],ns,h=>by cases h;rfl
 | d::r,ns,h=>by
  cases d <;> simp only[G4]at h <;> try cases h
  obtain⟨m,e,rfl⟩:=Option.map_eq_some_iff.mp h
  rw[K4 e];rfl
theorem a2K {H:Hp}:∀{ns:List Int} {xs:List V},a6 K H (ns.map .int) xs->xs=ns.map V.int
 | [],xs,h=>by simpa only[List.map_nil,a6] using h
 | n::ns,xs,h=>by
  simp only[List.map_cons,a6]at h
  obtain⟨x,r,rfl,h1,h2⟩:=h
  simp only[b7]at h1
  rw[h1,a2K h2];rfl
end
end L3
namespace L3
open PySem PySem.Spec PyProof.Rows L2
section
variable {K:PySem.W.Frag}{X:Cx}
noncomputable def a2I:List Int->Int
 | []=>0
 | [a]=>a
 | a::b::r=>min a (a2I (b::r))
theorem a3V:∀{ns:List Int},ns≠[]->a2I ns∈ns∧∀n∈ns,a2I ns≤n
 | [],h=>absurd rfl h
 | [a],_=>⟨by simp[a2I],by simp[a2I]⟩
 | a::b::r,_=>by
  obtain⟨h1,h2⟩:=a3V (ns:=b::r) (by simp)
  rw[a2I]
  constructor
  ·by_cases h:a≤a2I (b::r)
   ·rw[Int.min_eq_left h];simp
   ·rw[Int.min_eq_right (by omega)];exact List.mem_cons_of_mem _ h1
  ·intro n hn
   rcases List.mem_cons.mp hn with rfl | hn
   ·exact Int.min_le_left _ _
   ·exact Int.le_trans (Int.min_le_right _ _) (h2 n hn)
noncomputable def a9g:List PyData->Option PyData
 | [.tuple ds]=>(G4 ds).bind λns=>if ns=[] then none else some (.int (a2I ns))
 | [.int i,.int j]=>some (.int (if j<i then j else i))
 | _=>none
theorem b0J (hK:X.K=K)(hc:X.calm=true):A3 X (.builtin "min") (rDN K a9g):=by
 intro pins s σ H xs us Q I r h
 obtain⟨fp,B,ds,z,bk,h1,hf,q⟩:=h
 unfold a9g at hf
 split at hf <;> try cases hf
 ·obtain⟨ns,e,hf⟩:=Option.bind_eq_some_iff.mp hf
  split at hf
  ·cases hf
  ·rename_i hne
   cases hf
   cases K4 e
   obtain⟨v,rfl,a,xs,rfl,ha,hd⟩:=a2C h1 rfl
   cases a2K hd
   refine a6s hK hc pins s σ H _ us Q I r ⟨a,ns,rfl,ha.same d4,hne,λm hm hle=>?_⟩
   obtain⟨m1,m2⟩:=a3V hne
   have:m=a2I ns:=by have:=hle _ m1;have:=m2 _ hm;omega
   rw[this]
   exact q _ H (i4.refl H) b7.int
 ·rename_i i j
  obtain⟨v,w,rfl,hv,hw⟩:=b2L h1 rfl
  cases(show v = .int i from hv)
  cases(show w = .int j from hw)
  exact a5T hc pins s σ H _ us Q I r ⟨i,j,rfl,q _ H (i4.refl H) b7.int⟩
noncomputable def a3G:PyData->Option PyData
 | .int i=>some (.int (-i))
 | _=>none
theorem a2A:UnR X (unaryOp .USub) (rD1 K a3G):=by
 intro pins s σ H x v Q I rx h
 obtain⟨fp,B,d,r,bk,h1,hf,q⟩:=h
 cases d <;> simp only[a3G]at hf <;> try cases hf
 rename_i i
 cases(show x = .int i from h1)
 exact a4i pins s σ H _ v Q I rx ⟨i,rfl,q _ H (i4.refl H) b7.int⟩
end
section
variable [Feeds]{K:PySem.W.Frag}{X:Cx}{e:Expr}{te:TE}{m:DE->M PyData}{pos p p2 p3:Pos}
end
section
variable {K:PySem.W.Frag}{X:Cx}
noncomputable def isD (neg:Bool):PyData->PyData->Option PyData
 | d,.none=>some (.bool (match d with | .none=>!neg | _=>neg))
 | _,_=>none
theorem a9v {fp B:List Addr}{H:Hp}{d:PyData}{x:V}(h:B7 K fp B H d x):decide (x = .non)=(match d with | .none=>true | _=>false):=by
 cases d with
 | none=>cases(show x = .non from h);rfl
 | bool b=>cases(show x = .bl b from h);rfl
 | int b=>cases(show x = .int b from h);rfl
 | str b=>cases(show x = .str b from h);rfl
 | tuple ds=>obtain⟨a,xs,rfl,_⟩:=h;rfl
 | list ds=>obtain⟨a,xs,rfl,_⟩:=h;rfl
 | dict b=>exact(show False from h).elim
theorem b01:OpR X (compareOp .Is) (rD2 K (isD false)):=by
 intro pins s σ H x y v u Q I rx ry h
 obtain⟨fp,B,d,e,r,bk,h1,h2,hf,q⟩:=h
 cases e <;> simp only[isD]at hf <;> try cases hf
 cases(show y = .non from h2)
 have z:=q (.bl (decide (x = .non))) H (i4.refl H) (by rw[a9v h1];cases d <;> exact b7.bl)
 exact b0U pins s σ H _ _ v u Q I rx ry ⟨rfl,z⟩
end
end L3
namespace L3
open PySem PySem.Spec PyProof.Rows L2
section
variable [Feeds]{K:PySem.W.Frag}{X:Cx}{e:Expr}{te:TE}{m:DE->M PyData}{pos p p2 p3:Pos}
noncomputable def a8m (x:Str):Str:=⟨((Builtin.Str.strSliceIndices none none (-1) x.length).filterMap (x.cps[·]?)).toArray⟩
theorem a6B (x:Str):(a8m x).length≤x.length:=by
 have h:=sliceIndicesBy_le none none (-1) (by decide) x.length
 have h2:=List.length_filterMap_le (λ(i:Nat)=>x.cps[i]?) (Builtin.Str.strSliceIndices none none (-1) x.length)
 have e:(a8m x).length=((Builtin.Str.strSliceIndices none none (-1) x.length).filterMap (x.cps[·]?)).length:=by simp[a8m,Str.length]
 rw[e]
 exact Nat.le_trans h2 h
noncomputable def a6f:PyData->Option PyData
 | .list ds=>some (.list ds.reverse)
 | .tuple ds=>some (.tuple ds.reverse)
 | .str x=>if x.length≤sizeLine then some (.str (a8m x)) else none
 | _=>none
theorem a8M {j}(hK:X.K=K)(he:PE X e te):PE X (.Subscript e (.Slice none none (some (.UnaryOp .USub (.Constant (.int 1) j p) p3)) p2) pos) (tUn (rD1 K a6f) te):=by
 subst hK
 intro pins s σ H Q I h
 refine Subscript_ (thn (he pins s σ H _ I h) λv s1 ⟨x,H1,I1,r1,q1⟩=>?_)
 refine wpAny_Slice ?_
 rw[evalPart_none]
 refine wpAny_pure (wpAny_pure ?_)
 refine thn (a2N (a8n a4i l4) pins s1 σ H1 (λo H2=>o=some (-1)∧H2=H1) I1 ⟨1,rfl,_,rfl,rfl,rfl⟩) λvst s2 ⟨o,H2,I2,ps,ho,hH⟩=>?_
 subst ho hH
 obtain⟨fp,B,d,r,bk,h1,hf,q⟩:=q1
 have I4:Inv X pins σ H2 { s2 with heap:=s2.heap.push { cls:=.type "slice",data:=.fields #[.none,.none,vst] } }:=I2.kept (t':=s2.toks) λb ob q=>Heap.get?_push_of_some _ q
 show wpAny (model X.prog X.w) X.A (subscriptTail e (.Slice none none (some (.UnaryOp .USub (.Constant (.int 1) j p) p3)) p2) v (.ref s2.heap.objs.size)) (EP X pins σ Q) X.xe { s2 with heap:=s2.heap.push { cls:=.type "slice",data:=.fields #[.none,.none,vst] } }
 cases d <;> simp only[a6f]at hf <;> try cases hf
 ·rename_i x0
  cases(show x = .str x0 from h1)
  split at hf
  ·rename_i hl
   cases hf
   obtain⟨t,rfl⟩:=r1
   obtain⟨l,rfl,e2⟩:=a2Y ps
   obtain⟨⟨i0,t0⟩,rfl⟩:∃z,l=some z:=by
    cases l with
    | none=>cases e2
    | some z=>exact⟨z,rfl⟩
   simp at e2
   subst e2
   have z:=q _ H2 (i4.refl H2) b7.st
   refine tail_any (ops:=[.str x0 t,.ref s2.heap.objs.size]) (typeIs_str _ _ _) F.slot_str_getitem.lookup (getItem_meets (typeIs_str _ _ _) (by decide) F.slot_str_getitem F.entry_str_getitem (F.args_str_getitem_2 _ _) (meets_str_getitem_slice x0 t s2.heap.objs.size none none (some (-1,t0)) rfl) ⟨⟨_,Heap.get?_push_size _ rfl,rfl,rfl⟩,?_⟩) (by with_unfolding_all rfl)
   unfold sliceMade
   rw[if_neg (by simp)]
   exact⟨Nat.le_trans (a6B x0) hl,⟨.str (a8m x0),H2,I4.tok _,⟨_,rfl⟩,z⟩⟩
  ·cases hf
 ·obtain⟨a,xs,rfl,ha,hd⟩:=h1
  cases r1
  obtain⟨its,r,ht,hz⟩:=I4.list (SqL.of (K:=X.K) (d4 _ _ ha))
  have hlen:=r.length
  refine tail_any (ops:=[.ref a,.ref s2.heap.objs.size]) ht.isList.typeIs slot_list_getitem.lookup (wpAny_getItem_list_slice ht.isList (Heap.IsSliceOf.new ..) .none .none ps (by decide) ?_ (by rw[List.size_toArray] <;> omega)) (by with_unfolding_all rfl)
  rw[PySem.W.krv_pick]
  refine⟨.ref _,_,I4.laid (t':=s2.toks) (o:=.lst xs.reverse) (λb ob q=>Heap.get?_push_of_some _ q) (Nat.le_refl _) ?_,rfl,?_⟩
  ·exact⟨by rw[List.length_reverse];exact hz,its.reverse,0,r.reverse,Heap.get?_push_size _ rfl⟩
  ·have hf:=I4.hok.fresh (Nat.le_refl _)
   exact q _ _ (i4.upd hf) (D8 bk hf (a6.reverse hd))
 ·obtain⟨a,xs,rfl,ha,hd⟩:=h1
  cases r1
  obtain⟨its,r,ht,hz⟩:=I4.tuple (ha.same d4)
  have hlen:its.toArray.size=xs.length:=by rw[List.size_toArray];exact r.length.symm
  refine tail_any (ops:=[.ref a,.ref s2.heap.objs.size]) ht.typeIs PyProof.Rows.slot_tuple_getitem.lookup (HT.getItem_tuple_rev ht (Heap.IsSliceOf.new ..) ps ?_ (by rw[hlen];exact hz)) (by with_unfolding_all rfl)
  refine⟨.ref _,_,I4.laid (t':=s2.toks) (o:=.tup xs.reverse) (λb ob q=>Heap.get?_push_of_some _ q) (Nat.le_refl _) ?_,rfl,?_⟩
  ·exact⟨by rw[List.length_reverse];exact hz,_,r.reverse,IsTup.new _ _⟩
  ·have hf:=I4.hok.fresh (Nat.le_refl _)
   exact q _ _ (i4.upd hf) (L1 bk hf (a6.reverse hd))
theorem b0R {j}(h:Eb K X e te m)(hK:X.K=K:=by rfl):Ev K X (.Subscript e (.Slice none none (some (.UnaryOp .USub (.Constant (.int 1) j p) p3)) p2) pos) (tUn (rD1 K a6f) te) (s1 a6f m):=⟨a8M hK h.pe,b0a h.ok⟩
end
end L3
namespace L3
open PySem PySem.Spec L2
theorem a0j:fillsNumberSlot (.type "tuple") "mul" = pure false :=
 fillsNumberSlot_seq (id:="tuple.__mul__") (r:=some (.builtin "tuple.__rmul__")) F.slot_tuple_mul.lookup (by decide +kernel) F.slot_tuple_rmul.lookup (by decide +kernel)
theorem a37:seqRepeat? (.type "tuple")=pure (some (.builtin "tuple.__mul__")):=by
 unfold seqRepeat?
 rw[seqSlot_of (T:="tuple") (name:="__mul__") (id:="tuple.__mul__") F.slot_tuple_mul.lookup (by decide +kernel),seqSlot_of (T:="tuple") (name:="__rmul__") (id:="tuple.__rmul__") F.slot_tuple_rmul.lookup (by decide +kernel)]
 rfl
theorem a1g (a:Int)(t:Tok)(l:Addr)(items:Array Value)(n:Nat)(dd:Option Addr)(sl:Array (Option Value)) :
  Meets (Builtin.«int.__rmul__» ⟨[.int a t,.ref l],[]⟩) (λ_ R s=>s.heap.get? l=some { cls:=.type "tuple",dict:=dd,data:=.seq items n,slots:=sl }∧R (.ok (.ret Value.notImplemented)) s) :=
 .of_wp λprog w A R s h=>by obtain⟨hp,g,d,tk,os⟩:=s;obtain⟨hl,h⟩:=h;wp_walk;exact⟨_,rfl,h⟩
theorem a4J (l:Addr)(items:Array Value)(n:Nat)(dd:Option Addr)(sl:Array (Option Value))(k:Int)(u:Tok)(hc0:(decide (k < -(2 ^ 63))||decide (k ≥ 2 ^ 63))=false)(hc1:(items.isEmpty||k == 1)=true) :
  Meets (Builtin.«tuple.__mul__» ⟨[.ref l,.int k u],[]⟩) (λ_ R s=>s.heap.get? l=some { cls:=.type "tuple",dict:=dd,data:=.seq items n,slots:=sl }∧R (.ok (.ret (.ref l))) s) :=
 .of_wp λprog w A R s h=>by
  obtain⟨hp,g,d,tk,os⟩:=s;obtain⟨hl,h⟩:=h
  have f1:=AutoSeq1.idx_int;have f2:=AutoSeq1.sub_tuple_tuple;have f3:=AutoSeq1.sub_list_list;have f4:=AutoSeq1.sub_tuple_list;have f5:=AutoSeq1.sub_list_tuple
  wp_walk
  refine wpAny_ite_false (by rw[hc0];rfl) ?_
  wp_walk
  exact⟨_,rfl,h⟩
theorem a4S (l:Addr)(items:Array Value)(n:Nat)(dd:Option Addr)(sl:Array (Option Value))(k:Int)(u:Tok)(hc0:(decide (k < -(2 ^ 63))||decide (k ≥ 2 ^ 63))=false)(hc1:(items.isEmpty||k == 1)=false)(hc2:(decide (k≤0)||items.isEmpty)=true) :
  Meets (Builtin.«tuple.__mul__» ⟨[.ref l,.int k u],[]⟩) (λ_ R s=>s.heap.get? l=some { cls:=.type "tuple",dict:=dd,data:=.seq items n,slots:=sl }∧R (.ok (.ret (.ref s.heap.objs.size))) { s with heap:=s.heap.push { cls:=.type "tuple",data:=.seq #[] } }) :=
 .of_wp λprog w A R s h=>by
  obtain⟨hp,g,d,tk,os⟩:=s;obtain⟨hl,h⟩:=h
  have f1:=AutoSeq1.idx_int;have f2:=AutoSeq1.sub_tuple_tuple;have f3:=AutoSeq1.sub_list_list;have f4:=AutoSeq1.sub_tuple_list;have f5:=AutoSeq1.sub_list_tuple
  wp_walk
  refine wpAny_ite_false (by rw[hc0];rfl) ?_
  wp_walk
  exact⟨_,rfl,h⟩
theorem a4R (l:Addr)(items:Array Value)(n:Nat)(dd:Option Addr)(sl:Array (Option Value))(k:Int)(u:Tok)(hc0:(decide (k < -(2 ^ 63))||decide (k ≥ 2 ^ 63))=false)(hc1:(items.isEmpty||k == 1)=false)(hc2:(decide (k≤0)||items.isEmpty)=false)(hc3:decide ((items.size:Int)*k > (2 ^ 63-1) / 8)=false)(hc4:Builtin.Tuple.tupleTooMany ((items.size:Int)*k)=false)
  (hsz:(List.foldl (λx1 x2=>x1++x2) #[] (List.replicate k.toNat items)).size≤sizeLine) :
  Meets (Builtin.«tuple.__mul__» ⟨[.ref l,.int k u],[]⟩) (λ_ R s=>s.heap.get? l=some { cls:=.type "tuple",dict:=dd,data:=.seq items n,slots:=sl }∧R (.ok (.ret (.ref s.heap.objs.size))) { s with heap:=s.heap.push { cls:=.type "tuple",data:=.seq (List.foldl (λx1 x2=>x1++x2) #[] (List.replicate k.toNat items)) } }) :=
 .of_wp λprog w A R s h=>by
  obtain⟨hp,g,d,tk,os⟩:=s;obtain⟨hl,h⟩:=h
  have f1:=AutoSeq1.idx_int;have f2:=AutoSeq1.sub_tuple_tuple;have f3:=AutoSeq1.sub_list_list;have f4:=AutoSeq1.sub_tuple_list;have f5:=AutoSeq1.sub_list_tuple
  wp_walk
  refine wpAny_ite_false (by rw[hc0];rfl) ?_
  wp_walk
  refine wpAny_ite_false hc3 ?_
  wp_walk
  exact⟨_,rfl,h⟩
section
open PyProof.Rows
variable {K:PySem.W.Frag}{X:Cx}
noncomputable def M3:PyData->PyData->Option PyData
 | .tuple xs,.int k=>if -(2 ^ 63)≤k∧k<2 ^ 63∧xs.length*k.toNat≤sizeLine then some (.tuple (List.replicate k.toNat xs).flatten) else none
 | d,e=>b1x d e
theorem a9j (hK:X.K=K):OpR X (binaryOp .Mult) (λx y H Q=>∃l k xs,x = .ref l∧y = .int k∧SqT K H l xs ∧ -(2 ^ 63)≤k∧k<2 ^ 63∧xs.length*k.toNat≤sizeLine ∧
  ((List.replicate k.toNat xs).flatten=xs->Q (.ref l) H)∧∀p,H p=none->Q (.ref p) (upd H p (.tup (List.replicate k.toNat xs).flatten))):=by
 subst hK
 intro pins s σ H x y v u Q I rx ry h
 obtain⟨l,k,xs,rfl,rfl,hq,h1,h2,hz,q0,q1⟩:=h
 cases rx
 obtain⟨t,rfl⟩:=ry
 obtain⟨its,r,p,hl⟩:=I.tuple hq
 have hlen:=r.length
 obtain⟨⟨cls,dd,data,sl⟩,ho,hc,n,hd⟩:=id p
 simp only at hc hd
 subst hc hd
 have hc0:(decide (k < -(2 ^ 63))||decide (k ≥ 2 ^ 63))=false:=by
  rw[decide_eq_false (by omega),decide_eq_false (by omega)];rfl
 have e1:s.TypeIs (.ref l) "tuple":=⟨_,ho,rfl⟩
 refine wpAny_binaryOp_repeat_ref (T:="tuple") (U:="int") (by decide) e1 (λs'=>typeIs_int s' k t) a0j F.fills_int_mul F.slot_int_rmul a37 F.slot_int_index.lookup
  (call_meets F.slot_int_rmul (typeIs_int s k t) F.entry_int_rmul (F.args_int_rmul_2 _ _) (a1g k t l its.toArray n dd sl) ⟨ho,rfl,e1,?_⟩)
 by_cases c1:(its.toArray.isEmpty||k == 1)=true
 ·refine call_meets F.slot_tuple_mul e1 F.entry_tuple_mul (F.args_tuple_mul_2 _ _) (a4J l its.toArray n dd sl k t hc0 c1) ⟨ho,⟨.ref l,H,I,rfl,q0 ?_⟩⟩
  simp only[Bool.or_eq_true,beq_iff_eq]at c1
  rcases c1 with c1 | c1
  ·have:xs=[]:=by
    cases r with
    | nil=>rfl
    | cons a b=>simp at c1
   subst this
   simp
  ·subst c1
   simp
 ·have c1:(its.toArray.isEmpty||k == 1)=false:=by simpa using c1
  by_cases c2:(decide (k≤0)||its.toArray.isEmpty)=true
  ·refine call_meets F.slot_tuple_mul e1 F.entry_tuple_mul (F.args_tuple_mul_2 _ _) (a4S l its.toArray n dd sl k t hc0 c1 c2) ⟨ho,?_⟩
   have ez:(List.replicate k.toNat xs).flatten=[]:=by
    rw[Bool.or_eq_false_iff]at c1
    rw[c1.1,Bool.or_false]at c2
    have:k.toNat=0:=by have:=of_decide_eq_true c2;omega
    rw[this];rfl
   have z:=q1 _ I.fresh
   rw[ez]at z
   exact⟨.ref _,_,I.laid (t':=s.toks) (o:=.tup []) (λb ob q=>Heap.get?_push_of_some _ q) (Nat.le_refl _) ⟨Nat.zero_le _,[],.nil,IsTup.new _ _⟩,rfl,z⟩
  ·have c2:(decide (k≤0)||its.toArray.isEmpty)=false:=by simpa using c2
   have hk0:0<k:=by
    rw[Bool.or_eq_false_iff]at c2
    have:=of_decide_eq_false c2.1
    omega
   have hm:(its.toArray.size:Int)*k≤sizeLine:=by
    obtain⟨j,rfl⟩:∃j:Nat,k=j:=⟨k.toNat,by omega⟩
    rw[List.size_toArray,←hlen]
    simp only[Int.toNat_natCast]at hz
    exact_mod_cast hz
   have hfold:List.foldl (λx1 x2=>x1++x2) #[] (List.replicate k.toNat its.toArray)=(List.replicate k.toNat its).flatten.toArray:=by
    have:=a0h its k.toNat []
    rw[List.nil_append]at this
    exact this
   have hsl:(sizeLine:Int)≤(2 ^ 63-1) / 8:=by rw[sizeLine_eq];decide
   refine call_meets F.slot_tuple_mul e1 F.entry_tuple_mul (F.args_tuple_mul_2 _ _) (a4R l its.toArray n dd sl k t hc0 c1 c2 (decide_eq_false (by omega)) (decide_eq_false (by omega)) ?_) ⟨ho,?_⟩
   ·rw[hfold,List.size_toArray,a2F,←hlen,Nat.mul_comm];exact hz
   ·rw[hfold]
    exact⟨.ref _,_,I.laid (t':=s.toks) (o:=.tup (List.replicate k.toNat xs).flatten) (λb ob q=>Heap.get?_push_of_some _ q) (Nat.le_refl _) ⟨by rw[a2F,Nat.mul_comm];exact hz,_,r.rep k.toNat,IsTup.new _ _⟩,rfl,q1 _ I.fresh⟩
theorem a0V (hK:X.K=K):OpR X (binaryOp .Mult) (rD2 K M3):=by
 intro pins s σ H x y v u Q I rx ry h
 obtain⟨fp,B,d,e,r,bk,h1,h2,hf,q⟩:=h
 unfold M3 at hf
 split at hf
 ·rename_i ds k
  obtain⟨a,xs,rfl,ha,hd⟩:=h1
  cases(show y = .int k from h2)
  split at hf
  ·rename_i hc
   cases hf
   refine a9j hK pins s σ H _ _ v u Q I rx ry ⟨a,k,xs,rfl,rfl,ha.same d4,hc.1,hc.2.1,by rw[hd.length];exact hc.2.2,λe=>q _ H (i4.refl H) ?_,λp hp=>q _ _ (i4.upd hp) (L1 bk hp (a6.rep hd _))⟩
   have:=a6.rep hd k.toNat
   rw[e]at this
   simp only[b7]
   exact⟨a,xs,rfl,ha,this⟩
  ·cases hf
 ·exact b10 pins s σ H x y v u Q I rx ry ⟨fp,B,d,e,r,bk,h1,h2,hf,q⟩
end
end L3
namespace L3
open PySem PySem.Spec PyProof.Rows L2
section
variable [Feeds]
noncomputable def a0l (K:PySem.W.Frag)(P:Hp->List Addr->Prop)(J:It)(items:List PyData):Prop:=∀H B,P H B ->
 (∀i d,items[i]? = some d->J.go i H∧∀x H2,J.yld i H x H2->i4 H H2∧(BOk H B->b7 K (hid H2 B) d x))∧J.stop items.length H
noncomputable def TId (K:PySem.W.Frag)(wi:TI)(mi:DE->M (List PyData)):Prop:=∀(G:GF) (B:List Addr) (E:DE) (F:FS) (σ:St) (H:Hp) (R:It->Hp->Prop) (ds:List PyData) (F':FS),SitE K G B E F σ H->mi E F=some (ds,F') ->
 (∀J H',Kp (k9 K G) H H'->FAt K G H' F'->a0l K (λH2 B2=>i4 (hid H' B) (hid H2 B2)) J ds->R J H')->wi σ H R
noncomputable def TIs (K:PySem.W.Frag)(wi:TI)(mi:DE->M (List PyData)):Prop:=∀(G:GF) (B:List Addr) (E:DE) (F:FS) (σ:St) (H:Hp) (R:It->Hp->Prop) (ds:List PyData) (F':FS),SitE K G B E F σ H->mi E F=some (ds,F') ->
 (∀J H',Kp (k9 K G) H H'->FAt K G H' F'->a0l K (λH2 B2=>Kp (k9 K G) H' H2∧i4 (hid H' B) (hid H2 B2)) J ds->R J H')->wi σ H R
theorem TId.sh {K:PySem.W.Frag}{wi:TI}{mi:DE->M (List PyData)}(h:TId K wi mi):TIs K wi mi:=λG B E F σ H R ds F' I e q=>h G B E F σ H R ds F' I e λJ H' k f ok=>q J H' k f λH2 B2 kp=>ok H2 B2 kp.2
structure Ei (K:PySem.W.Frag) (X:Cx) (tg iter:Expr) (wi:TI) (mi:DE->M (List PyData)):Prop where
 pi:PI X tg iter wi
 ok:TId K wi mi
structure Eib (K:PySem.W.Frag) (X:Cx) (tg iter:Expr) (wi:TI) (mi:DE->M (List PyData)):Prop where
 pi:PI X tg iter wi
 ok:TIs K wi mi
variable {K:PySem.W.Frag}{X:Cx}{tg iter e:Expr}{te:TE}{m:DE->M PyData}{pos p:Pos}
theorem Ei.bw {wi:TI}{mi:DE->M (List PyData)}(h:Ei K X tg iter wi mi):Eib K X tg iter wi mi:=⟨h.pi,h.ok.sh⟩
noncomputable def b0E (K:PySem.W.Frag)(tl:TE):TI:=λσ H R=>tl σ H λx H1=>∃a,x = .ref a∧(((∃xs,SqL K H1 a xs)∧R (Itl K a) H1)∨((∃xs,SqT K H1 a xs)∧R (Itt K a) H1))
theorem a7j {l:Expr}{tl:TE}(hK:X.K=K)(hl:PE X l tl):PI X tg l (b0E K tl):=by
 subst hK
 intro pins s σ H R I h
 refine thn (hl pins s σ H _ I h) λv s1 ⟨x,H1,I1,r1,q1⟩=>?_
 obtain⟨a,e,q⟩:=q1
 subst e
 cases r1
 rcases q with ⟨⟨xs,hq⟩,q⟩ | ⟨⟨xs,hq⟩,q⟩
 ·obtain⟨its,rv,p,hz⟩:=I1.list hq
  refine wpAny_pyIter_list p.isList ?_
  refine⟨s1.heap.objs.size,[s1.heap.objs.size],_,_,H1,rfl,I1.kept (t':=s1.toks) λb o e=>Heap.get?_push_of_some _ e,a6h a _,⟨_,Heap.get?_push_size _ rfl,rfl,rfl⟩,λb hb=>?_,q⟩
  have e:b=s1.heap.objs.size:=by simpa using hb
  subst e
  exact I1.fpOk (Nat.le_refl _) (I1.hok.fresh (Nat.le_refl _))
 ·obtain⟨its,rv,p,hz⟩:=I1.tuple hq
  refine wpAny_pyIter_tuple (show s1.heap.IsTuple a its.toArray from p) ?_
  refine⟨s1.heap.objs.size,[s1.heap.objs.size],_,_,H1,rfl,I1.kept (t':=s1.toks) λb o e=>Heap.get?_push_of_some _ e,a4B a _,⟨_,Heap.get?_push_size _ rfl,rfl,rfl⟩,λb hb=>?_,q⟩
  have e:b=s1.heap.objs.size:=by simpa using hb
  subst e
  exact I1.fpOk (Nat.le_refl _) (I1.hok.fresh (Nat.le_refl _))
noncomputable def a1T:PyData->Option (List PyData)
 | .list ds=>some ds
 | .tuple ds=>some ds
 | _=>none
noncomputable def B5 (a:DE->M PyData):DE->M (List PyData):=λE F=>(a E F).bind λp=>(a1T p.1).bind λds=>some (ds,p.2)
theorem a6.item {H:Hp}{ds:List PyData}{xs:List V}{i:Nat}{d:PyData}(h:a6 K H ds xs)(e:ds[i]? = some d):∃v,xs[i]? = some v∧b7 K H d v:=by
 obtain⟨hj,_⟩:=List.getElem?_eq_some_iff.mp e
 have hx:xs[i]? = some (xs[i]'(by rw[h.length];exact hj)):=by simp
 obtain⟨d',h1,h2⟩:=h.get hx
 rw[e]at h1;cases h1
 exact⟨_,hx,h2⟩
theorem a53 {P:Hp->List Addr->Prop}{a:Addr}{ds:List PyData}{xs:List V}(h:∀H B,P H B->H a=some (.lst xs)∧a6 K (hid H B) ds xs):a0l K P (Itl K a) ds:=λH B hp=>by
 obtain⟨h1,h2⟩:=h H B hp
 refine⟨λi d e=>?_,⟨xs,SqL.of h1,by rw[h2.length];exact Nat.le_refl _⟩⟩
 obtain⟨v,e1,e2⟩:=a6.item h2 e
 refine⟨⟨xs,v,SqL.of h1,e1⟩,λx H2 y=>?_⟩
 obtain⟨rfl,y⟩:=y
 have:=y xs (SqL.of h1)
 rw[e1]at this;cases this
 exact⟨i4.refl _,λ_=>e2⟩
theorem a7c {P:Hp->List Addr->Prop}{a:Addr}{ds:List PyData}{xs:List V}(h:∀H B,P H B->SqT K H a xs∧a6 K (hid H B) ds xs):a0l K P (Itt K a) ds:=λH B hp=>by
 obtain⟨h1,h2⟩:=h H B hp
 refine⟨λi d e=>?_,⟨xs,h1,by rw[h2.length];exact Nat.le_refl _⟩⟩
 obtain⟨v,e1,e2⟩:=a6.item h2 e
 refine⟨⟨xs,v,h1,e1⟩,λx H2 y=>?_⟩
 obtain⟨rfl,y⟩:=y
 have:=y xs h1
 rw[e1]at this;cases this
 exact⟨i4.refl _,λ_=>e2⟩
theorem a0f (h:Ev K X e te m)(hK:X.K=K:=by rfl):Ei K X tg e (b0E K te) (B5 m):=⟨a7j hK h.pe,λG B E F σ H R ds F' I e q=>by
 obtain⟨⟨y,F1⟩,e1,e⟩:=Option.bind_eq_some_iff.mp e
 obtain⟨z,e2,e⟩:=Option.bind_eq_some_iff.mp e
 cases e
 refine h.ok G B E F σ H _ y F1 I e1 λv H1 k1 f1 h1=>?_
 cases y with
 | list ys =>
  cases e2
  simp only[b7]at h1
  obtain⟨a,xs,rfl,ha,hd⟩:=h1
  refine⟨a,rfl,.inl ⟨⟨xs,SqL.of (d4 _ _ ha)⟩,q _ H1 k1 f1 (a53 λH2 B2 s=>⟨d4 _ _ (s _ _ ha),hd.same s⟩)⟩⟩
 | tuple ys =>
  cases e2
  simp only[b7]at h1
  obtain⟨a,xs,rfl,ha,hd⟩:=h1
  refine⟨a,rfl,.inr ⟨⟨xs,ha.same d4⟩,q _ H1 k1 f1 (a7c λH2 B2 s=>⟨(ha.same s).same d4,hd.same s⟩)⟩⟩
 | _=>cases e2⟩
theorem A0 (h:Eb K X e te m)(hK:X.K=K:=by rfl):Eib K X tg e (b0E K te) (B5 m):=⟨a7j hK h.pe,λG B E F σ H R ds F' I e q=>by
 obtain⟨⟨y,F1⟩,e1,e⟩:=Option.bind_eq_some_iff.mp e
 obtain⟨z,e2,e⟩:=Option.bind_eq_some_iff.mp e
 cases e
 refine h.ok G B E F σ H _ y F1 I e1 λv H1 k1 f1 h1=>?_
 cases y with
 | list ys =>
  cases e2
  obtain⟨a,xs,rfl,ha,hd⟩:=h1
  refine⟨a,rfl,.inl ⟨⟨xs,SqL.of (d4 _ _ ha)⟩,q _ H1 k1 f1 (a53 λH2 B2 k=>⟨d4 _ _ (k.1.hid (B:=k9 K G) (λ_ z=>z) _ _ ha),hd.same k.2⟩)⟩⟩
 | tuple ys =>
  cases e2
  obtain⟨a,xs,rfl,ha,hd⟩:=h1
  refine⟨a,rfl,.inr ⟨⟨xs,ha.same d4⟩,q _ H1 k1 f1 (a7c λH2 B2 k=>⟨(ha.same k.2).same d4,hd.same k.2⟩)⟩⟩
 | _=>cases e2⟩
noncomputable def P5 (lo:Int)(n:Nat):List PyData:=(List.range n).map λ(i:Nat)=>.int (lo+i)
theorem b12 {P:Hp->List Addr->Prop}{lo:Int}{n:Nat}:a0l K P (Itr lo n) (P5 lo n):=λH B _=>by
 refine⟨λi d e=>?_,by show n≤_;simp[P5]⟩
 unfold P5 at e
 rw[List.getElem?_map]at e
 obtain⟨j,e1,rfl⟩:=Option.map_eq_some_iff.mp e
 obtain⟨hj,e2⟩:=List.getElem?_eq_some_iff.mp e1
 simp at hj e2
 subst e2
 refine⟨hj,λx H2 y=>?_⟩
 obtain⟨rfl,rfl⟩:=y
 exact⟨i4.refl _,λ_=>b7.int⟩
noncomputable def Q2:List PyData->Option (List PyData)
 | [.int j]=>if -(2 ^ 62)≤j∧j<2 ^ 62 then some (P5 0 j.toNat) else none
 | _=>none
noncomputable def a2W:List PyData->Option (List PyData)
 | [.int i,.int j]=>if -(2 ^ 62)≤i∧i<2 ^ 62 ∧ -(2 ^ 62)≤j∧j<2 ^ 62 then some (P5 i (j-i).toNat) else none
 | _=>none
noncomputable def a0v (a:DE->M (List PyData)):DE->M (List PyData):=λE F=>(a E F).bind λp=>(Q2 p.1).bind λds=>some (ds,p.2)
theorem a2J {a:Expr}{ta:TA}{ms:DE->M (List PyData)}(h:Ea K X [a] ta ms)(hm:X.mg "range" = none)(hg:Gl X "range":=by rfl)(hs:starEach [a] X.env=[(false,eval a X.env)]:=by rfl):Ei K X tg (.Call (.Name "range" p) [a] [] pos) (b0d ta) (a0v ms):=⟨a5P hg hm h.pa hs,λG B E F σ H R ds F' I e q=>by
 obtain⟨⟨ys,F1⟩,e1,e⟩:=Option.bind_eq_some_iff.mp e
 obtain⟨z,e2,e⟩:=Option.bind_eq_some_iff.mp e
 cases e
 refine h.ok G B E F σ H _ ys F1 I e1 λvs H1 k1 f1 h1=>?_
 unfold Q2 at e2
 split at e2
 ·rename_i j hj
  split at e2
  ·rename_i hc
   cases e2
   have hj:ys=[.int j]:=hj
   subst hj
   simp only[a6]at h1
   obtain⟨x,r,rfl,h2,rfl⟩:=h1
   simp only[b7]at h2
   subst h2
   exact⟨j,rfl,hc.1,hc.2,q _ H1 k1 f1 b12⟩
  ·cases e2
 ·cases e2⟩
noncomputable def TGd (K:PySem.W.Frag)(g:TG)(bd:PyData->DE->Option DE):Prop:=∀(G:GF) (B:List Addr) (E:DE) (F:FS) (σ:St) (H:Hp) (x:V) (d:PyData) (E':DE) (Q:St->Hp->Prop),SitE K G B E F σ H->b7 K (hid H B) d x->bd d E=some E' ->
 (∀σ',SitE K G B E' F σ' H->(∀i:Nat,(∀y,E'[i]? ≠ some (some (.dat y)))->E'[i]? = E[i]? ∧ σ'[i]? = σ[i]?)->Q σ' H)->g x σ H Q
noncomputable def b35 (K:PySem.W.Frag)(g:TGs)(bd:List PyData->DE->Option DE):Prop:=∀(G:GF) (B:List Addr) (E:DE) (F:FS) (σ:St) (H:Hp) (xs:List V) (ds:List PyData) (E':DE) (Q:St->Hp->Prop),SitE K G B E F σ H->a6 K (hid H B) ds xs->bd ds E=some E' ->
 (∀σ',SitE K G B E' F σ' H->(∀i:Nat,(∀y,E'[i]? ≠ some (some (.dat y)))->E'[i]? = E[i]? ∧ σ'[i]? = σ[i]?)->Q σ' H)->g xs σ H Q
structure Eg (K:PySem.W.Frag) (X:Cx) (tg:Expr) (g:TG) (bd:PyData->DE->Option DE):Prop where
 pg:PG X tg g
 ok:TGd K g bd
structure Egs (K:PySem.W.Frag) (X:Cx) (tgs:List Expr) (g:TGs) (bd:List PyData->DE->Option DE):Prop where
 pg:PGs X tgs g
 ok:b35 K g bd
noncomputable def bN (i:Nat):PyData->DE->Option DE:=λd E=>if i<E.length then some (E.set i (some (.dat d))) else none
theorem SitE.set {G:GF}{B:List Addr}{E:DE}{F:FS}{σ:St}{H:Hp}{i:Nat}{d:PyData}{v:V}(I:SitE K G B E F σ H)(h:b7 K (hid H B) d v)(hi:i<E.length):SitE K G B (E.set i (some (.dat d))) F (σ.set i (some v)) H:=by
 refine⟨I.fd,I.fB,I.bk,by rw[List.length_set,List.length_set];exact I.ln,λj x e=>?_⟩
 have hs:i < σ.length:=by rw[←I.ln];exact hi
 by_cases hj:i=j
 ·subst hj
  rw[List.getElem?_set_self hi]at e
  cases e
  exact⟨v,by rw[List.getElem?_set_self hs],h⟩
 ·rw[List.getElem?_set_ne hj]at e
  rw[List.getElem?_set_ne hj]
  exact I.loc j x e
theorem m7 {i:Nat}{x:Str}(hN:X.N.Nodup)(hi:X.N[i]? = some x:=by rfl)(hx:Loc X.env.scope x:=by first | exact Or.inl rfl | exact Or.inr rfl)(hf:X.fn x=true∨X.env.scope.names.lookup x=some .local:=by first | exact .inl rfl | exact .inr rfl | assumption):Eg K X (.Name x pos) (P3 i) (bN i):=⟨a2R hN hi hx hf,λG B E F σ H x d E' Q I h e q=>by
 unfold bN at e
 split at e
 ·rename_i hl
  cases e
  refine q _ (I.set h hl) λj hj=>?_
  by_cases hij:i=j
  ·subst hij
   exact absurd (List.getElem?_set_self hl) (hj d)
  ·rw[List.getElem?_set_ne hij,List.getElem?_set_ne hij]
   exact⟨rfl,rfl⟩
 ·cases e⟩
noncomputable def w8:List PyData->DE->Option DE:=λds E=>if ds.isEmpty then some E else none
noncomputable def d6 (a:PyData->DE->Option DE)(r:List PyData->DE->Option DE):List PyData->DE->Option DE
 | d::ds,E=>(a d E).bind λE1=>r ds E1
 | [],_=>none
theorem p9:Egs K X [] b0K w8:=⟨a5u,λG B E F σ H xs ds E' Q I h e q=>by
 cases ds with
 | nil=>cases e;simp only[a6]at h;exact⟨h,q σ I λ_ _=>⟨rfl,rfl⟩⟩
 | cons d r=>cases e⟩
theorem d5 {es:List Expr}{t:TG}{u:TGs}{ba:PyData->DE->Option DE}{br:List PyData->DE->Option DE}(h1:Eg K X e t ba)(h2:Egs K X es u br)
  (hs:(assignEach (e::es) X.env).map (·.2)=assign e X.env::(assignEach es X.env).map (·.2):=by rfl):Egs K X (e::es) (a4V t u) (d6 ba br):=⟨a1N h1.pg h2.pg hs,λG B E F σ H xs ds E' Q I h e q=>by
 cases ds with
 | nil=>cases e
 | cons d r =>
  obtain⟨E1,e1,e⟩:=Option.bind_eq_some_iff.mp e
  simp only[a6]at h
  obtain⟨x,rr,rfl,hx,hr⟩:=h
  refine⟨x,rr,rfl,h1.ok G B E F σ H x d E1 _ I hx e1 λσ1 I1 k1=>?_⟩
  refine h2.ok G B E1 F σ1 H rr r E' _ I1 hr e λσ2 I2 k2=>q σ2 I2 λi hi=>?_
  obtain⟨a1,a2⟩:=k2 i hi
  obtain⟨b1,b2⟩:=k1 i (λy z=>hi y (a1.trans z))
  exact⟨a1.trans b1,a2.trans b2⟩⟩
noncomputable def w4 (n:Nat)(r:List PyData->DE->Option DE):PyData->DE->Option DE
 | .tuple ds,E=>if ds.length=n then r ds E else none
 | _,_=>none
theorem v8 {es:List Expr}{k:Nat}{t:TGs}{n:Nat}{br:List PyData->DE->Option DE}(hc:X.calm=true)(h:Egs K X es t br)(hK:X.K=K:=by rfl)
  (hn:(assignEach es X.env).length=n:=by rfl) (hst:(assignEach es X.env).findIdx? (·.1)=none:=by rfl):Eg K X (.Tuple es k pos) (a8U K n t) (w4 n br):=⟨a5F hK hc h.pg hn hst,λG B E F σ H x d E' Q I hd e q=>by
 cases d <;> simp only[w4]at e <;> try cases e
 split at e
 ·rename_i hl
  simp only[b7]at hd
  obtain⟨a,xs,rfl,ha,hx⟩:=hd
  exact⟨a,xs,rfl,ha.same d4,by rw[hx.length];exact hl,h.ok G B E F σ H xs _ E' Q I hx e q⟩
 ·cases e⟩
noncomputable def a1v (k:Nat)(cap:List Nat)(E:DE):DE:=List.replicate k none++cap.map λj=>(E[j]?).join
theorem SitE.cap {G:GF}{B:List Addr}{E:DE}{F:FS}{σ:St}{H:Hp}(I:SitE K G B E F σ H)(k:Nat)(cap:List Nat):SitE K G B (a1v k cap E) F (J6 k cap σ) H:=by
 refine⟨I.fd,I.fB,I.bk,by simp[a1v,J6],λi x e=>?_⟩
 unfold a1v at e
 by_cases hi:i<k
 ·rw[List.getElem?_append_left (by simpa using hi),List.getElem?_replicate,if_pos hi]at e
  cases e
 ·rw[List.getElem?_append_right (by simpa using hi),List.length_replicate,List.getElem?_map]at e
  obtain⟨j,hj,hv⟩:=Option.map_eq_some_iff.mp e
  have hE:E[j]? = some (some x):=by
   cases q:E[j]? with
   | none=>rw[q]at hv;cases hv
   | some o=>rw[q]at hv;exact congrArg some hv
  obtain⟨v,h1,h2⟩:=I.loc j x hE
  refine⟨v,?_,h2⟩
  unfold J6
  rw[List.getElem?_append_right (by simpa using hi),List.length_replicate,List.getElem?_map,hj,Option.map_some,h1]
  rfl
theorem SitE.more {G:GF}{B:List Addr}{E:DE}{F:FS}{σ:St}{H:Hp}{D:Addr}{o:HO}(I:SitE K G B E F σ H)(hD:H D=none):SitE K G (D::B) E F σ (upd H D o):=by
 have hn:D ∉ B:=I.bk.nin hD
 have e1:hid (upd H D o) (D::B)=hid H B:=by
  funext b
  by_cases hb:b=D
  ·subst hb;rw[A4 List.mem_cons_self,j8 hn,hD]
  ·by_cases hB:b∈B
   ·rw[A4 hB,A4 (List.mem_cons_of_mem _ hB)]
   ·rw[j8 hB,j8 (by simp[hb,hB]),d8 hb]
 refine⟨I.fd.same (i4.upd hD),λb hb=>List.mem_cons_of_mem _ (I.fB b hb),λb hb=>?_,I.ln,λi x e=>?_⟩
 ·rcases List.mem_cons.mp hb with rfl | hb
  ·exact⟨o,g6⟩
  ·obtain⟨u,e⟩:=I.bk b hb
   exact⟨u,by rw[d8 (j5 e hD)];exact e⟩
 ·obtain⟨v,h1,h2⟩:=I.loc i x e
  refine⟨v,h1,?_⟩
  cases x with
  | dat d=>show b7 K (hid (upd H D o) (D::B)) d v;rw[e1];exact h2
  | feed=>exact h2
  | own ds =>
   obtain⟨a,xs,ea,hB,hf,ha,hd⟩:=h2
   exact⟨a,xs,ea,List.mem_cons_of_mem _ hB,hf,by rw[d8 (j5 ha hD)];exact ha,by rw[e1];exact hd⟩
theorem SitE.wr {G:GF}{B:List Addr}{E:DE}{F:FS}{σ:St}{H:Hp}{D:Addr}{o:HO}(I:SitE K G (D::B) E F σ H)(hf:D ∉ k9 K G)(hown:∀(i:Nat) (ds:List PyData),E[i]? = some (some (DV.own ds))->σ[i]? ≠ some (some (V.ref D))){acc:List V}(hD:H D=some (.lst acc)):SitE K G (D::B) E F σ (upd H D o):=by
 have e1:hid (upd H D o) (D::B)=hid H (D::B):=S7 List.mem_cons_self
 refine⟨I.fd.congr λb hb=>d8 (λe=>hb.elim (λhb=>hf (e▸hb)) λ⟨φ,q⟩=>by rw[e,hD]at q;cases q),I.fB,λb hb=>?_,I.ln,λi x e=>?_⟩
 ·by_cases h:b=D
  ·subst h;exact⟨o,g6⟩
  ·rw[d8 h];exact I.bk b hb
 ·obtain⟨v,h1,h2⟩:=I.loc i x e
  refine⟨v,h1,?_⟩
  cases x with
  | dat d=>show b7 K (hid (upd H D o) (D::B)) d v;rw[e1];exact h2
  | feed=>exact h2
  | own ds =>
   obtain⟨a,xs,rfl,hB,hfa,ha,hd⟩:=h2
   have hne:a≠D:=λz=>hown i ds e (by rw[←z];exact h1)
   exact⟨a,xs,rfl,hB,hfa,by rw[d8 hne];exact ha,by rw[e1];exact hd⟩
structure Ets (K:PySem.W.Frag) (X:Cx) (ifs:List Expr) (tt:TT) (m:DE->M Bool):Prop where
 pts:PTs X ifs tt
 ok:TTd K tt m
noncomputable def E8:DE->M Bool:=λ_ F=>some (true,F)
theorem z9:Ets K X [] b1M E8:=⟨a9A,λG B E F σ H Q b F' I e q=>by cases e;exact q H Kp.refl I.fd⟩
theorem a0Z {c:Expr}{tt:TT}{mt:DE->M Bool}(h:Et K X c tt mt):Ets K X [c] tt mt:=⟨a9w h.pt,h.ok⟩
noncomputable def L5 (bd:PyData->DE->Option DE)(mt:DE->M Bool)(me:DE->M PyData):List PyData->DE->M (List PyData)
 | [],_,F=>some ([],F)
 | d::r,E,F=>(bd d E).bind λE1=>(mt E1 F).bind λp=>if p.1=true then(me E1 p.2).bind λy=>(L5 bd mt me r E1 y.2).bind λz=>some (y.1::z.1,z.2) else L5 bd mt me r E1 p.2
noncomputable def sLC (mi:DE->M (List PyData))(k:Nat)(cap:List Nat)(bd:PyData->DE->Option DE)(mt:DE->M Bool)(me:DE->M PyData):DE->M PyData:=λE F =>
 (mi E F).bind λp=>if p.1.length≤sizeLine then(L5 bd mt me p.1 (a1v k cap E) p.2).bind λz=>some (.list z.1,z.2) else none
noncomputable def a9N (K:PySem.W.Frag)(G:GF)(B:List Addr)(D:Addr)(H1:Hp)(bd:PyData->DE->Option DE)(mt:DE->M Bool)(me:DE->M PyData)(items whole:List PyData)(Fz:FS)(i:Nat)(σ:St)(acc:List V)(H:Hp):Prop :=
 ∃E F done rest,SitE K G (D::B) E F σ H∧H D=some (.lst acc)∧Kp (k9 K G) H1 H∧(∀(j:Nat) (ds:List PyData),E[j]? = some (some (DV.own ds))->σ[j]? ≠ some (some (V.ref D)))∧a6 K (hid H (D::B)) done acc∧L5 bd mt me (items.drop i) E F=some (rest,Fz)∧whole=done++rest∧done.length≤i
theorem b2c {wi:TI}{mi:DE->M (List PyData)}{k:Nat}{cap:List Nat}{g:TG}{bd:PyData->DE->Option DE}{tt:TT}{mt:DE->M Bool}{me:DE->M PyData}(hi:TIs K wi mi)(hg:TGd K g bd)(ht:TTd K tt mt)(he:TEd K te me) :
  TEd K (tLC wi k cap g tt te) (sLC mi k cap bd mt me):=λG B E F σ H Q d F' I e q=>by
 obtain⟨⟨items,F1⟩,e1,e⟩:=Option.bind_eq_some_iff.mp e
 split at e
 ·rename_i hsz
  obtain⟨⟨whole,F2⟩,e2,e⟩:=Option.bind_eq_some_iff.mp e
  cases e
  refine hi G B E F σ H _ items F1 I e1 λJ H1 k1 f1 ok D hD=>?_
  have I1:SitE K G B E F1 σ H1:=I.step k1 f1
  have hBD:D ∉ B:=I1.bk.nin hD
  have hfD:D ∉ k9 K G:=λz=>hBD (I.fB D z)
  have hsz:items.length≤sizeLine:=hsz
  have stab:∀{H':Hp},Kp (k9 K G) H1 H'->Kp (k9 K G) H1 H'∧i4 (hid H1 B) (hid H' (D::B)):=λ{H'} k=>⟨k,λb o eb=>by
   by_cases hb:b∈B
   ·rw[A4 hb]at eb;cases eb
   ·rw[j8 hb]at eb
    rw[j8 (by
     intro z
     rcases List.mem_cons.mp z with rfl | z
     ·rw[hD]at eb;cases eb
     ·exact hb z)]
    exact k b o eb λz=>hb (I.fB b z)⟩
  refine a7l items.length (a9N K G B D H1 bd mt me items whole F2) ?_ ?_ ?_ ?_ ?_
  ·refine⟨a1v k cap E,F1,[],whole,(I1.cap k cap).more hD,g6,Kp.upd hD,λj ds ej z=>?_,a6.nil,e2,rfl,Nat.le_refl _⟩
   obtain⟨v,v1,a,xs,rfl,_,_,ha,_⟩:=(I1.cap k cap).loc j _ ej
   rw[v1]at z
   cases z
   rw[hD]at ha;cases ha
  ·rintro i σ' acc H' hlt ⟨E',F3,done,rest,I2,hD2,k2,ow,hd2,e3,ew,hdi⟩
   exact((ok H' (D::B) (stab k2)).1 i items[i] (by simp[hlt])).1
  ·rintro σ' acc H' ⟨E',F3,done,rest,I2,hD2,k2,ow,hd2,e3,ew,hdi⟩
   exact(ok H' (D::B) (stab k2)).2
  ·rintro i σ' acc H' hlt ⟨E',F3,done,rest,I2,hD2,k2,ow,hd2,e3,ew,hdi⟩ x H2 y R hR
   obtain⟨s2,hx⟩:=((ok H' (D::B) (stab k2)).1 i items[i] (by simp[hlt])).2 x H2 y
   have hx':=hx I2.bk
   rw[List.drop_eq_getElem_cons hlt,L5]at e3
   obtain⟨E4,e4,e3⟩:=Option.bind_eq_some_iff.mp e3
   obtain⟨⟨b,F5⟩,e5,e3⟩:=Option.bind_eq_some_iff.mp e3
   have I3:SitE K G (D::B) E' F3 σ' H2:=I2.step (Kp.same s2) (I2.fd.same s2)
   refine hg G (D::B) E' F3 σ' H2 x items[i] E4 _ I3 hx' e4 λσ4 I4 fr=>?_
   have ow4:∀(j:Nat) (ds:List PyData),E4[j]? = some (some (DV.own ds))->σ4[j]? ≠ some (some (V.ref D)):=λj ds ej=>by
    obtain⟨a1,a2⟩:=fr j λy z=>by rw[ej]at z;cases z
    rw[a2];exact ow j ds (a1▸ej)
   refine ht G (D::B) E4 F3 σ4 H2 _ b F5 I4 e5 λH5 k5 f5=>?_
   have kall:Kp (k9 K G) H1 H5:=(k2.trans (Kp.same s2)).trans k5
   have I5:SitE K G (D::B) E4 F5 σ4 H5:=I4.step k5 f5
   have hD5:H5 D=some (.lst acc):=k5 D _ (s2 D _ hD2) hfD
   have hd5:a6 K (hid H5 (D::B)) done acc:=(hd2.same ((Kp.same s2).hid (fp:=[]) (by simp))).same (k5.hid I4.fB)
   cases b with
   | false =>
    exact⟨hD5,hR _ _ _ ⟨E4,F5,done,rest,I5,hD5,kall,ow4,hd5,e3,ew,by omega⟩⟩
   | true =>
    obtain⟨⟨yd,F6⟩,e6,e3⟩:=Option.bind_eq_some_iff.mp e3
    obtain⟨⟨zs,F7⟩,e7,e3⟩:=Option.bind_eq_some_iff.mp e3
    cases e3
    refine he G (D::B) E4 F5 σ4 H5 _ yd F6 I5 e6 λv H6 k6 f6 h6=>?_
    have hD6:H6 D=some (.lst acc):=k6 D _ hD5 hfD
    have I6:SitE K G (D::B) E4 F6 σ4 H6:=I5.step k6 f6
    have hd6:=hd5.same (k6.hid I5.fB)
    have hlen:acc.length<sizeLine:=by rw[hd2.length];omega
    refine⟨hD6,hlen,hR _ _ _ ⟨E4,F6,done++[yd],zs,I6.wr hfD ow4 hD6,g6,λb o eb nb=>?_,ow4,?_,e7,by rw[ew];simp,by simp;omega⟩⟩
    ·have:=k6 b o (kall b o eb nb) nb
     rw[d8];exact this
     intro z;subst z;rw[hD]at eb;cases eb
    ·rw[S7 List.mem_cons_self]
     exact hd6.snoc h6
  ·rintro σ' acc H' ⟨E',F3,done,rest,I2,hD2,k2,ow,hd2,e3,ew,hdi⟩
   rw[List.drop_length,L5]at e3
   cases e3
   rw[List.append_nil]at ew
   subst ew
   refine q _ H' (k1.trans k2) I2.fd ?_
   refine b7.lst (by rw[j8 hBD];exact hD2) (hd2.same (N8 λb hb=>List.mem_cons_of_mem _ hb))
 ·cases e
theorem U2 {elt:Expr}{ifs:List Expr}{scope osc:Scope}{N:List Str}{k:Nat}{cap:List Nat}{wi:TI}{g:TG}{tt:TT}{mi:DE->M (List PyData)}{bd:PyData->DE->Option DE}{mt:DE->M Bool}{me:DE->M PyData}
  (hc:X.calm=true) (hosc:X.env.scope=osc) (hcap:Caps X.N osc N k cap scope) (hi:Eib K X tg iter wi mi)
  (hg:∀cl C ex pins s H,Eg K (cxC X N scope cl C ex pins s H) tg g bd)
  (ht:∀cl C ex pins s H,Ets K (cxC X N scope cl C ex pins s H) ifs tt mt)
  (he:∀cl C ex pins s H,Ev K (cxC X N scope cl C ex pins s H) elt te me)
  (hs:∀x,foldedSetIterable iter X.env x=pure x:=by intro _;rfl) :
  Ev K X (.ListComp elt [⟨tg,iter,ifs,0⟩] scope pos) (tLC wi k cap g tt te) (sLC mi k cap bd mt me) :=
 ⟨a9Y hc hosc hcap hi.pi (λcl C ex pins s H=>(hg cl C ex pins s H).pg) (λcl C ex pins s H=>(ht cl C ex pins s H).pts) (λcl C ex pins s H=>(he cl C ex pins s H).pe) hs,
  b2c hi.ok (hg [] 0 [] [] X.s₀ X.H₀).ok (ht [] 0 [] [] X.s₀ X.H₀).ok (he [] 0 [] [] X.s₀ X.H₀).ok⟩
end
end L3
namespace L3
open PySem PySem.Spec PyProof.Rows L2
section
variable [Feeds]
inductive Out where
 | nx (E:DE) | rt (d:PyData) | bk (E:DE) | ct (E:DE)
structure Sit (K:PySem.W.Frag) (G:GF) (B0:List Addr) (H0:Hp) (E:DE) (F:FS) (σ:St) (H:Hp):Prop where
 ex:∃B,(∀b∈B0,b∈B)∧(∀b∈B,b∈B0∨H0 b=none)∧SitE K G B E F σ H
 fB:∀b∈k9 K G,b∈B0
 kp:Kp (k9 K G) H0 H
 own:∀(i:Nat) (ds:List PyData) (a:Addr),E[i]? = some (some (DV.own ds))->σ[i]? = some (some (V.ref a))->H0 a=none∧a ∉ B0
 inj:∀(i j:Nat) (ds es:List PyData) (a:Addr),E[i]? = some (some (DV.own ds))->E[j]? = some (some (DV.own es))->σ[i]? = some (some (V.ref a))->σ[j]? = some (some (V.ref a))->i=j
noncomputable def b1T (K:PySem.W.Frag)(G:GF)(B0:List Addr)(H0:Hp)(F:FS)(D:Ends):Out->Prop
 | .nx E=>∀σ H,Sit K G B0 H0 E F σ H->D.nx σ H
 | .bk E=>∀σ H,Sit K G B0 H0 E F σ H->D.bk σ H
 | .ct E=>∀σ H,Sit K G B0 H0 E F σ H->D.ct σ H
 | .rt d=>∀v H,Kp (k9 K G) H0 H->FAt K G H F->b7 K (hid H B0) d v->D.rt v H
noncomputable def TSd (K:PySem.W.Frag)(ts:TS)(m:DE->M Out):Prop:=∀(G:GF) (B0:List Addr) (H0:Hp) (E:DE) (F:FS) (σ:St) (H:Hp) (D:Ends) (r:Out) (F':FS),Sit K G B0 H0 E F σ H->m E F=some (r,F')->b1T K G B0 H0 F' D r->ts D σ H
structure Ss (K:PySem.W.Frag) (X:Cx) (st:Stmt) (ts:TS) (m:DE->M Out):Prop where
 ps:PS X st ts
 ok:TSd K ts m
structure Sss (K:PySem.W.Frag) (X:Cx) (sts:List Stmt) (ts:TS) (m:DE->M Out):Prop where
 ps:PSs X sts ts
 ok:TSd K ts m
variable {K:PySem.W.Frag}{X:Cx}{a b c e tg iter:Expr}{es:List Expr}{st:Stmt}{sts rest:List Stmt}{ta tb te:TE}{ma mb m:DE->M PyData}{t u:TS}{mt mu:DE->M Out}{pos pos' p p2:Pos}
theorem Sit.step {G:GF}{B0:List Addr}{H0:Hp}{E:DE}{F F':FS}{σ:St}{H H':Hp}(S:Sit K G B0 H0 E F σ H)(k:Kp (k9 K G) H H')(f:FAt K G H' F'):Sit K G B0 H0 E F' σ H':=by
 obtain⟨B,s,sn,I⟩:=S.ex
 exact⟨⟨B,s,sn,I.step k f⟩,S.fB,S.kp.trans k,S.own,S.inj⟩
noncomputable def mNx:DE->M Out:=λE F=>some (.nx E,F)
noncomputable def mSq (a b:DE->M Out):DE->M Out:=λE F=>(a E F).bind λp=>match p.1 with
 | .nx E1=>b E1 p.2
 | o=>some (o,p.2)
theorem R8:Sss K X [] b07 mNx:=⟨a2S,λG B0 H0 E F σ H D r F' S e q=>by cases e;exact q σ H S⟩
theorem c8 (h1:Ss K X st t mt)(h2:Sss K X rest u mu):Sss K X (st::rest) (b0Y t u) (mSq mt mu):=⟨A5 h1.ps h2.ps,λG B0 H0 E F σ H D r F' S e q=>by
 obtain⟨⟨o,F1⟩,e1,e⟩:=Option.bind_eq_some_iff.mp e
 refine h1.ok G B0 H0 E F σ H _ o F1 S e1 ?_
 cases o with
 | nx E1=>exact λσ' H' S'=>h2.ok G B0 H0 E1 F1 σ' H' D r F' S' e q
 | rt d=>cases e;exact q
 | bk E1=>cases e;exact q
 | ct E1=>cases e;exact q⟩
theorem l0 (h1:Ss K X st t mt):Sss K X [st] t mt:=⟨X1 h1.ps,h1.ok⟩
noncomputable def mRt (a:DE->M PyData):DE->M Out:=λE F=>(a E F).bind λp=>some (.rt p.1,p.2)
theorem y0 (h:Ev K X e te m):Ss K X (.Return (some e) pos) (b1w te) (mRt m):=⟨a09 h.pe,λG B0 H0 E F σ H D r F' S e q=>by
 obtain⟨⟨d,F1⟩,e1,e⟩:=Option.bind_eq_some_iff.mp e
 cases e
 obtain⟨B,s,sn,I⟩:=S.ex
 exact h.ok G B E F σ H _ d F1 I e1 λv H1 k1 f1 h1=>q v H1 (S.kp.trans k1) f1 (h1.same (N8 s))⟩
theorem a5x (i:Nat){x:Str}(hN:X.N[i]? = some x:=by rfl)(hv:Vis X.env.scope x:=by first | exact Or.inl rfl | exact Or.inr (Or.inl rfl) | exact Or.inr (Or.inr rfl))(hd:(x == ("__debug__":Str))=false:=by decide)
  (hcd:(x == ("__classdict__":Str))=false:=by decide):Ss K X (.Return (some (.Name x p)) pos) (b1w (a0N i)) (mRt (sW i)):=⟨a09 (V8 hN hv hd hcd),λG B0 H0 E F σ H D r F' S e q=>by
 obtain⟨⟨d,F1⟩,e1,e⟩:=Option.bind_eq_some_iff.mp e
 cases e
 obtain⟨B,s,sn,I⟩:=S.ex
 unfold sW at e1
 split at e1
 ·rename_i x hx
  cases e1
  obtain⟨v,h1,h2⟩:=I.loc i _ hx
  exact⟨v,h1,q v H S.kp I.fd (b7.same h2 (N8 s))⟩
 ·rename_i x hx
  cases e1
  obtain⟨v,h1,p,xs,rfl,hB,hf,hp,hd⟩:=I.loc i _ hx
  obtain⟨n1,n2⟩:=S.own i x p hx h1
  exact⟨_,h1,q _ H S.kp I.fd (b7.lst (by rw[j8 n2];exact hp) (hd.same (N8 s)))⟩
 ·cases e1⟩
noncomputable def q4 (i:Nat)(a:DE->M PyData):DE->M Out:=λE F=>(a E F).bind λp=>(bN i p.1 E).bind λE1=>some (.nx E1,p.2)
theorem Sit.bind {G:GF}{B0 B:List Addr}{H0:Hp}{E E':DE}{F F':FS}{σ σ':St}{H:Hp}(S:Sit K G B0 H0 E F σ H)(s:∀b∈B0,b∈B)(sn:∀b∈B,b∈B0∨H0 b=none)(I:SitE K G B E' F' σ' H)(fr:∀i:Nat,(∀y,E'[i]? ≠ some (some (.dat y)))->E'[i]? = E[i]? ∧ σ'[i]? = σ[i]?):Sit K G B0 H0 E' F' σ' H:=by
 refine⟨⟨B,s,sn,I⟩,S.fB,S.kp,λi ds a ei si=>?_,λi j ds es a ei ej si sj=>?_⟩
 ·obtain⟨a1,a2⟩:=fr i λy z=>by rw[ei]at z;cases z
  exact S.own i ds a (a1▸ei) (a2▸si)
 ·obtain⟨a1,a2⟩:=fr i λy z=>by rw[ei]at z;cases z
  obtain⟨b1,b2⟩:=fr j λy z=>by rw[ej]at z;cases z
  exact S.inj i j ds es a (a1▸ei) (b1▸ej) (a2▸si) (b2▸sj)
theorem a6W {g:TG}{bd:PyData->DE->Option DE}(he:TEd K te m)(hg:TGd K g bd):TSd K (a0Q te g) (λE F=>(m E F).bind λp=>(bd p.1 E).bind λE1=>some (.nx E1,p.2)):=λG B0 H0 E F σ H D r F' S e q=>by
 obtain⟨⟨d,F1⟩,e1,e⟩:=Option.bind_eq_some_iff.mp e
 obtain⟨E1,e2,e⟩:=Option.bind_eq_some_iff.mp e
 cases e
 obtain⟨B,s,sn,I⟩:=S.ex
 refine he G B E F σ H _ d F1 I e1 λv H1 k1 f1 h1=>?_
 have S1:=S.step k1 f1
 exact hg G B E F1 σ H1 v d E1 _ (I.step k1 f1) h1 e2 λσ' I' fr=>q σ' H1 (S1.bind s sn I' fr)
theorem a4j (i:Nat):TGd K (P3 i) (bN i):=λG B E F σ H x d E' Q I h e q=>by
 unfold bN at e
 split at e
 ·rename_i hl
  cases e
  refine q _ (I.set h hl) λj hj=>?_
  by_cases hij:i=j
  ·subst hij
   exact absurd (List.getElem?_set_self hl) (hj d)
  ·rw[List.getElem?_set_ne hij,List.getElem?_set_ne hij]
   exact⟨rfl,rfl⟩
 ·cases e
theorem p0 (i:Nat){x:Str}(hN:X.N.Nodup)(he:Ev K X e te m)(hi:X.N[i]? = some x:=by rfl)(hx:Loc X.env.scope x:=by first | exact Or.inl rfl | exact Or.inr rfl)(hs:swapsWith e (some (.Name x pos')) pos.line X.env=pure false:=by rfl)(hf:X.fn x=true∨X.env.scope.names.lookup x=some .local:=by first | exact .inl rfl | exact .inr rfl | assumption) :
  Ss K X (.Assign [.Name x pos'] e pos) (a0Q te (P3 i)) (q4 i m):=⟨W2 hN hi hx he.pe hs hf,a6W he.ok (a4j i)⟩
noncomputable def M1 (bd:PyData->DE->Option DE)(a:DE->M PyData):DE->M Out:=λE F=>(a E F).bind λp=>(bd p.1 E).bind λE1=>some (.nx E1,p.2)
theorem N7 {g:TG}{bd:PyData->DE->Option DE}(he:Ev K X e te m)(hg:Eg K X tg g bd)(hs:swapsWithSole [tg] e pos.line X.env=pure false:=by rfl)(hw:swappedStores [tg] e X.env=pure none:=by rfl)
  (h1:(assignEach [tg] X.env).map (·.2)=[assign tg X.env]:=by rfl):Ss K X (.Assign [tg] e pos) (a0Q te g) (M1 bd m):=⟨a0g he.pe hg.pg hs hw h1,a6W he.ok hg.ok⟩
theorem a1Q (i:Nat){y:Str}{py:Pos}{elt:Expr}{ifs:List Expr}{scope osc:Scope}{N:List Str}{k:Nat}{cap:List Nat}{wi:TI}{g:TG}{tt:TT}{mi:DE->M (List PyData)}{bd:PyData->DE->Option DE}{mt:DE->M Bool}{me:DE->M PyData}
  (hN:X.N.Nodup) (hc:X.calm=true) (hosc:X.env.scope=osc) (hcap:Caps X.N osc N k cap scope) (hi:Eib K X tg iter wi mi)
  (hg:∀cl C ex pins s H,Eg K (cxC X N scope cl C ex pins s H) tg g bd)
  (ht:∀cl C ex pins s H,Ets K (cxC X N scope cl C ex pins s H) ifs tt mt)
  (he:∀cl C ex pins s H,Ev K (cxC X N scope cl C ex pins s H) elt te me)
  (hix:X.N[i]? = some y:=by rfl) (hLy:Loc X.env.scope y:=by first | exact Or.inl rfl | exact Or.inr rfl)
  (hs:∀x,foldedSetIterable iter X.env x=pure x:=by intro _;rfl) (hfy:X.fn y=true∨X.env.scope.names.lookup y=some .local:=by first | exact .inl rfl | exact .inr rfl | assumption)
  (hsw:swapsWith (.ListComp elt [⟨tg,iter,ifs,0⟩] scope p) (some (.Name y py)) pos.line X.env=pure true:=by rfl) :
  Ss K X (.Assign [.Name y py] (.ListComp elt [⟨tg,iter,ifs,0⟩] scope p) pos) (a0Q (tLC wi k cap g tt te) (P3 i)) (q4 i (sLC mi k cap bd mt me)) :=
 ⟨a72 hN hix hLy hc hosc hcap hi.pi (λcl C ex pins s H=>(hg cl C ex pins s H).pg) (λcl C ex pins s H=>(ht cl C ex pins s H).pts) (λcl C ex pins s H=>(he cl C ex pins s H).pe) hs hfy hsw,
  a6W (b2c hi.ok (hg [] 0 [] [] X.s₀ X.H₀).ok (ht [] 0 [] [] X.s₀ X.H₀).ok (he [] 0 [] [] X.s₀ X.H₀).ok) (a4j i)⟩
noncomputable def mIf (c:DE->M Bool)(a b:DE->M Out):DE->M Out:=λE F=>(c E F).bind λp=>if p.1=true then a E p.2 else b E p.2
theorem W7 {x y:List Stmt}{tt:TT}{mc:DE->M Bool}(hc:Et K X c tt mc)(ha:Sss K X x t mt)(hb:Sss K X y u mu):Ss K X (.If c x y pos) (b27 tt t u) (mIf mc mt mu):=⟨a8l hc.pt ha.ps hb.ps,λG B0 H0 E F σ H D r F' S e q=>by
 obtain⟨⟨d,F1⟩,e1,e⟩:=Option.bind_eq_some_iff.mp e
 obtain⟨B,s,sn,I⟩:=S.ex
 refine hc.ok G B E F σ H _ d F1 I e1 λH1 k1 f1=>?_
 cases d with
 | true=>exact ha.ok G B0 H0 E F1 σ H1 D r F' (S.step k1 f1) e q
 | false=>exact hb.ok G B0 H0 E F1 σ H1 D r F' (S.step k1 f1) e q⟩
end
end L3
namespace L3
open PySem PySem.Spec PyProof.Rows L2
section
variable [Feeds]{K:PySem.W.Frag}{X:Cx}{a b c e tg iter:Expr}{es:List Expr}{st:Stmt}{sts rest:List Stmt}{ta tb te:TE}{ma mb m:DE->M PyData}{t u:TS}{mt mu:DE->M Out}{pos pos' p p2:Pos}
noncomputable def Z9 (H:Hp)(B B0:List Addr):Hp:=hid H (B.filter λb=>decide (b ∉ B0))
theorem a2q {H:Hp}{B B0:List Addr}{b:Addr}(h1:b∈B)(h2:b ∉ B0):Z9 H B B0 b=none:=A4 (List.mem_filter.mpr ⟨h1,by simpa using h2⟩)
theorem a0m {H:Hp}{B B0:List Addr}{b:Addr}(h:b ∉ B∨b∈B0):Z9 H B B0 b=H b:=j8 λz=>by
 obtain⟨z1,z2⟩:=List.mem_filter.mp z
 rcases h with h | h
 ·exact h z1
 ·simp at z2;exact z2 h
section
variable {G:GF}{B0 B:List Addr}{H0:Hp}{E E2:DE}{F F2:FS}{σ σ2:St}{H H2:Hp}
theorem Sit.base (S:Sit K G B0 H0 E F σ H)(s:∀b∈B0,b∈B)(sn:∀b∈B,b∈B0∨H0 b=none)(I:SitE K G B E F σ H):Sit K G B0 (Z9 H B B0) E F σ H:=by
 refine⟨⟨B,s,λb hb=>?_,I⟩,S.fB,Kp.same d4,λi ds a ei si=>?_,S.inj⟩
 ·by_cases h:b∈B0
  ·exact .inl h
  ·exact .inr (a2q hb h)
 ·obtain⟨v,v1,a',xs,rfl,hB,_⟩:=I.loc i _ ei
  rw[v1]at si;cases si
  exact⟨a2q hB (S.own i ds _ ei v1).2,(S.own i ds _ ei v1).2⟩
theorem a8p (S:Sit K G B0 H0 E F σ H)(sn:∀b∈B,b∈B0∨H0 b=none)(k:Kp (k9 K G) (Z9 H B B0) H2):Kp (k9 K G) H0 H2:=λb o e n=>by
 refine k b o ?_ n
 rw[a0m]
 ·exact S.kp b o e n
 ·by_cases hb:b∈B
  ·rcases sn b hb with h | h
   ·exact .inr h
   ·rw[h]at e;cases e
  ·exact .inl hb
theorem Sit.unbase (S:Sit K G B0 H0 E F σ H)(sn:∀b∈B,b∈B0∨H0 b=none)(S2:Sit K G B0 (Z9 H B B0) E2 F2 σ2 H2):Sit K G B0 H0 E2 F2 σ2 H2:=by
 have no:∀b,Z9 H B B0 b=none->b∈B0∨H0 b=none:=λb e=>by
  by_cases hb:b∈B
  ·exact sn b hb
  ·rw[a0m (.inl hb)]at e
   by_cases hf:b∈k9 K G
   ·exact .inl (S.fB b hf)
   ·cases q:H0 b with
    | none=>exact .inr rfl
    | some o=>rw[S.kp b o q hf]at e;cases e
 obtain⟨B2,s2,sn2,I2⟩:=S2.ex
 refine⟨⟨B2,s2,λb hb=>?_,I2⟩,S.fB,a8p S sn S2.kp,λi ds a ei si=>?_,S2.inj⟩
 ·rcases sn2 b hb with h | h
  ·exact .inl h
  ·exact no b h
 ·obtain⟨h1,h2⟩:=S2.own i ds a ei si
  exact⟨(no a h1).resolve_left h2,h2⟩
end
noncomputable def U0 (bd:PyData->DE->Option DE)(body:DE->M Out):List PyData->DE->M Out
 | [],E,F=>some (.nx E,F)
 | d::r,E,F=>(bd d E).bind λE1=>(body E1 F).bind λp=>match p.1 with
  | .nx E2=>U0 bd body r E2 p.2
  | .ct E2=>U0 bd body r E2 p.2
  | .bk E2=>some (.nx E2,p.2)
  | .rt d=>some (.rt d,p.2)
noncomputable def O0 (mi:DE->M (List PyData))(bd:PyData->DE->Option DE)(body:DE->M Out):DE->M Out:=λE F=>(mi E F).bind λp=>U0 bd body p.1 E p.2
theorem b2h {wi:TI}{g:TG}{tb:TS}{mi:DE->M (List PyData)}{bd:PyData->DE->Option DE}{mb:DE->M Out}(hi:TId K wi mi)(hg:TGd K g bd)(hb:TSd K tb mb):TSd K (b1E wi g tb) (O0 mi bd mb):=λG B0 H0 E F σ H D r F' S e q=>by
 obtain⟨⟨items,F1⟩,e1,e⟩:=Option.bind_eq_some_iff.mp e
 obtain⟨B,s,sn,I⟩:=S.ex
 refine hi G B E F σ H _ items F1 I e1 λJ H1 k1 f1 ok=>?_
 have S1:=S.step k1 f1
 have I1:=I.step k1 f1
 have S1':=S1.base s sn I1
 have qn:∀{E2:DE} {F2:FS},r = .nx E2->F'=F2->∀σ2 H2,Sit K G B0 (Z9 H1 B B0) E2 F2 σ2 H2->D.nx σ2 H2:=λ{E2 F2} er ef σ2 H2 S2=>by
  subst er ef
  exact q σ2 H2 (S1.unbase sn S2)
 have stab:∀{E2:DE} {F2:FS} {σ2:St} {H2:Hp} {B2:List Addr},Sit K G B0 (Z9 H1 B B0) E2 F2 σ2 H2->(∀b∈B2,b∈B0∨Z9 H1 B B0 b=none)->i4 (hid H1 B) (hid H2 B2):=λ{E2 F2 σ2 H2 B2} S2 sn2 b o eb=>by
  by_cases hB:b∈B
  ·rw[A4 hB]at eb;cases eb
  ·rw[j8 hB]at eb
   have ec:Z9 H1 B B0 b=some o:=by rw[a0m (.inl hB)];exact eb
   rw[j8 λz=>(sn2 b z).elim (λh=>hB (s b h)) λh=>by rw[h]at ec;cases ec]
   exact S2.kp b o ec λz=>hB (s b (S.fB b z))
 refine⟨λi m σ H=>m=items.length-i∧i≤items.length∧∃E F,Sit K G B0 (Z9 H1 B B0) E F σ H∧U0 bd mb (items.drop i) E F=some (r,F'),⟨items.length,by simp,Nat.zero_le _,E,F1,S1',e⟩,?_⟩
 rintro i mm σ2 H2 ⟨rfl,hi2,E2,F2,S2,e2⟩
 obtain⟨B2,s2,sn2,I2⟩:=S2.ex
 have st2:=stab S2 sn2
 by_cases hlt:i<items.length
 ·refine .inr ⟨((ok H2 B2 st2).1 i items[i] (by simp[hlt])).1,λσ' H'=>i+1≤items.length∧∃E F,Sit K G B0 (Z9 H1 B B0) E F σ' H'∧U0 bd mb (items.drop (i+1)) E F=some (r,F'),λσ' H' ⟨h1,h2⟩=>⟨items.length-(i+1),by omega,rfl,h1,h2⟩,λx H3 y=>?_⟩
  obtain⟨s3,hx⟩:=((ok H2 B2 st2).1 i items[i] (by simp[hlt])).2 x H3 y
  have hx:=hx I2.bk
  rw[List.drop_eq_getElem_cons hlt,U0]at e2
  obtain⟨E4,e4,e2⟩:=Option.bind_eq_some_iff.mp e2
  obtain⟨⟨o,F5⟩,e5,e2⟩:=Option.bind_eq_some_iff.mp e2
  have S3:=S2.step (Kp.same s3) (I2.fd.same s3)
  have I3:SitE K G B2 E2 F2 σ2 H3:=I2.step (Kp.same s3) (I2.fd.same s3)
  refine hg G B2 E2 F2 σ2 H3 x items[i] E4 _ I3 hx e4 λσ4 I4 fr=>?_
  refine hb G B0 (Z9 H1 B B0) E4 F2 σ4 H3 _ o F5 (S3.bind s2 sn2 I4 fr) e5 ?_
  cases o with
  | nx E6=>exact λσ6 H6 S6=>⟨hlt,E6,F5,S6,e2⟩
  | ct E6=>exact λσ6 H6 S6=>⟨hlt,E6,F5,S6,e2⟩
  | bk E6=>cases e2;exact λσ6 H6 S6=>qn rfl rfl σ6 H6 S6
  | rt d=>cases e2;exact λv H6 k6 f6 h6=>q v H6 (a8p S1 sn k6) f6 h6
 ·have ei:i=items.length:=by omega
  subst ei
  rw[List.drop_length,U0]at e2
  cases e2
  exact .inl ⟨(ok H2 B2 st2).2,qn rfl rfl σ2 H2 S2⟩
theorem O3 {body:List Stmt}{wi:TI}{g:TG}{tb:TS}{mi:DE->M (List PyData)}{bd:PyData->DE->Option DE}{mb:DE->M Out}(hc:X.calm=true)(hi:Ei K X tg iter wi mi)(hg:Eg K X tg g bd)(hb:Sss K X body tb mb)(hp:PassesOwn (model X.prog X.w) X.A X.env X.xe:=by exact PassesOwn.never)
  (hs:∀x,foldedSetIterable iter X.env x=pure x:=by intro _;rfl):Ss K X (.For tg iter body [] pos) (b1E wi g tb) (O0 mi bd mb):=⟨b1f hp hc hi.pi hg.pg hb.ps hs,b2h hi.ok hg.ok hb.ok⟩
noncomputable def TFd (K:PySem.W.Frag)(te:TE)(m:DE->M (List PyData)):Prop:=∀(G:GF) (B:List Addr) (E:DE) (F:FS) (σ:St) (H:Hp) (Q:VK) (ds:List PyData) (F':FS),SitE K G B E F σ H->m E F=some (ds,F') ->
 (∀a vs H',H a=none->H' a=some (.lst vs)->Kp (k9 K G) H H'->FAt K G H' F'->a6 K (hid H' (a::B)) ds vs->Q (.ref a) H')->te σ H Q
structure Ef (K:PySem.W.Frag) (X:Cx) (e:Expr) (te:TE) (m:DE->M (List PyData)):Prop where
 pe:PE X e te
 ok:TFd K te m
theorem Kp.none {fp:List Addr}{H H':Hp}{b:Addr}(k:Kp fp H H')(h:H' b=none)(n:b ∉ fp):H b=none:=by
 cases q:H b with
 | none=>rfl
 | some o=>rw[k b o q n]at h;cases h
theorem a8f {H:Hp}{B:List Addr}{p:Addr}{o:HO}(hp:H p=none):i4 (hid H B) (hid (upd H p o) (p::B)):=λb u e=>by
 by_cases hb:b∈B
 ·rw[A4 hb]at e;cases e
 ·rw[j8 hb]at e
  have hne:=j5 e hp
  rw[j8 (by simp[hne,hb]),d8 hne];exact e
noncomputable def K3 (a:DE->M (List PyData)):DE->M (List PyData):=λE F=>(a E F).bind λp=>if p.1.length≤sizeLine then some (p.1,p.2) else none
theorem L6 {t:TA}{ms:DE->M (List PyData)}(h:Ea K X es t ms):Ef K X (.List es pos) (a8W t) (K3 ms):=⟨a1o h.pa,λG B E F σ H Q d F' I e q=>by
 obtain⟨⟨x,F1⟩,e1,e⟩:=Option.bind_eq_some_iff.mp e
 split at e
 ·rename_i hl
  cases e
  refine h.ok G B E F σ H _ x F1 I e1 λvs H1 k1 f1 h1=>⟨by rw[h1.length];exact hl,λp hp=>?_⟩
  have hnf:p ∉ k9 K G:=λz=>(v0 I.bk k1 f1).nin hp (I.fB p z)
  exact q p vs _ (k1.none hp hnf) g6 (k1.trans (Kp.upd hp)) (f1.same (i4.upd hp)) (h1.same (a8f hp))
 ·cases e⟩
noncomputable def a01 (i:Nat)(a:DE->M (List PyData)):DE->M Out:=λE F=>(a E F).bind λp=>if i<E.length then some (.nx (E.set i (some (.own p.1))),p.2) else none
theorem b1O {i:Nat}{mf:DE->M (List PyData)}(he:TFd K te mf):TSd K (a0Q te (P3 i)) (a01 i mf):=λG B0 H0 E F σ H D r F' S e q=>by
 obtain⟨⟨ds,F1⟩,e1,e⟩:=Option.bind_eq_some_iff.mp e
 split at e
 ·rename_i hl
  cases e
  obtain⟨B,s,sn,I⟩:=S.ex
  refine he G B E F σ H _ ds _ I e1 λa vs H1 hn ha k1 f1 h1=>?_
  have I1:=I.step k1 f1
  have hsl:i < σ.length:=by rw[←I.ln];exact hl
  have haB:a ∉ B:=I.bk.nin hn
  have haf:a ∉ k9 K G:=λz=>haB (I.fB a z)
  have h0:H0 a=none:=S.kp.none hn haf
  have sm:i4 (hid H B) (hid H1 (a::B)):=λb o eb=>by
   by_cases hb:b∈B
   ·rw[A4 hb]at eb;cases eb
   ·rw[j8 hb]at eb
    have hne:=j5 eb hn
    rw[j8 (by simp[hne,hb])]
    exact k1 b o eb λz=>hb (I.fB b z)
  refine q _ H1 ⟨⟨a::B,λb hb=>List.mem_cons_of_mem _ (s b hb),λb hb=>?_,⟨f1,λb hb=>List.mem_cons_of_mem _ (I.fB b hb),λb hb=>?_,by rw[List.length_set,List.length_set];exact I.ln,λj x ej=>?_⟩⟩,S.fB,S.kp.trans k1,λj es a' ej sj=>?_,λj k es es' a' ej ek sj sk=>?_⟩
  ·rcases List.mem_cons.mp hb with rfl | hb
   ·exact .inr h0
   ·exact sn b hb
  ·rcases List.mem_cons.mp hb with rfl | hb
   ·exact⟨_,ha⟩
   ·exact I1.bk b hb
  ·by_cases hj:i=j
   ·subst hj
    rw[List.getElem?_set_self hl]at ej
    cases ej
    exact⟨.ref a,by rw[List.getElem?_set_self hsl],a,vs,rfl,List.mem_cons_self,haf,ha,h1⟩
   ·rw[List.getElem?_set_ne hj]at ej
    obtain⟨v,v1,v2⟩:=I.loc j x ej
    refine⟨v,by rw[List.getElem?_set_ne hj];exact v1,?_⟩
    cases x with
    | dat d=>exact b7.same (show b7 K (hid H B) d v from v2) sm
    | feed=>exact v2
    | own es =>
     obtain⟨a',xs',rfl,hB',hf',ha',hd'⟩:=v2
     exact⟨a',xs',rfl,List.mem_cons_of_mem _ hB',hf',k1 _ _ ha' hf',hd'.same sm⟩
  ·by_cases hj:i=j
   ·subst hj
    rw[List.getElem?_set_self hsl]at sj
    cases sj
    exact⟨h0,λz=>haB (s a z)⟩
   ·rw[List.getElem?_set_ne hj]at ej sj
    exact S.own j es a' ej sj
  ·have other:∀(j:Nat) (es:List PyData),i≠j->E[j]? = some (some (DV.own es))->σ[j]? ≠ some (some (V.ref a)):=λj es _ ej z=>by
    obtain⟨v,v1,a',xs',rfl,hB',_⟩:=I.loc j _ ej
    rw[v1]at z;cases z
    exact haB hB'
   by_cases hj:i=j
   ·by_cases hk:i=k
    ·exact hj.symm.trans hk
    ·subst hj
     rw[List.getElem?_set_self hsl]at sj
     cases sj
     rw[List.getElem?_set_ne hk]at ek sk
     exact absurd sk (other k es' hk ek)
   ·rw[List.getElem?_set_ne hj]at ej sj
    by_cases hk:i=k
    ·subst hk
     rw[List.getElem?_set_self hsl]at sk
     cases sk
     exact absurd sj (other j es hj ej)
    ·rw[List.getElem?_set_ne hk]at ek sk
     exact S.inj j k es es' a' ej ek sj sk
 ·cases e
theorem a1V (i:Nat){x:Str}{mf:DE->M (List PyData)}(hN:X.N.Nodup)(he:Ef K X e te mf)(hi:X.N[i]? = some x:=by rfl)(hx:Loc X.env.scope x:=by first | exact Or.inl rfl | exact Or.inr rfl)(hs:swapsWith e (some (.Name x pos')) pos.line X.env=pure false:=by rfl)(hf:X.fn x=true∨X.env.scope.names.lookup x=some .local:=by first | exact .inl rfl | exact .inr rfl | assumption) :
  Ss K X (.Assign [.Name x pos'] e pos) (a0Q te (P3 i)) (a01 i mf):=⟨W2 hN hi hx he.pe hs hf,b1O he.ok⟩
end
end L3
namespace L3
open PySem PySem.Spec PyProof.Rows L2
section
variable [Feeds]{K:PySem.W.Frag}{X:Cx}{a b c e tg iter:Expr}{es:List Expr}{st:Stmt}{sts rest:List Stmt}{ta tb te:TE}{ma mb m:DE->M PyData}{t u:TS}{mt mu:DE->M Out}{pos pos' p p2:Pos}
section
variable {G:GF}{B0 B:List Addr}{H0:Hp}{E:DE}{F:FS}{σ:St}{H:Hp}
theorem Sit.write {i:Nat}{ds ds':List PyData}{x:Addr}{vs':List V}(S:Sit K G B0 H0 E F σ H)(s:∀b∈B0,b∈B)(sn:∀b∈B,b∈B0∨H0 b=none)(I:SitE K G B E F σ H)(ei:E[i]? = some (some (DV.own ds)))(si:σ[i]? = some (some (V.ref x)))
  (hd:a6 K (hid H B) ds' vs'):Sit K G B0 H0 (E.set i (some (.own ds'))) F σ (upd H x (.lst vs')):=by
 have hl:i<E.length:=(List.getElem?_eq_some_iff.mp ei).1
 obtain⟨v,v1,x',xs,rfl,hB,hf,hx,_⟩:=I.loc i _ ei
 rw[si]at v1;cases v1
 have e1:hid (upd H x (.lst vs')) B=hid H B:=S7 hB
 obtain⟨n1,n2⟩:=S.own i ds x ei si
 refine⟨⟨B,s,sn,⟨I.fd.congr λb hb=>d8 (λz=>hb.elim (λhb=>hf (z▸hb)) λ⟨φ,q⟩=>by rw[z,hx]at q;cases q),I.fB,λb hb=>?_,by rw[List.length_set];exact I.ln,λj y ej=>?_⟩⟩,S.fB,λb o eb nb=>?_,λj es a' ej sj=>?_,λj k es es' a' ej ek sj sk=>?_⟩
 ·by_cases h:b=x
  ·subst h;exact⟨_,g6⟩
  ·rw[d8 h];exact I.bk b hb
 ·by_cases hj:i=j
  ·subst hj
   rw[List.getElem?_set_self hl]at ej
   cases ej
   exact⟨.ref x,si,x,vs',rfl,hB,hf,g6,by rw[e1];exact hd⟩
  ·rw[List.getElem?_set_ne hj]at ej
   obtain⟨w,w1,w2⟩:=I.loc j y ej
   refine⟨w,w1,?_⟩
   cases y with
   | dat d=>show b7 K (hid (upd H x (.lst vs')) B) d w;rw[e1];exact w2
   | feed=>exact w2
   | own es =>
    obtain⟨a',xs',rfl,hB',hf',ha',hd'⟩:=w2
    have hne:a'≠x:=λz=>hj (S.inj i j ds es x ei ej si (z▸w1))
    exact⟨a',xs',rfl,hB',hf',by rw[d8 hne];exact ha',by rw[e1];exact hd'⟩
 ·rw[d8]
  ·exact S.kp b o eb nb
  ·intro z;subst z;rw[n1]at eb;cases eb
 ·by_cases hj:i=j
  ·subst hj
   exact S.own i ds a' ei sj
  ·rw[List.getElem?_set_ne hj]at ej
   exact S.own j es a' ej sj
 ·have back:∀(j:Nat) (es:List PyData),(E.set i (some (.own ds')))[j]? = some (some (DV.own es))->∃es,E[j]? = some (some (DV.own es)):=λj es ej=>by
   by_cases hj:i=j
   ·subst hj;exact⟨ds,ei⟩
   ·rw[List.getElem?_set_ne hj]at ej;exact⟨es,ej⟩
  obtain⟨f1,ej'⟩:=back j es ej
  obtain⟨f2,ek'⟩:=back k es' ek
  exact S.inj j k f1 f2 a' ej' ek' sj sk
end
noncomputable def Q0 (E:DE)(i:Nat):Option (List PyData):=match E[i]? with
 | some (some (.own ds))=>some ds
 | _=>none
theorem O8 {E:DE}{i:Nat}{ds:List PyData}(h:Q0 E i=some ds):E[i]? = some (some (DV.own ds)):=by
 unfold Q0 at h
 split at h
 ·rename_i q;cases h;exact q
 ·cases h
noncomputable def a6J (i:Nat)(v k:DE->M PyData):DE->M Out:=λE F=>(v E F).bind λp=>(k E p.2).bind λq=>(Y9 q.1).bind λn=>(Q0 E i).bind λds=>(ixN ds.length n).bind λj=>some (.nx (E.set i (some (.own (ds.set j p.1)))),q.2)
theorem a6.set {H:Hp}:∀{ds:List PyData} {xs:List V} {d:PyData} {v:V} (j:Nat),a6 K H ds xs->b7 K H d v->a6 K H (ds.set j d) (xs.set j v)
 | [],xs,d,v,j,h,h'=>by simp only[a6]at h;subst h;simp[a6]
 | e::ds,xs,d,v,0,h,h'=>by
  simp only[a6]at h
  obtain⟨y,r,rfl,h1,h2⟩:=h
  simp only[List.set_cons_zero,a6]
  exact⟨v,r,rfl,h',h2⟩
 | e::ds,xs,d,v,j+1,h,h'=>by
  simp only[a6]at h
  obtain⟨y,r,rfl,h1,h2⟩:=h
  simp only[List.set_cons_succ,a6]
  exact⟨y,r.set j v,rfl,h1,a6.set j h2 h'⟩
theorem b0r (i:Nat){x:Str}{px:Pos}(hv:Ev K X e te m)(hk:Ev K X b tb mb)(hN:X.N[i]? = some x:=by rfl)(hvis:Vis X.env.scope x:=by first | exact Or.inl rfl | exact Or.inr (Or.inl rfl) | exact Or.inr (Or.inr rfl))(hd:(x == ("__debug__":Str))=false:=by decide)(hcd:(x == ("__classdict__":Str))=false:=by decide)
  (ha:∀v,assign (.Subscript (.Name x px) b p) X.env v=(do
   let ov ←holding [v] (eval (.Name x px) X.env)
   let iv ←holding [v,ov] (eval b X.env)
   standAt p
   holding [v,ov,iv] (setItem ov iv v)
   release [v,ov,iv] []):=by intro _;rfl)
  (hs:swapsWithSole [.Subscript (.Name x px) b p] e pos.line X.env=pure false:=by rfl) (hw:swappedStores [.Subscript (.Name x px) b p] e X.env=pure none:=by rfl)
  (h1:(assignEach [.Subscript (.Name x px) b p] X.env).map (·.2)=[assign (.Subscript (.Name x px) b p) X.env]:=by rfl) :
  Ss K X (.Assign [.Subscript (.Name x px) b p] e pos) (a0Q te (b1N (a0N i) tb a9M)) (a6J i m mb) :=
 ⟨a0g hv.pe (a36 (V8 hN hvis hd hcd) hk.pe X2 ha) hs hw h1,λG B0 H0 E F σ H D r F' S e q=>by
  obtain⟨⟨d,F1⟩,e1,e⟩:=Option.bind_eq_some_iff.mp e
  obtain⟨⟨n,F2⟩,e2,e⟩:=Option.bind_eq_some_iff.mp e
  obtain⟨k,e3,e⟩:=Option.bind_eq_some_iff.mp e
  obtain⟨ds,e4,e⟩:=Option.bind_eq_some_iff.mp e
  obtain⟨j,e5,e⟩:=Option.bind_eq_some_iff.mp e
  cases e
  obtain⟨B,s,sn,I⟩:=S.ex
  have eo:=O8 e4
  refine hv.ok G B E F σ H _ d F1 I e1 λv H1 k1 f1 h1=>?_
  have I1:=I.step k1 f1
  obtain⟨w,w1,a,xs,rfl,hB,hf,hx,hdx⟩:=I1.loc i _ eo
  refine⟨_,w1,hk.ok G B E F1 σ H1 _ n _ I1 e2 λu H2 k2 f2 h2=>?_⟩
  have:=V2 e3
  simp only at this
  subst this
  simp only[b7]at h2
  subst h2
  have I2:=I1.step k2 f2
  have S2:=S.step (k1.trans k2) f2
  have hd2:=hdx.same (k2.hid I.fB)
  refine⟨a,xs,k,j,rfl,rfl,k2 a _ hx hf,by rw[hd2.length];exact e5,q σ _ (S2.write s sn I2 eo w1 (a6.set j hd2 (h1.same (k2.hid I.fB))))⟩⟩
noncomputable def O6 (i:Nat)(v:DE->M PyData):DE->M Out:=λE F=>(v E F).bind λp=>(Q0 E i).bind λds=>if ds.length<sizeLine then some (.nx (E.set i (some (.own (ds++[p.1])))),p.2) else none
theorem b1J {i:Nat}(hv:TEd K te m):TSd K (a78 (tBM K "list" a2E (a0N i) (C6 te V5))) (O6 i m):=λG B0 H0 E F σ H D r F' S e q=>by
 obtain⟨⟨d,F1⟩,e1,e⟩:=Option.bind_eq_some_iff.mp e
 obtain⟨ds,e4,e⟩:=Option.bind_eq_some_iff.mp e
 split at e
 ·rename_i hl
  cases e
  obtain⟨B,s,sn,I⟩:=S.ex
  have eo:=O8 e4
  obtain⟨w,w1,a,xs,rfl,hB,hf,hx,hdx⟩:=I.loc i _ eo
  refine⟨_,w1,.inl ⟨rfl,xs,SqL.of hx⟩,hv G B E F σ H _ d _ I e1 λu H2 k2 f2 h2=>?_⟩
  have hd2:=hdx.same (k2.hid I.fB)
  exact⟨a,xs,u,rfl,rfl,k2 a _ hx hf,by rw[hdx.length];exact hl,q σ _ ((S.step k2 f2).write s sn (I.step k2 f2) eo w1 (hd2.snoc h2))⟩
 ·cases e
noncomputable def a3S (K:PySem.W.Frag)(G:GF)(B:List Addr)(H:Hp):List DV->List V->Prop
 | [],vs=>vs=[]
 | x::xs,vs=>∃v r,vs=v::r∧(∀ds,x ≠ .own ds)∧DVr K G B H x v∧a3S K G B H xs r
noncomputable def spD (K:PySem.W.Frag)(n:Nat)(f:List DV->M PyData):Sp:=λvs H Q _=>∃G B F args d F',vs.length=n∧(∀b∈k9 K G,b∈B)∧BOk H B∧FAt K G H F∧a3S K G B H args vs∧f args F=some (d,F') ∧
 ∀v H',Kp (k9 K G) H H'->FAt K G H' F'->b7 K (hid H' B) d v->Q v H'
noncomputable def v6 (N:List Str)(args:List DV):DE:=args.map some++List.replicate (N.length-args.length) none
noncomputable def B9 (N:List Str)(m:DE->M Out):List DV->M PyData:=λargs F=>(m (v6 N args) F).bind λp=>match p.1 with
 | .rt d=>some (d,p.2)
 | .nx _=>some (.none,p.2)
 | _=>none
theorem a3S.length {G:GF}{B:List Addr}{H:Hp}:∀{args:List DV} {vs:List V},a3S K G B H args vs->vs.length=args.length
 | [],vs,h=>by cases h;rfl
 | x::xs,vs,⟨v,r,e,_,_,h⟩=>by subst e;rw[List.length_cons,List.length_cons,h.length]
theorem a3S.get {G:GF}{B:List Addr}{H:Hp}:∀{args:List DV} {vs:List V} {i:Nat} {x:DV},a3S K G B H args vs->args[i]? = some x->∃v,vs[i]? = some v∧(∀ds,x ≠ .own ds)∧DVr K G B H x v
 | [],vs,i,x,h,e=>by simp at e
 | y::xs,vs,i,x,⟨v,r,e1,h1,h2,h3⟩,e=>by
  subst e1
  cases i with
  | zero=>simp at e;subst e;exact⟨v,rfl,h1,h2⟩
  | succ i=>simpa using h3.get (i:=i) (by simpa using e)
theorem a2i {N:List Str}{args:List DV}{i:Nat}{x:DV}(h:(v6 N args)[i]? = some (some x)):args[i]? = some x:=by
 unfold v6 at h
 by_cases hi:i<args.length
 ·rw[List.getElem?_append_left (by simpa using hi),List.getElem?_map]at h
  obtain⟨y,e1,e2⟩:=Option.map_eq_some_iff.mp h
  cases e2;exact e1
 ·rw[List.getElem?_append_right (by simpa using hi),List.getElem?_replicate]at h
  split at h <;> simp at h
theorem a2s {G:GF}{B:List Addr}{F:FS}{H:Hp}{N:List Str}{args:List DV}{vs:List V}(fB:∀b∈k9 K G,b∈B)(bk:BOk H B)(f:FAt K G H F)(h:a3S K G B H args vs):Sit K G B H (v6 N args) F (L2.K0 N vs) H:=by
 have noown:∀(i:Nat) (ds:List PyData),(v6 N args)[i]? ≠ some (some (DV.own ds)):=λi ds e=>by
  obtain⟨v,_,n,_⟩:=h.get (a2i e)
  exact n ds rfl
 refine⟨⟨B,λ_ z=>z,λb hb=>.inl hb,⟨f,fB,bk,by simp[v6,L2.K0,h.length],λi x e=>?_⟩⟩,fB,Kp.refl,λi ds a e _=>absurd e (noown i ds),λi j ds es a e _ _ _=>absurd e (noown i ds)⟩
 obtain⟨v,v1,_,v2⟩:=h.get (a2i e)
 refine⟨v,?_,v2⟩
 have hi:i<vs.length:=(List.getElem?_eq_some_iff.mp v1).1
 unfold L2.K0
 rw[List.getElem?_append_left (by simpa using hi),List.getElem?_map,v1]
 rfl
variable {P:Program}{w:World}{mg:Str->Option Value}{base:Heap}
theorem D3 {x qual:Str}{f:Addr}{fd:FuncData}{N ps:List Str}{k:Nat}{m:DE->M Out}(Fn:Fun K x qual st f fd)(S:FnScope N ps (defScope st))
  (hbody:∀(cdv:Value) (A:Around) (outer:List Env) (s:Shared) (H:Hp) (E:XK),Room k (A.deeper (envOfC qual (defScope st) s.heap.objs.size f cdv)) ->
   ∃ts,Sss K (J3 CX0 P w K mg base N qual (defScope st) f cdv A outer s H E).nox (defBody st) ts m):FnOk P w K mg base CX0 (k+1) f fd ps (spD K ps.length (B9 N m)):=by
 refine Fn.ok S (λvs H Q E h=>?_) (λcdv A outer s H vs Q E hr h=>?_)
 ·obtain⟨G,B,F,args,d,F',hl,_⟩:=h
  exact hl
 ·obtain⟨G,B,F,args,d,F',hl,fB,bk,fa,ha,hm,q⟩:=h
  obtain⟨ts,hts⟩:=hbody cdv A outer s H E hr
  refine⟨ts,hts.ps,?_⟩
  obtain⟨⟨o,F1⟩,e1,e⟩:=Option.bind_eq_some_iff.mp hm
  refine hts.ok G B H (v6 N args) F (L2.K0 N vs) H _ o F1 (a2s fB bk fa ha) e1 ?_
  cases o with
  | rt d'=>cases e;exact λv H' k1 f1 h1=>q v H' k1 f1 h1
  | nx E'=>cases e;exact λσ' H' S'=>q _ H' S'.kp (by obtain⟨B,_,_,I⟩:=S'.ex;exact I.fd) b7.non
  | bk E'=>cases e
  | ct E'=>cases e
noncomputable def TVd (K:PySem.W.Frag)(ta:TA)(m:DE->M (List DV)):Prop:=∀(G:GF) (B:List Addr) (E:DE) (F:FS) (σ:St) (H:Hp) (Q:List V->Hp->Prop) (ds:List DV) (F':FS),SitE K G B E F σ H->m E F=some (ds,F') ->
 (∀vs H',Kp (k9 K G) H H'->FAt K G H' F'->a3S K G B H' ds vs->Q vs H')->ta σ H Q
structure Evs (K:PySem.W.Frag) (X:Cx) (es:List Expr) (ta:TA) (m:DE->M (List DV)):Prop where
 pa:PA X es ta
 ok:TVd K ta m
noncomputable def r9:DE->M (List DV):=λ_ F=>some ([],F)
noncomputable def vD (a:DE->M PyData)(r:DE->M (List DV)):DE->M (List DV):=λE F=>(a E F).bind λp=>(r E p.2).bind λq=>some (.dat p.1::q.1,q.2)
noncomputable def vF (i:Nat)(r:DE->M (List DV)):DE->M (List DV):=λE F=>match E[i]? with
 | some (some .feed)=>(r E F).bind λq=>some (.feed::q.1,q.2)
 | _=>none
theorem n4:Evs K X [] V5 r9:=⟨A1,λG B E F σ H Q ds F' I e q=>by cases e;exact q [] H Kp.refl I.fd rfl⟩
theorem p7 {tl:TA}{ms:DE->M (List DV)}(ha:Ev K X e te m)(hr:Evs K X es tl ms)(hs:starEach (e::es) X.env=(false,eval e X.env)::starEach es X.env:=by rfl):Evs K X (e::es) (C6 te tl) (vD m ms) :=
 ⟨m8 ha.pe hr.pa hs,λG B E F σ H Q ds F' I e q=>by
  obtain⟨⟨x,F1⟩,e1,e⟩:=Option.bind_eq_some_iff.mp e
  obtain⟨⟨ys,F2⟩,e2,e⟩:=Option.bind_eq_some_iff.mp e
  cases e
  refine ha.ok G B E F σ H _ x F1 I e1 λv H1 k1 f1 h1=>?_
  refine hr.ok G B E F1 σ H1 _ ys _ (I.step k1 f1) e2 λvs H2 k2 f2 h2=>q _ H2 (k1.trans k2) f2 ⟨v,vs,rfl,(λ_ z=>by cases z),h1.same (k2.hid I.fB),h2⟩⟩
theorem a3k (i:Nat){x:Str}{tl:TA}{ms:DE->M (List DV)}(hr:Evs K X es tl ms)(hN:X.N[i]? = some x:=by rfl)(hv:Vis X.env.scope x:=by first | exact Or.inl rfl | exact Or.inr (Or.inl rfl) | exact Or.inr (Or.inr rfl))(hd:(x == ("__debug__":Str))=false:=by decide)
  (hcd:(x == ("__classdict__":Str))=false:=by decide) (hs:starEach (.Name x p::es) X.env=(false,eval (.Name x p) X.env)::starEach es X.env:=by rfl):Evs K X (.Name x p::es) (C6 (a0N i) tl) (vF i ms) :=
 ⟨m8 (V8 hN hv hd hcd) hr.pa hs,λG B E F σ H Q ds F' I e q=>by
  unfold vF at e
  split at e
  ·rename_i hx
   obtain⟨⟨ys,F2⟩,e2,e⟩:=Option.bind_eq_some_iff.mp e
   cases e
   obtain⟨v,v1,v2⟩:=I.loc i _ hx
   refine⟨v,v1,hr.ok G B E F σ H _ ys _ I e2 λvs H2 k2 f2 h2=>q _ H2 k2 f2 ⟨v,vs,rfl,(λ_ z=>by cases z),v2.step k2 I.fB,h2⟩⟩
  ·cases e⟩
noncomputable def k4 (f:List DV->M PyData)(ms:DE->M (List DV)):DE->M PyData:=λE F=>(ms E F).bind λp=>f p.1 p.2
theorem b0D {n:Nat}{f:List DV->M PyData}{ta:TA}{ms:DE->M (List DV)}(h:TVd K ta ms)(hn:∀E F args F',ms E F=some (args,F')->args.length=n):TEd K (a3W (spD K n f) [] E0 ta) (k4 f ms):=λG B E F σ H Q d F' I e q=>by
 obtain⟨⟨args,F1⟩,e1,e⟩:=Option.bind_eq_some_iff.mp e
 refine h G B E F σ H _ args F1 I e1 λvs H1 k1 f1 h1=>?_
 rw[List.append_nil]
 exact⟨G,B,F1,args,d,F',by rw[h1.length];exact hn _ _ _ _ e1,I.fB,v0 I.bk k1 f1,f1,h1,e,λv H2 k2 f2 h2=>q v H2 (k1.trans k2) f2 h2⟩
theorem n5:∀E F args F',r9 E F=some (args,F')->args.length=0:=λE F args F' e=>by cases e;rfl
theorem p6 {n:Nat}{ms:DE->M (List DV)}(h:∀E F args F',ms E F=some (args,F')->args.length=n):∀E F args F',vD m ms E F=some (args,F')->args.length=n+1:=λE F args F' e=>by
 obtain⟨⟨x,F1⟩,e1,e⟩:=Option.bind_eq_some_iff.mp e
 obtain⟨⟨ys,F2⟩,e2,e⟩:=Option.bind_eq_some_iff.mp e
 cases e
 rw[List.length_cons,h _ _ _ _ e2]
theorem a3O {n i:Nat}{ms:DE->M (List DV)}(h:∀E F args F',ms E F=some (args,F')->args.length=n):∀E F args F',vF i ms E F=some (args,F')->args.length=n+1:=λE F args F' e=>by
 unfold vF at e
 split at e
 ·obtain⟨⟨ys,F2⟩,e2,e⟩:=Option.bind_eq_some_iff.mp e
  cases e
  rw[List.length_cons,h _ _ _ _ e2]
 ·cases e
theorem l3 {x:Str}{k n:Nat}{ps:List Str}{f:List DV->M PyData}{tl:TA}{ms:DE->M (List DV)}(C:Callee X.prog X.w X.K X.mg X.base x k ps (spD K n f))(hr:Room k X.A)(ha:Evs K X (e::es) tl ms)(hn:∀E F args F',ms E F=some (args,F')->args.length=n)(hg:Gl X x:=by rfl)
  (hdb:(x == ("__debug__":Str))=false:=by decide) (he:starEach (e::es) X.env=(false,eval e X.env)::starEach es X.env:=by rfl) (hpl:(backTo pos (starEach es X.env)).any (·.1)=false:=by rfl) :
  Ev K X (.Call (.Name x p) (e::es) [] pos) (a3W (spD K n f) [] E0 tl) (k4 f ms):=⟨a2c C hr hg ha.pa hdb he hpl,b0D ha.ok hn⟩
end
end L3
namespace L3
open PySem PySem.Spec PyProof.Rows L2
section
variable {H:Hp}{d c:Addr}{a l t:Int}
end
structure FdS where
 ns:List Int
 a:Int
 l:Int
 t:Int
class Fam where
 At:Addr->Addr->Hp->FdS->Prop
 some1:∀{d c H F},At d c H F->∃o,H d=some o∧NoT o
 some2:∀{d c H F},At d c H F->∃o,H c=some o∧NoT o
 congr:∀{d c H H' F},At d c H F->H' d=H d->H' c=H c->At d c H' F
 lam:List Str
 drawF:Int->FdS->Option (Int×FdS)
 draw_some:∀{m:Int} {F:FdS},0<m->m<1073741824->F.t<199999->∃r F',drawF m F=some (r,F')∧0≤r∧r<m∧F'.t=F.t+1
noncomputable instance fdI [Fam]:Feeds where
 S:=FdS
 At:=Fam.At
 some1:=Fam.some1
 some2:=Fam.some2
 congr:=Fam.congr
 lam:=Fam.lam
noncomputable def FdS.cell (F:FdS):Int:=if F.ns=[] then 11 else(F.ns[(F.a % (F.ns.length:Int)).toNat]?).getD 0
noncomputable def drawS [Fam]:List DV->M PyData
 | [.feed,.dat (.int m)]=>λF=>(Fam.drawF m F).bind λp=>some (.int p.1,p.2)
 | _=>λ_=>none
theorem a4e {x m:Int}(h:0<m):0≤x % m∧x % m<m:=⟨Int.emod_nonneg _ (by omega),Int.emod_lt_of_pos _ h⟩
theorem a8V {F:FdS}(h0:¬F.ns=[]):atI (F.ns.map V.int) (F.a % ((F.ns.map V.int).length:Int))=some (.int F.cell):=by
 have hp:0<F.ns.length:=List.length_pos_iff.mpr h0
 rw[List.length_map]
 obtain⟨q1,q2⟩:=a4e (x:=F.a) (m:=(F.ns.length:Int)) (by omega)
 obtain⟨j,hj⟩:∃j:Nat,F.a % (F.ns.length:Int)=j:=⟨(F.a % (F.ns.length:Int)).toNat,by omega⟩
 have hjl:j<F.ns.length:=by omega
 unfold FdS.cell
 rw[if_neg h0,hj]
 refine Y1 ?_
 rw[List.getElem?_map]
 simp[hjl]
noncomputable def FdS.cellL (F:FdS):Int:=if F.ns=[] then 0 else(F.ns[(F.a % (F.ns.length:Int)).toNat]?).getD 0
theorem a88 {F:FdS}(h0:¬F.ns=[]):atI (F.ns.map V.int) (F.a % ((F.ns.map V.int).length:Int))=some (.int F.cellL):=by
 have e:F.cellL=F.cell:=by unfold FdS.cellL FdS.cell;rw[if_neg h0,if_neg h0]
 rw[e]
 exact a8V h0
noncomputable def a4y (ns:List Int):FdS:=⟨ns,0,0,0⟩
end L3
namespace L3
open PySem PySem.Spec PyProof.Rows L2
mutual
noncomputable def U9:Expr->Option PyData
 | .Constant (.int i) _ _=>some (.int i)
 | .Constant (.bool b) _ _=>some (.bool b)
 | .Constant .none _ _=>some .none
 | .Constant (.str x) _ _=>some (.str x)
 | .UnaryOp .USub (.Constant (.int i) _ _) _=>some (.int (-i))
 | .BinOp (.Constant (.int i) _ _) .Pow (.Constant (.int j) _ _) _=>if a97 i j then some (.int (i ^ j.toNat)) else none
 | .Tuple es _ _=>(T3 es).bind λds=>if ds.length≤10000 then some (.tuple ds) else none
 | .List es _=>(T3 es).bind λds=>if ds.length≤10000 then some (.list ds) else none
 | _=>none
noncomputable def T3:List Expr->Option (List PyData)
 | []=>some []
 | e::es=>(U9 e).bind λd=>(T3 es).bind λds=>some (d::ds)
end
mutual
noncomputable def G7:Expr->TE
 | .Constant (.int i) _ _=>tC (.int i)
 | .Constant (.bool b) _ _=>tC (.bl b)
 | .Constant .none _ _=>tC .non
 | .Constant (.str x) _ _=>tC (.str x)
 | .UnaryOp .USub (.Constant (.int i) _ _) _=>tUn (rU λi=>.int (-i)) (tC (.int i))
 | .BinOp (.Constant (.int i) _ _) .Pow (.Constant (.int j) _ _) _=>tOp (rI a97 λi j=>.int (i ^ j.toNat)) (tC (.int i)) (tC (.int j))
 | .Tuple es _ _=>a91 (T0 es)
 | .List es _=>a8W (T0 es)
 | _=>λ_ _ _=>False
noncomputable def T0:List Expr->TA
 | []=>V5
 | e::es=>C6 (G7 e) (T0 es)
end
theorem a4A {e:Expr}{es:List Expr}{env:Env}{d:PyData}(h:U9 e=some d):starEach (e::es) env=(false,eval e env)::starEach es env:=by
 cases e <;> first | rfl | (simp[U9]at h)
section
variable [Feeds]{K:PySem.W.Frag}{X:Cx}
theorem a6c:∀n:Nat,(∀(e:Expr) (d:PyData),sizeOf e<n->U9 e=some d->Ev K X e (G7 e) (sC d))∧(∀(es:List Expr) (ds:List PyData),sizeOf es<n->T3 es=some ds->Ea K X es (T0 es) (λ_ F=>some (ds,F))):=by
 intro n
 induction n with
 | zero=>exact⟨λ_ _ h=>absurd h (Nat.not_lt_zero _),λ_ _ h=>absurd h (Nat.not_lt_zero _)⟩
 | succ n ih =>
  refine⟨λe d hn h=>?_,λes ds hn h=>?_⟩
  ·unfold U9 at h
   split at h
   ·cases h;simp only[G7];exact i5
   ·cases h;simp only[G7];exact a6S
   ·cases h;simp only[G7];exact a0u
   ·cases h;simp only[G7];exact P9
   ·cases h;simp only[G7]
    exact⟨a8n a4i l4,λG B E F σ H Q d F' I e q=>by cases e;exact⟨_,rfl,q _ H Kp.refl I.fd b7.int⟩⟩
   ·split at h
    ·rename_i hc
     cases h;simp only[G7]
     exact⟨x4 a8w l4 l4,λG B E F σ H Q d F' I e q=>by cases e;exact⟨_,_,rfl,rfl,hc,q _ H Kp.refl I.fd b7.int⟩⟩
    ·cases h
   ·rename_i es k p
    obtain⟨ds,e1,h⟩:=Option.bind_eq_some_iff.mp h
    split at h
    ·rename_i hl
     cases h;simp only[G7]
     have hh:=ih.2 es ds (by simp at hn;omega) e1
     exact⟨a4h hh.pa,λG B E F σ H Q d F' I e q=>by
      cases e
      refine hh.ok G B E F σ H _ ds _ I rfl λvs H1 k1 f1 h1=>⟨?_,λp hp=>q _ _ (k1.trans (Kp.upd hp)) (f1.same (i4.upd hp)) (L1 (v0 I.bk k1 f1) hp h1)⟩
      rw[h1.length]
      exact Nat.le_trans hl (by rw[sizeLine_eq];decide)⟩
    ·cases h
   ·rename_i es p
    obtain⟨ds,e1,h⟩:=Option.bind_eq_some_iff.mp h
    split at h
    ·rename_i hl
     cases h;simp only[G7]
     have hh:=ih.2 es ds (by simp at hn;omega) e1
     exact⟨a1o hh.pa,λG B E F σ H Q d F' I e q=>by
      cases e
      refine hh.ok G B E F σ H _ ds _ I rfl λvs H1 k1 f1 h1=>⟨?_,λp hp=>q _ _ (k1.trans (Kp.upd hp)) (f1.same (i4.upd hp)) (D8 (v0 I.bk k1 f1) hp h1)⟩
      rw[h1.length]
      exact Nat.le_trans hl (by rw[sizeLine_eq];decide)⟩
    ·cases h
   ·cases h
  ·cases es with
   | nil=>simp only[T3]at h;cases h;simp only[T0];exact j6
   | cons e es =>
    simp only[T3]at h
    obtain⟨d,e1,h⟩:=Option.bind_eq_some_iff.mp h
    obtain⟨ds',e2,h⟩:=Option.bind_eq_some_iff.mp h
    cases h
    simp only[T0]
    exact d0 (ih.1 e d (by simp at hn;omega) e1) (ih.2 es ds' (by simp at hn;omega) e2) (a4A e1)
theorem a8o (e:Expr)(d:PyData)(h:U9 e=some d):Ev K X e (G7 e) (sC d):=(a6c (sizeOf e+1)).1 e d (Nat.lt_succ_self _) h
theorem X5 (d:PyData){e:Expr}(h:U9 e=some d):Ev K X e (G7 e) (sC d):=a8o e d h
end
end L3
namespace L3
open PySem
theorem F0:bootBuiltins "len" = some (.builtin "len"):=by decide +kernel
theorem b0V:bootBuiltins "min" = some (.builtin "min"):=by decide +kernel
theorem a2o:bootBuiltins "sorted" = some (.builtin "sorted"):=by decide +kernel
theorem a7J:bootBuiltins "max" = some (.builtin "max"):=by decide +kernel
theorem u5:bootBuiltins "tuple" = some (.type "tuple"):=by decide +kernel
theorem a13:bootBuiltins "list" = some (.type "list"):=by decide +kernel
end L3
namespace L3
open PySem PySem.Spec PyProof.Rows L2
section
variable [Feeds]{K:PySem.W.Frag}{X:Cx}{a b c e tg iter:Expr}{es:List Expr}{ta tb tc te:TE}{ma mb mc m:DE->M PyData}{pos pos' p p2:Pos}
theorem R4 (i:Nat){x:Str}{px ap cp:Pos}(hK:X.K=K)(hv:Ev K X e te m)(hN:X.N[i]? = some x:=by rfl)(hvis:Vis X.env.scope x:=by first | exact Or.inl rfl | exact Or.inr (Or.inl rfl) | exact Or.inr (Or.inr rfl))(hd:(x == ("__debug__":Str))=false:=by decide)(hcd:(x == ("__classdict__":Str))=false:=by decide)
  (hbase:attributeBase (.Name x px) "append" X.env (eval (.Name x px) X.env)=eval (.Name x px) X.env:=by rfl)
  (hfew:((backTo cp (starEach [e] X.env)).all (λx=>!x.1)&&(backToKw cp (keywordEach [] X.env)).all (λx=>x.1.isSome)
   && decide ([e].length+([]:List Keyword).length+(if ([]:List Keyword).isEmpty then 0 else 1)<30))=true:=by rfl)
  (hline:(ap.endLine == cp.line)=true:=by rfl) (hst:starEach [e] X.env=(false,eval e X.env)::starEach [] X.env:=by rfl) (hplain:(backTo cp (starEach [] X.env)).any (·.1)=false:=by rfl)
  (hs:swapsWith (.Call (.Attribute (.Name x px) "append" ap) [e] [] cp) none pos.line X.env=pure false:=by rfl) :
  Ss K X (.Expr (.Call (.Attribute (.Name x px) "append" ap) [e] [] cp) pos) (a78 (tBM K "list" a2E (a0N i) (C6 te V5))) (O6 i m):=by
 subst hK
 exact⟨a9t (b2E PySem.F.plainAttrs_list PySem.F.slot_list_append PySem.F.type_list_append T2 (V8 hN hvis hd hcd) (m8 hv.pe A1 hst) hbase hfew hline hst hplain) hs,b1J hv.ok⟩
noncomputable def fLC (mi:DE->M (List PyData))(k:Nat)(cap:List Nat)(bd:PyData->DE->Option DE)(mt:DE->M Bool)(me:DE->M PyData):DE->M (List PyData):=λE F =>
 (mi E F).bind λp=>if p.1.length≤sizeLine then(L5 bd mt me p.1 (a1v k cap E) p.2).bind λz=>some (z.1,z.2) else none
theorem b1L {wi:TI}{mi:DE->M (List PyData)}{k:Nat}{cap:List Nat}{g:TG}{bd:PyData->DE->Option DE}{tt:TT}{mt:DE->M Bool}{me:DE->M PyData}(hi:TIs K wi mi)(hg:TGd K g bd)(ht:TTd K tt mt)(he:TEd K te me) :
  TFd K (tLC wi k cap g tt te) (fLC mi k cap bd mt me):=λG B E F σ H Q d F' I e q=>by
 obtain⟨⟨items,F1⟩,e1,e⟩:=Option.bind_eq_some_iff.mp e
 split at e
 ·rename_i hsz
  obtain⟨⟨whole,F2⟩,e2,e⟩:=Option.bind_eq_some_iff.mp e
  cases e
  refine hi G B E F σ H _ items F1 I e1 λJ H1 k1 f1 ok D hD=>?_
  have I1:SitE K G B E F1 σ H1:=I.step k1 f1
  have hBD:D ∉ B:=I1.bk.nin hD
  have hfD:D ∉ k9 K G:=λz=>hBD (I.fB D z)
  have hsz:items.length≤sizeLine:=hsz
  have stab:∀{H':Hp},Kp (k9 K G) H1 H'->Kp (k9 K G) H1 H'∧i4 (hid H1 B) (hid H' (D::B)):=λ{H'} k=>⟨k,λb o eb=>by
   by_cases hb:b∈B
   ·rw[A4 hb]at eb;cases eb
   ·rw[j8 hb]at eb
    rw[j8 (by
     intro z
     rcases List.mem_cons.mp z with rfl | z
     ·rw[hD]at eb;cases eb
     ·exact hb z)]
    exact k b o eb λz=>hb (I.fB b z)⟩
  refine a7l items.length (a9N K G B D H1 bd mt me items whole F2) ?_ ?_ ?_ ?_ ?_
  ·refine⟨a1v k cap E,F1,[],whole,(I1.cap k cap).more hD,g6,Kp.upd hD,λj ds ej z=>?_,a6.nil,e2,rfl,Nat.le_refl _⟩
   obtain⟨v,v1,a,xs,rfl,_,_,ha,_⟩:=(I1.cap k cap).loc j _ ej
   rw[v1]at z
   cases z
   rw[hD]at ha;cases ha
  ·rintro i σ' acc H' hlt ⟨E',F3,done,rest,I2,hD2,k2,ow,hd2,e3,ew,hdi⟩
   exact((ok H' (D::B) (stab k2)).1 i items[i] (by simp[hlt])).1
  ·rintro σ' acc H' ⟨E',F3,done,rest,I2,hD2,k2,ow,hd2,e3,ew,hdi⟩
   exact(ok H' (D::B) (stab k2)).2
  ·rintro i σ' acc H' hlt ⟨E',F3,done,rest,I2,hD2,k2,ow,hd2,e3,ew,hdi⟩ x H2 y R hR
   obtain⟨s2,hx⟩:=((ok H' (D::B) (stab k2)).1 i items[i] (by simp[hlt])).2 x H2 y
   have hx':=hx I2.bk
   rw[List.drop_eq_getElem_cons hlt,L5]at e3
   obtain⟨E4,e4,e3⟩:=Option.bind_eq_some_iff.mp e3
   obtain⟨⟨b,F5⟩,e5,e3⟩:=Option.bind_eq_some_iff.mp e3
   have I3:SitE K G (D::B) E' F3 σ' H2:=I2.step (Kp.same s2) (I2.fd.same s2)
   refine hg G (D::B) E' F3 σ' H2 x items[i] E4 _ I3 hx' e4 λσ4 I4 fr=>?_
   have ow4:∀(j:Nat) (ds:List PyData),E4[j]? = some (some (DV.own ds))->σ4[j]? ≠ some (some (V.ref D)):=λj ds ej=>by
    obtain⟨a1,a2⟩:=fr j λy z=>by rw[ej]at z;cases z
    rw[a2];exact ow j ds (a1▸ej)
   refine ht G (D::B) E4 F3 σ4 H2 _ b F5 I4 e5 λH5 k5 f5=>?_
   have kall:Kp (k9 K G) H1 H5:=(k2.trans (Kp.same s2)).trans k5
   have I5:SitE K G (D::B) E4 F5 σ4 H5:=I4.step k5 f5
   have hD5:H5 D=some (.lst acc):=k5 D _ (s2 D _ hD2) hfD
   have hd5:a6 K (hid H5 (D::B)) done acc:=(hd2.same ((Kp.same s2).hid (fp:=[]) (by simp))).same (k5.hid I4.fB)
   cases b with
   | false =>
    exact⟨hD5,hR _ _ _ ⟨E4,F5,done,rest,I5,hD5,kall,ow4,hd5,e3,ew,by omega⟩⟩
   | true =>
    obtain⟨⟨yd,F6⟩,e6,e3⟩:=Option.bind_eq_some_iff.mp e3
    obtain⟨⟨zs,F7⟩,e7,e3⟩:=Option.bind_eq_some_iff.mp e3
    cases e3
    refine he G (D::B) E4 F5 σ4 H5 _ yd F6 I5 e6 λv H6 k6 f6 h6=>?_
    have hD6:H6 D=some (.lst acc):=k6 D _ hD5 hfD
    have I6:SitE K G (D::B) E4 F6 σ4 H6:=I5.step k6 f6
    have hd6:=hd5.same (k6.hid I5.fB)
    have hlen:acc.length<sizeLine:=by rw[hd2.length];omega
    refine⟨hD6,hlen,hR _ _ _ ⟨E4,F6,done++[yd],zs,I6.wr hfD ow4 hD6,g6,λb o eb nb=>?_,ow4,?_,e7,by rw[ew];simp,by simp;omega⟩⟩
    ·have:=k6 b o (kall b o eb nb) nb
     rw[d8];exact this
     intro z;subst z;rw[hD]at eb;cases eb
    ·rw[S7 List.mem_cons_self]
     exact hd6.snoc h6
  ·rintro σ' acc H' ⟨E',F3,done,rest,I2,hD2,k2,ow,hd2,e3,ew,hdi⟩
   rw[List.drop_length,L5]at e3
   cases e3
   rw[List.append_nil]at ew
   subst ew
   exact q D acc H' (k1.none hD hfD) hD2 (k1.trans k2) I2.fd hd2
 ·cases e
end
end L3
namespace L3
open PySem PySem.Spec PyProof.Rows L2
section
variable [Feeds]{K:PySem.W.Frag}{X:Cx}{a b c e tg iter:Expr}{es:List Expr}{ta tb tc te:TE}{ma mb mc m:DE->M PyData}{pos pos' p p2:Pos}{P:Program}{w:World}{mg:Str->Option Value}{base:Heap}
noncomputable def GD (K:PySem.W.Frag)(mg:Str->Option Value)(x:Str)(d:PyData):Prop:=∃a,mg x=some (.ref a)∧∀H,b7 K H d (.ref a)
theorem b3e {x:Str}{d:PyData}(h:GD K X.mg x d)(hg:Gl X x:=by rfl)(hd:(x == ("__debug__":Str))=false:=by decide):Ev K X (.Name x p) (tC (.ref h.choose)) (sC d) :=
 ⟨a9f hg h.choose_spec.1 rfl hd,λG B E F σ H Q d F' I e q=>by
  cases e
  exact q _ H Kp.refl I.fd (h.choose_spec.2 _)⟩
noncomputable def strsOf:List Value->Option (List Str)
 | []=>some []
 | .str x _::r=>(strsOf r).map (x :: ·)
 | _=>none
theorem a2k:∀{us:List Value} {ss:List Str},strsOf us=some ss->j3 (ss.map V.str) us∧∀H,a6 K H (ss.map .str) (ss.map V.str)
 | [],ss,h=>by cases h;exact⟨.nil,λH=>a6.nil⟩
 | u::r,ss,h=>by
  cases u with
  | str x t =>
   obtain⟨ss',e1,rfl⟩:=Option.map_eq_some_iff.mp (show(strsOf r).map (x :: ·)=some ss from h)
   obtain⟨h1,h2⟩:=a2k e1
   exact⟨.cons ⟨t,rfl⟩ h1,λH=>⟨_,_,rfl,rfl,h2 H⟩⟩
  | _=>cases h
theorem gd_mk {h:Heap}{x:Str}{t:Addr}{its:Array Value}{n:Nat}{dd:Option Addr}{sl:Array (Option Value)}{ss:List Str}(X:K.In h)(G:h.Ns mainGlobals mg)(hn:PySem.W.nsIn K mainGlobals x=some (some (.ref t)))(hl:K.lookup t=some ⟨.type "tuple",dd,.seq its n,sl⟩)(hs:strsOf its.toList=some ss)(hz:ss.length≤1000):GD K mg x (.tuple (ss.map .str)):=by
 obtain⟨h1,h2⟩:=a2k (K:=K) hs
 refine⟨t,PySem.W.mg_of X G hn,λH=>⟨t,ss.map V.str,rfl,.inr ⟨_,its,n,hl,rfl,rfl,?_,h1⟩,h2 H⟩⟩
 have:=h1.length
 rw[List.length_map]at this
 have e:its.size=ss.length:=by rw[this];simp
 rw[e]
 exact Nat.le_trans hz (by rw[sizeLine_eq];decide)
end
end L3
namespace L3
open PySem PySem.Spec PyProof.Rows L2
section
variable {prog:Program}{w:World}{A:Around}{E:Value->Shared->Prop}{s:Shared}
theorem Z4 {it l:Addr}{i:Nat}{items}{x:Value}{Q:Value->Shared->Prop}(hit:s.heap.IsTupleIter it l i)
  (hl:s.heap.IsTuple l items) (hx:items[i]? = some x)
  (hQ:∀h',h'.IsTupleIter it l (i+1)->Heap.SameBut it s.heap h'->Q x { s with heap:=h' }) :
  wpAny (model prog w) A (Builtin.SmallTypes.nextOf (.ref it)) Q E s:=by
 obtain⟨o,ho,hc,hd⟩:=id hit
 obtain⟨ol,hol,_,nl,hdl⟩:=hl
 unfold Builtin.SmallTypes.nextOf
 refine wpAny_bind (wpAny_callSpecial?_slot (name:=Str.ofString "__next__") hit.typeIs PySem.F.slot_tuple_iterator_next
  (wpAny_call_entry PySem.F.slot_tuple_iterator_next hit.typeIs PySem.F.entry_tuple_iterator_next ?_ (PySem.F.args_tuple_iterator_next_1 _)))
 show wpAny _ _ (field (.ref it) 0 >>= _) _ _ s
 refine wpAny_bind (wpAny_field ho hd (x:=.ref l) rfl ?_)
 show wpAny _ _ (if (Value.ref l == Value.none)=true then _ else _) _ _ s
 rw[if_neg (show ¬((Value.ref l == Value.none)=true) from Bool.false_ne_true)]
 show wpAny _ _ (field (.ref it) 1 >>= _) _ _ s
 refine wpAny_bind (wpAny_field ho hd (x:=.int i 0) rfl ?_)
 show wpAny _ _ (seqItems? (.ref l) >>= _) _ _ s
 refine wpAny_bind (wpAny_seqItems hol hdl ?_)
 simp only[Int.toNat_natCast,hx]
 refine wpAny_bind (wpAny_setField ho hd (by simp) (wpAny_pure ⟨x,rfl,wpAny_pure (hQ _ ?_ (Heap.SameBut.update ..))⟩))
 exact⟨_,Heap.get?_update_self _ ho (Obj.isFreed_of_fields (Obj.data_mapFields hd _)),(Obj.cls_mapFields ..).trans hc,by
  rw[Obj.data_mapFields hd];simp[rawInt]⟩
theorem a08 {it l:Addr}{i:Nat}{items}{Q:Value->Shared->Prop}(hh:A.handled=none)
  (hit:s.heap.IsTupleIter it l i) (hl:s.heap.IsTuple l items) (hx:items[i]? = none)
  (hE:∀h' e,Heap.ExtBut it s.heap h'->(∃o,h'.get? e=some o∧o.cls = .type "StopIteration")->E (.ref e) { s with heap:=h' }) :
  wpAny (model prog w) A (Builtin.SmallTypes.nextOf (.ref it)) Q E s:=by
 obtain⟨o,ho,hc,hd⟩:=id hit
 obtain⟨ol,hol,_,nl,hdl⟩:=hl
 unfold Builtin.SmallTypes.nextOf
 refine wpAny_bind (wpAny_callSpecial?_slot (name:=Str.ofString "__next__") hit.typeIs PySem.F.slot_tuple_iterator_next
  (wpAny_call_entry PySem.F.slot_tuple_iterator_next hit.typeIs PySem.F.entry_tuple_iterator_next ?_ (PySem.F.args_tuple_iterator_next_1 _)))
 show wpAny _ _ (field (.ref it) 0 >>= _) _ _ s
 refine wpAny_bind (wpAny_field ho hd (x:=.ref l) rfl ?_)
 show wpAny _ _ (if (Value.ref l == Value.none)=true then _ else _) _ _ s
 rw[if_neg (show ¬((Value.ref l == Value.none)=true) from Bool.false_ne_true)]
 show wpAny _ _ (field (.ref it) 1 >>= _) _ _ s
 refine wpAny_bind (wpAny_field ho hd (x:=.int i 0) rfl ?_)
 show wpAny _ _ (seqItems? (.ref l) >>= _) _ _ s
 refine wpAny_bind (wpAny_seqItems hol hdl ?_)
 simp only[Int.toNat_natCast,hx]
 refine wpAny_bind (wpAny_rule (wpAny_bind (wpAny_setField ho hd (by simp) ?_)))
 show wpAny _ _ (newExc (.type "StopIteration") [] >>= _) _ _ _
 refine wpAny_bind ?_
 simp only[newExc,newTuple]
 refine wpAny_bind (wpAny_newObj_type ?_ (by size_fits))
 refine wpAny_bind (m:=firstArgMember _ _) (wpAny_of_eq (a:=Value.none) (by first | rfl | (simp only[firstArgMember];rfl)) ?_)
 refine wpAny_newObj_type ?_ (by size_fits)
 simp only[raiseNew]
 refine wpAny_bind (wpAny_handled ?_)
 first | rw[show A.in1.handled=none from hh] | rw[hh]
 refine wpAny_bind (wpAny_pure (wpAny_throw ?_))
 exact hE _ _ (((Heap.SameBut.update ..).extBut.push _).push _) ⟨_,Heap.get?_push_size _ rfl,rfl⟩
end
noncomputable def a3N (b:Bool)(h:Heap)(it l:Addr)(i:Nat):Prop:=if b then h.IsListIter it l i else h.IsTupleIter it l i
noncomputable def a6l (b:Bool)(h:Heap)(l:Addr)(items:Array Value):Prop:=if b then h.IsList l items else h.IsTuple l items
theorem a3N.at {b:Bool}{h h':Heap}{it l:Addr}{i:Nat}(x:a3N b h it l i)(k:∀o,h.get? it=some o->h'.get? it=some o):a3N b h' it l i:=by
 cases b
 ·exact Heap.IsTupleIter.at (show h.IsTupleIter it l i from x) k
 ·exact Heap.IsListIter.at (show h.IsListIter it l i from x) k
theorem a6l.at {b:Bool}{h h':Heap}{l:Addr}{items:Array Value}(x:a6l b h l items)(k:∀o,h.get? l=some o->h'.get? l=some o):a6l b h' l items:=by
 cases b
 ·obtain⟨o,ho,r⟩:=(show h.IsTuple l items from x)
  exact⟨o,k o ho,r⟩
 ·exact Heap.IsList.at (show h.IsList l items from x) k
theorem a3N.obj {b:Bool}{h:Heap}{it l:Addr}{i:Nat}(x:a3N b h it l i):∃o,h.get? it=some o∧∀v,o.data ≠ .cell v:=by
 cases b
 ·obtain⟨o,e,c,d⟩:=(show h.IsTupleIter it l i from x)
  exact⟨o,e,λv z=>by rw[d]at z;cases z⟩
 ·obtain⟨o,e,c,d⟩:=(show h.IsListIter it l i from x)
  exact⟨o,e,λv z=>by rw[d]at z;cases z⟩
theorem a3h {prog:Program}{w:World}{A:Around}(b:Bool)(hh:A.handled=none)(it l:Addr)(hne:l≠it)(items:Array Value) :
  Draws prog w A it [it,l] items.size (λi v=>items[i]? = some v) (λi h=>a3N b h it l i∧a6l b h l items) where
 live:=λ_ _ st=>let ⟨o,ho,_⟩:=st.1.obj;⟨o,ho⟩
 frame:=λ_ _ _ st hk=>⟨st.1.at λo e=>hk it (by simp) o e,st.2.at λo e=>hk l (by simp) o e⟩
 item:=λi s Q E hi st hQ=>by
  cases b
  ·refine Z4 (show s.heap.IsTupleIter it l i from st.1) (show s.heap.IsTuple l items from st.2) (x:=items[i]) (by simp[hi]) λh' hit' hs'=>?_
   exact hQ _ h' s.toks (by simp[hi]) ⟨hit',st.2.at λo e=>hs'.extBut l o hne e⟩ hs'
  ·refine wpAny_nextOf_list_item (show s.heap.IsListIter it l i from st.1) (show s.heap.IsList l items from st.2) (x:=items[i]) (by simp[hi]) λh' hit' hs'=>?_
   exact hQ _ h' s.toks (by simp[hi]) ⟨hit',st.2.at λo e=>hs'.extBut l o hne e⟩ hs'
 done:=λs Q E st hE=>by
  cases b
  ·exact a08 hh (show s.heap.IsTupleIter it l items.size from st.1) (show s.heap.IsTuple l items from st.2) (by simp) hE
  ·exact wpAny_nextOf_list_end hh (show s.heap.IsListIter it l items.size from st.1) (show s.heap.IsList l items from st.2) (by simp) hE
open AutoSeq1 (wpAny_loadPart') in
theorem Q3 (l:Addr)(items:Array Value)(n:Nat)(dct:Option Addr)(sl:Array (Option Value)) :
  Meets (Builtin.«enumerate.__new__» ⟨[.type "enumerate",.ref l],[]⟩) (λ_ R s=>s.heap.get? l=some { cls:=.type "tuple",dict:=dct,data:=.seq items n,slots:=sl } ∧
   R (.ok (.ret (.ref (s.heap.push { cls:=.type "tuple_iterator",data:=.fields #[.ref l,.int 0 0] }).objs.size)))
    { s with heap:=(s.heap.push { cls:=.type "tuple_iterator",data:=.fields #[.ref l,.int 0 0] }).push { cls:=.type "enumerate",data:=.fields #[.none,.bool false,.ref s.heap.objs.size,rawInt 0,.none,.none] } }) :=
 .of_wp λprog w A R s h=>by
  obtain⟨hp,g,d,tk,os⟩:=s;obtain⟨hl,h⟩:=h
  have hsub:=sub_enumerate
  have hL:Heap.IsTuple (Shared.heap ⟨hp,g,d,tk,os⟩) l items:=⟨_,hl,rfl,n,rfl⟩
  wp_walk using wpAny_loadPart' hl
  refine wpAny_stack_any λst=>wpAny_pure ?_
  split
  ·rename_i c _ _ _ _ _
   cases(c == Value.type "enumerate")
   ·wp_walk using wpAny_loadPart' hl,wpAny_pyIter_tuple hL
    exact⟨_,rfl,h⟩
   ·wp_walk using wpAny_loadPart' hl,wpAny_pyIter_tuple hL
    exact⟨_,rfl,h⟩
  ·wp_walk using wpAny_loadPart' hl,wpAny_pyIter_tuple hL
   exact⟨_,rfl,h⟩
section
variable {prog:Program}{w:World}{A:Around}{E:Value->Shared->Prop}{s:Shared}
theorem R7 {l:Addr}{items:Array Value}{Q:Value->Shared->Prop}(hL:s.heap.IsTuple l items)
  (h:∀h',IsEnum h' (s.heap.objs.size+1) s.heap.objs.size 0 .none->h'.IsTupleIter s.heap.objs.size l 0->h'.objs.size=s.heap.objs.size+2 ->
   (∀b o,s.heap.get? b=some o->h'.get? b=some o)->Q (.ref (s.heap.objs.size+1)) { s with heap:=h' }) :
  wpAny (model prog w) A (call (.type "enumerate") [.ref l]) Q E s:=by
 obtain⟨⟨c,dct,dt,sl⟩,hl,hc,n,hd⟩:=hL
 replace hc:c = .type "tuple":=hc
 replace hd:dt = .seq items n:=hd
 subst hc hd
 refine callType_new PySem.F.called_enumerate (by decide) (PySem.F.typeCall_enumerate_1 _) (PySem.F.newCall_enumerate_1 _) (λobj=>PySem.F.args_object_init_2 obj _) PySem.F.entry_enumerate_new
  (Q3 l items n dct sl) ⟨hl,?_⟩
 have hz:(s.heap.push { cls:=.type "tuple_iterator",data:=.fields #[.ref l,.int 0 0] }).objs.size=s.heap.objs.size+1:=Heap.size_push ..
 show _∧_
 rw[hz]
 have he:IsEnum ((s.heap.push { cls:=.type "tuple_iterator",data:=.fields #[.ref l,.int 0 0] }).push
   { cls:=.type "enumerate",data:=.fields #[.none,.bool false,.ref s.heap.objs.size,rawInt 0,.none,.none] }) (s.heap.objs.size+1) s.heap.objs.size 0 .none:=by
  have:=Heap.get?_push_size (s.heap.push { cls:=.type "tuple_iterator",data:=.fields #[.ref l,.int 0 0] })
   (o:={ cls:=.type "enumerate",data:=.fields #[.none,.bool false,.ref s.heap.objs.size,rawInt 0,.none,.none] }) rfl
  rw[hz]at this;exact this
 refine⟨⟨_,he,rfl⟩,h _ he ⟨_,Heap.get?_push_of_some _ (Heap.get?_push_size _ rfl),rfl,rfl⟩ (by rw[Heap.size_push,hz]) λb o x=>Heap.get?_push_of_some _ (Heap.get?_push_of_some _ x)⟩
theorem a62 {b:Bool}{l:Addr}{items:Array Value}{Q:Value->Shared->Prop}(hL:a6l b s.heap l items)
  (h:∀h',IsEnum h' (s.heap.objs.size+1) s.heap.objs.size 0 .none->a3N b h' s.heap.objs.size l 0->h'.objs.size=s.heap.objs.size+2 ->
   (∀b o,s.heap.get? b=some o->h'.get? b=some o)->Q (.ref (s.heap.objs.size+1)) { s with heap:=h' }) :
  wpAny (model prog w) A (call (.type "enumerate") [.ref l]) Q E s:=by
 cases b
 ·exact R7 (show s.heap.IsTuple l items from hL) h
 ·exact call_enumerate_list (show s.heap.IsList l items from hL) h
end
noncomputable def SqA (b:Bool)(K:PySem.W.Frag)(H:Hp)(a:Addr)(xs:List V):Prop:=if b then SqL K H a xs else SqT K H a xs
noncomputable def Ite (b:Bool)(K:PySem.W.Frag)(a:Addr):It :=
 ⟨λi H=>∃xs x,SqA b K H a xs∧xs[i]? = some x,λi H v H'=>∃t x,v = .ref t∧H t=none∧H'=upd H t (.tup [.int i,x])∧∀xs,SqA b K H a xs->xs[i]? = some x,λi H=>∃xs,SqA b K H a xs∧xs.length=i⟩
theorem SqA.get {b:Bool}{X:Cx}{pins:List (Addr×Obj)}{σ:St}{H:Hp}{s:Shared}{a:Addr}{xs:List V}(I:Inv X pins σ H s)(h:SqA b X.K H a xs):∃its:List Value,j3 xs its∧a6l b s.heap a its.toArray:=by
 cases b
 ·obtain⟨its,rv,p,_⟩:=I.tuple (show SqT X.K H a xs from h)
  exact⟨its,rv,p⟩
 ·obtain⟨its,rv,p,_⟩:=I.list (show SqL X.K H a xs from h)
  exact⟨its,rv,p.isList⟩
theorem SqA.inj {b:Bool}{X:Cx}{pins:List (Addr×Obj)}{σ:St}{H:Hp}{s:Shared}{a:Addr}{xs ys:List V}(I:Inv X pins σ H s)(h:SqA b X.K H a xs)(h':SqA b X.K H a ys):ys=xs:=by
 cases b
 ·exact I.tuple_inj (show SqT X.K H a ys from h') (show SqT X.K H a xs from h)
 ·exact I.list_inj (show SqL X.K H a ys from h') (show SqL X.K H a xs from h)
end L3
namespace L3
open PySem PySem.Spec PyProof.Rows L2
theorem a83 {h:Heap}{c:Addr}{o o':Obj}(hl:c<h.objs.size)(e:(h.push o).get? c=some o'):h.get? c=some o':=by
 obtain⟨e1,e2⟩:=Heap.get?_some_iff.mp e
 refine Heap.get?_some_iff.mpr ⟨?_,e2⟩
 have:=Nat.ne_of_lt hl
 cases h;simpa [Heap.push,Array.getElem?_push,this] using e1
theorem a1F {X:Cx}{pins:List (Addr×Obj)}{σ:St}{H:Hp}{s:Shared}{h':Heap}{t':Nat}{fp:List Addr}(I:Inv X pins σ H s)(hf:∀b∈fp,V3 X pins H b)(k:∀b o,b ∉ fp->s.heap.get? b=some o->h'.get? b=some o):Inv X pins σ H { s with heap:=h',toks:=t' }:=by
 have nit:∀b u,H b=some u->b ∉ fp:=λb u e z=>by rw[(hf b z).1]at e;cases e
 refine I.step (g':=s.gens) (d':=s.drawn) (ch:=fp) (λb hb=>?_) (λb o _ _ hc e _=>k b o hc e) (λb o _ _ hc e _=>⟨o.slots,k b o hc e⟩) (λ_ _ _ _ n=>n)
  (λb o hc e=>⟨o,k b o hc e⟩) (λ_ _ e=>e) (λ_ _ _ e=>e) (λb ps e=>⟨#[],by rw[e];simp⟩) (λm hm=>?_) (λb u e=>?_) I.bare
 ·obtain⟨_,f1,f2,f3,f4,f5⟩:=hf b hb
  exact⟨f3,f1,f4,f5⟩
 ·obtain⟨o,es,ep,ho,r⟩:=hm
  exact⟨o,es,ep,k _ o (λz=>(hf _ z).2.1 rfl) ho,r⟩
 ·refine(I.hok b u e).stay (λc v hc q=>k c v ?_ q) (λ_ q=>q) λ_ _ q=>q
  rcases hc with z | z
  ·rw[z];exact nit b u e
  ·exact nit c _ z
theorem a6k {P:Program}{w:World}{K:PySem.W.Frag}{es:List Expr}{k:Nat}{pos:Pos}(b:Bool)(a e it:Addr):Turn P w K (.Tuple es k pos) (Ite b K a) [e,it] e (λi h=>(e≠it∧a≠e∧a≠it)∧(∃old,IsEnum h e it i old)∧a3N b h it a i) where
 mem:=by simp
 obj:=λi h st c hb=>by
  obtain⟨_,⟨old,he⟩,hit⟩:=st
  rcases List.mem_cons.mp hb with rfl | hb
  ·exact⟨_,he,λv z=>by cases(show Data.fields _=Data.cell v from z)⟩
  ·rw[List.mem_singleton.mp hb];exact hit.obj
 keep:=λi h h' st kk=>by
  obtain⟨n,⟨old,he⟩,hit⟩:=st
  exact⟨n,⟨old,kk e (by simp) _ he⟩,hit.at λo z=>kk it (by simp) o z⟩
 item:=by
  intro X hP hw hK hc i pins s σ H E I hf st hg
  subst hP hw hK
  obtain⟨⟨n1,n2,n3⟩,⟨old,he⟩,hit⟩:=st
  obtain⟨xs,x,hq,hx⟩:=hg
  obtain⟨its,rv,p⟩:=SqA.get I hq
  obtain⟨u,hu,ru⟩:=rv.get hx
  have hlt:i<its.toArray.size:=by
   have:=(List.getElem?_eq_some_iff.mp hu).1
   simpa using this
  have hel:e<s.heap.objs.size:=Heap.lt_size he
  have hil:it<s.heap.objs.size:=by obtain⟨o,z,_⟩:=hit.obj;exact Heap.lt_size z
  refine wpAny_pyNext_enum_itemD (a3h b (A:=X.A.in1) (I.ok.hd hc) it a n3 its.toArray) he ⟨hit,p⟩ hlt n1 (by simp[n1,Ne.symm n2]) λy h' tk hy ho hst' ht hz hk=>?_
  have hyu:y=u:=by
   have hy:its.toArray[i]? = some y:=hy
   rw[List.getElem?_toArray,hu]at hy
   exact(Option.some.inj hy).symm
  subst hyu
  refine⟨_,rfl,wpAny_letOwnedTupleGo_enum ho λh2 he2 hs2=>?_⟩
  have hs2:Heap.SameBut e h' h2:=hs2
  have hf0:H s.heap.objs.size=none:=I.hok.fresh (Nat.le_refl _)
  have I1:Inv X pins σ (upd H s.heap.objs.size (.tup [.int i,x])) { s with heap:=s.heap.push { cls:=.type "tuple",data:=.seq #[.int i tk,y] },toks:=tk }:=by
   refine I.laid (t':=tk) (λb u e=>Heap.get?_push_of_some _ e) (Nat.le_refl _) ?_
   exact⟨Nat.le_trans (show 2≤10000 by decide) (by rw[sizeLine_eq];decide),[.int i tk,y],.cons ⟨tk,rfl⟩ (.cons ru .nil),⟨_,Heap.get?_push_size _ rfl,rfl,_,rfl⟩⟩
  have hfp:∀c∈[e,it],V3 X pins (upd H s.heap.objs.size (.tup [.int i,x])) c:=λc hcm=>by
   obtain⟨f0,f⟩:=hf c hcm
   have hne:c≠s.heap.objs.size:=by
    rcases List.mem_cons.mp hcm with rfl | hcm
    ·exact Nat.ne_of_lt hel
    ·rw[List.mem_singleton.mp hcm];exact Nat.ne_of_lt hil
   exact⟨by rw[d8 hne];exact f0,f⟩
  have hT2:h2.get? s.heap.objs.size=some { cls:=.type "tuple",data:=.seq #[.int i tk,y] }:=hs2.extBut _ _ (Nat.ne_of_gt hel) ht
  have I2:Inv X pins σ (upd H s.heap.objs.size (.tup [.int i,x])) { s with heap:=h2,toks:=tk+1 }:=by
   refine a1F (s:={ s with heap:=s.heap.push { cls:=.type "tuple",data:=.seq #[.int i tk,y] },toks:=tk }) I1 hfp λc o hcn ec=>?_
   have c1:c≠e:=λz=>hcn (by simp[z])
   have c2:c≠it:=λz=>hcn (by simp[z])
   by_cases hcT:c=s.heap.objs.size
   ·subst hcT
    have:(s.heap.push { cls:=.type "tuple",data:=.seq #[.int i tk,y] }).get? s.heap.objs.size=some o:=ec
    rw[Heap.get?_push_size _ rfl]at this
    rw[hT2];exact this
   ·have hlc:c<s.heap.objs.size:=by
     have h1:c<(s.heap.push { cls:=.type "tuple",data:=.seq #[.int i tk,y] }).objs.size:=Heap.lt_size ec
     rw[Heap.size_push]at h1
     exact Nat.lt_of_le_of_ne (Nat.le_of_lt_succ h1) hcT
    have ec':s.heap.get? c=some o:=by
     have ec:(s.heap.push { cls:=.type "tuple",data:=.seq #[.int i tk,y] }).get? c=some o:=ec
     exact a83 hlc ec
    exact hs2.extBut c o c1 (hk c o c1 c2 ec')
  refine⟨.ref s.heap.objs.size,upd H s.heap.objs.size (.tup [.int i,x]),I2,rfl,⟨_,x,rfl,hf0,rfl,λys hy=>by rw[SqA.inj I hq hy];exact hx⟩,⟨⟨n1,n2,n3⟩,⟨y,by simpa using he2⟩,hst'.1.at λo z=>hs2.extBut it o (Ne.symm n1) z⟩,λc hcm=>(hfp c hcm).1⟩
 done:=by
  intro X hP hw hK hc i pins s σ H E I hf st hg
  subst hP hw hK
  obtain⟨⟨n1,n2,n3⟩,⟨old,he⟩,hit⟩:=st
  obtain⟨xs,hq,hx⟩:=hg
  obtain⟨its,rv,p⟩:=SqA.get I hq
  have hl:its.toArray.size=i:=by rw[List.size_toArray,←rv.length];exact hx
  refine wpAny_pyNext_enum_endD (a3h b (A:=X.A.in1) (I.ok.hd hc) it a n3 its.toArray) he (by rw[hl];exact⟨hit,p⟩) λh' eb=>⟨rfl,a1F (t':=s.toks) I hf λc o hc ec=>eb c o (λz=>hc (by simp[z])) ec⟩
 self:=λ_ _ _ _ _ st h=>by
  obtain⟨_,⟨old,he⟩,_⟩:=st
  exact wpAny_pyIter_enum he h
section
variable [Feeds]{K:PySem.W.Frag}{X:Cx}{tg iter e:Expr}{te:TE}{m:DE->M PyData}{pos p tp:Pos}{es:List Expr}{tk:Nat}
noncomputable def A7:Nat->List PyData->List PyData
 | _,[]=>[]
 | k,d::r=>.tuple [.int k,d]::A7 (k+1) r
theorem a24:∀{ds:List PyData} {k:Nat},(A7 k ds).length=ds.length
 | [],k=>rfl
 | d::r,k=>by rw[A7,List.length_cons,List.length_cons,a24]
theorem a2r:∀{ds:List PyData} {k i:Nat} {z:PyData},(A7 k ds)[i]? = some z->∃d,ds[i]? = some d∧z = .tuple [.int ((k+i:Nat)),d]
 | [],k,i,z,h=>by simp[A7]at h
 | d::r,k,0,z,h=>by simp[A7]at h;exact⟨d,by simp,by simp[h]⟩
 | d::r,k,i+1,z,h=>by
  rw[A7,List.getElem?_cons_succ]at h
  obtain⟨d',h1,h2⟩:=a2r h
  refine⟨d',by simpa using h1,?_⟩
  rw[h2,show k+1+i=k+(i+1) by omega]
noncomputable def Q5 (a:DE->M PyData):DE->M (List PyData):=λE F=>(a E F).bind λp=>(a1T p.1).bind λds=>some (A7 0 ds,p.2)
noncomputable def a7p (K:PySem.W.Frag)(tl:TA):TI:=λσ H R=>tl σ H λxs H1=>∃a,xs=[.ref a]∧∃b ys,SqA b K H1 a ys∧R (Ite b K a) H1
theorem a4W {l:Expr}{tl:TA}(hK:X.K=K)(hg:Gl X "enumerate")(hm:X.mg "enumerate" = none)(ha:PA X [l] tl)(hs:starEach [l] X.env=[(false,eval l X.env)]:=by rfl):PI X (.Tuple es tk tp) (.Call (.Name "enumerate" p) [l] [] pos) (a7p K tl):=by
 subst hK
 intro pins s σ H R I h
 refine Call_ (U8 I hg hm boot_enumerate (PyProof.Rows.callWith_type1 (thn (ha pos pins s σ H _ I h) λus s1 ⟨vs,H1,I1,r1,q1⟩=>?_) hs rfl))
 obtain⟨a,e,b,ys,hq,q⟩:=q1
 subst e
 cases r1 with
 | cons r rr =>
  cases rr
  cases r
  obtain⟨its,rv,p⟩:=SqA.get I1 hq
  refine a62 p λh' he hit hz hk=>?_
  have I2:Inv X pins σ H1 { s1 with heap:=h' }:=I1.kept (t':=s1.toks) hk
  have hal:a<s1.heap.objs.size:=by
   cases b
   ·obtain⟨o,z,_⟩:=(show s1.heap.IsTuple a its.toArray from p);exact Heap.lt_size z
   ·obtain⟨o,z,_⟩:=(show s1.heap.IsList a its.toArray from p);exact Heap.lt_size z
  refine wpAny_pyIter_enum he ⟨s1.heap.objs.size+1,[s1.heap.objs.size+1,s1.heap.objs.size],_,_,H1,rfl,I2,a6k b a _ _,⟨⟨Nat.succ_ne_self _,Nat.ne_of_lt (Nat.lt_succ_of_lt hal),Nat.ne_of_lt hal⟩,⟨_,he⟩,hit⟩,λc hc=>?_,q⟩
  have hle:s1.heap.objs.size≤c:=by
   rcases List.mem_cons.mp hc with rfl | hc
   ·exact Nat.le_succ _
   ·rw[List.mem_singleton.mp hc];exact Nat.le_refl _
  exact I1.fpOk hle (I1.hok.fresh hle)
theorem a11 {P:Hp->List Addr->Prop}{b:Bool}{a:Addr}{ds:List PyData}{xs:List V}(h:∀H B,P H B->SqA b K H a xs∧a6 K (hid H B) ds xs):a0l K P (Ite b K a) (A7 0 ds):=λH B hp=>by
 obtain⟨h1,h2⟩:=h H B hp
 refine⟨λi d e=>?_,⟨xs,h1,by rw[a24,h2.length]⟩⟩
 obtain⟨d',hd',rfl⟩:=a2r e
 obtain⟨v,e1,e2⟩:=a6.item h2 hd'
 refine⟨⟨xs,v,h1,e1⟩,λx H2 y=>?_⟩
 obtain⟨t,x',rfl,ht,rfl,y⟩:=y
 have:=y xs h1
 rw[e1]at this;cases this
 refine⟨i4.upd ht,λbk=>?_⟩
 rw[Nat.zero_add]
 exact L1 bk ht ⟨_,_,rfl,b7.int,_,_,rfl,e2,rfl⟩
theorem a55 (h:Ev K X e te m)(hm:X.mg "enumerate" = none)(hK:X.K=K:=by rfl)(hg:Gl X "enumerate":=by rfl)(hs:starEach [e] X.env=[(false,eval e X.env)]:=by rfl):Ei K X (.Tuple es tk tp) (.Call (.Name "enumerate" p) [e] [] pos) (a7p K (C6 te V5)) (Q5 m):=⟨a4W hK hg hm (m8 h.pe A1 hs) hs,λG B E F σ H R ds F' I e q=>by
 obtain⟨⟨y,F1⟩,e1,e⟩:=Option.bind_eq_some_iff.mp e
 obtain⟨z,e2,e⟩:=Option.bind_eq_some_iff.mp e
 cases e
 refine h.ok G B E F σ H _ y F1 I e1 λv H1 k1 f1 h1=>?_
 cases y with
 | list ys =>
  cases e2
  simp only[b7]at h1
  obtain⟨a,xs,rfl,ha,hd⟩:=h1
  exact⟨a,rfl,true,xs,SqL.of (d4 _ _ ha),q _ H1 k1 f1 (a11 λH2 B2 s=>⟨SqL.of (d4 _ _ (s _ _ ha)),hd.same s⟩)⟩
 | tuple ys =>
  cases e2
  simp only[b7]at h1
  obtain⟨a,xs,rfl,ha,hd⟩:=h1
  exact⟨a,rfl,false,xs,ha.same d4,q _ H1 k1 f1 (a11 λH2 B2 s=>⟨(ha.same s).same d4,hd.same s⟩)⟩
 | _=>cases e2⟩
theorem a3B (h:Eb K X e te m)(hm:X.mg "enumerate" = none)(hK:X.K=K:=by rfl)(hg:Gl X "enumerate":=by rfl)(hs:starEach [e] X.env=[(false,eval e X.env)]:=by rfl):Eib K X (.Tuple es tk tp) (.Call (.Name "enumerate" p) [e] [] pos) (a7p K (C6 te V5)) (Q5 m):=⟨a4W hK hg hm (m8 h.pe A1 hs) hs,λG B E F σ H R ds F' I e q=>by
 obtain⟨⟨y,F1⟩,e1,e⟩:=Option.bind_eq_some_iff.mp e
 obtain⟨z,e2,e⟩:=Option.bind_eq_some_iff.mp e
 cases e
 refine h.ok G B E F σ H _ y F1 I e1 λv H1 k1 f1 h1=>?_
 cases y with
 | list ys =>
  cases e2
  obtain⟨a,xs,rfl,ha,hd⟩:=h1
  exact⟨a,rfl,true,xs,SqL.of (d4 _ _ ha),q _ H1 k1 f1 (a11 λH2 B2 k=>⟨SqL.of (d4 _ _ (k.1.hid (B:=k9 K G) (λ_ z=>z) _ _ ha)),hd.same k.2⟩)⟩
 | tuple ys =>
  cases e2
  obtain⟨a,xs,rfl,ha,hd⟩:=h1
  exact⟨a,rfl,false,xs,ha.same d4,q _ H1 k1 f1 (a11 λH2 B2 k=>⟨(ha.same k.2).same d4,hd.same k.2⟩)⟩
 | _=>cases e2⟩
end
end L3
namespace L3
open PySem PySem.Spec PyProof.Rows L2
section
variable [Feeds]{K:PySem.W.Frag}{X:Cx}{a b c e tg iter:Expr}{es:List Expr}{ta tb tc te:TE}{ma mb mc m:DE->M PyData}{pos pos' p p2:Pos}{t u:TS}{mt mu:DE->M Out}
noncomputable def X6 (c:DE->M Bool)(b:DE->M Out):Nat->DE->M Out
 | 0,_,_=>none
 | n+1,E,F=>(c E F).bind λp=>if p.1=true then(b E p.2).bind λq=>match q.1 with
  | .nx E2=>X6 c b n E2 q.2
  | .ct E2=>X6 c b n E2 q.2
  | .bk E2=>some (.nx E2,q.2)
  | .rt d=>some (.rt d,q.2)
  else some (.nx E,p.2)
theorem T8 {c:DE->M Bool}{b:DE->M Out}:∀{n m:Nat} {E:DE} {F:FS} {r:Out×FS},n≤m->X6 c b n E F=some r->X6 c b m E F=some r
 | 0,m,E,F,r,_,h=>by cases h
 | n+1,0,E,F,r,hl,h=>absurd hl (by omega)
 | n+1,m+1,E,F,r,hl,h=>by
  rw[X6]at h ⊢
  obtain⟨⟨x,F1⟩,e1,h⟩:=Option.bind_eq_some_iff.mp h
  rw[e1,Option.bind_some]
  dsimp only at h ⊢
  cases x with
  | false=>exact h
  | true =>
   rw[if_pos rfl]at h ⊢
   obtain⟨⟨o,F2⟩,e2,h⟩:=Option.bind_eq_some_iff.mp h
   rw[e2,Option.bind_some]
   cases o with
   | nx E2=>exact T8 (n:=n) (m:=m) (by omega) h
   | ct E2=>exact T8 (n:=n) (m:=m) (by omega) h
   | bk E2=>exact h
   | rt d=>exact h
open Classical in
noncomputable def mWh (c:DE->M Bool)(b:DE->M Out):DE->M Out:=λE F=>if h:∃n r,X6 c b n E F=some r then some (Classical.choose (Classical.choose_spec h)) else none
theorem b1D {c:DE->M Bool}{b:DE->M Out}{n:Nat}{E:DE}{F:FS}{r:Out×FS}(h:X6 c b n E F=some r):mWh c b E F=some r:=by
 unfold mWh
 have hx:∃n r,X6 c b n E F=some r:=⟨n,r,h⟩
 rw[dif_pos hx]
 have h2:=Classical.choose_spec (Classical.choose_spec hx)
 have a1:=T8 (Nat.le_max_left n (Classical.choose hx)) h
 have a2:=T8 (Nat.le_max_right n (Classical.choose hx)) h2
 rw[a1]at a2
 exact a2.symm
theorem b1n {c:DE->M Bool}{b:DE->M Out}{E:DE}{F:FS}{r:Out×FS}(h:mWh c b E F=some r):∃n,X6 c b n E F=some r:=by
 unfold mWh at h
 split at h
 ·rename_i hx
  cases h
  exact⟨_,Classical.choose_spec (Classical.choose_spec hx)⟩
 ·cases h
theorem a9z {tt:TT}{tb:TS}{mc:DE->M Bool}{mb:DE->M Out}(hc:TTd K tt mc)(hb:TSd K tb mb):TSd K (a4a tt tb) (mWh mc mb):=λG B0 H0 E F σ H D r F' S e q=>by
 obtain⟨n,e⟩:=b1n e
 refine⟨λm σ H=>∃E F,Sit K G B0 H0 E F σ H∧X6 mc mb m E F=some (r,F'),⟨n,E,F,S,e⟩,?_⟩
 rintro m σ2 H2 ⟨E2,F2,S2,e2⟩
 cases m with
 | zero=>cases e2
 | succ m =>
  rw[X6]at e2
  obtain⟨⟨x,F3⟩,e3,e2⟩:=Option.bind_eq_some_iff.mp e2
  obtain⟨B,s,sn,I⟩:=S2.ex
  refine hc G B E2 F2 σ2 H2 _ x F3 I e3 λH3 k3 f3=>?_
  have S3:=S2.step k3 f3
  cases x with
  | false =>
   rw[if_neg Bool.false_ne_true]
   cases e2
   exact q σ2 H3 S3
  | true =>
   rw[if_pos rfl]
   rw[if_pos rfl]at e2
   obtain⟨⟨o,F4⟩,e4,e2⟩:=Option.bind_eq_some_iff.mp e2
   refine⟨λσ' H'=>∃E F,Sit K G B0 H0 E F σ' H'∧X6 mc mb m E F=some (r,F'),λσ' H' h=>⟨m,Nat.lt_succ_self _,h⟩,?_⟩
   refine hb G B0 H0 E2 F3 σ2 H3 _ o F4 S3 e4 ?_
   cases o with
   | nx E6=>exact λσ6 H6 S6=>⟨E6,F4,S6,e2⟩
   | ct E6=>exact λσ6 H6 S6=>⟨E6,F4,S6,e2⟩
   | bk E6=>cases e2;exact λσ6 H6 S6=>q σ6 H6 S6
   | rt d=>cases e2;exact λv H6 k6 f6 h6=>q v H6 k6 f6 h6
theorem a7m {body:List Stmt}{tt:TT}{tb:TS}{mc:DE->M Bool}{mb:DE->M Out}(hc:Et K X c tt mc)(hb:Sss K X body tb mb)(hp:PassesOwn (model X.prog X.w) X.A X.env X.xe:=by exact PassesOwn.never):Ss K X (.While c body [] pos) (a4a tt tb) (mWh mc mb) :=
 ⟨a85 hp hc.pt hb.ps,a9z hc.ok hb.ok⟩
noncomputable def a1X (f:Int->Int->Int)(i:Nat)(a:DE->M PyData):DE->M Out:=λE F=>match E[i]? with
 | some (some (.dat (.int x)))=>(a E F).bind λp=>(Y9 p.1).bind λy=>(bN i (.int (f x y)) E).bind λE1=>some (.nx E1,p.2)
 | _=>none
theorem b29 {f:Int->Int->Int}{i:Nat}(he:TEd K te m):TSd K (a8h i te (ipI f)) (a1X f i m):=λG B0 H0 E F σ H D r F' S e q=>by
 unfold a1X at e
 split at e
 ·rename_i x hx
  obtain⟨⟨d,F1⟩,e1,e⟩:=Option.bind_eq_some_iff.mp e
  obtain⟨y,e2,e⟩:=Option.bind_eq_some_iff.mp e
  obtain⟨E1,e3,e⟩:=Option.bind_eq_some_iff.mp e
  cases e
  obtain⟨B,s,sn,I⟩:=S.ex
  obtain⟨v,v1,v2⟩:=I.loc i _ hx
  have v2:b7 K (hid H B) (.int x) v:=v2
  simp only[b7]at v2
  subst v2
  refine⟨_,v1,he G B E F σ H _ d F1 I e1 λv H1 k1 f1 h1=>?_⟩
  have:=V2 e2
  simp only at this
  subst this
  simp only[b7]at h1
  subst h1
  refine⟨x,y,rfl,rfl,?_⟩
  have S1:=S.step k1 f1
  exact a4j i G B E F1 σ H1 (.int (f x y)) _ E1 (λσ' H'=>D.nx σ' H') (I.step k1 f1) b7.int e3 λσ' I' fr=>q σ' H1 (S1.bind s sn I' fr)
 ·cases e
theorem a2G (i:Nat){x:Str}(hN:X.N.Nodup)(he:Ev K X e te m)(hi:X.N[i]? = some x:=by rfl)(hx:Loc X.env.scope x:=by first | exact Or.inl rfl | exact Or.inr rfl)(hf:X.fn x=true∨X.env.scope.names.lookup x=some .local:=by first | exact .inl rfl | exact .inr rfl | assumption) :
  Ss K X (.AugAssign (.Name x pos') .Add e pos) (a8h i te (ipI λi j=>i+j)) (a1X (λi j=>i+j) i m):=⟨a75 hN hi hx he.pe b1F hf,b29 he.ok⟩
noncomputable def a3s (i:Nat)(v:DE->M PyData):DE->M Out:=λE F=>(v E F).bind λp=>(Q0 E i).bind λds=>match p.1 with
 | .list zs=>if ds.length+zs.length≤sizeLine then some (.nx (E.set i (some (.own (ds++zs)))),p.2) else none
 | _=>none
end
end L3
namespace L3
open PySem PySem.Spec PyProof.Rows L2
section
variable [Feeds]{K:PySem.W.Frag}{X:Cx}{a b c e tg iter:Expr}{es:List Expr}{ta tb tc te:TE}{ma mb mc m:DE->M PyData}{pos pos' p p2:Pos}
end
end L3
namespace L3
open PySem PySem.Spec PyProof.Rows L2
section
variable {X:Cx}
end
section
variable [Feeds]{K:PySem.W.Frag}{X:Cx}{a b c e tg iter:Expr}{es:List Expr}{ta tb tc te:TE}{ma mb mc m:DE->M PyData}{pos pos' p p2 pos2:Pos}
noncomputable def a9Q (ta:TA):TE:=λσ H Q=>ta σ H λvs H1=>∃i j:Int,vs=[.int i,.int j]∧∀p,H1 p=none->Q (.ref p) (upd H1 p (.rng i j))
theorem a69 {ta:TA}(hg:Gl X "range")(hm:X.mg "range" = none)(ha:PA X [a,b] ta)(hs:starEach [a,b] X.env=[(false,eval a X.env),(false,eval b X.env)]:=by rfl)(hs2:starEach [b] X.env=[(false,eval b X.env)]:=by rfl):PE X (.Call (.Name "range" p) [a,b] [] pos) (a9Q ta):=by
 intro pins s σ H Q I h
 refine Call_ (U8 I hg hm boot_range (PyProof.Rows.callWith_type1 (thn (ha pos pins s σ H _ I h) λus s1 ⟨vs,H1,I1,r1,q1⟩=>?_) (by rw[hs,hs2]) (by rw[hs2];rfl)))
 obtain⟨i,j,e,q⟩:=q1
 subst e
 cases r1 with
 | cons r rr =>
  cases rr with
  | cons r2 rr =>
   cases rr
   obtain⟨t,rfl⟩:=r
   obtain⟨t2,rfl⟩:=r2
   refine call_range_2 ?_
   exact⟨.ref s1.heap.objs.size,_,I1.laid (a:=s1.heap.objs.size) (o:=.rng i j) (λb o e=>Heap.get?_push_of_some _ e) (Nat.le_refl _) ⟨_,_,_,Heap.get?_push_size _ rfl⟩,rfl,q _ (I1.hok.fresh (Nat.le_refl _))⟩
theorem a5N {lo:Int}{n:Nat}{acc:Array Value}(h:ItemsOf (λi v=>∃t,v=Value.int (lo+i*1) t) acc n):j3 ((List.range n).map λ(i:Nat)=>V.int (lo+(i:Int))) acc.toList:=by
 obtain⟨h1,h2⟩:=h
 refine K5 (by rw[List.length_map,List.length_range,Array.length_toList,h1]) λi x u hx hu=>?_
 rw[List.getElem?_map]at hx
 obtain⟨j,hj,rfl⟩:=Option.map_eq_some_iff.mp hx
 obtain⟨hlt,e⟩:=List.getElem?_eq_some_iff.mp hj
 rw[List.getElem_range]at e
 subst e
 obtain⟨t,rfl⟩:=h2 i u (by rw[←Array.getElem?_toList];exact hu)
 exact⟨t,by congr 1;omega⟩
noncomputable def a8g:List V->Hp->VK->Prop:=λxs H Q=>∃(p:Addr) (i j:Int),xs=[.ref p]∧H p=some (.rng i j) ∧ -(2 ^ 62)≤i∧i<2 ^ 62 ∧ -(2 ^ 62)≤j∧j<2 ^ 62∧(j-i).toNat≤1000∧∀l,H l=none->Q (.ref l) (upd H l (.lst ((List.range (j-i).toNat).map λ(k:Nat)=>V.int (i+(k:Int)))))
theorem R1 (hc:X.calm=true):A3 X (.type "list") a8g:=by
 intro pins s σ H xs us Q I r h
 obtain⟨p,i,j,rfl,hp,i0,i1,j0,j1,hz,q⟩:=h
 obtain⟨u,rfl,ru⟩:=U5 r
 cases ru
 obtain⟨t,u,v,hr⟩:=(show K2 X.prog X.w H s.heap p (.rng i j) from I.hok p _ hp)
 have hn:Builtin.Range.rangeSize i j 1=((j-i).toNat:Int):=by rw[rangeSize_one];split <;> omega
 refine call_list_range (n:=(j-i).toNat) (I.ok.hd hc) hr (small_one (by omega) (by omega) (by omega) (by omega)) hn (by omega) λh' tk acc c' hk hS hit=>?_
 have I1:Inv X pins σ (upd H s.heap.objs.size (.lst ((List.range (j-i).toNat).map λ(k:Nat)=>V.int (i+(k:Int))))) { s with heap:=h',toks:=tk } :=
  I.laid (a:=s.heap.objs.size) hk (Nat.le_refl _) ⟨by rw[List.length_map,List.length_range];exact Nat.le_of_lt (a0i (by omega)),acc.toList,c',a5N hit,by rw[hS]⟩
 exact⟨.ref s.heap.objs.size,_,I1,rfl,q _ (I.hok.fresh (Nat.le_refl _))⟩
theorem a1e {H:Hp}{lo:Int}:∀{ns:List Nat},a6 K H (ns.map λ(i:Nat)=>PyData.int (lo+i)) (ns.map λ(k:Nat)=>V.int (lo+(k:Int)))
 | []=>a6.nil
 | n::r=>⟨_,_,rfl,b7.int,a1e (ns:=r)⟩
noncomputable def a0o (a:DE->M (List PyData)):DE->M PyData:=λE F=>(a E F).bind λp=>(Q2 p.1).bind λds=>if ds.length≤1000 then some (.list ds,p.2) else none
noncomputable def a1m (a:DE->M (List PyData)):DE->M PyData:=λE F=>(a E F).bind λp=>(a2W p.1).bind λds=>if ds.length≤1000 then some (.list ds,p.2) else none
theorem a3d {ta:TA}{ms:DE->M (List PyData)}(h:Ea K X [a] ta ms)(hc:X.calm=true)(hm:X.mg "range" = none)(hml:X.mg "list" = none)(hbt:bootBuiltins "list" = some (.type "list"))(hg:Gl X "range":=by rfl)(hgl:Gl X "list":=by rfl)(hs:starEach [a] X.env=[(false,eval a X.env)]:=by rfl)
  (he:starEach [.Call (.Name "range" p2) [a] [] pos2] X.env=(false,eval (.Call (.Name "range" p2) [a] [] pos2) X.env)::starEach [] X.env:=by rfl) (hpl:(backTo pos (starEach [] X.env)).any (·.1)=false:=by rfl) :
  Ev K X (.Call (.Name "list" p) [.Call (.Name "range" p2) [a] [] pos2] [] pos) (tCB a8g (C6 (b1U ta) V5)) (a0o ms) :=
 ⟨T1 (R1 hc) hgl hml hbt (m8 (a6A hg hm h.pa hs) A1 he) (by decide) (by decide) he hpl,λG B E F σ H Q d F' I e q=>by
  obtain⟨⟨ys,F1⟩,e1,e⟩:=Option.bind_eq_some_iff.mp e
  obtain⟨z,e2,e⟩:=Option.bind_eq_some_iff.mp e
  split at e
  ·rename_i hz
   cases e
   refine h.ok G B E F σ H _ ys F1 I e1 λvs H1 k1 f1 h1=>?_
   unfold Q2 at e2
   split at e2
   ·rename_i j hj
    split at e2
    ·rename_i hc
     cases e2
     have hj:ys=[.int j]:=hj
     subst hj
     simp only[a6]at h1
     obtain⟨x,r,rfl,h2,rfl⟩:=h1
     simp only[b7]at h2
     subst h2
     have hz:(P5 0 j.toNat).length≤1000:=hz
     simp[P5]at hz
     refine⟨j,rfl,λp hp=>⟨p,0,j,rfl,g6,by omega,by omega,hc.1,hc.2,by omega,λl hl=>?_⟩⟩
     have bk1:=v0 I.bk k1 f1
     have bk2:BOk (upd H1 p (.rng 0 j)) B:=λb hb=>by
      obtain⟨o,eo⟩:=bk1 b hb
      exact⟨o,by rw[d8 (j5 eo hp)];exact eo⟩
     rw[Int.sub_zero]
     exact q _ _ ((k1.trans (Kp.upd hp)).trans (Kp.upd hl)) ((f1.same (i4.upd hp)).same (i4.upd hl)) (D8 bk2 hl a1e)
    ·cases e2
   ·cases e2
  ·cases e⟩
theorem a7Y {ta:TA}{ms:DE->M (List PyData)}(h:Ea K X [a,b] ta ms)(hc:X.calm=true)(hm:X.mg "range" = none)(hml:X.mg "list" = none)(hbt:bootBuiltins "list" = some (.type "list"))(hg:Gl X "range":=by rfl)(hgl:Gl X "list":=by rfl)(hs:starEach [a,b] X.env=[(false,eval a X.env),(false,eval b X.env)]:=by rfl)(hs2:starEach [b] X.env=[(false,eval b X.env)]:=by rfl)
  (he:starEach [.Call (.Name "range" p2) [a,b] [] pos2] X.env=(false,eval (.Call (.Name "range" p2) [a,b] [] pos2) X.env)::starEach [] X.env:=by rfl) (hpl:(backTo pos (starEach [] X.env)).any (·.1)=false:=by rfl) :
  Ev K X (.Call (.Name "list" p) [.Call (.Name "range" p2) [a,b] [] pos2] [] pos) (tCB a8g (C6 (a9Q ta) V5)) (a1m ms) :=
 ⟨T1 (R1 hc) hgl hml hbt (m8 (a69 hg hm h.pa hs hs2) A1 he) (by decide) (by decide) he hpl,λG B E F σ H Q d F' I e q=>by
  obtain⟨⟨ys,F1⟩,e1,e⟩:=Option.bind_eq_some_iff.mp e
  obtain⟨z,e2,e⟩:=Option.bind_eq_some_iff.mp e
  split at e
  ·rename_i hz
   cases e
   refine h.ok G B E F σ H _ ys F1 I e1 λvs H1 k1 f1 h1=>?_
   unfold a2W at e2
   split at e2
   ·rename_i i j hj
    split at e2
    ·rename_i hc
     cases e2
     have hj:ys=[.int i,.int j]:=hj
     subst hj
     simp only[a6]at h1
     obtain⟨x,r,rfl,h2,y,r2,rfl,h3,rfl⟩:=h1
     simp only[b7]at h2 h3
     subst h2 h3
     have hz:(P5 i (j-i).toNat).length≤1000:=hz
     simp[P5]at hz
     refine⟨i,j,rfl,λp hp=>⟨p,i,j,rfl,g6,by omega,by omega,by omega,by omega,by omega,λl hl=>?_⟩⟩
     have bk1:=v0 I.bk k1 f1
     have bk2:BOk (upd H1 p (.rng i j)) B:=λb hb=>by
      obtain⟨o,eo⟩:=bk1 b hb
      exact⟨o,by rw[d8 (j5 eo hp)];exact eo⟩
     exact q _ _ ((k1.trans (Kp.upd hp)).trans (Kp.upd hl)) ((f1.same (i4.upd hp)).same (i4.upd hl)) (D8 bk2 hl a1e)
    ·cases e2
   ·cases e2
  ·cases e⟩
end
end L3
namespace L3
open PySem PySem.Spec PyProof.Rows L2
section
variable {prog:Program}{w:World}{A:Around}{E:Value->Shared->Prop}{s:Shared}
end
section
variable {X:Cx}{K:PySem.W.Frag}{p p2 pos pos2:Pos}
end
section
variable {prog:Program}{w:World}{A:Around}{E:Value->Shared->Prop}{s:Shared}
end
section
variable {X:Cx}{K:PySem.W.Frag}{p p2 pos pos2:Pos}
variable [Feeds]
end
end L3
namespace L3
open PySem PySem.Spec PyProof.Rows L2
section
variable {X:Cx}{K:PySem.W.Frag}
noncomputable def a0R:List Int->Int
 | []=>0
 | [x]=>x
 | x::y::r=>max x (a0R (y::r))
theorem a0X:∀{ns:List Int} {n:Int},n∈ns->n≤a0R ns
 | [],n,h=>by cases h
 | [x],n,h=>by simp at h;subst h;exact Int.le_refl _
 | x::y::r,n,h=>by
  rw[a0R]
  rcases List.mem_cons.mp h with rfl | h
  ·omega
  ·have:=a0X (ns:=y::r) h;omega
theorem a3x:∀{ns:List Int},ns≠[]->a0R ns∈ns
 | [],h=>absurd rfl h
 | [x],_=>by simp[a0R]
 | x::y::r,_=>by
  have:=a3x (ns:=y::r) (by simp)
  rw[a0R]
  rcases Int.le_total x (a0R (y::r)) with z | z
  ·rw[Int.max_eq_right z];exact List.mem_cons_of_mem _ this
  ·rw[Int.max_eq_left z];exact List.mem_cons_self
noncomputable def b2u (K:PySem.W.Frag):List V->Hp->VK->Prop:=λxs H Q=>∃(a:Addr) (ns:List Int),xs=[.ref a]∧SqL K H a (ns.map V.int)∧ns≠[]∧Q (.int (a0R ns)) H
theorem a5V (hK:X.K=K)(hc:X.calm=true):A3 X (.builtin "max") (b2u K):=by
 subst hK
 intro pins s σ H xs us Q I r h
 obtain⟨a,ns,rfl,hq,hne,q⟩:=h
 obtain⟨u,rfl,ru⟩:=U5 r
 cases ru
 obtain⟨its,rv,p,hz⟩:=I.list hq
 have hlen:its.length=ns.length:=by rw[←rv.length,List.length_map]
 have hpos:0<ns.length:=List.length_pos_iff.mpr hne
 have hi:=a1U rv
 obtain⟨zs,hzs⟩:=hi.allInts.items
 have hl:s.heap.IsList a (intItems zs):=hzs▸p.isList
 have hsz:zs.size=ns.length:=by
  have:(intItems zs).size=its.length:=by rw[←hzs];simp
  rw[←hlen,←this];simp[intItems]
 have hval:∀(i:Nat) (v:Value),its.toArray[i]? = some v->∃t,v = .int (ns.getD i 0) t:=λi v hv=>by
  have hv:its[i]? = some v:=by simpa using hv
  obtain⟨hi,_⟩:=List.getElem?_eq_some_iff.mp hv
  have hb:(ns.map V.int)[i]? = some (V.int (ns.getD i 0)):=by
   rw[List.getElem?_map,List.getElem?_eq_getElem (by omega)]
   simp[List.getD,List.getElem?_eq_getElem (show i<ns.length by omega)]
  obtain⟨u,hu,ru⟩:=rv.get hb
  rw[hv]at hu
  cases hu
  exact ru
 have hnum:∀i,i<ns.length->numAt zs i=ns.getD i 0:=λi hi=>by
  have hi2:i<its.length:=by omega
  obtain⟨t,e⟩:=hval i its[i] (by simp[hi2])
  have e2:(intItems zs)[i]? = some its[i]:=by rw[←hzs];simp[hi2]
  have:=intItems_at e2
  obtain⟨t2,e3⟩:=this
  rw[e]at e3
  injection e3 with e4 _
  exact e4.symm
 refine max_intList (I.ok.hd hc) hl (by omega) λv h' tk hv hk=>?_
 obtain⟨h1,h2⟩:=argBest_gt (numAt zs) (zs.size-1)
 obtain⟨t,e⟩:=intItems_at hv
 subst e
 generalize argBest (λi j=>decide (numAt zs i > numAt zs j)) (zs.size-1)=j at *
 have hj:j<ns.length:=by omega
 have em:numAt zs j=a0R ns:=by
  rw[hnum j hj]
  refine Int.le_antisymm (a0X (getD_mem hj)) ?_
  obtain⟨i,hi,e⟩:=mem_getD (a3x hne)
  have:=h2 i (by omega)
  rw[hnum i hi,hnum j hj]at this
  rw[←e]
  exact this
 rw[em]
 exact⟨.int (a0R ns),H,I.kept hk,⟨t,rfl⟩,q⟩
noncomputable def a73:List PyData->Option PyData
 | [.list ds]=>(G4 ds).bind λns=>if ns=[] then none else some (.int (a0R ns))
 | _=>none
theorem b1p (hK:X.K=K)(hc:X.calm=true):A3 X (.builtin "max") (rDN K a73):=by
 intro pins s σ H xs us Q I r h
 obtain⟨fp,B,ds,z,bk,h1,hf,q⟩:=h
 unfold a73 at hf
 split at hf <;> try cases hf
 obtain⟨ns,e,hf⟩:=Option.bind_eq_some_iff.mp hf
 split at hf
 ·cases hf
 ·rename_i hne
  cases hf
  cases K4 e
  obtain⟨v,rfl,a,xs,rfl,ha,hd⟩:=a2C h1 rfl
  cases a2K hd
  exact a5V hK hc pins s σ H _ us Q I r ⟨a,ns,rfl,SqL.of (d4 _ _ ha),hne,q _ H (i4.refl H) b7.int⟩
variable {mg:Str->Option Value}
end
section
variable [Feeds]{X:Cx}{K:PySem.W.Frag}
noncomputable def a5Z (i:Nat)(m:DE->M Out):DE->M Out:=λE F=>(Q0 E i).bind λds=>m (E.set i (some (.dat (.list ds)))) F
theorem b1P {i:Nat}{ts:TS}{m:DE->M Out}(h:TSd K ts m):TSd K ts (a5Z i m):=λG B0 H0 E F σ H D r F' S e q=>by
 obtain⟨ds,e4,e⟩:=Option.bind_eq_some_iff.mp e
 obtain⟨B,s,sn,I⟩:=S.ex
 have eo:=O8 e4
 have hil:i<E.length:=(List.getElem?_eq_some_iff.mp eo).1
 obtain⟨w,w1,a,xs,rfl,hB,hf,hx,hdx⟩:=I.loc i _ eo
 have ha:=S.own i ds a eo w1
 have sub:∀b∈B.filter (λb=>decide (b≠a)),b∈B:=λb hb=>(List.mem_filter.mp hb).1
 have inB:∀b∈B,b≠a->b∈B.filter (λb=>decide (b≠a)):=λb hb hn=>List.mem_filter.mpr ⟨hb,decide_eq_true hn⟩
 have ng:a ∉ B.filter (λb=>decide (b≠a)):=λhb=>absurd rfl (of_decide_eq_true (List.mem_filter.mp hb).2)
 have sm:i4 (hid H B) (hid H (B.filter (λb=>decide (b≠a)))):=N8 sub
 have get:∀j,j≠i->(E.set i (some (.dat (.list ds))))[j]? = E[j]?:=λj hj=>by rw[List.getElem?_set_ne (Ne.symm hj)]
 have geti:(E.set i (some (.dat (.list ds))))[i]? = some (some (.dat (.list ds))):=by rw[List.getElem?_set_self hil]
 refine h G B0 H0 (E.set i (some (.dat (.list ds)))) F σ H D r F' ⟨⟨_,λb hb=>inB b (s b hb) λz=>ha.2 (z▸hb),λb hb=>sn b (sub b hb),⟨I.fd,λb hb=>inB b (I.fB b hb) λz=>hf (z▸hb),λb hb=>I.bk b (sub b hb),by rw[List.length_set];exact I.ln,λj x ej=>?_⟩⟩,S.fB,S.kp,λj es b ej=>?_,λj k es fs b ej ek=>?_⟩ e q
 ·by_cases hj:j=i
  ·subst hj
   rw[geti]at ej
   cases ej
   refine⟨_,w1,b7.lst (by rw[j8 ng];exact hx) (hdx.same sm)⟩
  ·rw[get j hj]at ej
   obtain⟨v,v1,hv⟩:=I.loc j x ej
   refine⟨v,v1,?_⟩
   cases x with
   | dat d=>exact b7.same (hv:b7 _ _ _ _) sm
   | feed=>exact hv
   | own es =>
    obtain⟨b,ys,e1,hb1,hb2,hb3,hb4⟩:=hv
    subst e1
    exact⟨b,ys,rfl,inB b hb1 λz=>hj (S.inj j i es ds a ej eo (z▸v1) w1),hb2,hb3,hb4.same sm⟩
 ·by_cases hj:j=i
  ·subst hj;rw[geti]at ej;cases ej
  ·rw[get j hj]at ej;exact S.own j es b ej
 ·by_cases hj:j=i
  ·subst hj;rw[geti]at ej;cases ej
  ·by_cases hk:k=i
   ·subst hk;rw[geti]at ek;cases ek
   ·rw[get j hj]at ej;rw[get k hk]at ek;exact S.inj j k es fs b ej ek
theorem b0q (i:Nat){st:Stmt}{ts:TS}{m:DE->M Out}(h:Ss K X st ts m):Ss K X st ts (a5Z i m):=⟨h.ps,b1P h.ok⟩
end
end L3
namespace L3
open PySem PySem.Spec PyProof.Rows L2
section
variable {X:Cx}
end
section
variable [Feeds]{X:Cx}{K:PySem.W.Frag}{e:Expr}{te:TE}{m:DE->M PyData}{pos pos':Pos}
end
end L3
namespace L3
open PySem PySem.Spec PyProof.Rows L2
section
variable {prog:Program}{w:World}{A:Around}{E:Value->Shared->Prop}{s:Shared}
end
section
variable [Feeds]{K:PySem.W.Frag}{X:Cx}{pos:Pos}
end
end L3
namespace L3
open PySem PySem.Spec PyProof.Rows L2
section
variable [Feeds]{X:Cx}{K:PySem.W.Frag}{e:Expr}{te:TE}{m:DE->M PyData}{pos:Pos}
end
end L3
namespace L3
open PySem PySem.Spec PyProof.Rows L2
section
variable [Feeds]{X:Cx}{K:PySem.W.Frag}{e:Expr}{te:TE}{m:DE->M PyData}{pos p2:Pos}
end
end L3
namespace L3
open PySem PySem.Spec PyProof.Rows L2
theorem len_1 {us:List Value}(h:us.length=1):∃a,us=[a]:=List.length_eq_one_iff.mp h
theorem a9H {us:List Value}{n:Nat}(h:us.length=n+1):∃a r,us=a::r∧r.length=n:=by
 cases us with
 | nil=>cases h
 | cons a r=>exact⟨a,r,rfl,Nat.succ.inj h⟩
theorem len_2 {us:List Value}(h:us.length=2):∃a b,us=[a,b]:=by
 obtain⟨a,r,rfl,h2⟩:=a9H h
 obtain⟨b,rfl⟩:=len_1 h2
 exact⟨a,b,rfl⟩
theorem len_3 {us:List Value}(h:us.length=3):∃a b c,us=[a,b,c]:=by
 obtain⟨a,r,rfl,h2⟩:=a9H h
 obtain⟨b,c,rfl⟩:=len_2 h2
 exact⟨a,b,c,rfl⟩
section
variable {K:PySem.W.Frag}{H:Hp}{B A:List Addr}
end
section
variable [Feeds]
variable {K:PySem.W.Frag}{X:Cx}{e:Expr}{es:List Expr}{te:TE}{m:DE->M PyData}{tl:TA}{ms:DE->M (List DV)}{pos p:Pos}
end
end L3
namespace L3
open PySem PySem.Spec PyProof.Rows L2
noncomputable def b0s?:PyData->Option Int
 | .int i=>some i
 | _=>none
noncomputable def a7U?:PyData->Option Int
 | .bool b=>some (if b then 1 else 0)
 | _=>none
noncomputable def a0G (ks:List PyData):Option (List Int):=match ks.mapM b0s? with
 | some r=>some r
 | none=>ks.mapM a7U?
noncomputable def vOf:PyData->V
 | .int i=>.int i
 | .bool b=>.bl b
 | _=>.non
theorem a3y:∀{ks:List PyData} {ns:List Int},ks.mapM b0s? = some ns->ks=ns.map .int
 | [],ns,h=>by simp at h;subst h;rfl
 | k::ks,ns,h=>by
  rw[List.mapM_cons]at h
  obtain⟨a,e1,h⟩:=Option.bind_eq_some_iff.mp h
  obtain⟨r,e2,h⟩:=Option.bind_eq_some_iff.mp h
  cases h
  rw[a3y e2]
  cases k <;> cases e1
  rfl
theorem a26:∀{ks:List PyData} {ns:List Int},ks.mapM a7U? = some ns->∃bs:List Bool,ks=bs.map .bool∧ns=bs.map λb=>if b then 1 else 0
 | [],ns,h=>by simp at h;subst h;exact⟨[],rfl,rfl⟩
 | k::ks,ns,h=>by
  rw[List.mapM_cons]at h
  obtain⟨a,e1,h⟩:=Option.bind_eq_some_iff.mp h
  obtain⟨r,e2,h⟩:=Option.bind_eq_some_iff.mp h
  cases h
  obtain⟨bs,rfl,rfl⟩:=a26 e2
  cases k with
  | bool b=>cases e1;exact⟨b::bs,rfl,rfl⟩
  | _=>cases e1
theorem a7k {ks:List PyData}{ns:List Int}(h:a0G ks=some ns):a0I (ks.map vOf)∧(ks.map vOf).map a1Y=ns∧∀k∈ks,∀(K:PySem.W.Frag) (H:Hp) (v:V),b7 K H k v->v=vOf k:=by
 unfold a0G at h
 split at h
 ·rename_i r e
  cases h
  rw[a3y e]
  refine⟨.inl λk hk=>?_,?_,λk hk K H v hv=>?_⟩
  ·simp only[List.map_map,List.mem_map]at hk
   obtain⟨n,_,rfl⟩:=hk
   exact⟨n,rfl⟩
  ·rw[List.map_map,List.map_map]
   exact(List.map_congr_left λn _=>rfl).trans (List.map_id _)
  ·obtain⟨n,_,rfl⟩:=List.mem_map.mp hk
   simp only[b7]at hv;exact hv
 ·obtain⟨bs,rfl,rfl⟩:=a26 h
  refine⟨.inr λk hk=>?_,?_,λk hk K H v hv=>?_⟩
  ·simp only[List.map_map,List.mem_map]at hk
   obtain⟨n,_,rfl⟩:=hk
   exact⟨n,rfl⟩
  ·rw[List.map_map,List.map_map]
   exact List.map_congr_left λn _=>rfl
  ·obtain⟨n,_,rfl⟩:=List.mem_map.mp hk
   simp only[b7]at hv;exact hv
inductive Al (K:PySem.W.Frag) (H:Hp):List (Int×PyData)->List (Int×V)->Prop
 | nil:Al K H [] []
 | cons {k:Int} {d:PyData} {v:V} {l m}:b7 K H d v->Al K H l m->Al K H ((k,d)::l) ((k,v)::m)
theorem Al.ins {K:PySem.W.Frag}{H:Hp}{k:Int}{d:PyData}{v:V}(h:b7 K H d v):∀{l m},Al K H l m->Al K H (N9 (k,d) l) (N9 (k,v) m)
 | _,_,.nil=>.cons h .nil
 | _,_,.cons (k:=k') h' r=>by
  simp only[N9]
  split
  ·exact .cons h (.cons h' r)
  ·exact .cons h' (Al.ins h r)
theorem Al.sort {K:PySem.W.Frag}{H:Hp}:∀{l m},Al K H l m->Al K H (r6 l) (r6 m)
 | _,_,.nil=>.nil
 | _,_,.cons h r=>Al.ins h r.sort
theorem Al.dats {K:PySem.W.Frag}{H:Hp}:∀{l m},Al K H l m->a6 K H (l.map Prod.snd) (m.map Prod.snd)
 | _,_,.nil=>a6.nil
 | _,_,.cons h r=>a6.cons h r.dats
theorem a4L {K:PySem.W.Frag}{H:Hp}:∀{ns:List Int} {ds:List PyData} {xs:List V},a6 K H ds xs->Al K H (ns.zip ds) (ns.zip xs)
 | [],_,_,_=>.nil
 | n::ns,[],xs,h=>by
  have e:xs=[]:=List.length_eq_zero_iff.mp (by rw[h.length];rfl)
  subst e;exact .nil
 | n::ns,d::ds,xs,h=>by
  cases xs with
  | nil=>have:=h.length;simp at this
  | cons x xs =>
   simp only[a6]at h
   obtain⟨y,ys,e,h1,h2⟩:=h
   cases e
   exact .cons h1 (a4L h2)
section
variable [Feeds]{K:PySem.W.Frag}{X:Cx}
structure LamB (K:PySem.W.Frag) (mg:Str->Option Value) (base:Heap) (x:Str) (fd:FuncData) (c P:Addr):Prop where
 mem:(x,c,P)∈tabsK Feeds.lam K
 code:fd.code = .ref c
 hd:PySem.W.CodeHd base c P
 bm:BMd base mg
 nd:(tabP K).Nodup
noncomputable def a0A (me:DE->M PyData)(E0:DE):List PyData->M (List PyData)
 | []=>λF=>some ([],F)
 | d::r=>λF=>(me (some (.dat d)::E0) F).bind λp=>(a0A me E0 r p.2).bind λq=>some (p.1::q.1,q.2)
noncomputable def sSK (ma:DE->M (List PyData))(cap:List Nat)(me:DE->M PyData):DE->M PyData:=λE F=>(ma E F).bind λp=>match p.1 with
 | [.list ds]=>if ds.length<64 then(a0A me (cap.map λj=>(E[j]?).join) ds p.2).bind λq=>(a0G q.1).bind λns=>some (.list ((r6 (ns.zip ds)).map Prod.snd),q.2) else none
 | _=>none
theorem a02 {me:DE->M PyData}{E0:DE}:∀{ds:List PyData} {F:FS} {ks:List PyData} {F':FS},a0A me E0 ds F=some (ks,F')->ks.length=ds.length
 | [],F,ks,F',h=>by cases h;rfl
 | d::r,F,ks,F',h=>by
  obtain⟨p,_,h⟩:=Option.bind_eq_some_iff.mp h
  obtain⟨q,e,h⟩:=Option.bind_eq_some_iff.mp h
  cases h
  simp[a02 (F:=p.2) (ks:=q.1) (F':=q.2) e]
theorem U4 {α β:Type}{f:α->β}:∀{l:List α},(l.map f).Nodup->∀{a b},a∈l->b∈l->f a=f b->a=b
 | [],_,_,_,h,_,_=>by simp at h
 | x::l,h,a,b,ha,hb,e=>by
  rw[List.map_cons,List.nodup_cons]at h
  rcases List.mem_cons.mp ha with e1 | ha1
  ·rcases List.mem_cons.mp hb with e2 | hb1
   ·rw[e1,e2]
   ·exact absurd (by rw[←e1,e];exact List.mem_map_of_mem hb1) h.1
  ·rcases List.mem_cons.mp hb with e2 | hb1
   ·exact absurd (by rw[←e2,←e];exact List.mem_map_of_mem ha1) h.1
   ·exact U4 h.2 ha1 hb1 e
theorem a90 {G:GF}{H H2:Hp}{F:FS}{x:Str}{c P:Addr}(hm:(x,c,P)∈tabsK Feeds.lam K)(nd:(tabP K).Nodup)(f:FAt K G H F)(g:b0k P (a3K x) H H2)(hT:a2e H2 P (a3K x)):Kp (k9 K G) H H2∧FAt K G H2 F:=by
 rcases g with rfl | ⟨ps,more,c',hP,hc',hcP,rfl⟩
 ·exact⟨Kp.refl,f⟩
 ·have hPf:P∈tabP K:=List.mem_map_of_mem (f:=λt:Str×Addr×Addr=>t.2.2) hm
  have stay:∀b o,H b=some o->b≠P->upd (upd H P (.tbl (ps++more))) c' (cdO c' (a3K x)) b=some o:=λb o e hb=>by
   rw[d8 (j5 e hc'),d8 hb];exact e
  have ne:∀{b o},H b=some o->NoT o->b≠P:=λ{b o} e h z=>by
   rw[z,hP]at e
   exact h.1 _ (Option.some.inj e).symm
  refine⟨λb o e hb=>stay b o e λz=>hb (z▸a6X hPf),?_,λt ht=>?_⟩
  ·cases G with
   | none=>trivial
   | some p =>
    obtain⟨d,c0⟩:=p
    obtain⟨o1,a1,b1⟩:=Feeds.some1 f.1
    obtain⟨o2,a2,b2⟩:=Feeds.some2 f.1
    exact Feeds.congr f.1 (by rw[a1];exact stay _ _ a1 (ne a1 b1)) (by rw[a2];exact stay _ _ a2 (ne a2 b2))
  ·by_cases htP:t.2.2=P
   ·have e:t=(x,c,P):=U4 (f:=λt:Str×Addr×Addr=>t.2.2) nd ht hm htP
    rw[e];exact hT
   ·obtain⟨qs,h1,h2,h3⟩:=f.2 t ht
    refine⟨qs,stay _ _ h1 htP,h2,λpos cv q=>?_⟩
    obtain⟨c2,r1,r2⟩:=h3 pos cv q
    exact⟨c2,r1,stay _ _ r2 λz=>by rw[z,hP]at r2;cases r2⟩
theorem a6L {G:GF}{H:Hp}{F:FS}{c:Addr}{q:Str}(f:FAt K G H F)(h:H c=some (cdO c q)):c ∉ k9 K G:=λz=>by
 have tb:c∈tabP K->False:=λz=>by
  obtain⟨t,ht,e⟩:=List.mem_map.mp z
  obtain⟨ps,h1,_⟩:=f.2 t ht
  rw[e,h]at h1;cases h1
 cases G with
 | none=>exact tb z
 | some p =>
  obtain⟨d,c0⟩:=p
  simp only[k9,List.mem_cons]at z
  rcases z with rfl | rfl | z
  ·obtain⟨o,e,hn⟩:=Feeds.some1 f.1
   rw[h]at e;exact hn.2 _ (Option.some.inj e).symm
  ·obtain⟨o,e,hn⟩:=Feeds.some2 f.1
   rw[h]at e;exact hn.2 _ (Option.some.inj e).symm
  ·exact tb z
theorem SitE.lamS {G:GF}{B:List Addr}{E:DE}{F F':FS}{σ:St}{H H':Hp}{d:PyData}{v:V}(I:SitE K G B E F σ H)(k:Kp (k9 K G) H H')(f:FAt K G H' F')(h:b7 K (hid H' B) d v)(cap:List Nat) :
  SitE K G B (some (.dat d)::cap.map λj=>(E[j]?).join) F' (V4 v cap σ) H':=by
 have J:=(I.step k f).cap 0 cap
 refine⟨f,I.fB,J.bk,by simp[V4],λi x e=>?_⟩
 cases i with
 | zero =>
  have e:some (some (DV.dat d))=some (some x):=e
  cases e
  exact⟨v,rfl,h⟩
 | succ i=>exact J.loc i x e
theorem a76 {e:Expr}{params:Arguments}{body:Expr}{scope osc:Scope}{p pos lpos kp:Pos}{c P:Addr}{x y:Str}{N:List Str}{cap:List Nat}{ta:TA}{ma:DE->M (List PyData)}{te:TE}{me:DE->M PyData}{k:Nat}{fd:FuncData}
  (LB:LamB K X.mg X.base x fd c P) (hK:X.K=K) (hm:X.mg "sorted" = none) (hr:Room k X.A) (hc:X.calm=true) (ha:Ea K X [e] ta ma) (hosc:X.env.scope=osc) (L:LamOk X.N osc y N cap scope)
  (hcode:X.env.code = .ref c) (hq:X.env.qual ++ "<lambda>" = a3K x)
  (hE:∀cl f c' Y s H,Ev K (cxL X N (a3K x) scope cl f c' Y s H) body te me)
  (hdef:defaultsOf params X.env=([],[]):=by rfl)
  (hbind:∀(cl:List (Str×Addr)) (pm:Value) (c':Addr) (ctv u:Value),bindArgs (PySem.W.kla_fn "<lambda>" (a3K x) params body scope cl pm (.ref c') ctv) ⟨[u],[]⟩=pure [(y,u)]:=by intros;rfl)
  (hg:Gl X "sorted":=by rfl) (hs:starEach [e] X.env=[(false,eval e X.env)]:=by rfl) :
  Ev K X (.Call (.Name "sorted" p) [e] [⟨some "key",.Lambda params body scope lpos,kp⟩] pos) (tSK K P (a3K x) cap ta te) (sSK ma cap me):=by
 subst hK
 refine⟨b2f hg hm hr hc ha.pa hdef hosc L hcode LB.hd LB.bm hq hbind (λcl f c' Y s H=>(hE cl f c' Y s H).pe) hs,λG B E F σ H Q d F' I e q=>?_⟩
 obtain⟨⟨as,F1⟩,e1,e⟩:=Option.bind_eq_some_iff.mp e
 refine ha.ok G B E F σ H _ as F1 I e1 λvs H1 k1 f1 h1=>?_
 dsimp only at e
 split at e
 case h_2=>cases e
 rename_i ds
 split at e
 case isFalse=>cases e
 rename_i h64
 obtain⟨⟨kds,F2⟩,e2,e⟩:=Option.bind_eq_some_iff.mp e
 obtain⟨ns,e3,e⟩:=Option.bind_eq_some_iff.mp e
 cases e
 obtain⟨hko,hnum,hv⟩:=a7k e3
 obtain⟨l,xs,rfl,hl,hd⟩:∃l xs,vs=[.ref l]∧hid H1 B l=some (.lst xs)∧a6 X.K (hid H1 B) ds xs:=by
  simp only[a6]at h1
  obtain⟨v,r,rfl,h2,rfl⟩:=h1
  simp only[b7]at h2
  obtain⟨l,xs,rfl,h3,h4⟩:=h2
  exact⟨l,xs,rfl,h3,h4⟩
 have xl:=hd.length
 refine⟨l,xs,rfl,SqL.of (d4 _ _ hl),by omega,f1.2 _ LB.mem,λH2 gr hT2 c' hc'=>?_⟩
 obtain⟨k2,f2⟩:=a90 LB.mem LB.nd f1 gr hT2
 have hlB:l ∉ k9 X.K G:=λz=>by
  rw[A4 (I.fB l z)]at hl;cases hl
 refine⟨λi H'=>∃Fi rest,Kp (k9 X.K G) H2 H'∧FAt X.K G H' Fi∧a0A me (cap.map λj=>(E[j]?).join) (ds.drop i) Fi=some (rest,F2)∧kds.drop i=rest,kds.map vOf,by rw[List.length_map,a02 e2,xl],hko,
  SqL.of (k2 l _ (d4 _ _ hl) hlB),⟨F1,kds,Kp.refl,f2,e2,rfl⟩,λi H' ⟨Fi,rest,a1,a2,_⟩=>a1 _ _ hc' (a6L f2 hc'),λi v H' hx ⟨Fi,rest,a1,a2,a3,a4⟩=>?_,λa H' ys ⟨Fi,rest,a1,a2,a3,a4⟩ Ha o=>?_⟩
 ·have hd':=hd.same ((k2.trans a1).hid I.fB)
  obtain⟨dd,hdd,hdv⟩:=hd'.get hx
  have edr:ds.drop i=dd::ds.drop (i+1):=by
   have hi:=(List.getElem?_eq_some_iff.mp hdd)
   obtain⟨hi,e⟩:=hi
   rw[List.drop_eq_getElem_cons hi,e]
  rw[edr]at a3
  obtain⟨⟨kk,Fk⟩,g1,g⟩:=Option.bind_eq_some_iff.mp a3
  obtain⟨⟨kr,Fr'⟩,g2,g⟩:=Option.bind_eq_some_iff.mp g
  cases g
  have hki:kds[i]? = some kk:=by
   have:=congrArg (λl=>l[0]?) a4
   simpa using this
  refine(hE [] 0 0 X.A X.s₀ H').ok G B _ Fi _ H' _ kk Fk (I.lamS ((k1.trans k2).trans a1) a2 hdv cap) g1 λw H3 k3 f3 h3=>?_
  refine⟨?_,Fk,kr,a1.trans k3,f3,g2,?_⟩
  ·rw[List.getElem?_map,hki,hv kk (List.mem_of_getElem? hki) _ _ _ h3];rfl
  ·have:=congrArg List.tail a4
   simpa using this
 ·have hend:a0A me (cap.map λj=>(E[j]?).join) (ds.drop xs.length) Fi=some ([],Fi):=by rw[xl,List.drop_length];rfl
  rw[hend]at a3
  cases a3
  have ey:=a3F o (by rw[List.length_map,a02 e2,xl])
  rw[hnum]at ey
  subst ey
  have bk':=v0 I.bk ((k1.trans k2).trans a1) a2
  have hdz:=(a4L (ns:=ns) (hd.same ((k2.trans a1).hid I.fB))).sort.dats
  exact q _ _ (((k1.trans k2).trans a1).trans (Kp.upd Ha)) (a2.same (i4.upd Ha)) (D8 bk' Ha hdz)
end
end L3
namespace L3
open PySem PySem.Spec PyProof.Rows L2
noncomputable def a4M (p:Int):List Int->List Int
 | []=>[p]
 | q::r=>if p≤q then p::q::r else q::a4M p r
noncomputable def a3H:List Int->List Int
 | []=>[]
 | p::r=>a4M p (a3H r)
theorem a0a (p:Int):∀l:List Int,(a4M p l).Perm (p::l)
 | []=>.refl _
 | q::r=>by
  rw[a4M]
  split
  ·exact .refl _
  ·exact((a0a p r).cons q).trans (.swap p q r)
theorem V6:∀l:List Int,(a3H l).Perm l
 | []=>.refl _
 | p::r=>(a0a p _).trans ((V6 r).cons p)
theorem a5j {p:Int}:∀{l:List Int},l.Pairwise (· ≤ ·)->(a4M p l).Pairwise (· ≤ ·)
 | [],_=>by simp[a4M]
 | q::r,h=>by
  rw[List.pairwise_cons]at h
  rw[a4M]
  split
  ·rename_i hle
   refine List.pairwise_cons.mpr ⟨λz hz=>?_,List.pairwise_cons.mpr h⟩
   rcases List.mem_cons.mp hz with rfl | hz
   ·exact hle
   ·have:=h.1 z hz;omega
  ·rename_i hgt
   refine List.pairwise_cons.mpr ⟨λz hz=>?_,a5j h.2⟩
   rcases List.mem_cons.mp ((a0a p r).mem_iff.mp hz) with rfl | hz
   ·omega
   ·exact h.1 z hz
theorem a1b:∀l:List Int,(a3H l).Pairwise (· ≤ ·)
 | []=>.nil
 | p::r=>a5j (a1b r)
theorem a05:∀{l₁ l₂:List Int},l₁.Perm l₂->l₁.Pairwise (· ≤ ·)->l₂.Pairwise (· ≤ ·)->l₁=l₂
 | [],l₂,p,_,_=>p.nil_eq
 | a::r,[],p,_,_=>by have:=p.length_eq;simp at this
 | a::r,b::t,p,h1,h2=>by
  rw[List.pairwise_cons]at h1 h2
  have ab:a=b:=by
   rcases List.mem_cons.mp (p.mem_iff.mp (List.mem_cons_self (a:=a) (l:=r))) with e | e
   ·exact e
   ·rcases List.mem_cons.mp (p.mem_iff.mpr (List.mem_cons_self (a:=b) (l:=t))) with e2 | e2
    ·exact e2.symm
    ·have q1:=h2.1 a e
     have q2:=h1.1 b e2
     omega
  subst ab
  rw[a05 (p.cons_inv) h1.2 h2.2]
noncomputable def a2U:PyData->Option Int
 | .tuple (.int n::_)=>some n
 | _=>none
noncomputable def P7:List PyData->Option PyData
 | [.list ds]=>match G4 ds with
  | some ns=>if ns.length<64 then some (.list ((a3H ns).map .int)) else none
  | none=>(ds.mapM a2U).bind λns=>if ns.Nodup∧ns.length<64 then some (.list ((r6 (ns.zip ds)).map Prod.snd)) else none
 | _=>none
theorem a5E {K:PySem.W.Frag}{H H':Hp}(s:i4 H H'):∀{ds:List PyData} {ns:List Int} {zs:List V},ds.mapM a2U=some ns->a6 K H ds zs->a3Q K H' ns zs
 | [],ns,zs,e,h=>by
  simp at e;subst e
  exact List.length_eq_zero_iff.mp (by rw[h.length];rfl)
 | d::ds,ns,zs,e,h=>by
  rw[List.mapM_cons]at e
  obtain⟨n,e1,e⟩:=Option.bind_eq_some_iff.mp e
  obtain⟨ns',e2,e⟩:=Option.bind_eq_some_iff.mp e
  cases e
  simp only[a6]at h
  obtain⟨z,zs',rfl,h1,h2⟩:=h
  unfold a2U at e1
  split at e1
  ·cases e1
   obtain⟨t,xs,rfl,hq,hd⟩:=h1.ofTup
   simp only[a6]at hd
   obtain⟨v,r,rfl,hv,_⟩:=hd
   simp only[b7]at hv
   subst hv
   exact⟨t,r,zs',rfl,hq.same s,a5E s e2 h2⟩
  ·cases e1
theorem a42 {α β:Type}{f:α->Option β}:∀{l:List α} {m:List β},l.mapM f=some m->m.length=l.length
 | [],m,e=>by simp at e;subst e;rfl
 | a::l,m,e=>by
  rw[List.mapM_cons]at e
  obtain⟨b,_,e⟩:=Option.bind_eq_some_iff.mp e
  obtain⟨m',e2,e⟩:=Option.bind_eq_some_iff.mp e
  cases e
  simp[a42 e2]
theorem a2f {K:PySem.W.Frag}{H:Hp}:∀ns:List Int,a6 K H (ns.map .int) (ns.map V.int)
 | []=>a6.nil
 | n::ns=>a6.cons b7.int (a2f ns)
section
variable [Feeds]{K:PySem.W.Frag}{X:Cx}
theorem a2t (hK:X.K=K):A3 X (.builtin "sorted") (rDN K P7):=by
 intro pins s σ H xs us Q I r h
 obtain⟨fp,B,ds,z,bk,h1,hf,q⟩:=h
 unfold P7 at hf
 split at hf <;> try cases hf
 split at hf
 ·rename_i ns e
  split at hf
  case isFalse=>cases hf
  rename_i h64
  cases hf
  cases K4 e
  obtain⟨v,rfl,a,xs,rfl,ha,hd⟩:=a2C h1 rfl
  cases a2K hd
  refine a3Z hK pins s σ H _ us Q I r ⟨a,ns,rfl,SqL.of (d4 _ _ ha),h64,λp ns' hp pm pw=>?_⟩
  cases a05 (pm.trans (V6 ns).symm) pw (a1b ns)
  exact q _ _ (i4.upd hp) (D8 bk hp (a2f _))
 ·obtain⟨ns,e,hf⟩:=Option.bind_eq_some_iff.mp hf
  split at hf
  case isFalse=>cases hf
  rename_i hc
  cases hf
  obtain⟨v,rfl,a,xs,rfl,ha,hd⟩:=a2C h1 rfl
  refine a4H hK pins s σ H _ us Q I r ⟨a,xs,ns,rfl,SqL.of (d4 _ _ ha),a5E d4 e hd,hc.1,hc.2,λp ys hp o=>?_⟩
  have ey:=a3F o (by rw[List.length_map,a42 e,hd.length])
  rw[List.map_map,show(a1Y ∘ V.int)=id from rfl,List.map_id]at ey
  subst ey
  exact q _ _ (i4.upd hp) (D8 bk hp (a4L (ns:=ns) hd).sort.dats)
end
end L3
namespace L2
open PySem PySem.Spec PyProof.Rows
section
variable {P:Program}{w:World}{K:PySem.W.Frag}{mg:Str->Option Value}{base:Heap}
theorem Fun.okC {x qual:Str}{st:Stmt}{f:Addr}{fd:FuncData}{N ps:List Str}{k:Nat}{sp:Sp}(F:Fun K x qual st f fd)(S:FnScope N ps (defScope st))(len:∀vs H Q E,sp vs H Q E->vs.length=ps.length)
  (hbody:∀(cdv:Value) (A:Around) (outer:List Env) (s:Shared) (H:Hp) (vs:List V) (Q:VK) (E:XK),fd.code=cdv->Room k (A.deeper (envOfC qual (defScope st) s.heap.objs.size f cdv))->sp vs H Q E ->
   ∃t,PSs (J3 CX0 P w K mg base N qual (defScope st) f cdv A outer s H E).nox (defBody st) t∧t { nx:=λ_ H'=>Q .non H',rt:=Q } (K0 N vs) H):FnOk P w K mg base CX0 (k+1) f fd ps sp:=by
 obtain⟨oc,od,kV,doc,pm,an,cdv,ct,osl,rfl,lk,hcd⟩:=F.ex
 refine a9T lk hcd S len λA outer s H vs Q E hr hsp=>?_
 obtain⟨t,h,q⟩:=hbody cdv A outer s H vs Q E rfl hr hsp
 exact⟨t,h.nox,q⟩
end
end L2
namespace L3
open PySem PySem.Spec PyProof.Rows L2
section
variable [Feeds]{P:Program}{w:World}{K:PySem.W.Frag}{mg:Str->Option Value}{base:Heap}
theorem a5a {x qual:Str}{st:Stmt}{f:Addr}{fd:FuncData}{N ps:List Str}{k:Nat}{m:DE->M Out}(Fn:Fun K x qual st f fd)(S:FnScope N ps (defScope st))
  (hbody:∀(cdv:Value) (A:Around) (outer:List Env) (s:Shared) (H:Hp) (E:XK),fd.code=cdv->Room k (A.deeper (envOfC qual (defScope st) s.heap.objs.size f cdv)) ->
   ∃ts,Sss K (J3 CX0 P w K mg base N qual (defScope st) f cdv A outer s H E).nox (defBody st) ts m):FnOk P w K mg base CX0 (k+1) f fd ps (spD K ps.length (B9 N m)):=by
 refine Fn.okC S (λvs H Q E h=>?_) (λcdv A outer s H vs Q E hcd hr h=>?_)
 ·obtain⟨G,B,F,args,d,F',hl,_⟩:=h
  exact hl
 ·obtain⟨G,B,F,args,d,F',hl,fB,bk,fa,ha,hm,q⟩:=h
  obtain⟨ts,hts⟩:=hbody cdv A outer s H E hcd hr
  refine⟨ts,hts.ps,?_⟩
  obtain⟨⟨o,F1⟩,e1,e⟩:=Option.bind_eq_some_iff.mp hm
  refine hts.ok G B H (v6 N args) F (L2.K0 N vs) H _ o F1 (a2s fB bk fa ha) e1 ?_
  cases o with
  | rt d'=>cases e;exact λv H' k1 f1 h1=>q v H' k1 f1 h1
  | nx E'=>cases e;exact λσ' H' S'=>q _ H' S'.kp (by obtain⟨B,_,_,I⟩:=S'.ex;exact I.fd) b7.non
  | bk E'=>cases e
  | ct E'=>cases e
end
end L3
namespace L3
open PySem PySem.Spec PyProof.Rows L2
noncomputable abbrev b2D:=List (Str×Addr×Addr)
noncomputable def b1c (ts:b2D)(h:Heap):Prop:=∀t∈ts,PySem.W.CodeHd h t.2.1 t.2.2∧h.get? t.2.2=some (PySem.W.tabObj #[])
theorem a6a {P:Program}{w:World}{K:PySem.W.Frag}{mg mb:Str->Option Value}{CX:CXT}{k:Nat}{fa a:Addr}{fd:FuncData}{x:Str}{sp:Sp}{s₁:Shared}{vs:List Value}{ns:List Int}{ts:b2D}
  (KX:K.In s₁.heap) (hns:s₁.heap.Ns mainGlobals mg) (hb:s₁.heap.Ns builtinsNs mb) (hbb:∀x:Str,x ≠ "__name__"->mb x=bootBuiltins x) (hlim:s₁.heap.NoLimit) (hg:s₁.gens = #[])
  (ha:s₁.heap.get? a=some { cls:=.type "list",data:=.seq vs.toArray }) (hi:IntsAre vs ns) (hl:ns.length≤sizeLine) (hr:Room k callerA)
  (hT:b1c ts s₁.heap) (hnt:PySem.W.noTabs K=true) (BM:BMd s₁.heap mg)
  (F:∀base:Heap,K.In base->base.Ns mainGlobals mg->BMd base mg->(∀t∈ts,PySem.W.CodeHd base t.2.1 t.2.2)->FnOk P w K mg base CX k fa fd [x] sp) (hbind:∀(s:Shared) (u:Value),BindsTo s fd ⟨[u],[]⟩ [(x,u)])
  (hsp:∀H:Hp,SqL K H a (ns.map V.int)->J5 ts H->sp [.ref a] H (λv _=>v = .bl true) λ_ _ _=>False)
  (hCX:∀H e s',CX [] H s₁ (λ_ _ _=>False) e s'->False) :
  codeAny (model P w) callerA (.call (.ref fa) ⟨[.ref a],[]⟩) (λr s'=>r = .ok (.ret (.bool true))∧OldK s₁.heap s'.heap∧s'.os=s₁.os∧AllBare s'.gens) s₁:=by
 have rv:=a0r hi
 have lenV:=hi.length
 have aP:∀t∈ts,t.2.2≠a:=λt ht e=>by
  have:=(hT t ht).2
  rw[e,ha]at this;cases this
 have core:∀H:Hp,(∀b,H b=none∨(b=a∧H b=some (.frz { cls:=.type "list",data:=.seq vs.toArray } (.lst (ns.map V.int))))∨(b∈ts.map (·.2.2)∧H b=some (.tbl #[])))->(∀t∈ts,H t.2.2=some (.tbl #[]))->SqL K H a (ns.map V.int)->(H a≠none->K.lookup a=none) ->
   codeAny (model P w) callerA (.call (.ref fa) ⟨[.ref a],[]⟩) (λr s'=>r = .ok (.ret (.bool true))∧OldK s₁.heap s'.heap∧s'.os=s₁.os∧AllBare s'.gens) s₁:=by
  intro H hO hTH hS hK
  have tabO:∀{b:Addr},b∈ts.map (·.2.2)->s₁.heap.get? b=some (PySem.W.tabObj #[]):=λ{b} hb=>by
   obtain⟨t,ht,rfl⟩:=List.mem_map.mp hb
   exact(hT t ht).2
  have hok:HOk P w H s₁.heap:=λb u e=>by
   rcases hO b with z | ⟨rfl,z⟩ | ⟨hb,z⟩
   ·rw[z]at e;cases e
   ·rw[z]at e;cases e
    exact⟨ha,by rw[List.length_map];exact hl,vs,_,rv,ha⟩
   ·rw[z]at e;cases e
    exact tabO hb
  have base_of:∀{b:Addr} {o:Obj},s₁.heap.get? b=some o->H b=none->(a1P s₁.heap H).get? b=some o:=λe n=>a8j e n
  have other:∀{b:Addr} {o:Obj},s₁.heap.get? b=some o->o≠{ cls:=.type "list",data:=.seq vs.toArray }->o≠PySem.W.tabObj #[]->H b=none:=λ{b o} e h1 h2=>by
   rcases hO b with z | ⟨rfl,z⟩ | ⟨hb,z⟩
   ·exact z
   ·rw[ha]at e;exact absurd (Option.some.inj e).symm h1
   ·rw[tabO hb]at e;exact absurd (Option.some.inj e).symm h2
  have nsK:∀{b:Addr} {m:Str->Option Value},s₁.heap.Ns b m->(a1P s₁.heap H).Ns b m:=λ{b m} ⟨o,es,ep,e,d,r⟩=>⟨o,es,ep,base_of e (other e (λz=>by rw[z]at d;cases d) λz=>by rw[z]at d;cases d),d,r⟩
  have hKb:K.In (a1P s₁.heap H):=λb o e=>base_of (KX b o e) (by
   rcases hO b with z | ⟨rfl,z⟩ | ⟨hb,z⟩
   ·exact z
   ·rw[hK (by rw[z];simp)]at e;cases e
   ·have e2:=KX b o e
    rw[tabO hb]at e2
    cases e2
    have h2:=List.all_eq_true.mp hnt _ (PySem.W.mem_of_lookupK e)
    exact absurd (show false=true from h2) Bool.false_ne_true)
  have hM:Mod K mg (a1P s₁.heap H):=⟨hKb,nsK hns,⟨mb,nsK hb,hbb⟩,let ⟨mc,h1,h2⟩:=hlim;⟨mc,nsK h1,h2⟩⟩
  have hBM:BMd (a1P s₁.heap H) mg:=by
   obtain⟨bm,ob,b1,b2,b3,b4,b5,b6⟩:=BM
   exact⟨bm,ob,b1,b2,base_of b3 (other b3 (λz=>by rw[z]at b4;have b4:Value.type "list" = Value.type "module":=b4;exact absurd b4 (by decide)) λz=>by rw[z]at b4;have b4:Value.none=Value.type "module":=b4;exact absurd b4 (by decide)),b4,b5,b6⟩
  have hCd:∀t∈ts,PySem.W.CodeHd (a1P s₁.heap H) t.2.1 t.2.2:=λt ht=>by
   obtain⟨o,vs',file,tf,flags,tg,inF,text,tt,e1,r1,r2⟩:=(hT t ht).1
   exact⟨o,vs',file,tf,flags,tg,inF,text,tt,base_of e1 (other e1 (λz=>by rw[z]at r1;have r1:Value.type "list" = Value.type "code":=r1;exact absurd r1 (by decide)) λz=>by rw[z]at r1;have r1:Value.none=Value.type "code":=r1;exact absurd r1 (by decide)),r1,r2⟩
  have e0:Env0 P w K mg (a1P s₁.heap H) callerA [] s₁ H:=⟨rfl,hM,λb o e=>a8O e,Nat.le_of_eq (a6b _ _),trivial,λb hb=>absurd (show b∈([]:List Addr) from hb) (by simp),hok,.of_eq hg⟩
  have hTO:J5 ts H:=λt ht=>⟨#[],hTH t ht,trivial,λpos cv e=>by cases e⟩
  refine codeAny_mono ((F _ hKb (nsK hns) hBM hCd).run callerA [] s₁ H ⟨[.ref a],[]⟩ [.ref a] [.ref a] _ _ hr e0 (hbind s₁ (.ref a)) (.cons rfl .nil) (hsp H hS hTO)) λr s' h=>?_
  cases r with
  | error e=>exact(hCX H e s' h).elim
  | ok fl =>
   cases fl with
   | next=>exact False.elim h
   | brk=>exact False.elim h
   | cont=>exact False.elim h
   | ret u =>
    obtain⟨v,H',os,bare,un,hok',r',q⟩:=h
    have q':v = .bl true:=q
    subst q'
    obtain rfl:u=Value.bool true:=r'
    have kept:∀b o,s₁.heap.get? b=some o->H b=none->s'.heap.get? b=some o:=λb o e q=>un.keep b o e q (by intro z;exact absurd (show b∈([]:List Addr) from z) (by simp)) (by simp)
    have scr:∀b o,s₁.heap.get? b=some o->b=a->H b=some (.frz { cls:=.type "list",data:=.seq vs.toArray } (.lst (ns.map V.int)))->s'.heap.get? b=some o:=λb o e hb z=>by
     have z2:=un.frzs b _ _ z
     obtain⟨e1,_⟩:=hok b _ z
     obtain⟨e2,_⟩:=hok' b _ z2
     rw[e]at e1;cases e1
     exact e2
    have tab:∀b,H b=some (.tbl #[])->∃more,s'.heap.get? b=some (PySem.W.tabObj more):=λb z=>by
     obtain⟨more,z2⟩:=un.tbls b _ z
     exact⟨_,hok' b _ z2⟩
    refine⟨rfl,⟨λb o e=>?_,λb o e=>?_⟩,os,bare⟩
    ·rcases hO b with z | ⟨hb,z⟩ | ⟨hb,z⟩
     ·exact .inl (kept b o e z)
     ·exact .inl (scr b o e hb z)
     ·obtain⟨more,e2⟩:=tab b z
      have e3:=tabO hb
      rw[e]at e3;cases e3
      obtain⟨t,ht,rfl⟩:=List.mem_map.mp hb
      refine .inr (.inl ⟨((hT t ht).1.tab (hT t ht).2).isCodeTable,rfl,#[],more,rfl,by rw[Array.empty_append];exact e2⟩)
    ·rcases hO b with z | ⟨hb,z⟩ | ⟨hb,z⟩
     ·exact⟨o,kept b o e z⟩
     ·exact⟨o,scr b o e hb z⟩
     ·obtain⟨more,e2⟩:=tab b z
      exact⟨_,e2⟩
 cases hk:K.lookup a with
 | some o =>
  have e:=KX a o hk
  rw[ha]at e
  cases e
  have haT:a ∉ ts.map (·.2.2):=λz=>by
   obtain⟨t,ht,e⟩:=List.mem_map.mp z
   exact aP t ht e
  refine core (λb=>if b∈ts.map (·.2.2) then some (.tbl #[]) else none) (λb=>?_) (λt ht=>if_pos (List.mem_map_of_mem ht)) (.inr ⟨_,vs.toArray,_,hk,rfl,rfl,rfl,by rw[List.size_toArray,lenV];exact hl,by simpa using rv⟩) λz=>absurd (if_neg haT) z
  by_cases hb:b∈ts.map (·.2.2)
  ·exact .inr (.inr ⟨hb,if_pos hb⟩)
  ·exact .inl (if_neg hb)
 | none =>
  refine core (λb=>if b=a then some (.frz { cls:=.type "list",data:=.seq vs.toArray } (.lst (ns.map V.int))) else if b∈ts.map (·.2.2) then some (.tbl #[]) else none) (λb=>?_) (λt ht=>?_) (.inl (.inr ⟨{ cls:=.type "list",data:=.seq vs.toArray },if_pos rfl⟩)) λ_=>hk
  ·by_cases hb:b=a
   ·exact .inr (.inl ⟨hb,if_pos hb⟩)
   ·by_cases hb2:b∈ts.map (·.2.2)
    ·exact .inr (.inr ⟨hb2,by rw[if_neg hb,if_pos hb2]⟩)
    ·exact .inl (by rw[if_neg hb,if_neg hb2])
  ·rw[if_neg (aP t ht)]
   exact if_pos (List.mem_map_of_mem (f:=λt:Str×Addr×Addr=>t.2.2) ht)
theorem walk_ofT {l:PySem.W.OpenLaw}{n k:Nat}{q:Program}{loose:List Str}{XP:(Str->Option Value)->Heap->Prop}{YP:World->Heap->Prop}{d:DefRec}{K:Params->PySem.W.Frag}{CX:World->CXT}{sp:World->Sp}{x:Str}(lam:List Str)
  (hn:l.most=some n) (hn2:n≤sizeLine) (hdf:d.params.defaults=[]) (hr:Room k callerA)
  (hrec:(lam.all λx=>((recsOf q).find? λe=>e.name == x).isSome)=true) (hnt:∀w:World,PySem.W.noTabs (K w.params)=true)
  (hY:∀(w:World) (h:Heap),YP w h->(K w.params).In h)
  (F:∀(w:World) (mg:Str->Option Value) (fa:Addr) (h:Heap),(K w.params).In h->h.Ns mainGlobals mg->mg d.name=some (.ref fa) ->
   ∃fd:FuncData,(∀(s:Shared) (u:Value),BindsTo s fd ⟨[u],[]⟩ [(x,u)]) ∧
    ∀base:Heap,(K w.params).In base->base.Ns mainGlobals mg->BMd base mg->(∀t∈tabsK lam (K w.params),PySem.W.CodeHd base t.2.1 t.2.2)->FnOk l.prog w (K w.params) mg base (CX w) k fa fd [x] (sp w))
  (hsp:∀(w:World) (H:Hp) (a:Addr) (ns:List Int),ns.length≤n->SqL (K w.params) H a (ns.map V.int)->J5 (tabsK lam (K w.params)) H->sp w [.ref a] H (λv _=>v = .bl true) λ_ _ _=>False)
  (hCX:∀(w:World) (H:Hp) (s:Shared) (e:Value) (s':Shared),CX w [] H s (λ_ _ _=>False) e s'->False) :
  PySem.W.WalkO q loose XP YP l.row.toRowW d [] (λf vs=>PySem.call f vs):=by
 refine Att.attach_call hn hdf λw s₀ s₁ mg mb fa o pm cd doc a vs ns G Y ho hd hcd hmg hobj hints hlen hg=>?_
 have KX:=hY w _ Y
 obtain⟨fd,hb,hF⟩:=F w mg fa _ KX G.T.g hmg
 refine a6a (ts:=tabsK lam (K w.params)) KX G.T.g G.T.b G.T.builtins G.T.nolimit hg hobj hints (Nat.le_trans hlen hn2) hr (λt ht=>?_) (hnt w) G.T.bmain hF hb (λH hS hT=>hsp w H a ns hlen hS hT) λH e s'=>hCX w H s₁ e s'
 obtain⟨x,hx,e⟩:=List.mem_filterMap.mp ht
 obtain⟨⟨c,P⟩,e1,e2⟩:=Option.map_eq_some_iff.mp e
 cases e2
 obtain⟨dr,hdr⟩:=Option.isSome_iff_exists.mp (List.all_eq_true.mp hrec x hx)
 exact PySem.W.tab_of G.T KX hdr e1
theorem lamB_mk [Feeds]{K:PySem.W.Frag}{mg:Str->Option Value}{base:Heap}{x:Str}{f:Addr}{oc:Value}{od:Option Addr}{fd:FuncData}{osl:Array (Option Value)}(ga:PySem.W.nsIn K mainGlobals x=some (some (.ref f)))(gl:K.lookup f=some ⟨oc,od,.func fd,osl⟩)
  (hx:x∈(Feeds.lam:List Str)) (hs:(PySem.W.tabIn K x).isSome=true) (nd:(tabP K).Nodup) (BM:BMd base mg) (hC:∀t∈tabsK Feeds.lam K,PySem.W.CodeHd base t.2.1 t.2.2):∃c P,LamB K mg base x fd c P:=by
 obtain⟨⟨c,P⟩,e⟩:=Option.isSome_iff_exists.mp hs
 have hm:(x,c,P)∈tabsK Feeds.lam K:=List.mem_filterMap.mpr ⟨x,hx,by rw[e];rfl⟩
 refine⟨c,P,hm,?_,hC _ hm,BM,nd⟩
 unfold PySem.W.tabIn at e
 rw[ga]at e
 simp only[gl]at e
 split at e
 ·rename_i c2 hc
  split at e
  ·split at e
   ·cases e;exact hc
   ·cases e
  ·cases e
 ·cases e
end L3
namespace L3
open PySem PySem.Spec PyProof.Rows L2
section
variable [Feeds]{K:PySem.W.Frag}{X:Cx}{e a b c:Expr}{te:TE}{pos:Pos}
noncomputable def a8E (K:PySem.W.Frag)(B:List Addr)(H H':Hp):DV->V->Prop
 | .dat d,v=>b7 K (hid H' B) d v
 | .own ds,v=>∃a vs,v = .ref a∧H a=none∧H' a=some (.lst vs)∧a6 K (hid H' (a::B)) ds vs
 | .feed,_=>False
noncomputable def a21 (B:List Addr):DV->V->List Addr
 | .own _,.ref a=>a::B
 | _,_=>B
noncomputable def TCd (K:PySem.W.Frag)(te:TE)(mc:DE->M DV):Prop:=∀(G:GF) (B:List Addr) (E:DE) (F:FS) (σ:St) (H:Hp) (Q:VK) (dv:DV) (F':FS),SitE K G B E F σ H->mc E F=some (dv,F') ->
 (∀v H',Kp (k9 K G) H H'->FAt K G H' F'->a8E K B H H' dv v->Q v H')->te σ H Q
structure Ec (K:PySem.W.Frag) (X:Cx) (e:Expr) (te:TE) (m:DE->M DV):Prop where
 pe:PE X e te
 ok:TCd K te m
noncomputable def cD (m:DE->M PyData):DE->M DV:=λE F=>(m E F).bind λp=>some (.dat p.1,p.2)
noncomputable def cO (m:DE->M (List PyData)):DE->M DV:=λE F=>(m E F).bind λp=>some (.own p.1,p.2)
theorem b3d {m:DE->M PyData}(h:Ev K X e te m):Ec K X e te (cD m):=⟨h.pe,λG B E F σ H Q dv F' I e q=>by
 obtain⟨⟨d,F1⟩,e1,e⟩:=Option.bind_eq_some_iff.mp e
 cases e
 exact h.ok G B E F σ H _ d F1 I e1 λv H' k f r=>q v H' k f r⟩
theorem a6i {m:DE->M (List PyData)}(h:Ef K X e te m):Ec K X e te (cO m):=⟨h.pe,λG B E F σ H Q dv F' I e q=>by
 obtain⟨⟨d,F1⟩,e1,e⟩:=Option.bind_eq_some_iff.mp e
 cases e
 exact h.ok G B E F σ H _ d F1 I e1 λa vs H' h1 h2 k f r=>q _ H' k f ⟨a,vs,rfl,h1,h2,r⟩⟩
section
variable {G:GF}{B B0:List Addr}{E:DE}{F F1:FS}{σ:St}{H H1 H0:Hp}{dv:DV}{v:V}{i:Nat}
theorem b1l (I:SitE K G B E F σ H)(k1:Kp (k9 K G) H H1)(r:a8E K B H H1 dv v):i4 (hid H B) (hid H1 (a21 B dv v)):=by
 cases dv with
 | dat d=>exact k1.hid I.fB
 | feed=>exact r.elim
 | own ds =>
  obtain⟨a,vs,rfl,hn,ha,h1⟩:=r
  intro b o eb
  by_cases hb:b∈B
  ·rw[A4 hb]at eb;cases eb
  ·rw[j8 hb]at eb
   have hne:=j5 eb hn
   show hid H1 (a::B) b=some o
   rw[j8 (by simp[hne,hb])]
   exact k1 b o eb λz=>hb (I.fB b z)
theorem a1x:∀b∈B,b∈a21 B dv v:=λb hb=>by
 cases dv <;> cases v <;> first | exact hb | exact List.mem_cons_of_mem _ hb
theorem SitE.moreC (I:SitE K G B E F σ H)(k1:Kp (k9 K G) H H1)(f1:FAt K G H1 F1)(r:a8E K B H H1 dv v):SitE K G (a21 B dv v) E F1 σ H1:=by
 have sm:=b1l I k1 r
 refine⟨f1,λb hb=>a1x b (I.fB b hb),λb hb=>?_,I.ln,λj x ej=>?_⟩
 ·have old:b∈B->∃o,H1 b=some o:=λhb=>(I.step k1 f1).bk b hb
  cases dv with
  | dat d=>cases v <;> exact old hb
  | feed=>exact r.elim
  | own ds =>
   obtain⟨a,vs,rfl,hn,ha,h1⟩:=r
   rcases List.mem_cons.mp hb with rfl | hb
   ·exact⟨_,ha⟩
   ·exact old hb
 ·obtain⟨w,v1,v2⟩:=I.loc j x ej
  refine⟨w,v1,?_⟩
  cases x with
  | dat d=>exact b7.same (show b7 K (hid H B) d w from v2) sm
  | feed=>exact v2
  | own es =>
   obtain⟨a',xs',rfl,hB',hf',ha',hd'⟩:=v2
   exact⟨a',xs',rfl,a1x _ hB',hf',k1 _ _ ha' hf',hd'.same sm⟩
theorem Sit.putC (S:Sit K G B0 H0 E F σ H)(s:∀b∈B0,b∈B)(sn:∀b∈B,b∈B0∨H0 b=none)(I:SitE K G B E F σ H)(k1:Kp (k9 K G) H H1)(f1:FAt K G H1 F1)(r:a8E K B H H1 dv v)(hl:i<E.length) :
  Sit K G B0 H0 (E.set i (some dv)) F1 (σ.set i (some v)) H1∧(∀b∈B0,b∈a21 B dv v)∧(∀b∈a21 B dv v,b∈B0∨H0 b=none)∧SitE K G (a21 B dv v) (E.set i (some dv)) F1 (σ.set i (some v)) H1:=by
 have hsl:i < σ.length:=by rw[←I.ln];exact hl
 have s':∀b∈B0,b∈a21 B dv v:=λb hb=>a1x b (s b hb)
 have newB:∀ds,dv = .own ds->∃a vs,v = .ref a∧H1 a=some (.lst vs)∧a6 K (hid H1 (a::B)) ds vs∧a ∉ B∧a ∉ k9 K G∧H0 a=none:=λds e=>by
  subst e
  obtain⟨a,vs,rfl,hn,ha,h1⟩:=r
  have haB:a ∉ B:=I.bk.nin hn
  have haf:a ∉ k9 K G:=λz=>haB (I.fB a z)
  exact⟨a,vs,rfl,ha,h1,haB,haf,S.kp.none hn haf⟩
 have sn':∀b∈a21 B dv v,b∈B0∨H0 b=none:=λb hb=>by
  cases dv with
  | dat d=>cases v <;> exact sn b hb
  | feed=>exact r.elim
  | own ds =>
   obtain⟨a,vs,rfl,ha,h1,haB,haf,h0⟩:=newB ds rfl
   rcases List.mem_cons.mp hb with rfl | hb
   ·exact .inr h0
   ·exact sn b hb
 have IC:=I.moreC k1 f1 r
 have I':SitE K G (a21 B dv v) (E.set i (some dv)) F1 (σ.set i (some v)) H1:=by
  refine⟨IC.fd,IC.fB,IC.bk,by rw[List.length_set,List.length_set];exact I.ln,λj x ej=>?_⟩
  by_cases hj:i=j
  ·subst hj
   rw[List.getElem?_set_self hl]at ej
   cases ej
   refine⟨v,by rw[List.getElem?_set_self hsl],?_⟩
   cases dv with
   | dat d=>cases v <;> exact r
   | feed=>exact r.elim
   | own ds =>
    obtain⟨a,vs,rfl,ha,h1,haB,haf,h0⟩:=newB ds rfl
    exact⟨a,vs,rfl,List.mem_cons_self,haf,ha,h1⟩
  ·rw[List.getElem?_set_ne hj]at ej
   obtain⟨w,v1,v2⟩:=IC.loc j x ej
   exact⟨w,by rw[List.getElem?_set_ne hj];exact v1,v2⟩
 have other:∀(ds:List PyData) (j:Nat) (es:List PyData) (a:Addr),dv = .own ds->v = .ref a->E[j]? = some (some (DV.own es))->σ[j]? ≠ some (some (V.ref a)):=λds j es a e ev ej z=>by
  obtain⟨a1,vs,ev1,ha,h1,haB,haf,h0⟩:=newB ds e
  rw[ev]at ev1;cases ev1
  obtain⟨w,v1,a',xs',rfl,hB',_⟩:=I.loc j _ ej
  rw[v1]at z;cases z
  exact haB hB'
 refine⟨⟨⟨a21 B dv v,s',sn',I'⟩,S.fB,S.kp.trans k1,λj es a' ej sj=>?_,λj k es es' a' ej ek sj sk=>?_⟩,s',sn',I'⟩
 ·by_cases hj:i=j
  ·subst hj
   rw[List.getElem?_set_self hl]at ej
   rw[List.getElem?_set_self hsl]at sj
   have e1:dv = .own es:=Option.some.inj (Option.some.inj ej)
   have e2:v = .ref a':=Option.some.inj (Option.some.inj sj)
   obtain⟨a,vs,ev,ha,h1,haB,haf,h0⟩:=newB es e1
   rw[e2]at ev;cases ev
   exact⟨h0,λz=>haB (s _ z)⟩
  ·rw[List.getElem?_set_ne hj]at ej sj
   exact S.own j es a' ej sj
 ·by_cases hj:i=j
  ·by_cases hk:i=k
   ·rw[←hj,←hk]
   ·subst hj
    rw[List.getElem?_set_self hl]at ej
    rw[List.getElem?_set_self hsl]at sj
    rw[List.getElem?_set_ne hk]at ek sk
    have e1:dv = .own es:=Option.some.inj (Option.some.inj ej)
    have e2:v = .ref a':=Option.some.inj (Option.some.inj sj)
    exact absurd sk (other es k es' a' e1 e2 ek)
  ·by_cases hk:i=k
   ·subst hk
    rw[List.getElem?_set_self hl]at ek
    rw[List.getElem?_set_self hsl]at sk
    rw[List.getElem?_set_ne hj]at ej sj
    have e1:dv = .own es':=Option.some.inj (Option.some.inj ek)
    have e2:v = .ref a':=Option.some.inj (Option.some.inj sk)
    exact absurd sj (other es' j es a' e1 e2 ej)
   ·rw[List.getElem?_set_ne hj]at ej sj
    rw[List.getElem?_set_ne hk]at ek sk
    exact S.inj j k es es' a' ej ek sj sk
end
noncomputable def a0J (i j:Nat)(c1 c2:DE->M DV):DE->M Out:=λE F=>(c1 E F).bind λp=>(c2 E p.2).bind λq=>if i<E.length∧j<E.length then some (.nx ((E.set i (some p.1)).set j (some q.1)),q.2) else none
theorem a8P (i j:Nat){x y:Str}{t1 t2:TE}{c1 c2:DE->M DV}{px py pt:Pos}{kt k2 pt2}(hc:X.calm=true)(hN:X.N.Nodup)(h1:Ec K X a t1 c1)(h2:Ec K X b t2 c2)(hi:X.N[i]? = some x:=by rfl)(hj:X.N[j]? = some y:=by rfl)(hij:i≠j:=by decide)
  (hx:X.env.scope.names.lookup x=some .local:=by rfl) (hy:X.env.scope.names.lookup y=some .local:=by rfl)
  (hw:swappedStores [.Tuple [.Name x px,.Name y py] kt pt] (.Tuple [a,b] k2 pt2) X.env=pure (some [x,y]):=by rfl)
  (hs:swapsWithSole [.Tuple [.Name x px,.Name y py] kt pt] (.Tuple [a,b] k2 pt2) pos.line X.env=pure false:=by rfl)
  (hs1:starEach [a,b] X.env=(false,eval a X.env)::starEach [b] X.env:=by rfl) (hs2:starEach [b] X.env=(false,eval b X.env)::starEach [] X.env:=by rfl) :
  Ss K X (.Assign [.Tuple [.Name x px,.Name y py] kt pt] (.Tuple [a,b] k2 pt2) pos) (b2S i j (C6 t1 (C6 t2 V5))) (a0J i j c1 c2):=⟨b0L hc hN hi hj hij hx hy (m8 h1.pe (m8 h2.pe A1 hs2) hs1) hw hs,λG B0 H0 E F σ H D r F' S e q=>by
 obtain⟨⟨d1,F1⟩,e1,e⟩:=Option.bind_eq_some_iff.mp e
 obtain⟨⟨d2,F2⟩,e2,e⟩:=Option.bind_eq_some_iff.mp e
 split at e
 case isFalse=>cases e
 rename_i hl
 cases e
 obtain⟨B,s,sn,I⟩:=S.ex
 refine h1.ok G B E F σ H _ d1 F1 I e1 λv H1 k1 f1 r1=>?_
 obtain⟨S1,s1,sn1,I1⟩:=S.putC s sn I k1 f1 r1 hl.1
 refine h2.ok G _ E F1 σ H1 _ d2 F2 (I.moreC k1 f1 r1) e2 λw H2 k2' f2 r2=>?_
 obtain⟨S2,_⟩:=S1.putC s1 sn1 I1 k2' f2 r2 (i:=j) (by rw[List.length_set];exact hl.2)
 exact⟨v,w,rfl,q _ _ S2⟩⟩
noncomputable def a19 (i j k:Nat)(c1 c2 c3:DE->M DV):DE->M Out:=λE F=>(c1 E F).bind λp=>(c2 E p.2).bind λq=>(c3 E q.2).bind λr=>if i<E.length∧j<E.length∧k<E.length then some (.nx (((E.set i (some p.1)).set j (some q.1)).set k (some r.1)),r.2) else none
theorem a7y (i j k:Nat){x y z:Str}{t1 t2 t3:TE}{c1 c2 c3:DE->M DV}{px py pz pt:Pos}{kt k2 pt2}(hc:X.calm=true)(hN:X.N.Nodup)(h1:Ec K X a t1 c1)(h2:Ec K X b t2 c2)(h3:Ec K X c t3 c3)(hi:X.N[i]? = some x:=by rfl)(hj:X.N[j]? = some y:=by rfl)(hk:X.N[k]? = some z:=by rfl)(hij:i≠j:=by decide)(hik:i≠k:=by decide)(hjk:j≠k:=by decide)
  (hx:X.env.scope.names.lookup x=some .local:=by rfl) (hy:X.env.scope.names.lookup y=some .local:=by rfl) (hz:X.env.scope.names.lookup z=some .local:=by rfl)
  (hw:swappedStores [.Tuple [.Name x px,.Name y py,.Name z pz] kt pt] (.Tuple [a,b,c] k2 pt2) X.env=pure (some [x,y,z]):=by rfl)
  (hs:swapsWithSole [.Tuple [.Name x px,.Name y py,.Name z pz] kt pt] (.Tuple [a,b,c] k2 pt2) pos.line X.env=pure false:=by rfl)
  (hs1:starEach [a,b,c] X.env=(false,eval a X.env)::starEach [b,c] X.env:=by rfl) (hs2:starEach [b,c] X.env=(false,eval b X.env)::starEach [c] X.env:=by rfl) (hs3:starEach [c] X.env=(false,eval c X.env)::starEach [] X.env:=by rfl) :
  Ss K X (.Assign [.Tuple [.Name x px,.Name y py,.Name z pz] kt pt] (.Tuple [a,b,c] k2 pt2) pos) (a9R i j k (C6 t1 (C6 t2 (C6 t3 V5)))) (a19 i j k c1 c2 c3):=⟨a8X hc hN hi hj hk hij hik hjk hx hy hz (m8 h1.pe (m8 h2.pe (m8 h3.pe A1 hs3) hs2) hs1) hw hs,λG B0 H0 E F σ H D r F' S e q=>by
 obtain⟨⟨d1,F1⟩,e1,e⟩:=Option.bind_eq_some_iff.mp e
 obtain⟨⟨d2,F2⟩,e2,e⟩:=Option.bind_eq_some_iff.mp e
 obtain⟨⟨d3,F3⟩,e3,e⟩:=Option.bind_eq_some_iff.mp e
 split at e
 case isFalse=>cases e
 rename_i hl
 cases e
 obtain⟨B,s,sn,I⟩:=S.ex
 refine h1.ok G B E F σ H _ d1 F1 I e1 λv H1 k1 f1 r1=>?_
 obtain⟨S1,s1,sn1,I1⟩:=S.putC s sn I k1 f1 r1 hl.1
 refine h2.ok G _ E F1 σ H1 _ d2 F2 (I.moreC k1 f1 r1) e2 λw H2 k2' f2 r2=>?_
 obtain⟨S2,s2,sn2,I2⟩:=S1.putC s1 sn1 I1 k2' f2 r2 (i:=j) (by rw[List.length_set];exact hl.2.1)
 refine h3.ok G _ E F2 σ H2 _ d3 F3 ((I.moreC k1 f1 r1).moreC k2' f2 r2) e3 λu H3 k3 f3 r3=>?_
 obtain⟨S3,_⟩:=S2.putC s2 sn2 I2 k3 f3 r3 (i:=k) (by rw[List.length_set,List.length_set];exact hl.2.2)
 exact⟨v,w,u,rfl,q _ _ S3⟩⟩
end
end L3
namespace L3
open PySem PySem.Spec PyProof.Rows L2
section
variable {K:PySem.W.Frag}{X0:Cx}{tg iter:Expr}{te:TE}{pos:Pos}
theorem a1D {env:Env}:∀{names:List (Str×NameKind)} {x:Str},names.lookup x=some .cell∨names.lookup x=some .free ->
  (names.map λ(n,k)=>if (k == NameKind.free&&env.scope.kind == .function&&env.kindOf n == some .cell) then(n,NameKind.cell) else(n,k)).lookup x=some .cell∨(names.map λ(n,k)=>if (k == NameKind.free&&env.scope.kind == .function&&env.kindOf n == some .cell) then(n,NameKind.cell) else(n,k)).lookup x=some .free
 | [],_,h=>by simp at h
 | (n,k)::r,x,h=>by
  have ih:=@a1D env r x
  show List.lookup x ((if (k == NameKind.free&&env.scope.kind == .function&&env.kindOf n == some .cell)=true then(n,NameKind.cell) else(n,k))::_)=_∨List.lookup x ((if (k == NameKind.free&&env.scope.kind == .function&&env.kindOf n == some .cell)=true then(n,NameKind.cell) else(n,k))::_)=_
  cases hx:x == n with
  | true =>
   simp only[List.lookup_cons,hx]at h
   by_cases hc:(k == NameKind.free&&env.scope.kind == .function&&env.kindOf n == some .cell)=true
   ·rw[if_pos hc];simp[List.lookup_cons,hx]
   ·rw[if_neg hc];simpa [List.lookup_cons,hx] using h
  | false =>
   simp only[List.lookup_cons,hx]at h
   by_cases hc:(k == NameKind.free&&env.scope.kind == .function&&env.kindOf n == some .cell)=true
   ·rw[if_pos hc];simp only[List.lookup_cons,hx];exact ih h
   ·rw[if_neg hc];simp only[List.lookup_cons,hx];exact ih h
theorem a48 [Feeds]{elt:Expr}{ifs:List Expr}{scope0 scope:Scope}{N0 N:List Str}{cl0 C0 ex0 pins0 s0 H0}{k:Nat}{cap:List Nat}{wi:TI}{g:TG}{tt:TT}{mi:DE->M (List PyData)}{bd:PyData->DE->Option DE}{mt:DE->M Bool}{me:DE->M PyData}
  (hc:(cxC X0 N0 scope0 cl0 C0 ex0 pins0 s0 H0).calm=true) (hcap:Caps N0 scope0 N k cap scope) (hi:Eib K (cxC X0 N0 scope0 cl0 C0 ex0 pins0 s0 H0) tg iter wi mi)
  (hg:∀cl C ex pins s H,Eg K (cxC (cxC X0 N0 scope0 cl0 C0 ex0 pins0 s0 H0) N scope cl C ex pins s H) tg g bd)
  (ht:∀cl C ex pins s H,Ets K (cxC (cxC X0 N0 scope0 cl0 C0 ex0 pins0 s0 H0) N scope cl C ex pins s H) ifs tt mt)
  (he:∀cl C ex pins s H,Ev K (cxC (cxC X0 N0 scope0 cl0 C0 ex0 pins0 s0 H0) N scope cl C ex pins s H) elt te me)
  (hs:∀x,foldedSetIterable iter (cxC X0 N0 scope0 cl0 C0 ex0 pins0 s0 H0).env x=pure x:=by intro _;rfl) :
  Ev K (cxC X0 N0 scope0 cl0 C0 ex0 pins0 s0 H0) (.ListComp elt [⟨tg,iter,ifs,0⟩] scope pos) (tLC wi k cap g tt te) (sLC mi k cap bd mt me) :=
 U2 (osc:=relabel scope0 X0.env) hc rfl ⟨hcap.kind,hcap.nocell,hcap.loc,λy hy e=>a1D (hcap.free y hy e),hcap.len,hcap.capx,hcap.capf⟩ hi hg ht he hs
end
section
variable {K:PySem.W.Frag}{X:Cx}[Feeds]
noncomputable def a5h:List PyData->Option PyData
 | [.int i,.int j]=>some (.int (if j > i then j else i))
 | _=>none
theorem a8y (hK:X.K=K)(hc:X.calm=true):A3 X (.builtin "max") (rDN K a5h):=by
 intro pins s σ H xs us Q I r h
 obtain⟨fp,B,ds,z,bk,h1,hf,q⟩:=h
 unfold a5h at hf
 split at hf <;> try cases hf
 rename_i i j
 obtain⟨v,w,rfl,hv,hw⟩:=b2L h1 rfl
 cases(show v = .int i from hv)
 cases(show w = .int j from hw)
 exact a5R hc pins s σ H _ us Q I r ⟨i,j,rfl,q _ H (i4.refl H) b7.int⟩
end
noncomputable def FdS.fstN (F:FdS):Int:=(F.cellL % 1000003+37*F.a*F.a+13*F.a+5)*48271 % 999983
noncomputable def FdS.mixN (F:FdS):Int:=((F.fstN*F.fstN+7919*F.a+11) % 2097143)*69621 % 2147483629 / 7
noncomputable def a0K (m:Int)(F:FdS):Option (Int×FdS):=if 0<m∧m<1073741824∧F.t<199999 then
  some (if 0<F.l then(F.l % m,⟨F.ns,F.a,F.l / m,F.t+1⟩)
   else if 10 ^ 18≤F.cellL∧F.a<F.ns.length then(F.cellL % m,⟨F.ns,F.a+1,F.cellL / m,F.t+1⟩)
   else(F.mixN % m,⟨F.ns,F.a+1,F.l,F.t+1⟩))
 else none
theorem a4K {m:Int}{F:FdS}(h0:0<m)(h1:m<1073741824)(h2:F.t<199999):∃r F',a0K m F=some (r,F')∧0≤r∧r<m∧F'.t=F.t+1:=by
 have b:∀x:Int,0≤x % m∧x % m<m:=λx=>⟨Int.emod_nonneg _ (by omega),Int.emod_lt_of_pos _ h0⟩
 unfold a0K
 rw[if_pos ⟨h0,h1,h2⟩]
 by_cases hl:0<F.l
 ·rw[if_pos hl];exact⟨_,_,rfl,(b _).1,(b _).2,rfl⟩
 ·rw[if_neg hl]
  by_cases hc:10 ^ 18≤F.cellL∧F.a<F.ns.length
  ·rw[if_pos hc];exact⟨_,_,rfl,(b _).1,(b _).2,rfl⟩
  ·rw[if_neg hc];exact⟨_,_,rfl,(b _).1,(b _).2,rfl⟩
@[reducible] noncomputable def b2U (l:List Str):Fam where
 At:=λd c H F=>H d=some (.lst [.ref c,.int F.a,.int F.l])∧H c=some (.lst (F.ns.map V.int))∧F.ns.length≤63∧0≤F.a∧F.a≤F.t∧d≠c
 some1:=λh=>⟨_,h.1,⟨λ_ z=>(by cases z),λ_ z=>(by cases z)⟩⟩
 some2:=λh=>⟨_,h.2.1,⟨λ_ z=>(by cases z),λ_ z=>(by cases z)⟩⟩
 lam:=l
 congr:=λh e1 e2=>⟨e1.trans h.1,e2.trans h.2.1,h.2.2⟩
 drawF:=a0K
 draw_some:=a4K
end L3
namespace L3
open PySem PySem.Spec PyProof.Rows L2
end L3
namespace L3
open PySem PySem.Spec PyProof.Rows L2
section
variable {K:PySem.W.Frag}{X:Cx}[Feeds]
end
end L3
namespace L3
open PySem PySem.Spec PyProof.Rows L2
section
variable {M:Lang}{A:Around}{E:Value->Shared->Prop}{s:Shared}
theorem a20:seqSlot? (.type "list") (dunderI "add")=pure (some (.builtin "list.__iadd__")):=PySem.seqSlot_of PySem.F.slot_list_iadd.lookup (by decide +kernel)
theorem a1G:fillsInplaceSlot (.type "list") "add" (Operator.Add == .Add)=pure false:=by
 unfold fillsInplaceSlot
 show(typeLookup (.type "list") (dunderI "add") >>= λfi=>pure (fi.isSome && !isSeqSlot fi))=pure false
 rw[PySem.F.slot_list_iadd.lookup]
 show(pure ((some (Value.builtin "list.__iadd__")).isSome && !isSeqSlotId "list.__iadd__"):Sem Bool)=pure false
 have:isSeqSlotId "list.__iadd__" = true:=by decide +kernel
 rw[this]
 rfl
end
section
variable {prog:Program}{w:World}{A:Around}{E:Value->Shared->Prop}{s:Shared}
theorem a6g {a b:Value}{Q:Value->Shared->Prop}(ha:s.TypeIs a "list")(hb:s.TypeIs b "list")(hc:wpAny (model prog w) A (call (.builtin "list.__iadd__") [a,b]) Q E s):wpAny (model prog w) A (inplaceOp .Add a b) Q E s:=by
 unfold inplaceOp
 refine wpAny_holding ?_
 refine wpAny_bind (wpAny_typeOf ha (wpAny_bind (wpAny_of_eq a1G ?_)))
 show wpAny _ A (if false=true then _ else _) Q E s
 rw[if_neg Bool.false_ne_true]
 refine wpAny_bind (binaryOp1_none (nm:="add") ha hb noFill_list_add ?_)
 refine wpAny_bind (wpAny_of_eq a20 ?_)
 exact wpAny_bind (wpAny_rule hc)
end
section
variable {K:PySem.W.Frag}{X:Cx}[Feeds]
noncomputable def ipE:TIp:=λx y H Q=>∃l b xs zs,x = .ref l∧y = .ref b∧H l=some (.lst xs)∧H b=some (.lst zs)∧xs.length+zs.length≤sizeLine∧Q (.ref l) (upd H l (.lst (xs++zs)))
theorem b0w:PIp X .Add ipE:=by
 intro pins s σ H x y v u Q I rx ry h
 obtain⟨l,b,xs,zs,rfl,rfl,hH,hB,hz,q⟩:=h
 cases rx
 cases ry
 obtain⟨z,its,n,r,hl,e⟩:=I.lstM hH
 obtain⟨z2,its2,n2,r2,hl2,e2⟩:=I.lstM hB
 have hsz:its.toArray.size+its2.toArray.size≤sizeLine:=by rw[List.size_toArray,List.size_toArray];omega
 have hlong:¬(!its.toArray.isEmpty&&Builtin.List.listTooLong (its.toArray.size+its2.toArray.size))=true:=by
  rw[a3I hsz,Bool.and_false]
  exact Bool.false_ne_true
 refine a6g ⟨_,e,rfl⟩ ⟨_,e2,rfl⟩ ?_
 refine call_meets PySem.F.slot_list_iadd ⟨_,e,rfl⟩ PySem.F.entry_list_iadd (PySem.F.args_list_iadd_2 _ _)
  (AutoSeq1.list___iadd___list_list_0 l its.toArray n b its2.toArray n2 hlong (by rw[List.size_toArray];omega) (by omega)) ⟨e,e2,?_⟩
 refine⟨.ref l,_,I.lset (its':=its++its2) hH e (by simp) (r.append r2) ?_,rfl,q⟩
 rw[List.length_append]
 omega
theorem a82 {v w:V}:[v,w].length≤sizeLine:=by show 2≤sizeLine;rw[sizeLine_eq];decide
theorem a3R {α:Type}:∀{l:List α} {i:Nat} {a:α},l[i]? = some a->l.set i a=l
 | [],_,_,h=>by simp at h
 | x::l,0,a,h=>by simp at h;simp[h]
 | x::l,i+1,a,h=>by simp at h;simp[a3R h]
variable {e:Expr}{te:TE}{m:DE->M PyData}{pos:Pos}
theorem b0l {i:Nat}(hv:TEs K te m):TSd K (a8h i te ipE) (a3s i m):=λG B0 H0 E F σ H D r F' S e q=>by
 obtain⟨⟨d,F1⟩,e1,e⟩:=Option.bind_eq_some_iff.mp e
 obtain⟨ds,e4,e⟩:=Option.bind_eq_some_iff.mp e
 dsimp only at e
 split at e
 ·split at e
  ·rename_i hl
   cases e
   obtain⟨B,s,sn,I⟩:=S.ex
   have eo:=O8 e4
   obtain⟨w,w1,a,xs,rfl,hB,hf,hx,hdx⟩:=I.loc i _ eo
   refine⟨_,w1,hv G B E F σ H _ (.list _) _ I e1 λu H2 k2 f2 h2=>?_⟩
   obtain⟨b,ys,rfl,hb,hdb⟩:=h2
   have hd2:=hdx.same (k2.hid I.fB)
   refine⟨a,b,xs,ys,rfl,rfl,k2 a _ hx hf,d4 _ _ hb,by rw[hdx.length,hdb.length];exact hl,?_⟩
   show D.nx (List.set σ i (some (V.ref a))) _
   rw[a3R w1]
   exact q σ _ ((S.step k2 f2).write s sn (I.step k2 f2) eo w1 (a6.append hdb hd2))
  ·cases e
 ·cases e
theorem a5g (i:Nat){x:Str}{pos':Pos}(hN:X.N.Nodup)(he:Eb K X e te m)(hi:X.N[i]? = some x:=by rfl)(hx:Loc X.env.scope x:=by first | exact Or.inl rfl | exact Or.inr rfl)(hf:X.fn x=true∨X.env.scope.names.lookup x=some .local:=by first | exact .inl rfl | exact .inr rfl | assumption) :
  Ss K X (.AugAssign (.Name x pos') .Add e pos) (a8h i te ipE) (a3s i m):=⟨a75 hN hi hx he.pe b0w hf,b0l he.ok⟩
variable {a b:Expr}
theorem a8v (i j:Nat){x y:Str}{t1 t2:TE}{c1 c2:DE->M DV}{px py pt:Pos}{kt k2 pt2}(hK:X.K=K)(hc:X.calm=true)(hN:X.N.Nodup)(h1:Ec K X a t1 c1)(h2:Ec K X b t2 c2)(hi:X.N[i]? = some x:=by rfl)(hj:X.N[j]? = some y:=by rfl)
  (hx:Loc X.env.scope x:=by first | exact Or.inl rfl | exact Or.inr rfl) (hy:Loc X.env.scope y:=by first | exact Or.inl rfl | exact Or.inr rfl)
  (hfx:X.fn x=true∨X.env.scope.names.lookup x=some .local:=by first | exact .inl rfl | exact .inr rfl | assumption) (hfy:X.fn y=true∨X.env.scope.names.lookup y=some .local:=by first | exact .inl rfl | exact .inr rfl | assumption)
  (hw:swappedStores [.Tuple [.Name x px,.Name y py] kt pt] (.Tuple [a,b] k2 pt2) X.env=pure none:=by rfl)
  (hs:swapsWithSole [.Tuple [.Name x px,.Name y py] kt pt] (.Tuple [a,b] k2 pt2) pos.line X.env=pure false:=by rfl)
  (ha1:(assignEach [.Tuple [.Name x px,.Name y py] kt pt] X.env).map (·.2)=[assign (.Tuple [.Name x px,.Name y py] kt pt) X.env]:=by rfl)
  (hs1:starEach [a,b] X.env=(false,eval a X.env)::starEach [b] X.env:=by rfl) (hs2:starEach [b] X.env=(false,eval b X.env)::starEach [] X.env:=by rfl) :
  Ss K X (.Assign [.Tuple [.Name x px,.Name y py] kt pt] (.Tuple [a,b] k2 pt2) pos) (a0Q (a91 (C6 t1 (C6 t2 V5))) (a8U K 2 (a4V (P3 i) (a4V (P3 j) b0K)))) (a0J i j c1 c2) :=
 ⟨a0g (a4h (m8 h1.pe (m8 h2.pe A1 hs2) hs1)) (a5F hK hc (a1N (a2R hN hi hx hfx) (a1N (a2R hN hj hy hfy) a5u))) hs hw ha1,λG B0 H0 E F σ H D r F' S e q=>by
 obtain⟨⟨d1,F1⟩,e1,e⟩:=Option.bind_eq_some_iff.mp e
 obtain⟨⟨d2,F2⟩,e2,e⟩:=Option.bind_eq_some_iff.mp e
 split at e
 case isFalse=>cases e
 rename_i hl
 cases e
 obtain⟨B,s,sn,I⟩:=S.ex
 refine h1.ok G B E F σ H _ d1 F1 I e1 λv H1 k1 f1 r1=>?_
 obtain⟨S1,s1,sn1,I1⟩:=S.putC s sn I k1 f1 r1 hl.1
 refine h2.ok G _ E F1 σ H1 _ d2 F2 (I.moreC k1 f1 r1) e2 λw H2 k2' f2 r2=>?_
 obtain⟨S2,_⟩:=S1.putC s1 sn1 I1 k2' f2 r2 (i:=j) (by rw[List.length_set];exact hl.2)
 refine⟨a82,λp hp=>⟨p,[v,w],rfl,SqT.of g6,rfl,v,[w],rfl,w,[],rfl,rfl,?_⟩⟩
 exact q _ _ (S2.step (Kp.upd hp) (f2.same (i4.upd hp)))⟩
theorem b2n {tg iter elt:Expr}{ifs:List Expr}{scope osc:Scope}{N:List Str}{k:Nat}{cap:List Nat}{wi:TI}{g:TG}{tt:TT}{mi:DE->M (List PyData)}{bd:PyData->DE->Option DE}{mt:DE->M Bool}{me:DE->M PyData}
  (hc:X.calm=true) (hosc:X.env.scope=osc) (hcap:Caps X.N osc N k cap scope) (hi:Eib K X tg iter wi mi)
  (hg:∀cl C ex pins s H,Eg K (cxC X N scope cl C ex pins s H) tg g bd)
  (ht:∀cl C ex pins s H,Ets K (cxC X N scope cl C ex pins s H) ifs tt mt)
  (he:∀cl C ex pins s H,Ev K (cxC X N scope cl C ex pins s H) elt te me)
  (hs:∀x,foldedSetIterable iter X.env x=pure x:=by intro _;rfl) :
  Ef K X (.ListComp elt [⟨tg,iter,ifs,0⟩] scope pos) (tLC wi k cap g tt te) (fLC mi k cap bd mt me) :=
 ⟨a9Y hc hosc hcap hi.pi (λcl C ex pins s H=>(hg cl C ex pins s H).pg) (λcl C ex pins s H=>(ht cl C ex pins s H).pts) (λcl C ex pins s H=>(he cl C ex pins s H).pe) hs,
  b1L hi.ok (hg [] 0 [] [] X.s₀ X.H₀).ok (ht [] 0 [] [] X.s₀ X.H₀).ok (he [] 0 [] [] X.s₀ X.H₀).ok⟩
end
end L3
namespace L3
open PySem PySem.Spec PyProof.Rows L2
section
variable [Feeds]
variable {K:PySem.W.Frag}{X:Cx}{e i v1 v2 v3:Expr}{es:List Expr}{te t1 t2 t3 ti:TE}{m1 m2 m3 mi:DE->M PyData}{p pos p1 p2 p3:Pos}
variable {P:Program}{w:World}{mg:Str->Option Value}{base:Heap}
end
end L3
namespace L2
open PySem PySem.Spec PyProof.Rows
noncomputable def a6E (target iter:Expr)(ifs:List Expr)(it:Value)(env:Env)(act:Sem Unit)(more:Sem Fin):Sem Fin:=do
 standAt iter.pos
 match ←pyNext it with
 | none=>pure (.done .next)
 | some v =>
  letOwnedTupleGo target it v
  assign target env v
  let mut ok:=true
  for c in ifs do
   if ok then ok ←isTrue c env (eval c env)
  if ok then act
  more
noncomputable def a7I (target iter:Expr)(ifs:List Expr)(it:Value)(env:Env)(act:Sem Fin->Sem Fin)(more:Sem Fin):Sem Fin:=do
 standAt iter.pos
 match ←pyNext it with
 | none=>pure (.done .next)
 | some v =>
  letOwnedTupleGo target it v
  assign target env v
  let mut ok:=true
  for c in ifs do
   if ok then ok ←isTrue c env (eval c env)
  if ok then act more else more
noncomputable def a5t (e:Expr)(iter1:Expr)(acc:Value)(env:Env)(k:Sem Fin):Sem Fin:=do
 let x ←eval iter1 env
 standAt iter1.pos
 let x ←foldedSetIterable iter1 env x
 let _ ←runOwn (.compStart e 1 (←holding [x] (pyIter x)) acc env) env
 k
noncomputable def a6T (elt:Expr)(acc:Value)(env:Env):Sem Unit:=do let _ ←call (.builtin "list.append") [acc,←eval elt env]
theorem a7N (elt tg iter tg1 iter1:Expr)(ifs ifs1:List Expr)(scope:Scope)(pos:Pos)(it acc:Value)(env:Env) :
  compTurn (.ListComp elt [⟨tg,iter,ifs,0⟩,⟨tg1,iter1,ifs1,0⟩] scope pos) 0 it acc env=a7I tg iter ifs it env (a5t (.ListComp elt [⟨tg,iter,ifs,0⟩,⟨tg1,iter1,ifs1,0⟩] scope pos) iter1 acc env) (again (.compLoop (.ListComp elt [⟨tg,iter,ifs,0⟩,⟨tg1,iter1,ifs1,0⟩] scope pos) 0 it acc env)):=by rfl
theorem a9F (elt tg iter tg1 iter1:Expr)(ifs ifs1:List Expr)(scope:Scope)(pos:Pos)(it acc:Value)(env:Env) :
  compTurn (.ListComp elt [⟨tg,iter,ifs,0⟩,⟨tg1,iter1,ifs1,0⟩] scope pos) 1 it acc env=a6E tg1 iter1 ifs1 it env (a6T elt acc env) (again (.compLoop (.ListComp elt [⟨tg,iter,ifs,0⟩,⟨tg1,iter1,ifs1,0⟩] scope pos) 1 it acc env)):=by rfl
section
variable {prog:Program}{w:World}{A:Around}{R:Result->Shared->Prop}{s:Shared}
theorem b23 {elt:Expr}{gens:List Comprehension}{scope:Scope}{pos:Pos}{d:Nat}{it acc:Value}{env:Env}{target iter:Expr}{ifs:List Expr}{act:Sem Unit}(I:Nat->Shared->Prop)
  (ht:compTurn (.ListComp elt gens scope pos) d it acc env=a6E target iter ifs it env act (again (.compLoop (.ListComp elt gens scope pos) d it acc env)))
  (turn:∀n s,I n s->wpAny (model prog w) A (pyNext it) (λr s₁=>match r with
   | none=>R (.ok .next) s₁
   | some v=>wpAny (model prog w) A (letOwnedTupleGo target it v) (λ_ s₀=>wpAny (model prog w) A (assign target env v) (λ_ s₂ =>
     wpAny (model prog w) A (forIn ifs true λc r=>if r=true then do let ok ←isTrue c env (eval c env);pure (ForInStep.yield ok) else pure (ForInStep.yield r)) (λok s₃ =>
      if ok=true then wpAny (model prog w) A act (λ_ s₅=>∃m,m<n∧I m s₅) (λ_ _=>False) s₃
      else ∃m,m<n∧I m s₃) (λ_ _=>False) s₂) (λ_ _=>False) s₀) (λ_ _=>False) s₁) (λ_ _=>False) s)
  (n:Nat) (h:I n s):codeAny (model prog w) A (.compLoop (.ListComp elt gens scope pos) d it acc env) R s:=by
 refine codeAny_loop rfl I (λn s hI=>?_) n h
 show wpAny _ A ((compTurn (.ListComp elt gens scope pos) d it acc env).onRaise (λx=>do noteFrame x env;theTreesLotGoes x)) _ _ s
 refine wpAny_noted ?_
 rw[ht]
 unfold a6E
 refine wpAny_bind (wpAny_standAt (wpAny_bind (wpAny_mono (turn n s hI) (λr s₁ h₁=>?_) λ_ _ h'=>h'.elim)))
 cases r with
 | none=>exact wpAny_pure h₁
 | some v =>
  refine wpAny_bind (wpAny_mono h₁ (λ_ s₀ h₀=>?_) λ_ _ h'=>h'.elim)
  refine wpAny_bind (wpAny_mono h₀ (λ_ s₂ h₂=>wpAny_bind (wpAny_mono h₂ (λok s₃ h₃=>?_) λ_ _ h'=>h'.elim)) λ_ _ h'=>h'.elim)
  cases ok with
  | false=>exact wpAny_pure ⟨rfl,h₃⟩
  | true=>exact wpAny_bind (wpAny_mono h₃ (λ_ s₅ h₅=>wpAny_pure ⟨rfl,h₅⟩) λ_ _ h'=>h'.elim)
theorem b2t {elt:Expr}{gens:List Comprehension}{scope:Scope}{pos:Pos}{d:Nat}{it acc:Value}{env:Env}{target iter:Expr}{ifs:List Expr}{act:Sem Fin->Sem Fin}(I:Nat->Shared->Prop)
  (ht:compTurn (.ListComp elt gens scope pos) d it acc env=a7I target iter ifs it env act (again (.compLoop (.ListComp elt gens scope pos) d it acc env)))
  (turn:∀n s,I n s->wpAny (model prog w) A (pyNext it) (λr s₁=>match r with
   | none=>R (.ok .next) s₁
   | some v=>wpAny (model prog w) A (letOwnedTupleGo target it v) (λ_ s₀=>wpAny (model prog w) A (assign target env v) (λ_ s₂ =>
     wpAny (model prog w) A (forIn ifs true λc r=>if r=true then do let ok ←isTrue c env (eval c env);pure (ForInStep.yield ok) else pure (ForInStep.yield r)) (λok s₃ =>
      if ok=true then ∀(k:Sem Fin) (Q:Fin->Shared->Prop) (E:Value->Shared->Prop),(∀s₅,(∃m,m<n∧I m s₅)->wpAny (model prog w) A k Q E s₅)->wpAny (model prog w) A (act k) Q E s₃
      else ∃m,m<n∧I m s₃) (λ_ _=>False) s₂) (λ_ _=>False) s₀) (λ_ _=>False) s₁) (λ_ _=>False) s)
  (n:Nat) (h:I n s):codeAny (model prog w) A (.compLoop (.ListComp elt gens scope pos) d it acc env) R s:=by
 refine codeAny_loop rfl I (λn s hI=>?_) n h
 show wpAny _ A ((compTurn (.ListComp elt gens scope pos) d it acc env).onRaise (λx=>do noteFrame x env;theTreesLotGoes x)) _ _ s
 refine wpAny_noted ?_
 rw[ht]
 unfold a7I
 refine wpAny_bind (wpAny_standAt (wpAny_bind (wpAny_mono (turn n s hI) (λr s₁ h₁=>?_) λ_ _ h'=>h'.elim)))
 cases r with
 | none=>exact wpAny_pure h₁
 | some v =>
  refine wpAny_bind (wpAny_mono h₁ (λ_ s₀ h₀=>?_) λ_ _ h'=>h'.elim)
  refine wpAny_bind (wpAny_mono h₀ (λ_ s₂ h₂=>wpAny_bind (wpAny_mono h₂ (λok s₃ h₃=>?_) λ_ _ h'=>h'.elim)) λ_ _ h'=>h'.elim)
  cases ok with
  | false=>exact wpAny_pure ⟨rfl,h₃⟩
  | true=>exact h₃ _ _ _ λs₅ h₅=>wpAny_pure ⟨rfl,h₅⟩
theorem a89 {elt:Expr}{g0:Comprehension}{target iter:Expr}{ifs:List Expr}{rest:List Comprehension}{scope:Scope}{pos:Pos}{it acc:Value}{env:Env}
  (h0:codeAny (model prog w) A (.compLoop (.ListComp elt (g0::⟨target,iter,ifs,0⟩::rest) scope pos) 1 it acc env) R s)
  (h:wpAny (model prog w) A (pyIter it) (λit' s'=>codeAny (model prog w) A (.compLoop (.ListComp elt (g0::⟨target,iter,ifs,0⟩::rest) scope pos) 1 it' acc env) R s') (notedBy (model prog w) A env λx s'=>R (.error x) s') s) :
  codeAny (model prog w) A (.compStart (.ListComp elt (g0::⟨target,iter,ifs,0⟩::rest) scope pos) 1 it acc env) R s:=by
 refine codeAny_of_tree ?_
 show wpAny _ _ ((compStart (.ListComp elt (g0::⟨target,iter,ifs,0⟩::rest) scope pos) 1 it acc env).onRaise (λx=>do noteFrame x env;standAt theWindowsPlace)) _ _ s
 refine wpAny_notedAt ?_;unfold compStart;show wpAny _ _ (ask >>= _) _ _ s;refine wpAny_bind (wpAny_askSetting (wpAny_ite ?_))
 split
 ·first | exact wpAny_bind (wpAny_pure (wpAny_pure (And.intro rfl h0))) | exact wpAny_pure (And.intro rfl h0)
 ·first | exact wpAny_bind (wpAny_rule (wpAny_bind (wpAny_standAt (wpAny_bind (wpAny_mono h (λit' s' h'=>wpAny_pure (And.intro rfl h')) λ_ _ x=>x))))) | (refine wpAny_bind (wpAny_rule ?_);show wpAny _ _ (standAt iter.pos >>= _) _ _ s;exact wpAny_bind (wpAny_standAt (wpAny_bind (wpAny_mono h (λit' s' h'=>wpAny_pure (And.intro rfl h')) λ_ _ x=>x))))
end
noncomputable abbrev TM:=St->Hp->(St->Hp->Prop)->Prop
noncomputable def PM (Y:Cx)(act:Sem Fin->Sem Fin)(t:TM):Prop:=∀(pins:List (Addr×Obj)) (s:Shared) (σ:St) (H:Hp) (Q:St->Hp->Prop),Inv Y pins σ H s->t σ H Q ->
 ∀(k:Sem Fin) (R:Fin->Shared->Prop) (E:Value->Shared->Prop),(∀s' σ' H',Inv Y pins σ' H' s'->Q σ' H'->wpAny (model Y.prog Y.w) Y.A k R E s')->wpAny (model Y.prog Y.w) Y.A (act k) R E s
noncomputable def tIn (wi:TI)(g:TG)(tt:TT)(te:TE)(D:Addr):TM:=λσ H Q=>wi σ H λJ H1 =>
 ∃W:Nat->Nat->St->List V->Hp->Prop,(∃m acc,H1 D=some (.lst acc)∧W 0 m σ acc H1)∧∀i m σ' acc H',W i m σ' acc H' ->
  (J.stop i H'∧Q σ' H') ∨
  (J.go i H'∧∀x H2,J.yld i H' x H2->g x σ' H2 λσ2 H3=>tt σ2 H3 λok H4=>if ok=true then te σ2 H4 λy H5=>H5 D=some (.lst acc)∧acc.length<sizeLine∧∃m',m'<m∧W (i+1) m' σ2 (acc++[y]) (upd H5 D (.lst (acc++[y])))
   else H4 D=some (.lst acc)∧∃m',m'<m∧W (i+1) m' σ2 acc H4)
theorem b1K {Y:Cx}{elt tg iter tg1 iter1:Expr}{ifs ifs1:List Expr}{scope:Scope}{pos:Pos}{wi:TI}{g:TG}{tt:TT}{te:TE}{D:Addr}(hx:Y.xe = λ_ _=>False)(hc:Y.calm=true)(hi:PI Y tg1 iter1 wi)(hg:PG Y tg1 g)(ht:PTs Y ifs1 tt)(he:PE Y elt te)
  (hs:∀x,foldedSetIterable iter1 Y.env x=pure x):PM Y (a5t (.ListComp elt [⟨tg,iter,ifs,0⟩,⟨tg1,iter1,ifs1,0⟩] scope pos) iter1 (.ref D) Y.env) (tIn wi g tt te D):=by
 intro pins s σ H Q I h k R E hk
 unfold a5t
 have hxe:∀{a b},Y.xe a b->False:=λ{a b} z=>by rw[hx]at z;exact z
 refine wpAny_bind (wpAny_mono (hi pins s σ H _ I h) (λv s1 h1=>wpAny_bind (wpAny_standAt ?_)) λ_ _ z=>(hxe z).elim)
 rw[hs]
 refine wpAny_bind (wpAny_pure (wpAny_bind (wpAny_holding (wpAny_mono h1 (λitv s2 h2=>?_) λ_ _ z=>(hxe z).elim))))
 obtain⟨it,fp,tn,J,H2,e,I2,T,st2,f2,W,⟨m0,acc0,hD0,w0⟩,turn⟩:=h2
 subst e
 have stat:∀{H':Hp},(∀b∈fp,H' b=none)->∀b∈fp,V3 Y pins H' b:=λhn b hb=>⟨hn b hb,(f2 b hb).2⟩
 refine wpAny_bind (wpAny_runOwn ?_)
 have loop:codeAny (model Y.prog Y.w) (Y.A.mark none) (.compLoop (.ListComp elt [⟨tg,iter,ifs,0⟩,⟨tg1,iter1,ifs1,0⟩] scope pos) 1 (.ref it) (.ref D) Y.env) (λr s'=>match r with | .ok f=>wpAny (model Y.prog Y.w) Y.A k R E s' | .error e=>cameBackBy (model Y.prog Y.w) Y.A Y.env E e s') s2:=by
  refine b23 (A:=Y.A) (λn s'=>∃i σ' acc H',Inv Y pins σ' H' s'∧tn i s'.heap∧(∀b∈fp,H' b=none)∧H' D=some (.lst acc)∧W i n σ' acc H') (a9F ..) ?_ m0 ⟨0,σ,acc0,H2,I2,st2,λb hb=>(f2 b hb).1,hD0,w0⟩
  rintro n s5 ⟨i,σ5,acc,H5,I5,st5,fr5,hD5,w5⟩
  rcases turn i n σ5 acc H5 w5 with ⟨stop,q⟩ | ⟨go,step⟩
  ·refine wpAny_mono (T.done Y rfl rfl rfl hc i pins s5 σ5 H5 _ I5 (stat fr5) st5 stop) (λr s6 ⟨hr,I6⟩=>?_) λ_ _ z=>z
   subst hr
   exact hk s6 σ5 H5 I6 q
  ·refine wpAny_mono (T.item Y rfl rfl rfl hc i pins s5 σ5 H5 _ I5 (stat fr5) st5 go) (λr s6 ⟨u,hr,h6⟩=>?_) λ_ _ z=>z
   subst hr
   refine wpAny_mono h6 (λ_ s7 ⟨x,H7,I7,r7,y7,st7,fr7⟩=>?_) λ_ _ z=>z
   have I7':=I7.pinned (stat fr7) (T.obj _ _ st7)
   have keepI:∀{s':Shared} {σ':St} {H':Hp},Inv Y (pins++S5 fp s7.heap) σ' H' s'->tn (i+1) s'.heap∧∀b∈fp,H' b=none:=λ{s' σ' H'} I'=>by
    refine⟨T.keep _ _ _ st7 λb hb o e=>(I'.pin (b,o) (List.mem_append_right _ (List.mem_append_right _ (v5 hb e)))).1,λb hb=>?_⟩
    obtain⟨o,e,d⟩:=T.obj _ _ st7 b hb
    exact(I'.pin (b,o) (List.mem_append_right _ (List.mem_append_right _ (v5 hb e)))).2.1
   refine wpAny_mono (hg _ s7 σ5 H7 x u _ I7' r7 (step x H7 y7)) (λ_ s8 ⟨σ8,H8,I8,q8⟩=>?_) λ_ _ z=>hxe z
   refine wpAny_mono (ht _ s8 σ8 H8 _ I8 q8) (λok s9 ⟨H9,I9,q9⟩=>?_) λ_ _ z=>hxe z
   cases ok with
   | false =>
    have q9:H9 D=some (.lst acc)∧∃m',m'<n∧W (i+1) m' σ8 acc H9:=q9
    obtain⟨hD9,m',hm,w9⟩:=q9
    obtain⟨k1,k2⟩:=keepI I9
    exact⟨m',hm,i+1,σ8,acc,H9,I9.unpinned,k1,k2,hD9,w9⟩
   | true =>
    show wpAny _ _ (a6T elt (.ref D) Y.env) _ _ _
    unfold a6T
    refine wpAny_bind (wpAny_mono (he _ s9 σ8 H9 _ I9 q9) (λyv s10 ⟨y,H10,I10,r10,hD10,hz,m',hm,w10⟩=>?_) λ_ _ z=>hxe z)
    refine wpAny_bind (wpAny_mono (T2 (X:=Y) _ s10 σ8 H10 (.ref D) [y] (.ref D) [yv] (λ_ H'=>H'=upd H10 D (.lst (acc++[y]))) I10 rfl (.cons r10 .nil) ⟨D,acc,y,rfl,rfl,hD10,hz,rfl⟩) (λ_ s11 ⟨_,H11,I11,_,e11⟩=>wpAny_pure ?_) λ_ _ z=>hxe z)
    subst e11
    obtain⟨k1,k2⟩:=keepI I11
    exact⟨m',hm,i+1,σ8,acc++[y],_,I11.unpinned,k1,k2,g6,w10⟩
 exact a89 loop (T.self _ 0 _ _ _ st2 loop)
end L2
namespace L2
open PySem PySem.Spec PyProof.Rows
theorem a6q {X:Cx}{elt tg iter tg1 iter1:Expr}{ifs ifs1:List Expr}{scope osc:Scope}{pos:Pos}{N:List Str}{k:Nat}{cap:List Nat}{g:TG}{tt:TT}{tm:TM}{cl:List (Str×Addr)}
  {pins:List (Addr×Obj)} {σ:St} {H3:Hp} {s3:Shared} {D it:Addr} {fp:List Addr} {tn:Nat->Heap->Prop} {J:It} {Q:VK} {W:Nat->Nat->St->Hp->Prop} {m0:Nat}
  (hc:X.calm=true) (hosc:X.env.scope=osc) (hcap:Caps X.N osc N k cap scope)
  (hcl:∀{x:Str} {c:Addr},cl.lookup x=some c->X.env.cells.lookup x=some c) (hhas:∀x,(x,NameKind.free)∈scope.names->∃c,cl.lookup x=some c)
  (hg:∀cl C ex pins s H,PG (cxC X N scope cl C ex pins s H) tg g)
  (ht:∀cl C ex pins s H,PTs (cxC X N scope cl C ex pins s H) ifs tt)
  (he:∀cl C ex pins s H,PM (cxC X N scope cl C ex pins s H) (a5t (.ListComp elt [⟨tg,iter,ifs,0⟩,⟨tg1,iter1,ifs1,0⟩] scope pos) iter1 (.ref D) (cxC X N scope cl C ex pins s H).env) tm)
  (I3:Inv X pins σ H3 s3) (T:Turn X.prog X.w X.K tg J fp it tn) (st:tn 0 s3.heap) (f3:∀b∈fp,V3 X pins H3 b) (w0:W 0 m0 (J6 k cap σ) H3)
  (turn:∀i m σ' H',W i m σ' H'->(J.stop i H'∧Q (.ref D) H') ∨
   (J.go i H'∧∀x H2,J.yld i H' x H2->g x σ' H2 λσ2 H3=>tt σ2 H3 λok H4=>if ok=true then tm σ2 H4 λσ3 H5=>∃m',m'<m∧W (i+1) m' σ3 H5 else ∃m',m'<m∧W (i+1) m' σ2 H4)) :
  wpAny (model X.prog X.w) X.A (newFunctionEnv scope X.env.globals cl [] X.env.qual none .none (some X.env)) (λcenv s₄ =>
   codeAny (model X.prog X.w) X.A (.compStart (.ListComp elt [⟨tg,iter,ifs,0⟩,⟨tg1,iter1,ifs1,0⟩] scope pos) 0 (.ref it) (.ref D) { cenv with scope:=relabel scope X.env }) (compPost (model X.prog X.w) X.A X.xe none (EP X pins σ Q) (.ref D) cenv.locals) s₄) X.xe s3:=by
 refine wpAny_newFunctionEnv hcap.nocell (by intro y hy;simp at hy) (λh₁ hns₁ hsb₁=>?_) hcap.kind
 have old:∀b o,s3.heap.get? b=some o->h₁.get? b=some o:=λb o e=>hsb₁.extBut b o (Nat.ne_of_lt (Heap.lt_size e)) (Heap.get?_push_of_some _ e)
 have neC:∀b∈fp,b≠s3.heap.objs.size:=λb hb=>by
  obtain⟨o,e,_⟩:=T.obj _ _ st b hb
  exact Nat.ne_of_lt (Heap.lt_size e)
 have nofs:∀{b:Addr},b≠X.env.locals->b ∉ X.fs->b ∉ frs X.stack:=λ{b} h1 h2 z=>(List.mem_cons.mp (I3.stkSub b z)).elim h1 h2
 have IY:Inv (cxC X N scope cl s3.heap.objs.size fp pins s3 H3) [] (J6 k cap σ) H3 { s3 with heap:=h₁,toks:=s3.toks+([]:List (Str×Value)).length }:=by
  refine⟨⟨I3.ok.mod,hcap.kind,I3.ok.glob,I3.ok.blt,Nat.le_refl _,λx y c h1 h2=>I3.ok.inj x y c (hcl h1) (hcl h2),λx hx=>hhas x (P6 hcap.nocell hx),λx c h=>absurd (show false=true from h) Bool.false_ne_true,I3.ok.hd,I3.ok.frames,.inl rfl,
   λb hb=>⟨neC b hb,λx c e=>(f3 b hb).2.2.2.2.1 x c (hcl e)⟩,I3.bs,Nat.le_trans I3.ok.bsz I3.sz,λb o e hb=>?_,λb hb=>nofs (f3 b hb).2.1 (f3 b hb).2.2.1,I3.stack,I3.stkFree⟩,
   rfl,I3.bare,Un.kept old,⟨_,hns₁,λi x v e1 e2 e3=>?_⟩,λx c e=>?_,I3.hok.fresh (Nat.le_refl _),λx c e=>I3.freeC x c (hcl e),λp hp=>?_,I3.hok.kept old,?_⟩
  ·rcases(f3 b hb).2.2.2.1 with z | z
   ·exact I3.ok.noex b o e z
   ·exact absurd (Nat.lt_of_lt_of_le (Heap.lt_size e) (Nat.le_trans I3.ok.bsz z)) (Nat.lt_irrefl _)
  ·by_cases hi:i<k
   ·unfold J6 at e2
    rw[List.getElem?_append_left (by simpa using hi),List.getElem?_replicate,if_pos hi]at e2
    cases e2
   ·obtain⟨d,rfl⟩:∃d,i=k+d:=⟨i-k,by omega⟩
    unfold J6 at e2
    rw[List.getElem?_append_right (by simp),List.length_replicate,Nat.add_sub_cancel_left,List.getElem?_map]at e2
    obtain⟨j,hj,hv⟩:=Option.map_eq_some_iff.mp e2
    have hσ:σ[j]? = some (some v):=by
     cases q:σ[j]? with
     | none=>rw[q]at hv;cases hv
     | some o=>rw[q]at hv;exact congrArg some hv
    have e1':(N.drop k)[d]? = some x:=by rw[List.getElem?_drop];exact e1
    have hx:X.N[j]? = some x:=by
     have z:=congrArg (λl=>l[d]?) hcap.capx
     simp only[List.getElem?_map,hj,e1',Option.map_some]at z
     exact Option.some.inj z
    have hfr:=hcap.capf x (List.mem_of_getElem? e1')
    have hfm:=PySem.mem_of_lookup hfr
    have hok:=hcap.free _ hfm rfl
    rw[←hosc]at hok
    obtain⟨m,hn,hl⟩:=I3.loc
    obtain⟨u,r,l⟩:=hl j x v hx hσ (.inr hok)
    refine⟨u,r,?_⟩
    rcases l with ⟨hk,_⟩ | ⟨hk,c,hc1,hc2⟩
    ·have hk:X.env.scope.names.lookup x=some .local:=hk
     rcases hok with z | z <;> (rw[hk]at z;cases z)
    ·obtain⟨c',hc'⟩:=hhas x hfm
     have:c'=c:=Option.some.inj ((hcl hc').symm.trans hc1)
     subst this
     exact .inr ⟨N6 hfr,c',hc',hc2.keeps old⟩
  ·obtain⟨v,z⟩:=I3.cell x c (hcl e)
   exact⟨v,z.keeps old⟩
  ·have hp:p∈(X.pn++pins)++[]:=hp
   rw[List.append_nil]at hp
   obtain⟨a1,a2,a3,a4,a5⟩:=I3.pin p hp
   exact⟨old _ _ a1,a2,Nat.ne_of_lt (Heap.lt_size a1),nofs a3 a4,a5⟩
  ·show(J6 k cap σ).length=N.length
   unfold J6
   rw[List.length_append,List.length_replicate,List.length_map,hcap.len]
 have stat:∀{H':Hp},(∀b∈fp,H' b=none)->∀b∈fp,V3 (cxC X N scope cl s3.heap.objs.size fp pins s3 H3) [] H' b:=λ{H'} hn b hb=>by
  obtain⟨a0,a1,a2,a3,a4,a5⟩:=f3 b hb
  refine⟨hn b hb,neC b hb,nofs a1 a2,.inl hb,λx c e=>a4 x c (hcl e),λp hp=>a5 p ?_⟩
  have hp:p∈(X.pn++pins)++[]:=hp
  rwa [List.append_nil]at hp
 have loop:codeAny (model X.prog X.w) X.A (.compLoop (.ListComp elt [⟨tg,iter,ifs,0⟩,⟨tg1,iter1,ifs1,0⟩] scope pos) 0 (.ref it) (.ref D) (compEnvC scope cl s3.heap.objs.size X.env))
   (compPost (model X.prog X.w) X.A X.xe none (EP X pins σ Q) (.ref D) s3.heap.objs.size) { s3 with heap:=h₁,toks:=s3.toks+([]:List (Str×Value)).length }:=by
  refine b2t (λn s'=>∃i σ' H',Inv (cxC X N scope cl s3.heap.objs.size fp pins s3 H3) [] σ' H' s'∧tn i s'.heap∧(∀b∈fp,H' b=none)∧W i n σ' H') (a7N ..) ?_ m0
   ⟨0,_,H3,IY,T.keep _ _ _ st λb _ o e=>old b o e,λb hb=>(f3 b hb).1,w0⟩
  rintro n s5 ⟨i,σ5,H5,I5,st5,fr5,w5⟩
  rcases turn i n σ5 H5 w5 with ⟨stop,q⟩ | ⟨go,step⟩
  ·refine thn (T.done (cxC X N scope cl s3.heap.objs.size fp pins s3 H3) rfl rfl rfl hc i [] s5 σ5 H5 _ I5 (stat fr5) st5 stop) λr s6 ⟨hr,I6⟩=>?_
   subst hr
   obtain⟨m,hn,_⟩:=id I6.loc
   refine⟨m,hn,λh' hsb=>?_⟩
   have I7:Inv X pins σ H5 s6:=I3.call' I6.os I6.base I6.hok I6.bare λb hb=>by
    obtain⟨a0,a1,a2,a3,a4,a5⟩:=f3 b hb
    exact⟨a3,a1,a4,a5⟩
   obtain⟨g0,g1,g2,g3,g4,g5⟩:=I3.fpOk (H':=H5) (b:=s3.heap.objs.size) (Nat.le_refl _) I6.free
   exact⟨.ref D,H5,I7.turned (t':=s6.toks) (λb o hb e=>(hsb.2 b hb).trans e) g0 g1 g3 g4 g5,rfl,q⟩
  ·refine thn (T.item (cxC X N scope cl s3.heap.objs.size fp pins s3 H3) rfl rfl rfl hc i [] s5 σ5 H5 _ I5 (stat fr5) st5 go) λr s6 ⟨u,hr,h6⟩=>?_
   subst hr
   refine thn h6 λ_ s7 ⟨x,H7,I7,r7,y7,st7,fr7⟩=>?_
   have I7':=I7.pinned (stat fr7) (T.obj _ _ st7)
   have keepI:∀{s':Shared} {σ':St} {H':Hp},Inv (cxC X N scope cl s3.heap.objs.size fp pins s3 H3) ([]++S5 fp s7.heap) σ' H' s'->tn (i+1) s'.heap∧∀b∈fp,H' b=none:=λ{s' σ' H'} I'=>by
    refine⟨T.keep _ _ _ st7 λb hb o e=>(I'.pin (b,o) (List.mem_append_right _ (List.mem_append_right _ (v5 hb e)))).1,λb hb=>?_⟩
    obtain⟨o,e,d⟩:=T.obj _ _ st7 b hb
    exact(I'.pin (b,o) (List.mem_append_right _ (List.mem_append_right _ (v5 hb e)))).2.1
   refine thn (hg _ _ _ _ _ _ _ s7 σ5 H7 x u _ I7' r7 (step x H7 y7)) λ_ s8 ⟨σ8,H8,I8,q8⟩=>?_
   refine thn (ht _ _ _ _ _ _ _ s8 σ8 H8 _ I8 q8) λok s9 ⟨H9,I9,q9⟩=>?_
   cases ok with
   | false =>
    have q9:∃m',m'<n∧W (i+1) m' σ8 H9:=q9
    obtain⟨m',hm,w9⟩:=q9
    obtain⟨k1,k2⟩:=keepI I9
    exact⟨m',hm,i+1,σ8,H9,I9.unpinned,k1,k2,w9⟩
   | true =>
    have q9:tm σ8 H9 λσ3 H5=>∃m',m'<n∧W (i+1) m' σ3 H5:=q9
    intro kk R E hk
    refine he _ _ _ _ _ _ _ s9 σ8 H9 _ I9 q9 kk R E λs10 σ10 H10 I10 ⟨m',hm,w10⟩=>hk s10 ?_
    obtain⟨k1,k2⟩:=keepI I10
    exact⟨m',hm,i+1,σ10,H10,I10.unpinned,k1,k2,w10⟩
 exact codeAny_compStart_list loop (T.self X.A 0 _ _ _ (T.keep _ _ _ st λb _ o e=>old b o e) loop)
noncomputable def b0n (wi:TI)(k:Nat)(cap:List Nat)(g:TG)(tt:TT)(wi1:TI)(g1:TG)(tt1:TT)(te:TE):TE:=λσ H Q=>wi σ H λJ H1=>∀D,H1 D=none ->
 ∃W:Nat->Nat->St->Hp->Prop,(∃m,W 0 m (J6 k cap σ) (upd H1 D (.lst [])))∧∀i m σ' H',W i m σ' H' ->
  (J.stop i H'∧Q (.ref D) H') ∨
  (J.go i H'∧∀x H2,J.yld i H' x H2->g x σ' H2 λσ2 H3=>tt σ2 H3 λok H4=>if ok=true then tIn wi1 g1 tt1 te D σ2 H4 λσ3 H5=>∃m',m'<m∧W (i+1) m' σ3 H5 else ∃m',m'<m∧W (i+1) m' σ2 H4)
theorem b0y {X:Cx}{elt tg iter tg1 iter1:Expr}{ifs ifs1:List Expr}{scope osc:Scope}{pos:Pos}{N:List Str}{k:Nat}{cap:List Nat}{wi:TI}{g:TG}{tt:TT}{wi1:TI}{g1:TG}{tt1:TT}{te:TE}
  (hc:X.calm=true) (hosc:X.env.scope=osc) (hcap:Caps X.N osc N k cap scope) (hi:PI X tg iter wi)
  (hg:∀cl C ex pins s H,PG (cxC X N scope cl C ex pins s H) tg g)
  (ht:∀cl C ex pins s H,PTs (cxC X N scope cl C ex pins s H) ifs tt)
  (hi1:∀cl C ex pins s H,PI (cxC X N scope cl C ex pins s H) tg1 iter1 wi1)
  (hg1:∀cl C ex pins s H,PG (cxC X N scope cl C ex pins s H) tg1 g1)
  (ht1:∀cl C ex pins s H,PTs (cxC X N scope cl C ex pins s H) ifs1 tt1)
  (he:∀cl C ex pins s H,PE (cxC X N scope cl C ex pins s H) elt te)
  (hs1:∀cl C ex pins s H x,foldedSetIterable iter1 (cxC X N scope cl C ex pins s H).env x=pure x:=by intros;rfl)
  (hs:∀x,foldedSetIterable iter X.env x=pure x:=by intro _;rfl) :
  PE X (.ListComp elt [⟨tg,iter,ifs,0⟩,⟨tg1,iter1,ifs1,0⟩] scope pos) (b0n wi k cap g tt wi1 g1 tt1 te):=by
 intro pins s σ H Q I h
 have hcell:∀y∈scope.names,y.2 = .free->∃c,X.env.cells.lookup y.1=some c:=λy hy hk=>I.ok.has y.1 (by
  show X.env.scope.names.lookup y.1=_∨X.env.scope.names.lookup y.1=_
  rw[hosc];exact hcap.free y hy hk)
 let f:Str->Addr:=λx=>(X.env.cells.lookup x).getD 0
 have hf:∀y∈scope.names,y.2 = .free->X.env.cells.lookup y.1=some (f y.1):=λy hy hk=>by
  obtain⟨c,e⟩:=hcell y hy hk
  show _=some ((X.env.cells.lookup y.1).getD 0)
  rw[e];rfl
 have hclos:closureFor scope X.env=pure (z3 f scope.names []):=A9 λy hy hk=>by
  unfold cellOf
  rw[hf y hy hk]
 have hcl:∀{x:Str} {c:Addr},(z3 f scope.names []).lookup x=some c->X.env.cells.lookup x=some c:=λ{x c} e=>by
  rcases D5 _ _ e with ⟨h1,h2⟩ | h1
  ·rw[h2];exact hf (x,.free) h1 rfl
  ·simp at h1
 have hhas:∀x,(x,NameKind.free)∈scope.names->∃c,(z3 f scope.names []).lookup x=some c:=λx hx=>⟨_,M6 _ _ (.inl hx)⟩
 generalize z3 f scope.names []=cl at hclos hcl hhas
 rw[eval_ListComp]
 refine wpAny_comprehension_free (use:=none) (cl:=cl) rfl hs hclos hcap.kind hcap.loc ?_
 refine thn (hi pins s σ H _ I h) λv s1 h1=>thn h1 λitv s2 h2=>?_
 obtain⟨it,fp,tn,J,H2,e,I2,T,st2,f2,q2⟩:=h2
 subst e
 obtain⟨W,⟨m0,w0⟩,turn⟩:=q2 s2.heap.objs.size (I2.hok.fresh (Nat.le_refl _))
 refine wpAny_newObj_type ?_
 have I3:Inv X pins σ (upd H2 s2.heap.objs.size (.lst [])) { s2 with heap:=s2.heap.push { cls:=.type "list",data:=.seq ([]:List Value).toArray } }:=I2.lnew (ys:=[]) (its:=[]) (t':=s2.toks) .nil (Nat.zero_le _)
 have lt2:∀b∈fp,b≠s2.heap.objs.size:=λb hb=>by
  obtain⟨o,e,_⟩:=T.obj _ _ st2 b hb
  exact Nat.ne_of_lt (Heap.lt_size e)
 exact a6q hc hosc hcap hcl hhas hg ht (λcl C ex pins s H=>b1K (Y:=cxC X N scope cl C ex pins s H) rfl hc (hi1 cl C ex pins s H) (hg1 cl C ex pins s H) (ht1 cl C ex pins s H) (he cl C ex pins s H) (hs1 cl C ex pins s H)) I3 T (T.keep _ _ (s2.heap.push { cls:=.type "list",data:=.seq ([]:List Value).toArray }) st2 λb _ o e=>Heap.get?_push_of_some _ e) (λb hb=>⟨by rw[d8 (lt2 b hb)];exact(f2 b hb).1,(f2 b hb).2⟩) w0 turn
end L2
namespace L3
open PySem PySem.Spec PyProof.Rows L2
section
variable [Feeds]
variable {K:PySem.W.Frag}{X:Cx}{tg iter tg1 iter1 elt:Expr}{te:TE}{pos:Pos}
noncomputable def a39 (bd:PyData->DE->Option DE)(mt:DE->M Bool)(me:DE->M PyData):List PyData->DE->M (List PyData×DE)
 | [],E,F=>some (([],E),F)
 | d::r,E,F=>(bd d E).bind λE1=>(mt E1 F).bind λp=>if p.1=true then(me E1 p.2).bind λy=>(a39 bd mt me r E1 y.2).bind λz=>some ((y.1::z.1.1,z.1.2),z.2) else a39 bd mt me r E1 p.2
noncomputable def a0M (bd:PyData->DE->Option DE)(mt:DE->M Bool)(mi1:DE->M (List PyData))(bd1:PyData->DE->Option DE)(mt1:DE->M Bool)(me:DE->M PyData):List PyData->DE->M (List PyData)
 | [],_,F=>some ([],F)
 | d::r,E,F=>(bd d E).bind λE1=>(mt E1 F).bind λp=>if p.1=true then(mi1 E1 p.2).bind λits=>(a39 bd1 mt1 me its.1 E1 its.2).bind λz=>(a0M bd mt mi1 bd1 mt1 me r z.1.2 z.2).bind λw=>some (z.1.1++w.1,w.2) else a0M bd mt mi1 bd1 mt1 me r E1 p.2
noncomputable def a8G (mi:DE->M (List PyData))(k:Nat)(cap:List Nat)(bd:PyData->DE->Option DE)(mt:DE->M Bool)(mi1:DE->M (List PyData))(bd1:PyData->DE->Option DE)(mt1:DE->M Bool)(me:DE->M PyData):DE->M PyData:=λE F =>
 (mi E F).bind λp=>(a0M bd mt mi1 bd1 mt1 me p.1 (a1v k cap E) p.2).bind λz=>if z.1.length≤sizeLine then some (.list z.1,z.2) else none
theorem b2k {wi wi1:TI}{mi mi1:DE->M (List PyData)}{k:Nat}{cap:List Nat}{g g1:TG}{bd bd1:PyData->DE->Option DE}{tt tt1:TT}{mt mt1:DE->M Bool}{me:DE->M PyData}(hi:TIs K wi mi)(hg:TGd K g bd)(ht:TTd K tt mt)
  (hi1:TId K wi1 mi1) (hg1:TGd K g1 bd1) (ht1:TTd K tt1 mt1) (he:TEd K te me):TEd K (b0n wi k cap g tt wi1 g1 tt1 te) (a8G mi k cap bd mt mi1 bd1 mt1 me):=λG B E F σ H Q d F' I e q=>by
 obtain⟨⟨items,F1⟩,e1,e⟩:=Option.bind_eq_some_iff.mp e
 obtain⟨⟨whole,F2⟩,e2,e⟩:=Option.bind_eq_some_iff.mp e
 split at e
 ·rename_i hsz
  cases e
  have hsz:whole.length≤sizeLine:=hsz
  refine hi G B E F σ H _ items F1 I e1 λJ H1 k1 f1 ok D hD=>?_
  have I1:SitE K G B E F1 σ H1:=I.step k1 f1
  have hBD:D ∉ B:=I1.bk.nin hD
  have hfD:D ∉ k9 K G:=λz=>hBD (I.fB D z)
  have stab:∀{H':Hp},Kp (k9 K G) H1 H'->Kp (k9 K G) H1 H'∧i4 (hid H1 B) (hid H' (D::B)):=λ{H'} k=>⟨k,λb o eb=>by
   by_cases hb:b∈B
   ·rw[A4 hb]at eb;cases eb
   ·rw[j8 hb]at eb
    rw[j8 (by
     intro z
     rcases List.mem_cons.mp z with rfl | z
     ·rw[hD]at eb;cases eb
     ·exact hb z)]
    exact k b o eb λz=>hb (I.fB b z)⟩
  refine⟨λi m σ' H'=>m=items.length-i∧i≤items.length∧∃E F done rest acc,SitE K G (D::B) E F σ' H'∧H' D=some (.lst acc)∧Kp (k9 K G) H1 H'∧(∀(j:Nat) (ds:List PyData),E[j]? = some (some (DV.own ds))->σ'[j]? ≠ some (some (V.ref D)))∧a6 K (hid H' (D::B)) done acc∧a0M bd mt mi1 bd1 mt1 me (items.drop i) E F=some (rest,F2)∧whole=done++rest,⟨items.length,by simp,Nat.zero_le _,a1v k cap E,F1,[],whole,[],(I1.cap k cap).more hD,g6,Kp.upd hD,λj ds ej z=>?_,a6.nil,e2,rfl⟩,?_⟩
  ·obtain⟨v,v1,a,xs,rfl,_,_,ha,_⟩:=(I1.cap k cap).loc j _ ej
   rw[v1]at z
   cases z
   rw[hD]at ha;cases ha
  rintro i m σ' H' ⟨rfl,hil,E',F3,done,rest,acc,I2,hD2,k2,ow,hd2,e3,ew⟩
  by_cases hlt:i<items.length
  ·refine .inr ⟨((ok H' (D::B) (stab k2)).1 i items[i] (by simp[hlt])).1,λx H2 y=>?_⟩
   obtain⟨s2,hx⟩:=((ok H' (D::B) (stab k2)).1 i items[i] (by simp[hlt])).2 x H2 y
   have hx':=hx I2.bk
   rw[List.drop_eq_getElem_cons hlt,a0M]at e3
   obtain⟨E4,e4,e3⟩:=Option.bind_eq_some_iff.mp e3
   obtain⟨⟨b,F5⟩,e5,e3⟩:=Option.bind_eq_some_iff.mp e3
   have I3:SitE K G (D::B) E' F3 σ' H2:=I2.step (Kp.same s2) (I2.fd.same s2)
   refine hg G (D::B) E' F3 σ' H2 x items[i] E4 _ I3 hx' e4 λσ4 I4 fr=>?_
   have ow4:∀(j:Nat) (ds:List PyData),E4[j]? = some (some (DV.own ds))->σ4[j]? ≠ some (some (V.ref D)):=λj ds ej=>by
    obtain⟨a1,a2⟩:=fr j λy z=>by rw[ej]at z;cases z
    rw[a2];exact ow j ds (a1▸ej)
   refine ht G (D::B) E4 F3 σ4 H2 _ b F5 I4 e5 λH5 k5 f5=>?_
   have kall:Kp (k9 K G) H1 H5:=(k2.trans (Kp.same s2)).trans k5
   have I5:SitE K G (D::B) E4 F5 σ4 H5:=I4.step k5 f5
   have hD5:H5 D=some (.lst acc):=k5 D _ (s2 D _ hD2) hfD
   have hd5:a6 K (hid H5 (D::B)) done acc:=(hd2.same ((Kp.same s2).hid (fp:=[]) (by simp))).same (k5.hid I4.fB)
   cases b with
   | false=>exact⟨items.length-(i+1),by omega,rfl,hlt,E4,F5,done,rest,acc,I5,hD5,kall,ow4,hd5,e3,ew⟩
   | true =>
    obtain⟨⟨its,F6⟩,e6,e3⟩:=Option.bind_eq_some_iff.mp e3
    obtain⟨⟨⟨zs,Ez⟩,F7⟩,e7,e3⟩:=Option.bind_eq_some_iff.mp e3
    obtain⟨⟨ws,F8⟩,e8,e3⟩:=Option.bind_eq_some_iff.mp e3
    cases e3
    refine hi1 G (D::B) E4 F5 σ4 H5 _ its F6 I5 e6 λJ1 H6 k6 f6 ok1=>?_
    have I6:SitE K G (D::B) E4 F6 σ4 H6:=I5.step k6 f6
    have hD6:H6 D=some (.lst acc):=k6 D _ hD5 hfD
    refine⟨λj n σ5 acc5 H7=>n=its.length-j∧j≤its.length∧∃E F done' rest',SitE K G (D::B) E F σ5 H7∧H7 D=some (.lst acc5)∧Kp (k9 K G) H1 H7∧i4 (hid H6 (D::B)) (hid H7 (D::B))∧(∀(j:Nat) (ds:List PyData),E[j]? = some (some (DV.own ds))->σ5[j]? ≠ some (some (V.ref D)))∧a6 K (hid H7 (D::B)) done' acc5∧a39 bd1 mt1 me (its.drop j) E F=some ((rest',Ez),F7)∧whole=done'++rest'++ws,
     ⟨its.length,acc,hD6,by simp,Nat.zero_le _,E4,F6,done,zs,I6,hD6,kall.trans k6,λ_ _ z=>z,ow4,hd5.same (k6.hid I5.fB),e7,by rw[ew,List.append_assoc]⟩,?_⟩
    rintro j n σ5 acc5 H7 ⟨rfl,hj,E5,F9,done5,rest5,I7,hD7,k7,s7,ow5,hd7,e9,ew9⟩
    by_cases hjl:j<its.length
    ·refine .inr ⟨((ok1 H7 (D::B) s7).1 j its[j] (by simp[hjl])).1,λx1 H8 y1=>?_⟩
     obtain⟨s8,hx8⟩:=((ok1 H7 (D::B) s7).1 j its[j] (by simp[hjl])).2 x1 H8 y1
     have hx8':=hx8 I7.bk
     rw[List.drop_eq_getElem_cons hjl,a39]at e9
     obtain⟨Ea,ea,e9⟩:=Option.bind_eq_some_iff.mp e9
     obtain⟨⟨bb,Fb⟩,eb,e9⟩:=Option.bind_eq_some_iff.mp e9
     have I8:SitE K G (D::B) E5 F9 σ5 H8:=I7.step (Kp.same s8) (I7.fd.same s8)
     refine hg1 G (D::B) E5 F9 σ5 H8 x1 its[j] Ea _ I8 hx8' ea λσa Ia fra=>?_
     have owa:∀(j:Nat) (ds:List PyData),Ea[j]? = some (some (DV.own ds))->σa[j]? ≠ some (some (V.ref D)):=λj ds ej=>by
      obtain⟨a1,a2⟩:=fra j λy z=>by rw[ej]at z;cases z
      rw[a2];exact ow5 j ds (a1▸ej)
     refine ht1 G (D::B) Ea F9 σa H8 _ bb Fb Ia eb λHb kb fb=>?_
     have kallb:Kp (k9 K G) H1 Hb:=(k7.trans (Kp.same s8)).trans kb
     have Ib:SitE K G (D::B) Ea Fb σa Hb:=Ia.step kb fb
     have hDb:Hb D=some (.lst acc5):=kb D _ (s8 D _ hD7) hfD
     have s78:i4 (hid H7 (D::B)) (hid H8 (D::B)):=(Kp.same s8).hid (fp:=[]) (by simp)
     have s8b:i4 (hid H8 (D::B)) (hid Hb (D::B)):=kb.hid Ia.fB
     have hdb:a6 K (hid Hb (D::B)) done5 acc5:=(hd7.same s78).same s8b
     have s6b:i4 (hid H6 (D::B)) (hid Hb (D::B)):=λb o z=>s8b b o (s78 b o (s7 b o z))
     cases bb with
     | false=>exact⟨hDb,its.length-(j+1),by omega,rfl,hjl,Ea,Fb,done5,rest5,Ib,hDb,kallb,s6b,owa,hdb,e9,ew9⟩
     | true =>
      obtain⟨⟨yd,Fc⟩,ec,e9⟩:=Option.bind_eq_some_iff.mp e9
      obtain⟨⟨⟨zs',Ez'⟩,Fd⟩,ed,e9⟩:=Option.bind_eq_some_iff.mp e9
      cases e9
      refine he G (D::B) Ea Fb σa Hb _ yd Fc Ib ec λv Hc kc fc hc=>?_
      have hDc:Hc D=some (.lst acc5):=kc D _ hDb hfD
      have Ic:SitE K G (D::B) Ea Fc σa Hc:=Ib.step kc fc
      have hdc:=hdb.same (kc.hid Ib.fB)
      have hlen:acc5.length<sizeLine:=by
       have h1:=hd7.length
       have h2:=congrArg List.length ew9
       simp only[List.length_append,List.length_cons]at h2
       omega
      refine⟨hDc,hlen,its.length-(j+1),by omega,rfl,hjl,Ea,Fc,done5++[yd],zs',Ic.wr hfD owa hDc,g6,λb o eb nb=>?_,?_,owa,?_,ed,by rw[ew9];simp⟩
      ·have:=kc b o (kallb b o eb nb) nb
       rw[d8];exact this
       intro z;subst z;rw[hD]at eb;cases eb
      ·rw[S7 List.mem_cons_self]
       exact λb o z=>kc.hid Ib.fB b o (s6b b o z)
      ·rw[S7 List.mem_cons_self]
       exact hdc.snoc hc
    ·have hje:j=its.length:=by omega
     subst hje
     rw[List.drop_length,a39]at e9
     cases e9
     rw[List.append_nil]at ew9
     exact .inl ⟨(ok1 H7 (D::B) s7).2,items.length-(i+1),by omega,rfl,hlt,_,_,done5,ws,acc5,I7,hD7,k7,ow5,hd7,e8,ew9⟩
  ·have hie:i=items.length:=by omega
   subst hie
   rw[List.drop_length,a0M]at e3
   cases e3
   rw[List.append_nil]at ew
   subst ew
   exact .inl ⟨(ok H' (D::B) (stab k2)).2,q _ H' (k1.trans k2) I2.fd (b7.lst (by rw[j8 hBD];exact hD2) (hd2.same (N8 λb hb=>List.mem_cons_of_mem _ hb)))⟩
 ·cases e
theorem b1b {ifs ifs1:List Expr}{scope osc:Scope}{N:List Str}{k:Nat}{cap:List Nat}{wi wi1:TI}{g g1:TG}{tt tt1:TT}{mi mi1:DE->M (List PyData)}{bd bd1:PyData->DE->Option DE}{mt mt1:DE->M Bool}{me:DE->M PyData}
  (hc:X.calm=true) (hosc:X.env.scope=osc) (hcap:Caps X.N osc N k cap scope) (hi:Eib K X tg iter wi mi)
  (hg:∀cl C ex pins s H,Eg K (cxC X N scope cl C ex pins s H) tg g bd)
  (ht:∀cl C ex pins s H,Ets K (cxC X N scope cl C ex pins s H) ifs tt mt)
  (hi1:∀cl C ex pins s H,Ei K (cxC X N scope cl C ex pins s H) tg1 iter1 wi1 mi1)
  (hg1:∀cl C ex pins s H,Eg K (cxC X N scope cl C ex pins s H) tg1 g1 bd1)
  (ht1:∀cl C ex pins s H,Ets K (cxC X N scope cl C ex pins s H) ifs1 tt1 mt1)
  (he:∀cl C ex pins s H,Ev K (cxC X N scope cl C ex pins s H) elt te me)
  (hs1:∀cl C ex pins s H x,foldedSetIterable iter1 (cxC X N scope cl C ex pins s H).env x=pure x:=by intros;rfl)
  (hs:∀x,foldedSetIterable iter X.env x=pure x:=by intro _;rfl) :
  Ev K X (.ListComp elt [⟨tg,iter,ifs,0⟩,⟨tg1,iter1,ifs1,0⟩] scope pos) (b0n wi k cap g tt wi1 g1 tt1 te) (a8G mi k cap bd mt mi1 bd1 mt1 me) :=
 ⟨b0y hc hosc hcap hi.pi (λcl C ex pins s H=>(hg cl C ex pins s H).pg) (λcl C ex pins s H=>(ht cl C ex pins s H).pts) (λcl C ex pins s H=>(hi1 cl C ex pins s H).pi) (λcl C ex pins s H=>(hg1 cl C ex pins s H).pg) (λcl C ex pins s H=>(ht1 cl C ex pins s H).pts) (λcl C ex pins s H=>(he cl C ex pins s H).pe) hs1 hs,
  b2k hi.ok (hg [] 0 [] [] X.s₀ X.H₀).ok (ht [] 0 [] [] X.s₀ X.H₀).ok (hi1 [] 0 [] [] X.s₀ X.H₀).ok (hg1 [] 0 [] [] X.s₀ X.H₀).ok (ht1 [] 0 [] [] X.s₀ X.H₀).ok (he [] 0 [] [] X.s₀ X.H₀).ok⟩
end
end L3
namespace L3
open PySem PySem.Spec PyProof.Rows L2
variable [Fam]
noncomputable def wp {α σ:Type}(m:Option (α × σ))(Q:α->σ->Prop):Prop:=∃a F',m=some (a,F')∧Q a F'
section
variable {α β γ σ τ:Type}{Q:α->σ->Prop}
theorem c7 {a:α}{F:σ}:wp (some (a,F)) Q↔Q a F:=⟨λ⟨_,_,e,q⟩=>by cases e;exact q,λq=>⟨_,_,rfl,q⟩⟩
theorem x3:wp (none:Option (α × σ)) Q↔False:=⟨λ⟨_,_,e,_⟩=>(by cases e),False.elim⟩
theorem b8 {x:Option (β × τ)}{f:β × τ->Option (α × σ)}:wp (x.bind f) Q↔wp x λa F'=>wp (f (a,F')) Q:=by
 constructor
 ·rintro ⟨a,F',e,q⟩
  obtain⟨⟨b,F1⟩,e1,e2⟩:=Option.bind_eq_some_iff.mp e
  exact⟨b,F1,e1,a,F',e2,q⟩
 ·rintro ⟨b,F1,e1,a,F',e2,q⟩
  exact⟨a,F',by rw[e1];exact e2,q⟩
theorem x5 {o:Option γ}{f:γ->Option (α × σ)}:wp (o.bind f) Q↔∃z,o=some z∧wp (f z) Q:=by
 constructor
 ·rintro ⟨a,F',e,q⟩
  obtain⟨z,e1,e2⟩:=Option.bind_eq_some_iff.mp e
  exact⟨z,e1,a,F',e2,q⟩
 ·rintro ⟨z,e1,a,F',e2,q⟩
  exact⟨a,F',by rw[e1];exact e2,q⟩
theorem a4O {c:Prop}[Decidable c]{a b:Option (α × σ)}:wp (if c then a else b) Q↔if c then wp a Q else wp b Q:=by
 split <;> rfl
theorem j4 {m:Option (α × σ)}{Q':α->σ->Prop}(h:wp m Q)(hq:∀a F,Q a F->Q' a F):wp m Q':=by
 obtain⟨a,F,e,q⟩:=h
 exact⟨a,F,e,hq a F q⟩
theorem z5 {m:Option (α × σ)}{Q':α->σ->Prop}(h:∀a F,Q a F↔Q' a F):wp m Q↔wp m Q':=⟨λz=>j4 z λa F q=>(h a F).mp q,λz=>j4 z λa F q=>(h a F).mpr q⟩
theorem a5K {z:γ}{P:γ->Prop}:(∃y,some z=some y∧P y)↔P z:=⟨λ⟨_,e,p⟩=>by cases e;exact p,λp=>⟨_,rfl,p⟩⟩
theorem T7 {m:Int}{F:FdS}{Q:PyData->FdS->Prop}(h0:0<m)(h1:m<1073741824)(h2:F.t<199999)(q:∀r F',0≤r->r<m->F'.t=F.t+1->Q (.int r) F'):wp (drawS [.feed,.dat (.int m)] F) Q:=by
 obtain⟨r,F',e,r0,r1,ht⟩:=Fam.draw_some h0 h1 h2
 exact⟨.int r,F',by show(Fam.drawF m F).bind _=_;rw[e];rfl,q r F' r0 r1 ht⟩
end
noncomputable def gD (o:Option (Option DV))(P:PyData->Prop):Prop:=match o with
 | some (some (.dat d))=>P d
 | _=>False
noncomputable def gW (o:Option (Option DV))(P:PyData->Prop):Prop:=match o with
 | some (some (.dat d))=>P d
 | some (some (.own ds))=>P (.list ds)
 | _=>False
noncomputable def gF (o:Option (Option DV))(P:Prop):Prop:=match o with
 | some (some .feed)=>P
 | _=>False
noncomputable def oB {γ:Type}(o:Option γ)(P:γ->Prop):Prop:=∃z,o=some z∧P z
noncomputable def cIf (c:Bool)(A B:Prop):Prop:=if c=true then A else B
theorem a6I {A B:Prop}:cIf true A B↔A:=by simp[cIf]
theorem a7o {A B:Prop}:cIf false A B↔B:=by simp[cIf]
theorem U3 {c:Bool}{A B:Prop}(h1:c=true->A)(h2:c=false->B):cIf c A B:=by
 cases c
 ·exact a7o.mpr (h2 rfl)
 ·exact a6I.mpr (h1 rfl)
section
variable {E:DE}{F:FdS}
theorem n8 {d:PyData}{Q:PyData->FdS->Prop}:wp (sC d E F) Q↔Q d F:=c7
theorem l7 {i:Nat}{Q:PyData->FdS->Prop}:wp (sV i E F) Q↔gD E[i]? λd=>Q d F:=by
 unfold sV gD;generalize E[i]? = o
 rcases o with _ | _ | x
 ·exact x3
 ·exact x3
 ·cases x <;> first | exact c7 | exact x3
theorem j2 {i:Nat}{Q:PyData->FdS->Prop}:wp (sW i E F) Q↔gW E[i]? λd=>Q d F:=by
 unfold sW gW;generalize E[i]? = o
 rcases o with _ | _ | x
 ·exact x3
 ·exact x3
 ·cases x <;> first | exact c7 | exact x3
theorem a8R {f:PyData->Option PyData}{a:DE->M PyData}{Q:PyData->FdS->Prop}:wp (s1 f a E F) Q↔wp (a E F) λx F1=>oB (f x) λz=>Q z F1:=by
 unfold s1;rw[b8];simp only[x5,c7,oB]
theorem n6 {f:PyData->PyData->Option PyData}{a b:DE->M PyData}{Q:PyData->FdS->Prop}:wp (s2 f a b E F) Q↔wp (a E F) λx F1=>wp (b E F1) λy F2=>oB (f x y) λz=>Q z F2:=by
 unfold s2;rw[b8];refine z5 λx F1=>?_;rw[b8];refine z5 λy F2=>?_;simp only[x5,c7,oB]
theorem E3 {f:List PyData->Option PyData}{a:DE->M (List PyData)}{Q:PyData->FdS->Prop}:wp (sN f a E F) Q↔wp (a E F) λx F1=>oB (f x) λz=>Q z F1:=by
 unfold sN;rw[b8];simp only[x5,c7,oB]
theorem d9 {Q:List PyData->FdS->Prop}:wp (d7 E F) Q↔Q [] F:=c7
theorem b9 {a:DE->M PyData}{r:DE->M (List PyData)}{Q:List PyData->FdS->Prop}:wp (a7 a r E F) Q↔wp (a E F) λx F1=>wp (r E F1) λxs F2=>Q (x::xs) F2:=by
 unfold a7;rw[b8];simp only[b8,c7]
theorem C2 {a:DE->M (List PyData)}{Q:PyData->FdS->Prop}:wp (z8 a E F) Q↔wp (a E F) λxs F1=>xs.length≤sizeLine∧Q (.tuple xs) F1:=by
 unfold z8;rw[b8]
 constructor
 ·exact λh=>j4 h λxs F1 h=>by
   split at h
   ·rename_i hl;exact⟨hl,c7.mp h⟩
   ·exact(x3.mp h).elim
 ·exact λh=>j4 h λxs F1 h=>by rw[if_pos h.1];exact c7.mpr h.2
theorem a2B {a:DE->M (List PyData)}{Q:PyData->FdS->Prop}:wp (a41 a E F) Q↔wp (a E F) λxs F1=>xs.length≤sizeLine∧Q (.list xs) F1:=by
 unfold a41;rw[b8]
 constructor
 ·exact λh=>j4 h λxs F1 h=>by
   split at h
   ·rename_i hl;exact⟨hl,c7.mp h⟩
   ·exact(x3.mp h).elim
 ·exact λh=>j4 h λxs F1 h=>by rw[if_pos h.1];exact c7.mpr h.2
theorem v9 {Q:List DV->FdS->Prop}:wp (r9 E F) Q↔Q [] F:=c7
theorem y8 {a:DE->M PyData}{r:DE->M (List DV)}{Q:List DV->FdS->Prop}:wp (vD a r E F) Q↔wp (a E F) λx F1=>wp (r E F1) λxs F2=>Q (.dat x::xs) F2:=by
 unfold vD;rw[b8];simp only[b8,c7]
theorem b0S {i:Nat}{r:DE->M (List DV)}{Q:List DV->FdS->Prop}:wp (vF i r E F) Q↔gF E[i]? (wp (r E F) λxs F2=>Q (.feed::xs) F2):=by
 unfold vF gF;generalize E[i]? = o
 rcases o with _ | _ | x
 ·exact x3
 ·exact x3
 ·cases x with
  | feed=>exact b8.trans (z5 λ_ _=>c7)
  | _=>exact x3
theorem r8 {f:List DV->M PyData}{ms:DE->M (List DV)}{Q:PyData->FdS->Prop}:wp (k4 f ms E F) Q↔wp (ms E F) λxs F1=>wp (f xs F1) Q:=by
 unfold k4;rw[b8]
theorem a8k {a:DE->M PyData}{l u:DE->M (Option Int)}{Q:PyData->FdS->Prop}:wp (a2M a l u E F) Q↔wp (a E F) λx F1=>wp (l E F1) λlo F2=>wp (u E F2) λhi F3=>oB (a6r lo hi x) λz=>Q z F3:=by
 unfold a2M;rw[b8];refine z5 λx F1=>?_;rw[b8];refine z5 λy F2=>?_;rw[b8];refine z5 λy F2=>?_;simp only[x5,c7,oB]
theorem a6C {Q:Option Int->FdS->Prop}:wp (oNo E F) Q↔Q none F:=c7
theorem b0t {a:DE->M PyData}{Q:Option Int->FdS->Prop}:wp (oI a E F) Q↔wp (a E F) λx F1=>oB (Y9 x) λi=>Q (some i) F1:=by
 unfold oI;rw[b8];simp only[x5,c7,oB]
theorem a1R {c:DE->M Bool}{a b:DE->M PyData}{Q:PyData->FdS->Prop}:wp (sIf c a b E F) Q↔wp (c E F) λx F1=>cIf x (wp (a E F1) Q) (wp (b E F1) Q):=by
 unfold sIf;rw[b8];simp only[a4O,cIf]
theorem P4 {a:DE->M PyData}{Q:Bool->FdS->Prop}:wp (uB a E F) Q↔wp (a E F) λx F1=>oB (a1H x) λc=>Q c F1:=by
 unfold uB;rw[b8];simp only[x5,c7,oB]
theorem a9x {a:DE->M PyData}{Q:Bool->FdS->Prop}:wp (uT a E F) Q↔wp (a E F) λx F1=>oB (a9E x) λc=>Q c F1:=by
 unfold uT;rw[b8];simp only[x5,c7,oB]
theorem a7q {a b:DE->M Bool}{Q:Bool->FdS->Prop}:wp (uOr a b E F) Q↔wp (a E F) λx F1=>cIf x (Q true F1) (wp (b E F1) Q):=by
 unfold uOr;rw[b8];simp only[a4O,c7,cIf]
theorem a1C {Q:Bool->FdS->Prop}:wp (E8 E F) Q↔Q true F:=c7
theorem a2m {Q:Out->FdS->Prop}:wp (mNx E F) Q↔Q (.nx E) F:=c7
noncomputable def sqK (b:DE->M Out)(Q:Out->FdS->Prop)(o:Out)(F1:FdS):Prop:=match o with
  | .nx E1=>wp (b E1 F1) Q
  | o=>Q o F1
theorem i8 {b:DE->M Out}{Q:Out->FdS->Prop}{E1:DE}(h:wp (b E1 F) Q):sqK b Q (.nx E1) F:=h
theorem a86 {b:DE->M Out}{Q:Out->FdS->Prop}{d:PyData}(h:Q (.rt d) F):sqK b Q (.rt d) F:=h
theorem j7 {a b:DE->M Out}{Q:Out->FdS->Prop}:wp (mSq a b E F) Q↔wp (a E F) (sqK b Q):=by
 unfold mSq;rw[b8]
 refine z5 λo F1=>?_
 cases o with
 | nx E1=>exact Iff.rfl
 | rt d=>exact c7
 | bk d=>exact c7
 | ct d=>exact c7
theorem L0 {a:DE->M PyData}{Q:Out->FdS->Prop}:wp (mRt a E F) Q↔wp (a E F) λx F1=>Q (.rt x) F1:=by
 unfold mRt;rw[b8];simp only[c7]
theorem t7 {i:Nat}{a:DE->M PyData}{Q:Out->FdS->Prop}:wp (q4 i a E F) Q↔wp (a E F) λx F1=>i<E.length∧Q (.nx (E.set i (some (.dat x)))) F1:=by
 unfold q4;rw[b8]
 refine z5 λx F1=>?_
 unfold bN
 by_cases h:i<E.length
 ·rw[if_pos h];simp only[x5,c7,a5K,h,true_and]
 ·rw[if_neg h];simp only[x5,h,false_and]
  exact⟨λ⟨_,e,_⟩=>(by cases e),False.elim⟩
theorem Q6 {bd:PyData->DE->Option DE}{a:DE->M PyData}{Q:Out->FdS->Prop}:wp (M1 bd a E F) Q↔wp (a E F) λx F1=>oB (bd x E) λE1=>Q (.nx E1) F1:=by
 unfold M1;rw[b8]
 simp only[x5,c7,oB]
theorem Y8 {c:DE->M Bool}{a b:DE->M Out}{Q:Out->FdS->Prop}:wp (mIf c a b E F) Q↔wp (c E F) λx F1=>cIf x (wp (a E F1) Q) (wp (b E F1) Q):=by
 unfold mIf;rw[b8];simp only[a4O,cIf]
theorem a2y {i:Nat}{a:DE->M (List PyData)}{Q:Out->FdS->Prop}:wp (a01 i a E F) Q↔wp (a E F) λx F1=>i<E.length∧Q (.nx (E.set i (some (.own x)))) F1:=by
 unfold a01;rw[b8]
 refine z5 λx F1=>?_
 by_cases h:i<E.length
 ·rw[if_pos h];simp only[c7,h,true_and]
 ·rw[if_neg h];simp only[h,false_and]
  exact x3
theorem b0o {i:Nat}{v k:DE->M PyData}{ds:List PyData}{Q:Out->FdS->Prop}(h:E[i]? = some (some (.own ds))):wp (a6J i v k E F) Q↔wp (v E F) λx F1=>wp (k E F1) λy F2=>oB (Y9 y) λn=>oB (ixN ds.length n) λj=>Q (.nx (E.set i (some (.own (ds.set j x))))) F2:=by
 unfold a6J;rw[b8]
 have e:Q0 E i=some ds:=by unfold Q0;rw[h]
 refine z5 λx F1=>?_;rw[b8];refine z5 λy F2=>?_
 simp only[x5,c7,e,a5K,oB]
theorem Q8 {mi:DE->M (List PyData)}{bd:PyData->DE->Option DE}{body:DE->M Out}{Q:Out->FdS->Prop}:wp (O0 mi bd body E F) Q↔wp (mi E F) λds F1=>wp (U0 bd body ds E F1) Q:=by
 unfold O0;rw[b8]
theorem a58 {a:DE->M (List PyData)}{Q:List PyData->FdS->Prop}:wp (a0v a E F) Q↔wp (a E F) λx F1=>oB (Q2 x) λds=>Q ds F1:=by
 unfold a0v;rw[b8];simp only[x5,c7,oB]
theorem v7 {a:DE->M PyData}{Q:List PyData->FdS->Prop}:wp (B5 a E F) Q↔wp (a E F) λx F1=>oB (a1T x) λds=>Q ds F1:=by
 unfold B5;rw[b8];simp only[x5,c7,oB]
theorem O9 {a:DE->M (List PyData)}{Q:List PyData->FdS->Prop}:wp (K3 a E F) Q↔wp (a E F) λx F1=>x.length≤sizeLine∧Q x F1:=by
 unfold K3;rw[b8]
 constructor
 ·exact λh=>j4 h λxs F1 h=>by
   split at h
   ·rename_i hl;exact⟨hl,c7.mp h⟩
   ·exact(x3.mp h).elim
 ·exact λh=>j4 h λxs F1 h=>by rw[if_pos h.1];exact c7.mpr h.2
theorem J0 {mi:DE->M (List PyData)}{k:Nat}{cap:List Nat}{bd:PyData->DE->Option DE}{mt:DE->M Bool}{me:DE->M PyData}{Q:PyData->FdS->Prop}:wp (sLC mi k cap bd mt me E F) Q↔wp (mi E F) λds F1=>ds.length≤sizeLine∧wp (L5 bd mt me ds (a1v k cap E) F1) λzs F2=>Q (.list zs) F2:=by
 unfold sLC;rw[b8]
 constructor
 ·refine λh=>j4 h λds F1 h=>?_
  dsimp only at h
  split at h
  ·rename_i hl;rw[b8]at h;exact⟨hl,j4 h λzs F2 h=>c7.mp h⟩
  ·exact(x3.mp h).elim
 ·refine λh=>j4 h λds F1 h=>?_
  dsimp only
  rw[if_pos h.1,b8]
  exact j4 h.2 λzs F2 h=>c7.mpr h
noncomputable def a8e (Q:PyData->FdS->Prop)(o:Out)(F1:FdS):Prop:=match o with
  | .rt d=>Q d F1
  | .nx _=>Q .none F1
  | _=>False
theorem N4 {Q:PyData->FdS->Prop}{d:PyData}(h:Q d F):a8e Q (.rt d) F:=h
theorem P2 {N:List Str}{m:DE->M Out}{args:List DV}{Q:PyData->FdS->Prop}:wp (B9 N m args F) Q↔wp (m (v6 N args) F) (a8e Q):=by
 unfold B9;rw[b8]
 refine z5 λo F1=>?_
 cases o with
 | nx E1=>exact c7
 | rt d=>exact c7
 | bk d=>exact x3
 | ct d=>exact x3
theorem l8 {o:Option (Option DV)}{d:PyData}{P:PyData->Prop}(h:o=some (some (.dat d)))(q:P d):gD o P:=by rw[h];exact q
theorem j9 {o:Option (Option DV)}{d:PyData}{P:PyData->Prop}(h:o=some (some (.dat d)))(q:P d):gW o P:=by rw[h];exact q
theorem Y0 {o:Option (Option DV)}{ds:List PyData}{P:PyData->Prop}(h:o=some (some (.own ds)))(q:P (.list ds)):gW o P:=by rw[h];exact q
theorem b11 {o:Option (Option DV)}{P:Prop}(h:o=some (some .feed))(q:P):gF o P:=by rw[h];exact q
theorem c9 {γ:Type}{o:Option γ}{z:γ}{P:γ->Prop}(h:o=some z)(q:P z):oB o P:=⟨z,h,q⟩
theorem J8 {c:Bool}{A B:Prop}(h:c=true)(q:A):cIf c A B:=by rw[h];exact a6I.mpr q
theorem m5 {c:Bool}{A B:Prop}(h:c=false)(q:B):cIf c A B:=by rw[h];exact a7o.mpr q
theorem u6 {n:Nat}(h:Nat.ble n 10000=true):n≤sizeLine:=Nat.le_trans (Nat.le_of_ble_eq_true h) (by rw[sizeLine_eq];decide)
theorem k8 {i n:Nat}(h:Nat.ble (i+1) n=true):i<n:=Nat.le_of_ble_eq_true h
end
noncomputable def Tr (f:List DV->M PyData)(args:List DV)(c:Int)(P:PyData->Prop):Prop:=∀F:FdS,F.t+c≤199999->∃d F',f args F=some (d,F')∧F'.t≤F.t+c∧P d
theorem Tr.wp {f:List DV->M PyData}{args:List DV}{c:Int}{P:PyData->Prop}{F:FdS}{Q:PyData->FdS->Prop}(h:Tr f args c P)(hF:F.t+c≤199999)(q:∀d F',F'.t≤F.t+c->P d->Q d F'):wp (f args F) Q:=by
 obtain⟨d,F',e,ht,p⟩:=h F hF
 exact⟨d,F',e,q d F' ht p⟩
theorem Tr.of {f:List DV->M PyData}{args:List DV}{c:Int}{P:PyData->Prop}(h:∀F:FdS,F.t+c≤199999->L3.wp (f args F) λd F'=>F'.t≤F.t+c∧P d):Tr f args c P:=λF hF=>by
 obtain⟨d,F',e,q⟩:=h F hF
 exact⟨d,F',e,q⟩
mutual
noncomputable def cnt:PyData->Nat
 | .tuple ds=>1+a1M ds
 | .list ds=>1+a1M ds
 | _=>1
noncomputable def a1M:List PyData->Nat
 | []=>0
 | d::ds=>cnt d+a1M ds
end
noncomputable def asc (x:Str):Prop:=∀c∈x.cps.toList,c<128
mutual
noncomputable def scs (n:Nat):PyData->Prop
 | .none=>True
 | .bool _=>True
 | .int i=>i.natAbs<10 ^ 300+n
 | .str x=>x.length≤600+n∧asc x
 | .tuple ds=>a5U n ds
 | .list ds=>a5U n ds
 | .dict _=>False
noncomputable def a5U (n:Nat):List PyData->Prop
 | []=>True
 | d::ds=>scs n d∧a5U n ds
end
theorem Y6 {n:Nat}:∀{ds:List PyData},a5U n ds↔∀d∈ds,scs n d
 | []=>by simp[a5U]
 | d::ds=>by simp[a5U,Y6 (ds:=ds)]
structure Gd (n N k:Nat) (d:PyData):Prop where
 sc:scs n d
 dp:d.depth≤k
 ct:cnt d≤N
theorem a0y {k:Nat}:∀{ds:List PyData},PyData.depthAll ds≤k↔∀d∈ds,d.depth≤k
 | []=>by simp[PyData.depthAll]
 | d::ds=>by
  have:=a0y (k:=k) (ds:=ds)
  simp only[PyData.depthAll,List.mem_cons,forall_eq_or_imp]
  rw[←this];omega
theorem Gd.tup {n N k M:Nat}{ds:List PyData}(h:∀d∈ds,Gd n M k d)(hc:1+a1M ds≤N):Gd n N (k+1) (.tuple ds):=by
 refine⟨?_,?_,?_⟩
 ·simp only[scs];rw[Y6];exact λd hd=>(h d hd).sc
 ·simp only[PyData.depth]
  have:PyData.depthAll ds≤k:=a0y.mpr λd hd=>(h d hd).dp
  omega
 ·simp only[cnt];exact hc
theorem Gd.lst {n N k M:Nat}{ds:List PyData}(h:∀d∈ds,Gd n M k d)(hc:1+a1M ds≤N):Gd n N (k+1) (.list ds):=by
 obtain⟨a,b,c⟩:=Gd.tup h hc
 exact⟨a,b,c⟩
end L3
namespace L3
open PySem PySem.Spec PyProof.Rows L2
variable [Fam]
structure Nod (d:PyData):Prop where
 sh:d.showable=true
 nd:d.hasDict=false
 cl:d.canLay0=true
 ln:d.shown.length+2≤7100*cnt d
theorem a9d:(10:Nat) ^ 300≤2 ^ 1000:=by
 have h:((10:Nat) ^ 3) ^ 100≤(2 ^ 10) ^ 100:=Nat.pow_le_pow_left (by decide) 100
 rwa [←Nat.pow_mul,←Nat.pow_mul]at h
theorem b0H {n:Nat}(hn:n≤100):10 ^ 300+n≤2 ^ 1001:=by
 have h0:=a9d
 have h1:(2:Nat) ^ 1001=2 ^ 1000+2 ^ 1000:=by rw[Nat.pow_succ,Nat.mul_two]
 have h2:(2:Nat) ^ 7≤2 ^ 1000:=Nat.pow_le_pow_right (by decide) (by decide)
 have h3:(2:Nat) ^ 7=128:=by decide
 rw[h1]
 generalize (10:Nat) ^ 300=A at *
 generalize (2:Nat) ^ 1000=B at *
 omega
theorem b1W {ds:List PyData}:(∀d∈ds,Nod d)->PyData.showableAll ds=true∧PyData.hasDictAll ds=false∧PyData.canLayAll0 ds=true∧((PyData.shownAll ds).map (·.length)).sum+2*ds.length≤7100*a1M ds:=by
 induction ds with
 | nil=>intro _;exact⟨by simp[PyData.showableAll],by simp[PyData.hasDictAll],by simp[PyData.canLayAll0],by simp[PyData.shownAll,a1M]⟩
 | cons d ds ih =>
  intro h
  obtain⟨a,b,c,e⟩:=ih λx hx=>h x (List.mem_cons_of_mem _ hx)
  have hd:=h d List.mem_cons_self
  refine⟨by simp[PyData.showableAll,hd.sh,a],by simp[PyData.hasDictAll,hd.nd,b],by simp[PyData.canLayAll0,hd.cl,c],?_⟩
  simp only[PyData.shownAll,List.map_cons,List.sum_cons,List.length_cons,a1M]
  have:=hd.ln
  omega
theorem b1q {n:Nat}(hn:n≤100):∀m:Nat,∀d:PyData,sizeOf d<m->scs n d->Nod d:=by
 intro m
 induction m with
 | zero=>intro d h;exact absurd h (Nat.not_lt_zero _)
 | succ m ih =>
  intro d hm hs
  cases d with
  | none=>exact⟨rfl,rfl,rfl,by decide⟩
  | bool b=>exact⟨rfl,rfl,rfl,by cases b <;> decide⟩
  | int i =>
   simp only[scs]at hs
   have hb:i.natAbs<2 ^ 1001:=Nat.lt_of_lt_of_le hs (b0H hn)
   have:=Shw.int hb (by decide) (by decide)
   exact⟨this.sh,this.nd,rfl,by have:=this.ln;simp only[cnt];omega⟩
  | str x =>
   simp only[scs]at hs
   refine⟨rfl,rfl,?_,?_⟩
   ·simp only[PyData.canLay0,PyData.strOk]
    rw[Array.all_eq_true']
    intro c hc
    have:=hs.2 c (by simpa using hc)
    exact decide_eq_true (by omega)
   ·have h1:=PySem.StrLaws.reprText_len x λc hc=>Nat.lt_of_lt_of_le (hs.2 c hc) (by decide)
    simp only[PyData.shown,cnt]
    omega
  | tuple ds =>
   simp only[scs]at hs
   rw[Y6]at hs
   obtain⟨a,b,c,e⟩:=b1W λd hd=>ih d (by have:=List.sizeOf_lt_of_mem hd;simp at hm;omega) (hs d hd)
   refine⟨by simpa only[PyData.showable] using a,by simpa only[PyData.hasDict] using b,by simpa only[PyData.canLay0] using c,?_⟩
   have h5:=tupleText_len_le (PyData.shownAll ds)
   have h6:=PyData.shownAll_length ds
   simp only[PyData.shown,cnt]
   omega
  | list ds =>
   simp only[scs]at hs
   rw[Y6]at hs
   obtain⟨a,b,c,e⟩:=b1W λd hd=>ih d (by have:=List.sizeOf_lt_of_mem hd;simp at hm;omega) (hs d hd)
   refine⟨by simpa only[PyData.showable] using a,by simpa only[PyData.hasDict] using b,by simpa only[PyData.canLay0] using c,?_⟩
   have h5:=listText_len_le (PyData.shownAll ds)
   have h6:=PyData.shownAll_length ds
   simp only[PyData.shown,cnt]
   omega
  | dict kvs=>simp only[scs]at hs
section
variable {n N k:Nat}{d:PyData}
theorem Gd.nod (h:Gd n N k d)(hn:n≤100):Nod d:=b1q hn _ d (Nat.lt_succ_self _) h.sc
theorem Gd.shaped (h:Gd n N k d)(hn:n≤100)(hk:k≤50):PySem.SeqAt.shaped d=true:=by
 unfold PySem.SeqAt.shaped
 rw[(h.nod hn).cl]
 have h3:=h.dp
 simp
 omega
theorem b1a {i:Int}(h:i.natAbs<10 ^ 300+n):Gd n 1 0 (.int i):=⟨h,by simp[PyData.depth],by simp[cnt]⟩
end
theorem a67 {i:Int}{n:Nat}(h:i.natAbs≤100000000000000000000000000000000000000000):i.natAbs<10 ^ 300+n:=by
 have h1:(10:Nat) ^ 42≤10 ^ 300:=Nat.pow_le_pow_right (by decide) (by decide)
 have h2:100000000000000000000000000000000000000000<(10:Nat) ^ 42:=by decide
 generalize (10:Nat) ^ 300=A at *
 omega
end L3
namespace L3
open PySem PySem.Spec PyProof.Rows L2
variable [Fam]
section
variable {ds es:List PyData}{i j:Int}{x y:Str}{b c:Bool}{d:PyData}{T:String}
theorem a2Z:C3 (.int i) (.int j)=some (.int (i+j)):=rfl
theorem a0n:a00 (.int i) (.int j)=some (.int (i-j)):=rfl
theorem a6O:gtD (.int i) (.int j)=some (.bool (decide (j<i))):=rfl
theorem b2y:ltD (.int i) (.int j)=some (.bool (decide (i<j))):=rfl
theorem Q9:D2 [.tuple ds]=some (.int ds.length):=rfl
theorem a2x:D2 [.list ds]=some (.int ds.length):=rfl
theorem W4:m4 [.list ds]=some (.tuple ds):=rfl
theorem b1X:Y9 (.int i)=some i:=rfl
theorem b0u {lo hi:Option Int}:a6r lo hi (.tuple ds)=some (.tuple (a0P ds lo hi)):=rfl
theorem b0T {lo hi:Option Int}:a6r lo hi (.list ds)=some (.list (a0P ds lo hi)):=rfl
theorem G0:a1T (.tuple ds)=some ds:=rfl
theorem G6:a1T (.list ds)=some ds:=rfl
end
end L3
local macro_rules | `(tactic| walk_at "st")=>`(tactic| first | (with_reducible first | refine L3.i8 ?_ | refine L3.a86 ?_ | refine L3.N4 ?_ | refine L3.j7.mpr ?_ | refine L3.Y8.mpr ?_ | refine L3.t7.mpr ?_ | refine L3.L0.mpr ?_ | refine L3.a2m.mpr ?_ | refine r_uAnd.mpr ?_ | refine L3.a7q.mpr ?_ | refine r_uNot.mpr ?_ | refine L3.P4.mpr ?_ | refine L3.a9x.mpr ?_ | refine L3.a1C.mpr ?_ | refine L3.n6.mpr ?_ | refine L3.a8R.mpr ?_ | refine L3.E3.mpr ?_ | refine L3.n8.mpr ?_ | refine L3.l7.mpr ?_ | refine L3.j2.mpr ?_ | refine L3.d9.mpr ?_ | refine L3.b9.mpr ?_ | refine L3.C2.mpr ?_ | refine L3.a2B.mpr ?_ | refine L3.v9.mpr ?_ | refine L3.y8.mpr ?_ | refine L3.b0S.mpr ?_ | refine L3.r8.mpr ?_ | refine L3.a8k.mpr ?_ | refine L3.a6C.mpr ?_ | refine L3.b0t.mpr ?_ | refine r_sAnd.mpr ?_ | refine r_sOr.mpr ?_ | refine r_sNot.mpr ?_ | refine L3.a1R.mpr ?_ | refine L3.Q6.mpr ?_ | refine L3.a2y.mpr ?_ | refine L3.Q8.mpr ?_ | refine L3.a58.mpr ?_ | refine L3.v7.mpr ?_ | refine L3.O9.mpr ?_ | refine r_fCat.mpr ?_ | refine L3.J0.mpr ?_) | ((with_reducible refine L3.P2.mpr ?_);try dsimp only[L3.v6,List.map_cons,List.map_nil,List.length_cons,List.length_nil,List.replicate,List.cons_append,List.nil_append,Nat.reduceAdd,Nat.reduceSub]) | ((with_reducible apply L3.l8);exact rfl) | ((with_reducible apply L3.j9);exact rfl) | ((with_reducible apply L3.Y0);exact rfl) | ((with_reducible apply L3.b11);exact rfl) | ((with_reducible apply L3.c9);first | exact e_isin | exact rfl) | ((with_reducible refine And.intro (L3.u6 ?_) ?_);exact rfl) | ((with_reducible refine And.intro (L3.k8 ?_) ?_);exact rfl;try dsimp only[List.set_cons_zero,List.set_cons_succ]))
local macro_rules | `(tactic| walk_at "rd")=>`(tactic| (repeat walk_at "st"))
local macro_rules | `(tactic| walk_at "ty")=>`(tactic| first | refine L3.m5 t_NoneType_tuple ?_ | refine L3.m5 t_NoneType_bool ?_ | refine L3.m5 t_NoneType_int ?_ | refine L3.m5 t_NoneType_str ?_ | refine L3.m5 t_NoneType_list ?_ | refine L3.m5 t_bool_tuple ?_ | refine L3.J8 t_bool_bool ?_ | refine L3.J8 t_bool_int ?_ | refine L3.m5 t_bool_str ?_ | refine L3.m5 t_bool_list ?_ | refine L3.m5 t_int_tuple ?_ | refine L3.m5 t_int_bool ?_ | refine L3.J8 t_int_int ?_ | refine L3.m5 t_int_str ?_ | refine L3.m5 t_int_list ?_ | refine L3.m5 t_str_tuple ?_ | refine L3.m5 t_str_bool ?_ | refine L3.m5 t_str_int ?_ | refine L3.J8 t_str_str ?_ | refine L3.m5 t_str_list ?_ | refine L3.m5 t_list_tuple ?_ | refine L3.m5 t_list_bool ?_ | refine L3.m5 t_list_int ?_ | refine L3.m5 t_list_str ?_ | refine L3.J8 t_list_list ?_ | refine L3.J8 t_tuple_tuple ?_ | refine L3.m5 t_tuple_bool ?_ | refine L3.m5 t_tuple_int ?_ | refine L3.m5 t_tuple_str ?_ | refine L3.m5 t_tuple_list ?_)
local macro_rules | `(tactic| walk_at "go")=>`(tactic| (repeat first | walk_at "st" | walk_at "ty"))
namespace L3
open PySem PySem.Spec PyProof.Rows L2
variable [Fam]
section
variable {s N k:Nat}
end
variable [Fam]
theorem sz {n:Nat}(h:n≤100000):n≤sizeLine:=Nat.le_trans h (by rw[sizeLine_eq];decide)
theorem b2J {xs ys:List PyData}(h:xs.length+ys.length≤100000):C3 (.list xs) (.list ys)=some (.list (xs++ys)):=if_pos (sz h)
variable [Fam]
variable [Fam]
theorem G2 {bd:PyData->DE->Option DE}{body:DE->M Out}{Q:Out->FdS->Prop}(I:Nat->DE->FdS->Prop):∀(items:List PyData) (n:Nat) (E:DE) (F:FdS),I n E F ->
  (∀i d,items[i]? = some d->∀E F,I (n+i) E F->∃E1,bd d E=some E1∧wp (body E1 F) λo F'=>∃E2,o = .nx E2∧I (n+i+1) E2 F')->(∀E F,I (n+items.length) E F->Q (.nx E) F)->wp (U0 bd body items E F) Q
 | [],n,E,F,h,_,hq=>c7.mpr (hq E F h)
 | d::r,n,E,F,h,st,hq=>by
  obtain⟨E1,e1,h1⟩:=st 0 d rfl E F h
  rw[U0,e1,Option.bind_some,b8]
  refine j4 h1 λo F1 ⟨E2,e2,h2⟩=>?_
  subst e2
  refine G2 I r (n+1) E2 F1 h2 (λi d e E F hI=>?_) (λE F hI=>hq E F (by rw[List.length_cons];rw[show n+(r.length+1)=n+1+r.length by omega];exact hI))
  have:=st (i+1) d (by simpa using e) E F (by rw[show n+(i+1)=n+1+i by omega];exact hI)
  rw[show n+(i+1)+1=n+1+i+1 by omega]at this
  exact this
theorem O1 {lo:Int}{n:Nat}:(P5 lo n).length=n:=by simp[P5]
theorem b1V {i j:Int}(h1:i.natAbs<a3T)(h2:j.natAbs<a3T):M3 (.int i) (.int j)=some (.int (i*j)):=if_pos (.inr ⟨h1,h2⟩)
theorem b1Z {i j:Int}(h1:j≠0)(h2:j.natAbs<2 ^ 9000):a3e (.int i) (.int j)=some (.int (i.fdiv j)):=if_pos ⟨h1,h2⟩
theorem b2F {i j:Int}(h1:0<j)(h2:j.natAbs<2 ^ 9000):a3e (.int i) (.int j)=some (.int (i / j)):=by
 rw[b1Z (by omega) h2,Int.fdiv_eq_ediv_of_nonneg i (by omega)]
variable [Fam]
section
variable {F:FdS}{Q:PyData->FdS->Prop}{n:Nat}
theorem b0A {xs ys:List PyData}(h:xs.length+ys.length≤100000):C3 (.list xs) (.list ys)=some (.list (xs++ys)):=if_pos (sz h)
theorem b2H {xs ys:List PyData}(h:xs.length+ys.length≤100000):C3 (.tuple xs) (.tuple ys)=some (.tuple (xs++ys)):=if_pos (sz h)
noncomputable abbrev W8:List PyData:=[.str "first",.str "last",.str "short",.str "front",.str "lastoff",.str "shortoff",.str "frontoff",.str "turns"]
noncomputable def a0Y:List DV->M PyData:=B9 ["rule"] (mRt (s2 (inD false) (sW 0) (sC (.tuple [.str "first",.str "last",.str "short",.str "front"]))))
noncomputable def kb:PyData->Bool
 | .str x=>(([.str "first",.str "last",.str "short",.str "front"]:List PyData)).any λy=>PyData.eqv y (.str x)
 | _=>false
theorem in4 {x:Str}(h:SeqAt.shaped (.str x)=true):inD false (.str x) (.tuple [.str "first",.str "last",.str "short",.str "front"])=some (.bool (kb (.str x))):=by
 show(if SeqAt.shaped (.tuple [.str "first",.str "last",.str "short",.str "front"])=true∧SeqAt.shaped (.str x)=true then _ else none)=_
 rw[if_pos ⟨by decide +kernel,h⟩,if_neg (by decide)]
 rfl
theorem N2 {r:PyData}(h:r∈W8):∃x:Str,r = .str x∧SeqAt.shaped (.str x)=true:=by
 simp only[List.mem_cons,List.not_mem_nil,or_false]at h
 rcases h with rfl | rfl | rfl | rfl | rfl | rfl | rfl | rfl <;> exact⟨_,rfl,by decide +kernel⟩
theorem a57 {r:PyData}(h:r∈W8)(q:Q (.bool (kb r)) F):wp (a0Y [.dat r] F) Q:=by
 obtain⟨x,rfl,hx⟩:=N2 h
 unfold a0Y
 walk_at "go"
 refine c9 (in4 hx) ?_
 walk_at "go"
 exact q
end
section
variable {F:FdS}{Q:Out->FdS->Prop}{E:DE}{i:Nat}{ds:List PyData}
theorem a0C {v:DE->M PyData}(he:Q0 E i=some ds)(hl:ds.length≤100000)(q:wp (v E F) λx F1=>Q (.nx (E.set i (some (.own (ds++[x]))))) F1):wp (O6 i v E F) Q:=by
 unfold O6;rw[b8]
 refine j4 q λx F1 h=>?_
 rw[he,Option.bind_some,if_pos (Nat.lt_of_le_of_lt hl (by rw[sizeLine_eq];decide))]
 exact c7.mpr h
theorem a9V {v:DE->M PyData}(he:Q0 E i=some ds)(q:wp (v E F) λx F1=>∃zs,x = .list zs∧ds.length+zs.length≤100000∧Q (.nx (E.set i (some (.own (ds++zs))))) F1):wp (a3s i v E F) Q:=by
 unfold a3s;rw[b8]
 refine j4 q λx F1 h=>?_
 obtain⟨zs,rfl,hl,q⟩:=h
 rw[he,Option.bind_some]
 dsimp only
 rw[if_pos (sz hl)]
 exact c7.mpr q
theorem a2v {a:DE->M PyData}{Q:List PyData->FdS->Prop}(q:wp (a E F) λx F1=>oB (a1T x) λds=>Q (A7 0 ds) F1):wp (Q5 a E F) Q:=by
 unfold Q5;rw[b8]
 refine j4 q λx F1 h=>?_
 obtain⟨ds,e,q⟩:=h
 dsimp only
 rw[e,Option.bind_some]
 exact c7.mpr q
theorem b2B {mi:DE->M (List PyData)}{k:Nat}{cap:List Nat}{bd:PyData->DE->Option DE}{mt:DE->M Bool}{me:DE->M PyData}{Q:List PyData->FdS->Prop}(h:wp (mi E F) λds F1=>ds.length≤sizeLine∧wp (L5 bd mt me ds (a1v k cap E) F1) λzs F2=>Q zs F2):wp (fLC mi k cap bd mt me E F) Q:=by
 unfold fLC;rw[b8]
 refine j4 h λds F1 h=>?_
 dsimp only
 rw[if_pos h.1,b8]
 exact j4 h.2 λzs F2 h=>c7.mpr h
end
variable [Fam]
theorem a1s {c:Nat}:∀{ds:List PyData},(∀d∈ds,cnt d≤c)->a1M ds≤c*ds.length
 | [],_=>by simp[a1M]
 | d::ds,h=>by
  have h1:=h d List.mem_cons_self
  have h2:=a1s (c:=c) (ds:=ds) λd hd=>h d (List.mem_cons_of_mem _ hd)
  rw[a1M,List.length_cons,Nat.mul_add,Nat.mul_one]
  omega
variable [Fam]
theorem a7Q {c:DE->M Bool}{b:DE->M Out}{Q:Out->FdS->Prop}(I:DE->FdS->Prop)(μ:DE->Nat)
  (st:∀E F,I E F->wp (c E F) λt F1=>cIf t (wp (b E F1) λo F2=>∃E2,o = .nx E2∧I E2 F2 ∧ μ E2 < μ E) (Q (.nx E) F1)):∀(n:Nat) (E:DE) (F:FdS),I E F->μ E<n->wp (X6 c b n E F) Q
 | 0,E,F,_,h=>absurd h (Nat.not_lt_zero _)
 | n+1,E,F,hI,h=>by
  rw[X6,b8]
  refine j4 (st E F hI) λt F1 h1=>?_
  cases t with
  | false=>rw[a7o]at h1;rw[if_neg (by simp)];exact c7.mpr h1
  | true =>
   rw[a6I]at h1
   rw[if_pos rfl,b8]
   refine j4 h1 λo F2 ⟨E2,e,hI2,hm⟩=>?_
   subst e
   exact a7Q I μ st n E2 F2 hI2 (by omega)
theorem b38 {c:DE->M Bool}{b:DE->M Out}{Q:Out->FdS->Prop}(I:DE->FdS->Prop)(μ:DE->Nat){E:DE}{F:FdS}(h0:I E F)
  (st:∀E F,I E F->wp (c E F) λt F1=>cIf t (wp (b E F1) λo F2=>∃E2,o = .nx E2∧I E2 F2 ∧ μ E2 < μ E) (Q (.nx E) F1)):wp (mWh c b E F) Q:=by
 obtain⟨o,F',e,q⟩:=a7Q I μ st (μ E+1) E F h0 (Nat.lt_succ_self _)
 exact⟨o,F',b1D e,q⟩
theorem b3b:((2:Int)).natAbs<2 ^ 9000:=Nat.lt_of_lt_of_le (show 2<2 ^ 2 by decide) (Nat.pow_le_pow_right (by decide) (by decide))
theorem b1Y {i:Int}:a3e (.int i) (.int 2)=some (.int (i / 2)):=b2F (by decide) b3b
variable [Fam]
variable [Fam]
variable [Fam]
section
variable {B:Int}
end
section
variable {F:FdS}{E:DE}
end
variable [Fam]
theorem a4l {i:Int}(h0:-(2 ^ 62)≤i)(h1:i<2 ^ 62):Q2 [.int i]=some (P5 0 i.toNat):=if_pos ⟨h0,h1⟩
theorem a4p {n:Nat}(h:n≤100000):Q2 [.int (n:Nat)]=some (P5 0 n):=by
 have e:=a4l (i:=(n:Int)) (by omega) (by omega)
 rwa [Int.toNat_natCast]at e
end L3
namespace L3
open L2
noncomputable abbrev Pn:=Int×Int×Bool
noncomputable def pAt (ps:List Pn)(i:Nat):Pn:=ps.getD i (0,0,false)
noncomputable def L9 (k:Nat)(ps:List Pn):List Nat :=
 if k=1 then(List.range ps.length).reverse
 else if k=2 then(r6 ((List.range ps.length).map λi=>((pAt ps i).2.1,i))).map Prod.snd
 else if k=3 then(r6 ((List.range ps.length).map λi=>((pAt ps i).1,i))).map Prod.snd
 else List.range ps.length
noncomputable def bI (b:Bool):Int:=if b then 1 else 0
noncomputable def order (k:Nat)(kp:Bool)(ps:List Pn):List Nat :=
 if kp then(r6 ((L9 k ps).map λi=>(bI (!(pAt ps i).2.2),i))).map Prod.snd else L9 k ps
noncomputable def E7 (k:Nat)(ps:List Pn)(i j:Nat):Prop :=
 if k=1 then j<i else if k=2 then(pAt ps i).2.1<(pAt ps j).2.1∨((pAt ps i).2.1=(pAt ps j).2.1∧i<j)
 else if k=3 then(pAt ps i).1<(pAt ps j).1∨((pAt ps i).1=(pAt ps j).1∧i<j) else i<j
noncomputable def y3 (k:Nat)(kp:Bool)(ps:List Pn)(i j:Nat):Prop :=
 if kp then(bI (!(pAt ps i).2.2)<bI (!(pAt ps j).2.2)∨(bI (!(pAt ps i).2.2)=bI (!(pAt ps j).2.2)∧E7 k ps i j)) else E7 k ps i j
theorem a7S {T:Nat->Nat->Prop}{p:Int×Nat}(tr:∀a b c,T a b->T b c->T a c):∀{l:List (Int×Nat)},l.Pairwise (λa b=>a.1<b.1∨(a.1=b.1∧T a.2 b.2))->(∀q∈l,T p.2 q.2)->(N9 p l).Pairwise λa b=>a.1<b.1∨(a.1=b.1∧T a.2 b.2)
 | [],_,_=>by simp[N9]
 | q::r,h,hl=>by
  rw[List.pairwise_cons]at h
  rw[N9]
  split
  ·rename_i hle
   refine List.pairwise_cons.mpr ⟨λz hz=>?_,List.pairwise_cons.mpr h⟩
   have hz':=hl z hz
   have hle':p.1≤z.1:=by
    rcases List.mem_cons.mp hz with rfl | hz
    ·exact hle
    ·rcases h.1 z hz with e | e <;> omega
   rcases Int.lt_or_eq_of_le hle' with e | e
   ·exact .inl e
   ·exact .inr ⟨e,hz'⟩
  ·rename_i hgt
   refine List.pairwise_cons.mpr ⟨λz hz=>?_,a7S tr h.2 λz hz=>hl z (List.mem_cons_of_mem _ hz)⟩
   rcases List.mem_cons.mp ((N3 p r).mem_iff.mp hz) with rfl | hz
   ·exact .inl (by omega)
   ·exact h.1 z hz
theorem a3U {T:Nat->Nat->Prop}(tr:∀a b c,T a b->T b c->T a c):∀{l:List (Int×Nat)},l.Pairwise (λa b=>T a.2 b.2)->(r6 l).Pairwise λa b=>a.1<b.1∨(a.1=b.1∧T a.2 b.2)
 | [],_=>.nil
 | p::r,h=>by
  rw[List.pairwise_cons]at h
  exact a7S tr (a3U tr h.2) λq hq=>h.1 q ((u8 r).mem_iff.mp hq)
theorem a1O {T:Nat->Nat->Prop}(tr:∀a b c,T a b->T b c->T a c)(g:Nat->Int){l:List Nat}(h:l.Pairwise T):((r6 (l.map λi=>(g i,i))).map Prod.snd).Pairwise λi j=>g i<g j∨(g i=g j∧T i j):=by
 have h1:(l.map λi=>(g i,i)).Pairwise (λa b=>T a.2 b.2):=by
  rw[List.pairwise_map];exact h
 have h2:=a3U tr h1
 rw[List.pairwise_map]
 refine h2.imp_of_mem λ{a b} ha hb hab=>?_
 have ea:a.1=g a.2:=by
  obtain⟨i,_,rfl⟩:=List.mem_map.mp ((u8 _).mem_iff.mp ha);rfl
 have eb:b.1=g b.2:=by
  obtain⟨i,_,rfl⟩:=List.mem_map.mp ((u8 _).mem_iff.mp hb);rfl
 rw[←ea,←eb];exact hab
theorem R5 (g:Nat->Int)(l:List Nat):((r6 (l.map λi=>(g i,i))).map Prod.snd).Perm l:=by
 have:=(u8 (l.map λi=>(g i,i))).map Prod.snd
 rw[List.map_map]at this
 exact this.trans (.of_eq ((List.map_congr_left λi _=>rfl).trans (List.map_id _)))
theorem A6 (n:Nat):(List.range n).Pairwise (· < ·):=by
 rw[List.pairwise_iff_getElem]
 intro i j hi hj hij
 simpa using hij
theorem K9 (k:Nat)(ps:List Pn):(L9 k ps).Perm (List.range ps.length):=by
 unfold L9
 repeat' split
 ·exact List.reverse_perm _
 ·exact R5 (λi=>(pAt ps i).2.1) _
 ·exact R5 (λi=>(pAt ps i).1) _
 ·exact .refl _
theorem C4 (k:Nat)(kp:Bool)(ps:List Pn):(order k kp ps).Perm (List.range ps.length):=by
 unfold order
 split
 ·exact(R5 (λi=>bI (!(pAt ps i).2.2)) _).trans (K9 k ps)
 ·exact K9 k ps
theorem Y4 (k:Nat)(ps:List Pn):(L9 k ps).Pairwise (E7 k ps):=by
 unfold L9 E7
 repeat' split
 ·rw[List.pairwise_reverse];exact A6 _
 ·exact a1O (T:=λa b=>a<b) (λa b c h1 h2=>Nat.lt_trans h1 h2) (λi=>(pAt ps i).2.1) (A6 _)
 ·exact a1O (T:=λa b=>a<b) (λa b c h1 h2=>Nat.lt_trans h1 h2) (λi=>(pAt ps i).1) (A6 _)
 ·exact A6 _
theorem a3m {k:Nat}{ps:List Pn}(a b c:Nat)(h1:E7 k ps a b)(h2:E7 k ps b c):E7 k ps a c:=by
 unfold E7 at *
 repeat' split
 all_goals simp_all
 all_goals omega
theorem a0w {k:Nat}{ps:List Pn}(a b:Nat)(h1:E7 k ps a b)(h2:E7 k ps b a):False:=by
 unfold E7 at *
 split at h1
 ·simp_all;omega
 ·split at h1
  ·simp_all;omega
  ·split at h1
   ·simp_all;omega
   ·simp_all;omega
theorem Z5 (k:Nat)(kp:Bool)(ps:List Pn):(order k kp ps).Pairwise (y3 k kp ps):=by
 unfold order y3
 cases kp with
 | true =>
  simp only[if_true]
  exact a1O a3m (λi=>bI (!(pAt ps i).2.2)) (Y4 k ps)
 | false=>simpa using Y4 k ps
theorem X3 {k:Nat}{kp:Bool}{ps:List Pn}(a b:Nat)(h1:y3 k kp ps a b)(h2:y3 k kp ps b a):False:=by
 unfold y3 at *
 cases kp with
 | true =>
  simp only[if_true]at h1 h2
  rcases h1 with h1 | ⟨e1,h1⟩ <;> rcases h2 with h2 | ⟨e2,h2⟩ <;> first | omega | exact a0w a b h1 h2
 | false =>
  simp only[Bool.false_eq_true,if_false]at h1 h2
  exact a0w a b h1 h2
theorem a3c {S:Nat->Nat->Prop}[DecidableRel S](as:∀a b,S a b->S b a->False):∀{L:List Nat} {h i:Nat},L.Pairwise S->L.Nodup->i∈L->(i∈L.take h↔(L.filter λj=>decide (j≠i∧S j i)).length<h)
 | [],h,i,_,_,hi=>by simp at hi
 | a::L,h,i,hp,hn,hi=>by
  rw[List.pairwise_cons]at hp
  rw[List.nodup_cons]at hn
  cases h with
  | zero=>simp
  | succ h =>
   rw[List.take_succ_cons,List.mem_cons]
   by_cases e:i=a
   ·subst e
    have z:(List.filter (λj=>decide (j≠i∧S j i)) (i::L))=[]:=by
     rw[List.filter_eq_nil_iff]
     intro j hj
     simp only[decide_eq_true_eq]
     rintro ⟨h1,h2⟩
     rcases List.mem_cons.mp hj with rfl | hj
     ·exact h1 rfl
     ·exact as _ _ (hp.1 j hj) h2
    rw[z]
    simp
   ·have hi':i∈L:=(List.mem_cons.mp hi).resolve_left e
    have c:decide (a≠i∧S a i)=true:=decide_eq_true ⟨λz=>e z.symm,hp.1 i hi'⟩
    rw[List.filter_cons_of_pos (by simpa using c),List.length_cons,a3c as hp.2 hn.2 hi']
    constructor
    ·rintro (z | z)
     ·exact absurd z e
     ·omega
    ·intro z
     exact .inr (by omega)
noncomputable def i6 (h k:Nat)(kp:Bool)(ps:List Pn):List Nat:=(List.range ps.length).filter λi=>decide (i∈(order k kp ps).take h)
theorem t8 (n:Nat):(List.range n).Nodup:=by
 rw[List.nodup_iff_pairwise_ne]
 exact(A6 n).imp λh=>Nat.ne_of_lt h
theorem a0L (k:Nat)(kp:Bool)(ps:List Pn):(order k kp ps).Nodup:=(C4 k kp ps).nodup_iff.mpr (t8 _)
theorem U7 {l m:List Nat}(h1:l.Nodup)(h2:m.Nodup)(h:∀x,x∈l↔x∈m):l.Perm m:=(List.perm_ext_iff_of_nodup h1 h2).mpr h
theorem a1k (h k:Nat)(kp:Bool)(ps:List Pn):(i6 h k kp ps).Perm ((order k kp ps).take h):=by
 refine U7 ((t8 _).sublist List.filter_sublist) ((a0L k kp ps).sublist (List.take_sublist _ _)) λx=>?_
 unfold i6
 rw[List.mem_filter,decide_eq_true_eq]
 exact⟨λz=>z.2,λz=>⟨(C4 k kp ps).mem_iff.mp (List.mem_of_mem_take z),z⟩⟩
theorem O2 (h k:Nat)(kp:Bool)(ps:List Pn):(i6 h k kp ps).length=min h ps.length:=by
 rw[(a1k h k kp ps).length_eq,List.length_take,(C4 k kp ps).length_eq,List.length_range]
theorem a70 (h k:Nat)(kp:Bool)(ps:List Pn):(i6 h k kp ps).Pairwise (· < ·):=(A6 _).sublist List.filter_sublist
theorem a2O (h k:Nat)(kp:Bool)(ps:List Pn):a3H (((order k kp ps).take h).map Int.ofNat)=(i6 h k kp ps).map Int.ofNat:=by
 refine a05 ((V6 _).trans ((a1k h k kp ps).map Int.ofNat).symm) (a1b _) ?_
 rw[List.pairwise_map]
 exact(a70 h k kp ps).imp λ{a b} h=>by simp only[Int.ofNat_eq_natCast];omega
noncomputable instance ahead_dec (k:Nat) (ps:List Pn):DecidableRel (E7 k ps):=λi j=>by unfold E7;infer_instance
noncomputable instance sooner_dec (k:Nat) (kp:Bool) (ps:List Pn):DecidableRel (y3 k kp ps):=λi j=>by unfold y3;infer_instance
theorem Q1 (h k:Nat)(kp:Bool)(ps:List Pn):i6 h k kp ps=(List.range ps.length).filter λi=>decide (((List.range ps.length).filter λj=>decide (j≠i∧y3 k kp ps j i)).length<h):=by
 unfold i6
 refine List.filter_congr λi hi=>?_
 have hm:=(C4 k kp ps).mem_iff.mpr hi
 have e:=a3c (S:=y3 k kp ps) X3 (h:=h) (Z5 k kp ps) (a0L k kp ps) hm
 have e2:=((C4 k kp ps).filter λj=>decide (j≠i∧y3 k kp ps j i)).length_eq
 rw[←e2]
 exact decide_eq_decide.mpr e
end L3
namespace L3
open PySem PySem.Spec PyProof.Rows L2
noncomputable abbrev pnD (p:Pn):PyData:=.tuple [.int p.1,.int p.2.1,.bool p.2.2]
noncomputable def g8 (l:List Nat):List PyData:=l.map λi:Nat=>PyData.int (i:Int)
noncomputable def kOf:PyData->Nat
 | .str x=>if x = "last" ∨ x = "lastoff" then 1 else if x = "short" ∨ x = "shortoff" then 2 else if x = "front" ∨ x = "frontoff" then 3 else 0
 | _=>0
theorem x9 (l:List Nat):(g8 l).length=l.length:=by simp[g8]
theorem a7P (l:List Nat):(g8 l).reverse=g8 l.reverse:=by simp[g8]
theorem a2X (n:Nat):P5 0 n=g8 (List.range n):=by
 unfold P5 g8
 exact List.map_congr_left λi _=>by congr 1;omega
theorem a28:∀(l:List Int),(l.map PyData.int).mapM b0s? = some l
 | []=>rfl
 | i::l=>by rw[List.map_cons,List.mapM_cons,a28 l];rfl
theorem a1f:∀(l:List Bool),(l.map PyData.bool).mapM a7U? = some (l.map bI)
 | []=>rfl
 | i::l=>by rw[List.map_cons,List.mapM_cons,a1f l];rfl
theorem a4k (l:List Int):a0G (l.map .int)=some l:=by unfold a0G;rw[a28]
theorem a3b (l:List Bool):a0G (l.map .bool)=some (l.map bI):=by
 unfold a0G
 cases l with
 | nil=>rfl
 | cons b l=>exact a1f (b::l)
theorem O4 {α β γ:Type}(f:α->β)(g:α->γ):∀l:List α,(l.map f).zip (l.map g)=l.map λx=>(f x,g x)
 | []=>rfl
 | x::l=>by rw[List.map_cons,List.map_cons,List.zip_cons_cons,O4 f g l];rfl
theorem a1t (g:Nat->Int)(l:List Nat):((r6 ((l.map g).zip (g8 l))).map Prod.snd)=g8 ((r6 (l.map λi=>(g i,i))).map Prod.snd):=by
 have e:(l.map g).zip (g8 l)=(l.map λi=>(g i,i)).map λq=>(q.1,(λi:Nat=>PyData.int (i:Int)) q.2):=by
  rw[List.map_map];exact O4 g _ l
 rw[e,V7 (λi:Nat=>PyData.int (i:Int)),List.map_map]
 unfold g8
 rw[List.map_map]
 rfl
section
variable [Fam]
theorem a8B {r:PyData}(h:r∈W8):inD false r (.tuple [.str "last",.str "lastoff"])=some (.bool (decide (kOf r=1))):=by
 obtain⟨x,rfl,hx⟩:=N2 h
 show(if SeqAt.shaped (.tuple [.str "last",.str "lastoff"])=true∧SeqAt.shaped (.str x)=true then _ else none)=_
 rw[if_pos ⟨by decide +kernel,hx⟩,if_neg (by decide)]
 simp only[List.mem_cons,List.not_mem_nil,or_false,PyData.str.injEq]at h
 rcases h with rfl | rfl | rfl | rfl | rfl | rfl | rfl | rfl <;> exact congrArg (λb=>some (PyData.bool b)) (by decide +kernel)
theorem a79 {r:PyData}(h:r∈W8):inD false r (.tuple [.str "short",.str "shortoff"])=some (.bool (decide (kOf r=2))):=by
 obtain⟨x,rfl,hx⟩:=N2 h
 show(if SeqAt.shaped (.tuple [.str "short",.str "shortoff"])=true∧SeqAt.shaped (.str x)=true then _ else none)=_
 rw[if_pos ⟨by decide +kernel,hx⟩,if_neg (by decide)]
 simp only[List.mem_cons,List.not_mem_nil,or_false,PyData.str.injEq]at h
 rcases h with rfl | rfl | rfl | rfl | rfl | rfl | rfl | rfl <;> exact congrArg (λb=>some (PyData.bool b)) (by decide +kernel)
theorem a8r {r:PyData}(h:r∈W8):inD false r (.tuple [.str "front",.str "frontoff"])=some (.bool (decide (kOf r=3))):=by
 obtain⟨x,rfl,hx⟩:=N2 h
 show(if SeqAt.shaped (.tuple [.str "front",.str "frontoff"])=true∧SeqAt.shaped (.str x)=true then _ else none)=_
 rw[if_pos ⟨by decide +kernel,hx⟩,if_neg (by decide)]
 simp only[List.mem_cons,List.not_mem_nil,or_false,PyData.str.injEq]at h
 rcases h with rfl | rfl | rfl | rfl | rfl | rfl | rfl | rfl <;> exact congrArg (λb=>some (PyData.bool b)) (by decide +kernel)
end
theorem a9P {ps:List Pn}{i:Nat}(h:i<ps.length):atI (ps.map pnD) (i:Int)=some (pnD (pAt ps i)):=by
 refine Y1 ?_
 rw[List.getElem?_map,List.getElem?_eq_getElem h]
 unfold pAt
 rw[List.getD_eq_getElem?_getD,List.getElem?_eq_getElem h]
 rfl
section
variable [Fam]
noncomputable def c_lined_up:List DV->M PyData:=B9 ["rule","stand","places"] (mSq (q4 2 (a0o (a7 (sN D2 (a7 (sW 1) d7)) d7)))
  (mSq (mIf (uB (s2 (inD false) (sW 0) (sC (.tuple [.str "last",.str "lastoff"])))) (mRt (s1 a6f (sW 2))) mNx)
  (mSq (mIf (uB (s2 (inD false) (sW 0) (sC (.tuple [.str "short",.str "shortoff"])))) (mRt (sSK (a7 (sV 2) d7) [1] (s2 ixD (s2 ixD (sW 1) (sW 0)) (sC (.int 1))))) mNx)
  (mSq (mIf (uB (s2 (inD false) (sW 0) (sC (.tuple [.str "front",.str "frontoff"])))) (mRt (sSK (a7 (sV 2) d7) [1] (s2 ixD (s2 ixD (sW 1) (sW 0)) (sC (.int 0))))) mNx)
  (mRt (sV 2))))))
noncomputable def c_picked:List DV->M PyData:=B9 ["house","stand","hands","places","rule","order"] (mSq (M1 (w4 3 (d6 (bN 2) (d6 (bN 3) (d6 (bN 4) w8)))) (sV 0))
  (mSq (q4 5 (k4 c_lined_up (vD (sV 4) (vD (sV 1) r9))))
  (mSq (mIf (uT (k4 a0Y (vD (sV 4) r9))) (q4 5 (sSK (a7 (sV 5) d7) [1] (a7Z (s2 ixD (s2 ixD (sW 1) (sW 0)) (sC (.int 2)))))) mNx)
  (mRt (sN m4 (a7 (sN P7 (a7 (a2M (sW 5) oNo (oI (sV 2))) d7)) d7))))))
theorem Z8 {me:DE->M PyData}{E0:DE}{g:Nat->PyData}:∀(l:List Nat) (F:FdS),(∀i∈l,me (some (.dat (.int (i:Int)))::E0) F=some (g i,F))->a0A me E0 (g8 l) F=some (l.map g,F)
 | [],F,_=>rfl
 | d::ds,F,h=>by
  show(me (some (.dat (.int (d:Int)))::E0) F).bind _=_
  rw[h d List.mem_cons_self,Option.bind_some]
  show(a0A me E0 (g8 ds) F).bind _=_
  rw[Z8 ds F λx hx=>h x (List.mem_cons_of_mem _ hx)]
  rfl
variable {F:FdS}{Q:PyData->FdS->Prop}
theorem b2O {ma:DE->M (List PyData)}{cap:List Nat}{me:DE->M PyData}{E:DE}(q:wp (ma E F) λxs F1=>∃ds kd ns,xs=[.list ds]∧ds.length<64∧a0A me (cap.map λj=>(E[j]?).join) ds F1=some (kd,F1)∧a0G kd=some ns∧Q (.list ((r6 (ns.zip ds)).map Prod.snd)) F1):wp (sSK ma cap me E F) Q:=by
 unfold sSK
 rw[b8]
 refine j4 q λxs F1 ⟨ds,kd,ns,e,h64,e2,e3,q⟩=>?_
 subst e
 dsimp only
 rw[if_pos h64,e2,Option.bind_some,e3,Option.bind_some]
 exact c7.mpr q
theorem a6D {ma:DE->M (List PyData)}{cap:List Nat}{me:DE->M PyData}{E:DE}{g:Nat->Int}(q:wp (ma E F) λxs F1=>∃l:List Nat,xs=[.list (g8 l)]∧l.length<64∧(∀i∈l,me (some (.dat (.int (i:Int)))::cap.map λj=>(E[j]?).join) F1=some (.int (g i),F1))∧Q (.list (g8 ((r6 (l.map λi=>(g i,i))).map Prod.snd))) F1):wp (sSK ma cap me E F) Q:=by
 refine b2O (j4 q λxs F1 ⟨l,e,h1,h2,h3⟩=>⟨g8 l,l.map λi=>.int (g i),l.map g,e,by rw[x9];exact h1,Z8 l F1 h2,?_,by rw[a1t];exact h3⟩)
 rw[←a4k (l.map g),List.map_map]
 rfl
theorem a94 {ma:DE->M (List PyData)}{cap:List Nat}{me:DE->M PyData}{E:DE}{g:Nat->Bool}(q:wp (ma E F) λxs F1=>∃l:List Nat,xs=[.list (g8 l)]∧l.length<64∧(∀i∈l,me (some (.dat (.int (i:Int)))::cap.map λj=>(E[j]?).join) F1=some (.bool (g i),F1))∧Q (.list (g8 ((r6 (l.map λi=>(bI (g i),i))).map Prod.snd))) F1):wp (sSK ma cap me E F) Q:=by
 refine b2O (j4 q λxs F1 ⟨l,e,h1,h2,h3⟩=>⟨g8 l,l.map λi=>.bool (g i),l.map λi=>bI (g i),e,by rw[x9];exact h1,Z8 l F1 h2,?_,by rw[a1t λi=>bI (g i)];exact h3⟩)
 have:=a3b (l.map g)
 rw[List.map_map,List.map_map]at this
 exact this
theorem a4Y {a:DE->M (List PyData)}{E:DE}(q:wp (a E F) λx F1=>oB (Q2 x) λds=>ds.length≤1000∧Q (.list ds) F1):wp (a0o a E F) Q:=by
 unfold a0o
 rw[b8]
 refine j4 q λx F1 ⟨ds,e,h1,q⟩=>?_
 rw[e,Option.bind_some,if_pos h1]
 exact c7.mpr q
theorem a81 {ps:List Pn}{i:Nat}{j:Int}(h:i<ps.length):s2 ixD (s2 ixD (sW 1) (sW 0)) (sC (.int j)) [some (.dat (.int (i:Int))),some (.dat (.tuple (ps.map pnD)))] F=(ixD (pnD (pAt ps i)) (.int j)).bind λz=>some (z,F):=by
 show(((atI (ps.map pnD) (i:Int)).bind λz=>some (z,F)).bind λp=>(ixD p.1 (.int j)).bind λz=>some (z,p.2))=_
 rw[a9P h]
 rfl
theorem b1A {ps:List Pn}{i:Nat}(h:i<ps.length):a7Z (s2 ixD (s2 ixD (sW 1) (sW 0)) (sC (.int 2))) [some (.dat (.int (i:Int))),some (.dat (.tuple (ps.map pnD)))] F=some (.bool (!(pAt ps i).2.2),F):=by
 unfold a7Z
 rw[a81 h]
 rfl
theorem a9e {r:PyData}{ps:List Pn}(hr:r∈W8)(hl:ps.length<64)(q:Q (.list (g8 (L9 (kOf r) ps))) F):wp (c_lined_up [.dat r,.dat (.tuple (ps.map pnD))] F) Q:=by
 unfold c_lined_up
 walk_at "go"
 refine a4Y ?_
 refine b9.mpr (E3.mpr (b9.mpr (j2.mpr (d9.mpr ?_))))
 refine c9 Q9 (d9.mpr ?_)
 rw[List.length_map]
 refine c9 (a4p (by omega)) ⟨by rw[O1];omega,?_⟩
 rw[a2X]
 have hperm:∀i∈List.range ps.length,i<ps.length:=λi hi=>List.mem_range.mp hi
 walk_at "go"
 refine c9 (a8B hr) ?_
 unfold L9 at q
 refine c9 rfl (U3 (λh=>?_) λh=>?_)
 ·rw[if_pos (of_decide_eq_true h)]at q
  walk_at "go"
  rw[a7P]
  exact q
 rw[if_neg (of_decide_eq_false h)]at q
 walk_at "go"
 refine c9 (a79 hr) ?_
 refine c9 rfl (U3 (λh=>?_) λh=>?_)
 ·rw[if_pos (of_decide_eq_true h)]at q
  walk_at "go"
  refine a6D (g:=λi=>(pAt ps i).2.1) ?_
  walk_at "go"
  refine⟨_,rfl,by rw[List.length_range];exact hl,λi hi=>?_,?_⟩
  ·exact a81 (hperm i hi)
  ·walk_at "go"
   exact q
 rw[if_neg (of_decide_eq_false h)]at q
 walk_at "go"
 refine c9 (a8r hr) ?_
 refine c9 rfl (U3 (λh=>?_) λh=>?_)
 ·rw[if_pos (of_decide_eq_true h)]at q
  walk_at "go"
  refine a6D (g:=λi=>(pAt ps i).1) ?_
  walk_at "go"
  refine⟨_,rfl,by rw[List.length_range];exact hl,λi hi=>?_,?_⟩
  ·exact a81 (hperm i hi)
  ·walk_at "go"
   exact q
 rw[if_neg (of_decide_eq_false h)]at q
 walk_at "go"
 exact q
theorem a1w {α:Type}{l:List α}{h:Nat}:a0P l none (some (h:Int))=l.take h:=by
 unfold a0P
 simp only[HT.sIx_none,HT.sIx_nat,List.drop_zero,Nat.sub_zero]
 by_cases hh:h≤l.length
 ·rw[Nat.min_eq_left hh]
 ·rw[Nat.min_eq_right (by omega),List.take_of_length_le (by omega),List.take_of_length_le (by omega)]
theorem a61 (l:List Nat)(n:Nat):(g8 l).take n=g8 (l.take n):=by unfold g8;rw[List.map_take]
theorem a1r:∀l:List Nat,G4 (g8 l)=some (l.map Int.ofNat)
 | []=>rfl
 | i::l=>by
  show G4 (.int (i:Int)::g8 l)=_
  rw[G4,a1r l]
  rfl
theorem a6v {r pl:PyData}{ps:List Pn}{h:Nat}(hr:r∈W8)(hl:ps.length<64)(q:Q (.tuple (g8 (i6 h (kOf r) (kb r) ps))) F):wp (c_picked [.dat (.tuple [.int h,pl,r]),.dat (.tuple (ps.map pnD))] F) Q:=by
 unfold c_picked
 walk_at "go"
 refine a9e hr hl ?_
 have hlen:(L9 (kOf r) ps).length=ps.length:=by rw[(K9 (kOf r) ps).length_eq,List.length_range]
 have hperm:∀i∈L9 (kOf r) ps,i<ps.length:=λi hi=>List.mem_range.mp ((K9 (kOf r) ps).mem_iff.mp hi)
 have hol:(order (kOf r) (kb r) ps).length=ps.length:=by rw[(C4 (kOf r) (kb r) ps).length_eq,List.length_range]
 have fin:∀E:DE,E=[some (.dat (.tuple [.int h,pl,r])),some (.dat (.tuple (ps.map pnD))),some (.dat (.int h)),some (.dat pl),some (.dat r),some (.dat (.list (g8 (order (kOf r) (kb r) ps))))]->wp (mRt (sN m4 (a7 (sN P7 (a7 (a2M (sW 5) oNo (oI (sV 2))) d7)) d7)) E F) (a8e Q):=by
  rintro E rfl
  refine L0.mpr (E3.mpr (b9.mpr (E3.mpr (b9.mpr (a8k.mpr (j2.mpr (j9 rfl (a6C.mpr (b0t.mpr (l7.mpr (l8 rfl (c9 b1X (c9 b0T (d9.mpr ?_))))))))))))))
  rw[a1w,a61]
  have e:P7 [.list (g8 ((order (kOf r) (kb r) ps).take h))]=some (.list (g8 (i6 h (kOf r) (kb r) ps))):=by
   simp only[P7,a1r]
   rw[if_pos (by rw[List.length_map,List.length_take,hol];omega),a2O,List.map_map]
   rfl
  refine c9 e (d9.mpr (c9 W4 ?_))
  exact q
 refine⟨k8 rfl,i8 (j7.mpr (Y8.mpr (a9x.mpr (r8.mpr ?_))))⟩
 walk_at "go"
 refine a57 hr ?_
 refine c9 rfl (U3 (λe=>?_) λe=>?_)
 ·refine t7.mpr (a94 (g:=λi=>!(pAt ps i).2.2) ?_)
  walk_at "go"
  refine⟨_,rfl,by rw[hlen];exact hl,λi hi=>?_,k8 rfl,?_⟩
  ·exact b1A (hperm i hi)
  ·refine fin _ ?_
   unfold order
   rw[if_pos e]
   rfl
 ·refine a2m.mpr (i8 ?_)
  refine fin _ ?_
  unfold order
  rw[if_neg (by rw[e];simp)]
  rfl
end
variable [Fam]
section
variable {F:FdS}{Q:PyData->FdS->Prop}
theorem a7r {l:List Nat}{i:Nat}{d:PyData}(h:(g8 l)[i]? = some d):∃k,l[i]? = some k∧d = .int (k:Int):=by
 unfold g8 at h
 rw[List.getElem?_map]at h
 obtain⟨k,e,rfl⟩:=Option.map_eq_some_iff.mp h
 exact⟨k,e,rfl⟩
end
variable [Fam]
theorem a8C {i:Int}{n:Nat}(h0:-100000≤i)(h1:i≤100000):Gd n 1 0 (.int i):=b1a (a67 (by omega))
theorem a2w {l:List Nat}(h:∀i∈l,i≤1000):Gd 0 (1+l.length) 1 (.tuple (g8 l)):=by
 refine Gd.tup (M:=1) (λx hx=>?_) ?_
 ·obtain⟨p,hp,rfl⟩:=List.mem_map.mp hx
  have:=h p hp
  exact a8C (by omega) (by omega)
 ·have:=a1s (c:=1) (ds:=g8 l) λd hd=>by
   obtain⟨p,hp,rfl⟩:=List.mem_map.mp hd
   simp[cnt]
  rw[x9]at this
  omega
end L3
namespace L3
open L2
noncomputable def fe (kp:Bool)(p:Pn):Pn:=(p.1,p.2.1-1,kp)
noncomputable def C7 (P:List Nat)(ps:List Pn)(i:Nat):Bool:=decide (i∈P)&&decide ((pAt ps i).2.1≤1)
noncomputable def B4 (P:List Nat)(kp:Bool)(ps:List Pn)(i:Nat):Pn:=if i∈P then fe kp (pAt ps i) else pAt ps i
noncomputable def P1 (P:List Nat)(ps:List Pn):List Nat:=(List.range ps.length).filter λi=>!decide (i∈P)
noncomputable def D4 (P:List Nat)(ps:List Pn):List Nat:=P.filter λi=>!decide ((pAt ps i).2.1≤1)
noncomputable def A2 (P:List Nat)(ps:List Pn):List Nat:=P.filter λi=>decide ((pAt ps i).2.1≤1)
noncomputable def t9 (tn:Bool)(P:List Nat)(ps:List Pn):List Nat:=if tn then P1 P ps++D4 P ps else(List.range ps.length).filter λi=>!C7 P ps i
theorem L7 {α:Type}{R:α->α->Prop}(as:∀a b,R a b->R b a->False):∀{l₁ l₂:List α},l₁.Perm l₂->l₁.Pairwise R->l₂.Pairwise R->l₁=l₂
 | [],l₂,p,_,_=>p.nil_eq
 | a::r,[],p,_,_=>by have:=p.length_eq;simp at this
 | a::r,b::t,p,h1,h2=>by
  rw[List.pairwise_cons]at h1 h2
  have ab:a=b:=by
   rcases List.mem_cons.mp (p.mem_iff.mp (List.mem_cons_self (a:=a) (l:=r))) with e | e
   ·exact e
   ·rcases List.mem_cons.mp (p.mem_iff.mpr (List.mem_cons_self (a:=b) (l:=t))) with e2 | e2
    ·exact e2.symm
    ·exact(as _ _ (h2.1 a e) (h1.1 b e2)).elim
  subst ab
  rw[L7 as (p.cons_inv) h1.2 h2.2]
theorem a40 {α:Type}{p:Int × α}:∀{l:List (Int × α)},l.Pairwise (λa b=>a.1<b.1)->(∀q∈l,p.1≠q.1)->(N9 p l).Pairwise λa b=>a.1<b.1
 | [],_,_=>by simp[N9]
 | q::r,h,hl=>by
  rw[List.pairwise_cons]at h
  rw[N9]
  split
  ·rename_i hle
   have hq:=hl q List.mem_cons_self
   refine List.pairwise_cons.mpr ⟨λz hz=>?_,List.pairwise_cons.mpr h⟩
   rcases List.mem_cons.mp hz with rfl | hz
   ·omega
   ·have:=h.1 z hz;omega
  ·rename_i hgt
   refine List.pairwise_cons.mpr ⟨λz hz=>?_,a40 h.2 λz hz=>hl z (List.mem_cons_of_mem _ hz)⟩
   rcases List.mem_cons.mp ((N3 p r).mem_iff.mp hz) with rfl | hz
   ·omega
   ·exact h.1 z hz
theorem a1B {α:Type}:∀{l:List (Int × α)},(l.map Prod.fst).Nodup->(r6 l).Pairwise λa b=>a.1<b.1
 | [],_=>.nil
 | p::r,h=>by
  rw[List.map_cons,List.nodup_cons]at h
  exact a40 (a1B h.2) λq hq e=>h.1 (e▸List.mem_map_of_mem ((u8 r).mem_iff.mp hq))
theorem a6m {α:Type}{l m:List (Int × α)}(hp:m.Perm l)(hs:m.Pairwise λa b=>a.1<b.1):r6 l=m:=by
 have nd:(l.map Prod.fst).Nodup:=by
  refine(hp.map Prod.fst).nodup_iff.mp ?_
  rw[List.nodup_iff_pairwise_ne,List.pairwise_map]
  exact hs.imp λh=>by omega
 exact L7 (R:=λa b:Int × α=>a.1<b.1) (λa b h1 h2=>by omega) ((u8 l).trans hp.symm) (a1B nd) hs
theorem u7 {h k:Nat}{kp:Bool}{ps:List Pn}:∀i∈i6 h k kp ps,i<ps.length:=λi hi=>List.mem_range.mp (List.mem_filter.mp hi).1
theorem u9 {h k:Nat}{kp:Bool}{ps:List Pn}:(i6 h k kp ps).Nodup:=(t8 _).sublist List.filter_sublist
theorem a0e {P:List Nat}{ps:List Pn}(hs:∀i∈P,i<ps.length)(hn:P.Nodup):(P1 P ps++D4 P ps).Perm (t9 false P ps):=by
 unfold t9
 rw[if_neg (by simp)]
 refine U7 ?_ ((t8 _).sublist List.filter_sublist) λx=>?_
 ·rw[List.nodup_append]
  refine⟨(t8 _).sublist List.filter_sublist,hn.sublist List.filter_sublist,λa ha b hb e=>?_⟩
  subst e
  have h1:=(List.mem_filter.mp ha).2
  have h2:=(List.mem_filter.mp hb).1
  simp[h2]at h1
 ·unfold P1 D4 C7
  simp only[List.mem_append,List.mem_filter,List.mem_range,Bool.not_eq_true',decide_eq_false_iff_not,Bool.and_eq_false_iff]
  constructor
  ·rintro (⟨h1,h2⟩ | ⟨h1,h2⟩)
   ·exact⟨h1,.inl h2⟩
   ·exact⟨hs x h1,.inr h2⟩
  ·rintro ⟨h1,h2⟩
   by_cases hx:x∈P
   ·exact .inr ⟨hx,h2.resolve_left λz=>z hx⟩
   ·exact .inl ⟨h1,hx⟩
theorem a9m (P:List Nat)(ps:List Pn):(t9 false P ps).Pairwise (· < ·):=by
 unfold t9
 rw[if_neg (by simp)]
 exact(A6 _).sublist List.filter_sublist
theorem R6 {tn:Bool}{P:List Nat}{ps:List Pn}(hs:∀i∈P,i<ps.length)(hn:P.Nodup):(t9 tn P ps).Perm (t9 false P ps):=by
 cases tn with
 | false=>exact .refl _
 | true =>
  have:=a0e hs hn
  unfold t9 at this ⊢
  simpa using this
noncomputable def after (h k:Nat)(kp tn:Bool)(ps:List Pn):List Pn:=(t9 tn (i6 h k kp ps) ps).map (B4 (i6 h k kp ps) kp ps)
noncomputable def m9 (pl:Option Nat)(n m:Nat):Nat:=match pl with
 | some v=>min m (v-n)
 | none=>m
noncomputable def f7 (pl:Option Nat)(ps:List Pn)(bt:List (Int×Int)):List Pn:=ps++(bt.take (m9 pl ps.length bt.length)).map λc=>(c.1,c.2,false)
theorem R9 (pl:Option Nat)(ps:List Pn)(bt:List (Int×Int)):(f7 pl ps bt).length=ps.length+m9 pl ps.length bt.length:=by
 unfold f7
 rw[List.length_append,List.length_map,List.length_take]
 unfold m9
 split <;> omega
end L3
namespace L3
open L2
theorem a5H (f g:Nat->Int):∀l:List Nat,(l.map λi=>f i-g i).sum=(l.map f).sum-(l.map g).sum
 | []=>rfl
 | i::l=>by simp only[List.map_cons,List.sum_cons,a5H f g l];omega
theorem a5l {f:Nat->Int}{g:Nat->Bool}:∀{l:List Nat},(∀i∈l,g i=false->f i=0)->((l.filter g).map f).sum=(l.map f).sum
 | [],_=>rfl
 | i::l,h=>by
  have ih:=a5l (l:=l) λj hj=>h j (List.mem_cons_of_mem _ hj)
  cases hg:g i with
  | true=>rw[List.filter_cons_of_pos hg];simp only[List.map_cons,List.sum_cons,ih]
  | false =>
   have:=h i List.mem_cons_self hg
   rw[List.filter_cons_of_neg (by simp[hg])]
   simp only[List.map_cons,List.sum_cons,ih]
   omega
theorem a33 {g:Nat->Bool}:∀l:List Nat,(l.map λi=>if g i=true then(1:Int) else 0).sum=((l.filter g).length:Nat)
 | []=>rfl
 | i::l=>by
  cases hg:g i with
  | true=>rw[List.filter_cons_of_pos hg];simp only[List.map_cons,List.sum_cons,a33 l,hg,if_true,List.length_cons];omega
  | false=>rw[List.filter_cons_of_neg (by simp[hg])];simp[a33 l,hg]
theorem a71 {l m:List Int}(p:l.Perm m):l.sum=m.sum:=by
 induction p with
 | nil=>rfl
 | cons x _ ih=>simp only[List.sum_cons,ih]
 | swap x y l=>simp only[List.sum_cons];omega
 | trans _ _ h1 h2=>exact h1.trans h2
noncomputable def L8 (ps:List Pn):Int:=(ps.map λp=>p.2.1).sum
noncomputable def a0O (ps:List Pn):Prop:=∀p∈ps,1≤p.2.1
theorem B1 {α β:Type}(d:α)(f:α->β):∀l:List α,(List.range l.length).map (λi=>f (l.getD i d))=l.map f:=λl=>by
 apply List.ext_getElem
 ·simp
 ·intro i h1 h2
  simp only[List.length_map,List.length_range]at h1
  simp[h1]
theorem a4u (ps:List Pn):L8 ps=((List.range ps.length).map λi=>(pAt ps i).2.1).sum:=by
 unfold L8
 rw[←B1 (0,0,false) (λp:Pn=>p.2.1) ps]
 rfl
theorem a8u {ps:List Pn}(h:a0O ps){i:Nat}(hi:i<ps.length):1≤(pAt ps i).2.1:=by
 have e:pAt ps i=ps[i]:=by unfold pAt;simp[hi]
 rw[e]
 exact h _ (List.getElem_mem hi)
theorem Z0 {tn:Bool}{P:List Nat}{ps:List Pn}(hs:∀i∈P,i<ps.length)(hn:P.Nodup){i:Nat}(h:i∈t9 tn P ps):i<ps.length∧C7 P ps i=false:=by
 have:=(R6 (tn:=tn) hs hn).mem_iff.mp h
 unfold t9 at this
 rw[if_neg (by simp)]at this
 have h2:=List.mem_filter.mp this
 exact⟨List.mem_range.mp h2.1,by simpa using h2.2⟩
theorem a3w {h k:Nat}{kp tn:Bool}{ps:List Pn}(hp:a0O ps):a0O (after h k kp tn ps):=λp hp'=>by
 obtain⟨i,hi,rfl⟩:=List.mem_map.mp hp'
 obtain⟨h1,h2⟩:=Z0 u7 u9 hi
 have h3:=a8u hp h1
 unfold B4
 split
 ·rename_i hm
  unfold C7 at h2
  simp only[hm,decide_true,Bool.true_and,decide_eq_false_iff_not]at h2
  show 1≤(pAt ps i).2.1-1
  omega
 ·exact h3
theorem a2h {h k:Nat}{kp tn:Bool}{ps:List Pn}(hp:a0O ps):L8 (after h k kp tn ps)=L8 ps-(min h ps.length:Nat):=by
 have hsub:=u7 (h:=h) (k:=k) (kp:=kp) (ps:=ps)
 have hnd:=u9 (h:=h) (k:=k) (kp:=kp) (ps:=ps)
 rw[←O2 h k kp ps,a4u ps]
 unfold after L8
 generalize i6 h k kp ps=P at hsub hnd
 rw[List.map_map]
 have e1:=a71 ((R6 (tn:=tn) hsub hnd).map ((λp:Pn=>p.2.1) ∘ B4 P kp ps))
 rw[e1]
 unfold t9
 rw[if_neg (by simp)]
 have e2:(List.map ((λp:Pn=>p.2.1) ∘ B4 P kp ps) ((List.range ps.length).filter λi=>!C7 P ps i)).sum=(((List.range ps.length).filter λi=>!C7 P ps i).map λi=>(pAt ps i).2.1-(if decide (i∈P)=true then(1:Int) else 0)).sum:=by
  congr 1
  refine List.map_congr_left λi hi=>?_
  show(B4 P kp ps i).2.1=_
  unfold B4 fe
  by_cases hm:i∈P <;> simp[hm]
 rw[e2,a5l,a5H,a33]
 ·have e3:((List.range ps.length).filter λi=>decide (i∈P)).length=P.length:=by
   refine(U7 ((t8 _).sublist List.filter_sublist) hnd λx=>?_).length_eq
   simp only[List.mem_filter,List.mem_range,decide_eq_true_eq]
   exact⟨λz=>z.2,λz=>⟨hsub x z,z⟩⟩
  rw[e3]
 ·intro i hi hg
  have h1:=a8u hp (List.mem_range.mp hi)
  unfold C7 at hg
  simp only[Bool.not_eq_false',Bool.and_eq_true,decide_eq_true_eq]at hg
  simp only[hg.1,decide_true,if_true]
  omega
theorem a9n {ps:List Pn}(hp:a0O ps):(ps.length:Int)≤L8 ps:=by
 induction ps with
 | nil=>exact Int.le_refl _
 | cons p ps ih =>
  have h1:=hp p List.mem_cons_self
  have h2:=ih λx hx=>hp x (List.mem_cons_of_mem _ hx)
  unfold L8 at h2 ⊢
  simp only[List.length_cons,List.map_cons,List.sum_cons]
  omega
theorem a07 {h k:Nat}{kp tn:Bool}{ps:List Pn}:(after h k kp tn ps).length≤ps.length:=by
 unfold after
 rw[List.length_map,(R6 (tn:=tn) (u7 (h:=h) (k:=k) (kp:=kp) (ps:=ps)) u9).length_eq]
 have h2:=List.length_filter_le (λi=>!C7 (i6 h k kp ps) ps i) (List.range ps.length)
 unfold t9
 rw[if_neg (by simp)]
 rw[List.length_range]at h2
 exact h2
noncomputable abbrev Bt:=List (Int×Int)
noncomputable def l9 (h k:Nat)(kp tn:Bool)(pl:Option Nat)(ps:List Pn)(bt:Bt):List Pn:=after h k kp tn (f7 pl ps bt)
noncomputable def G8 (f:List Pn->Bt->List Pn)(ps:List Pn)(way:List Bt)(i:Nat):List Pn:=(way.take i).foldl f ps
noncomputable def c6 (way:List Bt)(i:Nat):Bt:=way.getD i []
theorem M9 {f:List Pn->Bt->List Pn}{ps:List Pn}{way:List Bt}:G8 f ps way 0=ps:=by simp[G8]
theorem T4 {f:List Pn->Bt->List Pn}{ps:List Pn}{way:List Bt}{i:Nat}(h:i<way.length):G8 f ps way (i+1)=f (G8 f ps way i) (c6 way i):=by
 unfold G8 c6
 have e:way.getD i []=way[i]:=by simp[h]
 rw[List.take_add_one,List.getElem?_eq_getElem h,List.foldl_append,e]
 rfl
noncomputable def g9 (way:List Bt):Nat:=(way.map List.length).sum
theorem B3 {way:List Bt}{i:Nat}(h:i<way.length):g9 (way.take (i+1))=g9 (way.take i)+(c6 way i).length:=by
 unfold g9 c6
 have e:way.getD i []=way[i]:=by simp[h]
 rw[List.take_add_one,List.getElem?_eq_getElem h,List.map_append,List.sum_append,e]
 rfl
theorem S8 (way:List Bt)(i:Nat):g9 (way.take i)≤g9 way:=by
 conv=>rhs;rw[←List.take_append_drop i way]
 unfold g9
 rw[List.map_append,List.sum_append]
 omega
theorem a18 {h k:Nat}{kp tn:Bool}{pl:Option Nat}{ps:List Pn}{way:List Bt}:∀{i:Nat},i≤way.length->(G8 (l9 h k kp tn pl) ps way i).length≤ps.length+g9 (way.take i)
 | 0,_=>by rw[M9];omega
 | i+1,hi=>by
  have ih:=a18 (h:=h) (k:=k) (kp:=kp) (tn:=tn) (pl:=pl) (ps:=ps) (way:=way) (i:=i) (by omega)
  rw[T4 (by omega),B3 (by omega)]
  unfold l9
  refine Nat.le_trans a07 ?_
  rw[R9]
  have:m9 pl (G8 (l9 h k kp tn pl) ps way i).length (c6 way i).length≤(c6 way i).length:=by unfold m9;split <;> omega
  unfold l9 at ih this
  omega
theorem a3g {h k:Nat}{kp tn:Bool}{pl:Option Nat}{ps:List Pn}{way:List Bt}(hl:ps.length+g9 way<64){i:Nat}(hi:i<way.length):(G8 (l9 h k kp tn pl) ps way i).length+(c6 way i).length<64:=by
 have h1:=a18 (h:=h) (k:=k) (kp:=kp) (tn:=tn) (pl:=pl) (ps:=ps) (way:=way) (i:=i) (by omega)
 have h2:=B3 hi
 have h3:=S8 way (i+1)
 omega
noncomputable def a7E (bt:Bt):Int:=(bt.map λc=>c.2).sum
noncomputable def b2a (bt:Bt):Prop:=∀c∈bt,1≤c.2
theorem a0k (ps:List Pn)(bt:Bt):f7 none ps bt=ps++bt.map λc=>(c.1,c.2,false):=by
 unfold f7 m9
 rw[List.take_length]
theorem a9b {ps:List Pn}{bt:Bt}(h1:a0O ps)(h2:b2a bt):a0O (f7 none ps bt):=λp hp=>by
 rw[a0k]at hp
 rcases List.mem_append.mp hp with hp | hp
 ·exact h1 p hp
 ·obtain⟨c,hc,rfl⟩:=List.mem_map.mp hp
  exact h2 c hc
theorem a6Z (ps:List Pn)(bt:Bt):L8 (f7 none ps bt)=L8 ps+a7E bt:=by
 rw[a0k]
 unfold L8 a7E
 rw[List.map_append,List.sum_append,List.map_map]
 rfl
end L3
namespace L3
open L2
end L3
namespace L3
open L2
end L3
namespace L3
open L2
noncomputable def prs (c:Nat)(L:Nat->Int)(n:Nat):Bool:=decide (n<c)&&decide (0<L n)
noncomputable def pkd (h c:Nat)(L:Nat->Int)(n:Nat):Bool:=prs c L n&&decide (((List.range n).filter (prs c L)).length<h)
noncomputable def nxt (h c:Nat)(L:Nat->Int)(n:Nat):Int:=if pkd h c L n=true then L n-1 else L n
noncomputable def fL (h:Nat)(cnt:Nat->Nat)(w:Nat->Int):Nat->Nat->Int
 | 0=>w
 | m+1=>nxt h (cnt (m+1)) (fL h cnt w m)
noncomputable def fM (h:Nat)(cnt:Nat->Nat)(w:Nat->Int):Nat->Nat->Nat
 | 0,_=>0
 | m+1,n=>if pkd h (cnt (m+1)) (fL h cnt w m) n=true∧fL h cnt w m n≤1 then m+1 else fM h cnt w m n
theorem D7 {h c:Nat}{L:Nat->Int}{n:Nat}(e:pkd h c L n=true):n<c∧0<L n∧((List.range n).filter (prs c L)).length<h:=by
 unfold pkd prs at e
 simp only[Bool.and_eq_true,decide_eq_true_eq]at e
 exact⟨e.1.1,e.1.2,e.2⟩
theorem a4m {h c:Nat}{L:Nat->Int}{n:Nat}(h1:n<c)(h2:0<L n)(h3:((List.range n).filter (prs c L)).length<h):pkd h c L n=true:=by
 unfold pkd
 have:prs c L n=true:=by unfold prs;simp[h1,h2]
 rw[this,Bool.true_and]
 exact decide_eq_true h3
theorem a7u {p q:Nat->Bool}:∀{l:List Nat},(∀x∈l,p x=true->q x=true)->(l.filter p).length≤(l.filter q).length
 | [],_=>Nat.le_refl _
 | x::l,h=>by
  have ih:=a7u (l:=l) λy hy=>h y (List.mem_cons_of_mem _ hy)
  have hx:=h x List.mem_cons_self
  cases hp:p x with
  | true =>
   rw[List.filter_cons_of_pos hp,List.filter_cons_of_pos (hx hp)]
   simpa using ih
  | false =>
   rw[List.filter_cons_of_neg (by simp[hp])]
   cases hq:q x with
   | true=>rw[List.filter_cons_of_pos hq];simp;omega
   | false=>rw[List.filter_cons_of_neg (by simp[hq])];exact ih
theorem a8q {h h' c:Nat}{L L':Nat->Int}(hh:h≤h')(hl:∀n,L' n≤L n):∀n,nxt h' c L' n≤nxt h c L n:=λn=>by
 have h1:=hl n
 unfold nxt
 by_cases hp:pkd h c L n=true
 ·rw[if_pos hp]
  obtain⟨a1,a2,a3⟩:=D7 hp
  by_cases he:L' n=L n
  ·have:pkd h' c L' n=true:=by
    refine a4m a1 (by omega) (Nat.lt_of_le_of_lt (a7u λx hx e=>?_) (Nat.lt_of_lt_of_le a3 hh))
    unfold prs at e ⊢
    simp only[Bool.and_eq_true,decide_eq_true_eq]at e ⊢
    have:=hl x
    exact⟨e.1,by omega⟩
   rw[if_pos this]
   omega
  ·split <;> omega
 ·rw[if_neg hp]
  split <;> omega
theorem a5n {h h':Nat}{cnt:Nat->Nat}{w:Nat->Int}(hh:h≤h'):∀m n,fL h' cnt w m n≤fL h cnt w m n
 | 0,n=>Int.le_refl _
 | m+1,n=>a8q hh (a5n hh m) n
theorem a2j {h:Nat}{cnt:Nat->Nat}{w:Nat->Int}(hw:∀n,0≤w n):∀m n,0≤fL h cnt w m n
 | 0,n=>hw n
 | m+1,n=>by
  have:=a2j (h:=h) (cnt:=cnt) hw m n
  show 0≤nxt _ _ _ n
  unfold nxt
  split
  ·rename_i e
   have:=(D7 e).2.1
   omega
  ·exact this
theorem a5b {h:Nat}{cnt:Nat->Nat}{w:Nat->Int}(m n:Nat):fL h cnt w (m+1) n≤fL h cnt w m n:=by
 show nxt _ _ _ n≤_
 unfold nxt
 split <;> omega
theorem Y5 {h:Nat}{cnt:Nat->Nat}{w:Nat->Int}(hw:∀n,0≤w n)(n:Nat)(h1:1≤w n):∀m,(0<fL h cnt w m n∧fM h cnt w m n=0∧∀t≤m,0<fL h cnt w t n)∨(fL h cnt w m n=0∧fL h cnt w (fM h cnt w m n) n=0∧∀t<fM h cnt w m n,0<fL h cnt w t n)
 | 0=>.inl ⟨by show 0<w n;omega,rfl,λt ht=>by
   have:t=0:=by omega
   subst this
   show 0<w n
   omega⟩
 | m+1=>by
  have hn:=a2j (h:=h) (cnt:=cnt) hw (m+1) n
  have hd:=a5b (h:=h) (cnt:=cnt) (w:=w) m n
  rcases Y5 hw n h1 m with ⟨a1,a2,a3⟩ | ⟨a1,a2,a3⟩
  ·by_cases hp:pkd h (cnt (m+1)) (fL h cnt w m) n=true
   ·have eL:fL h cnt w (m+1) n=fL h cnt w m n-1:=by
     show nxt _ _ _ n=_
     unfold nxt
     rw[if_pos hp]
    by_cases h2:fL h cnt w m n≤1
    ·have eM:fM h cnt w (m+1) n=m+1:=by rw[fM,if_pos ⟨hp,h2⟩]
     refine .inr ⟨by omega,by rw[eM];omega,λt ht=>?_⟩
     rw[eM]at ht
     exact a3 t (by omega)
    ·have eM:fM h cnt w (m+1) n=fM h cnt w m n:=by rw[fM,if_neg λz=>h2 z.2]
     refine .inl ⟨by omega,by rw[eM];exact a2,λt ht=>?_⟩
     by_cases ht2:t≤m
     ·exact a3 t ht2
     ·have:t=m+1:=by omega
      subst this
      omega
   ·have eL:fL h cnt w (m+1) n=fL h cnt w m n:=by
     show nxt _ _ _ n=_
     unfold nxt
     rw[if_neg hp]
    have eM:fM h cnt w (m+1) n=fM h cnt w m n:=by rw[fM,if_neg λz=>hp z.1]
    refine .inl ⟨by omega,by rw[eM];exact a2,λt ht=>?_⟩
    by_cases ht2:t≤m
    ·exact a3 t ht2
    ·have:t=m+1:=by omega
     subst this
     omega
  ·have hp:¬pkd h (cnt (m+1)) (fL h cnt w m) n=true:=λe=>by have:=(D7 e).2.1;omega
   have eM:fM h cnt w (m+1) n=fM h cnt w m n:=by rw[fM,if_neg λz=>hp z.1]
   refine .inr ⟨by omega,by rw[eM];exact a2,by rw[eM];exact a3⟩
theorem a5C {h h':Nat}{cnt:Nat->Nat}{w:Nat->Int}(hh:h≤h')(hw:∀n,0≤w n){n M M':Nat}(h1:1≤w n)(e:fL h cnt w M n=0)(e':fL h' cnt w M' n=0):fM h' cnt w M' n≤fM h cnt w M n:=by
 rcases Y5 (h:=h) (cnt:=cnt) hw n h1 M with ⟨a1,_⟩ | ⟨_,a2,_⟩
 ·omega
 ·rcases Y5 (h:=h') (cnt:=cnt) hw n h1 M' with ⟨b1,_⟩ | ⟨_,_,b3⟩
  ·omega
  ·refine Nat.le_of_not_lt λhlt=>?_
   have c1:=b3 _ hlt
   have c2:=a5n (cnt:=cnt) (w:=w) hh (fM h cnt w M n) n
   omega
end L3
namespace L3
open L2
noncomputable def f8 (c:Nat)(L:Nat->Int):List Nat:=(List.range c).filter λn=>decide (0<L n)
noncomputable def psn (rk L w:Nat->Int)(n:Nat):Pn:=(rk n,L n,decide (L n<w n))
structure Fi (L w:Nat->Int):Prop where
 le:∀n,L n≤w n
 bp:∀x n,x<n->0<L x->L n<w n->L x<w x
theorem Q4 (c:Nat)(L:Nat->Int):f8 c L=(List.range c).filter (prs c L):=by
 unfold f8
 refine List.filter_congr λn hn=>?_
 unfold prs
 simp[List.mem_range.mp hn]
theorem J7 (c:Nat)(L:Nat->Int):(f8 c L).Nodup:=(t8 _).sublist List.filter_sublist
theorem K8 {n c:Nat}(h:n<c):∃r,List.range c=List.range n++n::r:=by
 refine⟨(List.range' (n+1) (c-(n+1))),?_⟩
 rw[List.range_eq_range',List.range_eq_range']
 have e:c=n+(1+(c-(n+1))):=by omega
 conv=>lhs;rw[e]
 rw[←List.range'_append_1,Nat.add_comm 1,List.range'_succ]
 simp
theorem a8a {c:Nat}{L:Nat->Int}{i:Nat}(hi:i<(f8 c L).length):((List.range ((f8 c L)[i])).filter (prs c L)).length=i:=by
 have hm:=List.getElem_mem hi
 generalize hn:(f8 c L)[i]=n at hm
 have hm2:=List.mem_filter.mp hm
 have hnc:=List.mem_range.mp hm2.1
 have hp:prs c L n=true:=by unfold prs;simp[hnc,of_decide_eq_true hm2.2]
 obtain⟨r,er⟩:=K8 hnc
 have el:f8 c L=(List.range n).filter (prs c L)++n::r.filter (prs c L):=by
  rw[Q4,er,List.filter_append,List.filter_cons_of_pos hp]
 have hlt:((List.range n).filter (prs c L)).length<(f8 c L).length:=by rw[el,List.length_append,List.length_cons];omega
 have h2:(f8 c L)[((List.range n).filter (prs c L)).length]=n:=by
  have:(f8 c L)[((List.range n).filter (prs c L)).length]? = some n:=by
   rw[el,List.getElem?_append_right (Nat.le_refl _),Nat.sub_self];rfl
  rw[List.getElem?_eq_getElem hlt]at this
  injection this
 have hs:(f8 c L).Pairwise (· < ·):=(A6 c).sublist List.filter_sublist
 have hpw:=List.pairwise_iff_getElem.mp hs
 generalize ((List.range n).filter (prs c L)).length=j at hlt h2
 rcases Nat.lt_trichotomy j i with z | z | z
 ·have:=hpw j i hlt hi z;omega
 ·exact z
 ·have:=hpw i j hi hlt z;omega
theorem a9s {h c:Nat}{L:Nat->Int}{i:Nat}(hi:i<(f8 c L).length):pkd h c L ((f8 c L)[i])=decide (i<h):=by
 have hm:=List.mem_filter.mp (List.getElem_mem hi)
 have hnc:=List.mem_range.mp hm.1
 unfold pkd
 rw[a8a hi]
 have hp:prs c L ((f8 c L)[i])=true:=by unfold prs;simp[hnc,of_decide_eq_true hm.2]
 rw[hp,Bool.true_and]
section
variable {h c:Nat}{rk L w:Nat->Int}
theorem a5d {i:Nat}(hi:i<(f8 c L).length):pAt ((f8 c L).map (psn rk L w)) i=psn rk L w ((f8 c L)[i]):=by
 unfold pAt
 simp[hi]
theorem a4C (F:Fi L w):order 0 true ((f8 c L).map (psn rk L w))=List.range (f8 c L).length:=by
 have hk:((f8 c L).map (psn rk L w)).length=(f8 c L).length:=by simp
 refine L7 (R:=y3 0 true ((f8 c L).map (psn rk L w))) (λa b=>X3 a b) ?_ (Z5 _ _ _) ?_
 ·have:=C4 0 true ((f8 c L).map (psn rk L w))
  rwa [hk]at this
 ·rw[List.pairwise_iff_getElem]
  intro i j hi hj hij
  simp only[List.length_range]at hi hj
  simp only[List.getElem_range]
  unfold y3
  rw[if_pos rfl,a5d hi,a5d hj]
  have ha:E7 0 ((f8 c L).map (psn rk L w)) i j:=by unfold E7;simpa using hij
  have hlt:(f8 c L)[i]<(f8 c L)[j]:=by
   have:=(A6 c).sublist (List.filter_sublist (p:=λn=>decide (0<L n)))
   exact List.pairwise_iff_getElem.mp this i j hi hj hij
  have hpi:=of_decide_eq_true (List.mem_filter.mp (List.getElem_mem hi)).2
  have hb:=F.bp _ _ hlt hpi
  unfold psn
  simp only
  by_cases h1:L ((f8 c L)[j])<w ((f8 c L)[j])
  ·have h2:=hb h1
   simp[h1,h2,bI]
   exact ha
  ·by_cases h2:L ((f8 c L)[i])<w ((f8 c L)[i])
   ·simp[h1,h2,bI]
   ·simp[h1,h2,bI]
    exact ha
theorem a1i (F:Fi L w)(i:Nat):i∈i6 h 0 true ((f8 c L).map (psn rk L w))↔i<(f8 c L).length∧i<h:=by
 unfold i6
 rw[a4C F,List.length_map,List.mem_filter,List.mem_range,decide_eq_true_eq]
 constructor
 ·rintro ⟨h1,h2⟩
  refine⟨h1,?_⟩
  rw[List.take_range]at h2
  have:=List.mem_range.mp h2
  omega
 ·rintro ⟨h1,h2⟩
  refine⟨h1,?_⟩
  rw[List.take_range]
  exact List.mem_range.mpr (by omega)
theorem a8x {n:Nat}(hn:0<nxt h c L n):0<L n:=by
 unfold nxt at hn
 split at hn <;> omega
theorem V0 (l:List Nat):(List.range l.length).map (λi=>l.getD i 0)=l:=by
 have:=B1 (0:Nat) (λx:Nat=>x) l
 rwa [List.map_id']at this
theorem Fi.next (F:Fi L w):Fi (nxt h c L) w:=by
 have dn:∀n,nxt h c L n≤L n:=λn=>by unfold nxt;split <;> omega
 refine⟨λn=>Int.le_trans (dn n) (F.le n),λx n hxn hx hn=>?_⟩
 have hx0:=a8x hx
 by_cases hb:L n<w n
 ·have:=F.bp x n hxn hx0 hb
  have:=dn x
  omega
 ·have hp:pkd h c L n=true:=by
   by_cases hp:pkd h c L n=true
   ·exact hp
   ·unfold nxt at hn
    rw[if_neg hp]at hn
    exact absurd hn hb
  obtain⟨a1,a2,a3⟩:=D7 hp
  have hpx:pkd h c L x=true:=by
   refine a4m (by omega) hx0 (Nat.lt_of_le_of_lt ?_ a3)
   have:((List.range x).filter (prs c L)).Sublist ((List.range n).filter (prs c L)):=by
    refine List.Sublist.filter _ ?_
    exact List.range_sublist.mpr (by omega)
   exact this.length_le
  have:=F.le x
  have e:nxt h c L x=L x-1:=by unfold nxt;rw[if_pos hpx]
  omega
end
theorem a9Z {h:Nat}{cnt:Nat->Nat}{w:Nat->Int}:∀m,Fi (fL h cnt w m) w
 | 0=>⟨λn=>Int.le_refl _,λx n _ _ hn=>absurd hn (Int.lt_irrefl _)⟩
 | m+1=>(a9Z m).next
end L3
namespace L3
open PySem PySem.Spec PyProof.Rows L2
variable [Fam]
noncomputable abbrev cmD (c:Int×Int):PyData:=.tuple [.int c.1,.int c.2]
noncomputable def plD:Option Nat->PyData
 | some v=>.int (v:Int)
 | none=>.none
noncomputable def W6:List DV->M PyData:=B9 ["house","stand","beat","places","room","entered"] (mSq (q4 3 (s2 ixD (sW 0) (sC (.int 1))))
  (mSq (q4 4 (sIf (uB (s2 (isD false) (sW 3) (sC .none))) (sN D2 (a7 (sW 2) d7)) (s2 a00 (sW 3) (sN D2 (a7 (sW 1) d7)))))
  (mSq (q4 5 (sLC (B5 (a2M (sW 2) oNo (oI (sV 4)))) 2 [] (w4 2 (d6 (bN 0) (d6 (bN 1) w8))) E8 (z8 (a7 (sV 0) (a7 (sV 1) (a7 (sC (.bool false)) d7))))))
  (mRt (z8 (a7 (s2 C3 (sW 1) (sN m4 (a7 (sW 5) d7))) (a7 (s2 a00 (sN D2 (a7 (sW 2) d7)) (sN D2 (a7 (sW 5) d7))) d7)))))))
noncomputable def Z2:List DV->M PyData:=B9 ["house","stand","rule","hands_on","waiting","served","gone","place","rank","left","begun","staying"] (mSq (q4 2 (s2 ixD (sW 0) (sC (.int 2))))
  (mSq (q4 3 (k4 c_picked (vD (sV 0) (vD (sV 1) r9))))
  (mSq (q4 4 (sLC (Q5 (sW 1)) 2 [3] (w4 2 (d6 (bN 0) (d6 (bN 1) w8))) (uB (s2 (inD true) (sW 0) (sW 2))) (z8 (a7 (sV 0) (a7 (sV 1) d7)))))
  (mSq (a0J 5 6 (cO (K3 d7)) (cO (K3 d7)))
  (mSq (O0 (B5 (sV 3)) (bN 7) (mSq (M1 (w4 3 (d6 (bN 8) (d6 (bN 9) (d6 (bN 10) w8)))) (s2 ixD (sW 1) (sW 7)))
  (mIf (uB (s2 gtD (sW 9) (sC (.int 1)))) (O6 5 (z8 (a7 (sV 7) (a7 (z8 (a7 (sV 8) (a7 (s2 a00 (sW 9) (sC (.int 1))) (a7 (k4 a0Y (vD (sV 2) r9)) d7)))) d7)))) (O6 6 (sV 7)))))
  (mSq (q4 11 (sIf (uB (s2 (eqD false) (sW 2) (sC (.str "turns")))) (s2 C3 (sW 4) (sW 5)) (sN P7 (a7 (s2 C3 (sW 4) (sW 5)) d7))))
  (mRt (z8 (a7 (sV 11) (a7 (sV 3) (a7 (sN m4 (a7 (sW 6) d7)) d7)))))))))))
noncomputable def a2H:List DV->M PyData:=B9 ["house","stand","beat","filled","lost","staying","hands_on","gone"] (mSq (M1 (w4 2 (d6 (bN 3) (d6 (bN 4) w8))) (k4 W6 (vD (sV 0) (vD (sV 1) (vD (sV 2) r9)))))
  (mSq (M1 (w4 3 (d6 (bN 5) (d6 (bN 6) (d6 (bN 7) w8)))) (k4 Z2 (vD (sV 0) (vD (sV 3) r9))))
  (mRt (z8 (a7 (sN m4 (a7 (sLC (B5 (sW 5)) 2 [] (w4 2 (d6 (bN 0) (d6 (bN 1) w8))) E8 (sV 1)) d7)) (a7 (sV 4) (a7 (sV 7) d7)))))))
noncomputable abbrev b2:PyData->DE->Option DE:=w4 2 (d6 (bN 0) (d6 (bN 1) w8))
section
variable {F:FdS}
theorem a43 {me:DE->M PyData}{α:Type}{x y:α->PyData}{f:α->PyData}{rest:DE}{Q:List PyData->FdS->Prop}:∀(ds:List α) (o o':Option DV),(∀d∈ds,∀(F:FdS) (Q:PyData->FdS->Prop),Q (f d) F->wp (me (some (.dat (x d))::some (.dat (y d))::rest) F) Q)->Q (ds.map f) F->wp (L5 b2 E8 me (ds.map λd=>.tuple [x d,y d]) (o::o'::rest) F) Q
 | [],o,o',_,q=>c7.mpr q
 | d::ds,o,o',h,q=>by
  rw[List.map_cons,L5]
  have e:b2 (.tuple [x d,y d]) (o::o'::rest)=some (some (.dat (x d))::some (.dat (y d))::rest):=rfl
  rw[e,Option.bind_some,b8]
  refine a1C.mpr ?_
  rw[if_pos rfl,b8]
  refine h d List.mem_cons_self F _ ?_
  rw[b8]
  exact a43 ds _ _ (λd hd=>h d (List.mem_cons_of_mem _ hd)) (c7.mpr q)
theorem a8Z {mt:DE->M Bool}{me:DE->M PyData}{α:Type}{x y:α->PyData}{g:α->Bool}{f:α->PyData}{rest:DE}{Q:List PyData->FdS->Prop}:∀(ds:List α) (o o':Option DV),(∀d∈ds,∀(F:FdS) (Q:Bool->FdS->Prop),Q (g d) F->wp (mt (some (.dat (x d))::some (.dat (y d))::rest) F) Q) ->
  (∀d∈ds,g d=true->∀(F:FdS) (Q:PyData->FdS->Prop),Q (f d) F->wp (me (some (.dat (x d))::some (.dat (y d))::rest) F) Q)->Q ((ds.filter g).map f) F->wp (L5 b2 mt me (ds.map λd=>.tuple [x d,y d]) (o::o'::rest) F) Q
 | [],o,o',_,_,q=>c7.mpr q
 | d::ds,o,o',ht,h,q=>by
  rw[List.map_cons,L5]
  have e:b2 (.tuple [x d,y d]) (o::o'::rest)=some (some (.dat (x d))::some (.dat (y d))::rest):=rfl
  rw[e,Option.bind_some,b8]
  refine ht d List.mem_cons_self F _ ?_
  cases c:g d with
  | false =>
   rw[List.filter_cons_of_neg (by rw[c];simp)]at q
   rw[if_neg (by simp)]
   exact a8Z ds _ _ (λd hd=>ht d (List.mem_cons_of_mem _ hd)) (λd hd=>h d (List.mem_cons_of_mem _ hd)) q
  | true =>
   rw[List.filter_cons_of_pos c,List.map_cons]at q
   rw[if_pos rfl,b8]
   refine h d List.mem_cons_self c F _ ?_
   rw[b8]
   exact a8Z ds _ _ (λd hd=>ht d (List.mem_cons_of_mem _ hd)) (λd hd=>h d (List.mem_cons_of_mem _ hd)) (c7.mpr q)
theorem a6x {ps:List Pn}:A7 0 (ps.map pnD)=(List.range ps.length).map λi=>.tuple [.int (i:Int),pnD (pAt ps i)]:=by
 have key:∀(l:List PyData) (k:Nat),A7 k l=(List.range l.length).map λi=>.tuple [.int ((k+i:Nat):Int),l.getD i .none]:=by
  intro l
  induction l with
  | nil=>intro k;rfl
  | cons d l ih =>
   intro k
   rw[A7,ih,List.length_cons,List.range_succ_eq_map,List.map_cons,List.map_map]
   have e1:(PyData.tuple [.int (k:Int),d]) = .tuple [.int ((k+0:Nat):Int),(d::l).getD 0 .none]:=by simp
   rw[←e1]
   refine congrArg (List.cons _) (List.map_congr_left λi _=>?_)
   simp only[Function.comp,Nat.succ_eq_add_one,List.getD_cons_succ]
   rw[show k+1+i=k+(i+1) by omega]
 rw[key,List.length_map]
 refine List.map_congr_left λi hi=>?_
 have hi:=List.mem_range.mp hi
 rw[Nat.zero_add,List.getD_eq_getElem?_getD,List.getElem?_map,List.getElem?_eq_getElem hi]
 unfold pAt
 rw[List.getD_eq_getElem?_getD,List.getElem?_eq_getElem hi]
 rfl
theorem a1j {a b:Int}:(PyData.int a).eqv (.int b)=decide (a=b):=by
 simp only[PyData.eqv]
 exact Bool.beq_eq_decide_eq ..
theorem a03 {l:List Nat}{i:Nat}(hl:∀j∈l,j≤1000):inD true (.int (i:Int)) (.tuple (g8 l))=some (.bool (!decide (i∈l))):=by
 have hs:SeqAt.shaped (.tuple (g8 l))=true:=(a2w hl).shaped (by decide) (by decide)
 have hi:SeqAt.shaped (.int (i:Int))=true:=by simp[SeqAt.shaped,PyData.canLay0,PyData.depth]
 show(if SeqAt.shaped (.tuple (g8 l))=true∧SeqAt.shaped (.int (i:Int))=true then _ else none)=_
 rw[if_pos ⟨hs,hi⟩,if_pos rfl]
 refine congrArg (λb=>some (PyData.bool (!b))) ?_
 unfold g8
 rw[List.any_map]
 have e:(l.any ((λy=>y.eqv (.int (i:Int))) ∘ λj:Nat=>PyData.int (j:Int)))=l.any λj=>decide (j=i):=by
  congr 1
  funext j
  simp only[Function.comp,a1j]
  rw[decide_eq_decide];omega
 rw[e]
 induction l with
 | nil=>simp
 | cons a l ih =>
  rw[List.any_cons,ih λj hj=>hl j (List.mem_cons_of_mem _ hj)]
  ·by_cases h:a=i
   ·simp[h]
   ·have:¬i=a:=λz=>h z.symm
    simp[h,this]
  ·exact(a2w λj hj=>hl j (List.mem_cons_of_mem _ hj)).shaped (by decide) (by decide)
  ·congr 1
   funext j
   simp only[Function.comp,a1j]
   rw[decide_eq_decide];omega
end
section
variable {F:FdS}{Q:PyData->FdS->Prop}
noncomputable def a1L (pl:Option Nat)(n:Nat):Prop:=∀v,pl=some v->n≤v
noncomputable def b05 (pl:Option Nat)(n m:Nat):Int:=match pl with
 | some v=>(v:Int)-(n:Int)
 | none=>(m:Int)
theorem a6w {pl:Option Nat}{n:Nat}{bt:List PyData}(hp:a1L pl n):a0P bt none (some (b05 pl n bt.length))=bt.take (m9 pl n bt.length):=by
 cases pl with
 | none =>
  show a0P bt none (some ((bt.length:Nat):Int))=_
  rw[a1w];rfl
 | some v =>
  have:=hp v rfl
  show a0P bt none (some ((v:Int)-(n:Int)))=bt.take (min bt.length (v-n))
  have e:(v:Int)-(n:Int)=((v-n:Nat):Int):=by omega
  rw[e,a1w]
  by_cases hh:v-n≤bt.length
  ·rw[Nat.min_eq_right hh]
  ·rw[Nat.min_eq_left (by omega),List.take_of_length_le (by omega),List.take_of_length_le (by omega)]
theorem a3J {h r:PyData}{pl:Option Nat}{ps:List Pn}{bt:List (Int×Int)}(hp:a1L pl ps.length)(hl:ps.length+bt.length≤1000)(q:Q (.tuple [.tuple ((f7 pl ps bt).map pnD),.int ((bt.length-m9 pl ps.length bt.length:Nat):Int)]) F) :
  wp (W6 [.dat (.tuple [h,plD pl,r]),.dat (.tuple (ps.map pnD)),.dat (.tuple (bt.map cmD))] F) Q:=by
 have rle:m9 pl ps.length bt.length≤bt.length:=by unfold m9;split <;> omega
 have fin:∀(E:DE) (room:Int) (a5:Option DV),room=b05 pl ps.length bt.length->E=[some (.dat (.tuple [h,plD pl,r])),some (.dat (.tuple (ps.map pnD))),some (.dat (.tuple (bt.map cmD))),some (.dat (plD pl)),some (.dat (.int room)),a5] ->
   wp (mSq (q4 5 (sLC (B5 (a2M (sW 2) oNo (oI (sV 4)))) 2 [] (w4 2 (d6 (bN 0) (d6 (bN 1) w8))) E8 (z8 (a7 (sV 0) (a7 (sV 1) (a7 (sC (.bool false)) d7))))))
    (mRt (z8 (a7 (s2 C3 (sW 1) (sN m4 (a7 (sW 5) d7))) (a7 (s2 a00 (sN D2 (a7 (sW 2) d7)) (sN D2 (a7 (sW 5) d7))) d7)))) E F) (a8e Q):=by
  rintro E room a5 hroom rfl
  have ec:a0P (bt.map cmD) none (some room)=(bt.take (m9 pl ps.length bt.length)).map cmD:=by
   have:=a6w (bt:=bt.map cmD) hp
   rw[List.length_map]at this
   rw[hroom,this,List.map_take]
  refine j7.mpr (t7.mpr (J0.mpr (v7.mpr (a8k.mpr (j2.mpr (j9 rfl (a6C.mpr (b0t.mpr (l7.mpr (l8 rfl (c9 b1X (c9 b0u (c9 G0 ?_)))))))))))))
  rw[ec]
  refine⟨sz (by rw[List.length_map,List.length_take];omega),?_⟩
  refine a43 (x:=λc:Int×Int=>.int c.1) (y:=λc=>.int c.2) (f:=λc=>pnD (c.1,c.2,false)) _ _ _ (λc hc F Q q=>?_) ?_
  ·walk_at "go"
   exact q
  ·refine⟨k8 rfl,i8 ?_⟩
   refine L0.mpr (C2.mpr (b9.mpr (n6.mpr (j2.mpr (j9 rfl (E3.mpr (b9.mpr (j2.mpr (j9 rfl (d9.mpr (c9 W4 (c9 (b2H ?_) (b9.mpr (n6.mpr (E3.mpr (b9.mpr (j2.mpr (j9 rfl (d9.mpr (c9 Q9 (E3.mpr (b9.mpr (j2.mpr (j9 rfl (d9.mpr (c9 a2x (c9 a0n (d9.mpr ⟨u6 rfl,?_⟩))))))))))))))))))))))))))))
   ·rw[List.length_map,List.length_map,List.length_take];omega
   ·have e1:ps.map pnD++(bt.take (m9 pl ps.length bt.length)).map (λc=>pnD (c.1,c.2,false))=(f7 pl ps bt).map pnD:=by
     unfold f7;rw[List.map_append,List.map_map];rfl
    have e2:((List.map cmD bt).length:Int)-((List.map (λc:Int×Int=>pnD (c.1,c.2,false)) (bt.take (m9 pl ps.length bt.length))).length:Int)=((bt.length-m9 pl ps.length bt.length:Nat):Int):=by
     rw[List.length_map,List.length_map,List.length_take];omega
    rw[e1,e2]
    exact q
 unfold W6
 refine P2.mpr (j7.mpr (t7.mpr (n6.mpr (j2.mpr (j9 rfl (n8.mpr (c9 rfl ⟨k8 rfl,i8 (j7.mpr (t7.mpr (a1R.mpr (P4.mpr (n6.mpr (j2.mpr (j9 rfl (n8.mpr (c9 rfl (c9 rfl ?_))))))))))⟩)))))))
 cases pl with
 | none =>
  refine J8 rfl ?_
  refine E3.mpr (b9.mpr (j2.mpr (j9 rfl (d9.mpr (c9 Q9 ⟨k8 rfl,i8 ?_⟩)))))
  rw[List.length_map]
  exact fin _ _ none rfl rfl
 | some v =>
  refine m5 rfl ?_
  refine n6.mpr (j2.mpr (j9 rfl (E3.mpr (b9.mpr (j2.mpr (j9 rfl (d9.mpr (c9 Q9 (c9 a0n ⟨k8 rfl,i8 ?_⟩)))))))))
  rw[List.length_map]
  exact fin _ _ none rfl rfl
end
variable [Fam]
noncomputable def tnB:PyData->Bool
 | .str x=>decide (x = "turns")
 | _=>false
noncomputable abbrev prD (q:Nat×Pn):PyData:=.tuple [.int (q.1:Int),pnD q.2]
theorem a7B {r:PyData}(h:r∈W8):eqD false r (.str "turns")=some (.bool (tnB r)):=by
 obtain⟨x,rfl,hx⟩:=N2 h
 show some (PyData.bool (if false=true then !decide (x = "turns") else decide (x = "turns")))=_
 rw[if_neg (by decide)]
 rfl
theorem a6u {c1 c2:DE->M DV}{E:DE}{F:FdS}{i j:Nat}{Q:Out->FdS->Prop}(h:wp (c1 E F) λx F1=>wp (c2 E F1) λy F2=>(i<E.length∧j<E.length)∧Q (.nx ((E.set i (some x)).set j (some y))) F2):wp (a0J i j c1 c2 E F) Q:=by
 unfold a0J
 rw[b8]
 refine j4 h λx F1 h1=>?_
 rw[b8]
 refine j4 h1 λy F2 h2=>?_
 rw[if_pos h2.1]
 exact c7.mpr h2.2
theorem a5S {m:DE->M (List PyData)}{E:DE}{F:FdS}{Q:DV->FdS->Prop}(h:wp (m E F) λx F1=>Q (.own x) F1):wp (cO m E F) Q:=by
 unfold cO
 rw[b8]
 exact j4 h λx F1 h1=>c7.mpr h1
theorem b3g {m:DE->M PyData}{E:DE}{F:FdS}{Q:DV->FdS->Prop}(h:wp (m E F) λx F1=>Q (.dat x) F1):wp (cD m E F) Q:=by
 unfold cD
 rw[b8]
 exact j4 h λx F1 h1=>c7.mpr h1
theorem a1I:∀l:List (Nat×Pn),(l.map prD).mapM a2U=some (l.map λq=>(q.1:Int))
 | []=>rfl
 | q::l=>by rw[List.map_cons,List.mapM_cons,a1I l];rfl
theorem a6p {l:List (Nat×Pn)}(h:l≠[]):G4 (l.map prD)=none:=by
 cases l with
 | nil=>exact absurd rfl h
 | cons q l=>rfl
theorem a9k {l m:List (Nat×Pn)}(hp:m.Perm l)(hs:m.Pairwise λa b=>a.1<b.1)(h64:l.length<64):P7 [.list (l.map prD)]=some (.list (m.map prD)):=by
 by_cases hl:l=[]
 ·subst hl
  have:=hp.symm.nil_eq
  subst this
  rfl
 ·have nd:(l.map λq=>(q.1:Int)).Nodup:=by
   refine(hp.map λq=>(q.1:Int)).nodup_iff.mp ?_
   rw[List.nodup_iff_pairwise_ne,List.pairwise_map]
   exact hs.imp λh=>by omega
  simp only[P7,a6p hl,a1I,Option.bind_some]
  rw[if_pos ⟨nd,by rw[List.length_map];exact h64⟩]
  have e:(l.map λq=>(q.1:Int)).zip (l.map prD)=l.map λq=>((q.1:Int),prD q):=O4 _ _ l
  rw[e,a6m (l:=l.map λq=>((q.1:Int),prD q)) (m:=m.map λq=>((q.1:Int),prD q)) (hp.map _) (by rw[List.pairwise_map];exact hs.imp λh=>by show(_:Int)<_;omega),List.map_map]
  rfl
section
variable {F:FdS}{Q:PyData->FdS->Prop}
theorem a3i {r:PyData}{pl:PyData}{ps:List Pn}{h:Nat}(hr:r∈W8)(hl:ps.length<64)
  (q:Q (.tuple [.list ((t9 (tnB r) (i6 h (kOf r) (kb r) ps) ps).map λi=>prD (i,B4 (i6 h (kOf r) (kb r) ps) (kb r) ps i)),.tuple (g8 (i6 h (kOf r) (kb r) ps)),.tuple (g8 (A2 (i6 h (kOf r) (kb r) ps) ps))]) F) :
  wp (Z2 [.dat (.tuple [.int (h:Int),pl,r]),.dat (.tuple (ps.map pnD))] F) Q:=by
 have hsub:=u7 (h:=h) (k:=kOf r) (kp:=kb r) (ps:=ps)
 have hnd:=u9 (h:=h) (k:=kOf r) (kp:=kb r) (ps:=ps)
 have hplen:(i6 h (kOf r) (kb r) ps).length≤ps.length:=by rw[O2];omega
 unfold Z2
 walk_at "go"
 refine a6v hr hl ?_
 generalize i6 h (kOf r) (kb r) ps=P at q hsub hnd hplen
 refine⟨k8 rfl,i8 (j7.mpr (t7.mpr (J0.mpr (a2v (j2.mpr (j9 rfl (c9 G0 ?_)))))))⟩
 rw[a6x]
 refine⟨sz (by rw[List.length_map,List.length_range];omega),?_⟩
 refine a8Z (x:=λi:Nat=>.int (i:Int)) (y:=λi=>pnD (pAt ps i)) (g:=λi=>!decide (i∈P)) (f:=λi=>prD (i,pAt ps i)) _ _ _ (λi hi F Q q=>?_) (λi hi _ F Q q=>?_) ?_
 ·walk_at "go"
  refine c9 (a03 λj hj=>by have:=hsub j hj;omega) ?_
  exact c9 rfl q
 ·walk_at "go"
  exact q
 have ew:((List.range ps.length).filter λi=>!decide (i∈P))=P1 P ps:=rfl
 rw[ew]
 refine⟨k8 rfl,i8 (j7.mpr (a6u (a5S (O9.mpr (d9.mpr ⟨sz (by decide),a5S (O9.mpr (d9.mpr ⟨sz (by decide),⟨k8 rfl,k8 rfl⟩,i8 (j7.mpr (Q8.mpr (v7.mpr (l7.mpr (l8 rfl (c9 G0 ?_))))))⟩))⟩)))))⟩
 refine G2 (λm E F'=>F'=F∧∃o7 o8 o9 o10 o11,E=[some (.dat (.tuple [.int (h:Int),pl,r])),some (.dat (.tuple (ps.map pnD))),some (.dat r),some (.dat (.tuple (g8 P))),some (.dat (.list ((P1 P ps).map λi=>prD (i,pAt ps i)))),some (.own ((D4 (P.take m) ps).map λi=>prD (i,fe (kb r) (pAt ps i)))),some (.own (g8 (A2 (P.take m) ps))),o7,o8,o9,o10,o11]) _ 0 _ F ⟨rfl,none,none,none,none,none,rfl⟩ ?_ ?_
 ·rintro m d e E F1 ⟨rfl,o7,o8,o9,o10,o11,rfl⟩
  obtain⟨i,ei,rfl⟩:=a7r e
  have hi:=hsub i (List.mem_of_getElem? ei)
  have et:P.take (0+m+1)=P.take (0+m)++[i]:=by rw[Nat.zero_add,List.take_add_one,ei];rfl
  refine⟨_,rfl,?_⟩
  refine j7.mpr (Q6.mpr (n6.mpr (j2.mpr (j9 rfl (j2.mpr (j9 rfl (c9 (a9P hi) (c9 rfl (i8 ?_)))))))))
  refine Y8.mpr (P4.mpr (n6.mpr (j2.mpr (j9 rfl (n8.mpr (c9 a6O (c9 rfl (U3 (λhc=>?_) λhc=>?_))))))))
  ·have hc:1<(pAt ps i).2.1:=of_decide_eq_true hc
   have e1:D4 (P.take (0+m+1)) ps=D4 (P.take (0+m)) ps++[i]:=by
    unfold D4;rw[et,List.filter_append,List.filter_cons_of_pos (by simp;omega),List.filter_nil]
   have e2:A2 (P.take (0+m+1)) ps=A2 (P.take (0+m)) ps:=by
    unfold A2;rw[et,List.filter_append,List.filter_cons_of_neg (by simp;omega),List.filter_nil,List.append_nil]
   refine a0C rfl (by
    have:=List.length_filter_le (λi=>!decide ((pAt ps i).2.1≤1)) (P.take (0+m))
    have h2:=List.length_take (i:=0+m) (l:=P)
    rw[List.length_map];unfold D4;omega) ?_
   refine C2.mpr (b9.mpr (l7.mpr (l8 rfl (b9.mpr (C2.mpr (b9.mpr (l7.mpr (l8 rfl (b9.mpr (n6.mpr (j2.mpr (j9 rfl (n8.mpr (c9 a0n (b9.mpr (r8.mpr (y8.mpr (l7.mpr (l8 rfl (v9.mpr ?_))))))))))))))))))))
   refine a57 hr (d9.mpr ⟨u6 rfl,d9.mpr ⟨u6 rfl,?_⟩⟩)
   exact⟨_,rfl,rfl,_,_,_,_,_,by rw[e1,e2,List.map_append];rfl⟩
  ·have hc:¬1<(pAt ps i).2.1:=of_decide_eq_false hc
   have e1:D4 (P.take (0+m+1)) ps=D4 (P.take (0+m)) ps:=by
    unfold D4;rw[et,List.filter_append,List.filter_cons_of_neg (by simp;omega),List.filter_nil,List.append_nil]
   have e2:g8 (A2 (P.take (0+m+1)) ps)=g8 (A2 (P.take (0+m)) ps)++[.int (i:Int)]:=by
    unfold A2;rw[et,List.filter_append,List.filter_cons_of_pos (by simp;omega),List.filter_nil]
    simp only[g8,List.map_append,List.map_cons,List.map_nil]
   refine a0C rfl (by
    have:=List.length_filter_le (λi=>decide ((pAt ps i).2.1≤1)) (P.take (0+m))
    have h2:=List.length_take (i:=0+m) (l:=P)
    rw[x9];unfold A2;omega) (l7.mpr (l8 rfl ?_))
   exact⟨_,rfl,rfl,_,_,_,_,_,by rw[e1,e2];rfl⟩
 ·rintro E F1 ⟨rfl,o7,o8,o9,o10,o11,rfl⟩
  rw[x9,Nat.zero_add,List.take_length]
  have lw:(P1 P ps).length≤ps.length:=by
   have:=List.length_filter_le (λi=>!decide (i∈P)) (List.range ps.length)
   rw[List.length_range]at this;exact this
  have ls:(D4 P ps).length≤ps.length:=by
   have:=List.length_filter_le (λi=>!decide ((pAt ps i).2.1≤1)) P
   unfold D4;omega
  have eW:(P1 P ps).map (λi=>prD (i,pAt ps i))=(P1 P ps).map λi=>prD (i,B4 P (kb r) ps i):=List.map_congr_left λi hi=>by
   have h2:i ∉ P:=by have:=(List.mem_filter.mp hi).2;simpa using this
   unfold B4;rw[if_neg h2]
  have eS:(D4 P ps).map (λi=>prD (i,fe (kb r) (pAt ps i)))=(D4 P ps).map λi=>prD (i,B4 P (kb r) ps i):=List.map_congr_left λi hi=>by
   have h2:i∈P:=(List.mem_filter.mp hi).1
   unfold B4;rw[if_pos h2]
  have eA:(P1 P ps).map (λi=>prD (i,pAt ps i))++(D4 P ps).map (λi=>prD (i,fe (kb r) (pAt ps i)))=((P1 P ps++D4 P ps).map λi=>(i,B4 P (kb r) ps i)).map prD:=by
   rw[eW,eS,←List.map_append,List.map_map];rfl
  have last:∀(E:DE) (st:PyData),st = .list ((t9 (tnB r) P ps).map λi=>prD (i,B4 P (kb r) ps i))->E=[some (.dat (.tuple [.int (h:Int),pl,r])),some (.dat (.tuple (ps.map pnD))),some (.dat r),some (.dat (.tuple (g8 P))),some (.dat (.list ((P1 P ps).map λi=>prD (i,pAt ps i)))),some (.own ((D4 P ps).map λi=>prD (i,fe (kb r) (pAt ps i)))),some (.own (g8 (A2 P ps))),o7,o8,o9,o10,some (.dat st)] ->
    wp (mRt (z8 (a7 (sV 11) (a7 (sV 3) (a7 (sN m4 (a7 (sW 6) d7)) d7)))) E F1) (a8e Q):=by
   rintro E st rfl rfl
   walk_at "go"
   exact q
  refine i8 (j7.mpr (t7.mpr (a1R.mpr (P4.mpr (n6.mpr (j2.mpr (j9 rfl (n8.mpr (c9 (a7B hr) (c9 rfl (U3 (λht=>?_) λht=>?_)))))))))))
  ·refine n6.mpr (j2.mpr (j9 rfl (j2.mpr (Y0 rfl (c9 (b0A ?_) ⟨k8 rfl,i8 (last _ _ ?_ rfl)⟩)))))
   ·rw[List.length_map,List.length_map];omega
   ·rw[eA,List.map_map]
    unfold t9
    rw[if_pos ht]
    rfl
  ·refine E3.mpr (b9.mpr (n6.mpr (j2.mpr (j9 rfl (j2.mpr (Y0 rfl (c9 (b0A ?_) (d9.mpr ?_))))))))
   ·rw[List.length_map,List.length_map];omega
   ·rw[eA]
    have hperm:=(a0e hsub hnd).symm.map λi=>(i,B4 P (kb r) ps i)
    have hsrt:((t9 false P ps).map λi=>(i,B4 P (kb r) ps i)).Pairwise λa b=>a.1<b.1:=by
     rw[List.pairwise_map];exact a9m P ps
    have hlen:((P1 P ps++D4 P ps).map λi=>(i,B4 P (kb r) ps i)).length<64:=by
     rw[List.length_map,(a0e hsub hnd).length_eq]
     have:=List.length_filter_le (λi=>!C7 P ps i) (List.range ps.length)
     unfold t9
     rw[if_neg (by simp)]
     rw[List.length_range]at this
     omega
    refine c9 (a9k hperm hsrt hlen) ⟨k8 rfl,i8 (last _ _ ?_ rfl)⟩
    rw[ht,List.map_map]
    rfl
theorem a7s {r:PyData}{pl:Option Nat}{ps:List Pn}{bt:List (Int×Int)}{h:Nat}(hr:r∈W8)(hp:a1L pl ps.length)(hl:ps.length+bt.length<64)
  (q:Q (.tuple [.tuple ((after h (kOf r) (kb r) (tnB r) (f7 pl ps bt)).map pnD),.int ((bt.length-m9 pl ps.length bt.length:Nat):Int),.tuple (g8 (A2 (i6 h (kOf r) (kb r) (f7 pl ps bt)) (f7 pl ps bt)))]) F) :
  wp (a2H [.dat (.tuple [.int (h:Int),plD pl,r]),.dat (.tuple (ps.map pnD)),.dat (.tuple (bt.map cmD))] F) Q:=by
 have hfl:(f7 pl ps bt).length<64:=by
  rw[R9];unfold m9;split <;> omega
 unfold a2H
 walk_at "go"
 refine a3J hp (by omega) ?_
 walk_at "go"
 refine a3i hr hfl ?_
 refine c9 rfl (i8 ?_)
 refine L0.mpr (C2.mpr (b9.mpr (E3.mpr (b9.mpr (J0.mpr (v7.mpr (j2.mpr (j9 rfl (c9 G6 ⟨sz ?_,?_⟩)))))))))
 ·have h1:=(R6 (tn:=tnB r) (u7 (h:=h) (k:=kOf r) (kp:=kb r) (ps:=f7 pl ps bt)) u9).length_eq
  have h2:=List.length_filter_le (λi=>!C7 (i6 h (kOf r) (kb r) (f7 pl ps bt)) (f7 pl ps bt) i) (List.range (f7 pl ps bt).length)
  rw[List.length_map,h1]
  unfold t9
  rw[if_neg (by simp)]
  rw[List.length_range]at h2
  omega
 ·refine a43 (x:=λi:Nat=>.int (i:Int)) (y:=λi=>pnD (B4 (i6 h (kOf r) (kb r) (f7 pl ps bt)) (kb r) (f7 pl ps bt) i)) (f:=λi=>pnD (B4 (i6 h (kOf r) (kb r) (f7 pl ps bt)) (kb r) (f7 pl ps bt) i)) _ _ _ (λi hi F Q q=>?_) ?_
  ·walk_at "go"
   exact q
  ·walk_at "go"
   unfold after at q
   rw[List.map_map]at q
   exact q
end
variable [Fam]
noncomputable def a6Q:List DV->M PyData:=B9 ["house","way","stand","stands","lost","gone","beat","following","turned_away","places"] (mSq (a19 3 4 5 (cO (K3 (a7 (sV 2) d7))) (cO (K3 d7)) (cO (K3 d7)))
  (mSq (O0 (B5 (sV 1)) (bN 6) (mSq (M1 (w4 3 (d6 (bN 7) (d6 (bN 8) (d6 (bN 9) w8)))) (k4 a2H (vD (sV 0) (vD (s2 ixD (sW 3) (s1 a3G (sC (.int 1)))) (vD (sV 6) r9)))))
  (mSq (O6 3 (sV 7))
  (mSq (O6 4 (sV 8))
  (O6 5 (sN D2 (a7 (sW 9) d7)))))))
  (mRt (z8 (a7 (sN m4 (a7 (sW 3) d7)) (a7 (sN m4 (a7 (sW 4) d7)) (a7 (sN m4 (a7 (sW 5) d7)) d7)))))))
noncomputable abbrev btD (b:Bt):PyData:=.tuple (b.map cmD)
noncomputable abbrev stD (ps:List Pn):PyData:=.tuple (ps.map pnD)
theorem a8A {c1 c2 c3:DE->M DV}{E:DE}{F:FdS}{i j k:Nat}{Q:Out->FdS->Prop}(h:wp (c1 E F) λx F1=>wp (c2 E F1) λy F2=>wp (c3 E F2) λz F3=>(i<E.length∧j<E.length∧k<E.length)∧Q (.nx (((E.set i (some x)).set j (some y)).set k (some z))) F3):wp (a19 i j k c1 c2 c3 E F) Q:=by
 unfold a19
 rw[b8]
 refine j4 h λx F1 h1=>?_
 rw[b8]
 refine j4 h1 λy F2 h2=>?_
 rw[b8]
 refine j4 h2 λz F3 h3=>?_
 rw[if_pos h3.1]
 exact c7.mpr h3.2
theorem a7T {ds:List PyData}{x:PyData}:ixD (.list (ds++[x])) (.int (-1))=some x:=by
 show atI (ds++[x]) (-1)=some x
 unfold atI
 have e:ixN (ds++[x]).length (-1)=some ds.length:=by
  unfold ixN
  rw[if_neg (by decide),if_pos (by simp only[List.length_append,List.length_cons,List.length_nil];omega)]
  congr 1
  simp only[List.length_append,List.length_cons,List.length_nil];omega
 rw[e,Option.bind_some,List.getElem?_append_right (Nat.le_refl _),Nat.sub_self]
 rfl
theorem a4x {way:List Bt}{i:Nat}{d:PyData}(h:(way.map btD)[i]? = some d):i<way.length∧d=btD (c6 way i):=by
 rw[List.getElem?_map]at h
 obtain⟨b,e,rfl⟩:=Option.map_eq_some_iff.mp h
 obtain⟨hi,rfl⟩:=List.getElem?_eq_some_iff.mp e
 exact⟨hi,by unfold c6;simp[hi]⟩
theorem a9D {way:List Bt}:A7 0 (way.map btD)=(List.range way.length).map λi=>.tuple [.int (i:Int),btD (c6 way i)]:=by
 have key:∀(l:List PyData) (k:Nat),A7 k l=(List.range l.length).map λi=>.tuple [.int ((k+i:Nat):Int),l.getD i .none]:=by
  intro l
  induction l with
  | nil=>intro k;rfl
  | cons d l ih =>
   intro k
   rw[A7,ih,List.length_cons,List.range_succ_eq_map,List.map_cons,List.map_map]
   have e1:(PyData.tuple [.int (k:Int),d]) = .tuple [.int ((k+0:Nat):Int),(d::l).getD 0 .none]:=by simp
   rw[←e1]
   refine congrArg (List.cons _) (List.map_congr_left λi _=>?_)
   simp only[Function.comp,Nat.succ_eq_add_one,List.getD_cons_succ]
   rw[show k+1+i=k+(i+1) by omega]
 rw[key,List.length_map]
 refine List.map_congr_left λi hi=>?_
 have hi:=List.mem_range.mp hi
 rw[Nat.zero_add,List.getD_eq_getElem?_getD,List.getElem?_map,List.getElem?_eq_getElem hi]
 unfold c6
 rw[List.getD_eq_getElem?_getD,List.getElem?_eq_getElem hi]
 rfl
theorem a7f {f:Nat->PyData}{n i:Nat}(h:i<n):atI ((List.range n).map f) (i:Int)=some (f i):=by
 refine Y1 ?_
 rw[List.getElem?_map,List.getElem?_eq_getElem (by simpa using h)]
 simp
theorem a5p {n i:Nat}{d:PyData}{f:Nat->PyData}(h:((List.range n).map f)[i]? = some d):i<n∧d=f i:=by
 rw[List.getElem?_map]at h
 obtain⟨b,e,rfl⟩:=Option.map_eq_some_iff.mp h
 obtain⟨hi,rfl⟩:=List.getElem?_eq_some_iff.mp e
 simp only[List.length_range]at hi
 exact⟨hi,by simp⟩
noncomputable def a45 (pl:Option Nat)(ps:List Pn)(bt:Bt):Nat:=bt.length-m9 pl ps.length bt.length
noncomputable def a1q (h k:Nat)(kp:Bool)(pl:Option Nat)(ps:List Pn)(bt:Bt):Nat:=(A2 (i6 h k kp (f7 pl ps bt)) (f7 pl ps bt)).length
section
variable {F:FdS}{Q:PyData->FdS->Prop}
theorem b2b {r:PyData}{pl:Option Nat}{ps:List Pn}{way:List Bt}{h:Nat}(hr:r∈W8)(hp:∀i<way.length,a1L pl (G8 (l9 h (kOf r) (kb r) (tnB r) pl) ps way i).length)(hl:ps.length+g9 way<64)(hn:way.length≤1000)
  (q:Q (.tuple [.tuple ((List.range (way.length+1)).map λi=>stD (G8 (l9 h (kOf r) (kb r) (tnB r) pl) ps way i)),.tuple ((List.range way.length).map λi=>.int (a45 pl (G8 (l9 h (kOf r) (kb r) (tnB r) pl) ps way i) (c6 way i):Nat)),.tuple ((List.range way.length).map λi=>.int (a1q h (kOf r) (kb r) pl (G8 (l9 h (kOf r) (kb r) (tnB r) pl) ps way i) (c6 way i):Nat))]) F) :
  wp (a6Q [.dat (.tuple [.int (h:Int),plD pl,r]),.dat (.tuple (way.map btD)),.dat (stD ps)] F) Q:=by
 have hfit:=λi hi=>a3g (h:=h) (k:=kOf r) (kp:=kb r) (tn:=tnB r) (pl:=pl) (ps:=ps) (way:=way) hl (i:=i) hi
 have hsucc:=λi hi=>T4 (f:=l9 h (kOf r) (kb r) (tnB r) pl) (ps:=ps) (way:=way) (i:=i) hi
 have hzero:=M9 (f:=l9 h (kOf r) (kb r) (tnB r) pl) (ps:=ps) (way:=way)
 generalize G8 (l9 h (kOf r) (kb r) (tnB r) pl) ps way=st at q hp hfit hsucc hzero
 unfold a6Q
 refine P2.mpr ?_
 dsimp only[v6,List.map_cons,List.map_nil,List.length_cons,List.length_nil,List.replicate,List.cons_append,List.nil_append,Nat.reduceAdd,Nat.reduceSub]
 refine j7.mpr (a8A (a5S (O9.mpr (b9.mpr (l7.mpr (l8 rfl (d9.mpr ⟨u6 rfl,a5S (O9.mpr (d9.mpr ⟨sz (by decide),a5S (O9.mpr (d9.mpr ⟨sz (by decide),⟨k8 rfl,k8 rfl,k8 rfl⟩,i8 (j7.mpr (Q8.mpr (v7.mpr (l7.mpr (l8 rfl (c9 G0 ?_))))))⟩))⟩))⟩)))))))
 refine G2 (λm E F'=>F'=F∧∃o6 o7 o8 o9,E=[some (.dat (.tuple [.int (h:Int),plD pl,r])),some (.dat (.tuple (way.map btD))),some (.dat (stD ps)),some (.own ((List.range (m+1)).map λi=>stD (st i))),some (.own ((List.range m).map λi=>.int (a45 pl (st i) (c6 way i):Nat))),some (.own ((List.range m).map λi=>.int (a1q h (kOf r) (kb r) pl (st i) (c6 way i):Nat))),o6,o7,o8,o9]) _ 0 _ F ⟨rfl,none,none,none,none,by rw[←hzero];rfl⟩ ?_ ?_
 ·rintro m d e E F1 ⟨rfl,o6,o7,o8,o9,rfl⟩
  rw[Nat.zero_add]
  obtain⟨hm,rfl⟩:=a4x e
  refine⟨_,rfl,?_⟩
  have es:(List.range (m+1)).map (λi=>stD (st i))=(List.range m).map (λi=>stD (st i))++[stD (st m)]:=by rw[List.range_succ,List.map_append];rfl
  refine j7.mpr (Q6.mpr (r8.mpr (y8.mpr (l7.mpr (l8 rfl (y8.mpr (n6.mpr (j2.mpr (Y0 rfl (a8R.mpr (n8.mpr (c9 rfl ?_)))))))))))) 
  rw[es]
  refine c9 a7T (y8.mpr (l7.mpr (l8 rfl (v9.mpr ?_))))
  refine a7s hr (hp m hm) (hfit m hm) (c9 rfl (i8 ?_))
  refine j7.mpr (a0C rfl (by simp;omega) (l7.mpr (l8 rfl (i8 ?_))))
  refine j7.mpr (a0C rfl (by simp;omega) (l7.mpr (l8 rfl (i8 ?_))))
  refine a0C rfl (by simp;omega) (E3.mpr (b9.mpr (j2.mpr (j9 rfl (d9.mpr (c9 rfl ?_))))))
  have e3:(List.range (m+1+1)).map (λi=>stD (st i))=(List.range m).map (λi=>stD (st i))++[stD (st m)]++[stD (st (m+1))]:=by rw[List.range_succ,List.map_append,es];rfl
  have e4:(List.range (m+1)).map (λi=>PyData.int (a45 pl (st i) (c6 way i):Nat))=(List.range m).map (λi=>PyData.int (a45 pl (st i) (c6 way i):Nat))++[.int (a45 pl (st m) (c6 way m):Nat)]:=by rw[List.range_succ,List.map_append];rfl
  have e5:(List.range (m+1)).map (λi=>PyData.int (a1q h (kOf r) (kb r) pl (st i) (c6 way i):Nat))=(List.range m).map (λi=>PyData.int (a1q h (kOf r) (kb r) pl (st i) (c6 way i):Nat))++[.int (a1q h (kOf r) (kb r) pl (st m) (c6 way m):Nat)]:=by rw[List.range_succ,List.map_append];rfl
  have e6:a1q h (kOf r) (kb r) pl (st m) (c6 way m)=(g8 (A2 (i6 h (kOf r) (kb r) (f7 pl (st m) (c6 way m))) (f7 pl (st m) (c6 way m)))).length:=by unfold a1q;rw[x9]
  exact⟨_,rfl,rfl,_,_,_,_,by rw[e3,e4,e5,hsucc m hm,e6];rfl⟩
 ·rintro E F1 ⟨rfl,o6,o7,o8,o9,rfl⟩
  rw[Nat.zero_add,List.length_map]
  refine i8 ?_
  walk_at "go"
  exact q
end
variable [Fam]
section
variable {F:FdS}{Q:PyData->FdS->Prop}
end
variable [Fam]
noncomputable def a4D (nm:List Str):List DV->M PyData:=B9 nm (mSq (a01 3 (K3 d7))
  (mSq (q4 4 (sC (.int 0)))
  (mSq (O0 (a0v (a7 (k4 drawS (vF 0 (vD (s2 C3 (sW 1) (sC (.int 1))) r9))) d7)) (bN 5) (mSq (a01 6 (K3 d7))
  (mSq (O0 (a0v (a7 (s2 ixD (sC (.list [.int 0,.int 0,.int 1,.int 1,.int 2,.int 3])) (k4 drawS (vF 0 (vD (sC (.int 6)) r9)))) d7)) (bN 7) (mIf (uB (s2 ltD (sW 4) (sC (.int 40)))) (mSq (O6 6 (z8 (a7 (k4 drawS (vF 0 (vD (sC (.int 2)) r9))) (a7 (s2 C3 (sC (.int 1)) (k4 drawS (vF 0 (vD (sV 2) r9)))) d7))))
  (q4 4 (s2 C3 (sW 4) (sC (.int 1))))) mNx))
  (O6 3 (sN m4 (a7 (sW 6) d7))))))
  (mRt (sN m4 (a7 (sW 3) d7))))))
noncomputable abbrev nmB:List Str:=["_law_feed_here","_law_beats","_law_works","_law_way_here","_law_many","_law_k","_law_beat","_law_j"]
noncomputable def a8S (c:Int×Int):Prop:=0≤c.1∧c.1≤1∧1≤c.2∧c.2≤6
structure WayOk (n:Nat) (way:List Bt):Prop where
 len:way.length≤n
 many:g9 way≤40
 ok:∀b∈way,∀c∈b,a8S c
theorem a3L (way:List Bt)(b:Bt):g9 (way++[b])=g9 way+b.length:=by
 unfold g9
 rw[List.map_append,List.sum_append]
 rfl
theorem six {r:Int}(r0:0≤r)(r1:r<6):∃c:Nat,ixD (.list [.int 0,.int 0,.int 1,.int 1,.int 2,.int 3]) (.int r)=some (.int (c:Int))∧c≤3:=by
 have:r=0∨r=1∨r=2∨r=3∨r=4∨r=5:=by omega
 rcases this with rfl | rfl | rfl | rfl | rfl | rfl
 ·exact⟨0,rfl,by decide⟩
 ·exact⟨0,rfl,by decide⟩
 ·exact⟨1,rfl,by decide⟩
 ·exact⟨1,rfl,by decide⟩
 ·exact⟨2,rfl,by decide⟩
 ·exact⟨3,rfl,by decide⟩
theorem a9p {nm:List Str}(hnm:nm.length=8){n w:Nat}(hn:n≤24)(w1:1≤w)(w2:w≤6):Tr (a4D nm) [.feed,.dat (.int (n:Int)),.dat (.int (w:Int))] 170 (λd=>∃way:List Bt,d = .tuple (way.map btD)∧WayOk n way):=Tr.of λF hF=>by
 unfold a4D
 refine P2.mpr ?_
 have es:v6 nm [.feed,.dat (.int (n:Int)),.dat (.int (w:Int))]=[some .feed,some (.dat (.int (n:Int))),some (.dat (.int (w:Int))),none,none,none,none,none]:=by unfold v6;rw[hnm];rfl
 rw[es]
 walk_at "go"
 refine T7 (by omega) (by omega) (by omega) λr F1 r0 r1 t1=>?_
 refine d9.mpr (c9 (a4l (by omega) (by omega)) ?_)
 refine G2 (λm E F'=>F'.t≤F.t+1+7*m∧∃way:List Bt,∃o5 o6 o7,E=[some .feed,some (.dat (.int (n:Int))),some (.dat (.int (w:Int))),some (.own (way.map btD)),some (.dat (.int (g9 way:Nat))),o5,o6,o7]∧way.length=m∧g9 way≤40∧∀b∈way,∀c∈b,a8S c) _ 0 _ F1 ⟨by omega,[],none,none,none,rfl,rfl,by decide,λb hb=>by cases hb⟩ ?_ ?_
 ·rintro m d e E F2 ⟨t2,way,o5,o6,o7,rfl,hw,hm,ho⟩
  have hi:=(List.getElem?_eq_some_iff.mp e).1
  rw[O1]at hi
  refine⟨_,rfl,?_⟩
  walk_at "go"
  refine T7 (by decide) (by decide) (by omega) λr2 F3 r20 r21 t3=>?_
  obtain⟨c,ec,hc⟩:=six r20 r21
  refine c9 ec (d9.mpr (c9 (a4l (by omega) (by omega)) ?_))
  refine G2 (λj E F'=>F'.t≤F2.t+1+2*j∧∃bt:Bt,∃o5 o7,E=[some .feed,some (.dat (.int (n:Int))),some (.dat (.int (w:Int))),some (.own (way.map btD)),some (.dat (.int (g9 way+bt.length:Nat))),o5,some (.own (bt.map cmD)),o7]∧bt.length≤j∧g9 way+bt.length≤40∧∀c∈bt,a8S c) _ 0 _ F3 ⟨by omega,[],_,_,rfl,Nat.le_refl _,hm,λb hb=>by cases hb⟩ ?_ ?_
  ·rintro j d2 e2 E F4 ⟨t4,bt,o5,o7,rfl,hbl,hbm,hbo⟩
   have hj:=(List.getElem?_eq_some_iff.mp e2).1
   rw[O1]at hj
   refine⟨_,rfl,?_⟩
   refine Y8.mpr (P4.mpr (n6.mpr (j2.mpr (j9 rfl (n8.mpr (c9 rfl (c9 rfl (U3 (λhc=>?_) λhc=>?_))))))))
   ·have hc:((g9 way+bt.length:Nat):Int)<40:=of_decide_eq_true hc
    refine j7.mpr (a0C rfl (by rw[List.length_map];omega) ?_)
    walk_at "go"
    refine T7 (by decide) (by decide) (by omega) λa F5 a0 a1 t5=>?_
    walk_at "go"
    refine T7 (by omega) (by omega) (by omega) λb F6 b0 b1 t6=>?_
    walk_at "go"
    refine⟨_,rfl,by omega,bt++[(a,1+b)],o5,some (.dat d2),?_,by simp;omega,by simp;omega,λc hc=>?_⟩
    ·have e1:(g9 way+(bt++[(a,1+b)]).length:Nat)=(g9 way+bt.length)+1:=by simp;omega
     rw[e1,List.map_append]
     rfl
    ·rcases List.mem_append.mp hc with hc | hc
     ·exact hbo c hc
     ·simp only[List.mem_singleton]at hc
      subst hc
      exact⟨a0,by show a≤1;omega,by show 1≤1+b;omega,by show 1+b≤6;omega⟩
   ·exact a2m.mpr ⟨_,rfl,by omega,bt,_,_,rfl,by omega,hbm,hbo⟩
  ·rintro E F4 ⟨t4,bt,o5,o7,rfl,hbl,hbm,hbo⟩
   rw[O1]at t4
   refine i8 (a0C rfl (by rw[List.length_map];omega) ?_)
   walk_at "go"
   refine⟨_,rfl,by omega,way++[bt],o5,some (.own (bt.map cmD)),o7,?_,by simp[hw],by rw[a3L];exact hbm,λb hb=>?_⟩
   ·rw[a3L,List.map_append];rfl
   ·rcases List.mem_append.mp hb with hb | hb
    ·exact ho b hb
    ·simp only[List.mem_singleton]at hb
     subst hb
     exact hbo
 ·rintro E F2 ⟨t2,way,o5,o6,o7,rfl,hw,hm,ho⟩
  rw[O1]at t2 hw
  walk_at "go"
  exact⟨by omega,way,rfl,by omega,hm,ho⟩
variable [Fam]
theorem eq0 {i:Int}:eqD false (.int i) (.int 0)=some (.bool (decide (i=0))):=by
 show some (PyData.bool (if false=true then !(PyData.int _).eqv (.int 0) else(PyData.int _).eqv (.int 0)))=_
 rw[if_neg (by decide),a1j]
theorem b0O {ds:List PyData}{N k:Nat}(h:Gd 0 N k (.list ds))(hk:k≤50):eqD true (.list ds) (.list ds)=some (.bool false):=by
 have hs:=h.shaped (by decide) hk
 show(if SeqAt.shaped (.list ds)=true∧SeqAt.shaped (.list ds)=true then _ else none)=_
 rw[if_pos (show SeqAt.shaped (.list ds)=true∧SeqAt.shaped (.list ds)=true from⟨hs,hs⟩),if_pos rfl]
 refine congrArg (λb=>some (PyData.bool b)) ?_
 have:=PySem.SeqAt.eqv_refl (.list ds) (h.nod (by decide)).cl
 rw[this];rfl
theorem b1j {i j:Int}(h0:-(2 ^ 62)≤i)(h1:i<2 ^ 62)(h2:-(2 ^ 62)≤j)(h3:j<2 ^ 62):a2W [.int i,.int j]=some (P5 i (j-i).toNat):=if_pos ⟨h0,h1,h2,h3⟩
theorem a7A {me:DE->M PyData}{α:Type}{F:FdS}{x:α->PyData}{f:α->PyData}{rest:DE}{Q:List PyData->FdS->Prop}:∀(ds:List α) (o:Option DV),(∀d∈ds,∀(F:FdS) (Q:PyData->FdS->Prop),Q (f d) F->wp (me (some (.dat (x d))::rest) F) Q)->Q (ds.map f) F->wp (L5 (bN 0) E8 me (ds.map x) (o::rest) F) Q:=λds o h q=>by
 have key:∀(l:List α) (o:Option DV) (Q:List PyData->FdS->Prop),(∀d∈l,d∈ds)->Q (l.map f) F->wp (L5 (bN 0) E8 me (l.map x) (o::rest) F) Q:=by
  intro l
  induction l with
  | nil=>intro o Q _ q;exact c7.mpr q
  | cons d l ih =>
   intro o Q hs q
   rw[List.map_cons,L5]
   have e:bN 0 (x d) (o::rest)=some (some (.dat (x d))::rest):=rfl
   rw[e,Option.bind_some,b8]
   refine a1C.mpr ?_
   rw[if_pos rfl,b8]
   refine h d (hs d List.mem_cons_self) F _ ?_
   rw[b8]
   exact ih _ _ (λz hz=>hs z (List.mem_cons_of_mem _ hz)) (c7.mpr q)
 exact key ds o Q (λd hd=>hd) q
theorem a3C {way:List Bt}{P:Int×Int->Prop}(h:∀b∈way,∀c∈b,P c)(i:Nat):∀c∈c6 way i,P c:=by
 unfold c6
 by_cases hi:i<way.length
 ·have:way.getD i []=way[i]:=by simp[hi]
  rw[this]
  exact h _ (List.getElem_mem hi)
 ·have:way.getD i []=[]:=by simp[Nat.not_lt.mp hi]
  rw[this]
  intro c hc
  cases hc
theorem a8H {b:Bt}(h:∀c∈b,a8S c):0≤a7E b∧a7E b≤6*b.length:=by
 induction b with
 | nil=>exact⟨Int.le_refl _,Int.le_refl _⟩
 | cons c b ih =>
  obtain⟨a1,a2,a3,a4⟩:=h c List.mem_cons_self
  obtain⟨i1,i2⟩:=ih λx hx=>h x (List.mem_cons_of_mem _ hx)
  unfold a7E at i1 i2 ⊢
  simp only[List.map_cons,List.sum_cons,List.length_cons]
  omega
theorem a5B {n:Nat}{f:Nat->Int}(h:∀i<n,-100000≤f i∧f i≤100000):Gd 0 (1+n) 1 (.list ((List.range n).map λi=>.int (f i))):=by
 refine Gd.lst (M:=1) (λx hx=>?_) ?_
 ·obtain⟨i,hi,rfl⟩:=List.mem_map.mp hx
  have:=h i (List.mem_range.mp hi)
  exact a8C this.1 this.2
 ·have:=a1s (c:=1) (ds:=(List.range n).map λi=>PyData.int (f i)) λd hd=>by
   obtain⟨i,hi,rfl⟩:=List.mem_map.mp hd
   have:=h i (List.mem_range.mp hi)
   exact(a8C (n:=0) this.1 this.2).ct
  rw[List.length_map,List.length_range]at this
  omega
variable [Fam]
noncomputable def C8:List DV->M PyData:=B9 ["course","waited","gone_at","word","beat","waits"] (mSq (M1 (w4 3 (d6 (bN 3) (d6 (bN 4) (d6 (bN 5) w8)))) (sV 0))
  (mSq (a1X (λi j=>i+j) 5 (sIf (uT (sW 1)) (sC (.int 1)) (sC (.int 0))))
  (mSq (mIf (uB (s2 (isD false) (sW 2) (sC .none))) (mRt (z8 (a7 (sV 3) (a7 (sV 4) (a7 (sV 5) d7))))) mNx)
  (mRt (z8 (a7 (sC (.str "gone")) (a7 (sV 4) (a7 (sV 2) (a7 (sV 5) d7)))))))))
noncomputable def a0t:List DV->M PyData:=B9 ["house","way","told","stand","inside","at","beat","filled","lost","entered","staying","hands_on","gone","place","number"] (mSq (a01 2 (K3 d7))
  (mSq (a0J 3 4 (cD (sC (.tuple []))) (cO (K3 d7)))
  (mSq (O0 (Q5 (sV 1)) (w4 2 (d6 (bN 5) (d6 (bN 6) w8))) (mSq (M1 (w4 2 (d6 (bN 7) (d6 (bN 8) w8))) (k4 W6 (vD (sV 0) (vD (sV 3) (vD (sV 6) r9)))))
  (mSq (q4 9 (s2 a00 (sN D2 (a7 (sW 6) d7)) (sW 8)))
  (mSq (a3s 4 (a1m (a7 (sN D2 (a7 (sW 2) d7)) (a7 (s2 C3 (sN D2 (a7 (sW 2) d7)) (sW 9)) d7))))
  (mSq (a3s 2 (s2 C3 (s2 M3 (a41 (a7 (z8 (a7 (sC (.str "in")) (a7 (sV 5) (a7 (sC (.int 0)) d7)))) d7)) (sW 9)) (s2 M3 (a41 (a7 (z8 (a7 (sC (.str "lost")) (a7 (sV 5) d7))) d7)) (sW 8))))
  (mSq (M1 (w4 3 (d6 (bN 10) (d6 (bN 11) (d6 (bN 12) w8)))) (k4 Z2 (vD (sV 0) (vD (sV 7) r9))))
  (mSq (a5Z 4 (O0 (Q5 (sV 4)) (w4 2 (d6 (bN 13) (d6 (bN 14) w8))) (a6J 2 (k4 C8 (vD (s2 ixD (sW 2) (sW 14)) (vD (s2 (inD true) (sW 13) (sW 11)) (vD (sIf (uB (s2 (inD false) (sW 13) (sW 12))) (s2 C3 (sW 5) (sC (.int 1))) (sC .none)) r9)))) (sV 14))))
  (mSq (a01 4 (fLC (B5 (sW 10)) 2 [4] (w4 2 (d6 (bN 0) (d6 (bN 1) w8))) E8 (s2 ixD (sW 2) (sW 0))))
  (q4 3 (sN m4 (a7 (sLC (B5 (sW 10)) 2 [] (w4 2 (d6 (bN 0) (d6 (bN 1) w8))) E8 (sV 1)) d7)))))))))))
  (mRt (sW 2)))))
theorem b1v {i:Nat}{m:DE->M Out}{E:DE}{F:FdS}{ds:List PyData}{Q:Out->FdS->Prop}(he:Q0 E i=some ds)(q:wp (m (E.set i (some (.dat (.list ds)))) F) Q):wp (a5Z i m E F) Q:=by
 unfold a5Z;rw[he,Option.bind_some];exact q
theorem a31 {f:Int->Int->Int}{i:Nat}{a:DE->M PyData}{E:DE}{F:FdS}{x:Int}{Q:Out->FdS->Prop}(he:E[i]? = some (some (.dat (.int x))))(q:wp (a E F) λd F1=>∃y:Int,d = .int y∧Q (.nx (E.set i (some (.dat (.int (f x y)))))) F1):wp (a1X f i a E F) Q:=by
 unfold a1X
 rw[he]
 dsimp only
 rw[b8]
 refine j4 q λd F1 ⟨y,e,q⟩=>?_
 subst e
 have hl:i<E.length:=(List.getElem?_eq_some_iff.mp he).1
 have e2:bN i (.int (f x y)) E=some (E.set i (some (.dat (.int (f x y))))):=by unfold bN;rw[if_pos hl]
 show wp ((bN i (.int (f x y)) E).bind _) Q
 rw[e2]
 exact c7.mpr q
theorem a8J {a:DE->M (List PyData)}{E:DE}{F:FdS}{Q:PyData->FdS->Prop}(q:wp (a E F) λx F1=>oB (a2W x) λds=>ds.length≤1000∧Q (.list ds) F1):wp (a1m a E F) Q:=by
 unfold a1m
 rw[b8]
 refine j4 q λx F1 ⟨ds,e,h1,q⟩=>?_
 rw[e,Option.bind_some,if_pos h1]
 exact c7.mpr q
theorem b0b {d:PyData}{k:Nat}(h:k≤1000):M3 (.list [d]) (.int (k:Int))=some (.list (List.replicate k d)):=by
 have e:(List.replicate ((k:Int)).toNat [d]).flatten=List.replicate k d:=by
  rw[Int.toNat_natCast]
  clear h
  induction k with
  | zero=>rfl
  | succ k ih=>rw[List.replicate_succ,List.flatten_cons,ih,List.replicate_succ];rfl
 rw[←e]
 have hz:[d].length*((k:Int)).toNat≤sizeLine:=sz (by rw[Int.toNat_natCast];show 1*k≤_;omega)
 have h1:-(2 ^ 63)≤(k:Int):=by omega
 have h2:(k:Int)<2 ^ 63:=by omega
 generalize (k:Int)=i at hz h1 h2
 exact if_pos ⟨h1,h2,hz⟩
theorem b0M {l:List Nat}{i:Nat}(hl:∀j∈l,j≤1000):inD false (.int (i:Int)) (.tuple (g8 l))=some (.bool (decide (i∈l))):=by
 have h:=a03 (i:=i) hl
 have hs:SeqAt.shaped (.tuple (g8 l))=true:=(a2w hl).shaped (by decide) (by decide)
 have hi:SeqAt.shaped (.int (i:Int))=true:=by simp[SeqAt.shaped,PyData.canLay0,PyData.depth]
 have e1:inD true (.int (i:Int)) (.tuple (g8 l))=some (.bool (!((g8 l).any λy=>y.eqv (.int (i:Int))))):=by
  show(if SeqAt.shaped (.tuple (g8 l))=true∧SeqAt.shaped (.int (i:Int))=true then _ else none)=_
  rw[if_pos ⟨hs,hi⟩,if_pos rfl]
 rw[e1]at h
 have e2:inD false (.int (i:Int)) (.tuple (g8 l))=some (.bool ((g8 l).any λy=>y.eqv (.int (i:Int)))):=by
  show(if SeqAt.shaped (.tuple (g8 l))=true∧SeqAt.shaped (.int (i:Int))=true then _ else none)=_
  rw[if_pos ⟨hs,hi⟩,if_neg (by decide)]
 rw[e2]
 have h3:(!((g8 l).any λy=>y.eqv (.int (i:Int)))) = !decide (i∈l):=by
  injection h with h
  injection h
 have h4:((g8 l).any λy=>y.eqv (.int (i:Int)))=decide (i∈l):=by
  generalize ((g8 l).any λy=>y.eqv (.int (i:Int)))=x at h3
  generalize decide (i∈l)=y at h3
  cases x <;> cases y <;> simp_all
 rw[h4]
noncomputable abbrev a98 (a w:Nat):PyData:=.tuple [.str "in",.int (a:Int),.int (w:Int)]
noncomputable abbrev goD (a m w:Nat):PyData:=.tuple [.str "gone",.int (a:Int),.int (m:Int),.int (w:Int)]
section
variable {F:FdS}{Q:PyData->FdS->Prop}
theorem a6F {a w:Nat}{b:Bool}(q:Q (a98 a (w+if b then 1 else 0)) F):wp (C8 [.dat (a98 a w),.dat (.bool b),.dat .none] F) Q:=by
 unfold C8
 refine P2.mpr ?_
 dsimp only[v6,List.map_cons,List.map_nil,List.length_cons,List.length_nil,List.replicate,List.cons_append,List.nil_append,Nat.reduceAdd,Nat.reduceSub]
 refine j7.mpr (Q6.mpr (l7.mpr (l8 rfl (c9 rfl (i8 (j7.mpr (a31 (x:=(w:Int)) rfl (a1R.mpr (a9x.mpr (j2.mpr (j9 rfl (c9 rfl (U3 (λhb=>?_) λhb=>?_)))))))))))))
 ·refine n8.mpr ⟨1,rfl,i8 (j7.mpr (Y8.mpr (P4.mpr (n6.mpr (j2.mpr (j9 rfl (n8.mpr (c9 rfl (c9 rfl (J8 rfl ?_))))))))))⟩
  rw[hb,if_pos rfl]at q
  exact L0.mpr (C2.mpr (b9.mpr (l7.mpr (l8 rfl (b9.mpr (l7.mpr (l8 rfl (b9.mpr (l7.mpr (l8 rfl (d9.mpr ⟨u6 rfl,a86 (N4 q)⟩)))))))))))
 ·refine n8.mpr ⟨0,rfl,i8 (j7.mpr (Y8.mpr (P4.mpr (n6.mpr (j2.mpr (j9 rfl (n8.mpr (c9 rfl (c9 rfl (J8 rfl ?_))))))))))⟩
  rw[hb,if_neg (by simp)]at q
  have e:(w:Int)+0=((w+0:Nat):Int):=by omega
  rw[←show((w+0:Nat):Int)=(w:Int)+0 from by omega] at *
  exact L0.mpr (C2.mpr (b9.mpr (l7.mpr (l8 rfl (b9.mpr (l7.mpr (l8 rfl (b9.mpr (l7.mpr (l8 rfl (d9.mpr ⟨u6 rfl,a86 (N4 q)⟩)))))))))))
theorem a4r {a w m:Nat}(q:Q (goD a m w) F):wp (C8 [.dat (a98 a w),.dat (.bool false),.dat (.int (m:Int))] F) Q:=by
 unfold C8
 refine P2.mpr ?_
 dsimp only[v6,List.map_cons,List.map_nil,List.length_cons,List.length_nil,List.replicate,List.cons_append,List.nil_append,Nat.reduceAdd,Nat.reduceSub]
 refine j7.mpr (Q6.mpr (l7.mpr (l8 rfl (c9 rfl (i8 (j7.mpr (a31 (x:=(w:Int)) rfl (a1R.mpr (a9x.mpr (j2.mpr (j9 rfl (c9 rfl (m5 rfl (n8.mpr ⟨0,rfl,i8 (j7.mpr (Y8.mpr (P4.mpr (n6.mpr (j2.mpr (j9 rfl (n8.mpr (c9 rfl (c9 rfl (m5 rfl (a2m.mpr (i8 ?_))))))))))))⟩))))))))))))))
 exact L0.mpr (C2.mpr (b9.mpr (n8.mpr (b9.mpr (l7.mpr (l8 rfl (b9.mpr (l7.mpr (l8 rfl (b9.mpr (l7.mpr (l8 rfl (d9.mpr ⟨u6 rfl,N4 (by rw[Int.add_zero];exact q)⟩)))))))))))))
end
end L3
namespace L3
open PySem PySem.Spec PyProof.Rows L2
noncomputable def g7 (way:List Bt)(m:Nat):Nat:=g9 (way.take m)
noncomputable def rkW (way:List Bt)(n:Nat):Int:=(way.flatten.getD n (0,0)).1
noncomputable def wkW (way:List Bt)(n:Nat):Int:=(way.flatten.getD n (0,0)).2
noncomputable def arW (way:List Bt)(n:Nat):Nat:=((List.range way.length).filter λm=>decide (g7 way (m+1)≤n)).length
theorem C5 {way:List Bt}{m:Nat}(h:m<way.length):g7 way (m+1)=g7 way m+(c6 way m).length:=B3 h
theorem T5 (way:List Bt)(m:Nat):g7 way m≤g7 way (m+1):=by
 by_cases h:m<way.length
 ·rw[C5 h];omega
 ·unfold g7
  rw[List.take_of_length_le (by omega),List.take_of_length_le (by omega)]
  exact Nat.le_refl _
theorem a16 (way:List Bt)(m:Nat):g7 way m≤g9 way:=S8 way m
theorem B8 (l:List Bt):l.flatten.length=g9 l:=by
 unfold g9
 rw[List.length_flatten]
theorem a3D {way:List Bt}{m j:Nat}(hm:m<way.length)(hj:j<(c6 way m).length):way.flatten.getD (g7 way m+j) (0,0)=(c6 way m).getD j (0,0):=by
 have e:way=way.take m++c6 way m::way.drop (m+1):=by
  unfold c6
  have:way.getD m []=way[m]:=by simp[hm]
  rw[this]
  simp
 have e2:way.flatten=(way.take m).flatten++(c6 way m++(way.drop (m+1)).flatten):=by
  conv=>lhs;rw[e]
  rw[List.flatten_append,List.flatten_cons]
 rw[e2,List.getD_eq_getElem?_getD,List.getElem?_append_right (by rw[B8];unfold g7;omega),B8]
 have e3:g7 way m+j-g9 (way.take m)=j:=by unfold g7;omega
 rw[e3,List.getElem?_append_left hj,List.getD_eq_getElem?_getD]
theorem a5o (m:Nat):∀N,m≤N->((List.range N).filter λk=>decide (k<m)).length=m
 | 0,h=>by
  have:m=0:=by omega
  subst this
  rfl
 | N+1,h=>by
  rw[List.range_succ,List.filter_append,List.length_append]
  by_cases hz:m≤N
  ·rw[a5o m N hz,List.filter_cons_of_neg (by simpa using hz)];rfl
  ·have hm:m=N+1:=by omega
   subst hm
   have e:((List.range N).filter λk=>decide (k<N+1))=List.range N:=List.filter_eq_self.mpr λa ha=>decide_eq_true (by have:=List.mem_range.mp ha;omega)
   rw[e,List.filter_cons_of_pos (by simp)]
   simp
theorem a5r {f:Nat->Nat}(h:∀m,f m≤f (m+1)){a b:Nat}(hab:a≤b):f a≤f b:=by
 obtain⟨k,rfl⟩:=Nat.le.dest hab
 induction k with
 | zero=>exact Nat.le_refl _
 | succ k ih=>exact Nat.le_trans (ih (by omega)) (h _)
theorem b0F {way:List Bt}{m n:Nat}(hm:m<way.length)(h1:g7 way m≤n)(h2:n<g7 way (m+1)):arW way n=m:=by
 unfold arW
 have e:((List.range way.length).filter λk=>decide (g7 way (k+1)≤n))=(List.range way.length).filter λk=>decide (k<m):=by
  refine List.filter_congr λk hk=>?_
  rw[decide_eq_decide]
  constructor
  ·intro z
   refine Nat.lt_of_not_le λhle=>?_
   have:=a5r (T5 way) (show m+1≤k+1 by omega)
   omega
  ·intro z
   have:=a5r (T5 way) (show k+1≤m by omega)
   omega
 rw[e,a5o m way.length (by omega)]
section
variable (h:Nat)(way:List Bt)
end
noncomputable def W1s (way:List Bt):Prop:=∀b∈way,∀c∈b,1≤c.2
theorem Y3 {way:List Bt}(hw:W1s way){n:Nat}(hn:n<g9 way):1≤wkW way n:=by
 rw[←B8]at hn
 unfold wkW
 have e:way.flatten.getD n (0,0)=way.flatten[n]:=by rw[List.getD_eq_getElem?_getD,List.getElem?_eq_getElem hn];rfl
 rw[e]
 obtain⟨b,hb,hc⟩:=List.mem_flatten.mp (List.getElem_mem hn)
 exact hw b hb _ hc
theorem a2T {way:List Bt}(hw:W1s way)(n:Nat):0≤wkW way n:=by
 by_cases hn:n<g9 way
 ·have:=Y3 hw hn;omega
 ·unfold wkW
  rw[←B8]at hn
  have e:way.flatten.getD n (0,0)=(0,0):=by rw[List.getD_eq_getElem?_getD,List.getElem?_eq_none (Nat.not_lt.mp hn)];rfl
  rw[e]
  exact Int.le_refl _
section
variable {h:Nat}{way:List Bt}{m:Nat}
theorem M7 (a b:Nat):List.range (a+b)=List.range a++(List.range b).map (a + ·):=List.range_add ..
end
end L3
namespace L3
open PySem PySem.Spec PyProof.Rows L2
variable [Fam]
noncomputable abbrev fiD (h:Nat):PyData:=.tuple [.int (h:Int),.none,.str "first"]
section
variable {F:FdS}{Q:PyData->FdS->Prop}
theorem a7d (a b:Nat):P5 (a:Int) b=g8 ((List.range b).map (a + ·)):=by
 unfold P5 g8
 rw[List.map_map]
 refine List.map_congr_left λi _=>?_
 show PyData.int ((a:Int)+(i:Int)) = .int ((a+i:Nat):Int)
 have e2:((a+i:Nat):Int)=(a:Int)+(i:Int):=by omega
 rw[e2]
theorem a6o (l:List Nat):A7 0 (g8 l)=(List.range l.length).map λi=>.tuple [.int (i:Int),.int (l.getD i 0:Nat)]:=by
 have key:∀(l:List PyData) (k:Nat),A7 k l=(List.range l.length).map λi=>.tuple [.int ((k+i:Nat):Int),l.getD i .none]:=by
  intro l
  induction l with
  | nil=>intro k;rfl
  | cons d l ih =>
   intro k
   rw[A7,ih,List.length_cons,List.range_succ_eq_map,List.map_cons,List.map_map]
   have e1:(PyData.tuple [.int (k:Int),d]) = .tuple [.int ((k+0:Nat):Int),(d::l).getD 0 .none]:=by simp
   rw[←e1]
   refine congrArg (List.cons _) (List.map_congr_left λi _=>?_)
   simp only[Function.comp,Nat.succ_eq_add_one,List.getD_cons_succ]
   rw[show k+1+i=k+(i+1) by omega]
 rw[key,x9]
 refine List.map_congr_left λi hi=>?_
 have hi:=List.mem_range.mp hi
 unfold g8
 rw[Nat.zero_add,List.getD_eq_getElem?_getD,List.getElem?_map,List.getElem?_eq_getElem hi,List.getD_eq_getElem?_getD,List.getElem?_eq_getElem hi]
 rfl
end
variable [Fam]
noncomputable def a0c:List DV->M PyData:=B9 ["house","way","stand","voids"] (mSq (q4 2 (s2 ixD (s2 ixD (k4 a6Q (vD (sV 0) (vD (sV 1) (vD (sC (.tuple [])) r9)))) (sC (.int 0))) (s1 a3G (sC (.int 1)))))
  (mSq (q4 3 (sC (.int 0)))
  (mSq (mWh (uB (s2 gtD (sN D2 (a7 (sW 2) d7)) (sC (.int 0)))) (mSq (q4 2 (s2 ixD (k4 a2H (vD (sV 0) (vD (sV 2) (vD (sC (.tuple [])) r9)))) (sC (.int 0))))
  (a1X (λi j=>i+j) 3 (sC (.int 1)))))
  (mRt (s2 C3 (sW 1) (s2 M3 (sC (.tuple [.tuple []])) (sW 3)))))))
theorem a7D {way:List Bt}{m:Nat}(h:way.length≤m):g7 way m=g9 way:=by
 unfold g7
 rw[List.take_of_length_le h]
theorem b1H {k:Nat}(h:k≤1000):M3 (.tuple [.tuple []]) (.int (k:Int))=some (.tuple ((List.replicate k ([]:Bt)).map btD)):=by
 have e:(List.replicate ((k:Int)).toNat [PyData.tuple []]).flatten=(List.replicate k ([]:Bt)).map btD:=by
  rw[Int.toNat_natCast,List.map_replicate]
  clear h
  induction k with
  | zero=>rfl
  | succ k ih=>rw[List.replicate_succ,List.flatten_cons,ih,List.replicate_succ];rfl
 rw[←e]
 have hz:[PyData.tuple []].length*((k:Int)).toNat≤sizeLine:=sz (by rw[Int.toNat_natCast];show 1*k≤_;omega)
 have h1:-(2 ^ 63)≤(k:Int):=by omega
 have h2:(k:Int)<2 ^ 63:=by omega
 generalize (k:Int)=i at hz h1 h2
 exact if_pos ⟨h1,h2,hz⟩
noncomputable def muV (S:Int)(E:DE):Nat:=match E[3]? with
 | some (some (DV.dat (PyData.int v)))=>(S-v).toNat
 | _=>0
theorem a8Y:eqD false (.str "gone") (.str "gone")=some (.bool true):=by
 show some (PyData.bool (if false=true then !decide (("gone":Str) = "gone") else decide (("gone":Str) = "gone")))=_
 rw[if_neg (by decide),decide_eq_true rfl]
section
variable {F:FdS}{Q:PyData->FdS->Prop}
theorem a8Q (N:Nat)(f:Nat->PyData):A7 0 ((List.range N).map f)=(List.range N).map λi=>.tuple [.int (i:Int),f i]:=by
 have key:∀(l:List PyData) (k:Nat),A7 k l=(List.range l.length).map λi=>.tuple [.int ((k+i:Nat):Int),l.getD i .none]:=by
  intro l
  induction l with
  | nil=>intro k;rfl
  | cons d l ih =>
   intro k
   rw[A7,ih,List.length_cons,List.range_succ_eq_map,List.map_cons,List.map_map]
   have e1:(PyData.tuple [.int (k:Int),d]) = .tuple [.int ((k+0:Nat):Int),(d::l).getD 0 .none]:=by simp
   rw[←e1]
   refine congrArg (List.cons _) (List.map_congr_left λi _=>?_)
   simp only[Function.comp,Nat.succ_eq_add_one,List.getD_cons_succ]
   rw[show k+1+i=k+(i+1) by omega]
 rw[key,List.length_map,List.length_range]
 refine List.map_congr_left λi hi=>?_
 have hi:=List.mem_range.mp hi
 rw[Nat.zero_add,List.getD_eq_getElem?_getD,List.getElem?_map,List.getElem?_eq_getElem (by simpa using hi)]
 simp
end
end L3
namespace L3
open PySem PySem.Spec PyProof.Rows L2
inductive Co where
 | inn (b w:Nat)
 | lost (b:Nat)
 | gone (b m w:Nat)
noncomputable def coD:Co->PyData
 | .inn b w=>.tuple [.str "in",.int (b:Int),.int (w:Int)]
 | .lost b=>.tuple [.str "lost",.int (b:Int)]
 | .gone b m w=>.tuple [.str "gone",.int (b:Int),.int (m:Int),.int (w:Int)]
noncomputable def aft (t:Nat)(waited gone:Bool):Co->Co
 | .inn b w=>if gone=true then .gone b (t+1) w else .inn b (w+if waited then 1 else 0)
 | c=>c
structure CS where
 told:List Co
 ins:List Nat
 st:List Pn
section
variable (h k:Nat)(kp tn:Bool)(pl:Option Nat)
noncomputable def w6 (bt:Bt)(s:CS):List Nat:=s.ins++(List.range (m9 pl s.st.length bt.length)).map (s.told.length + ·)
noncomputable def x6 (t:Nat)(bt:Bt)(s:CS):List Co:=s.told++(List.replicate (m9 pl s.st.length bt.length) (.inn t 0)++List.replicate (bt.length-m9 pl s.st.length bt.length) (.lost t))
noncomputable def G5 (bt:Bt)(s:CS):List Nat:=i6 h k kp (f7 pl s.st bt)
noncomputable def a3q (t:Nat)(bt:Bt)(s:CS)(n:Nat):Co:=aft t (!decide ((w6 pl bt s).idxOf n∈G5 h k kp pl bt s)) (decide ((w6 pl bt s).idxOf n∈A2 (G5 h k kp pl bt s) (f7 pl s.st bt))) ((x6 pl t bt s).getD n (.lost 0))
noncomputable def K1 (t:Nat)(bt:Bt)(s:CS):CS where
 told:=(List.range (x6 pl t bt s).length).map λn=>if n∈w6 pl bt s then a3q h k kp pl t bt s n else(x6 pl t bt s).getD n (.lost 0)
 ins:=(t9 tn (G5 h k kp pl bt s) (f7 pl s.st bt)).map λi=>(w6 pl bt s).getD i 0
 st:=after h k kp tn (f7 pl s.st bt)
noncomputable def G9 (way:List Bt):Nat->CS
 | 0=>⟨[],[],[]⟩
 | m+1=>K1 h k kp tn pl m (c6 way m) (G9 way m)
end
structure CsOk (s:CS):Prop where
 nd:s.ins.Nodup
 lt:∀n∈s.ins,n<s.told.length
 inn:∀n∈s.ins,∃b w,s.told.getD n (.lost 0) = .inn b w
 len:s.ins.length=s.st.length
section
variable {h k:Nat}{kp tn:Bool}{pl:Option Nat}{t:Nat}{bt:Bt}{s:CS}
theorem a0U (pl:Option Nat)(n m:Nat):m9 pl n m≤m:=by unfold m9;split <;> omega
theorem W0:(x6 pl t bt s).length=s.told.length+bt.length:=by
 unfold x6
 simp only[List.length_append,List.length_replicate]
 have:=a0U pl s.st.length bt.length
 omega
theorem a2b (o:CsOk s):(w6 pl bt s).length=(f7 pl s.st bt).length:=by
 unfold w6
 rw[R9,List.length_append,List.length_map,List.length_range,o.len]
theorem a3A (o:CsOk s):(w6 pl bt s).Nodup:=by
 unfold w6
 rw[List.nodup_append]
 refine⟨o.nd,?_,λa ha b hb e=>?_⟩
 ·rw[List.nodup_iff_pairwise_ne,List.pairwise_map]
  exact(List.nodup_iff_pairwise_ne.mp (t8 _)).imp λhne z=>hne (by omega)
 ·obtain⟨j,hj,rfl⟩:=List.mem_map.mp hb
  have:=o.lt a ha
  omega
theorem a3n (o:CsOk s):∀n∈w6 pl bt s,n<(x6 pl t bt s).length:=λn hn=>by
 rw[W0]
 rcases List.mem_append.mp hn with hn | hn
 ·have:=o.lt n hn;omega
 ·obtain⟨j,hj,rfl⟩:=List.mem_map.mp hn
  have:=List.mem_range.mp hj
  have:=a0U pl s.st.length bt.length
  omega
theorem a2n (o:CsOk s):∀n∈w6 pl bt s,∃b w,(x6 pl t bt s).getD n (.lost 0) = .inn b w:=λn hn=>by
 rcases List.mem_append.mp hn with hn | hn
 ·obtain⟨b,w,e⟩:=o.inn n hn
  refine⟨b,w,?_⟩
  unfold x6
  rw[List.getD_eq_getElem?_getD,List.getElem?_append_left (o.lt n hn),←List.getD_eq_getElem?_getD]
  exact e
 ·obtain⟨j,hj,rfl⟩:=List.mem_map.mp hn
  have hj:=List.mem_range.mp hj
  refine⟨t,0,?_⟩
  unfold x6
  rw[List.getD_eq_getElem?_getD,List.getElem?_append_right (by omega),List.getElem?_append_left (by rw[List.length_replicate];omega),List.getElem?_replicate,if_pos (by omega)]
  rfl
theorem L4 {l:List Nat}(hn:l.Nodup){i:Nat}(hi:i<l.length):l.idxOf l[i]=i:=hn.idxOf_getElem i hi
theorem a10 {l:List Nat}{i:Nat}(hi:i<l.length):l.getD i 0=l[i]:=by rw[List.getD_eq_getElem?_getD,List.getElem?_eq_getElem hi];rfl
theorem a1l:∀i∈G5 h k kp pl bt s,i<(f7 pl s.st bt).length:=u7
theorem a64 (o:CsOk s):CsOk (K1 h k kp tn pl t bt s):=by
 have hnd:=a3A (pl:=pl) (bt:=bt) o
 have hlen:=a2b (pl:=pl) (bt:=bt) o
 have hst:∀i∈t9 tn (G5 h k kp pl bt s) (f7 pl s.st bt),i<(w6 pl bt s).length∧C7 (G5 h k kp pl bt s) (f7 pl s.st bt) i=false:=λi hi=>by
  have:=Z0 (tn:=tn) a1l u9 hi
  rw[hlen]
  exact this
 have key:∀i∈t9 tn (G5 h k kp pl bt s) (f7 pl s.st bt),∃b w,(K1 h k kp tn pl t bt s).told.getD ((w6 pl bt s).getD i 0) (.lost 0) = .inn b w∧(w6 pl bt s).getD i 0<(K1 h k kp tn pl t bt s).told.length:=λi hi=>by
  obtain⟨h1,h2⟩:=hst i hi
  have hm:=List.getElem_mem h1
  have hlt:=a3n (pl:=pl) (t:=t) (bt:=bt) o _ hm
  obtain⟨b,w,e⟩:=a2n (pl:=pl) (t:=t) (bt:=bt) o _ hm
  rw[a10 h1]
  have hl2:(w6 pl bt s)[i]<(K1 h k kp tn pl t bt s).told.length:=by
   show _<(List.map _ (List.range _)).length
   rw[List.length_map,List.length_range]
   exact hlt
  have e2:(K1 h k kp tn pl t bt s).told.getD (w6 pl bt s)[i] (.lost 0)=a3q h k kp pl t bt s (w6 pl bt s)[i]:=by
   show(List.map _ (List.range _)).getD _ _=_
   rw[List.getD_eq_getElem?_getD,List.getElem?_map,List.getElem?_eq_getElem (by rw[List.length_range];exact hlt)]
   simp only[List.getElem_range,Option.map_some,Option.getD_some]
   rw[if_pos hm]
  have hg:¬i∈A2 (G5 h k kp pl bt s) (f7 pl s.st bt):=λz=>by
   have z:=List.mem_filter.mp z
   unfold C7 at h2
   rw[decide_eq_true z.1,z.2]at h2
   cases h2
  rw[e2]
  unfold a3q
  rw[e,L4 hnd h1,decide_eq_false hg]
  exact⟨b,_,rfl,hl2⟩
 have hsnd:(t9 tn (G5 h k kp pl bt s) (f7 pl s.st bt)).Nodup:=by
  refine(R6 (tn:=tn) a1l u9).nodup_iff.mpr ?_
  unfold t9
  rw[if_neg (by simp)]
  exact(t8 _).sublist List.filter_sublist
 refine⟨?_,λn hn=>?_,λn hn=>?_,?_⟩
 ·show(List.map _ _).Nodup
  rw[List.nodup_iff_pairwise_ne,List.pairwise_map]
  refine(List.nodup_iff_pairwise_ne.mp hsnd).imp_of_mem λ{a b} ha hb hne z=>hne ?_
  have h1:=(hst a ha).1
  have h2:=(hst b hb).1
  rw[a10 h1,a10 h2]at z
  rw[←L4 hnd h1,←L4 hnd h2,z]
 ·obtain⟨i,hi,rfl⟩:=List.mem_map.mp hn
  obtain⟨b,w,_,h2⟩:=key i hi
  exact h2
 ·obtain⟨i,hi,rfl⟩:=List.mem_map.mp hn
  obtain⟨b,w,h1,_⟩:=key i hi
  exact⟨b,w,h1⟩
 ·show(List.map _ _).length=(after h k kp tn (f7 pl s.st bt)).length
  unfold after
  rw[List.length_map,List.length_map]
  rfl
theorem a5I {way:List Bt}:∀m,CsOk (G9 h k kp tn pl way m)
 | 0=>⟨.nil,λn hn=>(by cases hn),λn hn=>(by cases hn),rfl⟩
 | m+1=>a64 (a5I m)
theorem a2L {way:List Bt}:∀{m:Nat},m≤way.length->(G9 h k kp tn pl way m).st=G8 (l9 h k kp tn pl) [] way m
 | 0,_=>by rw[M9];rfl
 | m+1,hm=>by
  rw[T4 (by omega),←a2L (m:=m) (by omega)]
  rfl
theorem a3r {way:List Bt}:∀{m:Nat},m≤way.length->(G9 h k kp tn pl way m).told.length=g9 (way.take m)
 | 0,_=>rfl
 | m+1,hm=>by
  show(List.map _ (List.range _)).length=_
  rw[List.length_map,List.length_range,W0,a3r (m:=m) (by omega),B3 (by omega)]
end
end L3
namespace L3
open PySem PySem.Spec PyProof.Rows L2
variable [Fam]
theorem a9L {l:List Co}{n:Nat}(h:n<l.length):ixD (.list (l.map coD)) (.int (n:Int))=some (coD (l.getD n (.lost 0))):=by
 show atI (l.map coD) (n:Int)=_
 refine Y1 ?_
 rw[List.getElem?_map,List.getElem?_eq_getElem h,List.getD_eq_getElem?_getD,List.getElem?_eq_getElem h]
 rfl
section
variable {F:FdS}{Q:PyData->FdS->Prop}
theorem a4w {r:PyData}{pl:Option Nat}{h:Nat}{way:List Bt}(hr:r∈W8)(hp:∀i<way.length,a1L pl (G8 (l9 h (kOf r) (kb r) (tnB r) pl) [] way i).length)(hl:g9 way<64)(hn:way.length≤1000)
  (q:Q (.list ((G9 h (kOf r) (kb r) (tnB r) pl way way.length).told.map coD)) F) :
  wp (a0t [.dat (.tuple [.int (h:Int),plD pl,r]),.dat (.tuple (way.map btD))] F) Q:=by
 have hfit:=λi hi=>a3g (h:=h) (k:=kOf r) (kp:=kb r) (tn:=tnB r) (pl:=pl) (ps:=[]) (way:=way) (by simpa using hl) (i:=i) hi
 have hok:=λm=>a5I (h:=h) (k:=kOf r) (kp:=kb r) (tn:=tnB r) (pl:=pl) (way:=way) m
 have hst:=λm hm=>a2L (h:=h) (k:=kOf r) (kp:=kb r) (tn:=tnB r) (pl:=pl) (way:=way) (m:=m) hm
 have hln:=λm hm=>a3r (h:=h) (k:=kOf r) (kp:=kb r) (tn:=tnB r) (pl:=pl) (way:=way) (m:=m) hm
 have hsc:∀m,G9 h (kOf r) (kb r) (tnB r) pl way (m+1)=K1 h (kOf r) (kb r) (tnB r) pl m (c6 way m) (G9 h (kOf r) (kb r) (tnB r) pl way m):=λm=>rfl
 generalize G9 h (kOf r) (kb r) (tnB r) pl way=cs at q hok hst hln hsc
 unfold a0t
 refine P2.mpr ?_
 dsimp only[v6,List.map_cons,List.map_nil,List.length_cons,List.length_nil,List.replicate,List.cons_append,List.nil_append,Nat.reduceAdd,Nat.reduceSub]
 have h0:cs 0=⟨[],[],[]⟩:=by
  have a1:=hst 0 (Nat.zero_le _)
  have a2:=hln 0 (Nat.zero_le _)
  have a3:=(hok 0).len
  rw[M9]at a1
  generalize cs 0=s at a1 a2 a3
  obtain⟨x,y,z⟩:=s
  simp only at a1 a2 a3
  subst a1
  have b1:x=[]:=List.length_eq_zero_iff.mp (by rw[a2];rfl)
  have b2:y=[]:=List.length_eq_zero_iff.mp (by rw[a3];rfl)
  rw[b1,b2]
 refine j7.mpr (a2y.mpr (O9.mpr (d9.mpr ⟨sz (by decide),k8 rfl,i8 (j7.mpr (a6u (b3g (n8.mpr (a5S (O9.mpr (d9.mpr ⟨sz (by decide),⟨k8 rfl,k8 rfl⟩,i8 (j7.mpr (Q8.mpr (a2v (l7.mpr (l8 rfl (c9 G0 ?_))))))⟩)))))))⟩)))
 rw[a9D]
 refine G2 (λm E F'=>F'=F∧∃o5 o6 o7 o8 o9 o10 o11 o12 o13 o14,E=[some (.dat (.tuple [.int (h:Int),plD pl,r])),some (.dat (.tuple (way.map btD))),some (.own ((cs m).told.map coD)),some (.dat (stD (cs m).st)),some (.own (g8 (cs m).ins)),o5,o6,o7,o8,o9,o10,o11,o12,o13,o14]) _ 0 _ F ⟨rfl,none,none,none,none,none,none,none,none,none,none,by rw[h0];rfl⟩ ?_ ?_
 ·rintro m d e E F1 ⟨rfl,o5,o6,o7,o8,o9,o10,o11,o12,o13,o14,rfl⟩
  rw[Nat.zero_add]
  obtain⟨hm,rfl⟩:=a5p e
  have hpm:=hp m hm
  have hfm:=hfit m hm
  rw[←hst m (by omega)]at hpm hfm
  have o:=hok m
  have hlm:=hln m (by omega)
  have hll:=B3 hm
  have hll2:=S8 way (m+1)
  rw[hsc m]
  generalize cs m=s at hpm hfm o hlm
  have hrm:=a0U pl s.st.length (c6 way m).length
  have hfl:(f7 pl s.st (c6 way m)).length<64:=by rw[R9];omega
  have hil:=a2b (pl:=pl) (bt:=c6 way m) o
  refine⟨_,rfl,?_⟩
  refine j7.mpr (Q6.mpr (r8.mpr (y8.mpr (l7.mpr (l8 rfl (y8.mpr (l7.mpr (l8 rfl (y8.mpr (l7.mpr (l8 rfl (v9.mpr ?_))))))))))))
  refine a3J (pl:=pl) (ps:=s.st) (bt:=c6 way m) hpm (by omega) (c9 rfl (i8 ?_))
  refine j7.mpr (t7.mpr (n6.mpr (E3.mpr (b9.mpr (j2.mpr (j9 rfl (d9.mpr (c9 Q9 (j2.mpr (j9 rfl (c9 a0n ⟨k8 rfl,i8 ?_⟩)))))))))))
  rw[List.length_map]
  have eb1:(((c6 way m).length:Nat):Int)-(((c6 way m).length-m9 pl s.st.length (c6 way m).length:Nat):Int)=(m9 pl s.st.length (c6 way m).length:Nat):=by omega
  rw[eb1]
  refine j7.mpr (a9V rfl (a8J (b9.mpr (E3.mpr (b9.mpr (j2.mpr (Y0 rfl (d9.mpr (c9 a2x (b9.mpr (n6.mpr (E3.mpr (b9.mpr (j2.mpr (Y0 rfl (d9.mpr (c9 a2x (j2.mpr (j9 rfl (c9 a2Z (d9.mpr ?_)))))))))))))))))))))
  rw[List.length_map]
  refine c9 (b1j (by omega) (by omega) (by omega) (by omega)) ?_
  have er:(((s.told.length:Nat):Int)+(m9 pl s.st.length (c6 way m).length:Nat)-((s.told.length:Nat):Int)).toNat=m9 pl s.st.length (c6 way m).length:=by omega
  rw[er,a7d]
  have hil0:s.ins.length<64:=by rw[o.len];omega
  refine⟨by rw[x9];simp;omega,_,rfl,by rw[x9,x9];simp;omega,i8 ?_⟩
  have ei:g8 s.ins++g8 ((List.range (m9 pl s.st.length (c6 way m).length)).map (s.told.length + ·))=g8 (w6 pl (c6 way m) s):=by
   unfold w6 g8;rw[List.map_append]
  rw[ei]
  refine j7.mpr (a9V rfl (n6.mpr (n6.mpr (a2B.mpr (b9.mpr (C2.mpr (b9.mpr (n8.mpr (b9.mpr (l7.mpr (l8 rfl (b9.mpr (n8.mpr (d9.mpr ⟨u6 rfl,d9.mpr ⟨u6 rfl,j2.mpr (j9 rfl (c9 (b0b (by omega)) ?_))⟩⟩))))))))))))))
  refine n6.mpr (a2B.mpr (b9.mpr (C2.mpr (b9.mpr (n8.mpr (b9.mpr (l7.mpr (l8 rfl (d9.mpr ⟨u6 rfl,d9.mpr ⟨u6 rfl,j2.mpr (j9 rfl (c9 (b0b (by omega)) ?_))⟩⟩)))))))))
  refine c9 (b0A (by simp;omega)) ⟨_,rfl,by simp;omega,i8 ?_⟩
  have et1:s.told.map coD++(List.replicate (m9 pl s.st.length (c6 way m).length) (PyData.tuple [.str "in",.int (m:Int),.int 0])++List.replicate ((c6 way m).length-m9 pl s.st.length (c6 way m).length) (PyData.tuple [.str "lost",.int (m:Int)]))=(x6 pl m (c6 way m) s).map coD:=by
   unfold x6
   rw[List.map_append,List.map_append,List.map_replicate,List.map_replicate]
   rfl
  rw[et1]
  refine j7.mpr (Q6.mpr (r8.mpr (y8.mpr (l7.mpr (l8 rfl (y8.mpr (l7.mpr (l8 rfl (v9.mpr ?_)))))))))
  refine a3i (h:=h) (pl:=plD pl) hr hfl (c9 rfl (i8 ?_))
  have hnd:=a3A (pl:=pl) (bt:=c6 way m) o
  have hlt:=a3n (pl:=pl) (t:=m) (bt:=c6 way m) o
  have hin:=a2n (pl:=pl) (t:=m) (bt:=c6 way m) o
  have hst1:(K1 h (kOf r) (kb r) (tnB r) pl m (c6 way m) s).st=(t9 (tnB r) (i6 h (kOf r) (kb r) (f7 pl s.st (c6 way m))) (f7 pl s.st (c6 way m))).map (B4 (i6 h (kOf r) (kb r) (f7 pl s.st (c6 way m))) (kb r) (f7 pl s.st (c6 way m))):=rfl
  have hst2:(K1 h (kOf r) (kb r) (tnB r) pl m (c6 way m) s).ins=(t9 (tnB r) (i6 h (kOf r) (kb r) (f7 pl s.st (c6 way m))) (f7 pl s.st (c6 way m))).map λi=>(w6 pl (c6 way m) s).getD i 0:=rfl
  have hst3:(K1 h (kOf r) (kb r) (tnB r) pl m (c6 way m) s).told=(List.range (x6 pl m (c6 way m) s).length).map λn=>if n∈w6 pl (c6 way m) s then aft m (!decide ((w6 pl (c6 way m) s).idxOf n∈i6 h (kOf r) (kb r) (f7 pl s.st (c6 way m)))) (decide ((w6 pl (c6 way m) s).idxOf n∈A2 (i6 h (kOf r) (kb r) (f7 pl s.st (c6 way m))) (f7 pl s.st (c6 way m)))) ((x6 pl m (c6 way m) s).getD n (.lost 0)) else(x6 pl m (c6 way m) s).getD n (.lost 0):=rfl
  have hPs:∀j∈i6 h (kOf r) (kb r) (f7 pl s.st (c6 way m)),j≤1000:=λj hj=>by have:=u7 j hj;omega
  have hGP:∀j∈A2 (i6 h (kOf r) (kb r) (f7 pl s.st (c6 way m))) (f7 pl s.st (c6 way m)),j∈i6 h (kOf r) (kb r) (f7 pl s.st (c6 way m)):=λj hj=>(List.mem_filter.mp hj).1
  have hsub:∀i∈t9 (tnB r) (i6 h (kOf r) (kb r) (f7 pl s.st (c6 way m))) (f7 pl s.st (c6 way m)),i<(w6 pl (c6 way m) s).length:=λi hi=>by rw[hil];exact(Z0 u7 u9 hi).1
  have hsl:(t9 (tnB r) (i6 h (kOf r) (kb r) (f7 pl s.st (c6 way m))) (f7 pl s.st (c6 way m))).length≤1000:=by
   have:=a07 (h:=h) (k:=kOf r) (kp:=kb r) (tn:=tnB r) (ps:=f7 pl s.st (c6 way m))
   unfold after at this
   rw[List.length_map]at this
   omega
  have htl:(x6 pl m (c6 way m) s).length≤1000:=by rw[W0];omega
  generalize K1 h (kOf r) (kb r) (tnB r) pl m (c6 way m) s=s' at hst1 hst2 hst3
  generalize A2 (i6 h (kOf r) (kb r) (f7 pl s.st (c6 way m))) (f7 pl s.st (c6 way m))=G at *
  generalize t9 (tnB r) (i6 h (kOf r) (kb r) (f7 pl s.st (c6 way m))) (f7 pl s.st (c6 way m))=S at *
  generalize B4 (i6 h (kOf r) (kb r) (f7 pl s.st (c6 way m))) (kb r) (f7 pl s.st (c6 way m))=T at *
  generalize i6 h (kOf r) (kb r) (f7 pl s.st (c6 way m))=P at *
  generalize f7 pl s.st (c6 way m)=fl at *
  generalize w6 pl (c6 way m) s=l at *
  generalize x6 pl m (c6 way m) s=tt at *
  refine j7.mpr (b1v rfl (Q8.mpr (a2v (l7.mpr (l8 rfl (c9 G6 ?_))))))
  rw[a6o]
  refine G2 (λp E F'=>F'=F1∧∃o13 o14,E=[some (.dat (.tuple [.int (h:Int),plD pl,r])),some (.dat (.tuple (way.map btD))),some (.own (((List.range tt.length).map λn=>if n∈l.take p then aft m (!decide (l.idxOf n∈P)) (decide (l.idxOf n∈G)) (tt.getD n (.lost 0)) else tt.getD n (.lost 0)).map coD)),some (.dat (stD s.st)),some (.dat (.list (g8 l))),some (.dat (.int (m:Int))),some (.dat (btD (c6 way m))),some (.dat (.tuple (fl.map pnD))),some (.dat (.int ((c6 way m).length-m9 pl s.st.length (c6 way m).length:Nat))),some (.dat (.int (m9 pl s.st.length (c6 way m).length:Nat))),some (.dat (.list (S.map λi=>prD (i,T i)))),some (.dat (.tuple (g8 P))),some (.dat (.tuple (g8 G))),o13,o14]) _ 0 _ F1 ⟨rfl,o13,o14,?_⟩ ?_ ?_
  ·have e1:((List.range tt.length).map λn=>if n∈l.take 0 then aft m (!decide (l.idxOf n∈P)) (decide (l.idxOf n∈G)) (tt.getD n (.lost 0)) else tt.getD n (.lost 0))=tt:=by
    have:=B1 (Co.lost 0) (λx:Co=>x) tt
    rw[List.map_id']at this
    conv=>rhs;rw[←this]
    exact List.map_congr_left λn _=>by simp
   rw[e1]
   rfl
  ·rintro p d2 e2 E F2 ⟨rfl,o13,o14,rfl⟩
   rw[Nat.zero_add]
   obtain⟨hp',rfl⟩:=a5p e2
   have eg:=a10 hp'
   have hmem:=List.getElem_mem hp'
   have hnl:=hlt _ hmem
   obtain⟨b,w,ein⟩:=hin _ hmem
   have eix:=L4 hnd hp'
   refine⟨_,rfl,(b0o rfl).mpr ?_⟩
   rw[eg]
   have hnot:l[p] ∉ l.take p:=λz=>by
    obtain⟨j,hj,ej⟩:=List.getElem_of_mem z
    rw[List.getElem_take]at ej
    have hj2:j<p:=by simp at hj;omega
    exact absurd ((List.nodup_iff_pairwise_ne.mp hnd |> List.pairwise_iff_getElem.mp) j p (by omega) hp' hj2) (by simp[ej])
   have eat:ixD (.list (((List.range tt.length).map λn=>if n∈l.take p then aft m (!decide (l.idxOf n∈P)) (decide (l.idxOf n∈G)) (tt.getD n (.lost 0)) else tt.getD n (.lost 0)).map coD)) (.int (l[p]:Nat))=some (a98 b w):=by
    rw[a9L (by simpa using hnl),List.getD_eq_getElem?_getD,List.getElem?_map,List.getElem?_eq_getElem (by simpa using hnl)]
    simp only[List.getElem_range,Option.map_some,Option.getD_some]
    rw[if_neg hnot,ein]
    rfl
   have done:∀(y:PyData) (F3:FdS),F3=F2->y=coD (aft m (!decide (p∈P)) (decide (p∈G)) (.inn b w))->wp (sV 14 [some (.dat (.tuple [.int (h:Int),plD pl,r])),some (.dat (.tuple (way.map btD))),some (.own (((List.range tt.length).map λn=>if n∈l.take p then aft m (!decide (l.idxOf n∈P)) (decide (l.idxOf n∈G)) (tt.getD n (.lost 0)) else tt.getD n (.lost 0)).map coD)),some (.dat (stD s.st)),some (.dat (.list (g8 l))),some (.dat (.int (m:Int))),some (.dat (btD (c6 way m))),some (.dat (.tuple (fl.map pnD))),some (.dat (.int ((c6 way m).length-m9 pl s.st.length (c6 way m).length:Nat))),some (.dat (.int (m9 pl s.st.length (c6 way m).length:Nat))),some (.dat (.list (S.map λi=>prD (i,T i)))),some (.dat (.tuple (g8 P))),some (.dat (.tuple (g8 G))),some (.dat (.int (p:Int))),some (.dat (.int (l[p]:Nat)))] F3) λz F4=>oB (Y9 z) λn=>oB (ixN (((List.range tt.length).map λn=>if n∈l.take p then aft m (!decide (l.idxOf n∈P)) (decide (l.idxOf n∈G)) (tt.getD n (.lost 0)) else tt.getD n (.lost 0)).map coD).length n) λj=>∃E2,Out.nx (([some (.dat (.tuple [.int (h:Int),plD pl,r])),some (.dat (.tuple (way.map btD))),some (.own (((List.range tt.length).map λn=>if n∈l.take p then aft m (!decide (l.idxOf n∈P)) (decide (l.idxOf n∈G)) (tt.getD n (.lost 0)) else tt.getD n (.lost 0)).map coD)),some (.dat (stD s.st)),some (.dat (.list (g8 l))),some (.dat (.int (m:Int))),some (.dat (btD (c6 way m))),some (.dat (.tuple (fl.map pnD))),some (.dat (.int ((c6 way m).length-m9 pl s.st.length (c6 way m).length:Nat))),some (.dat (.int (m9 pl s.st.length (c6 way m).length:Nat))),some (.dat (.list (S.map λi=>prD (i,T i)))),some (.dat (.tuple (g8 P))),some (.dat (.tuple (g8 G))),some (.dat (.int (p:Int))),some (.dat (.int (l[p]:Nat)))]:DE).set 2 (some (.own ((((List.range tt.length).map λn=>if n∈l.take p then aft m (!decide (l.idxOf n∈P)) (decide (l.idxOf n∈G)) (tt.getD n (.lost 0)) else tt.getD n (.lost 0)).map coD).set j y)))) = .nx E2∧F4=F2∧∃o13 o14,E2=[some (.dat (.tuple [.int (h:Int),plD pl,r])),some (.dat (.tuple (way.map btD))),some (.own (((List.range tt.length).map λn=>if n∈l.take (p+1) then aft m (!decide (l.idxOf n∈P)) (decide (l.idxOf n∈G)) (tt.getD n (.lost 0)) else tt.getD n (.lost 0)).map coD)),some (.dat (stD s.st)),some (.dat (.list (g8 l))),some (.dat (.int (m:Int))),some (.dat (btD (c6 way m))),some (.dat (.tuple (fl.map pnD))),some (.dat (.int ((c6 way m).length-m9 pl s.st.length (c6 way m).length:Nat))),some (.dat (.int (m9 pl s.st.length (c6 way m).length:Nat))),some (.dat (.list (S.map λi=>prD (i,T i)))),some (.dat (.tuple (g8 P))),some (.dat (.tuple (g8 G))),o13,o14]:=by
    rintro y F3 rfl rfl
    refine l7.mpr (l8 rfl (c9 rfl (c9 (z:=l[p]) ?_ ?_)))
    ·unfold ixN
     rw[if_pos (by omega),if_pos (by simp;omega),Int.toNat_natCast]
    ·have es:(((List.range tt.length).map λn=>if n∈l.take p then aft m (!decide (l.idxOf n∈P)) (decide (l.idxOf n∈G)) (tt.getD n (.lost 0)) else tt.getD n (.lost 0)).map coD).set l[p] (coD (aft m (!decide (p∈P)) (decide (p∈G)) (.inn b w)))=((List.range tt.length).map λn=>if n∈l.take (p+1) then aft m (!decide (l.idxOf n∈P)) (decide (l.idxOf n∈G)) (tt.getD n (.lost 0)) else tt.getD n (.lost 0)).map coD:=by
      apply List.ext_getElem
      ·simp
      ·intro k h1 h2
       simp only[List.length_set,List.length_map,List.length_range]at h1
       rw[List.getElem_set]
       simp only[List.getElem_map,List.getElem_range]
       have et:l.take (p+1)=l.take p++[l[p]]:=by rw[List.take_add_one,List.getElem?_eq_getElem hp'];rfl
       by_cases hk:l[p]=k
       ·rw[if_pos hk,←hk,if_pos (by rw[et];exact List.mem_append_right _ List.mem_cons_self),eix,ein]
       ·rw[if_neg hk,et]
        have:(k∈l.take p++[l[p]])↔k∈l.take p:=by
         rw[List.mem_append]
         constructor
         ·rintro (z | z)
          ·exact z
          ·simp at z;exact absurd z.symm hk
         ·exact .inl
        by_cases hkm:k∈l.take p
        ·rw[if_pos hkm,if_pos (this.mpr hkm)]
        ·rw[if_neg hkm,if_neg λz=>hkm (this.mp z)]
     exact⟨_,rfl,rfl,_,_,by rw[es];rfl⟩
   refine r8.mpr (y8.mpr (n6.mpr (j2.mpr (Y0 rfl (j2.mpr (j9 rfl (c9 eat (y8.mpr (n6.mpr (j2.mpr (j9 rfl (j2.mpr (j9 rfl (c9 (a03 hPs) (y8.mpr (a1R.mpr (P4.mpr (n6.mpr (j2.mpr (j9 rfl (j2.mpr (j9 rfl (c9 (b0M λj hj=>hPs j (hGP j hj)) (c9 rfl ?_))))))))))))))))))))))))
   by_cases hg:p∈G
   ·rw[decide_eq_true hg] at *
    rw[decide_eq_true (hGP p hg)] at *
    refine J8 rfl (n6.mpr (j2.mpr (j9 rfl (n8.mpr (c9 rfl (v9.mpr ?_))))))
    exact a4r (m:=m+1) (done _ _ rfl rfl)
   ·rw[decide_eq_false hg] at *
    exact m5 rfl (n8.mpr (v9.mpr (a6F (done _ _ rfl rfl))))
  ·rintro E F2 ⟨rfl,o13,o14,rfl⟩
   rw[Nat.zero_add,List.length_map,List.length_range,List.take_length,←hst3]
   refine i8 (j7.mpr (a2y.mpr (b2B (v7.mpr (j2.mpr (j9 rfl (c9 G6 ⟨sz (by rw[List.length_map];omega),?_⟩)))))))
   refine a43 (x:=λi:Nat=>.int (i:Int)) (y:=λi=>pnD (T i)) (f:=λi=>.int (l.getD i 0:Nat)) S _ _ (λi hi F Q q=>?_) ?_
   ·refine n6.mpr (j2.mpr (j9 rfl (j2.mpr (j9 rfl (c9 ?_ q)))))
    have hi2:=hsub i hi
    show atI (g8 l) (i:Int)=_
    refine Y1 ?_
    unfold g8
    rw[List.getElem?_map,List.getElem?_eq_getElem hi2,List.getD_eq_getElem?_getD,List.getElem?_eq_getElem hi2]
    rfl
   ·have e3:S.map (λi=>PyData.int (l.getD i 0:Nat))=g8 s'.ins:=by
     rw[hst2];unfold g8;rw[List.map_map];rfl
    rw[e3]
    refine⟨k8 rfl,i8 (t7.mpr (E3.mpr (b9.mpr (J0.mpr (v7.mpr (j2.mpr (j9 rfl (c9 G6 ⟨sz (by rw[List.length_map];omega),?_⟩))))))))⟩
    refine a43 (x:=λi:Nat=>.int (i:Int)) (y:=λi=>pnD (T i)) (f:=λi=>pnD (T i)) S _ _ (λi hi F Q q=>l7.mpr (l8 rfl q)) (d9.mpr (c9 rfl ⟨k8 rfl,?_⟩))
    have e4:S.map (λi=>pnD (T i))=s'.st.map pnD:=by rw[hst1,List.map_map];rfl
    exact⟨_,rfl,rfl,_,_,_,_,_,_,_,_,_,_,by rw[e4];rfl⟩
 ·rintro E F1 ⟨rfl,o5,o6,o7,o8,o9,o10,o11,o12,o13,o14,rfl⟩
  rw[Nat.zero_add,List.length_map,List.length_range]
  exact i8 (L0.mpr (j2.mpr (Y0 rfl (N4 q))))
end
variable [Fam]
noncomputable def stV (f:List Pn->Bt->List Pn)(way:List Bt):Nat->List Pn
 | 0=>G8 f [] way way.length
 | v+1=>f (stV f way v) []
theorem b0m {f:List Pn->Bt->List Pn}{way:List Bt}(v:Nat):G8 f [] (way++List.replicate v []) (way.length+v)=stV f way v:=by
 unfold G8
 rw[List.take_of_length_le (by simp),List.foldl_append]
 have e:way.foldl f []=stV f way 0:=by show _=(way.take way.length).foldl f [];rw[List.take_length]
 rw[e]
 induction v with
 | zero=>rfl
 | succ v ih=>rw[List.replicate_succ',List.foldl_append,ih];rfl
theorem a8i {h k:Nat}{kp tn:Bool}{pl:Option Nat}{way:List Bt}(h0:a0O (stV (l9 h k kp tn pl) way 0)):∀v,a0O (stV (l9 h k kp tn pl) way v)
 | 0=>h0
 | v+1=>by
  show a0O (after h k kp tn (f7 pl _ []))
  refine a3w λp hp=>?_
  unfold f7 at hp
  simp at hp
  exact a8i h0 v p hp
section
variable {F:FdS}{Q:PyData->FdS->Prop}
theorem a4v {r:PyData}{pl:Option Nat}{h:Nat}{way:List Bt}(hr:r∈W8)(hh:1≤h)(hp:∀i<way.length,a1L pl (G8 (l9 h (kOf r) (kb r) (tnB r) pl) [] way i).length)(hpv:∀v,a1L pl (stV (l9 h (kOf r) (kb r) (tnB r) pl) way v).length)(hl:g9 way<64)(hn:way.length≤100)
  (h0:a0O (stV (l9 h (kOf r) (kb r) (tnB r) pl) way 0)) (hS:L8 (stV (l9 h (kOf r) (kb r) (tnB r) pl) way 0)≤500)
  (q:∀v:Nat,v≤500->stV (l9 h (kOf r) (kb r) (tnB r) pl) way v=[]->Q (.tuple ((way++List.replicate v []).map btD)) F) :
  wp (a0c [.dat (.tuple [.int (h:Int),plD pl,r]),.dat (.tuple (way.map btD))] F) Q:=by
 have hok:=a8i h0
 have hlen0:∀v,(stV (l9 h (kOf r) (kb r) (tnB r) pl) way v).length<64:=λv=>by
  have key:∀v,(stV (l9 h (kOf r) (kb r) (tnB r) pl) way v).length≤(stV (l9 h (kOf r) (kb r) (tnB r) pl) way 0).length:=λv=>by
   induction v with
   | zero=>exact Nat.le_refl _
   | succ v ih =>
    show(after h (kOf r) (kb r) (tnB r) (f7 pl _ [])).length≤_
    refine Nat.le_trans a07 ?_
    rw[R9]
    have:m9 pl (stV (l9 h (kOf r) (kb r) (tnB r) pl) way v).length ([]:Bt).length=0:=by
     have:=a0U pl (stV (l9 h (kOf r) (kb r) (tnB r) pl) way v).length ([]:Bt).length
     simpa using this
    rw[this]
    exact ih
  have h1:=key v
  have h2:=a18 (h:=h) (k:=kOf r) (kp:=kb r) (tn:=tnB r) (pl:=pl) (ps:=[]) (way:=way) (i:=way.length) (Nat.le_refl _)
  rw[List.take_length]at h2
  have h3:(stV (l9 h (kOf r) (kb r) (tnB r) pl) way 0).length≤g9 way:=by
   show(G8 _ [] way way.length).length≤_
   simpa using h2
  omega
 have hsum:∀v,L8 (stV (l9 h (kOf r) (kb r) (tnB r) pl) way (v+1))=L8 (stV (l9 h (kOf r) (kb r) (tnB r) pl) way v)-(min h (stV (l9 h (kOf r) (kb r) (tnB r) pl) way v).length:Nat):=λv=>by
  have e:f7 pl (stV (l9 h (kOf r) (kb r) (tnB r) pl) way v) []=stV (l9 h (kOf r) (kb r) (tnB r) pl) way v:=by unfold f7;simp
  show L8 (after h (kOf r) (kb r) (tnB r) (f7 pl _ []))=_
  rw[e,a2h (hok v)]
 unfold a0c
 refine P2.mpr ?_
 dsimp only[v6,List.map_cons,List.map_nil,List.length_cons,List.length_nil,List.replicate,List.cons_append,List.nil_append,Nat.reduceAdd,Nat.reduceSub]
 refine j7.mpr (t7.mpr (n6.mpr (n6.mpr (r8.mpr (y8.mpr (l7.mpr (l8 rfl (y8.mpr (l7.mpr (l8 rfl (y8.mpr (n8.mpr (v9.mpr ?_)))))))))))))
 refine b2b (h:=h) (pl:=pl) (ps:=[]) (way:=way) hr hp (by simpa using hl) (by omega) (n8.mpr (c9 rfl (a8R.mpr (n8.mpr (c9 rfl ?_)))))
 have elast:ixD (.tuple ((List.range (way.length+1)).map λi=>stD (G8 (l9 h (kOf r) (kb r) (tnB r) pl) [] way i))) (.int (-1))=some (stD (stV (l9 h (kOf r) (kb r) (tnB r) pl) way 0)):=by
  rw[List.range_succ,List.map_append]
  exact a7T
 have hst:∀v,after h (kOf r) (kb r) (tnB r) (f7 pl (stV (l9 h (kOf r) (kb r) (tnB r) pl) way v) [])=stV (l9 h (kOf r) (kb r) (tnB r) pl) way (v+1):=λv=>rfl
 generalize stV (l9 h (kOf r) (kb r) (tnB r) pl) way=st at *
 refine c9 elast ⟨k8 rfl,i8 (j7.mpr (t7.mpr (n8.mpr ⟨k8 rfl,i8 (j7.mpr ?_)⟩)))⟩
 refine b38 (λE F'=>F'=F∧∃v:Nat,E=[some (.dat (.tuple [.int (h:Int),plD pl,r])),some (.dat (.tuple (way.map btD))),some (.dat (stD (st v))),some (.dat (.int (v:Int)))]∧L8 (st v)+v≤L8 (st 0)) (muV (L8 (st 0))) ⟨rfl,0,rfl,by simp⟩ ?_
 rintro E F1 ⟨rfl,v,rfl,hv⟩
 have hlen:=a9n (hok v)
 have hplen:=hlen0 v
 have hsv:=hsum v
 refine P4.mpr (n6.mpr (E3.mpr (b9.mpr (j2.mpr (j9 rfl (d9.mpr (c9 Q9 (n8.mpr (c9 a6O (c9 rfl (U3 (λhc=>?_) λhc=>?_)))))))))))
 ·rw[List.length_map]at hc
  have hc:(0:Int)<((st v).length:Nat):=of_decide_eq_true hc
  refine j7.mpr (t7.mpr (n6.mpr (r8.mpr (y8.mpr (l7.mpr (l8 rfl (y8.mpr (l7.mpr (l8 rfl (y8.mpr (n8.mpr (v9.mpr ?_))))))))))))
  refine a7s (h:=h) (pl:=pl) (bt:=[]) hr (hpv v) (by simpa using hplen) (n8.mpr (c9 rfl ⟨k8 rfl,i8 ?_⟩))
  rw[hst v]
  refine a31 (x:=(v:Int)) rfl (n8.mpr ⟨1,rfl,?_⟩)
  have e1:(v:Int)+1=((v+1:Nat):Int):=by omega
  refine⟨_,rfl,⟨rfl,v+1,by rw[e1];rfl,by omega⟩,?_⟩
  show(L8 (st 0)-((v:Int)+1)).toNat<(L8 (st 0)-(v:Int)).toNat
  omega
 ·rw[List.length_map]at hc
  have hc:¬(0:Int)<((st v).length:Nat):=of_decide_eq_false hc
  have hnil:st v=[]:=List.length_eq_zero_iff.mp (by omega)
  refine i8 (L0.mpr (n6.mpr (j2.mpr (j9 rfl (n6.mpr (n8.mpr (j2.mpr (j9 rfl (c9 (b1H (k:=v) (by omega)) (c9 (b2H (by simp;omega)) (N4 ?_)))))))))))
  rw[←List.map_append]
  exact q v (by omega) hnil
end
variable [Fam]
noncomputable def a1S (nm:List Str):List DV->M PyData:=B9 ["_law_feed_here","_law_size"] (mSq (q4 1 (k4 drawS (vF 0 (vD (sC (.int 3)) r9))))
  (mRt (k4 (a4D nm) (vF 0 (vD (s2 ixD (sC (.list [.int 5,.int 9,.int 24])) (sW 1)) (vD (s2 ixD (sC (.list [.int 6,.int 4,.int 2])) (sW 1)) r9))))))
theorem a6Y {nm:List Str}(hnm:nm.length=8):Tr (a1S nm) [.feed] 171 (λd=>∃way:List Bt,d = .tuple (way.map btD)∧WayOk 24 way):=Tr.of λF hF=>by
 unfold a1S
 walk_at "go"
 refine T7 (by decide) (by decide) (by omega) λr F1 r0 r1 t1=>?_
 walk_at "go"
 obtain⟨n,w,e1,e2,hn,w1,w2⟩:∃n w:Nat,ixD (.list [.int 5,.int 9,.int 24]) (.int r)=some (.int (n:Int))∧ixD (.list [.int 6,.int 4,.int 2]) (.int r)=some (.int (w:Int))∧n≤24∧1≤w∧w≤6:=by
  have:r=0∨r=1∨r=2:=by omega
  rcases this with rfl | rfl | rfl
  ·exact⟨5,6,rfl,rfl,by decide,by decide,by decide⟩
  ·exact⟨9,4,rfl,rfl,by decide,by decide,by decide⟩
  ·exact⟨24,2,rfl,rfl,by decide,by decide,by decide⟩
 refine c9 e1 ?_
 walk_at "go"
 refine c9 e2 (v9.mpr ?_)
 refine(a9p hnm hn w1 w2).wp (by omega) λd F3 t3 hd=>?_
 walk_at "go"
 obtain⟨way,rfl,hw⟩:=hd
 exact⟨by omega,way,rfl,⟨Nat.le_trans hw.len hn,hw.many,hw.ok⟩⟩
end L3
namespace L3
open L2
section
variable {h k:Nat}{kp tn:Bool}{pl:Option Nat}{t b:Nat}{bt:Bt}{s:CS}
end
end L3
namespace L3
open L2
section
variable {h k:Nat}{kp tn:Bool}{pl:Option Nat}{t b:Nat}{bt:Bt}{s:CS}
end
end L3
namespace L3
open PySem PySem.Spec PyProof.Rows L2
variable [Fam]
theorem b2M {mt:DE->M Bool}{me:DE->M PyData}{α:Type}{F:FdS}{x:α->PyData}{g:α->Bool}{f:α->PyData}{rest:DE}{Q:List PyData->FdS->Prop}(ds:List α)(o:Option DV)
  (ht:∀d∈ds,∀(F:FdS) (Q:Bool->FdS->Prop),Q (g d) F->wp (mt (some (.dat (x d))::rest) F) Q) (he:∀d∈ds,g d=true->∀(F:FdS) (Q:PyData->FdS->Prop),Q (f d) F->wp (me (some (.dat (x d))::rest) F) Q)
  (q:Q ((ds.filter g).map f) F):wp (L5 (bN 0) mt me (ds.map x) (o::rest) F) Q:=by
 have key:∀(l:List α) (o:Option DV) (Q:List PyData->FdS->Prop),(∀d∈l,d∈ds)->Q ((l.filter g).map f) F->wp (L5 (bN 0) mt me (l.map x) (o::rest) F) Q:=by
  intro l
  induction l with
  | nil=>intro o Q _ q;exact c7.mpr q
  | cons d l ih =>
   intro o Q hs q
   rw[List.map_cons,L5]
   have e:bN 0 (x d) (o::rest)=some (some (.dat (x d))::rest):=rfl
   rw[e,Option.bind_some,b8]
   refine ht d (hs d List.mem_cons_self) F _ ?_
   cases c:g d with
   | false =>
    rw[List.filter_cons_of_neg (by simp[c])]at q
    rw[if_neg (by simp)]
    exact ih _ _ (λz hz=>hs z (List.mem_cons_of_mem _ hz)) q
   | true =>
    rw[List.filter_cons_of_pos c,List.map_cons]at q
    rw[if_pos rfl,b8]
    refine he d (hs d List.mem_cons_self) c F _ ?_
    rw[b8]
    exact ih _ _ (λz hz=>hs z (List.mem_cons_of_mem _ hz)) (c7.mpr q)
 exact key ds o Q (λd hd=>hd) q
end L3
namespace L3
open PySem L2
noncomputable abbrev psG (rk L:Nat->Int)(B:Nat->Bool)(n:Nat):Pn:=(rk n,L n,B n)
noncomputable abbrev x8 (c:Nat)(rk L:Nat->Int)(B:Nat->Bool):List Pn:=(f8 c L).map (psG rk L B)
noncomputable def pkG (h k:Nat)(kp:Bool)(c:Nat)(rk L:Nat->Int)(B:Nat->Bool)(n:Nat):Bool:=decide (n∈(i6 h k kp (x8 c rk L B)).map λi=>(f8 c L).getD i 0)
noncomputable def nxL (h k:Nat)(kp:Bool)(c:Nat)(rk L:Nat->Int)(B:Nat->Bool)(n:Nat):Int:=if pkG h k kp c rk L B n=true then L n-1 else L n
noncomputable def nxB (h k:Nat)(kp:Bool)(c:Nat)(rk L:Nat->Int)(B:Nat->Bool)(n:Nat):Bool:=if pkG h k kp c rk L B n=true then kp else B n
section
variable {h k:Nat}{kp:Bool}{c:Nat}{rk L:Nat->Int}{B:Nat->Bool}
theorem a1J {i:Nat}(hi:i<(f8 c L).length):pAt (x8 c rk L B) i=psG rk L B ((f8 c L)[i]):=by
 unfold pAt
 rw[List.getD_eq_getElem?_getD,List.getElem?_map,List.getElem?_eq_getElem hi]
 rfl
theorem a1p {i:Nat}(hi:i<(f8 c L).length):pkG h k kp c rk L B ((f8 c L)[i])=decide (i∈i6 h k kp (x8 c rk L B)):=by
 unfold pkG
 rw[decide_eq_decide,List.mem_map]
 constructor
 ·rintro ⟨j,hj,e⟩
  have hjl:j<(f8 c L).length:=by have:=u7 j hj;rwa [List.length_map]at this
  rw[List.getD_eq_getElem?_getD,List.getElem?_eq_getElem hjl]at e
  have e:(f8 c L)[j]=(f8 c L)[i]:=e
  have:j=i:=by
   have h1:=L4 (J7 c L) hjl
   have h2:=L4 (J7 c L) hi
   rw[←h1,←h2,e]
  rw[←this]
  exact hj
 ·intro hi'
  exact⟨i,hi',by rw[List.getD_eq_getElem?_getD,List.getElem?_eq_getElem hi];rfl⟩
theorem q5 {n:Nat}:n∈f8 c L↔n<c∧0<L n:=by
 unfold f8
 rw[List.mem_filter,List.mem_range,decide_eq_true_eq]
theorem a1K {n:Nat}(hp:pkG h k kp c rk L B n=true):n<c∧0<L n:=by
 obtain⟨i,hi,e⟩:=List.mem_map.mp (of_decide_eq_true hp)
 have hil:i<(f8 c L).length:=by have:=u7 i hi;rwa [List.length_map]at this
 rw[List.getD_eq_getElem?_getD,List.getElem?_eq_getElem hil]at e
 have e:(f8 c L)[i]=n:=e
 rw[←q5,←e]
 exact List.getElem_mem hil
theorem b1d (n:Nat):nxL h k kp c rk L B n≤L n:=by unfold nxL;split <;> omega
theorem b1o {i:Nat}(hi:i<(f8 c L).length):C7 (i6 h k kp (x8 c rk L B)) (x8 c rk L B) i = !decide (0<nxL h k kp c rk L B ((f8 c L)[i])):=by
 have hm:=(q5.mp (List.getElem_mem hi)).2
 unfold C7 nxL
 rw[a1p hi,a1J hi]
 by_cases hP:i∈i6 h k kp (x8 c rk L B)
 ·rw[decide_eq_true hP,if_pos rfl,Bool.true_and,Bool.eq_iff_iff,decide_eq_true_eq,Bool.not_eq_true',decide_eq_false_iff_not]
  show L ((f8 c L)[i])≤1↔_
  omega
 ·rw[decide_eq_false hP,if_neg (by simp),Bool.false_and,decide_eq_true hm]
  rfl
theorem a7K:(f8 c L).filter (λn=>decide (0<nxL h k kp c rk L B n))=f8 c (nxL h k kp c rk L B):=by
 unfold f8
 rw[List.filter_filter]
 refine List.filter_congr λn hn=>?_
 have:=b1d (h:=h) (k:=k) (kp:=kp) (c:=c) (rk:=rk) (L:=L) (B:=B) n
 by_cases hz:0<nxL h k kp c rk L B n
 ·have:0<L n:=by omega
  simp[hz,this]
 ·simp[hz]
theorem b0v:t9 false (i6 h k kp (x8 c rk L B)) (x8 c rk L B)=(List.range (f8 c L).length).filter ((λn=>decide (0<nxL h k kp c rk L B n)) ∘ λi=>(f8 c L).getD i 0):=by
 unfold t9
 rw[if_neg (by simp),List.length_map]
 refine List.filter_congr λi hi=>?_
 have hi:=List.mem_range.mp hi
 rw[b1o hi]
 simp[hi]
theorem a3E:(t9 false (i6 h k kp (x8 c rk L B)) (x8 c rk L B)).map (λi=>(f8 c L).getD i 0)=f8 c (nxL h k kp c rk L B):=by
 rw[b0v,←a7K]
 conv=>rhs;rw[←V0 (f8 c L)]
 rw[List.filter_map]
theorem a99:after h k kp false (x8 c rk L B)=x8 c rk (nxL h k kp c rk L B) (nxB h k kp c rk L B):=by
 unfold after x8
 rw[←a3E (h:=h) (k:=k) (kp:=kp) (rk:=rk) (B:=B),List.map_map]
 refine List.map_congr_left λi hi=>?_
 have hil:i<(f8 c L).length:=by
  have:=(Z0 u7 u9 hi).1
  rwa [List.length_map]at this
 have eg:(f8 c L).getD i 0=(f8 c L)[i]:=by rw[List.getD_eq_getElem?_getD,List.getElem?_eq_getElem hil];rfl
 show B4 (i6 h k kp (x8 c rk L B)) kp (x8 c rk L B) i=psG rk (nxL h k kp c rk L B) (nxB h k kp c rk L B) ((f8 c L).getD i 0)
 rw[eg]
 unfold B4 psG nxL nxB
 rw[a1p hil,a1J hil]
 by_cases hP:i∈i6 h k kp (x8 c rk L B)
 ·rw[if_pos hP,decide_eq_true hP,if_pos rfl,if_pos rfl]
  rfl
 ·rw[if_neg hP,decide_eq_false hP,if_neg (by simp),if_neg (by simp)]
end
structure GS where
 L:Nat->Int
 B:Nat->Bool
 W:Nat->Nat
 M:Nat->Nat
noncomputable def gS (h k:Nat)(kp:Bool)(cnt:Nat->Nat)(rk w:Nat->Int):Nat->GS
 | 0=>⟨w,λ_=>false,λ_=>0,λ_=>0⟩
 | m+1=>⟨nxL h k kp (cnt (m+1)) rk (gS h k kp cnt rk w m).L (gS h k kp cnt rk w m).B,nxB h k kp (cnt (m+1)) rk (gS h k kp cnt rk w m).L (gS h k kp cnt rk w m).B,
   λn=>if (decide (n∈f8 (cnt (m+1)) (gS h k kp cnt rk w m).L) && !pkG h k kp (cnt (m+1)) rk (gS h k kp cnt rk w m).L (gS h k kp cnt rk w m).B n)=true then(gS h k kp cnt rk w m).W n+1 else(gS h k kp cnt rk w m).W n,
   λn=>if pkG h k kp (cnt (m+1)) rk (gS h k kp cnt rk w m).L (gS h k kp cnt rk w m).B n=true∧(gS h k kp cnt rk w m).L n≤1 then m+1 else(gS h k kp cnt rk w m).M n⟩
section
variable {h k:Nat}{kp:Bool}{way:List Bt}{m:Nat}
noncomputable abbrev gwS (h k:Nat)(kp:Bool)(way:List Bt)(m:Nat):GS:=gS h k kp (g7 way) (rkW way) (wkW way) m
theorem a9r:∀{m n:Nat},g7 way m≤n->(gwS h k kp way m).L n=wkW way n∧(gwS h k kp way m).B n=false∧(gwS h k kp way m).W n=0
 | 0,n,_=>⟨rfl,rfl,rfl⟩
 | m+1,n,hn=>by
  have hm:=T5 way m
  obtain⟨i1,i2,i3⟩:=a9r (m:=m) (n:=n) (by omega)
  have hp:¬pkG h k kp (g7 way (m+1)) (rkW way) (gwS h k kp way m).L (gwS h k kp way m).B n=true:=λe=>by have:=(a1K e).1;omega
  refine⟨?_,?_,?_⟩
  ·show nxL _ _ _ _ _ _ _ n=_
   unfold nxL
   rw[if_neg hp]
   exact i1
  ·show nxB _ _ _ _ _ _ _ n=_
   unfold nxB
   rw[if_neg hp]
   exact i2
  ·show(if _ then _ else _)=_
   rw[if_neg (by rw[Bool.and_eq_true,decide_eq_true_eq];intro z;have:=(q5.mp z.1).1;omega)]
   exact i3
theorem b2p (hw:W1s way)(hm:m<way.length):f8 (g7 way (m+1)) (gwS h k kp way m).L=f8 (g7 way m) (gwS h k kp way m).L++(List.range (c6 way m).length).map (g7 way m + ·):=by
 unfold f8
 rw[C5 hm,M7,List.filter_append]
 congr 1
 refine List.filter_eq_self.mpr λn hn=>?_
 obtain⟨j,hj,rfl⟩:=List.mem_map.mp hn
 have hj:=List.mem_range.mp hj
 have e:=(a9r (h:=h) (k:=k) (kp:=kp) (way:=way) (m:=m) (n:=g7 way m+j) (by omega)).1
 have h2:=a16 way (m+1)
 rw[C5 hm]at h2
 have:=Y3 hw (n:=g7 way m+j) (by omega)
 exact decide_eq_true (by rw[e];omega)
theorem b1Q (hw:W1s way)(hm:m<way.length):f7 none (x8 (g7 way m) (rkW way) (gwS h k kp way m).L (gwS h k kp way m).B) (c6 way m)=x8 (g7 way (m+1)) (rkW way) (gwS h k kp way m).L (gwS h k kp way m).B:=by
 unfold x8
 rw[a0k,b2p hw hm,List.map_append]
 congr 1
 rw[List.map_map]
 have e:=B1 ((0:Int),(0:Int)) (λc:Int×Int=>((c.1,c.2,false):Pn)) (c6 way m)
 rw[←e]
 refine List.map_congr_left λj hj=>?_
 have hj:=List.mem_range.mp hj
 have e1:=a3D hm hj
 obtain⟨e2,e3,_⟩:=a9r (h:=h) (k:=k) (kp:=kp) (way:=way) (m:=m) (n:=g7 way m+j) (by omega)
 show _=psG (rkW way) (gwS h k kp way m).L (gwS h k kp way m).B (g7 way m+j)
 unfold psG
 rw[e2,e3]
 unfold rkW wkW
 rw[e1]
noncomputable def coG (h k:Nat)(kp:Bool)(way:List Bt)(m n:Nat):Co:=if 0<(gwS h k kp way m).L n then .inn (arW way n) ((gwS h k kp way m).W n) else .gone (arW way n) ((gwS h k kp way m).M n) ((gwS h k kp way m).W n)
theorem b28 (hw:W1s way)(hm:m<way.length):(List.range (g7 way m)).map (coG h k kp way m)++List.replicate (c6 way m).length (.inn m 0)=(List.range (g7 way (m+1))).map (coG h k kp way m):=by
 rw[C5 hm,M7,List.map_append]
 congr 1
 rw[List.map_map]
 refine(List.eq_replicate_iff.mpr ⟨by simp,λd hd=>?_⟩).symm
 obtain⟨j,hj,rfl⟩:=List.mem_map.mp hd
 have hj:=List.mem_range.mp hj
 obtain⟨e1,_,e2⟩:=a9r (h:=h) (k:=k) (kp:=kp) (way:=way) (m:=m) (n:=g7 way m+j) (by omega)
 have h2:=a16 way (m+1)
 rw[C5 hm]at h2
 have h3:=Y3 hw (n:=g7 way m+j) (by omega)
 have e3:arW way (g7 way m+j)=m:=b0F hm (by omega) (by rw[C5 hm];omega)
 show coG h k kp way m (g7 way m+j)=_
 unfold coG
 rw[if_pos (by rw[e1];omega),e2,e3]
theorem a9I (hw:W1s way):∀m,m≤way.length->(G9 h k kp false none way m).st=x8 (g7 way m) (rkW way) (gwS h k kp way m).L (gwS h k kp way m).B∧(G9 h k kp false none way m).ins=f8 (g7 way m) (gwS h k kp way m).L∧(G9 h k kp false none way m).told=(List.range (g7 way m)).map (coG h k kp way m)
 | 0,_=>⟨rfl,rfl,rfl⟩
 | m+1,hm=>by
  obtain⟨i1,i2,i3⟩:=a9I hw m (by omega)
  have hml:m<way.length:=by omega
  have hfl:=b1Q (h:=h) (k:=k) (kp:=kp) hw hml
  have hlen:(G9 h k kp false none way m).told.length=g7 way m:=by rw[i3,List.length_map,List.length_range]
  have hci:w6 none (c6 way m) (G9 h k kp false none way m)=f8 (g7 way (m+1)) (gwS h k kp way m).L:=by
   unfold w6
   rw[i2,hlen,b2p hw hml]
   rfl
  have hct:x6 none m (c6 way m) (G9 h k kp false none way m)=(List.range (g7 way (m+1))).map (coG h k kp way m):=by
   unfold x6
   rw[i3,←b28 hw hml]
   have:m9 none (G9 h k kp false none way m).st.length (c6 way m).length=(c6 way m).length:=rfl
   rw[this,Nat.sub_self,List.replicate_zero,List.append_nil]
  have hst:f7 none (G9 h k kp false none way m).st (c6 way m)=x8 (g7 way (m+1)) (rkW way) (gwS h k kp way m).L (gwS h k kp way m).B:=by rw[i1,hfl]
  refine⟨?_,?_,?_⟩
  ·show after h k kp false (f7 none (G9 h k kp false none way m).st (c6 way m))=_
   rw[hst,a99]
   rfl
  ·show(t9 false (G5 h k kp none (c6 way m) (G9 h k kp false none way m)) (f7 none (G9 h k kp false none way m).st (c6 way m))).map (λi=>(w6 none (c6 way m) (G9 h k kp false none way m)).getD i 0)=_
   unfold G5
   rw[hst,hci,a3E]
   rfl
  ·show(List.range (x6 none m (c6 way m) (G9 h k kp false none way m)).length).map (λn=>if n∈w6 none (c6 way m) (G9 h k kp false none way m) then a3q h k kp none m (c6 way m) (G9 h k kp false none way m) n else(x6 none m (c6 way m) (G9 h k kp false none way m)).getD n (.lost 0))=_
   unfold a3q G5
   rw[hci,hct,hst,List.length_map,List.length_range]
   refine List.map_congr_left λn hn=>?_
   have hn:=List.mem_range.mp hn
   have eg:((List.range (g7 way (m+1))).map (coG h k kp way m)).getD n (.lost 0)=coG h k kp way m n:=by
    rw[List.getD_eq_getElem?_getD,List.getElem?_map,List.getElem?_eq_getElem (by rw[List.length_range];exact hn)]
    simp
   rw[eg]
   by_cases hin:n∈f8 (g7 way (m+1)) (gwS h k kp way m).L
   ·rw[if_pos hin]
    obtain⟨i,hi,en⟩:=List.mem_iff_getElem.mp hin
    have ei:(f8 (g7 way (m+1)) (gwS h k kp way m).L).idxOf n=i:=by rw[←en];exact L4 (J7 _ _) hi
    have hpk:pkG h k kp (g7 way (m+1)) (rkW way) (gwS h k kp way m).L (gwS h k kp way m).B n=decide (i∈i6 h k kp (x8 (g7 way (m+1)) (rkW way) (gwS h k kp way m).L (gwS h k kp way m).B)):=by rw[←en];exact a1p hi
    have hLn:=(q5.mp hin).2
    have hpa:pAt (x8 (g7 way (m+1)) (rkW way) (gwS h k kp way m).L (gwS h k kp way m).B) i=psG (rkW way) (gwS h k kp way m).L (gwS h k kp way m).B n:=by rw[a1J hi,en]
    rw[ei]
    have e0:coG h k kp way m n = .inn (arW way n) ((gwS h k kp way m).W n):=if_pos hLn
    have e1:coG h k kp way (m+1) n=if 0<nxL h k kp (g7 way (m+1)) (rkW way) (gwS h k kp way m).L (gwS h k kp way m).B n then .inn (arW way n) ((gwS h k kp way (m+1)).W n) else .gone (arW way n) ((gwS h k kp way (m+1)).M n) ((gwS h k kp way (m+1)).W n):=rfl
    have eW:(gwS h k kp way (m+1)).W n=if (decide (n∈f8 (g7 way (m+1)) (gwS h k kp way m).L) && !pkG h k kp (g7 way (m+1)) (rkW way) (gwS h k kp way m).L (gwS h k kp way m).B n)=true then(gwS h k kp way m).W n+1 else(gwS h k kp way m).W n:=rfl
    have eM:(gwS h k kp way (m+1)).M n=if pkG h k kp (g7 way (m+1)) (rkW way) (gwS h k kp way m).L (gwS h k kp way m).B n=true∧(gwS h k kp way m).L n≤1 then m+1 else(gwS h k kp way m).M n:=rfl
    rw[e0,e1,eW,eM,decide_eq_true hin]
    unfold nxL
    by_cases hP:i∈i6 h k kp (x8 (g7 way (m+1)) (rkW way) (gwS h k kp way m).L (gwS h k kp way m).B)
    ·rw[decide_eq_true hP]at hpk
     by_cases hl:(gwS h k kp way m).L n≤1
     ·have hg:i∈A2 (i6 h k kp (x8 (g7 way (m+1)) (rkW way) (gwS h k kp way m).L (gwS h k kp way m).B)) (x8 (g7 way (m+1)) (rkW way) (gwS h k kp way m).L (gwS h k kp way m).B):=by
       unfold A2
       rw[List.mem_filter,decide_eq_true_eq,hpa]
       exact⟨hP,hl⟩
      rw[decide_eq_true hg,hpk,if_pos rfl,if_neg (by omega),if_pos ⟨rfl,hl⟩]
      rfl
     ·have hg:¬i∈A2 (i6 h k kp (x8 (g7 way (m+1)) (rkW way) (gwS h k kp way m).L (gwS h k kp way m).B)) (x8 (g7 way (m+1)) (rkW way) (gwS h k kp way m).L (gwS h k kp way m).B):=by
       unfold A2
       rw[List.mem_filter,decide_eq_true_eq,hpa]
       exact λz=>hl z.2
      rw[decide_eq_false hg,decide_eq_true hP,hpk,if_pos rfl,if_pos (by omega)]
      rfl
    ·rw[decide_eq_false hP]at hpk
     have hg:¬i∈A2 (i6 h k kp (x8 (g7 way (m+1)) (rkW way) (gwS h k kp way m).L (gwS h k kp way m).B)) (x8 (g7 way (m+1)) (rkW way) (gwS h k kp way m).L (gwS h k kp way m).B):=λz=>hP (List.mem_filter.mp z).1
     rw[decide_eq_false hg,decide_eq_false hP,hpk]
     show aft m true false (.inn (arW way n) ((gwS h k kp way m).W n))=if 0<(gwS h k kp way m).L n then _ else _
     rw[if_pos hLn]
     rfl
   ·rw[if_neg hin]
    have hnp:¬pkG h k kp (g7 way (m+1)) (rkW way) (gwS h k kp way m).L (gwS h k kp way m).B n=true:=λe=>hin (q5.mpr (a1K e))
    have hL:¬0<(gwS h k kp way m).L n:=λz=>hin (q5.mpr ⟨hn,z⟩)
    have e1:(gwS h k kp way (m+1)).L n=(gwS h k kp way m).L n:=by
     show nxL _ _ _ _ _ _ _ n=_
     unfold nxL
     rw[if_neg hnp]
    have eW:(gwS h k kp way (m+1)).W n=(gwS h k kp way m).W n:=by
     show(if _ then _ else _)=_
     rw[decide_eq_false hin,if_neg (by simp)]
    have eM:(gwS h k kp way (m+1)).M n=(gwS h k kp way m).M n:=by
     show(if _ then _ else _)=_
     rw[if_neg (λz=>hnp z.1)]
    unfold coG
    rw[e1,eW,eM]
end
end L3
namespace L3
open PySem L2
theorem Z7 {N k:Nat}{q:Nat->Bool}(hk:k<((List.range N).filter q).length):(List.range (((List.range N).filter q)[k])).filter q=((List.range N).filter q).take k:=by
 have hm:=List.getElem_mem hk
 have hnd:((List.range N).filter q).Nodup:=(t8 _).sublist List.filter_sublist
 have ei:=L4 hnd hk
 generalize ((List.range N).filter q)[k]=n at hm ei ⊢
 obtain⟨hn,hq⟩:=List.mem_filter.mp hm
 have hn:=List.mem_range.mp hn
 obtain⟨r,er⟩:=K8 hn
 have el:(List.range N).filter q=(List.range n).filter q++(n::r.filter q):=by
  rw[er,List.filter_append,List.filter_cons,hq,if_pos rfl]
 have ek:((List.range n).filter q).length=k:=by
  have h1:((List.range N).filter q).idxOf n=((List.range n).filter q).length:=by
   rw[el,List.idxOf_append,if_neg (λz=>by have:=List.mem_range.mp (List.mem_filter.mp z).1;omega),List.idxOf_cons_self]
   omega
  rw[ei]at h1
  exact h1.symm
 rw[el,List.take_append_of_le_length (by omega),List.take_of_length_le (by omega)]
section
variable {N:Nat}{q p:Nat->Bool}
noncomputable abbrev nuQ (N:Nat)(q:Nat->Bool)(k:Nat):Nat:=((List.range N).filter q).getD k 0
theorem a0p {k:Nat}(hk:k<((List.range N).filter q).length):nuQ N q k=((List.range N).filter q)[k]:=by unfold nuQ;rw[List.getD_eq_getElem?_getD,List.getElem?_eq_getElem hk];rfl
theorem a0T {k:Nat}(hk:k<((List.range N).filter q).length):nuQ N q k<N∧q (nuQ N q k)=true:=by
 rw[a0p hk]
 obtain⟨h1,h2⟩:=List.mem_filter.mp (List.getElem_mem hk)
 exact⟨List.mem_range.mp h1,h2⟩
theorem b0j {k:Nat}(hk:k<((List.range N).filter q).length):((List.range (nuQ N q k)).filter λn=>q n&&p n).length=((List.range k).filter λj=>p (nuQ N q j)).length:=by
 have e1:((List.range (nuQ N q k)).filter λn=>q n&&p n)=((List.range (nuQ N q k)).filter q).filter p:=by
  rw[List.filter_filter]
  refine List.filter_congr λn _=>Bool.and_comm _ _
 rw[e1,a0p hk,Z7 hk]
 have e2:((List.range N).filter q).take k=(List.range k).map (nuQ N q):=by
  have h1:((List.range N).filter q).take k=(List.range (((List.range N).filter q).take k).length).map λi=>(((List.range N).filter q).take k).getD i 0:=(V0 _).symm
  rw[h1,List.length_take,Nat.min_eq_left (Nat.le_of_lt hk)]
  refine List.map_congr_left λi hi=>?_
  have hi:=List.mem_range.mp hi
  unfold nuQ
  rw[List.getD_eq_getElem?_getD,List.getElem?_take_of_lt hi,List.getD_eq_getElem?_getD]
 rw[e2,List.filter_map,List.length_map]
 rfl
theorem a2l {k c:Nat}(hk:k<((List.range N).filter q).length)(hc:c≤N):nuQ N q k<c↔k<((List.range c).filter q).length:=by
 obtain⟨hn,hq⟩:=a0T hk
 have ht:=Z7 hk
 rw[←a0p hk]at ht
 have hl:((List.range (nuQ N q k)).filter q).length=k:=by rw[ht,List.length_take];omega
 constructor
 ·intro z
  obtain⟨r,er⟩:=K8 z
  rw[er,List.filter_append,List.filter_cons,hq,if_pos rfl,List.length_append,List.length_cons,hl]
  omega
 ·intro z
  by_cases hz:nuQ N q k<c
  ·exact hz
  ·have:((List.range c).filter q).length≤((List.range (nuQ N q k)).filter q).length:=by
    obtain⟨d,ed⟩:∃d,nuQ N q k=c+d:=⟨nuQ N q k-c,by omega⟩
    rw[ed,M7,List.filter_append,List.length_append]
    omega
   omega
theorem X8 {j k:Nat}(hj:j<k)(hk:k<((List.range N).filter q).length):nuQ N q j<nuQ N q k:=by
 have hn:=(a0T hk).1
 rw[a2l (by omega) (Nat.le_of_lt hn)]
 have ht:=Z7 hk
 rw[←a0p hk]at ht
 rw[ht,List.length_take]
 omega
end
section
variable {h c:Nat}{rk L:Nat->Int}{B:Nat->Bool}
theorem a77 (hr:∀n,0≤rk n){n:Nat}(h0:rk n=0):pkG h 3 false c rk L B n=(prs c L n&&decide (((List.range n).filter λn'=>decide (rk n'=0)&&prs c L n').length<h)):=by
 by_cases hin:n∈f8 c L
 ·obtain⟨i,hi,en⟩:=List.mem_iff_getElem.mp hin
  obtain⟨hc,hL⟩:=q5.mp hin
  have hpr:prs c L n=true:=by unfold prs;rw[decide_eq_true hc,decide_eq_true hL];rfl
  rw[hpr,Bool.true_and]
  have h1:pkG h 3 false c rk L B n=decide (i∈i6 h 3 false (x8 c rk L B)):=by rw[←en];exact a1p hi
  rw[h1,decide_eq_decide,Q1,List.mem_filter,List.mem_range,List.length_map,decide_eq_true_eq]
  have h2:((List.range (f8 c L).length).filter λj=>decide (j≠i∧y3 3 false (x8 c rk L B) j i)).length=((List.range n).filter λn'=>decide (rk n'=0)&&prs c L n').length:=by
   have e1:((List.range (f8 c L).length).filter λj=>decide (j≠i∧y3 3 false (x8 c rk L B) j i))=((List.range (f8 c L).length).filter λj=>decide (rk ((f8 c L).getD j 0)=0)&&decide (j<i)):=by
    refine List.filter_congr λj hj=>?_
    have hj:=List.mem_range.mp hj
    rw[Bool.eq_iff_iff,decide_eq_true_eq,Bool.and_eq_true,decide_eq_true_eq,decide_eq_true_eq]
    have eg:(f8 c L).getD j 0=(f8 c L)[j]:=by rw[List.getD_eq_getElem?_getD,List.getElem?_eq_getElem hj];rfl
    rw[eg]
    unfold y3 E7
    rw[if_neg (by decide),if_neg (by decide),if_neg (by decide),if_pos rfl,a1J hj,a1J hi,en]
    show _∧(rk ((f8 c L)[j])<rk n∨(rk ((f8 c L)[j])=rk n∧j<i))↔_
    have:=hr ((f8 c L)[j])
    rw[h0]
    omega
   have e2:((List.range (f8 c L).length).filter λj=>decide (rk ((f8 c L).getD j 0)=0)&&decide (j<i))=(List.range i).filter λj=>decide (rk ((f8 c L).getD j 0)=0):=by
    obtain⟨r,er⟩:=K8 hi
    rw[er,List.filter_append]
    have z1:((List.range i).filter λj=>decide (rk ((f8 c L).getD j 0)=0)&&decide (j<i))=(List.range i).filter λj=>decide (rk ((f8 c L).getD j 0)=0):=by
     refine List.filter_congr λj hj=>?_
     rw[decide_eq_true (List.mem_range.mp hj),Bool.and_true]
    have hsort:(List.range (f8 c L).length).Pairwise (· < ·):=A6 _
    rw[er]at hsort
    have z2:((i::r).filter λj=>decide (rk ((f8 c L).getD j 0)=0)&&decide (j<i))=[]:=by
     rw[List.filter_eq_nil_iff]
     intro j hj z
     rw[Bool.and_eq_true,decide_eq_true_eq,decide_eq_true_eq]at z
     rcases List.mem_cons.mp hj with rfl | hj
     ·omega
     ·have h5:=(List.pairwise_append.mp hsort).2.1
      have:=(List.pairwise_cons.mp h5).1 j hj
      omega
    rw[z1,z2,List.append_nil]
   have e3:(f8 c L).take i=(List.range n).filter (prs c L):=by
    have:=Z7 (N:=c) (q:=prs c L) (k:=i) (by rw[←Q4];exact hi)
    have e4:((List.range c).filter (prs c L))[i]'(by rw[←Q4];exact hi)=n:=by
     have:((List.range c).filter (prs c L))=f8 c L:=(Q4 c L).symm
     simp only[this]
     exact en
    rw[e4,←Q4]at this
    exact this.symm
   have e5:(List.range i).map (λj=>(f8 c L).getD j 0)=(f8 c L).take i:=by
    have h1:(f8 c L).take i=(List.range ((f8 c L).take i).length).map λj=>((f8 c L).take i).getD j 0:=(V0 _).symm
    rw[h1,List.length_take,Nat.min_eq_left (Nat.le_of_lt hi)]
    refine List.map_congr_left λj hj=>?_
    have hj:=List.mem_range.mp hj
    rw[List.getD_eq_getElem?_getD,List.getD_eq_getElem?_getD,List.getElem?_take_of_lt hj]
   rw[e1,e2]
   have e6:((List.range n).filter λn'=>decide (rk n'=0)&&prs c L n')=((List.range n).filter (prs c L)).filter λn'=>decide (rk n'=0):=by rw[List.filter_filter]
   rw[e6,←e3,←e5,List.filter_map,List.length_map]
   rfl
  rw[h2]
  exact⟨λz=>z.2,λz=>⟨hi,z⟩⟩
 ·have hp:pkG h 3 false c rk L B n=false:=by
   cases e:pkG h 3 false c rk L B n with
   | false=>rfl
   | true=>exact absurd (q5.mpr (a1K e)) hin
  have hpr:prs c L n=false:=by
   cases e:prs c L n with
   | false=>rfl
   | true =>
    unfold prs at e
    rw[Bool.and_eq_true,decide_eq_true_eq,decide_eq_true_eq]at e
    exact absurd (q5.mpr e) hin
  rw[hp,hpr]
  rfl
end
theorem a04 {h N:Nat}{cnt:Nat->Nat}{rk w:Nat->Int}(hr:∀n,0≤rk n)(hc:∀m,cnt m≤N):∀m k,k<((List.range N).filter λn=>decide (rk n=0)).length ->
  (gS h 3 false cnt rk w m).L (nuQ N (λn=>decide (rk n=0)) k)=fL h (λm=>((List.range (cnt m)).filter λn=>decide (rk n=0)).length) (λk=>w (nuQ N (λn=>decide (rk n=0)) k)) m k ∧
  (gS h 3 false cnt rk w m).M (nuQ N (λn=>decide (rk n=0)) k)=fM h (λm=>((List.range (cnt m)).filter λn=>decide (rk n=0)).length) (λk=>w (nuQ N (λn=>decide (rk n=0)) k)) m k
 | 0,k,hk=>⟨rfl,rfl⟩
 | m+1,k,hk=>by
  obtain⟨i1,i2⟩:=a04 hr hc m k hk
  have ih:=λj hj=>(a04 (h:=h) (w:=w) hr hc m j hj).1
  have h0:rk (nuQ N (λn=>decide (rk n=0)) k)=0:=of_decide_eq_true (a0T hk).2
  have hprs:∀j,j≤k->prs (cnt (m+1)) (gS h 3 false cnt rk w m).L (nuQ N (λn=>decide (rk n=0)) j)=prs (((List.range (cnt (m+1))).filter λn=>decide (rk n=0)).length) (fL h (λm=>((List.range (cnt m)).filter λn=>decide (rk n=0)).length) (λk=>w (nuQ N (λn=>decide (rk n=0)) k)) m) j:=λj hj=>by
   unfold prs
   rw[ih j (by omega)]
   congr 1
   rw[decide_eq_decide]
   exact a2l (by omega) (hc _)
  have hpk:pkG h 3 false (cnt (m+1)) rk (gS h 3 false cnt rk w m).L (gS h 3 false cnt rk w m).B (nuQ N (λn=>decide (rk n=0)) k)=pkd h (((List.range (cnt (m+1))).filter λn=>decide (rk n=0)).length) (fL h (λm=>((List.range (cnt m)).filter λn=>decide (rk n=0)).length) (λk=>w (nuQ N (λn=>decide (rk n=0)) k)) m) k:=by
   rw[a77 hr h0,b0j hk,hprs k (Nat.le_refl _)]
   unfold pkd
   congr 2
   have:((List.range k).filter λj=>prs (cnt (m+1)) (gS h 3 false cnt rk w m).L (nuQ N (λn=>decide (rk n=0)) j))=((List.range k).filter (prs (((List.range (cnt (m+1))).filter λn=>decide (rk n=0)).length) (fL h (λm=>((List.range (cnt m)).filter λn=>decide (rk n=0)).length) (λk=>w (nuQ N (λn=>decide (rk n=0)) k)) m))):=List.filter_congr λj hj=>hprs j (Nat.le_of_lt (List.mem_range.mp hj))
   rw[this]
  refine⟨?_,?_⟩
  ·show nxL _ _ _ _ _ _ _ _=nxt _ _ _ _
   unfold nxL nxt
   rw[hpk,i1]
  ·show(if _ then _ else _)=fM _ _ _ (m+1) k
   rw[fM,hpk,i1,i2]
end L3
namespace L3
open PySem L2
theorem a8N (c:Nat)(L:Nat->Int):(f8 c L).Pairwise (· < ·):=(A6 c).sublist List.filter_sublist
noncomputable def SN (rk:Nat->Int)(B:Nat->Bool)(n' n:Nat):Prop:=bI (!B n')<bI (!B n)∨(bI (!B n')=bI (!B n)∧(rk n'<rk n∨(rk n'=rk n∧n'<n)))
section
variable {c:Nat}{rk L:Nat->Int}{B:Nat->Bool}
theorem pk1 {n:Nat}:pkG 1 3 true c rk L B n=true↔(n<c∧0<L n)∧∀n',n'<c->0<L n'->n'≠n->¬SN rk B n' n:=by
 by_cases hin:n∈f8 c L
 ·obtain⟨i,hi,en⟩:=List.mem_iff_getElem.mp hin
  have hp:=q5.mp hin
  have h1:pkG 1 3 true c rk L B n=decide (i∈i6 1 3 true (x8 c rk L B)):=by rw[←en];exact a1p hi
  have hlt:=List.pairwise_iff_getElem.mp (a8N c L)
  have hs:∀j (hj:j<(f8 c L).length),j≠i->(y3 3 true (x8 c rk L B) j i↔SN rk B ((f8 c L)[j]) n):=λj hj hne=>by
   unfold y3 E7 SN
   rw[if_pos rfl,if_neg (by decide),if_neg (by decide),if_pos rfl,a1J hj,a1J hi,en]
   have hx:j<i↔(f8 c L)[j]<n:=by
    constructor
    ·intro z
     have:=hlt j i hj hi z
     omega
    ·intro z
     by_cases hji:j<i
     ·exact hji
     ·have:=hlt i j hi hj (by omega)
      omega
   show(bI (!B ((f8 c L)[j]))<bI (!B n)∨(bI (!B ((f8 c L)[j]))=bI (!B n)∧(rk ((f8 c L)[j])<rk n∨(rk ((f8 c L)[j])=rk n∧j<i))))↔_
   rw[hx]
  rw[h1,decide_eq_true_eq,Q1,List.mem_filter,List.mem_range,List.length_map,decide_eq_true_eq]
  constructor
  ·rintro ⟨_,z⟩
   refine⟨hp,λn' hc' hL' hne hsn=>?_⟩
   obtain⟨j,hj,ej⟩:=List.mem_iff_getElem.mp (q5.mpr ⟨hc',hL'⟩)
   have hji:j≠i:=λz=>hne (by rw[←ej,←en];simp only[z])
   have hm:j∈(List.range (f8 c L).length).filter λj=>decide (j≠i∧y3 3 true (x8 c rk L B) j i):=by
    rw[List.mem_filter,List.mem_range,decide_eq_true_eq]
    exact⟨hj,hji,(hs j hj hji).mpr (by rw[ej];exact hsn)⟩
   have:0<((List.range (f8 c L).length).filter λj=>decide (j≠i∧y3 3 true (x8 c rk L B) j i)).length:=List.length_pos_of_mem hm
   omega
  ·rintro ⟨_,z⟩
   refine⟨hi,?_⟩
   have:((List.range (f8 c L).length).filter λj=>decide (j≠i∧y3 3 true (x8 c rk L B) j i))=[]:=by
    rw[List.filter_eq_nil_iff]
    intro j hj z2
    have hj:=List.mem_range.mp hj
    obtain⟨y1,y2⟩:=of_decide_eq_true z2
    obtain⟨x1,x2⟩:=q5.mp (List.getElem_mem hj)
    refine z _ x1 x2 (λe=>y1 ?_) ((hs j hj y1).mp y2)
    have h1:=L4 (J7 c L) hj
    have h2:=L4 (J7 c L) hi
    rw[←h1,←h2,e,en]
   rw[this]
   decide
 ·constructor
  ·intro z
   exact absurd (q5.mpr (a1K z)) hin
  ·rintro ⟨z,_⟩
   exact absurd (q5.mpr z) hin
theorem b1i {n n':Nat}(h:n≠n'):SN rk B n n'∨SN rk B n' n:=by
 unfold SN
 cases B n <;> cases B n' <;> simp[bI] <;> omega
theorem a7g {n n':Nat}(h1:pkG 1 3 true c rk L B n=true)(h2:pkG 1 3 true c rk L B n'=true):n=n':=by
 by_cases e:n=n'
 ·exact e
 ·obtain⟨a1,a2⟩:=pk1.mp h1
  obtain⟨b1,b2⟩:=pk1.mp h2
  rcases b1i (rk:=rk) (B:=B) e with z | z
  ·exact absurd z (b2 n a1.1 a1.2 e)
  ·exact absurd z (a2 n' b1.1 b1.2 (Ne.symm e))
theorem b2i {n:Nat}(h:n<c∧0<L n):∃n0,pkG 1 3 true c rk L B n0=true:=by
 have hl:0<(f8 c L).length:=List.length_pos_of_mem (q5.mpr h)
 have hp:=O2 1 3 true (x8 c rk L B)
 rw[List.length_map]at hp
 have hp:0<(i6 1 3 true (x8 c rk L B)).length:=by omega
 have hm:=List.getElem_mem hp
 generalize (i6 1 3 true (x8 c rk L B))[0]=i at hm
 have hi:i<(f8 c L).length:=by have:=u7 i hm;rwa [List.length_map]at this
 exact⟨_,by rw[a1p hi];exact decide_eq_true hm⟩
end
theorem a12 {f g:Nat->Int}{n0:Nat}:∀{N:Nat},n0<N->(∀n,n≠n0->g n=f n)->((List.range N).map g).sum=((List.range N).map f).sum+(g n0-f n0)
 | 0,h,_=>absurd h (Nat.not_lt_zero _)
 | N+1,h,e=>by
  rw[List.range_succ,List.map_append,List.map_append,List.sum_append,List.sum_append]
  simp only[List.map_cons,List.map_nil,List.sum_cons,List.sum_nil]
  by_cases hn:n0=N
  ·subst hn
   have:(List.range n0).map g=(List.range n0).map f:=List.map_congr_left λn hn=>e n (Nat.ne_of_lt (List.mem_range.mp hn))
   rw[this]
   omega
  ·have:=a12 (N:=N) (by omega) e
   have h2:=e N (Ne.symm hn)
   omega
theorem a6H {f:Nat->Int}{N:Nat}(h:∀n,0≤f n):0≤((List.range N).map f).sum:=by
 induction N with
 | zero=>exact Int.le_refl _
 | succ N ih =>
  rw[List.range_succ,List.map_append,List.sum_append]
  simp only[List.map_cons,List.map_nil,List.sum_cons,List.sum_nil]
  have:=h N
  omega
theorem b0I {f:Nat->Int}{N n:Nat}(h:∀n,0≤f n)(hn:n<N):f n≤((List.range N).map f).sum:=by
 induction N with
 | zero=>omega
 | succ N ih =>
  rw[List.range_succ,List.map_append,List.sum_append]
  simp only[List.map_cons,List.map_nil,List.sum_cons,List.sum_nil]
  have h2:=a6H (N:=N) h
  have h3:=h N
  by_cases e:n=N
  ·subst e;omega
  ·have:=ih (by omega)
   omega
theorem a8z {f:Nat->Int}{N:Nat}(h:0<((List.range N).map f).sum):∃n,n<N∧0<f n:=by
 induction N with
 | zero=>exact absurd h (Int.lt_irrefl 0)
 | succ N ih =>
  rw[List.range_succ,List.map_append,List.sum_append]at h
  simp only[List.map_cons,List.map_nil,List.sum_cons,List.sum_nil]at h
  by_cases e:0<f N
  ·exact⟨N,by omega,e⟩
  ·obtain⟨n,h1,h2⟩:=ih (by omega)
   exact⟨n,by omega,h2⟩
section
variable {N D:Nat}{cnt:Nat->Nat}{rk w:Nat->Int}
noncomputable abbrev gB (cnt:Nat->Nat)(rk w:Nat->Int)(m:Nat):GS:=gS 1 3 true cnt rk w m
structure BI (cnt:Nat->Nat) (rk w:Nat->Int) (m:Nat):Prop where
 un:∀n,(gB cnt rk w m).B n=false->(gB cnt rk w m).L n=w n
 nn:∀n,0≤(gB cnt rk w m).L n
 one:∀n n',(gB cnt rk w m).B n=true->0<(gB cnt rk w m).L n->(gB cnt rk w m).B n'=true->0<(gB cnt rk w m).L n'->n=n'
 fst:∀n n',rk n=0->rk n'=0->n'<n->(gB cnt rk w m).B n=true->0<(gB cnt rk w m).L n->(gB cnt rk w m).L n'≤0
 new:∀n,cnt m≤n->(gB cnt rk w m).B n=false
theorem BI.next (hm:∀m,cnt m≤cnt (m+1)){m:Nat}(I:BI cnt rk w m):BI cnt rk w (m+1):=by
 have eL:∀n,(gB cnt rk w (m+1)).L n=if pkG 1 3 true (cnt (m+1)) rk (gB cnt rk w m).L (gB cnt rk w m).B n=true then(gB cnt rk w m).L n-1 else(gB cnt rk w m).L n:=λn=>rfl
 have eB:∀n,(gB cnt rk w (m+1)).B n=if pkG 1 3 true (cnt (m+1)) rk (gB cnt rk w m).L (gB cnt rk w m).B n=true then true else(gB cnt rk w m).B n:=λn=>rfl
 have hpkL:∀n,(gB cnt rk w (m+1)).L n≤(gB cnt rk w m).L n:=λn=>by rw[eL];split <;> omega
 refine⟨λn hb=>?_,λn=>?_,λn n' b1 l1 b2 l2=>?_,λn n' r1 r2 hlt b1 l1=>?_,λn hn=>?_⟩
 ·rw[eB]at hb
  rw[eL]
  by_cases hp:pkG 1 3 true (cnt (m+1)) rk (gB cnt rk w m).L (gB cnt rk w m).B n=true
  ·rw[if_pos hp]at hb;cases hb
  ·rw[if_neg hp]at hb ⊢
   exact I.un n hb
 ·rw[eL]
  by_cases hp:pkG 1 3 true (cnt (m+1)) rk (gB cnt rk w m).L (gB cnt rk w m).B n=true
  ·rw[if_pos hp]
   have:=(pk1.mp hp).1.2
   omega
  ·rw[if_neg hp]
   exact I.nn n
 ·-- who is begun now was picked,or was begun
  have key:∀x y,(gB cnt rk w (m+1)).B x=true->0<(gB cnt rk w (m+1)).L x->pkG 1 3 true (cnt (m+1)) rk (gB cnt rk w m).L (gB cnt rk w m).B y=true->x=y:=λx y hb hl hy=>by
   by_cases hx:pkG 1 3 true (cnt (m+1)) rk (gB cnt rk w m).L (gB cnt rk w m).B x=true
   ·exact a7g hx hy
   ·rw[eB,if_neg hx]at hb
    rw[eL,if_neg hx]at hl
    obtain⟨y1,y2⟩:=pk1.mp hy
    by_cases e:x=y
    ·exact e
    ·have hxc:x<cnt (m+1):=by
      by_cases z:x<cnt (m+1)
      ·exact z
      ·have:=hm m
       rw[I.new x (by omega)]at hb
       cases hb
     refine absurd ?_ (y2 x hxc hl e)
     cases hby:(gB cnt rk w m).B y with
     | true=>exact absurd (I.one x y hb hl hby y1.2) e
     | false =>
      left
      rw[hb,hby]
      decide
  by_cases h1:pkG 1 3 true (cnt (m+1)) rk (gB cnt rk w m).L (gB cnt rk w m).B n'=true
  ·exact key n n' b1 l1 h1
  ·by_cases h2:pkG 1 3 true (cnt (m+1)) rk (gB cnt rk w m).L (gB cnt rk w m).B n=true
   ·exact(key n' n b2 l2 h2).symm
   ·rw[eB,if_neg h1]at b2
    rw[eL,if_neg h1]at l2
    rw[eB,if_neg h2]at b1
    rw[eL,if_neg h2]at l1
    exact I.one n n' b1 l1 b2 l2
 ·have hle:=hpkL n'
  have hl0:0<(gB cnt rk w m).L n:=by have:=hpkL n;omega
  by_cases hp:pkG 1 3 true (cnt (m+1)) rk (gB cnt rk w m).L (gB cnt rk w m).B n=true
  ·obtain⟨y1,y2⟩:=pk1.mp hp
   by_cases hn':0<(gB cnt rk w m).L n'
   ·refine absurd ?_ (y2 n' (by omega) hn' (by omega))
    cases hbn:(gB cnt rk w m).B n with
    | true=>exact absurd (I.fst n n' r1 r2 hlt hbn hl0) (by omega)
    | false =>
     unfold SN
     rw[hbn,r1,r2]
     cases(gB cnt rk w m).B n' <;> simp[bI]
     exact hlt
   ·omega
  ·rw[eB,if_neg hp]at b1
   have:=I.fst n n' r1 r2 hlt b1 hl0
   omega
 ·rw[eB,if_neg (λz=>by have:=(pk1.mp z).1.1;omega)]
  exact I.new n (by have:=hm m;omega)
theorem BI.at (hw:∀n,0≤w n)(hm:∀m,cnt m≤cnt (m+1)):∀m,BI cnt rk w m
 | 0=>⟨λn _=>rfl,hw,λn n' h=>(by cases h),λn n' _ _ _ h=>(by cases h),λn _=>rfl⟩
 | m+1=>(BI.at hw hm m).next hm
end
end L3
namespace L3
open PySem L2
section
variable {N D:Nat}{cnt:Nat->Nat}{rk w:Nat->Int}
noncomputable abbrev isF (rk:Nat->Int)(n:Nat):Bool:=decide (rk n=0)
noncomputable abbrev nuF (N:Nat)(rk:Nat->Int)(k:Nat):Nat:=nuQ N (isF rk) k
noncomputable abbrev cnF (cnt:Nat->Nat)(rk:Nat->Int)(m:Nat):Nat:=((List.range (cnt m)).filter (isF rk)).length
noncomputable abbrev fA (N:Nat)(cnt:Nat->Nat)(rk w:Nat->Int)(m k:Nat):Int:=fL 1 (cnF cnt rk) (λk=>w (nuF N rk k)) m k
noncomputable abbrev KF (N:Nat)(rk:Nat->Int):Nat:=((List.range N).filter (isF rk)).length
theorem a3t (hm:∀m,cnt m≤cnt (m+1))(m:Nat):cnF cnt rk m≤cnF cnt rk (m+1):=by
 obtain⟨d,e⟩:∃d,cnt (m+1)=cnt m+d:=⟨cnt (m+1)-cnt m,by have:=hm m;omega⟩
 unfold cnF
 rw[e,M7,List.filter_append,List.length_append]
 omega
structure Hy (N D:Nat) (cnt:Nat->Nat) (rk w:Nat->Int):Prop where
 hr:∀n,0≤rk n
 hc:∀m,cnt m≤N
 hm:∀m,cnt m≤cnt (m+1)
 hw:∀n,0≤w n
 h1:∀n,n<N->1≤w n
 hD:∀n,n<N->rk n≠0->w n≤D+1
theorem a7H (m k:Nat)(h:cnF cnt rk m≤k)(hm:∀m,cnt m≤cnt (m+1)):fA N cnt rk w m k=w (nuF N rk k):=by
 induction m with
 | zero=>rfl
 | succ m ih =>
  have h2:=a3t (rk:=rk) hm m
  have:=ih (by omega)
  show nxt _ _ _ k=_
  unfold nxt
  rw[if_neg (λz=>by have:=(D7 z).1;omega)]
  exact this
theorem lo (Y:Hy N D cnt rk w):∀m k,k<KF N rk->fA N cnt rk w m k≤(gB cnt rk w m).L (nuF N rk k)
 | 0,k,_=>Int.le_refl _
 | m+1,k,hk=>by
  have ih:=λj hj=>lo Y m j hj
  have I:=BI.at (rk:=rk) Y.hw Y.hm m
  have eL:(gB cnt rk w (m+1)).L (nuF N rk k)=if pkG 1 3 true (cnt (m+1)) rk (gB cnt rk w m).L (gB cnt rk w m).B (nuF N rk k)=true then(gB cnt rk w m).L (nuF N rk k)-1 else(gB cnt rk w m).L (nuF N rk k):=rfl
  have hdn:fA N cnt rk w (m+1) k≤fA N cnt rk w m k:=a5b m k
  have hnn:0≤fA N cnt rk w (m+1) k:=a2j (λk=>Y.hw _) _ _
  have i0:=ih k hk
  rw[eL]
  by_cases hp:pkG 1 3 true (cnt (m+1)) rk (gB cnt rk w m).L (gB cnt rk w m).B (nuF N rk k)=true
  ·rw[if_pos hp]
   obtain⟨y1,y2⟩:=pk1.mp hp
   by_cases hz:0<fA N cnt rk w m k
   ·have hpk:pkd 1 (cnF cnt rk (m+1)) (fL 1 (cnF cnt rk) (λk=>w (nuF N rk k)) m) k=true:=by
     refine a4m ((a2l hk (Y.hc _)).mp y1.1) hz ?_
     have:((List.range k).filter (prs (cnF cnt rk (m+1)) (fL 1 (cnF cnt rk) (λk=>w (nuF N rk k)) m)))=[]:=by
      rw[List.filter_eq_nil_iff]
      intro j hj z
      have hj:=List.mem_range.mp hj
      unfold prs at z
      rw[Bool.and_eq_true,decide_eq_true_eq,decide_eq_true_eq]at z
      have hLj:0<(gB cnt rk w m).L (nuF N rk j):=by have h5:=ih j (by omega);have h6:0<fA N cnt rk w m j:=z.2;omega
      have hlt:=X8 (N:=N) (q:=isF rk) hj hk
      have r1:rk (nuF N rk k)=0:=of_decide_eq_true (a0T hk).2
      have r2:rk (nuF N rk j)=0:=of_decide_eq_true (a0T (show j<KF N rk by omega)).2
      refine absurd ?_ (y2 (nuF N rk j) (Nat.lt_trans hlt y1.1) hLj (Nat.ne_of_lt hlt))
      cases hbn:(gB cnt rk w m).B (nuF N rk k) with
      | true=>exact absurd (I.fst _ _ r1 r2 hlt hbn y1.2) (by omega)
      | false =>
       unfold SN
       rw[hbn,r1,r2]
       cases(gB cnt rk w m).B (nuF N rk j) <;> simp[bI]
       exact hlt
     rw[this]
     decide
    have e:fA N cnt rk w (m+1) k=fA N cnt rk w m k-1:=by
     show nxt _ _ _ k=_
     unfold nxt
     rw[if_pos hpk]
    omega
   ·have:=y1.2
    omega
  ·rw[if_neg hp]
   omega
noncomputable abbrev SL (N:Nat)(cnt:Nat->Nat)(rk w:Nat->Int)(k m:Nat):Int:=((List.range (k+1)).map λj=>(gB cnt rk w m).L (nuF N rk j)).sum
noncomputable abbrev SA (N:Nat)(cnt:Nat->Nat)(rk w:Nat->Int)(k m:Nat):Int:=((List.range (k+1)).map λj=>fA N cnt rk w m j).sum
noncomputable abbrev tb (cnt:Nat->Nat)(rk w:Nat->Int)(m n:Nat):Int:=if (gB cnt rk w m).B n=true∧rk n≠0 then(gB cnt rk w m).L n else 0
noncomputable abbrev bl (N:Nat)(cnt:Nat->Nat)(rk w:Nat->Int)(m:Nat):Int:=((List.range N).map (tb cnt rk w m)).sum
theorem b22 (Y:Hy N D cnt rk w)(m n:Nat):0≤tb cnt rk w m n:=by
 have:=(BI.at (rk:=rk) Y.hw Y.hm m).nn n
 unfold tb
 split <;> omega
theorem beat (Y:Hy N D cnt rk w){k m:Nat}(hk:k<KF N rk) :
  (SL N cnt rk w k (m+1)=SL N cnt rk w k m∧bl N cnt rk w (m+1)=bl N cnt rk w m∧∀j,j≤k->nuF N rk j<cnt (m+1)->(gB cnt rk w m).L (nuF N rk j)=0) ∨
  (bl N cnt rk w (m+1)=bl N cnt rk w m∧((SL N cnt rk w k (m+1)=SL N cnt rk w k m-1)∨(SL N cnt rk w k (m+1)=SL N cnt rk w k m∧∀j,j≤k->nuF N rk j<cnt (m+1)->(gB cnt rk w m).L (nuF N rk j)=0))) ∨
  (SL N cnt rk w k (m+1)=SL N cnt rk w k m∧bl N cnt rk w (m+1)=bl N cnt rk w m-1) ∨
  (SL N cnt rk w k (m+1)=SL N cnt rk w k m∧bl N cnt rk w (m+1)≤D∧∀j,j≤k->nuF N rk j<cnt (m+1)->(gB cnt rk w m).L (nuF N rk j)=0):=by
 have I:=BI.at (rk:=rk) Y.hw Y.hm m
 have eL:∀n,(gB cnt rk w (m+1)).L n=if pkG 1 3 true (cnt (m+1)) rk (gB cnt rk w m).L (gB cnt rk w m).B n=true then(gB cnt rk w m).L n-1 else(gB cnt rk w m).L n:=λn=>rfl
 have eB:∀n,(gB cnt rk w (m+1)).B n=if pkG 1 3 true (cnt (m+1)) rk (gB cnt rk w m).L (gB cnt rk w m).B n=true then true else(gB cnt rk w m).B n:=λn=>rfl
 by_cases hex:∃n0,pkG 1 3 true (cnt (m+1)) rk (gB cnt rk w m).L (gB cnt rk w m).B n0=true
 ·obtain⟨n0,hp⟩:=hex
  obtain⟨y1,y2⟩:=pk1.mp hp
  have hn0:n0<N:=Nat.lt_of_lt_of_le y1.1 (Y.hc _)
  have ne:∀n,n≠n0->¬pkG 1 3 true (cnt (m+1)) rk (gB cnt rk w m).L (gB cnt rk w m).B n=true:=λn hn z=>hn (a7g z hp)
  have tne:∀n,n≠n0->tb cnt rk w (m+1) n=tb cnt rk w m n:=λn hn=>by unfold tb;rw[eL,eB,if_neg (ne n hn),if_neg (ne n hn)]
  have hbl:bl N cnt rk w (m+1)=bl N cnt rk w m+(tb cnt rk w (m+1) n0-tb cnt rk w m n0):=a12 (f:=tb cnt rk w m) (g:=tb cnt rk w (m+1)) hn0 tne
  have t1:tb cnt rk w (m+1) n0=if rk n0≠0 then(gB cnt rk w m).L n0-1 else 0:=by
   unfold tb
   rw[eL,eB,if_pos hp,if_pos hp]
   by_cases hr0:rk n0≠0
   ·rw[if_pos ⟨rfl,hr0⟩,if_pos hr0]
   ·rw[if_neg (λz=>hr0 z.2),if_neg hr0]
  -- the fronts' sum where a back is picked
  have slb:rk n0≠0->SL N cnt rk w k (m+1)=SL N cnt rk w k m:=λhb=>by
   unfold SL
   congr 1
   refine List.map_congr_left λj hj=>?_
   have hj:=List.mem_range.mp hj
   rw[eL,if_neg (ne _ λz=>hb (by rw[←z];exact of_decide_eq_true (a0T (show j<KF N rk by omega)).2))]
  by_cases hf:rk n0=0
  ·-- a front
   right;left
   have t0:tb cnt rk w m n0=0:=by unfold tb;rw[if_neg (λz=>z.2 hf)]
   rw[t0,t1,if_neg (λz=>z hf)]at hbl
   refine⟨by omega,?_⟩
   obtain⟨j0,hj0,ej0⟩:∃j0,j0<KF N rk∧nuF N rk j0=n0:=by
    have hmem:n0∈(List.range N).filter (isF rk):=List.mem_filter.mpr ⟨List.mem_range.mpr hn0,decide_eq_true hf⟩
    obtain⟨j,hj,ej⟩:=List.mem_iff_getElem.mp hmem
    exact⟨j,hj,by rw[←ej];exact a0p hj⟩
   by_cases hjk:j0≤k
   ·left
    have inj:∀j,j≠j0->j<KF N rk->nuF N rk j≠n0:=λj hne hj z=>by
     rw[←ej0]at z
     rcases Nat.lt_or_gt_of_ne hne with h | h
     ·have:=X8 (N:=N) (q:=isF rk) h hj0
      exact absurd z (Nat.ne_of_lt this)
     ·have:=X8 (N:=N) (q:=isF rk) h hj
      exact absurd z (Nat.ne_of_gt this)
    have:=a12 (N:=k+1) (n0:=j0) (f:=λj=>if j<KF N rk then(gB cnt rk w m).L (nuF N rk j) else 0) (g:=λj=>if j<KF N rk then(gB cnt rk w (m+1)).L (nuF N rk j) else 0) (by omega) (λj hne=>by
     by_cases hj:j<KF N rk
     ·simp only[if_pos hj]
      rw[eL,if_neg (ne _ (inj j hne hj))]
     ·simp only[if_neg hj])
    simp only[if_pos hj0]at this
    have e1:(List.range (k+1)).map (λj=>if j<KF N rk then(gB cnt rk w m).L (nuF N rk j) else 0)=(List.range (k+1)).map λj=>(gB cnt rk w m).L (nuF N rk j):=List.map_congr_left λj hj=>by have:=List.mem_range.mp hj;rw[if_pos (by omega)]
    have e2:(List.range (k+1)).map (λj=>if j<KF N rk then(gB cnt rk w (m+1)).L (nuF N rk j) else 0)=(List.range (k+1)).map λj=>(gB cnt rk w (m+1)).L (nuF N rk j):=List.map_congr_left λj hj=>by have:=List.mem_range.mp hj;rw[if_pos (by omega)]
    rw[e1,e2,eL (nuF N rk j0),ej0,if_pos hp]at this
    unfold SL
    omega
   ·right
    have hlt:∀j,j≤k->nuF N rk j<n0:=λj hj=>by rw[←ej0];exact X8 (N:=N) (q:=isF rk) (by omega) hj0
    refine⟨?_,λj hj hc=>?_⟩
    ·unfold SL
     congr 1
     refine List.map_congr_left λj hj=>?_
     have hj:=List.mem_range.mp hj
     rw[eL,if_neg (ne _ (Nat.ne_of_lt (hlt j (by omega))))]
    ·have hnn:=I.nn (nuF N rk j)
     have r2:rk (nuF N rk j)=0:=of_decide_eq_true (a0T (show j<KF N rk by omega)).2
     by_cases hz:0<(gB cnt rk w m).L (nuF N rk j)
     ·refine absurd ?_ (y2 _ hc hz (Nat.ne_of_lt (hlt j hj)))
      cases hbn:(gB cnt rk w m).B n0 with
      | true=>exact absurd (I.fst n0 _ hf r2 (hlt j hj) hbn y1.2) (by omega)
      | false =>
       unfold SN
       rw[hbn,hf,r2]
       have:=hlt j hj
       cases(gB cnt rk w m).B (nuF N rk j) <;> simp[bI]
       exact this
     ·omega
  ·-- a back
   rw[t1,if_pos hf]at hbl
   cases hb:(gB cnt rk w m).B n0 with
   | true =>
    right;right;left
    have t0:tb cnt rk w m n0=(gB cnt rk w m).L n0:=by unfold tb;rw[if_pos ⟨hb,hf⟩]
    rw[t0]at hbl
    exact⟨slb hf,by omega⟩
   | false =>
    right;right;right
    have t0:tb cnt rk w m n0=0:=by unfold tb;rw[if_neg (λz=>by rw[hb]at z;cases z.1)]
    have hz:∀n,tb cnt rk w m n=0:=λn=>by
     unfold tb
     by_cases hc:(gB cnt rk w m).B n=true∧rk n≠0
     ·rw[if_pos hc]
      have hnn:=I.nn n
      by_cases hl:0<(gB cnt rk w m).L n
      ·have hnc:n<cnt (m+1):=by
        by_cases z:n<cnt (m+1)
        ·exact z
        ·have:=Y.hm m
         rw[I.new n (by omega)]at hc
         cases hc.1
       refine absurd ?_ (y2 n hnc hl (λz=>by rw[z,hb]at hc;cases hc.1))
       left
       rw[hc.1,hb]
       decide
      ·omega
     ·rw[if_neg hc]
    have hbl0:bl N cnt rk w m=0:=by
     unfold bl
     have:(List.range N).map (tb cnt rk w m)=(List.range N).map λ_=>(0:Int):=List.map_congr_left λn _=>hz n
     rw[this]
     generalize N=M
     induction M with
     | zero=>rfl
     | succ M ih=>rw[List.range_succ,List.map_append,List.sum_append,ih];rfl
    have hw0:=I.un n0 hb
    have hd:=Y.hD n0 hn0 hf
    refine⟨slb hf,?_,λj hj hc=>?_⟩
    ·rw[hbl,hbl0,t0,hw0]
     omega
    ·have hnn:=I.nn (nuF N rk j)
     have r2:rk (nuF N rk j)=0:=of_decide_eq_true (a0T (show j<KF N rk by omega)).2
     by_cases hl:0<(gB cnt rk w m).L (nuF N rk j)
     ·refine absurd ?_ (y2 _ hc hl (λz=>hf (by rw[←z];exact r2)))
      have hr1:=Y.hr n0
      unfold SN
      rw[hb,r2]
      cases(gB cnt rk w m).B (nuF N rk j) <;> simp[bI]
      left
      omega
     ·omega
 ·left
  have hno:∀n,¬pkG 1 3 true (cnt (m+1)) rk (gB cnt rk w m).L (gB cnt rk w m).B n=true:=λn z=>hex ⟨n,z⟩
  refine⟨?_,?_,λj hj hc=>?_⟩
  ·unfold SL
   congr 1
   refine List.map_congr_left λj hj=>?_
   rw[eL,if_neg (hno _)]
  ·unfold bl
   congr 1
   refine List.map_congr_left λn hn=>?_
   unfold tb
   rw[eL,eB,if_neg (hno _),if_neg (hno _)]
  ·have hnn:=I.nn (nuF N rk j)
   by_cases hl:0<(gB cnt rk w m).L (nuF N rk j)
   ·exact absurd (b2i ⟨hc,hl⟩) hex
   ·omega
end
end L3
namespace L3
open PySem L2
theorem a3X {h k:Nat}{kp:Bool}{cnt:Nat->Nat}{rk w:Nat->Int}{n:Nat}(h1:1≤w n):∀m,(0<(gS h k kp cnt rk w m).L n∧∀t,t≤m->0<(gS h k kp cnt rk w t).L n)∨((gS h k kp cnt rk w m).L n=0∧(gS h k kp cnt rk w ((gS h k kp cnt rk w m).M n)).L n=0∧∀t,t<(gS h k kp cnt rk w m).M n->0<(gS h k kp cnt rk w t).L n)
 | 0=>.inl ⟨by show 0<w n;omega,λt ht=>by
   have:t=0:=by omega
   subst this
   show 0<w n
   omega⟩
 | m+1=>by
  have eL:(gS h k kp cnt rk w (m+1)).L n=if pkG h k kp (cnt (m+1)) rk (gS h k kp cnt rk w m).L (gS h k kp cnt rk w m).B n=true then(gS h k kp cnt rk w m).L n-1 else(gS h k kp cnt rk w m).L n:=rfl
  have eM:(gS h k kp cnt rk w (m+1)).M n=if pkG h k kp (cnt (m+1)) rk (gS h k kp cnt rk w m).L (gS h k kp cnt rk w m).B n=true∧(gS h k kp cnt rk w m).L n≤1 then m+1 else(gS h k kp cnt rk w m).M n:=rfl
  rcases a3X (h:=h) (k:=k) (kp:=kp) (cnt:=cnt) (rk:=rk) h1 m with ⟨a1,a2⟩ | ⟨a1,a2,a3⟩
  ·by_cases hp:pkG h k kp (cnt (m+1)) rk (gS h k kp cnt rk w m).L (gS h k kp cnt rk w m).B n=true
   ·by_cases hl:(gS h k kp cnt rk w m).L n≤1
    ·right
     rw[eM,if_pos ⟨hp,hl⟩]
     have e0:(gS h k kp cnt rk w (m+1)).L n=0:=by rw[eL,if_pos hp];omega
     exact⟨e0,e0,λt ht=>a2 t (by omega)⟩
    ·left
     refine⟨by rw[eL,if_pos hp];omega,λt ht=>?_⟩
     by_cases e:t=m+1
     ·subst e;rw[eL,if_pos hp];omega
     ·exact a2 t (by omega)
   ·left
    refine⟨by rw[eL,if_neg hp];exact a1,λt ht=>?_⟩
    by_cases e:t=m+1
    ·subst e;rw[eL,if_neg hp];exact a1
    ·exact a2 t (by omega)
  ·right
   have hp:¬pkG h k kp (cnt (m+1)) rk (gS h k kp cnt rk w m).L (gS h k kp cnt rk w m).B n=true:=λz=>by have:=(a1K z).2;omega
   rw[eM,if_neg (λz=>hp z.1),eL,if_neg hp]
   exact⟨a1,a2,a3⟩
section
variable {N D:Nat}{cnt:Nat->Nat}{rk w:Nat->Int}
theorem a9l {c:Nat}{L:Nat->Int}{i j:Nat}(h1:pkd 1 c L i=true)(h2:pkd 1 c L j=true):i=j:=by
 have key:∀{i j:Nat},pkd 1 c L i=true->pkd 1 c L j=true->¬i<j:=λ{i j} h1 h2 hlt=>by
  obtain⟨a1,a2,_⟩:=D7 h1
  obtain⟨_,_,b3⟩:=D7 h2
  have hm:i∈(List.range j).filter (prs c L):=List.mem_filter.mpr ⟨List.mem_range.mpr hlt,by unfold prs;rw[decide_eq_true a1,decide_eq_true a2];rfl⟩
  have:=List.length_pos_of_mem hm
  omega
 rcases Nat.lt_trichotomy i j with h | h | h
 ·exact absurd h (key h1 h2)
 ·exact h
 ·exact absurd h (key h2 h1)
theorem a9h (Y:Hy N D cnt rk w){k m:Nat}(hk:k<KF N rk):SA N cnt rk w k m-1≤SA N cnt rk w k (m+1)∧((∀j,j≤k->nuF N rk j<cnt (m+1)->(gB cnt rk w m).L (nuF N rk j)=0)->SA N cnt rk w k (m+1)=SA N cnt rk w k m):=by
 have e1:∀j,fA N cnt rk w (m+1) j=if pkd 1 (cnF cnt rk (m+1)) (fL 1 (cnF cnt rk) (λk=>w (nuF N rk k)) m) j=true then fA N cnt rk w m j-1 else fA N cnt rk w m j:=λj=>rfl
 by_cases hex:∃j0,j0≤k∧pkd 1 (cnF cnt rk (m+1)) (fL 1 (cnF cnt rk) (λk=>w (nuF N rk k)) m) j0=true
 ·obtain⟨j0,hj0,hp⟩:=hex
  have:=a12 (N:=k+1) (n0:=j0) (f:=λj=>fA N cnt rk w m j) (g:=λj=>fA N cnt rk w (m+1) j) (by omega) (λj hne=>by
   show fA N cnt rk w (m+1) j=_
   rw[e1,if_neg (λz=>hne (a9l z hp))])
  have e2:fA N cnt rk w (m+1) j0=fA N cnt rk w m j0-1:=by rw[e1,if_pos hp]
  have this:SA N cnt rk w k (m+1)=SA N cnt rk w k m+(fA N cnt rk w (m+1) j0-fA N cnt rk w m j0):=this
  refine⟨by omega,λhz=>?_⟩
  obtain⟨a1,a2,_⟩:=D7 hp
  have h3:=lo Y m j0 (by omega)
  have h4:=hz j0 hj0 ((a2l (show j0<KF N rk by omega) (Y.hc _)).mpr a1)
  have a2:0<fA N cnt rk w m j0:=a2
  omega
 ·have:SA N cnt rk w k (m+1)=SA N cnt rk w k m:=by
   unfold SA
   congr 1
   refine List.map_congr_left λj hj=>?_
   have hj:=List.mem_range.mp hj
   rw[e1,if_neg (λz=>hex ⟨j,by omega,z⟩)]
  exact⟨by omega,λ_=>this⟩
theorem dl (Y:Hy N D cnt rk w){k:Nat}(hk:k<KF N rk):∀m,SL N cnt rk w k m-SA N cnt rk w k m+bl N cnt rk w m≤D
 | 0=>by
  have e1:SL N cnt rk w k 0=SA N cnt rk w k 0:=rfl
  have e2:bl N cnt rk w 0=0:=by
   unfold bl
   have:(List.range N).map (tb cnt rk w 0)=(List.range N).map λ_=>(0:Int):=List.map_congr_left λn _=>by unfold tb;rw[if_neg (λz=>by cases z.1)]
   rw[this]
   generalize N=M
   induction M with
   | zero=>rfl
   | succ M ih=>rw[List.range_succ,List.map_append,List.sum_append,ih];rfl
  omega
 | m+1=>by
  have ih:=dl Y hk m
  obtain⟨s1,s2⟩:=a9h (m:=m) Y hk
  rcases beat (m:=m) Y hk with ⟨a1,a2,a3⟩ | ⟨a1,a2 | ⟨a2,a3⟩⟩ | ⟨a1,a2⟩ | ⟨a1,a2,a3⟩
  ·have:=s2 a3
   omega
  ·omega
  ·have:=s2 a3
   omega
  ·omega
  ·have h4:=s2 a3
   have h5:SL N cnt rk w k m=SA N cnt rk w k m:=by
    unfold SL SA
    congr 1
    refine List.map_congr_left λj hj=>?_
    have hj:=List.mem_range.mp hj
    have I:=BI.at (rk:=rk) Y.hw Y.hm m
    by_cases hc:nuF N rk j<cnt (m+1)
    ·have h6:=a3 j (by omega) hc
     have h7:=lo Y m j (by omega)
     have h8:0≤fA N cnt rk w m j:=a2j (λk=>Y.hw _) _ _
     omega
    ·have hmm:=Y.hm m
     rw[I.un _ (I.new _ (by omega))]
     refine(a7H m j ?_ Y.hm).symm
     have h9:¬j<cnF cnt rk (m+1):=λz=>hc ((a2l (show j<KF N rk by omega) (Y.hc _)).mpr z)
     have:=a3t (rk:=rk) Y.hm m
     omega
   omega
theorem a6K (Y:Hy N D cnt rk w){k:Nat}:∀m j,j<k->fA N cnt rk w m k<w (nuF N rk k)->fA N cnt rk w m j=0
 | 0,j,_,h=>absurd h (Int.lt_irrefl _)
 | m+1,j,hj,h=>by
  have hdn:fA N cnt rk w (m+1) j≤fA N cnt rk w m j:=a5b m j
  have hnn:0≤fA N cnt rk w (m+1) j:=a2j (λk=>Y.hw _) _ _
  by_cases hlt:fA N cnt rk w m k<w (nuF N rk k)
  ·have:=a6K Y m j hj hlt
   omega
  ·have e1:fA N cnt rk w (m+1) k=if pkd 1 (cnF cnt rk (m+1)) (fL 1 (cnF cnt rk) (λk=>w (nuF N rk k)) m) k=true then fA N cnt rk w m k-1 else fA N cnt rk w m k:=rfl
   by_cases hp:pkd 1 (cnF cnt rk (m+1)) (fL 1 (cnF cnt rk) (λk=>w (nuF N rk k)) m) k=true
   ·obtain⟨a1,a2,a3⟩:=D7 hp
    by_cases hz:0<fA N cnt rk w m j
    ·have hm:j∈(List.range k).filter (prs (cnF cnt rk (m+1)) (fL 1 (cnF cnt rk) (λk=>w (nuF N rk k)) m)):=List.mem_filter.mpr ⟨List.mem_range.mpr hj,by unfold prs;rw[decide_eq_true (show j<cnF cnt rk (m+1) by omega),decide_eq_true hz];rfl⟩
     have:=List.length_pos_of_mem hm
     omega
    ·omega
   ·rw[e1,if_neg hp]at h
    exact absurd h hlt
theorem b0W (hm:∀m,cnt m≤cnt (m+1))(a t:Nat):cnt a≤cnt (a+t):=by
 induction t with
 | zero=>exact Nat.le_refl _
 | succ t ih=>exact Nat.le_trans ih (hm _)
theorem a51 (Y:Hy N D cnt rk w){m0 k:Nat}(h0:fA N cnt rk w m0 k=0):∀t,fA N cnt rk w (m0+t) k=0
 | 0=>h0
 | t+1=>by
  have:=a51 Y h0 t
  have hdn:fA N cnt rk w (m0+t+1) k≤fA N cnt rk w (m0+t) k:=a5b _ k
  have hnn:0≤fA N cnt rk w (m0+t+1) k:=a2j (λk=>Y.hw _) _ _
  show fA N cnt rk w (m0+t+1) k=0
  omega
theorem b30 (Y:Hy N D cnt rk w){k m0:Nat}(hk:k<KF N rk)(h0:fA N cnt rk w m0 k=0):(gB cnt rk w (m0+D)).L (nuF N rk k)=0:=by
 have hw1:=Y.h1 (nuF N rk k) (a0T hk).1
 have hall:∀j,j≤k->fA N cnt rk w m0 j=0:=λj hj=>by
  by_cases e:j=k
  ·rw[e];exact h0
  ·exact a6K Y (k:=k) m0 j (by omega) (by omega)
 have hsa:∀t,SA N cnt rk w k (m0+t)=0:=λt=>by
  unfold SA
  have:(List.range (k+1)).map (λj=>fA N cnt rk w (m0+t) j)=(List.range (k+1)).map λ_=>(0:Int):=List.map_congr_left λj hj=>by
   have hj:=List.mem_range.mp hj
   exact a51 Y (hall j (by omega)) t
  rw[this]
  generalize k+1=M
  induction M with
  | zero=>rfl
  | succ M ih=>rw[List.range_succ,List.map_append,List.sum_append,ih];rfl
 have harr:∀t j,j≤k->nuF N rk j<cnt (m0+t+1):=λt j hj=>by
  have hkc:nuF N rk k<cnt m0:=by
   rw[a2l hk (Y.hc _)]
   by_cases z:k<cnF cnt rk m0
   ·exact z
   ·have:=a7H (N:=N) (w:=w) (rk:=rk) m0 k (by omega) Y.hm
    omega
  have h2:=b0W Y.hm m0 (t+1)
  have h3:nuF N rk j≤nuF N rk k:=by
   by_cases e:j=k
   ·rw[e];exact Nat.le_refl _
   ·exact Nat.le_of_lt (X8 (N:=N) (q:=isF rk) (by omega) hk)
  exact Nat.lt_of_le_of_lt h3 (Nat.lt_of_lt_of_le hkc h2)
 have hbn:∀m,0≤bl N cnt rk w m:=λm=>a6H (b22 Y m)
 have main:∀t,0<SL N cnt rk w k (m0+t)->SL N cnt rk w k (m0+t)+bl N cnt rk w (m0+t)+t≤D:=λt=>by
  induction t with
  | zero =>
   intro _
   have h1:=dl Y hk m0
   have h2:=hsa 0
   have h2:SA N cnt rk w k m0=0:=h2
   show SL N cnt rk w k m0+bl N cnt rk w m0+0≤D
   omega
  | succ t ih =>
   intro hp
   have hp:0<SL N cnt rk w k (m0+t+1):=hp
   have goal:SL N cnt rk w k (m0+t+1)+bl N cnt rk w (m0+t+1)+((t+1:Nat):Int)≤D:=by
    have none_in:(∀j,j≤k->nuF N rk j<cnt (m0+t+1)->(gB cnt rk w (m0+t)).L (nuF N rk j)=0)->¬0<SL N cnt rk w k (m0+t):=λhz hs=>by
     obtain⟨j,hj,hl⟩:=a8z hs
     have:=hz j (by omega) (harr t j (by omega))
     omega
    rcases beat (m:=m0+t) Y hk with ⟨a1,a2,a3⟩ | ⟨a1,a2 | ⟨a2,a3⟩⟩ | ⟨a1,a2⟩ | ⟨a1,a2,a3⟩
    ·exact absurd (show 0<SL N cnt rk w k (m0+t) by omega) (none_in a3)
    ·have:=ih (by omega)
     omega
    ·exact absurd (show 0<SL N cnt rk w k (m0+t) by omega) (none_in a3)
    ·have:=ih (by omega)
     omega
    ·exact absurd (show 0<SL N cnt rk w k (m0+t) by omega) (none_in a3)
   exact goal
 have hz:¬0<SL N cnt rk w k (m0+D):=λz=>by
  have h1:=main D z
  have h2:=hbn (m0+D)
  omega
 have I:=BI.at (rk:=rk) Y.hw Y.hm (m0+D)
 have h3:=b0I (f:=λj=>(gB cnt rk w (m0+D)).L (nuF N rk j)) (N:=k+1) (n:=k) (λj=>I.nn _) (by omega)
 have h4:=I.nn (nuF N rk k)
 have h3:(gB cnt rk w (m0+D)).L (nuF N rk k)≤SL N cnt rk w k (m0+D):=h3
 omega
theorem a66 (Y:Hy N D cnt rk w){k m1 m2:Nat}(hk:k<KF N rk)(e1:(gB cnt rk w m1).L (nuF N rk k)=0)(e2:fA N cnt rk w m2 k=0) :
  fM 1 (cnF cnt rk) (λk=>w (nuF N rk k)) m2 k≤(gB cnt rk w m1).M (nuF N rk k)∧(gB cnt rk w m1).M (nuF N rk k)≤fM 1 (cnF cnt rk) (λk=>w (nuF N rk k)) m2 k+D:=by
 have hw1:=Y.h1 (nuF N rk k) (a0T hk).1
 rcases a3X (h:=1) (k:=3) (kp:=true) (cnt:=cnt) (rk:=rk) hw1 m1 with ⟨z,_⟩ | ⟨_,a2,a3⟩
 ·exact absurd e1 (by have z:0<(gB cnt rk w m1).L (nuF N rk k):=z;omega)
 rcases Y5 (h:=1) (cnt:=cnF cnt rk) (w:=λk=>w (nuF N rk k)) (λk=>Y.hw _) k hw1 m2 with ⟨z,_,_⟩ | ⟨_,b2,b3⟩
 ·exact absurd e2 (by have z:0<fA N cnt rk w m2 k:=z;omega)
 refine⟨?_,?_⟩
 ·by_cases hlt:(gB cnt rk w m1).M (nuF N rk k)<fM 1 (cnF cnt rk) (λk=>w (nuF N rk k)) m2 k
  ·have h1:=b3 _ hlt
   have h2:=lo Y ((gB cnt rk w m1).M (nuF N rk k)) k hk
   have h1:0<fA N cnt rk w ((gB cnt rk w m1).M (nuF N rk k)) k:=h1
   have a2:(gB cnt rk w ((gB cnt rk w m1).M (nuF N rk k))).L (nuF N rk k)=0:=a2
   omega
  ·omega
 ·have hl:=b30 Y hk (m0:=fM 1 (cnF cnt rk) (λk=>w (nuF N rk k)) m2 k) b2
  by_cases hlt:fM 1 (cnF cnt rk) (λk=>w (nuF N rk k)) m2 k+D<(gB cnt rk w m1).M (nuF N rk k)
  ·have h1:=a3 _ hlt
   have h1:0<(gB cnt rk w (fM 1 (cnF cnt rk) (λk=>w (nuF N rk k)) m2 k+D)).L (nuF N rk k):=h1
   omega
  ·omega
end
end L3
namespace L3
open PySem L2
theorem a74 {h c:Nat}{rk L w:Nat->Int}(F:Fi L w)(n:Nat):pkG h 0 true c rk L (λn=>decide (L n<w n)) n=pkd h c L n:=by
 by_cases hm:n<c∧0<L n
 ·obtain⟨i,hi,rfl⟩:=List.mem_iff_getElem.mp (q5.mpr hm)
  rw[a1p hi,a9s hi,decide_eq_decide]
  exact⟨λz=>((a1i F i).mp z).2,λz=>(a1i F i).mpr ⟨hi,z⟩⟩
 ·rw[Bool.eq_iff_iff]
  exact⟨λz=>absurd (a1K z) hm,λz=>absurd ⟨(D7 z).1,(D7 z).2.1⟩ hm⟩
theorem a3v {h:Nat}{cnt:Nat->Nat}{rk w:Nat->Int}:∀m,(gS h 0 true cnt rk w m).L=fL h cnt w m∧(gS h 0 true cnt rk w m).B=(λn=>decide (fL h cnt w m n<w n))∧(gS h 0 true cnt rk w m).M=fM h cnt w m
 | 0=>⟨rfl,by funext n;exact(decide_eq_false (Int.lt_irrefl _)).symm,rfl⟩
 | m+1=>by
  obtain⟨e1,e2,e3⟩:=a3v (h:=h) (cnt:=cnt) (rk:=rk) (w:=w) m
  have F:=a9Z (h:=h) (cnt:=cnt) (w:=w) m
  have hp:=λn=>a74 (h:=h) (c:=cnt (m+1)) (rk:=rk) F n
  refine⟨?_,?_,?_⟩
  ·funext n
   show nxL _ _ _ _ _ _ _ n=nxt _ _ _ n
   unfold nxL nxt
   rw[e1,e2,hp]
  ·funext n
   show nxB _ _ _ _ _ _ _ n=decide (nxt _ _ _ n<w n)
   unfold nxB nxt
   rw[e1,e2,hp]
   by_cases hk:pkd h (cnt (m+1)) (fL h cnt w m) n=true
   ·rw[if_pos hk,if_pos hk]
    have:=F.le n
    exact(decide_eq_true (by omega)).symm
   ·rw[if_neg hk,if_neg hk]
  ·funext n
   show(if _ then m+1 else _)=fM h cnt w (m+1) n
   rw[e1,e2,e3,hp,fM]
end L3
namespace K29
open PySem L2 L3
noncomputable def top (i:Nat):Stmt:=PySem.Challenge.pw_hatchwaits_k29_whole_front_alone.main.body.getD i (.Pass ⟨0,0,0,0⟩)
noncomputable instance famI:Fam:=b2U ["lined_up","picked"]
noncomputable abbrev s_numbered:Stmt:=top 1
noncomputable abbrev s_told_way:Stmt:=top 2
noncomputable abbrev s_front_alone:Stmt:=top 3
noncomputable abbrev s_keeps:Stmt:=top 6
noncomputable abbrev s_let_in:Stmt:=top 8
noncomputable abbrev s_lined_up:Stmt:=top 9
noncomputable abbrev s_picked:Stmt:=top 10
noncomputable abbrev s_worked:Stmt:=top 11
noncomputable abbrev s_step:Stmt:=top 12
noncomputable abbrev s_run:Stmt:=top 14
noncomputable abbrev s_after_beat:Stmt:=top 15
noncomputable abbrev s_courses:Stmt:=top 16
noncomputable abbrev s_drained:Stmt:=top 17
noncomputable abbrev s__law_feed:Stmt:=top 19
noncomputable abbrev s__law_next:Stmt:=top 20
noncomputable abbrev s__law_way:Stmt:=top 21
noncomputable abbrev s__law_light_way:Stmt:=top 22
noncomputable abbrev s__law_gone:Stmt:=top 23
noncomputable abbrev s_law:Stmt:=top 24
structure Txt (K:PySem.W.Frag) (mg:Str->Option Value):Prop where
 enumerate:mg "enumerate" = none
 len:mg "len" = none
 list:mg "list" = none
 max:mg "max" = none
 min:mg "min" = none
 range:mg "range" = none
 sorted:mg "sorted" = none
 tuple:mg "tuple" = none
 g_KEEPING:GD K mg "KEEPING" (.tuple [.str "first",.str "last",.str "short",.str "front"])
noncomputable section
variable {P:Program}{w:World}{K:PySem.W.Frag}{mg:Str->Option Value}{base:Heap}
theorem G3:FnScope ["way","rows","number","beat"] ["way"] (defScope s_numbered):=⟨rfl,rfl,rfl,by decide +kernel,rfl,by decide +kernel,by decide +kernel⟩
noncomputable def f_numbered:List DV->M PyData:=B9 ["way","rows","number","beat"] (mSq (a01 1 (K3 d7))
  (mSq (q4 2 (sC (.int 0)))
  (mSq (O0 (B5 (sV 0)) (bN 3) (mSq (O6 1 (sLC (Q5 (sW 3)) 2 [2] (w4 2 (d6 (bN 0) (d6 (bN 1) w8))) E8 (z8 (a7 (sV 1) (a7 (s2 C3 (sW 2) (sW 0)) d7)))))
  (a1X (λi j=>i+j) 2 (sN D2 (a7 (sW 3) d7)))))
  (mRt (sW 1)))))
theorem ok_numbered {f:Addr}{fd:FuncData}(Fn:Fun K "numbered" "numbered" s_numbered f fd)(T:Txt K mg) :FnOk P w K mg base CX0 1 f fd ["way"] (spD K 1 f_numbered):=by
 refine D3 Fn G3 λcdv A outer s H E hr=>?_
 have hu5:(A.deeper (PyProof.Rows.envOfC "numbered" (defScope s_numbered) s.heap.objs.size f cdv)).units+65<cLine:=by have:=hr.un;omega
 exact⟨_,(c8 (a1V 1 G3.nd (L6 j6))
   (c8 (p0 2 G3.nd i5)
   (c8 (O3 rfl (a0f (i9 0)) (m7 (i:=3) G3.nd) (c8 (R4 1 rfl (U2 (osc:=(defScope s_numbered)) (N:=["place","comer","number"]) (k:=2) (cap:=[2]) rfl rfl ⟨rfl,by decide +kernel,by decide +kernel,by decide +kernel,rfl,rfl,by decide +kernel⟩ (a3B (f9 3) T.enumerate) (λcl C ex pins s H=>(v8 (n:=2) rfl (d5 (m7 (i:=0) (show List.Nodup (["place","comer","number"]:List Str) by decide +kernel)) (d5 (m7 (i:=1) (show List.Nodup (["place","comer","number"]:List Str) by decide +kernel)) p9)))) (λcl C ex pins s H=>z9) (λcl C ex pins s H=>(z7 (d0 (i9 1) (d0 (z4 (C9 rfl) (f9 2) (f9 0)) j6))))))
   (l0 (a2G 2 G3.nd (n9 (E9 rfl) T.len F0 (i7 (f9 3) l6))))))
   (l0 (a5x 1)))))⟩
theorem a0E:FnScope ["rows","way"] ["rows"] (defScope s_told_way):=⟨rfl,rfl,rfl,by decide +kernel,rfl,by decide +kernel,by decide +kernel⟩
noncomputable def f_told_way:List DV->M PyData:=B9 ["rows","way"] (mSq (q4 1 (sN m4 (a7 (sLC (B5 (sW 0)) 1 [] (bN 0) E8 (sN m4 (a7 (sLC (B5 (sW 0)) 2 [] (w4 2 (d6 (bN 0) (d6 (bN 1) w8))) E8 (sV 0)) d7))) d7)))
  (mRt (z8 (a7 (sV 1) (a7 (sN m4 (a7 (a8G (B5 (sW 0)) 3 [] (bN 0) E8 (B5 (sV 0)) (w4 2 (d6 (bN 1) (d6 (bN 2) w8))) E8 (sV 2)) d7)) d7)))))
theorem ok_told_way {f:Addr}{fd:FuncData}(Fn:Fun K "told_way" "told_way" s_told_way f fd)(T:Txt K mg) :FnOk P w K mg base CX0 1 f fd ["rows"] (spD K 1 f_told_way):=by
 refine D3 Fn a0E λcdv A outer s H E hr=>?_
 have hu5:(A.deeper (PyProof.Rows.envOfC "told_way" (defScope s_told_way) s.heap.objs.size f cdv)).units+65<cLine:=by have:=hr.un;omega
 exact⟨_,(c8 (p0 1 a0E.nd (u0 (u4 rfl) T.tuple u5 (i7 (Ev.bw (U2 (osc:=(defScope s_told_way)) (N:=["row"]) (k:=1) (cap:=[]) rfl rfl ⟨rfl,by decide +kernel,by decide +kernel,by decide +kernel,rfl,rfl,by decide +kernel⟩ (A0 (f9 0)) (λcl C ex pins s H=>(m7 (i:=0) (show List.Nodup (["row"]:List Str) by decide +kernel))) (λcl C ex pins s H=>z9) (λcl C ex pins s H=>(u0 (u4 rfl) T.tuple u5 (i7 (Ev.bw (a48 (N:=["comer","number"]) (k:=2) (cap:=[]) rfl ⟨rfl,by decide +kernel,by decide +kernel,by decide +kernel,rfl,rfl,by decide +kernel⟩ (A0 (f9 0)) (λcl C ex pins s H=>(v8 (n:=2) rfl (d5 (m7 (i:=0) (show List.Nodup (["comer","number"]:List Str) by decide +kernel)) (d5 (m7 (i:=1) (show List.Nodup (["comer","number"]:List Str) by decide +kernel)) p9)))) (λcl C ex pins s H=>z9) (λcl C ex pins s H=>(i9 0)))) l6))))) l6)))
   (l0 (y0 (z7 (d0 (i9 1) (d0 (u0 (u4 rfl) T.tuple u5 (i7 (Ev.bw (b1b (osc:=(defScope s_told_way)) (N:=["row","comer","number"]) (k:=3) (cap:=[]) rfl rfl ⟨rfl,by decide +kernel,by decide +kernel,by decide +kernel,rfl,rfl,by decide +kernel⟩ (A0 (f9 0)) (λcl C ex pins s H=>(m7 (i:=0) (show List.Nodup (["row","comer","number"]:List Str) by decide +kernel))) (λcl C ex pins s H=>z9) (λcl C ex pins s H=>(a0f (i9 0))) (λcl C ex pins s H=>(v8 (n:=2) rfl (d5 (m7 (i:=1) (show List.Nodup (["row","comer","number"]:List Str) by decide +kernel)) (d5 (m7 (i:=2) (show List.Nodup (["row","comer","number"]:List Str) by decide +kernel)) p9)))) (λcl C ex pins s H=>z9) (λcl C ex pins s H=>(i9 2)))) l6)) j6))))))⟩
theorem a1y:FnScope ["way"] ["way"] (defScope s_front_alone):=⟨rfl,rfl,rfl,by decide +kernel,rfl,by decide +kernel,by decide +kernel⟩
noncomputable def f_front_alone:List DV->M PyData:=B9 ["way"] (mRt (k4 f_told_way (vD (sLC (B5 (k4 f_numbered (vD (sV 0) r9))) 1 [] (bN 0) E8 (sLC (B5 (sW 0)) 1 [] (bN 0) (uB (s2 (eqD false) (s2 ixD (s2 ixD (sW 0) (sC (.int 0))) (sC (.int 0))) (sC (.int 0)))) (sV 0))) r9)))
theorem ok_front_alone {f:Addr}{fd:FuncData}(Fn:Fun K "front_alone" "front_alone" s_front_alone f fd)(T:Txt K mg)(C_told_way:Callee P w K mg base "told_way" 1 ["rows"] (spD K 1 f_told_way))(C_numbered:Callee P w K mg base "numbered" 1 ["way"] (spD K 1 f_numbered)):FnOk P w K mg base CX0 2 f fd ["way"] (spD K 1 f_front_alone):=by
 refine D3 Fn a1y λcdv A outer s H E hr=>?_
 have hu5:(A.deeper (PyProof.Rows.envOfC "front_alone" (defScope s_front_alone) s.heap.objs.size f cdv)).units+65<cLine:=by have:=hr.un;omega
 exact⟨_,(l0 (y0 (l3 C_told_way (hr.mono (by decide)) (p7 (U2 (osc:=(defScope s_front_alone)) (N:=["row"]) (k:=1) (cap:=[]) rfl rfl ⟨rfl,by decide +kernel,by decide +kernel,by decide +kernel,rfl,rfl,by decide +kernel⟩ (A0 (Ev.bw (l3 C_numbered (hr.mono (by decide)) (p7 (i9 0) n4) (p6 n5)))) (λcl C ex pins s H=>(m7 (i:=0) (show List.Nodup (["row"]:List Str) by decide +kernel))) (λcl C ex pins s H=>z9) (λcl C ex pins s H=>(a48 (N:=["entry"]) (k:=1) (cap:=[]) rfl ⟨rfl,by decide +kernel,by decide +kernel,by decide +kernel,rfl,rfl,by decide +kernel⟩ (A0 (f9 0)) (λcl C ex pins s H=>(m7 (i:=0) (show List.Nodup (["entry"]:List Str) by decide +kernel))) (λcl C ex pins s H=>(a0Z (y9 (a2g rfl hr.units) (Ev.bw (y6 (y4 rfl) (Ev.bw (y6 (y4 rfl) (f9 0) (Ev.bw i5))) (Ev.bw i5))) (Ev.bw i5)))) (λcl C ex pins s H=>(i9 0))))) n4) (p6 n5))))⟩
theorem a84:FnScope ["rule"] ["rule"] (defScope s_keeps):=⟨rfl,rfl,rfl,by decide +kernel,rfl,by decide +kernel,by decide +kernel⟩
noncomputable def f_keeps:List DV->M PyData:=B9 ["rule"] (mRt (s2 (inD false) (sW 0) (sC (.tuple [.str "first",.str "last",.str "short",.str "front"]))))
theorem ok_keeps {f:Addr}{fd:FuncData}(Fn:Fun K "keeps" "keeps" s_keeps f fd)(T:Txt K mg) :FnOk P w K mg base CX0 1 f fd ["rule"] (spD K 1 f_keeps):=by
 refine D3 Fn a84 λcdv A outer s H E hr=>?_
 have hu5:(A.deeper (PyProof.Rows.envOfC "keeps" (defScope s_keeps) s.heap.objs.size f cdv)).units+65<cLine:=by have:=hr.un;omega
 exact⟨_,(l0 (y0 (a4U (a2d rfl hu5) (f9 0) (Ev.bw (b3e T.g_KEEPING)))))⟩
theorem T6:FnScope ["house","stand","beat","places","room","entered"] ["house","stand","beat"] (defScope s_let_in):=⟨rfl,rfl,rfl,by decide +kernel,rfl,by decide +kernel,by decide +kernel⟩
noncomputable def f_let_in:List DV->M PyData:=B9 ["house","stand","beat","places","room","entered"] (mSq (q4 3 (s2 ixD (sW 0) (sC (.int 1))))
  (mSq (q4 4 (sIf (uB (s2 (isD false) (sW 3) (sC .none))) (sN D2 (a7 (sW 2) d7)) (s2 a00 (sW 3) (sN D2 (a7 (sW 1) d7)))))
  (mSq (q4 5 (sLC (B5 (a2M (sW 2) oNo (oI (sV 4)))) 2 [] (w4 2 (d6 (bN 0) (d6 (bN 1) w8))) E8 (z8 (a7 (sV 0) (a7 (sV 1) (a7 (sC (.bool false)) d7))))))
  (mRt (z8 (a7 (s2 C3 (sW 1) (sN m4 (a7 (sW 5) d7))) (a7 (s2 a00 (sN D2 (a7 (sW 2) d7)) (sN D2 (a7 (sW 5) d7))) d7)))))))
theorem ok_let_in {f:Addr}{fd:FuncData}(Fn:Fun K "let_in" "let_in" s_let_in f fd)(T:Txt K mg) :FnOk P w K mg base CX0 1 f fd ["house","stand","beat"] (spD K 3 f_let_in):=by
 refine D3 Fn T6 λcdv A outer s H E hr=>?_
 have hu5:(A.deeper (PyProof.Rows.envOfC "let_in" (defScope s_let_in) s.heap.objs.size f cdv)).units+65<cLine:=by have:=hr.un;omega
 exact⟨_,(c8 (p0 3 T6.nd (y6 (y4 rfl) (f9 0) (Ev.bw i5)))
   (c8 (p0 4 T6.nd (a3z (y9 b01 (f9 3) (Ev.bw a0u)) (n9 (E9 rfl) T.len F0 (i7 (f9 2) l6)) (z4 a0s (f9 3) (Ev.bw (n9 (E9 rfl) T.len F0 (i7 (f9 1) l6))))))
   (c8 (a1Q 5 (hN:=T6.nd) (osc:=(defScope s_let_in)) (N:=["rank","work"]) (k:=2) (cap:=[]) (hc:=rfl) (hosc:=rfl) (hcap:=⟨rfl,by decide +kernel,by decide +kernel,by decide +kernel,rfl,rfl,by decide +kernel⟩) (A0 (Ev.bw (a7x (f9 2) a9K (b20 (i9 4))))) (λcl C ex pins s H=>(v8 (n:=2) rfl (d5 (m7 (i:=0) (show List.Nodup (["rank","work"]:List Str) by decide +kernel)) (d5 (m7 (i:=1) (show List.Nodup (["rank","work"]:List Str) by decide +kernel)) p9)))) (λcl C ex pins s H=>z9) (λcl C ex pins s H=>(z7 (d0 (i9 0) (d0 (i9 1) (d0 a6S j6))))))
   (l0 (y0 (z7 (d0 (z4 (C9 rfl) (f9 1) (Ev.bw (u0 (u4 rfl) T.tuple u5 (i7 (f9 5) l6)))) (d0 (z4 a0s (Ev.bw (n9 (E9 rfl) T.len F0 (i7 (f9 2) l6))) (Ev.bw (n9 (E9 rfl) T.len F0 (i7 (f9 5) l6)))) j6))))))))⟩
theorem a0z:FnScope ["rule","stand","places"] ["rule","stand"] (defScope s_lined_up):=⟨rfl,rfl,rfl,by decide +kernel,rfl,by decide +kernel,by decide +kernel⟩
noncomputable def f_lined_up:List DV->M PyData:=B9 ["rule","stand","places"] (mSq (q4 2 (a0o (a7 (sN D2 (a7 (sW 1) d7)) d7)))
  (mSq (mIf (uB (s2 (inD false) (sW 0) (sC (.tuple [.str "last",.str "lastoff"])))) (mRt (s1 a6f (sW 2))) mNx)
  (mSq (mIf (uB (s2 (inD false) (sW 0) (sC (.tuple [.str "short",.str "shortoff"])))) (mRt (sSK (a7 (sV 2) d7) [1] (s2 ixD (s2 ixD (sW 1) (sW 0)) (sC (.int 1))))) mNx)
  (mSq (mIf (uB (s2 (inD false) (sW 0) (sC (.tuple [.str "front",.str "frontoff"])))) (mRt (sSK (a7 (sV 2) d7) [1] (s2 ixD (s2 ixD (sW 1) (sW 0)) (sC (.int 0))))) mNx)
  (mRt (sV 2))))))
theorem ok_lined_up {f c P0:Addr}{fd:FuncData}(Fn:Fun K "lined_up" "lined_up" s_lined_up f fd)(T:Txt K mg)(LB:LamB K mg base "lined_up" fd c P0) :FnOk P w K mg base CX0 1 f fd ["rule","stand"] (spD K 2 f_lined_up):=by
 refine a5a Fn a0z λcdv A outer s H E hcd hr=>?_
 obtain rfl:cdv = .ref c:=hcd.symm.trans LB.code
 have hu5:(A.deeper (PyProof.Rows.envOfC "lined_up" (defScope s_lined_up) s.heap.objs.size f (.ref c))).units+65<cLine:=by have:=hr.un;omega
 exact⟨_,(c8 (p0 2 a0z.nd (a3d (d0 (n9 (E9 rfl) T.len F0 (i7 (f9 1) l6)) j6) rfl T.range T.list a13))
   (c8 (W7 (y9 (a2d rfl hu5) (f9 0) (Ev.bw (X5 (.tuple [.str "last",.str "lastoff"]) rfl))) (l0 (y0 (b0R (f9 2)))) R8)
   (c8 (W7 (y9 (a2d rfl hu5) (f9 0) (Ev.bw (X5 (.tuple [.str "short",.str "shortoff"]) rfl))) (l0 (y0 (a76 (osc:=(defScope s_lined_up)) (N:=["place","stand"]) (cap:=[1]) (y:="place") LB rfl T.sorted hr rfl (d0 (i9 2) j6) rfl ⟨rfl,rfl,rfl,by decide +kernel,rfl,rfl,by decide +kernel,rfl,rfl,by decide +kernel⟩ rfl rfl (λcl f c' Y s H=>(y6 (y4 rfl) (Ev.bw (y6 (y4 rfl) (f9 1) (f9 0))) (Ev.bw i5)))))) R8)
   (c8 (W7 (y9 (a2d rfl hu5) (f9 0) (Ev.bw (X5 (.tuple [.str "front",.str "frontoff"]) rfl))) (l0 (y0 (a76 (osc:=(defScope s_lined_up)) (N:=["place","stand"]) (cap:=[1]) (y:="place") LB rfl T.sorted hr rfl (d0 (i9 2) j6) rfl ⟨rfl,rfl,rfl,by decide +kernel,rfl,rfl,by decide +kernel,rfl,rfl,by decide +kernel⟩ rfl rfl (λcl f c' Y s H=>(y6 (y4 rfl) (Ev.bw (y6 (y4 rfl) (f9 1) (f9 0))) (Ev.bw i5)))))) R8)
   (l0 (y0 (i9 2)))))))⟩
theorem J4:FnScope ["house","stand","hands","places","rule","order"] ["house","stand"] (defScope s_picked):=⟨rfl,rfl,rfl,by decide +kernel,rfl,by decide +kernel,by decide +kernel⟩
noncomputable def f_picked:List DV->M PyData:=B9 ["house","stand","hands","places","rule","order"] (mSq (M1 (w4 3 (d6 (bN 2) (d6 (bN 3) (d6 (bN 4) w8)))) (sV 0))
  (mSq (q4 5 (k4 f_lined_up (vD (sV 4) (vD (sV 1) r9))))
  (mSq (mIf (uT (k4 f_keeps (vD (sV 4) r9))) (q4 5 (sSK (a7 (sV 5) d7) [1] (a7Z (s2 ixD (s2 ixD (sW 1) (sW 0)) (sC (.int 2)))))) mNx)
  (mRt (sN m4 (a7 (sN P7 (a7 (a2M (sW 5) oNo (oI (sV 2))) d7)) d7))))))
theorem ok_picked {f c P0:Addr}{fd:FuncData}(Fn:Fun K "picked" "picked" s_picked f fd)(T:Txt K mg)(LB:LamB K mg base "picked" fd c P0)(C_lined_up:Callee P w K mg base "lined_up" 1 ["rule","stand"] (spD K 2 f_lined_up))(C_keeps:Callee P w K mg base "keeps" 1 ["rule"] (spD K 1 f_keeps)):FnOk P w K mg base CX0 2 f fd ["house","stand"] (spD K 2 f_picked):=by
 refine a5a Fn J4 λcdv A outer s H E hcd hr=>?_
 obtain rfl:cdv = .ref c:=hcd.symm.trans LB.code
 have hu5:(A.deeper (PyProof.Rows.envOfC "picked" (defScope s_picked) s.heap.objs.size f (.ref c))).units+65<cLine:=by have:=hr.un;omega
 exact⟨_,(c8 (N7 (i9 0) (v8 (n:=3) rfl (d5 (m7 (i:=2) J4.nd) (d5 (m7 (i:=3) J4.nd) (d5 (m7 (i:=4) J4.nd) p9)))))
   (c8 (p0 5 J4.nd (l3 C_lined_up (hr.mono (by decide)) (p7 (i9 4) (p7 (i9 1) n4)) (p6 (p6 n5))))
   (c8 (W7 (a6P (Ev.bw (l3 C_keeps (hr.mono (by decide)) (p7 (i9 4) n4) (p6 n5)))) (l0 (p0 5 J4.nd (a76 (osc:=(defScope s_picked)) (N:=["place","stand"]) (cap:=[1]) (y:="place") LB rfl T.sorted hr rfl (d0 (i9 5) j6) rfl ⟨rfl,rfl,rfl,by decide +kernel,rfl,rfl,by decide +kernel,rfl,rfl,by decide +kernel⟩ rfl rfl (λcl f c' Y s H=>(b19 (y6 (y4 rfl) (Ev.bw (y6 (y4 rfl) (f9 1) (f9 0))) (Ev.bw i5))))))) R8)
   (l0 (y0 (u0 (u4 rfl) T.tuple u5 (i7 (Ev.bw (n9 (a2t rfl) T.sorted a2o (i7 (Ev.bw (a7x (f9 5) a9K (b20 (i9 2)))) l6))) l6)))))))⟩
theorem z6:FnScope ["house","stand","rule","hands_on","waiting","served","gone","place","rank","left","begun","staying"] ["house","stand"] (defScope s_worked):=⟨rfl,rfl,rfl,by decide +kernel,rfl,by decide +kernel,by decide +kernel⟩
noncomputable def f_worked:List DV->M PyData:=B9 ["house","stand","rule","hands_on","waiting","served","gone","place","rank","left","begun","staying"] (mSq (q4 2 (s2 ixD (sW 0) (sC (.int 2))))
  (mSq (q4 3 (k4 f_picked (vD (sV 0) (vD (sV 1) r9))))
  (mSq (q4 4 (sLC (Q5 (sW 1)) 2 [3] (w4 2 (d6 (bN 0) (d6 (bN 1) w8))) (uB (s2 (inD true) (sW 0) (sW 2))) (z8 (a7 (sV 0) (a7 (sV 1) d7)))))
  (mSq (a0J 5 6 (cO (K3 d7)) (cO (K3 d7)))
  (mSq (O0 (B5 (sV 3)) (bN 7) (mSq (M1 (w4 3 (d6 (bN 8) (d6 (bN 9) (d6 (bN 10) w8)))) (s2 ixD (sW 1) (sW 7)))
  (mIf (uB (s2 gtD (sW 9) (sC (.int 1)))) (O6 5 (z8 (a7 (sV 7) (a7 (z8 (a7 (sV 8) (a7 (s2 a00 (sW 9) (sC (.int 1))) (a7 (k4 f_keeps (vD (sV 2) r9)) d7)))) d7)))) (O6 6 (sV 7)))))
  (mSq (q4 11 (sIf (uB (s2 (eqD false) (sW 2) (sC (.str "turns")))) (s2 C3 (sW 4) (sW 5)) (sN P7 (a7 (s2 C3 (sW 4) (sW 5)) d7))))
  (mRt (z8 (a7 (sV 11) (a7 (sV 3) (a7 (sN m4 (a7 (sW 6) d7)) d7)))))))))))
theorem ok_worked {f:Addr}{fd:FuncData}(Fn:Fun K "worked" "worked" s_worked f fd)(T:Txt K mg)(C_picked:Callee P w K mg base "picked" 2 ["house","stand"] (spD K 2 f_picked))(C_keeps:Callee P w K mg base "keeps" 1 ["rule"] (spD K 1 f_keeps)):FnOk P w K mg base CX0 3 f fd ["house","stand"] (spD K 2 f_worked):=by
 refine D3 Fn z6 λcdv A outer s H E hr=>?_
 have hu5:(A.deeper (PyProof.Rows.envOfC "worked" (defScope s_worked) s.heap.objs.size f cdv)).units+65<cLine:=by have:=hr.un;omega
 exact⟨_,(c8 (p0 2 z6.nd (y6 (y4 rfl) (f9 0) (Ev.bw i5)))
   (c8 (p0 3 z6.nd (l3 C_picked (hr.mono (by decide)) (p7 (i9 0) (p7 (i9 1) n4)) (p6 (p6 n5))))
   (c8 (a1Q 4 (hN:=z6.nd) (osc:=(defScope s_worked)) (N:=["place","person","hands_on"]) (k:=2) (cap:=[3]) (hc:=rfl) (hosc:=rfl) (hcap:=⟨rfl,by decide +kernel,by decide +kernel,by decide +kernel,rfl,rfl,by decide +kernel⟩) (a3B (f9 1) T.enumerate) (λcl C ex pins s H=>(v8 (n:=2) rfl (d5 (m7 (i:=0) (show List.Nodup (["place","person","hands_on"]:List Str) by decide +kernel)) (d5 (m7 (i:=1) (show List.Nodup (["place","person","hands_on"]:List Str) by decide +kernel)) p9)))) (λcl C ex pins s H=>(a0Z (y9 (a3p rfl hu5) (f9 0) (f9 2)))) (λcl C ex pins s H=>(z7 (d0 (i9 0) (d0 (i9 1) j6)))))
   (c8 (a8P 5 6 rfl z6.nd (a6i (L6 j6)) (a6i (L6 j6)))
   (c8 (O3 rfl (a0f (i9 3)) (m7 (i:=7) z6.nd) (c8 (N7 (y6 (y4 rfl) (f9 1) (f9 7)) (v8 (n:=3) rfl (d5 (m7 (i:=8) z6.nd) (d5 (m7 (i:=9) z6.nd) (d5 (m7 (i:=10) z6.nd) p9)))))
   (l0 (W7 (y9 a7i (f9 9) (Ev.bw i5)) (l0 (R4 5 rfl (z7 (d0 (i9 7) (d0 (z7 (d0 (i9 8) (d0 (z4 a0s (f9 9) (Ev.bw i5)) (d0 (l3 C_keeps (hr.mono (by decide)) (p7 (i9 2) n4) (p6 n5)) j6)))) j6))))) (l0 (R4 6 rfl (i9 7)))))))
   (c8 (p0 11 z6.nd (a3z (y9 (a2g rfl hr.units) (f9 2) (Ev.bw P9)) (z4 (C9 rfl) (f9 4) (f9 5)) (n9 (a2t rfl) T.sorted a2o (i7 (Ev.bw (z4 (C9 rfl) (f9 4) (f9 5))) l6))))
   (l0 (y0 (z7 (d0 (i9 11) (d0 (i9 3) (d0 (u0 (u4 rfl) T.tuple u5 (i7 (f9 6) l6)) j6))))))))))))⟩
theorem S9:FnScope ["house","stand","beat","filled","lost","staying","hands_on","gone"] ["house","stand","beat"] (defScope s_step):=⟨rfl,rfl,rfl,by decide +kernel,rfl,by decide +kernel,by decide +kernel⟩
noncomputable def f_step:List DV->M PyData:=B9 ["house","stand","beat","filled","lost","staying","hands_on","gone"] (mSq (M1 (w4 2 (d6 (bN 3) (d6 (bN 4) w8))) (k4 f_let_in (vD (sV 0) (vD (sV 1) (vD (sV 2) r9)))))
  (mSq (M1 (w4 3 (d6 (bN 5) (d6 (bN 6) (d6 (bN 7) w8)))) (k4 f_worked (vD (sV 0) (vD (sV 3) r9))))
  (mRt (z8 (a7 (sN m4 (a7 (sLC (B5 (sW 5)) 2 [] (w4 2 (d6 (bN 0) (d6 (bN 1) w8))) E8 (sV 1)) d7)) (a7 (sV 4) (a7 (sV 7) d7)))))))
theorem ok_step {f:Addr}{fd:FuncData}(Fn:Fun K "step" "step" s_step f fd)(T:Txt K mg)(C_let_in:Callee P w K mg base "let_in" 1 ["house","stand","beat"] (spD K 3 f_let_in))(C_worked:Callee P w K mg base "worked" 3 ["house","stand"] (spD K 2 f_worked)):FnOk P w K mg base CX0 4 f fd ["house","stand","beat"] (spD K 3 f_step):=by
 refine D3 Fn S9 λcdv A outer s H E hr=>?_
 have hu5:(A.deeper (PyProof.Rows.envOfC "step" (defScope s_step) s.heap.objs.size f cdv)).units+65<cLine:=by have:=hr.un;omega
 exact⟨_,(c8 (N7 (l3 C_let_in (hr.mono (by decide)) (p7 (i9 0) (p7 (i9 1) (p7 (i9 2) n4))) (p6 (p6 (p6 n5)))) (v8 (n:=2) rfl (d5 (m7 (i:=3) S9.nd) (d5 (m7 (i:=4) S9.nd) p9))))
   (c8 (N7 (l3 C_worked (hr.mono (by decide)) (p7 (i9 0) (p7 (i9 3) n4)) (p6 (p6 n5))) (v8 (n:=3) rfl (d5 (m7 (i:=5) S9.nd) (d5 (m7 (i:=6) S9.nd) (d5 (m7 (i:=7) S9.nd) p9)))))
   (l0 (y0 (z7 (d0 (u0 (u4 rfl) T.tuple u5 (i7 (Ev.bw (U2 (osc:=(defScope s_step)) (N:=["place","person"]) (k:=2) (cap:=[]) rfl rfl ⟨rfl,by decide +kernel,by decide +kernel,by decide +kernel,rfl,rfl,by decide +kernel⟩ (A0 (f9 5)) (λcl C ex pins s H=>(v8 (n:=2) rfl (d5 (m7 (i:=0) (show List.Nodup (["place","person"]:List Str) by decide +kernel)) (d5 (m7 (i:=1) (show List.Nodup (["place","person"]:List Str) by decide +kernel)) p9)))) (λcl C ex pins s H=>z9) (λcl C ex pins s H=>(i9 1)))) l6)) (d0 (i9 4) (d0 (i9 7) j6))))))))⟩
theorem a06:FnScope ["house","way","stand","stands","lost","gone","beat","following","turned_away","places"] ["house","way","stand"] (defScope s_run):=⟨rfl,rfl,rfl,by decide +kernel,rfl,by decide +kernel,by decide +kernel⟩
noncomputable def f_run:List DV->M PyData:=B9 ["house","way","stand","stands","lost","gone","beat","following","turned_away","places"] (mSq (a19 3 4 5 (cO (K3 (a7 (sV 2) d7))) (cO (K3 d7)) (cO (K3 d7)))
  (mSq (O0 (B5 (sV 1)) (bN 6) (mSq (M1 (w4 3 (d6 (bN 7) (d6 (bN 8) (d6 (bN 9) w8)))) (k4 f_step (vD (sV 0) (vD (s2 ixD (sW 3) (s1 a3G (sC (.int 1)))) (vD (sV 6) r9)))))
  (mSq (O6 3 (sV 7))
  (mSq (O6 4 (sV 8))
  (O6 5 (sN D2 (a7 (sW 9) d7)))))))
  (mRt (z8 (a7 (sN m4 (a7 (sW 3) d7)) (a7 (sN m4 (a7 (sW 4) d7)) (a7 (sN m4 (a7 (sW 5) d7)) d7)))))))
theorem ok_run {f:Addr}{fd:FuncData}(Fn:Fun K "run" "run" s_run f fd)(T:Txt K mg)(C_step:Callee P w K mg base "step" 4 ["house","stand","beat"] (spD K 3 f_step)):FnOk P w K mg base CX0 5 f fd ["house","way","stand"] (spD K 3 f_run):=by
 refine D3 Fn a06 λcdv A outer s H E hr=>?_
 have hu5:(A.deeper (PyProof.Rows.envOfC "run" (defScope s_run) s.heap.objs.size f cdv)).units+65<cLine:=by have:=hr.un;omega
 exact⟨_,(c8 (a7y 3 4 5 rfl a06.nd (a6i (L6 (d0 (i9 2) j6))) (a6i (L6 j6)) (a6i (L6 j6)))
   (c8 (O3 rfl (a0f (i9 1)) (m7 (i:=6) a06.nd) (c8 (N7 (l3 C_step (hr.mono (by decide)) (p7 (i9 0) (p7 (y6 (y4 rfl) (f9 3) (Ev.bw (a5q a2A (Ev.bw i5)))) (p7 (i9 6) n4))) (p6 (p6 (p6 n5)))) (v8 (n:=3) rfl (d5 (m7 (i:=7) a06.nd) (d5 (m7 (i:=8) a06.nd) (d5 (m7 (i:=9) a06.nd) p9)))))
   (c8 (R4 3 rfl (i9 7))
   (c8 (R4 4 rfl (i9 8))
   (l0 (R4 5 rfl (n9 (E9 rfl) T.len F0 (i7 (f9 9) l6))))))))
   (l0 (y0 (z7 (d0 (u0 (u4 rfl) T.tuple u5 (i7 (f9 3) l6)) (d0 (u0 (u4 rfl) T.tuple u5 (i7 (f9 4) l6)) (d0 (u0 (u4 rfl) T.tuple u5 (i7 (f9 5) l6)) j6))))))))⟩
theorem B6:FnScope ["course","waited","gone_at","word","beat","waits"] ["course","waited","gone_at"] (defScope s_after_beat):=⟨rfl,rfl,rfl,by decide +kernel,rfl,by decide +kernel,by decide +kernel⟩
noncomputable def f_after_beat:List DV->M PyData:=B9 ["course","waited","gone_at","word","beat","waits"] (mSq (M1 (w4 3 (d6 (bN 3) (d6 (bN 4) (d6 (bN 5) w8)))) (sV 0))
  (mSq (a1X (λi j=>i+j) 5 (sIf (uT (sW 1)) (sC (.int 1)) (sC (.int 0))))
  (mSq (mIf (uB (s2 (isD false) (sW 2) (sC .none))) (mRt (z8 (a7 (sV 3) (a7 (sV 4) (a7 (sV 5) d7))))) mNx)
  (mRt (z8 (a7 (sC (.str "gone")) (a7 (sV 4) (a7 (sV 2) (a7 (sV 5) d7)))))))))
theorem ok_after_beat {f:Addr}{fd:FuncData}(Fn:Fun K "after_beat" "after_beat" s_after_beat f fd)(T:Txt K mg) :FnOk P w K mg base CX0 1 f fd ["course","waited","gone_at"] (spD K 3 f_after_beat):=by
 refine D3 Fn B6 λcdv A outer s H E hr=>?_
 have hu5:(A.deeper (PyProof.Rows.envOfC "after_beat" (defScope s_after_beat) s.heap.objs.size f cdv)).units+65<cLine:=by have:=hr.un;omega
 exact⟨_,(c8 (N7 (i9 0) (v8 (n:=3) rfl (d5 (m7 (i:=3) B6.nd) (d5 (m7 (i:=4) B6.nd) (d5 (m7 (i:=5) B6.nd) p9)))))
   (c8 (a2G 5 B6.nd (a3z (a6P (f9 1)) i5 i5))
   (c8 (W7 (y9 b01 (f9 2) (Ev.bw a0u)) (l0 (y0 (z7 (d0 (i9 3) (d0 (i9 4) (d0 (i9 5) j6)))))) R8)
   (l0 (y0 (z7 (d0 P9 (d0 (i9 4) (d0 (i9 2) (d0 (i9 5) j6))))))))))⟩
theorem l5:FnScope ["house","way","told","stand","inside","at","beat","filled","lost","entered","staying","hands_on","gone","place","number"] ["house","way"] (defScope s_courses):=⟨rfl,rfl,rfl,by decide +kernel,rfl,by decide +kernel,by decide +kernel⟩
noncomputable def f_courses:List DV->M PyData:=B9 ["house","way","told","stand","inside","at","beat","filled","lost","entered","staying","hands_on","gone","place","number"] (mSq (a01 2 (K3 d7))
  (mSq (a0J 3 4 (cD (sC (.tuple []))) (cO (K3 d7)))
  (mSq (O0 (Q5 (sV 1)) (w4 2 (d6 (bN 5) (d6 (bN 6) w8))) (mSq (M1 (w4 2 (d6 (bN 7) (d6 (bN 8) w8))) (k4 f_let_in (vD (sV 0) (vD (sV 3) (vD (sV 6) r9)))))
  (mSq (q4 9 (s2 a00 (sN D2 (a7 (sW 6) d7)) (sW 8)))
  (mSq (a3s 4 (a1m (a7 (sN D2 (a7 (sW 2) d7)) (a7 (s2 C3 (sN D2 (a7 (sW 2) d7)) (sW 9)) d7))))
  (mSq (a3s 2 (s2 C3 (s2 M3 (a41 (a7 (z8 (a7 (sC (.str "in")) (a7 (sV 5) (a7 (sC (.int 0)) d7)))) d7)) (sW 9)) (s2 M3 (a41 (a7 (z8 (a7 (sC (.str "lost")) (a7 (sV 5) d7))) d7)) (sW 8))))
  (mSq (M1 (w4 3 (d6 (bN 10) (d6 (bN 11) (d6 (bN 12) w8)))) (k4 f_worked (vD (sV 0) (vD (sV 7) r9))))
  (mSq (a5Z 4 (O0 (Q5 (sV 4)) (w4 2 (d6 (bN 13) (d6 (bN 14) w8))) (a6J 2 (k4 f_after_beat (vD (s2 ixD (sW 2) (sW 14)) (vD (s2 (inD true) (sW 13) (sW 11)) (vD (sIf (uB (s2 (inD false) (sW 13) (sW 12))) (s2 C3 (sW 5) (sC (.int 1))) (sC .none)) r9)))) (sV 14))))
  (mSq (a01 4 (fLC (B5 (sW 10)) 2 [4] (w4 2 (d6 (bN 0) (d6 (bN 1) w8))) E8 (s2 ixD (sW 2) (sW 0))))
  (q4 3 (sN m4 (a7 (sLC (B5 (sW 10)) 2 [] (w4 2 (d6 (bN 0) (d6 (bN 1) w8))) E8 (sV 1)) d7)))))))))))
  (mRt (sW 2)))))
theorem ok_courses {f:Addr}{fd:FuncData}(Fn:Fun K "courses" "courses" s_courses f fd)(T:Txt K mg)(C_let_in:Callee P w K mg base "let_in" 1 ["house","stand","beat"] (spD K 3 f_let_in))(C_worked:Callee P w K mg base "worked" 3 ["house","stand"] (spD K 2 f_worked))(C_after_beat:Callee P w K mg base "after_beat" 1 ["course","waited","gone_at"] (spD K 3 f_after_beat)):FnOk P w K mg base CX0 4 f fd ["house","way"] (spD K 2 f_courses):=by
 refine D3 Fn l5 λcdv A outer s H E hr=>?_
 have hu5:(A.deeper (PyProof.Rows.envOfC "courses" (defScope s_courses) s.heap.objs.size f cdv)).units+65<cLine:=by have:=hr.un;omega
 exact⟨_,(c8 (a1V 2 l5.nd (L6 j6))
   (c8 (a8v 3 4 rfl rfl l5.nd (b3d (X5 (.tuple []) rfl)) (a6i (L6 j6)))
   (c8 (O3 rfl (a55 (i9 1) T.enumerate) (v8 (n:=2) rfl (d5 (m7 (i:=5) l5.nd) (d5 (m7 (i:=6) l5.nd) p9))) (c8 (N7 (l3 C_let_in (hr.mono (by decide)) (p7 (i9 0) (p7 (i9 3) (p7 (i9 6) n4))) (p6 (p6 (p6 n5)))) (v8 (n:=2) rfl (d5 (m7 (i:=7) l5.nd) (d5 (m7 (i:=8) l5.nd) p9))))
   (c8 (p0 9 l5.nd (z4 a0s (Ev.bw (n9 (E9 rfl) T.len F0 (i7 (f9 6) l6))) (f9 8)))
   (c8 (a5g 4 l5.nd (Ev.bw (a7Y (d0 (n9 (E9 rfl) T.len F0 (i7 (f9 2) l6)) (d0 (z4 (C9 rfl) (Ev.bw (n9 (E9 rfl) T.len F0 (i7 (f9 2) l6))) (f9 9)) j6)) rfl T.range T.list a13)))
   (c8 (a5g 2 l5.nd (Ev.bw (z4 (C9 rfl) (Ev.bw (z4 (a0V rfl) (Ev.bw (a4T (d0 (z7 (d0 P9 (d0 (i9 5) (d0 i5 j6)))) j6))) (f9 9))) (Ev.bw (z4 (a0V rfl) (Ev.bw (a4T (d0 (z7 (d0 P9 (d0 (i9 5) j6))) j6))) (f9 8))))))
   (c8 (N7 (l3 C_worked (hr.mono (by decide)) (p7 (i9 0) (p7 (i9 7) n4)) (p6 (p6 n5))) (v8 (n:=3) rfl (d5 (m7 (i:=10) l5.nd) (d5 (m7 (i:=11) l5.nd) (d5 (m7 (i:=12) l5.nd) p9)))))
   (c8 (b0q 4 (O3 rfl (a55 (i9 4) T.enumerate) (v8 (n:=2) rfl (d5 (m7 (i:=13) l5.nd) (d5 (m7 (i:=14) l5.nd) p9))) (l0 (b0r 2 (l3 C_after_beat (hr.mono (by decide)) (p7 (y6 (y4 rfl) (f9 2) (f9 14)) (p7 (a4U (a3p rfl hu5) (f9 13) (f9 11)) (p7 (a3z (y9 (a2d rfl hu5) (f9 13) (f9 12)) (z4 (C9 rfl) (f9 5) (Ev.bw i5)) a0u) n4))) (p6 (p6 (p6 n5)))) (i9 14)))))
   (c8 (a1V 4 l5.nd (b2n (osc:=(defScope s_courses)) (N:=["place","person","inside"]) (k:=2) (cap:=[4]) rfl rfl ⟨rfl,by decide +kernel,by decide +kernel,by decide +kernel,rfl,rfl,by decide +kernel⟩ (A0 (f9 10)) (λcl C ex pins s H=>(v8 (n:=2) rfl (d5 (m7 (i:=0) (show List.Nodup (["place","person","inside"]:List Str) by decide +kernel)) (d5 (m7 (i:=1) (show List.Nodup (["place","person","inside"]:List Str) by decide +kernel)) p9)))) (λcl C ex pins s H=>z9) (λcl C ex pins s H=>(y6 (y4 rfl) (f9 2) (f9 0)))))
   (l0 (p0 3 l5.nd (u0 (u4 rfl) T.tuple u5 (i7 (Ev.bw (U2 (osc:=(defScope s_courses)) (N:=["place","person"]) (k:=2) (cap:=[]) rfl rfl ⟨rfl,by decide +kernel,by decide +kernel,by decide +kernel,rfl,rfl,by decide +kernel⟩ (A0 (f9 10)) (λcl C ex pins s H=>(v8 (n:=2) rfl (d5 (m7 (i:=0) (show List.Nodup (["place","person"]:List Str) by decide +kernel)) (d5 (m7 (i:=1) (show List.Nodup (["place","person"]:List Str) by decide +kernel)) p9)))) (λcl C ex pins s H=>z9) (λcl C ex pins s H=>(i9 1)))) l6))))))))))))
   (l0 (a5x 2)))))⟩
theorem J9:FnScope ["house","way","stand","voids"] ["house","way"] (defScope s_drained):=⟨rfl,rfl,rfl,by decide +kernel,rfl,by decide +kernel,by decide +kernel⟩
noncomputable def f_drained:List DV->M PyData:=B9 ["house","way","stand","voids"] (mSq (q4 2 (s2 ixD (s2 ixD (k4 f_run (vD (sV 0) (vD (sV 1) (vD (sC (.tuple [])) r9)))) (sC (.int 0))) (s1 a3G (sC (.int 1)))))
  (mSq (q4 3 (sC (.int 0)))
  (mSq (mWh (uB (s2 gtD (sN D2 (a7 (sW 2) d7)) (sC (.int 0)))) (mSq (q4 2 (s2 ixD (k4 f_step (vD (sV 0) (vD (sV 2) (vD (sC (.tuple [])) r9)))) (sC (.int 0))))
  (a1X (λi j=>i+j) 3 (sC (.int 1)))))
  (mRt (s2 C3 (sW 1) (s2 M3 (sC (.tuple [.tuple []])) (sW 3)))))))
theorem ok_drained {f:Addr}{fd:FuncData}(Fn:Fun K "drained" "drained" s_drained f fd)(T:Txt K mg)(C_run:Callee P w K mg base "run" 5 ["house","way","stand"] (spD K 3 f_run))(C_step:Callee P w K mg base "step" 4 ["house","stand","beat"] (spD K 3 f_step)):FnOk P w K mg base CX0 6 f fd ["house","way"] (spD K 2 f_drained):=by
 refine D3 Fn J9 λcdv A outer s H E hr=>?_
 have hu5:(A.deeper (PyProof.Rows.envOfC "drained" (defScope s_drained) s.heap.objs.size f cdv)).units+65<cLine:=by have:=hr.un;omega
 exact⟨_,(c8 (p0 2 J9.nd (y6 (y4 rfl) (Ev.bw (y6 (y4 rfl) (Ev.bw (l3 C_run (hr.mono (by decide)) (p7 (i9 0) (p7 (i9 1) (p7 (X5 (.tuple []) rfl) n4))) (p6 (p6 (p6 n5))))) (Ev.bw i5))) (Ev.bw (a5q a2A (Ev.bw i5)))))
   (c8 (p0 3 J9.nd i5)
   (c8 (a7m (y9 a7i (Ev.bw (n9 (E9 rfl) T.len F0 (i7 (f9 2) l6))) (Ev.bw i5)) (c8 (p0 2 J9.nd (y6 (y4 rfl) (Ev.bw (l3 C_step (hr.mono (by decide)) (p7 (i9 0) (p7 (i9 2) (p7 (X5 (.tuple []) rfl) n4))) (p6 (p6 (p6 n5))))) (Ev.bw i5)))
   (l0 (a2G 3 J9.nd i5))))
   (l0 (y0 (z4 (C9 rfl) (f9 1) (Ev.bw (z4 (a0V rfl) (Ev.bw (X5 (.tuple [.tuple []]) rfl)) (f9 3)))))))))⟩
noncomputable def spFeed (K:PySem.W.Frag):Sp:=λvs H Q _=>∃(a:Addr) (ns:List Int),vs=[.ref a]∧SqL K H a (ns.map V.int)∧ns.length≤63 ∧
 ∀(d c:Addr) (H':Hp),Feeds.At d c H' (a4y ns)->i4 H H'->Q (.ref d) H'
theorem b2N {ns:List Int}(h:ns.length≤63):a0b (ns.map V.int) none (some 63)=ns.map V.int:=by
 unfold a0b
 have e:HT.sIx (ns.map V.int).length (ns.map V.int).length (some 63)=min 63 (ns.map V.int).length:=HT.sIx_nat _ _ 63
 rw[e,HT.sIx_none,List.drop_zero,Nat.sub_zero,List.take_of_length_le (by rw[List.length_map];omega)]
theorem a32:FnScope ["_law_script"] ["_law_script"] (defScope s__law_feed):=⟨rfl,rfl,rfl,by decide +kernel,rfl,by decide +kernel,by decide +kernel⟩
theorem ok__law_feed {f:Addr}{fd:FuncData}(F:Fun K "_law_feed" "_law_feed" s__law_feed f fd)(T:Txt K mg):FnOk P w K mg base CX0 1 f fd ["_law_script"] (spFeed K):=by
 refine F.ok a32 (λvs H Q E h=>?_) (λcdv A outer s H vs Q E hr h=>?_)
 ·obtain⟨a,ns,rfl,_⟩:=h
  rfl
 ·obtain⟨a,ns,rfl,hS,hl,k⟩:=h
  refine⟨_,X1 (a09 (a1o (m8 (T1 a30 rfl T.list a13 (m8 (a3Y a5s (pv 0) a56 (a2N l4)) A1)) (m8 l4 (m8 l4 A1))))),?_⟩
  refine⟨_,rfl,63,rfl,a,_,rfl,hS,λq0 hq0=>?_⟩
  rw[b2N hl]
  refine⟨q0,_,rfl,.inl (SqL.of g6),λq hq=>⟨Nat.le_of_lt (a0i (by show 3≤1000;decide)),λp hp=>?_⟩⟩
  have s0:i4 H (upd H q0 (.lst (ns.map V.int))):=i4.upd hq0
  have nqp:q≠p:=j5 g6 hp
  refine k p q _ ⟨g6,by rw[d8 nqp];exact g6,hl,(by show(0:Int)≤0;decide),(by show(0:Int)≤0;decide),Ne.symm nqp⟩ λb o e=>?_
  have e1:upd (upd H q0 (.lst (ns.map V.int))) q (.lst (ns.map V.int)) b=some o:=by rw[d8 (j5 (s0 b o e) hq)];exact s0 b o e
  rw[d8 (j5 e1 hp)]
  exact e1
theorem D6:FnScope ["_law_feed_here","_law_many","_law_digit","_law_at","_law_cell","_law_first"] ["_law_feed_here","_law_many"] (defScope s__law_next):=⟨rfl,rfl,rfl,by decide +kernel,rfl,by decide +kernel,by decide +kernel⟩
theorem ok__law_next {f:Addr}{fd:FuncData}(Fn:Fun K "_law_next" "_law_next" s__law_next f fd)(T:Txt K mg):FnOk P w K mg base CX0 1 f fd ["_law_feed_here","_law_many"] (spD K 2 drawS):=by
 refine Fn.ok D6 (λvs H Q E h=>?_) (λcdv A outer s H vs Q E hr h=>?_)
 ·obtain⟨G,B,F,args,d,F',hl,_⟩:=h
  exact hl
 ·obtain⟨G,B,F,args,dd,F',hl,fB,bk,fa,ha,hm0,q⟩:=h
  obtain⟨m,rfl⟩:∃m,args=[.feed,.dat (.int m)]:=by
   unfold drawS at hm0
   split at hm0
   ·exact⟨_,rfl⟩
   ·cases hm0
  obtain⟨v,r,rfl,_,⟨d,c,rfl,rfl⟩,v2,r2,rfl,_,hv2,rfl⟩:=ha
  have hv2:v2 = .int m:=by simpa only[DVr,b7] using hv2
  subst hv2
  obtain⟨⟨r0,F1⟩,e1,e2⟩:=Option.bind_eq_some_iff.mp hm0
  cases e2
  replace e1:a0K m F=some (r0,F1):=e1
  have hcond:0<m∧m<1073741824∧F.t<199999:=by
   unfold a0K at e1
   split at e1
   ·assumption
   ·cases e1
  obtain⟨hm,hm2,htl⟩:=hcond
  obtain⟨ns,a,l,t⟩:=F
  obtain⟨⟨hd,hc,hl63,ha0,ht0,ndc⟩,tbo⟩:=fa
  simp only at hd hc hl63 ha0 ht0 htl
  have k:∀(r:Int) (H':Hp) (F2:FdS),a0K m ⟨ns,a,l,t⟩=some (r,F2)->Feeds.At d c H' F2->(∀b o,H b=some o->b≠d->H' b=some o)->Q (.int r) H':=λr H' F2 er fa' kp=>by
   rw[er]at e1
   cases e1
   exact q _ H' (λb o e nb=>kp b o e λz=>nb (by simp[k9,z])) ⟨fa',tbo.but hd ⟨λ_ z=>(by cases z),λ_ z=>(by cases z)⟩ kp⟩ b7.int
  have hdr:a0K m ⟨ns,a,l,t⟩=some (if 0<l then(l % m,⟨ns,a,l / m,t+1⟩) else if 10 ^ 18≤(FdS.cellL ⟨ns,a,l,t⟩)∧a<ns.length then((FdS.cellL ⟨ns,a,l,t⟩) % m,⟨ns,a+1,(FdS.cellL ⟨ns,a,l,t⟩) / m,t+1⟩) else((FdS.mixN ⟨ns,a,l,t⟩) % m,⟨ns,a+1,l,t+1⟩)):=by
   unfold a0K;rw[if_pos ⟨hm,hm2,htl⟩]
  have ncd:c≠d:=Ne.symm ndc
  refine⟨_,A5 (a8l (Y2 a9G (U1 G1 (pv 0) l4 (λ_ _=>rfl)) l4 (a0d _))
    (A5 (W2 (i:=2) D6.nd rfl (Or.inl rfl) (x4 Q7 (U1 G1 (pv 0) l4 (λ_ _=>rfl)) (pv 1)))
     (A5 (a0g (x4 a2P (U1 G1 (pv 0) l4 (λ_ _=>rfl)) (pv 1)) (a36 (pv 0) l4 X2 (λ_=>rfl))) (X1 (a09 (pv 2))))) a2S)
   (A5 (W2 (i:=3) D6.nd rfl (Or.inl rfl) (U1 G1 (pv 0) l4 (λ_ _=>rfl)))
   (A5 (a0g (x4 W3 (pv 3) l4) (a36 (pv 0) l4 X2 (λ_=>rfl)))
   (A5 (W2 (i:=4) D6.nd rfl (Or.inl rfl) (a3j (Y2 (a7V (Nat.lt_of_le_of_lt (Nat.le_add_right _ 64) hr.units)) (U1 G1 (pv 0) l4 (λ_ _=>rfl)) (a1o A1) (a0d _))
    (U1 G1 (U1 G1 (pv 0) l4 (λ_ _=>rfl)) (x4 Q7 (pv 3) (a1E N5 (by rfl) T.len PySem.boot_len (m8 (U1 G1 (pv 0) l4 (λ_ _=>rfl)) A1))) (λ_ _=>rfl)) l4))
   (A5 (a8l (PW.pt (b0g (Y2 b21 (pv 4) (x4 a8w l4 l4) (a0d _)) (a9u (Y2 a9J (pv 3) (a1E N5 (by rfl) T.len PySem.boot_len (m8 (U1 G1 (pv 0) l4 (λ_ _=>rfl)) A1)) (a0d _)))))
    (A5 (a0g (x4 a2P (pv 4) (pv 1)) (a36 (pv 0) l4 X2 (λ_=>rfl))) (X1 (a09 (x4 Q7 (pv 4) (pv 1))))) a2S)
   (A5 (W2 (i:=5) D6.nd rfl (Or.inl rfl) (x4 Q7 (x4 W1 (x4 W3 (x4 W3 (x4 W3 (x4 Q7 (pv 4) l4) (x4 W1 (x4 W1 l4 (pv 3)) (pv 3))) (x4 W1 l4 (pv 3))) l4) l4) l4))
   (X1 (a09 (x4 Q7 (x4 a2P (x4 Q7 (x4 W1 (x4 Q7 (x4 W3 (x4 W3 (x4 W1 (pv 5) (pv 5)) (x4 W1 l4 (pv 3))) l4) l4) l4) l4) l4) (pv 1))))))))),?_⟩
  refine⟨_,rfl,d,_,_,_,rfl,rfl,SqL.of hd,rfl,_,_,rfl,rfl,_,rfl,?_⟩
  refine a60 (λhleft=>?_) (λhleft=>?_)
  ·have hleft:0<l:=of_decide_eq_true hleft
   refine⟨_,rfl,d,_,_,_,rfl,rfl,SqL.of hd,rfl,_,rfl,_,_,rfl,rfl,hm,?_⟩
   refine⟨_,rfl,d,_,_,_,rfl,rfl,SqL.of hd,rfl,_,rfl,_,_,rfl,rfl,⟨hm,hm2⟩,_,rfl,d,_,_,2,rfl,rfl,hd,rfl,_,rfl,?_⟩
   exact k _ _ ⟨ns,a,l / m,t+1⟩ (by rw[hdr,if_pos hleft]) ⟨g6,by rw[d8 ncd];exact hc,hl63,ha0,by simp only;omega,ndc⟩ (λb o e hb=>by rw[d8 hb];exact e)
  ·have hleft:¬0<l:=λz=>hleft (decide_eq_true z)
   refine⟨_,rfl,d,_,_,_,rfl,rfl,SqL.of hd,rfl,?_⟩
   refine⟨_,rfl,_,_,rfl,rfl,_,rfl,d,_,_,1,rfl,rfl,hd,rfl,?_⟩
   have hd1:(upd H d (.lst [.ref c,.int (a+1),.int l])) d=some (.lst [.ref c,.int (a+1),.int l]):=g6
   have hc1:(upd H d (.lst [.ref c,.int (a+1),.int l])) c=some (.lst (ns.map V.int)):=by rw[d8 ncd];exact hc
   have kp1:∀b o,H b=some o->b≠d->(upd H d (.lst [.ref c,.int (a+1),.int l])) b=some o:=λb o e hb=>by rw[d8 hb];exact e
   show b0Y _ _ _ _ (upd H d (.lst [.ref c,.int (a+1),.int l]))
   generalize upd H d (.lst [.ref c,.int (a+1),.int l])=H1 at hd1 hc1 kp1
   refine⟨_,rfl,d,_,_,_,rfl,rfl,SqL.of hd1,rfl,?_⟩
   refine⟨Nat.le_of_lt (a0i (by show 0≤1000;decide)),λp hp=>?_⟩
   replace kp1:∀b o,H b=some o->b≠d->(upd H1 p (.lst [])) b=some o:=λb o e hb=>by rw[d8 (j5 (kp1 b o e hb) hp)];exact kp1 b o e hb
   replace hd1:(upd H1 p (.lst [])) d=some (.lst [.ref c,.int (a+1),.int l]):=by rw[d8 (j5 hd1 hp)];exact hd1
   replace hc1:(upd H1 p (.lst [])) c=some (.lst (ns.map V.int)):=by rw[d8 (j5 hc1 hp)];exact hc1
   have hpp:(upd H1 p (.lst [])) p=some (.lst []):=g6
   generalize upd H1 p (.lst [])=H1 at hd1 hc1 kp1 hpp
   refine⟨c,p,_,rfl,rfl,SqL.of hc1,SqL.of hpp,_,rfl,?_⟩
   have big:10 ^ 18≤(FdS.cellL ⟨ns,a,l,t⟩)∧a<ns.length->Q (.int (FdS.cellL ⟨ns,a,l,t⟩ % m)) (upd H1 d (.lst [.ref c,.int (a+1),.int (FdS.cellL ⟨ns,a,l,t⟩ / m)])):=λhb =>
    k _ _ ⟨ns,a+1,FdS.cellL ⟨ns,a,l,t⟩ / m,t+1⟩ (by rw[hdr,if_neg hleft,if_pos hb]) ⟨g6,by rw[d8 ncd];exact hc1,hl63,by simp only;omega,by simp only;omega,ndc⟩ (λb o e hb=>by rw[d8 hb];exact kp1 b o e hb)
   have small:¬(10 ^ 18≤(FdS.cellL ⟨ns,a,l,t⟩)∧a<ns.length)->Q (.int (FdS.mixN ⟨ns,a,l,t⟩ % m)) H1:=λhb =>
    k _ _ ⟨ns,a+1,l,t+1⟩ (by rw[hdr,if_neg hleft,if_neg hb]) ⟨hd1,hc1,hl63,by simp only;omega,by simp only;omega,ndc⟩ kp1
   unfold FdS.mixN FdS.fstN at small
   simp only at small
   refine a60 (λhne=>?_) (λhe=>?_)
   ·have h0:¬ns=[]:=by intro e;rw[e]at hne;simp at hne
    have hne:(0:Int)<ns.length:=by have:=List.length_pos_iff.mpr h0;omega
    refine⟨_,rfl,d,_,_,_,rfl,rfl,SqL.of hd1,rfl,_,rfl,_,rfl,d,_,_,_,rfl,rfl,SqL.of hd1,rfl,c,_,rfl,.inl (SqL.of hc1),_,_,rfl,rfl,(by rw[List.length_map];exact hne),c,_,_,_,rfl,rfl,SqL.of hc1,a88 (F:=⟨ns,a,l,t⟩) h0,?_⟩
    generalize FdS.cellL ⟨ns,a,l,t⟩=z at big small
    obtain⟨q1,q2⟩:=a4e (x:=(z % 1000003+37*a*a+13*a+5)*48271) (m:=999983) (by decide)
    have tl:¬(10 ^ 18≤(z:Int)∧a<ns.length)->Q (.int (((z % 1000003+37*a*a+13*a+5)*48271 % 999983*((z % 1000003+37*a*a+13*a+5)*48271 % 999983)+7919*a+11) % 2097143*69621 % 2147483629 / 7 % m)) H1:=small
    refine⟨_,rfl,_,_,rfl,rfl,⟨by decide,by decide,by decide⟩,_,_,rfl,rfl,_,rfl,?_⟩
    refine a60 (λhb1=>⟨_,rfl,_,rfl,d,_,_,_,rfl,rfl,SqL.of hd1,rfl,c,_,rfl,.inl (SqL.of hc1),_,_,rfl,rfl,_,rfl,a60 (λhb2=>?_) (λhb2=>?_)⟩) (λhb1=>b2z ?_)
    ·have hb1:=of_decide_eq_true hb1
     have hb2:=of_decide_eq_true hb2
     rw[List.length_map]at hb2
     exact⟨_,rfl,_,rfl,_,_,rfl,rfl,⟨hm,hm2⟩,_,rfl,d,_,_,2,rfl,rfl,hd1,rfl,_,rfl,_,rfl,_,_,rfl,rfl,hm,big ⟨hb1,hb2⟩⟩
    ·have hq:=tl λhb=>hb2 (decide_eq_true (by rw[List.length_map];exact hb.2))
     refine⟨_,rfl,_,_,rfl,rfl,(by show(0:Int)<1000003;decide),_,rfl,_,_,rfl,rfl,.inl ⟨by decide,by decide⟩,_,rfl,_,_,rfl,rfl,.inr ⟨by omega,by omega⟩,_,_,rfl,rfl,_,rfl,_,_,rfl,rfl,.inl ⟨by decide,by decide⟩,_,_,rfl,rfl,_,_,rfl,rfl,_,_,rfl,rfl,.inr ⟨by decide,by decide⟩,_,_,rfl,rfl,(by show(0:Int)<999983;decide),?_⟩
     refine⟨_,rfl,_,rfl,_,_,rfl,rfl,.inl ⟨by omega,by omega⟩,_,rfl,_,_,rfl,rfl,.inl ⟨by decide,by decide⟩,_,_,rfl,rfl,_,_,rfl,rfl,_,_,rfl,rfl,(by show(0:Int)<2097143;decide),?_⟩
     exact⟨_,_,rfl,rfl,.inr ⟨by decide,by decide⟩,_,_,rfl,rfl,(by show(0:Int)<2147483629;decide),_,_,rfl,rfl,⟨by decide,by decide⟩,_,rfl,_,_,rfl,rfl,hm,hq⟩
    ·have hq:=tl λhb=>hb1 (decide_eq_true hb.1)
     refine⟨_,rfl,_,_,rfl,rfl,(by show(0:Int)<1000003;decide),_,rfl,_,_,rfl,rfl,.inl ⟨by decide,by decide⟩,_,rfl,_,_,rfl,rfl,.inr ⟨by omega,by omega⟩,_,_,rfl,rfl,_,rfl,_,_,rfl,rfl,.inl ⟨by decide,by decide⟩,_,_,rfl,rfl,_,_,rfl,rfl,_,_,rfl,rfl,.inr ⟨by decide,by decide⟩,_,_,rfl,rfl,(by show(0:Int)<999983;decide),?_⟩
     refine⟨_,rfl,_,rfl,_,_,rfl,rfl,.inl ⟨by omega,by omega⟩,_,rfl,_,_,rfl,rfl,.inl ⟨by decide,by decide⟩,_,_,rfl,rfl,_,_,rfl,rfl,_,_,rfl,rfl,(by show(0:Int)<2097143;decide),?_⟩
     exact⟨_,_,rfl,rfl,.inr ⟨by decide,by decide⟩,_,_,rfl,rfl,(by show(0:Int)<2147483629;decide),_,_,rfl,rfl,⟨by decide,by decide⟩,_,rfl,_,_,rfl,rfl,hm,hq⟩
   ·have h0:ns=[]:=by
     cases ns with
     | nil=>rfl
     | cons x y=>exact absurd rfl he
    have hcell:FdS.cellL ⟨ns,a,l,t⟩=0:=by unfold FdS.cellL;rw[if_pos h0]
    rw[hcell]at big small
    obtain⟨q1,q2⟩:=a4e (x:=((0:Int) % 1000003+37*a*a+13*a+5)*48271) (m:=999983) (by decide)
    have tl:¬(10 ^ 18≤((0:Int):Int)∧a<ns.length)->Q (.int ((((0:Int) % 1000003+37*a*a+13*a+5)*48271 % 999983*(((0:Int) % 1000003+37*a*a+13*a+5)*48271 % 999983)+7919*a+11) % 2097143*69621 % 2147483629 / 7 % m)) H1:=small
    refine⟨_,rfl,_,_,rfl,rfl,⟨by decide,by decide,by decide⟩,_,_,rfl,rfl,_,rfl,?_⟩
    refine a60 (λhb1=>⟨_,rfl,_,rfl,d,_,_,_,rfl,rfl,SqL.of hd1,rfl,c,_,rfl,.inl (SqL.of hc1),_,_,rfl,rfl,_,rfl,a60 (λhb2=>?_) (λhb2=>?_)⟩) (λhb1=>b2z ?_)
    ·have hb1:=of_decide_eq_true hb1
     have hb2:=of_decide_eq_true hb2
     rw[List.length_map]at hb2
     exact⟨_,rfl,_,rfl,_,_,rfl,rfl,⟨hm,hm2⟩,_,rfl,d,_,_,2,rfl,rfl,hd1,rfl,_,rfl,_,rfl,_,_,rfl,rfl,hm,big ⟨hb1,hb2⟩⟩
    ·have hq:=tl λhb=>hb2 (decide_eq_true (by rw[List.length_map];exact hb.2))
     refine⟨_,rfl,_,_,rfl,rfl,(by show(0:Int)<1000003;decide),_,rfl,_,_,rfl,rfl,.inl ⟨by decide,by decide⟩,_,rfl,_,_,rfl,rfl,.inr ⟨by omega,by omega⟩,_,_,rfl,rfl,_,rfl,_,_,rfl,rfl,.inl ⟨by decide,by decide⟩,_,_,rfl,rfl,_,_,rfl,rfl,_,_,rfl,rfl,.inr ⟨by decide,by decide⟩,_,_,rfl,rfl,(by show(0:Int)<999983;decide),?_⟩
     refine⟨_,rfl,_,rfl,_,_,rfl,rfl,.inl ⟨by omega,by omega⟩,_,rfl,_,_,rfl,rfl,.inl ⟨by decide,by decide⟩,_,_,rfl,rfl,_,_,rfl,rfl,_,_,rfl,rfl,(by show(0:Int)<2097143;decide),?_⟩
     exact⟨_,_,rfl,rfl,.inr ⟨by decide,by decide⟩,_,_,rfl,rfl,(by show(0:Int)<2147483629;decide),_,_,rfl,rfl,⟨by decide,by decide⟩,_,rfl,_,_,rfl,rfl,hm,hq⟩
    ·have hq:=tl λhb=>hb1 (decide_eq_true hb.1)
     refine⟨_,rfl,_,_,rfl,rfl,(by show(0:Int)<1000003;decide),_,rfl,_,_,rfl,rfl,.inl ⟨by decide,by decide⟩,_,rfl,_,_,rfl,rfl,.inr ⟨by omega,by omega⟩,_,_,rfl,rfl,_,rfl,_,_,rfl,rfl,.inl ⟨by decide,by decide⟩,_,_,rfl,rfl,_,_,rfl,rfl,_,_,rfl,rfl,.inr ⟨by decide,by decide⟩,_,_,rfl,rfl,(by show(0:Int)<999983;decide),?_⟩
     refine⟨_,rfl,_,rfl,_,_,rfl,rfl,.inl ⟨by omega,by omega⟩,_,rfl,_,_,rfl,rfl,.inl ⟨by decide,by decide⟩,_,_,rfl,rfl,_,_,rfl,rfl,_,_,rfl,rfl,(by show(0:Int)<2097143;decide),?_⟩
     exact⟨_,_,rfl,rfl,.inr ⟨by decide,by decide⟩,_,_,rfl,rfl,(by show(0:Int)<2147483629;decide),_,_,rfl,rfl,⟨by decide,by decide⟩,_,rfl,_,_,rfl,rfl,hm,hq⟩
theorem A8:FnScope ["_law_feed_here","_law_beats","_law_works","_law_way_here","_law_many","_law_k","_law_beat","_law_j"] ["_law_feed_here","_law_beats","_law_works"] (defScope s__law_way):=⟨rfl,rfl,rfl,by decide +kernel,rfl,by decide +kernel,by decide +kernel⟩
noncomputable def f__law_way:List DV->M PyData:=B9 ["_law_feed_here","_law_beats","_law_works","_law_way_here","_law_many","_law_k","_law_beat","_law_j"] (mSq (a01 3 (K3 d7))
  (mSq (q4 4 (sC (.int 0)))
  (mSq (O0 (a0v (a7 (k4 drawS (vF 0 (vD (s2 C3 (sW 1) (sC (.int 1))) r9))) d7)) (bN 5) (mSq (a01 6 (K3 d7))
  (mSq (O0 (a0v (a7 (s2 ixD (sC (.list [.int 0,.int 0,.int 1,.int 1,.int 2,.int 3])) (k4 drawS (vF 0 (vD (sC (.int 6)) r9)))) d7)) (bN 7) (mIf (uB (s2 ltD (sW 4) (sC (.int 40)))) (mSq (O6 6 (z8 (a7 (k4 drawS (vF 0 (vD (sC (.int 2)) r9))) (a7 (s2 C3 (sC (.int 1)) (k4 drawS (vF 0 (vD (sV 2) r9)))) d7))))
  (q4 4 (s2 C3 (sW 4) (sC (.int 1))))) mNx))
  (O6 3 (sN m4 (a7 (sW 6) d7))))))
  (mRt (sN m4 (a7 (sW 3) d7))))))
theorem ok__law_way {f:Addr}{fd:FuncData}(Fn:Fun K "_law_way" "_law_way" s__law_way f fd)(T:Txt K mg)(C__law_next:Callee P w K mg base "_law_next" 1 ["_law_feed_here","_law_many"] (spD K 2 drawS)):FnOk P w K mg base CX0 2 f fd ["_law_feed_here","_law_beats","_law_works"] (spD K 3 f__law_way):=by
 refine D3 Fn A8 λcdv A outer s H E hr=>?_
 have hu5:(A.deeper (PyProof.Rows.envOfC "_law_way" (defScope s__law_way) s.heap.objs.size f cdv)).units+65<cLine:=by have:=hr.un;omega
 exact⟨_,(c8 (a1V 3 A8.nd (L6 j6))
   (c8 (p0 4 A8.nd i5)
   (c8 (O3 rfl (a2J (d0 (l3 C__law_next (hr.mono (by decide)) (a3k 0 (p7 (z4 (C9 rfl) (f9 1) (Ev.bw i5)) n4)) (a3O (p6 n5))) j6) T.range) (m7 (i:=5) A8.nd) (c8 (a1V 6 A8.nd (L6 j6))
   (c8 (O3 rfl (a2J (d0 (y6 (y4 rfl) (Ev.bw (X5 (.list [.int 0,.int 0,.int 1,.int 1,.int 2,.int 3]) rfl)) (Ev.bw (l3 C__law_next (hr.mono (by decide)) (a3k 0 (p7 i5 n4)) (a3O (p6 n5))))) j6) T.range) (m7 (i:=7) A8.nd) (l0 (W7 (y9 b0c (f9 4) (Ev.bw i5)) (c8 (R4 6 rfl (z7 (d0 (l3 C__law_next (hr.mono (by decide)) (a3k 0 (p7 i5 n4)) (a3O (p6 n5))) (d0 (z4 (C9 rfl) (Ev.bw i5) (Ev.bw (l3 C__law_next (hr.mono (by decide)) (a3k 0 (p7 (i9 2) n4)) (a3O (p6 n5))))) j6))))
   (l0 (p0 4 A8.nd (z4 (C9 rfl) (f9 4) (Ev.bw i5))))) R8)))
   (l0 (R4 3 rfl (u0 (u4 rfl) T.tuple u5 (i7 (f9 6) l6)))))))
   (l0 (y0 (u0 (u4 rfl) T.tuple u5 (i7 (f9 3) l6)))))))⟩
theorem K6:FnScope ["_law_feed_here","_law_size"] ["_law_feed_here"] (defScope s__law_light_way):=⟨rfl,rfl,rfl,by decide +kernel,rfl,by decide +kernel,by decide +kernel⟩
noncomputable def f__law_light_way:List DV->M PyData:=B9 ["_law_feed_here","_law_size"] (mSq (q4 1 (k4 drawS (vF 0 (vD (sC (.int 3)) r9))))
  (mRt (k4 f__law_way (vF 0 (vD (s2 ixD (sC (.list [.int 5,.int 9,.int 24])) (sW 1)) (vD (s2 ixD (sC (.list [.int 6,.int 4,.int 2])) (sW 1)) r9))))))
theorem ok__law_light_way {f:Addr}{fd:FuncData}(Fn:Fun K "_law_light_way" "_law_light_way" s__law_light_way f fd)(T:Txt K mg)(C__law_next:Callee P w K mg base "_law_next" 1 ["_law_feed_here","_law_many"] (spD K 2 drawS))(C__law_way:Callee P w K mg base "_law_way" 2 ["_law_feed_here","_law_beats","_law_works"] (spD K 3 f__law_way)):FnOk P w K mg base CX0 3 f fd ["_law_feed_here"] (spD K 1 f__law_light_way):=by
 refine D3 Fn K6 λcdv A outer s H E hr=>?_
 have hu5:(A.deeper (PyProof.Rows.envOfC "_law_light_way" (defScope s__law_light_way) s.heap.objs.size f cdv)).units+65<cLine:=by have:=hr.un;omega
 exact⟨_,(c8 (p0 1 K6.nd (l3 C__law_next (hr.mono (by decide)) (a3k 0 (p7 i5 n4)) (a3O (p6 n5))))
   (l0 (y0 (l3 C__law_way (hr.mono (by decide)) (a3k 0 (p7 (y6 (y4 rfl) (Ev.bw (X5 (.list [.int 5,.int 9,.int 24]) rfl)) (f9 1)) (p7 (y6 (y4 rfl) (Ev.bw (X5 (.list [.int 6,.int 4,.int 2]) rfl)) (f9 1)) n4))) (a3O (p6 (p6 n5)))))))⟩
theorem X9:FnScope ["_law_house","_law_way_here","_law_numbers","_law_told"] ["_law_house","_law_way_here","_law_numbers"] (defScope s__law_gone):=⟨rfl,rfl,rfl,by decide +kernel,rfl,by decide +kernel,by decide +kernel⟩
noncomputable def f__law_gone:List DV->M PyData:=B9 ["_law_house","_law_way_here","_law_numbers","_law_told"] (mSq (q4 3 (k4 f_courses (vD (sV 0) (vD (k4 f_drained (vD (sV 0) (vD (sV 1) r9))) r9))))
  (mRt (sLC (B5 (sW 2)) 1 [3] (bN 0) E8 (sIf (uB (s2 (eqD false) (s2 ixD (s2 ixD (sW 1) (sW 0)) (sC (.int 0))) (sC (.str "gone")))) (s2 ixD (s2 ixD (sW 1) (sW 0)) (sC (.int 2))) (s1 a3G (sC (.int 1)))))))
theorem ok__law_gone {f:Addr}{fd:FuncData}(Fn:Fun K "_law_gone" "_law_gone" s__law_gone f fd)(T:Txt K mg)(C_courses:Callee P w K mg base "courses" 4 ["house","way"] (spD K 2 f_courses))(C_drained:Callee P w K mg base "drained" 6 ["house","way"] (spD K 2 f_drained)):FnOk P w K mg base CX0 7 f fd ["_law_house","_law_way_here","_law_numbers"] (spD K 3 f__law_gone):=by
 refine D3 Fn X9 λcdv A outer s H E hr=>?_
 have hu5:(A.deeper (PyProof.Rows.envOfC "_law_gone" (defScope s__law_gone) s.heap.objs.size f cdv)).units+65<cLine:=by have:=hr.un;omega
 exact⟨_,(c8 (p0 3 X9.nd (l3 C_courses (hr.mono (by decide)) (p7 (i9 0) (p7 (l3 C_drained (hr.mono (by decide)) (p7 (i9 0) (p7 (i9 1) n4)) (p6 (p6 n5))) n4)) (p6 (p6 n5))))
   (l0 (y0 (U2 (osc:=(defScope s__law_gone)) (N:=["_law_number","_law_told"]) (k:=1) (cap:=[3]) rfl rfl ⟨rfl,by decide +kernel,by decide +kernel,by decide +kernel,rfl,rfl,by decide +kernel⟩ (A0 (f9 2)) (λcl C ex pins s H=>(m7 (i:=0) (show List.Nodup (["_law_number","_law_told"]:List Str) by decide +kernel))) (λcl C ex pins s H=>z9) (λcl C ex pins s H=>(a3z (y9 (a2g rfl hr.units) (Ev.bw (y6 (y4 rfl) (Ev.bw (y6 (y4 rfl) (f9 1) (f9 0))) (Ev.bw i5))) (Ev.bw P9)) (y6 (y4 rfl) (Ev.bw (y6 (y4 rfl) (f9 1) (f9 0))) (Ev.bw i5)) (a5q a2A (Ev.bw i5))))))))⟩
end
end K29
namespace K29
open PySem L2 L3
noncomputable section
variable {P:Program}{w:World}{K:PySem.W.Frag}{mg:Str->Option Value}{base:Heap}
theorem C1:FnScope ["_law_script","_law_feed_here","_law_way_here","_law_greatest","_law_beat","_law_front","_law_numbers","_law_fronts","_law_hands","_law_due","_law_found","_law_late"] ["_law_script"] (defScope s_law):=⟨rfl,rfl,rfl,by decide +kernel,rfl,by decide +kernel,by decide +kernel⟩
noncomputable def a5f:Stmt->List Stmt
 | .For _ _ b _ _=>b
 | _=>[]
noncomputable def a0W:DE->M Out:=(q4 2 (k4 f__law_light_way (vF 1 r9)))
noncomputable def Z1:DE->M Out:=(mIf (uB (s2 (eqD false) (k4 drawS (vF 1 (vD (sC (.int 3)) r9))) (sC (.int 0)))) (q4 2 (sN m4 (a7 (sLC (B5 (sW 2)) 1 [] (bN 0) E8 (sN m4 (a7 (sLC (B5 (sW 0)) 2 [] (w4 2 (d6 (bN 0) (d6 (bN 1) w8))) E8 (z8 (a7 (sV 0) (a7 (sN a9g (a7 (sC (.int 6)) (a7 (s2 C3 (s2 C3 (sC (.int 1)) (s2 a3e (sW 1) (sC (.int 2)))) (s2 M3 (sC (.int 3)) (sW 0))) d7))) d7)))) d7))) d7))) mNx)
noncomputable def a17:DE->M Out:=(q4 3 (sC (.int 0)))
noncomputable def X4:DE->M Out:=(O0 (B5 (sV 2)) (bN 4) (q4 3 (sN a73 (a7 (s2 C3 (a41 (a7 (sV 3) d7)) (sLC (B5 (sW 4)) 2 [] (w4 2 (d6 (bN 0) (d6 (bN 1) w8))) (uB (s2 (eqD false) (sW 0) (sC (.int 1)))) (sV 1))) d7))))
noncomputable def a14:DE->M Out:=(M1 (w4 2 (d6 (bN 5) (d6 (bN 6) w8))) (k4 f_front_alone (vD (sV 2) r9)))
noncomputable def a15:DE->M Out:=(q4 7 (a0o (a7 (sN D2 (a7 (sW 6) d7)) d7)))
noncomputable def M8:DE->M Out:=(q4 9 (k4 f__law_gone (vD (z8 (a7 (sV 8) (a7 (sC .none) (a7 (sC (.str "first")) d7)))) (vD (sV 5) (vD (sV 7) r9)))))
noncomputable def M2:DE->M Out:=(mIf (uOr (uB (s2 (inD false) (s1 a3G (sC (.int 1))) (sW 9))) (uB (s2 (eqD true) (k4 f__law_gone (vD (z8 (a7 (sV 8) (a7 (sC .none) (a7 (sC (.str "frontoff")) d7)))) (vD (sV 2) (vD (sV 6) r9)))) (sW 9)))) (mRt (sC (.bool false))) mNx)
noncomputable def a38:DE->M Out:=(O0 (B5 (sC (.tuple [.int 1,.int 2,.int 3]))) (bN 8) (mSq M8 M2))
noncomputable def W9:DE->M Out:=(q4 9 (k4 f__law_gone (vD (sC (.tuple [.int 1,.none,.str "first"])) (vD (sV 5) (vD (sV 7) r9)))))
noncomputable def X7:DE->M Out:=(q4 10 (k4 f__law_gone (vD (sC (.tuple [.int 1,.none,.str "front"])) (vD (sV 2) (vD (sV 6) r9)))))
noncomputable def S4:DE->M Out:=(q4 11 (sLC (a0v (a7 (sN D2 (a7 (sW 9) d7)) d7)) 1 [10,9] (bN 0) E8 (s2 a00 (s2 ixD (sW 1) (sW 0)) (s2 ixD (sW 2) (sW 0)))))
noncomputable def P8:DE->M Out:=(mRt (s2 (eqD false) (sLC (B5 (sW 11)) 1 [3] (bN 0) (uOr (uB (s2 ltD (sW 0) (sC (.int 0)))) (uB (s2 gtD (sW 0) (sN a5h (a7 (sC (.int 0)) (a7 (s2 a00 (sW 1) (sC (.int 1))) d7)))))) (sV 0)) (sC (.list []))))
section
variable {f:Addr}{cdv:Value}{A:Around}{outer:List Env}{s:Shared}{H:Hp}{E:XK}(T:Txt K mg)(hr:Room 7 (A.deeper (PyProof.Rows.envOfC "law" (defScope s_law) s.heap.objs.size f cdv)))(hu5:(A.deeper (PyProof.Rows.envOfC "law" (defScope s_law) s.heap.objs.size f cdv)).units+65<cLine)(C__law_light_way:Callee P w K mg base "_law_light_way" 3 ["_law_feed_here"] (spD K 1 f__law_light_way))(C__law_next:Callee P w K mg base "_law_next" 1 ["_law_feed_here","_law_many"] (spD K 2 drawS))(C_front_alone:Callee P w K mg base "front_alone" 2 ["way"] (spD K 1 f_front_alone))(C__law_gone:Callee P w K mg base "_law_gone" 7 ["_law_house","_law_way_here","_law_numbers"] (spD K 3 f__law_gone))
include T hr hu5 C__law_light_way C__law_next C_front_alone C__law_gone
theorem a6U:∃ts,Ss K (J3 CX0 P w K mg base ["_law_script","_law_feed_here","_law_way_here","_law_greatest","_law_beat","_law_front","_law_numbers","_law_fronts","_law_hands","_law_due","_law_found","_law_late"] "law" (defScope s_law) f cdv A outer s H E).nox ((defBody s_law).getD 1 (.Pass ⟨0,0,0,0⟩)) ts a0W:=by
 unfold a0W
 exact⟨_,(p0 2 C1.nd (l3 C__law_light_way (hr.mono (by decide)) (a3k 1 n4) (a3O n5)))⟩
theorem a6N:∃ts,Ss K (J3 CX0 P w K mg base ["_law_script","_law_feed_here","_law_way_here","_law_greatest","_law_beat","_law_front","_law_numbers","_law_fronts","_law_hands","_law_due","_law_found","_law_late"] "law" (defScope s_law) f cdv A outer s H E).nox ((defBody s_law).getD 2 (.Pass ⟨0,0,0,0⟩)) ts Z1:=by
 unfold Z1
 exact⟨_,(W7 (y9 (a2g rfl hr.units) (Ev.bw (l3 C__law_next (hr.mono (by decide)) (a3k 1 (p7 i5 n4)) (a3O (p6 n5)))) (Ev.bw i5)) (l0 (p0 2 C1.nd (u0 (u4 rfl) T.tuple u5 (i7 (Ev.bw (U2 (osc:=(defScope s_law)) (N:=["_law_beat"]) (k:=1) (cap:=[]) rfl rfl ⟨rfl,by decide +kernel,by decide +kernel,by decide +kernel,rfl,rfl,by decide +kernel⟩ (A0 (f9 2)) (λcl C ex pins s H=>(m7 (i:=0) (show List.Nodup (["_law_beat"]:List Str) by decide +kernel))) (λcl C ex pins s H=>z9) (λcl C ex pins s H=>(u0 (u4 rfl) T.tuple u5 (i7 (Ev.bw (a48 (N:=["_law_rank","_law_work"]) (k:=2) (cap:=[]) rfl ⟨rfl,by decide +kernel,by decide +kernel,by decide +kernel,rfl,rfl,by decide +kernel⟩ (A0 (f9 0)) (λcl C ex pins s H=>(v8 (n:=2) rfl (d5 (m7 (i:=0) (show List.Nodup (["_law_rank","_law_work"]:List Str) by decide +kernel)) (d5 (m7 (i:=1) (show List.Nodup (["_law_rank","_law_work"]:List Str) by decide +kernel)) p9)))) (λcl C ex pins s H=>z9) (λcl C ex pins s H=>(z7 (d0 (i9 0) (d0 (n9 (b0J rfl rfl) T.min b0V (i7 (Ev.bw i5) (i7 (Ev.bw (z4 (C9 rfl) (Ev.bw (z4 (C9 rfl) (Ev.bw i5) (Ev.bw (z4 a9q (f9 1) (Ev.bw i5))))) (Ev.bw (z4 (a0V rfl) (Ev.bw i5) (f9 0))))) l6))) j6)))))) l6))))) l6)))) R8)⟩
theorem a7G:∃ts,Ss K (J3 CX0 P w K mg base ["_law_script","_law_feed_here","_law_way_here","_law_greatest","_law_beat","_law_front","_law_numbers","_law_fronts","_law_hands","_law_due","_law_found","_law_late"] "law" (defScope s_law) f cdv A outer s H E).nox ((defBody s_law).getD 3 (.Pass ⟨0,0,0,0⟩)) ts a17:=by
 unfold a17
 exact⟨_,(p0 3 C1.nd i5)⟩
theorem a6G:∃ts,Ss K (J3 CX0 P w K mg base ["_law_script","_law_feed_here","_law_way_here","_law_greatest","_law_beat","_law_front","_law_numbers","_law_fronts","_law_hands","_law_due","_law_found","_law_late"] "law" (defScope s_law) f cdv A outer s H E).nox ((defBody s_law).getD 4 (.Pass ⟨0,0,0,0⟩)) ts X4:=by
 unfold X4
 exact⟨_,(O3 rfl (a0f (i9 2)) (m7 (i:=4) C1.nd) (l0 (p0 3 C1.nd (n9 (b1p rfl rfl) T.max a7J (i7 (Ev.bw (z4 (C9 rfl) (Ev.bw (a4T (d0 (i9 3) j6))) (Ev.bw (U2 (osc:=(defScope s_law)) (N:=["_law_rank","_law_work"]) (k:=2) (cap:=[]) rfl rfl ⟨rfl,by decide +kernel,by decide +kernel,by decide +kernel,rfl,rfl,by decide +kernel⟩ (A0 (f9 4)) (λcl C ex pins s H=>(v8 (n:=2) rfl (d5 (m7 (i:=0) (show List.Nodup (["_law_rank","_law_work"]:List Str) by decide +kernel)) (d5 (m7 (i:=1) (show List.Nodup (["_law_rank","_law_work"]:List Str) by decide +kernel)) p9)))) (λcl C ex pins s H=>(a0Z (y9 (a2g rfl hr.units) (f9 0) (Ev.bw i5)))) (λcl C ex pins s H=>(i9 1)))))) l6)))))⟩
theorem a8b:∃ts,Ss K (J3 CX0 P w K mg base ["_law_script","_law_feed_here","_law_way_here","_law_greatest","_law_beat","_law_front","_law_numbers","_law_fronts","_law_hands","_law_due","_law_found","_law_late"] "law" (defScope s_law) f cdv A outer s H E).nox ((defBody s_law).getD 5 (.Pass ⟨0,0,0,0⟩)) ts a14:=by
 unfold a14
 exact⟨_,(N7 (l3 C_front_alone (hr.mono (by decide)) (p7 (i9 2) n4) (p6 n5)) (v8 (n:=2) rfl (d5 (m7 (i:=5) C1.nd) (d5 (m7 (i:=6) C1.nd) p9))))⟩
theorem a7e:∃ts,Ss K (J3 CX0 P w K mg base ["_law_script","_law_feed_here","_law_way_here","_law_greatest","_law_beat","_law_front","_law_numbers","_law_fronts","_law_hands","_law_due","_law_found","_law_late"] "law" (defScope s_law) f cdv A outer s H E).nox ((defBody s_law).getD 6 (.Pass ⟨0,0,0,0⟩)) ts a15:=by
 unfold a15
 exact⟨_,(p0 7 C1.nd (a3d (d0 (n9 (E9 rfl) T.len F0 (i7 (f9 6) l6)) j6) rfl T.range T.list a13))⟩
theorem a4o:∃ts,Ss K (J3 CX0 P w K mg base ["_law_script","_law_feed_here","_law_way_here","_law_greatest","_law_beat","_law_front","_law_numbers","_law_fronts","_law_hands","_law_due","_law_found","_law_late"] "law" (defScope s_law) f cdv A outer s H E).nox ((a5f ((defBody s_law).getD 7 (.Pass ⟨0,0,0,0⟩))).getD 0 (.Pass ⟨0,0,0,0⟩)) ts M8:=by
 unfold M8
 exact⟨_,(p0 9 C1.nd (l3 C__law_gone (hr.mono (by decide)) (p7 (z7 (d0 (i9 8) (d0 a0u (d0 P9 j6)))) (p7 (i9 5) (p7 (i9 7) n4))) (p6 (p6 (p6 n5)))))⟩
theorem a4G:∃ts,Ss K (J3 CX0 P w K mg base ["_law_script","_law_feed_here","_law_way_here","_law_greatest","_law_beat","_law_front","_law_numbers","_law_fronts","_law_hands","_law_due","_law_found","_law_late"] "law" (defScope s_law) f cdv A outer s H E).nox ((a5f ((defBody s_law).getD 7 (.Pass ⟨0,0,0,0⟩))).getD 1 (.Pass ⟨0,0,0,0⟩)) ts M2:=by
 unfold M2
 exact⟨_,(W7 (Ew.t (b04 (y9 (a2d rfl hu5) (Ev.bw (a5q a2A (Ev.bw i5))) (f9 9)) (a6M (y9 (b2d rfl hr.units) (Ev.bw (l3 C__law_gone (hr.mono (by decide)) (p7 (z7 (d0 (i9 8) (d0 a0u (d0 P9 j6)))) (p7 (i9 2) (p7 (i9 6) n4))) (p6 (p6 (p6 n5))))) (f9 9))))) (l0 (y0 a6S)) R8)⟩
theorem a6V:∃ts,Ss K (J3 CX0 P w K mg base ["_law_script","_law_feed_here","_law_way_here","_law_greatest","_law_beat","_law_front","_law_numbers","_law_fronts","_law_hands","_law_due","_law_found","_law_late"] "law" (defScope s_law) f cdv A outer s H E).nox ((defBody s_law).getD 7 (.Pass ⟨0,0,0,0⟩)) ts a38:=by
 obtain⟨t_law_7_0,h_law_7_0⟩:=a4o (f:=f) (cdv:=cdv) (A:=A) (outer:=outer) (s:=s) (H:=H) (E:=E) T hr hu5 C__law_light_way C__law_next C_front_alone C__law_gone
 obtain⟨t_law_7_1,h_law_7_1⟩:=a4G (f:=f) (cdv:=cdv) (A:=A) (outer:=outer) (s:=s) (H:=H) (E:=E) T hr hu5 C__law_light_way C__law_next C_front_alone C__law_gone
 exact⟨_,O3 rfl (a0f (X5 (.tuple [.int 1,.int 2,.int 3]) rfl)) (m7 (i:=8) C1.nd) (c8 h_law_7_0 (l0 h_law_7_1))⟩
theorem a8s:∃ts,Ss K (J3 CX0 P w K mg base ["_law_script","_law_feed_here","_law_way_here","_law_greatest","_law_beat","_law_front","_law_numbers","_law_fronts","_law_hands","_law_due","_law_found","_law_late"] "law" (defScope s_law) f cdv A outer s H E).nox ((defBody s_law).getD 8 (.Pass ⟨0,0,0,0⟩)) ts W9:=by
 unfold W9
 exact⟨_,(p0 9 C1.nd (l3 C__law_gone (hr.mono (by decide)) (p7 (X5 (.tuple [.int 1,.none,.str "first"]) rfl) (p7 (i9 5) (p7 (i9 7) n4))) (p6 (p6 (p6 n5)))))⟩
theorem a7b:∃ts,Ss K (J3 CX0 P w K mg base ["_law_script","_law_feed_here","_law_way_here","_law_greatest","_law_beat","_law_front","_law_numbers","_law_fronts","_law_hands","_law_due","_law_found","_law_late"] "law" (defScope s_law) f cdv A outer s H E).nox ((defBody s_law).getD 9 (.Pass ⟨0,0,0,0⟩)) ts X7:=by
 unfold X7
 exact⟨_,(p0 10 C1.nd (l3 C__law_gone (hr.mono (by decide)) (p7 (X5 (.tuple [.int 1,.none,.str "front"]) rfl) (p7 (i9 2) (p7 (i9 6) n4))) (p6 (p6 (p6 n5)))))⟩
theorem a65:∃ts,Ss K (J3 CX0 P w K mg base ["_law_script","_law_feed_here","_law_way_here","_law_greatest","_law_beat","_law_front","_law_numbers","_law_fronts","_law_hands","_law_due","_law_found","_law_late"] "law" (defScope s_law) f cdv A outer s H E).nox ((defBody s_law).getD 10 (.Pass ⟨0,0,0,0⟩)) ts S4:=by
 unfold S4
 exact⟨_,(a1Q 11 (hN:=C1.nd) (osc:=(defScope s_law)) (N:=["_law_at","_law_found","_law_due"]) (k:=1) (cap:=[10,9]) (hc:=rfl) (hosc:=rfl) (hcap:=⟨rfl,by decide +kernel,by decide +kernel,by decide +kernel,rfl,rfl,by decide +kernel⟩) (Ei.bw (a2J (d0 (n9 (E9 rfl) T.len F0 (i7 (f9 9) l6)) j6) T.range)) (λcl C ex pins s H=>(m7 (i:=0) (show List.Nodup (["_law_at","_law_found","_law_due"]:List Str) by decide +kernel))) (λcl C ex pins s H=>z9) (λcl C ex pins s H=>(z4 a0s (Ev.bw (y6 (y4 rfl) (f9 1) (f9 0))) (Ev.bw (y6 (y4 rfl) (f9 2) (f9 0))))))⟩
theorem a5O:∃ts,Ss K (J3 CX0 P w K mg base ["_law_script","_law_feed_here","_law_way_here","_law_greatest","_law_beat","_law_front","_law_numbers","_law_fronts","_law_hands","_law_due","_law_found","_law_late"] "law" (defScope s_law) f cdv A outer s H E).nox ((defBody s_law).getD 11 (.Pass ⟨0,0,0,0⟩)) ts P8:=by
 unfold P8
 exact⟨_,(y0 (a4U (a2g rfl hr.units) (Ev.bw (U2 (osc:=(defScope s_law)) (N:=["_law_many","_law_greatest"]) (k:=1) (cap:=[3]) rfl rfl ⟨rfl,by decide +kernel,by decide +kernel,by decide +kernel,rfl,rfl,by decide +kernel⟩ (A0 (f9 11)) (λcl C ex pins s H=>(m7 (i:=0) (show List.Nodup (["_law_many","_law_greatest"]:List Str) by decide +kernel))) (λcl C ex pins s H=>(a0Z (Ew.t (b04 (y9 b0c (f9 0) (Ev.bw i5)) (a6M (y9 a7i (f9 0) (Ev.bw (n9 (a8y rfl rfl) T.max a7J (i7 (Ev.bw i5) (i7 (Ev.bw (z4 a0s (f9 1) (Ev.bw i5))) l6)))))))))) (λcl C ex pins s H=>(i9 0)))) (Ev.bw (X5 (.list []) rfl))))⟩
end
noncomputable def a3a:DE->M Out:=(mSq a0W (mSq Z1 (mSq a17 (mSq X4 (mSq a14 (mSq a15 (mSq a38 (mSq W9 (mSq X7 (mSq S4 P8))))))))))
theorem b0C {α:Type}(l:List α)(d:α)(h:0<l.length):l=l.getD 0 d::l.drop 1:=by
 cases l with
 | nil=>simp at h
 | cons a r=>rfl
noncomputable def spLaw (K:PySem.W.Frag):Sp:=λvs H Q _=>∃(a:Addr) (ns:List Int),vs=[.ref a]∧SqL K H a (ns.map V.int)∧ns.length≤63∧J5 (tabsK Feeds.lam K) H∧∀H',Q (.bl true) H'
theorem a7h {f:Addr}{cdv:Value}{A:Around}{outer:List Env}{s:Shared}{H:Hp}{E:XK}(hr:Room 7 (A.deeper (PyProof.Rows.envOfC "law" (defScope s_law) s.heap.objs.size f cdv)))(CF:Callee P w K mg base "_law_feed" 1 ["_law_script"] (spFeed K)) :
  PS (J3 CX0 P w K mg base ["_law_script","_law_feed_here","_law_way_here","_law_greatest","_law_beat","_law_front","_law_numbers","_law_fronts","_law_hands","_law_due","_law_found","_law_late"] "law" (defScope s_law) f cdv A outer s H E).nox ((defBody s_law).getD 0 (.Pass ⟨0,0,0,0⟩)) (a0Q (a3W (spFeed K) [] E0 (C6 (a0N 0) V5)) (P3 1)) :=
 W2 (i:=1) C1.nd rfl (by first | exact Or.inl rfl | exact Or.inr rfl) (a2c CF (hr.mono (by decide)) rfl (m8 (pv 0) A1))
theorem ok_law {f:Addr}{fd:FuncData}(Fn:Fun K "law" "law" s_law f fd)(T:Txt K mg)(CF:Callee P w K mg base "_law_feed" 1 ["_law_script"] (spFeed K))(C__law_light_way:Callee P w K mg base "_law_light_way" 3 ["_law_feed_here"] (spD K 1 f__law_light_way))(C__law_next:Callee P w K mg base "_law_next" 1 ["_law_feed_here","_law_many"] (spD K 2 drawS))(C_front_alone:Callee P w K mg base "front_alone" 2 ["way"] (spD K 1 f_front_alone))(C__law_gone:Callee P w K mg base "_law_gone" 7 ["_law_house","_law_way_here","_law_numbers"] (spD K 3 f__law_gone))
  (fin:∀ns:List Int,ns.length≤63->∃F',a3a ([none,some .feed]++List.replicate (["_law_script","_law_feed_here","_law_way_here","_law_greatest","_law_beat","_law_front","_law_numbers","_law_fronts","_law_hands","_law_due","_law_found","_law_late"].length-2) none) (a4y ns)=some (.rt (.bool true),F')):FnOk P w K mg base CX0 8 f fd ["_law_script"] (spLaw K):=by
 refine Fn.ok C1 (λvs H Q E h=>?_) (λcdv A outer s H vs Q E hr h=>?_)
 ·obtain⟨a,ns,rfl,_⟩:=h
  rfl
 ·obtain⟨a,ns,rfl,hS,hl,tbo,k⟩:=h
  have hu5:(A.deeper (PyProof.Rows.envOfC "law" (defScope s_law) s.heap.objs.size f cdv)).units+65<cLine:=by have:=hr.un;omega
  obtain⟨t_law_1,h_law_1⟩:=a6U (f:=f) (cdv:=cdv) (A:=A) (outer:=outer) (s:=s) (H:=H) (E:=E) T hr hu5 C__law_light_way C__law_next C_front_alone C__law_gone
  obtain⟨t_law_2,h_law_2⟩:=a6N (f:=f) (cdv:=cdv) (A:=A) (outer:=outer) (s:=s) (H:=H) (E:=E) T hr hu5 C__law_light_way C__law_next C_front_alone C__law_gone
  obtain⟨t_law_3,h_law_3⟩:=a7G (f:=f) (cdv:=cdv) (A:=A) (outer:=outer) (s:=s) (H:=H) (E:=E) T hr hu5 C__law_light_way C__law_next C_front_alone C__law_gone
  obtain⟨t_law_4,h_law_4⟩:=a6G (f:=f) (cdv:=cdv) (A:=A) (outer:=outer) (s:=s) (H:=H) (E:=E) T hr hu5 C__law_light_way C__law_next C_front_alone C__law_gone
  obtain⟨t_law_5,h_law_5⟩:=a8b (f:=f) (cdv:=cdv) (A:=A) (outer:=outer) (s:=s) (H:=H) (E:=E) T hr hu5 C__law_light_way C__law_next C_front_alone C__law_gone
  obtain⟨t_law_6,h_law_6⟩:=a7e (f:=f) (cdv:=cdv) (A:=A) (outer:=outer) (s:=s) (H:=H) (E:=E) T hr hu5 C__law_light_way C__law_next C_front_alone C__law_gone
  obtain⟨t_law_7,h_law_7⟩:=a6V (f:=f) (cdv:=cdv) (A:=A) (outer:=outer) (s:=s) (H:=H) (E:=E) T hr hu5 C__law_light_way C__law_next C_front_alone C__law_gone
  obtain⟨t_law_8,h_law_8⟩:=a8s (f:=f) (cdv:=cdv) (A:=A) (outer:=outer) (s:=s) (H:=H) (E:=E) T hr hu5 C__law_light_way C__law_next C_front_alone C__law_gone
  obtain⟨t_law_9,h_law_9⟩:=a7b (f:=f) (cdv:=cdv) (A:=A) (outer:=outer) (s:=s) (H:=H) (E:=E) T hr hu5 C__law_light_way C__law_next C_front_alone C__law_gone
  obtain⟨t_law_10,h_law_10⟩:=a65 (f:=f) (cdv:=cdv) (A:=A) (outer:=outer) (s:=s) (H:=H) (E:=E) T hr hu5 C__law_light_way C__law_next C_front_alone C__law_gone
  obtain⟨t_law_11,h_law_11⟩:=a5O (f:=f) (cdv:=cdv) (A:=A) (outer:=outer) (s:=s) (H:=H) (E:=E) T hr hu5 C__law_light_way C__law_next C_front_alone C__law_gone
  obtain⟨ts,hq,hk⟩:∃ts,Sss K (J3 CX0 P w K mg base ["_law_script","_law_feed_here","_law_way_here","_law_greatest","_law_beat","_law_front","_law_numbers","_law_fronts","_law_hands","_law_due","_law_found","_law_late"] "law" (defScope s_law) f cdv A outer s H E).nox ((defBody s_law).drop 1) ts a3a:=⟨_,(c8 h_law_1 (c8 h_law_2 (c8 h_law_3 (c8 h_law_4 (c8 h_law_5 (c8 h_law_6 (c8 h_law_7 (c8 h_law_8 (c8 h_law_9 (c8 h_law_10 (l0 h_law_11)))))))))))⟩
  have h0:=a7h (P:=P) (w:=w) (K:=K) (mg:=mg) (base:=base) (f:=f) (cdv:=cdv) (A:=A) (outer:=outer) (s:=s) (H:=H) (E:=E) hr CF
  have hsp:=b0C (defBody s_law) (.Pass ⟨0,0,0,0⟩) (by decide +kernel)
  generalize List.drop 1 (defBody s_law)=R at hq hsp
  generalize (defBody s_law).getD 0 (Stmt.Pass { line:=0,col:=0,endLine:=0,endCol:=0 })=S0 at h0 hsp
  have hp:=A5 h0 hq
  rw[←hsp]at hp
  refine⟨_,hp,?_⟩
  refine⟨_,rfl,a,ns,rfl,hS,hl,λd c H1 f1 s1=>?_⟩
  obtain⟨F',e⟩:=fin ns hl
  have fat:FAt K (some (d,c)) H1 (a4y ns):=⟨f1,tbo.congr λb hb=>by
   obtain⟨o,e⟩:∃o,H b=some o:=by
    rcases hb with hb | ⟨φ,e⟩
    ·obtain⟨t,ht,rfl⟩:=List.mem_map.mp hb
     obtain⟨ps,e,_⟩:=tbo t ht
     exact⟨_,e⟩
    ·exact⟨_,e⟩
   rw[e];exact s1 b o e⟩
  refine hk (some (d,c)) (k9 K (some (d,c))) H1 _ (a4y ns) _ H1 _ _ F' ⟨⟨k9 K (some (d,c)),λ_ z=>z,λb hb=>.inl hb,⟨fat,λ_ z=>z,fat.bok,by simp[L2.K0],λi x ei=>?_⟩⟩,λ_ z=>z,Kp.refl,λi ds b ei=>?_,λi j ds es b ei=>?_⟩ e (λv H' _ _ hv=>?_)
  ·match i,ei with
   | 0,ei=>cases ei
   | 1,ei=>cases ei;exact⟨.ref d,rfl,d,c,rfl,rfl⟩
   | i+2,ei=>simp only[List.cons_append,List.nil_append,List.getElem?_cons_succ,List.getElem?_replicate]at ei;split at ei <;> cases ei
  ·match i,ei with
   | 0,ei=>cases ei
   | 1,ei=>cases ei
   | i+2,ei=>simp only[List.cons_append,List.nil_append,List.getElem?_cons_succ,List.getElem?_replicate]at ei;split at ei <;> cases ei
  ·match i,ei with
   | 0,ei=>cases ei
   | 1,ei=>cases ei
   | i+2,ei=>simp only[List.cons_append,List.nil_append,List.getElem?_cons_succ,List.getElem?_replicate]at ei;split at ei <;> cases ei
  ·simp only[b7]at hv
   subst hv
   exact k H'
end
end K29
namespace K29
open PySem L2 L3
theorem a4Q:f_courses=a0t:=rfl
theorem a4t:f_drained=a0c:=rfl
theorem a6t:f__law_light_way=a1S nmB:=rfl
theorem a3u (k:Nat):g9 (List.replicate k ([]:Bt))=0:=by
 unfold g9
 rw[List.map_replicate]
 induction k with
 | zero=>rfl
 | succ k ih=>rw[List.replicate_succ,List.sum_cons,ih];rfl
theorem a0F (a b:List Bt):g9 (a++b)=g9 a+g9 b:=by unfold g9;rw[List.map_append,List.sum_append]
theorem a8c (way:List Bt)(v:Nat):g7 (way++List.replicate v [])=g7 way:=by
 funext m
 unfold g7
 rw[List.take_append,a0F,List.take_replicate,a3u]
 rfl
theorem a7w (way:List Bt)(v:Nat):(way++List.replicate v []).flatten=way.flatten:=by
 rw[List.flatten_append]
 have:(List.replicate v ([]:Bt)).flatten=[]:=by
  induction v with
  | zero=>rfl
  | succ v ih=>rw[List.replicate_succ,List.flatten_cons,ih];rfl
 rw[this,List.append_nil]
theorem b2m (way:List Bt)(v:Nat):wkW (way++List.replicate v [])=wkW way:=by funext n;unfold wkW;rw[a7w]
theorem b2A {way:List Bt}(h:W1s way)(v:Nat):W1s (way++List.replicate v []):=λb hb=>by
 rcases List.mem_append.mp hb with hb | hb
 ·exact h b hb
 ·rw[(List.mem_replicate.mp hb).2];intro c hc;cases hc
noncomputable def Gn (h:Nat)(way:List Bt)(M:Nat):Prop:=∀k,k<g9 way->fL h (g7 way) (wkW way) M k=0
noncomputable abbrev moW (way:List Bt)(h M:Nat)(k:Nat):Nat:=fM h (g7 way) (wkW way) M k
theorem W5 {way:List Bt}(hw:WayOk 24 way):W1s way:=λb hb c hc=>(hw.ok b hb c hc).2.2.1
noncomputable abbrev pf (c:Int×Int):Bool:=decide (c.1=0)
noncomputable def frW (way:List Bt):List Bt:=way.map λb=>b.filter pf
noncomputable abbrev O5 (way:List Bt):List Nat:=(List.range (g9 way)).filter (isF (rkW way))
theorem a4b {α:Type}(d:α)(p:α->Bool)(l:List α):l.filter p=((List.range l.length).filter λi=>p (l.getD i d)).map λi=>l.getD i d:=by
 have e:=B1 d (λx:α=>x) l
 rw[List.map_id']at e
 conv=>lhs;rw[←e]
 rw[List.filter_map]
 rfl
theorem a5e (way:List Bt):(frW way).flatten=way.flatten.filter pf:=by
 unfold frW
 rw[List.filter_flatten]
theorem a5z (way:List Bt):(frW way).flatten=(O5 way).map λi=>way.flatten.getD i (0,0):=by
 rw[a5e,a4b ((0:Int),(0:Int)) pf way.flatten,B8]
 rfl
theorem O7 (way:List Bt):g9 (frW way)=KF (g9 way) (rkW way):=by
 rw[←B8,a5z,List.length_map]
theorem b0f {way:List Bt}{k:Nat}(hk:k<KF (g9 way) (rkW way)):wkW (frW way) k=wkW way (nuF (g9 way) (rkW way) k):=by
 unfold wkW
 rw[a5z,List.getD_eq_getElem?_getD,List.getElem?_map,List.getElem?_eq_getElem hk]
 unfold nuF
 rw[a0p hk]
 rfl
theorem a6R (way:List Bt)(m:Nat):g7 (frW way) m=cnF (g7 way) (rkW way) m:=by
 have e1:g7 (frW way) m=((way.take m).flatten.filter pf).length:=by
  unfold g7
  rw[←B8]
  have:(frW way).take m=frW (way.take m):=by unfold frW;rw[List.map_take]
  rw[this,a5e]
 have e2:way.flatten=(way.take m).flatten++(way.drop m).flatten:=by rw[←List.flatten_append,List.take_append_drop]
 have hl:(way.take m).flatten.length=g7 way m:=by rw[B8];rfl
 rw[e1,a4b ((0:Int),(0:Int)) pf (way.take m).flatten,List.length_map,hl]
 unfold cnF
 congr 1
 refine List.filter_congr λi hi=>?_
 have hi:=List.mem_range.mp hi
 show decide (((way.take m).flatten.getD i (0,0)).1=0)=decide ((way.flatten.getD i (0,0)).1=0)
 rw[e2,List.getD_eq_getElem?_getD,List.getD_eq_getElem?_getD,List.getElem?_append_left (by omega)]
theorem a3l {way:List Bt}(hw:WayOk 24 way):WayOk 24 (frW way) where
 len:=by unfold frW;rw[List.length_map];exact hw.len
 many:=by
  rw[O7]
  have:=List.length_filter_le (isF (rkW way)) (List.range (g9 way))
  rw[List.length_range]at this
  have:=hw.many
  unfold KF
  omega
 ok:=λb hb c hc=>by
  obtain⟨b0,hb0,rfl⟩:=List.mem_map.mp hb
  exact hw.ok b0 hb0 c (List.mem_filter.mp hc).1
theorem a1u (way:List Bt):∀m,m≤way.length->((List.range m).map λm=>((List.range (c6 way m).length).filter λj=>pf ((c6 way m).getD j (0,0))).map λj=>g7 way m+j).flatten=(List.range (g7 way m)).filter (isF (rkW way))
 | 0,_=>rfl
 | m+1,hm=>by
  have ih:=a1u way m (by omega)
  rw[List.range_succ,List.map_append,List.flatten_append,ih,C5 (by omega),M7,List.filter_append]
  congr 1
  simp only[List.map_cons,List.map_nil,List.flatten_cons,List.flatten_nil,List.append_nil]
  rw[List.filter_map]
  congr 1
  refine List.filter_congr λj hj=>?_
  have hj:=List.mem_range.mp hj
  show decide (((c6 way m).getD j (0,0)).1=0)=decide ((way.flatten.getD (g7 way m+j) (0,0)).1=0)
  rw[a3D (by omega) hj]
section
variable {F:FdS}{Q:PyData->FdS->Prop}
theorem b2l {α:Type}{x y:α->PyData}{o0:Option DV}:∀(ds:List α) (o1 o2:Option DV) (F:FdS) (Q:List PyData×DE->FdS->Prop),(∀o1 o2,Q (ds.map y,[o0,o1,o2]) F) ->
  wp (a39 (w4 2 (d6 (bN 1) (d6 (bN 2) w8))) E8 (sV 2) (ds.map λd=>.tuple [x d,y d]) [o0,o1,o2] F) Q
 | [],o1,o2,F,Q,q=>c7.mpr (q o1 o2)
 | d::ds,o1,o2,F,Q,q=>by
  rw[List.map_cons,a39]
  have e:w4 2 (d6 (bN 1) (d6 (bN 2) w8)) (.tuple [x d,y d]) [o0,o1,o2]=some [o0,some (.dat (x d)),some (.dat (y d))]:=rfl
  rw[e,Option.bind_some,b8]
  refine a1C.mpr ?_
  rw[if_pos rfl,b8]
  refine l7.mpr (l8 rfl ?_)
  rw[b8]
  refine b2l ds _ _ F _ λo1 o2=>c7.mpr (q o1 o2)
theorem b03 {α β:Type}{x y:β->α->PyData}{g:β->List α}:∀(ms:List β) (o0 o1 o2:Option DV) (F:FdS) (Q:List PyData->FdS->Prop),Q ((ms.map λm=>(g m).map (y m)).flatten) F ->
  wp (a0M (bN 0) E8 (B5 (sV 0)) (w4 2 (d6 (bN 1) (d6 (bN 2) w8))) E8 (sV 2) (ms.map λm=>.list ((g m).map λd=>.tuple [x m d,y m d])) [o0,o1,o2] F) Q
 | [],o0,o1,o2,F,Q,q=>c7.mpr q
 | m::ms,o0,o1,o2,F,Q,q=>by
  rw[List.map_cons,a0M]
  have e:bN 0 (.list ((g m).map λd=>.tuple [x m d,y m d])) [o0,o1,o2]=some [some (.dat (.list ((g m).map λd=>.tuple [x m d,y m d]))),o1,o2]:=rfl
  rw[e,Option.bind_some,b8]
  refine a1C.mpr ?_
  rw[if_pos rfl,b8]
  refine v7.mpr (l7.mpr (l8 rfl (c9 G6 ?_)))
  rw[b8]
  refine b2l (g m) o1 o2 F _ λo1 o2=>?_
  rw[b8]
  refine b03 ms _ _ _ F _ (c7.mpr ?_)
  rw[List.map_cons,List.flatten_cons]at q
  exact q
noncomputable abbrev enD (way:List Bt)(m j:Nat):PyData:=.tuple [cmD ((c6 way m).getD j (0,0)),.int ((g7 way m+j:Nat):Int)]
noncomputable abbrev a47 (way:List Bt)(l:Nat->List Nat)(n:Nat):List PyData:=(List.range n).map λm=>.list ((l m).map (enD way m))
theorem a4n {way:List Bt}(hw:WayOk 24 way)(q:Q (.list (a47 way (λm=>List.range (c6 way m).length) way.length)) F):wp (f_numbered [.dat (.tuple (way.map btD))] F) Q:=by
 have h1:=hw.len
 have h2:=hw.many
 unfold f_numbered
 refine P2.mpr ?_
 dsimp only[v6,List.map_cons,List.map_nil,List.length_cons,List.length_nil,List.replicate,List.cons_append,List.nil_append,Nat.reduceAdd,Nat.reduceSub]
 refine j7.mpr (a2y.mpr (O9.mpr (d9.mpr ⟨sz (by decide),k8 rfl,i8 (j7.mpr ?_)⟩)))
 refine t7.mpr (n8.mpr ⟨k8 rfl,i8 (j7.mpr ?_)⟩)
 refine Q8.mpr (v7.mpr (l7.mpr (l8 rfl (c9 G0 ?_))))
 refine G2 (λm E F'=>F'=F∧∃o3,E=[some (.dat (.tuple (way.map btD))),some (.own (a47 way (λm=>List.range (c6 way m).length) m)),some (.dat (.int (g7 way m:Nat))),o3]) _ 0 _ F ⟨rfl,none,rfl⟩ ?_ ?_
 ·rintro m d e E F1 ⟨rfl,o3,rfl⟩
  rw[Nat.zero_add]
  obtain⟨hm,rfl⟩:=a4x e
  have hb:(c6 way m).length≤40:=by have h3:=B3 hm;have h4:=S8 way (m+1);omega
  refine⟨_,rfl,j7.mpr ?_⟩
  refine a0C rfl (by rw[List.length_map,List.length_range];omega) (J0.mpr (a2v (j2.mpr (j9 rfl (c9 G0 ?_)))))
  have een:A7 0 ((c6 way m).map cmD)=(List.range (c6 way m).length).map λi=>.tuple [.int (i:Int),cmD ((c6 way m).getD i (0,0))]:=by
   have e:=B1 ((0:Int),(0:Int)) cmD (c6 way m)
   rw[←e]
   exact a8Q _ _
  rw[een]
  refine⟨sz (by simp;omega),?_⟩
  refine a43 (x:=λi:Nat=>.int (i:Int)) (y:=λi=>cmD ((c6 way m).getD i (0,0))) (f:=enD way m) _ _ _ (λi hi F Q q=>?_) ?_
  ·refine C2.mpr (b9.mpr (l7.mpr (l8 rfl (b9.mpr (n6.mpr (j2.mpr (j9 rfl (j2.mpr (j9 rfl (c9 a2Z (d9.mpr ⟨u6 rfl,?_⟩)))))))))))
   have e:((g7 way m:Nat):Int)+(i:Nat)=((g7 way m+i:Nat):Int):=by omega
   rw[e]
   exact q
  refine i8 (a31 rfl (E3.mpr (b9.mpr (j2.mpr (j9 rfl (d9.mpr (c9 Q9 ⟨_,rfl,?_⟩)))))))
  have e1:a47 way (λm=>List.range (c6 way m).length) (m+1)=a47 way (λm=>List.range (c6 way m).length) m++[.list ((List.range (c6 way m).length).map (enD way m))]:=by
   unfold a47
   rw[List.range_succ,List.map_append]
   rfl
  have e2:((g7 way m:Nat):Int)+(((c6 way m).map cmD).length:Nat)=((g7 way (m+1):Nat):Int):=by rw[List.length_map,C5 hm];omega
  exact⟨_,rfl,rfl,_,by rw[e1,←e2];rfl⟩
 ·rintro E F1 ⟨rfl,o3,rfl⟩
  rw[Nat.zero_add,List.length_map]
  exact i8 (L0.mpr (j2.mpr (Y0 rfl (N4 q))))
noncomputable abbrev fsJ (way:List Bt)(m:Nat):List Nat:=(List.range (c6 way m).length).filter λj=>pf ((c6 way m).getD j (0,0))
theorem a9B {way:List Bt}(hw:WayOk 24 way)(q:Q (.tuple [.tuple ((frW way).map btD),.tuple (g8 (O5 way))]) F):wp (f_front_alone [.dat (.tuple (way.map btD))] F) Q:=by
 have h1:=hw.len
 have h2:=hw.many
 have hbl:∀m,m<way.length->(c6 way m).length≤40:=λm hm=>by have h3:=B3 hm;have h4:=S8 way (m+1);omega
 have hfl:∀m,m<way.length->(fsJ way m).length≤40:=λm hm=>by
  have:=List.length_filter_le (λj=>pf ((c6 way m).getD j (0,0))) (List.range (c6 way m).length)
  rw[List.length_range]at this
  have:=hbl m hm
  unfold fsJ
  omega
 unfold f_front_alone
 refine P2.mpr ?_
 dsimp only[v6,List.map_cons,List.map_nil,List.length_cons,List.length_nil,List.replicate,List.cons_append,List.nil_append,Nat.reduceAdd,Nat.reduceSub]
 refine L0.mpr (r8.mpr (y8.mpr (J0.mpr (v7.mpr (r8.mpr (y8.mpr (l7.mpr (l8 rfl (v9.mpr (a4n hw (c9 G6 ⟨sz (by simp;omega),?_⟩)))))))))))
 refine a7A (x:=λm=>.list ((List.range (c6 way m).length).map (enD way m))) (f:=λm=>.list ((fsJ way m).map (enD way m))) _ _ (λm hm F Q q=>?_) (v9.mpr ?_)
 ·have hm:=List.mem_range.mp hm
  have:=hbl m hm
  refine J0.mpr (v7.mpr (j2.mpr (j9 rfl (c9 G6 ⟨sz (by simp;omega),?_⟩))))
  refine b2M (x:=enD way m) (g:=λj=>pf ((c6 way m).getD j (0,0))) (f:=enD way m) _ _ (λj hj F Q q=>?_) (λj hj _ F Q q=>l7.mpr (l8 rfl q)) q
  exact P4.mpr (n6.mpr (n6.mpr (n6.mpr (j2.mpr (j9 rfl (n8.mpr (c9 rfl (n8.mpr (c9 rfl (n8.mpr (c9 eq0 (c9 rfl q))))))))))))
 unfold f_told_way
 refine P2.mpr ?_
 dsimp only[v6,List.map_cons,List.map_nil,List.length_cons,List.length_nil,List.replicate,List.cons_append,List.nil_append,Nat.reduceAdd,Nat.reduceSub]
 refine j7.mpr (t7.mpr (E3.mpr (b9.mpr (J0.mpr (v7.mpr (j2.mpr (j9 rfl (c9 G6 ⟨sz (by simp;omega),?_⟩))))))))
 refine a7A (x:=λm=>.list ((fsJ way m).map (enD way m))) (f:=λm=>btD ((c6 way m).filter pf)) _ _ (λm hm F Q q=>?_) (d9.mpr (c9 W4 ⟨k8 rfl,i8 ?_⟩))
 ·have hm:=List.mem_range.mp hm
  have:=hfl m hm
  refine E3.mpr (b9.mpr (J0.mpr (v7.mpr (j2.mpr (j9 rfl (c9 G6 ⟨sz (by rw[List.length_map];omega),?_⟩))))))
  refine a43 (x:=λj=>cmD ((c6 way m).getD j (0,0))) (y:=λj=>.int ((g7 way m+j:Nat):Int)) (f:=λj=>cmD ((c6 way m).getD j (0,0))) _ _ _ (λj hj F Q q=>l7.mpr (l8 rfl q)) (d9.mpr (c9 W4 ?_))
  have e:(fsJ way m).map (λj=>cmD ((c6 way m).getD j (0,0)))=((c6 way m).filter pf).map cmD:=by
   rw[a4b ((0:Int),(0:Int)) pf (c6 way m),List.map_map]
   rfl
  rw[e]
  exact q
 have e1:(List.range way.length).map (λm=>btD ((c6 way m).filter pf))=(frW way).map btD:=by
  have:=B1 ([]:Bt) (λb:Bt=>btD (b.filter pf)) way
  unfold frW
  rw[List.map_map]
  exact this
 rw[e1]
 refine L0.mpr (C2.mpr (b9.mpr (l7.mpr (l8 rfl (b9.mpr (E3.mpr (b9.mpr ?_)))))))
 unfold a8G
 rw[b8]
 refine v7.mpr (j2.mpr (j9 rfl (c9 G6 ?_)))
 dsimp only
 rw[b8]
 refine b03 (x:=λm j=>cmD ((c6 way m).getD j (0,0))) (y:=λm j=>.int ((g7 way m+j:Nat):Int)) (g:=fsJ way) (List.range way.length) _ _ _ _ _ ?_
 have e2:((List.range way.length).map λm=>(fsJ way m).map λj=>PyData.int ((g7 way m+j:Nat):Int)).flatten=g8 (O5 way):=by
  have:=a1u way way.length (Nat.le_refl _)
  have h5:g7 way way.length=g9 way:=by unfold g7;rw[List.take_length]
  rw[h5]at this
  unfold O5 g8
  rw[←this,List.map_flatten,List.map_map]
  congr 1
  refine List.map_congr_left λm _=>?_
  show _=List.map _ (List.map _ _)
  rw[List.map_map]
  rfl
 dsimp only
 rw[e2]
 have hnl:(g8 (O5 way)).length≤sizeLine:=by
  rw[x9]
  have:=List.length_filter_le (isF (rkW way)) (List.range (g9 way))
  rw[List.length_range]at this
  exact sz (by unfold O5;omega)
 rw[if_pos hnl]
 exact c7.mpr (d9.mpr (c9 W4 (d9.mpr ⟨u6 rfl,N4 q⟩)))
end
theorem b00 {h:Nat}{cnt:Nat->Nat}{w:Nat->Int}(k:Nat):∀m,fM h cnt w m k≤m
 | 0=>Nat.le_refl _
 | m+1=>by
  have:=b00 (h:=h) (cnt:=cnt) (w:=w) k m
  rw[fM]
  split <;> omega
theorem a1d {h K:Nat}{cnt:Nat->Nat}{w w':Nat->Int}(hw:∀j,j<K->w j=w' j):∀m j,j<K->fL h cnt w m j=fL h cnt w' m j∧fM h cnt w m j=fM h cnt w' m j
 | 0,j,hj=>⟨hw j hj,rfl⟩
 | m+1,j,hj=>by
  have ih:=λi hi=>a1d (h:=h) (cnt:=cnt) hw m i hi
  have hp:∀i,i<K->prs (cnt (m+1)) (fL h cnt w m) i=prs (cnt (m+1)) (fL h cnt w' m) i:=λi hi=>by unfold prs;rw[(ih i hi).1]
  have hk:pkd h (cnt (m+1)) (fL h cnt w m) j=pkd h (cnt (m+1)) (fL h cnt w' m) j:=by
   unfold pkd
   have e:(List.range j).filter (prs (cnt (m+1)) (fL h cnt w m))=(List.range j).filter (prs (cnt (m+1)) (fL h cnt w' m)):=List.filter_congr λi hi=>hp i (Nat.lt_trans (List.mem_range.mp hi) hj)
   rw[hp j hj,e]
  refine⟨?_,?_⟩
  ·show nxt _ _ _ j=nxt _ _ _ j
   unfold nxt
   rw[hk,(ih j hj).1]
  ·rw[fM,fM,hk,(ih j hj).1,(ih j hj).2]
theorem a9U {h k:Nat}{kp:Bool}{cnt:Nat->Nat}{rk w:Nat->Int}(hw:∀n,0≤w n):∀m n,0≤(gS h k kp cnt rk w m).L n
 | 0,n=>hw n
 | m+1,n=>by
  have ih:=a9U (h:=h) (k:=k) (kp:=kp) (cnt:=cnt) (rk:=rk) hw m n
  show 0≤nxL _ _ _ _ _ _ _ n
  unfold nxL
  by_cases hp:pkG h k kp (cnt (m+1)) rk (gS h k kp cnt rk w m).L (gS h k kp cnt rk w m).B n=true
  ·rw[if_pos hp]
   have:=(a1K hp).2
   omega
  ·rw[if_neg hp]
   exact ih
theorem b2R (way:List Bt)(v:Nat):rkW (way++List.replicate v [])=rkW way:=by funext n;unfold rkW;rw[a7w]
section
variable {F:FdS}{Q:PyData->FdS->Prop}
theorem a7X {h k:Nat}{kp:Bool}{r dn:PyData}{ns:List Nat}{way:List Bt}(hr:r∈W8)(k3:kOf r=k)(kk:kb r=kp)(kt:tnB r=false)(hh:1≤h)(hw:WayOk 24 way)(hd:a1T dn=some (g8 ns))(hnl:ns.length≤g9 way)(hns:∀n∈ns,n<g9 way)
  (q:∀m,m≤600->(∀n,n<g9 way->(gwS h k kp way m).L n=0)->Q (.list (ns.map λn=>.int (((gwS h k kp way m).M n:Nat):Int))) F) :
  wp (f__law_gone [.dat (.tuple [.int (h:Int),.none,r]),.dat (.tuple (way.map btD)),.dat dn] F) Q:=by
 have h1:=hw.len
 have h2:=hw.many
 have hsum:∀{i:Nat},i≤way.length->a0O (G8 (l9 h (kOf r) (kb r) (tnB r) none) [] way i)∧L8 (G8 (l9 h (kOf r) (kb r) (tnB r) none) [] way i)≤6*g9 (way.take i):=by
  intro i
  induction i with
  | zero=>intro _;rw[M9];exact⟨λp hp=>(by cases hp),by show(0:Int)≤_;omega⟩
  | succ i ih =>
   intro hi
   obtain⟨a1,a2⟩:=ih (by omega)
   have hb:b2a (c6 way i):=λc hc=>(a3C hw.ok i c hc).2.2.1
   have hs:=a8H (a3C hw.ok i)
   have f1:=a9b a1 hb
   have f2:=a6Z (G8 (l9 h (kOf r) (kb r) (tnB r) none) [] way i) (c6 way i)
   rw[T4 (by omega),B3 (by omega)]
   unfold l9 at f1 f2 a2 ⊢
   refine⟨a3w f1,?_⟩
   rw[a2h f1]
   omega
 unfold f__law_gone
 rw[a4Q,a4t]
 refine P2.mpr ?_
 dsimp only[v6,List.map_cons,List.map_nil,List.length_cons,List.length_nil,List.replicate,List.cons_append,List.nil_append,Nat.reduceAdd,Nat.reduceSub]
 refine j7.mpr (t7.mpr (r8.mpr (y8.mpr (l7.mpr (l8 rfl (y8.mpr (r8.mpr (y8.mpr (l7.mpr (l8 rfl (y8.mpr (l7.mpr (l8 rfl (v9.mpr ?_))))))))))))))
 have hS:=hsum (Nat.le_refl way.length)
 refine a4v (pl:=none) hr hh (λi _ v hv=>by cases hv) (λv w hv=>by cases hv) (by omega) (by omega) hS.1 (by
  have:=hS.2
  rw[List.take_length]at this
  show L8 (G8 (l9 h (kOf r) (kb r) (tnB r) none) [] way way.length)≤500
  omega) λv hv hvoid=>v9.mpr ?_
 have hwV:=b2A (W5 hw) v
 have hlV:(way++List.replicate v []).length=way.length+v:=by simp
 refine a4w (pl:=none) hr (λi _ v hv=>by cases hv) (by rw[a0F,a3u];omega) (by rw[hlV];omega) ?_
 obtain⟨c1,_,c3⟩:=a9I (h:=h) (k:=k) (kp:=kp) hwV (way++List.replicate v []).length (Nat.le_refl _)
 have hst:(G9 h k kp false none (way++List.replicate v []) (way++List.replicate v []).length).st=[]:=by
  rw[a2L (Nat.le_refl _),hlV,b0m]
  rw[k3,kk,kt]at hvoid
  exact hvoid
 rw[k3,kk,kt,c3]
 rw[hst]at c1
 have hcnt:g7 (way++List.replicate v []) (way++List.replicate v []).length=g9 way:=by rw[hlV,a8c,a7D (by omega)]
 have hg:gwS h k kp (way++List.replicate v []) (way++List.replicate v []).length=gwS h k kp way (way.length+v):=by
  unfold gwS
  rw[a8c,b2m,b2R,hlV]
 have hz:∀n,n<g9 way->(gwS h k kp way (way.length+v)).L n=0:=λn hn=>by
  have hnn:0≤(gwS h k kp way (way.length+v)).L n:=a9U (a2T (W5 hw)) _ _
  by_cases hp:0<(gwS h k kp way (way.length+v)).L n
  ·have hins:f8 (g7 (way++List.replicate v []) (way++List.replicate v []).length) (gwS h k kp (way++List.replicate v []) (way++List.replicate v []).length).L=[]:=List.map_eq_nil_iff.mp c1.symm
   have hm:n∈f8 (g7 (way++List.replicate v []) (way++List.replicate v []).length) (gwS h k kp (way++List.replicate v []) (way++List.replicate v []).length).L:=by
    rw[q5,hcnt,hg]
    exact⟨hn,hp⟩
   rw[hins]at hm
   cases hm
  ·omega
 refine⟨k8 rfl,i8 ?_⟩
 refine L0.mpr (J0.mpr (v7.mpr (j2.mpr (j9 rfl (c9 hd ⟨sz (by rw[x9];omega),?_⟩)))))
 refine a7A (x:=λi:Nat=>PyData.int (i:Int)) (f:=λn=>.int (((gwS h k kp way (way.length+v)).M n:Nat):Int)) _ _ (λn hn F Q q=>?_) (N4 (q (way.length+v) (by omega) hz))
 have hnN:=hns n hn
 have hat:ixD (.list (((List.range (g7 (way++List.replicate v []) (way++List.replicate v []).length)).map (coG h k kp (way++List.replicate v []) (way++List.replicate v []).length)).map coD)) (.int (n:Int))=some (coD (.gone (arW (way++List.replicate v []) n) ((gwS h k kp way (way.length+v)).M n) ((gwS h k kp way (way.length+v)).W n))):=by
  have hl:n<((List.range (g7 (way++List.replicate v []) (way++List.replicate v []).length)).map (coG h k kp (way++List.replicate v []) (way++List.replicate v []).length)).length:=by rw[List.length_map,List.length_range,hcnt];exact hnN
  rw[a9L hl]
  congr 2
  rw[List.getD_eq_getElem?_getD,List.getElem?_map,List.getElem?_eq_getElem (by rw[List.length_range,hcnt];exact hnN)]
  simp only[List.getElem_range,Option.map_some,Option.getD_some]
  unfold coG
  rw[hg,if_neg (by rw[hz n hnN];decide)]
 exact a1R.mpr (P4.mpr (n6.mpr (n6.mpr (n6.mpr (j2.mpr (j9 rfl (j2.mpr (j9 rfl (c9 hat (n8.mpr (c9 rfl (n8.mpr (c9 a8Y (c9 rfl (J8 rfl (n6.mpr (n6.mpr (j2.mpr (j9 rfl (j2.mpr (j9 rfl (c9 hat (n8.mpr (c9 rfl q))))))))))))))))))))))))
theorem a5y {h:Nat}{kp:Bool}{r:PyData}{way:List Bt}(hr:r∈W8)(k3:kOf r=3)(kk:kb r=kp)(kt:tnB r=false)(hh:1≤h)(hw:WayOk 24 way)
  (q:∀m,m≤600->(∀n,n<g9 way->(gwS h 3 kp way m).L n=0)->Q (.list ((O5 way).map λn=>.int (((gwS h 3 kp way m).M n:Nat):Int))) F) :
  wp (f__law_gone [.dat (.tuple [.int (h:Int),.none,r]),.dat (.tuple (way.map btD)),.dat (.tuple (g8 (O5 way)))] F) Q :=
 a7X hr k3 kk kt hh hw G0 (by
  have:=List.length_filter_le (isF (rkW way)) (List.range (g9 way))
  rwa [List.length_range]at this) (λn hn=>List.mem_range.mp (List.mem_filter.mp hn).1) q
theorem a4Z {h:Nat}{way:List Bt}(hh:1≤h)(hw:WayOk 24 way)(q:∀M,M≤600->Gn h way M->Q (.list ((List.range (g9 way)).map λk=>.int ((moW way h M k:Nat):Int))) F) :
  wp (f__law_gone [.dat (fiD h),.dat (.tuple (way.map btD)),.dat (.list (g8 (List.range (g9 way))))] F) Q :=
 a7X (k:=0) (kp:=true) (by simp[W8]) (by decide +kernel) (by decide +kernel) (by decide +kernel) hh hw G6 (by rw[List.length_range];omega) (λn hn=>List.mem_range.mp hn) λm hm hz=>by
  obtain⟨e1,_,e3⟩:=a3v (h:=h) (cnt:=g7 way) (rk:=rkW way) (w:=wkW way) m
  rw[e3]
  rw[e1]at hz
  exact q m hm hz
end
theorem b39 {x y:Int}:a9g [.int x,.int y]=some (.int (min x y)):=by
 show some (PyData.int (if y<x then y else x))=_
 congr 2
 by_cases h:y<x
 ·rw[if_pos h];omega
 ·rw[if_neg h];omega
theorem b2V {x:Int}:a5h [.int 0,.int x]=some (.int (max 0 x)):=by
 show some (PyData.int (if x > 0 then x else 0))=_
 congr 2
 by_cases h:x > 0
 ·rw[if_pos h];omega
 ·rw[if_neg h];omega
theorem a9X {a b:Int}:eqD false (.int a) (.int b)=some (.bool (decide (a=b))):=by
 show some (PyData.bool (if false=true then !(PyData.int _).eqv (.int _) else(PyData.int _).eqv (.int _)))=_
 rw[if_neg (by decide),a1j]
theorem b37 {i j:Int}(h1:i.natAbs≤100000)(h2:j.natAbs≤100000):M3 (.int i) (.int j)=some (.int (i*j)):=by
 have h:100000<a3T:=Nat.lt_of_lt_of_le (show 100000<2 ^ 4000 from Nat.lt_of_lt_of_le (show 100000<2 ^ 20 by decide) (Nat.pow_le_pow_right (by decide) (by decide))) (a8L (by decide))
 exact b1V (by omega) (by omega)
theorem a1n:∀ns:List Int,G4 (ns.map .int)=some ns
 | []=>rfl
 | n::ns=>by
  show(G4 (ns.map .int)).map (n :: ·)=_
  rw[a1n ns]
  rfl
theorem b2P {n:Int}{ns:List Int}:a73 [.list ((n::ns).map .int)]=some (.int (a0R (n::ns))):=by
 unfold a73
 dsimp only
 rw[a1n,Option.bind_some,if_neg (by simp)]
theorem b1B {n:Nat}{f:Nat->Nat}(h:∀k,k<n->f k≤1000):inD false (.int (-1)) (.list ((List.range n).map λk=>.int ((f k:Nat):Int)))=some (.bool false):=by
 show(if _ then some (PyData.bool _) else none)=_
 rw[if_pos ⟨(a5B (n:=n) (f:=λk=>((f k:Nat):Int)) λk hk=>by have:=h k hk;omega).shaped (by decide) (by decide),(a8C (n:=0) (i:=-1) (by omega) (by omega)).shaped (by decide) (by decide)⟩]
 congr 2
 rw[if_neg (by decide),List.any_eq_false]
 intro x hx
 obtain⟨k,_,rfl⟩:=List.mem_map.mp hx
 rw[a1j,decide_eq_true_eq]
 omega
theorem nil_eq:eqD false (.list []) (.list [])=some (.bool true):=rfl
noncomputable abbrev rwt (c:Int×Int):Int×Int:=(c.1,min 6 (1+c.2 / 2+3*c.1))
theorem b0h {way:List Bt}(hw:WayOk 24 way):WayOk 24 (way.map λb=>b.map rwt) where
 len:=by rw[List.length_map];exact hw.len
 many:=by
  have:g9 (way.map λb=>b.map rwt)=g9 way:=by
   unfold g9
   rw[List.map_map]
   congr 1
   refine List.map_congr_left λb _=>?_
   simp
  rw[this]
  exact hw.many
 ok:=λb hb c hc=>by
  obtain⟨b0,hb0,rfl⟩:=List.mem_map.mp hb
  obtain⟨c0,hc0,rfl⟩:=List.mem_map.mp hc
  obtain⟨a1,a2,a3,a4⟩:=hw.ok b0 hb0 c0 hc0
  exact⟨a1,a2,by show 1≤min 6 (1+c0.2 / 2+3*c0.1);omega,by show min 6 (1+c0.2 / 2+3*c0.1)≤6;omega⟩
theorem a3M {b:Bt}:∀{way:List Bt},b∈way->b.length≤g9 way
 | c::way,h=>by
  have e:g9 (c::way)=c.length+g9 way:=by unfold g9;rw[List.map_cons,List.sum_cons]
  rw[e]
  rcases List.mem_cons.mp h with rfl | h
  ·omega
  ·have:=a3M h;omega
section
variable {F:FdS}{Q:Out->FdS->Prop}{way:List Bt}
theorem b2W (hw:WayOk 24 way)(hF:F.t<199999){o3 o4 o5 o6 o7 o8 o9 o10 o11:Option DV}(q:∀(way:List Bt) (F':FdS),WayOk 24 way->F'.t≤F.t+1->Q (.nx [none,some .feed,some (.dat (.tuple (way.map btD))),o3,o4,o5,o6,o7,o8,o9,o10,o11]) F') :
  wp (Z1 [none,some .feed,some (.dat (.tuple (way.map btD))),o3,o4,o5,o6,o7,o8,o9,o10,o11] F) Q:=by
 have h1:=hw.len
 have h2:=hw.many
 unfold Z1
 refine Y8.mpr (P4.mpr (n6.mpr (r8.mpr (b0S.mpr (b11 rfl (y8.mpr (n8.mpr (v9.mpr ?_))))))))
 refine T7 (by decide) (by decide) (by omega) λx F1 x0 x1 t1=>n8.mpr (c9 a9X (c9 rfl (U3 (λ_=>?_) λ_=>a2m.mpr (q way F1 hw (by omega)))))
 refine t7.mpr (E3.mpr (b9.mpr (J0.mpr (v7.mpr (j2.mpr (j9 rfl (c9 G0 ⟨sz (by rw[List.length_map];omega),?_⟩)))))))
 refine a7A (x:=btD) (f:=λb=>btD (b.map rwt)) _ _ (λb hb F Q q=>?_) (d9.mpr (c9 W4 ⟨k8 rfl,?_⟩))
 ·have hbl:b.length≤40:=by
   have:b.length≤g9 way:=by
    exact a3M hb
   omega
  refine E3.mpr (b9.mpr (J0.mpr (v7.mpr (j2.mpr (j9 rfl (c9 G0 ⟨sz (by rw[List.length_map];omega),?_⟩))))))
  refine a43 (x:=λc:Int×Int=>.int c.1) (y:=λc=>.int c.2) (f:=λc=>cmD (rwt c)) _ _ _ (λc hc F Q q=>?_) (d9.mpr (c9 W4 ?_))
  ·obtain⟨a1,a2,a3,a4⟩:=hw.ok b hb c hc
   refine C2.mpr (b9.mpr (l7.mpr (l8 rfl (b9.mpr (E3.mpr (b9.mpr (n8.mpr (b9.mpr (n6.mpr (n6.mpr (n8.mpr (n6.mpr (j2.mpr (j9 rfl (n8.mpr (c9 b1Y (c9 a2Z (n6.mpr (n8.mpr (j2.mpr (j9 rfl (c9 (b37 (by decide) (by omega)) (c9 a2Z (d9.mpr (c9 b39 (d9.mpr ⟨u6 rfl,q⟩))))))))))))))))))))))))))
  have e:b.map (λc=>cmD (rwt c))=(b.map rwt).map cmD:=by rw[List.map_map];rfl
  rw[e]
  exact q
 have e:way.map (λb=>btD (b.map rwt))=(way.map λb=>b.map rwt).map btD:=by rw[List.map_map];rfl
 rw[e]
 exact q _ F1 (b0h hw) (by omega)
theorem b3h (hw:WayOk 24 way){o4 o5 o6 o7 o8 o9 o10 o11:Option DV}(q:∀(g:Int) o4,(∀b∈way,∀c∈b,c.1=1->c.2≤g)->Q (.nx [none,some .feed,some (.dat (.tuple (way.map btD))),some (.dat (.int g)),o4,o5,o6,o7,o8,o9,o10,o11]) F) :
  wp (X4 [none,some .feed,some (.dat (.tuple (way.map btD))),some (.dat (.int 0)),o4,o5,o6,o7,o8,o9,o10,o11] F) Q:=by
 have h1:=hw.len
 have h2:=hw.many
 unfold X4
 refine Q8.mpr (v7.mpr (l7.mpr (l8 rfl (c9 G0 ?_))))
 refine G2 (λm E F'=>F'=F∧∃(g:Int) (o4:Option DV),E=[none,some .feed,some (.dat (.tuple (way.map btD))),some (.dat (.int g)),o4,o5,o6,o7,o8,o9,o10,o11]∧∀i,i<m->∀c∈c6 way i,c.1=1->c.2≤g) _ 0 _ F ⟨rfl,0,o4,rfl,λi hi=>absurd hi (Nat.not_lt_zero _)⟩ ?_ ?_
 ·rintro m d e E F1 ⟨rfl,g,o4,rfl,hg⟩
  rw[Nat.zero_add]at hg ⊢
  obtain⟨hm,rfl⟩:=a4x e
  have hb:(c6 way m).length≤40:=by have h3:=B3 hm;have h4:=S8 way (m+1);omega
  refine⟨_,rfl,?_⟩
  refine t7.mpr (E3.mpr (b9.mpr (n6.mpr (a2B.mpr (b9.mpr (l7.mpr (l8 rfl (d9.mpr ⟨u6 rfl,J0.mpr (v7.mpr (j2.mpr (j9 rfl (c9 G0 ⟨sz (by rw[List.length_map];omega),?_⟩))))⟩)))))))) 
  refine a8Z (x:=λc:Int×Int=>.int c.1) (y:=λc=>.int c.2) (g:=λc=>decide (c.1=1)) (f:=λc=>.int c.2) _ _ _ (λc hc F Q q=>P4.mpr (n6.mpr (j2.mpr (j9 rfl (n8.mpr (c9 a9X (c9 rfl q))))))) (λc hc _ F Q q=>l7.mpr (l8 rfl q)) ?_
  have hfl:=List.length_filter_le (λc:Int×Int=>decide (c.1=1)) (c6 way m)
  refine c9 (b2J (by rw[List.length_map];simp only[List.length_cons,List.length_nil];omega)) ?_
  have el:[PyData.int g]++((c6 way m).filter λc=>decide (c.1=1)).map (λc=>.int c.2)=(g::((c6 way m).filter λc=>decide (c.1=1)).map λc=>c.2).map .int:=by
   rw[List.map_cons,List.map_map]
   rfl
  rw[el]
  refine d9.mpr (c9 b2P ⟨k8 rfl,_,rfl,rfl,_,_,rfl,λi hi c hc h1=>?_⟩)
  by_cases hz:i=m
  ·subst hz
   exact a0X (List.mem_cons_of_mem _ (List.mem_map.mpr ⟨c,List.mem_filter.mpr ⟨hc,decide_eq_true h1⟩,rfl⟩))
  ·have:=hg i (by omega) c hc h1
   have:=a0X (ns:=g::((c6 way m).filter λc=>decide (c.1=1)).map λc=>c.2) (n:=g) List.mem_cons_self
   omega
 ·rintro E F1 ⟨rfl,g,o4,rfl,hg⟩
  rw[Nat.zero_add,List.length_map]at hg
  refine q g o4 λb hb c hc h1=>?_
  obtain⟨i,hi,rfl⟩:=List.mem_iff_getElem.mp hb
  refine hg i hi c ?_ h1
  have:c6 way i=way[i]:=by unfold c6;simp[hi]
  rw[this]
  exact hc
theorem b2s (hw:WayOk 24 way){h m M:Nat}(g:Gn h (frW way) M)(hz:∀n,n<g9 way->(gwS h 3 false way m).L n=0) :
  ((O5 way).map λn=>PyData.int (((gwS h 3 false way m).M n:Nat):Int))=(List.range (g9 (frW way))).map λk=>PyData.int ((moW (frW way) h M k:Nat):Int):=by
 have hfr:=a3l hw
 have hr:∀n,0≤rkW way n:=λn=>by
  unfold rkW
  rw[List.getD_eq_getElem?_getD]
  cases e:way.flatten[n]? with
  | none=>exact Int.le_refl _
  | some c =>
   obtain⟨b,hb,hc⟩:=List.mem_flatten.mp (List.mem_of_getElem? e)
   exact(hw.ok b hb c hc).1
 have e0:(O5 way).map (λn=>PyData.int (((gwS h 3 false way m).M n:Nat):Int))=(List.range (O5 way).length).map λk=>PyData.int (((gwS h 3 false way m).M (nuF (g9 way) (rkW way) k):Nat):Int):=(B1 0 (λn=>PyData.int (((gwS h 3 false way m).M n:Nat):Int)) (O5 way)).symm
 rw[e0,O7]
 refine List.map_congr_left λk hk=>?_
 have hk:k<KF (g9 way) (rkW way):=List.mem_range.mp hk
 obtain⟨o1,o2⟩:=a04 (h:=h) (N:=g9 way) (cnt:=g7 way) (rk:=rkW way) (w:=wkW way) hr (a16 way) m k hk
 have ec:g7 (frW way) = λm=>((List.range (g7 way m)).filter λn=>decide (rkW way n=0)).length:=by funext m;exact a6R way m
 obtain⟨f1,f2⟩:=a1d (h:=h) (K:=KF (g9 way) (rkW way)) (cnt:=g7 (frW way)) (w:=wkW (frW way)) (w':=λk=>wkW way (nuF (g9 way) (rkW way) k)) (λj hj=>b0f hj) m k hk
 have hkl:k<g9 (frW way):=by rw[O7];exact hk
 have hL:fL h (g7 (frW way)) (wkW (frW way)) m k=0:=by
  rw[f1,ec,←o1]
  exact hz _ (a0T hk).1
 have hw1:=Y3 (W5 hfr) hkl
 have m1:=a5C (h:=h) (h':=h) (Nat.le_refl _) (a2T (W5 hfr)) hw1 hL (g k hkl)
 have m2:=a5C (h:=h) (h':=h) (Nat.le_refl _) (a2T (W5 hfr)) hw1 (g k hkl) hL
 have e1:(gwS h 3 false way m).M (nuF (g9 way) (rkW way) k)=fM h (g7 (frW way)) (wkW (frW way)) m k:=by
  rw[f2,ec]
  exact o2
 rw[e1]
 have:fM h (g7 (frW way)) (wkW (frW way)) m k=moW (frW way) h M k:=Nat.le_antisymm m2 m1
 rw[this]
end
noncomputable abbrev moD (way:List Bt)(h M:Nat):PyData:=.list ((List.range (g9 way)).map λk=>.int ((moW way h M k:Nat):Int))
theorem a5G {way:List Bt}{h M k:Nat}(hM:M≤600):moW way h M k≤1000:=Nat.le_trans (b00 k M) (by omega)
theorem a54 {way:List Bt}(hw:WayOk 24 way){n:Nat}(hn:n<g9 way):∃b∈way,∃c∈b,rkW way n=c.1∧wkW way n=c.2:=by
 have hl:n<way.flatten.length:=by rw[B8];exact hn
 obtain⟨b,hb,hc⟩:=List.mem_flatten.mp (List.getElem_mem hl)
 refine⟨b,hb,_,hc,?_,?_⟩
 ·unfold rkW;rw[List.getD_eq_getElem?_getD,List.getElem?_eq_getElem hl];rfl
 ·unfold wkW;rw[List.getD_eq_getElem?_getD,List.getElem?_eq_getElem hl];rfl
theorem b2e {way:List Bt}(hw:WayOk 24 way)(n:Nat):0≤rkW way n:=by
 by_cases hn:n<g9 way
 ·obtain⟨b,hb,c,hc,e,_⟩:=a54 hw hn
  rw[e]
  exact(hw.ok b hb c hc).1
 ·unfold rkW
  rw[List.getD_eq_getElem?_getD,List.getElem?_eq_none (by rw[B8];omega)]
  exact Int.le_refl _
theorem a8D {way:List Bt}(hw:WayOk 24 way){g:Int}(hg:∀b∈way,∀c∈b,c.1=1->c.2≤g){m M:Nat}(gM:Gn 1 (frW way) M)(hz:∀n,n<g9 way->(gwS 1 3 true way m).L n=0){k:Nat}(hk:k<KF (g9 way) (rkW way)) :
  moW (frW way) 1 M k≤(gwS 1 3 true way m).M (nuF (g9 way) (rkW way) k)∧(gwS 1 3 true way m).M (nuF (g9 way) (rkW way) k)≤moW (frW way) 1 M k+(max 0 (g-1)).toNat:=by
 have Y:Hy (g9 way) (max 0 (g-1)).toNat (g7 way) (rkW way) (wkW way):={
  hr:=b2e hw
  hc:=a16 way
  hm:=T5 way
  hw:=a2T (W5 hw)
  h1:=λn hn=>Y3 (W5 hw) hn
  hD:=λn hn hne=>by
   obtain⟨b,hb,c,hc,e1,e2⟩:=a54 hw hn
   obtain⟨a1,a2,_,_⟩:=hw.ok b hb c hc
   have:=hg b hb c hc (by omega)
   rw[e2]
   omega }
 have ec:g7 (frW way)=cnF (g7 way) (rkW way):=by funext m;exact a6R way m
 obtain⟨f1,f2⟩:=a1d (h:=1) (K:=KF (g9 way) (rkW way)) (cnt:=g7 (frW way)) (w:=wkW (frW way)) (w':=λk=>wkW way (nuF (g9 way) (rkW way) k)) (λj hj=>b0f hj) M k hk
 have hkl:k<g9 (frW way):=by rw[O7];exact hk
 have h0:=gM k hkl
 rw[f1,ec]at h0
 have:=a66 Y hk (m1:=m) (m2:=M) (hz _ (a0T hk).1) h0
 have e:moW (frW way) 1 M k=fM 1 (cnF (g7 way) (rkW way)) (λk=>wkW way (nuF (g9 way) (rkW way) k)) M k:=by
  show fM 1 _ _ M k=_
  rw[f2,ec]
 rw[e]
 exact this
theorem b16 {way:List Bt}{h M:Nat}(hM:M≤600):Gd 0 (1+g9 way) 1 (moD way h M):=a5B (n:=g9 way) (f:=λk=>((moW way h M k:Nat):Int)) λk _=>by have:=a5G (way:=way) (h:=h) (k:=k) hM;omega
noncomputable abbrev frD (way:List Bt):PyData:=.tuple ((frW way).map btD)
section
variable {F:FdS}{Q:Out->FdS->Prop}{way:List Bt}
theorem b0p {h:Nat}(hh:1≤h)(hw:WayOk 24 way){o3 o4 o9 o10 o11:Option DV}
  (q:∀o9,Q (.nx [none,some .feed,some (.dat (.tuple (way.map btD))),o3,o4,some (.dat (frD way)),some (.dat (.tuple (g8 (O5 way)))),some (.dat (.list (g8 (List.range (g9 (frW way)))))),some (.dat (.int (h:Int))),o9,o10,o11]) F) :
  wp ((mSq M8 M2) [none,some .feed,some (.dat (.tuple (way.map btD))),o3,o4,some (.dat (frD way)),some (.dat (.tuple (g8 (O5 way)))),some (.dat (.list (g8 (List.range (g9 (frW way)))))),some (.dat (.int (h:Int))),o9,o10,o11] F) Q:=by
 refine j7.mpr ?_
 unfold M8
 refine t7.mpr (r8.mpr (y8.mpr (C2.mpr (b9.mpr (l7.mpr (l8 rfl (b9.mpr (n8.mpr (b9.mpr (n8.mpr (d9.mpr ⟨u6 rfl,y8.mpr (l7.mpr (l8 rfl (y8.mpr (l7.mpr (l8 rfl (v9.mpr ?_))))))⟩)))))))))))
 refine a4Z hh (a3l hw) λM hM g=>⟨k8 rfl,i8 ?_⟩
 unfold M2
 refine Y8.mpr (a7q.mpr (P4.mpr (n6.mpr (a8R.mpr (n8.mpr (c9 rfl (j2.mpr (j9 rfl (c9 (b1B λk _=>a5G hM) (c9 rfl (m5 rfl ?_)))))))))))
 refine P4.mpr (n6.mpr (r8.mpr (y8.mpr (C2.mpr (b9.mpr (l7.mpr (l8 rfl (b9.mpr (n8.mpr (b9.mpr (n8.mpr (d9.mpr ⟨u6 rfl,y8.mpr (l7.mpr (l8 rfl (y8.mpr (l7.mpr (l8 rfl (v9.mpr ?_))))))⟩))))))))))))
 refine a5y (r:=.str "frontoff") (kp:=false) (by simp[W8]) (by decide +kernel) (by decide +kernel) (by decide +kernel) hh hw λm hm hz=>?_
 rw[b2s hw g hz]
 exact j2.mpr (j9 rfl (c9 (b0O (b16 hM) (by decide)) (c9 rfl (m5 rfl (a2m.mpr (q _))))))
theorem b0z {g:Int}(hw:WayOk 24 way)(hg:∀b∈way,∀c∈b,c.1=1->c.2≤g){o4 o8 o9 o10 o11:Option DV}(q:Q (.rt (.bool true)) F) :
  wp ((mSq W9 (mSq X7 (mSq S4 P8))) [none,some .feed,some (.dat (.tuple (way.map btD))),some (.dat (.int g)),o4,some (.dat (frD way)),some (.dat (.tuple (g8 (O5 way)))),some (.dat (.list (g8 (List.range (g9 (frW way)))))),o8,o9,o10,o11] F) Q:=by
 have h2:=(a3l hw).many
 refine j7.mpr ?_
 unfold W9
 refine t7.mpr (r8.mpr (y8.mpr (n8.mpr (y8.mpr (l7.mpr (l8 rfl (y8.mpr (l7.mpr (l8 rfl (v9.mpr ?_))))))))))
 refine a4Z (h:=1) (by decide) (a3l hw) λM hM gM=>⟨k8 rfl,i8 (j7.mpr ?_)⟩
 unfold X7
 refine t7.mpr (r8.mpr (y8.mpr (n8.mpr (y8.mpr (l7.mpr (l8 rfl (y8.mpr (l7.mpr (l8 rfl (v9.mpr ?_))))))))))
 refine a5y (h:=1) (r:=.str "front") (kp:=true) (by simp[W8]) (by decide +kernel) (by decide +kernel) (by decide +kernel) (by decide) hw λm hm hz=>⟨k8 rfl,i8 (j7.mpr ?_)⟩
 have e0:(O5 way).map (λn=>PyData.int (((gwS 1 3 true way m).M n:Nat):Int))=(List.range (g9 (frW way))).map λk=>PyData.int (((gwS 1 3 true way m).M (nuF (g9 way) (rkW way) k):Nat):Int):=by
  rw[O7]
  exact(B1 0 (λn=>PyData.int (((gwS 1 3 true way m).M n:Nat):Int)) (O5 way)).symm
 rw[e0]
 unfold S4
 refine t7.mpr (J0.mpr (a58.mpr (b9.mpr (E3.mpr (b9.mpr (j2.mpr (j9 rfl (d9.mpr (c9 a2x (d9.mpr ?_))))))))))
 rw[List.length_map,List.length_range]
 refine c9 (a4p (by omega)) ⟨sz (by rw[O1];omega),?_⟩
 rw[a2X]
 refine a7A (x:=λi:Nat=>PyData.int (i:Int)) (f:=λk=>.int ((((gwS 1 3 true way m).M (nuF (g9 way) (rkW way) k):Nat):Int)-((moW (frW way) 1 M k:Nat):Int))) _ _ (λk hk F Q q=>?_) ⟨k8 rfl,i8 ?_⟩
 ·have hk:=List.mem_range.mp hk
  exact n6.mpr (n6.mpr (j2.mpr (j9 rfl (j2.mpr (j9 rfl (c9 (a7f (f:=λk=>PyData.int (((gwS 1 3 true way m).M (nuF (g9 way) (rkW way) k):Nat):Int)) hk) (n6.mpr (j2.mpr (j9 rfl (j2.mpr (j9 rfl (c9 (a7f (f:=λk=>PyData.int ((moW (frW way) 1 M k:Nat):Int)) hk) (c9 a0n q)))))))))))))
 unfold P8
 refine L0.mpr (n6.mpr (J0.mpr (v7.mpr (j2.mpr (j9 rfl (c9 G6 ⟨sz (by simp;omega),?_⟩))))))
 refine b2M (x:=λk=>.int ((((gwS 1 3 true way m).M (nuF (g9 way) (rkW way) k):Nat):Int)-((moW (frW way) 1 M k:Nat):Int))) (g:=λ_=>false) (f:=λk=>.int ((((gwS 1 3 true way m).M (nuF (g9 way) (rkW way) k):Nat):Int)-((moW (frW way) 1 M k:Nat):Int))) _ _ (λk hk F Q q=>?_) (λk _ z=>by cases z) ?_
 ·have hk:=List.mem_range.mp hk
  rw[O7]at hk
  obtain⟨l1,l2⟩:=a8D hw hg gM hz hk
  refine a7q.mpr (P4.mpr (n6.mpr (j2.mpr (j9 rfl (n8.mpr (c9 b2y (c9 rfl (m5 (decide_eq_false (by omega)) ?_))))))))
  refine P4.mpr (n6.mpr (j2.mpr (j9 rfl (E3.mpr (b9.mpr (n8.mpr (b9.mpr (n6.mpr (j2.mpr (j9 rfl (n8.mpr (c9 a0n (d9.mpr (c9 b2V (c9 a6O (c9 rfl ?_))))))))))))))))
  rw[decide_eq_false (by omega)]
  exact q
 have ef:((List.range (g9 (frW way))).filter λ_=>false)=[]:=by simp
 rw[ef]
 exact n8.mpr (c9 nil_eq q)
end
theorem fin (ns:List Int):∃F',a3a ([none,some .feed]++List.replicate 10 none) (a4y ns)=some (.rt (.bool true),F'):=by
 have key:wp (a3a ([none,some .feed]++List.replicate 10 none) (a4y ns)) λo _=>o = .rt (.bool true):=by
  have h0:(a4y ns).t=0:=rfl
  unfold a3a
  refine j7.mpr ?_
  unfold a0W
  rw[a6t]
  refine t7.mpr (r8.mpr (b0S.mpr (b11 rfl (v9.mpr ?_))))
  refine(a6Y (nm:=nmB) rfl).wp (by omega) λd1 F1 t1 hd1=>?_
  obtain⟨way,rfl,hw⟩:=hd1
  refine⟨k8 rfl,i8 (j7.mpr ?_)⟩
  refine b2W hw (by omega) λway F2 hw _=>i8 (j7.mpr ?_)
  unfold a17
  refine t7.mpr (n8.mpr ⟨k8 rfl,i8 (j7.mpr ?_)⟩)
  refine b3h hw λg o4 hg=>i8 (j7.mpr ?_)
  unfold a14
  refine Q6.mpr (r8.mpr (y8.mpr (l7.mpr (l8 rfl (v9.mpr (a9B hw (c9 rfl (i8 (j7.mpr ?_)))))))))
  have hfl:=(a3l hw).many
  have enl:(g8 (O5 way)).length=g9 (frW way):=by rw[x9,O7]
  unfold a15
  refine t7.mpr (a4Y (b9.mpr (E3.mpr (b9.mpr (j2.mpr (j9 rfl (d9.mpr (c9 Q9 (d9.mpr ?_)))))))))
  rw[enl]
  refine c9 (a4p (by omega)) ⟨by rw[O1];omega,k8 rfl,i8 (j7.mpr ?_)⟩
  rw[a2X]
  unfold a38
  refine Q8.mpr (v7.mpr (n8.mpr (c9 G0 ?_)))
  refine G2 (λi E F'=>F'=F2∧∃a8 a9,E=[none,some .feed,some (.dat (.tuple (way.map btD))),some (.dat (.int g)),o4,some (.dat (frD way)),some (.dat (.tuple (g8 (O5 way)))),some (.dat (.list (g8 (List.range (g9 (frW way)))))),a8,a9,none,none]) _ 0 _ F2 ⟨rfl,_,_,rfl⟩ ?_ ?_
  ·rintro i d e E F3 ⟨rfl,a8,a9,rfl⟩
   have hi:=(List.getElem?_eq_some_iff.mp e).1
   have hi:i<3:=hi
   have:i=0∨i=1∨i=2:=by omega
   rcases this with rfl | rfl | rfl
   ·injection e with e
    subst e
    exact⟨_,rfl,b0p (h:=1) (by decide) hw λa9=>⟨_,rfl,rfl,_,_,rfl⟩⟩
   ·injection e with e
    subst e
    exact⟨_,rfl,b0p (h:=2) (by decide) hw λa9=>⟨_,rfl,rfl,_,_,rfl⟩⟩
   ·injection e with e
    subst e
    exact⟨_,rfl,b0p (h:=3) (by decide) hw λa9=>⟨_,rfl,rfl,_,_,rfl⟩⟩
  ·rintro E F3 ⟨rfl,a8,a9,rfl⟩
   exact i8 (b0z hw hg rfl)
 obtain⟨o,F',e,h⟩:=key
 exact⟨F',by rw[e,h]⟩
end K29
namespace K29
open PySem L2 L3
theorem all_mk {l:PySem.W.OpenLaw}{w:World}{K:PySem.W.Frag}{h:Heap}{mg:Str->Option Value}{fa fnumbered ftold_way ffront_alone fkeeps flet_in flined_up fpicked fworked fstep frun fafter_beat fcourses fdrained f_law_feed f_law_next f_law_way f_law_light_way f_law_gone flaw:Addr}(X:K.In h)(G:h.Ns mainGlobals mg)(hfa:mg "law" = some (.ref fa))
    {odnumbered annumbered odtold_way antold_way odfront_alone anfront_alone odkeeps ankeeps odlet_in anlet_in odlined_up anlined_up odpicked anpicked odworked anworked odstep anstep odrun anrun odafter_beat anafter_beat odcourses ancourses oddrained andrained od_law_feed an_law_feed od_law_next an_law_next od_law_way an_law_way od_law_light_way an_law_light_way od_law_gone an_law_gone odlaw anlaw:Option Addr} {slnumbered sltold_way slfront_alone slkeeps sllet_in sllined_up slpicked slworked slstep slrun slafter_beat slcourses sldrained sl_law_feed sl_law_next sl_law_way sl_law_light_way sl_law_gone sllaw:Array (Option Value)} {ocnumbered kVnumbered dcnumbered pmnumbered cdnumbered ctnumbered octold_way kVtold_way dctold_way pmtold_way cdtold_way cttold_way ocfront_alone kVfront_alone dcfront_alone pmfront_alone cdfront_alone ctfront_alone ockeeps kVkeeps dckeeps pmkeeps cdkeeps ctkeeps oclet_in kVlet_in dclet_in pmlet_in cdlet_in ctlet_in oclined_up kVlined_up dclined_up pmlined_up cdlined_up ctlined_up ocpicked kVpicked dcpicked pmpicked cdpicked ctpicked ocworked kVworked dcworked pmworked cdworked ctworked ocstep kVstep dcstep pmstep cdstep ctstep ocrun kVrun dcrun pmrun cdrun ctrun ocafter_beat kVafter_beat dcafter_beat pmafter_beat cdafter_beat ctafter_beat occourses kVcourses dccourses pmcourses cdcourses ctcourses ocdrained kVdrained dcdrained pmdrained cddrained ctdrained oc_law_feed kV_law_feed dc_law_feed pm_law_feed cd_law_feed ct_law_feed oc_law_next kV_law_next dc_law_next pm_law_next cd_law_next ct_law_next oc_law_way kV_law_way dc_law_way pm_law_way cd_law_way ct_law_way oc_law_light_way kV_law_light_way dc_law_light_way pm_law_light_way cd_law_light_way ct_law_light_way oc_law_gone kV_law_gone dc_law_gone pm_law_gone cd_law_gone ct_law_gone oclaw kVlaw dclaw pmlaw cdlaw ctlaw:Value}
    (anumbered:PySem.W.nsIn K mainGlobals "numbered" = some (some (.ref fnumbered))) (lnumbered:K.lookup fnumbered=some ⟨ocnumbered,odnumbered,.func (PySem.W.fnOf "numbered" "numbered" (defArgs s_numbered) (defBody s_numbered) (defScope s_numbered) .none kVnumbered dcnumbered pmnumbered annumbered cdnumbered ctnumbered),slnumbered⟩) (cnumbered:PySem.W.codeIn K cdnumbered "numbered" = true) (knumbered:PySem.W.keepIn K (.ref fnumbered)=true)
    (atold_way:PySem.W.nsIn K mainGlobals "told_way" = some (some (.ref ftold_way))) (ltold_way:K.lookup ftold_way=some ⟨octold_way,odtold_way,.func (PySem.W.fnOf "told_way" "told_way" (defArgs s_told_way) (defBody s_told_way) (defScope s_told_way) .none kVtold_way dctold_way pmtold_way antold_way cdtold_way cttold_way),sltold_way⟩) (ctold_way:PySem.W.codeIn K cdtold_way "told_way" = true) (ktold_way:PySem.W.keepIn K (.ref ftold_way)=true)
    (afront_alone:PySem.W.nsIn K mainGlobals "front_alone" = some (some (.ref ffront_alone))) (lfront_alone:K.lookup ffront_alone=some ⟨ocfront_alone,odfront_alone,.func (PySem.W.fnOf "front_alone" "front_alone" (defArgs s_front_alone) (defBody s_front_alone) (defScope s_front_alone) .none kVfront_alone dcfront_alone pmfront_alone anfront_alone cdfront_alone ctfront_alone),slfront_alone⟩) (cfront_alone:PySem.W.codeIn K cdfront_alone "front_alone" = true) (kfront_alone:PySem.W.keepIn K (.ref ffront_alone)=true)
    (akeeps:PySem.W.nsIn K mainGlobals "keeps" = some (some (.ref fkeeps))) (lkeeps:K.lookup fkeeps=some ⟨ockeeps,odkeeps,.func (PySem.W.fnOf "keeps" "keeps" (defArgs s_keeps) (defBody s_keeps) (defScope s_keeps) .none kVkeeps dckeeps pmkeeps ankeeps cdkeeps ctkeeps),slkeeps⟩) (ckeeps:PySem.W.codeIn K cdkeeps "keeps" = true) (kkeeps:PySem.W.keepIn K (.ref fkeeps)=true)
    (alet_in:PySem.W.nsIn K mainGlobals "let_in" = some (some (.ref flet_in))) (llet_in:K.lookup flet_in=some ⟨oclet_in,odlet_in,.func (PySem.W.fnOf "let_in" "let_in" (defArgs s_let_in) (defBody s_let_in) (defScope s_let_in) .none kVlet_in dclet_in pmlet_in anlet_in cdlet_in ctlet_in),sllet_in⟩) (clet_in:PySem.W.codeIn K cdlet_in "let_in" = true) (klet_in:PySem.W.keepIn K (.ref flet_in)=true)
    (alined_up:PySem.W.nsIn K mainGlobals "lined_up" = some (some (.ref flined_up))) (llined_up:K.lookup flined_up=some ⟨oclined_up,odlined_up,.func (PySem.W.fnOf "lined_up" "lined_up" (defArgs s_lined_up) (defBody s_lined_up) (defScope s_lined_up) .none kVlined_up dclined_up pmlined_up anlined_up cdlined_up ctlined_up),sllined_up⟩) (clined_up:PySem.W.codeIn K cdlined_up "lined_up" = true) (klined_up:PySem.W.keepIn K (.ref flined_up)=true)
    (apicked:PySem.W.nsIn K mainGlobals "picked" = some (some (.ref fpicked))) (lpicked:K.lookup fpicked=some ⟨ocpicked,odpicked,.func (PySem.W.fnOf "picked" "picked" (defArgs s_picked) (defBody s_picked) (defScope s_picked) .none kVpicked dcpicked pmpicked anpicked cdpicked ctpicked),slpicked⟩) (cpicked:PySem.W.codeIn K cdpicked "picked" = true) (kpicked:PySem.W.keepIn K (.ref fpicked)=true)
    (aworked:PySem.W.nsIn K mainGlobals "worked" = some (some (.ref fworked))) (lworked:K.lookup fworked=some ⟨ocworked,odworked,.func (PySem.W.fnOf "worked" "worked" (defArgs s_worked) (defBody s_worked) (defScope s_worked) .none kVworked dcworked pmworked anworked cdworked ctworked),slworked⟩) (cworked:PySem.W.codeIn K cdworked "worked" = true) (kworked:PySem.W.keepIn K (.ref fworked)=true)
    (astep:PySem.W.nsIn K mainGlobals "step" = some (some (.ref fstep))) (lstep:K.lookup fstep=some ⟨ocstep,odstep,.func (PySem.W.fnOf "step" "step" (defArgs s_step) (defBody s_step) (defScope s_step) .none kVstep dcstep pmstep anstep cdstep ctstep),slstep⟩) (cstep:PySem.W.codeIn K cdstep "step" = true) (kstep:PySem.W.keepIn K (.ref fstep)=true)
    (arun:PySem.W.nsIn K mainGlobals "run" = some (some (.ref frun))) (lrun:K.lookup frun=some ⟨ocrun,odrun,.func (PySem.W.fnOf "run" "run" (defArgs s_run) (defBody s_run) (defScope s_run) .none kVrun dcrun pmrun anrun cdrun ctrun),slrun⟩) (crun:PySem.W.codeIn K cdrun "run" = true) (krun:PySem.W.keepIn K (.ref frun)=true)
    (aafter_beat:PySem.W.nsIn K mainGlobals "after_beat" = some (some (.ref fafter_beat))) (lafter_beat:K.lookup fafter_beat=some ⟨ocafter_beat,odafter_beat,.func (PySem.W.fnOf "after_beat" "after_beat" (defArgs s_after_beat) (defBody s_after_beat) (defScope s_after_beat) .none kVafter_beat dcafter_beat pmafter_beat anafter_beat cdafter_beat ctafter_beat),slafter_beat⟩) (cafter_beat:PySem.W.codeIn K cdafter_beat "after_beat" = true) (kafter_beat:PySem.W.keepIn K (.ref fafter_beat)=true)
    (acourses:PySem.W.nsIn K mainGlobals "courses" = some (some (.ref fcourses))) (lcourses:K.lookup fcourses=some ⟨occourses,odcourses,.func (PySem.W.fnOf "courses" "courses" (defArgs s_courses) (defBody s_courses) (defScope s_courses) .none kVcourses dccourses pmcourses ancourses cdcourses ctcourses),slcourses⟩) (ccourses:PySem.W.codeIn K cdcourses "courses" = true) (kcourses:PySem.W.keepIn K (.ref fcourses)=true)
    (adrained:PySem.W.nsIn K mainGlobals "drained" = some (some (.ref fdrained))) (ldrained:K.lookup fdrained=some ⟨ocdrained,oddrained,.func (PySem.W.fnOf "drained" "drained" (defArgs s_drained) (defBody s_drained) (defScope s_drained) .none kVdrained dcdrained pmdrained andrained cddrained ctdrained),sldrained⟩) (cdrained:PySem.W.codeIn K cddrained "drained" = true) (kdrained:PySem.W.keepIn K (.ref fdrained)=true)
    (a_law_feed:PySem.W.nsIn K mainGlobals "_law_feed" = some (some (.ref f_law_feed))) (l_law_feed:K.lookup f_law_feed=some ⟨oc_law_feed,od_law_feed,.func (PySem.W.fnOf "_law_feed" "_law_feed" (defArgs s__law_feed) (defBody s__law_feed) (defScope s__law_feed) .none kV_law_feed dc_law_feed pm_law_feed an_law_feed cd_law_feed ct_law_feed),sl_law_feed⟩) (c_law_feed:PySem.W.codeIn K cd_law_feed "_law_feed" = true) (k_law_feed:PySem.W.keepIn K (.ref f_law_feed)=true)
    (a_law_next:PySem.W.nsIn K mainGlobals "_law_next" = some (some (.ref f_law_next))) (l_law_next:K.lookup f_law_next=some ⟨oc_law_next,od_law_next,.func (PySem.W.fnOf "_law_next" "_law_next" (defArgs s__law_next) (defBody s__law_next) (defScope s__law_next) .none kV_law_next dc_law_next pm_law_next an_law_next cd_law_next ct_law_next),sl_law_next⟩) (c_law_next:PySem.W.codeIn K cd_law_next "_law_next" = true) (k_law_next:PySem.W.keepIn K (.ref f_law_next)=true)
    (a_law_way:PySem.W.nsIn K mainGlobals "_law_way" = some (some (.ref f_law_way))) (l_law_way:K.lookup f_law_way=some ⟨oc_law_way,od_law_way,.func (PySem.W.fnOf "_law_way" "_law_way" (defArgs s__law_way) (defBody s__law_way) (defScope s__law_way) .none kV_law_way dc_law_way pm_law_way an_law_way cd_law_way ct_law_way),sl_law_way⟩) (c_law_way:PySem.W.codeIn K cd_law_way "_law_way" = true) (k_law_way:PySem.W.keepIn K (.ref f_law_way)=true)
    (a_law_light_way:PySem.W.nsIn K mainGlobals "_law_light_way" = some (some (.ref f_law_light_way))) (l_law_light_way:K.lookup f_law_light_way=some ⟨oc_law_light_way,od_law_light_way,.func (PySem.W.fnOf "_law_light_way" "_law_light_way" (defArgs s__law_light_way) (defBody s__law_light_way) (defScope s__law_light_way) .none kV_law_light_way dc_law_light_way pm_law_light_way an_law_light_way cd_law_light_way ct_law_light_way),sl_law_light_way⟩) (c_law_light_way:PySem.W.codeIn K cd_law_light_way "_law_light_way" = true) (k_law_light_way:PySem.W.keepIn K (.ref f_law_light_way)=true)
    (a_law_gone:PySem.W.nsIn K mainGlobals "_law_gone" = some (some (.ref f_law_gone))) (l_law_gone:K.lookup f_law_gone=some ⟨oc_law_gone,od_law_gone,.func (PySem.W.fnOf "_law_gone" "_law_gone" (defArgs s__law_gone) (defBody s__law_gone) (defScope s__law_gone) .none kV_law_gone dc_law_gone pm_law_gone an_law_gone cd_law_gone ct_law_gone),sl_law_gone⟩) (c_law_gone:PySem.W.codeIn K cd_law_gone "_law_gone" = true) (k_law_gone:PySem.W.keepIn K (.ref f_law_gone)=true)
    (alaw:PySem.W.nsIn K mainGlobals "law" = some (some (.ref flaw))) (llaw:K.lookup flaw=some ⟨oclaw,odlaw,.func (PySem.W.fnOf "law" "law" (defArgs s_law) (defBody s_law) (defScope s_law) .none kVlaw dclaw pmlaw anlaw cdlaw ctlaw),sllaw⟩) (claw:PySem.W.codeIn K cdlaw "law" = true) (klaw:PySem.W.keepIn K (.ref flaw)=true)
    (zenumerate:PySem.W.nsIn K mainGlobals "enumerate" = some none)
    (zlen:PySem.W.nsIn K mainGlobals "len" = some none)
    (zlist:PySem.W.nsIn K mainGlobals "list" = some none)
    (zmax:PySem.W.nsIn K mainGlobals "max" = some none)
    (zmin:PySem.W.nsIn K mainGlobals "min" = some none)
    (zrange:PySem.W.nsIn K mainGlobals "range" = some none)
    (zsorted:PySem.W.nsIn K mainGlobals "sorted" = some none)
    (ztuple:PySem.W.nsIn K mainGlobals "tuple" = some none)
    {t_KEEPING:Addr} {it_KEEPING:Array Value} {n_KEEPING:Nat} {dd_KEEPING:Option Addr} {sl_KEEPING:Array (Option Value)} (ga_KEEPING:PySem.W.nsIn K mainGlobals "KEEPING" = some (some (.ref t_KEEPING))) (gl_KEEPING:K.lookup t_KEEPING=some ⟨.type "tuple",dd_KEEPING,.seq it_KEEPING n_KEEPING,sl_KEEPING⟩) (gq_KEEPING:L3.strsOf it_KEEPING.toList=some (["first","last","short","front"]:List Str))
    (hs_lined_up:(PySem.W.tabIn K "lined_up").isSome=true)
    (hs_picked:(PySem.W.tabIn K "picked").isSome=true)
    (hnd0:decide (((L3.tabsK (["lined_up","picked"]:List Str) K).map (·.2.2)).Nodup)=true)
   :∃fd:FuncData,(∀(s:Shared) (v:Value),BindsTo s fd ⟨[v],[]⟩ [("_law_script",v)])∧∀base:Heap,K.In base->base.Ns mainGlobals mg->BMd base mg->(∀t∈L3.tabsK (["lined_up","picked"]:List Str) K,PySem.W.CodeHd base t.2.1 t.2.2)->FnOk l.prog w K mg base CX0 8 fa fd ["_law_script"] (spLaw K):=by
  have hnd:(L3.tabP K).Nodup:=of_decide_eq_true hnd0
  have e:=hfa.symm.trans (PySem.W.mg_of X G alaw)
  cases e
  have T:Txt K mg:=⟨PySem.W.mg_none_of X G zenumerate,PySem.W.mg_none_of X G zlen,PySem.W.mg_none_of X G zlist,PySem.W.mg_none_of X G zmax,PySem.W.mg_none_of X G zmin,PySem.W.mg_none_of X G zrange,PySem.W.mg_none_of X G zsorted,PySem.W.mg_none_of X G ztuple,L3.gd_mk X G ga_KEEPING gl_KEEPING gq_KEEPING (by decide)⟩
  have Fnumbered:=fun_mk (st:=s_numbered) lnumbered cnumbered knumbered
  have bnumbered:=Fnumbered.binds (ps:=["way"]) λ_ _ _ _ _ _ us hl=>by
    obtain⟨z0,rfl⟩:=L3.len_1 hl
    rfl
  have mnumbered:=PySem.W.mg_of X G anumbered
  have Ftold_way:=fun_mk (st:=s_told_way) ltold_way ctold_way ktold_way
  have btold_way:=Ftold_way.binds (ps:=["rows"]) λ_ _ _ _ _ _ us hl=>by
    obtain⟨z0,rfl⟩:=L3.len_1 hl
    rfl
  have mtold_way:=PySem.W.mg_of X G atold_way
  have Ffront_alone:=fun_mk (st:=s_front_alone) lfront_alone cfront_alone kfront_alone
  have bfront_alone:=Ffront_alone.binds (ps:=["way"]) λ_ _ _ _ _ _ us hl=>by
    obtain⟨z0,rfl⟩:=L3.len_1 hl
    rfl
  have mfront_alone:=PySem.W.mg_of X G afront_alone
  have Fkeeps:=fun_mk (st:=s_keeps) lkeeps ckeeps kkeeps
  have bkeeps:=Fkeeps.binds (ps:=["rule"]) λ_ _ _ _ _ _ us hl=>by
    obtain⟨z0,rfl⟩:=L3.len_1 hl
    rfl
  have mkeeps:=PySem.W.mg_of X G akeeps
  have Flet_in:=fun_mk (st:=s_let_in) llet_in clet_in klet_in
  have blet_in:=Flet_in.binds (ps:=["house","stand","beat"]) λ_ _ _ _ _ _ us hl=>by
    obtain⟨z0,z1,z2,rfl⟩:=L3.len_3 hl
    rfl
  have mlet_in:=PySem.W.mg_of X G alet_in
  have Flined_up:=fun_mk (st:=s_lined_up) llined_up clined_up klined_up
  have blined_up:=Flined_up.binds (ps:=["rule","stand"]) λ_ _ _ _ _ _ us hl=>by
    obtain⟨z0,z1,rfl⟩:=L3.len_2 hl
    rfl
  have mlined_up:=PySem.W.mg_of X G alined_up
  have Fpicked:=fun_mk (st:=s_picked) lpicked cpicked kpicked
  have bpicked:=Fpicked.binds (ps:=["house","stand"]) λ_ _ _ _ _ _ us hl=>by
    obtain⟨z0,z1,rfl⟩:=L3.len_2 hl
    rfl
  have mpicked:=PySem.W.mg_of X G apicked
  have Fworked:=fun_mk (st:=s_worked) lworked cworked kworked
  have bworked:=Fworked.binds (ps:=["house","stand"]) λ_ _ _ _ _ _ us hl=>by
    obtain⟨z0,z1,rfl⟩:=L3.len_2 hl
    rfl
  have mworked:=PySem.W.mg_of X G aworked
  have Fstep:=fun_mk (st:=s_step) lstep cstep kstep
  have bstep:=Fstep.binds (ps:=["house","stand","beat"]) λ_ _ _ _ _ _ us hl=>by
    obtain⟨z0,z1,z2,rfl⟩:=L3.len_3 hl
    rfl
  have mstep:=PySem.W.mg_of X G astep
  have Frun:=fun_mk (st:=s_run) lrun crun krun
  have brun:=Frun.binds (ps:=["house","way","stand"]) λ_ _ _ _ _ _ us hl=>by
    obtain⟨z0,z1,z2,rfl⟩:=L3.len_3 hl
    rfl
  have mrun:=PySem.W.mg_of X G arun
  have Fafter_beat:=fun_mk (st:=s_after_beat) lafter_beat cafter_beat kafter_beat
  have bafter_beat:=Fafter_beat.binds (ps:=["course","waited","gone_at"]) λ_ _ _ _ _ _ us hl=>by
    obtain⟨z0,z1,z2,rfl⟩:=L3.len_3 hl
    rfl
  have mafter_beat:=PySem.W.mg_of X G aafter_beat
  have Fcourses:=fun_mk (st:=s_courses) lcourses ccourses kcourses
  have bcourses:=Fcourses.binds (ps:=["house","way"]) λ_ _ _ _ _ _ us hl=>by
    obtain⟨z0,z1,rfl⟩:=L3.len_2 hl
    rfl
  have mcourses:=PySem.W.mg_of X G acourses
  have Fdrained:=fun_mk (st:=s_drained) ldrained cdrained kdrained
  have bdrained:=Fdrained.binds (ps:=["house","way"]) λ_ _ _ _ _ _ us hl=>by
    obtain⟨z0,z1,rfl⟩:=L3.len_2 hl
    rfl
  have mdrained:=PySem.W.mg_of X G adrained
  have F_law_feed:=fun_mk (st:=s__law_feed) l_law_feed c_law_feed k_law_feed
  have b_law_feed:=F_law_feed.binds (ps:=["_law_script"]) λ_ _ _ _ _ _ us hl=>by
    obtain⟨z0,rfl⟩:=L3.len_1 hl
    rfl
  have m_law_feed:=PySem.W.mg_of X G a_law_feed
  have F_law_next:=fun_mk (st:=s__law_next) l_law_next c_law_next k_law_next
  have b_law_next:=F_law_next.binds (ps:=["_law_feed_here","_law_many"]) λ_ _ _ _ _ _ us hl=>by
    obtain⟨z0,z1,rfl⟩:=L3.len_2 hl
    rfl
  have m_law_next:=PySem.W.mg_of X G a_law_next
  have F_law_way:=fun_mk (st:=s__law_way) l_law_way c_law_way k_law_way
  have b_law_way:=F_law_way.binds (ps:=["_law_feed_here","_law_beats","_law_works"]) λ_ _ _ _ _ _ us hl=>by
    obtain⟨z0,z1,z2,rfl⟩:=L3.len_3 hl
    rfl
  have m_law_way:=PySem.W.mg_of X G a_law_way
  have F_law_light_way:=fun_mk (st:=s__law_light_way) l_law_light_way c_law_light_way k_law_light_way
  have b_law_light_way:=F_law_light_way.binds (ps:=["_law_feed_here"]) λ_ _ _ _ _ _ us hl=>by
    obtain⟨z0,rfl⟩:=L3.len_1 hl
    rfl
  have m_law_light_way:=PySem.W.mg_of X G a_law_light_way
  have F_law_gone:=fun_mk (st:=s__law_gone) l_law_gone c_law_gone k_law_gone
  have b_law_gone:=F_law_gone.binds (ps:=["_law_house","_law_way_here","_law_numbers"]) λ_ _ _ _ _ _ us hl=>by
    obtain⟨z0,z1,z2,rfl⟩:=L3.len_3 hl
    rfl
  have m_law_gone:=PySem.W.mg_of X G a_law_gone
  have Flaw:=fun_mk (st:=s_law) llaw claw klaw
  have blaw:=Flaw.binds (ps:=["_law_script"]) λ_ _ _ _ _ _ us hl=>by
    obtain⟨z0,rfl⟩:=L3.len_1 hl
    rfl
  have mlaw:=PySem.W.mg_of X G alaw
  refine⟨PySem.W.fnOf "law" "law" (defArgs s_law) (defBody s_law) (defScope s_law) .none kVlaw dclaw pmlaw anlaw cdlaw ctlaw,λs v=>.of_eq rfl,λbase _ _ BM hC=>?_⟩
  have C_numbered:Callee l.prog w K mg base "numbered" 1 ["way"] (spD K 1 f_numbered):=⟨_,_,ok_numbered Fnumbered T ,mnumbered,Fnumbered.kp,bnumbered⟩
  have C_told_way:Callee l.prog w K mg base "told_way" 1 ["rows"] (spD K 1 f_told_way):=⟨_,_,ok_told_way Ftold_way T ,mtold_way,Ftold_way.kp,btold_way⟩
  have C_front_alone:Callee l.prog w K mg base "front_alone" 2 ["way"] (spD K 1 f_front_alone):=⟨_,_,ok_front_alone Ffront_alone T C_told_way C_numbered,mfront_alone,Ffront_alone.kp,bfront_alone⟩
  have C_keeps:Callee l.prog w K mg base "keeps" 1 ["rule"] (spD K 1 f_keeps):=⟨_,_,ok_keeps Fkeeps T ,mkeeps,Fkeeps.kp,bkeeps⟩
  have C_let_in:Callee l.prog w K mg base "let_in" 1 ["house","stand","beat"] (spD K 3 f_let_in):=⟨_,_,ok_let_in Flet_in T ,mlet_in,Flet_in.kp,blet_in⟩
  obtain⟨c_lined_up,P_lined_up,LB_lined_up⟩:=L3.lamB_mk (mg:=mg) (base:=base) alined_up llined_up (by decide) hs_lined_up hnd BM hC
  have C_lined_up:Callee l.prog w K mg base "lined_up" 1 ["rule","stand"] (spD K 2 f_lined_up):=⟨_,_,ok_lined_up Flined_up T LB_lined_up ,mlined_up,Flined_up.kp,blined_up⟩
  obtain⟨c_picked,P_picked,LB_picked⟩:=L3.lamB_mk (mg:=mg) (base:=base) apicked lpicked (by decide) hs_picked hnd BM hC
  have C_picked:Callee l.prog w K mg base "picked" 2 ["house","stand"] (spD K 2 f_picked):=⟨_,_,ok_picked Fpicked T LB_picked C_lined_up C_keeps,mpicked,Fpicked.kp,bpicked⟩
  have C_worked:Callee l.prog w K mg base "worked" 3 ["house","stand"] (spD K 2 f_worked):=⟨_,_,ok_worked Fworked T C_picked C_keeps,mworked,Fworked.kp,bworked⟩
  have C_step:Callee l.prog w K mg base "step" 4 ["house","stand","beat"] (spD K 3 f_step):=⟨_,_,ok_step Fstep T C_let_in C_worked,mstep,Fstep.kp,bstep⟩
  have C_run:Callee l.prog w K mg base "run" 5 ["house","way","stand"] (spD K 3 f_run):=⟨_,_,ok_run Frun T C_step,mrun,Frun.kp,brun⟩
  have C_after_beat:Callee l.prog w K mg base "after_beat" 1 ["course","waited","gone_at"] (spD K 3 f_after_beat):=⟨_,_,ok_after_beat Fafter_beat T ,mafter_beat,Fafter_beat.kp,bafter_beat⟩
  have C_courses:Callee l.prog w K mg base "courses" 4 ["house","way"] (spD K 2 f_courses):=⟨_,_,ok_courses Fcourses T C_let_in C_worked C_after_beat,mcourses,Fcourses.kp,bcourses⟩
  have C_drained:Callee l.prog w K mg base "drained" 6 ["house","way"] (spD K 2 f_drained):=⟨_,_,ok_drained Fdrained T C_run C_step,mdrained,Fdrained.kp,bdrained⟩
  have C__law_feed:Callee l.prog w K mg base "_law_feed" 1 ["_law_script"] (spFeed K):=⟨_,_,ok__law_feed F_law_feed T,m_law_feed,F_law_feed.kp,b_law_feed⟩
  have C__law_next:Callee l.prog w K mg base "_law_next" 1 ["_law_feed_here","_law_many"] (spD K 2 drawS):=⟨_,_,ok__law_next F_law_next T ,m_law_next,F_law_next.kp,b_law_next⟩
  have C__law_way:Callee l.prog w K mg base "_law_way" 2 ["_law_feed_here","_law_beats","_law_works"] (spD K 3 f__law_way):=⟨_,_,ok__law_way F_law_way T C__law_next,m_law_way,F_law_way.kp,b_law_way⟩
  have C__law_light_way:Callee l.prog w K mg base "_law_light_way" 3 ["_law_feed_here"] (spD K 1 f__law_light_way):=⟨_,_,ok__law_light_way F_law_light_way T C__law_next C__law_way,m_law_light_way,F_law_light_way.kp,b_law_light_way⟩
  have C__law_gone:Callee l.prog w K mg base "_law_gone" 7 ["_law_house","_law_way_here","_law_numbers"] (spD K 3 f__law_gone):=⟨_,_,ok__law_gone F_law_gone T C_courses C_drained,m_law_gone,F_law_gone.kp,b_law_gone⟩
  exact ok_law Flaw T C__law_feed C__law_light_way C__law_next C_front_alone C__law_gone (λns _=>fin ns)
theorem walk {l:PySem.W.OpenLaw}{q:Program}{loose:List Str}{XP:(Str->Option Value)->Heap->Prop}{YP:World->Heap->Prop}{d:DefRec}{K:Params->PySem.W.Frag}(hn:l.most=some 63)(hdf:d.params.defaults=[])
  (hrec:((["lined_up","picked"]:List Str).all λx=>((PyProof.Rows.recsOf q).find? λe=>e.name == x).isSome)=true) (hnt:∀w:World,PySem.W.noTabs (K w.params)=true)
  (hY:∀(w:World) (h:Heap),YP w h->(K w.params).In h)
  (F:∀(w:World) (mg:Str->Option Value) (fa:Addr) (h:Heap),(K w.params).In h->h.Ns mainGlobals mg->mg d.name=some (.ref fa) ->
   ∃fd:FuncData,(∀(s:Shared) (u:Value),BindsTo s fd ⟨[u],[]⟩ [("_law_script",u)])∧∀base:Heap,(K w.params).In base->base.Ns mainGlobals mg->BMd base mg->(∀t∈L3.tabsK (["lined_up","picked"]:List Str) (K w.params),PySem.W.CodeHd base t.2.1 t.2.2)->FnOk l.prog w (K w.params) mg base CX0 8 fa fd ["_law_script"] (spLaw (K w.params))) :
  PySem.W.WalkO q loose XP YP l.row.toRowW d [] (λf vs=>PySem.call f vs) :=
 L3.walk_ofT (["lined_up","picked"]:List Str) (n:=63) (k:=8) (x:="_law_script") (CX:=λ_=>CX0) (sp:=λw=>spLaw (K w.params)) hn (by decide) hdf ⟨rfl,by decide,by decide,rfl⟩ hrec hnt hY F (λ_ _ a ns hl hS hT=>⟨a,ns,rfl,hS,hl,hT,λ_=>rfl⟩) λ_ _ _ _ _ z=>z
end K29
open PySem PySem.W PyProof.Rows
set_option maxRecDepth 100000 in
set_option maxHeartbeats 0 in
theorem PySem.Challenge.cw_hatchwaits_k29_whole_front_alone_holds : PySem.Challenge.rw_hatchwaits_k29_whole_front_alone.Holds := by
 w_on;o_law;k_head;(case hw=>w_witness2)
 k_fill
 refine K29.walk (l:=PySem.Challenge.rw_hatchwaits_k29_whole_front_alone) rfl rfl (by first | rfl | kernel_rfl) (by intro w;first | kernel_rfl | with_unfolding_all rfl) (λw h Y=>PySem.W.km_in_of Y) ?F
 case F =>
  intro w mg fa h KX G hmg
  refine' K29.all_mk KX G hmg ?anumbered ?lnumbered ?cnumbered ?knumbered ?atold_way ?ltold_way ?ctold_way ?ktold_way ?afront_alone ?lfront_alone ?cfront_alone ?kfront_alone ?akeeps ?lkeeps ?ckeeps ?kkeeps ?alet_in ?llet_in ?clet_in ?klet_in ?alined_up ?llined_up ?clined_up ?klined_up ?apicked ?lpicked ?cpicked ?kpicked ?aworked ?lworked ?cworked ?kworked ?astep ?lstep ?cstep ?kstep ?arun ?lrun ?crun ?krun ?aafter_beat ?lafter_beat ?cafter_beat ?kafter_beat ?acourses ?lcourses ?ccourses ?kcourses ?adrained ?ldrained ?cdrained ?kdrained ?a_law_feed ?l_law_feed ?c_law_feed ?k_law_feed ?a_law_next ?l_law_next ?c_law_next ?k_law_next ?a_law_way ?l_law_way ?c_law_way ?k_law_way ?a_law_light_way ?l_law_light_way ?c_law_light_way ?k_law_light_way ?a_law_gone ?l_law_gone ?c_law_gone ?k_law_gone ?alaw ?llaw ?claw ?klaw ?zenumerate ?zlen ?zlist ?zmax ?zmin ?zrange ?zsorted ?ztuple ?ga_KEEPING ?gl_KEEPING ?gq_KEEPING ?hs_lined_up ?hs_picked ?hnd0
  (case anumbered=>k_is)
  (case lnumbered=>k_is)
  (case cnumbered=>k_is)
  (case knumbered=>k_is)
  (case atold_way=>k_is)
  (case ltold_way=>k_is)
  (case ctold_way=>k_is)
  (case ktold_way=>k_is)
  (case afront_alone=>k_is)
  (case lfront_alone=>k_is)
  (case cfront_alone=>k_is)
  (case kfront_alone=>k_is)
  (case akeeps=>k_is)
  (case lkeeps=>k_is)
  (case ckeeps=>k_is)
  (case kkeeps=>k_is)
  (case alet_in=>k_is)
  (case llet_in=>k_is)
  (case clet_in=>k_is)
  (case klet_in=>k_is)
  (case alined_up=>k_is)
  (case llined_up=>k_is)
  (case clined_up=>k_is)
  (case klined_up=>k_is)
  (case apicked=>k_is)
  (case lpicked=>k_is)
  (case cpicked=>k_is)
  (case kpicked=>k_is)
  (case aworked=>k_is)
  (case lworked=>k_is)
  (case cworked=>k_is)
  (case kworked=>k_is)
  (case astep=>k_is)
  (case lstep=>k_is)
  (case cstep=>k_is)
  (case kstep=>k_is)
  (case arun=>k_is)
  (case lrun=>k_is)
  (case crun=>k_is)
  (case krun=>k_is)
  (case aafter_beat=>k_is)
  (case lafter_beat=>k_is)
  (case cafter_beat=>k_is)
  (case kafter_beat=>k_is)
  (case acourses=>k_is)
  (case lcourses=>k_is)
  (case ccourses=>k_is)
  (case kcourses=>k_is)
  (case adrained=>k_is)
  (case ldrained=>k_is)
  (case cdrained=>k_is)
  (case kdrained=>k_is)
  (case a_law_feed=>k_is)
  (case l_law_feed=>k_is)
  (case c_law_feed=>k_is)
  (case k_law_feed=>k_is)
  (case a_law_next=>k_is)
  (case l_law_next=>k_is)
  (case c_law_next=>k_is)
  (case k_law_next=>k_is)
  (case a_law_way=>k_is)
  (case l_law_way=>k_is)
  (case c_law_way=>k_is)
  (case k_law_way=>k_is)
  (case a_law_light_way=>k_is)
  (case l_law_light_way=>k_is)
  (case c_law_light_way=>k_is)
  (case k_law_light_way=>k_is)
  (case a_law_gone=>k_is)
  (case l_law_gone=>k_is)
  (case c_law_gone=>k_is)
  (case k_law_gone=>k_is)
  (case alaw=>k_is)
  (case llaw=>k_is)
  (case claw=>k_is)
  (case klaw=>k_is)
  (case zenumerate=>k_is)
  (case zlen=>k_is)
  (case zlist=>k_is)
  (case zmax=>k_is)
  (case zmin=>k_is)
  (case zrange=>k_is)
  (case zsorted=>k_is)
  (case ztuple=>k_is)
  (case ga_KEEPING=>k_is)
  (case gl_KEEPING=>k_is)
  (case gq_KEEPING=>first | rfl | k_is | with_unfolding_all rfl)
  (case hs_lined_up=>first | kernel_rfl | with_unfolding_all rfl)
  (case hs_picked=>first | kernel_rfl | with_unfolding_all rfl)
  (case hnd0=>first | kernel_rfl | with_unfolding_all rfl)
