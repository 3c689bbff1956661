import PyProof.Rows.All
import Wide.All
import OpenK.AllK
import Wide.FinOn
import Lean
import PyProof.EqAt
import PyProof.EqKinds
import PyProof.TupleCall
import PyProof.Rows.EqDataRows
import PyProof.Rows.InDataRows
import PyProof.StrLawsRepr
import PyProof.AutoListH
import PySem.Challenge.RW_hatchwaits_k22_stretches_told
def PySem.W.Fast.tw13107277056598783725:=0
def PySem.W.Fast.tw171587915966782464:=0
def PySem.W.Fast.tw3168539830506451151:=0
def PySem.W.Fast.tw4015426325632277820:=0
def PySem.W.Fast.tw5764759476508752316:=0
def PySem.W.Fast.tw1261420375536324101:=0
def PySem.W.Fast.tw9186555974199471498:=0
def PySem.W.Fast.tw182037746946702963:=0
def PySem.W.Fast.tw2636921200998548546:=0
def PySem.W.Fast.tw15178988952507887230:=0
def PySem.W.Fast.tw14721949160582547016:=0
def PySem.W.Fast.tw18323854127550404711:=0
abbrev Fg:=PySem.W.Frag
noncomputable section
theorem bS9 {α:Type _}{β:Type _}{x:Option α}{f:α->Option β}{b:β}(h:x.bind f=some b):∃a,x=some a/\f a=some b:=Option.bind_eq_some_iff.mp h
set_option Elab.async false
set_option linter.all false
set_option maxRecDepth 100000
namespace L2
open PySem PySem.Spec PyProof.Rows
section
abbrev Key:=Sum Int Str
def gQ:Key->Value->Bool
 | .inl k,v=>Value.isInt k v
 | .inr x,v=>Value.isStrOf x v
def Be (w:World):Key->Int
 | .inl k=>hashInt k
 | .inr x=>hashStr w x
theorem A5:∀{k:Key} {v:Value},gQ k v=true->(∃i t,k=Sum.inl i/\v=Value.int i t)\/(∃x t,k=Sum.inr x/\v=Value.str x t)
 | .inl i,v,h=>by
  obtain⟨t,e⟩:=Value.isInt_shape (k:=i) (v:=v) h
  exact .inl ⟨i,t,rfl,e⟩
 | .inr x,v,h=>by
  obtain⟨t,e⟩:=Value.isStrOf_shape (x:=x) (v:=v) h
  exact .inr ⟨x,t,rfl,e⟩
theorem pI (i:Int)(t:Tok):gQ (.inl i) (.int i t)=true:=by simp[gQ,Value.isInt]
theorem qu (x:Str)(t:Tok):gQ (.inr x) (.str x t)=true:=by simp[gQ,Value.isStrOf]
theorem zt (a b:Int):decide ((Sum.inl a:Key)=Sum.inl b)=(a == b):=by
 by_cases e:a=b
 .subst e;simp
 .have h:¬(Sum.inl a:Key)=Sum.inl b:=λq=>e (Sum.inl.inj q)
  rw[decide_eq_false h]
  exact(beq_eq_false_iff_ne.mpr e).symm
theorem zF (a b:Str):decide ((Sum.inr a:Key)=Sum.inr b)=decide (a=b):=by
 by_cases e:a=b
 .subst e;simp
 .have h:¬(Sum.inr a:Key)=Sum.inr b:=λq=>e (Sum.inr.inj q)
  rw[decide_eq_false h,decide_eq_false e]
theorem zE (a:Int)(b:Str):decide ((Sum.inl a:Key)=Sum.inr b)=false:=decide_eq_false (λq=>nomatch q)
theorem ym (a:Str)(b:Int):decide ((Sum.inr a:Key)=Sum.inl b)=false:=decide_eq_false (λq=>nomatch q)
def B7 (prog:Program)(w:World):PySem.KeyKind prog w Key where
 is:=gQ
 hash:=Be w
 inj:=λv a b ha hb=>by
  rcases A5 ha with ⟨i,t,rfl,rfl⟩ | ⟨x,t,rfl,rfl⟩
  .rcases A5 hb with ⟨j,u,rfl,e⟩ | ⟨y,u,rfl,e⟩
   .injection e with e1 _;rw[e1]
   .exact nomatch e
  .rcases A5 hb with ⟨j,u,rfl,e⟩ | ⟨y,u,rfl,e⟩
   .exact nomatch e
   .injection e with e1 _;rw[e1]
 byValue:=λk v h=>by
  rcases A5 h with ⟨i,t,rfl,rfl⟩ | ⟨x,t,rfl,rfl⟩ <;> rfl
 pyHash:=λhv h=>by
  rcases A5 hv with ⟨i,t,rfl,rfl⟩ | ⟨x,t,rfl,rfl⟩
  .exact wpAny_pyHash_int h
  .exact wpAny_pyHash_str h
 eqBool:=λhu hv h=>by
  rcases A5 hu with ⟨i,t,rfl,rfl⟩ | ⟨x,t,rfl,rfl⟩
  .rcases A5 hv with ⟨j,u,rfl,rfl⟩ | ⟨y,u,rfl,rfl⟩
   .rw[zt]at h;exact wpAny_eqBool_int h
   .rw[zE]at h;exact SeqAt.EqAt.int_str i t y u _ _ _ _ h
  .rcases A5 hv with ⟨j,u,rfl,rfl⟩ | ⟨y,u,rfl,rfl⟩
   .rw[ym]at h;exact SeqAt.EqAt.str_int x t j u _ _ _ _ h
   .rw[zF]at h;exact wpAny_eqBool_str h
 «strs»:=λk x t v h=>by
  rcases A5 h with ⟨i,u,rfl,e⟩ | ⟨y,u,rfl,e⟩
  .exact nomatch e
  .injection e with e1 _
   subst e1
   cases v <;> rfl
theorem kO (prog:Program)(w:World)(i:Int)(t:Tok):(B7 prog w).is (.inl i) (.int i t)=true:=pI i t
theorem lp (prog:Program)(w:World)(x:Str)(t:Tok):(B7 prog w).is (.inr x) (.str x t)=true:=qu x t
end
section
inductive V where
 | non | bl (b:Bool) | int (i:Int) | str (x:Str) | byt (b:Array UInt8) | flt (b:UInt64) | ref (a:Addr) | ty (n:String)
 deriving DecidableEq
def l0:V->Value->Prop
 | .non,u=>u=Value.none
 | .bl b,u=>u=Value.bool b
 | .int i,u=>∃t,u=Value.int i t
 | .str x,u=>∃t,u=Value.str x t
 | .byt b,u=>∃t,u=Value.bytes b t
 | .flt b,u=>∃t,u=Value.float b t
 | .ref a,u=>u=Value.ref a
 | .ty n,u=>u=Value.type n
abbrev i6:List V->List Value->Prop:=Paired l0
theorem i6.length {xs:List V}{us:List Value}(r:i6 xs us):xs.length=us.length:=Paired.length r
theorem i6.get:∀{xs:List V} {us:List Value} {i:Nat} {x:V},i6 xs us->xs[i]? = some x->∃u,us[i]? = some u/\l0 x u
 | _,_,_,_,.nil,e=>by simp at e
 | _,_,0,_,.cons r _,e=>by simp at e;subst e;exact⟨_,rfl,r⟩
 | _,_,i+1,x,.cons _ t,e=>by
  obtain⟨u,h1,h2⟩:=i6.get (i:=i) (x:=x) t (by simpa using e)
  exact⟨u,by simpa using h1,h2⟩
theorem i6.set {x:V}{u:Value}(r:l0 x u):∀{xs:List V} {us:List Value} (i:Nat),i6 xs us->i6 (xs.set i x) (us.set i u)
 | _,_,_,.nil=>.nil
 | _,_,0,.cons _ t=>.cons r t
 | _,_,i+1,.cons q t=>.cons q (i6.set r i t)
theorem i6.append:∀{xs ys:List V} {us ws:List Value},i6 xs us->i6 ys ws->i6 (xs++ys) (us++ws)
 | _,_,_,_,.nil,s=>s
 | _,_,_,_,.cons r t,s=>.cons r (i6.append t s)
theorem i6.take:∀{xs:List V} {us:List Value} (n:Nat),i6 xs us->i6 (xs.take n) (us.take n)
 | _,_,0,_=>.nil
 | _,_,_+1,.nil=>.nil
 | _,_,n+1,.cons r t=>.cons r (i6.take n t)
theorem i6.drop:∀{xs:List V} {us:List Value} (n:Nat),i6 xs us->i6 (xs.drop n) (us.drop n)
 | _,_,0,r=>r
 | _,_,_+1,.nil=>.nil
 | _,_,n+1,.cons _ t=>i6.drop n t
theorem i6.none_of:∀{xs:List V} {us:List Value} {i:Nat},i6 xs us->xs[i]? = none->us[i]? = none:=λ{xs us i} r e=>by
 have h1:=r.length
 have h2:xs.length<=i:=List.getElem?_eq_none_iff.mp e
 exact List.getElem?_eq_none_iff.mpr (by omega)
def fC:Option V->Option Value->Prop
 | some v,some u=>l0 v u
 | none,none=>True
 | _,_=>False
def KV {κ:Type}:List (κ×V)->List (κ×Value)->Prop:=Paired λ(p:κ×V) (q:κ×Value)=>p.1=q.1/\l0 p.2 q.2
def kV:Key->V
 | .inl i=>.int i
 | .inr x=>.str x
inductive HO where
 /-- a list -/
 | lst (xs:List V)
 /-- a tuple (never changes) -/
 | tup (xs:List V)
 /-- a dict whose keys are ints and texts;one whose keys are tuples of ints and texts (the empty one is both) -/
 | dK (kvs:List (Key×V)) | dT (kvs:List (List Key×V))
 /-- a set of ints: its members,its size -/
 | set (S:Int->Bool) (n:Nat)
 /-- an instance of the class at C,its dict at dx,its attributes -/
 | ins (C dx:Addr) (fs:List (Str×V))
 /-- the dict of the instance at x -/
 | own (x:Addr)
 /-- the dict of an exception -/
 | xd (fs:List (Str×V))
 /-- a bound method,f of x -/
 | met (f x:Addr)
 /-- a range object lo,lo+1,.. below hi -/
 | rng (lo hi:Int)
 /-- a thing that is known to the object (the script;a dict while a loop walks it): read,never written while it is so -/
 | frz (o:Obj) (u:HO)
 /-- a code object's table -/
 | tbl (ps:Array Value)
 /-- any other thing,by what is true of its one object (a def of one's own: SetO a S n:=HO.ext λh=>..) -/
 | ext (φ:Heap->Prop)
abbrev Hp:=Addr->Option HO
def upd (H:Hp)(a:Addr)(o:HO):Hp:=λb=>if b=a then some o else H b
theorem b9 {H:Hp}{a:Addr}{o:HO}:upd H a o a=some o:=by unfold upd;rw[if_pos rfl]
theorem a9 {H:Hp}{a b:Addr}{o:HO}(h:b≠a):upd H a o b=H b:=by unfold upd;rw[if_neg h]
theorem Ae {H:Hp}{a b:Addr}{o u:HO}(h:H a=some o)(h':H b=some u)(d:o≠u):a≠b:=by
 intro e;subst e;rw[h]at h';exact d (Option.some.inj h')
theorem d6 {H:Hp}{a b:Addr}{o:HO}(h:H a=some o)(h':H b=none):a≠b:=by
 intro e;subst e;rw[h]at h';cases h'
section
variable (P:Program)(w:World)
def B4 (H:Hp)(h:Heap)(a:Addr):HO->Prop
 | .lst xs=>xs.length<=sizeLine/\∃(its:List Value) (n:Nat),i6 xs its/\h.get? a=some { cls:=.type "list",data:=.seq its.toArray n }
 | .tup xs=>xs.length<=sizeLine/\∃its:List Value,i6 xs its/\IsTup h a its.toArray
 | .dK kvs=>kvs.length<=sizeLine/\(a == sysModules)=false/\∃vs,KV kvs vs/\h.DictOf (B7 P w) a vs
 | .dT kvs=>kvs.length<=sizeLine/\(a == sysModules)=false/\∃xs:List (List Key×Addr×Value),
   Paired (λ(p:List Key×V) (q:List Key×Addr×Value)=>p.1=q.1/\H q.2.1=some (.tup (p.1.map kV))/\l0 p.2 q.2.2) kvs xs /\
   ∃o es ep,h.get? a=some o/\o.ExactDict/\o.data = .dict es ep/\es.toList=xs.map (entryOfKey (tupleKind (B7 P w)))/\(xs.map (·.1)).Nodup
 | .set S n=>h.SetOf (intKind P w) a S n
 | .ins C dx fs=>H dx=some (.own a)/\fs.length<=1000/\dx≠a/\h.get? a=some (PySem.W.instObj C dx) /\
   ∃mA,h.Ns1 dx mA/\(∀f,fC (fs.lookup f) (mA f))/\PySem.Within mA (fs.map (·.1))
 | .own _=>∃o,h.get? a=some o
 | .xd fs=>∃mA,h.Ns1 a mA/\∀f,fC (fs.lookup f) (mA f)
 | .rng lo hi=>∃t u v,h.get? a=some { cls:=.type "range",data:=.fields #[.int lo t,.int hi u,.int 1 v] }
 | .frz o u=>h.get? a=some o/\B4 H h a u
 | .tbl ps=>h.get? a=some { cls:=.none,data:=.fields ps }
 | .met f x=>h.get? a=some (PySem.W.methodObj (.ref f) (.ref x))
 | .ext φ=>φ h/\(∃o,h.get? a=some o)/\∀h1 h2:Heap,φ h1->(∀o,h1.get? a=some o->h2.get? a=some o)->φ h2
def HOk (H:Hp)(h:Heap):Prop:=∀a o,H a=some o->B4 P w H h a o
end
section
variable {P:Program}{w:World}{H H':Hp}{h h':Heap}{a:Addr}{o:HO}
theorem B4.lt (x:B4 P w H h a o):a<h.objs.size:=by
 cases o with
 | lst xs=>obtain⟨_,_,_,_,e⟩:=x;exact Heap.lt_size e
 | tup xs=>obtain⟨_,_,_,p⟩:=x;exact p.lt
 | dK kvs=>obtain⟨_,_,_,_,o,_,_,e,_⟩:=x;exact Heap.lt_size e
 | dT kvs=>obtain⟨_,_,_,_,o,_,_,e,_⟩:=x;exact Heap.lt_size e
 | set S n=>obtain⟨o,_,_,_,e,_⟩:=x;exact Heap.lt_size e
 | ins C dx fs=>obtain⟨_,_,_,e,_⟩:=x;exact Heap.lt_size e
 | own y=>obtain⟨_,e⟩:=x;exact Heap.lt_size e
 | xd fs=>obtain⟨_,⟨_,_,_,e,_⟩,_⟩:=x;exact Heap.lt_size e
 | rng lo hi=>obtain⟨_,_,_,e⟩:=x;exact Heap.lt_size e
 | frz ob u=>obtain⟨e,_⟩:=x;exact Heap.lt_size e
 | tbl ps=>exact Heap.lt_size (show h.get? a=some _ from x)
 | met f y=>exact Heap.lt_size (show h.get? a=some _ from x)
 | ext φ=>obtain⟨_,⟨_,e⟩,_⟩:=x;exact Heap.lt_size e
theorem Paired.mapP {α β:Type}{F G:α->β->Prop}:∀{l₁:List α} {l₂:List β},Paired F l₁ l₂->(∀a b,F a b->G a b)->Paired G l₁ l₂
 | _,_,.nil,_=>.nil
 | _,_,.cons r t,f=>.cons (f _ _ r) (Paired.mapP t f)
theorem B4.stay (x:B4 P w H h a o)(k:∀b u,(b=a\/H b=some (.own a))->h.get? b=some u->h'.get? b=some u)
  (ho:∀b,H b=some (.own a)->H' b=some (.own a)) (ht:∀b xs,H b=some (.tup xs)->H' b=some (.tup xs)):B4 P w H' h' a o:=by
 induction o with
 | lst xs=>obtain⟨z,its,n,r,e⟩:=x;exact⟨z,its,n,r,k _ _ (.inl rfl) e⟩
 | tup xs=>obtain⟨z,its,r,ob,e,c⟩:=x;exact⟨z,its,r,ob,k _ _ (.inl rfl) e,c⟩
 | dK kvs=>obtain⟨z,y,vs,r,ob,es,ep,e,c⟩:=x;exact⟨z,y,vs,r,ob,es,ep,k _ _ (.inl rfl) e,c⟩
 | dT kvs =>
  obtain⟨z,y,xs,r,ob,es,ep,e,c⟩:=x
  exact⟨z,y,xs,Paired.mapP r λp q z=>⟨z.1,ht _ _ z.2.1,z.2.2⟩,ob,es,ep,k _ _ (.inl rfl) e,c⟩
 | set S n=>obtain⟨ob,es,ep,t,e,c⟩:=x;exact⟨ob,es,ep,t,k _ _ (.inl rfl) e,c⟩
 | ins C dx fs =>
  obtain⟨d,z,ne,e,mA,⟨od,es,ep,e2,c⟩,r⟩:=x
  exact⟨ho _ d,z,ne,k _ _ (.inl rfl) e,mA,⟨od,es,ep,k _ _ (.inr d) e2,c⟩,r⟩
 | own y=>obtain⟨ob,e⟩:=x;exact⟨ob,k _ _ (.inl rfl) e⟩
 | xd fs=>obtain⟨mA,⟨od,es,ep,e,c⟩,r⟩:=x;exact⟨mA,⟨od,es,ep,k _ _ (.inl rfl) e,c⟩,r⟩
 | rng lo hi=>obtain⟨t,u,v,e⟩:=x;exact⟨t,u,v,k _ _ (.inl rfl) e⟩
 | frz ob u ih=>obtain⟨e,q⟩:=x;exact⟨k _ _ (.inl rfl) e,ih q⟩
 | tbl ps =>
  have e:h.get? a=some { cls:=.none,data:=.fields ps }:=x
  show h'.get? a=some { cls:=.none,data:=.fields ps }
  exact k a _ (.inl rfl) e
 | met f y =>
  have e:h.get? a=some (PySem.W.methodObj (.ref f) (.ref y)):=x
  show h'.get? a=some (PySem.W.methodObj (.ref f) (.ref y))
  exact k a _ (.inl rfl) e
 | ext φ=>obtain⟨p,⟨o,e⟩,st⟩:=x;exact⟨st _ _ p λo q=>k _ _ (.inl rfl) q,⟨o,k _ _ (.inl rfl) e⟩,st⟩
theorem HOk.lt (x:HOk P w H h)(e:H a=some o):a<h.objs.size:=(x a o e).lt
theorem HOk.fresh (x:HOk P w H h)(e:h.objs.size<=a):H a=none:=by
 cases q:H a with
 | none=>rfl
 | some u=>exact absurd (Nat.lt_of_lt_of_le (x.lt q) e) (Nat.lt_irrefl _)
theorem HOk.kept (x:HOk P w H h)(k:∀b u,h.get? b=some u->h'.get? b=some u):HOk P w H h':=λa o e =>
 (x a o e).stay (λb u _ q=>k b u q) (λ_ q=>q) λ_ _ q=>q
theorem HOk.laid (x:HOk P w H h)(k:∀b u,h.get? b=some u->h'.get? b=some u)(hp:h.objs.size<=a)(new:B4 P w (upd H a o) h' a o):HOk P w (upd H a o) h':=λb u e=>by
 have hn:=x.fresh hp
 by_cases hb:b=a
 .subst hb;rw[b9]at e;cases e;exact new
 .rw[a9 hb]at e
  exact(x b u e).stay (λc v _ q=>k c v q) (λc q=>by rw[a9 (d6 q hn)];exact q) λc xs q=>by rw[a9 (d6 q hn)];exact q
end
def Rd (H:Hp)(a:Addr)(u:HO):Prop:=H a=some u\/∃o,H a=some (.frz o u)
theorem Rd.ok {P:Program}{w:World}{H:Hp}{h:Heap}{a:Addr}{u:HO}(r:Rd H a u)(x:HOk P w H h):B4 P w H h a u:=by
 rcases r with r | ⟨o,r⟩
 .exact x a u r
 .obtain⟨_,q⟩:=x a _ r
  exact q
def Mut:Option HO->Prop
 | some (.lst _)=>True
 | some (.dK _)=>True
 | some (.dT _)=>True
 | some (.set _ _)=>True
 | some (.ins _ _ _)=>True
 | some (.ext _)=>True
 | _=>False
section
variable {P:Program}{w:World}{H:Hp}{h h':Heap}{x e:Addr}{o':HO}
theorem HOk.write (ok:HOk P w H h)(mu:Mut (H x))(he:e=x\/H e=some (.own x))(k:∀b u,b≠e->h.get? b=some u->h'.get? b=some u)(heo:∃u,h'.get? e=some u)
  (new:B4 P w (upd H x o') h' x o'):HOk P w (upd H x o') h':=λb u q=>by
 have nown:∀c y,H c=some (.own y)->c≠x:=λc y r z=>by subst z;rw[r]at mu;exact mu
 have ntup:∀c xs,H c=some (.tup xs)->c≠x:=λc xs r z=>by subst z;rw[r]at mu;exact mu
 by_cases hb:b=x
 .subst hb;rw[b9]at q;cases q;exact new
 .rw[a9 hb]at q
  by_cases hbe:b=e
  .have q':H b=some (.own x):=by
    rcases he with z | z
    .exact absurd (hbe.trans z) hb
    .rw[hbe];exact z
   rw[q]at q';cases q'
   obtain⟨v,hv⟩:=heo
   exact⟨v,by rw[hbe];exact hv⟩
  .refine(ok b u q).stay (λc v hc r=>k c v ?_ r) (λc r=>by rw[a9 (nown c b r)];exact r) λc xs r=>by rw[a9 (ntup c xs r)];exact r
   rcases hc with rfl | hc
   .exact hbe
   .rintro rfl
    rcases he with z | z
    .exact nown c b hc z
    .rw[hc]at z;cases z;exact hb rfl
end
structure Un (fs ex:List Addr) (H H':Hp) (h h':Heap):Prop where
 keep:∀b o,h.get? b=some o->H b=none->b ∉ fs->b ∉ ex->h'.get? b=some o
 slot:∀b o,h.get? b=some o->H b=none->b∈fs->b ∉ ex->∃sl,h'.get? b=some { o with slots:=sl }
 free:∀b o,h.get? b=some o->H b=none->b ∉ ex->H' b=none
 there:∀b o,h.get? b=some o->b ∉ ex->∃o',h'.get? b=some o'
 tups:∀b xs,H b=some (.tup xs)->H' b=some (.tup xs)
 frzs:∀b o u,H b=some (.frz o u)->H' b=some (.frz o u)
 tbls:∀b ps,H b=some (.tbl ps)->∃more,H' b=some (.tbl (ps++more))
section
variable {fs fs' ex ex':List Addr}{H H1 H2:Hp}{h h1 h2 h':Heap}{a x e:Addr}{o:HO}
theorem Un.any (u:Un fs ex H H1 h h1){b:Addr}{ob:Obj}(q:h.get? b=some ob)(n:H b=none)(hx:b ∉ ex):∃sl,h1.get? b=some { ob with slots:=sl }:=by
 by_cases hb:b∈fs
 .exact u.slot b ob q n hb hx
 .exact⟨ob.slots,u.keep b ob q n hb hx⟩
theorem Un.kept (k:∀b u,h.get? b=some u->h'.get? b=some u):Un fs ex H H h h' :=
 ⟨λb ob q _ _ _=>k b ob q,λb ob q _ _ _=>⟨ob.slots,k b ob q⟩,λ_ _ _ n _=>n,λb ob q _=>⟨ob,k b ob q⟩,λ_ _ q=>q,λ_ _ _ q=>q,λ_ ps q=>⟨#[],by rw[q];simp⟩⟩
theorem Un.refl:Un fs ex H H h h:=Un.kept λ_ _ q=>q
theorem Un.laid (k:∀b u,h.get? b=some u->h'.get? b=some u)(hp:h.objs.size<=a)(hn:H a=none):Un fs ex H (upd H a o) h h' where
 keep:=λb u q _ _ _=>k b u q
 slot:=λb u q _ _ _=>⟨u.slots,k b u q⟩
 free:=λb u q n _=>by rw[a9 (Nat.ne_of_lt (Nat.lt_of_lt_of_le (Heap.lt_size q) hp))];exact n
 there:=λb u q _=>⟨u,k b u q⟩
 tups:=λb xs q=>by rw[a9 (d6 q hn)];exact q
 frzs:=λb u xs q=>by rw[a9 (d6 q hn)];exact q
 tbls:=λb ps q=>⟨#[],by rw[a9 (d6 q hn),q];simp⟩
theorem Un.write (mu:Mut (H x))(he:e=x\/H e=some (.own x))(k:∀b u,b≠e->h.get? b=some u->h'.get? b=some u)(heo:∃u,h'.get? e=some u):Un fs ex H (upd H x o) h h':=by
 have hx:∀b,H b=none->b≠x:=λb n z=>by subst z;rw[n]at mu;exact mu
 have hb:∀b,H b=none->b≠e:=λb n z=>by
  subst z
  rcases he with r | r
  .exact hx b n r
  .rw[n]at r;cases r
 have hm:∀b u,H b=some u->¬Mut (some u)->b≠x:=λb u q nm z=>by subst z;rw[q]at mu;exact nm mu
 refine⟨λb u q n _ _=>k b u (hb b n) q,λb u q n _ _=>⟨u.slots,k b u (hb b n) q⟩,λb u q n _=>by rw[a9 (hx b n)];exact n,λb u q _=>?_,
  λb xs q=>by rw[a9 (hm b _ q λz=>z)];exact q,λb u xs q=>by rw[a9 (hm b _ q λz=>z)];exact q,λb ps q=>⟨#[],by rw[a9 (hm b _ q λz=>z),q];simp⟩⟩
 by_cases hbe:b=e
 .subst hbe;exact heo
 .exact⟨u,k b u hbe q⟩
end
def trk (h:Heap)(H:Hp):List Addr:=(List.range h.objs.size).filter λa=>(H a).isSome
def fR (h:Heap)(H:Hp):Heap:=PySem.W.hideAll h (trk h H)
theorem pd (h:Heap)(H:Hp):(fR h H).objs.size=h.objs.size:=PySem.W.hideAll_size _ _
theorem rH {h:Heap}{H:Hp}{b:Addr}{o:Obj}(e:h.get? b=some o)(n:H b=none):(fR h H).get? b=some o :=
 PySem.W.hideAll_get _ e λhm=>by
  have q:(H b).isSome=true:=(List.mem_filter.mp hm).2
  rw[n]at q;simp at q
theorem wF {h:Heap}{H:Hp}{b:Addr}{o:Obj}(e:(fR h H).get? b=some o):h.get? b=some o/\H b=none:=by
 have e':h.get? b=some o:=PySem.W.of_hideAll (trk h H) e
 refine⟨e',?_⟩
 cases q:H b with
 | none=>rfl
 | some x =>
  have hm:b∈trk h H:=List.mem_filter.mpr ⟨List.mem_range.mpr (Heap.lt_size e'),by simp[q]⟩
  have z:(fR h H).get? b=none:=PySem.W.hideAll_none (trk h H) hm
  rw[z]at e;cases e
end
section
structure Mod (K:Fg) (mg:Str->Option Value) (base:Heap):Prop where
 kin:K.In base
 glob:base.Ns mainGlobals mg
 blt:∃mb,base.Ns builtinsNs mb/\∀x:Str,x ≠ "__name__"->mb x=bootBuiltins x
 nolimit:base.NoLimit
/-- the context: a def's body (or a comprehension's block) running. base: fixed through the whole law;s₀,H₀: the entry;outer: the frames whose slots others may change (a def's callers);stack: all frames that run;
   ex: iterators that were made R0 of the entry and are walked here (a comprehension's);fn: the names whose cells were made at the entry (a def: all;a comprehension's block: its own);calm: not within an except suite;pn: pins that every state bears;xe: what is wanted of an exception that leaves the code -/
structure Cx where
 prog:Program
 w:World
 K:Fg
 mg:Str->Option Value
 base:Heap
 A:Around
 N:List Str
 s₀:Shared
 H₀:Hp
 env:Env
 outer:List Env
 stack:List Env
 ex:List Addr
 fn:Str->Bool
 calm:Bool
 pn:List (Addr×Obj)
 xe:Value->Shared->Prop
def frs (l:List Env):List Addr:=l.filterMap (·.frame)
abbrev Cx.fs (X:Cx):List Addr:=frs X.outer
def Vis (sc:Scope)(x:Str):Prop:=sc.names.lookup x=some .local\/sc.names.lookup x=some .cell\/sc.names.lookup x=some .free
def Loc (sc:Scope)(x:Str):Prop:=sc.names.lookup x=some .local\/sc.names.lookup x=some .cell
def Bl (env:Env)(h:Heap)(m:Str->Option Value)(x:Str)(u:Value):Prop :=
 (env.kindOf x=some .local/\m x=some u)\/((env.kindOf x=some .cell\/env.kindOf x=some .free)/\∃c,env.cells.lookup x=some c/\h.IsCell c (some u))
structure Cx.Ok (X:Cx):Prop where
 mod:Mod X.K X.mg X.base
 kind:X.env.scope.kind = .function
 glob:X.env.globals=mainGlobals
 blt:X.env.builtins=builtinsNs
 above:X.s₀.heap.objs.size<=X.env.locals
 inj:∀x y c,X.env.cells.lookup x=some c->X.env.cells.lookup y=some c->x=y
 has:∀x,(X.env.kindOf x=some .cell\/X.env.kindOf x=some .free)->∃c,X.env.cells.lookup x=some c
 cab:∀x c,X.fn x=true->X.env.cells.lookup x=some c->X.s₀.heap.objs.size<=c
 hd:X.calm=true->X.A.handled=none
 frames:X.A.frames=some X.stack
 stk:X.stack=X.outer\/(X.stack=X.env::X.outer/\X.env.frame=some X.env.locals)
 exf:∀b∈X.ex,b≠X.env.locals/\∀x c,X.env.cells.lookup x=some c->c≠b
 bs:∀b o,X.base.get? b=some o->X.s₀.heap.get? b=some o/\X.H₀ b=none
 bsz:X.base.objs.size<=X.s₀.heap.objs.size
 noex:∀b o,X.base.get? b=some o->b ∉ X.ex
 exfs:∀b∈X.ex,b ∉ X.fs
 funs:X.s₀.heap.FunFrames X.base X.outer
 frf:∀b∈X.fs,X.H₀ b=none
structure Inv (X:Cx) (pins:List (Addr×Obj)) (σ:List (Option V)) (H:Hp) (s:Shared):Prop where
 ok:X.Ok
 os:s.os=X.s₀.os
 bare:AllBare s.gens
 base:Un X.fs X.ex X.H₀ H X.s₀.heap s.heap
 loc:∃m,s.heap.Ns X.env.locals m/\∀(i:Nat) (x:Str) (v:V),X.N[i]? = some x->σ[i]? = some (some v)->Vis X.env.scope x->∃u,l0 v u/\Bl X.env s.heap m x u
 cell:∀x c,X.env.cells.lookup x=some c->∃v,s.heap.IsCell c v
 free:H X.env.locals=none
 freeC:∀x c,X.env.cells.lookup x=some c->H c=none
 pin:∀p∈X.pn++pins,s.heap.get? p.1=some p.2/\H p.1=none/\p.1≠X.env.locals/\p.1 ∉ X.fs/\∀v,p.2.data ≠ .cell v
 hok:HOk X.prog X.w H s.heap
 len:σ.length=X.N.length
section
variable {X:Cx}{pins:List (Addr×Obj)}{σ:List (Option V)}{H H':Hp}{s:Shared}{h':Heap}
theorem Cx.Ok.nofr (ok:X.Ok){b:Addr}{o:Obj}(e:X.base.get? b=some o):b ∉ X.fs:=λhb=>by
 have:=(ok.funs.mem hb).1
 rw[e]at this;cases this
theorem Inv.bs (I:Inv X pins σ H s):∀b o,X.base.get? b=some o->s.heap.get? b=some o/\H b=none:=λb o e =>
 ⟨I.base.keep b o (I.ok.bs b o e).1 (I.ok.bs b o e).2 (I.ok.nofr e) (I.ok.noex b o e),I.base.free b o (I.ok.bs b o e).1 (I.ok.bs b o e).2 (I.ok.noex b o e)⟩
theorem Inv.bk (I:Inv X pins σ H s):∀b o,X.base.get? b=some o->s.heap.get? b=some o:=λb o e=>(I.bs b o e).1
theorem Inv.mod (I:Inv X pins σ H s):Mod X.K X.mg X.base:=I.ok.mod
theorem Inv.kIn (I:Inv X pins σ H s):X.K.In s.heap:=I.ok.mod.kin.keeps I.bk
theorem Inv.nolimit (I:Inv X pins σ H s):s.heap.NoLimit:=I.ok.mod.nolimit.keeps I.bk
theorem Inv.lt (I:Inv X pins σ H s):X.env.locals<s.heap.objs.size:=let ⟨_,hn,_⟩:=I.loc;hn.lt
theorem Inv.sz (I:Inv X pins σ H s):X.s₀.heap.objs.size<=s.heap.objs.size:=Nat.le_trans I.ok.above (Nat.le_of_lt I.lt)
theorem Inv.nofs (I:Inv X pins σ H s){a:Addr}(h:s.heap.objs.size<=a):a ∉ X.fs:=λhb=>by
 obtain⟨_,o,ho,_⟩:=I.ok.funs.mem hb
 exact absurd (Nat.lt_of_lt_of_le (Heap.lt_size ho) (Nat.le_trans I.sz h)) (Nat.lt_irrefl _)
theorem Inv.cne (I:Inv X pins σ H s):∀x c,X.env.cells.lookup x=some c->c≠X.env.locals:=λx c e z=>by
 obtain⟨v,o,ho,hd⟩:=I.cell x c e
 obtain⟨m,⟨o',es,ep,ho',hd',_⟩,_⟩:=I.loc
 rw[z,ho']at ho;cases ho;rw[hd']at hd;cases hd
theorem Inv.funs (I:Inv X pins σ H s):s.heap.FunFrames X.base X.outer:=by
 have all:∀(l:List Env),(∀b∈frs l,b∈X.fs)->X.s₀.heap.FunFrames X.base l->s.heap.FunFrames X.base l:=by
  intro l
  induction l with
  | nil=>intro _ _;trivial
  | cons env r ih =>
   intro hs hl
   obtain⟨hk,⟨L,o,hf,hn,ho,hd⟩,hr⟩:=hl
   have hL:L∈X.fs:=hs L (by unfold frs;rw[List.filterMap_cons,hf];exact List.mem_cons_self)
   obtain⟨sl,e⟩:=I.base.slot L o ho (I.ok.frf L hL) hL λz=>I.ok.exfs L z hL
   exact⟨hk,⟨L,_,hf,hn,e,hd⟩,ih (λb hb=>hs b (by unfold frs;rw[List.filterMap_cons,hf];exact List.mem_cons_of_mem _ hb)) hr⟩
 exact all X.outer (λ_ hb=>hb) I.ok.funs
theorem Inv.stack (I:Inv X pins σ H s):s.heap.FunFrames X.base X.stack:=by
 rcases I.ok.stk with e | ⟨e,hf⟩
 .rw[e];exact I.funs
 .rw[e]
  obtain⟨m,hn,_⟩:=I.loc
  refine .cons (by rw[I.ok.kind];decide) hf hn ?_ I.funs
  exact Heap.get?_none_of_le (Nat.le_trans I.ok.bsz I.ok.above)
theorem Inv.stkSub (I:Inv X pins σ H s):∀b∈frs X.stack,b∈X.env.locals::X.fs:=λb hb=>by
 rcases I.ok.stk with e | ⟨e,hf⟩
 .rw[e]at hb;exact List.mem_cons_of_mem _ hb
 .rw[e]at hb
  unfold frs at hb
  rw[List.filterMap_cons,hf]at hb
  exact hb
theorem Inv.stkFree (I:Inv X pins σ H s):∀b∈frs X.stack,H b=none:=λb hb=>by
 rcases List.mem_cons.mp (I.stkSub b hb) with e | hb
 .rw[e];exact I.free
 .obtain⟨_,o,ho,_⟩:=I.ok.funs.mem hb
  exact I.base.free b o ho (I.ok.frf b hb) λz=>I.ok.exfs b z hb
theorem Inv.step {g':Array GenState}{t':Nat}{d':Drawn}{ch:List Addr}(I:Inv X pins σ H s)
  (hch:∀b∈ch,(b∈X.ex\/X.s₀.heap.objs.size<=b)/\b≠X.env.locals/\(∀x c,X.env.cells.lookup x=some c->c≠b)/\∀p∈X.pn++pins,p.1≠b)
  (keep:∀b o,b≠X.env.locals->b ∉ X.fs->b ∉ ch->s.heap.get? b=some o->H b=none->h'.get? b=some o)
  (slot:∀b o,b≠X.env.locals->b∈X.fs->b ∉ ch->s.heap.get? b=some o->H b=none->∃sl,h'.get? b=some { o with slots:=sl }) (free:∀b o,b ∉ ch->s.heap.get? b=some o->H b=none->H' b=none)
  (there:∀b o,b ∉ ch->s.heap.get? b=some o->∃o',h'.get? b=some o')
  (tups:∀b xs,H b=some (.tup xs)->H' b=some (.tup xs)) (frzs:∀b o u,H b=some (.frz o u)->H' b=some (.frz o u)) (tbls:∀b ps,H b=some (.tbl ps)->∃more,H' b=some (.tbl (ps++more)))
  (ns:∀m,s.heap.Ns X.env.locals m->h'.Ns X.env.locals m) (hok:HOk X.prog X.w H' h') (hg:AllBare g') :
  Inv X pins σ H' { s with heap:=h',gens:=g',drawn:=d',toks:=t' }:=by
 have neL:∀b o,X.s₀.heap.get? b=some o->b≠X.env.locals:=λb o e=>Nat.ne_of_lt (Nat.lt_of_lt_of_le (Heap.lt_size e) I.ok.above)
 have neC:∀b o,X.s₀.heap.get? b=some o->b ∉ X.ex->b ∉ ch:=λb o e hx hb=>by
  rcases(hch b hb).1 with z | z
  .exact hx z
  .exact absurd (Nat.lt_of_lt_of_le (Heap.lt_size e) z) (Nat.lt_irrefl _)
 have cellK:∀x c,X.env.cells.lookup x=some c->∀v,s.heap.IsCell c v->h'.IsCell c v:=λx c e v ⟨o,ho,hd⟩=>by
  have nch:c ∉ ch:=λz=>(hch c z).2.2.1 x c e rfl
  by_cases hc:c∈X.fs
  .obtain⟨sl,q⟩:=slot c o (I.cne x c e) hc nch ho (I.freeC x c e)
   exact⟨_,q,hd⟩
  .exact⟨o,keep c o (I.cne x c e) hc nch ho (I.freeC x c e),hd⟩
 refine⟨I.ok,I.os,hg,⟨λb o e n hb hx=>?_,λb o e n hb hx=>?_,λb o e n hx=>?_,λb o e hx=>?_,λb xs e=>tups b xs (I.base.tups b xs e),λb o xs e=>frzs b o xs (I.base.frzs b o xs e),λb ps e=>?_⟩,?_,λx c e=>?_,?_,λx c e=>?_,λp hp=>?_,hok,I.len⟩
 .exact keep b o (neL b o e) hb (neC b o e hx) (I.base.keep b o e n hb hx) (I.base.free b o e n hx)
 .obtain⟨sl,e1⟩:=I.base.slot b o e n hb hx
  obtain⟨sl',e2⟩:=slot b _ (neL b o e) hb (neC b o e hx) e1 (I.base.free b o e n hx)
  exact⟨sl',e2⟩
 .obtain⟨o',e1⟩:=I.base.there b o e hx
  exact free b o' (neC b o e hx) e1 (I.base.free b o e n hx)
 .obtain⟨o',e1⟩:=I.base.there b o e hx
  exact there b o' (neC b o e hx) e1
 .obtain⟨m1,e1⟩:=I.base.tbls b ps e
  obtain⟨m2,e2⟩:=tbls b _ e1
  exact⟨m1++m2,by rw[e2,Array.append_assoc]⟩
 .obtain⟨m,hn,hl⟩:=I.loc
  refine⟨m,ns m hn,λi x v e1 e2 e3=>?_⟩
  obtain⟨u,r,l⟩:=hl i x v e1 e2 e3
  refine⟨u,r,?_⟩
  rcases l with l | ⟨k,c,e,z⟩
  .exact .inl l
  .exact .inr ⟨k,c,e,cellK x c e _ z⟩
 .obtain⟨v,z⟩:=I.cell x c e
  exact⟨v,cellK x c e v z⟩
 .obtain⟨m,⟨o,_,_,ho,_⟩,_⟩:=I.loc
  exact free _ o (λz=>(hch _ z).2.1 rfl) ho I.free
 .obtain⟨v,o,ho,hd⟩:=I.cell x c e
  exact free c o (λz=>(hch c z).2.2.1 x c e rfl) ho (I.freeC x c e)
 .obtain⟨e,n,ne,nf,d⟩:=I.pin p hp
  have nch:p.1 ∉ ch:=λz=>(hch p.1 z).2.2.2 p hp rfl
  exact⟨keep p.1 p.2 ne nf nch e n,free p.1 p.2 nch e n,ne,nf,d⟩
theorem Inv.un {t':Nat}(I:Inv X pins σ H s)(u:Un X.fs [] H H' s.heap h')(hok:HOk X.prog X.w H' h'):Inv X pins σ H' { s with heap:=h',toks:=t' }:=by
 obtain⟨m,⟨o,es,ep,ho,r⟩,_⟩:=id I.loc
 obtain⟨sl,hL⟩:=u.any ho I.free (by simp)
 exact I.step (g':=s.gens) (d':=s.drawn) (ch:=[]) (λ_ z=>nomatch z) (λb o _ hb _ e n=>u.keep b o e n hb (by simp)) (λb o _ hb _ e n=>u.slot b o e n hb (by simp)) (λb o _ e n=>u.free b o e n (by simp)) (λb o _ e=>u.there b o e (by simp)) u.tups u.frzs u.tbls (λm' hm=>by
  obtain⟨o',es',ep',ho',r'⟩:=hm
  rw[ho]at ho';cases ho'
  exact⟨_,es',ep',hL,r'⟩) hok I.bare
theorem Inv.call {g':Array GenState}{t':Nat}{d':Drawn}{ch:List Addr}(I:Inv X pins σ H s)(u:Un (frs X.stack) ch H H' s.heap h')(hok:HOk X.prog X.w H' h')(hg:AllBare g')
  (hch:∀b∈ch,(b∈X.ex\/X.s₀.heap.objs.size<=b)/\b≠X.env.locals/\(∀x c,X.env.cells.lookup x=some c->c≠b)/\∀p∈X.pn++pins,p.1≠b) :
  Inv X pins σ H' { s with heap:=h',gens:=g',drawn:=d',toks:=t' }:=by
 obtain⟨m,⟨o,es,ep,ho,r⟩,_⟩:=id I.loc
 obtain⟨sl,hL⟩:=u.any ho I.free λz=>(hch _ z).2.1 rfl
 exact I.step (ch:=ch) hch (λb o hL hb hc e n=>u.keep b o e n (λz=>(List.mem_cons.mp (I.stkSub b z)).elim hL hb) hc) (λb o _ _ hc e n=>u.any e n hc) (λb o hc e n=>u.free b o e n hc) (λb o hc e=>u.there b o e hc) u.tups u.frzs u.tbls (λm' hm=>by
  obtain⟨o',es',ep',ho',r'⟩:=hm
  rw[ho]at ho';cases ho'
  exact⟨_,es',ep',hL,r'⟩) hok hg
theorem Inv.turned {t':Nat}{it:Addr}(I:Inv X pins σ H s)(k:∀b o,b≠it->s.heap.get? b=some o->h'.get? b=some o)(hn:H it=none)(hL:it≠X.env.locals)
  (h1:it∈X.ex\/X.s₀.heap.objs.size<=it) (h2:∀x c,X.env.cells.lookup x=some c->c≠it) (h3:∀p∈X.pn++pins,p.1≠it):Inv X pins σ H { s with heap:=h',toks:=t' }:=by
 have nit:∀b u,H b=some u->b≠it:=λb u e z=>by rw[z,hn]at e;cases e
 refine I.step (g':=s.gens) (d':=s.drawn) (ch:=[it]) (λb hb=>?_) (λb o _ _ hc e _=>k b o (λz=>hc (by simp[z])) e) (λb o _ _ hc e _=>⟨o.slots,k b o (λz=>hc (by simp[z])) e⟩) (λ_ _ _ _ n=>n)
  (λb o hc e=>⟨o,k b o (λz=>hc (by simp[z])) e⟩) (λ_ _ e=>e) (λ_ _ _ e=>e) (λb ps e=>⟨#[],by rw[e];simp⟩) (λm hm=>?_) (λb u e=>?_) I.bare
 .have e:b=it:=by simpa using hb
  subst e
  exact⟨h1,hL,h2,h3⟩
 .obtain⟨o,es,ep,ho,r⟩:=hm
  exact⟨o,es,ep,k _ o (Ne.symm hL) ho,r⟩
 .refine(I.hok b u e).stay (λc v hc q=>k c v ?_ q) (λ_ q=>q) λ_ _ q=>q
  rcases hc with z | z
  .rw[z];exact nit b u e
  .exact nit c _ z
theorem Inv.tok (I:Inv X pins σ H s)(t:Nat):Inv X pins σ H { s with toks:=t }:=I.un (h':=s.heap) (t':=t) Un.refl I.hok
theorem Inv.kept {t':Nat}(I:Inv X pins σ H s)(k:∀b u,s.heap.get? b=some u->h'.get? b=some u):Inv X pins σ H { s with heap:=h',toks:=t' }:=I.un (Un.kept k) (I.hok.kept k)
theorem Inv.laid {a:Addr}{o:HO}{t':Nat}(I:Inv X pins σ H s)(k:∀b u,s.heap.get? b=some u->h'.get? b=some u)(hp:s.heap.objs.size<=a)(new:B4 X.prog X.w (upd H a o) h' a o) :
  Inv X pins σ (upd H a o) { s with heap:=h',toks:=t' }:=I.un (Un.laid k hp (I.hok.fresh hp)) (I.hok.laid k hp new)
theorem Inv.write {x e:Addr}{o:HO}{t':Nat}(I:Inv X pins σ H s)(mu:Mut (H x))(he:e=x\/H e=some (.own x))(k:∀b u,b≠e->s.heap.get? b=some u->h'.get? b=some u)(heo:∃u,h'.get? e=some u)
  (new:B4 X.prog X.w (upd H x o) h' x o):Inv X pins σ (upd H x o) { s with heap:=h',toks:=t' }:=I.un (Un.write mu he k heo) (I.hok.write mu he k heo new)
theorem Inv.pins_of {pins':List (Addr×Obj)}(I:Inv X pins σ H s)(h:∀p∈pins',s.heap.get? p.1=some p.2/\H p.1=none/\p.1≠X.env.locals/\p.1 ∉ X.fs/\∀v,p.2.data ≠ .cell v):Inv X pins' σ H s :=
 ⟨I.ok,I.os,I.bare,I.base,I.loc,I.cell,I.free,I.freeC,λp hp=>(List.mem_append.mp hp).elim (λz=>I.pin p (List.mem_append_left _ z)) (h p),I.hok,I.len⟩
theorem ke {N:List Str}(hN:N.Nodup){i j:Nat}{x:Str}(a:N[i]? = some x)(b:N[j]? = some x):i=j:=by
 obtain⟨h1,e1⟩:=List.getElem?_eq_some_iff.mp a
 obtain⟨h2,e2⟩:=List.getElem?_eq_some_iff.mp b
 exact(List.getElem_inj hN).mp (e1.trans e2.symm)
theorem qy {M:Model}{A:Around}{E:Value->Shared->Prop}{i:Nat}{x:Str}{v:V}{u:Value}{Q:Unit->Shared->Prop}(I:Inv X pins σ H s)(hN:X.N.Nodup)(hi:X.N[i]? = some x)(hx:Loc X.env.scope x)(r:l0 v u)
  (h:∀s',Inv X pins (σ.set i (some v)) H s'->(∃a,Heap.SameBut a s.heap s'.heap/\(a=X.env.locals\/X.env.cells.lookup x=some a))->Q () s') (hf:X.fn x=true\/X.env.scope.names.lookup x=some .local:=by first | exact .inl rfl | exact .inr rfl | assumption):wpAny M A (storeName X.env x u) Q E s:=by
 obtain⟨m,hn,hl⟩:=id I.loc
 have hcls:(X.env.scope.kind == .class||(X.env.scope.kind == .module&&X.env.locals != X.env.globals))=false:=by rw[I.ok.kind];rfl
 have hiσ:i < σ.length:=by rw[I.len];exact(List.getElem?_eq_some_iff.mp hi).1
 have cne:=I.cne
 have tracked:∀{a:Addr} {h':Heap},(∃o,s.heap.get? a=some o/\H a=none)->Heap.SameBut a s.heap h'->HOk X.prog X.w H h':=λ{a h'} ha hs b ob e=>by
  obtain⟨_,_,hfree⟩:=ha
  refine(I.hok b ob e).stay (λc w' hc q=>(hs.2 c ?_).trans q) (λ_ q=>q) λ_ _ q=>q
  rintro rfl
  rcases hc with rfl | hc
  .rw[hfree]at e;cases e
  .rw[hfree]at hc;cases hc
 rcases hx with hk | hk
 .refine wpAny_storeName_local hk hn (λh' hn' hs=>?_) hcls
  obtain⟨oL,_,_,hoL,_⟩:=id hn
  refine h _ ⟨I.ok,I.os,I.bare,⟨λb o e n hb hx=>?_,λb o e n hb hx=>?_,I.base.free,λb o e hx=>?_,I.base.tups,I.base.frzs,I.base.tbls⟩,⟨_,hn',λj y v' e1 e2 e3=>?_⟩,λy c e=>?_,I.free,I.freeC,λp hp=>?_,tracked ⟨oL,hoL,I.free⟩ hs,by simpa using I.len⟩ ⟨_,hs,.inl rfl⟩
  .exact(hs.2 b (Nat.ne_of_lt (Nat.lt_of_lt_of_le (Heap.lt_size e) I.ok.above))).trans (I.base.keep b o e n hb hx)
  .obtain⟨sl,e1⟩:=I.base.slot b o e n hb hx
   exact⟨sl,(hs.2 b (Nat.ne_of_lt (Nat.lt_of_lt_of_le (Heap.lt_size e) I.ok.above))).trans e1⟩
  .obtain⟨o',e1⟩:=I.base.there b o e hx
   exact⟨o',(hs.2 b (Nat.ne_of_lt (Nat.lt_of_lt_of_le (Heap.lt_size e) I.ok.above))).trans e1⟩
  .by_cases hj:j=i
   .subst hj
    rw[hi]at e1;cases e1
    rw[List.getElem?_set_self hiσ]at e2
    cases e2
    exact⟨u,r,.inl ⟨hk,by simp⟩⟩
   .rw[List.getElem?_set_ne (Ne.symm hj)]at e2
    obtain⟨u',r',q⟩:=hl j y v' e1 e2 e3
    refine⟨u',r',?_⟩
    rcases q with ⟨k,e⟩ | ⟨k,c,e,z⟩
    .refine .inl ⟨k,?_⟩
     have:y≠x:=λe=>hj (ke hN e1 (e▸hi))
     simp[this,e]
    .exact .inr ⟨k,c,e,z.sameBut hs (cne y c e)⟩
  .obtain⟨w',z⟩:=I.cell y c e
   exact⟨w',z.sameBut hs (cne y c e)⟩
  .obtain⟨e,n,ne,nf,d⟩:=I.pin p hp
   exact⟨(hs.2 p.1 ne).trans e,n,ne,nf,d⟩
 .have hfn:X.fn x=true:=by
   rcases hf with z | z
   .exact z
   .rw[z]at hk;cases hk
  obtain⟨c,hc⟩:=I.ok.has x (.inl hk)
  obtain⟨w',z⟩:=I.cell x c hc
  refine wpAny_storeName_cell I.ok.kind hk hc z (λh' hc' hs=>?_)
  obtain⟨oc,hoc,hocd⟩:=id z
  refine h { s with heap:=h' } ⟨I.ok,I.os,I.bare,⟨λb o e n hb hx=>?_,λb o e n hb hx=>?_,I.base.free,λb o e hx=>?_,I.base.tups,I.base.frzs,I.base.tbls⟩,⟨m,hn.sameBut hs (Ne.symm (cne x c hc)),λj y v' e1 e2 e3=>?_⟩,λy c' e=>?_,I.free,I.freeC,λp hp=>?_,tracked ⟨oc,hoc,I.freeC x c hc⟩ hs,by simpa using I.len⟩ ⟨c,hs,.inr hc⟩
  .exact(hs.2 b (Nat.ne_of_lt (Nat.lt_of_lt_of_le (Heap.lt_size e) (I.ok.cab x c hfn hc)))).trans (I.base.keep b o e n hb hx)
  .obtain⟨sl,e1⟩:=I.base.slot b o e n hb hx
   exact⟨sl,(hs.2 b (Nat.ne_of_lt (Nat.lt_of_lt_of_le (Heap.lt_size e) (I.ok.cab x c hfn hc)))).trans e1⟩
  .obtain⟨o',e1⟩:=I.base.there b o e hx
   exact⟨o',(hs.2 b (Nat.ne_of_lt (Nat.lt_of_lt_of_le (Heap.lt_size e) (I.ok.cab x c hfn hc)))).trans e1⟩
  .by_cases hj:j=i
   .subst hj
    rw[hi]at e1;cases e1
    rw[List.getElem?_set_self hiσ]at e2
    cases e2
    exact⟨u,r,.inr ⟨.inl hk,c,hc,hc'⟩⟩
   .rw[List.getElem?_set_ne (Ne.symm hj)]at e2
    obtain⟨u',r',q⟩:=hl j y v' e1 e2 e3
    refine⟨u',r',?_⟩
    rcases q with q | ⟨k,c',e,z'⟩
    .exact .inl q
    .refine .inr ⟨k,c',e,z'.sameBut hs ?_⟩
     rintro rfl
     exact hj (ke hN e1 (I.ok.inj _ _ _ e hc▸hi))
  .by_cases hcc:c'=c
   .subst hcc;exact⟨_,hc'⟩
   .obtain⟨w2,z2⟩:=I.cell y c' e
    exact⟨w2,z2.sameBut hs hcc⟩
  .obtain⟨e,n,ne,nf,d⟩:=I.pin p hp
   refine⟨(hs.2 p.1 ?_).trans e,n,ne,nf,d⟩
   intro q
   rw[q,hoc]at e
   have q':oc=p.2:=Option.some.inj e
   exact d w' (by rw[<-q'];exact hocd)
theorem N6 {M:Model}{A:Around}{E:Value->Shared->Prop}{i:Nat}{x:Str}{v:V}{u:Value}{Q:Unit->Shared->Prop}(I:Inv X pins σ H s)(hN:X.N.Nodup)(hi:X.N[i]? = some x)(hx:Loc X.env.scope x)(r:l0 v u)
  (h:∀s',Inv X pins (σ.set i (some v)) H s'->Q () s') (hf:X.fn x=true\/X.env.scope.names.lookup x=some .local:=by first | exact .inl rfl | exact .inr rfl | assumption):wpAny M A (storeName X.env x u) Q E s :=
 qy I hN hi hx r (λs' I' _=>h s' I') hf
theorem Inv.call' {s':Shared}{ch:List Addr}(I:Inv X pins σ H s)(ho:s'.os=s.os)(u:Un (frs X.stack) ch H H' s.heap s'.heap)(hok:HOk X.prog X.w H' s'.heap)(hg:AllBare s'.gens)
  (hch:∀b∈ch,(b∈X.ex\/X.s₀.heap.objs.size<=b)/\b≠X.env.locals/\(∀x c,X.env.cells.lookup x=some c->c≠b)/\∀p∈X.pn++pins,p.1≠b):Inv X pins σ H' s':=by
 obtain⟨h',g',d',t',o'⟩:=s'
 have e:o'=s.os:=ho
 subst e
 exact I.call (g':=g') (t':=t') (d':=d') u hok hg hch
end
abbrev XK:=Value->Option Addr->Hp->Prop
abbrev St:=List (Option V)
abbrev VK:=V->Hp->Prop
abbrev TE:=St->Hp->VK->Prop
abbrev TT:=St->Hp->(Bool->Hp->Prop)->Prop
abbrev TA:=St->Hp->(List V->Hp->Prop)->Prop
structure Ends where
 nx:St->Hp->Prop
 rt:VK
 bk:St->Hp->Prop:=λ_ _=>False
 ct:St->Hp->Prop:=λ_ _=>False
abbrev TS:=Ends->St->Hp->Prop
def EP (X:Cx)(pins:List (Addr×Obj))(σ:St)(Q:VK)(u:Value)(s':Shared):Prop:=∃v H',Inv X pins σ H' s'/\l0 v u/\Q v H'
def TP (X:Cx)(pins:List (Addr×Obj))(σ:St)(Q:Bool->Hp->Prop)(b:Bool)(s':Shared):Prop:=∃H',Inv X pins σ H' s'/\Q b H'
def AP (X:Cx)(pins:List (Addr×Obj))(σ:St)(Q:List V->Hp->Prop)(us:List Value)(s':Shared):Prop:=∃vs H',Inv X pins σ H' s'/\i6 vs us/\Q vs H'
def SP (X:Cx)(pins:List (Addr×Obj))(D:Ends)(f:Flow)(s':Shared):Prop :=
 match f with
 | .next=>∃σ' H',Inv X pins σ' H' s'/\D.nx σ' H'
 | .brk=>∃σ' H',Inv X pins σ' H' s'/\D.bk σ' H'
 | .cont=>∃σ' H',Inv X pins σ' H' s'/\D.ct σ' H'
 | .ret u=>∃v σ' H',Inv X pins σ' H' s'/\l0 v u/\D.rt v H'
def PE (X:Cx)(e:Expr)(t:TE):Prop :=
 ∀(pins:List (Addr×Obj)) (s:Shared) (σ:St) (H:Hp) (Q:VK),Inv X pins σ H s->t σ H Q->wpAny (model X.prog X.w) X.A (eval e X.env) (EP X pins σ Q) X.xe s
def PT (X:Cx)(e:Expr)(t:TT):Prop :=
 ∀(pins:List (Addr×Obj)) (s:Shared) (σ:St) (H:Hp) (Q:Bool->Hp->Prop),Inv X pins σ H s->t σ H Q->wpAny (model X.prog X.w) X.A (isTrue e X.env (eval e X.env)) (TP X pins σ Q) X.xe s
def PW (X:Cx)(e:Expr)(t:TT):Prop :=
 ∀(whole:Sem Value) (pins:List (Addr×Obj)) (s:Shared) (σ:St) (H:Hp) (Q:Bool->Hp->Prop),Inv X pins σ H s->t σ H Q->wpAny (model X.prog X.w) X.A (isTrue e X.env whole) (TP X pins σ Q) X.xe s
theorem PW.pt {X:Cx}{e:Expr}{t:TT}(h:PW X e t):PT X e t:=h _
def PA (X:Cx)(es:List Expr)(t:TA):Prop :=
 ∀(pos:Pos) (pins:List (Addr×Obj)) (s:Shared) (σ:St) (H:Hp) (Q:List V->Hp->Prop),Inv X pins σ H s->t σ H Q->wpAny (model X.prog X.w) X.A (spliced (backTo pos (starEach es X.env))) (AP X pins σ Q) X.xe s
def PS (X:Cx)(st:Stmt)(t:TS):Prop :=
 ∀(pins:List (Addr×Obj)) (s:Shared) (σ:St) (H:Hp) (D:Ends),Inv X pins σ H s->t D σ H->wpAny (model X.prog X.w) X.A (exec st X.env) (SP X pins D) X.xe s
def PSs (X:Cx)(st:List Stmt)(t:TS):Prop :=
 ∀(pins:List (Addr×Obj)) (s:Shared) (σ:St) (H:Hp) (D:Ends),Inv X pins σ H s->t D σ H->wpAny (model X.prog X.w) X.A (execs st X.env) (SP X pins D) X.xe s
theorem thn {α:Type}{t:Sem α}{Q Q':α->Shared->Prop}{M:Model}{A:Around}{E:Value->Shared->Prop}{s:Shared}(h:wpAny M A t Q E s)(hQ:∀a s,Q a s->Q' a s):wpAny M A t Q' E s:=wpAny_mono h hQ λ_ _ x=>x
end
section
section
variable {X:Cx}
def l8 (i:Nat):TE:=λσ H Q=>∃v,σ[i]? = some (some v)/\Q v H
def tC (v:V):TE:=λ_ H Q=>Q v H
theorem D4 {i:Nat}{x:Str}{pos:Pos}(hN:X.N[i]? = some x)(hv:Vis X.env.scope x)(hd:(x == ("__debug__":Str))=false:=by decide)(hcd:(x == ("__classdict__":Str))=false:=by decide):PE X (.Name x pos) (l8 i):=by
 intro pins s σ H Q I h
 obtain⟨v,e,h⟩:=h
 obtain⟨m,hn,hl⟩:=I.loc
 obtain⟨u,r,l⟩:=hl i x v hN e hv
 have fin:EP X pins σ Q u s:=⟨v,H,I,r,h⟩
 rcases l with ⟨hk,hm⟩ | ⟨hk,c,hc,hcell⟩
 .exact wpAny_Name (wpAny_loadName_local I.ok.kind hk hn hm fin) hd
 .rcases hk with hk | hk
  .exact wpAny_Name (wpAny_loadName_cell I.ok.kind hk hc hcell fin) hd
  .exact wpAny_Name (wpAny_loadName_free I.ok.kind hk hc hcell fin hcd) hd
theorem f7 {i j pos}:PE X (.Constant (.int i) j pos) (tC (.int i)):=λ_ _ _ H _ I h=>wpAny_Constant_int ⟨.int i,H,I.tok _,⟨_,rfl⟩,h⟩
theorem zQ {b j pos}:PE X (.Constant (.bool b) j pos) (tC (.bl b)):=λ_ _ _ H _ I h=>Constant_bool ⟨.bl b,H,I,rfl,h⟩
theorem zg {j pos}:PE X (.Constant .none j pos) (tC .non):=λ_ _ _ H _ I h=>Constant_none ⟨.non,H,I,rfl,h⟩
theorem u7 {x j pos}:PE X (.Constant (.str x) j pos) (tC (.str x)):=λ_ _ _ H _ I h=>Calls.Constant_str ⟨.str x,H,I.tok _,⟨_,rfl⟩,h⟩
def Gl (X:Cx)(x:Str):Prop:=X.env.kindOf x=some .globalImplicit
theorem nV {E:Value->Shared->Prop}{pins:List (Addr×Obj)}{s:Shared}{σ:St}{H:Hp}{x:Str}{u:Value}{pos:Pos}{Q:Value->Shared->Prop}(I:Inv X pins σ H s)(hg:Gl X x)(hm:X.mg x=some u)(h:Q u s)
  (hd:(x == ("__debug__":Str))=false:=by decide):wpAny (model X.prog X.w) X.A (eval (.Name x pos) X.env) Q E s :=
 Calls.Name_function_global I.ok.kind hg (Calls.loadGlobal_global (by rw[I.ok.glob];exact I.mod.glob.keeps I.bk) hm h) hd
theorem bh {E:Value->Shared->Prop}{pins:List (Addr×Obj)}{s:Shared}{σ:St}{H:Hp}{x:Str}{u:Value}{pos:Pos}{Q:Value->Shared->Prop}(I:Inv X pins σ H s)(hg:Gl X x)(hm:X.mg x=none)(hv:bootBuiltins x=some u)(h:Q u s)
  (hn:x ≠ "__name__":=by decide) (hd:(x == ("__debug__":Str))=false:=by decide):wpAny (model X.prog X.w) X.A (eval (.Name x pos) X.env) Q E s:=by
 obtain⟨mb,h1,h2⟩:=I.mod.blt
 exact Calls.Name_function_global I.ok.kind hg (Calls.loadGlobal_builtin (by rw[I.ok.glob];exact I.mod.glob.keeps I.bk) hm (by rw[I.ok.blt];exact h1.keeps I.bk) ((h2 x hn).trans hv) h) hd
theorem vI {x:Str}{v:V}{u:Value}{pos:Pos}(hg:Gl X x)(hm:X.mg x=some u)(r:l0 v u)(hd:(x == ("__debug__":Str))=false:=by decide):PE X (.Name x pos) (tC v) :=
 λ_ _ _ H _ I h=>nV I hg hm ⟨v,H,I,r,h⟩ hd
theorem vB {x:Str}{v:V}{u:Value}{pos:Pos}(hg:Gl X x)(hm:X.mg x=none)(hv:bootBuiltins x=some u)(r:l0 v u)(hn:x ≠ "__name__":=by decide)(hd:(x == ("__debug__":Str))=false:=by decide):PE X (.Name x pos) (tC v) :=
 λ_ _ _ H _ I h=>bh I hg hm hv ⟨v,H,I,r,h⟩ hn hd
variable {a b:Expr}{ta tb:TE}{pos:Pos}
variable {tA tB':TT}{rest:List Expr}
def tY (t u:TT):TT:=λσ H Q=>t σ H λc H1=>if c=true then u σ H1 Q else Q false H1
def tOr (t u:TT):TT:=λσ H Q=>t σ H λc H1=>if c=true then Q true H1 else u σ H1 Q
def zZ (t:TT):TT:=λσ H Q=>t σ H λc H1=>Q (!c) H1
theorem eu (ha:PT X a tA):PW X (.BoolOp .And [a] pos) tA:=by
 intro wh pins s σ H Q I h
 refine isTrue_and (thn (ha pins s σ H Q I h) λc s1 e=>?_)
 cases c with
 | true=>exact isTrue_and_nil e
 | false=>exact e
theorem yf (ha:PT X a tA):PW X (.BoolOp .Or [a] pos) tA:=by
 intro wh pins s σ H Q I h
 refine isTrue_or (thn (ha pins s σ H Q I h) λc s1 e=>?_)
 cases c with
 | false=>exact isTrue_or_nil e
 | true=>exact e
theorem iR (ha:PT X a tA)(hb:PW X (.BoolOp .And (b::rest) pos) tB'):PW X (.BoolOp .And (a::b::rest) pos) (tY tA tB'):=by
 intro wh pins s σ H Q I h
 refine isTrue_and (thn (ha pins s σ H _ I h) λc s1 ⟨H1,I1,q1⟩=>?_)
 cases c with
 | true=>exact hb wh pins s1 σ H1 Q I1 q1
 | false=>exact⟨H1,I1,q1⟩
theorem zS (ha:PT X a tA)(hb:PW X (.BoolOp .Or (b::rest) pos) tB'):PW X (.BoolOp .Or (a::b::rest) pos) (tOr tA tB'):=by
 intro wh pins s σ H Q I h
 refine isTrue_or (thn (ha pins s σ H _ I h) λc s1 ⟨H1,I1,q1⟩=>?_)
 cases c with
 | true=>exact⟨H1,I1,q1⟩
 | false=>exact hb wh pins s1 σ H1 Q I1 q1
theorem xX (ha:PT X a tA):PT X (.UnaryOp .Not a pos) (zZ tA):=by
 intro pins s σ H Q I h
 exact isTrue_not (ha pins s σ H (λc H1=>Q (!c) H1) I h)
def tL (ta tb:TE):TE:=λσ H Q=>ta σ H λx H1=>∃c,x = .bl c/\if c=true then tb σ H1 Q else Q (.bl false) H1
def wZ (ta:TE):TE:=λσ H Q=>ta σ H λx H1=>∃c,x = .bl c/\Q (.bl (!c)) H1
theorem qN {op}{t:TE}(h:PE X a t):PE X (.BoolOp op [a] pos) t:=λpins s σ H Q I hw=>BoolOp_one (h pins s σ H Q I hw)
theorem ui (ha:PE X a ta)(hb:PE X (.BoolOp .And (b::rest) pos) tb):PE X (.BoolOp .And (a::b::rest) pos) (tL ta tb):=by
 intro pins s σ H Q I h
 refine BoolOp_and (thn (ha pins s σ H _ I h) λv s1 ⟨x,H1,I1,r1,q1⟩=>?_)
 obtain⟨c,rfl,q1⟩:=q1
 cases r1
 refine wpAny_truthy_bool ?_
 cases c with
 | true=>exact hb pins s1 σ H1 Q I1 q1
 | false=>exact⟨.bl false,H1,I1,rfl,q1⟩
theorem za (ha:PE X a ta):PE X (.UnaryOp .Not a pos) (wZ ta):=by
 intro pins s σ H Q I h
 refine UnaryOp_ (thn (ha pins s σ H _ I h) λv s1 ⟨x,H1,I1,r1,q1⟩=>?_)
 obtain⟨c,rfl,q1⟩:=q1
 cases r1
 exact not_of (wpAny_truthy_bool ⟨.bl (!c),H1,I1,rfl,q1⟩)
def tIf (t:TT)(ta tb:TE):TE:=λσ H Q=>t σ H λc H1=>if c=true then ta σ H1 Q else tb σ H1 Q
theorem kP {c:Expr}(hc:PT X c tA)(ha:PE X a ta)(hb:PE X b tb):PE X (.IfExp c a b pos) (tIf tA ta tb):=by
 intro pins s σ H Q I h
 refine wpAny_IfExp (thn (hc pins s σ H _ I h) λd s1 ⟨H1,I1,q1⟩=>?_)
 cases d with
 | true=>exact ha pins s1 σ H1 Q I1 q1
 | false=>exact hb pins s1 σ H1 Q I1 q1
end
end
section
def SqL (K:Fg)(H:Hp)(a:Addr)(xs:List V):Prop :=
 Rd H a (.lst xs) \/
  ∃(o:Obj) (its:Array Value) (n:Nat),K.lookup a=some o/\o.cls = .type "list" /\ o.dict=none/\o.data = .seq its n/\its.size<=sizeLine/\i6 xs its.toList
def SqT (K:Fg)(H:Hp)(a:Addr)(xs:List V):Prop :=
 Rd H a (.tup xs) \/
  ∃(o:Obj) (its:Array Value) (n:Nat),K.lookup a=some o/\o.cls = .type "tuple" /\ o.data = .seq its n/\its.size<=sizeLine/\i6 xs its.toList
def Bs:Value->Option V
 | .none=>some .non
 | .bool b=>some (.bl b)
 | .int i _=>some (.int i)
 | .str x _=>some (.str x)
 | .bytes b _=>some (.byt b)
 | .float b _=>some (.flt b)
 | .ref a=>some (.ref a)
 | .type n=>some (.ty n)
 | _=>none
theorem l0.abs {x:V}{u:Value}(r:l0 x u):Bs u=some x:=by
 cases x with
 | non=>cases r;rfl
 | bl _=>cases r;rfl
 | int _=>obtain⟨t,rfl⟩:=r;rfl
 | str _=>obtain⟨t,rfl⟩:=r;rfl
 | byt _=>obtain⟨t,rfl⟩:=r;rfl
 | flt _=>obtain⟨t,rfl⟩:=r;rfl
 | ref _=>cases r;rfl
 | ty _=>cases r;rfl
theorem l0.inj {x y:V}{u:Value}(r:l0 x u)(q:l0 y u):x=y:=Option.some.inj (r.abs.symm.trans q.abs)
theorem i6.inj:∀{xs ys:List V} {us:List Value},i6 xs us->i6 ys us->xs=ys
 | _,_,_,.nil,.nil=>rfl
 | _,_,_,.cons r t,.cons r' t'=>by rw[r.inj r',i6.inj t t']
section
variable {X:Cx}{pins:List (Addr×Obj)}{σ:St}{H:Hp}{s:Shared}{a:Addr}{xs ys:List V}
theorem SqL.of {K:Fg}(h:H a=some (.lst xs)):SqL K H a xs:=.inl (.inl h)
theorem SqT.of {K:Fg}(h:H a=some (.tup xs)):SqT K H a xs:=.inl (.inl h)
theorem Inv.list (I:Inv X pins σ H s)(h:SqL X.K H a xs):∃its:List Value,i6 xs its/\PlainL s.heap a its.toArray/\xs.length<=sizeLine:=by
 rcases h with h | ⟨o,its,n,hk,hc,hd,hs,hz,r⟩
 .obtain⟨z,its,n,r,e⟩:=h.ok I.hok
  exact⟨its,r,⟨_,n,e,rfl,rfl,rfl⟩,z⟩
 .refine⟨its.toList,r,⟨o,n,I.kIn a o hk,hc,hd,by simpa using hs⟩,?_⟩
  have e:=r.length
  simp only[Array.length_toList]at e
  omega
theorem Inv.tuple (I:Inv X pins σ H s)(h:SqT X.K H a xs):∃its:List Value,i6 xs its/\IsTup s.heap a its.toArray/\xs.length<=sizeLine:=by
 rcases h with h | ⟨o,its,n,hk,hc,hs,hz,r⟩
 .obtain⟨z,its,r,p⟩:=h.ok I.hok
  exact⟨its,r,p,z⟩
 .refine⟨its.toList,r,⟨o,I.kIn a o hk,hc,n,by simpa using hs⟩,?_⟩
  have e:=r.length
  simp only[Array.length_toList]at e
  omega
theorem Inv.list_inj (I:Inv X pins σ H s)(h:SqL X.K H a xs)(h':SqL X.K H a ys):xs=ys:=by
 obtain⟨its,r,⟨o,n,e,_,_,d⟩,_⟩:=I.list h
 obtain⟨its',r',⟨o',n',e',_,_,d'⟩,_⟩:=I.list h'
 rw[e]at e';cases e'
 rw[d]at d'
 injection d' with d1 _
 have:its=its':=by simpa using congrArg Array.toList d1
 subst this
 exact r.inj r'
theorem Inv.tuple_inj (I:Inv X pins σ H s)(h:SqT X.K H a xs)(h':SqT X.K H a ys):xs=ys:=by
 obtain⟨its,r,⟨o,e,_,n,d⟩,_⟩:=I.tuple h
 obtain⟨its',r',⟨o',e',_,n',d'⟩,_⟩:=I.tuple h'
 rw[e]at e';cases e'
 rw[d]at d'
 injection d' with d1 _
 have:its=its':=by simpa using congrArg Array.toList d1
 subst this
 exact r.inj r'
end
abbrev Cx.wish (X:Cx)(E:Value->Shared->Prop):Cx:={ X with xe:=E }
abbrev Cx.nox (X:Cx):Cx:=X.wish λ_ _=>False
theorem Cx.Ok.wish {X:Cx}(ok:X.Ok)(E:Value->Shared->Prop):(X.wish E).Ok :=
 ⟨ok.mod,ok.kind,ok.glob,ok.blt,ok.above,ok.inj,ok.has,ok.cab,ok.hd,ok.frames,ok.stk,ok.exf,ok.bs,ok.bsz,ok.noex,ok.exfs,ok.funs,ok.frf⟩
theorem Cx.Ok.unwish {X:Cx}{E:Value->Shared->Prop}(ok:(X.wish E).Ok):X.Ok :=
 ⟨ok.mod,ok.kind,ok.glob,ok.blt,ok.above,ok.inj,ok.has,ok.cab,ok.hd,ok.frames,ok.stk,ok.exf,ok.bs,ok.bsz,ok.noex,ok.exfs,ok.funs,ok.frf⟩
section
variable {X:Cx}{pins:List (Addr×Obj)}{σ:St}{H:Hp}{s:Shared}{E:Value->Shared->Prop}
theorem Inv.wish (I:Inv X pins σ H s)(E:Value->Shared->Prop):Inv (X.wish E) pins σ H s:=⟨I.ok.wish E,I.os,I.bare,I.base,I.loc,I.cell,I.free,I.freeC,I.pin,I.hok,I.len⟩
theorem Inv.unwish (I:Inv (X.wish E) pins σ H s):Inv X pins σ H s:=⟨I.ok.unwish,I.os,I.bare,I.base,I.loc,I.cell,I.free,I.freeC,I.pin,I.hok,I.len⟩
theorem SP.unwish {D:Ends}{f:Flow}{s':Shared}(h:SP (X.wish E) pins D f s'):SP X pins D f s':=by
 cases f with
 | next=>obtain⟨σ',H',I,q⟩:=h;exact⟨σ',H',I.unwish,q⟩
 | brk=>obtain⟨σ',H',I,q⟩:=h;exact⟨σ',H',I.unwish,q⟩
 | cont=>obtain⟨σ',H',I,q⟩:=h;exact⟨σ',H',I.unwish,q⟩
 | ret u=>obtain⟨v,σ',H',I,r,q⟩:=h;exact⟨v,σ',H',I.unwish,r,q⟩
theorem PSs.nox {st:List Stmt}{t:TS}(h:PSs X.nox st t):PSs X st t:=λpins s σ H D I hw =>
 wpAny_mono (h pins s σ H D (I.wish _) hw) (λ_ _ q=>q.unwish) λ_ _ z=>False.elim z
end
section
variable {X:Cx}{st:Stmt}{rest:List Stmt}{t u:TS}{e:Expr}{te:TE}{pos:Pos}
def qP:TS:=λD σ H=>D.nx σ H
def O9 (t u:TS):TS:=λD σ H=>t { D with nx:=u D } σ H
theorem dY:PSs X [] qP:=λ_ _ σ H _ I h=>wpAny_execs_nil ⟨σ,H,I,h⟩
theorem i8 (h1:PS X st t)(h2:PSs X rest u):PSs X (st::rest) (O9 t u):=by
 intro pins s σ H D I h
 refine wpAny_execs_cons (thn (h1 pins s σ H { D with nx:=u D } I h) λf s1 q=>?_)
 cases f with
 | next =>
  obtain⟨σ',H',I',q⟩:=q
  exact h2 pins s1 σ' H' D I' q
 | ret v=>exact q
 | brk=>exact q
 | cont=>exact q
theorem C0 (h1:PS X st t):PSs X [st] t:=by
 intro pins s σ H D I h
 refine wpAny_execs_cons (thn (h1 pins s σ H D I h) λf s1 q=>?_)
 cases f with
 | next=>exact wpAny_execs_nil q
 | ret v=>exact q
 | brk=>exact q
 | cont=>exact q
def xa:TS:=λD σ H=>D.ct σ H
theorem jI:PS X (.Continue pos) xa:=λ_ _ σ H _ I h=>wpAny_Continue ⟨σ,H,I,h⟩
theorem Inv.quiet {pins:List (Addr×Obj)}{σ:St}{H:Hp}{s:Shared}(I:Inv X pins σ H s):interactive X.env=false:=by simp[interactive,I.ok.kind]
def aC (te:TE):TS:=λD σ H=>te σ H λ_ H1=>D.nx σ H1
theorem X2 (he:PE X e te)(hs:swapsWith e none pos.line X.env=pure false:=by rfl):PS X (.Expr e pos) (aC te):=by
 intro pins s σ H D I h
 exact wpAny_Expr_any (thn (he pins s σ H _ I h) λv s1 ⟨x,H1,I1,r1,q1⟩=>⟨σ,H1,I1,q1⟩) I.quiet hs
def pV (te:TE):TS:=λD σ H=>te σ H D.rt
theorem W2 (he:PE X e te):PS X (.Return (some e) pos) (pV te):=by
 intro pins s σ H D I h
 exact wpAny_Return_some (thn (he pins s σ H _ I h) λv s1 ⟨x,H1,I1,r1,q1⟩=>⟨x,σ,H1,I1,r1,q1⟩)
def kB (c:TT)(t u:TS):TS:=λD σ H=>c σ H λb H1=>if b=true then t D σ H1 else u D σ H1
theorem fu {c:Expr}{a b:List Stmt}{tc:TT}(hc:PT X c tc)(ha:PSs X a t)(hb:PSs X b u):PS X (.If c a b pos) (kB tc t u):=by
 intro pins s σ H D I h
 refine wpAny_If (thn (hc pins s σ H _ I h) λd s1 ⟨H1,I1,q1⟩=>?_)
 cases d with
 | true=>exact ha pins s1 σ H1 D I1 q1
 | false=>exact hb pins s1 σ H1 D I1 q1
end
abbrev TG:=V->St->Hp->(St->Hp->Prop)->Prop
abbrev TGs:=List V->St->Hp->(St->Hp->Prop)->Prop
def PG (X:Cx)(target:Expr)(t:TG):Prop :=
 ∀(pins:List (Addr×Obj)) (s:Shared) (σ:St) (H:Hp) (v:V) (u:Value) (Q:St->Hp->Prop),Inv X pins σ H s->l0 v u->t v σ H Q ->
  wpAny (model X.prog X.w) X.A (assign target X.env u) (λ_ s'=>∃σ' H',Inv X pins σ' H' s'/\Q σ' H') X.xe s
def PGs (X:Cx)(ts:List Expr)(t:TGs):Prop :=
 ∀(pins:List (Addr×Obj)) (s:Shared) (σ:St) (H:Hp) (vs:List V) (us:List Value) (Q:St->Hp->Prop),Inv X pins σ H s->i6 vs us->t vs σ H Q ->
  wpAny (model X.prog X.w) X.A (assignInOrder ((assignEach ts X.env).map (·.2)) us) (λ_ s'=>∃σ' H',Inv X pins σ' H' s'/\Q σ' H') X.xe s
abbrev yu:=V->V->V->Hp->(Hp->Prop)->Prop
def zU (X:Cx)(t:yu):Prop :=
 ∀(pins:List (Addr×Obj)) (s:Shared) (σ:St) (H:Hp) (o i v:V) (ov iv u:Value) (Q:Hp->Prop),Inv X pins σ H s->l0 o ov->l0 i iv->l0 v u->t o i v H Q ->
  wpAny (model X.prog X.w) X.A (setItem ov iv u) (λ_ s'=>∃H',Inv X pins σ H' s'/\Q H') X.xe s
section
variable {X:Cx}{pos:Pos}
def G7 (i:Nat):TG:=λv σ H Q=>Q (σ.set i (some v)) H
theorem om {i:Nat}{x:Str}(hN:X.N.Nodup)(hi:X.N[i]? = some x)(hx:Loc X.env.scope x)(hf:X.fn x=true\/X.env.scope.names.lookup x=some .local:=by first | exact .inl rfl | exact .inr rfl | assumption):PG X (.Name x pos) (G7 i):=by
 intro pins s σ H v u Q I r h
 exact wpAny_assign_Name (N6 I hN hi hx r (λs' I'=>⟨_,H,I',h⟩) hf)
def Av:TGs:=λvs σ H Q=>vs=[]/\Q σ H
def xp (t:TG)(u:TGs):TGs:=λvs σ H Q=>∃v r,vs=v::r/\t v σ H λσ' H'=>u r σ' H' Q
theorem uX:PGs X [] Av:=by
 intro pins s σ H vs us Q I r h
 obtain⟨e,h⟩:=h
 subst e
 cases r
 exact assignInOrder_nil ⟨σ,H,I,h⟩
theorem rN {e:Expr}{es:List Expr}{t:TG}{u:TGs}(h1:PG X e t)(h2:PGs X es u)
  (hs:(assignEach (e::es) X.env).map (·.2)=assign e X.env::(assignEach es X.env).map (·.2):=by rfl):PGs X (e::es) (xp t u):=by
 intro pins s σ H vs us Q I r h
 obtain⟨v,vr,e1,h⟩:=h
 subst e1
 cases r with
 | cons r rr =>
  rw[hs]
  refine assignInOrder_cons (thn (h1 pins s σ H _ _ _ I r h) λ_ s1 ⟨σ1,H1,I1,q1⟩=>?_)
  exact h2 pins s1 σ1 H1 _ _ Q I1 rr q1
def zL (K:Fg)(n:Nat)(t:TGs):TG:=λv σ H Q=>∃a xs,v = .ref a/\SqT K H a xs/\xs.length=n/\t xs σ H Q
theorem yB {es:List Expr}{k:Nat}{t:TGs}{n:Nat}(hc:X.calm=true)(h:PGs X es t)
  (hn:(assignEach es X.env).length=n:=by rfl) (hst:(assignEach es X.env).findIdx? (·.1)=none:=by rfl):PG X (.Tuple es k pos) (zL X.K n t):=by
 intro pins s σ H v u Q I r hw
 obtain⟨a,xs,e1,hq,hl,hw⟩:=hw
 subst e1
 cases r
 obtain⟨its,rv,ht,hz⟩:=I.tuple hq
 refine assign_Tuple_tuple (I.ok.hd hc) ht (by simp[hn,<-hl,rv.length]) hst λh' hx=>?_
 have I1:Inv X pins σ H { s with heap:=h' }:=I.kept (t':=s.toks) λb o e=>hx b o (Nat.ne_of_lt (Heap.lt_size e)) e
 exact h pins _ σ H xs _ Q I1 (by simpa using rv) hw
def kj (to ti:TE)(t:yu):TG:=λv σ H Q=>to σ H λo H1=>ti σ H1 λi H2=>t o i v H2 λH3=>Q σ H3
theorem Y2 {o i:Expr}{to ti:TE}{t:yu}(ho:PE X o to)(hi:PE X i ti)(hs:zU X t)
  (ha:∀v,assign (.Subscript o i pos) X.env v=(do
   let ov <-holding [v] (eval o X.env)
   let iv <-holding [v,ov] (eval i X.env)
   standAt pos
   holding [v,ov,iv] (setItem ov iv v)
   release [v,ov,iv] []):=by intro _;rfl):PG X (.Subscript o i pos) (kj to ti t):=by
 intro pins s σ H v u Q I r h
 rw[ha]
 refine wpAny_bind (wpAny_holding (thn (ho pins s σ H _ I h) λov s1 ⟨x,H1,I1,r1,q1⟩=>?_))
 refine wpAny_bind (wpAny_holding (thn (hi pins s1 σ H1 _ I1 q1) λiv s2 ⟨y,H2,I2,r2,q2⟩=>?_))
 refine wpAny_bind (wpAny_standAt (wpAny_bind (wpAny_holding (thn (hs pins s2 σ H2 x y v ov iv u _ I2 r1 r2 r q2) λ_ s3 ⟨H3,I3,q3⟩=>?_))))
 exact wpAny_release ⟨σ,H3,I3,q3⟩
def L0 (te:TE)(g:TG):TS:=λD σ H=>te σ H λx H1=>g x σ H1 D.nx
theorem T7 {tg e:Expr}{te:TE}{g:TG}(he:PE X e te)(hg:PG X tg g)(hs:swapsWithSole [tg] e pos.line X.env=pure false:=by rfl)(hw:swappedStores [tg] e X.env=pure none:=by rfl)
  (h1:(assignEach [tg] X.env).map (·.2)=[assign tg X.env]:=by rfl):PS X (.Assign [tg] e pos) (L0 te g):=by
 intro pins s σ H D I h
 refine wpAny_Assign_stores (thn (he pins s σ H _ I h) λv s1 ⟨x,H1,I1,r1,q1⟩=>?_) hs hw
 rw[h1]
 exact thn (hg pins s1 σ H1 x v _ I1 r1 q1) λ_ s2 q=>q
theorem J7 {i:Nat}{x:Str}{e:Expr}{te:TE}{pos':Pos}(hN:X.N.Nodup)(hi:X.N[i]? = some x)(hx:Loc X.env.scope x)(he:PE X e te)(hs:swapsWith e (some (.Name x pos')) pos.line X.env=pure false:=by rfl)(hf:X.fn x=true\/X.env.scope.names.lookup x=some .local:=by first | exact .inl rfl | exact .inr rfl | assumption) :
  PS X (.Assign [.Name x pos'] e pos) (L0 te (G7 i)):=by
 intro pins s σ H D I h
 refine wpAny_Assign_Name (thn (he pins s σ H _ I h) λv s1 ⟨y,H1,I1,r1,q1⟩=>?_) hs
 exact N6 I1 hN hi hx r1 (λs2 I2=>⟨_,H1,I2,q1⟩) hf
def Ba (i j:Nat)(ta:TA):TS:=λD σ H=>ta σ H λvs H1=>∃v w,vs=[v,w]/\D.nx ((σ.set i (some v)).set j (some w)) H1
theorem zG {i j:Nat}{x y:Str}{a b:Expr}{ta:TA}{px py pt:Pos}{kt k2 pt2}(hc:X.calm=true)(hN:X.N.Nodup)(hi:X.N[i]? = some x)(hj:X.N[j]? = some y)(hij:i≠j)
  (hx:X.env.scope.names.lookup x=some .local) (hy:X.env.scope.names.lookup y=some .local) (ha:PA X [a,b] ta)
  (hw:swappedStores [.Tuple [.Name x px,.Name y py] kt pt] (.Tuple [a,b] k2 pt2) X.env=pure (some [x,y]))
  (hs:swapsWithSole [.Tuple [.Name x px,.Name y py] kt pt] (.Tuple [a,b] k2 pt2) pos.line X.env=pure false:=by rfl) :
  PS X (.Assign [.Tuple [.Name x px,.Name y py] kt pt] (.Tuple [a,b] k2 pt2) pos) (Ba i j ta):=by
 intro pins s σ H D I h
 rw[exec_Assign_arm]
 refine wpAny_bind (wpAny_standAt ?_)
 rw[hs]
 refine wpAny_bind (wpAny_pure ?_)
 rw[if_neg (by decide)]
 refine wpAny_bind (Tuple_ (thn (ha _ pins s σ H _ I h) λus s1 ⟨vs,H1,I1,r1,q1⟩=>?_))
 obtain⟨v,w,e1,q1⟩:=q1
 subst e1
 obtain⟨u1,u2,rfl,rv,rw'⟩:∃u1 u2,us=[u1,u2]/\l0 v u1/\l0 w u2:=by
  cases r1 with
  | cons p q =>
   cases q with
   | cons p' q' =>
    cases q'
    exact⟨_,_,rfl,p,p'⟩
 refine wpAny_newObj_type ?_ (by show 2<=sizeLine;decide)
 have I2:Inv X pins σ H1 { s1 with heap:=s1.heap.push { cls:=.type "tuple",data:=.seq [u1,u2].toArray } }:=I1.kept (t':=s1.toks) λb o e=>Heap.get?_push_of_some _ e
 rw[hw]
 refine wpAny_bind (wpAny_pure ?_)
 show wpAny (model X.prog X.w) X.A (do rule "assign.swapped-stores";let items <-unpackItems (.ref s1.heap.objs.size) 2 none;assignInOrder [λv=>bindName X.env y v,λv=>bindName X.env x v] items.reverse;pure Flow.next) _ _ _
 refine wpAny_bind (wpAny_rule (wpAny_bind (unpackItems_tuple (items:=#[u1,u2]) (I.ok.hd hc) (IsTup.new s1.heap _) λh' hx'=>?_)))
 have I3:=I2.kept (h':=h') (t':=s1.toks) λb o e=>hx' b o (Nat.ne_of_lt (Heap.lt_size e)) e
 show wpAny _ _ (assignInOrder [λv=>bindName X.env y v,λv=>bindName X.env x v] [u2,u1] >>= λ_=>pure Flow.next) _ _ _
 refine wpAny_bind (assignInOrder_cons (wpAny_bindName (N6 I3 hN hj (.inl hy) rw' (λs2 I4=>?_) (.inr hy))))
 refine assignInOrder_cons (wpAny_bindName (N6 I4 hN hi (.inl hx) rv (λs3 I5=>assignInOrder_nil (wpAny_pure ?_)) (.inr hx)))
 rw[List.set_comm _ _ (Ne.symm hij)]at I5
 exact⟨_,H1,I5,q1⟩
end
section
variable {X:Cx}{pos:Pos}
end
structure It where
 go:Nat->Hp->Prop
 yld:Nat->Hp->V->Hp->Prop
 stop:Nat->Hp->Prop
def dS (X:Cx)(pins:List (Addr×Obj))(H:Hp)(b:Addr):Prop :=
 H b=none/\b≠X.env.locals/\b ∉ X.fs/\(b∈X.ex\/X.s₀.heap.objs.size<=b)/\(∀x c,X.env.cells.lookup x=some c->c≠b)/\∀p∈X.pn++pins,p.1≠b
theorem Inv.fpOk {X:Cx}{pins:List (Addr×Obj)}{σ:St}{H H':Hp}{s:Shared}{b:Addr}(I:Inv X pins σ H s)(hb:s.heap.objs.size<=b)(hn:H' b=none):dS X pins H' b:=by
 refine⟨hn,Nat.ne_of_gt (Nat.lt_of_lt_of_le I.lt hb),I.nofs hb,.inr (Nat.le_trans I.sz hb),λx c e z=>?_,λp hp z=>?_⟩
 .obtain⟨v,q⟩:=I.cell x c e
  exact absurd (Nat.lt_of_lt_of_le q.lt (by rw[z];exact hb)) (Nat.lt_irrefl _)
 .exact absurd (Nat.lt_of_lt_of_le (Heap.lt_size (I.pin p hp).1) (by rw[z];exact hb)) (Nat.lt_irrefl _)
structure Turn (P:Program) (w:World) (K:Fg) (tg:Expr) (J:It) (fp:List Addr) (it:Addr) (tn:Nat->Heap->Prop):Prop where
 mem:it∈fp
 obj:∀i h,tn i h->∀b∈fp,∃o,h.get? b=some o/\∀v,o.data ≠ .cell v
 keep:∀i h h',tn i h->(∀b∈fp,∀o,h.get? b=some o->h'.get? b=some o)->tn i h'
 item:∀(X:Cx),X.prog=P->X.w=w->X.K=K->X.calm=true->∀(i:Nat) (pins:List (Addr×Obj)) (s:Shared) (σ:St) (H:Hp) (E:Value->Shared->Prop),Inv X pins σ H s->(∀b∈fp,dS X pins H b)->tn i s.heap->J.go i H ->
  wpAny (model P w) X.A (pyNext (.ref it)) (λr s1=>∃u,r=some u /\
   wpAny (model P w) X.A (letOwnedTupleGo tg (.ref it) u) (λ_ s2=>∃x H',Inv X pins σ H' s2/\l0 x u/\J.yld i H x H'/\tn (i+1) s2.heap/\∀b∈fp,H' b=none) E s1) E s
 done:∀(X:Cx),X.prog=P->X.w=w->X.K=K->X.calm=true->∀(i:Nat) (pins:List (Addr×Obj)) (s:Shared) (σ:St) (H:Hp) (E:Value->Shared->Prop),Inv X pins σ H s->(∀b∈fp,dS X pins H b)->tn i s.heap->J.stop i H ->
  wpAny (model P w) X.A (pyNext (.ref it)) (λr s1=>r=none/\Inv X pins σ H s1) E s
 self:∀(A:Around) (i:Nat) (s:Shared) (Q:Value->Shared->Prop) (E:Value->Shared->Prop),tn i s.heap->Q (.ref it) s->wpAny (model P w) A (pyIter (.ref it)) Q E s
abbrev TI:=St->Hp->(It->Hp->Prop)->Prop
def PIE (X:Cx)(pins:List (Addr×Obj))(σ:St)(tg:Expr)(R:It->Hp->Prop)(itv:Value)(s2:Shared):Prop :=
 ∃(it:Addr) (fp:List Addr) (tn:Nat->Heap->Prop) (J:It) (H':Hp),itv = .ref it/\Inv X pins σ H' s2/\Turn X.prog X.w X.K tg J fp it tn/\tn 0 s2.heap/\(∀b∈fp,dS X pins H' b)/\R J H'
def PI (X:Cx)(tg iter:Expr)(wi:TI):Prop :=
 ∀(pins:List (Addr×Obj)) (s:Shared) (σ:St) (H:Hp) (R:It->Hp->Prop),Inv X pins σ H s->wi σ H R ->
  wpAny (model X.prog X.w) X.A (eval iter X.env) (λv s1=>wpAny (model X.prog X.w) X.A (pyIter v) (PIE X pins σ tg R) X.xe s1) X.xe s
theorem rE {M:Model}{A:Around}{E:Value->Shared->Prop}{s:Shared}{tg:Expr}{it:Addr}{u:Value}{o:Obj}{n:String}{vs:Array Value}{Q:Unit->Shared->Prop}(ho:s.heap.get? it=some o)(hc:o.cls = .type n)(hd:o.data = .fields vs)
    (hn:["enumerate","zip","dict_itemiterator","dict_reverseitemiterator","odict_iterator","itertools.zip_longest","itertools.pairwise"].contains n=false) (hQ:Q () s):wpAny M A (letOwnedTupleGo tg (.ref it) u) Q E s:=by
  unfold letOwnedTupleGo
  cases tg <;> first
    | exact wpAny_pure hQ
    | (cases u <;> first
        | exact wpAny_pure hQ
        | (refine wpAny_bind (wpAny_load ho ?_)
           rw[hc,hd]
           show wpAny M A (if (["enumerate","zip","dict_itemiterator","dict_reverseitemiterator","odict_iterator","itertools.zip_longest","itertools.pairwise"].contains n&&vs[0]? == some (rawInt _))=true then _ else _) Q E s
           rw[if_neg (by intro h;rw[hn,Bool.false_and]at h;cases h)]
           exact wpAny_pure hQ))
def Itl (K:Fg)(a:Addr):It :=
 ⟨λi H=>∃xs x,SqL K H a xs/\xs[i]? = some x,λi H x H'=>H'=H/\∀xs,SqL K H a xs->xs[i]? = some x,λi H=>∃xs,SqL K H a xs/\xs.length<=i⟩
def Itt (K:Fg)(a:Addr):It :=
 ⟨λi H=>∃xs x,SqT K H a xs/\xs[i]? = some x,λi H x H'=>H'=H/\∀xs,SqT K H a xs->xs[i]? = some x,λi H=>∃xs,SqT K H a xs/\xs.length<=i⟩
def Itr (lo:Int)(n:Nat):It:=⟨λi _=>i<n,λi H x H'=>H'=H/\x = .int (lo+i),λi _=>n<=i⟩
theorem qf {P:Program}{w:World}{K:Fg}{tg:Expr}(a it:Addr):Turn P w K tg (Itl K a) [it] it (λi h=>h.IsListIter it a i) where
 mem:=by simp
 obj:=λi h st b hb=>by
  have e:b=it:=by simpa using hb
  subst e
  obtain⟨o,e,c,d⟩:=st
  exact⟨o,e,λv z=>by rw[d]at z;cases z⟩
 keep:=λi h h' st k=>st.at λo e=>k it (by simp) o e
 item:=by
  intro X hP hw hK hc i pins s σ H E I hf st hg
  subst hP hw hK
  obtain⟨xs,x,hq,hx⟩:=hg
  obtain⟨its,rv,p,hz⟩:=I.list hq
  obtain⟨u,hu,ru⟩:=rv.get hx
  obtain⟨f0,f1,f2,f3,f4,f5⟩:=hf it (by simp)
  refine wpAny_pyNext_list_item st p.isList (x:=u) (by simpa using hu) λh' st' sb=>?_
  have I1:Inv X pins σ H { s with heap:=h' }:=I.turned (t':=s.toks) (λb o hb e=>(sb.2 b hb).trans e) f0 f1 f3 f4 f5
  obtain⟨o,e,c,d⟩:=id st'
  exact⟨u,rfl,rE (s:={ s with heap:=h' }) e c d (by decide) ⟨x,H,I1,ru,⟨rfl,λys hy=>by rw[I.list_inj hy hq];exact hx⟩,st',λb hb=>(hf b hb).1⟩⟩
 done:=by
  intro X hP hw hK hc i pins s σ H E I hf st hg
  subst hP hw hK
  obtain⟨xs,hq,hx⟩:=hg
  obtain⟨its,rv,p,hz⟩:=I.list hq
  obtain⟨f0,f1,f2,f3,f4,f5⟩:=hf it (by simp)
  have hl:=rv.length
  exact wpAny_pyNext_list_end (I.ok.hd hc) st p.isList (by simp;omega) λh' eb=>⟨rfl,I.turned (t':=s.toks) (λb o hb e=>eb b o hb e) f0 f1 f3 f4 f5⟩
 self:=λ_ _ _ _ _ st h=>wpAny_pyIter_listiter st h
theorem mT {P:Program}{w:World}{K:Fg}{tg:Expr}(a it:Addr):Turn P w K tg (Itt K a) [it] it (λi h=>h.IsTupleIter it a i) where
 mem:=by simp
 obj:=λi h st b hb=>by
  have e:b=it:=by simpa using hb
  subst e
  obtain⟨o,e,c,d⟩:=st
  exact⟨o,e,λv z=>by rw[d]at z;cases z⟩
 keep:=λi h h' st k=>st.at λo e=>k it (by simp) o e
 item:=by
  intro X hP hw hK hc i pins s σ H E I hf st hg
  subst hP hw hK
  obtain⟨xs,x,hq,hx⟩:=hg
  obtain⟨its,rv,p,hz⟩:=I.tuple hq
  obtain⟨u,hu,ru⟩:=rv.get hx
  obtain⟨f0,f1,f2,f3,f4,f5⟩:=hf it (by simp)
  refine wpAny_pyNext_tuple_item st (show s.heap.IsTuple a its.toArray from p) (x:=u) (by simpa using hu) λh' st' sb=>?_
  have I1:Inv X pins σ H { s with heap:=h' }:=I.turned (t':=s.toks) (λb o hb e=>(sb.2 b hb).trans e) f0 f1 f3 f4 f5
  obtain⟨o,e,c,d⟩:=id st'
  exact⟨u,rfl,rE (s:={ s with heap:=h' }) e c d (by decide) ⟨x,H,I1,ru,⟨rfl,λys hy=>by rw[I.tuple_inj hy hq];exact hx⟩,st',λb hb=>(hf b hb).1⟩⟩
 done:=by
  intro X hP hw hK hc i pins s σ H E I hf st hg
  subst hP hw hK
  obtain⟨xs,hq,hx⟩:=hg
  obtain⟨its,rv,p,hz⟩:=I.tuple hq
  obtain⟨f0,f1,f2,f3,f4,f5⟩:=hf it (by simp)
  have hl:=rv.length
  exact wpAny_pyNext_tuple_end (I.ok.hd hc) st (show s.heap.IsTuple a its.toArray from p) (by simp;omega) λh' eb=>⟨rfl,I.turned (t':=s.toks) (λb o hb e=>eb b o hb e) f0 f1 f3 f4 f5⟩
 self:=λ_ _ _ _ _ st h=>wpAny_pyIter_tupleiter st h
theorem mq {P:Program}{w:World}{K:Fg}{tg:Expr}(it:Addr)(lo:Int)(n:Nat):Turn P w K tg (Itr lo n) [it] it (λi h=>IsRangeIter h it (lo+(i:Nat)*1) ((n:Int)-(i:Nat)) 1) where
 mem:=by simp
 obj:=λi h st b hb=>by
  have e:b=it:=by simpa using hb
  subst e
  exact⟨_,st,λv z=>by
   have z':Data.fields _=Data.cell v:=z
   cases z'⟩
 keep:=λi h h' st k=>k it (by simp) _ st
 item:=by
  intro X hP hw hK hc i pins s σ H E I hf st hg
  subst hP hw hK
  obtain⟨f0,f1,f2,f3,f4,f5⟩:=hf it (by simp)
  have W:=Walks.range (prog:=X.prog) (w:=X.w) (I.ok.hd hc) it lo 1 n
  refine W.item i s _ _ hg st λv h' tk hv st' kk=>?_
  obtain⟨t,rfl⟩:=hv
  have I1:Inv X pins σ H { s with heap:=h',toks:=tk }:=I.turned (λb o hb e=>kk b o (by simpa using hb) e) f0 f1 f3 f4 f5
  refine⟨_,rfl,rE (s:={ s with heap:=h',toks:=tk }) (n:="range_iterator") st' rfl rfl (by decide) ⟨.int (lo+i),H,I1,⟨t,?_⟩,⟨rfl,rfl⟩,st',λb hb=>(hf b hb).1⟩⟩
  rw[Int.mul_one]
 done:=by
  intro X hP hw hK hc i pins s σ H E I hf st hg
  subst hP hw hK
  obtain⟨f0,f1,f2,f3,f4,f5⟩:=hf it (by simp)
  exact wpAny_pyNext_range_end (I.ok.hd hc) st (by have:n<=i:=hg;omega) λh' eb=>⟨rfl,I.turned (t':=s.toks) (λb o hb e=>eb b o hb e) f0 f1 f3 f4 f5⟩
 self:=λ_ _ _ _ _ st h=>wpAny_pyIter_rangeiter st h
end
section
section
variable {X:Cx}{tg:Expr}
theorem ue {pins:List (Addr×Obj)}{σ:St}{H:Hp}{s:Shared}{R:It->Hp->Prop}{E:Value->Shared->Prop}{lo hi:Int}{t u v:Tok}{tk:Nat}(I:Inv X pins σ H s)(h1:-(2 ^ 62)<=lo)(h2:lo<2 ^ 62)(h3:-(2 ^ 62)<=hi)(h4:hi<2 ^ 62)
  (q:R (Itr lo (hi-lo).toNat) H):wpAny (model X.prog X.w) X.A (pyIter (.ref s.heap.objs.size)) (PIE X pins σ tg R) E { s with heap:=s.heap.push { cls:=.type "range",data:=.fields #[.int lo t,.int hi u,.int 1 v] },toks:=tk }:=by
 refine wpAny_pyIter_range (IsRange.new ..) (small_one h1 h2 h3 h4) ?_
 have I1:Inv X pins σ H { s with heap:=s.heap.push { cls:=.type "range",data:=.fields #[.int lo t,.int hi u,.int 1 v] },toks:=tk }:=I.kept λb o e=>Heap.get?_push_of_some _ e
 refine⟨(s.heap.push { cls:=.type "range",data:=.fields #[.int lo t,.int hi u,.int 1 v] }).objs.size,[(s.heap.push { cls:=.type "range",data:=.fields #[.int lo t,.int hi u,.int 1 v] }).objs.size],_,_,H,rfl,
  I1.kept (t':=tk) λb o e=>Heap.get?_push_of_some _ e,mq _ lo (hi-lo).toNat,?_,λb hb=>?_,q⟩
 .have e1:lo+((0:Nat):Int)*1=lo:=by simp
  have e2:(((hi-lo).toNat:Nat):Int)-((0:Nat):Int)=Builtin.Range.rangeSize lo hi 1:=by rw[rangeSize_one];split <;> omega
  show IsRangeIter _ _ (lo+((0:Nat):Int)*1) ((((hi-lo).toNat:Nat):Int)-((0:Nat):Int)) 1
  rw[e1,e2]
  exact Heap.get?_push_size _ rfl
 .have e:b=(s.heap.push { cls:=.type "range",data:=.fields #[.int lo t,.int hi u,.int 1 v] }).objs.size:=by simpa using hb
  subst e
  exact I1.fpOk (Nat.le_refl _) (I1.hok.fresh (Nat.le_refl _))
def tF (ta:TA):TI:=λσ H R=>ta σ H λvs H1=>∃j:Int,vs=[.int j] /\ -(2 ^ 62)<=j/\j<2 ^ 62/\R (Itr 0 j.toNat) H1
theorem hX {a:Expr}{ta:TA}{p pos:Pos}(hg:Gl X "range")(hm:X.mg "range" = none)(ha:PA X [a] ta)(hs:starEach [a] X.env=[(false,eval a X.env)]:=by rfl):PI X tg (.Call (.Name "range" p) [a] [] pos) (tF ta):=by
 intro pins s σ H R I h
 refine Call_ (bh I hg hm boot_range (PyProof.Rows.callWith_type1 (thn (ha pos pins s σ H _ I h) λus s1 ⟨vs,H1,I1,r1,q1⟩=>?_) hs rfl))
 obtain⟨j,e,q1,q2,q⟩:=q1
 subst e
 cases r1 with
 | cons r rr =>
  cases rr
  obtain⟨t,rfl⟩:=r
  exact call_range_1 (ue I1 (by omega) (by omega) q1 q2 (by simpa using q))
def qh (wi:TI)(g:TG)(tb:TS):TS:=λD σ H=>wi σ H λJ H1=>∃W:Nat->Nat->St->Hp->Prop,(∃m,W 0 m σ H1)/\∀i m σ H,W i m σ H ->
 (J.stop i H/\D.nx σ H)\/(J.go i H/\∃N:St->Hp->Prop,(∀σ' H',N σ' H'->∃m',m'<m/\W (i+1) m' σ' H')/\∀x H',J.yld i H x H'->g x σ H' λσ2 H2=>tb { D with nx:=N,ct:=N,bk:=D.nx } σ2 H2)
def cL (fp:List Addr)(h:Heap):List (Addr×Obj):=fp.filterMap λb=>(h.get? b).map λo=>(b,o)
theorem M0 {fp:List Addr}{h:Heap}{b:Addr}{o:Obj}(hb:b∈fp)(e:h.get? b=some o):(b,o)∈cL fp h:=List.mem_filterMap.mpr ⟨b,hb,by rw[e];rfl⟩
theorem qt {fp:List Addr}{h:Heap}{p:Addr×Obj}(hp:p∈cL fp h):p.1∈fp/\h.get? p.1=some p.2:=by
 obtain⟨b,hb,e⟩:=List.mem_filterMap.mp hp
 cases q:h.get? b with
 | none=>rw[q]at e;cases e
 | some o =>
  rw[q]at e
  have e':(b,o)=p:=Option.some.inj e
  subst e'
  exact⟨hb,q⟩
theorem Inv.pinned {pins:List (Addr×Obj)}{σ:St}{H:Hp}{s:Shared}{fp:List Addr}(I:Inv X pins σ H s)(hf:∀b∈fp,dS X pins H b)(ho:∀b∈fp,∃o,s.heap.get? b=some o/\∀v,o.data ≠ .cell v):Inv X (pins++cL fp s.heap) σ H s :=
 I.pins_of λp hp=>(List.mem_append.mp hp).elim (λz=>I.pin p (List.mem_append_right _ z)) λz=>by
  obtain⟨hb,e⟩:=qt z
  obtain⟨f0,f1,f2,_⟩:=hf p.1 hb
  obtain⟨o,e',d⟩:=ho p.1 hb
  rw[e]at e';cases e'
  exact⟨e,f0,f1,f2,d⟩
theorem Inv.unpinned {pins pl:List (Addr×Obj)}{σ:St}{H:Hp}{s:Shared}(I:Inv X (pins++pl) σ H s):Inv X pins σ H s:=I.pins_of λp hp=>I.pin p (List.mem_append_right _ (List.mem_append_left _ hp))
theorem mC {iter:Expr}{body:List Stmt}{wi:TI}{g:TG}{tb:TS}{pos:Pos}(hp:PassesOwn (model X.prog X.w) X.A X.env X.xe)(hc:X.calm=true)(hi:PI X tg iter wi)(hg:PG X tg g)(hb:PSs X body tb)
  (hs:∀x,foldedSetIterable iter X.env x=pure x:=by intro _;rfl):PS X (.For tg iter body [] pos) (qh wi g tb):=by
 intro pins s σ H D I h
 refine wpAny_For (thn (hi pins s σ H _ I h) λv s1 h1=>thn h1 λitv s2 h2=>?_) hs
 obtain⟨it,fp,tn,J,H2,e,I2,T,st2,f2,W,⟨m0,w0⟩,turn⟩:=h2
 subst e
 -- what stays true of the iterator's objects through the loop
 have stat:∀{H':Hp},(∀b∈fp,H' b=none)->∀b∈fp,dS X pins H' b:=λhn b hb=>⟨hn b hb,(f2 b hb).2⟩
 refine codeAny_forLoop_any (λn s'=>∃i σ' H',Inv X pins σ' H' s'/\tn i s'.heap/\(∀b∈fp,H' b=none)/\W i n σ' H') ?_ m0 ⟨0,σ,H2,I2,st2,λb hb=>(f2 b hb).1,w0⟩
 rintro n s3 ⟨i,σ3,H3,I3,st3,fr3,w3⟩
 rcases turn i n σ3 H3 w3 with ⟨stop,qn⟩ | ⟨go,N,hN,step⟩
 .refine wpAny_passesOwn hp (thn (T.done X rfl rfl rfl hc i pins s3 σ3 H3 X.xe I3 (stat fr3) st3 stop) λr s4 ⟨hr,I4⟩=>?_)
  subst hr
  exact wpAny_execs_nil ⟨σ3,H3,I4,qn⟩
 .refine wpAny_passesOwn hp (thn (T.item X rfl rfl rfl hc i pins s3 σ3 H3 X.xe I3 (stat fr3) st3 go) λr s4 ⟨u,hr,h4⟩=>?_)
  subst hr
  refine wpAny_passesOwn hp (thn h4 λ_ s5 ⟨x,H5,I5,r5,y5,st5,fr5⟩=>?_)
  have I5':=I5.pinned (stat fr5) (T.obj _ _ st5)
  refine wpAny_passesOwn hp (thn (hg _ s5 σ3 H5 x u _ I5' r5 (step x H5 y5)) λ_ s6 ⟨σ6,H6,I6,q6⟩=>?_)
  refine wpAny_passesOwn hp (thn (hb _ s6 σ6 H6 _ I6 q6) λf s7 q7=>?_)
  have again:∀{σ7:St} {H7:Hp},Inv X (pins++cL fp s5.heap) σ7 H7 s7->N σ7 H7->∃m,m<n/\∃i σ' H',Inv X pins σ' H' s7/\tn i s7.heap/\(∀b∈fp,H' b=none)/\W i m σ' H':=λ{σ7 H7} I7 n7=>by
   obtain⟨m',hm,w7⟩:=hN σ7 H7 n7
   refine⟨m',hm,i+1,σ7,H7,I7.unpinned,T.keep _ _ _ st5 λb hb o e=>(I7.pin (b,o) (List.mem_append_right _ (List.mem_append_right _ (M0 hb e)))).1,λb hb=>?_,w7⟩
   obtain⟨o,e,d⟩:=T.obj _ _ st5 b hb
   exact(I7.pin (b,o) (List.mem_append_right _ (List.mem_append_right _ (M0 hb e)))).2.1
  cases f with
  | next=>obtain⟨σ7,H7,I7,n7⟩:=q7;exact again I7 n7
  | cont=>obtain⟨σ7,H7,I7,n7⟩:=q7;exact again I7 n7
  | brk=>obtain⟨σ7,H7,I7,q7⟩:=q7;exact⟨σ7,H7,I7.unpinned,q7⟩
  | ret v=>obtain⟨x7,σ7,H7,I7,r7,q7⟩:=q7;exact⟨x7,σ7,H7,I7.unpinned,r7,q7⟩
end
end
section
abbrev R2:=V->V->Hp->VK->Prop
def OpR (X:Cx)(f:Value->Value->Sem Value)(r:R2):Prop :=
 ∀(pins:List (Addr×Obj)) (s:Shared) (σ:St) (H:Hp) (x y:V) (v u:Value) (Q:VK),Inv X pins σ H s->l0 x v->l0 y u->r x y H Q ->
  wpAny (model X.prog X.w) X.A (f v u) (EP X pins σ Q) X.xe s
def UnR (X:Cx)(f:Value->Sem Value)(r:V->Hp->VK->Prop):Prop :=
 ∀(pins:List (Addr×Obj)) (s:Shared) (σ:St) (H:Hp) (x:V) (v:Value) (Q:VK),Inv X pins σ H s->l0 x v->r x H Q ->
  wpAny (model X.prog X.w) X.A (f v) (EP X pins σ Q) X.xe s
def D1 (X:Cx)(f:Value)(r:List V->Hp->VK->Prop):Prop :=
 ∀(pins:List (Addr×Obj)) (s:Shared) (σ:St) (H:Hp) (xs:List V) (us:List Value) (Q:VK),Inv X pins σ H s->i6 xs us->r xs H Q ->
  wpAny (model X.prog X.w) X.A (call f us) (EP X pins σ Q) X.xe s
def Bi (X:Cx)(r:V->Hp->(Bool->Hp->Prop)->Prop):Prop :=
 ∀(pins:List (Addr×Obj)) (s:Shared) (σ:St) (H:Hp) (x:V) (v:Value) (Q:Bool->Hp->Prop),Inv X pins σ H s->l0 x v->r x H Q ->
  wpAny (model X.prog X.w) X.A (truthy v) (TP X pins σ Q) X.xe s
def tOp (r:R2)(ta tb:TE):TE:=λσ H Q=>ta σ H λx H1=>tb σ H1 λy H2=>r x y H2 Q
def tUn (r:V->Hp->VK->Prop)(ta:TE):TE:=λσ H Q=>ta σ H λx H1=>r x H1 Q
def rI (C:Int->Int->Prop)(g:Int->Int->V):R2:=λx y H Q=>∃i j,x = .int i/\y = .int j/\C i j/\Q (g i j) H
def rI0 (g:Int->Int->V):R2:=λx y H Q=>∃i j,x = .int i/\y = .int j/\Q (g i j) H
def rU (g:Int->V):V->Hp->VK->Prop:=λx H Q=>∃i,x = .int i/\Q (g i) H
section
variable {X:Cx}{a b c:Expr}{ta tb tc:TE}{pos:Pos}
theorem yh (ha:PE X a ta)(hb:PE X b tb){pins:List (Addr×Obj)}{s:Shared}{σ:St}{H:Hp}{R:V->V->Hp->Prop}(I:Inv X pins σ H s)
  (h:ta σ H λx H1=>tb σ H1 λy H2=>R x y H2) {Q:Value->Shared->Prop} {f:Value->Value->Sem Value}
  (hf:∀v u s2 x y H2,Inv X pins σ H2 s2->l0 x v->l0 y u->R x y H2->wpAny (model X.prog X.w) X.A (f v u) Q X.xe s2) :
  wpAny (model X.prog X.w) X.A (eval a X.env) (λv s₁=>wpAny (model X.prog X.w) X.A (eval b X.env) (λu s₂=>wpAny (model X.prog X.w) X.A (f v u) Q X.xe s₂) X.xe s₁) X.xe s:=by
 refine thn (ha pins s σ H _ I h) λv s1 ⟨x,H1,I1,r1,q1⟩=>?_
 refine thn (hb pins s1 σ H1 _ I1 q1) λu s2 ⟨y,H2,I2,r2,q2⟩=>?_
 exact hf v u s2 x y H2 I2 r1 r2 q2
theorem v6 {op:Operator}{r:R2}(ho:OpR X (binaryOp op) r)(ha:PE X a ta)(hb:PE X b tb):PE X (.BinOp a op b pos) (tOp r ta tb):=by
 intro pins s σ H Q I h
 exact wpAny_BinOp (yh ha hb I h λv u s2 x y H2 I2 rx ry q=>ho pins s2 σ H2 x y v u Q I2 rx ry q)
theorem tZ {op:UnaryOp}{r:V->Hp->VK->Prop}(ho:UnR X (unaryOp op) r)(ha:PE X a ta):PE X (.UnaryOp op a pos) (tUn r ta):=by
 intro pins s σ H Q I h
 exact UnaryOp_ (thn (ha pins s σ H _ I h) λv s1 ⟨x,H1,I1,r1,q1⟩=>ho pins s1 σ H1 x v Q I1 r1 q1)
theorem opI {f:Value->Value->Sem Value}{C:Int->Int->Prop}{g:Int->Int->Int}
  (rule:∀(i j:Int) (t u:Tok) (s:Shared) (Q:Value->Shared->Prop) (E:Value->Shared->Prop),C i j->Q (.int (g i j) s.toks) { s with toks:=s.toks+1 }->wpAny (model X.prog X.w) X.A (f (.int i t) (.int j u)) Q E s) :
  OpR X f (rI C λi j=>.int (g i j)):=by
 intro pins s σ H x y v u Q I rx ry h
 obtain⟨i,j,rfl,rfl,hc,q⟩:=h
 obtain⟨t,rfl⟩:=rx
 obtain⟨t',rfl⟩:=ry
 exact rule i j t t' s _ _ hc ⟨.int (g i j),H,I.tok _,⟨_,rfl⟩,q⟩
theorem As {f:Value->Value->Sem Value}{g:Int->Int->Int}
  (rule:∀(i j:Int) (t u:Tok) (s:Shared) (Q:Value->Shared->Prop) (E:Value->Shared->Prop),Q (.int (g i j) s.toks) { s with toks:=s.toks+1 }->wpAny (model X.prog X.w) X.A (f (.int i t) (.int j u)) Q E s) :
  OpR X f (rI0 λi j=>.int (g i j)):=by
 intro pins s σ H x y v u Q I rx ry h
 obtain⟨i,j,rfl,rfl,q⟩:=h
 obtain⟨t,rfl⟩:=rx
 obtain⟨t',rfl⟩:=ry
 exact rule i j t t' s _ _ ⟨.int (g i j),H,I.tok _,⟨_,rfl⟩,q⟩
theorem zp {f:Value->Value->Sem Value}{g:Int->Int->Bool}
  (rule:∀(i j:Int) (t u:Tok) (s:Shared) (Q:Value->Shared->Prop) (E:Value->Shared->Prop),Q (.bool (g i j)) s->wpAny (model X.prog X.w) X.A (f (.int i t) (.int j u)) Q E s) :
  OpR X f (rI0 λi j=>.bl (g i j)):=by
 intro pins s σ H x y v u Q I rx ry h
 obtain⟨i,j,rfl,rfl,q⟩:=h
 obtain⟨t,rfl⟩:=rx
 obtain⟨t',rfl⟩:=ry
 exact rule i j t t' s _ _ ⟨.bl (g i j),H,I,rfl,q⟩
def Bn (i j:Int):Prop:=0<j/\j<1073741824
def vP (i j:Int):Prop:=0<=j/\j<=1000000/\i.natAbs<2 ^ 64
def se (i j:Int):Prop:=(-(2 ^ 64)<i/\i<2 ^ 64)\/(-(2 ^ 64)<j/\j<2 ^ 64)
theorem se.ok {i j:Int}(h:se i j):IntMulOk i j:=by
 rcases h with ⟨h1,h2⟩ | ⟨h1,h2⟩
 .exact .of_left (intBits_le_64 h1 h2)
 .exact .of_right (intBits_le_64 h1 h2)
theorem V6:OpR X (binaryOp .Add) (rI0 λi j=>.int (i+j)):=As λ_ _ _ _ _ _ _ q=>add_int q
theorem su:OpR X (binaryOp .Sub) (rI0 λi j=>.int (i-j)):=As λ_ _ _ _ _ _ _ q=>sub_int q
theorem bo:OpR X (binaryOp .Mult) (rI se λi j=>.int (i*j)):=opI λ_ _ _ _ _ _ _ hc q=>mul_int q hc.ok
theorem iG:OpR X (binaryOp .FloorDiv) (rI Bn λi j=>.int (i / j)):=opI λi j _ _ _ _ _ hc q=>by
 have h1:(0:Int)<j:=hc.1
 have h2:j<1073741824:=hc.2
 exact floordiv_int (by omega) (by rw[Int.fdiv_eq_ediv_of_nonneg i (by omega)];exact q) (.inl (PyProof.noPylong_small (by omega)))
theorem Z6:OpR X (binaryOp .Mod) (rI (λ_ j=>0<j) λi j=>.int (i % j)):=opI λi j _ _ _ _ _ hc q=>by
 have h1:(0:Int)<j:=hc
 exact mod_int' (by omega) (by rw[Int.fmod_eq_emod_of_nonneg i (by omega)];exact q)
theorem rD:OpR X (binaryOp .Pow) (rI vP λi j=>.int (i ^ j.toNat)):=opI λ_ _ _ _ _ _ _ hc q=>pow_int_small hc.1 hc.2.1 hc.2.2 q
theorem unI {f:Value->Sem Value}{g:Int->Int}
  (rule:∀(i:Int) (t:Tok) (s:Shared) (Q:Value->Shared->Prop) (E:Value->Shared->Prop),Q (.int (g i) s.toks) { s with toks:=s.toks+1 }->wpAny (model X.prog X.w) X.A (f (.int i t)) Q E s) :
  UnR X f (rU λi=>.int (g i)):=by
 intro pins s σ H x v Q I rx h
 obtain⟨i,rfl,q⟩:=h
 obtain⟨t,rfl⟩:=rx
 exact rule i t s _ _ ⟨.int (g i),H,I.tok _,⟨_,rfl⟩,q⟩
theorem mG:UnR X (unaryOp .USub) (rU λi=>.int (-i)):=unI λ_ _ _ _ _ q=>neg_int q
end
def Aq:V->V->Bool
 | .non,.non=>true | .non,.int _=>true | .int _,.non=>true | .non,.bl _=>true | .bl _,.non=>true | .non,.str _=>true | .str _,.non=>true
 | .int _,.int _=>true | .bl _,.bl _=>true | .str _,.str _=>true | .byt _,.byt _=>true
 | .int _,.str _=>true | .str _,.int _=>true | .bl _,.str _=>true | .str _,.bl _=>true
 | _,_=>false
def rEq:R2:=λx y H Q=>Aq x y=true/\Q (.bl (decide (x=y))) H
def rNe:R2:=λx y H Q=>Aq x y=true/\Q (.bl (!decide (x=y))) H
theorem nr {i j:Int}:decide (V.int i=V.int j)=(i == j):=by
 rw[Bool.eq_iff_iff]
 simp
theorem rJ {i j:Bool}:decide (V.bl i=V.bl j)=(i == j):=by
 rw[Bool.eq_iff_iff]
 simp
theorem nU {i j:Str}:decide (V.str i=V.str j)=(i == j):=by
 rw[Bool.eq_iff_iff]
 simp
theorem nK {i j:Array UInt8}:decide (V.byt i=V.byt j)=(i.toList == j.toList):=by
 rw[Bool.eq_iff_iff]
 cases i
 cases j
 simp
section
variable {X:Cx}{a b c:Expr}{ta tb tc:TE}{pos:Pos}
theorem l5 {pins:List (Addr×Obj)}{σ:St}{H:Hp}{s:Shared}{Q:VK}{k k':Bool}(I:Inv X pins σ H s)(q:Q (.bl k) H)(e:k=k'):EP X pins σ Q (.bool k') s:=by
 subst e
 exact⟨.bl k,H,I,rfl,q⟩
theorem tQ:OpR X (compareOp .Eq) rEq:=by
 intro pins s σ H x y v u Q I rx ry h
 obtain⟨hs,q⟩:=h
 cases x with
 | non =>
  cases rx
  cases y with
  | non=>cases ry;exact PySem.EqNone.eq_none_none (l5 I q (by simp))
  | bl j=>cases ry;exact PySem.EqNone.eq_none_bool (l5 I q (by simp))
  | int j=>obtain⟨t',rfl⟩:=ry;exact PySem.EqNone.eq_none_int (l5 I q (by simp))
  | str j=>obtain⟨t',rfl⟩:=ry;exact PySem.EqNone.eq_none_str (l5 I q (by simp))
  | _=>exact absurd (show false=true from hs) Bool.false_ne_true
 | bl i =>
  cases rx
  cases y with
  | non=>cases ry;exact PySem.EqNone.eq_bool_none (l5 I q (by simp))
  | bl j=>cases ry;exact eq_bool (l5 I q rJ)
  | str j=>obtain⟨t',rfl⟩:=ry;exact PySem.EqMixed.eq_bool_str (l5 I q (by simp))
  | _=>exact absurd (show false=true from hs) Bool.false_ne_true
 | int i =>
  obtain⟨t,rfl⟩:=rx
  cases y with
  | non=>cases ry;exact PySem.EqNone.eq_int_none (l5 I q (by simp))
  | int j=>obtain⟨t',rfl⟩:=ry;exact eq_int (l5 I q nr)
  | str j=>obtain⟨t',rfl⟩:=ry;exact PySem.EqMixed.eq_int_str (l5 I q (by simp))
  | _=>exact absurd (show false=true from hs) Bool.false_ne_true
 | str i =>
  obtain⟨t,rfl⟩:=rx
  cases y with
  | non=>cases ry;exact PySem.EqNone.eq_str_none (l5 I q (by simp))
  | bl j=>cases ry;exact PySem.EqMixed.eq_str_bool (l5 I q (by simp))
  | int j=>obtain⟨t',rfl⟩:=ry;exact PySem.EqMixed.eq_str_int (l5 I q (by simp))
  | str j=>obtain⟨t',rfl⟩:=ry;exact eq_str (l5 I q nU)
  | _=>exact absurd (show false=true from hs) Bool.false_ne_true
 | byt i =>
  obtain⟨t,rfl⟩:=rx
  cases y with
  | byt j=>obtain⟨t',rfl⟩:=ry;exact PySem.W.eq_bytes (l5 I q nK)
  | _=>exact absurd (show false=true from hs) Bool.false_ne_true
 | _=>cases y <;> exact absurd (show false=true from hs) Bool.false_ne_true
theorem Aj:OpR X (compareOp .NotEq) rNe:=by
 intro pins s σ H x y v u Q I rx ry h
 obtain⟨hs,q⟩:=h
 cases x with
 | non =>
  cases rx
  cases y with
  | non=>cases ry;exact PySem.EqNone.ne_none_none (l5 I q (by simp))
  | bl j=>cases ry;exact PySem.EqNone.ne_none_bool (l5 I q (by simp))
  | int j=>obtain⟨t',rfl⟩:=ry;exact PySem.EqNone.ne_none_int (l5 I q (by simp))
  | str j=>obtain⟨t',rfl⟩:=ry;exact PySem.EqNone.ne_none_str (l5 I q (by simp))
  | _=>exact absurd (show false=true from hs) Bool.false_ne_true
 | bl i =>
  cases rx
  cases y with
  | non=>cases ry;exact PySem.EqNone.ne_bool_none (l5 I q (by simp))
  | bl j=>cases ry;exact ne_bool (l5 I q (congrArg not rJ))
  | str j=>obtain⟨t',rfl⟩:=ry;exact PySem.EqMixed.ne_bool_str (l5 I q (by simp))
  | _=>exact absurd (show false=true from hs) Bool.false_ne_true
 | int i =>
  obtain⟨t,rfl⟩:=rx
  cases y with
  | non=>cases ry;exact PySem.EqNone.ne_int_none (l5 I q (by simp))
  | int j=>obtain⟨t',rfl⟩:=ry;exact ne_int (l5 I q (congrArg not nr))
  | str j=>obtain⟨t',rfl⟩:=ry;exact PySem.EqMixed.ne_int_str (l5 I q (by simp))
  | _=>exact absurd (show false=true from hs) Bool.false_ne_true
 | str i =>
  obtain⟨t,rfl⟩:=rx
  cases y with
  | non=>cases ry;exact PySem.EqNone.ne_str_none (l5 I q (by simp))
  | bl j=>cases ry;exact PySem.EqMixed.ne_str_bool (l5 I q (by simp))
  | int j=>obtain⟨t',rfl⟩:=ry;exact PySem.EqMixed.ne_str_int (l5 I q (by simp))
  | str j=>obtain⟨t',rfl⟩:=ry;exact ne_str (l5 I q (congrArg not nU))
  | _=>exact absurd (show false=true from hs) Bool.false_ne_true
 | byt i =>
  obtain⟨t,rfl⟩:=rx
  cases y with
  | byt j=>obtain⟨t',rfl⟩:=ry;exact PySem.W.ne_bytes (l5 I q (congrArg not nK))
  | _=>exact absurd (show false=true from hs) Bool.false_ne_true
 | _=>cases y <;> exact absurd (show false=true from hs) Bool.false_ne_true
theorem wW:OpR X (compareOp .Lt) (rI0 λi j=>.bl (decide (i<j))):=zp λ_ _ _ _ _ _ _ q=>lt_int q
theorem xb:OpR X (compareOp .Gt) (rI0 λi j=>.bl (decide (j<i))):=zp λ_ _ _ _ _ _ _ q=>gt_int q
theorem xo:OpR X (compareOp .GtE) (rI0 λi j=>.bl (decide (j<=i))):=zp λ_ _ _ _ _ _ _ q=>ge_int q
theorem yN:OpR X (compareOp .Is) (λx y H Q=>y = .non/\Q (.bl (decide (x = .non))) H):=by
 intro pins s σ H x y v u Q I rx ry h
 obtain⟨rfl,q⟩:=h
 cases ry
 refine is_none_gen (l5 I q ?_)
 cases x <;> first
  | (cases rx;rfl)
  | (obtain⟨t,rfl⟩:=rx;rfl)
theorem vb:OpR X (compareOp .IsNot) (λx y H Q=>y = .non/\Q (.bl (!decide (x = .non))) H):=by
 intro pins s σ H x y v u Q I rx ry h
 obtain⟨rfl,q⟩:=h
 cases ry
 refine isnot_none_gen (l5 I q ?_)
 cases x <;> first
  | (cases rx;rfl)
  | (obtain⟨t,rfl⟩:=rx;rfl)
theorem Q9 (b:Expr){op:CmpOp}(h:op ≠ .In:=by decide)(h2:op ≠ .NotIn:=by decide):behindInMarks op b=false:=by
 have e1:(op == CmpOp.In)=false:=by cases op <;> first | rfl | exact absurd rfl h
 have e2:(op == CmpOp.NotIn)=false:=by cases op <;> first | rfl | exact absurd rfl h2
 cases b <;> simp[behindInMarks,e1,e2]
theorem dX {op:CmpOp}{r:R2}(ho:OpR X (compareOp op) r)(ha:PE X a ta)(hb:PE X b tb)(hm:behindInMarks op b=false):PE X (.Compare a [op] [b] pos) (tOp r ta tb):=by
 intro pins s σ H Q I h
 exact wpAny_Compare1 (yh ha hb I h λv u s2 x y H2 I2 rx ry q=>ho pins s2 σ H2 x y v u Q I2 rx ry q) hm
def bQ (t:TE):TT:=λσ H Q=>t σ H λx H'=>∃k,x = .bl k/\Q k H'
theorem N1 {op:CmpOp}{r:R2}(ho:OpR X (compareOp op) r)(ha:PE X a ta)(hb:PE X b tb)(hm:behindInMarks op b=false):PT X (.Compare a [op] [b] pos) (bQ (tOp r ta tb)):=by
 intro pins s σ H Q I h
 refine wpAny_isTrue_Compare1 (thn (ha pins s σ H _ I h) λv s1 ⟨x,H1,I1,r1,q1⟩=>thn (hb pins s1 σ H1 _ I1 q1) λu s2 ⟨y,H2,I2,r2,q2⟩ =>
  thn (ho pins s2 σ H2 x y v u _ I2 r1 r2 q2) λc s3 ⟨z,H3,I3,r3,k,e,q3⟩=>?_) hm
 subst e
 cases r3
 exact wpAny_truthy_bool ⟨H3,I3,q3⟩
def rh (K:Fg)(x:V)(H:Hp)(k:Bool):Prop :=
 match x with
 | .non=>k=false
 | .bl b=>k=b
 | .int i=>k=(i != 0)
 | .str y=>y.length<=sizeLine/\k=((y.length:Int) != 0)
 | .byt y=>y.size<=sizeLine/\k=((y.size:Int) != 0)
 | .ref p=>(∃xs,SqL K H p xs/\k = !xs.isEmpty)\/(∃xs,SqT K H p xs/\k = !xs.isEmpty)\/∃kvs,H p=some (.dK kvs)/\k = !kvs.isEmpty
 | _=>False
theorem mZ {κ:Type}{kvs:List (κ×V)}{vs:List (κ×Value)}(r:KV kvs vs):(!vs.isEmpty) = !kvs.isEmpty:=by
 cases r <;> rfl
theorem eM {xs:List V}{its:List Value}(r:i6 xs its):(!its.toArray.isEmpty) = !xs.isEmpty:=by
 cases r <;> simp
theorem aZ:(sizeLine:Nat)<2 ^ 63:=by rw[sizeLine_eq];decide
theorem yR:Bi X (λx H Q=>∃k,rh X.K x H k/\Q k H):=by
 intro pins s σ H x v Q I rx h
 obtain⟨k,e,q⟩:=h
 have hl:=aZ
 have hs:sizeLine=16777216:=sizeLine_eq
 cases x with
 | non =>
  cases rx
  have e':k=false:=e
  subst e'
  exact truthy_none ⟨H,I,q⟩
 | bl b =>
  cases rx
  have e':k=b:=e
  subst e'
  exact wpAny_truthy_bool ⟨H,I,q⟩
 | int i =>
  obtain⟨t,rfl⟩:=rx
  have e':k=(i != 0):=e
  subst e'
  exact PySem.P.truthy_int ⟨H,I,q⟩
 | str y =>
  obtain⟨t,rfl⟩:=rx
  obtain⟨hy,e'⟩:y.length<=sizeLine/\k=((y.length:Int) != 0):=e
  subst e'
  exact PySem.P.truthy_str (by omega) ⟨H,I.tok _,q⟩
 | byt y =>
  obtain⟨t,rfl⟩:=rx
  obtain⟨hy,e'⟩:y.size<=sizeLine/\k=((y.size:Int) != 0):=e
  subst e'
  exact PySem.W.truthy_bytes (by omega) ⟨H,I.tok _,q⟩
 | ref p =>
  cases rx
  have e':(∃xs,SqL X.K H p xs/\k = !xs.isEmpty)\/(∃xs,SqT X.K H p xs/\k = !xs.isEmpty)\/∃kvs,H p=some (.dK kvs)/\k = !kvs.isEmpty:=e
  rcases e' with ⟨xs,hx,e'⟩ | ⟨xs,hx,e'⟩ | ⟨kvs,hx,e'⟩
  .subst e'
   obtain⟨its,r,pl,hz⟩:=I.list hx
   have hlen:=r.length
   exact wpAny_truthy_list pl.isList (by simp only[List.size_toArray];omega) ⟨H,I.tok _,by rw[eM r];exact q⟩
  .subst e'
   obtain⟨its,r,pl,hz⟩:=I.tuple hx
   have hlen:=r.length
   exact truthy_tuple pl (by simp only[List.size_toArray];omega) ⟨H,I.tok _,by rw[eM r];exact q⟩
  .subst e'
   obtain⟨hz,hS,vs,r,m⟩:kvs.length<=sizeLine/\(p == sysModules)=false/\∃vs,KV kvs vs/\s.heap.DictOf (B7 X.prog X.w) p vs:=I.hok p _ hx
   have hlen:kvs.length=vs.length:=Paired.length r
   exact wpAny_truthy_dict hS m (by omega) ⟨H,I.tok _,by rw[mZ r];exact q⟩
 | _=>exact(show False from e).elim
theorem um (ha:PE X a ta)(he:∀whole,isTrue a X.env whole=(do let v <-whole;standAt a.pos;holding [v] (truthy v))) :
  PT X a (λσ H Q=>ta σ H λx H'=>∃k,rh X.K x H' k/\Q k H'):=by
 intro pins s σ H Q I h
 exact isTrue_plain (thn (ha pins s σ H _ I h) λv s1 ⟨x,H1,I1,r1,q1⟩=>yR pins s1 σ H1 x v Q I1 r1 q1) (he _)
theorem mH:OpR X (binaryOp .Add) (λx y H Q=>∃i j,x = .str i/\y = .str j/\i.length+j.length<=sizeLine/\Q (.str (i++j)) H):=by
 intro pins s σ H x y v u Q I rx ry h
 obtain⟨i,j,rfl,rfl,hz,q⟩:=h
 obtain⟨t,rfl⟩:=rx
 obtain⟨t',rfl⟩:=ry
 exact add_str (λt' tk=>⟨.str (i++j),H,I.tok _,⟨_,rfl⟩,q⟩) hz
theorem O7 {x:V}{us:List Value}(r:i6 [x] us):∃u,us=[u]/\l0 x u:=by
 cases r with
 | cons r1 r2=>cases r2;exact⟨_,rfl,r1⟩
theorem xq {x y:V}{us:List Value}(r:i6 [x,y] us):∃u w',us=[u,w']/\l0 x u/\l0 y w':=by
 cases r with
 | cons r1 r2 =>
  cases r2 with
  | cons r3 r4=>cases r4;exact⟨_,_,rfl,r1,r3⟩
theorem qz (hc:X.calm=true):D1 X (.builtin "min") (λxs H Q=>∃i j,xs=[.int i,.int j]/\Q (.int (if j<i then j else i)) H):=by
 intro pins s σ H xs us Q I r h
 obtain⟨i,j,rfl,q⟩:=h
 obtain⟨u,w',rfl,⟨t,rfl⟩,⟨t',rfl⟩⟩:=xq r
 refine min_two_ints (I.ok.hd hc) λh' tk k=>⟨_,H,I.kept k,?_,q⟩
 by_cases hj:j<i
 .rw[if_pos hj,if_pos hj];exact⟨_,rfl⟩
 .rw[if_neg hj,if_neg hj];exact⟨_,rfl⟩
theorem gN:D1 X (.type "int") (λxs H Q=>(∃i,xs=[.int i]/\Q (.int i) H)\/∃k,xs=[.bl k]/\Q (.int (if k then 1 else 0)) H):=by
 intro pins s σ H xs us Q I r h
 rcases h with ⟨i,rfl,q⟩ | ⟨k,rfl,q⟩
 .obtain⟨u,rfl,t,rfl⟩:=O7 r
  exact call_int_int ⟨.int i,H,I,⟨_,rfl⟩,q⟩
 .obtain⟨u,rfl,r1⟩:=O7 r
  cases r1
  exact call_int_bool ⟨.int (if k then 1 else 0),H,I.tok _,⟨_,rfl⟩,q⟩
end
end
section
structure ObjM (h:Heap) (x dx C:Addr) (mA:Str->Option Value):Prop where
 obj:h.get? x=some (PySem.W.instObj C dx)
 ns:h.Ns1 dx mA
 ne:dx≠x
theorem pE {h:Heap}{dx:Addr}{mA:Str->Option Value}(n:h.Ns1 dx mA):∃od,h.get? dx=some od/\∀name,PySem.W.lookIn name od=some (mA name):=by
 obtain⟨o,es,ep,ho,hd,hk,_,hm⟩:=n
 refine⟨o,ho,λname=>?_⟩
 have e:=hm name
 unfold nsFind findBy at e
 rw[<-Array.find?_toList]at e
 unfold PySem.W.lookIn
 rw[hd]
 dsimp only
 split
 .rename_i y q
  rw[q]at e
  exact congrArg some e
 .rename_i q
  rw[q]at e
  have a:es.toList.any (·.refKey)=false:=by
   rw[List.any_eq_false]
   intro y hy
   obtain⟨z,t,hkey⟩:=hk y (Array.mem_toList_iff.mp hy)
   simp[DictEntry.refKey,hkey]
  have a':¬es.toList.any (·.refKey)=true:=by rw[a];exact Bool.false_ne_true
  rw[if_neg a']
  exact congrArg some e
theorem ObjM.look {h:Heap}{x dx C:Addr}{mA:Str->Option Value}(I:ObjM h x dx C mA):∃od,PySem.W.InstAt h x (PySem.W.instObj C dx) C (some od)/\∀name,PySem.W.lookIn name od=some (mA name) :=
 let ⟨od,ho,hl⟩:=pE I.ns
 ⟨od,⟨I.obj,rfl,rfl,ho⟩,hl⟩
section
variable {prog:Program}{w:World}{A:Around}{E:Value->Shared->Prop}{s:Shared}{K:Fg}{x dx C f:Addr}{mA:Str->Option Value}{name:Str}{v:Value}
end
theorem fC.some_of {v:V}{o:Option Value}(r:fC (some v) o):∃u,o=some u/\l0 v u:=by
 cases o with
 | none=>exact(show False from r).elim
 | some u=>exact⟨u,rfl,r⟩
section
variable {P:Program}{w:World}{H H':Hp}{h h':Heap}{a C dx:Addr}{fs fs':List (Str×V)}
theorem vj (hok:HOk P w H h)(e:H a=some (.ins C dx fs)):∃mA,ObjM h a dx C mA/\(∀f,fC (fs.lookup f) (mA f))/\PySem.Within mA (fs.map (·.1))/\fs.length<=1000/\H dx=some (.own a):=by
 obtain⟨d,z,ne,ob,mA,n,r,q⟩:=(show B4 P w H h a (.ins C dx fs) from hok a _ e)
 exact⟨mA,⟨ob,n,ne⟩,r,q,z,d⟩
end
structure Cls (K:Fg) (C:Addr):Prop where
 pg:PySem.W.plainGet K C Str.empty=true
 hd:PySem.W.hasDictIn K C=true
 po:PySem.W.plainOver K C=true
 sa:PySem.W.findIn K (.ref C) "__setattr__" = some (some (.builtin "object.__setattr__"))
theorem Cls.get {K:Fg}{C:Addr}(c:Cls K C)(f:Str):PySem.W.plainGet K C f=true:=c.pg
section
variable {X:Cx}{pins:List (Addr×Obj)}{σ:St}{H:Hp}{s:Shared}{a C dx:Addr}{fs:List (Str×V)}{f:Str}{v:V}{A:Around}{E:Value->Shared->Prop}
end
section
variable {X:Cx}{o e value:Expr}{f:Str}{pos pos' tpos:Pos}{ta tv:TE}
end
section
variable {X:Cx}{pins:List (Addr×Obj)}{σ:St}{H:Hp}{s:Shared}{A:Around}{E:Value->Shared->Prop}{Q:Value->Shared->Prop}{c:Value}{b:Bool}
inductive TyOf (K:Fg) (H:Hp):V->Value->Prop where
 | non:TyOf K H .non (.type "NoneType")
 | bl (x:Bool):TyOf K H (.bl x) (.type "bool")
 | int (i:Int):TyOf K H (.int i) (.type "int")
 | str (x:Str):TyOf K H (.str x) (.type "str")
 | flt (x:UInt64):TyOf K H (.flt x) (.type "float")
 | lst {a:Addr} {xs:List V} (e:H a=some (.lst xs)):TyOf K H (.ref a) (.type "list")
 | frz {a:Addr} {o:Obj} {xs:List V} (e:H a=some (.frz o (.lst xs))):TyOf K H (.ref a) (.type "list")
 | tup {a:Addr} {xs:List V} (e:H a=some (.tup xs)):TyOf K H (.ref a) (.type "tuple")
 | dK {a:Addr} {kvs:List (Key×V)} (e:H a=some (.dK kvs)):TyOf K H (.ref a) (.type "dict")
 | dT {a:Addr} {kvs:List (List Key×V)} (e:H a=some (.dT kvs)):TyOf K H (.ref a) (.type "dict")
 | ins {a C dx:Addr} {fs:List (Str×V)} (e:H a=some (.ins C dx fs)) (cl:Cls K C) (ha:PySem.W.findIn K (.ref C) "__class__" = some (some (.builtin "object.__class__")))
   (hn:PySem.W.specialIn K (.builtin "object.__class__") "__get__" = some (some (.builtin "getset_descriptor.__get__"))) (htk:PySem.W.takesIn K (.builtin "object.__class__")=some true)
   (hm:PySem.W.mroIn K C (.type "object")=some true):TyOf K H (.ref a) (.ref C)
theorem ag {x:V}{u t:Value}(I:Inv X pins σ H s)(rx:l0 x u)(ty:TyOf X.K H x t)(e:PySem.W.kitOne X.K t c=some b)(h:∀tk,Q (.bool b) { s with toks:=tk }) :
  wpAny (model X.prog X.w) A (call (.builtin "isinstance") [u,c]) Q E s:=by
 cases ty with
 | non=>cases(show u=Value.none from rx);exact PySem.W.kia_one PySem.W.kitx_none I.kIn True.intro e (λz=>nomatch z) h
 | bl y=>cases(show u=Value.bool y from rx);exact PySem.W.kia_one PySem.W.kitx_bool I.kIn True.intro e (λz=>nomatch z) h
 | int i=>obtain⟨t,q⟩:=(show ∃t,u=Value.int i t from rx);cases q;exact PySem.W.kia_one PySem.W.kitx_int I.kIn True.intro e (λz=>nomatch z) h
 | str y=>obtain⟨t,q⟩:=(show ∃t,u=Value.str y t from rx);cases q;exact PySem.W.kia_one PySem.W.kitx_str I.kIn True.intro e (λz=>nomatch z) h
 | flt y=>obtain⟨t,q⟩:=(show ∃t,u=Value.float y t from rx);cases q;exact PySem.W.kia_one PySem.W.kitx_float I.kIn True.intro e (λz=>nomatch z) h
 | @lst a xs ea =>
  cases(show u=Value.ref a from rx)
  obtain⟨_,_,n,_,h1⟩:=(show B4 X.prog X.w H s.heap a (.lst xs) from I.hok a _ ea)
  exact PySem.W.kia_one PySem.W.kitx_list I.kIn ⟨_,h1,rfl⟩ e (λz=>nomatch z) h
 | @frz a ob xs ea =>
  cases(show u=Value.ref a from rx)
  obtain⟨_,_,_,n,_,h1⟩:=(show B4 X.prog X.w H s.heap a (.frz ob (.lst xs)) from I.hok a _ ea)
  exact PySem.W.kia_one PySem.W.kitx_list I.kIn ⟨_,h1,rfl⟩ e (λz=>nomatch z) h
 | @tup a xs ea =>
  cases(show u=Value.ref a from rx)
  obtain⟨_,_,_,p⟩:=(show B4 X.prog X.w H s.heap a (.tup xs) from I.hok a _ ea)
  obtain⟨o,h1,h2,_⟩:=p
  exact PySem.W.kia_one PySem.W.kitx_tuple I.kIn ⟨o,h1,h2⟩ e (λz=>nomatch z) h
 | @dK a kvs ea =>
  cases(show u=Value.ref a from rx)
  obtain⟨_,_,vs,_,p⟩:=(show B4 X.prog X.w H s.heap a (.dK kvs) from I.hok a _ ea)
  obtain⟨o,es,ep,h1,h2,_⟩:=p
  exact PySem.W.kia_one PySem.W.kitx_dict I.kIn ⟨o,h1,h2.1⟩ e (λz=>nomatch z) h
 | @dT a kvs ea =>
  cases(show u=Value.ref a from rx)
  obtain⟨_,_,xs,_,o,es,ep,h1,h2,_⟩:=(show B4 X.prog X.w H s.heap a (.dT kvs) from I.hok a _ ea)
  exact PySem.W.kia_one PySem.W.kitx_dict I.kIn ⟨o,h1,h2.1⟩ e (λz=>nomatch z) h
 | @ins a C dx fs ea cl ha hn htk hm =>
  cases(show u=Value.ref a from rx)
  obtain⟨mA,O,_⟩:=vj I.hok ea
  obtain⟨od,J,_⟩:=O.look
  exact PySem.W.kia_one (PySem.W.kitx_own (cl.get _) cl.hd ha hn htk hm) I.kIn J e (λz=>nomatch z) h
end
end
section
structure Room (k:Nat) (A:Around):Prop where
 hd:A.handled=none
 dp:A.depth+3*k+5<recursionLimit
 un:A.units+16*k+200<cLine
 gd:A.guards=some []
theorem Room.mono {j k:Nat}{A:Around}(r:Room k A)(h:j<=k):Room j A:=⟨r.hd,by have:=r.dp;omega,by have:=r.un;omega,r.gd⟩
theorem Room.deeper {k:Nat}{A:Around}(r:Room (k+1) A)(env:Env):Room k (A.deeper env) :=
 ⟨r.hd,by have:=r.dp;show A.depth+1+3*k+5<_;omega,by have:=r.un;show A.units+3+16*k+200<_;omega,r.gd⟩
theorem Room.depth {k:Nat}{A:Around}(r:Room k A):A.depth<recursionLimit:=by have:=r.dp;omega
theorem Room.units {k:Nat}{A:Around}(r:Room k A):A.units+64<cLine:=by have:=r.un;omega
def C8:TA:=λ_ H Q=>Q [] H
def q4 (ta:TE)(tr:TA):TA:=λσ H Q=>ta σ H λx H1=>tr σ H1 λxs H2=>Q (x::xs) H2
section
variable {X:Cx}{e:Expr}{es:List Expr}{te:TE}{t:TA}{pos:Pos}
theorem j6:PA X [] C8:=λ_ _ _ _ H Q I h=>Calls.spliced_nil ⟨[],H,I,.nil,h⟩
theorem h9 (ha:PE X e te)(hr:PA X es t)(hs:starEach (e::es) X.env=(false,eval e X.env)::starEach es X.env:=by rfl):PA X (e::es) (q4 te t):=by
 intro pos pins s σ H Q I h
 rw[hs]
 show wpAny _ _ (spliced ((false,eval e X.env)::backTo pos (starEach es X.env))) _ _ s
 refine Calls.spliced_cons (thn (ha pins s σ H _ I h) λu s1 ⟨x,H1,I1,r1,q1⟩=>?_)
 exact thn (hr pos pins s1 σ H1 _ I1 q1) λus s2 ⟨xs,H2,I2,r2,q2⟩=>⟨x::xs,H2,I2,.cons r1 r2,q2⟩
def tG (t:TA):TE:=λσ H Q=>t σ H λxs H1=>xs.length<=sizeLine/\∀p,H1 p=none->Q (.ref p) (upd H1 p (.tup xs))
def ax (t:TA):TE:=λσ H Q=>t σ H λxs H1=>xs.length<=sizeLine/\∀p,H1 p=none->Q (.ref p) (upd H1 p (.lst xs))
theorem iE {x1}(h:PA X es t):PE X (.Tuple es x1 pos) (tG t):=by
 intro pins s σ H Q I hq
 refine wpAny_Tuple_spliced (thn (h pos pins s σ H _ I hq) λus s1 ⟨xs,H1,I1,r,z,q⟩=>⟨by rw[<-r.length];exact z,?_⟩)
 have hf:H1 s1.heap.objs.size=none:=I1.hok.fresh (Nat.le_refl _)
 refine⟨.ref s1.heap.objs.size,upd H1 s1.heap.objs.size (.tup xs),I1.laid (t':=s1.toks) (λb u e=>Heap.get?_push_of_some _ e) (Nat.le_refl _) ?_,rfl,q _ hf⟩
 exact⟨z,us,r,⟨_,Heap.get?_push_size _ rfl,rfl,_,rfl⟩⟩
theorem L6 (h:PA X es t):PE X (.List es pos) (ax t):=by
 intro pins s σ H Q I hq
 refine wpAny_List_spliced (thn (h pos pins s σ H _ I hq) λus s1 ⟨xs,H1,I1,r,z,q⟩=>⟨by rw[<-r.length];exact z,?_⟩)
 have hf:H1 s1.heap.objs.size=none:=I1.hok.fresh (Nat.le_refl _)
 refine⟨.ref s1.heap.objs.size,upd H1 s1.heap.objs.size (.lst xs),I1.laid (t':=s1.toks) (λb u e=>Heap.get?_push_of_some _ e) (Nat.le_refl _) ?_,rfl,q _ hf⟩
 exact⟨z,us,0,r,Heap.get?_push_size _ rfl⟩
end
abbrev Sp:=List V->Hp->VK->XK->Prop
abbrev CXT:=List Env->Hp->Shared->XK->Value->Shared->Prop
structure Env0 (P:Program) (w:World) (K:Fg) (mg:Str->Option Value) (base:Heap) (A:Around) (outer:List Env) (s:Shared) (H:Hp):Prop where
 frames:A.frames=some outer
 mod:Mod K mg base
 bs:∀b o,base.get? b=some o->s.heap.get? b=some o/\H b=none
 bsz:base.objs.size<=s.heap.objs.size
 funs:s.heap.FunFrames base outer
 frf:∀b∈frs outer,H b=none
 hok:HOk P w H s.heap
 bare:AllBare s.gens
def CE (outer:List Env)(P:Program)(w:World)(H:Hp)(s:Shared)(Q:VK)(u:Value)(s':Shared):Prop :=
 ∃v H',s'.os=s.os/\AllBare s'.gens/\Un (frs outer) [] H H' s.heap s'.heap/\HOk P w H' s'.heap/\l0 v u/\Q v H'
def CR (CX:CXT)(outer:List Env)(P:Program)(w:World)(H:Hp)(s:Shared)(Q:VK)(E:XK)(r:Result)(s':Shared):Prop :=
 match r with
 | .ok (.ret u)=>CE outer P w H s Q u s'
 | .ok _=>False
 | .error e=>CX outer H s E e s'
structure FnOk (P:Program) (w:World) (K:Fg) (mg:Str->Option Value) (base:Heap) (CX:CXT) (k:Nat) (f:Addr) (fd:FuncData) (ps:List Str) (sp:Sp):Prop where
 len:∀vs H Q E,sp vs H Q E->vs.length=ps.length
 run:∀(A:Around) (outer:List Env) (s:Shared) (H:Hp) (args:Args) (us:List Value) (vs:List V) (Q:VK) (E:XK),Room k A->Env0 P w K mg base A outer s H->BindsTo s fd args (ps.zip us)->i6 vs us->sp vs H Q E ->
  codeAny (model P w) A (.call (.ref f) args) (CR CX outer P w H s Q E) s
theorem FnOk.imp {P:Program}{w:World}{K:Fg}{mg:Str->Option Value}{base:Heap}{CX:CXT}{k:Nat}{f:Addr}{fd:FuncData}{ps:List Str}{sp sp':Sp}(F:FnOk P w K mg base CX k f fd ps sp)
  (h:∀vs H Q E,sp' vs H Q E->sp vs H Q E):FnOk P w K mg base CX k f fd ps sp' :=
 ⟨λvs H Q E q=>F.len vs H Q E (h _ _ _ _ q),λA outer s H args us vs Q E hr he hb hv hs=>F.run A outer s H args us vs Q E hr he hb hv (h _ _ _ _ hs)⟩
section
variable {X:Cx}{pins:List (Addr×Obj)}{σ:St}{H:Hp}{s s':Shared}
theorem Inv.env0 (I:Inv X pins σ H s):Env0 X.prog X.w X.K X.mg X.base X.A X.stack s H :=
 ⟨I.ok.frames,I.ok.mod,I.bs,Nat.le_trans I.ok.bsz I.sz,I.stack,I.stkFree,I.hok,I.bare⟩
theorem Inv.after {Q:VK}{u:Value}(I:Inv X pins σ H s)(h:CE X.stack X.prog X.w H s Q u s'):EP X pins σ Q u s':=by
 obtain⟨v,H',os,bare,un,hok,r,q⟩:=h
 obtain⟨hh,g,d,t,os'⟩:=s'
 obtain rfl:os'=s.os:=os
 exact⟨v,H',I.call (h':=hh) (g':=g) (d':=d) (t':=t) (ch:=[]) un hok bare (λb z=>absurd z (by simp)),r,q⟩
end
def Y0 (sp:Sp)(dvs:List V)(E:XK)(t:TA):TE:=λσ H Q=>t σ H λvs H1=>sp (vs++dvs) H1 Q E
def gU (K:Fg)(fd:FuncData)(ps:List Str)(ds:List Value):Prop :=
 ∀(s:Shared) (us:List Value),K.In s.heap->(us++ds).length=ps.length->BindsTo s fd ⟨us,[]⟩ (ps.zip (us++ds))
theorem gU.all {K:Fg}{fd:FuncData}{ps:List Str}(h:∀us:List Value,us.length=ps.length->bindArgs fd ⟨us,[]⟩=pure (ps.zip us)):gU K fd ps []:=λs us _ hl=>by
 rw[List.append_nil]at hl ⊢
 exact .of_eq (h us hl)
def mV (CX:CXT)(X:Cx)(E:XK):Prop:=∀(pins:List (Addr×Obj)) (σ:St) (H:Hp) (s:Shared) (e:Value) (s':Shared),Inv X pins σ H s->CX X.stack H s E e s'->X.xe e s'
section
variable {X:Cx}{CX:CXT}{k:Nat}{f C:Addr}{fd:FuncData}{ps:List Str}{sp:Sp}{dvs:List V}{ds:List Value}{E:XK}{x m:Str}{p pos apos:Pos}{e o:Expr}{es:List Expr}{ta:TE}{t:TA}
theorem ye {pins:List (Addr×Obj)}{σ:St}{H:Hp}{s:Shared}{Q:VK}{us:List Value}{vs:List V}(F:FnOk X.prog X.w X.K X.mg X.base CX k f fd ps sp)(hr:Room k X.A)(hb:gU X.K fd ps ds)(hd:i6 dvs ds)(hx:mV CX X E)
  (I:Inv X pins σ H s) (r:i6 vs us) (h:sp (vs++dvs) H Q E):wpAny (model X.prog X.w) X.A (call (.ref f) us) (EP X pins σ Q) X.xe s:=by
 have r2:i6 (vs++dvs) (us++ds):=r.append hd
 have hl:(us++ds).length=ps.length:=by rw[<-r2.length];exact F.len _ _ _ _ h
 refine wpAny_call (codeAny_mono (F.run X.A X.stack s H ⟨us,[]⟩ (us++ds) (vs++dvs) Q E hr I.env0 (hb s us I.kIn hl) r2 h) λr s' hq=>?_)
 cases r with
 | error e=>exact hx pins σ H s e s' I hq
 | ok fl =>
  cases fl with
  | ret u=>exact I.after hq
  | next=>exact False.elim hq
  | brk=>exact False.elim hq
  | cont=>exact False.elim hq
theorem uF (F:FnOk X.prog X.w X.K X.mg X.base CX k f fd ps sp)(hr:Room k X.A)(hg:Gl X x)(hm:X.mg x=some (.ref f))(hk:PySem.W.keepIn X.K (.ref f)=true)(hb:gU X.K fd ps ds)(hd:i6 dvs ds)(hx:mV CX X E)
  (ha:PA X (e::es) t) (hdb:(x == ("__debug__":Str))=false:=by decide) (he:starEach (e::es) X.env=(false,eval e X.env)::starEach es X.env:=by rfl) (hpl:(backTo pos (starEach es X.env)).any (·.1)=false:=by rfl) :
  PE X (.Call (.Name x p) (e::es) [] pos) (Y0 sp dvs E t):=by
 intro pins s σ H Q I h
 refine wpAny_Call_Name_kw (nV I hg hm ?_ hdb)
 refine PySem.W.callWith_K (h₀:=X.base) I.ok.mod.kin hk (thn (ha pos pins s σ H _ I h) λus s1 ⟨vs,H1,I1,r,q⟩=>⟨I1.kIn,?_⟩) he hpl
 exact ye F hr hb hd hx I1 r q
end
section
variable {X:Cx}{CX:CXT}{k:Nat}{f C:Addr}{fd:FuncData}{ps ks:List Str}{sp:Sp}{E:XK}{x m:Str}{p pos apos kpos:Pos}{e o:Expr}{es:List Expr}{kws:List Keyword}{te ta:TE}{t tk:TA}{nm:Option Str}
variable {g:List Value->List Value->List Value}{gV:List V->List V->List V}
end
structure FnScope (N P:List Str) (sc:Scope):Prop where
 kind:sc.kind = .function:=by rfl
 co:sc.isCoroutine=false:=by rfl
 gen:sc.isGenerator=false:=by rfl
 nd:N.Nodup:=by decide +kernel
 pre:N.take P.length=P:=by rfl
 par:∀x∈P,sc.names.lookup x=some .local\/sc.names.lookup x=some .cell:=by decide +kernel
 nofree:∀y∈sc.names,y.2 ≠ .free:=by decide +kernel
theorem hU {kindOf:Str->Option NameKind}{x:Str}:∀{binds:List (Str×Value)} {m:Str->Option Value},(∀v,(x,v) ∉ binds)->bindL kindOf binds m x=m x
 | [],_,_=>rfl
 | (n,v)::r,m,h=>by
  unfold bindL
  rw[hU λw hw=>h w (List.mem_cons_of_mem _ hw)]
  split
  .have:x≠n:=by rintro rfl;exact h v List.mem_cons_self
   simp[this]
  .rfl
theorem gM {kindOf:Str->Option NameKind}{x:Str}:∀{binds:List (Str×Value)} {m:Str->Option Value},(∀v,(x,v) ∉ binds)->bindC kindOf binds m x=m x
 | [],_,_=>rfl
 | (n,v)::r,m,h=>by
  unfold bindC
  rw[gM λw hw=>h w (List.mem_cons_of_mem _ hw)]
  split
  .rfl
  .have:x≠n:=by rintro rfl;exact h v List.mem_cons_self
   simp[this]
theorem gx {kindOf:Str->Option NameKind}{x:Str}{v:Value}:∀{P:List Str} {vs:List Value} {i:Nat} {m:Str->Option Value},P.Nodup->P[i]? = some x->vs[i]? = some v->kindOf x=some .local ->
  bindL kindOf (P.zip vs) m x=some v
 | [],_,_,_,_,h,_,_=>by simp at h
 | _::_,[],_,_,_,_,h,_=>by simp at h
 | p::P,w::vs,0,m,nd,h1,h2,hk=>by
  simp at h1 h2;subst h1;subst h2
  show bindL kindOf ((p,w)::P.zip vs) m p=_
  unfold bindL
  rw[hU λv hv=>(List.nodup_cons.mp nd).1 (List.of_mem_zip hv).1,if_pos hk]
  simp
 | p::P,w::vs,i+1,m,nd,h1,h2,hk=>by
  show bindL kindOf ((p,w)::P.zip vs) m x=_
  unfold bindL
  exact gx (i:=i) (List.nodup_cons.mp nd).2 (by simpa using h1) (by simpa using h2) hk
theorem gI {kindOf:Str->Option NameKind}{x:Str}{v:Value}:∀{P:List Str} {vs:List Value} {i:Nat} {m:Str->Option Value},P.Nodup->P[i]? = some x->vs[i]? = some v->kindOf x≠some .local ->
  bindC kindOf (P.zip vs) m x=some v
 | [],_,_,_,_,h,_,_=>by simp at h
 | _::_,[],_,_,_,_,h,_=>by simp at h
 | p::P,w::vs,0,m,nd,h1,h2,hk=>by
  simp at h1 h2;subst h1;subst h2
  show bindC kindOf ((p,w)::P.zip vs) m p=_
  unfold bindC
  rw[gM λv hv=>(List.nodup_cons.mp nd).1 (List.of_mem_zip hv).1,if_neg hk]
  simp
 | p::P,w::vs,i+1,m,nd,h1,h2,hk=>by
  show bindC kindOf ((p,w)::P.zip vs) m x=_
  unfold bindC
  exact gI (i:=i) (List.nodup_cons.mp nd).2 (by simpa using h1) (by simpa using h2) hk
def B5 (N:List Str)(vs:List V):St:=vs.map some++List.replicate (N.length-vs.length) none
def M5 (CX:CXT)(P:Program)(w:World)(K:Fg)(mg:Str->Option Value)(base:Heap)(N:List Str)(qual:Str)(scope:Scope)(f:Addr)(cd:Value)(A:Around)(outer:List Env)(s:Shared)(H:Hp)(E:XK):Cx where
 prog:=P
 w:=w
 K:=K
 mg:=mg
 base:=base
 A:=A.deeper (envOfC qual scope s.heap.objs.size f cd)
 N:=N
 s₀:=s
 H₀:=H
 env:=envOfC qual scope s.heap.objs.size f cd
 outer:=outer
 stack:=envOfC qual scope s.heap.objs.size f cd::outer
 ex:=[]
 calm:=true
 fn:=λ_=>true
 pn:=[]
 xe:=λe s'=>wpAny (model P w) (A.deeper (envOfC qual scope s.heap.objs.size f cd)) (leaving (envOfC qual scope s.heap.objs.size f cd) e) (λ_ s''=>CX outer H s E e s'') (λe' s''=>CX outer H s E e' s'') s'
theorem jA {sc:Scope}{n:Nat}{x:Str}(h:sc.names.lookup x=some .cell):∃c,(cellsFrom n sc.names []).lookup x=some c:=by
 have q:=PySem.W.cellsFrom_some sc.names n [] (.inl h)
 exact Option.isSome_iff_exists.mp q
theorem qj {CX:CXT}{P:Program}{w:World}{K:Fg}{mg:Str->Option Value}{base:Heap}{N ps:List Str}{qual:Str}{scope:Scope}{f:Addr}{cd:Value}{A:Around}{outer:List Env}{s s1:Shared}{H:Hp}{E:XK}{us:List Value}{vs:List V}
  (S:FnScope N ps scope) (hd:A.handled=none) (e0:Env0 P w K mg base A outer s H) (hl:vs.length=ps.length) (r:i6 vs us)
  (x:InCallC s s.heap.objs.size (bindL (envOfC qual scope s.heap.objs.size f cd).kindOf (ps.zip us) λ_=>none) (cellsFrom (s.heap.objs.size+1) scope.names []) (bindC (envOfC qual scope s.heap.objs.size f cd).kindOf (ps.zip us) λ_=>none) s1) :
  Inv (M5 CX P w K mg base N qual scope f cd A outer s H E) [] (B5 N vs) H s1:=by
 have hpl:ps.length<=N.length:=by have:=congrArg List.length S.pre;rw[List.length_take]at this;omega
 obtain⟨h1,tk,rfl,hk⟩:=x.done
 have noA:∀b:Addr,b ∉ (M5 CX P w K mg base N qual scope f cd A outer s H E).ex:=λb z=>absurd (show b∈([]:List Addr) from z) (by simp)
 refine⟨⟨e0.mod,S.kind,rfl,rfl,Nat.le_refl _,λy z c h1 h2=>?_,λy hy=>?_,λy c _ h=>?_,λ_=>hd,Around.frames_deeper e0.frames,.inr ⟨rfl,rfl⟩,λb z=>absurd z (noA b),e0.bs,e0.bsz,λb _ _=>noA b,λb z=>absurd z (noA b),e0.funs,e0.frf⟩,
  rfl,e0.bare,Un.kept hk,⟨_,x.toInCall.ns,λi y v h1 h2 h3=>?_⟩,λy c h=>⟨_,x.cell y c h⟩,e0.hok.fresh (Nat.le_refl _),λy c h=>?_,λp hp=>absurd (show p∈([]:List (Addr×Obj)) from hp) (by simp),e0.hok.kept hk,?_⟩
 .exact name_of_addr x.apart (PySem.mem_of_lookup h1) (PySem.mem_of_lookup h2)
 .have hy:scope.names.lookup y=some .cell\/scope.names.lookup y=some .free:=hy
  rcases hy with hy | hy
  .exact jA hy
  .exact absurd rfl (S.nofree _ (PySem.mem_of_lookup hy))
 .exact Nat.le_of_lt (x.above y c (PySem.mem_of_lookup h))
 .have hi:i<vs.length:=by
   unfold B5 at h2
   by_cases hi:i<vs.length
   .exact hi
   .rw[List.getElem?_append_right (by simpa using hi)]at h2
    rw[List.getElem?_replicate]at h2
    split at h2 <;> cases h2
  have ha:vs[i]? = some v:=by
   unfold B5 at h2
   rw[List.getElem?_append_left (by simpa using hi),List.getElem?_map]at h2
   cases e:vs[i]? with
   | none=>rw[e]at h2;cases h2
   | some a=>rw[e]at h2;cases h2;rfl
  obtain⟨u,hu,rv⟩:=r.get ha
  have hp:ps[i]? = some y:=by
   rw[<-S.pre,List.getElem?_take_of_lt (by omega)];exact h1
  have ndP:ps.Nodup:=by rw[<-S.pre];exact S.nd.sublist (List.take_sublist _ _)
  refine⟨u,rv,?_⟩
  rcases S.par y (List.mem_of_getElem? hp) with k | k
  .exact .inl ⟨k,gx ndP hp hu k⟩
  .obtain⟨c,e⟩:=jA (n:=s.heap.objs.size+1) k
   refine .inr ⟨.inl k,c,e,?_⟩
   have q:=x.cell y c e
   rw[gI ndP hp hu (by show scope.names.lookup y≠_;rw[k];decide)]at q
   exact q
 .exact e0.hok.fresh (Nat.le_of_lt (x.above y c (PySem.mem_of_lookup h)))
 .unfold B5
  show _=N.length
  rw[List.length_append,List.length_map,List.length_replicate]
  omega
theorem xG {CX:CXT}{P:Program}{w:World}{K:Fg}{mg:Str->Option Value}{base:Heap}{k:Nat}{f:Addr}{name qual:Str}{params:Arguments}{body:List Stmt}{scope:Scope}{dV kV doc pm cdv ct oc:Value}{an od:Option Addr}
  {osl:Array (Option Value)} {N ps:List Str} {sp:Sp} (lk:K.lookup f=some ⟨oc,od,.func (PySem.W.fnOf name qual params body scope dV kV doc pm an cdv ct),osl⟩) (hcd:PySem.W.codeIn K cdv qual=true) (S:FnScope N ps scope)
  (len:∀vs H Q E,sp vs H Q E->vs.length=ps.length)
  (hbody:∀(A:Around) (outer:List Env) (s:Shared) (H:Hp) (vs:List V) (Q:VK) (E:XK),Room k (A.deeper (envOfC qual scope s.heap.objs.size f cdv))->sp vs H Q E ->
   ∃t,PSs (M5 CX P w K mg base N qual scope f cdv A outer s H E) body t/\t { nx:=λ_ H'=>Q .non H',rt:=Q } (B5 N vs) H) :
  FnOk P w K mg base CX (k+1) f (PySem.W.fnOf name qual params body scope dV kV doc pm an cdv ct) ps sp:=by
 refine⟨len,λA outer s H args us vs Q E hr e0 hb r hsp=>?_⟩
 have hl:=len _ _ _ _ hsp
 have KX:K.In s.heap:=e0.mod.kin.keeps λb o e=>(e0.bs b o e).1
 have lim:s.heap.NoLimit:=e0.mod.nolimit.keeps λb o e=>(e0.bs b o e).1
 have hkind:∀y∈ps.zip us,scope.names.lookup y.1=some .local\/(scope.names.lookup y.1=some .cell/\((cellsFrom (s.heap.objs.size+1) scope.names []).lookup y.1).isSome=true):=λ⟨n,v⟩ hy=>by
  rcases S.par n (List.of_mem_zip hy).1 with q | q
  .exact .inl q
  .exact .inr ⟨q,PySem.W.cellsFrom_some _ _ _ (.inl q)⟩
 refine codeAny_call_function hr.depth (KX _ _ lk) rfl S.co S.gen rfl (PySem.W.codeRec_of KX hcd) (hb _ _ _ _ ?_)
 refine wpAny_newFunctionEnv_cells S.kind hkind λenv he s1 x=>?_
 subst he
 refine⟨lim.keeps x.toInCall.keep,codeAny_func ?_⟩
 obtain⟨t,ht,hq⟩:=hbody A outer s H vs Q E (hr.deeper _) hsp
 have I:Inv (M5 CX P w K mg base N qual scope f cdv A outer s H E) [] (B5 N vs) H s1:=qj S hr.hd e0 hl r x
 refine wpAny_mono (ht [] s1 (B5 N vs) H _ I hq) (λfl s' hs=>?_) λe s' hs=>hs
 have fin:∀{σ':St} {H':Hp} {v:V} {u:Value},Inv (M5 CX P w K mg base N qual scope f cdv A outer s H E) [] σ' H' s'->l0 v u->Q v H'->CE outer P w H s Q u s' :=
  λ{σ' H' v u} J rv q=>⟨v,H',J.os,J.bare,J.base,J.hok,rv,q⟩
 cases fl with
 | ret u =>
  obtain⟨v,σ',H',J,rv,q⟩:=hs
  exact fin J rv q
 | next =>
  obtain⟨σ',H',J,q⟩:=hs
  exact fin (v:=V.non) (u:=Value.none) J rfl q
 | brk =>
  obtain⟨_,_,_,q⟩:=hs
  exact False.elim q
 | cont =>
  obtain⟨_,_,_,q⟩:=hs
  exact False.elim q
end
section
section
variable {X:Cx}{x:Str}{p pos:Pos}{e:Expr}{es:List Expr}{t:TA}{id T:String}{r:List V->Hp->VK->Prop}
def tCB (r:List V->Hp->VK->Prop)(t:TA):TE:=λσ H Q=>t σ H λvs H1=>r vs H1 Q
theorem P9 (hc:D1 X (.builtin id) r)(hg:Gl X x)(hm:X.mg x=none)(hv:bootBuiltins x=some (.builtin id))(ha:PA X (e::es) t)(hn:x ≠ "__name__":=by decide)(hdb:(x == ("__debug__":Str))=false:=by decide)
  (he:starEach (e::es) X.env=(false,eval e X.env)::starEach es X.env:=by rfl) (hpl:(backTo pos (starEach es X.env)).any (·.1)=false:=by rfl):PE X (.Call (.Name x p) (e::es) [] pos) (tCB r t):=by
 intro pins s σ H Q I h
 refine wpAny_Call_Name_kw (bh I hg hm hv ?_ hn hdb)
 exact PyProof.Rows.callWith_builtin1 (thn (ha pos pins s σ H _ I h) λus s1 ⟨vs,H1,I1,r1,q1⟩=>hc pins s1 σ H1 vs us Q I1 r1 q1) he hpl
theorem cz (hc:D1 X (.type T) r)(hg:Gl X x)(hm:X.mg x=none)(hv:bootBuiltins x=some (.type T))(ha:PA X (e::es) t)(hn:x ≠ "__name__":=by decide)(hdb:(x == ("__debug__":Str))=false:=by decide)
  (he:starEach (e::es) X.env=(false,eval e X.env)::starEach es X.env:=by rfl) (hpl:(backTo pos (starEach es X.env)).any (·.1)=false:=by rfl):PE X (.Call (.Name x p) (e::es) [] pos) (tCB r t):=by
 intro pins s σ H Q I h
 refine wpAny_Call_Name_kw (bh I hg hm hv ?_ hn hdb)
 exact PyProof.Rows.callWith_type1 (thn (ha pos pins s σ H _ I h) λus s1 ⟨vs,H1,I1,r1,q1⟩=>hc pins s1 σ H1 vs us Q I1 r1 q1) he hpl
end
end
end L2
namespace HT
open PySem PyProof.Rows
section
open PySem.SeqAt
open PySem.AutoSeq1 (wpAny_loadPart')
open PySem.MeetsSeq PySem.MeetsSeq2 PySem.MeetsSeq3
end
section
variable {prog:Program}{w:World}{A:Around}{E:Value->Shared->Prop}{s:Shared}
theorem cat_tup {t b:Addr}{vs ws:List Value}{Q:Value->Shared->Prop}(ht:IsTup s.heap t vs.toArray)(hb:IsTup s.heap b ws.toArray)(hv:vs≠[])
  (h1:ws=[]->Q (.ref t) s) (h2:ws≠[]->Q (.ref s.heap.objs.size) { s with heap:=s.heap.push { cls:=.type "tuple",data:=.seq (vs++ws).toArray } })
  (hsz:vs.length+ws.length<=sizeLine):wpAny (model prog w) A (binaryOp .Add (.ref t) (.ref b)) Q E s:=by
 obtain⟨⟨cls,dd,data,sl⟩,ho,hc,n,hd⟩:=id ht
 obtain⟨⟨cls2,dd2,data2,sl2⟩,ho2,hc2,n2,hd2⟩:=id hb
 simp only at hc hd hc2 hd2
 subst hc hd hc2 hd2
 have e:vs.toArray++ws.toArray=(vs++ws).toArray:=by simp
 by_cases hw:ws=[]
 .exact concat_meets ⟨_,ho,rfl⟩ ⟨_,ho2,rfl⟩ noFill_tuple_add seq_tuple_add PySem.F.slot_tuple_add PySem.F.entry_tuple_add (PySem.F.args_tuple_add_2 _ _)
   (tuple_addW1 t b vs.toArray ws.toArray n n2 dd dd2 sl sl2 (by simpa using hv) (by simp[hw])) ⟨ho,ho2,h1 hw⟩
 .refine concat_meets ⟨_,ho,rfl⟩ ⟨_,ho2,rfl⟩ noFill_tuple_add seq_tuple_add PySem.F.slot_tuple_add PySem.F.entry_tuple_add (PySem.F.args_tuple_add_2 _ _)
   (tuple_addW2 t b vs.toArray ws.toArray n n2 dd dd2 sl sl2 (by simpa using hv) (by simpa using hw) (by rw[List.size_toArray,List.size_toArray];exact hsz)) ⟨ho,ho2,?_⟩
  rw[e]
  exact h2 hw
def sIx (n d:Nat):Option Int->Nat
 | none=>d
 | some v=>if v<0 then(v+(n:Int)).toNat else min v.toNat n
theorem sIx_none (n d:Nat):sIx n d none=d:=rfl
theorem sIx_nat (n d k:Nat):sIx n d (some (k:Int))=min k n:=by
 show(if (k:Int)<0 then((k:Int)+(n:Int)).toNat else min (k:Int).toNat n)=min k n
 rw[if_neg (by omega),Int.toNat_natCast]
theorem zx (n d:Nat)(hd:d<=n)(o:Option Int):sIx n d o<=n:=by
 cases o with
 | none=>exact hd
 | some v =>
  show(if v<0 then(v+(n:Int)).toNat else min v.toNat n)<=n
  by_cases hv:v<0
  .rw[if_pos hv];omega
  .rw[if_neg hv];exact Nat.min_le_right _ _
theorem oM (v:Int)(n d:Nat):(if v<0 then max (v+(n:Int)) 0 else min v (n:Int))=((sIx n d (some v):Nat):Int):=by
 show(if v<0 then max (v+(n:Int)) 0 else min v (n:Int))=(((if v<0 then(v+(n:Int)).toNat else min v.toNat n):Nat):Int)
 by_cases hv:v<0
 .simp only[if_pos hv];omega
 .simp only[if_neg hv];omega
theorem lG (lo hi:Option Int)(n:Nat):Builtin.Slice.sliceAdjust lo hi 1 (n:Int)=(((sIx n 0 lo:Nat):Int),((sIx n n hi:Nat):Int)):=by
 have h1:¬((1:Int)<0):=by omega
 unfold Builtin.Slice.sliceAdjust
 simp only[h1,if_false]
 refine Prod.ext ?_ ?_
 .cases lo with
  | none=>rfl
  | some v=>exact oM v n 0
 .cases hi with
  | none=>rfl
  | some v=>exact oM v n n
theorem md (i j:Nat):Builtin.Slice.slicePlaces (i:Int) (j:Int) 1=j-i:=by
 unfold Builtin.Slice.slicePlaces
 have h1:(1:Int) > 0:=by omega
 simp only[h1,if_true,Int.ediv_one]
 split <;> omega
theorem aR {v:Value}{o:Option Int}{Q:Option Int->Shared->Prop}(p:IsPart v o)(h:Q o s):wpAny (model prog w) A (Builtin.Slice.slicePartIndex v) Q E s:=by
 cases p with
 | none=>exact slicePart_none h
 | int i t=>exact slicePart_int h
theorem U0 {sl:Addr}{vl vu:Value}{lo hi:Option Int}{n:Nat}{Q:Int×Int×Nat->Shared->Prop}(hs:s.heap.IsSliceOf sl vl vu .none)(pl:IsPart vl lo)(pu:IsPart vu hi)
  (h:Q (((sIx n 0 lo:Nat):Int),1,sIx n n hi-sIx n 0 lo) s):wpAny (model prog w) A (Builtin.Slice.sliceApplied (.ref sl) (pure (n:Int))) Q E s:=by
 obtain⟨os,hos,hcs,hds⟩:=id hs
 unfold Builtin.Slice.sliceApplied Builtin.Slice.sliceFields
 refine wpAny_bind (wpAny_bind (wpAny_field hos hds (x:=vl) rfl (wpAny_bind (wpAny_field hos hds (x:=vu) rfl (wpAny_bind (wpAny_field hos hds (x:=.none) rfl (wpAny_pure ?_)))))))
 refine wpAny_bind (slicePart_none ?_)
 show wpAny _ _ (if ((1:Int) == 0)=true then _ else _) _ _ s
 rw[if_neg (by decide)]
 refine wpAny_bind (aR pl (wpAny_bind (aR pu (wpAny_bind (wpAny_pure ?_)))))
 show wpAny _ _ (match Builtin.Slice.sliceAdjust lo hi 1 (n:Int) with | (lo,hi)=>pure (lo,(1:Int),Builtin.Slice.slicePlaces lo hi 1)) _ _ s
 rw[lG lo hi n]
 show wpAny _ _ (pure (((sIx n 0 lo:Nat):Int),(1:Int),Builtin.Slice.slicePlaces ((sIx n 0 lo:Nat):Int) ((sIx n n hi:Nat):Int) 1)) _ _ s
 rw[md]
 exact wpAny_pure h
theorem rz (xs:Array Value)(i k:Nat):((List.range k).filterMap λ(m:Nat)=>xs[((i:Int)+(m:Int)*1).toNat]?).toArray=((xs.toList.drop i).take k).toArray:=by
 have e:(λ(m:Nat)=>xs[((i:Int)+(m:Int)*1).toNat]?) = λm=>xs[i+m]?:=by
  funext m
  have:((i:Int)+(m:Int)*1).toNat=i+m:=by omega
  rw[this]
 rw[e]
 have:=pick_run xs i k
 rw[List.filterMap_map]at this
 have e2:((λx=>xs[x]?) ∘ λx=>i+x) = λm=>xs[i+m]?:=rfl
 rw[e2]at this
 rw[this]
theorem getItem_tuple_cut {t sl:Addr}{items:Array Value}{vl vu:Value}{lo hi:Option Int}{Q:Value->Shared->Prop}(ht:IsTup s.heap t items)(hs:s.heap.IsSliceOf sl vl vu .none)(pl:IsPart vl lo)(pu:IsPart vu hi)
  (hw:¬(sIx items.size 0 lo=0/\sIx items.size items.size hi=items.size))
  (h:Q (.ref s.heap.objs.size) { s with heap:=s.heap.push { cls:=.type "tuple",data:=.seq ((items.toList.drop (sIx items.size 0 lo)).take (sIx items.size items.size hi-sIx items.size 0 lo)).toArray } })
  (hsz:items.size<=sizeLine):wpAny (model prog w) A (getItem (.ref t) (.ref sl)) Q E s:=by
 have htake:sizeOk (.seq ((items.toList.drop (sIx items.size 0 lo)).take (sIx items.size items.size hi-sIx items.size 0 lo)).toArray):=by
  show((items.toList.drop (sIx items.size 0 lo)).take (sIx items.size items.size hi-sIx items.size 0 lo)).toArray.size<=sizeLine
  rw[List.size_toArray,List.length_take,List.length_drop,Array.length_toList]
  omega
 have hj:sIx items.size items.size hi<=items.size:=zx _ _ (Nat.le_refl _) hi
 obtain⟨os,hos,hcs,hds⟩:=id hs
 have hTs:s.TypeIs (.ref sl) "slice":=⟨os,hos,hcs⟩
 unfold getItem
 try with_reducible refine wpAny_holding ?_
 first | refine wpAny_bind (wpAny_pure ?_) | skip
 refine wpAny_bind (wpAny_sequenceKey ht.typeIs (by decide) ?_)
 refine wpAny_bind (wpAny_callSpecial?_slot (name:=Str.ofString "__getitem__") ht.typeIs PyProof.Rows.slot_tuple_getitem
  (wpAny_call_entry PyProof.Rows.slot_tuple_getitem ht.typeIs entry_tuple_getitem ?_ (args_tuple_getitem _ _)))
 show wpAny _ _ (Builtin.Tuple.tupleItemsOf (.ref t) >>= _) _ _ s
 refine wpAny_bind (tupleItemsOf_ ht ?_)
 refine wpAny_bind (wpAny_typeOf hTs ?_)
 rw[if_pos (by decide)]
 refine wpAny_bind (U0 hs pl pu ?_)
 have hno:¬((((sIx items.size 0 lo:Nat):Int) == 0&&(1:Int) == 1&&(sIx items.size items.size hi-sIx items.size 0 lo) == items.size)=true):=by
  intro q
  rw[Bool.and_eq_true,Bool.and_eq_true]at q
  have q1:((sIx items.size 0 lo:Nat):Int)=0:=eq_of_beq q.1.1
  have q2:sIx items.size items.size hi-sIx items.size 0 lo=items.size:=eq_of_beq q.2
  exact hw ⟨by omega,by omega⟩
 show wpAny _ _ (if (((sIx items.size 0 lo:Nat):Int) == 0&&(1:Int) == 1&&(sIx items.size items.size hi-sIx items.size 0 lo) == items.size)=true then _ else _) _ _ s
 rw[if_neg hno,rz]
 first
  | exact wpAny_bind (m:=Builtin.Tuple.tupleExact _) (wpAny_newObj_type (wpAny_pure ⟨_,rfl,wpAny_pure h⟩) htake)
  | exact wpAny_bind (m:=Builtin.Tuple.tupleExact _) (wpAny_newObj_type (wpAny_bind (wpAny_pure (wpAny_pure ⟨_,rfl,wpAny_pure h⟩))) htake)
  | exact wpAny_bind (wpAny_bind (m:=Builtin.Tuple.tupleExact _) (wpAny_newObj_type (wpAny_pure (wpAny_pure ⟨_,rfl,wpAny_pure h⟩)) htake))
  | exact wpAny_bind (wpAny_bind (m:=Builtin.Tuple.tupleExact _) (wpAny_newObj_type (wpAny_pure ⟨_,rfl,wpAny_pure h⟩) htake))
end
end HT
namespace L2
open PySem PySem.Spec PyProof.Rows
section
abbrev TO:=St->Hp->(Option Int->Hp->Prop)->Prop
def PO (X:Cx)(e:Option Expr)(t:TO):Prop :=
 ∀(pins:List (Addr×Obj)) (s:Shared) (σ:St) (H:Hp) (Q:Option Int->Hp->Prop),Inv X pins σ H s->t σ H Q ->
  wpAny (model X.prog X.w) X.A (evalPart e X.env) (λu s'=>∃o H',Inv X pins σ H' s'/\IsPart u o/\Q o H') X.xe s
def ny:TO:=λ_ H Q=>Q none H
def xE (t:TE):TO:=λσ H Q=>t σ H λx H1=>∃i,x = .int i/\Q (some i) H1
theorem lH {ns:List Int}:∀{us:List Value},i6 (ns.map V.int) us->IntsAre us ns:=by
 induction ns with
 | nil=>intro us r;rw[List.map_nil]at r;cases r;exact .nil
 | cons n ns ih =>
  intro us r
  rw[List.map_cons]at r
  cases r with
  | cons r1 r2 =>
   obtain⟨t,e⟩:=r1
   subst e
   exact .cons n t (ih r2)
section
variable {X:Cx}{e:Expr}{te:TE}{lo hi:Option Expr}{tl th:TO}{pos p2:Pos}
theorem oz:PO X none ny:=by
 intro pins s σ H Q I h
 rw[evalPart_none]
 exact wpAny_pure ⟨none,H,I,.none,h⟩
theorem jn (h:PE X e te):PO X (some e) (xE te):=by
 intro pins s σ H Q I hw
 rw[evalPart_some]
 refine thn (h pins s σ H _ I hw) λu s1 ⟨x,H1,I1,r1,q1⟩=>?_
 obtain⟨i,rfl,q⟩:=q1
 obtain⟨t,rfl⟩:=r1
 exact⟨some i,H1,I1,.int i t,q⟩
def SlR (X:Cx)(r:V->Option Int->Option Int->Hp->VK->Prop):Prop :=
 ∀(pins:List (Addr×Obj)) (s:Shared) (σ:St) (H:Hp) (x:V) (v vl vu:Value) (lo hi:Option Int) (sl:Addr) (Q:VK),Inv X pins σ H s->l0 x v->s.heap.IsSliceOf sl vl vu .none->IsPart vl lo->IsPart vu hi->r x lo hi H Q ->
  ∃T id,typeLookup (.type T) "__getitem__" = pure (some (.builtin id))/\s.TypeIs v T/\wpAny (model X.prog X.w) X.A (getItem v (.ref sl)) (EP X pins σ Q) X.xe s
def tSl (r:V->Option Int->Option Int->Hp->VK->Prop)(te:TE)(tl th:TO):TE:=λσ H Q=>te σ H λx H1=>tl σ H1 λl H2=>th σ H2 λu H3=>r x l u H3 Q
theorem kx {r:V->Option Int->Option Int->Hp->VK->Prop}(hr:SlR X r)(he:PE X e te)(hl:PO X lo tl)(hu:PO X hi th):PE X (.Subscript e (.Slice lo hi none p2) pos) (tSl r te tl th):=by
 intro pins s σ H Q I h
 refine Subscript_ (thn (he pins s σ H _ I h) λv s1 ⟨x,H1,I1,r1,q1⟩=>?_)
 refine wpAny_Slice (thn (hl pins s1 σ H1 _ I1 q1) λvl s2 ⟨l,H2,I2,pl,q2⟩=>thn (hu pins s2 σ H2 _ I2 q2) λvu s3 ⟨u,H3,I3,pu,q3⟩=>?_)
 rw[evalPart_none]
 refine wpAny_pure ?_
 have I4:Inv X pins σ H3 { s3 with heap:=s3.heap.push { cls:=.type "slice",data:=.fields #[vl,vu,.none] } }:=I3.kept (t':=s3.toks) λb ob q=>Heap.get?_push_of_some _ q
 obtain⟨T,id,hT,ht,hg⟩:=hr pins { s3 with heap:=s3.heap.push { cls:=.type "slice",data:=.fields #[vl,vu,.none] } } σ H3 x v vl vu l u s3.heap.objs.size Q I4 r1 (Heap.IsSliceOf.new ..) pl pu q3
 show wpAny (model X.prog X.w) X.A (subscriptTail e (.Slice lo hi none p2) v (.ref s3.heap.objs.size)) (EP X pins σ Q) X.xe { s3 with heap:=s3.heap.push { cls:=.type "slice",data:=.fields #[vl,vu,.none] } }
 exact tail_any (ops:=[.ref s3.heap.objs.size,v]) ht hT hg (by with_unfolding_all rfl)
def cG (xs:List V)(lo hi:Option Int):List V:=(xs.drop (HT.sIx xs.length 0 lo)).take (HT.sIx xs.length xs.length hi-HT.sIx xs.length 0 lo)
theorem dC (xs:List V)(lo hi:Option Int):(cG xs lo hi).length<=xs.length:=by
 unfold cG
 rw[List.length_take,List.length_drop]
 omega
def Bk (K:Fg):V->Option Int->Option Int->Hp->VK->Prop:=λx lo hi H Q=>∃a xs,x = .ref a/\SqT K H a xs /\
 ¬(HT.sIx xs.length 0 lo=0/\HT.sIx xs.length xs.length hi=xs.length)/\∀p,H p=none->Q (.ref p) (upd H p (.tup (cG xs lo hi)))
theorem zB:SlR X (Bk X.K):=by
 intro pins s σ H x v vl vu lo hi sl Q I rx hs pl pu h
 obtain⟨a,xs,rfl,hx,hw,q⟩:=h
 cases rx
 obtain⟨its,r,ht,hz⟩:=I.tuple hx
 have hlen:its.toArray.size=xs.length:=by rw[List.size_toArray];exact r.length.symm
 refine⟨"tuple",_,PyProof.Rows.slot_tuple_getitem.lookup,ht.typeIs,?_⟩
 refine HT.getItem_tuple_cut ht hs pl pu (by rw[hlen];exact hw) ?_ (by rw[hlen];exact hz)
 rw[hlen]
 refine⟨.ref s.heap.objs.size,_,I.laid (t':=s.toks) (o:=.tup (cG xs lo hi)) (λb ob q=>Heap.get?_push_of_some _ q) (Nat.le_refl _) ?_,rfl,q _ (I.hok.fresh (Nat.le_refl _))⟩
 exact⟨Nat.le_trans (dC xs lo hi) hz,_,(r.drop (HT.sIx xs.length 0 lo)).take (HT.sIx xs.length xs.length hi-HT.sIx xs.length 0 lo),IsTup.new _ _⟩
def Af (K:Fg):R2:=λx y H Q=>∃a b xs ys,x = .ref a/\y = .ref b/\SqT K H a xs/\SqT K H b ys/\xs≠[]/\xs.length+ys.length<=sizeLine /\
 (ys=[]->Q (.ref a) H)/\(ys≠[]->∀p,H p=none->Q (.ref p) (upd H p (.tup (xs++ys))))
theorem i6.nil_iff {xs:List V}{us:List Value}(r:i6 xs us):us=[]↔xs=[]:=by
 cases r with
 | nil=>simp
 | cons _ _=>simp
theorem uM:OpR X (binaryOp .Add) (Af X.K):=by
 intro pins s σ H x y v u Q I rx ry h
 obtain⟨a,b,xs,ys,rfl,rfl,ha,hb,hx,hz,q1,q2⟩:=h
 cases rx
 cases ry
 obtain⟨its,r1,p1,_⟩:=I.tuple ha
 obtain⟨its2,r2,p2,_⟩:=I.tuple hb
 refine HT.cat_tup p1 p2 (λz=>hx (r1.nil_iff.mp z)) (λz=>⟨.ref a,H,I,rfl,q1 (r2.nil_iff.mp z)⟩) (λz=>?_) (by rw[<-r1.length,<-r2.length];exact hz)
 refine⟨.ref s.heap.objs.size,_,I.laid (t':=s.toks) (o:=.tup (xs++ys)) (λb ob q=>Heap.get?_push_of_some _ q) (Nat.le_refl _) ?_,rfl,q2 (λw=>z (r2.nil_iff.mpr w)) _ (I.hok.fresh (Nat.le_refl _))⟩
 exact⟨by rw[List.length_append];exact hz,_,r1.append r2,IsTup.new _ _⟩
end
end
section
def ixN (n:Nat)(i:Int):Option Nat:=if 0<=i then(if i<n then some i.toNat else none) else if -(n:Int)<=i then some (i+n).toNat else none
def atI {α:Type}(xs:List α)(i:Int):Option α:=(ixN xs.length i).bind λj=>xs[j]?
theorem nO {n:Nat}{i:Int}{j:Nat}(h:ixN n i=some j):seqIndex? i n=some j/\j<n /\ -(n:Int)<=i/\i<n:=by
 unfold ixN at h
 by_cases h0:0<=i
 .rw[if_pos h0]at h
  by_cases h1:i<n
  .rw[if_pos h1]at h
   have e:i.toNat=j:=Option.some.inj h
   exact⟨by rw[seqIndex_of h0 h1,e],by omega,by omega,h1⟩
  .rw[if_neg h1]at h;cases h
 .rw[if_neg h0]at h
  by_cases h1:-(n:Int)<=i
  .rw[if_pos h1]at h
   have e:(i+n).toNat=j:=Option.some.inj h
   exact⟨by rw[seqIndex_neg (by omega) h1,e],by omega,h1,by omega⟩
  .rw[if_neg h1]at h;cases h
theorem jd {α:Type}{xs:List α}{i:Int}{v:α}(h:atI xs i=some v):∃j,seqIndex? i xs.length=some j/\xs[j]? = some v/\j<xs.length /\ -(xs.length:Int)<=i/\i<xs.length:=by
 unfold atI at h
 cases e:ixN xs.length i with
 | none=>rw[e]at h;cases h
 | some j =>
  rw[e]at h
  obtain⟨h1,h2,h3,h4⟩:=nO e
  exact⟨j,h1,h,h2,h3,h4⟩
theorem bE {α:Type}{xs:List α}{j:Nat}{v:α}(h:xs[j]? = some v):atI xs (j:Int)=some v:=by
 have hj:j<xs.length:=(List.getElem?_eq_some_iff.mp h).1
 have e:ixN xs.length (j:Int)=some j:=by
  unfold ixN
  rw[if_pos (by omega),if_pos (by omega)];simp
 unfold atI;rw[e];exact h
def jy (b:Expr):Prop:=∀o i,subscripted b false o i=operate [o,i] (getItem o i)
def IxR (X:Cx)(r:R2):Prop :=
 ∀(value slice:Expr) (pins:List (Addr×Obj)) (s:Shared) (σ:St) (H:Hp) (x y:V) (v u:Value) (Q:VK),Inv X pins σ H s->l0 x v->l0 y u->r x y H Q ->
  subscripted slice false v u=operate [v,u] (getItem v u)->wpAny (model X.prog X.w) X.A (subscriptTail value slice v u) (EP X pins σ Q) X.xe s
def MtR (X:Cx)(id:String)(r:V->List V->Hp->VK->Prop):Prop :=
 ∀(pins:List (Addr×Obj)) (s:Shared) (σ:St) (H:Hp) (x:V) (xs:List V) (v:Value) (us:List Value) (Q:VK),Inv X pins σ H s->l0 x v->i6 xs us->r x xs H Q ->
  wpAny (model X.prog X.w) X.A (call (.builtin id) (v::us)) (EP X pins σ Q) X.xe s
section
variable {X:Cx}{a b:Expr}{ta tb:TE}{pos:Pos}
theorem K0 {r:R2}(hr:IxR X r)(ha:PE X a ta)(hb:PE X b tb)(hs:jy b):PE X (.Subscript a b pos) (tOp r ta tb):=by
 intro pins s σ H Q I h
 exact Subscript_ (yh ha hb I h λv u s2 x y H2 I2 rx ry q=>hr a b pins s2 σ H2 x y v u Q I2 rx ry q (hs _ _))
def oV (K:Fg):R2:=λx y H Q=>∃p xs i v,x = .ref p/\y = .int i/\SqL K H p xs/\atI xs i=some v/\Q v H
def yU (K:Fg):R2:=λx y H Q=>∃p xs i v,x = .ref p/\y = .int i/\SqT K H p xs/\atI xs i=some v/\Q v H
def By:R2:=λx y H Q=>∃z i c,x = .str z/\y = .int i/\z.length<=sizeLine/\atI z.cps.toList i=some c/\Q (.str ⟨#[c]⟩) H
theorem A7:IxR X (oV X.K):=by
 intro value slice pins s σ H x y v u Q I rx ry h hs
 obtain⟨p,xs,i,z,rfl,rfl,hq,he,q⟩:=h
 cases rx
 obtain⟨t,rfl⟩:=ry
 obtain⟨its,r,pl,hz⟩:=I.list hq
 obtain⟨j,h1,h2,h3,h4,h5⟩:=jd he
 obtain⟨w,ew,rw'⟩:=r.get h2
 have hl:=r.length
 have hn:=aZ
 have fin:EP X pins σ Q w s:=⟨z,H,I,rw',q⟩
 by_cases h0:0<=i
 .have hj:i.toNat=j:=by
   rw[seqIndex_of h0 h5]at h1
   exact Option.some.inj h1
  exact item_listR pl.isList h0 (by omega) (by rw[hj];simpa using ew) fin hs
 .have hj:(i+(its.toArray.size:Int)).toNat=j:=by
   rw[seqIndex_neg (by omega) h4]at h1
   rw[List.size_toArray,<-hl]
   exact Option.some.inj h1
  exact subscriptTail_builtinR (x:=w) pl.isList.typeIs slot_list_getitem.lookup
   (wpAny_getItem_list_neg (Q:=λr s'=>r=w/\EP X pins σ Q r s') pl.isList (by omega) (by rw[List.size_toArray] <;> omega) (by omega) (by rw[hj];simpa using ew) ⟨rfl,fin⟩) hs
theorem nc:IxR X (yU X.K):=by
 intro value slice pins s σ H x y v u Q I rx ry h hs
 obtain⟨p,xs,i,z,rfl,rfl,hq,he,q⟩:=h
 cases rx
 obtain⟨t,rfl⟩:=ry
 obtain⟨its,r,pl,hz⟩:=I.tuple hq
 obtain⟨j,h1,h2,h3,h4,h5⟩:=jd he
 obtain⟨w,ew,rw'⟩:=r.get h2
 have hl:=r.length
 have hn:=aZ
 have fin:EP X pins σ Q w s:=⟨z,H,I,rw',q⟩
 exact subscriptTail_builtinR (x:=w) pl.typeIs slot_tuple_getitem.lookup
  (getItem_tuple (j:=j) (Q:=λr s'=>r=w/\EP X pins σ Q r s') pl (by omega) (by omega) (by rw[List.size_toArray,<-hl];exact h1) (by simpa using ew) ⟨rfl,fin⟩) hs
theorem yT:IxR X By:=by
 intro value slice pins s σ H x y v u Q I rx ry h hs
 obtain⟨z,i,c,rfl,rfl,hz,he,q⟩:=h
 obtain⟨t,rfl⟩:=rx
 obtain⟨t',rfl⟩:=ry
 obtain⟨j,h1,h2,h3,h4,h5⟩:=jd he
 have hl:z.cps.toList.length=z.length:=by simp[Str.length]
 rw[hl]at h1 h4 h5
 have hn:=aZ
 exact tail_any (typeIs_str s z t) slot_str_getitem.lookup (getItem_str (c:=c) (by
  have e1:decide (i < -(2 ^ 63:Int))=false:=decide_eq_false (by omega)
  have e2:decide (i >= 2 ^ 63)=false:=decide_eq_false (by omega)
  rw[e1,e2,Bool.or_false]) (by rw[h1];simpa using h2) ⟨.str ⟨#[c]⟩,H,I.tok _,⟨_,rfl⟩,q⟩) hs
theorem lT (its:List Value)(n j:Nat)(u:Value):Obj.mapSeq (·.setIfInBounds j u) { cls:=.type "list",data:=.seq its.toArray n }={ cls:=.type "list",data:=.seq (its.set j u).toArray n }:=by
 simp[Obj.mapSeq]
theorem Inv.lst {pins:List (Addr×Obj)}{σ:St}{H:Hp}{s:Shared}{p:Addr}{xs:List V}(I:Inv X pins σ H s)(h:H p=some (.lst xs)) :
  ∃(its:List Value) (n:Nat),i6 xs its/\s.heap.get? p=some { cls:=.type "list",data:=.seq its.toArray n }/\xs.length<=sizeLine:=by
 obtain⟨z,its,n,r,e⟩:=I.hok p _ h
 exact⟨its,n,r,e,z⟩
theorem Inv.lstUpd {pins:List (Addr×Obj)}{σ:St}{H:Hp}{s:Shared}{p:Addr}{xs ys:List V}{its its':List Value}{n n':Nat}{f:Obj->Obj}(I:Inv X pins σ H s)(h:H p=some (.lst xs))
  (ho:s.heap.get? p=some { cls:=.type "list",data:=.seq its.toArray n }) (hf:f { cls:=.type "list",data:=.seq its.toArray n }={ cls:=.type "list",data:=.seq its'.toArray n' }) (r:i6 ys its') (hz:ys.length<=sizeLine) (t:Nat) :
  Inv X pins σ (upd H p (.lst ys)) { s with heap:=s.heap.update p f,toks:=t }:=by
 have e:(s.heap.update p f).get? p=some { cls:=.type "list",data:=.seq its'.toArray n' }:=by
  rw[Heap.get?_update_self f ho (by rw[hf] <;> rfl),hf]
 refine I.write (x:=p) (e:=p) (by rw[h];trivial) (.inl rfl) (λb u hb q=>(Heap.get?_update_other _ _ (Ne.symm hb)).trans q) ⟨_,e⟩ ?_
 exact⟨hz,its',n',r,e⟩
def dw:V->V->V->Hp->(Hp->Prop)->Prop:=λo i v H Q=>∃p xs k j,o = .ref p/\i = .int k/\H p=some (.lst xs)/\ixN xs.length k=some j/\Q (upd H p (.lst (xs.set j v)))
theorem O1:zU X dw:=by
 intro pins s σ H o i v ov iv u Q I ro ri rv h
 obtain⟨p,xs,k,j,rfl,rfl,hp,hj,q⟩:=h
 cases ro
 obtain⟨t,rfl⟩:=ri
 obtain⟨its,n,r,ho,hz⟩:=I.lst hp
 obtain⟨h1,h2,h3,h4⟩:=nO hj
 have hl:=r.length
 have hn:=aZ
 have I':Inv X pins σ (upd H p (.lst (xs.set j v))) { s with heap:=s.heap.update p (Obj.mapSeq (·.setIfInBounds j u)) } :=
  I.lstUpd hp ho (lT its n j u) (r.set rv j) (by rw[List.length_set];exact hz) s.toks
 by_cases h0:0<=k
 .have hk:k.toNat=j:=by
   rw[seqIndex_of h0 h4]at h1
   exact Option.some.inj h1
  exact PySem.W.ki_setAt ho h0 (by omega) (by rw[List.size_toArray,<-hl];exact h4) (by rw[hk];exact⟨_,I',q⟩)
 .have hk:(k+(its.toArray.size:Int)).toNat=j:=by
   rw[seqIndex_neg (by omega) h3]at h1
   rw[List.size_toArray,<-hl]
   exact Option.some.inj h1
  exact PySem.W.ki_setBack ho (by omega) (by rw[List.size_toArray,<-hl];exact h3) (by omega) (by rw[hk];exact⟨_,I',q⟩)
theorem jk (lo hi:Option Int)(n:Nat):(sliceBounds lo hi none n).1=((HT.sIx n 0 lo:Nat):Int)/\(sliceBounds lo hi none n).2.1=((HT.sIx n n hi:Nat):Int)/\(sliceBounds lo hi none n).2.2=1:=by
 refine⟨?_,?_,rfl⟩
 .cases lo with
  | none=>simp[sliceBounds,HT.sIx]
  | some i =>
   simp only[sliceBounds,HT.sIx,Option.getD_none,show(1:Int) > 0 by decide,if_true]
   by_cases h:i<0
   .simp only[h,if_true] <;> omega
   .simp only[h,if_false] <;> omega
 .cases hi with
  | none=>simp[sliceBounds,HT.sIx]
  | some i =>
   simp only[sliceBounds,HT.sIx,Option.getD_none,show(1:Int) > 0 by decide,if_true]
   by_cases h:i<0
   .simp only[h,if_true] <;> omega
   .simp only[h,if_false] <;> omega
theorem gk (its:List Value)(lo hi:Option Int):slicePick its.toArray lo hi none=((its.drop (HT.sIx its.length 0 lo)).take (HT.sIx its.length its.length hi-HT.sIx its.length 0 lo)).toArray:=by
 obtain⟨h1,h2,h3⟩:=jk lo hi its.toArray.size
 unfold slicePick
 rw[h1,h2,h3]
 simp only[sliceRange_one,pick_run,List.size_toArray] <;> rfl
def Bo (K:Fg):V->Option Int->Option Int->Hp->VK->Prop:=λx lo hi H Q=>∃a xs,x = .ref a/\SqL K H a xs/\∀p,H p=none->Q (.ref p) (upd H p (.lst (cG xs lo hi)))
theorem nS:SlR X (Bo X.K):=by
 intro pins s σ H x v vl vu lo hi sl Q I rx hs pl pu h
 obtain⟨a,xs,rfl,hx,q⟩:=h
 cases rx
 obtain⟨its,r,ht,hz⟩:=I.list hx
 have hlen:=r.length
 refine⟨"list",_,slot_list_getitem.lookup,ht.isList.typeIs,?_⟩
 refine wpAny_getItem_list_slice ht.isList hs pl pu .none (by simp) ?_ (by rw[List.size_toArray] <;> omega)
 rw[gk,<-hlen]
 refine⟨.ref s.heap.objs.size,_,I.laid (t':=s.toks) (o:=.lst (cG xs lo hi)) (λb ob q=>Heap.get?_push_of_some _ q) (Nat.le_refl _) ?_,rfl,q _ (I.hok.fresh (Nat.le_refl _))⟩
 exact⟨Nat.le_trans (dC xs lo hi) hz,_,0,(r.drop (HT.sIx xs.length 0 lo)).take (HT.sIx xs.length xs.length hi-HT.sIx xs.length 0 lo),Heap.get?_push_size _ rfl⟩
theorem F8:D1 X (.builtin "len") (λxs H Q=>∃p ys,xs=[.ref p]/\(SqL X.K H p ys\/SqT X.K H p ys)/\Q (.int ys.length) H):=by
 intro pins s σ H xs us Q I r h
 obtain⟨p,ys,rfl,hq,q⟩:=h
 obtain⟨u,rfl,rx⟩:=O7 r
 cases rx
 have hn:=aZ
 rcases hq with hq | hq
 .obtain⟨its,r',pl,hz⟩:=I.list hq
  have hlen:=r'.length
  exact Calls.call_len_list pl.isList (by simp only[List.size_toArray] <;> omega) ⟨.int ys.length,H,I.tok _,⟨s.toks+1,by rw[List.size_toArray,hlen]⟩,q⟩
 .obtain⟨its,r',pl,hz⟩:=I.tuple hq
  have hlen:=r'.length
  exact len_tuple pl (by simp only[List.size_toArray] <;> omega) ⟨.int ys.length,H,I.tok _,⟨s.toks+1,by rw[List.size_toArray,hlen]⟩,q⟩
theorem ie:D1 X (.builtin "len") (λxs H Q=>∃z,xs=[.str z]/\z.length<=sizeLine/\Q (.int z.length) H):=by
 intro pins s σ H xs us Q I r h
 obtain⟨z,rfl,hz,q⟩:=h
 obtain⟨u,rfl,t,rfl⟩:=O7 r
 have hn:=aZ
 exact len_str (by omega) ⟨.int z.length,H,I.tok _,⟨_,rfl⟩,q⟩
theorem ja:D1 X (.type "list") (λxs H Q=>∃p ys,xs=[.ref p]/\(SqL X.K H p ys\/SqT X.K H p ys)/\∀l,H l=none->Q (.ref l) (upd H l (.lst ys))):=by
 intro pins s σ H xs us Q I r h
 obtain⟨p,ys,rfl,hq,q⟩:=h
 obtain⟨u,rfl,rx⟩:=O7 r
 cases rx
 have fin:∀(its:List Value),i6 ys its->ys.length<=sizeLine->∀(h':Heap) (c':Nat),(∀b o',s.heap.get? b=some o'->h'.get? b=some o') ->
   h'.get? s.heap.objs.size=some { cls:=.type "list",dict:=none,data:=.seq its.toArray c',slots:=#[] }->EP X pins σ Q (.ref s.heap.objs.size) { s with heap:=h' }:=λits r' hz h' c' kp e =>
  ⟨.ref s.heap.objs.size,_,I.laid (t':=s.toks) kp (Nat.le_refl _) (show B4 X.prog X.w _ h' _ (.lst ys) from⟨hz,its,c',r',e⟩),rfl,q _ (I.hok.fresh (Nat.le_refl _))⟩
 rcases hq with hq | hq
 .obtain⟨its,r',pl,hz⟩:=I.list hq
  have hlen:=r'.length
  obtain⟨o,ho,hc,n,hd⟩:=pl.isList
  exact call_list_seq p (.inl rfl) ho hc hd (λh' c' kp e=>fin its r' hz h' c' kp e) (by simp only[List.size_toArray] <;> omega)
 .obtain⟨its,r',pl,hz⟩:=I.tuple hq
  have hlen:=r'.length
  obtain⟨o,ho,hc,n,hd⟩:=pl
  exact call_list_seq p (.inr rfl) ho hc hd (λh' c' kp e=>fin its r' hz h' c' kp e) (by simp only[List.size_toArray] <;> omega)
theorem gq:D1 X (.type "tuple") (λxs H Q=>∃p ys,xs=[.ref p]/\((SqL X.K H p ys/\∀l,H l=none->Q (.ref l) (upd H l (.tup ys)))\/(SqT X.K H p ys/\Q (.ref p) H))):=by
 intro pins s σ H xs us Q I r h
 obtain⟨p,ys,rfl,h⟩:=h
 obtain⟨u,rfl,rx⟩:=O7 r
 cases rx
 rcases h with ⟨hq,q⟩ | ⟨hq,q⟩
 .obtain⟨its,r',pl,hz⟩:=I.list hq
  have hlen:=r'.length
  refine call_tuple_list pl.isList (λh' kp=>?_) (by simp only[List.size_toArray] <;> omega)
  have I1:Inv X pins σ H { s with heap:=h' }:=I.kept (t':=s.toks) kp
  have I2:Inv X pins σ (upd H h'.objs.size (.tup ys)) { s with heap:=h'.push { cls:=.type "tuple",data:=.seq its.toArray } } :=
   I1.laid (t':=s.toks) (λb o e=>Heap.get?_push_of_some _ e) (Nat.le_refl _) (show B4 X.prog X.w _ _ _ (.tup ys) from⟨hz,its,r',IsTup.new _ _⟩)
  exact⟨.ref h'.objs.size,_,I2,rfl,q _ (I1.hok.fresh (Nat.le_refl _))⟩
 .obtain⟨its,r',pl,hz⟩:=I.tuple hq
  exact call_tuple_same pl ⟨.ref p,H,I,rfl,q⟩
def tyV (K:Fg)(T:String)(x:V)(H:Hp):Prop:=match x with
 | .str _=>T = "str"
 | .int _=>T = "int"
 | .ref p=>(T = "list" /\ ∃xs,SqL K H p xs)\/(T = "tuple" /\ ∃o,K.lookup p=some o/\o.cls = .type "tuple" /\ o.dict=none) \/
   (T = "dict" /\ ((∃kvs,H p=some (.dK kvs))\/∃kvs,H p=some (.dT kvs)))\/(T = "set" /\ ∃S n,H p=some (.set S n))
 | _=>False
theorem yC {pins:List (Addr×Obj)}{σ:St}{H:Hp}{s:Shared}{T:String}{x:V}{v:Value}(I:Inv X pins σ H s)(r:l0 x v)(ty:tyV X.K T x H) :
  s.TypeIs v T/\∀a,v = .ref a->∃ob,s.heap.get? a=some ob/\ob.dict=none:=by
 cases x with
 | str z =>
  obtain⟨t,rfl⟩:=r
  cases(show T = "str" from ty)
  exact⟨typeIs_str s z t,λ_ e=>nomatch e⟩
 | int i =>
  obtain⟨t,rfl⟩:=r
  cases(show T = "int" from ty)
  exact⟨typeIs_int s i t,λ_ e=>nomatch e⟩
 | ref p =>
  cases r
  rcases ty with ⟨rfl,xs,hq⟩ | ⟨rfl,o,hk,hc,hd⟩ | ⟨rfl,hk⟩ | ⟨rfl,S,n,hk⟩
  .obtain⟨its,_,pl,_⟩:=I.list hq
   refine⟨pl.isList.typeIs,λa e=>?_⟩
   cases e
   obtain⟨o,n,e,c,hd,_⟩:=pl
   exact⟨o,e,hd⟩
  .refine⟨⟨o,I.kIn p o hk,hc⟩,λa e=>?_⟩
   cases e
   exact⟨o,I.kIn _ o hk,hd⟩
  .have z:∃o,s.heap.get? p=some o/\o.ExactDict:=by
    rcases hk with ⟨kvs,hk⟩ | ⟨kvs,hk⟩
    .obtain⟨_,_,_,_,o,_,_,e,ex,_⟩:=I.hok p _ hk
     exact⟨o,e,ex⟩
    .obtain⟨_,_,_,_,o,_,_,e,ex,_⟩:=I.hok p _ hk
     exact⟨o,e,ex⟩
   obtain⟨o,e,ex⟩:=z
   refine⟨⟨o,e,ex.1⟩,λa e2=>?_⟩
   cases e2
   exact⟨o,e,ex.2.1⟩
  .obtain⟨o,_,_,_,e,ex,_⟩:=I.hok p _ hk
   refine⟨⟨o,e,ex.1⟩,λa e2=>?_⟩
   cases e2
   exact⟨o,e,ex.2.1⟩
 | _=>exact False.elim ty
def tBM (K:Fg)(T:String)(r:V->List V->Hp->VK->Prop)(to:TE)(t:TA):TE:=λσ H Q=>to σ H λx H1=>tyV K T x H1/\t σ H1 λxs H2=>r x xs H2 Q
variable {o e:Expr}{es:List Expr}{to:TE}{t:TA}{name:Str}{apos cpos:Pos}{T id:String}{r:V->List V->Hp->VK->Prop}
theorem eY (pa:PlainAttrs T)(slot:Slot T name id)(hty:typeOf (.builtin id)=pure (.type "method_descriptor"))(hm:MtR X id r)(ho:PE X o to)(ha:PA X (e::es) t)
  (hbase:attributeBase o name X.env (eval o X.env)=eval o X.env:=by rfl)
  (hfew:((backTo cpos (starEach (e::es) X.env)).all (λx=>!x.1)&&(backToKw cpos (keywordEach [] X.env)).all (λx=>x.1.isSome)
   && decide ((e::es).length+([]:List Keyword).length+(if ([]:List Keyword).isEmpty then 0 else 1)<30))=true:=by rfl)
  (hline:(apos.endLine == cpos.line)=true:=by rfl) (hs:starEach (e::es) X.env=(false,eval e X.env)::starEach es X.env:=by rfl) (hplain:(backTo cpos (starEach es X.env)).any (·.1)=false:=by rfl) :
  PE X (.Call (.Attribute o name apos) (e::es) [] cpos) (tBM X.K T r to t):=by
 intro pins s σ H Q I h
 refine wpAny_Call_method_late hbase hfew hline rfl (thn (ho pins s σ H _ I h) λv s1 ⟨x,H1,I1,r1,ty,q1⟩=>?_)
 obtain⟨h1,h2⟩:=yC I1 r1 ty
 refine⟨T,id,pa,slot,hty,h1,h2,?_⟩
 have hA:=ha cpos pins s1 σ H1 _ I1 q1
 rw[hs]at hA ⊢
 refine Calls.callWith_builtin (by show(false||(backTo cpos (starEach es X.env)).any (·.1))=false;rw[hplain] <;> rfl) (Calls.evalArgs_plain ?_)
 exact thn hA λus s2 ⟨vs,H2,I2,r2,q2⟩=>hm pins s2 σ H2 x vs v us Q I2 r1 r2 q2
/- xs.append(e),list.index on a module's tuple .. are MtR facts of 06m -/
end
end
section
def MtM (X:Cx)(id:String)(r:V->List V->Hp->VK->Prop):Prop :=
 ∀(pins:List (Addr×Obj)) (s:Shared) (σ:St) (H:Hp) (x:V) (xs:List V) (v:Value) (us:List Value) (Q:VK),Inv X pins σ H s->l0 x v->i6 xs us->r x xs H Q ->
  wpAny (model X.prog X.w) X.A (call (.builtin id) (v::us)) (EP X pins σ Q) X.xe s
theorem i6.one:∀{x:V} {us:List Value},i6 [x] us->∃u,us=[u]/\l0 x u
 | _,_,.cons r .nil=>⟨_,rfl,r⟩
theorem i6.reverse {xs:List V}{us:List Value}(h:i6 xs us):i6 xs.reverse us.reverse:=by
 induction h with
 | nil=>exact .nil
 | cons r t ih=>rw[List.reverse_cons,List.reverse_cons];exact i6.append ih (.cons r .nil)
theorem i6.rep {xs:List V}{us:List Value}(h:i6 xs us):∀k:Nat,i6 (List.replicate k xs).flatten (List.replicate k us).flatten
 | 0=>.nil
 | k+1=>by
  rw[List.replicate_succ,List.replicate_succ,List.flatten_cons,List.flatten_cons]
  exact i6.append h (i6.rep h k)
theorem cA (its:List Value):∀(k:Nat) (acc:List Value),
  List.foldl (λx1 x2=>x1++x2) acc.toArray (List.replicate k its.toArray)=(acc++(List.replicate k its).flatten).toArray
 | 0,acc=>by simp
 | k+1,acc=>by
  have e:acc.toArray++its.toArray=(acc++its).toArray:=by simp
  have e2:(acc++its)++(List.replicate k its).flatten=acc++(List.replicate (k+1) its).flatten:=by
   rw[List.replicate_succ,List.flatten_cons,List.append_assoc]
  rw[<-e2,<-cA its k (acc++its),<-e,List.replicate_succ,List.foldl_cons]
section
variable {X:Cx}{pins:List (Addr×Obj)}{σ:St}{H:Hp}{s:Shared}{l b:Addr}{xs ys zs:List V}
theorem Inv.lset {its its':List Value}{n:Nat}{f:Array Value->Array Value}{t':Nat}(I:Inv X pins σ H s)(hH:H l=some (.lst xs))
  (e:s.heap.get? l=some { cls:=.type "list",data:=.seq its.toArray n }) (hf:f its.toArray=its'.toArray) (hv:i6 ys its') (hz:ys.length<=sizeLine) :
  Inv X pins σ (upd H l (.lst ys)) { s with heap:=s.heap.update l (Obj.mapSeq f),toks:=t' }:=by
 have q:=PySem.IsL.update e f
 rw[hf]at q
 refine I.write (x:=l) (e:=l) (by rw[hH];exact trivial) (.inl rfl) (λb' u hb hu=>(Heap.get?_update_other s.heap (Obj.mapSeq f) (Ne.symm hb)).trans hu) ⟨_,q⟩ ?_
 exact⟨hz,its',_,hv,q⟩
theorem Inv.lnew {its:List Value}{t':Nat}(I:Inv X pins σ H s)(hv:i6 ys its)(hz:ys.length<=sizeLine) :
  Inv X pins σ (upd H s.heap.objs.size (.lst ys)) { s with heap:=s.heap.push { cls:=.type "list",data:=.seq its.toArray },toks:=t' } :=
 I.laid (λ_ _ q=>Heap.get?_push_of_some _ q) (Nat.le_refl _) ⟨hz,its,0,hv,Heap.get?_push_size _ rfl⟩
theorem Inv.fresh (I:Inv X pins σ H s):H s.heap.objs.size=none:=I.hok.fresh (Nat.le_refl _)
theorem Inv.lstM (I:Inv X pins σ H s)(hH:H l=some (.lst xs)):xs.length<=sizeLine/\∃(its:List Value) (n:Nat),i6 xs its/\xs.length=its.length/\s.heap.get? l=some { cls:=.type "list",data:=.seq its.toArray n }:=by
 obtain⟨z,its,n,r,e⟩:=I.hok l _ hH
 exact⟨z,its,n,r,r.length,e⟩
theorem qV {n:Nat}(h:n<=sizeLine):Builtin.List.listTooLong n=false:=by
 unfold Builtin.List.listTooLong
 exact decide_eq_false (by omega)
end
section
variable {X:Cx}
def N3:V->List V->Hp->VK->Prop:=λx vs H Q=>∃l xs y,x = .ref l/\vs=[y]/\H l=some (.lst xs)/\xs.length<sizeLine/\Q .non (upd H l (.lst (xs++[y])))
theorem F9:MtM X "list.append" N3:=by
 intro pins s σ H x vs v us Q I rx rv h
 obtain⟨l,xs,y,rfl,rfl,hH,hz,q⟩:=h
 cases rx
 obtain⟨u,rfl,ru⟩:=rv.one
 obtain⟨z,its,n,r,hl,e⟩:=I.lstM hH
 refine call_meets F.slot_list_append ⟨_,e,rfl⟩ F.entry_list_append (F.args_list_append_2 _ _) (PySem.list_append l its.toArray n u (by rw[List.size_toArray];omega)) ⟨e,?_⟩
 refine⟨.non,_,I.lset (its':=its++[u]) hH e (by simp) (r.append (.cons ru .nil)) ?_,rfl,q⟩
 rw[List.length_append,List.length_singleton]
 omega
def AE:R2:=λx y H Q=>∃l b xs zs,x = .ref l/\y = .ref b/\H l=some (.lst xs)/\H b=some (.lst zs)/\xs.length+zs.length<=sizeLine/\∀p,H p=none->Q (.ref p) (upd H p (.lst (xs++zs)))
theorem tE:OpR X (binaryOp .Add) AE:=by
 intro pins s σ H x y v u Q I rx ry h
 obtain⟨l,b,xs,zs,rfl,rfl,hH,hB,hz,q⟩:=h
 cases rx
 cases ry
 obtain⟨z,its,n,r,hl,e⟩:=I.lstM hH
 obtain⟨z2,its2,n2,r2,hl2,e2⟩:=I.lstM hB
 refine PySem.P.add_list e e2 ?_ (by rw[List.size_toArray,List.size_toArray];omega)
 have ea:its.toArray++its2.toArray=(its++its2).toArray:=by simp
 rw[ea]
 exact⟨.ref _,_,I.lnew (t':=s.toks) (r.append r2) (by rw[List.length_append];omega),rfl,q _ I.fresh⟩
def Br:R2:=λx y H Q=>∃l k xs,x = .ref l/\y = .int k/\H l=some (.lst xs) /\ -(2 ^ 63)<=k/\k<2 ^ 63/\xs.length*k.toNat<=sizeLine /\
 ∀p,H p=none->Q (.ref p) (upd H p (.lst (List.replicate k.toNat xs).flatten))
theorem iQ {α:Type}(xs:List α)(k:Nat):(List.replicate k xs).flatten.length=k*xs.length:=by
 induction k with
 | zero=>simp
 | succ k ih=>rw[List.replicate_succ,List.flatten_cons,List.length_append,ih,Nat.succ_mul,Nat.add_comm]
theorem yX:OpR X (binaryOp .Mult) Br:=by
 intro pins s σ H x y v u Q I rx ry h
 obtain⟨l,k,xs,rfl,rfl,hH,h1,h2,hz,q⟩:=h
 cases rx
 obtain⟨t,rfl⟩:=ry
 obtain⟨z,its,n,r,hl,e⟩:=I.lstM hH
 have hlen:its.toArray.size*k.toNat<=sizeLine:=by rw[List.size_toArray,<-hl];exact hz
 have hcap:¬its.toArray.size*k.toNat > (2 ^ 63-1) / 8:=by
  have:(sizeLine:Nat)<=(2 ^ 63-1) / 8:=by decide
  omega
 have hfit:¬(!Builtin.List.listFitsIndex k)=true:=by
  rw[fitsIndex_both h1 h2]
  exact Bool.false_ne_true
 have hlong:¬Builtin.List.listTooLong (its.toArray.size*k.toNat)=true:=by
  rw[qV hlen]
  exact Bool.false_ne_true
 have hnew:List.foldl (λx1 x2=>x1++x2) #[] (List.replicate (if its.toArray.isEmpty=true then 0 else k.toNat) its.toArray)=(List.replicate k.toNat its).flatten.toArray:=by
  have f0:∀m:Nat,List.foldl (λx1 x2=>x1++x2) #[] (List.replicate m its.toArray)=(List.replicate m its).flatten.toArray:=λm=>by
   have:=cA its m []
   rw[List.nil_append]at this
   exact this
  rw[f0]
  cases its with
  | nil=>simp
  | cons a r'=>rw[if_neg (by simp)]
 refine wpAny_binaryOp_repeat_ref (T:="list") (U:="int") (by decide) ⟨_,e,rfl⟩ (λs'=>typeIs_int s' k t) noFill_list_mul F.fills_int_mul F.slot_int_rmul repeat_list F.slot_int_index.lookup
  (call_meets F.slot_int_rmul (typeIs_int s k t) F.entry_int_rmul (F.args_int_rmul_2 _ _) (int___rmul___int_list k t l its.toArray n)
   ⟨e,rfl,⟨_,e,rfl⟩,call_meets F.slot_list_mul ⟨_,e,rfl⟩ F.entry_list_mul (F.args_list_mul_2 _ _) (AutoListH.list___mul___list_int_3 l its.toArray n k t hfit hcap hlong) ⟨e,?_⟩⟩)
 rw[hnew]
 exact⟨.ref _,_,I.lnew (t':=s.toks) (r.rep k.toNat) (by rw[iQ,Nat.mul_comm];exact hz),rfl,q _ I.fresh⟩
end
section
variable {prog:Program}{w:World}{A:Around}{E:Value->Shared->Prop}{s:Shared}
end
section
variable {X:Cx}
end
end
section
section
variable {κ:Type}[DecidableEq κ]
def au (kvs:List (κ×V))(k:κ):Option V:=(kvs.find? λkv=>decide (kv.1=k)).map (·.2)
def K6 (kvs:List (κ×V))(k:κ)(v:V):List (κ×V) :=
 if (kvs.any λkv=>decide (kv.1=k))=true then kvs.map (λkv=>if kv.1=k then(kv.1,v) else kv) else kvs++[(k,v)]
theorem P7 {p:κ×V}{r:List (κ×V)}{k:κ}(e:p.1=k):au (p::r) k=some p.2:=by simp[au,List.find?_cons,e]
theorem v9 {p:κ×V}{r:List (κ×V)}{k:κ}(e:¬p.1=k):au (p::r) k=au r k:=by simp[au,List.find?_cons,e]
theorem Y3 (k:κ):∀kvs:List (κ×V),(kvs.any λkv=>decide (kv.1=k))=(au kvs k).isSome
 | []=>rfl
 | p::r=>by
  rw[List.any_cons]
  by_cases e:p.1=k
  .simp only[P7 e,decide_eq_true e,Bool.true_or,Option.isSome_some]
  .rw[v9 e,decide_eq_false e,Bool.false_or];exact Y3 k r
theorem Z4 (kvs:List (κ×V))(k:κ)(v:V):(K6 kvs k v).length<=kvs.length+1:=by
 unfold K6
 split
 .rw[List.length_map];omega
 .rw[List.length_append,List.length_cons,List.length_nil];omega
theorem bL {kvs:List (κ×V)}{k:κ}(v:V)(h:au kvs k=none):K6 kvs k v=kvs++[(k,v)]:=by
 unfold K6
 rw[Y3,h]
 exact if_neg (by decide)
theorem fC.isSome_eq {o:Option V}{u:Option Value}(r:fC o u):o.isSome=u.isSome:=by
 cases o with
 | none=>cases u with
  | none=>rfl
  | some _=>exact(show False from r).elim
 | some _=>cases u with
  | none=>exact(show False from r).elim
  | some _=>rfl
theorem KV.val {kvs:List (κ×V)}{vs:List (κ×Value)}(r:KV kvs vs)(k:κ):fC (au kvs k) (valueAt vs k):=by
 unfold KV at r
 induction r with
 | nil=>exact True.intro
 | @cons p q ps qs h t ih =>
  obtain⟨h1,h2⟩:=h
  by_cases e:p.1=k
  .have e':q.1=k:=h1.symm.trans e
   have b:valueAt (q::qs) k=some q.2:=by simp[valueAt,List.find?_cons,e']
   rw[P7 e,b];exact h2
  .have e':¬q.1=k:=λz=>e (h1.trans z)
   have b:valueAt (q::qs) k=valueAt qs k:=by simp[valueAt,List.find?_cons,e']
   rw[v9 e,b];exact ih
theorem KV.any {kvs:List (κ×V)}{vs:List (κ×Value)}(r:KV kvs vs)(k:κ):(kvs.any λkv=>decide (kv.1=k))=vs.any λkv=>decide (kv.1=k):=by
 unfold KV at r
 induction r with
 | nil=>rfl
 | cons h t ih=>rw[List.any_cons,List.any_cons,ih,h.1]
theorem KV.repl {kvs:List (κ×V)}{vs:List (κ×Value)}(r:KV kvs vs)(k:κ){y:V}{u:Value}(ry:l0 y u) :
  KV (kvs.map λkv=>if kv.1=k then(kv.1,y) else kv) (vs.map λkv=>if kv.1=k then(kv.1,u) else kv):=by
 unfold KV at r ⊢
 induction r with
 | nil=>exact .nil
 | @cons p q ps qs h t ih =>
  rw[List.map_cons,List.map_cons]
  refine .cons ?_ ih
  obtain⟨h1,h2⟩:=h
  by_cases e:p.1=k
  .rw[if_pos e,if_pos (h1.symm.trans e)];exact⟨h1,ry⟩
  .rw[if_neg e,if_neg (λz=>e (h1.trans z))];exact⟨h1,h2⟩
theorem KV.put {kvs:List (κ×V)}{vs:List (κ×Value)}(r:KV kvs vs)(k:κ){y:V}{u:Value}(ry:l0 y u):KV (K6 kvs k y) (stored vs k u):=by
 unfold K6 stored
 rw[r.any k]
 by_cases e:(vs.any λkv=>decide (kv.1=k))=true
 .rw[if_pos e,if_pos e];exact r.repl k ry
 .rw[if_neg e,if_neg e];exact Paired.snoc r ⟨rfl,ry⟩
theorem KV.length {kvs:List (κ×V)}{vs:List (κ×Value)}(r:KV kvs vs):kvs.length=vs.length:=Paired.length r
end
theorem oh {P:Program}{w:World}{k:Key}{u:Value}(r:l0 (kV k) u):(B7 P w).is k u=true:=by
 cases k with
 | inl i=>obtain⟨t,e⟩:=(show ∃t,u=Value.int i t from r);subst e;exact kO P w i t
 | inr x=>obtain⟨t,e⟩:=(show ∃t,u=Value.str x t from r);subst e;exact lp P w x t
theorem gz {P:Program}{w:World}:∀{ks:List Key} {us:List Value},i6 (ks.map kV) us->ItemsAre (B7 P w) ks us
 | [],_,r=>by rw[List.map_nil]at r;cases r;exact .nil
 | k::ks,_,r=>by
  rw[List.map_cons]at r
  cases r with
  | cons h t=>exact .cons (oh h) (gz t)
abbrev KT (H:Hp):List (List Key×V)->List (List Key×Addr×Value)->Prop:=Paired λp q=>p.1=q.1/\H q.2.1=some (.tup (p.1.map kV))/\l0 p.2 q.2.2
theorem KT.val {H:Hp}{kvs:List (List Key×V)}{xs:List (List Key×Addr×Value)}(r:KT H kvs xs)(k:List Key):fC (au kvs k) ((atKey xs k).map (·.2)):=by
 induction r with
 | nil=>exact True.intro
 | @cons p q ps qs h t ih =>
  obtain⟨h1,_,h2⟩:=h
  by_cases e:p.1=k
  .have e':q.1=k:=h1.symm.trans e
   have b:atKey (q::qs) k=some q.2:=by simp[atKey,List.find?_cons,e']
   rw[P7 e,b];exact h2
  .have e':¬q.1=k:=λz=>e (h1.trans z)
   have b:atKey (q::qs) k=atKey qs k:=by simp[atKey,List.find?_cons,e']
   rw[v9 e,b];exact ih
theorem KT.repl {H:Hp}{kvs:List (List Key×V)}{xs:List (List Key×Addr×Value)}(r:KT H kvs xs)(k:List Key){y:V}{u:Value}(ry:l0 y u) :
  KT H (kvs.map λkv=>if kv.1=k then(kv.1,y) else kv) (xs.map (putAt k u)):=by
 induction r with
 | nil=>exact .nil
 | @cons p q ps qs h t ih =>
  rw[List.map_cons,List.map_cons]
  refine .cons ?_ ih
  obtain⟨h1,h2,h3⟩:=h
  unfold putAt
  by_cases e:p.1=k
  .rw[if_pos e,if_pos (h1.symm.trans e)];exact⟨h1,h2,ry⟩
  .rw[if_neg e,if_neg (λz=>e (h1.trans z))];exact⟨h1,h2,h3⟩
theorem KT.put {H:Hp}{kvs:List (List Key×V)}{xs:List (List Key×Addr×Value)}(r:KT H kvs xs)(k:List Key){b:Addr}{y:V}{u:Value}(hb:H b=some (.tup (k.map kV)))(ry:l0 y u) :
  KT H (K6 kvs k y) (storedH xs k b u):=by
 have e:(kvs.any λkv=>decide (kv.1=k))=(atKey xs k).isSome:=by
  rw[Y3,(r.val k).isSome_eq,Option.isSome_map]
 unfold K6 storedH
 rw[e]
 by_cases q:(atKey xs k).isSome=true
 .rw[if_pos q,if_pos q];exact r.repl k ry
 .rw[if_neg q,if_neg q];exact Paired.snoc r ⟨rfl,hb,ry⟩
theorem KT.keeps {H H':Hp}{kvs:List (List Key×V)}{xs:List (List Key×Addr×Value)}(r:KT H kvs xs)(ht:∀b ys,H b=some (.tup ys)->H' b=some (.tup ys)):KT H' kvs xs :=
 Paired.mapP r λ_ _ z=>⟨z.1,ht _ _ z.2.1,z.2.2⟩
section
variable {P:Program}{w:World}{H:Hp}{h:Heap}{a:Addr}
theorem xJ {u:HO}(ok:HOk P w H h)(e:Rd H a u):B4 P w H h a u:=e.ok ok
theorem rM {kvs:List (Key×V)}(ok:HOk P w H h)(e:Rd H a (.dK kvs)):kvs.length<=sizeLine/\(a == sysModules)=false/\∃vs,KV kvs vs/\h.DictOf (B7 P w) a vs :=
 show B4 P w H h a (.dK kvs) from xJ ok e
theorem xk {kvs:List (Key×V)}(ok:HOk P w H h)(e:H a=some (.dK kvs)):kvs.length<=sizeLine/\(a == sysModules)=false/\∃vs,KV kvs vs/\h.DictOf (B7 P w) a vs:=rM ok (.inl e)
theorem lF {ks:List Key}(ok:HOk P w H h)(e:H a=some (.tup (ks.map kV))):(tupleKind (B7 P w)).is h ks a:=by
 obtain⟨_,its,r,o,h1,h2,n,h3⟩:=(show B4 P w H h a (.tup (ks.map kV)) from ok a _ e)
 exact⟨o,its.toArray,n,h1,h2,h3,by simpa using gz r⟩
theorem tS {kvs:List (List Key×V)}(ok:HOk P w H h)(e:Rd H a (.dT kvs)):kvs.length<=sizeLine/\(a == sysModules)=false /\
  ∃xs,KT H kvs xs/\h.DictOfH (tupleKind (B7 P w)) a xs:=by
 obtain⟨z,y,xs,r,o,es,ep,h1,h2,h3,h4,h5⟩:=(show B4 P w H h a (.dT kvs) from xJ ok e)
 refine⟨z,y,xs,r,o,es,ep,h1,h2,h3,h4,λx hx=>?_,h5⟩
 have all:∀{l:List (List Key×V)} {m:List (List Key×Addr×Value)},KT H l m->∀x∈m,(tupleKind (B7 P w)).is h x.1 x.2.1:=by
  intro l m q
  induction q with
  | nil=>intro x hx;exact nomatch hx
  | @cons p q ps qs hq t ih =>
   intro x hx
   rcases List.mem_cons.mp hx with e | hx
   .subst e
    exact lF ok (by rw[<-hq.1];exact hq.2.1)
   .exact ih x hx
 exact all r x hx
theorem AG {kvs:List (List Key×V)}(ok:HOk P w H h)(e:H a=some (.dT kvs)):kvs.length<=sizeLine/\(a == sysModules)=false /\
  ∃xs,KT H kvs xs/\h.DictOfH (tupleKind (B7 P w)) a xs:=tS ok (.inl e)
end
def cS (H:Hp)(a:Addr)(y:V)(r:Option V):Prop :=
 (∃kvs k,Rd H a (.dK kvs)/\y=kV k/\r=au kvs k)\/∃kvs k b,Rd H a (.dT kvs)/\y = .ref b/\H b=some (.tup (k.map kV))/\r=au kvs k
def kc (H:Hp)(a:Addr)(y v:V)(H':Hp):Prop :=
 (∃kvs k,H a=some (.dK kvs)/\y=kV k/\kvs.length<sizeLine/\H'=upd H a (.dK (K6 kvs k v))) \/
 ∃kvs k b,H a=some (.dT kvs)/\y = .ref b/\H b=some (.tup (k.map kV))/\kvs.length<sizeLine/\H'=upd H a (.dT (K6 kvs k v))
theorem cS.k {H:Hp}{a:Addr}{kvs:List (Key×V)}{k:Key}(e:H a=some (.dK kvs)):cS H a (kV k) (au kvs k):=.inl ⟨kvs,k,.inl e,rfl,rfl⟩
theorem kc.k {H:Hp}{a:Addr}{kvs:List (Key×V)}{k:Key}{v:V}(e:H a=some (.dK kvs))(hl:kvs.length<sizeLine):kc H a (kV k) v (upd H a (.dK (K6 kvs k v))):=.inl ⟨kvs,k,e,rfl,hl,rfl⟩
section
variable {X:Cx}{pins:List (Addr×Obj)}{σ:St}{H:Hp}{s:Shared}{a:Addr}{y v:V}{u r:Value}{o:Option V}{A:Around}{E:Value->Shared->Prop}
theorem Inv.big (I:Inv X pins σ H s):sysModules<s.heap.objs.size:=by
 have h:mainGlobals<s.heap.objs.size:=(I.mod.glob.keeps I.bk).lt
 exact Nat.lt_trans (by decide) h
theorem pN {Q:Value->Shared->Prop}(hu:A.units+1<cLine)(I:Inv X pins σ H s)(g:cS H a y (some v))(ry:l0 y u)(h:∀w' s',Inv X pins σ H s'->l0 v w'->Q w' s') :
  wpAny (model X.prog X.w) A (getItem (.ref a) u) Q E s:=by
 rcases g with ⟨kvs,k,e,ey,l⟩ | ⟨kvs,k,b,e,ey,eb,l⟩
 .subst ey
  obtain⟨z,hd,vs,rel,dd⟩:=rM I.hok e
  obtain⟨w',hw,rw'⟩:=fC.some_of (v:=v) (o:=valueAt vs k) (by rw[l];exact rel.val k)
  exact wpAny_getItem_of (oh ry) dd.mapOf hw (h w' _ (I.tok _) rw')
 .subst ey
  cases(show u=Value.ref b from ry)
  obtain⟨z,hd,xs,rel,dd⟩:=tS I.hok e
  obtain⟨w',hw,rw'⟩:=fC.some_of (v:=v) (o:=(atKey xs k).map (·.2)) (by rw[l];exact rel.val k)
  obtain⟨p,hp,hp2⟩:=Option.map_eq_some_iff.mp hw
  refine wpAny_getItem_heap (tupleKind_room_in1 hu) (lF I.hok eb) dd hp ?_
  rw[hp2]
  exact h w' _ (I.tok _) rw'
theorem jv {h':Heap}{t':Nat}{ob:HO}(I:Inv X pins σ H s)(mu:Mut (H a))(hs:Heap.SameBut a s.heap h')(he:∃q,h'.get? a=some q)(new:B4 X.prog X.w (upd H a ob) h' a ob) :
  Inv X pins σ (upd H a ob) { s with heap:=h',toks:=t' } :=
 I.write (x:=a) (e:=a) mu (.inl rfl) (λb q hb z=>(hs.2 b hb).trans z) he new
theorem qX {P:Program}{w:World}{H':Hp}{h':Heap}{kvs:List (Key×V)}{vs:List (Key×Value)}(z:kvs.length<=sizeLine)(hd:(a == sysModules)=false)(rel:KV kvs vs)(dd:h'.DictOf (B7 P w) a vs) :
  B4 P w H' h' a (.dK kvs):=⟨z,hd,vs,rel,dd⟩
theorem pK {H':Hp}{Q:Unit->Shared->Prop}(hu:A.units+1<cLine)(I:Inv X pins σ H s)(g:kc H a y v H')(ry:l0 y u)(rv:l0 v r)(h:∀s',Inv X pins σ H' s'->Q () s') :
  wpAny (model X.prog X.w) A (setItem (.ref a) u r) Q E s:=by
 rcases g with ⟨kvs,k,e,ey,l,eH⟩ | ⟨kvs,k,b,e,ey,eb,l,eH⟩
 .subst ey eH
  obtain⟨z,hd,vs,rel,dd⟩:=xk I.hok e
  have hz:vs.length<=sizeLine:=by rw[<-rel.length];exact z
  have hl:(K6 kvs k v).length<=sizeLine:=by have:=Z4 kvs k v;omega
  refine wpAny_setItem_pairs (hsz:=hz) (oh ry) dd λh' dd' hs=>h _ ?_
  have he:∃q,h'.get? a=some q:=let ⟨q,_,_,hq,_⟩:=dd';⟨q,hq⟩
  exact jv I (by rw[e];exact True.intro) hs he (qX hl hd (rel.put k rv) dd')
 .subst ey eH
  cases(show u=Value.ref b from ry)
  obtain⟨z,hd,xs,rel,dd⟩:=AG I.hok e
  have hz:xs.length<=sizeLine:=by rw[<-Paired.length rel];exact z
  have hl:(K6 kvs k v).length<=sizeLine:=by have:=Z4 kvs k v;omega
  refine wpAny_setItem_heap (hsz:=hz) (tupleKind_room_in1 hu) (lF I.hok eb) dd λh' dd' hs=>h _ ?_
  obtain⟨q,es,ep,hq,h2,h3,h4,_,h5⟩:=dd'
  refine jv I (by rw[e];exact True.intro) hs ⟨q,hq⟩ ⟨hl,hd,_,(rel.put k eb rv).keeps λc ys ec=>?_,q,es,ep,hq,h2,h3,h4,h5⟩
  rw[a9 (Ae ec e (λz=>nomatch z))]
  exact ec
end
section
variable {X:Cx}{pins:List (Addr×Obj)}{σ:St}{H:Hp}{s:Shared}{a:Addr}{kvs:List (Key×V)}{k:Key}{u:Value}{A:Around}{E:Value->Shared->Prop}
end
def zP (i:Expr):Prop:=∀ov iv,subscripted i false ov iv=operate [ov,iv] (getItem ov iv)
theorem vo {prog:Program}{w:World}{A:Around}{E:Value->Shared->Prop}{s:Shared}{env:Env}{value slice:Expr}{pos:Pos}{T id:String}{Q:Value->Shared->Prop}
  (hl:typeLookup (.type T) "__getitem__" = pure (some (.builtin id))) (hs:zP slice)
  (h:wpAny (model prog w) A (eval value env) (λo s₁=>wpAny (model prog w) A (eval slice env) (λi s₂=>s₂.TypeIs o T/\wpAny (model prog w) A (getItem o i) Q E s₂) E s₁) E s) :
  wpAny (model prog w) A (eval (.Subscript value slice pos) env) Q E s:=by
 refine Subscript_ (wpAny_mono h (λo s₁ h₁=>wpAny_mono h₁ (λi s₂ h₂=>?_) λ_ _ x=>x) λ_ _ x=>x)
 obtain⟨hT,h₂⟩:=h₂
 unfold subscriptTail
 refine wpAny_bind ?_
 rw[getitemInPython_of_ne hT.not_modules]
 refine wpAny_bind (wpAny_specialOf hT hl ?_)
 have fin:wpAny (model prog w) A (subscripted slice false o i) (λr s₃=>wpAny (model prog w) A (letTemporaryGo value o r >>= λ_=>pure r) Q E s₃) E s₂:=by
  rw[hs o i]
  exact wpAny_operating (wpAny_mono h₂ (λr s₃ h₃=>wpAny_bind (wpAny_letTemporaryGo (wpAny_pure h₃))) λ_ _ x=>x)
 first
  | exact wpAny_pure (wpAny_bind fin)
  | exact wpAny_bind (wpAny_pure (wpAny_bind fin))
  | exact wpAny_bind fin
theorem kH {X:Cx}{pins:List (Addr×Obj)}{σ:St}{H:Hp}{s:Shared}{a:Addr}{y:V}{o:Option V}(I:Inv X pins σ H s)(g:cS H a y o):s.TypeIs (.ref a) "dict":=by
 rcases g with ⟨kvs,k,e,_,_⟩ | ⟨kvs,k,b,e,_,_,_⟩
 .obtain⟨_,_,vs,_,dd⟩:=rM I.hok e
  exact dd.typeIs
 .obtain⟨_,_,xs,_,dd⟩:=tS I.hok e
  exact dd.typeIs
def G2 (td ty:TE):TE:=λσ H Q=>td σ H λx H1=>ty σ H1 λy H2=>∃a v,x = .ref a/\cS H2 a y (some v)/\Q v H2
def qU (td ty tv:TE):TS:=λD σ H=>tv σ H λv H1=>td σ H1 λx H2=>ty σ H2 λy H3=>∃a H4,x = .ref a/\kc H3 a y v H4/\D.nx σ H4
section
variable {X:Cx}{o i e value:Expr}{pos pos' tpos:Pos}{td ty tv:TE}
theorem B8 (hu:X.A.units+1<cLine)(ho:PE X o td)(hi:PE X i ty)(hs:zP i):PE X (.Subscript o i pos) (G2 td ty):=by
 intro pins s σ H Q I h
 refine vo PySem.F.slot_dict_getitem.lookup hs (thn (ho pins s σ H _ I h) λu s1 ⟨x,H1,I1,rx,q1⟩=>thn (hi pins s1 σ H1 _ I1 q1) λiv s2 ⟨y,H2,I2,ry,a,v,ex,g,q2⟩=>?_)
 subst ex
 obtain rfl:u=Value.ref a:=rx
 exact⟨kH I2 g,pN hu I2 g ry λw' s3 I3 rw'=>⟨v,H2,I3,rw',q2⟩⟩
theorem nJ (hu:X.A.units+1<cLine)(ho:PE X o td)(hi:PE X i ty)(hv:PE X value tv)(hs:swapsWith value (some (.Subscript o i pos')) pos.line X.env=pure false) :
  PS X (.Assign [.Subscript o i pos'] value pos) (qU td ty tv):=by
 intro pins s σ H D I h
 refine wpAny_Assign_Subscript (thn (hv pins s σ H _ I h) λr s1 ⟨v,H1,I1,rv,q1⟩=>thn (ho pins s1 σ H1 _ I1 q1) λu s2 ⟨x,H2,I2,rx,q2⟩=>thn (hi pins s2 σ H2 _ I2 q2) λiv s3 ⟨y,H3,I3,ry,a,H4,ex,g,q3⟩=>?_) hs
 subst ex
 obtain rfl:u=Value.ref a:=rx
 exact pK hu I3 g ry rv λs4 I4=>⟨σ,H4,I4,q3⟩
end
theorem rf {P:Program}{w:World}{H:Hp}(h:Heap)(hb:sysModules<h.objs.size):B4 P w H (h.push { cls:=.type "dict",data:=.dict #[] }) h.objs.size (.dK []) :=
 ⟨Nat.zero_le _,beq_eq_false_iff_ne.mpr (Ne.symm (Nat.ne_of_lt hb)),[],.nil,Heap.DictOf.new h⟩
section
variable {X:Cx}{pos:Pos}
end
def lS:List (TE×TE)->St->Hp->(List (V×V)->Hp->Prop)->Prop
 | [],_,H,Q=>Q [] H
 | (tk,tv)::r,σ,H,Q=>tk σ H λx H1=>tv σ H1 λy H2=>lS r σ H2 λps H3=>Q ((x,y)::ps) H3
abbrev VV:List (V×V)->List (Value×Value)->Prop:=Paired λp q=>l0 p.1 q.1/\l0 p.2 q.2
def PPs (X:Cx)(pos:Pos)(keys:List (Option Expr))(values:List Expr)(trs:List (TE×TE)):Prop :=
 ∀(pins:List (Addr×Obj)) (s:Shared) (σ:St) (H:Hp) (Q:List (V×V)->Hp->Prop),Inv X pins σ H s->lS trs σ H Q ->
  wpAny (model X.prog X.w) X.A (evalPairs (pairTrees keys values X.env pos)) (λvs s'=>∃ps H',Inv X pins σ H' s'/\VV ps vs/\Q ps H') X.xe s
theorem vW {X:Cx}{pos:Pos}:PPs X pos [] [] []:=λpins s σ H Q I h=>pairTrees_nil_walk ⟨[],H,I,.nil,h⟩
theorem bZ {X:Cx}{pos:Pos}{k v:Expr}{ks:List (Option Expr)}{vs:List Expr}{tk tv:TE}{trs:List (TE×TE)}(hk:PE X k tk)(hv:PE X v tv)(hr:PPs X pos ks vs trs) :
  PPs X pos (some k::ks) (v::vs) ((tk,tv)::trs):=λpins s σ H Q I h =>
 pairTrees_cons_walk (thn (hk pins s σ H _ I h) λu s1 ⟨x,H1,I1,rx,q1⟩=>thn (hv pins s1 σ H1 _ I1 q1) λw2 s2 ⟨y,H2,I2,ry,q2⟩ =>
  thn (hr pins s2 σ H2 _ I2 q2) λws s3 ⟨ps,H3,I3,rel,q3⟩=>⟨(x,y)::ps,H3,I3,.cons ⟨rx,ry⟩ rel,q3⟩)
def dg (kvs more:List (Key×V)):List (Key×V):=more.foldl (λacc kv=>K6 acc kv.1 kv.2) kvs
theorem KV.merge:∀{more:List (Key×V)} {rs:List (Key×Value)} {kvs:List (Key×V)} {vs:List (Key×Value)},KV more rs->KV kvs vs->KV (dg kvs more) (merged vs rs):=by
 intro more rs kvs vs r
 unfold KV at r
 induction r generalizing kvs vs with
 | nil=>intro q;exact q
 | @cons p q ps qs h t ih =>
  intro r0
  have e:KV (K6 kvs p.1 p.2) (stored vs q.1 q.2):=by
   have:=r0.put p.1 h.2
   rw[<-h.1];exact this
  exact ih e
theorem aJ:∀(more kvs:List (Key×V)),(dg kvs more).length<=kvs.length+more.length
 | [],kvs=>by show kvs.length<=kvs.length+0;omega
 | p::r,kvs=>by
  have h1:=aJ r (K6 kvs p.1 p.2)
  have h2:=Z4 kvs p.1 p.2
  show(dg (K6 kvs p.1 p.2) r).length<=_
  rw[List.length_cons];omega
theorem fc {P:Program}{w:World}:∀{kvs:List (Key×V)} {ws:List (Value×Value)},VV (kvs.map λkv=>(kV kv.1,kv.2)) ws->∃rs,Carries (B7 P w) ws rs/\KV kvs rs
 | [],_,r=>by rw[List.map_nil]at r;cases r;exact⟨[],True.intro,.nil⟩
 | p::kvs,_,r=>by
  rw[List.map_cons]at r
  cases r with
  | @cons a b as bs h t =>
   obtain⟨rs,c,q⟩:=fc (P:=P) (w:=w) t
   obtain⟨b1,b2⟩:=b
   exact⟨(p.1,b2)::rs,⟨oh h.1,rfl,c⟩,.cons ⟨rfl,h.2⟩ q⟩
def xA (trs:List (TE×TE)):TE:=λσ H Q=>∀p,H p=none->lS trs σ (upd H p (.dK [])) λps H2=>H2 p=some (.dK [])/\∃kvs:List (Key×V),ps=kvs.map (λkv=>(kV kv.1,kv.2))/\kvs.length<=15/\Q (.ref p) (upd H2 p (.dK (dg [] kvs)))
theorem vQ {X:Cx}{pos:Pos}{keys:List (Option Expr)}{values:List Expr}{trs:List (TE×TE)}(h:PPs X pos keys values trs)(hall:keys.all (·.isSome)=true)(hl:keys.length=values.length)(h0:keys≠[])
  (h15:keys.length<=15):PE X (.Dict keys values pos) (xA trs):=by
 intro pins s σ H Q I q
 have hn:=I.hok.fresh (Nat.le_refl s.heap.objs.size)
 have I1:=I.laid (a:=s.heap.objs.size) (o:=.dK []) (h':=s.heap.push { cls:=.type "dict",data:=.dict #[] }) (t':=s.toks) (λ_ _ q=>Heap.get?_push_of_some _ q) (Nat.le_refl _) (rf s.heap I.big)
 refine wpAny_Dict_walk (knd:=B7 X.prog X.w) hall hl h0 h15 (thn (h pins _ σ _ _ I1 (q _ hn)) λws s2 ⟨ps,H2,I2,rel,e,kvs,ep,lk,q2⟩=>?_)
 subst ep
 obtain⟨rs,c,rk⟩:=fc (P:=X.prog) (w:=X.w) rel
 obtain⟨z,hd,vs0,r0,dd⟩:=xk I2.hok e
 cases r0
 refine⟨rs,c,dd,λh' dd' hs=>⟨.ref s.heap.objs.size,_,?_,rfl,q2⟩⟩
 have hz:(dg [] kvs).length<=sizeLine:=by
  have h1:=aJ kvs []
  rw[List.length_nil]at h1
  rw[sizeLine_eq];omega
 have he:∃q,h'.get? s.heap.objs.size=some q:=let ⟨q,_,_,hq,_⟩:=dd';⟨q,hq⟩
 exact jv I2 (by rw[e];exact True.intro) hs he (qX hz hd (rk.merge .nil) dd')
section
variable {X:Cx}{pins:List (Addr×Obj)}{σ:St}{H:Hp}{s:Shared}{a:Addr}{y d:V}{u r:Value}{o:Option V}{A:Around}{E:Value->Shared->Prop}
end
section
variable {X:Cx}{o e f:Expr}{apos cpos:Pos}{td ty tx:TE}
end
section
variable {X:Cx}{pins:List (Addr×Obj)}{σ:St}{H:Hp}{s:Shared}{a:Addr}{kvs:List (Key×V)}{A:Around}{E:Value->Shared->Prop}
end
section
variable {X:Cx}{pins:List (Addr×Obj)}{σ:St}{H:Hp}{s:Shared}{a:Addr}{y:V}{u:Value}{A:Around}{E:Value->Shared->Prop}
end
end
end L2
namespace Att
open PySem PySem.W PySem.Calls PyProof.Rows
theorem dP {P:Params}{h:Heap}:∀(ns:List Int) (vs:List Value),WellAll P h vs (ns.map WData.int)->IntsAre vs ns:=by
 intro ns
 induction ns with
 | nil =>
  intro vs w
  rw[List.map_nil]at w
  cases w
  exact .nil
 | cons n ns ih =>
  intro vs w
  rw[List.map_cons]at w
  cases w with
  | cons a b =>
   cases a
   exact .cons _ _ (ih _ b)
theorem oR {l:OpenLaw}{n:Nat}(hn:l.most=some n){P:Params}{h:Heap}{args:List WData}{vals:List Value}
  (hpre:l.row.toRowW.claim.pre args=true) (hwl:WellAll P h vals args) :
  ∃a vs ns,vals=[Value.ref a]/\args=[WData.list (ns.map WData.int)]/\h.get? a=some { cls:=.type "list",data:=.seq vs.toArray }/\IntsAre vs ns/\ns.length<=n:=by
 have hsh:WShape.hasAll [] args [.list .int]=true:=(pre_splitW hpre).1
 have hc:l.pre.holds [] { args:=args }=true:=(pre_splitW hpre).2
 obtain⟨d,r,rfl,h1,h2⟩:=hasAllW_cons hsh
 obtain rfl:=hasAllW_nil h2
 obtain⟨xs,rfl,h3⟩:=hasW_list h1
 obtain⟨ns,rfl⟩:=items_int h3
 have hlen:ns.length<=n:=by
  unfold OpenLaw.pre at hc
  have h4:(WTm.not (.lt (.lit (.int (n:Int))) (.len (.arg 0)))).holds [] { args:=[.list (ns.map .int)] }=true:=by
   have h4:=(holds_andW hc).1
   rw[hn]at h4
   exact h4
  have h5:=condW_of h4 (w_not (w_lt w_lit (w_len_list (w_arg rfl))))
  rw[List.length_map]at h5
  refine Nat.le_of_not_lt λq=>?_
  have q':(n:Int)<((ns.length:Nat):Int):=by omega
  first
   | (rw[decide_eq_true q']at h5;exact absurd h5 (by decide))
   | (simp at h5;omega)
 cases hwl with
 | cons w1 w2 =>
  cases w2
  cases w1 with
  | list ho hall=>exact⟨_,_,ns,rfl,rfl,ho,dP ns _ hall,hlen⟩
theorem pP (l:OpenLaw)(args:List WData):l.row.toRowW.claim.post args (.bool true) args=true :=
 postW_of (r:=l.row.toRowW) (X:=(true == true))
  (show WShape.has [] (.bool true) .bool=true by first | rfl | decide | simp[WShape.has,WShape.arms,WShape.armsAll])
  (show(WTm.eq .res (.lit (.bool true))).value [] { args:=args,res:=some (.bool true),after:=args }=some (.bool (true == true)) from w_eq_bool (w_res rfl) w_lit) rfl
theorem attach_call {l:OpenLaw}{n:Nat}{q:Program}{loose:List Str}{XP:(Str->Option Value)->Heap->Prop}{YP:World->Heap->Prop}{d:DefRec}
  (hn:l.most=some n) (hdf:d.params.defaults=[])
  (call:∀(w:World) (s₀ s₁:Shared) (mg mb:Str->Option Value) (fa:Addr) (o:Obj) (pm cd doc:Value) (a:Addr) (vs:List Value) (ns:List Int),
   Ground q loose [] XP w s₀ mg mb s₁.heap->YP w s₁.heap ->
   s₁.heap.get? fa=some o->o.data = .func (docDef d.name d.params d.body d.scope pm cd doc)->s₁.heap.CodeRec cd d.name->mg d.name=some (.ref fa) ->
   s₁.heap.get? a=some { cls:=.type "list",data:=.seq vs.toArray }->IntsAre vs ns->ns.length<=n->s₁.gens = #[] ->
   codeAny (model l.prog w) callerA (.call (.ref fa) ⟨[.ref a],[]⟩) (λr s'=>r = .ok (.ret (.bool true))/\OldK s₁.heap s'.heap/\s'.os=s₁.os/\AllBare s'.gens) s₁) :
  WalkO q loose XP YP l.row.toRowW d [] (λf vs=>PySem.call f vs):=by
 intro w s₀ s₁ mg mb G Y fa o pm cd doc dV kV ho hd hcd hD hmg hg args vals as hpre hlay hrd hwl hlo
 obtain rfl:dV = .none:=Dflts.none hD hdf
 obtain rfl:kV = .none:=Dflts.noKw hD
 obtain⟨a,vs,ns,rfl,rfl,hobj,hints,hlen⟩:=oR hn hpre hwl
 refine enter_call (codeAny_mono (call w s₀ s₁ mg mb fa o pm cd doc a vs ns G Y ho (fd_plain hd) hcd hmg hobj hints hlen hg) λr s' hq=>?_)
 obtain⟨rfl,h2,h3,h4⟩:=hq
 exact⟨.inl ⟨.bool true,.bool true,[],rfl,λ_=>rfl,.bool true,pP l _,λ_=>⟨List.Pairwise.nil,λ_ hm=>(nomatch hm)⟩⟩,h2,h3,h4⟩
section
variable {prog:Program}{w:World}{A:Around}{E:Value->Shared->Prop}{s:Shared}{K:Frag}
end
end Att
namespace L2
open PySem PySem.Spec PyProof.Rows
section
theorem cT:∀{vs:List Value} {ns:List Int},IntsAre vs ns->i6 (ns.map V.int) vs
 | _,_,.nil=>.nil
 | _,_,.cons n t h=>.cons ⟨t,rfl⟩ (cT h)
end
section
end
end L2
/- THE LAST THEOREM (shape;LID,My.* are yours):
   My.Adr: a structure of the addresses that your layer names (classes,functions);My.Txt K t: a structure (Prop) of the equations over K;
   My.txt_mk:{K} {implicit addresses ..} (e1:nsIn K mainGlobals "law" = some (some (.ref f))) (e2:K.lookup f=some ⟨oc,od,.func (fnOf "law" "law" params body scope dV kV doc pm an cdv ct),sl⟩) (e3:codeIn K cdv "law" = true) ..:∃t,My.Txt K t
set_option maxRecDepth 100000 in
set_option maxHeartbeats 0 in
theorem PySem.Challenge.cw_LID_holds:PySem.Challenge.rw_LID.Holds:=by
 w_on;o_law;k_head;(case hw=>w_witness2)
 k_fill
 refine L2.walk_of (l:=PySem.Challenge.rw_LID) (n:=63) (k:=40) (x:="script") (CX:=λw=>..) (sp:=λ_=>My.sp_law) rfl (by decide) rfl ⟨rfl,by decide,by decide⟩ (λw h Y=>PySem.W.kIn_of Y) ?F ?S ?C
 case F =>
  intro w mg fa h KX G hmg
  have T:∃t,My.Txt (L2.KOf KX) t:=by
   dsimp only[L2.KOf]                          -- K must stand as «<heap const> w.params» for k_is
   refine' My.txt_mk ?e1 ?e2 ?e3 ..
   (case e1=>PySem.W.k_is)                    -- in the order: a name -> its address -> its object -> its parts
   (case e2=>PySem.W.k_is)
   ..
  obtain⟨t,T⟩:=T
  have e0:=hmg.symm.trans (PySem.W.mg_of KX G T.law)
  cases e0                                       -- fa is the law's own address
  exact⟨_,λs u=>.of_eq rfl,λbase kb nb=>My.law_fn T kb nb⟩     -- if «.of_eq rfl» comes too early: refine' ⟨_,?b,λbase kb nb=>My.law_fn T kb nb⟩;exact λs u=>.of_eq rfl
 case S=>exact λw H a ns hl hO hS=>..
 case C=>exact ..
(the tactic k_is has no namespace: write k_is) -/
namespace L2
open PySem PySem.Spec PyProof.Rows
def defArgs (s:Stmt):Arguments:=match s with
 | .FunctionDef _ a _ _ _ _ _ _ _ _=>a
 | _=>{ posonlyargs:=[],args:=[],vararg:=none,kwonlyargs:=[],kw_defaults:=[],kwarg:=none,defaults:=[] }
def defBody (s:Stmt):List Stmt:=match s with
 | .FunctionDef _ _ b _ _ _ _ _ _ _=>b
 | _=>[]
def defScope (s:Stmt):Scope:=match s with
 | .FunctionDef _ _ _ _ _ _ sc _ _ _=>sc
 | _=>{ kind:=.function,names:=[],isGenerator:=false,isCoroutine:=false }
abbrev CX0:CXT:=λ_ _ _ _ _ _=>False
abbrev E0:XK:=λ_ _ _=>False
theorem Bc {X:Cx}:mV CX0 X E0:=λ_ _ _ _ _ _ _ h=>h.elim
structure Fun (K:Fg) (x qual:Str) (st:Stmt) (f:Addr) (fd:FuncData):Prop where
 ex:∃(oc:Value) (od:Option Addr) (kV doc pm:Value) (an:Option Addr) (cdv ct:Value) (osl:Array (Option Value)),
  fd=PySem.W.fnOf x qual (defArgs st) (defBody st) (defScope st) .none kV doc pm an cdv ct/\K.lookup f=some ⟨oc,od,.func fd,osl⟩/\PySem.W.codeIn K cdv qual=true
 kp:PySem.W.keepIn K (.ref f)=true
section
variable {P:Program}{w:World}{K:Fg}{mg:Str->Option Value}{base:Heap}
theorem Fun.ok {x qual:Str}{st:Stmt}{f:Addr}{fd:FuncData}{N ps:List Str}{k:Nat}{sp:Sp}(F:Fun K x qual st f fd)(S:FnScope N ps (defScope st))(len:∀vs H Q E,sp vs H Q E->vs.length=ps.length)
  (hbody:∀(cdv:Value) (A:Around) (outer:List Env) (s:Shared) (H:Hp) (vs:List V) (Q:VK) (E:XK),Room k (A.deeper (envOfC qual (defScope st) s.heap.objs.size f cdv))->sp vs H Q E ->
   ∃t,PSs (M5 CX0 P w K mg base N qual (defScope st) f cdv A outer s H E).nox (defBody st) t/\t { nx:=λ_ H'=>Q .non H',rt:=Q } (B5 N vs) H):FnOk P w K mg base CX0 (k+1) f fd ps sp:=by
 obtain⟨oc,od,kV,doc,pm,an,cdv,ct,osl,rfl,lk,hcd⟩:=F.ex
 refine xG lk hcd S len λA outer s H vs Q E hr hsp=>?_
 obtain⟨t,h,q⟩:=hbody cdv A outer s H vs Q E hr hsp
 exact⟨t,h.nox,q⟩
theorem Fun.binds {x qual:Str}{st:Stmt}{f:Addr}{fd:FuncData}{ps:List Str}(F:Fun K x qual st f fd)
  (h:∀(kV doc pm:Value) (an:Option Addr) (cdv ct:Value) (us:List Value),us.length=ps.length->bindArgs (PySem.W.fnOf x qual (defArgs st) (defBody st) (defScope st) .none kV doc pm an cdv ct) ⟨us,[]⟩=pure (ps.zip us)):gU K fd ps []:=by
 obtain⟨oc,od,kV,doc,pm,an,cdv,ct,osl,rfl,lk,hcd⟩:=F.ex
 exact .all (h kV doc pm an cdv ct)
theorem fun_mk {x qual:Str}{st:Stmt}{f:Addr}{oc:Value}{od an:Option Addr}{osl:Array (Option Value)}{kV doc pm cdv ct:Value}(l:K.lookup f=some ⟨oc,od,.func (PySem.W.fnOf x qual (defArgs st) (defBody st) (defScope st) .none kV doc pm an cdv ct),osl⟩)
  (c:PySem.W.codeIn K cdv qual=true) (k:PySem.W.keepIn K (.ref f)=true):Fun K x qual st f (PySem.W.fnOf x qual (defArgs st) (defBody st) (defScope st) .none kV doc pm an cdv ct):=⟨⟨oc,od,kV,doc,pm,an,cdv,ct,osl,rfl,l,c⟩,k⟩
end
theorem zV {A:Around}{k:Nat}(hr:Room k A):A.units+1<cLine:=Nat.lt_of_le_of_lt (Nat.add_le_add_left (by decide:1<=64) _) hr.units
theorem P6 {n:Nat}(h:n<=1000):n<sizeLine:=Nat.lt_of_le_of_lt h (by decide)
section
variable {X:Cx}
theorem pv (i:Nat){x:Str}{pos:Pos}(hN:X.N[i]? = some x:=by rfl)(hv:Vis X.env.scope x:=by first | exact Or.inl rfl | exact Or.inr (Or.inl rfl) | exact Or.inr (Or.inr rfl))(hd:(x == ("__debug__":Str))=false:=by decide)
  (hcd:(x == ("__classdict__":Str))=false:=by decide):PE X (.Name x pos) (l8 i):=D4 hN hv hd hcd
end
theorem qO {A B:Prop}(h:B):if false=true then A else B:=by
 rw[if_neg Bool.false_ne_true]
 exact h
theorem Az {A B:Prop}(h:A):if true=true then A else B:=by
 rw[if_pos rfl]
 exact h
theorem jO {c A B:Prop}[Decidable c](h1:c->A)(h2:¬c->B):if c then A else B:=by
 by_cases h:c
 .rw[if_pos h]
  exact h1 h
 .rw[if_neg h]
  exact h2 h
def d8 (H H':Hp):Prop:=∀b o,H b=some o->H' b=some o
theorem d8.refl (H:Hp):d8 H H:=λ_ _ h=>h
theorem d8.trans {H H1 H2:Hp}(a:d8 H H1)(b:d8 H1 H2):d8 H H2:=λc o h=>b c o (a c o h)
section
variable {X:Cx}
end
section
variable {κ:Type}[DecidableEq κ]
end
end L2
set_option maxHeartbeats 4000000
namespace L2
open PySem PySem.Spec PyProof.Rows
section
def G9 (f:Str->Addr):List (Str×NameKind)->List (Str×Addr)->List (Str×Addr)
 | [],acc=>acc
 | (n,kd)::r,acc=>G9 f r (if (kd == NameKind.free)=true then(n,f n)::acc else acc)
theorem M4 {scope:Scope}{env:Env}{f:Str->Addr}(h:∀y∈scope.names,y.2 = .free->cellOf env y.1=pure (f y.1)) :
  closureFor scope env=pure (G9 f scope.names []):=by
 have key:∀(l:List (Str×NameKind)) (acc:List (Str×Addr)),(∀y∈l,y.2 = .free->cellOf env y.1=pure (f y.1)) ->
   (forIn l acc (λ(x:Str×NameKind) (cs:List (Str×Addr))=>if (x.2 == NameKind.free)=true then(do let c <-cellOf env x.1;pure (ForInStep.yield ((x.1,c)::cs))) else pure (ForInStep.yield cs)):Sem (List (Str×Addr)))=pure (G9 f l acc):=by
  intro l
  induction l with
  | nil=>intro acc _;rfl
  | cons y r ih =>
   intro acc hy
   obtain⟨n,kd⟩:=y
   rw[List.forIn_cons]
   by_cases hk:(kd == NameKind.free)=true
   .have e:kd = .free:=by simpa using hk
    have hc:=hy (n,kd) List.mem_cons_self e
    simp only[hk,if_true]
    dsimp only at hc
    rw[hc]
    show(forIn r ((n,f n)::acc) _:Sem _)=_
    rw[ih _ λz hz=>hy z (List.mem_cons_of_mem _ hz)]
    simp only[G9,hk,if_true]
   .simp only[hk,if_false]
    show(forIn r acc _:Sem _)=_
    rw[ih _ λz hz=>hy z (List.mem_cons_of_mem _ hz)]
    simp only[G9,hk,if_false]
    rfl
 have:=key scope.names [] h
 unfold closureFor
 show(forIn scope.names [] _ >>= λr=>pure r)=_
 rw[show(forIn scope.names ([]:List (Str×Addr)) _:Sem _)=_ from this]
 rfl
theorem P1 {f:Str->Addr}:∀(l:List (Str×NameKind)) (acc:List (Str×Addr)) {x:Str} {c:Addr},(G9 f l acc).lookup x=some c->((x,NameKind.free)∈l/\c=f x)\/acc.lookup x=some c
 | [],_,_,_,h=>.inr h
 | (n,kd)::r,acc,x,c,h=>by
  rw[G9]at h
  rcases P1 r _ h with ⟨h1,h2⟩ | h1
  .exact .inl ⟨List.mem_cons_of_mem _ h1,h2⟩
  .by_cases hk:(kd == NameKind.free)=true
   .rw[if_pos hk]at h1
    have e:kd = .free:=by simpa using hk
    subst e
    by_cases hx:x=n
    .subst hx
     simp at h1
     exact .inl ⟨List.mem_cons_self,h1.symm⟩
    .have hb:(x == n)=false:=beq_eq_false_iff_ne.mpr hx
     rw[List.lookup_cons,hb]at h1
     exact .inr h1
   .rw[if_neg hk]at h1
    exact .inr h1
theorem aq {f:Str->Addr}:∀(l:List (Str×NameKind)) (acc:List (Str×Addr)) {x:Str},((x,NameKind.free)∈l\/acc.lookup x=some (f x))->(G9 f l acc).lookup x=some (f x)
 | [],_,_,h=>by
  rcases h with h | h
  .exact absurd h (by simp)
  .exact h
 | (n,kd)::r,acc,x,h=>by
  rw[G9]
  refine aq r _ ?_
  by_cases hk:(kd == NameKind.free)=true
  .rw[if_pos hk]
   have e:kd = .free:=by simpa using hk
   subst e
   by_cases hx:x=n
   .subst hx
    exact .inr (by simp)
   .have hb:(x == n)=false:=beq_eq_false_iff_ne.mpr hx
    rcases h with h | h
    .rcases List.mem_cons.mp h with z | z
     .cases z;exact absurd rfl hx
     .exact .inl z
    .exact .inr (by rw[List.lookup_cons,hb];exact h)
  .rw[if_neg hk]
   rcases h with h | h
   .rcases List.mem_cons.mp h with z | z
    .cases z;exact absurd rfl hk
    .exact .inl z
   .exact .inr h
theorem dD {scope:Scope}{env:Env}{x:Str}(hn:∀y∈scope.names,y.2 ≠ .cell)(h:(relabel scope env).names.lookup x=some .cell\/(relabel scope env).names.lookup x=some .free):(x,NameKind.free)∈scope.names:=by
 have go:∀kd,(relabel scope env).names.lookup x=some kd->kd = .cell\/kd = .free->(x,NameKind.free)∈scope.names:=by
  intro kd h hk
  have hm:=PySem.mem_of_lookup h
  unfold relabel at hm
  obtain⟨⟨n,k0⟩,hy,e⟩:=List.mem_map.mp hm
  by_cases hc:(k0 == NameKind.free&&env.scope.kind == .function&&env.kindOf n == some .cell)=true
  .simp only[hc,if_true]at e
   cases e
   have:k0 = .free:=by
    simp only[Bool.and_eq_true]at hc
    simpa using hc.1.1
   subst this
   exact hy
  .simp only[hc,if_false]at e
   cases e
   rcases hk with r | r
   .subst r;exact absurd rfl (hn _ hy)
   .subst r;exact hy
 rcases h with h | h
 .exact go _ h (.inl rfl)
 .exact go _ h (.inr rfl)
theorem az {φ:Str×NameKind->Str×NameKind}(hφ:∀n k,φ (n,k)=(n,k)\/(k = .free /\ φ (n,k)=(n,.cell))):∀{names:List (Str×NameKind)} {x:Str},names.lookup x=some .free->(names.map φ).lookup x=some .cell\/(names.map φ).lookup x=some .free
 | [],_,h=>by simp at h
 | (n,k)::r,x,h=>by
  have ih:=@az φ hφ r x
  rw[List.map_cons]
  cases hx:x == n with
  | true =>
   simp only[List.lookup_cons,hx]at h
   cases h
   rcases hφ n .free with e | ⟨_,e⟩
   .rw[e,List.lookup_cons,hx];exact .inr rfl
   .rw[e,List.lookup_cons,hx];exact .inl rfl
  | false =>
   simp only[List.lookup_cons,hx]at h
   rcases hφ n k with e | ⟨_,e⟩
   .rw[e,List.lookup_cons,hx];exact ih h
   .rw[e,List.lookup_cons,hx];exact ih h
theorem bK {scope:Scope}{env:Env}{x:Str}(h:scope.names.lookup x=some .free):(relabel scope env).names.lookup x=some .cell\/(relabel scope env).names.lookup x=some .free:=by
 unfold relabel
 refine az (λn k=>?_) h
 by_cases hc:(k == NameKind.free&&env.scope.kind == .function&&env.kindOf n == some .cell)=true
 .refine .inr ⟨?_,if_pos hc⟩
  simp only[Bool.and_eq_true]at hc
  simpa using hc.1.1
 .exact .inl (if_neg hc)
section
variable {prog:Program}{w:World}{A:Around}{R:Result->Shared->Prop}{s:Shared}
theorem bM {elt target iter:Expr}{ifs:List Expr}{scope:Scope}{pos:Pos}{it acc:Value}{env:Env}(I:Nat->Shared->Prop)
  (turn:∀n s,I n s->wpAny (model prog w) A (pyNext it) (λr s₁=>match r with
   | none=>R (.ok .next) s₁
   | some v=>wpAny (model prog w) A (letOwnedTupleGo target it v) (λ_ s₀=>wpAny (model prog w) A (assign target env v) (λ_ s₂ =>
     wpAny (model prog w) A (forIn ifs true λc r=>if r=true then do let ok <-isTrue c env (eval c env);pure (ForInStep.yield ok) else pure (ForInStep.yield r)) (λok s₃ =>
      if ok=true then wpAny (model prog w) A (eval elt env) (λx s₄ =>
       wpAny (model prog w) A (call (.builtin "list.append") [acc,x]) (λ_ s₅=>∃m,m<n/\I m s₅) (λ_ _=>False) s₄) (λ_ _=>False) s₃
      else ∃m,m<n/\I m s₃) (λ_ _=>False) s₂) (λ_ _=>False) s₀) (λ_ _=>False) s₁) (λ_ _=>False) s)
  (n:Nat) (h:I n s) :
  codeAny (model prog w) A (.compLoop (.ListComp elt [⟨target,iter,ifs,0⟩] scope pos) 0 it acc env) R s:=by
 refine codeAny_loop rfl I (λn s hI=>?_) n h
 show wpAny _ A ((compTurn (.ListComp elt [⟨target,iter,ifs,0⟩] scope pos) 0 it acc env).onRaise (λx=>do noteFrame x env;theTreesLotGoes x)) _ _ s
 refine wpAny_noted ?_
 rw[compTurn_list]
 refine wpAny_bind (wpAny_standAt (wpAny_bind (wpAny_mono (turn n s hI) (λr s₁ h₁=>?_) λ_ _ h'=>h'.elim)))
 cases r with
 | none=>exact wpAny_pure h₁
 | some v =>
  refine wpAny_bind (wpAny_mono h₁ (λ_ s₀ h₀=>?_) λ_ _ h'=>h'.elim)
  refine wpAny_bind (wpAny_mono h₀ (λ_ s₂ h₂=>wpAny_bind (wpAny_mono h₂ (λok s₃ h₃=>?_) λ_ _ h'=>h'.elim)) λ_ _ h'=>h'.elim)
  cases ok with
  | false=>exact wpAny_pure ⟨rfl,h₃⟩
  | true =>
   exact wpAny_bind (wpAny_bind (wpAny_mono h₃ (λx s₄ h₄=>wpAny_bind (wpAny_mono h₄ (λ_ s₅ h₅=>wpAny_pure (wpAny_pure ⟨rfl,h₅⟩)) λ_ _ h'=>h'.elim)) λ_ _ h'=>h'.elim))
end
def ay (k:Nat)(cap:List Nat)(σ:St):St:=List.replicate k none++cap.map λj=>(σ[j]?).join
structure Caps (ON:List Str) (osc:Scope) (N:List Str) (k:Nat) (cap:List Nat) (scope:Scope):Prop where
 kind:scope.kind = .function
 nocell:∀y∈scope.names,y.2 ≠ .cell
 loc:∀y∈scope.names,y.2 = .local->scope.names.lookup y.1=some .local
 free:∀y∈scope.names,y.2 = .free->osc.names.lookup y.1=some .cell\/osc.names.lookup y.1=some .free
 len:N.length=k+cap.length
 capx:(cap.map λj=>ON[j]?)=(N.drop k).map some
 capf:∀x∈N.drop k,scope.names.lookup x=some .free
def cxC (X:Cx)(N:List Str)(scope:Scope)(cl:List (Str×Addr))(C:Addr)(ex:List Addr)(pins:List (Addr×Obj))(s₀:Shared)(H₀:Hp):Cx where
 prog:=X.prog
 w:=X.w
 K:=X.K
 mg:=X.mg
 base:=X.base
 A:=X.A
 N:=N
 s₀:=s₀
 H₀:=H₀
 env:=compEnvC scope cl C X.env
 outer:=X.stack
 stack:=X.stack
 ex:=ex
 fn:=λ_=>false
 calm:=X.calm
 pn:=X.pn++pins
 xe:=λ_ _=>False
def PTs (X:Cx)(ifs:List Expr)(t:TT):Prop :=
 ∀(pins:List (Addr×Obj)) (s:Shared) (σ:St) (H:Hp) (Q:Bool->Hp->Prop),Inv X pins σ H s->t σ H Q ->
  wpAny (model X.prog X.w) X.A (forIn ifs true λc r=>if r=true then do let ok <-isTrue c X.env (eval c X.env);pure (ForInStep.yield ok) else pure (ForInStep.yield r)) (TP X pins σ Q) X.xe s
def AS:TT:=λ_ H Q=>Q true H
theorem ux {X:Cx}:PTs X [] AS:=λ_ _ _ H _ I h=>wpAny_tests_nil ⟨H,I,h⟩
theorem wj {X:Cx}{c:Expr}{t:TT}(h:PT X c t):PTs X [c] t:=λpins s σ H Q I q=>wpAny_tests_one (h pins s σ H Q I q)
def tLC (wi:TI)(k:Nat)(cap:List Nat)(g:TG)(tt:TT)(te:TE):TE:=λσ H Q=>wi σ H λJ H1=>∀D,H1 D=none ->
 ∃W:Nat->Nat->St->List V->Hp->Prop,(∃m,W 0 m (ay k cap σ) [] (upd H1 D (.lst [])))/\∀i m σ' acc H',W i m σ' acc H' ->
  (J.stop i H'/\Q (.ref D) H') \/
  (J.go i H'/\∀x H2,J.yld i H' x H2->g x σ' H2 λσ2 H3=>tt σ2 H3 λok H4=>if ok=true then te σ2 H4 λy H5=>H5 D=some (.lst acc)/\acc.length<sizeLine/\∃m',m'<m/\W (i+1) m' σ2 (acc++[y]) (upd H5 D (.lst (acc++[y])))
   else H4 D=some (.lst acc)/\∃m',m'<m/\W (i+1) m' σ2 acc H4)
theorem tO {X:Cx}{elt tg iter:Expr}{ifs:List Expr}{scope osc:Scope}{pos:Pos}{N:List Str}{k:Nat}{cap:List Nat}{g:TG}{tt:TT}{te:TE}{cl:List (Str×Addr)}
  {pins:List (Addr×Obj)} {σ:St} {H3:Hp} {s3:Shared} {D it:Addr} {fp:List Addr} {tn:Nat->Heap->Prop} {J:It} {Q:VK} {W:Nat->Nat->St->List V->Hp->Prop} {m0:Nat}
  (hc:X.calm=true) (hosc:X.env.scope=osc) (hcap:Caps X.N osc N k cap scope)
  (hcl:∀{x:Str} {c:Addr},cl.lookup x=some c->X.env.cells.lookup x=some c) (hhas:∀x,(x,NameKind.free)∈scope.names->∃c,cl.lookup x=some c)
  (hg:∀cl C ex pins s H,PG (cxC X N scope cl C ex pins s H) tg g)
  (ht:∀cl C ex pins s H,PTs (cxC X N scope cl C ex pins s H) ifs tt)
  (he:∀cl C ex pins s H,PE (cxC X N scope cl C ex pins s H) elt te)
  (I3:Inv X pins σ H3 s3) (hD:H3 D=some (.lst [])) (T:Turn X.prog X.w X.K tg J fp it tn) (st:tn 0 s3.heap) (f3:∀b∈fp,dS X pins H3 b) (w0:W 0 m0 (ay k cap σ) [] H3)
  (turn:∀i m σ' acc H',W i m σ' acc H'->(J.stop i H'/\Q (.ref D) H') \/
   (J.go i H'/\∀x H2,J.yld i H' x H2->g x σ' H2 λσ2 H3=>tt σ2 H3 λok H4=>if ok=true then te σ2 H4 λy H5=>H5 D=some (.lst acc)/\acc.length<sizeLine/\∃m',m'<m/\W (i+1) m' σ2 (acc++[y]) (upd H5 D (.lst (acc++[y])))
    else H4 D=some (.lst acc)/\∃m',m'<m/\W (i+1) m' σ2 acc H4)) :
  wpAny (model X.prog X.w) X.A (newFunctionEnv scope X.env.globals cl [] X.env.qual none .none (some X.env)) (λcenv s₄ =>
   codeAny (model X.prog X.w) X.A (.compStart (.ListComp elt [⟨tg,iter,ifs,0⟩] scope pos) 0 (.ref it) (.ref D) { cenv with scope:=relabel scope X.env }) (compPost (model X.prog X.w) X.A X.xe none (EP X pins σ Q) (.ref D) cenv.locals) s₄) X.xe s3:=by
 refine wpAny_newFunctionEnv hcap.nocell (by intro y hy;simp at hy) (λh₁ hns₁ hsb₁=>?_) hcap.kind
 have old:∀b o,s3.heap.get? b=some o->h₁.get? b=some o:=λb o e=>hsb₁.extBut b o (Nat.ne_of_lt (Heap.lt_size e)) (Heap.get?_push_of_some _ e)
 have neC:∀b∈fp,b≠s3.heap.objs.size:=λb hb=>by
  obtain⟨o,e,_⟩:=T.obj _ _ st b hb
  exact Nat.ne_of_lt (Heap.lt_size e)
 have nofs:∀{b:Addr},b≠X.env.locals->b ∉ X.fs->b ∉ frs X.stack:=λ{b} h1 h2 z=>(List.mem_cons.mp (I3.stkSub b z)).elim h1 h2
 have IY:Inv (cxC X N scope cl s3.heap.objs.size fp pins s3 H3) [] (ay k cap σ) H3 { s3 with heap:=h₁,toks:=s3.toks+([]:List (Str×Value)).length }:=by
  refine⟨⟨I3.ok.mod,hcap.kind,I3.ok.glob,I3.ok.blt,Nat.le_refl _,λx y c h1 h2=>I3.ok.inj x y c (hcl h1) (hcl h2),λx hx=>hhas x (dD hcap.nocell hx),λx c h=>absurd (show false=true from h) Bool.false_ne_true,I3.ok.hd,I3.ok.frames,.inl rfl,
   λb hb=>⟨neC b hb,λx c e=>(f3 b hb).2.2.2.2.1 x c (hcl e)⟩,I3.bs,Nat.le_trans I3.ok.bsz I3.sz,λb o e hb=>?_,λb hb=>nofs (f3 b hb).2.1 (f3 b hb).2.2.1,I3.stack,I3.stkFree⟩,
   rfl,I3.bare,Un.kept old,⟨_,hns₁,λi x v e1 e2 e3=>?_⟩,λx c e=>?_,I3.hok.fresh (Nat.le_refl _),λx c e=>I3.freeC x c (hcl e),λp hp=>?_,I3.hok.kept old,?_⟩
  .rcases(f3 b hb).2.2.2.1 with z | z
   .exact I3.ok.noex b o e z
   .exact absurd (Nat.lt_of_lt_of_le (Heap.lt_size e) (Nat.le_trans I3.ok.bsz z)) (Nat.lt_irrefl _)
  .by_cases hi:i<k
   .unfold ay at e2
    rw[List.getElem?_append_left (by simpa using hi),List.getElem?_replicate,if_pos hi]at e2
    cases e2
   .obtain⟨d,rfl⟩:∃d,i=k+d:=⟨i-k,by omega⟩
    unfold ay at e2
    rw[List.getElem?_append_right (by simp),List.length_replicate,Nat.add_sub_cancel_left,List.getElem?_map]at e2
    obtain⟨j,hj,hv⟩:=Option.map_eq_some_iff.mp e2
    have hσ:σ[j]? = some (some v):=by
     cases q:σ[j]? with
     | none=>rw[q]at hv;cases hv
     | some o=>rw[q]at hv;exact congrArg some hv
    have e1':(N.drop k)[d]? = some x:=by rw[List.getElem?_drop];exact e1
    have hx:X.N[j]? = some x:=by
     have z:=congrArg (λl=>l[d]?) hcap.capx
     simp only[List.getElem?_map,hj,e1',Option.map_some]at z
     exact Option.some.inj z
    have hfr:=hcap.capf x (List.mem_of_getElem? e1')
    have hfm:=PySem.mem_of_lookup hfr
    have hok:=hcap.free _ hfm rfl
    rw[<-hosc]at hok
    obtain⟨m,hn,hl⟩:=I3.loc
    obtain⟨u,r,l⟩:=hl j x v hx hσ (.inr hok)
    refine⟨u,r,?_⟩
    rcases l with ⟨hk,_⟩ | ⟨hk,c,hc1,hc2⟩
    .have hk:X.env.scope.names.lookup x=some .local:=hk
     rcases hok with z | z <;> (rw[hk]at z;cases z)
    .obtain⟨c',hc'⟩:=hhas x hfm
     have:c'=c:=Option.some.inj ((hcl hc').symm.trans hc1)
     subst this
     exact .inr ⟨bK hfr,c',hc',hc2.keeps old⟩
  .obtain⟨v,z⟩:=I3.cell x c (hcl e)
   exact⟨v,z.keeps old⟩
  .have hp:p∈(X.pn++pins)++[]:=hp
   rw[List.append_nil]at hp
   obtain⟨a1,a2,a3,a4,a5⟩:=I3.pin p hp
   exact⟨old _ _ a1,a2,Nat.ne_of_lt (Heap.lt_size a1),nofs a3 a4,a5⟩
  .show(ay k cap σ).length=N.length
   unfold ay
   rw[List.length_append,List.length_replicate,List.length_map,hcap.len]
 have stat:∀{H':Hp},(∀b∈fp,H' b=none)->∀b∈fp,dS (cxC X N scope cl s3.heap.objs.size fp pins s3 H3) [] H' b:=λ{H'} hn b hb=>by
  obtain⟨a0,a1,a2,a3,a4,a5⟩:=f3 b hb
  refine⟨hn b hb,neC b hb,nofs a1 a2,.inl hb,λx c e=>a4 x c (hcl e),λp hp=>a5 p ?_⟩
  have hp:p∈(X.pn++pins)++[]:=hp
  rwa [List.append_nil]at hp
 have loop:codeAny (model X.prog X.w) X.A (.compLoop (.ListComp elt [⟨tg,iter,ifs,0⟩] scope pos) 0 (.ref it) (.ref D) (compEnvC scope cl s3.heap.objs.size X.env))
   (compPost (model X.prog X.w) X.A X.xe none (EP X pins σ Q) (.ref D) s3.heap.objs.size) { s3 with heap:=h₁,toks:=s3.toks+([]:List (Str×Value)).length }:=by
  refine bM (λn s'=>∃i σ' acc H',Inv (cxC X N scope cl s3.heap.objs.size fp pins s3 H3) [] σ' H' s'/\tn i s'.heap/\(∀b∈fp,H' b=none)/\H' D=some (.lst acc)/\W i n σ' acc H') ?_ m0
   ⟨0,_,[],H3,IY,T.keep _ _ _ st λb _ o e=>old b o e,λb hb=>(f3 b hb).1,hD,w0⟩
  rintro n s5 ⟨i,σ5,acc,H5,I5,st5,fr5,hD5,w5⟩
  rcases turn i n σ5 acc H5 w5 with ⟨stop,q⟩ | ⟨go,step⟩
  .refine thn (T.done (cxC X N scope cl s3.heap.objs.size fp pins s3 H3) rfl rfl rfl hc i [] s5 σ5 H5 _ I5 (stat fr5) st5 stop) λr s6 ⟨hr,I6⟩=>?_
   subst hr
   obtain⟨m,hn,_⟩:=id I6.loc
   refine⟨m,hn,λh' hsb=>?_⟩
   have I7:Inv X pins σ H5 s6:=I3.call' I6.os I6.base I6.hok I6.bare λb hb=>by
    obtain⟨a0,a1,a2,a3,a4,a5⟩:=f3 b hb
    exact⟨a3,a1,a4,a5⟩
   obtain⟨g0,g1,g2,g3,g4,g5⟩:=I3.fpOk (H':=H5) (b:=s3.heap.objs.size) (Nat.le_refl _) I6.free
   exact⟨.ref D,H5,I7.turned (t':=s6.toks) (λb o hb e=>(hsb.2 b hb).trans e) g0 g1 g3 g4 g5,rfl,q⟩
  .refine thn (T.item (cxC X N scope cl s3.heap.objs.size fp pins s3 H3) rfl rfl rfl hc i [] s5 σ5 H5 _ I5 (stat fr5) st5 go) λr s6 ⟨u,hr,h6⟩=>?_
   subst hr
   refine thn h6 λ_ s7 ⟨x,H7,I7,r7,y7,st7,fr7⟩=>?_
   have I7':=I7.pinned (stat fr7) (T.obj _ _ st7)
   have keepI:∀{s':Shared} {σ':St} {H':Hp},Inv (cxC X N scope cl s3.heap.objs.size fp pins s3 H3) ([]++cL fp s7.heap) σ' H' s'->tn (i+1) s'.heap/\∀b∈fp,H' b=none:=λ{s' σ' H'} I'=>by
    refine⟨T.keep _ _ _ st7 λb hb o e=>(I'.pin (b,o) (List.mem_append_right _ (List.mem_append_right _ (M0 hb e)))).1,λb hb=>?_⟩
    obtain⟨o,e,d⟩:=T.obj _ _ st7 b hb
    exact(I'.pin (b,o) (List.mem_append_right _ (List.mem_append_right _ (M0 hb e)))).2.1
   refine thn (hg _ _ _ _ _ _ _ s7 σ5 H7 x u _ I7' r7 (step x H7 y7)) λ_ s8 ⟨σ8,H8,I8,q8⟩=>?_
   refine thn (ht _ _ _ _ _ _ _ s8 σ8 H8 _ I8 q8) λok s9 ⟨H9,I9,q9⟩=>?_
   cases ok with
   | false =>
    have q9:H9 D=some (.lst acc)/\∃m',m'<n/\W (i+1) m' σ8 acc H9:=q9
    obtain⟨hD9,m',hm,w9⟩:=q9
    obtain⟨k1,k2⟩:=keepI I9
    exact⟨m',hm,i+1,σ8,acc,H9,I9.unpinned,k1,k2,hD9,w9⟩
   | true =>
    refine thn (he _ _ _ _ _ _ _ s9 σ8 H9 _ I9 q9) λyv s10 ⟨y,H10,I10,r10,hD10,hz,m',hm,w10⟩=>?_
    refine thn (F9 (X:=cxC X N scope cl s3.heap.objs.size fp pins s3 H3) _ s10 σ8 H10 (.ref D) [y] (.ref D) [yv] (λ_ H'=>H'=upd H10 D (.lst (acc++[y]))) I10 rfl (.cons r10 .nil) ⟨D,acc,y,rfl,rfl,hD10,hz,rfl⟩)
     λ_ s11 ⟨_,H11,I11,_,e11⟩=>?_
    subst e11
    obtain⟨k1,k2⟩:=keepI I11
    exact⟨m',hm,i+1,σ8,acc++[y],_,I11.unpinned,k1,k2,b9,w10⟩
 exact codeAny_compStart_list loop (T.self X.A 0 _ _ _ (T.keep _ _ _ st λb _ o e=>old b o e) loop)
theorem An {X:Cx}{elt tg iter:Expr}{ifs:List Expr}{scope osc:Scope}{pos:Pos}{N:List Str}{k:Nat}{cap:List Nat}{wi:TI}{g:TG}{tt:TT}{te:TE}
  (hc:X.calm=true) (hosc:X.env.scope=osc) (hcap:Caps X.N osc N k cap scope) (hi:PI X tg iter wi)
  (hg:∀cl C ex pins s H,PG (cxC X N scope cl C ex pins s H) tg g)
  (ht:∀cl C ex pins s H,PTs (cxC X N scope cl C ex pins s H) ifs tt)
  (he:∀cl C ex pins s H,PE (cxC X N scope cl C ex pins s H) elt te)
  (hs:∀x,foldedSetIterable iter X.env x=pure x:=by intro _;rfl) :
  PE X (.ListComp elt [⟨tg,iter,ifs,0⟩] scope pos) (tLC wi k cap g tt te):=by
 intro pins s σ H Q I h
 have hcell:∀y∈scope.names,y.2 = .free->∃c,X.env.cells.lookup y.1=some c:=λy hy hk=>I.ok.has y.1 (by
  show X.env.scope.names.lookup y.1=_\/X.env.scope.names.lookup y.1=_
  rw[hosc];exact hcap.free y hy hk)
 let f:Str->Addr:=λx=>(X.env.cells.lookup x).getD 0
 have hf:∀y∈scope.names,y.2 = .free->X.env.cells.lookup y.1=some (f y.1):=λy hy hk=>by
  obtain⟨c,e⟩:=hcell y hy hk
  show _=some ((X.env.cells.lookup y.1).getD 0)
  rw[e];rfl
 have hclos:closureFor scope X.env=pure (G9 f scope.names []):=M4 λy hy hk=>by
  unfold cellOf
  rw[hf y hy hk]
 have hcl:∀{x:Str} {c:Addr},(G9 f scope.names []).lookup x=some c->X.env.cells.lookup x=some c:=λ{x c} e=>by
  rcases P1 _ _ e with ⟨h1,h2⟩ | h1
  .rw[h2];exact hf (x,.free) h1 rfl
  .simp at h1
 have hhas:∀x,(x,NameKind.free)∈scope.names->∃c,(G9 f scope.names []).lookup x=some c:=λx hx=>⟨_,aq _ _ (.inl hx)⟩
 generalize G9 f scope.names []=cl at hclos hcl hhas
 rw[eval_ListComp]
 refine wpAny_comprehension_free (use:=none) (cl:=cl) rfl hs hclos hcap.kind hcap.loc ?_
 refine thn (hi pins s σ H _ I h) λv s1 h1=>thn h1 λitv s2 h2=>?_
 obtain⟨it,fp,tn,J,H2,e,I2,T,st2,f2,q2⟩:=h2
 subst e
 obtain⟨W,⟨m0,w0⟩,turn⟩:=q2 s2.heap.objs.size (I2.hok.fresh (Nat.le_refl _))
 refine wpAny_newObj_type ?_
 have I3:Inv X pins σ (upd H2 s2.heap.objs.size (.lst [])) { s2 with heap:=s2.heap.push { cls:=.type "list",data:=.seq ([]:List Value).toArray } }:=I2.lnew (ys:=[]) (its:=[]) (t':=s2.toks) .nil (Nat.zero_le _)
 have lt2:∀b∈fp,b≠s2.heap.objs.size:=λb hb=>by
  obtain⟨o,e,_⟩:=T.obj _ _ st2 b hb
  exact Nat.ne_of_lt (Heap.lt_size e)
 exact tO hc hosc hcap hcl hhas hg ht he I3 b9 T (T.keep _ _ (s2.heap.push { cls:=.type "list",data:=.seq ([]:List Value).toArray }) st2 λb _ o e=>Heap.get?_push_of_some _ e) (λb hb=>⟨by rw[a9 (lt2 b hb)];exact(f2 b hb).1,(f2 b hb).2⟩) w0 turn
end
section
mutual
def a7 (K:Fg)(H:Hp):PyData->V->Prop
 | .none,v=>v = .non
 | .bool b,v=>v = .bl b
 | .int i,v=>v = .int i
 | .str x,v=>v = .str x
 | .tuple ds,v=>∃a xs,v = .ref a/\SqT K H a xs/\a6 K H ds xs
 | .list ds,v=>∃a xs,v = .ref a/\H a=some (.lst xs)/\a6 K H ds xs
 | .dict _,_=>False
def a6 (K:Fg)(H:Hp):List PyData->List V->Prop
 | [],xs=>xs=[]
 | d::ds,xs=>∃x r,xs=x::r/\a7 K H d x/\a6 K H ds r
end
section
variable {X:Cx}{pins:List (Addr×Obj)}{σ:St}{H:Hp}{s:Shared}
mutual
theorem J0 (I:Inv X pins σ H s):∀(d:PyData) (v:V) (u:Value),a7 X.K H d v->l0 v u->∃as,Reads s.heap u d as
 | .none,v,u,h,r=>by
  simp only[a7]at h;subst h;cases(show u=Value.none from r);exact⟨_,.none⟩
 | .bool b,v,u,h,r=>by
  simp only[a7]at h;subst h;cases(show u=Value.bool b from r);exact⟨_,.bool b⟩
 | .int i,v,u,h,r=>by
  simp only[a7]at h;subst h;obtain⟨t,rfl⟩:=(show ∃t,u=Value.int i t from r);exact⟨_,.int i t⟩
 | .str x,v,u,h,r=>by
  simp only[a7]at h;subst h;obtain⟨t,rfl⟩:=(show ∃t,u=Value.str x t from r);exact⟨_,.str x t⟩
 | .tuple ds,v,u,h,r=>by
  simp only[a7]at h
  obtain⟨a,xs,rfl,hq,hd⟩:=h
  cases(show u=Value.ref a from r)
  obtain⟨its,rv,ht,_⟩:=I.tuple hq
  obtain⟨o,h1,h2,n,h3⟩:=ht
  obtain⟨as,ra⟩:=Y1 I ds xs its hd rv
  exact⟨_,.tuple h1 h2 h3 ra⟩
 | .list ds,v,u,h,r=>by
  simp only[a7]at h
  obtain⟨a,xs,rfl,hq,hd⟩:=h
  cases(show u=Value.ref a from r)
  obtain⟨its,rv,ht,_⟩:=I.list (SqL.of hq)
  obtain⟨o,h1,h2,n,h3⟩:=ht.isList
  obtain⟨as,ra⟩:=Y1 I ds xs its hd rv
  exact⟨_,.list h1 h2 h3 ra⟩
 | .dict kvs,v,u,h,r=>by
  simp only[a7]at h
theorem Y1 (I:Inv X pins σ H s):∀(ds:List PyData) (xs:List V) (us:List Value),a6 X.K H ds xs->i6 xs us->∃as,ReadsAll s.heap us ds as
 | [],xs,us,h,r=>by
  simp only[a6]at h;subst h;cases r;exact⟨_,.nil⟩
 | d::ds,xs,us,h,r=>by
  simp only[a6]at h
  obtain⟨x,rr,rfl,h1,h2⟩:=h
  cases r with
  | cons r1 r2 =>
   obtain⟨as,ra⟩:=J0 I d x _ h1 r1
   obtain⟨bs,rb⟩:=Y1 I ds rr _ h2 r2
   exact⟨_,.cons ra rb⟩
end
end
structure Shw (d:PyData) (dp n:Nat):Prop where
 sh:d.showable=true
 nd:d.hasDict=false
 de:d.depth<=dp
 ln:d.shown.length<=n
theorem Shw.int {i:Int}{k:Nat}(h:i.natAbs<2 ^ k)(hk:0<k)(hk2:k<=1900):Shw (.int i) 0 (k+20):=by
 have hlog:i.natAbs.log2<1920:=by
  by_cases h0:i.natAbs=0
  .rw[h0];decide
  .have:=(Nat.log2_lt h0).mpr h
   omega
 refine⟨by simp only[PyData.showable,hlog,decide_true],by simp only[PyData.hasDict],by simp only[PyData.depth];omega,?_⟩
 have hl2:i.natAbs.log2<k:=by
  by_cases h0:i.natAbs=0
  .rw[h0];exact hk
  .exact(Nat.log2_lt h0).mpr h
 have e:=int_text_length_le hk hl2
 simp only[PyData.shown]
 rw[PySem.ofString_length]
 omega
section
variable {X:Cx}
def xI (K:Fg):List V->Hp->VK->Prop:=λxs H Q=>∃a d,xs=[.ref a]/\a7 K H d (.ref a)/\Shw d 50 16000000/\Q (.str d.shown) H
theorem pD (hg:X.A.guards=some [])(hu:X.A.units+64<cLine):D1 X (.builtin "repr") (xI X.K):=by
 intro pins s σ H xs us Q I r h
 obtain⟨a,d,rfl,hd,hs,q⟩:=h
 obtain⟨u,rfl,ru⟩:=O7 r
 cases ru
 obtain⟨as,rd⟩:=J0 I d (.ref a) (.ref a) hd rfl
 refine repr_of_reads' rd hs.sh (PyData.noDict_hsm hs.nd) hg (by have:=hs.de;omega) (λ_ _ e=>e) (λh' u tk hk=>⟨.str d.shown,H,I.kept hk,⟨u,rfl⟩,q⟩) (Nat.le_trans hs.ln (by rw[sizeLine_eq];decide))
end
end
end L2
namespace HT
open PySem PyProof.Rows
section
variable {prog:Program}{w:World}{A:Around}{E:Value->Shared->Prop}{s:Shared}
theorem getItem_tuple_whole {t sl:Addr}{items:Array Value}{vl vu:Value}{lo hi:Option Int}{Q:Value->Shared->Prop}(ht:IsTup s.heap t items)(hs:s.heap.IsSliceOf sl vl vu .none)(pl:IsPart vl lo)(pu:IsPart vu hi)
  (h0:sIx items.size 0 lo=0) (h1:sIx items.size items.size hi=items.size) (h:Q (.ref t) s):wpAny (model prog w) A (getItem (.ref t) (.ref sl)) Q E s:=by
 obtain⟨os,hos,hcs,hds⟩:=id hs
 have hTs:s.TypeIs (.ref sl) "slice":=⟨os,hos,hcs⟩
 unfold getItem
 try with_reducible refine wpAny_holding ?_
 first | refine wpAny_bind (wpAny_pure ?_) | skip
 refine wpAny_bind (wpAny_sequenceKey ht.typeIs (by decide) ?_)
 refine wpAny_bind (wpAny_callSpecial?_slot (name:=Str.ofString "__getitem__") ht.typeIs PyProof.Rows.slot_tuple_getitem
  (wpAny_call_entry PyProof.Rows.slot_tuple_getitem ht.typeIs entry_tuple_getitem ?_ (args_tuple_getitem _ _)))
 show wpAny _ _ (Builtin.Tuple.tupleItemsOf (.ref t) >>= _) _ _ s
 refine wpAny_bind (tupleItemsOf_ ht ?_)
 refine wpAny_bind (wpAny_typeOf hTs ?_)
 rw[if_pos (by decide)]
 refine wpAny_bind (U0 hs pl pu ?_)
 have hyes:(((sIx items.size 0 lo:Nat):Int) == 0&&(1:Int) == 1&&(sIx items.size items.size hi-sIx items.size 0 lo) == items.size)=true:=by
  rw[h0,h1];simp
 show wpAny _ _ (if (((sIx items.size 0 lo:Nat):Int) == 0&&(1:Int) == 1&&(sIx items.size items.size hi-sIx items.size 0 lo) == items.size)=true then _ else _) _ _ s
 rw[if_pos hyes]
 unfold Builtin.Tuple.tupleIsExact
 refine wpAny_bind ?_
 refine wpAny_bind (wpAny_typeOf ht.typeIs (wpAny_pure ?_))
 rw[if_pos (by decide)]
 exact wpAny_bind (wpAny_rule (wpAny_pure ⟨_,rfl,wpAny_pure h⟩))
theorem nh (n:Nat):Builtin.Slice.sliceAdjust none none (-1) (n:Int)=((n:Int)-1,-1):=by
 unfold Builtin.Slice.sliceAdjust
 simp
theorem mM (n:Nat):Builtin.Slice.slicePlaces ((n:Int)-1) (-1) (-1)=n:=by
 unfold Builtin.Slice.slicePlaces
 rw[if_neg (by decide)]
 split
 .rw[show(-(-1):Int)=1 by decide,Int.ediv_one];omega
 .omega
theorem cW {sl:Addr}{vst:Value}{n:Nat}{Q:Int×Int×Nat->Shared->Prop}(hs:s.heap.IsSliceOf sl .none .none vst)(pst:IsPart vst (some (-1)))
  (h:Q ((n:Int)-1,-1,n) s):wpAny (model prog w) A (Builtin.Slice.sliceApplied (.ref sl) (pure (n:Int))) Q E s:=by
 obtain⟨os,hos,hcs,hds⟩:=id hs
 unfold Builtin.Slice.sliceApplied Builtin.Slice.sliceFields
 refine wpAny_bind (wpAny_bind (wpAny_field hos hds (x:=.none) rfl (wpAny_bind (wpAny_field hos hds (x:=.none) rfl (wpAny_bind (wpAny_field hos hds (x:=vst) rfl (wpAny_pure ?_)))))))
 refine wpAny_bind (aR pst ?_)
 show wpAny _ _ (if ((-1:Int) == 0)=true then _ else _) _ _ s
 rw[if_neg (by decide)]
 refine wpAny_bind (slicePart_none (wpAny_bind (slicePart_none (wpAny_bind (wpAny_pure ?_)))))
 show wpAny _ _ (match Builtin.Slice.sliceAdjust none none (-1) (n:Int) with | (lo,hi)=>pure (lo,(-1:Int),Builtin.Slice.slicePlaces lo hi (-1))) _ _ s
 rw[nh n]
 show wpAny _ _ (pure ((n:Int)-1,(-1:Int),Builtin.Slice.slicePlaces ((n:Int)-1) (-1) (-1))) _ _ s
 rw[mM]
 exact wpAny_pure h
theorem U6 {α β:Type}{f g:α->Option β}:∀{l:List α},(∀x∈l,f x=g x)->l.filterMap f=l.filterMap g
 | [],_=>rfl
 | x::r,h=>by
  rw[List.filterMap_cons,List.filterMap_cons,h x List.mem_cons_self,U6 λy hy=>h y (List.mem_cons_of_mem _ hy)]
theorem rO (xs:Array Value):((List.range xs.size).filterMap λ(m:Nat)=>xs[(((xs.size:Int)-1)+(m:Int)*(-1)).toNat]?).toArray=xs.toList.reverse.toArray:=by
 congr 1
 have e:((List.range xs.size).filterMap λ(m:Nat)=>xs[(((xs.size:Int)-1)+(m:Int)*(-1)).toNat]?)=(List.range xs.size).filterMap λm=>xs.toList.reverse[m]?:=by
  refine U6 λm hm=>?_
  have hm:=List.mem_range.mp hm
  rw[List.getElem?_reverse (by simpa using hm)]
  have:(((xs.size:Int)-1)+(m:Int)*(-1)).toNat=xs.toList.length-1-m:=by
   rw[Array.length_toList];omega
  rw[this]
  simp
 rw[e]
 have:=PySem.W.krv_all xs.toList.reverse.toArray
 simpa using this
theorem getItem_tuple_rev {t sl:Addr}{items:Array Value}{vst:Value}{Q:Value->Shared->Prop}(ht:IsTup s.heap t items)(hs:s.heap.IsSliceOf sl .none .none vst)(pst:IsPart vst (some (-1)))
  (h:Q (.ref s.heap.objs.size) { s with heap:=s.heap.push { cls:=.type "tuple",data:=.seq items.toList.reverse.toArray } })
  (hsz:items.size<=sizeLine):wpAny (model prog w) A (getItem (.ref t) (.ref sl)) Q E s:=by
 have htake:sizeOk (.seq items.toList.reverse.toArray):=by
  show items.toList.reverse.toArray.size<=sizeLine
  rw[List.size_toArray,List.length_reverse,Array.length_toList];exact hsz
 obtain⟨os,hos,hcs,hds⟩:=id hs
 have hTs:s.TypeIs (.ref sl) "slice":=⟨os,hos,hcs⟩
 unfold getItem
 try with_reducible refine wpAny_holding ?_
 first | refine wpAny_bind (wpAny_pure ?_) | skip
 refine wpAny_bind (wpAny_sequenceKey ht.typeIs (by decide) ?_)
 refine wpAny_bind (wpAny_callSpecial?_slot (name:=Str.ofString "__getitem__") ht.typeIs PyProof.Rows.slot_tuple_getitem
  (wpAny_call_entry PyProof.Rows.slot_tuple_getitem ht.typeIs entry_tuple_getitem ?_ (args_tuple_getitem _ _)))
 show wpAny _ _ (Builtin.Tuple.tupleItemsOf (.ref t) >>= _) _ _ s
 refine wpAny_bind (tupleItemsOf_ ht ?_)
 refine wpAny_bind (wpAny_typeOf hTs ?_)
 rw[if_pos (by decide)]
 refine wpAny_bind (cW hs pst ?_)
 have hno:¬(((items.size:Int)-1 == 0&&(-1:Int) == 1&&items.size == items.size)=true):=by simp
 show wpAny _ _ (if ((items.size:Int)-1 == 0&&(-1:Int) == 1&&items.size == items.size)=true then _ else _) _ _ s
 rw[if_neg hno,rO]
 first
  | exact wpAny_bind (m:=Builtin.Tuple.tupleExact _) (wpAny_newObj_type (wpAny_pure ⟨_,rfl,wpAny_pure h⟩) htake)
  | exact wpAny_bind (m:=Builtin.Tuple.tupleExact _) (wpAny_newObj_type (wpAny_bind (wpAny_pure (wpAny_pure ⟨_,rfl,wpAny_pure h⟩))) htake)
  | exact wpAny_bind (wpAny_bind (m:=Builtin.Tuple.tupleExact _) (wpAny_newObj_type (wpAny_pure (wpAny_pure ⟨_,rfl,wpAny_pure h⟩)) htake))
  | exact wpAny_bind (wpAny_bind (m:=Builtin.Tuple.tupleExact _) (wpAny_newObj_type (wpAny_pure ⟨_,rfl,wpAny_pure h⟩) htake))
end
end HT
namespace L2
open PySem PySem.Spec PyProof.Rows
section
section
variable {X:Cx}
def xr (K:Fg):V->Option Int->Option Int->Hp->VK->Prop:=λx lo hi H Q=>∃a xs,x = .ref a/\SqT K H a xs/\((cG xs lo hi=xs/\HT.sIx xs.length 0 lo=0/\HT.sIx xs.length xs.length hi=xs.length->Q (.ref a) H) /\
 (¬(HT.sIx xs.length 0 lo=0/\HT.sIx xs.length xs.length hi=xs.length)->∀p,H p=none->Q (.ref p) (upd H p (.tup (cG xs lo hi)))))
theorem vZ:SlR X (xr X.K):=by
 intro pins s σ H x v vl vu lo hi sl Q I rx hs pl pu h
 obtain⟨a,xs,rfl,hx,hw,hn⟩:=h
 by_cases hc:HT.sIx xs.length 0 lo=0/\HT.sIx xs.length xs.length hi=xs.length
 .cases rx
  obtain⟨its,r,ht,hz⟩:=I.tuple hx
  have hlen:its.toArray.size=xs.length:=by rw[List.size_toArray];exact r.length.symm
  have hq:=hw ⟨by unfold cG;rw[hc.1,hc.2];simp,hc.1,hc.2⟩
  exact⟨"tuple",_,PyProof.Rows.slot_tuple_getitem.lookup,ht.typeIs,HT.getItem_tuple_whole ht hs pl pu (by rw[hlen];exact hc.1) (by rw[hlen];exact hc.2) ⟨.ref a,H,I,rfl,hq⟩⟩
 .exact zB pins s σ H (.ref a) v vl vu lo hi sl Q I rx hs pl pu ⟨a,xs,rfl,hx,hc,hn hc⟩
def zD (K:Fg):R2:=λx y H Q=>∃a b xs,x = .ref a/\y = .ref b/\SqL K H a xs/\SqL K H b []/\Q (.bl (!xs.isEmpty)) H
theorem qQ (hu:X.A.units<cLine):OpR X (compareOp .NotEq) (zD X.K):=by
 intro pins s σ H x y v u Q I rx ry h
 obtain⟨a,b,xs,rfl,rfl,ha,hb,q⟩:=h
 cases rx
 cases ry
 obtain⟨its,rv,p,hz⟩:=I.list ha
 obtain⟨its2,rv2,p2,hz2⟩:=I.list hb
 cases rv2
 cases rv with
 | nil=>exact(SeqAt.RcNeAt.lists (e:=λ_=>true) p.isList p2.isList rfl hu λj h1 _=>absurd h1 (by simp)) _ _ _ _ ⟨.bl false,H,I,rfl,q⟩
 | cons r1 r2=>exact(SeqAt.RcNeAt.lists_lengths p.isList p2.isList (by simp) hu) _ _ _ _ ⟨.bl true,H,I,rfl,q⟩
def xF (i j k:Nat)(ta:TA):TS:=λD σ H=>ta σ H λvs H1=>∃u v w,vs=[u,v,w]/\D.nx (((σ.set i (some u)).set j (some v)).set k (some w)) H1
theorem va {i j k:Nat}{x y z:Str}{a b c:Expr}{ta:TA}{px py pz pt pos:Pos}{kt k2 pt2}(hc:X.calm=true)(hN:X.N.Nodup)(hi:X.N[i]? = some x)(hj:X.N[j]? = some y)(hk:X.N[k]? = some z)(hij:i≠j)(hik:i≠k)(hjk:j≠k)
  (hx:X.env.scope.names.lookup x=some .local) (hy:X.env.scope.names.lookup y=some .local) (hz:X.env.scope.names.lookup z=some .local) (ha:PA X [a,b,c] ta)
  (hw:swappedStores [.Tuple [.Name x px,.Name y py,.Name z pz] kt pt] (.Tuple [a,b,c] k2 pt2) X.env=pure (some [x,y,z]))
  (hs:swapsWithSole [.Tuple [.Name x px,.Name y py,.Name z pz] kt pt] (.Tuple [a,b,c] k2 pt2) pos.line X.env=pure false:=by rfl) :
  PS X (.Assign [.Tuple [.Name x px,.Name y py,.Name z pz] kt pt] (.Tuple [a,b,c] k2 pt2) pos) (xF i j k ta):=by
 intro pins s σ H D I h
 rw[exec_Assign_arm]
 refine wpAny_bind (wpAny_standAt ?_)
 rw[hs]
 refine wpAny_bind (wpAny_pure ?_)
 rw[if_neg (by decide)]
 refine wpAny_bind (Tuple_ (thn (ha _ pins s σ H _ I h) λus s1 ⟨vs,H1,I1,r1,q1⟩=>?_))
 obtain⟨v,w,t,e1,q1⟩:=q1
 subst e1
 obtain⟨u1,u2,u3,rfl,rv,rw',rt⟩:∃u1 u2 u3,us=[u1,u2,u3]/\l0 v u1/\l0 w u2/\l0 t u3:=by
  cases r1 with
  | cons p q =>
   cases q with
   | cons p' q' =>
    cases q' with
    | cons p'' q'' =>
     cases q''
     exact⟨_,_,_,rfl,p,p',p''⟩
 refine wpAny_newObj_type ?_ (by show 3<=sizeLine;decide)
 have I2:Inv X pins σ H1 { s1 with heap:=s1.heap.push { cls:=.type "tuple",data:=.seq [u1,u2,u3].toArray } }:=I1.kept (t':=s1.toks) λb o e=>Heap.get?_push_of_some _ e
 rw[hw]
 refine wpAny_bind (wpAny_pure ?_)
 show wpAny (model X.prog X.w) X.A (do rule "assign.swapped-stores";let items <-unpackItems (.ref s1.heap.objs.size) 3 none;assignInOrder [λv=>bindName X.env z v,λv=>bindName X.env y v,λv=>bindName X.env x v] items.reverse;pure Flow.next) _ _ _
 refine wpAny_bind (wpAny_rule (wpAny_bind (unpackItems_tuple (items:=#[u1,u2,u3]) (I.ok.hd hc) (IsTup.new s1.heap _) λh' hx'=>?_)))
 have I3:=I2.kept (h':=h') (t':=s1.toks) λb o e=>hx' b o (Nat.ne_of_lt (Heap.lt_size e)) e
 show wpAny _ _ (assignInOrder [λv=>bindName X.env z v,λv=>bindName X.env y v,λv=>bindName X.env x v] [u3,u2,u1] >>= λ_=>pure Flow.next) _ _ _
 refine wpAny_bind (assignInOrder_cons (wpAny_bindName (N6 I3 hN hk (.inl hz) rt (λs2 I4=>?_) (.inr hz))))
 refine assignInOrder_cons (wpAny_bindName (N6 I4 hN hj (.inl hy) rw' (λs3 I5=>?_) (.inr hy)))
 refine assignInOrder_cons (wpAny_bindName (N6 I5 hN hi (.inl hx) rv (λs4 I6=>assignInOrder_nil (wpAny_pure ?_)) (.inr hx)))
 rw[List.set_comm _ _ (Ne.symm hjk),List.set_comm _ _ (Ne.symm hik),List.set_comm _ _ (Ne.symm hij)]at I6
 exact⟨_,H1,I6,q1⟩
end
end
section
def Callee (P:Program)(w:World)(K:Fg)(mg:Str->Option Value)(base:Heap)(x:Str)(k:Nat)(ps:List Str)(sp:Sp):Prop :=
 ∃f fd,FnOk P w K mg base CX0 k f fd ps sp/\mg x=some (.ref f)/\PySem.W.keepIn K (.ref f)=true/\gU K fd ps []
theorem V1 {X:Cx}{x:Str}{k:Nat}{ps:List Str}{sp:Sp}{p pos:Pos}{e:Expr}{es:List Expr}{t:TA}(C:Callee X.prog X.w X.K X.mg X.base x k ps sp)(hr:Room k X.A)(hg:Gl X x)(ha:PA X (e::es) t)
  (hdb:(x == ("__debug__":Str))=false:=by decide) (he:starEach (e::es) X.env=(false,eval e X.env)::starEach es X.env:=by rfl) (hpl:(backTo pos (starEach es X.env)).any (·.1)=false:=by rfl) :
  PE X (.Call (.Name x p) (e::es) [] pos) (Y0 sp [] E0 t):=by
 obtain⟨f,fd,G,m,kp,b⟩:=C
 exact uF G hr hg m kp b .nil Bc ha hdb he hpl
def KpE (D:Addr->Prop)(H H':Hp):Prop:=∀b o,H b=some o->¬D b->H' b=some o
theorem SqT.kp {K:Fg}{H H':Hp}{a:Addr}{xs:List V}{D:Addr->Prop}(h:SqT K H a xs)(k:KpE D H H')(hD:∀b,D b->∃kvs,H b=some (.dK kvs)):SqT K H' a xs:=by
 rcases h with (h | ⟨o,h⟩) | h
 .refine .inl (.inl (k _ _ h λz=>?_))
  obtain⟨kvs,e⟩:=hD _ z;rw[h]at e;cases e
 .refine .inl (.inr ⟨o,k _ _ h λz=>?_⟩)
  obtain⟨kvs,e⟩:=hD _ z;rw[h]at e;cases e
 .exact .inr h
section
variable {K:Fg}{H H':Hp}{D:Addr->Prop}
mutual
theorem a7.kp (k:KpE D H H')(hD:∀b,D b->∃kvs,H b=some (.dK kvs)):∀(d:PyData) (v:V),a7 K H d v->a7 K H' d v
 | .none,v,h=>by simpa only[a7] using h
 | .bool b,v,h=>by simpa only[a7] using h
 | .int i,v,h=>by simpa only[a7] using h
 | .str x,v,h=>by simpa only[a7] using h
 | .tuple ds,v,h=>by
  simp only[a7]at h ⊢
  obtain⟨a,xs,e,hq,hd⟩:=h
  exact⟨a,xs,e,hq.kp k hD,a6.kp k hD ds xs hd⟩
 | .list ds,v,h=>by
  simp only[a7]at h ⊢
  obtain⟨a,xs,e,hq,hd⟩:=h
  refine⟨a,xs,e,k _ _ hq λz=>?_,a6.kp k hD ds xs hd⟩
  obtain⟨kvs,e⟩:=hD _ z;rw[hq]at e;cases e
 | .dict kvs,v,h=>by simp only[a7]at h
theorem a6.kp (k:KpE D H H')(hD:∀b,D b->∃kvs,H b=some (.dK kvs)):∀(ds:List PyData) (xs:List V),a6 K H ds xs->a6 K H' ds xs
 | [],xs,h=>by simpa only[a6] using h
 | d::ds,xs,h=>by
  simp only[a6]at h ⊢
  obtain⟨x,r,e,h1,h2⟩:=h
  exact⟨x,r,e,a7.kp k hD d x h1,a6.kp k hD ds r h2⟩
end
end
theorem d8.kpE {H H':Hp}(s:d8 H H'):KpE (λ_=>False) H H':=λb o h _=>s b o h
theorem a7.same {K:Fg}{H H':Hp}{d:PyData}{v:V}(h:a7 K H d v)(s:d8 H H'):a7 K H' d v:=a7.kp s.kpE (λ_ z=>z.elim) d v h
theorem a6.same {K:Fg}{H H':Hp}{ds:List PyData}{xs:List V}(h:a6 K H ds xs)(s:d8 H H'):a6 K H' ds xs:=a6.kp s.kpE (λ_ z=>z.elim) ds xs h
theorem SqT.same {K:Fg}{H H':Hp}{a:Addr}{xs:List V}(h:SqT K H a xs)(s:d8 H H'):SqT K H' a xs:=h.kp s.kpE (λ_ z=>z.elim)
theorem d8.upd {H:Hp}{p:Addr}{o:HO}(hp:H p=none):d8 H (upd H p o):=λb u e=>by rw[a9 (d6 e hp)];exact e
section
variable {K:Fg}{H:Hp}
theorem a6.length:∀{ds:List PyData} {xs:List V},a6 K H ds xs->xs.length=ds.length
 | [],xs,h=>by simp only[a6]at h;subst h;rfl
 | d::ds,xs,h=>by
  simp only[a6]at h
  obtain⟨x,r,rfl,h1,h2⟩:=h
  rw[List.length_cons,List.length_cons,h2.length]
theorem a6.get:∀{ds:List PyData} {xs:List V} {i:Nat} {x:V},a6 K H ds xs->xs[i]? = some x->∃d,ds[i]? = some d/\a7 K H d x
 | [],xs,i,x,h,e=>by simp only[a6]at h;subst h;simp at e
 | d::ds,xs,i,x,h,e=>by
  simp only[a6]at h
  obtain⟨y,r,rfl,h1,h2⟩:=h
  cases i with
  | zero=>simp at e;subst e;exact⟨d,rfl,h1⟩
  | succ i=>simpa using h2.get (i:=i) (by simpa using e)
theorem a6.snoc:∀{ds:List PyData} {xs:List V} {d:PyData} {x:V},a6 K H ds xs->a7 K H d x->a6 K H (ds++[d]) (xs++[x])
 | [],xs,d,x,h,h'=>by simp only[a6]at h;subst h;simp only[List.nil_append,a6];exact⟨x,[],rfl,h',rfl⟩
 | e::ds,xs,d,x,h,h'=>by
  simp only[a6]at h
  obtain⟨y,r,rfl,h1,h2⟩:=h
  simp only[List.cons_append,a6]
  exact⟨y,r++[x],rfl,h1,h2.snoc h'⟩
theorem a6.append {ds':List PyData}{xs':List V}(h':a6 K H ds' xs'):∀{ds:List PyData} {xs:List V},a6 K H ds xs->a6 K H (ds++ds') (xs++xs')
 | [],xs,h=>by simp only[a6]at h;subst h;simpa using h'
 | e::ds,xs,h=>by
  simp only[a6]at h
  obtain⟨y,r,rfl,h1,h2⟩:=h
  simp only[List.cons_append,a6]
  exact⟨y,r++xs',rfl,h1,a6.append h' h2⟩
theorem a6.reverse:∀{ds:List PyData} {xs:List V},a6 K H ds xs->a6 K H ds.reverse xs.reverse
 | [],xs,h=>by simp only[a6]at h;subst h;simp[a6]
 | d::ds,xs,h=>by
  simp only[a6]at h
  obtain⟨y,r,rfl,h1,h2⟩:=h
  rw[List.reverse_cons,List.reverse_cons]
  exact(a6.reverse h2).snoc h1
theorem a6.take:∀{ds:List PyData} {xs:List V} (n:Nat),a6 K H ds xs->a6 K H (ds.take n) (xs.take n)
 | [],xs,n,h=>by simp only[a6]at h;subst h;simp[a6]
 | d::ds,xs,0,h=>by simp[a6]
 | d::ds,xs,n+1,h=>by
  simp only[a6]at h
  obtain⟨y,r,rfl,h1,h2⟩:=h
  simp only[List.take_succ_cons,a6]
  exact⟨y,r.take n,rfl,h1,a6.take n h2⟩
theorem a7.tup {ds:List PyData}{xs:List V}{a:Addr}(h:H a=some (.tup xs))(h2:a6 K H ds xs):a7 K H (.tuple ds) (.ref a):=by
 simp only[a7];exact⟨a,xs,rfl,SqT.of h,h2⟩
theorem a7.lst {ds:List PyData}{xs:List V}{a:Addr}(h:H a=some (.lst xs))(h2:a6 K H ds xs):a7 K H (.list ds) (.ref a):=by
 simp only[a7];exact⟨a,xs,rfl,h,h2⟩
theorem a6.nil:a6 K H [] []:=by simp only[a6]
theorem a6.cons {d:PyData}{x:V}{ds:List PyData}{xs:List V}(h:a7 K H d x)(h2:a6 K H ds xs):a6 K H (d::ds) (x::xs):=by
 simp only[a6];exact⟨x,xs,rfl,h,h2⟩
theorem a7.int {i:Int}:a7 K H (.int i) (.int i):=by simp only[a7]
theorem a7.bl {b:Bool}:a7 K H (.bool b) (.bl b):=by simp only[a7]
theorem a7.st {x:Str}:a7 K H (.str x) (.str x):=by simp only[a7]
theorem a7.non:a7 K H .none .non:=by simp only[a7]
theorem a7.ofTup {ds:List PyData}{v:V}(h:a7 K H (.tuple ds) v):∃a xs,v = .ref a/\SqT K H a xs/\a6 K H ds xs:=by simpa only[a7] using h
end
theorem yV {J:It}{D:Addr}(n:Nat){g:TG}{tt:TT}{te:TE}{Q:Hp->Prop}{σ0:St}{H0:Hp}(Pv:Nat->St->List V->Hp->Prop)(h0:Pv 0 σ0 [] H0)
  (hgo:∀i σ acc H,i<n->Pv i σ acc H->J.go i H) (hstop:∀σ acc H,Pv n σ acc H->J.stop n H)
  (hs:∀i σ acc H,i<n->Pv i σ acc H->∀x H2,J.yld i H x H2->∀R:St->List V->Hp->Prop,(∀σ acc H,Pv (i+1) σ acc H->R σ acc H) ->
   g x σ H2 λσ2 H3=>tt σ2 H3 λok H4=>if ok=true then te σ2 H4 λy H5=>H5 D=some (.lst acc)/\acc.length<sizeLine/\R σ2 (acc++[y]) (upd H5 D (.lst (acc++[y]))) else H4 D=some (.lst acc)/\R σ2 acc H4)
  (hd:∀σ acc H,Pv n σ acc H->Q H) :
  ∃W:Nat->Nat->St->List V->Hp->Prop,(∃m,W 0 m σ0 [] H0)/\∀i m σ' acc H',W i m σ' acc H' ->
  (J.stop i H'/\Q H') \/
  (J.go i H'/\∀x H2,J.yld i H' x H2->g x σ' H2 λσ2 H3=>tt σ2 H3 λok H4=>if ok=true then te σ2 H4 λy H5=>H5 D=some (.lst acc)/\acc.length<sizeLine/\∃m',m'<m/\W (i+1) m' σ2 (acc++[y]) (upd H5 D (.lst (acc++[y])))
   else H4 D=some (.lst acc)/\∃m',m'<m/\W (i+1) m' σ2 acc H4):=by
 refine⟨λi m σ acc H=>m=n-i/\i<=n/\Pv i σ acc H,⟨n,by simp,Nat.zero_le _,h0⟩,?_⟩
 rintro i m σ acc H ⟨rfl,hi,p⟩
 by_cases hlt:i<n
 .exact .inr ⟨hgo i σ acc H hlt p,λx H2 y=>hs i σ acc H hlt p x H2 y (λσ acc H=>∃m',m'<n-i/\m'=n-(i+1)/\i+1<=n/\Pv (i+1) σ acc H) λσ acc H q=>⟨n-(i+1),by omega,rfl,hlt,q⟩⟩
 .have e:i=n:=by omega
  subst e
  exact .inl ⟨hstop σ acc H p,hd σ acc H p⟩
end
section
section
variable {X:Cx}{K:Fg}
theorem wy {es:List Expr}{k:Nat}{t:TGs}{n:Nat}{pos:Pos}(hK:X.K=K)(hc:X.calm=true)(h:PGs X es t)
  (hn:(assignEach es X.env).length=n:=by rfl) (hst:(assignEach es X.env).findIdx? (·.1)=none:=by rfl):PG X (.Tuple es k pos) (zL K n t):=by
 subst hK;exact yB hc h hn hst
theorem wb (hK:X.K=K):IxR X (yU K):=by subst hK;exact nc
theorem sx (hK:X.K=K):IxR X (oV K):=by subst hK;exact A7
theorem aE (hK:X.K=K):D1 X (.builtin "len") (λxs H Q=>∃p ys,xs=[.ref p]/\(SqL K H p ys\/SqT K H p ys)/\Q (.int ys.length) H):=by subst hK;exact F8
theorem Y6 (hK:X.K=K):D1 X (.type "tuple") (λxs H Q=>∃p ys,xs=[.ref p]/\((SqL K H p ys/\∀l,H l=none->Q (.ref l) (upd H l (.tup ys)))\/(SqT K H p ys/\Q (.ref p) H))):=by subst hK;exact gq
theorem fP (hK:X.K=K)(hg:X.A.guards=some [])(hu:X.A.units+64<cLine):D1 X (.builtin "repr") (xI K):=by subst hK;exact pD hg hu
theorem sT (hK:X.K=K):SlR X (xr K):=by subst hK;exact vZ
theorem oX {a:Expr}{ta:TE}(hK:X.K=K)(ha:PE X a ta)(he:∀whole,isTrue a X.env whole=(do let v <-whole;standAt a.pos;holding [v] (truthy v))) :
  PT X a (λσ H Q=>ta σ H λx H'=>∃k,rh K x H' k/\Q k H'):=by subst hK;exact um ha he
end
end
section
section
variable {X:Cx}{K:Fg}
def Au (K:Fg):R2:=λx y H Q=>∃a b xs ys,x = .ref a/\y = .ref b/\SqT K H a xs/\SqT K H b ys/\xs.length+ys.length<=sizeLine /\
 (xs=[]->Q (.ref b) H)/\(ys=[]->Q (.ref a) H)/\∀p,H p=none->Q (.ref p) (upd H p (.tup (xs++ys)))
theorem wO (hK:X.K=K):OpR X (binaryOp .Add) (Au K):=by
 subst hK
 intro pins s σ H x y v u Q I rx ry h
 obtain⟨a,b,xs,ys,rfl,rfl,ha,hb,hz,q0,q1,q2⟩:=h
 by_cases hx:xs=[]
 .cases rx
  cases ry
  obtain⟨its,r1,p1,_⟩:=I.tuple ha
  obtain⟨its2,r2,p2,_⟩:=I.tuple hb
  subst hx
  cases r1
  obtain⟨⟨cls,dd,data,sl⟩,ho,hc,n,hd⟩:=id p1
  obtain⟨⟨cls2,dd2,data2,sl2⟩,ho2,hc2,n2,hd2⟩:=id p2
  simp only at hc hd hc2 hd2
  subst hc hd hc2 hd2
  exact concat_meets ⟨_,ho,rfl⟩ ⟨_,ho2,rfl⟩ noFill_tuple_add seq_tuple_add PySem.F.slot_tuple_add PySem.F.entry_tuple_add (PySem.F.args_tuple_add_2 _ _)
   (tuple_addW0 a b #[] its2.toArray n n2 dd dd2 sl sl2 rfl) ⟨ho,ho2,⟨.ref b,H,I,rfl,q0 rfl⟩⟩
 .exact uM pins s σ H (.ref a) (.ref b) v u Q I rx ry ⟨a,b,xs,ys,rfl,rfl,ha,hb,hx,hz,q1,λ_=>q2⟩
end
end
section
theorem qd {X:Cx}{y:Str}{py:Pos}{ix:Nat}{elt tg iter:Expr}{ifs:List Expr}{scope osc:Scope}{pos:Pos}{N:List Str}{k:Nat}{cap:List Nat}{g:TG}{tt:TT}{te:TE}{cl:List (Str×Addr)}
  {pins:List (Addr×Obj)} {σ:St} {H3:Hp} {s3:Shared} {D it:Addr} {fp:List Addr} {tn:Nat->Heap->Prop} {J:It} {Q:St->Hp->Prop} {W:Nat->Nat->St->List V->Hp->Prop} {m0:Nat}
  (hNd:X.N.Nodup) (hix:X.N[ix]? = some y) (hLy:Loc X.env.scope y) (hfy:X.fn y=true\/X.env.scope.names.lookup y=some .local)
  (hc:X.calm=true) (hosc:X.env.scope=osc) (hcap:Caps X.N osc N k cap scope)
  (hcl:∀{x:Str} {c:Addr},cl.lookup x=some c->X.env.cells.lookup x=some c) (hhas:∀x,(x,NameKind.free)∈scope.names->∃c,cl.lookup x=some c)
  (hg:∀cl C ex pins s H,PG (cxC X N scope cl C ex pins s H) tg g)
  (ht:∀cl C ex pins s H,PTs (cxC X N scope cl C ex pins s H) ifs tt)
  (he:∀cl C ex pins s H,PE (cxC X N scope cl C ex pins s H) elt te)
  (I3:Inv X pins σ H3 s3) (hD:H3 D=some (.lst [])) (T:Turn X.prog X.w X.K tg J fp it tn) (st:tn 0 s3.heap) (f3:∀b∈fp,dS X pins H3 b) (w0:W 0 m0 (ay k cap σ) [] H3)
  (turn:∀i m σ' acc H',W i m σ' acc H'->(J.stop i H'/\Q (σ.set ix (some (.ref D))) H') \/
   (J.go i H'/\∀x H2,J.yld i H' x H2->g x σ' H2 λσ2 H3=>tt σ2 H3 λok H4=>if ok=true then te σ2 H4 λy H5=>H5 D=some (.lst acc)/\acc.length<sizeLine/\∃m',m'<m/\W (i+1) m' σ2 (acc++[y]) (upd H5 D (.lst (acc++[y])))
    else H4 D=some (.lst acc)/\∃m',m'<m/\W (i+1) m' σ2 acc H4)) :
  wpAny (model X.prog X.w) X.A (newFunctionEnv scope X.env.globals cl [] X.env.qual none .none (some X.env)) (λcenv s₄ =>
   codeAny (model X.prog X.w) X.A (.compStart (.ListComp elt [⟨tg,iter,ifs,0⟩] scope pos) 0 (.ref it) (.ref D) { cenv with scope:=relabel scope X.env }) (compPost (model X.prog X.w) X.A X.xe (some (assign (.Name y py) X.env)) (λ_ s'=>∃σ' H',Inv X pins σ' H' s'/\Q σ' H') (.ref D) cenv.locals) s₄) X.xe s3:=by
 refine wpAny_newFunctionEnv hcap.nocell (by intro y hy;simp at hy) (λh₁ hns₁ hsb₁=>?_) hcap.kind
 have old:∀b o,s3.heap.get? b=some o->h₁.get? b=some o:=λb o e=>hsb₁.extBut b o (Nat.ne_of_lt (Heap.lt_size e)) (Heap.get?_push_of_some _ e)
 have neC:∀b∈fp,b≠s3.heap.objs.size:=λb hb=>by
  obtain⟨o,e,_⟩:=T.obj _ _ st b hb
  exact Nat.ne_of_lt (Heap.lt_size e)
 have nofs:∀{b:Addr},b≠X.env.locals->b ∉ X.fs->b ∉ frs X.stack:=λ{b} h1 h2 z=>(List.mem_cons.mp (I3.stkSub b z)).elim h1 h2
 have IY:Inv (cxC X N scope cl s3.heap.objs.size fp pins s3 H3) [] (ay k cap σ) H3 { s3 with heap:=h₁,toks:=s3.toks+([]:List (Str×Value)).length }:=by
  refine⟨⟨I3.ok.mod,hcap.kind,I3.ok.glob,I3.ok.blt,Nat.le_refl _,λx y c h1 h2=>I3.ok.inj x y c (hcl h1) (hcl h2),λx hx=>hhas x (dD hcap.nocell hx),λx c h=>absurd (show false=true from h) Bool.false_ne_true,I3.ok.hd,I3.ok.frames,.inl rfl,
   λb hb=>⟨neC b hb,λx c e=>(f3 b hb).2.2.2.2.1 x c (hcl e)⟩,I3.bs,Nat.le_trans I3.ok.bsz I3.sz,λb o e hb=>?_,λb hb=>nofs (f3 b hb).2.1 (f3 b hb).2.2.1,I3.stack,I3.stkFree⟩,
   rfl,I3.bare,Un.kept old,⟨_,hns₁,λi x v e1 e2 e3=>?_⟩,λx c e=>?_,I3.hok.fresh (Nat.le_refl _),λx c e=>I3.freeC x c (hcl e),λp hp=>?_,I3.hok.kept old,?_⟩
  .rcases(f3 b hb).2.2.2.1 with z | z
   .exact I3.ok.noex b o e z
   .exact absurd (Nat.lt_of_lt_of_le (Heap.lt_size e) (Nat.le_trans I3.ok.bsz z)) (Nat.lt_irrefl _)
  .by_cases hi:i<k
   .unfold ay at e2
    rw[List.getElem?_append_left (by simpa using hi),List.getElem?_replicate,if_pos hi]at e2
    cases e2
   .obtain⟨d,rfl⟩:∃d,i=k+d:=⟨i-k,by omega⟩
    unfold ay at e2
    rw[List.getElem?_append_right (by simp),List.length_replicate,Nat.add_sub_cancel_left,List.getElem?_map]at e2
    obtain⟨j,hj,hv⟩:=Option.map_eq_some_iff.mp e2
    have hσ:σ[j]? = some (some v):=by
     cases q:σ[j]? with
     | none=>rw[q]at hv;cases hv
     | some o=>rw[q]at hv;exact congrArg some hv
    have e1':(N.drop k)[d]? = some x:=by rw[List.getElem?_drop];exact e1
    have hx:X.N[j]? = some x:=by
     have z:=congrArg (λl=>l[d]?) hcap.capx
     simp only[List.getElem?_map,hj,e1',Option.map_some]at z
     exact Option.some.inj z
    have hfr:=hcap.capf x (List.mem_of_getElem? e1')
    have hfm:=PySem.mem_of_lookup hfr
    have hok:=hcap.free _ hfm rfl
    rw[<-hosc]at hok
    obtain⟨m,hn,hl⟩:=I3.loc
    obtain⟨u,r,l⟩:=hl j x v hx hσ (.inr hok)
    refine⟨u,r,?_⟩
    rcases l with ⟨hk,_⟩ | ⟨hk,c,hc1,hc2⟩
    .have hk:X.env.scope.names.lookup x=some .local:=hk
     rcases hok with z | z <;> (rw[hk]at z;cases z)
    .obtain⟨c',hc'⟩:=hhas x hfm
     have:c'=c:=Option.some.inj ((hcl hc').symm.trans hc1)
     subst this
     exact .inr ⟨bK hfr,c',hc',hc2.keeps old⟩
  .obtain⟨v,z⟩:=I3.cell x c (hcl e)
   exact⟨v,z.keeps old⟩
  .have hp:p∈(X.pn++pins)++[]:=hp
   rw[List.append_nil]at hp
   obtain⟨a1,a2,a3,a4,a5⟩:=I3.pin p hp
   exact⟨old _ _ a1,a2,Nat.ne_of_lt (Heap.lt_size a1),nofs a3 a4,a5⟩
  .show(ay k cap σ).length=N.length
   unfold ay
   rw[List.length_append,List.length_replicate,List.length_map,hcap.len]
 have stat:∀{H':Hp},(∀b∈fp,H' b=none)->∀b∈fp,dS (cxC X N scope cl s3.heap.objs.size fp pins s3 H3) [] H' b:=λ{H'} hn b hb=>by
  obtain⟨a0,a1,a2,a3,a4,a5⟩:=f3 b hb
  refine⟨hn b hb,neC b hb,nofs a1 a2,.inl hb,λx c e=>a4 x c (hcl e),λp hp=>a5 p ?_⟩
  have hp:p∈(X.pn++pins)++[]:=hp
  rwa [List.append_nil]at hp
 have loop:codeAny (model X.prog X.w) X.A (.compLoop (.ListComp elt [⟨tg,iter,ifs,0⟩] scope pos) 0 (.ref it) (.ref D) (compEnvC scope cl s3.heap.objs.size X.env))
   (compPost (model X.prog X.w) X.A X.xe (some (assign (.Name y py) X.env)) (λ_ s'=>∃σ' H',Inv X pins σ' H' s'/\Q σ' H') (.ref D) s3.heap.objs.size) { s3 with heap:=h₁,toks:=s3.toks+([]:List (Str×Value)).length }:=by
  refine bM (λn s'=>∃i σ' acc H',Inv (cxC X N scope cl s3.heap.objs.size fp pins s3 H3) [] σ' H' s'/\tn i s'.heap/\(∀b∈fp,H' b=none)/\H' D=some (.lst acc)/\W i n σ' acc H') ?_ m0
   ⟨0,_,[],H3,IY,T.keep _ _ _ st λb _ o e=>old b o e,λb hb=>(f3 b hb).1,hD,w0⟩
  rintro n s5 ⟨i,σ5,acc,H5,I5,st5,fr5,hD5,w5⟩
  rcases turn i n σ5 acc H5 w5 with ⟨stop,q⟩ | ⟨go,step⟩
  .refine thn (T.done (cxC X N scope cl s3.heap.objs.size fp pins s3 H3) rfl rfl rfl hc i [] s5 σ5 H5 _ I5 (stat fr5) st5 stop) λr s6 ⟨hr,I6⟩=>?_
   subst hr
   obtain⟨m,hn,_⟩:=id I6.loc
   have I7:Inv X pins σ H5 s6:=I3.call' I6.os I6.base I6.hok I6.bare λb hb=>by
    obtain⟨a0,a1,a2,a3,a4,a5⟩:=f3 b hb
    exact⟨a3,a1,a4,a5⟩
   obtain⟨g0,g1,g2,g3,g4,g5⟩:=I3.fpOk (H':=H5) (b:=s3.heap.objs.size) (Nat.le_refl _) I6.free
   obtain⟨o,es,ep,ho,hdat,rest⟩:=id hn
   have I7p:Inv X (pins++[(s3.heap.objs.size,o)]) σ H5 s6:=I7.pins_of λp hp=>by
    rcases List.mem_append.mp hp with z | z
    .exact I7.pin p (List.mem_append_right _ z)
    .rw[List.mem_singleton.mp z]
     exact⟨ho,g0,g1,g2,λv z=>by have z':o.data = .cell v:=z;rw[hdat]at z';cases z'⟩
   show wpAny (model X.prog X.w) X.A (assign (.Name y py) X.env (.ref D)) _ _ s6
   refine wpAny_assign_Name (N6 I7p hNd hix hLy (v:=.ref D) rfl (λs7 I8=>?_) hfy)
   have hC7:=(I8.pin (s3.heap.objs.size,o) (List.mem_append_right _ (List.mem_append_right _ (List.mem_singleton.mpr rfl)))).1
   refine⟨m,⟨o,es,ep,hC7,hdat,rest⟩,λh' hsb=>?_⟩
   exact⟨_,H5,I8.unpinned.turned (t':=s7.toks) (λb o hb e=>(hsb.2 b hb).trans e) g0 g1 g3 g4 g5,q⟩
  .refine thn (T.item (cxC X N scope cl s3.heap.objs.size fp pins s3 H3) rfl rfl rfl hc i [] s5 σ5 H5 _ I5 (stat fr5) st5 go) λr s6 ⟨u,hr,h6⟩=>?_
   subst hr
   refine thn h6 λ_ s7 ⟨x,H7,I7,r7,y7,st7,fr7⟩=>?_
   have I7':=I7.pinned (stat fr7) (T.obj _ _ st7)
   have keepI:∀{s':Shared} {σ':St} {H':Hp},Inv (cxC X N scope cl s3.heap.objs.size fp pins s3 H3) ([]++cL fp s7.heap) σ' H' s'->tn (i+1) s'.heap/\∀b∈fp,H' b=none:=λ{s' σ' H'} I'=>by
    refine⟨T.keep _ _ _ st7 λb hb o e=>(I'.pin (b,o) (List.mem_append_right _ (List.mem_append_right _ (M0 hb e)))).1,λb hb=>?_⟩
    obtain⟨o,e,d⟩:=T.obj _ _ st7 b hb
    exact(I'.pin (b,o) (List.mem_append_right _ (List.mem_append_right _ (M0 hb e)))).2.1
   refine thn (hg _ _ _ _ _ _ _ s7 σ5 H7 x u _ I7' r7 (step x H7 y7)) λ_ s8 ⟨σ8,H8,I8,q8⟩=>?_
   refine thn (ht _ _ _ _ _ _ _ s8 σ8 H8 _ I8 q8) λok s9 ⟨H9,I9,q9⟩=>?_
   cases ok with
   | false =>
    have q9:H9 D=some (.lst acc)/\∃m',m'<n/\W (i+1) m' σ8 acc H9:=q9
    obtain⟨hD9,m',hm,w9⟩:=q9
    obtain⟨k1,k2⟩:=keepI I9
    exact⟨m',hm,i+1,σ8,acc,H9,I9.unpinned,k1,k2,hD9,w9⟩
   | true =>
    refine thn (he _ _ _ _ _ _ _ s9 σ8 H9 _ I9 q9) λyv s10 ⟨y,H10,I10,r10,hD10,hz,m',hm,w10⟩=>?_
    refine thn (F9 (X:=cxC X N scope cl s3.heap.objs.size fp pins s3 H3) _ s10 σ8 H10 (.ref D) [y] (.ref D) [yv] (λ_ H'=>H'=upd H10 D (.lst (acc++[y]))) I10 rfl (.cons r10 .nil) ⟨D,acc,y,rfl,rfl,hD10,hz,rfl⟩)
     λ_ s11 ⟨_,H11,I11,_,e11⟩=>?_
    subst e11
    obtain⟨k1,k2⟩:=keepI I11
    exact⟨m',hm,i+1,σ8,acc++[y],_,I11.unpinned,k1,k2,b9,w10⟩
 exact codeAny_compStart_list loop (T.self X.A 0 _ _ _ (T.keep _ _ _ st λb _ o e=>old b o e) loop)
theorem sg {X:Cx}{y:Str}{py spos:Pos}{ix:Nat}{elt tg iter:Expr}{ifs:List Expr}{scope osc:Scope}{pos:Pos}{N:List Str}{k:Nat}{cap:List Nat}{wi:TI}{g:TG}{tt:TT}{te:TE}
  (hNd:X.N.Nodup) (hix:X.N[ix]? = some y) (hLy:Loc X.env.scope y)
  (hc:X.calm=true) (hosc:X.env.scope=osc) (hcap:Caps X.N osc N k cap scope) (hi:PI X tg iter wi)
  (hg:∀cl C ex pins s H,PG (cxC X N scope cl C ex pins s H) tg g)
  (ht:∀cl C ex pins s H,PTs (cxC X N scope cl C ex pins s H) ifs tt)
  (he:∀cl C ex pins s H,PE (cxC X N scope cl C ex pins s H) elt te)
  (hs:∀x,foldedSetIterable iter X.env x=pure x:=by intro _;rfl) (hfy:X.fn y=true\/X.env.scope.names.lookup y=some .local:=by first | exact .inl rfl | exact .inr rfl | assumption)
  (hsw:swapsWith (.ListComp elt [⟨tg,iter,ifs,0⟩] scope pos) (some (.Name y py)) spos.line X.env=pure true:=by rfl) :
  PS X (.Assign [.Name y py] (.ListComp elt [⟨tg,iter,ifs,0⟩] scope pos) spos) (L0 (tLC wi k cap g tt te) (G7 ix)):=by
 intro pins s σ H D0 I h
 have hcell:∀y∈scope.names,y.2 = .free->∃c,X.env.cells.lookup y.1=some c:=λy hy hk=>I.ok.has y.1 (by
  show X.env.scope.names.lookup y.1=_\/X.env.scope.names.lookup y.1=_
  rw[hosc];exact hcap.free y hy hk)
 let f:Str->Addr:=λx=>(X.env.cells.lookup x).getD 0
 have hf:∀y∈scope.names,y.2 = .free->X.env.cells.lookup y.1=some (f y.1):=λy hy hk=>by
  obtain⟨c,e⟩:=hcell y hy hk
  show _=some ((X.env.cells.lookup y.1).getD 0)
  rw[e];rfl
 have hclos:closureFor scope X.env=pure (G9 f scope.names []):=M4 λy hy hk=>by
  unfold cellOf
  rw[hf y hy hk]
 have hcl:∀{x:Str} {c:Addr},(G9 f scope.names []).lookup x=some c->X.env.cells.lookup x=some c:=λ{x c} e=>by
  rcases P1 _ _ e with ⟨h1,h2⟩ | h1
  .rw[h2];exact hf (x,.free) h1 rfl
  .simp at h1
 have hhas:∀x,(x,NameKind.free)∈scope.names->∃c,(G9 f scope.names []).lookup x=some c:=λx hx=>⟨_,aq _ _ (.inl hx)⟩
 generalize G9 f scope.names []=cl at hclos hcl hhas
 rw[exec_Assign_Name_used _ _ _ _ hsw]
 refine wpAny_bind (wpAny_standAt (wpAny_bind ?_))
 show wpAny _ X.A (do let _ <-comprehension (.ListComp elt [⟨tg,iter,ifs,0⟩] scope pos) scope X.env _ (newList []) false (eval iter X.env) (some (assign (.Name y py) X.env))) _ _ s
 refine wpAny_bind (wpAny_mono (wpAny_comprehension_free (use:=some (assign (.Name y py) X.env)) (cl:=cl) (Q:=λ_ s'=>∃σ' H',Inv X pins σ' H' s'/\D0.nx σ' H') rfl hs hclos hcap.kind hcap.loc ?_) (λ_ s' hq=>wpAny_pure (wpAny_pure hq)) λ_ _ e=>e)
 refine thn (hi pins s σ H _ I h) λv s1 h1=>thn h1 λitv s2 h2=>?_
 obtain⟨it,fp,tn,J,H2,e,I2,T,st2,f2,q2⟩:=h2
 subst e
 obtain⟨W,⟨m0,w0⟩,turn⟩:=q2 s2.heap.objs.size (I2.hok.fresh (Nat.le_refl _))
 refine wpAny_newObj_type ?_
 have I3:Inv X pins σ (upd H2 s2.heap.objs.size (.lst [])) { s2 with heap:=s2.heap.push { cls:=.type "list",data:=.seq ([]:List Value).toArray } }:=I2.lnew (ys:=[]) (its:=[]) (t':=s2.toks) .nil (Nat.zero_le _)
 have lt2:∀b∈fp,b≠s2.heap.objs.size:=λb hb=>by
  obtain⟨o,e,_⟩:=T.obj _ _ st2 b hb
  exact Nat.ne_of_lt (Heap.lt_size e)
 exact qd hNd hix hLy hfy hc hosc hcap hcl hhas hg ht he I3 b9 T (T.keep _ _ (s2.heap.push { cls:=.type "list",data:=.seq ([]:List Value).toArray }) st2 λb _ o e=>Heap.get?_push_of_some _ e) (λb hb=>⟨by rw[a9 (lt2 b hb)];exact(f2 b hb).1,(f2 b hb).2⟩) w0 turn
end
section
section
variable {X:Cx}{K:Fg}
def wB (K:Fg):List V->Hp->VK->Prop:=λxs H Q=>∃(a:Addr) (ns:List Int),xs=[.ref a]/\SqL K H a (ns.map V.int)/\ns.length<64 /\
 ∀(p:Addr) (ns':List Int),H p=none->ns'.Perm ns->ns'.Pairwise (· <= ·)->Q (.ref p) (upd H p (.lst (ns'.map V.int)))
theorem kU (hK:X.K=K):D1 X (.builtin "sorted") (wB K):=by
 subst hK
 intro pins s σ H xs us Q I r h
 obtain⟨a,ns,rfl,hq,h64,q⟩:=h
 obtain⟨u,rfl,ru⟩:=O7 r
 cases ru
 obtain⟨its,rv,p,hz⟩:=I.list hq
 have hi:=lH rv
 have hlen:its.length=ns.length:=by rw[<-rv.length,List.length_map]
 refine PyProof.Rows.sorted_ints p.isList hi (by omega) λout ns' a1 a2 a3=>?_
 obtain⟨e,he⟩:=sortedAll_at s.heap its out
 have I1:Inv X pins σ (upd H (s.heap.objs.size+1) (.lst (ns'.map V.int))) { s with heap:=sortedAll s.heap its out,toks:=s.toks } :=
  I.laid (a:=s.heap.objs.size+1) (λb o ho=>sortedAll_old ho) (Nat.le_succ _) ⟨by rw[List.length_map,a2.length_eq,<-List.length_map (f:=V.int)];exact hz,out.toList,e,cT a1,by rw[he]⟩
 exact⟨.ref (s.heap.objs.size+1),_,I1,rfl,q _ ns' (I.hok.fresh (Nat.le_succ _)) a2 a3⟩
def zR (ta:TA):TE:=λσ H Q=>ta σ H λvs H1=>∃j:Int,vs=[.int j]/\∀p,H1 p=none->Q (.ref p) (upd H1 p (.rng 0 j))
theorem sH {a:Expr}{ta:TA}{p pos:Pos}(hg:Gl X "range")(hm:X.mg "range" = none)(ha:PA X [a] ta)(hs:starEach [a] X.env=[(false,eval a X.env)]:=by rfl):PE X (.Call (.Name "range" p) [a] [] pos) (zR ta):=by
 intro pins s σ H Q I h
 refine Call_ (bh I hg hm boot_range (PyProof.Rows.callWith_type1 (thn (ha pos pins s σ H _ I h) λus s1 ⟨vs,H1,I1,r1,q1⟩=>?_) hs rfl))
 obtain⟨j,e,q⟩:=q1
 subst e
 cases r1 with
 | cons r rr =>
  cases rr
  obtain⟨t,rfl⟩:=r
  refine call_range_1 ?_
  exact⟨.ref s1.heap.objs.size,_,I1.laid (a:=s1.heap.objs.size) (o:=.rng 0 j) (λb o e=>Heap.get?_push_of_some _ e) (Nat.le_refl _) ⟨_,_,_,Heap.get?_push_size _ rfl⟩,rfl,q _ (I1.hok.fresh (Nat.le_refl _))⟩
theorem R4:∀{xs:List V} {us:List Value},xs.length=us.length->(∀(i:Nat) x u,xs[i]? = some x->us[i]? = some u->l0 x u)->i6 xs us
 | [],[],_,_=>.nil
 | [],_::_,e,_=>by simp at e
 | _::_,[],e,_=>by simp at e
 | x::xs,u::us,e,h=>.cons (h 0 x u rfl rfl) (R4 (by simpa using e) λi y v h1 h2=>h (i+1) y v (by simpa using h1) (by simpa using h2))
end
end
section
def tyD:PyData->String
 | .none=>"NoneType"
 | .bool _=>"bool"
 | .int _=>"int"
 | .str _=>"str"
 | .list _=>"list"
 | .tuple _=>"tuple"
 | .dict _=>"dict"
def isT (a T:String):Bool:=a == T||(a == "bool" && T == "int")
theorem wd (K:Fg):∀a∈["NoneType","bool","int","str","list","tuple"],∀T∈["bool","int","str","list","tuple"],PySem.W.kitOne K (.type a) (.type T)=some (isT a T):=by
 intro a ha T hT
 simp only[List.mem_cons,List.not_mem_nil,or_false]at ha hT
 rcases ha with rfl | rfl | rfl | rfl | rfl | rfl <;> rcases hT with rfl | rfl | rfl | rfl | rfl <;> rfl
section
variable {X:Cx}{K:Fg}
theorem wH {K:Fg}{H:Hp}{d:PyData}{x:V}(h:a7 K H d x):tyD d∈["NoneType","bool","int","str","list","tuple"]:=by
 cases d <;> simp[tyD]
 simp only[a7]at h
def xy (K:Fg):List V->Hp->VK->Prop:=λxs H Q=>∃(x:V) (T:String) (d:PyData),xs=[x,.ty T]/\a7 K H d x/\T∈["bool","int","str","list","tuple"]/\Q (.bl (isT (tyD d) T)) H
theorem pq (hK:X.K=K):D1 X (.builtin "isinstance") (xy K):=by
 subst hK
 intro pins s σ H xs us Q I r h
 obtain⟨x,T,d,rfl,hd,hT,q⟩:=h
 obtain⟨u,w',rfl,ru,rw'⟩:=xq r
 cases(show w'=Value.type T from rw')
 have e:=wd X.K (tyD d) (wH hd) T hT
 have fin:∀tk,EP X pins σ Q (.bool (isT (tyD d) T)) { s with toks:=tk }:=λtk=>⟨.bl (isT (tyD d) T),H,I.tok tk,rfl,q⟩
 cases d with
 | none =>
  simp only[a7]at hd;subst hd
  exact ag I ru .non e fin
 | bool b =>
  simp only[a7]at hd;subst hd
  exact ag I ru (.bl b) e fin
 | int i =>
  simp only[a7]at hd;subst hd
  exact ag I ru (.int i) e fin
 | str z =>
  simp only[a7]at hd;subst hd
  exact ag I ru (.str z) e fin
 | tuple ds =>
  obtain⟨a,xs,rfl,hq,hd'⟩:=hd.ofTup
  cases(show u=Value.ref a from ru)
  obtain⟨its,rv,⟨o,h1,h2,n,h3⟩,_⟩:=I.tuple hq
  exact PySem.W.kia_one PySem.W.kitx_tuple I.kIn ⟨_,h1,h2⟩ e (λz=>nomatch z) fin
 | list ds =>
  simp only[a7]at hd
  obtain⟨a,xs,rfl,hq,hd'⟩:=hd
  cases(show u=Value.ref a from ru)
  obtain⟨its,rv,p,_⟩:=I.list (SqL.of hq)
  obtain⟨o,h1,h2,n,h3⟩:=p.isList
  exact PySem.W.kia_one PySem.W.kitx_list I.kIn ⟨_,h1,h2⟩ e (λz=>nomatch z) fin
 | dict kvs=>simp only[a7]at hd
end
end
section
section
variable {X:Cx}{K:Fg}
end
end
section
section
variable {X:Cx}{K:Fg}
def Aa (K:Fg):List V->Hp->VK->Prop:=λxs H Q=>∃(a:Addr) (ns:List Int),xs=[.ref a]/\SqT K H a (ns.map V.int)/\ns≠[]/\∀m,m∈ns->(∀n∈ns,m<=n)->Q (.int m) H
theorem pL (hK:X.K=K)(hc:X.calm=true):D1 X (.builtin "min") (Aa K):=by
 subst hK
 intro pins s σ H xs us Q I r h
 obtain⟨a,ns,rfl,hq,hne,q⟩:=h
 obtain⟨u,rfl,ru⟩:=O7 r
 cases ru
 obtain⟨its,rv,p,hz⟩:=I.tuple hq
 have hlen:its.length=ns.length:=by rw[<-rv.length,List.length_map]
 have hpos:0<ns.length:=List.length_pos_iff.mpr hne
 have p':s.heap.IsTuple a its.toArray:=p
 have hlt:a<s.heap.objs.size:=by obtain⟨o,e,_⟩:=p;exact Heap.lt_size e
 have hval:∀(i:Nat) (v:Value),its.toArray[i]? = some v->∃t,v = .int (ns.getD i 0) t:=λi v hv=>by
  have hv:its[i]? = some v:=by simpa using hv
  obtain⟨hi,_⟩:=List.getElem?_eq_some_iff.mp hv
  have hb:(ns.map V.int)[i]? = some (V.int (ns.getD i 0)):=by
   rw[List.getElem?_map,List.getElem?_eq_getElem (by omega)]
   simp[List.getD,List.getElem?_eq_getElem (show i<ns.length by omega)]
  obtain⟨u,hu,ru⟩:=rv.get hb
  rw[hv]at hu
  cases hu
  exact ru
 refine call_min_walk (wpAny_pyIter_tuple p' ?_)
 have hne':a≠s.heap.objs.size:=Nat.ne_of_lt hlt
 refine⟨_,_,_,_,_,_,_,rfl,Walks.tuple (A:=X.A.in1) (I.ok.hd hc) _ a hne' its.toArray,⟨⟨_,Heap.get?_push_size _ rfl,rfl,rfl⟩,?_⟩,?_,?_,CmpOf.ints_lt (λi=>ns.getD i 0) hval,λv h' tk hP hk=>?_⟩
 .exact p'.at λo e=>Heap.get?_push_of_some _ e
 .intro b hb
  rw[Heap.size_push]
  have:b=s.heap.objs.size\/b=a:=by simpa using hb
  rcases this with e | e
  .rw[e];exact Nat.lt_succ_self _
  .rw[e];exact Nat.lt_succ_of_lt hlt
 .rw[List.size_toArray,hlen];exact hpos
 .obtain⟨h1,h2⟩:=argBest_lt (λi=>ns.getD i 0) (its.toArray.size-1)
  obtain⟨t,rfl⟩:=hval _ v hP
  have hsz:its.toArray.size=ns.length:=by rw[List.size_toArray,hlen]
  refine⟨.int _,H,I.kept λb o e=>hk b o (by simp;exact Nat.ne_of_lt (Heap.lt_size e)) (Heap.get?_push_of_some _ e),⟨t,rfl⟩,q _ ?_ λn hn=>?_⟩
  .exact getD_mem (by omega)
  .obtain⟨j,hj,rfl⟩:=mem_getD hn
   exact h2 j (by omega)
end
end
end L2
namespace L2
open PySem PyProof.Rows
theorem iO {prog:Program}{w:World}{A:Around}{E:Value->Shared->Prop}{s:Shared}{a b:Bool}{Q:Value->Shared->Prop}(h:Q (.bool (decide ((if a then(1:Int) else 0)<if b then 1 else 0))) s) :
  wpAny (model prog w) A (call (.builtin "int.__lt__") [.bool a,.bool b]) Q E s:=by
 refine wpAny_call_entry PySem.F.slot_bool_lt (T:="bool") rfl entry_int_lt ?_ (args_int_lt _ _)
 show wpAny _ _ (ret (.bool (decide ((if a then(1:Int) else 0)<if b then 1 else 0)))) _ _ s
 exact wpAny_pure ⟨_,rfl,h⟩
theorem mJ {prog:Program}{w:World}{A:Around}{E:Value->Shared->Prop}{s:Shared}{a b:Bool}{Q:Bool->Shared->Prop}(h:Q (decide ((if a then(1:Int) else 0)<if b then 1 else 0)) s):wpAny (model prog w) A (oneLt' true (.bool a) (.bool b)) Q E s:=by
 rw[oneLt'_eq]
 simp only[if_true]
 refine wpAny_bind (wpAny_cRoomFor_byValue rfl ?_)
 refine wpAny_bind (wpAny_callSpecialIfBound?_slot (T:="bool") rfl PySem.F.slot_bool_lt (iO ?_))
 exact wpAny_truthy_bool h
def Lx (κ:Nat->Int)(i j:Nat):Prop:=κ i < κ j\/(κ i = κ j/\i<j)
structure SB (kd:SortKind) (a0:Array Keyed) (st:SortSt):Prop where
 size:(arrOf st).size=a0.size
 kind:kindOf st=kd
 failed:failedOf st=none
 pend:pendingOf st = #[]
theorem SB.setArr {kd:SortKind}{a0:Array Keyed}{st:SortSt}(h:SB kd a0 st){xs:Array Keyed}(hp:xs.size=(arrOf st).size):SB kd a0 (PyProof.Rows.setArr st xs):=⟨hp.trans h.size,h.kind,h.failed,h.pend⟩
structure SG (kd:SortKind) (a0:Array Keyed) (st:SortSt) (p:Nat->Nat):Prop where
 base:SB kd a0 st
 inj:∀i j,i<a0.size->j<a0.size->p i=p j->i=j
 at_:∀i,i<a0.size->(arrOf st)[i]? = a0[p i]?
 lt:∀i,i<a0.size->p i<a0.size
def fS (prog:Program)(w:World)(A:Around)(s:Shared)(kd:SortKind)(a0:Array Keyed)(κ:Nat->Int):Prop :=
 ∀(i j:Nat) (x y:Keyed),i≠j->a0[i]? = some x->a0[j]? = some y->∀(E:Value->Shared->Prop) (Q:Bool->Shared->Prop),Q (decide (κ i < κ j)) s->wpAny (model prog w) A (keyLt' kd x.1 y.1) Q E s
def SoK (κ:Nat->Int)(p:Nat->Nat)(n:Nat):Prop:=∀i j,i<=j->j<n->κ (p i) <= κ (p j)
def SoS (κ:Nat->Int)(p:Nat->Nat)(n:Nat):Prop:=(∀i j,i<j->j<n->Lx κ (p i) (p j))/\(∀i,n<=i->p i=i)/\∀i,i<n->p i<n
theorem SoS.sorted {κ:Nat->Int}{p:Nat->Nat}{n:Nat}(h:SoS κ p n):SoK κ p n:=by
 intro i j hij hj
 by_cases e:i=j
 .subst e;exact Int.le_refl _
 .rcases h.1 i j (by omega) hj with q | q
  .exact Int.le_of_lt q
  .exact Int.le_of_eq q.1
theorem SoS.more {κ:Nat->Int}{p:Nat->Nat}{n m:Nat}(h:SoS κ p n)(hnm:n<=m)(hs:SoK κ p m):SoS κ p m:=by
 refine⟨λi j hij hj=>?_,λi hi=>h.2.1 i (by omega),λi hi=>?_⟩
 .by_cases hjn:j<n
  .exact h.1 i j hij hjn
  .have q:=hs i j (by omega) hj
   have ej:=h.2.1 j (by omega)
   rcases Int.lt_or_eq_of_le q with q | q
   .exact .inl q
   .refine .inr ⟨q,?_⟩
    rw[ej]
    by_cases hin:i<n
    .have:=h.2.2 i hin;omega
    .rw[h.2.1 i (by omega)];exact hij
 .by_cases hin:i<n
  .have:=h.2.2 i hin;omega
  .rw[h.2.1 i (by omega)];exact hi
section
variable {prog:Program}{w:World}{A:Around}{E:Value->Shared->Prop}{s:Shared}{a0:Array Keyed}{κ:Nat->Int}{kd:SortKind}
theorem kC {st:SortSt}{p:Nat->Nat}{i j:Nat}{Q:Option Bool->SortSt->Prop}(g:SG kd a0 st p)(hL:fS prog w A s kd a0 κ)(hi:i<a0.size)(hj:j<a0.size)(hij:i≠j)
  (h:Q (some (decide (κ (p i) < κ (p j)))) st):wpS (model prog w) A E s (ltAt' i j) Q st:=by
 have e1:=g.at_ i hi
 have e2:=g.at_ j hj
 have l1:=g.lt i hi
 have l2:=g.lt j hj
 have f1:a0[p i]? = some a0[p i]:=getElem?_pos a0 (p i) l1
 have f2:a0[p j]? = some a0[p j]:=getElem?_pos a0 (p j) l2
 rw[ltAt'_eq]
 refine wpS_bind (wpS_get ?_)
 show wpS _ _ _ _ (do let x <-elem' (arrOf st) i;let y <-elem' (arrOf st) j;lt' x y) Q st
 rw[elem'_eq,elem'_eq,e1,e2,f1,f2]
 refine wpS_bind (wpS_pure (wpS_bind (wpS_pure ?_)))
 rw[lt'_eq]
 refine wpS_bind (wpS_get ?_)
 rw[g.base.kind]
 refine wpS_bind (wpS_lift (wpAny_attempt (hL _ _ _ _ (λz=>hij (g.inj i j hi hj z)) f1 f2 _ _ ?_)))
 exact⟨rfl,wpS_pure h⟩
theorem SG.bub {st:SortSt}{p:Nat->Nat}(g:SG kd a0 st p){k l:Nat}(hk:k<a0.size)(hl:l<=k) :
  SG kd a0 (setArr st (bubble (arrOf st) k (k-l))) (λi=>if i=l then p k else if l<i/\i<=k then p (i-1) else p i):=by
 refine⟨g.base.setArr (bubble_size _ _ _),λi j hi hj e=>?_,λi hi=>?_,λi hi=>?_⟩
 .have q:=g.inj
  try dsimp only at e
  repeat' split at e
  all_goals first
   | omega
   | (have:=q _ _ (by omega) (by omega) e;omega)
 .have e:=getElem?_bubble (xs:=arrOf st) (src:=k) (by rw[g.base.size];exact hk) (k-l) (by omega) i
  rw[show k-(k-l)=l by omega]at e
  show(bubble (arrOf st) k (k-l))[i]? = _
  rw[e]
  repeat' split
  .exact g.at_ _ hk
  .exact g.at_ _ (by omega)
  .exact g.at_ _ hi
 .try dsimp only
  repeat' split
  .exact g.lt _ hk
  .exact g.lt _ (by omega)
  .exact g.lt _ hi
theorem SG.mir {st:SortSt}{p:Nat->Nat}(g:SG kd a0 st p){u v:Nat}(hv:v<=a0.size) :
  SG kd a0 (setArr st (mirror (arrOf st) u v ((v-u) / 2))) (λi=>if u<=i/\i<v then p (u+v-1-i) else p i):=by
 refine⟨g.base.setArr (mirror_size _ _ _ _),λi j hi hj e=>?_,λi hi=>?_,λi hi=>?_⟩
 .have q:=g.inj
  try dsimp only at e
  repeat' split at e
  all_goals first
   | omega
   | (have:=q _ _ (by omega) (by omega) e;omega)
 .have e:=getElem?_mirror_all (xs:=arrOf st) (i:=u) (j:=v) (by rw[g.base.size];exact hv) i
  show(mirror (arrOf st) u v ((v-u) / 2))[i]? = _
  rw[e]
  repeat' split
  .exact g.at_ _ (by omega)
  .exact g.at_ _ hi
 .try dsimp only
  split
  .exact g.lt _ (by omega)
  .exact g.lt _ hi
theorem qa {st:SortSt}{p:Nat->Nat}{n ok:Nat}{Q:Bool->SortSt->Prop}(hL:fS prog w A s kd a0 κ)(hn:n<=a0.size)(hok:ok<=n)(hB:SG kd a0 st p)(hs:SoS κ p ok)
  (h:∀st' p',SG kd a0 st' p'->SoS κ p' n->Q true st'):wpS (model prog w) A E s (binarySort' 0 n ok) Q st:=by
 rw[binarySort'_eq]
 simp only[Nat.zero_add]
 refine wpS_bind (wpS_mono (wpS_forRange (I:=λk c st'=>c=(none,())/\∃p',SG kd a0 st' p'/\SoS κ p' (min k n))
  (Q:=λc st'=>c=(none,())/\∃p',SG kd a0 st' p'/\SoS κ p' n) ?step ?fin ?init) ?post)
 case post =>
  rintro c st' ⟨rfl,p',hB',hs'⟩
  exact wpS_pure (h st' p' hB' hs')
 case init =>
  refine⟨rfl,p,hB,?_⟩
  by_cases h1:ok=0
  .subst h1
   refine hs.more (by omega) λi j hij hj=>?_
   have:i=j:=by omega
   subst this;exact Int.le_refl _
  .rw[show min (max ok 1) n=ok by omega];exact hs
 case fin =>
  rintro c st' ⟨hc,p',hB',hs'⟩
  refine⟨hc,p',hB',?_⟩
  rwa [show min (max (max ok 1) n) n=n by omega]at hs'
 case step =>
  rintro k c st' hak hkn ⟨rfl,p',hG',hS'⟩
  rw[show min k n=k by omega]at hS'
  have hk:k<a0.size:=by omega
  have hs':=hS'.sorted
  have hB':=hG'.base
  refine wpS_bind (wpS_mono (wpS_forRange (I:=λx c st''=>st''=st'/\∃l r,c=(none,l,r)/\l<=r/\r<=k/\r-l<=k-x /\
    (∀i,i<l->κ (p' i) <= κ (p' k))/\(∀i,r<=i->i<k->κ (p' k) < κ (p' i)))
   (Q:=λc st''=>st''=st'/\∃l r,c=(none,l,r)/\l<=k /\
    (∀i,i<l->κ (p' i) <= κ (p' k))/\(∀i,l<=i->i<k->κ (p' k) < κ (p' i))) ?istep ?ifin ?iinit) ?ipost)
  case iinit=>exact⟨rfl,0,k,rfl,by omega,by omega,by omega,λi hi=>by omega,λi h1 h2=>by omega⟩
  case ifin =>
   rintro c st'' ⟨rfl,l,r,rfl,hlr,hrk,hm,hlo,hhi⟩
   have:l=r:=by omega
   subst this
   exact⟨rfl,l,l,rfl,hrk,hlo,hhi⟩
  case istep =>
   rintro x c st'' _ hxk ⟨rfl,l,r,rfl,hlr,hrk,hm,hlo,hhi⟩
   dsimp only
   by_cases hge:l >= r
   .rw[if_pos hge]
    have:l=r:=by omega
    subst this
    exact wpS_pure ⟨rfl,l,l,rfl,hrk,hlo,hhi⟩
   .rw[if_neg hge]
    refine wpS_bind (kC hG' hL hk (by omega) (by omega) ?_)
    by_cases hless:κ (p' k) < κ (p' ((l+r) / 2))
    .simp only[hless,decide_true,if_true]
     refine wpS_pure ⟨rfl,l,(l+r) / 2,rfl,by omega,by omega,by omega,hlo,λi h1 h2=>?_⟩
     exact Int.lt_of_lt_of_le hless (hs' _ _ h1 h2)
    .simp only[hless,decide_false,Bool.false_eq_true,if_false]
     refine wpS_pure ⟨rfl,(l+r) / 2+1,r,rfl,by omega,by omega,by omega,λi h1=>?_,hhi⟩
     exact Int.le_trans (hs' i ((l+r) / 2) (by omega) (by omega)) (Int.not_lt.mp hless)
  case ipost =>
   rintro c st'' ⟨rfl,l,r,rfl,hlk,hlo,hhi⟩
   show wpS _ _ _ _ (do moveDown' k l;pure (ForInStep.yield (none,()))) _ _
   rw[moveDown'_eq]
   refine wpS_bind (wpS_modify (wpS_pure ⟨rfl,_,hG'.bub hk hlk,?_⟩))
   rw[show min (k+1) n=k+1 by omega]
   have ek:=hS'.2.1 k (Nat.le_refl _)
   have lo':∀i,i<l->Lx κ (p' i) (p' k):=λi hi=>by
    have q:=hlo i hi
    rcases Int.lt_or_eq_of_le q with q | q
    .exact .inl q
    .refine .inr ⟨q,?_⟩
     rw[ek];exact hS'.2.2 i (by omega)
   have hi':∀i,l<=i->i<k->Lx κ (p' k) (p' i):=λi h1 h2=>by
    have q:=hhi i h1 h2
    exact .inl q
   refine⟨λi j hij hj=>?_,λi hi=>?_,λi hi=>?_⟩
   .dsimp only
    repeat' split
    all_goals first
     | (exfalso;omega)
     | exact lo' _ (by omega)
     | exact hi' _ (by omega) (by omega)
     | exact hS'.1 _ _ (by omega) (by omega)
   .dsimp only
    rw[if_neg (by omega),if_neg (by omega)]
    exact hS'.2.1 i (by omega)
   .dsimp only
    repeat' split
    .rw[ek];omega
    .have:=hS'.2.2 (i-1) (by omega);omega
    .have:=hS'.2.2 i (by omega);omega
theorem uh {st:SortSt}{p:Nat->Nat}{a nrem:Nat}{Q:AscSt->SortSt->Prop}(hL:fS prog w A s kd a0 κ)(hn:nrem<=a0.size)(ha:1<=a)(han:a<=nrem)(hG:SG kd a0 st p)
  (hs:SoK κ p a)
  (h:∀n,a<=n->n<=nrem->SoK κ p n->(n=nrem \/ κ (p n) < κ (p (n-1)))->Q (none,n) st) :
  wpS (model prog w) A E s (ascLoop a nrem) Q st:=by
 unfold ascLoop
 refine wpS_forRange (I:=λx c st'=>st'=st/\c=(none,x)/\SoK κ p x) ?step ?fin ⟨rfl,rfl,hs⟩
 case fin =>
  rintro c st' ⟨rfl,rfl,hs'⟩
  rw[show max a nrem=nrem by omega]at hs' ⊢
  exact h nrem han (Nat.le_refl _) hs' (.inl rfl)
 case step =>
  rintro x c st' hax hxn ⟨rfl,rfl,hs'⟩
  dsimp only
  refine wpS_bind (kC hG hL (by omega) (by omega) (by omega) ?_)
  by_cases hless:κ (p x) < κ (p (x-1))
  .simp only[hless,decide_true,if_true]
   exact wpS_pure (h x hax (by omega) hs' (.inr hless))
  .simp only[hless,decide_false,Bool.false_eq_true,if_false]
   refine wpS_pure ⟨rfl,rfl,λi j hij hj=>?_⟩
   by_cases hjx:j<x
   .exact hs' i j hij hjx
   .have hj':j=x:=by omega
    subst hj'
    by_cases hi':i=j
    .subst hi';exact Int.le_refl _
    .exact Int.le_trans (hs' i (j-1) (by omega) (by omega)) (Int.not_lt.mp hless)
def DoS (κ:Nat->Int)(p:Nat->Nat)(n:Nat):Prop:=(∀i j,i<j->j<n->Lx κ (p j) (p i))/\(∀i,n<=i->p i=i)/\∀i,i<n->p i<n
theorem jN {st:SortSt}{p:Nat->Nat}{n nrem:Nat}{Q:Option Nat->SortSt->Prop}(hL:fS prog w A s kd a0 κ)(hn:nrem<=a0.size)(h1:1<=n)(hnn:n<=nrem)(hB:SG kd a0 st p)
  (hs:DoS κ p n) (h:∀m st' p',SG kd a0 st' p'->1<=m->m<=nrem->SoS κ p' m->Q (some m) st') :
  wpS (model prog w) A E s (tail3 n nrem) Q st:=by
 unfold tail3
 refine wpS_bind (wpS_reverse ?_)
 have hG:=hB.mir (u:=0) (v:=n) (by omega)
 have hS:SoS κ (λi=>if 0<=i/\i<n then p (0+n-1-i) else p i) n:=by
  refine⟨λi j hij hj=>?_,λi hi=>?_,λi hi=>?_⟩
  .dsimp only
   rw[if_pos (by omega),if_pos (by omega)]
   exact hs.1 _ _ (by omega) (by omega)
  .dsimp only
   rw[if_neg (by omega)]
   exact hs.2.1 i hi
  .dsimp only
   rw[if_pos (by omega)]
   exact hs.2.2 _ (by omega)
 exact wpS_bind (uh hL hn h1 hnn hG hS.sorted λm hm1 hm2 hsm _=>wpS_pure (h m _ _ hG (by omega) hm2 (hS.more hm1 hsm)))
def GoS (κ:Nat->Int)(p:Nat->Nat)(g n:Nat):Prop :=
 DoS κ p g/\g<n/\(∀i,g<=i->i<n->κ i = κ (n-1))/\∀i,i<g->κ (n-1) < κ (p i)
theorem GoS.close {st:SortSt}{p:Nat->Nat}{g n:Nat}(hG:SG kd a0 st p)(h:GoS κ p g n)(hn:n<=a0.size):DoS κ (λi=>if g<=i/\i<n then p (g+n-1-i) else p i) n:=by
 obtain⟨hd,hg,he,hl⟩:=h
 refine⟨λi j hij hj=>?_,λi hi=>?_,λi hi=>?_⟩
 .dsimp only
  by_cases h1:g<=i
  .rw[if_pos (by omega),if_pos (by omega),hd.2.1 _ (by omega),hd.2.1 _ (by omega)]
   refine .inr ⟨?_,by omega⟩
   rw[he _ (by omega) (by omega),he (g+n-1-i) (by omega) (by omega)]
  .by_cases h2:g<=j
   .rw[if_pos (by omega),if_neg (by omega),hd.2.1 _ (by omega)]
    refine .inl ?_
    rw[he _ (by omega) (by omega)]
    exact hl i (by omega)
   .rw[if_neg (by omega),if_neg (by omega)]
    exact hd.1 i j hij (by omega)
 .dsimp only
  rw[if_neg (by omega)]
  exact hd.2.1 i (by omega)
 .dsimp only
  split
  .rw[hd.2.1 _ (by omega)];omega
  .have:=hd.2.2 i (by omega);omega
theorem GoS.close1 {p:Nat->Nat}{g n:Nat}(h:GoS κ p g n)(e:n=g+1):DoS κ p n:=by
 obtain⟨hd,hg,he,hl⟩:=h
 subst e
 refine⟨λi j hij hj=>?_,λi hi=>hd.2.1 i (by omega),λi hi=>?_⟩
 .by_cases h2:j<g
  .exact hd.1 i j hij h2
  .have:j=g:=by omega
   subst this
   rw[hd.2.1 j (Nat.le_refl _)]
   exact .inl (hl i hij)
 .by_cases h2:i<g
  .have:=hd.2.2 i h2;omega
  .rw[hd.2.1 i (by omega)];exact hi
theorem uW {st:SortSt}{p:Nat->Nat}{n nrem:Nat}{Q:DescSt->SortSt->Prop}(hL:fS prog w A s kd a0 κ)(hn:nrem<=a0.size)(h1:1<=n)(hnn:n<=nrem)(hB:SG kd a0 st p)
  (hs:GoS κ p (n-1) n)
  (h:∀m neq st' p',SG kd a0 st' p'->n<=m->m<=nrem->neq+1<=m->GoS κ p' (m-(neq+1)) m->Q (none,m,neq) st') :
  wpS (model prog w) A E s (descLoop n nrem) Q st:=by
 unfold descLoop
 refine wpS_forRange (I:=λx c st'=>∃neq p',c=(none,x,neq)/\SG kd a0 st' p'/\neq+1<=x/\GoS κ p' (x-(neq+1)) x) ?step ?fin ⟨0,p,rfl,hB,by omega,hs⟩
 case fin =>
  rintro c st' ⟨neq,p',rfl,hG',hq,hS'⟩
  rw[show max n nrem=nrem by omega]at hq hS' ⊢
  exact h nrem neq st' p' hG' hnn (Nat.le_refl _) hq hS'
 case step =>
  rintro x c st' hax hxn ⟨neq,p',rfl,hG',hq,hS'⟩
  dsimp only
  refine wpS_bind (kC hG' hL (by omega) (by omega) (by omega) ?_)
  have k1:p' x=x:=hS'.1.2.1 x (by omega)
  have k2:p' (x-1)=x-1:=hS'.1.2.1 (x-1) (by omega)
  rw[k1,k2]
  have put:∀{p2:Nat->Nat},κ x < κ (x-1)->DoS κ p2 x->(∀i,i<x->κ (x-1) <= κ (p2 i))->GoS κ p2 (x+1-(0+1)) (x+1):=by
   intro p2 hless d ge
   rw[show x+1-(0+1)=x by omega]
   refine⟨d,by omega,λi h1 h2=>?_,λi hi=>?_⟩
   .rw[show i=x by omega];rfl
   .exact Int.lt_of_lt_of_le hless (ge i hi)
  have ge0:∀i,i<x->κ (x-1) <= κ (p' i):=λi hi=>by
   by_cases hg:i<x-(neq+1)
   .exact Int.le_of_lt (hS'.2.2.2 i hg)
   .rw[hS'.1.2.1 i (by omega)]
    exact Int.le_of_eq (hS'.2.2.1 i (by omega) hi).symm
  by_cases hless:κ x < κ (x-1)
  .simp only[hless,decide_true,if_true]
   by_cases hneq:neq > 0
   .rw[if_pos hneq]
    have hG2:=hG'.mir (u:=x-(neq+1)) (v:=x) (by omega)
    refine wpS_bind (wpS_reverse (wpS_pure ⟨0,_,rfl,hG2,by omega,put hless (hS'.close hG' (by omega)) λi hi=>?_⟩))
    try dsimp only
    split
    .exact ge0 _ (by omega)
    .exact ge0 _ hi
   .rw[if_neg hneq]
    exact wpS_pure ⟨0,p',rfl,hG',by omega,put hless (hS'.close1 (by omega)) ge0⟩
  .simp only[hless,decide_false,Bool.false_eq_true,if_false]
   refine wpS_bind (kC hG' hL (by omega) (by omega) (by omega) ?_)
   rw[k1,k2]
   by_cases hlarger:κ (x-1) < κ x
   .simp only[hlarger,decide_true,if_true]
    exact wpS_pure (h x neq st' p' hG' hax (by omega) hq hS')
   .simp only[hlarger,decide_false,Bool.false_eq_true,if_false]
    have heqx:κ x = κ (x-1):=by omega
    refine wpS_pure ⟨neq+1,p',rfl,hG',by omega,?_⟩
    rw[show x+1-(neq+1+1)=x-(neq+1) by omega]
    refine⟨hS'.1,by omega,λi h1 h2=>?_,λi hi=>?_⟩
    .rw[show x+1-1=x by omega]
     by_cases hix:i=x
     .subst hix;rfl
     .rw[heqx];exact hS'.2.2.1 i h1 (by omega)
    .rw[show x+1-1=x by omega,heqx];exact hS'.2.2.2 i hi
theorem dM {st:SortSt}{p:Nat->Nat}{n nrem:Nat}{Q:Option Nat->SortSt->Prop}(hL:fS prog w A s kd a0 κ)(hn:nrem<=a0.size)(hnn:n+1<=nrem)(hB:SG kd a0 st p)
  (hs:GoS κ p n (n+1)) (h:∀m st' p',SG kd a0 st' p'->1<=m->m<=nrem->SoS κ p' m->Q (some m) st') :
  wpS (model prog w) A E s (descPart n nrem) Q st:=by
 unfold descPart
 refine wpS_bind (wpS_lift (wpAny_rule ⟨rfl,?_⟩))
 refine wpS_bind (uW hL hn (by omega) hnn hB hs λm neq st' p' hG' hm1 hm2 hq hS'=>?_)
 dsimp only
 by_cases hneq:neq > 0
 .rw[if_pos hneq]
  exact wpS_bind (wpS_reverse (jN hL hn (by omega) hm2 (hG'.mir (by omega)) (hS'.close hG' (by omega)) h))
 .rw[if_neg hneq]
  exact jN hL hn (by omega) hm2 hG' (hS'.close1 (by omega)) h
theorem tI {st:SortSt}{nrem:Nat}{Q:Option Nat->SortSt->Prop}(hL:fS prog w A s kd a0 κ)(hn:nrem<=a0.size)(h1:1<=nrem)(hB:SG kd a0 st id)
  (h:∀m st' p',SG kd a0 st' p'->1<=m->m<=nrem->SoS κ p' m->Q (some m) st') :
  wpS (model prog w) A E s (countRun' 0 nrem) Q st:=by
 rw[countRun0_eq]
 have S0:SoS κ id 0:=⟨λi j _ hj=>by omega,λi _=>rfl,λi hi=>by omega⟩
 have one:SoK κ id 1:=λi j hij hj=>by
  have:i=j:=by omega
  subst this;exact Int.le_refl _
 refine wpS_bind (uh hL hn (Nat.le_refl 1) h1 hB one λn hn1 hn2 hsn hor=>?_)
 dsimp only
 by_cases hnn:n=nrem
 .rw[if_pos (by simpa using hnn)]
  exact wpS_pure (h n st id hB hn1 hn2 (S0.more (by omega) hsn))
 .rw[if_neg (by simpa using hnn)]
  have hlt:κ n < κ (n-1):=hor.resolve_left hnn
  by_cases hgt:n > 1
  .rw[if_pos hgt]
   refine wpS_bind (kC hB hL (by omega) (by omega) (by omega) ?_)
   simp only[id]
   by_cases hrose:κ 0 < κ (n-1)
   .simp only[hrose,decide_true,if_true]
    exact wpS_pure (h n st id hB hn1 hn2 (S0.more (by omega) hsn))
   .simp only[hrose,decide_false,Bool.false_eq_true,if_false]
    have hall:∀j,j<n->κ j = κ (n-1):=by
     intro j hk
     have a1:κ 0 <= κ j:=hsn 0 j (by omega) hk
     have a2:κ j <= κ (n-1):=hsn j (n-1) (by omega) (by omega)
     omega
    refine wpS_bind (wpS_reverse (dM hL hn (by omega) (hB.mir (by omega)) ?_ h))
    refine⟨⟨λi j hij hj=>?_,λi hi=>?_,λi hi=>?_⟩,by omega,λi h1 h2=>?_,λi hi=>?_⟩
    .dsimp only
     rw[if_pos (by omega),if_pos (by omega)]
     refine .inr ⟨?_,by simp only[id];omega⟩
     simp only[id]
     rw[hall _ (by omega),hall (0+n-1-i) (by omega)]
    .dsimp only
     rw[if_neg (by omega)];rfl
    .dsimp only
     rw[if_pos (by omega)];simp only[id];omega
    .rw[show i=n by omega];rfl
    .dsimp only
     rw[if_pos (by omega)];simp only[id]at hlt ⊢
     rw[hall (0+n-1-i) (by omega),show n+1-1=n by omega]
     exact hlt
  .rw[if_neg hgt]
   have hn1':n=1:=by omega
   subst hn1'
   refine dM hL hn (by omega) hB ⟨⟨λi j hij hj=>by omega,λi hi=>rfl,λi hi=>hi⟩,by omega,λi h1 h2=>?_,λi hi=>?_⟩ h
   .rw[show i=1 by omega]
   .rw[show i=0 by omega];exact hlt
def lL (κ:Nat->Int)(a0:Array Keyed)(st:SortSt):Prop :=
 failedOf st=none/\pendingOf st = #[(0,a0.size,0)]/\(arrOf st).size=a0.size/\∃p,(∀i,i<a0.size->(arrOf st)[i]? = a0[p i]?)/\SoS κ p a0.size
theorem SG.done {st:SortSt}{p:Nat->Nat}(g:SG kd a0 st p)(h:SoS κ p a0.size):lL κ a0 (setPending st ((pendingOf st).push (0,a0.size,0))) :=
 ⟨g.base.failed,by show(pendingOf st).push _=_;rw[g.base.pend];rfl,g.base.size,p,g.at_,h⟩
theorem nI {st:SortSt}{Q:Unit->SortSt->Prop}(hL:fS prog w A s kd a0 κ)(hB:SG kd a0 st id)(h2:2<=a0.size)(h64:a0.size<64)
  (h:∀st',failedOf st'=none->(arrOf st').size=a0.size->(∃p,(∀i,i<a0.size->(arrOf st')[i]? = a0[p i]?)/\SoS κ p a0.size)->Q () st'):wpS (model prog w) A E s sortRuns' Q st:=by
 rw[sortRuns'_eq]
 refine wpS_bind (wpS_get ?_)
 dsimp only
 have hmr:minRun' a0.size a0.size 0=a0.size:=by
  obtain⟨f,hf⟩:∃f,a0.size=f+1:=⟨a0.size-1,by omega⟩
  have:minRun' (f+1) a0.size 0=a0.size:=by rw[minRun'_succ,if_pos h64];rfl
  rwa [<-hf]at this
 simp only[hB.base.size,hmr]
 refine wpS_bind (wpS_mono (wpS_forRange
  (I:=λx c st'=>(x=0/\c=(none,0)/\SG kd a0 st' id)\/(1<=x/\c=(none,a0.size)/\lL κ a0 st'))
  (Q:=λc st'=>c=(none,a0.size)/\lL κ a0 st') ?step ?fin (.inl ⟨rfl,rfl,hB⟩)) ?post)
 case fin =>
  rintro c st' (⟨hx,_,_⟩ | ⟨_,hc,hD⟩)
  .omega
  .exact⟨hc,hD⟩
 case step =>
  rintro x c st' _ hx (⟨rfl,rfl,hB'⟩ | ⟨hx1,rfl,hD⟩)
  .dsimp only
   rw[if_neg (by omega)]
   simp only[Nat.sub_zero,Nat.min_self,Nat.zero_add]
   refine wpS_bind (tI hL (Nat.le_refl _) (by omega) hB' λm st2 p2 hB2 hm1 hm2 hs2=>?_)
   dsimp only
   by_cases hlt:m<a0.size
   .rw[if_pos hlt]
    refine wpS_bind (wpS_lift (wpAny_rule ⟨rfl,?_⟩))
    refine wpS_bind (qa hL (Nat.le_refl _) hm2 hB2 hs2 λst3 p3 hB3 hs3=>?_)
    simp only[Bool.not_true,Bool.false_eq_true,if_false]
    refine wpS_bind (wpS_get ?_)
    have hb:(pendingOf st3).back? = none:=by rw[hB3.base.pend];rfl
    rw[hb]
    dsimp only
    exact wpS_bind (wpS_modify (wpS_pure (.inr ⟨by omega,rfl,hB3.done hs3⟩)))
   .rw[if_neg hlt]
    have hm:m=a0.size:=by omega
    subst hm
    refine wpS_bind (wpS_get ?_)
    have hb:(pendingOf st2).back? = none:=by rw[hB2.base.pend];rfl
    rw[hb]
    dsimp only
    exact wpS_bind (wpS_modify (wpS_pure (.inr ⟨by omega,rfl,hB2.done hs2⟩)))
  .dsimp only
   rw[if_pos (Nat.le_refl _)]
   exact wpS_pure ⟨rfl,hD⟩
 case post =>
  rintro c st' ⟨rfl,hD⟩
  dsimp only
  refine wpS_bind (wpS_mono (wpS_forRange (I:=λ_ c st''=>st''=st'/\c=(none,())) (Q:=λc st''=>st''=st'/\c=(none,())) ?_ (λ_ _ hh=>hh) ⟨rfl,rfl⟩) ?_)
  .rintro x c st'' _ _ ⟨rfl,rfl⟩
   refine wpS_bind (wpS_get ?_)
   rw[if_pos (by rw[hD.2.1];exact Nat.le_refl 1)]
   exact wpS_pure ⟨rfl,rfl⟩
  .rintro c st'' ⟨rfl,rfl⟩
   exact wpS_pure (h _ hD.1 hD.2.2.1 hD.2.2.2)
end
end L2
namespace L2
open PySem PySem.Spec PyProof.Rows PySem.W
section
def cdO (c:Addr)(q:Str):HO:=.ext λh=>h.CodeRec (.ref c) q
def gy (H:Hp)(P:Addr)(q:Str):Prop:=∃ps,H P=some (.tbl ps)/\TriplesOk ps.toList/\∀pos cv,codeAmong pos ps.toList=some cv->∃c,cv = .ref c/\H c=some (cdO c q)
theorem lR {q p:Pos}{c cv:Value}:∀(l:List Value),TriplesOk l->codeAmong q (l++[rawInt p.line,rawInt p.col,c])=some cv->codeAmong q l=some cv\/cv=c:=by
 intro l h e
 fun_induction TriplesOk l with
 | case1 =>
  simp only[List.nil_append,codeAmong,rawInt]at e
  split at e
  .exact .inr (Option.some.inj e).symm
  .cases e
 | case2 a b c' d e' rest ih =>
  simp only[List.cons_append,codeAmong]at e ⊢
  split
  .rename_i h1
   rw[if_pos h1]at e
   exact .inl e
  .rename_i h1
   rw[if_neg h1]at e
   exact ih h e
 | case3=>exact h.elim
def BMd (base:Heap)(mg:Str->Option Value):Prop:=∃bm ob,mg "__builtins__" = some (.ref bm)/\bm≠builtinsNs/\base.get? bm=some ob/\ob.cls = .type "module" /\ ob.dict=some builtinsNs/\ob.data = .plain
def yL (P:Addr)(q:Str)(H H':Hp):Prop:=H'=H\/∃ps more c,H P=some (.tbl ps)/\H c=none/\c≠P/\H'=upd (upd H P (.tbl (ps++more))) c (cdO c q)
theorem sY {c:Addr}{q:Str}:∀h1 h2:Heap,h1.CodeRec (.ref c) q->(∀o,h1.get? c=some o->h2.get? c=some o)->h2.CodeRec (.ref c) q:=λh1 h2 ⟨c',o,vs,t,e,g,r⟩ k=>by
 cases e
 exact⟨c,o,vs,t,rfl,k o g,r⟩
section
variable {X:Cx}{pins:List (Addr×Obj)}{σ:St}{H:Hp}{s:Shared}
theorem Inv.pin1 {a:Addr}{o:Obj}(I:Inv X pins σ H s)(ho:s.heap.get? a=some o)(hH:H a=none)(hL:a≠X.env.locals)(hf:a ∉ X.fs)(hd:∀v,o.data ≠ .cell v):Inv X ((a,o)::pins) σ H s :=
 I.pins_of λp hp=>by
  rcases List.mem_cons.mp hp with rfl | hp
  .exact⟨ho,hH,hL,hf,hd⟩
  .exact I.pin p (List.mem_append_right _ hp)
theorem Inv.pinFresh {a:Addr}{o:Obj}{s0:Shared}{pins0:List (Addr×Obj)}{σ0:St}{H0:Hp}(I:Inv X pins σ H s)(I0:Inv X pins0 σ0 H0 s0)(ho:s.heap.get? a=some o)(h:s0.heap.objs.size<=a)(hH:H a=none)(hd:∀v,o.data ≠ .cell v):Inv X ((a,o)::pins) σ H s :=
 I.pin1 ho hH (λe=>absurd (Nat.lt_of_lt_of_le I0.lt h) (by rw[e];exact Nat.lt_irrefl _)) (I0.nofs h) hd
theorem uf {params:Arguments}{body:Expr}{scope:Scope}{lpos:Pos}{c P:Addr}{q:Str}{cl:List (Str×Addr)}{Q:Value->Shared->Prop}(I:Inv X pins σ H s)(hdef:defaultsOf params X.env=([],[]))(hcl:closureFor scope X.env=pure cl)
  (hcode:X.env.code = .ref c) (C:CodeHd X.base c P) (BM:BMd X.base X.mg) (T:gy H P q) (hq:X.env.qual ++ "<lambda>" = q)
  (h:∀f c' ctv H' s',yL P q H H'->gy H' P q->H' c'=some (cdO c' q)->Inv X ((f,kla_obj "<lambda>" q params body scope cl ((X.mg "__name__").getD .none) c' ctv)::pins) σ H' s'->Q (.ref f) s') :
  wpAny (model X.prog X.w) X.A (eval (.Lambda params body scope lpos) X.env) Q X.xe s:=by
 subst hq
 obtain⟨ps,hP,ht,hall⟩:=T
 have hP':s.heap.get? P=some (tabObj ps):=I.hok P _ hP
 have hg:s.heap.Ns mainGlobals X.mg:=I.mod.glob.keeps I.bk
 obtain⟨bm,ob,b1,b2,b3,b4,b5,b6⟩:=BM
 have hgP:mainGlobals≠P:=λq=>by
  obtain⟨o,es,ep,e,hd,_⟩:=hg
  rw[q,hP']at e;cases e;cases hd
 have hbP:bm≠P:=λq=>by
  have e:=I.bk _ _ b3
  rw[q,hP']at e;cases e;cases b4
 have hbG:bm≠mainGlobals:=λq=>by
  obtain⟨o,es,ep,e,hd,_⟩:=I.mod.glob
  rw[q,e]at b3;cases b3;rw[hd]at b6;cases b6
 have hB:s.heap.BuiltinsAt X.mg P:=⟨bm,ob,b1,b2,hbG,hbP,I.bk _ _ b3,b4,b5,b6⟩
 refine kla_eval hdef ?_
 cases hf:codeAmong lpos ps.toList with
 | some cv =>
  obtain⟨c',rfl,hc'⟩:=hall _ _ hf
  refine kla_makeFunctionHit hcl I.ok.glob hg hcode (C.keeps I.bk) hP' ht hf hB λctv h' tk hk hsz=>?_
  have I1:Inv X pins σ H { s with heap:=h'.push (kla_obj "<lambda>" (X.env.qual ++ "<lambda>") params body scope cl ((X.mg "__name__").getD .none) c' ctv),toks:=tk }:=I.kept λb o e=>Heap.get?_push_of_some _ (hk b o e)
  exact h _ c' ctv H _ (.inl rfl) ⟨ps,hP,ht,hall⟩ hc' (I1.pinFresh I (Heap.get?_push_size _ rfl) hsz (I.hok.fresh hsz) (λv e=>nomatch e))
 | none =>
  refine kla_makeFunction hcl I.ok.glob hg hcode (C.keeps I.bk) hP' ht hf hgP hB λc' ctv h' tk hx hge hlt hrec htb=>?_
  have hcP:c'≠P:=λe=>absurd (Nat.lt_of_lt_of_le (Heap.lt_size hP') hge) (by rw[e];exact Nat.lt_irrefl _)
  have hcn:H c'=none:=I.hok.fresh hge
  have hk:∀b o,b≠P->s.heap.get? b=some o->(h'.push (kla_obj "<lambda>" (X.env.qual ++ "<lambda>") params body scope cl ((X.mg "__name__").getD .none) c' ctv)).get? b=some o:=λb o hb e=>Heap.get?_push_of_some _ (hx b o hb e)
  have hrec':=hrec.push (kla_obj "<lambda>" (X.env.qual ++ "<lambda>") params body scope cl ((X.mg "__name__").getD .none) c' ctv)
  have htb':=Heap.get?_push_of_some (kla_obj "<lambda>" (X.env.qual ++ "<lambda>") params body scope cl ((X.mg "__name__").getD .none) c' ctv) htb
  have hsz:s.heap.objs.size<=h'.objs.size:=Nat.le_trans hge (Nat.le_of_lt hlt)
  generalize hH':upd (upd H P (.tbl (ps ++ #[rawInt lpos.line,rawInt lpos.col,.ref c']))) c' (cdO c' (X.env.qual ++ "<lambda>"))=H'
  have a1:H' c'=some (cdO c' (X.env.qual ++ "<lambda>")):=by rw[<-hH'];exact b9
  have a2:H' P=some (.tbl (ps ++ #[rawInt lpos.line,rawInt lpos.col,.ref c'])):=by rw[<-hH',a9 hcP.symm];exact b9
  have a3:∀b,b≠c'->b≠P->H' b=H b:=λb h1 h2=>by rw[<-hH',a9 h1,a9 h2]
  have ne:∀b o,H b=some o->b≠c':=λb o e z=>by rw[z,hcn]at e;cases e
  generalize hh2:h'.push (kla_obj "<lambda>" (X.env.qual ++ "<lambda>") params body scope cl ((X.mg "__name__").getD .none) c' ctv)=h2 at hk hrec' htb'
  have un:Un X.fs [] H H' s.heap h2:=by
   refine⟨λb o e n _ _=>hk b o (λz=>by rw[z,hP]at n;cases n) e,λb o e n _ _=>⟨o.slots,hk b o (λz=>by rw[z,hP]at n;cases n) e⟩,λb o e n _=>?_,λb o e _=>?_,λb xs e=>?_,λb o u e=>?_,λb qs e=>?_⟩
   .rw[a3 b (λz=>absurd (Nat.lt_of_lt_of_le (Heap.lt_size e) hge) (by rw[z];exact Nat.lt_irrefl _)) λz=>by rw[z,hP]at n;cases n]
    exact n
   .by_cases hb:b=P
    .exact⟨_,by rw[hb];exact htb'⟩
    .exact⟨o,hk b o hb e⟩
   .rw[a3 b (ne b _ e) λz=>by rw[z,hP]at e;cases e];exact e
   .rw[a3 b (ne b _ e) λz=>by rw[z,hP]at e;cases e];exact e
   .by_cases hb:b=P
    .subst hb
     rw[hP]at e;cases e
     exact⟨_,a2⟩
    .exact⟨#[],by rw[a3 b (ne b _ e) hb,e];simp⟩
  have ok:HOk X.prog X.w H' h2:=by
   intro b u e
   by_cases hb:b=c'
   .subst hb
    rw[a1]at e;cases e
    obtain⟨c2,o,vs,t,e2,g,r⟩:=id hrec'
    cases e2
    exact⟨hrec',⟨o,g⟩,sY⟩
   .by_cases hbP':b=P
    .subst hbP'
     rw[a2]at e;cases e
     exact htb'
    .rw[a3 b hb hbP']at e
     refine(I.hok b u e).stay (λb2 u2 hc q=>hk b2 u2 ?_ q) (λb2 q=>?_) λb2 xs q=>?_
     .rcases hc with z | z
      .rw[z];exact hbP'
      .intro z2;rw[z2,hP]at z;cases z
     .rw[a3 b2 (ne b2 _ q) λz=>by rw[z,hP]at q;cases q];exact q
     .rw[a3 b2 (ne b2 _ q) λz=>by rw[z,hP]at q;cases q];exact q
  have I1:Inv X pins σ H' { s with heap:=h2,toks:=tk }:=I.un un ok
  have hfn:H' h'.objs.size=none:=by
   rw[a3 _ (Nat.ne_of_gt hlt) λz=>absurd (Nat.lt_of_lt_of_le (Heap.lt_size hP') hsz) (by rw[z];exact Nat.lt_irrefl _)]
   exact I.hok.fresh hsz
  refine h _ c' ctv H' _ (.inr ⟨ps,_,c',hP,hcn,hcP,hH'.symm⟩) ⟨_,a2,?_,λpos cv e=>?_⟩ a1 (I1.pinFresh I (by rw[<-hh2];exact Heap.get?_push_size _ rfl) hsz hfn (λv e=>nomatch e))
  .rw[Array.toList_append];exact TriplesOk_snoc _ _ _ _ ht
  .rw[Array.toList_append]at e
   rcases lR _ ht e with e | e
   .obtain⟨c2,r1,r2⟩:=hall _ _ e
    refine⟨c2,r1,?_⟩
    by_cases hb:c2=c'
    .subst hb;exact a1
    .rw[a3 c2 hb λz=>by rw[z,hP]at r2;cases r2];exact r2
   .exact⟨c',e,a1⟩
end
end
section
def cxL (X:Cx)(N:List Str)(q:Str)(scope:Scope)(cl:List (Str×Addr))(f c:Addr)(Y:Around)(s₀:Shared)(H₀:Hp):Cx where
 prog:=X.prog
 w:=X.w
 K:=X.K
 mg:=X.mg
 base:=X.base
 A:=Y.deeper (envX q scope s₀.heap.objs.size f (.ref c) cl)
 N:=N
 s₀:=s₀
 H₀:=H₀
 env:=envX q scope s₀.heap.objs.size f (.ref c) cl
 outer:=X.stack
 stack:=envX q scope s₀.heap.objs.size f (.ref c) cl::X.stack
 ex:=[]
 fn:=λ_=>false
 calm:=true
 pn:=[]
 xe:=λ_ _=>False
structure LamOk (ON:List Str) (osc:Scope) (x:Str) (N:List Str) (cap:List Nat) (scope:Scope):Prop where
 kind:scope.kind = .function
 co:scope.isCoroutine=false
 gen:scope.isGenerator=false
 nocell:∀y∈scope.names,y.2 ≠ .cell
 par:scope.names.lookup x=some .local
 first:N.head? = some x
 free:∀y∈scope.names,y.2 = .free->osc.names.lookup y.1=some .cell\/osc.names.lookup y.1=some .free
 len:N.length=1+cap.length
 capx:(cap.map λj=>ON[j]?)=(N.drop 1).map some
 capf:∀y∈N.drop 1,scope.names.lookup y=some .free
def bu (v:V)(cap:List Nat)(σ:St):St:=some v::cap.map λj=>(σ[j]?).join
section
variable {X:Cx}{pins:List (Addr×Obj)}{σ:St}{H:Hp}{s:Shared}
theorem rq {Y:Around}{E:Value->Shared->Prop}{params:Arguments}{body:Expr}{scope osc:Scope}{f c:Addr}{q x:Str}{cl:List (Str×Addr)}{pm ctv:Value}{N:List Str}{cap:List Nat}{te:TE}{v:V}{u:Value}{R:VK}
  (I:Inv X pins σ H s) (hY:Y.frames=some X.stack) (hd:Y.handled=none) (hdp:Y.depth<recursionLimit)
  (hf:(f,kla_obj "<lambda>" q params body scope cl pm c ctv)∈X.pn++pins) (hc:H c=some (cdO c q)) (hosc:X.env.scope=osc) (L:LamOk X.N osc x N cap scope)
  (hcl:∀{x:Str} {c:Addr},cl.lookup x=some c->X.env.cells.lookup x=some c) (hhas:∀x,(x,NameKind.free)∈scope.names->∃c,cl.lookup x=some c)
  (hbind:bindArgs (kla_fn "<lambda>" q params body scope cl pm (.ref c) ctv) ⟨[u],[]⟩=pure [(x,u)])
  (he:∀s H,PE (cxL X N q scope cl f c Y s H) body te) (ru:l0 v u) (h:te (bu v cap σ) H R) :
  wpAny (model X.prog X.w) Y (call (.ref f) [u]) (EP X pins σ R) E s:=by
 obtain⟨p1,p2,p3,p4,p5⟩:=I.pin _ hf
 obtain⟨hrec,_,_⟩:=I.hok c _ hc
 refine wpAny_call (kla_callFunE hdp p1 rfl L.co L.gen rfl hrec ?_)
 rw[hbind]
 refine wpAny_pure (wpAny_newFunctionEnv L.nocell (λy hy=>?_) (λh₁ hns hsb=>⟨I.nolimit.fresh _ hsb,?_⟩) L.kind)
 .have e:y=(x,u):=by simpa using hy
  rw[e];exact L.par
 show codeAny _ _ (.expr body (envX q scope s.heap.objs.size f (.ref c) cl)) _ _
 have old:∀b o,s.heap.get? b=some o->h₁.get? b=some o:=λb o e=>hsb.extBut b o (Nat.ne_of_lt (Heap.lt_size e)) (Heap.get?_push_of_some _ e)
 have noA:∀b:Addr,b ∉ (cxL X N q scope cl f c Y s H).ex:=λb z=>absurd (show b∈([]:List Addr) from z) (by simp)
 have IY:Inv (cxL X N q scope cl f c Y s H) [] (bu v cap σ) H { s with heap:=h₁,toks:=s.toks+[(x,u)].length }:=by
  refine⟨⟨I.ok.mod,L.kind,rfl,rfl,Nat.le_refl _,λx y c h1 h2=>I.ok.inj x y c (hcl h1) (hcl h2),λy hy=>?_,λx c h=>absurd (show false=true from h) Bool.false_ne_true,λ_=>hd,Around.frames_deeper hY,.inr ⟨rfl,rfl⟩,
   λb z=>absurd z (noA b),I.bs,Nat.le_trans I.ok.bsz I.sz,λb _ _=>noA b,λb z=>absurd z (noA b),I.stack,I.stkFree⟩,
   rfl,I.bare,Un.kept old,⟨_,hns,λi y w e1 e2 e3=>?_⟩,λy c' e=>?_,I.hok.fresh (Nat.le_refl _),λy c' e=>I.freeC y c' (hcl e),λp hp=>absurd (show p∈([]:List (Addr×Obj)) from hp) (by simp),I.hok.kept old,?_⟩
  .have hy:scope.names.lookup y=some .cell\/scope.names.lookup y=some .free:=hy
   rcases hy with hy | hy
   .exact absurd rfl (L.nocell _ (PySem.mem_of_lookup hy))
   .exact hhas y (PySem.mem_of_lookup hy)
  .cases i with
   | zero =>
    have e2':some (some v)=some (some w):=e2
    cases e2'
    have ex:y=x:=by
     have z:=L.first
     have e1':N[0]? = some y:=e1
     rw[List.head?_eq_getElem?,e1']at z
     exact Option.some.inj z
    subst ex
    exact⟨u,ru,.inl ⟨L.par,by simp⟩⟩
   | succ d =>
    have e2':(cap.map λj=>(σ[j]?).join)[d]? = some (some w):=e2
    rw[List.getElem?_map]at e2'
    obtain⟨j,hj,hv⟩:=Option.map_eq_some_iff.mp e2'
    have hσ:σ[j]? = some (some w):=by
     cases r:σ[j]? with
     | none=>rw[r]at hv;cases hv
     | some o=>rw[r]at hv;exact congrArg some hv
    have e1':(N.drop 1)[d]? = some y:=by rw[List.getElem?_drop,Nat.add_comm];exact e1
    have hx:X.N[j]? = some y:=by
     have z:=congrArg (λl=>l[d]?) L.capx
     simp only[List.getElem?_map,hj,e1',Option.map_some]at z
     exact Option.some.inj z
    have hfr:=L.capf y (List.mem_of_getElem? e1')
    have hfm:=PySem.mem_of_lookup hfr
    have hok:=L.free _ hfm rfl
    rw[<-hosc]at hok
    obtain⟨m,hn,hl⟩:=I.loc
    obtain⟨u',r,l⟩:=hl j y w hx hσ (.inr hok)
    refine⟨u',r,?_⟩
    rcases l with ⟨hk,_⟩ | ⟨hk,c1,hc1,hc2⟩
    .have hk:X.env.scope.names.lookup y=some .local:=hk
     rcases hok with z | z <;> (rw[hk]at z;cases z)
    .obtain⟨c',hc'⟩:=hhas y hfm
     have:c'=c1:=Option.some.inj ((hcl hc').symm.trans hc1)
     subst this
     exact .inr ⟨.inr hfr,c',hc',hc2.keeps old⟩
  .obtain⟨w,z⟩:=I.cell y c' (hcl e)
   exact⟨w,z.keeps old⟩
  .show(bu v cap σ).length=N.length
   unfold bu
   rw[List.length_cons,List.length_map,L.len,Nat.add_comm]
 refine kla_codeExpr (wpAny_mono (he s H [] _ _ _ _ IY h) (λuv s' hs=>?_) λe s' hs=>hs.elim)
 obtain⟨w,H',J,rw',qw⟩:=hs
 exact⟨w,H',I.call' (ch:=[]) J.os J.base J.hok J.bare (λb hb=>nomatch hb),rw',qw⟩
end
end
section
def gm:V->Int
 | .int i=>i
 | .bl b=>if b then 1 else 0
 | _=>0
def du (ks:List V):Prop:=(∀k∈ks,∃i,k=V.int i)\/∀k∈ks,∃b,k=V.bl b
def T4 (ks:List V)(i:Nat):Int:=gm (ks.getD i .non)
def dF (ks xs ys:List V):Prop:=ys.length=xs.length/\∃p,SoS (T4 ks) p xs.length/\∀i,i<xs.length->ys[i]? = xs[p i]?
theorem U3:∀{vs:List Value},(∀v∈vs,∃b,v = .bool b)->vs.mapM firstOfTuple'=pure (vs.map λ_=>none)
 | [],_=>by simp
 | v::vs,h=>by
  obtain⟨b,rfl⟩:=h v List.mem_cons_self
  rw[List.mapM_cons,show firstOfTuple' (.bool b)=pure none from rfl,U3 λw hw=>h w (List.mem_cons_of_mem _ hw)];simp
theorem S7:∀{vs:List Value},(∀v∈vs,∃b,v = .bool b)->vs.mapM typeOf=pure (vs.map λ_=>Value.type "bool")
 | [],_=>by simp
 | v::vs,h=>by
  obtain⟨b,rfl⟩:=h v List.mem_cons_self
  rw[List.mapM_cons,S7 λw hw=>h w (List.mem_cons_of_mem _ hw)]
  show(pure (Value.type "bool") >>= λb=>pure _ >>= λbs=>pure (b::bs))=_
  simp
theorem gp {v₁ v₂:Value}{vs:List Value}(hI:∀v∈(v₁::v₂::vs),∃b,v = .bool b):keyKind' (v₁::v₂::vs).toArray=pure oneType':=by
 rw[keyKind'_eq,List.mapM_toArray,U3 hI]
 simp only[map_pure,pure_bind]
 rw[if_neg (by simp),if_neg (by simp)]
 rw[oneTypeOnly'_eq,List.mapM_toArray,S7 hI]
 simp only[map_pure,pure_bind]
 have hall:((List.map (λ_=>Value.type "bool") (v₁::v₂::vs)).toArray.all λx=>x == Value.type "bool")=true:=by
  simp only[List.all_toArray,List.all_map,List.all_eq_true]
  intro _ _
  rfl
 have h0:(List.map (λ_=>Value.type "bool") (v₁::v₂::vs)).toArray[0]? = some (Value.type "bool"):=by simp
 rw[h0]
 simp only[hall,if_true,pure_bind,Option.isSome_some]
theorem bJ:∀{ks:List V} {us:List Value},i6 ks us->(∀k∈ks,∃i,k=V.int i)->IntsAre us (ks.map gm)
 | _,_,.nil,_=>.nil
 | k::ks,u::us,.cons r t,h=>by
  obtain⟨i,rfl⟩:=h k List.mem_cons_self
  obtain⟨t',rfl⟩:=r
  exact .cons i t' (bJ t λk hk=>h k (List.mem_cons_of_mem _ hk))
theorem fQ:∀{ks:List V} {us:List Value},i6 ks us->(∀k∈ks,∃b,k=V.bl b)->∀u∈us,∃b,u = .bool b
 | _,_,.nil,_,u,hu=>by simp at hu
 | k::ks,u::us,.cons r t,h,w,hw=>by
  rcases List.mem_cons.mp hw with rfl | hw
  .obtain⟨b,rfl⟩:=h k List.mem_cons_self
   exact⟨b,r⟩
  .exact fQ t (λk hk=>h k (List.mem_cons_of_mem _ hk)) w hw
theorem vh {ks:List V}{keys:Array Value}(r:i6 ks keys.toList)(h:du ks)(h2:2<=keys.size):keyKind' keys=pure oneType':=by
 obtain⟨v₁,v₂,rest,e⟩:∃v₁ v₂ rest,keys.toList=v₁::v₂::rest:=by
  have hl:2<=keys.toList.length:=by rw[Array.length_toList];exact h2
  cases q:keys.toList with
  | nil=>rw[q]at hl;simp at hl
  | cons v₁ r =>
   cases r with
   | nil=>rw[q]at hl;simp at hl
   | cons v₂ rest=>exact⟨v₁,v₂,rest,rfl⟩
 have ek:keys=(v₁::v₂::rest).toArray:=by rw[<-e,Array.toArray_toList]
 rw[e]at r
 rw[ek]
 rcases h with h | h
 .exact keyKind_ints (bJ r h)
 .exact gp (fQ r h)
theorem AA {prog:Program}{w:World}{A:Around}{s:Shared}{ks:List V}{keys:Array Value}{its:List Value}(r:i6 ks keys.toList)(h:du ks):fS prog w A s oneType' (keys.zip its.toArray) (T4 ks):=by
 have one:∀(i:Nat) (x:Keyed),(keys.zip its.toArray)[i]? = some x->∃k,ks[i]? = some k/\l0 k x.1:=λi x e=>by
  rw[<-Array.getElem?_toList,ksk_zip,List.getElem?_zip_eq_some]at e
  cases q:ks[i]? with
  | none =>
   rw[r.none_of q]at e;exact absurd e.1 (by simp)
  | some k =>
   obtain⟨u,h1,h2⟩:=r.get q
   rw[h1]at e
   exact⟨k,rfl,by rw[<-Option.some.inj e.1];exact h2⟩
 intro i j x y _ ex ey E Q hq
 rw[keyLt'_oneType]
 obtain⟨k1,a1,r1⟩:=one i x ex
 obtain⟨k2,a2,r2⟩:=one j y ey
 have n1:T4 ks i=gm k1:=by unfold T4;rw[List.getD_eq_getElem?_getD,a1];rfl
 have n2:T4 ks j=gm k2:=by unfold T4;rw[List.getD_eq_getElem?_getD,a2];rfl
 rw[n1,n2]at hq
 obtain⟨x1,x2⟩:=x
 obtain⟨y1,y2⟩:=y
 rcases h with h | h
 .obtain⟨m,rfl⟩:=h k1 (List.mem_of_getElem? a1)
  obtain⟨n,rfl⟩:=h k2 (List.mem_of_getElem? a2)
  obtain⟨t,e⟩:=r1
  obtain⟨t',e'⟩:=r2
  dsimp only at e e'
  subst e;subst e'
  exact oneLt_int hq
 .obtain⟨m,rfl⟩:=h k1 (List.mem_of_getElem? a1)
  obtain⟨n,rfl⟩:=h k2 (List.mem_of_getElem? a2)
  have e:x1 = .bool m:=r1
  have e':y1 = .bool n:=r2
  subst e;subst e'
  exact mJ hq
section
variable {X:Cx}{pins:List (Addr×Obj)}{σ:St}{H:Hp}{s:Shared}
def New (X:Cx)(pins:List (Addr×Obj))(b:Addr):Prop:=X.s₀.heap.objs.size<=b/\b≠X.env.locals/\(∀x c,X.env.cells.lookup x=some c->c≠b)/\(∀p∈X.pn++pins,p.1≠b)/\b ∉ X.fs
theorem Inv.new {b:Addr}(I:Inv X pins σ H s)(h:s.heap.objs.size<=b):New X pins b:=by
 have ne:∀{c:Addr} {o:Obj},s.heap.get? c=some o->c≠b:=λe z=>absurd (Nat.lt_of_lt_of_le (Heap.lt_size e) h) (by rw[z];exact Nat.lt_irrefl _)
 refine⟨Nat.le_trans I.sz h,λz=>absurd (Nat.lt_of_lt_of_le I.lt h) (by rw[z];exact Nat.lt_irrefl _),λx c e=>?_,λp hp=>ne (I.pin p hp).1,I.nofs h⟩
 obtain⟨v,o,ho,_⟩:=I.cell x c e
 exact ne ho
theorem Inv.turn1 {b:Addr}{h':Heap}{t':Nat}(I:Inv X pins σ H s)(hb:New X pins b)(hn:H b=none)(k:∀c o,c≠b->s.heap.get? c=some o->h'.get? c=some o):Inv X pins σ H { s with heap:=h',toks:=t' } :=
 I.turned k hn hb.2.1 (.inr hb.1) hb.2.2.1 hb.2.2.2.1
theorem Inv.relay {a k:Addr}{ys:List V}{us:List Value}{n:Nat}{h':Heap}{t':Nat}(I:Inv X pins σ H s)(ha:New X pins a)(hk:New X pins k)(Ha:H a=none)(Hk:H k=none)
  (hs:∀c o,c≠a->c≠k->s.heap.get? c=some o->h'.get? c=some o) (hth:∃o,h'.get? k=some o) (hz:ys.length<=sizeLine) (r:i6 ys us) (ho:h'.get? a=some { cls:=.type "list",data:=.seq us.toArray n }) :
  Inv X pins σ (upd H a (.lst ys)) { s with heap:=h',toks:=t' }:=by
 have nin:∀{b:Addr},b ∉ [a,k]->b≠a/\b≠k:=λhb=>⟨λz=>hb (by simp[z]),λz=>hb (by simp[z])⟩
 have nu:∀{b:Addr} {u:HO},H b=some u->b≠a/\b≠k:=λe=>⟨λz=>(by rw[z,Ha]at e;cases e),λz=>(by rw[z,Hk]at e;cases e)⟩
 refine I.step (g':=s.gens) (d':=s.drawn) (ch:=[a,k]) (λb hb=>?_) (λb o _ _ hc e _=>hs b o (nin hc).1 (nin hc).2 e) (λb o _ _ hc e _=>⟨o.slots,hs b o (nin hc).1 (nin hc).2 e⟩) (λb o hc _ n=>by rw[a9 (nin hc).1];exact n)
  (λb o hc e=>⟨o,hs b o (nin hc).1 (nin hc).2 e⟩) (λb xs e=>by rw[a9 (nu e).1];exact e) (λb o u e=>by rw[a9 (nu e).1];exact e) (λb ps e=>⟨#[],by rw[a9 (nu e).1,e];simp⟩) (λm hm=>?_) (λb u e=>?_) I.bare
 .have hb':b=a\/b=k:=by simpa using hb
  rcases hb' with rfl | rfl
  .exact⟨.inr ha.1,ha.2.1,ha.2.2.1,ha.2.2.2.1⟩
  .exact⟨.inr hk.1,hk.2.1,hk.2.2.1,hk.2.2.2.1⟩
 .obtain⟨o,es,ep,ho',r'⟩:=hm
  exact⟨o,es,ep,hs _ o ha.2.1.symm hk.2.1.symm ho',r'⟩
 .by_cases hb:b=a
  .subst hb
   rw[b9]at e;cases e
   exact⟨hz,us,n,r,ho⟩
  .rw[a9 hb]at e
   refine(I.hok b u e).stay (λc v hc q=>?_) (λc q=>by rw[a9 (nu q).1];exact q) λc xs q=>by rw[a9 (nu q).1];exact q
   rcases hc with rfl | z
   .exact hs c v (nu e).1 (nu e).2 q
   .exact hs c v (nu z).1 (nu z).2 q
end
end
section
theorem atl {α:Type}(a:Array α):a.toList.length=a.size:=Array.length_toList
section
variable {X:Cx}{pins:List (Addr×Obj)}{σ:St}{H:Hp}{s:Shared}{Y:Around}{E:Value->Shared->Prop}{P:PySem.Fin->Shared->Prop}{a kS:Addr}{xs ks:List V}{its:List Value}{e1:Nat}
theorem oC {keys:Array Value}{e:Nat}{st:SortSt}{p:Nat->Nat}(I:Inv X ((kS,seqObj "list" keys e)::(a,seqObj "list" #[] e1)::pins) σ H s)(ha:New X pins a)(hk:New X pins kS)(hka:kS≠a)
  (rx:i6 xs its) (hkl:keys.size<=64) (h64:its.length<64) (hfl:failedOf st=none) (hsz:(arrOf st).size=its.length) (hp:∀i,i<its.length->(arrOf st)[i]? = (keys.zip its.toArray)[p i]?) (hS:SoS (T4 ks) p its.length) (hke:keys.size=its.length)
  (h:∀s' ys,dF ks xs ys->Inv X pins σ (upd H a (.lst ys)) s'->P (.done (.ret .none)) s') :
  wpAny (model X.prog X.w) Y (ksk_tail a false e1 (.ref kS) st) P E s:=by
 obtain⟨nk,Hk,_⟩:=I.pin (kS,seqObj "list" keys e) (List.mem_append_right _ (.head _))
 obtain⟨na,Ha,_⟩:=I.pin (a,seqObj "list" #[] e1) (List.mem_append_right _ (.tail _ (.head _)))
 have I0:Inv X pins σ H s:=I.pins_of λp hp=>I.pin p (List.mem_append_right _ (.tail _ (.tail _ hp)))
 have s1:=Heap.SameBut.update s.heap kS (Obj.mapSeq λ_=>(#[]:Array Value))
 have na1:(s.heap.update kS (Obj.mapSeq λ_=>(#[]:Array Value))).get? a=some (seqObj "list" #[] e1):=(s1.2 a hka.symm).trans na
 have s2:=Heap.SameBut.update (s.heap.update kS (Obj.mapSeq λ_=>(#[]:Array Value))) a (Obj.mapSeq λ_=>(arrOf st).map (·.2))
 obtain⟨c2,hc2⟩:∃c2,((s.heap.update kS (Obj.mapSeq λ_=>(#[]:Array Value))).update a (Obj.mapSeq λ_=>(arrOf st).map (·.2))).get? a=some (seqObj "list" ((arrOf st).map (·.2)) c2) :=
  ⟨_,get?_update_seq na1 λ_=>(arrOf st).map (·.2)⟩
 have hout:((arrOf st).map (·.2)).size=its.length:=by rw[Array.size_map];exact hsz
 unfold ksk_tail
 try dsimp only
 refine wpAny_bind (listUpdate_at nk rfl ?_ (by rw[sizeLine_eq];omega) (Nat.zero_le _))
 refine wpAny_bind (wpAny_letGo ?_)
 refine wpAny_bind (seqEpoch_at na1 rfl ?_)
 refine wpAny_bind (listUpdate_at na1 rfl ?_ (Nat.zero_le _) (by rw[if_neg Bool.false_ne_true,hout,sizeLine_eq];omega))
 rw[hfl]
 simp only[bne_self_eq_false,Bool.false_eq_true,if_false]
 have xl:xs.length=its.length:=rx.length
 have outv:∀i,i<its.length->((arrOf st).map (·.2)).toList[i]? = its[p i]?:=λi hi=>by
  rw[Array.getElem?_toList,Array.getElem?_map,hp i hi,<-Array.getElem?_toList,ksk_zip]
  have hpi:=hS.2.2 i hi
  have e1:its[p i]? = some (its[p i]):=List.getElem?_eq_getElem hpi
  have e2:keys.toList[p i]? = some (keys.toList[p i]'(by rw[atl keys,hke];exact hpi)):=List.getElem?_eq_getElem _
  rw[show(keys.toList.zip its)[p i]? = some (keys.toList[p i]'(by rw[atl keys,hke];exact hpi),its[p i]) from List.getElem?_zip_eq_some.mpr ⟨e2,e1⟩,e1]
  rfl
 have ysl:((List.range its.length).map λi=>xs.getD (p i) .non).length=its.length:=by rw[List.length_map,List.length_range]
 have ysg:∀i,i<its.length->((List.range its.length).map λi=>xs.getD (p i) .non)[i]? = xs[p i]?:=λi hi=>by
  rw[List.getElem?_map,List.getElem?_range hi]
  have hpi:=hS.2.2 i hi
  show some (xs.getD (p i) .non)=_
  rw[List.getD_eq_getElem?_getD,List.getElem?_eq_getElem (by omega)]
  rfl
 refine wpAny_pure (h _ ((List.range its.length).map λi=>xs.getD (p i) .non) ⟨by rw[ysl,xl],p,by rw[xl];exact hS,λi hi=>ysg i (by omega)⟩ (I0.relay (k:=kS) (n:=c2) ha hk Ha Hk (λc o h1 h2 e=>(s2.2 c h1).trans ((s1.2 c h2).trans e)) ?_ (by rw[ysl,sizeLine_eq];omega)
  (us:=((arrOf st).map (·.2)).toList) ?_ (by rw[hc2])))
 .obtain⟨c3,hc3⟩:∃c3,(s.heap.update kS (Obj.mapSeq λ_=>(#[]:Array Value))).get? kS=some (seqObj "list" #[] c3):=⟨_,get?_update_seq nk λ_=>(#[]:Array Value)⟩
  exact⟨_,(s2.2 kS hka).trans hc3⟩
 .refine R4 (by rw[ysl,atl ((arrOf st).map (·.2)),hout]) λi x u hx hu=>?_
  have hi:i<its.length:=by
   have:=(List.getElem?_eq_some_iff.mp hx).1
   rwa [ysl]at this
  rw[ysg i hi]at hx
  rw[outv i hi]at hu
  obtain⟨u',h1,h2⟩:=rx.get hx
  rw[h1]at hu
  rw[<-Option.some.inj hu]
  exact h2
theorem zv {keys:Array Value}{e:Nat}(I:Inv X ((kS,seqObj "list" keys e)::(a,seqObj "list" #[] e1)::pins) σ H s)(ha:New X pins a)(hk:New X pins kS)(hka:kS≠a)
  (rx:i6 xs its) (rk:i6 ks keys.toList) (hl:ks.length=xs.length) (hko:du ks) (h64:its.length<64)
  (h:∀s' ys,dF ks xs ys->Inv X pins σ (upd H a (.lst ys)) s'->P (.done (.ret .none)) s') :
  wpAny (model X.prog X.w) Y (ksk_end a false its.toArray e1 (.ref kS) keys) P E s:=by
 have xl:xs.length=its.length:=rx.length
 have hke:keys.size=its.length:=by
  have:=rk.length
  rw[atl keys]at this
  omega
 have hzs:(keys.zip its.toArray).size=its.length:=by rw[Array.size_zip,hke,List.size_toArray,Nat.min_self]
 unfold ksk_end
 simp only[Bool.false_eq_true,if_false]
 by_cases h2:its.toArray.size<2
 .rw[if_pos h2,if_pos h2]
  refine wpAny_bind (wpAny_pure ?_)
  rw[StateT.run_pure]
  refine wpAny_bind (wpAny_pure ?_)
  try dsimp only
  rw[List.size_toArray]at h2
  refine oC (st:=SortSt.mk' general' (keys.zip its.toArray) #[] 7 none) (p:=id) I ha hk hka rx (by omega) h64 rfl hzs (λi _=>rfl) ⟨λi j h1 h3=>by omega,λi _=>rfl,λi hi=>hi⟩ hke h
 .rw[if_neg h2,if_neg h2]
  rw[List.size_toArray]at h2
  rw[vh rk hko (by omega)]
  refine wpAny_bind (wpAny_pure ?_)
  refine wpAny_bind (wpAny_mono (nI (a0:=keys.zip its.toArray) (κ:=T4 ks) (st:=SortSt.mk' oneType' (keys.zip its.toArray) #[] 7 none)
   (Q:=λ_ st'=>failedOf st'=none/\(arrOf st').size=(keys.zip its.toArray).size/\∃p,(∀i,i<(keys.zip its.toArray).size->(arrOf st')[i]? = (keys.zip its.toArray)[p i]?)/\SoS (T4 ks) p (keys.zip its.toArray).size)
   (AA rk hko) ⟨⟨rfl,rfl,rfl,rfl⟩,λi j _ _ e=>e,λi _=>rfl,λi hi=>hi⟩ (by rw[hzs];omega) (by rw[hzs];exact h64) λst' a1 a2 a3=>⟨a1,a2,a3⟩) ?_ λ_ _ e=>e)
  rintro ⟨⟨⟩,st'⟩ s' ⟨rfl,hf,hsz,p,hp,hS⟩
  try dsimp only
  rw[hzs]at hsz hp hS
  exact oC I ha hk hka rx (by omega) h64 hf hsz hp hS hke h
theorem ve {f:Addr}{J:Nat->Hp->Prop}(I:Inv X ((kS,seqObj "list" #[] 0)::(a,seqObj "list" #[] e1)::pins) σ H s)(ha:New X pins a)(hk:New X pins kS)(hka:kS≠a)
  (rx:i6 xs its) (hl:ks.length=xs.length) (hko:du ks) (h64:its.length<64) (j0:J 0 H)
  (turn:∀(i:Nat) (v:V) (u:Value) (pn:List (Addr×Obj)) (H':Hp) (s':Shared),xs[i]? = some v->l0 v u->J i H'->Inv X (pn++pins) σ H' s' ->
   wpAny (model X.prog X.w) Y (call (.ref f) [u]) (EP X (pn++pins) σ λk H2=>ks[i]? = some k/\J (i+1) H2) (λ_ _=>False) s')
  (h:∀s' H' ys,J xs.length H'->H' a=none->dF ks xs ys->Inv X pins σ (upd H' a (.lst ys)) s'->P (.done (.ret .none)) s') :
  wpAny (model X.prog X.w) Y (ksk_rest a (.ref f) false its.toArray e1 (.ref kS)) P E s:=by
 have xl:xs.length=its.length:=rx.length
 have hk2:New X ((a,seqObj "list" #[] e1)::pins) kS:=⟨hk.1,hk.2.1,hk.2.2.1,λp hp=>by
  rcases List.mem_append.mp hp with z | z
  .exact hk.2.2.2.1 p (List.mem_append_left _ z)
  .rcases List.mem_cons.mp z with rfl | z
   .exact hka.symm
   .exact hk.2.2.2.1 p (List.mem_append_right _ z),hk.2.2.2.2⟩
 unfold ksk_rest
 refine wpAny_bind (wpAny_rule ?_)
 first
  | rw[List.forIn_toArray]
  | (rw[<-Array.forIn_toList];simp only[List.toList_toArray])
  | rw[<-Array.forIn_toList]
 refine wpAny_bind (ksk_fold (λi s'=>∃H' kA e,Inv X ((kS,seqObj "list" kA e)::(a,seqObj "list" #[] e1)::pins) σ H' s'/\J i H'/\i6 (ks.take i) kA.toList) its 0 s ⟨H,#[],0,I,j0,by simpa using Paired.nil⟩ ?step ?done)
 case step =>
  rintro j x s' hx ⟨H',kA,e,I',hJ,hv⟩
  simp only[Nat.zero_add]at hJ hv ⊢
  have hj:j<its.length:=(List.getElem?_eq_some_iff.mp hx).1
  obtain⟨v,hxv⟩:∃v,xs[j]? = some v:=⟨_,List.getElem?_eq_getElem (by omega)⟩
  obtain⟨u,hu,ru⟩:=rx.get hxv
  rw[hx]at hu
  cases hu
  have hz:kA.size<=its.length:=by
   have h1:=hv.length
   rw[atl kA,List.length_take]at h1
   omega
  refine wpAny_bind (wpAny_attempt (wpAny_mono (turn j v x [(kS,seqObj "list" kA e),(a,seqObj "list" #[] e1)] H' s' hxv ru hJ I') (λkv s'' he=>?_) λ_ _ hF=>hF.elim))
  obtain⟨kk,H2,I2,rk,hkk,hJ2⟩:=he
  try dsimp only
  obtain⟨nk,Hk,_⟩:=I2.pin (kS,seqObj "list" kA e) (List.mem_append_right _ (.head _))
  have I3:Inv X ((a,seqObj "list" #[] e1)::pins) σ H2 s'':=I2.pins_of λp hp=>I2.pin p (List.mem_append_right _ (.tail _ hp))
  have s1:=Heap.SameBut.update s''.heap kS (Obj.mapSeq (·.push kv))
  obtain⟨c2,hc2⟩:∃c2,(s''.heap.update kS (Obj.mapSeq (·.push kv))).get? kS=some (seqObj "list" (kA.push kv) c2):=⟨_,get?_update_seq nk (·.push kv)⟩
  refine wpAny_bind (listUpdate_at nk rfl ?_ (by rw[sizeLine_eq];omega) (Nat.le_trans (Nat.le_of_eq (Array.size_push ..)) (by rw[sizeLine_eq];omega)))
  have I4:=I3.turn1 (h':=s''.heap.update kS (Obj.mapSeq (·.push kv))) (t':=s''.toks) hk2 Hk λc o hc e=>(s1.2 c hc).trans e
  have ek:ks.take (j+1)=ks.take j++[kk]:=by rw[List.take_add_one,hkk];simp
  have ea:(kA.push kv).toList=kA.toList++[kv]:=by simp
  exact wpAny_pure ⟨rfl,H2,kA.push kv,c2,I4.pin1 hc2 Hk hk.2.1 hk.2.2.2.2 (λv e=>nomatch e),hJ2,by rw[ea,ek];exact hv.append (.cons rk .nil)⟩
 case done =>
  rintro s' ⟨H',kA,e,I',hJ,hv⟩
  have e3:ks.take (0+its.length)=ks:=List.take_of_length_le (by omega)
  rw[e3]at hv
  rw[Nat.zero_add,<-xl]at hJ
  obtain⟨nk,Hk,_⟩:=I'.pin (kS,seqObj "list" kA e) (List.mem_append_right _ (.head _))
  obtain⟨_,Ha,_⟩:=I'.pin (a,seqObj "list" #[] e1) (List.mem_append_right _ (.tail _ (.head _)))
  try dsimp only
  refine wpAny_bind (listItems_at nk rfl ?_)
  exact zv I' ha hk hka rx hv hl hko h64 λs2 ys o J2=>h s2 H' ys hJ Ha o J2
end
end
section
section
variable {X:Cx}{pins:List (Addr×Obj)}{σ:St}{H:Hp}{s:Shared}{Y:Around}{E:Value->Shared->Prop}{P:PySem.Fin->Shared->Prop}{a:Addr}{xs ks:List V}{its:List Value}
theorem vU {f:Addr}{n:Nat}{J:Nat->Hp->Prop}(I:Inv X pins σ H s)(ho:s.heap.get? a=some (seqObj "list" its.toArray n))(ha:New X pins a)(Ha:H a=none)
  (rx:i6 xs its) (hl:ks.length=xs.length) (hko:du ks) (h64:its.length<64) (j0:J 0 H)
  (turn:∀(i:Nat) (v:V) (u:Value) (pn:List (Addr×Obj)) (H':Hp) (s':Shared),xs[i]? = some v->l0 v u->J i H'->Inv X (pn++pins) σ H' s' ->
   wpAny (model X.prog X.w) Y (call (.ref f) [u]) (EP X (pn++pins) σ λk H2=>ks[i]? = some k/\J (i+1) H2) (λ_ _=>False) s')
  (h:∀s' H' ys,J xs.length H'->H' a=none->dF ks xs ys->Inv X pins σ (upd H' a (.lst ys)) s'->P (.done (.ret .none)) s') :
  wpAny (model X.prog X.w) Y (ksk_tree a (.ref f) false) P E s:=by
 have hlt:a<s.heap.objs.size:=Heap.lt_size ho
 have s1:=Heap.SameBut.update s.heap a (Obj.mapSeq λ_=>(#[]:Array Value))
 obtain⟨e1,ho1⟩:∃e1,(s.heap.update a (Obj.mapSeq λ_=>(#[]:Array Value))).get? a=some (seqObj "list" #[] e1):=⟨_,get?_update_seq ho λ_=>#[]⟩
 have hkS:((s.heap.update a (Obj.mapSeq λ_=>(#[]:Array Value))).push (seqObj "tuple" its.toArray 0)).objs.size=s.heap.objs.size+1:=by rw[size_push',Heap.size_update]
 have hz:s.heap.objs.size<=((s.heap.update a (Obj.mapSeq λ_=>(#[]:Array Value))).push (seqObj "tuple" its.toArray 0)).objs.size:=by rw[hkS];exact Nat.le_succ _
 unfold ksk_tree
 refine wpAny_bind (listItems_at ho rfl ?_)
 refine wpAny_bind (listUpdate_at ho rfl ?_ (by rw[List.size_toArray,sizeLine_eq];omega) (Nat.zero_le _))
 refine wpAny_bind (seqEpoch_at ho1 rfl ?_)
 refine wpAny_bind (wpAny_newTuple ?_ (by show its.length<=_;rw[sizeLine_eq];omega))
 refine wpAny_bind (wpAny_newList ?_ (Nat.zero_le _))
 refine wpAny_holding ?_
 have I1:Inv X pins σ H { s with heap:=((s.heap.update a (Obj.mapSeq λ_=>(#[]:Array Value))).push (seqObj "tuple" its.toArray 0)).push (seqObj "list" #[] 0),toks:=s.toks } :=
  I.turn1 ha Ha λc o hc e=>Heap.get?_push_of_some _ (Heap.get?_push_of_some _ ((s1.2 c hc).trans e))
 have hk:=I.new hz
 have Hk:=I.hok.fresh hz
 have hka:((s.heap.update a (Obj.mapSeq λ_=>(#[]:Array Value))).push (seqObj "tuple" its.toArray 0)).objs.size≠a:=by rw[hkS];exact Nat.ne_of_gt (Nat.lt_succ_of_lt hlt)
 have I2:=I1.pin1 (a:=a) (o:=seqObj "list" #[] e1) (Heap.get?_push_of_some _ (Heap.get?_push_of_some _ ho1)) Ha ha.2.1 ha.2.2.2.2 (λv e=>nomatch e)
 have I3:=I2.pin1 (a:=((s.heap.update a (Obj.mapSeq λ_=>(#[]:Array Value))).push (seqObj "tuple" its.toArray 0)).objs.size) (o:=seqObj "list" #[] 0) (Heap.get?_push_size _ rfl) Hk hk.2.1 hk.2.2.2.2 (λv e=>nomatch e)
 exact ve I3 ha hk hka rx hl hko h64 j0 turn h
theorem pC {l f:Addr}{J:Nat->Hp->Prop}{Q:Value->Shared->Prop}(I:Inv X pins σ H s)(hl':s.heap.IsList l its.toArray)
  (rx:i6 xs its) (hl:ks.length=xs.length) (hko:du ks) (h64:its.length<64) (j0:J 0 H)
  (turn:∀(i:Nat) (v:V) (u:Value) (pn:List (Addr×Obj)) (H':Hp) (s':Shared),xs[i]? = some v->l0 v u->J i H'->Inv X (pn++pins) σ H' s' ->
   wpAny (model X.prog X.w) X.A.in1.in1 (call (.ref f) [u]) (EP X (pn++pins) σ λk H2=>ks[i]? = some k/\J (i+1) H2) (λ_ _=>False) s')
  (h:∀a s' H' ys,J xs.length H'->H' a=none->dF ks xs ys->Inv X pins σ (upd H' a (.lst ys)) s'->Q (.ref a) s') :
  wpAny (model X.prog X.w) X.A (call (.builtin "sorted") [.ref l] [(Str.ofString "key",.ref f)]) Q E s:=by
 refine call_function_entry_kw kind_sorted plain_sorted entry_sorted (ksk_s1 _ _) ?_
 unfold Builtin.«sorted»
 refine wpAny_bind (m:=checkCount "sorted" 1 1 _) (wpAny_pure ?_)
 refine wpAny_bind (collect_list hl' ?_ (by rw[sizeLine_eq];omega))
 refine wpAny_bind (wpAny_newList ?_ (by rw[sizeLine_eq];omega))
 have hsz:((s.heap.push (seqObj "list" #[] 0)).update s.heap.objs.size (Obj.mapSeq (· ++ its.toArray))).objs.size=s.heap.objs.size+1:=by
  rw[Heap.size_update,size_push']
 have hoL:(((s.heap.push (seqObj "list" #[] 0)).update s.heap.objs.size (Obj.mapSeq (· ++ its.toArray))).push (seqObj "list" its.toArray 0)).get? (s.heap.objs.size+1)=some (seqObj "list" its.toArray 0):=by
  rw[<-hsz];exact Heap.get?_push_size _ rfl
 have keep:∀b o,s.heap.get? b=some o->(((s.heap.push (seqObj "list" #[] 0)).update s.heap.objs.size (Obj.mapSeq (· ++ its.toArray))).push (seqObj "list" its.toArray 0)).get? b=some o:=λb o q=>by
  have hlt:b<s.heap.objs.size:=Heap.lt_size q
  rw[Heap.get?_push_ne _ _ _ (by rw[hsz];exact Nat.ne_of_lt (Nat.lt_succ_of_lt hlt)),Heap.get?_update_ne _ _ _ _ (Nat.ne_of_lt hlt),Heap.get?_push_ne _ _ _ (Nat.ne_of_lt hlt)]
  exact q
 show wpAny _ _ _ _ _ { s with heap:=((s.heap.push (seqObj "list" #[] 0)).update s.heap.objs.size (Obj.mapSeq (· ++ its.toArray))).push (seqObj "list" its.toArray 0) }
 rw[hsz]
 refine wpAny_bind (wpAny_holding (wpAny_call_entry_kw slot_list_sort ⟨_,hoL,rfl⟩ entry_list_sort ?body (ksk_l1 _ _)))
 case body =>
  have ht':=ksk_t1 f (s.heap.objs.size+1)
  show wpAny (model X.prog X.w) X.A.in1.in1 (Builtin.«list.sort» ⟨[.ref (s.heap.objs.size+1)],[(Str.ofString "key",.ref f)]⟩) _ _ _
  rw[ht']
  have I1:Inv X pins σ H { s with heap:=((s.heap.push (seqObj "list" #[] 0)).update s.heap.objs.size (Obj.mapSeq (· ++ its.toArray))).push (seqObj "list" its.toArray 0),toks:=s.toks }:=I.kept keep
  refine vU I1 hoL (I.new (Nat.le_succ _)) (I.hok.fresh (Nat.le_succ _)) rx hl hko h64 j0 turn λs' H' ys hJ Ha o I'=>⟨_,rfl,?_⟩
  exact wpAny_pure ⟨_,rfl,h _ s' H' ys hJ Ha o I'⟩
end
end
section
def tSK (K:Frag)(P:Addr)(q:Str)(cap:List Nat)(ta:TA)(te:TE):TE:=λσ H Q=>ta σ H λvs H1=>∃l xs,vs=[.ref l]/\SqL K H1 l xs/\xs.length<64/\gy H1 P q /\
 ∀H2,yL P q H1 H2->gy H2 P q->∀c,H2 c=some (cdO c q)->∃(J:Nat->Hp->Prop) (ks:List V),ks.length=xs.length/\du ks/\SqL K H2 l xs/\J 0 H2/\(∀i H',J i H'->H' c=some (cdO c q)) /\
  (∀i v H',xs[i]? = some v->J i H'->te (bu v cap σ) H' λk H3=>ks[i]? = some k/\J (i+1) H3) /\
  ∀a H' ys,J xs.length H'->H' a=none->dF ks xs ys->Q (.ref a) (upd H' a (.lst ys))
theorem vK {M:Model}{A:Around}{E:Value->Shared->Prop}{s:Shared}{env:Env}{x:Str}{p pos:Pos}{args:List Expr}{kws:List Keyword}{Q:Value->Shared->Prop}
  (h:wpAny M A (eval (.Name x p) env) (λf s₁=>wpAny M A (callWith pos f [] (backTo pos (starEach args env)) (backToKw pos (keywordEach kws env))) Q E s₁) E s):wpAny M A (eval (.Call (.Name x p) args kws pos) env) Q E s:=by
 rw[show eval (.Call (.Name x p) args kws pos) env=(do callWith pos (<-eval (.Name x p) env) [] (backTo pos (starEach args env)) (backToKw pos (keywordEach kws env))) from rfl]
 exact wpAny_bind h
theorem AF {X:Cx}{e:Expr}{params:Arguments}{body:Expr}{scope osc:Scope}{p pos lpos kp:Pos}{c P:Addr}{q x:Str}{N:List Str}{cap:List Nat}{ta:TA}{te:TE}{k:Nat}
  (hg:Gl X "sorted") (hm:X.mg "sorted" = none) (hr:Room k X.A) (hc:X.calm=true) (ha:PA X [e] ta) (hdef:defaultsOf params X.env=([],[])) (hosc:X.env.scope=osc) (L:LamOk X.N osc x N cap scope)
  (hcode:X.env.code = .ref c) (C:CodeHd X.base c P) (BM:BMd X.base X.mg) (hq:X.env.qual ++ "<lambda>" = q)
  (hbind:∀(cl:List (Str×Addr)) (pm:Value) (c':Addr) (ctv u:Value),bindArgs (kla_fn "<lambda>" q params body scope cl pm (.ref c') ctv) ⟨[u],[]⟩=pure [(x,u)])
  (he:∀cl f c' Y s H,PE (cxL X N q scope cl f c' Y s H) body te) (hs:starEach [e] X.env=[(false,eval e X.env)]:=by rfl) :
  PE X (.Call (.Name "sorted" p) [e] [⟨some "key",.Lambda params body scope lpos,kp⟩] pos) (tSK X.K P q cap ta te):=by
 intro pins s σ H Q I h
 have hcell:∀y∈scope.names,y.2 = .free->∃c,X.env.cells.lookup y.1=some c:=λy hy hk=>I.ok.has y.1 (by
  show X.env.scope.names.lookup y.1=_\/X.env.scope.names.lookup y.1=_
  rw[hosc];exact L.free y hy hk)
 let f:Str->Addr:=λx=>(X.env.cells.lookup x).getD 0
 have hf:∀y∈scope.names,y.2 = .free->X.env.cells.lookup y.1=some (f y.1):=λy hy hk=>by
  obtain⟨c,e⟩:=hcell y hy hk
  show _=some ((X.env.cells.lookup y.1).getD 0)
  rw[e];rfl
 have hclos:closureFor scope X.env=pure (G9 f scope.names []):=M4 λy hy hk=>by
  unfold cellOf
  rw[hf y hy hk]
 have hcl:∀{x:Str} {c:Addr},(G9 f scope.names []).lookup x=some c->X.env.cells.lookup x=some c:=λ{x c} e=>by
  rcases P1 _ _ e with ⟨h1,h2⟩ | h1
  .rw[h2];exact hf (x,.free) h1 rfl
  .simp at h1
 have hhas:∀x,(x,NameKind.free)∈scope.names->∃c,(G9 f scope.names []).lookup x=some c:=λx hx=>⟨_,aq _ _ (.inl hx)⟩
 generalize G9 f scope.names []=cl at hclos hcl hhas
 refine vK (bh I hg hm (by decide +kernel:bootBuiltins "sorted" = some (.builtin "sorted")) (callWith_kw (kws:=[⟨some "key",.Lambda params body scope lpos,kp⟩]) (thn (ha pos pins s σ H _ I h) λus s1 ⟨vs,H1,I1,r1,q1⟩=>?_) (by rw[hs];rfl) (by rw[hs];rfl)))
 obtain⟨l,xs,e0,hq0,h64,hT,q2⟩:=q1
 subst e0
 obtain⟨u,rfl,ru⟩:=O7 r1
 cases ru
 refine kws_cons (uf I1 hdef hclos hcode C BM hT hq λf c' ctv H2 s2 gr hT2 hc2 I2=>kws_nil ?_)
 obtain⟨J,ks,hlk,hko,hq2,j0,jc,turn,fin⟩:=q2 H2 gr hT2 c' hc2
 obtain⟨its,rv,pl,hz⟩:=I2.list hq2
 have xl:xs.length=its.length:=rv.length
 show wpAny (model X.prog X.w) X.A (call (.builtin "sorted") [.ref l] [(Str.ofString "key",.ref f)]) _ X.xe s2
 refine pC I2 pl.isList rv hlk hko (by omega) j0 (λi v u pn H' s' hx r hJ I'=>?_) λa s' H' ys hJ Ha o I'=>?_
 .exact rq I' I.ok.frames (I.ok.hd hc) (by have:=hr.dp;show X.A.depth<_;omega) (List.mem_append_right _ (List.mem_append_right _ (.head _))) (jc i H' hJ) hosc L hcl hhas (hbind _ _ _ _ _) (λs H=>he _ _ _ _ s H) r (turn i v H' hx hJ)
 .exact⟨.ref a,_,I'.pins_of (λp hp=>I'.pin p (List.mem_append_right _ (.tail _ hp))),rfl,fin a H' ys hJ Ha o⟩
end
section
section
variable {prog:Program}{w:World}{A:Around}{E:Value->Shared->Prop}{s:Shared}
theorem iw {a:Addr}{vs:List Value}{n:Nat}{kd:SortKind}{κ:Nat->Int}{P:PySem.Fin->Shared->Prop}(ho:s.heap.get? a=some (seqObj "list" vs.toArray n))(h64:vs.length<64)
  (hkind:2<=vs.length->∀(h':Heap) (Q:SortKind->Shared->Prop),(∀b o,b≠a->s.heap.get? b=some o->h'.get? b=some o)->Q kd { s with heap:=h' }->wpAny (model prog w) A (keyKind' vs.toArray) Q E { s with heap:=h' })
  (hlt:∀h':Heap,(∀b o,b≠a->s.heap.get? b=some o->h'.get? b=some o)->fS prog w A { s with heap:=h' } kd (pairsOf vs) κ)
  (h:∀(out:Array Value) (p:Nat->Nat),out.size=vs.length->(∀i,i<vs.length->out.toList[i]? = vs[p i]?)->SoS κ p vs.length->P (.done (.ret .none)) { s with heap:=sortedHeap s.heap a vs out }) :
  wpAny (model prog w) A (Builtin.«list.sort» ⟨[.ref a],[]⟩) P E s:=by
 rw[list_sort_plain]
 have ha:a<s.heap.objs.size:=Heap.lt_size ho
 refine wpAny_bind (listItems_at ho rfl ?_)
 refine wpAny_bind (listUpdate_at ho rfl ?_ (by rw[List.size_toArray,sizeLine_eq];omega) (Nat.zero_le _))
 obtain⟨e1,ho1⟩:∃e1,(s.heap.update a (Obj.mapSeq λ_=>#[])).get? a=some (seqObj "list" #[] e1):=⟨_,get?_update_seq ho (λ_=>#[])⟩
 refine wpAny_bind (seqEpoch_at ho1 rfl ?_)
 refine wpAny_bind (wpAny_newTuple ?_ (by show vs.length<=_;rw[sizeLine_eq];omega))
 refine wpAny_bind (wpAny_newList ?_ (Nat.zero_le _))
 refine wpAny_holding ?_
 have ho6:(((s.heap.update a (Obj.mapSeq λ_=>#[])).push (seqObj "tuple" vs.toArray 0)).push (seqObj "list" #[] 0)).get? a=some (seqObj "list" #[] e1):=by
  rw[Heap.get?_push_ne _ _ _ (by rw[size_push',Heap.size_update];exact Nat.ne_of_lt (Nat.lt_succ_of_lt ha)),Heap.get?_push_ne _ _ _ (by rw[Heap.size_update];exact Nat.ne_of_lt ha)]
  exact ho1
 have s1:=Heap.SameBut.update s.heap a (Obj.mapSeq λ_=>(#[]:Array Value))
 have kept:∀b o,b≠a->s.heap.get? b=some o->(((s.heap.update a (Obj.mapSeq λ_=>#[])).push (seqObj "tuple" vs.toArray 0)).push (seqObj "list" #[] 0)).get? b=some o:=λb o hb e=>Heap.get?_push_of_some _ (Heap.get?_push_of_some _ ((s1.2 b hb).trans e))
 show wpAny (model prog w) A _ P E { s with heap:=((s.heap.update a (Obj.mapSeq λ_=>#[])).push (seqObj "tuple" vs.toArray 0)).push (seqObj "list" #[] 0) }
 dsimp only
 have hsz:vs.toArray.size=vs.length:=by simp
 have fin:∀(st':SortSt) (p:Nat->Nat),(arrOf st').size=vs.length->(∀i,i<vs.length->(arrOf st')[i]? = (pairsOf vs)[p i]?)->SoS κ p vs.length->P (.done (.ret .none)) { s with heap:=sortedHeap s.heap a vs ((arrOf st').map (·.2)) }:=by
  intro st' p hz hp hS
  refine h _ p (by rw[Array.size_map];exact hz) (λi hi=>?_) hS
  rw[Array.getElem?_toList,Array.getElem?_map,hp i hi,<-Array.getElem?_toList,pairsOf_toList]
  have hpi:=hS.2.2 i hi
  have e1:vs[p i]? = some vs[p i]:=List.getElem?_eq_getElem hpi
  rw[show(vs.zip vs)[p i]? = some (vs[p i],vs[p i]) from List.getElem?_zip_eq_some.mpr ⟨e1,e1⟩,e1]
  rfl
 by_cases h2:vs.toArray.size<2
 .rw[if_pos h2,if_pos h2]
  refine wpAny_bind (wpAny_pure ?_)
  rw[StateT.run_pure]
  refine wpAny_bind (wpAny_pure ?_)
  dsimp only
  refine wpAny_bind (seqEpoch_at ho6 rfl ?_)
  refine wpAny_bind (listUpdate_at ho6 rfl ?_ (hsz2:=by rw[Array.size_map];show(pairsOf vs).size<=_;rw[pairsOf_size,sizeLine_eq];omega))
  simp only[bne_self_eq_false,Bool.false_eq_true,if_false]
  rw[hsz]at h2
  exact wpAny_pure (fin (SortSt.mk' general' (vs.toArray.zip vs.toArray) #[] 7 none) id (pairsOf_size vs) (λi _=>rfl) ⟨λi j h1 h3=>by omega,λi _=>rfl,λi hi=>hi⟩)
 .rw[if_neg h2,if_neg h2]
  rw[hsz]at h2
  refine wpAny_bind (hkind (by omega) _ _ kept ?_)
  refine wpAny_bind (wpAny_mono (nI (a0:=pairsOf vs) (κ:=κ) (kd:=kd) (st:=SortSt.mk' kd (vs.toArray.zip vs.toArray) #[] 7 none)
   (Q:=λ_ st'=>failedOf st'=none/\(arrOf st').size=(pairsOf vs).size/\∃p,(∀i,i<(pairsOf vs).size->(arrOf st')[i]? = (pairsOf vs)[p i]?)/\SoS κ p (pairsOf vs).size)
   (hlt _ kept) ⟨⟨rfl,rfl,rfl,rfl⟩,λi j _ _ e=>e,λi _=>rfl,λi hi=>hi⟩ (by rw[pairsOf_size];omega) (by rw[pairsOf_size];exact h64) λst' a1 a2 a3=>⟨a1,a2,a3⟩) ?_ λ_ _ e=>e)
  rintro ⟨⟨⟩,st'⟩ s' ⟨rfl,hf,hz,p,hp,hS⟩
  rw[pairsOf_size]at hz hp hS
  dsimp only
  refine wpAny_bind (seqEpoch_at ho6 rfl ?_)
  refine wpAny_bind (listUpdate_at ho6 rfl ?_ (hsz2:=by rw[Array.size_map,hz,sizeLine_eq];omega))
  rw[hf]
  simp only[bne_self_eq_false,Bool.false_eq_true,if_false]
  exact wpAny_pure (fin st' p hz hp hS)
theorem ph {l:Addr}{vs:List Value}{kd:SortKind}{κ:Nat->Int}{Q:Value->Shared->Prop}(hl:s.heap.IsList l vs.toArray)(h64:vs.length<64)
  (hkind:2<=vs.length->∀(h':Heap) (Q:SortKind->Shared->Prop),(∀b o,s.heap.get? b=some o->h'.get? b=some o)->Q kd { s with heap:=h' }->wpAny (model prog w) A.in1.in1 (keyKind' vs.toArray) Q E { s with heap:=h' })
  (hlt:∀h':Heap,(∀b o,s.heap.get? b=some o->h'.get? b=some o)->fS prog w A.in1.in1 { s with heap:=h' } kd (pairsOf vs) κ)
  (h:∀(out:Array Value) (p:Nat->Nat),out.size=vs.length->(∀i,i<vs.length->out.toList[i]? = vs[p i]?)->SoS κ p vs.length->Q (.ref (s.heap.objs.size+1)) { s with heap:=sortedAll s.heap vs out }) :
  wpAny (model prog w) A (call (.builtin "sorted") [.ref l]) Q E s:=by
 refine Calls.call_function_entry kind_sorted plain_sorted entry_sorted (args_sorted1 _) ?_
 unfold Builtin.«sorted»
 refine wpAny_bind (m:=checkCount "sorted" 1 1 _) (wpAny_pure ?_)
 refine wpAny_bind (collect_list hl ?_ (by rw[sizeLine_eq];omega))
 refine wpAny_bind (wpAny_newList ?_ (by rw[sizeLine_eq];omega))
 have hsz:((s.heap.push (seqObj "list" #[] 0)).update s.heap.objs.size (Obj.mapSeq (· ++ vs.toArray))).objs.size=s.heap.objs.size+1:=by
  rw[Heap.size_update,size_push']
 have hoL:(((s.heap.push (seqObj "list" #[] 0)).update s.heap.objs.size (Obj.mapSeq (· ++ vs.toArray))).push (seqObj "list" vs.toArray 0)).get? (s.heap.objs.size+1)=some (seqObj "list" vs.toArray 0):=by
  rw[<-hsz];exact Heap.get?_push_size _ rfl
 have keep:∀b o,s.heap.get? b=some o->(((s.heap.push (seqObj "list" #[] 0)).update s.heap.objs.size (Obj.mapSeq (· ++ vs.toArray))).push (seqObj "list" vs.toArray 0)).get? b=some o/\b≠s.heap.objs.size+1:=λb o q=>by
  have hlt:b<s.heap.objs.size:=Heap.lt_size q
  refine⟨?_,Nat.ne_of_lt (Nat.lt_succ_of_lt hlt)⟩
  rw[Heap.get?_push_ne _ _ _ (by rw[hsz];exact Nat.ne_of_lt (Nat.lt_succ_of_lt hlt)),Heap.get?_update_ne _ _ _ _ (Nat.ne_of_lt hlt),Heap.get?_push_ne _ _ _ (Nat.ne_of_lt hlt)]
  exact q
 show wpAny _ _ _ _ _ { s with heap:=((s.heap.push (seqObj "list" #[] 0)).update s.heap.objs.size (Obj.mapSeq (· ++ vs.toArray))).push (seqObj "list" vs.toArray 0) }
 rw[hsz]
 refine wpAny_bind (wpAny_holding (wpAny_call_entry slot_list_sort ⟨_,hoL,rfl⟩ entry_list_sort (iw (s:={ s with heap:=((s.heap.push (seqObj "list" #[] 0)).update s.heap.objs.size (Obj.mapSeq (· ++ vs.toArray))).push (seqObj "list" vs.toArray 0) }) hoL h64
  (λh2 h' Q hk hq=>hkind h2 h' Q (λb o e=>hk b o (keep b o e).2 (keep b o e).1) hq) (λh' hk=>hlt h' λb o e=>hk b o (keep b o e).2 (keep b o e).1) λout p a1 a2 a3=>⟨_,rfl,?_⟩) (args_list_sort _)))
 exact wpAny_pure ⟨_,rfl,h out p a1 a2 a3⟩
end
def kE (K:Frag)(H:Hp):List Int->List V->Prop
 | [],xs=>xs=[]
 | n::ns,xs=>∃t r ys,xs = .ref t::ys/\SqT K H t (.int n::r)/\kE K H ns ys
theorem kE.len {K:Frag}{H:Hp}:∀{ns:List Int} {xs:List V},kE K H ns xs->xs.length=ns.length
 | [],_,h=>by cases h;rfl
 | n::ns,_,⟨t,r,ys,rfl,_,h⟩=>by simp[kE.len h]
theorem kE.get {K:Frag}{H:Hp}:∀{ns:List Int} {xs:List V} {i:Nat} {n:Int},kE K H ns xs->ns[i]? = some n->∃t r,xs[i]? = some (.ref t)/\SqT K H t (.int n::r)
 | [],_,_,_,_,e=>by simp at e
 | m::ns,_,0,n,⟨t,r,ys,rfl,h1,h⟩,e=>by
  simp at e;subst e;exact⟨t,r,rfl,h1⟩
 | m::ns,_,i+1,n,⟨t,r,ys,rfl,h1,h⟩,e=>by
  obtain⟨t',r',a,b⟩:=h.get (i:=i) (by simpa using e)
  exact⟨t',r',by simpa using a,b⟩
section
variable {X:Cx}{K:Fg}
def zi (K:Frag):List V->Hp->VK->Prop:=λxs H Q=>∃(a:Addr) (zs:List V) (ns:List Int),xs=[.ref a]/\SqL K H a zs/\kE K H ns zs/\ns.Nodup/\ns.length<64 /\
 ∀(p:Addr) (ys:List V),H p=none->dF (ns.map V.int) zs ys->Q (.ref p) (upd H p (.lst ys))
theorem mx (hK:X.K=K):D1 X (.builtin "sorted") (zi K):=by
 subst hK
 intro pins s σ H xs us Q I r h
 obtain⟨a,zs,ns,rfl,hq,hT,hnd,h64,q⟩:=h
 obtain⟨u,rfl,ru⟩:=O7 r
 cases ru
 obtain⟨its,rv,p,hz⟩:=I.list hq
 have hl1:=hT.len
 have hl2:its.length=zs.length:=rv.length.symm
 -- each item: a tuple in the heap with its int in front
 have item:∀(i:Nat) (n:Int),ns[i]? = some n->∃(t:Addr) (o:Obj) (ys:Array Value) (k:Nat) (tk:Tok),its[i]? = some (.ref t)/\s.heap.get? t=some o/\o.cls = .type "tuple" /\ o.data = .seq ys k/\ys[0]? = some (.int n tk):=λi n e=>by
  obtain⟨t,r,e1,e2⟩:=hT.get e
  obtain⟨u,e3,e4⟩:=rv.get e1
  cases e4
  obtain⟨ys,ry,⟨o,ho,hc,k,hd⟩,_⟩:=I.tuple e2
  cases ry with
  | cons r1 r2 =>
   obtain⟨tk,rfl⟩:=r1
   exact⟨t,o,_,k,tk,e3,ho,hc,hd,by simp⟩
 have tups:∀(h':Heap),(∀b o,s.heap.get? b=some o->h'.get? b=some o)->∀(ms:List Int) (vs:List Value),ms.length=vs.length->(∀(i:Nat) (n:Int),ms[i]? = some n->∃(t:Addr) (o:Obj) (ys:Array Value) (k:Nat) (tk:Tok),vs[i]? = some (.ref t)/\s.heap.get? t=some o/\o.cls = .type "tuple" /\ o.data = .seq ys k/\ys[0]? = some (.int n tk)) ->
   ∃fs:List Value,KatTups h' vs fs/\fs.length=vs.length/\∀v∈fs,∃n t,v=Value.int n t:=by
  intro h' hk ms
  induction ms with
  | nil =>
   intro vs hl _
   rw[List.length_eq_zero_iff.mp hl.symm]
   exact⟨[],KatTups.nil,rfl,λv hv=>by simp at hv⟩
  | cons m ms ih =>
   intro vs hl hi
   cases vs with
   | nil=>simp at hl
   | cons v vs =>
    obtain⟨t,o,ys,k,tk,e1,e2,e3,e4,e5⟩:=hi 0 m rfl
    have e1:some v=some (Value.ref t):=e1
    cases e1
    obtain⟨fs,f1,f2,f3⟩:=ih vs (by simpa using hl) λi n e=>by
     obtain⟨t,o,ys,k,tk,g1,g⟩:=hi (i+1) n (by simpa using e)
     exact⟨t,o,ys,k,tk,by simpa using g1,g⟩
    refine⟨.int m tk::fs,KatTups.cons (hk _ _ e2) e3 e4 e5 f1,by simp[f2],λv hv=>?_⟩
    rcases List.mem_cons.mp hv with rfl | hv
    .exact⟨m,tk,rfl⟩
    .exact f3 v hv
 refine ph (kd:=tuples' true) (κ:=T4 (ns.map V.int)) p.isList (by omega) (λh2 h' Q' hk hQ=>?_) (λh' hk=>?_) λout p' a1 a2 a3=>?_
 .obtain⟨fs,f1,f2,f3⟩:=tups h' hk ns its (by omega) item
  refine kat_kind (T:=.type "int") (s:={ s with heap:=h' }) f1 (by omega) (λv hv=>?_) rfl hQ
  obtain⟨n,t,rfl⟩:=f3 v hv
  exact .now
 .intro i j x y hij ex ey E Q' hQ
  rw[<-Array.getElem?_toList,pairsOf_toList,List.getElem?_zip_eq_some]at ex ey
  have hi:i<ns.length:=by have:=(List.getElem?_eq_some_iff.mp ex.1).1;omega
  have hj:j<ns.length:=by have:=(List.getElem?_eq_some_iff.mp ey.1).1;omega
  obtain⟨t1,o1,ys1,k1,tk1,b1,b2,b3,b4,b5⟩:=item i ns[i] (List.getElem?_eq_getElem hi)
  obtain⟨t2,o2,ys2,k2,tk2,c1,c2,c3,c4,c5⟩:=item j ns[j] (List.getElem?_eq_getElem hj)
  rw[b1]at ex
  rw[c1]at ey
  rw[<-Option.some.inj ex.1,<-Option.some.inj ey.1]
  have n1:T4 (ns.map V.int) i=ns[i]:=by
   unfold T4;rw[List.getD_eq_getElem?_getD,List.getElem?_map,List.getElem?_eq_getElem hi];rfl
  have n2:T4 (ns.map V.int) j=ns[j]:=by
   unfold T4;rw[List.getD_eq_getElem?_getD,List.getElem?_map,List.getElem?_eq_getElem hj];rfl
  rw[n1,n2]at hQ
  have hne:ns[i]≠ns[j]:=λe=>hij ((List.getElem_inj hnd).mp e)
  refine kat_lt (s:={ s with heap:=h' }) (hk _ _ b2) b4 (hk _ _ c2) c4 ?_
  obtain⟨r1,er1⟩:∃r1,ys1.toList = .int ns[i] tk1::r1:=by
   cases e:ys1.toList with
   | nil=>rw[<-Array.getElem?_toList,e]at b5;simp at b5
   | cons z r=>rw[<-Array.getElem?_toList,e]at b5;simp at b5;exact⟨r,by rw[b5]⟩
  obtain⟨r2,er2⟩:∃r2,ys2.toList = .int ns[j] tk2::r2:=by
   cases e:ys2.toList with
   | nil=>rw[<-Array.getElem?_toList,e]at c5;simp at c5
   | cons z r=>rw[<-Array.getElem?_toList,e]at c5;simp at c5;exact⟨r,by rw[c5]⟩
  rw[er1,er2,List.zip_cons_cons]
  refine kat_cons (wpAny_eqBool_int ?_)
  have hb:(ns[i] == ns[j])=false:=by simpa using hne
  rw[hb]
  refine kat_no ?_
  exact oneLt_int hQ
 .have hlen:zs.length=its.length:=hl2.symm
  obtain⟨e,he⟩:=sortedAll_at s.heap its out
  have ysl:((List.range its.length).map λi=>zs.getD (p' i) .non).length=its.length:=by rw[List.length_map,List.length_range]
  have ysg:∀i,i<its.length->((List.range its.length).map λi=>zs.getD (p' i) .non)[i]? = zs[p' i]?:=λi hi=>by
   rw[List.getElem?_map,List.getElem?_range hi]
   have hpi:=a3.2.2 i hi
   show some (zs.getD (p' i) .non)=_
   rw[List.getD_eq_getElem?_getD,List.getElem?_eq_getElem (by omega)]
   rfl
  have I1:Inv X pins σ (upd H (s.heap.objs.size+1) (.lst ((List.range its.length).map λi=>zs.getD (p' i) .non))) { s with heap:=sortedAll s.heap its out,toks:=s.toks } :=
   I.laid (a:=s.heap.objs.size+1) (λb o ho=>sortedAll_old ho) (Nat.le_succ _) ⟨by rw[ysl,sizeLine_eq];omega,out.toList,e,R4 (by rw[ysl,atl out,a1]) (λi x u hx hu=>by
    have hi:i<its.length:=by
     have:=(List.getElem?_eq_some_iff.mp hx).1
     rwa [ysl]at this
    rw[ysg i hi]at hx
    rw[a2 i hi]at hu
    obtain⟨u',g1,g2⟩:=rv.get hx
    rw[g1]at hu
    rw[<-Option.some.inj hu]
    exact g2),by rw[he]⟩
  exact⟨.ref (s.heap.objs.size+1),_,I1,rfl,q _ _ (I.hok.fresh (Nat.le_succ _)) ⟨by rw[ysl,hlen],p',by rw[hlen];exact a3,λi hi=>ysg i (by omega)⟩⟩
end
end
end L2
namespace L2
def V9 {α:Type}(p:Int × α):List (Int × α)->List (Int × α)
 | []=>[p]
 | q::r=>if p.1<=q.1 then p::q::r else q::V9 p r
def t9 {α:Type}:List (Int × α)->List (Int × α)
 | []=>[]
 | p::r=>V9 p (t9 r)
theorem lx {α β:Type}(f:α->β)(p:Int × α):∀l:List (Int × α),V9 (p.1,f p.2) (l.map λq=>(q.1,f q.2))=(V9 p l).map λq=>(q.1,f q.2)
 | []=>rfl
 | q::r=>by
  simp only[List.map_cons,V9]
  split
  .rfl
  .rw[List.map_cons,lx f p r]
theorem aU {α β:Type}(f:α->β):∀l:List (Int × α),t9 (l.map λq=>(q.1,f q.2))=(t9 l).map λq=>(q.1,f q.2)
 | []=>rfl
 | p::r=>by
  rw[List.map_cons,t9,t9,aU f r]
  exact lx f p _
theorem U9 {α:Type}(p:Int × α):∀l:List (Int × α),(V9 p l).Perm (p::l)
 | []=>.refl _
 | q::r=>by
  rw[V9]
  split
  .exact .refl _
  .exact((U9 p r).cons q).trans (.swap p q r)
theorem z8 {α:Type}:∀l:List (Int × α),(t9 l).Perm l
 | []=>.refl _
 | p::r=>(U9 p _).trans ((z8 r).cons p)
def LxP (a b:Int×Nat):Prop:=a.1<b.1\/(a.1=b.1/\a.2<b.2)
theorem nT {p:Int×Nat}:∀{l:List (Int×Nat)},l.Pairwise LxP->(∀q∈l,p.2<q.2)->(V9 p l).Pairwise LxP
 | [],_,_=>by simp[V9]
 | q::r,h,hl=>by
  rw[List.pairwise_cons]at h
  rw[V9]
  split
  .rename_i hle
   refine List.pairwise_cons.mpr ⟨λz hz=>?_,List.pairwise_cons.mpr h⟩
   have h1:LxP p q:=by
    rcases Int.lt_or_eq_of_le hle with e | e
    .exact .inl e
    .exact .inr ⟨e,hl q List.mem_cons_self⟩
   rcases List.mem_cons.mp hz with rfl | hz
   .exact h1
   .have h2:=h.1 z hz
    unfold LxP at h1 h2 ⊢
    omega
  .rename_i hgt
   refine List.pairwise_cons.mpr ⟨λz hz=>?_,nT h.2 λz hz=>hl z (List.mem_cons_of_mem _ hz)⟩
   rcases List.mem_cons.mp ((U9 p r).mem_iff.mp hz) with rfl | hz
   .exact .inl (by omega)
   .exact h.1 z hz
theorem gS:∀{l:List (Int×Nat)},l.Pairwise (λa b=>a.2<b.2)->(t9 l).Pairwise LxP
 | [],_=>.nil
 | p::r,h=>by
  rw[List.pairwise_cons]at h
  exact nT (gS h.2) λq hq=>h.1 q ((z8 r).mem_iff.mp hq)
theorem gK:∀{l₁ l₂:List (Int×Nat)},l₁.Perm l₂->l₁.Pairwise LxP->l₂.Pairwise LxP->l₁=l₂
 | [],l₂,p,_,_=>p.nil_eq
 | a::r,[],p,_,_=>by have:=p.length_eq;simp at this
 | a::r,b::t,p,h1,h2=>by
  rw[List.pairwise_cons]at h1 h2
  have ab:a=b:=by
   rcases List.mem_cons.mp (p.mem_iff.mp (List.mem_cons_self (a:=a) (l:=r))) with e | e
   .exact e
   .rcases List.mem_cons.mp (p.mem_iff.mpr (List.mem_cons_self (a:=b) (l:=t))) with e2 | e2
    .exact e2.symm
    .have q1:=h2.1 a e
     have q2:=h1.1 b e2
     unfold LxP at q1 q2
     omega
  subst ab
  rw[gK (p.cons_inv) h1.2 h2.2]
theorem fA:∀(n:Nat) (l:List Nat),l.Nodup->(∀x∈l,x<n)->l.length=n->l.Perm (List.range n)
 | 0,l,_,_,hl=>by rw[List.length_eq_zero_iff.mp hl];exact .refl _
 | n+1,l,hd,hb,hl=>by
  have short:∀(m:Nat) (l:List Nat),l.Nodup->(∀x∈l,x<m)->l.length<=m:=by
   intro m
   induction m with
   | zero =>
    intro l _ hb
    cases l with
    | nil=>simp
    | cons a r=>exact absurd (hb a List.mem_cons_self) (by omega)
   | succ m ih =>
    intro l hd hb
    by_cases hm:m∈l
    .have e:=ih (l.erase m) (hd.erase m) λx hx=>by
      have h1:=hb x (List.mem_of_mem_erase hx)
      have h2:x≠m:=λz=>by subst z;exact(List.Nodup.not_mem_erase hd) hx
      omega
     rw[List.length_erase_of_mem hm]at e
     omega
    .have e:=ih l hd λx hx=>by
      have h1:=hb x hx
      have h2:x≠m:=λz=>hm (z▸hx)
      omega
     omega
  have hn:n∈l:=by
   by_cases hm:n∈l
   .exact hm
   .have e:=short n l hd λx hx=>by
     have h1:=hb x hx
     have h2:x≠n:=λz=>hm (z▸hx)
     omega
    omega
  have ih:=fA n (l.erase n) (hd.erase n) (λx hx=>by
   have h1:=hb x (List.mem_of_mem_erase hx)
   have h2:x≠n:=λz=>by subst z;exact(List.Nodup.not_mem_erase hd) hx
   omega) (by rw[List.length_erase_of_mem hn];omega)
  refine(List.perm_cons_erase hn).trans ((ih.cons n).trans ?_)
  rw[List.range_succ]
  exact(List.perm_append_singleton n (List.range n)).symm
theorem kq {ks xs ys:List V}(h:dF ks xs ys)(hl:ks.length=xs.length):ys=(t9 ((ks.map gm).zip xs)).map Prod.snd:=by
 obtain⟨hy,p,hS,hp⟩:=h
 generalize hn:xs.length=n at hy hS hp hl
 have nd:((List.range n).map p).Nodup:=by
  rw[List.nodup_iff_pairwise_ne,List.pairwise_iff_getElem]
  intro i j hi hj hij
  have hj':j<n:=by simpa using hj
  simp only[List.getElem_map,List.getElem_range]
  intro e
  have q:=hS.1 i j hij hj'
  rw[e]at q
  unfold Lx at q
  omega
 have pr:=fA n ((List.range n).map p) nd (λx hx=>by
  obtain⟨i,hi,rfl⟩:=List.mem_map.mp hx
  exact hS.2.2 i (List.mem_range.mp hi)) (by simp)
 have q1:(((List.range n).map p).map λi=>(T4 ks i,i)).Pairwise LxP:=by
  rw[List.pairwise_iff_getElem]
  intro i j hi hj hij
  have hj':j<n:=by simpa using hj
  simp only[List.getElem_map,List.getElem_range]
  exact hS.1 i j hij hj'
 have q2:(t9 ((List.range n).map λi=>(T4 ks i,i))).Pairwise LxP:=gS (by
  rw[List.pairwise_iff_getElem]
  intro i j hi hj hij
  simpa using hij)
 have e:=gK ((pr.map λi=>(T4 ks i,i)).trans (z8 _).symm) q1 q2
 have ez:(ks.map gm).zip xs=((List.range n).map λi=>(T4 ks i,i)).map λq=>(q.1,xs.getD q.2 .non):=by
  refine List.ext_getElem? λi=>?_
  rw[List.map_map]
  by_cases hi:i<n
  .have h1:(ks.map gm)[i]? = some (T4 ks i):=by
    rw[List.getElem?_map]
    unfold T4
    rw[List.getD_eq_getElem?_getD,List.getElem?_eq_getElem (by omega)]
    rfl
   have h2:xs[i]? = some (xs.getD i .non):=by
    rw[List.getD_eq_getElem?_getD,List.getElem?_eq_getElem (by omega)]
    rfl
   rw[show((ks.map gm).zip xs)[i]? = some (T4 ks i,xs.getD i .non) from List.getElem?_zip_eq_some.mpr ⟨h1,h2⟩,List.getElem?_map,List.getElem?_range hi]
   rfl
  .rw[List.getElem?_eq_none (by rw[List.length_zip,List.length_map];omega),List.getElem?_eq_none (by simp;omega)]
 rw[ez,aU (λi=>xs.getD i .non),<-e,List.map_map,List.map_map,List.map_map]
 refine List.ext_getElem? λi=>?_
 by_cases hi:i<n
 .rw[hp i hi,List.getElem?_map,List.getElem?_range hi]
  have hpi:=hS.2.2 i hi
  show xs[p i]? = some (xs.getD (p i) .non)
  rw[List.getD_eq_getElem?_getD,List.getElem?_eq_getElem (by omega)]
  rfl
 .rw[List.getElem?_eq_none (by omega),List.getElem?_eq_none (by simp;omega)]
end L2
namespace L3
open PySem PySem.Spec PyProof.Rows L2
section
abbrev St:=L2.St
def hid (H:Hp)(B:List Addr):Hp:=λb=>if b∈B then none else H b
theorem e8 {H:Hp}{B:List Addr}{b:Addr}(h:b ∉ B):hid H B b=H b:=by unfold hid;rw[if_neg h]
theorem v7 {H:Hp}{B:List Addr}{b:Addr}(h:b∈B):hid H B b=none:=by unfold hid;rw[if_pos h]
theorem d0 {H:Hp}{B:List Addr}:d8 (hid H B) H:=λb o e=>by
 by_cases h:b∈B
 .rw[v7 h]at e;cases e
 .rwa [e8 h]at e
theorem J4 {H:Hp}{B B':List Addr}(s:∀b∈B',b∈B):d8 (hid H B) (hid H B'):=λb o e=>by
 by_cases h:b∈B
 .rw[v7 h]at e;cases e
 .rw[e8 h]at e;rw[e8 λz=>h (s b z)];exact e
def Kp (fp:List Addr)(H H':Hp):Prop:=∀b o,H b=some o->b ∉ fp->H' b=some o
theorem Kp.refl {fp:List Addr}{H:Hp}:Kp fp H H:=λ_ _ e _=>e
theorem Kp.trans {fp:List Addr}{H H1 H2:Hp}(a:Kp fp H H1)(b:Kp fp H1 H2):Kp fp H H2:=λc o e n=>b c o (a c o e n) n
theorem Kp.same {fp:List Addr}{H H':Hp}(s:d8 H H'):Kp fp H H':=λb o e _=>s b o e
theorem Kp.upd {fp:List Addr}{H:Hp}{p:Addr}{o:HO}(hp:H p=none):Kp fp H (upd H p o):=Kp.same (d8.upd hp)
theorem Kp.hid {fp B:List Addr}{H H':Hp}(k:Kp fp H H')(s:∀b∈fp,b∈B):d8 (hid H B) (hid H' B):=λb o e=>by
 by_cases h:b∈B
 .rw[v7 h]at e;cases e
 .rw[e8 h]at e ⊢;exact k b o e λz=>h (s b z)
theorem W6 {H:Hp}{B:List Addr}{a:Addr}{o:HO}(h:a∈B):hid (upd H a o) B=hid H B:=by
 funext b
 by_cases hb:b∈B
 .rw[v7 hb,v7 hb]
 .rw[e8 hb,e8 hb,a9];intro e;subst e;exact hb h
def G6 (K:Fg)(fp B:List Addr)(H:Hp):PyData->V->Prop
 | .tuple ds,v=>∃a xs,v = .ref a/\SqT K (hid H B) a xs/\a6 K (hid H B) ds xs
 | .list ds,v=>∃a xs,v = .ref a/\hid H fp a=some (.lst xs)/\a6 K (hid H B) ds xs
 | .none,v=>v = .non
 | .bool b,v=>v = .bl b
 | .int i,v=>v = .int i
 | .str x,v=>v = .str x
 | .dict _,_=>False
section
variable {K:Fg}{fp B:List Addr}{H H':Hp}{d:PyData}{v:V}
theorem aG (h:a7 K (hid H B) d v)(s:∀b∈fp,b∈B):G6 K fp B H d v:=by
 cases d with
 | tuple ds =>
  simp only[a7]at h
  obtain⟨a,xs,e,hq,hd⟩:=h
  exact⟨a,xs,e,hq,hd⟩
 | list ds =>
  simp only[a7]at h
  obtain⟨a,xs,e,hq,hd⟩:=h
  exact⟨a,xs,e,J4 s _ _ hq,hd⟩
 | _=>simpa only[a7,G6] using h
theorem G6.dat (h:G6 K fp B H d v):a7 K H d v:=by
 cases d with
 | tuple ds =>
  obtain⟨a,xs,e,hq,hd⟩:=h
  simp only[a7]
  exact⟨a,xs,e,hq.same d0,hd.same d0⟩
 | list ds =>
  obtain⟨a,xs,e,hq,hd⟩:=h
  simp only[a7]
  exact⟨a,xs,e,d0 _ _ hq,hd.same d0⟩
 | _=>simpa only[a7,G6] using h
theorem G6.step (h:G6 K fp B H d v)(k:Kp fp H H')(s:∀b∈fp,b∈B):G6 K fp B H' d v:=by
 have sm:=k.hid s
 have sf:=k.hid (B:=fp) λ_ z=>z
 cases d with
 | tuple ds =>
  obtain⟨a,xs,e,hq,hd⟩:=h
  exact⟨a,xs,e,hq.same sm,hd.same sm⟩
 | list ds =>
  obtain⟨a,xs,e,hq,hd⟩:=h
  exact⟨a,xs,e,sf _ _ hq,hd.same sm⟩
 | _=>exact h
theorem G6.tup {ds:List PyData}(h:G6 K fp B H (.tuple ds) v):a7 K (hid H B) (.tuple ds) v:=by
 obtain⟨a,xs,e,hq,hd⟩:=h
 simp only[a7]
 exact⟨a,xs,e,hq,hd⟩
def BOk (H:Hp)(B:List Addr):Prop:=∀b∈B,∃o,H b=some o
theorem BOk.nin (h:BOk H B){p:Addr}(hp:H p=none):p ∉ B:=λz=>by
 obtain⟨o,e⟩:=h p z;rw[hp]at e;cases e
theorem N2 {p:Addr}{ds:List PyData}{xs:List V}(bk:BOk H B)(hp:H p=none)(h:a6 K (hid H B) ds xs):a7 K (hid (upd H p (.tup xs)) B) (.tuple ds) (.ref p):=by
 have e:d8 (hid H B) (hid (upd H p (.tup xs)) B):=(Kp.upd (fp:=[]) hp).hid (by simp)
 refine a7.tup ?_ (h.same e)
 rw[e8 (bk.nin hp)];exact b9
theorem N5 {p:Addr}{ds:List PyData}{xs:List V}(bk:BOk H B)(hp:H p=none)(h:a6 K (hid H B) ds xs):a7 K (hid (upd H p (.lst xs)) B) (.list ds) (.ref p):=by
 have e:d8 (hid H B) (hid (upd H p (.lst xs)) B):=(Kp.upd (fp:=[]) hp).hid (by simp)
 refine a7.lst ?_ (h.same e)
 rw[e8 (bk.nin hp)];exact b9
end
def NoT (o:HO):Prop:=(∀ps,o ≠ .tbl ps)/\∀φ,o ≠ .ext φ
class Feeds where
 S:Type
 At:Addr->Addr->Hp->S->Prop
 some1:∀{d c H F},At d c H F->∃o,H d=some o/\NoT o
 some2:∀{d c H F},At d c H F->∃o,H c=some o/\NoT o
 congr:∀{d c H H' F},At d c H F->H' d=H d->H' c=H c->At d c H' F
 lam:List Str
abbrev GF:=Option (Addr×Addr)
def tabsK (l:List Str)(K:Fg):List (Str×Addr×Addr):=l.filterMap λx=>(PySem.W.tabIn K x).map λp=>(x,p)
def ki (x:Str):Str:=x ++ ".<locals>." ++ "<lambda>"
def A9 (ts:List (Str×Addr×Addr))(H:Hp):Prop:=∀t∈ts,gy H t.2.2 (ki t.1)
theorem A9.congr {ts:List (Str×Addr×Addr)}{H H':Hp}(h:A9 ts H)(e:∀b,(b∈ts.map (·.2.2)\/∃φ,H b=some (.ext φ))->H' b=H b):A9 ts H':=λt ht=>by
 obtain⟨ps,h1,h2,h3⟩:=h t ht
 refine⟨ps,(e _ (.inl (List.mem_map_of_mem ht))).trans h1,h2,λpos cv q=>?_⟩
 obtain⟨c,r1,r2⟩:=h3 pos cv q
 exact⟨c,r1,(e c (.inr ⟨_,r2⟩)).trans r2⟩
theorem A9.but {ts:List (Str×Addr×Addr)}{H H':Hp}{d:Addr}{o0:HO}(h:A9 ts H)(hd:H d=some o0)(hn:NoT o0)(kp:∀b o,H b=some o->b≠d->H' b=some o):A9 ts H':=h.congr λb hb=>by
 obtain⟨o,e,hne⟩:∃o,H b=some o/\b≠d:=by
  rcases hb with hb | ⟨φ,e⟩
  .obtain⟨t,ht,rfl⟩:=List.mem_map.mp hb
   obtain⟨ps,e,_⟩:=h t ht
   exact⟨_,e,λz=>by rw[z,hd]at e;exact hn.1 ps (Option.some.inj e)⟩
  .exact⟨_,e,λz=>by rw[z,hd]at e;exact hn.2 φ (Option.some.inj e)⟩
 rw[e];exact kp b o e hne
section
variable [Feeds]
def tabP (K:Fg):List Addr:=(tabsK Feeds.lam K).map (·.2.2)
def k9 (K:Fg):GF->List Addr
 | none=>tabP K
 | some (d,c)=>d::c::tabP K
theorem iy {K:Fg}{G:GF}{b:Addr}(h:b∈tabP K):b∈k9 K G:=by
 cases G with
 | none=>exact h
 | some p=>exact List.mem_cons_of_mem _ (List.mem_cons_of_mem _ h)
abbrev FS:=Feeds.S
abbrev M (α:Type):=FS->Option (α×FS)
def Bz (G:GF)(H:Hp)(F:FS):Prop:=match G with
 | none=>True
 | some (d,c)=>Feeds.At d c H F
def FAt (K:Fg)(G:GF)(H:Hp)(F:FS):Prop:=Bz G H F/\A9 (tabsK Feeds.lam K) H
theorem FAt.bok {K:Fg}{G:GF}{H:Hp}{F:FS}(h:FAt K G H F):BOk H (k9 K G):=λb hb=>by
 have tb:b∈tabP K->∃o,H b=some o:=λz=>by
  obtain⟨t,ht,rfl⟩:=List.mem_map.mp z
  obtain⟨ps,h1,_⟩:=h.2 t ht
  exact⟨_,h1⟩
 cases G with
 | none=>exact tb hb
 | some p =>
  obtain⟨d,c⟩:=p
  simp only[k9,List.mem_cons]at hb
  rcases hb with rfl | rfl | hb
  .obtain⟨o,e,_⟩:=Feeds.some1 h.1;exact⟨o,e⟩
  .obtain⟨o,e,_⟩:=Feeds.some2 h.1;exact⟨o,e⟩
  .exact tb hb
theorem FAt.congr {K:Fg}{G:GF}{H H':Hp}{F:FS}(h:FAt K G H F)(e:∀b,(b∈k9 K G\/∃φ,H b=some (.ext φ))->H' b=H b):FAt K G H' F:=by
 refine⟨?_,h.2.congr λb hb=>e b (hb.imp iy id)⟩
 cases G with
 | none=>trivial
 | some p =>
  obtain⟨d,c⟩:=p
  exact Feeds.congr h.1 (e d (.inl (by simp[k9]))) (e c (.inl (by simp[k9])))
theorem FAt.same {K:Fg}{G:GF}{H H':Hp}{F:FS}(h:FAt K G H F)(s:d8 H H'):FAt K G H' F:=h.congr λb hb=>by
 rcases hb with hb | ⟨φ,e⟩
 .obtain⟨o,e⟩:=h.bok b hb
  rw[e];exact s b o e
 .rw[e];exact s b _ e
inductive DV where
 | dat (d:PyData) | feed | own (ds:List PyData) | fn (x:Str) | adr (a:Addr)
abbrev DE:=List (Option DV)
def DVr (K:Fg)(G:GF)(B:List Addr)(H:Hp):DV->V->Prop
 | .dat d,v=>a7 K (hid H B) d v
 | .feed,v=>∃d c,G=some (d,c)/\v = .ref d
 | .fn x,v=>∃a,v = .ref a/\PySem.W.nsIn K mainGlobals x=some (some (.ref a))
 | .adr a,v=>v = .ref a
 | .own ds,v=>∃a xs,v = .ref a/\a∈B/\a ∉ k9 K G/\H a=some (.lst xs)/\a6 K (hid H B) ds xs
structure SitE (K:Fg) (G:GF) (B:List Addr) (E:DE) (F:FS) (σ:St) (H:Hp):Prop where
 fd:FAt K G H F
 fB:∀b∈k9 K G,b∈B
 bk:BOk H B
 ln:E.length = σ.length
 loc:∀(i:Nat) (x:DV),E[i]? = some (some x)->∃v,σ[i]? = some (some v)/\DVr K G B H x v
section
variable {K:Fg}{G:GF}{B:List Addr}{E:DE}{F F':FS}{σ:St}{H H':Hp}
theorem w6 (bk:BOk H B)(k:Kp (k9 K G) H H')(f:FAt K G H' F'):BOk H' B:=λb hb=>by
 by_cases h:b∈k9 K G
 .exact f.bok b h
 .obtain⟨o,e⟩:=bk b hb
  exact⟨o,k b o e h⟩
theorem DVr.step {x:DV}{v:V}(h:DVr K G B H x v)(k:Kp (k9 K G) H H')(fB:∀b∈k9 K G,b∈B):DVr K G B H' x v:=by
 cases x with
 | dat d=>exact a7.same (h:a7 _ _ _ _) (k.hid fB)
 | feed=>exact h
 | fn _=>exact h
 | adr _=>exact h
 | own ds =>
  obtain⟨a,xs,e,hB,hf,ha,hd⟩:=h
  exact⟨a,xs,e,hB,hf,k a _ ha hf,hd.same (k.hid fB)⟩
theorem SitE.step (I:SitE K G B E F σ H)(k:Kp (k9 K G) H H')(f:FAt K G H' F'):SitE K G B E F' σ H' :=
 ⟨f,I.fB,w6 I.bk k f,I.ln,λi x e=>by
  obtain⟨v,h1,h2⟩:=I.loc i x e
  exact⟨v,h1,h2.step k I.fB⟩⟩
end
end
end
section
section
variable [Feeds]
def TEd (K:Fg)(te:TE)(m:DE->M PyData):Prop:=∀(G:GF) (B:List Addr) (E:DE) (F:FS) (σ:St) (H:Hp) (Q:VK) (d:PyData) (F':FS),SitE K G B E F σ H->m E F=some (d,F') ->
 (∀v H',Kp (k9 K G) H H'->FAt K G H' F'->a7 K (hid H' B) d v->Q v H')->te σ H Q
def TEs (K:Fg)(te:TE)(m:DE->M PyData):Prop:=∀(G:GF) (B:List Addr) (E:DE) (F:FS) (σ:St) (H:Hp) (Q:VK) (d:PyData) (F':FS),SitE K G B E F σ H->m E F=some (d,F') ->
 (∀v H',Kp (k9 K G) H H'->FAt K G H' F'->G6 K (k9 K G) B H' d v->Q v H')->te σ H Q
theorem TEd.sh {K:Fg}{te:TE}{m:DE->M PyData}(h:TEd K te m):TEs K te m:=λG B E F σ H Q d F' I e q=>h G B E F σ H Q d F' I e λv H' k f hd=>q v H' k f (aG hd I.fB)
def TTd (K:Fg)(tt:TT)(m:DE->M Bool):Prop:=∀(G:GF) (B:List Addr) (E:DE) (F:FS) (σ:St) (H:Hp) (Q:Bool->Hp->Prop) (b:Bool) (F':FS),SitE K G B E F σ H->m E F=some (b,F') ->
 (∀H',Kp (k9 K G) H H'->FAt K G H' F'->Q b H')->tt σ H Q
def TAd (K:Fg)(ta:TA)(m:DE->M (List PyData)):Prop:=∀(G:GF) (B:List Addr) (E:DE) (F:FS) (σ:St) (H:Hp) (Q:List V->Hp->Prop) (ds:List PyData) (F':FS),SitE K G B E F σ H->m E F=some (ds,F') ->
 (∀vs H',Kp (k9 K G) H H'->FAt K G H' F'->a6 K (hid H' B) ds vs->Q vs H')->ta σ H Q
def gb (K:Fg)(fp B:List Addr)(H:Hp):List PyData->List V->Prop
 | [],vs=>vs=[]
 | d::ds,vs=>∃v r,vs=v::r/\G6 K fp B H d v/\gb K fp B H ds r
def TAs (K:Fg)(ta:TA)(m:DE->M (List PyData)):Prop:=∀(G:GF) (B:List Addr) (E:DE) (F:FS) (σ:St) (H:Hp) (Q:List V->Hp->Prop) (ds:List PyData) (F':FS),SitE K G B E F σ H->m E F=some (ds,F') ->
 (∀vs H',Kp (k9 K G) H H'->FAt K G H' F'->gb K (k9 K G) B H' ds vs->Q vs H')->ta σ H Q
structure Ev (K:Fg) (X:Cx) (e:Expr) (te:TE) (m:DE->M PyData):Prop where
 pe:PE X e te
 ok:TEd K te m
structure Eb (K:Fg) (X:Cx) (e:Expr) (te:TE) (m:DE->M PyData):Prop where
 pe:PE X e te
 ok:TEs K te m
structure Et (K:Fg) (X:Cx) (e:Expr) (tt:TT) (m:DE->M Bool):Prop where
 pt:PT X e tt
 ok:TTd K tt m
structure Ew (K:Fg) (X:Cx) (e:Expr) (tt:TT) (m:DE->M Bool):Prop where
 pw:PW X e tt
 ok:TTd K tt m
structure Ea (K:Fg) (X:Cx) (es:List Expr) (ta:TA) (m:DE->M (List PyData)):Prop where
 pa:PA X es ta
 ok:TAd K ta m
structure Es (K:Fg) (X:Cx) (es:List Expr) (ta:TA) (m:DE->M (List PyData)):Prop where
 pa:PA X es ta
 ok:TAs K ta m
variable {K:Fg}{X:Cx}{a b c e:Expr}{es:List Expr}{ta tb tc te:TE}{ma mb mc m:DE->M PyData}{pos:Pos}
theorem Ev.bw (h:Ev K X e te m):Eb K X e te m:=⟨h.pe,h.ok.sh⟩
def sC (d:PyData):DE->M PyData:=λ_ F=>some (d,F)
def sV (i:Nat):DE->M PyData:=λE F=>match E[i]? with
 | some (some (.dat d))=>some (d,F)
 | _=>none
def sW (i:Nat):DE->M PyData:=λE F=>match E[i]? with
 | some (some (.dat d))=>some (d,F)
 | some (some (.own ds))=>some (.list ds,F)
 | _=>none
theorem wq {d:PyData}{v:V}(h:∀H,a7 K H d v):TEd K (tC v) (sC d):=λG B E F σ H Q d' F' I e q=>by
 cases e
 exact q v H Kp.refl I.fd (h _)
theorem f9 {i j}:Ev K X (.Constant (.int i) j pos) (tC (.int i)) (sC (.int i)):=⟨f7,wq λ_=>a7.int⟩
theorem kY {x j}:Ev K X (.Constant (.bool x) j pos) (tC (.bl x)) (sC (.bool x)):=⟨zQ,wq λ_=>a7.bl⟩
theorem w4 {j}:Ev K X (.Constant .none j pos) (tC .non) (sC .none):=⟨zg,wq λ_=>a7.non⟩
theorem qY {x j}:Ev K X (.Constant (.str x) j pos) (tC (.str x)) (sC (.str x)):=⟨u7,wq λ_=>a7.st⟩
theorem zT (i:Nat):TEd K (l8 i) (sV i):=λG B E F σ H Q d F' I e q=>by
 unfold sV at e
 split at e
 .rename_i x hx
  cases e
  obtain⟨v,h1,h2⟩:=I.loc i _ hx
  exact⟨v,h1,q v H Kp.refl I.fd h2⟩
 .cases e
theorem Ak (i:Nat):TEs K (l8 i) (sW i):=λG B E F σ H Q d F' I e q=>by
 unfold sW at e
 split at e
 .rename_i x hx
  cases e
  obtain⟨v,h1,h2⟩:=I.loc i _ hx
  exact⟨v,h1,q v H Kp.refl I.fd (aG h2 I.fB)⟩
 .rename_i x hx
  cases e
  obtain⟨v,h1,h2⟩:=I.loc i _ hx
  refine⟨v,h1,q v H Kp.refl I.fd ?_⟩
  obtain⟨p,xs,rfl,hB,hf,hp,hd⟩:=h2
  exact⟨p,xs,rfl,by rw[e8 hf];exact hp,hd⟩
 .cases e
theorem k7 (i:Nat){x:Str}(hN:X.N[i]? = some x:=by rfl)(hv:Vis X.env.scope x:=by first | exact Or.inl rfl | exact Or.inr (Or.inl rfl) | exact Or.inr (Or.inr rfl))(hd:(x == ("__debug__":Str))=false:=by decide)
  (hcd:(x == ("__classdict__":Str))=false:=by decide):Ev K X (.Name x pos) (l8 i) (sV i):=⟨D4 hN hv hd hcd,zT i⟩
theorem g9 (i:Nat){x:Str}(hN:X.N[i]? = some x:=by rfl)(hv:Vis X.env.scope x:=by first | exact Or.inl rfl | exact Or.inr (Or.inl rfl) | exact Or.inr (Or.inr rfl))(hd:(x == ("__debug__":Str))=false:=by decide)
  (hcd:(x == ("__classdict__":Str))=false:=by decide):Eb K X (.Name x pos) (l8 i) (sW i):=⟨D4 hN hv hd hcd,Ak i⟩
def rD1 (K:Fg)(f:PyData->Option PyData):V->Hp->VK->Prop:=λx H Q=>∃fp B d r,BOk H B/\G6 K fp B H d x/\f d=some r/\∀v H',d8 H H'->a7 K (hid H' B) r v->Q v H'
def rD2 (K:Fg)(f:PyData->PyData->Option PyData):R2:=λx y H Q=>∃fp B d e r,BOk H B/\G6 K fp B H d x/\G6 K fp B H e y/\f d e=some r/\∀v H',d8 H H'->a7 K (hid H' B) r v->Q v H'
def rDN (K:Fg)(f:List PyData->Option PyData):List V->Hp->VK->Prop:=λxs H Q=>∃fp B ds r,BOk H B/\gb K fp B H ds xs/\f ds=some r/\∀v H',d8 H H'->a7 K (hid H' B) r v->Q v H'
def s1 (f:PyData->Option PyData)(a:DE->M PyData):DE->M PyData:=λE F=>(a E F).bind λp=>(f p.1).bind λz=>some (z,p.2)
def s2 (f:PyData->PyData->Option PyData)(a b:DE->M PyData):DE->M PyData:=λE F=>(a E F).bind λp=>(b E p.2).bind λq=>(f p.1 q.1).bind λz=>some (z,q.2)
def sN (f:List PyData->Option PyData)(a:DE->M (List PyData)):DE->M PyData:=λE F=>(a E F).bind λp=>(f p.1).bind λz=>some (z,p.2)
theorem xx {f:PyData->Option PyData}(ha:TEs K ta ma):TEd K (tUn (rD1 K f) ta) (s1 f ma):=λG B E F σ H Q d F' I e q=>by
 obtain⟨⟨x,F1⟩,e1,e⟩:=bS9 e
 obtain⟨z,e2,e⟩:=bS9 e
 cases e
 refine ha G B E F σ H _ x F1 I e1 λv H1 k1 f1 h1=>⟨k9 K G,B,x,_,w6 I.bk k1 f1,h1,e2,λw H2 s hw=>q w H2 (k1.trans (Kp.same s)) (f1.same s) hw⟩
theorem oJ {f:PyData->PyData->Option PyData}(ha:TEs K ta ma)(hb:TEs K tb mb):TEd K (tOp (rD2 K f) ta tb) (s2 f ma mb):=λG B E F σ H Q d F' I e q=>by
 obtain⟨⟨x,F1⟩,e1,e⟩:=bS9 e
 obtain⟨⟨y,F2⟩,e2,e⟩:=bS9 e
 obtain⟨z,e3,e⟩:=bS9 e
 cases e
 refine ha G B E F σ H _ x F1 I e1 λv H1 k1 f1 h1=>?_
 refine hb G B E F1 σ H1 _ y F2 (I.step k1 f1) e2 λw H2 k2 f2 h2=>⟨k9 K G,B,x,y,_,w6 I.bk (k1.trans k2) f2,h1.step k2 I.fB,h2,e3,λu H3 s hu=>q u H3 ((k1.trans k2).trans (Kp.same s)) (f2.same s) hu⟩
theorem xC {f:List PyData->Option PyData}{t:TA}{ms:DE->M (List PyData)}(ha:TAs K t ms):TEd K (tCB (rDN K f) t) (sN f ms):=λG B E F σ H Q d F' I e q=>by
 obtain⟨⟨x,F1⟩,e1,e⟩:=bS9 e
 obtain⟨z,e2,e⟩:=bS9 e
 cases e
 exact ha G B E F σ H _ x F1 I e1 λvs H1 k1 f1 h1=>⟨k9 K G,B,x,_,w6 I.bk k1 f1,h1,e2,λw H2 s hw=>q w H2 (k1.trans (Kp.same s)) (f1.same s) hw⟩
theorem K4 {op:Operator}{f:PyData->PyData->Option PyData}(ho:OpR X (binaryOp op) (rD2 K f))(ha:Eb K X a ta ma)(hb:Eb K X b tb mb):Ev K X (.BinOp a op b pos) (tOp (rD2 K f) ta tb) (s2 f ma mb):=⟨v6 ho ha.pe hb.pe,oJ ha.ok hb.ok⟩
theorem Ax {op:UnaryOp}{f:PyData->Option PyData}(ho:UnR X (unaryOp op) (rD1 K f))(ha:Eb K X a ta ma):Ev K X (.UnaryOp op a pos) (tUn (rD1 K f) ta) (s1 f ma):=⟨tZ ho ha.pe,xx ha.ok⟩
theorem aQ {op:CmpOp}{f:PyData->PyData->Option PyData}(ho:OpR X (compareOp op) (rD2 K f))(ha:Eb K X a ta ma)(hb:Eb K X b tb mb)(hm:behindInMarks op b=false:=by first | exact Q9 _ | rfl):Ev K X (.Compare a [op] [b] pos) (tOp (rD2 K f) ta tb) (s2 f ma mb):=⟨dX ho ha.pe hb.pe hm,oJ ha.ok hb.ok⟩
theorem x9 {f:PyData->PyData->Option PyData}(hr:IxR X (rD2 K f))(ha:Eb K X a ta ma)(hb:Eb K X b tb mb)(hs:jy b:=by intro _ _;rfl):Ev K X (.Subscript a b pos) (tOp (rD2 K f) ta tb) (s2 f ma mb):=⟨K0 hr ha.pe hb.pe hs,oJ ha.ok hb.ok⟩
theorem r6 {f:List PyData->Option PyData}{id:String}{x:Str}{p:Pos}{t:TA}{ms:DE->M (List PyData)}(hc:D1 X (.builtin id) (rDN K f))(hm:X.mg x=none)(hv:bootBuiltins x=some (.builtin id))(ha:Es K X (e::es) t ms)(hg:Gl X x:=by rfl)(hn:x ≠ "__name__":=by decide)(hdb:(x == ("__debug__":Str))=false:=by decide)
  (he:starEach (e::es) X.env=(false,eval e X.env)::starEach es X.env:=by rfl) (hpl:(backTo pos (starEach es X.env)).any (·.1)=false:=by rfl):Ev K X (.Call (.Name x p) (e::es) [] pos) (tCB (rDN K f) t) (sN f ms):=⟨P9 hc hg hm hv ha.pa hn hdb he hpl,xC ha.ok⟩
theorem A4 {f:List PyData->Option PyData}{T:String}{x:Str}{p:Pos}{t:TA}{ms:DE->M (List PyData)}(hc:D1 X (.type T) (rDN K f))(hm:X.mg x=none)(hv:bootBuiltins x=some (.type T))(ha:Es K X (e::es) t ms)(hg:Gl X x:=by rfl)(hn:x ≠ "__name__":=by decide)(hdb:(x == ("__debug__":Str))=false:=by decide)
  (he:starEach (e::es) X.env=(false,eval e X.env)::starEach es X.env:=by rfl) (hpl:(backTo pos (starEach es X.env)).any (·.1)=false:=by rfl):Ev K X (.Call (.Name x p) (e::es) [] pos) (tCB (rDN K f) t) (sN f ms):=⟨cz hc hg hm hv ha.pa hn hdb he hpl,xC ha.ok⟩
def g7:DE->M (List PyData):=λ_ F=>some ([],F)
def b8 (a:DE->M PyData)(r:DE->M (List PyData)):DE->M (List PyData):=λE F=>(a E F).bind λp=>(r E p.2).bind λq=>some (p.1::q.1,q.2)
theorem i9:Ea K X [] C8 g7:=⟨j6,λG B E F σ H Q ds F' I e q=>by cases e;exact q [] H Kp.refl I.fd a6.nil⟩
theorem d7 {t:TA}{ms:DE->M (List PyData)}(ha:Ev K X e te m)(hr:Ea K X es t ms)(hs:starEach (e::es) X.env=(false,eval e X.env)::starEach es X.env:=by rfl):Ea K X (e::es) (q4 te t) (b8 m ms) :=
 ⟨h9 ha.pe hr.pa hs,λG B E F σ H Q ds F' I e q=>by
  obtain⟨⟨x,F1⟩,e1,e⟩:=bS9 e
  obtain⟨⟨ys,F2⟩,e2,e⟩:=bS9 e
  cases e
  refine ha.ok G B E F σ H _ x F1 I e1 λv H1 k1 f1 h1=>?_
  refine hr.ok G B E F1 σ H1 _ ys F2 (I.step k1 f1) e2 λvs H2 k2 f2 h2=>q _ H2 (k1.trans k2) f2 (.cons (h1.same (k2.hid I.fB)) h2)⟩
theorem l7:Es K X [] C8 g7:=⟨j6,λG B E F σ H Q ds F' I e q=>by cases e;exact q [] H Kp.refl I.fd rfl⟩
theorem i7 {t:TA}{ms:DE->M (List PyData)}(ha:Eb K X e te m)(hr:Es K X es t ms)(hs:starEach (e::es) X.env=(false,eval e X.env)::starEach es X.env:=by rfl):Es K X (e::es) (q4 te t) (b8 m ms) :=
 ⟨h9 ha.pe hr.pa hs,λG B E F σ H Q ds F' I e q=>by
  obtain⟨⟨x,F1⟩,e1,e⟩:=bS9 e
  obtain⟨⟨ys,F2⟩,e2,e⟩:=bS9 e
  cases e
  refine ha.ok G B E F σ H _ x F1 I e1 λv H1 k1 f1 h1=>?_
  refine hr.ok G B E F1 σ H1 _ ys F2 (I.step k1 f1) e2 λvs H2 k2 f2 h2=>q _ H2 (k1.trans k2) f2 ⟨v,vs,rfl,h1.step k2 I.fB,h2⟩⟩
def J5 (a:DE->M (List PyData)):DE->M PyData:=λE F=>(a E F).bind λp=>if p.1.length<=sizeLine then some (.tuple p.1,p.2) else none
def vy (a:DE->M (List PyData)):DE->M PyData:=λE F=>(a E F).bind λp=>if p.1.length<=sizeLine then some (.list p.1,p.2) else none
theorem E7 {k}{t:TA}{ms:DE->M (List PyData)}(h:Ea K X es t ms):Ev K X (.Tuple es k pos) (tG t) (J5 ms):=⟨iE h.pa,λG B E F σ H Q d F' I e q=>by
 obtain⟨⟨x,F1⟩,e1,e⟩:=bS9 e
 split at e
 .rename_i hl
  cases e
  refine h.ok G B E F σ H _ x F1 I e1 λvs H1 k1 f1 h1=>⟨by rw[h1.length];exact hl,λp hp=>q _ _ (k1.trans (Kp.upd hp)) (f1.same (d8.upd hp)) (N2 (w6 I.bk k1 f1) hp h1)⟩
 .cases e⟩
theorem zr {t:TA}{ms:DE->M (List PyData)}(h:Ea K X es t ms):Ev K X (.List es pos) (ax t) (vy ms):=⟨L6 h.pa,λG B E F σ H Q d F' I e q=>by
 obtain⟨⟨x,F1⟩,e1,e⟩:=bS9 e
 split at e
 .rename_i hl
  cases e
  refine h.ok G B E F σ H _ x F1 I e1 λvs H1 k1 f1 h1=>⟨by rw[h1.length];exact hl,λp hp=>q _ _ (k1.trans (Kp.upd hp)) (f1.same (d8.upd hp)) (N5 (w6 I.bk k1 f1) hp h1)⟩
 .cases e⟩
def W4:PyData->Option Bool
 | .bool b=>some b
 | _=>none
theorem O0 {d:PyData}{b:Bool}(h:W4 d=some b):d = .bool b:=by
 cases d <;> simp[W4]at h
 rw[h]
def jr (a b:DE->M PyData):DE->M PyData:=λE F=>(a E F).bind λp=>(W4 p.1).bind λc=>if c=true then b E p.2 else some (.bool false,p.2)
def uI (a:DE->M PyData):DE->M PyData:=λE F=>(a E F).bind λp=>(W4 p.1).bind λc=>some (.bool (!c),p.2)
theorem zq {op}(h:Ev K X a te m):Ev K X (.BoolOp op [a] pos) te m:=⟨qN h.pe,h.ok⟩
theorem xV {rest:List Expr}(ha:Ev K X a ta ma)(hb:Ev K X (.BoolOp .And (b::rest) pos) tb mb):Ev K X (.BoolOp .And (a::b::rest) pos) (tL ta tb) (jr ma mb):=⟨ui ha.pe hb.pe,λG B E F σ H Q d F' I e q=>by
 obtain⟨⟨x,F1⟩,e1,e⟩:=bS9 e
 obtain⟨c,e2,e⟩:=bS9 e
 refine ha.ok G B E F σ H _ x F1 I e1 λv H1 k1 f1 h1=>?_
 have:=O0 e2
 simp only at this
 subst this
 simp only[a7]at h1
 refine⟨c,h1,?_⟩
 cases c with
 | true=>exact hb.ok G B E F1 σ H1 _ d F' (I.step k1 f1) e λw H2 k2 f2 h2=>q w H2 (k1.trans k2) f2 h2
 | false=>cases e;exact q _ H1 k1 f1 a7.bl⟩
theorem xQ (ha:Ev K X a ta ma):Ev K X (.UnaryOp .Not a pos) (wZ ta) (uI ma):=⟨za ha.pe,λG B E F σ H Q d F' I e q=>by
 obtain⟨⟨x,F1⟩,e1,e⟩:=bS9 e
 obtain⟨c,e2,e⟩:=bS9 e
 cases e
 refine ha.ok G B E F σ H _ x F1 I e1 λv H1 k1 f1 h1=>?_
 have:=O0 e2
 simp only at this
 subst this
 simp only[a7]at h1
 exact⟨_,h1,q _ H1 k1 f1 a7.bl⟩⟩
def sIf (c:DE->M Bool)(a b:DE->M PyData):DE->M PyData:=λE F=>(c E F).bind λp=>if p.1=true then a E p.2 else b E p.2
theorem qM {tt:TT}{mt:DE->M Bool}(hc:Et K X c tt mt)(ha:Ev K X a ta ma)(hb:Ev K X b tb mb):Ev K X (.IfExp c a b pos) (tIf tt ta tb) (sIf mt ma mb):=⟨kP hc.pt ha.pe hb.pe,λG B E F σ H Q d F' I e q=>by
 obtain⟨⟨x,F1⟩,e1,e⟩:=bS9 e
 refine hc.ok G B E F σ H _ x F1 I e1 λH1 k1 f1=>?_
 cases x with
 | true=>exact ha.ok G B E F1 σ H1 _ d F' (I.step k1 f1) e λw H2 k2 f2 h2=>q w H2 (k1.trans k2) f2 h2
 | false=>exact hb.ok G B E F1 σ H1 _ d F' (I.step k1 f1) e λw H2 k2 f2 h2=>q w H2 (k1.trans k2) f2 h2⟩
variable {tA tB:TT}{na nb:DE->M Bool}
def uB (a:DE->M PyData):DE->M Bool:=λE F=>(a E F).bind λp=>(W4 p.1).bind λc=>some (c,p.2)
def av (a b:DE->M Bool):DE->M Bool:=λE F=>(a E F).bind λp=>if p.1=true then b E p.2 else some (false,p.2)
def uOr (a b:DE->M Bool):DE->M Bool:=λE F=>(a E F).bind λp=>if p.1=true then some (true,p.2) else b E p.2
def nj (a:DE->M Bool):DE->M Bool:=λE F=>(a E F).bind λp=>some (!p.1,p.2)
theorem p9 {op:CmpOp}{f:PyData->PyData->Option PyData}(ho:OpR X (compareOp op) (rD2 K f))(ha:Eb K X a ta ma)(hb:Eb K X b tb mb)(hm:behindInMarks op b=false:=by first | exact Q9 _ | rfl):Et K X (.Compare a [op] [b] pos) (bQ (tOp (rD2 K f) ta tb)) (uB (s2 f ma mb)) :=
 ⟨N1 ho ha.pe hb.pe hm,λG B E F σ H Q d F' I e q=>by
  obtain⟨⟨x,F1⟩,e1,e⟩:=bS9 e
  obtain⟨c,e2,e⟩:=bS9 e
  cases e
  refine oJ ha.ok hb.ok G B E F σ H _ x F1 I e1 λv H1 k1 f1 h1=>?_
  have:=O0 e2
  simp only at this
  subst this
  simp only[a7]at h1
  exact⟨_,h1,q H1 k1 f1⟩⟩
theorem cj (ha:Et K X a tA na):Ew K X (.BoolOp .And [a] pos) tA na:=⟨eu ha.pt,ha.ok⟩
theorem rF (ha:Et K X a tA na):Ew K X (.BoolOp .Or [a] pos) tA na:=⟨yf ha.pt,ha.ok⟩
theorem fh {rest:List Expr}(ha:Et K X a tA na)(hb:Ew K X (.BoolOp .And (b::rest) pos) tB nb):Ew K X (.BoolOp .And (a::b::rest) pos) (tY tA tB) (av na nb):=⟨iR ha.pt hb.pw,λG B E F σ H Q d F' I e q=>by
 obtain⟨⟨x,F1⟩,e1,e⟩:=bS9 e
 refine ha.ok G B E F σ H _ x F1 I e1 λH1 k1 f1=>?_
 cases x with
 | true=>exact hb.ok G B E F1 σ H1 _ d F' (I.step k1 f1) e λH2 k2 f2=>q H2 (k1.trans k2) f2
 | false=>cases e;exact q H1 k1 f1⟩
theorem xK {rest:List Expr}(ha:Et K X a tA na)(hb:Ew K X (.BoolOp .Or (b::rest) pos) tB nb):Ew K X (.BoolOp .Or (a::b::rest) pos) (tOr tA tB) (uOr na nb):=⟨zS ha.pt hb.pw,λG B E F σ H Q d F' I e q=>by
 obtain⟨⟨x,F1⟩,e1,e⟩:=bS9 e
 refine ha.ok G B E F σ H _ x F1 I e1 λH1 k1 f1=>?_
 cases x with
 | false=>exact hb.ok G B E F1 σ H1 _ d F' (I.step k1 f1) e λH2 k2 f2=>q H2 (k1.trans k2) f2
 | true=>cases e;exact q H1 k1 f1⟩
theorem Ew.t (h:Ew K X a tA na):Et K X a tA na:=⟨h.pw.pt,h.ok⟩
theorem tw (ha:Et K X a tA na):Et K X (.UnaryOp .Not a pos) (zZ tA) (nj na):=⟨xX ha.pt,λG B E F σ H Q d F' I e q=>by
 obtain⟨⟨x,F1⟩,e1,e⟩:=bS9 e
 cases e
 exact ha.ok G B E F σ H _ x F1 I e1 λH1 k1 f1=>q H1 k1 f1⟩
def rG:PyData->Option Bool
 | .none=>some false
 | .bool b=>some b
 | .int i=>some (i != 0)
 | .str x=>if x.length<=sizeLine then some ((x.length:Int) != 0) else none
 | .tuple ds=>some (!ds.isEmpty)
 | .list ds=>some (!ds.isEmpty)
 | .dict _=>none
def uT (a:DE->M PyData):DE->M Bool:=λE F=>(a E F).bind λp=>(rG p.1).bind λc=>some (c,p.2)
theorem bS {H:Hp}{ds:List PyData}{xs:List V}(h:a6 K H ds xs):xs.isEmpty=ds.isEmpty:=by
 cases ds with
 | nil=>simp only[a6]at h;subst h;rfl
 | cons d r=>simp only[a6]at h;obtain⟨x,r,rfl,_⟩:=h;rfl
theorem yo {fp B:List Addr}{H:Hp}{d:PyData}{v:V}{c:Bool}(h:G6 K fp B H d v)(e:rG d=some c):rh K v H c:=by
 cases d with
 | none=>cases h;cases e;rfl
 | bool b=>cases h;cases e;rfl
 | int i=>cases h;cases e;rfl
 | str x =>
  cases h
  simp only[rG]at e
  split at e
  .rename_i hl;cases e;exact⟨hl,rfl⟩
  .cases e
 | tuple ds =>
  obtain⟨p,xs,rfl,hq,hd⟩:=h
  cases e
  exact .inr (.inl ⟨xs,hq.same d0,by rw[bS hd]⟩)
 | list ds =>
  obtain⟨p,xs,rfl,hq,hd⟩:=h
  cases e
  exact .inl ⟨xs,SqL.of (d0 _ _ hq),by rw[bS hd]⟩
 | dict kvs=>exact(show False from h).elim
theorem fH (ha:Eb K X a ta ma)(hK:X.K=K:=by rfl)(he:∀whole,isTrue a X.env whole=(do let v <-whole;standAt a.pos;holding [v] (truthy v)):=by intro _;rfl) :
  Et K X a (λσ H Q=>ta σ H λx H'=>∃k,rh K x H' k/\Q k H') (uT ma):=⟨oX hK ha.pe he,λG B E F σ H Q d F' I e q=>by
 obtain⟨⟨x,F1⟩,e1,e⟩:=bS9 e
 obtain⟨c,e2,e⟩:=bS9 e
 cases e
 exact ha.ok G B E F σ H _ x F1 I e1 λv H1 k1 f1 h1=>⟨_,yo h1 e2,q H1 k1 f1⟩⟩
end
end
section
section
variable {K:Fg}{X:Cx}
theorem fq {fp B:List Addr}{H:Hp}{ds:List PyData}{d:PyData}{vs:List V}(h:gb K fp B H ds vs)(e:ds=[d]):∃v,vs=[v]/\G6 K fp B H d v:=by
 subst e
 obtain⟨v,r,rfl,h1,h2⟩:=h
 cases h2
 exact⟨v,rfl,h1⟩
theorem Bm {fp B:List Addr}{H:Hp}{ds:List PyData}{d e:PyData}{vs:List V}(h:gb K fp B H ds vs)(eq:ds=[d,e]):∃v w,vs=[v,w]/\G6 K fp B H d v/\G6 K fp B H e w:=by
 subst eq
 obtain⟨v,r,rfl,h1,w,r2,rfl,h2,h3⟩:=h
 cases h3
 exact⟨v,w,rfl,h1,h2⟩
def i2 (C:Int->Int->Prop)[∀i j,Decidable (C i j)](g:Int->Int->PyData):PyData->PyData->Option PyData
 | .int i,.int j=>if C i j then some (g i j) else none
 | _,_=>none
theorem uP {C:Int->Int->Prop}[∀i j,Decidable (C i j)]{g:Int->Int->PyData}{d e r:PyData}(h:i2 C g d e=some r):∃i j,d = .int i/\e = .int j/\C i j/\r=g i j:=by
 cases d <;> cases e <;> simp only[i2]at h <;> try cases h
 split at h
 .rename_i hc;cases h;exact⟨_,_,rfl,rfl,hc,rfl⟩
 .cases h
theorem iU {f:Value->Value->Sem Value}{g:Int->Int->V}{gd:Int->Int->PyData}(ho:OpR X f (rI0 g))(hg:∀H i j,a7 K H (gd i j) (g i j)):OpR X f (rD2 K (i2 (λ_ _=>True) gd)):=by
 intro pins s σ H x y v u Q I rx ry h
 obtain⟨fp,B,d,e,r,bk,h1,h2,hf,q⟩:=h
 obtain⟨i,j,rfl,rfl,hc,rfl⟩:=uP hf
 cases h1
 cases h2
 exact ho pins s σ H _ _ v u Q I rx ry ⟨i,j,rfl,rfl,q _ H (d8.refl H) (hg _ i j)⟩
abbrev pF:=i2 (λ_ _=>True) λi j=>.int (i-j)
theorem lW:OpR X (binaryOp .Sub) (rD2 K pF):=iU su λ_ _ _=>a7.int
instance:∀i j,Decidable (vP i j):=λi j=>inferInstanceAs (Decidable (_/\_/\_))
instance:∀i j,Decidable (se i j):=λi j=>inferInstanceAs (Decidable ((_/\_)\/(_/\_)))
@[irreducible] def uQ:Nat:=2 ^ 400000
theorem uG:uQ=2 ^ 400000:=by unfold uQ;rfl
def Big (i j:Int):Prop:=se i j\/(i.natAbs<uQ/\j.natAbs<uQ)
instance {i j:Int}:Decidable (Big i j):=inferInstanceAs (Decidable (_\/_))
theorem nC {n:Nat}{i:Int}(h:i.natAbs<2 ^ n):Builtin.Int.intBits i<=n:=by
 unfold Builtin.Int.intBits
 split
 .exact Nat.zero_le _
 .rename_i h0
  have h0:i.natAbs≠0:=λz=>h0 (by simpa using z)
  exact(Nat.log2_lt h0).mpr h
theorem Big.ok {i j:Int}(h:Big i j):IntMulOk i j:=by
 rcases h with h | ⟨h1,h2⟩
 .exact h.ok
 .unfold IntMulOk
  have e:Builtin.Int.intTooBig ((Builtin.Int.intBits i:Int)+Builtin.Int.intBits j)=false:=by
   unfold Builtin.Int.intTooBig
   rw[uG]at h1 h2
   have a:=nC h1
   have b:=nC h2
   have c:(bitsLine:Nat)=134217728:=by decide
   refine decide_eq_false ?_
   rw[c]
   omega
  rw[e,Bool.and_false]
  exact Bool.false_ne_true
theorem uy:OpR X (binaryOp .Mult) (rI Big λi j=>.int (i*j)):=opI λ_ _ _ _ _ _ _ hc q=>mul_int q hc.ok
abbrev ltD:=i2 (λ_ _=>True) λi j=>.bool (decide (i<j))
abbrev gtD:=i2 (λ_ _=>True) λi j=>.bool (decide (j<i))
abbrev geD:=i2 (λ_ _=>True) λi j=>.bool (decide (j<=i))
theorem oj:OpR X (compareOp .Lt) (rD2 K ltD):=iU wW λ_ _ _=>a7.bl
theorem qL:OpR X (compareOp .Gt) (rD2 K gtD):=iU xb λ_ _ _=>a7.bl
theorem AQ:OpR X (compareOp .GtE) (rD2 K geD):=iU xo λ_ _ _=>a7.bl
def Q1:PyData->PyData->Option PyData
 | .int i,.int j=>some (.int (i+j))
 | .str x,.str y=>if x.length+y.length<=sizeLine then some (.str (x++y)) else none
 | .tuple xs,.tuple ys=>if xs.length+ys.length<=sizeLine then some (.tuple (xs++ys)) else none
 | .list xs,.list ys=>if xs.length+ys.length<=sizeLine then some (.list (xs++ys)) else none
 | _,_=>none
theorem a6.nil_of {H:Hp}{ds:List PyData}{xs:List V}(h:a6 K H ds xs)(e:xs=[]):ds=[]:=by
 subst e;exact List.length_eq_zero_iff.mp (by rw[<-h.length];rfl)
theorem K3 (hK:X.K=K):OpR X (binaryOp .Add) (rD2 K Q1):=by
 intro pins s σ H x y v u Q I rx ry h
 obtain⟨fp,B,d,e,r,bk,h1,h2,hf,q⟩:=h
 cases d <;> cases e <;> simp only[Q1]at hf <;> try cases hf
 .cases h1
  cases h2
  exact V6 pins s σ H _ _ v u Q I rx ry ⟨_,_,rfl,rfl,q _ H (d8.refl H) a7.int⟩
 .cases h1
  cases h2
  split at hf
  .rename_i hl
   cases hf
   exact mH pins s σ H _ _ v u Q I rx ry ⟨_,_,rfl,rfl,hl,q _ H (d8.refl H) a7.st⟩
  .cases hf
 .obtain⟨a,xs,rfl,ha,hd⟩:=h1
  obtain⟨b,ys,rfl,hb,he⟩:=h2
  split at hf
  .rename_i hl
   cases hf
   refine tE pins s σ H _ _ v u Q I rx ry ⟨a,b,xs,ys,rfl,rfl,d0 _ _ ha,d0 _ _ hb,by rw[hd.length,he.length];exact hl,λp hp=>q _ _ (d8.upd hp) (N5 bk hp (a6.append he hd))⟩
  .cases hf
 .obtain⟨a,xs,rfl,ha,hd⟩:=h1
  obtain⟨b,ys,rfl,hb,he⟩:=h2
  split at hf
  .rename_i hl
   cases hf
   refine wO hK pins s σ H _ _ v u Q I rx ry ⟨a,b,xs,ys,rfl,rfl,ha.same d0,hb.same d0,by rw[hd.length,he.length];exact hl,λz=>q _ H (d8.refl H) ?_,λz=>q _ H (d8.refl H) ?_,λp hp=>q _ _ (d8.upd hp) (N2 bk hp (a6.append he hd))⟩
   .cases a6.nil_of hd z
    simp only[a7,List.nil_append]
    exact⟨b,ys,rfl,hb,he⟩
   .cases a6.nil_of he z
    simp only[a7,List.append_nil]
    exact⟨a,xs,rfl,ha,hd⟩
  .cases hf
def zk:PyData->PyData->Option PyData
 | .int i,.int j=>if Big i j then some (.int (i*j)) else none
 | .list xs,.int k=>if -(2 ^ 63)<=k/\k<2 ^ 63/\xs.length*k.toNat<=sizeLine then some (.list (List.replicate k.toNat xs).flatten) else none
 | _,_=>none
theorem a6.rep {H:Hp}{ds:List PyData}{xs:List V}(h:a6 K H ds xs):∀n,a6 K H (List.replicate n ds).flatten (List.replicate n xs).flatten
 | 0=>a6.nil
 | n+1=>by
  rw[List.replicate_succ,List.replicate_succ,List.flatten_cons,List.flatten_cons]
  exact a6.append (a6.rep h n) h
theorem zK:OpR X (binaryOp .Mult) (rD2 K zk):=by
 intro pins s σ H x y v u Q I rx ry h
 obtain⟨fp,B,d,e,r,bk,h1,h2,hf,q⟩:=h
 cases d <;> cases e <;> simp only[zk]at hf <;> try cases hf
 .cases h1
  cases h2
  split at hf
  .rename_i hc
   cases hf
   exact uy pins s σ H _ _ v u Q I rx ry ⟨_,_,rfl,rfl,hc,q _ H (d8.refl H) a7.int⟩
  .cases hf
 .obtain⟨a,xs,rfl,ha,hd⟩:=h1
  cases h2
  split at hf
  .rename_i hc
   cases hf
   exact yX pins s σ H _ _ v u Q I rx ry ⟨a,_,xs,rfl,rfl,d0 _ _ ha,hc.1,hc.2.1,by rw[hd.length];exact hc.2.2,λp hp=>q _ _ (d8.upd hp) (N5 bk hp (a6.rep hd _))⟩
  .cases hf
open PySem.SeqAt in
def eqD (neg:Bool):PyData->PyData->Option PyData
 | .str x,.str y=>some (.bool (if neg then !decide (x=y) else decide (x=y)))
 | d,e=>if shaped d=true/\shaped e=true then some (.bool (if neg then !PyData.eqv d e else PyData.eqv d e)) else none
theorem fF (hK:X.K=K)(hu:X.A.units+64<cLine):OpR X (compareOp .Eq) (rD2 K (eqD false)):=by
 subst hK
 intro pins s σ H x y v u Q I rx ry h
 obtain⟨fp,B,d,e,r,bk,h1,h2,hf,q⟩:=h
 unfold eqD at hf
 split at hf
 .cases hf
  cases h1
  cases h2
  have z:=q _ H (d8.refl H) a7.bl
  rename_i a b
  have e:decide (V.str a=V.str b)=decide (a=b):=by simp
  exact tQ pins s σ H _ _ v u Q I rx ry ⟨rfl,by rw[e];exact z⟩
 .split at hf
  .rename_i hs
   cases hf
   obtain⟨as,ra⟩:=J0 I _ x v h1.dat rx
   obtain⟨bs,rb⟩:=J0 I _ y u h2.dat ry
   exact eq_dataH ra rb hs.1 hs.2 hu ⟨.bl _,H,I,rfl,q _ H (d8.refl H) a7.bl⟩
  .cases hf
theorem xM (hK:X.K=K)(hu:X.A.units+64<cLine):OpR X (compareOp .NotEq) (rD2 K (eqD true)):=by
 subst hK
 intro pins s σ H x y v u Q I rx ry h
 obtain⟨fp,B,d,e,r,bk,h1,h2,hf,q⟩:=h
 unfold eqD at hf
 split at hf
 .cases hf
  cases h1
  cases h2
  have z:=q _ H (d8.refl H) a7.bl
  rename_i a b
  have e:decide (V.str a=V.str b)=decide (a=b):=by simp
  exact Aj pins s σ H _ _ v u Q I rx ry ⟨rfl,by rw[e];exact z⟩
 .split at hf
  .rename_i hs
   cases hf
   obtain⟨as,ra⟩:=J0 I _ x v h1.dat rx
   obtain⟨bs,rb⟩:=J0 I _ y u h2.dat ry
   exact ne_dataH ra rb hs.1 hs.2 hu ⟨.bl _,H,I,rfl,q _ H (d8.refl H) a7.bl⟩
  .cases hf
open PySem.SeqAt in
def inD (neg:Bool):PyData->PyData->Option PyData
 | d,.list xs=>if shaped (.list xs)=true/\shaped d=true then some (.bool (if neg then !(xs.any λy=>PyData.eqv y d) else xs.any λy=>PyData.eqv y d)) else none
 | d,.tuple xs=>if shaped (.tuple xs)=true/\shaped d=true then some (.bool (if neg then !(xs.any λy=>PyData.eqv y d) else xs.any λy=>PyData.eqv y d)) else none
 | _,_=>none
theorem Z8 (hK:X.K=K)(hu:X.A.units+65<cLine):OpR X (compareOp .In) (rD2 K (inD false)):=by
 subst hK
 intro pins s σ H x y v u Q I rx ry h
 obtain⟨fp,B,d,e,r,bk,h1,h2,hf,q⟩:=h
 obtain⟨as,ra⟩:=J0 I _ x v h1.dat rx
 obtain⟨bs,rb⟩:=J0 I _ y u h2.dat ry
 cases e <;> simp only[inD]at hf <;> try cases hf
 .split at hf
  .rename_i hs
   cases hf
   exact PySem.SeqAt.in_list_reads rb ra (by have:=PySem.SeqAt.canLay_of_shaped hs.1;simpa only[PyData.canLay0] using this) (PySem.SeqAt.canLay_of_shaped hs.2) (room_in_shaped hs.2 hu) ⟨.bl _,H,I,rfl,q _ H (d8.refl H) a7.bl⟩
  .cases hf
 .split at hf
  .rename_i hs
   cases hf
   exact PySem.SeqAt.in_tuple_reads rb ra (by have:=PySem.SeqAt.canLay_of_shaped hs.1;simpa only[PyData.canLay0] using this) (PySem.SeqAt.canLay_of_shaped hs.2) (room_in_shaped hs.2 hu) ⟨.bl _,H,I,rfl,q _ H (d8.refl H) a7.bl⟩
  .cases hf
theorem sy (hK:X.K=K)(hu:X.A.units+65<cLine):OpR X (compareOp .NotIn) (rD2 K (inD true)):=by
 subst hK
 intro pins s σ H x y v u Q I rx ry h
 obtain⟨fp,B,d,e,r,bk,h1,h2,hf,q⟩:=h
 obtain⟨as,ra⟩:=J0 I _ x v h1.dat rx
 obtain⟨bs,rb⟩:=J0 I _ y u h2.dat ry
 cases e <;> simp only[inD]at hf <;> try cases hf
 .split at hf
  .rename_i hs
   cases hf
   exact PySem.SeqAt.notIn_list_reads rb ra (by have:=PySem.SeqAt.canLay_of_shaped hs.1;simpa only[PyData.canLay0] using this) (PySem.SeqAt.canLay_of_shaped hs.2) (room_in_shaped hs.2 hu) ⟨.bl _,H,I,rfl,q _ H (d8.refl H) a7.bl⟩
  .cases hf
 .split at hf
  .rename_i hs
   cases hf
   exact PySem.SeqAt.notIn_tuple_reads rb ra (by have:=PySem.SeqAt.canLay_of_shaped hs.1;simpa only[PyData.canLay0] using this) (PySem.SeqAt.canLay_of_shaped hs.2) (room_in_shaped hs.2 hu) ⟨.bl _,H,I,rfl,q _ H (d8.refl H) a7.bl⟩
  .cases hf
end
end
section
section
variable {K:Fg}{X:Cx}
theorem a6.at {H:Hp}{ds:List PyData}{xs:List V}{i:Int}{d:PyData}(h:a6 K H ds xs)(e:atI ds i=some d):∃v,atI xs i=some v/\a7 K H d v:=by
 unfold atI at e ⊢
 rw[h.length]
 cases q:ixN ds.length i with
 | none=>rw[q]at e;cases e
 | some j =>
  rw[q]at e
  have e:ds[j]? = some d:=e
  obtain⟨hj,_⟩:=List.getElem?_eq_some_iff.mp e
  have hx:xs[j]? = some (xs[j]'(by rw[h.length];exact hj)):=by simp
  obtain⟨d',h1,h2⟩:=h.get hx
  rw[e]at h1;cases h1
  exact⟨_,hx,h2⟩
def ixD:PyData->PyData->Option PyData
 | .list ds,.int i=>atI ds i
 | .tuple ds,.int i=>atI ds i
 | .str x,.int i=>if x.length<=sizeLine then(atI x.cps.toList i).map λc=>.str ⟨#[c]⟩ else none
 | _,_=>none
theorem x3 (hK:X.K=K):IxR X (rD2 K ixD):=by
 intro value slice pins s σ H x y v u Q I rx ry h hs
 obtain⟨fp,B,d,e,r,bk,h1,h2,hf,q⟩:=h
 cases d <;> cases e <;> simp only[ixD]at hf <;> try cases hf
 .cases h1
  cases h2
  split at hf
  .rename_i hl
   obtain⟨c,e1,rfl⟩:=Option.map_eq_some_iff.mp hf
   exact yT value slice pins s σ H _ _ v u Q I rx ry ⟨_,_,c,rfl,rfl,hl,e1,q _ H (d8.refl H) a7.st⟩ hs
  .cases hf
 .obtain⟨a,xs,rfl,ha,hd⟩:=h1
  cases h2
  obtain⟨w,e1,e2⟩:=a6.at hd hf
  exact sx hK value slice pins s σ H _ _ v u Q I rx ry ⟨a,xs,_,w,rfl,rfl,SqL.of (d0 _ _ ha),e1,q w H (d8.refl H) e2⟩ hs
 .obtain⟨a,xs,rfl,ha,hd⟩:=h1
  cases h2
  obtain⟨w,e1,e2⟩:=a6.at hd hf
  exact wb hK value slice pins s σ H _ _ v u Q I rx ry ⟨a,xs,_,w,rfl,rfl,ha.same d0,e1,q w H (d8.refl H) e2⟩ hs
def di {α:Type}(xs:List α)(lo hi:Option Int):List α:=(xs.drop (HT.sIx xs.length 0 lo)).take (HT.sIx xs.length xs.length hi-HT.sIx xs.length 0 lo)
def oS (lo hi:Option Int):PyData->Option PyData
 | .list ds=>some (.list (di ds lo hi))
 | .tuple ds=>some (.tuple (di ds lo hi))
 | .str x=>if x.length<=sizeLine then some (.str (Txt.slice x lo hi)) else none
 | _=>none
theorem a6.drop {H:Hp}:∀{ds:List PyData} {xs:List V} (n:Nat),a6 K H ds xs->a6 K H (ds.drop n) (xs.drop n)
 | ds,xs,0,h=>h
 | [],xs,n+1,h=>by simp only[a6]at h;subst h;simp[a6]
 | d::ds,xs,n+1,h=>by
  simp only[a6]at h
  obtain⟨y,r,rfl,h1,h2⟩:=h
  simp only[List.drop_succ_cons]
  exact a6.drop n h2
theorem a6.cut {H:Hp}{ds:List PyData}{xs:List V}(h:a6 K H ds xs)(lo hi:Option Int):a6 K H (di ds lo hi) (cG xs lo hi):=by
 unfold di cG
 rw[h.length]
 exact a6.take _ (a6.drop _ h)
def zY (K:Fg):V->Option Int->Option Int->Hp->VK->Prop:=λx lo hi H Q=>∃fp B d r,BOk H B/\G6 K fp B H d x/\oS lo hi d=some r/\∀v H',d8 H H'->a7 K (hid H' B) r v->Q v H'
theorem ip {v:Value}{o:Option Int}(h:IsPart v o):∃p:Option (Int×Tok),v=partValue p/\p.map (·.1)=o:=by
 cases h with
 | none=>exact⟨none,rfl,rfl⟩
 | int i t=>exact⟨some (i,t),rfl,rfl⟩
theorem yk (hK:X.K=K):SlR X (zY K):=by
 intro pins s σ H x v vl vu lo hi sl Q I rx hs pl pu h
 obtain⟨fp,B,d,r,bk,h1,hf,q⟩:=h
 cases d <;> simp only[oS]at hf <;> try cases hf
 .rename_i x0
  cases h1
  split at hf
  .rename_i hl
   cases hf
   obtain⟨t,rfl⟩:=rx
   obtain⟨l,rfl,rfl⟩:=ip pl
   obtain⟨m,rfl,rfl⟩:=ip pu
   refine⟨"str",_,F.slot_str_getitem.lookup,typeIs_str _ _ _,getItem_meets (typeIs_str _ _ _) (by decide) F.slot_str_getitem F.entry_str_getitem (F.args_str_getitem_2 _ _) (meets_str_getitem_slice _ t sl l m none rfl) ⟨hs,?_⟩⟩
   have z:=q _ H (d8.refl H) a7.st
   unfold sliceMade
   unfold Txt.slice at z
   have e:slicePicked x0 l m none=Builtin.Str.strSliceIndices (l.map (·.1)) (m.map (·.1)) 1 x0.length:=rfl
   rw[e]
   simp only[Option.map_none,Option.getD_none]
   split
   .rename_i hc
    rw[if_pos hc]at z
    exact⟨.str x0,H,I,⟨t,rfl⟩,z⟩
   .rename_i hc
    rw[if_neg hc]at z
    refine⟨?_,⟨.str _,H,I.tok _,⟨_,rfl⟩,z⟩⟩
    have:=Txt.slice_le x0 (l.map (·.1)) (m.map (·.1))
    unfold Txt.slice at this
    rw[if_neg hc]at this
    exact Nat.le_trans this hl
  .cases hf
 .obtain⟨a,xs,rfl,ha,hd⟩:=h1
  subst hK
  exact nS pins s σ H _ v vl vu lo hi sl Q I rx hs pl pu ⟨a,xs,rfl,SqL.of (d0 _ _ ha),λp hp=>q _ _ (d8.upd hp) (N5 bk hp (a6.cut hd lo hi))⟩
 .obtain⟨a,xs,rfl,ha,hd⟩:=h1
  refine sT hK pins s σ H _ v vl vu lo hi sl Q I rx hs pl pu ⟨a,xs,rfl,ha.same d0,λz=>q _ H (d8.refl H) ?_,λ_ p hp=>q _ _ (d8.upd hp) (N2 bk hp (a6.cut hd lo hi))⟩
  have:=a6.cut hd lo hi
  rw[z.1]at this
  simp only[a7]
  exact⟨a,xs,rfl,ha,this⟩
end
section
variable [Feeds]{K:Fg}{X:Cx}{e:Expr}{te:TE}{m:DE->M PyData}{pos p2:Pos}
def TOd (K:Fg)(to:TO)(m:DE->M (Option Int)):Prop:=∀(G:GF) (B:List Addr) (E:DE) (F:FS) (σ:St) (H:Hp) (Q:Option Int->Hp->Prop) (d:Option Int) (F':FS),SitE K G B E F σ H->m E F=some (d,F') ->
 (∀H',Kp (k9 K G) H H'->FAt K G H' F'->Q d H')->to σ H Q
structure Eo (K:Fg) (X:Cx) (e:Option Expr) (to:TO) (m:DE->M (Option Int)):Prop where
 po:PO X e to
 ok:TOd K to m
def oNo:DE->M (Option Int):=λ_ F=>some (none,F)
def ku:PyData->Option Int
 | .int i=>some i
 | _=>none
theorem lJ {d:PyData}{i:Int}(h:ku d=some i):d = .int i:=by
 cases d <;> simp[ku]at h
 rw[h]
def oI (a:DE->M PyData):DE->M (Option Int):=λE F=>(a E F).bind λp=>(ku p.1).bind λi=>some (some i,p.2)
theorem sJ:Eo K X none ny oNo:=⟨oz,λG B E F σ H Q d F' I e q=>by cases e;exact q H Kp.refl I.fd⟩
theorem xS (h:Ev K X e te m):Eo K X (some e) (xE te) (oI m):=⟨jn h.pe,λG B E F σ H Q d F' I e q=>by
 obtain⟨⟨x,F1⟩,e1,e⟩:=bS9 e
 obtain⟨i,e2,e⟩:=bS9 e
 cases e
 refine h.ok G B E F σ H _ x F1 I e1 λv H1 k1 f1 h1=>?_
 have:=lJ e2
 simp only at this
 subst this
 simp only[a7]at h1
 exact⟨i,h1,q H1 k1 f1⟩⟩
def jR (a:DE->M PyData)(l u:DE->M (Option Int)):DE->M PyData:=λE F=>(a E F).bind λp=>(l E p.2).bind λx=>(u E x.2).bind λy=>(oS x.1 y.1 p.1).bind λz=>some (z,y.2)
theorem mU {lo hi:Option Expr}{tl th:TO}{ml mh:DE->M (Option Int)}(he:Eb K X e te m)(hl:Eo K X lo tl ml)(hh:Eo K X hi th mh)(hK:X.K=K:=by rfl):Ev K X (.Subscript e (.Slice lo hi none p2) pos) (tSl (zY K) te tl th) (jR m ml mh) :=
 ⟨kx (yk hK) he.pe hl.po hh.po,λG B E F σ H Q d F' I e q=>by
  obtain⟨⟨x,F1⟩,e1,e⟩:=bS9 e
  obtain⟨⟨l,F2⟩,e2,e⟩:=bS9 e
  obtain⟨⟨h,F3⟩,e3,e⟩:=bS9 e
  obtain⟨z,e4,e⟩:=bS9 e
  cases e
  refine he.ok G B E F σ H _ x F1 I e1 λv H1 k1 f1 h1=>?_
  refine hl.ok G B E F1 σ H1 _ l F2 (I.step k1 f1) e2 λH2 k2 f2=>?_
  refine hh.ok G B E F2 σ H2 _ h F3 (I.step (k1.trans k2) f2) e3 λH3 k3 f3=>?_
  exact⟨k9 K G,B,x,_,w6 I.bk ((k1.trans k2).trans k3) f3,h1.step (k2.trans k3) I.fB,e4,λu H4 s hu=>q u H4 (((k1.trans k2).trans k3).trans (Kp.same s)) (f3.same s) hu⟩⟩
end
section
variable {K:Fg}{X:Cx}
def R1:List PyData->Option PyData
 | [.list ds]=>some (.int ds.length)
 | [.tuple ds]=>some (.int ds.length)
 | [.str x]=>if x.length<=sizeLine then some (.int x.length) else none
 | _=>none
theorem M1 (hK:X.K=K):D1 X (.builtin "len") (rDN K R1):=by
 intro pins s σ H xs us Q I r h
 obtain⟨fp,B,ds,z,bk,h1,hf,q⟩:=h
 unfold R1 at hf
 split at hf <;> try cases hf
 .obtain⟨v,rfl,a,xs,rfl,ha,hd⟩:=fq h1 rfl
  have:=q _ H (d8.refl H) a7.int
  rw[<-hd.length]at this
  exact aE hK pins s σ H _ us Q I r ⟨a,xs,rfl,.inl (SqL.of (d0 _ _ ha)),this⟩
 .obtain⟨v,rfl,a,xs,rfl,ha,hd⟩:=fq h1 rfl
  have:=q _ H (d8.refl H) a7.int
  rw[<-hd.length]at this
  exact aE hK pins s σ H _ us Q I r ⟨a,xs,rfl,.inr (ha.same d0),this⟩
 .rename_i x0
  obtain⟨v,rfl,hv⟩:=fq h1 rfl
  have hv:v = .str x0:=hv
  subst hv
  split at hf
  .rename_i hl
   cases hf
   exact ie pins s σ H _ us Q I r ⟨_,rfl,hl,q _ H (d8.refl H) a7.int⟩
  .cases hf
def E9:List PyData->Option PyData
 | [.list ds]=>some (.tuple ds)
 | [.tuple ds]=>some (.tuple ds)
 | _=>none
theorem D9 (hK:X.K=K):D1 X (.type "tuple") (rDN K E9):=by
 intro pins s σ H xs us Q I r h
 obtain⟨fp,B,ds,z,bk,h1,hf,q⟩:=h
 unfold E9 at hf
 split at hf <;> try cases hf
 .obtain⟨v,rfl,a,xs,rfl,ha,hd⟩:=fq h1 rfl
  exact Y6 hK pins s σ H _ us Q I r ⟨a,xs,rfl,.inl ⟨SqL.of (d0 _ _ ha),λl hl=>q _ _ (d8.upd hl) (N2 bk hl hd)⟩⟩
 .obtain⟨v,rfl,hv⟩:=fq h1 rfl
  have hv':=hv.tup
  obtain⟨a,xs,rfl,ha,hd⟩:=hv
  exact Y6 hK pins s σ H _ us Q I r ⟨a,xs,rfl,.inr ⟨ha.same d0,q _ H (d8.refl H) hv'⟩⟩
def V5:List PyData->Option (List Int)
 | []=>some []
 | .int i::r=>(V5 r).map (i :: ·)
 | _=>none
theorem Y8:∀{ds:List PyData} {ns:List Int},V5 ds=some ns->ds=ns.map .int
 | [],ns,h=>by cases h;rfl
 | d::r,ns,h=>by
  cases d <;> simp only[V5]at h <;> try cases h
  obtain⟨m,e,rfl⟩:=Option.map_eq_some_iff.mp h
  rw[Y8 e];rfl
theorem mK {H:Hp}:∀{ns:List Int} {xs:List V},a6 K H (ns.map .int) xs->xs=ns.map V.int
 | [],xs,h=>by simpa only[List.map_nil,a6] using h
 | n::ns,xs,h=>by
  simp only[List.map_cons,a6]at h
  obtain⟨x,r,rfl,h1,h2⟩:=h
  simp only[a7]at h1
  rw[h1,mK h2];rfl
def aN (d:PyData):Bool:=d.showable && !d.hasDict&&decide (d.depth<=50)&&decide (d.shown.length<=16000000)
end
end
section
section
variable {K:Fg}{X:Cx}
theorem mB {d:PyData}(h:aN d=true):Shw d 50 16000000:=by
 unfold aN at h
 simp only[Bool.and_eq_true,decide_eq_true_eq,Bool.not_eq_true']at h
 exact⟨h.1.1.1,h.1.1.2,h.1.2,h.2⟩
def ka:List PyData->Option PyData
 | [d]=>if aN d=true then some (.str d.shown) else none
 | _=>none
theorem nQ (hK:X.K=K)(hg:X.A.guards=some [])(hu:X.A.units+64<cLine):D1 X (.builtin "repr") (rDN K ka):=by
 intro pins s σ H xs us Q I r h
 obtain⟨fp,B,ds,z,bk,h1,hf,q⟩:=h
 unfold ka at hf
 split at hf <;> try cases hf
 rename_i d
 split at hf
 .rename_i ho
  cases hf
  obtain⟨v,rfl,hv⟩:=fq h1 rfl
  have sh:=mB ho
  have qq:=q _ H (d8.refl H) a7.st
  cases d with
  | tuple ds =>
   have hd:=hv.dat
   obtain⟨a,xs,rfl,ha,_⟩:=hv
   exact fP hK hg hu pins s σ H _ us Q I r ⟨a,_,rfl,hd,sh,qq⟩
  | list ds =>
   have hd:=hv.dat
   obtain⟨a,xs,rfl,ha,_⟩:=hv
   exact fP hK hg hu pins s σ H _ us Q I r ⟨a,_,rfl,hd,sh,qq⟩
  | none =>
   cases(show v = .non from hv)
   obtain⟨u,rfl,rfl⟩:=O7 r
   exact PySem.P.repr_of_none ⟨.str _,H,I.tok _,⟨_,rfl⟩,by simpa only[PyData.shown] using qq⟩
  | bool b =>
   cases(show v = .bl b from hv)
   obtain⟨u,rfl,rfl⟩:=O7 r
   exact PySem.P.repr_of_bool ⟨.str _,H,I.tok _,⟨_,rfl⟩,by simpa only[PyData.shown] using qq⟩
  | int i =>
   cases(show v = .int i from hv)
   obtain⟨u,rfl,t,rfl⟩:=O7 r
   have hl:i.natAbs.log2<1920:=by have:=sh.sh;simpa only[PyData.showable,decide_eq_true_eq] using this
   exact PySem.P.repr_of_int hl ⟨.str _,H,I.tok _,⟨_,rfl⟩,by simpa only[PyData.shown] using qq⟩
  | str x =>
   cases(show v = .str x from hv)
   obtain⟨u,rfl,t,rfl⟩:=O7 r
   have hl:(reprText x).length<=sizeLine:=by have:=sh.ln;simp only[PyData.shown]at this;exact Nat.le_trans this (by rw[sizeLine_eq];decide)
   exact PySem.P.repr_of_str ⟨.str _,H,I.tok _,⟨_,rfl⟩,by simpa only[PyData.shown] using qq⟩ hl
  | dict b=>exact(show False from hv).elim
 .cases hf
def iP:List PyData->Option PyData
 | [.int i]=>some (.int i)
 | [.bool b]=>some (.int (if b then 1 else 0))
 | _=>none
theorem mz:D1 X (.type "int") (rDN K iP):=by
 intro pins s σ H xs us Q I r h
 obtain⟨fp,B,ds,z,bk,h1,hf,q⟩:=h
 unfold iP at hf
 split at hf <;> try cases hf
 .rename_i i
  obtain⟨v,rfl,hv⟩:=fq h1 rfl
  cases(show v = .int i from hv)
  exact gN pins s σ H _ us Q I r (.inl ⟨i,rfl,q _ H (d8.refl H) a7.int⟩)
 .rename_i b
  obtain⟨v,rfl,hv⟩:=fq h1 rfl
  cases(show v = .bl b from hv)
  exact gN pins s σ H _ us Q I r (.inr ⟨b,rfl,q _ H (d8.refl H) a7.int⟩)
def il:List Int->Int
 | []=>0
 | [a]=>a
 | a::b::r=>min a (il (b::r))
theorem jQ:∀{ns:List Int},ns≠[]->il ns∈ns/\∀n∈ns,il ns<=n
 | [],h=>absurd rfl h
 | [a],_=>⟨by simp[il],by simp[il]⟩
 | a::b::r,_=>by
  obtain⟨h1,h2⟩:=jQ (ns:=b::r) (by simp)
  rw[il]
  constructor
  .by_cases h:a<=il (b::r)
   .rw[Int.min_eq_left h];simp
   .rw[Int.min_eq_right (by omega)];exact List.mem_cons_of_mem _ h1
  .intro n hn
   rcases List.mem_cons.mp hn with rfl | hn
   .exact Int.min_le_left _ _
   .exact Int.le_trans (Int.min_le_right _ _) (h2 n hn)
def xY:List PyData->Option PyData
 | [.tuple ds]=>(V5 ds).bind λns=>if ns=[] then none else some (.int (il ns))
 | [.int i,.int j]=>some (.int (if j<i then j else i))
 | _=>none
theorem xO (hK:X.K=K)(hc:X.calm=true):D1 X (.builtin "min") (rDN K xY):=by
 intro pins s σ H xs us Q I r h
 obtain⟨fp,B,ds,z,bk,h1,hf,q⟩:=h
 unfold xY at hf
 split at hf <;> try cases hf
 .obtain⟨ns,e,hf⟩:=bS9 hf
  split at hf
  .cases hf
  .rename_i hne
   cases hf
   cases Y8 e
   obtain⟨v,rfl,a,xs,rfl,ha,hd⟩:=fq h1 rfl
   cases mK hd
   refine pL hK hc pins s σ H _ us Q I r ⟨a,ns,rfl,ha.same d0,hne,λm hm hle=>?_⟩
   obtain⟨m1,m2⟩:=jQ hne
   have:m=il ns:=by have:=hle _ m1;have:=m2 _ hm;omega
   rw[this]
   exact q _ H (d8.refl H) a7.int
 .rename_i i j
  obtain⟨v,w,rfl,hv,hw⟩:=Bm h1 rfl
  cases(show v = .int i from hv)
  cases(show w = .int j from hw)
  exact qz hc pins s σ H _ us Q I r ⟨i,j,rfl,q _ H (d8.refl H) a7.int⟩
def yz:PyData->Option PyData
 | .int i=>some (.int (-i))
 | _=>none
theorem yD:UnR X (unaryOp .USub) (rD1 K yz):=by
 intro pins s σ H x v Q I rx h
 obtain⟨fp,B,d,r,bk,h1,hf,q⟩:=h
 cases d <;> simp only[yz]at hf <;> try cases hf
 rename_i i
 cases(show x = .int i from h1)
 exact mG pins s σ H _ v Q I rx ⟨i,rfl,q _ H (d8.refl H) a7.int⟩
end
section
variable [Feeds]{K:Fg}{X:Cx}{e:Expr}{te:TE}{m:DE->M PyData}{pos p p2 p3:Pos}
def xu (T:String):PyData->Option PyData:=λd=>some (.bool (isT (tyD d) T))
def AL (K:Fg)(T:String)(te:TE):TE:=tCB (xy K) (q4 te (q4 (tC (.ty T)) C8))
theorem vV (T:String){x:Str}(he:Eb K X e te m)(hT:T∈["bool","int","str","list","tuple"])(hm:X.mg "isinstance" = none)(hmx:X.mg x=none)(hv:bootBuiltins x=some (.type T))(hg:Gl X "isinstance":=by rfl)(hgx:Gl X x:=by rfl)(hK:X.K=K:=by rfl)(hn:x ≠ "__name__":=by decide)(hd:(x == ("__debug__":Str))=false:=by decide)
  (hs:starEach [e,.Name x p2] X.env=(false,eval e X.env)::starEach [.Name x p2] X.env:=by rfl) (hs2:starEach [.Name x p2] X.env=(false,eval (.Name x p2) X.env)::starEach [] X.env:=by rfl) (hpl:(backTo pos (starEach [.Name x p2] X.env)).any (·.1)=false:=by rfl) :
  Ev K X (.Call (.Name "isinstance" p) [e,.Name x p2] [] pos) (AL K T te) (s1 (xu T) m) :=
 ⟨P9 (pq hK) hg hm PyProof.Rows.boot_isinstance (h9 he.pe (h9 (vB (v:=.ty T) hgx hmx hv rfl hn hd) j6 hs2) hs) (by decide) (by decide) hs hpl,λG B E F σ H Q d F' I e q=>by
  obtain⟨⟨y,F1⟩,e1,e⟩:=bS9 e
  obtain⟨z,e2,e⟩:=bS9 e
  cases e
  cases e2
  exact he.ok G B E F σ H _ y F1 I e1 λv H1 k1 f1 h1=>⟨v,T,y,rfl,h1.dat,hT,q _ H1 k1 f1 a7.bl⟩⟩
end
section
variable {K:Fg}{X:Cx}
def isD (neg:Bool):PyData->PyData->Option PyData
 | d,.none=>some (.bool (match d with | .none=>!neg | _=>neg))
 | _,_=>none
theorem oN {fp B:List Addr}{H:Hp}{d:PyData}{x:V}(h:G6 K fp B H d x):decide (x = .non)=(match d with | .none=>true | _=>false):=by
 cases d with
 | none=>cases(show x = .non from h);rfl
 | bool b=>cases(show x = .bl b from h);rfl
 | int b=>cases(show x = .int b from h);rfl
 | str b=>cases(show x = .str b from h);rfl
 | tuple ds=>obtain⟨a,xs,rfl,_⟩:=h;rfl
 | list ds=>obtain⟨a,xs,rfl,_⟩:=h;rfl
 | dict b=>exact(show False from h).elim
theorem oy:OpR X (compareOp .Is) (rD2 K (isD false)):=by
 intro pins s σ H x y v u Q I rx ry h
 obtain⟨fp,B,d,e,r,bk,h1,h2,hf,q⟩:=h
 cases e <;> simp only[isD]at hf <;> try cases hf
 cases(show y = .non from h2)
 have z:=q (.bl (decide (x = .non))) H (d8.refl H) (by rw[oN h1];cases d <;> exact a7.bl)
 exact yN pins s σ H _ _ v u Q I rx ry ⟨rfl,z⟩
theorem Q3:OpR X (compareOp .IsNot) (rD2 K (isD true)):=by
 intro pins s σ H x y v u Q I rx ry h
 obtain⟨fp,B,d,e,r,bk,h1,h2,hf,q⟩:=h
 cases e <;> simp only[isD]at hf <;> try cases hf
 cases(show y = .non from h2)
 have z:=q (.bl (!decide (x = .non))) H (d8.refl H) (by rw[oN h1];cases d <;> exact a7.bl)
 exact vb pins s σ H _ _ v u Q I rx ry ⟨rfl,z⟩
end
end
section
section
variable [Feeds]{K:Fg}{X:Cx}{e:Expr}{te:TE}{m:DE->M PyData}{pos p p2 p3:Pos}
def rj (x:Str):Str:=⟨((Builtin.Str.strSliceIndices none none (-1) x.length).filterMap (x.cps[·]?)).toArray⟩
theorem rR (x:Str):(rj x).length<=x.length:=by
 have h:=sliceIndicesBy_le none none (-1) (by decide) x.length
 have h2:=List.length_filterMap_le (λ(i:Nat)=>x.cps[i]?) (Builtin.Str.strSliceIndices none none (-1) x.length)
 have e:(rj x).length=((Builtin.Str.strSliceIndices none none (-1) x.length).filterMap (x.cps[·]?)).length:=by simp[rj,Str.length]
 rw[e]
 exact Nat.le_trans h2 h
def ur:PyData->Option PyData
 | .list ds=>some (.list ds.reverse)
 | .tuple ds=>some (.tuple ds.reverse)
 | .str x=>if x.length<=sizeLine then some (.str (rj x)) else none
 | _=>none
theorem vn {j}(hK:X.K=K)(he:PE X e te):PE X (.Subscript e (.Slice none none (some (.UnaryOp .USub (.Constant (.int 1) j p) p3)) p2) pos) (tUn (rD1 K ur) te):=by
 subst hK
 intro pins s σ H Q I h
 refine Subscript_ (thn (he pins s σ H _ I h) λv s1 ⟨x,H1,I1,r1,q1⟩=>?_)
 refine wpAny_Slice ?_
 rw[evalPart_none]
 refine wpAny_pure (wpAny_pure ?_)
 refine thn (jn (tZ mG f7) pins s1 σ H1 (λo H2=>o=some (-1)/\H2=H1) I1 ⟨1,rfl,_,rfl,rfl,rfl⟩) λvst s2 ⟨o,H2,I2,ps,ho,hH⟩=>?_
 subst ho hH
 obtain⟨fp,B,d,r,bk,h1,hf,q⟩:=q1
 have I4:Inv X pins σ H2 { s2 with heap:=s2.heap.push { cls:=.type "slice",data:=.fields #[.none,.none,vst] } }:=I2.kept (t':=s2.toks) λb ob q=>Heap.get?_push_of_some _ q
 show wpAny (model X.prog X.w) X.A (subscriptTail e (.Slice none none (some (.UnaryOp .USub (.Constant (.int 1) j p) p3)) p2) v (.ref s2.heap.objs.size)) (EP X pins σ Q) X.xe { s2 with heap:=s2.heap.push { cls:=.type "slice",data:=.fields #[.none,.none,vst] } }
 cases d <;> simp only[ur]at hf <;> try cases hf
 .rename_i x0
  cases(show x = .str x0 from h1)
  split at hf
  .rename_i hl
   cases hf
   obtain⟨t,rfl⟩:=r1
   obtain⟨l,rfl,e2⟩:=ip ps
   obtain⟨⟨i0,t0⟩,rfl⟩:∃z,l=some z:=by
    cases l with
    | none=>cases e2
    | some z=>exact⟨z,rfl⟩
   simp at e2
   subst e2
   have z:=q _ H2 (d8.refl H2) a7.st
   refine tail_any (ops:=[.str x0 t,.ref s2.heap.objs.size]) (typeIs_str _ _ _) F.slot_str_getitem.lookup (getItem_meets (typeIs_str _ _ _) (by decide) F.slot_str_getitem F.entry_str_getitem (F.args_str_getitem_2 _ _) (meets_str_getitem_slice x0 t s2.heap.objs.size none none (some (-1,t0)) rfl) ⟨⟨_,Heap.get?_push_size _ rfl,rfl,rfl⟩,?_⟩) (by with_unfolding_all rfl)
   unfold sliceMade
   rw[if_neg (by simp)]
   exact⟨Nat.le_trans (rR x0) hl,⟨.str (rj x0),H2,I4.tok _,⟨_,rfl⟩,z⟩⟩
  .cases hf
 .obtain⟨a,xs,rfl,ha,hd⟩:=h1
  cases r1
  obtain⟨its,r,ht,hz⟩:=I4.list (SqL.of (K:=X.K) (d0 _ _ ha))
  have hlen:=r.length
  refine tail_any (ops:=[.ref a,.ref s2.heap.objs.size]) ht.isList.typeIs slot_list_getitem.lookup (wpAny_getItem_list_slice ht.isList (Heap.IsSliceOf.new ..) .none .none ps (by decide) ?_ (by rw[List.size_toArray] <;> omega)) (by with_unfolding_all rfl)
  rw[PySem.W.krv_pick]
  refine⟨.ref _,_,I4.laid (t':=s2.toks) (o:=.lst xs.reverse) (λb ob q=>Heap.get?_push_of_some _ q) (Nat.le_refl _) ?_,rfl,?_⟩
  .exact⟨by rw[List.length_reverse];exact hz,its.reverse,0,r.reverse,Heap.get?_push_size _ rfl⟩
  .have hf:=I4.hok.fresh (Nat.le_refl _)
   exact q _ _ (d8.upd hf) (N5 bk hf (a6.reverse hd))
 .obtain⟨a,xs,rfl,ha,hd⟩:=h1
  cases r1
  obtain⟨its,r,ht,hz⟩:=I4.tuple (ha.same d0)
  have hlen:its.toArray.size=xs.length:=by rw[List.size_toArray];exact r.length.symm
  refine tail_any (ops:=[.ref a,.ref s2.heap.objs.size]) ht.typeIs PyProof.Rows.slot_tuple_getitem.lookup (HT.getItem_tuple_rev ht (Heap.IsSliceOf.new ..) ps ?_ (by rw[hlen];exact hz)) (by with_unfolding_all rfl)
  refine⟨.ref _,_,I4.laid (t':=s2.toks) (o:=.tup xs.reverse) (λb ob q=>Heap.get?_push_of_some _ q) (Nat.le_refl _) ?_,rfl,?_⟩
  .exact⟨by rw[List.length_reverse];exact hz,_,r.reverse,IsTup.new _ _⟩
  .have hf:=I4.hok.fresh (Nat.le_refl _)
   exact q _ _ (d8.upd hf) (N2 bk hf (a6.reverse hd))
theorem yA {j}(h:Eb K X e te m)(hK:X.K=K:=by rfl):Ev K X (.Subscript e (.Slice none none (some (.UnaryOp .USub (.Constant (.int 1) j p) p3)) p2) pos) (tUn (rD1 K ur) te) (s1 ur m):=⟨vn hK h.pe,xx h.ok⟩
end
end
end L3
namespace L3
open PySem PySem.Spec L2
theorem cF:fillsNumberSlot (.type "tuple") "mul" = pure false :=
 fillsNumberSlot_seq (id:="tuple.__mul__") (r:=some (.builtin "tuple.__rmul__")) F.slot_tuple_mul.lookup (by decide +kernel) F.slot_tuple_rmul.lookup (by decide +kernel)
theorem jo:seqRepeat? (.type "tuple")=pure (some (.builtin "tuple.__mul__")):=by
 unfold seqRepeat?
 rw[seqSlot_of (T:="tuple") (name:="__mul__") (id:="tuple.__mul__") F.slot_tuple_mul.lookup (by decide +kernel),seqSlot_of (T:="tuple") (name:="__rmul__") (id:="tuple.__rmul__") F.slot_tuple_rmul.lookup (by decide +kernel)]
 rfl
theorem ft (a:Int)(t:Tok)(l:Addr)(items:Array Value)(n:Nat)(dd:Option Addr)(sl:Array (Option Value)) :
  Meets (Builtin.«int.__rmul__» ⟨[.int a t,.ref l],[]⟩) (λ_ R s=>s.heap.get? l=some { cls:=.type "tuple",dict:=dd,data:=.seq items n,slots:=sl }/\R (.ok (.ret Value.notImplemented)) s) :=
 .of_wp λprog w A R s h=>by obtain⟨hp,g,d,tk,os⟩:=s;obtain⟨hl,h⟩:=h;wp_walk;exact⟨_,rfl,h⟩
theorem lY (l:Addr)(items:Array Value)(n:Nat)(dd:Option Addr)(sl:Array (Option Value))(k:Int)(u:Tok)(hc0:(decide (k < -(2 ^ 63))||decide (k >= 2 ^ 63))=false)(hc1:(items.isEmpty||k == 1)=true) :
  Meets (Builtin.«tuple.__mul__» ⟨[.ref l,.int k u],[]⟩) (λ_ R s=>s.heap.get? l=some { cls:=.type "tuple",dict:=dd,data:=.seq items n,slots:=sl }/\R (.ok (.ret (.ref l))) s) :=
 .of_wp λprog w A R s h=>by
  obtain⟨hp,g,d,tk,os⟩:=s;obtain⟨hl,h⟩:=h
  have f1:=AutoSeq1.idx_int;have f2:=AutoSeq1.sub_tuple_tuple;have f3:=AutoSeq1.sub_list_list;have f4:=AutoSeq1.sub_tuple_list;have f5:=AutoSeq1.sub_list_tuple
  wp_walk
  refine wpAny_ite_false (by rw[hc0];rfl) ?_
  wp_walk
  exact⟨_,rfl,h⟩
theorem mw (l:Addr)(items:Array Value)(n:Nat)(dd:Option Addr)(sl:Array (Option Value))(k:Int)(u:Tok)(hc0:(decide (k < -(2 ^ 63))||decide (k >= 2 ^ 63))=false)(hc1:(items.isEmpty||k == 1)=false)(hc2:(decide (k<=0)||items.isEmpty)=true) :
  Meets (Builtin.«tuple.__mul__» ⟨[.ref l,.int k u],[]⟩) (λ_ R s=>s.heap.get? l=some { cls:=.type "tuple",dict:=dd,data:=.seq items n,slots:=sl }/\R (.ok (.ret (.ref s.heap.objs.size))) { s with heap:=s.heap.push { cls:=.type "tuple",data:=.seq #[] } }) :=
 .of_wp λprog w A R s h=>by
  obtain⟨hp,g,d,tk,os⟩:=s;obtain⟨hl,h⟩:=h
  have f1:=AutoSeq1.idx_int;have f2:=AutoSeq1.sub_tuple_tuple;have f3:=AutoSeq1.sub_list_list;have f4:=AutoSeq1.sub_tuple_list;have f5:=AutoSeq1.sub_list_tuple
  wp_walk
  refine wpAny_ite_false (by rw[hc0];rfl) ?_
  wp_walk
  exact⟨_,rfl,h⟩
theorem mW (l:Addr)(items:Array Value)(n:Nat)(dd:Option Addr)(sl:Array (Option Value))(k:Int)(u:Tok)(hc0:(decide (k < -(2 ^ 63))||decide (k >= 2 ^ 63))=false)(hc1:(items.isEmpty||k == 1)=false)(hc2:(decide (k<=0)||items.isEmpty)=false)(hc3:decide ((items.size:Int)*k > (2 ^ 63-1) / 8)=false)(hc4:Builtin.Tuple.tupleTooMany ((items.size:Int)*k)=false)
  (hsz:(List.foldl (λx1 x2=>x1++x2) #[] (List.replicate k.toNat items)).size<=sizeLine) :
  Meets (Builtin.«tuple.__mul__» ⟨[.ref l,.int k u],[]⟩) (λ_ R s=>s.heap.get? l=some { cls:=.type "tuple",dict:=dd,data:=.seq items n,slots:=sl }/\R (.ok (.ret (.ref s.heap.objs.size))) { s with heap:=s.heap.push { cls:=.type "tuple",data:=.seq (List.foldl (λx1 x2=>x1++x2) #[] (List.replicate k.toNat items)) } }) :=
 .of_wp λprog w A R s h=>by
  obtain⟨hp,g,d,tk,os⟩:=s;obtain⟨hl,h⟩:=h
  have f1:=AutoSeq1.idx_int;have f2:=AutoSeq1.sub_tuple_tuple;have f3:=AutoSeq1.sub_list_list;have f4:=AutoSeq1.sub_tuple_list;have f5:=AutoSeq1.sub_list_tuple
  wp_walk
  refine wpAny_ite_false (by rw[hc0];rfl) ?_
  wp_walk
  refine wpAny_ite_false hc3 ?_
  wp_walk
  exact⟨_,rfl,h⟩
section
open PyProof.Rows
variable {K:Fg}{X:Cx}
def dm:PyData->PyData->Option PyData
 | .tuple xs,.int k=>if -(2 ^ 63)<=k/\k<2 ^ 63/\xs.length*k.toNat<=sizeLine then some (.tuple (List.replicate k.toNat xs).flatten) else none
 | d,e=>zk d e
theorem wA (hK:X.K=K):OpR X (binaryOp .Mult) (λx y H Q=>∃l k xs,x = .ref l/\y = .int k/\SqT K H l xs /\ -(2 ^ 63)<=k/\k<2 ^ 63/\xs.length*k.toNat<=sizeLine /\
  ((List.replicate k.toNat xs).flatten=xs->Q (.ref l) H)/\∀p,H p=none->Q (.ref p) (upd H p (.tup (List.replicate k.toNat xs).flatten))):=by
 subst hK
 intro pins s σ H x y v u Q I rx ry h
 obtain⟨l,k,xs,rfl,rfl,hq,h1,h2,hz,q0,q1⟩:=h
 cases rx
 obtain⟨t,rfl⟩:=ry
 obtain⟨its,r,p,hl⟩:=I.tuple hq
 have hlen:=r.length
 obtain⟨⟨cls,dd,data,sl⟩,ho,hc,n,hd⟩:=id p
 simp only at hc hd
 subst hc hd
 have hc0:(decide (k < -(2 ^ 63))||decide (k >= 2 ^ 63))=false:=by
  rw[decide_eq_false (by omega),decide_eq_false (by omega)];rfl
 have e1:s.TypeIs (.ref l) "tuple":=⟨_,ho,rfl⟩
 refine wpAny_binaryOp_repeat_ref (T:="tuple") (U:="int") (by decide) e1 (λs'=>typeIs_int s' k t) cF F.fills_int_mul F.slot_int_rmul jo F.slot_int_index.lookup
  (call_meets F.slot_int_rmul (typeIs_int s k t) F.entry_int_rmul (F.args_int_rmul_2 _ _) (ft k t l its.toArray n dd sl) ⟨ho,rfl,e1,?_⟩)
 by_cases c1:(its.toArray.isEmpty||k == 1)=true
 .refine call_meets F.slot_tuple_mul e1 F.entry_tuple_mul (F.args_tuple_mul_2 _ _) (lY l its.toArray n dd sl k t hc0 c1) ⟨ho,⟨.ref l,H,I,rfl,q0 ?_⟩⟩
  simp only[Bool.or_eq_true,beq_iff_eq]at c1
  rcases c1 with c1 | c1
  .have:xs=[]:=by
    cases r with
    | nil=>rfl
    | cons a b=>simp at c1
   subst this
   simp
  .subst c1
   simp
 .have c1:(its.toArray.isEmpty||k == 1)=false:=by simpa using c1
  by_cases c2:(decide (k<=0)||its.toArray.isEmpty)=true
  .refine call_meets F.slot_tuple_mul e1 F.entry_tuple_mul (F.args_tuple_mul_2 _ _) (mw l its.toArray n dd sl k t hc0 c1 c2) ⟨ho,?_⟩
   have ez:(List.replicate k.toNat xs).flatten=[]:=by
    rw[Bool.or_eq_false_iff]at c1
    rw[c1.1,Bool.or_false]at c2
    have:k.toNat=0:=by have:=of_decide_eq_true c2;omega
    rw[this];rfl
   have z:=q1 _ I.fresh
   rw[ez]at z
   exact⟨.ref _,_,I.laid (t':=s.toks) (o:=.tup []) (λb ob q=>Heap.get?_push_of_some _ q) (Nat.le_refl _) ⟨Nat.zero_le _,[],.nil,IsTup.new _ _⟩,rfl,z⟩
  .have c2:(decide (k<=0)||its.toArray.isEmpty)=false:=by simpa using c2
   have hk0:0<k:=by
    rw[Bool.or_eq_false_iff]at c2
    have:=of_decide_eq_false c2.1
    omega
   have hm:(its.toArray.size:Int)*k<=sizeLine:=by
    obtain⟨j,rfl⟩:∃j:Nat,k=j:=⟨k.toNat,by omega⟩
    rw[List.size_toArray,<-hlen]
    simp only[Int.toNat_natCast]at hz
    exact_mod_cast hz
   have hfold:List.foldl (λx1 x2=>x1++x2) #[] (List.replicate k.toNat its.toArray)=(List.replicate k.toNat its).flatten.toArray:=by
    have:=cA its k.toNat []
    rw[List.nil_append]at this
    exact this
   have hsl:(sizeLine:Int)<=(2 ^ 63-1) / 8:=by rw[sizeLine_eq];decide
   refine call_meets F.slot_tuple_mul e1 F.entry_tuple_mul (F.args_tuple_mul_2 _ _) (mW l its.toArray n dd sl k t hc0 c1 c2 (decide_eq_false (by omega)) (decide_eq_false (by omega)) ?_) ⟨ho,?_⟩
   .rw[hfold,List.size_toArray,iQ,<-hlen,Nat.mul_comm];exact hz
   .rw[hfold]
    exact⟨.ref _,_,I.laid (t':=s.toks) (o:=.tup (List.replicate k.toNat xs).flatten) (λb ob q=>Heap.get?_push_of_some _ q) (Nat.le_refl _) ⟨by rw[iQ,Nat.mul_comm];exact hz,_,r.rep k.toNat,IsTup.new _ _⟩,rfl,q1 _ I.fresh⟩
theorem nL (hK:X.K=K):OpR X (binaryOp .Mult) (rD2 K dm):=by
 intro pins s σ H x y v u Q I rx ry h
 obtain⟨fp,B,d,e,r,bk,h1,h2,hf,q⟩:=h
 unfold dm at hf
 split at hf
 .rename_i ds k
  obtain⟨a,xs,rfl,ha,hd⟩:=h1
  cases(show y = .int k from h2)
  split at hf
  .rename_i hc
   cases hf
   refine wA hK pins s σ H _ _ v u Q I rx ry ⟨a,k,xs,rfl,rfl,ha.same d0,hc.1,hc.2.1,by rw[hd.length];exact hc.2.2,λe=>q _ H (d8.refl H) ?_,λp hp=>q _ _ (d8.upd hp) (N2 bk hp (a6.rep hd _))⟩
   have:=a6.rep hd k.toNat
   rw[e]at this
   simp only[a7]
   exact⟨a,xs,rfl,ha,this⟩
  .cases hf
 .exact zK pins s σ H x y v u Q I rx ry ⟨fp,B,d,e,r,bk,h1,h2,hf,q⟩
end
end L3
namespace L3
open PySem PySem.Spec PyProof.Rows L2
section
section
variable [Feeds]
def da (K:Fg)(P:Hp->List Addr->Prop)(J:It)(items:List PyData):Prop:=∀H B,P H B ->
 (∀i d,items[i]? = some d->J.go i H/\∀x H2,J.yld i H x H2->d8 H H2/\(BOk H B->a7 K (hid H2 B) d x))/\J.stop items.length H
def TId (K:Fg)(wi:TI)(mi:DE->M (List PyData)):Prop:=∀(G:GF) (B:List Addr) (E:DE) (F:FS) (σ:St) (H:Hp) (R:It->Hp->Prop) (ds:List PyData) (F':FS),SitE K G B E F σ H->mi E F=some (ds,F') ->
 (∀J H',Kp (k9 K G) H H'->FAt K G H' F'->da K (λH2 B2=>d8 (hid H' B) (hid H2 B2)) J ds->R J H')->wi σ H R
def TIs (K:Fg)(wi:TI)(mi:DE->M (List PyData)):Prop:=∀(G:GF) (B:List Addr) (E:DE) (F:FS) (σ:St) (H:Hp) (R:It->Hp->Prop) (ds:List PyData) (F':FS),SitE K G B E F σ H->mi E F=some (ds,F') ->
 (∀J H',Kp (k9 K G) H H'->FAt K G H' F'->da K (λH2 B2=>Kp (k9 K G) H' H2/\d8 (hid H' B) (hid H2 B2)) J ds->R J H')->wi σ H R
theorem TId.sh {K:Fg}{wi:TI}{mi:DE->M (List PyData)}(h:TId K wi mi):TIs K wi mi:=λG B E F σ H R ds F' I e q=>h G B E F σ H R ds F' I e λJ H' k f ok=>q J H' k f λH2 B2 kp=>ok H2 B2 kp.2
structure Ei (K:Fg) (X:Cx) (tg iter:Expr) (wi:TI) (mi:DE->M (List PyData)):Prop where
 pi:PI X tg iter wi
 ok:TId K wi mi
structure Eib (K:Fg) (X:Cx) (tg iter:Expr) (wi:TI) (mi:DE->M (List PyData)):Prop where
 pi:PI X tg iter wi
 ok:TIs K wi mi
variable {K:Fg}{X:Cx}{tg iter e:Expr}{te:TE}{m:DE->M PyData}{pos p:Pos}
theorem Ei.bw {wi:TI}{mi:DE->M (List PyData)}(h:Ei K X tg iter wi mi):Eib K X tg iter wi mi:=⟨h.pi,h.ok.sh⟩
def zI (K:Fg)(tl:TE):TI:=λσ H R=>tl σ H λx H1=>∃a,x = .ref a/\(((∃xs,SqL K H1 a xs)/\R (Itl K a) H1)\/((∃xs,SqT K H1 a xs)/\R (Itt K a) H1))
theorem tj {l:Expr}{tl:TE}(hK:X.K=K)(hl:PE X l tl):PI X tg l (zI K tl):=by
 subst hK
 intro pins s σ H R I h
 refine thn (hl pins s σ H _ I h) λv s1 ⟨x,H1,I1,r1,q1⟩=>?_
 obtain⟨a,e,q⟩:=q1
 subst e
 cases r1
 rcases q with ⟨⟨xs,hq⟩,q⟩ | ⟨⟨xs,hq⟩,q⟩
 .obtain⟨its,rv,p,hz⟩:=I1.list hq
  refine wpAny_pyIter_list p.isList ?_
  refine⟨s1.heap.objs.size,[s1.heap.objs.size],_,_,H1,rfl,I1.kept (t':=s1.toks) λb o e=>Heap.get?_push_of_some _ e,qf a _,⟨_,Heap.get?_push_size _ rfl,rfl,rfl⟩,λb hb=>?_,q⟩
  have e:b=s1.heap.objs.size:=by simpa using hb
  subst e
  exact I1.fpOk (Nat.le_refl _) (I1.hok.fresh (Nat.le_refl _))
 .obtain⟨its,rv,p,hz⟩:=I1.tuple hq
  refine wpAny_pyIter_tuple (show s1.heap.IsTuple a its.toArray from p) ?_
  refine⟨s1.heap.objs.size,[s1.heap.objs.size],_,_,H1,rfl,I1.kept (t':=s1.toks) λb o e=>Heap.get?_push_of_some _ e,mT a _,⟨_,Heap.get?_push_size _ rfl,rfl,rfl⟩,λb hb=>?_,q⟩
  have e:b=s1.heap.objs.size:=by simpa using hb
  subst e
  exact I1.fpOk (Nat.le_refl _) (I1.hok.fresh (Nat.le_refl _))
def eK:PyData->Option (List PyData)
 | .list ds=>some ds
 | .tuple ds=>some ds
 | _=>none
def bW (a:DE->M PyData):DE->M (List PyData):=λE F=>(a E F).bind λp=>(eK p.1).bind λds=>some (ds,p.2)
theorem a6.item {H:Hp}{ds:List PyData}{xs:List V}{i:Nat}{d:PyData}(h:a6 K H ds xs)(e:ds[i]? = some d):∃v,xs[i]? = some v/\a7 K H d v:=by
 obtain⟨hj,_⟩:=List.getElem?_eq_some_iff.mp e
 have hx:xs[i]? = some (xs[i]'(by rw[h.length];exact hj)):=by simp
 obtain⟨d',h1,h2⟩:=h.get hx
 rw[e]at h1;cases h1
 exact⟨_,hx,h2⟩
theorem oO {P:Hp->List Addr->Prop}{a:Addr}{ds:List PyData}{xs:List V}(h:∀H B,P H B->H a=some (.lst xs)/\a6 K (hid H B) ds xs):da K P (Itl K a) ds:=λH B hp=>by
 obtain⟨h1,h2⟩:=h H B hp
 refine⟨λi d e=>?_,⟨xs,SqL.of h1,by rw[h2.length];exact Nat.le_refl _⟩⟩
 obtain⟨v,e1,e2⟩:=a6.item h2 e
 refine⟨⟨xs,v,SqL.of h1,e1⟩,λx H2 y=>?_⟩
 obtain⟨rfl,y⟩:=y
 have:=y xs (SqL.of h1)
 rw[e1]at this;cases this
 exact⟨d8.refl _,λ_=>e2⟩
theorem tq {P:Hp->List Addr->Prop}{a:Addr}{ds:List PyData}{xs:List V}(h:∀H B,P H B->SqT K H a xs/\a6 K (hid H B) ds xs):da K P (Itt K a) ds:=λH B hp=>by
 obtain⟨h1,h2⟩:=h H B hp
 refine⟨λi d e=>?_,⟨xs,h1,by rw[h2.length];exact Nat.le_refl _⟩⟩
 obtain⟨v,e1,e2⟩:=a6.item h2 e
 refine⟨⟨xs,v,h1,e1⟩,λx H2 y=>?_⟩
 obtain⟨rfl,y⟩:=y
 have:=y xs h1
 rw[e1]at this;cases this
 exact⟨d8.refl _,λ_=>e2⟩
theorem jt (h:Ev K X e te m)(hK:X.K=K:=by rfl):Ei K X tg e (zI K te) (bW m):=⟨tj hK h.pe,λG B E F σ H R ds F' I e q=>by
 obtain⟨⟨y,F1⟩,e1,e⟩:=bS9 e
 obtain⟨z,e2,e⟩:=bS9 e
 cases e
 refine h.ok G B E F σ H _ y F1 I e1 λv H1 k1 f1 h1=>?_
 cases y with
 | list ys =>
  cases e2
  simp only[a7]at h1
  obtain⟨a,xs,rfl,ha,hd⟩:=h1
  refine⟨a,rfl,.inl ⟨⟨xs,SqL.of (d0 _ _ ha)⟩,q _ H1 k1 f1 (oO λH2 B2 s=>⟨d0 _ _ (s _ _ ha),hd.same s⟩)⟩⟩
 | tuple ys =>
  cases e2
  simp only[a7]at h1
  obtain⟨a,xs,rfl,ha,hd⟩:=h1
  refine⟨a,rfl,.inr ⟨⟨xs,ha.same d0⟩,q _ H1 k1 f1 (tq λH2 B2 s=>⟨(ha.same s).same d0,hd.same s⟩)⟩⟩
 | _=>cases e2⟩
theorem js (h:Eb K X e te m)(hK:X.K=K:=by rfl):Eib K X tg e (zI K te) (bW m):=⟨tj hK h.pe,λG B E F σ H R ds F' I e q=>by
 obtain⟨⟨y,F1⟩,e1,e⟩:=bS9 e
 obtain⟨z,e2,e⟩:=bS9 e
 cases e
 refine h.ok G B E F σ H _ y F1 I e1 λv H1 k1 f1 h1=>?_
 cases y with
 | list ys =>
  cases e2
  obtain⟨a,xs,rfl,ha,hd⟩:=h1
  refine⟨a,rfl,.inl ⟨⟨xs,SqL.of (d0 _ _ ha)⟩,q _ H1 k1 f1 (oO λH2 B2 k=>⟨d0 _ _ (k.1.hid (B:=k9 K G) (λ_ z=>z) _ _ ha),hd.same k.2⟩)⟩⟩
 | tuple ys =>
  cases e2
  obtain⟨a,xs,rfl,ha,hd⟩:=h1
  refine⟨a,rfl,.inr ⟨⟨xs,ha.same d0⟩,q _ H1 k1 f1 (tq λH2 B2 k=>⟨(ha.same k.2).same d0,hd.same k.2⟩)⟩⟩
 | _=>cases e2⟩
def cE (lo:Int)(n:Nat):List PyData:=(List.range n).map λ(i:Nat)=>.int (lo+i)
theorem xR {P:Hp->List Addr->Prop}{lo:Int}{n:Nat}:da K P (Itr lo n) (cE lo n):=λH B _=>by
 refine⟨λi d e=>?_,by show n<=_;simp[cE]⟩
 unfold cE at e
 rw[List.getElem?_map]at e
 obtain⟨j,e1,rfl⟩:=Option.map_eq_some_iff.mp e
 obtain⟨hj,e2⟩:=List.getElem?_eq_some_iff.mp e1
 simp at hj e2
 subst e2
 refine⟨hj,λx H2 y=>?_⟩
 obtain⟨rfl,rfl⟩:=y
 exact⟨d8.refl _,λ_=>a7.int⟩
def N0:List PyData->Option (List PyData)
 | [.int j]=>if -(2 ^ 62)<=j/\j<2 ^ 62 then some (cE 0 j.toNat) else none
 | _=>none
def X3 (a:DE->M (List PyData)):DE->M (List PyData):=λE F=>(a E F).bind λp=>(N0 p.1).bind λds=>some (ds,p.2)
theorem W5 {a:Expr}{ta:TA}{ms:DE->M (List PyData)}(h:Ea K X [a] ta ms)(hm:X.mg "range" = none)(hg:Gl X "range":=by rfl)(hs:starEach [a] X.env=[(false,eval a X.env)]:=by rfl):Ei K X tg (.Call (.Name "range" p) [a] [] pos) (tF ta) (X3 ms):=⟨hX hg hm h.pa hs,λG B E F σ H R ds F' I e q=>by
 obtain⟨⟨ys,F1⟩,e1,e⟩:=bS9 e
 obtain⟨z,e2,e⟩:=bS9 e
 cases e
 refine h.ok G B E F σ H _ ys F1 I e1 λvs H1 k1 f1 h1=>?_
 unfold N0 at e2
 split at e2
 .rename_i j hj
  split at e2
  .rename_i hc
   cases e2
   have hj:ys=[.int j]:=hj
   subst hj
   simp only[a6]at h1
   obtain⟨x,r,rfl,h2,rfl⟩:=h1
   simp only[a7]at h2
   subst h2
   exact⟨j,rfl,hc.1,hc.2,q _ H1 k1 f1 xR⟩
  .cases e2
 .cases e2⟩
def TGd (K:Fg)(g:TG)(bd:PyData->DE->Option DE):Prop:=∀(G:GF) (B:List Addr) (E:DE) (F:FS) (σ:St) (H:Hp) (x:V) (d:PyData) (E':DE) (Q:St->Hp->Prop),SitE K G B E F σ H->a7 K (hid H B) d x->bd d E=some E' ->
 (∀σ',SitE K G B E' F σ' H->(∀i:Nat,(∀y,E'[i]? ≠ some (some (.dat y)))->E'[i]? = E[i]? /\ σ'[i]? = σ[i]?)->Q σ' H)->g x σ H Q
def Bx (K:Fg)(g:TGs)(bd:List PyData->DE->Option DE):Prop:=∀(G:GF) (B:List Addr) (E:DE) (F:FS) (σ:St) (H:Hp) (xs:List V) (ds:List PyData) (E':DE) (Q:St->Hp->Prop),SitE K G B E F σ H->a6 K (hid H B) ds xs->bd ds E=some E' ->
 (∀σ',SitE K G B E' F σ' H->(∀i:Nat,(∀y,E'[i]? ≠ some (some (.dat y)))->E'[i]? = E[i]? /\ σ'[i]? = σ[i]?)->Q σ' H)->g xs σ H Q
structure Eg (K:Fg) (X:Cx) (tg:Expr) (g:TG) (bd:PyData->DE->Option DE):Prop where
 pg:PG X tg g
 ok:TGd K g bd
structure Egs (K:Fg) (X:Cx) (tgs:List Expr) (g:TGs) (bd:List PyData->DE->Option DE):Prop where
 pg:PGs X tgs g
 ok:Bx K g bd
def bN (i:Nat):PyData->DE->Option DE:=λd E=>if i<E.length then some (E.set i (some (.dat d))) else none
theorem SitE.set {G:GF}{B:List Addr}{E:DE}{F:FS}{σ:St}{H:Hp}{i:Nat}{d:PyData}{v:V}(I:SitE K G B E F σ H)(h:a7 K (hid H B) d v)(hi:i<E.length):SitE K G B (E.set i (some (.dat d))) F (σ.set i (some v)) H:=by
 refine⟨I.fd,I.fB,I.bk,by rw[List.length_set,List.length_set];exact I.ln,λj x e=>?_⟩
 have hs:i < σ.length:=by rw[<-I.ln];exact hi
 by_cases hj:i=j
 .subst hj
  rw[List.getElem?_set_self hi]at e
  cases e
  exact⟨v,by rw[List.getElem?_set_self hs],h⟩
 .rw[List.getElem?_set_ne hj]at e
  rw[List.getElem?_set_ne hj]
  exact I.loc j x e
theorem v5 {i:Nat}{x:Str}(hN:X.N.Nodup)(hi:X.N[i]? = some x:=by rfl)(hx:Loc X.env.scope x:=by first | exact Or.inl rfl | exact Or.inr rfl)(hf:X.fn x=true\/X.env.scope.names.lookup x=some .local:=by first | exact .inl rfl | exact .inr rfl | assumption):Eg K X (.Name x pos) (G7 i) (bN i):=⟨om hN hi hx hf,λG B E F σ H x d E' Q I h e q=>by
 unfold bN at e
 split at e
 .rename_i hl
  cases e
  refine q _ (I.set h hl) λj hj=>?_
  by_cases hij:i=j
  .subst hij
   exact absurd (List.getElem?_set_self hl) (hj d)
  .rw[List.getElem?_set_ne hij,List.getElem?_set_ne hij]
   exact⟨rfl,rfl⟩
 .cases e⟩
def R3:List PyData->DE->Option DE:=λds E=>if ds.isEmpty then some E else none
def j7 (a:PyData->DE->Option DE)(r:List PyData->DE->Option DE):List PyData->DE->Option DE
 | d::ds,E=>(a d E).bind λE1=>r ds E1
 | [],_=>none
theorem C7:Egs K X [] Av R3:=⟨uX,λG B E F σ H xs ds E' Q I h e q=>by
 cases ds with
 | nil=>cases e;simp only[a6]at h;exact⟨h,q σ I λ_ _=>⟨rfl,rfl⟩⟩
 | cons d r=>cases e⟩
theorem e9 {es:List Expr}{t:TG}{u:TGs}{ba:PyData->DE->Option DE}{br:List PyData->DE->Option DE}(h1:Eg K X e t ba)(h2:Egs K X es u br)
  (hs:(assignEach (e::es) X.env).map (·.2)=assign e X.env::(assignEach es X.env).map (·.2):=by rfl):Egs K X (e::es) (xp t u) (j7 ba br):=⟨rN h1.pg h2.pg hs,λG B E F σ H xs ds E' Q I h e q=>by
 cases ds with
 | nil=>cases e
 | cons d r =>
  obtain⟨E1,e1,e⟩:=bS9 e
  simp only[a6]at h
  obtain⟨x,rr,rfl,hx,hr⟩:=h
  refine⟨x,rr,rfl,h1.ok G B E F σ H x d E1 _ I hx e1 λσ1 I1 k1=>?_⟩
  refine h2.ok G B E1 F σ1 H rr r E' _ I1 hr e λσ2 I2 k2=>q σ2 I2 λi hi=>?_
  obtain⟨a1,a2⟩:=k2 i hi
  obtain⟨b1,b2⟩:=k1 i (λy z=>hi y (a1.trans z))
  exact⟨a1.trans b1,a2.trans b2⟩⟩
def P8 (n:Nat)(r:List PyData->DE->Option DE):PyData->DE->Option DE
 | .tuple ds,E=>if ds.length=n then r ds E else none
 | _,_=>none
theorem J8 {es:List Expr}{k:Nat}{t:TGs}{n:Nat}{br:List PyData->DE->Option DE}(hc:X.calm=true)(h:Egs K X es t br)(hK:X.K=K:=by rfl)
  (hn:(assignEach es X.env).length=n:=by rfl) (hst:(assignEach es X.env).findIdx? (·.1)=none:=by rfl):Eg K X (.Tuple es k pos) (zL K n t) (P8 n br):=⟨wy hK hc h.pg hn hst,λG B E F σ H x d E' Q I hd e q=>by
 cases d <;> simp only[P8]at e <;> try cases e
 split at e
 .rename_i hl
  simp only[a7]at hd
  obtain⟨a,xs,rfl,ha,hx⟩:=hd
  exact⟨a,xs,rfl,ha.same d0,by rw[hx.length];exact hl,h.ok G B E F σ H xs _ E' Q I hx e q⟩
 .cases e⟩
def qE (k:Nat)(cap:List Nat)(E:DE):DE:=List.replicate k none++cap.map λj=>(E[j]?).join
theorem SitE.cap {G:GF}{B:List Addr}{E:DE}{F:FS}{σ:St}{H:Hp}(I:SitE K G B E F σ H)(k:Nat)(cap:List Nat):SitE K G B (qE k cap E) F (ay k cap σ) H:=by
 refine⟨I.fd,I.fB,I.bk,by simp[qE,ay],λi x e=>?_⟩
 unfold qE at e
 by_cases hi:i<k
 .rw[List.getElem?_append_left (by simpa using hi),List.getElem?_replicate,if_pos hi]at e
  cases e
 .rw[List.getElem?_append_right (by simpa using hi),List.length_replicate,List.getElem?_map]at e
  obtain⟨j,hj,hv⟩:=Option.map_eq_some_iff.mp e
  have hE:E[j]? = some (some x):=by
   cases q:E[j]? with
   | none=>rw[q]at hv;cases hv
   | some o=>rw[q]at hv;exact congrArg some hv
  obtain⟨v,h1,h2⟩:=I.loc j x hE
  refine⟨v,?_,h2⟩
  unfold ay
  rw[List.getElem?_append_right (by simpa using hi),List.length_replicate,List.getElem?_map,hj,Option.map_some,h1]
  rfl
theorem SitE.more {G:GF}{B:List Addr}{E:DE}{F:FS}{σ:St}{H:Hp}{D:Addr}{o:HO}(I:SitE K G B E F σ H)(hD:H D=none):SitE K G (D::B) E F σ (upd H D o):=by
 have hn:D ∉ B:=I.bk.nin hD
 have e1:hid (upd H D o) (D::B)=hid H B:=by
  funext b
  by_cases hb:b=D
  .subst hb;rw[v7 List.mem_cons_self,e8 hn,hD]
  .by_cases hB:b∈B
   .rw[v7 hB,v7 (List.mem_cons_of_mem _ hB)]
   .rw[e8 hB,e8 (by simp[hb,hB]),a9 hb]
 refine⟨I.fd.same (d8.upd hD),λb hb=>List.mem_cons_of_mem _ (I.fB b hb),λb hb=>?_,I.ln,λi x e=>?_⟩
 .rcases List.mem_cons.mp hb with rfl | hb
  .exact⟨o,b9⟩
  .obtain⟨u,e⟩:=I.bk b hb
   exact⟨u,by rw[a9 (d6 e hD)];exact e⟩
 .obtain⟨v,h1,h2⟩:=I.loc i x e
  refine⟨v,h1,?_⟩
  cases x with
  | dat d=>show a7 K (hid (upd H D o) (D::B)) d v;rw[e1];exact h2
  | feed=>exact h2
  | fn _=>exact h2
  | adr _=>exact h2
  | own ds =>
   obtain⟨a,xs,ea,hB,hf,ha,hd⟩:=h2
   exact⟨a,xs,ea,List.mem_cons_of_mem _ hB,hf,by rw[a9 (d6 ha hD)];exact ha,by rw[e1];exact hd⟩
theorem SitE.wr {G:GF}{B:List Addr}{E:DE}{F:FS}{σ:St}{H:Hp}{D:Addr}{o:HO}(I:SitE K G (D::B) E F σ H)(hf:D ∉ k9 K G)(hown:∀(i:Nat) (ds:List PyData),E[i]? = some (some (DV.own ds))->σ[i]? ≠ some (some (V.ref D))){acc:List V}(hD:H D=some (.lst acc)):SitE K G (D::B) E F σ (upd H D o):=by
 have e1:hid (upd H D o) (D::B)=hid H (D::B):=W6 List.mem_cons_self
 refine⟨I.fd.congr λb hb=>a9 (λe=>hb.elim (λhb=>hf (e▸hb)) λ⟨φ,q⟩=>by rw[e,hD]at q;cases q),I.fB,λb hb=>?_,I.ln,λi x e=>?_⟩
 .by_cases h:b=D
  .subst h;exact⟨o,b9⟩
  .rw[a9 h];exact I.bk b hb
 .obtain⟨v,h1,h2⟩:=I.loc i x e
  refine⟨v,h1,?_⟩
  cases x with
  | dat d=>show a7 K (hid (upd H D o) (D::B)) d v;rw[e1];exact h2
  | feed=>exact h2
  | fn _=>exact h2
  | adr _=>exact h2
  | own ds =>
   obtain⟨a,xs,rfl,hB,hfa,ha,hd⟩:=h2
   have hne:a≠D:=λz=>hown i ds e (by rw[<-z];exact h1)
   exact⟨a,xs,rfl,hB,hfa,by rw[a9 hne];exact ha,by rw[e1];exact hd⟩
structure Ets (K:Fg) (X:Cx) (ifs:List Expr) (tt:TT) (m:DE->M Bool):Prop where
 pts:PTs X ifs tt
 ok:TTd K tt m
def dQ:DE->M Bool:=λ_ F=>some (true,F)
theorem eF:Ets K X [] AS dQ:=⟨ux,λG B E F σ H Q b F' I e q=>by cases e;exact q H Kp.refl I.fd⟩
theorem vk {c:Expr}{tt:TT}{mt:DE->M Bool}(h:Et K X c tt mt):Ets K X [c] tt mt:=⟨wj h.pt,h.ok⟩
def Y5 (bd:PyData->DE->Option DE)(mt:DE->M Bool)(me:DE->M PyData):List PyData->DE->M (List PyData)
 | [],_,F=>some ([],F)
 | d::r,E,F=>(bd d E).bind λE1=>(mt E1 F).bind λp=>if p.1=true then(me E1 p.2).bind λy=>(Y5 bd mt me r E1 y.2).bind λz=>some (y.1::z.1,z.2) else Y5 bd mt me r E1 p.2
def sLC (mi:DE->M (List PyData))(k:Nat)(cap:List Nat)(bd:PyData->DE->Option DE)(mt:DE->M Bool)(me:DE->M PyData):DE->M PyData:=λE F =>
 (mi E F).bind λp=>if p.1.length<=sizeLine then(Y5 bd mt me p.1 (qE k cap E) p.2).bind λz=>some (.list z.1,z.2) else none
def Bd (K:Fg)(G:GF)(B:List Addr)(D:Addr)(H1:Hp)(bd:PyData->DE->Option DE)(mt:DE->M Bool)(me:DE->M PyData)(items whole:List PyData)(Fz:FS)(i:Nat)(σ:St)(acc:List V)(H:Hp):Prop :=
 ∃E F done rest,SitE K G (D::B) E F σ H/\H D=some (.lst acc)/\Kp (k9 K G) H1 H/\(∀(j:Nat) (ds:List PyData),E[j]? = some (some (DV.own ds))->σ[j]? ≠ some (some (V.ref D)))/\a6 K (hid H (D::B)) done acc/\Y5 bd mt me (items.drop i) E F=some (rest,Fz)/\whole=done++rest/\done.length<=i
theorem AX {wi:TI}{mi:DE->M (List PyData)}{k:Nat}{cap:List Nat}{g:TG}{bd:PyData->DE->Option DE}{tt:TT}{mt:DE->M Bool}{me:DE->M PyData}(hi:TIs K wi mi)(hg:TGd K g bd)(ht:TTd K tt mt)(he:TEd K te me) :
  TEd K (tLC wi k cap g tt te) (sLC mi k cap bd mt me):=λG B E F σ H Q d F' I e q=>by
 obtain⟨⟨items,F1⟩,e1,e⟩:=bS9 e
 split at e
 .rename_i hsz
  obtain⟨⟨whole,F2⟩,e2,e⟩:=bS9 e
  cases e
  refine hi G B E F σ H _ items F1 I e1 λJ H1 k1 f1 ok D hD=>?_
  have I1:SitE K G B E F1 σ H1:=I.step k1 f1
  have hBD:D ∉ B:=I1.bk.nin hD
  have hfD:D ∉ k9 K G:=λz=>hBD (I.fB D z)
  have hsz:items.length<=sizeLine:=hsz
  have stab:∀{H':Hp},Kp (k9 K G) H1 H'->Kp (k9 K G) H1 H'/\d8 (hid H1 B) (hid H' (D::B)):=λ{H'} k=>⟨k,λb o eb=>by
   by_cases hb:b∈B
   .rw[v7 hb]at eb;cases eb
   .rw[e8 hb]at eb
    rw[e8 (by
     intro z
     rcases List.mem_cons.mp z with rfl | z
     .rw[hD]at eb;cases eb
     .exact hb z)]
    exact k b o eb λz=>hb (I.fB b z)⟩
  refine yV items.length (Bd K G B D H1 bd mt me items whole F2) ?_ ?_ ?_ ?_ ?_
  .refine⟨qE k cap E,F1,[],whole,(I1.cap k cap).more hD,b9,Kp.upd hD,λj ds ej z=>?_,a6.nil,e2,rfl,Nat.le_refl _⟩
   obtain⟨v,v1,a,xs,rfl,_,_,ha,_⟩:=(I1.cap k cap).loc j _ ej
   rw[v1]at z
   cases z
   rw[hD]at ha;cases ha
  .rintro i σ' acc H' hlt ⟨E',F3,done,rest,I2,hD2,k2,ow,hd2,e3,ew,hdi⟩
   exact((ok H' (D::B) (stab k2)).1 i items[i] (by simp[hlt])).1
  .rintro σ' acc H' ⟨E',F3,done,rest,I2,hD2,k2,ow,hd2,e3,ew,hdi⟩
   exact(ok H' (D::B) (stab k2)).2
  .rintro i σ' acc H' hlt ⟨E',F3,done,rest,I2,hD2,k2,ow,hd2,e3,ew,hdi⟩ x H2 y R hR
   obtain⟨s2,hx⟩:=((ok H' (D::B) (stab k2)).1 i items[i] (by simp[hlt])).2 x H2 y
   have hx':=hx I2.bk
   rw[List.drop_eq_getElem_cons hlt,Y5]at e3
   obtain⟨E4,e4,e3⟩:=bS9 e3
   obtain⟨⟨b,F5⟩,e5,e3⟩:=bS9 e3
   have I3:SitE K G (D::B) E' F3 σ' H2:=I2.step (Kp.same s2) (I2.fd.same s2)
   refine hg G (D::B) E' F3 σ' H2 x items[i] E4 _ I3 hx' e4 λσ4 I4 fr=>?_
   have ow4:∀(j:Nat) (ds:List PyData),E4[j]? = some (some (DV.own ds))->σ4[j]? ≠ some (some (V.ref D)):=λj ds ej=>by
    obtain⟨a1,a2⟩:=fr j λy z=>by rw[ej]at z;cases z
    rw[a2];exact ow j ds (a1▸ej)
   refine ht G (D::B) E4 F3 σ4 H2 _ b F5 I4 e5 λH5 k5 f5=>?_
   have kall:Kp (k9 K G) H1 H5:=(k2.trans (Kp.same s2)).trans k5
   have I5:SitE K G (D::B) E4 F5 σ4 H5:=I4.step k5 f5
   have hD5:H5 D=some (.lst acc):=k5 D _ (s2 D _ hD2) hfD
   have hd5:a6 K (hid H5 (D::B)) done acc:=(hd2.same ((Kp.same s2).hid (fp:=[]) (by simp))).same (k5.hid I4.fB)
   cases b with
   | false =>
    exact⟨hD5,hR _ _ _ ⟨E4,F5,done,rest,I5,hD5,kall,ow4,hd5,e3,ew,by omega⟩⟩
   | true =>
    obtain⟨⟨yd,F6⟩,e6,e3⟩:=bS9 e3
    obtain⟨⟨zs,F7⟩,e7,e3⟩:=bS9 e3
    cases e3
    refine he G (D::B) E4 F5 σ4 H5 _ yd F6 I5 e6 λv H6 k6 f6 h6=>?_
    have hD6:H6 D=some (.lst acc):=k6 D _ hD5 hfD
    have I6:SitE K G (D::B) E4 F6 σ4 H6:=I5.step k6 f6
    have hd6:=hd5.same (k6.hid I5.fB)
    have hlen:acc.length<sizeLine:=by rw[hd2.length];omega
    refine⟨hD6,hlen,hR _ _ _ ⟨E4,F6,done++[yd],zs,I6.wr hfD ow4 hD6,b9,λb o eb nb=>?_,ow4,?_,e7,by rw[ew];simp,by simp;omega⟩⟩
    .have:=k6 b o (kall b o eb nb) nb
     rw[a9];exact this
     intro z;subst z;rw[hD]at eb;cases eb
    .rw[W6 List.mem_cons_self]
     exact hd6.snoc h6
  .rintro σ' acc H' ⟨E',F3,done,rest,I2,hD2,k2,ow,hd2,e3,ew,hdi⟩
   rw[List.drop_length,Y5]at e3
   cases e3
   rw[List.append_nil]at ew
   subst ew
   refine q _ H' (k1.trans k2) I2.fd ?_
   refine a7.lst (by rw[e8 hBD];exact hD2) (hd2.same (J4 λb hb=>List.mem_cons_of_mem _ hb))
 .cases e
theorem tH {elt:Expr}{ifs:List Expr}{scope osc:Scope}{N:List Str}{k:Nat}{cap:List Nat}{wi:TI}{g:TG}{tt:TT}{mi:DE->M (List PyData)}{bd:PyData->DE->Option DE}{mt:DE->M Bool}{me:DE->M PyData}
  (hc:X.calm=true) (hosc:X.env.scope=osc) (hcap:Caps X.N osc N k cap scope) (hi:Eib K X tg iter wi mi)
  (hg:∀cl C ex pins s H,Eg K (cxC X N scope cl C ex pins s H) tg g bd)
  (ht:∀cl C ex pins s H,Ets K (cxC X N scope cl C ex pins s H) ifs tt mt)
  (he:∀cl C ex pins s H,Ev K (cxC X N scope cl C ex pins s H) elt te me)
  (hs:∀x,foldedSetIterable iter X.env x=pure x:=by intro _;rfl) :
  Ev K X (.ListComp elt [⟨tg,iter,ifs,0⟩] scope pos) (tLC wi k cap g tt te) (sLC mi k cap bd mt me) :=
 ⟨An hc hosc hcap hi.pi (λcl C ex pins s H=>(hg cl C ex pins s H).pg) (λcl C ex pins s H=>(ht cl C ex pins s H).pts) (λcl C ex pins s H=>(he cl C ex pins s H).pe) hs,
  AX hi.ok (hg [] 0 [] [] X.s₀ X.H₀).ok (ht [] 0 [] [] X.s₀ X.H₀).ok (he [] 0 [] [] X.s₀ X.H₀).ok⟩
end
end
section
section
variable [Feeds]
inductive Out where
 | nx (E:DE) | rt (d:PyData) | bk (E:DE) | ct (E:DE)
structure Sit (K:Fg) (G:GF) (B0:List Addr) (H0:Hp) (E:DE) (F:FS) (σ:St) (H:Hp):Prop where
 ex:∃B,(∀b∈B0,b∈B)/\(∀b∈B,b∈B0\/H0 b=none)/\SitE K G B E F σ H
 fB:∀b∈k9 K G,b∈B0
 kp:Kp (k9 K G) H0 H
 own:∀(i:Nat) (ds:List PyData) (a:Addr),E[i]? = some (some (DV.own ds))->σ[i]? = some (some (V.ref a))->H0 a=none/\a ∉ B0
 inj:∀(i j:Nat) (ds es:List PyData) (a:Addr),E[i]? = some (some (DV.own ds))->E[j]? = some (some (DV.own es))->σ[i]? = some (some (V.ref a))->σ[j]? = some (some (V.ref a))->i=j
def Ag (K:Fg)(G:GF)(B0:List Addr)(H0:Hp)(F:FS)(D:Ends):Out->Prop
 | .nx E=>∀σ H,Sit K G B0 H0 E F σ H->D.nx σ H
 | .bk E=>∀σ H,Sit K G B0 H0 E F σ H->D.bk σ H
 | .ct E=>∀σ H,Sit K G B0 H0 E F σ H->D.ct σ H
 | .rt d=>∀v H,Kp (k9 K G) H0 H->FAt K G H F->a7 K (hid H B0) d v->D.rt v H
def TSd (K:Fg)(ts:TS)(m:DE->M Out):Prop:=∀(G:GF) (B0:List Addr) (H0:Hp) (E:DE) (F:FS) (σ:St) (H:Hp) (D:Ends) (r:Out) (F':FS),Sit K G B0 H0 E F σ H->m E F=some (r,F')->Ag K G B0 H0 F' D r->ts D σ H
structure Ss (K:Fg) (X:Cx) (st:Stmt) (ts:TS) (m:DE->M Out):Prop where
 ps:PS X st ts
 ok:TSd K ts m
structure Sss (K:Fg) (X:Cx) (sts:List Stmt) (ts:TS) (m:DE->M Out):Prop where
 ps:PSs X sts ts
 ok:TSd K ts m
variable {K:Fg}{X:Cx}{a b c e tg iter:Expr}{es:List Expr}{st:Stmt}{sts rest:List Stmt}{ta tb te:TE}{ma mb m:DE->M PyData}{t u:TS}{mt mu:DE->M Out}{pos pos' p p2:Pos}
theorem Sit.step {G:GF}{B0:List Addr}{H0:Hp}{E:DE}{F F':FS}{σ:St}{H H':Hp}(S:Sit K G B0 H0 E F σ H)(k:Kp (k9 K G) H H')(f:FAt K G H' F'):Sit K G B0 H0 E F' σ H':=by
 obtain⟨B,s,sn,I⟩:=S.ex
 exact⟨⟨B,s,sn,I.step k f⟩,S.fB,S.kp.trans k,S.own,S.inj⟩
def mNx:DE->M Out:=λE F=>some (.nx E,F)
def mSq (a b:DE->M Out):DE->M Out:=λE F=>(a E F).bind λp=>match p.1 with
 | .nx E1=>b E1 p.2
 | o=>some (o,p.2)
theorem C4:Sss K X [] qP mNx:=⟨dY,λG B0 H0 E F σ H D r F' S e q=>by cases e;exact q σ H S⟩
theorem d5 (h1:Ss K X st t mt)(h2:Sss K X rest u mu):Sss K X (st::rest) (O9 t u) (mSq mt mu):=⟨i8 h1.ps h2.ps,λG B0 H0 E F σ H D r F' S e q=>by
 obtain⟨⟨o,F1⟩,e1,e⟩:=bS9 e
 refine h1.ok G B0 H0 E F σ H _ o F1 S e1 ?_
 cases o with
 | nx E1=>exact λσ' H' S'=>h2.ok G B0 H0 E1 F1 σ' H' D r F' S' e q
 | rt d=>cases e;exact q
 | bk E1=>cases e;exact q
 | ct E1=>cases e;exact q⟩
theorem i4 (h1:Ss K X st t mt):Sss K X [st] t mt:=⟨C0 h1.ps,h1.ok⟩
def mRt (a:DE->M PyData):DE->M Out:=λE F=>(a E F).bind λp=>some (.rt p.1,p.2)
theorem x8 (h:Ev K X e te m):Ss K X (.Return (some e) pos) (pV te) (mRt m):=⟨W2 h.pe,λG B0 H0 E F σ H D r F' S e q=>by
 obtain⟨⟨d,F1⟩,e1,e⟩:=bS9 e
 cases e
 obtain⟨B,s,sn,I⟩:=S.ex
 exact h.ok G B E F σ H _ d F1 I e1 λv H1 k1 f1 h1=>q v H1 (S.kp.trans k1) f1 (h1.same (J4 s))⟩
theorem vY (i:Nat){x:Str}(hN:X.N[i]? = some x:=by rfl)(hv:Vis X.env.scope x:=by first | exact Or.inl rfl | exact Or.inr (Or.inl rfl) | exact Or.inr (Or.inr rfl))(hd:(x == ("__debug__":Str))=false:=by decide)
  (hcd:(x == ("__classdict__":Str))=false:=by decide):Ss K X (.Return (some (.Name x p)) pos) (pV (l8 i)) (mRt (sW i)):=⟨W2 (D4 hN hv hd hcd),λG B0 H0 E F σ H D r F' S e q=>by
 obtain⟨⟨d,F1⟩,e1,e⟩:=bS9 e
 cases e
 obtain⟨B,s,sn,I⟩:=S.ex
 unfold sW at e1
 split at e1
 .rename_i x hx
  cases e1
  obtain⟨v,h1,h2⟩:=I.loc i _ hx
  exact⟨v,h1,q v H S.kp I.fd (a7.same h2 (J4 s))⟩
 .rename_i x hx
  cases e1
  obtain⟨v,h1,p,xs,rfl,hB,hf,hp,hd⟩:=I.loc i _ hx
  obtain⟨n1,n2⟩:=S.own i x p hx h1
  exact⟨_,h1,q _ H S.kp I.fd (a7.lst (by rw[e8 n2];exact hp) (hd.same (J4 s)))⟩
 .cases e1⟩
def u5 (i:Nat)(a:DE->M PyData):DE->M Out:=λE F=>(a E F).bind λp=>(bN i p.1 E).bind λE1=>some (.nx E1,p.2)
theorem Sit.bind {G:GF}{B0 B:List Addr}{H0:Hp}{E E':DE}{F F':FS}{σ σ':St}{H:Hp}(S:Sit K G B0 H0 E F σ H)(s:∀b∈B0,b∈B)(sn:∀b∈B,b∈B0\/H0 b=none)(I:SitE K G B E' F' σ' H)(fr:∀i:Nat,(∀y,E'[i]? ≠ some (some (.dat y)))->E'[i]? = E[i]? /\ σ'[i]? = σ[i]?):Sit K G B0 H0 E' F' σ' H:=by
 refine⟨⟨B,s,sn,I⟩,S.fB,S.kp,λi ds a ei si=>?_,λi j ds es a ei ej si sj=>?_⟩
 .obtain⟨a1,a2⟩:=fr i λy z=>by rw[ei]at z;cases z
  exact S.own i ds a (a1▸ei) (a2▸si)
 .obtain⟨a1,a2⟩:=fr i λy z=>by rw[ei]at z;cases z
  obtain⟨b1,b2⟩:=fr j λy z=>by rw[ej]at z;cases z
  exact S.inj i j ds es a (a1▸ei) (b1▸ej) (a2▸si) (b2▸sj)
theorem rS {g:TG}{bd:PyData->DE->Option DE}(he:TEd K te m)(hg:TGd K g bd):TSd K (L0 te g) (λE F=>(m E F).bind λp=>(bd p.1 E).bind λE1=>some (.nx E1,p.2)):=λG B0 H0 E F σ H D r F' S e q=>by
 obtain⟨⟨d,F1⟩,e1,e⟩:=bS9 e
 obtain⟨E1,e2,e⟩:=bS9 e
 cases e
 obtain⟨B,s,sn,I⟩:=S.ex
 refine he G B E F σ H _ d F1 I e1 λv H1 k1 f1 h1=>?_
 have S1:=S.step k1 f1
 exact hg G B E F1 σ H1 v d E1 _ (I.step k1 f1) h1 e2 λσ' I' fr=>q σ' H1 (S1.bind s sn I' fr)
theorem lB (i:Nat):TGd K (G7 i) (bN i):=λG B E F σ H x d E' Q I h e q=>by
 unfold bN at e
 split at e
 .rename_i hl
  cases e
  refine q _ (I.set h hl) λj hj=>?_
  by_cases hij:i=j
  .subst hij
   exact absurd (List.getElem?_set_self hl) (hj d)
  .rw[List.getElem?_set_ne hij,List.getElem?_set_ne hij]
   exact⟨rfl,rfl⟩
 .cases e
theorem n8 (i:Nat){x:Str}(hN:X.N.Nodup)(he:Ev K X e te m)(hi:X.N[i]? = some x:=by rfl)(hx:Loc X.env.scope x:=by first | exact Or.inl rfl | exact Or.inr rfl)(hs:swapsWith e (some (.Name x pos')) pos.line X.env=pure false:=by rfl)(hf:X.fn x=true\/X.env.scope.names.lookup x=some .local:=by first | exact .inl rfl | exact .inr rfl | assumption) :
  Ss K X (.Assign [.Name x pos'] e pos) (L0 te (G7 i)) (u5 i m):=⟨J7 hN hi hx he.pe hs hf,rS he.ok (lB i)⟩
def X7 (bd:PyData->DE->Option DE)(a:DE->M PyData):DE->M Out:=λE F=>(a E F).bind λp=>(bd p.1 E).bind λE1=>some (.nx E1,p.2)
theorem aT {g:TG}{bd:PyData->DE->Option DE}(he:Ev K X e te m)(hg:Eg K X tg g bd)(hs:swapsWithSole [tg] e pos.line X.env=pure false:=by rfl)(hw:swappedStores [tg] e X.env=pure none:=by rfl)
  (h1:(assignEach [tg] X.env).map (·.2)=[assign tg X.env]:=by rfl):Ss K X (.Assign [tg] e pos) (L0 te g) (X7 bd m):=⟨T7 he.pe hg.pg hs hw h1,rS he.ok hg.ok⟩
theorem jP (i:Nat){y:Str}{py:Pos}{elt:Expr}{ifs:List Expr}{scope osc:Scope}{N:List Str}{k:Nat}{cap:List Nat}{wi:TI}{g:TG}{tt:TT}{mi:DE->M (List PyData)}{bd:PyData->DE->Option DE}{mt:DE->M Bool}{me:DE->M PyData}
  (hN:X.N.Nodup) (hc:X.calm=true) (hosc:X.env.scope=osc) (hcap:Caps X.N osc N k cap scope) (hi:Eib K X tg iter wi mi)
  (hg:∀cl C ex pins s H,Eg K (cxC X N scope cl C ex pins s H) tg g bd)
  (ht:∀cl C ex pins s H,Ets K (cxC X N scope cl C ex pins s H) ifs tt mt)
  (he:∀cl C ex pins s H,Ev K (cxC X N scope cl C ex pins s H) elt te me)
  (hix:X.N[i]? = some y:=by rfl) (hLy:Loc X.env.scope y:=by first | exact Or.inl rfl | exact Or.inr rfl)
  (hs:∀x,foldedSetIterable iter X.env x=pure x:=by intro _;rfl) (hfy:X.fn y=true\/X.env.scope.names.lookup y=some .local:=by first | exact .inl rfl | exact .inr rfl | assumption)
  (hsw:swapsWith (.ListComp elt [⟨tg,iter,ifs,0⟩] scope p) (some (.Name y py)) pos.line X.env=pure true:=by rfl) :
  Ss K X (.Assign [.Name y py] (.ListComp elt [⟨tg,iter,ifs,0⟩] scope p) pos) (L0 (tLC wi k cap g tt te) (G7 i)) (u5 i (sLC mi k cap bd mt me)) :=
 ⟨sg hN hix hLy hc hosc hcap hi.pi (λcl C ex pins s H=>(hg cl C ex pins s H).pg) (λcl C ex pins s H=>(ht cl C ex pins s H).pts) (λcl C ex pins s H=>(he cl C ex pins s H).pe) hs hfy hsw,
  rS (AX hi.ok (hg [] 0 [] [] X.s₀ X.H₀).ok (ht [] 0 [] [] X.s₀ X.H₀).ok (he [] 0 [] [] X.s₀ X.H₀).ok) (lB i)⟩
def mIf (c:DE->M Bool)(a b:DE->M Out):DE->M Out:=λE F=>(c E F).bind λp=>if p.1=true then a E p.2 else b E p.2
theorem G4 {x y:List Stmt}{tt:TT}{mc:DE->M Bool}(hc:Et K X c tt mc)(ha:Sss K X x t mt)(hb:Sss K X y u mu):Ss K X (.If c x y pos) (kB tt t u) (mIf mc mt mu):=⟨fu hc.pt ha.ps hb.ps,λG B0 H0 E F σ H D r F' S e q=>by
 obtain⟨⟨d,F1⟩,e1,e⟩:=bS9 e
 obtain⟨B,s,sn,I⟩:=S.ex
 refine hc.ok G B E F σ H _ d F1 I e1 λH1 k1 f1=>?_
 cases d with
 | true=>exact ha.ok G B0 H0 E F1 σ H1 D r F' (S.step k1 f1) e q
 | false=>exact hb.ok G B0 H0 E F1 σ H1 D r F' (S.step k1 f1) e q⟩
end
end
section
section
variable [Feeds]{K:Fg}{X:Cx}{a b c e tg iter:Expr}{es:List Expr}{st:Stmt}{sts rest:List Stmt}{ta tb te:TE}{ma mb m:DE->M PyData}{t u:TS}{mt mu:DE->M Out}{pos pos' p p2:Pos}
def G8 (H:Hp)(B B0:List Addr):Hp:=hid H (B.filter λb=>decide (b ∉ B0))
theorem M9 {H:Hp}{B B0:List Addr}{b:Addr}(h1:b∈B)(h2:b ∉ B0):G8 H B B0 b=none:=v7 (List.mem_filter.mpr ⟨h1,by simpa using h2⟩)
theorem C5 {H:Hp}{B B0:List Addr}{b:Addr}(h:b ∉ B\/b∈B0):G8 H B B0 b=H b:=e8 λz=>by
 obtain⟨z1,z2⟩:=List.mem_filter.mp z
 rcases h with h | h
 .exact h z1
 .simp at z2;exact z2 h
section
variable {G:GF}{B0 B:List Addr}{H0:Hp}{E E2:DE}{F F2:FS}{σ σ2:St}{H H2:Hp}
theorem Sit.base (S:Sit K G B0 H0 E F σ H)(s:∀b∈B0,b∈B)(sn:∀b∈B,b∈B0\/H0 b=none)(I:SitE K G B E F σ H):Sit K G B0 (G8 H B B0) E F σ H:=by
 refine⟨⟨B,s,λb hb=>?_,I⟩,S.fB,Kp.same d0,λi ds a ei si=>?_,S.inj⟩
 .by_cases h:b∈B0
  .exact .inl h
  .exact .inr (M9 hb h)
 .obtain⟨v,v1,a',xs,rfl,hB,_⟩:=I.loc i _ ei
  rw[v1]at si;cases si
  exact⟨M9 hB (S.own i ds _ ei v1).2,(S.own i ds _ ei v1).2⟩
theorem rV (S:Sit K G B0 H0 E F σ H)(sn:∀b∈B,b∈B0\/H0 b=none)(k:Kp (k9 K G) (G8 H B B0) H2):Kp (k9 K G) H0 H2:=λb o e n=>by
 refine k b o ?_ n
 rw[C5]
 .exact S.kp b o e n
 .by_cases hb:b∈B
  .rcases sn b hb with h | h
   .exact .inr h
   .rw[h]at e;cases e
  .exact .inl hb
theorem Sit.unbase (S:Sit K G B0 H0 E F σ H)(sn:∀b∈B,b∈B0\/H0 b=none)(S2:Sit K G B0 (G8 H B B0) E2 F2 σ2 H2):Sit K G B0 H0 E2 F2 σ2 H2:=by
 have no:∀b,G8 H B B0 b=none->b∈B0\/H0 b=none:=λb e=>by
  by_cases hb:b∈B
  .exact sn b hb
  .rw[C5 (.inl hb)]at e
   by_cases hf:b∈k9 K G
   .exact .inl (S.fB b hf)
   .cases q:H0 b with
    | none=>exact .inr rfl
    | some o=>rw[S.kp b o q hf]at e;cases e
 obtain⟨B2,s2,sn2,I2⟩:=S2.ex
 refine⟨⟨B2,s2,λb hb=>?_,I2⟩,S.fB,rV S sn S2.kp,λi ds a ei si=>?_,S2.inj⟩
 .rcases sn2 b hb with h | h
  .exact .inl h
  .exact no b h
 .obtain⟨h1,h2⟩:=S2.own i ds a ei si
  exact⟨(no a h1).resolve_left h2,h2⟩
end
def G1 (bd:PyData->DE->Option DE)(body:DE->M Out):List PyData->DE->M Out
 | [],E,F=>some (.nx E,F)
 | d::r,E,F=>(bd d E).bind λE1=>(body E1 F).bind λp=>match p.1 with
  | .nx E2=>G1 bd body r E2 p.2
  | .ct E2=>G1 bd body r E2 p.2
  | .bk E2=>some (.nx E2,p.2)
  | .rt d=>some (.rt d,p.2)
def Z0 (mi:DE->M (List PyData))(bd:PyData->DE->Option DE)(body:DE->M Out):DE->M Out:=λE F=>(mi E F).bind λp=>G1 bd body p.1 E p.2
theorem AY {wi:TI}{g:TG}{tb:TS}{mi:DE->M (List PyData)}{bd:PyData->DE->Option DE}{mb:DE->M Out}(hi:TId K wi mi)(hg:TGd K g bd)(hb:TSd K tb mb):TSd K (qh wi g tb) (Z0 mi bd mb):=λG B0 H0 E F σ H D r F' S e q=>by
 obtain⟨⟨items,F1⟩,e1,e⟩:=bS9 e
 obtain⟨B,s,sn,I⟩:=S.ex
 refine hi G B E F σ H _ items F1 I e1 λJ H1 k1 f1 ok=>?_
 have S1:=S.step k1 f1
 have I1:=I.step k1 f1
 have S1':=S1.base s sn I1
 have qn:∀{E2:DE} {F2:FS},r = .nx E2->F'=F2->∀σ2 H2,Sit K G B0 (G8 H1 B B0) E2 F2 σ2 H2->D.nx σ2 H2:=λ{E2 F2} er ef σ2 H2 S2=>by
  subst er ef
  exact q σ2 H2 (S1.unbase sn S2)
 have stab:∀{E2:DE} {F2:FS} {σ2:St} {H2:Hp} {B2:List Addr},Sit K G B0 (G8 H1 B B0) E2 F2 σ2 H2->(∀b∈B2,b∈B0\/G8 H1 B B0 b=none)->d8 (hid H1 B) (hid H2 B2):=λ{E2 F2 σ2 H2 B2} S2 sn2 b o eb=>by
  by_cases hB:b∈B
  .rw[v7 hB]at eb;cases eb
  .rw[e8 hB]at eb
   have ec:G8 H1 B B0 b=some o:=by rw[C5 (.inl hB)];exact eb
   rw[e8 λz=>(sn2 b z).elim (λh=>hB (s b h)) λh=>by rw[h]at ec;cases ec]
   exact S2.kp b o ec λz=>hB (s b (S.fB b z))
 refine⟨λi m σ H=>m=items.length-i/\i<=items.length/\∃E F,Sit K G B0 (G8 H1 B B0) E F σ H/\G1 bd mb (items.drop i) E F=some (r,F'),⟨items.length,by simp,Nat.zero_le _,E,F1,S1',e⟩,?_⟩
 rintro i mm σ2 H2 ⟨rfl,hi2,E2,F2,S2,e2⟩
 obtain⟨B2,s2,sn2,I2⟩:=S2.ex
 have st2:=stab S2 sn2
 by_cases hlt:i<items.length
 .refine .inr ⟨((ok H2 B2 st2).1 i items[i] (by simp[hlt])).1,λσ' H'=>i+1<=items.length/\∃E F,Sit K G B0 (G8 H1 B B0) E F σ' H'/\G1 bd mb (items.drop (i+1)) E F=some (r,F'),λσ' H' ⟨h1,h2⟩=>⟨items.length-(i+1),by omega,rfl,h1,h2⟩,λx H3 y=>?_⟩
  obtain⟨s3,hx⟩:=((ok H2 B2 st2).1 i items[i] (by simp[hlt])).2 x H3 y
  have hx:=hx I2.bk
  rw[List.drop_eq_getElem_cons hlt,G1]at e2
  obtain⟨E4,e4,e2⟩:=bS9 e2
  obtain⟨⟨o,F5⟩,e5,e2⟩:=bS9 e2
  have S3:=S2.step (Kp.same s3) (I2.fd.same s3)
  have I3:SitE K G B2 E2 F2 σ2 H3:=I2.step (Kp.same s3) (I2.fd.same s3)
  refine hg G B2 E2 F2 σ2 H3 x items[i] E4 _ I3 hx e4 λσ4 I4 fr=>?_
  refine hb G B0 (G8 H1 B B0) E4 F2 σ4 H3 _ o F5 (S3.bind s2 sn2 I4 fr) e5 ?_
  cases o with
  | nx E6=>exact λσ6 H6 S6=>⟨hlt,E6,F5,S6,e2⟩
  | ct E6=>exact λσ6 H6 S6=>⟨hlt,E6,F5,S6,e2⟩
  | bk E6=>cases e2;exact λσ6 H6 S6=>qn rfl rfl σ6 H6 S6
  | rt d=>cases e2;exact λv H6 k6 f6 h6=>q v H6 (rV S1 sn k6) f6 h6
 .have ei:i=items.length:=by omega
  subst ei
  rw[List.drop_length,G1]at e2
  cases e2
  exact .inl ⟨(ok H2 B2 st2).2,qn rfl rfl σ2 H2 S2⟩
theorem T8 {body:List Stmt}{wi:TI}{g:TG}{tb:TS}{mi:DE->M (List PyData)}{bd:PyData->DE->Option DE}{mb:DE->M Out}(hc:X.calm=true)(hi:Ei K X tg iter wi mi)(hg:Eg K X tg g bd)(hb:Sss K X body tb mb)(hp:PassesOwn (model X.prog X.w) X.A X.env X.xe:=by exact PassesOwn.never)
  (hs:∀x,foldedSetIterable iter X.env x=pure x:=by intro _;rfl):Ss K X (.For tg iter body [] pos) (qh wi g tb) (Z0 mi bd mb):=⟨mC hp hc hi.pi hg.pg hb.ps hs,AY hi.ok hg.ok hb.ok⟩
theorem uO:Ss K X (.Continue pos) xa (λE F=>some (.ct E,F)):=⟨jI,λG B0 H0 E F σ H D r F' S e q=>by cases e;exact q σ H S⟩
def TFd (K:Fg)(te:TE)(m:DE->M (List PyData)):Prop:=∀(G:GF) (B:List Addr) (E:DE) (F:FS) (σ:St) (H:Hp) (Q:VK) (ds:List PyData) (F':FS),SitE K G B E F σ H->m E F=some (ds,F') ->
 (∀a vs H',H a=none->H' a=some (.lst vs)->Kp (k9 K G) H H'->FAt K G H' F'->a6 K (hid H' (a::B)) ds vs->Q (.ref a) H')->te σ H Q
structure Ef (K:Fg) (X:Cx) (e:Expr) (te:TE) (m:DE->M (List PyData)):Prop where
 pe:PE X e te
 ok:TFd K te m
theorem Kp.none {fp:List Addr}{H H':Hp}{b:Addr}(k:Kp fp H H')(h:H' b=none)(n:b ∉ fp):H b=none:=by
 cases q:H b with
 | none=>rfl
 | some o=>rw[k b o q n]at h;cases h
theorem tK {H:Hp}{B:List Addr}{p:Addr}{o:HO}(hp:H p=none):d8 (hid H B) (hid (upd H p o) (p::B)):=λb u e=>by
 by_cases hb:b∈B
 .rw[v7 hb]at e;cases e
 .rw[e8 hb]at e
  have hne:=d6 e hp
  rw[e8 (by simp[hne,hb]),a9 hne];exact e
def Y9 (a:DE->M (List PyData)):DE->M (List PyData):=λE F=>(a E F).bind λp=>if p.1.length<=sizeLine then some (p.1,p.2) else none
theorem Q0 {t:TA}{ms:DE->M (List PyData)}(h:Ea K X es t ms):Ef K X (.List es pos) (ax t) (Y9 ms):=⟨L6 h.pa,λG B E F σ H Q d F' I e q=>by
 obtain⟨⟨x,F1⟩,e1,e⟩:=bS9 e
 split at e
 .rename_i hl
  cases e
  refine h.ok G B E F σ H _ x F1 I e1 λvs H1 k1 f1 h1=>⟨by rw[h1.length];exact hl,λp hp=>?_⟩
  have hnf:p ∉ k9 K G:=λz=>(w6 I.bk k1 f1).nin hp (I.fB p z)
  exact q p vs _ (k1.none hp hnf) b9 (k1.trans (Kp.upd hp)) (f1.same (d8.upd hp)) (h1.same (tK hp))
 .cases e⟩
def cc (i:Nat)(a:DE->M (List PyData)):DE->M Out:=λE F=>(a E F).bind λp=>if i<E.length then some (.nx (E.set i (some (.own p.1))),p.2) else none
theorem zW {i:Nat}{mf:DE->M (List PyData)}(he:TFd K te mf):TSd K (L0 te (G7 i)) (cc i mf):=λG B0 H0 E F σ H D r F' S e q=>by
 obtain⟨⟨ds,F1⟩,e1,e⟩:=bS9 e
 split at e
 .rename_i hl
  cases e
  obtain⟨B,s,sn,I⟩:=S.ex
  refine he G B E F σ H _ ds _ I e1 λa vs H1 hn ha k1 f1 h1=>?_
  have I1:=I.step k1 f1
  have hsl:i < σ.length:=by rw[<-I.ln];exact hl
  have haB:a ∉ B:=I.bk.nin hn
  have haf:a ∉ k9 K G:=λz=>haB (I.fB a z)
  have h0:H0 a=none:=S.kp.none hn haf
  have sm:d8 (hid H B) (hid H1 (a::B)):=λb o eb=>by
   by_cases hb:b∈B
   .rw[v7 hb]at eb;cases eb
   .rw[e8 hb]at eb
    have hne:=d6 eb hn
    rw[e8 (by simp[hne,hb])]
    exact k1 b o eb λz=>hb (I.fB b z)
  refine q _ H1 ⟨⟨a::B,λb hb=>List.mem_cons_of_mem _ (s b hb),λb hb=>?_,⟨f1,λb hb=>List.mem_cons_of_mem _ (I.fB b hb),λb hb=>?_,by rw[List.length_set,List.length_set];exact I.ln,λj x ej=>?_⟩⟩,S.fB,S.kp.trans k1,λj es a' ej sj=>?_,λj k es es' a' ej ek sj sk=>?_⟩
  .rcases List.mem_cons.mp hb with rfl | hb
   .exact .inr h0
   .exact sn b hb
  .rcases List.mem_cons.mp hb with rfl | hb
   .exact⟨_,ha⟩
   .exact I1.bk b hb
  .by_cases hj:i=j
   .subst hj
    rw[List.getElem?_set_self hl]at ej
    cases ej
    exact⟨.ref a,by rw[List.getElem?_set_self hsl],a,vs,rfl,List.mem_cons_self,haf,ha,h1⟩
   .rw[List.getElem?_set_ne hj]at ej
    obtain⟨v,v1,v2⟩:=I.loc j x ej
    refine⟨v,by rw[List.getElem?_set_ne hj];exact v1,?_⟩
    cases x with
    | dat d=>exact a7.same (show a7 K (hid H B) d v from v2) sm
    | feed=>exact v2
    | fn _=>exact v2
    | adr _=>exact v2
    | own es =>
     obtain⟨a',xs',rfl,hB',hf',ha',hd'⟩:=v2
     exact⟨a',xs',rfl,List.mem_cons_of_mem _ hB',hf',k1 _ _ ha' hf',hd'.same sm⟩
  .by_cases hj:i=j
   .subst hj
    rw[List.getElem?_set_self hsl]at sj
    cases sj
    exact⟨h0,λz=>haB (s a z)⟩
   .rw[List.getElem?_set_ne hj]at ej sj
    exact S.own j es a' ej sj
  .have other:∀(j:Nat) (es:List PyData),i≠j->E[j]? = some (some (DV.own es))->σ[j]? ≠ some (some (V.ref a)):=λj es _ ej z=>by
    obtain⟨v,v1,a',xs',rfl,hB',_⟩:=I.loc j _ ej
    rw[v1]at z;cases z
    exact haB hB'
   by_cases hj:i=j
   .by_cases hk:i=k
    .exact hj.symm.trans hk
    .subst hj
     rw[List.getElem?_set_self hsl]at sj
     cases sj
     rw[List.getElem?_set_ne hk]at ek sk
     exact absurd sk (other k es' hk ek)
   .rw[List.getElem?_set_ne hj]at ej sj
    by_cases hk:i=k
    .subst hk
     rw[List.getElem?_set_self hsl]at sk
     cases sk
     exact absurd sj (other j es hj ej)
    .rw[List.getElem?_set_ne hk]at ek sk
     exact S.inj j k es es' a' ej ek sj sk
 .cases e
theorem bq (i:Nat){x:Str}{mf:DE->M (List PyData)}(hN:X.N.Nodup)(he:Ef K X e te mf)(hi:X.N[i]? = some x:=by rfl)(hx:Loc X.env.scope x:=by first | exact Or.inl rfl | exact Or.inr rfl)(hs:swapsWith e (some (.Name x pos')) pos.line X.env=pure false:=by rfl)(hf:X.fn x=true\/X.env.scope.names.lookup x=some .local:=by first | exact .inl rfl | exact .inr rfl | assumption) :
  Ss K X (.Assign [.Name x pos'] e pos) (L0 te (G7 i)) (cc i mf):=⟨J7 hN hi hx he.pe hs hf,zW he.ok⟩
end
end
section
section
variable [Feeds]{K:Fg}{X:Cx}{a b c e tg iter:Expr}{es:List Expr}{st:Stmt}{sts rest:List Stmt}{ta tb te:TE}{ma mb m:DE->M PyData}{t u:TS}{mt mu:DE->M Out}{pos pos' p p2:Pos}
section
variable {G:GF}{B0 B:List Addr}{H0:Hp}{E:DE}{F:FS}{σ:St}{H:Hp}
theorem Sit.write {i:Nat}{ds ds':List PyData}{x:Addr}{vs':List V}(S:Sit K G B0 H0 E F σ H)(s:∀b∈B0,b∈B)(sn:∀b∈B,b∈B0\/H0 b=none)(I:SitE K G B E F σ H)(ei:E[i]? = some (some (DV.own ds)))(si:σ[i]? = some (some (V.ref x)))
  (hd:a6 K (hid H B) ds' vs'):Sit K G B0 H0 (E.set i (some (.own ds'))) F σ (upd H x (.lst vs')):=by
 have hl:i<E.length:=(List.getElem?_eq_some_iff.mp ei).1
 obtain⟨v,v1,x',xs,rfl,hB,hf,hx,_⟩:=I.loc i _ ei
 rw[si]at v1;cases v1
 have e1:hid (upd H x (.lst vs')) B=hid H B:=W6 hB
 obtain⟨n1,n2⟩:=S.own i ds x ei si
 refine⟨⟨B,s,sn,⟨I.fd.congr λb hb=>a9 (λz=>hb.elim (λhb=>hf (z▸hb)) λ⟨φ,q⟩=>by rw[z,hx]at q;cases q),I.fB,λb hb=>?_,by rw[List.length_set];exact I.ln,λj y ej=>?_⟩⟩,S.fB,λb o eb nb=>?_,λj es a' ej sj=>?_,λj k es es' a' ej ek sj sk=>?_⟩
 .by_cases h:b=x
  .subst h;exact⟨_,b9⟩
  .rw[a9 h];exact I.bk b hb
 .by_cases hj:i=j
  .subst hj
   rw[List.getElem?_set_self hl]at ej
   cases ej
   exact⟨.ref x,si,x,vs',rfl,hB,hf,b9,by rw[e1];exact hd⟩
  .rw[List.getElem?_set_ne hj]at ej
   obtain⟨w,w1,w2⟩:=I.loc j y ej
   refine⟨w,w1,?_⟩
   cases y with
   | dat d=>show a7 K (hid (upd H x (.lst vs')) B) d w;rw[e1];exact w2
   | feed=>exact w2
   | fn _=>exact w2
   | adr _=>exact w2
   | own es =>
    obtain⟨a',xs',rfl,hB',hf',ha',hd'⟩:=w2
    have hne:a'≠x:=λz=>hj (S.inj i j ds es x ei ej si (z▸w1))
    exact⟨a',xs',rfl,hB',hf',by rw[a9 hne];exact ha',by rw[e1];exact hd'⟩
 .rw[a9]
  .exact S.kp b o eb nb
  .intro z;subst z;rw[n1]at eb;cases eb
 .by_cases hj:i=j
  .subst hj
   exact S.own i ds a' ei sj
  .rw[List.getElem?_set_ne hj]at ej
   exact S.own j es a' ej sj
 .have back:∀(j:Nat) (es:List PyData),(E.set i (some (.own ds')))[j]? = some (some (DV.own es))->∃es,E[j]? = some (some (DV.own es)):=λj es ej=>by
   by_cases hj:i=j
   .subst hj;exact⟨ds,ei⟩
   .rw[List.getElem?_set_ne hj]at ej;exact⟨es,ej⟩
  obtain⟨f1,ej'⟩:=back j es ej
  obtain⟨f2,ek'⟩:=back k es' ek
  exact S.inj j k f1 f2 a' ej' ek' sj sk
end
def jM (E:DE)(i:Nat):Option (List PyData):=match E[i]? with
 | some (some (.own ds))=>some ds
 | _=>none
theorem fD {E:DE}{i:Nat}{ds:List PyData}(h:jM E i=some ds):E[i]? = some (some (DV.own ds)):=by
 unfold jM at h
 split at h
 .rename_i q;cases h;exact q
 .cases h
def O2 (i:Nat)(v:DE->M PyData):DE->M Out:=λE F=>(v E F).bind λp=>(jM E i).bind λds=>if ds.length<sizeLine then some (.nx (E.set i (some (.own (ds++[p.1])))),p.2) else none
theorem Ah {i:Nat}(hv:TEd K te m):TSd K (aC (tBM K "list" N3 (l8 i) (q4 te C8))) (O2 i m):=λG B0 H0 E F σ H D r F' S e q=>by
 obtain⟨⟨d,F1⟩,e1,e⟩:=bS9 e
 obtain⟨ds,e4,e⟩:=bS9 e
 split at e
 .rename_i hl
  cases e
  obtain⟨B,s,sn,I⟩:=S.ex
  have eo:=fD e4
  obtain⟨w,w1,a,xs,rfl,hB,hf,hx,hdx⟩:=I.loc i _ eo
  refine⟨_,w1,.inl ⟨rfl,xs,SqL.of hx⟩,hv G B E F σ H _ d _ I e1 λu H2 k2 f2 h2=>?_⟩
  have hd2:=hdx.same (k2.hid I.fB)
  exact⟨a,xs,u,rfl,rfl,k2 a _ hx hf,by rw[hdx.length];exact hl,q σ _ ((S.step k2 f2).write s sn (I.step k2 f2) eo w1 (hd2.snoc h2))⟩
 .cases e
def dU (K:Fg)(G:GF)(B:List Addr)(H:Hp):List DV->List V->Prop
 | [],vs=>vs=[]
 | x::xs,vs=>∃v r,vs=v::r/\(∀ds,x ≠ .own ds)/\DVr K G B H x v/\dU K G B H xs r
def spD (K:Fg)(n:Nat)(f:List DV->M PyData):Sp:=λvs H Q _=>∃G B F args d F',vs.length=n/\(∀b∈k9 K G,b∈B)/\BOk H B/\FAt K G H F/\dU K G B H args vs/\f args F=some (d,F') /\
 ∀v H',Kp (k9 K G) H H'->FAt K G H' F'->a7 K (hid H' B) d v->Q v H'
def u6 (N:List Str)(args:List DV):DE:=args.map some++List.replicate (N.length-args.length) none
def Y4 (N:List Str)(m:DE->M Out):List DV->M PyData:=λargs F=>(m (u6 N args) F).bind λp=>match p.1 with
 | .rt d=>some (d,p.2)
 | .nx _=>some (.none,p.2)
 | _=>none
theorem dU.length {G:GF}{B:List Addr}{H:Hp}:∀{args:List DV} {vs:List V},dU K G B H args vs->vs.length=args.length
 | [],vs,h=>by cases h;rfl
 | x::xs,vs,⟨v,r,e,_,_,h⟩=>by subst e;rw[List.length_cons,List.length_cons,h.length]
theorem dU.get {G:GF}{B:List Addr}{H:Hp}:∀{args:List DV} {vs:List V} {i:Nat} {x:DV},dU K G B H args vs->args[i]? = some x->∃v,vs[i]? = some v/\(∀ds,x ≠ .own ds)/\DVr K G B H x v
 | [],vs,i,x,h,e=>by simp at e
 | y::xs,vs,i,x,⟨v,r,e1,h1,h2,h3⟩,e=>by
  subst e1
  cases i with
  | zero=>simp at e;subst e;exact⟨v,rfl,h1,h2⟩
  | succ i=>simpa using h3.get (i:=i) (by simpa using e)
theorem cQ {N:List Str}{args:List DV}{i:Nat}{x:DV}(h:(u6 N args)[i]? = some (some x)):args[i]? = some x:=by
 unfold u6 at h
 by_cases hi:i<args.length
 .rw[List.getElem?_append_left (by simpa using hi),List.getElem?_map]at h
  obtain⟨y,e1,e2⟩:=Option.map_eq_some_iff.mp h
  cases e2;exact e1
 .rw[List.getElem?_append_right (by simpa using hi),List.getElem?_replicate]at h
  split at h <;> simp at h
theorem cN {G:GF}{B:List Addr}{F:FS}{H:Hp}{N:List Str}{args:List DV}{vs:List V}(fB:∀b∈k9 K G,b∈B)(bk:BOk H B)(f:FAt K G H F)(h:dU K G B H args vs):Sit K G B H (u6 N args) F (L2.B5 N vs) H:=by
 have noown:∀(i:Nat) (ds:List PyData),(u6 N args)[i]? ≠ some (some (DV.own ds)):=λi ds e=>by
  obtain⟨v,_,n,_⟩:=h.get (cQ e)
  exact n ds rfl
 refine⟨⟨B,λ_ z=>z,λb hb=>.inl hb,⟨f,fB,bk,by simp[u6,L2.B5,h.length],λi x e=>?_⟩⟩,fB,Kp.refl,λi ds a e _=>absurd e (noown i ds),λi j ds es a e _ _ _=>absurd e (noown i ds)⟩
 obtain⟨v,v1,_,v2⟩:=h.get (cQ e)
 refine⟨v,?_,v2⟩
 have hi:i<vs.length:=(List.getElem?_eq_some_iff.mp v1).1
 unfold L2.B5
 rw[List.getElem?_append_left (by simpa using hi),List.getElem?_map,v1]
 rfl
variable {P:Program}{w:World}{mg:Str->Option Value}{base:Heap}
theorem Q8 {x qual:Str}{f:Addr}{fd:FuncData}{N ps:List Str}{k:Nat}{m:DE->M Out}(Fn:Fun K x qual st f fd)(S:FnScope N ps (defScope st))
  (hbody:∀(cdv:Value) (A:Around) (outer:List Env) (s:Shared) (H:Hp) (E:XK),Room k (A.deeper (envOfC qual (defScope st) s.heap.objs.size f cdv)) ->
   ∃ts,Sss K (M5 CX0 P w K mg base N qual (defScope st) f cdv A outer s H E).nox (defBody st) ts m):FnOk P w K mg base CX0 (k+1) f fd ps (spD K ps.length (Y4 N m)):=by
 refine Fn.ok S (λvs H Q E h=>?_) (λcdv A outer s H vs Q E hr h=>?_)
 .obtain⟨G,B,F,args,d,F',hl,_⟩:=h
  exact hl
 .obtain⟨G,B,F,args,d,F',hl,fB,bk,fa,ha,hm,q⟩:=h
  obtain⟨ts,hts⟩:=hbody cdv A outer s H E hr
  refine⟨ts,hts.ps,?_⟩
  obtain⟨⟨o,F1⟩,e1,e⟩:=bS9 hm
  refine hts.ok G B H (u6 N args) F (L2.B5 N vs) H _ o F1 (cN fB bk fa ha) e1 ?_
  cases o with
  | rt d'=>cases e;exact λv H' k1 f1 h1=>q v H' k1 f1 h1
  | nx E'=>cases e;exact λσ' H' S'=>q _ H' S'.kp (by obtain⟨B,_,_,I⟩:=S'.ex;exact I.fd) a7.non
  | bk E'=>cases e
  | ct E'=>cases e
def TVd (K:Fg)(ta:TA)(m:DE->M (List DV)):Prop:=∀(G:GF) (B:List Addr) (E:DE) (F:FS) (σ:St) (H:Hp) (Q:List V->Hp->Prop) (ds:List DV) (F':FS),SitE K G B E F σ H->m E F=some (ds,F') ->
 (∀vs H',Kp (k9 K G) H H'->FAt K G H' F'->dU K G B H' ds vs->Q vs H')->ta σ H Q
structure Evs (K:Fg) (X:Cx) (es:List Expr) (ta:TA) (m:DE->M (List DV)):Prop where
 pa:PA X es ta
 ok:TVd K ta m
def D2:DE->M (List DV):=λ_ F=>some ([],F)
def vD (a:DE->M PyData)(r:DE->M (List DV)):DE->M (List DV):=λE F=>(a E F).bind λp=>(r E p.2).bind λq=>some (.dat p.1::q.1,q.2)
def vF (i:Nat)(r:DE->M (List DV)):DE->M (List DV):=λE F=>match E[i]? with
 | some (some .feed)=>(r E F).bind λq=>some (.feed::q.1,q.2)
 | _=>none
theorem l9:Evs K X [] C8 D2:=⟨j6,λG B E F σ H Q ds F' I e q=>by cases e;exact q [] H Kp.refl I.fd rfl⟩
theorem x6 {tl:TA}{ms:DE->M (List DV)}(ha:Ev K X e te m)(hr:Evs K X es tl ms)(hs:starEach (e::es) X.env=(false,eval e X.env)::starEach es X.env:=by rfl):Evs K X (e::es) (q4 te tl) (vD m ms) :=
 ⟨h9 ha.pe hr.pa hs,λG B E F σ H Q ds F' I e q=>by
  obtain⟨⟨x,F1⟩,e1,e⟩:=bS9 e
  obtain⟨⟨ys,F2⟩,e2,e⟩:=bS9 e
  cases e
  refine ha.ok G B E F σ H _ x F1 I e1 λv H1 k1 f1 h1=>?_
  refine hr.ok G B E F1 σ H1 _ ys _ (I.step k1 f1) e2 λvs H2 k2 f2 h2=>q _ H2 (k1.trans k2) f2 ⟨v,vs,rfl,(λ_ z=>by cases z),h1.same (k2.hid I.fB),h2⟩⟩
theorem X5 (i:Nat){x:Str}{tl:TA}{ms:DE->M (List DV)}(hr:Evs K X es tl ms)(hN:X.N[i]? = some x:=by rfl)(hv:Vis X.env.scope x:=by first | exact Or.inl rfl | exact Or.inr (Or.inl rfl) | exact Or.inr (Or.inr rfl))(hd:(x == ("__debug__":Str))=false:=by decide)
  (hcd:(x == ("__classdict__":Str))=false:=by decide) (hs:starEach (.Name x p::es) X.env=(false,eval (.Name x p) X.env)::starEach es X.env:=by rfl):Evs K X (.Name x p::es) (q4 (l8 i) tl) (vF i ms) :=
 ⟨h9 (D4 hN hv hd hcd) hr.pa hs,λG B E F σ H Q ds F' I e q=>by
  unfold vF at e
  split at e
  .rename_i hx
   obtain⟨⟨ys,F2⟩,e2,e⟩:=bS9 e
   cases e
   obtain⟨v,v1,v2⟩:=I.loc i _ hx
   refine⟨v,v1,hr.ok G B E F σ H _ ys _ I e2 λvs H2 k2 f2 h2=>q _ H2 k2 f2 ⟨v,vs,rfl,(λ_ z=>by cases z),v2.step k2 I.fB,h2⟩⟩
  .cases e⟩
def p8 (f:List DV->M PyData)(ms:DE->M (List DV)):DE->M PyData:=λE F=>(ms E F).bind λp=>f p.1 p.2
theorem yZ {n:Nat}{f:List DV->M PyData}{ta:TA}{ms:DE->M (List DV)}(h:TVd K ta ms)(hn:∀E F args F',ms E F=some (args,F')->args.length=n):TEd K (Y0 (spD K n f) [] E0 ta) (p8 f ms):=λG B E F σ H Q d F' I e q=>by
 obtain⟨⟨args,F1⟩,e1,e⟩:=bS9 e
 refine h G B E F σ H _ args F1 I e1 λvs H1 k1 f1 h1=>?_
 rw[List.append_nil]
 exact⟨G,B,F1,args,d,F',by rw[h1.length];exact hn _ _ _ _ e1,I.fB,w6 I.bk k1 f1,f1,h1,e,λv H2 k2 f2 h2=>q v H2 (k1.trans k2) f2 h2⟩
theorem n9:∀E F args F',D2 E F=some (args,F')->args.length=0:=λE F args F' e=>by cases e;rfl
theorem x4 {n:Nat}{ms:DE->M (List DV)}(h:∀E F args F',ms E F=some (args,F')->args.length=n):∀E F args F',vD m ms E F=some (args,F')->args.length=n+1:=λE F args F' e=>by
 obtain⟨⟨x,F1⟩,e1,e⟩:=bS9 e
 obtain⟨⟨ys,F2⟩,e2,e⟩:=bS9 e
 cases e
 rw[List.length_cons,h _ _ _ _ e2]
theorem X4 {n i:Nat}{ms:DE->M (List DV)}(h:∀E F args F',ms E F=some (args,F')->args.length=n):∀E F args F',vF i ms E F=some (args,F')->args.length=n+1:=λE F args F' e=>by
 unfold vF at e
 split at e
 .obtain⟨⟨ys,F2⟩,e2,e⟩:=bS9 e
  cases e
  rw[List.length_cons,h _ _ _ _ e2]
 .cases e
theorem j4 {x:Str}{k n:Nat}{ps:List Str}{f:List DV->M PyData}{tl:TA}{ms:DE->M (List DV)}(C:Callee X.prog X.w X.K X.mg X.base x k ps (spD K n f))(hr:Room k X.A)(ha:Evs K X (e::es) tl ms)(hn:∀E F args F',ms E F=some (args,F')->args.length=n)(hg:Gl X x:=by rfl)
  (hdb:(x == ("__debug__":Str))=false:=by decide) (he:starEach (e::es) X.env=(false,eval e X.env)::starEach es X.env:=by rfl) (hpl:(backTo pos (starEach es X.env)).any (·.1)=false:=by rfl) :
  Ev K X (.Call (.Name x p) (e::es) [] pos) (Y0 (spD K n f) [] E0 tl) (p8 f ms):=⟨V1 C hr hg ha.pa hdb he hpl,yZ ha.ok hn⟩
end
end
section
theorem K2 (a b:Str):((Sum.inr a:Key)=Sum.inr b)=(a=b):=by
 apply propext;constructor
 .intro h;injection h
 .intro h;rw[h]
section
variable {H:Hp}{d c:Addr}{a l t:Int}
end
structure FdS where
 ns:List Int
 a:Int
 l:Int
 t:Int
class Fam where
 At:Addr->Addr->Hp->FdS->Prop
 some1:∀{d c H F},At d c H F->∃o,H d=some o/\NoT o
 some2:∀{d c H F},At d c H F->∃o,H c=some o/\NoT o
 congr:∀{d c H H' F},At d c H F->H' d=H d->H' c=H c->At d c H' F
 lam:List Str
 drawF:Int->FdS->Option (Int×FdS)
 draw_some:∀{m:Int} {F:FdS},0<m->m<1073741824->F.t<199999->∃r F',drawF m F=some (r,F')/\0<=r/\r<m/\F'.t=F.t+1
instance fdI [Fam]:Feeds where
 S:=FdS
 At:=Fam.At
 some1:=Fam.some1
 some2:=Fam.some2
 congr:=Fam.congr
 lam:=Fam.lam
def FdS.cell (F:FdS):Int:=if F.ns=[] then 11 else(F.ns[(F.a % (F.ns.length:Int)).toNat]?).getD 0
def drawS [Fam]:List DV->M PyData
 | [.feed,.dat (.int m)]=>λF=>(Fam.drawF m F).bind λp=>some (.int p.1,p.2)
 | _=>λ_=>none
theorem lN {x m:Int}(h:0<m):0<=x % m/\x % m<m:=⟨Int.emod_nonneg _ (by omega),Int.emod_lt_of_pos _ h⟩
theorem vL {F:FdS}(h0:¬F.ns=[]):atI (F.ns.map V.int) (F.a % ((F.ns.map V.int).length:Int))=some (.int F.cell):=by
 have hp:0<F.ns.length:=List.length_pos_iff.mpr h0
 rw[List.length_map]
 obtain⟨q1,q2⟩:=lN (x:=F.a) (m:=(F.ns.length:Int)) (by omega)
 obtain⟨j,hj⟩:∃j:Nat,F.a % (F.ns.length:Int)=j:=⟨(F.a % (F.ns.length:Int)).toNat,by omega⟩
 have hjl:j<F.ns.length:=by omega
 unfold FdS.cell
 rw[if_neg h0,hj]
 refine bE ?_
 rw[List.getElem?_map]
 simp[hjl]
def FdS.cellL (F:FdS):Int:=if F.ns=[] then 0 else(F.ns[(F.a % (F.ns.length:Int)).toNat]?).getD 0
theorem qK {F:FdS}(h0:¬F.ns=[]):atI (F.ns.map V.int) (F.a % ((F.ns.map V.int).length:Int))=some (.int F.cellL):=by
 have e:F.cellL=F.cell:=by unfold FdS.cellL FdS.cell;rw[if_neg h0,if_neg h0]
 rw[e]
 exact vL h0
def eQ (ns:List Int):FdS:=⟨ns,0,0,0⟩
end
section
def cC:Const->Option PyData
 | .int i=>some (.int i)
 | .bool b=>some (.bool b)
 | .none=>some .none
 | .str x=>some (.str x)
 | _=>none
def cI:Expr->Option Int
 | .Constant c _ _=>match c with
  | .int i=>some i
  | _=>none
 | _=>none
def cU:UnaryOp->Bool
 | .USub=>true
 | _=>false
def cP:Operator->Bool
 | .Pow=>true
 | _=>false
mutual
def bf:Expr->Option PyData
 | .Constant c _ _=>cC c
 | .UnaryOp o e _=>if cU o=true then(cI e).map λi=>.int (-i) else none
 | .BinOp a o b _=>if cP o=true then(cI a).bind λi=>(cI b).bind λj=>if vP i j then some (.int (i ^ j.toNat)) else none else none
 | .Tuple es _ _=>(aj es).bind λds=>if ds.length<=10000 then some (.tuple ds) else none
 | .List es _=>(aj es).bind λds=>if ds.length<=10000 then some (.list ds) else none
 | _=>none
def aj:List Expr->Option (List PyData)
 | []=>some []
 | e::es=>(bf e).bind λd=>(aj es).bind λds=>some (d::ds)
end
mutual
def M7:PyData->TE
 | .int i=>tC (.int i)
 | .bool b=>tC (.bl b)
 | .none=>tC .non
 | .str x=>tC (.str x)
 | .tuple ds=>tG (ak ds)
 | .list ds=>ax (ak ds)
 | .dict _=>λ_ _ _=>False
def ak:List PyData->TA
 | []=>C8
 | d::ds=>q4 (M7 d) (ak ds)
end
theorem iX {e:Expr}{i:Int}(h:cI e=some i):∃k p,e = .Constant (.int i) k p:=by
 unfold cI at h
 split at h
 .split at h
  .cases h;exact⟨_,_,rfl⟩
  .cases h
 .cases h
theorem mn {e:Expr}{es:List Expr}{env:Env}{d:PyData}(h:bf e=some d):starEach (e::es) env=(false,eval e env)::starEach es env:=by
 unfold bf at h
 split at h
 .rfl
 .rfl
 .rfl
 .rfl
 .rfl
 .cases h
section
variable [Feeds]{K:Fg}{X:Cx}
theorem qk:∀n:Nat,(∀(e:Expr) (d:PyData),sizeOf e<n->bf e=some d->Ev K X e (M7 d) (sC d))/\(∀(es:List Expr) (ds:List PyData),sizeOf es<n->aj es=some ds->Ea K X es (ak ds) (λ_ F=>some (ds,F))):=by
 intro n
 induction n with
 | zero=>exact⟨λ_ _ h=>absurd h (Nat.not_lt_zero _),λ_ _ h=>absurd h (Nat.not_lt_zero _)⟩
 | succ n ih =>
  refine⟨λe d hn h=>?_,λes ds hn h=>?_⟩
  .unfold bf at h
   split at h
   .unfold cC at h
    split at h
    .cases h;simp only[M7];exact f9
    .cases h;simp only[M7];exact kY
    .cases h;simp only[M7];exact w4
    .cases h;simp only[M7];exact qY
    .cases h
   .rename_i o e1 p1
    split at h
    .rename_i ho
     obtain⟨i,e2,h2⟩:=Option.map_eq_some_iff.mp h
     clear h
     obtain⟨k,p,rfl⟩:=iX e2
     have:o = .USub:=by cases o <;> first | rfl | (exact absurd ho (by decide))
     subst this h2
     simp only[M7]
     have hp:PE X (.UnaryOp .USub (.Constant (.int i) k p) p1) (tUn (rU λi=>.int (-i)) (tC (.int i))):=tZ mG f7
     exact⟨λpins s σ H Q I h=>hp pins s σ H Q I ⟨i,rfl,h⟩,λG B E F σ H Q d F' I e q=>by cases e;exact q _ H Kp.refl I.fd a7.int⟩
    .cases h
   .rename_i a o b p1
    split at h
    .rename_i ho
     obtain⟨i,e2,h2⟩:=bS9 h
     clear h
     obtain⟨j,e3,h⟩:=bS9 h2
     clear h2
     obtain⟨k,p,rfl⟩:=iX e2
     obtain⟨k',p',rfl⟩:=iX e3
     have:o = .Pow:=by cases o <;> first | rfl | (exact absurd ho (by decide))
     subst this
     split at h
     .rename_i hc
      cases h
      simp only[M7]
      have hp:PE X (.BinOp (.Constant (.int i) k p) .Pow (.Constant (.int j) k' p') p1) (tOp (rI vP λi j=>.int (i ^ j.toNat)) (tC (.int i)) (tC (.int j))):=v6 rD f7 f7
      exact⟨λpins s σ H Q I h=>hp pins s σ H Q I ⟨i,j,rfl,rfl,hc,h⟩,λG B E F σ H Q d F' I e q=>by cases e;exact q _ H Kp.refl I.fd a7.int⟩
     .cases h
    .cases h
   .rename_i es k p
    obtain⟨ds,e1,h⟩:=bS9 h
    split at h
    .rename_i hl
     cases h;simp only[M7]
     have hh:=ih.2 es ds (by simp at hn;omega) e1
     exact⟨iE hh.pa,λG B E F σ H Q d F' I e q=>by
      cases e
      refine hh.ok G B E F σ H _ ds _ I rfl λvs H1 k1 f1 h1=>⟨?_,λp hp=>q _ _ (k1.trans (Kp.upd hp)) (f1.same (d8.upd hp)) (N2 (w6 I.bk k1 f1) hp h1)⟩
      rw[h1.length]
      exact Nat.le_trans hl (by rw[sizeLine_eq];decide)⟩
    .cases h
   .rename_i es p
    obtain⟨ds,e1,h⟩:=bS9 h
    split at h
    .rename_i hl
     cases h;simp only[M7]
     have hh:=ih.2 es ds (by simp at hn;omega) e1
     exact⟨L6 hh.pa,λG B E F σ H Q d F' I e q=>by
      cases e
      refine hh.ok G B E F σ H _ ds _ I rfl λvs H1 k1 f1 h1=>⟨?_,λp hp=>q _ _ (k1.trans (Kp.upd hp)) (f1.same (d8.upd hp)) (N5 (w6 I.bk k1 f1) hp h1)⟩
      rw[h1.length]
      exact Nat.le_trans hl (by rw[sizeLine_eq];decide)⟩
    .cases h
   .cases h
  .cases es with
   | nil=>simp only[aj]at h;cases h;simp only[ak];exact i9
   | cons e es =>
    simp only[aj]at h
    obtain⟨d,e1,h⟩:=bS9 h
    obtain⟨ds',e2,h⟩:=bS9 h
    cases h
    simp only[ak]
    exact d7 (ih.1 e d (by simp at hn;omega) e1) (ih.2 es ds' (by simp at hn;omega) e2) (mn e1)
theorem tX (e:Expr)(d:PyData)(h:bf e=some d):Ev K X e (M7 d) (sC d):=(qk (sizeOf e+1)).1 e d (Nat.lt_succ_self _) h
theorem T3 (d:PyData){e:Expr}(h:bf e=some d):Ev K X e (M7 d) (sC d):=tX e d h
end
end
end L3
namespace L3
open PySem
theorem M3:bootBuiltins "len" = some (.builtin "len"):=by decide +kernel
theorem zd:bootBuiltins "min" = some (.builtin "min"):=by decide +kernel
theorem oo:bootBuiltins "repr" = some (.builtin "repr"):=by decide +kernel
theorem gG:bootBuiltins "sorted" = some (.builtin "sorted"):=by decide +kernel
theorem E8:bootBuiltins "tuple" = some (.type "tuple"):=by decide +kernel
theorem jh:bootBuiltins "list" = some (.type "list"):=by decide +kernel
theorem mO:bootBuiltins "int" = some (.type "int"):=by decide +kernel
end L3
namespace L3
open PySem PySem.Spec PyProof.Rows L2
section
section
variable [Feeds]{K:Fg}{X:Cx}{a b c e tg iter:Expr}{es:List Expr}{ta tb tc te:TE}{ma mb mc m:DE->M PyData}{pos pos' p p2:Pos}
theorem M8 (i:Nat){x:Str}{px ap cp:Pos}(hK:X.K=K)(hv:Ev K X e te m)(hN:X.N[i]? = some x:=by rfl)(hvis:Vis X.env.scope x:=by first | exact Or.inl rfl | exact Or.inr (Or.inl rfl) | exact Or.inr (Or.inr rfl))(hd:(x == ("__debug__":Str))=false:=by decide)(hcd:(x == ("__classdict__":Str))=false:=by decide)
  (hbase:attributeBase (.Name x px) "append" X.env (eval (.Name x px) X.env)=eval (.Name x px) X.env:=by rfl)
  (hfew:((backTo cp (starEach [e] X.env)).all (λx=>!x.1)&&(backToKw cp (keywordEach [] X.env)).all (λx=>x.1.isSome)
   && decide ([e].length+([]:List Keyword).length+(if ([]:List Keyword).isEmpty then 0 else 1)<30))=true:=by rfl)
  (hline:(ap.endLine == cp.line)=true:=by rfl) (hst:starEach [e] X.env=(false,eval e X.env)::starEach [] X.env:=by rfl) (hplain:(backTo cp (starEach [] X.env)).any (·.1)=false:=by rfl)
  (hs:swapsWith (.Call (.Attribute (.Name x px) "append" ap) [e] [] cp) none pos.line X.env=pure false:=by rfl) :
  Ss K X (.Expr (.Call (.Attribute (.Name x px) "append" ap) [e] [] cp) pos) (aC (tBM K "list" N3 (l8 i) (q4 te C8))) (O2 i m):=by
 subst hK
 exact⟨X2 (eY PySem.F.plainAttrs_list PySem.F.slot_list_append PySem.F.type_list_append F9 (D4 hN hvis hd hcd) (h9 hv.pe j6 hst) hbase hfew hline hst hplain) hs,Ah hv.ok⟩
end
end
section
section
variable [Feeds]{K:Fg}{X:Cx}{a b c e tg iter:Expr}{es:List Expr}{ta tb tc te:TE}{ma mb mc m:DE->M PyData}{pos pos' p p2:Pos}{P:Program}{w:World}{mg:Str->Option Value}{base:Heap}
def GD (K:Fg)(mg:Str->Option Value)(x:Str)(d:PyData):Prop:=∃a,mg x=some (.ref a)/\∀H,a7 K H d (.ref a)
theorem Bw {x:Str}{d:PyData}(h:GD K X.mg x d)(hg:Gl X x:=by rfl)(hd:(x == ("__debug__":Str))=false:=by decide):Ev K X (.Name x p) (tC (.ref h.choose)) (sC d) :=
 ⟨vI hg h.choose_spec.1 rfl hd,λG B E F σ H Q d F' I e q=>by
  cases e
  exact q _ H Kp.refl I.fd (h.choose_spec.2 _)⟩
def strsOf:List Value->Option (List Str)
 | []=>some []
 | .str x _::r=>(strsOf r).map (x :: ·)
 | _=>none
theorem gH:∀{us:List Value} {ss:List Str},strsOf us=some ss->i6 (ss.map V.str) us/\∀H,a6 K H (ss.map .str) (ss.map V.str)
 | [],ss,h=>by cases h;exact⟨.nil,λH=>a6.nil⟩
 | u::r,ss,h=>by
  cases u with
  | str x t =>
   obtain⟨ss',e1,rfl⟩:=Option.map_eq_some_iff.mp (show(strsOf r).map (x :: ·)=some ss from h)
   obtain⟨h1,h2⟩:=gH e1
   exact⟨.cons ⟨t,rfl⟩ h1,λH=>⟨_,_,rfl,rfl,h2 H⟩⟩
  | _=>cases h
theorem gd_mk {h:Heap}{x:Str}{t:Addr}{its:Array Value}{n:Nat}{dd:Option Addr}{sl:Array (Option Value)}{ss:List Str}(X:K.In h)(G:h.Ns mainGlobals mg)(hn:PySem.W.nsIn K mainGlobals x=some (some (.ref t)))(hl:K.lookup t=some ⟨.type "tuple",dd,.seq its n,sl⟩)(hs:strsOf its.toList=some ss)(hz:ss.length<=1000):GD K mg x (.tuple (ss.map .str)):=by
 obtain⟨h1,h2⟩:=gH (K:=K) hs
 refine⟨t,PySem.W.mg_of X G hn,λH=>⟨t,ss.map V.str,rfl,.inr ⟨_,its,n,hl,rfl,rfl,?_,h1⟩,h2 H⟩⟩
 have:=h1.length
 rw[List.length_map]at this
 have e:its.size=ss.length:=by rw[this];simp
 rw[e]
 exact Nat.le_trans hz (by rw[sizeLine_eq];decide)
end
end
section
section
variable {prog:Program}{w:World}{A:Around}{E:Value->Shared->Prop}{s:Shared}
theorem bC {it l:Addr}{i:Nat}{items}{x:Value}{Q:Value->Shared->Prop}(hit:s.heap.IsTupleIter it l i)
  (hl:s.heap.IsTuple l items) (hx:items[i]? = some x)
  (hQ:∀h',h'.IsTupleIter it l (i+1)->Heap.SameBut it s.heap h'->Q x { s with heap:=h' }) :
  wpAny (model prog w) A (Builtin.SmallTypes.nextOf (.ref it)) Q E s:=by
 obtain⟨o,ho,hc,hd⟩:=id hit
 obtain⟨ol,hol,_,nl,hdl⟩:=hl
 unfold Builtin.SmallTypes.nextOf
 refine wpAny_bind (wpAny_callSpecial?_slot (name:=Str.ofString "__next__") hit.typeIs PySem.F.slot_tuple_iterator_next
  (wpAny_call_entry PySem.F.slot_tuple_iterator_next hit.typeIs PySem.F.entry_tuple_iterator_next ?_ (PySem.F.args_tuple_iterator_next_1 _)))
 show wpAny _ _ (field (.ref it) 0 >>= _) _ _ s
 refine wpAny_bind (wpAny_field ho hd (x:=.ref l) rfl ?_)
 show wpAny _ _ (if (Value.ref l == Value.none)=true then _ else _) _ _ s
 rw[if_neg (show ¬((Value.ref l == Value.none)=true) from Bool.false_ne_true)]
 show wpAny _ _ (field (.ref it) 1 >>= _) _ _ s
 refine wpAny_bind (wpAny_field ho hd (x:=.int i 0) rfl ?_)
 show wpAny _ _ (seqItems? (.ref l) >>= _) _ _ s
 refine wpAny_bind (wpAny_seqItems hol hdl ?_)
 simp only[Int.toNat_natCast,hx]
 refine wpAny_bind (wpAny_setField ho hd (by simp) (wpAny_pure ⟨x,rfl,wpAny_pure (hQ _ ?_ (Heap.SameBut.update ..))⟩))
 exact⟨_,Heap.get?_update_self _ ho (Obj.isFreed_of_fields (Obj.data_mapFields hd _)),(Obj.cls_mapFields ..).trans hc,by
  rw[Obj.data_mapFields hd];simp[rawInt]⟩
theorem cq {it l:Addr}{i:Nat}{items}{Q:Value->Shared->Prop}(hh:A.handled=none)
  (hit:s.heap.IsTupleIter it l i) (hl:s.heap.IsTuple l items) (hx:items[i]? = none)
  (hE:∀h' e,Heap.ExtBut it s.heap h'->(∃o,h'.get? e=some o/\o.cls = .type "StopIteration")->E (.ref e) { s with heap:=h' }) :
  wpAny (model prog w) A (Builtin.SmallTypes.nextOf (.ref it)) Q E s:=by
 obtain⟨o,ho,hc,hd⟩:=id hit
 obtain⟨ol,hol,_,nl,hdl⟩:=hl
 unfold Builtin.SmallTypes.nextOf
 refine wpAny_bind (wpAny_callSpecial?_slot (name:=Str.ofString "__next__") hit.typeIs PySem.F.slot_tuple_iterator_next
  (wpAny_call_entry PySem.F.slot_tuple_iterator_next hit.typeIs PySem.F.entry_tuple_iterator_next ?_ (PySem.F.args_tuple_iterator_next_1 _)))
 show wpAny _ _ (field (.ref it) 0 >>= _) _ _ s
 refine wpAny_bind (wpAny_field ho hd (x:=.ref l) rfl ?_)
 show wpAny _ _ (if (Value.ref l == Value.none)=true then _ else _) _ _ s
 rw[if_neg (show ¬((Value.ref l == Value.none)=true) from Bool.false_ne_true)]
 show wpAny _ _ (field (.ref it) 1 >>= _) _ _ s
 refine wpAny_bind (wpAny_field ho hd (x:=.int i 0) rfl ?_)
 show wpAny _ _ (seqItems? (.ref l) >>= _) _ _ s
 refine wpAny_bind (wpAny_seqItems hol hdl ?_)
 simp only[Int.toNat_natCast,hx]
 refine wpAny_bind (wpAny_rule (wpAny_bind (wpAny_setField ho hd (by simp) ?_)))
 show wpAny _ _ (newExc (.type "StopIteration") [] >>= _) _ _ _
 refine wpAny_bind ?_
 simp only[newExc,newTuple]
 refine wpAny_bind (wpAny_newObj_type ?_ (by size_fits))
 refine wpAny_bind (m:=firstArgMember _ _) (wpAny_of_eq (a:=Value.none) (by first | rfl | (simp only[firstArgMember];rfl)) ?_)
 refine wpAny_newObj_type ?_ (by size_fits)
 simp only[raiseNew]
 refine wpAny_bind (wpAny_handled ?_)
 first | rw[show A.in1.handled=none from hh] | rw[hh]
 refine wpAny_bind (wpAny_pure (wpAny_throw ?_))
 exact hE _ _ (((Heap.SameBut.update ..).extBut.push _).push _) ⟨_,Heap.get?_push_size _ rfl,rfl⟩
end
def kM (b:Bool)(h:Heap)(it l:Addr)(i:Nat):Prop:=if b then h.IsListIter it l i else h.IsTupleIter it l i
def qB (b:Bool)(h:Heap)(l:Addr)(items:Array Value):Prop:=if b then h.IsList l items else h.IsTuple l items
theorem kM.at {b:Bool}{h h':Heap}{it l:Addr}{i:Nat}(x:kM b h it l i)(k:∀o,h.get? it=some o->h'.get? it=some o):kM b h' it l i:=by
 cases b
 .exact Heap.IsTupleIter.at (show h.IsTupleIter it l i from x) k
 .exact Heap.IsListIter.at (show h.IsListIter it l i from x) k
theorem qB.at {b:Bool}{h h':Heap}{l:Addr}{items:Array Value}(x:qB b h l items)(k:∀o,h.get? l=some o->h'.get? l=some o):qB b h' l items:=by
 cases b
 .obtain⟨o,ho,r⟩:=(show h.IsTuple l items from x)
  exact⟨o,k o ho,r⟩
 .exact Heap.IsList.at (show h.IsList l items from x) k
theorem kM.obj {b:Bool}{h:Heap}{it l:Addr}{i:Nat}(x:kM b h it l i):∃o,h.get? it=some o/\∀v,o.data ≠ .cell v:=by
 cases b
 .obtain⟨o,e,c,d⟩:=(show h.IsTupleIter it l i from x)
  exact⟨o,e,λv z=>by rw[d]at z;cases z⟩
 .obtain⟨o,e,c,d⟩:=(show h.IsListIter it l i from x)
  exact⟨o,e,λv z=>by rw[d]at z;cases z⟩
theorem lr {prog:Program}{w:World}{A:Around}(b:Bool)(hh:A.handled=none)(it l:Addr)(hne:l≠it)(items:Array Value) :
  Draws prog w A it [it,l] items.size (λi v=>items[i]? = some v) (λi h=>kM b h it l i/\qB b h l items) where
 live:=λ_ _ st=>let ⟨o,ho,_⟩:=st.1.obj;⟨o,ho⟩
 frame:=λ_ _ _ st hk=>⟨st.1.at λo e=>hk it (by simp) o e,st.2.at λo e=>hk l (by simp) o e⟩
 item:=λi s Q E hi st hQ=>by
  cases b
  .refine bC (show s.heap.IsTupleIter it l i from st.1) (show s.heap.IsTuple l items from st.2) (x:=items[i]) (by simp[hi]) λh' hit' hs'=>?_
   exact hQ _ h' s.toks (by simp[hi]) ⟨hit',st.2.at λo e=>hs'.extBut l o hne e⟩ hs'
  .refine wpAny_nextOf_list_item (show s.heap.IsListIter it l i from st.1) (show s.heap.IsList l items from st.2) (x:=items[i]) (by simp[hi]) λh' hit' hs'=>?_
   exact hQ _ h' s.toks (by simp[hi]) ⟨hit',st.2.at λo e=>hs'.extBut l o hne e⟩ hs'
 done:=λs Q E st hE=>by
  cases b
  .exact cq hh (show s.heap.IsTupleIter it l items.size from st.1) (show s.heap.IsTuple l items from st.2) (by simp) hE
  .exact wpAny_nextOf_list_end hh (show s.heap.IsListIter it l items.size from st.1) (show s.heap.IsList l items from st.2) (by simp) hE
open AutoSeq1 (wpAny_loadPart') in
theorem Z3 (l:Addr)(items:Array Value)(n:Nat)(dct:Option Addr)(sl:Array (Option Value)) :
  Meets (Builtin.«enumerate.__new__» ⟨[.type "enumerate",.ref l],[]⟩) (λ_ R s=>s.heap.get? l=some { cls:=.type "tuple",dict:=dct,data:=.seq items n,slots:=sl } /\
   R (.ok (.ret (.ref (s.heap.push { cls:=.type "tuple_iterator",data:=.fields #[.ref l,.int 0 0] }).objs.size)))
    { s with heap:=(s.heap.push { cls:=.type "tuple_iterator",data:=.fields #[.ref l,.int 0 0] }).push { cls:=.type "enumerate",data:=.fields #[.none,.bool false,.ref s.heap.objs.size,rawInt 0,.none,.none] } }) :=
 .of_wp λprog w A R s h=>by
  obtain⟨hp,g,d,tk,os⟩:=s;obtain⟨hl,h⟩:=h
  have hsub:=sub_enumerate
  have hL:Heap.IsTuple (Shared.heap ⟨hp,g,d,tk,os⟩) l items:=⟨_,hl,rfl,n,rfl⟩
  wp_walk using wpAny_loadPart' hl
  refine wpAny_stack_any λst=>wpAny_pure ?_
  split
  .rename_i c _ _ _ _ _
   cases(c == Value.type "enumerate")
   .wp_walk using wpAny_loadPart' hl,wpAny_pyIter_tuple hL
    exact⟨_,rfl,h⟩
   .wp_walk using wpAny_loadPart' hl,wpAny_pyIter_tuple hL
    exact⟨_,rfl,h⟩
  .wp_walk using wpAny_loadPart' hl,wpAny_pyIter_tuple hL
   exact⟨_,rfl,h⟩
section
variable {prog:Program}{w:World}{A:Around}{E:Value->Shared->Prop}{s:Shared}
theorem X9 {l:Addr}{items:Array Value}{Q:Value->Shared->Prop}(hL:s.heap.IsTuple l items)
  (h:∀h',IsEnum h' (s.heap.objs.size+1) s.heap.objs.size 0 .none->h'.IsTupleIter s.heap.objs.size l 0->h'.objs.size=s.heap.objs.size+2 ->
   (∀b o,s.heap.get? b=some o->h'.get? b=some o)->Q (.ref (s.heap.objs.size+1)) { s with heap:=h' }) :
  wpAny (model prog w) A (call (.type "enumerate") [.ref l]) Q E s:=by
 obtain⟨⟨c,dct,dt,sl⟩,hl,hc,n,hd⟩:=hL
 replace hc:c = .type "tuple":=hc
 replace hd:dt = .seq items n:=hd
 subst hc hd
 refine callType_new PySem.F.called_enumerate (by decide) (PySem.F.typeCall_enumerate_1 _) (PySem.F.newCall_enumerate_1 _) (λobj=>PySem.F.args_object_init_2 obj _) PySem.F.entry_enumerate_new
  (Z3 l items n dct sl) ⟨hl,?_⟩
 have hz:(s.heap.push { cls:=.type "tuple_iterator",data:=.fields #[.ref l,.int 0 0] }).objs.size=s.heap.objs.size+1:=Heap.size_push ..
 show _/\_
 rw[hz]
 have he:IsEnum ((s.heap.push { cls:=.type "tuple_iterator",data:=.fields #[.ref l,.int 0 0] }).push
   { cls:=.type "enumerate",data:=.fields #[.none,.bool false,.ref s.heap.objs.size,rawInt 0,.none,.none] }) (s.heap.objs.size+1) s.heap.objs.size 0 .none:=by
  have:=Heap.get?_push_size (s.heap.push { cls:=.type "tuple_iterator",data:=.fields #[.ref l,.int 0 0] })
   (o:={ cls:=.type "enumerate",data:=.fields #[.none,.bool false,.ref s.heap.objs.size,rawInt 0,.none,.none] }) rfl
  rw[hz]at this;exact this
 refine⟨⟨_,he,rfl⟩,h _ he ⟨_,Heap.get?_push_of_some _ (Heap.get?_push_size _ rfl),rfl,rfl⟩ (by rw[Heap.size_push,hz]) λb o x=>Heap.get?_push_of_some _ (Heap.get?_push_of_some _ x)⟩
theorem pO {b:Bool}{l:Addr}{items:Array Value}{Q:Value->Shared->Prop}(hL:qB b s.heap l items)
  (h:∀h',IsEnum h' (s.heap.objs.size+1) s.heap.objs.size 0 .none->kM b h' s.heap.objs.size l 0->h'.objs.size=s.heap.objs.size+2 ->
   (∀b o,s.heap.get? b=some o->h'.get? b=some o)->Q (.ref (s.heap.objs.size+1)) { s with heap:=h' }) :
  wpAny (model prog w) A (call (.type "enumerate") [.ref l]) Q E s:=by
 cases b
 .exact X9 (show s.heap.IsTuple l items from hL) h
 .exact call_enumerate_list (show s.heap.IsList l items from hL) h
end
def SqA (b:Bool)(K:Fg)(H:Hp)(a:Addr)(xs:List V):Prop:=if b then SqL K H a xs else SqT K H a xs
def Ite (b:Bool)(K:Fg)(a:Addr):It :=
 ⟨λi H=>∃xs x,SqA b K H a xs/\xs[i]? = some x,λi H v H'=>∃t x,v = .ref t/\H t=none/\H'=upd H t (.tup [.int i,x])/\∀xs,SqA b K H a xs->xs[i]? = some x,λi H=>∃xs,SqA b K H a xs/\xs.length=i⟩
theorem SqA.get {b:Bool}{X:Cx}{pins:List (Addr×Obj)}{σ:St}{H:Hp}{s:Shared}{a:Addr}{xs:List V}(I:Inv X pins σ H s)(h:SqA b X.K H a xs):∃its:List Value,i6 xs its/\qB b s.heap a its.toArray:=by
 cases b
 .obtain⟨its,rv,p,_⟩:=I.tuple (show SqT X.K H a xs from h)
  exact⟨its,rv,p⟩
 .obtain⟨its,rv,p,_⟩:=I.list (show SqL X.K H a xs from h)
  exact⟨its,rv,p.isList⟩
theorem SqA.inj {b:Bool}{X:Cx}{pins:List (Addr×Obj)}{σ:St}{H:Hp}{s:Shared}{a:Addr}{xs ys:List V}(I:Inv X pins σ H s)(h:SqA b X.K H a xs)(h':SqA b X.K H a ys):ys=xs:=by
 cases b
 .exact I.tuple_inj (show SqT X.K H a ys from h') (show SqT X.K H a xs from h)
 .exact I.list_inj (show SqL X.K H a ys from h') (show SqL X.K H a xs from h)
end
section
theorem sX {h:Heap}{c:Addr}{o o':Obj}(hl:c<h.objs.size)(e:(h.push o).get? c=some o'):h.get? c=some o':=by
 obtain⟨e1,e2⟩:=Heap.get?_some_iff.mp e
 refine Heap.get?_some_iff.mpr ⟨?_,e2⟩
 have:=Nat.ne_of_lt hl
 cases h;simpa [Heap.push,Array.getElem?_push,this] using e1
theorem fG {X:Cx}{pins:List (Addr×Obj)}{σ:St}{H:Hp}{s:Shared}{h':Heap}{t':Nat}{fp:List Addr}(I:Inv X pins σ H s)(hf:∀b∈fp,dS X pins H b)(k:∀b o,b ∉ fp->s.heap.get? b=some o->h'.get? b=some o):Inv X pins σ H { s with heap:=h',toks:=t' }:=by
 have nit:∀b u,H b=some u->b ∉ fp:=λb u e z=>by rw[(hf b z).1]at e;cases e
 refine I.step (g':=s.gens) (d':=s.drawn) (ch:=fp) (λb hb=>?_) (λb o _ _ hc e _=>k b o hc e) (λb o _ _ hc e _=>⟨o.slots,k b o hc e⟩) (λ_ _ _ _ n=>n)
  (λb o hc e=>⟨o,k b o hc e⟩) (λ_ _ e=>e) (λ_ _ _ e=>e) (λb ps e=>⟨#[],by rw[e];simp⟩) (λm hm=>?_) (λb u e=>?_) I.bare
 .obtain⟨_,f1,f2,f3,f4,f5⟩:=hf b hb
  exact⟨f3,f1,f4,f5⟩
 .obtain⟨o,es,ep,ho,r⟩:=hm
  exact⟨o,es,ep,k _ o (λz=>(hf _ z).2.1 rfl) ho,r⟩
 .refine(I.hok b u e).stay (λc v hc q=>k c v ?_ q) (λ_ q=>q) λ_ _ q=>q
  rcases hc with z | z
  .rw[z];exact nit b u e
  .exact nit c _ z
theorem qD {P:Program}{w:World}{K:Fg}{es:List Expr}{k:Nat}{pos:Pos}(b:Bool)(a e it:Addr):Turn P w K (.Tuple es k pos) (Ite b K a) [e,it] e (λi h=>(e≠it/\a≠e/\a≠it)/\(∃old,IsEnum h e it i old)/\kM b h it a i) where
 mem:=by simp
 obj:=λi h st c hb=>by
  obtain⟨_,⟨old,he⟩,hit⟩:=st
  rcases List.mem_cons.mp hb with rfl | hb
  .exact⟨_,he,λv z=>by cases(show Data.fields _=Data.cell v from z)⟩
  .rw[List.mem_singleton.mp hb];exact hit.obj
 keep:=λi h h' st kk=>by
  obtain⟨n,⟨old,he⟩,hit⟩:=st
  exact⟨n,⟨old,kk e (by simp) _ he⟩,hit.at λo z=>kk it (by simp) o z⟩
 item:=by
  intro X hP hw hK hc i pins s σ H E I hf st hg
  subst hP hw hK
  obtain⟨⟨n1,n2,n3⟩,⟨old,he⟩,hit⟩:=st
  obtain⟨xs,x,hq,hx⟩:=hg
  obtain⟨its,rv,p⟩:=SqA.get I hq
  obtain⟨u,hu,ru⟩:=rv.get hx
  have hlt:i<its.toArray.size:=by
   have:=(List.getElem?_eq_some_iff.mp hu).1
   simpa using this
  have hel:e<s.heap.objs.size:=Heap.lt_size he
  have hil:it<s.heap.objs.size:=by obtain⟨o,z,_⟩:=hit.obj;exact Heap.lt_size z
  refine wpAny_pyNext_enum_itemD (lr b (A:=X.A.in1) (I.ok.hd hc) it a n3 its.toArray) he ⟨hit,p⟩ hlt n1 (by simp[n1,Ne.symm n2]) λy h' tk hy ho hst' ht hz hk=>?_
  have hyu:y=u:=by
   have hy:its.toArray[i]? = some y:=hy
   rw[List.getElem?_toArray,hu]at hy
   exact(Option.some.inj hy).symm
  subst hyu
  refine⟨_,rfl,wpAny_letOwnedTupleGo_enum ho λh2 he2 hs2=>?_⟩
  have hs2:Heap.SameBut e h' h2:=hs2
  have hf0:H s.heap.objs.size=none:=I.hok.fresh (Nat.le_refl _)
  have I1:Inv X pins σ (upd H s.heap.objs.size (.tup [.int i,x])) { s with heap:=s.heap.push { cls:=.type "tuple",data:=.seq #[.int i tk,y] },toks:=tk }:=by
   refine I.laid (t':=tk) (λb u e=>Heap.get?_push_of_some _ e) (Nat.le_refl _) ?_
   exact⟨Nat.le_trans (show 2<=10000 by decide) (by rw[sizeLine_eq];decide),[.int i tk,y],.cons ⟨tk,rfl⟩ (.cons ru .nil),⟨_,Heap.get?_push_size _ rfl,rfl,_,rfl⟩⟩
  have hfp:∀c∈[e,it],dS X pins (upd H s.heap.objs.size (.tup [.int i,x])) c:=λc hcm=>by
   obtain⟨f0,f⟩:=hf c hcm
   have hne:c≠s.heap.objs.size:=by
    rcases List.mem_cons.mp hcm with rfl | hcm
    .exact Nat.ne_of_lt hel
    .rw[List.mem_singleton.mp hcm];exact Nat.ne_of_lt hil
   exact⟨by rw[a9 hne];exact f0,f⟩
  have hT2:h2.get? s.heap.objs.size=some { cls:=.type "tuple",data:=.seq #[.int i tk,y] }:=hs2.extBut _ _ (Nat.ne_of_gt hel) ht
  have I2:Inv X pins σ (upd H s.heap.objs.size (.tup [.int i,x])) { s with heap:=h2,toks:=tk+1 }:=by
   refine fG (s:={ s with heap:=s.heap.push { cls:=.type "tuple",data:=.seq #[.int i tk,y] },toks:=tk }) I1 hfp λc o hcn ec=>?_
   have c1:c≠e:=λz=>hcn (by simp[z])
   have c2:c≠it:=λz=>hcn (by simp[z])
   by_cases hcT:c=s.heap.objs.size
   .subst hcT
    have:(s.heap.push { cls:=.type "tuple",data:=.seq #[.int i tk,y] }).get? s.heap.objs.size=some o:=ec
    rw[Heap.get?_push_size _ rfl]at this
    rw[hT2];exact this
   .have hlc:c<s.heap.objs.size:=by
     have h1:c<(s.heap.push { cls:=.type "tuple",data:=.seq #[.int i tk,y] }).objs.size:=Heap.lt_size ec
     rw[Heap.size_push]at h1
     exact Nat.lt_of_le_of_ne (Nat.le_of_lt_succ h1) hcT
    have ec':s.heap.get? c=some o:=by
     have ec:(s.heap.push { cls:=.type "tuple",data:=.seq #[.int i tk,y] }).get? c=some o:=ec
     exact sX hlc ec
    exact hs2.extBut c o c1 (hk c o c1 c2 ec')
  refine⟨.ref s.heap.objs.size,upd H s.heap.objs.size (.tup [.int i,x]),I2,rfl,⟨_,x,rfl,hf0,rfl,λys hy=>by rw[SqA.inj I hq hy];exact hx⟩,⟨⟨n1,n2,n3⟩,⟨y,by simpa using he2⟩,hst'.1.at λo z=>hs2.extBut it o (Ne.symm n1) z⟩,λc hcm=>(hfp c hcm).1⟩
 done:=by
  intro X hP hw hK hc i pins s σ H E I hf st hg
  subst hP hw hK
  obtain⟨⟨n1,n2,n3⟩,⟨old,he⟩,hit⟩:=st
  obtain⟨xs,hq,hx⟩:=hg
  obtain⟨its,rv,p⟩:=SqA.get I hq
  have hl:its.toArray.size=i:=by rw[List.size_toArray,<-rv.length];exact hx
  refine wpAny_pyNext_enum_endD (lr b (A:=X.A.in1) (I.ok.hd hc) it a n3 its.toArray) he (by rw[hl];exact⟨hit,p⟩) λh' eb=>⟨rfl,fG (t':=s.toks) I hf λc o hc ec=>eb c o (λz=>hc (by simp[z])) ec⟩
 self:=λ_ _ _ _ _ st h=>by
  obtain⟨_,⟨old,he⟩,_⟩:=st
  exact wpAny_pyIter_enum he h
section
variable [Feeds]{K:Fg}{X:Cx}{tg iter e:Expr}{te:TE}{m:DE->M PyData}{pos p tp:Pos}{es:List Expr}{tk:Nat}
def O6:Nat->List PyData->List PyData
 | _,[]=>[]
 | k,d::r=>.tuple [.int k,d]::O6 (k+1) r
theorem gL:∀{ds:List PyData} {k:Nat},(O6 k ds).length=ds.length
 | [],k=>rfl
 | d::r,k=>by rw[O6,List.length_cons,List.length_cons,gL]
theorem gB:∀{ds:List PyData} {k i:Nat} {z:PyData},(O6 k ds)[i]? = some z->∃d,ds[i]? = some d/\z = .tuple [.int ((k+i:Nat)),d]
 | [],k,i,z,h=>by simp[O6]at h
 | d::r,k,0,z,h=>by simp[O6]at h;exact⟨d,by simp,by simp[h]⟩
 | d::r,k,i+1,z,h=>by
  rw[O6,List.getElem?_cons_succ]at h
  obtain⟨d',h1,h2⟩:=gB h
  refine⟨d',by simpa using h1,?_⟩
  rw[h2,show k+1+i=k+(i+1) by omega]
def dN (a:DE->M PyData):DE->M (List PyData):=λE F=>(a E F).bind λp=>(eK p.1).bind λds=>some (O6 0 ds,p.2)
def rT (K:Fg)(tl:TA):TI:=λσ H R=>tl σ H λxs H1=>∃a,xs=[.ref a]/\∃b ys,SqA b K H1 a ys/\R (Ite b K a) H1
theorem nX {l:Expr}{tl:TA}(hK:X.K=K)(hg:Gl X "enumerate")(hm:X.mg "enumerate" = none)(ha:PA X [l] tl)(hs:starEach [l] X.env=[(false,eval l X.env)]:=by rfl):PI X (.Tuple es tk tp) (.Call (.Name "enumerate" p) [l] [] pos) (rT K tl):=by
 subst hK
 intro pins s σ H R I h
 refine Call_ (bh I hg hm boot_enumerate (PyProof.Rows.callWith_type1 (thn (ha pos pins s σ H _ I h) λus s1 ⟨vs,H1,I1,r1,q1⟩=>?_) hs rfl))
 obtain⟨a,e,b,ys,hq,q⟩:=q1
 subst e
 cases r1 with
 | cons r rr =>
  cases rr
  cases r
  obtain⟨its,rv,p⟩:=SqA.get I1 hq
  refine pO p λh' he hit hz hk=>?_
  have I2:Inv X pins σ H1 { s1 with heap:=h' }:=I1.kept (t':=s1.toks) hk
  have hal:a<s1.heap.objs.size:=by
   cases b
   .obtain⟨o,z,_⟩:=(show s1.heap.IsTuple a its.toArray from p);exact Heap.lt_size z
   .obtain⟨o,z,_⟩:=(show s1.heap.IsList a its.toArray from p);exact Heap.lt_size z
  refine wpAny_pyIter_enum he ⟨s1.heap.objs.size+1,[s1.heap.objs.size+1,s1.heap.objs.size],_,_,H1,rfl,I2,qD b a _ _,⟨⟨Nat.succ_ne_self _,Nat.ne_of_lt (Nat.lt_succ_of_lt hal),Nat.ne_of_lt hal⟩,⟨_,he⟩,hit⟩,λc hc=>?_,q⟩
  have hle:s1.heap.objs.size<=c:=by
   rcases List.mem_cons.mp hc with rfl | hc
   .exact Nat.le_succ _
   .rw[List.mem_singleton.mp hc];exact Nat.le_refl _
  exact I1.fpOk hle (I1.hok.fresh hle)
theorem dZ {P:Hp->List Addr->Prop}{b:Bool}{a:Addr}{ds:List PyData}{xs:List V}(h:∀H B,P H B->SqA b K H a xs/\a6 K (hid H B) ds xs):da K P (Ite b K a) (O6 0 ds):=λH B hp=>by
 obtain⟨h1,h2⟩:=h H B hp
 refine⟨λi d e=>?_,⟨xs,h1,by rw[gL,h2.length]⟩⟩
 obtain⟨d',hd',rfl⟩:=gB e
 obtain⟨v,e1,e2⟩:=a6.item h2 hd'
 refine⟨⟨xs,v,h1,e1⟩,λx H2 y=>?_⟩
 obtain⟨t,x',rfl,ht,rfl,y⟩:=y
 have:=y xs h1
 rw[e1]at this;cases this
 refine⟨d8.upd ht,λbk=>?_⟩
 rw[Nat.zero_add]
 exact N2 bk ht ⟨_,_,rfl,a7.int,_,_,rfl,e2,rfl⟩
theorem nH (h:Ev K X e te m)(hm:X.mg "enumerate" = none)(hK:X.K=K:=by rfl)(hg:Gl X "enumerate":=by rfl)(hs:starEach [e] X.env=[(false,eval e X.env)]:=by rfl):Ei K X (.Tuple es tk tp) (.Call (.Name "enumerate" p) [e] [] pos) (rT K (q4 te C8)) (dN m):=⟨nX hK hg hm (h9 h.pe j6 hs) hs,λG B E F σ H R ds F' I e q=>by
 obtain⟨⟨y,F1⟩,e1,e⟩:=bS9 e
 obtain⟨z,e2,e⟩:=bS9 e
 cases e
 refine h.ok G B E F σ H _ y F1 I e1 λv H1 k1 f1 h1=>?_
 cases y with
 | list ys =>
  cases e2
  simp only[a7]at h1
  obtain⟨a,xs,rfl,ha,hd⟩:=h1
  exact⟨a,rfl,true,xs,SqL.of (d0 _ _ ha),q _ H1 k1 f1 (dZ λH2 B2 s=>⟨SqL.of (d0 _ _ (s _ _ ha)),hd.same s⟩)⟩
 | tuple ys =>
  cases e2
  simp only[a7]at h1
  obtain⟨a,xs,rfl,ha,hd⟩:=h1
  exact⟨a,rfl,false,xs,ha.same d0,q _ H1 k1 f1 (dZ λH2 B2 s=>⟨(ha.same s).same d0,hd.same s⟩)⟩
 | _=>cases e2⟩
theorem sU (h:Eb K X e te m)(hm:X.mg "enumerate" = none)(hK:X.K=K:=by rfl)(hg:Gl X "enumerate":=by rfl)(hs:starEach [e] X.env=[(false,eval e X.env)]:=by rfl):Eib K X (.Tuple es tk tp) (.Call (.Name "enumerate" p) [e] [] pos) (rT K (q4 te C8)) (dN m):=⟨nX hK hg hm (h9 h.pe j6 hs) hs,λG B E F σ H R ds F' I e q=>by
 obtain⟨⟨y,F1⟩,e1,e⟩:=bS9 e
 obtain⟨z,e2,e⟩:=bS9 e
 cases e
 refine h.ok G B E F σ H _ y F1 I e1 λv H1 k1 f1 h1=>?_
 cases y with
 | list ys =>
  cases e2
  obtain⟨a,xs,rfl,ha,hd⟩:=h1
  exact⟨a,rfl,true,xs,SqL.of (d0 _ _ ha),q _ H1 k1 f1 (dZ λH2 B2 k=>⟨SqL.of (d0 _ _ (k.1.hid (B:=k9 K G) (λ_ z=>z) _ _ ha)),hd.same k.2⟩)⟩
 | tuple ys =>
  cases e2
  obtain⟨a,xs,rfl,ha,hd⟩:=h1
  exact⟨a,rfl,false,xs,ha.same d0,q _ H1 k1 f1 (dZ λH2 B2 k=>⟨(ha.same k.2).same d0,hd.same k.2⟩)⟩
 | _=>cases e2⟩
end
end
section
section
variable [Feeds]{K:Fg}{X:Cx}{a b c e tg iter:Expr}{es:List Expr}{ta tb tc te:TE}{ma mb mc m:DE->M PyData}{pos pos' p p2:Pos}{t u:TS}{mt mu:DE->M Out}
end
end
section
section
variable [Feeds]{K:Fg}{X:Cx}{a b c e tg iter:Expr}{es:List Expr}{ta tb tc te:TE}{ma mb mc m:DE->M PyData}{pos pos' p p2:Pos}
end
end
section
section
variable {X:Cx}
end
section
variable [Feeds]{K:Fg}{X:Cx}{a b c e tg iter:Expr}{es:List Expr}{ta tb tc te:TE}{ma mb mc m:DE->M PyData}{pos pos' p p2 pos2:Pos}
theorem qx {lo:Int}{n:Nat}{acc:Array Value}(h:ItemsOf (λi v=>∃t,v=Value.int (lo+i*1) t) acc n):i6 ((List.range n).map λ(i:Nat)=>V.int (lo+(i:Int))) acc.toList:=by
 obtain⟨h1,h2⟩:=h
 refine R4 (by rw[List.length_map,List.length_range,Array.length_toList,h1]) λi x u hx hu=>?_
 rw[List.getElem?_map]at hx
 obtain⟨j,hj,rfl⟩:=Option.map_eq_some_iff.mp hx
 obtain⟨hlt,e⟩:=List.getElem?_eq_some_iff.mp hj
 rw[List.getElem_range]at e
 subst e
 obtain⟨t,rfl⟩:=h2 i u (by rw[<-Array.getElem?_toList];exact hu)
 exact⟨t,by congr 1;omega⟩
def xg:List V->Hp->VK->Prop:=λxs H Q=>∃(p:Addr) (i j:Int),xs=[.ref p]/\H p=some (.rng i j) /\ -(2 ^ 62)<=i/\i<2 ^ 62 /\ -(2 ^ 62)<=j/\j<2 ^ 62/\(j-i).toNat<=1000/\∀l,H l=none->Q (.ref l) (upd H l (.lst ((List.range (j-i).toNat).map λ(k:Nat)=>V.int (i+(k:Int)))))
theorem fY (hc:X.calm=true):D1 X (.type "list") xg:=by
 intro pins s σ H xs us Q I r h
 obtain⟨p,i,j,rfl,hp,i0,i1,j0,j1,hz,q⟩:=h
 obtain⟨u,rfl,ru⟩:=O7 r
 cases ru
 obtain⟨t,u,v,hr⟩:=(show B4 X.prog X.w H s.heap p (.rng i j) from I.hok p _ hp)
 have hn:Builtin.Range.rangeSize i j 1=((j-i).toNat:Int):=by rw[rangeSize_one];split <;> omega
 refine call_list_range (n:=(j-i).toNat) (I.ok.hd hc) hr (small_one (by omega) (by omega) (by omega) (by omega)) hn (by omega) λh' tk acc c' hk hS hit=>?_
 have I1:Inv X pins σ (upd H s.heap.objs.size (.lst ((List.range (j-i).toNat).map λ(k:Nat)=>V.int (i+(k:Int))))) { s with heap:=h',toks:=tk } :=
  I.laid (a:=s.heap.objs.size) hk (Nat.le_refl _) ⟨by rw[List.length_map,List.length_range];exact Nat.le_of_lt (P6 (by omega)),acc.toList,c',qx hit,by rw[hS]⟩
 exact⟨.ref s.heap.objs.size,_,I1,rfl,q _ (I.hok.fresh (Nat.le_refl _))⟩
theorem kn {H:Hp}{lo:Int}:∀{ns:List Nat},a6 K H (ns.map λ(i:Nat)=>PyData.int (lo+i)) (ns.map λ(k:Nat)=>V.int (lo+(k:Int)))
 | []=>a6.nil
 | n::r=>⟨_,_,rfl,a7.int,kn (ns:=r)⟩
def iA (a:DE->M (List PyData)):DE->M PyData:=λE F=>(a E F).bind λp=>(N0 p.1).bind λds=>if ds.length<=1000 then some (.list ds,p.2) else none
theorem tm {ta:TA}{ms:DE->M (List PyData)}(h:Ea K X [a] ta ms)(hc:X.calm=true)(hm:X.mg "range" = none)(hml:X.mg "list" = none)(hbt:bootBuiltins "list" = some (.type "list"))(hg:Gl X "range":=by rfl)(hgl:Gl X "list":=by rfl)(hs:starEach [a] X.env=[(false,eval a X.env)]:=by rfl)
  (he:starEach [.Call (.Name "range" p2) [a] [] pos2] X.env=(false,eval (.Call (.Name "range" p2) [a] [] pos2) X.env)::starEach [] X.env:=by rfl) (hpl:(backTo pos (starEach [] X.env)).any (·.1)=false:=by rfl) :
  Ev K X (.Call (.Name "list" p) [.Call (.Name "range" p2) [a] [] pos2] [] pos) (tCB xg (q4 (zR ta) C8)) (iA ms) :=
 ⟨cz (fY hc) hgl hml hbt (h9 (sH hg hm h.pa hs) j6 he) (by decide) (by decide) he hpl,λG B E F σ H Q d F' I e q=>by
  obtain⟨⟨ys,F1⟩,e1,e⟩:=bS9 e
  obtain⟨z,e2,e⟩:=bS9 e
  split at e
  .rename_i hz
   cases e
   refine h.ok G B E F σ H _ ys F1 I e1 λvs H1 k1 f1 h1=>?_
   unfold N0 at e2
   split at e2
   .rename_i j hj
    split at e2
    .rename_i hc
     cases e2
     have hj:ys=[.int j]:=hj
     subst hj
     simp only[a6]at h1
     obtain⟨x,r,rfl,h2,rfl⟩:=h1
     simp only[a7]at h2
     subst h2
     have hz:(cE 0 j.toNat).length<=1000:=hz
     simp[cE]at hz
     refine⟨j,rfl,λp hp=>⟨p,0,j,rfl,b9,by omega,by omega,hc.1,hc.2,by omega,λl hl=>?_⟩⟩
     have bk1:=w6 I.bk k1 f1
     have bk2:BOk (upd H1 p (.rng 0 j)) B:=λb hb=>by
      obtain⟨o,eo⟩:=bk1 b hb
      exact⟨o,by rw[a9 (d6 eo hp)];exact eo⟩
     rw[Int.sub_zero]
     exact q _ _ ((k1.trans (Kp.upd hp)).trans (Kp.upd hl)) ((f1.same (d8.upd hp)).same (d8.upd hl)) (N5 bk2 hl kn)
    .cases e2
   .cases e2
  .cases e⟩
end
end
section
section
variable {prog:Program}{w:World}{A:Around}{E:Value->Shared->Prop}{s:Shared}
end
section
variable {X:Cx}{K:Fg}{p p2 pos pos2:Pos}
end
section
variable {prog:Program}{w:World}{A:Around}{E:Value->Shared->Prop}{s:Shared}
end
section
variable {X:Cx}{K:Fg}{p p2 pos pos2:Pos}
variable [Feeds]
end
end
section
section
variable {X:Cx}{K:Fg}
variable {mg:Str->Option Value}
end
section
variable [Feeds]{X:Cx}{K:Fg}
end
end
section
section
variable {X:Cx}
end
section
variable [Feeds]{X:Cx}{K:Fg}{e:Expr}{te:TE}{m:DE->M PyData}{pos pos':Pos}
end
end
section
section
variable {prog:Program}{w:World}{A:Around}{E:Value->Shared->Prop}{s:Shared}
end
section
variable [Feeds]{K:Fg}{X:Cx}{pos:Pos}
end
end
section
section
variable [Feeds]{X:Cx}{K:Fg}{e:Expr}{te:TE}{m:DE->M PyData}{pos:Pos}
end
end
section
section
variable [Feeds]{X:Cx}{K:Fg}{e:Expr}{te:TE}{m:DE->M PyData}{pos p2:Pos}
end
end
section
theorem len_1 {us:List Value}(h:us.length=1):∃a,us=[a]:=List.length_eq_one_iff.mp h
theorem xh {us:List Value}{n:Nat}(h:us.length=n+1):∃a r,us=a::r/\r.length=n:=by
 cases us with
 | nil=>cases h
 | cons a r=>exact⟨a,r,rfl,Nat.succ.inj h⟩
theorem len_2 {us:List Value}(h:us.length=2):∃a b,us=[a,b]:=by
 obtain⟨a,r,rfl,h2⟩:=xh h
 obtain⟨b,rfl⟩:=len_1 h2
 exact⟨a,b,rfl⟩
theorem len_3 {us:List Value}(h:us.length=3):∃a b c,us=[a,b,c]:=by
 obtain⟨a,r,rfl,h2⟩:=xh h
 obtain⟨b,c,rfl⟩:=len_2 h2
 exact⟨a,b,c,rfl⟩
def wo (B A:List Addr):List Addr:=B.filter λb=>decide (b ∉ A)
theorem eN {B A:List Addr}{b:Addr}:b∈wo B A↔b∈B/\b ∉ A:=by unfold wo;rw[List.mem_filter];simp
section
variable {K:Fg}{H:Hp}{B A:List Addr}
end
section
variable [Feeds]
variable {K:Fg}{X:Cx}{e:Expr}{es:List Expr}{te:TE}{m:DE->M PyData}{tl:TA}{ms:DE->M (List DV)}{pos p:Pos}
end
end
section
def iP?:PyData->Option Int
 | .int i=>some i
 | _=>none
def dq?:PyData->Option Int
 | .bool b=>some (if b then 1 else 0)
 | _=>none
def dJ (ks:List PyData):Option (List Int):=match ks.mapM iP? with
 | some r=>some r
 | none=>ks.mapM dq?
def vOf:PyData->V
 | .int i=>.int i
 | .bool b=>.bl b
 | _=>.non
theorem la:∀{ks:List PyData} {ns:List Int},ks.mapM iP? = some ns->ks=ns.map .int
 | [],ns,h=>by simp at h;subst h;rfl
 | k::ks,ns,h=>by
  rw[List.mapM_cons]at h
  obtain⟨a,e1,h⟩:=bS9 h
  obtain⟨r,e2,h⟩:=bS9 h
  cases h
  rw[la e2]
  cases k <;> cases e1
  rfl
theorem gv:∀{ks:List PyData} {ns:List Int},ks.mapM dq? = some ns->∃bs:List Bool,ks=bs.map .bool/\ns=bs.map λb=>if b then 1 else 0
 | [],ns,h=>by simp at h;subst h;exact⟨[],rfl,rfl⟩
 | k::ks,ns,h=>by
  rw[List.mapM_cons]at h
  obtain⟨a,e1,h⟩:=bS9 h
  obtain⟨r,e2,h⟩:=bS9 h
  cases h
  obtain⟨bs,rfl,rfl⟩:=gv e2
  cases k with
  | bool b=>cases e1;exact⟨b::bs,rfl,rfl⟩
  | _=>cases e1
theorem rQ {ks:List PyData}{ns:List Int}(h:dJ ks=some ns):du (ks.map vOf)/\(ks.map vOf).map gm=ns/\∀k∈ks,∀(K:Fg) (H:Hp) (v:V),a7 K H k v->v=vOf k:=by
 unfold dJ at h
 split at h
 .rename_i r e
  cases h
  rw[la e]
  refine⟨.inl λk hk=>?_,?_,λk hk K H v hv=>?_⟩
  .simp only[List.map_map,List.mem_map]at hk
   obtain⟨n,_,rfl⟩:=hk
   exact⟨n,rfl⟩
  .rw[List.map_map,List.map_map]
   exact(List.map_congr_left λn _=>rfl).trans (List.map_id _)
  .obtain⟨n,_,rfl⟩:=List.mem_map.mp hk
   simp only[a7]at hv;exact hv
 .obtain⟨bs,rfl,rfl⟩:=gv h
  refine⟨.inr λk hk=>?_,?_,λk hk K H v hv=>?_⟩
  .simp only[List.map_map,List.mem_map]at hk
   obtain⟨n,_,rfl⟩:=hk
   exact⟨n,rfl⟩
  .rw[List.map_map,List.map_map]
   exact List.map_congr_left λn _=>rfl
  .obtain⟨n,_,rfl⟩:=List.mem_map.mp hk
   simp only[a7]at hv;exact hv
inductive Al (K:Fg) (H:Hp):List (Int×PyData)->List (Int×V)->Prop
 | nil:Al K H [] []
 | cons {k:Int} {d:PyData} {v:V} {l m}:a7 K H d v->Al K H l m->Al K H ((k,d)::l) ((k,v)::m)
theorem Al.ins {K:Fg}{H:Hp}{k:Int}{d:PyData}{v:V}(h:a7 K H d v):∀{l m},Al K H l m->Al K H (V9 (k,d) l) (V9 (k,v) m)
 | _,_,.nil=>.cons h .nil
 | _,_,.cons (k:=k') h' r=>by
  simp only[V9]
  split
  .exact .cons h (.cons h' r)
  .exact .cons h' (Al.ins h r)
theorem Al.sort {K:Fg}{H:Hp}:∀{l m},Al K H l m->Al K H (t9 l) (t9 m)
 | _,_,.nil=>.nil
 | _,_,.cons h r=>Al.ins h r.sort
theorem Al.dats {K:Fg}{H:Hp}:∀{l m},Al K H l m->a6 K H (l.map Prod.snd) (m.map Prod.snd)
 | _,_,.nil=>a6.nil
 | _,_,.cons h r=>a6.cons h r.dats
theorem lz {K:Fg}{H:Hp}:∀{ns:List Int} {ds:List PyData} {xs:List V},a6 K H ds xs->Al K H (ns.zip ds) (ns.zip xs)
 | [],_,_,_=>.nil
 | n::ns,[],xs,h=>by
  have e:xs=[]:=List.length_eq_zero_iff.mp (by rw[h.length];rfl)
  subst e;exact .nil
 | n::ns,d::ds,xs,h=>by
  cases xs with
  | nil=>have:=h.length;simp at this
  | cons x xs =>
   simp only[a6]at h
   obtain⟨y,ys,e,h1,h2⟩:=h
   cases e
   exact .cons h1 (lz h2)
section
variable [Feeds]{K:Fg}{X:Cx}
structure LamB (K:Fg) (mg:Str->Option Value) (base:Heap) (x:Str) (fd:FuncData) (c P:Addr):Prop where
 mem:(x,c,P)∈tabsK Feeds.lam K
 code:fd.code = .ref c
 hd:PySem.W.CodeHd base c P
 bm:BMd base mg
 nd:(tabP K).Nodup
def dE (me:DE->M PyData)(E0:DE):List PyData->M (List PyData)
 | []=>λF=>some ([],F)
 | d::r=>λF=>(me (some (.dat d)::E0) F).bind λp=>(dE me E0 r p.2).bind λq=>some (p.1::q.1,q.2)
def sSK (ma:DE->M (List PyData))(cap:List Nat)(me:DE->M PyData):DE->M PyData:=λE F=>(ma E F).bind λp=>match p.1 with
 | [.list ds]=>if ds.length<64 then(dE me (cap.map λj=>(E[j]?).join) ds p.2).bind λq=>(dJ q.1).bind λns=>some (.list ((t9 (ns.zip ds)).map Prod.snd),q.2) else none
 | _=>none
theorem cZ {me:DE->M PyData}{E0:DE}:∀{ds:List PyData} {F:FS} {ks:List PyData} {F':FS},dE me E0 ds F=some (ks,F')->ks.length=ds.length
 | [],F,ks,F',h=>by cases h;rfl
 | d::r,F,ks,F',h=>by
  obtain⟨p,_,h⟩:=bS9 h
  obtain⟨q,e,h⟩:=bS9 h
  cases h
  simp[cZ (F:=p.2) (ks:=q.1) (F':=q.2) e]
theorem aH {α β:Type}{f:α->β}:∀{l:List α},(l.map f).Nodup->∀{a b},a∈l->b∈l->f a=f b->a=b
 | [],_,_,_,h,_,_=>by simp at h
 | x::l,h,a,b,ha,hb,e=>by
  rw[List.map_cons,List.nodup_cons]at h
  rcases List.mem_cons.mp ha with e1 | ha1
  .rcases List.mem_cons.mp hb with e2 | hb1
   .rw[e1,e2]
   .exact absurd (by rw[<-e1,e];exact List.mem_map_of_mem hb1) h.1
  .rcases List.mem_cons.mp hb with e2 | hb1
   .exact absurd (by rw[<-e2,<-e];exact List.mem_map_of_mem ha1) h.1
   .exact aH h.2 ha1 hb1 e
theorem vR {G:GF}{H H2:Hp}{F:FS}{x:Str}{c P:Addr}(hm:(x,c,P)∈tabsK Feeds.lam K)(nd:(tabP K).Nodup)(f:FAt K G H F)(g:yL P (ki x) H H2)(hT:gy H2 P (ki x)):Kp (k9 K G) H H2/\FAt K G H2 F:=by
 rcases g with rfl | ⟨ps,more,c',hP,hc',hcP,rfl⟩
 .exact⟨Kp.refl,f⟩
 .have hPf:P∈tabP K:=List.mem_map_of_mem (f:=λt:Str×Addr×Addr=>t.2.2) hm
  have stay:∀b o,H b=some o->b≠P->upd (upd H P (.tbl (ps++more))) c' (cdO c' (ki x)) b=some o:=λb o e hb=>by
   rw[a9 (d6 e hc'),a9 hb];exact e
  have ne:∀{b o},H b=some o->NoT o->b≠P:=λ{b o} e h z=>by
   rw[z,hP]at e
   exact h.1 _ (Option.some.inj e).symm
  refine⟨λb o e hb=>stay b o e λz=>hb (z▸iy hPf),?_,λt ht=>?_⟩
  .cases G with
   | none=>trivial
   | some p =>
    obtain⟨d,c0⟩:=p
    obtain⟨o1,a1,b1⟩:=Feeds.some1 f.1
    obtain⟨o2,a2,b2⟩:=Feeds.some2 f.1
    exact Feeds.congr f.1 (by rw[a1];exact stay _ _ a1 (ne a1 b1)) (by rw[a2];exact stay _ _ a2 (ne a2 b2))
  .by_cases htP:t.2.2=P
   .have e:t=(x,c,P):=aH (f:=λt:Str×Addr×Addr=>t.2.2) nd ht hm htP
    rw[e];exact hT
   .obtain⟨qs,h1,h2,h3⟩:=f.2 t ht
    refine⟨qs,stay _ _ h1 htP,h2,λpos cv q=>?_⟩
    obtain⟨c2,r1,r2⟩:=h3 pos cv q
    exact⟨c2,r1,stay _ _ r2 λz=>by rw[z,hP]at r2;cases r2⟩
theorem qW {G:GF}{H:Hp}{F:FS}{c:Addr}{q:Str}(f:FAt K G H F)(h:H c=some (cdO c q)):c ∉ k9 K G:=λz=>by
 have tb:c∈tabP K->False:=λz=>by
  obtain⟨t,ht,e⟩:=List.mem_map.mp z
  obtain⟨ps,h1,_⟩:=f.2 t ht
  rw[e,h]at h1;cases h1
 cases G with
 | none=>exact tb z
 | some p =>
  obtain⟨d,c0⟩:=p
  simp only[k9,List.mem_cons]at z
  rcases z with rfl | rfl | z
  .obtain⟨o,e,hn⟩:=Feeds.some1 f.1
   rw[h]at e;exact hn.2 _ (Option.some.inj e).symm
  .obtain⟨o,e,hn⟩:=Feeds.some2 f.1
   rw[h]at e;exact hn.2 _ (Option.some.inj e).symm
  .exact tb z
theorem SitE.lamS {G:GF}{B:List Addr}{E:DE}{F F':FS}{σ:St}{H H':Hp}{d:PyData}{v:V}(I:SitE K G B E F σ H)(k:Kp (k9 K G) H H')(f:FAt K G H' F')(h:a7 K (hid H' B) d v)(cap:List Nat) :
  SitE K G B (some (.dat d)::cap.map λj=>(E[j]?).join) F' (bu v cap σ) H':=by
 have J:=(I.step k f).cap 0 cap
 refine⟨f,I.fB,J.bk,by simp[bu],λi x e=>?_⟩
 cases i with
 | zero =>
  have e:some (some (DV.dat d))=some (some x):=e
  cases e
  exact⟨v,rfl,h⟩
 | succ i=>exact J.loc i x e
theorem tT {e:Expr}{params:Arguments}{body:Expr}{scope osc:Scope}{p pos lpos kp:Pos}{c P:Addr}{x y:Str}{N:List Str}{cap:List Nat}{ta:TA}{ma:DE->M (List PyData)}{te:TE}{me:DE->M PyData}{k:Nat}{fd:FuncData}
  (LB:LamB K X.mg X.base x fd c P) (hK:X.K=K) (hm:X.mg "sorted" = none) (hr:Room k X.A) (hc:X.calm=true) (ha:Ea K X [e] ta ma) (hosc:X.env.scope=osc) (L:LamOk X.N osc y N cap scope)
  (hcode:X.env.code = .ref c) (hq:X.env.qual ++ "<lambda>" = ki x)
  (hE:∀cl f c' Y s H,Ev K (cxL X N (ki x) scope cl f c' Y s H) body te me)
  (hdef:defaultsOf params X.env=([],[]):=by rfl)
  (hbind:∀(cl:List (Str×Addr)) (pm:Value) (c':Addr) (ctv u:Value),bindArgs (PySem.W.kla_fn "<lambda>" (ki x) params body scope cl pm (.ref c') ctv) ⟨[u],[]⟩=pure [(y,u)]:=by intros;rfl)
  (hg:Gl X "sorted":=by rfl) (hs:starEach [e] X.env=[(false,eval e X.env)]:=by rfl) :
  Ev K X (.Call (.Name "sorted" p) [e] [⟨some "key",.Lambda params body scope lpos,kp⟩] pos) (tSK K P (ki x) cap ta te) (sSK ma cap me):=by
 subst hK
 refine⟨AF hg hm hr hc ha.pa hdef hosc L hcode LB.hd LB.bm hq hbind (λcl f c' Y s H=>(hE cl f c' Y s H).pe) hs,λG B E F σ H Q d F' I e q=>?_⟩
 obtain⟨⟨as,F1⟩,e1,e⟩:=bS9 e
 refine ha.ok G B E F σ H _ as F1 I e1 λvs H1 k1 f1 h1=>?_
 dsimp only at e
 split at e
 case h_2=>cases e
 rename_i ds
 split at e
 case isFalse=>cases e
 rename_i h64
 obtain⟨⟨kds,F2⟩,e2,e⟩:=bS9 e
 obtain⟨ns,e3,e⟩:=bS9 e
 cases e
 obtain⟨hko,hnum,hv⟩:=rQ e3
 obtain⟨l,xs,rfl,hl,hd⟩:∃l xs,vs=[.ref l]/\hid H1 B l=some (.lst xs)/\a6 X.K (hid H1 B) ds xs:=by
  simp only[a6]at h1
  obtain⟨v,r,rfl,h2,rfl⟩:=h1
  simp only[a7]at h2
  obtain⟨l,xs,rfl,h3,h4⟩:=h2
  exact⟨l,xs,rfl,h3,h4⟩
 have xl:=hd.length
 refine⟨l,xs,rfl,SqL.of (d0 _ _ hl),by omega,f1.2 _ LB.mem,λH2 gr hT2 c' hc'=>?_⟩
 obtain⟨k2,f2⟩:=vR LB.mem LB.nd f1 gr hT2
 have hlB:l ∉ k9 X.K G:=λz=>by
  rw[v7 (I.fB l z)]at hl;cases hl
 refine⟨λi H'=>∃Fi rest,Kp (k9 X.K G) H2 H'/\FAt X.K G H' Fi/\dE me (cap.map λj=>(E[j]?).join) (ds.drop i) Fi=some (rest,F2)/\kds.drop i=rest,kds.map vOf,by rw[List.length_map,cZ e2,xl],hko,
  SqL.of (k2 l _ (d0 _ _ hl) hlB),⟨F1,kds,Kp.refl,f2,e2,rfl⟩,λi H' ⟨Fi,rest,a1,a2,_⟩=>a1 _ _ hc' (qW f2 hc'),λi v H' hx ⟨Fi,rest,a1,a2,a3,a4⟩=>?_,λa H' ys ⟨Fi,rest,a1,a2,a3,a4⟩ Ha o=>?_⟩
 .have hd':=hd.same ((k2.trans a1).hid I.fB)
  obtain⟨dd,hdd,hdv⟩:=hd'.get hx
  have edr:ds.drop i=dd::ds.drop (i+1):=by
   have hi:=(List.getElem?_eq_some_iff.mp hdd)
   obtain⟨hi,e⟩:=hi
   rw[List.drop_eq_getElem_cons hi,e]
  rw[edr]at a3
  obtain⟨⟨kk,Fk⟩,g1,g⟩:=bS9 a3
  obtain⟨⟨kr,Fr'⟩,g2,g⟩:=bS9 g
  cases g
  have hki:kds[i]? = some kk:=by
   have:=congrArg (λl=>l[0]?) a4
   simpa using this
  refine(hE [] 0 0 X.A X.s₀ H').ok G B _ Fi _ H' _ kk Fk (I.lamS ((k1.trans k2).trans a1) a2 hdv cap) g1 λw H3 k3 f3 h3=>?_
  refine⟨?_,Fk,kr,a1.trans k3,f3,g2,?_⟩
  .rw[List.getElem?_map,hki,hv kk (List.mem_of_getElem? hki) _ _ _ h3];rfl
  .have:=congrArg List.tail a4
   simpa using this
 .have hend:dE me (cap.map λj=>(E[j]?).join) (ds.drop xs.length) Fi=some ([],Fi):=by rw[xl,List.drop_length];rfl
  rw[hend]at a3
  cases a3
  have ey:=kq o (by rw[List.length_map,cZ e2,xl])
  rw[hnum]at ey
  subst ey
  have bk':=w6 I.bk ((k1.trans k2).trans a1) a2
  have hdz:=(lz (ns:=ns) (hd.same ((k2.trans a1).hid I.fB))).sort.dats
  exact q _ _ (((k1.trans k2).trans a1).trans (Kp.upd Ha)) (a2.same (d8.upd Ha)) (N5 bk' Ha hdz)
end
end
section
def mN (p:Int):List Int->List Int
 | []=>[p]
 | q::r=>if p<=q then p::q::r else q::mN p r
def kD:List Int->List Int
 | []=>[]
 | p::r=>mN p (kD r)
theorem cR (p:Int):∀l:List Int,(mN p l).Perm (p::l)
 | []=>.refl _
 | q::r=>by
  rw[mN]
  split
  .exact .refl _
  .exact((cR p r).cons q).trans (.swap p q r)
theorem aS:∀l:List Int,(kD l).Perm l
 | []=>.refl _
 | p::r=>(cR p _).trans ((aS r).cons p)
theorem oK {p:Int}:∀{l:List Int},l.Pairwise (· <= ·)->(mN p l).Pairwise (· <= ·)
 | [],_=>by simp[mN]
 | q::r,h=>by
  rw[List.pairwise_cons]at h
  rw[mN]
  split
  .rename_i hle
   refine List.pairwise_cons.mpr ⟨λz hz=>?_,List.pairwise_cons.mpr h⟩
   rcases List.mem_cons.mp hz with rfl | hz
   .exact hle
   .have:=h.1 z hz;omega
  .rename_i hgt
   refine List.pairwise_cons.mpr ⟨λz hz=>?_,oK h.2⟩
   rcases List.mem_cons.mp ((cR p r).mem_iff.mp hz) with rfl | hz
   .omega
   .exact h.1 z hz
theorem fx:∀l:List Int,(kD l).Pairwise (· <= ·)
 | []=>.nil
 | p::r=>oK (fx r)
theorem cM:∀{l₁ l₂:List Int},l₁.Perm l₂->l₁.Pairwise (· <= ·)->l₂.Pairwise (· <= ·)->l₁=l₂
 | [],l₂,p,_,_=>p.nil_eq
 | a::r,[],p,_,_=>by have:=p.length_eq;simp at this
 | a::r,b::t,p,h1,h2=>by
  rw[List.pairwise_cons]at h1 h2
  have ab:a=b:=by
   rcases List.mem_cons.mp (p.mem_iff.mp (List.mem_cons_self (a:=a) (l:=r))) with e | e
   .exact e
   .rcases List.mem_cons.mp (p.mem_iff.mpr (List.mem_cons_self (a:=b) (l:=t))) with e2 | e2
    .exact e2.symm
    .have q1:=h2.1 a e
     have q2:=h1.1 b e2
     omega
  subst ab
  rw[cM (p.cons_inv) h1.2 h2.2]
def ju:PyData->Option Int
 | .tuple (.int n::_)=>some n
 | _=>none
def bz:List PyData->Option PyData
 | [.list ds]=>match V5 ds with
  | some ns=>if ns.length<64 then some (.list ((kD ns).map .int)) else none
  | none=>(ds.mapM ju).bind λns=>if ns.Nodup/\ns.length<64 then some (.list ((t9 (ns.zip ds)).map Prod.snd)) else none
 | _=>none
theorem oa {K:Fg}{H H':Hp}(s:d8 H H'):∀{ds:List PyData} {ns:List Int} {zs:List V},ds.mapM ju=some ns->a6 K H ds zs->kE K H' ns zs
 | [],ns,zs,e,h=>by
  simp at e;subst e
  exact List.length_eq_zero_iff.mp (by rw[h.length];rfl)
 | d::ds,ns,zs,e,h=>by
  rw[List.mapM_cons]at e
  obtain⟨n,e1,e⟩:=bS9 e
  obtain⟨ns',e2,e⟩:=bS9 e
  cases e
  simp only[a6]at h
  obtain⟨z,zs',rfl,h1,h2⟩:=h
  unfold ju at e1
  split at e1
  .cases e1
   obtain⟨t,xs,rfl,hq,hd⟩:=h1.ofTup
   simp only[a6]at hd
   obtain⟨v,r,rfl,hv,_⟩:=hd
   simp only[a7]at hv
   subst hv
   exact⟨t,r,zs',rfl,hq.same s,oa s e2 h2⟩
  .cases e1
theorem kN {α β:Type}{f:α->Option β}:∀{l:List α} {m:List β},l.mapM f=some m->m.length=l.length
 | [],m,e=>by simp at e;subst e;rfl
 | a::l,m,e=>by
  rw[List.mapM_cons]at e
  obtain⟨b,_,e⟩:=bS9 e
  obtain⟨m',e2,e⟩:=bS9 e
  cases e
  simp[kN e2]
theorem gu {K:Fg}{H:Hp}:∀ns:List Int,a6 K H (ns.map .int) (ns.map V.int)
 | []=>a6.nil
 | n::ns=>a6.cons a7.int (gu ns)
section
variable [Feeds]{K:Fg}{X:Cx}
theorem hZ (hK:X.K=K):D1 X (.builtin "sorted") (rDN K bz):=by
 intro pins s σ H xs us Q I r h
 obtain⟨fp,B,ds,z,bk,h1,hf,q⟩:=h
 unfold bz at hf
 split at hf <;> try cases hf
 split at hf
 .rename_i ns e
  split at hf
  case isFalse=>cases hf
  rename_i h64
  cases hf
  cases Y8 e
  obtain⟨v,rfl,a,xs,rfl,ha,hd⟩:=fq h1 rfl
  cases mK hd
  refine kU hK pins s σ H _ us Q I r ⟨a,ns,rfl,SqL.of (d0 _ _ ha),h64,λp ns' hp pm pw=>?_⟩
  cases cM (pm.trans (aS ns).symm) pw (fx ns)
  exact q _ _ (d8.upd hp) (N5 bk hp (gu _))
 .obtain⟨ns,e,hf⟩:=bS9 hf
  split at hf
  case isFalse=>cases hf
  rename_i hc
  cases hf
  obtain⟨v,rfl,a,xs,rfl,ha,hd⟩:=fq h1 rfl
  refine mx hK pins s σ H _ us Q I r ⟨a,xs,ns,rfl,SqL.of (d0 _ _ ha),oa d0 e hd,hc.1,hc.2,λp ys hp o=>?_⟩
  have ey:=kq o (by rw[List.length_map,kN e,hd.length])
  rw[List.map_map,show(gm ∘ V.int)=id from rfl,List.map_id]at ey
  subst ey
  exact q _ _ (d8.upd hp) (N5 bk hp (lz (ns:=ns) hd).sort.dats)
end
end
end L3
namespace L2
open PySem PySem.Spec PyProof.Rows
section
variable {P:Program}{w:World}{K:Fg}{mg:Str->Option Value}{base:Heap}
theorem Fun.okC {x qual:Str}{st:Stmt}{f:Addr}{fd:FuncData}{N ps:List Str}{k:Nat}{sp:Sp}(F:Fun K x qual st f fd)(S:FnScope N ps (defScope st))(len:∀vs H Q E,sp vs H Q E->vs.length=ps.length)
  (hbody:∀(cdv:Value) (A:Around) (outer:List Env) (s:Shared) (H:Hp) (vs:List V) (Q:VK) (E:XK),fd.code=cdv->Room k (A.deeper (envOfC qual (defScope st) s.heap.objs.size f cdv))->sp vs H Q E ->
   ∃t,PSs (M5 CX0 P w K mg base N qual (defScope st) f cdv A outer s H E).nox (defBody st) t/\t { nx:=λ_ H'=>Q .non H',rt:=Q } (B5 N vs) H):FnOk P w K mg base CX0 (k+1) f fd ps sp:=by
 obtain⟨oc,od,kV,doc,pm,an,cdv,ct,osl,rfl,lk,hcd⟩:=F.ex
 refine xG lk hcd S len λA outer s H vs Q E hr hsp=>?_
 obtain⟨t,h,q⟩:=hbody cdv A outer s H vs Q E rfl hr hsp
 exact⟨t,h.nox,q⟩
end
end L2
namespace L3
open PySem PySem.Spec PyProof.Rows L2
section
section
variable [Feeds]{P:Program}{w:World}{K:Fg}{mg:Str->Option Value}{base:Heap}
theorem oe {x qual:Str}{st:Stmt}{f:Addr}{fd:FuncData}{N ps:List Str}{k:Nat}{m:DE->M Out}(Fn:Fun K x qual st f fd)(S:FnScope N ps (defScope st))
  (hbody:∀(cdv:Value) (A:Around) (outer:List Env) (s:Shared) (H:Hp) (E:XK),fd.code=cdv->Room k (A.deeper (envOfC qual (defScope st) s.heap.objs.size f cdv)) ->
   ∃ts,Sss K (M5 CX0 P w K mg base N qual (defScope st) f cdv A outer s H E).nox (defBody st) ts m):FnOk P w K mg base CX0 (k+1) f fd ps (spD K ps.length (Y4 N m)):=by
 refine Fn.okC S (λvs H Q E h=>?_) (λcdv A outer s H vs Q E hcd hr h=>?_)
 .obtain⟨G,B,F,args,d,F',hl,_⟩:=h
  exact hl
 .obtain⟨G,B,F,args,d,F',hl,fB,bk,fa,ha,hm,q⟩:=h
  obtain⟨ts,hts⟩:=hbody cdv A outer s H E hcd hr
  refine⟨ts,hts.ps,?_⟩
  obtain⟨⟨o,F1⟩,e1,e⟩:=bS9 hm
  refine hts.ok G B H (u6 N args) F (L2.B5 N vs) H _ o F1 (cN fB bk fa ha) e1 ?_
  cases o with
  | rt d'=>cases e;exact λv H' k1 f1 h1=>q v H' k1 f1 h1
  | nx E'=>cases e;exact λσ' H' S'=>q _ H' S'.kp (by obtain⟨B,_,_,I⟩:=S'.ex;exact I.fd) a7.non
  | bk E'=>cases e
  | ct E'=>cases e
end
end
section
abbrev AZ:=List (Str×Addr×Addr)
def yx (ts:AZ)(h:Heap):Prop:=∀t∈ts,PySem.W.CodeHd h t.2.1 t.2.2/\h.get? t.2.2=some (PySem.W.tabObj #[])
theorem qm {P:Program}{w:World}{K:Fg}{mg mb:Str->Option Value}{CX:CXT}{k:Nat}{fa a:Addr}{fd:FuncData}{x:Str}{sp:Sp}{s₁:Shared}{vs:List Value}{ns:List Int}{ts:AZ}
  (KX:K.In s₁.heap) (hns:s₁.heap.Ns mainGlobals mg) (hb:s₁.heap.Ns builtinsNs mb) (hbb:∀x:Str,x ≠ "__name__"->mb x=bootBuiltins x) (hlim:s₁.heap.NoLimit) (hg:s₁.gens = #[])
  (ha:s₁.heap.get? a=some { cls:=.type "list",data:=.seq vs.toArray }) (hi:IntsAre vs ns) (hl:ns.length<=sizeLine) (hr:Room k callerA)
  (hT:yx ts s₁.heap) (hnt:PySem.W.noTabs K=true) (BM:BMd s₁.heap mg)
  (F:∀base:Heap,K.In base->base.Ns mainGlobals mg->BMd base mg->(∀t∈ts,PySem.W.CodeHd base t.2.1 t.2.2)->FnOk P w K mg base CX k fa fd [x] sp) (hbind:∀(s:Shared) (u:Value),BindsTo s fd ⟨[u],[]⟩ [(x,u)])
  (hsp:∀H:Hp,SqL K H a (ns.map V.int)->A9 ts H->sp [.ref a] H (λv _=>v = .bl true) λ_ _ _=>False)
  (hCX:∀H e s',CX [] H s₁ (λ_ _ _=>False) e s'->False) :
  codeAny (model P w) callerA (.call (.ref fa) ⟨[.ref a],[]⟩) (λr s'=>r = .ok (.ret (.bool true))/\OldK s₁.heap s'.heap/\s'.os=s₁.os/\AllBare s'.gens) s₁:=by
 have rv:=cT hi
 have lenV:=hi.length
 have aP:∀t∈ts,t.2.2≠a:=λt ht e=>by
  have:=(hT t ht).2
  rw[e,ha]at this;cases this
 have core:∀H:Hp,(∀b,H b=none\/(b=a/\H b=some (.frz { cls:=.type "list",data:=.seq vs.toArray } (.lst (ns.map V.int))))\/(b∈ts.map (·.2.2)/\H b=some (.tbl #[])))->(∀t∈ts,H t.2.2=some (.tbl #[]))->SqL K H a (ns.map V.int)->(H a≠none->K.lookup a=none) ->
   codeAny (model P w) callerA (.call (.ref fa) ⟨[.ref a],[]⟩) (λr s'=>r = .ok (.ret (.bool true))/\OldK s₁.heap s'.heap/\s'.os=s₁.os/\AllBare s'.gens) s₁:=by
  intro H hO hTH hS hK
  have tabO:∀{b:Addr},b∈ts.map (·.2.2)->s₁.heap.get? b=some (PySem.W.tabObj #[]):=λ{b} hb=>by
   obtain⟨t,ht,rfl⟩:=List.mem_map.mp hb
   exact(hT t ht).2
  have hok:HOk P w H s₁.heap:=λb u e=>by
   rcases hO b with z | ⟨rfl,z⟩ | ⟨hb,z⟩
   .rw[z]at e;cases e
   .rw[z]at e;cases e
    exact⟨ha,by rw[List.length_map];exact hl,vs,_,rv,ha⟩
   .rw[z]at e;cases e
    exact tabO hb
  have base_of:∀{b:Addr} {o:Obj},s₁.heap.get? b=some o->H b=none->(fR s₁.heap H).get? b=some o:=λe n=>rH e n
  have other:∀{b:Addr} {o:Obj},s₁.heap.get? b=some o->o≠{ cls:=.type "list",data:=.seq vs.toArray }->o≠PySem.W.tabObj #[]->H b=none:=λ{b o} e h1 h2=>by
   rcases hO b with z | ⟨rfl,z⟩ | ⟨hb,z⟩
   .exact z
   .rw[ha]at e;exact absurd (Option.some.inj e).symm h1
   .rw[tabO hb]at e;exact absurd (Option.some.inj e).symm h2
  have nsK:∀{b:Addr} {m:Str->Option Value},s₁.heap.Ns b m->(fR s₁.heap H).Ns b m:=λ{b m} ⟨o,es,ep,e,d,r⟩=>⟨o,es,ep,base_of e (other e (λz=>by rw[z]at d;cases d) λz=>by rw[z]at d;cases d),d,r⟩
  have hKb:K.In (fR s₁.heap H):=λb o e=>base_of (KX b o e) (by
   rcases hO b with z | ⟨rfl,z⟩ | ⟨hb,z⟩
   .exact z
   .rw[hK (by rw[z];simp)]at e;cases e
   .have e2:=KX b o e
    rw[tabO hb]at e2
    cases e2
    have h2:=List.all_eq_true.mp hnt _ (PySem.W.mem_of_lookupK e)
    exact absurd (show false=true from h2) Bool.false_ne_true)
  have hM:Mod K mg (fR s₁.heap H):=⟨hKb,nsK hns,⟨mb,nsK hb,hbb⟩,let ⟨mc,h1,h2⟩:=hlim;⟨mc,nsK h1,h2⟩⟩
  have hBM:BMd (fR s₁.heap H) mg:=by
   obtain⟨bm,ob,b1,b2,b3,b4,b5,b6⟩:=BM
   exact⟨bm,ob,b1,b2,base_of b3 (other b3 (λz=>by rw[z]at b4;have b4:Value.type "list" = Value.type "module":=b4;exact absurd b4 (by decide)) λz=>by rw[z]at b4;have b4:Value.none=Value.type "module":=b4;exact absurd b4 (by decide)),b4,b5,b6⟩
  have hCd:∀t∈ts,PySem.W.CodeHd (fR s₁.heap H) t.2.1 t.2.2:=λt ht=>by
   obtain⟨o,vs',file,tf,flags,tg,inF,text,tt,e1,r1,r2⟩:=(hT t ht).1
   exact⟨o,vs',file,tf,flags,tg,inF,text,tt,base_of e1 (other e1 (λz=>by rw[z]at r1;have r1:Value.type "list" = Value.type "code":=r1;exact absurd r1 (by decide)) λz=>by rw[z]at r1;have r1:Value.none=Value.type "code":=r1;exact absurd r1 (by decide)),r1,r2⟩
  have e0:Env0 P w K mg (fR s₁.heap H) callerA [] s₁ H:=⟨rfl,hM,λb o e=>wF e,Nat.le_of_eq (pd _ _),trivial,λb hb=>absurd (show b∈([]:List Addr) from hb) (by simp),hok,.of_eq hg⟩
  have hTO:A9 ts H:=λt ht=>⟨#[],hTH t ht,trivial,λpos cv e=>by cases e⟩
  refine codeAny_mono ((F _ hKb (nsK hns) hBM hCd).run callerA [] s₁ H ⟨[.ref a],[]⟩ [.ref a] [.ref a] _ _ hr e0 (hbind s₁ (.ref a)) (.cons rfl .nil) (hsp H hS hTO)) λr s' h=>?_
  cases r with
  | error e=>exact(hCX H e s' h).elim
  | ok fl =>
   cases fl with
   | next=>exact False.elim h
   | brk=>exact False.elim h
   | cont=>exact False.elim h
   | ret u =>
    obtain⟨v,H',os,bare,un,hok',r',q⟩:=h
    have q':v = .bl true:=q
    subst q'
    obtain rfl:u=Value.bool true:=r'
    have kept:∀b o,s₁.heap.get? b=some o->H b=none->s'.heap.get? b=some o:=λb o e q=>un.keep b o e q (by intro z;exact absurd (show b∈([]:List Addr) from z) (by simp)) (by simp)
    have scr:∀b o,s₁.heap.get? b=some o->b=a->H b=some (.frz { cls:=.type "list",data:=.seq vs.toArray } (.lst (ns.map V.int)))->s'.heap.get? b=some o:=λb o e hb z=>by
     have z2:=un.frzs b _ _ z
     obtain⟨e1,_⟩:=hok b _ z
     obtain⟨e2,_⟩:=hok' b _ z2
     rw[e]at e1;cases e1
     exact e2
    have tab:∀b,H b=some (.tbl #[])->∃more,s'.heap.get? b=some (PySem.W.tabObj more):=λb z=>by
     obtain⟨more,z2⟩:=un.tbls b _ z
     exact⟨_,hok' b _ z2⟩
    refine⟨rfl,⟨λb o e=>?_,λb o e=>?_⟩,os,bare⟩
    .rcases hO b with z | ⟨hb,z⟩ | ⟨hb,z⟩
     .exact .inl (kept b o e z)
     .exact .inl (scr b o e hb z)
     .obtain⟨more,e2⟩:=tab b z
      have e3:=tabO hb
      rw[e]at e3;cases e3
      obtain⟨t,ht,rfl⟩:=List.mem_map.mp hb
      refine .inr (.inl ⟨((hT t ht).1.tab (hT t ht).2).isCodeTable,rfl,#[],more,rfl,by rw[Array.empty_append];exact e2⟩)
    .rcases hO b with z | ⟨hb,z⟩ | ⟨hb,z⟩
     .exact⟨o,kept b o e z⟩
     .exact⟨o,scr b o e hb z⟩
     .obtain⟨more,e2⟩:=tab b z
      exact⟨_,e2⟩
 cases hk:K.lookup a with
 | some o =>
  have e:=KX a o hk
  rw[ha]at e
  cases e
  have haT:a ∉ ts.map (·.2.2):=λz=>by
   obtain⟨t,ht,e⟩:=List.mem_map.mp z
   exact aP t ht e
  refine core (λb=>if b∈ts.map (·.2.2) then some (.tbl #[]) else none) (λb=>?_) (λt ht=>if_pos (List.mem_map_of_mem ht)) (.inr ⟨_,vs.toArray,_,hk,rfl,rfl,rfl,by rw[List.size_toArray,lenV];exact hl,by simpa using rv⟩) λz=>absurd (if_neg haT) z
  by_cases hb:b∈ts.map (·.2.2)
  .exact .inr (.inr ⟨hb,if_pos hb⟩)
  .exact .inl (if_neg hb)
 | none =>
  refine core (λb=>if b=a then some (.frz { cls:=.type "list",data:=.seq vs.toArray } (.lst (ns.map V.int))) else if b∈ts.map (·.2.2) then some (.tbl #[]) else none) (λb=>?_) (λt ht=>?_) (.inl (.inr ⟨{ cls:=.type "list",data:=.seq vs.toArray },if_pos rfl⟩)) λ_=>hk
  .by_cases hb:b=a
   .exact .inr (.inl ⟨hb,if_pos hb⟩)
   .by_cases hb2:b∈ts.map (·.2.2)
    .exact .inr (.inr ⟨hb2,by rw[if_neg hb,if_pos hb2]⟩)
    .exact .inl (by rw[if_neg hb,if_neg hb2])
  .rw[if_neg (aP t ht)]
   exact if_pos (List.mem_map_of_mem (f:=λt:Str×Addr×Addr=>t.2.2) ht)
theorem walk_ofT {l:PySem.W.OpenLaw}{n k:Nat}{q:Program}{loose:List Str}{XP:(Str->Option Value)->Heap->Prop}{YP:World->Heap->Prop}{d:DefRec}{K:Params->Fg}{CX:World->CXT}{sp:World->Sp}{x:Str}(lam:List Str)
  (hn:l.most=some n) (hn2:n<=sizeLine) (hdf:d.params.defaults=[]) (hr:Room k callerA)
  (hrec:(lam.all λx=>((recsOf q).find? λe=>e.name == x).isSome)=true) (hnt:∀w:World,PySem.W.noTabs (K w.params)=true)
  (hY:∀(w:World) (h:Heap),YP w h->(K w.params).In h)
  (F:∀(w:World) (mg:Str->Option Value) (fa:Addr) (h:Heap),(K w.params).In h->h.Ns mainGlobals mg->mg d.name=some (.ref fa) ->
   ∃fd:FuncData,(∀(s:Shared) (u:Value),BindsTo s fd ⟨[u],[]⟩ [(x,u)]) /\
    ∀base:Heap,(K w.params).In base->base.Ns mainGlobals mg->BMd base mg->(∀t∈tabsK lam (K w.params),PySem.W.CodeHd base t.2.1 t.2.2)->FnOk l.prog w (K w.params) mg base (CX w) k fa fd [x] (sp w))
  (hsp:∀(w:World) (H:Hp) (a:Addr) (ns:List Int),ns.length<=n->SqL (K w.params) H a (ns.map V.int)->A9 (tabsK lam (K w.params)) H->sp w [.ref a] H (λv _=>v = .bl true) λ_ _ _=>False)
  (hCX:∀(w:World) (H:Hp) (s:Shared) (e:Value) (s':Shared),CX w [] H s (λ_ _ _=>False) e s'->False) :
  PySem.W.WalkO q loose XP YP l.row.toRowW d [] (λf vs=>PySem.call f vs):=by
 refine Att.attach_call hn hdf λw s₀ s₁ mg mb fa o pm cd doc a vs ns G Y ho hd hcd hmg hobj hints hlen hg=>?_
 have KX:=hY w _ Y
 obtain⟨fd,hb,hF⟩:=F w mg fa _ KX G.T.g hmg
 refine qm (ts:=tabsK lam (K w.params)) KX G.T.g G.T.b G.T.builtins G.T.nolimit hg hobj hints (Nat.le_trans hlen hn2) hr (λt ht=>?_) (hnt w) G.T.bmain hF hb (λH hS hT=>hsp w H a ns hlen hS hT) λH e s'=>hCX w H s₁ e s'
 obtain⟨x,hx,e⟩:=List.mem_filterMap.mp ht
 obtain⟨⟨c,P⟩,e1,e2⟩:=Option.map_eq_some_iff.mp e
 cases e2
 obtain⟨dr,hdr⟩:=Option.isSome_iff_exists.mp (List.all_eq_true.mp hrec x hx)
 exact PySem.W.tab_of G.T KX hdr e1
theorem lamB_mk [Feeds]{K:Fg}{mg:Str->Option Value}{base:Heap}{x:Str}{f:Addr}{oc:Value}{od:Option Addr}{fd:FuncData}{osl:Array (Option Value)}(ga:PySem.W.nsIn K mainGlobals x=some (some (.ref f)))(gl:K.lookup f=some ⟨oc,od,.func fd,osl⟩)
  (hx:x∈(Feeds.lam:List Str)) (hs:(PySem.W.tabIn K x).isSome=true) (nd:(tabP K).Nodup) (BM:BMd base mg) (hC:∀t∈tabsK Feeds.lam K,PySem.W.CodeHd base t.2.1 t.2.2):∃c P,LamB K mg base x fd c P:=by
 obtain⟨⟨c,P⟩,e⟩:=Option.isSome_iff_exists.mp hs
 have hm:(x,c,P)∈tabsK Feeds.lam K:=List.mem_filterMap.mpr ⟨x,hx,by rw[e];rfl⟩
 refine⟨c,P,hm,?_,hC _ hm,BM,nd⟩
 unfold PySem.W.tabIn at e
 rw[ga]at e
 simp only[gl]at e
 split at e
 .rename_i c2 hc
  split at e
  .split at e
   .cases e;exact hc
   .cases e
  .cases e
 .cases e
end
section
section
variable [Feeds]{K:Fg}{X:Cx}{e a b c:Expr}{te:TE}{pos:Pos}
def we (K:Fg)(B:List Addr)(H H':Hp):DV->V->Prop
 | .dat d,v=>a7 K (hid H' B) d v
 | .own ds,v=>∃a vs,v = .ref a/\H a=none/\H' a=some (.lst vs)/\a6 K (hid H' (a::B)) ds vs
 | .feed,_=>False
 | .fn _,_=>False
 | .adr _,_=>False
def gg (B:List Addr):DV->V->List Addr
 | .own _,.ref a=>a::B
 | _,_=>B
def TCd (K:Fg)(te:TE)(mc:DE->M DV):Prop:=∀(G:GF) (B:List Addr) (E:DE) (F:FS) (σ:St) (H:Hp) (Q:VK) (dv:DV) (F':FS),SitE K G B E F σ H->mc E F=some (dv,F') ->
 (∀v H',Kp (k9 K G) H H'->FAt K G H' F'->we K B H H' dv v->Q v H')->te σ H Q
structure Ec (K:Fg) (X:Cx) (e:Expr) (te:TE) (m:DE->M DV):Prop where
 pe:PE X e te
 ok:TCd K te m
def cO (m:DE->M (List PyData)):DE->M DV:=λE F=>(m E F).bind λp=>some (.own p.1,p.2)
theorem rP {m:DE->M (List PyData)}(h:Ef K X e te m):Ec K X e te (cO m):=⟨h.pe,λG B E F σ H Q dv F' I e q=>by
 obtain⟨⟨d,F1⟩,e1,e⟩:=bS9 e
 cases e
 exact h.ok G B E F σ H _ d F1 I e1 λa vs H' h1 h2 k f r=>q _ H' k f ⟨a,vs,rfl,h1,h2,r⟩⟩
section
variable {G:GF}{B B0:List Addr}{E:DE}{F F1:FS}{σ:St}{H H1 H0:Hp}{dv:DV}{v:V}{i:Nat}
theorem zy (I:SitE K G B E F σ H)(k1:Kp (k9 K G) H H1)(r:we K B H H1 dv v):d8 (hid H B) (hid H1 (gg B dv v)):=by
 cases dv with
 | dat d=>exact k1.hid I.fB
 | feed=>exact r.elim
 | fn _=>exact r.elim
 | adr _=>exact r.elim
 | own ds =>
  obtain⟨a,vs,rfl,hn,ha,h1⟩:=r
  intro b o eb
  by_cases hb:b∈B
  .rw[v7 hb]at eb;cases eb
  .rw[e8 hb]at eb
   have hne:=d6 eb hn
   show hid H1 (a::B) b=some o
   rw[e8 (by simp[hne,hb])]
   exact k1 b o eb λz=>hb (I.fB b z)
theorem fU:∀b∈B,b∈gg B dv v:=λb hb=>by
 cases dv <;> cases v <;> first | exact hb | exact List.mem_cons_of_mem _ hb
theorem SitE.moreC (I:SitE K G B E F σ H)(k1:Kp (k9 K G) H H1)(f1:FAt K G H1 F1)(r:we K B H H1 dv v):SitE K G (gg B dv v) E F1 σ H1:=by
 have sm:=zy I k1 r
 refine⟨f1,λb hb=>fU b (I.fB b hb),λb hb=>?_,I.ln,λj x ej=>?_⟩
 .have old:b∈B->∃o,H1 b=some o:=λhb=>(I.step k1 f1).bk b hb
  cases dv with
  | dat d=>cases v <;> exact old hb
  | feed=>exact r.elim
  | fn _=>exact r.elim
  | adr _=>exact r.elim
  | own ds =>
   obtain⟨a,vs,rfl,hn,ha,h1⟩:=r
   rcases List.mem_cons.mp hb with rfl | hb
   .exact⟨_,ha⟩
   .exact old hb
 .obtain⟨w,v1,v2⟩:=I.loc j x ej
  refine⟨w,v1,?_⟩
  cases x with
  | dat d=>exact a7.same (show a7 K (hid H B) d w from v2) sm
  | feed=>exact v2
  | fn _=>exact v2
  | adr _=>exact v2
  | own es =>
   obtain⟨a',xs',rfl,hB',hf',ha',hd'⟩:=v2
   exact⟨a',xs',rfl,fU _ hB',hf',k1 _ _ ha' hf',hd'.same sm⟩
theorem Sit.putC (S:Sit K G B0 H0 E F σ H)(s:∀b∈B0,b∈B)(sn:∀b∈B,b∈B0\/H0 b=none)(I:SitE K G B E F σ H)(k1:Kp (k9 K G) H H1)(f1:FAt K G H1 F1)(r:we K B H H1 dv v)(hl:i<E.length) :
  Sit K G B0 H0 (E.set i (some dv)) F1 (σ.set i (some v)) H1/\(∀b∈B0,b∈gg B dv v)/\(∀b∈gg B dv v,b∈B0\/H0 b=none)/\SitE K G (gg B dv v) (E.set i (some dv)) F1 (σ.set i (some v)) H1:=by
 have hsl:i < σ.length:=by rw[<-I.ln];exact hl
 have s':∀b∈B0,b∈gg B dv v:=λb hb=>fU b (s b hb)
 have newB:∀ds,dv = .own ds->∃a vs,v = .ref a/\H1 a=some (.lst vs)/\a6 K (hid H1 (a::B)) ds vs/\a ∉ B/\a ∉ k9 K G/\H0 a=none:=λds e=>by
  subst e
  obtain⟨a,vs,rfl,hn,ha,h1⟩:=r
  have haB:a ∉ B:=I.bk.nin hn
  have haf:a ∉ k9 K G:=λz=>haB (I.fB a z)
  exact⟨a,vs,rfl,ha,h1,haB,haf,S.kp.none hn haf⟩
 have sn':∀b∈gg B dv v,b∈B0\/H0 b=none:=λb hb=>by
  cases dv with
  | dat d=>cases v <;> exact sn b hb
  | feed=>exact r.elim
  | fn _=>exact r.elim
  | adr _=>exact r.elim
  | own ds =>
   obtain⟨a,vs,rfl,ha,h1,haB,haf,h0⟩:=newB ds rfl
   rcases List.mem_cons.mp hb with rfl | hb
   .exact .inr h0
   .exact sn b hb
 have IC:=I.moreC k1 f1 r
 have I':SitE K G (gg B dv v) (E.set i (some dv)) F1 (σ.set i (some v)) H1:=by
  refine⟨IC.fd,IC.fB,IC.bk,by rw[List.length_set,List.length_set];exact I.ln,λj x ej=>?_⟩
  by_cases hj:i=j
  .subst hj
   rw[List.getElem?_set_self hl]at ej
   cases ej
   refine⟨v,by rw[List.getElem?_set_self hsl],?_⟩
   cases dv with
   | dat d=>cases v <;> exact r
   | feed=>exact r.elim
   | fn _=>exact r.elim
   | adr _=>exact r.elim
   | own ds =>
    obtain⟨a,vs,rfl,ha,h1,haB,haf,h0⟩:=newB ds rfl
    exact⟨a,vs,rfl,List.mem_cons_self,haf,ha,h1⟩
  .rw[List.getElem?_set_ne hj]at ej
   obtain⟨w,v1,v2⟩:=IC.loc j x ej
   exact⟨w,by rw[List.getElem?_set_ne hj];exact v1,v2⟩
 have other:∀(ds:List PyData) (j:Nat) (es:List PyData) (a:Addr),dv = .own ds->v = .ref a->E[j]? = some (some (DV.own es))->σ[j]? ≠ some (some (V.ref a)):=λds j es a e ev ej z=>by
  obtain⟨a1,vs,ev1,ha,h1,haB,haf,h0⟩:=newB ds e
  rw[ev]at ev1;cases ev1
  obtain⟨w,v1,a',xs',rfl,hB',_⟩:=I.loc j _ ej
  rw[v1]at z;cases z
  exact haB hB'
 refine⟨⟨⟨gg B dv v,s',sn',I'⟩,S.fB,S.kp.trans k1,λj es a' ej sj=>?_,λj k es es' a' ej ek sj sk=>?_⟩,s',sn',I'⟩
 .by_cases hj:i=j
  .subst hj
   rw[List.getElem?_set_self hl]at ej
   rw[List.getElem?_set_self hsl]at sj
   have e1:dv = .own es:=Option.some.inj (Option.some.inj ej)
   have e2:v = .ref a':=Option.some.inj (Option.some.inj sj)
   obtain⟨a,vs,ev,ha,h1,haB,haf,h0⟩:=newB es e1
   rw[e2]at ev;cases ev
   exact⟨h0,λz=>haB (s _ z)⟩
  .rw[List.getElem?_set_ne hj]at ej sj
   exact S.own j es a' ej sj
 .by_cases hj:i=j
  .by_cases hk:i=k
   .rw[<-hj,<-hk]
   .subst hj
    rw[List.getElem?_set_self hl]at ej
    rw[List.getElem?_set_self hsl]at sj
    rw[List.getElem?_set_ne hk]at ek sk
    have e1:dv = .own es:=Option.some.inj (Option.some.inj ej)
    have e2:v = .ref a':=Option.some.inj (Option.some.inj sj)
    exact absurd sk (other es k es' a' e1 e2 ek)
  .by_cases hk:i=k
   .subst hk
    rw[List.getElem?_set_self hl]at ek
    rw[List.getElem?_set_self hsl]at sk
    rw[List.getElem?_set_ne hj]at ej sj
    have e1:dv = .own es':=Option.some.inj (Option.some.inj ek)
    have e2:v = .ref a':=Option.some.inj (Option.some.inj sk)
    exact absurd sj (other es' j es a' e1 e2 ej)
   .rw[List.getElem?_set_ne hj]at ej sj
    rw[List.getElem?_set_ne hk]at ek sk
    exact S.inj j k es es' a' ej ek sj sk
end
def oP (i j:Nat)(c1 c2:DE->M DV):DE->M Out:=λE F=>(c1 E F).bind λp=>(c2 E p.2).bind λq=>if i<E.length/\j<E.length then some (.nx ((E.set i (some p.1)).set j (some q.1)),q.2) else none
theorem vg (i j:Nat){x y:Str}{t1 t2:TE}{c1 c2:DE->M DV}{px py pt:Pos}{kt k2 pt2}(hc:X.calm=true)(hN:X.N.Nodup)(h1:Ec K X a t1 c1)(h2:Ec K X b t2 c2)(hi:X.N[i]? = some x:=by rfl)(hj:X.N[j]? = some y:=by rfl)(hij:i≠j:=by decide)
  (hx:X.env.scope.names.lookup x=some .local:=by rfl) (hy:X.env.scope.names.lookup y=some .local:=by rfl)
  (hw:swappedStores [.Tuple [.Name x px,.Name y py] kt pt] (.Tuple [a,b] k2 pt2) X.env=pure (some [x,y]):=by rfl)
  (hs:swapsWithSole [.Tuple [.Name x px,.Name y py] kt pt] (.Tuple [a,b] k2 pt2) pos.line X.env=pure false:=by rfl)
  (hs1:starEach [a,b] X.env=(false,eval a X.env)::starEach [b] X.env:=by rfl) (hs2:starEach [b] X.env=(false,eval b X.env)::starEach [] X.env:=by rfl) :
  Ss K X (.Assign [.Tuple [.Name x px,.Name y py] kt pt] (.Tuple [a,b] k2 pt2) pos) (Ba i j (q4 t1 (q4 t2 C8))) (oP i j c1 c2):=⟨zG hc hN hi hj hij hx hy (h9 h1.pe (h9 h2.pe j6 hs2) hs1) hw hs,λG B0 H0 E F σ H D r F' S e q=>by
 obtain⟨⟨d1,F1⟩,e1,e⟩:=bS9 e
 obtain⟨⟨d2,F2⟩,e2,e⟩:=bS9 e
 split at e
 case isFalse=>cases e
 rename_i hl
 cases e
 obtain⟨B,s,sn,I⟩:=S.ex
 refine h1.ok G B E F σ H _ d1 F1 I e1 λv H1 k1 f1 r1=>?_
 obtain⟨S1,s1,sn1,I1⟩:=S.putC s sn I k1 f1 r1 hl.1
 refine h2.ok G _ E F1 σ H1 _ d2 F2 (I.moreC k1 f1 r1) e2 λw H2 k2' f2 r2=>?_
 obtain⟨S2,_⟩:=S1.putC s1 sn1 I1 k2' f2 r2 (i:=j) (by rw[List.length_set];exact hl.2)
 exact⟨v,w,rfl,q _ _ S2⟩⟩
def iL (i j k:Nat)(c1 c2 c3:DE->M DV):DE->M Out:=λE F=>(c1 E F).bind λp=>(c2 E p.2).bind λq=>(c3 E q.2).bind λr=>if i<E.length/\j<E.length/\k<E.length then some (.nx (((E.set i (some p.1)).set j (some q.1)).set k (some r.1)),r.2) else none
theorem tN (i j k:Nat){x y z:Str}{t1 t2 t3:TE}{c1 c2 c3:DE->M DV}{px py pz pt:Pos}{kt k2 pt2}(hc:X.calm=true)(hN:X.N.Nodup)(h1:Ec K X a t1 c1)(h2:Ec K X b t2 c2)(h3:Ec K X c t3 c3)(hi:X.N[i]? = some x:=by rfl)(hj:X.N[j]? = some y:=by rfl)(hk:X.N[k]? = some z:=by rfl)(hij:i≠j:=by decide)(hik:i≠k:=by decide)(hjk:j≠k:=by decide)
  (hx:X.env.scope.names.lookup x=some .local:=by rfl) (hy:X.env.scope.names.lookup y=some .local:=by rfl) (hz:X.env.scope.names.lookup z=some .local:=by rfl)
  (hw:swappedStores [.Tuple [.Name x px,.Name y py,.Name z pz] kt pt] (.Tuple [a,b,c] k2 pt2) X.env=pure (some [x,y,z]):=by rfl)
  (hs:swapsWithSole [.Tuple [.Name x px,.Name y py,.Name z pz] kt pt] (.Tuple [a,b,c] k2 pt2) pos.line X.env=pure false:=by rfl)
  (hs1:starEach [a,b,c] X.env=(false,eval a X.env)::starEach [b,c] X.env:=by rfl) (hs2:starEach [b,c] X.env=(false,eval b X.env)::starEach [c] X.env:=by rfl) (hs3:starEach [c] X.env=(false,eval c X.env)::starEach [] X.env:=by rfl) :
  Ss K X (.Assign [.Tuple [.Name x px,.Name y py,.Name z pz] kt pt] (.Tuple [a,b,c] k2 pt2) pos) (xF i j k (q4 t1 (q4 t2 (q4 t3 C8)))) (iL i j k c1 c2 c3):=⟨va hc hN hi hj hk hij hik hjk hx hy hz (h9 h1.pe (h9 h2.pe (h9 h3.pe j6 hs3) hs2) hs1) hw hs,λG B0 H0 E F σ H D r F' S e q=>by
 obtain⟨⟨d1,F1⟩,e1,e⟩:=bS9 e
 obtain⟨⟨d2,F2⟩,e2,e⟩:=bS9 e
 obtain⟨⟨d3,F3⟩,e3,e⟩:=bS9 e
 split at e
 case isFalse=>cases e
 rename_i hl
 cases e
 obtain⟨B,s,sn,I⟩:=S.ex
 refine h1.ok G B E F σ H _ d1 F1 I e1 λv H1 k1 f1 r1=>?_
 obtain⟨S1,s1,sn1,I1⟩:=S.putC s sn I k1 f1 r1 hl.1
 refine h2.ok G _ E F1 σ H1 _ d2 F2 (I.moreC k1 f1 r1) e2 λw H2 k2' f2 r2=>?_
 obtain⟨S2,s2,sn2,I2⟩:=S1.putC s1 sn1 I1 k2' f2 r2 (i:=j) (by rw[List.length_set];exact hl.2.1)
 refine h3.ok G _ E F2 σ H2 _ d3 F3 ((I.moreC k1 f1 r1).moreC k2' f2 r2) e3 λu H3 k3 f3 r3=>?_
 obtain⟨S3,_⟩:=S2.putC s2 sn2 I2 k3 f3 r3 (i:=k) (by rw[List.length_set,List.length_set];exact hl.2.2)
 exact⟨v,w,u,rfl,q _ _ S3⟩⟩
end
end
section
section
variable {K:Fg}{X0:Cx}{tg iter:Expr}{te:TE}{pos:Pos}
end
section
variable {K:Fg}{X:Cx}[Feeds]
end
def FdS.fstN (F:FdS):Int:=(F.cellL % 1000003+37*F.a*F.a+13*F.a+5)*48271 % 999983
def FdS.mixN (F:FdS):Int:=((F.fstN*F.fstN+7919*F.a+11) % 2097143)*69621 % 2147483629 / 7
def dG (m:Int)(F:FdS):Option (Int×FdS):=if 0<m/\m<1073741824/\F.t<199999 then
  some (if 0<F.l then(F.l % m,⟨F.ns,F.a,F.l / m,F.t+1⟩)
   else if 10 ^ 18<=F.cellL/\F.a<F.ns.length then(F.cellL % m,⟨F.ns,F.a+1,F.cellL / m,F.t+1⟩)
   else(F.mixN % m,⟨F.ns,F.a+1,F.l,F.t+1⟩))
 else none
theorem mQ {m:Int}{F:FdS}(h0:0<m)(h1:m<1073741824)(h2:F.t<199999):∃r F',dG m F=some (r,F')/\0<=r/\r<m/\F'.t=F.t+1:=by
 have b:∀x:Int,0<=x % m/\x % m<m:=λx=>⟨Int.emod_nonneg _ (by omega),Int.emod_lt_of_pos _ h0⟩
 unfold dG
 rw[if_pos ⟨h0,h1,h2⟩]
 by_cases hl:0<F.l
 .rw[if_pos hl];exact⟨_,_,rfl,(b _).1,(b _).2,rfl⟩
 .rw[if_neg hl]
  by_cases hc:10 ^ 18<=F.cellL/\F.a<F.ns.length
  .rw[if_pos hc];exact⟨_,_,rfl,(b _).1,(b _).2,rfl⟩
  .rw[if_neg hc];exact⟨_,_,rfl,(b _).1,(b _).2,rfl⟩
@[reducible] def Bu (l:List Str):Fam where
 At:=λd c H F=>H d=some (.lst [.ref c,.int F.a,.int F.l])/\H c=some (.lst (F.ns.map V.int))/\F.ns.length<=63/\0<=F.a/\F.a<=F.t/\d≠c
 some1:=λh=>⟨_,h.1,⟨λ_ z=>(by cases z),λ_ z=>(by cases z)⟩⟩
 some2:=λh=>⟨_,h.2.1,⟨λ_ z=>(by cases z),λ_ z=>(by cases z)⟩⟩
 lam:=l
 congr:=λh e1 e2=>⟨e1.trans h.1,e2.trans h.2.1,h.2.2⟩
 drawF:=dG
 draw_some:=mQ
end
section
end
section
section
variable {K:Fg}{X:Cx}[Feeds]
end
end
section
section
variable {M:Lang}{A:Around}{E:Value->Shared->Prop}{s:Shared}
end
section
variable {prog:Program}{w:World}{A:Around}{E:Value->Shared->Prop}{s:Shared}
end
section
variable {K:Fg}{X:Cx}[Feeds]
variable {e:Expr}{te:TE}{m:DE->M PyData}{pos:Pos}
variable {a b:Expr}
end
end
section
section
variable [Feeds]
variable {K:Fg}{X:Cx}{e i v1 v2 v3:Expr}{es:List Expr}{te t1 t2 t3 ti:TE}{m1 m2 m3 mi:DE->M PyData}{p pos p1 p2 p3:Pos}
variable {P:Program}{w:World}{mg:Str->Option Value}{base:Heap}
def spG (K:Fg)(n:Nat)(f:List DV->M (List PyData)):Sp:=λvs H Q _=>∃G B F args ds F',vs.length=n/\(∀b∈k9 K G,b∈B)/\BOk H B/\FAt K G H F/\dU K G B H args vs/\f args F=some (ds,F') /\
 ∀a ws H',H a=none->H' a=some (.lst ws)->Kp (k9 K G) H H'->FAt K G H' F'->a6 K (hid H' (a::B)) ds ws->Q (.ref a) H'
def zu (N:List Str)(mf:DE->M (List PyData)):List DV->M (List PyData):=λargs F=>mf (u6 N args) F
def jW (f:List DV->M (List PyData))(ms:DE->M (List DV)):DE->M (List PyData):=λE F=>(ms E F).bind λp=>f p.1 p.2
theorem uS {n:Nat}{f:List DV->M (List PyData)}{ta:TA}{ms:DE->M (List DV)}(h:TVd K ta ms)(hn:∀E F args F',ms E F=some (args,F')->args.length=n):TFd K (Y0 (spG K n f) [] E0 ta) (jW f ms):=λG B E F σ H Q ds F' I e q=>by
 obtain⟨⟨args,F1⟩,e1,e⟩:=bS9 e
 refine h G B E F σ H _ args F1 I e1 λvs H1 k1 f1 h1=>?_
 rw[List.append_nil]
 refine⟨G,B,F1,args,ds,F',by rw[h1.length];exact hn _ _ _ _ e1,I.fB,w6 I.bk k1 f1,f1,h1,e,λa ws H2 hn2 ha2 k2 f2 h2=>q a ws H2 ?_ ha2 (k1.trans k2) f2 h2⟩
 exact k1.none hn2 λz=>(w6 I.bk k1 f1).nin hn2 (I.fB a z)
theorem wC {x:Str}{k n:Nat}{ps:List Str}{f:List DV->M (List PyData)}{tl:TA}{ms:DE->M (List DV)}(C:Callee X.prog X.w X.K X.mg X.base x k ps (spG K n f))(hr:Room k X.A)(ha:Evs K X (e::es) tl ms)(hn:∀E F args F',ms E F=some (args,F')->args.length=n)(hg:Gl X x:=by rfl)
  (hdb:(x == ("__debug__":Str))=false:=by decide) (he:starEach (e::es) X.env=(false,eval e X.env)::starEach es X.env:=by rfl) (hpl:(backTo pos (starEach es X.env)).any (·.1)=false:=by rfl) :
  Ef K X (.Call (.Name x p) (e::es) [] pos) (Y0 (spG K n f) [] E0 tl) (jW f ms):=⟨V1 C hr hg ha.pa hdb he hpl,uS ha.ok hn⟩
end
end
section
section
variable {prog:Program}{w:World}{A:Around}{E:Value->Shared->Prop}{s:Shared}
variable {b1 b2:Bool}{z TI TO i1 i2 l1 l2:Addr}{k:Nat}{xs ys:Array Value}{x y a b:Value}
end
end
section
section
variable {prog:Program}{w:World}{A:Around}{E:Value->Shared->Prop}{s:Shared}
end
section
variable [Feeds]{K:Fg}{X:Cx}{tg e1 e2:Expr}{te1 te2:TE}{m1 m2:DE->M PyData}{pos p tp:Pos}{es:List Expr}{tk:Nat}
end
end
end L3
namespace L2
open PySem PySem.Spec PyProof.Rows
section
section
variable {prog:Program}{w:World}{A:Around}{R:Result->Shared->Prop}{s:Shared}
end
end
section
end
end L2
namespace L3
open PySem PySem.Spec PyProof.Rows L2
section
section
variable [Feeds]
variable {K:Fg}{X:Cx}{tg iter tg1 iter1 elt:Expr}{te:TE}{pos:Pos}
end
end
section
section
variable [Feeds]
variable {K:Fg}{X:Cx}{st:Stmt}{rest:List Stmt}{t u:TS}{mt:DE->M Out}{mu:DE->M (List PyData)}{p pos:Pos}
variable {P:Program}{w:World}{mg:Str->Option Value}{base:Heap}
def gSq (a:DE->M Out)(b:DE->M (List PyData)):DE->M (List PyData):=λE F=>(a E F).bind λp=>match p.1 with
 | .nx E1=>b E1 p.2
 | _=>none
def tD (i:Nat):DE->M (List PyData):=λE F=>match E[i]? with
 | some (some (.own ds))=>some (ds,F)
 | _=>none
structure SsG (K:Fg) (X:Cx) (sts:List Stmt) (ts:TS) (m:DE->M (List PyData)):Prop where
 ps:PSs X sts ts
 ok:∀(G:GF) (B0:List Addr) (H0:Hp) (E:DE) (F:FS) (σ:St) (H:Hp) (D:Ends) (ds:List PyData) (F':FS),Sit K G B0 H0 E F σ H->m E F=some (ds,F') ->
  (∀a ws H',H0 a=none->H' a=some (.lst ws)->Kp (k9 K G) H0 H'->FAt K G H' F'->a6 K (hid H' (a::B0)) ds ws->D.rt (.ref a) H')->ts D σ H
theorem sA (i:Nat){x:Str}(hN:X.N[i]? = some x:=by rfl)(hv:Vis X.env.scope x:=by first | exact Or.inl rfl | exact Or.inr (Or.inl rfl) | exact Or.inr (Or.inr rfl))(hd:(x == ("__debug__":Str))=false:=by decide)
  (hcd:(x == ("__classdict__":Str))=false:=by decide):SsG K X [.Return (some (.Name x p)) pos] (pV (l8 i)) (tD i):=⟨C0 (W2 (D4 hN hv hd hcd)),λG B0 H0 E F σ H D ds F' S e q=>by
 obtain⟨B,s,sn,I⟩:=S.ex
 unfold tD at e
 split at e
 .rename_i x hx
  cases e
  obtain⟨v,h1,p,xs,rfl,hB,hf,hp,hd⟩:=I.loc i _ hx
  obtain⟨n1,n2⟩:=S.own i _ p hx h1
  exact⟨_,h1,q p xs H n1 hp S.kp I.fd (hd.same (J4 λb hb=>by
   rcases List.mem_cons.mp hb with rfl | hb
   .exact hB
   .exact s b hb))⟩
 .cases e⟩
theorem W1 (h1:Ss K X st t mt)(h2:SsG K X rest u mu):SsG K X (st::rest) (O9 t u) (gSq mt mu):=⟨i8 h1.ps h2.ps,λG B0 H0 E F σ H D ds F' S e q=>by
 obtain⟨⟨o,F1⟩,e1,e⟩:=bS9 e
 refine h1.ok G B0 H0 E F σ H _ o F1 S e1 ?_
 cases o with
 | nx E1=>exact λσ' H' S'=>h2.ok G B0 H0 E1 F1 σ' H' D ds F' S' e q
 | rt d=>cases e
 | bk E1=>cases e
 | ct E1=>cases e⟩
theorem wu {x qual:Str}{st:Stmt}{f:Addr}{fd:FuncData}{N ps:List Str}{k:Nat}{mf:DE->M (List PyData)}(Fn:Fun K x qual st f fd)(S:FnScope N ps (defScope st))
  (hbody:∀(cdv:Value) (A:Around) (outer:List Env) (s:Shared) (H:Hp) (E:XK),Room k (A.deeper (envOfC qual (defScope st) s.heap.objs.size f cdv)) ->
   ∃ts,SsG K (M5 CX0 P w K mg base N qual (defScope st) f cdv A outer s H E).nox (defBody st) ts mf):FnOk P w K mg base CX0 (k+1) f fd ps (spG K ps.length (zu N mf)):=by
 refine Fn.ok S (λvs H Q E h=>?_) (λcdv A outer s H vs Q E hr h=>?_)
 .obtain⟨G,B,F,args,d,F',hl,_⟩:=h
  exact hl
 .obtain⟨G,B,F,args,ds,F',hl,fB,bk,fa,ha,e1,q⟩:=h
  obtain⟨ts,hts⟩:=hbody cdv A outer s H E hr
  exact⟨ts,hts.ps,hts.ok G B H (u6 N args) F (L2.B5 N vs) H _ ds F' (cN fB bk fa ha) e1 q⟩
end
end
end L3
namespace L2
open PySem PySem.Spec PyProof.Rows
section
variable {X:Cx}{K:Fg}
end
end L2
namespace L3
open PySem PySem.Spec PyProof.Rows L2
section
section
variable [Feeds]{K:Fg}{X:Cx}
end
end
section
section
variable [Feeds]
variable {K:Fg}{X:Cx}{e:Expr}{es:List Expr}{p pos:Pos}
end
end
section
section
variable [Feeds]
variable {K:Fg}{X:Cx}{e:Expr}{te:TE}{m:DE->M PyData}{p pos:Pos}
end
end
end L3
namespace L3
open PySem PySem.Spec PyProof.Rows L2 PySem.SeqAt
section
variable [Feeds]{K:Fg}{X:Cx}
end
end L3
namespace L3
open PySem PySem.Spec PyProof.Rows L2
section
section
variable {prog:Program}{w:World}{A:Around}{E:Value->Shared->Prop}{s:Shared}
variable {b1 b2 f:Bool}{z TI TO T0 i1 i2 l1 l2:Addr}{k:Nat}{xs ys:Array Value}{x y a b:Value}{oT:Obj}
end
end
section
section
variable {X:Cx}{K:Fg}{p p2 pos pos2:Pos}
end
section
variable [Feeds]{X:Cx}{K:Fg}{p p2 pos pos2:Pos}{e1 e2:Expr}{te1 te2:TE}{m1 m2:DE->M PyData}
end
end
section
section
variable {prog:Program}{w:World}{A:Around}{E:Value->Shared->Prop}{s:Shared}
end
section
variable [Feeds]{K:Fg}{X:Cx}{tg e1 e2:Expr}{te1 te2:TE}{m1 m2:DE->M PyData}{pos p tp:Pos}{es:List Expr}{tk:Nat}
end
end
section
variable [Fam]
def wp {α σ:Type}(m:Option (α × σ))(Q:α->σ->Prop):Prop:=∃a F',m=some (a,F')/\Q a F'
section
variable {α β γ σ τ:Type}{Q:α->σ->Prop}
theorem a8 {a:α}{F:σ}:wp (some (a,F)) Q↔Q a F:=⟨λ⟨_,_,e,q⟩=>by cases e;exact q,λq=>⟨_,_,rfl,q⟩⟩
theorem k4:wp (none:Option (α × σ)) Q↔False:=⟨λ⟨_,_,e,_⟩=>(by cases e),False.elim⟩
theorem b7 {x:Option (β × τ)}{f:β × τ->Option (α × σ)}:wp (x.bind f) Q↔wp x λa F'=>wp (f (a,F')) Q:=by
 constructor
 .rintro ⟨a,F',e,q⟩
  obtain⟨⟨b,F1⟩,e1,e2⟩:=bS9 e
  exact⟨b,F1,e1,a,F',e2,q⟩
 .rintro ⟨b,F1,e1,a,F',e2,q⟩
  exact⟨a,F',by rw[e1];exact e2,q⟩
theorem k8 {o:Option γ}{f:γ->Option (α × σ)}:wp (o.bind f) Q↔∃z,o=some z/\wp (f z) Q:=by
 constructor
 .rintro ⟨a,F',e,q⟩
  obtain⟨z,e1,e2⟩:=bS9 e
  exact⟨z,e1,a,F',e2,q⟩
 .rintro ⟨z,e1,a,F',e2,q⟩
  exact⟨a,F',by rw[e1];exact e2,q⟩
theorem W7 {c:Prop}[Decidable c]{a b:Option (α × σ)}:wp (if c then a else b) Q↔if c then wp a Q else wp b Q:=by
 split <;> rfl
theorem f8 {m:Option (α × σ)}{Q':α->σ->Prop}(h:wp m Q)(hq:∀a F,Q a F->Q' a F):wp m Q':=by
 obtain⟨a,F,e,q⟩:=h
 exact⟨a,F,e,hq a F q⟩
theorem u9 {m:Option (α × σ)}{Q':α->σ->Prop}(h:∀a F,Q a F↔Q' a F):wp m Q↔wp m Q':=⟨λz=>f8 z λa F q=>(h a F).mp q,λz=>f8 z λa F q=>(h a F).mpr q⟩
theorem nP {z:γ}{P:γ->Prop}:(∃y,some z=some y/\P y)↔P z:=⟨λ⟨_,e,p⟩=>by cases e;exact p,λp=>⟨_,rfl,p⟩⟩
theorem D5 {m:Int}{F:FdS}{Q:PyData->FdS->Prop}(h0:0<m)(h1:m<1073741824)(h2:F.t<199999)(q:∀r F',0<=r->r<m->F'.t=F.t+1->Q (.int r) F'):wp (drawS [.feed,.dat (.int m)] F) Q:=by
 obtain⟨r,F',e,r0,r1,ht⟩:=Fam.draw_some h0 h1 h2
 exact⟨.int r,F',by show(Fam.drawF m F).bind _=_;rw[e];rfl,q r F' r0 r1 ht⟩
end
def gD (o:Option (Option DV))(P:PyData->Prop):Prop:=match o with
 | some (some (.dat d))=>P d
 | _=>False
def gW (o:Option (Option DV))(P:PyData->Prop):Prop:=match o with
 | some (some (.dat d))=>P d
 | some (some (.own ds))=>P (.list ds)
 | _=>False
def gF (o:Option (Option DV))(P:Prop):Prop:=match o with
 | some (some .feed)=>P
 | _=>False
def oB {γ:Type}(o:Option γ)(P:γ->Prop):Prop:=∃z,o=some z/\P z
def cIf (c:Bool)(A B:Prop):Prop:=if c=true then A else B
theorem aD {A B:Prop}:cIf true A B↔A:=by simp[cIf]
theorem U5 {A B:Prop}:cIf false A B↔B:=by simp[cIf]
theorem L8 {c:Bool}{A B:Prop}(h1:c=true->A)(h2:c=false->B):cIf c A B:=by
 cases c
 .exact U5.mpr (h2 rfl)
 .exact aD.mpr (h1 rfl)
section
variable {E:DE}{F:FdS}
theorem p6 {d:PyData}{Q:PyData->FdS->Prop}:wp (sC d E F) Q↔Q d F:=a8
theorem C2 {i:Nat}{Q:PyData->FdS->Prop}:wp (sV i E F) Q↔gD E[i]? λd=>Q d F:=by
 unfold sV gD;generalize E[i]? = o
 rcases o with _ | _ | x
 .exact k4
 .exact k4
 .cases x <;> first | exact a8 | exact k4
theorem j9 {i:Nat}{Q:PyData->FdS->Prop}:wp (sW i E F) Q↔gW E[i]? λd=>Q d F:=by
 unfold sW gW;generalize E[i]? = o
 rcases o with _ | _ | x
 .exact k4
 .exact k4
 .cases x <;> first | exact a8 | exact k4
theorem yK {f:PyData->Option PyData}{a:DE->M PyData}{Q:PyData->FdS->Prop}:wp (s1 f a E F) Q↔wp (a E F) λx F1=>oB (f x) λz=>Q z F1:=by
 unfold s1;rw[b7];simp only[k8,a8,oB]
theorem t8 {f:PyData->PyData->Option PyData}{a b:DE->M PyData}{Q:PyData->FdS->Prop}:wp (s2 f a b E F) Q↔wp (a E F) λx F1=>wp (b E F1) λy F2=>oB (f x y) λz=>Q z F2:=by
 unfold s2;rw[b7];refine u9 λx F1=>?_;rw[b7];refine u9 λy F2=>?_;simp only[k8,a8,oB]
theorem L7 {f:List PyData->Option PyData}{a:DE->M (List PyData)}{Q:PyData->FdS->Prop}:wp (sN f a E F) Q↔wp (a E F) λx F1=>oB (f x) λz=>Q z F1:=by
 unfold sN;rw[b7];simp only[k8,a8,oB]
theorem d9 {Q:List PyData->FdS->Prop}:wp (g7 E F) Q↔Q [] F:=a8
theorem c6 {a:DE->M PyData}{r:DE->M (List PyData)}{Q:List PyData->FdS->Prop}:wp (b8 a r E F) Q↔wp (a E F) λx F1=>wp (r E F1) λxs F2=>Q (x::xs) F2:=by
 unfold b8;rw[b7];simp only[b7,a8]
theorem O3 {a:DE->M (List PyData)}{Q:PyData->FdS->Prop}:wp (J5 a E F) Q↔wp (a E F) λxs F1=>xs.length<=sizeLine/\Q (.tuple xs) F1:=by
 unfold J5;rw[b7]
 constructor
 .exact λh=>f8 h λxs F1 h=>by
   split at h
   .rename_i hl;exact⟨hl,a8.mp h⟩
   .exact(k4.mp h).elim
 .exact λh=>f8 h λxs F1 h=>by rw[if_pos h.1];exact a8.mpr h.2
theorem E3 {Q:List DV->FdS->Prop}:wp (D2 E F) Q↔Q [] F:=a8
theorem Q5 {a:DE->M PyData}{r:DE->M (List DV)}{Q:List DV->FdS->Prop}:wp (vD a r E F) Q↔wp (a E F) λx F1=>wp (r E F1) λxs F2=>Q (.dat x::xs) F2:=by
 unfold vD;rw[b7];simp only[b7,a8]
theorem jH {i:Nat}{r:DE->M (List DV)}{Q:List DV->FdS->Prop}:wp (vF i r E F) Q↔gF E[i]? (wp (r E F) λxs F2=>Q (.feed::xs) F2):=by
 unfold vF gF;generalize E[i]? = o
 rcases o with _ | _ | x
 .exact k4
 .exact k4
 .cases x with
  | feed=>exact b7.trans (u9 λ_ _=>a8)
  | _=>exact k4
theorem B9 {f:List DV->M PyData}{ms:DE->M (List DV)}{Q:PyData->FdS->Prop}:wp (p8 f ms E F) Q↔wp (ms E F) λxs F1=>wp (f xs F1) Q:=by
 unfold p8;rw[b7]
theorem oE {a:DE->M PyData}{l u:DE->M (Option Int)}{Q:PyData->FdS->Prop}:wp (jR a l u E F) Q↔wp (a E F) λx F1=>wp (l E F1) λlo F2=>wp (u E F2) λhi F3=>oB (oS lo hi x) λz=>Q z F3:=by
 unfold jR;rw[b7];refine u9 λx F1=>?_;rw[b7];refine u9 λy F2=>?_;rw[b7];refine u9 λy F2=>?_;simp only[k8,a8,oB]
theorem ou {Q:Option Int->FdS->Prop}:wp (oNo E F) Q↔Q none F:=a8
theorem vc {a:DE->M PyData}{Q:Option Int->FdS->Prop}:wp (oI a E F) Q↔wp (a E F) λx F1=>oB (ku x) λi=>Q (some i) F1:=by
 unfold oI;rw[b7];simp only[k8,a8,oB]
theorem iK {a b:DE->M PyData}{Q:PyData->FdS->Prop}:wp (jr a b E F) Q↔wp (a E F) λx F1=>oB (W4 x) λc=>cIf c (wp (b E F1) Q) (Q (.bool false) F1):=by
 unfold jr;rw[b7];simp only[k8,W7,a8,oB,cIf]
theorem oD {c:DE->M Bool}{a b:DE->M PyData}{Q:PyData->FdS->Prop}:wp (sIf c a b E F) Q↔wp (c E F) λx F1=>cIf x (wp (a E F1) Q) (wp (b E F1) Q):=by
 unfold sIf;rw[b7];simp only[W7,cIf]
theorem O4 {a:DE->M PyData}{Q:Bool->FdS->Prop}:wp (uB a E F) Q↔wp (a E F) λx F1=>oB (W4 x) λc=>Q c F1:=by
 unfold uB;rw[b7];simp only[k8,a8,oB]
theorem lM {a:DE->M PyData}{Q:Bool->FdS->Prop}:wp (uT a E F) Q↔wp (a E F) λx F1=>oB (rG x) λc=>Q c F1:=by
 unfold uT;rw[b7];simp only[k8,a8,oB]
theorem V8 {a b:DE->M Bool}{Q:Bool->FdS->Prop}:wp (av a b E F) Q↔wp (a E F) λx F1=>cIf x (wp (b E F1) Q) (Q false F1):=by
 unfold av;rw[b7];simp only[W7,a8,cIf]
theorem kW {a b:DE->M Bool}{Q:Bool->FdS->Prop}:wp (uOr a b E F) Q↔wp (a E F) λx F1=>cIf x (Q true F1) (wp (b E F1) Q):=by
 unfold uOr;rw[b7];simp only[W7,a8,cIf]
theorem iC {a:DE->M Bool}{Q:Bool->FdS->Prop}:wp (nj a E F) Q↔wp (a E F) λx F1=>Q (!x) F1:=by
 unfold nj;rw[b7];simp only[a8]
theorem je {Q:Bool->FdS->Prop}:wp (dQ E F) Q↔Q true F:=a8
theorem K8 {Q:Out->FdS->Prop}:wp (mNx E F) Q↔Q (.nx E) F:=a8
def sqK (b:DE->M Out)(Q:Out->FdS->Prop)(o:Out)(F1:FdS):Prop:=match o with
  | .nx E1=>wp (b E1 F1) Q
  | o=>Q o F1
theorem h8 {b:DE->M Out}{Q:Out->FdS->Prop}{E1:DE}(h:wp (b E1 F) Q):sqK b Q (.nx E1) F:=h
theorem zO {b:DE->M Out}{Q:Out->FdS->Prop}{d:PyData}(h:Q (.rt d) F):sqK b Q (.rt d) F:=h
theorem j3 {a b:DE->M Out}{Q:Out->FdS->Prop}:wp (mSq a b E F) Q↔wp (a E F) (sqK b Q):=by
 unfold mSq;rw[b7]
 refine u9 λo F1=>?_
 cases o with
 | nx E1=>exact Iff.rfl
 | rt d=>exact a8
 | bk d=>exact a8
 | ct d=>exact a8
theorem dI {a:DE->M PyData}{Q:Out->FdS->Prop}:wp (mRt a E F) Q↔wp (a E F) λx F1=>Q (.rt x) F1:=by
 unfold mRt;rw[b7];simp only[a8]
theorem l4 {i:Nat}{a:DE->M PyData}{Q:Out->FdS->Prop}:wp (u5 i a E F) Q↔wp (a E F) λx F1=>i<E.length/\Q (.nx (E.set i (some (.dat x)))) F1:=by
 unfold u5;rw[b7]
 refine u9 λx F1=>?_
 unfold bN
 by_cases h:i<E.length
 .rw[if_pos h];simp only[k8,a8,nP,h,true_and]
 .rw[if_neg h];simp only[k8,h,false_and]
  exact⟨λ⟨_,e,_⟩=>(by cases e),False.elim⟩
theorem aO {bd:PyData->DE->Option DE}{a:DE->M PyData}{Q:Out->FdS->Prop}:wp (X7 bd a E F) Q↔wp (a E F) λx F1=>oB (bd x E) λE1=>Q (.nx E1) F1:=by
 unfold X7;rw[b7]
 simp only[k8,a8,oB]
theorem J3 {c:DE->M Bool}{a b:DE->M Out}{Q:Out->FdS->Prop}:wp (mIf c a b E F) Q↔wp (c E F) λx F1=>cIf x (wp (a E F1) Q) (wp (b E F1) Q):=by
 unfold mIf;rw[b7];simp only[W7,cIf]
theorem cY {i:Nat}{a:DE->M (List PyData)}{Q:Out->FdS->Prop}:wp (cc i a E F) Q↔wp (a E F) λx F1=>i<E.length/\Q (.nx (E.set i (some (.own x)))) F1:=by
 unfold cc;rw[b7]
 refine u9 λx F1=>?_
 by_cases h:i<E.length
 .rw[if_pos h];simp only[a8,h,true_and]
 .rw[if_neg h];simp only[h,false_and]
  exact k4
theorem V3 {mi:DE->M (List PyData)}{bd:PyData->DE->Option DE}{body:DE->M Out}{Q:Out->FdS->Prop}:wp (Z0 mi bd body E F) Q↔wp (mi E F) λds F1=>wp (G1 bd body ds E F1) Q:=by
 unfold Z0;rw[b7]
theorem X1 {a:DE->M (List PyData)}{Q:List PyData->FdS->Prop}:wp (X3 a E F) Q↔wp (a E F) λx F1=>oB (N0 x) λds=>Q ds F1:=by
 unfold X3;rw[b7];simp only[k8,a8,oB]
theorem W3 {a:DE->M PyData}{Q:List PyData->FdS->Prop}:wp (bW a E F) Q↔wp (a E F) λx F1=>oB (eK x) λds=>Q ds F1:=by
 unfold bW;rw[b7];simp only[k8,a8,oB]
theorem T5 {a:DE->M (List PyData)}{Q:List PyData->FdS->Prop}:wp (Y9 a E F) Q↔wp (a E F) λx F1=>x.length<=sizeLine/\Q x F1:=by
 unfold Y9;rw[b7]
 constructor
 .exact λh=>f8 h λxs F1 h=>by
   split at h
   .rename_i hl;exact⟨hl,a8.mp h⟩
   .exact(k4.mp h).elim
 .exact λh=>f8 h λxs F1 h=>by rw[if_pos h.1];exact a8.mpr h.2
theorem gR {mi:DE->M (List PyData)}{k:Nat}{cap:List Nat}{bd:PyData->DE->Option DE}{mt:DE->M Bool}{me:DE->M PyData}{Q:PyData->FdS->Prop}:wp (sLC mi k cap bd mt me E F) Q↔wp (mi E F) λds F1=>ds.length<=sizeLine/\wp (Y5 bd mt me ds (qE k cap E) F1) λzs F2=>Q (.list zs) F2:=by
 unfold sLC;rw[b7]
 constructor
 .refine λh=>f8 h λds F1 h=>?_
  dsimp only at h
  split at h
  .rename_i hl;rw[b7]at h;exact⟨hl,f8 h λzs F2 h=>a8.mp h⟩
  .exact(k4.mp h).elim
 .refine λh=>f8 h λds F1 h=>?_
  dsimp only
  rw[if_pos h.1,b7]
  exact f8 h.2 λzs F2 h=>a8.mpr h
def uk (Q:PyData->FdS->Prop)(o:Out)(F1:FdS):Prop:=match o with
  | .rt d=>Q d F1
  | .nx _=>Q .none F1
  | _=>False
theorem zc {Q:PyData->FdS->Prop}{d:PyData}(h:Q d F):uk Q (.rt d) F:=h
theorem oq {N:List Str}{m:DE->M Out}{args:List DV}{Q:PyData->FdS->Prop}:wp (Y4 N m args F) Q↔wp (m (u6 N args) F) (uk Q):=by
 unfold Y4;rw[b7]
 refine u9 λo F1=>?_
 cases o with
 | nx E1=>exact a8
 | rt d=>exact a8
 | bk d=>exact k4
 | ct d=>exact k4
theorem C6 {o:Option (Option DV)}{d:PyData}{P:PyData->Prop}(h:o=some (some (.dat d)))(q:P d):gD o P:=by rw[h];exact q
theorem n6 {o:Option (Option DV)}{d:PyData}{P:PyData->Prop}(h:o=some (some (.dat d)))(q:P d):gW o P:=by rw[h];exact q
theorem dB {o:Option (Option DV)}{ds:List PyData}{P:PyData->Prop}(h:o=some (some (.own ds)))(q:P (.list ds)):gW o P:=by rw[h];exact q
theorem jV {o:Option (Option DV)}{P:Prop}(h:o=some (some .feed))(q:P):gF o P:=by rw[h];exact q
theorem c7 {γ:Type}{o:Option γ}{z:γ}{P:γ->Prop}(h:o=some z)(q:P z):oB o P:=⟨z,h,q⟩
theorem T2 {c:Bool}{A B:Prop}(h:c=true)(q:A):cIf c A B:=by rw[h];exact aD.mpr q
theorem p7 {c:Bool}{A B:Prop}(h:c=false)(q:B):cIf c A B:=by rw[h];exact U5.mpr q
theorem D7 {n:Nat}(h:Nat.ble n 10000=true):n<=sizeLine:=Nat.le_trans (Nat.le_of_ble_eq_true h) (by rw[sizeLine_eq];decide)
theorem i5 {i n:Nat}(h:Nat.ble (i+1) n=true):i<n:=Nat.le_of_ble_eq_true h
end
def Tr (f:List DV->M PyData)(args:List DV)(c:Int)(P:PyData->Prop):Prop:=∀F:FdS,F.t+c<=199999->∃d F',f args F=some (d,F')/\F'.t<=F.t+c/\P d
theorem Tr.wp {f:List DV->M PyData}{args:List DV}{c:Int}{P:PyData->Prop}{F:FdS}{Q:PyData->FdS->Prop}(h:Tr f args c P)(hF:F.t+c<=199999)(q:∀d F',F'.t<=F.t+c->P d->Q d F'):wp (f args F) Q:=by
 obtain⟨d,F',e,ht,p⟩:=h F hF
 exact⟨d,F',e,q d F' ht p⟩
theorem Tr.of {f:List DV->M PyData}{args:List DV}{c:Int}{P:PyData->Prop}(h:∀F:FdS,F.t+c<=199999->L3.wp (f args F) λd F'=>F'.t<=F.t+c/\P d):Tr f args c P:=λF hF=>by
 obtain⟨d,F',e,q⟩:=h F hF
 exact⟨d,F',e,q⟩
mutual
def cnt:PyData->Nat
 | .tuple ds=>1+df ds
 | .list ds=>1+df ds
 | _=>1
def df:List PyData->Nat
 | []=>0
 | d::ds=>cnt d+df ds
end
def asc (x:Str):Prop:=∀c∈x.cps.toList,c<128
mutual
def scs (n:Nat):PyData->Prop
 | .none=>True
 | .bool _=>True
 | .int i=>i.natAbs<10 ^ 300+n
 | .str x=>x.length<=600+n/\asc x
 | .tuple ds=>qp n ds
 | .list ds=>qp n ds
 | .dict _=>False
def qp (n:Nat):List PyData->Prop
 | []=>True
 | d::ds=>scs n d/\qp n ds
end
theorem bD {n:Nat}:∀{ds:List PyData},qp n ds↔∀d∈ds,scs n d
 | []=>by simp[qp]
 | d::ds=>by simp[qp,bD (ds:=ds)]
structure Gd (n N k:Nat) (d:PyData):Prop where
 sc:scs n d
 dp:d.depth<=k
 ct:cnt d<=N
theorem Y7 {k:Nat}:∀{ds:List PyData},PyData.depthAll ds<=k↔∀d∈ds,d.depth<=k
 | []=>by simp[PyData.depthAll]
 | d::ds=>by
  have:=Y7 (k:=k) (ds:=ds)
  simp only[PyData.depthAll,List.mem_cons,forall_eq_or_imp]
  rw[<-this];omega
theorem Gd.tup {n N k M:Nat}{ds:List PyData}(h:∀d∈ds,Gd n M k d)(hc:1+df ds<=N):Gd n N (k+1) (.tuple ds):=by
 refine⟨?_,?_,?_⟩
 .simp only[scs];rw[bD];exact λd hd=>(h d hd).sc
 .simp only[PyData.depth]
  have:PyData.depthAll ds<=k:=Y7.mpr λd hd=>(h d hd).dp
  omega
 .simp only[cnt];exact hc
end
section
variable [Fam]
structure Nod (d:PyData):Prop where
 sh:d.showable=true
 nd:d.hasDict=false
 cl:d.canLay0=true
 ln:d.shown.length+2<=7100*cnt d
theorem wt:(10:Nat) ^ 300<=2 ^ 1000:=by
 have h:((10:Nat) ^ 3) ^ 100<=(2 ^ 10) ^ 100:=Nat.pow_le_pow_left (by decide) 100
 rwa [<-Nat.pow_mul,<-Nat.pow_mul]at h
theorem yJ {n:Nat}(hn:n<=100):10 ^ 300+n<=2 ^ 1001:=by
 have h0:=wt
 have h1:(2:Nat) ^ 1001=2 ^ 1000+2 ^ 1000:=by rw[Nat.pow_succ,Nat.mul_two]
 have h2:(2:Nat) ^ 7<=2 ^ 1000:=Nat.pow_le_pow_right (by decide) (by decide)
 have h3:(2:Nat) ^ 7=128:=by decide
 rw[h1]
 generalize (10:Nat) ^ 300=A at *
 generalize (2:Nat) ^ 1000=B at *
 omega
theorem AM {ds:List PyData}:(∀d∈ds,Nod d)->PyData.showableAll ds=true/\PyData.hasDictAll ds=false/\PyData.canLayAll0 ds=true/\((PyData.shownAll ds).map (·.length)).sum+2*ds.length<=7100*df ds:=by
 induction ds with
 | nil=>intro _;exact⟨by simp[PyData.showableAll],by simp[PyData.hasDictAll],by simp[PyData.canLayAll0],by simp[PyData.shownAll,df]⟩
 | cons d ds ih =>
  intro h
  obtain⟨a,b,c,e⟩:=ih λx hx=>h x (List.mem_cons_of_mem _ hx)
  have hd:=h d List.mem_cons_self
  refine⟨by simp[PyData.showableAll,hd.sh,a],by simp[PyData.hasDictAll,hd.nd,b],by simp[PyData.canLayAll0,hd.cl,c],?_⟩
  simp only[PyData.shownAll,List.map_cons,List.sum_cons,List.length_cons,df]
  have:=hd.ln
  omega
theorem yP {n:Nat}(hn:n<=100):∀m:Nat,∀d:PyData,sizeOf d<m->scs n d->Nod d:=by
 intro m
 induction m with
 | zero=>intro d h;exact absurd h (Nat.not_lt_zero _)
 | succ m ih =>
  intro d hm hs
  cases d with
  | none=>exact⟨rfl,rfl,rfl,by decide⟩
  | bool b=>exact⟨rfl,rfl,rfl,by cases b <;> decide⟩
  | int i =>
   simp only[scs]at hs
   have hb:i.natAbs<2 ^ 1001:=Nat.lt_of_lt_of_le hs (yJ hn)
   have:=Shw.int hb (by decide) (by decide)
   exact⟨this.sh,this.nd,rfl,by have:=this.ln;simp only[cnt];omega⟩
  | str x =>
   simp only[scs]at hs
   refine⟨rfl,rfl,?_,?_⟩
   .simp only[PyData.canLay0,PyData.strOk]
    rw[Array.all_eq_true']
    intro c hc
    have:=hs.2 c (by simpa using hc)
    exact decide_eq_true (by omega)
   .have h1:=PySem.StrLaws.reprText_len x λc hc=>Nat.lt_of_lt_of_le (hs.2 c hc) (by decide)
    simp only[PyData.shown,cnt]
    omega
  | tuple ds =>
   simp only[scs]at hs
   rw[bD]at hs
   obtain⟨a,b,c,e⟩:=AM λd hd=>ih d (by have:=List.sizeOf_lt_of_mem hd;simp at hm;omega) (hs d hd)
   refine⟨by simpa only[PyData.showable] using a,by simpa only[PyData.hasDict] using b,by simpa only[PyData.canLay0] using c,?_⟩
   have h5:=tupleText_len_le (PyData.shownAll ds)
   have h6:=PyData.shownAll_length ds
   simp only[PyData.shown,cnt]
   omega
  | list ds =>
   simp only[scs]at hs
   rw[bD]at hs
   obtain⟨a,b,c,e⟩:=AM λd hd=>ih d (by have:=List.sizeOf_lt_of_mem hd;simp at hm;omega) (hs d hd)
   refine⟨by simpa only[PyData.showable] using a,by simpa only[PyData.hasDict] using b,by simpa only[PyData.canLay0] using c,?_⟩
   have h5:=listText_len_le (PyData.shownAll ds)
   have h6:=PyData.shownAll_length ds
   simp only[PyData.shown,cnt]
   omega
  | dict kvs=>simp only[scs]at hs
section
variable {n N k:Nat}{d:PyData}
theorem Gd.nod (h:Gd n N k d)(hn:n<=100):Nod d:=yP hn _ d (Nat.lt_succ_self _) h.sc
theorem Gd.shaped (h:Gd n N k d)(hn:n<=100)(hk:k<=50):PySem.SeqAt.shaped d=true:=by
 unfold PySem.SeqAt.shaped
 rw[(h.nod hn).cl]
 have h3:=h.dp
 simp
 omega
theorem yF {i:Int}(h:i.natAbs<10 ^ 300+n):Gd n 1 0 (.int i):=⟨h,by simp[PyData.depth],by simp[cnt]⟩
end
theorem pS {i:Int}{n:Nat}(h:i.natAbs<=100000000000000000000000000000000000000000):i.natAbs<10 ^ 300+n:=by
 have h1:(10:Nat) ^ 42<=10 ^ 300:=Nat.pow_le_pow_right (by decide) (by decide)
 have h2:100000000000000000000000000000000000000000<(10:Nat) ^ 42:=by decide
 generalize (10:Nat) ^ 300=A at *
 omega
end
section
variable [Fam]
section
variable {ds es:List PyData}{i j:Int}{x y:Str}{b c:Bool}{d:PyData}{T:String}
theorem mr:pF (.int i) (.int j)=some (.int (i-j)):=rfl
theorem wX:gtD (.int i) (.int j)=some (.bool (decide (j<i))):=rfl
theorem cn:R1 [.tuple ds]=some (.int ds.length):=rfl
theorem yE:R1 [.list ds]=some (.int ds.length):=rfl
theorem iH:E9 [.list ds]=some (.tuple ds):=rfl
theorem yy:ku (.int i)=some i:=rfl
theorem rK {lo hi:Option Int}:oS lo hi (.tuple ds)=some (.tuple (di ds lo hi)):=rfl
theorem yb {lo hi:Option Int}:oS lo hi (.list ds)=some (.list (di ds lo hi)):=rfl
theorem dc:eK (.tuple ds)=some ds:=rfl
theorem yY:eK (.list ds)=some ds:=rfl
end
end
end L3
set_option hygiene false
local macro_rules | `(tactic| walk_at "st")=>`(tactic| first | (with_reducible first | refine L3.h8 ?_ | refine L3.zO ?_ | refine L3.zc ?_ | refine L3.j3.mpr ?_ | refine L3.J3.mpr ?_ | refine L3.l4.mpr ?_ | refine L3.dI.mpr ?_ | refine L3.K8.mpr ?_ | refine L3.V8.mpr ?_ | refine L3.kW.mpr ?_ | refine L3.iC.mpr ?_ | refine L3.O4.mpr ?_ | refine L3.lM.mpr ?_ | refine L3.je.mpr ?_ | refine L3.t8.mpr ?_ | refine L3.yK.mpr ?_ | refine L3.L7.mpr ?_ | refine L3.p6.mpr ?_ | refine L3.C2.mpr ?_ | refine L3.j9.mpr ?_ | refine L3.d9.mpr ?_ | refine L3.c6.mpr ?_ | refine L3.O3.mpr ?_ | refine L3.tV.mpr ?_ | refine L3.E3.mpr ?_ | refine L3.Q5.mpr ?_ | refine L3.jH.mpr ?_ | refine L3.B9.mpr ?_ | refine L3.oE.mpr ?_ | refine L3.ou.mpr ?_ | refine L3.vc.mpr ?_ | refine L3.iK.mpr ?_ | refine r_sOr.mpr ?_ | refine r_sNot.mpr ?_ | refine L3.oD.mpr ?_ | refine L3.aO.mpr ?_ | refine L3.cY.mpr ?_ | refine L3.V3.mpr ?_ | refine L3.X1.mpr ?_ | refine L3.W3.mpr ?_ | refine L3.T5.mpr ?_ | refine r_fCat.mpr ?_ | refine L3.gR.mpr ?_) | ((with_reducible refine L3.oq.mpr ?_);try dsimp only[L3.u6,List.map_cons,List.map_nil,List.length_cons,List.length_nil,List.replicate,List.cons_append,List.nil_append,Nat.reduceAdd,Nat.reduceSub]) | ((with_reducible apply L3.C6);exact rfl) | ((with_reducible apply L3.n6);exact rfl) | ((with_reducible apply L3.dB);exact rfl) | ((with_reducible apply L3.jV);exact rfl) | ((with_reducible apply L3.c7);first | exact e_isin | exact rfl) | ((with_reducible refine And.intro (L3.D7 ?_) ?_);exact rfl) | ((with_reducible refine And.intro (L3.i5 ?_) ?_);exact rfl;try dsimp only[List.set_cons_zero,List.set_cons_succ]))
local macro_rules | `(tactic| walk_at "rd")=>`(tactic| (repeat walk_at "st"))
local macro_rules | `(tactic| walk_at "ty")=>`(tactic| first | refine L3.p7 L3.cX ?_ | refine L3.p7 L3.dR ?_ | refine L3.p7 L3.eZ ?_ | refine L3.p7 L3.fJ ?_ | refine L3.p7 L3.dO ?_ | refine L3.p7 L3.jx ?_ | refine L3.T2 L3.kL ?_ | refine L3.T2 L3.lZ ?_ | refine L3.p7 L3.lU ?_ | refine L3.p7 L3.jY ?_ | refine L3.p7 L3.lg ?_ | refine L3.p7 L3.mP ?_ | refine L3.T2 L3.pA ?_ | refine L3.p7 L3.pR ?_ | refine L3.p7 L3.mX ?_ | refine L3.p7 L3.jL ?_ | refine L3.p7 L3.lC ?_ | refine L3.p7 L3.oU ?_ | refine L3.T2 L3.pf ?_ | refine L3.p7 L3.lX ?_ | refine L3.p7 L3.iJ ?_ | refine L3.p7 L3.jU ?_ | refine L3.p7 L3.mR ?_ | refine L3.p7 L3.lD ?_ | refine L3.T2 L3.kF ?_ | refine L3.T2 L3.gj ?_ | refine L3.p7 L3.ic ?_ | refine L3.p7 L3.lq ?_ | refine L3.p7 L3.kZ ?_ | refine L3.p7 L3.jg ?_)
local macro_rules | `(tactic| walk_at "go")=>`(tactic| (repeat first | walk_at "st" | walk_at "ty"))
namespace L3
open PySem PySem.Spec PyProof.Rows L2
variable [Fam]
theorem cX:isT "NoneType" "tuple" = false:=by decide +kernel
theorem dR:isT "NoneType" "bool" = false:=by decide +kernel
theorem eZ:isT "NoneType" "int" = false:=by decide +kernel
theorem fJ:isT "NoneType" "str" = false:=by decide +kernel
theorem dO:isT "NoneType" "list" = false:=by decide +kernel
theorem jx:isT "bool" "tuple" = false:=by decide +kernel
theorem kL:isT "bool" "bool" = true:=by decide +kernel
theorem lZ:isT "bool" "int" = true:=by decide +kernel
theorem lU:isT "bool" "str" = false:=by decide +kernel
theorem jY:isT "bool" "list" = false:=by decide +kernel
theorem lg:isT "int" "tuple" = false:=by decide +kernel
theorem mP:isT "int" "bool" = false:=by decide +kernel
theorem pA:isT "int" "int" = true:=by decide +kernel
theorem pR:isT "int" "str" = false:=by decide +kernel
theorem mX:isT "int" "list" = false:=by decide +kernel
theorem jL:isT "str" "tuple" = false:=by decide +kernel
theorem lC:isT "str" "bool" = false:=by decide +kernel
theorem oU:isT "str" "int" = false:=by decide +kernel
theorem pf:isT "str" "str" = true:=by decide +kernel
theorem lX:isT "str" "list" = false:=by decide +kernel
theorem iJ:isT "list" "tuple" = false:=by decide +kernel
theorem jU:isT "list" "bool" = false:=by decide +kernel
theorem mR:isT "list" "int" = false:=by decide +kernel
theorem lD:isT "list" "str" = false:=by decide +kernel
theorem kF:isT "list" "list" = true:=by decide +kernel
theorem gj:isT "tuple" "tuple" = true:=by decide +kernel
theorem ic:isT "tuple" "bool" = false:=by decide +kernel
theorem lq:isT "tuple" "int" = false:=by decide +kernel
theorem kZ:isT "tuple" "str" = false:=by decide +kernel
theorem jg:isT "tuple" "list" = false:=by decide +kernel
section
variable {s N k:Nat}
end
variable [Fam]
theorem sz {n:Nat}(h:n<=100000):n<=sizeLine:=Nat.le_trans h (by rw[sizeLine_eq];decide)
variable [Fam]
variable [Fam]
theorem F0 {bd:PyData->DE->Option DE}{body:DE->M Out}{Q:Out->FdS->Prop}(I:Nat->DE->FdS->Prop):∀(items:List PyData) (n:Nat) (E:DE) (F:FdS),I n E F ->
  (∀i d,items[i]? = some d->∀E F,I (n+i) E F->∃E1,bd d E=some E1/\wp (body E1 F) λo F'=>∃E2,o = .nx E2/\I (n+i+1) E2 F')->(∀E F,I (n+items.length) E F->Q (.nx E) F)->wp (G1 bd body items E F) Q
 | [],n,E,F,h,_,hq=>a8.mpr (hq E F h)
 | d::r,n,E,F,h,st,hq=>by
  obtain⟨E1,e1,h1⟩:=st 0 d rfl E F h
  rw[G1,e1,Option.bind_some,b7]
  refine f8 h1 λo F1 ⟨E2,e2,h2⟩=>?_
  subst e2
  refine F0 I r (n+1) E2 F1 h2 (λi d e E F hI=>?_) (λE F hI=>hq E F (by rw[List.length_cons];rw[show n+(r.length+1)=n+1+r.length by omega];exact hI))
  have:=st (i+1) d (by simpa using e) E F (by rw[show n+(i+1)=n+1+i by omega];exact hI)
  rw[show n+(i+1)+1=n+1+i+1 by omega]at this
  exact this
theorem R8 {lo:Int}{n:Nat}:(cE lo n).length=n:=by simp[cE]
variable [Fam]
section
variable {F:FdS}{Q:PyData->FdS->Prop}{n:Nat}
theorem wV {d:PyData}(h:aN d=true):ka [d]=some (.str d.shown):=if_pos h
theorem vm {xs ys:List PyData}(h:xs.length+ys.length<=100000):Q1 (.list xs) (.list ys)=some (.list (xs++ys)):=if_pos (sz h)
theorem Ac {xs ys:List PyData}(h:xs.length+ys.length<=100000):Q1 (.tuple xs) (.tuple ys)=some (.tuple (xs++ys)):=if_pos (sz h)
abbrev W8:List PyData:=[.str "first",.str "last",.str "short",.str "front",.str "lastoff",.str "shortoff",.str "frontoff",.str "turns"]
def bT:List DV->M PyData:=Y4 ["rule"] (mRt (s2 (inD false) (sW 0) (sC (.tuple [.str "first",.str "last",.str "short",.str "front"]))))
def kb:PyData->Bool
 | .str x=>(([.str "first",.str "last",.str "short",.str "front"]:List PyData)).any λy=>PyData.eqv y (.str x)
 | _=>false
theorem in4 {x:Str}(h:SeqAt.shaped (.str x)=true):inD false (.str x) (.tuple [.str "first",.str "last",.str "short",.str "front"])=some (.bool (kb (.str x))):=by
 show(if SeqAt.shaped (.tuple [.str "first",.str "last",.str "short",.str "front"])=true/\SeqAt.shaped (.str x)=true then _ else none)=_
 rw[if_pos ⟨by decide +kernel,h⟩,if_neg (by decide)]
 rfl
theorem M6 {r:PyData}(h:r∈W8):∃x:Str,r = .str x/\SeqAt.shaped (.str x)=true:=by
 simp only[List.mem_cons,List.not_mem_nil,or_false]at h
 rcases h with rfl | rfl | rfl | rfl | rfl | rfl | rfl | rfl <;> exact⟨_,rfl,by decide +kernel⟩
theorem nM {r:PyData}(h:r∈W8)(q:Q (.bool (kb r)) F):wp (bT [.dat r] F) Q:=by
 obtain⟨x,rfl,hx⟩:=M6 h
 unfold bT
 walk_at "go"
 refine c7 (in4 hx) ?_
 walk_at "go"
 exact q
end
section
variable {F:FdS}{Q:Out->FdS->Prop}{E:DE}{i:Nat}{ds:List PyData}
theorem V2 {v:DE->M PyData}(he:jM E i=some ds)(hl:ds.length<=100000)(q:wp (v E F) λx F1=>Q (.nx (E.set i (some (.own (ds++[x]))))) F1):wp (O2 i v E F) Q:=by
 unfold O2;rw[b7]
 refine f8 q λx F1 h=>?_
 rw[he,Option.bind_some,if_pos (Nat.lt_of_le_of_lt hl (by rw[sizeLine_eq];decide))]
 exact a8.mpr h
theorem tU {a:DE->M PyData}{Q:List PyData->FdS->Prop}(q:wp (a E F) λx F1=>oB (eK x) λds=>Q (O6 0 ds) F1):wp (dN a E F) Q:=by
 unfold dN;rw[b7]
 refine f8 q λx F1 h=>?_
 obtain⟨ds,e,q⟩:=h
 dsimp only
 rw[e,Option.bind_some]
 exact a8.mpr q
end
variable [Fam]
theorem qS {bd:PyData->DE->Option DE}{me:DE->M PyData}{Sh:DE->Prop}{P:PyData->PyData->Prop}{c:Int}(hc:0<=c):∀(ds:List PyData) (E:DE) (F:FdS) (Q:List PyData->FdS->Prop),Sh E ->
  (∀d∈ds,∀E,Sh E->∃E1,bd d E=some E1/\Sh E1/\∀F:FdS,F.t+c<=199999->wp (me E1 F) λy F'=>F'.t<=F.t+c/\P d y)->F.t+c*ds.length<=199999 ->
  (∀zs F',zs.length=ds.length->(∀z∈zs,∃d∈ds,P d z)->F'.t<=F.t+c*ds.length->Q zs F')->wp (Y5 bd dQ me ds E F) Q
 | [],E,F,Q,_,_,_,q=>a8.mpr (q [] F rfl (λz hz=>by cases hz) (by simp))
 | d::ds,E,F,Q,hE,st,hF,q=>by
  have e1:c*((d::ds).length:Int)=c*(ds.length:Int)+c:=by rw[List.length_cons];push_cast;rw[Int.mul_add,Int.mul_one]
  have hp:0<=c*(ds.length:Int):=Int.mul_nonneg hc (by omega)
  rw[e1]at hF q
  obtain⟨E1,eb,h1,h2⟩:=st d List.mem_cons_self E hE
  rw[Y5,eb,Option.bind_some,b7]
  refine je.mpr ?_
  rw[if_pos rfl,b7]
  refine f8 (h2 F (by omega)) λy F1 ⟨t1,py⟩=>?_
  rw[b7]
  refine qS hc ds E1 F1 _ h1 (λd hd=>st d (List.mem_cons_of_mem _ hd)) (by omega) λzs F2 hl hz t2=>a8.mpr (q _ F2 (by simp[hl]) (λz hm=>?_) (by omega))
  rcases List.mem_cons.mp hm with rfl | hm
  .exact⟨d,List.mem_cons_self,py⟩
  .obtain⟨d',hd',p'⟩:=hz z hm
   exact⟨d',List.mem_cons_of_mem _ hd',p'⟩
theorem AD {me:DE->M PyData}{P:PyData->PyData->Prop}{c:Int}{rest:DE}{F:FdS}{Q:List PyData->FdS->Prop}(ds:List PyData)(o:Option DV)(hc:0<=c)
  (st:∀d∈ds,∀F:FdS,F.t+c<=199999->wp (me (some (.dat d)::rest) F) λy F'=>F'.t<=F.t+c/\P d y) (hF:F.t+c*ds.length<=199999)
  (q:∀zs F',zs.length=ds.length->(∀z∈zs,∃d∈ds,P d z)->F'.t<=F.t+c*ds.length->Q zs F'):wp (Y5 (bN 0) dQ me ds (o::rest) F) Q :=
 qS (Sh:=λE=>∃o,E=o::rest) hc ds _ F Q ⟨o,rfl⟩ (λd hd E ⟨o,e⟩=>by subst e;exact⟨_,rfl,⟨_,rfl⟩,st d hd⟩) hF q
theorem cf {c:Nat}:∀{ds:List PyData},(∀d∈ds,cnt d<=c)->df ds<=c*ds.length
 | [],_=>by simp[df]
 | d::ds,h=>by
  have h1:=h d List.mem_cons_self
  have h2:=cf (c:=c) (ds:=ds) λd hd=>h d (List.mem_cons_of_mem _ hd)
  rw[df,List.length_cons,Nat.mul_add,Nat.mul_one]
  omega
theorem Bh {xs:List PyData}{k:Int}(h:xs.length*k.toNat<=100000)(h1:-(2 ^ 63)<=k)(h2:k<2 ^ 63):dm (.tuple xs) (.int k)=some (.tuple (List.replicate k.toNat xs).flatten):=by
 unfold dm
 exact if_pos ⟨h1,h2,sz h⟩
variable [Fam]
variable [Fam]
variable [Fam]
variable [Fam]
section
variable {B:Int}
end
section
variable {F:FdS}{E:DE}
end
variable [Fam]
theorem eI {i:Int}(h0:-(2 ^ 62)<=i)(h1:i<2 ^ 62):N0 [.int i]=some (cE 0 i.toNat):=if_pos ⟨h0,h1⟩
theorem uu {n:Nat}(h:n<=100000):N0 [.int (n:Nat)]=some (cE 0 n):=by
 have e:=eI (i:=(n:Int)) (by omega) (by omega)
 rwa [Int.toNat_natCast]at e
end L3
namespace L3
open L2
abbrev Pn:=Int×Int×Bool
def pAt (ps:List Pn)(i:Nat):Pn:=ps.getD i (0,0,false)
def T6 (k:Nat)(ps:List Pn):List Nat :=
 if k=1 then(List.range ps.length).reverse
 else if k=2 then(t9 ((List.range ps.length).map λi=>((pAt ps i).2.1,i))).map Prod.snd
 else if k=3 then(t9 ((List.range ps.length).map λi=>((pAt ps i).1,i))).map Prod.snd
 else List.range ps.length
def bI (b:Bool):Int:=if b then 1 else 0
def order (k:Nat)(kp:Bool)(ps:List Pn):List Nat :=
 if kp then(t9 ((T6 k ps).map λi=>(bI (!(pAt ps i).2.2),i))).map Prod.snd else T6 k ps
def R0 (k:Nat)(ps:List Pn)(i j:Nat):Prop :=
 if k=1 then j<i else if k=2 then(pAt ps i).2.1<(pAt ps j).2.1\/((pAt ps i).2.1=(pAt ps j).2.1/\i<j)
 else if k=3 then(pAt ps i).1<(pAt ps j).1\/((pAt ps i).1=(pAt ps j).1/\i<j) else i<j
def x5 (k:Nat)(kp:Bool)(ps:List Pn)(i j:Nat):Prop :=
 if kp then(bI (!(pAt ps i).2.2)<bI (!(pAt ps j).2.2)\/(bI (!(pAt ps i).2.2)=bI (!(pAt ps j).2.2)/\R0 k ps i j)) else R0 k ps i j
theorem sr {T:Nat->Nat->Prop}{p:Int×Nat}(tr:∀a b c,T a b->T b c->T a c):∀{l:List (Int×Nat)},l.Pairwise (λa b=>a.1<b.1\/(a.1=b.1/\T a.2 b.2))->(∀q∈l,T p.2 q.2)->(V9 p l).Pairwise λa b=>a.1<b.1\/(a.1=b.1/\T a.2 b.2)
 | [],_,_=>by simp[V9]
 | q::r,h,hl=>by
  rw[List.pairwise_cons]at h
  rw[V9]
  split
  .rename_i hle
   refine List.pairwise_cons.mpr ⟨λz hz=>?_,List.pairwise_cons.mpr h⟩
   have hz':=hl z hz
   have hle':p.1<=z.1:=by
    rcases List.mem_cons.mp hz with rfl | hz
    .exact hle
    .rcases h.1 z hz with e | e <;> omega
   rcases Int.lt_or_eq_of_le hle' with e | e
   .exact .inl e
   .exact .inr ⟨e,hz'⟩
  .rename_i hgt
   refine List.pairwise_cons.mpr ⟨λz hz=>?_,sr tr h.2 λz hz=>hl z (List.mem_cons_of_mem _ hz)⟩
   rcases List.mem_cons.mp ((U9 p r).mem_iff.mp hz) with rfl | hz
   .exact .inl (by omega)
   .exact h.1 z hz
theorem jT {T:Nat->Nat->Prop}(tr:∀a b c,T a b->T b c->T a c):∀{l:List (Int×Nat)},l.Pairwise (λa b=>T a.2 b.2)->(t9 l).Pairwise λa b=>a.1<b.1\/(a.1=b.1/\T a.2 b.2)
 | [],_=>.nil
 | p::r,h=>by
  rw[List.pairwise_cons]at h
  exact sr tr (jT tr h.2) λq hq=>h.1 q ((z8 r).mem_iff.mp hq)
theorem fb {T:Nat->Nat->Prop}(tr:∀a b c,T a b->T b c->T a c)(g:Nat->Int){l:List Nat}(h:l.Pairwise T):((t9 (l.map λi=>(g i,i))).map Prod.snd).Pairwise λi j=>g i<g j\/(g i=g j/\T i j):=by
 have h1:(l.map λi=>(g i,i)).Pairwise (λa b=>T a.2 b.2):=by
  rw[List.pairwise_map];exact h
 have h2:=jT tr h1
 rw[List.pairwise_map]
 refine h2.imp_of_mem λ{a b} ha hb hab=>?_
 have ea:a.1=g a.2:=by
  obtain⟨i,_,rfl⟩:=List.mem_map.mp ((z8 _).mem_iff.mp ha);rfl
 have eb:b.1=g b.2:=by
  obtain⟨i,_,rfl⟩:=List.mem_map.mp ((z8 _).mem_iff.mp hb);rfl
 rw[<-ea,<-eb];exact hab
theorem Z9 (g:Nat->Int)(l:List Nat):((t9 (l.map λi=>(g i,i))).map Prod.snd).Perm l:=by
 have:=(z8 (l.map λi=>(g i,i))).map Prod.snd
 rw[List.map_map]at this
 exact this.trans (.of_eq ((List.map_congr_left λi _=>rfl).trans (List.map_id _)))
theorem Q7 (n:Nat):(List.range n).Pairwise (· < ·):=by
 rw[List.pairwise_iff_getElem]
 intro i j hi hj hij
 simpa using hij
theorem R5 (k:Nat)(ps:List Pn):(T6 k ps).Perm (List.range ps.length):=by
 unfold T6
 repeat' split
 .exact List.reverse_perm _
 .exact Z9 (λi=>(pAt ps i).2.1) _
 .exact Z9 (λi=>(pAt ps i).1) _
 .exact .refl _
theorem r9 (k:Nat)(kp:Bool)(ps:List Pn):(order k kp ps).Perm (List.range ps.length):=by
 unfold order
 split
 .exact(Z9 (λi=>bI (!(pAt ps i).2.2)) _).trans (R5 k ps)
 .exact R5 k ps
theorem cb (k:Nat)(ps:List Pn):(T6 k ps).Pairwise (R0 k ps):=by
 unfold T6 R0
 repeat' split
 .rw[List.pairwise_reverse];exact Q7 _
 .exact fb (T:=λa b=>a<b) (λa b c h1 h2=>Nat.lt_trans h1 h2) (λi=>(pAt ps i).2.1) (Q7 _)
 .exact fb (T:=λa b=>a<b) (λa b c h1 h2=>Nat.lt_trans h1 h2) (λi=>(pAt ps i).1) (Q7 _)
 .exact Q7 _
theorem jG {k:Nat}{ps:List Pn}(a b c:Nat)(h1:R0 k ps a b)(h2:R0 k ps b c):R0 k ps a c:=by
 unfold R0 at *
 repeat' split
 all_goals simp_all
 all_goals omega
theorem dz {k:Nat}{ps:List Pn}(a b:Nat)(h1:R0 k ps a b)(h2:R0 k ps b a):False:=by
 unfold R0 at *
 split at h1
 .simp_all;omega
 .split at h1
  .simp_all;omega
  .split at h1
   .simp_all;omega
   .simp_all;omega
theorem bO (k:Nat)(kp:Bool)(ps:List Pn):(order k kp ps).Pairwise (x5 k kp ps):=by
 unfold order x5
 cases kp with
 | true =>
  simp only[if_true]
  exact fb jG (λi=>bI (!(pAt ps i).2.2)) (cb k ps)
 | false=>simpa using cb k ps
theorem bU {k:Nat}{kp:Bool}{ps:List Pn}(a b:Nat)(h1:x5 k kp ps a b)(h2:x5 k kp ps b a):False:=by
 unfold x5 at *
 cases kp with
 | true =>
  simp only[if_true]at h1 h2
  rcases h1 with h1 | ⟨e1,h1⟩ <;> rcases h2 with h2 | ⟨e2,h2⟩ <;> first | omega | exact dz a b h1 h2
 | false =>
  simp only[Bool.false_eq_true,if_false]at h1 h2
  exact dz a b h1 h2
theorem kG {S:Nat->Nat->Prop}[DecidableRel S](as:∀a b,S a b->S b a->False):∀{L:List Nat} {h i:Nat},L.Pairwise S->L.Nodup->i∈L->(i∈L.take h↔(L.filter λj=>decide (j≠i/\S j i)).length<h)
 | [],h,i,_,_,hi=>by simp at hi
 | a::L,h,i,hp,hn,hi=>by
  rw[List.pairwise_cons]at hp
  rw[List.nodup_cons]at hn
  cases h with
  | zero=>simp
  | succ h =>
   rw[List.take_succ_cons,List.mem_cons]
   by_cases e:i=a
   .subst e
    have z:(List.filter (λj=>decide (j≠i/\S j i)) (i::L))=[]:=by
     rw[List.filter_eq_nil_iff]
     intro j hj
     simp only[decide_eq_true_eq]
     rintro ⟨h1,h2⟩
     rcases List.mem_cons.mp hj with rfl | hj
     .exact h1 rfl
     .exact as _ _ (hp.1 j hj) h2
    rw[z]
    simp
   .have hi':i∈L:=(List.mem_cons.mp hi).resolve_left e
    have c:decide (a≠i/\S a i)=true:=decide_eq_true ⟨λz=>e z.symm,hp.1 i hi'⟩
    rw[List.filter_cons_of_pos (by simpa using c),List.length_cons,kG as hp.2 hn.2 hi']
    constructor
    .rintro (z | z)
     .exact absurd z e
     .omega
    .intro z
     exact .inr (by omega)
def j5 (h k:Nat)(kp:Bool)(ps:List Pn):List Nat:=(List.range ps.length).filter λi=>decide (i∈(order k kp ps).take h)
theorem N8 (n:Nat):(List.range n).Nodup:=by
 rw[List.nodup_iff_pairwise_ne]
 exact(Q7 n).imp λh=>Nat.ne_of_lt h
theorem X6 (k:Nat)(kp:Bool)(ps:List Pn):(order k kp ps).Nodup:=(r9 k kp ps).nodup_iff.mpr (N8 _)
theorem fj {l m:List Nat}(h1:l.Nodup)(h2:m.Nodup)(h:∀x,x∈l↔x∈m):l.Perm m:=(List.perm_ext_iff_of_nodup h1 h2).mpr h
theorem fX (h k:Nat)(kp:Bool)(ps:List Pn):(j5 h k kp ps).Perm ((order k kp ps).take h):=by
 refine fj ((N8 _).sublist List.filter_sublist) ((X6 k kp ps).sublist (List.take_sublist _ _)) λx=>?_
 unfold j5
 rw[List.mem_filter,decide_eq_true_eq]
 exact⟨λz=>z.2,λz=>⟨(r9 k kp ps).mem_iff.mp (List.mem_of_mem_take z),z⟩⟩
theorem iI (h k:Nat)(kp:Bool)(ps:List Pn):(j5 h k kp ps).length=min h ps.length:=by
 rw[(fX h k kp ps).length_eq,List.length_take,(r9 k kp ps).length_eq,List.length_range]
theorem sO (h k:Nat)(kp:Bool)(ps:List Pn):(j5 h k kp ps).Pairwise (· < ·):=(Q7 _).sublist List.filter_sublist
theorem ig (h k:Nat)(kp:Bool)(ps:List Pn):kD (((order k kp ps).take h).map Int.ofNat)=(j5 h k kp ps).map Int.ofNat:=by
 refine cM ((aS _).trans ((fX h k kp ps).map Int.ofNat).symm) (fx _) ?_
 rw[List.pairwise_map]
 exact(sO h k kp ps).imp λ{a b} h=>by simp only[Int.ofNat_eq_natCast];omega
instance ahead_dec (k:Nat) (ps:List Pn):DecidableRel (R0 k ps):=λi j=>by unfold R0;infer_instance
instance sooner_dec (k:Nat) (kp:Bool) (ps:List Pn):DecidableRel (x5 k kp ps):=λi j=>by unfold x5;infer_instance
theorem Z5 (h k:Nat)(kp:Bool)(ps:List Pn):j5 h k kp ps=(List.range ps.length).filter λi=>decide (((List.range ps.length).filter λj=>decide (j≠i/\x5 k kp ps j i)).length<h):=by
 unfold j5
 refine List.filter_congr λi hi=>?_
 have hm:=(r9 k kp ps).mem_iff.mpr hi
 have e:=kG (S:=x5 k kp ps) bU (h:=h) (bO k kp ps) (X6 k kp ps) hm
 have e2:=((r9 k kp ps).filter λj=>decide (j≠i/\x5 k kp ps j i)).length_eq
 rw[<-e2]
 exact decide_eq_decide.mpr e
end L3
namespace L3
open PySem PySem.Spec PyProof.Rows L2
abbrev pnD (p:Pn):PyData:=.tuple [.int p.1,.int p.2.1,.bool p.2.2]
def l6 (l:List Nat):List PyData:=l.map λi:Nat=>PyData.int (i:Int)
def kOf:PyData->Nat
 | .str x=>if x = "last" \/ x = "lastoff" then 1 else if x = "short" \/ x = "shortoff" then 2 else if x = "front" \/ x = "frontoff" then 3 else 0
 | _=>0
theorem K9 (l:List Nat):(l6 l).length=l.length:=by simp[l6]
theorem rl (l:List Nat):(l6 l).reverse=l6 l.reverse:=by simp[l6]
theorem nv (n:Nat):cE 0 n=l6 (List.range n):=by
 unfold cE l6
 exact List.map_congr_left λi _=>by congr 1;omega
theorem gY:∀(l:List Int),(l.map PyData.int).mapM iP? = some l
 | []=>rfl
 | i::l=>by rw[List.map_cons,List.mapM_cons,gY l];rfl
theorem eR:∀(l:List Bool),(l.map PyData.bool).mapM dq? = some (l.map bI)
 | []=>rfl
 | i::l=>by rw[List.map_cons,List.mapM_cons,eR l];rfl
theorem mS (l:List Int):dJ (l.map .int)=some l:=by unfold dJ;rw[gY]
theorem kz (l:List Bool):dJ (l.map .bool)=some (l.map bI):=by
 unfold dJ
 cases l with
 | nil=>rfl
 | cons b l=>exact eR (b::l)
theorem V7 {α β γ:Type}(f:α->β)(g:α->γ):∀l:List α,(l.map f).zip (l.map g)=l.map λx=>(f x,g x)
 | []=>rfl
 | x::l=>by rw[List.map_cons,List.map_cons,List.zip_cons_cons,V7 f g l];rfl
theorem eU (g:Nat->Int)(l:List Nat):((t9 ((l.map g).zip (l6 l))).map Prod.snd)=l6 ((t9 (l.map λi=>(g i,i))).map Prod.snd):=by
 have e:(l.map g).zip (l6 l)=(l.map λi=>(g i,i)).map λq=>(q.1,(λi:Nat=>PyData.int (i:Int)) q.2):=by
  rw[List.map_map];exact V7 g _ l
 rw[e,aU (λi:Nat=>PyData.int (i:Int)),List.map_map]
 unfold l6
 rw[List.map_map]
 rfl
section
variable [Fam]
theorem oi {r:PyData}(h:r∈W8):inD false r (.tuple [.str "last",.str "lastoff"])=some (.bool (decide (kOf r=1))):=by
 obtain⟨x,rfl,hx⟩:=M6 h
 show(if SeqAt.shaped (.tuple [.str "last",.str "lastoff"])=true/\SeqAt.shaped (.str x)=true then _ else none)=_
 rw[if_pos ⟨by decide +kernel,hx⟩,if_neg (by decide)]
 simp only[List.mem_cons,List.not_mem_nil,or_false,PyData.str.injEq]at h
 rcases h with rfl | rfl | rfl | rfl | rfl | rfl | rfl | rfl <;> exact congrArg (λb=>some (PyData.bool b)) (by decide +kernel)
theorem kf {r:PyData}(h:r∈W8):inD false r (.tuple [.str "short",.str "shortoff"])=some (.bool (decide (kOf r=2))):=by
 obtain⟨x,rfl,hx⟩:=M6 h
 show(if SeqAt.shaped (.tuple [.str "short",.str "shortoff"])=true/\SeqAt.shaped (.str x)=true then _ else none)=_
 rw[if_pos ⟨by decide +kernel,hx⟩,if_neg (by decide)]
 simp only[List.mem_cons,List.not_mem_nil,or_false,PyData.str.injEq]at h
 rcases h with rfl | rfl | rfl | rfl | rfl | rfl | rfl | rfl <;> exact congrArg (λb=>some (PyData.bool b)) (by decide +kernel)
theorem jD {r:PyData}(h:r∈W8):inD false r (.tuple [.str "front",.str "frontoff"])=some (.bool (decide (kOf r=3))):=by
 obtain⟨x,rfl,hx⟩:=M6 h
 show(if SeqAt.shaped (.tuple [.str "front",.str "frontoff"])=true/\SeqAt.shaped (.str x)=true then _ else none)=_
 rw[if_pos ⟨by decide +kernel,hx⟩,if_neg (by decide)]
 simp only[List.mem_cons,List.not_mem_nil,or_false,PyData.str.injEq]at h
 rcases h with rfl | rfl | rfl | rfl | rfl | rfl | rfl | rfl <;> exact congrArg (λb=>some (PyData.bool b)) (by decide +kernel)
end
theorem xj {ps:List Pn}{i:Nat}(h:i<ps.length):atI (ps.map pnD) (i:Int)=some (pnD (pAt ps i)):=by
 refine bE ?_
 rw[List.getElem?_map,List.getElem?_eq_getElem h]
 unfold pAt
 rw[List.getD_eq_getElem?_getD,List.getElem?_eq_getElem h]
 rfl
section
variable [Fam]
def Cu:List DV->M PyData:=Y4 ["rule","stand","places"] (mSq (u5 2 (iA (b8 (sN R1 (b8 (sW 1) g7)) g7)))
  (mSq (mIf (uB (s2 (inD false) (sW 0) (sC (.tuple [.str "last",.str "lastoff"])))) (mRt (s1 ur (sW 2))) mNx)
  (mSq (mIf (uB (s2 (inD false) (sW 0) (sC (.tuple [.str "short",.str "shortoff"])))) (mRt (sSK (b8 (sV 2) g7) [1] (s2 ixD (s2 ixD (sW 1) (sW 0)) (sC (.int 1))))) mNx)
  (mSq (mIf (uB (s2 (inD false) (sW 0) (sC (.tuple [.str "front",.str "frontoff"])))) (mRt (sSK (b8 (sV 2) g7) [1] (s2 ixD (s2 ixD (sW 1) (sW 0)) (sC (.int 0))))) mNx)
  (mRt (sV 2))))))
def CO:List DV->M PyData:=Y4 ["house","stand","hands","places","rule","order"] (mSq (X7 (P8 3 (j7 (bN 2) (j7 (bN 3) (j7 (bN 4) R3)))) (sV 0))
  (mSq (u5 5 (p8 Cu (vD (sV 4) (vD (sV 1) D2))))
  (mSq (mIf (uT (p8 bT (vD (sV 4) D2))) (u5 5 (sSK (b8 (sV 5) g7) [1] (uI (s2 ixD (s2 ixD (sW 1) (sW 0)) (sC (.int 2)))))) mNx)
  (mRt (sN E9 (b8 (sN bz (b8 (jR (sW 5) oNo (oI (sV 2))) g7)) g7))))))
theorem cJ {me:DE->M PyData}{E0:DE}{g:Nat->PyData}:∀(l:List Nat) (F:FdS),(∀i∈l,me (some (.dat (.int (i:Int)))::E0) F=some (g i,F))->dE me E0 (l6 l) F=some (l.map g,F)
 | [],F,_=>rfl
 | d::ds,F,h=>by
  show(me (some (.dat (.int (d:Int)))::E0) F).bind _=_
  rw[h d List.mem_cons_self,Option.bind_some]
  show(dE me E0 (l6 ds) F).bind _=_
  rw[cJ ds F λx hx=>h x (List.mem_cons_of_mem _ hx)]
  rfl
variable {F:FdS}{Q:PyData->FdS->Prop}
theorem AJ {ma:DE->M (List PyData)}{cap:List Nat}{me:DE->M PyData}{E:DE}(q:wp (ma E F) λxs F1=>∃ds kd ns,xs=[.list ds]/\ds.length<64/\dE me (cap.map λj=>(E[j]?).join) ds F1=some (kd,F1)/\dJ kd=some ns/\Q (.list ((t9 (ns.zip ds)).map Prod.snd)) F1):wp (sSK ma cap me E F) Q:=by
 unfold sSK
 rw[b7]
 refine f8 q λxs F1 ⟨ds,kd,ns,e,h64,e2,e3,q⟩=>?_
 subst e
 dsimp only
 rw[if_pos h64,e2,Option.bind_some,e3,Option.bind_some]
 exact a8.mpr q
theorem tW {ma:DE->M (List PyData)}{cap:List Nat}{me:DE->M PyData}{E:DE}{g:Nat->Int}(q:wp (ma E F) λxs F1=>∃l:List Nat,xs=[.list (l6 l)]/\l.length<64/\(∀i∈l,me (some (.dat (.int (i:Int)))::cap.map λj=>(E[j]?).join) F1=some (.int (g i),F1))/\Q (.list (l6 ((t9 (l.map λi=>(g i,i))).map Prod.snd))) F1):wp (sSK ma cap me E F) Q:=by
 refine AJ (f8 q λxs F1 ⟨l,e,h1,h2,h3⟩=>⟨l6 l,l.map λi=>.int (g i),l.map g,e,by rw[K9];exact h1,cJ l F1 h2,?_,by rw[eU];exact h3⟩)
 rw[<-mS (l.map g),List.map_map]
 rfl
theorem uK {ma:DE->M (List PyData)}{cap:List Nat}{me:DE->M PyData}{E:DE}{g:Nat->Bool}(q:wp (ma E F) λxs F1=>∃l:List Nat,xs=[.list (l6 l)]/\l.length<64/\(∀i∈l,me (some (.dat (.int (i:Int)))::cap.map λj=>(E[j]?).join) F1=some (.bool (g i),F1))/\Q (.list (l6 ((t9 (l.map λi=>(bI (g i),i))).map Prod.snd))) F1):wp (sSK ma cap me E F) Q:=by
 refine AJ (f8 q λxs F1 ⟨l,e,h1,h2,h3⟩=>⟨l6 l,l.map λi=>.bool (g i),l.map λi=>bI (g i),e,by rw[K9];exact h1,cJ l F1 h2,?_,by rw[eU λi=>bI (g i)];exact h3⟩)
 have:=kz (l.map g)
 rw[List.map_map,List.map_map]at this
 exact this
theorem vi {a:DE->M (List PyData)}{E:DE}(q:wp (a E F) λx F1=>oB (N0 x) λds=>ds.length<=1000/\Q (.list ds) F1):wp (iA a E F) Q:=by
 unfold iA
 rw[b7]
 refine f8 q λx F1 ⟨ds,e,h1,q⟩=>?_
 rw[e,Option.bind_some,if_pos h1]
 exact a8.mpr q
theorem uo {ps:List Pn}{i:Nat}{j:Int}(h:i<ps.length):s2 ixD (s2 ixD (sW 1) (sW 0)) (sC (.int j)) [some (.dat (.int (i:Int))),some (.dat (.tuple (ps.map pnD)))] F=(ixD (pnD (pAt ps i)) (.int j)).bind λz=>some (z,F):=by
 show(((atI (ps.map pnD) (i:Int)).bind λz=>some (z,F)).bind λp=>(ixD p.1 (.int j)).bind λz=>some (z,p.2))=_
 rw[xj h]
 rfl
theorem zj {ps:List Pn}{i:Nat}(h:i<ps.length):uI (s2 ixD (s2 ixD (sW 1) (sW 0)) (sC (.int 2))) [some (.dat (.int (i:Int))),some (.dat (.tuple (ps.map pnD)))] F=some (.bool (!(pAt ps i).2.2),F):=by
 unfold uI
 rw[uo h]
 rfl
theorem vq {r:PyData}{ps:List Pn}(hr:r∈W8)(hl:ps.length<64)(q:Q (.list (l6 (T6 (kOf r) ps))) F):wp (Cu [.dat r,.dat (.tuple (ps.map pnD))] F) Q:=by
 unfold Cu
 walk_at "go"
 refine vi ?_
 refine c6.mpr (L7.mpr (c6.mpr (j9.mpr (d9.mpr ?_))))
 refine c7 cn (d9.mpr ?_)
 rw[List.length_map]
 refine c7 (uu (by omega)) ⟨by rw[R8];omega,?_⟩
 rw[nv]
 have hperm:∀i∈List.range ps.length,i<ps.length:=λi hi=>List.mem_range.mp hi
 walk_at "go"
 refine c7 (oi hr) ?_
 unfold T6 at q
 refine c7 rfl (L8 (λh=>?_) λh=>?_)
 .rw[if_pos (of_decide_eq_true h)]at q
  walk_at "go"
  rw[rl]
  exact q
 rw[if_neg (of_decide_eq_false h)]at q
 walk_at "go"
 refine c7 (kf hr) ?_
 refine c7 rfl (L8 (λh=>?_) λh=>?_)
 .rw[if_pos (of_decide_eq_true h)]at q
  walk_at "go"
  refine tW (g:=λi=>(pAt ps i).2.1) ?_
  walk_at "go"
  refine⟨_,rfl,by rw[List.length_range];exact hl,λi hi=>?_,?_⟩
  .exact uo (hperm i hi)
  .walk_at "go"
   exact q
 rw[if_neg (of_decide_eq_false h)]at q
 walk_at "go"
 refine c7 (jD hr) ?_
 refine c7 rfl (L8 (λh=>?_) λh=>?_)
 .rw[if_pos (of_decide_eq_true h)]at q
  walk_at "go"
  refine tW (g:=λi=>(pAt ps i).1) ?_
  walk_at "go"
  refine⟨_,rfl,by rw[List.length_range];exact hl,λi hi=>?_,?_⟩
  .exact uo (hperm i hi)
  .walk_at "go"
   exact q
 rw[if_neg (of_decide_eq_false h)]at q
 walk_at "go"
 exact q
theorem bV {α:Type}{l:List α}{h:Nat}:di l none (some (h:Int))=l.take h:=by
 unfold di
 simp only[HT.sIx_none,HT.sIx_nat,List.drop_zero,Nat.sub_zero]
 by_cases hh:h<=l.length
 .rw[Nat.min_eq_left hh]
 .rw[Nat.min_eq_right (by omega),List.take_of_length_le (by omega),List.take_of_length_le (by omega)]
theorem qg (l:List Nat)(n:Nat):(l6 l).take n=l6 (l.take n):=by unfold l6;rw[List.map_take]
theorem fI:∀l:List Nat,V5 (l6 l)=some (l.map Int.ofNat)
 | []=>rfl
 | i::l=>by
  show V5 (.int (i:Int)::l6 l)=_
  rw[V5,fI l]
  rfl
theorem sq {r pl:PyData}{ps:List Pn}{h:Nat}(hr:r∈W8)(hl:ps.length<64)(q:Q (.tuple (l6 (j5 h (kOf r) (kb r) ps))) F):wp (CO [.dat (.tuple [.int h,pl,r]),.dat (.tuple (ps.map pnD))] F) Q:=by
 unfold CO
 walk_at "go"
 refine vq hr hl ?_
 have hlen:(T6 (kOf r) ps).length=ps.length:=by rw[(R5 (kOf r) ps).length_eq,List.length_range]
 have hperm:∀i∈T6 (kOf r) ps,i<ps.length:=λi hi=>List.mem_range.mp ((R5 (kOf r) ps).mem_iff.mp hi)
 have hol:(order (kOf r) (kb r) ps).length=ps.length:=by rw[(r9 (kOf r) (kb r) ps).length_eq,List.length_range]
 have fin:∀E:DE,E=[some (.dat (.tuple [.int h,pl,r])),some (.dat (.tuple (ps.map pnD))),some (.dat (.int h)),some (.dat pl),some (.dat r),some (.dat (.list (l6 (order (kOf r) (kb r) ps))))]->wp (mRt (sN E9 (b8 (sN bz (b8 (jR (sW 5) oNo (oI (sV 2))) g7)) g7)) E F) (uk Q):=by
  rintro E rfl
  refine dI.mpr (L7.mpr (c6.mpr (L7.mpr (c6.mpr (oE.mpr (j9.mpr (n6 rfl (ou.mpr (vc.mpr (C2.mpr (C6 rfl (c7 yy (c7 yb (d9.mpr ?_))))))))))))))
  rw[bV,qg]
  have e:bz [.list (l6 ((order (kOf r) (kb r) ps).take h))]=some (.list (l6 (j5 h (kOf r) (kb r) ps))):=by
   simp only[bz,fI]
   rw[if_pos (by rw[List.length_map,List.length_take,hol];omega),ig,List.map_map]
   rfl
  refine c7 e (d9.mpr (c7 iH ?_))
  exact q
 refine⟨i5 rfl,h8 (j3.mpr (J3.mpr (lM.mpr (B9.mpr ?_))))⟩
 walk_at "go"
 refine nM hr ?_
 refine c7 rfl (L8 (λe=>?_) λe=>?_)
 .refine l4.mpr (uK (g:=λi=>!(pAt ps i).2.2) ?_)
  walk_at "go"
  refine⟨_,rfl,by rw[hlen];exact hl,λi hi=>?_,i5 rfl,?_⟩
  .exact zj (hperm i hi)
  .refine fin _ ?_
   unfold order
   rw[if_pos e]
   rfl
 .refine K8.mpr (h8 ?_)
  refine fin _ ?_
  unfold order
  rw[if_neg (by rw[e];simp)]
  rfl
end
variable [Fam]
theorem xf {a b c:Bool}(h:(if true=true then !(PyData.bool a).eqv (PyData.bool b) else(PyData.bool a).eqv (PyData.bool b))=c):c = !decide (a=b):=by
 subst h
 cases a <;> cases b <;> rfl
section
variable {F:FdS}{Q:PyData->FdS->Prop}
theorem ff {l:List Nat}{i:Nat}{d:PyData}(h:(l6 l)[i]? = some d):∃k,l[i]? = some k/\d = .int (k:Int):=by
 unfold l6 at h
 rw[List.getElem?_map]at h
 obtain⟨k,e,rfl⟩:=Option.map_eq_some_iff.mp h
 exact⟨k,e,rfl⟩
end
variable [Fam]
theorem Bv {i:Int}{n:Nat}(h0:-100000<=i)(h1:i<=100000):Gd n 1 0 (.int i):=yF (pS (by omega))
theorem jz {l:List Nat}(h:∀i∈l,i<=1000):Gd 0 (1+l.length) 1 (.tuple (l6 l)):=by
 refine Gd.tup (M:=1) (λx hx=>?_) ?_
 .obtain⟨p,hp,rfl⟩:=List.mem_map.mp hx
  have:=h p hp
  exact Bv (by omega) (by omega)
 .have:=cf (c:=1) (ds:=l6 l) λd hd=>by
   obtain⟨p,hp,rfl⟩:=List.mem_map.mp hd
   simp[cnt]
  rw[K9]at this
  omega
theorem ll {h k:Nat}{ps:List Pn}(hp:∀p∈ps,p.2.2=false):j5 h k true ps=j5 h k false ps:=by
 have hb:∀i,(pAt ps i).2.2=false:=λi=>by
  unfold pAt
  rw[List.getD_eq_getElem?_getD]
  cases e:ps[i]? with
  | none=>rfl
  | some p=>exact hp p (List.mem_of_getElem? e)
 rw[Z5,Z5]
 have e:∀i j,x5 k true ps i j↔x5 k false ps i j:=λi j=>by
  unfold x5
  simp[hb i,hb j]
 refine List.filter_congr λi _=>?_
 rw[decide_eq_decide]
 have:((List.range ps.length).filter λj=>decide (j≠i/\x5 k true ps j i))=(List.range ps.length).filter λj=>decide (j≠i/\x5 k false ps j i):=List.filter_congr λj _=>by
  rw[decide_eq_decide,e]
 rw[this]
end L3
namespace L3
open L2
section
def fe (kp:Bool)(p:Pn):Pn:=(p.1,p.2.1-1,kp)
def V4 (P:List Nat)(ps:List Pn)(i:Nat):Bool:=decide (i∈P)&&decide ((pAt ps i).2.1<=1)
def O5 (P:List Nat)(kp:Bool)(ps:List Pn)(i:Nat):Pn:=if i∈P then fe kp (pAt ps i) else pAt ps i
def R7 (P:List Nat)(ps:List Pn):List Nat:=(List.range ps.length).filter λi=>!decide (i∈P)
def J1 (P:List Nat)(ps:List Pn):List Nat:=P.filter λi=>!decide ((pAt ps i).2.1<=1)
def U1 (P:List Nat)(ps:List Pn):List Nat:=P.filter λi=>decide ((pAt ps i).2.1<=1)
def K1 (tn:Bool)(P:List Nat)(ps:List Pn):List Nat:=if tn then R7 P ps++J1 P ps else(List.range ps.length).filter λi=>!V4 P ps i
theorem aA {α:Type}{R:α->α->Prop}(as:∀a b,R a b->R b a->False):∀{l₁ l₂:List α},l₁.Perm l₂->l₁.Pairwise R->l₂.Pairwise R->l₁=l₂
 | [],l₂,p,_,_=>p.nil_eq
 | a::r,[],p,_,_=>by have:=p.length_eq;simp at this
 | a::r,b::t,p,h1,h2=>by
  rw[List.pairwise_cons]at h1 h2
  have ab:a=b:=by
   rcases List.mem_cons.mp (p.mem_iff.mp (List.mem_cons_self (a:=a) (l:=r))) with e | e
   .exact e
   .rcases List.mem_cons.mp (p.mem_iff.mpr (List.mem_cons_self (a:=b) (l:=t))) with e2 | e2
    .exact e2.symm
    .exact(as _ _ (h2.1 a e) (h1.1 b e2)).elim
  subst ab
  rw[aA as (p.cons_inv) h1.2 h2.2]
theorem lh {α:Type}{p:Int × α}:∀{l:List (Int × α)},l.Pairwise (λa b=>a.1<b.1)->(∀q∈l,p.1≠q.1)->(V9 p l).Pairwise λa b=>a.1<b.1
 | [],_,_=>by simp[V9]
 | q::r,h,hl=>by
  rw[List.pairwise_cons]at h
  rw[V9]
  split
  .rename_i hle
   have hq:=hl q List.mem_cons_self
   refine List.pairwise_cons.mpr ⟨λz hz=>?_,List.pairwise_cons.mpr h⟩
   rcases List.mem_cons.mp hz with rfl | hz
   .omega
   .have:=h.1 z hz;omega
  .rename_i hgt
   refine List.pairwise_cons.mpr ⟨λz hz=>?_,lh h.2 λz hz=>hl z (List.mem_cons_of_mem _ hz)⟩
   rcases List.mem_cons.mp ((U9 p r).mem_iff.mp hz) with rfl | hz
   .omega
   .exact h.1 z hz
theorem fg {α:Type}:∀{l:List (Int × α)},(l.map Prod.fst).Nodup->(t9 l).Pairwise λa b=>a.1<b.1
 | [],_=>.nil
 | p::r,h=>by
  rw[List.map_cons,List.nodup_cons]at h
  exact lh (fg h.2) λq hq e=>h.1 (e▸List.mem_map_of_mem ((z8 r).mem_iff.mp hq))
theorem oW {α:Type}{l m:List (Int × α)}(hp:m.Perm l)(hs:m.Pairwise λa b=>a.1<b.1):t9 l=m:=by
 have nd:(l.map Prod.fst).Nodup:=by
  refine(hp.map Prod.fst).nodup_iff.mp ?_
  rw[List.nodup_iff_pairwise_ne,List.pairwise_map]
  exact hs.imp λh=>by omega
 exact aA (R:=λa b:Int × α=>a.1<b.1) (λa b h1 h2=>by omega) ((z8 l).trans hp.symm) (fg nd) hs
theorem ah {h k:Nat}{kp:Bool}{ps:List Pn}:∀i∈j5 h k kp ps,i<ps.length:=λi hi=>List.mem_range.mp (List.mem_filter.mp hi).1
theorem R6 {h k:Nat}{kp:Bool}{ps:List Pn}:(j5 h k kp ps).Nodup:=(N8 _).sublist List.filter_sublist
theorem dh {P:List Nat}{ps:List Pn}(hs:∀i∈P,i<ps.length)(hn:P.Nodup):(R7 P ps++J1 P ps).Perm (K1 false P ps):=by
 unfold K1
 rw[if_neg (by simp)]
 refine fj ?_ ((N8 _).sublist List.filter_sublist) λx=>?_
 .rw[List.nodup_append]
  refine⟨(N8 _).sublist List.filter_sublist,hn.sublist List.filter_sublist,λa ha b hb e=>?_⟩
  subst e
  have h1:=(List.mem_filter.mp ha).2
  have h2:=(List.mem_filter.mp hb).1
  simp[h2]at h1
 .unfold R7 J1 V4
  simp only[List.mem_append,List.mem_filter,List.mem_range,Bool.not_eq_true',decide_eq_false_iff_not,Bool.and_eq_false_iff]
  constructor
  .rintro (⟨h1,h2⟩ | ⟨h1,h2⟩)
   .exact⟨h1,.inl h2⟩
   .exact⟨hs x h1,.inr h2⟩
  .rintro ⟨h1,h2⟩
   by_cases hx:x∈P
   .exact .inr ⟨hx,h2.resolve_left λz=>z hx⟩
   .exact .inl ⟨h1,hx⟩
theorem wL (P:List Nat)(ps:List Pn):(K1 false P ps).Pairwise (· < ·):=by
 unfold K1
 rw[if_neg (by simp)]
 exact(Q7 _).sublist List.filter_sublist
theorem fK {tn:Bool}{P:List Nat}{ps:List Pn}(hs:∀i∈P,i<ps.length)(hn:P.Nodup):(K1 tn P ps).Perm (K1 false P ps):=by
 cases tn with
 | false=>exact .refl _
 | true =>
  have:=dh hs hn
  unfold K1 at this ⊢
  simpa using this
def after (h k:Nat)(kp tn:Bool)(ps:List Pn):List Pn:=(K1 tn (j5 h k kp ps) ps).map (O5 (j5 h k kp ps) kp ps)
def C1 (pl:Option Nat)(n m:Nat):Nat:=match pl with
 | some v=>min m (v-n)
 | none=>m
def B3 (pl:Option Nat)(ps:List Pn)(bt:List (Int×Int)):List Pn:=ps++(bt.take (C1 pl ps.length bt.length)).map λc=>(c.1,c.2,false)
theorem eO (pl:Option Nat)(ps:List Pn)(bt:List (Int×Int)):(B3 pl ps bt).length=ps.length+C1 pl ps.length bt.length:=by
 unfold B3
 rw[List.length_append,List.length_map,List.length_take]
 unfold C1
 split <;> omega
end
section
theorem gP {h k:Nat}{kp tn:Bool}{ps:List Pn}:(after h k kp tn ps).length<=ps.length:=by
 unfold after
 rw[List.length_map,(fK (tn:=tn) (ah (h:=h) (k:=k) (kp:=kp) (ps:=ps)) R6).length_eq]
 have h2:=List.length_filter_le (λi=>!V4 (j5 h k kp ps) ps i) (List.range ps.length)
 unfold K1
 rw[if_neg (by simp)]
 rw[List.length_range]at h2
 exact h2
abbrev Bt:=List (Int×Int)
def r8 (h k:Nat)(kp tn:Bool)(pl:Option Nat)(ps:List Pn)(bt:Bt):List Pn:=after h k kp tn (B3 pl ps bt)
def G3 (f:List Pn->Bt->List Pn)(ps:List Pn)(way:List Bt)(i:Nat):List Pn:=(way.take i).foldl f ps
def p0 (way:List Bt)(i:Nat):Bt:=way.getD i []
theorem U4 {f:List Pn->Bt->List Pn}{ps:List Pn}{way:List Bt}:G3 f ps way 0=ps:=by simp[G3]
theorem U8 {f:List Pn->Bt->List Pn}{ps:List Pn}{way:List Bt}{i:Nat}(h:i<way.length):G3 f ps way (i+1)=f (G3 f ps way i) (p0 way i):=by
 unfold G3 p0
 have e:way.getD i []=way[i]:=by simp[h]
 rw[List.take_add_one,List.getElem?_eq_getElem h,List.foldl_append,e]
 rfl
def z9 (way:List Bt):Nat:=(way.map List.length).sum
theorem P5 {way:List Bt}{i:Nat}(h:i<way.length):z9 (way.take (i+1))=z9 (way.take i)+(p0 way i).length:=by
 unfold z9 p0
 have e:way.getD i []=way[i]:=by simp[h]
 rw[List.take_add_one,List.getElem?_eq_getElem h,List.map_append,List.sum_append,e]
 rfl
theorem nE (way:List Bt)(i:Nat):z9 (way.take i)<=z9 way:=by
 conv=>rhs;rw[<-List.take_append_drop i way]
 unfold z9
 rw[List.map_append,List.sum_append]
 omega
theorem jJ {h k:Nat}{kp tn:Bool}{pl:Option Nat}{ps:List Pn}{way:List Bt}:∀{i:Nat},i<=way.length->(G3 (r8 h k kp tn pl) ps way i).length<=ps.length+z9 (way.take i)
 | 0,_=>by rw[U4];omega
 | i+1,hi=>by
  have ih:=jJ (h:=h) (k:=k) (kp:=kp) (tn:=tn) (pl:=pl) (ps:=ps) (way:=way) (i:=i) (by omega)
  rw[U8 (by omega),P5 (by omega)]
  unfold r8
  refine Nat.le_trans gP ?_
  rw[eO]
  have:C1 pl (G3 (r8 h k kp tn pl) ps way i).length (p0 way i).length<=(p0 way i).length:=by unfold C1;split <;> omega
  unfold r8 at ih this
  omega
theorem ko {h k:Nat}{kp tn:Bool}{pl:Option Nat}{ps:List Pn}{way:List Bt}(hl:ps.length+z9 way<64){i:Nat}(hi:i<way.length):(G3 (r8 h k kp tn pl) ps way i).length+(p0 way i).length<64:=by
 have h1:=jJ (h:=h) (k:=k) (kp:=kp) (tn:=tn) (pl:=pl) (ps:=ps) (way:=way) (i:=i) (by omega)
 have h2:=P5 hi
 have h3:=nE way (i+1)
 omega
def q5 (came void:Nat->Bool):Nat->List (Nat×Nat)×Option Nat
 | 0=>([],none)
 | i+1=>match (if (q5 came void i).2=none/\came i=true then some i else(q5 came void i).2) with
  | some j=>if void (i+1) then((q5 came void i).1++[(j,i+1)],none) else((q5 came void i).1,some j)
  | none=>((q5 came void i).1,none)
def fv (void:Nat->Bool)(a i:Nat):Option Nat:=((((List.range (i-a)).map λj=>a+1+j).filter void).head?)
def uE (came void:Nat->Bool)(i:Nat)(n:Nat):List (Nat×Option Nat):=((List.range i).filter λa=>void a&&came a).map λa=>(a,fv void a n)
def S4 (x:List (Nat×Nat)×Option Nat):List (Nat×Option Nat):=(x.1.map λq=>(q.1,some q.2))++(match x.2 with | some j=>[(j,none)] | none=>[])
theorem nW {void:Nat->Bool}{a i:Nat}(h:a<=i):fv void a (i+1)=(fv void a i).or (if void (i+1) then some (i+1) else none):=by
 unfold fv
 have e:i+1-a=(i-a)+1:=by omega
 rw[e,List.range_succ,List.map_append,List.filter_append,List.head?_append]
 congr 1
 have e2:a+1+(i-a)=i+1:=by omega
 simp only[List.map_cons,List.map_nil,e2]
 cases hv:void (i+1) with
 | true=>rw[List.filter_cons_of_pos hv];rfl
 | false=>rw[List.filter_cons_of_neg (by simp[hv])];rfl
theorem vH {void:Nat->Bool}{a:Nat}:fv void a a=none:=by unfold fv;simp
theorem rL {came void:Nat->Bool}{n:Nat}(h0:void 0=true)(hk:∀i<n,void i=true->came i=false->void (i+1)=true):∀i,i<=n->uE came void i i=S4 (q5 came void i)/\(void i=(q5 came void i).2.isNone)
 | 0,_=>⟨rfl,by rw[h0];rfl⟩
 | i+1,hi=>by
  obtain⟨e,hv⟩:=rL h0 hk i (by omega)
  have hkk:=hk i (by omega)
  -- the rows before,one moment later
  have ex:uE came void (i+1) (i+1)=(uE came void i i).map (λq=>(q.1,q.2.or (if void (i+1) then some (i+1) else none)))++(if (void i&&came i)=true then[(i,if void (i+1) then some (i+1) else none)] else[]):=by
   unfold uE
   rw[List.range_succ,List.filter_append,List.map_append,List.map_map]
   congr 1
   .refine List.map_congr_left λa ha=>?_
    have:=List.mem_range.mp (List.mem_filter.mp ha).1
    rw[nW (by omega)]
    rfl
   .cases hc:(void i&&came i) with
    | true=>rw[List.filter_cons_of_pos (p:=λa=>void a&&came a) hc,if_pos rfl];simp only[List.filter_nil,List.map_cons,List.map_nil,nW (Nat.le_refl i),vH,Option.none_or]
    | false=>rw[List.filter_cons_of_neg (p:=λa=>void a&&came a) (by simp[hc]),if_neg (by simp)];rfl
  rw[ex,e]
  rw[q5]
  generalize q5 came void i=x at hv
  obtain⟨t,b⟩:=x
  have et:∀t:List (Nat×Nat),(t.map λq=>(q.1,some q.2)).map (λq:Nat×Option Nat=>(q.1,q.2.or (if void (i+1) then some (i+1) else none)))=t.map λq=>(q.1,some q.2):=λt=>by
   rw[List.map_map];rfl
  cases b with
  | none =>
   have hvi:void i=true:=by rw[hv];rfl
   cases hc:came i with
   | true =>
    simp only[S4,hvi,Bool.and_self,if_true,and_self,List.append_nil,et]
    cases hv1:void (i+1) with
    | true=>simp
    | false=>simp
   | false =>
    have h1:=hkk hvi hc
    simp[S4,h1,hvi,et]
  | some j =>
   have hvi:void i=false:=by rw[hv];rfl
   cases hv1:void (i+1) with
   | true=>simp[S4,hvi]
   | false=>simp[S4,hvi]
end
section
def AI (pl:Option Nat)(x:Nat):Nat:=match pl with
 | some v=>min x v
 | none=>x
def kQ (pl:Option Nat)(n:Nat):Prop:=∀v,pl=some v->n<=v
theorem qI {pl:Option Nat}{n m:Nat}(h:kQ pl n):n+C1 pl n m=AI pl (n+m):=by
 cases pl with
 | none=>rfl
 | some v =>
  have:=h v rfl
  show n+min m (v-n)=min (n+m) v
  omega
theorem uU {pl:Option Nat}{x:Nat}:kQ pl (AI pl x):=λv hv=>by
 subst hv
 exact Nat.min_le_right _ _
theorem kQ.le {pl:Option Nat}{n m:Nat}(h:kQ pl n)(hm:m<=n):kQ pl m:=λv hv=>Nat.le_trans hm (h v hv)
theorem gO {h k:Nat}{kp tn:Bool}{pl:Option Nat}{ps:List Pn}{way:List Bt}(h0:kQ pl ps.length):∀{i:Nat},i<=way.length->kQ pl (G3 (r8 h k kp tn pl) ps way i).length
 | 0,_=>by rw[U4];exact h0
 | i+1,hi=>by
  have ih:=gO (h:=h) (k:=k) (kp:=kp) (tn:=tn) (way:=way) h0 (i:=i) (by omega)
  rw[U8 (by omega)]
  unfold r8 at ih ⊢
  refine kQ.le ?_ gP
  rw[eO,qI ih]
  exact uU
end
section
end
section
end
section
section
variable {h c:Nat}{rk L w:Nat->Int}
end
end
end L3
namespace L3
open PySem PySem.Spec PyProof.Rows L2
section
variable [Fam]
abbrev cmD (c:Int×Int):PyData:=.tuple [.int c.1,.int c.2]
def plD:Option Nat->PyData
 | some v=>.int (v:Int)
 | none=>.none
def bY:List DV->M PyData:=Y4 ["house","stand","beat","places","room","entered"] (mSq (u5 3 (s2 ixD (sW 0) (sC (.int 1))))
  (mSq (u5 4 (sIf (uB (s2 (isD false) (sW 3) (sC .none))) (sN R1 (b8 (sW 2) g7)) (s2 pF (sW 3) (sN R1 (b8 (sW 1) g7)))))
  (mSq (u5 5 (sLC (bW (jR (sW 2) oNo (oI (sV 4)))) 2 [] (P8 2 (j7 (bN 0) (j7 (bN 1) R3))) dQ (J5 (b8 (sV 0) (b8 (sV 1) (b8 (sC (.bool false)) g7))))))
  (mRt (J5 (b8 (s2 Q1 (sW 1) (sN E9 (b8 (sW 5) g7))) (b8 (s2 pF (sN R1 (b8 (sW 2) g7)) (sN R1 (b8 (sW 5) g7))) g7)))))))
def bP:List DV->M PyData:=Y4 ["house","stand","rule","hands_on","waiting","served","gone","place","rank","left","begun","staying"] (mSq (u5 2 (s2 ixD (sW 0) (sC (.int 2))))
  (mSq (u5 3 (p8 CO (vD (sV 0) (vD (sV 1) D2))))
  (mSq (u5 4 (sLC (dN (sW 1)) 2 [3] (P8 2 (j7 (bN 0) (j7 (bN 1) R3))) (uB (s2 (inD true) (sW 0) (sW 2))) (J5 (b8 (sV 0) (b8 (sV 1) g7)))))
  (mSq (oP 5 6 (cO (Y9 g7)) (cO (Y9 g7)))
  (mSq (Z0 (bW (sV 3)) (bN 7) (mSq (X7 (P8 3 (j7 (bN 8) (j7 (bN 9) (j7 (bN 10) R3)))) (s2 ixD (sW 1) (sW 7)))
  (mIf (uB (s2 gtD (sW 9) (sC (.int 1)))) (O2 5 (J5 (b8 (sV 7) (b8 (J5 (b8 (sV 8) (b8 (s2 pF (sW 9) (sC (.int 1))) (b8 (p8 bT (vD (sV 2) D2)) g7)))) g7)))) (O2 6 (sV 7)))))
  (mSq (u5 11 (sIf (uB (s2 (eqD false) (sW 2) (sC (.str "turns")))) (s2 Q1 (sW 4) (sW 5)) (sN bz (b8 (s2 Q1 (sW 4) (sW 5)) g7))))
  (mRt (J5 (b8 (sV 11) (b8 (sV 3) (b8 (sN E9 (b8 (sW 6) g7)) g7)))))))))))
def ij:List DV->M PyData:=Y4 ["house","stand","beat","filled","lost","staying","hands_on","gone"] (mSq (X7 (P8 2 (j7 (bN 3) (j7 (bN 4) R3))) (p8 bY (vD (sV 0) (vD (sV 1) (vD (sV 2) D2)))))
  (mSq (X7 (P8 3 (j7 (bN 5) (j7 (bN 6) (j7 (bN 7) R3)))) (p8 bP (vD (sV 0) (vD (sV 3) D2))))
  (mRt (J5 (b8 (sN E9 (b8 (sLC (bW (sW 5)) 2 [] (P8 2 (j7 (bN 0) (j7 (bN 1) R3))) dQ (sV 1)) g7)) (b8 (sV 4) (b8 (sV 7) g7)))))))
abbrev b2:PyData->DE->Option DE:=P8 2 (j7 (bN 0) (j7 (bN 1) R3))
section
variable {F:FdS}
theorem xU {me:DE->M PyData}{α:Type}{x y:α->PyData}{f:α->PyData}{rest:DE}{Q:List PyData->FdS->Prop}:∀(ds:List α) (o o':Option DV),(∀d∈ds,∀(F:FdS) (Q:PyData->FdS->Prop),Q (f d) F->wp (me (some (.dat (x d))::some (.dat (y d))::rest) F) Q)->Q (ds.map f) F->wp (Y5 b2 dQ me (ds.map λd=>.tuple [x d,y d]) (o::o'::rest) F) Q
 | [],o,o',_,q=>a8.mpr q
 | d::ds,o,o',h,q=>by
  rw[List.map_cons,Y5]
  have e:b2 (.tuple [x d,y d]) (o::o'::rest)=some (some (.dat (x d))::some (.dat (y d))::rest):=rfl
  rw[e,Option.bind_some,b7]
  refine je.mpr ?_
  rw[if_pos rfl,b7]
  refine h d List.mem_cons_self F _ ?_
  rw[b7]
  exact xU ds _ _ (λd hd=>h d (List.mem_cons_of_mem _ hd)) (a8.mpr q)
theorem yG {mt:DE->M Bool}{me:DE->M PyData}{α:Type}{x y:α->PyData}{g:α->Bool}{f:α->PyData}{rest:DE}{Q:List PyData->FdS->Prop}:∀(ds:List α) (o o':Option DV),(∀d∈ds,∀(F:FdS) (Q:Bool->FdS->Prop),Q (g d) F->wp (mt (some (.dat (x d))::some (.dat (y d))::rest) F) Q) ->
  (∀d∈ds,g d=true->∀(F:FdS) (Q:PyData->FdS->Prop),Q (f d) F->wp (me (some (.dat (x d))::some (.dat (y d))::rest) F) Q)->Q ((ds.filter g).map f) F->wp (Y5 b2 mt me (ds.map λd=>.tuple [x d,y d]) (o::o'::rest) F) Q
 | [],o,o',_,_,q=>a8.mpr q
 | d::ds,o,o',ht,h,q=>by
  rw[List.map_cons,Y5]
  have e:b2 (.tuple [x d,y d]) (o::o'::rest)=some (some (.dat (x d))::some (.dat (y d))::rest):=rfl
  rw[e,Option.bind_some,b7]
  refine ht d List.mem_cons_self F _ ?_
  cases c:g d with
  | false =>
   rw[List.filter_cons_of_neg (by rw[c];simp)]at q
   rw[if_neg (by simp)]
   exact yG ds _ _ (λd hd=>ht d (List.mem_cons_of_mem _ hd)) (λd hd=>h d (List.mem_cons_of_mem _ hd)) q
  | true =>
   rw[List.filter_cons_of_pos c,List.map_cons]at q
   rw[if_pos rfl,b7]
   refine h d List.mem_cons_self c F _ ?_
   rw[b7]
   exact yG ds _ _ (λd hd=>ht d (List.mem_cons_of_mem _ hd)) (λd hd=>h d (List.mem_cons_of_mem _ hd)) (a8.mpr q)
theorem rY {ps:List Pn}:O6 0 (ps.map pnD)=(List.range ps.length).map λi=>.tuple [.int (i:Int),pnD (pAt ps i)]:=by
 have key:∀(l:List PyData) (k:Nat),O6 k l=(List.range l.length).map λi=>.tuple [.int ((k+i:Nat):Int),l.getD i .none]:=by
  intro l
  induction l with
  | nil=>intro k;rfl
  | cons d l ih =>
   intro k
   rw[O6,ih,List.length_cons,List.range_succ_eq_map,List.map_cons,List.map_map]
   have e1:(PyData.tuple [.int (k:Int),d]) = .tuple [.int ((k+0:Nat):Int),(d::l).getD 0 .none]:=by simp
   rw[<-e1]
   refine congrArg (List.cons _) (List.map_congr_left λi _=>?_)
   simp only[Function.comp,Nat.succ_eq_add_one,List.getD_cons_succ]
   rw[show k+1+i=k+(i+1) by omega]
 rw[key,List.length_map]
 refine List.map_congr_left λi hi=>?_
 have hi:=List.mem_range.mp hi
 rw[Nat.zero_add,List.getD_eq_getElem?_getD,List.getElem?_map,List.getElem?_eq_getElem hi]
 unfold pAt
 rw[List.getD_eq_getElem?_getD,List.getElem?_eq_getElem hi]
 rfl
theorem fk {a b:Int}:(PyData.int a).eqv (.int b)=decide (a=b):=by
 simp only[PyData.eqv]
 exact Bool.beq_eq_decide_eq ..
theorem pW {l:List Nat}{i:Nat}(hl:∀j∈l,j<=1000):inD true (.int (i:Int)) (.tuple (l6 l))=some (.bool (!decide (i∈l))):=by
 have hs:SeqAt.shaped (.tuple (l6 l))=true:=(jz hl).shaped (by decide) (by decide)
 have hi:SeqAt.shaped (.int (i:Int))=true:=by simp[SeqAt.shaped,PyData.canLay0,PyData.depth]
 show(if SeqAt.shaped (.tuple (l6 l))=true/\SeqAt.shaped (.int (i:Int))=true then _ else none)=_
 rw[if_pos ⟨hs,hi⟩,if_pos rfl]
 refine congrArg (λb=>some (PyData.bool (!b))) ?_
 unfold l6
 rw[List.any_map]
 have e:(l.any ((λy=>y.eqv (.int (i:Int))) ∘ λj:Nat=>PyData.int (j:Int)))=l.any λj=>decide (j=i):=by
  congr 1
  funext j
  simp only[Function.comp,fk]
  rw[decide_eq_decide];omega
 rw[e]
 induction l with
 | nil=>simp
 | cons a l ih =>
  rw[List.any_cons,ih λj hj=>hl j (List.mem_cons_of_mem _ hj)]
  .by_cases h:a=i
   .simp[h]
   .have:¬i=a:=λz=>h z.symm
    simp[h,this]
  .exact(jz λj hj=>hl j (List.mem_cons_of_mem _ hj)).shaped (by decide) (by decide)
  .congr 1
   funext j
   simp only[Function.comp,fk]
   rw[decide_eq_decide];omega
end
section
variable {F:FdS}{Q:PyData->FdS->Prop}
def gC (pl:Option Nat)(n:Nat):Prop:=∀v,pl=some v->n<=v
def xn (pl:Option Nat)(n m:Nat):Int:=match pl with
 | some v=>(v:Int)-(n:Int)
 | none=>(m:Int)
theorem rW {pl:Option Nat}{n:Nat}{bt:List PyData}(hp:gC pl n):di bt none (some (xn pl n bt.length))=bt.take (C1 pl n bt.length):=by
 cases pl with
 | none =>
  show di bt none (some ((bt.length:Nat):Int))=_
  rw[bV];rfl
 | some v =>
  have:=hp v rfl
  show di bt none (some ((v:Int)-(n:Int)))=bt.take (min bt.length (v-n))
  have e:(v:Int)-(n:Int)=((v-n:Nat):Int):=by omega
  rw[e,bV]
  by_cases hh:v-n<=bt.length
  .rw[Nat.min_eq_right hh]
  .rw[Nat.min_eq_left (by omega),List.take_of_length_le (by omega),List.take_of_length_le (by omega)]
theorem tM {h r:PyData}{pl:Option Nat}{ps:List Pn}{bt:List (Int×Int)}(hp:gC pl ps.length)(hl:ps.length+bt.length<=1000)(q:Q (.tuple [.tuple ((B3 pl ps bt).map pnD),.int ((bt.length-C1 pl ps.length bt.length:Nat):Int)]) F) :
  wp (bY [.dat (.tuple [h,plD pl,r]),.dat (.tuple (ps.map pnD)),.dat (.tuple (bt.map cmD))] F) Q:=by
 have rle:C1 pl ps.length bt.length<=bt.length:=by unfold C1;split <;> omega
 have fin:∀(E:DE) (room:Int) (a5:Option DV),room=xn pl ps.length bt.length->E=[some (.dat (.tuple [h,plD pl,r])),some (.dat (.tuple (ps.map pnD))),some (.dat (.tuple (bt.map cmD))),some (.dat (plD pl)),some (.dat (.int room)),a5] ->
   wp (mSq (u5 5 (sLC (bW (jR (sW 2) oNo (oI (sV 4)))) 2 [] (P8 2 (j7 (bN 0) (j7 (bN 1) R3))) dQ (J5 (b8 (sV 0) (b8 (sV 1) (b8 (sC (.bool false)) g7))))))
    (mRt (J5 (b8 (s2 Q1 (sW 1) (sN E9 (b8 (sW 5) g7))) (b8 (s2 pF (sN R1 (b8 (sW 2) g7)) (sN R1 (b8 (sW 5) g7))) g7)))) E F) (uk Q):=by
  rintro E room a5 hroom rfl
  have ec:di (bt.map cmD) none (some room)=(bt.take (C1 pl ps.length bt.length)).map cmD:=by
   have:=rW (bt:=bt.map cmD) hp
   rw[List.length_map]at this
   rw[hroom,this,List.map_take]
  refine j3.mpr (l4.mpr (gR.mpr (W3.mpr (oE.mpr (j9.mpr (n6 rfl (ou.mpr (vc.mpr (C2.mpr (C6 rfl (c7 yy (c7 rK (c7 dc ?_)))))))))))))
  rw[ec]
  refine⟨sz (by rw[List.length_map,List.length_take];omega),?_⟩
  refine xU (x:=λc:Int×Int=>.int c.1) (y:=λc=>.int c.2) (f:=λc=>pnD (c.1,c.2,false)) _ _ _ (λc hc F Q q=>?_) ?_
  .walk_at "go"
   exact q
  .refine⟨i5 rfl,h8 ?_⟩
   refine dI.mpr (O3.mpr (c6.mpr (t8.mpr (j9.mpr (n6 rfl (L7.mpr (c6.mpr (j9.mpr (n6 rfl (d9.mpr (c7 iH (c7 (Ac ?_) (c6.mpr (t8.mpr (L7.mpr (c6.mpr (j9.mpr (n6 rfl (d9.mpr (c7 cn (L7.mpr (c6.mpr (j9.mpr (n6 rfl (d9.mpr (c7 yE (c7 mr (d9.mpr ⟨D7 rfl,?_⟩))))))))))))))))))))))))))))
   .rw[List.length_map,List.length_map,List.length_take];omega
   .have e1:ps.map pnD++(bt.take (C1 pl ps.length bt.length)).map (λc=>pnD (c.1,c.2,false))=(B3 pl ps bt).map pnD:=by
     unfold B3;rw[List.map_append,List.map_map];rfl
    have e2:((List.map cmD bt).length:Int)-((List.map (λc:Int×Int=>pnD (c.1,c.2,false)) (bt.take (C1 pl ps.length bt.length))).length:Int)=((bt.length-C1 pl ps.length bt.length:Nat):Int):=by
     rw[List.length_map,List.length_map,List.length_take];omega
    rw[e1,e2]
    exact q
 unfold bY
 refine oq.mpr (j3.mpr (l4.mpr (t8.mpr (j9.mpr (n6 rfl (p6.mpr (c7 rfl ⟨i5 rfl,h8 (j3.mpr (l4.mpr (oD.mpr (O4.mpr (t8.mpr (j9.mpr (n6 rfl (p6.mpr (c7 rfl (c7 rfl ?_))))))))))⟩)))))))
 cases pl with
 | none =>
  refine T2 rfl ?_
  refine L7.mpr (c6.mpr (j9.mpr (n6 rfl (d9.mpr (c7 cn ⟨i5 rfl,h8 ?_⟩)))))
  rw[List.length_map]
  exact fin _ _ none rfl rfl
 | some v =>
  refine p7 rfl ?_
  refine t8.mpr (j9.mpr (n6 rfl (L7.mpr (c6.mpr (j9.mpr (n6 rfl (d9.mpr (c7 cn (c7 mr ⟨i5 rfl,h8 ?_⟩)))))))))
  rw[List.length_map]
  exact fin _ _ none rfl rfl
end
variable [Fam]
def tnB:PyData->Bool
 | .str x=>decide (x = "turns")
 | _=>false
abbrev prD (q:Nat×Pn):PyData:=.tuple [.int (q.1:Int),pnD q.2]
theorem qH {r:PyData}(h:r∈W8):eqD false r (.str "turns")=some (.bool (tnB r)):=by
 obtain⟨x,rfl,hx⟩:=M6 h
 show some (PyData.bool (if false=true then !decide (x = "turns") else decide (x = "turns")))=_
 rw[if_neg (by decide)]
 rfl
theorem yO {c1 c2:DE->M DV}{E:DE}{F:FdS}{i j:Nat}{Q:Out->FdS->Prop}(h:wp (c1 E F) λx F1=>wp (c2 E F1) λy F2=>(i<E.length/\j<E.length)/\Q (.nx ((E.set i (some x)).set j (some y))) F2):wp (oP i j c1 c2 E F) Q:=by
 unfold oP
 rw[b7]
 refine f8 h λx F1 h1=>?_
 rw[b7]
 refine f8 h1 λy F2 h2=>?_
 rw[if_pos h2.1]
 exact a8.mpr h2.2
theorem ug {m:DE->M (List PyData)}{E:DE}{F:FdS}{Q:DV->FdS->Prop}(h:wp (m E F) λx F1=>Q (.own x) F1):wp (cO m E F) Q:=by
 unfold cO
 rw[b7]
 exact f8 h λx F1 h1=>a8.mpr h1
theorem fZ:∀l:List (Nat×Pn),(l.map prD).mapM ju=some (l.map λq=>(q.1:Int))
 | []=>rfl
 | q::l=>by rw[List.map_cons,List.mapM_cons,fZ l];rfl
theorem pY {l:List (Nat×Pn)}(h:l≠[]):V5 (l.map prD)=none:=by
 cases l with
 | nil=>exact absurd rfl h
 | cons q l=>rfl
theorem uH {l m:List (Nat×Pn)}(hp:m.Perm l)(hs:m.Pairwise λa b=>a.1<b.1)(h64:l.length<64):bz [.list (l.map prD)]=some (.list (m.map prD)):=by
 by_cases hl:l=[]
 .subst hl
  have:=hp.symm.nil_eq
  subst this
  rfl
 .have nd:(l.map λq=>(q.1:Int)).Nodup:=by
   refine(hp.map λq=>(q.1:Int)).nodup_iff.mp ?_
   rw[List.nodup_iff_pairwise_ne,List.pairwise_map]
   exact hs.imp λh=>by omega
  simp only[bz,pY hl,fZ,Option.bind_some]
  rw[if_pos ⟨nd,by rw[List.length_map];exact h64⟩]
  have e:(l.map λq=>(q.1:Int)).zip (l.map prD)=l.map λq=>((q.1:Int),prD q):=V7 _ _ l
  rw[e,oW (l:=l.map λq=>((q.1:Int),prD q)) (m:=m.map λq=>((q.1:Int),prD q)) (hp.map _) (by rw[List.pairwise_map];exact hs.imp λh=>by show(_:Int)<_;omega),List.map_map]
  rfl
section
variable {F:FdS}{Q:PyData->FdS->Prop}
theorem sF {r:PyData}{pl:PyData}{ps:List Pn}{h:Nat}(hr:r∈W8)(hl:ps.length<64)
  (q:Q (.tuple [.list ((K1 (tnB r) (j5 h (kOf r) (kb r) ps) ps).map λi=>prD (i,O5 (j5 h (kOf r) (kb r) ps) (kb r) ps i)),.tuple (l6 (j5 h (kOf r) (kb r) ps)),.tuple (l6 (U1 (j5 h (kOf r) (kb r) ps) ps))]) F) :
  wp (bP [.dat (.tuple [.int (h:Int),pl,r]),.dat (.tuple (ps.map pnD))] F) Q:=by
 have hsub:=ah (h:=h) (k:=kOf r) (kp:=kb r) (ps:=ps)
 have hnd:=R6 (h:=h) (k:=kOf r) (kp:=kb r) (ps:=ps)
 have hplen:(j5 h (kOf r) (kb r) ps).length<=ps.length:=by rw[iI];omega
 unfold bP
 walk_at "go"
 refine sq hr hl ?_
 generalize j5 h (kOf r) (kb r) ps=P at q hsub hnd hplen
 refine⟨i5 rfl,h8 (j3.mpr (l4.mpr (gR.mpr (tU (j9.mpr (n6 rfl (c7 dc ?_)))))))⟩
 rw[rY]
 refine⟨sz (by rw[List.length_map,List.length_range];omega),?_⟩
 refine yG (x:=λi:Nat=>.int (i:Int)) (y:=λi=>pnD (pAt ps i)) (g:=λi=>!decide (i∈P)) (f:=λi=>prD (i,pAt ps i)) _ _ _ (λi hi F Q q=>?_) (λi hi _ F Q q=>?_) ?_
 .walk_at "go"
  refine c7 (pW λj hj=>by have:=hsub j hj;omega) ?_
  exact c7 rfl q
 .walk_at "go"
  exact q
 have ew:((List.range ps.length).filter λi=>!decide (i∈P))=R7 P ps:=rfl
 rw[ew]
 refine⟨i5 rfl,h8 (j3.mpr (yO (ug (T5.mpr (d9.mpr ⟨sz (by decide),ug (T5.mpr (d9.mpr ⟨sz (by decide),⟨i5 rfl,i5 rfl⟩,h8 (j3.mpr (V3.mpr (W3.mpr (C2.mpr (C6 rfl (c7 dc ?_))))))⟩))⟩)))))⟩
 refine F0 (λm E F'=>F'=F/\∃o7 o8 o9 o10 o11,E=[some (.dat (.tuple [.int (h:Int),pl,r])),some (.dat (.tuple (ps.map pnD))),some (.dat r),some (.dat (.tuple (l6 P))),some (.dat (.list ((R7 P ps).map λi=>prD (i,pAt ps i)))),some (.own ((J1 (P.take m) ps).map λi=>prD (i,fe (kb r) (pAt ps i)))),some (.own (l6 (U1 (P.take m) ps))),o7,o8,o9,o10,o11]) _ 0 _ F ⟨rfl,none,none,none,none,none,rfl⟩ ?_ ?_
 .rintro m d e E F1 ⟨rfl,o7,o8,o9,o10,o11,rfl⟩
  obtain⟨i,ei,rfl⟩:=ff e
  have hi:=hsub i (List.mem_of_getElem? ei)
  have et:P.take (0+m+1)=P.take (0+m)++[i]:=by rw[Nat.zero_add,List.take_add_one,ei];rfl
  refine⟨_,rfl,?_⟩
  refine j3.mpr (aO.mpr (t8.mpr (j9.mpr (n6 rfl (j9.mpr (n6 rfl (c7 (xj hi) (c7 rfl (h8 ?_)))))))))
  refine J3.mpr (O4.mpr (t8.mpr (j9.mpr (n6 rfl (p6.mpr (c7 wX (c7 rfl (L8 (λhc=>?_) λhc=>?_))))))))
  .have hc:1<(pAt ps i).2.1:=of_decide_eq_true hc
   have e1:J1 (P.take (0+m+1)) ps=J1 (P.take (0+m)) ps++[i]:=by
    unfold J1;rw[et,List.filter_append,List.filter_cons_of_pos (by simp;omega),List.filter_nil]
   have e2:U1 (P.take (0+m+1)) ps=U1 (P.take (0+m)) ps:=by
    unfold U1;rw[et,List.filter_append,List.filter_cons_of_neg (by simp;omega),List.filter_nil,List.append_nil]
   refine V2 rfl (by
    have:=List.length_filter_le (λi=>!decide ((pAt ps i).2.1<=1)) (P.take (0+m))
    have h2:=List.length_take (i:=0+m) (l:=P)
    rw[List.length_map];unfold J1;omega) ?_
   refine O3.mpr (c6.mpr (C2.mpr (C6 rfl (c6.mpr (O3.mpr (c6.mpr (C2.mpr (C6 rfl (c6.mpr (t8.mpr (j9.mpr (n6 rfl (p6.mpr (c7 mr (c6.mpr (B9.mpr (Q5.mpr (C2.mpr (C6 rfl (E3.mpr ?_))))))))))))))))))))
   refine nM hr (d9.mpr ⟨D7 rfl,d9.mpr ⟨D7 rfl,?_⟩⟩)
   exact⟨_,rfl,rfl,_,_,_,_,_,by rw[e1,e2,List.map_append];rfl⟩
  .have hc:¬1<(pAt ps i).2.1:=of_decide_eq_false hc
   have e1:J1 (P.take (0+m+1)) ps=J1 (P.take (0+m)) ps:=by
    unfold J1;rw[et,List.filter_append,List.filter_cons_of_neg (by simp;omega),List.filter_nil,List.append_nil]
   have e2:l6 (U1 (P.take (0+m+1)) ps)=l6 (U1 (P.take (0+m)) ps)++[.int (i:Int)]:=by
    unfold U1;rw[et,List.filter_append,List.filter_cons_of_pos (by simp;omega),List.filter_nil]
    simp only[l6,List.map_append,List.map_cons,List.map_nil]
   refine V2 rfl (by
    have:=List.length_filter_le (λi=>decide ((pAt ps i).2.1<=1)) (P.take (0+m))
    have h2:=List.length_take (i:=0+m) (l:=P)
    rw[K9];unfold U1;omega) (C2.mpr (C6 rfl ?_))
   exact⟨_,rfl,rfl,_,_,_,_,_,by rw[e1,e2];rfl⟩
 .rintro E F1 ⟨rfl,o7,o8,o9,o10,o11,rfl⟩
  rw[K9,Nat.zero_add,List.take_length]
  have lw:(R7 P ps).length<=ps.length:=by
   have:=List.length_filter_le (λi=>!decide (i∈P)) (List.range ps.length)
   rw[List.length_range]at this;exact this
  have ls:(J1 P ps).length<=ps.length:=by
   have:=List.length_filter_le (λi=>!decide ((pAt ps i).2.1<=1)) P
   unfold J1;omega
  have eW:(R7 P ps).map (λi=>prD (i,pAt ps i))=(R7 P ps).map λi=>prD (i,O5 P (kb r) ps i):=List.map_congr_left λi hi=>by
   have h2:i ∉ P:=by have:=(List.mem_filter.mp hi).2;simpa using this
   unfold O5;rw[if_neg h2]
  have eS:(J1 P ps).map (λi=>prD (i,fe (kb r) (pAt ps i)))=(J1 P ps).map λi=>prD (i,O5 P (kb r) ps i):=List.map_congr_left λi hi=>by
   have h2:i∈P:=(List.mem_filter.mp hi).1
   unfold O5;rw[if_pos h2]
  have eA:(R7 P ps).map (λi=>prD (i,pAt ps i))++(J1 P ps).map (λi=>prD (i,fe (kb r) (pAt ps i)))=((R7 P ps++J1 P ps).map λi=>(i,O5 P (kb r) ps i)).map prD:=by
   rw[eW,eS,<-List.map_append,List.map_map];rfl
  have last:∀(E:DE) (st:PyData),st = .list ((K1 (tnB r) P ps).map λi=>prD (i,O5 P (kb r) ps i))->E=[some (.dat (.tuple [.int (h:Int),pl,r])),some (.dat (.tuple (ps.map pnD))),some (.dat r),some (.dat (.tuple (l6 P))),some (.dat (.list ((R7 P ps).map λi=>prD (i,pAt ps i)))),some (.own ((J1 P ps).map λi=>prD (i,fe (kb r) (pAt ps i)))),some (.own (l6 (U1 P ps))),o7,o8,o9,o10,some (.dat st)] ->
    wp (mRt (J5 (b8 (sV 11) (b8 (sV 3) (b8 (sN E9 (b8 (sW 6) g7)) g7)))) E F1) (uk Q):=by
   rintro E st rfl rfl
   walk_at "go"
   exact q
  refine h8 (j3.mpr (l4.mpr (oD.mpr (O4.mpr (t8.mpr (j9.mpr (n6 rfl (p6.mpr (c7 (qH hr) (c7 rfl (L8 (λht=>?_) λht=>?_)))))))))))
  .refine t8.mpr (j9.mpr (n6 rfl (j9.mpr (dB rfl (c7 (vm ?_) ⟨i5 rfl,h8 (last _ _ ?_ rfl)⟩)))))
   .rw[List.length_map,List.length_map];omega
   .rw[eA,List.map_map]
    unfold K1
    rw[if_pos ht]
    rfl
  .refine L7.mpr (c6.mpr (t8.mpr (j9.mpr (n6 rfl (j9.mpr (dB rfl (c7 (vm ?_) (d9.mpr ?_))))))))
   .rw[List.length_map,List.length_map];omega
   .rw[eA]
    have hperm:=(dh hsub hnd).symm.map λi=>(i,O5 P (kb r) ps i)
    have hsrt:((K1 false P ps).map λi=>(i,O5 P (kb r) ps i)).Pairwise λa b=>a.1<b.1:=by
     rw[List.pairwise_map];exact wL P ps
    have hlen:((R7 P ps++J1 P ps).map λi=>(i,O5 P (kb r) ps i)).length<64:=by
     rw[List.length_map,(dh hsub hnd).length_eq]
     have:=List.length_filter_le (λi=>!V4 P ps i) (List.range ps.length)
     unfold K1
     rw[if_neg (by simp)]
     rw[List.length_range]at this
     omega
    refine c7 (uH hperm hsrt hlen) ⟨i5 rfl,h8 (last _ _ ?_ rfl)⟩
    rw[ht,List.map_map]
    rfl
theorem yj {r:PyData}{pl:Option Nat}{ps:List Pn}{bt:List (Int×Int)}{h:Nat}(hr:r∈W8)(hp:gC pl ps.length)(hl:ps.length+bt.length<64)
  (q:Q (.tuple [.tuple ((after h (kOf r) (kb r) (tnB r) (B3 pl ps bt)).map pnD),.int ((bt.length-C1 pl ps.length bt.length:Nat):Int),.tuple (l6 (U1 (j5 h (kOf r) (kb r) (B3 pl ps bt)) (B3 pl ps bt)))]) F) :
  wp (ij [.dat (.tuple [.int (h:Int),plD pl,r]),.dat (.tuple (ps.map pnD)),.dat (.tuple (bt.map cmD))] F) Q:=by
 have hfl:(B3 pl ps bt).length<64:=by
  rw[eO];unfold C1;split <;> omega
 unfold ij
 walk_at "go"
 refine tM hp (by omega) ?_
 walk_at "go"
 refine sF hr hfl ?_
 refine c7 rfl (h8 ?_)
 refine dI.mpr (O3.mpr (c6.mpr (L7.mpr (c6.mpr (gR.mpr (W3.mpr (j9.mpr (n6 rfl (c7 yY ⟨sz ?_,?_⟩)))))))))
 .have h1:=(fK (tn:=tnB r) (ah (h:=h) (k:=kOf r) (kp:=kb r) (ps:=B3 pl ps bt)) R6).length_eq
  have h2:=List.length_filter_le (λi=>!V4 (j5 h (kOf r) (kb r) (B3 pl ps bt)) (B3 pl ps bt) i) (List.range (B3 pl ps bt).length)
  rw[List.length_map,h1]
  unfold K1
  rw[if_neg (by simp)]
  rw[List.length_range]at h2
  omega
 .refine xU (x:=λi:Nat=>.int (i:Int)) (y:=λi=>pnD (O5 (j5 h (kOf r) (kb r) (B3 pl ps bt)) (kb r) (B3 pl ps bt) i)) (f:=λi=>pnD (O5 (j5 h (kOf r) (kb r) (B3 pl ps bt)) (kb r) (B3 pl ps bt) i)) _ _ _ (λi hi F Q q=>?_) ?_
  .walk_at "go"
   exact q
  .walk_at "go"
   unfold after at q
   rw[List.map_map]at q
   exact q
end
variable [Fam]
def kT:List DV->M PyData:=Y4 ["house","way","stand","stands","lost","gone","beat","following","turned_away","places"] (mSq (iL 3 4 5 (cO (Y9 (b8 (sV 2) g7))) (cO (Y9 g7)) (cO (Y9 g7)))
  (mSq (Z0 (bW (sV 1)) (bN 6) (mSq (X7 (P8 3 (j7 (bN 7) (j7 (bN 8) (j7 (bN 9) R3)))) (p8 ij (vD (sV 0) (vD (s2 ixD (sW 3) (s1 yz (sC (.int 1)))) (vD (sV 6) D2)))))
  (mSq (O2 3 (sV 7))
  (mSq (O2 4 (sV 8))
  (O2 5 (sN R1 (b8 (sW 9) g7)))))))
  (mRt (J5 (b8 (sN E9 (b8 (sW 3) g7)) (b8 (sN E9 (b8 (sW 4) g7)) (b8 (sN E9 (b8 (sW 5) g7)) g7)))))))
abbrev btD (b:Bt):PyData:=.tuple (b.map cmD)
abbrev stD (ps:List Pn):PyData:=.tuple (ps.map pnD)
theorem vE {c1 c2 c3:DE->M DV}{E:DE}{F:FdS}{i j k:Nat}{Q:Out->FdS->Prop}(h:wp (c1 E F) λx F1=>wp (c2 E F1) λy F2=>wp (c3 E F2) λz F3=>(i<E.length/\j<E.length/\k<E.length)/\Q (.nx (((E.set i (some x)).set j (some y)).set k (some z))) F3):wp (iL i j k c1 c2 c3 E F) Q:=by
 unfold iL
 rw[b7]
 refine f8 h λx F1 h1=>?_
 rw[b7]
 refine f8 h1 λy F2 h2=>?_
 rw[b7]
 refine f8 h2 λz F3 h3=>?_
 rw[if_pos h3.1]
 exact a8.mpr h3.2
theorem yM {ds:List PyData}{x:PyData}:ixD (.list (ds++[x])) (.int (-1))=some x:=by
 show atI (ds++[x]) (-1)=some x
 unfold atI
 have e:ixN (ds++[x]).length (-1)=some ds.length:=by
  unfold ixN
  rw[if_neg (by decide),if_pos (by simp only[List.length_append,List.length_cons,List.length_nil];omega)]
  congr 1
  simp only[List.length_append,List.length_cons,List.length_nil];omega
 rw[e,Option.bind_some,List.getElem?_append_right (Nat.le_refl _),Nat.sub_self]
 rfl
theorem sM {way:List Bt}{i:Nat}{d:PyData}(h:(way.map btD)[i]? = some d):i<way.length/\d=btD (p0 way i):=by
 rw[List.getElem?_map]at h
 obtain⟨b,e,rfl⟩:=Option.map_eq_some_iff.mp h
 obtain⟨hi,rfl⟩:=List.getElem?_eq_some_iff.mp e
 exact⟨hi,by unfold p0;simp[hi]⟩
theorem vJ {way:List Bt}:O6 0 (way.map btD)=(List.range way.length).map λi=>.tuple [.int (i:Int),btD (p0 way i)]:=by
 have key:∀(l:List PyData) (k:Nat),O6 k l=(List.range l.length).map λi=>.tuple [.int ((k+i:Nat):Int),l.getD i .none]:=by
  intro l
  induction l with
  | nil=>intro k;rfl
  | cons d l ih =>
   intro k
   rw[O6,ih,List.length_cons,List.range_succ_eq_map,List.map_cons,List.map_map]
   have e1:(PyData.tuple [.int (k:Int),d]) = .tuple [.int ((k+0:Nat):Int),(d::l).getD 0 .none]:=by simp
   rw[<-e1]
   refine congrArg (List.cons _) (List.map_congr_left λi _=>?_)
   simp only[Function.comp,Nat.succ_eq_add_one,List.getD_cons_succ]
   rw[show k+1+i=k+(i+1) by omega]
 rw[key,List.length_map]
 refine List.map_congr_left λi hi=>?_
 have hi:=List.mem_range.mp hi
 rw[Nat.zero_add,List.getD_eq_getElem?_getD,List.getElem?_map,List.getElem?_eq_getElem hi]
 unfold p0
 rw[List.getD_eq_getElem?_getD,List.getElem?_eq_getElem hi]
 rfl
theorem sR {f:Nat->PyData}{n i:Nat}(h:i<n):atI ((List.range n).map f) (i:Int)=some (f i):=by
 refine bE ?_
 rw[List.getElem?_map,List.getElem?_eq_getElem (by simpa using h)]
 simp
theorem vz {n i:Nat}{d:PyData}{f:Nat->PyData}(h:((List.range n).map f)[i]? = some d):i<n/\d=f i:=by
 rw[List.getElem?_map]at h
 obtain⟨b,e,rfl⟩:=Option.map_eq_some_iff.mp h
 obtain⟨hi,rfl⟩:=List.getElem?_eq_some_iff.mp e
 simp only[List.length_range]at hi
 exact⟨hi,by simp⟩
def D8 (pl:Option Nat)(ps:List Pn)(bt:Bt):Nat:=bt.length-C1 pl ps.length bt.length
def aI (h k:Nat)(kp:Bool)(pl:Option Nat)(ps:List Pn)(bt:Bt):Nat:=(U1 (j5 h k kp (B3 pl ps bt)) (B3 pl ps bt)).length
section
variable {F:FdS}{Q:PyData->FdS->Prop}
theorem Ar {r:PyData}{pl:Option Nat}{ps:List Pn}{way:List Bt}{h:Nat}(hr:r∈W8)(hp:∀i<way.length,gC pl (G3 (r8 h (kOf r) (kb r) (tnB r) pl) ps way i).length)(hl:ps.length+z9 way<64)(hn:way.length<=1000)
  (q:Q (.tuple [.tuple ((List.range (way.length+1)).map λi=>stD (G3 (r8 h (kOf r) (kb r) (tnB r) pl) ps way i)),.tuple ((List.range way.length).map λi=>.int (D8 pl (G3 (r8 h (kOf r) (kb r) (tnB r) pl) ps way i) (p0 way i):Nat)),.tuple ((List.range way.length).map λi=>.int (aI h (kOf r) (kb r) pl (G3 (r8 h (kOf r) (kb r) (tnB r) pl) ps way i) (p0 way i):Nat))]) F) :
  wp (kT [.dat (.tuple [.int (h:Int),plD pl,r]),.dat (.tuple (way.map btD)),.dat (stD ps)] F) Q:=by
 have hfit:=λi hi=>ko (h:=h) (k:=kOf r) (kp:=kb r) (tn:=tnB r) (pl:=pl) (ps:=ps) (way:=way) hl (i:=i) hi
 have hsucc:=λi hi=>U8 (f:=r8 h (kOf r) (kb r) (tnB r) pl) (ps:=ps) (way:=way) (i:=i) hi
 have hzero:=U4 (f:=r8 h (kOf r) (kb r) (tnB r) pl) (ps:=ps) (way:=way)
 generalize G3 (r8 h (kOf r) (kb r) (tnB r) pl) ps way=st at q hp hfit hsucc hzero
 unfold kT
 refine oq.mpr ?_
 dsimp only[u6,List.map_cons,List.map_nil,List.length_cons,List.length_nil,List.replicate,List.cons_append,List.nil_append,Nat.reduceAdd,Nat.reduceSub]
 refine j3.mpr (vE (ug (T5.mpr (c6.mpr (C2.mpr (C6 rfl (d9.mpr ⟨D7 rfl,ug (T5.mpr (d9.mpr ⟨sz (by decide),ug (T5.mpr (d9.mpr ⟨sz (by decide),⟨i5 rfl,i5 rfl,i5 rfl⟩,h8 (j3.mpr (V3.mpr (W3.mpr (C2.mpr (C6 rfl (c7 dc ?_))))))⟩))⟩))⟩)))))))
 refine F0 (λm E F'=>F'=F/\∃o6 o7 o8 o9,E=[some (.dat (.tuple [.int (h:Int),plD pl,r])),some (.dat (.tuple (way.map btD))),some (.dat (stD ps)),some (.own ((List.range (m+1)).map λi=>stD (st i))),some (.own ((List.range m).map λi=>.int (D8 pl (st i) (p0 way i):Nat))),some (.own ((List.range m).map λi=>.int (aI h (kOf r) (kb r) pl (st i) (p0 way i):Nat))),o6,o7,o8,o9]) _ 0 _ F ⟨rfl,none,none,none,none,by rw[<-hzero];rfl⟩ ?_ ?_
 .rintro m d e E F1 ⟨rfl,o6,o7,o8,o9,rfl⟩
  rw[Nat.zero_add]
  obtain⟨hm,rfl⟩:=sM e
  refine⟨_,rfl,?_⟩
  have es:(List.range (m+1)).map (λi=>stD (st i))=(List.range m).map (λi=>stD (st i))++[stD (st m)]:=by rw[List.range_succ,List.map_append];rfl
  refine j3.mpr (aO.mpr (B9.mpr (Q5.mpr (C2.mpr (C6 rfl (Q5.mpr (t8.mpr (j9.mpr (dB rfl (yK.mpr (p6.mpr (c7 rfl ?_)))))))))))) 
  rw[es]
  refine c7 yM (Q5.mpr (C2.mpr (C6 rfl (E3.mpr ?_))))
  refine yj hr (hp m hm) (hfit m hm) (c7 rfl (h8 ?_))
  refine j3.mpr (V2 rfl (by simp;omega) (C2.mpr (C6 rfl (h8 ?_))))
  refine j3.mpr (V2 rfl (by simp;omega) (C2.mpr (C6 rfl (h8 ?_))))
  refine V2 rfl (by simp;omega) (L7.mpr (c6.mpr (j9.mpr (n6 rfl (d9.mpr (c7 rfl ?_))))))
  have e3:(List.range (m+1+1)).map (λi=>stD (st i))=(List.range m).map (λi=>stD (st i))++[stD (st m)]++[stD (st (m+1))]:=by rw[List.range_succ,List.map_append,es];rfl
  have e4:(List.range (m+1)).map (λi=>PyData.int (D8 pl (st i) (p0 way i):Nat))=(List.range m).map (λi=>PyData.int (D8 pl (st i) (p0 way i):Nat))++[.int (D8 pl (st m) (p0 way m):Nat)]:=by rw[List.range_succ,List.map_append];rfl
  have e5:(List.range (m+1)).map (λi=>PyData.int (aI h (kOf r) (kb r) pl (st i) (p0 way i):Nat))=(List.range m).map (λi=>PyData.int (aI h (kOf r) (kb r) pl (st i) (p0 way i):Nat))++[.int (aI h (kOf r) (kb r) pl (st m) (p0 way m):Nat)]:=by rw[List.range_succ,List.map_append];rfl
  have e6:aI h (kOf r) (kb r) pl (st m) (p0 way m)=(l6 (U1 (j5 h (kOf r) (kb r) (B3 pl (st m) (p0 way m))) (B3 pl (st m) (p0 way m)))).length:=by unfold aI;rw[K9]
  exact⟨_,rfl,rfl,_,_,_,_,by rw[e3,e4,e5,hsucc m hm,e6];rfl⟩
 .rintro E F1 ⟨rfl,o6,o7,o8,o9,rfl⟩
  rw[Nat.zero_add,List.length_map]
  refine h8 ?_
  walk_at "go"
  exact q
end
variable [Fam]
def bsE:Option Nat->PyData
 | some j=>.int (j:Int)
 | none=>.none
abbrev sbD (q:Nat×Option Nat):PyData:=.tuple [.int (q.1:Int),bsE q.2]
theorem aV (came void:Nat->Bool):∀i,(q5 came void i).1.length<=i
 | 0=>Nat.le_refl _
 | i+1=>by
  have:=aV came void i
  rw[q5]
  generalize (if (q5 came void i).2=none/\came i=true then some i else(q5 came void i).2)=x
  cases x with
  | none=>show(q5 came void i).1.length<=i+1;omega
  | some j =>
   show(if void (i+1)=true then((q5 came void i).1++[(j,i+1)],none) else((q5 came void i).1,some j):List (Nat×Nat)×Option Nat).1.length<=i+1
   split
   .simp only[List.length_append,List.length_cons,List.length_nil];omega
   .show(q5 came void i).1.length<=i+1;omega
section
variable {F:FdS}{Q:PyData->FdS->Prop}
end
variable [Fam]
def ik (nm:List Str):List DV->M PyData:=Y4 nm (mSq (cc 3 (Y9 g7))
  (mSq (u5 4 (sC (.int 0)))
  (mSq (Z0 (X3 (b8 (p8 drawS (vF 0 (vD (s2 Q1 (sW 1) (sC (.int 1))) D2))) g7)) (bN 5) (mSq (cc 6 (Y9 g7))
  (mSq (Z0 (X3 (b8 (s2 ixD (sC (.list [.int 0,.int 0,.int 1,.int 1,.int 2,.int 3])) (p8 drawS (vF 0 (vD (sC (.int 6)) D2)))) g7)) (bN 7) (mIf (uB (s2 ltD (sW 4) (sC (.int 40)))) (mSq (O2 6 (J5 (b8 (p8 drawS (vF 0 (vD (sC (.int 2)) D2))) (b8 (s2 Q1 (sC (.int 1)) (p8 drawS (vF 0 (vD (sV 2) D2)))) g7))))
  (u5 4 (s2 Q1 (sW 4) (sC (.int 1))))) mNx))
  (O2 3 (sN E9 (b8 (sW 6) g7))))))
  (mRt (sN E9 (b8 (sW 3) g7))))))
def cg (nm:List Str):List DV->M PyData:=Y4 ["_law_feed_here","_law_beats"] (mSq (u5 1 (s2 ixD (sC (.list [.int 5,.int 9,.int 14,.int 24])) (p8 drawS (vF 0 (vD (sC (.int 4)) D2)))))
  (mRt (p8 (ik nm) (vF 0 (vD (sV 1) (vD (s2 ixD (sC (.list [.int 1,.int 3,.int 6])) (p8 drawS (vF 0 (vD (sC (.int 3)) D2)))) D2))))))
def vT (c:Int×Int):Prop:=0<=c.1/\c.1<=1/\1<=c.2/\c.2<=6
structure WayOk (n:Nat) (way:List Bt):Prop where
 len:way.length<=n
 many:z9 way<=40
 ok:∀b∈way,∀c∈b,vT c
theorem jX (way:List Bt)(b:Bt):z9 (way++[b])=z9 way+b.length:=by
 unfold z9
 rw[List.map_append,List.sum_append]
 rfl
theorem six {r:Int}(r0:0<=r)(r1:r<6):∃c:Nat,ixD (.list [.int 0,.int 0,.int 1,.int 1,.int 2,.int 3]) (.int r)=some (.int (c:Int))/\c<=3:=by
 have:r=0\/r=1\/r=2\/r=3\/r=4\/r=5:=by omega
 rcases this with rfl | rfl | rfl | rfl | rfl | rfl
 .exact⟨0,rfl,by decide⟩
 .exact⟨0,rfl,by decide⟩
 .exact⟨1,rfl,by decide⟩
 .exact⟨1,rfl,by decide⟩
 .exact⟨2,rfl,by decide⟩
 .exact⟨3,rfl,by decide⟩
theorem wI {nm:List Str}(hnm:nm.length=8){n w:Nat}(hn:n<=24)(w1:1<=w)(w2:w<=6):Tr (ik nm) [.feed,.dat (.int (n:Int)),.dat (.int (w:Int))] 170 (λd=>∃way:List Bt,d = .tuple (way.map btD)/\WayOk n way):=Tr.of λF hF=>by
 unfold ik
 refine oq.mpr ?_
 have es:u6 nm [.feed,.dat (.int (n:Int)),.dat (.int (w:Int))]=[some .feed,some (.dat (.int (n:Int))),some (.dat (.int (w:Int))),none,none,none,none,none]:=by unfold u6;rw[hnm];rfl
 rw[es]
 walk_at "go"
 refine D5 (by omega) (by omega) (by omega) λr F1 r0 r1 t1=>?_
 refine d9.mpr (c7 (eI (by omega) (by omega)) ?_)
 refine F0 (λm E F'=>F'.t<=F.t+1+7*m/\∃way:List Bt,∃o5 o6 o7,E=[some .feed,some (.dat (.int (n:Int))),some (.dat (.int (w:Int))),some (.own (way.map btD)),some (.dat (.int (z9 way:Nat))),o5,o6,o7]/\way.length=m/\z9 way<=40/\∀b∈way,∀c∈b,vT c) _ 0 _ F1 ⟨by omega,[],none,none,none,rfl,rfl,by decide,λb hb=>by cases hb⟩ ?_ ?_
 .rintro m d e E F2 ⟨t2,way,o5,o6,o7,rfl,hw,hm,ho⟩
  have hi:=(List.getElem?_eq_some_iff.mp e).1
  rw[R8]at hi
  refine⟨_,rfl,?_⟩
  walk_at "go"
  refine D5 (by decide) (by decide) (by omega) λr2 F3 r20 r21 t3=>?_
  obtain⟨c,ec,hc⟩:=six r20 r21
  refine c7 ec (d9.mpr (c7 (eI (by omega) (by omega)) ?_))
  refine F0 (λj E F'=>F'.t<=F2.t+1+2*j/\∃bt:Bt,∃o5 o7,E=[some .feed,some (.dat (.int (n:Int))),some (.dat (.int (w:Int))),some (.own (way.map btD)),some (.dat (.int (z9 way+bt.length:Nat))),o5,some (.own (bt.map cmD)),o7]/\bt.length<=j/\z9 way+bt.length<=40/\∀c∈bt,vT c) _ 0 _ F3 ⟨by omega,[],_,_,rfl,Nat.le_refl _,hm,λb hb=>by cases hb⟩ ?_ ?_
  .rintro j d2 e2 E F4 ⟨t4,bt,o5,o7,rfl,hbl,hbm,hbo⟩
   have hj:=(List.getElem?_eq_some_iff.mp e2).1
   rw[R8]at hj
   refine⟨_,rfl,?_⟩
   refine J3.mpr (O4.mpr (t8.mpr (j9.mpr (n6 rfl (p6.mpr (c7 rfl (c7 rfl (L8 (λhc=>?_) λhc=>?_))))))))
   .have hc:((z9 way+bt.length:Nat):Int)<40:=of_decide_eq_true hc
    refine j3.mpr (V2 rfl (by rw[List.length_map];omega) ?_)
    walk_at "go"
    refine D5 (by decide) (by decide) (by omega) λa F5 a0 a1 t5=>?_
    walk_at "go"
    refine D5 (by omega) (by omega) (by omega) λb F6 b0 b1 t6=>?_
    walk_at "go"
    refine⟨_,rfl,by omega,bt++[(a,1+b)],o5,some (.dat d2),?_,by simp;omega,by simp;omega,λc hc=>?_⟩
    .have e1:(z9 way+(bt++[(a,1+b)]).length:Nat)=(z9 way+bt.length)+1:=by simp;omega
     rw[e1,List.map_append]
     rfl
    .rcases List.mem_append.mp hc with hc | hc
     .exact hbo c hc
     .simp only[List.mem_singleton]at hc
      subst hc
      exact⟨a0,by show a<=1;omega,by show 1<=1+b;omega,by show 1+b<=6;omega⟩
   .exact K8.mpr ⟨_,rfl,by omega,bt,_,_,rfl,by omega,hbm,hbo⟩
  .rintro E F4 ⟨t4,bt,o5,o7,rfl,hbl,hbm,hbo⟩
   rw[R8]at t4
   refine h8 (V2 rfl (by rw[List.length_map];omega) ?_)
   walk_at "go"
   refine⟨_,rfl,by omega,way++[bt],o5,some (.own (bt.map cmD)),o7,?_,by simp[hw],by rw[jX];exact hbm,λb hb=>?_⟩
   .rw[jX,List.map_append];rfl
   .rcases List.mem_append.mp hb with hb | hb
    .exact ho b hb
    .simp only[List.mem_singleton]at hb
     subst hb
     exact hbo
 .rintro E F2 ⟨t2,way,o5,o6,o7,rfl,hw,hm,ho⟩
  rw[R8]at t2 hw
  walk_at "go"
  exact⟨by omega,way,rfl,by omega,hm,ho⟩
theorem rm {nm:List Str}(hnm:nm.length=8):Tr (cg nm) [.feed] 172 (λd=>∃way:List Bt,d = .tuple (way.map btD)/\WayOk 24 way):=Tr.of λF hF=>by
 unfold cg
 walk_at "go"
 refine D5 (by decide) (by decide) (by omega) λr F1 r0 r1 t1=>?_
 obtain⟨n,en,hn⟩:∃n:Nat,ixD (.list [.int 5,.int 9,.int 14,.int 24]) (.int r)=some (.int (n:Int))/\n<=24:=by
  have:r=0\/r=1\/r=2\/r=3:=by omega
  rcases this with rfl | rfl | rfl | rfl
  .exact⟨5,rfl,by decide⟩
  .exact⟨9,rfl,by decide⟩
  .exact⟨14,rfl,by decide⟩
  .exact⟨24,rfl,by decide⟩
 refine c7 en ?_
 walk_at "go"
 refine D5 (by decide) (by decide) (by omega) λr2 F2 r20 r21 t2=>?_
 obtain⟨w,ew,w1,w2⟩:∃w:Nat,ixD (.list [.int 1,.int 3,.int 6]) (.int r2)=some (.int (w:Int))/\1<=w/\w<=6:=by
  have:r2=0\/r2=1\/r2=2:=by omega
  rcases this with rfl | rfl | rfl
  .exact⟨1,rfl,by decide,by decide⟩
  .exact⟨3,rfl,by decide,by decide⟩
  .exact⟨6,rfl,by decide,by decide⟩
 refine c7 ew (E3.mpr ?_)
 refine(wI hnm hn w1 w2).wp (by omega) λd F3 t3 hd=>?_
 walk_at "go"
 obtain⟨way,rfl,hw⟩:=hd
 exact⟨by omega,way,rfl,⟨Nat.le_trans hw.len hn,hw.many,hw.ok⟩⟩
variable [Fam]
theorem eq0 {i:Int}:eqD false (.int i) (.int 0)=some (.bool (decide (i=0))):=by
 show some (PyData.bool (if false=true then !(PyData.int _).eqv (.int 0) else(PyData.int _).eqv (.int 0)))=_
 rw[if_neg (by decide),fk]
variable [Fam]
theorem xm {d:PyData}{k:Nat}(h:k<=1000):dm (.list [d]) (.int (k:Int))=some (.list (List.replicate k d)):=by
 have e:(List.replicate ((k:Int)).toNat [d]).flatten=List.replicate k d:=by
  rw[Int.toNat_natCast]
  clear h
  induction k with
  | zero=>rfl
  | succ k ih=>rw[List.replicate_succ,List.flatten_cons,ih,List.replicate_succ];rfl
 rw[<-e]
 have hz:[d].length*((k:Int)).toNat<=sizeLine:=sz (by rw[Int.toNat_natCast];show 1*k<=_;omega)
 have h1:-(2 ^ 63)<=(k:Int):=by omega
 have h2:(k:Int)<2 ^ 63:=by omega
 generalize (k:Int)=i at hz h1 h2
 exact if_pos ⟨h1,h2,hz⟩
section
variable {F:FdS}{Q:PyData->FdS->Prop}
end
end
section
section
variable (h:Nat)(way:List Bt)
end
section
variable {h:Nat}{way:List Bt}{m:Nat}
end
end
section
variable [Fam]
section
variable {F:FdS}{Q:PyData->FdS->Prop}
end
variable [Fam]
section
variable {F:FdS}{Q:PyData->FdS->Prop}
end
end
section
end
section
end
section
class Regs where
 S:Type
 Reg:Fg->Hp->Hp->Addr->S->List Addr->Prop
 keep:∀{K:Fg} {V V' H H':Hp} {d:Addr} {μ:S} {A:List Addr},Reg K V H d μ A->d8 V V'->(∀a∈A,H' a=H a)->Reg K V' H' d μ A
 has:∀{K:Fg} {V H:Hp} {d:Addr} {μ:S} {A:List Addr},Reg K V H d μ A->∀a∈A,∃o,H a=some o
 lam:List Str
@[reducible] def G5 [Regs]:Feeds where
 S:=Regs.S
 At:=λ_ _ _ _=>False
 some1:=λh=>h.elim
 some2:=λh=>h.elim
 congr:=λh _ _=>h.elim
 lam:=Regs.lam
def u8 (E:DE)(i:Nat):Option Addr:=match E[i]? with
 | some (some (.adr a))=>some a
 | _=>none
section
variable [Regs]
local instance regI:Feeds:=G5
structure SitMB (K:Fg) (i0:Nat) (d:Addr) (B0 A0:List Addr) (H0:Hp) (B A:List Addr) (E:DE) (μ:FS) (σ:St) (H:Hp):Prop where
 s:∀b∈B0,b∈B
 sn:∀b∈B,b∈B0\/H0 b=none
 I:SitE K none B E μ σ H
 rg:Regs.Reg K (hid H B) H d μ A
 aB:∀a∈A,a∈B/\a ∉ tabP K/\(a∈A0\/(H0 a=none/\a ∉ B0))
 pin:u8 E i0=some d
 tB:∀b∈tabP K,b∈B0
 a0:∀a∈A0,a∈B0
 kp:∀b o,H0 b=some o->b ∉ tabP K->b ∉ A0->H b=some o
 own:∀(i:Nat) (ds:List PyData) (a:Addr),E[i]? = some (some (DV.own ds))->σ[i]? = some (some (V.ref a))->(H0 a=none/\a ∉ B0)/\a ∉ A
 inj:∀(i j:Nat) (ds es:List PyData) (a:Addr),E[i]? = some (some (DV.own ds))->E[j]? = some (some (DV.own es))->σ[i]? = some (some (V.ref a))->σ[j]? = some (some (V.ref a))->i=j
structure EndM (K:Fg) (d:Addr) (B0 A0:List Addr) (H0:Hp) (μ:FS) (H:Hp) (A:List Addr):Prop where
 rg:Regs.Reg K (hid H (A++B0)) H d μ A
 aB:∀a∈A,a ∉ tabP K/\(a∈A0\/(H0 a=none/\a ∉ B0))
 kp:∀b o,H0 b=some o->b ∉ tabP K->b ∉ A0->H b=some o
 tb:A9 (tabsK Feeds.lam K) H
 bk:BOk H B0
def yq (K:Fg)(i0:Nat)(d:Addr)(B0 A0:List Addr)(H0:Hp)(μ:FS)(D:Ends):Out->Prop
 | .nx E=>∀B A σ H,SitMB K i0 d B0 A0 H0 B A E μ σ H->D.nx σ H
 | .bk E=>∀B A σ H,SitMB K i0 d B0 A0 H0 B A E μ σ H->D.bk σ H
 | .ct E=>∀B A σ H,SitMB K i0 d B0 A0 H0 B A E μ σ H->D.ct σ H
 | .rt r=>∀v H A,EndM K d B0 A0 H0 μ H A->a7 K (hid H (A++B0)) r v->D.rt v H
def TSm (K:Fg)(i0:Nat)(ts:TS)(m:DE->M Out):Prop:=∀(d:Addr) (B0 A0:List Addr) (H0:Hp) (B A:List Addr) (E:DE) (μ:FS) (σ:St) (H:Hp) (D:Ends) (r:Out) (μ':FS),SitMB K i0 d B0 A0 H0 B A E μ σ H->m E μ=some (r,μ')->yq K i0 d B0 A0 H0 μ' D r->ts D σ H
def TEm (K:Fg)(i0:Nat)(te:TE)(m:DE->M PyData):Prop:=∀(d:Addr) (B0 A0:List Addr) (H0:Hp) (B A:List Addr) (E:DE) (μ:FS) (σ:St) (H:Hp) (Q:VK) (r:PyData) (μ':FS),SitMB K i0 d B0 A0 H0 B A E μ σ H->m E μ=some (r,μ') ->
 (∀v H' B' A',SitMB K i0 d B0 A0 H0 B' A' E μ' σ H'->d8 (hid H B) (hid H' B')->a7 K (hid H' B') r v->Q v H')->te σ H Q
def TTm (K:Fg)(i0:Nat)(tt:TT)(m:DE->M Bool):Prop:=∀(d:Addr) (B0 A0:List Addr) (H0:Hp) (B A:List Addr) (E:DE) (μ:FS) (σ:St) (H:Hp) (Q:Bool->Hp->Prop) (r:Bool) (μ':FS),SitMB K i0 d B0 A0 H0 B A E μ σ H->m E μ=some (r,μ') ->
 (∀H' B' A',SitMB K i0 d B0 A0 H0 B' A' E μ' σ H'->d8 (hid H B) (hid H' B')->Q r H')->tt σ H Q
def TAm (K:Fg)(i0:Nat)(ta:TA)(m:DE->M (List PyData)):Prop:=∀(d:Addr) (B0 A0:List Addr) (H0:Hp) (B A:List Addr) (E:DE) (μ:FS) (σ:St) (H:Hp) (Q:List V->Hp->Prop) (r:List PyData) (μ':FS),SitMB K i0 d B0 A0 H0 B A E μ σ H->m E μ=some (r,μ') ->
 (∀vs H' B' A',SitMB K i0 d B0 A0 H0 B' A' E μ' σ H'->d8 (hid H B) (hid H' B')->a6 K (hid H' B') r vs->Q vs H')->ta σ H Q
structure SmR (K:Fg) (X:Cx) (i0:Nat) (st:Stmt) (ts:TS) (m:DE->M Out):Prop where
 ps:PS X st ts
 ok:TSm K i0 ts m
structure SmsR (K:Fg) (X:Cx) (i0:Nat) (sts:List Stmt) (ts:TS) (m:DE->M Out):Prop where
 ps:PSs X sts ts
 ok:TSm K i0 ts m
structure Em (K:Fg) (X:Cx) (i0:Nat) (e:Expr) (te:TE) (m:DE->M PyData):Prop where
 pe:PE X e te
 ok:TEm K i0 te m
structure Etm (K:Fg) (X:Cx) (i0:Nat) (e:Expr) (tt:TT) (m:DE->M Bool):Prop where
 pt:PT X e tt
 ok:TTm K i0 tt m
structure Ewm (K:Fg) (X:Cx) (i0:Nat) (e:Expr) (tt:TT) (m:DE->M Bool):Prop where
 pw:PW X e tt
 ok:TTm K i0 tt m
structure Eam (K:Fg) (X:Cx) (i0:Nat) (es:List Expr) (ta:TA) (m:DE->M (List PyData)):Prop where
 pa:PA X es ta
 ok:TAm K i0 ta m
variable {K:Fg}{X:Cx}{i0:Nat}{a b c e tg iter:Expr}{es:List Expr}{st:Stmt}{sts rest:List Stmt}{ta tb te:TE}{ma mb m:DE->M PyData}{t u:TS}{mt mu:DE->M Out}{pos pos' p p2:Pos}
section
variable {d:Addr}{B0 A0:List Addr}{H0:Hp}{B A:List Addr}{E E':DE}{μ:FS}{σ σ':St}{H H':Hp}
theorem SitMB.step (S:SitMB K i0 d B0 A0 H0 B A E μ σ H)(k:Kp (tabP K) H H')(f:A9 (tabsK Feeds.lam K) H'):SitMB K i0 d B0 A0 H0 B A E μ σ H' :=
 have fB:∀b∈tabP K,b∈B:=λb hb=>S.s b (S.tB b hb)
 ⟨S.s,S.sn,S.I.step (G:=none) k ⟨trivial,f⟩,Regs.keep S.rg (k.hid fB) λa ha=>by
   obtain⟨o,e⟩:=Regs.has S.rg a ha
   rw[e];exact k a o e (S.aB a ha).2.1,S.aB,S.pin,S.tB,S.a0,λb o e n1 n2=>k b o (S.kp b o e n1 n2) n1,S.own,S.inj⟩
theorem SitMB.sm (S:SitMB K i0 d B0 A0 H0 B A E μ σ H)(k:Kp (tabP K) H H'):d8 (hid H B) (hid H' B):=k.hid λb hb=>S.s b (S.tB b hb)
theorem SitMB.bind (S:SitMB K i0 d B0 A0 H0 B A E μ σ H)(I:SitE K none B E' μ σ' H)(fr:∀i:Nat,(∀y,E'[i]? ≠ some (some (.dat y)))->E'[i]? = E[i]? /\ σ'[i]? = σ[i]?)(hp:u8 E' i0=u8 E i0):SitMB K i0 d B0 A0 H0 B A E' μ σ' H:=by
 refine⟨S.s,S.sn,I,S.rg,S.aB,hp.trans S.pin,S.tB,S.a0,S.kp,λi ds a ei si=>?_,λi j ds es a ei ej si sj=>?_⟩
 .obtain⟨a1,a2⟩:=fr i λy z=>by rw[ei]at z;cases z
  exact S.own i ds a (a1▸ei) (a2▸si)
 .obtain⟨a1,a2⟩:=fr i λy z=>by rw[ei]at z;cases z
  obtain⟨b1,b2⟩:=fr j λy z=>by rw[ej]at z;cases z
  exact S.inj i j ds es a (a1▸ei) (b1▸ej) (a2▸si) (b2▸sj)
theorem SitMB.fin (S:SitMB K i0 d B0 A0 H0 B A E μ σ H):EndM K d B0 A0 H0 μ H A/\d8 (hid H B) (hid H (A++B0)):=by
 have sub:∀b∈A++B0,b∈B:=λb hb=>by
  rcases List.mem_append.mp hb with h | h
  .exact(S.aB b h).1
  .exact S.s b h
 exact⟨⟨Regs.keep S.rg (J4 sub) λ_ _=>rfl,λa ha=>(S.aB a ha).2,S.kp,S.I.fd.2,λb hb=>S.I.bk b (S.s b hb)⟩,J4 sub⟩
theorem SitMB.base (S:SitMB K i0 d B0 A0 H0 B A E μ σ H):SitMB K i0 d B0 A0 (G8 H B B0) B A E μ σ H:=by
 refine⟨S.s,λb hb=>?_,S.I,S.rg,λa ha=>?_,S.pin,S.tB,S.a0,λb o e _ _=>d0 b o e,λi ds a ei si=>?_,S.inj⟩
 .by_cases h:b∈B0
  .exact .inl h
  .exact .inr (M9 hb h)
 .obtain⟨h1,h2,h3⟩:=S.aB a ha
  exact⟨h1,h2,h3.imp id λh=>⟨M9 h1 h.2,h.2⟩⟩
 .obtain⟨v,v1,a',xs,rfl,hB,_⟩:=S.I.loc i _ ei
  rw[v1]at si;cases si
  obtain⟨h1,h2⟩:=S.own i ds _ ei v1
  exact⟨⟨M9 hB h1.2,h1.2⟩,h2⟩
theorem SitMB.no (S:SitMB K i0 d B0 A0 H0 B A E μ σ H)(b:Addr)(e:G8 H B B0 b=none):b∈B0\/H0 b=none:=by
 by_cases hb:b∈B
 .exact S.sn b hb
 .rw[C5 (.inl hb)]at e
  cases q:H0 b with
  | none=>exact .inr rfl
  | some o =>
   have h0:b ∉ B0:=λz=>hb (S.s b z)
   rw[S.kp b o q (λz=>h0 (S.tB b z)) λz=>h0 (S.a0 b z)]at e;cases e
theorem SitMB.cutkp (S:SitMB K i0 d B0 A0 H0 B A E μ σ H)(k:∀b o,G8 H B B0 b=some o->b ∉ tabP K->b ∉ A0->H' b=some o):∀b o,H0 b=some o->b ∉ tabP K->b ∉ A0->H' b=some o:=λb o e n1 n2=>by
 refine k b o ?_ n1 n2
 rw[C5]
 .exact S.kp b o e n1 n2
 .by_cases hb:b∈B
  .rcases S.sn b hb with h | h
   .exact .inr h
   .rw[h]at e;cases e
  .exact .inl hb
theorem SitMB.unbase {B' A':List Addr}{μ':FS}(S:SitMB K i0 d B0 A0 H0 B A E μ σ H)(S2:SitMB K i0 d B0 A0 (G8 H B B0) B' A' E' μ' σ' H'):SitMB K i0 d B0 A0 H0 B' A' E' μ' σ' H':=by
 refine⟨S2.s,λb hb=>(S2.sn b hb).elim .inl λh=>S.no b h,S2.I,S2.rg,λa ha=>?_,S2.pin,S2.tB,S2.a0,S.cutkp S2.kp,λi ds a ei si=>?_,S2.inj⟩
 .obtain⟨h1,h2,h3⟩:=S2.aB a ha
  exact⟨h1,h2,h3.imp id λh=>⟨(S.no a h.1).resolve_left h.2,h.2⟩⟩
 .obtain⟨h1,h2⟩:=S2.own i ds a ei si
  exact⟨⟨(S.no a h1.1).resolve_left h1.2,h1.2⟩,h2⟩
theorem SitMB.unend {A':List Addr}{μ':FS}(S:SitMB K i0 d B0 A0 H0 B A E μ σ H)(S2:EndM K d B0 A0 (G8 H B B0) μ' H' A'):EndM K d B0 A0 H0 μ' H' A':=by
 refine⟨S2.rg,λa ha=>?_,S.cutkp S2.kp,S2.tb,S2.bk⟩
 obtain⟨h2,h3⟩:=S2.aB a ha
 exact⟨h2,h3.imp id λh=>⟨(S.no a h.1).resolve_left h.2,h.2⟩⟩
theorem SitMB.stab {B' A':List Addr}{μ':FS}(S:SitMB K i0 d B0 A0 H0 B A E μ σ H)(S2:SitMB K i0 d B0 A0 (G8 H B B0) B' A' E' μ' σ' H'):d8 (hid H B) (hid H' B'):=λb o eb=>by
 by_cases hB:b∈B
 .rw[v7 hB]at eb;cases eb
 .rw[e8 hB]at eb
  have h0:b ∉ B0:=λz=>hB (S.s b z)
  have ec:G8 H B B0 b=some o:=by rw[C5 (.inl hB)];exact eb
  rw[e8 λz=>(S2.sn b z).elim h0 λh=>by rw[h]at ec;cases ec]
  exact S2.kp b o ec (λz=>h0 (S2.tB b z)) λz=>h0 (S2.a0 b z)
theorem SitMB.write {i:Nat}{ds ds':List PyData}{x:Addr}{vs':List V}(S:SitMB K i0 d B0 A0 H0 B A E μ σ H)(ei:E[i]? = some (some (DV.own ds)))(si:σ[i]? = some (some (V.ref x)))
  (hd:a6 K (hid H B) ds' vs'):SitMB K i0 d B0 A0 H0 B A (E.set i (some (.own ds'))) μ σ (upd H x (.lst vs')):=by
 have I:=S.I
 have hl:i<E.length:=(List.getElem?_eq_some_iff.mp ei).1
 obtain⟨v,v1,x',xs,rfl,hB,hf,hx,_⟩:=I.loc i _ ei
 rw[si]at v1;cases v1
 have e1:hid (upd H x (.lst vs')) B=hid H B:=W6 hB
 obtain⟨⟨n1,n2⟩,n3⟩:=S.own i ds x ei si
 have back:∀(j:Nat) (es:List PyData),(E.set i (some (.own ds')))[j]? = some (some (DV.own es))->∃es,E[j]? = some (some (DV.own es)):=λj es ej=>by
  by_cases hj:i=j
  .subst hj;exact⟨ds,ei⟩
  .rw[List.getElem?_set_ne hj]at ej;exact⟨es,ej⟩
 refine⟨S.s,S.sn,⟨I.fd.congr λb hb=>a9 (λz=>hb.elim (λhb=>hf (z▸hb)) λ⟨φ,q⟩=>by rw[z,hx]at q;cases q),I.fB,λb hb=>?_,by rw[List.length_set];exact I.ln,λj y ej=>?_⟩,?_,S.aB,?_,S.tB,S.a0,λb o eb n4 n5=>?_,λj es a' ej sj=>?_,λj k es es' a' ej ek sj sk=>?_⟩
 .by_cases h:b=x
  .subst h;exact⟨_,b9⟩
  .rw[a9 h];exact I.bk b hb
 .by_cases hj:i=j
  .subst hj
   rw[List.getElem?_set_self hl]at ej
   cases ej
   exact⟨.ref x,si,x,vs',rfl,hB,hf,b9,by rw[e1];exact hd⟩
  .rw[List.getElem?_set_ne hj]at ej
   obtain⟨w,w1,w2⟩:=I.loc j y ej
   refine⟨w,w1,?_⟩
   cases y with
   | dat d=>show a7 K (hid (upd H x (.lst vs')) B) d w;rw[e1];exact w2
   | feed=>exact w2
   | fn _=>exact w2
   | adr _=>exact w2
   | own es =>
    obtain⟨a',xs',rfl,hB',hf',ha',hd'⟩:=w2
    have hne:a'≠x:=λz=>hj (S.inj i j ds es x ei ej si (z▸w1))
    exact⟨a',xs',rfl,hB',hf',by rw[a9 hne];exact ha',by rw[e1];exact hd'⟩
 .rw[e1]
  exact Regs.keep S.rg (d8.refl _) λa ha=>a9 λz=>n3 (z▸ha)
 .rw[<-S.pin]
  unfold u8
  by_cases hj:i=i0
  .subst hj
   rw[List.getElem?_set_self hl,ei]
  .rw[List.getElem?_set_ne hj]
 .rw[a9]
  .exact S.kp b o eb n4 n5
  .intro z;subst z;rw[n1]at eb;cases eb
 .obtain⟨es',ej'⟩:=back j es ej
  exact S.own j es' a' ej' sj
 .obtain⟨f1,ej'⟩:=back j es ej
  obtain⟨f2,ek'⟩:=back k es' ek
  exact S.inj j k f1 f2 a' ej' ek' sj sk
end
def mE {α:Type}(m:DE->M α):DE->M α:=λE μ=>(m E μ).bind λp=>some (p.1,μ)
theorem xP (h:TEd K te m):TEm K i0 te (mE m):=λd B0 A0 H0 B A E μ σ H Q r μ' S e q=>by
 obtain⟨⟨x,μ1⟩,e1,e⟩:=bS9 e
 cases e
 exact h none B E μ σ H _ x μ1 S.I e1 λv H1 k1 f1 h1=>q v H1 B A (S.step k1 f1.2) (S.sm k1) h1
theorem zJ {tt:TT}{m:DE->M Bool}(h:TTd K tt m):TTm K i0 tt (mE m):=λd B0 A0 H0 B A E μ σ H Q r μ' S e q=>by
 obtain⟨⟨x,μ1⟩,e1,e⟩:=bS9 e
 cases e
 exact h none B E μ σ H _ x μ1 S.I e1 λH1 k1 f1=>q H1 B A (S.step k1 f1.2) (S.sm k1)
theorem gJ (h:Ev K X e te m):Em K X i0 e te (mE m):=⟨h.pe,xP h.ok⟩
theorem qR {tt:TT}{m:DE->M Bool}(h:Et K X e tt m):Etm K X i0 e tt (mE m):=⟨h.pt,zJ h.ok⟩
def aK (i0:Nat)(E:DE)(μ:FS):Out->Option (Out×FS)
 | .nx E1=>if u8 E1 i0=u8 E i0 then some (.nx E1,μ) else none
 | .bk E1=>if u8 E1 i0=u8 E i0 then some (.bk E1,μ) else none
 | .ct E1=>if u8 E1 i0=u8 E i0 then some (.ct E1,μ) else none
 | .rt d=>some (.rt d,μ)
def mL (i0:Nat)(m:DE->M Out):DE->M Out:=λE μ=>(m E μ).bind λp=>aK i0 E μ p.1
theorem xZ (h:TSd K t mt):TSm K i0 t (mL i0 mt):=λd B0 A0 H0 B A E μ σ H D r μ' S e q=>by
 obtain⟨⟨x,μ1⟩,e1,e⟩:=bS9 e
 have sub:∀b∈B0++A,b∈B:=λb hb=>by
  rcases List.mem_append.mp hb with h | h
  .exact S.s b h
  .exact(S.aB b h).1
 have St:Sit K none (B0++A) (G8 H B (B0++A)) E μ σ H:=by
  refine⟨⟨B,sub,λb hb=>?_,S.I⟩,λb hb=>List.mem_append.mpr (.inl (S.tB b hb)),Kp.same d0,λi ds a ei si=>?_,S.inj⟩
  .by_cases h:b∈B0++A
   .exact .inl h
   .exact .inr (M9 hb h)
  .obtain⟨v,v1,a',xs,rfl,hB,_⟩:=S.I.loc i _ ei
   rw[v1]at si;cases si
   obtain⟨h1,h2⟩:=S.own i ds _ ei v1
   have:a ∉ B0++A:=λz=>(List.mem_append.mp z).elim h1.2 h2
   exact⟨M9 hB this,this⟩
 have kp0:∀{H2:Hp},Kp (tabP K) (G8 H B (B0++A)) H2->∀b o,H0 b=some o->b ∉ tabP K->b ∉ A0->H2 b=some o:=λ{H2} k b o eb n1 n2=>by
  refine k b o ?_ n1
  rw[C5]
  .exact S.kp b o eb n1 n2
  .by_cases hb:b∈B
   .rcases S.sn b hb with h | h
    .exact .inr (List.mem_append.mpr (.inl h))
    .rw[h]at eb;cases eb
   .exact .inl hb
 have atA:∀{H2:Hp},Kp (tabP K) (G8 H B (B0++A)) H2->∀a∈A,H2 a=H a:=λ{H2} k a ha=>by
  obtain⟨o,ea⟩:=Regs.has S.rg a ha
  rw[ea]
  refine k a o ?_ (S.aB a ha).2.1
  rw[C5 (.inr (List.mem_append.mpr (.inr ha)))];exact ea
 have vis:∀{H2:Hp} {B2:List Addr},Kp (tabP K) (G8 H B (B0++A)) H2->(∀b∈B2,b∈B0++A\/G8 H B (B0++A) b=none)->d8 (hid H B) (hid H2 B2):=λ{H2 B2} k sn2 b o eb=>by
  by_cases hB:b∈B
  .rw[v7 hB]at eb;cases eb
  .rw[e8 hB]at eb
   have ec:G8 H B (B0++A) b=some o:=by rw[C5 (.inl hB)];exact eb
   rw[e8 λz=>(sn2 b z).elim (λh=>hB (sub b h)) λh=>by rw[h]at ec;cases ec]
   exact k b o ec λz=>hB (S.s b (S.tB b z))
 have no:∀b,G8 H B (B0++A) b=none->b∈B0\/H0 b=none:=λb eb=>by
  by_cases hb:b∈B
  .exact S.sn b hb
  .rw[C5 (.inl hb)]at eb
   cases q:H0 b with
   | none=>exact .inr rfl
   | some o =>
    have h0:b ∉ B0:=λz=>hb (S.s b z)
    rw[S.kp b o q (λz=>h0 (S.tB b z)) λz=>h0 (S.a0 b z)]at eb;cases eb
 have again:∀{E1:DE},u8 E1 i0=u8 E i0->∀σ2 H2,Sit K none (B0++A) (G8 H B (B0++A)) E1 μ1 σ2 H2->∃B2,SitMB K i0 d B0 A0 H0 B2 A E1 μ σ2 H2:=λ{E1} hp σ2 H2 S2=>by
  obtain⟨B2,s2,sn2,I2⟩:=S2.ex
  refine⟨B2,λb hb=>s2 b (List.mem_append.mpr (.inl hb)),λb hb=>?_,⟨⟨trivial,I2.fd.2⟩,I2.fB,I2.bk,I2.ln,I2.loc⟩,Regs.keep S.rg (vis S2.kp sn2) (atA S2.kp),λa ha=>⟨s2 a (List.mem_append.mpr (.inr ha)),(S.aB a ha).2⟩,hp.trans S.pin,S.tB,S.a0,kp0 S2.kp,λi ds a ei si=>?_,S2.inj⟩
  .rcases sn2 b hb with h | h
   .rcases List.mem_append.mp h with h | h
    .exact .inl h
    .exact S.sn b (S.aB b h).1
   .exact no b h
  .obtain⟨h1,h2⟩:=S2.own i ds a ei si
   have h3:a ∉ B0:=λz=>h2 (List.mem_append.mpr (.inl z))
   exact⟨⟨(no a h1).resolve_left h3,h3⟩,λz=>h2 (List.mem_append.mpr (.inr z))⟩
 refine h none (B0++A) (G8 H B (B0++A)) E μ σ H D x μ1 St e1 ?_
 cases x with
 | nx E1 =>
  unfold aK at e
  dsimp only at e
  split at e
  .rename_i hp
   cases e
   exact λσ2 H2 S2=>by obtain⟨B2,z⟩:=again hp σ2 H2 S2;exact q B2 A σ2 H2 z
  .cases e
 | bk E1 =>
  unfold aK at e
  dsimp only at e
  split at e
  .rename_i hp
   cases e
   exact λσ2 H2 S2=>by obtain⟨B2,z⟩:=again hp σ2 H2 S2;exact q B2 A σ2 H2 z
  .cases e
 | ct E1 =>
  unfold aK at e
  dsimp only at e
  split at e
  .rename_i hp
   cases e
   exact λσ2 H2 S2=>by obtain⟨B2,z⟩:=again hp σ2 H2 S2;exact q B2 A σ2 H2 z
  .cases e
 | rt y =>
  cases e
  intro v H2 k2 f2 h2
  have ww:d8 (hid H2 (B0++A)) (hid H2 (A++B0)):=J4 λb hb=>List.mem_append.mpr ((List.mem_append.mp hb).symm)
  refine q v H2 A ⟨Regs.keep S.rg ((vis k2 λb hb=>.inl hb).trans ww) (atA k2),λa ha=>(S.aB a ha).2,kp0 k2,f2.2,λb hb=>?_⟩ (h2.same ww)
  by_cases hb':b∈tabP K
  .exact f2.bok b hb'
  .obtain⟨o,eo⟩:=S.I.bk b (S.s b hb)
   refine⟨o,k2 b o ?_ hb'⟩
   rw[C5 (.inr (List.mem_append.mpr (.inl hb)))];exact eo
theorem dH (h:Ss K X st t mt):SmR K X i0 st t (mL i0 mt):=⟨h.ps,xZ h.ok⟩
end
end
section
def eP (i0:Nat)(bd:PyData->DE->Option DE):Prop:=∀x E E',bd x E=some E'->u8 E' i0=u8 E i0
def ir (i0:Nat)(bd:List PyData->DE->Option DE):Prop:=∀x E E',bd x E=some E'->u8 E' i0=u8 E i0
theorem O8 {i0 j:Nat}(h:j≠i0):eP i0 (bN j):=λx E E' e=>by
 unfold bN at e
 split at e
 .cases e
  unfold u8
  rw[List.getElem?_set_ne h]
 .cases e
theorem cV {i0:Nat}:ir i0 R3:=λx E E' e=>by
 unfold R3 at e
 split at e
 .cases e;rfl
 .cases e
theorem J6 {i0:Nat}{f:PyData->DE->Option DE}{r:List PyData->DE->Option DE}(h1:eP i0 f)(h2:ir i0 r):ir i0 (j7 f r):=λx E E' e=>by
 unfold j7 at e
 split at e
 .obtain⟨E1,e1,e⟩:=bS9 e
  exact(h2 _ _ _ e).trans (h1 _ _ _ e1)
 .cases e
theorem cx {i0 n:Nat}{r:List PyData->DE->Option DE}(h:ir i0 r):eP i0 (P8 n r):=λx E E' e=>by
 unfold P8 at e
 split at e
 .split at e
  .exact h _ _ _ e
  .cases e
 .cases e
section
variable [Regs]
local instance regI2:Feeds:=G5
variable {K:Fg}{X:Cx}{i0:Nat}{a b c e tg iter:Expr}{es:List Expr}{st:Stmt}{sts rest:List Stmt}{ta tb te:TE}{ma mb m:DE->M PyData}{t u:TS}{mt mu:DE->M Out}{pos pos' p p2:Pos}
theorem sP:SmsR K X i0 [] qP mNx:=⟨dY,λd B0 A0 H0 B A E μ σ H D r μ' S e q=>by cases e;exact q B A σ H S⟩
theorem y8 (h1:SmR K X i0 st t mt)(h2:SmsR K X i0 rest u mu):SmsR K X i0 (st::rest) (O9 t u) (mSq mt mu):=⟨i8 h1.ps h2.ps,λd B0 A0 H0 B A E μ σ H D r μ' S e q=>by
 obtain⟨⟨o,μ1⟩,e1,e⟩:=bS9 e
 refine h1.ok d B0 A0 H0 B A E μ σ H _ o μ1 S e1 ?_
 cases o with
 | nx E1=>exact λB1 A1 σ' H' S'=>h2.ok d B0 A0 H0 B1 A1 E1 μ1 σ' H' D r μ' S' e q
 | rt d=>cases e;exact q
 | bk E1=>cases e;exact q
 | ct E1=>cases e;exact q⟩
theorem cK (h1:SmR K X i0 st t mt):SmsR K X i0 [st] t mt:=⟨C0 h1.ps,h1.ok⟩
theorem xv {g:TG}{bd:PyData->DE->Option DE}(he:TEm K i0 te m)(hg:TGd K g bd)(hk:eP i0 bd):TSm K i0 (L0 te g) (X7 bd m):=λd B0 A0 H0 B A E μ σ H D r μ' S e q=>by
 obtain⟨⟨x,μ1⟩,e1,e⟩:=bS9 e
 obtain⟨E1,e2,e⟩:=bS9 e
 cases e
 refine he d B0 A0 H0 B A E μ σ H _ x _ S e1 λv H1 B1 A1 S1 _ h1=>?_
 exact hg none B1 E _ σ H1 v x E1 _ S1.I h1 e2 λσ' I' fr=>q B1 A1 σ' H1 (S1.bind I' fr (hk _ _ _ e2))
theorem cy (i:Nat){x:Str}(hi0:i≠i0)(hN:X.N.Nodup)(he:Em K X i0 e te m)(hi:X.N[i]? = some x:=by rfl)(hx:Loc X.env.scope x:=by first | exact Or.inl rfl | exact Or.inr rfl)(hs:swapsWith e (some (.Name x pos')) pos.line X.env=pure false:=by rfl)(hf:X.fn x=true\/X.env.scope.names.lookup x=some .local:=by first | exact .inl rfl | exact .inr rfl | assumption) :
  SmR K X i0 (.Assign [.Name x pos'] e pos) (L0 te (G7 i)) (u5 i m):=⟨J7 hN hi hx he.pe hs hf,xv he.ok (lB i) (O8 hi0)⟩
theorem sD {g:TG}{bd:PyData->DE->Option DE}(he:Em K X i0 e te m)(hg:Eg K X tg g bd)(hk:eP i0 bd)(hs:swapsWithSole [tg] e pos.line X.env=pure false:=by rfl)(hw:swappedStores [tg] e X.env=pure none:=by rfl)
  (h1:(assignEach [tg] X.env).map (·.2)=[assign tg X.env]:=by rfl):SmR K X i0 (.Assign [tg] e pos) (L0 te g) (X7 bd m):=⟨T7 he.pe hg.pg hs hw h1,xv he.ok hg.ok hk⟩
theorem Am {i:Nat}(hv:TEm K i0 te m):TSm K i0 (aC (tBM K "list" N3 (l8 i) (q4 te C8))) (O2 i m):=λd B0 A0 H0 B A E μ σ H D r μ' S e q=>by
 obtain⟨⟨x,μ1⟩,e1,e⟩:=bS9 e
 obtain⟨ds,e4,e⟩:=bS9 e
 split at e
 .rename_i hl
  cases e
  have eo:=fD e4
  obtain⟨w,w1,a,xs,rfl,hB,hf,hx,hdx⟩:=S.I.loc i _ eo
  refine⟨_,w1,.inl ⟨rfl,xs,SqL.of hx⟩,hv d B0 A0 H0 B A E μ σ H _ x _ S e1 λu H2 B2 A2 S2 _ h2=>?_⟩
  obtain⟨w',w1',a',xs',rfl,hB',hf',hx',hdx'⟩:=S2.I.loc i _ eo
  rw[w1]at w1';cases w1'
  exact⟨a,xs',u,rfl,rfl,hx',by rw[hdx'.length];exact hl,q B2 A2 σ _ (S2.write eo w1 (hdx'.snoc h2))⟩
 .cases e
theorem ya (i:Nat){x:Str}{px ap cp:Pos}(hK:X.K=K)(hv:Em K X i0 e te m)(hN:X.N[i]? = some x:=by rfl)(hvis:Vis X.env.scope x:=by first | exact Or.inl rfl | exact Or.inr (Or.inl rfl) | exact Or.inr (Or.inr rfl))(hd:(x == ("__debug__":Str))=false:=by decide)(hcd:(x == ("__classdict__":Str))=false:=by decide)
  (hbase:attributeBase (.Name x px) "append" X.env (eval (.Name x px) X.env)=eval (.Name x px) X.env:=by rfl)
  (hfew:((backTo cp (starEach [e] X.env)).all (λx=>!x.1)&&(backToKw cp (keywordEach [] X.env)).all (λx=>x.1.isSome)
   && decide ([e].length+([]:List Keyword).length+(if ([]:List Keyword).isEmpty then 0 else 1)<30))=true:=by rfl)
  (hline:(ap.endLine == cp.line)=true:=by rfl) (hst:starEach [e] X.env=(false,eval e X.env)::starEach [] X.env:=by rfl) (hplain:(backTo cp (starEach [] X.env)).any (·.1)=false:=by rfl)
  (hs:swapsWith (.Call (.Attribute (.Name x px) "append" ap) [e] [] cp) none pos.line X.env=pure false:=by rfl) :
  SmR K X i0 (.Expr (.Call (.Attribute (.Name x px) "append" ap) [e] [] cp) pos) (aC (tBM K "list" N3 (l8 i) (q4 te C8))) (O2 i m):=by
 subst hK
 exact⟨X2 (eY PySem.F.plainAttrs_list PySem.F.slot_list_append PySem.F.type_list_append F9 (D4 hN hvis hd hcd) (h9 hv.pe j6 hst) hbase hfew hline hst hplain) hs,Am hv.ok⟩
theorem xH {x y:List Stmt}{tt:TT}{mc:DE->M Bool}(hc:Etm K X i0 c tt mc)(ha:SmsR K X i0 x t mt)(hb:SmsR K X i0 y u mu):SmR K X i0 (.If c x y pos) (kB tt t u) (mIf mc mt mu):=⟨fu hc.pt ha.ps hb.ps,λd B0 A0 H0 B A E μ σ H D r μ' S e q=>by
 obtain⟨⟨x,μ1⟩,e1,e⟩:=bS9 e
 refine hc.ok d B0 A0 H0 B A E μ σ H _ x μ1 S e1 λH1 B1 A1 S1 _=>?_
 cases x with
 | true=>exact ha.ok d B0 A0 H0 B1 A1 E μ1 σ H1 D r μ' S1 e q
 | false=>exact hb.ok d B0 A0 H0 B1 A1 E μ1 σ H1 D r μ' S1 e q⟩
def hV (mi:DE->M (List PyData))(bd:PyData->DE->Option DE)(body:DE->M Out):DE->M Out:=λE μ=>(mi E μ).bind λp=>G1 bd body p.1 E μ
theorem zX {wi:TI}{g:TG}{tb:TS}{mi:DE->M (List PyData)}{bd:PyData->DE->Option DE}{mb:DE->M Out}(hi:TId K wi mi)(hg:TGd K g bd)(hk:eP i0 bd)(hb:TSm K i0 tb mb):TSm K i0 (qh wi g tb) (hV mi bd mb):=λd B0 A0 H0 B A E μ σ H D r μ' S e q=>by
 obtain⟨⟨items,μ1⟩,e1,e⟩:=bS9 e
 refine hi none B E μ σ H _ items μ1 S.I e1 λJ H1 k1 f1 ok=>?_
 have S1:=S.step k1 f1.2
 refine⟨λi m σ H=>m=items.length-i/\i<=items.length/\∃B2 A2 E μ,SitMB K i0 d B0 A0 (G8 H1 B B0) B2 A2 E μ σ H/\G1 bd mb (items.drop i) E μ=some (r,μ'),⟨items.length,by simp,Nat.zero_le _,B,A,E,μ,S1.base,e⟩,?_⟩
 rintro i mm σ2 H2 ⟨rfl,hi2,B2,A2,E2,μ2,S2,e2⟩
 have st2:=S1.stab S2
 by_cases hlt:i<items.length
 .refine .inr ⟨((ok H2 B2 st2).1 i items[i] (by simp[hlt])).1,λσ' H'=>i+1<=items.length/\∃B2 A2 E μ,SitMB K i0 d B0 A0 (G8 H1 B B0) B2 A2 E μ σ' H'/\G1 bd mb (items.drop (i+1)) E μ=some (r,μ'),λσ' H' ⟨h1,h2⟩=>⟨items.length-(i+1),by omega,rfl,h1,h2⟩,λx H3 y=>?_⟩
  obtain⟨s3,hx⟩:=((ok H2 B2 st2).1 i items[i] (by simp[hlt])).2 x H3 y
  have hx:=hx S2.I.bk
  rw[List.drop_eq_getElem_cons hlt,G1]at e2
  obtain⟨E4,e4,e2⟩:=bS9 e2
  obtain⟨⟨o,μ5⟩,e5,e2⟩:=bS9 e2
  have S3:=S2.step (Kp.same s3) (S2.I.fd.same s3).2
  refine hg none B2 E2 μ2 σ2 H3 x items[i] E4 _ S3.I hx e4 λσ4 I4 fr=>?_
  refine hb d B0 A0 (G8 H1 B B0) B2 A2 E4 μ2 σ4 H3 _ o μ5 (S3.bind I4 fr (hk _ _ _ e4)) e5 ?_
  cases o with
  | nx E6=>exact λB6 A6 σ6 H6 S6=>⟨hlt,B6,A6,E6,μ5,S6,e2⟩
  | ct E6=>exact λB6 A6 σ6 H6 S6=>⟨hlt,B6,A6,E6,μ5,S6,e2⟩
  | bk E6=>cases e2;exact λB6 A6 σ6 H6 S6=>q B6 A6 σ6 H6 (S1.unbase S6)
  | rt d=>cases e2;exact λv H6 A6 k6 h6=>q v H6 A6 (S1.unend k6) h6
 .have ei:i=items.length:=by omega
  subst ei
  rw[List.drop_length,G1]at e2
  cases e2
  exact .inl ⟨(ok H2 B2 st2).2,q B2 A2 σ2 H2 (S1.unbase S2)⟩
theorem rA {body:List Stmt}{wi:TI}{g:TG}{tb:TS}{mi:DE->M (List PyData)}{bd:PyData->DE->Option DE}{mb:DE->M Out}(hc:X.calm=true)(hi:Ei K X tg iter wi mi)(hg:Eg K X tg g bd)(hk:eP i0 bd)(hb:SmsR K X i0 body tb mb)(hp:PassesOwn (model X.prog X.w) X.A X.env X.xe:=by exact PassesOwn.never)
  (hs:∀x,foldedSetIterable iter X.env x=pure x:=by intro _;rfl):SmR K X i0 (.For tg iter body [] pos) (qh wi g tb) (hV mi bd mb):=⟨mC hp hc hi.pi hg.pg hb.ps hs,zX hi.ok hg.ok hk hb.ok⟩
theorem eD:Eam K X i0 [] C8 g7:=⟨j6,λd B0 A0 H0 B A E μ σ H Q r μ' S e q=>by cases e;exact q [] H B A S (d8.refl _) a6.nil⟩
theorem bG {t:TA}{ms:DE->M (List PyData)}(ha:Em K X i0 e te m)(hr:Eam K X i0 es t ms)(hs:starEach (e::es) X.env=(false,eval e X.env)::starEach es X.env:=by rfl):Eam K X i0 (e::es) (q4 te t) (b8 m ms) :=
 ⟨h9 ha.pe hr.pa hs,λd B0 A0 H0 B A E μ σ H Q r μ' S e q=>by
  obtain⟨⟨x,μ1⟩,e1,e⟩:=bS9 e
  obtain⟨⟨ys,μ2⟩,e2,e⟩:=bS9 e
  cases e
  refine ha.ok d B0 A0 H0 B A E μ σ H _ x μ1 S e1 λv H1 B1 A1 S1 s1 h1=>?_
  exact hr.ok d B0 A0 H0 B1 A1 E μ1 σ H1 _ ys _ S1 e2 λvs H2 B2 A2 S2 s2 h2=>q _ H2 B2 A2 S2 (s1.trans s2) (.cons (h1.same s2) h2)⟩
theorem xW {k}{t:TA}{ms:DE->M (List PyData)}(h:Eam K X i0 es t ms):Em K X i0 (.Tuple es k pos) (tG t) (J5 ms):=⟨iE h.pa,λd B0 A0 H0 B A E μ σ H Q r μ' S e q=>by
 obtain⟨⟨x,μ1⟩,e1,e⟩:=bS9 e
 split at e
 .rename_i hl
  cases e
  refine h.ok d B0 A0 H0 B A E μ σ H _ x _ S e1 λvs H1 B1 A1 S1 s1 h1=>⟨by rw[h1.length];exact hl,λp hp=>?_⟩
  exact q _ _ B1 A1 (S1.step (Kp.upd hp) (S1.I.fd.same (d8.upd hp)).2) (s1.trans (S1.sm (Kp.upd hp))) (N2 S1.I.bk hp h1)
 .cases e⟩
theorem zm {op}(h:Em K X i0 a te m):Em K X i0 (.BoolOp op [a] pos) te m:=⟨qN h.pe,h.ok⟩
theorem zC {rest:List Expr}(ha:Em K X i0 a ta ma)(hb:Em K X i0 (.BoolOp .And (b::rest) pos) tb mb):Em K X i0 (.BoolOp .And (a::b::rest) pos) (tL ta tb) (jr ma mb):=⟨ui ha.pe hb.pe,λd B0 A0 H0 B A E μ σ H Q r μ' S e q=>by
 obtain⟨⟨x,μ1⟩,e1,e⟩:=bS9 e
 obtain⟨c,e2,e⟩:=bS9 e
 refine ha.ok d B0 A0 H0 B A E μ σ H _ x μ1 S e1 λv H1 B1 A1 S1 s1 h1=>?_
 have:=O0 e2
 simp only at this
 subst this
 simp only[a7]at h1
 refine⟨c,h1,?_⟩
 cases c with
 | true=>exact hb.ok d B0 A0 H0 B1 A1 E μ1 σ H1 _ r μ' S1 e λw H2 B2 A2 S2 s2 h2=>q w H2 B2 A2 S2 (s1.trans s2) h2
 | false=>cases e;exact q _ H1 B1 A1 S1 s1 a7.bl⟩
theorem zN {op:CmpOp}{f:PyData->PyData->Option PyData}(ho:OpR X (compareOp op) (rD2 K f))(ha:Em K X i0 a ta ma)(hb:Em K X i0 b tb mb)(hm:behindInMarks op b=false:=by first | exact Q9 _ | rfl):Em K X i0 (.Compare a [op] [b] pos) (tOp (rD2 K f) ta tb) (s2 f ma mb):=⟨dX ho ha.pe hb.pe hm,λd B0 A0 H0 B A E μ σ H Q r μ' S e q=>by
 obtain⟨⟨x,μ1⟩,e1,e⟩:=bS9 e
 obtain⟨⟨y,μ2⟩,e2,e⟩:=bS9 e
 obtain⟨z,e3,e⟩:=bS9 e
 cases e
 refine ha.ok d B0 A0 H0 B A E μ σ H _ x μ1 S e1 λv H1 B1 A1 S1 s1 h1=>?_
 refine hb.ok d B0 A0 H0 B1 A1 E μ1 σ H1 _ y _ S1 e2 λw H2 B2 A2 S2 s2 h2=>⟨tabP K,B2,x,y,_,S2.I.bk,aG (h1.same s2) S2.I.fB,aG h2 S2.I.fB,e3,λu H3 s hu=>?_⟩
 exact q u H3 B2 A2 (S2.step (Kp.same s) (S2.I.fd.same s).2) ((s1.trans s2).trans (S2.sm (Kp.same s))) hu⟩
theorem yS (h:TEm K i0 te m):TTm K i0 (bQ te) (uB m):=λd B0 A0 H0 B A E μ σ H Q r μ' S e q=>by
 obtain⟨⟨x,μ1⟩,e1,e⟩:=bS9 e
 obtain⟨c,e2,e⟩:=bS9 e
 cases e
 refine h d B0 A0 H0 B A E μ σ H _ x _ S e1 λv H1 B1 A1 S1 s1 h1=>?_
 have:=O0 e2
 simp only at this
 subst this
 simp only[a7]at h1
 exact⟨_,h1,q H1 B1 A1 S1 s1⟩
variable {tA tB:TT}{na nb:DE->M Bool}
theorem rZ (ha:Etm K X i0 a tA na):Ewm K X i0 (.BoolOp .And [a] pos) tA na:=⟨eu ha.pt,ha.ok⟩
theorem vM {rest:List Expr}(ha:Etm K X i0 a tA na)(hb:Ewm K X i0 (.BoolOp .And (b::rest) pos) tB nb):Ewm K X i0 (.BoolOp .And (a::b::rest) pos) (tY tA tB) (av na nb):=⟨iR ha.pt hb.pw,λd B0 A0 H0 B A E μ σ H Q r μ' S e q=>by
 obtain⟨⟨x,μ1⟩,e1,e⟩:=bS9 e
 refine ha.ok d B0 A0 H0 B A E μ σ H _ x μ1 S e1 λH1 B1 A1 S1 s1=>?_
 cases x with
 | true=>exact hb.ok d B0 A0 H0 B1 A1 E μ1 σ H1 _ r μ' S1 e λH2 B2 A2 S2 s2=>q H2 B2 A2 S2 (s1.trans s2)
 | false=>cases e;exact q H1 B1 A1 S1 s1⟩
theorem Ab (h:Ewm K X i0 a tA na):Etm K X i0 a tA na:=⟨h.pw.pt,h.ok⟩
end
end
section
def gf:Out->Option PyData
 | .rt d=>some d
 | .nx _=>some .none
 | _=>none
section
variable [Regs]
local instance regI3:Feeds:=G5
def spM (K:Fg)(n:Nat)(f:List PyData->FS->Option (PyData×FS)):Sp:=λvs H Q _=>∃(d:Addr) (B A:List Addr) (ds:List PyData) (r:PyData) (μ μ':FS) (xs:List V),vs = .ref d::xs/\ds.length+1=n/\(∀b∈tabP K,b∈B)/\(∀a∈A,a∈B/\a ∉ tabP K)/\BOk H B/\A9 (tabsK Feeds.lam K) H /\
 Regs.Reg K (hid H B) H d μ A/\a6 K (hid H B) ds xs/\f ds μ=some (r,μ')/\∀v H' A',EndM K d B A H μ' H' A'->a7 K (hid H' (A'++B)) r v->Q v H'
variable {K:Fg}{X:Cx}{i0:Nat}{a b c e tg iter:Expr}{es:List Expr}{st:Stmt}{sts rest:List Stmt}{ta tb te:TE}{ma mb m:DE->M PyData}{t u:TS}{mt mu:DE->M Out}{pos pos' p p2:Pos}
section
variable {d:Addr}{B0 A0:List Addr}{H0:Hp}{B A A2:List Addr}{E:DE}{μ μ':FS}{σ:St}{H H2:Hp}
theorem SitMB.called (S:SitMB K i0 d B0 A0 H0 B A E μ σ H)(Z:EndM K d B A H μ' H2 A2):SitMB K i0 d B0 A0 H0 (A2++B) A2 E μ' σ H2/\d8 (hid H B) (hid H2 (A2++B)):=by
 have nH0:∀a,H a=none->a ∉ B->H0 a=none/\a ∉ B0:=λa e n=>by
  have n0:a ∉ B0:=λz=>n (S.s a z)
  refine⟨?_,n0⟩
  cases q:H0 a with
  | none=>rfl
  | some o=>rw[S.kp a o q (λz=>n0 (S.tB a z)) λz=>n0 (S.a0 a z)]at e;cases e
 have sm:d8 (hid H B) (hid H2 (A2++B)):=λb o eb=>by
  by_cases hB:b∈B
  .rw[v7 hB]at eb;cases eb
  .rw[e8 hB]at eb
   have k:H2 b=some o:=Z.kp b o eb (λz=>hB (S.s b (S.tB b z))) λz=>hB (S.aB b z).1
   rw[e8 λz=>?_]
   .exact k
   .rcases List.mem_append.mp z with z | z
    .rcases(Z.aB b z).2 with h | h
     .exact hB (S.aB b h).1
     .rw[h.1]at eb;cases eb
    .exact hB z
 refine⟨⟨λb hb=>List.mem_append.mpr (.inr (S.s b hb)),λb hb=>?_,⟨⟨trivial,Z.tb⟩,λb hb=>List.mem_append.mpr (.inr (S.I.fB b hb)),λb hb=>?_,S.I.ln,λi x ei=>?_⟩,Z.rg,λa ha=>⟨List.mem_append.mpr (.inl ha),(Z.aB a ha).1,?_⟩,S.pin,S.tB,S.a0,λb o eb n1 n2=>?_,λi ds a ei si=>?_,S.inj⟩,sm⟩
 .rcases List.mem_append.mp hb with h | h
  .rcases(Z.aB b h).2 with h | h
   .exact S.sn b (S.aB b h).1
   .exact .inr (nH0 b h.1 h.2).1
  .exact S.sn b h
 .rcases List.mem_append.mp hb with h | h
  .exact Regs.has Z.rg b h
  .exact Z.bk b h
 .obtain⟨v,v1,v2⟩:=S.I.loc i x ei
  refine⟨v,v1,?_⟩
  cases x with
  | dat y=>exact a7.same (show a7 K (hid H B) y v from v2) sm
  | feed=>exact v2
  | fn _=>exact v2
  | adr _=>exact v2
  | own ys =>
   obtain⟨a',xs,rfl,hB,hf,hx,hd⟩:=v2
   exact⟨a',xs,rfl,List.mem_append.mpr (.inr hB),hf,Z.kp _ _ hx hf (S.own i ys a' ei v1).2,hd.same sm⟩
 .rcases(Z.aB a ha).2 with h | h
  .exact(S.aB a h).2.2
  .exact .inr (nH0 a h.1 h.2)
 .refine Z.kp b o (S.kp b o eb n1 n2) n1 λz=>?_
  rcases(S.aB b z).2.2 with h | h
  .exact n2 h
  .rw[h.1]at eb;cases eb
 .obtain⟨h1,h2⟩:=S.own i ds a ei si
  refine⟨h1,λz=>?_⟩
  rcases(Z.aB a z).2 with h | h
  .exact h2 h
  .obtain⟨v,v1,a',xs,rfl,hB,_,hx,_⟩:=S.I.loc i _ ei
   rw[v1]at si;cases si
   rw[h.1]at hx;cases hx
theorem SitMB.at0 (S:SitMB K i0 d B0 A0 H0 B A E μ σ H):σ[i0]? = some (some (.ref d)):=by
 have h:=S.pin
 unfold u8 at h
 split at h
 .rename_i a hx
  cases h
  obtain⟨v,v1,v2⟩:=S.I.loc i0 _ hx
  rw[v1,show v = .ref d from v2]
 .cases h
end
def aX (f:List PyData->FS->Option (PyData×FS))(ms:DE->M (List PyData)):DE->M PyData:=λE μ=>(ms E μ).bind λp=>f p.1 p.2
theorem vw {n:Nat}{f:List PyData->FS->Option (PyData×FS)}{ta:TA}{ms:DE->M (List PyData)}(h:TAm K i0 ta ms)(hn:∀E F args F',ms E F=some (args,F')->args.length+1=n):TEm K i0 (Y0 (spM K n f) [] E0 (q4 (l8 i0) ta)) (aX f ms):=λd B0 A0 H0 B A E μ σ H Q r μ' S e q=>by
 obtain⟨⟨args,μ1⟩,e1,e⟩:=bS9 e
 refine⟨_,S.at0,h d B0 A0 H0 B A E μ σ H _ args μ1 S e1 λvs H1 B1 A1 S1 s1 h1=>?_⟩
 show spM K n f ((V.ref d::vs)++[]) H1 Q E0
 rw[List.append_nil]
 refine⟨d,B1,A1,args,r,μ1,μ',vs,rfl,hn _ _ _ _ e1,λb hb=>S1.s b (S1.tB b hb),λa ha=>⟨(S1.aB a ha).1,(S1.aB a ha).2.1⟩,S1.I.bk,S1.I.fd.2,S1.rg,h1,e,λv H2 A2 Z h2=>?_⟩
 obtain⟨z1,z2⟩:=S1.called Z
 exact q v H2 _ _ z1 (s1.trans z2) h2
theorem iY:∀(E:DE) (F:FS) args F',(g7:DE->M (List PyData)) E F=some (args,F')->args.length+1=1:=λE F args F' e=>by cases e;rfl
theorem jE {n:Nat}{ms:DE->M (List PyData)}(h:∀(E:DE) (F:FS) args F',ms E F=some (args,F')->args.length+1=n):∀(E:DE) (F:FS) args F',b8 m ms E F=some (args,F')->args.length+1=n+1:=λE F args F' e=>by
 obtain⟨⟨x,F1⟩,e1,e⟩:=bS9 e
 obtain⟨⟨ys,F2⟩,e2,e⟩:=bS9 e
 cases e
 rw[List.length_cons,h _ _ _ _ e2]
theorem iW {x y:Str}{k n:Nat}{ps:List Str}{f:List PyData->FS->Option (PyData×FS)}{tl:TA}{ms:DE->M (List PyData)}(C:Callee X.prog X.w X.K X.mg X.base x k ps (spM K n f))(hr:Room k X.A)(ha:Eam K X i0 es tl ms)(hn:∀E F args F',ms E F=some (args,F')->args.length+1=n)(hN:X.N[i0]? = some y:=by rfl)(hv:Vis X.env.scope y:=by first | exact Or.inl rfl | exact Or.inr (Or.inl rfl) | exact Or.inr (Or.inr rfl))(hd:(y == ("__debug__":Str))=false:=by decide)
  (hcd:(y == ("__classdict__":Str))=false:=by decide) (hs:starEach (.Name y p2::es) X.env=(false,eval (.Name y p2) X.env)::starEach es X.env:=by rfl) (hg:Gl X x:=by rfl)
  (hdb:(x == ("__debug__":Str))=false:=by decide) (hpl:(backTo pos (starEach es X.env)).any (·.1)=false:=by rfl) :
  Em K X i0 (.Call (.Name x p) (.Name y p2::es) [] pos) (Y0 (spM K n f) [] E0 (q4 (l8 i0) tl)) (aX f ms):=⟨V1 C hr hg (h9 (D4 hN hv hd hcd) ha.pa hs) hdb hs hpl,vw ha.ok hn⟩
def Q4 (N:List Str)(d:Addr)(ds:List PyData):DE:=some (.adr d)::(ds.map λx=>some (.dat x))++List.replicate (N.length-(ds.length+1)) none
open Classical in
def ji (N:List Str)(m:DE->M Out):List PyData->FS->Option (PyData×FS):=λds μ =>
 if h:∃x:PyData×FS,∀d:Addr,∃o,m (Q4 N d ds) μ=some (o,x.2)/\gf o=some x.1 then some (Classical.choose h) else none
theorem uA {N:List Str}{m:DE->M Out}{ds:List PyData}{μ μ':FS}{r:PyData}(h:∀d:Addr,∃o,m (Q4 N d ds) μ=some (o,μ')/\gf o=some r):ji N m ds μ=some (r,μ'):=by
 unfold ji
 have hx:∃x:PyData×FS,∀d:Addr,∃o,m (Q4 N d ds) μ=some (o,x.2)/\gf o=some x.1:=⟨(r,μ'),h⟩
 rw[dif_pos hx]
 obtain⟨o1,a1,a2⟩:=Classical.choose_spec hx 0
 obtain⟨o2,b1,b2⟩:=h 0
 rw[b1]at a1
 obtain⟨rfl,e2⟩:=Prod.mk.inj (Option.some.inj a1)
 rw[b2]at a2
 exact congrArg some (Prod.ext (Option.some.inj a2).symm e2.symm)
theorem wG {N:List Str}{m:DE->M Out}{ds:List PyData}{μ μ':FS}{r:PyData}(h:ji N m ds μ=some (r,μ'))(d:Addr):∃o,m (Q4 N d ds) μ=some (o,μ')/\gf o=some r:=by
 unfold ji at h
 split at h
 .rename_i hx
  have:=Classical.choose_spec hx d
  rw[Option.some.inj h]at this
  exact this
 .cases h
variable {P:Program}{w:World}{mg:Str->Option Value}{base:Heap}
theorem mY {d:Addr}{B A:List Addr}{H:Hp}{N:List Str}{ds:List PyData}{xs:List V}{μ:FS}(hN:ds.length+1<=N.length)(tB:∀b∈tabP K,b∈B)(aB:∀a∈A,a∈B/\a ∉ tabP K)(bk:BOk H B)(tb:A9 (tabsK Feeds.lam K) H)(rg:Regs.Reg K (hid H B) H d μ A)(hd:a6 K (hid H B) ds xs) :
  SitMB K 0 d B A H B A (Q4 N d ds) μ (L2.B5 N (.ref d::xs)) H:=by
 have noown:∀(i:Nat) (es:List PyData),(Q4 N d ds)[i]? ≠ some (some (DV.own es)):=λi es e=>by
  unfold Q4 at e
  by_cases hi:i<ds.length+1
  .rw[List.getElem?_append_left (by simp;omega)]at e
   cases i with
   | zero=>simp at e
   | succ i=>simp[List.getElem?_map]at e
  .rw[List.getElem?_append_right (by simp;omega),List.getElem?_replicate]at e
   split at e <;> simp at e
 refine⟨λ_ z=>z,λb hb=>.inl hb,⟨⟨trivial,tb⟩,tB,bk,by simp[Q4,L2.B5,hd.length],λi x e=>?_⟩,rg,λa ha=>⟨(aB a ha).1,(aB a ha).2,.inl ha⟩,rfl,tB,λa ha=>(aB a ha).1,λb o e _ _=>e,λi es a e _=>absurd e (noown i es),λi j es fs a e _ _ _=>absurd e (noown i es)⟩
 unfold Q4 at e
 by_cases hi:i<ds.length+1
 .rw[List.getElem?_append_left (by simp;omega)]at e
  unfold L2.B5
  rw[List.getElem?_append_left (by simp[hd.length];omega)]
  cases i with
  | zero =>
   simp at e
   subst e
   exact⟨.ref d,rfl,rfl⟩
  | succ i =>
   simp[List.getElem?_map]at e
   obtain⟨y,e1,e2⟩:=e
   subst e2
   obtain⟨v,v1,v2⟩:=a6.item hd e1
   exact⟨v,by simp[v1],v2⟩
 .rw[List.getElem?_append_right (by simp;omega),List.getElem?_replicate]at e
  split at e <;> simp at e
theorem iS {x qual:Str}{f:Addr}{fd:FuncData}{N ps:List Str}{k:Nat}{m:DE->M Out}(Fn:Fun K x qual st f fd)(S:FnScope N ps (defScope st))(hNp:ps.length<=N.length)
  (hbody:∀(cdv:Value) (A:Around) (outer:List Env) (s:Shared) (H:Hp) (E:XK),Room k (A.deeper (envOfC qual (defScope st) s.heap.objs.size f cdv)) ->
   ∃ts,SmsR K (M5 CX0 P w K mg base N qual (defScope st) f cdv A outer s H E).nox 0 (defBody st) ts m):FnOk P w K mg base CX0 (k+1) f fd ps (spM K ps.length (ji N m)):=by
 refine Fn.ok S (λvs H Q E h=>?_) (λcdv A outer s H vs Q E hr h=>?_)
 .obtain⟨d,B,A,ds,r,μ,μ',xs,rfl,hl,_,_,_,_,_,hd,_⟩:=h
  rw[List.length_cons,hd.length];exact hl
 .obtain⟨d,B,A1,ds,r,μ,μ',xs,rfl,hl,tB,aB,bk,tb,rg,hd,hm,q⟩:=h
  obtain⟨ts,hts⟩:=hbody cdv A outer s H E hr
  refine⟨ts,hts.ps,?_⟩
  obtain⟨o,e1,e2⟩:=wG hm d
  refine hts.ok d B A1 H B A1 (Q4 N d ds) μ (L2.B5 N (.ref d::xs)) H _ o μ' (mY (by omega) tB aB bk tb rg hd) e1 ?_
  cases o with
  | rt d'=>cases e2;exact λv H' A' Z h1=>q v H' A' Z h1
  | nx E'=>cases e2;exact λB' A' σ' H' S'=>q _ H' A' S'.fin.1 a7.non
  | bk E'=>cases e2
  | ct E'=>cases e2
end
end
section
def cu:List DV->Option (List PyData)
 | []=>some []
 | .dat d::r=>(cu r).bind λds=>some (d::ds)
 | _::_=>none
theorem Z7:∀{args:List DV} {ds:List PyData},cu args=some ds->args=ds.map DV.dat
 | [],ds,h=>by cases h;rfl
 | .dat d::r,ds,h=>by
  obtain⟨es,e1,e⟩:=bS9 h
  cases e
  rw[Z7 e1];rfl
 | .feed::r,ds,h=>by cases h
 | .own _::r,ds,h=>by cases h
 | .fn _::r,ds,h=>by cases h
 | .adr _::r,ds,h=>by cases h
theorem aY:∀(ds:List PyData),cu (ds.map DV.dat)=some ds
 | []=>rfl
 | d::ds=>by rw[List.map_cons,cu,aY ds];rfl
def spN [Regs](K:Fg)(mkh:PyData->Option Regs.S):Sp:=λvs H Q _=>∃(B:List Addr) (h:PyData) (μ:Regs.S) (v:V),vs=[v]/\BOk H B/\a7 K (hid H B) h v/\mkh h=some μ /\
 ∀d A H',d8 H H'->(∀a∈A,H a=none)->Regs.Reg K (hid H' (A++B)) H' d μ A->Q (.ref d) H'
section
variable [Regs]{K:Fg}
local instance regI5:Feeds:=G5
theorem mv {d:Addr}{B A1:List Addr}{H H1:Hp}{N:List Str}{i0:Nat}{ds:List PyData}{vs:List V}{μ0:FS}(hi0:i0<N.length)(hdl:ds.length<=i0)(tB:∀b∈tabP K,b∈B)(bk:BOk H B)(sm:d8 H H1)(fr:∀a∈A1,H a=none)(tb1:A9 (tabsK Feeds.lam K) H1)(rg:Regs.Reg K (hid H1 (A1++B)) H1 d μ0 A1)(hd:a6 K (hid H B) ds vs) :
  SitMB K i0 d (A1++B) A1 H1 (A1++B) A1 ((u6 N (ds.map DV.dat)).set i0 (some (.adr d))) μ0 ((L2.B5 N vs).set i0 (some (.ref d))) H1:=by
  have hlen:vs.length=ds.length:=hd.length
  have nB:∀a∈A1,a ∉ B:=λa ha=>bk.nin (fr a ha)
  have sv:d8 (hid H B) (hid H1 (A1++B)):=λb o eb=>by
   by_cases hb:b∈B
   .rw[v7 hb]at eb;cases eb
   .rw[e8 hb]at eb
    rw[e8 λz=>(List.mem_append.mp z).elim (λz=>by rw[fr b z]at eb;cases eb) hb]
    exact sm b o eb
  have hE:∀i x,((u6 N (ds.map DV.dat)).set i0 (some (.adr d)))[i]? = some (some x)->(i=i0/\x = .adr d)\/(i≠i0/\∃y,ds[i]? = some y/\x = .dat y):=λi x e=>by
   by_cases hi:i0=i
   .subst hi
    rw[List.getElem?_set_self (by simp[u6];omega)]at e
    cases e;exact .inl ⟨rfl,rfl⟩
   .rw[List.getElem?_set_ne hi]at e
    have:=cQ e
    rw[List.getElem?_map]at this
    obtain⟨y,y1,y2⟩:=Option.map_eq_some_iff.mp this
    exact .inr ⟨Ne.symm hi,y,y1,y2.symm⟩
  refine⟨λ_ z=>z,λb hb=>.inl hb,⟨⟨trivial,tb1⟩,λb hb=>List.mem_append.mpr (.inr (tB b hb)),λb hb=>?_,by simp[u6,L2.B5,hlen],λi x ei=>?_⟩,rg,λa ha=>⟨List.mem_append.mpr (.inl ha),λz=>nB a ha (tB a z),.inl ha⟩,?_,λb hb=>List.mem_append.mpr (.inr (tB b hb)),λa ha=>List.mem_append.mpr (.inl ha),λb o e _ _=>e,λi es a ei _=>?_,λi j es fs a ei _ _ _=>?_⟩
  .rcases List.mem_append.mp hb with h | h
   .exact Regs.has rg b h
   .obtain⟨o,e⟩:=bk b h
    exact⟨o,sm b o e⟩
  .rcases hE i x ei with ⟨rfl,rfl⟩ | ⟨hi,y,y1,rfl⟩
   .exact⟨.ref d,by rw[List.getElem?_set_self (by simp[L2.B5,hlen];omega)],rfl⟩
   .obtain⟨v,v1,v2⟩:=a6.item hd y1
    refine⟨v,?_,v2.same sv⟩
    have hil:i<vs.length:=(List.getElem?_eq_some_iff.mp v1).1
    rw[List.getElem?_set_ne (Ne.symm hi)]
    unfold L2.B5
    rw[List.getElem?_append_left (by simpa using hil),List.getElem?_map,v1];rfl
  .unfold u8
   rw[List.getElem?_set_self (by simp[u6];omega)]
  .rcases hE i _ ei with ⟨_,z⟩ | ⟨_,y,_,z⟩ <;> cases z
  .rcases hE i _ ei with ⟨_,z⟩ | ⟨_,y,_,z⟩ <;> cases z
end
section
variable [Fam][Regs]
open Classical in
def sG (N:List Str)(i0:Nat)(m:DE->@M G5 Out)(μ0:Regs.S)(ds:List PyData):Option PyData :=
 if h:∃r:PyData,∀d:Addr,∃o μ',m ((u6 N (ds.map DV.dat)).set i0 (some (.adr d))) μ0=some (o,μ')/\gf o=some r then some (Classical.choose h) else none
theorem vv {N:List Str}{i0:Nat}{m:DE->@M G5 Out}{μ0:Regs.S}{ds:List PyData}{r:PyData}(h:∀d:Addr,∃o μ',m ((u6 N (ds.map DV.dat)).set i0 (some (.adr d))) μ0=some (o,μ')/\gf o=some r):sG N i0 m μ0 ds=some r:=by
 unfold sG
 have hx:∃r:PyData,∀d:Addr,∃o μ',m ((u6 N (ds.map DV.dat)).set i0 (some (.adr d))) μ0=some (o,μ')/\gf o=some r:=⟨r,h⟩
 rw[dif_pos hx]
 obtain⟨o1,μ1,a1,a2⟩:=Classical.choose_spec hx 0
 obtain⟨o2,μ2,b1,b2⟩:=h 0
 rw[b1]at a1
 obtain⟨rfl,_⟩:=Prod.mk.inj (Option.some.inj a1)
 rw[b2]at a2
 exact congrArg some (Option.some.inj a2).symm
theorem uC {N:List Str}{i0:Nat}{m:DE->@M G5 Out}{μ0:Regs.S}{ds:List PyData}{r:PyData}(h:sG N i0 m μ0 ds=some r)(d:Addr):∃o μ',m ((u6 N (ds.map DV.dat)).set i0 (some (.adr d))) μ0=some (o,μ')/\gf o=some r:=by
 unfold sG at h
 split at h
 .rename_i hx
  have:=Classical.choose_spec hx d
  rw[Option.some.inj h]at this
  exact this
 .cases h
def ox (N:List Str)(i0 j:Nat)(mkh:PyData->Option Regs.S)(m:DE->@M G5 Out):List DV->@M fdI PyData:=λargs F=>(cu args).bind λds=>(ds[j]?).bind λh=>(mkh h).bind λμ0=>(sG N i0 m μ0 ds).bind λr=>some (r,F)
variable {K:Fg}{P:Program}{w:World}{mg:Str->Option Value}{base:Heap}{st:Stmt}
theorem nZ (hlam:Regs.lam=Fam.lam):@tabP G5 K = @tabP fdI K:=by
 unfold tabP
 show(tabsK Regs.lam K).map _=(tabsK Fam.lam K).map _
 rw[hlam]
theorem gA {G:GF}{B:List Addr}{H:Hp}:∀{ds:List PyData} {vs:List V},dU K G B H (ds.map DV.dat) vs->a6 K (hid H B) ds vs
 | [],vs,h=>by have h:vs=[]:=h;simpa only[a6] using h
 | d::ds,vs,⟨v,r,e,_,h1,h2⟩=>by subst e;exact .cons h1 (gA h2)
theorem nD {B:List Addr}{H:Hp}:∀{ds:List PyData} {vs:List V},@dU G5 K none B H (ds.map DV.dat) vs->@dU fdI K none B H (ds.map DV.dat) vs
 | [],vs,h=>h
 | d::ds,vs,⟨v,r,e,n,h1,h2⟩=>⟨v,r,e,n,h1,nD h2⟩
theorem wz {G:GF}{H H':Hp}{F:FdS}(fa:@FAt fdI K G H F)(tb:A9 (tabsK Fam.lam K) H')(k:∀b o,H b=some o->b ∉ @tabP fdI K->H' b=some o):@FAt fdI K G H' F:=by
 refine⟨?_,tb⟩
 cases G with
 | none=>trivial
 | some p =>
  obtain⟨d,c⟩:=p
  have nt:∀{x:Addr} {o:HO},H x=some o->NoT o->x ∉ @tabP fdI K:=λ{x o} e n z=>by
   obtain⟨t,ht,rfl⟩:=List.mem_map.mp z
   obtain⟨ps,h1,_⟩:=fa.2 t ht
   rw[h1]at e
   exact n.1 ps (Option.some.inj e.symm)
  obtain⟨o1,e1,n1⟩:=Fam.some1 fa.1
  obtain⟨o2,e2,n2⟩:=Fam.some2 fa.1
  exact Fam.congr fa.1 ((k _ _ e1 (nt e1 n1)).trans e1.symm) ((k _ _ e2 (nt e2 n2)).trans e2.symm)
theorem wK {x qual:Str}{f:Addr}{fd:FuncData}{N ps:List Str}{k i0 j:Nat}{mkh:PyData->Option Regs.S}{m:DE->@M G5 Out}(hlam:Regs.lam=Fam.lam)(Fn:Fun K x qual st f fd)(S:FnScope N ps (defScope st))(hi0:i0<N.length)(hpi:ps.length<=i0)
  (hbody:∀(cdv:Value) (A:Around) (outer:List Env) (s:Shared) (H:Hp) (E:XK),Room k (A.deeper (envOfC qual (defScope st) s.heap.objs.size f cdv)) ->
   ∃st0 rest ts,defBody st=st0::rest/\PS (M5 CX0 P w K mg base N qual (defScope st) f cdv A outer s H E).nox st0 (L0 (Y0 (spN K mkh) [] E0 (q4 (l8 j) C8)) (G7 i0))/\SmsR K (M5 CX0 P w K mg base N qual (defScope st) f cdv A outer s H E).nox i0 rest ts m) :
  FnOk P w K mg base CX0 (k+1) f fd ps (@spD fdI K ps.length (ox N i0 j mkh m)):=by
 refine Fn.ok S (λvs H Q E h=>?_) (λcdv A outer s H vs Q E hr h=>?_)
 .obtain⟨G,B,F,args,d,F',hl,_⟩:=h
  exact hl
 .obtain⟨G,B,F,args,r,F',hl,fB,bk,fa,ha,hm,q⟩:=h
  obtain⟨ds,e1,hm⟩:=bS9 hm
  obtain⟨h,e2,hm⟩:=bS9 hm
  obtain⟨μ0,e3,hm⟩:=bS9 hm
  obtain⟨r',e4,hm⟩:=bS9 hm
  cases hm
  have:=Z7 e1
  subst this
  have hd:=gA ha
  obtain⟨st0,rest,ts,eb,hps,hts⟩:=hbody cdv A outer s H E hr
  refine⟨O9 (L0 (Y0 (spN K mkh) [] E0 (q4 (l8 j) C8)) (G7 i0)) ts,by rw[eb];exact i8 hps hts.ps,?_⟩
  obtain⟨v,v1,v2⟩:=a6.item hd e2
  have hjl:j<vs.length:=(List.getElem?_eq_some_iff.mp v1).1
  have hsj:(L2.B5 N vs)[j]? = some (some v):=by
   unfold L2.B5
   rw[List.getElem?_append_left (by simpa using hjl),List.getElem?_map,v1];rfl
  refine⟨v,hsj,?_⟩
  simp only[C8,List.append_nil]
  refine⟨B,h,μ0,v,rfl,bk,v2,e3,λd A1 H1 sm fr rg=>?_⟩
  have te:=nZ (K:=K) hlam
  have tB:∀b ∈ @tabP G5 K,b∈B:=λb hb=>fB b (iy (te▸hb))
  obtain⟨o,μ',a1,a2⟩:=uC e4 d
  have hlen:vs.length=ds.length:=hd.length
  have tb0:A9 (tabsK Fam.lam K) H1:=(@FAt.same fdI K G H H1 F fa sm).2
  have tb1:A9 (tabsK Regs.lam K) H1:=by rw[hlam];exact tb0
  have hdl:ds.length<=i0:=by rw[<-hlen,hl];exact hpi
  have SM:=mv (i0:=i0) (N:=N) hi0 hdl tB bk sm fr tb1 rg hd
  have done:∀{μ2:Regs.S} {H2:Hp} {A2:List Addr},EndM K d (A1++B) A1 H1 μ2 H2 A2->(∀v,a7 K (hid H2 (A2++(A1++B))) r v->Q v H2):=λ{μ2 H2 A2} Z v hv=>by
   have kk:∀b o,H b=some o->b ∉ @tabP fdI K->H2 b=some o:=λb o e n=>Z.kp b o (sm b o e) (λz=>n (te▸z)) λz=>by rw[fr b z]at e;cases e
   refine q v H2 (λb o e n=>kk b o e λz=>n (iy z)) (wz fa (by rw[<-hlam];exact Z.tb) kk) (hv.same (J4 λb hb=>List.mem_append.mpr (.inr (List.mem_append.mpr (.inr hb)))))
  refine hts.ok d (A1++B) A1 H1 (A1++B) A1 _ μ0 _ H1 _ o μ' SM a1 ?_
  cases o with
  | rt d'=>cases a2;exact λv H' A' Z h1=>done Z v h1
  | nx E'=>cases a2;exact λB' A' σ' H' S'=>done S'.fin.1 _ a7.non
  | bk E'=>cases a2
  | ct E'=>cases a2
def reF (f:List DV->@M fdI PyData):List DV->@M G5 PyData:=λargs μ=>(cu args).bind λ_=>(f args (eQ [])).bind λp=>some (p.1,μ)
theorem oZ {x:Str}{k n:Nat}{ps:List Str}{f:List DV->@M fdI PyData}(hlam:Regs.lam=Fam.lam)(C:Callee P w K mg base x k ps (@spD fdI K n f)):Callee P w K mg base x k ps (@spD G5 K n (reF f)):=by
 obtain⟨a,fd,F,h2,h3,h4⟩:=C
 refine⟨a,fd,F.imp λvs H Q E h=>?_,h2,h3,h4⟩
 obtain⟨G,B,μ,args,d,μ',hl,fB,bk,fa,ha,e,q⟩:=h
 obtain⟨ds,e1,e⟩:=bS9 e
 obtain⟨⟨y,F'⟩,e2,e⟩:=bS9 e
 cases e
 have:=Z7 e1
 subst this
 have te:=nZ (K:=K) hlam
 have gn:G=none:=by
  cases G with
  | none=>rfl
  | some p=>exact(show False from fa.1).elim
 subst gn
 have fp:@k9 G5 K none = @k9 fdI K none:=te
 refine⟨none,B,eQ [],ds.map DV.dat,y,F',hl,λb hb=>fB b (fp▸hb),bk,⟨trivial,by have:=fa.2;show A9 (tabsK Fam.lam K) H;rw[<-hlam];exact this⟩,?_,e2,λv H' k1 f1 h1=>q v H' (fp▸k1) ⟨trivial,by show A9 (tabsK Regs.lam K) H';rw[hlam];exact f1.2⟩ h1⟩
 exact nD ha
end
end
section
structure Per where
 n:Int
 r:Int
 l:Int
 b:Bool
structure Row where
 w:Str
 t:Int
 m:Option Int
 q:Int
structure Mac where
 h:Int
 c:Option Int
 u:Str
 line:List Per
 book:List Row
 t:Int
def qJ:Option Int->V
 | none=>.non
 | some i=>.int i
def fo:Option Int->PyData
 | none=>.none
 | some i=>.int i
def bH (p:Per):List V:=[.int p.n,.int p.r,.int p.l,.bl p.b]
def nq (r:Row):List V:=[.str r.w,.int r.t,qJ r.m,.int r.q]
def bx (p:Per):PyData:=.list [.int p.n,.int p.r,.int p.l,.bool p.b]
def cH (μ:Mac):PyData:=.tuple [.int μ.h,fo μ.c,.str μ.u]
def A3 (hv:V)(l b:Addr)(t:Int):List (Key×V):=[(Sum.inr "house",hv),(Sum.inr "line",.ref l),(Sum.inr "book",.ref b),(Sum.inr "at",.int t)]
theorem mn1:¬(("house":Str) = "line"):=by decide +kernel
theorem mn2:¬(("house":Str) = "book"):=by decide +kernel
theorem mn3:¬(("house":Str) = "at"):=by decide +kernel
theorem mn4:¬(("line":Str) = "book"):=by decide +kernel
theorem mn5:¬(("line":Str) = "at"):=by decide +kernel
theorem mn6:¬(("book":Str) = "at"):=by decide +kernel
theorem Bg:¬(("book":Str) = "line"):=by decide +kernel
theorem Bj:¬(("at":Str) = "line"):=by decide +kernel
section
variable {H:Hp}{d l b:Addr}{hv:V}{t:Int}
theorem sd:au (A3 hv l b t) (Sum.inr "house")=some hv:=by unfold A3;exact P7 rfl
theorem oG:au (A3 hv l b t) (Sum.inr "line")=some (.ref l):=by
 unfold A3;rw[v9 (by rw[K2];exact mn1)];exact P7 rfl
theorem wU:au (A3 hv l b t) (Sum.inr "book")=some (.ref b):=by
 unfold A3;rw[v9 (by rw[K2];exact mn2),v9 (by rw[K2];exact mn4)];exact P7 rfl
theorem xw:au (A3 hv l b t) (Sum.inr "at")=some (.int t):=by
 unfold A3;rw[v9 (by rw[K2];exact mn3),v9 (by rw[K2];exact mn5),v9 (by rw[K2];exact mn6)];exact P7 rfl
theorem AC (z:Int):K6 (A3 hv l b t) (Sum.inr "at") (.int z)=A3 hv l b z:=by
 unfold K6
 rw[Y3,xw]
 simp only[Option.isSome_some,if_true,A3,List.map_cons,List.map_nil,K2,mn3,mn5,mn6,if_true,if_false]
theorem wM (z:Addr):K6 (A3 hv l b t) (Sum.inr "line") (.ref z)=A3 hv z b t:=by
 unfold K6
 rw[Y3,oG]
 simp only[Option.isSome_some,if_true,A3,List.map_cons,List.map_nil,K2,mn1,Bg,Bj,if_true,if_false]
theorem eG (hd:H d=some (.dK (A3 hv l b t))):cS H d (.str "house") (some hv):=by have:=cS.k (k:=Sum.inr "house") hd;rwa [sd]at this
theorem ai (hd:H d=some (.dK (A3 hv l b t))):cS H d (.str "line") (some (.ref l)):=by have:=cS.k (k:=Sum.inr "line") hd;rwa [oG]at this
theorem jm (hd:H d=some (.dK (A3 hv l b t))):cS H d (.str "book") (some (.ref b)):=by have:=cS.k (k:=Sum.inr "book") hd;rwa [wU]at this
theorem sI (hd:H d=some (.dK (A3 hv l b t))):cS H d (.str "at") (some (.int t)):=by have:=cS.k (k:=Sum.inr "at") hd;rwa [xw]at this
theorem ky:(A3 hv l b t).length<sizeLine:=P6 (by show 4<=1000;decide)
theorem AH (z:Int)(hd:H d=some (.dK (A3 hv l b t))):kc H d (.str "at") (.int z) (upd H d (.dK (A3 hv l b z))):=by have:=kc.k (k:=Sum.inr "at") (v:=.int z) hd ky;rwa [AC]at this
theorem wJ (z:Addr)(hd:H d=some (.dK (A3 hv l b t))):kc H d (.str "line") (.ref z) (upd H d (.dK (A3 hv z b t))):=by have:=kc.k (k:=Sum.inr "line") (v:=.ref z) hd ky;rwa [wM]at this
end
def v8 {α:Type}(f:α->List V)(H:Hp)(ps:List Addr)(xs:List α):Prop:=ps.length=xs.length/\∀(i:Nat) a x,ps[i]? = some a->xs[i]? = some x->H a=some (.lst (f x))
theorem v8.keep {α:Type}{f:α->List V}{H H':Hp}{ps:List Addr}{xs:List α}(h:v8 f H ps xs)(e:∀a∈ps,H' a=H a):v8 f H' ps xs:=⟨h.1,λi a x h1 h2=>(e a (List.mem_of_getElem? h1)).trans (h.2 i a x h1 h2)⟩
theorem v8.has {α:Type}{f:α->List V}{H:Hp}{ps:List Addr}{xs:List α}(h:v8 f H ps xs):∀a∈ps,∃ys,H a=some (.lst ys):=λa ha=>by
 obtain⟨i,hi⟩:=List.mem_iff_getElem?.mp ha
 obtain⟨hj,_⟩:=List.getElem?_eq_some_iff.mp hi
 exact⟨_,h.2 i a (xs[i]'(by rw[<-h.1];exact hj)) hi (by simp)⟩
theorem v8.snoc {α:Type}{f:α->List V}{H:Hp}{ps:List Addr}{xs:List α}{a:Addr}{x:α}(h:v8 f H ps xs)(e:H a=some (.lst (f x))):v8 f H (ps++[a]) (xs++[x]):=by
 refine⟨by simp[h.1],λi b y h1 h2=>?_⟩
 by_cases hi:i<ps.length
 .rw[List.getElem?_append_left hi]at h1
  rw[List.getElem?_append_left (by rw[<-h.1];exact hi)]at h2
  exact h.2 i b y h1 h2
 .rw[List.getElem?_append_right (by omega)]at h1
  rw[List.getElem?_append_right (by rw[<-h.1];omega),<-h.1]at h2
  cases hk:i-ps.length with
  | zero=>rw[hk]at h1 h2;simp at h1 h2;subst h1 h2;exact e
  | succ k=>rw[hk]at h1;simp at h1
structure MacIn (K:Fg) (W H:Hp) (d:Addr) (μ:Mac) (ha l b:Addr) (ps rs:List Addr):Prop where
 nd:(d::l::b::(ps++rs)).Nodup
 hd:H d=some (.dK (A3 (.ref ha) l b μ.t))
 hh:SqT K W ha [.int μ.h,qJ μ.c,.str μ.u]
 hl:H l=some (.lst (ps.map V.ref))
 hb:H b=some (.lst (rs.map V.ref))
 pl:v8 bH H ps μ.line
 pb:v8 nq H rs μ.book
def wY (K:Fg)(W H:Hp)(d:Addr)(μ:Mac)(A:List Addr):Prop:=∃ha l b ps rs,A=d::l::b::(ps++rs)/\MacIn K W H d μ ha l b ps rs
theorem MacIn.keep {K:Fg}{W W' H H':Hp}{d:Addr}{μ:Mac}{ha l b:Addr}{ps rs:List Addr}(h:MacIn K W H d μ ha l b ps rs)(s:d8 W W')(e:∀a∈d::l::b::(ps++rs),H' a=H a):MacIn K W' H' d μ ha l b ps rs :=
 ⟨h.nd,(e d (by simp)).trans h.hd,h.hh.same s,(e l (by simp)).trans h.hl,(e b (by simp)).trans h.hb,h.pl.keep λa ha=>e a (by simp[ha]),h.pb.keep λa ha=>e a (by simp[ha])⟩
theorem MacIn.has {K:Fg}{W H:Hp}{d:Addr}{μ:Mac}{ha l b:Addr}{ps rs:List Addr}(h:MacIn K W H d μ ha l b ps rs):∀a∈l::b::(ps++rs),∃ys,H a=some (.lst ys):=λa hm=>by
 simp only[List.mem_cons,List.mem_append]at hm
 rcases hm with rfl | rfl | hm | hm
 .exact⟨_,h.hl⟩
 .exact⟨_,h.hb⟩
 .exact h.pl.has a hm
 .exact h.pb.has a hm
class LamC where
 l:List Str
instance macR [LamC]:Regs where
 S:=Mac
 Reg:=wY
 keep:=λ⟨ha,l,b,ps,rs,e,h⟩ s k=>⟨ha,l,b,ps,rs,e,h.keep s (e▸k)⟩
 has:=λ⟨ha,l,b,ps,rs,e,h⟩ a hm=>by
  rw[e]at hm
  rcases List.mem_cons.mp hm with rfl | hm
  .exact⟨_,h.hd⟩
  .obtain⟨ys,z⟩:=h.has a hm
   exact⟨_,z⟩
 lam:=LamC.l
section
variable [LamC]
local instance regI6:Feeds:=G5
variable {K:Fg}{X:Cx}{i0:Nat}{a b c e tg iter:Expr}{es:List Expr}{st:Stmt}{sts rest:List Stmt}{ta tb te:TE}{ma mb m:DE->M PyData}{t u:TS}{mt mu:DE->M Out}{pos pos' p p2 p3 p4:Pos}{x:Str}{j j2:Option Str}
def TEq (K:Fg)(i0:Nat)(te:TE)(m:DE->M PyData):Prop:=∀(d:Addr) (B0 A0:List Addr) (H0:Hp) (B A:List Addr) (E:DE) (μ:FS) (σ:St) (H:Hp) (Q:VK) (r:PyData) (μ':FS),SitMB K i0 d B0 A0 H0 B A E μ σ H->m E μ=some (r,μ') ->
 (∀v H',μ' = μ->SitMB K i0 d B0 A0 H0 B A E μ σ H'->(∀a∈A,H' a=H a)->d8 (hid H B) (hid H' B)->a7 K (hid H' B) r v->Q v H')->te σ H Q
def TAq (K:Fg)(i0:Nat)(ta:TA)(m:DE->M (List PyData)):Prop:=∀(d:Addr) (B0 A0:List Addr) (H0:Hp) (B A:List Addr) (E:DE) (μ:FS) (σ:St) (H:Hp) (Q:List V->Hp->Prop) (r:List PyData) (μ':FS),SitMB K i0 d B0 A0 H0 B A E μ σ H->m E μ=some (r,μ') ->
 (∀vs H',μ' = μ->SitMB K i0 d B0 A0 H0 B A E μ σ H'->(∀a∈A,H' a=H a)->d8 (hid H B) (hid H' B)->a6 K (hid H' B) r vs->Q vs H')->ta σ H Q
structure Eq1 (K:Fg) (X:Cx) (i0:Nat) (e:Expr) (te:TE) (m:DE->M PyData):Prop where
 pe:PE X e te
 ok:TEq K i0 te m
structure Eaq (K:Fg) (X:Cx) (i0:Nat) (es:List Expr) (ta:TA) (m:DE->M (List PyData)):Prop where
 pa:PA X es ta
 ok:TAq K i0 ta m
theorem SitMB.kept {d:Addr}{B0 A0:List Addr}{H0:Hp}{B A:List Addr}{E:DE}{μ:FS}{σ:St}{H H':Hp}(S:SitMB K i0 d B0 A0 H0 B A E μ σ H)(k:Kp (tabP K) H H'):∀a∈A,H' a=H a:=λa ha=>by
 obtain⟨o,e⟩:=Regs.has S.rg a ha
 rw[e];exact k a o e (S.aB a ha).2.1
theorem qc (h:Ev K X e te m):Eq1 K X i0 e te (mE m):=⟨h.pe,λd B0 A0 H0 B A E μ σ H Q r μ' S e q=>by
 obtain⟨⟨x,μ1⟩,e1,e⟩:=bS9 e
 cases e
 exact h.ok none B E μ σ H _ x μ1 S.I e1 λv H1 k1 f1 h1=>q v H1 rfl (S.step k1 f1.2) (S.kept k1) (S.sm k1) h1⟩
theorem q_m (h:TEq K i0 te m):TEm K i0 te m:=λd B0 A0 H0 B A E μ σ H Q r μ' S e q=>h d B0 A0 H0 B A E μ σ H _ r μ' S e λv H' em S' _ s h'=>q v H' B A (em▸S') s h'
theorem pQ (h:Eq1 K X i0 e te m):Em K X i0 e te m:=⟨h.pe,q_m h.ok⟩
theorem nR:Eaq K X i0 [] C8 g7:=⟨j6,λd B0 A0 H0 B A E μ σ H Q r μ' S e q=>by cases e;exact q [] H rfl S (λ_ _=>rfl) (d8.refl _) a6.nil⟩
theorem N9 {t:TA}{ms:DE->M (List PyData)}(ha:Eq1 K X i0 e te m)(hr:Eaq K X i0 es t ms)(hs:starEach (e::es) X.env=(false,eval e X.env)::starEach es X.env:=by rfl):Eaq K X i0 (e::es) (q4 te t) (b8 m ms) :=
 ⟨h9 ha.pe hr.pa hs,λd B0 A0 H0 B A E μ σ H Q r μ' S e q=>by
  obtain⟨⟨x,μ1⟩,e1,e⟩:=bS9 e
  obtain⟨⟨ys,μ2⟩,e2,e⟩:=bS9 e
  cases e
  refine ha.ok d B0 A0 H0 B A E μ σ H _ x μ1 S e1 λv H1 em1 S1 k1 s1 h1=>?_
  subst em1
  exact hr.ok d B0 A0 H0 B A E _ σ H1 _ ys _ S1 e2 λvs H2 em2 S2 k2 s2 h2=>q _ H2 em2 S2 (λa ha=>(k2 a ha).trans (k1 a ha)) (s1.trans s2) (.cons (h1.same s2) h2)⟩
def yp (K:Fg):List V->Hp->VK->Prop:=λxs H Q=>∃p ys,xs=[.ref p]/\(SqL K H p ys\/SqT K H p ys)/\Q (.int ys.length) H
def sAt:DE->M PyData:=λ_ μ=>some (.int (Mac.t μ),μ)
def eX:DE->M PyData:=λ_ μ=>some (cH μ,μ)
def nN:DE->M PyData:=λ_ μ=>some (.int (Mac.line μ).length,μ)
def ua:DE->M PyData:=λ_ μ=>some (.int (Mac.book μ).length,μ)
def pM:DE->M PyData:=λ_ μ=>some (.bool (Mac.line μ).isEmpty,μ)
theorem Bf:TEq K i0 (G2 (l8 i0) (tC (.str "at"))) sAt:=λd B0 A0 H0 B A E μ σ H Q r μ' S e q=>by
 cases e
 obtain⟨ha,l,b,ps,rs,_,h⟩:=S.rg
 exact⟨_,S.at0,d,_,rfl,sI h.hd,q _ H rfl S (λ_ _=>rfl) (d8.refl _) a7.int⟩
theorem uw {k}(hu:X.A.units+65<cLine)(hN:X.N[i0]? = some x:=by rfl)(hv:Vis X.env.scope x:=by first | exact Or.inl rfl | exact Or.inr (Or.inl rfl) | exact Or.inr (Or.inr rfl))(hd:(x == ("__debug__":Str))=false:=by decide)(hcd:(x == ("__classdict__":Str))=false:=by decide) :
  Eq1 K X i0 (.Subscript (.Name x p) (.Constant (.str "at") k p2) pos) (G2 (l8 i0) (tC (.str "at"))) sAt:=⟨B8 (by omega) (D4 hN hv hd hcd) u7 (λ_ _=>rfl),Bf⟩
theorem vX {H:Hp}{c:Option Int}:a7 K H (fo c) (qJ c):=by
 cases c with
 | none=>exact a7.non
 | some i=>exact a7.int
theorem fm {W:Hp}{μ:Mac}{ha:Addr}(h:SqT K W ha [.int μ.h,qJ μ.c,.str μ.u]):a7 K W (cH μ) (.ref ha):=by
 unfold cH
 simp only[a7]
 exact⟨ha,_,rfl,h,.cons a7.int (.cons vX (.cons a7.st a6.nil))⟩
theorem uY:TEq K i0 (G2 (l8 i0) (tC (.str "house"))) eX:=λd B0 A0 H0 B A E μ σ H Q r μ' S e q=>by
 cases e
 obtain⟨ha,l,b,ps,rs,_,h⟩:=S.rg
 exact⟨_,S.at0,d,_,rfl,eG h.hd,q _ H rfl S (λ_ _=>rfl) (d8.refl _) (fm h.hh)⟩
theorem kg {k}(hu:X.A.units+65<cLine)(hN:X.N[i0]? = some x:=by rfl)(hv:Vis X.env.scope x:=by first | exact Or.inl rfl | exact Or.inr (Or.inl rfl) | exact Or.inr (Or.inr rfl))(hd:(x == ("__debug__":Str))=false:=by decide)(hcd:(x == ("__classdict__":Str))=false:=by decide) :
  Eq1 K X i0 (.Subscript (.Name x p) (.Constant (.str "house") k p2) pos) (G2 (l8 i0) (tC (.str "house"))) eX:=⟨B8 (by omega) (D4 hN hv hd hcd) u7 (λ_ _=>rfl),uY⟩
theorem AR {f:PyData->PyData->Option PyData}(hr:IxR X (rD2 K f))(ha:Em K X i0 a ta ma)(hb:Em K X i0 b tb mb)(hs:jy b:=by intro _ _;rfl):Em K X i0 (.Subscript a b pos) (tOp (rD2 K f) ta tb) (s2 f ma mb):=⟨K0 hr ha.pe hb.pe hs,λd B0 A0 H0 B A E μ σ H Q r μ' S e q=>by
 obtain⟨⟨x,μ1⟩,e1,e⟩:=bS9 e
 obtain⟨⟨y,μ2⟩,e2,e⟩:=bS9 e
 obtain⟨z,e3,e⟩:=bS9 e
 cases e
 refine ha.ok d B0 A0 H0 B A E μ σ H _ x μ1 S e1 λv H1 B1 A1 S1 s1 h1=>?_
 refine hb.ok d B0 A0 H0 B1 A1 E μ1 σ H1 _ y _ S1 e2 λw H2 B2 A2 S2 s2 h2=>⟨tabP K,B2,x,y,_,S2.I.bk,aG (h1.same s2) S2.I.fB,aG h2 S2.I.fB,e3,λu H3 s hu=>?_⟩
 exact q u H3 B2 A2 (S2.step (Kp.same s) (S2.I.fd.same s).2) ((s1.trans s2).trans (S2.sm (Kp.same s))) hu⟩
theorem vS {k}(hK:X.K=K)(hu:X.A.units+65<cLine)(hl:X.mg "len" = none)(hN:X.N[i0]? = some x:=by rfl)(hv:Vis X.env.scope x:=by first | exact Or.inl rfl | exact Or.inr (Or.inl rfl) | exact Or.inr (Or.inr rfl))(hd:(x == ("__debug__":Str))=false:=by decide)(hcd:(x == ("__classdict__":Str))=false:=by decide)(hg:Gl X "len":=by rfl)
  (he:starEach [.Subscript (.Name x p) (.Constant (.str "line") k p2) p3] X.env=(false,eval (.Subscript (.Name x p) (.Constant (.str "line") k p2) p3) X.env)::starEach [] X.env:=by rfl) (hpl:(backTo pos (starEach [] X.env)).any (·.1)=false:=by rfl) :
  Eq1 K X i0 (.Call (.Name "len" p4) [.Subscript (.Name x p) (.Constant (.str "line") k p2) p3] [] pos) (tCB (yp K) (q4 (G2 (l8 i0) (tC (.str "line"))) C8)) nN:=by
 subst hK
 refine⟨P9 F8 hg hl PySem.boot_len (h9 (B8 (by omega) (D4 hN hv hd hcd) u7 (λ_ _=>rfl)) j6 he) (by decide) (by decide) he hpl,λd B0 A0 H0 B A E μ σ H Q r μ' S e q=>?_⟩
 cases e
 obtain⟨ha,l,b,ps,rs,_,h⟩:=S.rg
 exact⟨_,S.at0,d,_,rfl,ai h.hd,l,_,rfl,.inl (SqL.of h.hl),by rw[List.length_map,h.pl.1];exact q _ H rfl S (λ_ _=>rfl) (d8.refl _) a7.int⟩
theorem wD {k}(hK:X.K=K)(hu:X.A.units+65<cLine)(hl:X.mg "len" = none)(hN:X.N[i0]? = some x:=by rfl)(hv:Vis X.env.scope x:=by first | exact Or.inl rfl | exact Or.inr (Or.inl rfl) | exact Or.inr (Or.inr rfl))(hd:(x == ("__debug__":Str))=false:=by decide)(hcd:(x == ("__classdict__":Str))=false:=by decide)(hg:Gl X "len":=by rfl)
  (he:starEach [.Subscript (.Name x p) (.Constant (.str "book") k p2) p3] X.env=(false,eval (.Subscript (.Name x p) (.Constant (.str "book") k p2) p3) X.env)::starEach [] X.env:=by rfl) (hpl:(backTo pos (starEach [] X.env)).any (·.1)=false:=by rfl) :
  Eq1 K X i0 (.Call (.Name "len" p4) [.Subscript (.Name x p) (.Constant (.str "book") k p2) p3] [] pos) (tCB (yp K) (q4 (G2 (l8 i0) (tC (.str "book"))) C8)) ua:=by
 subst hK
 refine⟨P9 F8 hg hl PySem.boot_len (h9 (B8 (by omega) (D4 hN hv hd hcd) u7 (λ_ _=>rfl)) j6 he) (by decide) (by decide) he hpl,λd B0 A0 H0 B A E μ σ H Q r μ' S e q=>?_⟩
 cases e
 obtain⟨ha,l,b,ps,rs,_,h⟩:=S.rg
 exact⟨_,S.at0,d,_,rfl,jm h.hd,b,_,rfl,.inl (SqL.of h.hb),by rw[List.length_map,h.pb.1];exact q _ H rfl S (λ_ _=>rfl) (d8.refl _) a7.int⟩
end
end
section
def lQ (K:Fg):R2:=λx y H Q=>∃a b xs,x = .ref a/\y = .ref b/\SqL K H a xs/\SqL K H b []/\Q (.bl xs.isEmpty) H
theorem jF {X:Cx}(hu:X.A.units<cLine):OpR X (compareOp .Eq) (lQ X.K):=by
 intro pins s σ H x y v u Q I rx ry h
 obtain⟨a,b,xs,rfl,rfl,ha,hb,q⟩:=h
 cases rx
 cases ry
 obtain⟨its,rv,p,hz⟩:=I.list ha
 obtain⟨its2,rv2,p2,hz2⟩:=I.list hb
 cases rv2
 cases rv with
 | nil=>exact(SeqAt.RcAt.lists (e:=λ_=>true) p.isList p2.isList rfl hu λj h1 _=>absurd h1 (by simp)) _ _ _ _ ⟨.bl true,H,I,rfl,q⟩
 | cons r1 r2=>exact(SeqAt.RcAt.lists_lengths p.isList p2.isList (by simp) hu) _ _ _ _ ⟨.bl false,H,I,rfl,q⟩
section
variable [LamC]
local instance regI7:Feeds:=G5
variable {K:Fg}{X:Cx}{i0:Nat}{a b c e tg iter:Expr}{es:List Expr}{st:Stmt}{sts rest:List Stmt}{ta tb te:TE}{ma mb m:DE->M PyData}{t u:TS}{mt mu:DE->M Out}{pos pos' p p2 p3 p4:Pos}{x:Str}{j j2:Option Str}
theorem oY {ps:List Addr}{xs:List Per}(h:ps.length=xs.length):(ps.map V.ref).isEmpty=xs.isEmpty:=by
 cases ps <;> cases xs <;> simp at h ⊢
theorem xi {R:R2}{f:Bool->Bool}(hR:∀{l p:Addr} {ys:List V} {H:Hp} {Q:VK},SqL K H l ys->SqL K H p []->Q (.bl (f ys.isEmpty)) H->R (.ref l) (.ref p) H Q):TEq K i0 (tOp R (G2 (l8 i0) (tC (.str "line"))) (ax C8)) (λ_ μ=>some (.bool (f (Mac.line μ).isEmpty),μ)):=λd B0 A0 H0 B A E μ σ H Q r μ' S e q=>by
 cases e
 obtain⟨ha,l,b,ps,rs,_,h⟩:=S.rg
 refine⟨_,S.at0,d,_,rfl,ai h.hd,Nat.zero_le _,λp hp=>hR (SqL.of (by rw[a9 (d6 h.hl hp)];exact h.hl)) (SqL.of b9) ?_⟩
 rw[oY h.pl.1]
 exact q _ _ rfl (S.step (Kp.upd hp) (S.I.fd.same (d8.upd hp)).2) (S.kept (Kp.upd hp)) (S.sm (Kp.upd hp)) a7.bl
theorem yi {k}(hK:X.K=K)(hu:X.A.units+65<cLine)(hN:X.N[i0]? = some x:=by rfl)(hv:Vis X.env.scope x:=by first | exact Or.inl rfl | exact Or.inr (Or.inl rfl) | exact Or.inr (Or.inr rfl))(hd:(x == ("__debug__":Str))=false:=by decide)(hcd:(x == ("__classdict__":Str))=false:=by decide)(hm:behindInMarks .Eq (.List [] p4)=false:=by first | exact Q9 _ | rfl) :
  Eq1 K X i0 (.Compare (.Subscript (.Name x p) (.Constant (.str "line") k p2) p3) [.Eq] [.List [] p4] pos) (tOp (lQ K) (G2 (l8 i0) (tC (.str "line"))) (ax C8)) pM:=by
 subst hK
 exact⟨dX (jF (by omega)) (B8 (by omega) (D4 hN hv hd hcd) u7 (λ_ _=>rfl)) (L6 j6) hm,xi (f:=id) λh1 h2 q=>⟨_,_,_,rfl,rfl,h1,h2,q⟩⟩
theorem wm {k}(hK:X.K=K)(hu:X.A.units+65<cLine)(hN:X.N[i0]? = some x:=by rfl)(hv:Vis X.env.scope x:=by first | exact Or.inl rfl | exact Or.inr (Or.inl rfl) | exact Or.inr (Or.inr rfl))(hd:(x == ("__debug__":Str))=false:=by decide)(hcd:(x == ("__classdict__":Str))=false:=by decide)(hm:behindInMarks .Eq (.List [] p4)=false:=by first | exact Q9 _ | rfl) :
  Etm K X i0 (.Compare (.Subscript (.Name x p) (.Constant (.str "line") k p2) p3) [.Eq] [.List [] p4] pos) (bQ (tOp (lQ K) (G2 (l8 i0) (tC (.str "line"))) (ax C8))) (uB pM):=by
 subst hK
 exact⟨N1 (jF (by omega)) (B8 (by omega) (D4 hN hv hd hcd) u7 (λ_ _=>rfl)) (L6 j6) hm,yS (q_m (xi (f:=id) λh1 h2 q=>⟨_,_,_,rfl,rfl,h1,h2,q⟩))⟩
section
variable {d:Addr}{B0 A0:List Addr}{H0:Hp}{B A:List Addr}{E:DE}{μ μ':Mac}{σ:St}{H H':Hp}
theorem SitMB.remake {A':List Addr}(S:SitMB K i0 d B0 A0 H0 B A E μ σ H)(kp:∀b o,H b=some o->b ∉ A->H' b=some o)(hA:∀a∈A',a∈A\/H a=none)(al:∀a∈A,∃o,H' a=some o)(rg:∀{W:Hp},d8 (hid H B) W->wY K W H' d μ' A'):SitMB K i0 d B0 A0 H0 (A'++B) A' E μ' σ H'/\d8 (hid H B) (hid H' (A'++B)):=by
 have tn:∀b∈A,b ∉ tabP K:=λb hb=>(S.aB b hb).2.1
 have nB:∀a,H a=none->a ∉ B:=λa e=>S.I.bk.nin e
 refine S.called ⟨?_,λa ha=>?_,λb o e _ n=>kp b o e n,?_,λb hb=>?_⟩
 .refine rg λb o eb=>?_
  by_cases hB:b∈B
  .rw[v7 hB]at eb;cases eb
  .rw[e8 hB]at eb
   rw[e8 λz=>(List.mem_append.mp z).elim (λz=>(hA b z).elim (λz=>hB (S.aB b z).1) λz=>by rw[z]at eb;cases eb) hB]
   exact kp b o eb λz=>hB (S.aB b z).1
 .rcases hA a ha with h | h
  .exact⟨tn a h,.inl h⟩
  .exact⟨λz=>nB a h (S.s a (S.tB a z)),.inr ⟨h,nB a h⟩⟩
 .refine S.I.fd.2.congr λb hb=>?_
  obtain⟨o,e,n⟩:∃o,H b=some o/\b ∉ A:=by
   rcases hb with hb | ⟨φ,e⟩
   .obtain⟨t,ht,rfl⟩:=List.mem_map.mp hb
    obtain⟨ps,e,_⟩:=S.I.fd.2 t ht
    exact⟨_,e,λz=>tn _ z (List.mem_map_of_mem ht)⟩
   .refine⟨_,e,λz=>?_⟩
    obtain⟨ha,l,bb,ps,rs,ea,h⟩:=S.rg
    rw[ea]at z
    rcases List.mem_cons.mp z with rfl | z
    .rw[h.hd]at e;cases e
    .obtain⟨ys,ey⟩:=h.has b z
     rw[ey]at e;cases e
  rw[e];exact kp b o e n
 .by_cases hb':b∈A
  .exact al b hb'
  .obtain⟨o,e⟩:=S.I.bk b hb
   exact⟨o,kp b o e hb'⟩
end
def gw:List PyData->Option Per
 | [.int n,.int r,.int l,.bool b]=>some ⟨n,r,l,b⟩
 | _=>none
def hW:List PyData->Option Row
 | [.str w,.int t,.none,.int q]=>some ⟨w,t,none,q⟩
 | _=>none
theorem wR {H:Hp}{ds:List PyData}{vs:List V}{y:Per}(h:gw ds=some y)(hd:a6 K H ds vs):vs=bH y:=by
 unfold gw at h
 split at h
 .cases h
  simp only[a6,a7]at hd
  obtain⟨_,_,rfl,rfl,_,_,rfl,rfl,_,_,rfl,rfl,_,_,rfl,rfl,rfl⟩:=hd
  rfl
 .cases h
theorem wN {H:Hp}{ds:List PyData}{vs:List V}{y:Row}(h:hW ds=some y)(hd:a6 K H ds vs):vs=nq y:=by
 unfold hW at h
 split at h
 .cases h
  simp only[a6,a7]at hd
  obtain⟨_,_,rfl,rfl,_,_,rfl,rfl,_,_,rfl,rfl,_,_,rfl,rfl,rfl⟩:=hd
  rfl
 .cases h
def kK (ms:DE->M (List PyData)):DE->M Out:=λE μ=>(ms E μ).bind λp=>(gw p.1).bind λy=>if (Mac.line p.2).length<sizeLine/\p.1.length<=sizeLine then some (.nx E,{ (p.2:Mac) with line:=Mac.line p.2++[y] }) else none
def kI (ms:DE->M (List PyData)):DE->M Out:=λE μ=>(ms E μ).bind λp=>(hW p.1).bind λy=>if (Mac.book p.2).length<sizeLine/\p.1.length<=sizeLine then some (.nx E,{ (p.2:Mac) with book:=Mac.book p.2++[y] }) else none
theorem yg {ta:TA}{ms:DE->M (List PyData)}(h:TAq K i0 ta ms):TSm K i0 (aC (tBM K "list" N3 (G2 (l8 i0) (tC (.str "line"))) (q4 (ax ta) C8))) (kK ms):=λd B0 A0 H0 B A E μ σ H D r μ' S e q=>by
 obtain⟨⟨ds,μ1⟩,e1,e⟩:=bS9 e
 obtain⟨y,e2,e⟩:=bS9 e
 split at e
 .rename_i hsz
  cases e
  obtain⟨ha,l,b,ps,rs,ea,hm⟩:=S.rg
  refine⟨_,S.at0,d,_,rfl,ai hm.hd,.inl ⟨rfl,_,SqL.of hm.hl⟩,h d B0 A0 H0 B A E μ σ H _ ds μ1 S e1 λvs H1 em S1 k1 s1 h1=>⟨by rw[h1.length];exact hsz.2,λz hz=>?_⟩⟩
  subst em
  have ev:=wR e2 h1
  subst ev
  have hm1:MacIn K (hid H1 B) H1 d _ ha l b ps rs:=hm.keep s1 (ea▸k1)
  have nz:z ∉ A:=λzz=>by
   obtain⟨o,eo⟩:=Regs.has S1.rg z zz
   rw[hz]at eo;cases eo
  have nd:=hm1.nd
  have hlz:l≠z:=λzz=>nz (by rw[ea,<-zz];simp)
  refine⟨l,ps.map V.ref,.ref z,rfl,rfl,by rw[a9 hlz];exact hm1.hl,by rw[List.length_map,hm1.pl.1];exact hsz.1,?_⟩
  have hH:∀a,a≠z->a≠l->(upd (upd H1 z (.lst (bH y))) l (.lst (ps.map V.ref++[.ref z]))) a=H1 a:=λa n1 n2=>by rw[a9 n2,a9 n1]
  obtain⟨Z,_⟩:=S1.remake (A':=d::l::b::((ps++[z])++rs)) (H':=upd (upd H1 z (.lst (bH y))) l (.lst (ps.map V.ref++[.ref z]))) (μ':={ (μ1:Mac) with line:=Mac.line μ1++[y] })
   (λb' o eo n=>by rw[hH b' (λzz=>by rw[zz,hz]at eo;cases eo) (λzz=>n (by rw[ea,zz];simp))];exact eo)
   (λa ha=>by
    simp only[List.mem_cons,List.mem_append,List.mem_singleton,List.not_mem_nil,or_false]at ha
    rw[ea]
    simp only[List.mem_cons,List.mem_append]
    rcases ha with h | h | h | (h | h) | h
    .exact .inl (.inl h)
    .exact .inl (.inr (.inl h))
    .exact .inl (.inr (.inr (.inl h)))
    .exact .inl (.inr (.inr (.inr (.inl h))))
    .exact .inr (h▸hz)
    .exact .inl (.inr (.inr (.inr (.inr h)))))
   (λa ha=>by
    by_cases h1:a=l
    .subst h1;exact⟨_,b9⟩
    .obtain⟨o,eo⟩:=Regs.has S1.rg a ha
     rw[hH a (λzz=>nz (zz▸ha)) h1];exact⟨o,eo⟩)
   (λ{W} sW=>by
    have nl:l ∉ d::b::(ps++rs):=by simp at nd ⊢;grind
    have nzz:z ∉ d::l::b::(ps++rs):=ea▸nz
    refine⟨ha,l,b,ps++[z],rs,rfl,?_,?_,hm1.hh.same sW,?_,?_,?_,?_⟩
    .simp at nd nzz ⊢;grind
    .rw[hH d (by simp at nzz;grind) (by simp at nl;grind)];exact hm1.hd
    .rw[b9,List.map_append];rfl
    .rw[hH b (by simp at nzz;grind) (by simp at nl;grind)];exact hm1.hb
    .refine v8.snoc (hm1.pl.keep λa ha=>hH a (by simp at nzz;grind) (by simp at nl;grind)) ?_
     rw[a9 (Ne.symm hlz)];exact b9
    .exact hm1.pb.keep λa ha=>hH a (by simp at nzz;grind) (by simp at nl;grind))
  exact q _ _ σ _ Z
 .cases e
theorem xT {ta:TA}{ms:DE->M (List PyData)}(h:TAq K i0 ta ms):TSm K i0 (aC (tBM K "list" N3 (G2 (l8 i0) (tC (.str "book"))) (q4 (ax ta) C8))) (kI ms):=λd B0 A0 H0 B A E μ σ H D r μ' S e q=>by
 obtain⟨⟨ds,μ1⟩,e1,e⟩:=bS9 e
 obtain⟨y,e2,e⟩:=bS9 e
 split at e
 .rename_i hsz
  cases e
  obtain⟨ha,l,b,ps,rs,ea,hm⟩:=S.rg
  refine⟨_,S.at0,d,_,rfl,jm hm.hd,.inl ⟨rfl,_,SqL.of hm.hb⟩,h d B0 A0 H0 B A E μ σ H _ ds μ1 S e1 λvs H1 em S1 k1 s1 h1=>⟨by rw[h1.length];exact hsz.2,λz hz=>?_⟩⟩
  subst em
  have ev:=wN e2 h1
  subst ev
  have hm1:MacIn K (hid H1 B) H1 d _ ha l b ps rs:=hm.keep s1 (ea▸k1)
  have nz:z ∉ A:=λzz=>by
   obtain⟨o,eo⟩:=Regs.has S1.rg z zz
   rw[hz]at eo;cases eo
  have nd:=hm1.nd
  have hlz:b≠z:=λzz=>nz (by rw[ea,<-zz];simp)
  refine⟨b,rs.map V.ref,.ref z,rfl,rfl,by rw[a9 hlz];exact hm1.hb,by rw[List.length_map,hm1.pb.1];exact hsz.1,?_⟩
  have hH:∀a,a≠z->a≠b->(upd (upd H1 z (.lst (nq y))) b (.lst (rs.map V.ref++[.ref z]))) a=H1 a:=λa n1 n2=>by rw[a9 n2,a9 n1]
  obtain⟨Z,_⟩:=S1.remake (A':=d::l::b::(ps++(rs++[z]))) (H':=upd (upd H1 z (.lst (nq y))) b (.lst (rs.map V.ref++[.ref z]))) (μ':={ (μ1:Mac) with book:=Mac.book μ1++[y] })
   (λb' o eo n=>by rw[hH b' (λzz=>by rw[zz,hz]at eo;cases eo) (λzz=>n (by rw[ea,zz];simp))];exact eo)
   (λa ha=>by
    simp only[List.mem_cons,List.mem_append,List.mem_singleton,List.not_mem_nil,or_false]at ha
    rw[ea]
    simp only[List.mem_cons,List.mem_append]
    rcases ha with h | h | h | h | (h | h)
    .exact .inl (.inl h)
    .exact .inl (.inr (.inl h))
    .exact .inl (.inr (.inr (.inl h)))
    .exact .inl (.inr (.inr (.inr (.inl h))))
    .exact .inl (.inr (.inr (.inr (.inr h))))
    .exact .inr (h▸hz))
   (λa ha=>by
    by_cases h1:a=b
    .subst h1;exact⟨_,b9⟩
    .obtain⟨o,eo⟩:=Regs.has S1.rg a ha
     rw[hH a (λzz=>nz (zz▸ha)) h1];exact⟨o,eo⟩)
   (λ{W} sW=>by
    have nl:b ∉ d::l::(ps++rs):=by simp at nd ⊢;grind
    have nzz:z ∉ d::l::b::(ps++rs):=ea▸nz
    refine⟨ha,l,b,ps,rs++[z],rfl,?_,?_,hm1.hh.same sW,?_,?_,?_,?_⟩
    .simp at nd nzz ⊢;grind
    .rw[hH d (by simp at nzz;grind) (by simp at nl;grind)];exact hm1.hd
    .rw[hH l (by simp at nzz;grind) (by simp at nl;grind)];exact hm1.hl
    .rw[b9,List.map_append];rfl
    .exact hm1.pl.keep λa ha=>hH a (by simp at nzz;grind) (by simp at nl;grind)
    .refine v8.snoc (hm1.pb.keep λa ha=>hH a (by simp at nzz;grind) (by simp at nl;grind)) ?_
     rw[a9 (Ne.symm hlz)];exact b9)
  exact q _ _ σ _ Z
 .cases e
end
end
section
def isInt:PyData->Bool
 | .int _=>true
 | _=>false
def dA:DE->Bool
 | []=>true
 | some (.own _)::_=>false
 | _::r=>dA r
theorem gE:∀{E:DE} {i:Nat} {ds:List PyData},dA E=true->E[i]? ≠ some (some (DV.own ds))
 | [],i,ds,_=>by simp
 | x::r,0,ds,h=>by
  intro z
  simp at z
  subst z
  simp[dA]at h
 | x::r,i+1,ds,h=>by
  have:dA r=true:=by
   cases x with
   | none=>simpa [dA] using h
   | some y=>cases y <;> simp[dA]at h <;> exact h
  simpa using gE (i:=i) (ds:=ds) this
theorem lu {K:Fg}{H H':Hp}:∀{ds:List PyData} {ws:List V},ds.all isInt=true->a6 K H ds ws->a6 K H' ds ws
 | [],ws,_,h=>by simpa only[a6] using h
 | d::ds,ws,hi,h=>by
  simp only[List.all_cons,Bool.and_eq_true]at hi
  simp only[a6]at h ⊢
  obtain⟨x,r,e,h1,h2⟩:=h
  refine⟨x,r,e,?_,lu hi.2 h2⟩
  cases d <;> simp[isInt]at hi
  simpa only[a7] using h1
section
variable [LamC]
local instance regI8:Feeds:=G5
variable {K:Fg}{X:Cx}{i0:Nat}{a b c e tg iter:Expr}{es:List Expr}{st:Stmt}{sts rest:List Stmt}{ta tb te:TE}{ma mb m:DE->M PyData}{t u:TS}{mt mu:DE->M Out}{pos pos' p p2 p3 p4 px py:Pos}{x y:Str}
theorem zl {H:Hp}{a:Addr}{q:Per}(h:H a=some (.lst (bH q))):a7 K H (bx q) (.ref a):=by
 unfold bx
 exact a7.lst h (.cons a7.int (.cons a7.int (.cons a7.int (.cons a7.bl a6.nil))))
theorem kJ {α:Type}{f:α->List V}{g:α->PyData}{H:Hp}{B:List Addr}(hg:∀{a:Addr} {q:α},hid H B a=some (.lst (f q))->a7 K (hid H B) (g q) (.ref a)):∀{ps:List Addr} {xs:List α},v8 f H ps xs->(∀a∈ps,a ∉ B)->a6 K (hid H B) (xs.map g) (ps.map V.ref)
 | [],[],_,_=>by simp[a6]
 | [],x::xs,h,_=>by have:=h.1;simp at this
 | a::ps,[],h,_=>by have:=h.1;simp at this
 | a::ps,x::xs,h,hn=>by
  refine .cons (hg ?_) (kJ hg ⟨by have:=h.1;simpa using this,λi b y h1 h2=>h.2 (i+1) b y (by simpa using h1) (by simpa using h2)⟩ λb hb=>hn b (List.mem_cons_of_mem _ hb))
  rw[e8 (hn a List.mem_cons_self)]
  exact h.2 0 a x rfl rfl
def jK (μ:Mac):PyData:=.list (μ.line.map bx)
section
variable {d:Addr}{B0 A0:List Addr}{H0:Hp}{B A:List Addr}{E:DE}{μ μ':Mac}{σ:St}{H H':Hp}{ha l bb:Addr}{ps rs:List Addr}
theorem MacIn.lineIs (h:MacIn K (hid H B) H d μ ha l bb ps rs){B':List Addr}(n:∀a∈l::bb::(ps++rs),a ∉ B'):a7 K (hid H B') (jK μ) (.ref l):=by
 refine a7.lst ?_ (kJ (λz=>zl z) h.pl λa ha=>n a (by simp[ha]))
 rw[e8 (n l (by simp))];exact h.hl
theorem SitMB.reveal (S:SitMB K i0 d B0 A0 H0 B A E μ σ H)(ea:A=d::l::bb::(ps++rs)):SitE K none (wo B (l::bb::(ps++rs))) E μ σ H:=by
 have mA:∀a∈l::bb::(ps++rs),a∈A:=λa h=>ea▸List.mem_cons_of_mem _ h
 refine⟨S.I.fd,λb hb=>eN.mpr ⟨S.s b (S.tB b hb),λz=>(S.aB b (mA b z)).2.1 hb⟩,λb hb=>S.I.bk b (eN.mp hb).1,S.I.ln,λi x ei=>?_⟩
 obtain⟨v,v1,v2⟩:=S.I.loc i x ei
 refine⟨v,v1,?_⟩
 have sub:∀b∈wo B (l::bb::(ps++rs)),b∈B:=λb hb=>(eN.mp hb).1
 cases x with
 | dat y=>exact a7.same (show a7 K (hid H B) y v from v2) (J4 sub)
 | feed=>exact v2
 | fn _=>exact v2
 | adr _=>exact v2
 | own ys =>
  obtain⟨a',xs,rfl,hB,hf,hx,hd⟩:=v2
  exact⟨a',xs,rfl,eN.mpr ⟨hB,λz=>(S.own i ys a' ei v1).2 (mA _ z)⟩,hf,hx,hd.same (J4 sub)⟩
end
def ao (j:Nat)(mu:DE->M (List PyData)):DE->M Out:=λE μ=>if j<E.length/\dA E=true then(mu (E.set j (some (.dat (jK μ)))) μ).bind λp=>if p.1.all isInt=true then some (.rt (.list p.1),μ) else none else none
theorem gZ {E:DE}{j:Nat}{d:PyData}(h:dA E=true):∀(i:Nat) (ds:List PyData),(E.set j (some (.dat d)))[i]? ≠ some (some (DV.own ds)):=λi ds e=>by
 by_cases hj:j=i
 .subst hj
  by_cases hl:j<E.length
  .rw[List.getElem?_set_self hl]at e;cases e
  .rw[List.getElem?_eq_none (by simpa using hl)]at e;cases e
 .rw[List.getElem?_set_ne hj]at e
  exact gE h e
theorem uj {j:Nat}{u:TS}{mu:DE->M (List PyData)}(h:∀(G:GF) (B0:List Addr) (H0:Hp) (E:DE) (F:FS) (σ:St) (H:Hp) (D:Ends) (ds:List PyData) (F':FS),Sit K G B0 H0 E F σ H->mu E F=some (ds,F') ->
  (∀a ws H',H0 a=none->H' a=some (.lst ws)->Kp (k9 K G) H0 H'->FAt K G H' F'->a6 K (hid H' (a::B0)) ds ws->D.rt (.ref a) H')->u D σ H):TSm K i0 (O9 (L0 (G2 (l8 i0) (tC (.str "line"))) (G7 j)) u) (ao j mu):=λd B0 A0 H0 B A E μ σ H D r μ' S e q=>by
 unfold ao at e
 split at e
 .rename_i hc
  obtain⟨⟨ds,μ1⟩,e1,e⟩:=bS9 e
  split at e
  .rename_i hi
   cases e
   obtain⟨ha,l,bb,ps,rs,ea,hm⟩:=S.rg
   have nn:∀a∈l::bb::(ps++rs),a ∉ wo B (l::bb::(ps++rs)):=λa h z=>(eN.mp z).2 h
   have I0:=S.reveal ea
   refine⟨_,S.at0,d,_,rfl,ai hm.hd,?_⟩
   refine h none (wo B (l::bb::(ps++rs))) H _ μ _ H D ds μ1 ⟨⟨_,λ_ z=>z,λb hb=>.inl hb,I0.set (hm.lineIs nn) hc.1⟩,I0.fB,Kp.refl,λi es a ei _=>absurd ei (gZ hc.2 i es),λi k es fs a ei _ _ _=>absurd ei (gZ hc.2 i es)⟩ e1 λa ws H' hn hw k f hd=>?_
   have S':=S.step k f.2
   refine q _ H' A S'.fin.1 (a7.lst ?_ (lu hi hd))
   rw[e8 λz=>?_]
   .exact hw
   .refine S.I.bk.nin hn ?_
    rcases List.mem_append.mp z with z | z
    .exact(S.aB a z).1
    .exact S.s a z
  .cases e
 .cases e
theorem oQ (j:Nat){k}{u:TS}{mu:DE->M (List PyData)}(hu:X.A.units+65<cLine)(hN:X.N.Nodup)(h:SsG K X rest u mu)(h0:X.N[i0]? = some x:=by rfl)(hv:Vis X.env.scope x:=by first | exact Or.inl rfl | exact Or.inr (Or.inl rfl) | exact Or.inr (Or.inr rfl))(hd:(x == ("__debug__":Str))=false:=by decide)(hcd:(x == ("__classdict__":Str))=false:=by decide)
  (hi:X.N[j]? = some y:=by rfl) (hx:Loc X.env.scope y:=by first | exact Or.inl rfl | exact Or.inr rfl) (hs:swapsWith (.Subscript (.Name x px) (.Constant (.str "line") k p2) p3) (some (.Name y py)) pos.line X.env=pure false:=by rfl) (hf:X.fn y=true\/X.env.scope.names.lookup y=some .local:=by first | exact .inl rfl | exact .inr rfl | assumption) :
  SmsR K X i0 (.Assign [.Name y py] (.Subscript (.Name x px) (.Constant (.str "line") k p2) p3) pos::rest) (O9 (L0 (G2 (l8 i0) (tC (.str "line"))) (G7 j)) u) (ao j mu) :=
 ⟨i8 (J7 hN hi hx (B8 (by omega) (D4 h0 hv hd hcd) u7 (λ_ _=>rfl)) hs hf) h.ps,uj h.ok⟩
theorem vx {k}{ap cp pl:Pos}{ta:TA}{ms:DE->M (List PyData)}(hK:X.K=K)(hu:X.A.units+65<cLine)(h:Eaq K X i0 es ta ms)(h0:X.N[i0]? = some x:=by rfl)(hv:Vis X.env.scope x:=by first | exact Or.inl rfl | exact Or.inr (Or.inl rfl) | exact Or.inr (Or.inr rfl))(hd:(x == ("__debug__":Str))=false:=by decide)(hcd:(x == ("__classdict__":Str))=false:=by decide)
  (hbase:attributeBase (.Subscript (.Name x px) (.Constant (.str "line") k p2) p3) "append" X.env (eval (.Subscript (.Name x px) (.Constant (.str "line") k p2) p3) X.env)=eval (.Subscript (.Name x px) (.Constant (.str "line") k p2) p3) X.env:=by rfl)
  (hfew:((backTo cp (starEach [.List es pl] X.env)).all (λx=>!x.1)&&(backToKw cp (keywordEach [] X.env)).all (λx=>x.1.isSome)
   && decide ([Expr.List es pl].length+([]:List Keyword).length+(if ([]:List Keyword).isEmpty then 0 else 1)<30))=true:=by rfl)
  (hline:(ap.endLine == cp.line)=true:=by rfl) (hst:starEach [.List es pl] X.env=(false,eval (.List es pl) X.env)::starEach [] X.env:=by rfl) (hplain:(backTo cp (starEach [] X.env)).any (·.1)=false:=by rfl)
  (hs:swapsWith (.Call (.Attribute (.Subscript (.Name x px) (.Constant (.str "line") k p2) p3) "append" ap) [.List es pl] [] cp) none pos.line X.env=pure false:=by rfl) :
  SmR K X i0 (.Expr (.Call (.Attribute (.Subscript (.Name x px) (.Constant (.str "line") k p2) p3) "append" ap) [.List es pl] [] cp) pos) (aC (tBM K "list" N3 (G2 (l8 i0) (tC (.str "line"))) (q4 (ax ta) C8))) (kK ms):=by
 subst hK
 exact⟨X2 (eY PySem.F.plainAttrs_list PySem.F.slot_list_append PySem.F.type_list_append F9 (B8 (by omega) (D4 h0 hv hd hcd) u7 (λ_ _=>rfl)) (h9 (L6 h.pa) j6 hst) hbase hfew hline hst hplain) hs,yg h.ok⟩
theorem vt {k}{ap cp pl:Pos}{ta:TA}{ms:DE->M (List PyData)}(hK:X.K=K)(hu:X.A.units+65<cLine)(h:Eaq K X i0 es ta ms)(h0:X.N[i0]? = some x:=by rfl)(hv:Vis X.env.scope x:=by first | exact Or.inl rfl | exact Or.inr (Or.inl rfl) | exact Or.inr (Or.inr rfl))(hd:(x == ("__debug__":Str))=false:=by decide)(hcd:(x == ("__classdict__":Str))=false:=by decide)
  (hbase:attributeBase (.Subscript (.Name x px) (.Constant (.str "book") k p2) p3) "append" X.env (eval (.Subscript (.Name x px) (.Constant (.str "book") k p2) p3) X.env)=eval (.Subscript (.Name x px) (.Constant (.str "book") k p2) p3) X.env:=by rfl)
  (hfew:((backTo cp (starEach [.List es pl] X.env)).all (λx=>!x.1)&&(backToKw cp (keywordEach [] X.env)).all (λx=>x.1.isSome)
   && decide ([Expr.List es pl].length+([]:List Keyword).length+(if ([]:List Keyword).isEmpty then 0 else 1)<30))=true:=by rfl)
  (hline:(ap.endLine == cp.line)=true:=by rfl) (hst:starEach [.List es pl] X.env=(false,eval (.List es pl) X.env)::starEach [] X.env:=by rfl) (hplain:(backTo cp (starEach [] X.env)).any (·.1)=false:=by rfl)
  (hs:swapsWith (.Call (.Attribute (.Subscript (.Name x px) (.Constant (.str "book") k p2) p3) "append" ap) [.List es pl] [] cp) none pos.line X.env=pure false:=by rfl) :
  SmR K X i0 (.Expr (.Call (.Attribute (.Subscript (.Name x px) (.Constant (.str "book") k p2) p3) "append" ap) [.List es pl] [] cp) pos) (aC (tBM K "list" N3 (G2 (l8 i0) (tC (.str "book"))) (q4 (ax ta) C8))) (kI ms):=by
 subst hK
 exact⟨X2 (eY PySem.F.plainAttrs_list PySem.F.slot_list_append PySem.F.type_list_append F9 (B8 (by omega) (D4 h0 hv hd hcd) u7 (λ_ _=>rfl)) (h9 (L6 h.pa) j6 hst) hbase hfew hline hst hplain) hs,xT h.ok⟩
end
end
section
section
variable [LamC]
local instance regI9:Feeds:=G5
variable {K:Fg}{X:Cx}{i0:Nat}{a b c e tg iter:Expr}{es:List Expr}{st:Stmt}{sts rest:List Stmt}{ta tb te:TE}{ma mb m:DE->M PyData}{t u:TS}{mt mu:DE->M Out}{pos pos' p p2 p3 p4 px py:Pos}{x y:Str}
def xt:PyData->Option (Option Int)
 | .none=>some none
 | .int i=>some (some i)
 | _=>none
def mkHouse:PyData->Option Mac
 | .tuple [.int h,c,.str u]=>(xt c).bind λc=>some ⟨h,c,u,[],[],0⟩
 | _=>none
theorem qF (hv:V)(l b:Addr):dg [] (A3 hv l b 0)=A3 hv l b 0:=by
 have e1:K6 ([]:List (Key×V)) (Sum.inr "house") hv=([(Sum.inr "house",hv)]:List (Key×V)):=bL _ rfl
 have e2:K6 ([(Sum.inr "house",hv)]:List (Key×V)) (Sum.inr "line") (V.ref l)=([(Sum.inr "house",hv),(Sum.inr "line",V.ref l)]:List (Key×V)):=bL _ (by rw[v9 (by rw[K2];exact mn1)];rfl)
 have e3:K6 ([(Sum.inr "house",hv),(Sum.inr "line",V.ref l)]:List (Key×V)) (Sum.inr "book") (V.ref b)=([(Sum.inr "house",hv),(Sum.inr "line",V.ref l),(Sum.inr "book",V.ref b)]:List (Key×V)) :=
  bL _ (by rw[v9 (by rw[K2];exact mn2),v9 (by rw[K2];exact mn4)];rfl)
 have e4:K6 ([(Sum.inr "house",hv),(Sum.inr "line",V.ref l),(Sum.inr "book",V.ref b)]:List (Key×V)) (Sum.inr "at") (V.int 0)=A3 hv l b 0 :=
  bL _ (by rw[v9 (by rw[K2];exact mn3),v9 (by rw[K2];exact mn5),v9 (by rw[K2];exact mn6)];rfl)
 show K6 (K6 (K6 (K6 ([]:List (Key×V)) (Sum.inr "house") hv) (Sum.inr "line") (V.ref l)) (Sum.inr "book") (V.ref b)) (Sum.inr "at") (V.int 0)=_
 rw[e1,e2,e3,e4]
def AB:TE:=xA [(tC (.str "house"),l8 0),(tC (.str "line"),ax C8),(tC (.str "book"),ax C8),(tC (.str "at"),tC (.int 0))]
theorem AW {vs:List V}{H:Hp}{Q:VK}{E:XK}{D:Ends}{N:List Str}(h:spN K mkHouse vs H Q E)(hD:D.rt=Q):pV AB D (L2.B5 N vs) H:=by
 obtain⟨B,hh,μ,v,rfl,bk,hd,hm,q⟩:=h
 obtain⟨hn,c,u,ec,rfl,rfl⟩:∃hn c u,True/\hh = .tuple [.int hn,fo c,.str u] /\ μ=⟨hn,c,u,[],[],0⟩:=by
  unfold mkHouse at hm
  split at hm
  .rename_i h1 c1 u1
   obtain⟨c2,e1,e2⟩:=bS9 hm
   cases e2
   refine⟨_,c2,_,trivial,?_,rfl⟩
   unfold xt at e1
   split at e1
   .cases e1;rfl
   .cases e1;rfl
   .cases e1
  .cases hm
 simp only[a7]at hd
 obtain⟨ha,xs,rfl,hq,hx⟩:=hd
 have hx:xs=[.int hn,qJ c,.str u]:=by
  simp only[a6,a7]at hx
  obtain⟨_,_,rfl,rfl,y,_,rfl,h2,_,_,rfl,rfl,rfl⟩:=hx
  cases c with
  | none =>
   have:y = .non:=by simpa only[fo,a7] using h2
   subst this;rfl
  | some i =>
   have:y = .int i:=by simpa only[fo,a7] using h2
   subst this;rfl
 subst hx
 show AB (L2.B5 N [.ref ha]) H D.rt
 rw[hD]
 intro p hp
 refine⟨_,rfl,Nat.zero_le _,λl hl=>⟨Nat.zero_le _,λb hb=>?_⟩⟩
 have pl:p≠l:=d6 b9 hl
 have lb:l≠b:=d6 b9 hb
 have hb1:=hb
 rw[a9 (Ne.symm lb)]at hb1
 have pb:p≠b:=d6 b9 hb1
 have hl0:H l=none:=by rw[a9 (Ne.symm pl)]at hl;exact hl
 have hb0:H b=none:=by rw[a9 (Ne.symm pb)]at hb1;exact hb1
 refine⟨by rw[a9 pb,a9 pl];exact b9,A3 (.ref ha) l b 0,rfl,by show 4<=15;decide,?_⟩
 rw[qF]
 have sm:d8 H (upd (upd (upd (upd H p (.dK [])) l (.lst [])) b (.lst [])) p (.dK (A3 (.ref ha) l b 0))):=λx o e=>by
  rw[a9 (d6 e hp),a9 (d6 e hb0),a9 (d6 e hl0),a9 (d6 e hp)];exact e
 refine q p [p,l,b] _ sm (λa hm=>?_) ⟨ha,l,b,[],[],rfl,?_,b9,hq.same λx o e=>?_,?_,?_,⟨rfl,λi x y h1 _=>by simp at h1⟩,⟨rfl,λi x y h1 _=>by simp at h1⟩⟩
 .simp at hm
  rcases hm with rfl | rfl | rfl
  .exact hp
  .exact hl0
  .exact hb0
 .simp[pl,pb,lb]
 .by_cases hB:x∈B
  .rw[v7 hB]at e;cases e
  .rw[e8 hB]at e
   rw[e8 λz=>?_]
   .exact sm x o e
   .simp at z
    rcases z with z | z | z | z
    .rw[z,hp]at e;cases e
    .rw[z,hl0]at e;cases e
    .rw[z,hb0]at e;cases e
    .exact hB z
 .rw[a9 (Ne.symm pl),a9 lb];exact b9
 .rw[a9 (Ne.symm pb)];exact b9
end
end
section
structure BS where
 line:List Per
 book:List Row
 stay:List Per
 turned:List Per
 gone:List Int
def dq:Option PyData->Option Bool
 | some (.bool b)=>some b
 | _=>none
theorem fi {o:Option PyData}{b:Bool}(h:dq o=some b):o=some (.bool b):=by
 unfold dq at h
 split at h
 .cases h;rfl
 .cases h
def jS:PyData:=.tuple [.str "first",.str "last",.str "short",.str "front"]
def fy (u:Str):Option Bool:=dq (inD false (.str u) jS)
def inB (some:PyData)(k:Nat):Option Bool:=dq (inD false (.int k) some)
def ck (kp tn:Bool)(t:Int)(k:Nat)(pk:Bool)(s:BS):Option BS :=
 (s.line[k]?).bind λp=>(ixN s.book.length p.n).bind λj=>(s.book[j]?).bind λrow =>
  let p1:Per:=if pk=true then⟨p.n,p.r,p.l-1,kp⟩ else p
  let row1:Row:=if pk=true then row else⟨row.w,row.t,row.m,row.q+1⟩
  some (if p1.l=0 then⟨s.line.set k p1,s.book.set j ⟨"gone",row1.t,some t,row1.q⟩,s.stay,s.turned,s.gone++[p.n]⟩
   else if pk=true/\tn=true then⟨s.line.set k p1,s.book.set j row1,s.stay,s.turned++[p1],s.gone⟩
   else⟨s.line.set k p1,s.book.set j row1,s.stay++[p1],s.turned,s.gone⟩)
def W9 (kp tn:Bool)(t:Int)(some:PyData):Nat->Nat->BS->Option BS
 | 0,_,s=>Option.some s
 | n+1,k,s=>(inB some k).bind λpk=>(ck kp tn t k pk s).bind λs'=>W9 kp tn t some n (k+1) s'
def kh (some:PyData)(μ:Mac):Option (List Int×Mac):=if μ.line.length<sizeLine/\(μ.line.length:Int)<2 ^ 62 then
 (fy μ.u).bind λkp=>(W9 kp (decide (μ.u = "turns")) (μ.t+1) some μ.line.length 0 ⟨μ.line,μ.book,[],[],[]⟩).bind λs=>Option.some (s.gone,{ μ with line:=s.stay++s.turned,book:=s.book,t:=μ.t+1 }) else none
section
variable (K:Fg)
def tML:TE:=G2 (l8 0) (tC (.str "line"))
def tMB:TE:=G2 (l8 0) (tC (.str "book"))
def yI:TE:=tOp (yU K) (G2 (l8 0) (tC (.str "house"))) (tC (.int 2))
def tP (i:Int):TE:=tOp (oV K) (l8 8) (tC (.int i))
def tR (i:Int):TE:=tOp (oV K) (l8 9) (tC (.int i))
def tIn:TT:=bQ (tOp (rD2 K (inD false)) (l8 7) (l8 3))
def jB (i:Nat)(te:TE):TS:=aC (tBM K "list" N3 (l8 i) (q4 te C8))
def xD:TS :=
 O9 (L0 (tOp (oV K) tML (l8 7)) (G7 8))
 (O9 (L0 (tOp (oV K) tMB (tP K 0)) (G7 9))
 (O9 (kB (tIn K)
   (O9 (L0 (tOp (rI0 λi j=>.int (i-j)) (tP K 2) (tC (.int 1))) (kj (l8 8) (tC (.int 2)) dw))
    (L0 (tOp (rD2 K (inD false)) (yI K) (M7 jS)) (kj (l8 8) (tC (.int 3)) dw)))
   (L0 (tOp (rI0 λi j=>.int (i+j)) (tR K 3) (tC (.int 1))) (kj (l8 9) (tC (.int 3)) dw)))
  (kB (bQ (tOp rEq (tP K 2) (tC (.int 0))))
   (O9 (L0 (tC (.str "gone")) (kj (l8 9) (tC (.int 0)) dw))
   (O9 (L0 (G2 (l8 0) (tC (.str "at"))) (kj (l8 9) (tC (.int 2)) dw))
    (jB K 6 (tP K 0))))
   (kB (tY (tIn K) (bQ (tOp rEq (yI K) (tC (.str "turns")))))
    (jB K 5 (l8 8)) (jB K 4 (l8 8))))))
def zM:TS :=
 O9 (qU (l8 0) (tC (.str "at")) (tOp (rI0 λi j=>.int (i+j)) (G2 (l8 0) (tC (.str "at"))) (tC (.int 1))))
 (O9 (L0 (ax C8) (G7 4)) (O9 (L0 (ax C8) (G7 5)) (O9 (L0 (ax C8) (G7 6))
 (O9 (qh (tF (q4 (tCB (yp K) (q4 tML C8)) C8)) (G7 7) (xD K))
 (O9 (qU (l8 0) (tC (.str "line")) (tOp AE (l8 4) (l8 5)))
  (pV (tG (q4 (l8 2) (q4 (l8 6) C8)))))))))
end
structure LP (K:Fg) (B A:List Addr) (Hs:Hp) (d ha l b:Addr) (ps rs:List Addr) (st tu go:Addr) (h:Int) (c:Option Int) (u:Str) (t:Int) (sa ta:List Addr) (s:BS) (H:Hp):Prop where
 mi:MacIn K (hid H B) H d ⟨h,c,u,s.line,s.book,t⟩ ha l b ps rs
 hst:H st=some (.lst (sa.map V.ref))
 htu:H tu=some (.lst (ta.map V.ref))
 hgo:H go=some (.lst (s.gone.map V.int))
 so:v8 bH H sa s.stay
 to:v8 bH H ta s.turned
 kp:∀x o,Hs x=some o->x ∉ A->H x=some o
 bk:BOk H B
section
variable {K:Fg}{B A:List Addr}{Hs:Hp}{d ha l b:Addr}{ps rs:List Addr}{st tu go:Addr}{h:Int}{c:Option Int}{u:Str}{t:Int}{sa ta:List Addr}{s:BS}{H H':Hp}
theorem LP.same (L:LP K B A Hs d ha l b ps rs st tu go h c u t sa ta s H)(sm:d8 H H'):LP K B A Hs d ha l b ps rs st tu go h c u t sa ta s H':=by
 have ob:∀{α:Type} {f:α->List V} {qs:List Addr} {xs:List α},v8 f H qs xs->v8 f H' qs xs:=λo=>⟨o.1,λi a x h1 h2=>sm _ _ (o.2 i a x h1 h2)⟩
 exact⟨⟨L.mi.nd,sm _ _ L.mi.hd,L.mi.hh.same ((Kp.same (fp:=[]) sm).hid (by simp)),sm _ _ L.mi.hl,sm _ _ L.mi.hb,ob L.mi.pl,ob L.mi.pb⟩,sm _ _ L.hst,sm _ _ L.htu,sm _ _ L.hgo,ob L.so,ob L.to,λx o e n=>sm _ _ (L.kp x o e n),λx hx=>by obtain⟨o,e⟩:=L.bk x hx;exact⟨o,sm _ _ e⟩⟩
end
theorem iV {xs:List Addr}(nd:xs.Nodup){i j:Nat}{a:Addr}(h1:xs[i]? = some a)(h2:xs[j]? = some a):i=j:=by
 obtain⟨hi,ei⟩:=List.getElem?_eq_some_iff.mp h1
 obtain⟨hj,ej⟩:=List.getElem?_eq_some_iff.mp h2
 rcases Nat.lt_trichotomy i j with h | h | h
 .exact absurd (ei.trans ej.symm) (List.pairwise_iff_getElem.mp nd i j hi hj h)
 .exact h
 .exact absurd (ej.trans ei.symm) (List.pairwise_iff_getElem.mp nd j i hj hi h)
theorem v8.set {α:Type}{f:α->List V}{H:Hp}{ps:List Addr}{xs:List α}{k:Nat}{a:Addr}{x:α}(o:v8 f H ps xs)(ha:ps[k]? = some a)(nd:ps.Nodup):v8 f (upd H a (.lst (f x))) ps (xs.set k x):=by
 refine⟨by simp[o.1],λi b y h1 h2=>?_⟩
 obtain⟨hk,ek⟩:=List.getElem?_eq_some_iff.mp ha
 obtain⟨hi,ei⟩:=List.getElem?_eq_some_iff.mp h1
 by_cases hik:k=i
 .subst hik
  rw[ha]at h1;cases h1
  rw[List.getElem?_set_self (by rw[<-o.1];exact hk)]at h2
  cases h2
  exact b9
 .rw[List.getElem?_set_ne hik]at h2
  have hne:b≠a:=λz=>hik (iV nd ha (z▸h1))
  rw[a9 hne]
  exact o.2 i b y h1 h2
theorem v8.other {α:Type}{f:α->List V}{H:Hp}{ps:List Addr}{xs:List α}{a:Addr}{v:HO}(o:v8 f H ps xs)(n:a ∉ ps):v8 f (upd H a v) ps xs:=o.keep λb hb=>a9 λz=>n (z▸hb)
end
section
section
variable {K:Fg}{B A:List Addr}{Hs:Hp}{d ha l b:Addr}{ps rs:List Addr}{st tu go:Addr}{h:Int}{c:Option Int}{u:Str}{t:Int}{sa ta:List Addr}{s:BS}{H H':Hp}{a r:Addr}{k j:Nat}
structure Apart (B A:List Addr) (Hs:Hp) (d l b:Addr) (ps rs:List Addr) (st tu go:Addr):Prop where
 nd:(st::tu::go::d::l::b::(ps++rs)).Nodup
 hid:∀x∈st::tu::go::d::l::b::(ps++rs),x∈B
 eA:A=d::l::b::(ps++rs)
 new:Hs st=none/\Hs tu=none/\Hs go=none
theorem Apart.per (P:Apart B A Hs d l b ps rs st tu go)(ha:ps[k]? = some a):a ∉ rs/\a≠st/\a≠tu/\a≠go/\a≠d/\a≠l/\a≠b/\a∈A/\a∈B:=by
 have hm:=List.mem_of_getElem? ha
 have:=P.nd
 have hb:=P.hid a (by simp[hm])
 rw[P.eA]
 simp[List.nodup_append]at this
 refine⟨?_,?_,?_,?_,?_,?_,?_,by simp[hm],hb⟩ <;> grind
theorem Apart.row (P:Apart B A Hs d l b ps rs st tu go)(hr:rs[j]? = some r):r ∉ ps/\r≠st/\r≠tu/\r≠go/\r≠d/\r≠l/\r≠b/\r∈A/\r∈B:=by
 have hm:=List.mem_of_getElem? hr
 have:=P.nd
 have hb:=P.hid r (by simp[hm])
 rw[P.eA]
 simp[List.nodup_append]at this
 refine⟨?_,?_,?_,?_,?_,?_,?_,by simp[hm],hb⟩ <;> grind
theorem Apart.nps (P:Apart B A Hs d l b ps rs st tu go):ps.Nodup/\rs.Nodup:=by
 have:=P.nd
 simp[List.nodup_append]at this
 grind
theorem Apart.lists (P:Apart B A Hs d l b ps rs st tu go):(∀x∈[st,tu,go],x ∉ A/\x∈B)/\st≠tu/\st≠go/\tu≠go:=by
 have h1:=P.nd
 have h2:=P.hid
 rw[P.eA]
 refine⟨λx hx=>⟨?_,h2 x ?_⟩,?_,?_,?_⟩
 .simp at hx h1 ⊢;grind
 .simp at hx ⊢;grind
 all_goals (simp at h1;grind)
theorem iD {x:Addr}{o:HO}(h:BOk H B):BOk (upd H x o) B:=λy hy=>by
 by_cases z:y=x
 .subst z;exact⟨_,b9⟩
 .rw[a9 z];exact h y hy
theorem LP.setP {q:Per}(L:LP K B A Hs d ha l b ps rs st tu go h c u t sa ta s H)(P:Apart B A Hs d l b ps rs st tu go)(hp:ps[k]? = some a)(n1:a ∉ sa)(n2:a ∉ ta):LP K B A Hs d ha l b ps rs st tu go h c u t sa ta ⟨s.line.set k q,s.book,s.stay,s.turned,s.gone⟩ (upd H a (.lst (bH q))):=by
 obtain⟨m1,m2,m3,m4,m5,m6,m7,m8,m9⟩:=P.per hp
 refine⟨⟨L.mi.nd,by rw[a9 (Ne.symm m5)];exact L.mi.hd,by rw[W6 m9];exact L.mi.hh,by rw[a9 (Ne.symm m6)];exact L.mi.hl,by rw[a9 (Ne.symm m7)];exact L.mi.hb,v8.set L.mi.pl hp P.nps.1,v8.other L.mi.pb m1⟩,
  by rw[a9 (Ne.symm m2)];exact L.hst,by rw[a9 (Ne.symm m3)];exact L.htu,by rw[a9 (Ne.symm m4)];exact L.hgo,L.so.other n1,L.to.other n2,λx o e n=>(a9 (λz=>n (by rw[z];exact m8))).trans (L.kp x o e n),iD L.bk⟩
theorem LP.setR {q:Row}(L:LP K B A Hs d ha l b ps rs st tu go h c u t sa ta s H)(P:Apart B A Hs d l b ps rs st tu go)(hr:rs[j]? = some r)(n1:r ∉ sa)(n2:r ∉ ta):LP K B A Hs d ha l b ps rs st tu go h c u t sa ta ⟨s.line,s.book.set j q,s.stay,s.turned,s.gone⟩ (upd H r (.lst (nq q))):=by
 obtain⟨m1,m2,m3,m4,m5,m6,m7,m8,m9⟩:=P.row hr
 refine⟨⟨L.mi.nd,by rw[a9 (Ne.symm m5)];exact L.mi.hd,by rw[W6 m9];exact L.mi.hh,by rw[a9 (Ne.symm m6)];exact L.mi.hl,by rw[a9 (Ne.symm m7)];exact L.mi.hb,v8.other L.mi.pl m1,v8.set L.mi.pb hr P.nps.2⟩,
  by rw[a9 (Ne.symm m2)];exact L.hst,by rw[a9 (Ne.symm m3)];exact L.htu,by rw[a9 (Ne.symm m4)];exact L.hgo,L.so.other n1,L.to.other n2,λx o e n=>(a9 (λz=>n (by rw[z];exact m8))).trans (L.kp x o e n),iD L.bk⟩
theorem LP.other {x:Addr}{o:HO}(L:LP K B A Hs d ha l b ps rs st tu go h c u t sa ta s H)(nA:x ∉ A)(eA:A=d::l::b::(ps++rs))(hx:Hs x=none)(xB:x∈B)(sub:∀y∈sa++ta,y∈ps):MacIn K (hid (upd H x o) B) (upd H x o) d ⟨h,c,u,s.line,s.book,t⟩ ha l b ps rs/\v8 bH (upd H x o) sa s.stay/\v8 bH (upd H x o) ta s.turned/\(∀y o',Hs y=some o'->y ∉ A->(upd H x o) y=some o')/\BOk (upd H x o) B:=by
 have ne:∀y∈A,y≠x:=λy hy z=>nA (z▸hy)
 have inA:∀y∈ps,y∈A:=λy hy=>by rw[eA];simp[hy]
 refine⟨?_,L.so.other λz=>nA (inA _ (sub _ (List.mem_append.mpr (.inl z)))),L.to.other λz=>nA (inA _ (sub _ (List.mem_append.mpr (.inr z)))),λy o' e n=>by rw[a9 λz=>by rw[z,hx]at e;cases e];exact L.kp y o' e n,iD L.bk⟩
 rw[W6 xB]
 exact L.mi.keep (d8.refl _) λy hy=>a9 (ne y (eA▸hy))
theorem yW {D:Ends}{σ:St}{v3:V}{sm:PyData}{kb pk:Bool}{s':BS}(L:LP K B A Hs d ha l b ps rs st tu go h c u t sa ta s H)(P:Apart B A Hs d l b ps rs st tu go)
  (hnd:(sa++ta).Nodup) (htk:∀x∈sa++ta,x∈ps.take k) (hk:k<ps.length) (h0:σ[0]? = some (some (.ref d))) (h3:σ[3]? = some (some v3)) (h4:σ[4]? = some (some (.ref st))) (h5:σ[5]? = some (some (.ref tu))) (h6:σ[6]? = some (some (.ref go))) (h7:σ[7]? = some (some (.int k))) (hl10:σ.length=10)
  (hv3:∀H',(∀x o,Hs x=some o->x ∉ A->H' x=some o)->a7 K (hid H' B) sm v3) (hkp:fy u=some kb) (hpk:inB sm k=some pk) (hst:ck kb (decide (u = "turns")) t k pk s=some s') (hlen:s.stay.length+s.turned.length+s.gone.length<sizeLine)
  (fin:∀σ' H' sa' ta',LP K B A Hs d ha l b ps rs st tu go h c u t sa' ta' s' H'->(sa'++ta').Nodup->(∀x∈sa'++ta',x∈ps.take (k+1))->s'.line.length=s.line.length->s'.stay.length+s'.turned.length+s'.gone.length=s.stay.length+s.turned.length+s.gone.length+1->(∀i,i<7->σ'[i]? = σ[i]?)->σ'.length=10->D.nx σ' H'):xD K D σ H:=by
 obtain⟨p,hp,hst⟩:=bS9 hst
 obtain⟨j,hj,hst⟩:=bS9 hst
 obtain⟨row,hrow,hst⟩:=bS9 hst
 obtain⟨a,hpa⟩:∃a,ps[k]? = some a:=⟨ps[k],by simp[hk]⟩
 have hjl:=(List.getElem?_eq_some_iff.mp hrow).1
 obtain⟨r,hrj⟩:∃r,rs[j]? = some r:=⟨rs[j]'(by rw[L.mi.pb.1];exact hjl),by simp[L.mi.pb.1]⟩
 have nat:∀x∈sa++ta,x≠a:=λx hx z=>by
  subst z
  have:=htk x hx
  obtain⟨i,hi⟩:=List.mem_iff_getElem?.mp this
  rw[List.getElem?_take]at hi
  split at hi
  .rename_i hik
   exact absurd (iV P.nps.1 hi hpa) (by omega)
  .cases hi
 have sub:∀x∈sa++ta,x∈ps:=λx hx=>List.mem_of_mem_take (htk x hx)
 have n1:a ∉ sa:=λz=>nat a (List.mem_append.mpr (.inl z)) rfl
 have n2:a ∉ ta:=λz=>nat a (List.mem_append.mpr (.inr z)) rfl
 obtain⟨rp,_⟩:=P.row hrj
 have n3:r ∉ sa:=λz=>rp (sub r (List.mem_append.mpr (.inl z)))
 have n4:r ∉ ta:=λz=>rp (sub r (List.mem_append.mpr (.inr z)))
 obtain⟨lb,ne1,ne2,ne3⟩:=P.lists
 have hHa:=L.mi.pl.2 k a p hpa hp
 have at1:atI (ps.map V.ref) (k:Int)=some (.ref a):=bE (by rw[List.getElem?_map,hpa];rfl)
 have at2:atI (rs.map V.ref) p.n=some (.ref r):=by
  unfold atI
  rw[List.length_map,L.mi.pb.1,show ixN s.book.length p.n=some j from hj,Option.bind_some,List.getElem?_map,hrj];rfl
 refine⟨_,h0,d,_,rfl,ai L.mi.hd,_,h7,l,_,k,_,rfl,rfl,SqL.of L.mi.hl,at1,?_⟩
 have g8:((σ.set 8 (some (.ref a))))[8]? = some (some (.ref a)):=List.getElem?_set_self (by omega)
 refine⟨_,(List.getElem?_set_ne (by decide)).trans h0,d,_,rfl,jm L.mi.hd,_,g8,a,_,0,_,rfl,rfl,SqL.of hHa,rfl,b,_,p.n,_,rfl,rfl,SqL.of L.mi.hb,at2,?_⟩
 have q9:(((σ.set 8 (some (.ref a))).set 9 (some (.ref r))))[9]? = some (some (.ref r)):=List.getElem?_set_self (by simp;omega)
 have q8:(((σ.set 8 (some (.ref a))).set 9 (some (.ref r))))[8]? = some (some (.ref a)):=(List.getElem?_set_ne (by decide)).trans g8
 have qi:∀i,i<8->(((σ.set 8 (some (.ref a))).set 9 (some (.ref r))))[i]? = σ[i]?:=λi hi=>by rw[List.getElem?_set_ne (by omega),List.getElem?_set_ne (by omega)]
 have ql:((σ.set 8 (some (.ref a))).set 9 (some (.ref r))).length=10:=by simp[hl10]
 show O9 _ _ D ((σ.set 8 (some (V.ref a))).set 9 (some (V.ref r))) H
 generalize (σ.set 8 (some (V.ref a))).set 9 (some (V.ref r)) = τ at q9 q8 qi ql ⊢
 have t0:=(qi 0 (by decide)).trans h0
 have t3:=(qi 3 (by decide)).trans h3
 have t4:=(qi 4 (by decide)).trans h4
 have t5:=(qi 5 (by decide)).trans h5
 have t6:=(qi 6 (by decide)).trans h6
 have t7:=(qi 7 (by decide)).trans h7
 have isin:∀{s0:BS} {H1:Hp} {Q:Bool->Hp->Prop},LP K B A Hs d ha l b ps rs st tu go h c u t sa ta s0 H1->(∀H2,LP K B A Hs d ha l b ps rs st tu go h c u t sa ta s0 H2->Q pk H2)->tIn K τ H1 Q:=λ{s0 H1 Q} L1 q =>
  ⟨_,t7,_,t3,[],B,.int k,sm,.bool pk,L1.bk,aG a7.int (by simp),aG (hv3 H1 L1.kp) (by simp),fi hpk,λv H2 s2 hv=>⟨pk,by simpa only[a7] using hv,q H2 (L1.same s2)⟩⟩
 have rest:∀{s1:BS} {H1:Hp} {p1:Per} {row1:Row},LP K B A Hs d ha l b ps rs st tu go h c u t sa ta s1 H1->s1.line[k]? = some p1->s1.book[j]? = some row1->p1.n=p.n->s1.stay=s.stay->s1.turned=s.turned->s1.gone=s.gone->s1.line.length=s.line.length ->
   s'=(if p1.l=0 then⟨s1.line,s1.book.set j ⟨"gone",row1.t,some t,row1.q⟩,s1.stay,s1.turned,s1.gone++[p.n]⟩
    else if pk=true/\decide (u = "turns")=true then⟨s1.line,s1.book,s1.stay,s1.turned++[p1],s1.gone⟩ else⟨s1.line,s1.book,s1.stay++[p1],s1.turned,s1.gone⟩) ->
   kB (bQ (tOp rEq (tP K 2) (tC (.int 0))))
   (O9 (L0 (tC (.str "gone")) (kj (l8 9) (tC (.int 0)) dw))
   (O9 (L0 (G2 (l8 0) (tC (.str "at"))) (kj (l8 9) (tC (.int 2)) dw))
    (jB K 6 (tP K 0))))
   (kB (tY (tIn K) (bQ (tOp rEq (yI K) (tC (.str "turns")))))
    (jB K 5 (l8 8)) (jB K 4 (l8 8))) D τ H1:=λ{s1 H1 p1 row1} L1 e1 e2 en es et eg el es'=>by
  have hHa1:=L1.mi.pl.2 k a p1 hpa e1
  have hHr1:=L1.mi.pb.2 j r row1 hrj e2
  have tk1:∀x∈sa++ta,x∈ps.take (k+1):=λx hx=>List.take_subset_take_left ps (Nat.le_succ k) (htk x hx)
  have atk:a∈ps.take (k+1):=by
   refine List.mem_iff_getElem?.mpr ⟨k,?_⟩
   rw[List.getElem?_take,if_pos (Nat.lt_succ_self k)];exact hpa
  refine⟨_,q8,a,_,2,_,rfl,rfl,SqL.of hHa1,rfl,rfl,_,rfl,jO (λhz=>?_) (λhz=>?_)⟩
  .have hz:p1.l=0:=by simpa using hz
   rw[if_pos hz]at es'
   refine⟨_,q9,r,_,0,0,rfl,rfl,hHr1,rfl,?_⟩
   have L2:=L1.setR (q:=⟨"gone",row1.t,row1.m,row1.q⟩) P hrj n3 n4
   have hHr2:(upd H1 r (.lst ((nq row1).set 0 (.str "gone")))) r=some (.lst (nq ⟨"gone",row1.t,row1.m,row1.q⟩)):=b9
   refine⟨_,t0,d,_,rfl,sI L2.mi.hd,_,q9,r,_,2,2,rfl,rfl,hHr2,rfl,?_⟩
   have L3:=L2.setR (q:=⟨"gone",row1.t,some t,row1.q⟩) P hrj n3 n4
   have hHa3:=L3.mi.pl.2 k a p1 hpa e1
   refine⟨_,t6,.inl ⟨rfl,_,SqL.of L3.hgo⟩,_,q8,a,_,0,_,rfl,rfl,SqL.of hHa3,rfl,go,_,_,rfl,rfl,L3.hgo,by rw[List.length_map,eg];omega,?_⟩
   obtain⟨z1,z2,z3,z4,z5⟩:=L3.other (o:=.lst (s1.gone.map V.int++[.int p1.n])) (lb go (by simp)).1 P.eA P.new.2.2 (lb go (by simp)).2 sub
   refine fin τ _ sa ta ?_ hnd tk1 (by rw[es'];exact el) (by rw[es'];simp[es,et,eg];omega) (λi hi=>qi i (by omega)) ql
   rw[es']
   refine⟨by have z:=z1;simp only[List.set_set]at z;exact z,by rw[a9 ne2];exact L3.hst,by rw[a9 ne3];exact L3.htu,?_,z2,z3,z4,z5⟩
   show upd _ go _ go=_
   rw[b9,List.map_append,<-en];rfl
  .have hz:¬p1.l=0:=by simpa using hz
   rw[if_neg hz]at es'
   have toS:∀{H2:Hp},LP K B A Hs d ha l b ps rs st tu go h c u t sa ta s1 H2->¬(pk=true/\decide (u = "turns")=true)->jB K 4 (l8 8) D τ H2:=λ{H2} L2 hn=>by
    rw[if_neg hn]at es'
    refine⟨_,t4,.inl ⟨rfl,_,SqL.of L2.hst⟩,_,q8,st,_,_,rfl,rfl,L2.hst,by rw[List.length_map,L2.so.1,es];omega,?_⟩
    obtain⟨z1,z2,z3,z4,z5⟩:=L2.other (o:=.lst (sa.map V.ref++[.ref a])) (lb st (by simp)).1 P.eA P.new.1 (lb st (by simp)).2 sub
    refine fin τ _ (sa++[a]) ta ?_ (by simp[List.nodup_append]at hnd ⊢;grind) (λx hx=>by
     simp only[List.mem_append,List.mem_singleton]at hx
     rcases hx with (hx | hx) | hx
     .exact tk1 x (List.mem_append.mpr (.inl hx))
     .exact hx▸atk
     .exact tk1 x (List.mem_append.mpr (.inr hx))) (by rw[es'];exact el) (by rw[es'];simp[es,et,eg];omega) (λi hi=>qi i (by omega)) ql
    rw[es']
    refine⟨z1,by rw[b9,List.map_append];rfl,by rw[a9 (Ne.symm ne1)];exact L2.htu,by rw[a9 (Ne.symm ne2)];exact L2.hgo,z2.snoc ?_,z3,z4,z5⟩
    rw[a9 (P.per hpa).2.1];exact L2.mi.pl.2 k a p1 hpa e1
   have toT:∀{H2:Hp},LP K B A Hs d ha l b ps rs st tu go h c u t sa ta s1 H2->(pk=true/\decide (u = "turns")=true)->jB K 5 (l8 8) D τ H2:=λ{H2} L2 hn=>by
    rw[if_pos hn]at es'
    refine⟨_,t5,.inl ⟨rfl,_,SqL.of L2.htu⟩,_,q8,tu,_,_,rfl,rfl,L2.htu,by rw[List.length_map,L2.to.1,et];omega,?_⟩
    obtain⟨z1,z2,z3,z4,z5⟩:=L2.other (o:=.lst (ta.map V.ref++[.ref a])) (lb tu (by simp)).1 P.eA P.new.2.1 (lb tu (by simp)).2 sub
    refine fin τ _ sa (ta++[a]) ?_ (by simp[List.nodup_append]at hnd ⊢;grind) (λx hx=>by
     simp only[List.mem_append,List.mem_singleton]at hx
     rcases hx with hx | hx | hx
     .exact tk1 x (List.mem_append.mpr (.inl hx))
     .exact tk1 x (List.mem_append.mpr (.inr hx))
     .exact hx▸atk) (by rw[es'];exact el) (by rw[es'];simp[es,et,eg];omega) (λi hi=>qi i (by omega)) ql
    rw[es']
    refine⟨z1,by rw[a9 ne1];exact L2.hst,by rw[b9,List.map_append];rfl,by rw[a9 (Ne.symm ne3)];exact L2.hgo,z2,z3.snoc ?_,z4,z5⟩
    rw[a9 (P.per hpa).2.2.1];exact L2.mi.pl.2 k a p1 hpa e1
   refine isin L1 λH2 L2=>?_
   cases pk with
   | false=>exact qO (qO (toS L2 (by simp)))
   | true =>
    refine Az ⟨_,t0,d,_,rfl,eG L2.mi.hd,ha,_,2,_,rfl,rfl,L2.mi.hh.same d0,rfl,rfl,_,rfl,?_⟩
    refine jO (λhc=>toT L2 ⟨rfl,?_⟩) (λhc=>toS L2 λhc2=>hc ?_)
    .simpa using hc
    .simpa using hc2.2
 refine isin L λH1 L1=>?_
 cases pk with
 | false =>
  refine qO ?_
  have hHr1:=L1.mi.pb.2 j r row hrj hrow
  refine⟨_,q9,r,_,3,_,rfl,rfl,SqL.of hHr1,rfl,row.q,1,rfl,rfl,_,q9,r,_,3,3,rfl,rfl,hHr1,rfl,?_⟩
  have L2:=L1.setR (q:=⟨row.w,row.t,row.m,row.q+1⟩) P hrj n3 n4
  have hpl:k<s.line.length:=(List.getElem?_eq_some_iff.mp hp).1
  refine rest (p1:=p) (row1:=⟨row.w,row.t,row.m,row.q+1⟩) L2 hp (by rw[List.getElem?_set_self hjl]) rfl rfl rfl rfl rfl ?_
  have hst:=Option.some.inj hst
  rw[<-hst]
  have e0:s.line.set k p=s.line:=by
   have:=(List.getElem?_eq_some_iff.mp hp).2
   rw[<-this,List.set_getElem_self]
  simp[e0]
 | true =>
  refine Az ?_
  have hHa1:=L1.mi.pl.2 k a p hpa hp
  have hpl:k<s.line.length:=(List.getElem?_eq_some_iff.mp hp).1
  refine⟨_,q8,a,_,2,_,rfl,rfl,SqL.of hHa1,rfl,p.l,1,rfl,rfl,_,q8,a,_,2,2,rfl,rfl,hHa1,rfl,?_⟩
  have L2:=L1.setP (q:=⟨p.n,p.r,p.l-1,p.b⟩) P hpa n1 n2
  have hHa2:(upd H1 a (.lst ((bH p).set 2 (.int (p.l-1))))) a=some (.lst (bH ⟨p.n,p.r,p.l-1,p.b⟩)):=b9
  refine⟨_,t0,d,_,rfl,eG L2.mi.hd,ha,_,2,_,rfl,rfl,L2.mi.hh.same d0,rfl,P6 (by show 4<=1000;decide) |> Nat.le_of_lt,λq hq=>⟨[],B,.str u,jS,.bool kb,(L2.same (d8.upd hq)).bk,aG a7.st (by simp),aG (N2 L2.bk hq (.cons a7.st (.cons a7.st (.cons a7.st (.cons a7.st a6.nil))))) (by simp),fi hkp,λv H4 s4 hv=>?_⟩⟩
  have hv:v = .bl kb:=by simpa only[a7] using hv
  subst hv
  have L4:=(L2.same (d8.upd hq)).same s4
  have hHa4:=L4.mi.pl.2 k a ⟨p.n,p.r,p.l-1,p.b⟩ hpa (List.getElem?_set_self hpl)
  refine⟨_,q8,a,_,3,3,rfl,rfl,hHa4,rfl,?_⟩
  have L5:=L4.setP (q:=⟨p.n,p.r,p.l-1,kb⟩) P hpa n1 n2
  refine rest (p1:=⟨p.n,p.r,p.l-1,kb⟩) (row1:=row) L5 (List.getElem?_set_self (by simpa using hpl)) hrow rfl rfl rfl rfl (by simp) ?_
  have hst:=Option.some.inj hst
  rw[<-hst]
  have e0:s.book.set j row=s.book:=by
   have:=(List.getElem?_eq_some_iff.mp hrow).2
   rw[<-this,List.set_getElem_self]
  simp[e0]
end
end
section
def nG (E:DE)(i:Nat):Option PyData:=match E[i]? with
 | some (some (.dat d))=>some d
 | _=>none
theorem fN {E:DE}{i:Nat}{d:PyData}(h:nG E i=some d):E[i]? = some (some (.dat d)):=by
 unfold nG at h
 split at h
 .rename_i hx;cases h;exact hx
 .cases h
section
variable [LamC]
local instance regI10:Feeds:=G5
variable {K:Fg}
def oA:DE->M Out:=λE μ=>(nG E 2).bind λlost=>(nG E 3).bind λsm=>if E.length=10 then(kh sm μ).bind λz=>some (.rt (.tuple [lost,.list (z.1.map PyData.int)]),z.2) else none
theorem eJ {H:Hp}:∀(ns:List Int),a6 K H (ns.map PyData.int) (ns.map V.int)
 | []=>a6.nil
 | n::ns=>.cons a7.int (eJ ns)
theorem yn:TSm K 0 (zM K) oA:=λd B0 A0 H0 B A E μ σ H D r μ' S e q=>by
 obtain⟨lost,e2,e⟩:=bS9 e
 obtain⟨sm,e3,e⟩:=bS9 e
 have e2:=fN e2
 have e3:=fN e3
 .split at e
  .rename_i hE
   obtain⟨⟨gn,μ1⟩,eb,e⟩:=bS9 e
   cases e
   unfold kh at eb
   split at eb
   .rename_i hsz
    obtain⟨kb,ekb,eb⟩:=bS9 eb
    obtain⟨sE,ego,eb⟩:=bS9 eb
    cases eb
    obtain⟨ha,l,b,ps,rs,ea,hm⟩:=S.rg
    obtain⟨v2,w2,dv2⟩:=S.I.loc 2 _ e2
    obtain⟨v3,w3,dv3⟩:=S.I.loc 3 _ e3
    have dv2:a7 K (hid H B) lost v2:=dv2
    have dv3:a7 K (hid H B) sm v3:=dv3
    have h0:=S.at0
    have hl10:σ.length=10:=by rw[<-S.I.ln];exact hE
    have inA:∀x∈d::l::b::(ps++rs),x∈A:=λx hx=>ea▸hx
    refine⟨_,h0,d,_,rfl,sI hm.hd,μ.t,1,rfl,rfl,_,h0,d,_,rfl,AH (μ.t+1) hm.hd,?_⟩
    refine⟨Nat.zero_le _,λst hst=>⟨Nat.zero_le _,λtu htu=>⟨Nat.zero_le _,λgo hgo=>?_⟩⟩⟩
    have nd:=hm.nd
    have pres:∀x∈A,∃o,(upd H d (.dK (A3 (.ref ha) l b (μ.t+1)))) x=some o:=λx hx=>by
     by_cases z:x=d
     .subst z;exact⟨_,b9⟩
     .rw[a9 z];exact Regs.has S.rg x hx
    have nst:st ∉ A:=λz=>by obtain⟨o,eo⟩:=pres st z;rw[hst]at eo;cases eo
    have sdn:st≠d:=λz=>nst (z▸inA d (by simp))
    have Hst:H st=none:=by rw[a9 sdn]at hst;exact hst
    have tus:tu≠st:=(d6 b9 htu).symm
    have htu1:=htu
    rw[a9 tus]at htu1
    have ntu:tu ∉ A:=λz=>by obtain⟨o,eo⟩:=pres tu z;rw[htu1]at eo;cases eo
    have tdn:tu≠d:=λz=>ntu (z▸inA d (by simp))
    have Htu:H tu=none:=by rw[a9 tdn]at htu1;exact htu1
    have gtn:go≠tu:=(d6 b9 hgo).symm
    have hgo1:=hgo
    rw[a9 gtn]at hgo1
    have gsn:go≠st:=(d6 b9 hgo1).symm
    rw[a9 gsn]at hgo1
    have ngo:go ∉ A:=λz=>by obtain⟨o,eo⟩:=pres go z;rw[hgo1]at eo;cases eo
    have gdn:go≠d:=λz=>ngo (z▸inA d (by simp))
    have Hgo:H go=none:=by rw[a9 gdn]at hgo1;exact hgo1
    have Ap:Apart (st::tu::go::B) A H d l b ps rs st tu go:=by
     refine⟨?_,λx hx=>?_,ea,Hst,Htu,Hgo⟩
     .rw[ea]at nst ntu ngo
      refine List.nodup_cons.mpr ⟨?_,List.nodup_cons.mpr ⟨?_,List.nodup_cons.mpr ⟨ngo,nd⟩⟩⟩
      .intro z
       rcases List.mem_cons.mp z with z | z
       .exact tus z.symm
       .rcases List.mem_cons.mp z with z | z
        .exact gsn z.symm
        .exact nst z
      .intro z
       rcases List.mem_cons.mp z with z | z
       .exact gtn z.symm
       .exact ntu z
     .rcases List.mem_cons.mp hx with z | z
      .simp[z]
      .rcases List.mem_cons.mp z with z | z
       .simp[z]
       .rcases List.mem_cons.mp z with z | z
        .simp[z]
        .exact List.mem_cons_of_mem _ (List.mem_cons_of_mem _ (List.mem_cons_of_mem _ (S.aB x (inA x z)).1))
    have Hx:∀x,x≠d->x≠st->x≠tu->x≠go->(upd (upd (upd (upd H d (.dK (A3 (.ref ha) l b (μ.t+1)))) st (.lst [])) tu (.lst [])) go (.lst [])) x=H x:=λx n1 n2 n3 n4=>by rw[a9 n4,a9 n3,a9 n2,a9 n1]
    have g4:(upd (upd (upd (upd H d (.dK (A3 (.ref ha) l b (μ.t+1)))) st (.lst [])) tu (.lst [])) go (.lst [])) st=some (.lst []):=by rw[a9 (Ne.symm gsn),a9 (Ne.symm tus)];exact b9
    have g5:(upd (upd (upd (upd H d (.dK (A3 (.ref ha) l b (μ.t+1)))) st (.lst [])) tu (.lst [])) go (.lst [])) tu=some (.lst []):=by rw[a9 (Ne.symm gtn)];exact b9
    have g6:(upd (upd (upd (upd H d (.dK (A3 (.ref ha) l b (μ.t+1)))) st (.lst [])) tu (.lst [])) go (.lst [])) go=some (.lst []):=b9
    have gd:(upd (upd (upd (upd H d (.dK (A3 (.ref ha) l b (μ.t+1)))) st (.lst [])) tu (.lst [])) go (.lst [])) d=some (.dK (A3 (.ref ha) l b (μ.t+1))):=by rw[a9 (Ne.symm gdn),a9 (Ne.symm tdn),a9 (Ne.symm sdn)];exact b9
    generalize (upd (upd (upd (upd H d (.dK (A3 (.ref ha) l b (μ.t+1)))) st (.lst [])) tu (.lst [])) go (.lst []))=H4 at Hx g4 g5 g6 gd
    have nef:∀x∈A,x≠st/\x≠tu/\x≠go:=λx hx=>⟨λz=>nst (z▸hx),λz=>ntu (z▸hx),λz=>ngo (z▸hx)⟩
    have kp4:∀x o,H x=some o->x ∉ A->H4 x=some o:=λx o eo n=>by
     rw[Hx x (λz=>n (z▸inA d (by simp))) (λz=>by rw[z,Hst]at eo;cases eo) (λz=>by rw[z,Htu]at eo;cases eo) (λz=>by rw[z,Hgo]at eo;cases eo)]
     exact eo
    have sm4:d8 (hid H B) (hid H4 (st::tu::go::B)):=λx o eo=>by
     by_cases hB:x∈B
     .rw[v7 hB]at eo;cases eo
     .rw[e8 hB]at eo
      rw[e8 λz=>?_]
      .exact kp4 x o eo λz=>hB (S.aB x z).1
      .rcases List.mem_cons.mp z with z | z
       .rw[z,Hst]at eo;cases eo
       .rcases List.mem_cons.mp z with z | z
        .rw[z,Htu]at eo;cases eo
        .rcases List.mem_cons.mp z with z | z
         .rw[z,Hgo]at eo;cases eo
         .exact hB z
    have Lb:LP K (st::tu::go::B) A H d ha l b ps rs st tu go μ.h μ.c μ.u (μ.t+1) [] [] ⟨μ.line,μ.book,[],[],[]⟩ H4:=by
     have ne:∀x∈l::b::(ps++rs),x≠d:=λx hx z=>by
      subst z
      exact(List.nodup_cons.mp nd).1 hx
     have eqA:∀x∈l::b::(ps++rs),H4 x=H x:=λx hx=>by
      obtain⟨n1,n2,n3⟩:=nef x (inA x (List.mem_cons_of_mem _ hx))
      exact Hx x (ne x hx) n1 n2 n3
     refine⟨⟨nd,gd,hm.hh.same sm4,(eqA l (by simp)).trans hm.hl,(eqA b (by simp)).trans hm.hb,hm.pl.keep λx hx=>eqA x (by simp[hx]),hm.pb.keep λx hx=>eqA x (by simp[hx])⟩,g4,g5,g6,⟨rfl,λi x y h1 _=>by simp at h1⟩,⟨rfl,λi x y h1 _=>by simp at h1⟩,kp4,λx hx=>?_⟩
     rcases List.mem_cons.mp hx with z | z
     .exact⟨_,z▸g4⟩
     .rcases List.mem_cons.mp z with z | z
      .exact⟨_,z▸g5⟩
      .rcases List.mem_cons.mp z with z | z
       .exact⟨_,z▸g6⟩
       .by_cases hxA:x∈A
        .rw[ea]at hxA
         rcases List.mem_cons.mp hxA with zz | zz
         .exact⟨_,zz▸gd⟩
         .obtain⟨ys,ey⟩:=hm.has x zz
          exact⟨_,(eqA x zz).trans ey⟩
        .obtain⟨o,eo⟩:=S.I.bk x z
         exact⟨o,kp4 x o eo hxA⟩
    have hv3:∀H',(∀x o,H x=some o->x ∉ A->H' x=some o)->a7 K (hid H' (st::tu::go::B)) sm v3:=λH' k=>dv3.same λx o eo=>by
     by_cases hB:x∈B
     .rw[v7 hB]at eo;cases eo
     .rw[e8 hB]at eo
      rw[e8 λz=>?_]
      .exact k x o eo λz=>hB (S.aB x z).1
      .rcases List.mem_cons.mp z with z | z
       .rw[z,Hst]at eo;cases eo
       .rcases List.mem_cons.mp z with z | z
        .rw[z,Htu]at eo;cases eo
        .rcases List.mem_cons.mp z with z | z
         .rw[z,Hgo]at eo;cases eo
         .exact hB z
    have y0:(((σ.set 4 (some (.ref st))).set 5 (some (.ref tu))).set 6 (some (.ref go)))[0]? = some (some (.ref d)):=by simpa using h0
    have y2:(((σ.set 4 (some (.ref st))).set 5 (some (.ref tu))).set 6 (some (.ref go)))[2]? = some (some v2):=by simpa using w2
    have y3:(((σ.set 4 (some (.ref st))).set 5 (some (.ref tu))).set 6 (some (.ref go)))[3]? = some (some v3):=by simpa using w3
    have y4:(((σ.set 4 (some (.ref st))).set 5 (some (.ref tu))).set 6 (some (.ref go)))[4]? = some (some (.ref st)):=by simp[List.getElem?_set,hl10]
    have y5:(((σ.set 4 (some (.ref st))).set 5 (some (.ref tu))).set 6 (some (.ref go)))[5]? = some (some (.ref tu)):=by simp[List.getElem?_set,hl10]
    have y6:(((σ.set 4 (some (.ref st))).set 5 (some (.ref tu))).set 6 (some (.ref go)))[6]? = some (some (.ref go)):=by simp[List.getElem?_set,hl10]
    have yl:(((σ.set 4 (some (.ref st))).set 5 (some (.ref tu))).set 6 (some (.ref go))).length=10:=by simp[hl10]
    show O9 _ _ D (((σ.set 4 (some (.ref st))).set 5 (some (.ref tu))).set 6 (some (.ref go))) H4
    generalize ((σ.set 4 (some (V.ref st))).set 5 (some (V.ref tu))).set 6 (some (V.ref go)) = τ at y0 y2 y3 y4 y5 y6 yl ⊢
    have epl:(ps.map V.ref).length=ps.length:=List.length_map ..
    have en:ps.length = μ.line.length:=hm.pl.1
    refine⟨_,y0,d,_,rfl,ai gd,l,_,rfl,.inl (SqL.of Lb.mi.hl),((ps.map V.ref).length:Int),rfl,by omega,by rw[epl,en];exact hsz.2,?_⟩
    refine⟨λi m τ' H'=>m=ps.length-i/\i<=ps.length/\∃sa ta s,LP K (st::tu::go::B) A H d ha l b ps rs st tu go μ.h μ.c μ.u (μ.t+1) sa ta s H'/\(sa++ta).Nodup/\(∀x∈sa++ta,x∈ps.take i)/\s.line.length=ps.length/\s.stay.length+s.turned.length+s.gone.length=i/\(∀i,i<7->τ'[i]? = τ[i]?) /\ τ'.length=10/\W9 kb (decide (μ.u = "turns")) (μ.t+1) sm (ps.length-i) i s=some sE,
     ⟨ps.length,by simp,Nat.zero_le _,[],[],_,Lb,by simp,by simp,en.symm,rfl,λ_ _=>rfl,yl,by rw[en];exact ego⟩,?_⟩
    rintro i mm τ' H' ⟨rfl,hi,sa,ta,s,L,hnd,htk,hsl,hcnt,hτ,hτl,hgo'⟩
    have z0:=(hτ 0 (by decide)).trans y0
    have z2:=(hτ 2 (by decide)).trans y2
    have z3:=(hτ 3 (by decide)).trans y3
    have z4:=(hτ 4 (by decide)).trans y4
    have z5:=(hτ 5 (by decide)).trans y5
    have z6:=(hτ 6 (by decide)).trans y6
    by_cases hlt:i<ps.length
    .refine .inr ⟨by show i<(((ps.map V.ref).length:Int)).toNat;rw[epl];simpa using hlt,λτ'' H''=>i+1<=ps.length/\∃sa ta s,LP K (st::tu::go::B) A H d ha l b ps rs st tu go μ.h μ.c μ.u (μ.t+1) sa ta s H''/\(sa++ta).Nodup/\(∀x∈sa++ta,x∈ps.take (i+1))/\s.line.length=ps.length/\s.stay.length+s.turned.length+s.gone.length=i+1/\(∀i,i<7->τ''[i]? = τ[i]?) /\ τ''.length=10/\W9 kb (decide (μ.u = "turns")) (μ.t+1) sm (ps.length-(i+1)) (i+1) s=some sE,λτ'' H'' ⟨a1,a2⟩=>⟨ps.length-(i+1),by omega,rfl,a1,a2⟩,λx H2 hy=>?_⟩
     obtain⟨rfl,rfl⟩:=hy
     obtain⟨n',hn'⟩:∃n',ps.length-i=n'+1:=⟨ps.length-(i+1),by omega⟩
     rw[hn',W9]at hgo'
     obtain⟨pk,hpk,hgo'⟩:=bS9 hgo'
     obtain⟨s',hs',hgo'⟩:=bS9 hgo'
     have en':n'=ps.length-(i+1):=by omega
     subst en'
     refine yW (k:=i) (pk:=pk) (s':=s') L Ap hnd htk hlt ((List.getElem?_set_ne (by decide)).trans z0) ((List.getElem?_set_ne (by decide)).trans z3) ((List.getElem?_set_ne (by decide)).trans z4) ((List.getElem?_set_ne (by decide)).trans z5) ((List.getElem?_set_ne (by decide)).trans z6) (by rw[List.getElem?_set_self (by omega)];simp) (by simp[hτl]) hv3 ekb hpk hs' (by rw[hcnt];have:=hsz.1;omega) λσ' H'' sa' ta' L' nd' tk' hl' hc' hσ' hσl'=>?_
     exact⟨hlt,sa',ta',s',L',nd',tk',hl'.trans hsl,by omega,λi hi=>(hσ' i hi).trans ((List.getElem?_set_ne (by omega)).trans (hτ i hi)),hσl',hgo'⟩
    .have ei:i=ps.length:=by omega
     subst ei
     rw[Nat.sub_self,W9]at hgo'
     cases hgo'
     refine .inl ⟨by show(((ps.map V.ref).length:Int)).toNat<=ps.length;rw[epl];simp,?_⟩
     have hsz1:=hsz.1
     refine⟨_,z4,_,z5,st,tu,_,_,rfl,rfl,L.hst,L.htu,by rw[List.length_map,List.length_map,L.so.1,L.to.1];omega,λl' hl'=>⟨_,z0,d,_,rfl,wJ l' (by rw[a9 (d6 L.mi.hd hl')];exact L.mi.hd),?_⟩⟩
     refine⟨_,z2,_,z6,P6 (by show 2<=1000;decide) |> Nat.le_of_lt,λz hz=>?_⟩
     obtain⟨lb,ne1,ne2,ne3⟩:=Ap.lists
     have nl'B:l' ∉ st::tu::go::B:=L.bk.nin hl'
     have nl'A:l' ∉ A:=λzz=>nl'B (List.mem_cons_of_mem _ (List.mem_cons_of_mem _ (List.mem_cons_of_mem _ (S.aB l' zz).1)))
     have ldn:l'≠d:=λzz=>nl'A (zz▸inA d (by simp))
     have hz1:=hz
     have zdn:z≠d:=(d6 b9 hz1).symm
     rw[a9 zdn]at hz1
     have zln:z≠l':=(d6 b9 hz1).symm
     rw[a9 zln]at hz1
     have nzB:z ∉ st::tu::go::B:=L.bk.nin hz1
     have HF:∀x,x≠d->x≠l'->x≠z->(upd (upd (upd H' l' (.lst (sa.map V.ref++ta.map V.ref))) d (.dK (A3 (.ref ha) l' b (μ.t+1)))) z (.tup [v2,.ref go])) x=H' x:=λx a1 a2 a3=>by rw[a9 a3,a9 a1,a9 a2]
     have fd:(upd (upd (upd H' l' (.lst (sa.map V.ref++ta.map V.ref))) d (.dK (A3 (.ref ha) l' b (μ.t+1)))) z (.tup [v2,.ref go])) d=some (.dK (A3 (.ref ha) l' b (μ.t+1))):=by rw[a9 (Ne.symm zdn)];exact b9
     have fl:(upd (upd (upd H' l' (.lst (sa.map V.ref++ta.map V.ref))) d (.dK (A3 (.ref ha) l' b (μ.t+1)))) z (.tup [v2,.ref go])) l'=some (.lst (sa.map V.ref++ta.map V.ref)):=by rw[a9 (Ne.symm zln),a9 ldn];exact b9
     have fz:(upd (upd (upd H' l' (.lst (sa.map V.ref++ta.map V.ref))) d (.dK (A3 (.ref ha) l' b (μ.t+1)))) z (.tup [v2,.ref go])) z=some (.tup [v2,.ref go]):=b9
     show D.rt (.ref z) (upd (upd (upd H' l' (.lst (sa.map V.ref++ta.map V.ref))) d (.dK (A3 (.ref ha) l' b (μ.t+1)))) z (.tup [v2,.ref go]))
     generalize (upd (upd (upd H' l' (.lst (sa.map V.ref++ta.map V.ref))) d (.dK (A3 (.ref ha) l' b (μ.t+1)))) z (.tup [v2,.ref go]))=HE at HF fd fl fz ⊢
     have sub:∀x∈sa++ta,x∈ps:=λx hx=>List.mem_of_mem_take (htk x hx)
     have zA:∀x∈A,x≠z:=λx hx zz=>nzB (zz▸List.mem_cons_of_mem _ (List.mem_cons_of_mem _ (List.mem_cons_of_mem _ (S.aB x hx).1)))
     have lA:∀x∈A,x≠l':=λx hx zz=>nl'A (zz▸hx)
     have Hl':H l'=none:=by
      cases qq:H l' with
      | none=>rfl
      | some o=>rw[L.kp l' o qq nl'A]at hl';cases hl'
     have eqA:∀x∈A,x≠d->HE x=H' x:=λx hx n=>HF x n (lA x hx) (zA x hx)
     have dn:∀x∈l::b::(ps++rs),x≠d:=λx hx zz=>(List.nodup_cons.mp nd).1 (zz▸hx)
     obtain⟨Z,sZ⟩:=S.remake (A':=d::l'::b::((sa++ta)++rs)) (H':=HE) (μ':={ μ with line:=sE.stay++sE.turned,book:=sE.book,t:=μ.t+1 })
      (λx o eo n=>by
       rw[HF x (λzz=>n (zz▸inA d (by simp))) (λzz=>by rw[zz,Hl']at eo;cases eo) (λzz=>by have:=L.kp x o eo n;rw[zz,hz1]at this;cases this)]
       exact L.kp x o eo n)
      (λx hx=>by
       simp only[List.mem_cons,List.mem_append]at hx
       rcases hx with hx | hx | hx | hx | hx
       .exact .inl (inA x (by simp[hx]))
       .exact .inr (hx▸Hl')
       .exact .inl (inA x (by simp[hx]))
       .exact .inl (inA x (by simp[sub x (List.mem_append.mpr hx)]))
       .exact .inl (inA x (by simp[hx])))
      (λx hx=>by
       by_cases zz:x=d
       .exact⟨_,zz▸fd⟩
       .rw[eqA x hx zz]
        exact L.bk x (List.mem_cons_of_mem _ (List.mem_cons_of_mem _ (List.mem_cons_of_mem _ (S.aB x hx).1))))
      (λ{W} sW=>by
       refine⟨ha,l',b,sa++ta,rs,rfl,?_,fd,hm.hh.same sW,by rw[fl,List.map_append],(eqA b (inA b (by simp)) (dn b (by simp))).trans L.mi.hb,?_,?_⟩
       .have d1:∀x∈sa++ta,x ∉ rs/\x≠d/\x≠b:=λx hx=>by
         have:=sub x hx
         simp[List.nodup_append]at nd
         grind
        have d2:rs.Nodup:=Ap.nps.2
        have d3:b ∉ rs/\d≠b/\d ∉ rs:=by
         simp[List.nodup_append]at nd
         grind
        have d4:l' ∉ sa++ta/\l' ∉ rs/\l'≠b:=⟨λzz=>nl'A (inA _ (by simp[sub _ zz])),λzz=>nl'A (inA _ (by simp[zz])),λzz=>nl'A (inA _ (by simp[zz]))⟩
        refine List.nodup_cons.mpr ⟨?_,List.nodup_cons.mpr ⟨?_,List.nodup_cons.mpr ⟨?_,List.nodup_append.mpr ⟨hnd,d2,λx hx y hy zz=>(d1 x hx).1 (zz▸hy)⟩⟩⟩⟩
        .simp only[List.mem_cons,List.mem_append];grind
        .simp only[List.mem_cons,List.mem_append];grind
        .simp only[List.mem_append];grind
       .have ob:∀{qs:List Addr} {xs:List Per},v8 bH H' qs xs->(∀x∈qs,x∈ps)->v8 bH HE qs xs:=λo hq=>o.keep λx hx=>eqA x (inA x (by simp[hq x hx])) (dn x (by simp[hq x hx]))
        have o1:=ob L.so λx hx=>sub x (List.mem_append.mpr (.inl hx))
        have o2:=ob L.to λx hx=>sub x (List.mem_append.mpr (.inr hx))
        refine⟨by simp[o1.1,o2.1],λi x y h1 h2=>?_⟩
        by_cases hi':i<sa.length
        .rw[List.getElem?_append_left hi']at h1
         rw[List.getElem?_append_left (by rw[<-o1.1];exact hi')]at h2
         exact o1.2 i x y h1 h2
        .rw[List.getElem?_append_right (by omega)]at h1
         rw[List.getElem?_append_right (by rw[<-o1.1];omega),<-o1.1]at h2
         exact o2.2 _ x y h1 h2
       .exact L.mi.pb.keep λx hx=>eqA x (inA x (by simp[hx])) (dn x (by simp[hx])))
     obtain⟨F1,F2⟩:=Z.fin
     have nB':∀x,x ∉ st::tu::go::B->x ∉ B:=λx n zz=>n (List.mem_cons_of_mem _ (List.mem_cons_of_mem _ (List.mem_cons_of_mem _ zz)))
     have nAA:∀x,x ∉ A->x≠l'->x ∉ d::l'::b::((sa++ta)++rs):=λx n1 n2 zz=>by
      simp only[List.mem_cons,List.mem_append]at zz
      rcases zz with zz | zz | zz | zz | zz
      .exact n1 (inA x (by simp[zz]))
      .exact n2 zz
      .exact n1 (inA x (by simp[zz]))
      .exact n1 (inA x (by simp[sub x (List.mem_append.mpr zz)]))
      .exact n1 (inA x (by simp[zz]))
     refine q _ HE _ F1 (a7.same (a7.tup (xs:=[v2,.ref go]) ?_ (.cons (dv2.same sZ) (.cons (a7.lst (xs:=sE.gone.map V.int) ?_ (eJ _)) a6.nil))) F2)
     .rw[e8 λzz=>(List.mem_append.mp zz).elim (nAA z (λa1=>zA z a1 rfl) zln) (nB' z nzB)]
      exact fz
     .have ngl:go≠l':=λzz=>nl'B (zz▸by simp)
      have ngz:go≠z:=λzz=>nzB (zz▸by simp)
      rw[e8 λzz=>(List.mem_append.mp zz).elim (nAA go ngo ngl) (S.I.bk.nin Hgo),HF go gdn ngl ngz]
      exact L.hgo
   .cases eb
  .cases e
end
end
end L3
namespace LM
open PySem PySem.Spec PyProof.Rows L2 L3
variable [Fam][LamC]
local instance regW:Feeds:=G5
section
variable {E:DE}{F:Mac}
theorem p6 {d:PyData}{Q:PyData->Mac->Prop}:wp (sC d E F) Q↔Q d F:=a8
theorem C2 {i:Nat}{Q:PyData->Mac->Prop}:wp (sV i E F) Q↔gD E[i]? λd=>Q d F:=by
 unfold sV gD;generalize E[i]? = o
 rcases o with _ | _ | x
 .exact k4
 .exact k4
 .cases x <;> first | exact a8 | exact k4
theorem j9 {i:Nat}{Q:PyData->Mac->Prop}:wp (sW i E F) Q↔gW E[i]? λd=>Q d F:=by
 unfold sW gW;generalize E[i]? = o
 rcases o with _ | _ | x
 .exact k4
 .exact k4
 .cases x <;> first | exact a8 | exact k4
theorem t8 {f:PyData->PyData->Option PyData}{a b:DE->M PyData}{Q:PyData->Mac->Prop}:wp (s2 f a b E F) Q↔wp (a E F) λx F1=>wp (b E F1) λy F2=>oB (f x y) λz=>Q z F2:=by
 unfold s2;rw[b7];refine u9 λx F1=>?_;rw[b7];refine u9 λy F2=>?_;simp only[k8,a8,oB]
theorem L7 {f:List PyData->Option PyData}{a:DE->M (List PyData)}{Q:PyData->Mac->Prop}:wp (sN f a E F) Q↔wp (a E F) λx F1=>oB (f x) λz=>Q z F1:=by
 unfold sN;rw[b7];simp only[k8,a8,oB]
theorem d9 {Q:List PyData->Mac->Prop}:wp (g7 E F) Q↔Q [] F:=a8
theorem c6 {a:DE->M PyData}{r:DE->M (List PyData)}{Q:List PyData->Mac->Prop}:wp (b8 a r E F) Q↔wp (a E F) λx F1=>wp (r E F1) λxs F2=>Q (x::xs) F2:=by
 unfold b8;rw[b7];simp only[b7,a8]
theorem O3 {a:DE->M (List PyData)}{Q:PyData->Mac->Prop}:wp (J5 a E F) Q↔wp (a E F) λxs F1=>xs.length<=sizeLine/\Q (.tuple xs) F1:=by
 unfold J5;rw[b7]
 constructor
 .exact λh=>f8 h λxs F1 h=>by
   split at h
   .rename_i hl;exact⟨hl,a8.mp h⟩
   .exact(k4.mp h).elim
 .exact λh=>f8 h λxs F1 h=>by rw[if_pos h.1];exact a8.mpr h.2
theorem tV {a:DE->M (List PyData)}{Q:PyData->Mac->Prop}:wp (vy a E F) Q↔wp (a E F) λxs F1=>xs.length<=sizeLine/\Q (.list xs) F1:=by
 unfold vy;rw[b7]
 constructor
 .exact λh=>f8 h λxs F1 h=>by
   split at h
   .rename_i hl;exact⟨hl,a8.mp h⟩
   .exact(k4.mp h).elim
 .exact λh=>f8 h λxs F1 h=>by rw[if_pos h.1];exact a8.mpr h.2
theorem E3 {Q:List DV->Mac->Prop}:wp (D2 E F) Q↔Q [] F:=a8
theorem Q5 {a:DE->M PyData}{r:DE->M (List DV)}{Q:List DV->Mac->Prop}:wp (vD a r E F) Q↔wp (a E F) λx F1=>wp (r E F1) λxs F2=>Q (.dat x::xs) F2:=by
 unfold vD;rw[b7];simp only[b7,a8]
theorem B9 {f:List DV->M PyData}{ms:DE->M (List DV)}{Q:PyData->Mac->Prop}:wp (p8 f ms E F) Q↔wp (ms E F) λxs F1=>wp (f xs F1) Q:=by
 unfold p8;rw[b7]
theorem iK {a b:DE->M PyData}{Q:PyData->Mac->Prop}:wp (jr a b E F) Q↔wp (a E F) λx F1=>oB (W4 x) λc=>cIf c (wp (b E F1) Q) (Q (.bool false) F1):=by
 unfold jr;rw[b7];simp only[k8,W7,a8,oB,cIf]
theorem O4 {a:DE->M PyData}{Q:Bool->Mac->Prop}:wp (uB a E F) Q↔wp (a E F) λx F1=>oB (W4 x) λc=>Q c F1:=by
 unfold uB;rw[b7];simp only[k8,a8,oB]
theorem lM {a:DE->M PyData}{Q:Bool->Mac->Prop}:wp (uT a E F) Q↔wp (a E F) λx F1=>oB (rG x) λc=>Q c F1:=by
 unfold uT;rw[b7];simp only[k8,a8,oB]
theorem V8 {a b:DE->M Bool}{Q:Bool->Mac->Prop}:wp (av a b E F) Q↔wp (a E F) λx F1=>cIf x (wp (b E F1) Q) (Q false F1):=by
 unfold av;rw[b7];simp only[W7,a8,cIf]
theorem kW {a b:DE->M Bool}{Q:Bool->Mac->Prop}:wp (uOr a b E F) Q↔wp (a E F) λx F1=>cIf x (Q true F1) (wp (b E F1) Q):=by
 unfold uOr;rw[b7];simp only[W7,a8,cIf]
theorem iC {a:DE->M Bool}{Q:Bool->Mac->Prop}:wp (nj a E F) Q↔wp (a E F) λx F1=>Q (!x) F1:=by
 unfold nj;rw[b7];simp only[a8]
theorem K8 {Q:Out->Mac->Prop}:wp (mNx E F) Q↔Q (.nx E) F:=a8
def sqK (b:DE->M Out)(Q:Out->Mac->Prop)(o:Out)(F1:Mac):Prop:=match o with
  | .nx E1=>wp (b E1 F1) Q
  | o=>Q o F1
theorem h8 {b:DE->M Out}{Q:Out->Mac->Prop}{E1:DE}(h:wp (b E1 F) Q):sqK b Q (.nx E1) F:=h
theorem AN {b:DE->M Out}{Q:Out->Mac->Prop}{d:DE}(h:Q (.ct d) F):sqK b Q (.ct d) F:=h
theorem j3 {a b:DE->M Out}{Q:Out->Mac->Prop}:wp (mSq a b E F) Q↔wp (a E F) (sqK b Q):=by
 unfold mSq;rw[b7]
 refine u9 λo F1=>?_
 cases o with
 | nx E1=>exact Iff.rfl
 | rt d=>exact a8
 | bk d=>exact a8
 | ct d=>exact a8
theorem dI {a:DE->M PyData}{Q:Out->Mac->Prop}:wp (mRt a E F) Q↔wp (a E F) λx F1=>Q (.rt x) F1:=by
 unfold mRt;rw[b7];simp only[a8]
theorem l4 {i:Nat}{a:DE->M PyData}{Q:Out->Mac->Prop}:wp (u5 i a E F) Q↔wp (a E F) λx F1=>i<E.length/\Q (.nx (E.set i (some (.dat x)))) F1:=by
 unfold u5;rw[b7]
 refine u9 λx F1=>?_
 unfold bN
 by_cases h:i<E.length
 .rw[if_pos h];simp only[k8,a8,nP,h,true_and]
 .rw[if_neg h];simp only[k8,h,false_and]
  exact⟨λ⟨_,e,_⟩=>(by cases e),False.elim⟩
theorem aO {bd:PyData->DE->Option DE}{a:DE->M PyData}{Q:Out->Mac->Prop}:wp (X7 bd a E F) Q↔wp (a E F) λx F1=>oB (bd x E) λE1=>Q (.nx E1) F1:=by
 unfold X7;rw[b7]
 simp only[k8,a8,oB]
theorem J3 {c:DE->M Bool}{a b:DE->M Out}{Q:Out->Mac->Prop}:wp (mIf c a b E F) Q↔wp (c E F) λx F1=>cIf x (wp (a E F1) Q) (wp (b E F1) Q):=by
 unfold mIf;rw[b7];simp only[W7,cIf]
theorem cY {i:Nat}{a:DE->M (List PyData)}{Q:Out->Mac->Prop}:wp (cc i a E F) Q↔wp (a E F) λx F1=>i<E.length/\Q (.nx (E.set i (some (.own x)))) F1:=by
 unfold cc;rw[b7]
 refine u9 λx F1=>?_
 by_cases h:i<E.length
 .rw[if_pos h];simp only[a8,h,true_and]
 .rw[if_neg h];simp only[h,false_and]
  exact k4
theorem V3 {mi:DE->M (List PyData)}{bd:PyData->DE->Option DE}{body:DE->M Out}{Q:Out->Mac->Prop}:wp (Z0 mi bd body E F) Q↔wp (mi E F) λds F1=>wp (G1 bd body ds E F1) Q:=by
 unfold Z0;rw[b7]
theorem X1 {a:DE->M (List PyData)}{Q:List PyData->Mac->Prop}:wp (X3 a E F) Q↔wp (a E F) λx F1=>oB (N0 x) λds=>Q ds F1:=by
 unfold X3;rw[b7];simp only[k8,a8,oB]
theorem W3 {a:DE->M PyData}{Q:List PyData->Mac->Prop}:wp (bW a E F) Q↔wp (a E F) λx F1=>oB (eK x) λds=>Q ds F1:=by
 unfold bW;rw[b7];simp only[k8,a8,oB]
theorem T5 {a:DE->M (List PyData)}{Q:List PyData->Mac->Prop}:wp (Y9 a E F) Q↔wp (a E F) λx F1=>x.length<=sizeLine/\Q x F1:=by
 unfold Y9;rw[b7]
 constructor
 .exact λh=>f8 h λxs F1 h=>by
   split at h
   .rename_i hl;exact⟨hl,a8.mp h⟩
   .exact(k4.mp h).elim
 .exact λh=>f8 h λxs F1 h=>by rw[if_pos h.1];exact a8.mpr h.2
end
section
variable {E:DE}{F:Mac}{i:Nat}{ds:List PyData}{Q:Out->Mac->Prop}
theorem V2 {v:DE->M PyData}(he:L3.jM E i=some ds)(hl:ds.length<=100000)(q:wp (v E F) λx F1=>Q (.nx (E.set i (some (.own (ds++[x]))))) F1):wp (O2 i v E F) Q:=by
 unfold O2;rw[b7]
 refine f8 q λx F1 h=>?_
 rw[he,Option.bind_some,if_pos (Nat.lt_of_le_of_lt hl (by rw[sizeLine_eq];decide))]
 exact a8.mpr h
end
theorem F0 {bd:PyData->DE->Option DE}{body:DE->M Out}{Q:Out->Mac->Prop}(I:Nat->DE->Mac->Prop):∀(items:List PyData) (n:Nat) (E:DE) (F:Mac),I n E F ->
  (∀i d,items[i]? = some d->∀E F,I (n+i) E F->∃E1,bd d E=some E1/\wp (body E1 F) λo F'=>∃E2,o = .nx E2/\I (n+i+1) E2 F')->(∀E F,I (n+items.length) E F->Q (.nx E) F)->wp (G1 bd body items E F) Q
 | [],n,E,F,h,_,hq=>a8.mpr (hq E F h)
 | d::r,n,E,F,h,st,hq=>by
  obtain⟨E1,e1,h1⟩:=st 0 d rfl E F h
  rw[G1,e1,Option.bind_some,b7]
  refine f8 h1 λo F1 ⟨E2,e2,h2⟩=>?_
  subst e2
  refine F0 I r (n+1) E2 F1 h2 (λi d e E F hI=>?_) (λE F hI=>hq E F (by rw[List.length_cons];rw[show n+(r.length+1)=n+1+r.length by omega];exact hI))
  have:=st (i+1) d (by simpa using e) E F (by rw[show n+(i+1)=n+1+i by omega];exact hI)
  rw[show n+(i+1)+1=n+1+i+1 by omega]at this
  exact this
section
variable {E:DE}{μ:Mac}
theorem W0 {α:Type}{m:DE->M α}{Q:α->Mac->Prop}:wp (mE m E μ) Q↔wp (m E μ) λx _=>Q x μ:=by
 unfold mE;rw[b7];simp only[a8]
def lK (i0:Nat)(E:DE)(μ:Mac)(Q:Out->Mac->Prop):Out->Prop
 | .nx E1=>u8 E1 i0=u8 E i0/\Q (.nx E1) μ
 | .bk E1=>u8 E1 i0=u8 E i0/\Q (.bk E1) μ
 | .ct E1=>u8 E1 i0=u8 E i0/\Q (.ct E1) μ
 | .rt d=>Q (.rt d) μ
theorem iB {i0:Nat}{Q:Out->Mac->Prop}{E1:DE}(h:u8 E1 i0=u8 E i0)(q:Q (.nx E1) μ):lK i0 E μ Q (.nx E1):=⟨h,q⟩
theorem yr {i0:Nat}{Q:Out->Mac->Prop}{d:PyData}(q:Q (.rt d) μ):lK i0 E μ Q (.rt d):=q
theorem iT {i0:Nat}{m:DE->M Out}{Q:Out->Mac->Prop}:wp (mL i0 m E μ) Q↔wp (m E μ) λo _=>lK i0 E μ Q o:=by
 unfold mL;rw[b7]
 refine u9 λo F=>?_
 cases o with
 | rt d=>exact a8
 | nx E1=>show wp (aK i0 E μ (.nx E1)) Q↔(u8 E1 i0=u8 E i0/\Q (.nx E1) μ);unfold aK;dsimp only;split <;> rename_i h <;> simp[a8,k4,h]
 | bk E1=>show wp (aK i0 E μ (.bk E1)) Q↔(u8 E1 i0=u8 E i0/\Q (.bk E1) μ);unfold aK;dsimp only;split <;> rename_i h <;> simp[a8,k4,h]
 | ct E1=>show wp (aK i0 E μ (.ct E1)) Q↔(u8 E1 i0=u8 E i0/\Q (.ct E1) μ);unfold aK;dsimp only;split <;> rename_i h <;> simp[a8,k4,h]
theorem ot {mi:DE->M (List PyData)}{bd:PyData->DE->Option DE}{body:DE->M Out}{Q:Out->Mac->Prop}:wp (hV mi bd body E μ) Q↔wp (mi E μ) λds _=>wp (G1 bd body ds E μ) Q:=by
 unfold hV;rw[b7]
theorem fw {f:List PyData->Mac->Option (PyData×Mac)}{ms:DE->M (List PyData)}{Q:PyData->Mac->Prop}:wp (aX f ms E μ) Q↔wp (ms E μ) λxs μ1=>wp (f xs μ1) Q:=by
 unfold aX;rw[b7]
theorem nY {Q:PyData->Mac->Prop}:wp (sAt E μ) Q↔Q (.int μ.t) μ:=a8
theorem kl {Q:PyData->Mac->Prop}:wp (eX E μ) Q↔Q (cH μ) μ:=a8
theorem uz {Q:PyData->Mac->Prop}:wp (nN E μ) Q↔Q (.int μ.line.length) μ:=a8
theorem wg {Q:PyData->Mac->Prop}:wp (ua E μ) Q↔Q (.int μ.book.length) μ:=a8
theorem ud {Q:PyData->Mac->Prop}:wp (pM E μ) Q↔Q (.bool μ.line.isEmpty) μ:=a8
theorem zh {ms:DE->M (List PyData)}{Q:Out->Mac->Prop}(h:wp (ms E μ) λxs μ1=>∃y,gw xs=some y /\ μ1.line.length<=10000/\Q (.nx E) { μ1 with line:=μ1.line++[y] }):wp (kK ms E μ) Q:=by
 unfold kK
 rw[b7]
 refine f8 h λxs μ1 ⟨y,e1,e2,q⟩=>?_
 have hl:xs.length=4:=by
  unfold gw at e1
  split at e1
  .rfl
  .cases e1
 have z:(10000:Nat)<sizeLine:=by rw[sizeLine_eq];decide
 show wp ((gw xs).bind _) Q
 rw[e1,Option.bind_some,if_pos ⟨by show μ1.line.length<sizeLine;omega,by show xs.length<=sizeLine;omega⟩]
 exact a8.mpr q
theorem rn {ms:DE->M (List PyData)}{Q:Out->Mac->Prop}(h:wp (ms E μ) λxs μ1=>∃y,hW xs=some y /\ μ1.book.length<=10000/\Q (.nx E) { μ1 with book:=μ1.book++[y] }):wp (kI ms E μ) Q:=by
 unfold kI
 rw[b7]
 refine f8 h λxs μ1 ⟨y,e1,e2,q⟩=>?_
 have hl:xs.length=4:=by
  unfold hW at e1
  split at e1
  .rfl
  .cases e1
 have z:(10000:Nat)<sizeLine:=by rw[sizeLine_eq];decide
 show wp ((hW xs).bind _) Q
 rw[e1,Option.bind_some,if_pos ⟨by show μ1.book.length<sizeLine;omega,by show xs.length<=sizeLine;omega⟩]
 exact a8.mpr q
theorem Ai {f:List DV->@M fdI PyData}{ds:List PyData}{Q:PyData->Mac->Prop}(h:wp (f (ds.map DV.dat) (eQ [])) λd _=>Q d μ):wp (reF f (ds.map DV.dat) μ) Q:=by
 unfold reF
 rw[aY,Option.bind_some,b7]
 refine f8 h λd F q=>a8.mpr q
theorem iz {N:List Str}{m:DE->M Out}{ds:List PyData}{r:PyData}{μ':Mac}(h:∀d:Addr,wp (m (Q4 N d ds) μ) λo μ1=>μ1 = μ'/\gf o=some r):ji N m ds μ=some (r,μ'):=uA λd=>by
 obtain⟨o,F,e,rfl,e2⟩:=h d
 exact⟨o,e,e2⟩
theorem zw {N:List Str}{i0 j:Nat}{mkh:PyData->Option Mac}{m:DE->M Out}{ds:List PyData}{h r:PyData}{μ0:Mac}{F:FdS}{Q:PyData->FdS->Prop}(hj:ds[j]? = some h)(hm:mkh h=some μ0)(hr:∀d:Addr,wp (m ((u6 N (ds.map DV.dat)).set i0 (some (.adr d))) μ0) λo _=>gf o=some r)(q:Q r F):wp (ox N i0 j mkh m (ds.map DV.dat) F) Q:=by
 unfold ox
 have e:=vv (N:=N) (i0:=i0) (m:=m) (μ0:=μ0) (ds:=ds) (r:=r) λd=>by
  obtain⟨o,F,e,e2⟩:=hr d
  exact⟨o,F,e,e2⟩
 rw[aY,Option.bind_some,hj,Option.bind_some,hm,Option.bind_some,e,Option.bind_some]
 exact a8.mpr q
end
end LM
namespace L3
open PySem PySem.Spec PyProof.Rows L2
variable [Fam]
def bA:List DV->M PyData:=Y4 ["_law_rule_here","_law_one","_law_other"] (mSq (mIf (uB (s2 (eqD true) (s2 ixD (sW 1) (sC (.int 3))) (s2 ixD (sW 2) (sC (.int 3))))) (mRt (s2 ixD (sW 1) (sC (.int 3)))) mNx)
  (mSq (mIf (uB (s2 (inD false) (sW 0) (sC (.tuple [.str "last",.str "lastoff"])))) (mRt (sC (.bool true))) mNx)
  (mSq (mIf (uB (s2 (inD false) (sW 0) (sC (.tuple [.str "short",.str "shortoff"])))) (mRt (s2 ltD (s2 ixD (sW 1) (sC (.int 2))) (s2 ixD (sW 2) (sC (.int 2))))) mNx)
  (mRt (jr (s2 (inD false) (sW 0) (sC (.tuple [.str "front",.str "frontoff"]))) (s2 ltD (s2 ixD (sW 1) (sC (.int 1))) (s2 ixD (sW 2) (sC (.int 1)))))))))
def eV (p:Per):Pn:=(p.r,p.l,p.b)
def j8 (line:List Per)(i:Nat):Per:=line.getD i ⟨0,0,0,false⟩
def pnL (line:List Per):List Pn:=line.map eV
theorem eC {line:List Per}{i:Nat}(h:i<line.length):pAt (pnL line) i=eV (j8 line i):=by
 unfold pAt pnL j8
 simp[h]
theorem z7 (line:List Per):(pnL line).length=line.length:=by simp[pnL]
def jw (k:Nat)(p q:Per):Bool:=if p.b≠q.b then p.b else if k=1 then true else if k=2 then decide (p.l<q.l) else if k=3 then decide (p.r<q.r) else false
theorem uq {r:PyData}{p q:Per}{F:FdS}{Q:PyData->FdS->Prop}(hr:r∈W8)(hq:Q (.bool (jw (kOf r) p q)) F):wp (bA [.dat r,.dat (bx p),.dat (bx q)] F) Q:=by
 unfold bA bx
 unfold jw at hq
 walk_at "go"
 refine L8 (λh=>?_) λh=>?_
 .have hne:p.b≠q.b:=by have:=xf h;simpa using this.symm
  rw[if_pos hne]at hq
  walk_at "go"
  exact hq
 have heq:p.b=q.b:=by have:=xf h;simpa using this.symm
 rw[if_neg (by simp[heq])]at hq
 walk_at "go"
 refine c7 (oi hr) (c7 rfl (L8 (λh=>?_) λh=>?_))
 .rw[if_pos (of_decide_eq_true h)]at hq
  walk_at "go"
  exact hq
 rw[if_neg (of_decide_eq_false h)]at hq
 walk_at "go"
 refine c7 (kf hr) (c7 rfl (L8 (λh=>?_) λh=>?_))
 .rw[if_pos (of_decide_eq_true h)]at hq
  walk_at "go"
  exact hq
 rw[if_neg (of_decide_eq_false h)]at hq
 walk_at "go"
 refine c7 (jD hr) (c7 rfl (L8 (λh=>?_) λh=>?_))
 .rw[if_pos (of_decide_eq_true h)]at hq
  walk_at "go"
  exact hq
 rw[if_neg (of_decide_eq_false h)]at hq
 walk_at "go"
 exact hq
theorem jf {k:Nat}{line:List Per}{i j:Nat}(hj:j<line.length)(hij:i<j):jw k (j8 line j) (j8 line i)=decide (x5 k true (pnL line) j i):=by
 have hi:i<line.length:=by omega
 rw[Bool.eq_iff_iff,decide_eq_true_eq]
 unfold jw x5 R0
 rw[eC hi,eC hj]
 generalize j8 line j=p
 generalize j8 line i=q
 obtain⟨pn,pr,pl,pb⟩:=p
 obtain⟨qn,qr,ql,qb⟩:=q
 have h1:¬j<i:=by omega
 by_cases k1:k=1
 .cases pb <;> cases qb <;> simp[eV,bI,k1,hij]
 .by_cases k2:k=2
  .cases pb <;> cases qb <;> simp[eV,bI,k2,h1]
  .by_cases k3:k=3
   .cases pb <;> cases qb <;> simp[eV,bI,k3,h1]
   .cases pb <;> cases qb <;> simp[eV,bI,k1,k2,k3,h1]
def K7 (S:Nat->Nat->Bool)(found:List Nat):Nat->Option Nat
 | 0=>none
 | j+1=>if j∈found then K7 S found j else match K7 S found j with
  | none=>some j
  | some b=>if S j b=true then some j else some b
theorem bR {S:Nat->Nat->Bool}{found:List Nat}:∀{j b:Nat},K7 S found j=some b->b<j/\b ∉ found
 | 0,b,h=>by cases h
 | j+1,b,h=>by
  unfold K7 at h
  split at h
  .obtain⟨h1,h2⟩:=bR h;exact⟨by omega,h2⟩
  .rename_i hn
   split at h
   .cases h;exact⟨by omega,hn⟩
   .rename_i c hc
    obtain⟨h1,h2⟩:=bR hc
    split at h <;> cases h
    .exact⟨by omega,hn⟩
    .exact⟨by omega,h2⟩
theorem bF {L:List Nat}{i:Nat}(h:i∈L):L[L.idxOf i]? = some i:=by
 have:=List.idxOf_lt_length_iff.mpr h
 rw[List.getElem?_eq_getElem this,List.getElem_idxOf this]
theorem uL {L:List Nat}(nd:L.Nodup){t i:Nat}(h:L[t]? = some i):L.idxOf i=t:=by
 have h2:=bF (List.mem_of_getElem? h)
 exact iV nd h2 h
theorem cm {S:Nat->Nat->Bool}{L found:List Nat}{n:Nat}(hS:∀i j,i<n->j<n->i<j->(S j i=true↔L.idxOf j<L.idxOf i)):∀{j:Nat},j<=n->(∀i<j,i ∉ found->∃b,K7 S found j=some b/\L.idxOf b<=L.idxOf i)
 | 0,_,i,hi,_=>absurd hi (by omega)
 | j+1,hj,i,hi,hf=>by
  unfold K7
  by_cases hjf:j∈found
  .rw[if_pos hjf]
   have:i≠j:=λz=>hf (z▸hjf)
   exact cm hS (by omega) i (by omega) hf
  .rw[if_neg hjf]
   cases hb:K7 S found j with
   | none =>
    by_cases hij:i=j
    .exact⟨j,rfl,by rw[hij];exact Nat.le_refl _⟩
    .obtain⟨b,e,_⟩:=cm hS (show j<=n by omega) i (by omega) hf
     rw[hb]at e;cases e
   | some b =>
    obtain⟨hbl,_⟩:=bR hb
    have hs:=hS b j (by omega) (by omega) hbl
    dsimp only
    by_cases hij:i=j
    .subst hij
     split
     .exact⟨_,rfl,Nat.le_refl _⟩
     .rename_i hns
      refine⟨b,rfl,?_⟩
      have hge:¬(L.idxOf i<L.idxOf b):=λz=>hns (hs.mpr z)
      omega
    .obtain⟨b',e,hle⟩:=cm hS (show j<=n by omega) i (by omega) hf
     rw[hb]at e;cases e
     split
     .rename_i hss
      exact⟨j,rfl,by have:=hs.mp hss;omega⟩
     .exact⟨b,rfl,hle⟩
theorem pX {k:Nat}{kp:Bool}{ps:List Pn}{i j:Nat}(hi:i<ps.length)(hj:j<ps.length)(hij:i≠j):x5 k kp ps i j↔(order k kp ps).idxOf i<(order k kp ps).idxOf j:=by
 have mi:i∈order k kp ps:=(r9 k kp ps).mem_iff.mpr (List.mem_range.mpr hi)
 have mj:j∈order k kp ps:=(r9 k kp ps).mem_iff.mpr (List.mem_range.mpr hj)
 have li:=List.idxOf_lt_length_iff.mpr mi
 have lj:=List.idxOf_lt_length_iff.mpr mj
 have P:=List.pairwise_iff_getElem.mp (bO k kp ps)
 have ei:(order k kp ps)[(order k kp ps).idxOf i]=i:=List.getElem_idxOf li
 have ej:(order k kp ps)[(order k kp ps).idxOf j]=j:=List.getElem_idxOf lj
 constructor
 .intro h
  rcases Nat.lt_trichotomy ((order k kp ps).idxOf i) ((order k kp ps).idxOf j) with z | z | z
  .exact z
  .have h1:=bF mi
   have h2:=bF mj
   rw[z,h2]at h1
   exact absurd (Option.some.inj h1).symm hij
  .have:=P _ _ lj li z
   rw[ei,ej]at this
   exact(bU _ _ h this).elim
 .intro z
  have:=P _ _ li lj z
  rw[ei,ej]at this
  exact this
theorem qo {k:Nat}{ps:List Pn}{t b:Nat}(ht:(order k true ps)[t]? = some b):K7 (λi j=>decide (x5 k true ps i j)) ((order k true ps).take t) ps.length=some b:=by
 have nd:=X6 k true ps
 have mb:b∈order k true ps:=List.mem_of_getElem? ht
 have hb:b<ps.length:=List.mem_range.mp ((r9 k true ps).mem_iff.mp mb)
 have ib:=uL nd ht
 have hnf:b ∉ (order k true ps).take t:=λz=>by
  obtain⟨i,hi⟩:=List.mem_iff_getElem?.mp z
  rw[List.getElem?_take]at hi
  split at hi
  .exact absurd (iV nd hi ht) (by omega)
  .cases hi
 obtain⟨c,e,hle⟩:=cm (S:=λi j=>decide (x5 k true ps i j)) (L:=order k true ps) (found:=(order k true ps).take t) (n:=ps.length) (λi j hi hj hij=>by simp only[decide_eq_true_eq];exact pX hj hi (by omega)) (Nat.le_refl _) b hb hnf
 obtain⟨hc,hcf⟩:=bR e
 have mc:c∈order k true ps:=(r9 k true ps).mem_iff.mpr (List.mem_range.mpr hc)
 have hge:t<=(order k true ps).idxOf c:=by
  rcases Nat.lt_or_ge ((order k true ps).idxOf c) t with z | z
  .refine absurd (List.mem_iff_getElem?.mpr ⟨(order k true ps).idxOf c,?_⟩) hcf
   rw[List.getElem?_take,if_pos z];exact bF mc
  .exact z
 have:(order k true ps).idxOf c=t:=by omega
 have h2:=bF mc
 rw[this,ht]at h2
 rw[e,h2]
end L3
namespace LM
open PySem PySem.Spec PyProof.Rows L2 L3
variable [Fam][LamC]
local instance regN:Feeds:=G5
theorem km {bd:PyData->DE->Option DE}{body:DE->M Out}{Q:Out->Mac->Prop}(I:Nat->DE->Mac->Prop):∀(items:List PyData) (n:Nat) (E:DE) (F:Mac),I n E F ->
  (∀i d,items[i]? = some d->∀E F,I (n+i) E F->∃E1,bd d E=some E1/\wp (body E1 F) λo F'=>∃E2,(o = .nx E2\/o = .ct E2)/\I (n+i+1) E2 F')->(∀E F,I (n+items.length) E F->Q (.nx E) F)->wp (G1 bd body items E F) Q
 | [],n,E,F,h,_,hq=>a8.mpr (hq E F h)
 | d::r,n,E,F,h,st,hq=>by
  obtain⟨E1,e1,h1⟩:=st 0 d rfl E F h
  rw[G1,e1,Option.bind_some,b7]
  refine f8 h1 λo F1 ⟨E2,e2,h2⟩=>?_
  have go:wp (G1 bd body r E2 F1) Q:=by
   refine km I r (n+1) E2 F1 h2 (λi d e E F hI=>?_) (λE F hI=>hq E F (by rw[List.length_cons];rw[show n+(r.length+1)=n+1+r.length by omega];exact hI))
   have:=st (i+1) d (by simpa using e) E F (by rw[show n+(i+1)=n+1+i by omega];exact hI)
   rw[show n+(i+1)+1=n+1+i+1 by omega]at this
   exact this
  rcases e2 with e2 | e2 <;> subst e2 <;> exact go
theorem sQ {l:List Nat}{i:Nat}(hl:∀j∈l,j<=1000):inD false (.int (i:Int)) (.list (l6 l))=some (.bool (decide (i∈l))):=by
 have hs:SeqAt.shaped (.list (l6 l))=true:=by
  have:=(jz hl).shaped (by decide) (by decide)
  simpa [SeqAt.shaped,PyData.canLay0,PyData.depth] using this
 have hi:SeqAt.shaped (.int (i:Int))=true:=by simp[SeqAt.shaped,PyData.canLay0,PyData.depth]
 show(if SeqAt.shaped (.list (l6 l))=true/\SeqAt.shaped (.int (i:Int))=true then _ else none)=_
 rw[if_pos ⟨hs,hi⟩,if_neg (by simp)]
 refine congrArg (λb=>some (PyData.bool b)) ?_
 unfold l6
 rw[List.any_map]
 have e:(l.any ((λy=>y.eqv (.int (i:Int))) ∘ λj:Nat=>PyData.int (j:Int)))=l.any λj=>decide (j=i):=by
  congr 1
  funext j
  simp only[Function.comp,fk]
  rw[decide_eq_decide];omega
 rw[e]
 rw[Bool.eq_iff_iff]
 simp
theorem eI {j:Int}(h0:-(2 ^ 62)<=j)(h1:j<2 ^ 62):N0 [.int j]=some (cE 0 j.toNat):=if_pos ⟨h0,h1⟩
theorem qG {n:Nat}(h:n<=100000):N0 [.int (n:Int)]=some (l6 (List.range n)):=by
 rw[eI (by omega) (by omega),Int.toNat_natCast,nv]
def AK:Option Nat->PyData
 | none=>.none
 | some b=>.int (b:Int)
def ed:DE->M (List PyData):=gSq (cc 5 (Y9 g7))
  (gSq (Z0 (X3 (b8 (sN xY (b8 (sW 1) (b8 (sN R1 (b8 (sW 4) g7)) g7))) g7)) (bN 6) (mSq (u5 7 (sC .none))
  (mSq (Z0 (X3 (b8 (sN R1 (b8 (sW 4) g7)) g7)) (bN 8) (mSq (mIf (uB (s2 (inD false) (sW 8) (sW 5))) (λE F=>some (.ct E,F)) mNx)
  (mIf (uOr (uB (s2 (isD false) (sW 7) (sC .none))) (uT (p8 (reF bA) (vD (sV 3) (vD (s2 ixD (sW 4) (sW 8)) (vD (s2 ixD (sW 4) (sW 7)) D2)))))) (u5 7 (sV 8)) mNx)))
  (O2 5 (sV 7)))))
  (tD 5))
def Er:List PyData->Mac->Option (PyData×Mac):=ji ["_law_m","_law_hands","_law_places","_law_rule_here","_law_line","_law_found","_law_hand","_law_best","_law_place"] (mSq (X7 (P8 3 (j7 (bN 1) (j7 (bN 2) (j7 (bN 3) R3)))) eX) (ao 4 ed))
theorem og {line:List Per}{i:Nat}(h:i<line.length):atI (line.map bx) (i:Int)=some (bx (j8 line i)):=by
 refine bE ?_
 unfold j8
 simp[h]
theorem xc {a:DE->M Out}{b:DE->M (List PyData)}{E:DE}{μ:Mac}{Q:List PyData->Mac->Prop}(h:wp (a E μ) λo μ1=>∃E1,o = .nx E1/\wp (b E1 μ1) Q):wp (gSq a b E μ) Q:=by
 unfold gSq
 rw[b7]
 refine f8 h λo μ1 ⟨E1,e,q⟩=>?_
 subst e;exact q
theorem lV {μ:Mac}{d:Addr}{h:Nat}{r:PyData}{c8:PyData}(hr:r∈W8)(hl:μ.line.length<64) :
  wp (ed [some (.adr d),some (.dat (.int (h:Int))),some (.dat c8),some (.dat r),some (.dat (jK μ)),none,none,none,none] μ) λds μ1=>μ1 = μ/\ds=l6 ((order (kOf r) true (pnL μ.line)).take h):=by
 have hol:(order (kOf r) true (pnL μ.line)).length = μ.line.length:=by rw[(r9 _ _ _).length_eq,List.length_range,z7]
 have hsm:∀t,∀j∈(order (kOf r) true (pnL μ.line)).take t,j<=1000:=λt j hj=>by
  have:=List.mem_range.mp ((r9 (kOf r) true (pnL μ.line)).mem_iff.mp (List.mem_of_mem_take hj))
  rw[z7]at this;omega
 unfold ed
 refine xc (cY.mpr (T5.mpr (d9.mpr ⟨D7 rfl,i5 rfl,_,rfl,?_⟩)))
 refine xc (V3.mpr (X1.mpr (c6.mpr (L7.mpr (c6.mpr (j9.mpr (n6 rfl (c6.mpr (L7.mpr (c6.mpr (j9.mpr (n6 rfl (d9.mpr (c7 rfl (d9.mpr (c7 rfl (d9.mpr ?_)))))))))))))))))
 have emin:(if ((μ.line.map bx).length:Int)<(h:Int) then((μ.line.map bx).length:Int) else(h:Int))=((min h μ.line.length:Nat):Int):=by
  rw[List.length_map];split <;> omega
 show oB (N0 [.int (if ((μ.line.map bx).length:Int)<(h:Int) then((μ.line.map bx).length:Int) else(h:Int))]) _
 rw[emin]
 refine c7 (z:=l6 (List.range (min h μ.line.length))) (qG (by omega)) ?_
 refine F0 (λt E F=>F = μ/\∃o6 o7 o8,E=[some (.adr d),some (.dat (.int (h:Int))),some (.dat c8),some (.dat r),some (.dat (jK μ)),some (.own (l6 ((order (kOf r) true (pnL μ.line)).take t))),o6,o7,o8]) _ 0 _ μ ⟨rfl,none,none,none,rfl⟩ ?_ ?_
 .rintro t dd e E F ⟨rfl,o6,o7,o8,rfl⟩
  rw[Nat.zero_add]
  obtain⟨tt,e2,rfl⟩:=ff e
  have ht:t<min h F.line.length/\tt=t:=by
   obtain⟨h1,h2⟩:=List.getElem?_eq_some_iff.mp e2
   simp at h1 h2
   exact⟨by omega,h2.symm⟩
  obtain⟨ht,rfl⟩:=ht
  obtain⟨b,hb⟩:∃b,(order (kOf r) true (pnL F.line))[tt]? = some b:=⟨_,List.getElem?_eq_getElem (by omega)⟩
  refine⟨_,rfl,?_⟩
  refine j3.mpr (l4.mpr (p6.mpr ⟨i5 rfl,h8 ?_⟩))
  refine j3.mpr (V3.mpr (X1.mpr (c6.mpr (L7.mpr (c6.mpr (j9.mpr (n6 rfl (d9.mpr (c7 rfl (d9.mpr ?_)))))))))) 
  show oB (N0 [.int ((F.line.map bx).length:Int)]) _
  rw[List.length_map]
  refine c7 (z:=l6 (List.range F.line.length)) (qG (by omega)) ?_
  refine km (λj E F'=>F'=F/\∃o8,E=[some (.adr d),some (.dat (.int (h:Int))),some (.dat c8),some (.dat r),some (.dat (jK F)),some (.own (l6 ((order (kOf r) true (pnL F.line)).take tt))),some (.dat (.int (tt:Int))),some (.dat (AK (K7 (λi j=>decide (x5 (kOf r) true (pnL F.line) i j)) ((order (kOf r) true (pnL F.line)).take tt) j))),o8]) _ 0 _ F ⟨rfl,o8,rfl⟩ ?_ ?_
  .rintro j dj ej E F' ⟨rfl,o8',rfl⟩
   rw[Nat.zero_add]
   obtain⟨jj,ej2,rfl⟩:=ff ej
   have hj:j<F'.line.length/\jj=j:=by
    obtain⟨h1,h2⟩:=List.getElem?_eq_some_iff.mp ej2
    simp at h1 h2
    exact⟨by omega,h2.symm⟩
   obtain⟨hj,rfl⟩:=hj
   refine⟨_,rfl,?_⟩
   refine j3.mpr (J3.mpr (O4.mpr (t8.mpr (j9.mpr (n6 rfl (j9.mpr (dB rfl (c7 (sQ (hsm tt)) (c7 rfl (L8 (λhin=>?_) λhin=>?_))))))))))
   .have hin:=of_decide_eq_true hin
    exact a8.mpr (AN ⟨_,.inr rfl,rfl,_,by rw[K7,if_pos hin];rfl⟩)
   .have hin:=of_decide_eq_false hin
    refine K8.mpr (h8 ?_)
    cases hb0:K7 (λi j=>decide (x5 (kOf r) true (pnL F'.line) i j)) ((order (kOf r) true (pnL F'.line)).take tt) jj with
    | none =>
     refine J3.mpr (kW.mpr (O4.mpr (t8.mpr (j9.mpr (n6 rfl (p6.mpr (c7 rfl (c7 rfl (aD.mpr (aD.mpr ?_))))))))))
     exact l4.mpr (C2.mpr (C6 rfl ⟨i5 rfl,_,.inl rfl,rfl,_,by rw[K7,if_neg hin,hb0];rfl⟩))
    | some bb =>
     obtain⟨hbb,_⟩:=bR hb0
     refine J3.mpr (kW.mpr (O4.mpr (t8.mpr (j9.mpr (n6 rfl (p6.mpr (c7 rfl (c7 rfl (U5.mpr ?_)))))))))
     refine lM.mpr (B9.mpr (Q5.mpr (C2.mpr (C6 rfl (Q5.mpr (t8.mpr (j9.mpr (n6 rfl (j9.mpr (n6 rfl (c7 (og hj) ?_)))))))))))
     refine Q5.mpr (t8.mpr (j9.mpr (n6 rfl (j9.mpr (n6 rfl (c7 (og (show bb<F'.line.length by omega)) (E3.mpr ?_)))))))
     refine Ai (ds:=[r,bx (j8 F'.line jj),bx (j8 F'.line bb)]) (uq hr (c7 rfl ?_))
     rw[jf hj hbb]
     refine L8 (λhs=>?_) λhs=>?_
     .exact l4.mpr (C2.mpr (C6 rfl ⟨i5 rfl,_,.inl rfl,rfl,_,by rw[K7,if_neg hin,hb0];dsimp only;rw[if_pos hs];rfl⟩))
     .exact K8.mpr ⟨_,.inl rfl,rfl,_,by rw[K7,if_neg hin,hb0];dsimp only;rw[if_neg (by rw[hs];simp)];rfl⟩
  .rintro E F' ⟨rfl,o8',rfl⟩
   rw[Nat.zero_add,K9,List.length_range]
   have hbest:=qo hb
   rw[z7]at hbest
   rw[hbest]
   have e3:(order (kOf r) true (pnL F'.line)).take (tt+1)=(order (kOf r) true (pnL F'.line)).take tt++[b]:=by
    rw[List.take_succ,hb];rfl
   exact h8 (V2 rfl (by rw[K9,List.length_take];omega) (C2.mpr (C6 rfl ⟨_,rfl,rfl,_,_,_,by rw[e3];simp only[l6,List.map_append,List.map_cons,List.map_nil];rfl⟩)))
 .rintro E F ⟨rfl,o6,o7,o8,rfl⟩
  refine⟨_,rfl,⟨_,_,rfl,rfl,?_⟩⟩
  rw[Nat.zero_add,K9,List.length_range]
  rcases Nat.le_total h F.line.length with z | z
  .rw[Nat.min_eq_left z]
  .rw[Nat.min_eq_right z,List.take_of_length_le (by omega),List.take_of_length_le (by omega)]
end LM
namespace L3
open PySem PySem.Spec PyProof.Rows L2
variable [Fam]
def aL (book:List Row)(j:Nat):Row:=book.getD j ⟨"",0,none,0⟩
def thP (P:Nat->Bool)(kp:Bool)(line:List Per)(i:Nat):Per:=if P i=true then⟨(j8 line i).n,(j8 line i).r,(j8 line i).l-1,kp⟩ else j8 line i
def gnP (P:Nat->Bool)(line:List Per)(i:Nat):Bool:=P i&&decide ((j8 line i).l<=1)
def row1 (P:Nat->Bool)(i:Nat)(row:Row):Row:=if P i=true then row else⟨row.w,row.t,row.m,row.q+1⟩
def ni (P:Nat->Bool)(t:Int)(line:List Per)(i:Nat)(row:Row):Row:=if gnP P line i=true then⟨"gone",(row1 P i row).t,some t,(row1 P i row).q⟩ else row1 P i row
def nF (P:Nat->Bool)(t:Int)(line:List Per)(book:List Row)(i:Nat):List Row:=book.set (j8 line i).n.toNat (ni P t line i (aL book (j8 line i).n.toNat))
def T9 (P:Nat->Bool)(t:Int)(line:List Per)(book:List Row)(k:Nat):List Row:=(List.range k).foldl (nF P t line) book
theorem gT {P:Nat->Bool}{t:Int}{line:List Per}{book:List Row}{k:Nat}:T9 P t line book (k+1)=nF P t line (T9 P t line book k) k:=by
 unfold T9
 rw[List.range_succ,List.foldl_append];rfl
theorem Z1 {P:Nat->Bool}{t:Int}{line:List Per}{book:List Row}:∀{k:Nat},(T9 P t line book k).length=book.length
 | 0=>rfl
 | k+1=>by rw[gT];unfold nF;rw[List.length_set,Z1]
def dW (P:Nat->Bool)(kp:Bool)(line:List Per)(k:Nat):List Per:=(List.range line.length).map λi=>if i<k then thP P kp line i else j8 line i
def bg (P:Nat->Bool)(kp tn:Bool)(line:List Per)(k:Nat):List Per:=((List.range k).filter λi=>!gnP P line i && !(P i&&tn)).map (thP P kp line)
def aW (P:Nat->Bool)(kp tn:Bool)(line:List Per)(k:Nat):List Per:=((List.range k).filter λi=>!gnP P line i&&(P i&&tn)).map (thP P kp line)
def cB (P:Nat->Bool)(line:List Per)(k:Nat):List Int:=((List.range k).filter λi=>gnP P line i).map λi=>(j8 line i).n
def bsG (P:Nat->Bool)(kp tn:Bool)(t:Int)(line:List Per)(book:List Row)(k:Nat):BS:=⟨dW P kp line k,T9 P t line book k,bg P kp tn line k,aW P kp tn line k,cB P line k⟩
def oF (line:List Per)(book:List Row):Prop:=∀i<line.length,0<=(j8 line i).n/\(j8 line i).n<book.length/\1<=(j8 line i).l
theorem qv (P:Nat->Bool)(kp:Bool)(line:List Per):dW P kp line 0=line:=by
 unfold dW j8
 refine List.ext_getElem (by simp) λi h1 h2=>?_
 simp[h2]
theorem fV {P:Nat->Bool}{kp:Bool}{line:List Per}{k i:Nat}(h:i<line.length):(dW P kp line k)[i]? = some (if i<k then thP P kp line i else j8 line i):=by
 unfold dW
 simp[h]
theorem pH {P:Nat->Bool}{kp:Bool}{line:List Per}{k:Nat}(h:k<line.length):(dW P kp line k).set k (thP P kp line k)=dW P kp line (k+1):=by
 refine List.ext_getElem? λi=>?_
 by_cases hi:i<line.length
 .rw[fV hi]
  by_cases hk:k=i
  .subst hk
   rw[List.getElem?_set_self (by simp[dW,hi]),if_pos (Nat.lt_succ_self k)]
  .rw[List.getElem?_set_ne hk,fV hi]
   congr 1
   by_cases h1:i<k
   .rw[if_pos h1,if_pos (by omega)]
   .rw[if_neg h1,if_neg (by omega)]
 .rw[List.getElem?_eq_none (by simp[dW];omega),List.getElem?_eq_none (by simp[dW];omega)]
theorem ze {P:Nat->Bool}{kp tn:Bool}{t:Int}{line:List Per}{book:List Row}{k:Nat}(hk:k<line.length)(hn:oF line book):ck kp tn t k (P k) (bsG P kp tn t line book k)=some (bsG P kp tn t line book (k+1)):=by
 obtain⟨n1,n2,n3⟩:=hn k hk
 unfold ck bsG
 dsimp only
 rw[fV hk,if_neg (Nat.lt_irrefl k),Option.bind_some]
 have hj:ixN (T9 P t line book k).length (j8 line k).n=some (j8 line k).n.toNat:=by
  unfold ixN
  rw[if_pos n1,Z1,if_pos n2]
 rw[hj,Option.bind_some]
 have hjl:(j8 line k).n.toNat<(T9 P t line book k).length:=by rw[Z1];omega
 have hrow:(T9 P t line book k)[(j8 line k).n.toNat]? = some (aL (T9 P t line book k) (j8 line k).n.toNat):=by
  unfold aL
  simp[hjl]
 rw[hrow,Option.bind_some]
 have e1:(if P k=true then(⟨(j8 line k).n,(j8 line k).r,(j8 line k).l-1,kp⟩:Per) else j8 line k)=thP P kp line k:=rfl
 have hl0:(thP P kp line k).l=0↔gnP P line k=true:=by
  unfold thP gnP
  cases hp:P k with
  | false=>simp;omega
  | true=>simp;omega
 have e2:∀row:Row,(if P k=true then row else(⟨row.w,row.t,row.m,row.q+1⟩:Row))=row1 P k row:=λ_=>rfl
 have eb:∀z,nF P t line (T9 P t line book k) k=z↔(T9 P t line book k).set (j8 line k).n.toNat (ni P t line k (aL (T9 P t line book k) (j8 line k).n.toNat))=z:=λz=>Iff.rfl
 congr 1
 rw[e1,e2]
 have eL:dW P kp line (k+1)=(dW P kp line k).set k (thP P kp line k):=(pH hk).symm
 have eB:T9 P t line book (k+1)=(T9 P t line book k).set (j8 line k).n.toNat (ni P t line k (aL (T9 P t line book k) (j8 line k).n.toNat)):=gT
 rw[eL,eB]
 by_cases hg:gnP P line k=true
 .rw[if_pos (hl0.mpr hg)]
  have r2:ni P t line k (aL (T9 P t line book k) (j8 line k).n.toNat)=⟨"gone",(row1 P k (aL (T9 P t line book k) (j8 line k).n.toNat)).t,some t,(row1 P k (aL (T9 P t line book k) (j8 line k).n.toNat)).q⟩:=by unfold ni;rw[if_pos hg]
  rw[r2]
  unfold bg aW cB
  rw[List.range_succ,List.filter_append,List.filter_append,List.filter_append]
  simp only[List.filter_cons,List.filter_nil,hg,Bool.not_false,Bool.not_true,Bool.true_and,Bool.false_and,Bool.and_false,Bool.and_true,if_true,if_false,Bool.false_eq_true,ite_true,ite_false,List.map_append,List.map_cons,List.map_nil,List.append_nil,Bool.and_self]
 .rw[if_neg λz=>hg (hl0.mp z)]
  have hgf:gnP P line k=false:=by simpa using hg
  have r2:ni P t line k (aL (T9 P t line book k) (j8 line k).n.toNat)=row1 P k (aL (T9 P t line book k) (j8 line k).n.toNat):=by unfold ni;rw[if_neg hg]
  rw[r2]
  by_cases ht:P k=true/\tn=true
  .rw[if_pos ht]
   unfold bg aW cB
   rw[List.range_succ,List.filter_append,List.filter_append,List.filter_append]
   simp only[List.filter_cons,List.filter_nil,hgf,ht.1,ht.2,Bool.not_false,Bool.not_true,Bool.true_and,Bool.false_and,Bool.and_false,Bool.and_true,if_true,if_false,Bool.false_eq_true,ite_true,ite_false,List.map_append,List.map_cons,List.map_nil,List.append_nil,Bool.and_self]
  .rw[if_neg ht]
   have ht':(P k&&tn)=false:=Bool.eq_false_iff.mpr λz=>ht (by simpa using z)
   unfold bg aW cB
   rw[List.range_succ,List.filter_append,List.filter_append,List.filter_append]
   simp only[List.filter_cons,List.filter_nil,hgf,ht',Bool.not_false,Bool.not_true,Bool.true_and,Bool.false_and,Bool.and_false,Bool.and_true,if_true,if_false,Bool.false_eq_true,ite_true,ite_false,List.map_append,List.map_cons,List.map_nil,List.append_nil,Bool.and_self]
theorem AV {P:Nat->Bool}{kp tn:Bool}{t:Int}{line:List Per}{book:List Row}{sm:PyData}(hn:oF line book)(hin:∀i<line.length,inB sm i=some (P i)):∀{m k:Nat},m+k=line.length->W9 kp tn t sm m k (bsG P kp tn t line book k)=some (bsG P kp tn t line book line.length)
 | 0,k,h=>by rw[W9,show k=line.length by omega]
 | m+1,k,h=>by
  rw[W9,hin k (by omega),Option.bind_some,ze (by omega) hn,Option.bind_some]
  exact AV hn hin (by omega)
def fO (P:Nat->Bool)(kp tn:Bool)(μ:Mac):Mac:={ μ with line:=bg P kp tn μ.line μ.line.length++aW P kp tn μ.line μ.line.length,book:=T9 P (μ.t+1) μ.line μ.book μ.line.length,t:=μ.t+1 }
theorem uN {P:Nat->Bool}{kp:Bool}{sm:PyData}{μ:Mac}(hl:μ.line.length<=1000)(hk:fy μ.u=some kp)(hn:oF μ.line μ.book)(hin:∀i < μ.line.length,inB sm i=some (P i)) :
  kh sm μ=some (cB P μ.line μ.line.length,fO P kp (decide (μ.u = "turns")) μ):=by
 unfold kh
 have z:(1000:Nat)<sizeLine:=by rw[sizeLine_eq];decide
 rw[if_pos ⟨by omega,by omega⟩,hk,Option.bind_some]
 have e0:(⟨μ.line,μ.book,[],[],[]⟩:BS)=bsG P kp (decide (μ.u = "turns")) (μ.t+1) μ.line μ.book 0:=by
  unfold bsG
  rw[qv];rfl
 rw[e0,AV hn hin rfl]
 rfl
def aM (pl:Option Nat)(n:Nat):Bool:=match pl with
 | none=>false
 | some v=>decide (v<=n)
def A8 (pl:Option Nat)(s:Mac×Nat)(c:Int×Int):Mac×Nat :=
 if aM pl s.1.line.length=true then({ s.1 with book:=s.1.book++[⟨"lost",s.1.t,none,0⟩] },s.2+1)
 else({ s.1 with line:=s.1.line++[⟨(s.1.book.length:Int),c.1,c.2,false⟩],book:=s.1.book++[⟨"in",s.1.t,none,0⟩] },s.2)
def i3 (pl:Option Nat)(bt:Bt)(s:Mac×Nat):Mac×Nat:=bt.foldl (A8 pl) s
theorem iM {pl:Option Nat}:∀{bt:Bt} {s:Mac×Nat},pnL (i3 pl bt s).1.line=B3 pl (pnL s.1.line) bt/\(i3 pl bt s).2=s.2+(bt.length-C1 pl s.1.line.length bt.length)
 | [],s=>by
  constructor
  .unfold i3 B3;simp
  .unfold i3 C1;simp
 | c::bt,s=>by
  obtain⟨h1,h2⟩:=iM (pl:=pl) (bt:=bt) (s:=A8 pl s c)
  have e:i3 pl (c::bt) s=i3 pl bt (A8 pl s c):=rfl
  rw[e,h1,h2]
  unfold A8
  cases hf:aM pl s.1.line.length with
  | true =>
   rw[if_pos rfl]
   obtain⟨v,rfl,hv⟩:∃v,pl=some v/\v<=s.1.line.length:=by
    unfold aM at hf
    split at hf
    .cases hf
    .exact⟨_,rfl,of_decide_eq_true hf⟩
   constructor
   .unfold B3 C1
    rw[z7]
    have:v-s.1.line.length=0:=by omega
    simp[this]
   .unfold C1
    simp only[List.length_cons]
    omega
  | false =>
   rw[if_neg (by simp)]
   constructor
   .unfold B3
    have er:C1 pl (pnL s.1.line).length (c::bt).length=C1 pl (pnL (s.1.line++[⟨(s.1.book.length:Int),c.1,c.2,false⟩])).length bt.length+1:=by
     unfold aM at hf
     unfold C1
     rw[z7,z7]
     split
     .rename_i v
      have:¬v<=s.1.line.length:=of_decide_eq_false hf
      simp only[List.length_cons,List.length_append,List.length_nil];omega
     .simp
    rw[er,List.take_succ_cons]
    simp[pnL,eV]
   .unfold aM at hf
    unfold C1
    split
    .rename_i v
     have:¬v<=s.1.line.length:=of_decide_eq_false hf
     simp only[List.length_cons,List.length_append,List.length_nil];omega
    .simp
theorem ae {pl:Option Nat}:∀{bt:Bt} {s:Mac×Nat},(i3 pl bt s).1.h=s.1.h/\(i3 pl bt s).1.c=s.1.c/\(i3 pl bt s).1.u=s.1.u/\(i3 pl bt s).1.t=s.1.t/\(i3 pl bt s).1.book.length=s.1.book.length+bt.length
 | [],s=>⟨rfl,rfl,rfl,rfl,rfl⟩
 | c::bt,s=>by
  obtain⟨h1,h2,h3,h4,h5⟩:=ae (pl:=pl) (bt:=bt) (s:=A8 pl s c)
  have e:i3 pl (c::bt) s=i3 pl bt (A8 pl s c):=rfl
  rw[e,h1,h2,h3,h4,h5]
  unfold A8
  split <;> (refine⟨rfl,rfl,rfl,rfl,?_⟩;simp;omega)
end L3
namespace LM
open PySem PySem.Spec PyProof.Rows L2 L3
variable [Fam][LamC]
local instance regO:Feeds:=G5
structure HouseOk (μ:Mac) (h:Nat) (pl:Option Nat) (r:PyData):Prop where
 hh:μ.h=(h:Int)
 hc:fo μ.c=plD pl
 hr:r = .str μ.u
 w8:r∈W8
theorem pT (l:List Nat):(l6 l).all isInt=true:=by
 unfold l6
 rw[List.all_map,List.all_eq_true]
 intro x _;rfl
theorem pB {μ:Mac}{h:Nat}{pl:Option Nat}{r:PyData}(H:HouseOk μ h pl r)(hl:μ.line.length<64):Er [] μ=some (.list (l6 ((order (kOf r) true (pnL μ.line)).take h)),μ):=by
 refine iz λd=>?_
 refine j3.mpr (aO.mpr (kl.mpr ?_))
 unfold cH
 rw[H.hh,<-H.hr]
 refine c7 rfl (h8 ?_)
 show wp (ao 4 ed [some (.adr d),some (.dat (.int (h:Int))),some (.dat (fo μ.c)),some (.dat r),none,none,none,none,none] μ) _
 unfold ao
 rw[if_pos ⟨i5 rfl,rfl⟩,b7]
 refine f8 (lV (μ:=μ) (d:=d) (h:=h) (c8:=fo μ.c) H.w8 hl) λds μ1 ⟨e1,e2⟩=>?_
 subst e1 e2
 rw[if_pos (pT _)]
 exact a8.mpr ⟨rfl,rfl⟩
def Ge:List PyData->Mac->Option (PyData×Mac):=ji ["_law_m","_law_comers","_law_places","_law_lost","_law_rank","_law_work","_law_is_lost"] (mSq (u5 2 (s2 ixD eX (mE (sC (.int 1)))))
  (mSq (mL 0 (u5 3 (sC (.int 0))))
  (mSq (hV (bW (sV 1)) (P8 2 (j7 (bN 4) (j7 (bN 5) R3))) (mSq (u5 6 (jr (mE (s2 (isD true) (sW 2) (sC .none))) (s2 geD nN (mE (sV 2)))))
  (mSq (mIf (mE (nj (uT (sW 6)))) (kK (b8 ua (b8 (mE (sV 4)) (b8 (mE (sV 5)) (b8 (mE (sC (.bool false))) g7))))) mNx)
  (mSq (kI (b8 (mE (s2 ixD (sC (.list [.str "in",.str "lost"])) (sN iP (b8 (sW 6) g7)))) (b8 sAt (b8 (mE (sC .none)) (b8 (mE (sC (.int 0))) g7)))))
  (mL 0 (u5 3 (s2 Q1 (sW 3) (sN iP (b8 (sW 6) g7)))))))))
  (mL 0 (mRt (sV 3))))))
theorem Z2 (pl:Option Nat):∀(bt:Bt) (s:Mac×Nat),(i3 pl bt s).1.line.length<=s.1.line.length+bt.length
 | [],s=>Nat.le_refl _
 | c::bt,s=>by
  have:=Z2 pl bt (A8 pl s c)
  have e:i3 pl (c::bt) s=i3 pl bt (A8 pl s c):=rfl
  rw[e]
  refine Nat.le_trans this ?_
  unfold A8
  split
  .simp
  .simp;omega
theorem wx {μ:Mac}{h:Nat}{pl:Option Nat}{r:PyData}{bt:Bt}(H:HouseOk μ h pl r)(hl:μ.line.length+bt.length<=1000)(hb:μ.book.length+bt.length<=5000) :
  Ge [.tuple (bt.map cmD)] μ=some (.int ((i3 pl bt (μ,0)).2:Nat),(i3 pl bt (μ,0)).1):=by
 refine iz λd=>?_
 refine j3.mpr (l4.mpr (t8.mpr (kl.mpr (W0.mpr (p6.mpr (c7 (z:=plD pl) ?_ ?_))))))
 .unfold cH;rw[H.hc];rfl
 refine⟨i5 rfl,h8 (j3.mpr (iT.mpr (l4.mpr (p6.mpr ⟨i5 rfl,iB rfl (h8 ?_)⟩))))⟩
 refine j3.mpr (ot.mpr (W3.mpr (C2.mpr (C6 rfl (c7 rfl ?_)))))
 refine F0 (λm E F=>F=(i3 pl (bt.take m) (μ,0)).1/\∃o4 o5 o6,E=[some (.adr d),some (.dat (.tuple (bt.map cmD))),some (.dat (plD pl)),some (.dat (.int ((i3 pl (bt.take m) (μ,0)).2:Nat))),o4,o5,o6]) _ 0 _ μ ⟨rfl,none,none,none,rfl⟩ ?_ ?_
 .rintro m dd e E F ⟨rfl,o4,o5,o6,rfl⟩
  rw[Nat.zero_add]
  rw[List.getElem?_map]at e
  obtain⟨c,ec,rfl⟩:=Option.map_eq_some_iff.mp e
  obtain⟨hm,hc⟩:=List.getElem?_eq_some_iff.mp ec
  have es:i3 pl (bt.take (m+1)) (μ,0)=A8 pl (i3 pl (bt.take m) (μ,0)) c:=by
   unfold i3
   rw[List.take_succ,ec,List.foldl_append];rfl
  have hll:(i3 pl (bt.take m) (μ,0)).1.line.length<=1000:=by
   have:=Z2 pl (bt.take m) (μ,0)
   rw[List.length_take]at this
   have h2:((μ,0):Mac×Nat).1.line.length = μ.line.length:=rfl
   omega
  have hbl:(i3 pl (bt.take m) (μ,0)).1.book.length<=5000:=by
   have:=(ae (pl:=pl) (bt:=bt.take m) (s:=(μ,0))).2.2.2.2
   rw[List.length_take]at this
   have h2:((μ,0):Mac×Nat).1.book.length = μ.book.length:=rfl
   omega
  rw[es]
  generalize i3 pl (bt.take m) (μ,0)=s at hll hbl
  refine⟨_,rfl,?_⟩
  have hplaces:wp (jr (mE (s2 (isD true) (sW 2) (sC .none))) (s2 geD nN (mE (sV 2))) [some (.adr d),some (.dat (.tuple (bt.map cmD))),some (.dat (plD pl)),some (.dat (.int (s.2:Nat))),some (.dat (.int c.1)),some (.dat (.int c.2)),o6] s.1) λx μ1=>x = .bool (aM pl s.1.line.length) /\ μ1=s.1:=by
   cases pl with
   | none=>exact iK.mpr (W0.mpr (t8.mpr (j9.mpr (n6 rfl (p6.mpr (c7 rfl (c7 rfl (U5.mpr ⟨rfl,rfl⟩))))))))
   | some v =>
    refine iK.mpr (W0.mpr (t8.mpr (j9.mpr (n6 rfl (p6.mpr (c7 rfl (c7 rfl (aD.mpr ?_))))))))
    refine t8.mpr (uz.mpr (W0.mpr (C2.mpr (C6 rfl (c7 rfl ⟨?_,rfl⟩)))))
    show PyData.bool _=PyData.bool _
    unfold aM
    congr 1
    dsimp only
    rw[decide_eq_decide];omega
  refine j3.mpr (l4.mpr (f8 hplaces λx μ1 ⟨e1,e2⟩=>?_))
  subst e1 e2
  refine⟨i5 rfl,h8 (j3.mpr (J3.mpr (W0.mpr (iC.mpr (lM.mpr (j9.mpr (n6 rfl (c7 rfl ?_))))))))⟩
  cases hf:aM pl s.1.line.length with
  | true =>
   refine U5.mpr (K8.mpr (h8 ?_))
   refine j3.mpr (rn (c6.mpr (W0.mpr (t8.mpr (p6.mpr (L7.mpr (c6.mpr (j9.mpr (n6 rfl (d9.mpr (c7 rfl (c7 rfl ?_))))))))))))
   refine c6.mpr (nY.mpr (c6.mpr (W0.mpr (p6.mpr (c6.mpr (W0.mpr (p6.mpr (d9.mpr ⟨_,rfl,by omega,h8 ?_⟩))))))))
   refine iT.mpr (l4.mpr (t8.mpr (j9.mpr (n6 rfl (L7.mpr (c6.mpr (j9.mpr (n6 rfl (d9.mpr (c7 rfl (c7 rfl ⟨i5 rfl,iB rfl ⟨_,rfl,by unfold A8;rw[if_pos hf],_,_,_,by unfold A8;rw[if_pos hf];rfl⟩⟩)))))))))))
  | false =>
   refine aD.mpr (zh (c6.mpr (wg.mpr (c6.mpr (W0.mpr (C2.mpr (C6 rfl (c6.mpr (W0.mpr (C2.mpr (C6 rfl (c6.mpr (W0.mpr (p6.mpr (d9.mpr ⟨_,rfl,by omega,h8 ?_⟩)))))))))))))))
   refine j3.mpr (rn (c6.mpr (W0.mpr (t8.mpr (p6.mpr (L7.mpr (c6.mpr (j9.mpr (n6 rfl (d9.mpr (c7 rfl (c7 rfl ?_))))))))))))
   refine c6.mpr (nY.mpr (c6.mpr (W0.mpr (p6.mpr (c6.mpr (W0.mpr (p6.mpr (d9.mpr ⟨_,rfl,by show s.1.book.length<=10000;omega,h8 ?_⟩))))))))
   refine iT.mpr (l4.mpr (t8.mpr (j9.mpr (n6 rfl (L7.mpr (c6.mpr (j9.mpr (n6 rfl (d9.mpr (c7 rfl (c7 rfl ⟨i5 rfl,iB rfl ⟨_,rfl,by unfold A8;rw[if_neg (show ¬aM pl s.1.line.length=true by rw[hf];simp)],_,_,_,by unfold A8;rw[if_neg (show ¬aM pl s.1.line.length=true by rw[hf];simp)];rfl⟩⟩)))))))))))
 .rintro E F ⟨rfl,o4,o5,o6,rfl⟩
  rw[Nat.zero_add,List.length_map,List.take_length]
  refine h8 (iT.mpr (dI.mpr (C2.mpr (C6 rfl (yr ⟨rfl,rfl⟩)))))
end LM
namespace L3
open PySem PySem.Spec PyProof.Rows L2
variable [Fam]
def N7 (h k:Nat)(ps:List Pn)(i:Nat):Bool:=decide (i∈(order k true ps).take h)
theorem pj {h k:Nat}{kp:Bool}{ps:List Pn}{i:Nat}(hi:i<ps.length)(hb:kp=false->∀p∈ps,p.2.2=false):N7 h k ps i=decide (i∈j5 h k kp ps):=by
 have e:j5 h k kp ps=j5 h k true ps:=by
  cases kp with
  | true=>rfl
  | false=>exact(ll (hb rfl)).symm
 rw[e]
 unfold N7 j5
 rw[decide_eq_decide,List.mem_filter,decide_eq_true_eq]
 exact⟨λz=>⟨List.mem_range.mpr hi,z⟩,λz=>z.2⟩
theorem N4 {l:List Nat}{p q:Nat->Bool}(h:∀i∈l,p i=q i):l.filter p=l.filter q:=List.filter_congr h
theorem uJ {h k:Nat}{kp tn:Bool}{line:List Per}(hb:kp=false->∀p∈line,p.b=false) :
  pnL (bg (N7 h k (pnL line)) kp tn line line.length++aW (N7 h k (pnL line)) kp tn line line.length)=after h k kp tn (pnL line):=by
 have hb':kp=false->∀p∈pnL line,p.2.2=false:=λz p hp=>by
  obtain⟨q,hq,rfl⟩:=List.mem_map.mp hp
  exact hb z q hq
 have pk:∀i∈List.range line.length,N7 h k (pnL line) i=decide (i∈j5 h k kp (pnL line)):=λi hi=>pj (by rw[z7];exact List.mem_range.mp hi) hb'
 have gn:∀i∈List.range line.length,gnP (N7 h k (pnL line)) line i=V4 (j5 h k kp (pnL line)) (pnL line) i:=λi hi=>by
  unfold gnP V4
  rw[pk i hi,eC (List.mem_range.mp hi)];rfl
 have th:∀i∈List.range line.length,eV (thP (N7 h k (pnL line)) kp line i)=O5 (j5 h k kp (pnL line)) kp (pnL line) i:=λi hi=>by
  unfold thP O5 fe
  rw[pk i hi,eC (List.mem_range.mp hi)]
  by_cases z:i∈j5 h k kp (pnL line)
  .simp[z,eV]
  .simp[z]
 unfold bg aW after
 rw[<-List.map_append]
 show List.map eV _=_
 rw[List.map_map]
 show List.map (eV ∘ thP (N7 h k (pnL line)) kp line) _=List.map (O5 (j5 h k kp (pnL line)) kp (pnL line)) (K1 tn (j5 h k kp (pnL line)) (pnL line))
 have hl:(List.filter (λi=>!gnP (N7 h k (pnL line)) line i && !(N7 h k (pnL line) i&&tn)) (List.range line.length)++List.filter (λi=>!gnP (N7 h k (pnL line)) line i&&(N7 h k (pnL line) i&&tn)) (List.range line.length))=K1 tn (j5 h k kp (pnL line)) (pnL line):=by
  unfold K1
  cases tn with
  | false =>
   rw[if_neg (by simp)]
   have e2:List.filter (λi=>!gnP (N7 h k (pnL line)) line i&&(N7 h k (pnL line) i&&false)) (List.range line.length)=[]:=by
    rw[List.filter_eq_nil_iff];intro i _;simp
   rw[e2,List.append_nil,z7]
   exact N4 λi hi=>by rw[gn i hi];simp
  | true =>
   rw[if_pos rfl]
   unfold R7 J1
   congr 1
   .rw[z7]
    refine N4 λi hi=>?_
    rw[gn i hi,pk i hi]
    unfold V4
    cases decide (i∈j5 h k kp (pnL line)) <;> simp
   .have ep:j5 h k kp (pnL line)=(List.range line.length).filter λi=>decide (i∈j5 h k kp (pnL line)):=by
     conv=>lhs;unfold j5
     rw[z7]
     refine N4 λi hi=>?_
     unfold j5
     rw[decide_eq_decide,List.mem_filter,decide_eq_true_eq,z7]
     exact⟨λz=>⟨hi,z⟩,λz=>z.2⟩
    have e3:List.filter (λi=>!decide ((pAt (pnL line) i).2.1<=1)) (j5 h k kp (pnL line))=List.filter (λi=>!decide ((pAt (pnL line) i).2.1<=1)) ((List.range line.length).filter λi=>decide (i∈j5 h k kp (pnL line))):=by rw[<-ep]
    rw[e3,List.filter_filter]
    refine N4 λi hi=>?_
    rw[gn i hi,pk i hi]
    unfold V4
    cases decide (i∈j5 h k kp (pnL line)) <;> simp
 rw[hl]
 refine List.map_congr_left λi hi=>th i ?_
 have:=(fK (tn:=tn) (P:=j5 h k kp (pnL line)) (ps:=pnL line) ah R6).mem_iff.mp hi
 unfold K1 at this
 rw[if_neg (by simp),z7]at this
 exact(List.mem_filter.mp this).1
def T1 (h:Nat)(pl:Option Nat)(r:PyData)(μ:Mac)(bt:Bt):Mac:=fO (N7 h (kOf r) (pnL (i3 pl bt (μ,0)).1.line)) (kb r) (tnB r) (i3 pl bt (μ,0)).1
def bc (kp:Bool)(line:List Per)(n:Nat):Prop:=∀p∈line,0<=p.n/\p.n<(n:Int)/\1<=p.l/\(kp=false->p.b=false)
theorem bc.num {kp:Bool}{line:List Per}{book:List Row}(h:bc kp line book.length):oF line book:=λi hi=>by
 have:j8 line i∈line:=by
  unfold j8
  simp[hi]
 obtain⟨a,b,c,_⟩:=h _ this
 exact⟨a,b,c⟩
theorem eE {kp:Bool}{pl:Option Nat}:∀{bt:Bt} {s:Mac×Nat},bc kp s.1.line s.1.book.length->(∀c∈bt,1<=c.2)->bc kp (i3 pl bt s).1.line (i3 pl bt s).1.book.length
 | [],s,h,_=>h
 | c::bt,s,h,hc=>by
  refine eE (bt:=bt) (s:=A8 pl s c) ?_ λx hx=>hc x (List.mem_cons_of_mem _ hx)
  unfold A8
  split
  .intro p hp
   obtain⟨a,b,c,d⟩:=h p hp
   exact⟨a,by simp;omega,c,d⟩
  .intro p hp
   rcases List.mem_append.mp hp with hp | hp
   .obtain⟨a,b,c,d⟩:=h p hp
    exact⟨a,by simp;omega,c,d⟩
   .simp at hp
    subst hp
    exact⟨by simp,by simp;omega,hc c List.mem_cons_self,λ_=>rfl⟩
theorem pG {line:List Per}{i:Nat}(h:i<line.length):j8 line i∈line:=by unfold j8;simp[h]
theorem vf {P:Nat->Bool}{kp tn:Bool}{μ:Mac}(h:bc kp μ.line μ.book.length):bc kp (fO P kp tn μ).line (fO P kp tn μ).book.length:=by
 unfold fO
 dsimp only
 rw[Z1]
 have key:∀i,i < μ.line.length->gnP P μ.line i=false->(0<=(thP P kp μ.line i).n/\(thP P kp μ.line i).n<(μ.book.length:Int)/\1<=(thP P kp μ.line i).l/\(kp=false->(thP P kp μ.line i).b=false)):=λi hi hg=>by
  obtain⟨a,b,c,d⟩:=h _ (pG hi)
  unfold thP
  unfold gnP at hg
  cases hp:P i with
  | false=>rw[if_neg (by simp)];exact⟨a,b,c,d⟩
  | true =>
   rw[if_pos rfl]
   rw[hp]at hg
   have:¬(j8 μ.line i).l<=1:=by simpa using hg
   exact⟨a,b,by show 1<=(j8 μ.line i).l-1;omega,λz=>z⟩
 intro p hp
 rcases List.mem_append.mp hp with hp | hp
 .obtain⟨i,hi,rfl⟩:=List.mem_map.mp hp
  obtain⟨h1,h2⟩:=List.mem_filter.mp hi
  exact key i (List.mem_range.mp h1) (by simp at h2;simpa using h2.1)
 .obtain⟨i,hi,rfl⟩:=List.mem_map.mp hp
  obtain⟨h1,h2⟩:=List.mem_filter.mp hi
  exact key i (List.mem_range.mp h1) (by simp at h2;simpa using h2.1)
theorem uZ {h:Nat}{pl:Option Nat}{r:PyData}{μ:Mac}{bt:Bt}(hk:bc (kb r) μ.line μ.book.length)(hc:∀c∈bt,1<=c.2):pnL (T1 h pl r μ bt).line=r8 h (kOf r) (kb r) (tnB r) pl (pnL μ.line) bt:=by
 have ok:=eE (kp:=kb r) (pl:=pl) (s:=(μ,0)) hk hc
 unfold T1 fO r8
 dsimp only
 rw[uJ λz p hp=>(ok p hp).2.2.2 z,(iM (pl:=pl) (bt:=bt) (s:=(μ,0))).1]
theorem vC {h:Nat}{pl:Option Nat}{r:PyData}{μ:Mac}{bt:Bt}(hk:bc (kb r) μ.line μ.book.length)(hc:∀c∈bt,1<=c.2):bc (kb r) (T1 h pl r μ bt).line (T1 h pl r μ bt).book.length:=vf (eE (s:=(μ,0)) hk hc)
theorem ia {h:Nat}{pl:Option Nat}{r:PyData}{μ:Mac}{bt:Bt}:(T1 h pl r μ bt).book.length = μ.book.length+bt.length/\(T1 h pl r μ bt).t = μ.t+1/\(T1 h pl r μ bt).h = μ.h/\(T1 h pl r μ bt).c = μ.c/\(T1 h pl r μ bt).u = μ.u:=by
 obtain⟨h1,h2,h3,h4,h5⟩:=ae (pl:=pl) (bt:=bt) (s:=(μ,0))
 unfold T1 fO
 dsimp only
 rw[Z1]
 exact⟨h5,by rw[h4],h1,h2,h3⟩
end L3
namespace LM
open PySem PySem.Spec PyProof.Rows L2 L3
variable [Fam][LamC]
local instance regQ:Feeds:=G5
def Ej:List PyData->Mac->Option (PyData×Mac):=ji ["_law_m","_law_comers","_law_lost","_law_some","_law_stay","_law_turned","_law_gone","_law_place","_law_person","_law_row"] (mSq (u5 2 (aX Ge (b8 (mE (sV 1)) g7))) (mSq (u5 3 (aX Er g7)) oA))
def lI (h:Nat)(pl:Option Nat)(r:PyData)(μ:Mac)(bt:Bt):List Int:=cB (N7 h (kOf r) (pnL (i3 pl bt (μ,0)).1.line)) (i3 pl bt (μ,0)).1.line (i3 pl bt (μ,0)).1.line.length
theorem HouseOk.come {μ:Mac}{h:Nat}{pl:Option Nat}{r:PyData}(H:HouseOk μ h pl r){bt:Bt}:HouseOk (i3 pl bt (μ,0)).1 h pl r:=by
 obtain⟨h1,h2,h3,h4,h5⟩:=ae (pl:=pl) (bt:=bt) (s:=(μ,0))
 exact⟨h1.trans H.hh,(congrArg fo h2).trans H.hc,H.hr.trans (by rw[h3]),H.w8⟩
theorem HouseOk.beat {μ:Mac}{h:Nat}{pl:Option Nat}{r:PyData}(H:HouseOk μ h pl r){bt:Bt}:HouseOk (T1 h pl r μ bt) h pl r:=by
 obtain⟨_,_,h1,h2,h3⟩:=ia (h:=h) (pl:=pl) (r:=r) (μ:=μ) (bt:=bt)
 exact⟨h1.trans H.hh,(congrArg fo h2).trans H.hc,H.hr.trans (by rw[h3]),H.w8⟩
theorem vp {μ:Mac}{h:Nat}{pl:Option Nat}{r:PyData}{bt:Bt}(H:HouseOk μ h pl r)(hl:μ.line.length+bt.length<64)(hb:μ.book.length+bt.length<=5000)(hk:bc (kb r) μ.line μ.book.length)(hc:∀c∈bt,1<=c.2) :
  Ej [.tuple (bt.map cmD)] μ=some (.tuple [.int (D8 pl (pnL μ.line) bt:Nat),.list ((lI h pl r μ bt).map PyData.int)],T1 h pl r μ bt):=by
 refine iz λd=>?_
 have hlen:=Z2 pl bt (μ,0)
 have h2:((μ,0):Mac×Nat).1.line.length = μ.line.length:=rfl
 have H1:=H.come (bt:=bt)
 have ok:=eE (kp:=kb r) (pl:=pl) (s:=(μ,0)) hk hc
 have hlost:(i3 pl bt (μ,0)).2=D8 pl (pnL μ.line) bt:=by
  rw[(iM (pl:=pl) (bt:=bt) (s:=(μ,0))).2]
  unfold D8
  rw[z7];simp
 refine j3.mpr (l4.mpr (fw.mpr (c6.mpr (W0.mpr (C2.mpr (C6 rfl (d9.mpr ?_)))))))
 rw[wx H (by omega) hb]
 refine a8.mpr ⟨i5 rfl,h8 ?_⟩
 refine j3.mpr (l4.mpr (fw.mpr (d9.mpr ?_)))
 rw[pB H1 (by omega)]
 refine a8.mpr ⟨i5 rfl,h8 ?_⟩
 show wp (oA [some (.adr d),some (.dat (.tuple (bt.map cmD))),some (.dat (.int ((i3 pl bt (μ,0)).2:Nat))),some (.dat (.list (l6 ((order (kOf r) true (pnL (i3 pl bt (μ,0)).1.line)).take h)))),none,none,none,none,none,none] (i3 pl bt (μ,0)).1) _
 unfold oA
 show wp (if (10:Nat)=10 then(kh (.list (l6 ((order (kOf r) true (pnL (i3 pl bt (μ,0)).1.line)).take h))) (i3 pl bt (μ,0)).1).bind _ else none) _
 rw[if_pos rfl]
 have hkd:fy (i3 pl bt (μ,0)).1.u=some (kb r):=by
  unfold fy jS
  rw[<-H1.hr]
  obtain⟨x,e,hx⟩:=M6 H1.w8
  rw[e,in4 hx];rfl
 have htn:decide ((i3 pl bt (μ,0)).1.u = "turns")=tnB r:=by rw[H1.hr];rfl
 have hin:∀i<(i3 pl bt (μ,0)).1.line.length,inB (.list (l6 ((order (kOf r) true (pnL (i3 pl bt (μ,0)).1.line)).take h))) i=some (N7 h (kOf r) (pnL (i3 pl bt (μ,0)).1.line) i):=λi hi=>by
  unfold inB
  rw[sQ λj hj=>?_]
  .rfl
  .have:=List.mem_range.mp ((r9 _ _ _).mem_iff.mp (List.mem_of_mem_take hj))
   rw[z7]at this;omega
 rw[uN (by omega) hkd ok.num hin,htn]
 refine a8.mpr ⟨rfl,?_⟩
 show some (PyData.tuple [.int ((i3 pl bt (μ,0)).2:Nat),_])=_
 rw[hlost];rfl
end LM
namespace L3
open PySem PySem.Spec PyProof.Rows L2
variable [Fam]
def D6 (h:Nat)(pl:Option Nat)(r:PyData)(μ:Mac)(way:List Bt)(i:Nat):Mac:=(way.take i).foldl (T1 h pl r) μ
theorem Q2 {h:Nat}{pl:Option Nat}{r:PyData}{μ:Mac}{way:List Bt}{i:Nat}(hi:i<way.length):D6 h pl r μ way (i+1)=T1 h pl r (D6 h pl r μ way i) (p0 way i):=by
 unfold D6 p0
 rw[List.take_succ,List.getElem?_eq_getElem hi,List.foldl_append]
 simp[hi]
theorem eT {way:List Bt}(hw:∀b∈way,∀c∈b,1<=c.2){i:Nat}(hi:i<way.length):∀c∈p0 way i,1<=c.2:=by
 have:p0 way i∈way:=by unfold p0;simp[hi]
 exact hw _ this
theorem fE {h:Nat}{pl:Option Nat}{r:PyData}{μ:Mac}{way:List Bt}(hw:∀b∈way,∀c∈b,1<=c.2)(hk:bc (kb r) μ.line μ.book.length):∀{i:Nat},i<=way.length->bc (kb r) (D6 h pl r μ way i).line (D6 h pl r μ way i).book.length
 | 0,_=>hk
 | i+1,hi=>by
  rw[Q2 (by omega)]
  exact vC (fE hw hk (by omega)) (eT hw (by omega))
theorem gc {h:Nat}{pl:Option Nat}{r:PyData}{μ:Mac}{way:List Bt}(hw:∀b∈way,∀c∈b,1<=c.2)(hk:bc (kb r) μ.line μ.book.length):∀{i:Nat},i<=way.length->pnL (D6 h pl r μ way i).line=G3 (r8 h (kOf r) (kb r) (tnB r) pl) (pnL μ.line) way i
 | 0,_=>by rw[U4];rfl
 | i+1,hi=>by
  rw[Q2 (by omega),uZ (fE hw hk (by omega)) (eT hw (by omega)),gc hw hk (by omega),U8 (by omega)]
theorem bj {h:Nat}{pl:Option Nat}{r:PyData}{μ:Mac}{way:List Bt}:∀{i:Nat},i<=way.length->(D6 h pl r μ way i).book.length = μ.book.length+z9 (way.take i)/\(D6 h pl r μ way i).t = μ.t+i
 | 0,_=>by constructor <;> simp[D6,z9]
 | i+1,hi=>by
  obtain⟨h1,h2⟩:=bj (h:=h) (pl:=pl) (r:=r) (μ:=μ) (way:=way) (i:=i) (by omega)
  obtain⟨b1,b2,_⟩:=ia (h:=h) (pl:=pl) (r:=r) (μ:=D6 h pl r μ way i) (bt:=p0 way i)
  rw[Q2 (by omega),b1,b2,h1,h2,P5 (by omega)]
  constructor
  .omega
  .push_cast;omega
end L3
namespace LM
open PySem PySem.Spec PyProof.Rows L2 L3
section
variable [Fam][LamC]
local instance regR:Feeds:=G5
theorem dk {h:Nat}{pl:Option Nat}{r:PyData}{μ:Mac}{way:List Bt}(H:HouseOk μ h pl r):∀{i:Nat},i<=way.length->HouseOk (D6 h pl r μ way i) h pl r
 | 0,_=>H
 | i+1,hi=>by rw[Q2 (by omega)];exact(dk H (by omega)).beat
theorem wc {h:Nat}{pl:Option Nat}{r:PyData}{μ:Mac}{way:List Bt}{i:Nat}(H:HouseOk μ h pl r)(hw:∀b∈way,∀c∈b,1<=c.2)(hk:bc (kb r) μ.line μ.book.length)(hl:μ.line.length+z9 way<64)(hb:μ.book.length<=4000)(hi:i<way.length) :
  Ej [btD (p0 way i)] (D6 h pl r μ way i)=some (.tuple [.int (D8 pl (G3 (r8 h (kOf r) (kb r) (tnB r) pl) (pnL μ.line) way i) (p0 way i):Nat),.list ((lI h pl r (D6 h pl r μ way i) (p0 way i)).map PyData.int)],D6 h pl r μ way (i+1)):=by
 have ep:=gc (h:=h) (pl:=pl) hw hk (Nat.le_of_lt hi)
 have hfit:=ko (h:=h) (k:=kOf r) (kp:=kb r) (tn:=tnB r) (pl:=pl) (ps:=pnL μ.line) (way:=way) (by rw[z7];exact hl) (i:=i) hi
 have elen:(D6 h pl r μ way i).line.length=(G3 (r8 h (kOf r) (kb r) (tnB r) pl) (pnL μ.line) way i).length:=by rw[<-ep,z7]
 obtain⟨hbk,_⟩:=bj (h:=h) (pl:=pl) (r:=r) (μ:=μ) (way:=way) (Nat.le_of_lt hi)
 have hle:z9 (way.take i)+(p0 way i).length<=z9 way:=by
  rw[<-P5 hi];exact nE way (i+1)
 rw[Q2 hi,<-ep]
 exact vp (dk H (Nat.le_of_lt hi)) (by rw[elen];exact hfit) (by omega) (fE hw hk (Nat.le_of_lt hi)) (eT hw hi)
end
section
variable [Fam][LamC]
local instance regS:Feeds:=G5
def cI (pl:Option Nat):Option Int:=pl.map λv=>(v:Int)
theorem wQ (pl:Option Nat):fo (cI pl)=plD pl:=by cases pl <;> rfl
theorem rC {h:Nat}{pl:Option Nat}{x:Str}:mkHouse (.tuple [.int (h:Int),plD pl,.str x])=some ⟨(h:Int),cI pl,x,[],[],0⟩:=by cases pl <;> rfl
end
end LM
namespace L3
open PySem PySem.Spec PyProof.Rows L2
variable [Fam]
theorem qA {h k:Nat}{kp tn:Bool}{pl:Option Nat}{bt:Bt}(hc:¬D8 pl [] bt<bt.length):r8 h k kp tn pl [] bt=[]:=by
 have hr:C1 pl 0 bt.length=0\/bt.length=0:=by
  unfold D8 C1 at *
  cases pl with
  | none=>right;dsimp only at hc;omega
  | some v =>
   dsimp only[List.length_nil]at hc ⊢
   omega
 have e:B3 pl [] bt=[]:=by
  unfold B3
  rcases hr with z | z
  .rw[show([]:List Pn).length=0 from rfl,z];rfl
  .rw[List.length_eq_zero_iff.mp z];simp
 unfold r8
 rw[e]
 unfold after K1 R7 J1
 have:j5 h k kp []=[]:=by unfold j5;rfl
 rw[this]
 cases tn <;> rfl
abbrev C3 (h:Nat)(pl:Option Nat)(r:PyData)(way:List Bt):Nat->Bool:=λi=>decide (D8 pl (G3 (r8 h (kOf r) (kb r) (tnB r) pl) [] way i) (p0 way i)<(p0 way i).length)
abbrev y9 (h:Nat)(pl:Option Nat)(r:PyData)(way:List Bt):Nat->Bool:=λi=>decide ((G3 (r8 h (kOf r) (kb r) (tnB r) pl) [] way i).length=0)
theorem vA {h:Nat}{pl:Option Nat}{r:PyData}{way:List Bt}{i:Nat}(hi:i<=way.length):y9 h pl r way i=(q5 (C3 h pl r way) (y9 h pl r way) i).2.isNone:=by
 refine(rL (n:=way.length) ?_ ?_ i hi).2
 .show decide ((G3 (r8 h (kOf r) (kb r) (tnB r) pl) [] way 0).length=0)=true
  rw[U4];rfl
 .intro j hj hv hc
  have hv:=of_decide_eq_true hv
  have hc:=of_decide_eq_false hc
  show decide ((G3 (r8 h (kOf r) (kb r) (tnB r) pl) [] way (j+1)).length=0)=true
  rw[U8 hj]
  rw[List.length_eq_zero_iff.mp hv]at hc ⊢
  rw[qA hc];rfl
end L3
namespace LM
open PySem PySem.Spec PyProof.Rows L2 L3
variable [Fam][LamC]
local instance regT:Feeds:=G5
def FA:List DV->@M fdI PyData:=ox ["_law_house_here","_law_way_here","_law_m","_law_found","_law_begin","_law_beat_here","_law_at","_law_was_empty","_law_lost","_law_gone"] 2 0 mkHouse (mSq (mL 2 (cc 3 (Y9 g7)))
  (mSq (mL 2 (u5 4 (sC .none)))
  (mSq (hV (bW (sV 1)) (bN 5) (mSq (u5 6 sAt)
  (mSq (u5 7 pM)
  (mSq (X7 (P8 2 (j7 (bN 8) (j7 (bN 9) R3))) (aX Ej (b8 (mE (sV 5)) g7)))
  (mSq (mL 2 (mIf (av (uT (sW 7)) (uB (s2 ltD (sW 8) (sN R1 (b8 (sW 5) g7))))) (u5 4 (sV 6)) mNx))
  (mIf (av (mE (uB (s2 (isD true) (sW 4) (sC .none)))) (uB pM)) (mSq (O2 3 (J5 (b8 (mE (sV 4)) (b8 sAt g7))))
  (mL 2 (u5 4 (sC .none)))) mNx))))))
  (mL 2 (mRt (s2 Q1 (sW 3) (s2 dm (vy (b8 (J5 (b8 (sV 4) (b8 (sC .none) g7))) g7)) (sN iP (b8 (s2 (isD true) (sW 4) (sC .none)) g7)))))))))
abbrev aw (h:Nat)(pl:Option Nat)(x:Str):Mac:=⟨(h:Int),cI pl,x,[],[],0⟩
theorem oH {h:Nat}{pl:Option Nat}{x:Str}{kp:Bool}:bc kp (aw h pl x).line (aw h pl x).book.length:=λp hp=>by cases hp
theorem ly {h:Nat}{pl:Option Nat}{x:Str}(hr:PyData.str x∈W8):HouseOk (aw h pl x) h pl (.str x):=⟨rfl,wQ pl,rfl,hr⟩
theorem kX {h:Nat}{pl:Option Nat}{x:Str}{way:List Bt}{i:Nat}(hw:∀b∈way,∀c∈b,1<=c.2)(hi:i<=way.length):(D6 h pl (.str x) (aw h pl x) way i).line.isEmpty=y9 h pl (.str x) way i:=by
 have e:=gc (h:=h) (pl:=pl) (r:=.str x) (μ:=aw h pl x) hw oH hi
 have e2:=congrArg List.length e
 rw[z7]at e2
 have e3:(pnL (aw h pl x).line)=[]:=rfl
 rw[e3]at e2
 show _=decide ((G3 (r8 h (kOf (.str x)) (kb (.str x)) (tnB (.str x)) pl) [] way i).length=0)
 rw[<-e2]
 cases(D6 h pl (.str x) (aw h pl x) way i).line <;> simp
theorem xN {h:Nat}{pl:Option Nat}{x:Str}{way:List Bt}{i:Nat}(hi:i<=way.length):(D6 h pl (.str x) (aw h pl x) way i).t=(i:Int):=by
 have:=(bj (h:=h) (pl:=pl) (r:=.str x) (μ:=aw h pl x) hi).2
 rw[this]
 show(0:Int)+i=i
 omega
theorem Ad {h:Nat}{pl:Option Nat}{x:Str}{way:List Bt}{i:Nat}(hr:PyData.str x∈W8)(hw:∀b∈way,∀c∈b,1<=c.2)(hl:z9 way<64)(hi:i<way.length) :
  Ej [btD (p0 way i)] (D6 h pl (.str x) (aw h pl x) way i)=some (.tuple [.int (D8 pl (G3 (r8 h (kOf (.str x)) (kb (.str x)) (tnB (.str x)) pl) [] way i) (p0 way i):Nat),.list ((lI h pl (.str x) (D6 h pl (.str x) (aw h pl x) way i) (p0 way i)).map PyData.int)],D6 h pl (.str x) (aw h pl x) way (i+1)) :=
 wc (μ:=aw h pl x) (ly hr) hw oH (by show 0+z9 way<64;omega) (by show 0<=4000;omega) hi
def gX (q:Nat×Nat):PyData:=.tuple [.int (q.1:Int),.int (q.2:Int)]
theorem due22_w {r:PyData}{pl:Option Nat}{h:Nat}{way:List Bt}{F:FdS}{Q:PyData->FdS->Prop}(hr:r∈W8)(hw:∀b∈way,∀c∈b,1<=c.2)(hl:z9 way<64)(hn:way.length<=1000)
  (q:Q (.list ((S4 (q5 (C3 h pl r way) (y9 h pl r way) way.length)).map sbD)) F) :
  wp (FA [.dat (.tuple [.int (h:Int),plD pl,r]),.dat (.tuple (way.map btD))] F) Q:=by
 obtain⟨x,rfl,_⟩:=M6 hr
 unfold FA
 refine zw (ds:=[.tuple [.int (h:Int),plD pl,.str x],.tuple (way.map btD)]) rfl rC (λd=>?_) q
 refine j3.mpr (iT.mpr (cY.mpr (T5.mpr (d9.mpr ⟨D7 rfl,i5 rfl,iB rfl (h8 ?_)⟩))))
 refine j3.mpr (iT.mpr (l4.mpr (p6.mpr ⟨i5 rfl,iB rfl (h8 ?_)⟩)))
 refine j3.mpr (ot.mpr (W3.mpr (C2.mpr (C6 rfl (c7 rfl ?_)))))
 refine F0 (λm E F=>m<=way.length/\F=D6 h pl (.str x) (aw h pl x) way m/\∃o5 o6 o7 o8 o9,E=[some (.dat (.tuple [.int (h:Int),plD pl,.str x])),some (.dat (.tuple (way.map btD))),some (.adr d),some (.own ((q5 (C3 h pl (.str x) way) (y9 h pl (.str x) way) m).1.map gX)),some (.dat (bsE (q5 (C3 h pl (.str x) way) (y9 h pl (.str x) way) m).2)),o5,o6,o7,o8,o9]) _ 0 _ _ ⟨Nat.zero_le _,rfl,none,none,none,none,none,rfl⟩ ?_ ?_
 .rintro m dd e E F1 ⟨_,rfl,o5,o6,o7,o8,o9,rfl⟩
  rw[Nat.zero_add]
  obtain⟨hm,rfl⟩:=sM e
  refine⟨_,rfl,?_⟩
  have hv0:=kX (h:=h) (pl:=pl) (x:=x) hw (Nat.le_of_lt hm)
  have hv1:=kX (h:=h) (pl:=pl) (x:=x) hw (show m+1<=way.length from hm)
  have ht0:=xN (h:=h) (pl:=pl) (x:=x) (way:=way) (Nat.le_of_lt hm)
  have ht1:=xN (h:=h) (pl:=pl) (x:=x) (way:=way) (show m+1<=way.length from hm)
  have hbv:=vA (h:=h) (pl:=pl) (r:=.str x) (way:=way) (Nat.le_of_lt hm)
  have hlen:(q5 (C3 h pl (.str x) way) (y9 h pl (.str x) way) m).1.length<=100000:=Nat.le_trans (aV _ _ m) (by omega)
  have hbeat:=Ad (h:=h) (pl:=pl) hr hw hl hm
  have hcame:C3 h pl (.str x) way m=decide (D8 pl (G3 (r8 h (kOf (.str x)) (kb (.str x)) (tnB (.str x)) pl) [] way m) (p0 way m)<(p0 way m).length):=rfl
  have ebs:q5 (C3 h pl (.str x) way) (y9 h pl (.str x) way) (m+1)=(match (if (q5 (C3 h pl (.str x) way) (y9 h pl (.str x) way) m).2=none/\C3 h pl (.str x) way m=true then some m else(q5 (C3 h pl (.str x) way) (y9 h pl (.str x) way) m).2) with
   | some j=>if y9 h pl (.str x) way (m+1)=true then((q5 (C3 h pl (.str x) way) (y9 h pl (.str x) way) m).1++[(j,m+1)],none) else((q5 (C3 h pl (.str x) way) (y9 h pl (.str x) way) m).1,some j)
   | none=>((q5 (C3 h pl (.str x) way) (y9 h pl (.str x) way) m).1,none)):=rfl
  refine j3.mpr (l4.mpr (nY.mpr ⟨i5 rfl,h8 ?_⟩))
  refine j3.mpr (l4.mpr (ud.mpr ⟨i5 rfl,h8 ?_⟩))
  refine j3.mpr (aO.mpr (fw.mpr (c6.mpr (W0.mpr (C2.mpr (C6 rfl (d9.mpr ?_)))))))
  rw[hbeat]
  refine a8.mpr (c7 rfl (h8 ?_))
  rw[hv0,ht0]
  generalize q5 (C3 h pl (.str x) way) (y9 h pl (.str x) way) m=b0 at hbv hlen ebs
  obtain⟨found,beg⟩:=b0
  have last:∀(b1:Option Nat) (o5 o6 o7 o8 o9:Option DV),(match b1 with
    | some j=>if y9 h pl (.str x) way (m+1)=true then(found++[(j,m+1)],none) else(found,some j)
    | none=>(found,none):List (Nat×Nat)×Option Nat)=q5 (C3 h pl (.str x) way) (y9 h pl (.str x) way) (m+1) ->
    wp (mIf (av (mE (uB (s2 (isD true) (sW 4) (sC .none)))) (uB pM)) (mSq (O2 3 (J5 (b8 (mE (sV 4)) (b8 sAt g7)))) (mL 2 (u5 4 (sC .none)))) mNx [some (.dat (.tuple [.int (h:Int),plD pl,.str x])),some (.dat (.tuple (way.map btD))),some (.adr d),some (.own (found.map gX)),some (.dat (bsE b1)),o5,o6,o7,o8,o9] (D6 h pl (.str x) (aw h pl x) way (m+1))) λo F'=>∃E2,o = .nx E2/\m+1<=way.length/\F'=D6 h pl (.str x) (aw h pl x) way (m+1)/\∃o5 o6 o7 o8 o9,E2=[some (.dat (.tuple [.int (h:Int),plD pl,.str x])),some (.dat (.tuple (way.map btD))),some (.adr d),some (.own ((q5 (C3 h pl (.str x) way) (y9 h pl (.str x) way) (m+1)).1.map gX)),some (.dat (bsE (q5 (C3 h pl (.str x) way) (y9 h pl (.str x) way) (m+1)).2)),o5,o6,o7,o8,o9]:=λb1 o5 o6 o7 o8 o9 he=>by
   cases b1 with
   | none =>
    refine J3.mpr (V8.mpr (W0.mpr (O4.mpr (t8.mpr (j9.mpr (n6 rfl (p6.mpr (c7 rfl (c7 rfl (U5.mpr (U5.mpr (K8.mpr ⟨_,rfl,hm,rfl,_,_,_,_,_,by rw[<-he]⟩))))))))))))
   | some jj =>
    refine J3.mpr (V8.mpr (W0.mpr (O4.mpr (t8.mpr (j9.mpr (n6 rfl (p6.mpr (c7 rfl (c7 rfl (aD.mpr (O4.mpr (ud.mpr (c7 rfl ?_)))))))))))))
    rw[hv1]
    cases hv:y9 h pl (.str x) way (m+1) with
    | false =>
     refine U5.mpr (K8.mpr ⟨_,rfl,hm,rfl,o5,o6,o7,o8,o9,?_⟩)
     rw[hv]at he
     rw[<-he];rfl
    | true =>
     rw[hv]at he
     refine aD.mpr (j3.mpr (V2 rfl (by rw[List.length_map];exact hlen) (O3.mpr (c6.mpr (W0.mpr (C2.mpr (C6 rfl (c6.mpr (nY.mpr (d9.mpr ⟨D7 rfl,h8 ?_⟩)))))))))) 
     refine iT.mpr (l4.mpr (p6.mpr ⟨i5 rfl,iB rfl ⟨_,rfl,hm,rfl,_,_,_,_,_,by rw[<-he,ht1];simp only[if_pos,List.map_append,List.map_cons,List.map_nil,gX,bsE];rfl⟩⟩))
  refine j3.mpr (iT.mpr (J3.mpr (V8.mpr (lM.mpr (j9.mpr (n6 rfl (c7 rfl ?_)))))))
  have hbv:y9 h pl (.str x) way m=beg.isNone:=hbv
  rw[hbv]
  cases beg with
  | some b =>
   refine U5.mpr (U5.mpr (K8.mpr (iB rfl (h8 (last (some b) _ _ _ _ _ ?_)))))
   rw[ebs];rfl
  | none =>
   refine aD.mpr (O4.mpr (t8.mpr (j9.mpr (n6 rfl (L7.mpr (c6.mpr (j9.mpr (n6 rfl (d9.mpr (c7 rfl (c7 rfl (c7 rfl ?_))))))))))))
   have hcc:decide (((D8 pl (G3 (r8 h (kOf (.str x)) (kb (.str x)) (tnB (.str x)) pl) [] way m) (p0 way m):Nat):Int)<(((p0 way m).map cmD).length:Nat))=C3 h pl (.str x) way m:=by
    rw[hcame,List.length_map,decide_eq_decide];omega
   show cIf (decide (((D8 pl (G3 (r8 h (kOf (.str x)) (kb (.str x)) (tnB (.str x)) pl) [] way m) (p0 way m):Nat):Int)<(((p0 way m).map cmD).length:Nat))) _ _
   rw[hcc]
   cases hc:C3 h pl (.str x) way m with
   | true =>
    rw[hc]at ebs
    refine aD.mpr (l4.mpr (C2.mpr (C6 rfl ⟨i5 rfl,iB rfl (h8 (last (some m) _ _ _ _ _ ?_))⟩)))
    rw[ebs];simp
   | false =>
    rw[hc]at ebs
    refine U5.mpr (K8.mpr (iB rfl (h8 (last none _ _ _ _ _ ?_))))
    rw[ebs];simp
 .rintro E F1 ⟨_,rfl,o5,o6,o7,o8,o9,rfl⟩
  rw[Nat.zero_add,List.length_map]
  have hlen:(q5 (C3 h pl (.str x) way) (y9 h pl (.str x) way) way.length).1.length<=1000:=Nat.le_trans (aV _ _ _) hn
  generalize q5 (C3 h pl (.str x) way) (y9 h pl (.str x) way) way.length=b0 at hlen
  obtain⟨found,beg⟩:=b0
  dsimp only at hlen
  refine h8 (iT.mpr (dI.mpr (t8.mpr (j9.mpr (dB rfl (t8.mpr (tV.mpr (c6.mpr (O3.mpr (c6.mpr (C2.mpr (C6 rfl (c6.mpr (p6.mpr (d9.mpr ⟨D7 rfl,d9.mpr ⟨D7 rfl,?_⟩⟩)))))))))))))))
  refine L7.mpr (c6.mpr (t8.mpr (j9.mpr (n6 rfl (p6.mpr (c7 rfl (d9.mpr (c7 rfl ?_))))))))
  cases beg with
  | none =>
   refine c7 (xm (k:=0) (by decide)) (c7 (vm (by simp;omega)) (yr ?_))
   show some (PyData.list _)=some (PyData.list _)
   unfold S4
   simp[gX,sbD,bsE,Function.comp]
  | some b =>
   refine c7 (xm (k:=1) (by decide)) (c7 (vm (by simp;omega)) (yr ?_))
   show some (PyData.list _)=some (PyData.list _)
   unfold S4
   simp[gX,sbD,bsE,Function.comp]
end LM
namespace L3
open PySem PySem.Spec PyProof.Rows L2
section
variable [Fam]
theorem iZ {a b:DE->M Out}{c:DE->M (List PyData)}:gSq a (gSq b c)=gSq (mSq a b) c:=by
 funext E F
 unfold gSq mSq
 rw[Option.bind_assoc]
 cases a E F with
 | none=>rfl
 | some p =>
  obtain⟨o,F1⟩:=p
  cases o <;> rfl
theorem my {a b c:DE->M Out}:mSq a (mSq b c)=mSq (mSq a b) c:=by
 funext E F
 unfold mSq
 rw[Option.bind_assoc]
 cases a E F with
 | none=>rfl
 | some p =>
  obtain⟨o,F1⟩:=p
  cases o <;> rfl
theorem yw {a:DE->M Out}{b:DE->M (List PyData)}{E:DE}{F:FdS}{Q:List PyData->FdS->Prop}(h:wp (a E F) λo F1=>∃E1,o = .nx E1/\wp (b E1 F1) Q):wp (gSq a b E F) Q:=by
 unfold gSq
 rw[b7]
 refine f8 h λo F1 ⟨E1,e,q⟩=>?_
 subst e
 exact q
abbrev zb:DE->M Out:=(mSq (X7 (P8 3 (j7 (bN 2) (j7 (bN 3) (j7 (bN 4) R3)))) (p8 kT (vD (sV 0) (vD (sV 1) (vD (sC (.tuple [])) D2)))))
  (mSq (cc 5 (Y9 g7))
  (mSq (u5 6 (sC .none))
  (mSq (Z0 (dN (sV 1)) (P8 2 (j7 (bN 7) (j7 (bN 8) R3))) (mSq (mIf (av (uB (s2 (isD false) (sW 6) (sC .none))) (uB (s2 gtD (sN R1 (b8 (sW 8) g7)) (s2 ixD (sW 3) (sW 7))))) (u5 6 (sV 7)) mNx)
  (mIf (av (uB (s2 (isD true) (sW 6) (sC .none))) (uB (s2 (eqD false) (sN R1 (b8 (s2 ixD (sW 2) (s2 Q1 (sW 7) (sC (.int 1)))) g7)) (sC (.int 0))))) (mSq (O2 5 (J5 (b8 (sV 6) (b8 (s2 Q1 (sW 7) (sC (.int 1))) g7))))
  (u5 6 (sC .none))) mNx)))
  (mIf (uB (s2 (isD true) (sW 6) (sC .none))) (O2 5 (J5 (b8 (sV 6) (b8 (sC .none) g7)))) mNx)))))
section
variable {F:FdS}
theorem uR {r:PyData}{pl:Option Nat}{way:List Bt}{h:Nat}(hr:r∈W8)(hp:∀i<way.length,gC pl (G3 (r8 h (kOf r) (kb r) (tnB r) pl) [] way i).length)(hl:z9 way<64)(hn:way.length<=1000)
{Q:Out->FdS->Prop}
  (q:∀o2 o3 o4 o6 o7 o8,Q (.nx [some (.dat (.tuple [.int (h:Int),plD pl,r])),some (.dat (.tuple (way.map btD))),o2,o3,o4,some (.own ((S4 (q5 (λi=>decide (D8 pl (G3 (r8 h (kOf r) (kb r) (tnB r) pl) [] way i) (p0 way i)<(p0 way i).length)) (λi=>decide ((G3 (r8 h (kOf r) (kb r) (tnB r) pl) [] way i).length=0)) way.length)).map sbD)),o6,o7,o8]) F) :
  wp (zb [some (.dat (.tuple [.int (h:Int),plD pl,r])),some (.dat (.tuple (way.map btD))),none,none,none,none,none,none,none] F) Q:=by
 refine j3.mpr (aO.mpr (B9.mpr (Q5.mpr (C2.mpr (C6 rfl (Q5.mpr (C2.mpr (C6 rfl (Q5.mpr (p6.mpr (E3.mpr ?_))))))))))) 
 refine Ar (ps:=[]) hr hp (by simpa using hl) hn (c7 rfl (h8 ?_))
 generalize G3 (r8 h (kOf r) (kb r) (tnB r) pl) [] way=st at q hp
 refine j3.mpr (cY.mpr (T5.mpr (d9.mpr ⟨sz (by decide),i5 rfl,h8 (j3.mpr (l4.mpr (p6.mpr ⟨i5 rfl,h8 (j3.mpr (V3.mpr (tU (C2.mpr (C6 rfl (c7 dc ?_))))))⟩)))⟩)))
 rw[vJ]
 generalize hcame:(λi=>decide (D8 pl (st i) (p0 way i)<(p0 way i).length))=came at q
 generalize hvoid:(λi=>decide ((st i).length=0))=void at q
 refine F0 (λm E F'=>F'=F/\∃o7 o8,E=[some (.dat (.tuple [.int (h:Int),plD pl,r])),some (.dat (.tuple (way.map btD))),some (.dat (.tuple ((List.range (way.length+1)).map λi=>stD (st i)))),some (.dat (.tuple ((List.range way.length).map λi=>.int (D8 pl (st i) (p0 way i):Nat)))),some (.dat (.tuple ((List.range way.length).map λi=>.int (aI h (kOf r) (kb r) pl (st i) (p0 way i):Nat)))),some (.own ((q5 came void m).1.map λq=>.tuple [.int (q.1:Int),.int (q.2:Int)])),some (.dat (bsE (q5 came void m).2)),o7,o8]) _ 0 _ F ⟨rfl,none,none,rfl⟩ ?_ ?_
 .rintro m d e E F1 ⟨rfl,o7,o8,rfl⟩
  rw[Nat.zero_add]
  obtain⟨hm,rfl⟩:=vz e
  refine⟨_,rfl,?_⟩
  have hc:came m=decide (D8 pl (st m) (p0 way m)<(p0 way m).length):=by rw[<-hcame]
  have hv:void (m+1)=decide ((st (m+1)).length=0):=by rw[<-hvoid]
  have hlen:(q5 came void m).1.length<=100000:=Nat.le_trans (aV came void m) (by omega)
  rw[q5]
  generalize q5 came void m=x at hlen
  obtain⟨t,b⟩:=x
  simp only at hlen
  have second:∀(b1:Option Nat) (E:DE),E=[some (.dat (.tuple [.int (h:Int),plD pl,r])),some (.dat (.tuple (way.map btD))),some (.dat (.tuple ((List.range (way.length+1)).map λi=>stD (st i)))),some (.dat (.tuple ((List.range way.length).map λi=>.int (D8 pl (st i) (p0 way i):Nat)))),some (.dat (.tuple ((List.range way.length).map λi=>.int (aI h (kOf r) (kb r) pl (st i) (p0 way i):Nat)))),some (.own (t.map λq=>.tuple [.int (q.1:Int),.int (q.2:Int)])),some (.dat (bsE b1)),some (.dat (.int (m:Int))),some (.dat (btD (p0 way m)))] ->
    wp (mIf (av (uB (s2 (isD true) (sW 6) (sC .none))) (uB (s2 (eqD false) (sN R1 (b8 (s2 ixD (sW 2) (s2 Q1 (sW 7) (sC (.int 1)))) g7)) (sC (.int 0))))) (mSq (O2 5 (J5 (b8 (sV 6) (b8 (s2 Q1 (sW 7) (sC (.int 1))) g7)))) (u5 6 (sC .none))) mNx E F1) λo F'=>∃E2,o = .nx E2/\F'=F1/\∃o7 o8,E2=[some (.dat (.tuple [.int (h:Int),plD pl,r])),some (.dat (.tuple (way.map btD))),some (.dat (.tuple ((List.range (way.length+1)).map λi=>stD (st i)))),some (.dat (.tuple ((List.range way.length).map λi=>.int (D8 pl (st i) (p0 way i):Nat)))),some (.dat (.tuple ((List.range way.length).map λi=>.int (aI h (kOf r) (kb r) pl (st i) (p0 way i):Nat)))),some (.own ((match b1 with
  | some j=>if void (m+1)=true then(t++[(j,m+1)],none) else(t,some j)
  | none=>(t,none):List (Nat×Nat)×Option Nat).1.map λq=>.tuple [.int (q.1:Int),.int (q.2:Int)])),some (.dat (bsE (match b1 with
  | some j=>if void (m+1)=true then(t++[(j,m+1)],none) else(t,some j)
  | none=>(t,none):List (Nat×Nat)×Option Nat).2)),o7,o8]:=by
   rintro b1 E rfl
   cases b1 with
   | none =>
    refine J3.mpr (V8.mpr (O4.mpr (t8.mpr (j9.mpr (n6 rfl (p6.mpr (c7 rfl (c7 rfl (p7 rfl (p7 rfl (K8.mpr ?_)))))))))))
    exact⟨_,rfl,rfl,_,_,rfl⟩
   | some j =>
    refine J3.mpr (V8.mpr (O4.mpr (t8.mpr (j9.mpr (n6 rfl (p6.mpr (c7 rfl (c7 rfl (T2 rfl ?_))))))))) 
    refine O4.mpr (t8.mpr (L7.mpr (c6.mpr (t8.mpr (j9.mpr (n6 rfl (t8.mpr (j9.mpr (n6 rfl (p6.mpr (c7 rfl ?_)))))))))))
    refine c7 (sR (i:=m+1) (by omega)) (d9.mpr (c7 cn (p6.mpr ?_)))
    have ez:eqD false (.int (((st (m+1)).map pnD).length:Nat)) (.int 0)=some (.bool (void (m+1))):=by
     rw[hv,List.length_map]
     show some (PyData.bool (if false=true then !(PyData.int _).eqv (.int 0) else(PyData.int _).eqv (.int 0)))=_
     rw[if_neg (by decide),fk]
     congr 2
     rw[decide_eq_decide];omega
    refine c7 ez (c7 rfl (L8 (λhz=>?_) λhz=>?_))
    .refine j3.mpr (V2 rfl (by rw[List.length_map];exact hlen) (O3.mpr (c6.mpr (C2.mpr (C6 rfl (c6.mpr (t8.mpr (j9.mpr (n6 rfl (p6.mpr (c7 rfl (d9.mpr ⟨D7 rfl,h8 (l4.mpr (p6.mpr ⟨i5 rfl,?_⟩))⟩))))))))))))
     exact⟨_,rfl,rfl,_,_,by rw[hz];simp only[if_true,List.map_append];rfl⟩
    .refine K8.mpr ?_
     exact⟨_,rfl,rfl,_,_,by rw[hz];rfl⟩
  cases b with
  | some j =>
   have:=second (some j)
   refine j3.mpr (J3.mpr (V8.mpr (O4.mpr (t8.mpr (j9.mpr (n6 rfl (p6.mpr (c7 rfl (c7 rfl (p7 rfl (p7 rfl (K8.mpr (h8 ?_)))))))))))))
   simp only[reduceCtorEq,false_and,if_false]
   exact this _ rfl
  | none =>
   refine j3.mpr (J3.mpr (V8.mpr (O4.mpr (t8.mpr (j9.mpr (n6 rfl (p6.mpr (c7 rfl (c7 rfl (T2 rfl ?_))))))))))
   refine O4.mpr (t8.mpr (L7.mpr (c6.mpr (j9.mpr (n6 rfl (d9.mpr (c7 cn (t8.mpr (j9.mpr (n6 rfl (j9.mpr (n6 rfl ?_))))))))))))
   refine c7 (sR (i:=m) hm) (c7 wX ?_)
   have eg:decide (((D8 pl (st m) (p0 way m):Nat):Int)<(((p0 way m).map cmD).length:Nat))=came m:=by
    rw[hc,List.length_map,decide_eq_decide];omega
   rw[eg]
   refine c7 rfl (L8 (λhz=>?_) λhz=>?_)
   .have:=second (some m)
    refine l4.mpr (C2.mpr (C6 rfl ⟨i5 rfl,h8 ?_⟩))
    simp only[hz,and_self,if_true]
    exact this _ rfl
   .have:=second none
    refine K8.mpr (h8 ?_)
    simp only[hz,reduceCtorEq,and_false,if_false]
    exact this _ rfl
 .rintro E F1 ⟨rfl,o7,o8,rfl⟩
  rw[Nat.zero_add,List.length_map,List.length_range]
  refine h8 ?_
  have hlen:(q5 came void way.length).1.length<=100000:=Nat.le_trans (aV came void way.length) (by omega)
  generalize q5 came void way.length=x at hlen q
  obtain⟨t,b⟩:=x
  simp only at hlen
  have et:(t.map λq=>(q.1,some q.2)).map sbD=t.map λq=>.tuple [.int (q.1:Int),.int (q.2:Int)]:=by rw[List.map_map];rfl
  unfold S4 at q
  rw[List.map_append,et]at q
  cases b with
  | none =>
   refine J3.mpr (O4.mpr (t8.mpr (j9.mpr (n6 rfl (p6.mpr (c7 rfl (c7 rfl (p7 rfl (K8.mpr ?_)))))))))
   rw[List.map_nil,List.append_nil]at q
   exact q _ _ _ _ _ _
  | some j =>
   refine J3.mpr (O4.mpr (t8.mpr (j9.mpr (n6 rfl (p6.mpr (c7 rfl (c7 rfl (T2 rfl ?_))))))))
   exact V2 rfl (by rw[List.length_map];exact hlen) (O3.mpr (c6.mpr (C2.mpr (C6 rfl (c6.mpr (p6.mpr (d9.mpr ⟨D7 rfl,q _ _ _ _ _ _⟩)))))))
abbrev iF:List DV->M (List PyData):=zu ["house","way","stands","lost","gone","told","begin","at","beat"] (gSq zb (tD 5))
theorem uD {r:PyData}{pl:Option Nat}{way:List Bt}{h:Nat}(hr:r∈W8)(hp:∀i<way.length,gC pl (G3 (r8 h (kOf r) (kb r) (tnB r) pl) [] way i).length)(hl:z9 way<64)(hn:way.length<=1000)
{Q:List PyData->FdS->Prop}
  (q:Q ((S4 (q5 (λi=>decide (D8 pl (G3 (r8 h (kOf r) (kb r) (tnB r) pl) [] way i) (p0 way i)<(p0 way i).length)) (λi=>decide ((G3 (r8 h (kOf r) (kb r) (tnB r) pl) [] way i).length=0)) way.length)).map sbD) F) :
  wp (iF [.dat (.tuple [.int (h:Int),plD pl,r]),.dat (.tuple (way.map btD))] F) Q :=
 yw (uR hr hp hl hn λo2 o3 o4 o6 o7 o8=>⟨_,rfl,a8.mpr q⟩)
end
end
section
variable [Fam]
mutual
def sml:PyData->Prop
 | .none=>True
 | .bool _=>True
 | .int i=>i.natAbs<2 ^ 40
 | .str x=>x.length<=20/\asc x
 | .tuple ds=>qe ds
 | .list ds=>qe ds
 | .dict _=>False
def qe:List PyData->Prop
 | []=>True
 | d::ds=>sml d/\qe ds
end
theorem X8:∀{ds:List PyData},qe ds↔∀d∈ds,sml d
 | []=>by simp[qe]
 | d::ds=>by simp[qe,X8 (ds:=ds)]
structure Sml (N k:Nat) (d:PyData):Prop where
 sc:sml d
 dp:d.depth<=k
 ct:cnt d<=N
structure Nos (d:PyData):Prop where
 sh:d.showable=true
 nd:d.hasDict=false
 cl:d.canLay0=true
 ln:d.shown.length+2<=300*cnt d
theorem AU {ds:List PyData}:(∀d∈ds,Nos d)->PyData.showableAll ds=true/\PyData.hasDictAll ds=false/\PyData.canLayAll0 ds=true/\((PyData.shownAll ds).map (·.length)).sum+2*ds.length<=300*df ds:=by
 induction ds with
 | nil=>intro _;exact⟨by simp[PyData.showableAll],by simp[PyData.hasDictAll],by simp[PyData.canLayAll0],by simp[PyData.shownAll,df]⟩
 | cons d ds ih =>
  intro h
  obtain⟨a,b,c,e⟩:=ih λx hx=>h x (List.mem_cons_of_mem _ hx)
  have hd:=h d List.mem_cons_self
  refine⟨by simp[PyData.showableAll,hd.sh,a],by simp[PyData.hasDictAll,hd.nd,b],by simp[PyData.canLayAll0,hd.cl,c],?_⟩
  simp only[PyData.shownAll,List.map_cons,List.sum_cons,List.length_cons,df]
  have:=hd.ln
  omega
theorem yc:∀m:Nat,∀d:PyData,sizeOf d<m->sml d->Nos d:=by
 intro m
 induction m with
 | zero=>intro d h;exact absurd h (Nat.not_lt_zero _)
 | succ m ih =>
  intro d hm hs
  cases d with
  | none=>exact⟨rfl,rfl,rfl,by decide⟩
  | bool b=>exact⟨rfl,rfl,rfl,by cases b <;> decide⟩
  | int i =>
   simp only[sml]at hs
   have:=Shw.int hs (by decide) (by decide)
   exact⟨this.sh,this.nd,rfl,by have:=this.ln;simp only[cnt];omega⟩
  | str x =>
   simp only[sml]at hs
   refine⟨rfl,rfl,?_,?_⟩
   .simp only[PyData.canLay0,PyData.strOk]
    rw[Array.all_eq_true']
    intro c hc
    have:=hs.2 c (by simpa using hc)
    exact decide_eq_true (by omega)
   .have h1:=PySem.StrLaws.reprText_len x λc hc=>Nat.lt_of_lt_of_le (hs.2 c hc) (by decide)
    simp only[PyData.shown,cnt]
    omega
  | tuple ds =>
   simp only[sml]at hs
   rw[X8]at hs
   obtain⟨a,b,c,e⟩:=AU λd hd=>ih d (by have:=List.sizeOf_lt_of_mem hd;simp at hm;omega) (hs d hd)
   refine⟨by simpa only[PyData.showable] using a,by simpa only[PyData.hasDict] using b,by simpa only[PyData.canLay0] using c,?_⟩
   have h5:=tupleText_len_le (PyData.shownAll ds)
   have h6:=PyData.shownAll_length ds
   simp only[PyData.shown,cnt]
   omega
  | list ds =>
   simp only[sml]at hs
   rw[X8]at hs
   obtain⟨a,b,c,e⟩:=AU λd hd=>ih d (by have:=List.sizeOf_lt_of_mem hd;simp at hm;omega) (hs d hd)
   refine⟨by simpa only[PyData.showable] using a,by simpa only[PyData.hasDict] using b,by simpa only[PyData.canLay0] using c,?_⟩
   have h5:=listText_len_le (PyData.shownAll ds)
   have h6:=PyData.shownAll_length ds
   simp only[PyData.shown,cnt]
   omega
  | dict kvs=>simp only[sml]at hs
section
variable {N k:Nat}{d:PyData}
theorem Sml.repr (h:Sml N k d)(hN:N<=50000)(hk:k<=50):aN d=true:=by
 have hd:=yc _ d (Nat.lt_succ_self _) h.sc
 unfold aN
 rw[hd.sh,hd.nd]
 have h1:=hd.ln
 have h2:=h.ct
 have h3:=h.dp
 simp
 constructor <;> omega
theorem Sml.mono {N' k':Nat}(h:Sml N k d)(h2:N<=N')(h3:k<=k'):Sml N' k' d:=⟨h.sc,Nat.le_trans h.dp h3,Nat.le_trans h.ct h2⟩
end
theorem kR {k:Nat}{ds:List PyData}(h:∀d∈ds,d.depth<=k):PyData.depthAll ds<=k:=Y7.mpr h
theorem Sml.tup {c k:Nat}{ds:List PyData}(h:∀d∈ds,Sml c k d):Sml (1+c*ds.length) (k+1) (.tuple ds):=by
 refine⟨?_,?_,?_⟩
 .simp only[sml];rw[X8];exact λd hd=>(h d hd).sc
 .have:=kR λd hd=>(h d hd).dp
  simp only[PyData.depth];omega
 .have:=cf (c:=c) λd hd=>(h d hd).ct
  simp only[cnt];omega
theorem Sml.lst {c k:Nat}{ds:List PyData}(h:∀d∈ds,Sml c k d):Sml (1+c*ds.length) (k+1) (.list ds):=by
 refine⟨?_,?_,?_⟩
 .simp only[sml];rw[X8];exact λd hd=>(h d hd).sc
 .have:=kR λd hd=>(h d hd).dp
  simp only[PyData.depth];omega
 .have:=cf (c:=c) λd hd=>(h d hd).ct
  simp only[cnt];omega
theorem Ao {i:Int}(h0:-100000000<=i)(h1:i<=100000000):Sml 1 0 (.int i):=⟨by simp only[sml];omega,by simp[PyData.depth],by simp[cnt]⟩
theorem Bb:Sml 1 0 .none:=⟨trivial,by simp[PyData.depth],by simp[cnt]⟩
end
section
section
variable (h k:Nat)(kp tn:Bool)(pl:Option Nat)
end
section
variable {h k:Nat}{kp tn:Bool}{pl:Option Nat}{t:Nat}{bt:Bt}{s:CS}
end
end
section
variable [Fam]
section
variable {F:FdS}{Q:PyData->FdS->Prop}
end
variable [Fam]
section
variable {F:FdS}{Q:PyData->FdS->Prop}
end
variable [Fam]
def bX:List DV->M PyData:=Y4 ["_law_feed_here"] (mRt (s2 ixD (sC (.list [.str "first",.str "last",.str "short",.str "front",.str "lastoff",.str "shortoff",.str "frontoff",.str "turns"])) (p8 drawS (vF 0 (vD (sC (.int 8)) D2)))))
def ar:List DV->M PyData:=Y4 ["_law_feed_here","_law_places"] (mSq (u5 1 (s2 ixD (sC (.list [.none,.none,.none,.int 0,.int 1,.int 2,.int 3,.int 4,.int 5,.int 6])) (p8 drawS (vF 0 (vD (sC (.int 10)) D2)))))
  (mRt (J5 (b8 (s2 Q1 (sC (.int 1)) (p8 drawS (vF 0 (vD (sC (.int 3)) D2)))) (b8 (sV 1) (b8 (p8 bX (vF 0 D2)) g7))))))
theorem rB:Tr bX [.feed] 1 (λd=>d∈W8):=Tr.of λF hF=>by
 unfold bX
 walk_at "go"
 refine D5 (by decide) (by decide) (by omega) λr F1 r0 r1 t1=>?_
 obtain⟨d,e,hd⟩:∃d,ixD (.list W8) (.int r)=some d/\d∈W8:=by
  have:r=0\/r=1\/r=2\/r=3\/r=4\/r=5\/r=6\/r=7:=by omega
  rcases this with rfl | rfl | rfl | rfl | rfl | rfl | rfl | rfl
  all_goals exact⟨_,rfl,by simp[W8]⟩
 refine c7 e ?_
 walk_at "go"
 exact⟨by omega,hd⟩
theorem qC:Tr ar [.feed] 3 (λd=>∃(h:Nat) (pl:Option Nat) (r:PyData),d = .tuple [.int (h:Int),plD pl,r]/\1<=h/\h<=3/\r∈W8/\∀v,pl=some v->v<=6):=Tr.of λF hF=>by
 unfold ar
 walk_at "go"
 refine D5 (by decide) (by decide) (by omega) λu F1 u0 u1 t1=>?_
 obtain⟨pl,e,hpl⟩:∃pl:Option Nat,ixD (.list [.none,.none,.none,.int 0,.int 1,.int 2,.int 3,.int 4,.int 5,.int 6]) (.int u)=some (plD pl)/\∀v,pl=some v->v<=6:=by
  have:u=0\/u=1\/u=2\/u=3\/u=4\/u=5\/u=6\/u=7\/u=8\/u=9:=by omega
  rcases this with rfl | rfl | rfl | rfl | rfl | rfl | rfl | rfl | rfl | rfl
  .exact⟨none,rfl,λv hv=>by cases hv⟩
  .exact⟨none,rfl,λv hv=>by cases hv⟩
  .exact⟨none,rfl,λv hv=>by cases hv⟩
  .exact⟨some 0,rfl,λv hv=>by injection hv;omega⟩
  .exact⟨some 1,rfl,λv hv=>by injection hv;omega⟩
  .exact⟨some 2,rfl,λv hv=>by injection hv;omega⟩
  .exact⟨some 3,rfl,λv hv=>by injection hv;omega⟩
  .exact⟨some 4,rfl,λv hv=>by injection hv;omega⟩
  .exact⟨some 5,rfl,λv hv=>by injection hv;omega⟩
  .exact⟨some 6,rfl,λv hv=>by injection hv;omega⟩
 refine c7 e ?_
 walk_at "go"
 refine D5 (by decide) (by decide) (by omega) λhv F2 v0 v1 t2=>?_
 walk_at "go"
 refine rB.wp (by omega) λr F3 t3 hr=>?_
 walk_at "go"
 obtain⟨h,eh,g1,g2⟩:∃h:Nat,1+hv=(h:Int)/\1<=h/\h<=3:=⟨(1+hv).toNat,by omega,by omega,by omega⟩
 rw[eh]
 exact⟨by omega,h,pl,r,rfl,g1,g2,hr,hpl⟩
end
section
variable [Fam]
section
abbrev hsD (h:Nat)(pl:Option Nat)(r:PyData):PyData:=.tuple [.int (h:Int),plD pl,r]
abbrev wyD (way:List Bt):PyData:=.tuple (way.map btD)
theorem Bq {x y:Str}:eqD true (.str x) (.str y)=some (.bool (!decide (x=y))):=by
 show some (PyData.bool (if true=true then !decide (x=y) else decide (x=y)))=_
 rw[if_pos rfl]
theorem yt {x:Str}:eqD true (.str x) (.str x)=some (.bool false):=by rw[Bq];simp
end
end
end L3
namespace K22
open PySem L2 L3
section
def top (i:Nat):Stmt:=PySem.Challenge.pw_hatchwaits_k22_stretches_told.main.body.getD i (.Pass ⟨0,0,0,0⟩)
instance famI:Fam:=Bu ["lined_up","picked"]
instance lamI:LamC:=⟨["lined_up","picked"]⟩
abbrev CC:Stmt:=top 2
abbrev Cv:Stmt:=top 4
abbrev BO:Stmt:=top 5
abbrev Cw:Stmt:=top 6
abbrev Cf:Stmt:=top 7
abbrev Dq:Stmt:=top 8
abbrev Gb:Stmt:=top 10
abbrev BI:Stmt:=top 12
abbrev BZ:Stmt:=top 14
abbrev Ca:Stmt:=top 15
abbrev Cb:Stmt:=top 16
abbrev BV:Stmt:=top 17
abbrev Cd:Stmt:=top 18
abbrev BJ:Stmt:=top 19
abbrev BP:Stmt:=top 20
abbrev BN:Stmt:=top 21
abbrev BR:Stmt:=top 22
abbrev BU:Stmt:=top 23
abbrev Ce:Stmt:=top 24
abbrev BX:Stmt:=top 25
abbrev BG:Stmt:=top 26
structure Txt (K:PySem.W.Frag) (mg:Str->Option Value):Prop where
 enumerate:mg "enumerate" = none
 int:mg "int" = none
 isinstance:mg "isinstance" = none
 len:mg "len" = none
 list:mg "list" = none
 min:mg "min" = none
 range:mg "range" = none
 repr:mg "repr" = none
 sorted:mg "sorted" = none
 tuple:mg "tuple" = none
 g_KEEPING:GD K mg "KEEPING" (.tuple [.str "first",.str "last",.str "short",.str "front"])
section
variable {P:Program}{w:World}{K:PySem.W.Frag}{mg:Str->Option Value}{base:Heap}
theorem sS:FnScope ["rule"] ["rule"] (defScope CC):={}
abbrev FB:=bT
theorem JE {f:Addr}{fd:FuncData}(Fn:Fun K "keeps" "keeps" CC f fd)(T:Txt K mg) :FnOk P w K mg base CX0 1 f fd ["rule"] (spD K 1 FB):=by
 refine Q8 Fn sS λcdv A outer s H E hr=>?_
 have hu5:(A.deeper (PyProof.Rows.envOfC "keeps" (defScope CC) s.heap.objs.size f cdv)).units+65<cLine:=by have:=hr.un;omega
 exact⟨_,(i4 (x8 (aQ (Z8 rfl hu5) (g9 0) (Ev.bw (Bw T.g_KEEPING)))))⟩
theorem aa:FnScope ["house","stand","beat","places","room","entered"] ["house","stand","beat"] (defScope Cv):={}
abbrev FE:=bY
theorem Jr {f:Addr}{fd:FuncData}(Fn:Fun K "let_in" "let_in" Cv f fd)(T:Txt K mg) :FnOk P w K mg base CX0 1 f fd ["house","stand","beat"] (spD K 3 FE):=by
 refine Q8 Fn aa λcdv A outer s H E hr=>?_
 exact⟨_,(d5 (n8 3 aa.nd (x9 (x3 rfl) (g9 0) (Ev.bw f9)))
   (d5 (n8 4 aa.nd (qM (p9 oy (g9 3) (Ev.bw w4)) (r6 (M1 rfl) T.len M3 (i7 (g9 2) l7)) (K4 lW (g9 3) (Ev.bw (r6 (M1 rfl) T.len M3 (i7 (g9 1) l7))))))
   (d5 (jP 5 (hN:=aa.nd) (osc:=(defScope Cv)) (N:=["rank","work"]) (k:=2) (cap:=[]) (hc:=rfl) (hosc:=rfl) (hcap:=⟨rfl,by decide +kernel,by decide +kernel,by decide +kernel,rfl,rfl,by decide +kernel⟩) (js (Ev.bw (mU (g9 2) sJ (xS (k7 4))))) (λcl C ex pins s H=>(J8 (n:=2) rfl (e9 (v5 (i:=0) (show List.Nodup (["rank","work"]:List Str) by decide +kernel)) (e9 (v5 (i:=1) (show List.Nodup (["rank","work"]:List Str) by decide +kernel)) C7)))) (λcl C ex pins s H=>eF) (λcl C ex pins s H=>(E7 (d7 (k7 0) (d7 (k7 1) (d7 kY i9))))))
   (i4 (x8 (E7 (d7 (K4 (K3 rfl) (g9 1) (Ev.bw (A4 (D9 rfl) T.tuple E8 (i7 (g9 5) l7)))) (d7 (K4 lW (Ev.bw (r6 (M1 rfl) T.len M3 (i7 (g9 2) l7))) (Ev.bw (r6 (M1 rfl) T.len M3 (i7 (g9 5) l7)))) i9))))))))⟩
theorem dy:FnScope ["rule","stand","places"] ["rule","stand"] (defScope BO):={}
abbrev Dr:=Cu
theorem GY {f c P0:Addr}{fd:FuncData}(Fn:Fun K "lined_up" "lined_up" BO f fd)(T:Txt K mg)(LB:LamB K mg base "lined_up" fd c P0) :FnOk P w K mg base CX0 1 f fd ["rule","stand"] (spD K 2 Dr):=by
 refine oe Fn dy λcdv A outer s H E hcd hr=>?_
 obtain rfl:cdv = .ref c:=hcd.symm.trans LB.code
 have hu5:(A.deeper (PyProof.Rows.envOfC "lined_up" (defScope BO) s.heap.objs.size f (.ref c))).units+65<cLine:=by have:=hr.un;omega
 exact⟨_,(d5 (n8 2 dy.nd (tm (d7 (r6 (M1 rfl) T.len M3 (i7 (g9 1) l7)) i9) rfl T.range T.list jh))
   (d5 (G4 (p9 (Z8 rfl hu5) (g9 0) (Ev.bw (T3 (.tuple [.str "last",.str "lastoff"]) rfl))) (i4 (x8 (yA (g9 2)))) C4)
   (d5 (G4 (p9 (Z8 rfl hu5) (g9 0) (Ev.bw (T3 (.tuple [.str "short",.str "shortoff"]) rfl))) (i4 (x8 (tT (osc:=(defScope BO)) (N:=["place","stand"]) (cap:=[1]) (y:="place") LB rfl T.sorted hr rfl (d7 (k7 2) i9) rfl ⟨rfl,rfl,rfl,by decide +kernel,rfl,rfl,by decide +kernel,rfl,rfl,by decide +kernel⟩ rfl rfl (λcl f c' Y s H=>(x9 (x3 rfl) (Ev.bw (x9 (x3 rfl) (g9 1) (g9 0))) (Ev.bw f9)))))) C4)
   (d5 (G4 (p9 (Z8 rfl hu5) (g9 0) (Ev.bw (T3 (.tuple [.str "front",.str "frontoff"]) rfl))) (i4 (x8 (tT (osc:=(defScope BO)) (N:=["place","stand"]) (cap:=[1]) (y:="place") LB rfl T.sorted hr rfl (d7 (k7 2) i9) rfl ⟨rfl,rfl,rfl,by decide +kernel,rfl,rfl,by decide +kernel,rfl,rfl,by decide +kernel⟩ rfl rfl (λcl f c' Y s H=>(x9 (x3 rfl) (Ev.bw (x9 (x3 rfl) (g9 1) (g9 0))) (Ev.bw f9)))))) C4)
   (i4 (x8 (k7 2)))))))⟩
theorem P3:FnScope ["house","stand","hands","places","rule","order"] ["house","stand"] (defScope Cw):={}
abbrev FF:=CO
theorem Js {f c P0:Addr}{fd:FuncData}(Fn:Fun K "picked" "picked" Cw f fd)(T:Txt K mg)(LB:LamB K mg base "picked" fd c P0)(Ds:Callee P w K mg base "lined_up" 1 ["rule","stand"] (spD K 2 Dr))(Dm:Callee P w K mg base "keeps" 1 ["rule"] (spD K 1 FB)):FnOk P w K mg base CX0 2 f fd ["house","stand"] (spD K 2 FF):=by
 refine oe Fn P3 λcdv A outer s H E hcd hr=>?_
 obtain rfl:cdv = .ref c:=hcd.symm.trans LB.code
 exact⟨_,(d5 (aT (k7 0) (J8 (n:=3) rfl (e9 (v5 (i:=2) P3.nd) (e9 (v5 (i:=3) P3.nd) (e9 (v5 (i:=4) P3.nd) C7)))))
   (d5 (n8 5 P3.nd (j4 Ds (hr.mono (by decide)) (x6 (k7 4) (x6 (k7 1) l9)) (x4 (x4 n9))))
   (d5 (G4 (fH (Ev.bw (j4 Dm (hr.mono (by decide)) (x6 (k7 4) l9) (x4 n9)))) (i4 (n8 5 P3.nd (tT (osc:=(defScope Cw)) (N:=["place","stand"]) (cap:=[1]) (y:="place") LB rfl T.sorted hr rfl (d7 (k7 5) i9) rfl ⟨rfl,rfl,rfl,by decide +kernel,rfl,rfl,by decide +kernel,rfl,rfl,by decide +kernel⟩ rfl rfl (λcl f c' Y s H=>(xQ (x9 (x3 rfl) (Ev.bw (x9 (x3 rfl) (g9 1) (g9 0))) (Ev.bw f9))))))) C4)
   (i4 (x8 (A4 (D9 rfl) T.tuple E8 (i7 (Ev.bw (r6 (hZ rfl) T.sorted gG (i7 (Ev.bw (mU (g9 5) sJ (xS (k7 2)))) l7))) l7)))))))⟩
theorem D3:FnScope ["house","stand","rule","hands_on","waiting","served","gone","place","rank","left","begun","staying"] ["house","stand"] (defScope Cf):={}
abbrev FG:=bP
theorem Jt {f:Addr}{fd:FuncData}(Fn:Fun K "worked" "worked" Cf f fd)(T:Txt K mg)(FH:Callee P w K mg base "picked" 2 ["house","stand"] (spD K 2 FF))(Dm:Callee P w K mg base "keeps" 1 ["rule"] (spD K 1 FB)):FnOk P w K mg base CX0 3 f fd ["house","stand"] (spD K 2 FG):=by
 refine Q8 Fn D3 λcdv A outer s H E hr=>?_
 have hu5:(A.deeper (PyProof.Rows.envOfC "worked" (defScope Cf) s.heap.objs.size f cdv)).units+65<cLine:=by have:=hr.un;omega
 exact⟨_,(d5 (n8 2 D3.nd (x9 (x3 rfl) (g9 0) (Ev.bw f9)))
   (d5 (n8 3 D3.nd (j4 FH (hr.mono (by decide)) (x6 (k7 0) (x6 (k7 1) l9)) (x4 (x4 n9))))
   (d5 (jP 4 (hN:=D3.nd) (osc:=(defScope Cf)) (N:=["place","person","hands_on"]) (k:=2) (cap:=[3]) (hc:=rfl) (hosc:=rfl) (hcap:=⟨rfl,by decide +kernel,by decide +kernel,by decide +kernel,rfl,rfl,by decide +kernel⟩) (sU (g9 1) T.enumerate) (λcl C ex pins s H=>(J8 (n:=2) rfl (e9 (v5 (i:=0) (show List.Nodup (["place","person","hands_on"]:List Str) by decide +kernel)) (e9 (v5 (i:=1) (show List.Nodup (["place","person","hands_on"]:List Str) by decide +kernel)) C7)))) (λcl C ex pins s H=>(vk (p9 (sy rfl hu5) (g9 0) (g9 2)))) (λcl C ex pins s H=>(E7 (d7 (k7 0) (d7 (k7 1) i9)))))
   (d5 (vg 5 6 rfl D3.nd (rP (Q0 i9)) (rP (Q0 i9)))
   (d5 (T8 rfl (jt (k7 3)) (v5 (i:=7) D3.nd) (d5 (aT (x9 (x3 rfl) (g9 1) (g9 7)) (J8 (n:=3) rfl (e9 (v5 (i:=8) D3.nd) (e9 (v5 (i:=9) D3.nd) (e9 (v5 (i:=10) D3.nd) C7)))))
   (i4 (G4 (p9 qL (g9 9) (Ev.bw f9)) (i4 (M8 5 rfl (E7 (d7 (k7 7) (d7 (E7 (d7 (k7 8) (d7 (K4 lW (g9 9) (Ev.bw f9)) (d7 (j4 Dm (hr.mono (by decide)) (x6 (k7 2) l9) (x4 n9)) i9)))) i9))))) (i4 (M8 6 rfl (k7 7)))))))
   (d5 (n8 11 D3.nd (qM (p9 (fF rfl hr.units) (g9 2) (Ev.bw qY)) (K4 (K3 rfl) (g9 4) (g9 5)) (r6 (hZ rfl) T.sorted gG (i7 (Ev.bw (K4 (K3 rfl) (g9 4) (g9 5))) l7))))
   (i4 (x8 (E7 (d7 (k7 11) (d7 (k7 3) (d7 (A4 (D9 rfl) T.tuple E8 (i7 (g9 6) l7)) i9))))))))))))⟩
theorem af:FnScope ["house","stand","beat","filled","lost","staying","hands_on","gone"] ["house","stand","beat"] (defScope Dq):={}
abbrev Ik:=ij
theorem Km {f:Addr}{fd:FuncData}(Fn:Fun K "step" "step" Dq f fd)(T:Txt K mg)(FI:Callee P w K mg base "let_in" 1 ["house","stand","beat"] (spD K 3 FE))(FJ:Callee P w K mg base "worked" 3 ["house","stand"] (spD K 2 FG)):FnOk P w K mg base CX0 4 f fd ["house","stand","beat"] (spD K 3 Ik):=by
 refine Q8 Fn af λcdv A outer s H E hr=>?_
 exact⟨_,(d5 (aT (j4 FI (hr.mono (by decide)) (x6 (k7 0) (x6 (k7 1) (x6 (k7 2) l9))) (x4 (x4 (x4 n9)))) (J8 (n:=2) rfl (e9 (v5 (i:=3) af.nd) (e9 (v5 (i:=4) af.nd) C7))))
   (d5 (aT (j4 FJ (hr.mono (by decide)) (x6 (k7 0) (x6 (k7 3) l9)) (x4 (x4 n9))) (J8 (n:=3) rfl (e9 (v5 (i:=5) af.nd) (e9 (v5 (i:=6) af.nd) (e9 (v5 (i:=7) af.nd) C7)))))
   (i4 (x8 (E7 (d7 (A4 (D9 rfl) T.tuple E8 (i7 (Ev.bw (tH (osc:=(defScope Dq)) (N:=["place","person"]) (k:=2) (cap:=[]) rfl rfl ⟨rfl,by decide +kernel,by decide +kernel,by decide +kernel,rfl,rfl,by decide +kernel⟩ (js (g9 5)) (λcl C ex pins s H=>(J8 (n:=2) rfl (e9 (v5 (i:=0) (show List.Nodup (["place","person"]:List Str) by decide +kernel)) (e9 (v5 (i:=1) (show List.Nodup (["place","person"]:List Str) by decide +kernel)) C7)))) (λcl C ex pins s H=>eF) (λcl C ex pins s H=>(k7 1)))) l7)) (d7 (k7 4) (d7 (k7 7) i9))))))))⟩
theorem cw:FnScope ["house","way","stand","stands","lost","gone","beat","following","turned_away","places"] ["house","way","stand"] (defScope Gb):={}
abbrev FK:=kT
theorem KF {f:Addr}{fd:FuncData}(Fn:Fun K "run" "run" Gb f fd)(T:Txt K mg)(Il:Callee P w K mg base "step" 4 ["house","stand","beat"] (spD K 3 Ik)):FnOk P w K mg base CX0 5 f fd ["house","way","stand"] (spD K 3 FK):=by
 refine Q8 Fn cw λcdv A outer s H E hr=>?_
 exact⟨_,(d5 (tN 3 4 5 rfl cw.nd (rP (Q0 (d7 (k7 2) i9))) (rP (Q0 i9)) (rP (Q0 i9)))
   (d5 (T8 rfl (jt (k7 1)) (v5 (i:=6) cw.nd) (d5 (aT (j4 Il (hr.mono (by decide)) (x6 (k7 0) (x6 (x9 (x3 rfl) (g9 3) (Ev.bw (Ax yD (Ev.bw f9)))) (x6 (k7 6) l9))) (x4 (x4 (x4 n9)))) (J8 (n:=3) rfl (e9 (v5 (i:=7) cw.nd) (e9 (v5 (i:=8) cw.nd) (e9 (v5 (i:=9) cw.nd) C7)))))
   (d5 (M8 3 rfl (k7 7))
   (d5 (M8 4 rfl (k7 8))
   (i4 (M8 5 rfl (r6 (M1 rfl) T.len M3 (i7 (g9 9) l7))))))))
   (i4 (x8 (E7 (d7 (A4 (D9 rfl) T.tuple E8 (i7 (g9 3) l7)) (d7 (A4 (D9 rfl) T.tuple E8 (i7 (g9 4) l7)) (d7 (A4 (D9 rfl) T.tuple E8 (i7 (g9 5) l7)) i9))))))))⟩
theorem c9:FnScope ["house","way","stands","lost","gone","told","begin","at","beat"] ["house","way"] (defScope BI):={}
def BH:List DV->M (List PyData):=zu ["house","way","stands","lost","gone","told","begin","at","beat"] (gSq (X7 (P8 3 (j7 (bN 2) (j7 (bN 3) (j7 (bN 4) R3)))) (p8 FK (vD (sV 0) (vD (sV 1) (vD (sC (.tuple [])) D2)))))
  (gSq (cc 5 (Y9 g7))
  (gSq (u5 6 (sC .none))
  (gSq (Z0 (dN (sV 1)) (P8 2 (j7 (bN 7) (j7 (bN 8) R3))) (mSq (mIf (av (uB (s2 (isD false) (sW 6) (sC .none))) (uB (s2 gtD (sN R1 (b8 (sW 8) g7)) (s2 ixD (sW 3) (sW 7))))) (u5 6 (sV 7)) mNx)
  (mIf (av (uB (s2 (isD true) (sW 6) (sC .none))) (uB (s2 (eqD false) (sN R1 (b8 (s2 ixD (sW 2) (s2 Q1 (sW 7) (sC (.int 1)))) g7)) (sC (.int 0))))) (mSq (O2 5 (J5 (b8 (sV 6) (b8 (s2 Q1 (sW 7) (sC (.int 1))) g7))))
  (u5 6 (sC .none))) mNx)))
  (gSq (mIf (uB (s2 (isD true) (sW 6) (sC .none))) (O2 5 (J5 (b8 (sV 6) (b8 (sC .none) g7)))) mNx)
  (tD 5))))))
theorem Dt {f:Addr}{fd:FuncData}(Fn:Fun K "busy_stretches" "busy_stretches" BI f fd)(T:Txt K mg)(Gc:Callee P w K mg base "run" 5 ["house","way","stand"] (spD K 3 FK)):FnOk P w K mg base CX0 6 f fd ["house","way"] (spG K 2 BH):=by
 refine wu Fn c9 λcdv A outer s H E hr=>?_
 exact⟨_,(W1 (aT (j4 Gc (hr.mono (by decide)) (x6 (k7 0) (x6 (k7 1) (x6 (T3 (.tuple []) rfl) l9))) (x4 (x4 (x4 n9)))) (J8 (n:=3) rfl (e9 (v5 (i:=2) c9.nd) (e9 (v5 (i:=3) c9.nd) (e9 (v5 (i:=4) c9.nd) C7)))))
   (W1 (bq 5 c9.nd (Q0 i9))
   (W1 (n8 6 c9.nd w4)
   (W1 (T8 rfl (nH (k7 1) T.enumerate) (J8 (n:=2) rfl (e9 (v5 (i:=7) c9.nd) (e9 (v5 (i:=8) c9.nd) C7))) (d5 (G4 (Ew.t (fh (p9 oy (g9 6) (Ev.bw w4)) (cj (p9 qL (Ev.bw (r6 (M1 rfl) T.len M3 (i7 (g9 8) l7))) (Ev.bw (x9 (x3 rfl) (g9 3) (g9 7))))))) (i4 (n8 6 c9.nd (k7 7))) C4)
   (i4 (G4 (Ew.t (fh (p9 Q3 (g9 6) (Ev.bw w4)) (cj (p9 (fF rfl hr.units) (Ev.bw (r6 (M1 rfl) T.len M3 (i7 (Ev.bw (x9 (x3 rfl) (g9 2) (Ev.bw (K4 (K3 rfl) (g9 7) (Ev.bw f9))))) l7))) (Ev.bw f9))))) (d5 (M8 5 rfl (E7 (d7 (k7 6) (d7 (K4 (K3 rfl) (g9 7) (Ev.bw f9)) i9))))
   (i4 (n8 6 c9.nd w4))) C4))))
   (W1 (G4 (p9 Q3 (g9 6) (Ev.bw w4)) (i4 (M8 5 rfl (E7 (d7 (k7 6) (d7 w4 i9))))) C4)
   (sA 5))))))⟩
def BK:List DV->M PyData:=Y4 ["house","way","stands","lost","gone","told","begin","at","beat"] (mSq (X7 (P8 3 (j7 (bN 2) (j7 (bN 3) (j7 (bN 4) R3)))) (p8 FK (vD (sV 0) (vD (sV 1) (vD (sC (.tuple [])) D2)))))
  (mSq (cc 5 (Y9 g7))
  (mSq (u5 6 (sC .none))
  (mSq (Z0 (dN (sV 1)) (P8 2 (j7 (bN 7) (j7 (bN 8) R3))) (mSq (mIf (av (uB (s2 (isD false) (sW 6) (sC .none))) (uB (s2 gtD (sN R1 (b8 (sW 8) g7)) (s2 ixD (sW 3) (sW 7))))) (u5 6 (sV 7)) mNx)
  (mIf (av (uB (s2 (isD true) (sW 6) (sC .none))) (uB (s2 (eqD false) (sN R1 (b8 (s2 ixD (sW 2) (s2 Q1 (sW 7) (sC (.int 1)))) g7)) (sC (.int 0))))) (mSq (O2 5 (J5 (b8 (sV 6) (b8 (s2 Q1 (sW 7) (sC (.int 1))) g7))))
  (u5 6 (sC .none))) mNx)))
  (mSq (mIf (uB (s2 (isD true) (sW 6) (sC .none))) (O2 5 (J5 (b8 (sV 6) (b8 (sC .none) g7)))) mNx)
  (mRt (sW 5)))))))
theorem Ek {f:Addr}{fd:FuncData}(Fn:Fun K "busy_stretches" "busy_stretches" BI f fd)(T:Txt K mg)(Gc:Callee P w K mg base "run" 5 ["house","way","stand"] (spD K 3 FK)):FnOk P w K mg base CX0 6 f fd ["house","way"] (spD K 2 BK):=by
 refine Q8 Fn c9 λcdv A outer s H E hr=>?_
 exact⟨_,(d5 (aT (j4 Gc (hr.mono (by decide)) (x6 (k7 0) (x6 (k7 1) (x6 (T3 (.tuple []) rfl) l9))) (x4 (x4 (x4 n9)))) (J8 (n:=3) rfl (e9 (v5 (i:=2) c9.nd) (e9 (v5 (i:=3) c9.nd) (e9 (v5 (i:=4) c9.nd) C7)))))
   (d5 (bq 5 c9.nd (Q0 i9))
   (d5 (n8 6 c9.nd w4)
   (d5 (T8 rfl (nH (k7 1) T.enumerate) (J8 (n:=2) rfl (e9 (v5 (i:=7) c9.nd) (e9 (v5 (i:=8) c9.nd) C7))) (d5 (G4 (Ew.t (fh (p9 oy (g9 6) (Ev.bw w4)) (cj (p9 qL (Ev.bw (r6 (M1 rfl) T.len M3 (i7 (g9 8) l7))) (Ev.bw (x9 (x3 rfl) (g9 3) (g9 7))))))) (i4 (n8 6 c9.nd (k7 7))) C4)
   (i4 (G4 (Ew.t (fh (p9 Q3 (g9 6) (Ev.bw w4)) (cj (p9 (fF rfl hr.units) (Ev.bw (r6 (M1 rfl) T.len M3 (i7 (Ev.bw (x9 (x3 rfl) (g9 2) (Ev.bw (K4 (K3 rfl) (g9 7) (Ev.bw f9))))) l7))) (Ev.bw f9))))) (d5 (M8 5 rfl (E7 (d7 (k7 6) (d7 (K4 (K3 rfl) (g9 7) (Ev.bw f9)) i9))))
   (i4 (n8 6 c9.nd w4))) C4))))
   (d5 (G4 (p9 Q3 (g9 6) (Ev.bw w4)) (i4 (M8 5 rfl (E7 (d7 (k7 6) (d7 w4 i9))))) C4)
   (i4 (vY 5)))))))⟩
def spFeed (K:PySem.W.Frag):Sp:=λvs H Q _=>∃(a:Addr) (ns:List Int),vs=[.ref a]/\SqL K H a (ns.map V.int)/\ns.length<=63 /\
 ∀(d c:Addr) (H':Hp),Feeds.At d c H' (eQ ns)->d8 H H'->Q (.ref d) H'
theorem Ay {ns:List Int}(h:ns.length<=63):cG (ns.map V.int) none (some 63)=ns.map V.int:=by
 unfold cG
 have e:HT.sIx (ns.map V.int).length (ns.map V.int).length (some 63)=min 63 (ns.map V.int).length:=HT.sIx_nat _ _ 63
 rw[e,HT.sIx_none,List.drop_zero,Nat.sub_zero,List.take_of_length_le (by rw[List.length_map];omega)]
theorem iq:FnScope ["_law_script"] ["_law_script"] (defScope BZ):={}
theorem Gf {f:Addr}{fd:FuncData}(F:Fun K "_law_feed" "_law_feed" BZ f fd)(T:Txt K mg):FnOk P w K mg base CX0 1 f fd ["_law_script"] (spFeed K):=by
 refine F.ok iq (λvs H Q E h=>?_) (λcdv A outer s H vs Q E hr h=>?_)
 .obtain⟨a,ns,rfl,_⟩:=h
  rfl
 .obtain⟨a,ns,rfl,hS,hl,k⟩:=h
  refine⟨_,C0 (W2 (L6 (h9 (cz ja rfl T.list jh (h9 (kx nS (pv 0) oz (jn f7)) j6)) (h9 f7 (h9 f7 j6))))),?_⟩
  refine⟨_,rfl,63,rfl,a,_,rfl,hS,λq0 hq0=>?_⟩
  rw[Ay hl]
  refine⟨q0,_,rfl,.inl (SqL.of b9),λq hq=>⟨Nat.le_of_lt (P6 (by show 3<=1000;decide)),λp hp=>?_⟩⟩
  have s0:d8 H (upd H q0 (.lst (ns.map V.int))):=d8.upd hq0
  have nqp:q≠p:=d6 b9 hp
  refine k p q _ ⟨b9,by rw[a9 nqp];exact b9,hl,(by show(0:Int)<=0;decide),(by show(0:Int)<=0;decide),Ne.symm nqp⟩ λb o e=>?_
  have e1:upd (upd H q0 (.lst (ns.map V.int))) q (.lst (ns.map V.int)) b=some o:=by rw[a9 (d6 (s0 b o e) hq)];exact s0 b o e
  rw[a9 (d6 e1 hp)]
  exact e1
theorem K5:FnScope ["_law_feed_here","_law_many","_law_digit","_law_at","_law_cell","_law_first"] ["_law_feed_here","_law_many"] (defScope Ca):={}
theorem Gg {f:Addr}{fd:FuncData}(Fn:Fun K "_law_next" "_law_next" Ca f fd)(T:Txt K mg):FnOk P w K mg base CX0 1 f fd ["_law_feed_here","_law_many"] (spD K 2 drawS):=by
 refine Fn.ok K5 (λvs H Q E h=>?_) (λcdv A outer s H vs Q E hr h=>?_)
 .obtain⟨G,B,F,args,d,F',hl,_⟩:=h
  exact hl
 .obtain⟨G,B,F,args,dd,F',hl,fB,bk,fa,ha,hm0,q⟩:=h
  obtain⟨m,rfl⟩:∃m,args=[.feed,.dat (.int m)]:=by
   unfold drawS at hm0
   split at hm0
   .exact⟨_,rfl⟩
   .cases hm0
  obtain⟨v,r,rfl,_,⟨d,c,rfl,rfl⟩,v2,r2,rfl,_,hv2,rfl⟩:=ha
  have hv2:v2 = .int m:=by simpa only[DVr,a7] using hv2
  subst hv2
  obtain⟨⟨r0,F1⟩,e1,e2⟩:=bS9 hm0
  cases e2
  replace e1:dG m F=some (r0,F1):=e1
  have hcond:0<m/\m<1073741824/\F.t<199999:=by
   unfold dG at e1
   split at e1
   .assumption
   .cases e1
  obtain⟨hm,hm2,htl⟩:=hcond
  obtain⟨ns,a,l,t⟩:=F
  obtain⟨⟨hd,hc,hl63,ha0,ht0,ndc⟩,tbo⟩:=fa
  simp only at hd hc hl63 ha0 ht0 htl
  have k:∀(r:Int) (H':Hp) (F2:FdS),dG m ⟨ns,a,l,t⟩=some (r,F2)->Feeds.At d c H' F2->(∀b o,H b=some o->b≠d->H' b=some o)->Q (.int r) H':=λr H' F2 er fa' kp=>by
   rw[er]at e1
   cases e1
   exact q _ H' (λb o e nb=>kp b o e λz=>nb (by simp[k9,z])) ⟨fa',tbo.but hd ⟨λ_ z=>(by cases z),λ_ z=>(by cases z)⟩ kp⟩ a7.int
  have hdr:dG m ⟨ns,a,l,t⟩=some (if 0<l then(l % m,⟨ns,a,l / m,t+1⟩) else if 10 ^ 18<=(FdS.cellL ⟨ns,a,l,t⟩)/\a<ns.length then((FdS.cellL ⟨ns,a,l,t⟩) % m,⟨ns,a+1,(FdS.cellL ⟨ns,a,l,t⟩) / m,t+1⟩) else((FdS.mixN ⟨ns,a,l,t⟩) % m,⟨ns,a+1,l,t+1⟩)):=by
   unfold dG;rw[if_pos ⟨hm,hm2,htl⟩]
  have ncd:c≠d:=Ne.symm ndc
  refine⟨_,i8 (fu (N1 xb (K0 A7 (pv 0) f7 (λ_ _=>rfl)) f7 (Q9 _))
    (i8 (J7 (i:=2) K5.nd rfl (Or.inl rfl) (v6 Z6 (K0 A7 (pv 0) f7 (λ_ _=>rfl)) (pv 1)))
     (i8 (T7 (v6 iG (K0 A7 (pv 0) f7 (λ_ _=>rfl)) (pv 1)) (Y2 (pv 0) f7 O1 (λ_=>rfl))) (C0 (W2 (pv 2))))) dY)
   (i8 (J7 (i:=3) K5.nd rfl (Or.inl rfl) (K0 A7 (pv 0) f7 (λ_ _=>rfl)))
   (i8 (T7 (v6 V6 (pv 3) f7) (Y2 (pv 0) f7 O1 (λ_=>rfl)))
   (i8 (J7 (i:=4) K5.nd rfl (Or.inl rfl) (kP (N1 (qQ (Nat.lt_of_le_of_lt (Nat.le_add_right _ 64) hr.units)) (K0 A7 (pv 0) f7 (λ_ _=>rfl)) (L6 j6) (Q9 _))
    (K0 A7 (K0 A7 (pv 0) f7 (λ_ _=>rfl)) (v6 Z6 (pv 3) (P9 F8 (by rfl) T.len PySem.boot_len (h9 (K0 A7 (pv 0) f7 (λ_ _=>rfl)) j6))) (λ_ _=>rfl)) f7))
   (i8 (fu (PW.pt (iR (N1 xo (pv 4) (v6 rD f7 f7) (Q9 _)) (eu (N1 wW (pv 3) (P9 F8 (by rfl) T.len PySem.boot_len (h9 (K0 A7 (pv 0) f7 (λ_ _=>rfl)) j6)) (Q9 _)))))
    (i8 (T7 (v6 iG (pv 4) (pv 1)) (Y2 (pv 0) f7 O1 (λ_=>rfl))) (C0 (W2 (v6 Z6 (pv 4) (pv 1))))) dY)
   (i8 (J7 (i:=5) K5.nd rfl (Or.inl rfl) (v6 Z6 (v6 bo (v6 V6 (v6 V6 (v6 V6 (v6 Z6 (pv 4) f7) (v6 bo (v6 bo f7 (pv 3)) (pv 3))) (v6 bo f7 (pv 3))) f7) f7) f7))
   (C0 (W2 (v6 Z6 (v6 iG (v6 Z6 (v6 bo (v6 Z6 (v6 V6 (v6 V6 (v6 bo (pv 5) (pv 5)) (v6 bo f7 (pv 3))) f7) f7) f7) f7) f7) (pv 1))))))))),?_⟩
  refine⟨_,rfl,d,_,_,_,rfl,rfl,SqL.of hd,rfl,_,_,rfl,rfl,_,rfl,?_⟩
  refine jO (λhleft=>?_) (λhleft=>?_)
  .have hleft:0<l:=of_decide_eq_true hleft
   refine⟨_,rfl,d,_,_,_,rfl,rfl,SqL.of hd,rfl,_,rfl,_,_,rfl,rfl,hm,?_⟩
   refine⟨_,rfl,d,_,_,_,rfl,rfl,SqL.of hd,rfl,_,rfl,_,_,rfl,rfl,⟨hm,hm2⟩,_,rfl,d,_,_,2,rfl,rfl,hd,rfl,_,rfl,?_⟩
   exact k _ _ ⟨ns,a,l / m,t+1⟩ (by rw[hdr,if_pos hleft]) ⟨b9,by rw[a9 ncd];exact hc,hl63,ha0,by simp only;omega,ndc⟩ (λb o e hb=>by rw[a9 hb];exact e)
  .have hleft:¬0<l:=λz=>hleft (decide_eq_true z)
   refine⟨_,rfl,d,_,_,_,rfl,rfl,SqL.of hd,rfl,?_⟩
   refine⟨_,rfl,_,_,rfl,rfl,_,rfl,d,_,_,1,rfl,rfl,hd,rfl,?_⟩
   have hd1:(upd H d (.lst [.ref c,.int (a+1),.int l])) d=some (.lst [.ref c,.int (a+1),.int l]):=b9
   have hc1:(upd H d (.lst [.ref c,.int (a+1),.int l])) c=some (.lst (ns.map V.int)):=by rw[a9 ncd];exact hc
   have kp1:∀b o,H b=some o->b≠d->(upd H d (.lst [.ref c,.int (a+1),.int l])) b=some o:=λb o e hb=>by rw[a9 hb];exact e
   show O9 _ _ _ _ (upd H d (.lst [.ref c,.int (a+1),.int l]))
   generalize upd H d (.lst [.ref c,.int (a+1),.int l])=H1 at hd1 hc1 kp1
   refine⟨_,rfl,d,_,_,_,rfl,rfl,SqL.of hd1,rfl,?_⟩
   refine⟨Nat.le_of_lt (P6 (by show 0<=1000;decide)),λp hp=>?_⟩
   replace kp1:∀b o,H b=some o->b≠d->(upd H1 p (.lst [])) b=some o:=λb o e hb=>by rw[a9 (d6 (kp1 b o e hb) hp)];exact kp1 b o e hb
   replace hd1:(upd H1 p (.lst [])) d=some (.lst [.ref c,.int (a+1),.int l]):=by rw[a9 (d6 hd1 hp)];exact hd1
   replace hc1:(upd H1 p (.lst [])) c=some (.lst (ns.map V.int)):=by rw[a9 (d6 hc1 hp)];exact hc1
   have hpp:(upd H1 p (.lst [])) p=some (.lst []):=b9
   generalize upd H1 p (.lst [])=H1 at hd1 hc1 kp1 hpp
   refine⟨c,p,_,rfl,rfl,SqL.of hc1,SqL.of hpp,_,rfl,?_⟩
   have big:10 ^ 18<=(FdS.cellL ⟨ns,a,l,t⟩)/\a<ns.length->Q (.int (FdS.cellL ⟨ns,a,l,t⟩ % m)) (upd H1 d (.lst [.ref c,.int (a+1),.int (FdS.cellL ⟨ns,a,l,t⟩ / m)])):=λhb =>
    k _ _ ⟨ns,a+1,FdS.cellL ⟨ns,a,l,t⟩ / m,t+1⟩ (by rw[hdr,if_neg hleft,if_pos hb]) ⟨b9,by rw[a9 ncd];exact hc1,hl63,by simp only;omega,by simp only;omega,ndc⟩ (λb o e hb=>by rw[a9 hb];exact kp1 b o e hb)
   have small:¬(10 ^ 18<=(FdS.cellL ⟨ns,a,l,t⟩)/\a<ns.length)->Q (.int (FdS.mixN ⟨ns,a,l,t⟩ % m)) H1:=λhb =>
    k _ _ ⟨ns,a+1,l,t+1⟩ (by rw[hdr,if_neg hleft,if_neg hb]) ⟨hd1,hc1,hl63,by simp only;omega,by simp only;omega,ndc⟩ kp1
   unfold FdS.mixN FdS.fstN at small
   simp only at small
   refine jO (λhne=>?_) (λhe=>?_)
   .have h0:¬ns=[]:=by intro e;rw[e]at hne;simp at hne
    have hne:(0:Int)<ns.length:=by have:=List.length_pos_iff.mpr h0;omega
    refine⟨_,rfl,d,_,_,_,rfl,rfl,SqL.of hd1,rfl,_,rfl,_,rfl,d,_,_,_,rfl,rfl,SqL.of hd1,rfl,c,_,rfl,.inl (SqL.of hc1),_,_,rfl,rfl,(by rw[List.length_map];exact hne),c,_,_,_,rfl,rfl,SqL.of hc1,qK (F:=⟨ns,a,l,t⟩) h0,?_⟩
    generalize FdS.cellL ⟨ns,a,l,t⟩=z at big small
    obtain⟨q1,q2⟩:=lN (x:=(z % 1000003+37*a*a+13*a+5)*48271) (m:=999983) (by decide)
    have tl:¬(10 ^ 18<=(z:Int)/\a<ns.length)->Q (.int (((z % 1000003+37*a*a+13*a+5)*48271 % 999983*((z % 1000003+37*a*a+13*a+5)*48271 % 999983)+7919*a+11) % 2097143*69621 % 2147483629 / 7 % m)) H1:=small
    refine⟨_,rfl,_,_,rfl,rfl,⟨by decide,by decide,by decide⟩,_,_,rfl,rfl,_,rfl,?_⟩
    refine jO (λhb1=>⟨_,rfl,_,rfl,d,_,_,_,rfl,rfl,SqL.of hd1,rfl,c,_,rfl,.inl (SqL.of hc1),_,_,rfl,rfl,_,rfl,jO (λhb2=>?_) (λhb2=>?_)⟩) (λhb1=>qO ?_)
    .have hb1:=of_decide_eq_true hb1
     have hb2:=of_decide_eq_true hb2
     rw[List.length_map]at hb2
     exact⟨_,rfl,_,rfl,_,_,rfl,rfl,⟨hm,hm2⟩,_,rfl,d,_,_,2,rfl,rfl,hd1,rfl,_,rfl,_,rfl,_,_,rfl,rfl,hm,big ⟨hb1,hb2⟩⟩
    .have hq:=tl λhb=>hb2 (decide_eq_true (by rw[List.length_map];exact hb.2))
     refine⟨_,rfl,_,_,rfl,rfl,(by show(0:Int)<1000003;decide),_,rfl,_,_,rfl,rfl,.inl ⟨by decide,by decide⟩,_,rfl,_,_,rfl,rfl,.inr ⟨by omega,by omega⟩,_,_,rfl,rfl,_,rfl,_,_,rfl,rfl,.inl ⟨by decide,by decide⟩,_,_,rfl,rfl,_,_,rfl,rfl,_,_,rfl,rfl,.inr ⟨by decide,by decide⟩,_,_,rfl,rfl,(by show(0:Int)<999983;decide),?_⟩
     refine⟨_,rfl,_,rfl,_,_,rfl,rfl,.inl ⟨by omega,by omega⟩,_,rfl,_,_,rfl,rfl,.inl ⟨by decide,by decide⟩,_,_,rfl,rfl,_,_,rfl,rfl,_,_,rfl,rfl,(by show(0:Int)<2097143;decide),?_⟩
     exact⟨_,_,rfl,rfl,.inr ⟨by decide,by decide⟩,_,_,rfl,rfl,(by show(0:Int)<2147483629;decide),_,_,rfl,rfl,⟨by decide,by decide⟩,_,rfl,_,_,rfl,rfl,hm,hq⟩
    .have hq:=tl λhb=>hb1 (decide_eq_true hb.1)
     refine⟨_,rfl,_,_,rfl,rfl,(by show(0:Int)<1000003;decide),_,rfl,_,_,rfl,rfl,.inl ⟨by decide,by decide⟩,_,rfl,_,_,rfl,rfl,.inr ⟨by omega,by omega⟩,_,_,rfl,rfl,_,rfl,_,_,rfl,rfl,.inl ⟨by decide,by decide⟩,_,_,rfl,rfl,_,_,rfl,rfl,_,_,rfl,rfl,.inr ⟨by decide,by decide⟩,_,_,rfl,rfl,(by show(0:Int)<999983;decide),?_⟩
     refine⟨_,rfl,_,rfl,_,_,rfl,rfl,.inl ⟨by omega,by omega⟩,_,rfl,_,_,rfl,rfl,.inl ⟨by decide,by decide⟩,_,_,rfl,rfl,_,_,rfl,rfl,_,_,rfl,rfl,(by show(0:Int)<2097143;decide),?_⟩
     exact⟨_,_,rfl,rfl,.inr ⟨by decide,by decide⟩,_,_,rfl,rfl,(by show(0:Int)<2147483629;decide),_,_,rfl,rfl,⟨by decide,by decide⟩,_,rfl,_,_,rfl,rfl,hm,hq⟩
   .have h0:ns=[]:=by
     cases ns with
     | nil=>rfl
     | cons x y=>exact absurd rfl he
    have hcell:FdS.cellL ⟨ns,a,l,t⟩=0:=by unfold FdS.cellL;rw[if_pos h0]
    rw[hcell]at big small
    obtain⟨q1,q2⟩:=lN (x:=((0:Int) % 1000003+37*a*a+13*a+5)*48271) (m:=999983) (by decide)
    have tl:¬(10 ^ 18<=((0:Int):Int)/\a<ns.length)->Q (.int ((((0:Int) % 1000003+37*a*a+13*a+5)*48271 % 999983*(((0:Int) % 1000003+37*a*a+13*a+5)*48271 % 999983)+7919*a+11) % 2097143*69621 % 2147483629 / 7 % m)) H1:=small
    refine⟨_,rfl,_,_,rfl,rfl,⟨by decide,by decide,by decide⟩,_,_,rfl,rfl,_,rfl,?_⟩
    refine jO (λhb1=>⟨_,rfl,_,rfl,d,_,_,_,rfl,rfl,SqL.of hd1,rfl,c,_,rfl,.inl (SqL.of hc1),_,_,rfl,rfl,_,rfl,jO (λhb2=>?_) (λhb2=>?_)⟩) (λhb1=>qO ?_)
    .have hb1:=of_decide_eq_true hb1
     have hb2:=of_decide_eq_true hb2
     rw[List.length_map]at hb2
     exact⟨_,rfl,_,rfl,_,_,rfl,rfl,⟨hm,hm2⟩,_,rfl,d,_,_,2,rfl,rfl,hd1,rfl,_,rfl,_,rfl,_,_,rfl,rfl,hm,big ⟨hb1,hb2⟩⟩
    .have hq:=tl λhb=>hb2 (decide_eq_true (by rw[List.length_map];exact hb.2))
     refine⟨_,rfl,_,_,rfl,rfl,(by show(0:Int)<1000003;decide),_,rfl,_,_,rfl,rfl,.inl ⟨by decide,by decide⟩,_,rfl,_,_,rfl,rfl,.inr ⟨by omega,by omega⟩,_,_,rfl,rfl,_,rfl,_,_,rfl,rfl,.inl ⟨by decide,by decide⟩,_,_,rfl,rfl,_,_,rfl,rfl,_,_,rfl,rfl,.inr ⟨by decide,by decide⟩,_,_,rfl,rfl,(by show(0:Int)<999983;decide),?_⟩
     refine⟨_,rfl,_,rfl,_,_,rfl,rfl,.inl ⟨by omega,by omega⟩,_,rfl,_,_,rfl,rfl,.inl ⟨by decide,by decide⟩,_,_,rfl,rfl,_,_,rfl,rfl,_,_,rfl,rfl,(by show(0:Int)<2097143;decide),?_⟩
     exact⟨_,_,rfl,rfl,.inr ⟨by decide,by decide⟩,_,_,rfl,rfl,(by show(0:Int)<2147483629;decide),_,_,rfl,rfl,⟨by decide,by decide⟩,_,rfl,_,_,rfl,rfl,hm,hq⟩
    .have hq:=tl λhb=>hb1 (decide_eq_true hb.1)
     refine⟨_,rfl,_,_,rfl,rfl,(by show(0:Int)<1000003;decide),_,rfl,_,_,rfl,rfl,.inl ⟨by decide,by decide⟩,_,rfl,_,_,rfl,rfl,.inr ⟨by omega,by omega⟩,_,_,rfl,rfl,_,rfl,_,_,rfl,rfl,.inl ⟨by decide,by decide⟩,_,_,rfl,rfl,_,_,rfl,rfl,_,_,rfl,rfl,.inr ⟨by decide,by decide⟩,_,_,rfl,rfl,(by show(0:Int)<999983;decide),?_⟩
     refine⟨_,rfl,_,rfl,_,_,rfl,rfl,.inl ⟨by omega,by omega⟩,_,rfl,_,_,rfl,rfl,.inl ⟨by decide,by decide⟩,_,_,rfl,rfl,_,_,rfl,rfl,_,_,rfl,rfl,(by show(0:Int)<2097143;decide),?_⟩
     exact⟨_,_,rfl,rfl,.inr ⟨by decide,by decide⟩,_,_,rfl,rfl,(by show(0:Int)<2147483629;decide),_,_,rfl,rfl,⟨by decide,by decide⟩,_,rfl,_,_,rfl,rfl,hm,hq⟩
theorem jl:FnScope ["_law_feed_here"] ["_law_feed_here"] (defScope Cb):={}
abbrev CP:=bX
abbrev Ct0 (P:Program)(w:World)(K:Fg)(mg:Str->Option Value)(base:Heap):=Callee P w K mg base "_law_next" 1 ["_law_feed_here","_law_many"] (spD K 2 drawS)
theorem Gh {f:Addr}{fd:FuncData}(Fn:Fun K "_law_rule" "_law_rule" Cb f fd)(T:Txt K mg)(BA:Ct0 P w K mg base):FnOk P w K mg base CX0 2 f fd ["_law_feed_here"] (spD K 1 CP):=by
 refine Q8 Fn jl λcdv A outer s H E hr=>?_
 exact⟨_,(i4 (x8 (x9 (x3 rfl) (Ev.bw (T3 (.list [.str "first",.str "last",.str "short",.str "front",.str "lastoff",.str "shortoff",.str "frontoff",.str "turns"]) rfl)) (Ev.bw (j4 BA (hr.mono (by decide)) (X5 0 (x6 f9 l9)) (X4 (x4 n9)))))))⟩
theorem aF:FnScope ["_law_feed_here","_law_places"] ["_law_feed_here"] (defScope BV):={}
abbrev BW:=ar
theorem FQ {f:Addr}{fd:FuncData}(Fn:Fun K "_law_house" "_law_house" BV f fd)(T:Txt K mg)(BA:Ct0 P w K mg base)(CQ:Callee P w K mg base "_law_rule" 2 ["_law_feed_here"] (spD K 1 CP)):FnOk P w K mg base CX0 3 f fd ["_law_feed_here"] (spD K 1 BW):=by
 refine Q8 Fn aF λcdv A outer s H E hr=>?_
 exact⟨_,(d5 (n8 1 aF.nd (x9 (x3 rfl) (Ev.bw (T3 (.list [.none,.none,.none,.int 0,.int 1,.int 2,.int 3,.int 4,.int 5,.int 6]) rfl)) (Ev.bw (j4 BA (hr.mono (by decide)) (X5 0 (x6 f9 l9)) (X4 (x4 n9))))))
   (i4 (x8 (E7 (d7 (K4 (K3 rfl) (Ev.bw f9) (Ev.bw (j4 BA (hr.mono (by decide)) (X5 0 (x6 f9 l9)) (X4 (x4 n9))))) (d7 (k7 1) (d7 (j4 CQ (hr.mono (by decide)) (X5 0 l9) (X4 n9)) i9)))))))⟩
theorem E5:FnScope ["_law_feed_here","_law_beats","_law_works","_law_way_here","_law_many","_law_k","_law_beat_here","_law_j"] ["_law_feed_here","_law_beats","_law_works"] (defScope Cd):={}
abbrev Du:=ik ["_law_feed_here","_law_beats","_law_works","_law_way_here","_law_many","_law_k","_law_beat_here","_law_j"]
theorem GZ {f:Addr}{fd:FuncData}(Fn:Fun K "_law_way" "_law_way" Cd f fd)(T:Txt K mg)(BA:Ct0 P w K mg base):FnOk P w K mg base CX0 2 f fd ["_law_feed_here","_law_beats","_law_works"] (spD K 3 Du):=by
 refine Q8 Fn E5 λcdv A outer s H E hr=>?_
 exact⟨_,(d5 (bq 3 E5.nd (Q0 i9))
   (d5 (n8 4 E5.nd f9)
   (d5 (T8 rfl (W5 (d7 (j4 BA (hr.mono (by decide)) (X5 0 (x6 (K4 (K3 rfl) (g9 1) (Ev.bw f9)) l9)) (X4 (x4 n9))) i9) T.range) (v5 (i:=5) E5.nd) (d5 (bq 6 E5.nd (Q0 i9))
   (d5 (T8 rfl (W5 (d7 (x9 (x3 rfl) (Ev.bw (T3 (.list [.int 0,.int 0,.int 1,.int 1,.int 2,.int 3]) rfl)) (Ev.bw (j4 BA (hr.mono (by decide)) (X5 0 (x6 f9 l9)) (X4 (x4 n9))))) i9) T.range) (v5 (i:=7) E5.nd) (i4 (G4 (p9 oj (g9 4) (Ev.bw f9)) (d5 (M8 6 rfl (E7 (d7 (j4 BA (hr.mono (by decide)) (X5 0 (x6 f9 l9)) (X4 (x4 n9))) (d7 (K4 (K3 rfl) (Ev.bw f9) (Ev.bw (j4 BA (hr.mono (by decide)) (X5 0 (x6 (k7 2) l9)) (X4 (x4 n9))))) i9))))
   (i4 (n8 4 E5.nd (K4 (K3 rfl) (g9 4) (Ev.bw f9))))) C4)))
   (i4 (M8 3 rfl (A4 (D9 rfl) T.tuple E8 (i7 (g9 6) l7)))))))
   (i4 (x8 (A4 (D9 rfl) T.tuple E8 (i7 (g9 3) l7)))))))⟩
theorem S8:FnScope ["_law_feed_here","_law_beats"] ["_law_feed_here"] (defScope BJ):={}
abbrev BL:=cg ["_law_feed_here","_law_beats","_law_works","_law_way_here","_law_many","_law_k","_law_beat_here","_law_j"]
theorem El {f:Addr}{fd:FuncData}(Fn:Fun K "_law_sized_way" "_law_sized_way" BJ f fd)(T:Txt K mg)(BA:Ct0 P w K mg base)(Dv:Callee P w K mg base "_law_way" 2 ["_law_feed_here","_law_beats","_law_works"] (spD K 3 Du)):FnOk P w K mg base CX0 3 f fd ["_law_feed_here"] (spD K 1 BL):=by
 refine Q8 Fn S8 λcdv A outer s H E hr=>?_
 exact⟨_,(d5 (n8 1 S8.nd (x9 (x3 rfl) (Ev.bw (T3 (.list [.int 5,.int 9,.int 14,.int 24]) rfl)) (Ev.bw (j4 BA (hr.mono (by decide)) (X5 0 (x6 f9 l9)) (X4 (x4 n9))))))
   (i4 (x8 (j4 Dv (hr.mono (by decide)) (X5 0 (x6 (k7 1) (x6 (x9 (x3 rfl) (Ev.bw (T3 (.list [.int 1,.int 3,.int 6]) rfl)) (Ev.bw (j4 BA (hr.mono (by decide)) (X5 0 (x6 f9 l9)) (X4 (x4 n9))))) l9))) (X4 (x4 (x4 n9)))))))⟩
theorem gh:FnScope ["_law_rule_here","_law_one","_law_other"] ["_law_rule_here","_law_one","_law_other"] (defScope BP):={}
abbrev CD:=bA
theorem FR {f:Addr}{fd:FuncData}(Fn:Fun K "_law_ahead" "_law_ahead" BP f fd)(T:Txt K mg) :FnOk P w K mg base CX0 1 f fd ["_law_rule_here","_law_one","_law_other"] (spD K 3 CD):=by
 refine Q8 Fn gh λcdv A outer s H E hr=>?_
 have hu5:(A.deeper (PyProof.Rows.envOfC "_law_ahead" (defScope BP) s.heap.objs.size f cdv)).units+65<cLine:=by have:=hr.un;omega
 exact⟨_,(d5 (G4 (p9 (xM rfl hr.units) (Ev.bw (x9 (x3 rfl) (g9 1) (Ev.bw f9))) (Ev.bw (x9 (x3 rfl) (g9 2) (Ev.bw f9)))) (i4 (x8 (x9 (x3 rfl) (g9 1) (Ev.bw f9)))) C4)
   (d5 (G4 (p9 (Z8 rfl hu5) (g9 0) (Ev.bw (T3 (.tuple [.str "last",.str "lastoff"]) rfl))) (i4 (x8 kY)) C4)
   (d5 (G4 (p9 (Z8 rfl hu5) (g9 0) (Ev.bw (T3 (.tuple [.str "short",.str "shortoff"]) rfl))) (i4 (x8 (aQ oj (Ev.bw (x9 (x3 rfl) (g9 1) (Ev.bw f9))) (Ev.bw (x9 (x3 rfl) (g9 2) (Ev.bw f9)))))) C4)
   (i4 (x8 (xV (aQ (Z8 rfl hu5) (g9 0) (Ev.bw (T3 (.tuple [.str "front",.str "frontoff"]) rfl))) (zq (aQ oj (Ev.bw (x9 (x3 rfl) (g9 1) (Ev.bw f9))) (Ev.bw (x9 (x3 rfl) (g9 2) (Ev.bw f9)))))))))))⟩
section
local instance JD:Feeds:=G5
theorem l3:FnScope ["_law_m","_law_hands","_law_places","_law_rule_here","_law_line","_law_found","_law_hand","_law_best","_law_place"] ["_law_m"] (defScope BN):={}
abbrev Cy:=LM.Er
theorem FL {f:Addr}{fd:FuncData}(Fn:Fun K "_law_picked" "_law_picked" BN f fd)(T:Txt K mg)(Cc:Callee P w K mg base "_law_ahead" 1 ["_law_rule_here","_law_one","_law_other"] (@spD fdI K 3 CD)):FnOk P w K mg base CX0 2 f fd ["_law_m"] (spM K 1 Cy):=by
 refine iS Fn l3 (by decide) λcdv A outer s H E hr=>?_
 have hu5:(A.deeper (PyProof.Rows.envOfC "_law_picked" (defScope BN) s.heap.objs.size f cdv)).units+65<cLine:=by have:=hr.un;omega
 have Cc:=oZ (show Regs.lam=Fam.lam from rfl) Cc
 exact⟨_,(y8 (sD (pQ (kg hu5)) (J8 (n:=3) rfl (e9 (v5 (i:=1) l3.nd) (e9 (v5 (i:=2) l3.nd) (e9 (v5 (i:=3) l3.nd) C7)))) (cx (J6 (O8 (by decide)) (J6 (O8 (by decide)) (J6 (O8 (by decide)) cV))))) (oQ 4 hu5 l3.nd (W1 (bq 5 l3.nd (Q0 i9))
   (W1 (T8 rfl (W5 (d7 (r6 (xO rfl rfl) T.min zd (i7 (g9 1) (i7 (Ev.bw (r6 (M1 rfl) T.len M3 (i7 (g9 4) l7))) l7))) i9) T.range) (v5 (i:=6) l3.nd) (d5 (n8 7 l3.nd w4)
   (d5 (T8 rfl (W5 (d7 (r6 (M1 rfl) T.len M3 (i7 (g9 4) l7)) i9) T.range) (v5 (i:=8) l3.nd) (d5 (G4 (p9 (Z8 rfl hu5) (g9 8) (g9 5)) (i4 uO) C4)
   (i4 (G4 (Ew.t (xK (p9 oy (g9 7) (Ev.bw w4)) (rF (fH (Ev.bw (j4 Cc (hr.mono (by decide)) (x6 (k7 3) (x6 (x9 (x3 rfl) (g9 4) (g9 8)) (x6 (x9 (x3 rfl) (g9 4) (g9 7)) l9))) (x4 (x4 (x4 n9))))))))) (i4 (n8 7 l3.nd (k7 8))) C4))))
   (i4 (M8 5 rfl (k7 7))))))
   (sA 5)))))⟩
end
section
local instance Kk:Feeds:=G5
theorem C9:FnScope ["_law_m","_law_comers","_law_places","_law_lost","_law_rank","_law_work","_law_is_lost"] ["_law_m","_law_comers"] (defScope BR):={}
abbrev CT:=LM.Ge
theorem Gi {f:Addr}{fd:FuncData}(Fn:Fun K "_law_come" "_law_come" BR f fd)(T:Txt K mg) :FnOk P w K mg base CX0 1 f fd ["_law_m","_law_comers"] (spM K 2 CT):=by
 refine iS Fn C9 (by decide) λcdv A outer s H E hr=>?_
 have hu5:(A.deeper (PyProof.Rows.envOfC "_law_come" (defScope BR) s.heap.objs.size f cdv)).units+65<cLine:=by have:=hr.un;omega
 exact⟨_,(y8 (cy 2 (by decide) C9.nd (AR (x3 rfl) (pQ (kg hu5)) (gJ f9)))
   (y8 (dH (n8 3 C9.nd f9))
   (y8 (rA rfl (jt (k7 1)) (J8 (n:=2) rfl (e9 (v5 (i:=4) C9.nd) (e9 (v5 (i:=5) C9.nd) C7))) (cx (J6 (O8 (by decide)) (J6 (O8 (by decide)) cV))) (y8 (cy 6 (by decide) C9.nd (zC (gJ (aQ Q3 (g9 2) (Ev.bw w4))) (zm (zN AQ (pQ (vS rfl hu5 T.len)) (gJ (k7 2))))))
   (y8 (xH (qR (tw (fH (g9 6)))) (cK (vx rfl hu5 (N9 (wD rfl hu5 T.len) (N9 (qc (k7 4)) (N9 (qc (k7 5)) (N9 (qc kY) nR)))))) sP)
   (y8 (vt rfl hu5 (N9 (qc (x9 (x3 rfl) (Ev.bw (T3 (.list [.str "in",.str "lost"]) rfl)) (Ev.bw (A4 (mz) T.int mO (i7 (g9 6) l7))))) (N9 (uw hu5) (N9 (qc w4) (N9 (qc f9) nR)))))
   (cK (dH (n8 3 C9.nd (K4 (K3 rfl) (g9 3) (Ev.bw (A4 (mz) T.int mO (i7 (g9 6) l7)))))))))))
   (cK (dH (x8 (k7 3)))))))⟩
end
section
local instance Kl:Feeds:=G5
theorem v4:FnScope ["_law_m","_law_comers","_law_lost","_law_some","_law_stay","_law_turned","_law_gone","_law_place","_law_person","_law_row"] ["_law_m","_law_comers"] (defScope BU):={}
abbrev CU:=LM.Ej
theorem Gj {f:Addr}{fd:FuncData}(Fn:Fun K "_law_beat" "_law_beat" BU f fd)(T:Txt K mg)(CV:Callee P w K mg base "_law_come" 1 ["_law_m","_law_comers"] (spM K 2 CT))(Cz:Callee P w K mg base "_law_picked" 2 ["_law_m"] (spM K 1 Cy)):FnOk P w K mg base CX0 3 f fd ["_law_m","_law_comers"] (spM K 2 CU):=by
 refine iS Fn v4 (by decide) λcdv A outer s H E hr=>?_
 have hu5:(A.deeper (PyProof.Rows.envOfC "_law_beat" (defScope BU) s.heap.objs.size f cdv)).units+65<cLine:=by have:=hr.un;omega
 exact⟨_,(have hu:=zV hr;y8 (cy 2 (by decide) v4.nd (iW CV (hr.mono (by decide)) (bG (gJ (k7 1)) eD) (jE iY)))
   (y8 (cy 3 (by decide) v4.nd (iW Cz (hr.mono (by decide)) eD iY))
   ⟨(i8 (nJ hu (pv 0) u7 (v6 V6 (B8 hu (pv 0) u7 (λ_ _=>rfl)) f7) rfl)
   (i8 (J7 (i:=4) v4.nd rfl (Or.inl rfl) (L6 j6)) (i8 (J7 (i:=5) v4.nd rfl (Or.inl rfl) (L6 j6)) (i8 (J7 (i:=6) v4.nd rfl (Or.inl rfl) (L6 j6))
   (i8 (mC PassesOwn.never rfl (hX rfl T.range (h9 (P9 F8 rfl T.len PySem.boot_len (h9 (B8 hu (pv 0) u7 (λ_ _=>rfl)) j6)) j6)) (om (i:=7) v4.nd rfl (Or.inl rfl))
    (i8 (J7 (i:=8) v4.nd rfl (Or.inl rfl) (K0 A7 (B8 hu (pv 0) u7 (λ_ _=>rfl)) (pv 7) (λ_ _=>rfl)))
    (i8 (J7 (i:=9) v4.nd rfl (Or.inl rfl) (K0 A7 (B8 hu (pv 0) u7 (λ_ _=>rfl)) (K0 A7 (pv 8) f7 (λ_ _=>rfl)) (λ_ _=>rfl)))
    (i8 (fu (N1 (Z8 rfl hu5) (pv 7) (pv 3) rfl)
      (i8 (T7 (v6 su (K0 A7 (pv 8) f7 (λ_ _=>rfl)) f7) (Y2 (pv 8) f7 O1 (λ_=>rfl))) (C0 (T7 (dX (Z8 rfl hu5) (K0 nc (B8 hu (pv 0) u7 (λ_ _=>rfl)) f7 (λ_ _=>rfl)) (T3 (K:=K) jS rfl).pe rfl) (Y2 (pv 8) f7 O1 (λ_=>rfl)))))
      (C0 (T7 (v6 V6 (K0 A7 (pv 9) f7 (λ_ _=>rfl)) f7) (Y2 (pv 9) f7 O1 (λ_=>rfl)))))
    (C0 (fu (N1 tQ (K0 A7 (pv 8) f7 (λ_ _=>rfl)) f7 (Q9 _))
      (i8 (T7 u7 (Y2 (pv 9) f7 O1 (λ_=>rfl))) (i8 (T7 (B8 hu (pv 0) u7 (λ_ _=>rfl)) (Y2 (pv 9) f7 O1 (λ_=>rfl))) (C0 (X2 (eY PySem.F.plainAttrs_list PySem.F.slot_list_append PySem.F.type_list_append F9 (pv 6) (h9 (K0 A7 (pv 8) f7 (λ_ _=>rfl)) j6))))))
      (C0 (fu (PW.pt (iR (N1 (Z8 rfl hu5) (pv 7) (pv 3) rfl) (eu (N1 tQ (K0 nc (B8 hu (pv 0) u7 (λ_ _=>rfl)) f7 (λ_ _=>rfl)) u7 (Q9 _))))) (C0 (X2 (eY PySem.F.plainAttrs_list PySem.F.slot_list_append PySem.F.type_list_append F9 (pv 5) (h9 (pv 8) j6)))) (C0 (X2 (eY PySem.F.plainAttrs_list PySem.F.slot_list_append PySem.F.type_list_append F9 (pv 4) (h9 (pv 8) j6))))))))))))
   (i8 (nJ hu (pv 0) u7 (v6 tE (pv 4) (pv 5)) rfl) (C0 (W2 (iE (h9 (pv 2) (h9 (pv 6) j6))))))))))),yn⟩))⟩
end
section
local instance Kn:Feeds:=G5
theorem jZ:FnScope ["_law_house_here"] ["_law_house_here"] (defScope Ce):={}
theorem Hb {f:Addr}{fd:FuncData}(Fn:Fun K "_law_new" "_law_new" Ce f fd)(T:Txt K mg):FnOk P w K mg base CX0 1 f fd ["_law_house_here"] (spN K mkHouse):=by
 refine Fn.ok jZ (λvs H Q E h=>?_) (λcdv A outer s H vs Q E hr h=>?_)
 .obtain⟨B,hh,μ,v,rfl,_⟩:=h;rfl
 .exact⟨_,C0 (W2 (vQ (bZ u7 (pv 0) (bZ u7 (L6 j6) (bZ u7 (L6 j6) (bZ u7 f7 vW)))) rfl rfl (by simp) (by decide))),AW h rfl⟩
end
section
local instance Ko:Feeds:=G5
theorem u4:FnScope ["_law_house_here","_law_way_here","_law_m","_law_found","_law_begin","_law_beat_here","_law_at","_law_was_empty","_law_lost","_law_gone"] ["_law_house_here","_law_way_here"] (defScope BX):={}
abbrev BY:=LM.FA
theorem Hc {f:Addr}{fd:FuncData}(Fn:Fun K "_law_due" "_law_due" BX f fd)(T:Txt K mg)(Dw:Callee P w K mg base "_law_new" 1 ["_law_house_here"] (spN K mkHouse))(CW:Callee P w K mg base "_law_beat" 3 ["_law_m","_law_comers"] (spM K 2 CU)):FnOk P w K mg base CX0 4 f fd ["_law_house_here","_law_way_here"] (@spD fdI K 2 BY):=by
 refine wK (show Regs.lam=Fam.lam from rfl) Fn u4 (by decide) (by decide) λcdv A outer s H E hr=>?_
 have hu5:(A.deeper (PyProof.Rows.envOfC "_law_due" (defScope BX) s.heap.objs.size f cdv)).units+65<cLine:=by have:=hr.un;omega
 exact⟨_,_,_,rfl,J7 (i:=2) u4.nd rfl (Or.inl rfl) (V1 Dw (hr.mono (by decide)) rfl (h9 (pv 0) j6)),(y8 (dH (bq 3 u4.nd (Q0 i9)))
   (y8 (dH (n8 4 u4.nd w4))
   (y8 (rA rfl (jt (k7 1)) (v5 (i:=5) u4.nd) (O8 (by decide)) (y8 (cy 6 (by decide) u4.nd (pQ (uw hu5)))
   (y8 (cy 7 (by decide) u4.nd (pQ (yi rfl hu5)))
   (y8 (sD (iW CW (hr.mono (by decide)) (bG (gJ (k7 5)) eD) (jE iY)) (J8 (n:=2) rfl (e9 (v5 (i:=8) u4.nd) (e9 (v5 (i:=9) u4.nd) C7))) (cx (J6 (O8 (by decide)) (J6 (O8 (by decide)) cV))))
   (y8 (dH (G4 (Ew.t (fh (fH (g9 7)) (cj (p9 oj (g9 8) (Ev.bw (r6 (M1 rfl) T.len M3 (i7 (g9 5) l7))))))) (i4 (n8 4 u4.nd (k7 6))) C4))
   (cK (xH (Ab (vM (qR (p9 Q3 (g9 4) (Ev.bw w4))) (rZ (wm rfl hu5)))) (y8 (ya 3 rfl (xW (bG (gJ (k7 4)) (bG (pQ (uw hu5)) eD))))
   (cK (dH (n8 4 u4.nd w4)))) sP)))))))
   (cK (dH (x8 (K4 (K3 rfl) (g9 3) (Ev.bw (K4 (nL rfl) (Ev.bw (zr (d7 (E7 (d7 (k7 4) (d7 w4 i9))) i9))) (Ev.bw (A4 (mz) T.int mO (i7 (Ev.bw (aQ Q3 (g9 4) (Ev.bw w4))) l7))))))))))))⟩
end
end
end
section
section
variable {P:Program}{w:World}{K:PySem.W.Frag}{mg:Str->Option Value}{base:Heap}
theorem Q6:FnScope ["_law_script","_law_feed_here","_law_turn","_law_house_here","_law_way_here","_law_due_here","_law_again","_law_told"] ["_law_script"] (defScope BG):={}
def G0:Stmt->List Stmt
 | .For _ _ b _ _=>b
 | _=>[]
def U2:DE->M Out:=(u5 3 (p8 BW (vF 1 D2)))
def U7:DE->M Out:=(u5 4 (p8 BL (vF 1 D2)))
def V0:DE->M Out:=(mIf (uB (s2 (eqD false) (p8 drawS (vF 1 (vD (sC (.int 2)) D2))) (sC (.int 0)))) (u5 4 (sN E9 (b8 (sLC (bW (sW 4)) 1 [1] (bN 0) dQ (sIf (uB (s2 (eqD false) (p8 drawS (vF 1 (vD (sC (.int 2)) D2))) (sC (.int 0)))) (sV 0) (sC (.tuple [])))) g7))) mNx)
def P2:DE->M Out:=(u5 4 (jR (s2 Q1 (sW 4) (s2 dm (sC (.tuple [.tuple []])) (p8 drawS (vF 1 (vD (sC (.int 13)) D2))))) oNo (oI (sC (.int 24)))))
def L9:DE->M Out:=(mIf (uB (s2 (eqD false) (p8 drawS (vF 1 (vD (sC (.int 6)) D2))) (sC (.int 0)))) (u5 4 (sN E9 (b8 (sLC (X3 (b8 (sC (.int 24)) g7)) 1 [1] (bN 0) dQ (J5 (b8 (J5 (b8 (p8 drawS (vF 1 (vD (sC (.int 2)) D2))) (b8 (sC (.int 1)) g7))) g7))) g7))) mNx)
def J9:DE->M Out:=(u5 5 (p8 BY (vD (sV 3) (vD (sV 4) D2))))
def R9:DE->M Out:=(cc 7 (jW BH (vD (sV 3) (vD (sV 4) D2))))
def S9:DE->M Out:=(mIf (uOr (nj (uT (s1 (xu "list") (sW 7)))) (uB (s2 (eqD true) (sN ka (b8 (sW 7) g7)) (sN ka (b8 (sW 5) g7))))) (mRt (sC (.bool false))) mNx)
def S5:DE->M Out:=(O2 7 (sC (.tuple [.int 0,.none])))
def M2:DE->M Out:=(Z0 (X3 (b8 (sC (.int 2)) g7)) (bN 6) (mSq R9 (mSq S9 S5)))
def iN:DE->M Out:=(Z0 (X3 (b8 (sC (.int 2)) g7)) (bN 2) (mSq U2 (mSq U7 (mSq V0 (mSq P2 (mSq L9 (mSq J9 M2)))))))
def ee:DE->M Out:=(mRt (s2 (eqD false) (p8 BK (vD (sC (.tuple [.int 1,.none,.str "first"])) (vD (sC (.tuple [])) D2))) (sC (.list []))))
section
variable {f:Addr}{cdv:Value}{A:Around}{outer:List Env}{s:Shared}{H:Hp}{E:XK}(T:Txt K mg)(hr:Room 6 (A.deeper (PyProof.Rows.envOfC "law" (defScope BG) s.heap.objs.size f cdv)))(hu5:(A.deeper (PyProof.Rows.envOfC "law" (defScope BG) s.heap.objs.size f cdv)).units+65<cLine)(BE:Callee P w K mg base "_law_house" 3 ["_law_feed_here"] (spD K 1 BW))(BC:Callee P w K mg base "_law_sized_way" 3 ["_law_feed_here"] (spD K 1 BL))(BA:Ct0 P w K mg base)(BF:Callee P w K mg base "_law_due" 4 ["_law_house_here","_law_way_here"] (spD K 2 BY))(BB:Callee P w K mg base "busy_stretches" 6 ["house","way"] (spG K 2 BH))(BD:Callee P w K mg base "busy_stretches" 6 ["house","way"] (spD K 2 BK))
include T hr hu5 BE BC BA BF BB BD
theorem lE:∃ts,Ss K (M5 CX0 P w K mg base ["_law_script","_law_feed_here","_law_turn","_law_house_here","_law_way_here","_law_due_here","_law_again","_law_told"] "law" (defScope BG) f cdv A outer s H E).nox ((G0 ((defBody BG).getD 1 (.Pass ⟨0,0,0,0⟩))).getD 0 (.Pass ⟨0,0,0,0⟩)) ts U2:=by
 unfold U2
 exact⟨_,(n8 3 Q6.nd (j4 BE (hr.mono (by decide)) (X5 1 l9) (X4 n9)))⟩
theorem lP:∃ts,Ss K (M5 CX0 P w K mg base ["_law_script","_law_feed_here","_law_turn","_law_house_here","_law_way_here","_law_due_here","_law_again","_law_told"] "law" (defScope BG) f cdv A outer s H E).nox ((G0 ((defBody BG).getD 1 (.Pass ⟨0,0,0,0⟩))).getD 1 (.Pass ⟨0,0,0,0⟩)) ts U7:=by
 unfold U7
 exact⟨_,(n8 4 Q6.nd (j4 BC (hr.mono (by decide)) (X5 1 l9) (X4 n9)))⟩
theorem mI:∃ts,Ss K (M5 CX0 P w K mg base ["_law_script","_law_feed_here","_law_turn","_law_house_here","_law_way_here","_law_due_here","_law_again","_law_told"] "law" (defScope BG) f cdv A outer s H E).nox ((G0 ((defBody BG).getD 1 (.Pass ⟨0,0,0,0⟩))).getD 2 (.Pass ⟨0,0,0,0⟩)) ts V0:=by
 unfold V0
 exact⟨_,(G4 (p9 (fF rfl hr.units) (Ev.bw (j4 BA (hr.mono (by decide)) (X5 1 (x6 f9 l9)) (X4 (x4 n9)))) (Ev.bw f9)) (i4 (n8 4 Q6.nd (A4 (D9 rfl) T.tuple E8 (i7 (Ev.bw (tH (osc:=(defScope BG)) (N:=["_law_beat_here","_law_feed_here"]) (k:=1) (cap:=[1]) rfl rfl ⟨rfl,by decide +kernel,by decide +kernel,by decide +kernel,rfl,rfl,by decide +kernel⟩ (js (g9 4)) (λcl C ex pins s H=>(v5 (i:=0) (show List.Nodup (["_law_beat_here","_law_feed_here"]:List Str) by decide +kernel))) (λcl C ex pins s H=>eF) (λcl C ex pins s H=>(qM (p9 (fF rfl hr.units) (Ev.bw (j4 BA (hr.mono (by decide)) (X5 1 (x6 f9 l9)) (X4 (x4 n9)))) (Ev.bw f9)) (k7 0) (T3 (.tuple []) rfl))))) l7)))) C4)⟩
theorem ng:∃ts,Ss K (M5 CX0 P w K mg base ["_law_script","_law_feed_here","_law_turn","_law_house_here","_law_way_here","_law_due_here","_law_again","_law_told"] "law" (defScope BG) f cdv A outer s H E).nox ((G0 ((defBody BG).getD 1 (.Pass ⟨0,0,0,0⟩))).getD 3 (.Pass ⟨0,0,0,0⟩)) ts P2:=by
 unfold P2
 exact⟨_,(n8 4 Q6.nd (mU (Ev.bw (K4 (K3 rfl) (g9 4) (Ev.bw (K4 (nL rfl) (Ev.bw (T3 (.tuple [.tuple []]) rfl)) (Ev.bw (j4 BA (hr.mono (by decide)) (X5 1 (x6 f9 l9)) (X4 (x4 n9)))))))) sJ (xS f9)))⟩
theorem mD:∃ts,Ss K (M5 CX0 P w K mg base ["_law_script","_law_feed_here","_law_turn","_law_house_here","_law_way_here","_law_due_here","_law_again","_law_told"] "law" (defScope BG) f cdv A outer s H E).nox ((G0 ((defBody BG).getD 1 (.Pass ⟨0,0,0,0⟩))).getD 4 (.Pass ⟨0,0,0,0⟩)) ts L9:=by
 unfold L9
 exact⟨_,(G4 (p9 (fF rfl hr.units) (Ev.bw (j4 BA (hr.mono (by decide)) (X5 1 (x6 f9 l9)) (X4 (x4 n9)))) (Ev.bw f9)) (i4 (n8 4 Q6.nd (A4 (D9 rfl) T.tuple E8 (i7 (Ev.bw (tH (osc:=(defScope BG)) (N:=["_law_beat_here","_law_feed_here"]) (k:=1) (cap:=[1]) rfl rfl ⟨rfl,by decide +kernel,by decide +kernel,by decide +kernel,rfl,rfl,by decide +kernel⟩ (Ei.bw (W5 (d7 f9 i9) T.range)) (λcl C ex pins s H=>(v5 (i:=0) (show List.Nodup (["_law_beat_here","_law_feed_here"]:List Str) by decide +kernel))) (λcl C ex pins s H=>eF) (λcl C ex pins s H=>(E7 (d7 (E7 (d7 (j4 BA (hr.mono (by decide)) (X5 1 (x6 f9 l9)) (X4 (x4 n9))) (d7 f9 i9))) i9))))) l7)))) C4)⟩
theorem lO:∃ts,Ss K (M5 CX0 P w K mg base ["_law_script","_law_feed_here","_law_turn","_law_house_here","_law_way_here","_law_due_here","_law_again","_law_told"] "law" (defScope BG) f cdv A outer s H E).nox ((G0 ((defBody BG).getD 1 (.Pass ⟨0,0,0,0⟩))).getD 5 (.Pass ⟨0,0,0,0⟩)) ts J9:=by
 unfold J9
 exact⟨_,(n8 5 Q6.nd (j4 BF (hr.mono (by decide)) (x6 (k7 3) (x6 (k7 4) l9)) (x4 (x4 n9))))⟩
theorem iu:∃ts,Ss K (M5 CX0 P w K mg base ["_law_script","_law_feed_here","_law_turn","_law_house_here","_law_way_here","_law_due_here","_law_again","_law_told"] "law" (defScope BG) f cdv A outer s H E).nox ((G0 ((G0 ((defBody BG).getD 1 (.Pass ⟨0,0,0,0⟩))).getD 6 (.Pass ⟨0,0,0,0⟩))).getD 0 (.Pass ⟨0,0,0,0⟩)) ts R9:=by
 unfold R9
 exact⟨_,(bq 7 Q6.nd (wC BB (hr.mono (by decide)) (x6 (k7 3) (x6 (k7 4) l9)) (x4 (x4 n9))))⟩
theorem jq:∃ts,Ss K (M5 CX0 P w K mg base ["_law_script","_law_feed_here","_law_turn","_law_house_here","_law_way_here","_law_due_here","_law_again","_law_told"] "law" (defScope BG) f cdv A outer s H E).nox ((G0 ((G0 ((defBody BG).getD 1 (.Pass ⟨0,0,0,0⟩))).getD 6 (.Pass ⟨0,0,0,0⟩))).getD 1 (.Pass ⟨0,0,0,0⟩)) ts S9:=by
 unfold S9
 exact⟨_,(G4 (Ew.t (xK (tw (fH (Ev.bw (vV "list" (g9 7) (by decide) T.isinstance T.list jh)))) (rF (p9 (xM rfl hr.units) (Ev.bw (r6 (nQ rfl hr.gd hr.units) T.repr oo (i7 (g9 7) l7))) (Ev.bw (r6 (nQ rfl hr.gd hr.units) T.repr oo (i7 (g9 5) l7))))))) (i4 (x8 kY)) C4)⟩
theorem jb:∃ts,Ss K (M5 CX0 P w K mg base ["_law_script","_law_feed_here","_law_turn","_law_house_here","_law_way_here","_law_due_here","_law_again","_law_told"] "law" (defScope BG) f cdv A outer s H E).nox ((G0 ((G0 ((defBody BG).getD 1 (.Pass ⟨0,0,0,0⟩))).getD 6 (.Pass ⟨0,0,0,0⟩))).getD 2 (.Pass ⟨0,0,0,0⟩)) ts S5:=by
 unfold S5
 exact⟨_,(M8 7 rfl (T3 (.tuple [.int 0,.none]) rfl))⟩
theorem mF:∃ts,Ss K (M5 CX0 P w K mg base ["_law_script","_law_feed_here","_law_turn","_law_house_here","_law_way_here","_law_due_here","_law_again","_law_told"] "law" (defScope BG) f cdv A outer s H E).nox ((G0 ((defBody BG).getD 1 (.Pass ⟨0,0,0,0⟩))).getD 6 (.Pass ⟨0,0,0,0⟩)) ts M2:=by
 obtain⟨t_law_1_6_0,h_law_1_6_0⟩:=iu (f:=f) (cdv:=cdv) (A:=A) (outer:=outer) (s:=s) (H:=H) (E:=E) T hr hu5 BE BC BA BF BB BD
 obtain⟨t_law_1_6_1,h_law_1_6_1⟩:=jq (f:=f) (cdv:=cdv) (A:=A) (outer:=outer) (s:=s) (H:=H) (E:=E) T hr hu5 BE BC BA BF BB BD
 obtain⟨t_law_1_6_2,h_law_1_6_2⟩:=jb (f:=f) (cdv:=cdv) (A:=A) (outer:=outer) (s:=s) (H:=H) (E:=E) T hr hu5 BE BC BA BF BB BD
 exact⟨_,T8 rfl (W5 (d7 f9 i9) T.range) (v5 (i:=6) Q6.nd) (d5 h_law_1_6_0 (d5 h_law_1_6_1 (i4 h_law_1_6_2)))⟩
theorem uc:∃ts,Ss K (M5 CX0 P w K mg base ["_law_script","_law_feed_here","_law_turn","_law_house_here","_law_way_here","_law_due_here","_law_again","_law_told"] "law" (defScope BG) f cdv A outer s H E).nox ((defBody BG).getD 1 (.Pass ⟨0,0,0,0⟩)) ts iN:=by
 obtain⟨t_law_1_0,h_law_1_0⟩:=lE (f:=f) (cdv:=cdv) (A:=A) (outer:=outer) (s:=s) (H:=H) (E:=E) T hr hu5 BE BC BA BF BB BD
 obtain⟨t_law_1_1,h_law_1_1⟩:=lP (f:=f) (cdv:=cdv) (A:=A) (outer:=outer) (s:=s) (H:=H) (E:=E) T hr hu5 BE BC BA BF BB BD
 obtain⟨t_law_1_2,h_law_1_2⟩:=mI (f:=f) (cdv:=cdv) (A:=A) (outer:=outer) (s:=s) (H:=H) (E:=E) T hr hu5 BE BC BA BF BB BD
 obtain⟨t_law_1_3,h_law_1_3⟩:=ng (f:=f) (cdv:=cdv) (A:=A) (outer:=outer) (s:=s) (H:=H) (E:=E) T hr hu5 BE BC BA BF BB BD
 obtain⟨t_law_1_4,h_law_1_4⟩:=mD (f:=f) (cdv:=cdv) (A:=A) (outer:=outer) (s:=s) (H:=H) (E:=E) T hr hu5 BE BC BA BF BB BD
 obtain⟨t_law_1_5,h_law_1_5⟩:=lO (f:=f) (cdv:=cdv) (A:=A) (outer:=outer) (s:=s) (H:=H) (E:=E) T hr hu5 BE BC BA BF BB BD
 obtain⟨t_law_1_6,h_law_1_6⟩:=mF (f:=f) (cdv:=cdv) (A:=A) (outer:=outer) (s:=s) (H:=H) (E:=E) T hr hu5 BE BC BA BF BB BD
 exact⟨_,T8 rfl (W5 (d7 f9 i9) T.range) (v5 (i:=2) Q6.nd) (d5 h_law_1_0 (d5 h_law_1_1 (d5 h_law_1_2 (d5 h_law_1_3 (d5 h_law_1_4 (d5 h_law_1_5 (i4 h_law_1_6)))))))⟩
theorem qT:∃ts,Ss K (M5 CX0 P w K mg base ["_law_script","_law_feed_here","_law_turn","_law_house_here","_law_way_here","_law_due_here","_law_again","_law_told"] "law" (defScope BG) f cdv A outer s H E).nox ((defBody BG).getD 2 (.Pass ⟨0,0,0,0⟩)) ts ee:=by
 unfold ee
 exact⟨_,(x8 (aQ (fF rfl hr.units) (Ev.bw (j4 BD (hr.mono (by decide)) (x6 (T3 (.tuple [.int 1,.none,.str "first"]) rfl) (x6 (T3 (.tuple []) rfl) l9)) (x4 (x4 n9)))) (Ev.bw (T3 (.list []) rfl))))⟩
end
def jC:DE->M Out:=(mSq iN ee)
theorem zH {α:Type}(l:List α)(d:α)(h:0<l.length):l=l.getD 0 d::l.drop 1:=by
 cases l with
 | nil=>simp at h
 | cons a r=>rfl
def spLaw (K:PySem.W.Frag):Sp:=λvs H Q _=>∃(a:Addr) (ns:List Int),vs=[.ref a]/\SqL K H a (ns.map V.int)/\ns.length<=63/\A9 (tabsK Feeds.lam K) H/\∀H',Q (.bl true) H'
theorem ub {f:Addr}{cdv:Value}{A:Around}{outer:List Env}{s:Shared}{H:Hp}{E:XK}(hr:Room 6 (A.deeper (PyProof.Rows.envOfC "law" (defScope BG) s.heap.objs.size f cdv)))(CF:Callee P w K mg base "_law_feed" 1 ["_law_script"] (spFeed K)) :
  PS (M5 CX0 P w K mg base ["_law_script","_law_feed_here","_law_turn","_law_house_here","_law_way_here","_law_due_here","_law_again","_law_told"] "law" (defScope BG) f cdv A outer s H E).nox ((defBody BG).getD 0 (.Pass ⟨0,0,0,0⟩)) (L0 (Y0 (spFeed K) [] E0 (q4 (l8 0) C8)) (G7 1)) :=
 J7 (i:=1) Q6.nd rfl (by first | exact Or.inl rfl | exact Or.inr rfl) (V1 CF (hr.mono (by decide)) rfl (h9 (pv 0) j6))
theorem KG {f:Addr}{fd:FuncData}(Fn:Fun K "law" "law" BG f fd)(T:Txt K mg)(CF:Callee P w K mg base "_law_feed" 1 ["_law_script"] (spFeed K))(BE:Callee P w K mg base "_law_house" 3 ["_law_feed_here"] (spD K 1 BW))(BC:Callee P w K mg base "_law_sized_way" 3 ["_law_feed_here"] (spD K 1 BL))(BA:Ct0 P w K mg base)(BF:Callee P w K mg base "_law_due" 4 ["_law_house_here","_law_way_here"] (spD K 2 BY))(BB:Callee P w K mg base "busy_stretches" 6 ["house","way"] (spG K 2 BH))(BD:Callee P w K mg base "busy_stretches" 6 ["house","way"] (spD K 2 BK))
  (fin:∀ns:List Int,ns.length<=63->∃F',jC ([none,some .feed]++List.replicate (["_law_script","_law_feed_here","_law_turn","_law_house_here","_law_way_here","_law_due_here","_law_again","_law_told"].length-2) none) (eQ ns)=some (.rt (.bool true),F')):FnOk P w K mg base CX0 7 f fd ["_law_script"] (spLaw K):=by
 refine Fn.ok Q6 (λvs H Q E h=>?_) (λcdv A outer s H vs Q E hr h=>?_)
 .obtain⟨a,ns,rfl,_⟩:=h
  rfl
 .obtain⟨a,ns,rfl,hS,hl,tbo,k⟩:=h
  have hu5:(A.deeper (PyProof.Rows.envOfC "law" (defScope BG) s.heap.objs.size f cdv)).units+65<cLine:=by have:=hr.un;omega
  obtain⟨t_law_1,h_law_1⟩:=uc (f:=f) (cdv:=cdv) (A:=A) (outer:=outer) (s:=s) (H:=H) (E:=E) T hr hu5 BE BC BA BF BB BD
  obtain⟨t_law_2,h_law_2⟩:=qT (f:=f) (cdv:=cdv) (A:=A) (outer:=outer) (s:=s) (H:=H) (E:=E) T hr hu5 BE BC BA BF BB BD
  obtain⟨ts,hq,hk⟩:∃ts,Sss K (M5 CX0 P w K mg base ["_law_script","_law_feed_here","_law_turn","_law_house_here","_law_way_here","_law_due_here","_law_again","_law_told"] "law" (defScope BG) f cdv A outer s H E).nox ((defBody BG).drop 1) ts jC:=⟨_,(d5 h_law_1 (i4 h_law_2))⟩
  have h0:=ub (P:=P) (w:=w) (K:=K) (mg:=mg) (base:=base) (f:=f) (cdv:=cdv) (A:=A) (outer:=outer) (s:=s) (H:=H) (E:=E) hr CF
  have hsp:=zH (defBody BG) (.Pass ⟨0,0,0,0⟩) (by decide +kernel)
  generalize List.drop 1 (defBody BG)=R at hq hsp
  generalize (defBody BG).getD 0 (Stmt.Pass { line:=0,col:=0,endLine:=0,endCol:=0 })=S0 at h0 hsp
  have hp:=i8 h0 hq
  rw[<-hsp]at hp
  refine⟨_,hp,?_⟩
  refine⟨_,rfl,a,ns,rfl,hS,hl,λd c H1 f1 s1=>?_⟩
  obtain⟨F',e⟩:=fin ns hl
  have fat:FAt K (some (d,c)) H1 (eQ ns):=⟨f1,tbo.congr λb hb=>by
   obtain⟨o,e⟩:∃o,H b=some o:=by
    rcases hb with hb | ⟨φ,e⟩
    .obtain⟨t,ht,rfl⟩:=List.mem_map.mp hb
     obtain⟨ps,e,_⟩:=tbo t ht
     exact⟨_,e⟩
    .exact⟨_,e⟩
   rw[e];exact s1 b o e⟩
  refine hk (some (d,c)) (k9 K (some (d,c))) H1 _ (eQ ns) _ H1 _ _ F' ⟨⟨k9 K (some (d,c)),λ_ z=>z,λb hb=>.inl hb,⟨fat,λ_ z=>z,fat.bok,by simp[L2.B5],λi x ei=>?_⟩⟩,λ_ z=>z,Kp.refl,λi ds b ei=>?_,λi j ds es b ei=>?_⟩ e (λv H' _ _ hv=>?_)
  .match i,ei with
   | 0,ei=>cases ei
   | 1,ei=>cases ei;exact⟨.ref d,rfl,d,c,rfl,rfl⟩
   | i+2,ei=>simp only[List.cons_append,List.nil_append,List.getElem?_cons_succ,List.getElem?_replicate]at ei;split at ei <;> cases ei
  .match i,ei with
   | 0,ei=>cases ei
   | 1,ei=>cases ei
   | i+2,ei=>simp only[List.cons_append,List.nil_append,List.getElem?_cons_succ,List.getElem?_replicate]at ei;split at ei <;> cases ei
  .match i,ei with
   | 0,ei=>cases ei
   | 1,ei=>cases ei
   | i+2,ei=>simp only[List.cons_append,List.nil_append,List.getElem?_cons_succ,List.getElem?_replicate]at ei;split at ei <;> cases ei
  .simp only[a7]at hv
   subst hv
   exact k H'
end
end
section
theorem yQ:FK=kT:=rfl
theorem fm:BW=ar:=rfl
theorem qZ:BL=cg ["_law_feed_here","_law_beats","_law_works","_law_way_here","_law_many","_law_k","_law_beat_here","_law_j"]:=rfl
theorem zf:BY=LM.FA:=rfl
theorem uV:BH=iF:=by
 unfold BH iF zb
 rw[iZ,iZ,iZ,iZ,<-my,<-my,<-my,yQ]
theorem wa {F:FdS}:BK [.dat (.tuple [.int 1,.none,.str "first"]),.dat (.tuple [])] F=some (.list [],F):=rfl
theorem P4 {b:Bt}{way:List Bt}:z9 (b::way)=b.length+z9 way:=by unfold z9;rw[List.map_cons,List.sum_cons]
theorem sL:∀(way:List Bt) (o:Option DV) (F:FdS) (Q:List PyData->FdS->Prop),F.t+way.length<=199999 ->
  (∀(w2:List Bt) (F':FdS),w2.length=way.length->z9 w2<=z9 way->(∀b∈w2,b=[]\/b∈way)->F'.t<=F.t+way.length->Q (w2.map btD) F') ->
  wp (Y5 (bN 0) dQ (sIf (uB (s2 (eqD false) (p8 drawS (vF 1 (vD (sC (.int 2)) D2))) (sC (.int 0)))) (sV 0) (sC (.tuple []))) (way.map btD) [o,some .feed] F) Q
 | [],o,F,Q,_,q=>a8.mpr (q [] F rfl (Nat.le_refl _) (λz hz=>by cases hz) (by simp))
 | b::way,o,F,Q,hF,q=>by
  have e1:((b::way).length:Int)=(way.length:Int)+1:=by rw[List.length_cons];push_cast;rfl
  rw[e1]at hF q
  rw[List.map_cons,Y5,show(bN 0 (btD b) [o,some DV.feed])=some [some (.dat (btD b)),some .feed] from rfl,Option.bind_some,b7]
  refine je.mpr ?_
  rw[if_pos rfl,b7]
  dsimp only
  refine oD.mpr (O4.mpr (t8.mpr (B9.mpr (jH.mpr (jV rfl (Q5.mpr (p6.mpr (E3.mpr ?_))))))))
  refine D5 (by decide) (by decide) (by omega) λy F3 y0 y1 t3=>p6.mpr (c7 eq0 (c7 rfl ?_))
  have go:∀c:Bt,c.length<=b.length->(c=[]\/c=b)->wp (Y5 (bN 0) dQ (sIf (uB (s2 (eqD false) (p8 drawS (vF 1 (vD (sC (.int 2)) D2))) (sC (.int 0)))) (sV 0) (sC (.tuple []))) (way.map btD) [some (.dat (btD b)),some .feed] F3) λzs F2=>wp (some (btD c::zs,F2)) Q:=λc hc hb=>by
   refine sL way _ F3 _ (by omega) λw2 F4 hl hs hm t4=>a8.mpr (q (c::w2) F4 (by simp[hl]) (by rw[P4,P4];omega) (λz hz=>?_) (by omega))
   rcases List.mem_cons.mp hz with rfl | hz
   .rcases hb with rfl | rfl
    .exact .inl rfl
    .exact .inr List.mem_cons_self
   .rcases hm z hz with e | e
    .exact .inl e
    .exact .inr (List.mem_cons_of_mem _ e)
  refine L8 (λhy=>?_) λhy=>?_
  .refine C2.mpr (C6 rfl ?_)
   rw[b7]
   exact go b (Nat.le_refl _) (.inr rfl)
  .refine p6.mpr ?_
   rw[b7]
   exact go [] (Nat.zero_le _) (.inl rfl)
theorem P5 {way:List Bt}{n:Nat}:z9 (way.take n)<=z9 way:=by
 induction way generalizing n with
 | nil=>simp
 | cons b way ih =>
  cases n with
  | zero=>simp[z9]
  | succ n=>rw[List.take_succ_cons,P4,P4];have:=ih (n:=n);omega
theorem pZ {k:Nat}:z9 (List.replicate k ([]:Bt))=0:=by
 induction k with
 | zero=>rfl
 | succ k ih=>rw[List.replicate_succ,P4,ih];rfl
theorem pU {a b:List Bt}:z9 (a++b)=z9 a+z9 b:=by unfold z9;rw[List.map_append,List.sum_append]
theorem Bp {k:Nat}(h:k<=1000):dm (.tuple [.tuple []]) (.int (k:Int))=some (.tuple ((List.replicate k ([]:Bt)).map btD)):=by
 rw[Bh (by simp;omega) (by omega) (by omega)]
 congr 2
 rw[show((k:Int)).toNat=k from by omega]
 induction k with
 | zero=>rfl
 | succ k ih=>rw[List.replicate_succ,List.flatten_cons,ih (by omega),List.replicate_succ,List.map_cons];rfl
theorem zo {way:List Bt}:di (way.map btD) none (some (24:Int))=(way.take 24).map btD:=by
 rw[show(24:Int)=((24:Nat):Int) from rfl,bV,List.map_take]
theorem vN {zs:List PyData}(h:∀z∈zs,∃x:Int,z=btD [(x,1)]/\0<=x/\x<=1):∃way:List Bt,zs=way.map btD/\∀b∈way,b.length=1/\∀c∈b,vT c:=by
 induction zs with
 | nil=>exact⟨[],rfl,λ_ z=>by cases z⟩
 | cons z zs ih =>
  obtain⟨way,rfl,hw⟩:=ih λz hz=>h z (List.mem_cons_of_mem _ hz)
  obtain⟨x,rfl,h0,h1⟩:=h z List.mem_cons_self
  refine⟨[(x,1)]::way,rfl,λb hb=>?_⟩
  rcases List.mem_cons.mp hb with rfl | hb
  .refine⟨rfl,λc hc=>?_⟩
   simp only[List.mem_cons,List.not_mem_nil,or_false]at hc
   subst hc
   exact⟨h0,h1,by show(1:Int)<=1;decide,by show(1:Int)<=6;decide⟩
  .exact hw b hb
theorem pJ {way:List Bt}(h:∀b∈way,b.length=1):z9 way=way.length:=by
 induction way with
 | nil=>rfl
 | cons b way ih=>rw[P4,List.length_cons,ih λb hb=>h b (List.mem_cons_of_mem _ hb),h b List.mem_cons_self];omega
abbrev told (h:Nat)(pl:Option Nat)(r:PyData)(way:List Bt):List PyData:=(S4 (q5 (C3 h pl r way) (y9 h pl r way) way.length)).map sbD
theorem tJ (came void:Nat->Bool):∀i,(∀q∈(q5 came void i).1,q.1<=i/\q.2<=i)/\∀j,(q5 came void i).2=some j->j<=i
 | 0=>⟨λq hq=>(by cases hq),λj hj=>by cases hj⟩
 | i+1=>by
  obtain⟨h1,h2⟩:=tJ came void i
  rw[q5]
  have hx:∀j,(if (q5 came void i).2=none/\came i=true then some i else(q5 came void i).2)=some j->j<=i:=λj hj=>by
   split at hj
   .cases hj;exact Nat.le_refl _
   .exact h2 j hj
  generalize (if (q5 came void i).2=none/\came i=true then some i else(q5 came void i).2)=x at hx
  cases x with
  | none=>exact⟨λq hq=>⟨Nat.le_succ_of_le (h1 q hq).1,Nat.le_succ_of_le (h1 q hq).2⟩,λj hj=>by cases hj⟩
  | some j =>
   have:=hx j rfl
   show(∀q∈(if void (i+1)=true then((q5 came void i).1++[(j,i+1)],none) else((q5 came void i).1,some j):List (Nat×Nat)×Option Nat).1,_)/\∀j',(if void (i+1)=true then((q5 came void i).1++[(j,i+1)],none) else((q5 came void i).1,some j):List (Nat×Nat)×Option Nat).2=some j'->j'<=i+1
   split
   .refine⟨λq hq=>?_,λj hj=>by cases hj⟩
    rcases List.mem_append.mp hq with hq | hq
    .exact⟨Nat.le_succ_of_le (h1 q hq).1,Nat.le_succ_of_le (h1 q hq).2⟩
    .simp only[List.mem_cons,List.not_mem_nil,or_false]at hq
     subst hq
     exact⟨by show j<=i+1;omega,Nat.le_refl _⟩
   .exact⟨λq hq=>⟨Nat.le_succ_of_le (h1 q hq).1,Nat.le_succ_of_le (h1 q hq).2⟩,λj' hj=>by cases hj;omega⟩
theorem rX {h:Nat}{pl:Option Nat}{r:PyData}{way:List Bt}(hn:way.length<=24):aN (.list (told h pl r way))=true:=by
 have h1:=aV (C3 h pl r way) (y9 h pl r way) way.length
 obtain⟨h2,h3⟩:=tJ (C3 h pl r way) (y9 h pl r way) way.length
 unfold told S4
 generalize q5 (C3 h pl r way) (y9 h pl r way) way.length=b0 at h1 h2 h3
 obtain⟨f,b⟩:=b0
 dsimp only at h1 h2 h3 ⊢
 have hs:∀q:Nat×Option Nat,q.1<=24->(∀j,q.2=some j->j<=24)->Sml 3 1 (sbD q):=λq a1 a2=>by
  refine(Sml.tup (c:=1) (k:=0) λd hd=>?_).mono (by simp) (by decide)
  simp only[List.mem_cons,List.not_mem_nil,or_false]at hd
  rcases hd with rfl | rfl
  .exact Ao (by omega) (by omega)
  .obtain⟨q1,q2⟩:=q
   cases q2 with
   | none=>exact Bb
   | some j=>have:=a2 j rfl;exact Ao (by omega) (by omega)
 refine((Sml.lst (c:=3) (k:=1) λd hd=>?_).mono (N':=1000) (k':=2) ?_ (by decide)).repr (by decide) (by decide)
 .obtain⟨q,hq,rfl⟩:=List.mem_map.mp hd
  rcases List.mem_append.mp hq with hq | hq
  .obtain⟨p,hp,rfl⟩:=List.mem_map.mp hq
   obtain⟨a1,a2⟩:=h2 p hp
   exact hs _ (by show p.1<=24;omega) λj hj=>by cases hj;omega
  .cases b with
   | none=>cases hq
   | some j =>
    simp only[List.mem_cons,List.not_mem_nil,or_false]at hq
    subst hq
    have:=h3 j rfl
    exact hs _ (by show j<=24;omega) λj hj=>by cases hj
 .rw[List.length_map,List.length_append,List.length_map]
  cases b <;> simp <;> omega
theorem AO {h:Nat}{pl:Option Nat}{r:PyData}{way:List Bt}{F:FdS}{Q:List PyData->FdS->Prop}(hr:r∈W8)(hw:WayOk 24 way)(q:Q (told h pl r way) F):wp (BH [.dat (hsD h pl r),.dat (wyD way)] F) Q:=by
 rw[uV]
 have h1:=hw.len
 have h2:=hw.many
 exact uD hr (λi hi=>gO (ps:=[]) (λv _=>Nat.zero_le v) (Nat.le_of_lt hi)) (by omega) (by omega) q
theorem Aw {h:Nat}{pl:Option Nat}{r:PyData}{way:List Bt}{F:FdS}{Q:PyData->FdS->Prop}(hr:r∈W8)(hw:WayOk 24 way)(q:Q (.list (told h pl r way)) F):wp (BY [.dat (hsD h pl r),.dat (wyD way)] F) Q:=by
 rw[zf]
 have h1:=hw.len
 have h2:=hw.many
 exact LM.due22_w hr (λb hb c hc=>(hw.ok b hb c hc).2.2.1) (by omega) (by omega) q
theorem vd {f:List DV->M (List PyData)}{ms:DE->M (List DV)}{E:DE}{F:FdS}{Q:List PyData->FdS->Prop}(h:wp (ms E F) λxs F1=>wp (f xs F1) Q):wp (jW f ms E F) Q:=by
 unfold jW
 rw[b7]
 exact h
theorem yH {F:FdS}(hF:F.t+300<=199999)(o2 o3 o4 o5 o6 o7:Option DV):wp ((mSq U2 (mSq U7 (mSq V0 (mSq P2 (mSq L9 (mSq J9 M2)))))) [none,some .feed,o2,o3,o4,o5,o6,o7] F) λo F'=>F'.t<=F.t+250/\∃o2 o3 o4 o5 o6 o7,o = .nx [none,some .feed,o2,o3,o4,o5,o6,o7]:=by
 refine j3.mpr ?_
 unfold U2
 rw[fm]
 refine l4.mpr (B9.mpr (jH.mpr (jV rfl (E3.mpr ?_))))
 refine qC.wp (by omega) λd1 F1 t1 hd1=>?_
 obtain⟨h,pl,r,rfl,hh1,hh3,hr,hpl⟩:=hd1
 refine⟨i5 rfl,h8 (j3.mpr ?_)⟩
 unfold U7
 rw[qZ]
 refine l4.mpr (B9.mpr (jH.mpr (jV rfl (E3.mpr ?_))))
 refine(rm rfl).wp (by omega) λd2 F2 t2 hd2=>?_
 obtain⟨way,rfl,hw⟩:=hd2
 refine⟨i5 rfl,h8 (j3.mpr ?_)⟩
 have last:∀(w:List Bt) (F5:FdS),F5.t<=F.t+240->WayOk 24 w->wp ((mSq J9 M2) [none,some .feed,o2,some (.dat (hsD h pl r)),some (.dat (wyD w)),o5,o6,o7] F5) λo F'=>F'.t<=F.t+250/\∃o2 o3 o4 o5 o6 o7,o = .nx [none,some .feed,o2,o3,o4,o5,o6,o7]:=λw F5 t5 hw=>by
  have krep:=rX (h:=h) (pl:=pl) (r:=r) hw.len
  have hn:(told h pl r w).length<=100:=by
   have h1:=aV (C3 h pl r w) (y9 h pl r w) w.length
   have h2:=hw.len
   unfold told S4
   generalize q5 (C3 h pl r w) (y9 h pl r w) w.length=b0 at h1
   obtain⟨f,b⟩:=b0
   dsimp only at h1 ⊢
   rw[List.length_map,List.length_append,List.length_map]
   cases b <;> simp <;> omega
  refine j3.mpr ?_
  unfold J9
  refine l4.mpr (B9.mpr (Q5.mpr (C2.mpr (C6 rfl (Q5.mpr (C2.mpr (C6 rfl (E3.mpr ?_))))))))
  refine Aw hr hw ⟨i5 rfl,h8 ?_⟩
  unfold M2
  refine V3.mpr (X1.mpr (c6.mpr (p6.mpr (d9.mpr (c7 rfl ?_)))))
  refine F0 (λj E F6=>F6=F5/\∃o6 o7,E=[none,some .feed,o2,some (.dat (hsD h pl r)),some (.dat (wyD w)),some (.dat (.list (told h pl r w))),o6,o7]) _ 0 _ F5 ⟨rfl,o6,o7,rfl⟩ ?_ ?_
  .rintro j dj ej E F6 ⟨rfl,o6',o7',rfl⟩
   refine⟨_,rfl,?_⟩
   refine j3.mpr ?_
   unfold R9
   refine cY.mpr (vd (Q5.mpr (C2.mpr (C6 rfl (Q5.mpr (C2.mpr (C6 rfl (E3.mpr ?_))))))))
   refine AO hr hw ⟨i5 rfl,h8 (j3.mpr ?_)⟩
   unfold S9
   refine J3.mpr (kW.mpr (iC.mpr (lM.mpr (yK.mpr (j9.mpr (dB rfl (c7 rfl (c7 rfl (U5.mpr ?_)))))))))
   refine O4.mpr (t8.mpr (L7.mpr (c6.mpr (j9.mpr (dB rfl (d9.mpr (c7 (wV krep) (L7.mpr (c6.mpr (j9.mpr (n6 rfl (d9.mpr (c7 (wV krep) (c7 yt (c7 rfl (U5.mpr (K8.mpr (h8 ?_))))))))))))))))))
   unfold S5
   refine V2 rfl (by omega) (p6.mpr ⟨_,rfl,rfl,_,_,rfl⟩)
  .rintro E F6 ⟨rfl,o6',o7',rfl⟩
   exact⟨by omega,_,_,_,_,_,_,rfl⟩
 have ones:∀(w:List Bt) (F4:FdS),F4.t<=F.t+210->WayOk 24 w->wp ((mSq L9 (mSq J9 M2)) [none,some .feed,o2,some (.dat (hsD h pl r)),some (.dat (wyD w)),o5,o6,o7] F4) λo F'=>F'.t<=F.t+250/\∃o2 o3 o4 o5 o6 o7,o = .nx [none,some .feed,o2,o3,o4,o5,o6,o7]:=λw F4 t4 hw=>by
  refine j3.mpr ?_
  unfold L9
  refine J3.mpr (O4.mpr (t8.mpr (B9.mpr (jH.mpr (jV rfl (Q5.mpr (p6.mpr (E3.mpr ?_))))))))
  refine D5 (by decide) (by decide) (by omega) λy F5 y0 y1 t5=>p6.mpr (c7 eq0 (c7 rfl (L8 (λhy=>?_) λhy=>?_)))
  .refine l4.mpr (L7.mpr (c6.mpr (gR.mpr (X1.mpr (c6.mpr (p6.mpr (d9.mpr (c7 (uu (n:=24) (by decide)) ⟨sz (by rw[R8];decide),?_⟩))))))))
   refine AD (c:=1) (P:=λ_ y=>∃x:Int,y=btD [(x,1)]/\0<=x/\x<=1) _ _ (by decide) (λd hd F hF=>?_) (by rw[R8];omega) λzs F6 hz hP t6=>?_
   .refine O3.mpr (c6.mpr (O3.mpr (c6.mpr (B9.mpr (jH.mpr (jV rfl (Q5.mpr (p6.mpr (E3.mpr ?_)))))))))
    refine D5 (by decide) (by decide) (by omega) λa F6 a0 a1 t6=>c6.mpr (p6.mpr (d9.mpr ⟨D7 rfl,d9.mpr ⟨D7 rfl,by omega,a,rfl,a0,by omega⟩⟩))
   .rw[R8]at hz t6
    obtain⟨w2,rfl,h2⟩:=vN λz hz=>(by obtain⟨_,_,h⟩:=hP z hz;exact h)
    rw[List.length_map]at hz
    refine d9.mpr (c7 iH ⟨i5 rfl,h8 (last w2 F6 (by omega) ⟨by omega,?_,λb hb=>(h2 b hb).2⟩)⟩)
    rw[pJ λb hb=>(h2 b hb).1];omega
  .exact K8.mpr (h8 (last w F5 (by omega) hw))
 have cut:∀(w:List Bt) (F3:FdS),F3.t<=F.t+208->WayOk 24 w->wp ((mSq P2 (mSq L9 (mSq J9 M2))) [none,some .feed,o2,some (.dat (hsD h pl r)),some (.dat (wyD w)),o5,o6,o7] F3) λo F'=>F'.t<=F.t+250/\∃o2 o3 o4 o5 o6 o7,o = .nx [none,some .feed,o2,o3,o4,o5,o6,o7]:=λw F3 t3 hw=>by
  have h1:=hw.len
  have h2:=hw.many
  refine j3.mpr ?_
  unfold P2
  refine l4.mpr (oE.mpr (t8.mpr (j9.mpr (n6 rfl (t8.mpr (p6.mpr (B9.mpr (jH.mpr (jV rfl (Q5.mpr (p6.mpr (E3.mpr ?_))))))))))))
  refine D5 (by decide) (by decide) (by omega) λy F4 y0 y1 t4=>?_
  obtain⟨k,rfl⟩:∃k:Nat,y=(k:Int):=⟨y.toNat,by omega⟩
  refine c7 (Bp (by omega)) (c7 (Ac (by simp;omega)) (ou.mpr (vc.mpr (p6.mpr (c7 yy (c7 rK ?_))))))
  rw[<-List.map_append,zo]
  refine⟨i5 rfl,h8 (ones _ F4 (by omega) ⟨?_,?_,λb hb c hc=>?_⟩)⟩
  .rw[List.length_take];omega
  .refine Nat.le_trans P5 ?_
   rw[pU,pZ];omega
  .rcases List.mem_append.mp (List.mem_of_mem_take hb) with hb | hb
   .exact hw.ok b hb c hc
   .rw[List.eq_of_mem_replicate hb]at hc;cases hc
 unfold V0
 have h1:=hw.len
 refine J3.mpr (O4.mpr (t8.mpr (B9.mpr (jH.mpr (jV rfl (Q5.mpr (p6.mpr (E3.mpr ?_))))))))
 refine D5 (by decide) (by decide) (by omega) λy F3 y0 y1 t3=>p6.mpr (c7 eq0 (c7 rfl (L8 (λhy=>?_) λhy=>?_)))
 .refine l4.mpr (L7.mpr (c6.mpr (gR.mpr (W3.mpr (j9.mpr (n6 rfl (c7 dc ⟨sz (by rw[List.length_map];omega),?_⟩)))))))
  refine sL way _ F3 _ (by omega) λw2 F4 hl hs hm t4=>?_
  refine d9.mpr (c7 iH ⟨i5 rfl,h8 (cut w2 F4 (by omega) ⟨by omega,by have:=hw.many;omega,λb hb c hc=>?_⟩)⟩)
  rcases hm b hb with rfl | hm
  .cases hc
  .exact hw.ok b hm c hc
 .exact K8.mpr (h8 (cut way F3 (by omega) hw))
theorem fin (ns:List Int):∃F',jC ([none,some .feed]++List.replicate 6 none) (eQ ns)=some (.rt (.bool true),F'):=by
 have key:wp (jC ([none,some .feed]++List.replicate 6 none) (eQ ns)) λo _=>o = .rt (.bool true):=by
  have h0:(eQ ns).t=0:=rfl
  unfold jC
  refine j3.mpr ?_
  unfold iN
  refine V3.mpr (X1.mpr (c6.mpr (p6.mpr (d9.mpr (c7 rfl ?_)))))
  refine F0 (λj E F=>F.t<=250*j/\∃o2 o3 o4 o5 o6 o7,E=[none,some .feed,o2,o3,o4,o5,o6,o7]) _ 0 _ (eQ ns) ⟨by omega,none,none,none,none,none,none,rfl⟩ ?_ ?_
  .rintro j dj ej E F ⟨hF,o2,o3,o4,o5,o6,o7,rfl⟩
   have hj:j<2:=(List.getElem?_eq_some_iff.mp ej).1
   refine⟨_,rfl,?_⟩
   refine f8 (yH (F:=F) (by omega) (some (.dat dj)) o3 o4 o5 o6 o7) λo F' ⟨t',o2',o3',o4',o5',o6',o7',e⟩=>⟨_,e,by omega,_,_,_,_,_,_,rfl⟩
  .rintro E F ⟨_,o2,o3,o4,o5,o6,o7,rfl⟩
   refine h8 ?_
   unfold ee
   refine dI.mpr (t8.mpr (B9.mpr (Q5.mpr (p6.mpr (Q5.mpr (p6.mpr (E3.mpr ?_)))))))
   rw[wa]
   exact a8.mpr (p6.mpr (c7 rfl rfl))
 obtain⟨o,F',e,rfl⟩:=key
 exact⟨F',e⟩
end
section
theorem all_mk {l:PySem.W.OpenLaw}{w:World}{K:PySem.W.Frag}{h:Heap}{mg:Str->Option Value}{fa Iu Gm EC Gn Gp JF KH Cj Dx Dy Dz CY Eu Cg CZ CG DA DB Ex Ey flaw:Addr}(X:K.In h)(G:h.Ns mainGlobals mg)(hfa:mg "law" = some (.ref fa))
    {Kq Kr JG JH Iv Iw JI JJ JK JL KI KJ Ld Le ED EE Hg Hh Hi Hj Hl Hm Gq Gr Iy Iz EF EG Gs Gu FT FU Hn Ho Hq Hr IA IB ID IE odlaw anlaw:Option Addr} {Ks JM IF JN JO KL Lf EH Ht Hu Hv Gv IG EI Gw FV Hw Hy IH II sllaw:Array (Option Value)} {Kt Ku Kv Kw Jq Kx JP JQ JR JS Hz JT IJ IK IL IM FM IP JU JV JW JX HA JY JZ Ka Kb Kc HB Kd KM KN KO KP Ke KQ Lg Lh Li Lj KE Lk EJ EK EL EM CA EN HC HD HG HH Fs HI HJ HK HL HM Ft HN HP HQ HR HS Fu HU Gx Gy Gz GA En GB IQ IR IS IT FN IU EO ER ES ET CB EU GC GE GG GH Ep GJ FW FX FY FZ Dp Ga HV HW HX HY Fv HZ Ia Ib Ic Ie Fw Ig IV IW IX IZ FO Ja Jb Jc Jd Je FP Jf oclaw kVlaw dclaw pmlaw cdlaw ctlaw:Value}
    (Jg:PySem.W.nsIn K mainGlobals "keeps" = some (some (.ref Iu))) (Jh:K.lookup Iu=some ⟨Kt,Kq,.func (PySem.W.fnOf "keeps" "keeps" (defArgs CC) (defBody CC) (defScope CC) .none Ku Kv Kw Kr Jq Kx),Ks⟩) (Ji:PySem.W.codeIn K Jq "keeps" = true) (Jj:PySem.W.keepIn K (.ref Iu)=true)
    (GK:PySem.W.nsIn K mainGlobals "let_in" = some (some (.ref Gm))) (GL:K.lookup Gm=some ⟨JP,JG,.func (PySem.W.fnOf "let_in" "let_in" (defArgs Cv) (defBody Cv) (defScope Cv) .none JQ JR JS JH Hz JT),JM⟩) (GM:PySem.W.codeIn K Hz "let_in" = true) (GN:PySem.W.keepIn K (.ref Gm)=true)
    (Dn:PySem.W.nsIn K mainGlobals "lined_up" = some (some (.ref EC))) (Do:K.lookup EC=some ⟨IJ,Iv,.func (PySem.W.fnOf "lined_up" "lined_up" (defArgs BO) (defBody BO) (defScope BO) .none IK IL IM Iw FM IP),IF⟩) (EV:PySem.W.codeIn K FM "lined_up" = true) (EW:PySem.W.keepIn K (.ref EC)=true)
    (FC:PySem.W.nsIn K mainGlobals "picked" = some (some (.ref Gn))) (FD:K.lookup Gn=some ⟨JU,JI,.func (PySem.W.fnOf "picked" "picked" (defArgs Cw) (defBody Cw) (defScope Cw) .none JV JW JX JJ HA JY),JN⟩) (GO:PySem.W.codeIn K HA "picked" = true) (GP:PySem.W.keepIn K (.ref Gn)=true)
    (GQ:PySem.W.nsIn K mainGlobals "worked" = some (some (.ref Gp))) (GR:K.lookup Gp=some ⟨JZ,JK,.func (PySem.W.fnOf "worked" "worked" (defArgs Cf) (defBody Cf) (defScope Cf) .none Ka Kb Kc JL HB Kd),JO⟩) (GS:PySem.W.codeIn K HB "worked" = true) (GT:PySem.W.keepIn K (.ref Gp)=true)
    (Kf:PySem.W.nsIn K mainGlobals "step" = some (some (.ref JF))) (Kg:K.lookup JF=some ⟨KM,KI,.func (PySem.W.fnOf "step" "step" (defArgs Dq) (defBody Dq) (defScope Dq) .none KN KO KP KJ Ke KQ),KL⟩) (Kh:PySem.W.codeIn K Ke "step" = true) (Ki:PySem.W.keepIn K (.ref JF)=true)
    (KR:PySem.W.nsIn K mainGlobals "run" = some (some (.ref KH))) (KS:K.lookup KH=some ⟨Lg,Ld,.func (PySem.W.fnOf "run" "run" (defArgs Gb) (defBody Gb) (defScope Gb) .none Lh Li Lj Le KE Lk),Lf⟩) (KU:PySem.W.codeIn K KE "run" = true) (KW:PySem.W.keepIn K (.ref KH)=true)
    (Ck:PySem.W.nsIn K mainGlobals "busy_stretches" = some (some (.ref Cj))) (Cm:K.lookup Cj=some ⟨EJ,ED,.func (PySem.W.fnOf "busy_stretches" "busy_stretches" (defArgs BI) (defBody BI) (defScope BI) .none EK EL EM EE CA EN),EH⟩) (Cn:PySem.W.codeIn K CA "busy_stretches" = true) (Cp:PySem.W.keepIn K (.ref Cj)=true)
    (DI:PySem.W.nsIn K mainGlobals "_law_feed" = some (some (.ref Dx))) (DJ:K.lookup Dx=some ⟨HC,Hg,.func (PySem.W.fnOf "_law_feed" "_law_feed" (defArgs BZ) (defBody BZ) (defScope BZ) .none HD HG HH Hh Fs HI),Ht⟩) (DC:PySem.W.codeIn K Fs "_law_feed" = true) (DK:PySem.W.keepIn K (.ref Dx)=true)
    (DL:PySem.W.nsIn K mainGlobals "_law_next" = some (some (.ref Dy))) (DM:K.lookup Dy=some ⟨HJ,Hi,.func (PySem.W.fnOf "_law_next" "_law_next" (defArgs Ca) (defBody Ca) (defScope Ca) .none HK HL HM Hj Ft HN),Hu⟩) (DD:PySem.W.codeIn K Ft "_law_next" = true) (DN:PySem.W.keepIn K (.ref Dy)=true)
    (DO:PySem.W.nsIn K mainGlobals "_law_rule" = some (some (.ref Dz))) (DP:K.lookup Dz=some ⟨HP,Hl,.func (PySem.W.fnOf "_law_rule" "_law_rule" (defArgs Cb) (defBody Cb) (defScope Cb) .none HQ HR HS Hm Fu HU),Hv⟩) (DF:PySem.W.codeIn K Fu "_law_rule" = true) (DQ:PySem.W.keepIn K (.ref Dz)=true)
    (Dd:PySem.W.nsIn K mainGlobals "_law_house" = some (some (.ref CY))) (De:K.lookup CY=some ⟨Gx,Gq,.func (PySem.W.fnOf "_law_house" "_law_house" (defArgs BV) (defBody BV) (defScope BV) .none Gy Gz GA Gr En GB),Gv⟩) (Da:PySem.W.codeIn K En "_law_house" = true) (Df:PySem.W.keepIn K (.ref CY)=true)
    (EX:PySem.W.nsIn K mainGlobals "_law_way" = some (some (.ref Eu))) (EY:K.lookup Eu=some ⟨IQ,Iy,.func (PySem.W.fnOf "_law_way" "_law_way" (defArgs Cd) (defBody Cd) (defScope Cd) .none IR IS IT Iz FN IU),IG⟩) (Ez:PySem.W.codeIn K FN "_law_way" = true) (EZ:PySem.W.keepIn K (.ref Eu)=true)
    (Cq:PySem.W.nsIn K mainGlobals "_law_sized_way" = some (some (.ref Cg))) (Cr:K.lookup Cg=some ⟨EO,EF,.func (PySem.W.fnOf "_law_sized_way" "_law_sized_way" (defArgs BJ) (defBody BJ) (defScope BJ) .none ER ES ET EG CB EU),EI⟩) (Ci:PySem.W.codeIn K CB "_law_sized_way" = true) (Cs:PySem.W.keepIn K (.ref Cg)=true)
    (Dg:PySem.W.nsIn K mainGlobals "_law_ahead" = some (some (.ref CZ))) (Dh:K.lookup CZ=some ⟨GC,Gs,.func (PySem.W.fnOf "_law_ahead" "_law_ahead" (defArgs BP) (defBody BP) (defScope BP) .none GE GG GH Gu Ep GJ),Gw⟩) (Dc:PySem.W.codeIn K Ep "_law_ahead" = true) (Di:PySem.W.keepIn K (.ref CZ)=true)
    (CI:PySem.W.nsIn K mainGlobals "_law_picked" = some (some (.ref CG))) (CJ:K.lookup CG=some ⟨FW,FT,.func (PySem.W.fnOf "_law_picked" "_law_picked" (defArgs BN) (defBody BN) (defScope BN) .none FX FY FZ FU Dp Ga),FV⟩) (CH:PySem.W.codeIn K Dp "_law_picked" = true) (CK:PySem.W.keepIn K (.ref CG)=true)
    (DR:PySem.W.nsIn K mainGlobals "_law_come" = some (some (.ref DA))) (DS:K.lookup DA=some ⟨HV,Hn,.func (PySem.W.fnOf "_law_come" "_law_come" (defArgs BR) (defBody BR) (defScope BR) .none HW HX HY Ho Fv HZ),Hw⟩) (DG:PySem.W.codeIn K Fv "_law_come" = true) (DT:PySem.W.keepIn K (.ref DA)=true)
    (DU:PySem.W.nsIn K mainGlobals "_law_beat" = some (some (.ref DB))) (DW:K.lookup DB=some ⟨Ia,Hq,.func (PySem.W.fnOf "_law_beat" "_law_beat" (defArgs BU) (defBody BU) (defScope BU) .none Ib Ic Ie Hr Fw Ig),Hy⟩) (DH:PySem.W.codeIn K Fw "_law_beat" = true) (DX:PySem.W.keepIn K (.ref DB)=true)
    (Fb:PySem.W.nsIn K mainGlobals "_law_new" = some (some (.ref Ex))) (Fc:K.lookup Ex=some ⟨IV,IA,.func (PySem.W.fnOf "_law_new" "_law_new" (defArgs Ce) (defBody Ce) (defScope Ce) .none IW IX IZ IB FO Ja),IH⟩) (EA:PySem.W.codeIn K FO "_law_new" = true) (Fd:PySem.W.keepIn K (.ref Ex)=true)
    (Fe:PySem.W.nsIn K mainGlobals "_law_due" = some (some (.ref Ey))) (Ff:K.lookup Ey=some ⟨Jb,ID,.func (PySem.W.fnOf "_law_due" "_law_due" (defArgs BX) (defBody BX) (defScope BX) .none Jc Jd Je IE FP Jf),II⟩) (EB:PySem.W.codeIn K FP "_law_due" = true) (Fh:PySem.W.keepIn K (.ref Ey)=true)
    (alaw:PySem.W.nsIn K mainGlobals "law" = some (some (.ref flaw))) (llaw:K.lookup flaw=some ⟨oclaw,odlaw,.func (PySem.W.fnOf "law" "law" (defArgs BG) (defBody BG) (defScope BG) .none kVlaw dclaw pmlaw anlaw cdlaw ctlaw),sllaw⟩) (claw:PySem.W.codeIn K cdlaw "law" = true) (klaw:PySem.W.keepIn K (.ref flaw)=true)
    (zenumerate:PySem.W.nsIn K mainGlobals "enumerate" = some none)
    (zint:PySem.W.nsIn K mainGlobals "int" = some none)
    (zisinstance:PySem.W.nsIn K mainGlobals "isinstance" = some none)
    (zlen:PySem.W.nsIn K mainGlobals "len" = some none)
    (zlist:PySem.W.nsIn K mainGlobals "list" = some none)
    (zmin:PySem.W.nsIn K mainGlobals "min" = some none)
    (zrange:PySem.W.nsIn K mainGlobals "range" = some none)
    (zrepr:PySem.W.nsIn K mainGlobals "repr" = some none)
    (zsorted:PySem.W.nsIn K mainGlobals "sorted" = some none)
    (ztuple:PySem.W.nsIn K mainGlobals "tuple" = some none)
    {t_KEEPING:Addr} {it_KEEPING:Array Value} {n_KEEPING:Nat} {dd_KEEPING:Option Addr} {sl_KEEPING:Array (Option Value)} (ga_KEEPING:PySem.W.nsIn K mainGlobals "KEEPING" = some (some (.ref t_KEEPING))) (gl_KEEPING:K.lookup t_KEEPING=some ⟨.type "tuple",dd_KEEPING,.seq it_KEEPING n_KEEPING,sl_KEEPING⟩) (gq_KEEPING:L3.strsOf it_KEEPING.toList=some (["first","last","short","front"]:List Str))
    (Dj:(PySem.W.tabIn K "lined_up").isSome=true)
    (Fj:(PySem.W.tabIn K "picked").isSome=true)
    (hnd0:decide (((L3.tabsK (["lined_up","picked"]:List Str) K).map (·.2.2)).Nodup)=true)
   :∃fd:FuncData,(∀(s:Shared) (v:Value),BindsTo s fd ⟨[v],[]⟩ [("_law_script",v)])/\∀base:Heap,K.In base->base.Ns mainGlobals mg->BMd base mg->(∀t∈L3.tabsK (["lined_up","picked"]:List Str) K,PySem.W.CodeHd base t.2.1 t.2.2)->FnOk l.prog w K mg base CX0 7 fa fd ["_law_script"] (spLaw K):=by
  have hnd:(L3.tabP K).Nodup:=of_decide_eq_true hnd0
  have e:=hfa.symm.trans (PySem.W.mg_of X G alaw)
  cases e
  have T:Txt K mg:=⟨PySem.W.mg_none_of X G zenumerate,PySem.W.mg_none_of X G zint,PySem.W.mg_none_of X G zisinstance,PySem.W.mg_none_of X G zlen,PySem.W.mg_none_of X G zlist,PySem.W.mg_none_of X G zmin,PySem.W.mg_none_of X G zrange,PySem.W.mg_none_of X G zrepr,PySem.W.mg_none_of X G zsorted,PySem.W.mg_none_of X G ztuple,L3.gd_mk X G ga_KEEPING gl_KEEPING gq_KEEPING (by decide)⟩
  have Jk:=fun_mk (st:=CC) Jh Ji Jj
  have KY:=Jk.binds (ps:=["rule"]) λ_ _ _ _ _ _ us hl=>by
    obtain⟨z0,rfl⟩:=L3.len_1 hl
    rfl
  have KZ:=PySem.W.mg_of X G Jg
  have GU:=fun_mk (st:=Cv) GL GM GN
  have Ky:=GU.binds (ps:=["house","stand","beat"]) λ_ _ _ _ _ _ us hl=>by
    obtain⟨z0,z1,z2,rfl⟩:=L3.len_3 hl
    rfl
  have Kz:=PySem.W.mg_of X G GK
  have Fm:=fun_mk (st:=BO) Do EV EW
  have Jx:=Fm.binds (ps:=["rule","stand"]) λ_ _ _ _ _ _ us hl=>by
    obtain⟨z0,z1,rfl⟩:=L3.len_2 hl
    rfl
  have Jy:=PySem.W.mg_of X G Dn
  have GV:=fun_mk (st:=Cw) FD GO GP
  have KA:=GV.binds (ps:=["house","stand"]) λ_ _ _ _ _ _ us hl=>by
    obtain⟨z0,z1,rfl⟩:=L3.len_2 hl
    rfl
  have KB:=PySem.W.mg_of X G FC
  have GW:=fun_mk (st:=Cf) GR GS GT
  have KC:=GW.binds (ps:=["house","stand"]) λ_ _ _ _ _ _ us hl=>by
    obtain⟨z0,z1,rfl⟩:=L3.len_2 hl
    rfl
  have KD:=PySem.W.mg_of X G GQ
  have Kj:=fun_mk (st:=Dq) Kg Kh Ki
  have Ll:=Kj.binds (ps:=["house","stand","beat"]) λ_ _ _ _ _ _ us hl=>by
    obtain⟨z0,z1,z2,rfl⟩:=L3.len_3 hl
    rfl
  have Lm:=PySem.W.mg_of X G Kf
  have La:=fun_mk (st:=Gb) KS KU KW
  have Lo:=La.binds (ps:=["house","way","stand"]) λ_ _ _ _ _ _ us hl=>by
    obtain⟨z0,z1,z2,rfl⟩:=L3.len_3 hl
    rfl
  have Lp:=PySem.W.mg_of X G KR
  have BQ:=fun_mk (st:=BI) Cm Cn Cp
  have CM:=BQ.binds (ps:=["house","way"]) λ_ _ _ _ _ _ us hl=>by
    obtain⟨z0,z1,rfl⟩:=L3.len_2 hl
    rfl
  have CN:=PySem.W.mg_of X G Ck
  have DY:=fun_mk (st:=BZ) DJ DC DK
  have Jl:=DY.binds (ps:=["_law_script"]) λ_ _ _ _ _ _ us hl=>by
    obtain⟨z0,rfl⟩:=L3.len_1 hl
    rfl
  have Im:=PySem.W.mg_of X G DI
  have DZ:=fun_mk (st:=Ca) DM DD DN
  have Jm:=DZ.binds (ps:=["_law_feed_here","_law_many"]) λ_ _ _ _ _ _ us hl=>by
    obtain⟨z0,z1,rfl⟩:=L3.len_2 hl
    rfl
  have Io:=PySem.W.mg_of X G DL
  have Ed:=fun_mk (st:=Cb) DP DF DQ
  have Jn:=Ed.binds (ps:=["_law_feed_here"]) λ_ _ _ _ _ _ us hl=>by
    obtain⟨z0,rfl⟩:=L3.len_1 hl
    rfl
  have Ip:=PySem.W.mg_of X G DO
  have Dk:=fun_mk (st:=BV) De Da Df
  have Ih:=Dk.binds (ps:=["_law_feed_here"]) λ_ _ _ _ _ _ us hl=>by
    obtain⟨z0,rfl⟩:=L3.len_1 hl
    rfl
  have Hd:=PySem.W.mg_of X G Dd
  have Fo:=fun_mk (st:=Cd) EY Ez EZ
  have Jz:=Fo.binds (ps:=["_law_feed_here","_law_beats","_law_works"]) λ_ _ _ _ _ _ us hl=>by
    obtain⟨z0,z1,z2,rfl⟩:=L3.len_3 hl
    rfl
  have Ju:=PySem.W.mg_of X G EX
  have Ct:=fun_mk (st:=BJ) Cr Ci Cs
  have Fy:=Ct.binds (ps:=["_law_feed_here"]) λ_ _ _ _ _ _ us hl=>by
    obtain⟨z0,rfl⟩:=L3.len_1 hl
    rfl
  have Fx:=PySem.W.mg_of X G Cq
  have Dl:=fun_mk (st:=BP) Dh Dc Di
  have Ii:=Dl.binds (ps:=["_law_rule_here","_law_one","_law_other"]) λ_ _ _ _ _ _ us hl=>by
    obtain⟨z0,z1,z2,rfl⟩:=L3.len_3 hl
    rfl
  have He:=PySem.W.mg_of X G Dg
  have CL:=fun_mk (st:=BN) CJ CH CK
  have GX:=CL.binds (ps:=["_law_m"]) λ_ _ _ _ _ _ us hl=>by
    obtain⟨z0,rfl⟩:=L3.len_1 hl
    rfl
  have Gk:=PySem.W.mg_of X G CI
  have Ee:=fun_mk (st:=BR) DS DG DT
  have Jo:=Ee.binds (ps:=["_law_m","_law_comers"]) λ_ _ _ _ _ _ us hl=>by
    obtain⟨z0,z1,rfl⟩:=L3.len_2 hl
    rfl
  have Iq:=PySem.W.mg_of X G DR
  have Eh:=fun_mk (st:=BU) DW DH DX
  have Jp:=Eh.binds (ps:=["_law_m","_law_comers"]) λ_ _ _ _ _ _ us hl=>by
    obtain⟨z0,z1,rfl⟩:=L3.len_2 hl
    rfl
  have Ir:=PySem.W.mg_of X G DU
  have Fp:=fun_mk (st:=Ce) Fc EA Fd
  have JA:=Fp.binds (ps:=["_law_house_here"]) λ_ _ _ _ _ _ us hl=>by
    obtain⟨z0,rfl⟩:=L3.len_1 hl
    rfl
  have Jv:=PySem.W.mg_of X G Fb
  have Fq:=fun_mk (st:=BX) Ff EB Fh
  have JB:=Fq.binds (ps:=["_law_house_here","_law_way_here"]) λ_ _ _ _ _ _ us hl=>by
    obtain⟨z0,z1,rfl⟩:=L3.len_2 hl
    rfl
  have Jw:=PySem.W.mg_of X G Fe
  have Flaw:=fun_mk (st:=BG) llaw claw klaw
  have blaw:=Flaw.binds (ps:=["_law_script"]) λ_ _ _ _ _ _ us hl=>by
    obtain⟨z0,rfl⟩:=L3.len_1 hl
    rfl
  have mlaw:=PySem.W.mg_of X G alaw
  refine⟨PySem.W.fnOf "law" "law" (defArgs BG) (defBody BG) (defScope BG) .none kVlaw dclaw pmlaw anlaw cdlaw ctlaw,λs v=>.of_eq rfl,λbase _ _ BM hC=>?_⟩
  have Dm:Callee l.prog w K mg base "keeps" 1 ["rule"] (spD K 1 FB):=⟨_,_,JE Jk T ,KZ,Jk.kp,KY⟩
  have FI:Callee l.prog w K mg base "let_in" 1 ["house","stand","beat"] (spD K 3 FE):=⟨_,_,Jr GU T ,Kz,GU.kp,Ky⟩
  obtain⟨Cu,Lc,Ij⟩:=L3.lamB_mk (mg:=mg) (base:=base) Dn Do (by decide) Dj hnd BM hC
  have Ds:Callee l.prog w K mg base "lined_up" 1 ["rule","stand"] (spD K 2 Dr):=⟨_,_,GY Fm T Ij ,Jy,Fm.kp,Jx⟩
  obtain⟨CO,Ln,JC⟩:=L3.lamB_mk (mg:=mg) (base:=base) FC FD (by decide) Fj hnd BM hC
  have FH:Callee l.prog w K mg base "picked" 2 ["house","stand"] (spD K 2 FF):=⟨_,_,Js GV T JC Ds Dm,KB,GV.kp,KA⟩
  have FJ:Callee l.prog w K mg base "worked" 3 ["house","stand"] (spD K 2 FG):=⟨_,_,Jt GW T FH Dm,KD,GW.kp,KC⟩
  have Il:Callee l.prog w K mg base "step" 4 ["house","stand","beat"] (spD K 3 Ik):=⟨_,_,Km Kj T FI FJ,Lm,Kj.kp,Ll⟩
  have Gc:Callee l.prog w K mg base "run" 5 ["house","way","stand"] (spD K 3 FK):=⟨_,_,KF La T Il,Lp,La.kp,Lo⟩
  have BB:Callee l.prog w K mg base "busy_stretches" 6 ["house","way"] (spG K 2 BH):=⟨_,_,Dt BQ T Gc,CN,BQ.kp,CM⟩
  have BD:Callee l.prog w K mg base "busy_stretches" 6 ["house","way"] (spD K 2 BK):=⟨_,_,Ek BQ T Gc,CN,BQ.kp,CM⟩
  have Hf:Callee l.prog w K mg base "_law_feed" 1 ["_law_script"] (spFeed K):=⟨_,_,Gf DY T,Im,DY.kp,Jl⟩
  have BA:Callee l.prog w K mg base "_law_next" 1 ["_law_feed_here","_law_many"] (spD K 2 drawS):=⟨_,_,Gg DZ T ,Io,DZ.kp,Jm⟩
  have CQ:Callee l.prog w K mg base "_law_rule" 2 ["_law_feed_here"] (spD K 1 CP):=⟨_,_,Gh Ed T BA,Ip,Ed.kp,Jn⟩
  have BE:Callee l.prog w K mg base "_law_house" 3 ["_law_feed_here"] (spD K 1 BW):=⟨_,_,FQ Dk T BA CQ,Hd,Dk.kp,Ih⟩
  have Dv:Callee l.prog w K mg base "_law_way" 2 ["_law_feed_here","_law_beats","_law_works"] (spD K 3 Du):=⟨_,_,GZ Fo T BA,Ju,Fo.kp,Jz⟩
  have BC:Callee l.prog w K mg base "_law_sized_way" 3 ["_law_feed_here"] (spD K 1 BL):=⟨_,_,El Ct T BA Dv,Fx,Ct.kp,Fy⟩
  have Cc:Callee l.prog w K mg base "_law_ahead" 1 ["_law_rule_here","_law_one","_law_other"] (spD K 3 CD):=⟨_,_,FR Dl T ,He,Dl.kp,Ii⟩
  have Cz:Callee l.prog w K mg base "_law_picked" 2 ["_law_m"] (spM K 1 Cy):=⟨_,_,FL CL T Cc,Gk,CL.kp,GX⟩
  have CV:Callee l.prog w K mg base "_law_come" 1 ["_law_m","_law_comers"] (spM K 2 CT):=⟨_,_,Gi Ee T ,Iq,Ee.kp,Jo⟩
  have CW:Callee l.prog w K mg base "_law_beat" 3 ["_law_m","_law_comers"] (spM K 2 CU):=⟨_,_,Gj Eh T CV Cz,Ir,Eh.kp,Jp⟩
  have Dw:Callee l.prog w K mg base "_law_new" 1 ["_law_house_here"] (spN K mkHouse):=⟨_,_,Hb Fp T ,Jv,Fp.kp,JA⟩
  have BF:Callee l.prog w K mg base "_law_due" 4 ["_law_house_here","_law_way_here"] (spD K 2 BY):=⟨_,_,Hc Fq T Dw CW,Jw,Fq.kp,JB⟩
  exact KG Flaw T Hf BE BC BA BF BB BD (λns _=>fin ns)
theorem walk {l:PySem.W.OpenLaw}{q:Program}{loose:List Str}{XP:(Str->Option Value)->Heap->Prop}{YP:World->Heap->Prop}{d:DefRec}{K:Params->PySem.W.Frag}(hn:l.most=some 63)(hdf:d.params.defaults=[])
  (hrec:((["lined_up","picked"]:List Str).all λx=>((PyProof.Rows.recsOf q).find? λe=>e.name == x).isSome)=true) (hnt:∀w:World,PySem.W.noTabs (K w.params)=true)
  (hY:∀(w:World) (h:Heap),YP w h->(K w.params).In h)
  (F:∀(w:World) (mg:Str->Option Value) (fa:Addr) (h:Heap),(K w.params).In h->h.Ns mainGlobals mg->mg d.name=some (.ref fa) ->
   ∃fd:FuncData,(∀(s:Shared) (u:Value),BindsTo s fd ⟨[u],[]⟩ [("_law_script",u)])/\∀base:Heap,(K w.params).In base->base.Ns mainGlobals mg->BMd base mg->(∀t∈L3.tabsK (["lined_up","picked"]:List Str) (K w.params),PySem.W.CodeHd base t.2.1 t.2.2)->FnOk l.prog w (K w.params) mg base CX0 7 fa fd ["_law_script"] (spLaw (K w.params))) :
  PySem.W.WalkO q loose XP YP l.row.toRowW d [] (λf vs=>PySem.call f vs) :=
 L3.walk_ofT (["lined_up","picked"]:List Str) (n:=63) (k:=7) (x:="_law_script") (CX:=λ_=>CX0) (sp:=λw=>spLaw (K w.params)) hn (by decide) hdf ⟨rfl,by decide,by decide,rfl⟩ hrec hnt hY F (λ_ _ a ns hl hS hT=>⟨a,ns,rfl,hS,hl,hT,λ_=>rfl⟩) λ_ _ _ _ _ z=>z
end
end K22
open PySem PySem.W PyProof.Rows
set_option maxRecDepth 100000 in
set_option maxHeartbeats 0 in
theorem PySem.Challenge.cw_hatchwaits_k22_stretches_told_holds : PySem.Challenge.rw_hatchwaits_k22_stretches_told.Holds := by
 w_on;o_law;k_head;(case hw=>w_witness2)
 k_fill
 refine K22.walk (l:=PySem.Challenge.rw_hatchwaits_k22_stretches_told) rfl rfl (by first | rfl | kernel_rfl) (by intro w;first | kernel_rfl | with_unfolding_all rfl) (λw h Y=>PySem.W.km_in_of Y) ?F
 case F =>
  intro w mg fa h KX G hmg
  refine' K22.all_mk KX G hmg ?Jg ?Jh ?Ji ?Jj ?GK ?GL ?GM ?GN ?Dn ?Do ?EV ?EW ?FC ?FD ?GO ?GP ?GQ ?GR ?GS ?GT ?Kf ?Kg ?Kh ?Ki ?KR ?KS ?KU ?KW ?Ck ?Cm ?Cn ?Cp ?DI ?DJ ?DC ?DK ?DL ?DM ?DD ?DN ?DO ?DP ?DF ?DQ ?Dd ?De ?Da ?Df ?EX ?EY ?Ez ?EZ ?Cq ?Cr ?Ci ?Cs ?Dg ?Dh ?Dc ?Di ?CI ?CJ ?CH ?CK ?DR ?DS ?DG ?DT ?DU ?DW ?DH ?DX ?Fb ?Fc ?EA ?Fd ?Fe ?Ff ?EB ?Fh ?alaw ?llaw ?claw ?klaw ?zenumerate ?zint ?zisinstance ?zlen ?zlist ?zmin ?zrange ?zrepr ?zsorted ?ztuple ?ga_KEEPING ?gl_KEEPING ?gq_KEEPING ?Dj ?Fj ?hnd0
  (case Jg=>k_is)
  (case Jh=>k_is)
  (case Ji=>k_is)
  (case Jj=>k_is)
  (case GK=>k_is)
  (case GL=>k_is)
  (case GM=>k_is)
  (case GN=>k_is)
  (case Dn=>k_is)
  (case Do=>k_is)
  (case EV=>k_is)
  (case EW=>k_is)
  (case FC=>k_is)
  (case FD=>k_is)
  (case GO=>k_is)
  (case GP=>k_is)
  (case GQ=>k_is)
  (case GR=>k_is)
  (case GS=>k_is)
  (case GT=>k_is)
  (case Kf=>k_is)
  (case Kg=>k_is)
  (case Kh=>k_is)
  (case Ki=>k_is)
  (case KR=>k_is)
  (case KS=>k_is)
  (case KU=>k_is)
  (case KW=>k_is)
  (case Ck=>k_is)
  (case Cm=>k_is)
  (case Cn=>k_is)
  (case Cp=>k_is)
  (case DI=>k_is)
  (case DJ=>k_is)
  (case DC=>k_is)
  (case DK=>k_is)
  (case DL=>k_is)
  (case DM=>k_is)
  (case DD=>k_is)
  (case DN=>k_is)
  (case DO=>k_is)
  (case DP=>k_is)
  (case DF=>k_is)
  (case DQ=>k_is)
  (case Dd=>k_is)
  (case De=>k_is)
  (case Da=>k_is)
  (case Df=>k_is)
  (case EX=>k_is)
  (case EY=>k_is)
  (case Ez=>k_is)
  (case EZ=>k_is)
  (case Cq=>k_is)
  (case Cr=>k_is)
  (case Ci=>k_is)
  (case Cs=>k_is)
  (case Dg=>k_is)
  (case Dh=>k_is)
  (case Dc=>k_is)
  (case Di=>k_is)
  (case CI=>k_is)
  (case CJ=>k_is)
  (case CH=>k_is)
  (case CK=>k_is)
  (case DR=>k_is)
  (case DS=>k_is)
  (case DG=>k_is)
  (case DT=>k_is)
  (case DU=>k_is)
  (case DW=>k_is)
  (case DH=>k_is)
  (case DX=>k_is)
  (case Fb=>k_is)
  (case Fc=>k_is)
  (case EA=>k_is)
  (case Fd=>k_is)
  (case Fe=>k_is)
  (case Ff=>k_is)
  (case EB=>k_is)
  (case Fh=>k_is)
  (case alaw=>k_is)
  (case llaw=>k_is)
  (case claw=>k_is)
  (case klaw=>k_is)
  (case zenumerate=>k_is)
  (case zint=>k_is)
  (case zisinstance=>k_is)
  (case zlen=>k_is)
  (case zlist=>k_is)
  (case zmin=>k_is)
  (case zrange=>k_is)
  (case zrepr=>k_is)
  (case zsorted=>k_is)
  (case ztuple=>k_is)
  (case ga_KEEPING=>k_is)
  (case gl_KEEPING=>k_is)
  (case gq_KEEPING=>first | rfl | k_is | with_unfolding_all rfl)
  (case Dj=>first | kernel_rfl | with_unfolding_all rfl)
  (case Fj=>first | kernel_rfl | with_unfolding_all rfl)
  (case hnd0=>first | kernel_rfl | with_unfolding_all rfl)
