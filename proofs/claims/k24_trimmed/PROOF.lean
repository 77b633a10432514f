import PyProof.Rows.All
import Wide.All
import OpenK.AllK
import Wide.FinOn
import Lean
import PyProof.EqAt
import PyProof.EqKinds
import PyProof.TupleCall
import PySem.Challenge.RW_glasslayers_k24_trimmed
set_option compiler.extract_closed false
set_option Elab.async false
set_option linter.all false
set_option maxRecDepth 100000
namespace L2
open PySem PySem.Spec PyProof.Rows
abbrev Key:=Sum Int Str
def qpx:Key->Value->Bool
|.inl k,v=>Value.isInt k v
|.inr x,v=>Value.isStrOf x v
def keyH(w:World):Key->Int
|.inl k=>hashInt k
|.inr x=>hashStr w x
theorem qbi:∀ {k:Key} {v:Value},qpx k v=true->(∃i t,k=Sum.inl i/\v=Value.int i t)\/(∃x t,k=Sum.inr x/\v=Value.str x t)
|.inl i,v,h=>by
  obtain⟨t,e⟩:=Value.isInt_shape (k:=i) (v:=v) h
  exact .inl ⟨i,t,rfl,e⟩
|.inr x,v,h=>by
  obtain⟨t,e⟩:=Value.isStrOf_shape (x:=x) (v:=v) h
  exact .inr ⟨x,t,rfl,e⟩
theorem qse(i:Int)(t:Tok):qpx (.inl i) (.int i t)=true:=by simp[qpx,Value.isInt]
theorem qsf(x:Str)(t:Tok):qpx (.inr x) (.str x t)=true:=by simp[qpx,Value.isStrOf]
theorem q2d(a b:Int):decide ((Sum.inl a:Key)=Sum.inl b)=(a==b):=by
 by_cases e:a=b
 ·subst e;simp
 ·have h:¬ (Sum.inl a:Key)=Sum.inl b:=λq=>e (Sum.inl.inj q)
  rw[decide_eq_false h]
  exact(beq_eq_false_iff_ne.mpr e).symm
theorem q2g(a b:Str):decide ((Sum.inr a:Key)=Sum.inr b)=decide (a=b):=by
 by_cases e:a=b
 ·subst e;simp
 ·have h:¬ (Sum.inr a:Key)=Sum.inr b:=λq=>e (Sum.inr.inj q)
  rw[decide_eq_false h,decide_eq_false e]
theorem q2e(a:Int)(b:Str):decide ((Sum.inl a:Key)=Sum.inr b)=false:=decide_eq_false (λq=>nomatch q)
theorem q2f(a:Str)(b:Int):decide ((Sum.inr a:Key)=Sum.inl b)=false:=decide_eq_false (λq=>nomatch q)
def qbb(prog:Program)(w:World):PySem.KeyKind prog w Key where
 is:=qpx
 hash:=keyH w
 inj:=λv a b ha hb=>by
  rcases qbi ha with ⟨i,t,rfl,rfl⟩|⟨x,t,rfl,rfl⟩
  ·rcases qbi hb with ⟨j,u,rfl,e⟩|⟨y,u,rfl,e⟩
   ·injection e with e1 _;rw[e1]
   ·exact nomatch e
  ·rcases qbi hb with ⟨j,u,rfl,e⟩|⟨y,u,rfl,e⟩
   ·exact nomatch e
   ·injection e with e1 _;rw[e1]
 byValue:=λk v h=>by
  rcases qbi h with ⟨i,t,rfl,rfl⟩|⟨x,t,rfl,rfl⟩<;>rfl
 pyHash:=λhv h=>by
  rcases qbi hv with ⟨i,t,rfl,rfl⟩|⟨x,t,rfl,rfl⟩
  ·exact wpAny_pyHash_int h
  ·exact wpAny_pyHash_str h
 eqBool:=λhu hv h=>by
  rcases qbi hu with ⟨i,t,rfl,rfl⟩|⟨x,t,rfl,rfl⟩
  ·rcases qbi hv with ⟨j,u,rfl,rfl⟩|⟨y,u,rfl,rfl⟩
   ·rw[q2d] at h;exact wpAny_eqBool_int h
   ·rw[q2e] at h;exact SeqAt.EqAt.int_str i t y u _ _ _ _ h
  ·rcases qbi hv with ⟨j,u,rfl,rfl⟩|⟨y,u,rfl,rfl⟩
   ·rw[q2f] at h;exact SeqAt.EqAt.str_int x t j u _ _ _ _ h
   ·rw[q2g] at h;exact wpAny_eqBool_str h
 «strs»:=λk x t v h=>by
  rcases qbi h with ⟨i,u,rfl,e⟩|⟨y,u,rfl,e⟩
  ·exact nomatch e
  ·injection e with e1 _
   subst e1
   cases v<;>rfl
theorem qm4(prog:Program)(w:World)(i:Int)(t:Tok):(qbb prog w).is (.inl i) (.int i t)=true:=qse i t
theorem qm5(prog:Program)(w:World)(x:Str)(t:Tok):(qbb prog w).is (.inr x) (.str x t)=true:=qsf x t
end L2
namespace L2
open PySem PySem.Spec PyProof.Rows
inductive V where
|non|bl (b:Bool)|int (i:Int)|str (x:Str)|byt (b:Array UInt8)|flt (b:UInt64)|ref (a:Addr)|ty (n:String)
 deriving DecidableEq
def RelV:V->Value->Prop
|.non,u=>u=Value.none
|.bl b,u=>u=Value.bool b
|.int i,u=>∃t,u=Value.int i t
|.str x,u=>∃t,u=Value.str x t
|.byt b,u=>∃t,u=Value.bytes b t
|.flt b,u=>∃t,u=Value.float b t
|.ref a,u=>u=Value.ref a
|.ty n,u=>u=Value.type n
abbrev Vals:List V->List Value->Prop:=Paired RelV
theorem Vals.length{xs:List V}{us:List Value}(r:Vals xs us):xs.length=us.length:=Paired.length r
theorem Vals.get:∀ {xs:List V} {us:List Value} {i:Nat} {x:V},Vals xs us->xs[i]?=some x->∃u,us[i]?=some u/\RelV x u
|_,_,_,_,.nil,e=>by simp at e
|_,_,0,_,.cons r _,e=>by simp at e;subst e;exact⟨_,rfl,r⟩
|_,_,i+1,x,.cons _ t,e=>by
  obtain⟨u,h1,h2⟩:=Vals.get (i:=i) (x:=x) t (by simpa using e)
  exact⟨u,by simpa using h1,h2⟩
theorem Vals.append:∀ {xs ys:List V} {us ws:List Value},Vals xs us->Vals ys ws->Vals (xs++ys) (us++ws)
|_,_,_,_,.nil,s=>s
|_,_,_,_,.cons r t,s=>.cons r (Vals.append t s)
theorem Vals.take:∀ {xs:List V} {us:List Value} (n:Nat),Vals xs us->Vals (xs.take n) (us.take n)
|_,_,0,_=>.nil
|_,_,_+1,.nil=>.nil
|_,_,n+1,.cons r t=>.cons r (Vals.take n t)
theorem Vals.drop:∀ {xs:List V} {us:List Value} (n:Nat),Vals xs us->Vals (xs.drop n) (us.drop n)
|_,_,0,r=>r
|_,_,_+1,.nil=>.nil
|_,_,n+1,.cons _ t=>Vals.drop n t
theorem Vals.none_of:∀ {xs:List V} {us:List Value} {i:Nat},Vals xs us->xs[i]?=none->us[i]?=none:=λ{xs us i} r e=>by
 have h1:=r.length
 have h2:xs.length<=i:=List.getElem?_eq_none_iff.mp e
 exact List.getElem?_eq_none_iff.mpr (by lia)
def RelO:Option V->Option Value->Prop
|some v,some u=>RelV v u
|none,none=>True
|_,_=>False
def KV{κ:Type}:List (κ×V)->List (κ×Value)->Prop:=Paired λ(p:κ×V) (q:κ×Value)=>p.1=q.1/\RelV p.2 q.2
def kV:Key->V
|.inl i=>.int i
|.inr x=>.str x
inductive HO where
|lst (xs:List V)
|tup (xs:List V)
|dK (kvs:List (Key×V))|dT (kvs:List (List Key×V))
|set (S:Int->Bool) (n:Nat)
|ins (C dx:Addr) (fs:List (Str×V))
|own (x:Addr)
|xd (fs:List (Str×V))
|met (f x:Addr)
|rng (lo hi:Int)
|frz (o:Obj) (u:HO)
|tbl (ps:Array Value)
|ext (φ:Heap->Prop)
abbrev Hp:=Addr->Option HO
def upd(H:Hp)(a:Addr)(o:HO):Hp:=λb=>if b=a then some o else H b
theorem qbc{H:Hp}{a:Addr}{o:HO}:upd H a o a=some o:=by unfold upd;rw[if_pos rfl]
theorem qa4{H:Hp}{a b:Addr}{o:HO}(h:b≠a):upd H a o b=H b:=by unfold upd;rw[if_neg h]
theorem q40{H:Hp}{a b:Addr}{o u:HO}(h:H a=some o)(h':H b=some u)(d:o≠u):a≠b:=by
 intro e;subst e;rw[h] at h';exact d (Option.some.inj h')
theorem qch{H:Hp}{a b:Addr}{o:HO}(h:H a=some o)(h':H b=none):a≠b:=by
 intro e;subst e;rw[h] at h';cases h'
section
variable (P:Program) (w:World)
def ObjOk(H:Hp)(h:Heap)(a:Addr):HO->Prop
|.lst xs=>xs.length<=sizeLine/\∃(its:List Value) (n:Nat),Vals xs its/\h.get? a=some { cls:=.type "list",data:=.seq its.toArray n }
|.tup xs=>xs.length<=sizeLine/\∃its:List Value,Vals xs its/\IsTup h a its.toArray
|.dK kvs=>kvs.length<=sizeLine/\(a==sysModules)=false/\∃vs,KV kvs vs/\h.DictOf (qbb P w) a vs
|.dT kvs=>kvs.length<=sizeLine/\(a==sysModules)=false/\∃xs:List (List Key×Addr×Value),
   Paired (λ(p:List Key×V) (q:List Key×Addr×Value)=>p.1=q.1/\H q.2.1=some (.tup (p.1.map kV))/\RelV p.2 q.2.2) kvs xs /\
   ∃o es ep,h.get? a=some o/\o.ExactDict/\o.data=.dict es ep/\es.toList=xs.map (entryOfKey (tupleKind (qbb P w)))/\(xs.map (·.1)).Nodup
|.set S n=>h.SetOf (intKind P w) a S n
|.ins C dx fs=>H dx=some (.own a)/\fs.length<=1000/\dx≠a/\h.get? a=some (PySem.W.instObj C dx) /\
   ∃mA,h.Ns1 dx mA/\(∀f,RelO (fs.lookup f) (mA f))/\PySem.Within mA (fs.map (·.1))
|.own _=>∃o,h.get? a=some o
|.xd fs=>∃mA,h.Ns1 a mA/\∀f,RelO (fs.lookup f) (mA f)
|.rng lo hi=>∃t u v,h.get? a=some { cls:=.type "range",data:=.fields #[.int lo t,.int hi u,.int 1 v] }
|.frz o u=>h.get? a=some o/\ObjOk H h a u
|.tbl ps=>h.get? a=some { cls:=.none,data:=.fields ps }
|.met f x=>h.get? a=some (PySem.W.methodObj (.ref f) (.ref x))
|.ext φ=>φ h/\(∃o,h.get? a=some o)/\∀h1 h2:Heap,φ h1->(∀o,h1.get? a=some o->h2.get? a=some o)->φ h2
def HOk(H:Hp)(h:Heap):Prop:=∀a o,H a=some o->ObjOk P w H h a o
end
section
variable {P:Program} {w:World} {H H':Hp} {h h':Heap} {a:Addr} {o:HO}
theorem ObjOk.lt(x:ObjOk P w H h a o):a<h.objs.size:=by
 cases o with
|lst xs=>obtain⟨_,_,_,_,e⟩:=x;exact Heap.lt_size e
|tup xs=>obtain⟨_,_,_,p⟩:=x;exact p.lt
|dK kvs=>obtain⟨_,_,_,_,o,_,_,e,_⟩:=x;exact Heap.lt_size e
|dT kvs=>obtain⟨_,_,_,_,o,_,_,e,_⟩:=x;exact Heap.lt_size e
|set S n=>obtain⟨o,_,_,_,e,_⟩:=x;exact Heap.lt_size e
|ins C dx fs=>obtain⟨_,_,_,e,_⟩:=x;exact Heap.lt_size e
|own y=>obtain⟨_,e⟩:=x;exact Heap.lt_size e
|xd fs=>obtain⟨_,⟨_,_,_,e,_⟩,_⟩:=x;exact Heap.lt_size e
|rng lo hi=>obtain⟨_,_,_,e⟩:=x;exact Heap.lt_size e
|frz ob u=>obtain⟨e,_⟩:=x;exact Heap.lt_size e
|tbl ps=>exact Heap.lt_size (show h.get? a=some _ from x)
|met f y=>exact Heap.lt_size (show h.get? a=some _ from x)
|ext φ=>obtain⟨_,⟨_,e⟩,_⟩:=x;exact Heap.lt_size e
theorem Paired.mapP{α β:Type}{F G:α->β->Prop}:∀ {l₁:List α} {l₂:List β},Paired F l₁ l₂->(∀a b,F a b->G a b)->Paired G l₁ l₂
|_,_,.nil,_=>.nil
|_,_,.cons r t,f=>.cons (f _ _ r) (Paired.mapP t f)
theorem ObjOk.stay(x:ObjOk P w H h a o)(k:∀b u,(b=a\/H b=some (.own a))->h.get? b=some u->h'.get? b=some u)
  (ho:∀b,H b=some (.own a)->H' b=some (.own a)) (ht:∀b xs,H b=some (.tup xs)->H' b=some (.tup xs)):ObjOk P w H' h' a o:=by
 induction o with
|lst xs=>obtain⟨z,its,n,r,e⟩:=x;exact⟨z,its,n,r,k _ _ (.inl rfl) e⟩
|tup xs=>obtain⟨z,its,r,ob,e,c⟩:=x;exact⟨z,its,r,ob,k _ _ (.inl rfl) e,c⟩
|dK kvs=>obtain⟨z,y,vs,r,ob,es,ep,e,c⟩:=x;exact⟨z,y,vs,r,ob,es,ep,k _ _ (.inl rfl) e,c⟩
|dT kvs =>
  obtain⟨z,y,xs,r,ob,es,ep,e,c⟩:=x
  exact⟨z,y,xs,Paired.mapP r λp q z=>⟨z.1,ht _ _ z.2.1,z.2.2⟩,ob,es,ep,k _ _ (.inl rfl) e,c⟩
|set S n=>obtain⟨ob,es,ep,t,e,c⟩:=x;exact⟨ob,es,ep,t,k _ _ (.inl rfl) e,c⟩
|ins C dx fs =>
  obtain⟨d,z,ne,e,mA,⟨od,es,ep,e2,c⟩,r⟩:=x
  exact⟨ho _ d,z,ne,k _ _ (.inl rfl) e,mA,⟨od,es,ep,k _ _ (.inr d) e2,c⟩,r⟩
|own y=>obtain⟨ob,e⟩:=x;exact⟨ob,k _ _ (.inl rfl) e⟩
|xd fs=>obtain⟨mA,⟨od,es,ep,e,c⟩,r⟩:=x;exact⟨mA,⟨od,es,ep,k _ _ (.inl rfl) e,c⟩,r⟩
|rng lo hi=>obtain⟨t,u,v,e⟩:=x;exact⟨t,u,v,k _ _ (.inl rfl) e⟩
|frz ob u ih=>obtain⟨e,q⟩:=x;exact⟨k _ _ (.inl rfl) e,ih q⟩
|tbl ps =>
  have e:h.get? a=some { cls:=.none,data:=.fields ps }:=x
  show h'.get? a=some { cls:=.none,data:=.fields ps }
  exact k a _ (.inl rfl) e
|met f y =>
  have e:h.get? a=some (PySem.W.methodObj (.ref f) (.ref y)):=x
  show h'.get? a=some (PySem.W.methodObj (.ref f) (.ref y))
  exact k a _ (.inl rfl) e
|ext φ=>obtain⟨p,⟨o,e⟩,st⟩:=x;exact⟨st _ _ p λo q=>k _ _ (.inl rfl) q,⟨o,k _ _ (.inl rfl) e⟩,st⟩
theorem HOk.lt(x:HOk P w H h)(e:H a=some o):a<h.objs.size:=(x a o e).lt
theorem HOk.fresh(x:HOk P w H h)(e:h.objs.size<=a):H a=none:=by
 cases q:H a with
|none=>rfl
|some u=>exact absurd (Nat.lt_of_lt_of_le (x.lt q) e) (Nat.lt_irrefl _)
theorem HOk.kept(x:HOk P w H h)(k:∀b u,h.get? b=some u->h'.get? b=some u):HOk P w H h':=λa o e =>
 (x a o e).stay (λb u _ q=>k b u q) (λ_ q=>q) λ_ _ q=>q
theorem HOk.laid(x:HOk P w H h)(k:∀b u,h.get? b=some u->h'.get? b=some u)(hp:h.objs.size<=a)(new:ObjOk P w (upd H a o) h' a o):HOk P w (upd H a o) h':=λb u e=>by
 have hn:=x.fresh hp
 by_cases hb:b=a
 ·subst hb;rw[qbc] at e;cases e;exact new
 ·rw[qa4 hb] at e
  exact(x b u e).stay (λc v _ q=>k c v q) (λc q=>by rw[qa4 (qch q hn)];exact q) λc xs q=>by rw[qa4 (qch q hn)];exact q
end
def Rd(H:Hp)(a:Addr)(u:HO):Prop:=H a=some u\/∃o,H a=some (.frz o u)
theorem Rd.ok{P:Program}{w:World}{H:Hp}{h:Heap}{a:Addr}{u:HO}(r:Rd H a u)(x:HOk P w H h):ObjOk P w H h a u:=by
 rcases r with r|⟨o,r⟩
 ·exact x a u r
 ·obtain⟨_,q⟩:=x a _ r
  exact q
def Mut:Option HO->Prop
|some (.lst _)=>True
|some (.dK _)=>True
|some (.dT _)=>True
|some (.set _ _)=>True
|some (.ins _ _ _)=>True
|some (.ext _)=>True
|_=>False
section
variable {P:Program} {w:World} {H:Hp} {h h':Heap} {x e:Addr} {o':HO}
theorem HOk.write(ok:HOk P w H h)(mu:Mut (H x))(he:e=x\/H e=some (.own x))(k:∀b u,b≠e->h.get? b=some u->h'.get? b=some u)(heo:∃u,h'.get? e=some u)
  (new:ObjOk P w (upd H x o') h' x o'):HOk P w (upd H x o') h':=λb u q=>by
 have nown:∀c y,H c=some (.own y)->c≠x:=λc y r z=>by subst z;rw[r] at mu;exact mu
 have ntup:∀c xs,H c=some (.tup xs)->c≠x:=λc xs r z=>by subst z;rw[r] at mu;exact mu
 by_cases hb:b=x
 ·subst hb;rw[qbc] at q;cases q;exact new
 ·rw[qa4 hb] at q
  by_cases hbe:b=e
  ·have q':H b=some (.own x):=by
    rcases he with z|z
    ·exact absurd (hbe.trans z) hb
    ·rw[hbe];exact z
   rw[q] at q';cases q'
   obtain⟨v,hv⟩:=heo
   exact⟨v,by rw[hbe];exact hv⟩
  ·refine(ok b u q).stay (λc v hc r=>k c v ?_ r) (λc r=>by rw[qa4 (nown c b r)];exact r) λc xs r=>by rw[qa4 (ntup c xs r)];exact r
   rcases hc with rfl|hc
   ·exact hbe
   ·rintro rfl
    rcases he with z|z
    ·exact nown c b hc z
    ·rw[hc] at z;cases z;exact hb rfl
end
structure Un(fs ex:List Addr)(H H':Hp)(h h':Heap):Prop where
 keep:∀b o,h.get? b=some o->H b=none->b∉fs->b∉ex->h'.get? b=some o
 slot:∀b o,h.get? b=some o->H b=none->b∈fs->b∉ex->∃sl,h'.get? b=some { o with slots:=sl }
 free:∀b o,h.get? b=some o->H b=none->b∉ex->H' b=none
 there:∀b o,h.get? b=some o->b∉ex->∃o',h'.get? b=some o'
 tups:∀b xs,H b=some (.tup xs)->H' b=some (.tup xs)
 frzs:∀b o u,H b=some (.frz o u)->H' b=some (.frz o u)
 tbls:∀b ps,H b=some (.tbl ps)->∃more,H' b=some (.tbl (ps++more))
section
variable {fs fs' ex ex':List Addr} {H H1 H2:Hp} {h h1 h2 h':Heap} {a x e:Addr} {o:HO}
theorem Un.any(u:Un fs ex H H1 h h1){b:Addr}{ob:Obj}(q:h.get? b=some ob)(n:H b=none)(hx:b∉ex):∃sl,h1.get? b=some { ob with slots:=sl }:=by
 by_cases hb:b∈fs
 ·exact u.slot b ob q n hb hx
 ·exact⟨ob.slots,u.keep b ob q n hb hx⟩
theorem Un.kept(k:∀b u,h.get? b=some u->h'.get? b=some u):Un fs ex H H h h' :=
 ⟨λb ob q _ _ _=>k b ob q,λb ob q _ _ _=>⟨ob.slots,k b ob q⟩,λ_ _ _ n _=>n,λb ob q _=>⟨ob,k b ob q⟩,λ_ _ q=>q,λ_ _ _ q=>q,λ_ ps q=>⟨#[],by rw[q];simp⟩⟩
theorem Un.refl:Un fs ex H H h h:=Un.kept λ_ _ q=>q
theorem Un.laid(k:∀b u,h.get? b=some u->h'.get? b=some u)(hp:h.objs.size<=a)(hn:H a=none):Un fs ex H (upd H a o) h h' where
 keep:=λb u q _ _ _=>k b u q
 slot:=λb u q _ _ _=>⟨u.slots,k b u q⟩
 free:=λb u q n _=>by rw[qa4 (Nat.ne_of_lt (Nat.lt_of_lt_of_le (Heap.lt_size q) hp))];exact n
 there:=λb u q _=>⟨u,k b u q⟩
 tups:=λb xs q=>by rw[qa4 (qch q hn)];exact q
 frzs:=λb u xs q=>by rw[qa4 (qch q hn)];exact q
 tbls:=λb ps q=>⟨#[],by rw[qa4 (qch q hn),q];simp⟩
theorem Un.write(mu:Mut (H x))(he:e=x\/H e=some (.own x))(k:∀b u,b≠e->h.get? b=some u->h'.get? b=some u)(heo:∃u,h'.get? e=some u):Un fs ex H (upd H x o) h h':=by
 have hx:∀b,H b=none->b≠x:=λb n z=>by subst z;rw[n] at mu;exact mu
 have hb:∀b,H b=none->b≠e:=λb n z=>by
  subst z
  rcases he with r|r
  ·exact hx b n r
  ·rw[n] at r;cases r
 have hm:∀b u,H b=some u->¬ Mut (some u)->b≠x:=λb u q nm z=>by subst z;rw[q] at mu;exact nm mu
 refine⟨λb u q n _ _=>k b u (hb b n) q,λb u q n _ _=>⟨u.slots,k b u (hb b n) q⟩,λb u q n _=>by rw[qa4 (hx b n)];exact n,λb u q _=>?_,
  λb xs q=>by rw[qa4 (hm b _ q λz=>z)];exact q,λb u xs q=>by rw[qa4 (hm b _ q λz=>z)];exact q,λb ps q=>⟨#[],by rw[qa4 (hm b _ q λz=>z),q];simp⟩⟩
 by_cases hbe:b=e
 ·subst hbe;exact heo
 ·exact⟨u,k b u hbe q⟩
end
def trk(h:Heap)(H:Hp):List Addr:=(List.range h.objs.size).filter λa=>(H a).isSome
def hidT(h:Heap)(H:Hp):Heap:=PySem.W.hideAll h (trk h H)
theorem qr6(h:Heap)(H:Hp):(hidT h H).objs.size=h.objs.size:=PySem.W.hideAll_size _ _
theorem qu6{h:Heap}{H:Hp}{b:Addr}{o:Obj}(e:h.get? b=some o)(n:H b=none):(hidT h H).get? b=some o :=
 PySem.W.hideAll_get _ e λhm=>by
  have q:(H b).isSome=true:=(List.mem_filter.mp hm).2
  rw[n] at q;simp at q
theorem qze{h:Heap}{H:Hp}{b:Addr}{o:Obj}(e:(hidT h H).get? b=some o):h.get? b=some o/\H b=none:=by
 have e':h.get? b=some o:=PySem.W.of_hideAll (trk h H) e
 refine⟨e',?_⟩
 cases q:H b with
|none=>rfl
|some x =>
  have hm:b∈trk h H:=List.mem_filter.mpr ⟨List.mem_range.mpr (Heap.lt_size e'),by simp[q]⟩
  have z:(hidT h H).get? b=none:=PySem.W.hideAll_none (trk h H) hm
  rw[z] at e;cases e
def qyj(g h:Heap)(L:Addr):List (Addr×Obj):=(List.range h.objs.size).filterMap λa=>if a=L\/(g.get? a).isSome=true then none else (h.get? a).map λo=>(a,o)
def rest(g h:Heap)(L d:Addr):List (Addr×Obj):=(qyj g h L).filter λp=>decide (p.1≠d)
end L2
namespace L2
open PySem PySem.Spec PyProof.Rows
structure Mod(K:PySem.W.Frag)(mg:Str->Option Value)(base:Heap):Prop where
 kin:K.In base
 glob:base.Ns mainGlobals mg
 blt:∃mb,base.Ns builtinsNs mb/\∀x:Str,x≠"__name__" -> mb x=bootBuiltins x
 nolimit:base.NoLimit
structure Cx where
 prog:Program
 w:World
 K:PySem.W.Frag
 mg:Str->Option Value
 base:Heap
 A:Around
 N:List Str
 s₀:Shared
 H₀:Hp
 env:Env
 outer:List Env
 stack:List Env
 ex:List Addr
 fn:Str->Bool
 calm:Bool
 pn:List (Addr×Obj)
 xe:Value->Shared->Prop
def frs(l:List Env):List Addr:=l.filterMap (·.frame)
abbrev Cx.fs(X:Cx):List Addr:=frs X.outer
def Vis(sc:Scope)(x:Str):Prop:=sc.names.lookup x=some .local\/sc.names.lookup x=some .cell\/sc.names.lookup x=some .free
def Loc(sc:Scope)(x:Str):Prop:=sc.names.lookup x=some .local\/sc.names.lookup x=some .cell
def Look(env:Env)(h:Heap)(m:Str->Option Value)(x:Str)(u:Value):Prop :=
 (env.kindOf x=some .local/\m x=some u)\/((env.kindOf x=some .cell\/env.kindOf x=some .free)/\∃c,env.cells.lookup x=some c/\h.IsCell c (some u))
structure Cx.Ok(X:Cx):Prop where
 mod:Mod X.K X.mg X.base
 kind:X.env.scope.kind=.function
 glob:X.env.globals=mainGlobals
 blt:X.env.builtins=builtinsNs
 above:X.s₀.heap.objs.size<=X.env.locals
 inj:∀x y c,X.env.cells.lookup x=some c->X.env.cells.lookup y=some c->x=y
 has:∀x,(X.env.kindOf x=some .cell\/X.env.kindOf x=some .free)->∃c,X.env.cells.lookup x=some c
 cab:∀x c,X.fn x=true->X.env.cells.lookup x=some c->X.s₀.heap.objs.size<=c
 hd:X.calm=true->X.A.handled=none
 frames:X.A.frames=some X.stack
 stk:X.stack=X.outer\/(X.stack=X.env::X.outer/\X.env.frame=some X.env.locals)
 exf:∀b∈X.ex,b≠X.env.locals/\∀x c,X.env.cells.lookup x=some c->c≠b
 bs:∀b o,X.base.get? b=some o->X.s₀.heap.get? b=some o/\X.H₀ b=none
 bsz:X.base.objs.size<=X.s₀.heap.objs.size
 noex:∀b o,X.base.get? b=some o->b∉X.ex
 exfs:∀b∈X.ex,b∉X.fs
 funs:X.s₀.heap.FunFrames X.base X.outer
 frf:∀b∈X.fs,X.H₀ b=none
structure Inv(X:Cx)(pins:List (Addr×Obj))(σ:List (Option V))(H:Hp)(s:Shared):Prop where
 ok:X.Ok
 os:s.os=X.s₀.os
 bare:AllBare s.gens
 base:Un X.fs X.ex X.H₀ H X.s₀.heap s.heap
 loc:∃m,s.heap.Ns X.env.locals m/\∀(i:Nat) (x:Str) (v:V),X.N[i]?=some x->σ[i]?=some (some v)->Vis X.env.scope x->∃u,RelV v u/\Look X.env s.heap m x u
 cell:∀x c,X.env.cells.lookup x=some c->∃v,s.heap.IsCell c v
 free:H X.env.locals=none
 freeC:∀x c,X.env.cells.lookup x=some c->H c=none
 pin:∀p∈X.pn++pins,s.heap.get? p.1=some p.2/\H p.1=none/\p.1≠X.env.locals/\p.1∉X.fs/\∀v,p.2.data≠.cell v
 hok:HOk X.prog X.w H s.heap
 len:σ.length=X.N.length
section
variable {X:Cx} {pins:List (Addr×Obj)} {σ:List (Option V)} {H H':Hp} {s:Shared} {h':Heap}
theorem Cx.Ok.nofr(ok:X.Ok){b:Addr}{o:Obj}(e:X.base.get? b=some o):b∉X.fs:=λhb=>by
 have:=(ok.funs.mem hb).1
 rw[e] at this;cases this
theorem Inv.bs(I:Inv X pins σ H s):∀b o,X.base.get? b=some o->s.heap.get? b=some o/\H b=none:=λb o e =>
 ⟨I.base.keep b o (I.ok.bs b o e).1 (I.ok.bs b o e).2 (I.ok.nofr e) (I.ok.noex b o e),I.base.free b o (I.ok.bs b o e).1 (I.ok.bs b o e).2 (I.ok.noex b o e)⟩
theorem Inv.bk(I:Inv X pins σ H s):∀b o,X.base.get? b=some o->s.heap.get? b=some o:=λb o e=>(I.bs b o e).1
theorem Inv.mod(I:Inv X pins σ H s):Mod X.K X.mg X.base:=I.ok.mod
theorem Inv.kIn(I:Inv X pins σ H s):X.K.In s.heap:=I.ok.mod.kin.keeps I.bk
theorem Inv.lt(I:Inv X pins σ H s):X.env.locals<s.heap.objs.size:=let ⟨_,hn,_⟩:=I.loc;hn.lt
theorem Inv.sz(I:Inv X pins σ H s):X.s₀.heap.objs.size<=s.heap.objs.size:=Nat.le_trans I.ok.above (Nat.le_of_lt I.lt)
theorem Inv.nofs(I:Inv X pins σ H s){a:Addr}(h:s.heap.objs.size<=a):a∉X.fs:=λhb=>by
 obtain⟨_,o,ho,_⟩:=I.ok.funs.mem hb
 exact absurd (Nat.lt_of_lt_of_le (Heap.lt_size ho) (Nat.le_trans I.sz h)) (Nat.lt_irrefl _)
theorem Inv.cne(I:Inv X pins σ H s):∀x c,X.env.cells.lookup x=some c->c≠X.env.locals:=λx c e z=>by
 obtain⟨v,o,ho,hd⟩:=I.cell x c e
 obtain⟨m,⟨o',es,ep,ho',hd',_⟩,_⟩:=I.loc
 rw[z,ho'] at ho;cases ho;rw[hd'] at hd;cases hd
theorem Inv.funs(I:Inv X pins σ H s):s.heap.FunFrames X.base X.outer:=by
 have all:∀(l:List Env),(∀b∈frs l,b∈X.fs)->X.s₀.heap.FunFrames X.base l->s.heap.FunFrames X.base l:=by
  intro l
  induction l with
 |nil=>intro _ _;trivial
 |cons env r ih =>
   intro hs hl
   obtain⟨hk,⟨L,o,hf,hn,ho,hd⟩,hr⟩:=hl
   have hL:L∈X.fs:=hs L (by unfold frs;rw[List.filterMap_cons,hf];exact List.mem_cons_self)
   obtain⟨sl,e⟩:=I.base.slot L o ho (I.ok.frf L hL) hL λz=>I.ok.exfs L z hL
   exact⟨hk,⟨L,_,hf,hn,e,hd⟩,ih (λb hb=>hs b (by unfold frs;rw[List.filterMap_cons,hf];exact List.mem_cons_of_mem _ hb)) hr⟩
 exact all X.outer (λ_ hb=>hb) I.ok.funs
theorem Inv.stack(I:Inv X pins σ H s):s.heap.FunFrames X.base X.stack:=by
 rcases I.ok.stk with e|⟨e,hf⟩
 ·rw[e];exact I.funs
 ·rw[e]
  obtain⟨m,hn,_⟩:=I.loc
  refine .cons (by rw[I.ok.kind];decide) hf hn ?_ I.funs
  exact Heap.get?_none_of_le (Nat.le_trans I.ok.bsz I.ok.above)
theorem Inv.stkSub(I:Inv X pins σ H s):∀b∈frs X.stack,b∈X.env.locals::X.fs:=λb hb=>by
 rcases I.ok.stk with e|⟨e,hf⟩
 ·rw[e] at hb;exact List.mem_cons_of_mem _ hb
 ·rw[e] at hb
  unfold frs at hb
  rw[List.filterMap_cons,hf] at hb
  exact hb
theorem Inv.stkFree(I:Inv X pins σ H s):∀b∈frs X.stack,H b=none:=λb hb=>by
 rcases List.mem_cons.mp (I.stkSub b hb) with e|hb
 ·rw[e];exact I.free
 ·obtain⟨_,o,ho,_⟩:=I.ok.funs.mem hb
  exact I.base.free b o ho (I.ok.frf b hb) λz=>I.ok.exfs b z hb
theorem Inv.step{g':Array GenState}{t':Nat}{d':Drawn}{ch:List Addr}(I:Inv X pins σ H s)
  (hch:∀b∈ch,(b∈X.ex\/X.s₀.heap.objs.size<=b)/\b≠X.env.locals/\(∀x c,X.env.cells.lookup x=some c->c≠b)/\∀p∈X.pn++pins,p.1≠b)
  (keep:∀b o,b≠X.env.locals->b∉X.fs->b∉ch->s.heap.get? b=some o->H b=none->h'.get? b=some o)
  (slot:∀b o,b≠X.env.locals->b∈X.fs->b∉ch->s.heap.get? b=some o->H b=none->∃sl,h'.get? b=some { o with slots:=sl }) (free:∀b o,b∉ch->s.heap.get? b=some o->H b=none->H' b=none)
  (there:∀b o,b∉ch->s.heap.get? b=some o->∃o',h'.get? b=some o')
  (tups:∀b xs,H b=some (.tup xs)->H' b=some (.tup xs)) (frzs:∀b o u,H b=some (.frz o u)->H' b=some (.frz o u)) (tbls:∀b ps,H b=some (.tbl ps)->∃more,H' b=some (.tbl (ps++more)))
  (ns:∀m,s.heap.Ns X.env.locals m->h'.Ns X.env.locals m) (hok:HOk X.prog X.w H' h') (hg:AllBare g') :
  Inv X pins σ H' { s with heap:=h',gens:=g',drawn:=d',toks:=t' }:=by
 have neL:∀b o,X.s₀.heap.get? b=some o->b≠X.env.locals:=λb o e=>Nat.ne_of_lt (Nat.lt_of_lt_of_le (Heap.lt_size e) I.ok.above)
 have neC:∀b o,X.s₀.heap.get? b=some o->b∉X.ex->b∉ch:=λb o e hx hb=>by
  rcases (hch b hb).1 with z|z
  ·exact hx z
  ·exact absurd (Nat.lt_of_lt_of_le (Heap.lt_size e) z) (Nat.lt_irrefl _)
 have cellK:∀x c,X.env.cells.lookup x=some c->∀v,s.heap.IsCell c v->h'.IsCell c v:=λx c e v ⟨o,ho,hd⟩=>by
  have nch:c∉ch:=λz=>(hch c z).2.2.1 x c e rfl
  by_cases hc:c∈X.fs
  ·obtain⟨sl,q⟩:=slot c o (I.cne x c e) hc nch ho (I.freeC x c e)
   exact⟨_,q,hd⟩
  ·exact⟨o,keep c o (I.cne x c e) hc nch ho (I.freeC x c e),hd⟩
 refine⟨I.ok,I.os,hg,⟨λb o e n hb hx=>?_,λb o e n hb hx=>?_,λb o e n hx=>?_,λb o e hx=>?_,λb xs e=>tups b xs (I.base.tups b xs e),λb o xs e=>frzs b o xs (I.base.frzs b o xs e),λb ps e=>?_⟩,?_,λx c e=>?_,?_,λx c e=>?_,λp hp=>?_,hok,I.len⟩
 ·exact keep b o (neL b o e) hb (neC b o e hx) (I.base.keep b o e n hb hx) (I.base.free b o e n hx)
 ·obtain⟨sl,e1⟩:=I.base.slot b o e n hb hx
  obtain⟨sl',e2⟩:=slot b _ (neL b o e) hb (neC b o e hx) e1 (I.base.free b o e n hx)
  exact⟨sl',e2⟩
 ·obtain⟨o',e1⟩:=I.base.there b o e hx
  exact free b o' (neC b o e hx) e1 (I.base.free b o e n hx)
 ·obtain⟨o',e1⟩:=I.base.there b o e hx
  exact there b o' (neC b o e hx) e1
 ·obtain⟨m1,e1⟩:=I.base.tbls b ps e
  obtain⟨m2,e2⟩:=tbls b _ e1
  exact⟨m1++m2,by rw[e2,Array.append_assoc]⟩
 ·obtain⟨m,hn,hl⟩:=I.loc
  refine⟨m,ns m hn,λi x v e1 e2 e3=>?_⟩
  obtain⟨u,r,l⟩:=hl i x v e1 e2 e3
  refine⟨u,r,?_⟩
  rcases l with l|⟨k,c,e,z⟩
  ·exact .inl l
  ·exact .inr ⟨k,c,e,cellK x c e _ z⟩
 ·obtain⟨v,z⟩:=I.cell x c e
  exact⟨v,cellK x c e v z⟩
 ·obtain⟨m,⟨o,_,_,ho,_⟩,_⟩:=I.loc
  exact free _ o (λz=>(hch _ z).2.1 rfl) ho I.free
 ·obtain⟨v,o,ho,hd⟩:=I.cell x c e
  exact free c o (λz=>(hch c z).2.2.1 x c e rfl) ho (I.freeC x c e)
 ·obtain⟨e,n,ne,nf,d⟩:=I.pin p hp
  have nch:p.1∉ch:=λz=>(hch p.1 z).2.2.2 p hp rfl
  exact⟨keep p.1 p.2 ne nf nch e n,free p.1 p.2 nch e n,ne,nf,d⟩
theorem Inv.un{t':Nat}(I:Inv X pins σ H s)(u:Un X.fs [] H H' s.heap h')(hok:HOk X.prog X.w H' h'):Inv X pins σ H' { s with heap:=h',toks:=t' }:=by
 obtain⟨m,⟨o,es,ep,ho,r⟩,_⟩:=id I.loc
 obtain⟨sl,hL⟩:=u.any ho I.free (by simp)
 exact I.step (g':=s.gens) (d':=s.drawn) (ch:=[]) (λ_ z=>nomatch z) (λb o _ hb _ e n=>u.keep b o e n hb (by simp)) (λb o _ hb _ e n=>u.slot b o e n hb (by simp)) (λb o _ e n=>u.free b o e n (by simp)) (λb o _ e=>u.there b o e (by simp)) u.tups u.frzs u.tbls (λm' hm=>by
  obtain⟨o',es',ep',ho',r'⟩:=hm
  rw[ho] at ho';cases ho'
  exact⟨_,es',ep',hL,r'⟩) hok I.bare
theorem Inv.call{g':Array GenState}{t':Nat}{d':Drawn}{ch:List Addr}(I:Inv X pins σ H s)(u:Un (frs X.stack) ch H H' s.heap h')(hok:HOk X.prog X.w H' h')(hg:AllBare g')
  (hch:∀b∈ch,(b∈X.ex\/X.s₀.heap.objs.size<=b)/\b≠X.env.locals/\(∀x c,X.env.cells.lookup x=some c->c≠b)/\∀p∈X.pn++pins,p.1≠b) :
  Inv X pins σ H' { s with heap:=h',gens:=g',drawn:=d',toks:=t' }:=by
 obtain⟨m,⟨o,es,ep,ho,r⟩,_⟩:=id I.loc
 obtain⟨sl,hL⟩:=u.any ho I.free λz=>(hch _ z).2.1 rfl
 exact I.step (ch:=ch) hch (λb o hL hb hc e n=>u.keep b o e n (λz=>(List.mem_cons.mp (I.stkSub b z)).elim hL hb) hc) (λb o _ _ hc e n=>u.any e n hc) (λb o hc e n=>u.free b o e n hc) (λb o hc e=>u.there b o e hc) u.tups u.frzs u.tbls (λm' hm=>by
  obtain⟨o',es',ep',ho',r'⟩:=hm
  rw[ho] at ho';cases ho'
  exact⟨_,es',ep',hL,r'⟩) hok hg
theorem Inv.turned{t':Nat}{it:Addr}(I:Inv X pins σ H s)(k:∀b o,b≠it->s.heap.get? b=some o->h'.get? b=some o)(hn:H it=none)(hL:it≠X.env.locals)
  (h1:it∈X.ex\/X.s₀.heap.objs.size<=it) (h2:∀x c,X.env.cells.lookup x=some c->c≠it) (h3:∀p∈X.pn++pins,p.1≠it):Inv X pins σ H { s with heap:=h',toks:=t' }:=by
 have nit:∀b u,H b=some u->b≠it:=λb u e z=>by rw[z,hn] at e;cases e
 refine I.step (g':=s.gens) (d':=s.drawn) (ch:=[it]) (λb hb=>?_) (λb o _ _ hc e _=>k b o (λz=>hc (by simp[z])) e) (λb o _ _ hc e _=>⟨o.slots,k b o (λz=>hc (by simp[z])) e⟩) (λ_ _ _ _ n=>n)
  (λb o hc e=>⟨o,k b o (λz=>hc (by simp[z])) e⟩) (λ_ _ e=>e) (λ_ _ _ e=>e) (λb ps e=>⟨#[],by rw[e];simp⟩) (λm hm=>?_) (λb u e=>?_) I.bare
 ·have e:b=it:=by simpa using hb
  subst e
  exact⟨h1,hL,h2,h3⟩
 ·obtain⟨o,es,ep,ho,r⟩:=hm
  exact⟨o,es,ep,k _ o (Ne.symm hL) ho,r⟩
 ·refine(I.hok b u e).stay (λc v hc q=>k c v ?_ q) (λ_ q=>q) λ_ _ q=>q
  rcases hc with z|z
  ·rw[z];exact nit b u e
  ·exact nit c _ z
theorem Inv.tok(I:Inv X pins σ H s)(t:Nat):Inv X pins σ H { s with toks:=t }:=I.un (h':=s.heap) (t':=t) Un.refl I.hok
theorem Inv.kept{t':Nat}(I:Inv X pins σ H s)(k:∀b u,s.heap.get? b=some u->h'.get? b=some u):Inv X pins σ H { s with heap:=h',toks:=t' }:=I.un (Un.kept k) (I.hok.kept k)
theorem Inv.laid{a:Addr}{o:HO}{t':Nat}(I:Inv X pins σ H s)(k:∀b u,s.heap.get? b=some u->h'.get? b=some u)(hp:s.heap.objs.size<=a)(new:ObjOk X.prog X.w (upd H a o) h' a o) :
  Inv X pins σ (upd H a o) { s with heap:=h',toks:=t' }:=I.un (Un.laid k hp (I.hok.fresh hp)) (I.hok.laid k hp new)
theorem Inv.write{x e:Addr}{o:HO}{t':Nat}(I:Inv X pins σ H s)(mu:Mut (H x))(he:e=x\/H e=some (.own x))(k:∀b u,b≠e->s.heap.get? b=some u->h'.get? b=some u)(heo:∃u,h'.get? e=some u)
  (new:ObjOk X.prog X.w (upd H x o) h' x o):Inv X pins σ (upd H x o) { s with heap:=h',toks:=t' }:=I.un (Un.write mu he k heo) (I.hok.write mu he k heo new)
theorem Inv.pins_of{pins':List (Addr×Obj)}(I:Inv X pins σ H s)(h:∀p∈pins',s.heap.get? p.1=some p.2/\H p.1=none/\p.1≠X.env.locals/\p.1∉X.fs/\∀v,p.2.data≠.cell v):Inv X pins' σ H s :=
 ⟨I.ok,I.os,I.bare,I.base,I.loc,I.cell,I.free,I.freeC,λp hp=>(List.mem_append.mp hp).elim (λz=>I.pin p (List.mem_append_left _ z)) (h p),I.hok,I.len⟩
theorem qow{N:List Str}(hN:N.Nodup){i j:Nat}{x:Str}(a:N[i]?=some x)(b:N[j]?=some x):i=j:=by
 obtain⟨h1,e1⟩:=List.getElem?_eq_some_iff.mp a
 obtain⟨h2,e2⟩:=List.getElem?_eq_some_iff.mp b
 exact(List.getElem_inj hN).mp (e1.trans e2.symm)
theorem qls{M:Model}{A:Around}{E:Value->Shared->Prop}{i:Nat}{x:Str}{v:V}{u:Value}{Q:Unit->Shared->Prop}(I:Inv X pins σ H s)(hN:X.N.Nodup)(hi:X.N[i]?=some x)(hx:Loc X.env.scope x)(r:RelV v u)
  (h:∀s',Inv X pins (σ.set i (some v)) H s'->(∃a,Heap.SameBut a s.heap s'.heap/\(a=X.env.locals\/X.env.cells.lookup x=some a))->Q () s') (hf:X.fn x=true\/X.env.scope.names.lookup x=some .local:=by first|exact .inl rfl|exact .inr rfl|assumption):wpAny M A (storeName X.env x u) Q E s:=by
 obtain⟨m,hn,hl⟩:=id I.loc
 have hcls:(X.env.scope.kind==.class||(X.env.scope.kind==.module&&X.env.locals != X.env.globals))=false:=by rw[I.ok.kind];rfl
 have hiσ:i<σ.length:=by rw[I.len];exact(List.getElem?_eq_some_iff.mp hi).1
 have cne:=I.cne
 have tracked:∀ {a:Addr} {h':Heap},(∃o,s.heap.get? a=some o/\H a=none)->Heap.SameBut a s.heap h'->HOk X.prog X.w H h':=λ{a h'} ha hs b ob e=>by
  obtain⟨_,_,hfree⟩:=ha
  refine(I.hok b ob e).stay (λc w' hc q=>(hs.2 c ?_).trans q) (λ_ q=>q) λ_ _ q=>q
  rintro rfl
  rcases hc with rfl|hc
  ·rw[hfree] at e;cases e
  ·rw[hfree] at hc;cases hc
 rcases hx with hk|hk
 ·refine wpAny_storeName_local hk hn (λh' hn' hs=>?_) hcls
  obtain⟨oL,_,_,hoL,_⟩:=id hn
  refine h _ ⟨I.ok,I.os,I.bare,⟨λb o e n hb hx=>?_,λb o e n hb hx=>?_,I.base.free,λb o e hx=>?_,I.base.tups,I.base.frzs,I.base.tbls⟩,⟨_,hn',λj y v' e1 e2 e3=>?_⟩,λy c e=>?_,I.free,I.freeC,λp hp=>?_,tracked ⟨oL,hoL,I.free⟩ hs,by simpa using I.len⟩ ⟨_,hs,.inl rfl⟩
  ·exact(hs.2 b (Nat.ne_of_lt (Nat.lt_of_lt_of_le (Heap.lt_size e) I.ok.above))).trans (I.base.keep b o e n hb hx)
  ·obtain⟨sl,e1⟩:=I.base.slot b o e n hb hx
   exact⟨sl,(hs.2 b (Nat.ne_of_lt (Nat.lt_of_lt_of_le (Heap.lt_size e) I.ok.above))).trans e1⟩
  ·obtain⟨o',e1⟩:=I.base.there b o e hx
   exact⟨o',(hs.2 b (Nat.ne_of_lt (Nat.lt_of_lt_of_le (Heap.lt_size e) I.ok.above))).trans e1⟩
  ·by_cases hj:j=i
   ·subst hj
    rw[hi] at e1;cases e1
    rw[List.getElem?_set_self hiσ] at e2
    cases e2
    exact⟨u,r,.inl ⟨hk,by simp⟩⟩
   ·rw[List.getElem?_set_ne (Ne.symm hj)] at e2
    obtain⟨u',r',q⟩:=hl j y v' e1 e2 e3
    refine⟨u',r',?_⟩
    rcases q with ⟨k,e⟩|⟨k,c,e,z⟩
    ·refine .inl ⟨k,?_⟩
     have:y≠x:=λe=>hj (qow hN e1 (e▸hi))
     simp[this,e]
    ·exact .inr ⟨k,c,e,z.sameBut hs (cne y c e)⟩
  ·obtain⟨w',z⟩:=I.cell y c e
   exact⟨w',z.sameBut hs (cne y c e)⟩
  ·obtain⟨e,n,ne,nf,d⟩:=I.pin p hp
   exact⟨(hs.2 p.1 ne).trans e,n,ne,nf,d⟩
 ·have hfn:X.fn x=true:=by
   rcases hf with z|z
   ·exact z
   ·rw[z] at hk;cases hk
  obtain⟨c,hc⟩:=I.ok.has x (.inl hk)
  obtain⟨w',z⟩:=I.cell x c hc
  refine wpAny_storeName_cell I.ok.kind hk hc z (λh' hc' hs=>?_)
  obtain⟨oc,hoc,hocd⟩:=id z
  refine h { s with heap:=h' } ⟨I.ok,I.os,I.bare,⟨λb o e n hb hx=>?_,λb o e n hb hx=>?_,I.base.free,λb o e hx=>?_,I.base.tups,I.base.frzs,I.base.tbls⟩,⟨m,hn.sameBut hs (Ne.symm (cne x c hc)),λj y v' e1 e2 e3=>?_⟩,λy c' e=>?_,I.free,I.freeC,λp hp=>?_,tracked ⟨oc,hoc,I.freeC x c hc⟩ hs,by simpa using I.len⟩ ⟨c,hs,.inr hc⟩
  ·exact(hs.2 b (Nat.ne_of_lt (Nat.lt_of_lt_of_le (Heap.lt_size e) (I.ok.cab x c hfn hc)))).trans (I.base.keep b o e n hb hx)
  ·obtain⟨sl,e1⟩:=I.base.slot b o e n hb hx
   exact⟨sl,(hs.2 b (Nat.ne_of_lt (Nat.lt_of_lt_of_le (Heap.lt_size e) (I.ok.cab x c hfn hc)))).trans e1⟩
  ·obtain⟨o',e1⟩:=I.base.there b o e hx
   exact⟨o',(hs.2 b (Nat.ne_of_lt (Nat.lt_of_lt_of_le (Heap.lt_size e) (I.ok.cab x c hfn hc)))).trans e1⟩
  ·by_cases hj:j=i
   ·subst hj
    rw[hi] at e1;cases e1
    rw[List.getElem?_set_self hiσ] at e2
    cases e2
    exact⟨u,r,.inr ⟨.inl hk,c,hc,hc'⟩⟩
   ·rw[List.getElem?_set_ne (Ne.symm hj)] at e2
    obtain⟨u',r',q⟩:=hl j y v' e1 e2 e3
    refine⟨u',r',?_⟩
    rcases q with q|⟨k,c',e,z'⟩
    ·exact .inl q
    ·refine .inr ⟨k,c',e,z'.sameBut hs ?_⟩
     rintro rfl
     exact hj (qow hN e1 (I.ok.inj _ _ _ e hc▸hi))
  ·by_cases hcc:c'=c
   ·subst hcc;exact⟨_,hc'⟩
   ·obtain⟨w2,z2⟩:=I.cell y c' e
    exact⟨w2,z2.sameBut hs hcc⟩
  ·obtain⟨e,n,ne,nf,d⟩:=I.pin p hp
   refine⟨(hs.2 p.1 ?_).trans e,n,ne,nf,d⟩
   intro q
   rw[q,hoc] at e
   have q':oc=p.2:=Option.some.inj e
   exact d w' (by rw[←q'];exact hocd)
theorem qo5{M:Model}{A:Around}{E:Value->Shared->Prop}{i:Nat}{x:Str}{v:V}{u:Value}{Q:Unit->Shared->Prop}(I:Inv X pins σ H s)(hN:X.N.Nodup)(hi:X.N[i]?=some x)(hx:Loc X.env.scope x)(r:RelV v u)
  (h:∀s',Inv X pins (σ.set i (some v)) H s'->Q () s') (hf:X.fn x=true\/X.env.scope.names.lookup x=some .local:=by first|exact .inl rfl|exact .inr rfl|assumption):wpAny M A (storeName X.env x u) Q E s :=
 qls I hN hi hx r (λs' I' _=>h s' I') hf
theorem Inv.call'{s':Shared}{ch:List Addr}(I:Inv X pins σ H s)(ho:s'.os=s.os)(u:Un (frs X.stack) ch H H' s.heap s'.heap)(hok:HOk X.prog X.w H' s'.heap)(hg:AllBare s'.gens)
  (hch:∀b∈ch,(b∈X.ex\/X.s₀.heap.objs.size<=b)/\b≠X.env.locals/\(∀x c,X.env.cells.lookup x=some c->c≠b)/\∀p∈X.pn++pins,p.1≠b):Inv X pins σ H' s':=by
 obtain⟨h',g',d',t',o'⟩:=s'
 have e:o'=s.os:=ho
 subst e
 exact I.call (g':=g') (t':=t') (d':=d') u hok hg hch
end
abbrev XK:=Value->Option Addr->Hp->Prop
abbrev St:=List (Option V)
abbrev VK:=V->Hp->Prop
abbrev TE:=St->Hp->VK->Prop
abbrev TT:=St->Hp->(Bool->Hp->Prop)->Prop
abbrev TA:=St->Hp->(List V->Hp->Prop)->Prop
structure Ends where
 nx:St->Hp->Prop
 rt:VK
 bk:St->Hp->Prop:=λ_ _=>False
 ct:St->Hp->Prop:=λ_ _=>False
abbrev TS:=Ends->St->Hp->Prop
def EP(X:Cx)(pins:List (Addr×Obj))(σ:St)(Q:VK)(u:Value)(s':Shared):Prop:=∃v H',Inv X pins σ H' s'/\RelV v u/\Q v H'
def TP(X:Cx)(pins:List (Addr×Obj))(σ:St)(Q:Bool->Hp->Prop)(b:Bool)(s':Shared):Prop:=∃H',Inv X pins σ H' s'/\Q b H'
def AP(X:Cx)(pins:List (Addr×Obj))(σ:St)(Q:List V->Hp->Prop)(us:List Value)(s':Shared):Prop:=∃vs H',Inv X pins σ H' s'/\Vals vs us/\Q vs H'
def SP(X:Cx)(pins:List (Addr×Obj))(D:Ends)(f:Flow)(s':Shared):Prop :=
 match f with
|.next=>∃σ' H',Inv X pins σ' H' s'/\D.nx σ' H'
|.brk=>∃σ' H',Inv X pins σ' H' s'/\D.bk σ' H'
|.cont=>∃σ' H',Inv X pins σ' H' s'/\D.ct σ' H'
|.ret u=>∃v σ' H',Inv X pins σ' H' s'/\RelV v u/\D.rt v H'
def PE(X:Cx)(e:Expr)(t:TE):Prop :=
 ∀(pins:List (Addr×Obj)) (s:Shared) (σ:St) (H:Hp) (Q:VK),Inv X pins σ H s->t σ H Q->wpAny (model X.prog X.w) X.A (eval e X.env) (EP X pins σ Q) X.xe s
def PT(X:Cx)(e:Expr)(t:TT):Prop :=
 ∀(pins:List (Addr×Obj)) (s:Shared) (σ:St) (H:Hp) (Q:Bool->Hp->Prop),Inv X pins σ H s->t σ H Q->wpAny (model X.prog X.w) X.A (isTrue e X.env (eval e X.env)) (TP X pins σ Q) X.xe s
def PW(X:Cx)(e:Expr)(t:TT):Prop :=
 ∀(whole:Sem Value) (pins:List (Addr×Obj)) (s:Shared) (σ:St) (H:Hp) (Q:Bool->Hp->Prop),Inv X pins σ H s->t σ H Q->wpAny (model X.prog X.w) X.A (isTrue e X.env whole) (TP X pins σ Q) X.xe s
theorem PW.pt{X:Cx}{e:Expr}{t:TT}(h:PW X e t):PT X e t:=h _
def PA(X:Cx)(es:List Expr)(t:TA):Prop :=
 ∀(pos:Pos) (pins:List (Addr×Obj)) (s:Shared) (σ:St) (H:Hp) (Q:List V->Hp->Prop),Inv X pins σ H s->t σ H Q->wpAny (model X.prog X.w) X.A (spliced (backTo pos (starEach es X.env))) (AP X pins σ Q) X.xe s
def PS(X:Cx)(st:Stmt)(t:TS):Prop :=
 ∀(pins:List (Addr×Obj)) (s:Shared) (σ:St) (H:Hp) (D:Ends),Inv X pins σ H s->t D σ H->wpAny (model X.prog X.w) X.A (exec st X.env) (SP X pins D) X.xe s
def PSs(X:Cx)(st:List Stmt)(t:TS):Prop :=
 ∀(pins:List (Addr×Obj)) (s:Shared) (σ:St) (H:Hp) (D:Ends),Inv X pins σ H s->t D σ H->wpAny (model X.prog X.w) X.A (execs st X.env) (SP X pins D) X.xe s
theorem thn{α:Type}{t:Sem α}{Q Q':α->Shared->Prop}{M:Model}{A:Around}{E:Value->Shared->Prop}{s:Shared}(h:wpAny M A t Q E s)(hQ:∀a s,Q a s->Q' a s):wpAny M A t Q' E s:=wpAny_mono h hQ λ_ _ x=>x
end L2
namespace L2
open PySem PySem.Spec PyProof.Rows
section
variable {X:Cx}
def tVar(i:Nat):TE:=λσ H Q=>∃v,σ[i]?=some (some v)/\Q v H
def tC(v:V):TE:=λ_ H Q=>Q v H
theorem qxp{i:Nat}{x:Str}{pos:Pos}(hN:X.N[i]?=some x)(hv:Vis X.env.scope x)(hd:(x==("__debug__" : Str))=false:=by decide)(hcd:(x==("__classdict__" : Str))=false:=by decide):PE X (.Name x pos) (tVar i):=by
 intro pins s σ H Q I h
 obtain⟨v,e,h⟩:=h
 obtain⟨m,hn,hl⟩:=I.loc
 obtain⟨u,r,l⟩:=hl i x v hN e hv
 have fin:EP X pins σ Q u s:=⟨v,H,I,r,h⟩
 rcases l with ⟨hk,hm⟩|⟨hk,c,hc,hcell⟩
 ·exact wpAny_Name (wpAny_loadName_local I.ok.kind hk hn hm fin) hd
 ·rcases hk with hk|hk
  ·exact wpAny_Name (wpAny_loadName_cell I.ok.kind hk hc hcell fin) hd
  ·exact wpAny_Name (wpAny_loadName_free I.ok.kind hk hc hcell fin hcd) hd
theorem q2z{i j pos}:PE X (.Constant (.int i) j pos) (tC (.int i)):=λ_ _ _ H _ I h=>wpAny_Constant_int ⟨.int i,H,I.tok _,⟨_,rfl⟩,h⟩
theorem q46{b j pos}:PE X (.Constant (.bool b) j pos) (tC (.bl b)):=λ_ _ _ H _ I h=>Constant_bool ⟨.bl b,H,I,rfl,h⟩
theorem q21{j pos}:PE X (.Constant .none j pos) (tC .non):=λ_ _ _ H _ I h=>Constant_none ⟨.non,H,I,rfl,h⟩
theorem q23{x j pos}:PE X (.Constant (.str x) j pos) (tC (.str x)):=λ_ _ _ H _ I h=>Calls.Constant_str ⟨.str x,H,I.tok _,⟨_,rfl⟩,h⟩
def Gl(X:Cx)(x:Str):Prop:=X.env.kindOf x=some .globalImplicit
theorem qy8{E:Value->Shared->Prop}{pins:List (Addr×Obj)}{s:Shared}{σ:St}{H:Hp}{x:Str}{u:Value}{pos:Pos}{Q:Value->Shared->Prop}(I:Inv X pins σ H s)(hg:Gl X x)(hm:X.mg x=some u)(h:Q u s)
  (hd:(x==("__debug__" : Str))=false:=by decide):wpAny (model X.prog X.w) X.A (eval (.Name x pos) X.env) Q E s :=
 Calls.Name_function_global I.ok.kind hg (Calls.loadGlobal_global (by rw[I.ok.glob];exact I.mod.glob.keeps I.bk) hm h) hd
theorem qio{E:Value->Shared->Prop}{pins:List (Addr×Obj)}{s:Shared}{σ:St}{H:Hp}{x:Str}{u:Value}{pos:Pos}{Q:Value->Shared->Prop}(I:Inv X pins σ H s)(hg:Gl X x)(hm:X.mg x=none)(hv:bootBuiltins x=some u)(h:Q u s)
  (hn:x≠"__name__" := by decide) (hd:(x==("__debug__" : Str))=false:=by decide):wpAny (model X.prog X.w) X.A (eval (.Name x pos) X.env) Q E s:=by
 obtain⟨mb,h1,h2⟩:=I.mod.blt
 exact Calls.Name_function_global I.ok.kind hg (Calls.loadGlobal_builtin (by rw[I.ok.glob];exact I.mod.glob.keeps I.bk) hm (by rw[I.ok.blt];exact h1.keeps I.bk) ((h2 x hn).trans hv) h) hd
theorem qzp{x:Str}{v:V}{u:Value}{pos:Pos}(hg:Gl X x)(hm:X.mg x=none)(hv:bootBuiltins x=some u)(r:RelV v u)(hn:x≠"__name__" := by decide)(hd:(x==("__debug__" : Str))=false:=by decide):PE X (.Name x pos) (tC v) :=
 λ_ _ _ H _ I h=>qio I hg hm hv ⟨v,H,I,r,h⟩ hn hd
variable {a b:Expr} {ta tb:TE} {pos:Pos}
def PC(X:Cx)(op:CmpOp)(a b:Expr)(t:TE):Prop :=
 ∀(pins:List (Addr×Obj)) (s:Shared) (σ:St) (H:Hp) (Q:VK),Inv X pins σ H s->t σ H Q ->
  wpAny (model X.prog X.w) X.A (eval a X.env) (λv s₁=>wpAny (model X.prog X.w) X.A (eval b X.env) (λu s₂=>wpAny (model X.prog X.w) X.A (compareOp op v u) (EP X pins σ Q) X.xe s₂) X.xe s₁) X.xe s
theorem qov(b:Expr){op:CmpOp}(h:op≠.In)(h2:op≠.NotIn):behindInMarks op b=false:=by
 have e1:(op==CmpOp.In)=false:=by cases op<;>first|rfl|exact absurd rfl h
 have e2:(op==CmpOp.NotIn)=false:=by cases op<;>first|rfl|exact absurd rfl h2
 cases b<;>simp[behindInMarks,e1,e2]
def tB(t:TE):TT:=λσ H Q=>t σ H λx H1=>∃c,x=.bl c/\Q c H1
theorem q2y{op:CmpOp}{t:TE}(h:PC X op a b t)(h1:behindInMarks op b=false:=by first|exact qov _ (by decide) (by decide)|rfl):PE X (.Compare a [op] [b] pos) t:=λpins s σ H Q I hw=>wpAny_Compare1 (h pins s σ H Q I hw) h1
theorem qxr{op:CmpOp}{t:TE}(h:PC X op a b t)(h1:behindInMarks op b=false:=by first|exact qov _ (by decide) (by decide)|rfl):PT X (.Compare a [op] [b] pos) (tB t):=by
 intro pins s σ H Q I hw
 refine wpAny_isTrue_Compare1 (thn (h pins s σ H _ I hw) λv s1 h1=>thn h1 λu s2 h2=>thn h2 λc s3 ⟨x,H1,I1,r1,q1⟩=>?_) h1
 obtain⟨d,rfl,q⟩:=q1
 cases r1
 exact wpAny_truthy_bool ⟨H1,I1,q⟩
theorem q3d{e:Expr}{t:TE}(h:PE X e t)(he:∀whole,isTrue e X.env whole=(do let v ←whole;standAt e.pos;holding [v] (truthy v)):=by intro _;rfl):PT X e (tB t):=by
 intro pins s σ H Q I hw
 refine isTrue_plain (thn (h pins s σ H _ I hw) λv s1 ⟨x,H1,I1,r1,q1⟩=>?_) (he _)
 obtain⟨d,rfl,q⟩:=q1
 cases r1
 exact wpAny_truthy_bool ⟨H1,I1,q⟩
variable {tA tB':TT} {rest:List Expr}
def tAnd(t u:TT):TT:=λσ H Q=>t σ H λc H1=>if c=true then u σ H1 Q else Q false H1
def tOr(t u:TT):TT:=λσ H Q=>t σ H λc H1=>if c=true then Q true H1 else u σ H1 Q
def tNot(t:TT):TT:=λσ H Q=>t σ H λc H1=>Q (!c) H1
theorem q0c(ha:PT X a tA):PW X (.BoolOp .And [a] pos) tA:=by
 intro wh pins s σ H Q I h
 refine isTrue_and (thn (ha pins s σ H Q I h) λc s1 e=>?_)
 cases c with
|true=>exact isTrue_and_nil e
|false=>exact e
theorem q3f(ha:PT X a tA):PW X (.BoolOp .Or [a] pos) tA:=by
 intro wh pins s σ H Q I h
 refine isTrue_or (thn (ha pins s σ H Q I h) λc s1 e=>?_)
 cases c with
|false=>exact isTrue_or_nil e
|true=>exact e
theorem q3e(ha:PT X a tA)(hb:PW X (.BoolOp .And (b::rest) pos) tB'):PW X (.BoolOp .And (a::b::rest) pos) (tAnd tA tB'):=by
 intro wh pins s σ H Q I h
 refine isTrue_and (thn (ha pins s σ H _ I h) λc s1 ⟨H1,I1,q1⟩=>?_)
 cases c with
|true=>exact hb wh pins s1 σ H1 Q I1 q1
|false=>exact⟨H1,I1,q1⟩
theorem q5d(ha:PT X a tA)(hb:PW X (.BoolOp .Or (b::rest) pos) tB'):PW X (.BoolOp .Or (a::b::rest) pos) (tOr tA tB'):=by
 intro wh pins s σ H Q I h
 refine isTrue_or (thn (ha pins s σ H _ I h) λc s1 ⟨H1,I1,q1⟩=>?_)
 cases c with
|true=>exact⟨H1,I1,q1⟩
|false=>exact hb wh pins s1 σ H1 Q I1 q1
theorem q3c(ha:PT X a tA):PT X (.UnaryOp .Not a pos) (tNot tA):=by
 intro pins s σ H Q I h
 exact isTrue_not (ha pins s σ H (λc H1=>Q (!c) H1) I h)
def q35(ta tb:TE):TE:=λσ H Q=>ta σ H λx H1=>∃c,x=.bl c/\if c=true then tb σ H1 Q else Q (.bl false) H1
theorem q22{op}{t:TE}(h:PE X a t):PE X (.BoolOp op [a] pos) t:=λpins s σ H Q I hw=>BoolOp_one (h pins s σ H Q I hw)
theorem q2w(ha:PE X a ta)(hb:PE X (.BoolOp .And (b::rest) pos) tb):PE X (.BoolOp .And (a::b::rest) pos) (q35 ta tb):=by
 intro pins s σ H Q I h
 refine BoolOp_and (thn (ha pins s σ H _ I h) λv s1 ⟨x,H1,I1,r1,q1⟩=>?_)
 obtain⟨c,rfl,q1⟩:=q1
 cases r1
 refine wpAny_truthy_bool ?_
 cases c with
|true=>exact hb pins s1 σ H1 Q I1 q1
|false=>exact⟨.bl false,H1,I1,rfl,q1⟩
def tIf(t:TT)(ta tb:TE):TE:=λσ H Q=>t σ H λc H1=>if c=true then ta σ H1 Q else tb σ H1 Q
theorem qvv{c:Expr}(hc:PT X c tA)(ha:PE X a ta)(hb:PE X b tb):PE X (.IfExp c a b pos) (tIf tA ta tb):=by
 intro pins s σ H Q I h
 refine wpAny_IfExp (thn (hc pins s σ H _ I h) λd s1 ⟨H1,I1,q1⟩=>?_)
 cases d with
|true=>exact ha pins s1 σ H1 Q I1 q1
|false=>exact hb pins s1 σ H1 Q I1 q1
end
end L2
namespace L2
open PySem PySem.Spec PyProof.Rows
def SqL(K:PySem.W.Frag)(H:Hp)(a:Addr)(xs:List V):Prop :=
 Rd H a (.lst xs) \/
  ∃(o:Obj) (its:Array Value) (n:Nat),K.lookup a=some o/\o.cls=.type "list" /\ o.dict=none/\o.data=.seq its n/\its.size<=sizeLine/\Vals xs its.toList
def SqT(K:PySem.W.Frag)(H:Hp)(a:Addr)(xs:List V):Prop :=
 Rd H a (.tup xs) \/
  ∃(o:Obj) (its:Array Value) (n:Nat),K.lookup a=some o/\o.cls=.type "tuple" /\ o.data=.seq its n/\its.size<=sizeLine/\Vals xs its.toList
def absV:Value->Option V
|.none=>some .non
|.bool b=>some (.bl b)
|.int i _=>some (.int i)
|.str x _=>some (.str x)
|.bytes b _=>some (.byt b)
|.float b _=>some (.flt b)
|.ref a=>some (.ref a)
|.type n=>some (.ty n)
|_=>none
theorem RelV.abs{x:V}{u:Value}(r:RelV x u):absV u=some x:=by
 cases x with
|non=>cases r;rfl
|bl _=>cases r;rfl
|int _=>obtain⟨t,rfl⟩:=r;rfl
|str _=>obtain⟨t,rfl⟩:=r;rfl
|byt _=>obtain⟨t,rfl⟩:=r;rfl
|flt _=>obtain⟨t,rfl⟩:=r;rfl
|ref _=>cases r;rfl
|ty _=>cases r;rfl
theorem RelV.inj{x y:V}{u:Value}(r:RelV x u)(q:RelV y u):x=y:=Option.some.inj (r.abs.symm.trans q.abs)
theorem Vals.inj:∀ {xs ys:List V} {us:List Value},Vals xs us->Vals ys us->xs=ys
|_,_,_,.nil,.nil=>rfl
|_,_,_,.cons r t,.cons r' t'=>by rw[r.inj r',Vals.inj t t']
section
variable {X:Cx} {pins:List (Addr×Obj)} {σ:St} {H:Hp} {s:Shared} {a:Addr} {xs ys:List V}
theorem SqL.of{K:PySem.W.Frag}(h:H a=some (.lst xs)):SqL K H a xs:=.inl (.inl h)
theorem SqT.of{K:PySem.W.Frag}(h:H a=some (.tup xs)):SqT K H a xs:=.inl (.inl h)
theorem Inv.list(I:Inv X pins σ H s)(h:SqL X.K H a xs):∃its:List Value,Vals xs its/\PlainL s.heap a its.toArray/\xs.length<=sizeLine:=by
 rcases h with h|⟨o,its,n,hk,hc,hd,hs,hz,r⟩
 ·obtain⟨z,its,n,r,e⟩:=h.ok I.hok
  exact⟨its,r,⟨_,n,e,rfl,rfl,rfl⟩,z⟩
 ·refine⟨its.toList,r,⟨o,n,I.kIn a o hk,hc,hd,by simpa using hs⟩,?_⟩
  have e:=r.length
  simp only[Array.length_toList] at e
  lia
theorem Inv.tuple(I:Inv X pins σ H s)(h:SqT X.K H a xs):∃its:List Value,Vals xs its/\IsTup s.heap a its.toArray/\xs.length<=sizeLine:=by
 rcases h with h|⟨o,its,n,hk,hc,hs,hz,r⟩
 ·obtain⟨z,its,r,p⟩:=h.ok I.hok
  exact⟨its,r,p,z⟩
 ·refine⟨its.toList,r,⟨o,I.kIn a o hk,hc,n,by simpa using hs⟩,?_⟩
  have e:=r.length
  simp only[Array.length_toList] at e
  lia
theorem Inv.list_inj(I:Inv X pins σ H s)(h:SqL X.K H a xs)(h':SqL X.K H a ys):xs=ys:=by
 obtain⟨its,r,⟨o,n,e,_,_,d⟩,_⟩:=I.list h
 obtain⟨its',r',⟨o',n',e',_,_,d'⟩,_⟩:=I.list h'
 rw[e] at e';cases e'
 rw[d] at d'
 injection d' with d1 _
 have:its=its':=by simpa using congrArg Array.toList d1
 subst this
 exact r.inj r'
theorem Inv.tuple_inj(I:Inv X pins σ H s)(h:SqT X.K H a xs)(h':SqT X.K H a ys):xs=ys:=by
 obtain⟨its,r,⟨o,e,_,n,d⟩,_⟩:=I.tuple h
 obtain⟨its',r',⟨o',e',_,n',d'⟩,_⟩:=I.tuple h'
 rw[e] at e';cases e'
 rw[d] at d'
 injection d' with d1 _
 have:its=its':=by simpa using congrArg Array.toList d1
 subst this
 exact r.inj r'
end
abbrev Cx.wish(X:Cx)(E:Value->Shared->Prop):Cx:={ X with xe:=E }
abbrev Cx.nox(X:Cx):Cx:=X.wish λ_ _=>False
theorem Cx.Ok.wish{X:Cx}(ok:X.Ok)(E:Value->Shared->Prop):(X.wish E).Ok :=
 ⟨ok.mod,ok.kind,ok.glob,ok.blt,ok.above,ok.inj,ok.has,ok.cab,ok.hd,ok.frames,ok.stk,ok.exf,ok.bs,ok.bsz,ok.noex,ok.exfs,ok.funs,ok.frf⟩
theorem Cx.Ok.unwish{X:Cx}{E:Value->Shared->Prop}(ok:(X.wish E).Ok):X.Ok :=
 ⟨ok.mod,ok.kind,ok.glob,ok.blt,ok.above,ok.inj,ok.has,ok.cab,ok.hd,ok.frames,ok.stk,ok.exf,ok.bs,ok.bsz,ok.noex,ok.exfs,ok.funs,ok.frf⟩
section
variable {X:Cx} {pins:List (Addr×Obj)} {σ:St} {H:Hp} {s:Shared} {E:Value->Shared->Prop}
theorem Inv.wish(I:Inv X pins σ H s)(E:Value->Shared->Prop):Inv (X.wish E) pins σ H s:=⟨I.ok.wish E,I.os,I.bare,I.base,I.loc,I.cell,I.free,I.freeC,I.pin,I.hok,I.len⟩
theorem Inv.unwish(I:Inv (X.wish E) pins σ H s):Inv X pins σ H s:=⟨I.ok.unwish,I.os,I.bare,I.base,I.loc,I.cell,I.free,I.freeC,I.pin,I.hok,I.len⟩
theorem SP.unwish{D:Ends}{f:Flow}{s':Shared}(h:SP (X.wish E) pins D f s'):SP X pins D f s':=by
 cases f with
|next=>obtain⟨σ',H',I,q⟩:=h;exact⟨σ',H',I.unwish,q⟩
|brk=>obtain⟨σ',H',I,q⟩:=h;exact⟨σ',H',I.unwish,q⟩
|cont=>obtain⟨σ',H',I,q⟩:=h;exact⟨σ',H',I.unwish,q⟩
|ret u=>obtain⟨v,σ',H',I,r,q⟩:=h;exact⟨v,σ',H',I.unwish,r,q⟩
theorem PSs.nox{st:List Stmt}{t:TS}(h:PSs X.nox st t):PSs X st t:=λpins s σ H D I hw =>
 wpAny_mono (h pins s σ H D (I.wish _) hw) (λ_ _ q=>q.unwish) λ_ _ z=>False.elim z
end
section
variable {X:Cx} {st:Stmt} {rest:List Stmt} {t u:TS} {e:Expr} {te:TE} {pos:Pos}
def q4a:TS:=λD σ H=>D.nx σ H
def tSeq(t u:TS):TS:=λD σ H=>t { D with nx:=u D } σ H
theorem qz6:PSs X [] q4a:=λ_ _ σ H _ I h=>wpAny_execs_nil ⟨σ,H,I,h⟩
theorem qv1(h1:PS X st t)(h2:PSs X rest u):PSs X (st::rest) (tSeq t u):=by
 intro pins s σ H D I h
 refine wpAny_execs_cons (thn (h1 pins s σ H { D with nx:=u D } I h) λf s1 q=>?_)
 cases f with
|next =>
  obtain⟨σ',H',I',q⟩:=q
  exact h2 pins s1 σ' H' D I' q
|ret v=>exact q
|brk=>exact q
|cont=>exact q
theorem qz7(h1:PS X st t):PSs X [st] t:=by
 intro pins s σ H D I h
 refine wpAny_execs_cons (thn (h1 pins s σ H D I h) λf s1 q=>?_)
 cases f with
|next=>exact wpAny_execs_nil q
|ret v=>exact q
|brk=>exact q
|cont=>exact q
theorem Inv.quiet{pins:List (Addr×Obj)}{σ:St}{H:Hp}{s:Shared}(I:Inv X pins σ H s):interactive X.env=false:=by simp[interactive,I.ok.kind]
def q38(te:TE):TS:=λD σ H=>te σ H λ_ H1=>D.nx σ H1
theorem qz4(he:PE X e te)(hs:swapsWith e none pos.line X.env=pure false:=by rfl):PS X (.Expr e pos) (q38 te):=by
 intro pins s σ H D I h
 exact wpAny_Expr_any (thn (he pins s σ H _ I h) λv s1 ⟨x,H1,I1,r1,q1⟩=>⟨σ,H1,I1,q1⟩) I.quiet hs
def tRet(te:TE):TS:=λD σ H=>te σ H D.rt
theorem q3a(he:PE X e te):PS X (.Return (some e) pos) (tRet te):=by
 intro pins s σ H D I h
 exact wpAny_Return_some (thn (he pins s σ H _ I h) λv s1 ⟨x,H1,I1,r1,q1⟩=>⟨x,σ,H1,I1,r1,q1⟩)
def tIfS(c:TT)(t u:TS):TS:=λD σ H=>c σ H λb H1=>if b=true then t D σ H1 else u D σ H1
theorem q5c{c:Expr}{a b:List Stmt}{tc:TT}(hc:PT X c tc)(ha:PSs X a t)(hb:PSs X b u):PS X (.If c a b pos) (tIfS tc t u):=by
 intro pins s σ H D I h
 refine wpAny_If (thn (hc pins s σ H _ I h) λd s1 ⟨H1,I1,q1⟩=>?_)
 cases d with
|true=>exact ha pins s1 σ H1 D I1 q1
|false=>exact hb pins s1 σ H1 D I1 q1
end
abbrev TG:=V->St->Hp->(St->Hp->Prop)->Prop
abbrev TGs:=List V->St->Hp->(St->Hp->Prop)->Prop
def PG(X:Cx)(target:Expr)(t:TG):Prop :=
 ∀(pins:List (Addr×Obj)) (s:Shared) (σ:St) (H:Hp) (v:V) (u:Value) (Q:St->Hp->Prop),Inv X pins σ H s->RelV v u->t v σ H Q ->
  wpAny (model X.prog X.w) X.A (assign target X.env u) (λ_ s'=>∃σ' H',Inv X pins σ' H' s'/\Q σ' H') X.xe s
def PGs(X:Cx)(ts:List Expr)(t:TGs):Prop :=
 ∀(pins:List (Addr×Obj)) (s:Shared) (σ:St) (H:Hp) (vs:List V) (us:List Value) (Q:St->Hp->Prop),Inv X pins σ H s->Vals vs us->t vs σ H Q ->
  wpAny (model X.prog X.w) X.A (assignInOrder ((assignEach ts X.env).map (·.2)) us) (λ_ s'=>∃σ' H',Inv X pins σ' H' s'/\Q σ' H') X.xe s
section
variable {X:Cx} {pos:Pos}
def qk0(i:Nat):TG:=λv σ H Q=>Q (σ.set i (some v)) H
theorem qzv{i:Nat}{x:Str}(hN:X.N.Nodup)(hi:X.N[i]?=some x)(hx:Loc X.env.scope x)(hf:X.fn x=true\/X.env.scope.names.lookup x=some .local:=by first|exact .inl rfl|exact .inr rfl|assumption):PG X (.Name x pos) (qk0 i):=by
 intro pins s σ H v u Q I r h
 exact wpAny_assign_Name (qo5 I hN hi hx r (λs' I'=>⟨_,H,I',h⟩) hf)
def gNil:TGs:=λvs σ H Q=>vs=[]/\Q σ H
def q16(t:TG)(u:TGs):TGs:=λvs σ H Q=>∃v r,vs=v::r/\t v σ H λσ' H'=>u r σ' H' Q
theorem qzw:PGs X [] gNil:=by
 intro pins s σ H vs us Q I r h
 obtain⟨e,h⟩:=h
 subst e
 cases r
 exact assignInOrder_nil ⟨σ,H,I,h⟩
theorem qvz{e:Expr}{es:List Expr}{t:TG}{u:TGs}(h1:PG X e t)(h2:PGs X es u)
  (hs:(assignEach (e::es) X.env).map (·.2)=assign e X.env::(assignEach es X.env).map (·.2):=by rfl):PGs X (e::es) (q16 t u):=by
 intro pins s σ H vs us Q I r h
 obtain⟨v,vr,e1,h⟩:=h
 subst e1
 cases r with
|cons r rr =>
  rw[hs]
  refine assignInOrder_cons (thn (h1 pins s σ H _ _ _ I r h) λ_ s1 ⟨σ1,H1,I1,q1⟩=>?_)
  exact h2 pins s1 σ1 H1 _ _ Q I1 rr q1
def gTup(K:PySem.W.Frag)(n:Nat)(t:TGs):TG:=λv σ H Q=>∃a xs,v=.ref a/\SqT K H a xs/\xs.length=n/\t xs σ H Q
theorem q25{es:List Expr}{k:Nat}{t:TGs}{n:Nat}(hc:X.calm=true)(h:PGs X es t)
  (hn:(assignEach es X.env).length=n:=by rfl) (hst:(assignEach es X.env).findIdx? (·.1)=none:=by rfl):PG X (.Tuple es k pos) (gTup X.K n t):=by
 intro pins s σ H v u Q I r hw
 obtain⟨a,xs,e1,hq,hl,hw⟩:=hw
 subst e1
 cases r
 obtain⟨its,rv,ht,hz⟩:=I.tuple hq
 refine assign_Tuple_tuple (I.ok.hd hc) ht (by simp[hn,←hl,rv.length]) hst λh' hx=>?_
 have I1:Inv X pins σ H { s with heap:=h' }:=I.kept (t':=s.toks) λb o e=>hx b o (Nat.ne_of_lt (Heap.lt_size e)) e
 exact h pins _ σ H xs _ Q I1 (by simpa using rv) hw
def tAsg(te:TE)(g:TG):TS:=λD σ H=>te σ H λx H1=>g x σ H1 D.nx
theorem q3b{i:Nat}{x:Str}{e:Expr}{te:TE}{pos':Pos}(hN:X.N.Nodup)(hi:X.N[i]?=some x)(hx:Loc X.env.scope x)(he:PE X e te)(hs:swapsWith e (some (.Name x pos')) pos.line X.env=pure false:=by rfl)(hf:X.fn x=true\/X.env.scope.names.lookup x=some .local:=by first|exact .inl rfl|exact .inr rfl|assumption) :
  PS X (.Assign [.Name x pos'] e pos) (tAsg te (qk0 i)):=by
 intro pins s σ H D I h
 refine wpAny_Assign_Name (thn (he pins s σ H _ I h) λv s1 ⟨y,H1,I1,r1,q1⟩=>?_) hs
 exact qo5 I1 hN hi hx r1 (λs2 I2=>⟨_,H1,I2,q1⟩) hf
end
section
variable {X:Cx} {pos:Pos}
end
structure It where
 go:Nat->Hp->Prop
 yld:Nat->Hp->V->Hp->Prop
 stop:Nat->Hp->Prop
def FpOk(X:Cx)(pins:List (Addr×Obj))(H:Hp)(b:Addr):Prop :=
 H b=none/\b≠X.env.locals/\b∉X.fs/\(b∈X.ex\/X.s₀.heap.objs.size<=b)/\(∀x c,X.env.cells.lookup x=some c->c≠b)/\∀p∈X.pn++pins,p.1≠b
theorem Inv.fpOk{X:Cx}{pins:List (Addr×Obj)}{σ:St}{H H':Hp}{s:Shared}{b:Addr}(I:Inv X pins σ H s)(hb:s.heap.objs.size<=b)(hn:H' b=none):FpOk X pins H' b:=by
 refine⟨hn,Nat.ne_of_gt (Nat.lt_of_lt_of_le I.lt hb),I.nofs hb,.inr (Nat.le_trans I.sz hb),λx c e z=>?_,λp hp z=>?_⟩
 ·obtain⟨v,q⟩:=I.cell x c e
  exact absurd (Nat.lt_of_lt_of_le q.lt (by rw[z];exact hb)) (Nat.lt_irrefl _)
 ·exact absurd (Nat.lt_of_lt_of_le (Heap.lt_size (I.pin p hp).1) (by rw[z];exact hb)) (Nat.lt_irrefl _)
structure Turn(P:Program)(w:World)(K:PySem.W.Frag)(tg:Expr)(J:It)(fp:List Addr)(it:Addr)(tn:Nat->Heap->Prop):Prop where
 mem:it∈fp
 obj:∀i h,tn i h->∀b∈fp,∃o,h.get? b=some o/\∀v,o.data≠.cell v
 keep:∀i h h',tn i h->(∀b∈fp,∀o,h.get? b=some o->h'.get? b=some o)->tn i h'
 item:∀(X:Cx),X.prog=P->X.w=w->X.K=K->X.calm=true->∀(i:Nat) (pins:List (Addr×Obj)) (s:Shared) (σ:St) (H:Hp) (E:Value->Shared->Prop),Inv X pins σ H s->(∀b∈fp,FpOk X pins H b)->tn i s.heap->J.go i H ->
  wpAny (model P w) X.A (pyNext (.ref it)) (λr s1=>∃u,r=some u /\
   wpAny (model P w) X.A (letOwnedTupleGo tg (.ref it) u) (λ_ s2=>∃x H',Inv X pins σ H' s2/\RelV x u/\J.yld i H x H'/\tn (i+1) s2.heap/\∀b∈fp,H' b=none) E s1) E s
 done:∀(X:Cx),X.prog=P->X.w=w->X.K=K->X.calm=true->∀(i:Nat) (pins:List (Addr×Obj)) (s:Shared) (σ:St) (H:Hp) (E:Value->Shared->Prop),Inv X pins σ H s->(∀b∈fp,FpOk X pins H b)->tn i s.heap->J.stop i H ->
  wpAny (model P w) X.A (pyNext (.ref it)) (λr s1=>r=none/\Inv X pins σ H s1) E s
 self:∀(A:Around) (i:Nat) (s:Shared) (Q:Value->Shared->Prop) (E:Value->Shared->Prop),tn i s.heap->Q (.ref it) s->wpAny (model P w) A (pyIter (.ref it)) Q E s
abbrev TI:=St->Hp->(It->Hp->Prop)->Prop
def PIE(X:Cx)(pins:List (Addr×Obj))(σ:St)(tg:Expr)(R:It->Hp->Prop)(itv:Value)(s2:Shared):Prop :=
 ∃(it:Addr) (fp:List Addr) (tn:Nat->Heap->Prop) (J:It) (H':Hp),itv=.ref it/\Inv X pins σ H' s2/\Turn X.prog X.w X.K tg J fp it tn/\tn 0 s2.heap/\(∀b∈fp,FpOk X pins H' b)/\R J H'
def PI(X:Cx)(tg iter:Expr)(wi:TI):Prop :=
 ∀(pins:List (Addr×Obj)) (s:Shared) (σ:St) (H:Hp) (R:It->Hp->Prop),Inv X pins σ H s->wi σ H R ->
  wpAny (model X.prog X.w) X.A (eval iter X.env) (λv s1=>wpAny (model X.prog X.w) X.A (pyIter v) (PIE X pins σ tg R) X.xe s1) X.xe s
theorem qr3{M:Model}{A:Around}{E:Value->Shared->Prop}{s:Shared}{tg:Expr}{it:Addr}{u:Value}{o:Obj}{n:String}{vs:Array Value}{Q:Unit->Shared->Prop}(ho:s.heap.get? it=some o)(hc:o.cls=.type n)(hd:o.data=.fields vs)
    (hn:["enumerate","zip","dict_itemiterator","dict_reverseitemiterator","odict_iterator","itertools.zip_longest","itertools.pairwise"].contains n=false) (hQ:Q () s):wpAny M A (letOwnedTupleGo tg (.ref it) u) Q E s:=by
  unfold letOwnedTupleGo
  cases tg<;>first
   |exact wpAny_pure hQ
   |  (cases u<;>first
       |exact wpAny_pure hQ
       |  (refine wpAny_bind (wpAny_load ho ?_)
           rw[hc,hd]
           show wpAny M A (if (["enumerate","zip","dict_itemiterator","dict_reverseitemiterator","odict_iterator","itertools.zip_longest","itertools.pairwise"].contains n&&vs[0]?==some (rawInt _))=true then _ else _) Q E s
           rw[if_neg (by intro h;rw[hn,Bool.false_and] at h;cases h)]
           exact wpAny_pure hQ))
def Itl(K:PySem.W.Frag)(a:Addr):It :=
 ⟨λi H=>∃xs x,SqL K H a xs/\xs[i]?=some x,λi H x H'=>H'=H/\∀xs,SqL K H a xs->xs[i]?=some x,λi H=>∃xs,SqL K H a xs/\xs.length<=i⟩
def Itt(K:PySem.W.Frag)(a:Addr):It :=
 ⟨λi H=>∃xs x,SqT K H a xs/\xs[i]?=some x,λi H x H'=>H'=H/\∀xs,SqT K H a xs->xs[i]?=some x,λi H=>∃xs,SqT K H a xs/\xs.length<=i⟩
def Itr(lo:Int)(n:Nat):It:=⟨λi _=>i<n,λi H x H'=>H'=H/\x=.int (lo+i),λi _=>n<=i⟩
theorem qtx{P:Program}{w:World}{K:PySem.W.Frag}{tg:Expr}(a it:Addr):Turn P w K tg (Itl K a) [it] it (λi h=>h.IsListIter it a i) where
 mem:=by simp
 obj:=λi h st b hb=>by
  have e:b=it:=by simpa using hb
  subst e
  obtain⟨o,e,c,d⟩:=st
  exact⟨o,e,λv z=>by rw[d] at z;cases z⟩
 keep:=λi h h' st k=>st.at λo e=>k it (by simp) o e
 item:=by
  intro X hP hw hK hc i pins s σ H E I hf st hg
  subst hP hw hK
  obtain⟨xs,x,hq,hx⟩:=hg
  obtain⟨its,rv,p,hz⟩:=I.list hq
  obtain⟨u,hu,ru⟩:=rv.get hx
  obtain⟨f0,f1,f2,f3,f4,f5⟩:=hf it (by simp)
  refine wpAny_pyNext_list_item st p.isList (x:=u) (by simpa using hu) λh' st' sb=>?_
  have I1:Inv X pins σ H { s with heap:=h' }:=I.turned (t':=s.toks) (λb o hb e=>(sb.2 b hb).trans e) f0 f1 f3 f4 f5
  obtain⟨o,e,c,d⟩:=id st'
  exact⟨u,rfl,qr3 (s:={ s with heap:=h' }) e c d (by decide) ⟨x,H,I1,ru,⟨rfl,λys hy=>by rw[I.list_inj hy hq];exact hx⟩,st',λb hb=>(hf b hb).1⟩⟩
 done:=by
  intro X hP hw hK hc i pins s σ H E I hf st hg
  subst hP hw hK
  obtain⟨xs,hq,hx⟩:=hg
  obtain⟨its,rv,p,hz⟩:=I.list hq
  obtain⟨f0,f1,f2,f3,f4,f5⟩:=hf it (by simp)
  have hl:=rv.length
  exact wpAny_pyNext_list_end (I.ok.hd hc) st p.isList (by simp;lia) λh' eb=>⟨rfl,I.turned (t':=s.toks) (λb o hb e=>eb b o hb e) f0 f1 f3 f4 f5⟩
 self:=λ_ _ _ _ _ st h=>wpAny_pyIter_listiter st h
theorem qqk{P:Program}{w:World}{K:PySem.W.Frag}{tg:Expr}(a it:Addr):Turn P w K tg (Itt K a) [it] it (λi h=>h.IsTupleIter it a i) where
 mem:=by simp
 obj:=λi h st b hb=>by
  have e:b=it:=by simpa using hb
  subst e
  obtain⟨o,e,c,d⟩:=st
  exact⟨o,e,λv z=>by rw[d] at z;cases z⟩
 keep:=λi h h' st k=>st.at λo e=>k it (by simp) o e
 item:=by
  intro X hP hw hK hc i pins s σ H E I hf st hg
  subst hP hw hK
  obtain⟨xs,x,hq,hx⟩:=hg
  obtain⟨its,rv,p,hz⟩:=I.tuple hq
  obtain⟨u,hu,ru⟩:=rv.get hx
  obtain⟨f0,f1,f2,f3,f4,f5⟩:=hf it (by simp)
  refine wpAny_pyNext_tuple_item st (show s.heap.IsTuple a its.toArray from p) (x:=u) (by simpa using hu) λh' st' sb=>?_
  have I1:Inv X pins σ H { s with heap:=h' }:=I.turned (t':=s.toks) (λb o hb e=>(sb.2 b hb).trans e) f0 f1 f3 f4 f5
  obtain⟨o,e,c,d⟩:=id st'
  exact⟨u,rfl,qr3 (s:={ s with heap:=h' }) e c d (by decide) ⟨x,H,I1,ru,⟨rfl,λys hy=>by rw[I.tuple_inj hy hq];exact hx⟩,st',λb hb=>(hf b hb).1⟩⟩
 done:=by
  intro X hP hw hK hc i pins s σ H E I hf st hg
  subst hP hw hK
  obtain⟨xs,hq,hx⟩:=hg
  obtain⟨its,rv,p,hz⟩:=I.tuple hq
  obtain⟨f0,f1,f2,f3,f4,f5⟩:=hf it (by simp)
  have hl:=rv.length
  exact wpAny_pyNext_tuple_end (I.ok.hd hc) st (show s.heap.IsTuple a its.toArray from p) (by simp;lia) λh' eb=>⟨rfl,I.turned (t':=s.toks) (λb o hb e=>eb b o hb e) f0 f1 f3 f4 f5⟩
 self:=λ_ _ _ _ _ st h=>wpAny_pyIter_tupleiter st h
theorem qqj{P:Program}{w:World}{K:PySem.W.Frag}{tg:Expr}(it:Addr)(lo:Int)(n:Nat):Turn P w K tg (Itr lo n) [it] it (λi h=>IsRangeIter h it (lo+(i:Nat)*1) ((n:Int)-(i:Nat)) 1) where
 mem:=by simp
 obj:=λi h st b hb=>by
  have e:b=it:=by simpa using hb
  subst e
  exact⟨_,st,λv z=>by
   have z':Data.fields _=Data.cell v:=z
   cases z'⟩
 keep:=λi h h' st k=>k it (by simp) _ st
 item:=by
  intro X hP hw hK hc i pins s σ H E I hf st hg
  subst hP hw hK
  obtain⟨f0,f1,f2,f3,f4,f5⟩:=hf it (by simp)
  have W:=Walks.range (prog:=X.prog) (w:=X.w) (I.ok.hd hc) it lo 1 n
  refine W.item i s _ _ hg st λv h' tk hv st' kk=>?_
  obtain⟨t,rfl⟩:=hv
  have I1:Inv X pins σ H { s with heap:=h',toks:=tk }:=I.turned (λb o hb e=>kk b o (by simpa using hb) e) f0 f1 f3 f4 f5
  refine⟨_,rfl,qr3 (s:={ s with heap:=h',toks:=tk }) (n:="range_iterator") st' rfl rfl (by decide) ⟨.int (lo+i),H,I1,⟨t,?_⟩,⟨rfl,rfl⟩,st',λb hb=>(hf b hb).1⟩⟩
  rw[Int.mul_one]
 done:=by
  intro X hP hw hK hc i pins s σ H E I hf st hg
  subst hP hw hK
  obtain⟨f0,f1,f2,f3,f4,f5⟩:=hf it (by simp)
  exact wpAny_pyNext_range_end (I.ok.hd hc) st (by have:n<=i:=hg;lia) λh' eb=>⟨rfl,I.turned (t':=s.toks) (λb o hb e=>eb b o hb e) f0 f1 f3 f4 f5⟩
 self:=λ_ _ _ _ _ st h=>wpAny_pyIter_rangeiter st h
end L2
namespace L2
open PySem PySem.Spec PyProof.Rows
section
variable {X:Cx} {tg:Expr}
theorem qv9{pins:List (Addr×Obj)}{σ:St}{H:Hp}{s:Shared}{R:It->Hp->Prop}{E:Value->Shared->Prop}{lo hi:Int}{t u v:Tok}{tk:Nat}(I:Inv X pins σ H s)(h1:-(2 ^ 62)<=lo)(h2:lo<2 ^ 62)(h3:-(2 ^ 62)<=hi)(h4:hi<2 ^ 62)
  (q:R (Itr lo (hi-lo).toNat) H):wpAny (model X.prog X.w) X.A (pyIter (.ref s.heap.objs.size)) (PIE X pins σ tg R) E { s with heap:=s.heap.push { cls:=.type "range",data:=.fields #[.int lo t,.int hi u,.int 1 v] },toks:=tk }:=by
 refine wpAny_pyIter_range (IsRange.new ..) (small_one h1 h2 h3 h4) ?_
 have I1:Inv X pins σ H { s with heap:=s.heap.push { cls:=.type "range",data:=.fields #[.int lo t,.int hi u,.int 1 v] },toks:=tk }:=I.kept λb o e=>Heap.get?_push_of_some _ e
 refine⟨(s.heap.push { cls:=.type "range",data:=.fields #[.int lo t,.int hi u,.int 1 v] }).objs.size,[(s.heap.push { cls:=.type "range",data:=.fields #[.int lo t,.int hi u,.int 1 v] }).objs.size],_,_,H,rfl,
  I1.kept (t':=tk) λb o e=>Heap.get?_push_of_some _ e,qqj _ lo (hi-lo).toNat,?_,λb hb=>?_,q⟩
 ·have e1:lo+((0:Nat):Int)*1=lo:=by simp
  have e2:(((hi-lo).toNat:Nat):Int)-((0:Nat):Int)=Builtin.Range.rangeSize lo hi 1:=by rw[rangeSize_one];split<;>lia
  show IsRangeIter _ _ (lo+((0:Nat):Int)*1) ((((hi-lo).toNat:Nat):Int)-((0:Nat):Int)) 1
  rw[e1,e2]
  exact Heap.get?_push_size _ rfl
 ·have e:b=(s.heap.push { cls:=.type "range",data:=.fields #[.int lo t,.int hi u,.int 1 v] }).objs.size:=by simpa using hb
  subst e
  exact I1.fpOk (Nat.le_refl _) (I1.hok.fresh (Nat.le_refl _))
def qy0(ta:TA):TI:=λσ H R=>ta σ H λvs H1=>∃j:Int,vs=[.int j]/\-(2 ^ 62)<=j/\j<2 ^ 62/\R (Itr 0 j.toNat) H1
theorem qta{a:Expr}{ta:TA}{p pos:Pos}(hg:Gl X "range")(hm:X.mg "range" = none)(ha:PA X [a] ta)(hs:starEach [a] X.env=[(false,eval a X.env)]:=by rfl):PI X tg (.Call (.Name "range" p) [a] [] pos) (qy0 ta):=by
 intro pins s σ H R I h
 refine Call_ (qio I hg hm boot_range (PyProof.Rows.callWith_type1 (thn (ha pos pins s σ H _ I h) λus s1 ⟨vs,H1,I1,r1,q1⟩=>?_) hs rfl))
 obtain⟨j,e,q1,q2,q⟩:=q1
 subst e
 cases r1 with
|cons r rr =>
  cases rr
  obtain⟨t,rfl⟩:=r
  exact call_range_1 (qv9 I1 (by lia) (by lia) q1 q2 (by simpa using q))
def tFor(wi:TI)(g:TG)(tb:TS):TS:=λD σ H=>wi σ H λJ H1=>∃W:Nat->Nat->St->Hp->Prop,(∃m,W 0 m σ H1)/\∀i m σ H,W i m σ H ->
 (J.stop i H/\D.nx σ H)\/(J.go i H/\∃N:St->Hp->Prop,(∀σ' H',N σ' H'->∃m',m'<m/\W (i+1) m' σ' H')/\∀x H',J.yld i H x H'->g x σ H' λσ2 H2=>tb { D with nx:=N,ct:=N,bk:=D.nx } σ2 H2)
def qlj(fp:List Addr)(h:Heap):List (Addr×Obj):=fp.filterMap λb=>(h.get? b).map λo=>(b,o)
theorem qex{fp:List Addr}{h:Heap}{b:Addr}{o:Obj}(hb:b∈fp)(e:h.get? b=some o):(b,o)∈qlj fp h:=List.mem_filterMap.mpr ⟨b,hb,by rw[e];rfl⟩
theorem qs3{fp:List Addr}{h:Heap}{p:Addr×Obj}(hp:p∈qlj fp h):p.1∈fp/\h.get? p.1=some p.2:=by
 obtain⟨b,hb,e⟩:=List.mem_filterMap.mp hp
 cases q:h.get? b with
|none=>rw[q] at e;cases e
|some o =>
  rw[q] at e
  have e':(b,o)=p:=Option.some.inj e
  subst e'
  exact⟨hb,q⟩
theorem Inv.pinned{pins:List (Addr×Obj)}{σ:St}{H:Hp}{s:Shared}{fp:List Addr}(I:Inv X pins σ H s)(hf:∀b∈fp,FpOk X pins H b)(ho:∀b∈fp,∃o,s.heap.get? b=some o/\∀v,o.data≠.cell v):Inv X (pins++qlj fp s.heap) σ H s :=
 I.pins_of λp hp=>(List.mem_append.mp hp).elim (λz=>I.pin p (List.mem_append_right _ z)) λz=>by
  obtain⟨hb,e⟩:=qs3 z
  obtain⟨f0,f1,f2,_⟩:=hf p.1 hb
  obtain⟨o,e',d⟩:=ho p.1 hb
  rw[e] at e';cases e'
  exact⟨e,f0,f1,f2,d⟩
theorem Inv.unpinned{pins pl:List (Addr×Obj)}{σ:St}{H:Hp}{s:Shared}(I:Inv X (pins++pl) σ H s):Inv X pins σ H s:=I.pins_of λp hp=>I.pin p (List.mem_append_right _ (List.mem_append_left _ hp))
theorem q28{iter:Expr}{body:List Stmt}{wi:TI}{g:TG}{tb:TS}{pos:Pos}(hp:PassesOwn (model X.prog X.w) X.A X.env X.xe)(hc:X.calm=true)(hi:PI X tg iter wi)(hg:PG X tg g)(hb:PSs X body tb)
  (hs:∀x,foldedSetIterable iter X.env x=pure x:=by intro _;rfl):PS X (.For tg iter body [] pos) (tFor wi g tb):=by
 intro pins s σ H D I h
 refine wpAny_For (thn (hi pins s σ H _ I h) λv s1 h1=>thn h1 λitv s2 h2=>?_) hs
 obtain⟨it,fp,tn,J,H2,e,I2,T,st2,f2,W,⟨m0,w0⟩,turn⟩:=h2
 subst e
 have stat:∀ {H':Hp},(∀b∈fp,H' b=none)->∀b∈fp,FpOk X pins H' b:=λhn b hb=>⟨hn b hb,(f2 b hb).2⟩
 refine codeAny_forLoop_any (λn s'=>∃i σ' H',Inv X pins σ' H' s'/\tn i s'.heap/\(∀b∈fp,H' b=none)/\W i n σ' H') ?_ m0 ⟨0,σ,H2,I2,st2,λb hb=>(f2 b hb).1,w0⟩
 rintro n s3 ⟨i,σ3,H3,I3,st3,fr3,w3⟩
 rcases turn i n σ3 H3 w3 with ⟨stop,qn⟩|⟨go,N,hN,step⟩
 ·refine wpAny_passesOwn hp (thn (T.done X rfl rfl rfl hc i pins s3 σ3 H3 X.xe I3 (stat fr3) st3 stop) λr s4 ⟨hr,I4⟩=>?_)
  subst hr
  exact wpAny_execs_nil ⟨σ3,H3,I4,qn⟩
 ·refine wpAny_passesOwn hp (thn (T.item X rfl rfl rfl hc i pins s3 σ3 H3 X.xe I3 (stat fr3) st3 go) λr s4 ⟨u,hr,h4⟩=>?_)
  subst hr
  refine wpAny_passesOwn hp (thn h4 λ_ s5 ⟨x,H5,I5,r5,y5,st5,fr5⟩=>?_)
  have I5':=I5.pinned (stat fr5) (T.obj _ _ st5)
  refine wpAny_passesOwn hp (thn (hg _ s5 σ3 H5 x u _ I5' r5 (step x H5 y5)) λ_ s6 ⟨σ6,H6,I6,q6⟩=>?_)
  refine wpAny_passesOwn hp (thn (hb _ s6 σ6 H6 _ I6 q6) λf s7 q7=>?_)
  have again:∀ {σ7:St} {H7:Hp},Inv X (pins++qlj fp s5.heap) σ7 H7 s7->N σ7 H7->∃m,m<n/\∃i σ' H',Inv X pins σ' H' s7/\tn i s7.heap/\(∀b∈fp,H' b=none)/\W i m σ' H':=λ{σ7 H7} I7 n7=>by
   obtain⟨m',hm,w7⟩:=hN σ7 H7 n7
   refine⟨m',hm,i+1,σ7,H7,I7.unpinned,T.keep _ _ _ st5 λb hb o e=>(I7.pin (b,o) (List.mem_append_right _ (List.mem_append_right _ (qex hb e)))).1,λb hb=>?_,w7⟩
   obtain⟨o,e,d⟩:=T.obj _ _ st5 b hb
   exact(I7.pin (b,o) (List.mem_append_right _ (List.mem_append_right _ (qex hb e)))).2.1
  cases f with
 |next=>obtain⟨σ7,H7,I7,n7⟩:=q7;exact again I7 n7
 |cont=>obtain⟨σ7,H7,I7,n7⟩:=q7;exact again I7 n7
 |brk=>obtain⟨σ7,H7,I7,q7⟩:=q7;exact⟨σ7,H7,I7.unpinned,q7⟩
 |ret v=>obtain⟨x7,σ7,H7,I7,r7,q7⟩:=q7;exact⟨x7,σ7,H7,I7.unpinned,r7,q7⟩
end
end L2
namespace L2
open PySem PySem.Spec PyProof.Rows
abbrev R2:=V->V->Hp->VK->Prop
def OpR(X:Cx)(f:Value->Value->Sem Value)(r:R2):Prop :=
 ∀(pins:List (Addr×Obj)) (s:Shared) (σ:St) (H:Hp) (x y:V) (v u:Value) (Q:VK),Inv X pins σ H s->RelV x v->RelV y u->r x y H Q ->
  wpAny (model X.prog X.w) X.A (f v u) (EP X pins σ Q) X.xe s
def UnR(X:Cx)(f:Value->Sem Value)(r:V->Hp->VK->Prop):Prop :=
 ∀(pins:List (Addr×Obj)) (s:Shared) (σ:St) (H:Hp) (x:V) (v:Value) (Q:VK),Inv X pins σ H s->RelV x v->r x H Q ->
  wpAny (model X.prog X.w) X.A (f v) (EP X pins σ Q) X.xe s
def CallR(X:Cx)(f:Value)(r:List V->Hp->VK->Prop):Prop :=
 ∀(pins:List (Addr×Obj)) (s:Shared) (σ:St) (H:Hp) (xs:List V) (us:List Value) (Q:VK),Inv X pins σ H s->Vals xs us->r xs H Q ->
  wpAny (model X.prog X.w) X.A (call f us) (EP X pins σ Q) X.xe s
def tOp(r:R2)(ta tb:TE):TE:=λσ H Q=>ta σ H λx H1=>tb σ H1 λy H2=>r x y H2 Q
def tUn(r:V->Hp->VK->Prop)(ta:TE):TE:=λσ H Q=>ta σ H λx H1=>r x H1 Q
def rI(C:Int->Int->Prop)(g:Int->Int->V):R2:=λx y H Q=>∃i j,x=.int i/\y=.int j/\C i j/\Q (g i j) H
def rI0(g:Int->Int->V):R2:=λx y H Q=>∃i j,x=.int i/\y=.int j/\Q (g i j) H
def rU(g:Int->V):V->Hp->VK->Prop:=λx H Q=>∃i,x=.int i/\Q (g i) H
section
variable {X:Cx} {a b c:Expr} {ta tb tc:TE} {pos:Pos}
theorem binT(ha:PE X a ta)(hb:PE X b tb){pins:List (Addr×Obj)}{s:Shared}{σ:St}{H:Hp}{R:V->V->Hp->Prop}(I:Inv X pins σ H s)
  (h:ta σ H λx H1=>tb σ H1 λy H2=>R x y H2) {Q:Value->Shared->Prop} {f:Value->Value->Sem Value}
  (hf:∀v u s2 x y H2,Inv X pins σ H2 s2->RelV x v->RelV y u->R x y H2->wpAny (model X.prog X.w) X.A (f v u) Q X.xe s2) :
  wpAny (model X.prog X.w) X.A (eval a X.env) (λv s₁=>wpAny (model X.prog X.w) X.A (eval b X.env) (λu s₂=>wpAny (model X.prog X.w) X.A (f v u) Q X.xe s₂) X.xe s₁) X.xe s:=by
 refine thn (ha pins s σ H _ I h) λv s1 ⟨x,H1,I1,r1,q1⟩=>?_
 refine thn (hb pins s1 σ H1 _ I1 q1) λu s2 ⟨y,H2,I2,r2,q2⟩=>?_
 exact hf v u s2 x y H2 I2 r1 r2 q2
theorem q49{op:Operator}{r:R2}(ho:OpR X (binaryOp op) r)(ha:PE X a ta)(hb:PE X b tb):PE X (.BinOp a op b pos) (tOp r ta tb):=by
 intro pins s σ H Q I h
 exact wpAny_BinOp (binT ha hb I h λv u s2 x y H2 I2 rx ry q=>ho pins s2 σ H2 x y v u Q I2 rx ry q)
theorem q5a{op:UnaryOp}{r:V->Hp->VK->Prop}(ho:UnR X (unaryOp op) r)(ha:PE X a ta):PE X (.UnaryOp op a pos) (tUn r ta):=by
 intro pins s σ H Q I h
 exact UnaryOp_ (thn (ha pins s σ H _ I h) λv s1 ⟨x,H1,I1,r1,q1⟩=>ho pins s1 σ H1 x v Q I1 r1 q1)
theorem opI{f:Value->Value->Sem Value}{C:Int->Int->Prop}{g:Int->Int->Int}
  (rule:∀(i j:Int) (t u:Tok) (s:Shared) (Q:Value->Shared->Prop) (E:Value->Shared->Prop),C i j->Q (.int (g i j) s.toks) { s with toks:=s.toks+1 }->wpAny (model X.prog X.w) X.A (f (.int i t) (.int j u)) Q E s) :
  OpR X f (rI C λi j=>.int (g i j)):=by
 intro pins s σ H x y v u Q I rx ry h
 obtain⟨i,j,rfl,rfl,hc,q⟩:=h
 obtain⟨t,rfl⟩:=rx
 obtain⟨t',rfl⟩:=ry
 exact rule i j t t' s _ _ hc ⟨.int (g i j),H,I.tok _,⟨_,rfl⟩,q⟩
theorem opI0{f:Value->Value->Sem Value}{g:Int->Int->Int}
  (rule:∀(i j:Int) (t u:Tok) (s:Shared) (Q:Value->Shared->Prop) (E:Value->Shared->Prop),Q (.int (g i j) s.toks) { s with toks:=s.toks+1 }->wpAny (model X.prog X.w) X.A (f (.int i t) (.int j u)) Q E s) :
  OpR X f (rI0 λi j=>.int (g i j)):=by
 intro pins s σ H x y v u Q I rx ry h
 obtain⟨i,j,rfl,rfl,q⟩:=h
 obtain⟨t,rfl⟩:=rx
 obtain⟨t',rfl⟩:=ry
 exact rule i j t t' s _ _ ⟨.int (g i j),H,I.tok _,⟨_,rfl⟩,q⟩
theorem opB0{f:Value->Value->Sem Value}{g:Int->Int->Bool}
  (rule:∀(i j:Int) (t u:Tok) (s:Shared) (Q:Value->Shared->Prop) (E:Value->Shared->Prop),Q (.bool (g i j)) s->wpAny (model X.prog X.w) X.A (f (.int i t) (.int j u)) Q E s) :
  OpR X f (rI0 λi j=>.bl (g i j)):=by
 intro pins s σ H x y v u Q I rx ry h
 obtain⟨i,j,rfl,rfl,q⟩:=h
 obtain⟨t,rfl⟩:=rx
 obtain⟨t',rfl⟩:=ry
 exact rule i j t t' s _ _ ⟨.bl (g i j),H,I,rfl,q⟩
def CDiv(i j:Int):Prop:=0<j/\j<1073741824
def CPow(i j:Int):Prop:=0<=j/\j<=1000000/\i.natAbs<2 ^ 64
def CMul(i j:Int):Prop:=(-(2 ^ 64)<i/\i<2 ^ 64)\/(-(2 ^ 64)<j/\j<2 ^ 64)
theorem CMul.ok{i j:Int}(h:CMul i j):IntMulOk i j:=by
 rcases h with ⟨h1,h2⟩|⟨h1,h2⟩
 ·exact .of_left (intBits_le_64 h1 h2)
 ·exact .of_right (intBits_le_64 h1 h2)
theorem op_add:OpR X (binaryOp .Add) (rI0 λi j=>.int (i+j)):=opI0 λ_ _ _ _ _ _ _ q=>add_int q
theorem q2q:OpR X (binaryOp .Mult) (rI CMul λi j=>.int (i*j)):=opI λ_ _ _ _ _ _ _ hc q=>mul_int q hc.ok
theorem qzj:OpR X (binaryOp .FloorDiv) (rI CDiv λi j=>.int (i / j)):=opI λi j _ _ _ _ _ hc q=>by
 have h1:(0:Int)<j:=hc.1
 have h2:j<1073741824:=hc.2
 exact floordiv_int (by lia) (by rw[Int.fdiv_eq_ediv_of_nonneg i (by lia)];exact q) (.inl (PyProof.noPylong_small (by lia)))
theorem q2p:OpR X (binaryOp .Mod) (rI (λ_ j=>0<j) λi j=>.int (i%j)):=opI λi j _ _ _ _ _ hc q=>by
 have h1:(0:Int)<j:=hc
 exact mod_int' (by lia) (by rw[Int.fmod_eq_emod_of_nonneg i (by lia)];exact q)
theorem q2s:OpR X (binaryOp .Pow) (rI CPow λi j=>.int (i ^ j.toNat)):=opI λ_ _ _ _ _ _ _ hc q=>pow_int_small hc.1 hc.2.1 hc.2.2 q
theorem unI{f:Value->Sem Value}{g:Int->Int}
  (rule:∀(i:Int) (t:Tok) (s:Shared) (Q:Value->Shared->Prop) (E:Value->Shared->Prop),Q (.int (g i) s.toks) { s with toks:=s.toks+1 }->wpAny (model X.prog X.w) X.A (f (.int i t)) Q E s) :
  UnR X f (rU λi=>.int (g i)):=by
 intro pins s σ H x v Q I rx h
 obtain⟨i,rfl,q⟩:=h
 obtain⟨t,rfl⟩:=rx
 exact rule i t s _ _ ⟨.int (g i),H,I.tok _,⟨_,rfl⟩,q⟩
theorem q4f:UnR X (unaryOp .USub) (rU λi=>.int (-i)):=unI λ_ _ _ _ _ q=>neg_int q
end
def scal:V->V->Bool
|.non,.non=>true|.non,.int _=>true|.int _,.non=>true|.non,.bl _=>true|.bl _,.non=>true|.non,.str _=>true|.str _,.non=>true
|.int _,.int _=>true|.bl _,.bl _=>true|.str _,.str _=>true|.byt _,.byt _=>true
|.int _,.str _=>true|.str _,.int _=>true|.bl _,.str _=>true|.str _,.bl _=>true
|_,_=>false
def rEq:R2:=λx y H Q=>scal x y=true/\Q (.bl (decide (x=y))) H
def rNe:R2:=λx y H Q=>scal x y=true/\Q (.bl (!decide (x=y))) H
theorem qrk{i j:Int}:decide (V.int i=V.int j)=(i==j):=by
 rw[Bool.eq_iff_iff]
 simp
theorem qw6{i j:Bool}:decide (V.bl i=V.bl j)=(i==j):=by
 rw[Bool.eq_iff_iff]
 simp
theorem qrl{i j:Str}:decide (V.str i=V.str j)=(i==j):=by
 rw[Bool.eq_iff_iff]
 simp
theorem qrj{i j:Array UInt8}:decide (V.byt i=V.byt j)=(i.toList==j.toList):=by
 rw[Bool.eq_iff_iff]
 cases i
 cases j
 simp
section
variable {X:Cx} {a b c:Expr} {ta tb tc:TE} {pos:Pos}
theorem qbe{pins:List (Addr×Obj)}{σ:St}{H:Hp}{s:Shared}{Q:VK}{k k':Bool}(I:Inv X pins σ H s)(q:Q (.bl k) H)(e:k=k'):EP X pins σ Q (.bool k') s:=by
 subst e
 exact⟨.bl k,H,I,rfl,q⟩
theorem q41:OpR X (compareOp .Eq) rEq:=by
 intro pins s σ H x y v u Q I rx ry h
 obtain⟨hs,q⟩:=h
 cases x with
|non =>
  cases rx
  cases y with
 |non=>cases ry;exact PySem.EqNone.eq_none_none (qbe I q (by simp))
 |bl j=>cases ry;exact PySem.EqNone.eq_none_bool (qbe I q (by simp))
 |int j=>obtain⟨t',rfl⟩:=ry;exact PySem.EqNone.eq_none_int (qbe I q (by simp))
 |str j=>obtain⟨t',rfl⟩:=ry;exact PySem.EqNone.eq_none_str (qbe I q (by simp))
 |_=>exact absurd (show false=true from hs) Bool.false_ne_true
|bl i =>
  cases rx
  cases y with
 |non=>cases ry;exact PySem.EqNone.eq_bool_none (qbe I q (by simp))
 |bl j=>cases ry;exact eq_bool (qbe I q qw6)
 |str j=>obtain⟨t',rfl⟩:=ry;exact PySem.EqMixed.eq_bool_str (qbe I q (by simp))
 |_=>exact absurd (show false=true from hs) Bool.false_ne_true
|int i =>
  obtain⟨t,rfl⟩:=rx
  cases y with
 |non=>cases ry;exact PySem.EqNone.eq_int_none (qbe I q (by simp))
 |int j=>obtain⟨t',rfl⟩:=ry;exact eq_int (qbe I q qrk)
 |str j=>obtain⟨t',rfl⟩:=ry;exact PySem.EqMixed.eq_int_str (qbe I q (by simp))
 |_=>exact absurd (show false=true from hs) Bool.false_ne_true
|str i =>
  obtain⟨t,rfl⟩:=rx
  cases y with
 |non=>cases ry;exact PySem.EqNone.eq_str_none (qbe I q (by simp))
 |bl j=>cases ry;exact PySem.EqMixed.eq_str_bool (qbe I q (by simp))
 |int j=>obtain⟨t',rfl⟩:=ry;exact PySem.EqMixed.eq_str_int (qbe I q (by simp))
 |str j=>obtain⟨t',rfl⟩:=ry;exact eq_str (qbe I q qrl)
 |_=>exact absurd (show false=true from hs) Bool.false_ne_true
|byt i =>
  obtain⟨t,rfl⟩:=rx
  cases y with
 |byt j=>obtain⟨t',rfl⟩:=ry;exact PySem.W.eq_bytes (qbe I q qrj)
 |_=>exact absurd (show false=true from hs) Bool.false_ne_true
|_=>cases y<;>exact absurd (show false=true from hs) Bool.false_ne_true
theorem q44:OpR X (compareOp .NotEq) rNe:=by
 intro pins s σ H x y v u Q I rx ry h
 obtain⟨hs,q⟩:=h
 cases x with
|non =>
  cases rx
  cases y with
 |non=>cases ry;exact PySem.EqNone.ne_none_none (qbe I q (by simp))
 |bl j=>cases ry;exact PySem.EqNone.ne_none_bool (qbe I q (by simp))
 |int j=>obtain⟨t',rfl⟩:=ry;exact PySem.EqNone.ne_none_int (qbe I q (by simp))
 |str j=>obtain⟨t',rfl⟩:=ry;exact PySem.EqNone.ne_none_str (qbe I q (by simp))
 |_=>exact absurd (show false=true from hs) Bool.false_ne_true
|bl i =>
  cases rx
  cases y with
 |non=>cases ry;exact PySem.EqNone.ne_bool_none (qbe I q (by simp))
 |bl j=>cases ry;exact ne_bool (qbe I q (congrArg not qw6))
 |str j=>obtain⟨t',rfl⟩:=ry;exact PySem.EqMixed.ne_bool_str (qbe I q (by simp))
 |_=>exact absurd (show false=true from hs) Bool.false_ne_true
|int i =>
  obtain⟨t,rfl⟩:=rx
  cases y with
 |non=>cases ry;exact PySem.EqNone.ne_int_none (qbe I q (by simp))
 |int j=>obtain⟨t',rfl⟩:=ry;exact ne_int (qbe I q (congrArg not qrk))
 |str j=>obtain⟨t',rfl⟩:=ry;exact PySem.EqMixed.ne_int_str (qbe I q (by simp))
 |_=>exact absurd (show false=true from hs) Bool.false_ne_true
|str i =>
  obtain⟨t,rfl⟩:=rx
  cases y with
 |non=>cases ry;exact PySem.EqNone.ne_str_none (qbe I q (by simp))
 |bl j=>cases ry;exact PySem.EqMixed.ne_str_bool (qbe I q (by simp))
 |int j=>obtain⟨t',rfl⟩:=ry;exact PySem.EqMixed.ne_str_int (qbe I q (by simp))
 |str j=>obtain⟨t',rfl⟩:=ry;exact ne_str (qbe I q (congrArg not qrl))
 |_=>exact absurd (show false=true from hs) Bool.false_ne_true
|byt i =>
  obtain⟨t,rfl⟩:=rx
  cases y with
 |byt j=>obtain⟨t',rfl⟩:=ry;exact PySem.W.ne_bytes (qbe I q (congrArg not qrj))
 |_=>exact absurd (show false=true from hs) Bool.false_ne_true
|_=>cases y<;>exact absurd (show false=true from hs) Bool.false_ne_true
theorem q43:OpR X (compareOp .Lt) (rI0 λi j=>.bl (decide (i<j))):=opB0 λ_ _ _ _ _ _ _ q=>lt_int q
theorem q42:OpR X (compareOp .Gt) (rI0 λi j=>.bl (decide (j<i))):=opB0 λ_ _ _ _ _ _ _ q=>gt_int q
theorem op_in_str:OpR X (compareOp .In) (λx y H Q=>∃i j,x=.str i/\y=.str j/\Q (.bl (!(Builtin.Str.occurrences j i 0 j.length 1).isEmpty)) H):=by
 intro pins s σ H x y v u Q I rx ry h
 obtain⟨i,j,rfl,rfl,q⟩:=h
 obtain⟨t,rfl⟩:=rx
 obtain⟨t',rfl⟩:=ry
 exact in_str (qbe I q rfl)
theorem qzk:OpR X (compareOp .IsNot) (λx y H Q=>y=.non/\Q (.bl (!decide (x=.non))) H):=by
 intro pins s σ H x y v u Q I rx ry h
 obtain⟨rfl,q⟩:=h
 cases ry
 refine isnot_none_gen (qbe I q ?_)
 cases x<;>first
 |(cases rx;rfl)
 |(obtain⟨t,rfl⟩:=rx;rfl)
theorem OpR.or{f:Value->Value->Sem Value}{r r':R2}(h:OpR X f r)(h':OpR X f r'):OpR X f (λx y H Q=>r x y H Q\/r' x y H Q):=by
 intro pins s σ H x y v u Q I rx ry q
 rcases q with q|q
 ·exact h pins s σ H x y v u Q I rx ry q
 ·exact h' pins s σ H x y v u Q I rx ry q
theorem qzr{op:CmpOp}{r:R2}(ho:OpR X (compareOp op) r)(ha:PE X a ta)(hb:PE X b tb)(hm:behindInMarks op b=false):PE X (.Compare a [op] [b] pos) (tOp r ta tb):=by
 intro pins s σ H Q I h
 exact wpAny_Compare1 (binT ha hb I h λv u s2 x y H2 I2 rx ry q=>ho pins s2 σ H2 x y v u Q I2 rx ry q) hm
def q4d(t:TE):TT:=λσ H Q=>t σ H λx H'=>∃k,x=.bl k/\Q k H'
theorem qz8{op:CmpOp}{r:R2}(ho:OpR X (compareOp op) r)(ha:PE X a ta)(hb:PE X b tb)(hm:behindInMarks op b=false):PT X (.Compare a [op] [b] pos) (q4d (tOp r ta tb)):=by
 intro pins s σ H Q I h
 refine wpAny_isTrue_Compare1 (thn (ha pins s σ H _ I h) λv s1 ⟨x,H1,I1,r1,q1⟩=>thn (hb pins s1 σ H1 _ I1 q1) λu s2 ⟨y,H2,I2,r2,q2⟩ =>
  thn (ho pins s2 σ H2 x y v u _ I2 r1 r2 q2) λc s3 ⟨z,H3,I3,r3,k,e,q3⟩=>?_) hm
 subst e
 cases r3
 exact wpAny_truthy_bool ⟨H3,I3,q3⟩
theorem qlb:(sizeLine:Nat)<2 ^ 63:=by rw[sizeLine_eq];decide
theorem op_add_str:OpR X (binaryOp .Add) (λx y H Q=>∃i j,x=.str i/\y=.str j/\i.length+j.length<=sizeLine/\Q (.str (i++j)) H):=by
 intro pins s σ H x y v u Q I rx ry h
 obtain⟨i,j,rfl,rfl,hz,q⟩:=h
 obtain⟨t,rfl⟩:=rx
 obtain⟨t',rfl⟩:=ry
 exact add_str (λt' tk=>⟨.str (i++j),H,I.tok _,⟨_,rfl⟩,q⟩) hz
theorem vals1{x:V}{us:List Value}(r:Vals [x] us):∃u,us=[u]/\RelV x u:=by
 cases r with
|cons r1 r2=>cases r2;exact⟨_,rfl,r1⟩
theorem vals2{x y:V}{us:List Value}(r:Vals [x,y] us):∃u w',us=[u,w']/\RelV x u/\RelV y w':=by
 cases r with
|cons r1 r2 =>
  cases r2 with
 |cons r3 r4=>cases r4;exact⟨_,_,rfl,r1,r3⟩
end
end L2
namespace L2
open PySem PySem.Spec PyProof.Rows
structure ObjM(h:Heap)(x dx C:Addr)(mA:Str->Option Value):Prop where
 obj:h.get? x=some (PySem.W.instObj C dx)
 ns:h.Ns1 dx mA
 ne:dx≠x
theorem qst{h:Heap}{dx:Addr}{mA:Str->Option Value}(n:h.Ns1 dx mA):∃od,h.get? dx=some od/\∀name,PySem.W.lookIn name od=some (mA name):=by
 obtain⟨o,es,ep,ho,hd,hk,_,hm⟩:=n
 refine⟨o,ho,λname=>?_⟩
 have e:=hm name
 unfold nsFind findBy at e
 rw[←Array.find?_toList] at e
 unfold PySem.W.lookIn
 rw[hd]
 dsimp only
 split
 ·rename_i y q
  rw[q] at e
  exact congrArg some e
 ·rename_i q
  rw[q] at e
  have a:es.toList.any (·.refKey)=false:=by
   rw[List.any_eq_false]
   intro y hy
   obtain⟨z,t,hkey⟩:=hk y (Array.mem_toList_iff.mp hy)
   simp[DictEntry.refKey,hkey]
  have a':¬ es.toList.any (·.refKey)=true:=by rw[a];exact Bool.false_ne_true
  rw[if_neg a']
  exact congrArg some e
theorem ObjM.look{h:Heap}{x dx C:Addr}{mA:Str->Option Value}(I:ObjM h x dx C mA):∃od,PySem.W.InstAt h x (PySem.W.instObj C dx) C (some od)/\∀name,PySem.W.lookIn name od=some (mA name) :=
 let ⟨od,ho,hl⟩:=qst I.ns
 ⟨od,⟨I.obj,rfl,rfl,ho⟩,hl⟩
section
variable {prog:Program} {w:World} {A:Around} {E:Value->Shared->Prop} {s:Shared} {K:PySem.W.Frag} {x dx C f:Addr} {mA:Str->Option Value} {name:Str} {v:Value}
end
theorem RelO.some_of{v:V}{o:Option Value}(r:RelO (some v) o):∃u,o=some u/\RelV v u:=by
 cases o with
|none=>exact(show False from r).elim
|some u=>exact⟨u,rfl,r⟩
section
variable {P:Program} {w:World} {H H':Hp} {h h':Heap} {a C dx:Addr} {fs fs':List (Str×V)}
theorem qy2(hok:HOk P w H h)(e:H a=some (.ins C dx fs)):∃mA,ObjM h a dx C mA/\(∀f,RelO (fs.lookup f) (mA f))/\PySem.Within mA (fs.map (·.1))/\fs.length<=1000/\H dx=some (.own a):=by
 obtain⟨d,z,ne,ob,mA,n,r,q⟩:=(show ObjOk P w H h a (.ins C dx fs) from hok a _ e)
 exact⟨mA,⟨ob,n,ne⟩,r,q,z,d⟩
end
structure Cls(K:PySem.W.Frag)(C:Addr):Prop where
 pg:PySem.W.plainGet K C Str.empty=true
 hd:PySem.W.hasDictIn K C=true
 po:PySem.W.plainOver K C=true
 sa:PySem.W.findIn K (.ref C) "__setattr__" = some (some (.builtin "object.__setattr__"))
theorem Cls.get{K:PySem.W.Frag}{C:Addr}(c:Cls K C)(f:Str):PySem.W.plainGet K C f=true:=c.pg
structure Con(K:PySem.W.Frag)(C:Addr)(f:Str)(v:V)(u:Value):Prop where
 at_:PySem.W.findIn K (.ref C) f=some (some u)
 rel:RelV v u
 get:PySem.W.specialIn K u "__get__" = some none
 cp:PySem.W.copiedNames.contains f=false
structure Meth(K:PySem.W.Frag)(C:Addr)(m:Str)(f:Addr):Prop where
 at_:PySem.W.findIn K (.ref C) m=some (some (.ref f))
 fn:PySem.W.isFn K (.ref f)=true
 kp:PySem.W.keepIn K (.ref f)=true
section
variable {X:Cx} {pins:List (Addr×Obj)} {σ:St} {H:Hp} {s:Shared} {a C dx:Addr} {fs:List (Str×V)} {f:Str} {v:V} {A:Around} {E:Value->Shared->Prop}
end
section
variable {X:Cx} {o e value:Expr} {f:Str} {pos pos' tpos:Pos} {ta tv:TE}
end
section
variable {X:Cx} {pins:List (Addr×Obj)} {σ:St} {H:Hp} {s:Shared} {A:Around} {E:Value->Shared->Prop} {Q:Value->Shared->Prop} {c:Value} {b:Bool}
inductive TyOf(K:PySem.W.Frag)(H:Hp):V->Value->Prop where
|non:TyOf K H .non (.type "NoneType")
|bl (x:Bool):TyOf K H (.bl x) (.type "bool")
|int (i:Int):TyOf K H (.int i) (.type "int")
|str (x:Str):TyOf K H (.str x) (.type "str")
|flt (x:UInt64):TyOf K H (.flt x) (.type "float")
|lst {a:Addr} {xs:List V} (e:H a=some (.lst xs)):TyOf K H (.ref a) (.type "list")
|frz {a:Addr} {o:Obj} {xs:List V} (e:H a=some (.frz o (.lst xs))):TyOf K H (.ref a) (.type "list")
|tup {a:Addr} {xs:List V} (e:H a=some (.tup xs)):TyOf K H (.ref a) (.type "tuple")
|dK {a:Addr} {kvs:List (Key×V)} (e:H a=some (.dK kvs)):TyOf K H (.ref a) (.type "dict")
|dT {a:Addr} {kvs:List (List Key×V)} (e:H a=some (.dT kvs)):TyOf K H (.ref a) (.type "dict")
|ins {a C dx:Addr} {fs:List (Str×V)} (e:H a=some (.ins C dx fs)) (cl:Cls K C) (ha:PySem.W.findIn K (.ref C) "__class__" = some (some (.builtin "object.__class__")))
   (hn:PySem.W.specialIn K (.builtin "object.__class__") "__get__" = some (some (.builtin "getset_descriptor.__get__"))) (htk:PySem.W.takesIn K (.builtin "object.__class__")=some true)
   (hm:PySem.W.mroIn K C (.type "object")=some true):TyOf K H (.ref a) (.ref C)
theorem qee{x:V}{u t:Value}(I:Inv X pins σ H s)(rx:RelV x u)(ty:TyOf X.K H x t)(e:PySem.W.kitOne X.K t c=some b)(h:∀tk,Q (.bool b) { s with toks:=tk }) :
  wpAny (model X.prog X.w) A (call (.builtin "isinstance") [u,c]) Q E s:=by
 cases ty with
|non=>cases (show u=Value.none from rx);exact PySem.W.kia_one PySem.W.kitx_none I.kIn True.intro e (λz=>nomatch z) h
|bl y=>cases (show u=Value.bool y from rx);exact PySem.W.kia_one PySem.W.kitx_bool I.kIn True.intro e (λz=>nomatch z) h
|int i=>obtain⟨t,q⟩:=(show ∃t,u=Value.int i t from rx);cases q;exact PySem.W.kia_one PySem.W.kitx_int I.kIn True.intro e (λz=>nomatch z) h
|str y=>obtain⟨t,q⟩:=(show ∃t,u=Value.str y t from rx);cases q;exact PySem.W.kia_one PySem.W.kitx_str I.kIn True.intro e (λz=>nomatch z) h
|flt y=>obtain⟨t,q⟩:=(show ∃t,u=Value.float y t from rx);cases q;exact PySem.W.kia_one PySem.W.kitx_float I.kIn True.intro e (λz=>nomatch z) h
|@lst a xs ea =>
  cases (show u=Value.ref a from rx)
  obtain⟨_,_,n,_,h1⟩:=(show ObjOk X.prog X.w H s.heap a (.lst xs) from I.hok a _ ea)
  exact PySem.W.kia_one PySem.W.kitx_list I.kIn ⟨_,h1,rfl⟩ e (λz=>nomatch z) h
|@frz a ob xs ea =>
  cases (show u=Value.ref a from rx)
  obtain⟨_,_,_,n,_,h1⟩:=(show ObjOk X.prog X.w H s.heap a (.frz ob (.lst xs)) from I.hok a _ ea)
  exact PySem.W.kia_one PySem.W.kitx_list I.kIn ⟨_,h1,rfl⟩ e (λz=>nomatch z) h
|@tup a xs ea =>
  cases (show u=Value.ref a from rx)
  obtain⟨_,_,_,p⟩:=(show ObjOk X.prog X.w H s.heap a (.tup xs) from I.hok a _ ea)
  obtain⟨o,h1,h2,_⟩:=p
  exact PySem.W.kia_one PySem.W.kitx_tuple I.kIn ⟨o,h1,h2⟩ e (λz=>nomatch z) h
|@dK a kvs ea =>
  cases (show u=Value.ref a from rx)
  obtain⟨_,_,vs,_,p⟩:=(show ObjOk X.prog X.w H s.heap a (.dK kvs) from I.hok a _ ea)
  obtain⟨o,es,ep,h1,h2,_⟩:=p
  exact PySem.W.kia_one PySem.W.kitx_dict I.kIn ⟨o,h1,h2.1⟩ e (λz=>nomatch z) h
|@dT a kvs ea =>
  cases (show u=Value.ref a from rx)
  obtain⟨_,_,xs,_,o,es,ep,h1,h2,_⟩:=(show ObjOk X.prog X.w H s.heap a (.dT kvs) from I.hok a _ ea)
  exact PySem.W.kia_one PySem.W.kitx_dict I.kIn ⟨o,h1,h2.1⟩ e (λz=>nomatch z) h
|@ins a C dx fs ea cl ha hn htk hm =>
  cases (show u=Value.ref a from rx)
  obtain⟨mA,O,_⟩:=qy2 I.hok ea
  obtain⟨od,J,_⟩:=O.look
  exact PySem.W.kia_one (PySem.W.kitx_own (cl.get _) cl.hd ha hn htk hm) I.kIn J e (λz=>nomatch z) h
end
end L2
namespace L2
open PySem PySem.Spec PyProof.Rows
structure Room(k:Nat)(A:Around):Prop where
 hd:A.handled=none
 dp:A.depth+3*k+5<recursionLimit
 un:A.units+16*k+200<cLine
theorem Room.mono{j k:Nat}{A:Around}(r:Room k A)(h:j<=k):Room j A:=⟨r.hd,by have:=r.dp;lia,by have:=r.un;lia⟩
theorem Room.deeper{k:Nat}{A:Around}(r:Room (k+1) A)(env:Env):Room k (A.deeper env) :=
 ⟨r.hd,by have:=r.dp;show A.depth+1+3*k+5<_;lia,by have:=r.un;show A.units+3+16*k+200<_;lia⟩
theorem Room.depth{k:Nat}{A:Around}(r:Room k A):A.depth<recursionLimit:=by have:=r.dp;lia
theorem Room.units{k:Nat}{A:Around}(r:Room k A):A.units+64<cLine:=by have:=r.un;lia
def tNil:TA:=λ_ H Q=>Q [] H
def qwr(ta:TE)(tr:TA):TA:=λσ H Q=>ta σ H λx H1=>tr σ H1 λxs H2=>Q (x::xs) H2
section
variable {X:Cx} {e:Expr} {es:List Expr} {te:TE} {t:TA} {pos:Pos}
theorem q2u:PA X [] tNil:=λ_ _ _ _ H Q I h=>Calls.spliced_nil ⟨[],H,I,.nil,h⟩
theorem qzn(ha:PE X e te)(hr:PA X es t)(hs:starEach (e::es) X.env=(false,eval e X.env)::starEach es X.env:=by rfl):PA X (e::es) (qwr te t):=by
 intro pos pins s σ H Q I h
 rw[hs]
 show wpAny _ _ (spliced ((false,eval e X.env)::backTo pos (starEach es X.env))) _ _ s
 refine Calls.spliced_cons (thn (ha pins s σ H _ I h) λu s1 ⟨x,H1,I1,r1,q1⟩=>?_)
 exact thn (hr pos pins s1 σ H1 _ I1 q1) λus s2 ⟨xs,H2,I2,r2,q2⟩=>⟨x::xs,H2,I2,.cons r1 r2,q2⟩
def tTup(t:TA):TE:=λσ H Q=>t σ H λxs H1=>xs.length<=sizeLine/\∀p,H1 p=none->Q (.ref p) (upd H1 p (.tup xs))
def tLst(t:TA):TE:=λσ H Q=>t σ H λxs H1=>xs.length<=sizeLine/\∀p,H1 p=none->Q (.ref p) (upd H1 p (.lst xs))
theorem q24{x1}(h:PA X es t):PE X (.Tuple es x1 pos) (tTup t):=by
 intro pins s σ H Q I hq
 refine wpAny_Tuple_spliced (thn (h pos pins s σ H _ I hq) λus s1 ⟨xs,H1,I1,r,z,q⟩=>⟨by rw[←r.length];exact z,?_⟩)
 have hf:H1 s1.heap.objs.size=none:=I1.hok.fresh (Nat.le_refl _)
 refine⟨.ref s1.heap.objs.size,upd H1 s1.heap.objs.size (.tup xs),I1.laid (t':=s1.toks) (λb u e=>Heap.get?_push_of_some _ e) (Nat.le_refl _) ?_,rfl,q _ hf⟩
 exact⟨z,us,r,⟨_,Heap.get?_push_size _ rfl,rfl,_,rfl⟩⟩
theorem q20(h:PA X es t):PE X (.List es pos) (tLst t):=by
 intro pins s σ H Q I hq
 refine wpAny_List_spliced (thn (h pos pins s σ H _ I hq) λus s1 ⟨xs,H1,I1,r,z,q⟩=>⟨by rw[←r.length];exact z,?_⟩)
 have hf:H1 s1.heap.objs.size=none:=I1.hok.fresh (Nat.le_refl _)
 refine⟨.ref s1.heap.objs.size,upd H1 s1.heap.objs.size (.lst xs),I1.laid (t':=s1.toks) (λb u e=>Heap.get?_push_of_some _ e) (Nat.le_refl _) ?_,rfl,q _ hf⟩
 exact⟨z,us,0,r,Heap.get?_push_size _ rfl⟩
end
abbrev Sp:=List V->Hp->VK->XK->Prop
abbrev CXT:=List Env->Hp->Shared->XK->Value->Shared->Prop
structure Env0(P:Program)(w:World)(K:PySem.W.Frag)(mg:Str->Option Value)(base:Heap)(A:Around)(outer:List Env)(s:Shared)(H:Hp):Prop where
 frames:A.frames=some outer
 mod:Mod K mg base
 bs:∀b o,base.get? b=some o->s.heap.get? b=some o/\H b=none
 bsz:base.objs.size<=s.heap.objs.size
 funs:s.heap.FunFrames base outer
 frf:∀b∈frs outer,H b=none
 hok:HOk P w H s.heap
 bare:AllBare s.gens
def CE(outer:List Env)(P:Program)(w:World)(H:Hp)(s:Shared)(Q:VK)(u:Value)(s':Shared):Prop :=
 ∃v H',s'.os=s.os/\AllBare s'.gens/\Un (frs outer) [] H H' s.heap s'.heap/\HOk P w H' s'.heap/\RelV v u/\Q v H'
def CR(CX:CXT)(outer:List Env)(P:Program)(w:World)(H:Hp)(s:Shared)(Q:VK)(E:XK)(r:Result)(s':Shared):Prop :=
 match r with
|.ok (.ret u)=>CE outer P w H s Q u s'
|.ok _=>False
|.error e=>CX outer H s E e s'
structure FnOk(P:Program)(w:World)(K:PySem.W.Frag)(mg:Str->Option Value)(base:Heap)(CX:CXT)(k:Nat)(f:Addr)(fd:FuncData)(ps:List Str)(sp:Sp):Prop where
 len:∀vs H Q E,sp vs H Q E->vs.length=ps.length
 run:∀(A:Around) (outer:List Env) (s:Shared) (H:Hp) (args:Args) (us:List Value) (vs:List V) (Q:VK) (E:XK),Room k A->Env0 P w K mg base A outer s H->BindsTo s fd args (ps.zip us)->Vals vs us->sp vs H Q E ->
  codeAny (model P w) A (.call (.ref f) args) (CR CX outer P w H s Q E) s
section
variable {X:Cx} {pins:List (Addr×Obj)} {σ:St} {H:Hp} {s s':Shared}
theorem Inv.env0(I:Inv X pins σ H s):Env0 X.prog X.w X.K X.mg X.base X.A X.stack s H :=
 ⟨I.ok.frames,I.ok.mod,I.bs,Nat.le_trans I.ok.bsz I.sz,I.stack,I.stkFree,I.hok,I.bare⟩
theorem Inv.after{Q:VK}{u:Value}(I:Inv X pins σ H s)(h:CE X.stack X.prog X.w H s Q u s'):EP X pins σ Q u s':=by
 obtain⟨v,H',os,bare,un,hok,r,q⟩:=h
 obtain⟨hh,g,d,t,os'⟩:=s'
 obtain rfl:os'=s.os:=os
 exact⟨v,H',I.call (h':=hh) (g':=g) (d':=d) (t':=t) (ch:=[]) un hok bare (λb z=>absurd z (by simp)),r,q⟩
end
def q09(sp:Sp)(dvs:List V)(E:XK)(t:TA):TE:=λσ H Q=>t σ H λvs H1=>sp (vs++dvs) H1 Q E
def Binds(K:PySem.W.Frag)(fd:FuncData)(ps:List Str)(ds:List Value):Prop :=
 ∀(s:Shared) (us:List Value),K.In s.heap->(us++ds).length=ps.length->BindsTo s fd ⟨us,[]⟩ (ps.zip (us++ds))
theorem Binds.all{K:PySem.W.Frag}{fd:FuncData}{ps:List Str}(h:∀us:List Value,us.length=ps.length->bindArgs fd ⟨us,[]⟩=pure (ps.zip us)):Binds K fd ps []:=λs us _ hl=>by
 rw[List.append_nil] at hl ⊢
 exact .of_eq (h us hl)
def qq3(CX:CXT)(X:Cx)(E:XK):Prop:=∀(pins:List (Addr×Obj)) (σ:St) (H:Hp) (s:Shared) (e:Value) (s':Shared),Inv X pins σ H s->CX X.stack H s E e s'->X.xe e s'
section
variable {X:Cx} {CX:CXT} {k:Nat} {f C:Addr} {fd:FuncData} {ps:List Str} {sp:Sp} {dvs:List V} {ds:List Value} {E:XK} {x m:Str} {p pos apos:Pos} {e o:Expr} {es:List Expr} {ta:TE} {t:TA}
theorem q31{pins:List (Addr×Obj)}{σ:St}{H:Hp}{s:Shared}{Q:VK}{us:List Value}{vs:List V}(F:FnOk X.prog X.w X.K X.mg X.base CX k f fd ps sp)(hr:Room k X.A)(hb:Binds X.K fd ps ds)(hd:Vals dvs ds)(hx:qq3 CX X E)
  (I:Inv X pins σ H s) (r:Vals vs us) (h:sp (vs++dvs) H Q E):wpAny (model X.prog X.w) X.A (call (.ref f) us) (EP X pins σ Q) X.xe s:=by
 have r2:Vals (vs++dvs) (us++ds):=r.append hd
 have hl:(us++ds).length=ps.length:=by rw[←r2.length];exact F.len _ _ _ _ h
 refine wpAny_call (codeAny_mono (F.run X.A X.stack s H ⟨us,[]⟩ (us++ds) (vs++dvs) Q E hr I.env0 (hb s us I.kIn hl) r2 h) λr s' hq=>?_)
 cases r with
|error e=>exact hx pins σ H s e s' I hq
|ok fl =>
  cases fl with
 |ret u=>exact I.after hq
 |next=>exact False.elim hq
 |brk=>exact False.elim hq
 |cont=>exact False.elim hq
theorem qzq(F:FnOk X.prog X.w X.K X.mg X.base CX k f fd ps sp)(hr:Room k X.A)(hg:Gl X x)(hm:X.mg x=some (.ref f))(hk:PySem.W.keepIn X.K (.ref f)=true)(hb:Binds X.K fd ps ds)(hd:Vals dvs ds)(hx:qq3 CX X E)
  (ha:PA X (e::es) t) (hdb:(x==("__debug__" : Str))=false:=by decide) (he:starEach (e::es) X.env=(false,eval e X.env)::starEach es X.env:=by rfl) (hpl:(backTo pos (starEach es X.env)).any (·.1)=false:=by rfl) :
  PE X (.Call (.Name x p) (e::es) [] pos) (q09 sp dvs E t):=by
 intro pins s σ H Q I h
 refine wpAny_Call_Name_kw (qy8 I hg hm ?_ hdb)
 refine PySem.W.callWith_K (h₀:=X.base) I.ok.mod.kin hk (thn (ha pos pins s σ H _ I h) λus s1 ⟨vs,H1,I1,r,q⟩=>⟨I1.kIn,?_⟩) he hpl
 exact q31 F hr hb hd hx I1 r q
structure Mk(K:PySem.W.Frag)(C f:Addr):Prop where
 makes:PySem.W.makesIn K C=true
 init:PySem.W.findIn K (.ref C) "__init__" = some (some (.ref f))
 fn:PySem.W.isFn K (.ref f)=true
 kp:PySem.W.keepIn K (.ref C)=true
end
section
variable {X:Cx} {CX:CXT} {k:Nat} {f C:Addr} {fd:FuncData} {ps ks:List Str} {sp:Sp} {E:XK} {x m:Str} {p pos apos kpos:Pos} {e o:Expr} {es:List Expr} {kws:List Keyword} {te ta:TE} {t tk:TA} {nm:Option Str}
structure KBinds(K:PySem.W.Frag)(fd:FuncData)(ps ks:List Str)(g:List Value->List Value->List Value)(gV:List V->List V->List V):Prop where
 to:∀(s:Shared) (us ws:List Value),K.In s.heap->(g us ws).length=ps.length->BindsTo s fd ⟨us,ks.zip ws⟩ (ps.zip (g us ws))
 rel:∀ {vs:List V} {us:List Value} {zs:List V} {ws:List Value},Vals vs us->Vals zs ws->Vals (gV vs zs) (g us ws)
variable {g:List Value->List Value->List Value} {gV:List V->List V->List V}
end
structure FnScope(N P:List Str)(sc:Scope):Prop where
 kind:sc.kind=.function
 co:sc.isCoroutine=false
 gen:sc.isGenerator=false
 nd:N.Nodup
 pre:N.take P.length=P
 par:∀x∈P,sc.names.lookup x=some .local\/sc.names.lookup x=some .cell
 nofree:∀y∈sc.names,y.2≠.free
theorem qko{kindOf:Str->Option NameKind}{x:Str}:∀ {binds:List (Str×Value)} {m:Str->Option Value},(∀v,(x,v)∉binds)->bindL kindOf binds m x=m x
|[],_,_=>rfl
|(n,v)::r,m,h=>by
  unfold bindL
  rw[qko λw hw=>h w (List.mem_cons_of_mem _ hw)]
  split
  ·have:x≠n:=by rintro rfl;exact h v List.mem_cons_self
   simp[this]
  ·rfl
theorem qkm{kindOf:Str->Option NameKind}{x:Str}:∀ {binds:List (Str×Value)} {m:Str->Option Value},(∀v,(x,v)∉binds)->bindC kindOf binds m x=m x
|[],_,_=>rfl
|(n,v)::r,m,h=>by
  unfold bindC
  rw[qkm λw hw=>h w (List.mem_cons_of_mem _ hw)]
  split
  ·rfl
  ·have:x≠n:=by rintro rfl;exact h v List.mem_cons_self
   simp[this]
theorem qkn{kindOf:Str->Option NameKind}{x:Str}{v:Value}:∀ {P:List Str} {vs:List Value} {i:Nat} {m:Str->Option Value},P.Nodup->P[i]?=some x->vs[i]?=some v->kindOf x=some .local ->
  bindL kindOf (P.zip vs) m x=some v
|[],_,_,_,_,h,_,_=>by simp at h
|_::_,[],_,_,_,_,h,_=>by simp at h
|p::P,w::vs,0,m,nd,h1,h2,hk=>by
  simp at h1 h2;subst h1;subst h2
  show bindL kindOf ((p,w)::P.zip vs) m p=_
  unfold bindL
  rw[qko λv hv=>(List.nodup_cons.mp nd).1 (List.of_mem_zip hv).1,if_pos hk]
  simp
|p::P,w::vs,i+1,m,nd,h1,h2,hk=>by
  show bindL kindOf ((p,w)::P.zip vs) m x=_
  unfold bindL
  exact qkn (i:=i) (List.nodup_cons.mp nd).2 (by simpa using h1) (by simpa using h2) hk
theorem qkl{kindOf:Str->Option NameKind}{x:Str}{v:Value}:∀ {P:List Str} {vs:List Value} {i:Nat} {m:Str->Option Value},P.Nodup->P[i]?=some x->vs[i]?=some v->kindOf x≠some .local ->
  bindC kindOf (P.zip vs) m x=some v
|[],_,_,_,_,h,_,_=>by simp at h
|_::_,[],_,_,_,_,h,_=>by simp at h
|p::P,w::vs,0,m,nd,h1,h2,hk=>by
  simp at h1 h2;subst h1;subst h2
  show bindC kindOf ((p,w)::P.zip vs) m p=_
  unfold bindC
  rw[qkm λv hv=>(List.nodup_cons.mp nd).1 (List.of_mem_zip hv).1,if_neg hk]
  simp
|p::P,w::vs,i+1,m,nd,h1,h2,hk=>by
  show bindC kindOf ((p,w)::P.zip vs) m x=_
  unfold bindC
  exact qkl (i:=i) (List.nodup_cons.mp nd).2 (by simpa using h1) (by simpa using h2) hk
def start(N:List Str)(vs:List V):St:=vs.map some++List.replicate (N.length-vs.length) none
def cxOf(CX:CXT)(P:Program)(w:World)(K:PySem.W.Frag)(mg:Str->Option Value)(base:Heap)(N:List Str)(qual:Str)(scope:Scope)(f:Addr)(cd:Value)(A:Around)(outer:List Env)(s:Shared)(H:Hp)(E:XK):Cx where
 prog:=P
 w:=w
 K:=K
 mg:=mg
 base:=base
 A:=A.deeper (envOfC qual scope s.heap.objs.size f cd)
 N:=N
 s₀:=s
 H₀:=H
 env:=envOfC qual scope s.heap.objs.size f cd
 outer:=outer
 stack:=envOfC qual scope s.heap.objs.size f cd::outer
 ex:=[]
 calm:=true
 fn:=λ_=>true
 pn:=[]
 xe:=λe s'=>wpAny (model P w) (A.deeper (envOfC qual scope s.heap.objs.size f cd)) (leaving (envOfC qual scope s.heap.objs.size f cd) e) (λ_ s''=>CX outer H s E e s'') (λe' s''=>CX outer H s E e' s'') s'
theorem qn3{sc:Scope}{n:Nat}{x:Str}(h:sc.names.lookup x=some .cell):∃c,(cellsFrom n sc.names []).lookup x=some c:=by
 have q:=PySem.W.cellsFrom_some sc.names n [] (.inl h)
 exact Option.isSome_iff_exists.mp q
theorem qsb{CX:CXT}{P:Program}{w:World}{K:PySem.W.Frag}{mg:Str->Option Value}{base:Heap}{N ps:List Str}{qual:Str}{scope:Scope}{f:Addr}{cd:Value}{A:Around}{outer:List Env}{s s1:Shared}{H:Hp}{E:XK}{us:List Value}{vs:List V}
  (S:FnScope N ps scope) (hd:A.handled=none) (e0:Env0 P w K mg base A outer s H) (hl:vs.length=ps.length) (r:Vals vs us)
  (x:InCallC s s.heap.objs.size (bindL (envOfC qual scope s.heap.objs.size f cd).kindOf (ps.zip us) λ_=>none) (cellsFrom (s.heap.objs.size+1) scope.names []) (bindC (envOfC qual scope s.heap.objs.size f cd).kindOf (ps.zip us) λ_=>none) s1) :
  Inv (cxOf CX P w K mg base N qual scope f cd A outer s H E) [] (start N vs) H s1:=by
 have hpl:ps.length<=N.length:=by have:=congrArg List.length S.pre;rw[List.length_take] at this;lia
 obtain⟨h1,tk,rfl,hk⟩:=x.done
 have noA:∀b:Addr,b∉(cxOf CX P w K mg base N qual scope f cd A outer s H E).ex:=λb z=>absurd (show b∈([]:List Addr) from z) (by simp)
 refine⟨⟨e0.mod,S.kind,rfl,rfl,Nat.le_refl _,λy z c h1 h2=>?_,λy hy=>?_,λy c _ h=>?_,λ_=>hd,Around.frames_deeper e0.frames,.inr ⟨rfl,rfl⟩,λb z=>absurd z (noA b),e0.bs,e0.bsz,λb _ _=>noA b,λb z=>absurd z (noA b),e0.funs,e0.frf⟩,
  rfl,e0.bare,Un.kept hk,⟨_,x.toInCall.ns,λi y v h1 h2 h3=>?_⟩,λy c h=>⟨_,x.cell y c h⟩,e0.hok.fresh (Nat.le_refl _),λy c h=>?_,λp hp=>absurd (show p∈([]:List (Addr×Obj)) from hp) (by simp),e0.hok.kept hk,?_⟩
 ·exact name_of_addr x.apart (PySem.mem_of_lookup h1) (PySem.mem_of_lookup h2)
 ·have hy:scope.names.lookup y=some .cell\/scope.names.lookup y=some .free:=hy
  rcases hy with hy|hy
  ·exact qn3 hy
  ·exact absurd rfl (S.nofree _ (PySem.mem_of_lookup hy))
 ·exact Nat.le_of_lt (x.above y c (PySem.mem_of_lookup h))
 ·have hi:i<vs.length:=by
   unfold start at h2
   by_cases hi:i<vs.length
   ·exact hi
   ·rw[List.getElem?_append_right (by simpa using hi)] at h2
    rw[List.getElem?_replicate] at h2
    split at h2<;>cases h2
  have ha:vs[i]?=some v:=by
   unfold start at h2
   rw[List.getElem?_append_left (by simpa using hi),List.getElem?_map] at h2
   cases e:vs[i]? with
  |none=>rw[e] at h2;cases h2
  |some a=>rw[e] at h2;cases h2;rfl
  obtain⟨u,hu,rv⟩:=r.get ha
  have hp:ps[i]?=some y:=by
   rw[←S.pre,List.getElem?_take_of_lt (by lia)];exact h1
  have ndP:ps.Nodup:=by rw[←S.pre];exact S.nd.sublist (List.take_sublist _ _)
  refine⟨u,rv,?_⟩
  rcases S.par y (List.mem_of_getElem? hp) with k|k
  ·exact .inl ⟨k,qkn ndP hp hu k⟩
  ·obtain⟨c,e⟩:=qn3 (n:=s.heap.objs.size+1) k
   refine .inr ⟨.inl k,c,e,?_⟩
   have q:=x.cell y c e
   rw[qkl ndP hp hu (by show scope.names.lookup y≠_;rw[k];decide)] at q
   exact q
 ·exact e0.hok.fresh (Nat.le_of_lt (x.above y c (PySem.mem_of_lookup h)))
 ·unfold start
  show _=N.length
  rw[List.length_append,List.length_map,List.length_replicate]
  lia
theorem q4z{CX:CXT}{P:Program}{w:World}{K:PySem.W.Frag}{mg:Str->Option Value}{base:Heap}{k:Nat}{f:Addr}{name qual:Str}{params:Arguments}{body:List Stmt}{scope:Scope}{dV kV doc pm cdv ct oc:Value}{an od:Option Addr}
  {osl:Array (Option Value)} {N ps:List Str} {sp:Sp} (lk:K.lookup f=some ⟨oc,od,.func (PySem.W.fnOf name qual params body scope dV kV doc pm an cdv ct),osl⟩) (hcd:PySem.W.codeIn K cdv qual=true) (S:FnScope N ps scope)
  (len:∀vs H Q E,sp vs H Q E->vs.length=ps.length)
  (hbody:∀(A:Around) (outer:List Env) (s:Shared) (H:Hp) (vs:List V) (Q:VK) (E:XK),Room k (A.deeper (envOfC qual scope s.heap.objs.size f cdv))->sp vs H Q E ->
   ∃t,PSs (cxOf CX P w K mg base N qual scope f cdv A outer s H E) body t/\t { nx:=λ_ H'=>Q .non H',rt:=Q } (start N vs) H) :
  FnOk P w K mg base CX (k+1) f (PySem.W.fnOf name qual params body scope dV kV doc pm an cdv ct) ps sp:=by
 refine⟨len,λA outer s H args us vs Q E hr e0 hb r hsp=>?_⟩
 have hl:=len _ _ _ _ hsp
 have KX:K.In s.heap:=e0.mod.kin.keeps λb o e=>(e0.bs b o e).1
 have lim:s.heap.NoLimit:=e0.mod.nolimit.keeps λb o e=>(e0.bs b o e).1
 have hkind:∀y∈ps.zip us,scope.names.lookup y.1=some .local\/(scope.names.lookup y.1=some .cell/\((cellsFrom (s.heap.objs.size+1) scope.names []).lookup y.1).isSome=true):=λ⟨n,v⟩ hy=>by
  rcases S.par n (List.of_mem_zip hy).1 with q|q
  ·exact .inl q
  ·exact .inr ⟨q,PySem.W.cellsFrom_some _ _ _ (.inl q)⟩
 refine codeAny_call_function hr.depth (KX _ _ lk) rfl S.co S.gen rfl (PySem.W.codeRec_of KX hcd) (hb _ _ _ _ ?_)
 refine wpAny_newFunctionEnv_cells S.kind hkind λenv he s1 x=>?_
 subst he
 refine⟨lim.keeps x.toInCall.keep,codeAny_func ?_⟩
 obtain⟨t,ht,hq⟩:=hbody A outer s H vs Q E (hr.deeper _) hsp
 have I:Inv (cxOf CX P w K mg base N qual scope f cdv A outer s H E) [] (start N vs) H s1:=qsb S hr.hd e0 hl r x
 refine wpAny_mono (ht [] s1 (start N vs) H _ I hq) (λfl s' hs=>?_) λe s' hs=>hs
 have fin:∀ {σ':St} {H':Hp} {v:V} {u:Value},Inv (cxOf CX P w K mg base N qual scope f cdv A outer s H E) [] σ' H' s'->RelV v u->Q v H'->CE outer P w H s Q u s' :=
  λ{σ' H' v u} J rv q=>⟨v,H',J.os,J.bare,J.base,J.hok,rv,q⟩
 cases fl with
|ret u =>
  obtain⟨v,σ',H',J,rv,q⟩:=hs
  exact fin J rv q
|next =>
  obtain⟨σ',H',J,q⟩:=hs
  exact fin (v:=V.non) (u:=Value.none) J rfl q
|brk =>
  obtain⟨_,_,_,q⟩:=hs
  exact False.elim q
|cont =>
  obtain⟨_,_,_,q⟩:=hs
  exact False.elim q
end L2
namespace L2
open PySem PySem.Spec PyProof.Rows
section
variable {X:Cx} {x:Str} {p pos:Pos} {e:Expr} {es:List Expr} {t:TA} {id T:String} {r:List V->Hp->VK->Prop}
def tCB(r:List V->Hp->VK->Prop)(t:TA):TE:=λσ H Q=>t σ H λvs H1=>r vs H1 Q
theorem qvq(hc:CallR X (.builtin id) r)(hg:Gl X x)(hm:X.mg x=none)(hv:bootBuiltins x=some (.builtin id))(ha:PA X (e::es) t)(hn:x≠"__name__" := by decide)(hdb:(x==("__debug__" : Str))=false:=by decide)
  (he:starEach (e::es) X.env=(false,eval e X.env)::starEach es X.env:=by rfl) (hpl:(backTo pos (starEach es X.env)).any (·.1)=false:=by rfl):PE X (.Call (.Name x p) (e::es) [] pos) (tCB r t):=by
 intro pins s σ H Q I h
 refine wpAny_Call_Name_kw (qio I hg hm hv ?_ hn hdb)
 exact PyProof.Rows.callWith_builtin1 (thn (ha pos pins s σ H _ I h) λus s1 ⟨vs,H1,I1,r1,q1⟩=>hc pins s1 σ H1 vs us Q I1 r1 q1) he hpl
theorem qs9(hc:CallR X (.type T) r)(hg:Gl X x)(hm:X.mg x=none)(hv:bootBuiltins x=some (.type T))(ha:PA X (e::es) t)(hn:x≠"__name__" := by decide)(hdb:(x==("__debug__" : Str))=false:=by decide)
  (he:starEach (e::es) X.env=(false,eval e X.env)::starEach es X.env:=by rfl) (hpl:(backTo pos (starEach es X.env)).any (·.1)=false:=by rfl):PE X (.Call (.Name x p) (e::es) [] pos) (tCB r t):=by
 intro pins s σ H Q I h
 refine wpAny_Call_Name_kw (qio I hg hm hv ?_ hn hdb)
 exact PyProof.Rows.callWith_type1 (thn (ha pos pins s σ H _ I h) λus s1 ⟨vs,H1,I1,r1,q1⟩=>hc pins s1 σ H1 vs us Q I1 r1 q1) he hpl
end
end L2
namespace HT
open PySem PyProof.Rows
section
open PySem.SeqAt
open PySem.AutoSeq1 (wpAny_loadPart')
open PySem.MeetsSeq PySem.MeetsSeq2 PySem.MeetsSeq3
end
section
variable {prog:Program} {w:World} {A:Around} {E:Value->Shared->Prop} {s:Shared}
theorem cat_tup{t b:Addr}{vs ws:List Value}{Q:Value->Shared->Prop}(ht:IsTup s.heap t vs.toArray)(hb:IsTup s.heap b ws.toArray)(hv:vs≠[])
  (h1:ws=[]->Q (.ref t) s) (h2:ws≠[]->Q (.ref s.heap.objs.size) { s with heap:=s.heap.push { cls:=.type "tuple",data:=.seq (vs++ws).toArray } })
  (hsz:vs.length+ws.length<=sizeLine):wpAny (model prog w) A (binaryOp .Add (.ref t) (.ref b)) Q E s:=by
 obtain⟨⟨cls,dd,data,sl⟩,ho,hc,n,hd⟩:=id ht
 obtain⟨⟨cls2,dd2,data2,sl2⟩,ho2,hc2,n2,hd2⟩:=id hb
 simp only at hc hd hc2 hd2
 subst hc hd hc2 hd2
 have e:vs.toArray++ws.toArray=(vs++ws).toArray:=by simp
 by_cases hw:ws=[]
 ·exact concat_meets ⟨_,ho,rfl⟩ ⟨_,ho2,rfl⟩ noFill_tuple_add seq_tuple_add PySem.F.slot_tuple_add PySem.F.entry_tuple_add (PySem.F.args_tuple_add_2 _ _)
   (tuple_addW1 t b vs.toArray ws.toArray n n2 dd dd2 sl sl2 (by simpa using hv) (by simp[hw])) ⟨ho,ho2,h1 hw⟩
 ·refine concat_meets ⟨_,ho,rfl⟩ ⟨_,ho2,rfl⟩ noFill_tuple_add seq_tuple_add PySem.F.slot_tuple_add PySem.F.entry_tuple_add (PySem.F.args_tuple_add_2 _ _)
   (tuple_addW2 t b vs.toArray ws.toArray n n2 dd dd2 sl sl2 (by simpa using hv) (by simpa using hw) (by rw[List.size_toArray,List.size_toArray];exact hsz)) ⟨ho,ho2,?_⟩
  rw[e]
  exact h2 hw
def sIx(n d:Nat):Option Int->Nat
|none=>d
|some v=>if v<0 then (v+(n:Int)).toNat else min v.toNat n
theorem sIx_none(n d:Nat):sIx n d none=d:=rfl
theorem sIx_nat(n d k:Nat):sIx n d (some (k:Int))=min k n:=by
 show (if (k:Int)<0 then ((k:Int)+(n:Int)).toNat else min (k:Int).toNat n)=min k n
 rw[if_neg (by lia),Int.toNat_natCast]
theorem sIx_le(n d:Nat)(hd:d<=n)(o:Option Int):sIx n d o<=n:=by
 cases o with
|none=>exact hd
|some v =>
  show (if v<0 then (v+(n:Int)).toNat else min v.toNat n)<=n
  by_cases hv:v<0
  ·rw[if_pos hv];lia
  ·rw[if_neg hv];exact Nat.min_le_right _ _
theorem qrd(v:Int)(n d:Nat):(if v<0 then max (v+(n:Int)) 0 else min v (n:Int))=((sIx n d (some v):Nat):Int):=by
 show (if v<0 then max (v+(n:Int)) 0 else min v (n:Int))=(((if v<0 then (v+(n:Int)).toNat else min v.toNat n):Nat):Int)
 by_cases hv:v<0
 ·simp only[if_pos hv];lia
 ·simp only[if_neg hv];lia
theorem qpk(lo hi:Option Int)(n:Nat):Builtin.Slice.sliceAdjust lo hi 1 (n:Int)=(((sIx n 0 lo:Nat):Int),((sIx n n hi:Nat):Int)):=by
 have h1:¬ ((1:Int)<0):=by lia
 unfold Builtin.Slice.sliceAdjust
 simp only[h1,if_false]
 refine Prod.ext ?_ ?_
 ·cases lo with
 |none=>rfl
 |some v=>exact qrd v n 0
 ·cases hi with
 |none=>rfl
 |some v=>exact qrd v n n
theorem qqa(i j:Nat):Builtin.Slice.slicePlaces (i:Int) (j:Int) 1=j-i:=by
 unfold Builtin.Slice.slicePlaces
 have h1:(1:Int)>0:=by lia
 simp only[h1,if_true,Int.ediv_one]
 split<;>lia
theorem qiv{v:Value}{o:Option Int}{Q:Option Int->Shared->Prop}(p:IsPart v o)(h:Q o s):wpAny (model prog w) A (Builtin.Slice.slicePartIndex v) Q E s:=by
 cases p with
|none=>exact slicePart_none h
|int i t=>exact slicePart_int h
theorem qd4{sl:Addr}{vl vu:Value}{lo hi:Option Int}{n:Nat}{Q:Int×Int×Nat->Shared->Prop}(hs:s.heap.IsSliceOf sl vl vu .none)(pl:IsPart vl lo)(pu:IsPart vu hi)
  (h:Q (((sIx n 0 lo:Nat):Int),1,sIx n n hi-sIx n 0 lo) s):wpAny (model prog w) A (Builtin.Slice.sliceApplied (.ref sl) (pure (n:Int))) Q E s:=by
 obtain⟨os,hos,hcs,hds⟩:=id hs
 unfold Builtin.Slice.sliceApplied Builtin.Slice.sliceFields
 refine wpAny_bind (wpAny_bind (wpAny_field hos hds (x:=vl) rfl (wpAny_bind (wpAny_field hos hds (x:=vu) rfl (wpAny_bind (wpAny_field hos hds (x:=.none) rfl (wpAny_pure ?_)))))))
 refine wpAny_bind (slicePart_none ?_)
 show wpAny _ _ (if ((1:Int)==0)=true then _ else _) _ _ s
 rw[if_neg (by decide)]
 refine wpAny_bind (qiv pl (wpAny_bind (qiv pu (wpAny_bind (wpAny_pure ?_)))))
 show wpAny _ _ (match Builtin.Slice.sliceAdjust lo hi 1 (n:Int) with|(lo,hi)=>pure (lo,(1:Int),Builtin.Slice.slicePlaces lo hi 1)) _ _ s
 rw[qpk lo hi n]
 show wpAny _ _ (pure (((sIx n 0 lo:Nat):Int),(1:Int),Builtin.Slice.slicePlaces ((sIx n 0 lo:Nat):Int) ((sIx n n hi:Nat):Int) 1)) _ _ s
 rw[qqa]
 exact wpAny_pure h
theorem qv0(xs:Array Value)(i k:Nat):((List.range k).filterMap λ(m:Nat)=>xs[((i:Int)+(m:Int)*1).toNat]?).toArray=((xs.toList.drop i).take k).toArray:=by
 have e:(λ(m:Nat)=>xs[((i:Int)+(m:Int)*1).toNat]?)=λm=>xs[i+m]?:=by
  funext m
  have:((i:Int)+(m:Int)*1).toNat=i+m:=by lia
  rw[this]
 rw[e]
 have:=pick_run xs i k
 rw[List.filterMap_map] at this
 have e2:((λx=>xs[x]?) ∘ λx=>i+x)=λm=>xs[i+m]?:=rfl
 rw[e2] at this
 rw[this]
theorem getItem_tuple_cut{t sl:Addr}{items:Array Value}{vl vu:Value}{lo hi:Option Int}{Q:Value->Shared->Prop}(ht:IsTup s.heap t items)(hs:s.heap.IsSliceOf sl vl vu .none)(pl:IsPart vl lo)(pu:IsPart vu hi)
  (hw:¬ (sIx items.size 0 lo=0/\sIx items.size items.size hi=items.size))
  (h:Q (.ref s.heap.objs.size) { s with heap:=s.heap.push { cls:=.type "tuple",data:=.seq ((items.toList.drop (sIx items.size 0 lo)).take (sIx items.size items.size hi-sIx items.size 0 lo)).toArray } })
  (hsz:items.size<=sizeLine):wpAny (model prog w) A (getItem (.ref t) (.ref sl)) Q E s:=by
 have htake:sizeOk (.seq ((items.toList.drop (sIx items.size 0 lo)).take (sIx items.size items.size hi-sIx items.size 0 lo)).toArray):=by
  show ((items.toList.drop (sIx items.size 0 lo)).take (sIx items.size items.size hi-sIx items.size 0 lo)).toArray.size<=sizeLine
  rw[List.size_toArray,List.length_take,List.length_drop,Array.length_toList]
  lia
 have hj:sIx items.size items.size hi<=items.size:=sIx_le _ _ (Nat.le_refl _) hi
 obtain⟨os,hos,hcs,hds⟩:=id hs
 have hTs:s.TypeIs (.ref sl) "slice" := ⟨os,hos,hcs⟩
 unfold getItem
 try with_reducible refine wpAny_holding ?_
 first|refine wpAny_bind (wpAny_pure ?_)|skip
 refine wpAny_bind (wpAny_sequenceKey ht.typeIs (by decide) ?_)
 refine wpAny_bind (wpAny_callSpecial?_slot (name:=Str.ofString "__getitem__") ht.typeIs PyProof.Rows.slot_tuple_getitem
  (wpAny_call_entry PyProof.Rows.slot_tuple_getitem ht.typeIs entry_tuple_getitem ?_ (args_tuple_getitem _ _)))
 show wpAny _ _ (Builtin.Tuple.tupleItemsOf (.ref t) >>= _) _ _ s
 refine wpAny_bind (tupleItemsOf_ ht ?_)
 refine wpAny_bind (wpAny_typeOf hTs ?_)
 rw[if_pos (by decide)]
 refine wpAny_bind (qd4 hs pl pu ?_)
 have hno:¬ ((((sIx items.size 0 lo:Nat):Int)==0&&(1:Int)==1&&(sIx items.size items.size hi-sIx items.size 0 lo)==items.size)=true):=by
  intro q
  rw[Bool.and_eq_true,Bool.and_eq_true] at q
  have q1:((sIx items.size 0 lo:Nat):Int)=0:=eq_of_beq q.1.1
  have q2:sIx items.size items.size hi-sIx items.size 0 lo=items.size:=eq_of_beq q.2
  exact hw ⟨by lia,by lia⟩
 show wpAny _ _ (if (((sIx items.size 0 lo:Nat):Int)==0&&(1:Int)==1&&(sIx items.size items.size hi-sIx items.size 0 lo)==items.size)=true then _ else _) _ _ s
 rw[if_neg hno,qv0]
 first
 |exact wpAny_bind (m:=Builtin.Tuple.tupleExact _) (wpAny_newObj_type (wpAny_pure ⟨_,rfl,wpAny_pure h⟩) htake)
 |exact wpAny_bind (m:=Builtin.Tuple.tupleExact _) (wpAny_newObj_type (wpAny_bind (wpAny_pure (wpAny_pure ⟨_,rfl,wpAny_pure h⟩))) htake)
 |exact wpAny_bind (wpAny_bind (m:=Builtin.Tuple.tupleExact _) (wpAny_newObj_type (wpAny_pure (wpAny_pure ⟨_,rfl,wpAny_pure h⟩)) htake))
 |exact wpAny_bind (wpAny_bind (m:=Builtin.Tuple.tupleExact _) (wpAny_newObj_type (wpAny_pure ⟨_,rfl,wpAny_pure h⟩) htake))
end
end HT
namespace L2
open PySem PySem.Spec PyProof.Rows
abbrev TO:=St->Hp->(Option Int->Hp->Prop)->Prop
def PO(X:Cx)(e:Option Expr)(t:TO):Prop :=
 ∀(pins:List (Addr×Obj)) (s:Shared) (σ:St) (H:Hp) (Q:Option Int->Hp->Prop),Inv X pins σ H s->t σ H Q ->
  wpAny (model X.prog X.w) X.A (evalPart e X.env) (λu s'=>∃o H',Inv X pins σ H' s'/\IsPart u o/\Q o H') X.xe s
def qtw:TO:=λ_ H Q=>Q none H
def q4b(t:TE):TO:=λσ H Q=>t σ H λx H1=>∃i,x=.int i/\Q (some i) H1
section
variable {X:Cx} {e:Expr} {te:TE} {lo hi:Option Expr} {tl th:TO} {pos p2:Pos}
theorem qz1:PO X none qtw:=by
 intro pins s σ H Q I h
 rw[evalPart_none]
 exact wpAny_pure ⟨none,H,I,.none,h⟩
theorem qz2(h:PE X e te):PO X (some e) (q4b te):=by
 intro pins s σ H Q I hw
 rw[evalPart_some]
 refine thn (h pins s σ H _ I hw) λu s1 ⟨x,H1,I1,r1,q1⟩=>?_
 obtain⟨i,rfl,q⟩:=q1
 obtain⟨t,rfl⟩:=r1
 exact⟨some i,H1,I1,.int i t,q⟩
def SlR(X:Cx)(r:V->Option Int->Option Int->Hp->VK->Prop):Prop :=
 ∀(pins:List (Addr×Obj)) (s:Shared) (σ:St) (H:Hp) (x:V) (v vl vu:Value) (lo hi:Option Int) (sl:Addr) (Q:VK),Inv X pins σ H s->RelV x v->s.heap.IsSliceOf sl vl vu .none->IsPart vl lo->IsPart vu hi->r x lo hi H Q ->
  ∃T id,typeLookup (.type T) "__getitem__" = pure (some (.builtin id))/\s.TypeIs v T/\wpAny (model X.prog X.w) X.A (getItem v (.ref sl)) (EP X pins σ Q) X.xe s
theorem SlR.or{r r':V->Option Int->Option Int->Hp->VK->Prop}(h:SlR X r)(h':SlR X r'):SlR X (λx lo hi H Q=>r x lo hi H Q\/r' x lo hi H Q):=by
 intro pins s σ H x v vl vu lo hi sl Q I rx hs pl pu q
 rcases q with q|q
 ·exact h pins s σ H x v vl vu lo hi sl Q I rx hs pl pu q
 ·exact h' pins s σ H x v vl vu lo hi sl Q I rx hs pl pu q
def tSl(r:V->Option Int->Option Int->Hp->VK->Prop)(te:TE)(tl th:TO):TE:=λσ H Q=>te σ H λx H1=>tl σ H1 λl H2=>th σ H2 λu H3=>r x l u H3 Q
theorem qvx{r:V->Option Int->Option Int->Hp->VK->Prop}(hr:SlR X r)(he:PE X e te)(hl:PO X lo tl)(hu:PO X hi th):PE X (.Subscript e (.Slice lo hi none p2) pos) (tSl r te tl th):=by
 intro pins s σ H Q I h
 refine Subscript_ (thn (he pins s σ H _ I h) λv s1 ⟨x,H1,I1,r1,q1⟩=>?_)
 refine wpAny_Slice (thn (hl pins s1 σ H1 _ I1 q1) λvl s2 ⟨l,H2,I2,pl,q2⟩=>thn (hu pins s2 σ H2 _ I2 q2) λvu s3 ⟨u,H3,I3,pu,q3⟩=>?_)
 rw[evalPart_none]
 refine wpAny_pure ?_
 have I4:Inv X pins σ H3 { s3 with heap:=s3.heap.push { cls:=.type "slice",data:=.fields #[vl,vu,.none] } }:=I3.kept (t':=s3.toks) λb ob q=>Heap.get?_push_of_some _ q
 obtain⟨T,id,hT,ht,hg⟩:=hr pins { s3 with heap:=s3.heap.push { cls:=.type "slice",data:=.fields #[vl,vu,.none] } } σ H3 x v vl vu l u s3.heap.objs.size Q I4 r1 (Heap.IsSliceOf.new ..) pl pu q3
 show wpAny (model X.prog X.w) X.A (subscriptTail e (.Slice lo hi none p2) v (.ref s3.heap.objs.size)) (EP X pins σ Q) X.xe { s3 with heap:=s3.heap.push { cls:=.type "slice",data:=.fields #[vl,vu,.none] } }
 exact tail_any (ops:=[.ref s3.heap.objs.size,v]) ht hT hg (by with_unfolding_all rfl)
def cutV(xs:List V)(lo hi:Option Int):List V:=(xs.drop (HT.sIx xs.length 0 lo)).take (HT.sIx xs.length xs.length hi-HT.sIx xs.length 0 lo)
theorem qg7(xs:List V)(lo hi:Option Int):(cutV xs lo hi).length<=xs.length:=by
 unfold cutV
 rw[List.length_take,List.length_drop]
 lia
def rSlT(K:PySem.W.Frag):V->Option Int->Option Int->Hp->VK->Prop:=λx lo hi H Q=>∃a xs,x=.ref a/\SqT K H a xs /\
 ¬ (HT.sIx xs.length 0 lo=0/\HT.sIx xs.length xs.length hi=xs.length)/\∀p,H p=none->Q (.ref p) (upd H p (.tup (cutV xs lo hi)))
theorem q34:SlR X (rSlT X.K):=by
 intro pins s σ H x v vl vu lo hi sl Q I rx hs pl pu h
 obtain⟨a,xs,rfl,hx,hw,q⟩:=h
 cases rx
 obtain⟨its,r,ht,hz⟩:=I.tuple hx
 have hlen:its.toArray.size=xs.length:=by rw[List.size_toArray];exact r.length.symm
 refine⟨"tuple",_,PyProof.Rows.slot_tuple_getitem.lookup,ht.typeIs,?_⟩
 refine HT.getItem_tuple_cut ht hs pl pu (by rw[hlen];exact hw) ?_ (by rw[hlen];exact hz)
 rw[hlen]
 refine⟨.ref s.heap.objs.size,_,I.laid (t':=s.toks) (o:=.tup (cutV xs lo hi)) (λb ob q=>Heap.get?_push_of_some _ q) (Nat.le_refl _) ?_,rfl,q _ (I.hok.fresh (Nat.le_refl _))⟩
 exact⟨Nat.le_trans (qg7 xs lo hi) hz,_,(r.drop (HT.sIx xs.length 0 lo)).take (HT.sIx xs.length xs.length hi-HT.sIx xs.length 0 lo),IsTup.new _ _⟩
def q5l(K:PySem.W.Frag):R2:=λx y H Q=>∃a b xs ys,x=.ref a/\y=.ref b/\SqT K H a xs/\SqT K H b ys/\xs≠[]/\xs.length+ys.length<=sizeLine /\
 (ys=[]->Q (.ref a) H)/\(ys≠[]->∀p,H p=none->Q (.ref p) (upd H p (.tup (xs++ys))))
theorem Vals.nil_iff{xs:List V}{us:List Value}(r:Vals xs us):us=[]↔xs=[]:=by
 cases r with
|nil=>simp
|cons _ _=>simp
theorem qzi:OpR X (binaryOp .Add) (q5l X.K):=by
 intro pins s σ H x y v u Q I rx ry h
 obtain⟨a,b,xs,ys,rfl,rfl,ha,hb,hx,hz,q1,q2⟩:=h
 cases rx
 cases ry
 obtain⟨its,r1,p1,_⟩:=I.tuple ha
 obtain⟨its2,r2,p2,_⟩:=I.tuple hb
 refine HT.cat_tup p1 p2 (λz=>hx (r1.nil_iff.mp z)) (λz=>⟨.ref a,H,I,rfl,q1 (r2.nil_iff.mp z)⟩) (λz=>?_) (by rw[←r1.length,←r2.length];exact hz)
 refine⟨.ref s.heap.objs.size,_,I.laid (t':=s.toks) (o:=.tup (xs++ys)) (λb ob q=>Heap.get?_push_of_some _ q) (Nat.le_refl _) ?_,rfl,q2 (λw=>z (r2.nil_iff.mpr w)) _ (I.hok.fresh (Nat.le_refl _))⟩
 exact⟨by rw[List.length_append];exact hz,_,r1.append r2,IsTup.new _ _⟩
end
end L2
namespace L2
open PySem PySem.Spec PyProof.Rows
def ixN(n:Nat)(i:Int):Option Nat:=if 0<=i then (if i<n then some i.toNat else none) else if -(n:Int)<=i then some (i+n).toNat else none
def atI{α:Type}(xs:List α)(i:Int):Option α:=(ixN xs.length i).bind λj=>xs[j]?
theorem qy3{n:Nat}{i:Int}{j:Nat}(h:ixN n i=some j):seqIndex? i n=some j/\j<n/\-(n:Int)<=i/\i<n:=by
 unfold ixN at h
 by_cases h0:0<=i
 ·rw[if_pos h0] at h
  by_cases h1:i<n
  ·rw[if_pos h1] at h
   have e:i.toNat=j:=Option.some.inj h
   exact⟨by rw[seqIndex_of h0 h1,e],by lia,by lia,h1⟩
  ·rw[if_neg h1] at h;cases h
 ·rw[if_neg h0] at h
  by_cases h1:-(n:Int)<=i
  ·rw[if_pos h1] at h
   have e:(i+n).toNat=j:=Option.some.inj h
   exact⟨by rw[seqIndex_neg (by lia) h1,e],by lia,h1,by lia⟩
  ·rw[if_neg h1] at h;cases h
theorem qma{α:Type}{xs:List α}{i:Int}{v:α}(h:atI xs i=some v):∃j,seqIndex? i xs.length=some j/\xs[j]?=some v/\j<xs.length/\-(xs.length:Int)<=i/\i<xs.length:=by
 unfold atI at h
 cases e:ixN xs.length i with
|none=>rw[e] at h;cases h
|some j =>
  rw[e] at h
  obtain⟨h1,h2,h3,h4⟩:=qy3 e
  exact⟨j,h1,h,h2,h3,h4⟩
theorem qq9{α:Type}{xs:List α}{j:Nat}{v:α}(h:xs[j]?=some v):atI xs (j:Int)=some v:=by
 have hj:j<xs.length:=(List.getElem?_eq_some_iff.mp h).1
 have e:ixN xs.length (j:Int)=some j:=by
  unfold ixN
  rw[if_pos (by lia),if_pos (by lia)];simp
 unfold atI;rw[e];exact h
def ql7(b:Expr):Prop:=∀o i,subscripted b false o i=operate [o,i] (getItem o i)
def IxR(X:Cx)(r:R2):Prop :=
 ∀(value slice:Expr) (pins:List (Addr×Obj)) (s:Shared) (σ:St) (H:Hp) (x y:V) (v u:Value) (Q:VK),Inv X pins σ H s->RelV x v->RelV y u->r x y H Q ->
  subscripted slice false v u=operate [v,u] (getItem v u)->wpAny (model X.prog X.w) X.A (subscriptTail value slice v u) (EP X pins σ Q) X.xe s
def MtR(X:Cx)(id:String)(r:V->List V->Hp->VK->Prop):Prop :=
 ∀(pins:List (Addr×Obj)) (s:Shared) (σ:St) (H:Hp) (x:V) (xs:List V) (v:Value) (us:List Value) (Q:VK),Inv X pins σ H s->RelV x v->Vals xs us->r x xs H Q ->
  wpAny (model X.prog X.w) X.A (call (.builtin id) (v::us)) (EP X pins σ Q) X.xe s
section
variable {X:Cx} {a b:Expr} {ta tb:TE} {pos:Pos}
theorem IxR.or{r r':R2}(h:IxR X r)(h':IxR X r'):IxR X (λx y H Q=>r x y H Q\/r' x y H Q):=by
 intro value slice pins s σ H x y v u Q I rx ry q hs
 rcases q with q|q
 ·exact h value slice pins s σ H x y v u Q I rx ry q hs
 ·exact h' value slice pins s σ H x y v u Q I rx ry q hs
theorem MtR.or{id:String}{r r':V->List V->Hp->VK->Prop}(h:MtR X id r)(h':MtR X id r'):MtR X id (λx xs H Q=>r x xs H Q\/r' x xs H Q):=by
 intro pins s σ H x xs v us Q I rx rs q
 rcases q with q|q
 ·exact h pins s σ H x xs v us Q I rx rs q
 ·exact h' pins s σ H x xs v us Q I rx rs q
theorem q48{r:R2}(hr:IxR X r)(ha:PE X a ta)(hb:PE X b tb)(hs:ql7 b):PE X (.Subscript a b pos) (tOp r ta tb):=by
 intro pins s σ H Q I h
 exact Subscript_ (binT ha hb I h λv u s2 x y H2 I2 rx ry q=>hr a b pins s2 σ H2 x y v u Q I2 rx ry q (hs _ _))
def rIxL(K:PySem.W.Frag):R2:=λx y H Q=>∃p xs i v,x=.ref p/\y=.int i/\SqL K H p xs/\atI xs i=some v/\Q v H
def rIxT(K:PySem.W.Frag):R2:=λx y H Q=>∃p xs i v,x=.ref p/\y=.int i/\SqT K H p xs/\atI xs i=some v/\Q v H
def rIxS:R2:=λx y H Q=>∃z i c,x=.str z/\y=.int i/\z.length<=sizeLine/\atI z.cps.toList i=some c/\Q (.str ⟨#[c]⟩) H
theorem qy4:IxR X (rIxL X.K):=by
 intro value slice pins s σ H x y v u Q I rx ry h hs
 obtain⟨p,xs,i,z,rfl,rfl,hq,he,q⟩:=h
 cases rx
 obtain⟨t,rfl⟩:=ry
 obtain⟨its,r,pl,hz⟩:=I.list hq
 obtain⟨j,h1,h2,h3,h4,h5⟩:=qma he
 obtain⟨w,ew,rw'⟩:=r.get h2
 have hl:=r.length
 have hn:=qlb
 have fin:EP X pins σ Q w s:=⟨z,H,I,rw',q⟩
 by_cases h0:0<=i
 ·have hj:i.toNat=j:=by
   rw[seqIndex_of h0 h5] at h1
   exact Option.some.inj h1
  exact item_listR pl.isList h0 (by lia) (by rw[hj];simpa using ew) fin hs
 ·have hj:(i+(its.toArray.size:Int)).toNat=j:=by
   rw[seqIndex_neg (by lia) h4] at h1
   rw[List.size_toArray,←hl]
   exact Option.some.inj h1
  exact subscriptTail_builtinR (x:=w) pl.isList.typeIs slot_list_getitem.lookup
   (wpAny_getItem_list_neg (Q:=λr s'=>r=w/\EP X pins σ Q r s') pl.isList (by lia) (by rw[List.size_toArray]<;>lia) (by lia) (by rw[hj];simpa using ew) ⟨rfl,fin⟩) hs
theorem ix_tup:IxR X (rIxT X.K):=by
 intro value slice pins s σ H x y v u Q I rx ry h hs
 obtain⟨p,xs,i,z,rfl,rfl,hq,he,q⟩:=h
 cases rx
 obtain⟨t,rfl⟩:=ry
 obtain⟨its,r,pl,hz⟩:=I.tuple hq
 obtain⟨j,h1,h2,h3,h4,h5⟩:=qma he
 obtain⟨w,ew,rw'⟩:=r.get h2
 have hl:=r.length
 have hn:=qlb
 have fin:EP X pins σ Q w s:=⟨z,H,I,rw',q⟩
 exact subscriptTail_builtinR (x:=w) pl.typeIs slot_tuple_getitem.lookup
  (getItem_tuple (j:=j) (Q:=λr s'=>r=w/\EP X pins σ Q r s') pl (by lia) (by lia) (by rw[List.size_toArray,←hl];exact h1) (by simpa using ew) ⟨rfl,fin⟩) hs
theorem ix_str:IxR X rIxS:=by
 intro value slice pins s σ H x y v u Q I rx ry h hs
 obtain⟨z,i,c,rfl,rfl,hz,he,q⟩:=h
 obtain⟨t,rfl⟩:=rx
 obtain⟨t',rfl⟩:=ry
 obtain⟨j,h1,h2,h3,h4,h5⟩:=qma he
 have hl:z.cps.toList.length=z.length:=by simp[Str.length]
 rw[hl] at h1 h4 h5
 have hn:=qlb
 exact tail_any (typeIs_str s z t) slot_str_getitem.lookup (getItem_str (c:=c) (by
  have e1:decide (i < -(2 ^ 63:Int))=false:=decide_eq_false (by lia)
  have e2:decide (i≥2 ^ 63)=false:=decide_eq_false (by lia)
  rw[e1,e2,Bool.or_false]) (by rw[h1];simpa using h2) ⟨.str ⟨#[c]⟩,H,I.tok _,⟨_,rfl⟩,q⟩) hs
theorem qlq(lo hi:Option Int)(n:Nat):(sliceBounds lo hi none n).1=((HT.sIx n 0 lo:Nat):Int)/\(sliceBounds lo hi none n).2.1=((HT.sIx n n hi:Nat):Int)/\(sliceBounds lo hi none n).2.2=1:=by
 refine⟨?_,?_,rfl⟩
 ·cases lo with
 |none=>simp[sliceBounds,HT.sIx]
 |some i =>
   simp only[sliceBounds,HT.sIx,Option.getD_none,show (1:Int)>0 by decide,if_true]
   by_cases h:i<0
   ·simp only[h,if_true]<;>lia
   ·simp only[h,if_false]<;>lia
 ·cases hi with
 |none=>simp[sliceBounds,HT.sIx]
 |some i =>
   simp only[sliceBounds,HT.sIx,Option.getD_none,show (1:Int)>0 by decide,if_true]
   by_cases h:i<0
   ·simp only[h,if_true]<;>lia
   ·simp only[h,if_false]<;>lia
theorem qj0(its:List Value)(lo hi:Option Int):slicePick its.toArray lo hi none=((its.drop (HT.sIx its.length 0 lo)).take (HT.sIx its.length its.length hi-HT.sIx its.length 0 lo)).toArray:=by
 obtain⟨h1,h2,h3⟩:=qlq lo hi its.toArray.size
 unfold slicePick
 rw[h1,h2,h3]
 simp only[sliceRange_one,pick_run,List.size_toArray]<;>rfl
def rSlL(K:PySem.W.Frag):V->Option Int->Option Int->Hp->VK->Prop:=λx lo hi H Q=>∃a xs,x=.ref a/\SqL K H a xs/\∀p,H p=none->Q (.ref p) (upd H p (.lst (cutV xs lo hi)))
theorem q04:SlR X (rSlL X.K):=by
 intro pins s σ H x v vl vu lo hi sl Q I rx hs pl pu h
 obtain⟨a,xs,rfl,hx,q⟩:=h
 cases rx
 obtain⟨its,r,ht,hz⟩:=I.list hx
 have hlen:=r.length
 refine⟨"list",_,slot_list_getitem.lookup,ht.isList.typeIs,?_⟩
 refine wpAny_getItem_list_slice ht.isList hs pl pu .none (by simp) ?_ (by rw[List.size_toArray]<;>lia)
 rw[qj0,←hlen]
 refine⟨.ref s.heap.objs.size,_,I.laid (t':=s.toks) (o:=.lst (cutV xs lo hi)) (λb ob q=>Heap.get?_push_of_some _ q) (Nat.le_refl _) ?_,rfl,q _ (I.hok.fresh (Nat.le_refl _))⟩
 exact⟨Nat.le_trans (qg7 xs lo hi) hz,_,0,(r.drop (HT.sIx xs.length 0 lo)).take (HT.sIx xs.length xs.length hi-HT.sIx xs.length 0 lo),Heap.get?_push_size _ rfl⟩
def qgp:V->Bool
|.non=>true
|.bl _=>true
|.int _=>true
|.str _=>true
|_=>false
def eqV:V->V->Bool
|.non,.non=>true
|.bl a,.bl b=>a==b
|.bl a,.int b=>(if a then 1 else 0)==b
|.int a,.bl b=>a==(if b then 1 else 0)
|.int a,.int b=>a==b
|.str a,.str b=>a==b
|_,_=>false
theorem qw8{A:Around}{s:Shared}{y x:V}{u v:Value}(ry:RelV y u)(rx:RelV x v)(fy:qgp y=true)(fx:qgp x=true):SeqAt.EqAt A s u v (eqV y x):=by
 cases y with
|non =>
  cases ry
  cases x with
 |non=>cases rx;exact SeqAt.EqAt.same _
 |bl b=>cases rx;exact SeqAt.EqAt.none_bool b
 |int b=>obtain⟨t,rfl⟩:=rx;exact SeqAt.EqAt.none_int b t
 |str b=>obtain⟨t,rfl⟩:=rx;exact SeqAt.EqAt.none_str b t
 |_=>exact absurd (show false=true from fx) Bool.false_ne_true
|bl a =>
  cases ry
  cases x with
 |non=>cases rx;exact SeqAt.EqAt.bool_none a
 |bl b=>cases rx;exact SeqAt.EqAt.bool_bool a b
 |int b=>obtain⟨t,rfl⟩:=rx;exact SeqAt.EqAt.bool_int a b t
 |str b=>obtain⟨t,rfl⟩:=rx;exact SeqAt.EqAt.bool_str a b t
 |_=>exact absurd (show false=true from fx) Bool.false_ne_true
|int a =>
  obtain⟨t',rfl⟩:=ry
  cases x with
 |non=>cases rx;exact SeqAt.EqAt.int_none a t'
 |bl b=>cases rx;exact SeqAt.EqAt.int_bool a t' b
 |int b=>obtain⟨t,rfl⟩:=rx;exact SeqAt.EqAt.int_int a t' b t
 |str b=>obtain⟨t,rfl⟩:=rx;exact SeqAt.EqAt.int_str a t' b t
 |_=>exact absurd (show false=true from fx) Bool.false_ne_true
|str a =>
  obtain⟨t',rfl⟩:=ry
  cases x with
 |non=>cases rx;exact SeqAt.EqAt.str_none a t'
 |bl b=>cases rx;exact SeqAt.EqAt.str_bool a t' b
 |int b=>obtain⟨t,rfl⟩:=rx;exact SeqAt.EqAt.str_int a t' b t
 |str b=>obtain⟨t,rfl⟩:=rx;exact SeqAt.EqAt.str_str a t' b t
 |_=>exact absurd (show false=true from fx) Bool.false_ne_true
|_=>exact absurd (show false=true from fy) Bool.false_ne_true
def eqU(x:V)(u:Value):Bool:=match u with
|.none=>eqV .non x
|.bool b=>eqV (.bl b) x
|.int i _=>eqV (.int i) x
|.str z _=>eqV (.str z) x
|_=>false
theorem qw9{x y:V}{u:Value}(r:RelV y u)(f:qgp y=true):eqU x u=eqV y x:=by
 cases y with
|non=>cases r;rfl
|bl b=>cases r;rfl
|int i=>obtain⟨t,rfl⟩:=r;rfl
|str z=>obtain⟨t,rfl⟩:=r;rfl
|_=>exact absurd (show false=true from f) Bool.false_ne_true
theorem ql9{x:V}:∀ {xs:List V} {us:List Value},Vals xs us->xs.all qgp=true->us.any (eqU x)=xs.any λy=>eqV y x
|_,_,.nil,_=>rfl
|y::xs,u::us,.cons r t,f=>by
  rw[List.all_cons,Bool.and_eq_true] at f
  rw[List.any_cons,List.any_cons,qw9 r f.1,ql9 t f.2]
theorem qjk{A:Around}{s:Shared}{x:V}{v:Value}(rx:RelV x v)(fx:qgp x=true):∀ {xs:List V} {us:List Value},Vals xs us->xs.all qgp=true->∀u∈us,SeqAt.EqAt A s u v (eqU x u)
|_,_,.nil,_=>λu hu=>by cases hu
|y::xs,u::us,.cons r t,f=>λu' hu=>by
  rw[List.all_cons,Bool.and_eq_true] at f
  rcases List.mem_cons.mp hu with rfl|hu
  ·rw[qw9 r f.1];exact qw8 r rx f.1 fx
  ·exact qjk rx fx t f.2 u' hu
def inV(x:V)(xs:List V):Bool:=xs.any λy=>eqV y x
def rIn(K:PySem.W.Frag)(neg:Bool):R2:=λx y H Q=>∃p xs,y=.ref p/\(SqL K H p xs\/SqT K H p xs)/\qgp x=true/\xs.all qgp=true/\Q (.bl (if neg then !inV x xs else inV x xs)) H
theorem qs6:OpR X (compareOp .In) (rIn X.K false):=by
 intro pins s σ H x y v u Q I rx ry h
 obtain⟨p,xs,rfl,hq,fx,fs,q⟩:=h
 cases ry
 rcases hq with hq|hq
 ·obtain⟨its,r,pl,hz⟩:=I.list hq
  refine SeqAt.in_listAt (eqU x) pl.isList (λw hw=>qjk rx fx r fs w (by simpa using hw)) ⟨.bl _,H,I,rfl,?_⟩
  rw[show its.toArray.any (eqU x)=its.any (eqU x) by simp,ql9 r fs]
  exact q
 ·obtain⟨its,r,pl,hz⟩:=I.tuple hq
  refine SeqAt.in_tupleAt (eqU x) pl (λw hw=>qjk rx fx r fs w (by simpa using hw)) ⟨.bl _,H,I,rfl,?_⟩
  rw[show its.toArray.any (eqU x)=its.any (eqU x) by simp,ql9 r fs]
  exact q
theorem qkq:CallR X (.builtin "len") (λxs H Q=>∃p ys,xs=[.ref p]/\(SqL X.K H p ys\/SqT X.K H p ys)/\Q (.int ys.length) H):=by
 intro pins s σ H xs us Q I r h
 obtain⟨p,ys,rfl,hq,q⟩:=h
 obtain⟨u,rfl,rx⟩:=vals1 r
 cases rx
 have hn:=qlb
 rcases hq with hq|hq
 ·obtain⟨its,r',pl,hz⟩:=I.list hq
  have hlen:=r'.length
  exact Calls.call_len_list pl.isList (by simp only[List.size_toArray]<;>lia) ⟨.int ys.length,H,I.tok _,⟨s.toks+1,by rw[List.size_toArray,hlen]⟩,q⟩
 ·obtain⟨its,r',pl,hz⟩:=I.tuple hq
  have hlen:=r'.length
  exact len_tuple pl (by simp only[List.size_toArray]<;>lia) ⟨.int ys.length,H,I.tok _,⟨s.toks+1,by rw[List.size_toArray,hlen]⟩,q⟩
theorem call_len_str:CallR X (.builtin "len") (λxs H Q=>∃z,xs=[.str z]/\z.length<=sizeLine/\Q (.int z.length) H):=by
 intro pins s σ H xs us Q I r h
 obtain⟨z,rfl,hz,q⟩:=h
 obtain⟨u,rfl,t,rfl⟩:=vals1 r
 have hn:=qlb
 exact len_str (by lia) ⟨.int z.length,H,I.tok _,⟨_,rfl⟩,q⟩
theorem CallR.or{f:Value}{r r':List V->Hp->VK->Prop}(h:CallR X f r)(h':CallR X f r'):CallR X f (λxs H Q=>r xs H Q\/r' xs H Q):=by
 intro pins s σ H xs us Q I rs q
 rcases q with q|q
 ·exact h pins s σ H xs us Q I rs q
 ·exact h' pins s σ H xs us Q I rs q
theorem qks:CallR X (.type "list") (λxs H Q=>∃p ys,xs=[.ref p]/\(SqL X.K H p ys\/SqT X.K H p ys)/\∀l,H l=none->Q (.ref l) (upd H l (.lst ys))):=by
 intro pins s σ H xs us Q I r h
 obtain⟨p,ys,rfl,hq,q⟩:=h
 obtain⟨u,rfl,rx⟩:=vals1 r
 cases rx
 have fin:∀(its:List Value),Vals ys its->ys.length<=sizeLine->∀(h':Heap) (c':Nat),(∀b o',s.heap.get? b=some o'->h'.get? b=some o') ->
   h'.get? s.heap.objs.size=some { cls:=.type "list",dict:=none,data:=.seq its.toArray c',slots:=#[] }->EP X pins σ Q (.ref s.heap.objs.size) { s with heap:=h' }:=λits r' hz h' c' kp e =>
  ⟨.ref s.heap.objs.size,_,I.laid (t':=s.toks) kp (Nat.le_refl _) (show ObjOk X.prog X.w _ h' _ (.lst ys) from ⟨hz,its,c',r',e⟩),rfl,q _ (I.hok.fresh (Nat.le_refl _))⟩
 rcases hq with hq|hq
 ·obtain⟨its,r',pl,hz⟩:=I.list hq
  have hlen:=r'.length
  obtain⟨o,ho,hc,n,hd⟩:=pl.isList
  exact call_list_seq p (.inl rfl) ho hc hd (λh' c' kp e=>fin its r' hz h' c' kp e) (by simp only[List.size_toArray]<;>lia)
 ·obtain⟨its,r',pl,hz⟩:=I.tuple hq
  have hlen:=r'.length
  obtain⟨o,ho,hc,n,hd⟩:=pl
  exact call_list_seq p (.inr rfl) ho hc hd (λh' c' kp e=>fin its r' hz h' c' kp e) (by simp only[List.size_toArray]<;>lia)
def tyV(K:PySem.W.Frag)(T:String)(x:V)(H:Hp):Prop:=match x with
|.str _=>T="str"
|.int _=>T="int"
|.ref p=>(T="list" /\ ∃xs,SqL K H p xs)\/(T="tuple" /\ ∃o,K.lookup p=some o/\o.cls=.type "tuple" /\ o.dict=none) \/
   (T="dict" /\ ((∃kvs,H p=some (.dK kvs))\/∃kvs,H p=some (.dT kvs)))\/(T="set" /\ ∃S n,H p=some (.set S n))
|_=>False
theorem q4e{pins:List (Addr×Obj)}{σ:St}{H:Hp}{s:Shared}{T:String}{x:V}{v:Value}(I:Inv X pins σ H s)(r:RelV x v)(ty:tyV X.K T x H) :
  s.TypeIs v T/\∀a,v=.ref a->∃ob,s.heap.get? a=some ob/\ob.dict=none:=by
 cases x with
|str z =>
  obtain⟨t,rfl⟩:=r
  cases (show T="str" from ty)
  exact⟨typeIs_str s z t,λ_ e=>nomatch e⟩
|int i =>
  obtain⟨t,rfl⟩:=r
  cases (show T="int" from ty)
  exact⟨typeIs_int s i t,λ_ e=>nomatch e⟩
|ref p =>
  cases r
  rcases ty with ⟨rfl,xs,hq⟩|⟨rfl,o,hk,hc,hd⟩|⟨rfl,hk⟩|⟨rfl,S,n,hk⟩
  ·obtain⟨its,_,pl,_⟩:=I.list hq
   refine⟨pl.isList.typeIs,λa e=>?_⟩
   cases e
   obtain⟨o,n,e,c,hd,_⟩:=pl
   exact⟨o,e,hd⟩
  ·refine⟨⟨o,I.kIn p o hk,hc⟩,λa e=>?_⟩
   cases e
   exact⟨o,I.kIn _ o hk,hd⟩
  ·have z:∃o,s.heap.get? p=some o/\o.ExactDict:=by
    rcases hk with ⟨kvs,hk⟩|⟨kvs,hk⟩
    ·obtain⟨_,_,_,_,o,_,_,e,ex,_⟩:=I.hok p _ hk
     exact⟨o,e,ex⟩
    ·obtain⟨_,_,_,_,o,_,_,e,ex,_⟩:=I.hok p _ hk
     exact⟨o,e,ex⟩
   obtain⟨o,e,ex⟩:=z
   refine⟨⟨o,e,ex.1⟩,λa e2=>?_⟩
   cases e2
   exact⟨o,e,ex.2.1⟩
  ·obtain⟨o,_,_,_,e,ex,_⟩:=I.hok p _ hk
   refine⟨⟨o,e,ex.1⟩,λa e2=>?_⟩
   cases e2
   exact⟨o,e,ex.2.1⟩
|_=>exact False.elim ty
def tBM(K:PySem.W.Frag)(T:String)(r:V->List V->Hp->VK->Prop)(to:TE)(t:TA):TE:=λσ H Q=>to σ H λx H1=>tyV K T x H1/\t σ H1 λxs H2=>r x xs H2 Q
variable {o e:Expr} {es:List Expr} {to:TE} {t:TA} {name:Str} {apos cpos:Pos} {T id:String} {r:V->List V->Hp->VK->Prop}
theorem q47(pa:PlainAttrs T)(slot:Slot T name id)(hty:typeOf (.builtin id)=pure (.type "method_descriptor"))(hm:MtR X id r)(ho:PE X o to)(ha:PA X (e::es) t)
  (hbase:attributeBase o name X.env (eval o X.env)=eval o X.env:=by rfl)
  (hfew:((backTo cpos (starEach (e::es) X.env)).all (λx=>!x.1)&&(backToKw cpos (keywordEach [] X.env)).all (λx=>x.1.isSome)
   && decide ((e::es).length+([]:List Keyword).length+(if ([]:List Keyword).isEmpty then 0 else 1)<30))=true:=by rfl)
  (hline:(apos.endLine==cpos.line)=true:=by rfl) (hs:starEach (e::es) X.env=(false,eval e X.env)::starEach es X.env:=by rfl) (hplain:(backTo cpos (starEach es X.env)).any (·.1)=false:=by rfl) :
  PE X (.Call (.Attribute o name apos) (e::es) [] cpos) (tBM X.K T r to t):=by
 intro pins s σ H Q I h
 refine wpAny_Call_method_late hbase hfew hline rfl (thn (ho pins s σ H _ I h) λv s1 ⟨x,H1,I1,r1,ty,q1⟩=>?_)
 obtain⟨h1,h2⟩:=q4e I1 r1 ty
 refine⟨T,id,pa,slot,hty,h1,h2,?_⟩
 have hA:=ha cpos pins s1 σ H1 _ I1 q1
 rw[hs] at hA ⊢
 refine Calls.callWith_builtin (by show (false||(backTo cpos (starEach es X.env)).any (·.1))=false;rw[hplain]<;>rfl) (Calls.evalArgs_plain ?_)
 exact thn hA λus s2 ⟨vs,H2,I2,r2,q2⟩=>hm pins s2 σ H2 x vs v us Q I2 r1 r2 q2
end
end L2
namespace L2
open PySem PySem.Spec PyProof.Rows
def MtM(X:Cx)(id:String)(r:V->List V->Hp->VK->Prop):Prop :=
 ∀(pins:List (Addr×Obj)) (s:Shared) (σ:St) (H:Hp) (x:V) (xs:List V) (v:Value) (us:List Value) (Q:VK),Inv X pins σ H s->RelV x v->Vals xs us->r x xs H Q ->
  wpAny (model X.prog X.w) X.A (call (.builtin id) (v::us)) (EP X pins σ Q) X.xe s
theorem Vals.one:∀ {x:V} {us:List Value},Vals [x] us->∃u,us=[u]/\RelV x u
|_,_,.cons r .nil=>⟨_,rfl,r⟩
theorem Vals.rep{xs:List V}{us:List Value}(h:Vals xs us):∀k:Nat,Vals (List.replicate k xs).flatten (List.replicate k us).flatten
|0=>.nil
|k+1=>by
  rw[List.replicate_succ,List.replicate_succ,List.flatten_cons,List.flatten_cons]
  exact Vals.append h (Vals.rep h k)
theorem foldl_rep(its:List Value):∀(k:Nat) (acc:List Value),
  List.foldl (λx1 x2=>x1++x2) acc.toArray (List.replicate k its.toArray)=(acc++(List.replicate k its).flatten).toArray
|0,acc=>by simp
|k+1,acc=>by
  have e:acc.toArray++its.toArray=(acc++its).toArray:=by simp
  have e2:(acc++its)++(List.replicate k its).flatten=acc++(List.replicate (k+1) its).flatten:=by
   rw[List.replicate_succ,List.flatten_cons,List.append_assoc]
  rw[←e2,←foldl_rep its k (acc++its),←e,List.replicate_succ,List.foldl_cons]
section
variable {X:Cx} {pins:List (Addr×Obj)} {σ:St} {H:Hp} {s:Shared} {l b:Addr} {xs ys zs:List V}
theorem Inv.lset{its its':List Value}{n:Nat}{f:Array Value->Array Value}{t':Nat}(I:Inv X pins σ H s)(hH:H l=some (.lst xs))
  (e:s.heap.get? l=some { cls:=.type "list",data:=.seq its.toArray n }) (hf:f its.toArray=its'.toArray) (hv:Vals ys its') (hz:ys.length<=sizeLine) :
  Inv X pins σ (upd H l (.lst ys)) { s with heap:=s.heap.update l (Obj.mapSeq f),toks:=t' }:=by
 have q:=PySem.IsL.update e f
 rw[hf] at q
 refine I.write (x:=l) (e:=l) (by rw[hH];exact trivial) (.inl rfl) (λb' u hb hu=>(Heap.get?_update_other s.heap (Obj.mapSeq f) (Ne.symm hb)).trans hu) ⟨_,q⟩ ?_
 exact⟨hz,its',_,hv,q⟩
theorem Inv.lnew{its:List Value}{t':Nat}(I:Inv X pins σ H s)(hv:Vals ys its)(hz:ys.length<=sizeLine) :
  Inv X pins σ (upd H s.heap.objs.size (.lst ys)) { s with heap:=s.heap.push { cls:=.type "list",data:=.seq its.toArray },toks:=t' } :=
 I.laid (λ_ _ q=>Heap.get?_push_of_some _ q) (Nat.le_refl _) ⟨hz,its,0,hv,Heap.get?_push_size _ rfl⟩
theorem Inv.fresh(I:Inv X pins σ H s):H s.heap.objs.size=none:=I.hok.fresh (Nat.le_refl _)
theorem Inv.lstM(I:Inv X pins σ H s)(hH:H l=some (.lst xs)):xs.length<=sizeLine/\∃(its:List Value) (n:Nat),Vals xs its/\xs.length=its.length/\s.heap.get? l=some { cls:=.type "list",data:=.seq its.toArray n }:=by
 obtain⟨z,its,n,r,e⟩:=I.hok l _ hH
 exact⟨z,its,n,r,r.length,e⟩
theorem qox{n:Nat}(h:n<=sizeLine):Builtin.List.listTooLong n=false:=by
 unfold Builtin.List.listTooLong
 exact decide_eq_false (by lia)
end
section
variable {X:Cx}
def q0u:V->List V->Hp->VK->Prop:=λx vs H Q=>∃l xs y,x=.ref l/\vs=[y]/\H l=some (.lst xs)/\xs.length<sizeLine/\Q .non (upd H l (.lst (xs++[y])))
theorem qhp:MtM X "list.append" q0u:=by
 intro pins s σ H x vs v us Q I rx rv h
 obtain⟨l,xs,y,rfl,rfl,hH,hz,q⟩:=h
 cases rx
 obtain⟨u,rfl,ru⟩:=rv.one
 obtain⟨z,its,n,r,hl,e⟩:=I.lstM hH
 refine call_meets F.slot_list_append ⟨_,e,rfl⟩ F.entry_list_append (F.args_list_append_2 _ _) (PySem.list_append l its.toArray n u (by rw[List.size_toArray];lia)) ⟨e,?_⟩
 refine⟨.non,_,I.lset (its':=its++[u]) hH e (by simp) (r.append (.cons ru .nil)) ?_,rfl,q⟩
 rw[List.length_append,List.length_singleton]
 lia
def q0v:V->List V->Hp->VK->Prop:=λx vs H Q=>∃l b xs zs,x=.ref l/\vs=[.ref b]/\H l=some (.lst xs)/\H b=some (.lst zs)/\xs.length+zs.length<=sizeLine/\Q .non (upd H l (.lst (xs++zs)))
theorem qs0:MtM X "list.extend" q0v:=by
 intro pins s σ H x vs v us Q I rx rv h
 obtain⟨l,b,xs,zs,rfl,rfl,hH,hB,hz,q⟩:=h
 cases rx
 obtain⟨u,rfl,ru⟩:=rv.one
 cases ru
 obtain⟨z,its,n,r,hl,e⟩:=I.lstM hH
 obtain⟨z2,its2,n2,r2,hl2,e2⟩:=I.lstM hB
 have hsz:its.toArray.size+its2.toArray.size<=sizeLine:=by rw[List.size_toArray,List.size_toArray];lia
 have hlong:¬ (!its.toArray.isEmpty&&Builtin.List.listTooLong (its.toArray.size+its2.toArray.size))=true:=by
  rw[qox hsz,Bool.and_false]
  exact Bool.false_ne_true
 refine call_meets F.slot_list_extend ⟨_,e,rfl⟩ F.entry_list_extend (F.args_list_extend_2 _ _)
  (AutoSeq1.list_extend_list_list_0 l its.toArray n b its2.toArray n2 hlong (by rw[List.size_toArray];lia) (by lia)) ⟨e,e2,?_⟩
 refine⟨.non,_,I.lset (its':=its++its2) hH e (by simp) (r.append r2) ?_,rfl,q⟩
 rw[List.length_append]
 lia
def rCat:R2:=λx y H Q=>∃l b xs zs,x=.ref l/\y=.ref b/\H l=some (.lst xs)/\H b=some (.lst zs)/\xs.length+zs.length<=sizeLine/\∀p,H p=none->Q (.ref p) (upd H p (.lst (xs++zs)))
theorem q2n:OpR X (binaryOp .Add) rCat:=by
 intro pins s σ H x y v u Q I rx ry h
 obtain⟨l,b,xs,zs,rfl,rfl,hH,hB,hz,q⟩:=h
 cases rx
 cases ry
 obtain⟨z,its,n,r,hl,e⟩:=I.lstM hH
 obtain⟨z2,its2,n2,r2,hl2,e2⟩:=I.lstM hB
 refine PySem.P.add_list e e2 ?_ (by rw[List.size_toArray,List.size_toArray];lia)
 have ea:its.toArray++its2.toArray=(its++its2).toArray:=by simp
 rw[ea]
 exact⟨.ref _,_,I.lnew (t':=s.toks) (r.append r2) (by rw[List.length_append];lia),rfl,q _ I.fresh⟩
def rRep:R2:=λx y H Q=>∃l k xs,x=.ref l/\y=.int k/\H l=some (.lst xs)/\-(2 ^ 63)<=k/\k<2 ^ 63/\xs.length*k.toNat<=sizeLine /\
 ∀p,H p=none->Q (.ref p) (upd H p (.lst (List.replicate k.toNat xs).flatten))
theorem len_rep{α:Type}(xs:List α)(k:Nat):(List.replicate k xs).flatten.length=k*xs.length:=by
 induction k with
|zero=>simp
|succ k ih=>rw[List.replicate_succ,List.flatten_cons,List.length_append,ih,Nat.succ_mul,Nat.add_comm]
theorem q2t:OpR X (binaryOp .Mult) rRep:=by
 intro pins s σ H x y v u Q I rx ry h
 obtain⟨l,k,xs,rfl,rfl,hH,h1,h2,hz,q⟩:=h
 cases rx
 obtain⟨t,rfl⟩:=ry
 obtain⟨z,its,n,r,hl,e⟩:=I.lstM hH
 have hlen:its.toArray.size*k.toNat<=sizeLine:=by rw[List.size_toArray,←hl];exact hz
 have hcap:¬ its.toArray.size*k.toNat>(2 ^ 63-1) / 8:=by
  have:(sizeLine:Nat)<=(2 ^ 63-1) / 8:=by decide
  lia
 have hfit:¬ (!Builtin.List.listFitsIndex k)=true:=by
  rw[fitsIndex_both h1 h2]
  exact Bool.false_ne_true
 have hlong:¬ Builtin.List.listTooLong (its.toArray.size*k.toNat)=true:=by
  rw[qox hlen]
  exact Bool.false_ne_true
 have hnew:List.foldl (λx1 x2=>x1++x2) #[] (List.replicate (if its.toArray.isEmpty=true then 0 else k.toNat) its.toArray)=(List.replicate k.toNat its).flatten.toArray:=by
  have f0:∀m:Nat,List.foldl (λx1 x2=>x1++x2) #[] (List.replicate m its.toArray)=(List.replicate m its).flatten.toArray:=λm=>by
   have:=foldl_rep its m []
   rw[List.nil_append] at this
   exact this
  rw[f0]
  cases its with
 |nil=>simp
 |cons a r'=>rw[if_neg (by simp)]
 refine wpAny_binaryOp_repeat_ref (T:="list") (U:="int") (by decide) ⟨_,e,rfl⟩ (λs'=>typeIs_int s' k t) noFill_list_mul F.fills_int_mul F.slot_int_rmul repeat_list F.slot_int_index.lookup
  (call_meets F.slot_int_rmul (typeIs_int s k t) F.entry_int_rmul (F.args_int_rmul_2 _ _) (int___rmul___int_list k t l its.toArray n)
   ⟨e,rfl,⟨_,e,rfl⟩,call_meets F.slot_list_mul ⟨_,e,rfl⟩ F.entry_list_mul (F.args_list_mul_2 _ _) (AutoListH.list___mul___list_int_3 l its.toArray n k t hfit hcap hlong) ⟨e,?_⟩⟩)
 rw[hnew]
 exact⟨.ref _,_,I.lnew (t':=s.toks) (r.rep k.toNat) (by rw[len_rep,Nat.mul_comm];exact hz),rfl,q _ I.fresh⟩
end
section
variable {prog:Program} {w:World} {A:Around} {E:Value->Shared->Prop} {s:Shared}
end
section
variable {X:Cx}
end
end L2
namespace L2
open PySem PySem.Spec PyProof.Rows
section
variable {κ:Type} [DecidableEq κ]
def valV(kvs:List (κ×V))(k:κ):Option V:=(kvs.find? λkv=>decide (kv.1=k)).map (·.2)
def putK(kvs:List (κ×V))(k:κ)(v:V):List (κ×V) :=
 if (kvs.any λkv=>decide (kv.1=k))=true then kvs.map (λkv=>if kv.1=k then (kv.1,v) else kv) else kvs++[(k,v)]
theorem qe0{p:κ×V}{r:List (κ×V)}{k:κ}(e:p.1=k):valV (p::r) k=some p.2:=by simp[valV,List.find?_cons,e]
theorem qdz{p:κ×V}{r:List (κ×V)}{k:κ}(e:¬ p.1=k):valV (p::r) k=valV r k:=by simp[valV,List.find?_cons,e]
theorem qpc(k:κ):∀kvs:List (κ×V),(kvs.any λkv=>decide (kv.1=k))=(valV kvs k).isSome
|[]=>rfl
|p::r=>by
  rw[List.any_cons]
  by_cases e:p.1=k
  ·simp only[qe0 e,decide_eq_true e,Bool.true_or,Option.isSome_some]
  ·rw[qdz e,decide_eq_false e,Bool.false_or];exact qpc k r
theorem qhk(kvs:List (κ×V))(k:κ)(v:V):(putK kvs k v).length<=kvs.length+1:=by
 unfold putK
 split
 ·rw[List.length_map];lia
 ·rw[List.length_append,List.length_cons,List.length_nil];lia
theorem RelO.isSome_eq{o:Option V}{u:Option Value}(r:RelO o u):o.isSome=u.isSome:=by
 cases o with
|none=>cases u with
 |none=>rfl
 |some _=>exact(show False from r).elim
|some _=>cases u with
 |none=>exact(show False from r).elim
 |some _=>rfl
theorem RelO.getD{o:Option V}{u:Option Value}{d:V}{d':Value}(r:RelO o u)(rd:RelV d d'):RelV (o.getD d) (u.getD d'):=by
 cases o with
|none=>cases u with
 |none=>exact rd
 |some _=>exact(show False from r).elim
|some _=>cases u with
 |none=>exact(show False from r).elim
 |some _=>exact r
theorem KV.val{kvs:List (κ×V)}{vs:List (κ×Value)}(r:KV kvs vs)(k:κ):RelO (valV kvs k) (valueAt vs k):=by
 unfold KV at r
 induction r with
|nil=>exact True.intro
|@cons p q ps qs h t ih =>
  obtain⟨h1,h2⟩:=h
  by_cases e:p.1=k
  ·have e':q.1=k:=h1.symm.trans e
   have b:valueAt (q::qs) k=some q.2:=by simp[valueAt,List.find?_cons,e']
   rw[qe0 e,b];exact h2
  ·have e':¬ q.1=k:=λz=>e (h1.trans z)
   have b:valueAt (q::qs) k=valueAt qs k:=by simp[valueAt,List.find?_cons,e']
   rw[qdz e,b];exact ih
theorem KV.any{kvs:List (κ×V)}{vs:List (κ×Value)}(r:KV kvs vs)(k:κ):(kvs.any λkv=>decide (kv.1=k))=vs.any λkv=>decide (kv.1=k):=by
 unfold KV at r
 induction r with
|nil=>rfl
|cons h t ih=>rw[List.any_cons,List.any_cons,ih,h.1]
theorem KV.repl{kvs:List (κ×V)}{vs:List (κ×Value)}(r:KV kvs vs)(k:κ){y:V}{u:Value}(ry:RelV y u) :
  KV (kvs.map λkv=>if kv.1=k then (kv.1,y) else kv) (vs.map λkv=>if kv.1=k then (kv.1,u) else kv):=by
 unfold KV at r ⊢
 induction r with
|nil=>exact .nil
|@cons p q ps qs h t ih =>
  rw[List.map_cons,List.map_cons]
  refine .cons ?_ ih
  obtain⟨h1,h2⟩:=h
  by_cases e:p.1=k
  ·rw[if_pos e,if_pos (h1.symm.trans e)];exact⟨h1,ry⟩
  ·rw[if_neg e,if_neg (λz=>e (h1.trans z))];exact⟨h1,h2⟩
theorem KV.put{kvs:List (κ×V)}{vs:List (κ×Value)}(r:KV kvs vs)(k:κ){y:V}{u:Value}(ry:RelV y u):KV (putK kvs k y) (stored vs k u):=by
 unfold putK stored
 rw[r.any k]
 by_cases e:(vs.any λkv=>decide (kv.1=k))=true
 ·rw[if_pos e,if_pos e];exact r.repl k ry
 ·rw[if_neg e,if_neg e];exact Paired.snoc r ⟨rfl,ry⟩
theorem KV.keys{kvs:List (κ×V)}{vs:List (κ×Value)}(r:KV kvs vs):kvs.map (·.1)=vs.map (·.1):=by
 unfold KV at r
 induction r with
|nil=>rfl
|cons h t ih=>rw[List.map_cons,List.map_cons,ih,h.1]
theorem KV.length{kvs:List (κ×V)}{vs:List (κ×Value)}(r:KV kvs vs):kvs.length=vs.length:=Paired.length r
end
theorem qk4{P:Program}{w:World}{k:Key}{u:Value}(r:RelV (kV k) u):(qbb P w).is k u=true:=by
 cases k with
|inl i=>obtain⟨t,e⟩:=(show ∃t,u=Value.int i t from r);subst e;exact qm4 P w i t
|inr x=>obtain⟨t,e⟩:=(show ∃t,u=Value.str x t from r);subst e;exact qm5 P w x t
theorem qk3{P:Program}{w:World}:∀ {ks:List Key} {us:List Value},Vals (ks.map kV) us->ItemsAre (qbb P w) ks us
|[],_,r=>by rw[List.map_nil] at r;cases r;exact .nil
|k::ks,_,r=>by
  rw[List.map_cons] at r
  cases r with
 |cons h t=>exact .cons (qk4 h) (qk3 t)
abbrev KT(H:Hp):List (List Key×V)->List (List Key×Addr×Value)->Prop:=Paired λp q=>p.1=q.1/\H q.2.1=some (.tup (p.1.map kV))/\RelV p.2 q.2.2
theorem KT.val{H:Hp}{kvs:List (List Key×V)}{xs:List (List Key×Addr×Value)}(r:KT H kvs xs)(k:List Key):RelO (valV kvs k) ((atKey xs k).map (·.2)):=by
 induction r with
|nil=>exact True.intro
|@cons p q ps qs h t ih =>
  obtain⟨h1,_,h2⟩:=h
  by_cases e:p.1=k
  ·have e':q.1=k:=h1.symm.trans e
   have b:atKey (q::qs) k=some q.2:=by simp[atKey,List.find?_cons,e']
   rw[qe0 e,b];exact h2
  ·have e':¬ q.1=k:=λz=>e (h1.trans z)
   have b:atKey (q::qs) k=atKey qs k:=by simp[atKey,List.find?_cons,e']
   rw[qdz e,b];exact ih
theorem KT.repl{H:Hp}{kvs:List (List Key×V)}{xs:List (List Key×Addr×Value)}(r:KT H kvs xs)(k:List Key){y:V}{u:Value}(ry:RelV y u) :
  KT H (kvs.map λkv=>if kv.1=k then (kv.1,y) else kv) (xs.map (putAt k u)):=by
 induction r with
|nil=>exact .nil
|@cons p q ps qs h t ih =>
  rw[List.map_cons,List.map_cons]
  refine .cons ?_ ih
  obtain⟨h1,h2,h3⟩:=h
  unfold putAt
  by_cases e:p.1=k
  ·rw[if_pos e,if_pos (h1.symm.trans e)];exact⟨h1,h2,ry⟩
  ·rw[if_neg e,if_neg (λz=>e (h1.trans z))];exact⟨h1,h2,h3⟩
theorem KT.put{H:Hp}{kvs:List (List Key×V)}{xs:List (List Key×Addr×Value)}(r:KT H kvs xs)(k:List Key){b:Addr}{y:V}{u:Value}(hb:H b=some (.tup (k.map kV)))(ry:RelV y u) :
  KT H (putK kvs k y) (storedH xs k b u):=by
 have e:(kvs.any λkv=>decide (kv.1=k))=(atKey xs k).isSome:=by
  rw[qpc,(r.val k).isSome_eq,Option.isSome_map]
 unfold putK storedH
 rw[e]
 by_cases q:(atKey xs k).isSome=true
 ·rw[if_pos q,if_pos q];exact r.repl k ry
 ·rw[if_neg q,if_neg q];exact Paired.snoc r ⟨rfl,hb,ry⟩
theorem KT.keeps{H H':Hp}{kvs:List (List Key×V)}{xs:List (List Key×Addr×Value)}(r:KT H kvs xs)(ht:∀b ys,H b=some (.tup ys)->H' b=some (.tup ys)):KT H' kvs xs :=
 Paired.mapP r λ_ _ z=>⟨z.1,ht _ _ z.2.1,z.2.2⟩
section
variable {P:Program} {w:World} {H:Hp} {h:Heap} {a:Addr}
theorem q3t{u:HO}(ok:HOk P w H h)(e:Rd H a u):ObjOk P w H h a u:=e.ok ok
theorem qjb{kvs:List (Key×V)}(ok:HOk P w H h)(e:Rd H a (.dK kvs)):kvs.length<=sizeLine/\(a==sysModules)=false/\∃vs,KV kvs vs/\h.DictOf (qbb P w) a vs :=
 show ObjOk P w H h a (.dK kvs) from q3t ok e
theorem q12{kvs:List (Key×V)}(ok:HOk P w H h)(e:H a=some (.dK kvs)):kvs.length<=sizeLine/\(a==sysModules)=false/\∃vs,KV kvs vs/\h.DictOf (qbb P w) a vs:=qjb ok (.inl e)
theorem qhf{ks:List Key}(ok:HOk P w H h)(e:H a=some (.tup (ks.map kV))):(tupleKind (qbb P w)).is h ks a:=by
 obtain⟨_,its,r,o,h1,h2,n,h3⟩:=(show ObjOk P w H h a (.tup (ks.map kV)) from ok a _ e)
 exact⟨o,its.toArray,n,h1,h2,h3,by simpa using qk3 r⟩
theorem qjc{kvs:List (List Key×V)}(ok:HOk P w H h)(e:Rd H a (.dT kvs)):kvs.length<=sizeLine/\(a==sysModules)=false /\
  ∃xs,KT H kvs xs/\h.DictOfH (tupleKind (qbb P w)) a xs:=by
 obtain⟨z,y,xs,r,o,es,ep,h1,h2,h3,h4,h5⟩:=(show ObjOk P w H h a (.dT kvs) from q3t ok e)
 refine⟨z,y,xs,r,o,es,ep,h1,h2,h3,h4,λx hx=>?_,h5⟩
 have all:∀ {l:List (List Key×V)} {m:List (List Key×Addr×Value)},KT H l m->∀x∈m,(tupleKind (qbb P w)).is h x.1 x.2.1:=by
  intro l m q
  induction q with
 |nil=>intro x hx;exact nomatch hx
 |@cons p q ps qs hq t ih =>
   intro x hx
   rcases List.mem_cons.mp hx with e|hx
   ·subst e
    exact qhf ok (by rw[←hq.1];exact hq.2.1)
   ·exact ih x hx
 exact all r x hx
theorem q4w{kvs:List (List Key×V)}(ok:HOk P w H h)(e:H a=some (.dT kvs)):kvs.length<=sizeLine/\(a==sysModules)=false /\
  ∃xs,KT H kvs xs/\h.DictOfH (tupleKind (qbb P w)) a xs:=qjc ok (.inl e)
end
def DGet(H:Hp)(a:Addr)(y:V)(r:Option V):Prop :=
 (∃kvs k,Rd H a (.dK kvs)/\y=kV k/\r=valV kvs k)\/∃kvs k b,Rd H a (.dT kvs)/\y=.ref b/\H b=some (.tup (k.map kV))/\r=valV kvs k
def DPut(H:Hp)(a:Addr)(y v:V)(H':Hp):Prop :=
 (∃kvs k,H a=some (.dK kvs)/\y=kV k/\kvs.length<sizeLine/\H'=upd H a (.dK (putK kvs k v))) \/
 ∃kvs k b,H a=some (.dT kvs)/\y=.ref b/\H b=some (.tup (k.map kV))/\kvs.length<sizeLine/\H'=upd H a (.dT (putK kvs k v))
theorem DGet.k{H:Hp}{a:Addr}{kvs:List (Key×V)}{k:Key}(e:H a=some (.dK kvs)):DGet H a (kV k) (valV kvs k):=.inl ⟨kvs,k,.inl e,rfl,rfl⟩
theorem DPut.t{H:Hp}{a b:Addr}{kvs:List (List Key×V)}{k:List Key}{v:V}(e:H a=some (.dT kvs))(eb:H b=some (.tup (k.map kV)))(hl:kvs.length<sizeLine) :
  DPut H a (.ref b) v (upd H a (.dT (putK kvs k v))):=.inr ⟨kvs,k,b,e,rfl,eb,hl,rfl⟩
section
variable {X:Cx} {pins:List (Addr×Obj)} {σ:St} {H:Hp} {s:Shared} {a:Addr} {y v:V} {u r:Value} {o:Option V} {A:Around} {E:Value->Shared->Prop}
theorem Inv.big(I:Inv X pins σ H s):sysModules<s.heap.objs.size:=by
 have h:mainGlobals<s.heap.objs.size:=(I.mod.glob.keeps I.bk).lt
 exact Nat.lt_trans (by decide) h
theorem qrh{Q:Value->Shared->Prop}(hu:A.units+1<cLine)(I:Inv X pins σ H s)(g:DGet H a y (some v))(ry:RelV y u)(h:∀w' s',Inv X pins σ H s'->RelV v w'->Q w' s') :
  wpAny (model X.prog X.w) A (getItem (.ref a) u) Q E s:=by
 rcases g with ⟨kvs,k,e,ey,l⟩|⟨kvs,k,b,e,ey,eb,l⟩
 ·subst ey
  obtain⟨z,hd,vs,rel,dd⟩:=qjb I.hok e
  obtain⟨w',hw,rw'⟩:=RelO.some_of (v:=v) (o:=valueAt vs k) (by rw[l];exact rel.val k)
  exact wpAny_getItem_of (qk4 ry) dd.mapOf hw (h w' _ (I.tok _) rw')
 ·subst ey
  cases (show u=Value.ref b from ry)
  obtain⟨z,hd,xs,rel,dd⟩:=qjc I.hok e
  obtain⟨w',hw,rw'⟩:=RelO.some_of (v:=v) (o:=(atKey xs k).map (·.2)) (by rw[l];exact rel.val k)
  obtain⟨p,hp,hp2⟩:=Option.map_eq_some_iff.mp hw
  refine wpAny_getItem_heap (tupleKind_room_in1 hu) (qhf I.hok eb) dd hp ?_
  rw[hp2]
  exact h w' _ (I.tok _) rw'
theorem d_in{Q:Value->Shared->Prop}(hu:A.units+1<cLine)(I:Inv X pins σ H s)(g:DGet H a y o)(ry:RelV y u)(h:∀s',Inv X pins σ H s'->Q (.bool o.isSome) s') :
  wpAny (model X.prog X.w) A (compareOp .In u (.ref a)) Q E s:=by
 rcases g with ⟨kvs,k,e,ey,l⟩|⟨kvs,k,b,e,ey,eb,l⟩
 ·subst ey
  obtain⟨z,hd,vs,rel,dd⟩:=qjb I.hok e
  refine wpAny_in_of (qk4 ry) hd dd.mapOf ?_
  rw[←(rel.val k).isSome_eq,←l]
  exact h _ (I.tok _)
 ·subst ey
  cases (show u=Value.ref b from ry)
  obtain⟨z,hd,xs,rel,dd⟩:=qjc I.hok e
  refine wpAny_in_heap (tupleKind_room_in1 hu) (qhf I.hok eb) hd dd ?_
  have q:=(rel.val k).isSome_eq
  rw[Option.isSome_map] at q
  rw[←q,←l]
  exact h _ (I.tok _)
theorem qyp{Q:Value->Shared->Prop}(hu:A.units+1<cLine)(I:Inv X pins σ H s)(g:DGet H a y o)(ry:RelV y u)(h:∀s',Inv X pins σ H s'->Q (.bool (!o.isSome)) s') :
  wpAny (model X.prog X.w) A (compareOp .NotIn u (.ref a)) Q E s:=by
 rcases g with ⟨kvs,k,e,ey,l⟩|⟨kvs,k,b,e,ey,eb,l⟩
 ·subst ey
  obtain⟨z,hd,vs,rel,dd⟩:=qjb I.hok e
  refine wpAny_notIn_of (qk4 ry) hd dd.mapOf ?_
  rw[←(rel.val k).isSome_eq,←l]
  exact h _ (I.tok _)
 ·subst ey
  cases (show u=Value.ref b from ry)
  obtain⟨z,hd,xs,rel,dd⟩:=qjc I.hok e
  refine wpAny_notIn_heap (tupleKind_room_in1 hu) (qhf I.hok eb) hd dd ?_
  have q:=(rel.val k).isSome_eq
  rw[Option.isSome_map] at q
  rw[←q,←l]
  exact h _ (I.tok _)
theorem qmg{h':Heap}{t':Nat}{ob:HO}(I:Inv X pins σ H s)(mu:Mut (H a))(hs:Heap.SameBut a s.heap h')(he:∃q,h'.get? a=some q)(new:ObjOk X.prog X.w (upd H a ob) h' a ob) :
  Inv X pins σ (upd H a ob) { s with heap:=h',toks:=t' } :=
 I.write (x:=a) (e:=a) mu (.inl rfl) (λb q hb z=>(hs.2 b hb).trans z) he new
theorem qw7{P:Program}{w:World}{H':Hp}{h':Heap}{kvs:List (Key×V)}{vs:List (Key×Value)}(z:kvs.length<=sizeLine)(hd:(a==sysModules)=false)(rel:KV kvs vs)(dd:h'.DictOf (qbb P w) a vs) :
  ObjOk P w H' h' a (.dK kvs):=⟨z,hd,vs,rel,dd⟩
theorem qri{H':Hp}{Q:Unit->Shared->Prop}(hu:A.units+1<cLine)(I:Inv X pins σ H s)(g:DPut H a y v H')(ry:RelV y u)(rv:RelV v r)(h:∀s',Inv X pins σ H' s'->Q () s') :
  wpAny (model X.prog X.w) A (setItem (.ref a) u r) Q E s:=by
 rcases g with ⟨kvs,k,e,ey,l,eH⟩|⟨kvs,k,b,e,ey,eb,l,eH⟩
 ·subst ey eH
  obtain⟨z,hd,vs,rel,dd⟩:=q12 I.hok e
  have hz:vs.length<=sizeLine:=by rw[←rel.length];exact z
  have hl:(putK kvs k v).length<=sizeLine:=by have:=qhk kvs k v;lia
  refine wpAny_setItem_pairs (hsz:=hz) (qk4 ry) dd λh' dd' hs=>h _ ?_
  have he:∃q,h'.get? a=some q:=let ⟨q,_,_,hq,_⟩:=dd';⟨q,hq⟩
  exact qmg I (by rw[e];exact True.intro) hs he (qw7 hl hd (rel.put k rv) dd')
 ·subst ey eH
  cases (show u=Value.ref b from ry)
  obtain⟨z,hd,xs,rel,dd⟩:=q4w I.hok e
  have hz:xs.length<=sizeLine:=by rw[←Paired.length rel];exact z
  have hl:(putK kvs k v).length<=sizeLine:=by have:=qhk kvs k v;lia
  refine wpAny_setItem_heap (hsz:=hz) (tupleKind_room_in1 hu) (qhf I.hok eb) dd λh' dd' hs=>h _ ?_
  obtain⟨q,es,ep,hq,h2,h3,h4,_,h5⟩:=dd'
  refine qmg I (by rw[e];exact True.intro) hs ⟨q,hq⟩ ⟨hl,hd,_,(rel.put k eb rv).keeps λc ys ec=>?_,q,es,ep,hq,h2,h3,h4,h5⟩
  rw[qa4 (q40 ec e (λz=>nomatch z))]
  exact ec
end
section
variable {X:Cx} {pins:List (Addr×Obj)} {σ:St} {H:Hp} {s:Shared} {a:Addr} {kvs:List (Key×V)} {k:Key} {u:Value} {A:Around} {E:Value->Shared->Prop}
end
def NoSl(i:Expr):Prop:=∀ov iv,subscripted i false ov iv=operate [ov,iv] (getItem ov iv)
theorem q08{prog:Program}{w:World}{A:Around}{E:Value->Shared->Prop}{s:Shared}{env:Env}{value slice:Expr}{pos:Pos}{T id:String}{Q:Value->Shared->Prop}
  (hl:typeLookup (.type T) "__getitem__" = pure (some (.builtin id))) (hs:NoSl slice)
  (h:wpAny (model prog w) A (eval value env) (λo s₁=>wpAny (model prog w) A (eval slice env) (λi s₂=>s₂.TypeIs o T/\wpAny (model prog w) A (getItem o i) Q E s₂) E s₁) E s) :
  wpAny (model prog w) A (eval (.Subscript value slice pos) env) Q E s:=by
 refine Subscript_ (wpAny_mono h (λo s₁ h₁=>wpAny_mono h₁ (λi s₂ h₂=>?_) λ_ _ x=>x) λ_ _ x=>x)
 obtain⟨hT,h₂⟩:=h₂
 unfold subscriptTail
 refine wpAny_bind ?_
 rw[getitemInPython_of_ne hT.not_modules]
 refine wpAny_bind (wpAny_specialOf hT hl ?_)
 have fin:wpAny (model prog w) A (subscripted slice false o i) (λr s₃=>wpAny (model prog w) A (letTemporaryGo value o r >>= λ_=>pure r) Q E s₃) E s₂:=by
  rw[hs o i]
  exact wpAny_operating (wpAny_mono h₂ (λr s₃ h₃=>wpAny_bind (wpAny_letTemporaryGo (wpAny_pure h₃))) λ_ _ x=>x)
 first
 |exact wpAny_pure (wpAny_bind fin)
 |exact wpAny_bind (wpAny_pure (wpAny_bind fin))
 |exact wpAny_bind fin
theorem qmi{X:Cx}{pins:List (Addr×Obj)}{σ:St}{H:Hp}{s:Shared}{a:Addr}{y:V}{o:Option V}(I:Inv X pins σ H s)(g:DGet H a y o):s.TypeIs (.ref a) "dict" := by
 rcases g with ⟨kvs,k,e,_,_⟩|⟨kvs,k,b,e,_,_,_⟩
 ·obtain⟨_,_,vs,_,dd⟩:=qjb I.hok e
  exact dd.typeIs
 ·obtain⟨_,_,xs,_,dd⟩:=qjc I.hok e
  exact dd.typeIs
def q36(td ty:TE):TE:=λσ H Q=>td σ H λx H1=>ty σ H1 λy H2=>∃a v,x=.ref a/\DGet H2 a y (some v)/\Q v H2
def tDIn(ty td:TE):TE:=λσ H Q=>ty σ H λy H1=>td σ H1 λx H2=>∃a o,x=.ref a/\DGet H2 a y o/\Q (.bl o.isSome) H2
def qnp(ty td:TE):TE:=λσ H Q=>ty σ H λy H1=>td σ H1 λx H2=>∃a o,x=.ref a/\DGet H2 a y o/\Q (.bl (!o.isSome)) H2
def q33(td ty tv:TE):TS:=λD σ H=>tv σ H λv H1=>td σ H1 λx H2=>ty σ H2 λy H3=>∃a H4,x=.ref a/\DPut H3 a y v H4/\D.nx σ H4
section
variable {X:Cx} {o i e value:Expr} {pos pos' tpos:Pos} {td ty tv:TE}
theorem qzs(hu:X.A.units+1<cLine)(ho:PE X o td)(hi:PE X i ty)(hs:NoSl i):PE X (.Subscript o i pos) (q36 td ty):=by
 intro pins s σ H Q I h
 refine q08 PySem.F.slot_dict_getitem.lookup hs (thn (ho pins s σ H _ I h) λu s1 ⟨x,H1,I1,rx,q1⟩=>thn (hi pins s1 σ H1 _ I1 q1) λiv s2 ⟨y,H2,I2,ry,a,v,ex,g,q2⟩=>?_)
 subst ex
 obtain rfl:u=Value.ref a:=rx
 exact⟨qmi I2 g,qrh hu I2 g ry λw' s3 I3 rw'=>⟨v,H2,I3,rw',q2⟩⟩
theorem q2v(hu:X.A.units+1<cLine)(hi:PE X i ty)(ho:PE X o td):PC X .In i o (tDIn ty td):=by
 intro pins s σ H Q I h
 refine thn (hi pins s σ H _ I h) λiv s1 ⟨y,H1,I1,ry,q1⟩=>thn (ho pins s1 σ H1 _ I1 q1) λu s2 ⟨x,H2,I2,rx,a,ov,ex,g,q2⟩=>?_
 subst ex
 obtain rfl:u=Value.ref a:=rx
 exact d_in hu I2 g ry λs3 I3=>⟨.bl ov.isSome,H2,I3,rfl,q2⟩
theorem qli(hu:X.A.units+1<cLine)(hi:PE X i ty)(ho:PE X o td):PC X .NotIn i o (qnp ty td):=by
 intro pins s σ H Q I h
 refine thn (hi pins s σ H _ I h) λiv s1 ⟨y,H1,I1,ry,q1⟩=>thn (ho pins s1 σ H1 _ I1 q1) λu s2 ⟨x,H2,I2,rx,a,ov,ex,g,q2⟩=>?_
 subst ex
 obtain rfl:u=Value.ref a:=rx
 exact qyp hu I2 g ry λs3 I3=>⟨.bl (!ov.isSome),H2,I3,rfl,q2⟩
theorem qz3(hu:X.A.units+1<cLine)(ho:PE X o td)(hi:PE X i ty)(hv:PE X value tv)(hs:swapsWith value (some (.Subscript o i pos')) pos.line X.env=pure false) :
  PS X (.Assign [.Subscript o i pos'] value pos) (q33 td ty tv):=by
 intro pins s σ H D I h
 refine wpAny_Assign_Subscript (thn (hv pins s σ H _ I h) λr s1 ⟨v,H1,I1,rv,q1⟩=>thn (ho pins s1 σ H1 _ I1 q1) λu s2 ⟨x,H2,I2,rx,q2⟩=>thn (hi pins s2 σ H2 _ I2 q2) λiv s3 ⟨y,H3,I3,ry,a,H4,ex,g,q3⟩=>?_) hs
 subst ex
 obtain rfl:u=Value.ref a:=rx
 exact qri hu I3 g ry rv λs4 I4=>⟨σ,H4,I4,q3⟩
end
theorem quy{P:Program}{w:World}{H:Hp}(h:Heap)(hb:sysModules<h.objs.size):ObjOk P w H (h.push { cls:=.type "dict",data:=.dict #[] }) h.objs.size (.dK []) :=
 ⟨Nat.zero_le _,beq_eq_false_iff_ne.mpr (Ne.symm (Nat.ne_of_lt hb)),[],.nil,Heap.DictOf.new h⟩
theorem qu2{P:Program}{w:World}{H:Hp}(h:Heap)(hb:sysModules<h.objs.size):ObjOk P w H (h.push { cls:=.type "dict",data:=.dict #[] }) h.objs.size (.dT []) :=
 ⟨Nat.zero_le _,beq_eq_false_iff_ne.mpr (Ne.symm (Nat.ne_of_lt hb)),[],.nil,_,#[],0,Heap.get?_push_size _ rfl,⟨rfl,rfl,rfl⟩,rfl,rfl,List.nodup_nil⟩
def qx4:TE:=λ_ H Q=>∀p,H p=none->Q (.ref p) (upd H p (.dK []))
def qx5:TE:=λ_ H Q=>∀p,H p=none->Q (.ref p) (upd H p (.dT []))
section
variable {X:Cx} {pos:Pos}
theorem qvt:PE X (.Dict [] [] pos) qx4:=λpins s σ H Q I h =>
 wpAny_Dict_empty ⟨.ref s.heap.objs.size,_,I.laid (a:=s.heap.objs.size) (o:=.dK []) (t':=s.toks) (λ_ _ q=>Heap.get?_push_of_some _ q) (Nat.le_refl _) (quy s.heap I.big),rfl,h _ (I.hok.fresh (Nat.le_refl _))⟩
theorem qvu:PE X (.Dict [] [] pos) qx5:=λpins s σ H Q I h =>
 wpAny_Dict_empty ⟨.ref s.heap.objs.size,_,I.laid (a:=s.heap.objs.size) (o:=.dT []) (t':=s.toks) (λ_ _ q=>Heap.get?_push_of_some _ q) (Nat.le_refl _) (qu2 s.heap I.big),rfl,h _ (I.hok.fresh (Nat.le_refl _))⟩
end
structure M1(X:Cx)(o:Expr)(m:Str)(apos:Pos)(e:Expr)(cpos:Pos):Prop where
 base:attributeBase o m X.env (eval o X.env)=eval o X.env
 few:((backTo cpos (starEach [e] X.env)).all (λx=>!x.1)&&(backToKw cpos (keywordEach [] X.env)).all (λx=>x.1.isSome)
  && decide (([e]:List Expr).length+([]:List Keyword).length+(if ([]:List Keyword).isEmpty then 0 else 1)<30))=true
 line:(apos.endLine==cpos.line)=true
 trees:backTo cpos (starEach [e] X.env)=[(false,eval e X.env)]
structure M2(X:Cx)(o:Expr)(m:Str)(apos:Pos)(e f:Expr)(cpos:Pos):Prop where
 base:attributeBase o m X.env (eval o X.env)=eval o X.env
 few:((backTo cpos (starEach [e,f] X.env)).all (λx=>!x.1)&&(backToKw cpos (keywordEach [] X.env)).all (λx=>x.1.isSome)
  && decide (([e,f]:List Expr).length+([]:List Keyword).length+(if ([]:List Keyword).isEmpty then 0 else 1)<30))=true
 line:(apos.endLine==cpos.line)=true
 trees:backTo cpos (starEach [e,f] X.env)=[(false,eval e X.env),(false,eval f X.env)]
def IsD(H:Hp)(a:Addr):Prop:=(∃kvs,Rd H a (.dK kvs))\/∃kvs,Rd H a (.dT kvs)
theorem qsc{X:Cx}{pins:List (Addr×Obj)}{σ:St}{H:Hp}{s:Shared}{a:Addr}(I:Inv X pins σ H s)(d:IsD H a) :
  s.TypeIs (.ref a) "dict" /\ (∀b,Value.ref a=.ref b->∃ob,s.heap.get? b=some ob/\ob.dict=none)/\(a==sysModules)=false:=by
 rcases d with ⟨kvs,e⟩|⟨kvs,e⟩
 ·obtain⟨_,hd,vs,_,dd⟩:=qjb I.hok e
  refine⟨dd.typeIs,λb q=>?_,hd⟩
  cases q
  obtain⟨ob,_,_,h1,h2,_⟩:=dd
  exact⟨ob,h1,h2.2.1⟩
 ·obtain⟨_,hd,xs,_,dd⟩:=qjc I.hok e
  refine⟨dd.typeIs,λb q=>?_,hd⟩
  cases q
  obtain⟨ob,_,_,h1,h2,_⟩:=dd
  exact⟨ob,h1,h2.2.1⟩
section
variable {X:Cx} {pins:List (Addr×Obj)} {σ:St} {H:Hp} {s:Shared} {a:Addr} {y d:V} {u r:Value} {o:Option V} {A:Around} {E:Value->Shared->Prop}
theorem q1z{Q:Value->Shared->Prop}(hu:A.units+1<cLine)(I:Inv X pins σ H s)(g:DGet H a y o)(ry:RelV y u)(h:∀w' s',Inv X pins σ H s'->RelV (o.getD .non) w'->Q w' s') :
  wpAny (model X.prog X.w) A (call (.builtin "dict.get") [.ref a,u]) Q E s:=by
 rcases g with ⟨kvs,k,e,ey,l⟩|⟨kvs,k,b,e,ey,eb,l⟩
 ·subst ey
  obtain⟨z,hd,vs,rel,dd⟩:=qjb I.hok e
  refine call_meetsIn PySem.F.slot_dict_get dd.typeIs PySem.F.entry_dict_get (PySem.F.args_dict_get_2 _ _) (meets_dict_get (qbb X.prog X.w) a (qk4 ry) hd) ⟨_,dd.mapOf,h _ _ (I.tok _) ?_⟩
  rw[l]
  exact(rel.val k).getD rfl
 ·subst ey
  cases (show u=Value.ref b from ry)
  obtain⟨z,hd,xs,rel,dd⟩:=qjc I.hok e
  refine call_meetsIn PySem.F.slot_dict_get dd.typeIs PySem.F.entry_dict_get (PySem.F.args_dict_get_2 _ _) (meetsH_dict_get (tupleKind (qbb X.prog X.w)) a b hd) ⟨tupleKind_room_in1 hu,k,xs,qhf I.hok eb,dd,h _ _ (I.tok _) ?_⟩
  rw[l]
  exact(rel.val k).getD rfl
theorem q10{Q:Value->Shared->Prop}(hu:A.units+1<cLine)(I:Inv X pins σ H s)(g:DGet H a y o)(ry:RelV y u)(rd:RelV d r)(h:∀w' s',Inv X pins σ H s'->RelV (o.getD d) w'->Q w' s') :
  wpAny (model X.prog X.w) A (call (.builtin "dict.get") [.ref a,u,r]) Q E s:=by
 rcases g with ⟨kvs,k,e,ey,l⟩|⟨kvs,k,b,e,ey,eb,l⟩
 ·subst ey
  obtain⟨z,hd,vs,rel,dd⟩:=qjb I.hok e
  refine call_meetsIn PySem.F.slot_dict_get dd.typeIs PySem.F.entry_dict_get (PySem.F.args_dict_get_3 _ _ _) (meets_dict_get_default (qbb X.prog X.w) a (qk4 ry) hd r) ⟨_,dd.mapOf,h _ _ (I.tok _) ?_⟩
  rw[l]
  exact(rel.val k).getD rd
 ·subst ey
  cases (show u=Value.ref b from ry)
  obtain⟨z,hd,xs,rel,dd⟩:=qjc I.hok e
  refine call_meetsIn PySem.F.slot_dict_get dd.typeIs PySem.F.entry_dict_get (PySem.F.args_dict_get_3 _ _ _) (meetsH_dict_get_default (tupleKind (qbb X.prog X.w)) a b hd r) ⟨tupleKind_room_in1 hu,k,xs,qhf I.hok eb,dd,h _ _ (I.tok _) ?_⟩
  rw[l]
  exact(rel.val k).getD rd
end
def qx2(td ty:TE):TE:=λσ H Q=>td σ H λx H1=>∃a,x=.ref a/\IsD H1 a/\ty σ H1 λy H2=>∃o,DGet H2 a y o/\Q (o.getD .non) H2
def qx3(td ty tx:TE):TE:=λσ H Q=>td σ H λx H1=>∃a,x=.ref a/\IsD H1 a/\ty σ H1 λy H2=>tx σ H2 λz H3=>∃o,DGet H3 a y o/\Q (o.getD z) H3
section
variable {X:Cx} {o e f:Expr} {apos cpos:Pos} {td ty tx:TE}
theorem qvr(hu:X.A.units+1<cLine)(ho:PE X o td)(he:PE X e ty)(m:M1 X o "get" apos e cpos):PE X (.Call (.Attribute o "get" apos) [e] [] cpos) (qx2 td ty):=by
 intro pins s σ H Q I h
 refine wpAny_Call_method m.base m.few m.line PySem.F.plainAttrs_dict PySem.F.slot_dict_get PySem.F.type_dict_get (thn (ho pins s σ H _ I h) λu s1 ⟨x,H1,I1,rx,a,ex,d,q1⟩=>?_)
 subst ex
 obtain rfl:u=Value.ref a:=rx
 obtain⟨t1,t2,_⟩:=qsc I1 d
 refine⟨t1,t2,?_⟩
 rw[m.trees]
 refine Calls.callWith_builtin rfl (Calls.evalArgs_plain (Calls.spliced_cons (thn (he pins s1 σ H1 _ I1 q1) λiv s2 ⟨y,H2,I2,ry,ov,g,q2⟩=>Calls.spliced_nil ?_)))
 exact q1z hu I2 g ry λw' s3 I3 rw'=>⟨_,H2,I3,rw',q2⟩
theorem qvs(hu:X.A.units+1<cLine)(ho:PE X o td)(he:PE X e ty)(hf:PE X f tx)(m:M2 X o "get" apos e f cpos):PE X (.Call (.Attribute o "get" apos) [e,f] [] cpos) (qx3 td ty tx):=by
 intro pins s σ H Q I h
 refine wpAny_Call_method m.base m.few m.line PySem.F.plainAttrs_dict PySem.F.slot_dict_get PySem.F.type_dict_get (thn (ho pins s σ H _ I h) λu s1 ⟨x,H1,I1,rx,a,ex,d,q1⟩=>?_)
 subst ex
 obtain rfl:u=Value.ref a:=rx
 obtain⟨t1,t2,_⟩:=qsc I1 d
 refine⟨t1,t2,?_⟩
 rw[m.trees]
 refine Calls.callWith_builtin rfl (Calls.evalArgs_plain (Calls.spliced_cons (thn (he pins s1 σ H1 _ I1 q1) λiv s2 ⟨y,H2,I2,ry,q2⟩ =>
  Calls.spliced_cons (thn (hf pins s2 σ H2 _ I2 q2) λfv s3 ⟨z,H3,I3,rz,ov,g,q3⟩=>Calls.spliced_nil ?_))))
 exact q10 hu I3 g ry rz λw' s4 I4 rw'=>⟨_,H3,I4,rw',q3⟩
end
section
variable {X:Cx} {pins:List (Addr×Obj)} {σ:St} {H:Hp} {s:Shared} {a:Addr} {kvs:List (Key×V)} {A:Around} {E:Value->Shared->Prop}
end
section
variable {X:Cx} {pins:List (Addr×Obj)} {σ:St} {H:Hp} {s:Shared} {a:Addr} {y:V} {u:Value} {A:Around} {E:Value->Shared->Prop}
end
end L2
namespace Att
open PySem PySem.W PySem.Calls PyProof.Rows
theorem qhd{P:Params}{h:Heap}:∀(ns:List Int) (vs:List Value),WellAll P h vs (ns.map WData.int)->IntsAre vs ns:=by
 intro ns
 induction ns with
|nil =>
  intro vs w
  rw[List.map_nil] at w
  cases w
  exact .nil
|cons n ns ih =>
  intro vs w
  rw[List.map_cons] at w
  cases w with
 |cons a b =>
   cases a
   exact .cons _ _ (ih _ b)
theorem qto{l:OpenLaw}{n:Nat}(hn:l.most=some n){P:Params}{h:Heap}{args:List WData}{vals:List Value}
  (hpre:l.row.toRowW.claim.pre args=true) (hwl:WellAll P h vals args) :
  ∃a vs ns,vals=[Value.ref a]/\args=[WData.list (ns.map WData.int)]/\h.get? a=some { cls:=.type "list",data:=.seq vs.toArray }/\IntsAre vs ns/\ns.length<=n:=by
 have hsh:WShape.hasAll [] args [.list .int]=true:=(pre_splitW hpre).1
 have hc:l.pre.holds [] { args:=args }=true:=(pre_splitW hpre).2
 obtain⟨d,r,rfl,h1,h2⟩:=hasAllW_cons hsh
 obtain rfl:=hasAllW_nil h2
 obtain⟨xs,rfl,h3⟩:=hasW_list h1
 obtain⟨ns,rfl⟩:=items_int h3
 have hlen:ns.length<=n:=by
  unfold OpenLaw.pre at hc
  have h4:(WTm.not (.lt (.lit (.int (n:Int))) (.len (.arg 0)))).holds [] { args:=[.list (ns.map .int)] }=true:=by
   have h4:=(holds_andW hc).1
   rw[hn] at h4
   exact h4
  have h5:=condW_of h4 (w_not (w_lt w_lit (w_len_list (w_arg rfl))))
  rw[List.length_map] at h5
  refine Nat.le_of_not_lt λq=>?_
  have q':(n:Int)<((ns.length:Nat):Int):=by lia
  first
  |(rw[decide_eq_true q'] at h5;exact absurd h5 (by decide))
  |(simp at h5;lia)
 cases hwl with
|cons w1 w2 =>
  cases w2
  cases w1 with
 |list ho hall=>exact⟨_,_,ns,rfl,rfl,ho,qhd ns _ hall,hlen⟩
theorem qtb(l:OpenLaw)(args:List WData):l.row.toRowW.claim.post args (.bool true) args=true :=
 postW_of (r:=l.row.toRowW) (X:=(true==true))
  (show WShape.has [] (.bool true) .bool=true by first|rfl|decide|simp[WShape.has,WShape.arms,WShape.armsAll])
  (show (WTm.eq .res (.lit (.bool true))).value [] { args:=args,res:=some (.bool true),after:=args }=some (.bool (true==true)) from w_eq_bool (w_res rfl) w_lit) rfl
theorem attach_call{l:OpenLaw}{n:Nat}{q:Program}{loose:List Str}{XP:(Str->Option Value)->Heap->Prop}{YP:World->Heap->Prop}{d:DefRec}
  (hn:l.most=some n) (hdf:d.params.defaults=[])
  (call:∀(w:World) (s₀ s₁:Shared) (mg mb:Str->Option Value) (fa:Addr) (o:Obj) (pm cd doc:Value) (a:Addr) (vs:List Value) (ns:List Int),
   Ground q loose [] XP w s₀ mg mb s₁.heap->YP w s₁.heap ->
   s₁.heap.get? fa=some o->o.data=.func (docDef d.name d.params d.body d.scope pm cd doc)->s₁.heap.CodeRec cd d.name->mg d.name=some (.ref fa) ->
   s₁.heap.get? a=some { cls:=.type "list",data:=.seq vs.toArray }->IntsAre vs ns->ns.length<=n->s₁.gens=#[] ->
   codeAny (model l.prog w) callerA (.call (.ref fa) ⟨[.ref a],[]⟩) (λr s'=>r=.ok (.ret (.bool true))/\OldK s₁.heap s'.heap/\s'.os=s₁.os/\AllBare s'.gens) s₁) :
  WalkO q loose XP YP l.row.toRowW d [] (λf vs=>PySem.call f vs):=by
 intro w s₀ s₁ mg mb G Y fa o pm cd doc dV kV ho hd hcd hD hmg hg args vals as hpre hlay hrd hwl hlo
 obtain rfl:dV=.none:=Dflts.none hD hdf
 obtain rfl:kV=.none:=Dflts.noKw hD
 obtain⟨a,vs,ns,rfl,rfl,hobj,hints,hlen⟩:=qto hn hpre hwl
 refine enter_call (codeAny_mono (call w s₀ s₁ mg mb fa o pm cd doc a vs ns G Y ho (fd_plain hd) hcd hmg hobj hints hlen hg) λr s' hq=>?_)
 obtain⟨rfl,h2,h3,h4⟩:=hq
 exact⟨.inl ⟨.bool true,.bool true,[],rfl,λ_=>rfl,.bool true,qtb l _,λ_=>⟨List.Pairwise.nil,λ_ hm=>(nomatch hm)⟩⟩,h2,h3,h4⟩
section
variable {prog:Program} {w:World} {A:Around} {E:Value->Shared->Prop} {s:Shared} {K:Frag}
end
end Att
namespace L2
open PySem PySem.Spec PyProof.Rows
theorem ql0:∀ {vs:List Value} {ns:List Int},IntsAre vs ns->Vals (ns.map V.int) vs
|_,_,.nil=>.nil
|_,_,.cons n t h=>.cons ⟨t,rfl⟩ (ql0 h)
def Only(H:Hp):Prop:=∀b,H b=none\/∃o xs,H b=some (.frz o (.lst xs))
theorem qve{P:Program}{w:World}{K:PySem.W.Frag}{mg mb:Str->Option Value}{CX:CXT}{k:Nat}{fa a:Addr}{fd:FuncData}{x:Str}{sp:Sp}{s₁:Shared}{vs:List Value}{ns:List Int}
  (KX:K.In s₁.heap) (hns:s₁.heap.Ns mainGlobals mg) (hb:s₁.heap.Ns builtinsNs mb) (hbb:∀x:Str,x≠"__name__" -> mb x=bootBuiltins x) (hlim:s₁.heap.NoLimit) (hg:s₁.gens=#[])
  (ha:s₁.heap.get? a=some { cls:=.type "list",data:=.seq vs.toArray }) (hi:IntsAre vs ns) (hl:ns.length<=sizeLine) (hr:Room k callerA)
  (F:∀base:Heap,K.In base->base.Ns mainGlobals mg->FnOk P w K mg base CX k fa fd [x] sp) (hbind:∀(s:Shared) (u:Value),BindsTo s fd ⟨[u],[]⟩ [(x,u)])
  (hsp:∀H:Hp,Only H->SqL K H a (ns.map V.int)->sp [.ref a] H (λv _=>v=.bl true) λ_ _ _=>False)
  (hCX:∀H e s',CX [] H s₁ (λ_ _ _=>False) e s'->False) :
  codeAny (model P w) callerA (.call (.ref fa) ⟨[.ref a],[]⟩) (λr s'=>r=.ok (.ret (.bool true))/\OldK s₁.heap s'.heap/\s'.os=s₁.os/\AllBare s'.gens) s₁:=by
 have rv:=ql0 hi
 have lenV:=hi.length
 have core:∀H:Hp,Only H->SqL K H a (ns.map V.int)->HOk P w H s₁.heap->(∀b,H b≠none->b=a)->(H a≠none->K.lookup a=none) ->
   codeAny (model P w) callerA (.call (.ref fa) ⟨[.ref a],[]⟩) (λr s'=>r=.ok (.ret (.bool true))/\OldK s₁.heap s'.heap/\s'.os=s₁.os/\AllBare s'.gens) s₁:=by
  intro H hO hS hok hA hK
  have base_of:∀ {b:Addr} {o:Obj},s₁.heap.get? b=some o->H b=none->(hidT s₁.heap H).get? b=some o:=λe n=>qu6 e n
  have noA:∀ {b:Addr} {o:Obj} {es:Array DictEntry} {ep:Nat},s₁.heap.get? b=some o->o.data=.dict es ep->H b=none:=λ{b o es ep} e d=>by
   cases q:H b with
  |none=>rfl
  |some u =>
    have e':b=a:=hA b (by rw[q];simp)
    subst e'
    rw[ha] at e;cases e
    have d':Data.seq vs.toArray _=Data.dict es ep:=d
    cases d'
  have nsK:∀ {b:Addr} {m:Str->Option Value},s₁.heap.Ns b m->(hidT s₁.heap H).Ns b m:=λ{b m} ⟨o,es,ep,e,d,r⟩=>⟨o,es,ep,base_of e (noA e d),d,r⟩
  have hKb:K.In (hidT s₁.heap H):=λb o e=>base_of (KX b o e) (by
   cases q:H b with
  |none=>rfl
  |some u =>
    have e':b=a:=hA b (by rw[q];simp)
    subst e'
    rw[hK (by rw[q];simp)] at e;cases e)
  have hM:Mod K mg (hidT s₁.heap H):=⟨hKb,nsK hns,⟨mb,nsK hb,hbb⟩,let ⟨mc,h1,h2⟩:=hlim;⟨mc,nsK h1,h2⟩⟩
  have e0:Env0 P w K mg (hidT s₁.heap H) callerA [] s₁ H:=⟨rfl,hM,λb o e=>qze e,Nat.le_of_eq (qr6 _ _),trivial,λb hb=>absurd (show b∈([]:List Addr) from hb) (by simp),hok,.of_eq hg⟩
  refine codeAny_mono ((F _ hKb (nsK hns)).run callerA [] s₁ H ⟨[.ref a],[]⟩ [.ref a] [.ref a] _ _ hr e0 (hbind s₁ (.ref a)) (.cons rfl .nil) (hsp H hO hS)) λr s' h=>?_
  cases r with
 |error e=>exact(hCX H e s' h).elim
 |ok fl =>
   cases fl with
  |next=>exact False.elim h
  |brk=>exact False.elim h
  |cont=>exact False.elim h
  |ret u =>
    obtain⟨v,H',os,bare,un,hok',r',q⟩:=h
    have q':v=.bl true:=q
    subst q'
    obtain rfl:u=Value.bool true:=r'
    refine⟨rfl,OldK.of_keep λb o e=>?_,os,bare⟩
    cases q:H b with
   |none=>exact un.keep b o e q (by intro z;exact absurd (show b∈([]:List Addr) from z) (by simp)) (by simp)
   |some u =>
     rcases hO b with z|⟨ob,xs,z⟩
     ·rw[q] at z;cases z
     ·have z2:=un.frzs b ob _ z
      obtain⟨e1,_⟩:=hok b _ z
      obtain⟨e2,_⟩:=hok' b _ z2
      rw[e] at e1;cases e1
      exact e2
 cases hk:K.lookup a with
|some o =>
  have e:=KX a o hk
  rw[ha] at e
  cases e
  refine core (λ_=>none) (λ_=>.inl rfl) (.inr ⟨_,vs.toArray,_,hk,rfl,rfl,rfl,by rw[List.size_toArray,lenV];exact hl,by simpa using rv⟩) (λb u z=>by have z':(none:Option HO)=some u:=z;cases z') (λb z=>absurd rfl z) λz=>absurd rfl z
|none =>
  refine core (λb=>if b=a then some (.frz { cls:=.type "list",data:=.seq vs.toArray } (.lst (ns.map V.int))) else none) (λb=>?_) (.inl (.inr ⟨{ cls:=.type "list",data:=.seq vs.toArray },if_pos rfl⟩)) (λb u z=>?_) (λb z=>?_) λ_=>hk
  ·by_cases hb:b=a
   ·exact .inr ⟨_,_,if_pos hb⟩
   ·exact .inl (if_neg hb)
  ·by_cases hb:b=a
   ·have z':=(if_pos hb).symm.trans z
    cases z'
    subst hb
    exact⟨ha,by rw[List.length_map];exact hl,vs,_,rv,ha⟩
   ·have z':=(if_neg hb).symm.trans z
    cases z'
  ·by_cases hb:b=a
   ·exact hb
   ·exact absurd (if_neg hb) z
end L2
namespace L2
open PySem PySem.Spec PyProof.Rows
theorem q5p{l:PySem.W.OpenLaw}{n k:Nat}{q:Program}{loose:List Str}{XP:(Str->Option Value)->Heap->Prop}{YP:World->Heap->Prop}{d:DefRec}{K:Params->PySem.W.Frag}{CX:World->CXT}{sp:World->Sp}{x:Str}
  (hn:l.most=some n) (hn2:n<=sizeLine) (hdf:d.params.defaults=[]) (hr:Room k callerA)
  (hY:∀(w:World) (h:Heap),YP w h->(K w.params).In h)
  (F:∀(w:World) (mg:Str->Option Value) (fa:Addr) (h:Heap),(K w.params).In h->h.Ns mainGlobals mg->mg d.name=some (.ref fa) ->
   ∃fd:FuncData,(∀(s:Shared) (u:Value),BindsTo s fd ⟨[u],[]⟩ [(x,u)]) /\
    ∀base:Heap,(K w.params).In base->base.Ns mainGlobals mg->FnOk l.prog w (K w.params) mg base (CX w) k fa fd [x] (sp w))
  (hsp:∀(w:World) (H:Hp) (a:Addr) (ns:List Int),ns.length<=n->Only H->SqL (K w.params) H a (ns.map V.int)->sp w [.ref a] H (λv _=>v=.bl true) λ_ _ _=>False)
  (hCX:∀(w:World) (H:Hp) (s:Shared) (e:Value) (s':Shared),CX w [] H s (λ_ _ _=>False) e s'->False) :
  PySem.W.WalkO q loose XP YP l.row.toRowW d [] (λf vs=>PySem.call f vs):=by
 refine Att.attach_call hn hdf λw s₀ s₁ mg mb fa o pm cd doc a vs ns G Y ho hd hcd hmg hobj hints hlen hg=>?_
 have KX:=hY w _ Y
 obtain⟨fd,hb,hF⟩:=F w mg fa _ KX G.T.g hmg
 exact qve KX G.T.g G.T.b G.T.builtins G.T.nolimit hg hobj hints (Nat.le_trans hlen hn2) hr hF hb (λH hO hS=>hsp w H a ns hlen hO hS) λH e s'=>hCX w H s₁ e s'
end L2
namespace L2
open PySem PySem.Spec PyProof.Rows
def qc3(s:Stmt):Arguments:=match s with
|.FunctionDef _ a _ _ _ _ _ _ _ _=>a
|_=>{ posonlyargs:=[],args:=[],vararg:=none,kwonlyargs:=[],kw_defaults:=[],kwarg:=none,defaults:=[] }
def qb5(s:Stmt):List Stmt:=match s with
|.FunctionDef _ _ b _ _ _ _ _ _ _=>b
|_=>[]
def qaj(s:Stmt):Scope:=match s with
|.FunctionDef _ _ _ _ _ _ sc _ _ _=>sc
|_=>{ kind:=.function,names:=[],isGenerator:=false,isCoroutine:=false }
abbrev CX0:CXT:=λ_ _ _ _ _ _=>False
abbrev E0:XK:=λ_ _ _=>False
theorem q45{X:Cx}:qq3 CX0 X E0:=λ_ _ _ _ _ _ _ h=>h.elim
structure Fun(K:PySem.W.Frag)(x qual:Str)(st:Stmt)(f:Addr)(fd:FuncData):Prop where
 ex:∃(oc:Value) (od:Option Addr) (kV doc pm:Value) (an:Option Addr) (cdv ct:Value) (osl:Array (Option Value)),
  fd=PySem.W.fnOf x qual (qc3 st) (qb5 st) (qaj st) .none kV doc pm an cdv ct/\K.lookup f=some ⟨oc,od,.func fd,osl⟩/\PySem.W.codeIn K cdv qual=true
 kp:PySem.W.keepIn K (.ref f)=true
section
variable {P:Program} {w:World} {K:PySem.W.Frag} {mg:Str->Option Value} {base:Heap}
theorem Fun.ok{x qual:Str}{st:Stmt}{f:Addr}{fd:FuncData}{N ps:List Str}{k:Nat}{sp:Sp}(F:Fun K x qual st f fd)(S:FnScope N ps (qaj st))(len:∀vs H Q E,sp vs H Q E->vs.length=ps.length)
  (hbody:∀(cdv:Value) (A:Around) (outer:List Env) (s:Shared) (H:Hp) (vs:List V) (Q:VK) (E:XK),Room k (A.deeper (envOfC qual (qaj st) s.heap.objs.size f cdv))->sp vs H Q E ->
   ∃t,PSs (cxOf CX0 P w K mg base N qual (qaj st) f cdv A outer s H E).nox (qb5 st) t/\t { nx:=λ_ H'=>Q .non H',rt:=Q } (start N vs) H):FnOk P w K mg base CX0 (k+1) f fd ps sp:=by
 obtain⟨oc,od,kV,doc,pm,an,cdv,ct,osl,rfl,lk,hcd⟩:=F.ex
 refine q4z lk hcd S len λA outer s H vs Q E hr hsp=>?_
 obtain⟨t,h,q⟩:=hbody cdv A outer s H vs Q E hr hsp
 exact⟨t,h.nox,q⟩
theorem Fun.binds{x qual:Str}{st:Stmt}{f:Addr}{fd:FuncData}{ps:List Str}(F:Fun K x qual st f fd)
  (h:∀(kV doc pm:Value) (an:Option Addr) (cdv ct:Value) (us:List Value),us.length=ps.length->bindArgs (PySem.W.fnOf x qual (qc3 st) (qb5 st) (qaj st) .none kV doc pm an cdv ct) ⟨us,[]⟩=pure (ps.zip us)):Binds K fd ps []:=by
 obtain⟨oc,od,kV,doc,pm,an,cdv,ct,osl,rfl,lk,hcd⟩:=F.ex
 exact .all (h kV doc pm an cdv ct)
theorem qxg{x qual:Str}{st:Stmt}{f:Addr}{oc:Value}{od an:Option Addr}{osl:Array (Option Value)}{kV doc pm cdv ct:Value}(l:K.lookup f=some ⟨oc,od,.func (PySem.W.fnOf x qual (qc3 st) (qb5 st) (qaj st) .none kV doc pm an cdv ct),osl⟩)
  (c:PySem.W.codeIn K cdv qual=true) (k:PySem.W.keepIn K (.ref f)=true):Fun K x qual st f (PySem.W.fnOf x qual (qc3 st) (qb5 st) (qaj st) .none kV doc pm an cdv ct):=⟨⟨oc,od,kV,doc,pm,an,cdv,ct,osl,rfl,l,c⟩,k⟩
end
section
variable {X:Cx}
theorem pv(i:Nat){x:Str}{pos:Pos}(hN:X.N[i]?=some x:=by rfl)(hv:Vis X.env.scope x:=by first|exact Or.inl rfl|exact Or.inr (Or.inl rfl)|exact Or.inr (Or.inr rfl))(hd:(x==("__debug__" : Str))=false:=by decide)
  (hcd:(x==("__classdict__" : Str))=false:=by decide):PE X (.Name x pos) (tVar i):=qxp hN hv hd hcd
end
theorem iteF{A B:Prop}(h:B):if false=true then A else B:=by
 rw[if_neg Bool.false_ne_true]
 exact h
theorem iteT{A B:Prop}(h:A):if true=true then A else B:=by
 rw[if_pos rfl]
 exact h
def Same(H H':Hp):Prop:=∀b o,H b=some o->H' b=some o
theorem Same.refl(H:Hp):Same H H:=λ_ _ h=>h
theorem Same.trans{H H1 H2:Hp}(a:Same H H1)(b:Same H1 H2):Same H H2:=λc o h=>b c o (a c o h)
theorem Same.free{H H':Hp}(e:Same H H'){l:Addr}(h:H' l=Option.none):H l=Option.none:=by
 cases q:H l with
|none=>rfl
|some o =>
  rw[e l o q] at h
  cases h
theorem Same.seq{K:PySem.W.Frag}{H H':Hp}{a:Addr}{xs:List V}(e:Same H H')(h:SqL K H a xs):SqL K H' a xs:=by
 rcases h with (h|⟨o,h⟩)|h
 ·exact .inl (.inl (e _ _ h))
 ·exact .inl (.inr ⟨o,e _ _ h⟩)
 ·exact .inr h
end L2
namespace L2
open PySem PySem.Spec PyProof.Rows
theorem qaw:1000<=sizeLine:=by decide
theorem qan{H:Hp}{l:Addr}(h:H l=none)(o:HO):Same H (upd H l o):=λb u e=>by
 rw[qa4 (qch e h)]
 exact e
theorem Same.put{H H':Hp}{p:Addr}{o:HO}(e:Same H H')(h:H p=none):Same H (upd H' p o):=λb u q=>by
 rw[qa4 (qch q h)]
 exact e b u q
theorem qd3{α:Type}{xs:List α}{k:Int}(h0:0<=k)(h1:k<(xs.length:Int)):∃v,atI xs k=some v/\xs[k.toNat]?=some v:=by
 have hk:k.toNat<xs.length:=by lia
 have e:xs[k.toNat]?=some xs[k.toNat]:=List.getElem?_eq_getElem hk
 refine⟨xs[k.toNat],?_,e⟩
 have:=qq9 e
 rw[Int.toNat_of_nonneg h0] at this
 exact this
theorem q1u{α β:Type}{f:α->β}{xs:List α}{k:Int}{v:α}(h:atI xs k=some v):atI (xs.map f) k=some (f v):=by
 unfold atI at h ⊢
 rw[List.length_map]
 cases e:ixN xs.length k with
|none =>
  rw[e] at h
  cases h
|some j =>
  rw[e] at h
  have h':xs[j]?=some v:=h
  show (xs.map f)[j]?=some (f v)
  rw[List.getElem?_map,h']
  rfl
def cutL{α:Type}(xs:List α)(lo hi:Option Int):List α:=(xs.drop (HT.sIx xs.length 0 lo)).take (HT.sIx xs.length xs.length hi-HT.sIx xs.length 0 lo)
theorem qux{α:Type}(f:α->V)(xs:List α)(lo hi:Option Int):cutV (xs.map f) lo hi=(cutL xs lo hi).map f:=by
 unfold cutV cutL
 rw[List.length_map,List.map_take,List.map_drop]
theorem qg5{α:Type}(xs:List α):cutL xs none (some (-1))=xs.dropLast:=by
 unfold cutL
 rw[HT.sIx_none]
 show (xs.drop 0).take ((if (-1:Int)<0 then ((-1:Int)+(xs.length:Int)).toNat else min (-1:Int).toNat xs.length)-0)=xs.dropLast
 rw[if_pos (by decide),List.drop_zero,List.dropLast_eq_take]
 congr 1
 lia
theorem qg6{α:Type}(xs:List α)(k:Nat):cutL xs none (some (k:Int))=xs.take k:=by
 unfold cutL
 rw[HT.sIx_none,HT.sIx_nat,List.drop_zero,Nat.sub_zero]
 by_cases h:k<=xs.length
 ·rw[Nat.min_eq_left h]
 ·rw[Nat.min_eq_right (by lia),List.take_length,List.take_of_length_le (by lia)]
theorem qrg{α:Type}(xs:List α)(k:Nat):cutL xs (some (k:Int)) none=xs.drop k:=by
 unfold cutL
 rw[HT.sIx_none,HT.sIx_nat]
 by_cases h:k<=xs.length
 ·rw[Nat.min_eq_left h,List.take_of_length_le (by rw[List.length_drop];lia)]
 ·rw[Nat.min_eq_right (by lia),List.drop_length,List.drop_of_length_le (by lia),List.take_nil]
def Its(z:Str):It:=⟨λi _=>i<z.cps.size,λi H x H'=>H'=H/\∃c,z.cps[i]?=some c/\x=.str ⟨#[c]⟩,λi _=>z.cps.size<=i⟩
theorem qqi{P:Program}{w:World}{K:PySem.W.Frag}{tg:Expr}(it:Addr)(z:Str)(t:Tok):Turn P w K tg (Its z) [it] it (λi h=>h.IsStrIter it "str_ascii_iterator" z t i) where
 mem:=by simp
 obj:=λi h st b hb=>by
  have e:b=it:=by simpa using hb
  subst e
  obtain⟨o,e,c,d⟩:=st
  exact⟨o,e,λv z=>by rw[d] at z;cases z⟩
 keep:=λi h h' st k=>by
  obtain⟨o,e,r⟩:=st
  exact⟨o,k it (by simp) o e,r⟩
 item:=by
  intro X hP hw hK hc i pins s σ H E I hf st hg
  subst hP hw hK
  obtain⟨f0,f1,f2,f3,f4,f5⟩:=hf it (by simp)
  have hx:z.cps[i]?=some z.cps[i]:=Array.getElem?_eq_getElem hg
  refine wpAny_pyNext_ascii_item st hx λh' st' sb=>?_
  have I1:Inv X pins σ H { s with heap:=h',toks:=s.toks+1 }:=I.turned (λb o hb e=>(sb.2 b hb).trans e) f0 f1 f3 f4 f5
  obtain⟨o,e,c,d⟩:=id st'
  exact⟨_,rfl,qr3 (s:={ s with heap:=h',toks:=s.toks+1 }) e c d (by decide) ⟨.str ⟨#[z.cps[i]]⟩,H,I1,⟨_,rfl⟩,⟨rfl,_,hx,rfl⟩,st',λb hb=>(hf b hb).1⟩⟩
 done:=by
  intro X hP hw hK hc i pins s σ H E I hf st hg
  subst hP hw hK
  obtain⟨f0,f1,f2,f3,f4,f5⟩:=hf it (by simp)
  exact wpAny_pyNext_ascii_end (I.ok.hd hc) st (Array.getElem?_eq_none hg) λh' eb=>⟨rfl,I.turned (t':=s.toks) (λb o hb e=>eb b o hb e) f0 f1 f3 f4 f5⟩
 self:=λ_ _ _ _ _ st h=>wpAny_pyIter_striter_ascii st h
theorem qty{P:Program}{w:World}{K:PySem.W.Frag}{tg:Expr}(it:Addr)(z:Str)(t:Tok):Turn P w K tg (Its z) [it] it (λi h=>h.IsStrIter it "str_iterator" z t i) where
 mem:=by simp
 obj:=λi h st b hb=>by
  have e:b=it:=by simpa using hb
  subst e
  obtain⟨o,e,c,d⟩:=st
  exact⟨o,e,λv z=>by rw[d] at z;cases z⟩
 keep:=λi h h' st k=>by
  obtain⟨o,e,r⟩:=st
  exact⟨o,k it (by simp) o e,r⟩
 item:=by
  intro X hP hw hK hc i pins s σ H E I hf st hg
  subst hP hw hK
  obtain⟨f0,f1,f2,f3,f4,f5⟩:=hf it (by simp)
  have hx:z.cps[i]?=some z.cps[i]:=Array.getElem?_eq_getElem hg
  refine wpAny_pyNext_wide_item st hx λh' st' sb=>?_
  have I1:Inv X pins σ H { s with heap:=h',toks:=s.toks+1 }:=I.turned (λb o hb e=>(sb.2 b hb).trans e) f0 f1 f3 f4 f5
  obtain⟨o,e,c,d⟩:=id st'
  exact⟨_,rfl,qr3 (s:={ s with heap:=h',toks:=s.toks+1 }) e c d (by decide) ⟨.str ⟨#[z.cps[i]]⟩,H,I1,⟨_,rfl⟩,⟨rfl,_,hx,rfl⟩,st',λb hb=>(hf b hb).1⟩⟩
 done:=by
  intro X hP hw hK hc i pins s σ H E I hf st hg
  subst hP hw hK
  obtain⟨f0,f1,f2,f3,f4,f5⟩:=hf it (by simp)
  exact wpAny_pyNext_wide_end (I.ok.hd hc) st (Array.getElem?_eq_none hg) λh' eb=>⟨rfl,I.turned (t':=s.toks) (λb o hb e=>eb b o hb e) f0 f1 f3 f4 f5⟩
 self:=λ_ _ _ _ _ st h=>wpAny_pyIter_striter_wide st h
section
variable {X:Cx} {tg:Expr}
end
def qa3:Expr->Bool
|.Starred ..=>false
|_=>true
theorem qbx{e:Expr}{es:List Expr}{env:Env}(h:qa3 e=true):starEach (e::es) env=(false,eval e env)::starEach es env:=by
 cases e<;>first|rfl|(exact absurd h Bool.false_ne_true)
theorem qff{env:Env}:∀ {es:List Expr},es.all qa3=true->starEach es env=es.map λe=>(false,eval e env)
|[],_=>rfl
|e::es,h=>by
  rw[List.all_cons,Bool.and_eq_true] at h
  rw[qbx h.1,qff h.2,List.map_cons]
theorem qfv{es:List Expr}{env:Env}{pos:Pos}(h:es.all qa3=true):(backTo pos (starEach es env)).any (·.1)=false:=by
 rw[qff h]
 unfold backTo
 rw[List.map_map,List.any_eq_false]
 intro p hp
 obtain⟨e,_,rfl⟩:=List.mem_map.mp hp
 exact Bool.false_ne_true
theorem qwp{es:List Expr}{env:Env}{pos:Pos}(h:es.all qa3=true):(backTo pos (starEach es env)).all (λx=>!x.1)=true:=by
 rw[qff h]
 unfold backTo
 rw[List.map_map,List.all_eq_true]
 intro p hp
 obtain⟨e,_,rfl⟩:=List.mem_map.mp hp
 rfl
section
variable {X:Cx} {x:Str} {p pos:Pos} {e:Expr} {es:List Expr} {te:TE} {t:TA} {id T:String} {r:List V->Hp->VK->Prop}
theorem pac(ha:PE X e te)(hr:PA X es t)(hs:qa3 e=true:=by rfl):PA X (e::es) (qwr te t):=qzn ha hr (qbx hs)
theorem all2{e:Expr}{es:List Expr}(h:(e::es).all qa3=true):qa3 e=true/\es.all qa3=true:=by
 rw[List.all_cons,Bool.and_eq_true] at h
 exact h
theorem pcb(hc:CallR X (.builtin id) r)(hg:Gl X x)(hm:X.mg x=none)(hv:bootBuiltins x=some (.builtin id))(ha:PA X (e::es) t)(hp:(e::es).all qa3=true:=by rfl)(hn:x≠"__name__" := by decide)(hdb:(x==("__debug__" : Str))=false:=by decide) :
  PE X (.Call (.Name x p) (e::es) [] pos) (tCB r t):=qvq hc hg hm hv ha hn hdb (qbx (all2 hp).1) (qfv (all2 hp).2)
theorem pct(hc:CallR X (.type T) r)(hg:Gl X x)(hm:X.mg x=none)(hv:bootBuiltins x=some (.type T))(ha:PA X (e::es) t)(hp:(e::es).all qa3=true:=by rfl)(hn:x≠"__name__" := by decide)(hdb:(x==("__debug__" : Str))=false:=by decide) :
  PE X (.Call (.Name x p) (e::es) [] pos) (tCB r t):=qs9 hc hg hm hv ha hn hdb (qbx (all2 hp).1) (qfv (all2 hp).2)
theorem pbm{o:Expr}{to:TE}{name:Str}{apos cpos:Pos}{r:V->List V->Hp->VK->Prop}(pa:PlainAttrs T)(slot:Slot T name id)(hty:typeOf (.builtin id)=pure (.type "method_descriptor"))(hm:MtR X id r)(ho:PE X o to)(ha:PA X (e::es) t)
  (hp:(e::es).all qa3=true:=by rfl) (hfew:decide ((e::es).length<30)=true:=by rfl) (hbase:attributeBase o name X.env (eval o X.env)=eval o X.env:=by rfl) (hline:(apos.endLine==cpos.line)=true:=by rfl) :
  PE X (.Call (.Attribute o name apos) (e::es) [] cpos) (tBM X.K T r to t):=by
 refine q47 pa slot hty hm ho ha hbase ?_ hline (qbx (all2 hp).1) (qfv (all2 hp).2)
 rw[qwp hp]
 exact hfew
theorem q5b{tg a:Expr}{ta:TA}(hg:Gl X "range")(hm:X.mg "range" = none)(ha:PA X [a] ta)(hp:qa3 a=true:=by rfl):PI X tg (.Call (.Name "range" p) [a] [] pos) (qy0 ta):=qta hg hm ha (qbx hp)
end
inductive Cal(P:Program)(w:World)(K:PySem.W.Frag)(mg:Str->Option Value)(base:Heap)(k:Nat)(x:Str)(ps:List Str)(sp:Sp):Prop where
|mk {f:Addr} {fd:FuncData} (F:FnOk P w K mg base CX0 k f fd ps sp) (hm:mg x=some (.ref f)) (hk:PySem.W.keepIn K (.ref f)=true) (hb:Binds K fd ps [])
section
variable {X:Cx} {k:Nat} {ps:List Str} {sp:Sp} {x:Str} {p pos:Pos} {e:Expr} {es:List Expr} {t:TA}
theorem q2x(C:Cal X.prog X.w X.K X.mg X.base k x ps sp)(hr:Room k X.A)(hg:Gl X x)(ha:PA X (e::es) t)(hp:(e::es).all qa3=true:=by rfl)(hdb:(x==("__debug__" : Str))=false:=by decide):PE X (.Call (.Name x p) (e::es) [] pos) (q09 sp [] E0 t):=by
 cases C with
|mk F hm hk hb=>exact qzq F hr hg hm hk hb .nil q45 ha hdb (qbx (all2 hp).1) (qfv (all2 hp).2)
end
section
variable {X:Cx}
end
theorem qvd{K:PySem.W.Frag}{T:String}:PySem.W.kitOne K (.type T) (.type T)=some true:=by
 unfold PySem.W.kitOne
 rw[if_pos (by simp)]
section
variable {X:Cx}
theorem qno:∀ {ys:List Str} {us:List Value},Vals (ys.map V.str) us->∃l:List (Str×Tok),us=strValues l/\l.map (·.1)=ys
|[],_,r=>by
  cases r
  exact⟨[],rfl,rfl⟩
|y::ys,_,r=>by
  rw[List.map_cons] at r
  cases r with
 |cons r1 r2 =>
   obtain⟨t,e⟩:=r1
   subst e
   obtain⟨l,e1,e2⟩:=qno r2
   subst e1
   exact⟨(y,t)::l,rfl,by rw[List.map_cons,e2]⟩
abbrev glue(sep:Str)(ys:List Str):Str:=Txt.join sep ys
theorem qzd:MtM X "str.join" (λx vs H Q=>∃(sep:Str) (l:Addr) (ys:List Str),x=.str sep/\vs=[.ref l]/\SqL X.K H l (ys.map V.str)/\(ys.map (·.length)).sum+ys.length*sep.length<=16777216/\Q (.str (glue sep ys)) H):=by
 intro pins s σ H x vs v us Q I rx rv h
 obtain⟨sep,l,ys,rfl,rfl,hq,hz,q⟩:=h
 obtain⟨t,rfl⟩:=rx
 obtain⟨u,rfl,ru⟩:=rv.one
 cases ru
 obtain⟨its,r,pl,_⟩:=I.list hq
 obtain⟨ts,e1,e2⟩:=qno r
 subst e1
 refine SC.join pl.isList e2 ?_ λt' k=>⟨.str (glue sep ys),H,I.tok k,⟨t',rfl⟩,q⟩
 unfold JoinOk
 rw[StrLaws.joinTotal]
 have:Builtin.Str.tooLong ((ys.map (·.length)).sum+ys.length*sep.length)=false:=by
  unfold Builtin.Str.tooLong
  rw[sizeLine_eq]
  exact decide_eq_false (by lia)
 rw[this]
 rfl
theorem part_of{v:Value}{o:Option Int}(p:IsPart v o):∃l:Option (Int×Tok),v=partValue l/\l.map (·.1)=o:=by
 cases p with
|none=>exact⟨none,rfl,rfl⟩
|int i t=>exact⟨some (i,t),rfl,rfl⟩
theorem sl_str:SlR X (λx lo hi H Q=>∃z,x=.str z/\z.length<=sizeLine/\Q (.str (Txt.slice z lo hi)) H):=by
 intro pins s σ H x v vl vu lo hi sl Q I rx hs pl pu h
 obtain⟨z,rfl,hz,q⟩:=h
 obtain⟨t,rfl⟩:=rx
 obtain⟨l,e1,e2⟩:=part_of pl
 obtain⟨u,e3,e4⟩:=part_of pu
 subst e1 e2 e3 e4
 refine⟨"str",_,F.slot_str_getitem.lookup,typeIs_str _ _ _,?_⟩
 refine wpAny_getItem_str_slice (l:=l) (u:=u) (st:=none) hs rfl ?_
 exact post_val_or_str ⟨Nat.le_trans (Txt.slice_le z _ _) hz,λt' k=>⟨.str (Txt.slice z (l.map (·.1)) (u.map (·.1))),H,I.tok k,⟨t',rfl⟩,q⟩⟩
end
end L2
namespace HT
open PySem PyProof.Rows
section
variable {prog:Program} {w:World} {A:Around} {E:Value->Shared->Prop} {s:Shared}
theorem getItem_tuple_whole{t sl:Addr}{items:Array Value}{vl vu:Value}{lo hi:Option Int}{Q:Value->Shared->Prop}(ht:IsTup s.heap t items)(hs:s.heap.IsSliceOf sl vl vu .none)(pl:IsPart vl lo)(pu:IsPart vu hi)
  (hw:sIx items.size 0 lo=0/\sIx items.size items.size hi=items.size) (h:Q (.ref t) s):wpAny (model prog w) A (getItem (.ref t) (.ref sl)) Q E s:=by
 obtain⟨os,hos,hcs,hds⟩:=id hs
 have hTs:s.TypeIs (.ref sl) "slice" := ⟨os,hos,hcs⟩
 unfold getItem
 try with_reducible refine wpAny_holding ?_
 first|refine wpAny_bind (wpAny_pure ?_)|skip
 refine wpAny_bind (wpAny_sequenceKey ht.typeIs (by decide) ?_)
 refine wpAny_bind (wpAny_callSpecial?_slot (name:=Str.ofString "__getitem__") ht.typeIs PyProof.Rows.slot_tuple_getitem
  (wpAny_call_entry PyProof.Rows.slot_tuple_getitem ht.typeIs entry_tuple_getitem ?_ (args_tuple_getitem _ _)))
 show wpAny _ _ (Builtin.Tuple.tupleItemsOf (.ref t) >>= _) _ _ s
 refine wpAny_bind (tupleItemsOf_ ht ?_)
 refine wpAny_bind (wpAny_typeOf hTs ?_)
 rw[if_pos (by decide)]
 refine wpAny_bind (qd4 hs pl pu ?_)
 have hyes:(((sIx items.size 0 lo:Nat):Int)==0&&(1:Int)==1&&(sIx items.size items.size hi-sIx items.size 0 lo)==items.size)=true:=by
  rw[hw.1,hw.2]
  simp
 show wpAny _ _ (if (((sIx items.size 0 lo:Nat):Int)==0&&(1:Int)==1&&(sIx items.size items.size hi-sIx items.size 0 lo)==items.size)=true then _ else _) _ _ s
 rw[if_pos hyes]
 refine wpAny_bind (m:=Builtin.Tuple.tupleIsExact _) ?_
 unfold Builtin.Tuple.tupleIsExact
 refine wpAny_bind (wpAny_typeOf ht.typeIs (wpAny_pure ?_))
 rw[if_pos (by decide)]
 exact wpAny_bind (wpAny_rule (wpAny_pure ⟨_,rfl,wpAny_pure h⟩))
end
end HT
namespace L2
open PySem PySem.Spec PyProof.Rows
section
variable {X:Cx}
end
theorem qde{env:Env}{x:Str}{k:NameKind}:∀ {names:List (Str×NameKind)},
  (names.map λ(n,k)=>if (k==NameKind.free&&env.scope.kind==.function&&env.kindOf n==some .cell) then (n,NameKind.cell) else (n,k)).lookup x=some k->names.lookup x=some k\/(names.lookup x=some .free/\k=.cell)
|[],h=>by simp at h
|(n,k0)::r,h=>by
  have ih:=@qde env x k r
  rw[List.map_cons] at h
  have h:List.lookup x ((if (k0==NameKind.free&&env.scope.kind==.function&&env.kindOf n==some .cell)=true then (n,NameKind.cell) else (n,k0))::_)=some k:=h
  by_cases hc:(k0==NameKind.free&&env.scope.kind==.function&&env.kindOf n==some .cell)=true
  ·rw[if_pos hc,List.lookup_cons] at h
   rw[List.lookup_cons]
   cases hx:x==n with
  |true =>
    rw[hx] at h
    have e:NameKind.cell=k:=Option.some.inj h
    subst e
    have e0:k0=.free:=by
     rw[Bool.and_eq_true,Bool.and_eq_true] at hc
     exact eq_of_beq hc.1.1
    subst e0
    exact .inr ⟨rfl,rfl⟩
  |false =>
    rw[hx] at h
    exact ih h
  ·rw[if_neg hc,List.lookup_cons] at h
   rw[List.lookup_cons]
   cases hx:x==n with
  |true =>
    rw[hx] at h
    exact .inl h
  |false =>
    rw[hx] at h
    exact ih h
theorem qco{csc:Scope}{env:Env}{x:Str}{k:NameKind}(h:(relabel csc env).names.lookup x=some k):csc.names.lookup x=some k\/(csc.names.lookup x=some .free/\k=.cell):=qde h
theorem qpo{csc:Scope}{env:Env}(h:∀y∈csc.names,y.2=.free->∃c,env.cells.lookup y.1=some c) :
  ∃cl,closureFor csc env=pure cl/\(∀x c,cl.lookup x=some c->env.cells.lookup x=some c)/\∀y∈csc.names,y.2=.free->∃c,cl.lookup y.1=some c:=by
 have key:∀(body:Str×NameKind->List (Str×Addr)->Sem (ForInStep (List (Str×Addr)))),
   (∀n k acc,body (n,k) acc=if (k==.free)=true then (cellOf env n >>= λc=>pure (ForInStep.yield ((n,c)::acc))) else pure (ForInStep.yield acc)) ->
   ∀(l:List (Str×NameKind)) (acc:List (Str×Addr)),(∀y∈l,y.2=.free->∃c,env.cells.lookup y.1=some c)->(∀x c,acc.lookup x=some c->env.cells.lookup x=some c) ->
   ∃cl,(forIn l acc body:Sem (List (Str×Addr)))=pure cl/\(∀x c,cl.lookup x=some c->env.cells.lookup x=some c)/\(∀y∈l,y.2=.free->∃c,cl.lookup y.1=some c)/\∀x c,acc.lookup x=some c->∃c',cl.lookup x=some c':=by
  intro body hb l
  induction l with
 |nil =>
   intro acc _ ha
   exact⟨acc,rfl,ha,λy hy=>(nomatch hy),λx c e=>⟨c,e⟩⟩
 |cons p r ih =>
   intro acc hl ha
   obtain⟨n,k⟩:=p
   have hr:∀y∈r,y.2=.free->∃c,env.cells.lookup y.1=some c:=λy hy=>hl y (List.mem_cons_of_mem _ hy)
   by_cases hk:k=.free
   ·subst hk
    obtain⟨c,hc⟩:=hl (n,.free) List.mem_cons_self rfl
    have ha':∀x d,((n,c)::acc).lookup x=some d->env.cells.lookup x=some d:=λx d e=>by
     rw[List.lookup_cons] at e
     cases hx:x==n with
    |true =>
      rw[hx] at e
      have e1:c=d:=Option.some.inj e
      subst e1
      rw[eq_of_beq hx]
      exact hc
    |false =>
      rw[hx] at e
      exact ha x d e
    obtain⟨cl,e1,e2,e3,e4⟩:=ih ((n,c)::acc) hr ha'
    refine⟨cl,?_,e2,λy hy hf=>?_,λx d e=>?_⟩
    ·rw[List.forIn_cons,hb,if_pos (by rfl)]
     have ec:cellOf env n=pure c:=by
      unfold cellOf
      rw[hc]
     rw[ec]
     exact e1
    ·rcases List.mem_cons.mp hy with e|hy
     ·subst e
      exact e4 n c (by rw[List.lookup_cons,beq_self_eq_true])
     ·exact e3 y hy hf
    ·cases hx:x==n with
    |true=>exact e4 x c (by rw[List.lookup_cons,hx])
    |false=>exact e4 x d (by rw[List.lookup_cons,hx];exact e)
   ·obtain⟨cl,e1,e2,e3,e4⟩:=ih acc hr ha
    refine⟨cl,?_,e2,λy hy hf=>?_,e4⟩
    ·have hk':(k==NameKind.free)=false:=by simpa using hk
     rw[List.forIn_cons,hb,hk',if_neg Bool.false_ne_true]
     exact e1
    ·rcases List.mem_cons.mp hy with e|hy
     ·subst e
      exact absurd hf hk
     ·exact e3 y hy hf
 obtain⟨cl,e1,e2,e3,_⟩:=key (λp acc=>if (p.2==.free)=true then (cellOf env p.1 >>= λc=>pure (ForInStep.yield ((p.1,c)::acc))) else pure (ForInStep.yield acc)) (λn k acc=>rfl) csc.names [] h (λx c e=>by simp at e)
 refine⟨cl,?_,e2,e3⟩
 have e4:closureFor csc env=(forIn csc.names [] (λp acc=>if (p.2==.free)=true then (cellOf env p.1 >>= λc=>pure (ForInStep.yield ((p.1,c)::acc))) else pure (ForInStep.yield acc)) >>= λcs=>pure cs):=rfl
 rw[e4,e1]
 rfl
structure CompScope(sc:Scope)(N NB M:List Str)(csc:Scope):Prop where
 kind:csc.kind=.function
 nocell:∀y∈csc.names,y.2≠.cell
 locs:∀y∈csc.names,y.2=.local->csc.names.lookup y.1=some .local
 free:∀y∈csc.names,y.2=.free->sc.names.lookup y.1=some .cell\/sc.names.lookup y.1=some .free
 nd:NB.Nodup
 len:NB.length=N.length+M.length
 old:∀p∈N.zip NB,csc.names.lookup p.2≠some .local/\(csc.names.lookup p.2=none\/p.1=p.2)
theorem CompScope.at{sc:Scope}{N NB M:List Str}{csc:Scope}(S:CompScope sc N NB M csc){i:Nat}{x:Str}(e:NB[i]?=some x)(hi:i<N.length):csc.names.lookup x≠some .local/\(csc.names.lookup x≠none->N[i]?=some x):=by
 have e1:N[i]?=some N[i]:=List.getElem?_eq_getElem hi
 have hm:(N[i],x)∈N.zip NB:=by
  apply List.mem_of_getElem? (i:=i)
  rw[List.getElem?_zip_eq_some]
  exact⟨e1,e⟩
 obtain⟨h1,h2⟩:=S.old _ hm
 refine⟨h1,λhn=>?_⟩
 rcases h2 with h2|h2
 ·exact absurd h2 hn
 ·rw[e1]
  exact congrArg some h2
def cxC(X:Cx)(NB:List Str)(csc:Scope)(cl:List (Str×Addr))(C:Addr)(s₀:Shared)(H₀:Hp)(fp:List Addr)(pn:List (Addr×Obj)):Cx where
 prog:=X.prog
 w:=X.w
 K:=X.K
 mg:=X.mg
 base:=X.base
 A:=X.A
 N:=NB
 s₀:=s₀
 H₀:=H₀
 env:=compEnvC csc cl C X.env
 outer:=X.stack
 stack:=X.stack
 ex:=fp
 fn:=λ_=>false
 calm:=X.calm
 pn:=pn
 xe:=λ_ _=>False
section
variable {X:Cx} {pins:List (Addr×Obj)} {σ:St} {H₀:Hp} {s₀:Shared} {NB M:List Str} {csc:Scope} {cl:List (Str×Addr)} {fp:List Addr}
theorem qpq{h₁:Heap}{tk:Nat}{m:Str->Option Value}(S:CompScope X.env.scope X.N NB M csc)(I:Inv X pins σ H₀ s₀)(hf:∀b∈fp,FpOk X pins H₀ b)(hlt:∀b∈fp,b<s₀.heap.objs.size)
  (c1:∀x c,cl.lookup x=some c->X.env.cells.lookup x=some c) (c2:∀y∈csc.names,y.2=.free->∃c,cl.lookup y.1=some c)
  (hn:h₁.Ns s₀.heap.objs.size m) (hk:∀b o,s₀.heap.get? b=some o->h₁.get? b=some o) :
  Inv (cxC X NB csc cl s₀.heap.objs.size s₀ H₀ fp (X.pn++pins)) [] (σ++List.replicate M.length none) H₀ { s₀ with heap:=h₁,toks:=tk }:=by
 have kindB:∀x,((relabel csc X.env).names.lookup x=some .cell\/(relabel csc X.env).names.lookup x=some .free)->csc.names.lookup x=some .free:=λx hx=>by
  rcases hx with hx|hx
  ·rcases qco hx with z|⟨z,_⟩
   ·exact absurd rfl (S.nocell _ (PySem.mem_of_lookup z))
   ·exact z
  ·rcases qco hx with z|⟨z,_⟩
   ·exact z
   ·exact z
 have hasC:∀x,csc.names.lookup x=some .free->∃c,cl.lookup x=some c:=λx hx=>c2 (x,.free) (PySem.mem_of_lookup hx) rfl
 refine⟨⟨I.ok.mod,S.kind,I.ok.glob,I.ok.blt,Nat.le_refl _,λx y c h1 h2=>I.ok.inj x y c (c1 x c h1) (c1 y c h2),λx hx=>hasC x (kindB x hx),λx c h _=>absurd h Bool.false_ne_true,I.ok.hd,I.ok.frames,.inl rfl,
   λb hb=>⟨Nat.ne_of_lt (hlt b hb),λx c e=>(hf b hb).2.2.2.2.1 x c (c1 x c e)⟩,I.bs,Nat.le_trans I.ok.bsz I.sz,λb o e hb=>?_,λb hb z=>?_,I.stack,I.stkFree⟩,
  rfl,I.bare,Un.kept hk,⟨m,hn,λi x v e1 e2 e3=>?_⟩,λx c e=>?_,I.fresh,λx c e=>I.freeC x c (c1 x c e),λp hp=>?_,I.hok.kept hk,?_⟩
 ·rcases (hf b hb).2.2.2.1 with z|z
  ·exact I.ok.noex b o e z
  ·exact absurd (Nat.lt_of_lt_of_le (Heap.lt_size e) (Nat.le_trans I.ok.bsz z)) (Nat.lt_irrefl _)
 ·rcases List.mem_cons.mp (I.stkSub b z) with e|e
  ·exact(hf b hb).2.1 e
  ·exact(hf b hb).2.2.1 e
 ·have hlen:=I.len
  have hi:i<X.N.length:=by
   apply Classical.byContradiction
   intro hi
   rw[List.getElem?_append_right (by lia),List.getElem?_replicate] at e2
   split at e2<;>cases e2
  have e2':σ[i]?=some (some v):=by
   rw[List.getElem?_append_left (by lia)] at e2
   exact e2
  obtain⟨nl,hN⟩:=S.at e1 hi
  have hfree:csc.names.lookup x=some .free:=by
   rcases e3 with z|z
   ·rcases qco (show (relabel csc X.env).names.lookup x=some .local from z) with q|⟨_,q⟩
    ·exact absurd q nl
    ·cases q
   ·exact kindB x z
  have hN':=hN (by rw[hfree];intro z;cases z)
  have ok:=S.free (x,.free) (PySem.mem_of_lookup hfree) rfl
  obtain⟨m',hn',hl⟩:=I.loc
  obtain⟨u,r,l⟩:=hl i x v hN' e2' (.inr ok)
  rcases l with ⟨k,_⟩|⟨_,c,hc,hcell⟩
  ·have k':X.env.scope.names.lookup x=some .local:=k
   rcases ok with z|z
   ·rw[show X.env.scope.names.lookup x=some .cell from z] at k'
    cases k'
   ·rw[show X.env.scope.names.lookup x=some .free from z] at k'
    cases k'
  ·obtain⟨c',hc'⟩:=hasC x hfree
   have ec:c'=c:=by
    have:=c1 x c' hc'
    rw[hc] at this
    exact(Option.some.inj this).symm
   subst ec
   obtain⟨o,ho,hd⟩:=hcell
   refine⟨u,r,.inr ⟨?_,c',hc',o,hk _ _ ho,hd⟩⟩
   rcases e3 with z|z
   ·rcases qco (show (relabel csc X.env).names.lookup x=some .local from z) with q|⟨_,q⟩
    ·exact absurd q nl
    ·cases q
   ·exact z
 ·obtain⟨v,o,ho,hd⟩:=I.cell x c (c1 x c e)
  exact⟨v,o,hk _ _ ho,hd⟩
 ·have hp':p∈(X.pn++pins)++[]:=hp
  rw[List.append_nil] at hp'
  obtain⟨e,n,ne,nf,d⟩:=I.pin p hp'
  exact⟨hk _ _ e,n,Nat.ne_of_lt (Heap.lt_size e),λz=>(List.mem_cons.mp (I.stkSub _ z)).elim ne nf,d⟩
 ·rw[List.length_append,List.length_replicate,I.len]
  exact S.len.symm
theorem quu{τ:St}{H:Hp}{s:Shared}{pins':List (Addr×Obj)}(I:Inv X pins σ H₀ s₀)(hf:∀b∈fp,FpOk X pins H₀ b)(B:Inv (cxC X NB csc cl s₀.heap.objs.size s₀ H₀ fp (X.pn++pins)) pins' τ H s) :
  Inv X pins σ H s/\FpOk X pins H s₀.heap.objs.size :=
 ⟨I.call' (ch:=fp) B.os B.base B.hok B.bare λb hb=>⟨(hf b hb).2.2.2.1,(hf b hb).2.1,(hf b hb).2.2.2.2.1,(hf b hb).2.2.2.2.2⟩,I.fpOk (Nat.le_refl _) B.free⟩
end
theorem qe2{prog:Program}{w:World}{A:Around}{R:Result->Shared->Prop}{s:Shared}{elt target iter:Expr}{ifs:List Expr}{scope:Scope}{pos:Pos}{it acc:Value}{env:Env}(I:Nat->Shared->Prop)
  (turn:∀n s,I n s->wpAny (model prog w) A (pyNext it) (λr s₁=>match r with
  |none=>R (.ok .next) s₁
  |  some v=>wpAny (model prog w) A (letOwnedTupleGo target it v) (λ_ s₁'=>wpAny (model prog w) A (assign target env v) (λ_ s₂ =>
     wpAny (model prog w) A (forIn ifs true λc r=>if r=true then do let ok ←isTrue c env (eval c env);pure (ForInStep.yield ok) else pure (ForInStep.yield r)) (λok s₃ =>
      if ok=true then wpAny (model prog w) A (eval elt env) (λx s₄ =>
       wpAny (model prog w) A (call (.builtin "list.append") [acc,x]) (λ_ s₅=>∃m,m<n/\I m s₅) (notedBy (model prog w) A env λe s'=>R (.error e) s') s₄) (notedBy (model prog w) A env λe s'=>R (.error e) s') s₃
      else ∃m,m<n/\I m s₃) (notedBy (model prog w) A env λe s'=>R (.error e) s') s₂) (notedBy (model prog w) A env λe s'=>R (.error e) s') s₁') (notedBy (model prog w) A env λe s'=>R (.error e) s') s₁)
    (notedBy (model prog w) A env λe s'=>R (.error e) s') s)
  (n:Nat) (h:I n s):codeAny (model prog w) A (.compLoop (.ListComp elt [⟨target,iter,ifs,0⟩] scope pos) 0 it acc env) R s:=by
 refine codeAny_loop rfl I (λn s hI=>?_) n h
 show wpAny _ A ((compTurn (.ListComp elt [⟨target,iter,ifs,0⟩] scope pos) 0 it acc env).onRaise (λx=>do noteFrame x env;theTreesLotGoes x)) _ _ s
 refine wpAny_noted ?_
 rw[compTurn_list]
 refine wpAny_bind (wpAny_standAt (wpAny_bind (wpAny_mono (turn n s hI) (λr s₁ h₁=>?_) λ_ _ h'=>h')))
 cases r with
|none=>exact wpAny_pure h₁
|some v =>
  refine wpAny_bind (wpAny_mono h₁ (λ_ s₁' h₁'=>?_) λ_ _ h'=>h')
  refine wpAny_bind (wpAny_mono h₁' (λ_ s₂ h₂=>wpAny_bind (wpAny_mono h₂ (λok s₃ h₃=>?_) λ_ _ h'=>h')) λ_ _ h'=>h')
  cases ok with
 |false=>exact wpAny_pure ⟨rfl,h₃⟩
 |true =>
   exact wpAny_bind (wpAny_bind (wpAny_mono h₃ (λx s₄ h₄=>wpAny_bind (wpAny_mono h₄ (λ_ s₅ h₅=>wpAny_pure (wpAny_pure ⟨rfl,h₅⟩)) λ_ _ h'=>h')) λ_ _ h'=>h'))
abbrev TF:=St->Hp->(Hp->Prop)->(Hp->Prop)->Prop
def PF(X:Cx)(ifs:List Expr)(t:TF):Prop :=
 ∀(pins:List (Addr×Obj)) (s:Shared) (σ:St) (H:Hp) (Y N:Hp->Prop),Inv X pins σ H s->t σ H Y N ->
  wpAny (model X.prog X.w) X.A (forIn ifs true λc r=>if r=true then do let ok ←isTrue c X.env (eval c X.env);pure (ForInStep.yield ok) else pure (ForInStep.yield r)) (λb s'=>∃H',Inv X pins σ H' s'/\if b=true then Y H' else N H') X.xe s
def fNil:TF:=λ_ H Y _=>Y H
def fOne(tc:TT):TF:=λσ H Y N=>tc σ H λb H1=>if b=true then Y H1 else N H1
theorem qzz{X:Cx}:PF X [] fNil:=λ_ _ _ H _ _ I h=>wpAny_tests_nil ⟨H,I,iteT h⟩
theorem qz0{X:Cx}{c:Expr}{tc:TT}(hc:PT X c tc):PF X [c] (fOne tc):=λpins s σ H _ _ I h =>
 wpAny_tests_one (thn (hc pins s σ H _ I h) λ_ _ ⟨H1,I1,q⟩=>⟨H1,I1,q⟩)
def q1a(wi:TI)(g:TG)(ti:TF)(te:TE)(k:Nat):TE:=λσ H Q=>wi σ H λJ H1=>∀p,H1 p=none->∃W:Nat->Nat->St->List V->Hp->Prop,(∃m,W 0 m (σ++List.replicate k none) [] (upd H1 p (.lst [])))/\∀i m τ xs H,W i m τ xs H ->
 (J.stop i H/\Q (.ref p) H)\/(J.go i H/\∀x H',J.yld i H x H'->g x τ H' λτ2 H2=>ti τ2 H2 (λH3=>te τ2 H3 λv H4=>H4 p=some (.lst xs)/\xs.length<sizeLine/\∃m',m'<m/\W (i+1) m' τ2 (xs++[v]) (upd H4 p (.lst (xs++[v]))))
  (λH3=>∃m',m'<m/\W (i+1) m' τ2 xs H3))
def PCp(X:Cx)(e:Expr)(t:TE):Prop:=∃elt tg iter ifs csc pos,e=.ListComp elt [⟨tg,iter,ifs,0⟩] csc pos /\
 ∀(ppos:Pos) (use:Option (Value->Sem Unit)) (R:Value->Shared->Prop) (pins:List (Addr×Obj)) (s:Shared) (σ:St) (H:Hp) (Q:VK),Inv X pins σ H s->t σ H Q ->
  (∀(D C:Addr) (s':Shared) (H':Hp),Inv X pins σ H' s'->FpOk X pins H' C->(∃m,s'.heap.Ns C m)->Q (.ref D) H'->compPost (model X.prog X.w) X.A X.xe use R (.ref D) C (.ok .next) s') ->
  wpAny (model X.prog X.w) X.A (comprehension (.ListComp elt [⟨tg,iter,ifs,0⟩] csc pos) csc X.env ppos (newList []) false (eval iter X.env) use) R X.xe s
section
variable {X:Cx}
theorem qzo{tg iter elt:Expr}{ifs:List Expr}{csc:Scope}{pos:Pos}{NB M:List Str}{wi:TI}{g:TG}{ti:TF}{te:TE}(hi:PI X tg iter wi)(hc:X.calm=true)(S:CompScope X.env.scope X.N NB M csc)
  (hg:∀cl C s₀ H₀ fp pn,PG (cxC X NB csc cl C s₀ H₀ fp pn) tg g) (hf:∀cl C s₀ H₀ fp pn,PF (cxC X NB csc cl C s₀ H₀ fp pn) ifs ti) (he:∀cl C s₀ H₀ fp pn,PE (cxC X NB csc cl C s₀ H₀ fp pn) elt te)
  (hs:∀x,foldedSetIterable iter X.env x=pure x:=by intro _;rfl):PCp X (.ListComp elt [⟨tg,iter,ifs,0⟩] csc pos) (q1a wi g ti te M.length):=by
 refine⟨elt,tg,iter,ifs,csc,pos,rfl,λppos use R pins s σ H Q I h fin=>?_⟩
 have hcell:∀y∈csc.names,y.2=.free->∃c,X.env.cells.lookup y.1=some c:=λy hy hfr=>I.ok.has y.1 (S.free y hy hfr)
 obtain⟨cl,hcl,c1,c2⟩:=qpo hcell
 refine wpAny_comprehension_free rfl hs hcl S.kind S.locs ?_
 refine thn (hi pins s σ H _ I h) λv s1 h1=>thn h1 λitv s2 h2=>?_
 obtain⟨it,fp,tn,J,H2,e,I2,T,st2,f2,h2⟩:=h2
 subst e
 have hlt2:∀b∈fp,b<s2.heap.objs.size:=λb hb=>let ⟨_,e,_⟩:=T.obj _ _ st2 b hb;Heap.lt_size e
 refine wpAny_newObj_type (wpAny_newFunctionEnv S.nocell (by intro y hy;simp at hy) (λh₁ hns₁ hsb₁=>?_) S.kind)
 dsimp only at hns₁ hsb₁ ⊢
 have I0:Inv X pins σ (upd H2 s2.heap.objs.size (.lst [])) { s2 with heap:=s2.heap.push { cls:=.type "list",dict:=none,data:=.seq ([]:List Value).toArray } }:=I2.lnew (its:=[]) (t':=s2.toks) .nil (Nat.zero_le _)
 generalize hs0:({ s2 with heap:=s2.heap.push { cls:=.type "list",dict:=none,data:=.seq ([]:List Value).toArray } }:Shared)=s₀ at I0
 have hh:s2.heap.push { cls:=.type "list",dict:=none,data:=.seq ([]:List Value).toArray }=s₀.heap:=by rw[←hs0]
 rw[hh] at hns₁ hsb₁ ⊢
 have hsz:s2.heap.objs.size<s₀.heap.objs.size:=by rw[←hh,Heap.size_push];exact Nat.lt_succ_self _
 have hDn:H2 s2.heap.objs.size=none:=I2.fresh
 have f0:∀b∈fp,FpOk X pins (upd H2 s2.heap.objs.size (.lst [])) b:=λb hb=>⟨by rw[qa4 (Nat.ne_of_lt (hlt2 b hb))];exact(f2 b hb).1,(f2 b hb).2⟩
 have hlt:∀b∈fp,b<s₀.heap.objs.size:=λb hb=>Nat.lt_trans (hlt2 b hb) hsz
 have hk:∀b o,s₀.heap.get? b=some o->h₁.get? b=some o:=λb o e=>hsb₁.extBut b o (Nat.ne_of_lt (Heap.lt_size e)) (Heap.get?_push_of_some _ e)
 have hk2:∀b o,s2.heap.get? b=some o->h₁.get? b=some o:=λb o e=>hk b o (by rw[←hh];exact Heap.get?_push_of_some _ e)
 have st1:tn 0 h₁:=T.keep _ _ _ st2 λb _ o e=>hk2 b o e
 obtain⟨W,⟨m0,w0⟩,turn⟩:=h2 s2.heap.objs.size hDn
 have loop:∀s₃:Shared,s₃={ s₀ with heap:=h₁,toks:=s2.toks+([]:List (Str×Value)).length } ->
   codeAny (model X.prog X.w) X.A (.compLoop (.ListComp elt [⟨tg,iter,ifs,0⟩] csc pos) 0 (.ref it) (.ref s2.heap.objs.size) (compEnvC csc cl s₀.heap.objs.size X.env))
    (compPost (model X.prog X.w) X.A X.xe use R (.ref s2.heap.objs.size) s₀.heap.objs.size) s₃:=by
  rintro s₃ rfl
  have B0:=qpq (cl:=cl) (tk:=s2.toks+([]:List (Str×Value)).length) S I0 f0 hlt c1 c2 hns₁ hk
  have fpB:∀ {H':Hp},(∀b∈fp,H' b=none)->∀b∈fp,FpOk (cxC X NB csc cl s₀.heap.objs.size s₀ (upd H2 s2.heap.objs.size (.lst [])) fp (X.pn++pins)) [] H' b:=λ{H'} hn b hb =>
   ⟨hn b hb,Nat.ne_of_lt (hlt b hb),B0.ok.exfs b hb,.inl hb,λx c e=>(f0 b hb).2.2.2.2.1 x c (c1 x c e),λp hp=>(f0 b hb).2.2.2.2.2 p (by
    have hp':p∈(X.pn++pins)++[]:=hp
    rw[List.append_nil] at hp'
    exact hp')⟩
  refine qe2 (λn s'=>∃i τ xs H',Inv (cxC X NB csc cl s₀.heap.objs.size s₀ (upd H2 s2.heap.objs.size (.lst [])) fp (X.pn++pins)) [] τ H' s'/\tn i s'.heap/\(∀b∈fp,H' b=none)/\W i n τ xs H') ?_ m0
   ⟨0,_,[],_,B0,st1,λb hb=>(f0 b hb).1,w0⟩
  rintro n s3 ⟨i,τ,xs,H3,I3,st3,fr3,w3⟩
  rcases turn i n τ xs H3 w3 with ⟨stop,q⟩|⟨go,step⟩
  ·refine thn (T.done (cxC X NB csc cl s₀.heap.objs.size s₀ (upd H2 s2.heap.objs.size (.lst [])) fp (X.pn++pins)) rfl rfl rfl hc i [] s3 τ H3 _ I3 (fpB fr3) st3 stop) λr s4 ⟨hr,I4⟩=>?_
   subst hr
   obtain⟨IX,fpC⟩:=quu I0 f0 I4
   exact fin _ _ s4 H3 IX fpC (let ⟨m,hn,_⟩:=I4.loc;⟨m,hn⟩) q
  ·refine thn (T.item (cxC X NB csc cl s₀.heap.objs.size s₀ (upd H2 s2.heap.objs.size (.lst [])) fp (X.pn++pins)) rfl rfl rfl hc i [] s3 τ H3 _ I3 (fpB fr3) st3 go) λr s4 ⟨u,hr,h4⟩=>?_
   subst hr
   refine thn h4 λ_ s5 ⟨x,H5,I5,r5,y5,st5,fr5⟩=>?_
   have I5':=I5.pinned (fpB fr5) (T.obj _ _ st5)
   refine wpAny_mono (hg _ _ _ _ _ _ _ s5 τ H5 x u _ I5' r5 (step x H5 y5)) (λ_ s6 ⟨τ6,H6,I6,q6⟩=>?_) λ_ _ z=>False.elim z
   refine wpAny_mono (hf _ _ _ _ _ _ _ s6 τ6 H6 _ _ I6 q6) (λb s7 ⟨H7,I7,q7⟩=>?_) λ_ _ z=>False.elim z
   have again:∀ {τ7:St} {H7:Hp} {s7:Shared} {ys:List V},Inv (cxC X NB csc cl s₀.heap.objs.size s₀ (upd H2 s2.heap.objs.size (.lst [])) fp (X.pn++pins)) ([]++qlj fp s5.heap) τ7 H7 s7->(∃m',m'<n/\W (i+1) m' τ7 ys H7) ->
     ∃m,m<n/\∃i τ xs H',Inv (cxC X NB csc cl s₀.heap.objs.size s₀ (upd H2 s2.heap.objs.size (.lst [])) fp (X.pn++pins)) [] τ H' s7/\tn i s7.heap/\(∀b∈fp,H' b=none)/\W i m τ xs H':=λ{τ7 H7 s7 ys} I7 w7=>by
    obtain⟨m',hm,w7⟩:=w7
    refine⟨m',hm,i+1,τ7,ys,H7,I7.unpinned,T.keep _ _ _ st5 λb hb o e=>(I7.pin (b,o) (List.mem_append_right _ (List.mem_append_right _ (qex hb e)))).1,λb hb=>?_,w7⟩
    obtain⟨o,e,d⟩:=T.obj _ _ st5 b hb
    exact(I7.pin (b,o) (List.mem_append_right _ (List.mem_append_right _ (qex hb e)))).2.1
   cases b with
  |false=>exact again I7 q7
  |true =>
    have q7':te τ6 H7 _:=q7
    refine wpAny_mono (he _ _ _ _ _ _ _ s7 τ6 H7 _ I7 q7') (λy s8 ⟨v8,H8,I8,r8,hl8,hz8,w8⟩=>?_) λ_ _ z=>False.elim z
    refine wpAny_mono (qhp (X:=(cxC X NB csc cl s₀.heap.objs.size s₀ (upd H2 s2.heap.objs.size (.lst [])) fp (X.pn++pins))) _ s8 τ6 H8 (.ref s2.heap.objs.size) [v8] (.ref s2.heap.objs.size) [y] (λ_ H9=>H9=upd H8 s2.heap.objs.size (.lst (xs++[v8]))) I8 rfl (.cons r8 .nil) ⟨_,xs,v8,rfl,rfl,hl8,hz8,rfl⟩) (λ_ s9 ⟨_,H9,I9,_,e9⟩=>?_) λ_ _ z=>False.elim z
    subst e9
    exact again I9 w8
 exact codeAny_compStart_list (loop _ (by rw[←hs0])) (T.self _ _ _ _ _ st1 (loop _ (by rw[←hs0])))
theorem PCp.pe{e:Expr}{t:TE}(h:PCp X e t):PE X e t:=by
 obtain⟨elt,tg,iter,ifs,csc,pos,rfl,h⟩:=h
 intro pins s σ H Q I hw
 rw[eval_ListComp]
 refine h _ none (EP X pins σ Q) pins s σ H Q I hw λD C s' H' IX fpC ⟨m,hn⟩ q=>⟨m,hn,λh' hs=>?_⟩
 exact⟨.ref D,H',IX.turned (t':=s'.toks) (λb o hb e=>(hs.2 b hb).trans e) fpC.1 fpC.2.1 fpC.2.2.2.1 fpC.2.2.2.2.1 fpC.2.2.2.2.2,rfl,q⟩
theorem qz5{i:Nat}{x:Str}{e:Expr}{te:TE}{pos' pos:Pos}(hN:X.N.Nodup)(hi:X.N[i]?=some x)(hx:Loc X.env.scope x)(he:PCp X e te)(hsw:swapsWith e (some (.Name x pos')) pos.line X.env=pure true:=by rfl)
  (hf:X.fn x=true\/X.env.scope.names.lookup x=some .local:=by first|exact .inl rfl|exact .inr rfl|assumption):PS X (.Assign [.Name x pos'] e pos) (tAsg te (qk0 i)):=by
 obtain⟨elt,tg,iter,ifs,csc,cpos,rfl,h⟩:=he
 intro pins s σ H D I hw
 rw[exec_Assign_Name_used _ _ _ _ hsw]
 refine wpAny_bind (wpAny_standAt (wpAny_bind ?_))
 show wpAny _ X.A (do let _ ←comprehension (.ListComp elt [⟨tg,iter,ifs,0⟩] csc cpos) csc X.env _ (newList []) false (eval iter X.env) (some (assign (.Name x pos') X.env))) _ _ s
 refine wpAny_bind (wpAny_mono (h _ (some (assign (.Name x pos') X.env)) (λ_ s'=>SP X pins D .next s') pins s σ H _ I hw ?_) (λ_ s' hq=>wpAny_pure (wpAny_pure hq)) λ_ _ e=>e)
 intro Dl C s' H' IX fpC ⟨m,hn⟩ q
 show wpAny _ X.A (assign (.Name x pos') X.env (.ref Dl)) _ _ s'
 refine wpAny_assign_Name (qls IX hN hi hx (v:=.ref Dl) rfl (λs2 I2 ⟨a,sb,ha⟩=>?_) hf)
 have hne:C≠a:=by
  rcases ha with e|e
  ·rw[e]
   exact fpC.2.1
  ·exact Ne.symm (fpC.2.2.2.2.1 x a e)
 refine⟨m,hn.sameBut sb hne,λh' hs=>?_⟩
 exact⟨_,H',I2.turned (t':=s2.toks) (λb o hb e=>(hs.2 b hb).trans e) fpC.1 fpC.2.1 fpC.2.2.2.1 fpC.2.2.2.2.1 fpC.2.2.2.2.2,q⟩
end
end L2
namespace L2
open PySem PySem.Spec PyProof.Rows
structure QE(X:Cx)(e:Expr)(t:TE):Prop where
 u:PE X e t
structure QT(X:Cx)(e:Expr)(t:TT):Prop where
 u:PT X e t
structure QW(X:Cx)(e:Expr)(t:TT):Prop where
 u:PW X e t
structure QA(X:Cx)(es:List Expr)(t:TA):Prop where
 u:PA X es t
structure QS(X:Cx)(st:Stmt)(t:TS):Prop where
 u:PS X st t
structure QSs(X:Cx)(st:List Stmt)(t:TS):Prop where
 u:PSs X st t
structure QI(X:Cx)(tg iter:Expr)(t:TI):Prop where
 u:PI X tg iter t
structure QG(X:Cx)(tg:Expr)(t:TG):Prop where
 u:PG X tg t
structure QGs(X:Cx)(ts:List Expr)(t:TGs):Prop where
 u:PGs X ts t
structure QO(X:Cx)(e:Option Expr)(t:TO):Prop where
 u:PO X e t
structure QF(X:Cx)(ifs:List Expr)(t:TF):Prop where
 u:PF X ifs t
structure QC(X:Cx)(e:Expr)(t:TE):Prop where
 u:PCp X e t
section
variable {X:Cx} {st:Stmt} {rest:List Stmt} {t u:TS} {a b c e o i:Expr} {ta tb tc te to ti:TE} {es:List Expr} {tA:TA} {tT tU:TT} {pos pos' p p2 apos cpos:Pos} {x name:Str} {n:Nat}
theorem q0q:QSs X [] q4a:=⟨qz6⟩
theorem qjv(h:QS X st t):QSs X [st] t:=⟨qz7 h.u⟩
theorem qju(h:QS X st t)(r:QSs X rest u):QSs X (st::rest) (tSeq t u):=⟨qv1 h.u r.u⟩
theorem qnc(h:QE X e te)(hs:swapsWith e none pos.line X.env=pure false:=by rfl):QS X (.Expr e pos) (q38 te):=⟨qz4 h.u hs⟩
theorem qlm(h:QE X e te):QS X (.Return (some e) pos) (tRet te):=⟨q3a h.u⟩
theorem q5j{a b:List Stmt}(hc:QT X c tT)(ha:QSs X a t)(hb:QSs X b u):QS X (.If c a b pos) (tIfS tT t u):=⟨q5c hc.u ha.u hb.u⟩
theorem qth{i:Nat}(hN:X.N.Nodup)(hi:X.N[i]?=some x)(hx:Loc X.env.scope x)(h:QE X e te)(hs:swapsWith e (some (.Name x pos')) pos.line X.env=pure false:=by rfl)
  (hf:X.fn x=true\/X.env.scope.names.lookup x=some .local:=by first|exact .inl rfl|exact .inr rfl|assumption):QS X (.Assign [.Name x pos'] e pos) (tAsg te (qk0 i)):=⟨q3b hN hi hx h.u hs hf⟩
theorem q0p{i:Nat}(hN:X.N.Nodup)(hi:X.N[i]?=some x)(hx:Loc X.env.scope x)(h:QC X e te)(hs:swapsWith e (some (.Name x pos')) pos.line X.env=pure true:=by rfl)
  (hf:X.fn x=true\/X.env.scope.names.lookup x=some .local:=by first|exact .inl rfl|exact .inr rfl|assumption):QS X (.Assign [.Name x pos'] e pos) (tAsg te (qk0 i)):=⟨qz5 hN hi hx h.u hs hf⟩
theorem qxt{tg iter:Expr}{body:List Stmt}{wi:TI}{g:TG}(hp:PassesOwn (model X.prog X.w) X.A X.env X.xe)(hc:X.calm=true)(hi:QI X tg iter wi)(hg:QG X tg g)(hb:QSs X body t)
  (hs:∀x,foldedSetIterable iter X.env x=pure x:=by intro _;rfl):QS X (.For tg iter body [] pos) (tFor wi g t):=⟨q28 hp hc hi.u hg.u hb.u hs⟩
theorem q3h{k:Int}{j:Nat}:QE X (.Constant (.int k) j pos) (tC (.int k)):=⟨q2z⟩
theorem q5e{k:Bool}{j:Nat}:QE X (.Constant (.bool k) j pos) (tC (.bl k)):=⟨q46⟩
theorem q3i{j:Nat}:QE X (.Constant .none j pos) (tC .non):=⟨q21⟩
theorem q3k{z:Str}{j:Nat}:QE X (.Constant (.str z) j pos) (tC (.str z)):=⟨q23⟩
theorem qv(i:Nat)(hN:X.N[i]?=some x:=by rfl)(hv:Vis X.env.scope x:=by first|exact Or.inl rfl|exact Or.inr (Or.inl rfl)|exact Or.inr (Or.inr rfl))(hd:(x==("__debug__" : Str))=false:=by decide)
  (hcd:(x==("__classdict__" : Str))=false:=by decide):QE X (.Name x pos) (tVar i):=⟨qxp hN hv hd hcd⟩
theorem q0e{v:V}{w:Value}(hg:Gl X x)(hm:X.mg x=none)(hv:bootBuiltins x=some w)(r:RelV v w)(hn:x≠"__name__" := by decide)(hd:(x==("__debug__" : Str))=false:=by decide):QE X (.Name x pos) (tC v):=⟨qzp hg hm hv r hn hd⟩
theorem q5g{op:Operator}{r:R2}(ho:OpR X (binaryOp op) r)(ha:QE X a ta)(hb:QE X b tb):QE X (.BinOp a op b pos) (tOp r ta tb):=⟨q49 ho ha.u hb.u⟩
theorem q5h{op:UnaryOp}{r:V->Hp->VK->Prop}(ho:UnR X (unaryOp op) r)(ha:QE X a ta):QE X (.UnaryOp op a pos) (tUn r ta):=⟨q5a ho ha.u⟩
theorem q0f{op:CmpOp}{r:R2}(ho:OpR X (compareOp op) r)(ha:QE X a ta)(hb:QE X b tb)(hm:behindInMarks op b=false):QE X (.Compare a [op] [b] pos) (tOp r ta tb):=⟨qzr ho ha.u hb.u hm⟩
theorem q3j{op:BoolOp}(h:QE X a ta):QE X (.BoolOp op [a] pos) ta:=⟨q22 h.u⟩
theorem q3g(ha:QE X a ta)(hb:QE X (.BoolOp .And (b::es) pos) tb):QE X (.BoolOp .And (a::b::es) pos) (q35 ta tb):=⟨q2w ha.u hb.u⟩
theorem qo1(hc:QT X c tT)(ha:QE X a ta)(hb:QE X b tb):QE X (.IfExp c a b pos) (tIf tT ta tb):=⟨qvv hc.u ha.u hb.u⟩
theorem q3l{k:Nat}(h:QA X es tA):QE X (.Tuple es k pos) (tTup tA):=⟨q24 h.u⟩
theorem qxs(h:QA X es tA):QE X (.List es pos) (tLst tA):=⟨q20 h.u⟩
theorem qv7{lo hi:Option Expr}{tl th:TO}{r:V->Option Int->Option Int->Hp->VK->Prop}(hr:SlR X r)(he:QE X e te)(hl:QO X lo tl)(hu:QO X hi th):QE X (.Subscript e (.Slice lo hi none p2) pos) (tSl r te tl th):=⟨qvx hr he.u hl.u hu.u⟩
theorem q5f{r:R2}(hr:IxR X r)(ha:QE X a ta)(hb:QE X b tb)(hs:ql7 b):QE X (.Subscript a b pos) (tOp r ta tb):=⟨q48 hr ha.u hb.u hs⟩
theorem q0m:QO X none qtw:=⟨qz1⟩
theorem q0n(h:QE X e te):QO X (some e) (q4b te):=⟨qz2 h.u⟩
theorem qej:QA X [] tNil:=⟨q2u⟩
theorem qac(ha:QE X e te)(hr:QA X es tA)(hs:qa3 e=true:=by rfl):QA X (e::es) (qwr te tA):=⟨pac ha.u hr.u hs⟩
theorem qo0{k:Nat}{ps:List Str}{sp:Sp}(C:Cal X.prog X.w X.K X.mg X.base k x ps sp)(hr:Room k X.A)(hg:Gl X x)(ha:QA X (e::es) tA)(hp:(e::es).all qa3=true:=by rfl)(hdb:(x==("__debug__" : Str))=false:=by decide) :
  QE X (.Call (.Name x p) (e::es) [] pos) (q09 sp [] E0 tA):=⟨q2x C hr hg ha.u hp hdb⟩
theorem qcb{id:String}{r:List V->Hp->VK->Prop}(hc:CallR X (.builtin id) r)(hg:Gl X x)(hm:X.mg x=none)(hv:bootBuiltins x=some (.builtin id))(ha:QA X (e::es) tA)(hp:(e::es).all qa3=true:=by rfl)(hn:x≠"__name__" := by decide)
  (hdb:(x==("__debug__" : Str))=false:=by decide):QE X (.Call (.Name x p) (e::es) [] pos) (tCB r tA):=⟨pcb hc hg hm hv ha.u hp hn hdb⟩
theorem qct{T:String}{r:List V->Hp->VK->Prop}(hc:CallR X (.type T) r)(hg:Gl X x)(hm:X.mg x=none)(hv:bootBuiltins x=some (.type T))(ha:QA X (e::es) tA)(hp:(e::es).all qa3=true:=by rfl)(hn:x≠"__name__" := by decide)
  (hdb:(x==("__debug__" : Str))=false:=by decide):QE X (.Call (.Name x p) (e::es) [] pos) (tCB r tA):=⟨pct hc hg hm hv ha.u hp hn hdb⟩
theorem qbm{T id:String}{r:V->List V->Hp->VK->Prop}(pa:PlainAttrs T)(slot:Slot T name id)(hty:typeOf (.builtin id)=pure (.type "method_descriptor"))(hm:MtR X id r)(ho:QE X o to)(ha:QA X (e::es) tA)(hp:(e::es).all qa3=true:=by rfl)
  (hfew:decide ((e::es).length<30)=true:=by rfl) (hbase:attributeBase o name X.env (eval o X.env)=eval o X.env:=by rfl) (hline:(apos.endLine==cpos.line)=true:=by rfl) :
  QE X (.Call (.Attribute o name apos) (e::es) [] cpos) (tBM X.K T r to tA):=⟨pbm pa slot hty hm ho.u ha.u hp hfew hbase hline⟩
theorem q0r{op:CmpOp}{r:R2}(ho:OpR X (compareOp op) r)(ha:QE X a ta)(hb:QE X b tb)(hm:behindInMarks op b=false):QT X (.Compare a [op] [b] pos) (q4d (tOp r ta tb)):=⟨qz8 ho ha.u hb.u hm⟩
theorem q3p(h:QT X a tT):QT X (.UnaryOp .Not a pos) (tNot tT):=⟨q3c h.u⟩
theorem q3q(h:QE X e te)(he:∀whole,isTrue e X.env whole=(do let v ←whole;standAt e.pos;holding [v] (truthy v)):=by intro _;rfl):QT X e (tB te):=⟨q3d h.u he⟩
theorem q0t(h:QT X a tT):QW X (.BoolOp .And [a] pos) tT:=⟨q0c h.u⟩
theorem q3s(h:QT X a tT):QW X (.BoolOp .Or [a] pos) tT:=⟨q3f h.u⟩
theorem q3r(ha:QT X a tT)(hb:QW X (.BoolOp .And (b::es) pos) tU):QW X (.BoolOp .And (a::b::es) pos) (tAnd tT tU):=⟨q3e ha.u hb.u⟩
theorem q5k(ha:QT X a tT)(hb:QW X (.BoolOp .Or (b::es) pos) tU):QW X (.BoolOp .Or (a::b::es) pos) (tOr tT tU):=⟨q5d ha.u hb.u⟩
theorem qw_t(h:QW X e tT):QT X e tT:=⟨h.u.pt⟩
theorem q5i{tg:Expr}(hg:Gl X "range")(hm:X.mg "range" = none)(ha:QA X [a] tA)(hp:qa3 a=true:=by rfl):QI X tg (.Call (.Name "range" p) [a] [] pos) (qy0 tA):=⟨q5b hg hm ha.u hp⟩
theorem qtg{i:Nat}(hN:X.N.Nodup)(hi:X.N[i]?=some x)(hx:Loc X.env.scope x)(hf:X.fn x=true\/X.env.scope.names.lookup x=some .local:=by first|exact .inl rfl|exact .inr rfl|assumption):QG X (.Name x pos) (qk0 i):=⟨qzv hN hi hx hf⟩
theorem q0j:QGs X [] gNil:=⟨qzw⟩
theorem qv8{g:TG}{gs:TGs}(h1:QG X e g)(h2:QGs X es gs)(hs:(assignEach (e::es) X.env).map (·.2)=assign e X.env::(assignEach es X.env).map (·.2):=by rfl):QGs X (e::es) (q16 g gs):=⟨qvz h1.u h2.u hs⟩
theorem q3m{k:Nat}{gs:TGs}{n:Nat}(hc:X.calm=true)(h:QGs X es gs)(hn:(assignEach es X.env).length=n:=by rfl)(hst:(assignEach es X.env).findIdx? (·.1)=none:=by rfl):QG X (.Tuple es k pos) (gTup X.K n gs):=⟨q25 hc h.u hn hst⟩
theorem q0k:QF X [] fNil:=⟨qzz⟩
theorem q0l(h:QT X c tT):QF X [c] (fOne tT):=⟨qz0 h.u⟩
theorem q0d{tg iter elt:Expr}{ifs:List Expr}{csc:Scope}{NB M:List Str}{wi:TI}{g:TG}{ti:TF}(hi:QI X tg iter wi)(hc:X.calm=true)(S:CompScope X.env.scope X.N NB M csc)
  (hg:∀cl C s₀ H₀ fp pn,QG (cxC X NB csc cl C s₀ H₀ fp pn) tg g) (hf:∀cl C s₀ H₀ fp pn,QF (cxC X NB csc cl C s₀ H₀ fp pn) ifs ti) (he:∀cl C s₀ H₀ fp pn,QE (cxC X NB csc cl C s₀ H₀ fp pn) elt te)
  (hs:∀x,foldedSetIterable iter X.env x=pure x:=by intro _;rfl):QC X (.ListComp elt [⟨tg,iter,ifs,0⟩] csc pos) (q1a wi g ti te M.length) :=
 ⟨qzo hi.u hc S (λcl C s₀ H₀ fp pn=>(hg cl C s₀ H₀ fp pn).u) (λcl C s₀ H₀ fp pn=>(hf cl C s₀ H₀ fp pn).u) (λcl C s₀ H₀ fp pn=>(he cl C s₀ H₀ fp pn).u) hs⟩
theorem qc_e(h:QC X e te):QE X e te:=⟨h.u.pe⟩
end
theorem Fun.okQ{P:Program}{w:World}{K:PySem.W.Frag}{mg:Str->Option Value}{base:Heap}{x qual:Str}{st:Stmt}{f:Addr}{fd:FuncData}{N ps:List Str}{k:Nat}{sp:Sp}(F:Fun K x qual st f fd)(S:FnScope N ps (qaj st))(len:∀vs H Q E,sp vs H Q E->vs.length=ps.length)
  (hbody:∀(cdv:Value) (A:Around) (outer:List Env) (s:Shared) (H:Hp) (vs:List V) (Q:VK) (E:XK),Room k (A.deeper (envOfC qual (qaj st) s.heap.objs.size f cdv))->sp vs H Q E ->
   ∃t,QSs (cxOf CX0 P w K mg base N qual (qaj st) f cdv A outer s H E).nox (qb5 st) t/\t { nx:=λ_ H'=>Q .non H',rt:=Q } (start N vs) H):FnOk P w K mg base CX0 (k+1) f fd ps sp :=
 F.ok S len λcdv A outer s H vs Q E hr hsp=>let ⟨t,h,q⟩:=hbody cdv A outer s H vs Q E hr hsp;⟨t,h.u,q⟩
end L2
namespace L2
open PySem PySem.Spec PyProof.Rows
def FlT(h:Heap)(a:Addr)(C:Value)(T:Addr)(fl:Value):Prop :=
 ∃oa vs oT ts,h.get? a=some oa/\(oa.cls=C/\oa.dict=none)/\oa.data=.fields vs/\vs[1]?=some (.ref T)/\T≠a/\h.get? T=some oT/\oT.data=.fields ts/\ts[3]?=some fl
structure Nk(fs ch:List Addr)(h g:Heap):Prop where
 keep:∀b o,b∉fs->b∉ch->h.get? b=some o->g.get? b=some o
 slot:∀b o,b∈fs->b∉ch->h.get? b=some o->∃sl,g.get? b=some { o with slots:=sl }
 there:∀b o,h.get? b=some o->∃u,g.get? b=some u
section
variable {M:Model} {A:Around} {E:Value->Shared->Prop} {s:Shared} {base:Heap} {env:Env} {outer:List Env} {L a T:Addr} {C:Value}
end
section
variable {X:Cx} {pins:List (Addr×Obj)} {σ:St} {H:Hp} {s:Shared} {a:Addr} {ts:List Addr} {C:Addr}
def FpN(X:Cx)(pins:List (Addr×Obj))(H:Hp)(b:Addr):Prop :=
 H b=none/\b≠X.env.locals/\b∉X.fs/\X.s₀.heap.get? b=none/\(∀x c,X.env.cells.lookup x=some c->c≠b)/\∀p∈X.pn++pins,p.1≠b
end
def CXR(P:Program)(w:World):CXT:=λouter H s E e s'=>∃a C H' T,e=.ref a/\s'.os=s.os/\AllBare s'.gens/\Un (frs outer) [] H H' s.heap s'.heap/\HOk P w H' s'.heap/\FlT s'.heap a (.ref C) T .none /\
 s.heap.get? a=none/\s.heap.get? T=none/\H' a=none/\H' T=none/\E (.ref C) none H'
section
variable {P:Program} {w:World} {K:PySem.W.Frag} {mg:Str->Option Value} {base:Heap}
end
inductive CalX(P:Program)(w:World)(K:PySem.W.Frag)(mg:Str->Option Value)(base:Heap)(k:Nat)(x:Str)(ps:List Str)(sp:Sp):Prop where
|mk {f:Addr} {fd:FuncData} (F:FnOk P w K mg base (CXR P w) k f fd ps sp) (hm:mg x=some (.ref f)) (hk:PySem.W.keepIn K (.ref f)=true) (hb:Binds K fd ps [])
section
variable {X:Cx} {k:Nat} {ps:List Str} {sp:Sp} {x:Str} {p pos:Pos} {e:Expr} {es:List Expr} {t:TA} {EX:St->XK}
end
section
variable {X:Cx} {pins:List (Addr×Obj)} {σ:St} {H:Hp} {s:Shared}
end
section
variable {X:Cx} {pins pins':List (Addr×Obj)} {σ:St} {H:Hp} {s:Shared} {E:Value->Shared->Prop} {e:Value}
end
abbrev TH:=Value->TS
def PH(X:Cx)(hs:List ExceptHandler)(th:TH):Prop :=
 ∀(pins:List (Addr×Obj)) (s:Shared) (σ:St) (H:Hp) (D:Ends) (a C U:Addr),Inv X pins σ H s->FlT s.heap a (.ref C) U .none->FpN X pins H a->FpN X pins H U->th (.ref C) D σ H ->
  wpAny (model X.prog X.w) X.A (handleBy (.ref a) X.env hs) (SP X pins D) X.xe s
structure QH(X:Cx)(hs:List ExceptHandler)(th:TH):Prop where
 u:PH X hs th
section
variable {X:Cx} {x:Str} {c:Value} {t:TS} {th:TH} {np pos:Pos} {b0:Stmt} {suite body:List Stmt} {rest:List ExceptHandler}
end
def excO(a C:Addr):HO:=.ext λh=>∃o,h.get? a=some o/\(o.cls=.ref C/\o.dict=none)/\PySem.W.notCls o=true
section
variable {X:Cx} {pins:List (Addr×Obj)} {σ:St} {H:Hp} {s:Shared} {a C:Addr}
end
section
variable {X:Cx} {x n:Str} {i:Nat} {c:Value} {t:TS} {th:TH} {np pos:Pos} {b0:Stmt} {suite body:List Stmt} {rest:List ExceptHandler}
end
open PySem.W
structure ExcK(K:Frag)(C:Addr):Prop where
 ga:findIn K (.ref C) "__getattribute__" = some (some (.builtin "BaseException.__getattribute__"))
 gn:findIn K (.ref C) "__getattr__" = some none
 gc:findIn K (.ref C) "__class__" = some (some (.builtin "object.__class__"))
 mo:mroIn K C (.type "object")=some true
 mb:mroIn K C (.type "BaseException")=some true
 hd:hasDictIn K C=true
section
variable {prog:Program} {w:World} {A:Around} {E:Value->Shared->Prop} {h:Heap} {g:Array GenState} {d:Drawn} {t:Nat} {os:OsState} {K:Frag} {a C:Addr} {o:Obj}
end
section
variable {X:Cx}
end
structure RoomH(k:Nat)(A:Around):Prop where
 dp:A.depth+3*k+5<recursionLimit
 un:A.units+16*k+200<cLine
structure FnOkH(P:Program)(w:World)(K:Frag)(mg:Str->Option Value)(base:Heap)(CX:CXT)(k:Nat)(f:Addr)(fd:FuncData)(ps:List Str)(sp:Sp):Prop where
 len:∀vs H Q E,sp vs H Q E->vs.length=ps.length
 run:∀(A:Around) (outer:List Env) (s:Shared) (H:Hp) (args:Args) (us:List Value) (vs:List V) (Q:VK) (E:XK),RoomH k A->Env0 P w K mg base A outer s H->BindsTo s fd args (ps.zip us)->Vals vs us->sp vs H Q E ->
  codeAny (model P w) A (.call (.ref f) args) (CR CX outer P w H s Q E) s
section
variable {P:Program} {w:World} {K:Frag} {mg:Str->Option Value} {base:Heap} {CX:CXT} {k:Nat} {f:Addr}
end
inductive CalH(P:Program)(w:World)(K:Frag)(mg:Str->Option Value)(base:Heap)(k:Nat)(x:Str)(ps:List Str)(sp:Sp):Prop where
|mk {f:Addr} {fd:FuncData} (F:FnOkH P w K mg base CX0 k f fd ps sp) (hm:mg x=some (.ref f)) (hk:keepIn K (.ref f)=true) (hb:Binds K fd ps [])
section
variable {X:Cx} {k:Nat} {ps:List Str} {sp:Sp} {x:Str} {p pos:Pos} {e:Expr} {es:List Expr} {t:TA}
end
end L2
namespace L2
open PySem PySem.Spec PyProof.Rows
section
variable {X:Cx} {o i e f value a b:Expr} {pos pos' tpos apos cpos:Pos} {td ty tv tx:TE}
theorem q0g(hu:X.A.units+1<cLine)(ho:QE X o td)(hi:QE X i ty)(hs:NoSl i:=by exact λ_ _=>rfl):QE X (.Subscript o i pos) (q36 td ty):=⟨qzs hu ho.u hi.u hs⟩
theorem qtf(hu:X.A.units+1<cLine)(hi:QE X i ty)(ho:QE X o td)(hm:behindInMarks .NotIn o=false:=by with_unfolding_all rfl):QE X (.Compare i [.NotIn] [o] pos) (qnp ty td):=⟨q2y (qli hu hi.u ho.u) hm⟩
theorem q3o(hu:X.A.units+1<cLine)(hi:QE X i ty)(ho:QE X o td)(hm:behindInMarks .In o=false:=by with_unfolding_all rfl):QT X (.Compare i [.In] [o] pos) (tB (tDIn ty td)):=⟨qxr (q2v hu hi.u ho.u) hm⟩
theorem qti(hu:X.A.units+1<cLine)(hi:QE X i ty)(ho:QE X o td)(hm:behindInMarks .NotIn o=false:=by with_unfolding_all rfl):QT X (.Compare i [.NotIn] [o] pos) (tB (qnp ty td)):=⟨qxr (qli hu hi.u ho.u) hm⟩
theorem q0o(hu:X.A.units+1<cLine)(ho:QE X o td)(hi:QE X i ty)(hv:QE X value tv)(hs:swapsWith value (some (.Subscript o i pos')) pos.line X.env=pure false:=by rfl) :
  QS X (.Assign [.Subscript o i pos'] value pos) (q33 td ty tv):=⟨qz3 hu ho.u hi.u hv.u hs⟩
theorem qv6:QE X (.Dict [] [] pos) qx5:=⟨qvu⟩
theorem qv5:QE X (.Dict [] [] pos) qx4:=⟨qvt⟩
theorem qv3(hu:X.A.units+1<cLine)(ho:QE X o td)(he:QE X e ty)(m:M1 X o "get" apos e cpos):QE X (.Call (.Attribute o "get" apos) [e] [] cpos) (qx2 td ty):=⟨qvr hu ho.u he.u m⟩
theorem qv4(hu:X.A.units+1<cLine)(ho:QE X o td)(he:QE X e ty)(hf:QE X f tx)(m:M2 X o "get" apos e f cpos):QE X (.Call (.Attribute o "get" apos) [e,f] [] cpos) (qx3 td ty tx):=⟨qvs hu ho.u he.u hf.u m⟩
end
end L2
namespace L2
open PySem PySem.Spec PyProof.Rows
inductive D where
|non
|bl (b:Bool)
|int (i:Int)
|str (x:Str)
|tup (xs:List D)
|lst (xs:List D)
|dT (ks:List (List Str)) (ds:List D)
|dK (ks:List Str) (ds:List D)
|scr (ns:List Int)
|kt (ss:List Str)
|exc (n:Str)
|io (c:Addr) (ds:List D)
|ioT (c:Addr) (ks:List (List Str)) (ds:List D)
def clsOf(K:PySem.W.Frag)(n:Str)(C:Addr):Prop:=PySem.W.nsIn K mainGlobals n=some (some (.ref C))
def wK(ws:List Str):List Key:=ws.map Sum.inr
def TupAt(K:PySem.W.Frag)(H:Hp)(a:Addr)(ds:List D)(xs:List V):Prop:=H a=some (.tup xs)\/(SqT K (λ_=>none) a xs/\ds=[.str "folder",.str ""])
mutual
def Rep(K:PySem.W.Frag)(H:Hp):D->V->Prop
|.non,v=>v=.non
|.bl b,v=>v=.bl b
|.int i,v=>v=.int i
|.str x,v=>v=.str x
|.tup ds,v=>∃a xs,v=.ref a/\TupAt K H a ds xs/\Reps K H ds xs
|.lst ds,v=>∃a xs,v=.ref a/\H a=some (.lst xs)/\Reps K H ds xs
|.dT ks ds,v=>∃a kvs,v=.ref a/\Rd H a (.dT kvs)/\kvs.map (·.1)=ks.map wK/\Reps K H ds (kvs.map (·.2))
|.dK ks ds,v=>∃a kvs,v=.ref a/\H a=some (.dK kvs)/\kvs.map (·.1)=ks.map Sum.inr/\Reps K H ds (kvs.map (·.2))
|.scr ns,v=>∃a,v=.ref a/\SqL K H a (ns.map V.int)
|.kt ss,v=>∃a,v=.ref a/\SqT K (λ_=>none) a (ss.map V.str)
|.exc n,v=>∃a C,v=.ref a/\H a=some (excO a C)/\clsOf K n C
|.io c ds,v=>∃xs,v=.ref c/\H c=some (.lst xs)/\Reps K H ds xs
|.ioT c ks ds,v=>∃kvs,v=.ref c/\H c=some (.dT kvs)/\kvs.map (·.1)=ks.map wK/\Reps K H ds (kvs.map (·.2))
def Reps(K:PySem.W.Frag)(H:Hp):List D->List V->Prop
|[],xs=>xs=[]
|d::ds,xs=>∃x r,xs=x::r/\Rep K H d x/\Reps K H ds r
end
noncomputable def eqD(d e:D):Bool:=@decide (d=e) (Classical.propDecidable _)
noncomputable def eqDs(d e:List D):Bool:=@decide (d=e) (Classical.propDecidable _)
theorem eqD_iff{d e:D}:eqD d e=true↔d=e:=@decide_eq_true_iff _ (Classical.propDecidable _)
theorem eqDs_iff{d e:List D}:eqDs d e=true↔d=e:=@decide_eq_true_iff _ (Classical.propDecidable _)
theorem qrq{d e:D}(h:eqD d e=true):d=e:=eqD_iff.mp h
theorem qyv{d e:List D}(h:eqDs d e=true):d=e:=eqDs_iff.mp h
theorem qcl(d:D):eqD d d=true:=eqD_iff.mpr rfl
theorem qrt(d:List D):eqDs d d=true:=eqDs_iff.mpr rfl
theorem qcj{a b:Bool}(h:a=true↔b=true):a=b:=by cases a<;>cases b<;>simp_all
theorem qrs(ds es:List D):eqD (.tup ds) (.tup es)=eqDs ds es:=qcj (by rw[eqD_iff,eqDs_iff];exact⟨λh=>D.tup.inj h,λh=>h▸rfl⟩)
theorem qrr(ds es:List D):eqD (.lst ds) (.lst es)=eqDs ds es:=qcj (by rw[eqD_iff,eqDs_iff];exact⟨λh=>D.lst.inj h,λh=>h▸rfl⟩)
def dV:D->Option V
|.non=>some .non
|.bl b=>some (.bl b)
|.int i=>some (.int i)
|.str x=>some (.str x)
|_=>none
theorem q1y{d e:D}{v:V}(h:dV d=some v)(h':dV e=some v):d=e:=by
 cases d<;>cases e<;>simp_all [dV]<;>(subst h;simp_all)
theorem qjd{d e:D}{v z:V}(h:dV d=some v)(h':dV e=some z):eqD d e=decide (v=z):=qcj (by
 rw[eqD_iff,decide_eq_true_iff]
 exact⟨λq=>by subst q;exact Option.some.inj (h.symm.trans h'),λq=>by subst q;exact q1y h h'⟩)
mutual
def cmpD:D->D->Bool
|.tup a,.tup b=>qcp a b
|.lst a,.lst b=>qcp a b
|.non,.non=>true|.non,.int _=>true|.int _,.non=>true|.non,.bl _=>true|.bl _,.non=>true|.non,.str _=>true|.str _,.non=>true
|.int _,.int _=>true|.bl _,.bl _=>true|.str _,.str _=>true|.int _,.str _=>true|.str _,.int _=>true|.bl _,.str _=>true|.str _,.bl _=>true
|_,_=>false
def qcp:List D->List D->Bool
|x::xs,y::ys=>cmpD x y&&qcp xs ys
|_,_=>true
end
mutual
def depD:D->Nat
|.tup a=>qcd a+1
|.lst a=>qcd a+1
|_=>0
def qcd:List D->Nat
|[]=>0
|x::xs=>max (depD x) (qcd xs)
end
theorem Same.emp(H:Hp):Same (λ_=>none) H:=λ_ _ h=>by cases h
theorem Same.sqT{K:PySem.W.Frag}{H H':Hp}(sm:Same H H'){a:Addr}{xs:List V}(h:SqT K H a xs):SqT K H' a xs:=by
 rcases h with (h|⟨o,h⟩)|h
 ·exact .inl (.inl (sm _ _ h))
 ·exact .inl (.inr ⟨o,sm _ _ h⟩)
 ·exact .inr h
theorem TupAt.sq{K:PySem.W.Frag}{H:Hp}{a:Addr}{ds:List D}{xs:List V}(h:TupAt K H a ds xs):SqT K H a xs:=h.elim SqT.of λq=>(Same.emp H).sqT q.1
theorem TupAt.same{K:PySem.W.Frag}{H H':Hp}{a:Addr}{ds:List D}{xs:List V}(h:TupAt K H a ds xs)(sm:Same H H'):TupAt K H' a ds xs:=h.elim (λq=>.inl (sm _ _ q)) .inr
section
variable {X:Cx} {pins:List (Addr×Obj)} {σ:St} {H:Hp} {s:Shared}
mutual
theorem Rep.inj(I:Inv X pins σ H s):∀ {d e:D} {v:V},Rep X.K H d v->Rep X.K H e v->cmpD d e=true->d=e
|.non,e,v,h,h',hc=>by
  unfold Rep at h
  subst h
  cases e<;>unfold Rep at h'<;>first|rfl|(obtain⟨_,_,z,_⟩:=h';cases z;done)|(obtain⟨_,z,_⟩:=h';cases z;done)|(cases h';done)
|.bl i,e,v,h,h',hc=>by
  unfold Rep at h
  subst h
  cases e<;>unfold Rep at h'<;>first|rfl|(obtain⟨_,_,z,_⟩:=h';cases z;done)|(obtain⟨_,z,_⟩:=h';cases z;done)|(cases h';rfl)|(cases h';done)
|.int i,e,v,h,h',hc=>by
  unfold Rep at h
  subst h
  cases e<;>unfold Rep at h'<;>first|rfl|(obtain⟨_,_,z,_⟩:=h';cases z;done)|(obtain⟨_,z,_⟩:=h';cases z;done)|(cases h';rfl)|(cases h';done)
|.str i,e,v,h,h',hc=>by
  unfold Rep at h
  subst h
  cases e<;>unfold Rep at h'<;>first|rfl|(obtain⟨_,_,z,_⟩:=h';cases z;done)|(obtain⟨_,z,_⟩:=h';cases z;done)|(cases h';rfl)|(cases h';done)
|.tup ds,e,v,h,h',hc=>by
  cases e with
 |tup es =>
   unfold Rep at h h'
   obtain⟨a,xs,rfl,ha,hr⟩:=h
   obtain⟨b,ys,z,hb,hs⟩:=h'
   cases z
   cases I.tuple_inj ha.sq hb.sq
   unfold cmpD at hc
   rw[Reps.inj I hr hs hc]
 |_=>unfold cmpD at hc;cases hc
|.lst ds,e,v,h,h',hc=>by
  cases e with
 |lst es =>
   unfold Rep at h h'
   obtain⟨a,xs,rfl,ha,hr⟩:=h
   obtain⟨b,ys,z,hb,hs⟩:=h'
   cases z
   rw[ha] at hb
   cases hb
   unfold cmpD at hc
   rw[Reps.inj I hr hs hc]
 |_=>unfold cmpD at hc;cases hc
|.dT _ _,e,_,_,_,h=>by cases e<;>(unfold cmpD at h;cases h)
|.dK _ _,e,_,_,_,h=>by cases e<;>(unfold cmpD at h;cases h)
|.scr _,e,_,_,_,h=>by cases e<;>(unfold cmpD at h;cases h)
|.kt _,e,_,_,_,h=>by cases e<;>(unfold cmpD at h;cases h)
|.exc _,e,_,_,_,h=>by cases e<;>(unfold cmpD at h;cases h)
|.io _ _,e,_,_,_,h=>by cases e<;>(unfold cmpD at h;cases h)
|.ioT _ _ _,e,_,_,_,h=>by cases e<;>(unfold cmpD at h;cases h)
theorem Reps.inj(I:Inv X pins σ H s):∀ {ds es:List D} {xs:List V},Reps X.K H ds xs->Reps X.K H es xs->qcp ds es=true->ds=es
|[],es,xs,h,h',_=>by
  unfold Reps at h
  subst h
  cases es with
 |nil=>rfl
 |cons e es=>unfold Reps at h';obtain⟨_,_,z,_⟩:=h';cases z
|d::ds,es,xs,h,h',hc=>by
  unfold Reps at h
  obtain⟨x,r,rfl,h1,h2⟩:=h
  cases es with
 |nil=>unfold Reps at h';cases h'
 |cons e es =>
   unfold Reps at h'
   obtain⟨x',r',z,h3,h4⟩:=h'
   cases z
   unfold qcp at hc
   rw[Bool.and_eq_true] at hc
   rw[Rep.inj I h1 h3 hc.1,Reps.inj I h2 h4 hc.2]
end
end
mutual
theorem Rep.same{K:PySem.W.Frag}{H H':Hp}(sm:Same H H'):∀ {d:D} {v:V},Rep K H d v->Rep K H' d v
|.non,_,h=>h
|.bl _,_,h=>h
|.int _,_,h=>h
|.str _,_,h=>h
|.tup _,_,h=>by
  unfold Rep at h ⊢
  obtain⟨a,xs,e,ha,r⟩:=h
  exact⟨a,xs,e,ha.same sm,Reps.same sm r⟩
|.lst _,_,h=>by
  unfold Rep at h ⊢
  obtain⟨a,xs,e,ha,r⟩:=h
  exact⟨a,xs,e,sm _ _ ha,Reps.same sm r⟩
|.dT _ _,_,h=>by
  unfold Rep at h ⊢
  obtain⟨a,xs,e,ha,k,r⟩:=h
  exact⟨a,xs,e,ha.elim (λq=>.inl (sm _ _ q)) λ⟨o,q⟩=>.inr ⟨o,sm _ _ q⟩,k,Reps.same sm r⟩
|.dK _ _,_,h=>by
  unfold Rep at h ⊢
  obtain⟨a,xs,e,ha,k,r⟩:=h
  exact⟨a,xs,e,sm _ _ ha,k,Reps.same sm r⟩
|.scr _,_,h=>by
  unfold Rep at h ⊢
  obtain⟨a,e,ha⟩:=h
  exact⟨a,e,sm.seq ha⟩
|.kt _,_,h=>h
|.exc _,_,h=>by
  unfold Rep at h ⊢
  obtain⟨a,C,e,ha,hc⟩:=h
  exact⟨a,C,e,sm _ _ ha,hc⟩
|.io _ _,_,h=>by
  unfold Rep at h ⊢
  obtain⟨xs,e,ha,r⟩:=h
  exact⟨xs,e,sm _ _ ha,Reps.same sm r⟩
|.ioT _ _ _,_,h=>by
  unfold Rep at h ⊢
  obtain⟨kvs,e,ha,k,r⟩:=h
  exact⟨kvs,e,sm _ _ ha,k,Reps.same sm r⟩
theorem Reps.same{K:PySem.W.Frag}{H H':Hp}(sm:Same H H'):∀ {ds:List D} {xs:List V},Reps K H ds xs->Reps K H' ds xs
|[],_,h=>h
|_::_,_,h=>by
  unfold Reps at h ⊢
  obtain⟨x,r,e,h1,h2⟩:=h
  exact⟨x,r,e,Rep.same sm h1,Reps.same sm h2⟩
end
theorem Reps.length{K:PySem.W.Frag}{H:Hp}:∀ {ds:List D} {xs:List V},Reps K H ds xs->ds.length=xs.length
|[],xs,h=>by unfold Reps at h;rw[h];rfl
|d::ds,xs,h=>by
  unfold Reps at h
  obtain⟨x,r,rfl,h1,h2⟩:=h
  rw[List.length_cons,List.length_cons,Reps.length h2]
theorem Reps.at{K:PySem.W.Frag}{H:Hp}:∀ {ds:List D} {xs:List V} {j:Nat} {d:D},Reps K H ds xs->ds[j]?=some d->∃x,xs[j]?=some x/\Rep K H d x
|[],xs,j,d,h,e=>by simp at e
|d0::ds,xs,0,d,h,e=>by
  unfold Reps at h
  obtain⟨x,r,rfl,h1,h2⟩:=h
  have e':d0=d:=by simpa using e
  subst e'
  exact⟨x,rfl,h1⟩
|d0::ds,xs,j+1,d,h,e=>by
  unfold Reps at h
  obtain⟨x,r,rfl,h1,h2⟩:=h
  obtain⟨y,h3,h4⟩:=Reps.at (j:=j) (d:=d) h2 (by simpa using e)
  exact⟨y,by simpa using h3,h4⟩
theorem qeu:∀(ds es:List D),((List.range (min ds.length es.length)).all (λj=>eqD (ds.getD j .non) (es.getD j .non))&&ds.length==es.length)=eqDs ds es:=by
 intro ds es
 cases h:eqDs ds es with
|true =>
  have e:=qyv h
  subst e
  rw[Bool.and_eq_true]
  refine⟨?_,by simp⟩
  rw[List.all_eq_true]
  intro j _
  exact qcl _
|false =>
  apply Classical.byContradiction
  intro hn
  have ht:=eq_true_of_ne_false hn
  rw[Bool.and_eq_true,List.all_eq_true] at ht
  obtain⟨h1,h2⟩:=ht
  have hl:ds.length=es.length:=by simpa using h2
  have e:ds=es:=by
   apply List.ext_getElem hl
   intro i hi1 hi2
   have:=qrq (h1 i (by rw[List.mem_range];lia))
   simpa [List.getD_eq_getElem?_getD,hi1,hi2] using this
  rw[e,qrt] at h
  cases h
theorem qn5:∀ {ds es:List D} {j:Nat} {d e:D},qcp ds es=true->ds[j]?=some d->es[j]?=some e->cmpD d e=true
|[],_,j,d,e,_,h,_=>by simp at h
|_::_,[],j,d,e,_,_,h=>by simp at h
|d0::ds,e0::es,0,d,e,h,h1,h2=>by
  unfold qcp at h
  rw[Bool.and_eq_true] at h
  have q1:d0=d:=by simpa using h1
  have q2:e0=e:=by simpa using h2
  subst q1 q2
  exact h.1
|d0::ds,e0::es,j+1,d,e,h,h1,h2=>by
  unfold qcp at h
  rw[Bool.and_eq_true] at h
  exact qn5 (j:=j) h.2 (by simpa using h1) (by simpa using h2)
theorem qoa:∀ {ds:List D} {j:Nat} {d:D},ds[j]?=some d->depD d<=qcd ds
|[],j,d,h=>by simp at h
|d0::ds,0,d,h=>by
  have q:d0=d:=by simpa using h
  subst q
  unfold qcd
  exact Nat.le_max_left _ _
|d0::ds,j+1,d,h=>by
  have:=qoa (j:=j) (d:=d) (ds:=ds) (by simpa using h)
  unfold qcd
  exact Nat.le_trans this (Nat.le_max_right _ _)
section
variable {X:Cx} {pins:List (Addr×Obj)} {σ:St} {H:Hp} {s:Shared}
theorem qey{d:D}{v:V}(h:Rep X.K H d v){z:V}(e:dV d=some z):v=z:=by
 cases d<;>first|(unfold Rep at h;subst h;exact Option.some.inj e)|(cases e;done)
theorem qnl{d e:D}(h:cmpD d e=true)(h0:∀ds,d≠.tup ds)(h1:∀ds,d≠.lst ds):∃v z,dV d=some v/\dV e=some z/\scal v z=true:=by
 cases d<;>cases e<;>first|exact⟨_,_,rfl,rfl,rfl⟩|exact absurd rfl (h0 _)|exact absurd rfl (h1 _)|(unfold cmpD at h;cases h;done)
theorem qmj{d:D}{v:V}(h:dV d=some v):qgp v=true:=by
 cases d<;>first|(cases h;rfl)|(cases h;done)
theorem qu3{v z:V}(h:scal v z=true)(hv:qgp v=true):eqV v z=decide (v=z):=by
 cases v<;>cases z<;>first|(cases h;done)|(cases hv;done)|rfl|(simp[eqV];done)|(unfold eqV;exact qcj (by simp))
theorem qhe{A':Around}{ds es:List D}{xs ys:List V}{its its2:List Value}(r1:Reps X.K H ds xs)(r2:Reps X.K H es ys)(v1:Vals xs its)(v2:Vals ys its2)(hc:qcp ds es=true)
  (ih:∀d∈ds,∀(e:D) (v z:V) (u w:Value),Rep X.K H d v->Rep X.K H e z->RelV v u->RelV z w->cmpD d e=true->SeqAt.EqAt A' s u w (eqD d e)) :
  ∀j (h1:j<its.toArray.size) (h2:j<its2.toArray.size),SeqAt.EqAt A' s its.toArray[j] its2.toArray[j] (eqD (ds.getD j .non) (es.getD j .non)):=λj h1 h2=>by
 have l1:j<ds.length:=by rw[r1.length,v1.length];simpa using h1
 have l2:j<es.length:=by rw[r2.length,v2.length];simpa using h2
 have q1:ds[j]?=some ds[j]:=List.getElem?_eq_getElem l1
 have q2:es[j]?=some es[j]:=List.getElem?_eq_getElem l2
 obtain⟨x,hx,rx⟩:=r1.at q1
 obtain⟨y,hy,ry⟩:=r2.at q2
 obtain⟨ux,hux,rux⟩:=v1.get hx
 obtain⟨uy,huy,ruy⟩:=v2.get hy
 have e1:its.toArray[j]=ux:=by
  have:its[j]?=some its.toArray[j]:=by simp
  rw[hux] at this
  exact(Option.some.inj this).symm
 have e2:its2.toArray[j]=uy:=by
  have:its2[j]?=some its2.toArray[j]:=by simp
  rw[huy] at this
  exact(Option.some.inj this).symm
 have e3:ds.getD j .non=ds[j]:=by simp[List.getD_eq_getElem?_getD,l1]
 have e4:es.getD j .non=es[j]:=by simp[List.getD_eq_getElem?_getD,l2]
 rw[e1,e2,e3,e4]
 exact ih ds[j] (List.getElem_mem l1) es[j] x y ux uy rx ry rux ruy (qn5 hc q1 q2)
theorem qxv{A:Around}(I:Inv X pins σ H s){a b:Addr}{ds es:List D}{xs ys:List V}(ha:SqT X.K H a xs)(hb:SqT X.K H b ys)(r1:Reps X.K H ds xs)(r2:Reps X.K H es ys)(hc:qcp ds es=true)(hu:A.units<cLine)
  (ih:∀d∈ds,∀(e:D) (v z:V) (u w:Value),Rep X.K H d v->Rep X.K H e z->RelV v u->RelV z w->cmpD d e=true->SeqAt.EqAt A.in1 s u w (eqD d e)):SeqAt.RcAt A s (.ref a) (.ref b) (eqD (.tup ds) (.tup es)):=by
 obtain⟨its,v1,p1,_⟩:=I.tuple ha
 obtain⟨its2,v2,p2,_⟩:=I.tuple hb
 have:=SeqAt.RcAt.tuples (A:=A) (s:=s) (e:=λj=>eqD (ds.getD j .non) (es.getD j .non)) (show s.heap.IsTuple a its.toArray from p1) (show s.heap.IsTuple b its2.toArray from p2) hu (qhe r1 r2 v1 v2 hc ih)
 rw[List.size_toArray,List.size_toArray,←v1.length,←v2.length,←r1.length,←r2.length,qeu] at this
 rw[qrs]
 exact this
theorem qxu{A:Around}(I:Inv X pins σ H s){a b:Addr}{ds es:List D}{xs ys:List V}(ha:H a=some (.lst xs))(hb:H b=some (.lst ys))(r1:Reps X.K H ds xs)(r2:Reps X.K H es ys)(hc:qcp ds es=true)(hu:A.units<cLine)
  (ih:∀d∈ds,∀(e:D) (v z:V) (u w:Value),Rep X.K H d v->Rep X.K H e z->RelV v u->RelV z w->cmpD d e=true->SeqAt.EqAt A.in1 s u w (eqD d e)):SeqAt.RcAt A s (.ref a) (.ref b) (eqD (.lst ds) (.lst es)):=by
 obtain⟨its,v1,p1,_⟩:=I.list (SqL.of ha)
 obtain⟨its2,v2,p2,_⟩:=I.list (SqL.of hb)
 have er:=qeu ds es
 rw[qrr]
 by_cases hl:ds.length=es.length
 ·have hz:its.toArray.size=its2.toArray.size:=by rw[List.size_toArray,List.size_toArray,←v1.length,←v2.length,←r1.length,←r2.length,hl]
  have:=SeqAt.RcAt.lists (A:=A) (s:=s) (e:=λj=>eqD (ds.getD j .non) (es.getD j .non)) p1.isList p2.isList hz hu (qhe r1 r2 v1 v2 hc ih)
  rw[List.size_toArray,←v1.length,←r1.length] at this
  rw[←hl,Nat.min_self] at er
  have e2:(ds.length==ds.length)=true:=by simp
  rw[e2,Bool.and_true] at er
  rw[er] at this
  exact this
 ·have e2:(ds.length==es.length)=false:=by simpa using hl
  rw[e2,Bool.and_false] at er
  rw[←er]
  refine SeqAt.RcAt.lists_lengths p1.isList p2.isList ?_ hu
  rw[List.size_toArray,List.size_toArray,←v1.length,←v2.length,←r1.length,←r2.length]
  simpa using hl
theorem qck{ds:List D}{d:D}(h:d∈ds):depD d<=qcd ds:=by
 obtain⟨j,hj⟩:=List.mem_iff_getElem?.mp h
 exact qoa hj
theorem qgn(I:Inv X pins σ H s):∀(n:Nat) (A:Around) (d e:D) (v z:V) (u w:Value),sizeOf d<=n->Rep X.K H d v->Rep X.K H e z->RelV v u->RelV z w->cmpD d e=true->A.units+depD d<cLine->SeqAt.EqAt A s u w (eqD d e)
|0,_,d,_,_,_,_,_,hn,_,_,_,_,_,_=>by cases d<;>simp at hn
|n+1,A,d,e,v,z,u,w,hn,hd,he,ru,rw',hc,hu=>by
  have un:A.in1.units=A.units+1:=rfl
  cases d with
 |tup ds =>
   cases e with
  |tup es =>
    have hd':=hd
    have he':=he
    unfold Rep at hd he
    obtain⟨a,xs,rfl,ha,r1⟩:=hd
    obtain⟨b,ys,rfl,hb,r2⟩:=he
    cases ru
    cases rw'
    unfold depD at hu
    by_cases hab:a=b
    ·subst hab
     rw[Rep.inj I hd' he' hc,qcl]
     exact SeqAt.EqAt.same _
    ·unfold cmpD at hc
     refine SeqAt.EqAt.of_refs hab (qxv I ha.sq hb.sq r1 r2 hc (by lia) λd hd e v z u w h1 h2 h3 h4 h5=>qgn I n A.in1 d e v z u w ?_ h1 h2 h3 h4 h5 ?_)
     ·have:=List.sizeOf_lt_of_mem hd
      simp at hn
      lia
     ·have:=qck hd
      lia
  |_=>unfold cmpD at hc;cases hc
 |lst ds =>
   cases e with
  |lst es =>
    have hd':=hd
    have he':=he
    unfold Rep at hd he
    obtain⟨a,xs,rfl,ha,r1⟩:=hd
    obtain⟨b,ys,rfl,hb,r2⟩:=he
    cases ru
    cases rw'
    unfold depD at hu
    by_cases hab:a=b
    ·subst hab
     rw[Rep.inj I hd' he' hc,qcl]
     exact SeqAt.EqAt.same _
    ·unfold cmpD at hc
     refine SeqAt.EqAt.of_refs hab (qxu I ha hb r1 r2 hc (by lia) λd hd e v z u w h1 h2 h3 h4 h5=>qgn I n A.in1 d e v z u w ?_ h1 h2 h3 h4 h5 ?_)
     ·have:=List.sizeOf_lt_of_mem hd
      simp at hn
      lia
     ·have:=qck hd
      lia
  |_=>unfold cmpD at hc;cases hc
 |_ =>
   obtain⟨v',z',q1,q2,q3⟩:=qnl hc (λ_ h=>by cases h) (λ_ h=>by cases h)
   have e1:=qey hd q1
   have e2:=qey he q2
   subst e1 e2
   rw[qjd q1 q2,←qu3 q3 (qmj q1)]
   exact qw8 ru rw' (qmj q1) (qmj q2)
def rEqD(K:PySem.W.Frag)(g:Bool->Bool):R2:=λx y H Q=>∃d e,Rep K H d x/\Rep K H e y/\cmpD d e=true/\depD d<=50/\Q (.bl (g (eqD d e))) H
theorem q2o(hu:X.A.units+60<cLine):OpR X (compareOp .Eq) (rEqD X.K id):=by
 intro pins s σ H x y v u Q I rx ry h
 obtain⟨d,e,hd,he,hc,hn,q⟩:=h
 have fin:EP X pins σ Q (.bool (eqD d e)) s:=⟨.bl (eqD d e),H,I,rfl,q⟩
 have un:X.A.in1.units=X.A.units+1:=rfl
 cases d with
|tup ds =>
  cases e with
 |tup es =>
   unfold Rep at hd he
   obtain⟨a,xs,rfl,ha,r1⟩:=hd
   obtain⟨b,ys,rfl,hb,r2⟩:=he
   cases rx
   cases ry
   unfold cmpD at hc
   unfold depD at hn
   exact qxv I ha.sq hb.sq r1 r2 hc (by lia) (λd hd e v z u w h1 h2 h3 h4 h5=>qgn I _ X.A.in1 d e v z u w (Nat.le_refl _) h1 h2 h3 h4 h5 (by have:=qck hd;lia)) _ _ _ _ fin
 |_=>unfold cmpD at hc;cases hc
|lst ds =>
  cases e with
 |lst es =>
   unfold Rep at hd he
   obtain⟨a,xs,rfl,ha,r1⟩:=hd
   obtain⟨b,ys,rfl,hb,r2⟩:=he
   cases rx
   cases ry
   unfold cmpD at hc
   unfold depD at hn
   exact qxu I ha hb r1 r2 hc (by lia) (λd hd e v z u w h1 h2 h3 h4 h5=>qgn I _ X.A.in1 d e v z u w (Nat.le_refl _) h1 h2 h3 h4 h5 (by have:=qck hd;lia)) _ _ _ _ fin
 |_=>unfold cmpD at hc;cases hc
|_ =>
  obtain⟨v',z',q1,q2,q3⟩:=qnl hc (λ_ h=>by cases h) (λ_ h=>by cases h)
  have e1:=qey hd q1
  have e2:=qey he q2
  subst e1 e2
  have q':Q (.bl (eqD _ _)) H:=q
  rw[qjd q1 q2] at q'
  exact q41 pins s σ H _ _ v u Q I rx ry ⟨q3,q'⟩
end
end L2
namespace L2
open PySem PySem.Spec PyProof.Rows
inductive R where
|val (d:D)
|own (d:D)
|peek (d:D)
|exc (n:Str)
def R.d:R->D
|.val d=>d
|.own d=>d
|.peek d=>d
|.exc _=>.scr []
abbrev VSt:=List (Option R)
def ioA:D->Option Addr
|.io c _=>some c
|.ioT c _ _=>some c
|_=>none
def OwnAt(K:PySem.W.Frag)(B H:Hp)(d:D)(a:Addr):Prop:=match d with
|.lst ds=>∃xs,H a=some (.lst xs)/\Reps K B ds xs
|.dT ks ds=>∃kvs,H a=some (.dT kvs)/\kvs.map (·.1)=ks.map wK/\Reps K B ds (kvs.map (·.2))
|.dK ks ds=>∃kvs,H a=some (.dK kvs)/\kvs.map (·.1)=ks.map Sum.inr/\Reps K B ds (kvs.map (·.2))
|.io c ds=>∃xs,H a=some (.lst xs)/\a=c/\Reps K B ds xs
|.ioT c ks ds=>∃kvs,H a=some (.dT kvs)/\a=c/\kvs.map (·.1)=ks.map wK/\Reps K B ds (kvs.map (·.2))
|_=>False
def Pk(K:PySem.W.Frag)(B H:Hp)(r:R)(v:V):Prop:=match r with
|.val d=>Rep K B d v
|.own d=>∃a,v=.ref a/\B a=none/\OwnAt K B H d a
|.peek d=>∃a,v=.ref a/\B a=none/\OwnAt K B H d a
|.exc _=>False
def RepR(K:PySem.W.Frag)(B H0 H:Hp)(r:R)(v:V):Prop:=match r with
|.val d=>Rep K B d v
|.own d=>∃a,v=.ref a/\H0 a=none/\B a=none/\OwnAt K B H d a
|.peek d=>∃a,v=.ref a/\B a=none/\OwnAt K B H d a
|.exc _=>False
structure Stp(B H B' H':Hp):Prop where
 b:Same B B'
 h:Same H H'
 s:Same B' H'
 d:∀a,B' a≠none->B a≠none\/H a=none\/∃xs,H a=some (.tup xs)
theorem Stp.refl{B H:Hp}(s:Same B H):Stp B H B H:=⟨Same.refl _,Same.refl _,s,λ_ h=>.inl h⟩
theorem Stp.trans{B H B1 H1 B2 H2:Hp}(p:Stp B H B1 H1)(q:Stp B1 H1 B2 H2):Stp B H B2 H2 :=
 ⟨p.b.trans q.b,p.h.trans q.h,q.s,λa h=>by
  rcases q.d a h with z|z|⟨xs,z⟩
  ·exact p.d a z
  ·exact .inr (.inl (p.h.free z))
  ·cases e:H a with
  |none=>exact .inr (.inl rfl)
  |some o =>
    rw[p.h _ _ e] at z
    exact .inr (.inr ⟨xs,z⟩)⟩
theorem Stp.keep{B H B' H':Hp}(p:Stp B H B' H'){a:Addr}(hb:B a=none)(hh:H a≠none)(nt:∀xs,H a≠some (.tup xs)):B' a=none:=by
 cases e:B' a with
|none=>rfl
|some o =>
  rcases p.d a (by rw[e];exact λz=>by cases z) with z|z|⟨xs,z⟩
  ·exact absurd hb z
  ·exact absurd z hh
  ·exact absurd z (nt xs)
theorem Stp.grow{B H H':Hp}(s:Same B H)(h:Same H H'):Stp B H B H':=⟨Same.refl _,h,s.trans h,λ_ z=>.inl z⟩
theorem Stp.new{B H:Hp}{p:Addr}{o:HO}(s:Same B H)(hp:H p=none):Stp B H (upd B p o) (upd H p o) :=
 ⟨qan (s.free hp) o,qan hp o,λb u e=>by
  unfold upd at e ⊢
  by_cases z:b=p
  ·rw[if_pos z] at e ⊢
   exact e
  ·rw[if_neg z] at e ⊢
   exact s _ _ e,λa h=>by
  by_cases z:a=p
  ·exact .inr (.inl (z▸hp))
  ·rw[qa4 z] at h
   exact .inl h⟩
section
variable {K:PySem.W.Frag} {B H B' H' H0:Hp} {d:D} {a:Addr} {r:R} {v:V}
theorem OwnAt.some(h:OwnAt K B H d a):H a≠none:=by
 unfold OwnAt at h
 split at h
 ·obtain⟨xs,e,_⟩:=h;rw[e];exact λz=>by cases z
 ·obtain⟨xs,e,_⟩:=h;rw[e];exact λz=>by cases z
 ·obtain⟨xs,e,_⟩:=h;rw[e];exact λz=>by cases z
 ·obtain⟨xs,e,_⟩:=h;rw[e];exact λz=>by cases z
 ·obtain⟨xs,e,_⟩:=h;rw[e];exact λz=>by cases z
 ·exact h.elim
theorem OwnAt.nt(h:OwnAt K B H d a):∀xs,H a≠Option.some (.tup xs):=by
 intro ys
 unfold OwnAt at h
 split at h
 ·obtain⟨xs,e,_⟩:=h;rw[e];exact λz=>by cases z
 ·obtain⟨xs,e,_⟩:=h;rw[e];exact λz=>by cases z
 ·obtain⟨xs,e,_⟩:=h;rw[e];exact λz=>by cases z
 ·obtain⟨xs,e,_⟩:=h;rw[e];exact λz=>by cases z
 ·obtain⟨xs,e,_⟩:=h;rw[e];exact λz=>by cases z
 ·exact h.elim
theorem OwnAt.step(h:OwnAt K B H d a)(b:Same B B')(e:H' a=H a):OwnAt K B' H' d a:=by
 unfold OwnAt at h ⊢
 split at h
 ·obtain⟨xs,q,r⟩:=h;exact⟨xs,by rw[e,q],r.same b⟩
 ·obtain⟨xs,q,k,r⟩:=h;exact⟨xs,by rw[e,q],k,r.same b⟩
 ·obtain⟨xs,q,k,r⟩:=h;exact⟨xs,by rw[e,q],k,r.same b⟩
 ·obtain⟨xs,q,k,r⟩:=h;exact⟨xs,by rw[e,q],k,r.same b⟩
 ·obtain⟨xs,q,z,k,r⟩:=h;exact⟨xs,by rw[e,q],z,k,r.same b⟩
 ·exact h.elim
theorem Same.at{a:Addr}(h:Same H H')(n:H a≠none):H' a=H a:=by
 cases e:H a with
|none=>exact absurd e n
|some o=>exact h _ _ e
theorem Pk.step(h:Pk K B H r v)(p:Stp B H B' H'):Pk K B' H' r v:=by
 cases r with
|val d=>exact Rep.same p.b h
|own d =>
  obtain⟨a,e,q,o⟩:=h
  exact⟨a,e,p.keep q o.some o.nt,o.step p.b (p.h.at o.some)⟩
|peek d =>
  obtain⟨a,e,q,o⟩:=h
  exact⟨a,e,p.keep q o.some o.nt,o.step p.b (p.h.at o.some)⟩
|exc n=>exact h.elim
theorem RepR.pk(h:RepR K B H0 H r v):Pk K B H r v:=by
 cases r with
|val d=>exact h
|own d =>
  obtain⟨a,e,_,q,o⟩:=h
  exact⟨a,e,q,o⟩
|peek d=>exact h
|exc n=>exact h
theorem OwnAt.rep(s:Same B H)(h:OwnAt K B H d a):Rep K H d (.ref a):=by
 unfold OwnAt at h
 split at h
 ·obtain⟨xs,q,r⟩:=h;unfold Rep;exact⟨a,xs,rfl,q,r.same s⟩
 ·obtain⟨xs,q,k,r⟩:=h;unfold Rep;exact⟨a,xs,rfl,.inl q,k,r.same s⟩
 ·obtain⟨xs,q,k,r⟩:=h;unfold Rep;exact⟨a,xs,rfl,q,k,r.same s⟩
 ·obtain⟨xs,q,rfl,r⟩:=h;unfold Rep;exact⟨xs,rfl,q,r.same s⟩
 ·obtain⟨xs,q,rfl,k,r⟩:=h;unfold Rep;exact⟨xs,rfl,q,k,r.same s⟩
 ·exact h.elim
theorem Pk.rep(s:Same B H)(h:Pk K B H r v):Rep K H r.d v:=by
 cases r with
|val d=>exact Rep.same s h
|own d =>
  obtain⟨a,rfl,_,o⟩:=h
  exact o.rep s
|peek d =>
  obtain⟨a,rfl,_,o⟩:=h
  exact o.rep s
|exc n=>exact h.elim
theorem OwnAt.pub(h:OwnAt K B H d a)(hb:B a=none):∃o,H a=Option.some o/\Rep K (upd B a o) d (.ref a):=by
 unfold OwnAt at h
 split at h
 ·obtain⟨xs,q,r⟩:=h
  refine⟨_,q,?_⟩
  unfold Rep
  exact⟨a,xs,rfl,qbc,r.same (qan hb _)⟩
 ·obtain⟨xs,q,k,r⟩:=h
  refine⟨_,q,?_⟩
  unfold Rep
  exact⟨a,xs,rfl,.inl qbc,k,r.same (qan hb _)⟩
 ·obtain⟨xs,q,k,r⟩:=h
  refine⟨_,q,?_⟩
  unfold Rep
  exact⟨a,xs,rfl,qbc,k,r.same (qan hb _)⟩
 ·obtain⟨xs,q,rfl,r⟩:=h
  refine⟨_,q,?_⟩
  unfold Rep
  exact⟨xs,rfl,qbc,r.same (qan hb _)⟩
 ·obtain⟨xs,q,rfl,k,r⟩:=h
  refine⟨_,q,?_⟩
  unfold Rep
  exact⟨xs,rfl,qbc,k,r.same (qan hb _)⟩
 ·exact h.elim
theorem qfu{o:HO}(s:Same B H)(e:H a=Option.some o):Same (upd B a o) H:=λb u q=>by
 unfold upd at q
 by_cases z:b=a
 ·rw[if_pos z] at q
  rw[z,e]
  exact q
 ·rw[if_neg z] at q
  exact s _ _ q
def pubR:R->(D->Prop)->Prop
|.val d,Q=>Q d
|.own d,Q=>Q d
|.peek _,_=>False
|.exc _,_=>False
def exR:R->(R->Prop)->Prop->Prop
|.exc n,Q,_=>Q (.exc n)
|.val _,_,k=>k
|.own _,_,k=>k
|.peek _,_,k=>k
theorem pub{Q:D->Prop}(p:Stp B H B' H')(h:RepR K B' H H' r v)(q:pubR r Q):∃d B2,Stp B H B2 H'/\Same B' B2/\Rep K B2 d v/\Q d:=by
 cases r with
|val d=>exact⟨d,B',p,Same.refl _,h,q⟩
|own d =>
  obtain⟨a,rfl,h0,hb,o⟩:=h
  obtain⟨u,e,rp⟩:=o.pub hb
  refine⟨d,upd B' a u,⟨p.b.trans (qan hb _),p.h,qfu p.s e,λc z=>?_⟩,qan hb _,rp,q⟩
  by_cases w:c=a
  ·exact .inr (.inl (w▸h0))
  ·rw[qa4 w] at z
   exact p.d c z
|peek d=>exact q.elim
|exc n=>exact q.elim
def FzD(K:PySem.W.Frag)(B:Hp)(d:D)(v:V):Prop:=∃a ks ds kvs o,d=.dT ks ds/\v=.ref a/\B a=some (.frz o (.dT kvs))/\kvs.map (·.1)=ks.map wK/\Reps K B ds (kvs.map (·.2))
mutual
def NewD(H0 B:Hp):D->V->Prop
|.lst ds,v=>∃a xs,v=.ref a/\B a=some (.lst xs)/\H0 a=none/\NewDs H0 B ds xs
|_,_=>True
def NewDs(H0 B:Hp):List D->List V->Prop
|d::ds,x::xs=>NewD H0 B d x/\NewDs H0 B ds xs
|_,_=>True
end
mutual
theorem NewD.same{H0 B B':Hp}(s:Same B B'):∀(d:D) (v:V),NewD H0 B d v->NewD H0 B' d v
|.lst ds,v,h=>by
  unfold NewD at h ⊢
  obtain⟨a,xs,e1,e2,e3,e4⟩:=h
  exact⟨a,xs,e1,s _ _ e2,e3,NewDs.same s ds xs e4⟩
|.non,_,_|.bl _,_,_|.int _,_,_|.str _,_,_|.tup _,_,_|.dT ..,_,_|.dK ..,_,_|.scr _,_,_|.kt _,_,_|.exc _,_,_|.io ..,_,_|.ioT ..,_,_=>by unfold NewD;trivial
theorem NewDs.same{H0 B B':Hp}(s:Same B B'):∀(ds:List D) (xs:List V),NewDs H0 B ds xs->NewDs H0 B' ds xs
|d::ds,x::xs,h=>by
  unfold NewDs at h ⊢
  exact⟨NewD.same s d x h.1,NewDs.same s ds xs h.2⟩
|[],_,_=>by unfold NewDs;trivial
|_::_,[],_=>by unfold NewDs;trivial
end
def q4y(ds:List D):Prop:=∀d∈ds,match d with
|.lst _=>False
|_=>True
def NewR(H0 B:Hp)(d:D)(v:V):Prop:=match d with
|.tup ds=>q4y ds\/∃a xs,v=.ref a/\B a=some (.tup xs)/\NewDs H0 B ds xs
|_=>NewD H0 B d v
def FzAt(K:PySem.W.Frag)(H0 B:Hp)(d:D)(v:V):Prop:=FzD K B d v\/∃ds,d=.lst ds/\Rep K B d v/\NewD H0 B d v
theorem FzAt.same{H0:Hp}(h:FzAt K H0 B d v)(s:Same B B'):FzAt K H0 B' d v:=by
 rcases h with ⟨a,ks,ds,kvs,o,e1,e2,e3,e4,e5⟩|⟨ds,e,r,n⟩
 ·exact .inl ⟨a,ks,ds,kvs,o,e1,e2,s _ _ e3,e4,e5.same s⟩
 ·exact .inr ⟨ds,e,r.same s,NewD.same s _ _ n⟩
theorem FzAt.rep{H0:Hp}(h:FzAt K H0 B d v):Rep K B d v:=by
 rcases h with ⟨a,ks,ds,kvs,o,rfl,e2,e3,e4,e5⟩|⟨ds,e,r,n⟩
 ·unfold Rep
  exact⟨a,kvs,e2,.inr ⟨o,e3⟩,e4,e5⟩
 ·exact r
structure Slots(K:PySem.W.Frag)(H0 B H:Hp)(τ:VSt)(σ:St):Prop where
 len:σ.length=τ.length
 val:∀(i:Nat) (d:D),τ[i]?=some (some (R.val d))->∃v,σ[i]?=some (some v)/\Rep K B d v
 fz:∀(i:Nat) (d:D),τ[i]?=some (some (R.peek d))->∃v,σ[i]?=some (some v)/\FzAt K H0 B d v
 own:∀(i:Nat) (d:D),τ[i]?=some (some (R.own d))->∃a,σ[i]?=some (some (.ref a))/\H0 a=none/\B a=none/\OwnAt K B H d a
 sep:∀(i j:Nat) (d e:D) (a:Addr),τ[i]?=some (some (R.own d))->τ[j]?=some (some (R.own e))->σ[i]?=some (some (.ref a))->σ[j]?=some (some (.ref a))->i=j
variable {τ:VSt} {σ:St}
theorem Slots.step(S:Slots K H0 B H τ σ)(p:Stp B H B' H'):Slots K H0 B' H' τ σ where
 len:=S.len
 val:=λi d e=>let ⟨v,q,r⟩:=S.val i d e;⟨v,q,r.same p.b⟩
 fz:=λi d e=>let ⟨v,q,r⟩:=S.fz i d e;⟨v,q,r.same p.b⟩
 own:=λi d e=>let ⟨a,q,h0,hb,o⟩:=S.own i d e;⟨a,q,h0,p.keep hb o.some o.nt,o.step p.b (p.h.at o.some)⟩
 sep:=S.sep
theorem qbk{α:Type}{xs:List α}{i j:Nat}{x y:α}(h:(xs.set i x)[j]?=some y):(i=j/\x=y/\i<xs.length)\/(i≠j/\xs[j]?=some y):=by
 by_cases e:i=j
 ·subst e
  by_cases l:i<xs.length
  ·rw[List.getElem?_set_self l] at h
   exact .inl ⟨rfl,Option.some.inj h,l⟩
  ·rw[List.getElem?_eq_none (by rw[List.length_set];lia)] at h
   cases h
 ·rw[List.getElem?_set_ne e] at h
  exact .inr ⟨e,h⟩
theorem Slots.setVal(S:Slots K H0 B H τ σ)(i:Nat)(h:Rep K B d v):Slots K H0 B H (τ.set i (some (.val d))) (σ.set i (some v)) where
 len:=by rw[List.length_set,List.length_set,S.len]
 val:=λj e q=>by
  rcases qbk q with ⟨rfl,z,l⟩|⟨n,q⟩
  ·cases z
   exact⟨v,List.getElem?_set_self (by rw[S.len];exact l),h⟩
  ·obtain⟨w,q,r⟩:=S.val j e q
   exact⟨w,by rw[List.getElem?_set_ne n];exact q,r⟩
 fz:=λj e q=>by
  rcases qbk q with ⟨rfl,z,l⟩|⟨n,q⟩
  ·cases z
  ·obtain⟨w,q,r⟩:=S.fz j e q
   exact⟨w,by rw[List.getElem?_set_ne n];exact q,r⟩
 own:=λj e q=>by
  rcases qbk q with ⟨rfl,z,l⟩|⟨n,q⟩
  ·cases z
  ·obtain⟨w,q,r⟩:=S.own j e q
   exact⟨w,by rw[List.getElem?_set_ne n];exact q,r⟩
 sep:=λj k e f c q1 q2 q3 q4=>by
  rcases qbk q1 with ⟨rfl,z,l⟩|⟨n,q1⟩
  ·cases z
  rcases qbk q2 with ⟨rfl,z,l⟩|⟨n2,q2⟩
  ·cases z
  rw[List.getElem?_set_ne n] at q3
  rw[List.getElem?_set_ne n2] at q4
  exact S.sep j k e f c q1 q2 q3 q4
theorem Slots.setNone(S:Slots K H0 B H τ σ)(i:Nat)(w:Option V):Slots K H0 B H (τ.set i none) (σ.set i w) where
 len:=by rw[List.length_set,List.length_set,S.len]
 val:=λj e q=>by
  rcases qbk q with ⟨rfl,z,l⟩|⟨n,q⟩
  ·cases z
  ·obtain⟨w,q,r⟩:=S.val j e q
   exact⟨w,by rw[List.getElem?_set_ne n];exact q,r⟩
 fz:=λj e q=>by
  rcases qbk q with ⟨rfl,z,l⟩|⟨n,q⟩
  ·cases z
  ·obtain⟨w,q,r⟩:=S.fz j e q
   exact⟨w,by rw[List.getElem?_set_ne n];exact q,r⟩
 own:=λj e q=>by
  rcases qbk q with ⟨rfl,z,l⟩|⟨n,q⟩
  ·cases z
  ·obtain⟨w,q,r⟩:=S.own j e q
   exact⟨w,by rw[List.getElem?_set_ne n];exact q,r⟩
 sep:=λj k e f c q1 q2 q3 q4=>by
  rcases qbk q1 with ⟨rfl,z,l⟩|⟨n,q1⟩
  ·cases z
  rcases qbk q2 with ⟨rfl,z,l⟩|⟨n2,q2⟩
  ·cases z
  rw[List.getElem?_set_ne n] at q3
  rw[List.getElem?_set_ne n2] at q4
  exact S.sep j k e f c q1 q2 q3 q4
theorem Slots.setOwn(S:Slots K H0 B H τ σ)(i:Nat)(h0:H0 a=none)(hb:B a=none)(o:OwnAt K B H d a)(nw:∀(j:Nat) (e:D),τ[j]?=some (some (.own e))->σ[j]?≠some (some (.ref a))) :
  Slots K H0 B H (τ.set i (some (.own d))) (σ.set i (some (.ref a))) where
 len:=by rw[List.length_set,List.length_set,S.len]
 val:=λj e q=>by
  rcases qbk q with ⟨rfl,z,l⟩|⟨n,q⟩
  ·cases z
  ·obtain⟨w,q,r⟩:=S.val j e q
   exact⟨w,by rw[List.getElem?_set_ne n];exact q,r⟩
 fz:=λj e q=>by
  rcases qbk q with ⟨rfl,z,l⟩|⟨n,q⟩
  ·cases z
  ·obtain⟨w,q,r⟩:=S.fz j e q
   exact⟨w,by rw[List.getElem?_set_ne n];exact q,r⟩
 own:=λj e q=>by
  rcases qbk q with ⟨rfl,z,l⟩|⟨n,q⟩
  ·cases z
   exact⟨a,List.getElem?_set_self (by rw[S.len];exact l),h0,hb,o⟩
  ·obtain⟨w,q,r⟩:=S.own j e q
   exact⟨w,by rw[List.getElem?_set_ne n];exact q,r⟩
 sep:=λj k e f c q1 q2 q3 q4=>by
  rcases qbk q1 with ⟨rfl,z,l⟩|⟨n,q1⟩
  ·rcases qbk q2 with ⟨rfl,z,l2⟩|⟨n2,q2⟩
   ·rfl
   ·rw[List.getElem?_set_self (by rw[S.len];exact l)] at q3
    cases q3
    rw[List.getElem?_set_ne n2] at q4
    exact absurd q4 (nw k f q2)
  ·rcases qbk q2 with ⟨rfl,z,l2⟩|⟨n2,q2⟩
   ·rw[List.getElem?_set_self (by rw[S.len];exact l2)] at q4
    cases q4
    rw[List.getElem?_set_ne n] at q3
    exact absurd q3 (nw j e q1)
   ·rw[List.getElem?_set_ne n] at q3
    rw[List.getElem?_set_ne n2] at q4
    exact S.sep j k e f c q1 q2 q3 q4
theorem Slots.upd(S:Slots K H0 B H τ σ){i:Nat}{e:D}{o:HO}(hi:τ[i]?=some (some (.own e)))(ha:σ[i]?=some (some (.ref a)))(n:OwnAt K B (upd H a o) d a) :
  Slots K H0 B (upd H a o) (τ.set i (some (.own d))) σ where
 len:=by rw[List.length_set,S.len]
 val:=λj f q=>by
  rcases qbk q with ⟨rfl,z,l⟩|⟨n,q⟩
  ·cases z
  ·exact S.val j f q
 fz:=λj f q=>by
  rcases qbk q with ⟨rfl,z,l⟩|⟨n,q⟩
  ·cases z
  ·exact S.fz j f q
 own:=λj f q=>by
  rcases qbk q with ⟨rfl,z,l⟩|⟨ne,q⟩
  ·cases z
   obtain⟨c,q1,h0,hb,_⟩:=S.own i e hi
   rw[ha] at q1
   cases q1
   exact⟨a,ha,h0,hb,n⟩
  ·obtain⟨c,q1,h0,hb,w⟩:=S.own j f q
   refine⟨c,q1,h0,hb,w.step (Same.refl _) (qa4 λz=>?_)⟩
   subst z
   exact ne (S.sep i j e f c hi q ha q1)
 sep:=λj k e' f c q1 q2 q3 q4=>by
  have hj:∃e',τ[j]?=some (some (.own e')):=by
   rcases qbk q1 with ⟨rfl,z,l⟩|⟨_,q⟩
   ·exact⟨e,hi⟩
   ·exact⟨_,q⟩
  have hk:∃e',τ[k]?=some (some (.own e')):=by
   rcases qbk q2 with ⟨rfl,z,l⟩|⟨_,q⟩
   ·exact⟨e,hi⟩
   ·exact⟨_,q⟩
  obtain⟨_,hj⟩:=hj
  obtain⟨_,hk⟩:=hk
  exact S.sep j k _ _ c hj hk q3 q4
theorem Stp.upd(p:Stp B H B' H'){o:HO}(h0:H a=none)(hb:B' a=none):Stp B H B' (L2.upd H' a o) :=
 ⟨p.b,p.h.put h0,λb u q=>by
  rw[qa4 (λz=>by rw[z,hb] at q;cases q)]
  exact p.s _ _ q,p.d⟩
def frz(i:Nat)(τ:VSt):VSt:=match τ[i]? with
|some (some (.own d))=>τ.set i (some (.val d))
|_=>τ
end
end L2
namespace L2
open PySem PySem.Spec PyProof.Rows
abbrev TV:=VSt->(R->Prop)->Prop
abbrev TVT:=VSt->(Bool->Prop)->Prop
inductive AR where
|ok (ds:List D)
|exc (n:Str)
abbrev TVA:=VSt->(AR->Prop)->Prop
abbrev TVG:=D->VSt->(VSt->Prop)->Prop
structure VEnds where
 nx:VSt->Prop
 rt:R->Prop
 bk:VSt->Prop:=λ_=>False
 ct:VSt->Prop:=λ_=>False
 xc:VSt->Str->Prop:=λ_ _=>False
 ro:VSt->R->Prop:=λ_ _=>False
 rn:D->Prop:=λ_=>False
abbrev TVS:=VEnds->VSt->Prop
section
variable (K:PySem.W.Frag) (EX:St->XK)
def RfE(te:TE)(t:TV):Prop:=∀(H0 B H:Hp) (τ:VSt) (σ:St) (Q:VK) (Qd:R->Prop),Same B H->Slots K H0 B H τ σ->t τ Qd->(∀n C B' H',Stp B H B' H'->clsOf K n C->Qd (.exc n)->EX σ (.ref C) none H')->(∀r v B' H',Stp B H B' H'->RepR K B' H H' r v->Qd r->Q v H')->te σ H Q
def RfT(te:TT)(t:TVT):Prop:=∀(H0 B H:Hp) (τ:VSt) (σ:St) (Q:Bool->Hp->Prop) (Qd:Bool->Prop),Same B H->Slots K H0 B H τ σ->t τ Qd->(∀b B' H',Stp B H B' H'->Qd b->Q b H')->te σ H Q
def RfA(te:TA)(t:TVA):Prop:=∀(H0 B H:Hp) (τ:VSt) (σ:St) (Q:List V->Hp->Prop) (Qd:AR->Prop),Same B H->Slots K H0 B H τ σ->t τ Qd->(∀n C B' H',Stp B H B' H'->clsOf K n C->Qd (.exc n)->EX σ (.ref C) none H')->(∀ds vs B' H',Stp B H B' H'->Reps K B' ds vs->Qd (.ok ds)->Q vs H')->te σ H Q
def RfO(r:R2)(rd:R->R->(R->Prop)->Prop):Prop:=∀(B H:Hp) (x y:V) (rx ry:R) (Q:VK) (Qd:R->Prop),Same B H->Pk K B H rx x->Pk K B H ry y->rd rx ry Qd->(∀r v B' H',Stp B H B' H'->RepR K B' H H' r v->Qd r->Q v H')->r x y H Q
def RfC(r:List V->Hp->VK->Prop)(rd:R->(R->Prop)->Prop):Prop:=∀(B H:Hp) (x:V) (rx:R) (Q:VK) (Qd:R->Prop),Same B H->Pk K B H rx x->rd rx Qd->(∀r v B' H',Stp B H B' H'->RepR K B' H H' r v->Qd r->Q v H')->r [x] H Q
def Kp(τ:VSt)(σ:St)(τ':VSt)(σ':St):Prop:=∀(j:Nat) (e:D),τ'[j]?=some (some (R.own e))->τ[j]?=some (some (R.own e))/\σ'[j]?=σ[j]?
def RfG(g:TG)(t:TVG):Prop:=∀(H0 B H:Hp) (τ:VSt) (σ:St) (x:V) (d:D) (Q:St->Hp->Prop) (Qd:VSt->Prop),Same B H->Slots K H0 B H τ σ->Rep K B d x->t d τ Qd->(∀τ' σ',Slots K H0 B H τ' σ'->Kp τ σ τ' σ'->Qd τ'->Q σ' H)->g x σ H Q
def RfGs(g:TGs)(t:List D->VSt->(VSt->Prop)->Prop):Prop:=∀(H0 B H:Hp) (τ:VSt) (σ:St) (xs:List V) (ds:List D) (Q:St->Hp->Prop) (Qd:VSt->Prop),Same B H->Slots K H0 B H τ σ->Reps K B ds xs->t ds τ Qd->(∀τ' σ',Slots K H0 B H τ' σ'->Kp τ σ τ' σ'->Qd τ'->Q σ' H)->g xs σ H Q
def ItOk(B:Hp)(J:It)(ds:List D):Prop:=∀(i:Nat) (B2 H:Hp),Same B B2->Same B2 H->(∀d,ds[i]?=some d->J.go i H/\∀x H',J.yld i H x H'->∃B3,Stp B2 H B3 H'/\Rep K B3 d x)/\(ds[i]?=none->J.stop i H)
def RfI(wi:TI)(vi:TVA):Prop:=∀(H0 B H:Hp) (τ:VSt) (σ:St) (Q:It->Hp->Prop) (Qd:AR->Prop),Same B H->Slots K H0 B H τ σ->vi τ Qd->(∀n C B' H',Stp B H B' H'->clsOf K n C->Qd (.exc n)->EX σ (.ref C) none H')->(∀J ds B' H',Stp B H B' H'->ItOk K B' J ds->Qd (.ok ds)->Q J H')->wi σ H Q
def RfF(ti:TF)(t:TVT):Prop:=∀(H0 B H:Hp) (τ:VSt) (σ:St) (Y N:Hp->Prop) (Qd:Bool->Prop),Same B H->Slots K H0 B H τ σ->t τ Qd->(∀b B' H',Stp B H B' H'->Qd b->if b=true then Y H' else N H')->ti σ H Y N
structure EndsOk(B0 H0:Hp)(Dv:VEnds)(Dh:Ends):Prop where
 nx:∀B H τ σ,Stp B0 H0 B H->Slots K H0 B H τ σ->Dv.nx τ->Dh.nx σ H
 rt:∀r v B H,Stp B0 H0 B H->RepR K B H0 H r v->Dv.rt r->Dh.rt v H
 bk:∀B H τ σ,Stp B0 H0 B H->Slots K H0 B H τ σ->Dv.bk τ->Dh.bk σ H
 ct:∀B H τ σ,Stp B0 H0 B H->Slots K H0 B H τ σ->Dv.ct τ->Dh.ct σ H
 xc:∀B H τ σ n C,Stp B0 H0 B H->Slots K H0 B H τ σ->clsOf K n C->Dv.xc τ n->EX σ (.ref C) none H
 ro:∀r v B H τ σ,Stp B0 H0 B H->Slots K H0 B H τ σ->RepR K B H0 H r v->(∀(d e:D) (i:Nat) (c:Addr),r=R.own d->τ[i]?=some (some (R.own e))->ioA e=some c->v≠.ref c)->Dv.ro τ r->Dh.rt v H
 rn:∀d v B H,Stp B0 H0 B H->Rep K B d v->NewR H0 B d v->Dv.rn d->Dh.rt v H
def RfS(ts:TS)(t:TVS):Prop:=∀(B0 H0 B H:Hp) (τ:VSt) (σ:St) (Dv:VEnds) (Dh:Ends),Stp B0 H0 B H->Slots K H0 B H τ σ->t Dv τ->EndsOk K EX B0 H0 Dv Dh->ts Dh σ H
end
section
structure VE(X:Cx)(EX:St->XK)(e:Expr)(t:TV):Prop where
 u:∃te,QE X e te/\RfE X.K EX te t
structure VC(X:Cx)(EX:St->XK)(e:Expr)(t:TV):Prop where
 u:∃te,QC X e te/\RfE X.K EX te t
structure VT(X:Cx)(EX:St->XK)(e:Expr)(t:TVT):Prop where
 u:∃te,QT X e te/\RfT X.K te t
structure VW(X:Cx)(EX:St->XK)(e:Expr)(t:TVT):Prop where
 u:∃te,QW X e te/\RfT X.K te t
structure VA(X:Cx)(EX:St->XK)(es:List Expr)(t:TVA):Prop where
 u:∃te,QA X es te/\RfA X.K EX te t
structure VI(X:Cx)(EX:St->XK)(tg e:Expr)(t:TVA):Prop where
 u:∃wi,QI X tg e wi/\RfI X.K EX wi t
structure VFs(X:Cx)(EX:St->XK)(ifs:List Expr)(t:TVT):Prop where
 u:∃ti,QF X ifs ti/\RfF X.K ti t
structure VS(X:Cx)(EX:St->XK)(st:Stmt)(t:TVS):Prop where
 u:∃ts,QS X st ts/\RfS X.K EX ts t
structure VSs(X:Cx)(EX:St->XK)(st:List Stmt)(t:TVS):Prop where
 u:∃ts,QSs X st ts/\RfS X.K EX ts t
end
section
variable (X:Cx)
structure VO(f:Value->Value->Sem Value)(rd:R->R->(R->Prop)->Prop):Prop where
 u:∃r,OpR X f r/\RfO X.K r rd
structure VX(rd:R->R->(R->Prop)->Prop):Prop where
 u:∃r,IxR X r/\RfO X.K r rd
structure VF(f:Value)(rd:R->(R->Prop)->Prop):Prop where
 u:∃r,CallR X f r/\RfC X.K r rd
structure VG(tg:Expr)(t:TVG):Prop where
 u:∃g,QG X tg g/\RfG X.K g t
structure VGs(ts:List Expr)(t:List D->VSt->(VSt->Prop)->Prop):Prop where
 u:∃g,QGs X ts g/\RfGs X.K g t
end
section
variable {X:Cx} {EX:St->XK} {K:PySem.W.Frag} {a b c e o i:Expr} {es:List Expr} {pos pos' p p2 apos cpos:Pos} {x:Str} {ta tb tc te:TV} {tA:TVA} {tT tU:TVT} {B H B' H' H0 H1 H2:Hp} {r:R} {v:V}
theorem RepR.back(h:RepR K B H1 H2 r v)(s:Same H H1):RepR K B H H2 r v:=by
 cases r with
|val d=>exact h
|own d =>
  obtain⟨a,e,h0,q⟩:=h
  exact⟨a,e,s.free h0,q⟩
|peek d=>exact h
|exc n=>exact h
theorem Pk.scal{z:V}(h:Pk K B H r v)(e:dV r.d=some z):v=z:=by
 cases r with
|val d =>
  have e':dV d=some z:=e
  have h':Rep K B d v:=h
  cases d<;>first|(unfold Rep at h';subst h';exact Option.some.inj e')|(cases e';done)
|own d =>
  obtain⟨a,_,_,q⟩:=h
  have e':dV d=some z:=e
  cases d<;>first|(cases e';done)|exact q.elim
|peek d =>
  obtain⟨a,_,_,q⟩:=h
  have e':dV d=some z:=e
  cases d<;>first|(cases e';done)|exact q.elim
|exc n=>exact h.elim
theorem Pk.tup{ds:List D}(h:Pk K B H r v)(e:r.d=.tup ds):∃a xs,v=.ref a/\TupAt K B a ds xs/\Reps K B ds xs:=by
 cases r with
|val d =>
  cases (show d=_ from e)
  have h':Rep K B (.tup ds) v:=h
  unfold Rep at h'
  exact h'
|own d=>cases (show d=_ from e);obtain⟨_,_,_,q⟩:=h;exact q.elim
|peek d=>cases (show d=_ from e);obtain⟨_,_,_,q⟩:=h;exact q.elim
|exc n=>exact h.elim
theorem Pk.lst{ds:List D}(s:Same B H)(h:Pk K B H r v)(e:r.d=.lst ds):∃a xs,v=.ref a/\H a=some (.lst xs)/\Reps K B ds xs:=by
 cases r with
|val d =>
  cases (show d=_ from e)
  have h':Rep K B (.lst ds) v:=h
  unfold Rep at h'
  obtain⟨a,xs,rfl,q,rp⟩:=h'
  exact⟨a,xs,rfl,s _ _ q,rp⟩
|own d=>cases (show d=_ from e);obtain⟨a,rfl,_,xs,q,rp⟩:=h;exact⟨a,xs,rfl,q,rp⟩
|peek d=>cases (show d=_ from e);obtain⟨a,rfl,_,xs,q,rp⟩:=h;exact⟨a,xs,rfl,q,rp⟩
|exc n=>exact h.elim
theorem Pk.scr{ns:List Int}(s:Same B H)(h:Pk K B H r v)(e:r.d=.scr ns):∃a,v=.ref a/\SqL K H a (ns.map V.int):=by
 cases r with
|val d =>
  cases (show d=_ from e)
  have h':Rep K B (.scr ns) v:=h
  unfold Rep at h'
  obtain⟨a,rfl,q⟩:=h'
  exact⟨a,rfl,s.seq q⟩
|own d=>cases (show d=_ from e);obtain⟨_,_,_,q⟩:=h;exact q.elim
|peek d=>cases (show d=_ from e);obtain⟨_,_,_,q⟩:=h;exact q.elim
|exc n=>exact h.elim
theorem qhs{d:D}{z:V}(e:dV d=some z):Rep K B d z:=by
 cases d<;>first|(cases e;done)|(unfold Rep;exact(Option.some.inj e).symm)
theorem repV{d:D}{z:V}(e:dV d=some z):RepR K B H0 H (.val d) z:=qhs e
theorem xst{B1:Hp}{σ:St}{P:Str->Prop}(x:∀n C B' H',Stp B H B' H'->clsOf K n C->P n->EX σ (.ref C) none H')(p:Stp B H B1 H1):∀n C B' H',Stp B1 H1 B' H'->clsOf K n C->P n->EX σ (.ref C) none H':=λn C B' H' q c h=>x n C B' H' (p.trans q) c h
theorem xno{σ:St}{P:Str->Prop}(h:∀n,¬ P n):∀n C B' H',Stp B H B' H'->clsOf K n C->P n->EX σ (.ref C) none H':=λn _ _ _ _ _ q=>absurd q (h n)
def vVar(i:Nat):TV:=λτ Q=>match τ[i]? with
|some (some (.val d))=>Q (.val d)
|some (some (.own d))=>Q (.peek d)
|some (some (.peek d))=>Q (.val d)
|_=>False
theorem q3y{i:Nat}:RfE K EX (tVar i) (vVar i):=λH0 B H τ σ Q Qd s S h _ k=>by
 unfold vVar at h
 split at h
 ·rename_i d e
  obtain⟨v,q,rp⟩:=S.val i d e
  exact⟨v,q,k (.val d) v B H (.refl s) rp h⟩
 ·rename_i d e
  obtain⟨a,q,_,hb,ow⟩:=S.own i d e
  exact⟨.ref a,q,k (.peek d) (.ref a) B H (.refl s) ⟨a,rfl,hb,ow⟩ h⟩
 ·rename_i d e
  obtain⟨v,q,rp⟩:=S.fz i d e
  exact⟨v,q,k (.val d) v B H (.refl s) rp.rep h⟩
 ·exact h.elim
theorem vv(i:Nat)(hN:X.N[i]?=some x:=by rfl)(hv:Vis X.env.scope x:=by first|exact Or.inl rfl|exact Or.inr (Or.inl rfl)|exact Or.inr (Or.inr rfl))(hd:(x==("__debug__" : Str))=false:=by decide)
  (hcd:(x==("__classdict__" : Str))=false:=by decide):VE X EX (.Name x pos) (vVar i):=⟨_,qv i hN hv hd hcd,q3y⟩
def vC(d:D):TV:=λ_ Q=>Q (.val d)
theorem rf_c{d:D}{z:V}(e:dV d=some z):RfE K EX (tC z) (vC d):=λ_ B H _ _ _ _ s _ h _ k=>k (.val d) z B H (.refl s) (qhs e) h
theorem qae{k:Int}{j:Nat}:VE X EX (.Constant (.int k) j pos) (vC (.int k)):=⟨_,q3h,rf_c rfl⟩
theorem qh4{k:Bool}{j:Nat}:VE X EX (.Constant (.bool k) j pos) (vC (.bl k)):=⟨_,q5e,rf_c rfl⟩
theorem q4l{j:Nat}:VE X EX (.Constant .none j pos) (vC .non):=⟨_,q3i,rf_c rfl⟩
theorem qak{z:Str}{j:Nat}:VE X EX (.Constant (.str z) j pos) (vC (.str z)):=⟨_,q3k,rf_c rfl⟩
theorem RepR.ok{Q:R->Prop}{k:Prop}(h:RepR K B H0 H r v)(q:exR r Q k):k:=by
 cases r with
|exc n=>exact h.elim
|val d=>exact q
|own d=>exact q
|peek d=>exact q
def vOp(rd:R->R->(R->Prop)->Prop)(ta tb:TV):TV:=λτ Q=>ta τ λrx=>exR rx Q (tb τ λry=>exR ry Q (rd rx ry Q))
theorem qwd{rr:R2}{rd:R->R->(R->Prop)->Prop}{ea eb:TE}(hr:RfO K rr rd)(ha:RfE K EX ea ta)(hb:RfE K EX eb tb):RfE K EX (tOp rr ea eb) (vOp rd ta tb):=λH0 B H τ σ Q Qd s S h xc k =>
 ha H0 B H τ σ _ _ s S h xc λrx x B1 H1 p1 q1 h1=>hb H0 B1 H1 τ σ _ _ p1.s (S.step p1) (q1.ok h1) (xst xc p1) λry y B2 H2 p2 q2 h2 =>
  hr B2 H2 x y rx ry _ _ p2.s (q1.pk.step p2) q2.pk (q2.ok h2) λr v B3 H3 p3 q3 h3=>k r v B3 H3 (p1.trans (p2.trans p3)) (q3.back (p1.trans p2).h) h3
theorem qa2{op:Operator}{rd:R->R->(R->Prop)->Prop}(hr:VO X (binaryOp op) rd)(ha:VE X EX a ta)(hb:VE X EX b tb):VE X EX (.BinOp a op b pos) (vOp rd ta tb) :=
 let ⟨_,h1,h2⟩:=hr.u;let ⟨_,a1,a2⟩:=ha.u;let ⟨_,b1,b2⟩:=hb.u;⟨_,q5g h1 a1 b1,qwd h2 a2 b2⟩
theorem qix{op:CmpOp}{rd:R->R->(R->Prop)->Prop}(hr:VO X (compareOp op) rd)(ha:VE X EX a ta)(hb:VE X EX b tb)(hm:behindInMarks op b=false:=by with_unfolding_all rfl):VE X EX (.Compare a [op] [b] pos) (vOp rd ta tb) :=
 let ⟨_,h1,h2⟩:=hr.u;let ⟨_,a1,a2⟩:=ha.u;let ⟨_,b1,b2⟩:=hb.u;⟨_,q0f h1 a1 b1 hm,qwd h2 a2 b2⟩
theorem qa8{rd:R->R->(R->Prop)->Prop}(hr:VX X rd)(ha:VE X EX a ta)(hb:VE X EX b tb)(hs:ql7 b:=by exact λ_ _=>rfl):VE X EX (.Subscript a b pos) (vOp rd ta tb) :=
 let ⟨_,h1,h2⟩:=hr.u;let ⟨_,a1,a2⟩:=ha.u;let ⟨_,b1,b2⟩:=hb.u;⟨_,q5f h1 a1 b1 hs,qwd h2 a2 b2⟩
def vBl(t:TV):TVT:=λτ Q=>t τ λr=>match r.d with
|.bl b=>Q b
|_=>False
theorem qwc{ea:TE}(ha:RfE K EX ea ta):RfT K (tB ea) (vBl ta):=λH0 B H τ σ Q Qd s S h k=>ha H0 B H τ σ _ _ s S h (xno λ_ q=>q) λr v B' H' p q h1=>by
 split at h1
 ·rename_i bb e
  exact⟨bb,q.pk.scal (by rw[e];rfl),k bb B' H' p h1⟩
 ·exact h1.elim
theorem qdh(ha:VE X EX e ta)(he:∀whole,isTrue e X.env whole=(do let v ←whole;standAt e.pos;holding [v] (truthy v)):=by intro _;rfl):VT X EX e (vBl ta) :=
 let ⟨_,a1,a2⟩:=ha.u;⟨_,q3q a1 he,qwc a2⟩
theorem qa6{op:CmpOp}{rd:R->R->(R->Prop)->Prop}(hr:VO X (compareOp op) rd)(ha:VE X EX a ta)(hb:VE X EX b tb)(hm:behindInMarks op b=false:=by with_unfolding_all rfl):VT X EX (.Compare a [op] [b] pos) (vBl (vOp rd ta tb)) :=
 let ⟨_,h1,h2⟩:=hr.u;let ⟨_,a1,a2⟩:=ha.u;let ⟨_,b1,b2⟩:=hb.u;⟨_,q0r h1 a1 b1 hm,qwc (qwd h2 a2 b2)⟩
def qfg(t u:TVT):TVT:=λτ Q=>t τ λc=>if c=true then u τ Q else Q false
def vOrT(t u:TVT):TVT:=λτ Q=>t τ λc=>if c=true then Q true else u τ Q
def qfi(t:TVT):TVT:=λτ Q=>t τ λc=>Q (!c)
theorem q3x{e1:TT}(h1:RfT K e1 tT):RfT K (tNot e1) (qfi tT):=λH0 B H τ σ Q Qd s S h k=>h1 H0 B H τ σ _ _ s S h λb B' H' p q=>k _ B' H' p q
theorem q3u{e1 e2:TT}(h1:RfT K e1 tT)(h2:RfT K e2 tU):RfT K (tAnd e1 e2) (qfg tT tU):=λH0 B H τ σ Q Qd s S h k=>h1 H0 B H τ σ _ _ s S h λb B' H' p q=>by
 cases b with
|true=>exact iteT (h2 H0 B' H' τ σ _ _ p.s (S.step p) (by rw[if_pos rfl] at q;exact q) λb2 B2 H2 p2 q2=>k b2 B2 H2 (p.trans p2) q2)
|false=>exact iteF (k false B' H' p (by rw[if_neg Bool.false_ne_true] at q;exact q))
theorem q5m{e1 e2:TT}(h1:RfT K e1 tT)(h2:RfT K e2 tU):RfT K (tOr e1 e2) (vOrT tT tU):=λH0 B H τ σ Q Qd s S h k=>h1 H0 B H τ σ _ _ s S h λb B' H' p q=>by
 cases b with
|true=>exact iteT (k true B' H' p (by rw[if_pos rfl] at q;exact q))
|false=>exact iteF (h2 H0 B' H' τ σ _ _ p.s (S.step p) (by rw[if_neg Bool.false_ne_true] at q;exact q) λb2 B2 H2 p2 q2=>k b2 B2 H2 (p.trans p2) q2)
theorem qes(h:VT X EX a tT):VT X EX (.UnaryOp .Not a pos) (qfi tT):=let ⟨_,a1,a2⟩:=h.u;⟨_,q3p a1,q3x a2⟩
theorem qda(h:VT X EX a tT):VW X EX (.BoolOp .And [a] pos) tT:=let ⟨_,a1,a2⟩:=h.u;⟨_,q0t a1,a2⟩
theorem qgo(h:VT X EX a tT):VW X EX (.BoolOp .Or [a] pos) tT:=let ⟨_,a1,a2⟩:=h.u;⟨_,q3s a1,a2⟩
theorem qet(ha:VT X EX a tT)(hb:VW X EX (.BoolOp .And (b::es) pos) tU):VW X EX (.BoolOp .And (a::b::es) pos) (qfg tT tU):=let ⟨_,a1,a2⟩:=ha.u;let ⟨_,b1,b2⟩:=hb.u;⟨_,q3r a1 b1,q3u a2 b2⟩
theorem qig(ha:VT X EX a tT)(hb:VW X EX (.BoolOp .Or (b::es) pos) tU):VW X EX (.BoolOp .Or (a::b::es) pos) (vOrT tT tU):=let ⟨_,a1,a2⟩:=ha.u;let ⟨_,b1,b2⟩:=hb.u;⟨_,q5k a1 b1,q5m a2 b2⟩
theorem vw_t(h:VW X EX e tT):VT X EX e tT:=let ⟨_,a1,a2⟩:=h.u;⟨_,qw_t a1,a2⟩
def qnr(ta tb:TV):TV:=λτ Q=>ta τ λr=>match r.d with
|.bl c=>if c=true then tb τ Q else Q (.val (.bl false))
|_=>False
def vOrE(ta tb:TV):TV:=λτ Q=>ta τ λr=>match r.d with
|.bl c=>if c=true then Q (.val (.bl true)) else tb τ Q
|_=>False
def q4i(ta:TV):TV:=λτ Q=>ta τ λr=>match r.d with
|.bl c=>Q (.val (.bl (!c)))
|_=>False
theorem qpg{op:BoolOp}(h:VE X EX a ta):VE X EX (.BoolOp op [a] pos) ta:=let ⟨_,a1,a2⟩:=h.u;⟨_,q3j a1,a2⟩
theorem qpd(ha:VE X EX a ta)(hb:VE X EX (.BoolOp .And (b::es) pos) tb):VE X EX (.BoolOp .And (a::b::es) pos) (qnr ta tb) :=
 let ⟨_,a1,a2⟩:=ha.u;let ⟨_,b1,b2⟩:=hb.u;⟨_,q3g a1 b1,λH0 B H τ σ Q Qd s S h xc k=>a2 H0 B H τ σ _ _ s S h (xno λ_ q=>q) λr v B' H' p q h1=>by
  split at h1
  ·rename_i c e
   refine⟨c,q.pk.scal (by rw[e];rfl),?_⟩
   cases c with
  |true=>exact iteT (b2 H0 B' H' τ σ _ _ p.s (S.step p) (by rw[if_pos rfl] at h1;exact h1) (xst xc p) λr2 v2 B2 H2 p2 q2 h2=>k r2 v2 B2 H2 (p.trans p2) (q2.back p.h) h2)
  |false=>exact iteF (k (.val (.bl false)) _ B' H' p (repV (d:=.bl false) rfl) (by rw[if_neg Bool.false_ne_true] at h1;exact h1))
  ·exact h1.elim⟩
def vIfE(tT:TVT)(ta tb:TV):TV:=λτ Q=>tT τ λc=>if c=true then ta τ Q else tb τ Q
theorem qpf(hc:VT X EX c tT)(ha:VE X EX a ta)(hb:VE X EX b tb):VE X EX (.IfExp c a b pos) (vIfE tT ta tb) :=
 let ⟨_,c1,c2⟩:=hc.u;let ⟨_,a1,a2⟩:=ha.u;let ⟨_,b1,b2⟩:=hb.u;⟨_,qo1 c1 a1 b1,λH0 B H τ σ Q Qd s S h xc k=>c2 H0 B H τ σ _ _ s S h λcb B' H' p q=>by
  cases cb with
 |true=>exact iteT (a2 H0 B' H' τ σ _ _ p.s (S.step p) (by rw[if_pos rfl] at q;exact q) (xst xc p) λr2 v2 B2 H2 p2 q2 h2=>k r2 v2 B2 H2 (p.trans p2) (q2.back p.h) h2)
 |  false=>exact iteF (b2 H0 B' H' τ σ _ _ p.s (S.step p) (by rw[if_neg Bool.false_ne_true] at q;exact q) (xst xc p) λr2 v2 B2 H2 p2 q2 h2=>k r2 v2 B2 H2 (p.trans p2) (q2.back p.h) h2)⟩
def exA:AR->(R->Prop)->(List D->Prop)->Prop
|.ok ds,_,k=>k ds
|.exc n,Q,_=>Q (.exc n)
def vNil:TVA:=λ_ Q=>Q (.ok [])
def qzc(d:D):AR->AR
|.ok ds=>.ok (d::ds)
|.exc n=>.exc n
def excA:R->(AR->Prop)->Prop->Prop
|.exc n,Q,_=>Q (.exc n)
|.val _,_,k=>k
|.own _,_,k=>k
|.peek _,_,k=>k
theorem RepR.okA{Q:AR->Prop}{k:Prop}(h:RepR K B H0 H r v)(q:excA r Q k):k:=by
 cases r with
|exc n=>exact h.elim
|val d=>exact q
|own d=>exact q
|peek d=>exact q
def qaa(te:TV)(tA:TVA):TVA:=λτ Q=>te τ λr=>excA r Q (pubR r λd=>tA τ λa=>Q (qzc d a))
theorem qaf:VA X EX [] vNil:=⟨_,qej,λ_ B H _ _ _ _ s _ h _ k=>k [] [] B H (.refl s) (by unfold Reps;rfl) h⟩
theorem vac(ha:VE X EX e te)(hr:VA X EX es tA)(hs:qa3 e=true:=by rfl):VA X EX (e::es) (qaa te tA) :=
 let ⟨_,a1,a2⟩:=ha.u;let ⟨_,b1,b2⟩:=hr.u;⟨_,qac a1 b1 hs,λH0 B H τ σ Q Qd s S h xc k=>a2 H0 B H τ σ _ _ s S h xc λr v B1 H1 p q h1=>by
  obtain⟨d,B2,p2,_,rp,h2⟩:=pub p q (q.okA h1)
  exact b2 H0 B2 H1 τ σ _ _ p2.s (S.step p2) h2 (xst xc p2) λds vs B3 H3 p3 q3 h3=>k (d::ds) (v::vs) B3 H3 (p2.trans p3) (by unfold Reps;exact⟨v,vs,rfl,rp.same p3.b,q3⟩) h3⟩
def vTup(tA:TVA):TV:=λτ Q=>tA τ λa=>exA a Q λds=>ds.length<=sizeLine/\Q (.val (.tup ds))
def vLst(tA:TVA):TV:=λτ Q=>tA τ λa=>exA a Q λds=>ds.length<=sizeLine/\Q (.own (.lst ds))
theorem qjx{ds:List D}{xs:List V}{q:Addr}(h:Reps K B ds xs)(hb:B q=none):Rep K (upd B q (.tup xs)) (.tup ds) (.ref q):=by
 unfold Rep
 exact⟨q,xs,rfl,.inl qbc,h.same (qan hb _)⟩
theorem qbr{ds:List D}{xs:List V}{q:Addr}(h:Reps K B ds xs):OwnAt K B (upd H q (.lst xs)) (.lst ds) q:=⟨xs,qbc,h⟩
theorem qa5{k:Nat}(h:VA X EX es tA):VE X EX (.Tuple es k pos) (vTup tA) :=
 let ⟨_,a1,a2⟩:=h.u;⟨_,q3l a1,λH0 B H τ σ Q Qd s S h xc k=>a2 H0 B H τ σ _ _ s S h xc λds vs B1 H1 p q h1 =>
  ⟨by rw[←q.length];exact h1.1,λad had=>k (.val (.tup ds)) _ (upd B1 ad (.tup vs)) _ (p.trans (.new p.s had)) (qjx q (p.s.free had)) h1.2⟩⟩
theorem qc8(h:VA X EX es tA):VE X EX (.List es pos) (vLst tA) :=
 let ⟨_,a1,a2⟩:=h.u;⟨_,qxs a1,λH0 B H τ σ Q Qd s S h xc k=>a2 H0 B H τ σ _ _ s S h xc λds vs B1 H1 p q h1 =>
  ⟨by rw[←q.length];exact h1.1,λad had=>k (.own (.lst ds)) _ B1 _ (p.trans (.grow p.s (qan had _))) ⟨ad,rfl,p.h.free had,p.s.free had,qbr q⟩ h1.2⟩⟩
abbrev DP:=List D->(R->Prop)->Prop
def spOf(K:PySem.W.Frag)(g:DP):Sp:=λvs H Q E=>∃ds B Qd,Same B H/\Reps K B ds vs/\g ds Qd/\(∀n C B' H',Qd (.exc n)->Stp B H B' H'->clsOf K n C->E (.ref C) none H')/\∀r v B' H',Qd r->Stp B H B' H'->RepR K B' H H' r v->Q v H'
def q4g(g:DP)(tA:TVA):TV:=λτ Q=>tA τ λa=>exA a Q λds=>g ds Q
def qal(g:DP)(tA:TVA):TV:=λτ Q=>tA τ λa=>exA a Q λds=>g ds λr=>exR r (λ_=>False) (Q r)
theorem qam{k:Nat}{ps:List Str}{g:DP}(C:Cal X.prog X.w X.K X.mg X.base k x ps (spOf X.K g))(hr:Room k X.A)(hg:Gl X x)(ha:VA X EX (e::es) tA)(hp:(e::es).all qa3=true:=by rfl)(hdb:(x==("__debug__" : Str))=false:=by decide) :
  VE X EX (.Call (.Name x p) (e::es) [] pos) (qal g tA) :=
 let ⟨_,a1,a2⟩:=ha.u;⟨_,qo0 C hr hg a1 hp hdb,λH0 B H τ σ Q Qd s S h xc k=>a2 H0 B H τ σ _ _ s S h xc λds vs B1 H1 p q h1 =>
  ⟨ds,B1,_,p.s,by rw[List.append_nil];exact q,h1,λn C B' H' hq _ _=>hq.elim,λr v B2 H2 hq p2 q2=>k r v B2 H2 (p.trans p2) (q2.back p.h) (q2.ok hq)⟩⟩
def vF1(rd:R->(R->Prop)->Prop)(te:TV):TV:=λτ Q=>te τ λr=>exR r Q (rd r Q)
theorem q3v{rr:List V->Hp->VK->Prop}{rd:R->(R->Prop)->Prop}{ea:TE}(hr:RfC K rr rd)(ha:RfE K EX ea te):RfE K EX (tCB rr (qwr ea tNil)) (vF1 rd te):=λH0 B H τ σ Q Qd s S h xc k =>
 ha H0 B H τ σ _ _ s S h xc λrx x B1 H1 p1 q1 h1=>hr B1 H1 x rx _ _ p1.s q1.pk (q1.ok h1) λr v B2 H2 p2 q2 h2=>k r v B2 H2 (p1.trans p2) (q2.back p1.h) h2
theorem qcy{id:String}{rd:R->(R->Prop)->Prop}(hc:VF X (.builtin id) rd)(hg:Gl X x)(hm:X.mg x=none)(hv:bootBuiltins x=some (.builtin id))(ha:VE X EX e te)(hp:qa3 e=true:=by rfl)(hn:x≠"__name__" := by decide)
  (hdb:(x==("__debug__" : Str))=false:=by decide):VE X EX (.Call (.Name x p) [e] [] pos) (vF1 rd te) :=
 let ⟨_,c1,c2⟩:=hc.u;let ⟨_,a1,a2⟩:=ha.u;⟨_,qcb c1 hg hm hv (qac a1 qej hp) (by simp[hp]) hn hdb,q3v c2 a2⟩
theorem qj6{T:String}{rd:R->(R->Prop)->Prop}(hc:VF X (.type T) rd)(hg:Gl X x)(hm:X.mg x=none)(hv:bootBuiltins x=some (.type T))(ha:VE X EX e te)(hp:qa3 e=true:=by rfl)(hn:x≠"__name__" := by decide)
  (hdb:(x==("__debug__" : Str))=false:=by decide):VE X EX (.Call (.Name x p) [e] [] pos) (vF1 rd te) :=
 let ⟨_,c1,c2⟩:=hc.u;let ⟨_,a1,a2⟩:=ha.u;⟨_,qct c1 hg hm hv (qac a1 qej hp) (by simp[hp]) hn hdb,q3v c2 a2⟩
end
end L2
namespace L2
open PySem PySem.Spec PyProof.Rows
section
variable {X:Cx} {EX:St->XK} {K:PySem.W.Frag} {B H B' H' H0:Hp}
theorem op_catP:OpR X (binaryOp .Add) (λx y H Q=>∃a b xs ys,x=.ref a/\y=.ref b/\SqT X.K H a xs/\SqT X.K H b ys/\xs.length+ys.length<=sizeLine/\(xs=[]->Q (.ref b) H)/\(xs≠[]->ys=[]->Q (.ref a) H) /\
  (xs≠[]->ys≠[]->∀p,H p=none->Q (.ref p) (upd H p (.tup (xs++ys))))):=by
 intro pins s σ H x y v u Q I rx ry h
 obtain⟨a,b,xs,ys,rfl,rfl,ha,hb,hz,q1,q2,q3⟩:=h
 by_cases hx:xs=[]
 ·subst hx
  cases rx
  cases ry
  obtain⟨its,r1,p1,_⟩:=I.tuple ha
  obtain⟨its2,r2,p2,_⟩:=I.tuple hb
  obtain⟨⟨cls,dd,data,sl⟩,ho,hc,n,hd⟩:=id p1
  obtain⟨⟨cls2,dd2,data2,sl2⟩,ho2,hc2,n2,hd2⟩:=id p2
  simp only at hc hd hc2 hd2
  subst hc hd hc2 hd2
  have e1:its=[]:=r1.nil_iff.mpr rfl
  exact concat_meets ⟨_,ho,rfl⟩ ⟨_,ho2,rfl⟩ noFill_tuple_add seq_tuple_add PySem.F.slot_tuple_add PySem.F.entry_tuple_add (PySem.F.args_tuple_add_2 _ _)
   (tuple_addW0 a b its.toArray its2.toArray n n2 dd dd2 sl sl2 (by simp[e1])) ⟨ho,ho2,⟨.ref b,H,I,rfl,q1 rfl⟩⟩
 ·exact qzi pins s σ H (.ref a) (.ref b) v u Q I rx ry ⟨a,b,xs,ys,rfl,rfl,ha,hb,hx,hz,λe=>q2 hx e,λe p hp=>q3 hx e p hp⟩
theorem sl_tupP:SlR X (λx lo hi H Q=>∃a xs,x=.ref a/\SqT X.K H a xs/\((HT.sIx xs.length 0 lo=0/\HT.sIx xs.length xs.length hi=xs.length)->Q (.ref a) H) /\
  (¬ (HT.sIx xs.length 0 lo=0/\HT.sIx xs.length xs.length hi=xs.length)->∀p,H p=none->Q (.ref p) (upd H p (.tup (cutV xs lo hi))))):=by
 intro pins s σ H x v vl vu lo hi sl Q I rx hs pl pu h
 obtain⟨a,xs,rfl,hx,q1,q2⟩:=h
 by_cases hw:HT.sIx xs.length 0 lo=0/\HT.sIx xs.length xs.length hi=xs.length
 ·cases rx
  obtain⟨its,r,ht,hz⟩:=I.tuple hx
  have hlen:its.toArray.size=xs.length:=by rw[List.size_toArray];exact r.length.symm
  refine⟨"tuple",_,PyProof.Rows.slot_tuple_getitem.lookup,ht.typeIs,?_⟩
  exact HT.getItem_tuple_whole ht hs pl pu (by rw[hlen];exact hw) ⟨.ref a,H,I,rfl,q1 hw⟩
 ·exact q34 pins s σ H (.ref a) v vl vu lo hi sl Q I rx hs pl pu ⟨a,xs,rfl,hx,hw,q2 hw⟩
theorem Reps.append{ds es:List D}{xs ys:List V}(h1:Reps K B ds xs)(h2:Reps K B es ys):Reps K B (ds++es) (xs++ys):=by
 induction ds generalizing xs with
|nil=>unfold Reps at h1;subst h1;exact h2
|cons d ds ih =>
  unfold Reps at h1
  obtain⟨x,r,rfl,q1,q2⟩:=h1
  show Reps K B (d::(ds++es)) (x::(r++ys))
  unfold Reps
  exact⟨x,r++ys,rfl,q1,ih q2⟩
theorem Reps.nil:Reps K B [] []:=by unfold Reps;rfl
theorem Reps.cons{d:D}{ds:List D}{x:V}{xs:List V}(h1:Rep K B d x)(h2:Reps K B ds xs):Reps K B (d::ds) (x::xs):=by unfold Reps;exact⟨x,xs,rfl,h1,h2⟩
theorem Reps.one{d:D}{x:V}(h:Rep K B d x):Reps K B [d] [x]:=.cons h .nil
theorem Reps.drop:∀(n:Nat) {ds:List D} {xs:List V},Reps K B ds xs->Reps K B (ds.drop n) (xs.drop n)
|0,_,_,h=>h
|n+1,[],_,h=>by unfold Reps at h;subst h;exact .nil
|n+1,d::ds,_,h=>by
  unfold Reps at h
  obtain⟨x,r,rfl,q1,q2⟩:=h
  exact Reps.drop n q2
theorem Reps.take:∀(n:Nat) {ds:List D} {xs:List V},Reps K B ds xs->Reps K B (ds.take n) (xs.take n)
|0,_,_,_=>.nil
|n+1,[],_,h=>by unfold Reps at h;subst h;exact .nil
|n+1,d::ds,_,h=>by
  unfold Reps at h
  obtain⟨x,r,rfl,q1,q2⟩:=h
  exact .cons q1 (Reps.take n q2)
theorem Reps.cut{ds:List D}{xs:List V}(lo hi:Option Int)(h:Reps K B ds xs):Reps K B (cutL ds lo hi) (cutV xs lo hi):=by
 unfold cutL cutV
 rw[h.length]
 exact(h.drop _).take _
theorem Reps.ints(ns:List Int):Reps K B (ns.map D.int) (ns.map V.int):=by
 induction ns with
|nil=>exact .nil
|cons n ns ih=>exact .cons (qhs (d:=.int n) rfl) ih
theorem Reps.strs:∀ {ss:List Str} {xs:List V},Reps K B (ss.map D.str) xs->xs=ss.map V.str
|[],_,h=>by unfold Reps at h;exact h
|s::ss,_,h=>by
  have h':Reps K B (.str s::ss.map D.str) _:=h
  unfold Reps at h'
  obtain⟨x,r,rfl,q1,q2⟩:=h'
  unfold Rep at q1
  rw[q1,Reps.strs q2]
  rfl
theorem Reps.atI{ds:List D}{xs:List V}{i:Int}{d:D}(h:Reps K B ds xs)(e:L2.atI ds i=some d):∃x,L2.atI xs i=some x/\Rep K B d x:=by
 unfold L2.atI at e ⊢
 rw[←h.length]
 cases q:ixN ds.length i with
|none=>rw[q] at e;cases e
|some j =>
  rw[q] at e
  exact h.at e
def vAdd(rx ry:R)(Q:R->Prop):Prop:=match rx.d,ry.d with
|.int i,.int j=>Q (.val (.int (i+j)))
|.str a,.str b=>a.length+b.length<=sizeLine/\Q (.val (.str (a++b)))
|.tup a,.tup b=>a.length+b.length<=sizeLine/\Q (.val (.tup (a++b)))
|.lst a,.lst b=>a.length+b.length<=sizeLine/\Q (.own (.lst (a++b)))
|_,_=>False
theorem qbn:VO X (binaryOp .Add) vAdd:=by
 refine⟨_,op_add.or (op_add_str.or (op_catP.or q2n)),λB H x y rx ry Q Qd s px py h k=>?_⟩
 unfold vAdd at h
 split at h
 ·rename_i i j e1 e2
  exact .inl ⟨i,j,px.scal (by rw[e1];rfl),py.scal (by rw[e2];rfl),k _ _ B H (.refl s) (repV rfl) h⟩
 ·rename_i i j e1 e2
  exact .inr (.inl ⟨i,j,px.scal (by rw[e1];rfl),py.scal (by rw[e2];rfl),h.1,k _ _ B H (.refl s) (repV rfl) h.2⟩)
 ·rename_i ds es e1 e2
  obtain⟨a,xs,rfl,h1,r1⟩:=px.tup e1
  obtain⟨b,ys,rfl,h2,r2⟩:=py.tup e2
  refine .inr (.inr (.inl ⟨a,b,xs,ys,rfl,rfl,s.sqT h1.sq,s.sqT h2.sq,by rw[←r1.length,←r2.length];exact h.1,λz=>?_,λ_ z=>?_,λ_ _ p hp=>?_⟩))
  ·refine k _ _ B H (.refl s) ?_ h.2
   show Rep X.K B (.tup (ds++es)) _
   have e:ds=[]:=List.eq_nil_of_length_eq_zero (by rw[r1.length,z];rfl)
   unfold Rep
   exact⟨b,ys,rfl,by rw[e];exact h2,by rw[e];exact r2⟩
  ·refine k _ _ B H (.refl s) ?_ h.2
   show Rep X.K B (.tup (ds++es)) _
   have e:es=[]:=List.eq_nil_of_length_eq_zero (by rw[r2.length,z];rfl)
   unfold Rep
   exact⟨a,xs,rfl,by rw[e,List.append_nil];exact h1,by rw[e,List.append_nil];exact r1⟩
  ·exact k (.val (.tup (ds++es))) _ (upd B p (.tup (xs++ys))) _ (.new s hp) (qjx (r1.append r2) (s.free hp)) h.2
 ·rename_i ds es e1 e2
  obtain⟨a,xs,rfl,h1,r1⟩:=px.lst s e1
  obtain⟨b,ys,rfl,h2,r2⟩:=py.lst s e2
  exact .inr (.inr (.inr ⟨a,b,xs,ys,rfl,rfl,h1,h2,by rw[←r1.length,←r2.length];exact h.1,λp hp=>k (.own (.lst (ds++es))) _ B _ (.grow s (qan hp _)) ⟨p,rfl,hp,s.free hp,qbr (r1.append r2)⟩ h.2⟩))
 ·exact h.elim
def vI2(C:Int->Int->Prop)(f:Int->Int->D)(rx ry:R)(Q:R->Prop):Prop:=match rx.d,ry.d with
|.int i,.int j=>C i j/\Q (.val (f i j))
|_,_=>False
def vI2'(f:Int->Int->D)(rx ry:R)(Q:R->Prop):Prop:=match rx.d,ry.d with
|.int i,.int j=>Q (.val (f i j))
|_,_=>False
theorem qwy{g:Value->Value->Sem Value}{C:Int->Int->Prop}{f:Int->Int->D}{f':Int->Int->V}(hf:∀i j,dV (f i j)=some (f' i j))(h:OpR X g (rI C f')):VO X g (vI2 C f):=by
 refine⟨_,h,λB H x y rx ry Q Qd s px py h k=>?_⟩
 unfold vI2 at h
 split at h
 ·rename_i i j e1 e2
  exact⟨i,j,px.scal (by rw[e1];rfl),py.scal (by rw[e2];rfl),h.1,k _ _ B H (.refl s) (repV (hf i j)) h.2⟩
 ·exact h.elim
theorem qya{g:Value->Value->Sem Value}{f:Int->Int->D}{f':Int->Int->V}(hf:∀i j,dV (f i j)=some (f' i j))(h:OpR X g (rI0 f')):VO X g (vI2' f):=by
 refine⟨_,h,λB H x y rx ry Q Qd s px py h k=>?_⟩
 unfold vI2' at h
 split at h
 ·rename_i i j e1 e2
  exact⟨i,j,px.scal (by rw[e1];rfl),py.scal (by rw[e2];rfl),k _ _ B H (.refl s) (repV (hf i j)) h⟩
 ·exact h.elim
abbrev vSub:=vI2' λi j=>.int (i-j)
abbrev vMul:=vI2 CMul λi j=>.int (i*j)
abbrev vDiv:=vI2 CDiv λi j=>.int (i / j)
abbrev vMod:=vI2 (λ_ j=>0<j) λi j=>.int (i%j)
abbrev vPow:=vI2 CPow λi j=>.int (i ^ j.toNat)
abbrev vLt:=vI2' λi j=>.bl (decide (i<j))
abbrev vLe:=vI2' λi j=>.bl (decide (i<=j))
abbrev vGt:=vI2' λi j=>.bl (decide (j<i))
abbrev vGe:=vI2' λi j=>.bl (decide (j<=i))
theorem qt8:VO X (binaryOp .Mult) vMul:=qwy (λ_ _=>rfl) q2q
theorem qiy:VO X (binaryOp .FloorDiv) vDiv:=qwy (λ_ _=>rfl) qzj
theorem qc9:VO X (binaryOp .Mod) vMod:=qwy (λ_ _=>rfl) q2p
theorem qyb:VO X (binaryOp .Pow) vPow:=qwy (λ_ _=>rfl) q2s
theorem qt7:VO X (compareOp .Lt) vLt:=qya (λ_ _=>rfl) q43
theorem q4m:VO X (compareOp .Gt) vGt:=qya (λ_ _=>rfl) q42
def vEq(rx ry:R)(Q:R->Prop):Prop:=cmpD rx.d ry.d=true/\depD rx.d<=50/\Q (.val (.bl (eqD rx.d ry.d)))
theorem qd0(hu:X.A.units+64<cLine):VO X (compareOp .Eq) vEq :=
 ⟨_,q2o (by lia),λB H x y rx ry Q Qd s px py h k=>⟨rx.d,ry.d,px.rep s,py.rep s,h.1,h.2.1,k _ _ B H (.refl s) (repV rfl) h.2.2⟩⟩
def vNe(rx ry:R)(Q:R->Prop):Prop:=match dV rx.d,dV ry.d with
|some u,some w=>scal u w=true/\Q (.val (.bl (!decide (u=w))))
|_,_=>False
def vSlR(rx:R)(lo hi:Option Int)(Q:R->Prop):Prop:=match rx.d with
|.str z=>z.length<=sizeLine/\Q (.val (.str (Txt.slice z lo hi)))
|.tup ds=>Q (.val (.tup (cutL ds lo hi)))
|.lst ds=>Q (.own (.lst (cutL ds lo hi)))
|.scr ns=>Q (.own (.lst ((cutL ns lo hi).map D.int)))
|_=>False
abbrev TVO:=VSt->(Option Int->Prop)->Prop
def qcu:TVO:=λ_ Q=>Q none
def qdk(te:TV):TVO:=λτ Q=>te τ λr=>match r.d with
|.int i=>Q (some i)
|_=>False
def RfOp(K:PySem.W.Frag)(to:TO)(t:TVO):Prop:=∀(H0 B H:Hp) (τ:VSt) (σ:St) (Q:Option Int->Hp->Prop) (Qd:Option Int->Prop),Same B H->Slots K H0 B H τ σ->t τ Qd->(∀o B' H',Stp B H B' H'->Qd o->Q o H')->to σ H Q
structure VPt(X:Cx)(EX:St->XK)(e:Option Expr)(t:TVO):Prop where
 u:∃to,QO X e to/\RfOp X.K to t
variable {e:Expr} {te ta:TV} {es:List Expr} {lo hi:Option Expr} {tl th:TVO} {pos p p2 apos cpos:Pos} {x:Str}
theorem qd1:VPt X EX none qcu:=⟨_,q0m,λ_ B H _ _ _ _ s _ h k=>k _ B H (.refl s) h⟩
theorem qbp(h:VE X EX e te):VPt X EX (some e) (qdk te):=let ⟨_,a1,a2⟩:=h.u;⟨_,q0n a1,λH0 B H τ σ Q Qd s S h k=>a2 H0 B H τ σ _ _ s S h (xno λ_ q=>q) λr v B' H' p q h1=>by
  split at h1
  ·rename_i i e
   exact⟨i,q.pk.scal (by rw[e];rfl),k _ B' H' p h1⟩
  ·exact h1.elim⟩
def qd5(te:TV)(tl th:TVO):TV:=λτ Q=>te τ λr=>exR r Q (tl τ λl=>th τ λu=>vSlR r l u Q)
theorem qcz(he:VE X EX e te)(hl:VPt X EX lo tl)(hh:VPt X EX hi th):VE X EX (.Subscript e (.Slice lo hi none p2) pos) (qd5 te tl th) :=
 let ⟨_,a1,a2⟩:=he.u;let ⟨_,b1,b2⟩:=hl.u;let ⟨_,c1,c2⟩:=hh.u;⟨_,qv7 (sl_str.or (sl_tupP.or q04)) a1 b1 c1,λH0 B H τ σ Q Qd s S h xc k =>
  a2 H0 B H τ σ _ _ s S h xc λr v B1 H1 p1 q1 h1=>b2 H0 B1 H1 τ σ _ _ p1.s (S.step p1) (q1.ok h1) λl B2 H2 p2 h2=>c2 H0 B2 H2 τ σ _ _ p2.s (S.step (p1.trans p2)) h2 λu B3 H3 p3 h3=>by
   have p12:=p1.trans p2
   have pp:=p12.trans p3
   have pk:=(q1.pk.step p2).step p3
   unfold vSlR at h3
   split at h3
   ·rename_i z ez
    cases pk.scal (z:=.str z) (by rw[ez];rfl)
    exact .inl ⟨z,rfl,h3.1,k _ _ B3 H3 pp (repV rfl) h3.2⟩
   ·rename_i ds ed
    obtain⟨a,xs,rfl,h1,r1⟩:=pk.tup ed
    refine .inr (.inl ⟨a,xs,rfl,p3.s.sqT h1.sq,λw=>?_,λw p hp=>?_⟩)
    ·refine k _ _ B3 H3 pp ?_ h3
     show Rep X.K B3 (.tup (cutL ds l u)) _
     unfold Rep
     have hc:cutL ds l u=ds:=by
      unfold cutL
      rw[r1.length,w.1,w.2,List.drop_zero,Nat.sub_zero,←r1.length,List.take_length]
     rw[hc]
     exact⟨a,xs,rfl,h1,r1⟩
    ·exact k (.val (.tup (cutL ds l u))) _ (upd B3 p (.tup (cutV xs l u))) _ (pp.trans (.new p3.s hp)) (qjx (r1.cut l u) (p3.s.free hp)) h3
   ·rename_i ds ed
    obtain⟨a,xs,rfl,h1,r1⟩:=pk.lst p3.s ed
    exact .inr (.inr ⟨a,xs,rfl,SqL.of h1,λp hp=>k (.own _) _ B3 _ (pp.trans (.grow p3.s (qan hp _))) ⟨p,rfl,pp.h.free hp,p3.s.free hp,qbr (r1.cut l u)⟩ h3⟩)
   ·rename_i ns en
    obtain⟨a,rfl,h1⟩:=pk.scr p3.s en
    refine .inr (.inr ⟨a,_,rfl,h1,λp hp=>k (.own _) _ B3 _ (pp.trans (.grow p3.s (qan hp _))) ⟨p,rfl,pp.h.free hp,p3.s.free hp,?_⟩ h3⟩)
    rw[qux]
    exact qbr (.ints _)
   ·exact h3.elim⟩
def vIxR(rx ry:R)(Q:R->Prop):Prop:=match rx.d,ry.d with
|.str z,.int i=>z.length<=sizeLine/\∃c,atI z.cps.toList i=some c/\Q (.val (.str ⟨#[c]⟩))
|.tup ds,.int i=>∃d,atI ds i=some d/\Q (.val d)
|.lst ds,.int i=>∃d,atI ds i=some d/\Q (.val d)
|.scr ns,.int i=>∃n,atI ns i=some n/\Q (.val (.int n))
|_,_=>False
theorem qap:VX X vIxR:=by
 refine⟨_,ix_str.or (ix_tup.or qy4),λB H x y rx ry Q Qd s px py h k=>?_⟩
 unfold vIxR at h
 split at h
 ·rename_i z i e1 e2
  obtain⟨hz,c,hc,q⟩:=h
  exact .inl ⟨z,i,c,px.scal (by rw[e1];rfl),py.scal (by rw[e2];rfl),hz,hc,k _ _ B H (.refl s) (repV rfl) q⟩
 ·rename_i ds i e1 e2
  obtain⟨d,hd,q⟩:=h
  obtain⟨a,xs,rfl,h1,r1⟩:=px.tup e1
  obtain⟨w,hw,rw'⟩:=r1.atI hd
  exact .inr (.inl ⟨a,xs,i,w,rfl,py.scal (by rw[e2];rfl),s.sqT h1.sq,hw,k (.val d) _ B H (.refl s) rw' q⟩)
 ·rename_i ds i e1 e2
  obtain⟨d,hd,q⟩:=h
  obtain⟨a,xs,rfl,h1,r1⟩:=px.lst s e1
  obtain⟨w,hw,rw'⟩:=r1.atI hd
  exact .inr (.inr ⟨a,xs,i,w,rfl,py.scal (by rw[e2];rfl),SqL.of h1,hw,k (.val d) _ B H (.refl s) rw' q⟩)
 ·rename_i ns i e1 e2
  obtain⟨n,hn,q⟩:=h
  obtain⟨a,rfl,h1⟩:=px.scr s e1
  exact .inr (.inr ⟨a,_,i,_,rfl,py.scal (by rw[e2];rfl),h1,q1u hn,k _ _ B H (.refl s) (repV rfl) q⟩)
 ·exact h.elim
def vLen(rx:R)(Q:R->Prop):Prop:=match rx.d with
|.str z=>z.length<=sizeLine/\Q (.val (.int z.length))
|.tup ds=>Q (.val (.int ds.length))
|.lst ds=>Q (.val (.int ds.length))
|.scr ns=>Q (.val (.int ns.length))
|_=>False
theorem qb2:VF X (.builtin "len") vLen:=by
 refine⟨_,call_len_str.or qkq,λB H x rx Q Qd s px h k=>?_⟩
 unfold vLen at h
 split at h
 ·rename_i z e1
  exact .inl ⟨z,by rw[px.scal (z:=.str z) (by rw[e1];rfl)],h.1,k _ _ B H (.refl s) (repV rfl) h.2⟩
 ·rename_i ds e1
  obtain⟨a,xs,rfl,h1,r1⟩:=px.tup e1
  exact .inr ⟨a,xs,rfl,.inr (s.sqT h1.sq),k _ _ B H (.refl s) (repV rfl) (by rw[r1.length] at h;exact h)⟩
 ·rename_i ds e1
  obtain⟨a,xs,rfl,h1,r1⟩:=px.lst s e1
  exact .inr ⟨a,xs,rfl,.inl (SqL.of h1),k _ _ B H (.refl s) (repV rfl) (by rw[r1.length] at h;exact h)⟩
 ·rename_i ns e1
  obtain⟨a,rfl,h1⟩:=px.scr s e1
  exact .inr ⟨a,_,rfl,.inl h1,k (.val (.int ns.length)) _ B H (.refl s) (by rw[List.length_map];exact repV rfl) h⟩
 ·exact h.elim
def qif(rx:R)(Q:R->Prop):Prop:=match rx.d with
|.tup ds=>Q (.own (.lst ds))
|.lst ds=>Q (.own (.lst ds))
|.scr ns=>Q (.own (.lst (ns.map D.int)))
|_=>False
theorem qgj:VF X (.type "list") qif:=by
 refine⟨_,qks,λB H x rx Q Qd s px h k=>?_⟩
 unfold qif at h
 split at h
 ·rename_i ds e1
  obtain⟨a,xs,rfl,h1,r1⟩:=px.tup e1
  exact⟨a,xs,rfl,.inr (s.sqT h1.sq),λp hp=>k (.own _) _ B _ (.grow s (qan hp _)) ⟨p,rfl,hp,s.free hp,qbr r1⟩ h⟩
 ·rename_i ds e1
  obtain⟨a,xs,rfl,h1,r1⟩:=px.lst s e1
  exact⟨a,xs,rfl,.inl (SqL.of h1),λp hp=>k (.own _) _ B _ (.grow s (qan hp _)) ⟨p,rfl,hp,s.free hp,qbr r1⟩ h⟩
 ·rename_i ns e1
  obtain⟨a,rfl,h1⟩:=px.scr s e1
  exact⟨a,_,rfl,.inl h1,λp hp=>k (.own _) _ B _ (.grow s (qan hp _)) ⟨p,rfl,hp,s.free hp,qbr (.ints ns)⟩ h⟩
 ·exact h.elim
def qx8(rx:R)(Q:R->Prop):Prop:=match rx.d with
|.tup ds=>Q (.val (.tup ds))
|.lst ds=>Q (.val (.tup ds))
|_=>False
def vStr(rx:R)(Q:R->Prop):Prop:=match rx.d with
|.int i=>i.natAbs.log2<1920/\Q (.val (.str (toString i)))
|_=>False
def vAll(g:List Bool->Bool)(rx:R)(Q:R->Prop):Prop:=∃bs:List Bool,rx.d=.lst (bs.map D.bl)/\Q (.val (.bl (g bs)))
inductive Ty5 where
|str|tuple|list|int|bool
def Ty5.nm:Ty5->String
|.str=>"str"|.tuple=>"tuple"|.list=>"list"|.int=>"int"|.bool=>"bool"
def isTy:Ty5->D->Option Bool
|_,.non=>some false
|c,.bl _=>some (match c with|.bool=>true|.int=>true|_=>false)
|c,.int _=>some (match c with|.int=>true|_=>false)
|c,.str _=>some (match c with|.str=>true|_=>false)
|c,.tup _=>some (match c with|.tuple=>true|_=>false)
|c,.lst _=>some (match c with|.list=>true|_=>false)
|_,_=>none
def nmTy:D->String
|.non=>"NoneType"|.bl _=>"bool"|.int _=>"int"|.str _=>"str"|.tup _=>"tuple"|_=>"list"
theorem qvc{d:D}{c:Ty5}{b:Bool}(h:isTy c d=some b):PySem.W.kitOne K (.type (nmTy d)) (.type c.nm)=some b:=by
 cases d<;>cases c<;>first|(cases h;with_unfolding_all rfl;done)|(cases h;exact qvd;done)|(cases h;done)
theorem qu9{pins:List (Addr×Obj)}{s:Shared}{σ:St}{H:Hp}{v:V}{u:Value}{d:D}{c:Ty5}{b:Bool}{A:Around}{Q:Value->Shared->Prop}{E:Value->Shared->Prop}(I:Inv X pins σ H s)(rx:RelV v u)(h:Rep X.K H d v)(e:isTy c d=some b)
  (q:∀tk,Q (.bool b) { s with toks:=tk }):wpAny (model X.prog X.w) A (call (.builtin "isinstance") [u,.type c.nm]) Q E s:=by
 have kt:=qvc (K:=X.K) e
 cases d with
|non=>unfold Rep at h;subst h;exact qee I rx .non kt q
|bl b=>unfold Rep at h;subst h;exact qee I rx (.bl _) kt q
|int b=>unfold Rep at h;subst h;exact qee I rx (.int _) kt q
|str b=>unfold Rep at h;subst h;exact qee I rx (.str _) kt q
|tup ds =>
  unfold Rep at h
  obtain⟨a,xs,rfl,ha,_⟩:=h
  cases (show u=Value.ref a from rx)
  obtain⟨its,_,⟨o,h1,h2,_⟩,_⟩:=I.tuple ha.sq
  exact PySem.W.kia_one PySem.W.kitx_tuple I.kIn ⟨o,h1,h2⟩ kt (λz=>nomatch z) q
|lst ds =>
  unfold Rep at h
  obtain⟨a,xs,rfl,ha,_⟩:=h
  exact qee I rx (.lst ha) kt q
|dT _ _=>cases e
|dK _ _=>cases e
|scr _=>cases e
|kt _=>cases e
|exc _=>cases e
|io _ _=>cases e
|ioT _ _ _=>cases e
theorem qus(c:Ty5):CallR X (.builtin "isinstance") (λxs H Q=>∃x d b,xs=[x,.ty c.nm]/\Rep X.K H d x/\isTy c d=some b/\Q (.bl b) H):=by
 intro pins s σ H xs us Q I r h
 obtain⟨x,d,b,rfl,ty,e,q⟩:=h
 obtain⟨u,v,rfl,ru,rv⟩:=vals2 r
 cases (show v=Value.type c.nm from rv)
 exact qu9 I ru ty e λtk=>⟨.bl b,H,I.tok tk,rfl,q⟩
def qj5(c:Ty5)(ta:TV):TV:=λτ Q=>ta τ λr=>exR r (λ_=>False) <| match isTy c r.d with
|some b=>Q (.val (.bl b))
|none=>False
theorem qgi{a:Expr}{pb:Pos}{y:Str}(c:Ty5)(hg:Gl X "isinstance")(hm:X.mg "isinstance" = none)(hgy:Gl X y)(hmy:X.mg y=none)(hby:bootBuiltins y=some (.type c.nm))(ha:VE X EX a ta)(hp:qa3 a=true:=by rfl)(hny:y≠"__name__" := by decide)(hdy:(y==("__debug__" : Str))=false:=by decide) :
  VE X EX (.Call (.Name "isinstance" p) [a,.Name y pb] [] pos) (qj5 c ta) :=
 let ⟨_,a1,a2⟩:=ha.u;⟨_,qcb (qus c) hg hm PyProof.Rows.Boot.«isinstance» (qac a1 (qac (q0e (v:=.ty c.nm) hgy hmy hby rfl hny hdy) qej rfl) hp) (by rw[List.all_cons,hp];rfl),λH0 B H τ σ Q Qd s S h xc k=>a2 H0 B H τ σ _ _ s S h (xno λ_ q=>q) λr v B1 H1 p1 q1 h1=>by
   have h1:=q1.ok h1
   split at h1
   ·rename_i b eb
    exact⟨v,r.d,b,rfl,q1.pk.rep p1.s,eb,k _ _ B1 H1 p1 (repV rfl) h1⟩
   ·exact h1.elim⟩
end
end L2
namespace L2
open PySem PySem.Spec PyProof.Rows
section
variable {X:Cx} {EX:St->XK} {K:PySem.W.Frag} {B H B' H' H0 B0 B1 H1:Hp} {st:Stmt} {rest:List Stmt} {t u:TVS} {e a c o:Expr} {te ta:TV} {tT:TVT} {tA:TVA} {es:List Expr} {pos pos' p p2 apos cpos:Pos} {x:Str} {τ:VSt} {σ:St}
theorem Stp.base(p:Stp B0 H0 B1 H1)(q:Stp B1 H0 B' H'):Stp B0 H0 B' H':=⟨p.b.trans q.b,q.h,q.s,λa h=>(q.d a h).elim (p.d a) .inr⟩
theorem Stp.here(p:Stp B0 H0 B1 H1):Stp B1 H0 B1 H1:=⟨Same.refl _,p.h,p.s,λ_ h=>.inl h⟩
theorem EndsOk.base{Dv:VEnds}{Dh:Ends}(E:EndsOk K EX B0 H0 Dv Dh)(p:Stp B0 H0 B1 H1):EndsOk K EX B1 H0 Dv Dh :=
 ⟨λB H τ σ q=>E.nx B H τ σ (p.base q),λr v B H q=>E.rt r v B H (p.base q),λB H τ σ q=>E.bk B H τ σ (p.base q),λB H τ σ q=>E.ct B H τ σ (p.base q),λB H τ σ n C q=>E.xc B H τ σ n C (p.base q),λr v B H τ σ q=>E.ro r v B H τ σ (p.base q),λd v B H q=>E.rn d v B H (p.base q)⟩
def exS(τ:VSt)(Dv:VEnds):R->Prop->Prop
|.exc n,_=>Dv.xc τ n
|.val _,k=>k
|.own _,k=>k
|.peek _,k=>k
theorem RepR.okS{r:R}{v:V}{τ:VSt}{Dv:VEnds}{k:Prop}(h:RepR K B H0 H r v)(q:exS τ Dv r k):k:=by
 cases r with
|exc n=>exact h.elim
|val d=>exact q
|own d=>exact q
|peek d=>exact q
theorem EndsOk.raised{Dv:VEnds}{Dh:Ends}(E:EndsOk K EX B0 H0 Dv Dh)(p:Stp B0 H0 B H)(S:Slots K H0 B H τ σ):∀n C B' H',Stp B H B' H'->clsOf K n C->Dv.xc τ n->EX σ (.ref C) none H':=λn C B' H' q c h=>E.xc B' H' τ σ n C (p.trans q) (S.step q) c h
def qbv:TVS:=λDv τ=>Dv.nx τ
def vSeq(t u:TVS):TVS:=λDv τ=>t { Dv with nx:=u Dv } τ
theorem qay:VSs X EX [] qbv:=⟨_,q0q,λB0 H0 B H τ σ Dv Dh p S h E=>E.nx B H τ σ p S h⟩
theorem qai(h:VS X EX st t):VSs X EX [st] t:=let ⟨_,a1,a2⟩:=h.u;⟨_,qjv a1,a2⟩
theorem qad(h:VS X EX st t)(r:VSs X EX rest u):VSs X EX (st::rest) (vSeq t u) :=
 let ⟨_,a1,a2⟩:=h.u;let ⟨_,b1,b2⟩:=r.u;⟨_,qju a1 b1,λB0 H0 B H τ σ Dv Dh p S h E=>a2 B0 H0 B H τ σ _ _ p S h ⟨λB H τ σ p S h=>b2 B0 H0 B H τ σ _ _ p S h E,E.rt,E.bk,E.ct,E.xc,E.ro,E.rn⟩⟩
def vFrz(i:Nat)(t:TVS):TVS:=λDv τ=>t Dv (frz i τ)
def vIfS(c:TVT)(t u:TVS):TVS:=λDv τ=>c τ λb=>if b=true then t Dv τ else u Dv τ
theorem qb3{sa sb:List Stmt}(hc:VT X EX c tT)(ha:VSs X EX sa t)(hb:VSs X EX sb u):VS X EX (.If c sa sb pos) (vIfS tT t u) :=
 let ⟨_,c1,c2⟩:=hc.u;let ⟨_,a1,a2⟩:=ha.u;let ⟨_,b1,b2⟩:=hb.u;⟨_,q5j c1 a1 b1,λB0 H0 B H τ σ Dv Dh p S h E=>c2 H0 B H τ σ _ _ p.s S h λcb B' H' q hq=>by
  cases cb with
 |true=>exact iteT (a2 B0 H0 B' H' τ σ _ _ (p.trans q |> λz=>⟨z.b,z.h,z.s,z.d⟩) (S.step q) (by rw[if_pos rfl] at hq;exact hq) E)
 |  false=>exact iteF (b2 B0 H0 B' H' τ σ _ _ (p.trans q) (S.step q) (by rw[if_neg Bool.false_ne_true] at hq;exact hq) E)⟩
def vRet(te:TV):TVS:=λDv τ=>te τ λr=>exS τ Dv r (pubR r λ_=>Dv.rt r)
theorem qaz(h:VE X EX e te):VS X EX (.Return (some e) pos) (vRet te) :=
 let ⟨_,a1,a2⟩:=h.u;⟨_,qlm a1,λB0 H0 B H τ σ Dv Dh p S h E=>a2 H0 B H τ σ _ _ p.s S h (E.raised p S) λr v B' H' q hr hq=>by
  cases r with
 |val d=>exact E.rt (.val d) v B' H' (p.trans q) hr hq
 |own d=>exact E.rt (.own d) v B' H' (p.trans q) (hr.back p.h) hq
 |peek d=>exact hq.elim
 |  exc n=>exact hr.elim⟩
def qns(i:Nat):TVS:=λDv τ=>match τ[i]? with
|some (some (.own d))=>Dv.rt (.own d)
|some (some (.val d))=>Dv.rt (.val d)
|_=>False
theorem qnx(i:Nat)(hN:X.N[i]?=some x:=by rfl)(hv:Vis X.env.scope x:=by first|exact Or.inl rfl|exact Or.inr (Or.inl rfl)|exact Or.inr (Or.inr rfl))(hd:(x==("__debug__" : Str))=false:=by decide)
  (hcd:(x==("__classdict__" : Str))=false:=by decide):VS X EX (.Return (some (.Name x pos')) pos) (qns i) :=
 ⟨_,qlm (qv i hN hv hd hcd),λB0 H0 B H τ σ Dv Dh p S h E=>by
  unfold qns at h
  split at h
  ·rename_i d e
   obtain⟨a,q,h0,hb,ow⟩:=S.own i d e
   exact⟨.ref a,q,E.rt (.own d) _ B H p ⟨a,rfl,h0,hb,ow⟩ h⟩
  ·rename_i d e
   obtain⟨v,q,rp⟩:=S.val i d e
   exact⟨v,q,E.rt (.val d) _ B H p rp h⟩
  ·exact h.elim⟩
def q4j:TVS:=λDv _=>Dv.rt (.val .non)
def q4h(te:TV):TVS:=λDv τ=>te τ λr=>exS τ Dv r (Dv.nx τ)
def vSet(i:Nat)(te:TV):TVS:=λDv τ=>te τ λr=>exS τ Dv r (pubR r λd=>Dv.nx (τ.set i (some (.val d))))
theorem qxz{i:Nat}{ee:TE}(h:RfE K EX ee te):RfS K EX (tAsg ee (qk0 i)) (vSet i te):=λB0 H0 B H τ σ Dv Dh p S hh E=>h H0 B H τ σ _ _ p.s S hh (E.raised p S) λr v B' H' q hr hq=>by
 obtain⟨d,B2,q2,_,rp,hd⟩:=pub q hr (hr.okS hq)
 exact E.nx B2 H' _ _ (p.trans q2) ((S.step q2).setVal i rp) hd
def qfz(i:Nat)(te:TV):TVS:=λDv τ=>te τ λr=>exS τ Dv r (pubR r λ_=>Dv.nx (τ.set i (some r)))
theorem q00{i:Nat}{ee:TE}(h:RfE K EX ee te):RfS K EX (tAsg ee (qk0 i)) (qfz i te):=λB0 H0 B H τ σ Dv Dh p S hh E=>h H0 B H τ σ _ _ p.s S hh (E.raised p S) λr v B' H' q hr hq=>by
 cases r with
|val d=>exact E.nx B' H' _ _ (p.trans q) ((S.step q).setVal i hr) hq
|own d =>
  obtain⟨a,rfl,h0,hb,ow⟩:=hr
  refine E.nx B' H' _ _ (p.trans q) ((S.step q).setOwn i (p.h.free h0) hb ow λj e he z=>?_) hq
  obtain⟨c,qc,_,_,oc⟩:=S.own j e he
  rw[z] at qc
  cases qc
  exact oc.some h0
|peek d=>exact hq.elim
|exc n=>exact hr.elim
theorem qau{i:Nat}(hN:X.N.Nodup)(hi:X.N[i]?=some x)(hx:Loc X.env.scope x)(h:VE X EX e te)(hs:swapsWith e (some (.Name x pos')) pos.line X.env=pure false:=by rfl)
  (hf:X.fn x=true\/X.env.scope.names.lookup x=some .local:=by first|exact .inl rfl|exact .inr rfl|assumption):VS X EX (.Assign [.Name x pos'] e pos) (vSet i te):=let ⟨_,a1,a2⟩:=h.u;⟨_,qth hN hi hx a1 hs hf,qxz a2⟩
theorem qdl{i:Nat}(hN:X.N.Nodup)(hi:X.N[i]?=some x)(hx:Loc X.env.scope x)(h:VE X EX e te)(hs:swapsWith e (some (.Name x pos')) pos.line X.env=pure false:=by rfl)
  (hf:X.fn x=true\/X.env.scope.names.lookup x=some .local:=by first|exact .inl rfl|exact .inr rfl|assumption):VS X EX (.Assign [.Name x pos'] e pos) (qfz i te):=let ⟨_,a1,a2⟩:=h.u;⟨_,qth hN hi hx a1 hs hf,q00 a2⟩
theorem q1g{i:Nat}(hN:X.N.Nodup)(hi:X.N[i]?=some x)(hx:Loc X.env.scope x)(h:VC X EX e te)(hs:swapsWith e (some (.Name x pos')) pos.line X.env=pure true:=by rfl)
  (hf:X.fn x=true\/X.env.scope.names.lookup x=some .local:=by first|exact .inl rfl|exact .inr rfl|assumption):VS X EX (.Assign [.Name x pos'] e pos) (vSet i te):=let ⟨_,a1,a2⟩:=h.u;⟨_,q0p hN hi hx a1 hs hf,qxz a2⟩
def qbl(i:Nat):TVG:=λd τ Q=>Q (τ.set i (some (.val d)))
theorem q2i{i:Nat}{d:D}{v:V}:Kp τ σ (τ.set i (some (.val d))) (σ.set i (some v)):=λj e h=>by
 rcases qbk h with ⟨rfl,z,l⟩|⟨n,h⟩
 ·cases z
 ·exact⟨h,List.getElem?_set_ne n⟩
theorem Kp.trans{τ1 τ2 τ3:VSt}{σ1 σ2 σ3:St}(h1:Kp τ1 σ1 τ2 σ2)(h2:Kp τ2 σ2 τ3 σ3):Kp τ1 σ1 τ3 σ3:=λj e h=>let ⟨a,b⟩:=h2 j e h;let ⟨c,d⟩:=h1 j e a;⟨c,b.trans d⟩
theorem qbd{i:Nat}(hN:X.N.Nodup)(hi:X.N[i]?=some x)(hx:Loc X.env.scope x)(hf:X.fn x=true\/X.env.scope.names.lookup x=some .local:=by first|exact .inl rfl|exact .inr rfl|assumption):VG X (.Name x pos) (qbl i) :=
 ⟨_,qtg hN hi hx hf,λH0 B H τ σ v d Q Qd s S rp h k=>k _ _ (S.setVal i rp) q2i h⟩
def qqn:List D->VSt->(VSt->Prop)->Prop:=λds τ Q=>ds=[]/\Q τ
def qd6(g:TVG)(gs:List D->VSt->(VSt->Prop)->Prop):List D->VSt->(VSt->Prop)->Prop:=λds τ Q=>match ds with
|d::r=>g d τ λτ'=>gs r τ' Q
|[]=>False
theorem qnv:VGs X [] qqn:=⟨_,q0j,λH0 B H τ σ xs ds Q Qd s S rp h k=>by
 obtain⟨rfl,h⟩:=h
 unfold Reps at rp
 exact⟨rp,k τ σ S (λj e h=>⟨h,rfl⟩) h⟩⟩
theorem qc0{g:TVG}{gs:List D->VSt->(VSt->Prop)->Prop}(h1:VG X e g)(h2:VGs X es gs)(hs:(assignEach (e::es) X.env).map (·.2)=assign e X.env::(assignEach es X.env).map (·.2):=by rfl):VGs X (e::es) (qd6 g gs) :=
 let ⟨_,a1,a2⟩:=h1.u;let ⟨_,b1,b2⟩:=h2.u;⟨_,qv8 a1 b1 hs,λH0 B H τ σ xs ds Q Qd s S rp h k=>by
  cases ds with
 |nil=>exact h.elim
 |cons d ds =>
   unfold Reps at rp
   obtain⟨v,r,rfl,r1,r2⟩:=rp
   exact⟨v,r,rfl,a2 H0 B H τ σ v d _ _ s S r1 h λτ' σ' S' kp h'=>b2 H0 B H τ' σ' r ds _ _ s S' r2 h' λτ2 σ2 S2 kp2 h2=>k τ2 σ2 S2 (kp.trans kp2) h2⟩⟩
def qqo(n:Nat)(gs:List D->VSt->(VSt->Prop)->Prop):TVG:=λd τ Q=>match d with
|.tup ds=>ds.length=n/\gs ds τ Q
|_=>False
theorem qt6{k:Nat}{gs:List D->VSt->(VSt->Prop)->Prop}{n:Nat}(hc:X.calm=true)(h:VGs X es gs)(hn:(assignEach es X.env).length=n:=by rfl)(hst:(assignEach es X.env).findIdx? (·.1)=none:=by rfl):VG X (.Tuple es k pos) (qqo n gs) :=
 let ⟨_,a1,a2⟩:=h.u;⟨_,q3m hc a1 hn hst,λH0 B H τ σ v d Q Qd s S rp h k=>by
  cases d with
 |tup ds =>
   unfold Rep at rp
   obtain⟨a,xs,rfl,ha,r⟩:=rp
   exact⟨a,xs,rfl,s.sqT ha.sq,by rw[←r.length];exact h.1,a2 H0 B H τ σ xs ds _ _ s S r h.2 k⟩
 |  _=>exact h.elim⟩
def vAsg(te:TV)(g:TVG):TVS:=λDv τ=>te τ λr=>exS τ Dv r (pubR r λd=>g d τ Dv.nx)
end
section
variable {X:Cx} {tg l e:Expr}
def iAny(K:PySem.W.Frag)(tl:TE):TI:=λσ H R=>tl σ H λx H1=>(∃a,x=.ref a/\(∃xs,SqL K H1 a xs)/\R (Itl K a) H1)\/(∃a,x=.ref a/\(∃xs,SqT K H1 a xs)/\R (Itt K a) H1)\/∃z,x=.str z/\R (Its z) H1
theorem q26{tl:TE}(hl:PE X l tl):PI X tg l (iAny X.K tl):=by
 intro pins s σ H R I h
 refine thn (hl pins s σ H _ I h) λv s1 ⟨x,H1,I1,r1,q1⟩=>?_
 rcases q1 with ⟨a,rfl,⟨xs,hq⟩,q⟩|⟨a,rfl,⟨xs,hq⟩,q⟩|⟨z,rfl,q⟩
 ·cases r1
  obtain⟨its,rv,pl,hz⟩:=I1.list hq
  refine wpAny_pyIter_list pl.isList ⟨s1.heap.objs.size,[s1.heap.objs.size],_,_,H1,rfl,I1.kept (t':=s1.toks) λb o e=>Heap.get?_push_of_some _ e,qtx a _,⟨_,Heap.get?_push_size _ rfl,rfl,rfl⟩,λb hb=>?_,q⟩
  cases (by simpa using hb:b=s1.heap.objs.size)
  exact I1.fpOk (Nat.le_refl _) (I1.hok.fresh (Nat.le_refl _))
 ·cases r1
  obtain⟨its,rv,pl,hz⟩:=I1.tuple hq
  refine wpAny_pyIter_tuple (show s1.heap.IsTuple a its.toArray from pl) ⟨s1.heap.objs.size,[s1.heap.objs.size],_,_,H1,rfl,I1.kept (t':=s1.toks) λb o e=>Heap.get?_push_of_some _ e,qqk a _,⟨_,Heap.get?_push_size _ rfl,rfl,rfl⟩,λb hb=>?_,q⟩
  cases (by simpa using hb:b=s1.heap.objs.size)
  exact I1.fpOk (Nat.le_refl _) (I1.hok.fresh (Nat.le_refl _))
 ·obtain⟨t,rfl⟩:=r1
  have fp:∀b∈[s1.heap.objs.size],FpOk X pins H1 b:=λb hb=>by
   cases (by simpa using hb:b=s1.heap.objs.size)
   exact I1.fpOk (Nat.le_refl _) (I1.hok.fresh (Nat.le_refl _))
  cases ha:z.cps.all (·<128)
  ·exact wpAny_pyIter_wide ha ⟨s1.heap.objs.size,[s1.heap.objs.size],_,_,H1,rfl,I1.kept (t':=s1.toks) λb o e=>Heap.get?_push_of_some _ e,qty _ z t,⟨_,Heap.get?_push_size _ rfl,rfl,rfl⟩,fp,q⟩
  ·exact wpAny_pyIter_ascii ha ⟨s1.heap.objs.size,[s1.heap.objs.size],_,_,H1,rfl,I1.kept (t':=s1.toks) λb o e=>Heap.get?_push_of_some _ e,qqi _ z t,⟨_,Heap.get?_push_size _ rfl,rfl,rfl⟩,fp,q⟩
theorem q3n{tl:TE}(h:QE X e tl):QI X tg e (iAny X.K tl):=⟨q26 h.u⟩
end
section
variable {X:Cx} {EX:St->XK} {K:PySem.W.Frag} {B H B' H' H0 B0 B1 H1:Hp} {st:Stmt} {rest:List Stmt} {t u:TVS} {e a c o:Expr} {te ta:TV} {tT:TVT} {tA:TVA} {es:List Expr} {pos pos' p p2 apos cpos:Pos} {x:Str} {τ:VSt} {σ:St}
def qcr(te:TV):TVA:=λτ Q=>te τ λr=>excA r Q <| pubR r λd=>match d with
|.lst ds=>Q (.ok ds)
|.tup ds=>Q (.ok ds)
|.scr ns=>Q (.ok (ns.map D.int))
|.str z=>Q (.ok (z.cps.toList.map λc=>.str ⟨#[c]⟩))
|_=>False
theorem qoi{ad:Addr}{ds:List D}{xs:List V}(h:SqL K B ad xs)(r:Reps K B ds xs):ItOk K B (Itl K ad) ds:=λi B2 H sb s2=>by
 have s:=sb.trans s2
 refine⟨λd e=>?_,λe=>⟨xs,s.seq h,by rw[←r.length];exact List.getElem?_eq_none_iff.mp e⟩⟩
 obtain⟨w,hw,rw'⟩:=r.at e
 refine⟨⟨xs,w,s.seq h,hw⟩,λy H' q=>⟨B2,by rw[q.1];exact .refl s2,?_⟩⟩
 have:=q.2 xs (s.seq h)
 rw[hw] at this
 cases this
 exact rw'.same sb
theorem q2b{ad:Addr}{ds:List D}{xs:List V}(h:SqT K B ad xs)(r:Reps K B ds xs):ItOk K B (Itt K ad) ds:=λi B2 H sb s2=>by
 have s:=sb.trans s2
 refine⟨λd e=>?_,λe=>⟨xs,s.sqT h,by rw[←r.length];exact List.getElem?_eq_none_iff.mp e⟩⟩
 obtain⟨w,hw,rw'⟩:=r.at e
 refine⟨⟨xs,w,s.sqT h,hw⟩,λy H' q=>⟨B2,by rw[q.1];exact .refl s2,?_⟩⟩
 have:=q.2 xs (s.sqT h)
 rw[hw] at this
 cases this
 exact rw'.same sb
theorem q2a(z:Str):ItOk K B (Its z) (z.cps.toList.map λc=>.str ⟨#[c]⟩):=λi B2 H sb s2=>by
 have s:=sb.trans s2
 refine⟨λd e=>?_,λe=>?_⟩
 ·rw[List.getElem?_map] at e
  cases hc:z.cps.toList[i]? with
 |none=>rw[hc] at e;cases e
 |some ch =>
   rw[hc] at e
   cases e
   have hc':z.cps[i]?=some ch:=by simpa using hc
   refine⟨?_,λy H' q=>⟨B2,by rw[q.1];exact .refl s2,?_⟩⟩
   ·show i<z.cps.size
    exact(Array.getElem?_eq_some_iff.mp hc').1
   ·obtain⟨c2,h2,rfl⟩:=q.2
    rw[hc'] at h2
    cases h2
    exact qhs (d:=.str ⟨#[ch]⟩) rfl
 ·show z.cps.size<=i
  have:=List.getElem?_eq_none_iff.mp e
  simpa using this
theorem qdg{tg:Expr}(h:VE X EX e te):VI X EX tg e (qcr te) :=
 let ⟨_,a1,a2⟩:=h.u;⟨_,q3n a1,λH0 B H τ σ Q Qd s S h xc k=>a2 H0 B H τ σ _ _ s S h xc λr v B' H' q hr hq=>by
  obtain⟨d,B2,q2,_,rp,hd⟩:=pub q hr (hr.okA hq)
  split at hd
  ·unfold Rep at rp
   obtain⟨ad,xs,rfl,ha,r1⟩:=rp
   exact .inl ⟨ad,rfl,⟨xs,SqL.of (q2.s _ _ ha)⟩,k _ _ B2 H' q2 (qoi (SqL.of ha) r1) hd⟩
  ·unfold Rep at rp
   obtain⟨ad,xs,rfl,ha,r1⟩:=rp
   exact .inr (.inl ⟨ad,rfl,⟨xs,q2.s.sqT ha.sq⟩,k _ _ B2 H' q2 (q2b ha.sq r1) hd⟩)
  ·unfold Rep at rp
   obtain⟨ad,rfl,ha⟩:=rp
   exact .inl ⟨ad,rfl,⟨_,q2.s.seq ha⟩,k _ _ B2 H' q2 (qoi ha (.ints _)) hd⟩
  ·rename_i z
   unfold Rep at rp
   exact .inr (.inr ⟨z,rp,k _ _ B2 H' q2 (q2a z) hd⟩)
  ·exact hd.elim⟩
def rngL(lo:Int)(n:Nat):List D:=(List.range n).map λ(i:Nat)=>.int (lo+i)
theorem q19(lo:Int)(n:Nat):ItOk K B (Itr lo n) (rngL lo n):=λi B2 H sb s2=>by
 unfold rngL
 refine⟨λd e=>?_,λe=>?_⟩
 ·rw[List.getElem?_map] at e
  by_cases hi:i<n
  ·rw[List.getElem?_range hi] at e
   cases e
   exact⟨hi,λy H' q=>⟨B2,by rw[q.1];exact .refl s2,by rw[q.2];exact qhs (d:=.int (lo+(i:Nat))) rfl⟩⟩
  ·rw[List.getElem?_eq_none (by rw[List.length_range];lia)] at e
   cases e
 ·have:=List.getElem?_eq_none_iff.mp e
  rw[List.length_map,List.length_range] at this
  exact this
def qlz(te:TV):TVA:=λτ Q=>te τ λr=>match r.d with
|.int j=>-(2 ^ 62)<=j/\j<2 ^ 62/\Q (.ok (rngL 0 j.toNat))
|_=>False
theorem qh6{tg:Expr}(hg:Gl X "range")(hm:X.mg "range" = none)(h:VE X EX a ta)(hp:qa3 a=true:=by rfl):VI X EX tg (.Call (.Name "range" p) [a] [] pos) (qlz ta) :=
 let ⟨_,a1,a2⟩:=h.u;⟨_,q5i hg hm (qac a1 qej hp) hp,λH0 B H τ σ Q Qd s S h xc k=>a2 H0 B H τ σ _ _ s S h (xno λ_ q=>q) λr v B' H' q hr hq=>by
  split at hq
  ·rename_i j ej
   exact⟨j,by rw[hr.pk.scal (z:=.int j) (by rw[ej];rfl)],hq.1,hq.2.1,k _ _ B' H' q (q19 0 j.toNat) hq.2.2⟩
  ·exact hq.elim⟩
def q4k(ta tb:TV):TVA:=λτ Q=>ta τ λrx=>exR rx (λ_=>False) <| tb τ λry=>match rx.d,ry.d with
|.int i,.int j=>(-(2 ^ 62)<=i/\i<2 ^ 62/\-(2 ^ 62)<=j/\j<2 ^ 62)/\Q (.ok (rngL i (j-i).toNat))
|_,_=>False
def forW(g:TVG)(tb:TVS)(Dv:VEnds):List D->VSt->Prop
|[],τ=>Dv.nx τ
|d::ds,τ=>g d τ λτ'=>tb { Dv with nx:=forW g tb Dv ds,ct:=forW g tb Dv ds,bk:=Dv.nx } τ'
def exI(τ:VSt)(Dv:VEnds):AR->(List D->Prop)->Prop
|.ok ds,k=>k ds
|.exc n,_=>Dv.xc τ n
def vFor(vi:TVA)(g:TVG)(tb:TVS):TVS:=λDv τ=>vi τ λa=>exI τ Dv a λds=>forW g tb Dv ds τ
theorem q3w{wi:TI}{g:TG}{tb:TS}{vi:TVA}{gv:TVG}{bv:TVS}(hi:RfI K EX wi vi)(hg:RfG K g gv)(hb:RfS K EX tb bv):RfS K EX (tFor wi g tb) (vFor vi gv bv):=λB0 H0 B H τ σ Dv Dh p S h E =>
 hi H0 B H τ σ _ _ p.s S h (E.raised p S) λJ ds B1 H1 q ok hw=>by
  have pq:=p.trans q
  have E1:=E.base pq
  refine⟨λi m σ H=>m=ds.length-i/\i<=ds.length/\∃B2 τ,Stp B1 H0 B2 H/\Slots K H0 B2 H τ σ/\forW gv bv Dv (ds.drop i) τ,⟨ds.length,by lia,Nat.zero_le _,B1,τ,pq.here,S.step q,hw⟩,?_⟩
  rintro i m σ2 H2 ⟨rfl,hi,B2,τ2,p2,S2,w⟩
  by_cases hlt:i<ds.length
  ·have ei:ds[i]?=some ds[i]:=List.getElem?_eq_getElem hlt
   rw[List.drop_eq_getElem_cons hlt] at w
   obtain⟨go,yl⟩:=(ok i B2 H2 p2.b p2.s).1 _ ei
   refine .inr ⟨go,λσ' H'=>∃B2 τ,Stp B1 H0 B2 H'/\Slots K H0 B2 H' τ σ'/\forW gv bv Dv (ds.drop (i+1)) τ,λσ' H' ⟨B3,τ3,a1,a2,a3⟩=>⟨ds.length-(i+1),by lia,rfl,by lia,B3,τ3,a1,a2,a3⟩,λy H' hy=>?_⟩
   obtain⟨B3,q3,rp⟩:=yl y H' hy
   refine hg H0 B3 H' τ2 σ2 y _ _ _ q3.s (S2.step q3) rp w λτ' σ' S' _ h'=>?_
   exact hb B1 H0 B3 H' τ' σ' _ _ (p2.trans q3) S' h' ⟨λB H τ σ a1 a2 a3=>⟨B,τ,a1,a2,a3⟩,E1.rt,λB H τ σ a1 a2 a3=>E1.nx B H τ σ a1 a2 a3,λB H τ σ a1 a2 a3=>⟨B,τ,a1,a2,a3⟩,E1.xc,E1.ro,E1.rn⟩
  ·have ei:ds[i]?=none:=List.getElem?_eq_none (by lia)
   rw[List.drop_eq_nil_of_le (by lia)] at w
   exact .inl ⟨(ok i B2 H2 p2.b p2.s).2 ei,E1.nx B2 H2 τ2 σ2 p2 S2 w⟩
theorem qd8{tg iter:Expr}{body:List Stmt}{vi:TVA}{g:TVG}(hp:PassesOwn (model X.prog X.w) X.A X.env X.xe)(hc:X.calm=true)(hi:VI X EX tg iter vi)(hg:VG X tg g)(hb:VSs X EX body t)
  (hs:∀x,foldedSetIterable iter X.env x=pure x:=by intro _;rfl):VS X EX (.For tg iter body [] pos) (vFor vi g t) :=
 let ⟨_,a1,a2⟩:=hi.u;let ⟨_,b1,b2⟩:=hg.u;let ⟨_,c1,c2⟩:=hb.u;⟨_,qxt hp hc a1 b1 c1 hs,q3w a2 b2 c2⟩
theorem qj8:VFs X EX [] (λ_ Q=>Q true):=⟨_,q0k,λH0 B H τ σ Y N Qd s S h k=>by have:=k true B H (.refl s) h;rw[if_pos rfl] at this;exact this⟩
theorem qt5(h:VT X EX c tT):VFs X EX [c] tT:=let ⟨_,a1,a2⟩:=h.u;⟨_,q0l a1,λH0 B H τ σ Y N Qd s S h k=>a2 H0 B H τ σ _ _ s S h k⟩
def qkt(τ:VSt)(k:Nat)(g:TVG)(ti:TVT)(te:TV)(Q:R->Prop):List D->List D->Prop
|[],acc=>Q (.own (.lst acc))
|d::ds,acc=>g d (τ++List.replicate k none) λτ2=>(τ2.take τ.length=τ/\τ2.length=τ.length+k)/\ti τ2 λb=>if b=true then te τ2 λr=>pubR r λd'=>acc.length<sizeLine/\qkt τ k g ti te Q ds (acc++[d']) else qkt τ k g ti te Q ds acc
def qie(vi:TVA)(g:TVG)(ti:TVT)(te:TV)(k:Nat):TV:=λτ Q=>vi τ λa=>exA a Q λds=>qkt τ k g ti te Q ds []
theorem Slots.more(S:Slots K H0 B H τ σ)(k:Nat):Slots K H0 B H (τ++List.replicate k none) (σ++List.replicate k none):=by
 have get:∀(i:Nat) (r:R),(τ++List.replicate k none)[i]?=some (some r)->τ[i]?=some (some r)/\(σ++List.replicate k (none:Option V))[i]?=σ[i]?:=λi r h=>by
  by_cases l:i<τ.length
  ·rw[List.getElem?_append_left l] at h
   exact⟨h,List.getElem?_append_left (by rw[S.len];exact l)⟩
  ·rw[List.getElem?_append_right (by lia)] at h
   by_cases l2:i-τ.length<k
   ·rw[List.getElem?_replicate_of_lt l2] at h;cases h
   ·rw[List.getElem?_eq_none (by rw[List.length_replicate];lia)] at h;cases h
 refine⟨by rw[List.length_append,List.length_append,S.len,List.length_replicate,List.length_replicate],λi d h=>?_,λi d h=>?_,λi d h=>?_,λi j d e a h1 h2 h3 h4=>?_⟩
 ·obtain⟨g1,g2⟩:=get i _ h
  rw[g2]
  exact S.val i d g1
 ·obtain⟨g1,g2⟩:=get i _ h
  rw[g2]
  exact S.fz i d g1
 ·obtain⟨g1,g2⟩:=get i _ h
  rw[g2]
  exact S.own i d g1
 ·obtain⟨g1,g2⟩:=get i _ h1
  obtain⟨g3,g4⟩:=get j _ h2
  rw[g2] at h3
  rw[g4] at h4
  exact S.sep i j d e a g1 g3 h3 h4
theorem Slots.less{τ2:VSt}{k:Nat}(S:Slots K H0 B H τ2 σ)(h1:τ2.take τ.length=τ)(h2:τ2.length=τ.length+k):Slots K H0 B H (τ++List.replicate k none) σ/\∀(j:Nat) (e:D),(τ++List.replicate k none)[j]?=some (some (R.own e))->τ2[j]?=some (some (R.own e)):=by
 have get:∀(i:Nat) (r:R),(τ++List.replicate k none)[i]?=some (some r)->τ2[i]?=some (some r):=λi r h=>by
  by_cases l:i<τ.length
  ·rw[List.getElem?_append_left l,←h1,List.getElem?_take_of_lt l] at h
   exact h
  ·rw[List.getElem?_append_right (by lia)] at h
   by_cases l2:i-τ.length<k
   ·rw[List.getElem?_replicate_of_lt l2] at h;cases h
   ·rw[List.getElem?_eq_none (by rw[List.length_replicate];lia)] at h;cases h
 exact⟨⟨by rw[S.len,h2,List.length_append,List.length_replicate],λi d h=>S.val i d (get i _ h),λi d h=>S.fz i d (get i _ h),λi d h=>S.own i d (get i _ h),λi j d e a q1 q2=>S.sep i j d e a (get i _ q1) (get j _ q2)⟩,λj e=>get j _⟩
theorem Slots.heap(S:Slots K H0 B H τ σ)(h:∀(i:Nat) (d:D) (a:Addr),τ[i]?=some (some (R.own d))->σ[i]?=some (some (.ref a))->H' a=H a):Slots K H0 B H' τ σ :=
 ⟨S.len,S.val,S.fz,λi d e=>let ⟨a,q1,q2,q3,q4⟩:=S.own i d e;⟨a,q1,q2,q3,q4.step (Same.refl _) (h i d a e q1)⟩,S.sep⟩
abbrev EX0:St->XK:=λ_ _ _ _=>False
theorem q0z{wi:TI}{g:TG}{ti:TF}{ee:TE}{vi:TVA}{gv:TVG}{tv:TVT}{k:Nat}(hi:RfI K EX wi vi)(hg:RfG K g gv)(hf:RfF K ti tv)(he:RfE K EX0 ee te):RfE K EX (q1a wi g ti ee k) (qie vi gv tv te k):=λH0 B H τ σ Q Qd s S h xc kk =>
 hi H0 B H τ σ _ _ s S h xc λJ ds B1 H1 q ok hw p hp=>by
  have S1:=S.step q
  refine⟨λi m σ' xs H'=>m=ds.length-i/\i<=ds.length/\∃B2 acc,Stp B1 H1 B2 H'/\H' p=some (.lst xs)/\B2 p=none/\Reps K B2 acc xs/\Slots K H0 B2 H' (τ++List.replicate k none) σ' /\
    (∀(j:Nat) (e:D),(τ++List.replicate k none)[j]?=some (some (R.own e))->σ'[j]?≠some (some (.ref p)))/\qkt τ k gv tv te Qd (ds.drop i) acc,
   ⟨ds.length,by lia,Nat.zero_le _,B1,[],.grow q.s (qan hp _),qbc,q.s.free hp,.nil,(S1.more k).heap λi d a h1 h2=>?_,λj e h1 h2=>?_,hw⟩,?_⟩
  ·obtain⟨c,q1,_,_,ow⟩:=(S1.more k).own i d h1
   rw[h2] at q1
   cases q1
   exact qa4 λz=>ow.some (z▸hp)
  ·obtain⟨c,q1,_,_,ow⟩:=(S1.more k).own j e h1
   rw[h2] at q1
   cases q1
   exact ow.some hp
  rintro i m σ2 xs H2 ⟨rfl,hle,B2,acc,p2,hx,hb,rp,S2,fr,w⟩
  by_cases hlt:i<ds.length
  ·have ei:ds[i]?=some ds[i]:=List.getElem?_eq_getElem hlt
   rw[List.drop_eq_getElem_cons hlt] at w
   obtain⟨go,yl⟩:=(ok i B2 H2 p2.b p2.s).1 _ ei
   refine .inr ⟨go,λy H' hy=>?_⟩
   obtain⟨B3,q3,ry⟩:=yl y H' hy
   replace hb:=q3.keep hb (by rw[hx];exact λz=>by cases z) (by rw[hx];exact λ_ z=>by cases z)
   replace hx:=q3.h _ _ hx
   replace rp:=rp.same q3.b
   replace p2:=p2.trans q3
   replace S2:=S2.step q3
   clear q3
   refine hg H0 B3 H' _ σ2 y _ _ _ p2.s S2 ry w λτ3 σ3 S3 kp h3=>?_
   obtain⟨⟨e1,e2⟩,h3⟩:=h3
   obtain⟨S3',ow3⟩:=S3.less e1 e2
   have fr3:∀(j:Nat) (e:D),(τ++List.replicate k none)[j]?=some (some (R.own e))->σ3[j]?≠some (some (.ref p)):=λj e h z=>by
    obtain⟨g1,g2⟩:=kp j e (ow3 j e h)
    rw[g2] at z
    exact fr j e g1 z
   refine hf H0 B3 H' τ3 σ3 _ _ _ p2.s S3 h3 λb B4 H4 q4 hq4=>?_
   have hx4:H4 p=some (.lst xs):=q4.h _ _ hx
   have hb4:B4 p=none:=q4.keep hb (by rw[hx];exact λz=>by cases z) (by rw[hx];exact λ_ z=>by cases z)
   cases b with
  |false =>
    rw[if_neg Bool.false_ne_true] at hq4 ⊢
    exact⟨ds.length-(i+1),by lia,rfl,by lia,B4,acc,p2.trans q4,hx4,hb4,rp.same q4.b,S3'.step q4,fr3,hq4⟩
  |true =>
    rw[if_pos rfl] at hq4 ⊢
    refine he H0 B4 H4 τ3 σ3 _ _ q4.s (S3.step q4) hq4 (xno λ_ q=>q) λr v B5 H5 q5 hr hq5=>?_
    obtain⟨d',B6,q6,_,rd,hz,hq6⟩:=pub q5 hr hq5
    have hx6:H5 p=some (.lst xs):=q6.h _ _ hx4
    have hb6:B6 p=none:=q6.keep hb4 (by rw[hx4];exact λz=>by cases z) (by rw[hx4];exact λ_ z=>by cases z)
    have qq:=q4.trans q6
    refine⟨hx6,by rw[←rp.length];exact hz,ds.length-(i+1),by lia,rfl,by lia,B6,acc++[d'],(p2.trans qq).upd hp hb6,qbc,hb6,(rp.same qq.b).append (.one rd),(S3'.step qq).heap λj d a h1 h2=>?_,fr3,hq6⟩
    exact qa4 λz=>fr3 j d h1 (z▸h2)
  ·have ei:ds[i]?=none:=List.getElem?_eq_none (by lia)
   rw[List.drop_eq_nil_of_le (by lia)] at w
   exact .inl ⟨(ok i B2 H2 p2.b p2.s).2 ei,kk (.own (.lst acc)) _ B2 H2 (q.trans p2) ⟨p,rfl,q.h.free hp,hb,xs,hx,rp⟩ w⟩
def canE(K:PySem.W.Frag)(t:TV):TE:=λσ H Q=>∃H0 B τ Qd,Same B H/\Slots K H0 B H τ σ/\t τ Qd/\(∀n C B' H',Stp B H B' H'->clsOf K n C->Qd (.exc n)->EX0 σ (.ref C) none H')/\∀r v B' H',Stp B H B' H'->RepR K B' H H' r v->Qd r->Q v H'
def canG(K:PySem.W.Frag)(g:TVG):TG:=λv σ H Q=>∃H0 B τ d Qd,Same B H/\Slots K H0 B H τ σ/\Rep K B d v/\g d τ Qd/\∀τ' σ',Slots K H0 B H τ' σ'->Kp τ σ τ' σ'->Qd τ'->Q σ' H
def canF(K:PySem.W.Frag)(t:TVT):TF:=λσ H Y N=>∃H0 B τ Qd,Same B H/\Slots K H0 B H τ σ/\t τ Qd/\∀b B' H',Stp B H B' H'->Qd b->if b=true then Y H' else N H'
theorem VE.can(h:VE X EX0 e te):QE X e (canE X.K te):=let ⟨_,a1,a2⟩:=h.u;⟨λpins s σ H Q I ⟨H0,B,τ,Qd,q1,q2,q3,q4,q5⟩=>a1.u pins s σ H Q I (a2 H0 B H τ σ Q Qd q1 q2 q3 q4 q5)⟩
theorem VG.can{g:TVG}(h:VG X e g):QG X e (canG X.K g):=let ⟨_,a1,a2⟩:=h.u;⟨λpins s σ H v u Q I r ⟨H0,B,τ,d,Qd,q1,q2,q3,q4,q5⟩=>a1.u pins s σ H v u Q I r (a2 H0 B H τ σ v d Q Qd q1 q2 q3 q4 q5)⟩
theorem VFs.can(h:VFs X EX es tT):QF X es (canF X.K tT):=let ⟨_,a1,a2⟩:=h.u;⟨λpins s σ H Y N I ⟨H0,B,τ,Qd,q1,q2,q3,q4⟩=>a1.u pins s σ H Y N I (a2 H0 B H τ σ Y N Qd q1 q2 q3 q4)⟩
theorem qgh{tg iter elt:Expr}{ifs:List Expr}{csc:Scope}{NB M:List Str}{vi:TVA}{g:TVG}{ti:TVT}(hi:VI X EX tg iter vi)(hc:X.calm=true)(S:CompScope X.env.scope X.N NB M csc)
  (hg:∀cl C s₀ H₀ fp pn,VG (cxC X NB csc cl C s₀ H₀ fp pn) tg g) (hf:∀cl C s₀ H₀ fp pn,VFs (cxC X NB csc cl C s₀ H₀ fp pn) EX0 ifs ti)
  (he:∀cl C s₀ H₀ fp pn,VE (cxC X NB csc cl C s₀ H₀ fp pn) EX0 elt te) (hs:∀x,foldedSetIterable iter X.env x=pure x:=by intro _;rfl):VC X EX (.ListComp elt [⟨tg,iter,ifs,0⟩] csc pos) (qie vi g ti te M.length) :=
 let ⟨_,a1,a2⟩:=hi.u;⟨_,q0d (g:=canG X.K g) (ti:=canF X.K ti) (te:=canE X.K te) a1 hc S (λcl C s₀ H₀ fp pn=>(hg cl C s₀ H₀ fp pn).can) (λcl C s₀ H₀ fp pn=>(hf cl C s₀ H₀ fp pn).can) (λcl C s₀ H₀ fp pn=>(he cl C s₀ H₀ fp pn).can) hs,
  q0z a2 (λH0 B H τ σ v d Q Qd q1 q2 q3 q4 q5=>⟨H0,B,τ,d,Qd,q1,q2,q3,q4,q5⟩) (λH0 B H τ σ Y N Qd q1 q2 q3 q4=>⟨H0,B,τ,Qd,q1,q2,q3,q4⟩) (λH0 B H τ σ Q Qd q1 q2 q3 q4 q5=>⟨H0,B,τ,Qd,q1,q2,q3,q4,q5⟩)⟩
theorem vc_e(h:VC X EX e te):VE X EX e te:=let ⟨_,a1,a2⟩:=h.u;⟨_,qc_e a1,a2⟩
def ownL(τ:VSt)(i:Nat)(Q:List D->Prop):Prop:=match τ[i]? with
|some (some (.own (.lst ds)))=>Q ds
|_=>False
theorem qzl{i:Nat}{Q:List D->Prop}(h:ownL τ i Q):∃ds,τ[i]?=some (some (.own (.lst ds)))/\Q ds:=by
 unfold ownL at h
 split at h
 ·exact⟨_,by assumption,h⟩
 ·exact h.elim
theorem Slots.lst{i:Nat}{ds es:List D}{ad:Addr}{ys:List V}(S:Slots K H0 B H τ σ)(p:Stp B0 H0 B H)(hi:τ[i]?=some (some (.own (.lst ds))))(ha:σ[i]?=some (some (.ref ad)))(r:Reps K B es ys) :
  Stp B0 H0 B (L2.upd H ad (.lst ys))/\Slots K H0 B (L2.upd H ad (.lst ys)) (τ.set i (some (.own (.lst es)))) σ:=by
 obtain⟨c,q,h0,hb,_⟩:=S.own i _ hi
 rw[ha] at q
 cases q
 exact⟨p.upd h0 hb,S.upd hi ha (qbr r)⟩
theorem Slots.ownL{i:Nat}{Q:List D->Prop}(S:Slots K H0 B H τ σ)(h:L2.ownL τ i Q):∃ds ad xs,τ[i]?=some (some (.own (.lst ds)))/\Q ds/\σ[i]?=some (some (.ref ad))/\H ad=some (.lst xs)/\Reps K B ds xs:=by
 obtain⟨ds,e,q⟩:=qzl h
 obtain⟨a,q1,_,_,xs,q2,q3⟩:=S.own i _ e
 exact⟨ds,a,xs,e,q,q1,q2,q3⟩
def qfh(i:Nat)(te:TV):TVS:=λDv τ=>ownL τ i λds=>te τ λr=>exS τ Dv r (pubR r λd=>ds.length<sizeLine/\Dv.nx (τ.set i (some (.own (.lst (ds++[d]))))))
theorem qf1(i:Nat)(h:VE X EX e te)(hN:X.N[i]?=some x:=by rfl)(hv:Vis X.env.scope x:=by first|exact Or.inl rfl|exact Or.inr (Or.inl rfl)|exact Or.inr (Or.inr rfl))(hd:(x==("__debug__" : Str))=false:=by decide)
  (hcd:(x==("__classdict__" : Str))=false:=by decide) (hp:qa3 e=true:=by rfl)
  (hbase:attributeBase (.Name x p) "append" X.env (eval (.Name x p) X.env)=eval (.Name x p) X.env:=by rfl) (hline:(apos.endLine==cpos.line)=true:=by rfl)
  (hs:swapsWith (.Call (.Attribute (.Name x p) "append" apos) [e] [] cpos) none pos.line X.env=pure false:=by rfl) :
  VS X EX (.Expr (.Call (.Attribute (.Name x p) "append" apos) [e] [] cpos) pos) (qfh i te) :=
 let ⟨_,a1,a2⟩:=h.u;⟨_,qnc (qbm PySem.F.plainAttrs_list PySem.F.slot_list_append PySem.F.type_list_append qhp (qv i hN hv hd hcd) (qac a1 qej hp) (by simp[hp]) rfl hbase hline) hs,λB0 H0 B H τ σ Dv Dh p S h E=>by
  obtain⟨ds,ad,xs,e1,h,e2,e3,_⟩:=S.ownL h
  refine⟨.ref ad,e2,.inl ⟨rfl,xs,SqL.of e3⟩,a2 H0 B H τ σ _ _ p.s S h (E.raised p S) λr v B' H' q hr hq=>?_⟩
  obtain⟨d,B2,q2,_,rp,hz,hn⟩:=pub q hr (hr.okS hq)
  have S2:=S.step q2
  obtain⟨a',q1,_,_,xs2,q4,q3⟩:=S2.own i _ e1
  rw[e2] at q1
  cases q1
  refine⟨ad,xs2,v,rfl,rfl,q4,by rw[←q3.length];exact hz,?_⟩
  obtain⟨p3,S3⟩:=S2.lst (p.trans q2) e1 e2 (q3.append (.one rp))
  exact E.nx B2 _ _ σ p3 S3 hn⟩
def qba(N:List Str)(ds:List D):VSt:=ds.map (λd=>some (R.val d))++List.replicate (N.length-ds.length) none
theorem qit:∀ {ds:List D} {vs:List V},Reps K B ds vs->Slots K H0 B H (ds.map λd=>some (R.val d)) (vs.map some)
|[],_,h=>by
  unfold Reps at h
  subst h
  exact⟨rfl,λi d e=>by simp at e,λi d e=>by simp at e,λi d e=>by simp at e,λi j d e a h=>by simp at h⟩
|d::ds,_,h=>by
  unfold Reps at h
  obtain⟨v,vs,rfl,h1,h2⟩:=h
  have S:=qit h2
  refine⟨by have:=S.len;simp at this ⊢;exact this,λi f e=>?_,λi f e=>?_,λi f e=>?_,λi j f g ad e=>?_⟩
  ·cases i with
  |zero=>simp at e;subst e;exact⟨v,rfl,h1⟩
  |succ i=>simpa using S.val i f (by simpa using e)
  ·cases i with
  |zero=>simp at e
  |succ i=>simpa using S.fz i f (by simpa using e)
  ·cases i with
  |zero=>simp at e
  |succ i=>simpa using S.own i f (by simpa using e)
  ·cases i with
  |zero=>simp at e
  |succ i =>
    simp at e
theorem Fun.okV{P:Program}{w:World}{mg:Str->Option Value}{base:Heap}{x qual:Str}{st:Stmt}{f:Addr}{fd:FuncData}{N ps:List Str}{k:Nat}{g:DP}(F:Fun K x qual st f fd)(S:FnScope N ps (qaj st))(len:∀ds Q,g ds Q->ds.length=ps.length)
  (hbody:∀(cdv:Value) (A:Around) (outer:List Env) (s:Shared) (H:Hp) (E:XK),Room k (A.deeper (envOfC qual (qaj st) s.heap.objs.size f cdv)) ->
   ∃t,VSs (cxOf CX0 P w K mg base N qual (qaj st) f cdv A outer s H E).nox EX0 (qb5 st) t/\∀ds Q,g ds Q->t { nx:=λ_=>Q (.val .non),rt:=Q } (qba N ds)):FnOk P w K mg base CX0 (k+1) f fd ps (spOf K g):=by
 refine F.okQ S (λvs H Q E h=>?_) (λcdv A outer s H vs Q E hr h=>?_)
 ·obtain⟨ds,B,Qd,_,rp,hg,_,_⟩:=h
  rw[←rp.length]
  exact len ds Qd hg
 ·obtain⟨ds,B,Qd,sm,rp,hg,_,kk⟩:=h
  obtain⟨t,⟨ts,q1,q2⟩,ht⟩:=hbody cdv A outer s H E hr
  refine⟨ts,q1,q2 B H B H (qba N ds) (start N vs) _ _ (.refl sm) ?_ (ht ds Qd hg) ⟨λB' H' τ σ p S h=>kk (.val .non) .non B' H' h p (repV rfl),λr v B' H' p hr h=>kk r v B' H' h p hr,λ_ _ _ _ _ _ h=>h.elim,λ_ _ _ _ _ _ h=>h.elim,λ_ _ _ _ _ _ _ _ _ h=>h.elim,λ_ _ _ _ _ _ _ _ _ _ h=>h.elim,λ_ _ _ _ _ _ _ h=>h.elim⟩⟩
  unfold qba start
  rw[rp.length]
  exact(qit rp).more _
end
end L2
namespace L2
open PySem PySem.Spec PyProof.Rows
section
variable {X:Cx} {EX:St->XK} {K:PySem.W.Frag} {e a b c o:Expr} {te ta tb tc to:TV} {pos p apos cpos:Pos} {x:Str}
def vNeg(ta:TV):TV:=λτ Q=>ta τ λr=>match r.d with
|.int i=>Q (.val (.int (-i)))
|_=>False
theorem qt4(ha:VE X EX a ta):VE X EX (.UnaryOp .USub a pos) (vNeg ta) :=
 let ⟨_,a1,a2⟩:=ha.u;⟨_,q5h q4f a1,λH0 B H τ σ Q Qd s S h xc k=>a2 H0 B H τ σ _ _ s S h (xno λ_ q=>q) λr v B' H' p q h1=>by
  split at h1
  ·rename_i i e
   exact⟨i,q.pk.scal (by rw[e];rfl),k (.val (.int (-i))) _ B' H' p (repV rfl) h1⟩
  ·exact h1.elim⟩
def vIsN(g:Bool->Bool)(rx ry:R)(Q:R->Prop):Prop:=match ry.d with
|.non=>Q (.val (.bl (g (match rx.d with|.non=>true|_=>false))))
|_=>False
theorem q27{B H:Hp}{r:R}{v:V}(h:Pk K B H r v):decide (v=.non)=(match r.d with|.non=>true|_=>false):=by
 have key:∀d,Rep K B d v->decide (v=.non)=(match d with|.non=>true|_=>false):=λd h=>by
  cases d<;>unfold Rep at h<;>first|(subst h;rfl)|(obtain⟨_,_,rfl,_⟩:=h;rfl)|(obtain⟨_,rfl,_⟩:=h;rfl)
 have key2:∀d,(∃a,v=.ref a/\B a=none/\OwnAt K B H d a)->decide (v=.non)=(match d with|.non=>true|_=>false):=λd ⟨a,e,_,ow⟩=>by
  subst e
  cases d<;>first|rfl|exact ow.elim
 cases r with
|val d=>exact key d h
|own d=>exact key2 d h
|peek d=>exact key2 d h
|exc n=>exact h.elim
theorem qwz:VO X (compareOp .IsNot) (vIsN (!·)):=by
 refine⟨_,qzk,λB H x y rx ry Q Qd s px py h k=>?_⟩
 unfold vIsN at h
 split at h
 ·rename_i e
  refine⟨py.scal (by rw[e];rfl),?_⟩
  rw[q27 px]
  exact k _ _ B H (.refl s) (repV rfl) h
 ·exact h.elim
theorem qvk:MtM X "str.join" (λx vs H Q=>∃(sep:Str) (l:Addr) (ys:List Str),x=.str sep/\vs=[.ref l]/\SqT X.K H l (ys.map V.str)/\(ys.map (·.length)).sum+ys.length*sep.length<=16777216/\Q (.str (glue sep ys)) H):=by
 intro pins s σ H x vs v us Q I rx rv h
 obtain⟨sep,l,ys,rfl,rfl,hq,hz,q⟩:=h
 obtain⟨t,rfl⟩:=rx
 obtain⟨u,rfl,ru⟩:=rv.one
 cases ru
 obtain⟨its,r,pl,_⟩:=I.tuple hq
 obtain⟨ts,rfl,rfl⟩:=qno r
 have fit:Builtin.Str.tooLong ((ts.map (·.1)).toArray.foldl (·+·.length+sep.length) 0)=false:=by
  rw[StrLaws.joinTotal]
  unfold Builtin.Str.tooLong
  rw[sizeLine_eq]
  exact decide_eq_false (by lia)
 exact call_meets F.slot_str_join (typeIs_str _ _ _) F.entry_str_join (F.args_str_join_2 _ _) (meets_str_join_tuple sep t l ts fit) ⟨(let ⟨o,h1,h2,n,h3⟩:=pl;⟨o,n,h1,h2,h3⟩),post_join ts ⟨joinFit_length fit,λt' k=>⟨.str (glue sep (ts.map (·.1))),H,I.tok k,⟨t',rfl⟩,q⟩⟩⟩
def qwv(to te:TV):TV:=λτ Q=>to τ λrs=>match rs.d with
|.str sep=>te τ λrl=>∃ys:List Str,(rl.d=.lst (ys.map D.str)\/rl.d=.tup (ys.map D.str))/\(ys.map (·.length)).sum+ys.length*sep.length<=16777216/\Q (.val (.str (glue sep ys)))
|_=>False
theorem q1d(ho:VE X EX o to)(h:VE X EX e te)(hp:qa3 e=true:=by rfl)
  (hbase:attributeBase o "join" X.env (eval o X.env)=eval o X.env:=by rfl) (hline:(apos.endLine==cpos.line)=true:=by rfl):VE X EX (.Call (.Attribute o "join" apos) [e] [] cpos) (qwv to te) :=
 let ⟨_,o1,o2⟩:=ho.u;let ⟨_,a1,a2⟩:=h.u;⟨_,qbm PySem.F.plainAttrs_str PySem.F.slot_str_join PySem.F.type_str_join (MtR.or qzd qvk) o1 (qac a1 qej hp) (by simp[hp]) rfl hbase hline,λH0 B H τ σ Q Qd s S h xc k =>
  o2 H0 B H τ σ _ _ s S h (xno λ_ q=>q) λrs vs B1 H1 p1 q1 h1=>by
   split at h1
   ·rename_i sep es
    cases q1.pk.scal (z:=.str sep) (by rw[es];rfl)
    refine⟨rfl,a2 H0 B1 H1 τ σ _ _ p1.s (S.step p1) h1 (xno λ_ ⟨_,q,_⟩=>by rcases q with q|q<;>cases q) λrl vl B2 H2 p2 q2 h2=>?_⟩
    obtain⟨ys,el,hz,hq⟩:=h2
    rcases el with el|el
    ·obtain⟨ad,xs,rfl,hx,rx⟩:=q2.pk.lst p2.s el
     exact .inl ⟨sep,ad,ys,rfl,rfl,SqL.of (by rw[hx,rx.strs]),hz,k _ _ B2 H2 (p1.trans p2) (repV rfl) hq⟩
    ·obtain⟨ad,xs,rfl,hx,rx⟩:=q2.pk.tup el
     cases rx.strs
     exact .inr ⟨sep,ad,ys,rfl,rfl,p2.s.sqT hx.sq,hz,k _ _ B2 H2 (p1.trans p2) (repV rfl) hq⟩
   ·exact h1.elim⟩
def strsOf:List D->Option (List Str)
|[]=>some []
|.str s::ds=>(strsOf ds).map (s::·)
|_::_=>none
theorem qiw(ss:List Str):strsOf (ss.map D.str)=some ss:=by
 induction ss with
|nil=>rfl
|cons s ss ih=>rw[List.map_cons,strsOf,ih];rfl
theorem qh2:∀ {ds:List D} {ss:List Str},strsOf ds=some ss->ds=ss.map D.str
|[],ss,h=>by cases h;rfl
|d::ds,ss,h=>by
  cases d<;>first|(unfold strsOf at h;cases h;done)|skip
  rename_i s
  unfold strsOf at h
  cases q:strsOf ds with
 |none=>rw[q] at h;cases h
 |some r =>
   rw[q] at h
   cases h
   rw[qh2 q]
   rfl
def vIn(g:Bool->Bool)(rx ry:R)(Q:R->Prop):Prop:=match rx.d,ry.d with
|.str x,.str y=>Q (.val (.bl (g (!(Builtin.Str.occurrences y x 0 y.length 1).isEmpty))))
|.str x,.tup ds=>∃ss,strsOf ds=some ss/\Q (.val (.bl (g (decide (x∈ss)))))
|.str x,.lst ds=>∃ss,strsOf ds=some ss/\Q (.val (.bl (g (decide (x∈ss)))))
|.str x,.kt ss=>Q (.val (.bl (g (decide (x∈ss)))))
|_,_=>False
theorem qgt(x:Str):∀(ss:List Str),inV (.str x) (ss.map V.str)=decide (x∈ss)
|[]=>rfl
|y::ss=>by
  have:=qgt x ss
  unfold inV at this ⊢
  rw[List.map_cons,List.any_cons,this]
  apply qcj
  rw[Bool.or_eq_true,decide_eq_true_iff,decide_eq_true_iff,List.mem_cons]
  rw[show eqV (V.str y) (V.str x)=(y==x) from rfl,beq_iff_eq]
  exact⟨λh=>h.imp Eq.symm id,λh=>h.imp Eq.symm id⟩
theorem qhb(ss:List Str):(ss.map V.str).all qgp=true:=by rw[List.all_map];simp[qgp]
theorem Pk.kt{B H:Hp}{r:R}{v:V}{ss:List Str}(h:Pk K B H r v)(e:r.d=.kt ss):∃a,v=.ref a/\SqT K (λ_=>none) a (ss.map V.str):=by
 cases r with
|val d =>
  cases (show d=_ from e)
  have h':Rep K B (.kt ss) v:=h
  unfold Rep at h'
  exact h'
|own d=>cases (show d=_ from e);obtain⟨_,_,_,q⟩:=h;exact q.elim
|peek d=>cases (show d=_ from e);obtain⟨_,_,_,q⟩:=h;exact q.elim
|exc n=>exact h.elim
theorem q4n:VO X (compareOp .In) (vIn id):=by
 refine⟨_,op_in_str.or qs6,λB H x y rx ry Q Qd s px py h k=>?_⟩
 unfold vIn at h
 split at h
 ·rename_i u w e1 e2
  exact .inl ⟨u,w,px.scal (by rw[e1];rfl),py.scal (by rw[e2];rfl),k _ _ B H (.refl s) (repV rfl) h⟩
 ·rename_i u ds e1 e2
  obtain⟨ss,hs,q⟩:=h
  cases qh2 hs
  cases px.scal (z:=.str u) (by rw[e1];rfl)
  obtain⟨a,xs,rfl,h1,r1⟩:=py.tup e2
  cases r1.strs
  have q':Qd (.val (.bl (decide (u∈ss)))):=q
  rw[←qgt] at q'
  exact .inr ⟨a,_,rfl,.inr (s.sqT h1.sq),rfl,qhb ss,k _ _ B H (.refl s) (repV rfl) q'⟩
 ·rename_i u ds e1 e2
  obtain⟨ss,hs,q⟩:=h
  cases qh2 hs
  cases px.scal (z:=.str u) (by rw[e1];rfl)
  obtain⟨a,xs,rfl,h1,r1⟩:=py.lst s e2
  cases r1.strs
  have q':Qd (.val (.bl (decide (u∈ss)))):=q
  rw[←qgt] at q'
  exact .inr ⟨a,_,rfl,.inl (SqL.of h1),rfl,qhb ss,k _ _ B H (.refl s) (repV rfl) q'⟩
 ·rename_i u ss e1 e2
  cases px.scal (z:=.str u) (by rw[e1];rfl)
  obtain⟨a,rfl,h1⟩:=py.kt e2
  have q':Qd (.val (.bl (decide (u∈ss)))):=h
  rw[←qgt] at q'
  exact .inr ⟨a,_,rfl,.inr ((Same.emp H).sqT h1),rfl,qhb ss,k _ _ B H (.refl s) (repV rfl) q'⟩
 ·exact h.elim
end
end L2
namespace L2
open PySem PySem.Spec PyProof.Rows
theorem v_cut{t u:TVS}{Dv:VEnds}{τ:VSt}(Pv:VSt->Prop)(rest:∀τ,Pv τ->u Dv τ)(now:∀nx:VSt->Prop,(∀τ,Pv τ->nx τ)->t { nx:=nx,rt:=Dv.rt,bk:=Dv.bk,ct:=Dv.ct,xc:=Dv.xc,ro:=Dv.ro,rn:=Dv.rn } τ):vSeq t u Dv τ:=now (u Dv) rest
section
variable {g:TVG} {tb:TVS} {Dv:VEnds} {τ:VSt}
theorem qyw{ds:List D}(Pv:Nat->VSt->Prop)(h0:Pv 0 τ)(hn:∀(i:Nat) (d:D) (τ:VSt),ds[i]?=some d->Pv i τ->∀nx:VSt->Prop,(∀τ',Pv (i+1) τ'->nx τ')->g d τ λτ'=>tb { nx:=nx,rt:=Dv.rt,bk:=Dv.nx,ct:=nx,xc:=Dv.xc,ro:=Dv.ro,rn:=Dv.rn } τ')
  (he:∀τ,Pv ds.length τ->Dv.nx τ):forW g tb Dv ds τ:=by
 have key:∀(n i:Nat) (τ:VSt),ds.length-i=n->i<=ds.length->Pv i τ->forW g tb Dv (ds.drop i) τ:=λn=>by
  induction n with
 |zero =>
   intro i τ h1 h2 h3
   have e:i=ds.length:=by lia
   subst e
   rw[List.drop_length]
   exact he τ h3
 |succ n ih =>
   intro i τ h1 h2 h3
   have l:i<ds.length:=by lia
   rw[List.drop_eq_getElem_cons l]
   exact hn i ds[i] τ (List.getElem?_eq_getElem l) h3 _ λτ' h=>ih (i+1) τ' (by lia) (by lia) h
 have:=key ds.length 0 τ (by lia) (Nat.zero_le _) h0
 rw[List.drop_zero] at this
 exact this
theorem qdu{α:Type}{f:α->D}{xs:List α}(Pv:Nat->VSt->Prop)(h0:Pv 0 τ)(hn:∀(i:Nat) (x:α) (τ:VSt),xs[i]?=some x->Pv i τ->∀nx:VSt->Prop,(∀τ',Pv (i+1) τ'->nx τ')->g (f x) τ λτ'=>tb { nx:=nx,rt:=Dv.rt,bk:=Dv.nx,ct:=nx,xc:=Dv.xc,ro:=Dv.ro,rn:=Dv.rn } τ')
  (he:∀τ,Pv xs.length τ->Dv.nx τ):forW g tb Dv (xs.map f) τ:=by
 refine qyw Pv h0 (λi d τ e=>?_) (by rw[List.length_map];exact he)
 rw[List.getElem?_map] at e
 cases q:xs[i]? with
|none=>rw[q] at e;cases e
|some x =>
  rw[q] at e
  cases e
  exact hn i x τ q
theorem qjf{lo:Int}{n:Nat}(Pv:Nat->VSt->Prop)(h0:Pv 0 τ)(hn:∀(i:Nat) (τ:VSt),i<n->Pv i τ->∀nx:VSt->Prop,(∀τ',Pv (i+1) τ'->nx τ')->g (.int (lo+i)) τ λτ'=>tb { nx:=nx,rt:=Dv.rt,bk:=Dv.nx,ct:=nx,xc:=Dv.xc,ro:=Dv.ro,rn:=Dv.rn } τ')
  (he:∀τ,Pv n τ->Dv.nx τ):forW g tb Dv (rngL lo n) τ:=by
 unfold rngL
 refine qdu Pv h0 (λi x τ e=>?_) (by rw[List.length_range];exact he)
 by_cases l:i<n
 ·rw[List.getElem?_range l] at e
  cases e
  exact hn i τ l
 ·rw[List.getElem?_eq_none (by rw[List.length_range];lia)] at e
  cases e
end
theorem qpu{α:Type}(xs:List α):xs.filter (λ_=>true)=xs:=List.filter_eq_self.mpr λ_ _=>rfl
section
variable {α:Type} {f:α->D} {τ:VSt} {k:Nat} {g:TVG} {ti:TVT} {te:TV} {Q:R->Prop}
theorem qn7(P:α->D->Prop)(p:α->Bool)(xs:List α)(hz:xs.length<=sizeLine)
  (ok:∀x∈xs,∀(Y:R->Prop) (N:Prop),(p x=true->∀d,P x d->Y (.val d))->(p x=false->N)->g (f x) (τ++List.replicate k none) λτ2=>(τ2.take τ.length=τ/\τ2.length=τ.length+k)/\ti τ2 λb=>if b=true then te τ2 Y else N)
  (fin:∀es:List D,es.length=(xs.filter p).length->(∀(j:Nat) (x:α) (e:D),(xs.filter p)[j]?=some x->es[j]?=some e->P x e)->Q (.own (.lst es))):qkt τ k g ti te Q (xs.map f) []:=by
 have key:∀(ys zs:List α) (acc:List D),xs=zs++ys->acc.length=(zs.filter p).length->(∀(j:Nat) (x:α) (e:D),(zs.filter p)[j]?=some x->acc[j]?=some e->P x e)->qkt τ k g ti te Q (ys.map f) acc:=by
  intro ys
  induction ys with
 |nil =>
   intro zs acc e h1 h2
   rw[List.append_nil] at e
   subst e
   exact fin acc h1 h2
 |cons y ys ih =>
   intro zs acc e h1 h2
   have hl:acc.length<sizeLine:=by
    have h3:=List.length_filter_le p zs
    have h4:xs.length=zs.length+(ys.length+1):=by rw[e,List.length_append,List.length_cons]
    lia
   refine ok y (by rw[e];simp) _ _ (λhp d hd=>⟨hl,ih (zs++[y]) (acc++[d]) (by rw[e];simp) ?_ λj x e' q1 q2=>?_⟩) (λhp=>ih (zs++[y]) acc (by rw[e];simp) ?_ λj x e' q1 q2=>?_)
   ·rw[List.filter_append,List.length_append,List.length_append,h1]
    simp[hp]
   ·rw[List.filter_append] at q1
    have ef:[y].filter p=[y]:=by simp[hp]
    rw[ef] at q1
    by_cases l:j<(zs.filter p).length
    ·rw[List.getElem?_append_left l] at q1
     rw[List.getElem?_append_left (by lia)] at q2
     exact h2 j x e' q1 q2
    ·rw[List.getElem?_append_right (by lia)] at q1
     rw[List.getElem?_append_right (by lia)] at q2
     have ej:j-(zs.filter p).length=0:=by
      have:=(List.getElem?_eq_some_iff.mp q1).1
      simp at this
      lia
     rw[ej] at q1
     rw[h1,ej] at q2
     cases q1
     cases q2
     exact hd
   ·rw[List.filter_append,List.length_append,h1]
    simp[hp]
   ·rw[List.filter_append] at q1
    have ef:[y].filter p=[]:=by simp[hp]
    rw[ef,List.append_nil] at q1
    exact h2 j x e' q1 q2
 exact key xs [] [] rfl rfl (λj x e q=>by simp at q)
theorem qfa(h:α->D)(p:α->Bool)(xs:List α)(hz:xs.length<=sizeLine)
  (ok:∀x∈xs,∀(Y:R->Prop) (N:Prop),(p x=true->Y (.val (h x)))->(p x=false->N)->g (f x) (τ++List.replicate k none) λτ2=>(τ2.take τ.length=τ/\τ2.length=τ.length+k)/\ti τ2 λb=>if b=true then te τ2 Y else N)
  (fin:Q (.own (.lst ((xs.filter p).map h)))):qkt τ k g ti te Q (xs.map f) []:=by
 refine qn7 (λx d=>d=h x) p xs hz (λx hx Y N h1 h2=>ok x hx Y N (λz=>h1 z _ rfl) h2) λes hl he=>?_
 have:es=(xs.filter p).map h:=List.ext_getElem (by rw[hl,List.length_map]) λj h1 h2=>by
  rw[List.length_map] at h2
  rw[List.getElem_map]
  exact he j _ _ (List.getElem?_eq_getElem h2) (List.getElem?_eq_getElem h1)
 rw[this]
 exact fin
theorem qi8(h:α->D)(xs:List α)(hz:xs.length<=sizeLine)
  (ok:∀x∈xs,∀(Y:R->Prop) (N:Prop),Y (.val (h x))->g (f x) (τ++List.replicate k none) λτ2=>(τ2.take τ.length=τ/\τ2.length=τ.length+k)/\ti τ2 λb=>if b=true then te τ2 Y else N)
  (fin:Q (.own (.lst (xs.map h)))):qkt τ k g ti te Q (xs.map f) []:=by
 refine qfa h (λ_=>true) xs hz (λx hx Y N h1 _=>ok x hx Y N (h1 rfl)) ?_
 rw[qpu]
 exact fin
end
def wayD(ws:List Str):D:=.tup (ws.map D.str)
theorem qn6:∀(ss ts:List Str),qcp (ss.map D.str) (ts.map D.str)=true
|[],_=>by unfold qcp;rfl
|_::_,[]=>by unfold qcp;rfl
|s::ss,t::ts=>by
  show qcp (.str s::ss.map D.str) (.str t::ts.map D.str)=true
  unfold qcp
  rw[qn6 ss ts]
  rfl
theorem qja:∀(ss:List Str),qcd (ss.map D.str)=0
|[]=>rfl
|s::ss=>by
  show qcd (.str s::ss.map D.str)=0
  unfold qcd
  rw[qja ss]
  rfl
theorem qm3{ss ts:List Str}(h:ss.map D.str=ts.map D.str):ss=ts:=by
 induction ss generalizing ts with
|nil=>cases ts with
 |nil=>rfl
 |cons t ts=>cases h
|cons s ss ih=>cases ts with
 |nil=>cases h
 |cons t ts =>
   injection h with h1 h2
   injection h1 with h1
   rw[h1,ih h2]
theorem eq_int(i j:Int):eqD (.int i) (.int j)=decide (i=j):=qcj (by
 rw[eqD_iff,decide_eq_true_iff]
 exact⟨λh=>D.int.inj h,λh=>h▸rfl⟩)
theorem eq_str(i j:Str):eqD (.str i) (.str j)=decide (i=j):=qcj (by
 rw[eqD_iff,decide_eq_true_iff]
 exact⟨λh=>D.str.inj h,λh=>h▸rfl⟩)
theorem qyn(i j:Int):cmpD (.int i) (.int j)=true:=rfl
theorem qre(i j:Str):cmpD (.str i) (.str j)=true:=rfl
theorem qyq(i:Int):depD (.int i)=0:=rfl
theorem qys(i:Str):depD (.str i)=0:=rfl
theorem qdi{α β:Type}(f:α->β)(xs:List α)(k:Int):atI (xs.map f) k=(atI xs k).map f:=by
 unfold atI
 rw[List.length_map]
 cases ixN xs.length k with
|none=>rfl
|some j=>simp
theorem qn9{α β:Type}(f:α->β)(xs:List α)(lo hi:Option Int):cutL (xs.map f) lo hi=(cutL xs lo hi).map f:=by
 unfold cutL
 rw[List.length_map,List.map_take,List.map_drop]
theorem qwo{K:PySem.W.Frag}{H:Hp}{a:Addr}{ns:List Int}{g:DP}(h:g [.scr ns] (λr=>r=.val (.bl true)))(hS:SqL K H a (ns.map V.int)){E:XK}:spOf K g [.ref a] H (λv _=>v=.bl true) E :=
 ⟨[.scr ns],H,_,Same.refl H,.one (by unfold Rep;exact⟨a,rfl,hS⟩),h,(λn C B' H' e _ _=>by cases e),λr v B' H' e p rr=>by
  subst e
  have rr':Rep K B' (.bl true) v:=rr
  unfold Rep at rr'
  exact rr'⟩
theorem qhn(ss ts:List Str):(ss.map D.str=ts.map D.str)=(ss=ts):=propext ⟨qm3,λh=>h▸rfl⟩
theorem qm2(ss ts:List Int):(ss.map D.int=ts.map D.int)=(ss=ts):=propext ⟨λh=>by
 induction ss generalizing ts with
|nil=>cases ts with
 |nil=>rfl
 |cons t ts=>cases h
|cons s ss ih=>cases ts with
 |nil=>cases h
 |cons t ts =>
   injection h with h1 h2
   injection h1 with h1
   rw[h1,ih _ h2],λh=>h▸rfl⟩
theorem qoq{α:Type}(f:α->D)(xs:List α)(x:α):xs.map f++[f x]=(xs++[x]).map f:=by rw[List.map_append];rfl
theorem qwl(xs:List Str)(x:Str):xs.map D.str++[.str x]=(xs++[x]).map D.str:=qoq _ xs x
theorem qwk(xs:List Int)(x:Int):xs.map D.int++[.int x]=(xs++[x]).map D.int:=qoq _ xs x
theorem qym(xs ys:List Str):xs.map D.str++ys.map D.str=(xs++ys).map D.str:=(List.map_append ..).symm
theorem qu1(xs:List Str):(xs.map D.str).dropLast=xs.dropLast.map D.str:=by
 rw[←qg5,←qg5,qn9]
theorem qte(d:D)(Q:D->Prop):pubR (.val d) Q=Q d:=rfl
theorem qtd(d:D)(Q:D->Prop):pubR (.own d) Q=Q d:=rfl
theorem qwt(k:Nat)(xs:List Str):(xs.map D.str).take k=(xs.take k).map D.str:=(List.map_take ..).symm
theorem qrp(k:Nat)(xs:List Str):(xs.map D.str).drop k=(xs.drop k).map D.str:=(List.map_drop ..).symm
theorem qyk{α:Type}(xs:List α)(n:Nat):atI xs (no_index (OfNat.ofNat n:Int))=xs[n]?:=by
 show atI xs (n:Int)=xs[n]?
 unfold atI ixN
 rw[if_pos (by lia)]
 by_cases h:(n:Int)<xs.length
 ·rw[if_pos h]
  simp
 ·rw[if_neg h]
  simp
  lia
theorem qur{α:Type}(xs:List α):atI xs (-1)=xs.getLast?:=by
 unfold atI ixN
 rw[if_neg (by decide)]
 cases xs with
|nil=>rfl
|cons x xs =>
  rw[if_pos (by rw[List.length_cons];lia)]
  rw[List.getLast?_eq_getElem?]
  show (x::xs)[(-1+((x::xs).length:Int)).toNat]?=_
  congr 1
  lia
theorem qxe(d:D)(Q:R->Prop)(k:Prop):exR (.val d) Q k=k:=rfl
theorem qxd(d:D)(Q:R->Prop)(k:Prop):exR (.own d) Q k=k:=rfl
theorem qr2(d:D)(Q:R->Prop)(k:Prop):exR (.peek d) Q k=k:=rfl
theorem qxc(n:Str)(Q:R->Prop)(k:Prop):exR (.exc n) Q k=Q (.exc n):=rfl
theorem qrx(d:D)(Q:AR->Prop)(k:Prop):excA (.val d) Q k=k:=rfl
theorem qrw(d:D)(Q:AR->Prop)(k:Prop):excA (.own d) Q k=k:=rfl
theorem qob(d:D)(Q:AR->Prop)(k:Prop):excA (.peek d) Q k=k:=rfl
theorem qrv(n:Str)(Q:AR->Prop)(k:Prop):excA (.exc n) Q k=Q (.exc n):=rfl
theorem qr1(τ:VSt)(Dv:VEnds)(d:D)(k:Prop):exS τ Dv (.val d) k=k:=rfl
theorem qr0(τ:VSt)(Dv:VEnds)(d:D)(k:Prop):exS τ Dv (.own d) k=k:=rfl
theorem qoc(τ:VSt)(Dv:VEnds)(d:D)(k:Prop):exS τ Dv (.peek d) k=k:=rfl
theorem qrz(τ:VSt)(Dv:VEnds)(n:Str)(k:Prop):exS τ Dv (.exc n) k=Dv.xc τ n:=rfl
theorem qxa(ds:List D)(Q:R->Prop)(k:List D->Prop):exA (.ok ds) Q k=k ds:=rfl
theorem qky(n:Str)(Q:R->Prop)(k:List D->Prop):exA (.exc n) Q k=Q (.exc n):=rfl
theorem qxb(τ:VSt)(Dv:VEnds)(ds:List D)(k:List D->Prop):exI τ Dv (.ok ds) k=k ds:=rfl
theorem qry(τ:VSt)(Dv:VEnds)(n:Str)(k:List D->Prop):exI τ Dv (.exc n) k=Dv.xc τ n:=rfl
theorem qsz(d:D)(ds:List D):qzc d (.ok ds)=.ok (d::ds):=rfl
theorem qos(d:D)(n:Str):qzc d (.exc n)=.exc n:=rfl
theorem qxy(d:D):(R.val d).d=d:=rfl
theorem qxx(d:D):(R.own d).d=d:=rfl
theorem qtj(d:D):(R.peek d).d=d:=rfl
theorem qxw(n:Str):(R.exc n).d=.scr []:=rfl
theorem qfj{t u:TVS}{Dv:VEnds}{τ:VSt}(h:t { nx:=u Dv,rt:=Dv.rt,bk:=Dv.bk,ct:=Dv.ct,xc:=Dv.xc,ro:=Dv.ro,rn:=Dv.rn } τ):vSeq t u Dv τ:=h
end L2
namespace L2
open PySem PySem.Spec PyProof.Rows
def lkD:List (List Str)->List D->List Str->Option D
|k::ks,d::ds,w=>if k=w then some d else lkD ks ds w
|_,_,_=>none
def lkK:List Str->List D->Str->Option D
|k::ks,d::ds,w=>if k=w then some d else lkK ks ds w
|_,_,_=>none
def rpD:List (List Str)->List D->List Str->D->List D
|k::ks,e::ds,w,d=>(if k=w then d else e)::rpD ks ds w d
|_,_,_,_=>[]
def putD(ks:List (List Str))(ds:List D)(w:List Str)(d:D):D:=if w∈ks then .dT ks (rpD ks ds w d) else .dT (ks++[w]) (ds++[d])
theorem quc{a b:List Str}(h:wK a=wK b):a=b:=by
 unfold wK at h
 induction a generalizing b with
|nil=>cases b with
 |nil=>rfl
 |cons _ _=>cases h
|cons x a ih=>cases b with
 |nil=>cases h
 |cons y b =>
   injection h with h1 h2
   injection h1 with h1
   rw[h1,ih h2]
theorem qud(w:List Str):(wK w).map kV=w.map V.str:=by
 unfold wK
 rw[List.map_map]
 rfl
section
variable {K:PySem.W.Frag} {B H:Hp} {d:D} {r:R} {v:V}
theorem DGet.tR{H:Hp}{a b:Addr}{kvs:List (List Key×V)}{k:List Key}(e:Rd H a (.dT kvs))(eb:H b=some (.tup (k.map kV))):DGet H a (.ref b) (valV kvs k):=.inr ⟨kvs,k,b,e,rfl,eb,rfl⟩
theorem Pk.dT{ks:List (List Str)}{ds:List D}(s:Same B H)(h:Pk K B H r v)(e:r.d=.dT ks ds):∃a kvs,v=.ref a/\Rd H a (.dT kvs)/\kvs.map (·.1)=ks.map wK/\Reps K B ds (kvs.map (·.2)):=by
 cases r with
|val d =>
  cases (show d=_ from e)
  have h':Rep K B (.dT ks ds) v:=h
  unfold Rep at h'
  obtain⟨a,xs,rfl,q,k,rp⟩:=h'
  exact⟨a,xs,rfl,q.elim (λq=>.inl (s _ _ q)) λ⟨o,q⟩=>.inr ⟨o,s _ _ q⟩,k,rp⟩
|own d=>cases (show d=_ from e);obtain⟨a,rfl,_,xs,q,k,rp⟩:=h;exact⟨a,xs,rfl,.inl q,k,rp⟩
|peek d=>cases (show d=_ from e);obtain⟨a,rfl,_,xs,q,k,rp⟩:=h;exact⟨a,xs,rfl,.inl q,k,rp⟩
|exc n=>exact h.elim
theorem Pk.dK{ks:List Str}{ds:List D}(s:Same B H)(h:Pk K B H r v)(e:r.d=.dK ks ds):∃a kvs,v=.ref a/\H a=some (.dK kvs)/\kvs.map (·.1)=ks.map Sum.inr/\Reps K B ds (kvs.map (·.2)):=by
 cases r with
|val d =>
  cases (show d=_ from e)
  have h':Rep K B (.dK ks ds) v:=h
  unfold Rep at h'
  obtain⟨a,xs,rfl,q,k,rp⟩:=h'
  exact⟨a,xs,rfl,s _ _ q,k,rp⟩
|own d=>cases (show d=_ from e);obtain⟨a,rfl,_,xs,q,k,rp⟩:=h;exact⟨a,xs,rfl,q,k,rp⟩
|peek d=>cases (show d=_ from e);obtain⟨a,rfl,_,xs,q,k,rp⟩:=h;exact⟨a,xs,rfl,q,k,rp⟩
|exc n=>exact h.elim
theorem qyo{w:List Str}(t:w.map D.str=[.str "folder",.str ""]):w=(["folder",""]:List Str):=by
 cases w with
|nil=>cases t
|cons x w =>
  cases w with
 |nil=>cases t
 |cons y w =>
   cases w with
  |nil =>
    simp only[List.map_cons,List.map_nil,List.cons.injEq,D.str.injEq,and_true] at t
    rw[t.1,t.2]
  |cons z w=>cases t
theorem Pk.wayN{w:List Str}(h:Pk K B H r v)(e:r.d=.tup (w.map D.str))(n:w≠(["folder",""]:List Str)):∃a,v=.ref a/\B a=some (.tup (w.map V.str)):=by
 obtain⟨a,xs,rfl,t,rp⟩:=h.tup e
 refine⟨a,rfl,?_⟩
 rw[←rp.strs]
 rcases t with t|⟨_,t⟩
 ·exact t
 ·exact absurd (qyo t) n
theorem Pk.way{w:List Str}(h:Pk K B H r v)(e:r.d=.tup (w.map D.str))(n:("" : Str)∉w):∃a,v=.ref a/\B a=some (.tup (w.map V.str)):=h.wayN e λq=>n (by rw[q];simp)
theorem qoo:∀ {ks:List (List Str)} {ds:List D} {kvs:List (List Key×V)} (w:List Str),kvs.map (·.1)=ks.map wK->Reps K B ds (kvs.map (·.2))->(lkD ks ds w=none/\valV kvs (wK w)=none)\/∃d v,lkD ks ds w=some d/\valV kvs (wK w)=some v/\Rep K B d v
|[],ds,kvs,w,h1,h2=>by
  have e:kvs=[]:=by simpa using h1
  subst e
  exact .inl ⟨by unfold lkD;rfl,rfl⟩
|k::ks,ds,[],w,h1,h2=>by cases h1
|k::ks,[],p::kvs,w,h1,h2=>by
  unfold Reps at h2
  cases h2
|k::ks,d::ds,p::kvs,w,h1,h2=>by
  injection h1 with e1 e2
  have e1:p.1=wK k:=e1
  unfold Reps at h2
  obtain⟨x,r,q,r1,r2⟩:=h2
  injection q with q1 q2
  subst q1 q2
  unfold lkD
  by_cases e:k=w
  ·rw[if_pos e,qe0 (by rw[e1,e])]
   exact .inr ⟨d,p.2,rfl,rfl,r1⟩
  ·rw[if_neg e,qdz (λz=>e (quc (e1.symm.trans z)))]
   exact qoo w e2 r2
theorem qhl:∀ {ks:List Str} {ds:List D} {kvs:List (Key×V)} (w:Str),kvs.map (·.1)=ks.map Sum.inr->Reps K B ds (kvs.map (·.2))->(lkK ks ds w=none/\valV kvs (Sum.inr w)=none)\/∃d v,lkK ks ds w=some d/\valV kvs (Sum.inr w)=some v/\Rep K B d v
|[],ds,kvs,w,h1,h2=>by
  have e:kvs=[]:=by simpa using h1
  subst e
  exact .inl ⟨by unfold lkK;rfl,rfl⟩
|k::ks,ds,[],w,h1,h2=>by cases h1
|k::ks,[],p::kvs,w,h1,h2=>by
  unfold Reps at h2
  cases h2
|k::ks,d::ds,p::kvs,w,h1,h2=>by
  injection h1 with e1 e2
  have e1:p.1=Sum.inr k:=e1
  unfold Reps at h2
  obtain⟨x,r,q,r1,r2⟩:=h2
  injection q with q1 q2
  subst q1 q2
  unfold lkK
  by_cases e:k=w
  ·rw[if_pos e,qe0 (by rw[e1,e])]
   exact .inr ⟨d,p.2,rfl,rfl,r1⟩
  ·rw[if_neg e,qdz (λz=>e (Sum.inr.inj (e1.symm.trans z)))]
   exact qhl w e2 r2
theorem q0b{ks:List (List Str)}{ds:List D}{kvs:List (List Key×V)}(w:List Str){d:D}{v:V}(h1:kvs.map (·.1)=ks.map wK)(h2:Reps K B ds (kvs.map (·.2)))(hd:Rep K B d v) :
  ∃ks' ds',putD ks ds w d=.dT ks' ds'/\(putK kvs (wK w) v).map (·.1)=ks'.map wK/\Reps K B ds' ((putK kvs (wK w) v).map (·.2)):=by
 have hany:(kvs.any λkv=>decide (kv.1=wK w))=decide (w∈ks):=by
  apply qcj
  rw[List.any_eq_true,decide_eq_true_iff]
  constructor
  ·rintro⟨p,hp,e⟩
   have:p.1∈kvs.map (·.1):=List.mem_map_of_mem hp
   rw[h1,of_decide_eq_true e] at this
   obtain⟨k,hk,ek⟩:=List.mem_map.mp this
   rw[←quc ek]
   exact hk
  ·intro hw
   have:wK w∈kvs.map (·.1):=by rw[h1];exact List.mem_map_of_mem hw
   obtain⟨p,hp,e⟩:=List.mem_map.mp this
   exact⟨p,hp,decide_eq_true e⟩
 unfold putD putK
 rw[hany]
 by_cases hw:w∈ks
 ·rw[if_pos hw,if_pos (decide_eq_true hw)]
  refine⟨ks,_,rfl,?_,?_⟩
  ·rw[←h1,List.map_map]
   refine List.map_congr_left λp _=>?_
   show (if p.1=wK w then (p.1,v) else p).1=p.1
   split<;>rfl
  ·clear hany hw
   induction kvs generalizing ks ds with
  |nil =>
    have e:ks=[]:=by simpa using h1.symm
    subst e
    unfold rpD
    exact .nil
  |cons p kvs ih =>
    cases ks with
   |nil=>cases h1
   |cons k ks =>
     cases ds with
    |nil=>unfold Reps at h2;cases h2
    |cons e ds =>
      injection h1 with e1 e2
      have e1:p.1=wK k:=e1
      unfold Reps at h2
      obtain⟨x,r,q,r1,r2⟩:=h2
      injection q with q1 q2
      subst q1 q2
      unfold rpD
      refine .cons ?_ (ih e2 r2)
      by_cases ek:k=w
      ·rw[if_pos ek]
       show Rep K B d (if p.1=wK w then (p.1,v) else p).2
       rw[if_pos (by rw[e1,ek])]
       exact hd
      ·rw[if_neg ek]
       show Rep K B e (if p.1=wK w then (p.1,v) else p).2
       rw[if_neg (λz=>ek (quc (e1.symm.trans z)))]
       exact r1
 ·rw[if_neg hw,if_neg (by simpa using hw)]
  refine⟨_,_,rfl,?_,?_⟩
  ·rw[List.map_append,List.map_append,h1]
   rfl
  ·rw[List.map_append]
   exact h2.append (.one hd)
end
section
variable {X:Cx} {EX:St->XK} {e a o i:Expr} {te ta to ti:TV} {pos pos' p p2 apos cpos:Pos} {x:Str} {f:Expr} {tf:TV}
def qlw(to ti:TV):TV:=λτ Q=>to τ λrx=>exR rx (λ_=>False) <| ti τ λry=>match rx.d,ry.d with
|.dT ks ds,.tup es=>∃w d,es=w.map D.str/\("" : Str)∉w/\lkD ks ds w=some d/\Q (.val d)
|.dK ks ds,.str z=>∃d,lkK ks ds z=some d/\Q (.val d)
|_,_=>False
theorem qh5(hu:X.A.units+64<cLine)(ho:VE X EX o to)(hi:VE X EX i ti)(hs:NoSl i:=by exact λ_ _=>rfl):VE X EX (.Subscript o i pos) (qlw to ti) :=
 let ⟨_,a1,a2⟩:=ho.u;let ⟨_,b1,b2⟩:=hi.u;⟨_,q0g (by lia) a1 b1 hs,λH0 B H τ σ Q Qd s S h xc k=>a2 H0 B H τ σ _ _ s S h (xno λ_ q=>q) λrx x B1 H1 p1 q1 h1=>b2 H0 B1 H1 τ σ _ _ p1.s (S.step p1) (q1.ok h1) (xno λ_ q=>by revert q;cases rx.d<;>exact λz=>z) λry y B2 H2 p2 q2 h2=>by
  have px:=q1.pk.step p2
  split at h2
  ·rename_i ks ds es e1 e2
   obtain⟨w,d,rfl,hn,hl,hq⟩:=h2
   obtain⟨ad,kvs,rfl,hd,hk,hr⟩:=px.dT p2.s e1
   obtain⟨b,rfl,hb⟩:=q2.pk.way e2 hn
   rcases qoo w hk hr with ⟨z,_⟩|⟨d',v,z,hv,rp⟩
   ·rw[z] at hl;cases hl
   ·rw[z] at hl;cases hl
    exact⟨ad,v,rfl,hv▸DGet.tR hd (by rw[qud];exact p2.s _ _ hb),k (.val d) _ B2 H2 (p1.trans p2) rp hq⟩
  ·rename_i ks ds z e1 e2
   obtain⟨d,hl,hq⟩:=h2
   obtain⟨ad,kvs,rfl,hd,hk,hr⟩:=px.dK p2.s e1
   cases q2.pk.scal (z:=.str z) (by rw[e2];rfl)
   rcases qhl z hk hr with ⟨w,_⟩|⟨d',v,w,hv,rp⟩
   ·rw[w] at hl;cases hl
   ·rw[w] at hl;cases hl
    exact⟨ad,v,rfl,hv▸DGet.k (k:=Sum.inr z) hd,k (.val d) _ B2 H2 (p1.trans p2) rp hq⟩
  ·exact h2.elim⟩
def vDIn(g:Bool->Bool)(ti to:TV):TV:=λτ Q=>ti τ λry=>exR ry (λ_=>False) <| to τ λrx=>match rx.d,ry.d with
|.dT ks ds,.tup es=>∃w,es=w.map D.str/\("" : Str)∉w/\Q (.val (.bl (g (lkD ks ds w).isSome)))
|.dK ks ds,.str z=>Q (.val (.bl (g (lkK ks ds z).isSome)))
|_,_=>False
theorem qss{K:PySem.W.Frag}{B:Hp}{ks:List (List Str)}{ds:List D}{kvs:List (List Key×V)}(w:List Str)(h1:kvs.map (·.1)=ks.map wK)(h2:Reps K B ds (kvs.map (·.2))):(valV kvs (wK w)).isSome=(lkD ks ds w).isSome:=by
 rcases qoo w h1 h2 with ⟨z,y⟩|⟨d',v,z,y,_⟩<;>rw[z,y]<;>rfl
theorem qpz{K:PySem.W.Frag}{B:Hp}{ks:List Str}{ds:List D}{kvs:List (Key×V)}(w:Str)(h1:kvs.map (·.1)=ks.map Sum.inr)(h2:Reps K B ds (kvs.map (·.2))):(valV kvs (Sum.inr w)).isSome=(lkK ks ds w).isSome:=by
 rcases qhl w h1 h2 with ⟨z,y⟩|⟨d',v,z,y,_⟩<;>rw[z,y]<;>rfl
theorem qtk{K:PySem.W.Frag}{eo ei:TE}(g:Bool->Bool)(ho:RfE K EX eo to)(hi:RfE K EX ei ti):RfE K EX (λσ H Q=>ei σ H λy H1=>eo σ H1 λx H2=>∃a o,x=.ref a/\DGet H2 a y o/\Q (.bl (g o.isSome)) H2) (vDIn g ti to):=λH0 B H τ σ Q Qd s S h xc k =>
 hi H0 B H τ σ _ _ s S h (xno λ_ q=>q) λry y B1 H1 p1 q1 h1=>ho H0 B1 H1 τ σ _ _ p1.s (S.step p1) (q1.ok h1) (xno λ_ q=>q) λrx x B2 H2 p2 q2 h2=>by
  have py:=q1.pk.step p2
  split at h2
  ·rename_i ks ds es e1 e2
   obtain⟨w,rfl,hn,hq⟩:=h2
   obtain⟨ad,kvs,rfl,hd,hk,hr⟩:=q2.pk.dT p2.s e1
   obtain⟨b,rfl,hb⟩:=py.way e2 hn
   refine⟨ad,_,rfl,DGet.tR (k:=wK w) hd (by rw[qud];exact p2.s _ _ hb),?_⟩
   rw[qss w hk hr]
   exact k _ _ B2 H2 (p1.trans p2) (repV rfl) hq
  ·rename_i ks ds z e1 e2
   obtain⟨ad,kvs,rfl,hd,hk,hr⟩:=q2.pk.dK p2.s e1
   cases py.scal (z:=.str z) (by rw[e2];rfl)
   refine⟨ad,_,rfl,DGet.k (k:=Sum.inr z) hd,?_⟩
   rw[qpz z hk hr]
   exact k _ _ B2 H2 (p1.trans p2) (repV rfl) h2
  ·exact h2.elim
theorem qt3(hu:X.A.units+64<cLine)(hi:VE X EX i ti)(ho:VE X EX o to)(hm:behindInMarks .NotIn o=false:=by with_unfolding_all rfl):VE X EX (.Compare i [.NotIn] [o] pos) (vDIn (!·) ti to) :=
 let ⟨_,a1,a2⟩:=ho.u;let ⟨_,b1,b2⟩:=hi.u;⟨_,qtf (by lia) b1 a1 hm,qtk (!·) a2 b2⟩
theorem qub(hu:X.A.units+64<cLine)(hi:VE X EX i ti)(ho:VE X EX o to)(hm:behindInMarks .In o=false:=by with_unfolding_all rfl):VT X EX (.Compare i [.In] [o] pos) (vBl (vDIn id ti to)) :=
 let ⟨_,a1,a2⟩:=ho.u;let ⟨_,b1,b2⟩:=hi.u;⟨_,q3o (by lia) b1 a1 hm,qwc (qtk id a2 b2)⟩
theorem qf2(hu:X.A.units+64<cLine)(hi:VE X EX i ti)(ho:VE X EX o to)(hm:behindInMarks .NotIn o=false:=by with_unfolding_all rfl):VT X EX (.Compare i [.NotIn] [o] pos) (vBl (vDIn (!·) ti to)) :=
 let ⟨_,a1,a2⟩:=ho.u;let ⟨_,b1,b2⟩:=hi.u;⟨_,qti (by lia) b1 a1 hm,qwc (qtk (!·) a2 b2)⟩
def qo9(to ti:TV):TV:=λτ Q=>to τ λrx=>match rx.d with
|.dT ks ds=>ti τ λry=>∃w,ry.d=.tup (w.map D.str)/\("" : Str)∉w/\Q (.val ((lkD ks ds w).getD .non))
|.dK ks ds=>ti τ λry=>∃z,ry.d=.str z/\Q (.val ((lkK ks ds z).getD .non))
|_=>False
theorem qww(hu:X.A.units+64<cLine)(ho:VE X EX o to)(hi:VE X EX e ti)(m:M1 X o "get" apos e cpos:=by exact⟨rfl,rfl,rfl,rfl⟩):VE X EX (.Call (.Attribute o "get" apos) [e] [] cpos) (qo9 to ti) :=
 let ⟨_,a1,a2⟩:=ho.u;let ⟨_,b1,b2⟩:=hi.u;⟨_,qv3 (by lia) a1 b1 m,λH0 B H τ σ Q Qd s S h xc k=>a2 H0 B H τ σ _ _ s S h (xno λ_ q=>q) λrx x B1 H1 p1 q1 h1=>by
  split at h1
  ·rename_i ks ds e1
   obtain⟨ad,kvs,rfl,hd,_,_⟩:=q1.pk.dT p1.s e1
   refine⟨ad,rfl,.inr ⟨kvs,hd⟩,b2 H0 B1 H1 τ σ _ _ p1.s (S.step p1) h1 (xno λ_ ⟨_,q,_⟩=>by cases q) λry y B2 H2 p2 q2 h2=>?_⟩
   obtain⟨w,e2,hn,hq⟩:=h2
   obtain⟨ad',kvs',ea,hd',hk,hr⟩:=(q1.pk.step p2).dT p2.s e1
   cases ea
   obtain⟨b,rfl,hb⟩:=q2.pk.way e2 hn
   refine⟨_,DGet.tR (k:=wK w) hd' (by rw[qud];exact p2.s _ _ hb),?_⟩
   rcases qoo w hk hr with ⟨z,y⟩|⟨d',v,z,y,rp⟩
   ·rw[y];rw[z] at hq
    exact k (.val .non) _ B2 H2 (p1.trans p2) (repV rfl) hq
   ·rw[y];rw[z] at hq
    exact k (.val d') _ B2 H2 (p1.trans p2) rp hq
  ·rename_i ks ds e1
   obtain⟨ad,kvs,rfl,hd,_,_⟩:=q1.pk.dK p1.s e1
   refine⟨ad,rfl,.inl ⟨kvs,.inl hd⟩,b2 H0 B1 H1 τ σ _ _ p1.s (S.step p1) h1 (xno λ_ ⟨_,q,_⟩=>by cases q) λry y B2 H2 p2 q2 h2=>?_⟩
   obtain⟨w,e2,hq⟩:=h2
   obtain⟨ad',kvs',ea,hd',hk,hr⟩:=(q1.pk.step p2).dK p2.s e1
   cases ea
   cases q2.pk.scal (z:=.str w) (by rw[e2];rfl)
   refine⟨_,DGet.k (k:=Sum.inr w) hd',?_⟩
   rcases qhl w hk hr with ⟨z,y⟩|⟨d',v,z,y,rp⟩
   ·rw[y];rw[z] at hq
    exact k (.val .non) _ B2 H2 (p1.trans p2) (repV rfl) hq
   ·rw[y];rw[z] at hq
    exact k (.val d') _ B2 H2 (p1.trans p2) rp hq
  ·exact h1.elim⟩
def qfx:TV:=λ_ Q=>Q (.own (.dT [] []))
theorem qe1:VE X EX (.Dict [] [] pos) qfx:=⟨_,qv6,λ_ B H _ _ _ _ s _ h _ k p hp=>k (.own (.dT [] [])) _ B _ (.grow s (qan hp _)) ⟨p,rfl,hp,s.free hp,[],qbc,rfl,.nil⟩ h⟩
def ownT(τ:VSt)(i:Nat)(Q:List (List Str)->List D->Prop):Prop:=match τ[i]? with
|some (some (.own (.dT ks ds)))=>Q ks ds
|_=>False
theorem qzm{τ:VSt}{i:Nat}{Q:List (List Str)->List D->Prop}(h:ownT τ i Q):∃ks ds,τ[i]?=some (some (.own (.dT ks ds)))/\Q ks ds:=by
 unfold ownT at h
 split at h
 ·exact⟨_,_,by assumption,h⟩
 ·exact h.elim
def qgq(i:Nat)(tk te:TV):TVS:=λDv τ=>ownT τ i λks ds=>te τ λr=>exS τ Dv r <| pubR r λd=>tk τ λrk=>match rk.d with
|.tup es=>∃w,es=w.map D.str/\("" : Str)∉w/\ks.length<sizeLine/\Dv.nx (τ.set i (some (.own (putD ks ds w d))))
|_=>False
theorem qd2{ek:Expr}{tk:TV}(i:Nat)(hu:X.A.units+64<cLine)(hk:VE X EX ek tk)(h:VE X EX e te)(hN:X.N[i]?=some x:=by rfl)(hv:Vis X.env.scope x:=by first|exact Or.inl rfl|exact Or.inr (Or.inl rfl)|exact Or.inr (Or.inr rfl))(hd:(x==("__debug__" : Str))=false:=by decide)
  (hcd:(x==("__classdict__" : Str))=false:=by decide) (hs:swapsWith e (some (.Subscript (.Name x p) ek p2)) pos.line X.env=pure false:=by rfl):VS X EX (.Assign [.Subscript (.Name x p) ek p2] e pos) (qgq i tk te) :=
 let ⟨_,a1,a2⟩:=h.u;let ⟨_,b1,b2⟩:=hk.u;⟨_,q0o (by lia) (qv i hN hv hd hcd) b1 a1 hs,λB0 H0 B H τ σ Dv Dh p S h E=>by
  obtain⟨ks,ds,e1,h⟩:=qzm h
  obtain⟨ad,e2,_,_,_⟩:=S.own i _ e1
  refine a2 H0 B H τ σ _ _ p.s S h (E.raised p S) λr v B' H' q hr hq=>?_
  obtain⟨d,B2,q2,_,rp,hn⟩:=pub q hr (hr.okS hq)
  refine⟨.ref ad,e2,b2 H0 B2 H' τ σ _ _ q2.s (S.step q2) hn (xno λ_ q=>q) λrk vk B3 H3 q3 hk hh=>?_⟩
  split at hh
  ·rename_i es ek
   obtain⟨w,rfl,hne,hz,hn⟩:=hh
   obtain⟨b,rfl,hb⟩:=hk.pk.way ek hne
   have qq:=q2.trans q3
   have S3:=S.step qq
   obtain⟨a',f1,h0,hbb,kvs,f4,f5,f6⟩:=S3.own i _ e1
   rw[e2] at f1
   cases f1
   have hl:kvs.length<sizeLine:=by
    have:kvs.length=ks.length:=by simpa using congrArg List.length f5
    lia
   refine⟨ad,_,rfl,DPut.t (k:=wK w) f4 (by rw[qud];exact q3.s _ _ hb) hl,?_⟩
   obtain⟨ks',ds',ep,g1,g2⟩:=q0b w f5 f6 (rp.same q3.b)
   rw[ep] at hn
   exact E.nx B3 _ _ σ ((p.trans qq).upd h0 hbb) (S3.upd (d:=.dT ks' ds') e1 e2 ⟨_,qbc,g1,g2⟩) hn
  ·exact hh.elim⟩
end
def qaq(kds:List (List Str×D)):D:=.dT (kds.map (·.1)) (kds.map (·.2))
def lkP(kds:List (List Str×D))(w:List Str):Option D:=(kds.find? λp=>decide (p.1=w)).map (·.2)
def insP(kds:List (List Str×D))(w:List Str)(d:D):List (List Str×D):=if w∈kds.map (·.1) then kds.map (λp=>if p.1=w then (p.1,d) else p) else kds++[(w,d)]
theorem qbo(kds:List (List Str×D))(w:List Str):lkD (kds.map (·.1)) (kds.map (·.2)) w=lkP kds w:=by
 induction kds with
|nil=>unfold lkP;simp[lkD]
|cons p kds ih =>
  rw[List.map_cons,List.map_cons]
  unfold lkD
  unfold lkP at ih ⊢
  by_cases e:p.1=w
  ·rw[if_pos e,List.find?_cons,decide_eq_true e]
   rfl
  ·rw[if_neg e,ih,List.find?_cons,decide_eq_false e]
theorem qb1(kds:List (List Str×D))(w:List Str)(d:D):putD (kds.map (·.1)) (kds.map (·.2)) w d=qaq (insP kds w d):=by
 unfold putD insP qaq
 by_cases h:w∈kds.map (·.1)
 ·rw[if_pos h,if_pos h]
  congr 1
  ·rw[List.map_map]
   refine(List.map_congr_left λp _=>?_).symm
   show (if p.1=w then (p.1,d) else p).1=p.1
   split<;>rfl
  ·clear h
   induction kds with
  |nil=>rfl
  |cons p kds ih =>
    rw[List.map_cons,List.map_cons,List.map_cons,List.map_cons]
    unfold rpD
    rw[ih]
    congr 1
    split<;>rfl
 ·rw[if_neg h,if_neg h,List.map_append,List.map_append]
  rfl
end L2
namespace PySem
open PySem Calls PyProof.Rows PyProof.V PySem.Spec
def RawD(h:Heap)(d:Addr)(es:Array DictEntry)(ep:Nat):Prop:=∃o,h.get? d=some o/\o.ExactDict/\o.data=.dict es ep
section
variable {prog:Program} {w:World} {A:Around} {E:Value->Shared->Prop} {s:Shared} {d it:Addr} {es:Array DictEntry} {ep i:Nat}
theorem RawD.typeIs(x:RawD s.heap d es ep):s.TypeIs (.ref d) "dict" := let ⟨o,h1,h2,_⟩:=x;⟨o,h1,h2.1⟩
theorem RawD.keep{h h':Heap}(x:RawD h d es ep)(k:∀o,h.get? d=some o->h'.get? d=some o):RawD h' d es ep:=let ⟨o,h1,r⟩:=x;⟨o,k o h1,r⟩
theorem qwb{Q:Value->Shared->Prop}(no:(d==sysModules)=false)(x:RawD s.heap d es ep)
  (fin:Q (.ref s.heap.objs.size) { s with heap:=s.heap.push { cls:=.type "dict_keyiterator",data:=.fields #[.ref d,.int 0 0,.int es.size 0,.int ep 0] } }):wpAny (model prog w) A (pyIter (.ref d)) Q E s:=by
 have T:=x.typeIs
 obtain⟨o,h1,_,h2⟩:=x
 refine wpAny_pyIter_slot T F.slot_dict_iter (wpAny_call_entry F.slot_dict_iter T F.entry_dict_iter ?_ (F.args_dict_iter_1 _))
 unfold Builtin.«dict.__iter__» Builtin.Dict.dictSlotNone
 refine wpAny_bind (wpAny_bind (wpAny_notOrdered_dict T (show wpAny _ _ (pure (Value.ref d)) _ _ s from wpAny_pure ?_)))
 show wpAny _ _ (Builtin.Dict.showsAll d >>= λ_=>_) _ _ s
 unfold Builtin.Dict.showsAll
 rw[no,if_neg Bool.false_ne_true]
 refine wpAny_bind (wpAny_pure (wpAny_bind (wpAny_dictEntries h1 h2 (wpAny_bind (wpAny_dictEpoch h1 h2 (wpAny_bind (wpAny_newObj_type (wpAny_pure ⟨_,rfl,"dict_keyiterator",_,⟨_,Heap.get?_push_size _ rfl,rfl⟩,F.slot_dict_keyiterator_next.lookup,?_⟩))))))))
 simpa [rawInt] using fin
theorem qev{Q:String->Shared->Prop}(h:s.TypeIs (.ref it) "dict_keyiterator")(q:Q "dict_keyiterator" s):wpAny (model prog w) A (typeNameOfWhole (.ref it)) Q E s:=wpAny_typeNameOfWhole_keyiter h q
theorem qwa{Q:Option Value->Shared->Prop}{ky:Value}(K:s.heap.IsKeyIter it d i es.size ep)(x:RawD s.heap d es ep)(hk:es[i]?.map (·.key)=some ky)
  (fin:∀h',h'.IsKeyIter it d (i+1) es.size ep->Heap.SameBut it s.heap h'->Q (some ky) { s with heap:=h' }):wpAny (model prog w) A (pyNext (.ref it)) Q E s:=by
 have T:=K.typeIs
 obtain⟨oi,g1,g2,g3⟩:=K
 obtain⟨o,h1,_,h2⟩:=x
 have lt:i<es.size:=by
  apply Classical.byContradiction
  intro z
  rw[Array.getElem?_eq_none (by lia)] at hk
  cases hk
 have ek:es[i].key=ky:=by
  rw[Array.getElem?_eq_getElem lt] at hk
  exact Option.some.inj hk
 have no:Builtin.Dict_items.ownsTuple "dict_keyiterator" = false:=by decide
 unfold pyNext
 refine wpAny_bind (wpAny_attempt (wpAny_callSpecial?_slot (name:=Str.ofString "__next__") T F.slot_dict_keyiterator_next (wpAny_call_entry F.slot_dict_keyiterator_next T F.entry_dict_keyiterator_next (wpAny_bind (wpAny_pure (wpAny_bind (wpAny_bind ?_)))) (F.args_dict_keyiterator_next_1 _))))
 refine wpAny_bind (qev T (wpAny_pure (wpAny_bind (wpAny_fieldsOf g1 g3 ?_))))
 simp only[no,Bool.false_eq_true,if_false]
 show wpAny _ _ (ite ((Value.ref d==Value.none)=true) _ _) _ _ s
 rw[if_neg (show ¬ (Value.ref d==Value.none)=true from λz=>by cases z)]
 refine wpAny_bind (wpAny_pure (wpAny_bind (wpAny_dictEntries h1 h2 ?_)))
 rw[if_neg (λz=>by simp at z)]
 refine wpAny_bind (wpAny_pure (wpAny_bind (wpAny_dictEpoch h1 h2 ?_)))
 rw[if_neg (λz=>by simp at z)]
 refine wpAny_pure ?_
 simp only[show ¬ (i:Int)<0 from by lia,if_false,Int.toNat_natCast,Array.getElem?_eq_getElem lt]
 refine wpAny_bind (wpAny_bind (qev T (wpAny_pure (wpAny_bind (wpAny_isOneOf_keyiter T ?_)))))
 show wpAny _ _ (setField (.ref it) 1 (rawInt ((i:Int)+1)) >>= λ_=>_) _ _ s
 have K2:(s.heap.update it (Obj.mapFields (·.setIfInBounds 1 (rawInt ((i:Int)+1))))).IsKeyIter it d (i+1) es.size ep:=⟨_,Heap.get?_update_self _ g1 (Obj.isFreed_of_fields (Obj.data_mapFields g3 _)),(Obj.cls_mapFields ..).trans g2,by
  rw[Obj.data_mapFields g3]
  simp[rawInt]⟩
 refine wpAny_bind (wpAny_setField g1 g3 (by simp) (wpAny_bind (wpAny_holding (wpAny_bind (wpAny_isOneOf_keyiter (s:={ s with heap:=s.heap.update it (Obj.mapFields (·.setIfInBounds 1 (rawInt ((i:Int)+1)))) }) K2.typeIs ?_)))))
 show wpAny _ _ (pure (es[i].key)) _ _ _
 rw[ek]
 exact wpAny_pure (wpAny_pure ⟨_,rfl,wpAny_pure (fin _ K2 (Heap.SameBut.update ..))⟩)
theorem q0w{Q:Option Value->Shared->Prop}(hh:A.handled=none)(K:s.heap.IsKeyIter it d i es.size ep)(x:RawD s.heap d es ep)(ge:es.size<=i)(fin:∀h',Heap.ExtBut it s.heap h'->Q none { s with heap:=h' }) :
  wpAny (model prog w) A (pyNext (.ref it)) Q E s:=by
 have T:=K.typeIs
 obtain⟨oi,g1,g2,g3⟩:=K
 obtain⟨o,h1,_,h2⟩:=x
 have no:Builtin.Dict_items.ownsTuple "dict_keyiterator" = false:=by decide
 unfold pyNext
 refine wpAny_bind (wpAny_attempt (wpAny_callSpecial?_slot (name:=Str.ofString "__next__") T F.slot_dict_keyiterator_next (wpAny_call_entry F.slot_dict_keyiterator_next T F.entry_dict_keyiterator_next (wpAny_bind (wpAny_pure (wpAny_bind (wpAny_bind ?_)))) (F.args_dict_keyiterator_next_1 _))))
 refine wpAny_bind (qev T (wpAny_pure (wpAny_bind (wpAny_fieldsOf g1 g3 ?_))))
 simp only[no,Bool.false_eq_true,if_false]
 show wpAny _ _ (ite ((Value.ref d==Value.none)=true) _ _) _ _ s
 rw[if_neg (show ¬ (Value.ref d==Value.none)=true from λz=>by cases z)]
 refine wpAny_bind (wpAny_pure (wpAny_bind (wpAny_dictEntries h1 h2 ?_)))
 rw[if_neg (λz=>by simp at z)]
 refine wpAny_bind (wpAny_pure (wpAny_bind (wpAny_dictEpoch h1 h2 ?_)))
 rw[if_neg (λz=>by simp at z)]
 refine wpAny_pure ?_
 simp only[show ¬ (i:Int)<0 from by lia,if_false,Int.toNat_natCast,Array.getElem?_eq_none ge]
 refine wpAny_bind (wpAny_bind (qev T (wpAny_pure ?_)))
 show wpAny _ _ (setField (.ref it) 0 .none >>= λ_=>_) _ _ s
 refine wpAny_bind (wpAny_setField g1 g3 (by simp) ?_)
 show wpAny _ _ (newExc (.type "StopIteration") [] >>= λ_=>_) _ _ _
 refine wpAny_bind ?_
 simp only[newExc,newTuple]
 refine wpAny_bind (wpAny_newObj_type (wpAny_bind (m:=firstArgMember _ _) (wpAny_of_eq (a:=Value.none) (by first|rfl|(simp only[firstArgMember];rfl)) (wpAny_newObj_type ?_ (by size_fits)))) (by size_fits))
 simp only[raiseNew]
 refine(wpAny_bind (wpAny_handled ?_))
 rw[(show A.in1.handled=none from hh)]
 refine(wpAny_bind (wpAny_pure (wpAny_throw ?_)))
 exact wpAny_bind (wpAny_isInstance (T:="StopIteration") (b:=true) ⟨_,Heap.get?_push_size _ rfl,rfl⟩ isSubtype_stop (wpAny_pure (fin _ (((Heap.SameBut.update ..).extBut.push _).push _))))
theorem qum(hh:A.handled=none)(I d:Addr)(ne:d≠I)(es:Array DictEntry)(ep:Nat) :
  Walks prog w A I [I,d] [I] es.size (λi v=>es[i]?.map (·.key)=some v) (λi h=>h.IsKeyIter I d i es.size ep/\RawD h d es ep) where
 sub:=λb hb=>by
  cases List.mem_singleton.mp hb
  exact List.mem_cons_self ..
 frame:=λ_ _ _ st k=>⟨st.1.at λo e=>k I (List.mem_cons_self ..) o e,st.2.keep λo e=>k d (by simp) o e⟩
 item:=λi s Q E lt st fin=>by
  have e:es[i]?.map (·.key)=some es[i].key:=by rw[Array.getElem?_eq_getElem lt];rfl
  exact qwa st.1 st.2 e λh' K' sb=>fin _ h' s.toks e ⟨K',st.2.keep λo z=>sb.extBut d o ne z⟩ λb o nb z=>sb.extBut b o (λy=>nb (by simp[y])) z
 done:=λs Q E st fin=>q0w hh st.1 st.2 (Nat.le_refl _) λh' x=>fin h' s.toks λb o nb z=>x b o (λy=>nb (by simp[y])) z
 self:=λ_ _ _ _ st q=>wpAny_pyIter_keyiter st.1 q
theorem q06(no:(d==sysModules)=false):PySem.W.KdlSrc prog w "dict" d d es.size (λi v=>es[i]?.map (·.key)=some v) (λh=>RawD h d es ep) where
 type:=λ_ x=>x.typeIs
 there:=λ_ x=>let ⟨_,e,_⟩:=x;⟨Heap.lt_size e,Heap.lt_size e⟩
 keep:=λ_ _ x k=>x.keep λo e=>k d (.inl rfl) o e
 notList:=by decide
 notTuple:=by decide
 hint:=λ_ _ _ _ x q=>PySem.W.kdl_hint_dict x.typeIs q
 iter:=λ_ _ hh x=>⟨_,_,(λ_ _ q=>qwb no x q),qum hh _ d (let ⟨_,e,_⟩:=x;Nat.ne_of_lt (Heap.lt_size e)) es ep,⟨⟨_,Heap.get?_push_size _ rfl,rfl,rfl⟩,x.keep λ_ e=>Heap.get?_push_of_some _ e⟩⟩
end
end PySem
namespace L2
open PySem PySem.Spec PyProof.Rows
section
variable {X:Cx}
theorem qlh{α β:Type}{F:α->β->Prop}:∀ {l:List α} {m:List β} {i:Nat} {b:β},Paired F l m->m[i]?=some b->∃a,l[i]?=some a/\F a b
|_,_,_,_,.nil,e=>by simp at e
|_,_,0,_,.cons h _,e=>by
  have e':=Option.some.inj e
  subst e'
  exact⟨_,rfl,h⟩
|_,_,i+1,b,.cons _ t,e=>by
  obtain⟨a,h1,h2⟩:=qlh (i:=i) (b:=b) t (by simpa using e)
  exact⟨a,by simpa using h1,h2⟩
theorem q13{P:Program}{w:World}{H:Hp}{h:Heap}{a:Addr}{kvs:List (List Key×V)}(ok:HOk P w H h)(e:Rd H a (.dT kvs)):kvs.length<=sizeLine/\(a==sysModules)=false/\∃es ep,RawD h a es ep/\es.size=kvs.length /\
  ∀(i:Nat) (u:Value),es[i]?.map (·.key)=some u->∃(b:Addr) (k:List Key),u=.ref b/\kvs[i]?.map (·.1)=some k/\H b=some (.tup (k.map kV)):=by
 obtain⟨z,y,xs,r,o,es,ep,h1,h2,h3,h4,_⟩:=qjc ok e
 have hl:es.size=xs.length:=by rw[←Array.length_toList,h4,List.length_map]
 refine⟨z,y,es,ep,⟨o,h1,h2,h3⟩,by rw[hl,←Paired.length r],λi u q=>?_⟩
 have ei:es[i]?=(xs[i]?).map (entryOfKey (tupleKind (qbb P w))):=by rw[←Array.getElem?_toList,h4,List.getElem?_map]
 rw[ei] at q
 cases hx:xs[i]? with
|none=>rw[hx] at q;cases q
|some p =>
  rw[hx] at q
  have eu:Value.ref p.2.1=u:=Option.some.inj q
  obtain⟨kv,hkv,e1,e2,_⟩:=qlh r hx
  exact⟨p.2.1,kv.1,eu.symm,by rw[hkv];rfl,by rw[e1] at e2 ⊢;exact e2⟩
theorem qkr(hh:X.A.handled=none):CallR X (.type "list") (λxs H Q=>∃a kvs,xs=[.ref a]/\Rd H a (.dT kvs)/\∀(l:Addr) (bs:List Addr),H l=none->bs.length=kvs.length ->
  (∀(i:Nat) (b:Addr),bs[i]?=some b->∃k,kvs[i]?.map (·.1)=some k/\H b=some (.tup (k.map kV)))->Q (.ref l) (upd H l (.lst (bs.map V.ref)))):=by
 intro pins s σ H xs us Q I r h
 obtain⟨a,kvs,rfl,e,q⟩:=h
 obtain⟨u,rfl,ru⟩:=vals1 r
 cases ru
 obtain⟨z,no,es,ep,raw,hs,hk⟩:=q13 I.hok e
 refine PySem.W.kdl_call (q06 (ep:=ep) (es:=es) no) hh raw (by rw[hs];exact z) λh' tk acc c keep new its=>?_
 have refs:∀vs:List Value,(∀v∈vs,∃b,v=Value.ref b)->∃bs:List Addr,vs=bs.map Value.ref:=λvs=>by
  induction vs with
 |nil=>exact λ_=>⟨[],rfl⟩
 |cons v vs ih =>
   intro hv
   obtain⟨b,rfl⟩:=hv v (List.mem_cons_self ..)
   obtain⟨bs,rfl⟩:=ih λy hy=>hv y (List.mem_cons_of_mem _ hy)
   exact⟨b::bs,rfl⟩
 obtain⟨hsz,hP⟩:=its
 obtain⟨bs,hbs⟩:=refs acc.toList λv hv=>by
  obtain⟨j,hj⟩:=List.mem_iff_getElem?.mp hv
  obtain⟨b,k,eb,_⟩:=hk j v (hP j v (by simpa using hj))
  exact⟨b,eb⟩
 have hacc:acc=(bs.map Value.ref).toArray:=by rw[←hbs]
 have hlen:bs.length=kvs.length:=by
  have:acc.size=bs.length:=by rw[hacc];simp
  lia
 have rel:∀bs:List Addr,Vals (bs.map V.ref) (bs.map Value.ref):=λbs=>by
  induction bs with
 |nil=>exact .nil
 |cons b bs ih=>exact .cons rfl ih
 refine⟨.ref s.heap.objs.size,upd H s.heap.objs.size (.lst (bs.map V.ref)),I.laid (t':=tk) keep (Nat.le_refl _) ⟨by rw[List.length_map];lia,bs.map Value.ref,c,rel bs,by rw[←hacc];exact new⟩,rfl,q _ bs (I.hok.fresh (Nat.le_refl _)) hlen λi b hb=>?_⟩
 obtain⟨b',k,eb,h1,h2⟩:=hk i (.ref b) (hP i (.ref b) (by rw[hacc];simp[hb]))
 cases eb
 exact⟨k,h1,h2⟩
end
section
variable {X:Cx} {K:PySem.W.Frag} {B H:Hp}
theorem Stp.tups(s:Same B H)(bs:List Addr)(h:∀b∈bs,∃xs,H b=some (.tup xs)):Stp B H (λa=>if a∈bs then H a else B a) H:=by
 refine⟨λa o e=>?_,Same.refl _,λa o e=>?_,λa z=>?_⟩
 ·show (if a∈bs then H a else B a)=some o
  split
  ·exact s _ _ e
  ·exact e
 ·have e':(if a∈bs then H a else B a)=some o:=e
  split at e'
  ·exact e'
  ·exact s _ _ e'
 ·by_cases q:a∈bs
  ·exact .inr (.inr (h a q))
  ·have z':(if a∈bs then H a else B a)≠none:=z
   rw[if_neg q] at z'
   exact .inl z'
theorem qln:∀ {ks:List (List Str)} {bs:List Addr},bs.length=ks.length->(∀(i:Nat) (b:Addr) (k:List Str),bs[i]?=some b->ks[i]?=some k->B b=some (.tup (k.map V.str)))->Reps K B (ks.map λw=>.tup (w.map D.str)) (bs.map V.ref)
|[],[],_,_=>.nil
|[],_::_,h,_=>by simp at h
|_::_,[],h,_=>by simp at h
|k::ks,b::bs,h,q=>by
  refine .cons ?_ (qln (by simpa using h) λi b' k' h1 h2=>q (i+1) b' k' (by simpa using h1) (by simpa using h2))
  unfold Rep
  exact⟨b,_,rfl,.inl (q 0 b k rfl rfl),by
   have:∀ss:List Str,Reps K B (ss.map D.str) (ss.map V.str):=λss=>by
    induction ss with
   |nil=>exact .nil
   |cons s ss ih=>exact .cons (qhs (d:=.str s) rfl) ih
   exact this k⟩
def qh3(rx:R)(Q:R->Prop):Prop:=match rx.d with
|.dT ks _=>Q (.own (.lst (ks.map λw=>.tup (w.map D.str))))
|_=>False
theorem qj7(hh:X.A.handled=none):VF X (.type "list") qh3:=by
 refine⟨_,qkr hh,λB H x rx Q Qd s px h k=>?_⟩
 unfold qh3 at h
 split at h
 ·rename_i ks ds e1
  obtain⟨ad,kvs,rfl,hd,hk,hr⟩:=px.dT s e1
  refine⟨ad,kvs,rfl,hd,λl bs hl hlen hb=>?_⟩
  have hkl:ks.length=kvs.length:=by simpa using (congrArg List.length hk).symm
  have key:∀(i:Nat) (b:Addr) (k:List Str),bs[i]?=some b->ks[i]?=some k->H b=some (.tup (k.map V.str)):=λi b k h1 h2=>by
   obtain⟨k',h3,h4⟩:=hb i b h1
   have e:(kvs.map (·.1))[i]?=(ks.map wK)[i]?:=by rw[hk]
   rw[List.getElem?_map,List.getElem?_map,h3,h2] at e
   cases e
   rw[qud] at h4
   exact h4
  have T:=Stp.tups s bs λb hm=>by
   obtain⟨i,hi⟩:=List.mem_iff_getElem?.mp hm
   obtain⟨k',_,h4⟩:=hb i b hi
   exact⟨_,h4⟩
  have hlB:(λa=>if a∈bs then H a else B a) l=none:=by
   show (if l∈bs then H l else B l)=none
   split
   ·exact hl
   ·exact s.free hl
  refine k (.own _) _ _ _ (T.trans (.grow T.s (qan hl (.lst (bs.map V.ref))))) ⟨l,rfl,hl,hlB,qbr (qln (by lia) λi b w h1 h2=>?_)⟩ h
  show (if b∈bs then H b else B b)=_
  rw[if_pos (List.mem_of_getElem? h1)]
  exact key i b w h1 h2
 ·exact h.elim
end
end L2
namespace L2
open PySem PySem.Spec PyProof.Rows
section
variable {X:Cx} {EX:St->XK} {K:PySem.W.Frag} {B H B' H' H0 B0:Hp} {e a:Expr} {es:List Expr} {te ta:TV} {tA:TVA} {pos p np cpos:Pos} {x:Str} {t:TVS} {τ:VSt} {σ:St}
def qx7(n:Str)(tA:TVA):TVS:=λDv τ=>tA τ λa=>exI τ Dv a λds=>ds.length<=sizeLine/\Dv.xc τ n
abbrev THD:=Str->TVS
def RfH(K:PySem.W.Frag)(EX:St->XK)(th:TH)(td:THD):Prop:=∀(B0 H0 B H:Hp) (τ:VSt) (σ:St) (n:Str) (C:Addr) (Dv:VEnds) (Dh:Ends),Stp B0 H0 B H->Slots K H0 B H τ σ->clsOf K n C->td n Dv τ->EndsOk K EX B0 H0 Dv Dh->th (.ref C) Dh σ H
structure VH(X:Cx)(EX:St->XK)(hs:List ExceptHandler)(td:THD):Prop where
 u:∃th,QH X hs th/\RfH X.K EX th td
def vTry(t:TVS)(td:THD):TVS:=λDv τ=>t { nx:=Dv.nx,rt:=Dv.rt,bk:=Dv.bk,ct:=Dv.ct,xc:=λτ' n=>td n Dv τ',rn:=Dv.rn } τ
def VEnds.calm(Dv:VEnds):VEnds:={ nx:=Dv.nx,rt:=Dv.rt,bk:=Dv.bk,ct:=Dv.ct }
def VEnds.wiped(Dv:VEnds):VEnds:={ nx:=λτ=>Dv.nx (List.replicate τ.length none),rt:=Dv.rt,bk:=λτ=>Dv.bk (List.replicate τ.length none),ct:=λτ=>Dv.ct (List.replicate τ.length none) }
end
end L2
namespace L2
open PySem PySem.Spec PyProof.Rows Builtin.Str
section
variable {X:Cx}
end
section
variable {X:Cx} {EX:St->XK} {o e:Expr} {to te:TV} {apos cpos:Pos}
theorem qht{K:PySem.W.Frag}{B:Hp}:∀ss:List Str,Reps K B (ss.map D.str) (ss.map V.str)
|[]=>.nil
|s::ss=>.cons (qhs (d:=.str s) rfl) (qht ss)
end
def sp(c:Nat):List Nat->List (List Nat)
|[]=>[[]]
|x::xs=>if x=c then []::sp c xs else match sp c xs with
 |[]=>[[x]]
 |p::ps=>(x::p)::ps
theorem q01(a b:Nat):sliceRange a b 1=List.range' a (b-a):=by
 unfold sliceRange
 have e:(if (1:Int)>0 then (if (a:Int)<b then ((b:Int)-a+1-1) / 1 else 0) else (if (a:Int)>b then ((a:Int)-b-1-1) / (-1) else 0)).toNat=b-a:=by
  rw[if_pos (by decide)]
  split
  ·rw[Int.ediv_one];lia
  ·lia
 show (List.range _).map _=_
 rw[e,List.range'_eq_map_range]
 refine List.map_congr_left λk _=>?_
 lia
theorem qy1(l u:Option Int)(n:Nat):strSliceIndices l u 1 n=List.range' (HT.sIx n 0 l) (HT.sIx n n u-HT.sIx n 0 l):=by
 rw[←q01]
 unfold strSliceIndices
 have c:∀(v:Int),max 0 (min (if v<0 then v+(n:Int) else v) n)=((HT.sIx n 0 (some v):Nat):Int):=λv=>by
  show _=(((if v<0 then (v+(n:Int)).toNat else min v.toNat n):Nat):Int)
  split<;>lia
 have c2:∀(v:Int),HT.sIx n n (some v)=HT.sIx n 0 (some v):=λ_=>rfl
 have go:∀(a b:Int) (x y:Nat),a=x->b=y->sliceRange a b 1=sliceRange x y 1:=λa b x y h1 h2=>by rw[h1,h2]
 cases l with
|none =>
  cases u with
 |none=>exact go _ _ _ _ rfl rfl
 |some v=>exact go _ _ _ _ rfl (by rw[c2,←c v];rfl)
|some v =>
  cases u with
 |none=>exact go _ _ _ _ (by rw[←c v];rfl) rfl
 |some w=>exact go _ _ _ _ (by rw[←c v];rfl) (by rw[c2,←c w];rfl)
theorem qod(xs:Array Nat):∀(m a:Nat),a+m<=xs.size->(List.range' a m).filterMap (xs[·]?)=(xs.toList.drop a).take m
|0,a,_=>by simp
|m+1,a,h=>by
  have hs:a<xs.toList.length:=by show a<xs.size;lia
  rw[List.range'_succ,List.filterMap_cons,Array.getElem?_eq_getElem (show a<xs.size by lia)]
  show xs[a]::_=_
  rw[qod xs m (a+1) (by lia),List.drop_eq_getElem_cons hs,List.take_succ_cons]
  rfl
theorem slice_list(z:Str)(l u:Option Int):(Txt.slice z l u).cps.toList=cutL z.cps.toList l u:=by
 unfold Txt.slice cutL
 have el:z.cps.toList.length=z.length:=rfl
 have h1:=HT.sIx_le z.length 0 (Nat.zero_le _) l
 have h2:=HT.sIx_le z.length z.length (Nat.le_refl _) u
 rw[qy1,el]
 by_cases h:HT.sIx z.length z.length u-HT.sIx z.length 0 l=z.length
 ·rw[if_pos (by simpa using h),h]
  have e0:HT.sIx z.length 0 l=0:=by lia
  rw[e0,List.drop_zero,List.take_of_length_le (Nat.le_of_eq el)]
 ·rw[if_neg (by simpa using h)]
  show List.filterMap _ _=_
  by_cases hz:HT.sIx z.length 0 l<=HT.sIx z.length z.length u
  ·exact qod z.cps _ _ (by show _<=z.length;lia)
  ·rw[show HT.sIx z.length z.length u-HT.sIx z.length 0 l=0 by lia]
   simp
def mkS(l:List Nat):Str:=⟨l.toArray⟩
theorem qor(z:Str):mkS z.cps.toList=z:=by unfold mkS;simp
theorem qnn{a b:Str}(h:a.cps.toList=b.cps.toList):a=b:=by rw[←qor a,←qor b,h]
end L2
namespace L2
open PySem PySem.Spec PyProof.Rows
section
variable {X:Cx} {EX:St->XK} {K:PySem.W.Frag} {o e:Expr} {to te:TV} {apos cpos:Pos} {τ:VSt} {σ:St} {B H H0:Hp}
end
end L2
namespace L2
open PySem PySem.W PyProof.Rows
section
variable {α β:Type}
def kRun(lt:Nat->Nat->Bool):KasT α->α
|.ret a=>a
|.ask i j k=>kRun lt (k (lt i j))
def kOk(n:Nat)(lt:Nat->Nat->Bool):KasT α->Prop
|.ret _=>True
|.ask i j k=>i<n/\j<n/\kOk n lt (k (lt i j))
theorem qca(lt:Nat->Nat->Bool)(f:α->KasT β):∀t:KasT α,kRun lt (t.bind f)=kRun lt (f (kRun lt t))
|.ret _=>rfl
|.ask i j k=>qca lt f (k (lt i j))
theorem qcw{n:Nat}{lt:Nat->Nat->Bool}{f:α->KasT β}:∀ {t:KasT α},kOk n lt t->kOk n lt (f (kRun lt t))->kOk n lt (t.bind f)
|.ret _,_,h=>h
|.ask i j k,⟨a,b,c⟩,h=>⟨a,b,qcw c h⟩
theorem qea{lt:Nat->Nat->Bool}{i j:Nat}{b:Bool}{k:Bool->KasT α}(e:lt i j=b):kRun lt (.ask i j k)=kRun lt (k b):=by
 show kRun lt (k (lt i j))=_
 rw[e]
theorem qgk{n:Nat}{lt:Nat->Nat->Bool}{i j:Nat}{b:Bool}{k:Bool->KasT α}(hi:i<n)(hj:j<n)(e:lt i j=b)(h:kOk n lt (k b)):kOk n lt (.ask i j k):=⟨hi,hj,by rw[e];exact h⟩
theorem qsd{cmp:Nat->Nat->(Bool->Shared->Prop)->Shared->Prop}{n:Nat}{lt:Nat->Nat->Bool}{P:Shared->Prop}{Q:α->Shared->Prop}(hc:∀i j C s,i<n->j<n->P s->(∀s',P s'->C (lt i j) s')->cmp i j C s) :
  ∀(t:KasT α) (s:Shared),kOk n lt t->P s->(∀s',P s'->Q (kRun lt t) s')->t.kasWp cmp Q s
|.ret _,s,_,hp,hq=>hq s hp
|.ask i j k,s,⟨hi,hj,hk⟩,hp,hq=>hc i j _ s hi hj hp λs' hp'=>qsd hc (k (lt i j)) s' hk hp' hq
end
structure LtOk(n:Nat)(lt:Nat->Nat->Bool):Prop where
 tr:∀a b c,a<n->b<n->c<n->lt a b=true->lt b c=true->lt a c=true
 as:∀a b,a<n->b<n->lt a b=true->lt b a=false
 tot:∀a b,a<n->b<n->a≠b->lt a b=true\/lt b a=true
section
variable {n:Nat} {lt:Nat->Nat->Bool} {p:Array Nat}
structure PermOk(n:Nat)(p:Array Nat):Prop where
 sz:p.size=n
 lt:∀i,i<n->p.getD i 0<n
 inj:∀i j,i<n->j<n->p.getD i 0=p.getD j 0->i=j
theorem qcs(p:Array Nat)(i:Nat):p.getD i 0=(p[i]?).getD 0:=by
 by_cases h:i<p.size
 ·simp[Array.getD,h]
 ·simp[Array.getD,h]
theorem PermOk.of(hp:p.Perm (List.range n).toArray):PermOk n p where
 sz:=by rw[hp.size_eq];simp
 lt:=λi hi=>by
  have hs:p.size=n:=by rw[hp.size_eq];simp
  have hm:p[i]'(by lia)∈p:=Array.getElem_mem _
  have:p[i]'(by lia)∈(List.range n).toArray:=hp.mem_iff.mp hm
  rw[qcs,Array.getElem?_eq_getElem (by lia)]
  simpa using this
 inj:=λi j hi hj e=>by
  have hs:p.size=n:=by rw[hp.size_eq];simp
  have nd:p.toList.Nodup:=by
   have:=hp.toList
   rw[this.nodup_iff]
   simp[List.nodup_range]
  rw[qcs,qcs,Array.getElem?_eq_getElem (by lia),Array.getElem?_eq_getElem (by lia)] at e
  have e':p.toList[i]'(by simp;lia)=p.toList[j]'(by simp;lia):=by simpa using e
  exact(List.getElem_inj nd).mp e'
def SPr(lt:Nat->Nat->Bool)(p:Array Nat)(k:Nat):Prop:=∀i j,i<j->j<k->lt (p.getD i 0) (p.getD j 0)=true
def DPr(lt:Nat->Nat->Bool)(p:Array Nat)(k:Nat):Prop:=∀i j,i<j->j<k->lt (p.getD j 0) (p.getD i 0)=true
theorem SPr.snoc(L:LtOk n lt)(P:PermOk n p){k:Nat}(h:SPr lt p k)(hk:k<n)(h1:1<=k)(e:lt (p.getD k 0) (p.getD (k-1) 0)=false):SPr lt p (k+1):=λi j hi hj=>by
 have l1:lt (p.getD (k-1) 0) (p.getD k 0)=true:=by
  rcases L.tot _ _ (P.lt (k-1) (by lia)) (P.lt k hk) (λz=>by have:=P.inj _ _ (by lia) hk z;lia) with q|q
  ·exact q
  ·rw[e] at q;cases q
 by_cases hjk:j=k
 ·subst hjk
  by_cases hik:i=j-1
  ·rw[hik];exact l1
  ·exact L.tr _ _ _ (P.lt i (by lia)) (P.lt (j-1) (by lia)) (P.lt j hk) (h i (j-1) (by lia) (by lia)) l1
 ·exact h i j hi (by lia)
theorem DPr.snoc(L:LtOk n lt)(P:PermOk n p){k:Nat}(h:DPr lt p k)(hk:k<n)(h1:1<=k)(e:lt (p.getD k 0) (p.getD (k-1) 0)=true):DPr lt p (k+1):=λi j hi hj=>by
 by_cases hjk:j=k
 ·subst hjk
  by_cases hik:i=j-1
  ·rw[hik];exact e
  ·exact L.tr _ _ _ (P.lt j hk) (P.lt (j-1) (by lia)) (P.lt i (by lia)) e (h i (j-1) (by lia) (by lia))
 ·exact h i j hi (by lia)
theorem qq8(L:LtOk n lt)(P:PermOk n p):∀(f m:Nat),1<=m->m+f<=n->SPr lt p m->kOk n lt (kas_asc p f m)/\∃m',kRun lt (kas_asc p f m)=m'/\m<=m'/\m'<=m+f/\SPr lt p m'/\(m'=m+f\/lt (p.getD m' 0) (p.getD (m' - 1) 0)=true)
|0,m,h1,hf,hs=>⟨trivial,m,rfl,Nat.le_refl _,Nat.le_refl _,hs,.inl rfl⟩
|f+1,m,h1,hf,hs=>by
  cases e:lt (p.getD m 0) (p.getD (m-1) 0) with
 |true =>
   refine⟨qgk (P.lt m (by lia)) (P.lt (m-1) (by lia)) e ?_,m,(qea e).trans ?_,Nat.le_refl _,by lia,hs,.inr e⟩
   ·trivial
   ·rfl
 |false =>
   obtain⟨a,m',r,b,c,d,g⟩:=qq8 L P f (m+1) (by lia) (by lia) (hs.snoc L P (by lia) h1 e)
   refine⟨qgk (P.lt m (by lia)) (P.lt (m-1) (by lia)) e a,m',(qea e).trans r,by lia,by lia,d,?_⟩
   rcases g with g|g
   ·left;lia
   ·exact .inr g
theorem qrm(L:LtOk n lt)(P:PermOk n p):∀(f m:Nat),1<=m->m+f<=n->DPr lt p m->kOk n lt (kas_desc f p m 0)/\∃m',kRun lt (kas_desc f p m 0)=(p,m',0)/\m<=m'/\m'<=m+f/\DPr lt p m'
|0,m,h1,hf,hs=>⟨trivial,m,rfl,Nat.le_refl _,Nat.le_refl _,hs⟩
|f+1,m,h1,hf,hs=>by
  cases e:lt (p.getD m 0) (p.getD (m-1) 0) with
 |true =>
   obtain⟨a,m',b,c,d,g⟩:=qrm L P f (m+1) (by lia) (by lia) (hs.snoc L P (by lia) h1 e)
   exact⟨qgk (P.lt m (by lia)) (P.lt (m-1) (by lia)) e a,m',(qea e).trans b,by lia,by lia,g⟩
 |false =>
   have l1:lt (p.getD (m-1) 0) (p.getD m 0)=true:=by
    rcases L.tot _ _ (P.lt (m-1) (by lia)) (P.lt m (by lia)) (λz=>by have:=P.inj _ _ (by lia) (by lia) z;lia) with q|q
    ·exact q
    ·rw[e] at q;cases q
   exact⟨qgk (P.lt m (by lia)) (P.lt (m-1) (by lia)) e (qgk (P.lt (m-1) (by lia)) (P.lt m (by lia)) l1 trivial),m,(qea e).trans ((qea l1).trans rfl),Nat.le_refl _,by lia,hs⟩
theorem qho{j:Nat}(hj:j<=p.size)(k:Nat):(kas_rev p 0 j).getD k 0=if k<j then p.getD (j-1-k) 0 else p.getD k 0:=by
 rw[qcs,kas_rev,getElem?_mirror_all hj k]
 by_cases h:k<j
 ·rw[if_pos ⟨Nat.zero_le _,h⟩,if_pos h,qcs,Nat.zero_add]
 ·rw[if_neg (λz=>h z.2),if_neg h,qcs]
theorem q0y{j:Nat}(hj:j<=p.size)(h:DPr lt p j):SPr lt (kas_rev p 0 j) j:=λa b hab hb=>by
 rw[qho hj,qho hj,if_pos (by lia),if_pos hb]
 exact h (j-1-b) (j-1-a) (by lia) (by lia)
theorem qws(L:LtOk n lt)(hp:p.Perm (List.range n).toArray){m:Nat}(h1:1<=m)(hm:m<=n)(h:DPr lt p m):kOk n lt (kas_tail3 m n p)/\∃k q,kRun lt (kas_tail3 m n p)=(k,q)/\1<=k/\k<=n/\q.Perm p/\SPr lt q k:=by
 have hq:(kas_rev p 0 m).Perm p:=mirror_perm _ _ _ _
 have P:=PermOk.of (hq.trans hp)
 obtain⟨a,k,r,b,c,d,_⟩:=qq8 L P (n-m) m h1 (by lia) (q0y (by rw[(PermOk.of hp).sz];exact hm) h)
 refine⟨qcw a trivial,k,kas_rev p 0 m,?_,by lia,by lia,hq,d⟩
 unfold kas_tail3
 rw[qca,r]
 rfl
theorem qmh(L:LtOk n lt)(hp:p.Perm (List.range n).toArray){m:Nat}(hm:m+1<=n)(h:DPr lt p (m+1)):kOk n lt (kas_descPart m n p)/\∃k q,kRun lt (kas_descPart m n p)=(k,q)/\1<=k/\k<=n/\q.Perm p/\SPr lt q k:=by
 have P:=PermOk.of hp
 obtain⟨a,m',r,b,c,d⟩:=qrm L P (n-(m+1)) (m+1) (by lia) (by lia) h
 obtain⟨a2,k,q,r2,e⟩:=qws L hp (m:=m') (by lia) (by lia) d
 refine⟨qcw a ?_,k,q,?_,e⟩
 ·rw[r]
  exact a2
 ·unfold kas_descPart
  rw[qca,r]
  exact r2
theorem quw(L:LtOk n lt)(hp:p.Perm (List.range n).toArray)(h1:1<=n):kOk n lt (kas_count n p)/\∃m q,kRun lt (kas_count n p)=(m,q)/\1<=m/\m<=n/\q.Perm p/\SPr lt q m:=by
 have P:=PermOk.of hp
 obtain⟨a,m,r,b,c,d,g⟩:=qq8 L P (n-1) 1 (Nat.le_refl _) (by lia) (λi j hi hj=>by lia)
 by_cases hn:m=n
 ·refine⟨qcw a ?_,m,p,?_,b,by lia,.refl _,d⟩
  ·rw[r,if_pos (by simp[hn])]
   trivial
  ·unfold kas_count
   rw[qca,r,if_pos (by simp[hn])]
   rfl
 ·have ne:¬ (m==n)=true:=by simp[hn]
  by_cases hm:m>1
  ·have e:lt (p.getD 0 0) (p.getD (m-1) 0)=true:=d 0 (m-1) (by lia) (by lia)
   refine⟨qcw a ?_,m,p,?_,b,by lia,.refl _,d⟩
   ·rw[r,if_neg ne,if_pos hm]
    exact qgk (P.lt 0 (by lia)) (P.lt (m-1) (by lia)) e trivial
   ·unfold kas_count
    rw[qca,r,if_neg ne,if_pos hm,qea e]
    rfl
  ·have hm1:m=1:=by lia
   have e:lt (p.getD 1 0) (p.getD 0 0)=true:=by
    rcases g with g|g
    ·exact absurd (by lia) hn
    ·rw[hm1] at g;exact g
   have D2:DPr lt p (m+1):=λi j hi hj=>by
    have:i=0:=by lia
    have:j=1:=by lia
    subst_vars
    exact e
   obtain⟨a2,k,q,r2,e2⟩:=qmh L hp (m:=m) (by lia) D2
   refine⟨qcw a ?_,k,q,?_,e2⟩
   ·rw[r,if_neg ne,if_neg hm]
    exact a2
   ·unfold kas_count
    rw[qca,r,if_neg ne,if_neg hm]
    exact r2
theorem qjs(L:LtOk n lt)(P:PermOk n p){k:Nat}(hk:k<n):∀(f l r:Nat),l<=r->r<=k->r-l<=f->SPr lt p k->(∀i,i<l->lt (p.getD i 0) (p.getD k 0)=true)->(∀i,r<=i->i<k->lt (p.getD k 0) (p.getD i 0)=true) ->
  kOk n lt (kas_place p k f l r)/\∃l',kRun lt (kas_place p k f l r)=l'/\l'<=k/\(∀i,i<l'->lt (p.getD i 0) (p.getD k 0)=true)/\(∀i,l'<=i->i<k->lt (p.getD k 0) (p.getD i 0)=true)
|0,l,r,hlr,hrk,hf,hs,h1,h2=>by
  have:l=r:=by lia
  subst this
  exact⟨trivial,l,rfl,hrk,h1,h2⟩
|f+1,l,r,hlr,hrk,hf,hs,h1,h2=>by
  unfold kas_place
  by_cases hge:l≥r
  ·have:l=r:=by lia
   subst this
   rw[if_pos hge]
   exact⟨trivial,l,rfl,hrk,h1,h2⟩
  ·rw[if_neg hge]
   have hmk:(l+r) / 2<k:=by lia
   cases e:lt (p.getD k 0) (p.getD ((l+r) / 2) 0) with
  |true =>
    obtain⟨a,l',q,b,c,d⟩:=qjs L P hk f l ((l+r) / 2) (by lia) (by lia) (by lia) hs h1 (λi hi hik=>by
     by_cases z:i=(l+r) / 2
     ·rw[z];exact e
     ·exact L.tr _ _ _ (P.lt k hk) (P.lt _ (by lia)) (P.lt i (by lia)) e (hs ((l+r) / 2) i (by lia) hik))
    exact⟨qgk (P.lt k hk) (P.lt _ (by lia)) e a,l',(qea e).trans q,b,c,d⟩
  |false =>
    have l1:lt (p.getD ((l+r) / 2) 0) (p.getD k 0)=true:=by
     rcases L.tot _ _ (P.lt ((l+r) / 2) (by lia)) (P.lt k hk) (λz=>by have:=P.inj _ _ (by lia) hk z;lia) with q|q
     ·exact q
     ·rw[e] at q;cases q
    obtain⟨a,l',q,b,c,d⟩:=qjs L P hk f ((l+r) / 2+1) r (by lia) hrk (by lia) hs (λi hi=>by
     by_cases z:i=(l+r) / 2
     ·rw[z];exact l1
     ·exact L.tr _ _ _ (P.lt i (by lia)) (P.lt ((l+r) / 2) (by lia)) (P.lt k hk) (hs i ((l+r) / 2) (by lia) hmk) l1) h2
    exact⟨qgk (P.lt k hk) (P.lt _ (by lia)) e a,l',(qea e).trans q,b,c,d⟩
theorem qme{src d:Nat}(hs:src<p.size)(hd:d<=src)(k:Nat):(bubble p src d).getD k 0=if k=src-d then p.getD src 0 else if src-d<k/\k<=src then p.getD (k-1) 0 else p.getD k 0:=by
 rw[qcs,getElem?_bubble hs d hd k]
 by_cases h1:k=src-d
 ·rw[if_pos h1,if_pos h1,qcs]
 ·rw[if_neg h1,if_neg h1]
  by_cases h2:src-d<k/\k<=src
  ·rw[if_pos h2,if_pos h2,qcs]
  ·rw[if_neg h2,if_neg h2,qcs]
theorem qw4(L:LtOk n lt):∀(f k:Nat) (p:Array Nat),p.Perm (List.range n).toArray->1<=k->k+f<=n->SPr lt p k->kOk n lt (kas_bin f p k)/\∃q,kRun lt (kas_bin f p k)=q/\q.Perm p/\SPr lt q (k+f)
|0,k,p,hp,h1,hf,hs=>⟨trivial,p,rfl,.refl _,hs⟩
|f+1,k,p,hp,h1,hf,hs=>by
  have P:=PermOk.of hp
  obtain⟨a,l,r,b,c,d⟩:=qjs L P (k:=k) (by lia) k 0 k (Nat.zero_le _) (Nat.le_refl _) (by lia) hs (λi hi=>by lia) (λi hi hk=>by lia)
  have hq:(bubble p k (k-l)).Perm p:=bubble_perm _ _ _
  have G:=qme (p:=p) (src:=k) (d:=k-l) (by rw[P.sz];lia) (by lia)
  have hs2:SPr lt (bubble p k (k-l)) (k+1):=λi j hi hj=>by
   rw[G i,G j]
   have ekl:k-(k-l)=l:=by lia
   rw[ekl]
   by_cases i1:i=l
   ·rw[if_pos i1,if_neg (by lia),if_pos (by lia)]
    exact d (j-1) (by lia) (by lia)
   ·rw[if_neg i1]
    by_cases j1:j=l
    ·rw[if_pos j1,if_neg (by lia)]
     exact c i (by lia)
    ·rw[if_neg j1]
     by_cases i2:l<i
     ·rw[if_pos (by lia),if_pos (by lia)]
      exact hs (i-1) (j-1) (by lia) (by lia)
     ·rw[if_neg (by lia)]
      by_cases j2:l<j
      ·rw[if_pos (by lia)]
       exact hs i (j-1) (by lia) (by lia)
      ·rw[if_neg (by lia)]
       exact hs i j hi (by lia)
  obtain⟨a2,q,r2,e1,e2⟩:=qw4 L f (k+1) _ (hq.trans hp) (by lia) (by lia) hs2
  refine⟨qcw a (by rw[r];exact a2),q,?_,e1.trans hq,by rw[show k+(f+1)=k+1+f by lia];exact e2⟩
  unfold kas_bin
  rw[qca,r]
  exact r2
theorem q05(L:LtOk n lt)(h1:1<=n):kOk n lt (kas_sort n)/\∃q,kRun lt (kas_sort n)=q/\q.Perm (List.range n).toArray/\SPr lt q n:=by
 obtain⟨a,m,q,r,b,c,d,e⟩:=quw L (.refl _) h1
 by_cases hm:m<n
 ·obtain⟨a2,q2,r2,e1,e2⟩:=qw4 L (n-max m 1) (max m 1) q d (by lia) (by lia) (by rw[Nat.max_eq_left b];exact e)
  refine⟨qcw a ?_,q2,?_,e1.trans d,?_⟩
  ·rw[r,if_pos hm]
   exact a2
  ·unfold kas_sort
   rw[qca,r,if_pos hm]
   exact r2
  ·rw[show max m 1+(n-max m 1)=n by lia] at e2
   exact e2
 ·have:m=n:=by lia
  subst this
  refine⟨qcw a ?_,q,?_,d,e⟩
  ·rw[r,if_neg hm]
   trivial
  ·unfold kas_sort
   rw[qca,r,if_neg hm]
   rfl
end
end L2
namespace L2
open PySem PySem.Spec PyProof.Rows PySem.W
def LtA(A:Around)(s:Shared)(x y:Value)(c:Bool):Prop:=∀(prog:Program) (w:World) (E:Value->Shared->Prop) (Q:Value->Shared->Prop),Q (.bool c) s->wpAny (model prog w) A (richCompare .Lt x y) Q E s
def LtC(A:Around)(s:Shared)(p q:Addr)(c:Bool):Prop:=∀(prog:Program) (w:World) (E:Value->Shared->Prop) (Q:Value->Shared->Prop),Q (.bool c) s->wpAny (model prog w) A (call (.builtin "tuple.__lt__") [.ref p,.ref q]) Q E s
def lexV(e l:Nat->Bool)(z:Bool):Nat->Nat->Bool
|0,_=>z
|k+1,i=>if e i=true then lexV e l z k (i+1) else l i
theorem qx6(p q:Addr)(us ws:Array Value)(m k:Nat)(dp dq:Option Addr)(sp sq:Array (Option Value))(e c:Nat->Bool) :
  Meets (Builtin.«tuple.__lt__» ⟨[.ref p,.ref q],[]⟩)
   (λA R s=>s.heap.get? p=some { cls:=.type "tuple",dict:=dp,data:=.seq us m,slots:=sp }/\s.heap.get? q=some { cls:=.type "tuple",dict:=dq,data:=.seq ws k,slots:=sq } /\
    (∀j (h1:j<us.size) (h2:j<ws.size),SeqAt.EqAt A.in1 s us[j] ws[j] (e j))/\(∀j (h1:j<us.size) (h2:j<ws.size),e j=false->LtA A.in1 s us[j] ws[j] (c j)) /\
    R (.ok (.ret (.bool (lexV e c (decide (us.size<ws.size)) (min us.size ws.size) 0)))) s) :=
 .of_wp λprog w A R s h=>by
  obtain⟨h1,g1,d1,t1,o1⟩:=s
  obtain⟨hl,hb,he,hc,hR0⟩:=h
  have f2:=AutoSeq1.sub_tuple_tuple
  have hZ:(us.toList.zip ws.toList).length=min us.size ws.size:=by simp
  wp_walk using wpAny_loadPart' hl,wpAny_loadPart' hb,wpAny_forIn_list _ (λrest b s'=>b.1=none/\s'=⟨h1,g1,d1,t1,o1⟩/\∃i k,i+k=min us.size ws.size/\rest=(us.toList.zip ws.toList).drop i /\
   R (.ok (.ret (.bool (lexV e c (decide (us.size<ws.size)) k i)))) ⟨h1,g1,d1,t1,o1⟩) _
  case turn =>
   rintro⟨y,x⟩ rest b s' ⟨hb',rfl,i,k,hik,hz,hR⟩
   have hm:i<(us.toList.zip ws.toList).length:=by
    apply Nat.lt_of_not_le
    intro z
    rw[List.drop_of_length_le z] at hz
    cases hz
   have l1:i<us.size:=by lia
   have l2:i<ws.size:=by lia
   rw[List.drop_eq_getElem_cons hm] at hz
   injection hz with hyx hrest
   obtain rfl:y=us[i]:=by simpa using congrArg Prod.fst hyx
   obtain rfl:x=ws[i]:=by simpa using congrArg Prod.snd hyx
   obtain⟨k,rfl⟩:∃k',k=k'+1:=⟨k-1,by lia⟩
   have hR':R (.ok (.ret (.bool (if e i=true then lexV e c (decide (us.size<ws.size)) k (i+1) else c i)))) ⟨h1,g1,d1,t1,o1⟩:=hR
   refine wpAny_bind (he i l1 l2 prog w _ _ ?_)
   cases hy:e i with
  |true =>
    rw[hy,if_pos rfl] at hR'
    wp_walk
    exact⟨rfl,rfl,i+1,k,by lia,hrest,hR'⟩
  |false =>
    rw[hy,if_neg (by decide)] at hR'
    simp only[Bool.not_false,if_true]
    refine wpAny_bind (wpAny_rule (wpAny_bind (hc i l1 l2 hy prog w _ _ ?_)))
    wp_walk
    exact⟨_,rfl,hR'⟩
  case fin =>
   rintro⟨b1,b2⟩ s' ⟨hb',rfl,i,k,hik,hz,hR⟩
   simp only at hb'
   subst hb'
   have hk:k=0:=by
    rcases Nat.lt_or_ge i (us.toList.zip ws.toList).length with z|z
    ·rw[List.drop_eq_getElem_cons z] at hz;cases hz
    ·lia
   subst hk
   wp_walk
   exact⟨_,rfl,by simpa [Builtin.Tuple.tupleCompareSizes,lexV] using hR⟩
  case h =>
   exact⟨rfl,rfl,0,_,Nat.zero_add _,rfl,hR0⟩
section
variable {A:Around} {s:Shared} {p q:Addr} {us ws:Array Value} {e c:Nat->Bool}
theorem LtA.tups(hp:s.heap.IsTuple p us)(hq:s.heap.IsTuple q ws)(hu:A.units<cLine)(he:∀j (h1:j<us.size) (h2:j<ws.size),SeqAt.EqAt A.in1 s us[j] ws[j] (e j))
  (hc:∀j (h1:j<us.size) (h2:j<ws.size),e j=false->LtA A.in1 s us[j] ws[j] (c j)):LtA A s (.ref p) (.ref q) (lexV e c (decide (us.size<ws.size)) (min us.size ws.size) 0)/\LtC A s p q (lexV e c (decide (us.size<ws.size)) (min us.size ws.size) 0):=by
 obtain⟨⟨cl1,dp,da1,sp⟩,o1,z1,m,y1⟩:=id hp
 obtain⟨⟨cl2,dq,da2,sq⟩,o2,z2,k,y2⟩:=id hq
 cases z1;cases y1;cases z2;cases y2
 refine⟨λprog w E Q h=>?_,λprog w E Q h=>call_meets F.slot_tuple_lt ⟨_,o1,rfl⟩ F.entry_tuple_lt (F.args_tuple_lt_2 _ _) (qx6 p q us ws m k dp dq sp sq e c) ⟨o1,o2,he,hc,h⟩⟩
 exact richCompare_meets_room (op:=.Lt) ⟨_,o1,rfl⟩ ⟨_,o2,rfl⟩ F.slot_tuple_lt F.entry_tuple_lt (F.args_tuple_lt_2 _ _) (qx6 p q us ws m k dp dq sp sq e c) ⟨o1,o2,he,hc,(λx=>nomatch x),h⟩ hu
theorem LtA.strs{a b:Str}{t u:Tok}:LtA A s (.str a t) (.str b u) (decide (a.cps.toList<b.cps.toList)):=λprog w E Q h=>by
 refine wpAny_richCompare_same_or (typeIs_str s a t) (typeIs_str s b u) slot_str_lt (call_str_lt (Q:=λv s'=>v≠.notImplemented/\Q v s') ⟨(λx=>nomatch x),h⟩) (.inl rfl)
end
mutual
noncomputable def ltD:D->D->Bool
|.str a,.str b=>decide (a.cps.toList<b.cps.toList)
|.tup ds,.tup es=>ltDs ds es
|_,_=>false
noncomputable def ltDs:List D->List D->Bool
|[],[]=>false
|[],_::_=>true
|_::_,[]=>false
|d::ds,e::es=>if eqD d e=true then ltDs ds es else ltD d e
end
mutual
def ordD:D->D->Bool
|.str _,.str _=>true
|.tup ds,.tup es=>qdq ds es
|_,_=>false
def qdq:List D->List D->Bool
|d::ds,e::es=>ordD d e&&qdq ds es
|_,_=>true
end
mutual
theorem qs8:∀(d e:D),ordD d e=true->cmpD d e=true
|.str _,e,h=>by
  cases e<;>first|rfl|(unfold ordD at h;cases h)
|.tup ds,e,h=>by
  cases e<;>first|(unfold ordD at h;cases h;done)|skip
  rename_i es
  unfold ordD at h
  unfold cmpD
  exact qjr ds es h
|.non,e,h=>by unfold ordD at h;cases h
|.bl _,e,h=>by unfold ordD at h;cases h
|.int _,e,h=>by unfold ordD at h;cases h
|.lst _,e,h=>by unfold ordD at h;cases h
|.dT _ _,e,h=>by unfold ordD at h;cases h
|.dK _ _,e,h=>by unfold ordD at h;cases h
|.scr _,e,h=>by unfold ordD at h;cases h
|.kt _,e,h=>by unfold ordD at h;cases h
|.exc _,e,h=>by unfold ordD at h;cases h
theorem qjr:∀(ds es:List D),qdq ds es=true->qcp ds es=true
|[],_,_=>by unfold qcp;rfl
|_::_,[],_=>by unfold qcp;rfl
|d::ds,e::es,h=>by
  unfold qdq at h
  rw[Bool.and_eq_true] at h
  unfold qcp
  rw[qs8 d e h.1,qjr ds es h.2]
  rfl
end
theorem qoz:∀ {ds es:List D} {j:Nat} {d e:D},qdq ds es=true->ds[j]?=some d->es[j]?=some e->ordD d e=true
|[],_,j,_,_,_,q,_=>by simp at q
|_::_,[],j,_,_,_,_,q=>by simp at q
|d::ds,e::es,0,_,_,h,q1,q2=>by
  unfold qdq at h
  rw[Bool.and_eq_true] at h
  simp at q1 q2
  rw[←q1,←q2]
  exact h.1
|d::ds,e::es,j+1,_,_,h,q1,q2=>by
  unfold qdq at h
  rw[Bool.and_eq_true] at h
  exact qoz h.2 (by simpa using q1) (by simpa using q2)
theorem qir(e l:Nat->Bool)(z:Bool):∀k i,lexV e l z k (i+1)=lexV (λj=>e (j+1)) (λj=>l (j+1)) z k i
|0,_=>rfl
|k+1,i=>by
  show (if e (i+1)=true then lexV e l z k (i+1+1) else l (i+1))=if e (i+1)=true then lexV (λj=>e (j+1)) (λj=>l (j+1)) z k (i+1) else l (i+1)
  rw[qir e l z k (i+1)]
theorem qxj:∀ds es:List D,lexV (λj=>eqD (ds.getD j .non) (es.getD j .non)) (λj=>ltD (ds.getD j .non) (es.getD j .non)) (decide (ds.length<es.length)) (min ds.length es.length) 0=ltDs ds es
|[],[]=>by unfold ltDs;rfl
|[],_::_=>by unfold ltDs;simp[lexV]
|_::_,[]=>by unfold ltDs;simp[lexV]
|d::ds,e::es=>by
  have ih:=qxj ds es
  rw[List.length_cons,List.length_cons,Nat.add_min_add_right]
  show (if eqD d e=true then lexV _ _ _ (min ds.length es.length) (0+1) else ltD d e)=_
  rw[qir]
  unfold ltDs
  have ed:decide (ds.length+1<es.length+1)=decide (ds.length<es.length):=decide_eq_decide.mpr (by lia)
  rw[ed]
  have h2:lexV (λj=>eqD ((d::ds).getD (j+1) .non) ((e::es).getD (j+1) .non)) (λj=>ltD ((d::ds).getD (j+1) .non) ((e::es).getD (j+1) .non)) (decide (ds.length<es.length)) (min ds.length es.length) 0=ltDs ds es:=ih
  rw[h2]
section
variable {X:Cx} {pins:List (Addr×Obj)} {σ:St} {H:Hp} {s:Shared}
theorem qxo{A:Around}(I:Inv X pins σ H s){a b:Addr}{ds es:List D}{xs ys:List V}(ha:SqT X.K H a xs)(hb:SqT X.K H b ys)(r1:Reps X.K H ds xs)(r2:Reps X.K H es ys)(ho:qdq ds es=true)(hu:A.units+qcd ds+1<cLine)
  (ih:∀d∈ds,∀(e:D) (v z:V) (u w:Value),Rep X.K H d v->Rep X.K H e z->RelV v u->RelV z w->ordD d e=true->LtA A.in1 s u w (ltD d e)):LtA A s (.ref a) (.ref b) (ltDs ds es)/\LtC A s a b (ltDs ds es):=by
 obtain⟨its,v1,p1,_⟩:=I.tuple ha
 obtain⟨its2,v2,p2,_⟩:=I.tuple hb
 have hc:=qjr ds es ho
 have ihe:∀d∈ds,∀(e:D) (v z:V) (u w:Value),Rep X.K H d v->Rep X.K H e z->RelV v u->RelV z w->cmpD d e=true->SeqAt.EqAt A.in1 s u w (eqD d e):=λd hd e v z u w h1 h2 h3 h4 h5 =>
  qgn I _ A.in1 d e v z u w (Nat.le_refl _) h1 h2 h3 h4 h5 (by have:=qck hd;have un:A.in1.units=A.units+1:=rfl;lia)
 have:=LtA.tups (A:=A) (s:=s) (e:=λj=>eqD (ds.getD j .non) (es.getD j .non)) (c:=λj=>ltD (ds.getD j .non) (es.getD j .non)) (show s.heap.IsTuple a its.toArray from p1) (show s.heap.IsTuple b its2.toArray from p2) (by lia) (qhe r1 r2 v1 v2 hc ihe) ?_
 ·rw[List.size_toArray,List.size_toArray,←v1.length,←v2.length,←r1.length,←r2.length,qxj] at this
  exact this
 ·intro j h1 h2 _
  have l1:j<ds.length:=by rw[r1.length,v1.length];simpa using h1
  have l2:j<es.length:=by rw[r2.length,v2.length];simpa using h2
  obtain⟨x,qx,rx⟩:=r1.at (List.getElem?_eq_getElem l1)
  obtain⟨y,qy,ry⟩:=r2.at (List.getElem?_eq_getElem l2)
  obtain⟨ux,e1,rux⟩:=v1.get qx
  obtain⟨uy,e2,ruy⟩:=v2.get qy
  have e1':its.toArray[j]=ux:=by
   have z:its[j]?=some its.toArray[j]:=by simp
   rw[e1] at z
   exact(Option.some.inj z).symm
  have e2':its2.toArray[j]=uy:=by
   have z:its2[j]?=some its2.toArray[j]:=by simp
   rw[e2] at z
   exact(Option.some.inj z).symm
  have e3:ds.getD j .non=ds[j]:=by simp[List.getD_eq_getElem?_getD,l1]
  have e4:es.getD j .non=es[j]:=by simp[List.getD_eq_getElem?_getD,l2]
  rw[e1',e2',e3,e4]
  exact ih ds[j] (List.getElem_mem l1) es[j] x y ux uy rx ry rux ruy (qoz ho (List.getElem?_eq_getElem l1) (List.getElem?_eq_getElem l2))
theorem qsv(I:Inv X pins σ H s):∀(n:Nat) (A:Around) (d e:D) (v z:V) (u w:Value),sizeOf d<=n->Rep X.K H d v->Rep X.K H e z->RelV v u->RelV z w->ordD d e=true->A.units+depD d<cLine->LtA A s u w (ltD d e)
|0,_,d,_,_,_,_,_,hn,_,_,_,_,_,_=>by cases d<;>simp at hn
|n+1,A,d,e,v,z,u,w,hn,hd,he,ru,rw',ho,hu=>by
  have un:A.in1.units=A.units+1:=rfl
  cases d with
 |str a =>
   cases e with
  |str b =>
    unfold Rep at hd he
    subst hd he
    obtain⟨t1,rfl⟩:=ru
    obtain⟨t2,rfl⟩:=rw'
    unfold ltD
    exact LtA.strs
  |_=>unfold ordD at ho;cases ho
 |tup ds =>
   cases e with
  |tup es =>
    unfold Rep at hd he
    obtain⟨a,xs,rfl,ha,r1⟩:=hd
    obtain⟨b,ys,rfl,hb,r2⟩:=he
    cases ru
    cases rw'
    unfold ordD at ho
    unfold ltD
    unfold depD at hu
    refine(qxo I ha.sq hb.sq r1 r2 ho (by lia) λd hd e v z u w h1 h2 h3 h4 h5=>qsv I n A.in1 d e v z u w ?_ h1 h2 h3 h4 h5 ?_).1
    ·have:=List.sizeOf_lt_of_mem hd
     simp at hn
     lia
    ·have:=qck hd
     lia
  |_=>unfold ordD at ho;cases ho
 |_=>unfold ordD at ho;cases ho
end
end L2
namespace L2
open PySem PySem.Spec PyProof.Rows PySem.W
section
variable {X:Cx} {pins:List (Addr×Obj)} {σ:St} {H:Hp} {s:Shared} {E:Value->Shared->Prop}
theorem qnb(I:Inv X pins σ H s){A:Around}(c:Bool){d e:D}{v z:V}{u w:Value}{Q:Bool->Shared->Prop}(hd:Rep X.K H d v)(he:Rep X.K H e z)(ru:RelV v u)(rw':RelV z w)(ho:ordD d e=true)(hu:A.units+depD d+1<cLine)(h:Q (ltD d e) s) :
  wpAny (model X.prog X.w) A (oneLt' c u w) Q E s:=by
 have L:=qsv I _ A d e v z u w (Nat.le_refl _) hd he ru rw' ho (by lia)
 cases c with
|false=>exact kat_one u w (L X.prog X.w E (PySem.W.BoolBack Q) h)
|true =>
  cases d with
 |str a =>
   cases e with
  |str b =>
    unfold Rep at hd he
    subst hd he
    obtain⟨t1,rfl⟩:=ru
    obtain⟨t2,rfl⟩:=rw'
    unfold ltD at h
    exact oneLt_str h
  |_=>unfold ordD at ho;cases ho
 |tup ds =>
   cases e with
  |tup es =>
    unfold Rep at hd he
    obtain⟨a,xs,rfl,ha,r1⟩:=hd
    obtain⟨b,ys,rfl,hb,r2⟩:=he
    cases ru
    cases rw'
    unfold ordD at ho
    unfold ltD at h
    unfold depD at hu
    have C:=(qxo (A:=A) I ha.sq hb.sq r1 r2 ho (by lia) λd hd e v z u w h1 h2 h3 h4 h5=>qsv I _ A.in1 d e v z u w (Nat.le_refl _) h1 h2 h3 h4 h5 (by have:=qck hd;have un:A.in1.units=A.units+1:=rfl;lia)).2
    obtain⟨its,_,pl,_⟩:=I.tuple ha.sq
    rw[oneLt'_eq]
    simp only[if_true]
    refine wpAny_bind (wpAny_cRoomFor (by lia) (wpAny_bind (wpAny_callSpecialIfBound?_slot pl.typeIs F.slot_tuple_lt (C X.prog X.w _ _ ?_))))
    exact wpAny_truthy_bool h
  |_=>unfold ordD at ho;cases ho
 |_=>unfold ordD at ho;cases ho
theorem q2l(I:Inv X pins σ H s){A:Around}{b z:Bool}{Q:Bool->Shared->Prop}:∀(ds es:List D) (xs ys:List V) (us ws:List Value) (i:Nat),Reps X.K H ds xs->Reps X.K H es ys->Vals xs us->Vals ys ws->qdq ds es=true->A.units+qcd ds+1<cLine->decide (ds.length<es.length)=z->Q (ltDs ds es) s ->
  KatLex X.prog X.w A b z Q (us.zip ws) i s
|[],es,xs,ys,us,ws,i,r1,r2,v1,v2,ho,hu,hz,h=>by
  have e1:=r1.length
  have e2:=v1.length
  have:us=[]:=List.length_eq_zero_iff.mp (by rw[←e2,←e1];rfl)
  subst this
  rw[List.zip_nil_left]
  refine kat_nil ?_
  cases es with
 |nil=>unfold ltDs at h;rw[←hz];exact h
 |cons e es=>unfold ltDs at h;rw[←hz];simpa using h
|d::ds,[],xs,ys,us,ws,i,r1,r2,v1,v2,ho,hu,hz,h=>by
  have e1:=r2.length
  have e2:=v2.length
  have:ws=[]:=List.length_eq_zero_iff.mp (by rw[←e2,←e1];rfl)
  subst this
  rw[List.zip_nil_right]
  refine kat_nil ?_
  unfold ltDs at h
  rw[←hz]
  simpa using h
|d::ds,e::es,xs,ys,us,ws,i,r1,r2,v1,v2,ho,hu,hz,h=>by
  unfold Reps at r1 r2
  obtain⟨x,xs,rfl,rx,r1⟩:=r1
  obtain⟨y,ys,rfl,ry,r2⟩:=r2
  cases v1 with
 |cons ru v1 =>
  cases v2 with
 |cons rw' v2 =>
  rename_i u us w ws
  unfold qdq at ho
  rw[Bool.and_eq_true] at ho
  have hd1:depD d<=qcd (d::ds):=qck (List.mem_cons_self ..)
  have hd2:qcd ds<=qcd (d::ds):=by show _<=max (depD d) (qcd ds);lia
  show KatLex X.prog X.w A b z Q ((u,w)::us.zip ws) i s
  refine kat_cons (qgn I _ A d e x y u w (Nat.le_refl _) rx ry ru rw' (qs8 d e ho.1) (by lia) X.prog X.w _ _ ?_)
  unfold ltDs at h
  cases he:eqD d e with
 |true =>
   rw[he,if_pos rfl] at h
   refine kat_yes (q2l I ds es xs ys us ws (i+1) r1 r2 v1 v2 ho.2 (by lia) ?_ h)
   rw[←hz,List.length_cons,List.length_cons]
   exact decide_eq_decide.mpr (by lia)
 |false =>
   rw[he,if_neg (by decide)] at h
   exact kat_no (qnb I _ rx ry ru rw' ho.1 (by lia) h)
theorem qy5(I:Inv X pins σ H s){A:Around}(κ:SortKind){ds es:List D}{v z:V}{u w:Value}{Q:Bool->Shared->Prop}(hd:Rep X.K H (.tup ds) v)(he:Rep X.K H (.tup es) z)(ru:RelV v u)(rw':RelV z w)(ho:qdq ds es=true)(hu:A.units+qcd ds+2<cLine)(h:Q (ltDs ds es) s) :
  wpAny (model X.prog X.w) A (keyLt' κ u w) Q E s:=by
 have hl:ltD (.tup ds) (.tup es)=ltDs ds es:=by unfold ltD;rfl
 have ho':ordD (.tup ds) (.tup es)=true:=by unfold ordD;exact ho
 have hdp:depD (.tup ds)=qcd ds+1:=by unfold depD;rfl
 have one:∀c,wpAny (model X.prog X.w) A (oneLt' c u w) Q E s:=λc=>qnb I c hd he ru rw' ho' (by lia) (by rw[hl];exact h)
 cases κ with
|general=>exact one false
|oneType=>exact one true
|tuples b =>
  unfold Rep at hd he
  obtain⟨a,xs,rfl,ha,r1⟩:=hd
  obtain⟨c,ys,rfl,hb,r2⟩:=he
  cases ru
  cases rw'
  obtain⟨its,v1,p1,_⟩:=I.tuple ha.sq
  obtain⟨its2,v2,p2,_⟩:=I.tuple hb.sq
  obtain⟨o1,q1,_,n1,y1⟩:=id p1
  obtain⟨o2,q2,_,n2,y2⟩:=id p2
  refine kat_lt q1 y1 q2 y2 ?_
  refine q2l I ds es xs ys _ _ 0 r1 r2 v1 v2 ho (by lia) ?_ h
  rw[r1.length,r2.length,v1.length,v2.length]
  simp
end
end L2
namespace L2
open PySem PySem.Spec PyProof.Rows PySem.W
section
variable {M:Model} {A:Around} {E:Value->Shared->Prop} {s:Shared}
theorem qjj{α β:Type}{f:α->Sem β}{P:β->Prop}:∀(l:List α) {Q:List β->Shared->Prop},(∀v∈l,∀(Q':β->Shared->Prop),(∀r,P r->Q' r s)->wpAny M A (f v) Q' E s)->(∀rs,(∀r∈rs,P r)->Q rs s)->wpAny M A (l.mapM f) Q E s
|[],_,_,h=>by rw[List.mapM_nil];exact wpAny_pure (h [] (by simp))
|x::l,Q,hf,h=>by
  rw[List.mapM_cons]
  refine wpAny_bind (hf x (List.mem_cons_self ..) _ λr hr=>wpAny_bind (qjj l (λv hv=>hf v (List.mem_cons_of_mem _ hv)) λrs hrs=>wpAny_pure (h _ λy hy=>?_)))
  rcases List.mem_cons.mp hy with rfl|hy
  ·exact hr
  ·exact hrs y hy
def TyOk(h:Heap)(u:Value):Prop:=∃T,∀M:Model,Looks M h (typeOf u) T
theorem qhq{vs:Array Value}{Q:Option Value->Shared->Prop}(ht:∀u∈vs.toList,TyOk s.heap u)(h:∀r,Q r s):wpAny M A (oneTypeOnly' vs) Q E s:=by
 rw[oneTypeOnly'_eq]
 obtain⟨vs⟩:=vs
 rw[List.mapM_toArray,map_eq_pure_bind]
 refine wpAny_bind (wpAny_bind (qjj (P:=λ_=>True) vs (λv hv Q' hq=>?_) λrs _=>wpAny_pure ?_))
 ·obtain⟨T,hT⟩:=ht v hv
  exact(hT M).here (hq T trivial)
 ·cases rs.toArray[0]? with
 |none=>exact wpAny_pure (h _)
 |some t=>exact wpAny_pure (h _)
theorem kind_any{vs:List Value}{Q:SortKind->Shared->Prop}(ht:∀v∈vs,∃(a:Addr) (o:Obj) (us:Array Value) (n:Nat),v=.ref a/\s.heap.get? a=some o/\o.cls=.type "tuple" /\ o.data=.seq us n/\∀f,us[0]?=some f->TyOk s.heap f)(h:∀κ,Q κ s):wpAny M A (keyKind' vs.toArray) Q E s:=by
 have tr:∀(a:Addr) (o:Obj),s.heap.get? a=some o->∀M:Model,Looks M s.heap (typeOf (.ref a)) o.cls:=λa o ho M=>(Looks.ld ho).andThen .now
 rw[keyKind'_eq,List.mapM_toArray,map_eq_pure_bind]
 refine wpAny_bind (wpAny_bind (qjj (P:=λr=>∀f,r=some f->TyOk s.heap f) vs (λv hv Q' hq=>?_) λrs hrs=>wpAny_pure ?_))
 ·obtain⟨a,o,us,n,rfl,ho,hc,hd,hf⟩:=ht v hv
  rw[kas_first_eq]
  refine wpAny_bind ((tr a o ho M).here ?_)
  rw[hc,if_neg (by simp)]
  exact wpAny_bind (listItems_at ho hd (wpAny_pure (hq _ λf e=>hf f e)))
 ·split
  ·refine wpAny_bind (wpAny_rule (wpAny_bind (qhq (λu hu=>?_) λr=>wpAny_pure (h _))))
   have hu':u∈rs.filterMap id:=by simpa using hu
   obtain⟨r,hr,e⟩:=List.mem_filterMap.mp hu'
   exact hrs r hr u e
  ·split
   ·exact wpAny_pure (h _)
   ·refine wpAny_bind (qhq (λu hu=>?_) λr=>?_)
    ·obtain⟨a,o,us,n,rfl,ho,_⟩:=ht u hu
     exact⟨o.cls,tr a o ho⟩
    ·split<;>exact wpAny_pure (h _)
end
section
variable {K:PySem.W.Frag} {H:Hp}
theorem Reps.pick{ds:List D}{xs:List V}(r:Reps K H ds xs):∀l:List Nat,(∀i∈l,i<ds.length)->Reps K H (l.map λi=>ds.getD i .non) (l.map λi=>xs.getD i .non)
|[],_=>.nil
|i::l,h=>by
  have hi:=h i (List.mem_cons_self ..)
  obtain⟨x,hx,rx⟩:=r.at (List.getElem?_eq_getElem hi)
  refine .cons ?_ (r.pick l λj hj=>h j (List.mem_cons_of_mem _ hj))
  have e1:ds.getD i .non=ds[i]:=by simp[List.getD_eq_getElem?_getD,hi]
  have e2:xs.getD i .non=x:=by simp[List.getD_eq_getElem?_getD,hx]
  show Rep K H (ds.getD i .non) (xs.getD i .non)
  rw[e1,e2]
  exact rx
theorem Vals.pick{xs:List V}{us:List Value}(r:Vals xs us):∀l:List Nat,(∀i∈l,i<xs.length)->Vals (l.map λi=>xs.getD i .non) (l.map λi=>us.getD i Value.none)
|[],_=>.nil
|i::l,h=>by
  have hi:=h i (List.mem_cons_self ..)
  obtain⟨u,hu,ru⟩:=r.get (List.getElem?_eq_getElem hi)
  refine .cons ?_ (Vals.pick r l λj hj=>h j (List.mem_cons_of_mem _ hj))
  have e1:xs.getD i .non=xs[i]:=by simp[List.getD_eq_getElem?_getD,hi]
  have e2:us.getD i Value.none=u:=by simp[List.getD_eq_getElem?_getD,hu]
  show RelV (xs.getD i .non) (us.getD i Value.none)
  rw[e1,e2]
  exact ru
end
def q2h:D->Bool
|.str _=>true
|.tup _=>true
|_=>false
structure SortD(ds:List D):Prop where
 tup:(∀d∈ds,∃es,d=.tup es/\qcd es<=20/\∀x,es[0]?=some x->q2h x=true)\/∀d∈ds,∃z,d=.str z
 ord:∀d∈ds,∀e∈ds,ordD d e=true
 tr:∀a∈ds,∀b∈ds,∀c∈ds,ltD a b=true->ltD b c=true->ltD a c=true
 as:∀a∈ds,∀b∈ds,ltD a b=true->ltD b a=false
 tot:∀a∈ds,∀b∈ds,a≠b->ltD a b=true\/ltD b a=true
 nd:ds.Nodup
theorem getD_mem{ds:List D}{i:Nat}(h:i<ds.length):ds.getD i .non∈ds:=by
 have e1:ds.getD i .non=ds[i]:=by simp[List.getD_eq_getElem?_getD,h]
 rw[e1]
 exact List.getElem_mem h
theorem SortD.ltOk{ds:List D}(S:SortD ds):LtOk ds.length λi j=>ltD (ds.getD i .non) (ds.getD j .non) where
 tr:=λa b c ha hb hc=>S.tr _ (getD_mem ha) _ (getD_mem hb) _ (getD_mem hc)
 as:=λa b ha hb=>S.as _ (getD_mem ha) _ (getD_mem hb)
 tot:=λa b ha hb ne=>S.tot _ (getD_mem ha) _ (getD_mem hb) λe=>ne (by
  have e1:ds.getD a .non=ds[a]:=by simp[List.getD_eq_getElem?_getD,ha]
  have e2:ds.getD b .non=ds[b]:=by simp[List.getD_eq_getElem?_getD,hb]
  rw[e1,e2] at e
  exact(List.getElem_inj S.nd).mp e)
end L2
namespace L2
open PySem PySem.Spec PyProof.Rows PySem.W
theorem range_getD(vs:List Value):((List.range vs.length).map λi=>vs.getD i Value.none)=vs:=by
 apply List.ext_getElem
 ·simp
 ·intro i h1 h2
  simp[List.getD_eq_getElem?_getD,h2]
section
variable {X:Cx} {pins:List (Addr×Obj)} {σ:St} {H:Hp} {s:Shared} {E:Value->Shared->Prop}
theorem q5n(I:Inv X pins σ H s){A:Around}{ds:List D}{xs:List V}{vs:List Value}(r:Reps X.K H ds xs)(v:Vals xs vs)(S:SortD ds)(h2:2<=vs.length)(h64:vs.length<64)(hu:A.units+30<cLine)(κ:SortKind)(hκ:(∀d∈ds,∃z,d=.str z)->2<=ds.length->κ=oneType'){Q:SortSt->Shared->Prop}
  (h:∀(st:SortSt) (q:Array Nat),q.Perm (List.range ds.length).toArray->SPr (λi j=>ltD (ds.getD i .non) (ds.getD j .non)) q ds.length->(arrOf st).map (·.2)=List.toArray (q.toList.map λi=>vs.getD i Value.none)->failedOf st=none->Q st s) :
  wpAny (model X.prog X.w) A ((sortRuns').run (SortSt.mk' κ (vs.toArray.zip vs.toArray) #[] 7 none)) (λr s'=>Q r.2 s') E s:=by
 have hl:ds.length=vs.length:=r.length.trans v.length
 obtain⟨ok,q,hq,hp,hs⟩:=q05 S.ltOk (by lia)
 refine kat_run (ks:=vs) (vs:=vs) (G:=λp s'=>p=q/\s'=s) rfl h2 h64 (λp st s' hz ha hf hg=>?_) ?_
 ·obtain⟨rfl,rfl⟩:=hg
  exact h st p hp hs (kat_snds rfl ha) hf
 ·rw[←hl]
  refine qsd (n:=ds.length) (lt:=λi j=>ltD (ds.getD i .non) (ds.getD j .non)) (P:=λs'=>s'=s) (λi j C s' hi hj hs' hC=>?_) _ s ok rfl λs' hs'=>⟨hq,hs'⟩
  subst hs'
  obtain⟨x,hx,rx⟩:=r.at (List.getElem?_eq_getElem hi)
  obtain⟨y,hy,ry⟩:=r.at (List.getElem?_eq_getElem hj)
  obtain⟨u,eu,ru⟩:=v.get hx
  obtain⟨w,ew,rw'⟩:=v.get hy
  have e1:ds.getD i .non=ds[i]:=by simp[List.getD_eq_getElem?_getD,hi]
  have e2:ds.getD j .non=ds[j]:=by simp[List.getD_eq_getElem?_getD,hj]
  have e3:vs.getD i Value.none=u:=by simp[List.getD_eq_getElem?_getD,eu]
  have e4:vs.getD j Value.none=w:=by simp[List.getD_eq_getElem?_getD,ew]
  have m1:ds[i]∈ds:=List.getElem_mem hi
  have m2:ds[j]∈ds:=List.getElem_mem hj
  have ho:=S.ord _ m1 _ m2
  have hC':=hC s' rfl
  rw[e1,e2] at hC'
  show wpAny (model X.prog X.w) A (keyLt' κ (vs.getD i Value.none) (vs.getD j Value.none)) C (λ_ _=>False) s'
  rw[e3,e4]
  rcases S.tup with T|T
  ·obtain⟨es,ee,he,_⟩:=T _ m1
   obtain⟨fs,ef,_,_⟩:=T _ m2
   rw[ee,ef] at hC'
   rw[ee,ef] at ho
   rw[ee] at rx
   rw[ef] at ry
   have hlt:ltD (.tup es) (.tup fs)=ltDs es fs:=by unfold ltD;rfl
   have hoo:qdq es fs=true:=by unfold ordD at ho;exact ho
   rw[hlt] at hC'
   exact qy5 I κ rx ry ru rw' hoo (by lia) hC'
  ·rw[hκ T (by lia),keyLt'_oneType]
   exact qnb I true rx ry ru rw' ho (by obtain⟨z,ez⟩:=T _ m1;rw[ez];unfold depD;lia) hC'
theorem qsu{A:Around}{a:Addr}{n:Nat}{ds:List D}{xs:List V}{vs:List Value}{P:Fin->Shared->Prop}(ho:s.heap.get? a=some (seqObj "list" vs.toArray n))
  (I:∀h',(∀b o,b≠a->s.heap.get? b=some o->h'.get? b=some o)->Inv X pins σ H { s with heap:=h' }) (r:Reps X.K H ds xs) (v:Vals xs vs) (S:SortD ds) (h64:vs.length<64) (hu:A.units+30<cLine)
  (h:∀(q:List Nat) (h':Heap) (m:Nat),q.Perm (List.range ds.length)->q.Pairwise (λi j=>ltD (ds.getD i .non) (ds.getD j .non)=true)->(∀b o,b≠a->s.heap.get? b=some o->h'.get? b=some o)->h'.get? a=some (seqObj "list" (q.map λi=>vs.getD i Value.none).toArray m) ->
   P (.done (.ret .none)) { s with heap:=h' }):wpAny (model X.prog X.w) A (Builtin.«list.sort» ⟨[.ref a],[]⟩) P E s:=by
 have hl:ds.length=vs.length:=r.length.trans v.length
 have small:∀k,k<64->k<=sizeLine:=λk hk=>Nat.le_trans (Nat.le_of_lt hk) (by decide)
 rw[list_sort_plain]
 have ha:a<s.heap.objs.size:=Heap.lt_size ho
 have hz:vs.toArray.size<=sizeLine:=by rw[List.size_toArray];exact small _ h64
 refine wpAny_bind (listItems_at ho rfl (wpAny_bind (listUpdate_at ho rfl ?_ hz (Nat.zero_le _))))
 generalize e1:s.heap.update a (Obj.mapSeq λ_=>#[])=h1
 obtain⟨m1,ho1⟩:∃m1,h1.get? a=some (seqObj "list" #[] m1):=⟨_,by rw[←e1];exact get?_update_seq ho (λ_=>#[])⟩
 have k1:∀b o,b≠a->s.heap.get? b=some o->h1.get? b=some o:=λb o hb hq=>by
  rw[←e1,Heap.get?_update_ne _ _ _ _ hb]
  exact hq
 refine wpAny_bind (seqEpoch_at (s:={ s with heap:=h1 }) ho1 rfl (wpAny_bind (wpAny_newTuple ?_ (small _ h64))))
 generalize e2:h1.push { cls:=.type "tuple",data:=.seq vs.toArray }=h2
 have k2:∀b o,h1.get? b=some o->h2.get? b=some o:=λb o hq=>by rw[←e2];exact Heap.get?_push_of_some _ hq
 refine wpAny_bind (wpAny_newList ?_ (Nat.zero_le _))
 generalize e3:Heap.push _ _=h3
 have k3:∀b o,h2.get? b=some o->h3.get? b=some o:=λb o hq=>by rw[←e3];exact Heap.get?_push_of_some _ hq
 have ho3:h3.get? a=some (seqObj "list" #[] m1):=k3 _ _ (k2 _ _ ho1)
 have kk:∀b o,b≠a->s.heap.get? b=some o->h3.get? b=some o:=λb o hb hq=>k3 _ _ (k2 _ _ (k1 b o hb hq))
 have I3:Inv X pins σ H { s with heap:=h3 }:=I h3 kk
 refine wpAny_holding ?_
 show wpAny (model X.prog X.w) A _ P E { s with heap:=h3 }
 have fin:∀(q:List Nat) (out:Array Value),q.Perm (List.range ds.length)->q.Pairwise (λi j=>ltD (ds.getD i .non) (ds.getD j .non)=true)->out=(q.map λi=>vs.getD i Value.none).toArray ->
   P (.done (.ret .none)) { s with heap:=h3.update a (Obj.mapSeq λ_=>out) }:=λq out hq hp e=>by
  subst e
  refine h q _ _ hq hp (λb o hb hs=>?_) (get?_update_seq ho3 (λ_=>_))
  rw[Heap.get?_update_ne _ _ _ _ hb]
  exact kk b o hb hs
 dsimp only
 by_cases h2':vs.toArray.size<2
 ·rw[if_pos h2']
  refine wpAny_bind (wpAny_pure ?_)
  rw[if_pos h2',StateT.run_pure]
  refine wpAny_bind (wpAny_pure ?_)
  dsimp only
  refine wpAny_bind (seqEpoch_at (s:={ s with heap:=h3 }) ho3 rfl (wpAny_bind (listUpdate_at (s:={ s with heap:=h3 }) ho3 rfl ?_ (Nat.zero_le _) ?_)))
  ·simp only[bne_self_eq_false,Bool.false_eq_true,if_false]
   refine wpAny_pure (fin (List.range ds.length) _ (List.Perm.refl _) ?_ ?_)
   ·rw[List.size_toArray] at h2'
    rw[List.pairwise_iff_getElem]
    intro i j hi hj hij
    simp at hi hj
    lia
   ·apply Array.toList_inj.mp
    show (Array.map (λx:Value×Value=>x.2) (vs.toArray.zip vs.toArray)).toList=_
    rw[hl,range_getD]
    simp only[Array.toList_map,Array.toList_zip]
    exact List.map_snd_zip (Nat.le_refl _)
  ·show (Array.map (λx:Value×Value=>x.2) (vs.toArray.zip vs.toArray)).size<=_
   simp
   have:=small _ h64
   lia
 ·rw[if_neg h2']
  have h2v:2<=vs.length:=by rw[List.size_toArray] at h2';lia
  have kind:∀Q:SortKind->Shared->Prop,(∀κ,((∀d∈ds,∃z,d=.str z)->2<=ds.length->κ=oneType')->Q κ { s with heap:=h3 })->wpAny (model X.prog X.w) A (keyKind' vs.toArray) Q E { s with heap:=h3 }:=λQ hQ=>by
   rcases S.tup with T|T
   case inr =>
    refine kas_kind (T:=.type "str") (s:={ s with heap:=h3 }) h2v (λu hu=>?_) (by decide) (by decide) (hQ _ λ_ _=>rfl)
    obtain⟨i,hi,rfl⟩:=List.mem_iff_getElem.mp hu
    have hi2:i<ds.length:=by lia
    obtain⟨x,hx,rx⟩:=r.at (List.getElem?_eq_getElem hi2)
    obtain⟨u',eu,ru⟩:=v.get hx
    rw[List.getElem?_eq_getElem hi] at eu
    cases eu
    obtain⟨z,ez⟩:=T _ (List.getElem_mem hi2)
    rw[ez] at rx
    unfold Rep at rx
    subst rx
    obtain⟨t,et⟩:=ru
    rw[et]
    exact .now
   refine kind_any (s:={ s with heap:=h3 }) (λu hu=>?_) λκ=>hQ κ λhstr hlen=>?b
   case b =>
    have m0:ds[0]'(by lia)∈ds:=List.getElem_mem _
    obtain⟨es,ee,_⟩:=T _ m0
    obtain⟨z,ez⟩:=hstr _ m0
    rw[ee] at ez
    cases ez
   obtain⟨i,hi,rfl⟩:=List.mem_iff_getElem.mp hu
   have hi2:i<ds.length:=by lia
   obtain⟨x,hx,rx⟩:=r.at (List.getElem?_eq_getElem hi2)
   obtain⟨u',eu,ru⟩:=v.get hx
   rw[List.getElem?_eq_getElem hi] at eu
   cases eu
   obtain⟨es,ee,he,hk⟩:=T _ (List.getElem_mem hi2)
   rw[ee] at rx
   unfold Rep at rx
   obtain⟨b,ys,rfl,hb,r1⟩:=rx
   obtain⟨its,v1,p1,_⟩:=I3.tuple hb.sq
   obtain⟨o1,q1,c1,n1,y1⟩:=id p1
   refine⟨b,o1,its.toArray,n1,ru,q1,c1,y1,λf hf=>?_⟩
   have hf':its[0]?=some f:=by simpa using hf
   have h0:0<es.length:=by
    rw[r1.length,v1.length]
    exact(List.getElem?_eq_some_iff.mp hf').1
   obtain⟨y,hy,ry⟩:=r1.at (List.getElem?_eq_getElem h0)
   obtain⟨f',ef,rf⟩:=v1.get hy
   rw[hf'] at ef
   cases ef
   have hkey:=hk _ (List.getElem?_eq_getElem h0)
   generalize es[0]=d0 at hkey ry
   cases d0 with
  |str z =>
    unfold Rep at ry
    subst ry
    obtain⟨t,rfl⟩:=rf
    exact⟨.type "str",λM=>.now⟩
  |tup gs =>
    unfold Rep at ry
    obtain⟨c,zs,rfl,hc,_⟩:=ry
    cases rf
    obtain⟨its3,_,p3,_⟩:=I3.tuple hc.sq
    obtain⟨o3,q3,_⟩:=id p3
    exact⟨o3.cls,λM=>(Looks.ld q3).andThen .now⟩
  |_=>cases hkey
  refine wpAny_bind (kind _ λκ hκ=>?_)
  ·rw[if_neg h2']
   refine wpAny_bind (wpAny_mono (q5n I3 r v S h2v h64 hu κ hκ (Q:=λst s'=>s'={ s with heap:=h3 }/\∃q:Array Nat,q.Perm (List.range ds.length).toArray/\SPr (λi j=>ltD (ds.getD i .non) (ds.getD j .non)) q ds.length/\(arrOf st).map (·.2)=List.toArray (q.toList.map λi=>vs.getD i Value.none)/\failedOf st=none)
    λst q a1 a2 a3 a4=>⟨rfl,q,a1,a2,a3,a4⟩) ?_ λ_ _ z=>z)
   rintro⟨⟨⟩,st⟩ s' ⟨rfl,q,a1,a2,a3,a4⟩
   have hql:q.toList.length=ds.length:=by
    have:=a1.size_eq
    simpa using this
   dsimp only
   refine wpAny_bind (seqEpoch_at (s:={ s with heap:=h3 }) ho3 rfl (wpAny_bind (listUpdate_at (s:={ s with heap:=h3 }) ho3 rfl ?_ (Nat.zero_le _) ?_)))
   ·rw[a4]
    simp only[bne_self_eq_false,Bool.false_eq_true,if_false]
    refine wpAny_pure (fin q.toList _ ?_ ?_ a3)
    ·have:=a1.toList
     simpa using this
    ·rw[List.pairwise_iff_getElem]
     intro i j hi hj hij
     have:=a2 i j hij (by lia)
     have g1:q.getD i 0=q.toList[i]:=by rw[qcs];simp[Array.getElem?_eq_getElem (show i<q.size by simpa using hi)]
     have g2:q.getD j 0=q.toList[j]:=by rw[qcs];simp[Array.getElem?_eq_getElem (show j<q.size by simpa using hj)]
     rw[g1,g2] at this
     exact this
   ·show ((arrOf st).map (·.2)).size<=_
    rw[a3]
    simp
    have:=small _ h64
    have:q.size=ds.length:=by simpa using hql
    lia
theorem qmf(hu:X.A.units+60<cLine):CallR X (.builtin "sorted") (λxs H Q=>∃p ys ds,xs=[.ref p]/\SqL X.K H p ys/\Reps X.K H ds ys/\SortD ds/\ds.length<64/\∀l (q:List Nat),H l=none->q.Perm (List.range ds.length)->q.Pairwise (λi j=>ltD (ds.getD i .non) (ds.getD j .non)=true)->Q (.ref l) (upd H l (.lst (q.map λi=>ys.getD i .non)))):=by
 intro pins s σ H xs us Q I rx h
 obtain⟨p,ys,ds,rfl,hp,r,S,h64,hq⟩:=h
 obtain⟨u,rfl,ru⟩:=vals1 rx
 cases ru
 obtain⟨its,v,pl,hz⟩:=I.list hp
 have hl:ds.length=its.length:=r.length.trans v.length
 refine Calls.call_function_entry kind_sorted plain_sorted entry_sorted (args_sorted1 _) ?_
 unfold Builtin.«sorted»
 refine wpAny_bind (m:=checkCount "sorted" 1 1 _) (wpAny_pure ?_)
 have hz':its.length<=sizeLine:=by rw[←v.length];exact hz
 refine wpAny_bind (collect_list pl.isList (wpAny_bind (wpAny_newList ?_ hz')) hz')
 generalize e1:(s.heap.push (seqObj "list" #[] 0)).update s.heap.objs.size _=h1
 have n1:h1.objs.size=s.heap.objs.size+1:=by rw[←e1,Heap.size_update,size_push']
 have k1:∀b o,s.heap.get? b=some o->h1.get? b=some o:=λb o q=>by
  have lt:b<s.heap.objs.size:=Heap.lt_size q
  rw[←e1,Heap.get?_update_ne _ _ _ _ (Nat.ne_of_lt lt)]
  exact Heap.get?_push_of_some _ q
 generalize e2:Heap.push _ _=h2
 have hD:h2.get? h1.objs.size=some (seqObj "list" its.toArray 0):=by rw[←e2];exact Heap.get?_push_size _ rfl
 have k2:∀b o,s.heap.get? b=some o->h2.get? b=some o:=λb o q=>by rw[←e2];exact Heap.get?_push_of_some _ (k1 b o q)
 have un:X.A.in1.units=X.A.units+1:=rfl
 have un2:X.A.in1.in1.units=X.A.units+2:=rfl
 show wpAny (model X.prog X.w) X.A.in1 (do let _ ←holding [Value.ref h1.objs.size] (call (.builtin "list.sort") [.ref h1.objs.size]);ret (.ref h1.objs.size)) _ X.xe { s with heap:=h2 }
 refine wpAny_bind (wpAny_holding (wpAny_call_entry (s:={ s with heap:=h2 }) slot_list_sort ⟨_,hD,rfl⟩ entry_list_sort ?_ (args_list_sort _)))
 refine qsu (s:={ s with heap:=h2 }) (H:=H) (σ:=σ) (pins:=pins) (X:=X) hD (λh' kp=>?_) r v S (by lia) (by lia) λq h' m hqp hqs kp he=>⟨_,rfl,?_⟩
 ·refine I.kept (t':=s.toks) λb o e=>?_
  refine kp b o (λz=>?_) (k2 b o e)
  have lt:b<s.heap.objs.size:=Heap.lt_size e
  rw[z,n1] at lt
  exact Nat.not_succ_le_self _ (Nat.le_of_lt lt)
 ·refine wpAny_pure ⟨_,rfl,.ref h1.objs.size,upd H h1.objs.size (.lst (q.map λi=>ys.getD i .non)),?_,rfl,hq _ q (I.hok.fresh (by lia)) hqp hqs⟩
  have hqm:∀i∈q,i<ys.length:=λi hi=>by
   have:=hqp.mem_iff.mp hi
   rw[←r.length]
   simpa using this
  refine I.laid (t':=s.toks) (λb o e=>?_) (by lia) ⟨?_,_,m,v.pick q hqm,he⟩
  ·refine kp b o (λz=>?_) (k2 b o e)
   have lt:b<s.heap.objs.size:=Heap.lt_size e
   rw[z,n1] at lt
   exact Nat.not_succ_le_self _ (Nat.le_of_lt lt)
  ·have:=hqp.length_eq
   rw[List.length_map,this,List.length_range]
   have:=r.length
   lia
end
end L2
namespace L2
open PySem PySem.Spec PyProof.Rows
section
variable {X:Cx} {EX:St->XK} {K:PySem.W.Frag} {B H H0:Hp} {e:Expr} {es:List Expr} {tA:TVA} {x y:Str} {p pos:Pos}
def qer(rx:R)(Q:R->Prop):Prop:=match rx.d with
|.lst ds=>SortD ds/\ds.length<64/\∀ds',ds'.Perm ds->ds'.Pairwise (λa b=>ltD a b=true)->Q (.own (.lst ds'))
|_=>False
theorem qf0(hu64:X.A.units+64<cLine):VF X (.builtin "sorted") qer:=by
 have hu:X.A.units+60<cLine:=by lia
 refine⟨_,qmf hu,λB H x rx Q Qd s px h k=>?_⟩
 unfold qer at h
 split at h
 ·rename_i ds e1
  obtain⟨hS,hl,hq⟩:=h
  obtain⟨a,xs,rfl,h1,r1⟩:=px.lst s e1
  refine⟨a,xs,ds,rfl,SqL.of h1,r1.same s,hS,hl,λl q hn hp hs=>?_⟩
  have hm:∀i∈q,i<ds.length:=λi hi=>by simpa using hp.mem_iff.mp hi
  have hr:((List.range ds.length).map λi=>ds.getD i .non)=ds:=by
   apply List.ext_getElem
   ·simp
   ·intro i h1 h2
    simp[List.getD_eq_getElem?_getD,h2]
  refine k (.own (.lst (q.map λi=>ds.getD i .non))) _ B _ (.grow s (qan hn _)) ⟨l,rfl,hn,s.free hn,qbr (r1.pick q hm)⟩ (hq _ ?_ ?_)
  ·have:=hp.map λi=>ds.getD i .non
   rw[hr] at this
   exact this
  ·rw[List.pairwise_map]
   exact hs
 ·exact h.elim
def qnk(r:R)(Q:R->Prop):Prop:=match r with
|.val d=>match dV d with
 |some _=>Q (.val d)
 |none=>False
|_=>False
def qtz(g:DP)(i:Nat)(tA:TVA):TV:=λτ Q=>match τ[i]? with
|some (some (.own d))=>tA τ λa=>exA a (λ_=>False) λds=>g (d::ds) λr=>qnk r Q
|_=>False
theorem q1c{k:Nat}{ps:List Str}{g:DP}{i:Nat}{p2:Pos}(C:Cal X.prog X.w X.K X.mg X.base k x ps (spOf X.K g))(hr:Room k X.A)(hg:Gl X x)(ha:VA X EX es tA)(hN:X.N[i]?=some y:=by rfl)(hv:Vis X.env.scope y:=by first|exact Or.inl rfl|exact Or.inr (Or.inl rfl)|exact Or.inr (Or.inr rfl))
  (hd:(y==("__debug__" : Str))=false:=by decide) (hcd:(y==("__classdict__" : Str))=false:=by decide) (hp:(Expr.Name y p2::es).all qa3=true:=by rfl) (hdb:(x==("__debug__" : Str))=false:=by decide) :
  VE X EX (.Call (.Name x p) (.Name y p2::es) [] pos) (qtz g i tA) :=
 let ⟨_,a1,a2⟩:=ha.u;⟨_,qo0 C hr hg (qac (qv i hN hv hd hcd) a1 rfl) hp hdb,λH0 B H τ σ Q Qd s S h xc kk=>by
  unfold qtz at h
  split at h
  ·rename_i d e1
   obtain⟨ad,e2,_,hb,ow⟩:=S.own i d e1
   refine⟨.ref ad,e2,a2 H0 B H τ σ _ _ s S h (xno λ_ q=>q) λds vs B1 H1 p1 q1 h1=>?_⟩
   have ow1:OwnAt X.K B1 H1 d ad:=ow.step p1.b (p1.h.at ow.some)
   have hb1:B1 ad=none:=p1.keep hb ow.some ow.nt
   obtain⟨o,eo,rp⟩:=ow1.pub hb1
   refine⟨d::ds,upd B1 ad o,_,qfu p1.s eo,?_,h1,λn C B' H' hq _ _=>?_,λr v B2 H2 hq p2 q2=>?_⟩
   ·rw[List.append_nil]
    exact .cons rp (q1.same (qan hb1 _))
   ·exact(show False from hq).elim
   ·unfold qnk at hq
    split at hq
    ·rename_i d'
     split at hq
     ·rename_i z ez
      have:=(show Pk X.K B2 H2 (.val d') v from q2).scal ez
      subst this
      exact kk (.val d') _ B1 H2 (p1.trans (.grow p1.s p2.h)) (repV ez) hq
     ·exact hq.elim
    ·exact hq.elim
  ·exact h.elim⟩
end
def keyW(w:List Str):List (List Nat):=w.map (·.cps.toList)
theorem qoj:∀ {a b:List Str},keyW a=keyW b->a=b
|[],[],_=>rfl
|[],_::_,h=>by cases h
|_::_,[],h=>by cases h
|x::a,y::b,h=>by
  injection h with h1 h2
  rw[qnn h1,qoj h2]
theorem qop:∀a b:List Str,ltDs (a.map D.str) (b.map D.str)=decide (keyW a<keyW b)
|[],[]=>by unfold ltDs;simp[keyW]
|[],y::b=>by
  show ltDs [] (.str y::b.map D.str)=_
  unfold ltDs
  simp[keyW]
|x::a,[]=>by
  show ltDs (.str x::a.map D.str) []=_
  unfold ltDs
  simp[keyW]
|x::a,y::b=>by
  show ltDs (.str x::a.map D.str) (.str y::b.map D.str)=decide (x.cps.toList::keyW a<y.cps.toList::keyW b)
  unfold ltDs
  rw[qop a b]
  by_cases e:x=y
  ·subst e
   rw[if_pos (qcl _)]
   exact decide_eq_decide.mpr (by rw[List.cons_lt_cons_iff];simp[List.lt_irrefl])
  ·rw[if_neg (λz=>e (D.str.inj (qrq z)))]
   unfold ltD
   refine decide_eq_decide.mpr ?_
   rw[List.cons_lt_cons_iff]
   constructor
   ·exact .inl
   ·rintro (z|⟨z,_⟩)
    ·exact z
    ·exact absurd (qnn z) e
theorem qy7{a b c:List (List Nat)}(h1:a<b)(h2:b<c):a<c:=List.lt_trans h1 h2
theorem qy6{a b:List (List Nat)}(h1:a<b):¬ b<a:=λh2=>List.lt_irrefl a (List.lt_trans h1 h2)
theorem qva(a b:List (List Nat))(h:a≠b):a<b\/b<a:=by
 by_cases h1:a<b
 ·exact .inl h1
 ·by_cases h2:b<a
  ·exact .inr h2
  ·exact absurd (List.le_antisymm (List.not_lt.mp h2) (List.not_lt.mp h1)) h
def ltW(a b:List Str):Bool:=decide (keyW a<keyW b)
theorem qdw(a b:List Str):ltD (wayD a) (wayD b)=ltW a b:=by
 show ltD (.tup (a.map D.str)) (.tup (b.map D.str))=_
 unfold ltD
 exact qop a b
theorem qsx{a b c:List Str}(h1:ltW a b=true)(h2:ltW b c=true):ltW a c=true:=decide_eq_true (qy7 (of_decide_eq_true h1) (of_decide_eq_true h2))
theorem qhm{a b:List Str}(h1:ltW a b=true):ltW b a=false:=decide_eq_false (qy6 (of_decide_eq_true h1))
theorem qm1{a b:List Str}(h:a≠b):ltW a b=true\/ltW b a=true:=(qva _ _ λe=>h (qoj e)).imp decide_eq_true decide_eq_true
theorem qjq:∀a b:List Str,qdq (a.map D.str) (b.map D.str)=true
|[],_=>by
  show qdq [] _=true
  unfold qdq
  rfl
|_::_,[]=>by
  show qdq (_::_) []=true
  unfold qdq
  rfl
|x::a,y::b=>by
  show qdq (.str x::a.map D.str) (.str y::b.map D.str)=true
  unfold qdq
  rw[qjq a b]
  unfold ordD
  rfl
theorem qyt(a:List Str):qcd (a.map D.str)=0:=by
 induction a with
|nil=>rfl
|cons x a ih =>
  show max (depD (.str x)) (qcd (a.map D.str))=0
  rw[ih]
  rfl
theorem qkb{a b:List Str}(h:wayD a=wayD b):a=b:=by
 have h':a.map D.str=b.map D.str:=D.tup.inj h
 exact(qhn _ _).mp h'
theorem qge{ws:List (List Str)}(nd:ws.Nodup):SortD (ws.map wayD) where
 tup:=.inl λd hd=>by
  obtain⟨w,_,rfl⟩:=List.mem_map.mp hd
  refine⟨w.map D.str,rfl,by rw[qyt];lia,λx hx=>?_⟩
  rw[List.getElem?_map] at hx
  obtain⟨z,_,rfl⟩:=Option.map_eq_some_iff.mp hx
  rfl
 ord:=λd hd e he=>by
  obtain⟨a,_,rfl⟩:=List.mem_map.mp hd
  obtain⟨b,_,rfl⟩:=List.mem_map.mp he
  show ordD (.tup _) (.tup _)=true
  unfold ordD
  exact qjq a b
 tr:=λd hd e he f hf=>by
  obtain⟨a,_,rfl⟩:=List.mem_map.mp hd
  obtain⟨b,_,rfl⟩:=List.mem_map.mp he
  obtain⟨c,_,rfl⟩:=List.mem_map.mp hf
  rw[qdw,qdw,qdw]
  exact qsx
 as:=λd hd e he=>by
  obtain⟨a,_,rfl⟩:=List.mem_map.mp hd
  obtain⟨b,_,rfl⟩:=List.mem_map.mp he
  rw[qdw,qdw]
  exact qhm
 tot:=λd hd e he ne=>by
  obtain⟨a,_,rfl⟩:=List.mem_map.mp hd
  obtain⟨b,_,rfl⟩:=List.mem_map.mp he
  rw[qdw,qdw]
  exact qm1 λz=>ne (by rw[z])
 nd:=by
  rw[List.nodup_iff_pairwise_ne] at nd ⊢
  rw[List.pairwise_map]
  exact nd.imp λh z=>h (qkb z)
def ltS(a b:Str):Bool:=decide (a.cps.toList<b.cps.toList)
theorem qeh(a b:Str):ltD (.str a) (.str b)=ltS a b:=by unfold ltD;rfl
theorem qxl{a b c:Str}(h1:ltS a b=true)(h2:ltS b c=true):ltS a c=true:=decide_eq_true (List.lt_trans (of_decide_eq_true h1) (of_decide_eq_true h2))
theorem qlc{a b:Str}(h1:ltS a b=true):ltS b a=false:=decide_eq_false λh2=>List.lt_irrefl _ (List.lt_trans (of_decide_eq_true h1) h2)
theorem qsw{a b:Str}(h:a≠b):ltS a b=true\/ltS b a=true:=by
 by_cases h1:a.cps.toList<b.cps.toList
 ·exact .inl (decide_eq_true h1)
 ·by_cases h2:b.cps.toList<a.cps.toList
  ·exact .inr (decide_eq_true h2)
  ·exact absurd (qnn (List.le_antisymm (List.not_lt.mp h2) (List.not_lt.mp h1))) h
theorem qqg{zs:List Str}(nd:zs.Nodup):SortD (zs.map D.str) where
 tup:=.inr λd hd=>by
  obtain⟨z,_,rfl⟩:=List.mem_map.mp hd
  exact⟨z,rfl⟩
 ord:=λd hd e he=>by
  obtain⟨a,_,rfl⟩:=List.mem_map.mp hd
  obtain⟨b,_,rfl⟩:=List.mem_map.mp he
  unfold ordD
  rfl
 tr:=λd hd e he f hf=>by
  obtain⟨a,_,rfl⟩:=List.mem_map.mp hd
  obtain⟨b,_,rfl⟩:=List.mem_map.mp he
  obtain⟨c,_,rfl⟩:=List.mem_map.mp hf
  rw[qeh,qeh,qeh]
  exact qxl
 as:=λd hd e he=>by
  obtain⟨a,_,rfl⟩:=List.mem_map.mp hd
  obtain⟨b,_,rfl⟩:=List.mem_map.mp he
  rw[qeh,qeh]
  exact qlc
 tot:=λd hd e he ne=>by
  obtain⟨a,_,rfl⟩:=List.mem_map.mp hd
  obtain⟨b,_,rfl⟩:=List.mem_map.mp he
  rw[qeh,qeh]
  exact qsw λz=>ne (by rw[z])
 nd:=by
  rw[List.nodup_iff_pairwise_ne] at nd ⊢
  rw[List.pairwise_map]
  exact nd.imp λh z=>h (D.str.inj z)
theorem qgf{α:Type}{lt:α->α->Bool}(as:∀a b,lt a b=true->lt b a=false):∀ {xs ys:List α},xs.Perm ys->xs.Pairwise (λa b=>lt a b=true)->ys.Pairwise (λa b=>lt a b=true)->xs=ys
|[],ys,hp,_,_=>(List.nil_perm.mp hp).symm▸rfl
|x::xs,[],hp,_,_=>by cases hp.length_eq
|x::xs,y::ys,hp,hx,hy=>by
  rw[List.pairwise_cons] at hx hy
  have e:x=y:=by
   have m1:x∈y::ys:=hp.mem_iff.mp (List.mem_cons_self ..)
   have m2:y∈x::xs:=hp.mem_iff.mpr (List.mem_cons_self ..)
   rcases List.mem_cons.mp m1 with z|z
   ·exact z
   rcases List.mem_cons.mp m2 with w|w
   ·exact w.symm
   have l1:=hx.1 y w
   have l2:=hy.1 x z
   rw[as _ _ l1] at l2
   cases l2
  subst e
  rw[qgf as (List.perm_cons x |>.mp hp) hx.2 hy.2]
end L2
namespace L2
open PySem PySem.Spec PyProof.Rows
section
variable {X:Cx} {pos:Pos} {k v:Expr} {tk tv:TE}
end
section
variable {X:Cx} {EX:St->XK} {pos:Pos} {k v:Expr} {tk tv:TV}
end
end L2
namespace L2
open PySem PySem.Spec PyProof.Rows
theorem Room.dict{k:Nat}{A:Around}(r:Room k A):A.units+64<cLine:=by
 have:=r.un
 lia
end L2
namespace L2
open PySem PySem.Spec PyProof.Rows
section
variable {X:Cx} {EX:St->XK} {a:Expr} {ta:TV} {p pos:Pos}
end
end L2
namespace L2
open PySem PySem.Spec PyProof.Rows
theorem eqW(a b:List Str):eqD (.tup (a.map D.str)) (.tup (b.map D.str))=decide (a=b):=qcj (by
  rw[eqD_iff,decide_eq_true_eq]
  exact⟨λz=>qkb z,λz=>by rw[z]⟩)
theorem cmpW(a b:List Str):cmpD (.tup (a.map D.str)) (.tup (b.map D.str))=true:=by
 unfold cmpD
 exact qn6 _ _
theorem depW(a:List Str):depD (.tup (a.map D.str))<=50:=by
 unfold depD
 rw[qja]
 decide
def unW:D->List Str
|.tup es=>(strsOf es).getD []
|_=>[]
theorem qnq(w:List Str):unW (wayD w)=w:=by
 show (strsOf (w.map D.str)).getD []=w
 rw[qiw]
 rfl
theorem qh7{ds:List D}{ws:List (List Str)}(hp:ds.Perm (ws.map wayD))(hs:ds.Pairwise (λa b=>ltD a b=true)):∃vs:List (List Str),ds=vs.map wayD/\vs.Perm ws/\vs.Pairwise (λa b=>ltW a b=true):=by
 have e:ds=(ds.map unW).map wayD:=by
  rw[List.map_map]
  refine(List.map_id _).symm.trans (List.map_congr_left λd hd=>?_)
  obtain⟨w,_,rfl⟩:=List.mem_map.mp (hp.mem_iff.mp hd)
  show wayD w=wayD (unW (wayD w))
  rw[qnq]
 refine⟨ds.map unW,e,?_,?_⟩
 ·have:=hp.map unW
  rw[List.map_map] at this
  exact this.trans (List.Perm.of_eq ((List.map_congr_left λw _=>qnq w).trans (List.map_id _)))
 ·rw[e,List.pairwise_map] at hs
  exact hs.imp λh=>by rw[←qdw];exact h
abbrev Row:=List Str×Str×Str
def rowD(r:Row):D:=.tup [wayD r.1,.str r.2.1,.str r.2.2]
def unR:D->Row
|.tup [w,.str m,.str t]=>(unW w,m,t)
|_=>([],"","")
theorem qgg(r:Row):unR (rowD r)=r:=by
 show (unW (wayD r.1),r.2.1,r.2.2)=r
 rw[qnq]
theorem qwe{a b:Row}(h:rowD a=rowD b):a=b:=by rw[←qgg a,←qgg b,h]
theorem cmpR(a b:Row):cmpD (rowD a) (rowD b)=true:=by
 show cmpD (.tup [.tup (a.1.map D.str),.str a.2.1,.str a.2.2]) (.tup [.tup (b.1.map D.str),.str b.2.1,.str b.2.2])=true
 have h:=cmpW a.1 b.1
 unfold cmpD at h ⊢
 simp only[qcp,cmpD,h,qre,Bool.and_self,Bool.true_and]
theorem qyr(a:Row):depD (rowD a)=1+0\/depD (rowD a)<=20:=by
 right
 show depD (.tup [.tup (a.1.map D.str),.str a.2.1,.str a.2.2])<=20
 unfold depD
 simp only[qcd,depD,qja]
 decide
theorem depR(a:Row):depD (rowD a)<=20:=by
 rcases qyr a with h|h
 ·lia
 ·exact h
theorem qeg{a b:Row}(h:a.1=b.1->a=b):ltD (rowD a) (rowD b)=ltW a.1 b.1:=by
 have e:ltD (rowD a) (rowD b)=ltDs [wayD a.1,.str a.2.1,.str a.2.2] [wayD b.1,.str b.2.1,.str b.2.2]:=by
  show ltD (.tup _) (.tup _)=_
  unfold ltD
  rfl
 rw[e]
 by_cases q:a.1=b.1
 ·have:=h q
  subst this
  unfold ltDs
  rw[if_pos (qcl _)]
  unfold ltDs
  rw[if_pos (qcl _)]
  unfold ltDs
  rw[if_pos (qcl _)]
  unfold ltDs
  exact(decide_eq_false (List.lt_irrefl _)).symm
 ·unfold ltDs
  rw[if_neg (λz=>q (qkb (qrq z)))]
  exact qdw a.1 b.1
theorem qbt{rs:List Row}(nd:(rs.map (·.1)).Nodup){a b:Row}(ha:a∈rs)(hb:b∈rs)(h:a.1=b.1):a=b:=by
 induction rs with
|nil=>cases ha
|cons r rs ih =>
  rw[List.map_cons,List.nodup_cons] at nd
  rcases List.mem_cons.mp ha with ea|ha2
  ·rcases List.mem_cons.mp hb with eb|hb2
   ·rw[ea,eb]
   ·exact absurd (show r.1∈rs.map (·.1) from List.mem_map.mpr ⟨b,hb2,by rw[←h,ea]⟩) nd.1
  ·rcases List.mem_cons.mp hb with eb|hb2
   ·exact absurd (show r.1∈rs.map (·.1) from List.mem_map.mpr ⟨a,ha2,by rw[h,eb]⟩) nd.1
   ·exact ih nd.2 ha2 hb2
theorem qqf{rs:List Row}(nd:(rs.map (·.1)).Nodup):SortD (rs.map rowD) where
 tup:=.inl λd hd=>by
  obtain⟨r,_,rfl⟩:=List.mem_map.mp hd
  refine⟨_,rfl,?_,λx hx=>?_⟩
  ·have:=depR r
   unfold rowD depD at this
   lia
  ·cases hx
   rfl
 ord:=λd hd e he=>by
  obtain⟨a,_,rfl⟩:=List.mem_map.mp hd
  obtain⟨b,_,rfl⟩:=List.mem_map.mp he
  show ordD (.tup [.tup (a.1.map D.str),.str a.2.1,.str a.2.2]) (.tup [.tup (b.1.map D.str),.str b.2.1,.str b.2.2])=true
  simp only[ordD,qdq,qjq,Bool.and_self]
 tr:=λd hd e he f hf=>by
  obtain⟨a,ha,rfl⟩:=List.mem_map.mp hd
  obtain⟨b,hb,rfl⟩:=List.mem_map.mp he
  obtain⟨c,hc,rfl⟩:=List.mem_map.mp hf
  rw[qeg (qbt nd ha hb),qeg (qbt nd hb hc),qeg (qbt nd ha hc)]
  exact qsx
 as:=λd hd e he=>by
  obtain⟨a,ha,rfl⟩:=List.mem_map.mp hd
  obtain⟨b,hb,rfl⟩:=List.mem_map.mp he
  rw[qeg (qbt nd ha hb),qeg (qbt nd hb ha)]
  exact qhm
 tot:=λd hd e he ne=>by
  obtain⟨a,ha,rfl⟩:=List.mem_map.mp hd
  obtain⟨b,hb,rfl⟩:=List.mem_map.mp he
  rw[qeg (qbt nd ha hb),qeg (qbt nd hb ha)]
  exact qm1 λz=>ne (by rw[qbt nd ha hb z])
 nd:=by
  rw[List.nodup_iff_pairwise_ne] at nd ⊢
  rw[List.pairwise_map] at nd ⊢
  exact nd.imp λh z=>h (by rw[qwe z])
abbrev qao(rs:List Row):Prop:=rs.Pairwise (λa b=>ltW a.1 b.1=true)
theorem qtm{ds:List D}{rs:List Row}(nd:(rs.map (·.1)).Nodup)(hp:ds.Perm (rs.map rowD))(hs:ds.Pairwise (λa b=>ltD a b=true)):∃ts:List Row,ds=ts.map rowD/\ts.Perm rs/\qao ts:=by
 have e:ds=(ds.map unR).map rowD:=by
  rw[List.map_map]
  refine(List.map_id _).symm.trans (List.map_congr_left λd hd=>?_)
  obtain⟨r,_,rfl⟩:=List.mem_map.mp (hp.mem_iff.mp hd)
  show rowD r=rowD (unR (rowD r))
  rw[qgg]
 have pm:(ds.map unR).Perm rs:=by
  have:=hp.map unR
  rw[List.map_map] at this
  exact this.trans (List.Perm.of_eq ((List.map_congr_left λr _=>qgg r).trans (List.map_id _)))
 refine⟨ds.map unR,e,pm,?_⟩
 rw[e,List.pairwise_map] at hs
 have nd2:((ds.map unR).map (·.1)).Nodup:=((pm.map (·.1)).nodup_iff).mpr nd
 exact hs.imp_of_mem λ{a b} ma mb h=>by rw[←qeg (qbt nd2 ma mb)];exact h
theorem qah{rs:List Row}(h:qao rs):(rs.map (·.1)).Nodup:=by
 rw[List.nodup_iff_pairwise_ne,List.pairwise_map]
 exact h.imp λ{a b} q z=>by
  rw[z] at q
  have:=qhm q
  rw[q] at this
  cases this
theorem qhv{rs ts:List Row}(hp:rs.Perm ts)(h1:qao rs)(h2:qao ts):rs=ts:=qgf (lt:=λa b:Row=>ltW a.1 b.1) (λ_ _=>qhm) hp h1 h2
def qab(rs:List Row):D:=.lst (rs.map rowD)
theorem q1x:∀rs ts:List Row,qcp (rs.map rowD) (ts.map rowD)=true
|[],_=>by cases ‹List Row›<;>rfl
|_::_,[]=>rfl
|a::rs,b::ts=>by
  show qcp (rowD a::rs.map rowD) (rowD b::ts.map rowD)=true
  unfold qcp
  rw[cmpR,q1x rs ts]
  rfl
theorem qpp(rs ts:List Row):cmpD (qab rs) (qab ts)=true:=by
 show cmpD (.lst _) (.lst _)=true
 unfold cmpD
 exact q1x rs ts
theorem q11:∀rs:List Row,qcd (rs.map rowD)<=20
|[]=>by
  show qcd []<=20
  unfold qcd
  lia
|a::rs=>by
  show qcd (rowD a::rs.map rowD)<=20
  unfold qcd
  have:=depR a
  have:=q11 rs
  lia
theorem qps(rs:List Row):depD (qab rs)<=21:=by
 show depD (.lst _)<=21
 unfold depD
 have:=q11 rs
 lia
theorem qwf{rs ts:List Row}(h:rs.map rowD=ts.map rowD):rs=ts:=by
 have:=congrArg (List.map unR) h
 rw[List.map_map,List.map_map] at this
 exact((List.map_id _).symm.trans (List.map_congr_left λr _=>(qgg r).symm)).trans (this.trans ((List.map_congr_left λr _=>qgg r).trans (List.map_id _)))
theorem eqRL(rs ts:List Row):eqD (qab rs) (qab ts)=decide (rs=ts):=qcj (by
  rw[eqD_iff,decide_eq_true_eq]
  exact⟨λz=>qwf (D.lst.inj z),λz=>by rw[z]⟩)
section
variable {X:Cx} {pins:List (Addr×Obj)} {σ:St} {H:Hp} {s:Shared}
theorem q30{A:Around}(I:Inv X pins σ H s){a b:Addr}{ds es:List D}{xs ys:List V}(ha:SqT X.K H a xs)(hb:SqT X.K H b ys)(r1:Reps X.K H ds xs)(r2:Reps X.K H es ys)(hc:qcp ds es=true)(hu:A.units<cLine)
  (ih:∀d∈ds,∀(e:D) (v z:V) (u w:Value),Rep X.K H d v->Rep X.K H e z->RelV v u->RelV z w->cmpD d e=true->SeqAt.EqAt A.in1 s u w (eqD d e)):SeqAt.RcNeAt A s (.ref a) (.ref b) (!eqD (.tup ds) (.tup es)):=by
 obtain⟨its,v1,p1,_⟩:=I.tuple ha
 obtain⟨its2,v2,p2,_⟩:=I.tuple hb
 have:=SeqAt.RcNeAt.tuples (A:=A) (s:=s) (e:=λj=>eqD (ds.getD j .non) (es.getD j .non)) (show s.heap.IsTuple a its.toArray from p1) (show s.heap.IsTuple b its2.toArray from p2) hu (qhe r1 r2 v1 v2 hc ih)
 rw[List.size_toArray,List.size_toArray,←v1.length,←v2.length,←r1.length,←r2.length,qeu] at this
 rw[qrs]
 exact this
theorem q3z{A:Around}(I:Inv X pins σ H s){a b:Addr}{ds es:List D}{xs ys:List V}(ha:H a=some (.lst xs))(hb:H b=some (.lst ys))(r1:Reps X.K H ds xs)(r2:Reps X.K H es ys)(hc:qcp ds es=true)(hu:A.units<cLine)
  (ih:∀d∈ds,∀(e:D) (v z:V) (u w:Value),Rep X.K H d v->Rep X.K H e z->RelV v u->RelV z w->cmpD d e=true->SeqAt.EqAt A.in1 s u w (eqD d e)):SeqAt.RcNeAt A s (.ref a) (.ref b) (!eqD (.lst ds) (.lst es)):=by
 obtain⟨its,v1,p1,_⟩:=I.list (SqL.of ha)
 obtain⟨its2,v2,p2,_⟩:=I.list (SqL.of hb)
 have er:=qeu ds es
 rw[qrr]
 by_cases hl:ds.length=es.length
 ·have hz:its.toArray.size=its2.toArray.size:=by rw[List.size_toArray,List.size_toArray,←v1.length,←v2.length,←r1.length,←r2.length,hl]
  have:=SeqAt.RcNeAt.lists (A:=A) (s:=s) (e:=λj=>eqD (ds.getD j .non) (es.getD j .non)) p1.isList p2.isList hz hu (qhe r1 r2 v1 v2 hc ih)
  rw[List.size_toArray,←v1.length,←r1.length] at this
  rw[←hl,Nat.min_self] at er
  have e2:(ds.length==ds.length)=true:=by simp
  rw[e2,Bool.and_true] at er
  rw[er] at this
  exact this
 ·have e2:(ds.length==es.length)=false:=by simpa using hl
  rw[e2,Bool.and_false] at er
  rw[←er]
  refine SeqAt.RcNeAt.lists_lengths p1.isList p2.isList ?_ hu
  rw[List.size_toArray,List.size_toArray,←v1.length,←v2.length,←r1.length,←r2.length]
  simpa using hl
theorem q2r(hu:X.A.units+60<cLine):OpR X (compareOp .NotEq) (rEqD X.K not):=by
 intro pins s σ H x y v u Q I rx ry h
 obtain⟨d,e,hd,he,hc,hn,q⟩:=h
 have fin:EP X pins σ Q (.bool (!eqD d e)) s:=⟨.bl (!eqD d e),H,I,rfl,q⟩
 have un:X.A.in1.units=X.A.units+1:=rfl
 cases d with
|tup ds =>
  cases e with
 |tup es =>
   unfold Rep at hd he
   obtain⟨a,xs,rfl,ha,r1⟩:=hd
   obtain⟨b,ys,rfl,hb,r2⟩:=he
   cases rx
   cases ry
   unfold cmpD at hc
   unfold depD at hn
   exact q30 I ha.sq hb.sq r1 r2 hc (by lia) (λd hd e v z u w h1 h2 h3 h4 h5=>qgn I _ X.A.in1 d e v z u w (Nat.le_refl _) h1 h2 h3 h4 h5 (by have:=qck hd;lia)) _ _ _ _ fin
 |_=>unfold cmpD at hc;cases hc
|lst ds =>
  cases e with
 |lst es =>
   unfold Rep at hd he
   obtain⟨a,xs,rfl,ha,r1⟩:=hd
   obtain⟨b,ys,rfl,hb,r2⟩:=he
   cases rx
   cases ry
   unfold cmpD at hc
   unfold depD at hn
   exact q3z I ha hb r1 r2 hc (by lia) (λd hd e v z u w h1 h2 h3 h4 h5=>qgn I _ X.A.in1 d e v z u w (Nat.le_refl _) h1 h2 h3 h4 h5 (by have:=qck hd;lia)) _ _ _ _ fin
 |_=>unfold cmpD at hc;cases hc
|_ =>
  obtain⟨v',z',q1,q2,q3⟩:=qnl hc (λ_ h=>by cases h) (λ_ h=>by cases h)
  have e1:=qey hd q1
  have e2:=qey he q2
  subst e1 e2
  have q':Q (.bl (!eqD _ _)) H:=q
  rw[qjd q1 q2] at q'
  exact q44 pins s σ H _ _ v u Q I rx ry ⟨q3,q'⟩
def vNeD(rx ry:R)(Q:R->Prop):Prop:=cmpD rx.d ry.d=true/\depD rx.d<=50/\Q (.val (.bl (!eqD rx.d ry.d)))
theorem qd7(hu:X.A.units+64<cLine):VO X (compareOp .NotEq) vNeD :=
 ⟨_,q2r (by lia),λB H x y rx ry Q Qd s px py h k=>⟨rx.d,ry.d,px.rep s,py.rep s,h.1,h.2.1,k _ _ B H (.refl s) (repV rfl) h.2.2⟩⟩
end
def qdc{α:Type}(xs:List α)(lo hi st:Option Int):List α:=(sliceRange (sliceBounds lo hi st xs.length).1 (sliceBounds lo hi st xs.length).2.1 (sliceBounds lo hi st xs.length).2.2).filterMap (xs[·]?)
theorem qzy{xs:List V}{us:List Value}(r:Vals xs us):∀l:List Nat,Vals (l.filterMap (xs[·]?)) (l.filterMap (us[·]?))
|[]=>.nil
|i::l=>by
  cases e:xs[i]? with
 |none =>
   rw[List.filterMap_cons_none (by exact e),List.filterMap_cons_none (by exact r.none_of e)]
   exact qzy r l
 |some x =>
   obtain⟨u,hu,ru⟩:=r.get e
   rw[List.filterMap_cons_some (by exact e),List.filterMap_cons_some (by exact hu)]
   exact .cons ru (qzy r l)
theorem qtv{α β:Type}(f:α->β)(xs:List α)(lo hi st:Option Int):qdc (xs.map f) lo hi st=(qdc xs lo hi st).map f:=by
 unfold qdc
 rw[List.length_map,List.map_filterMap]
 congr 1
 funext i
 rw[List.getElem?_map]
theorem qnd(xs:List α)(lo hi st:Option Int):(sliceRange (sliceBounds lo hi st xs.length).1 (sliceBounds lo hi st xs.length).2.1 (sliceBounds lo hi st xs.length).2.2).length<=xs.length:=by
 refine sliceRange_length_le _ _ _ _ (λh=>?_) (λh=>?_)
 ·unfold sliceBounds at h ⊢
  simp only at h ⊢
  cases lo<;>cases hi<;>simp only[h,if_true]<;>lia
 ·unfold sliceBounds at h ⊢
  simp only at h ⊢
  cases lo<;>cases hi<;>simp only[h,if_false]<;>lia
theorem qtu{α:Type}(xs:List α)(lo hi st:Option Int):(qdc xs lo hi st).length<=xs.length:=Nat.le_trans (List.length_filterMap_le _ _) (qnd xs lo hi st)
section
variable {X:Cx} {pos p2:Pos} {e st:Expr} {te:TE} {lo hi:Option Expr} {tl th ts:TO}
def q4c(K:PySem.W.Frag)(te:TE)(tl th ts:TO):TE:=λσ H Q=>te σ H λx H1=>tl σ H1 λl H2=>th σ H2 λu H3=>ts σ H3 λt H4=>∃a xs,x=.ref a/\SqL K H4 a xs/\t≠some 0/\∀p,H4 p=none->Q (.ref p) (upd H4 p (.lst (qdc xs l u t)))
theorem qzu(he:PE X e te)(hl:PO X lo tl)(hu:PO X hi th)(ht:PO X (some st) ts):PE X (.Subscript e (.Slice lo hi (some st) p2) pos) (q4c X.K te tl th ts):=by
 intro pins s σ H Q I h
 refine Subscript_ (thn (he pins s σ H _ I h) λv s1 ⟨x,H1,I1,r1,q1⟩=>?_)
 refine wpAny_Slice (thn (hl pins s1 σ H1 _ I1 q1) λvl s2 ⟨l,H2,I2,pl,q2⟩=>thn (hu pins s2 σ H2 _ I2 q2) λvu s3 ⟨u,H3,I3,pu,q3⟩=>thn (ht pins s3 σ H3 _ I3 q3) λvt s4 ⟨t,H4,I4,pt,q4⟩=>?_)
 obtain⟨a,xs,rfl,hx,h0,q⟩:=q4
 cases r1
 have I5:Inv X pins σ H4 { s4 with heap:=s4.heap.push { cls:=.type "slice",data:=.fields #[vl,vu,vt] } }:=I4.kept (t':=s4.toks) λb ob q=>Heap.get?_push_of_some _ q
 obtain⟨its,r,hL,hz⟩:=I5.list hx
 have hlen:=r.length
 show wpAny (model X.prog X.w) X.A (subscriptTail e (.Slice lo hi (some st) p2) (.ref a) (.ref s4.heap.objs.size)) (EP X pins σ Q) X.xe { s4 with heap:=s4.heap.push { cls:=.type "slice",data:=.fields #[vl,vu,vt] } }
 refine tail_any (ops:=[.ref a,.ref s4.heap.objs.size]) hL.isList.typeIs slot_list_getitem.lookup ?_ (by with_unfolding_all rfl)
 refine wpAny_getItem_list_slice hL.isList (Heap.IsSliceOf.new ..) pl pu pt h0 ?_ (by rw[List.size_toArray]<;>lia)
 have ep:slicePick its.toArray l u t=(qdc its l u t).toArray:=by
  unfold slicePick qdc
  simp
 rw[ep]
 refine⟨.ref _,_,I5.laid (t':=s4.toks) (o:=.lst (qdc xs l u t)) (λb ob q=>Heap.get?_push_of_some _ q) (Nat.le_refl _) ?_,rfl,q _ (I5.hok.fresh (Nat.le_refl _))⟩
 refine⟨Nat.le_trans (qtu xs l u t) hz,(qdc its l u t),0,?_,?_⟩
 ·unfold qdc
  rw[←hlen]
  exact qzy r _
 ·exact Heap.get?_push_size _ rfl
theorem q0i(he:QE X e te)(hl:QO X lo tl)(hu:QO X hi th)(ht:QO X (some st) ts):QE X (.Subscript e (.Slice lo hi (some st) p2) pos) (q4c X.K te tl th ts):=⟨qzu he.u hl.u hu.u ht.u⟩
end
section
variable {X:Cx} {EX:St->XK} {pos p2:Pos} {e st:Expr} {te:TV} {lo hi:Option Expr} {tl th ts:TVO} {K:PySem.W.Frag} {B:Hp}
theorem qzx{ds:List D}{xs:List V}(r:Reps K B ds xs):∀l:List Nat,Reps K B (l.filterMap (ds[·]?)) (l.filterMap (xs[·]?))
|[]=>.nil
|i::l=>by
  cases e:ds[i]? with
 |none =>
   have e2:xs[i]?=none:=List.getElem?_eq_none (by rw[←r.length];exact List.getElem?_eq_none_iff.mp e)
   rw[List.filterMap_cons_none (by exact e),List.filterMap_cons_none (by exact e2)]
   exact qzx r l
 |some x =>
   obtain⟨u,hu,ru⟩:=r.at e
   rw[List.filterMap_cons_some (by exact e),List.filterMap_cons_some (by exact hu)]
   exact .cons ru (qzx r l)
def vStR(rx:R)(lo hi st:Option Int)(Q:R->Prop):Prop:=match rx.d with
|.lst ds=>st≠some 0/\Q (.own (.lst (qdc ds lo hi st)))
|.scr ns=>st≠some 0/\Q (.own (.lst ((qdc ns lo hi st).map D.int)))
|_=>False
def qqm(te:TV)(tl th ts:TVO):TV:=λτ Q=>te τ λr=>exR r Q (tl τ λl=>th τ λu=>ts τ λt=>vStR r l u t Q)
theorem qnu(he:VE X EX e te)(hl:VPt X EX lo tl)(hh:VPt X EX hi th)(ht:VPt X EX (some st) ts):VE X EX (.Subscript e (.Slice lo hi (some st) p2) pos) (qqm te tl th ts) :=
 let ⟨_,a1,a2⟩:=he.u;let ⟨_,b1,b2⟩:=hl.u;let ⟨_,c1,c2⟩:=hh.u;let ⟨_,d1,d2⟩:=ht.u;⟨_,q0i a1 b1 c1 d1,λH0 B H τ σ Q Qd s S h xc k =>
  a2 H0 B H τ σ _ _ s S h xc λr v B1 H1 p1 q1 h1=>b2 H0 B1 H1 τ σ _ _ p1.s (S.step p1) (q1.ok h1) λl B2 H2 p2 h2=>c2 H0 B2 H2 τ σ _ _ p2.s (S.step (p1.trans p2)) h2 λu B3 H3 p3 h3=>d2 H0 B3 H3 τ σ _ _ p3.s (S.step ((p1.trans p2).trans p3)) h3 λt B4 H4 p4 h4=>by
   have pp:=((p1.trans p2).trans p3).trans p4
   have pk:=((q1.pk.step p2).step p3).step p4
   unfold vStR at h4
   split at h4
   ·rename_i ds ed
    obtain⟨a,xs,rfl,h1,r1⟩:=pk.lst p4.s ed
    refine⟨a,xs,rfl,SqL.of h1,h4.1,λp hp=>k (.own (.lst (qdc ds l u t))) _ B4 _ (pp.trans (.grow p4.s (qan hp _))) ⟨p,rfl,pp.h.free hp,p4.s.free hp,qbr ?_⟩ h4.2⟩
    unfold qdc
    rw[←r1.length]
    exact qzx r1 _
   ·rename_i ns en
    obtain⟨a,rfl,h1⟩:=pk.scr p4.s en
    refine⟨a,_,rfl,h1,h4.1,λp hp=>k (.own (.lst ((qdc ns l u t).map D.int))) _ B4 _ (pp.trans (.grow p4.s (qan hp _))) ⟨p,rfl,pp.h.free hp,p4.s.free hp,?_⟩ h4.2⟩
    rw[qtv]
    exact qbr (.ints _)
   ·exact h4.elim⟩
end
end L2
namespace L2
section
variable {α:Type} [DecidableEq α]
def preB(w o:List α):Bool:=decide (w.take o.length=o)
def qa0(w o:List α):Bool:=decide (o.length<w.length)&&preB w o
theorem preB_iff{w o:List α}:preB w o=true↔o <+: w:=by
 unfold preB
 rw[decide_eq_true_eq]
 constructor
 ·intro h
  rw[←h]
  exact List.take_prefix _ _
 ·rintro⟨t,rfl⟩
  exact List.take_left
theorem underB_iff{w o:List α}:qa0 w o=true↔o <+: w/\w≠o:=by
 unfold qa0
 rw[Bool.and_eq_true,decide_eq_true_eq,preB_iff]
 constructor
 ·rintro⟨h1,h2⟩
  exact⟨h2,λe=>by rw[e] at h1;lia⟩
 ·rintro⟨h1,h2⟩
  refine⟨?_,h1⟩
  have:=h1.length_le
  rcases Nat.lt_or_ge o.length w.length with h|h
  ·exact h
  ·exact absurd (h1.eq_of_length (by lia)).symm h2
end
section
variable {α β:Type} [DecidableEq α]
end
end L2
namespace L2
open PySem
abbrev qag:Str:="folder"
abbrev qas:Str:="shut"
abbrev qax:Str:="gone"
abbrev qcf:Str:="file"
abbrev qcg:Str:="link"
abbrev qav:Str:=""
theorem mne:qas≠qag/\qax≠qag/\qcf≠qag/\qcg≠qag/\qax≠qas/\qcf≠qas/\qcg≠qas/\qcf≠qax/\qcg≠qax/\qcg≠qcf:=by decide +kernel
theorem qza(l:List (List Nat))(x:List Nat):l<l++[x]:=by
 induction l with
|nil=>exact List.nil_lt_cons _ _
|cons y l ih=>exact List.cons_lt_cons_iff.mpr (.inr ⟨rfl,ih⟩)
theorem qvi{w:List Str}(h:w≠[]):ltW w.dropLast w=true:=by
 refine decide_eq_true ?_
 conv=>rhs;rw[←List.dropLast_concat_getLast h]
 unfold keyW
 rw[List.map_append]
 exact qza _ _
def inR(p:List Row)(w:List Str):Bool:=decide (w∈p.map (·.1))
def qbu(p:List Row)(w:List Str):Option Str:=(p.find? λr=>decide (r.1=w)).map (·.2.1)
def qb9:Option Str->Bool
|none=>false
|some m=>!decide (m=qag)
def qa7(p:List Row)(w:List Str):Bool:=(List.range w.length).any λk=>qb9 (qbu p (w.take k))
theorem qr5(p:List Row):qa7 p []=false:=rfl
theorem qdm{β:Type}{f g:β->Bool}:∀ {l:List β},(∀x∈l,f x=g x)->l.any f=l.any g
|[],_=>rfl
|x::l,h=>by rw[List.any_cons,List.any_cons,h x (List.mem_cons_self ..),qdm λy hy=>h y (List.mem_cons_of_mem _ hy)]
theorem qin(p:List Row){w:List Str}(h:w≠[]):qa7 p w=(qa7 p w.dropLast||qb9 (qbu p w.dropLast)):=by
 have hl:w.length=w.dropLast.length+1:=by
  rw[List.length_dropLast]
  have:=List.length_pos_iff.mpr h
  lia
 unfold qa7
 rw[hl,List.range_succ,List.any_append]
 congr 1
 ·refine qdm λk hk=>?_
  have hk:=List.mem_range.mp hk
  rw[List.dropLast_eq_take,List.take_take,Nat.min_eq_left (by lia)]
 ·rw[List.any_cons,List.any_nil,Bool.or_false,List.dropLast_eq_take,List.length_take,Nat.min_eq_left (by lia)]
theorem qfo(p:List Row)(w:List Str):(qbu p w).isSome=inR p w:=by
 unfold qbu inR
 rw[Option.isSome_map]
 by_cases h:w∈p.map (·.1)
 ·rw[decide_eq_true h,List.find?_isSome]
  obtain⟨r,mr,er⟩:=List.mem_map.mp h
  exact⟨r,mr,decide_eq_true er⟩
 ·rw[decide_eq_false h,Bool.eq_false_iff]
  intro q
  rw[List.find?_isSome] at q
  obtain⟨r,mr,er⟩:=q
  exact h (List.mem_map.mpr ⟨r,mr,of_decide_eq_true er⟩)
theorem qfp{p:List Row}(nd:(p.map (·.1)).Nodup){r:Row}(h:r∈p):qbu p r.1=some r.2.1:=by
 unfold qbu
 cases e:p.find? λq=>decide (q.1=r.1) with
|none=>exact absurd (decide_eq_true rfl) (List.find?_eq_none.mp e r h)
|some q =>
  have h1:=List.mem_of_find?_eq_some e
  have h2:q.1=r.1:=of_decide_eq_true (p:=q.1=r.1) (by simpa using List.find?_some e)
  rw[qbt nd h1 h h2]
  rfl
theorem qga{p:List Row}{w:List Str}(h:inR p w=false):qbu p w=none:=by
 rw[←qfo] at h
 exact Option.not_isSome_iff_eq_none.mp (by rw[h];exact Bool.false_ne_true)
structure TreeOk(tr:List Row):Prop where
 so:qao tr
 cl:∀r∈tr,r.1≠[]/\(r.1.dropLast=[]\/r.1.dropLast∈tr.map (·.1))
structure PaneOk(p:List Row):Prop where
 so:qao p
 cl:∀r∈p,r.1=[]\/r.1.dropLast=[]\/∃q∈p,q.1=r.1.dropLast/\q.2.1≠qax
 mr:∀r∈p,(r.2.1=qcf\/r.2.1=qcg)\/(r.2.1=qag/\r.2.2=qav)\/r.2.1=qas\/r.2.1=qax
 rt:∀r∈p,r.1=[]->r.2.1=qas
theorem qyu{w:List Str}(h:w≠[]):w.dropLast≠w:=λe=>by
 have:=congrArg List.length e
 rw[List.length_dropLast] at this
 have:=List.length_pos_iff.mpr h
 lia
theorem ql8{tr:List Row}(so:qao tr){i:Nat}{r:Row}(hr:tr[i]?=some r)(h0:r.1≠[])(hm:r.1.dropLast∈tr.map (·.1)):r.1.dropLast∈(tr.take i).map (·.1):=by
 obtain⟨hi,er⟩:=List.getElem?_eq_some_iff.mp hr
 obtain⟨q,mq,eq⟩:=List.mem_map.mp hm
 obtain⟨j,hj,ej⟩:=List.mem_iff_getElem.mp mq
 have lt1:ltW q.1 r.1=true:=by
  rw[eq]
  exact qvi h0
 have hji:j<i:=by
  rcases Nat.lt_trichotomy j i with h|h|h
  ·exact h
  ·subst h
   have:r=q:=er.symm.trans ej
   subst this
   exact absurd eq.symm (qyu h0)
  ·have:=(List.pairwise_iff_getElem.mp so) i j hi hj h
   rw[er,ej] at this
   rw[qhm lt1] at this
   cases this
 refine List.mem_map.mpr ⟨q,?_,eq⟩
 rw[←ej]
 exact List.mem_take_iff_getElem.mpr ⟨j,by lia,rfl⟩
def hidW(p tr:List Row):List (List Str):=(tr.filter λr=>qa7 p r.1).map (·.1)
structure Clo(tr:List Row):Prop where
 so:qao tr
 cl:∀r∈tr,r.1=[]\/r.1.dropLast=[]\/r.1.dropLast∈tr.map (·.1)
theorem TreeOk.clo{tr:List Row}(T:TreeOk tr):Clo tr:=⟨T.so,λr hr=>.inr (T.cl r hr).2⟩
theorem qfw{rs:List Row}(nd:(rs.map (·.1)).Nodup){i:Nat}{r:Row}(hr:rs[i]?=some r):r.1∉(rs.take i).map (·.1):=λm=>by
 obtain⟨hi,er⟩:=List.getElem?_eq_some_iff.mp hr
 obtain⟨q,mq,eq⟩:=List.mem_map.mp m
 rw[List.nodup_iff_pairwise_ne,List.pairwise_map,List.pairwise_iff_getElem] at nd
 obtain⟨j,hj,ej⟩:=List.mem_iff_getElem.mp mq
 have hj':j<i:=by rw[List.length_take] at hj;lia
 have:=nd j i (by lia) hi hj'
 rw[List.getElem_take] at ej
 rw[ej,er] at this
 exact this eq
theorem qr7{p tr:List Row}(T:Clo tr){i:Nat}{r:Row}(hr:tr[i]?=some r)(h0:r.1≠[]):(decide (r.1.dropLast∈hidW p (tr.take i))||qb9 (qbu p r.1.dropLast))=qa7 p r.1:=by
 have mr:=List.mem_of_getElem? hr
 have hc:=(T.cl r mr).resolve_left h0
 rw[qin p h0]
 congr 1
 by_cases hh:qa7 p r.1.dropLast=true
 ·rw[hh]
  refine decide_eq_true ?_
  rcases hc with hc|hc
  ·rw[hc,qr5] at hh
   cases hh
  ·obtain⟨q,mq,eq⟩:=List.mem_map.mp (ql8 T.so hr h0 hc)
   refine List.mem_map.mpr ⟨q,List.mem_filter.mpr ⟨mq,?_⟩,eq⟩
   rw[eq]
   exact hh
 ·rw[Bool.not_eq_true] at hh
  rw[hh]
  refine decide_eq_false λm=>?_
  obtain⟨q,mq,eq⟩:=List.mem_map.mp m
  have:=(List.mem_filter.mp mq).2
  rw[eq,hh] at this
  cases this
theorem qyy{p tr:List Row}{w:List Str}(hw:w∈tr.map (·.1)):decide (w∈hidW p tr)=qa7 p w:=by
 cases hh:qa7 p w with
|true =>
  refine decide_eq_true ?_
  obtain⟨q,mq,eq⟩:=List.mem_map.mp hw
  exact List.mem_map.mpr ⟨q,List.mem_filter.mpr ⟨mq,by rw[eq];exact hh⟩,eq⟩
|false =>
  refine decide_eq_false λm=>?_
  obtain⟨q,mq,eq⟩:=List.mem_map.mp m
  have:=(List.mem_filter.mp mq).2
  rw[eq,hh] at this
  cases this
def qat(p tr:List Row):List Row:=tr.filter λr=>!inR p r.1&&!qa7 p r.1
def qep(r:Row):Row:=if r.2.1=qas then (r.1,qag,qav) else r
def putR(p:List Row):List Row:=(p.filter λr=>!decide (r.1=[])&&!decide (r.2.1=qax)).map qep
theorem qeq(r:Row):(qep r).1=r.1:=by
 unfold qep
 split<;>rfl
theorem qjt(p:List Row):(putR p).map (·.1)=(p.filter λr=>!decide (r.1=[])&&!decide (r.2.1=qax)).map (·.1):=by
 unfold putR
 rw[List.map_map]
 exact List.map_congr_left λr _=>qeq r
theorem qmq{p tr:List Row}(hp:(p.map (·.1)).Nodup)(ht:(tr.map (·.1)).Nodup):((qat p tr++putR p).map (·.1)).Nodup:=by
 rw[List.map_append,qjt,List.nodup_append]
 refine⟨ht.sublist ((List.filter_sublist).map _),hp.sublist ((List.filter_sublist).map _),λx hx y hy e=>?_⟩
 subst e
 obtain⟨r,mr,rfl⟩:=List.mem_map.mp hx
 obtain⟨q,mq,eq⟩:=List.mem_map.mp hy
 have h1:=(List.mem_filter.mp mr).2
 have h2:inR p r.1=true:=decide_eq_true (List.mem_map.mpr ⟨q,(List.mem_filter.mp mq).1,eq⟩)
 rw[h2] at h1
 cases h1
theorem qhg{p tr ts:List Row}(P:PaneOk p)(T:TreeOk tr)(hp:ts.Perm (qat p tr++putR p))(hs:qao ts):TreeOk ts:=by
 refine⟨hs,λr hr=>?_⟩
 have mem:∀w,w∈ts.map (·.1)↔w∈(qat p tr).map (·.1)\/w∈(putR p).map (·.1):=λw=>by
  rw[(hp.map (·.1)).mem_iff,List.map_append,List.mem_append]
 have ndp:=qah P.so
 rcases List.mem_append.mp (hp.mem_iff.mp hr) with h|h
 ·obtain⟨mr,hb⟩:=List.mem_filter.mp h
  obtain⟨h0,hc⟩:=T.cl r mr
  refine⟨h0,?_⟩
  rcases hc with hc|hc
  ·exact .inl hc
  right
  rw[mem]
  have hb':inR p r.1=false/\qa7 p r.1=false:=by simpa using hb
  have hs2:=qin p h0
  rw[hb'.2] at hs2
  have hs3:qa7 p r.1.dropLast=false/\qb9 (qbu p r.1.dropLast)=false:=by simpa using hs2.symm
  by_cases hin:inR p r.1.dropLast=true
  ·right
   rw[qjt]
   obtain⟨q,mq,eq⟩:=List.mem_map.mp (of_decide_eq_true hin)
   refine List.mem_map.mpr ⟨q,List.mem_filter.mpr ⟨mq,?_⟩,eq⟩
   have e1:q.2.1=qag:=by
    have:=hs3.2
    rw[←eq,qfp ndp mq] at this
    simpa [qb9] using this
   have e2:q.1≠[]:=λz=>by
    have:=P.rt q mq z
    rw[e1] at this
    exact mne.1 this.symm
   rw[decide_eq_false e2,e1,decide_eq_false (Ne.symm mne.2.1)]
   rfl
  ·left
   rw[Bool.not_eq_true] at hin
   obtain⟨q,mq,eq⟩:=List.mem_map.mp hc
   refine List.mem_map.mpr ⟨q,List.mem_filter.mpr ⟨mq,?_⟩,eq⟩
   rw[eq,hin,hs3.1]
   rfl
 ·unfold putR at h
  obtain⟨q,mq,rfl⟩:=List.mem_map.mp h
  rw[qeq]
  obtain⟨mq,hb⟩:=List.mem_filter.mp mq
  have hb':q.1≠[]/\q.2.1≠qax:=by simpa using hb
  refine⟨hb'.1,?_⟩
  rcases P.cl q mq with c|c|⟨o,mo,eo,go⟩
  ·exact absurd c hb'.1
  ·exact .inl c
  ·by_cases c:q.1.dropLast=[]
   ·exact .inl c
   right
   rw[mem]
   right
   rw[qjt]
   refine List.mem_map.mpr ⟨o,List.mem_filter.mpr ⟨mo,?_⟩,eo⟩
   rw[decide_eq_false (by rw[eo];exact c),decide_eq_false go]
   rfl
theorem qok(p tr:List Row):(qat p tr++putR p).length<=tr.length+(p.filter λr=>!decide (r.1=[])).length:=by
 unfold qat putR
 rw[List.length_append,List.length_map]
 have h1:=List.length_filter_le (λr:Row=>!inR p r.1&&!qa7 p r.1) tr
 have h2:(p.filter λr=>!decide (r.1=[])&&!decide (r.2.1=qax)).length<=(p.filter λr=>!decide (r.1=[])).length:=by
  have:(p.filter λr=>!decide (r.1=[])&&!decide (r.2.1=qax))=(p.filter λr=>!decide (r.1=[])).filter λr=>!decide (r.2.1=qax):=by
   rw[List.filter_filter]
   congr 1
   funext r
   exact Bool.and_comm _ _
  rw[this]
  exact List.length_filter_le _ _
 lia
def qbq(p:List Row):List Row:=(p.filter λr=>decide (r.2.1=qcf)||decide (r.2.1=qcg)||(!decide (r.2.1=qax)&&!decide (r.1=[]))).map λr=>if r.2.1=qcf\/r.2.1=qcg then r else (r.1,qag,qav)
theorem qsk{p:List Row}(P:PaneOk p):qbq p=putR p:=by
 unfold qbq putR
 have e:(p.filter λr=>decide (r.2.1=qcf)||decide (r.2.1=qcg)||(!decide (r.2.1=qax)&&!decide (r.1=[])))=p.filter λr=>!decide (r.1=[])&&!decide (r.2.1=qax):=by
  refine List.filter_congr λr hr=>?_
  by_cases h0:r.1=[]
  ·have:=P.rt r hr h0
   rw[this,decide_eq_true h0,decide_eq_false (Ne.symm mne.2.2.2.2.2.1),decide_eq_false (Ne.symm mne.2.2.2.2.2.2.1)]
   simp
  ·rw[decide_eq_false h0]
   have m:=P.mr r hr
   rcases m with (m|m)|⟨m,_⟩|m|m
   ·rw[m,decide_eq_false mne.2.2.2.2.2.2.2.1];simp
   ·rw[m,decide_eq_false mne.2.2.2.2.2.2.2.2.1];simp
   ·rw[m,decide_eq_false (Ne.symm mne.2.1)];simp
   ·rw[m,decide_eq_false (Ne.symm mne.2.2.2.2.1)];simp
   ·rw[m,decide_eq_false (Ne.symm mne.2.2.2.2.2.2.2.1),decide_eq_false (Ne.symm mne.2.2.2.2.2.2.2.2.1)];simp
 rw[e]
 refine List.map_congr_left λr hr=>?_
 have hb:=(List.mem_filter.mp hr).2
 have mr:=(List.mem_filter.mp hr).1
 have hb':r.1≠[]/\r.2.1≠qax:=by simpa using hb
 unfold qep
 rcases P.mr r mr with m|⟨m,t⟩|m|m
 ·rw[if_pos m,if_neg]
  rcases m with m|m
  ·rw[m];exact mne.2.2.2.2.2.1
  ·rw[m];exact mne.2.2.2.2.2.2.1
 ·rw[if_neg (by rw[m];exact λz=>z.elim (λz=>mne.2.2.1 z.symm) λz=>mne.2.2.2.1 z.symm),if_neg (by rw[m];exact Ne.symm mne.1),←m,←t]
 ·rw[if_neg (by rw[m];exact λz=>z.elim (λz=>mne.2.2.2.2.2.1 z.symm) λz=>mne.2.2.2.2.2.2.1 z.symm),if_pos m]
 ·exact absurd m hb'.2
def thD:Str×Str->D:=λt=>.tup [.str t.1,.str t.2]
def WyOk(w:List Str):Prop:=w.length<=20/\∀z∈w,1<=z.length/\z.length<=12
def Wy14(w:List Str):Prop:=w.length<=14/\∀z∈w,1<=z.length/\z.length<=12
theorem Wy14.ok{w:List Str}(h:Wy14 w):WyOk w:=⟨by have:=h.1;lia,h.2⟩
theorem WyOk.ne{w:List Str}(h:WyOk w):("" : Str)∉w:=λm=>by
 have:=(h.2 _ m).1
 have e:("" : Str).length=0:=by decide +kernel
 lia
theorem WyOk.take{w:List Str}(h:WyOk w)(k:Nat):WyOk (w.take k):=⟨by rw[List.length_take];have:=h.1;lia,λz m=>h.2 z (List.mem_of_mem_take m)⟩
theorem WyOk.drop{w:List Str}(h:WyOk w):WyOk w.dropLast:=by rw[List.dropLast_eq_take];exact h.take _
def prR(r:Row):List Str×D:=(r.1,thD r.2)
theorem qon(rs:List Row)(w:List Str):lkP (rs.map prR) w=(rs.find? λr=>decide (r.1=w)).map λr=>thD r.2:=by
 unfold lkP
 rw[List.find?_map,Option.map_map]
 rfl
def prM(r:Row):List Str×D:=(r.1,.str r.2.1)
theorem qom(rs:List Row)(w:List Str):lkP (rs.map prM) w=(qbu rs w).map D.str:=by
 unfold lkP qbu
 rw[List.find?_map,Option.map_map,Option.map_map]
 rfl
theorem qkc(rs:List Row):(rs.map prR).map (·.1)=rs.map (·.1):=by rw[List.map_map];rfl
theorem qun(rs:List Row):(rs.map prM).map (·.1)=rs.map (·.1):=by rw[List.map_map];rfl
theorem qsr(ws:List (List Str))(d:D)(w:List Str):lkP (ws.map λx=>(x,d)) w=if w∈ws then some d else none:=by
 unfold lkP
 rw[List.find?_map,Option.map_map]
 induction ws with
|nil=>rfl
|cons x ws ih =>
  by_cases h:x=w
  ·rw[List.find?_cons_of_pos (by simpa using h),if_pos (by rw[h];exact List.mem_cons_self ..)]
   rfl
  ·rw[List.find?_cons_of_neg (by simpa using h),ih]
   by_cases m:w∈ws
   ·rw[if_pos m,if_pos (List.mem_cons_of_mem _ m)]
   ·rw[if_neg m,if_neg (λz=>(List.mem_cons.mp z).elim (λe=>h e.symm) m)]
def qe3(rs:List Row)(w:List Str):Bool:=(List.range w.length).any λk=>decide (qbu rs (w.take k)=some qas)
noncomputable def qtr(rs:List Row):List Row:=open Classical in if h:∃ts:List Row,ts.Perm rs/\qao ts then Classical.choose h else rs
theorem qj1{ts rs:List Row}(hp:ts.Perm rs)(hs:qao ts):qtr rs=ts:=by
 have h:∃ts:List Row,ts.Perm rs/\qao ts:=⟨ts,hp,hs⟩
 unfold qtr
 rw[dif_pos h]
 exact qhv ((Classical.choose_spec h).1.trans hp.symm) (Classical.choose_spec h).2 hs
noncomputable def qa9(p tr:List Row):List Row:=qtr (qat p tr++putR p)
noncomputable def q03(ps:List (List Row)):List Row:=ps.foldl (λt p=>qa9 p t) []
theorem q1n(ps:List (List Row))(p:List Row):q03 (ps++[p])=qa9 p (q03 ps):=by
 unfold q03
 rw[List.foldl_append]
 rfl
def bulk(p:List Row):Nat:=(p.filter λr=>!decide (r.1=[])).length
def mkOk(r:Row):Prop:=(r.2.1=qcf\/r.2.1=qcg)\/(r.2.1=qag/\r.2.2=qav)\/r.2.1=qas\/r.2.1=qax
def FS(m:Str):Prop:=m=qag\/m=qas
theorem FS.live{m:Str}(h:FS m):m≠qax:=by
 rcases h with rfl|rfl
 ·exact Ne.symm mne.2.1
 ·exact Ne.symm mne.2.2.2.2.1
def FolIn(rs:List Row)(f:List Str):Prop:=Wy14 f/\(f=[]\/∃q∈rs,q.1=f/\FS q.2.1)
def qyi(rs:List Row)(r:Row):Prop:=(r.1=[]/\r.2.1=qas)\/(r.1≠[]/\Wy14 r.1/\FolIn rs r.1.dropLast/\mkOk r)
structure PInv(i:Nat)(rs:List Row)(fs:List (List Str)):Prop where
 nd:(rs.map (·.1)).Nodup
 row:∀r∈rs,qyi rs r
 blk:bulk rs<=i
 len:rs.length<=i+1
 ne:fs≠[]
 fol:∀f∈fs,FolIn rs f
 fln:fs.length<=i+1
 nu:∀r∈rs,r.2.1=qax\/r.2.1=qas->qa7 rs r.1=false
theorem anc{rs:List Row}(row:∀r∈rs,qyi rs r):∀(n:Nat) (f:List Str),f.length=n->FolIn rs f->∀k,0<k->k<=f.length->∃q∈rs,q.1=f.take k/\FS q.2.1
|0,f,hn,_,k,h0,hk=>by lia
|n+1,f,hn,hf,k,h0,hk=>by
  have fne:f≠[]:=λz=>by rw[z] at hn;cases hn
  obtain⟨q,mq,eq,fq⟩:=hf.2.resolve_left fne
  rcases Nat.lt_or_ge k f.length with h|h
  ·rcases row q mq with c|⟨_,_,c,_⟩
   ·exact absurd (eq▸c.1) fne
   ·rw[eq] at c
    have hl:f.dropLast.length=n:=by rw[List.length_dropLast];lia
    obtain⟨o,mo,eo,fo⟩:=anc row n f.dropLast hl c k h0 (by lia)
    refine⟨o,mo,?_,fo⟩
    rw[eo,List.dropLast_eq_take,List.take_take,Nat.min_eq_left (by lia)]
  ·have:k=f.length:=by lia
   rw[this,List.take_length]
   exact⟨q,mq,eq,fq⟩
theorem qu7{rs:List Row}(nd:(rs.map (·.1)).Nodup){w:List Str}(h:∀k,0<k->k<w.length->∃q∈rs,q.1=w.take k/\FS q.2.1)(rt:∀r∈rs,r.1=[]->r.2.1=qas):qa7 rs w=qe3 rs w:=by
 unfold qa7 qe3
 refine qdm λk hk=>?_
 have hk:=List.mem_range.mp hk
 have key:∀q∈rs,q.1=w.take k->FS q.2.1->qb9 (qbu rs (w.take k))=decide (qbu rs (w.take k)=some qas):=λq mq eq fq=>by
  rw[←eq,qfp nd mq]
  rcases fq with e|e
  ·rw[e,decide_eq_false (λz=>mne.1 (Option.some.inj z).symm)];simp[qb9]
  ·rw[e,decide_eq_true rfl];simp[qb9,mne.1]
 by_cases h0:k=0
 ·subst h0
  rw[List.take_zero] at key ⊢
  by_cases hi:inR rs []=true
  ·obtain⟨q,mq,eq⟩:=List.mem_map.mp (of_decide_eq_true hi)
   exact key q mq eq (.inr (rt q mq eq))
  ·rw[Bool.not_eq_true] at hi
   rw[qga hi]
   rfl
 ·obtain⟨q,mq,eq,fq⟩:=h k (by lia) hk
  exact key q mq eq fq
theorem qp0{rs:List Row}{r:Row}{w:List Str}(h:r.1≠w):qbu (rs++[r]) w=qbu rs w:=by
 unfold qbu
 rw[List.find?_append]
 have:[r].find? (λq=>decide (q.1=w))=none:=by simp[h]
 rw[this,Option.or_none]
theorem qim{rs:List Row}{r:Row}{w:List Str}(h:∀k,k<w.length->r.1≠w.take k):qa7 (rs++[r]) w=qa7 rs w:=by
 unfold qa7
 exact qdm λk hk=>by rw[qp0 (h k (List.mem_range.mp hk))]
theorem Wy14.nil:Wy14 []:=⟨Nat.zero_le _,λ_ h=>by cases h⟩
theorem PInv.start{rs:List Row}(h:rs=[]\/rs=[([],qas,qav)]):PInv 0 rs [[]]:=by
 rcases h with rfl|rfl
 ·exact⟨List.nodup_nil,(λ_ h=>by cases h),Nat.le_refl _,Nat.zero_le _,by simp,λf hf=>by rw[List.mem_singleton.mp hf];exact⟨.nil,.inl rfl⟩,Nat.le_refl _,(λ_ h=>by cases h)⟩
 ·exact⟨by simp,λr hr=>by rw[List.mem_singleton.mp hr];exact .inl ⟨rfl,rfl⟩,Nat.le_refl _,Nat.le_refl _,by simp,λf hf=>by rw[List.mem_singleton.mp hf];exact⟨.nil,.inl rfl⟩,Nat.le_refl _,λr hr _=>by rw[List.mem_singleton.mp hr];rfl⟩
theorem FolIn.more{rs:List Row}{f:List Str}(h:FolIn rs f)(r:Row):FolIn (rs++[r]) f:=⟨h.1,h.2.imp id λ⟨q,mq,e,g⟩=>⟨q,List.mem_append_left _ mq,e,g⟩⟩
theorem PInv.stay{i:Nat}{rs:List Row}{fs:List (List Str)}(P:PInv i rs fs):PInv (i+1) rs fs:=⟨P.nd,P.row,Nat.le_succ_of_le P.blk,Nat.le_succ_of_le P.len,P.ne,P.fol,Nat.le_succ_of_le P.fln,P.nu⟩
theorem PInv.put{i:Nat}{rs:List Row}{fs:List (List Str)}(P:PInv i rs fs){f:List Str}(hf:f∈fs){z:Str}{m t:Str}(hm:mkOk (f++[z],m,t))(hw:Wy14 (f++[z]))(nw:f++[z]∉rs.map (·.1))(hsh:m=qax\/m=qas->qe3 rs (f++[z])=false):PInv (i+1) (rs++[(f++[z],m,t)]) fs/\(FS m->PInv (i+1) (rs++[(f++[z],m,t)]) (fs++[f++[z]])):=by
 have A:PInv (i+1) (rs++[(f++[z],m,t)]) fs:=by
  refine⟨?_,λr hr=>?_,?_,?_,P.ne,λg hg=>(P.fol g hg).more _,Nat.le_succ_of_le P.fln,λr hr hm2=>?_⟩
  ·rw[List.map_append,List.nodup_append]
   refine⟨P.nd,by simp,λa ha b hb e=>?_⟩
   have:b=f++[z]:=by simpa using hb
   rw[e,this] at ha
   exact nw ha
  ·rcases List.mem_append.mp hr with q|q
   ·rcases P.row r q with h|⟨h1,h2,h3,h4⟩
    ·exact .inl h
    ·exact .inr ⟨h1,h2,h3.more _,h4⟩
   ·rw[List.mem_singleton.mp q]
    refine .inr ⟨by simp,hw,?_,hm⟩
    show FolIn _ (f++[z]).dropLast
    rw[List.dropLast_concat]
    exact(P.fol f hf).more _
  ·have:=P.blk
   unfold bulk at this ⊢
   rw[List.filter_append,List.length_append]
   have:=List.length_filter_le (λr:Row=>!decide (r.1=[])) [(f++[z],m,t)]
   rw[List.length_singleton] at this
   lia
  ·have:=P.len
   rw[List.length_append,List.length_singleton]
   lia
  ·rcases List.mem_append.mp hr with q|q
   ·have old:=P.nu r q hm2
    rw[qim (λk hk e=>?_)]
    ·exact old
    ·have e':f++[z]=r.1.take k:=e
     rcases P.row r q with c|⟨_,_,c,_⟩
     ·rw[c.1] at hk
      cases hk
     ·have k0:0<k:=by
       rcases Nat.eq_zero_or_pos k with z0|z0
       ·rw[z0,List.take_zero] at e'
        exact absurd e' (by simp)
       ·exact z0
      obtain⟨o,mo,eo,_⟩:=anc P.row _ r.1.dropLast rfl c k k0 (by rw[List.length_dropLast];lia)
      refine nw (List.mem_map.mpr ⟨o,mo,?_⟩)
      rw[eo,e',List.dropLast_eq_take,List.take_take,Nat.min_eq_left (by lia)]
   ·have er:=List.mem_singleton.mp q
    subst er
    show qa7 (rs++[(f++[z],m,t)]) (f++[z])=false
    rw[qim (λk hk e=>?_)]
    ·rw[qu7 P.nd (λk k0 k1=>?_) λr hr h0=>?_]
     ·exact hsh hm2
     ·rw[List.length_append,List.length_singleton] at k1
      obtain⟨o,mo,eo,fo⟩:=anc P.row _ f rfl (P.fol f hf) k k0 (by lia)
      exact⟨o,mo,by rw[eo,List.take_append_of_le_length (by lia)],fo⟩
     ·rcases P.row r hr with c|c
      ·exact c.2
      ·exact absurd h0 c.1
    ·have:=congrArg List.length (show f++[z]=(f++[z]).take k from e)
     rw[List.length_take] at this
     lia
 refine⟨A,λhg=>⟨A.nd,A.row,A.blk,A.len,by simp,λg hg2=>?_,?_,?_⟩⟩
 ·rcases List.mem_append.mp hg2 with q|q
  ·exact A.fol g q
  ·rw[List.mem_singleton.mp q]
   exact⟨hw,.inr ⟨(f++[z],m,t),by simp,rfl,hg⟩⟩
 ·have:=P.fln
  rw[List.length_append,List.length_singleton]
  lia
 ·exact A.nu
theorem PInv.pane{i:Nat}{rs ts:List Row}{fs:List (List Str)}(P:PInv i rs fs)(hp:ts.Perm rs)(hs:qao ts):PaneOk ts/\(∀r∈ts,Wy14 r.1)/\bulk ts<=i/\ts.length<=i+1/\∀r∈ts,r.2.1=qax\/r.2.1=qas->qa7 ts r.1=false:=by
 have mem:∀r,r∈ts->qyi rs r:=λr hr=>P.row r (hp.mem_iff.mp hr)
 refine⟨⟨hs,λr hr=>?_,λr hr=>?_,λr hr h0=>?_⟩,λr hr=>?_,?_,?_,λr hr hm=>?_⟩
 ·rcases mem r hr with h|⟨h1,_,h3,_⟩
  ·exact .inl h.1
  ·rcases h3.2 with h|⟨q,mq,e,g⟩
   ·exact .inr (.inl h)
   ·exact .inr (.inr ⟨q,hp.mem_iff.mpr mq,e,g.live⟩)
 ·rcases mem r hr with h|⟨_,_,_,h4⟩
  ·exact .inr (.inr (.inl h.2))
  ·exact h4
 ·rcases mem r hr with h|⟨h1,_⟩
  ·exact h.2
  ·exact absurd h0 h1
 ·rcases mem r hr with h|⟨_,h2,_⟩
  ·rw[h.1];exact .nil
  ·exact h2
 ·have:=P.blk
  unfold bulk at this ⊢
  rw[(hp.filter _).length_eq]
  exact this
 ·rw[hp.length_eq]
  exact P.len
 ·have nt:=qah hs
  have:∀w,qbu ts w=qbu rs w:=λw=>by
   by_cases h:inR ts w=true
   ·obtain⟨q,mq,e⟩:=List.mem_map.mp (of_decide_eq_true h)
    rw[←e,qfp nt mq,qfp P.nd (hp.mem_iff.mp mq)]
   ·have h2:inR rs w=false:=by
     rw[Bool.not_eq_true] at h
     refine decide_eq_false λm=>of_decide_eq_false h ?_
     exact((hp.map (·.1)).mem_iff).mpr m
    rw[Bool.not_eq_true] at h
    rw[qga h,qga h2]
  have e:qa7 ts r.1=qa7 rs r.1:=qdm λk _=>by rw[this]
  rw[e]
  exact P.nu r (hp.mem_iff.mp hr) hm
def lkR(rs:List Row)(w:List Str):Str×Str:=((rs.find? λr=>decide (r.1=w)).map (·.2)).getD (qav,qav)
theorem qje{rs:List Row}(nd:(rs.map (·.1)).Nodup){r:Row}(h:r∈rs):(rs.find? λq=>decide (q.1=r.1))=some r:=by
 cases e:rs.find? λq=>decide (q.1=r.1) with
|none=>exact absurd (decide_eq_true rfl) (List.find?_eq_none.mp e r h)
|some q =>
  have h1:=List.mem_of_find?_eq_some e
  have h2:q.1=r.1:=of_decide_eq_true (p:=q.1=r.1) (by simpa using List.find?_some e)
  rw[qbt nd h1 h h2]
theorem qek{rs:List Row}(nd:(rs.map (·.1)).Nodup){vs:List (List Str)}(hv:vs.Perm (rs.map (·.1)))(hs:vs.Pairwise (λa b=>ltW a b=true)):(vs.map λw=>(w,lkR rs w)).Perm rs/\qao (vs.map λw=>(w,lkR rs w)):=by
 constructor
 ·refine(hv.map _).trans (List.Perm.of_eq ?_)
  rw[List.map_map]
  refine(List.map_congr_left λr hr=>?_).trans (List.map_id _)
  show (r.1,lkR rs r.1)=r
  unfold lkR
  rw[qje nd hr]
  rfl
 ·show List.Pairwise _ (List.map _ _)
  rw[List.pairwise_map]
  exact hs
theorem qmz{rs:List Row}(nd:(rs.map (·.1)).Nodup){w:List Str}(h:w∈rs.map (·.1)):lkP (rs.map prR) w=some (thD (lkR rs w)):=by
 obtain⟨r,mr,rfl⟩:=List.mem_map.mp h
 rw[qon]
 unfold lkR
 rw[qje nd mr]
 rfl
def s6(u:Nat):Nat:=u%99991%9+(u+96542*1)%99991%9+(u+96542*2)%99991%9+(u+96542*3)%99991%9+(u+96542*4)%99991%9+(u+96542*5)%99991%9
end L2
namespace L2
open PySem PySem.Spec PyProof.Rows
mutual
def tupO:D->Bool
|.non=>true
|.bl _=>true
|.int _=>true
|.str _=>true
|.tup ds=>qe4 ds
|_=>false
def qe4:List D->Bool
|[]=>true
|d::ds=>tupO d&&qe4 ds
end
def dele(B:Hp)(ad:Addr):Hp:=λa=>if a=ad then none else B a
section
variable {K:PySem.W.Frag} {B:Hp} {ad:Addr}
theorem qi9{a:Addr}(h:a≠ad):dele B ad a=B a:=if_neg h
mutual
theorem Rep.less(hl:∀xs,B ad≠some (.tup xs)):∀(d:D) (v:V),tupO d=true->Rep K B d v->Rep K (dele B ad) d v
|.non,v,_,r=>by unfold Rep at r ⊢;exact r
|.bl _,v,_,r=>by unfold Rep at r ⊢;exact r
|.int _,v,_,r=>by unfold Rep at r ⊢;exact r
|.str _,v,_,r=>by unfold Rep at r ⊢;exact r
|.tup ds,v,h,r=>by
  unfold Rep at r ⊢
  unfold tupO at h
  obtain⟨a,xs,e,t,rs⟩:=r
  refine⟨a,xs,e,?_,Reps.less hl ds xs h rs⟩
  rcases t with t|t
  ·left
   rw[qi9 (show a≠ad from λz=>hl xs (by rw[←z];exact t))]
   exact t
  ·exact .inr t
|.lst _,_,h,_=>by unfold tupO at h;cases h
|.dT _ _,_,h,_=>by unfold tupO at h;cases h
|.dK _ _,_,h,_=>by unfold tupO at h;cases h
|.scr _,_,h,_=>by unfold tupO at h;cases h
|.kt _,_,h,_=>by unfold tupO at h;cases h
|.exc _,_,h,_=>by unfold tupO at h;cases h
theorem Reps.less(hl:∀xs,B ad≠some (.tup xs)):∀(ds:List D) (vs:List V),qe4 ds=true->Reps K B ds vs->Reps K (dele B ad) ds vs
|[],vs,_,r=>by unfold Reps at r ⊢;exact r
|d::ds,vs,h,r=>by
  unfold Reps at r ⊢
  unfold qe4 at h
  rw[Bool.and_eq_true] at h
  obtain⟨x,xs,e,r1,r2⟩:=r
  exact⟨x,xs,e,Rep.less hl d x h.1 r1,Reps.less hl ds xs h.2 r2⟩
end
end
def tupR(r:R)(Q:R->Prop):Prop:=match r with
|.val d=>tupO d=true/\Q (.val d)
|.own (.lst ds)=>qe4 ds=true/\Q (.own (.lst ds))
|_=>False
def qql(g:DP)(i:Nat)(tA:TVA):TV:=λτ Q=>match τ[i]? with
|some (some (.own d))=>tA τ λa=>exA a (λ_=>False) λds=>g (d::ds) λr=>tupR r Q
|_=>False
section
variable {X:Cx} {EX:St->XK} {pos p:Pos} {x y:Str} {es:List Expr} {tA:TVA}
theorem qt2{k:Nat}{ps:List Str}{g:DP}{i:Nat}{p2:Pos}(C:Cal X.prog X.w X.K X.mg X.base k x ps (spOf X.K g))(hr:Room k X.A)(hg:Gl X x)(ha:VA X EX es tA)(hN:X.N[i]?=some y:=by rfl)(hv:Vis X.env.scope y:=by first|exact Or.inl rfl|exact Or.inr (Or.inl rfl)|exact Or.inr (Or.inr rfl))
  (hd:(y==("__debug__" : Str))=false:=by decide) (hcd:(y==("__classdict__" : Str))=false:=by decide) (hp:(Expr.Name y p2::es).all qa3=true:=by rfl) (hdb:(x==("__debug__" : Str))=false:=by decide) :
  VE X EX (.Call (.Name x p) (.Name y p2::es) [] pos) (qql g i tA) :=
 let ⟨_,a1,a2⟩:=ha.u;⟨_,qo0 C hr hg (qac (qv i hN hv hd hcd) a1 rfl) hp hdb,λH0 B H τ σ Q Qd s S h xc kk=>by
  unfold qql at h
  split at h
  ·rename_i d e1
   obtain⟨ad,e2,_,hb,ow⟩:=S.own i d e1
   refine⟨.ref ad,e2,a2 H0 B H τ σ _ _ s S h (xno λ_ q=>q) λds vs B1 H1 p1 q1 h1=>?_⟩
   have ow1:OwnAt X.K B1 H1 d ad:=ow.step p1.b (p1.h.at ow.some)
   have hb1:B1 ad=none:=p1.keep hb ow.some ow.nt
   obtain⟨o,eo,rp⟩:=ow1.pub hb1
   refine⟨d::ds,upd B1 ad o,_,qfu p1.s eo,?_,h1,λn C B' H' hq _ _=>?_,λr v B2 H2 hq p2 q2=>?_⟩
   ·rw[List.append_nil]
    exact .cons rp (q1.same (qan hb1 _))
   ·exact(show False from hq).elim
   ·have hB2:B2 ad=some o:=p2.b _ _ qbc
    have nt:∀xs,B2 ad≠some (.tup xs):=λxs z=>by
     rw[hB2] at z
     cases z
     exact ow1.nt xs eo
    have st:Stp B H (dele B2 ad) H2:=by
     refine⟨λa ob e=>?_,p1.h.trans p2.h,λa ob e=>?_,λa hne=>?_⟩
     ·have na:a≠ad:=λz=>by rw[z,hb] at e;cases e
      rw[qi9 na]
      exact p2.b _ _ (by rw[qa4 na];exact p1.b _ _ e)
     ·by_cases na:a=ad
      ·unfold dele at e
       rw[if_pos na] at e
       cases e
      ·rw[qi9 na] at e
       exact p2.s _ _ e
     ·by_cases na:a=ad
      ·unfold dele at hne
       rw[if_pos na] at hne
       exact absurd rfl hne
      ·rw[qi9 na] at hne
       rcases p2.d a hne with z|z|⟨xs,z⟩
       ·rw[qa4 na] at z
        exact p1.d a z
       ·exact .inr (.inl (p1.h.free z))
       ·cases e:H a with
       |none=>exact .inr (.inl rfl)
       |some ob =>
         rw[p1.h _ _ e] at z
         exact .inr (.inr ⟨xs,z⟩)
    unfold tupR at hq
    split at hq
    ·rename_i d'
     exact kk (.val d') _ (dele B2 ad) H2 st (Rep.less nt d' v hq.1 q2) hq.2
    ·rename_i es'
     obtain⟨a',e',f1,f2,xs,f3,f4⟩:=q2
     refine kk (.own (.lst es')) _ (dele B2 ad) H2 st ⟨a',e',p1.h.free f1,?_,xs,f3,Reps.less nt es' xs hq.1 f4⟩ hq.2
     unfold dele
     split
     ·rfl
     ·exact f2
    ·exact hq.elim
  ·exact h.elim⟩
end
end L2
namespace L2
open PySem PySem.Spec PyProof.Rows
def rowAt(p:List Row)(w:List Str):Option (Str×Str):=(p.find? λr=>decide (r.1=w)).map (·.2)
theorem qgv(p:List Row)(w:List Str):qbu p w=(rowAt p w).map (·.1):=by
 unfold qbu rowAt
 rw[Option.map_map]
 rfl
theorem qbh{p:List Row}(nd:(p.map (·.1)).Nodup){w:List Str}{x:Str×Str}:rowAt p w=some x↔(w,x)∈p:=by
 unfold rowAt
 constructor
 ·intro h
  obtain⟨r,e,rfl⟩:=Option.map_eq_some_iff.mp h
  have h1:=List.mem_of_find?_eq_some e
  have h2:r.1=w:=of_decide_eq_true (p:=r.1=w) (by simpa using List.find?_some e)
  rw[←h2]
  exact h1
 ·intro h
  have:=qje nd h
  rw[this]
  rfl
theorem rowAt_none{p:List Row}{w:List Str}:rowAt p w=none↔w∉p.map (·.1):=by
 unfold rowAt
 rw[Option.map_eq_none_iff,List.find?_eq_none]
 constructor
 ·intro h m
  obtain⟨r,mr,e⟩:=List.mem_map.mp m
  exact h r mr (decide_eq_true e)
 ·intro h r mr e
  exact h (List.mem_map.mpr ⟨r,mr,of_decide_eq_true e⟩)
theorem qs7{β:Type}{a b:Option β}(h:∀x,a=some x↔b=some x):a=b:=by
 cases a with
|none =>
  cases b with
 |none=>rfl
 |some y=>exact absurd ((h y).mpr rfl) (by simp)
|some x=>exact((h x).mp rfl).symm
theorem qhu{p q:List Row}(h1:qao p)(h2:qao q)(h:∀w,rowAt p w=rowAt q w):p=q:=by
 have n1:=qah h1
 have n2:=qah h2
 have nn:∀ {p:List Row},(p.map (·.1)).Nodup->p.Nodup:=λ{p} n=>by
  rw[List.nodup_iff_pairwise_ne,List.pairwise_map] at n
  rw[List.nodup_iff_pairwise_ne]
  exact n.imp λa e=>a (by rw[e])
 refine qhv ((List.perm_ext_iff_of_nodup (nn n1) (nn n2)).mpr λr=>?_) h1 h2
 rw[show r=(r.1,r.2) from rfl,←qbh n1,←qbh n2,h]
structure PaneC(p:List Row):Prop where
 so:qao p
 cl:∀r∈p,r.1=[]\/r.1.dropLast=[]\/∃q∈p,q.1=r.1.dropLast/\q.2.1≠qax
section
variable {α:Type} {f:α->D} {τ:VSt} {k:Nat} {g:TVG} {ti:TVT} {te:TV} {Q:R->Prop}
end
theorem qlv:∀ss:List Str,qe4 (ss.map D.str)=true
|[]=>by
  show qe4 []=true
  unfold qe4
  rfl
|x::ss=>by
  show qe4 (.str x::ss.map D.str)=true
  unfold qe4 tupO
  rw[qlv ss]
  rfl
theorem qwu(r:Row):tupO (rowD r)=true:=by
 show tupO (.tup [.tup (r.1.map D.str),.str r.2.1,.str r.2.2])=true
 simp only[tupO,qe4,qlv,Bool.and_self]
theorem qlu:∀rs:List Row,qe4 (rs.map rowD)=true
|[]=>by
  show qe4 []=true
  unfold qe4
  rfl
|r::rs=>by
  show qe4 (rowD r::rs.map rowD)=true
  unfold qe4
  rw[qwu,qlu rs]
  rfl
def q5r(ps:List (List Row)):D:=.lst (ps.map qab)
theorem qxh(r:Row):∀ts:List Row,qao ts->r.1∉ts.map (·.1)->∃us:List Row,us.Perm (r::ts)/\qao us
|[],_,_=>⟨[r],.refl _,List.pairwise_singleton _ _⟩
|t::ts,h,hn=>by
  have h':=List.pairwise_cons.mp h
  rw[List.map_cons,List.mem_cons,not_or] at hn
  rcases qm1 hn.1 with q|q
  ·refine⟨r::t::ts,.refl _,List.pairwise_cons.mpr ⟨λx hx=>?_,h⟩⟩
   rcases List.mem_cons.mp hx with e|hx
   ·rw[e];exact q
   ·exact qsx q (h'.1 x hx)
  ·obtain⟨us,p1,p2⟩:=qxh r ts h'.2 hn.2
   refine⟨t::us,(p1.cons t).trans (.swap r t ts),List.pairwise_cons.mpr ⟨λx hx=>?_,p2⟩⟩
   rcases List.mem_cons.mp (p1.mem_iff.mp hx) with e|hx
   ·rw[e];exact q
   ·exact h'.1 x hx
theorem qts:∀rs:List Row,(rs.map (·.1)).Nodup->∃ts:List Row,ts.Perm rs/\qao ts
|[],_=>⟨[],.nil,.nil⟩
|r::rs,h=>by
  rw[List.map_cons,List.nodup_cons] at h
  obtain⟨ts,p1,p2⟩:=qts rs h.2
  obtain⟨us,q1,q2⟩:=qxh r ts p2 λm=>h.1 (((p1.map (·.1)).mem_iff).mp m)
  exact⟨us,q1.trans (p1.cons r),q2⟩
theorem qwm{rs:List Row}(h:(rs.map (·.1)).Nodup):(qtr rs).Perm rs/\qao (qtr rs):=by
 obtain⟨ts,p1,p2⟩:=qts rs h
 rw[qj1 p1 p2]
 exact⟨p1,p2⟩
theorem qf9{p tr:List Row}(P:PaneOk p)(T:TreeOk tr):TreeOk (qa9 p tr)/\(qa9 p tr).Perm (qat p tr++putR p) :=
 let ⟨p1,p2⟩:=qwm (qmq (qah P.so) (qah T.so))
 ⟨qhg P T p1 p2,p1⟩
def s5(u:Nat):Nat:=u%99991%8+(u+96542*1)%99991%8+(u+96542*2)%99991%8+(u+96542*3)%99991%8+(u+96542*4)%99991%8
theorem v_if{t:TVT}{a b:TVS}{Dv:VEnds}{τ:VSt}(P:Bool->Prop)(ht:∀Y:Bool->Prop,(∀c,P c->Y c)->t τ Y)(ha:P true->a Dv τ)(hb:P false->b Dv τ):vIfS t a b Dv τ :=
 ht _ λc hc=>by
  cases c with
 |true=>exact iteT (ha hc)
 |false=>exact iteF (hb hc)
end L2
namespace L2
open PySem PySem.Spec PyProof.Rows
section
variable {X:Cx} {pins:List (Addr×Obj)} {σ:St} {H:Hp} {s:Shared} {h':Heap}
end
section
variable {X:Cx} {elts:List Expr} {kk:Nat} {tp p pos:Pos}
end
section
variable {X:Cx} {EX:St->XK} {elts:List Expr} {kk:Nat} {tp p pos:Pos} {K:PySem.W.Frag} {B:Hp} {a:Expr} {ta:TV}
end
end L2
namespace L2
open PySem PySem.Spec PyProof.Rows
section
variable {prog:Program} {w:World} {A:Around}
end
section
variable {X:Cx} {p kp pos:Pos} {a d:Expr}
end
section
variable {X:Cx} {EX:St->XK} {p kp pos cp:Pos} {a:Expr} {te:TV} {j:Nat}
end
end L2
namespace L2
open PySem PySem.Spec PyProof.Rows
section
variable {X:Cx} {EX:St->XK} {pos pos' p apos cpos:Pos} {x y:Str} {e:Expr}
end
end L2
namespace L2
open PySem PySem.Spec PyProof.Rows
section
variable {X:Cx} {pins:List (Addr×Obj)} {σ:St} {H:Hp} {s:Shared} {tg:Expr}
end
section
variable {X:Cx} {EX:St->XK} {K:PySem.W.Frag} {B H:Hp} {tg:Expr} {x:Str} {pos:Pos} {rest:List Stmt} {t:TVS}
end
end L2
namespace L2
open PySem PySem.Spec PyProof.Rows
section
variable {X:Cx}
end
section
variable {X:Cx} {EX:St->XK} {pos pos' p apos cpos:Pos} {x:Str} {e:Expr} {es:List Expr} {te:TV} {tA:TVA} {K:PySem.W.Frag} {B B' H H0:Hp} {τ:VSt} {σ:St}
end
end L2
namespace L2
open PySem PySem.Spec PyProof.Rows
section
variable {X:Cx} {pins:List (Addr×Obj)} {σ:St} {H:Hp} {s:Shared} {st:Stmt} {rest:List Stmt}
end
section
variable {X:Cx} {EX:St->XK} {K:PySem.W.Frag} {B B' H H0:Hp} {τ:VSt} {σ:St} {x:Str} {e:Expr} {te:TV} {rest:List Stmt} {u:TVS} {pos pos':Pos}
end
end L2
namespace L2
open PySem PySem.Spec PyProof.Rows
section
variable {X:Cx} {EX:St->XK} {pos p cpos:Pos} {x y:Str} {e:Expr} {es:List Expr} {tA:TVA} {K:PySem.W.Frag} {B B' H H0:Hp} {τ:VSt} {σ:St}
end
end L2
namespace L2
open PySem PySem.Spec PyProof.Rows
section
variable {X:Cx} {elts:List Expr} {kk:Nat} {tp p pos:Pos}
end
section
variable {X:Cx} {EX:St->XK} {elts:List Expr} {kk:Nat} {tp p pos:Pos} {K:PySem.W.Frag} {B:Hp} {a b:Expr} {ta tb:TV}
end
section
variable {X:Cx} {EX:St->XK}
end
end L2
namespace L2
open PySem PySem.Spec PyProof.Rows Builtin.Str
section
variable {X:Cx}
abbrev TJ:=St->Hp->Str->VK->Prop
structure QJ(X:Cx)(vs:List Expr)(t:TJ):Prop where
 u:∀(pins:List (Addr×Obj)) (s:Shared) (σ:St) (H:Hp) (out:Str) (Q:VK),Inv X pins σ H s->t σ H out Q->wpAny (model X.prog X.w) X.A (joinParts out (evalEach vs X.env)) (EP X pins σ Q) X.xe s
end
section
variable {X:Cx} {EX:St->XK} {K:PySem.W.Frag} {o e e1 e2:Expr} {to te t1 t2:TV} {apos cpos p pos:Pos} {x:Str} {rest:List Expr}
abbrev TVJ:=VSt->Str->(R->Prop)->Prop
def RfJ(K:PySem.W.Frag)(t:TJ)(u:TVJ):Prop:=∀(H0 B H:Hp) (τ:VSt) (σ:St) (out:Str) (Q:VK) (Qd:R->Prop),Same B H->Slots K H0 B H τ σ->u τ out Qd->(∀r v B' H',Stp B H B' H'->RepR K B' H H' r v->Qd r->Q v H')->t σ H out Q
structure VJ(X:Cx)(EX:St->XK)(vs:List Expr)(t:TVJ):Prop where
 u:∃tj,QJ X vs tj/\RfJ X.K tj t
end
end L2
namespace L2
open PySem PySem.Spec PyProof.Rows
section
variable {X:Cx} {EX:St->XK} {K:PySem.W.Frag} {B H H0:Hp} {e:Expr} {t:TV} {τ:VSt} {σ:St}
theorem Slots.frzE(S:Slots K H0 B H τ σ)(s:Same B H)(i:Nat):∃B2,Same B B2/\Same B2 H/\Slots K H0 B2 H (L2.frz i τ) σ:=by
 unfold L2.frz
 split
 ·rename_i d e
  obtain⟨a,q,h0,hb,o⟩:=S.own i d e
  obtain⟨u,eu,rp⟩:=o.pub hb
  refine⟨L2.upd B a u,qan hb _,qfu s eu,?_⟩
  refine⟨by rw[List.length_set,S.len],λj f q'=>?_,λj f q'=>?_,λj f q'=>?_,λj k f g c q1 q2 q3 q4=>?_⟩
  ·rcases qbk q' with ⟨rfl,z,l⟩|⟨n,q'⟩
   ·cases z
    exact⟨_,q,rp⟩
   ·obtain⟨w,q1,r⟩:=S.val j f q'
    exact⟨w,q1,r.same (qan hb _)⟩
  ·rcases qbk q' with ⟨rfl,z,l⟩|⟨n,q'⟩
   ·cases z
   ·obtain⟨w,q1,r⟩:=S.fz j f q'
    exact⟨w,q1,r.same (qan hb _)⟩
  ·rcases qbk q' with ⟨rfl,z,l⟩|⟨n,q'⟩
   ·cases z
   ·obtain⟨c,q1,h0',hb',w⟩:=S.own j f q'
    have ne:c≠a:=λz=>by subst z;exact n (S.sep i j d f c e q' q q1)
    exact⟨c,q1,h0',by rw[qa4 ne];exact hb',w.step (qan hb _) rfl⟩
  ·rcases qbk q1 with ⟨rfl,z,l⟩|⟨n,q1⟩
   ·cases z
   rcases qbk q2 with ⟨rfl,z,l⟩|⟨n2,q2⟩
   ·cases z
   exact S.sep j k f g c q1 q2 q3 q4
 ·exact⟨B,Same.refl _,s,S⟩
def qpb(i:Nat)(t:TV):TV:=λτ Q=>t (frz i τ) λr=>qnk r Q
theorem q1e(i:Nat)(h:VE X EX e t):VE X EX e (qpb i t) :=
 let ⟨_,a1,a2⟩:=h.u;⟨_,a1,λH0 B H τ σ Q Qd s S h xc kk=>by
  obtain⟨B2,s1,s2,S2⟩:=S.frzE s i
  refine a2 H0 B2 H _ σ Q (λr=>qnk r Qd) s2 S2 h (λn C B' H' p c q=>(show False from q).elim) λr v B' H' p q hq=>?_
  unfold qnk at hq
  split at hq
  ·rename_i d'
   split at hq
   ·rename_i z ez
    have:=(show Pk X.K B' H' (.val d') v from q).scal ez
    subst this
    exact kk (.val d') _ B H' (.grow s p.h) (repV ez) hq
   ·exact hq.elim
  ·exact hq.elim⟩
end
end L2
namespace L2
open PySem PySem.Spec PyProof.Rows
section
variable {X:Cx} {EX:St->XK} {K:PySem.W.Frag} {B H B' H' H0 B0 B1 H1:Hp} {st:Stmt} {rest:List Stmt} {t u:TVS} {e a:Expr} {te ta:TV} {tT:TVT} {tA:TVA} {es:List Expr} {pos pos' p p2 apos cpos:Pos} {x y:Str} {τ:VSt} {σ:St} {r:R} {v:V}
def RfAI(K:PySem.W.Frag)(EX:St->XK)(te:TA)(t:TVA)(k j:Nat):Prop:=∀(H0 B H:Hp) (τ:VSt) (σ:St) (Q:List V->Hp->Prop) (Qd:AR->Prop),Same B H->Slots K H0 B H τ σ->(∃c ps,τ[j]?=some (some (R.own (.io c ps))))->t τ Qd->(∀n C B' H',Stp B H B' H'->clsOf K n C->Qd (.exc n)->EX σ (.ref C) none H') ->
 (∀ds vs B' H' ad,Stp B H B' H'->k<=vs.length->σ[j]?=some (some (.ref ad))->Reps K B' ds vs->Qd (.ok ds)->Q (vs.insertIdx k (.ref ad)) H')->te σ H Q
structure VAI(X:Cx)(EX:St->XK)(es:List Expr)(t:TVA)(k j:Nat):Prop where
 u:∃te,QA X es te/\RfAI X.K EX te t k j
theorem Slots.consV{d:D}(S:Slots K H0 B H τ σ)(h:Rep K B d v):Slots K H0 B H (some (.val d)::τ) (some v::σ):=by
 refine⟨by have:=S.len;simp[this],λi f e=>?_,λi f e=>?_,λi f e=>?_,λi j f g ad e1 e2 e3 e4=>?_⟩
 ·cases i with
 |zero=>simp at e;subst e;exact⟨v,rfl,h⟩
 |succ i=>simpa using S.val i f (by simpa using e)
 ·cases i with
 |zero=>simp at e
 |succ i=>simpa using S.fz i f (by simpa using e)
 ·cases i with
 |zero=>simp at e
 |succ i=>simpa using S.own i f (by simpa using e)
 ·cases i with
 |zero=>simp at e1
 |succ i =>
   cases j with
  |zero=>simp at e2
  |succ j =>
    rw[S.sep i j f g ad (by simpa using e1) (by simpa using e2) (by simpa using e3) (by simpa using e4)]
end
section
variable {K:PySem.W.Frag} {x qual:Str} {st:Stmt} {f:Addr} {fd:FuncData} {ps:List Str}
theorem qcn{α:Type}{us:List α}{n:Nat}(h:us.length=n+1):∃a t,us=a::t/\t.length=n:=by
 cases us with
|nil=>cases h
|cons a t=>exact⟨a,t,rfl,Nat.succ.inj h⟩
theorem Fun.binds1(F:Fun K x qual st f fd)(hp:ps.length=1)(h:∀(kV doc pm:Value) (an:Option Addr) (cdv ct a0:Value),bindArgs (PySem.W.fnOf x qual (qc3 st) (qb5 st) (qaj st) .none kV doc pm an cdv ct) ⟨[a0],[]⟩=pure (ps.zip [a0])):Binds K fd ps [] :=
 F.binds λkV doc pm an cdv ct us hl=>by
  obtain⟨a0,t,rfl,h0⟩:=qcn (hl.trans hp)
  cases List.length_eq_zero_iff.mp h0
  exact h kV doc pm an cdv ct a0
theorem Fun.binds2(F:Fun K x qual st f fd)(hp:ps.length=2)(h:∀(kV doc pm:Value) (an:Option Addr) (cdv ct a0 a1:Value),bindArgs (PySem.W.fnOf x qual (qc3 st) (qb5 st) (qaj st) .none kV doc pm an cdv ct) ⟨[a0,a1],[]⟩=pure (ps.zip [a0,a1])):Binds K fd ps [] :=
 F.binds λkV doc pm an cdv ct us hl=>by
  obtain⟨a0,t,rfl,h0⟩:=qcn (hl.trans hp)
  obtain⟨a1,t,rfl,h1⟩:=qcn h0
  cases List.length_eq_zero_iff.mp h1
  exact h kV doc pm an cdv ct a0 a1
theorem Fun.binds3(F:Fun K x qual st f fd)(hp:ps.length=3)(h:∀(kV doc pm:Value) (an:Option Addr) (cdv ct a0 a1 a2:Value),bindArgs (PySem.W.fnOf x qual (qc3 st) (qb5 st) (qaj st) .none kV doc pm an cdv ct) ⟨[a0,a1,a2],[]⟩=pure (ps.zip [a0,a1,a2])):Binds K fd ps [] :=
 F.binds λkV doc pm an cdv ct us hl=>by
  obtain⟨a0,t,rfl,h0⟩:=qcn (hl.trans hp)
  obtain⟨a1,t,rfl,h1⟩:=qcn h0
  obtain⟨a2,t,rfl,h2⟩:=qcn h1
  cases List.length_eq_zero_iff.mp h2
  exact h kV doc pm an cdv ct a0 a1 a2
theorem Fun.binds4(F:Fun K x qual st f fd)(hp:ps.length=4)(h:∀(kV doc pm:Value) (an:Option Addr) (cdv ct a0 a1 a2 a3:Value),bindArgs (PySem.W.fnOf x qual (qc3 st) (qb5 st) (qaj st) .none kV doc pm an cdv ct) ⟨[a0,a1,a2,a3],[]⟩=pure (ps.zip [a0,a1,a2,a3])):Binds K fd ps [] :=
 F.binds λkV doc pm an cdv ct us hl=>by
  obtain⟨a0,t,rfl,h0⟩:=qcn (hl.trans hp)
  obtain⟨a1,t,rfl,h1⟩:=qcn h0
  obtain⟨a2,t,rfl,h2⟩:=qcn h1
  obtain⟨a3,t,rfl,h3⟩:=qcn h2
  cases List.length_eq_zero_iff.mp h3
  exact h kV doc pm an cdv ct a0 a1 a2 a3
end
theorem WyOk.ok{w:List Str}(h:WyOk w):WyOk w:=h
end L2
namespace L2
open PySem PySem.Spec PyProof.Rows
section
variable {X:Cx} {EX:St->XK} {a b e:Expr} {es:List Expr} {pos p tp:Pos} {tA:TVA} {te:TV}
end
end L2
namespace L2
open PySem PySem.Spec PyProof.Rows
section
variable {X:Cx} {EX:St->XK} {K:PySem.W.Frag} {B H B' H' H0 B0 B1 H1:Hp} {st:Stmt} {rest:List Stmt} {t u:TVS} {e a:Expr} {te ta tk:TV} {tT:TVT} {tA:TVA} {es:List Expr} {pos pos' p p2 apos cpos:Pos} {x y:Str} {τ:VSt} {σ:St} {r:R} {v:V}
def q4t(K:PySem.W.Frag)(EX:St->XK)(te:TA)(t:TVA)(k j:Nat):Prop:=∀(H0 B H:Hp) (τ:VSt) (σ:St) (Q:List V->Hp->Prop) (Qd:AR->Prop),Same B H->Slots K H0 B H τ σ->(∃ks ps,τ[j]?=some (some (R.own (.dT ks ps))))->t τ Qd->(∀n C B' H',Stp B H B' H'->clsOf K n C->Qd (.exc n)->EX σ (.ref C) none H') ->
 (∀ds vs B' H' ad,Stp B H B' H'->k<=vs.length->σ[j]?=some (some (.ref ad))->Reps K B' ds vs->Qd (.ok ds)->Q (vs.insertIdx k (.ref ad)) H')->te σ H Q
structure VAIT(X:Cx)(EX:St->XK)(es:List Expr)(t:TVA)(k j:Nat):Prop where
 u:∃te,QA X es te/\q4t X.K EX te t k j
def repL(ds:List D)(n:Nat):List D:=(List.replicate n ds).flatten
def qt0(rx ry:R)(Q:R->Prop):Prop:=match rx.d,ry.d with
|.lst ds,.int n=>-(2 ^ 63)<=n/\n<2 ^ 63/\ds.length*n.toNat<=sizeLine/\Q (.own (.lst (repL ds n.toNat)))
|_,_=>False
theorem qo2{ds:List D}{xs:List V}(h:Reps K B ds xs):∀n,Reps K B (repL ds n) (List.replicate n xs).flatten
|0=>by unfold repL;unfold Reps;rfl
|n+1=>by
  have:=h.append (qo2 h n)
  unfold repL at this ⊢
  rw[List.replicate_succ,List.replicate_succ,List.flatten_cons,List.flatten_cons]
  exact this
theorem q1f:VO X (binaryOp .Mult) qt0:=⟨_,q2t,λB H x y rx ry Q Qd s px py h k=>by
 unfold qt0 at h
 split at h
 ·rename_i ds n e1 e2
  obtain⟨a,xs,rfl,h1,r1⟩:=px.lst s e1
  obtain⟨c1,c2,c3,hq⟩:=h
  exact⟨a,n,xs,rfl,py.scal (by rw[e2];rfl),h1,c1,c2,by rw[←r1.length];exact c3,λp hp=>k (.own (.lst (repL ds n.toNat))) _ B _ (.grow s (qan hp _)) ⟨p,rfl,hp,s.free hp,qbr (qo2 r1 _)⟩ hq⟩
 ·exact h.elim⟩
end
section
variable {X:Cx} {p kp pos:Pos} {a d:Expr}
end
section
variable {X:Cx} {EX:St->XK} {p kp pos cp:Pos} {a:Expr} {te:TV} {j:Nat}
end
section
variable {prog:Program} {w:World} {A:Around} {E:Value->Shared->Prop} {s:Shared} {d:Addr} {es:Array DictEntry} {ep:Nat}
end
section
variable {X:Cx}
end
section
variable {P:Program} {w:World} {K:PySem.W.Frag} {mg:Str->Option Value} {base h:Heap} {x:Str} {st:Stmt} {k:Nat} {ps:List Str} {sp:Sp}
def qb4(K:PySem.W.Frag)(x:Str)(st:Stmt):Prop:=∃(f:Addr) (fd:FuncData),PySem.W.nsIn K mainGlobals x=some (some (.ref f))/\Fun K x x st f fd
theorem q5s{f:Addr}{oc:Value}{od an:Option Addr}{osl:Array (Option Value)}{kV doc pm cdv ct:Value}(a:PySem.W.nsIn K mainGlobals x=some (some (.ref f)))(l:K.lookup f=some ⟨oc,od,.func (PySem.W.fnOf x x (qc3 st) (qb5 st) (qaj st) .none kV doc pm an cdv ct),osl⟩)
  (c:PySem.W.codeIn K cdv x=true) (q:PySem.W.keepIn K (.ref f)=true):qb4 K x st:=⟨f,_,a,qxg l c q⟩
theorem calD(P:Program)(w:World)(base:Heap)(X:K.In h)(G:h.Ns mainGlobals mg)(D:qb4 K x st)(ok:∀ {f:Addr} {fd:FuncData},Fun K x x st f fd->FnOk P w K mg base CX0 k f fd ps sp)(b:∀ {f:Addr} {fd:FuncData},Fun K x x st f fd->Binds K fd ps []):Cal P w K mg base k x ps sp :=
 let ⟨_,_,a,F⟩:=D;.mk (ok F) (PySem.W.mg_of X G a) F.kp (b F)
end
end L2
namespace L2
open PySem PySem.Spec PyProof.Rows
section
variable {X:Cx}
end
end L2
namespace L2
open PySem PySem.Spec PyProof.Rows
section
variable {X:Cx} {EX:St->XK} {K:PySem.W.Frag} {B B' H H0:Hp} {τ:VSt} {σ:St} {x:Str} {e:Expr} {te:TV} {rest:List Stmt} {u:TVS} {pos pos':Pos}
end
end L2
namespace L2
open PySem PySem.Spec PyProof.Rows
section
variable {X:Cx} {EX:St->XK} {e a o i:Expr} {te ta to ti:TV} {pos pos' p p2 apos cpos:Pos} {x:Str} {f:Expr} {tf:TV}
end
end L2
namespace L2
open PySem PySem.Spec PyProof.Rows
section
variable {X:Cx}
end
end L2
namespace PySem
section
variable {prog:Program} {w:World} {K:Type} [DecidableEq K] {knd:HeapKind prog w K} {A:Around} {E:Value->Shared->Prop} {s:Shared}
end
section
variable {prog:Program} {w:World} {K:Type} [DecidableEq K] (knd:HeapKind prog w K) (d a:Addr)
end
end PySem
namespace L2
open PySem PySem.Spec PyProof.Rows
section
variable {X:Cx} {pins:List (Addr×Obj)} {σ:St} {H:Hp} {s:Shared} {a b:Addr} {u r:Value} {d:V} {A:Around} {E:Value->Shared->Prop}
end
end L2
namespace L2
open PySem PySem.Spec PyProof.Rows
section
variable {X:Cx} {o e f:Expr} {apos cpos:Pos} {td ty tx:TE}
end
section
variable {X:Cx} {EX:St->XK} {K:PySem.W.Frag} {B H B' H' H0 B0 B1 H1:Hp} {st:Stmt} {rest:List Stmt} {t u:TVS} {e f a:Expr} {te ta tk tf:TV} {tT:TVT} {tA:TVA} {es:List Expr} {pos pos' p p2 p3 apos cpos:Pos} {x y:Str} {τ:VSt} {σ:St} {r:R} {v:V}
end
end L2
namespace PySem
namespace SetTable
def stp5:Nat->Nat->Nat
|0,x=>x
|n+1,x=>stp5 n (x*5+1)
theorem qj2:∀(n m x:Nat),stp5 (n+m) x=stp5 m (stp5 n x)
|0,m,x=>by rw[Nat.zero_add];rfl
|n+1,m,x=>by
  rw[show n+1+m=(n+m)+1 by lia]
  show stp5 (n+m) (x*5+1)=stp5 m (stp5 n (x*5+1))
  exact qj2 n m _
theorem qo7:∀k:Nat,∃c:Nat,∀x,stp5 (2 ^ k) x=x+2 ^ k*(2*c+1)*(4*x+1)
|0=>⟨0,λx=>by show x*5+1=_;simp;lia⟩
|k+1=>by
  obtain⟨c,h⟩:=qo7 k
  refine⟨c+2 ^ k*(2*c+1)*(2*c+1),λx=>?_⟩
  rw[show 2 ^ (k+1)=2 ^ k+2 ^ k by rw[Nat.pow_succ];lia,qj2,h x,h]
  generalize 2 ^ k=P
  generalize hS:P*(2*c+1)=S
  have e:(P+P)*(2*(c+S*(2*c+1))+1)=S*(2+4*S):=by
   rw[←hS]
   simp only[Nat.mul_add,Nat.add_mul,Nat.mul_one,Nat.one_mul,Nat.mul_assoc,Nat.mul_left_comm,Nat.mul_comm]
   lia
  rw[e]
  simp only[Nat.mul_add,Nat.add_mul,Nat.mul_one,Nat.one_mul,Nat.mul_assoc,Nat.mul_left_comm,Nat.mul_comm]
  lia
theorem qo6:∀(k x q:Nat),∃n,n<2 ^ k/\stp5 n x%2 ^ k=q%2 ^ k
|0,x,q=>⟨0,by decide,by rw[Nat.pow_zero,Nat.mod_one,Nat.mod_one]⟩
|k+1,x,q=>by
  obtain⟨n,hn,e⟩:=qo6 k x q
  obtain⟨c,hc⟩:=qo7 k
  have hp:0<2 ^ k:=Nat.pow_pos (by decide)
  have e2:2 ^ (k+1)=2 ^ k*2:=Nat.pow_succ ..
  generalize hy:stp5 n x=y at e
  by_cases z:y%(2 ^ k*2)=q%(2 ^ k*2)
  ·exact⟨n,by rw[e2];lia,by rw[e2,hy];exact z⟩
  ·refine⟨n+2 ^ k,by rw[e2];lia,?_⟩
   rw[e2,qj2,hy,hc y]
   have e3:y+2 ^ k*(2*c+1)*(4*y+1)=(y+2 ^ k)+2 ^ k*2*(c*(4*y+1)+2*y):=by
    simp only[Nat.mul_add,Nat.add_mul,Nat.mul_one,Nat.one_mul,Nat.mul_assoc,Nat.mul_left_comm,Nat.mul_comm]
    lia
   rw[e3,Nat.add_mul_mod_self_left]
   rw[Nat.mod_mul,Nat.mod_mul,e] at z
   rw[Nat.mod_mul,Nat.mod_mul,Nat.add_mod_right,Nat.add_div_right _ hp,e]
   have a:=Nat.mod_lt (y / 2 ^ k) (show 2>0 by decide)
   have b:=Nat.mod_lt (q / 2 ^ k) (show 2>0 by decide)
   have n1:y / 2 ^ k%2≠q / 2 ^ k%2:=λw=>z (by rw[w])
   have:(y / 2 ^ k+1)%2=q / 2 ^ k%2:=by lia
   rw[this]
def stM(m:Nat):Nat->Nat->Nat
|0,x=>x
|n+1,x=>stM m n ((x*5+1)%m)
theorem qx1(m:Nat):∀(n x:Nat),stM m n (x%m)=stp5 n x%m
|0,x=>rfl
|n+1,x=>by
  show stM m n ((x%m*5+1)%m)=stp5 n (x*5+1)%m
  rw[←qx1 m n (x*5+1)]
  congr 1
  rw[Nat.add_mod,Nat.mul_mod,Nat.mod_mod,←Nat.mul_mod,←Nat.add_mod]
theorem q07{k x q:Nat}(hx:x<2 ^ k)(hq:q<2 ^ k):∃n,n<2 ^ k/\stM (2 ^ k) n x=q:=by
 obtain⟨n,hn,e⟩:=qo6 k x q
 refine⟨n,hn,?_⟩
 have:=qx1 (2 ^ k) n x
 rw[Nat.mod_eq_of_lt hx] at this
 rw[this,e,Nat.mod_eq_of_lt hq]
def qdv(mask:Nat):Nat->Nat×Nat->Nat×Nat
|0,p=>p
|n+1,p=>qdv mask n (leap mask p.1 p.2)
theorem qk6(mask:Nat):∀(n m:Nat) (p:Nat×Nat),qdv mask (n+m) p=qdv mask m (qdv mask n p)
|0,m,p=>by rw[Nat.zero_add];rfl
|n+1,m,p=>by
  rw[show n+1+m=(n+m)+1 by lia]
  exact qk6 mask n m _
theorem qip(mask:Nat):∀(n:Nat) (p:Nat×Nat),(qdv mask n p).2=p.2 / 32 ^ n
|0,p=>by simp[qdv]
|n+1,p=>by
  show (qdv mask n (leap mask p.1 p.2)).2=_
  rw[qip mask n]
  show p.2 / 32 / 32 ^ n=_
  rw[Nat.div_div_eq_div_mul,Nat.pow_succ,Nat.mul_comm]
theorem qk7{mask:Nat}:∀(n:Nat) {p:Nat×Nat},p.1<=mask->(qdv mask n p).1<=mask
|0,p,h=>h
|n+1,p,h=>qk7 n (Nat.le_of_lt_succ (Nat.mod_lt _ (Nat.succ_pos _)))
theorem qiq(mask:Nat):∀(n i:Nat),qdv mask n (i,0)=(stM (mask+1) n i,0)
|0,i=>rfl
|n+1,i=>by
  show qdv mask n (leap mask i 0)=_
  have:leap mask i 0=((i*5+1)%(mask+1),0):=by unfold leap;rfl
  rw[this,qiq mask n]
  rfl
theorem qmd(h:Int):bits h<2 ^ 64:=by
 unfold bits
 have h0:=Int.emod_nonneg h (show (2 ^ 64:Int)≠0 by decide)
 have h1:=Int.emod_lt_of_pos h (show (0:Int)<2 ^ 64 by decide)
 have e:((2 ^ 64:Nat):Int)=2 ^ 64:=by decide
 lia
theorem qhh{mask k i per q:Nat}(hm:mask+1=2 ^ k)(hi:i<=mask)(hp:per<2 ^ 64)(hq:q<=mask):∃n,n<mask+14/\(qdv mask n (i,per)).1=q:=by
 have h13:(qdv mask 13 (i,per)).2=0:=by
  rw[qip]
  exact Nat.div_eq_of_lt (Nat.lt_of_lt_of_le hp (by decide))
 have l13:(qdv mask 13 (i,per)).1<=mask:=qk7 13 hi
 obtain⟨n,hn,e⟩:=q07 (k:=k) (x:=(qdv mask 13 (i,per)).1) (q:=q) (by lia) (by lia)
 refine⟨13+n,by lia,?_⟩
 rw[qk6,show qdv mask 13 (i,per)=((qdv mask 13 (i,per)).1,0) from Prod.ext rfl h13,qiq,hm]
 exact e
end SetTable
end PySem
namespace PySem
namespace SetTable
theorem sub_len{α:Type}[DecidableEq α]:∀ {l l':List α},l.Nodup->(∀x∈l,x∈l')->l.length<=l'.length
|[],_,_,_=>Nat.zero_le _
|a::l,l',nd,h=>by
  have n:=List.nodup_cons.mp nd
  have ha:=h a List.mem_cons_self
  have:=sub_len (l:=l) (l':=l'.erase a) n.2 λx m=>(List.mem_erase_of_ne (λe=>n.1 (by rw[←e];exact m))).mpr (h x (List.mem_cons_of_mem _ m))
  rw[List.length_erase_of_mem ha] at this
  have:=List.length_pos_of_mem ha
  rw[List.length_cons]
  lia
def Inc(xs:Array Nat):Prop:=∀i j (hi:i<xs.size) (hj:j<xs.size),i<j->xs[i]<xs[j]
theorem qi5{xs:Array Nat}(h:Inc xs)(j:Nat):∀(fuel lo hi:Nat),hi-lo<=fuel->lo<=hi->hi<=xs.size->(∀i (l:i<xs.size),i<lo->xs[i]<j)->(∀i (l:i<xs.size),hi<=i->j<=xs[i]) ->
  below.go xs j fuel lo hi<=xs.size/\(∀i (l:i<xs.size),i<below.go xs j fuel lo hi->xs[i]<j)/\(∀i (l:i<xs.size),below.go xs j fuel lo hi<=i->j<=xs[i])
|0,lo,hi,h1,h2,h3,h4,h5=>by
  have:lo=hi:=by lia
  subst this
  exact⟨h3,h4,h5⟩
|fuel+1,lo,hi,h1,h2,h3,h4,h5=>by
  unfold below.go
  by_cases l:lo<hi
  ·rw[if_pos l]
   have ml:(lo+hi) / 2<xs.size:=by lia
   have eg:xs.getD ((lo+hi) / 2) j=xs[(lo+hi) / 2]:=by simp[ml]
   simp only[eg]
   by_cases c:xs[(lo+hi) / 2]<j
   ·rw[if_pos c]
    refine qi5 h j fuel _ hi (by lia) (by lia) h3 (λi li hl=>?_) h5
    rcases Nat.lt_or_ge i ((lo+hi) / 2) with z|z
    ·have:=h i _ li ml z;lia
    ·have:i=(lo+hi) / 2:=by lia
     subst this
     exact c
   ·rw[if_neg c]
    refine qi5 h j fuel lo _ (by lia) (by lia) (by lia) h4 (λi li hl=>?_)
    rcases Nat.lt_or_ge ((lo+hi) / 2) i with z|z
    ·have:=h _ i ml li z;lia
    ·have:i=(lo+hi) / 2:=by lia
     subst this
     lia
  ·rw[if_neg l]
   have:lo=hi:=by lia
   subst this
   exact⟨h3,h4,h5⟩
theorem qii{xs:Array Nat}(h:Inc xs)(j:Nat):below xs j<=xs.size/\(∀i (l:i<xs.size),i<below xs j->xs[i]<j)/\(∀i (l:i<xs.size),below xs j<=i->j<=xs[i]) :=
 qi5 h j xs.size 0 xs.size (by lia) (Nat.zero_le _) (Nat.le_refl _) (λi _ z=>absurd z (Nat.not_lt_zero _)) (λi l z=>absurd l (by lia))
structure TOk(t:SetTable)(n:Nat):Prop where
 mk2:∃k,t.mask+1=2 ^ k
 big:7<=t.mask
 few:t.mask<=8191
 sz:t.place.size=n
 so:Inc t.place
 lo:∀j∈t.place.toList,j<=t.mask
 nd:t.dummies=#[]
 fl:n<=t.mask
section
variable {t:SetTable} {n:Nat}
theorem TOk.slot(T:TOk t n)(j:Nat):(j∉t.place.toList/\t.slot j=.empty)\/∃i,t.place[i]?=some j/\i<n/\t.slot j=.live i:=by
 obtain⟨b1,b2,b3⟩:=qii T.so j
 have dm:has t.dummies j=false:=by rw[T.nd];rfl
 unfold SetTable.slot
 simp only[dm]
 by_cases m:j∈t.place.toList
 ·obtain⟨i,hi,e⟩:=List.mem_iff_getElem.mp m
  have hi':i<t.place.size:=by simpa using hi
  have e':t.place[i]=j:=by simpa using e
  have eb:below t.place j=i:=by
   rcases Nat.lt_trichotomy (below t.place j) i with l|l|l
   ·have h1:=b3 (below t.place j) (by lia) (Nat.le_refl _)
    have h2:=T.so _ i (by lia) hi' l
    lia
   ·exact l
   ·have:=b2 i hi' l
    lia
  right
  refine⟨i,by rw[Array.getElem?_eq_getElem hi',e'],by rw[←T.sz];exact hi',?_⟩
  rw[eb,Array.getElem?_eq_getElem hi',e']
  simp
 ·left
  refine⟨m,?_⟩
  have:¬ (t.place[below t.place j]?==some j)=true:=λz=>by
   have z:t.place[below t.place j]?=some j:=by simpa using z
   obtain⟨hl,e⟩:=Array.getElem?_eq_some_iff.mp z
   exact m (by rw[←e];simp)
  rw[if_neg this,if_neg (by decide)]
theorem TOk.room(T:TOk t n):∃q,q<=t.mask/\t.slot q=.empty:=by
 apply Classical.byContradiction
 intro no
 have all:∀q∈List.range (t.mask+1),q∈t.place.toList:=λq m=>by
  have:=List.mem_range.mp m
  rcases T.slot q with ⟨_,e⟩|⟨i,e,_⟩
  ·exact absurd ⟨q,by lia,e⟩ no
  ·obtain⟨hl,e⟩:=Array.getElem?_eq_some_iff.mp e
   rw[←e];simp
 have:=sub_len List.nodup_range all
 rw[List.length_range] at this
 have e:t.place.toList.length=n:=by simpa using T.sz
 have:=T.fl
 lia
def advs(t:SetTable):Nat->Probe->Probe
|0,p=>p
|n+1,p=>advs t n (t.advance p)
theorem qds(t:SetTable):∀(n m:Nat) (p:Probe),advs t (n+m) p=advs t m (advs t n p)
|0,m,p=>by rw[Nat.zero_add];rfl
|n+1,m,p=>by
  rw[show n+1+m=(n+m)+1 by lia]
  exact qds t n m _
def qdd(mask:Nat)(x:Nat×Nat):Probe:={ j:=x.1,more:=runEnd mask x.1-x.1,i:=x.1,perturb:=x.2,dummy:=none }
theorem qi3(t:SetTable):∀(k:Nat) (p:Probe),p.more=k->advs t k p={ p with j:=p.j+k,more:=0 }
|0,p,h=>by
  show p=_
  cases p
  simp only at h
  subst h
  rfl
|k+1,p,h=>by
  show advs t k (t.advance p)=_
  have e:t.advance p={ p with j:=p.j+1,more:=p.more-1 }:=by
   unfold advance
   rw[if_pos (by lia)]
  rw[e,qi3 t k _ (by show p.more-1=k;lia)]
  show ({ p with j:=p.j+1+k,more:=0 }:Probe)={ p with j:=p.j+(k+1),more:=0 }
  rw[show p.j+1+k=p.j+(k+1) by lia]
theorem qq7(t:SetTable)(x:Nat×Nat):∃n,n<=10/\advs t n (qdd t.mask x)=qdd t.mask (leap t.mask x.1 x.2):=by
 refine⟨(runEnd t.mask x.1-x.1)+1,?_,?_⟩
 ·unfold runEnd
  split<;>lia
 ·rw[qds,qi3 t (runEnd t.mask x.1-x.1) (qdd t.mask x) rfl]
  simp only[advs]
  unfold advance
  rw[if_neg (by show ¬ (0>0);decide)]
  rfl
theorem qih(t:SetTable):∀(m:Nat) (x:Nat×Nat),∃n,n<=10*m/\advs t n (qdd t.mask x)=qdd t.mask (qdv t.mask m x)
|0,x=>⟨0,Nat.le_refl _,rfl⟩
|m+1,x=>by
  obtain⟨a,ha,ea⟩:=qq7 t x
  obtain⟨b,hb,eb⟩:=qih t m (leap t.mask x.1 x.2)
  exact⟨a+b,by lia,by rw[qds,ea,eb];rfl⟩
def Far(t:SetTable)(n:Nat)(p:Probe):Prop:=p.dummy=none/\p.j+p.more<=t.mask/\t.slot (advs t n p).j=.empty
theorem qel{mask i:Nat}(h:i<=mask):runEnd mask i<=mask/\i<=runEnd mask i:=by
 unfold runEnd
 split<;>lia
theorem TOk.far(T:TOk t n)(h:Int):∃k,k<10*turns t.mask/\Far t k (t.probeStart h):=by
 obtain⟨q,hq,eq⟩:=T.room
 obtain⟨k,hk⟩:=T.mk2
 have hi:bits h%(t.mask+1)<=t.mask:=Nat.le_of_lt_succ (Nat.mod_lt _ (Nat.succ_pos _))
 obtain⟨m,hm,em⟩:=qhh hk hi (qmd h) hq
 obtain⟨a,ha,ea⟩:=qih t m (bits h%(t.mask+1),bits h)
 have e0:t.probeStart h=qdd t.mask (bits h%(t.mask+1),bits h):=rfl
 refine⟨a,?_,rfl,?_,?_⟩
 ·show a<10*(t.mask+15)
  lia
 ·rw[e0]
  have:=qel hi
  show bits h%(t.mask+1)+(runEnd t.mask (bits h%(t.mask+1))-bits h%(t.mask+1))<=t.mask
  lia
 ·rw[e0,ea]
  show t.slot (qdv t.mask m (bits h%(t.mask+1),bits h)).1=.empty
  rw[em]
  exact eq
theorem qq5(t:SetTable){p:Probe}(h:p.j+p.more<=t.mask):(t.advance p).j+(t.advance p).more<=t.mask/\(t.advance p).dummy=p.dummy:=by
 unfold advance
 split
 ·exact⟨by show p.j+1+(p.more-1)<=t.mask;lia,rfl⟩
 ·have hi:(leap t.mask p.i p.perturb).1<=t.mask:=Nat.le_of_lt_succ (Nat.mod_lt _ (Nat.succ_pos _))
  have:=qel hi
  refine⟨?_,rfl⟩
  show (leap t.mask p.i p.perturb).1+(runEnd t.mask (leap t.mask p.i p.perturb).1-(leap t.mask p.i p.perturb).1)<=t.mask
  lia
theorem TOk.met(T:TOk t n){hashAt:Nat->Int}{h:Int}:∀(fuel k:Nat) (p:Probe),k<fuel->Far t k p ->
  (∃j,probe.go t hashAt h fuel p=some (.empty j none)/\j<=t.mask/\j∉t.place.toList) \/
  ∃j i next k',probe.go t hashAt h fuel p=some (.candidate j i next)/\t.slot j=.live i/\i<n/\hashAt i=h/\k'<k/\Far t k' next
|0,k,p,hk,_=>by lia
|fuel+1,k,p,hk,⟨d,low,far⟩=>by
  unfold probe.go
  rcases T.slot p.j with ⟨m,e⟩|⟨i,e1,hi,e2⟩
  ·rw[e,d]
   exact .inl ⟨p.j,rfl,by lia,m⟩
  ·rw[e2]
   cases k with
  |zero =>
    have far:t.slot p.j=.empty:=far
    rw[e2] at far
    cases far
  |succ k =>
    obtain⟨l1,l2⟩:=qq5 t low
    have far':Far t k (t.advance p):=⟨by rw[l2,d],l1,far⟩
    simp only
    by_cases c:(hashAt i==h)=true
    ·rw[if_pos c]
     exact .inr ⟨p.j,i,t.advance p,k,rfl,e2,hi,by simpa using c,by lia,far'⟩
    ·rw[if_neg c]
     rcases T.met fuel k _ (by lia) far' with z|⟨j,i',nx,k',z1,z2,z3,z4,z5,z6⟩
     ·exact .inl z
     ·exact .inr ⟨j,i',nx,k',z1,z2,z3,z4,by lia,z6⟩
end
end SetTable
end PySem
namespace PySem
namespace SetTable
theorem inc_iff{xs:Array Nat}:Inc xs↔xs.toList.Pairwise (·<·):=by
 rw[List.pairwise_iff_getElem]
 constructor
 ·intro h i j hi hj l
  have:=h i j (by simpa using hi) (by simpa using hj) l
  simpa using this
 ·intro h i j hi hj l
  have:=h i j (by simpa using hi) (by simpa using hj) l
  simpa using this
theorem TOk.put{t:SetTable}{n j:Nat}(T:TOk t n)(hj:j<=t.mask)(nw:j∉t.place.toList)(hl:n+1<=t.mask):TOk (t.put j).1 (n+1)/\(t.put j).2<=n/\(t.put j).1.mask=t.mask:=by
 obtain⟨b1,b2,b3⟩:=qii T.so j
 have dm:has t.dummies j=false:=by rw[T.nd];rfl
 have ep:(t.put j).1.place=insertAt t.place (below t.place j) j:=rfl
 have ed:(t.put j).1.dummies=t.dummies:=by
  show (if has t.dummies j=true then _ else _)=_
  rw[dm]
  rfl
 have el:=toList_insertAt t.place (below t.place j) j
 have pm:=insertAt_perm t.place (below t.place j) j
 have sz:=pm.length_eq
 rw[Array.toList_push,List.length_append] at sz
 simp only[Array.length_toList,List.length_singleton] at sz
 refine⟨⟨T.mk2,T.big,T.few,by rw[ep,sz,T.sz],?_,λx m=>?_,by rw[ed];exact T.nd,hl⟩,by show below t.place j<=n;rw[←T.sz];exact b1,rfl⟩
 ·rw[ep,inc_iff,el]
  have P:=inc_iff.mp T.so
  rw[←List.take_append_drop (below t.place j) t.place.toList] at P
  have P:=List.pairwise_append.mp P
  have lo:∀a∈t.place.toList.take (below t.place j),a<j:=λa ma=>by
   obtain⟨i,hi,e⟩:=List.mem_iff_getElem.mp ma
   rw[List.length_take] at hi
   rw[List.getElem_take] at e
   have hi2:i<t.place.size:=by have:=hi;simp only[Array.length_toList] at this;lia
   have:=b2 i hi2 (by lia)
   rw[←e]
   simpa using this
  have hi:∀a∈t.place.toList.drop (below t.place j),j<a:=λa ma=>by
   obtain⟨i,hi,e⟩:=List.mem_iff_getElem.mp ma
   rw[List.length_drop] at hi
   rw[List.getElem_drop] at e
   have hi2:below t.place j+i<t.place.size:=by have:=hi;simp only[Array.length_toList] at this;lia
   have:=b3 _ hi2 (by lia)
   have h2:j<=a:=by rw[←e];simpa using this
   have h3:j≠a:=λz=>nw (by rw[z];exact List.mem_of_mem_drop ma)
   lia
  refine List.pairwise_append.mpr ⟨P.1,List.pairwise_cons.mpr ⟨hi,P.2.1⟩,λa ma b mb=>?_⟩
  rcases List.mem_cons.mp mb with e|m
  ·rw[e];exact lo a ma
  ·exact P.2.2 a ma b m
 ·rw[ep] at m
  have:=pm.mem_iff.mp m
  rw[Array.toList_push] at this
  rcases List.mem_append.mp this with m|m
  ·exact T.lo x m
  ·rw[List.mem_singleton.mp m];exact hj
def occ(mask:Nat)(owner:Array (Option Nat)):List Nat:=(List.range (mask+1)).filterMap λj=>owner.getD j none
structure OwnOk(mask:Nat)(owner:Array (Option Nat))(k:Nat):Prop where
 sz:owner.size=mask+1
 pm:(occ mask owner).Perm (List.range k)
theorem qew{α β:Type}{f g:α->Option β}:∀ {l:List α},(∀x∈l,f x=g x)->l.filterMap f=l.filterMap g
|[],_=>rfl
|a::l,h=>by rw[List.filterMap_cons,List.filterMap_cons,h a List.mem_cons_self,qew λx m=>h x (List.mem_cons_of_mem _ m)]
theorem qxf{α β:Type}(f:α->Option β):∀ {l:List α},(∀x∈l,(f x).isSome=true)->(l.filterMap f).length=l.length
|[],_=>rfl
|a::l,h=>by
  have ha:=h a List.mem_cons_self
  obtain⟨b,hb⟩:=Option.isSome_iff_exists.mp ha
  rw[List.filterMap_cons,hb]
  simp only[List.length_cons]
  rw[qxf f λx m=>h x (List.mem_cons_of_mem _ m)]
theorem OwnOk.gap{mask:Nat}{owner:Array (Option Nat)}{k:Nat}(h:OwnOk mask owner k)(hk:k<=mask):∃q,q<=mask/\owner.getD q (some 0)=none:=by
 apply Classical.byContradiction
 intro no
 have all:∀q∈List.range (mask+1),(owner.getD q none).isSome=true:=λq m=>by
  have hq:=List.mem_range.mp m
  have e1:owner.getD q (some 0)=owner[q]'(by rw[h.sz];exact hq):=by simp[h.sz,hq]
  have e2:owner.getD q none=owner[q]'(by rw[h.sz];exact hq):=by simp[h.sz,hq]
  rw[e2]
  cases e:owner[q]'(by rw[h.sz];exact hq) with
 |some x=>rfl
 |none=>exact absurd ⟨q,by lia,e1.trans e⟩ no
 have:=qxf _ all
 have l:=h.pm.length_eq
 unfold occ at l
 rw[this,List.length_range,List.length_range] at l
 lia
theorem qmk{mask:Nat}{owner:Array (Option Nat)}{q:Nat}(hq:owner.getD q (some 0)=none):∀(fuel m i per:Nat),i<=mask->(qdv mask m (i,per)).1=q->m<fuel->∃j,layClean.free mask owner fuel i per=some j/\j<=mask/\owner.getD j (some 0)=none
|0,m,i,per,_,_,h=>by lia
|fuel+1,m,i,per,hi,e,hm=>by
  have re:=qel hi
  unfold layClean.free
  cases hf:(List.range (runEnd mask i+1-i)).find? λk=>(owner.getD (i+k) (some 0)).isNone with
 |some k =>
   have h1:=List.find?_some hf
   have h2:=List.mem_range.mp (List.mem_of_find?_eq_some hf)
   exact⟨i+k,rfl,by lia,by simpa using h1⟩
 |none =>
   have h0:=List.find?_eq_none.mp hf 0 (List.mem_range.mpr (by lia))
   cases m with
  |zero =>
    have e:i=q:=e
    rw[Nat.add_zero,e,hq] at h0
    exact absurd rfl h0
  |succ m =>
    exact qmk hq fuel m _ _ (Nat.le_of_lt_succ (Nat.mod_lt _ (Nat.succ_pos _))) e (by lia)
theorem OwnOk.put{mask:Nat}{owner:Array (Option Nat)}{k j:Nat}(h:OwnOk mask owner k)(hj:j<=mask)(e:owner.getD j (some 0)=none):OwnOk mask (owner.setIfInBounds j (some k)) (k+1):=by
 have js:j<owner.size:=by rw[h.sz];lia
 have e2:owner.getD j none=none:=by simpa [js] using e
 have mj:j∈List.range (mask+1):=List.mem_range.mpr (by lia)
 refine⟨by rw[Array.size_setIfInBounds];exact h.sz,?_⟩
 have p:=List.perm_cons_erase mj
 have same:∀x∈(List.range (mask+1)).erase j,(owner.setIfInBounds j (some k)).getD x none=owner.getD x none:=λx m=>by
  have ne:x≠j:=λz=>by
   rw[z] at m
   exact absurd m (List.Nodup.not_mem_erase List.nodup_range)
  have xs:x<owner.size:=by
   have:=List.mem_range.mp (List.mem_of_mem_erase m)
   rw[h.sz];exact this
  simp[Array.getElem_setIfInBounds,xs,Ne.symm ne]
 have o1:(occ mask owner).Perm (((List.range (mask+1)).erase j).filterMap λx=>owner.getD x none):=by
  have:=p.filterMap λx=>owner.getD x none
  rw[List.filterMap_cons,e2] at this
  exact this
 have o2:(occ mask (owner.setIfInBounds j (some k))).Perm (k::((List.range (mask+1)).erase j).filterMap λx=>owner.getD x none):=by
  have:=p.filterMap λx=>(owner.setIfInBounds j (some k)).getD x none
  rw[List.filterMap_cons,show (owner.setIfInBounds j (some k)).getD j none=some k by simp[js]] at this
  rw[qew same] at this
  exact this
 refine o2.trans ((List.Perm.cons k (o1.symm.trans h.pm)).trans ?_)
 rw[List.range_succ]
 exact(List.perm_append_singleton k (List.range k)).symm
theorem qxi{mask m:Nat}(hm:mask+1=2 ^ m):∀(hs:List Int) (owner:Array (Option Nat)) (k:Nat),OwnOk mask owner k->k+hs.length<=mask+1 ->
  ∃o',hs.foldl (λ(acc:Option (Array (Option Nat)×Nat)) h=>do
   let (owner,k) ←acc
   let j ←layClean.free mask owner (turns mask) (bits h%(mask+1)) (bits h)
   pure (owner.setIfInBounds j (some k),k+1)) (some (owner,k))=some (o',k+hs.length)/\OwnOk mask o' (k+hs.length)
|[],owner,k,h,_=>⟨owner,rfl,h⟩
|x::hs,owner,k,h,hl=>by
  rw[List.length_cons] at hl
  obtain⟨q,hq,eq⟩:=h.gap (by lia)
  have hi:bits x%(mask+1)<=mask:=Nat.le_of_lt_succ (Nat.mod_lt _ (Nat.succ_pos _))
  obtain⟨n,hn,en⟩:=qhh hm hi (qmd x) hq
  obtain⟨j,f1,f2,f3⟩:=qmk (mask:=mask) eq (turns mask) n _ _ hi en (by show n<mask+15;lia)
  obtain⟨o',g1,g2⟩:=qxi hm hs (owner.setIfInBounds j (some k)) (k+1) (h.put f2 f3) (by lia)
  refine⟨o',?_,by rw[List.length_cons,show k+(hs.length+1)=k+1+hs.length by lia];exact g2⟩
  rw[List.foldl_cons,List.length_cons,show k+(hs.length+1)=k+1+hs.length by lia,←g1]
  congr 1
  show (layClean.free mask owner (turns mask) (bits x%(mask+1)) (bits x)).bind _=_
  rw[f1]
  rfl
theorem qf9{mask m:Nat}(hm:mask+1=2 ^ m)(big:7<=mask)(few:mask<=8191)(finger moves:Nat)(led plain:Bool)(hashes:Array Int)(hl:hashes.size<=mask) :
  ∃t order,laid mask finger moves led plain hashes=some (t,order)/\TOk t hashes.size/\t.mask=mask/\t.led=led/\t.plain=plain/\order.toList.Perm (List.range hashes.size):=by
 have start:OwnOk mask (Array.replicate (mask+1) none) 0:=by
  refine⟨Array.size_replicate,?_⟩
  unfold occ
  rw[List.filterMap_eq_nil_iff.mpr λj m=>?_]
  ·exact List.Perm.refl _
  ·have:=List.mem_range.mp m
   simp[this]
 obtain⟨o',f1,O⟩:=qxi hm hashes.toList _ 0 start (by simp only[Array.length_toList];lia)
 rw[Nat.zero_add,Array.length_toList] at f1 O
 have lc:layClean mask hashes=some o':=by
  unfold layClean
  rw[←Array.foldl_toList,f1]
  rfl
 have e1:((List.range (mask+1)).filterMap λj=>(o'.getD j none).map (j,·)).map (·.1)=(List.range (mask+1)).filter λj=>(o'.getD j none).isSome:=by
  rw[List.map_filterMap,←List.filterMap_eq_filter]
  refine qew λj _=>?_
  cases e:o'.getD j none<;>simp[Option.guard,e]
 have e2:((List.range (mask+1)).filterMap λj=>(o'.getD j none).map (j,·)).map (·.2)=occ mask o':=by
  unfold occ
  rw[List.map_filterMap]
  refine qew λj _=>?_
  cases o'.getD j none<;>rfl
 have len:((List.range (mask+1)).filterMap λj=>(o'.getD j none).map (j,·)).length=hashes.size:=by
  have:=O.pm.length_eq
  rw[←e2,List.length_map,List.length_range] at this
  exact this
 refine⟨_,_,by unfold laid;rw[lc];rfl,⟨⟨m,hm⟩,big,few,?_,?_,?_,rfl,hl⟩,rfl,rfl,rfl,?_⟩
 ·simp only[List.size_toArray,List.length_map]
  exact len
 ·rw[inc_iff]
  show List.Pairwise _ (List.map _ _)
  rw[e1]
  exact List.pairwise_lt_range.sublist List.filter_sublist
 ·intro j mj
  have mj:j∈List.map (·.1) ((List.range (mask+1)).filterMap λj=>(o'.getD j none).map (j,·)):=mj
  rw[e1] at mj
  have:=List.mem_range.mp (List.mem_filter.mp mj).1
  show j<=mask
  lia
 ·show (List.map _ _).Perm _
  rw[e2]
  exact O.pm
theorem qn0(n:Nat):∀(fuel k:Nat),n<8*2 ^ (k+fuel)->∃m,sizeAbove.go n fuel (8*2 ^ k)=8*2 ^ m/\n<8*2 ^ m/\(8*2 ^ m<=8*2 ^ k\/8*2 ^ m<=2*n)
|0,k,h=>⟨k,rfl,h,.inl (Nat.le_refl _)⟩
|fuel+1,k,h=>by
  unfold sizeAbove.go
  by_cases c:8*2 ^ k<=n
  ·rw[if_pos c]
   have e:8*2 ^ k*2=8*2 ^ (k+1):=by rw[Nat.pow_succ];lia
   rw[e]
   obtain⟨m,h1,h2,h3⟩:=qn0 n fuel (k+1) (by rw[show k+1+fuel=k+(fuel+1) by lia];exact h)
   refine⟨m,h1,h2,?_⟩
   rcases h3 with z|z
   ·exact .inr (by lia)
   ·exact .inr z
  ·rw[if_neg c]
   exact⟨k,rfl,by lia,.inl (Nat.le_refl _)⟩
theorem qn1{n:Nat}(h:n<=4095):∃m,sizeAbove n=2 ^ m/\n<sizeAbove n/\8<=sizeAbove n/\sizeAbove n<=8192:=by
 have h8:n<8*2 ^ (0+64):=Nat.lt_of_le_of_lt h (by decide)
 obtain⟨m,h1,h2,h3⟩:=qn0 n 64 0 h8
 have e:sizeAbove n=8*2 ^ m:=h1
 have p:0<2 ^ m:=Nat.pow_pos (by decide)
 refine⟨m+3,by rw[e,Nat.pow_add];lia,by rw[e];exact h2,by rw[e];lia,?_⟩
 rw[e]
 rcases h3 with z|z
 ·simp at z ⊢;lia
 ·lia
theorem qp9{α:Type}{es:Array α}{order:Array Nat}(h:order.toList.Perm (List.range es.size)):(order.filterMap (es[·]?)).toList.Perm es.toList:=by
 rw[Array.toList_filterMap]
 have:=h.filterMap λi=>es[i]?
 rw[filterMap_getElem?_range es] at this
 exact this
end SetTable
end PySem
namespace PySem
namespace SetTable
section
variable {t:SetTable} {n:Nat}
theorem qfl(t:SetTable)(n:Nat)(p:Probe):advs t (n+1) p=t.advance (advs t n p):=by rw[qds];rfl
theorem qi2(t:SetTable){p:Probe}(h:p.j+p.more<=t.mask):∀n,(advs t n p).j+(advs t n p).more<=t.mask/\(advs t n p).dummy=p.dummy
|0=>⟨h,rfl⟩
|n+1=>by
  obtain⟨a,b⟩:=qi2 t h n
  obtain⟨c,d⟩:=qq5 t a
  rw[qfl]
  exact⟨c,d.trans b⟩
theorem quq{t t':SetTable}(h:t.mask=t'.mask)(p:Probe):t.advance p=t'.advance p:=by
 unfold advance
 rw[h]
theorem qkh{t t':SetTable}(h:t.mask=t'.mask):∀(n:Nat) (p:Probe),advs t n p=advs t' n p
|0,p=>rfl
|n+1,p=>by
  show advs t n (t.advance p)=advs t' n (t'.advance p)
  rw[quq h,qkh h n]
theorem qqh{t t':SetTable}(h:t.mask=t'.mask)(x:Int):t.probeStart x=t'.probeStart x:=by
 unfold probeStart
 rw[h]
theorem qlr(t:SetTable)(h:Int):(t.probeStart h).j+(t.probeStart h).more<=t.mask/\(t.probeStart h).dummy=none:=by
 have hi:bits h%(t.mask+1)<=t.mask:=Nat.le_of_lt_succ (Nat.mod_lt _ (Nat.succ_pos _))
 have:=qel hi
 refine⟨?_,rfl⟩
 show bits h%(t.mask+1)+(runEnd t.mask (bits h%(t.mask+1))-bits h%(t.mask+1))<=t.mask
 lia
def at_(t:SetTable)(h:Int)(n:Nat):Nat:=(advs t n (t.probeStart h)).j
theorem qf3{t t':SetTable}(e:t.mask=t'.mask)(h:Int)(n:Nat):at_ t h n=at_ t' h n:=by
 unfold at_
 rw[qqh e,qkh e]
def Reach(t:SetTable)(h:Int)(j:Nat):Prop:=∃n,at_ t h n=j/\∀m,m<n->at_ t h m∈t.place.toList
theorem TOk.met2(T:TOk t n){hashAt:Nat->Int}{h:Int}:∀(fuel c e:Nat),c<=e->e-c<fuel->t.slot (at_ t h e)=.empty ->
    ∃N,c<=N/\N<=e/\(∀m,c<=m->m<N->∃i,t.slot (at_ t h m)=.live i/\hashAt i≠h) /\
      ((probe.go t hashAt h fuel (advs t c (t.probeStart h))=some (.empty (at_ t h N) none)/\at_ t h N<=t.mask/\at_ t h N∉t.place.toList) \/
       ∃i,probe.go t hashAt h fuel (advs t c (t.probeStart h))=some (.candidate (at_ t h N) i (advs t (N+1) (t.probeStart h)))/\t.slot (at_ t h N)=.live i/\i<n/\hashAt i=h/\N<e)
 |0,c,e,h1,h2,h3=>by lia
 |fuel+1,c,e,h1,h2,h3=>by
    obtain⟨s1,s2⟩:=qlr t h
    obtain⟨l1,l2⟩:=qi2 t s1 c
    unfold probe.go
    rcases T.slot (at_ t h c) with ⟨m,e1⟩|⟨i,e1,hi,e2⟩
    · refine⟨c,Nat.le_refl _,h1,λm a b=>by lia,.inl ⟨?_,?_,m⟩⟩
      · have e1:t.slot (advs t c (t.probeStart h)).j=.empty:=e1
        rw[e1,l2,s2]
        rfl
      · show (advs t c (t.probeStart h)).j<=t.mask
        lia
    · have ne:c≠e:=λz=>by
        rw[←z,e2] at h3
        cases h3
      have e3:t.slot (advs t c (t.probeStart h)).j=.live i:=e2
      rw[e3]
      simp only
      by_cases q:(hashAt i==h)=true
      · rw[if_pos q]
        exact⟨c,Nat.le_refl _,h1,λm a b=>by lia,.inr ⟨i,by rw[qfl];rfl,e2,hi,by simpa using q,by lia⟩⟩
      · rw[if_neg q,←qfl]
        obtain⟨N,a1,a2,a3,a4⟩:=T.met2 fuel (c+1) e (by lia) (by lia) h3
        refine⟨N,by lia,a2,λm b1 b2=>?_,a4⟩
        rcases Nat.lt_or_ge c m with z|z
        · exact a3 m z b2
        · have:m=c:=by lia
          subst this
          exact⟨i,e2,by simpa using q⟩
theorem TOk.stop(T:TOk t n)(h:Int):∃e,e<10*turns t.mask/\t.slot (at_ t h e)=.empty:=by
 obtain⟨k,hk,_,_,f⟩:=T.far h
 exact⟨k,hk,f⟩
structure TOkH(t:SetTable)(hs:List Int):Prop where
 ok:TOk t hs.length
 rc:∀i (hi:i<hs.length),∃j,t.place[i]?=some j/\Reach t hs[i] j
theorem TOkH.put{hs:List Int}(T:TOkH t hs){h:Int}{N:Nat}(lo:at_ t h N<=t.mask)(e:at_ t h N∉t.place.toList)(pa:∀m,m<N->at_ t h m∈t.place.toList)(hl:hs.length+1<=t.mask) :
  TOkH (t.put (at_ t h N)).1 (hs.take (t.put (at_ t h N)).2++h::hs.drop (t.put (at_ t h N)).2)/\(t.put (at_ t h N)).2<=hs.length/\(t.put (at_ t h N)).1.mask=t.mask:=by
 obtain⟨k1,k2,k3⟩:=T.ok.put lo e hl
 generalize hj:at_ t h N=j at *
 have ep:(t.put j).1.place=insertAt t.place (t.put j).2 j:=rfl
 have el:=toList_insertAt t.place (t.put j).2 j
 have sz:(hs.take (t.put j).2++h::hs.drop (t.put j).2).length=hs.length+1:=by
  rw[List.length_append,List.length_cons,List.length_take,List.length_drop]
  lia
 have pl:t.place.toList.length=hs.length:=by have:=T.ok.sz;simpa using this
 have sub:∀x,x∈t.place.toList->x∈(t.put j).1.place.toList:=λx m=>by
  rw[ep,el]
  have m2:=m
  rw[←List.take_append_drop (t.put j).2 t.place.toList] at m2
  rcases List.mem_append.mp m2 with z|z
  ·exact List.mem_append_left _ z
  ·exact List.mem_append_right _ (List.mem_cons_of_mem _ z)
 have up:∀ {x:Int} {y:Nat},Reach t x y->Reach (t.put j).1 x y:=λ⟨n,a,b⟩=>⟨n,by rw[qf3 k3];exact a,λm l=>by rw[qf3 k3];exact sub _ (b m l)⟩
 refine⟨⟨by rw[sz];exact k1,λi hi=>?_⟩,k2,k3⟩
 have ea:(t.put j).1.place[i]?=(t.place.toList.take (t.put j).2++j::t.place.toList.drop (t.put j).2)[i]?:=by
  rw[←el,←ep,Array.getElem?_toList]
 rw[ea]
 have tl:(t.place.toList.take (t.put j).2).length=(t.put j).2:=by rw[List.length_take];lia
 have th:(hs.take (t.put j).2).length=(t.put j).2:=by rw[List.length_take];lia
 rcases Nat.lt_trichotomy i (t.put j).2 with l|l|l
 ·obtain⟨y,y1,y2⟩:=T.rc i (by lia)
  refine⟨y,?_,?_⟩
  ·rw[List.getElem?_append_left (by lia),List.getElem?_take_of_lt l,Array.getElem?_toList]
   exact y1
  ·rw[List.getElem_append_left (by lia),List.getElem_take]
   exact up y2
 ·subst l
  refine⟨j,?_,?_⟩
  ·rw[List.getElem?_append_right (by lia),tl,Nat.sub_self]
   rfl
  ·rw[List.getElem_append_right (by lia)]
   simp only[th,Nat.sub_self,List.getElem_cons_zero]
   exact⟨N,by rw[qf3 k3];exact hj,λm lm=>by rw[qf3 k3];exact sub _ (pa m lm)⟩
 ·obtain⟨y,y1,y2⟩:=T.rc (i-1) (by lia)
  refine⟨y,?_,?_⟩
  ·rw[List.getElem?_append_right (by lia),tl,show i-(t.put j).2=(i-(t.put j).2-1)+1 by lia,List.getElem?_cons_succ,List.getElem?_drop,Array.getElem?_toList,show (t.put j).2+(i-(t.put j).2-1)=i-1 by lia]
   exact y1
  ·have eq:(hs.take (t.put j).2++h::hs.drop (t.put j).2)[i]?=hs[i-1]?:=by
    rw[List.getElem?_append_right (by lia),th,show i-(t.put j).2=(i-(t.put j).2-1)+1 by lia,List.getElem?_cons_succ,List.getElem?_drop,show (t.put j).2+(i-(t.put j).2-1)=i-1 by lia]
   rw[List.getElem?_eq_getElem hi,List.getElem?_eq_getElem (show i-1<hs.length by lia)] at eq
   rw[Option.some.inj eq]
   exact up y2
end
end SetTable
end PySem
namespace PySem
namespace SetTable
theorem qq6(t:SetTable):∀(m:Nat) (p:Probe),m<=p.more->advs t m p={ p with j:=p.j+m,more:=p.more-m }
|0,p,_=>by cases p;rfl
|m+1,p,h=>by
  rw[qfl,qq6 t m p (by lia)]
  unfold advance
  rw[if_pos (by show p.more-m>0;lia)]
  show ({ p with j:=p.j+m+1,more:=p.more-m-1 }:Probe)={ p with j:=p.j+(m+1),more:=p.more-(m+1) }
  rw[show p.j+m+1=p.j+(m+1) by lia,show p.more-m-1=p.more-(m+1) by lia]
theorem qpl(t:SetTable)(x:Nat×Nat):advs t ((runEnd t.mask x.1-x.1)+1) (qdd t.mask x)=qdd t.mask (leap t.mask x.1 x.2):=by
 rw[qds,qi3 t (runEnd t.mask x.1-x.1) (qdd t.mask x) rfl]
 simp only[advs]
 unfold advance
 rw[if_neg (by show ¬ (0>0);decide)]
 rfl
theorem qpv{P:Nat->Bool}{L k:Nat}(h:(List.range L).find? P=some k):∀m,m<k->P m=false:=λm hm=>by
 have:=(List.find?_range_eq_some.mp h).2.2 m hm
 simpa using this
theorem qkz{t:SetTable}{owner:Array (Option Nat)}{j:Nat}:∀(fuel i per:Nat),i<=t.mask->layClean.free t.mask owner fuel i per=some j->∃n,(advs t n (qdd t.mask (i,per))).j=j/\∀m,m<n->(owner.getD (advs t m (qdd t.mask (i,per))).j (some 0)).isSome=true
|0,i,per,_,h=>by unfold layClean.free at h;cases h
|fuel+1,i,per,hi,h=>by
  have re:=qel hi
  have pos:∀m,m<=runEnd t.mask i-i->(advs t m (qdd t.mask (i,per))).j=i+m:=λm hm=>by rw[qq6 t m _ hm];rfl
  unfold layClean.free at h
  cases hf:(List.range (runEnd t.mask i+1-i)).find? λk=>(owner.getD (i+k) (some 0)).isNone with
 |some k =>
   rw[hf] at h
   have h2:=List.mem_range.mp (List.mem_of_find?_eq_some hf)
   refine⟨k,by rw[pos k (by lia)];exact Option.some.inj h,λm hm=>?_⟩
   rw[pos m (by lia)]
   have:=qpv hf m hm
   cases e:owner.getD (i+m) (some 0) with
  |some x=>rfl
  |none=>rw[e] at this;cases this
 |none =>
   rw[hf] at h
   obtain⟨n,n1,n2⟩:=qkz fuel _ _ (Nat.le_of_lt_succ (Nat.mod_lt _ (Nat.succ_pos _))) h
   have lp:=qpl t (i,per)
   refine⟨(runEnd t.mask i-i)+1+n,by rw[qds,lp];exact n1,λm hm=>?_⟩
   rcases Nat.lt_or_ge m ((runEnd t.mask i-i)+1) with l|l
   ·rw[pos m (by lia)]
    have:=List.find?_eq_none.mp hf m (List.mem_range.mpr (by lia))
    cases e:owner.getD (i+m) (some 0) with
   |some x=>rfl
   |none=>rw[e] at this;exact absurd rfl this
   ·have:=n2 (m-((runEnd t.mask i-i)+1)) (by lia)
    rw[show qdd t.mask ((i*5+1+per / 32)%t.mask.succ,per / 32)=advs t (runEnd t.mask i-i+1) (qdd t.mask (i,per)) from lp.symm,←qds,show (runEnd t.mask i-i)+1+(m-((runEnd t.mask i-i)+1))=m by lia] at this
    exact this
def qq4(t:SetTable)(owner:Array (Option Nat))(h:Int)(j:Nat):Prop:=∃n,at_ t h n=j/\∀m,m<n->(owner.getD (at_ t h m) (some 0)).isSome=true
theorem qo4{owner:Array (Option Nat)}{j k x:Nat}(d:Option Nat)(hj:j<owner.size)(hx:x<owner.size):(owner.setIfInBounds j (some k)).getD x d=if x=j then some k else owner.getD x d:=by
 by_cases e:x=j
 ·subst e
  simp[hj]
 ·rw[if_neg e]
  simp[Array.getElem_setIfInBounds,hx,Ne.symm e]
theorem q1t(t:SetTable)(h:Int)(m:Nat):at_ t h m<=t.mask:=by
 have:=(qi2 t (qlr t h).1 m).1
 unfold at_
 lia
structure OwnR(t:SetTable)(owner:Array (Option Nat))(hs:List Int):Prop where
 ok:OwnOk t.mask owner hs.length
 pa:∀j q,j<=t.mask->owner.getD j none=some q->∃h,hs[q]?=some h/\qq4 t owner h j
theorem OwnR.put{t:SetTable}{owner:Array (Option Nat)}{hs:List Int}(R:OwnR t owner hs){x:Int}{j:Nat}(hj:j<=t.mask)(e:owner.getD j (some 0)=none)(p:qq4 t owner x j):OwnR t (owner.setIfInBounds j (some hs.length)) (hs++[x]):=by
 have js:j<owner.size:=by rw[R.ok.sz];lia
 have up:∀ {h:Int} {y:Nat},qq4 t owner h y->qq4 t (owner.setIfInBounds j (some hs.length)) h y:=λ{h y} ⟨n,a,b⟩=>⟨n,a,λm l=>by
  have ms:at_ t h m<owner.size:=by have:=q1t t h m;rw[R.ok.sz];lia
  rw[qo4 (some 0) js ms]
  by_cases z:at_ t h m=j
  ·rw[if_pos z];rfl
  ·rw[if_neg z];exact b m l⟩
 refine⟨by rw[List.length_append,List.length_singleton];exact R.ok.put hj e,λy q hy ey=>?_⟩
 have ys:y<owner.size:=by rw[R.ok.sz];lia
 rw[qo4 none js ys] at ey
 by_cases z:y=j
 ·rw[if_pos z] at ey
  cases ey
  exact⟨x,by simp,by rw[z];exact up p⟩
 ·rw[if_neg z] at ey
  obtain⟨h,h1,h2⟩:=R.pa y q hy ey
  exact⟨h,by rw[List.getElem?_append_left (List.getElem?_eq_some_iff.mp h1).1];exact h1,up h2⟩
theorem qsl{t:SetTable}{m:Nat}(hm:t.mask+1=2 ^ m):∀(ys hs:List Int) (owner:Array (Option Nat)),OwnR t owner hs->hs.length+ys.length<=t.mask+1 ->
  ∃o',ys.foldl (λ(acc:Option (Array (Option Nat)×Nat)) h=>do
   let (owner,k) ←acc
   let j ←layClean.free t.mask owner (turns t.mask) (bits h%(t.mask+1)) (bits h)
   pure (owner.setIfInBounds j (some k),k+1)) (some (owner,hs.length))=some (o',hs.length+ys.length)/\OwnR t o' (hs++ys)
|[],hs,owner,R,_=>⟨owner,rfl,by rw[List.append_nil];exact R⟩
|x::ys,hs,owner,R,hl=>by
  rw[List.length_cons] at hl
  obtain⟨q,hq,eq⟩:=R.ok.gap (by lia)
  have hi:bits x%(t.mask+1)<=t.mask:=Nat.le_of_lt_succ (Nat.mod_lt _ (Nat.succ_pos _))
  obtain⟨n,hn,en⟩:=qhh hm hi (qmd x) hq
  obtain⟨j,f1,f2,f3⟩:=qmk (mask:=t.mask) eq (turns t.mask) n _ _ hi en (by show n<t.mask+15;lia)
  have pth:qq4 t owner x j:=qkz (turns t.mask) _ _ hi f1
  obtain⟨o',g1,g2⟩:=qsl hm ys (hs++[x]) (owner.setIfInBounds j (some hs.length)) (R.put f2 f3 pth) (by rw[List.length_append,List.length_singleton];lia)
  rw[List.length_append,List.length_singleton] at g1
  refine⟨o',?_,by rw[List.append_assoc] at g2;exact g2⟩
  rw[List.foldl_cons,List.length_cons,show hs.length+(ys.length+1)=hs.length+1+ys.length by lia,←g1]
  congr 1
  show (layClean.free t.mask owner (turns t.mask) (bits x%(t.mask+1)) (bits x)).bind _=_
  rw[f1]
  rfl
theorem qsh{mask m:Nat}(hm:mask+1=2 ^ m)(big:7<=mask)(few:mask<=8191)(finger moves:Nat)(led plain:Bool)(hashes:Array Int)(hl:hashes.size<=mask) :
  ∃t order,laid mask finger moves led plain hashes=some (t,order)/\TOkH t (order.toList.map λq=>hashes.getD q 0)/\t.mask=mask/\t.led=led/\t.plain=plain/\order.toList.Perm (List.range hashes.size):=by
 obtain⟨t,order,l1,T,l2,l3,l4,pm⟩:=qf9 hm big few finger moves led plain hashes hl
 subst l2
 refine⟨t,order,l1,⟨by rw[List.length_map,pm.length_eq,List.length_range];exact T,λi hi=>?_⟩,rfl,l3,l4,pm⟩
 have start:OwnR t (Array.replicate (t.mask+1) none) []:=by
  refine⟨⟨Array.size_replicate,?_⟩,λj q hj e=>?_⟩
  ·unfold occ
   rw[List.filterMap_eq_nil_iff.mpr λj m=>?_]
   ·exact List.Perm.refl _
   ·have:=List.mem_range.mp m
    simp[this]
  ·have:j<t.mask+1:=by lia
   simp[this] at e
 obtain⟨o',f1,O⟩:=qsl hm hashes.toList [] _ start (by simp only[Array.length_toList,List.length_nil];lia)
 rw[List.nil_append] at O
 have lc:layClean t.mask hashes=some o':=by
  unfold layClean
  rw[←Array.foldl_toList,show (0:Nat)=([]:List Int).length from rfl,f1]
  rfl
 have l1':=l1
 unfold laid at l1'
 rw[lc] at l1'
 have l1':some (_,_)=some (t,order):=l1'
 have e1:((List.range (t.mask+1)).filterMap λj=>(o'.getD j none).map (j,·)).map (·.1)=t.place.toList:=by
  have:=congrArg (λz:Option (SetTable×Array Nat)=>(z.map (·.1.place.toList)).getD []) l1'
  simpa using this
 have e2:((List.range (t.mask+1)).filterMap λj=>(o'.getD j none).map (j,·)).map (·.2)=order.toList:=by
  have:=congrArg (λz:Option (SetTable×Array Nat)=>(z.map (·.2.toList)).getD []) l1'
  simpa using this
 generalize hlv:((List.range (t.mask+1)).filterMap λj=>(o'.getD j none).map (j,·))=live at e1 e2
 have mem:∀j q,(j,q)∈live↔j<=t.mask/\o'.getD j none=some q:=λj q=>by
  rw[←hlv,List.mem_filterMap]
  constructor
  ·rintro⟨x,mx,ex⟩
   obtain⟨y,ey,e⟩:=Option.map_eq_some_iff.mp ex
   cases e
   exact⟨by have:=List.mem_range.mp mx;lia,ey⟩
  ·rintro⟨h1,h2⟩
   exact⟨j,List.mem_range.mpr (by lia),by rw[h2];rfl⟩
 have il:i<live.length:=by rw[List.length_map,←e2,List.length_map] at hi;exact hi
 have m0:(live[i].1,live[i].2)∈live:=List.getElem_mem il
 obtain⟨k1,k2⟩:=(mem _ _).mp m0
 obtain⟨h,h1,n,h2,h3⟩:=O.pa _ _ k1 k2
 have eo:(order.toList.map λq=>hashes.getD q 0)[i]=h:=by
  have q1:(order.toList.map λq=>hashes.getD q 0)[i]?=some h:=by
   rw[←e2,List.map_map,List.getElem?_map,List.getElem?_eq_getElem il]
   show some (hashes.getD live[i].2 0)=some h
   rw[Array.getElem?_toList] at h1
   obtain⟨z1,z2⟩:=Array.getElem?_eq_some_iff.mp h1
   simp[z1,z2]
  rw[List.getElem?_eq_getElem hi] at q1
  exact Option.some.inj q1
 refine⟨live[i].1,?_,?_⟩
 ·rw[←Array.getElem?_toList,←e1,List.getElem?_map,List.getElem?_eq_getElem il]
  rfl
 ·rw[eo]
  refine⟨n,h2,λm hm'=>?_⟩
  have hp:=h3 m hm'
  have le:=q1t t h m
  have ps:at_ t h m<o'.size:=by rw[O.ok.sz];lia
  rw[←e1]
  cases e:o'.getD (at_ t h m) none with
 |some q=>exact List.mem_map.mpr ⟨(at_ t h m,q),(mem _ _).mpr ⟨le,e⟩,rfl⟩
 |none =>
   have e3:o'.getD (at_ t h m) (some 0)=o'.getD (at_ t h m) none:=by simp[ps]
   rw[e3,e] at hp
   cases hp
end SetTable
end PySem
namespace PySem
open SetTable
section
variable {prog:Program} {w:World} {K:Type} [DecidableEq K] {knd:KeyKind prog w K} {A:Around} {E:Value->Shared->Prop} {s:Shared} {a b:Addr}
structure SetAt(knd:KeyKind prog w K)(h:Heap)(a:Addr)(o:Obj)(es:Array (Int×Value))(ep:Nat)(t:SetTable)(ks:List (List K×Addr)):Prop where
 ho:h.get? a=some o
 ex:o.ExactSet
 hd:o.data=.set es ep t
 ok:TOkH t (ks.map λp=>tupleKeyHash knd p.1)
 pl:t.plain=true->∀p∈ks,p.1=[]
 es:es.toList=ks.map λp=>(tupleKeyHash knd p.1,Value.ref p.2)
 is:∀p∈ks,IsTupleKey knd h p.1 p.2
 nd:(ks.map (·.1)).Nodup
variable {o:Obj} {es:Array (Int×Value)} {ep:Nat} {t:SetTable} {ks:List (List K×Addr)}
end
end PySem
namespace PySem
open SetTable
section
variable {prog:Program} {w:World} {K:Type} [DecidableEq K] {knd:KeyKind prog w K} {A:Around} {E:Value->Shared->Prop} {s:Shared} {a b:Addr}
variable {o:Obj} {es:Array (Int×Value)} {ep:Nat} {t:SetTable} {ks:List (List K×Addr)}
end
end PySem
namespace PySem
open SetTable
section
variable {prog:Program} {w:World} {K:Type} [DecidableEq K] {knd:KeyKind prog w K} {A:Around} {E:Value->Shared->Prop} {s:Shared} {a b:Addr}
variable {o:Obj} {es:Array (Int×Value)} {ep:Nat} {t:SetTable} {ks:List (List K×Addr)}
theorem qoe(led:Bool):TOkH (SetTable.fresh 0 0 led) []:=by
 refine⟨⟨⟨3,rfl⟩,show 7<=7 by decide,show 7<=8191 by decide,rfl,(λi j hi=>absurd hi (Nat.not_lt_zero _)),(λj m=>by cases m),rfl,Nat.zero_le _⟩,λi hi=>absurd hi (Nat.not_lt_zero _)⟩
end
end PySem
namespace PySem
open SetTable
theorem sub_dict_set:isSubtype (.type "dict") (.type "set")=pure false:=by rw[isSubtype_type];kernel_rfl
theorem qj3:isSubtype (.type "dict") (.type "frozenset")=pure false:=by rw[isSubtype_type];kernel_rfl
section
variable {prog:Program} {w:World} {K:Type} [DecidableEq K] {knd:KeyKind prog w K} {A:Around} {E:Value->Shared->Prop} {s:Shared} {a b d:Addr}
variable {o:Obj} {es:Array (Int×Value)} {ep:Nat} {t:SetTable} {ks:List (List K×Addr)} {xs:List (List K×Addr×Value)}
theorem qm6{Q:Bool->Shared->Prop}(hT:s.TypeIs (.ref d) "dict")(h:Q false s):wpAny (model prog w) A (Builtin.Frozenset.isAnySet (.ref d)) Q E s:=by
 unfold Builtin.Frozenset.isAnySet orM
 refine wpAny_bind (wpAny_isInstance hT sub_dict_set ?_)
 show wpAny _ _ (isInstance (.ref d) (.type "frozenset")) _ _ s
 exact wpAny_isInstance hT qj3 h
end
end PySem
namespace PySem
open SetTable
theorem sub_set_set:isSubtype (.type "set") (.type "set")=pure true:=by rw[isSubtype_type];kernel_rfl
section
variable {prog:Program} {w:World} {K:Type} [DecidableEq K] {knd:KeyKind prog w K} {A:Around} {E:Value->Shared->Prop} {s:Shared} {a b d r:Addr}
variable {o oa:Obj} {es ea:Array (Int×Value)} {ep epa:Nat} {t ta:SetTable} {ks ka:List (List K×Addr)}
end
end PySem
namespace PySem
open SetTable Sem
section
variable {prog:Program} {w:World} {K:Type} [DecidableEq K] {knd:KeyKind prog w K} {A:Around} {E:Value->Shared->Prop} {s:Shared} {a b d r:Addr}
variable {o:Obj} {es:Array (Int×Value)} {ep:Nat} {t:SetTable} {ks:List (List K×Addr)}
theorem ql5{src:Source}{n:Nat}{Q:Nat->Shared->Prop}(hn:n≠0)(h:∀i dr,i<n->Q i { s with drawn:=dr }):wpAny (model prog w) A (choose src n) Q E s:=λΓ p hΓ=>by
 unfold choose
 rw[wp_choose]
 exact⟨hn,h _ _ (Nat.mod_lt _ (Nat.pos_of_ne_zero hn))⟩
theorem qil{α:Type}{l:List α}{i:Nat}{x:α}(h:l[i]?=some x):(x::l.eraseIdx i).Perm l:=by
 obtain⟨li,e⟩:=List.getElem?_eq_some_iff.mp h
 rw[List.eraseIdx_eq_take_drop_succ]
 refine List.perm_middle.symm.trans (List.Perm.of_eq ?_)
 conv=>rhs;rw[←List.take_append_drop i l,List.drop_eq_getElem_cons li,e]
theorem qg8{α:Type}:∀(n:Nat) (xs:List α) (s:Shared) (Q:List α->Shared->Prop),xs.length=n->(∀l dr,l.Perm xs->Q l { s with drawn:=dr })->wpAny (model prog w) A (drawOrder n xs) Q E s
|0,xs,s,Q,hl,h=>by
  cases List.length_eq_zero_iff.mp hl
  unfold drawOrder
  exact wpAny_pure (h [] s.drawn (List.Perm.refl _))
|n+1,[],s,Q,hl,h=>by cases hl
|n+1,x::xs,s,Q,hl,h=>by
  unfold drawOrder
  refine wpAny_bind (ql5 (by rw[hl];lia) λi dr hi=>?_)
  rw[List.getElem?_eq_getElem hi]
  dsimp only
  refine wpAny_bind (qg8 n _ _ _ (by rw[List.length_eraseIdx,if_pos hi,hl];rfl) λl dr2 hp=>?_)
  exact wpAny_pure (h _ dr2 ((hp.cons _).trans (qil (List.getElem?_eq_getElem hi))))
theorem qhr{α:Type}(next:Nat->Nat):∀(fuel k:Nat) (left:List α) (out:Array α),left.length=fuel->(pickOrder.go next fuel k left out).toList.Perm (out.toList++left)
|0,k,left,out,h=>by
  cases List.length_eq_zero_iff.mp h
  unfold pickOrder.go
  rw[List.append_nil]
|fuel+1,k,left,out,h=>by
  unfold pickOrder.go
  have hi:next k%left.length<left.length:=Nat.mod_lt _ (by lia)
  rw[List.getElem?_eq_getElem hi]
  dsimp only
  refine(qhr next fuel (k+1) _ _ (by rw[List.length_eraseIdx,if_pos hi,h];rfl)).trans ?_
  rw[Array.toList_push,List.append_assoc]
  exact List.Perm.append_left _ (qil (List.getElem?_eq_getElem hi))
end
end PySem
namespace PySem
open SetTable
section
variable {prog:Program} {w:World} {K:Type} [DecidableEq K] {knd:KeyKind prog w K} {A:Around} {E:Value->Shared->Prop} {s:Shared} {a b d r:Addr}
variable {o oa:Obj} {es ea:Array (Int×Value)} {ep epa:Nat} {t ta:SetTable} {ks ka:List (List K×Addr)}
end
end PySem
namespace PySem
open SetTable
section
variable {prog:Program} {w:World} {K:Type} [DecidableEq K] {knd:KeyKind prog w K} {A:Around} {E:Value->Shared->Prop} {s:Shared} {a b d r:Addr}
variable {o oa:Obj} {es ea:Array (Int×Value)} {ep epa:Nat} {t ta:SetTable} {ks ka:List (List K×Addr)}
def qcc(prog:Program)(w:World):Bool:=!((model prog w).w.params.followText "set-order")
def newS(l:Bool):Obj:={ cls:=.type "set",dict:=none,data:=.set #[] 0 (.fresh 0 0 l) }
theorem qmo{Q:Bool->Shared->Prop}(hT:s.TypeIs (.ref a) "set")(h:Q true s):wpAny (model prog w) A (Builtin.Frozenset.isAnySet (.ref a)) Q E s:=by
 unfold Builtin.Frozenset.isAnySet orM
 refine wpAny_bind (wpAny_isInstance hT sub_set_set ?_)
 exact wpAny_pure h
theorem q1w{Q:Value->Shared->Prop}(hT:s.TypeIs (.ref a) "set")(h:Q (.type "set") s):wpAny (model prog w) A (Builtin.Frozenset.baseOf a) Q E s:=by
 unfold Builtin.Frozenset.baseOf
 refine wpAny_bind (wpAny_isInstance hT sub_set_set ?_)
 exact wpAny_pure h
theorem qfq{h:Heap}{x:Obj}{b:Addr}{o:Obj}(e:h.get? b=some o):(h.push x).get? b=some o:=by
 exact Heap.get?_push_of_some x e
theorem fresh_ne{h:Heap}{b:Addr}{o:Obj}(e:h.get? b=some o):b≠h.objs.size:=Nat.ne_of_lt (Heap.lt_size e)
end
end PySem
namespace PySem
open SetTable
section
variable {prog:Program} {w:World} {K:Type} [DecidableEq K] {knd:KeyKind prog w K} {A:Around} {E:Value->Shared->Prop} {s:Shared} {a b d r:Addr}
variable {o oa ob:Obj} {es ea eb:Array (Int×Value)} {ep epa epb:Nat} {t ta tb:SetTable} {ks ka kb:List (List K×Addr)}
end
end PySem
namespace PySem
open SetTable
section
variable {prog:Program} {w:World} {K:Type} [DecidableEq K] {knd:KeyKind prog w K} {A:Around} {E:Value->Shared->Prop} {s:Shared} {a b d r:Addr}
variable {o:Obj} {es:Array (Int×Value)} {ep:Nat} {t:SetTable} {xs:List (List K×Addr×Value)}
theorem qs1{n:Nat}{Q:String->Shared->Prop}(hT:s.TypeIs (.ref a) "set")(h:∀z,Q z s):wpAny (model prog w) A (typeNameOfCut n (.ref a)) Q E s:=by
 unfold typeNameOfCut shownTypeOf
 refine wpAny_bind (wpAny_bind (wpAny_typeOf hT ?_))
 simp only[show (Value.type "set"==Value.type "builtin_function_or_method")=false by decide,Bool.false_eq_true,if_false]
 refine wpAny_pure ?_
 rw[show typeNameCut n (.type "set")=typeName (.type "set") from rfl]
 unfold typeName
 exact wpAny_pure (h _)
end
end PySem
namespace PySem
open SetTable
section
variable {prog:Program} {w:World} {K:Type} [DecidableEq K] {knd:KeyKind prog w K} {A:Around} {E:Value->Shared->Prop} {s:Shared} {a b d r:Addr} {xs:List (List K×Addr×Value)}
theorem qi7(a:Value){Q₁:Value->Shared->Prop}(h:Q₁ (.ref s.heap.objs.size) { s with heap:=s.heap.push (newS (qcc prog w)) }) :
  codeAny (model prog w) A (.call (.builtin "set.__new__") ⟨[.type "set",a],[]⟩) (wants Q₁ E) s:=by
 refine codeAny_of_tree ?_
 show wpAny _ A.in1 (do checkBuiltinCall "set.__new__" ⟨[.type "set",a],[]⟩;again (.builtin "set.__new__" ⟨[.type "set",a],[]⟩)) _ _ s
 refine wpAny_bind (wpAny_of_eq (F.newCall_set_1 a) (wpAny_pure ⟨plainId_quiet F.plain_set_new _,codeAny_builtin F.entry_set_new ?_⟩))
 rw[Around.under_plainId F.plain_set_new _]
 unfold Builtin.«set.__new__» Builtin.Frozenset.newClass
 have hsub:=sub_set_self
 obtain⟨hp,g,d,tk,os⟩:=s
 dsimp only
 wp_walk
 refine wpAny_askSetting (wpAny_pure ?_)
 dsimp only
 simp only[newObj]
 refine wpAny_bind (wpAny_alloc (wpAny_pure ?_))
 exact wpAny_pure h
end
end PySem
namespace PySem
open SetTable
theorem fills_set_or:fillsNumberSlot (.type "set") "or" = pure true:=by kernel_rfl
theorem qkx:entryFor table "set.__or__" = some Builtin.«frozenset.__or__»:=entryFor_alias (id':="frozenset.__or__") (by kernel_rfl) rfl (by decide +kernel) (by kernel_rfl)
section
variable {prog:Program} {w:World} {K:Type} [DecidableEq K] {knd:KeyKind prog w K} {A:Around} {E:Value->Shared->Prop} {s:Shared} {a b d r:Addr}
variable {o oa ob:Obj} {es ea eb:Array (Int×Value)} {ep epa epb:Nat} {t ta tb:SetTable} {ks ka kb:List (List K×Addr)}
end
end PySem
namespace PySem
open SetTable Sem
theorem slot_seti_next:Slot "set_iterator" "__next__" "set_iterator.__next__" :=
 .of (owner:="set_iterator") (n:="__next__") (by rw[typeLookup_type,builtinLookup_eq_fast];kernel_rfl) (by decide +kernel) (by decide +kernel) (by decide +kernel)
  (by first|exact .inl (by decide +kernel)|exact .inr (by decide +kernel)) (by rw[isSubtype_type];kernel_rfl)
theorem qb6:entryFor table "set_iterator.__next__" = some Builtin.«set_iterator.__next__»:=entryFor_of_tree (by kernel_rfl)
theorem qci(a:Value):argsOk "set_iterator.__next__" ⟨[a],[]⟩:=by
 unfold argsOk;kernel_rfl
theorem qe8:Slot "set_iterator" "__iter__" "set_iterator.__iter__" :=
 .of (owner:="set_iterator") (n:="__iter__") (by rw[typeLookup_type,builtinLookup_eq_fast];kernel_rfl) (by decide +kernel) (by decide +kernel) (by decide +kernel)
  (by first|exact .inl (by decide +kernel)|exact .inr (by decide +kernel)) (by rw[isSubtype_type];kernel_rfl)
theorem qha:entryFor table "set_iterator.__iter__" = some Builtin.«dict_keyiterator.__iter__»:=entryFor_alias (id':="dict_keyiterator.__iter__") (by kernel_rfl) rfl (by decide +kernel) (by kernel_rfl)
theorem qh8(a:Value):argsOk "set_iterator.__iter__" ⟨[a],[]⟩:=by
 unfold argsOk;kernel_rfl
theorem qg9:entryFor table "set.__iter__" = some Builtin.«frozenset.__iter__»:=entryFor_alias (id':="frozenset.__iter__") (by kernel_rfl) rfl (by decide +kernel) (by kernel_rfl)
def RawS(h:Heap)(a:Addr)(es:Array (Int×Value))(ep:Nat)(t:SetTable):Prop:=∃o,h.get? a=some o/\o.data=.set es ep t/\t.fits es.size=true
def SetIt(h:Heap)(I:Addr)(fst:Value)(i:Nat)(a:Addr)(n ep:Nat):Prop:=∃o,h.get? I=some o/\o.cls=.type "set_iterator" /\ o.data=.fields #[fst,.int i 0,.ref a,.int n 0,.int ep 0]
section
variable {prog:Program} {w:World} {A:Around} {E:Value->Shared->Prop} {s:Shared} {a b d r I T:Addr}
variable {o:Obj} {es:Array (Int×Value)} {ep i n:Nat} {t:SetTable} {fst:Value}
theorem RawS.keep{h h':Heap}(x:RawS h a es ep t)(k:∀o,h.get? a=some o->h'.get? a=some o):RawS h' a es ep t:=let ⟨o,h1,r⟩:=x;⟨o,k o h1,r⟩
theorem SetIt.keep{h h':Heap}(x:SetIt h I fst i a n ep)(k:∀o,h.get? I=some o->h'.get? I=some o):SetIt h' I fst i a n ep:=let ⟨o,h1,r⟩:=x;⟨o,k o h1,r⟩
theorem SetIt.typeIs(x:SetIt s.heap I fst i a n ep):s.TypeIs (.ref I) "set_iterator" := let ⟨o,h1,h2,_⟩:=x;⟨o,h1,h2⟩
theorem qlp{Q:Value->Shared->Prop}(x:SetIt s.heap I fst i a n ep)(h:Q (.ref I) s):wpAny (model prog w) A (pyIter (.ref I)) Q E s:=by
 refine wpAny_pyIter_slot x.typeIs qe8 (wpAny_call_entry qe8 x.typeIs qha ?_ (qh8 _))
 show wpAny _ _ (ret (.ref I)) _ _ s
 exact wpAny_pure ⟨_,rfl,"set_iterator",_,x.typeIs,slot_seti_next.lookup,h⟩
section
variable {Q:Option Value->Shared->Prop}
theorem qtq{f f':Nat}{v:Value}(x:SetIt s.heap I (rawInt f) i a es.size ep)(S:RawS s.heap a es ep t)
  (nx:∀(A:Around) (Q:Option (Value×Nat)->Shared->Prop) (E:Value->Shared->Prop),Q (some (v,f')) s->wpAny (model prog w) A (setNext a f i ep) Q E s)
  (fin:∀h',SetIt h' I (rawInt f') (i+1) a es.size ep->Heap.SameBut I s.heap h'->Q (some v) { s with heap:=h' }):wpAny (model prog w) A (pyNext (.ref I)) Q E s:=by
 have T:=x.typeIs
 obtain⟨oi,g1,g2,g3⟩:=x
 obtain⟨o,h1,h2,h3⟩:=S
 unfold pyNext
 refine wpAny_bind (wpAny_attempt (wpAny_callSpecial?_slot (name:=Str.ofString "__next__") T slot_seti_next (wpAny_call_entry slot_seti_next T qb6 (wpAny_bind (wpAny_pure (wpAny_bind (wpAny_fieldsOf g1 g3 ?_)))) (qci _))))
 dsimp only[rawInt]
 unfold setEntries
 refine wpAny_bind (wpAny_bind (wpAny_setState_of h1 h2 h3 (wpAny_pure ?_)))
 dsimp only
 rw[if_neg (by simp)]
 simp only[Int.toNat_natCast]
 refine wpAny_bind (nx _ _ _ ?_)
 dsimp only
 refine wpAny_bind (wpAny_setField g1 g3 (by simp) ?_)
 have g1':=Heap.get?_update_self (Obj.mapFields (·.setIfInBounds 0 (rawInt f'))) g1 (Obj.isFreed_of_fields (Obj.data_mapFields g3 _))
 have g3':=Obj.data_mapFields g3 (·.setIfInBounds 0 (rawInt f'))
 refine wpAny_bind (wpAny_setField g1' g3' (by simp) ?_)
 refine wpAny_pure ⟨_,rfl,wpAny_pure (fin _ ⟨_,Heap.get?_update_self _ g1' (Obj.isFreed_of_fields (Obj.data_mapFields g3' _)),?_,?_⟩ ?_)⟩
 ·rw[Obj.cls_mapFields,Obj.cls_mapFields]
  exact g2
 ·rw[Obj.data_mapFields g3']
  simp[rawInt]
 ·exact(Heap.SameBut.update ..).trans (Heap.SameBut.update ..)
theorem qwj{f:Nat}(hh:A.handled=none)(x:SetIt s.heap I (rawInt f) i a es.size ep)(S:RawS s.heap a es ep t)
  (nx:∀(A:Around) (Q:Option (Value×Nat)->Shared->Prop) (E:Value->Shared->Prop),Q none s->wpAny (model prog w) A (setNext a f i ep) Q E s)
  (fin:∀h',Heap.ExtBut I s.heap h'->Q none { s with heap:=h' }):wpAny (model prog w) A (pyNext (.ref I)) Q E s:=by
 have T:=x.typeIs
 obtain⟨oi,g1,g2,g3⟩:=x
 obtain⟨o,h1,h2,h3⟩:=S
 unfold pyNext
 refine wpAny_bind (wpAny_attempt (wpAny_callSpecial?_slot (name:=Str.ofString "__next__") T slot_seti_next (wpAny_call_entry slot_seti_next T qb6 (wpAny_bind (wpAny_pure (wpAny_bind (wpAny_fieldsOf g1 g3 ?_)))) (qci _))))
 dsimp only[rawInt]
 unfold setEntries
 refine wpAny_bind (wpAny_bind (wpAny_setState_of h1 h2 h3 (wpAny_pure ?_)))
 dsimp only
 rw[if_neg (by simp)]
 simp only[Int.toNat_natCast]
 refine wpAny_bind (nx _ _ _ ?_)
 dsimp only
 refine wpAny_bind (wpAny_setField g1 g3 (by simp) ?_)
 show wpAny _ _ (newExc (.type "StopIteration") [] >>= λ_=>_) _ _ _
 refine wpAny_bind ?_
 simp only[newExc,newTuple]
 refine wpAny_bind (wpAny_newObj_type (wpAny_bind (m:=firstArgMember _ _) (wpAny_of_eq (a:=Value.none) (by first|rfl|(simp only[firstArgMember];rfl)) (wpAny_newObj_type ?_ (by size_fits)))) (by size_fits))
 simp only[raiseNew]
 refine(wpAny_bind (wpAny_handled ?_))
 rw[(show A.in1.handled=none from hh)]
 refine(wpAny_bind (wpAny_pure (wpAny_throw ?_)))
 exact wpAny_bind (wpAny_isInstance (T:="StopIteration") (b:=true) ⟨_,Heap.get?_push_size _ rfl,rfl⟩ isSubtype_stop (wpAny_pure (fin _ (((Heap.SameBut.update ..).extBut.push _).push _))))
theorem qqs(hh:A.handled=none)(I a:Addr)(ne:a≠I)(es:Array (Int×Value))(ep:Nat)(t:SetTable)(f:Nat->Nat)(l:List Value)(hl:l.length=es.size)
  (nx:∀(i:Nat) (v:Value),l[i]?=some v->∀(s:Shared) (A:Around) (Q:Option (Value×Nat)->Shared->Prop) (E:Value->Shared->Prop),RawS s.heap a es ep t->Q (some (v,f (i+1))) s->wpAny (model prog w) A (setNext a (f i) i ep) Q E s)
  (nd:∀(s:Shared) (A:Around) (Q:Option (Value×Nat)->Shared->Prop) (E:Value->Shared->Prop),RawS s.heap a es ep t->Q none s->wpAny (model prog w) A (setNext a (f es.size) es.size ep) Q E s) :
  Walks prog w A I [I,a] [I] es.size (λi v=>l[i]?=some v) (λi h=>SetIt h I (rawInt (f i)) i a es.size ep/\RawS h a es ep t) where
 sub:=λb hb=>by
  cases List.mem_singleton.mp hb
  exact List.mem_cons_self ..
 frame:=λ_ _ _ st k=>⟨st.1.keep λo e=>k I (List.mem_cons_self ..) o e,st.2.keep λo e=>k a (by simp) o e⟩
 item:=λi s Q E lt st fin=>by
  have e:l[i]?=some l[i]:=List.getElem?_eq_getElem (by lia)
  exact qtq (es:=es) st.1 st.2 (λA Q E q=>nx i _ e s A Q E st.2 q) λh' K' sb=>fin _ h' s.toks e ⟨K',st.2.keep λo z=>sb.extBut a o ne z⟩ λb o nb z=>sb.extBut b o (λy=>nb (by simp[y])) z
 done:=λs Q E st fin=>qwj (es:=es) hh st.1 st.2 (λA Q E q=>nd s A Q E st.2 q) λh' x=>fin h' s.toks λb o nb z=>x b o (λy=>nb (by simp[y])) z
 self:=λ_ _ _ _ st q=>qlp st.1 q
end
end
end PySem
namespace PySem
open SetTable Sem
def SeqAt0(h:Heap)(T:Addr)(vs:List Value):Prop:=∃o n,h.get? T=some o/\o.data=.seq vs.toArray n
section
variable {prog:Program} {w:World} {A:Around} {E:Value->Shared->Prop} {s:Shared} {a b d r I T:Addr}
variable {o:Obj} {es:Array (Int×Value)} {ep i n:Nat} {t:SetTable} {fst:Value} {ps:List Nat} {Q:Option Value->Shared->Prop}
theorem SeqAt0.keep{h h':Heap}{vs:List Value}(x:SeqAt0 h T vs)(k:∀o,h.get? T=some o->h'.get? T=some o):SeqAt0 h' T vs:=let ⟨o,n,h1,r⟩:=x;⟨o,n,k o h1,r⟩
def qei(ps:List Nat):List Value:=ps.map λ(i:Nat)=>rawInt i
theorem qqe{j:Nat}{v:Value}(x:SetIt s.heap I (.ref T) i a es.size ep)(S:RawS s.heap a es ep t)(P:SeqAt0 s.heap T (qei ps))(hj:ps[i]?=some j)(hv:es[j]?.map (·.2)=some v)
  (fin:∀h',SetIt h' I (.ref T) (i+1) a es.size ep->Heap.SameBut I s.heap h'->Q (some v) { s with heap:=h' }):wpAny (model prog w) A (pyNext (.ref I)) Q E s:=by
 have TT:=x.typeIs
 obtain⟨oi,g1,g2,g3⟩:=x
 obtain⟨o,h1,h2,h3⟩:=S
 obtain⟨ot,nt,t1,t2⟩:=P
 unfold pyNext
 refine wpAny_bind (wpAny_attempt (wpAny_callSpecial?_slot (name:=Str.ofString "__next__") TT slot_seti_next (wpAny_call_entry slot_seti_next TT qb6 (wpAny_bind (wpAny_pure (wpAny_bind (wpAny_fieldsOf g1 g3 ?_)))) (qci _))))
 dsimp only[rawInt]
 unfold setEntries
 refine wpAny_bind (wpAny_bind (wpAny_setState_of h1 h2 h3 (wpAny_pure ?_)))
 dsimp only
 rw[if_neg (by simp)]
 simp only[Int.toNat_natCast]
 unfold seqItems?
 refine wpAny_bind (wpAny_bind (wpAny_load t1 ?_))
 rw[t2]
 refine wpAny_pure ?_
 dsimp only
 have ep':(qei ps).toArray[i]?=some (rawInt j):=by
  rw[List.getElem?_toArray]
  unfold qei
  rw[List.getElem?_map,hj]
  rfl
 rw[ep']
 dsimp only[rawInt]
 simp only[Int.toNat_natCast]
 unfold setNextDrawn
 refine wpAny_bind (wpAny_bind (wpAny_setState_of h1 h2 h3 ?_))
 dsimp only
 rw[if_neg (by simp)]
 obtain⟨p,e1,e2⟩:=Option.map_eq_some_iff.mp hv
 refine wpAny_bind (wpAny_pure ?_)
 rw[e1]
 dsimp only
 refine wpAny_pure ?_
 refine wpAny_bind (wpAny_setField g1 g3 (by simp) ?_)
 rw[e2]
 refine wpAny_pure ⟨_,rfl,wpAny_pure (fin _ ⟨_,Heap.get?_update_self _ g1 (Obj.isFreed_of_fields (Obj.data_mapFields g3 _)),?_,?_⟩ ?_)⟩
 ·rw[Obj.cls_mapFields]
  exact g2
 ·rw[Obj.data_mapFields g3]
  simp[rawInt]
 ·exact(Heap.SameBut.update ..)
theorem qtp(hh:A.handled=none)(x:SetIt s.heap I (.ref T) i a es.size ep)(S:RawS s.heap a es ep t)(P:SeqAt0 s.heap T (qei ps))(hj:ps[i]?=none)
  (fin:∀h',Heap.ExtBut I s.heap h'->Q none { s with heap:=h' }):wpAny (model prog w) A (pyNext (.ref I)) Q E s:=by
 have TT:=x.typeIs
 obtain⟨oi,g1,g2,g3⟩:=x
 obtain⟨o,h1,h2,h3⟩:=S
 obtain⟨ot,nt,t1,t2⟩:=P
 unfold pyNext
 refine wpAny_bind (wpAny_attempt (wpAny_callSpecial?_slot (name:=Str.ofString "__next__") TT slot_seti_next (wpAny_call_entry slot_seti_next TT qb6 (wpAny_bind (wpAny_pure (wpAny_bind (wpAny_fieldsOf g1 g3 ?_)))) (qci _))))
 dsimp only[rawInt]
 unfold setEntries
 refine wpAny_bind (wpAny_bind (wpAny_setState_of h1 h2 h3 (wpAny_pure ?_)))
 dsimp only
 rw[if_neg (by simp)]
 simp only[Int.toNat_natCast]
 unfold seqItems?
 refine wpAny_bind (wpAny_bind (wpAny_load t1 ?_))
 rw[t2]
 refine wpAny_pure ?_
 dsimp only
 have ep':(qei ps).toArray[i]?=none:=by
  rw[List.getElem?_toArray]
  unfold qei
  rw[List.getElem?_map,hj]
  rfl
 rw[ep']
 dsimp only
 refine wpAny_bind (wpAny_setField g1 g3 (by simp) ?_)
 have g1':=Heap.get?_update_self (Obj.mapFields (·.setIfInBounds 0 (rawInt 0))) g1 (Obj.isFreed_of_fields (Obj.data_mapFields g3 _))
 have g3':=Obj.data_mapFields g3 (·.setIfInBounds 0 (rawInt 0))
 refine wpAny_bind (wpAny_setField g1' g3' (by simp) ?_)
 show wpAny _ _ (newExc (.type "StopIteration") [] >>= λ_=>_) _ _ _
 refine wpAny_bind ?_
 simp only[newExc,newTuple]
 refine wpAny_bind (wpAny_newObj_type (wpAny_bind (m:=firstArgMember _ _) (wpAny_of_eq (a:=Value.none) (by first|rfl|(simp only[firstArgMember];rfl)) (wpAny_newObj_type ?_ (by size_fits)))) (by size_fits))
 simp only[raiseNew]
 refine(wpAny_bind (wpAny_handled ?_))
 rw[(show A.in1.handled=none from hh)]
 refine(wpAny_bind (wpAny_pure (wpAny_throw ?_)))
 exact wpAny_bind (wpAny_isInstance (T:="StopIteration") (b:=true) ⟨_,Heap.get?_push_size _ rfl,rfl⟩ isSubtype_stop (wpAny_pure (fin _ ((((Heap.SameBut.update ..).trans (Heap.SameBut.update ..)).extBut.push _).push _))))
theorem qnz(hh:A.handled=none)(I a T:Addr)(ne:a≠I)(nT:T≠I)(es:Array (Int×Value))(ep:Nat)(t:SetTable)(ps:List Nat)(l:List Value)(hl:ps.length=es.size)
  (hv:∀(i j:Nat),ps[i]?=some j->∃v,l[i]?=some v/\es[j]?.map (·.2)=some v) :
  Walks prog w A I [I,a,T] [I] es.size (λi v=>l[i]?=some v) (λi h=>SetIt h I (.ref T) i a es.size ep/\RawS h a es ep t/\SeqAt0 h T (qei ps)) where
 sub:=λb hb=>by
  cases List.mem_singleton.mp hb
  exact List.mem_cons_self ..
 frame:=λ_ _ _ st k=>⟨st.1.keep λo e=>k I (List.mem_cons_self ..) o e,st.2.1.keep λo e=>k a (by simp) o e,st.2.2.keep λo e=>k T (by simp) o e⟩
 item:=λi s Q E lt st fin=>by
  have e:ps[i]?=some ps[i]:=List.getElem?_eq_getElem (by lia)
  obtain⟨v,e1,e2⟩:=hv i _ e
  exact qqe (es:=es) st.1 st.2.1 st.2.2 e e2 λh' K' sb=>fin _ h' s.toks e1 ⟨K',st.2.1.keep λo z=>sb.extBut a o ne z,st.2.2.keep λo z=>sb.extBut T o nT z⟩ λb o nb z=>sb.extBut b o (λy=>nb (by simp[y])) z
 done:=λs Q E st fin=>qtp (es:=es) hh st.1 st.2.1 st.2.2 (List.getElem?_eq_none (by lia)) λh' x=>fin h' s.toks λb o nb z=>x b o (λy=>nb (by simp[y])) z
 self:=λ_ _ _ _ st q=>qlp st.1 q
end
end PySem
namespace PySem
open SetTable Sem
section
variable {prog:Program} {w:World} {K:Type} [DecidableEq K] {knd:KeyKind prog w K} {A:Around} {E:Value->Shared->Prop} {s:Shared} {a b d r:Addr}
variable {o:Obj} {es:Array (Int×Value)} {ep:Nat} {t:SetTable} {ks:List (List K×Addr)}
theorem qle{Q:Option (Value×Nat)->Shared->Prop}{f i:Nat}(bt:(model prog w).w.params.followText "set-order" = true)(S:RawS s.heap a es ep t)(q:Q ((((pickOrder ((model prog w).w.params.setOrder a ep) es).toList.map (·.2))[i]?).map λv=>(v,f)) s):wpAny (model prog w) A (setNext a f i ep) Q E s:=by
 obtain⟨o,h1,h2,h3⟩:=S
 unfold setNext
 refine wpAny_bind (wpAny_setState_of h1 h2 h3 ?_)
 dsimp only
 unfold setsByText
 refine wpAny_bind (wpAny_bind (wpAny_askSetting (wpAny_pure ?_)))
 rw[bt]
 simp only[if_true]
 rw[if_neg (by simp)]
 unfold setWalk
 refine wpAny_bind (wpAny_bind (wpAny_setState_of h1 h2 h3 ?_))
 dsimp only
 unfold setsByText
 refine wpAny_bind (wpAny_bind (wpAny_askSetting (wpAny_pure ?_)))
 rw[bt]
 simp only[if_true]
 refine wpAny_bind (wpAny_askSetting (wpAny_pure (wpAny_pure ?_)))
 rw[List.getElem?_map,Array.getElem?_toList] at q
 cases e:(pickOrder ((model prog w).w.params.setOrder a ep) es)[i]? with
|none=>rw[e] at q;exact q
|some x=>rw[e] at q;exact q
theorem qou{Q:Option (Value×Nat)->Shared->Prop}{f i:Nat}(bt:(model prog w).w.params.followText "set-order" = false)(S:RawS s.heap a es ep t)(nd:¬ ((!t.plain&&decide (es.size>1))=true))(led:t.led=true) (q:Q (match es[SetTable.below t.place f]?,t.place[SetTable.below t.place f]? with
 |some (_,x),some j=>some (x,j+1)
 |  _,_=>none) s):wpAny (model prog w) A (setNext a f i ep) Q E s:=by
 obtain⟨o,h1,h2,h3⟩:=S
 unfold setNext
 refine wpAny_bind (wpAny_setState_of h1 h2 h3 ?_)
 dsimp only
 unfold setsByText
 refine wpAny_bind (wpAny_bind (wpAny_askSetting (wpAny_pure ?_)))
 rw[bt]
 simp only[Bool.false_eq_true,if_false]
 split
 ·rename_i z
  exact absurd z nd
 refine wpAny_bind (show wpAny (model prog w) A (if (!t.led&&!es.isEmpty)=true then _ else Pure.pure ()) _ E s from ?_)
 rw[led]
 simp only[Bool.not_true,Bool.false_and,Bool.false_eq_true,if_false]
 refine wpAny_pure (wpAny_pure ?_)
 exact q
end
end PySem
namespace PySem
open SetTable Sem
section
variable {prog:Program} {w:World} {K:Type} [DecidableEq K] {knd:KeyKind prog w K} {A:Around} {E:Value->Shared->Prop} {s:Shared} {a b d r:Addr}
variable {o:Obj} {es:Array (Int×Value)} {ep:Nat} {t:SetTable} {ks:List (List K×Addr)}
end
end PySem
namespace PySem
open SetTable Sem Calls PyProof.Rows PyProof.V PySem.Spec
section
variable {prog:Program} {w:World} {K:Type} [DecidableEq K] {knd:KeyKind prog w K} {A:Around} {E:Value->Shared->Prop} {s:Shared} {a b d r:Addr}
variable {o:Obj} {es:Array (Int×Value)} {ep:Nat} {t:SetTable} {ks:List (List K×Addr)}
theorem qu8{Q:Bool->Shared->Prop}(hT:s.TypeIs (.ref r) "set")(h:Q false s):wpAny (model prog w) A (Builtin.List.listLengthHint (.ref r)) Q E s:=by
 unfold Builtin.List.listLengthHint
 refine wpAny_bind (wpAny_specialOf hT PySem.F.slot_set_len.lookup ?_)
 generalize hid:("set.__len__" : String)=id0
 wp_delta
 rw[show splitId id0=some ("set","__len__") from by subst hid;decide +kernel]
 subst hid
 refine wpAny_bind (wpAny_isInstance (T:="set") (b:=true) hT (by rw[isSubtype_type];kernel_rfl) ?_)
 refine wpAny_ite_split (λhab=>absurd hab (by decide)) (λ_=>?_)
 refine wpAny_ite_split (λ_=>?_) (λhab=>absurd (by decide +kernel) hab)
 refine wpAny_bind (wpAny_typeOf hT ?_)
 exact wpAny_pure h
theorem qpw{l:List Value}{acc:Array Value}{n:Nat}(h:ItemsOf (λi v=>l[i]?=some v) acc n)(hl:l.length=n):acc.toList=l:=by
 apply List.ext_getElem
 ·rw[Array.length_toList,h.1,hl]
 ·intro i h1 h2
  have:l[i]?=some acc[i]:=h.2 i acc[i] (by simp at h1;simp[h1])
  rw[List.getElem?_eq_getElem h2] at this
  simpa using (Option.some.inj this).symm
end
end PySem
namespace L2
open PySem PySem.Spec PyProof.Rows
theorem qvy{α β:Type}(f:α->β){l m:List β}(h:l.Perm m):∀k:List α,m=k.map f->∃k':List α,k'.Perm k/\l=k'.map f:=by
 induction h with
|nil=>exact λk e=>⟨k,List.Perm.refl _,e⟩
|cons x p ih =>
  intro k e
  cases k with
 |nil=>cases e
 |cons y k =>
   rw[List.map_cons] at e
   obtain⟨k',p',e'⟩:=ih k (List.cons.inj e).2
   exact⟨y::k',p'.cons _,by rw[List.map_cons,←e',(List.cons.inj e).1]⟩
|swap x y l =>
  intro k e
  match k,e with
 |a::b::k,e =>
   have e1:x=f a:=(List.cons.inj e).1
   have e2:y=f b:=(List.cons.inj (List.cons.inj e).2).1
   have e3:l=k.map f:=(List.cons.inj (List.cons.inj e).2).2
   exact⟨b::a::k,.swap ..,by rw[e1,e2,e3];rfl⟩
|trans p q ih1 ih2 =>
  intro k e
  obtain⟨k1,p1,e1⟩:=ih2 k e
  obtain⟨k2,p2,e2⟩:=ih1 k1 e1
  exact⟨k2,p2.trans p1,e2⟩
section
variable {X:Cx} {pins:List (Addr×Obj)} {σ:St} {H:Hp} {s:Shared} {E:Value->Shared->Prop} {a b:Addr} {kvs lvs:List (List Key×V)} {ks ls:List (List Str)}
theorem Inv.drawn(I:Inv X pins σ H s)(d:_):Inv X pins σ H { s with drawn:=d }:=⟨I.ok,I.os,I.bare,I.base,I.loc,I.cell,I.free,I.freeC,I.pin,I.hok,I.len⟩
theorem q2k{i:Nat}{x:Str}{pos:Pos}{v:V}{Q:Value->Shared->Prop}(I:Inv X pins σ H s)(e:σ[i]?=some (some v))(h:∀u,RelV v u->Q u s)(hN:X.N[i]?=some x)(hv:Vis X.env.scope x)(hd:(x==("__debug__" : Str))=false:=by decide)(hcd:(x==("__classdict__" : Str))=false:=by decide) :
  wpAny (model X.prog X.w) X.A (eval (.Name x pos) X.env) Q E s:=by
 obtain⟨m,hn,hl⟩:=I.loc
 obtain⟨u,r,l⟩:=hl i x v hN e hv
 have fin:=h u r
 rcases l with ⟨hk,hm⟩|⟨hk,c,hc,hcell⟩
 ·exact wpAny_Name (wpAny_loadName_local I.ok.kind hk hn hm fin) hd
 ·rcases hk with hk|hk
  ·exact wpAny_Name (wpAny_loadName_cell I.ok.kind hk hc hcell fin) hd
  ·exact wpAny_Name (wpAny_loadName_free I.ok.kind hk hc hcell fin hcd) hd
theorem qx0{e:Expr}{pos:Pos}(he:qa3 e=true){Q:List Value->Shared->Prop}{M:Model}{A:Around}{env:Env}(h:wpAny M A (eval e env) (λu s1=>Q [u] s1) E s):wpAny M A (spliced (backTo pos (starEach [e] env))) Q E s:=by
 rw[qbx he]
 show wpAny _ _ (spliced ((false,eval e env)::backTo pos (starEach [] env))) _ _ s
 exact Calls.spliced_cons (thn h λu s1 q=>Calls.spliced_nil q)
end
end L2
namespace L2
open PySem PySem.Spec PyProof.Rows
abbrev TVN:=VSt->(D->Prop)->Prop
section
variable {X:Cx} {EX:St->XK} {K:PySem.W.Frag} {a b c e o i:Expr} {es:List Expr} {pos pos' p p2 apos cpos:Pos} {x y:Str} {te:TV} {tA:TVA} {t t':TVN} {B H B' H' H0 H1 H2 B0:Hp} {τ:VSt} {σ:St}
def RfEN(K:PySem.W.Frag)(te:TE)(t:TVN):Prop:=∀(H0 B H:Hp) (τ:VSt) (σ:St) (Q:VK) (Qd:D->Prop),Same B H->Same H0 H->Slots K H0 B H τ σ->t τ Qd->(∀d v B' H',Stp B H B' H'->Rep K B' d v->NewR H0 B' d v->Qd d->Q v H')->te σ H Q
structure VEN(X:Cx)(e:Expr)(t:TVN):Prop where
 u:∃te,QE X e te/\RfEN X.K te t
end
end L2
namespace L2
open PySem PySem.Spec PyProof.Rows
section
variable {X:Cx} {EX:St->XK} {K:PySem.W.Frag} {B H B' H' H0 H1 H2 B0 B1:Hp} {τ:VSt} {σ:St} {x:Str}
def plainS(τ:VSt):Prop:=(τ.all λo=>match o with
|some (.val _)=>true
|none=>true
|  _=>false)=true
theorem Slots.plain(S:Slots K H0 B H τ σ)(h:plainS τ):Slots K H1 B H2 τ σ :=
 have no:∀(i:Nat) (r:R),τ[i]?=some (some r)->(match r with|.val _=>true|_=>false)=true:=λi r e=>by
  have:=List.all_eq_true.mp h _ (List.mem_of_getElem? e)
  cases r<;>first|rfl|exact this
 ⟨S.len,S.val,λi d e=>(Bool.false_ne_true (no i _ e)).elim,λi d e=>(Bool.false_ne_true (no i _ e)).elim,λi j d e a q=>(Bool.false_ne_true (no i _ q)).elim⟩
end
end L2
namespace PySem
open SetTable
section
variable {prog:Program} {w:World} {A:Around} {E:Value->Shared->Prop} {s:Shared} {a b:Addr}
def hX(prog:Program)(w:World)(x:Str):Int:=(L2.qbb prog w).hash (Sum.inr x)
def enX(prog:Program)(w:World)(p:Str×Tok):Int×Value:=(hX prog w p.1,.str p.1 p.2)
structure SetTx(prog:Program)(w:World)(h:Heap)(a:Addr)(o:Obj)(es:Array (Int×Value))(ep:Nat)(t:SetTable)(ks:List (Str×Tok)):Prop where
 ho:h.get? a=some o
 ex:o.ExactSet
 hd:o.data=.set es ep t
 ok:TOkH t (ks.map λp=>hX prog w p.1)
 pl:t.plain=true->ks=[]
 es:es.toList=ks.map (enX prog w)
 nd:(ks.map (·.1)).Nodup
variable {o:Obj} {es:Array (Int×Value)} {ep:Nat} {t:SetTable} {ks:List (Str×Tok)}
theorem SetTx.size(S:SetTx prog w s.heap a o es ep t ks):es.size=ks.length:=by
 have:=congrArg List.length S.es
 rw[List.length_map] at this
 simpa using this
theorem SetTx.tok(S:SetTx prog w s.heap a o es ep t ks):TOk t ks.length:=by
 have:=S.ok.ok
 rw[List.length_map] at this
 exact this
theorem SetTx.fits(S:SetTx prog w s.heap a o es ep t ks):t.fits es.size=true:=by
 have T:=S.tok
 unfold SetTable.fits SetTable.fill
 rw[S.size,T.sz,T.nd]
 have:=T.fl
 simp[this]
theorem SetTx.entry(S:SetTx prog w s.heap a o es ep t ks){i:Nat}(hi:i<ks.length):es[i]?=some (enX prog w ks[i]):=by
 rw[←Array.getElem?_toList,S.es,List.getElem?_map,List.getElem?_eq_getElem hi]
 rfl
theorem SetTx.scan(S:SetTx prog w s.heap a o es ep t ks)(hn:ks.length<900)(x:Str)(tk:Tok):byScan (.str x tk) es=true:=by
 have sz:=S.size
 have h1:(es.all λe=>e.2.scannable)=true:=by
  rw[←Array.all_toList,S.es,List.all_eq_true]
  intro v mv
  obtain⟨p,_,rfl⟩:=List.mem_map.mp mv
  rfl
 unfold byScan
 rw[h1,decide_eq_true (show es.size<scanBound by unfold scanBound;lia)]
 rfl
theorem SetTx.strs(S:SetTx prog w s.heap a o es ep t ks):(es.all λe=>isExactStrKey e.2)=true:=by
 rw[←Array.all_toList,S.es,List.all_eq_true]
 intro v mv
 obtain⟨p,_,rfl⟩:=List.mem_map.mp mv
 rfl
theorem SetTx.store(S:SetTx prog w s.heap a o es ep t ks){es':Array (Int×Value)}{t':SetTable}{ks':List (Str×Tok)}(nd:(ks'.map (·.1)).Nodup)(ok:TOkH t' (ks'.map λp=>hX prog w p.1))(pl:t'.plain=true->ks'=[])
  (ee:es'.toList=ks'.map (enX prog w)):SetTx prog w (s.heap.update a (Obj.putSet es' t')) a { o with data:=.set es' (ep+1) t' } es' (ep+1) t' ks':=by
 have hg:(s.heap.update a (Obj.putSet es' t')).get? a=some { o with data:=.set es' (ep+1) t' }:=by
  have:=Heap.get?_update_self (Obj.putSet es' t') S.ho (by rw[putSet_of es' t' S.hd];rfl)
  rw[putSet_of es' t' S.hd] at this;exact this
 exact⟨hg,S.ex,rfl,ok,pl,ee,nd⟩
theorem qjw{es:Array (Int×Value)}{ks:List (Str×Tok)}(se:es.toList=ks.map (enX prog w)){order:Array Nat}(pm:order.toList.Perm (List.range ks.length)) :
  (order.toList.filterMap (ks[·]?)).Perm ks/\(order.toList.map λq=>(es.map (·.1)).getD q 0)=(order.toList.filterMap (ks[·]?)).map (λp=>hX prog w p.1)/\(order.filterMap (es[·]?)).toList=(order.toList.filterMap (ks[·]?)).map (enX prog w)/\(order.filterMap (es[·]?)).size=es.size:=by
 have sz:es.size=ks.length:=by
  have:=congrArg List.length se
  rw[List.length_map] at this
  simpa using this
 have en:∀i (hi:i<ks.length),es[i]?=some (enX prog w ks[i]):=λi hi=>by
  rw[←Array.getElem?_toList,se,List.getElem?_map,List.getElem?_eq_getElem hi]
  rfl
 have pm2:order.toList.Perm (List.range es.size):=by rw[sz];exact pm
 refine⟨?_,?_,?_,?_⟩
 ·have:=pm.filterMap λi=>ks[i]?
  rw[List.filterMap_getElem?_range_length ks] at this
  exact this
 ·rw[List.map_filterMap,←List.filterMap_eq_map]
  refine qew λq mq=>?_
  have hq:=List.mem_range.mp (pm.mem_iff.mp mq)
  rw[List.getElem?_eq_getElem hq]
  have:=en q hq
  obtain⟨z1,z2⟩:=Array.getElem?_eq_some_iff.mp this
  simp[z1,z2,enX]
 ·rw[Array.toList_filterMap,List.map_filterMap]
  refine qew λq mq=>?_
  have hq:=List.mem_range.mp (pm.mem_iff.mp mq)
  rw[List.getElem?_eq_getElem hq,en q hq]
  rfl
 ·rw[←Array.length_toList,(qp9 pm2).length_eq,Array.length_toList]
theorem TOkH.flagsX{t t':SetTable}{hs:List Int}(h:TOkH t hs)(q1:t'.mask=t.mask)(q2:t'.place=t.place)(q3:t'.dummies=t.dummies):TOkH t' hs:=by
 obtain⟨O,rc⟩:=h
 refine⟨⟨by rw[q1];exact O.mk2,by rw[q1];exact O.big,by rw[q1];exact O.few,by rw[q2];exact O.sz,by rw[q2];exact O.so,by rw[q2,q1];exact O.lo,by rw[q3];exact O.nd,by rw[q1];exact O.fl⟩,λi hi=>?_⟩
 obtain⟨y,y1,n,y2,y3⟩:=rc i hi
 exact⟨y,by rw[q2];exact y1,n,by rw[qf3 q1];exact y2,λm hm=>by rw[qf3 q1,q2];exact y3 m hm⟩
theorem TOk.freeX{t:SetTable}{n:Nat}(T:TOk t n)(h:Int):∃N,t.freeSlot h=some (at_ t h N,false)/\at_ t h N<=t.mask/\at_ t h N∉t.place.toList/\∀m,m<N->at_ t h m∈t.place.toList:=by
 obtain⟨e,he,hs⟩:=T.stop h
 obtain⟨N,n1,n2,n3,n4⟩:=T.met2 (hashAt:=λ_=>h+1) (h:=h) (10*turns t.mask) 0 e (Nat.zero_le _) (by lia) hs
 rcases n4 with ⟨g1,g2,g3⟩|⟨i,_,_,_,g4,_⟩
 ·refine⟨N,?_,g2,g3,λm hm=>?_⟩
  ·unfold SetTable.freeSlot
   rw[show t.probe (λ_=>h+1) h (t.probeStart h)=some (.empty (at_ t h N) none) from g1]
   rfl
  ·obtain⟨i,m3,_⟩:=n3 m (Nat.zero_le _) hm
   rcases T.slot (at_ t h m) with ⟨_,z⟩|⟨i',z1,_,_⟩
   ·rw[z] at m3;cases m3
   ·obtain⟨li,ei⟩:=Array.getElem?_eq_some_iff.mp z1
    rw[←ei];simp
 ·exact absurd g4 (by lia)
theorem qoh{α β:Type}(f:α->β)(l:List α)(p:Nat)(x:α):(l.take p++x::l.drop p).map f=(l.map f).take p++f x::(l.map f).drop p:=by
 rw[List.map_append,List.map_cons,List.map_take,List.map_drop]
theorem q1s(S:SetTx prog w s.heap a o es ep t ks)(lo:5*ks.length<3*t.mask)(hn:ks.length<900)(x:Str)(tk:Tok)
  {Q:Bool->Shared->Prop} (old:x∈ks.map (·.1)->Q false s)
  (new:x∉ks.map (·.1)->∀h' o' es' ep' t' ks',Heap.SameBut a s.heap h'->SetTx prog w h' a o' es' ep' t' ks'->ks'.Perm (ks++[(x,tk)])->t'.led=t.led->5*ks'.length<3*t'.mask->Q true { s with heap:=h' }) :
  wpAny (model prog w) A (setAddHashed a (.str x tk) (hX prog w x)) Q E s:=by
 have T:=S.tok
 have few:=T.few
 have big:=T.big
 have sz:=S.size
 unfold setAddHashed setAddHashedIn
 refine wpAny_holding (wpAny_bind (wpAny_setState_of S.ho S.hd S.fits ?_))
 dsimp only
 rw[S.scan hn x tk]
 simp only[↓reduceIte]
 refine wpAny_bind ?_
 unfold setAddByScan
 refine wpAny_bind (wpAny_rule ?_)
 refine wpAny_bind ?_
 unfold setScan
 simp only[S.strs,↓reduceIte]
 unfold setScanStrs
 cases hf:es.findIdx? (·.2.isStr x) with
|some i =>
  obtain⟨hi,hp,_⟩:=Array.findIdx?_eq_some_iff_getElem.mp hf
  have il:i<ks.length:=by rw[←sz];exact hi
  have en:=S.entry il
  have ee:es[i]=enX prog w ks[i]:=by
   obtain⟨z1,z2⟩:=Array.getElem?_eq_some_iff.mp en
   exact z2
  rw[ee] at hp
  have ek:ks[i].1=x:=by simpa [enX,Value.isStr] using hp
  dsimp only
  rw[en]
  dsimp only[enX]
  refine wpAny_bind (wpAny_setEpoch_of S.ho S.hd S.fits ?_)
  refine wpAny_bind ((L2.qbb prog w).eqBool (L2.qm5 prog w ks[i].1 ks[i].2) (L2.qm5 prog w x tk) ?_)
  rw[decide_eq_true (by rw[ek])]
  simp only[Bool.and_self,↓reduceIte]
  refine wpAny_pure (wpAny_pure (wpAny_pure ?_))
  exact old (by rw[←ek];exact List.mem_map_of_mem (List.getElem_mem il))
|none =>
  have nk:x∉ks.map (·.1):=λm=>by
   obtain⟨p,mp,ep⟩:=List.mem_map.mp m
   obtain⟨i,hi,ei⟩:=List.mem_iff_getElem.mp mp
   have:=Array.findIdx?_eq_none_iff.mp hf (enX prog w p) (by rw[←Array.mem_toList_iff,S.es];exact List.mem_map_of_mem mp)
   simp[enX,Value.isStr,ep] at this
  obtain⟨N,f1,f2,f3,f4⟩:=TOk.freeX T (hX prog w x)
  have hl:(ks.map λp=>hX prog w p.1).length=ks.length:=List.length_map ..
  obtain⟨P,p1,p2⟩:=S.ok.put f2 f3 f4 (by rw[hl];lia)
  rw[hl] at p1
  generalize hj:at_ t (hX prog w x) N=j at *
  rw[show hX prog w x=(λp:Str×Tok=>hX prog w p.1) (x,tk) from rfl,←qoh] at P
  have kp:(ks.take (t.put j).2++(x,tk)::ks.drop (t.put j).2).Perm (ks++[(x,tk)]):=by
   refine List.perm_middle.trans ?_
   rw[List.take_append_drop]
   exact(List.perm_append_singleton (x,tk) ks).symm
  have kl:(ks.take (t.put j).2++(x,tk)::ks.drop (t.put j).2).length=ks.length+1:=by rw[kp.length_eq,List.length_append,List.length_singleton]
  have ee:(SetTable.insertAt es (t.put j).2 (hX prog w x,Value.str x tk)).toList=(ks.take (t.put j).2++(x,tk)::ks.drop (t.put j).2).map (enX prog w):=by
   rw[toList_insertAt,S.es,qoh]
   rfl
  have ez:(SetTable.insertAt es (t.put j).2 (hX prog w x,Value.str x tk)).size=ks.length+1:=by
   rw[←Array.length_toList,ee,List.length_map,kl]
  have nd2:((ks.take (t.put j).2++(x,tk)::ks.drop (t.put j).2).map (·.1)).Nodup:=by
   refine(kp.map (·.1)).nodup_iff.mpr ?_
   rw[List.map_append]
   exact List.nodup_append.mpr ⟨S.nd,by simp,λy my z mz e=>nk (by
    have q:z=x:=List.mem_singleton.mp mz
    rw[←q,←e]
    exact my)⟩
  have pfit:(t.put j).1.fits (SetTable.insertAt es (t.put j).2 (hX prog w x,Value.str x tk)).size=true:=by
   have O:=P.ok
   rw[List.length_map,kl] at O
   unfold SetTable.fits SetTable.fill
   rw[ez,O.sz,O.nd]
   have:=O.fl
   simp[this]
  have ly:layNew t es (hX prog w x) (Value.str x tk)=(SetTable.insertAt es (t.put j).2 (hX prog w x,Value.str x tk),(t.put j).1,false,false):=by
   unfold layNew
   rw[f1]
   dsimp only
   unfold SetTable.orStandIn
   rw[pfit]
   rfl
  generalize SetTable.insertAt es (t.put j).2 (hX prog w x,Value.str x tk)=es1 at ee ez ly pfit
  generalize ks.take (t.put j).2++(x,tk)::ks.drop (t.put j).2=ks1 at P kp kl ee nd2
  have em:(t.put j).1.led=t.led:=rfl
  generalize (t.put j).1=t1 at P p2 ly pfit em
  refine wpAny_pure ?_
  dsimp only
  rw[ly]
  dsimp only
  refine wpAny_bind (wpAny_pure ?_)
  have fin:∀t2:SetTable,t2.mask=t1.mask->t2.place=t1.place->t2.dummies=t1.dummies->t2.led=t.led->t2.plain=false->wpAny (model prog w) A (storeSet a es1 t2) (λ_ s1=>(t2.tooFull=false->Q true s1)/\(t2.tooFull=true->∃es3 t3,relayAll t2 es1 (grown es1.size)=(es3,t3,false)/\wpAny (model prog w) A (storeSet a es3 t3) (λ_ s2=>Q true s2) E s1)) E s:=λt2 q1 q2 q3 q4 q5=>by
   have P':TOkH t2 (ks1.map λp=>hX prog w p.1):=TOkH.flagsX P q1 q2 q3
   have st:=S.store (es':=es1) (t':=t2) nd2 P' (λz=>by rw[q5] at z;cases z) ee
   refine wpAny_storeSet_of S.ho S.hd ?_ (by rw[ez,sizeLine_eq];lia)
   have fillE:t2.fill=ks.length+1:=by
    unfold SetTable.fill
    rw[q2,q3,P.ok.sz,P.ok.nd,List.length_map,kl]
    rfl
   refine⟨λtf=>?_,λtf=>?_⟩
   ·refine new nk _ _ _ _ _ _ (Heap.SameBut.update ..) st kp q4 ?_
    unfold SetTable.tooFull at tf
    rw[fillE] at tf
    have:=of_decide_eq_false tf
    rw[kl]
    lia
   ·have gr:SetTable.grown es1.size=(ks.length+1)*4:=by
     unfold SetTable.grown
     rw[ez,if_neg (by lia)]
    obtain⟨m,m1,m2,m3,m4⟩:=qn1 (show (ks.length+1)*4<=4095 by lia)
    have pw:sizeAbove ((ks.length+1)*4)-1+1=2 ^ m:=by lia
    have szm:(es1.map (·.1)).size=ks1.length:=by rw[Array.size_map,ez,kl]
    obtain⟨t3,order,l1,T3,l2,l3,l4,pm⟩:=qsh pw (by lia) (by lia) t2.finger (t2.movedTo (sizeAbove ((ks.length+1)*4)-1)) t2.led t2.plain (es1.map (·.1)) (by rw[szm,kl];lia)
    rw[szm] at pm
    obtain⟨r1,r2,r3,r4⟩:=qjw (prog:=prog) (w:=w) ee pm
    rw[r2] at T3
    have k3:(order.toList.filterMap (ks1[·]?)).length=ks1.length:=r1.length_eq
    have cov:coversAll order es1.size=true:=by
     unfold coversAll
     rw[List.isPerm_iff,ez,←kl]
     exact pm
    have fit3:t3.fits (order.filterMap (es1[·]?)).size=true:=by
     have O:=T3.ok
     rw[List.length_map,k3] at O
     unfold SetTable.fits SetTable.fill
     rw[r4,ez,←kl,O.sz,O.nd]
     have:=O.fl
     simp[this]
    refine⟨order.filterMap (es1[·]?),t3,?_,?_⟩
    ·unfold relayAll
     rw[gr,show t2.relaid (es1.map (·.1)) ((ks.length+1)*4)=some (t3,order) from l1]
     dsimp only
     rw[cov,fit3]
     rfl
    ·refine wpAny_storeSet_of (s:={ s with heap:=s.heap.update a (Obj.putSet es1 t2) }) st.ho st.hd ?_ (by rw[r4,ez,sizeLine_eq];lia)
     refine new nk _ _ _ _ _ _ ((Heap.SameBut.update ..).trans (Heap.SameBut.update ..)) (SetTx.store (s:={ s with heap:=s.heap.update a (Obj.putSet es1 t2) }) st ((r1.map (·.1)).nodup_iff.mpr nd2) T3 (λz=>by rw[l4,q5] at z;cases z) r3) (r1.trans kp) (l3.trans q4) ?_
     rw[k3,kl,l2]
     lia
  have use:∀(t2:SetTable) (K:Sem (Option Bool)) (Y:Option Bool->Shared->Prop),t2.mask=t1.mask->t2.place=t1.place->t2.dummies=t1.dummies->t2.led=t.led->t2.plain=false->(∀s',Q true s'->Y (some true) s') ->
    (∀s' es3 t3,relayAll t2 es1 (grown es1.size)=(es3,t3,false)->wpAny (model prog w) A (storeSet a es3 t3 >>= λ_=>pure (some true)) Y E s'->wpAny (model prog w) A K Y E s') ->
    wpAny (model prog w) A (storeSet a es1 t2 >>= λ_=>if (!false&&t2.tooFull)=true then K else pure (some true)) Y E s:=λt2 K Y q1 q2 q3 q4 q5 hy hK=>by
   refine wpAny_bind (wpAny_mono (fin t2 q1 q2 q3 q4 q5) (λ_ s1 hs=>?_) λ_ _ z=>z)
   cases tf:t2.tooFull with
  |false =>
    simp only[Bool.and_false,Bool.false_eq_true,↓reduceIte]
    exact wpAny_pure (hy _ (hs.1 tf))
  |true =>
    simp only[Bool.not_false,Bool.and_self,↓reduceIte]
    obtain⟨es3,t3,e3,w3⟩:=hs.2 tf
    exact hK _ _ _ e3 (wpAny_bind (wpAny_mono w3 (λ_ s2 q=>wpAny_pure (hy _ q)) λ_ _ z=>z))
  have hbv:hashByValue 8 (Value.str x tk)=pure false:=rfl
  split
  ·rw[hbv]
   refine wpAny_bind (wpAny_pure ?_)
   simp only[Bool.false_eq_true,↓reduceIte]
   refine use { t1 with plain:=false } _ _ rfl rfl rfl em rfl (λs' q=>wpAny_pure q) λs' es3 t3 e3 hw=>?_
   rw[e3]
   exact wpAny_bind (wpAny_pure hw)
  ·rename_i pf
   refine wpAny_bind (wpAny_pure ?_)
   simp only[↓reduceIte]
   refine use t1 _ _ rfl rfl rfl em (by simpa using pf) (λs' q=>wpAny_pure q) λs' es3 t3 e3 hw=>?_
   rw[e3]
   exact wpAny_bind (wpAny_pure hw)
end
end PySem
namespace PySem
open SetTable Sem
section
variable {prog:Program} {w:World} {A:Around} {E:Value->Shared->Prop} {s:Shared} {a b d r:Addr}
variable {o oa:Obj} {es ea:Array (Int×Value)} {ep epa:Nat} {t ta:SetTable} {ks ka:List (Str×Tok)}
theorem q0x(S:SetTx prog w s.heap a o es ep t ks){wanted:Nat}(hw:ks.length<=wanted)(h4:wanted<=4095){Q:Unit->Shared->Prop}
  (h:∀h' o' es' ep' t' ks',Heap.SameBut a s.heap h'->SetTx prog w h' a o' es' ep' t' ks'->ks'.Perm ks->t'.led=t.led->wanted<=t'.mask->Q () { s with heap:=h' }):wpAny (model prog w) A (setRelay a wanted) Q E s:=by
 obtain⟨m,m1,m2,m3,m4⟩:=qn1 h4
 have pw:sizeAbove wanted-1+1=2 ^ m:=by lia
 have sz:(es.map (·.1)).size=ks.length:=by rw[Array.size_map,S.size]
 obtain⟨t',order,l1,T,l2,l3,l4,pm⟩:=qsh pw (by lia) (by lia) t.finger (t.movedTo (sizeAbove wanted-1)) t.led t.plain (es.map (·.1)) (by rw[sz];lia)
 rw[sz] at pm
 obtain⟨r1,r2,r3,r4⟩:=qjw (prog:=prog) (w:=w) S.es pm
 rw[r2] at T
 unfold setRelay
 refine wpAny_bind (wpAny_setState_of S.ho S.hd S.fits ?_)
 dsimp only
 rw[if_neg (by rw[sizeLine_eq];lia)]
 rw[show t.relaid (es.map (·.1)) wanted=some (t',order) from l1]
 refine wpAny_bind ?_
 refine(show wpAny (model prog w) A (if ((order.filterMap (es[·]?)).size != es.size)=true then _ else Pure.pure (order.filterMap (es[·]?),t')) _ E s from ?_)
 rw[if_neg (by rw[r4];simp)]
 refine wpAny_pure ?_
 dsimp only
 refine wpAny_storeSet_of S.ho S.hd ?_ (by rw[r4,S.size,sizeLine_eq];lia)
 refine h _ _ _ _ _ _ (Heap.SameBut.update ..) (S.store ((r1.map (·.1)).nodup_iff.mpr S.nd) T (λz=>?_) r3) r1 l3 (by rw[l2];lia)
 have k0:=S.pl (by rw[←l4];exact z)
 rw[k0] at r1 ⊢
 exact List.Perm.eq_nil r1
theorem qtl(S:SetTx prog w s.heap a o es ep t ks){more:Nat}(hn:ks.length+more<=2000){Q:Unit->Shared->Prop}(h0:5*(ks.length+more)<3*t.mask->Q () s)
  (h:∀h' o' es' ep' t' ks',Heap.SameBut a s.heap h'->SetTx prog w h' a o' es' ep' t' ks'->ks'.Perm ks->t'.led=t.led->5*(ks.length+more)<3*t'.mask->Q () { s with heap:=h' }):wpAny (model prog w) A (setRoomFor a more) Q E s:=by
 have T:=S.tok
 have fl:t.fill=ks.length:=by unfold SetTable.fill;rw[T.sz,T.nd];rfl
 unfold setRoomFor
 refine wpAny_bind (wpAny_setState_of S.ho S.hd S.fits ?_)
 dsimp only
 unfold SetTable.roomFor
 rw[fl,T.sz]
 by_cases c:(ks.length+more)*5≥t.mask*3
 ·rw[if_pos c]
  dsimp only
  have big:=T.big
  refine q0x S (by lia) (by lia) λh' o' es' ep' t' ks' sb S' pm le mk=>h h' o' es' ep' t' ks' sb S' pm le (by lia)
 ·rw[if_neg c]
  dsimp only
  exact wpAny_pure (h0 (by lia))
theorem SetTx.typeIs(S:SetTx prog w s.heap a o es ep t ks):s.TypeIs (.ref a) "set" := ⟨o,S.ho,S.ex.1⟩
theorem SetTx.but{h h':Heap}(S:SetTx prog w h a o es ep t ks)(ne:a≠r)(sb:Heap.SameBut r h h'):SetTx prog w h' a o es ep t ks :=
 ⟨(sb.2 a ne).trans S.ho,S.ex,S.hd,S.ok,S.pl,S.es,S.nd⟩
theorem SetTx.keep{h h':Heap}(S:SetTx prog w h a o es ep t ks)(k:h.get? a=some o->h'.get? a=some o):SetTx prog w h' a o es ep t ks:=⟨k S.ho,S.ex,S.hd,S.ok,S.pl,S.es,S.nd⟩
theorem qw5(R:SetTx prog w s.heap r o es ep t [])(S:SetTx prog w s.heap a oa ea epa ta ka)(ne:a≠r)(hn:ka.length<=1900)(lo:5*ka.length<3*ta.mask){each:Sem Unit}{Q:Unit->Shared->Prop}(h0:ka=[]->Q () s)
  (h:∀h' o' es' ep' t' ks',Heap.SameBut r s.heap h'->SetTx prog w h' r o' es' ep' t' ks'->ks'.Perm ka->t'.led=(t.led&&ta.led)->5*ks'.length<3*t'.mask->Q () { s with heap:=h' }):wpAny (model prog w) A (setMerge r a each) Q E s:=by
 unfold setMerge
 rw[if_neg (by simpa using Ne.symm ne)]
 refine wpAny_bind (wpAny_setState_of S.ho S.hd S.fits ?_)
 dsimp only
 by_cases em:ka=[]
 ·have:ea.isEmpty=true:=by
   have:=S.size
   rw[em] at this
   simpa [Array.isEmpty] using this
  rw[if_pos this]
  exact wpAny_pure (h0 em)
 ·have ne2:¬ ea.isEmpty=true:=λz=>em (List.length_eq_zero_iff.mp (by
   have:=S.size
   have z:ea.size=0:=by simpa [Array.isEmpty] using z
   lia))
  rw[if_neg ne2]
  have sz:=S.size
  refine wpAny_bind (wpAny_mono (qtl (Q:=λ_ s1=>∃h1 o1 es1 ep1 t1,s1={ s with heap:=h1 }/\Heap.SameBut r s.heap h1/\SetTx prog w h1 r o1 es1 ep1 t1 []/\t1.led=t.led/\5*ka.length<3*t1.mask) R (more:=ea.size) (by simp only[List.length_nil];lia) (λlo1=>⟨s.heap,o,es,ep,t,rfl,Heap.SameBut.refl ..,R,rfl,by simp only[List.length_nil] at lo1;lia⟩) λh1 o1 es1 ep1 t1 ks1 sb R1 pm le lo1=>by
   cases List.Perm.eq_nil pm
   exact⟨h1,o1,es1,ep1,t1,rfl,sb,R1,le,by simp only[List.length_nil] at lo1;lia⟩) ?_ λ_ _ z=>z)
  rintro _ s1 ⟨h1,o1,es1,ep1,t1,rfl,sb,R1,le,lo1⟩
  have S1:SetTx prog w h1 a oa ea epa ta ka:=S.but ne sb
  have T1:=SetTx.tok (s:={ s with heap:=h1 }) R1
  refine wpAny_bind (wpAny_setState_of (s:={ s with heap:=h1 }) R1.ho R1.hd (SetTx.fits (s:={ s with heap:=h1 }) R1) ?_)
  dsimp only
  have fl:t1.fill=0:=by unfold SetTable.fill;rw[T1.sz,T1.nd];rfl
  unfold SetTable.road
  rw[fl]
  simp only[bne_self_eq_false,Bool.false_eq_true,if_false]
  by_cases c:(t1.mask==ta.mask&&ta.dummies.isEmpty)=true
  ·rw[if_pos c]
   dsimp only
   refine wpAny_storeSet_of (s:={ s with heap:=h1 }) R1.ho R1.hd ?_ (by rw[sz,sizeLine_eq];lia)
   refine h _ _ _ _ _ ka (sb.trans (Heap.SameBut.update ..)) (SetTx.store (s:={ s with heap:=h1 }) R1 S1.nd (TOkH.flagsX S.ok rfl rfl rfl) (λz=>S.pl (by simp only[Bool.and_eq_true] at z;exact z.2)) S.es) (List.Perm.refl _) (by show (t1.led&&ta.led)=_;rw[le]) lo
  ·rw[if_neg c]
   dsimp only
   obtain⟨m,hm⟩:=T1.mk2
   have szm:(ea.map (·.1)).size=ka.length:=by rw[Array.size_map,sz]
   obtain⟨t',order,l1,T,l2,l3,l4,pm⟩:=qsh hm T1.big T1.few t1.finger t1.moves (t1.led&&ta.led) (t1.plain&&ta.plain) (ea.map (·.1)) (by rw[szm];lia)
   rw[szm] at pm
   obtain⟨r1,r2,r3,r4⟩:=qjw (prog:=prog) (w:=w) S.es pm
   rw[r2] at T
   rw[l1]
   refine wpAny_bind ?_
   refine(show wpAny (model prog w) A (if ((order.filterMap (ea[·]?)).size != ea.size)=true then _ else Pure.pure (order.filterMap (ea[·]?),t')) _ E { s with heap:=h1 } from ?_)
   rw[if_neg (by rw[r4];simp)]
   refine wpAny_pure ?_
   dsimp only
   refine wpAny_storeSet_of (s:={ s with heap:=h1 }) R1.ho R1.hd ?_ (by rw[r4,sz,sizeLine_eq];lia)
   refine h _ _ _ _ _ _ (sb.trans (Heap.SameBut.update ..)) (SetTx.store (s:={ s with heap:=h1 }) R1 ((r1.map (·.1)).nodup_iff.mpr S1.nd) T (λz=>?_) r3) r1 (by rw[l3,le]) (by rw[r1.length_eq,l2];exact lo1)
   have k0:=S.pl (by rw[l4] at z;simp only[Bool.and_eq_true] at z;exact z.2)
   exact absurd k0 em
theorem SetTx.few(S:SetTx prog w s.heap a o es ep t ks)(nd:¬ ((!t.plain&&decide (es.size>1))=true)):es.size<=1:=by
 rcases Nat.lt_or_ge 1 es.size with z|z
 ·exfalso
  have pt:t.plain=true:=by
   cases e:t.plain with
  |true=>rfl
  |false=>exact absurd (by rw[e,decide_eq_true z];rfl) nd
  have sz:=S.size
  rw[S.pl pt] at sz
  simp only[List.length_nil] at sz
  lia
 ·exact z
theorem q4r(S:SetTx prog w s.heap a o es ep t ks){Q:Array (Int×Value)->Shared->Prop}(h:∀l dr,l.toList.Perm es.toList->Q l { s with drawn:=dr }):wpAny (model prog w) A (setWalk a) Q E s:=by
 unfold setWalk
 refine wpAny_bind (wpAny_setState_of S.ho S.hd S.fits ?_)
 dsimp only
 unfold setsByText
 refine wpAny_bind (wpAny_bind (wpAny_askSetting (wpAny_pure ?_)))
 split
 ·refine wpAny_bind (wpAny_askSetting (wpAny_pure ?_))
  refine h _ s.drawn ?_
  unfold pickOrder
  have:=qhr ((model prog w).w.params.setOrder a ep) es.size 0 es.toList #[] (by simp)
  simpa using this
 ·split
  ·refine wpAny_bind (qg8 _ _ _ _ (by simp) λl dr hp=>wpAny_pure (h _ dr ?_))
   exact hp
  ·rename_i nd
   have few:es.size<=1:=S.few nd
   refine wpAny_bind (show wpAny (model prog w) A (if (!t.led&&decide (es.size>1))=true then _ else Pure.pure ()) _ E s from ?_)
   rw[if_neg (by rw[decide_eq_false (by lia),Bool.and_false];decide)]
   exact wpAny_pure (wpAny_pure (h es s.drawn (List.Perm.refl _)))
end
end PySem
namespace PySem
open SetTable
section
variable {prog:Program} {w:World} {A:Around} {E:Value->Shared->Prop} {s:Shared} {a b d r:Addr}
variable {o oa:Obj} {es ea:Array (Int×Value)} {ep epa:Nat} {t ta:SetTable} {ks ka:List (Str×Tok)} {xs:List (Str×Tok)}
def DictTx(prog:Program)(w:World)(h:Heap)(d:Addr)(xs:List (Str×Tok)):Prop:=∃od ed epd,h.get? d=some od/\od.cls=.type "dict" /\ od.data=.dict ed epd/\ed.toList.map (λe=>(e.hash,e.key))=xs.map (enX prog w)/\(xs.map (·.1)).Nodup
theorem DictTx.typeIs(D:DictTx prog w s.heap d xs):s.TypeIs (.ref d) "dict" := let ⟨od,_,_,h1,h2,_⟩:=D;⟨od,h1,h2⟩
theorem DictTx.keep{h h':Heap}(D:DictTx prog w h d xs)(k:∀o,h.get? d=some o->h'.get? d=some o):DictTx prog w h' d xs:=let ⟨od,ed,epd,h1,r⟩:=D;⟨od,ed,epd,k _ h1,r⟩
theorem q14(id:String)(S:SetTx prog w s.heap a o es ep t [])(D:DictTx prog w s.heap d xs)(nd:(d==sysModules)=false)(hx:xs.length<=800){Q:Unit->Shared->Prop}
  (h:∀h' o' es' ep' t' ks',Heap.SameBut a s.heap h'->SetTx prog w h' a o' es' ep' t' ks'->ks'.Perm xs->t'.led=t.led->5*ks'.length<3*t'.mask->Q () { s with heap:=h' }):wpAny (model prog w) A (Builtin.Frozenset.updateFrom id a (.ref d)) Q E s:=by
 have hT:=D.typeIs
 obtain⟨od,ed,epd,d1,d2,d3,d4,d6⟩:=D
 have esz:ed.size=xs.length:=by
  have:=congrArg List.length d4
  rw[List.length_map,List.length_map] at this
  simpa using this
 have ne:d≠a:=λz=>by
  rw[z,S.ho] at d1
  cases d1
  rw[S.hd] at d3
  cases d3
 have entry:∀i (hi:i<xs.length),∃e,ed[i]?=some e/\e.hash=hX prog w xs[i].1/\e.key=.str xs[i].1 xs[i].2:=λi hi=>by
  have e1:(ed.toList.map λe=>(e.hash,e.key))[i]?=(xs.map (enX prog w))[i]?:=by rw[d4]
  rw[List.getElem?_map,List.getElem?_map,List.getElem?_eq_getElem hi,Array.getElem?_toList] at e1
  obtain⟨e,e2,e3⟩:=Option.map_eq_some_iff.mp e1
  have e4:(e.hash,e.key)=enX prog w xs[i]:=e3
  exact⟨e,e2,congrArg Prod.fst e4,congrArg Prod.snd e4⟩
 unfold Builtin.Frozenset.updateFrom
 refine wpAny_bind (qm6 hT ?_)
 simp only[Bool.false_eq_true,if_false]
 refine wpAny_bind (wpAny_typeOf hT ?_)
 rw[if_pos (by rfl)]
 refine wpAny_bind (wpAny_rule ?_)
 refine wpAny_bind (wpAny_pure ?_)
 rw[nd]
 simp only[Bool.false_eq_true,if_false]
 refine wpAny_bind (wpAny_dictEpoch d1 d3 ?_)
 refine wpAny_bind (wpAny_dictEntries d1 d3 ?_)
 have go:∀(h0:Heap) (o0:Obj) (es0:Array (Int×Value)) (ep0:Nat) (t0:SetTable),Heap.SameBut a s.heap h0->SetTx prog w h0 a o0 es0 ep0 t0 []->t0.led=t.led->0<t0.mask->wpAny (model prog w) A (do
    let ent ←dictEntries d
    for i in [0:ent.size] do
     let some e:=(←dictEntries d)[i]?|unsupported "internal:set-from-dict"
     let _ ←holding [e.key] (setAddHashed a e.key e.hash)
     if (←dictEpoch d) != epd then unsupported s!"{id}:changed-during-callback"
    return ()) Q E { s with heap:=h0 }:=λh0 o0 es0 ep0 t0 sb0 S0 le0 mk0=>by
  have dd0:h0.get? d=some od:=(sb0.2 d ne).trans d1
  refine wpAny_bind (wpAny_dictEntries (s:={ s with heap:=h0 }) dd0 d3 ?_)
  refine wpAny_bind ?_
  rw[Std.Legacy.Range.forIn_eq_forIn_range']
  simp only[Std.Legacy.Range.size,Nat.sub_zero,Nat.add_sub_cancel,Nat.div_one]
  refine wpAny_forIn_list _ (λrest _ s'=>∃i h' o' es' ep' t' ks',rest=List.range' i (ed.size-i)/\i<=ed.size/\s'={ s with heap:=h' }/\Heap.SameBut a s.heap h'/\SetTx prog w h' a o' es' ep' t' ks'/\ks'.Perm (xs.take i)/\t'.led=t.led/\5*ks'.length<3*t'.mask) _ ?_ ?_ _ _ ⟨0,h0,o0,es0,ep0,t0,[],rfl,Nat.zero_le _,rfl,sb0,S0,List.Perm.refl _,le0,by simp;lia⟩
  ·rintro i0 rest r s' ⟨i,h',o',es',ep',t',ks',er,hi,rfl,sb,S',pm,le,lo⟩
   have il:i<ed.size:=by
    rcases Nat.lt_or_ge i ed.size with z|z
    ·exact z
    ·rw[Nat.sub_eq_zero_of_le z] at er;cases er
   rw[show ed.size-i=(ed.size-(i+1))+1 by lia,List.range'_succ] at er
   obtain⟨rfl,er⟩:=List.cons.inj er
   have dd:h'.get? d=some od:=(sb.2 d ne).trans d1
   have xl:i0<xs.length:=by lia
   obtain⟨e,e1,e2,e3⟩:=entry i0 xl
   refine wpAny_bind (wpAny_dictEntries (s:={ s with heap:=h' }) dd d3 ?_)
   rw[e1]
   dsimp only
   rw[e2,e3]
   have kl:=pm.length_eq
   rw[List.length_take] at kl
   have nk0:xs[i0].1∉ks'.map (·.1):=λmk=>by
    obtain⟨p,mp,ep⟩:=List.mem_map.mp mk
    obtain⟨q,hq,eq⟩:=List.mem_iff_getElem.mp (pm.mem_iff.mp mp)
    rw[List.length_take] at hq
    rw[List.getElem_take] at eq
    have N:=List.pairwise_iff_getElem.mp d6
    have:=N q i0 (by rw[List.length_map];lia) (by rw[List.length_map];lia) (by lia)
    rw[List.getElem_map,List.getElem_map,eq] at this
    exact this ep
   refine wpAny_bind (wpAny_holding ?_)
   refine q1s (s:={ s with heap:=h' }) S' lo (by lia) _ _ (λmk=>absurd mk nk0) λ_ h2 o2 es2 ep2 t2 ks2 sb2 S2 pm2 le2 lo2=>?_
   have dd2:h2.get? d=some od:=(sb2.2 d ne).trans dd
   refine wpAny_bind (wpAny_dictEpoch (s:={ s with heap:=h2 }) dd2 d3 ?_)
   rw[if_neg (by simp)]
   refine wpAny_pure ⟨i0+1,h2,o2,es2,ep2,t2,ks2,er,by lia,rfl,sb.trans sb2,S2,?_,le2.trans le,lo2⟩
   rw[List.take_succ,List.getElem?_eq_getElem xl]
   exact pm2.trans (pm.append_right _)
  ·rintro r s' ⟨i,h',o',es',ep',t',ks',er,hi,rfl,sb,S',pm,le,lo⟩
   have:i=xs.length:=by
    have:=congrArg List.length er
    rw[List.length_range',List.length_nil] at this
    lia
   subst this
   rw[List.take_length] at pm
   exact wpAny_pure (h h' o' es' ep' t' ks' sb S' pm le lo)
 refine wpAny_bind (qtl S (by simp only[List.length_nil];lia) (λ_=>?_) λh' o' es' ep' t' ks' sb S' pm le lo=>?_)
 ·have:=go s.heap o es ep t (Heap.SameBut.refl ..) S rfl (by have:=S.tok.big;lia)
  exact this
 ·cases List.Perm.eq_nil pm
  exact go h' o' es' ep' t' sb S' le (by have:=(SetTx.tok (s:={ s with heap:=h' }) S').big;lia)
theorem q0s(S:SetTx prog w s.heap a oa ea epa ta ka)(R:SetTx prog w s.heap r o es ep t ks){Q:Bool->Shared->Prop}(h:Q true s):wpAny (model prog w) A (setsQuiet [a,r]) Q E s:=by
 unfold setsQuiet
 refine wpAny_bind ?_
 refine wpAny_forIn_list _ (λrest q s'=>q.1=none/\s'=s/\∀b∈rest,∃ob eb epb tb kb,SetTx prog w s.heap b ob eb epb tb kb) _ ?_ ?_ _ _ ⟨rfl,rfl,λb mb=>?_⟩
 ·rintro b rest q s' ⟨hq,rfl,hall⟩
  obtain⟨ob,eb,epb,tb,kb,B⟩:=hall b List.mem_cons_self
  refine wpAny_bind (wpAny_setEntries_of B.ho B.hd B.fits ?_)
  refine wpAny_bind ?_
  rw[←Array.forIn_toList,B.es]
  refine wpAny_forIn_list _ (λrest q s1=>q.1=none/\s1=s'/\∀v∈rest,∃p,v=enX prog w p) _ ?_ ?_ _ _ ⟨rfl,rfl,λv mv=>by
   obtain⟨p,_,rfl⟩:=List.mem_map.mp mv
   exact⟨p,rfl⟩⟩
  ·rintro v rest2 q2 s2 ⟨hq2,rfl,hall2⟩
   obtain⟨p,rfl⟩:=hall2 v List.mem_cons_self
   exact wpAny_pure ⟨rfl,rfl,λu mu=>hall2 u (List.mem_cons_of_mem _ mu)⟩
  ·rintro⟨q1,q2⟩ s2 ⟨hq2,rfl,_⟩
   simp only at hq2
   subst hq2
   exact wpAny_pure ⟨rfl,rfl,λu mu=>hall u (List.mem_cons_of_mem _ mu)⟩
 ·rintro⟨q1,q2⟩ s' ⟨hq,rfl,_⟩
  simp only at hq
  subst hq
  exact wpAny_pure h
 ·rcases List.mem_cons.mp mb with e|mb
  ·exact⟨_,_,_,_,_,by rw[e];exact S⟩
  ·rw[List.mem_singleton.mp mb]
   exact⟨_,_,_,_,_,R⟩
theorem q1m(S:SetTx prog w s.heap a oa ea epa ta ka)(R:SetTx prog w s.heap r o es ep t ks)(r0:ks≠[])(hl:t.led=ta.led){Q:Array (Int×Value)->Shared->Prop}(h:∀l dr,l.toList.Perm ea.toList->Q l { s with drawn:=dr }):wpAny (model prog w) A (setWalkUnseen a [r] (some r)) Q E s:=by
 unfold setWalkUnseen
 refine wpAny_bind (wpAny_setState_of S.ho S.hd S.fits ?_)
 dsimp only
 unfold setsByText
 refine wpAny_bind (wpAny_bind (wpAny_askSetting (wpAny_pure ?_)))
 split
 ·exact q4r S h
 ·refine wpAny_bind (q0s S R ?_)
  simp only[Bool.not_true,Bool.false_eq_true,if_false]
  refine wpAny_bind (wpAny_rule ?_)
  refine wpAny_bind (wpAny_setState_of R.ho R.hd R.fits ?_)
  dsimp only
  have pf:t.plain=false:=by
   cases e:t.plain with
  |false=>rfl
  |true=>exact absurd (R.pl e) r0
  rw[hl,pf]
  rw[if_neg (by simp)]
  exact wpAny_pure (h ea s.drawn (List.Perm.refl _))
theorem qzb(hled:t.led=ta.led)(R:SetTx prog w s.heap r o es ep t ks)(r0:ks≠[])(S:SetTx prog w s.heap a oa ea epa ta ka)(ne:a≠r)(hn:ks.length+ka.length<=800){each:Sem Unit}
  (he:∀(s1:Shared) (Q1:Unit->Shared->Prop),SetTx prog w s1.heap a oa ea epa ta ka->Q1 () s1->wpAny (model prog w) A each Q1 E s1) {Q:Unit->Shared->Prop}
  (h:∀h' dr o' es' ep' t' ks',Heap.SameBut r s.heap h'->SetTx prog w h' r o' es' ep' t' ks'->(∀k,k∈ks'.map (·.1)↔k∈ks.map (·.1)\/k∈ka.map (·.1))->(ks'.length<=ks.length+ka.length/\∀p∈ks',p∈ks\/p∈ka)->t'.led=t.led->Q () { s with heap:=h',drawn:=dr }):wpAny (model prog w) A (setMerge r a each) Q E s:=by
 have sz:=S.size
 unfold setMerge
 rw[if_neg (by simpa using Ne.symm ne)]
 refine wpAny_bind (wpAny_setState_of S.ho S.hd S.fits ?_)
 dsimp only
 split
 ·rename_i em
  have em:ea.size=0:=by simpa [Array.isEmpty] using em
  have ke:ka=[]:=List.length_eq_zero_iff.mp (by lia)
  exact wpAny_pure (h s.heap s.drawn o es ep t ks (Heap.SameBut.refl ..) R (λk=>by rw[ke];simp) ⟨by lia,λp m=>.inl m⟩ rfl)
 ·refine wpAny_bind (wpAny_mono (qtl (Q:=λ_ s1=>∃h1 o1 es1 ep1 t1 ks1,s1={ s with heap:=h1 }/\Heap.SameBut r s.heap h1/\SetTx prog w h1 r o1 es1 ep1 t1 ks1/\ks1.Perm ks/\t1.led=t.led/\5*ks.length<3*t1.mask) R (more:=ea.size) (by lia) (λlo1=>⟨s.heap,o,es,ep,t,ks,rfl,Heap.SameBut.refl ..,R,List.Perm.refl _,rfl,by lia⟩) λh1 o1 es1 ep1 t1 ks1 sb R1 pm le lo1=>⟨h1,o1,es1,ep1,t1,ks1,rfl,sb,R1,pm,le,by lia⟩) ?_ λ_ _ z=>z)
  rintro _ s1 ⟨h1,o1,es1,ep1,t1,ks1,rfl,sb,R1,pm,le,lo1⟩
  have S1:SetTx prog w h1 a oa ea epa ta ka:=S.but ne sb
  have T1:=SetTx.tok (s:={ s with heap:=h1 }) R1
  have kl:=pm.length_eq
  have k0:=List.length_pos_iff.mpr r0
  refine wpAny_bind (wpAny_setState_of (s:={ s with heap:=h1 }) R1.ho R1.hd (SetTx.fits (s:={ s with heap:=h1 }) R1) ?_)
  dsimp only
  have fl:t1.fill=ks1.length:=by unfold SetTable.fill;rw[T1.sz,T1.nd];rfl
  unfold SetTable.road
  rw[fl,if_pos (by simp;intro z;rw[z] at kl;simp at kl;lia)]
  dsimp only
  refine wpAny_bind (q1m (s:={ s with heap:=h1 }) S1 R1 (λz=>by rw[z] at kl;simp at kl;lia) (le.trans hled) λl dr lp=>?_)
  refine wpAny_bind ?_
  rw[←Array.forIn_toList]
  refine wpAny_forIn_list _ (λrest _ s'=>∃don h' dr' o' es' ep' t' ks',l.toList=don++rest/\s'={ s with heap:=h',drawn:=dr' }/\Heap.SameBut r s.heap h'/\SetTx prog w h' r o' es' ep' t' ks'/\(∀k,k∈ks'.map (·.1)↔k∈ks.map (·.1)\/∃p∈ka,p.1=k/\enX prog w p∈don)/\(ks'.length<=ks.length+don.length/\∀p∈ks',p∈ks\/p∈ka)/\t'.led=t.led/\5*ks'.length<3*t'.mask) _ ?_ ?_ _ _ ⟨[],h1,dr,o1,es1,ep1,t1,ks1,rfl,rfl,sb,R1,λk=>by rw[(pm.map (·.1)).mem_iff];simp,⟨by simp;lia,λp m=>.inl (pm.mem_iff.mp m)⟩,le,by lia⟩
  ·rintro x rest u s' ⟨don,h',dr',o',es',ep',t',ks',el,rfl,sb',R',iff',⟨len',sub'⟩,le',lo'⟩
   have mx:x∈ea.toList:=lp.mem_iff.mp (by rw[el];simp)
   rw[S.es] at mx
   obtain⟨p,mp,rfl⟩:=List.mem_map.mp mx
   have S':SetTx prog w h' a oa ea epa ta ka:=S.but ne sb'
   have dl:don.length+rest.length+1=ka.length:=by
    have:=lp.length_eq
    rw[el,S.es,List.length_map,List.length_append,List.length_cons] at this
    lia
   have more:∀k,(∃q∈ka,q.1=k/\enX prog w q∈don++[enX prog w p])↔(∃q∈ka,q.1=k/\enX prog w q∈don)\/k=p.1:=λk=>by
    constructor
    ·rintro⟨q,mq,eq,m⟩
     rcases List.mem_append.mp m with m|m
     ·exact .inl ⟨q,mq,eq,m⟩
     ·have:=List.mem_singleton.mp m
      have e2:q.1=p.1:=(Value.str.inj (Prod.mk.inj this).2).1
      exact .inr (by rw[←eq];exact e2)
    ·rintro (⟨q,mq,eq,m⟩|e)
     ·exact⟨q,mq,eq,List.mem_append_left _ m⟩
     ·exact⟨p,mp,e.symm,List.mem_append_right _ (List.mem_singleton.mpr rfl)⟩
   have tail:∀(h2:Heap) (o2:Obj) (es2:Array (Int×Value)) (ep2:Nat) (t2:SetTable) (ks2:List (Str×Tok)),Heap.SameBut r s.heap h2->SetTx prog w h2 r o2 es2 ep2 t2 ks2->(∀k,k∈ks2.map (·.1)↔k∈ks'.map (·.1)\/k=p.1)->(ks2.length<=ks'.length+1/\∀q∈ks2,q∈ks'\/q=p)->t2.led=t.led->5*ks2.length<3*t2.mask->∃don h' dr2 o' es' ep' t' ks',l.toList=don++rest/\({ s with heap:=h2,drawn:=dr' }:Shared)={ s with heap:=h',drawn:=dr2 }/\Heap.SameBut r s.heap h'/\SetTx prog w h' r o' es' ep' t' ks'/\(∀k,k∈ks'.map (·.1)↔k∈ks.map (·.1)\/∃p∈ka,p.1=k/\enX prog w p∈don)/\(ks'.length<=ks.length+don.length/\∀p∈ks',p∈ks\/p∈ka)/\t'.led=t.led/\5*ks'.length<3*t'.mask:=λh2 o2 es2 ep2 t2 ks2 sb2 R2 i2 l2 le2 lo2=>⟨don++[enX prog w p],h2,dr',o2,es2,ep2,t2,ks2,by rw[el];simp,rfl,sb2,R2,λk=>by rw[i2,iff',more,or_assoc],⟨by rw[List.length_append,List.length_singleton];lia,λq m=>(l2.2 q m).elim (sub' q) λe=>.inr (by rw[e];exact mp)⟩,le2,lo2⟩
   refine wpAny_bind (wpAny_holding ?_)
   refine q1s (s:={ s with heap:=h',drawn:=dr' }) R' lo' (by lia) p.1 p.2 (λmk=>?_) λnk h2 o2 es2 ep2 t2 ks2 sb2 R2 pm2 le2 lo2=>?_
   ·refine wpAny_bind (he _ _ S' ?_)
    refine wpAny_bind (wpAny_setState_of (s:={ s with heap:=h',drawn:=dr' }) S'.ho S'.hd (SetTx.fits (s:={ s with heap:=h',drawn:=dr' }) S') ?_)
    rw[if_neg (by simp)]
    exact wpAny_pure (tail h' o' es' ep' t' ks' sb' R' (λk=>⟨.inl,λz=>z.elim id λe=>by rw[e];exact mk⟩) ⟨by lia,λq m=>.inl m⟩ le' lo')
   ·have S2:SetTx prog w h2 a oa ea epa ta ka:=S'.but ne sb2
    refine wpAny_bind (he _ _ S2 ?_)
    refine wpAny_bind (wpAny_setState_of (s:={ s with heap:=h2,drawn:=dr' }) S2.ho S2.hd (SetTx.fits (s:={ s with heap:=h2,drawn:=dr' }) S2) ?_)
    rw[if_neg (by simp)]
    exact wpAny_pure (tail h2 o2 es2 ep2 t2 ks2 (sb'.trans sb2) R2 (λk=>by rw[(pm2.map (·.1)).mem_iff,List.map_append,List.mem_append];simp) ⟨by rw[pm2.length_eq,List.length_append,List.length_singleton];exact Nat.le_refl _,λq m=>by
     rcases List.mem_append.mp (pm2.mem_iff.mp m) with z|z
     ·exact .inl z
     ·exact .inr (List.mem_singleton.mp z)⟩ (le2.trans le') lo2)
  ·rintro u s' ⟨don,h',dr',o',es',ep',t',ks',el,rfl,sb',R',iff',⟨len',sub'⟩,le',lo'⟩
   rw[List.append_nil] at el
   refine wpAny_pure (h h' dr' o' es' ep' t' ks' sb' R' (λk=>?_) ⟨?_,sub'⟩ le')
   ·rw[iff']
    refine or_congr Iff.rfl ⟨λ⟨p,mp,ep,_⟩=>List.mem_map.mpr ⟨p,mp,ep⟩,λm=>?_⟩
    obtain⟨p,mp,ep⟩:=List.mem_map.mp m
    exact⟨p,mp,ep,by rw[←el];exact lp.mem_iff.mpr (by rw[S.es];exact List.mem_map.mpr ⟨p,mp,rfl⟩)⟩
   ·have:=lp.length_eq
    rw[el,S.es,List.length_map] at this
    lia
end
end PySem
namespace PySem
open SetTable
section
variable {prog:Program} {w:World} {A:Around} {E:Value->Shared->Prop} {s:Shared} {a b d r:Addr}
variable {o oa ob:Obj} {es ea eb:Array (Int×Value)} {ep epa epb:Nat} {t ta tb:SetTable} {ks ka kb xs:List (Str×Tok)}
theorem SetTx.push(S:SetTx prog w s.heap a o es ep t ks)(x:Obj):SetTx prog w (s.heap.push x) a o es ep t ks:=S.keep qfq
theorem SetTx.ext{x:Obj}{h':Heap}(S:SetTx prog w s.heap a o es ep t ks)(sb:Heap.SameBut s.heap.objs.size (s.heap.push x) h'):SetTx prog w h' a o es ep t ks:=S.keep λe=>(sb.2 a (fresh_ne e)).trans (qfq e)
theorem qs2{Q:Value->Shared->Prop}(h:SetTx prog w (s.heap.push (newS (qcc prog w))) s.heap.objs.size (newS (qcc prog w)) #[] 0 (.fresh 0 0 (qcc prog w)) []->Q (.ref s.heap.objs.size) { s with heap:=s.heap.push (newS (qcc prog w)) }):wpAny (model prog w) A (newSet (.type "set")) Q E s:=by
 unfold newSet setsByText
 refine wpAny_bind (wpAny_bind (wpAny_askSetting (wpAny_pure ?_)))
 dsimp only
 simp only[newObj]
 refine wpAny_bind (wpAny_alloc (wpAny_pure (h ⟨Heap.get?_push_size _ rfl,⟨rfl,rfl,rfl⟩,rfl,qoe _,λ_=>rfl,rfl,List.nodup_nil⟩)))
theorem quv(S:SetTx prog w s.heap a oa ea epa ta ka)(hn:ka.length<=1900)(lo:5*ka.length<3*ta.mask){Q:Value->Shared->Prop}
  (h:∀h' o' es' ep' t' ks',Heap.SameBut s.heap.objs.size (s.heap.push (newS (qcc prog w))) h'->SetTx prog w h' s.heap.objs.size o' es' ep' t' ks'->SetTx prog w h' a oa ea epa ta ka->ks'.Perm ka->t'.led=(qcc prog w&&ta.led)\/t'.led=qcc prog w->5*ks'.length<3*t'.mask->Q (.ref s.heap.objs.size) { s with heap:=h' }):wpAny (model prog w) A (Builtin.Frozenset.copyOf a) Q E s:=by
 unfold Builtin.Frozenset.copyOf
 refine wpAny_bind (q1w S.typeIs ?_)
 refine wpAny_bind (qs2 λN=>?_)
 refine wpAny_bind (wpAny_pure ?_)
 have S1:=S.push (newS (qcc prog w))
 have ne:=fresh_ne S.ho
 refine wpAny_bind (qw5 (s:={ s with heap:=s.heap.push (newS (qcc prog w)) }) N S1 ne hn lo (λe=>wpAny_pure ?_) λh' o' es' ep' t' ks' sb R pm le lo'=>wpAny_pure ?_)
 ·exact h _ _ _ _ _ [] (Heap.SameBut.refl ..) N S1 (by rw[e]) (.inr rfl) (by show 5*0<3*7;decide)
 ·exact h h' o' es' ep' t' ks' sb R (S1.but ne sb) pm (.inl le) lo'
theorem or_X(Sa:SetTx prog w s.heap a oa ea epa ta ka)(Sb:SetTx prog w s.heap b ob eb epb tb kb)(ab:a≠b)(lo:5*ka.length<3*ta.mask)(lob:5*kb.length<3*tb.mask)(la:ta.led=qcc prog w)(lb:tb.led=qcc prog w)(hn:ka.length+kb.length<=800){Q:Fin->Shared->Prop}
  (h:∀h' dr o' es' ep' t' ks',Heap.SameBut s.heap.objs.size (s.heap.push (newS (qcc prog w))) h'->SetTx prog w h' s.heap.objs.size o' es' ep' t' ks'->(∀k,k∈ks'.map (·.1)↔k∈ka.map (·.1)\/k∈kb.map (·.1))->(ks'.length<=ka.length+kb.length/\∀p∈ks',p∈ka\/p∈kb)->t'.led=qcc prog w->wpAny (model prog w) A (ret (.ref s.heap.objs.size)) Q E { s with heap:=h',drawn:=dr }):wpAny (model prog w) A (Builtin.«frozenset.__or__» ⟨[.ref a,.ref b],[]⟩) Q E s:=by
 refine wpAny_bind (wpAny_bind (wpAny_pure (wpAny_pure ?_)))
 dsimp only
 refine wpAny_bind ?_
 unfold andM
 refine wpAny_bind (qmo Sa.typeIs ?_)
 refine(qmo Sb.typeIs ?_)
 simp only[Bool.not_true,Bool.false_eq_true,if_false]
 refine wpAny_bind (wpAny_pure ?_)
 refine wpAny_bind ?_
 refine wpAny_bind (quv Sa (by lia) lo λh' o' es' ep' t' ks' sb R Sa' pm le lo'=>?_)
 dsimp only
 rw[if_pos (by simpa using Ne.symm ab)]
 refine wpAny_bind (wpAny_pure ?_)
 have Sb':SetTx prog w h' b ob eb epb tb kb:=Sb.ext sb
 have br:b≠s.heap.objs.size:=fresh_ne Sb.ho
 have kl:=pm.length_eq
 have le':t'.led=qcc prog w:=by
  rcases le with z|z
  ·rw[z,la,Bool.and_self]
  ·exact z
 have same:∀(s1:Shared) (Q1:Unit->Shared->Prop) (id:String),SetTx prog w s1.heap b ob eb epb tb kb->Q1 () s1->wpAny (model prog w) A (Builtin.Frozenset.unchanged id b epb) Q1 E s1:=λs1 Q1 id S1 q=>by
  unfold Builtin.Frozenset.unchanged
  refine wpAny_bind (wpAny_setEpoch_of S1.ho S1.hd S1.fits ?_)
  rw[if_neg (by simp)]
  exact wpAny_pure q
 refine wpAny_bind (wpAny_holding ?_)
 unfold Builtin.Frozenset.updateFrom
 refine wpAny_bind (qmo (s:={ s with heap:=h' }) (SetTx.typeIs (s:={ s with heap:=h' }) Sb') ?_)
 simp only[if_true]
 refine wpAny_bind (wpAny_pure ?_)
 unfold Builtin.Frozenset.merge
 refine wpAny_bind (wpAny_setEpoch_of (s:={ s with heap:=h' }) Sb'.ho Sb'.hd (SetTx.fits (s:={ s with heap:=h' }) Sb') ?_)
 by_cases e0:ks'=[]
 ·subst e0
  have ka0:ka=[]:=List.length_eq_zero_iff.mp kl.symm
  refine qw5 (s:={ s with heap:=h' }) R Sb' br (by lia) lob (λz=>wpAny_pure ?_) λh2 o2 es2 ep2 t2 ks2 sb2 R2 pm2 le2 lo2=>wpAny_pure ?_
  ·exact h h' s.drawn o' es' ep' t' [] sb R (λk=>by rw[ka0,z];simp) ⟨by simp,λp m=>(by cases m)⟩ le'
  ·exact h h2 s.drawn o2 es2 ep2 t2 ks2 (sb.trans sb2) R2 (λk=>by rw[(pm2.map (·.1)).mem_iff,ka0];simp) ⟨by rw[pm2.length_eq];lia,λp m=>.inr (pm2.mem_iff.mp m)⟩ (by rw[le2,le',lb,Bool.and_self])
 ·refine qzb (s:={ s with heap:=h' }) (le'.trans lb.symm) R e0 Sb' br (by lia) (λs1 Q1 S1 q=>same s1 Q1 _ S1 q) λh2 dr2 o2 es2 ep2 t2 ks2 sb2 R2 iff2 len2 le2=>wpAny_pure ?_
  exact h h2 dr2 o2 es2 ep2 t2 ks2 (sb.trans sb2) R2 (λk=>by rw[iff2,(pm.map (·.1)).mem_iff]) ⟨by lia,λp m=>(len2.2 p m).imp pm.mem_iff.mp id⟩ (le2.trans le')
theorem q18(S:SetTx prog w s.heap a o es ep t [])(D:DictTx prog w s.heap d xs)(nd:(d==sysModules)=false)(hx:xs.length<=800){Q:Fin->Shared->Prop}
  (h:∀h' o' es' ep' t' ks',Heap.SameBut a s.heap h'->SetTx prog w h' a o' es' ep' t' ks'->ks'.Perm xs->t'.led=t.led->5*ks'.length<3*t'.mask->wpAny (model prog w) A (ret .none) Q E { s with heap:=h' }):wpAny (model prog w) A (Builtin.«set.__init__» ⟨[.ref a,.ref d],[]⟩) Q E s:=by
 have T:=S.tok
 have fl:t.fill=0:=by unfold SetTable.fill;rw[T.sz,T.nd];rfl
 unfold Builtin.«set.__init__»
 refine wpAny_bind (show wpAny (model prog w) A (noKeywords "set" ⟨[.ref a,.ref d],[]⟩) _ E s from wpAny_pure ?_)
 dsimp only
 refine wpAny_bind ?_
 refine qs1 S.typeIs λz=>?_
 refine wpAny_bind (show wpAny (model prog w) A (checkCount z 0 1 1) _ E s from wpAny_pure ?_)
 refine wpAny_bind (wpAny_pure ?_)
 unfold setUsed
 refine wpAny_bind (wpAny_bind (wpAny_setState_of S.ho S.hd S.fits (wpAny_pure ?_)))
 dsimp only
 rw[fl]
 simp only[bne_self_eq_false,Bool.false_eq_true,if_false]
 exact wpAny_bind (q14 "set.__init__" S D nd hx λh' o' es' ep' t' ks' sb S' pm le lo=>h h' o' es' ep' t' ks' sb S' pm le lo)
set_option maxRecDepth 100000 in
set_option maxHeartbeats 3200000 in
theorem qpm(hu:A.units+60<cLine)(D:DictTx prog w s.heap d xs)(nd:(d==sysModules)=false)(hx:xs.length<=800){Q:Value->Shared->Prop}
  (h:∀h' o' es' ep' t' ks',Heap.SameBut s.heap.objs.size (s.heap.push (newS (qcc prog w))) h'->SetTx prog w h' s.heap.objs.size o' es' ep' t' ks'->ks'.Perm xs->t'.led=qcc prog w->5*ks'.length<3*t'.mask->Q (.ref s.heap.objs.size) { s with heap:=h' }):wpAny (model prog w) A (call (.type "set") [.ref d]) Q E s:=by
 obtain⟨c,tl,hmro⟩:=F.called_set.mro
 have hmade:=F.called_set.made
 have hsub:=F.called_set.sub
 refine wpAny_call (codeAny_of_tree ?_)
 show wpAny _ _ (callAny (.type "set") _) _ _ _
 refine wpAny_pure ⟨Code.quiet_builtin _ (by decide +kernel),codeAny_builtin F.entry_type_call ?_⟩
 rw[Around.under_plain (weight_type_call_type "set" [.ref d] []) rfl]
 have h1:=F.called_set.notType
 have h2:=F.called_set.canCreate
 have hct:=F.typeCall_set_1 (.ref d)
 repeat (any_goals (first|assumption|wp_step))
 refine codeAny_mono (qi7 (.ref d) (E:=E) (Q₁:=λobj s₁=>∃led:Bool,led=qcc prog w/\obj=.ref s.heap.objs.size/\s₁={ s with heap:=s.heap.push (newS led) }) ⟨_,rfl,rfl,rfl⟩) λr s₁ hr=>?_
 cases r with
|error e=>exact hr
|ok fl =>
  cases fl with
 |ret obj =>
   obtain⟨led,hled,rfl,rfl⟩:=hr
   have hS:(s.heap.push (newS led)).get? s.heap.objs.size=some (newS led):=Heap.get?_push_size _ rfl
   have hT:Shared.TypeIs { s with heap:=s.heap.push (newS led) } (.ref s.heap.objs.size) "set" := ⟨_,hS,rfl⟩
   have hli:=F.called_set.init.lookup
   have hbi:=F.called_set.init.bind (.ref s.heap.objs.size)
   repeat (any_goals (first|assumption|wp_step))
   refine codeAny_mono (codeAny_call_builtin (R:=wants (λr s₂=>r=.none/\∃h' o' es' ep' t' ks',s₂={ s with heap:=h' }/\Heap.SameBut s.heap.objs.size (s.heap.push (newS led)) h'/\SetTx prog w h' s.heap.objs.size o' es' ep' t' ks'/\ks'.Perm xs/\t'.led=led/\5*ks'.length<3*t'.mask) E) F.called_set.init.plain F.entry_set_init (check_set_init_1 hT ?_)) λr₂ s₂ hr₂=>?_
   ·have N:SetTx prog w (s.heap.push (newS led)) s.heap.objs.size (newS led) #[] 0 (.fresh 0 0 led) []:=⟨hS,⟨rfl,rfl,rfl⟩,rfl,qoe _,λ_=>rfl,rfl,List.nodup_nil⟩
    have D':DictTx prog w (s.heap.push (newS led)) d xs:=D.keep λo e=>qfq e
    exact q18 (s:={ s with heap:=s.heap.push (newS led) }) N D' nd hx λh' o' es' ep' t' ks' sb S' pm le lo=>wpAny_pure ⟨rfl,h',o',es',ep',t',ks',rfl,sb,S',pm,le,lo⟩
   ·cases r₂ with
   |error e=>exact hr₂
   |ok fl₂ =>
     cases fl₂ with
    |ret r =>
      obtain⟨rfl,h',o',es',ep',t',ks',rfl,sb,S',pm,le,lo⟩:=hr₂
      repeat (any_goals (first|assumption|wp_step))
      subst hled
      exact h h' o' es' ep' t' ks' sb S' pm le lo
    |_=>exact hr₂.elim
 |_=>exact hr.elim
theorem qyl(hu:A.units+60<cLine)(Sa:SetTx prog w s.heap a oa ea epa ta ka)(Sb:SetTx prog w s.heap b ob eb epb tb kb)(ab:a≠b)(lo:5*ka.length<3*ta.mask)(lob:5*kb.length<3*tb.mask)(la:ta.led=qcc prog w)(lb:tb.led=qcc prog w)(hn:ka.length+kb.length<=800){Q:Value->Shared->Prop}
  (h:∀h' dr o' es' ep' t' ks',Heap.SameBut s.heap.objs.size (s.heap.push (newS (qcc prog w))) h'->SetTx prog w h' s.heap.objs.size o' es' ep' t' ks'->(∀k,k∈ks'.map (·.1)↔k∈ka.map (·.1)\/k∈kb.map (·.1))->(ks'.length<=ka.length+kb.length/\∀p∈ks',p∈ka\/p∈kb)->t'.led=qcc prog w->Q (.ref s.heap.objs.size) { s with heap:=h',drawn:=dr }):wpAny (model prog w) A (binaryOp .BitOr (.ref a) (.ref b)) Q E s:=by
 refine wpAny_binaryOp_same Sa.typeIs Sb.typeIs fills_set_or F.slot_set_or (wpAny_call_entry F.slot_set_or Sa.typeIs qkx ?_ (F.args_set_or_2 _ _))
 refine or_X Sa Sb ab lo lob la lb hn λh' dr o' es' ep' t' ks' sb S' iff' len' le'=>?_
 exact wpAny_pure ⟨_,rfl,λz=>(by cases z),h h' dr o' es' ep' t' ks' sb S' iff' len' le'⟩
end
end PySem
namespace PySem
section
open SetTable Sem
variable {prog:Program} {w:World} {A:Around} {E:Value->Shared->Prop} {s:Shared} {a b d r:Addr}
variable {o:Obj} {es:Array (Int×Value)} {ep:Nat} {t:SetTable} {ks:List (Str×Tok)}
theorem SetTx.raw(S:SetTx prog w s.heap a o es ep t ks):RawS s.heap a es ep t:=⟨o,S.ho,S.hd,S.fits⟩
theorem q2c(hh:A.handled=none)(S:SetTx prog w s.heap a o es ep t ks)(led:t.led=qcc prog w)(hz:ks.length<=800){Q:Value->Shared->Prop}
  (h:∀(I:Addr) (h':Heap) dr (l:List Value) (fp:List Addr) (St:Nat->Heap->Prop),l.Perm (es.toList.map (·.2))->(∀b o,s.heap.get? b=some o->h'.get? b=some o)->(∀b∈fp,b=a\/s.heap.objs.size<=b)->s.heap.objs.size<=I ->
   Walks prog w A I fp [I] es.size (λi v=>l[i]?=some v) St->St 0 h'->Q (.ref I) { s with heap:=h',drawn:=dr }):wpAny (model prog w) A (pyIter (.ref a)) Q E s:=by
 have hT:=S.typeIs
 have sz:=S.size
 have lt:a<s.heap.objs.size:=Heap.lt_size S.ho
 refine wpAny_pyIter_slot hT F.slot_set_iter (wpAny_call_entry F.slot_set_iter hT qg9 ?_ (F.args_set_iter_1 _))
 unfold Builtin.«frozenset.__iter__»
 refine wpAny_bind (wpAny_bind (wpAny_pure (wpAny_pure ?_)))
 dsimp only
 unfold Builtin.Frozenset.sizeOf setEntries
 refine wpAny_bind (wpAny_bind (wpAny_bind (wpAny_setState_of S.ho S.hd S.fits (wpAny_pure (wpAny_pure ?_)))))
 dsimp only
 unfold setDrawn
 refine wpAny_bind (wpAny_bind (wpAny_setState_of S.ho S.hd S.fits ?_))
 dsimp only
 unfold setsByText
 refine wpAny_bind (wpAny_bind (wpAny_askSetting (wpAny_pure (wpAny_pure ?_))))
 have slow:∀(f:Nat->Nat) (l:List Value),f 0=0->l.Perm (es.toList.map (·.2)) ->
   (∀(i:Nat) (v:Value),l[i]?=some v->∀(s:Shared) (A:Around) (Q:Option (Value×Nat)->Shared->Prop) (E:Value->Shared->Prop),RawS s.heap a es ep t->Q (some (v,f (i+1))) s->wpAny (model prog w) A (setNext a (f i) i ep) Q E s) ->
   (∀(s:Shared) (A:Around) (Q:Option (Value×Nat)->Shared->Prop) (E:Value->Shared->Prop),RawS s.heap a es ep t->Q none s->wpAny (model prog w) A (setNext a (f es.size) es.size ep) Q E s) ->
   Q (.ref s.heap.objs.size) { s with heap:=s.heap.push { cls:=.type "set_iterator",data:=.fields #[rawInt 0,.int 0 0,.ref a,.int es.size 0,.int ep 0] } }:=λf l f0 hp nx nd=>by
  have hl:l.length=es.size:=by rw[hp.length_eq];simp
  refine h s.heap.objs.size _ s.drawn l _ _ hp (λb o e=>Heap.get?_push_of_some _ e) (λb hb=>?_) (Nat.le_refl _) (qqs hh s.heap.objs.size a (Nat.ne_of_lt lt) es ep t f l hl nx nd) ⟨⟨_,Heap.get?_push_size _ rfl,rfl,?_⟩,S.raw.keep λo e=>Heap.get?_push_of_some _ e⟩
  ·rcases List.mem_cons.mp hb with z|z
   ·exact .inr (by rw[z];exact Nat.le_refl _)
   ·exact .inl (List.mem_singleton.mp z)
  ·rw[f0]
   rfl
 cases bt:(model prog w).w.params.followText "set-order" with
|true =>
  simp only[Bool.not_true,Bool.false_and,Bool.false_eq_true,if_false]
  refine wpAny_bind (wpAny_pure ?_)
  unfold setEpoch
  refine wpAny_bind (wpAny_bind (wpAny_setState_of S.ho S.hd S.fits (wpAny_pure ?_)))
  dsimp only
  refine wpAny_bind (wpAny_newObj_type (wpAny_pure ⟨_,rfl,"set_iterator",_,⟨_,Heap.get?_push_size _ rfl,rfl⟩,slot_seti_next.lookup,?_⟩))
  have hp:((pickOrder ((model prog w).w.params.setOrder a ep) es).toList.map (·.2)).Perm (es.toList.map (·.2)):=by
   refine List.Perm.map _ ?_
   unfold pickOrder
   have:=qhr ((model prog w).w.params.setOrder a ep) es.size 0 es.toList #[] (by simp)
   simpa using this
  refine slow (λ_=>0) _ rfl hp (λi v e s A Q E R q=>qle bt R ?_) λs A Q E R q=>qle bt R ?_
  ·rw[e]
   exact q
  ·rw[List.getElem?_eq_none (by rw[hp.length_eq];simp)]
   exact q
|false =>
  have led':t.led=true:=by
   rw[led]
   unfold qcc
   rw[bt]
   rfl
  by_cases dn:(!t.plain&&decide (es.size>1))=true
  ·rw[if_pos (by rw[Bool.not_false,Bool.true_and];exact dn)]
   refine wpAny_bind (qg8 _ _ _ _ (by simp) λps dr hp=>?_)
   have hpl:ps.length=es.size:=by rw[hp.length_eq];simp
   refine wpAny_bind (wpAny_newTuple ?_ (by rw[List.length_map,hpl,sz];exact Nat.le_trans hz (by decide)))
   generalize eh:Heap.push _ _=h1
   have e1:h1.get? s.heap.objs.size=some { cls:=.type "tuple",data:=.seq (qei ps).toArray }:=by
    rw[←eh]
    exact Heap.get?_push_size _ rfl
   have k1:∀b o,s.heap.get? b=some o->h1.get? b=some o:=λb o e=>by
    rw[←eh]
    exact Heap.get?_push_of_some _ e
   have n1:h1.objs.size=s.heap.objs.size+1:=by rw[←eh,PyProof.Rows.size_push']
   unfold setEpoch
   refine wpAny_bind (wpAny_bind (wpAny_setState_of (s:={ s with heap:=h1,drawn:=dr }) (k1 _ _ S.ho) S.hd S.fits (wpAny_pure ?_)))
   dsimp only
   refine wpAny_bind (wpAny_newObj_type (wpAny_pure ⟨_,rfl,"set_iterator",_,⟨_,Heap.get?_push_size _ rfl,rfl⟩,slot_seti_next.lookup,?_⟩))
   have pr:∀j,j∈ps↔j<es.size:=λj=>by rw[hp.mem_iff];simp
   refine h h1.objs.size _ dr (ps.map λj=>(es.toList.map (·.2)).getD j Value.none) _ _ ?_ (λb o e=>Heap.get?_push_of_some _ (k1 b o e)) (λb hb=>?_) (by lia) (qnz hh h1.objs.size a s.heap.objs.size (by lia) (by lia) es ep t ps _ hpl λi j e=>?_) ⟨⟨_,Heap.get?_push_size _ rfl,rfl,rfl⟩,S.raw.keep λo e=>Heap.get?_push_of_some _ (k1 _ o e),⟨_,_,Heap.get?_push_of_some _ e1,rfl⟩⟩
   ·have:=hp.map λj=>(es.toList.map (·.2)).getD j Value.none
    refine this.trans (List.Perm.of_eq ?_)
    apply List.ext_getElem
    ·simp
    ·intro i h1 h2
     have h2':i<es.size:=by simpa using h2
     simp[List.getD_eq_getElem?_getD,h2']
   ·rcases List.mem_cons.mp hb with z|z
    ·exact .inr (by lia)
    rcases List.mem_cons.mp z with z|z
    ·exact .inl z
    ·exact .inr (by rw[List.mem_singleton.mp z];exact Nat.le_refl _)
   ·have lj:j<es.size:=(pr j).mp (List.mem_of_getElem? e)
    refine⟨_,by rw[List.getElem?_map,e];rfl,?_⟩
    simp[List.getD_eq_getElem?_getD,lj]
  ·rw[if_neg (by rw[Bool.not_false,Bool.true_and];exact dn)]
   refine wpAny_bind (wpAny_pure ?_)
   unfold setEpoch
   refine wpAny_bind (wpAny_bind (wpAny_setState_of S.ho S.hd S.fits (wpAny_pure ?_)))
   dsimp only
   refine wpAny_bind (wpAny_newObj_type (wpAny_pure ⟨_,rfl,"set_iterator",_,⟨_,Heap.get?_push_size _ rfl,rfl⟩,slot_seti_next.lookup,?_⟩))
   have few:=S.few dn
   have ps:t.place.size=es.size:=by rw[S.tok.sz,sz]
   refine slow (λi=>if i=0 then 0 else (t.place.getD 0 0)+1) _ rfl (List.Perm.refl _) (λi v e s A Q E R q=>qou bt R dn led' ?_) λs A Q E R q=>qou bt R dn led' ?_
   ·have li:i<es.size:=by
     have:=(List.getElem?_eq_some_iff.mp e).1
     simpa using this
    have i0:i=0:=by lia
    subst i0
    have e1:es.size=1:=by lia
    have p1:t.place.size=1:=by lia
    obtain⟨pl,ep⟩:∃p,t.place=#[p]:=Array.size_eq_one_iff.mp p1
    obtain⟨x,ex⟩:∃x,es=#[x]:=Array.size_eq_one_iff.mp e1
    subst ex
    rw[ep] at q ⊢
    have ev:x.2=v:=by simpa using e
    rw[←ev] at q
    exact q
   ·rcases Nat.eq_zero_or_pos es.size with z|z
    ·have e0:es=#[]:=Array.size_eq_zero_iff.mp z
     have p0:t.place=#[]:=Array.size_eq_zero_iff.mp (by lia)
     subst e0
     rw[p0]
     exact q
    ·have e1:es.size=1:=by lia
     obtain⟨pl,ep⟩:∃p,t.place=#[p]:=Array.size_eq_one_iff.mp (by lia)
     obtain⟨x,ex⟩:∃x,es=#[x]:=Array.size_eq_one_iff.mp e1
     subst ex
     rw[ep]
     have:SetTable.below #[pl] (pl+1)=1:=by
      unfold SetTable.below
      simp[SetTable.below.go]
     show Q (match #[x][SetTable.below #[pl] (pl+1)]?,#[pl][SetTable.below #[pl] (pl+1)]? with
     |some (_,x),some j=>some (x,j+1)
     |  _,_=>none) s
     rw[this]
     exact q
end
section
open SetTable Sem Calls PyProof.Rows PyProof.V PySem.Spec
variable {prog:Program} {w:World} {A:Around} {E:Value->Shared->Prop} {s:Shared} {a b d r:Addr}
variable {o:Obj} {es:Array (Int×Value)} {ep:Nat} {t:SetTable} {ks:List (Str×Tok)}
theorem qu4{R:Result->Shared->Prop}(hh:A.handled=none)(S:SetTx prog w s.heap a o es ep t ks)(led:t.led=qcc prog w)(hz:ks.length<=800)(L:Addr)(hLa:L≠a)(res:Value)(c₀:Nat)(hS:s.heap.get? L=some { cls:=.type "list",data:=.seq #[] c₀ })
  (hR:∀h' tk dr acc' c',(∀b o,b≠L->s.heap.get? b=some o->h'.get? b=some o)->h'.get? L=some { cls:=.type "list",dict:=none,data:=.seq acc' c',slots:=#[] }->acc'.toList.Perm (es.toList.map (·.2))->R (.ok (.ret res)) { s with heap:=h',toks:=tk,drawn:=dr }) :
  wpAny (model prog w) A.in1 (Builtin.List.listExtendWith (.ref L) (.ref a) res)
   (λfin s'=>match fin with|.done f=>R (.ok f) s'|.again c'=>c'.quiet=true/\codeAny (model prog w) A c' R s') (λe s'=>R (.error e) s') s:=by
 have lt:L<s.heap.objs.size:=Heap.lt_size hS
 have sz:=S.size
 unfold Builtin.List.listExtendWith
 refine wpAny_bind (wpAny_typeOf (T:="set") S.typeIs ?_)
 have h1:Builtin.List.listSameRef (.ref L) (.ref a)=false:=by simp[Builtin.List.listSameRef,hLa]
 have h2:(Value.type "set"==Value.type "list")=false:=by decide
 have h3:(Value.type "set"==Value.type "tuple")=false:=by decide
 simp only[h1,h2,h3,Bool.or_false,Bool.false_eq_true,if_false]
 refine wpAny_bind (q2c (A:=A.in1) hh S led hz λI h' dr l fp St hp k fpa hI W st=>?_)
 have hl:l.length=es.size:=by rw[hp.length_eq];simp
 have hSf:L∉fp:=λz=>by
  rcases fpa L z with y|y
  ·exact hLa y
  ·lia
 have key:∀(h:Heap) (c₁ tk:Nat),St 0 h->(∀b o,b≠L->s.heap.get? b=some o->h.get? b=some o) ->
   h.get? L=some { cls:=.type "list",data:=.seq #[] c₁ }->codeAny (model prog w) A (.builtin "list.extend.loop" ⟨[.ref L,.ref I,res],[]⟩) R { s with heap:=h,toks:=tk,drawn:=dr }:=by
  intro h c₁ tk hst hk hS₁
  refine codeAny_extend_loopS W.toS (by rw[sz];exact Nat.le_trans hz (by decide)) L hSf res es.size 0 _ #[] c₁ rfl (Nat.zero_le _) hst hS₁ (ItemsOf.nil _) λs' acc' c' hm hS' hacc=>?_
  rw[Moved.eq_with hm]
  refine hR s'.heap s'.toks dr acc' c' (λb o hb e=>hm.heap b o (λhmem=>?_) (hk b o hb e)) hS' (by rw[qpw hacc hl];exact hp)
  rcases List.mem_cons.mp hmem with e'|hmem
  ·exact hb e'
  ·have:=Heap.lt_size e
   rw[List.mem_singleton.mp hmem] at this
   lia
 have hS₁:=k _ _ hS
 have hT1:Shared.TypeIs { s with heap:=h',drawn:=dr } (.ref a) "set" := by
  obtain⟨o1,q1,q2⟩:=S.typeIs
  exact⟨o1,k _ _ q1,q2⟩
 refine wpAny_bind (wpAny_holding (qu8 (s:={ s with heap:=h',drawn:=dr }) hT1 ?_))
 refine wpAny_ite_split (λ_=>?_) (λ_=>wpAny_pure ⟨plainId_quiet PySem.F.plain_extend_loop _,key _ c₀ _ st (λb o _ e=>k _ _ e) hS₁⟩)
 refine wpAny_bind (wpAny_rule ?_)
 refine wpAny_bind ?_
 show wpAny _ _ (updateSeq L (·.push .none) >>= λ_=>updateSeq L (·.pop)) _ _ _
 refine wpAny_bind (wpAny_updateSeq (s:={ s with heap:=h',drawn:=dr }) hS₁ rfl ?_)
 have hS₂:=Heap.get?_update_self (Obj.mapSeq (·.push Value.none)) hS₁ rfl
 refine wpAny_updateSeq (hz:=by seq_fits) hS₂ rfl ?_
 have hS₃:=Heap.get?_update_self (Obj.mapSeq (·.pop)) hS₂ rfl
 refine wpAny_pure ⟨plainId_quiet PySem.F.plain_extend_loop _,key _ _ _ ?_ (λb o hb e=>?_) hS₃⟩
 ·refine W.frame 0 _ _ st λb hb o e=>?_
  have hbS:b≠L:=λh=>hSf (h▸hb)
  exact(Heap.get?_update_other _ _ (Ne.symm hbS)).trans ((Heap.get?_update_other _ _ (Ne.symm hbS)).trans e)
 ·exact(Heap.get?_update_other _ _ (Ne.symm hb)).trans ((Heap.get?_update_other _ _ (Ne.symm hb)).trans (k _ _ e))
theorem qrf{R:List Value->Shared->Prop}(hh:A.handled=none)(S:SetTx prog w s.heap a o es ep t ks)(led:t.led=qcc prog w)(hz:ks.length<=800)
  (h:∀(h':Heap) (tk:Nat) dr (acc:Array Value),(∀b o,s.heap.get? b=some o->h'.get? b=some o)->acc.toList.Perm (es.toList.map (·.2))->R acc.toList { s with heap:=h',toks:=tk,drawn:=dr }) :
  wpAny (model prog w) A (collect (.ref a)) R E s:=by
 have lt:a<s.heap.objs.size:=Heap.lt_size S.ho
 unfold collect
 refine wpAny_bind (wpAny_runValue (codeAny_builtin entry_proto_collect' ?_))
 rw[Around.under_plainId PySem.F.plain_proto_collect _]
 show wpAny _ A.in1 (newList [] >>= λl=>again (.builtin "list.__iadd__" ⟨[l,.ref a],[]⟩)) _ _ s
 refine wpAny_bind (wpAny_newObj_type ?_)
 refine wpAny_pure ⟨plainId_quiet PySem.F.plain_list_iadd _,codeAny_builtin entry_list_iadd' ?_⟩
 rw[Around.under_plainId PySem.F.plain_list_iadd _]
 have hS₁:(s.heap.push { cls:=.type "list",data:=.seq ([]:List Value).toArray }).get? s.heap.objs.size=some { cls:=.type "list",data:=.seq #[] }:=Heap.get?_push_size _ rfl
 show wpAny _ A.in1 (Builtin.List.listExtendWith (.ref s.heap.objs.size) (.ref a) (.ref s.heap.objs.size)) _ _ _
 have key:=qu4 (A:=A) (s:={ s with heap:=s.heap.push { cls:=.type "list",data:=.seq ([]:List Value).toArray } })
  (R:=λ(q:Result) (s':Shared)=>∃(h':Heap) (tk:Nat) (dr:_) (acc':Array Value) (c':Nat),q=.ok (.ret (.ref s.heap.objs.size))/\s'={ s with heap:=h',toks:=tk,drawn:=dr } /\
   (∀b o,s.heap.get? b=some o->h'.get? b=some o)/\h'.get? s.heap.objs.size=some { cls:=.type "list",dict:=none,data:=.seq acc' c',slots:=#[] }/\acc'.toList.Perm (es.toList.map (·.2)))
  hh (S.push _) led hz s.heap.objs.size (Nat.ne_of_gt lt) (.ref s.heap.objs.size) 0 hS₁
  (λh' tk dr acc' c' hk hS' hacc=>⟨h',tk,dr,acc',c',rfl,rfl,λb o e=>hk b o (Nat.ne_of_lt (Heap.lt_size e)) (Heap.get?_push_of_some _ e),hS',hacc⟩)
 refine wpAny_mono key (λfin s' x=>?_) λe s' x=>?_
 ·cases fin with
 |done f =>
   obtain⟨h',tk,dr,acc',c',e,rfl,hk,hS',hacc⟩:=x
   cases e
   show wpAny _ A (load s.heap.objs.size >>= _) _ _ _
   refine wpAny_bind (wpAny_load hS' ?_)
   exact wpAny_pure (h h' tk dr acc' hk hacc)
 |again c₁ =>
   refine⟨x.1,codeAny_mono x.2 λq s₂ y=>?_⟩
   obtain⟨h',tk,dr,acc',c',rfl,rfl,hk,hS',hacc⟩:=y
   show wpAny _ A (load s.heap.objs.size >>= _) _ _ _
   refine wpAny_bind (wpAny_load hS' ?_)
   exact wpAny_pure (h h' tk dr acc' hk hacc)
 ·obtain⟨_,_,_,_,_,e',_⟩:=x
  cases e'
end
end PySem
namespace L2
open PySem PySem.Spec PyProof.Rows
def kMax:Nat:=60
theorem qkv{P:Program}{w:World}:∀ {es:List DictEntry} {kvs:List (Key×Value)} {ks:List Str},Pairs (qbb P w) es kvs->(∀e∈es,∃k,(qbb P w).is k e.key=true/\e.hash=(qbb P w).hash k)->kvs.map (·.1)=ks.map Sum.inr->∃xs:List (Str×Tok),xs.map (·.1)=ks/\es.map (λe=>(e.hash,e.key))=xs.map (enX P w)
|_,_,[],.nil,_,_=>⟨[],rfl,rfl⟩
|_,_,k::ks,.nil,_,e=>by cases e
|_,_,[],.cons ..,_,e=>by cases e
|e::es,kv::kvs,k::ks,.cons h1 h2 h3,hk,he=>by
  rw[List.map_cons,List.map_cons] at he
  obtain⟨e1,e2⟩:=List.cons.inj he
  obtain⟨xs,x1,x2⟩:=qkv h3 (λy my=>hk y (List.mem_cons_of_mem _ my)) e2
  rw[e1] at h1
  obtain⟨k',g1,g2⟩:=hk e List.mem_cons_self
  have ek:=(qbb P w).inj _ _ _ g1 h1
  rcases qbi (k:=Sum.inr k) h1 with ⟨i,t,z,_⟩|⟨x,t,z,ev⟩
  ·cases z
  ·cases z
   refine⟨(k,t)::xs,by rw[List.map_cons,x1],?_⟩
   rw[List.map_cons,List.map_cons,x2,g2,ek,ev]
   rfl
theorem qrn{P:Program}{w:World}{h:Heap}{a:Addr}{vs:List (Key×Value)}{ks:List Str}(D:h.DictOf (qbb P w) a vs)(hk:vs.map (·.1)=ks.map Sum.inr):∃xs:List (Str×Tok),xs.map (·.1)=ks/\DictTx P w h a xs:=by
 obtain⟨o,es,ep,d1,d2,d3,d4,d5,d6⟩:=D
 obtain⟨xs,x1,x2⟩:=qkv d5 (λe me=>d4 e (by simpa using me)) hk
 refine⟨xs,x1,o,es,ep,d1,d2.1,d3,x2,?_⟩
 rw[x1]
 rw[hk] at d6
 rw[List.nodup_iff_pairwise_ne,List.pairwise_map] at d6
 rw[List.nodup_iff_pairwise_ne]
 exact d6.imp λz e=>z (by rw[e])
section
variable {X:Cx} {pins:List (Addr×Obj)} {σ:St} {H:Hp} {s:Shared} {E:Value->Shared->Prop} {a b:Addr} {kvs lvs:List (Key×V)} {ks ls:List Str}
theorem qru{i:Nat}{x:Str}{p p2 pos:Pos}(I:Inv X pins σ H s)(hu:X.A.units+60<cLine)(hg:Gl X "set")(hm:X.mg "set" = none)(hb:bootBuiltins "set" = some (.type "set"))(ei:σ[i]?=some (some (.ref a)))(hN:X.N[i]?=some x)(hv:Vis X.env.scope x)
  (hd:(x==("__debug__" : Str))=false) (hcd:(x==("__classdict__" : Str))=false) (e:Rd H a (.dK kvs)) (hk:kvs.map (·.1)=ks.map Sum.inr) (hl:ks.length<=800) {Q:Value->Shared->Prop}
  (h:∀h' o' es' ep' t' kk,(∀b o,s.heap.get? b=some o->h'.get? b=some o)->SetTx X.prog X.w h' s.heap.objs.size o' es' ep' t' kk->(kk.map (·.1)).Perm ks->t'.led=qcc X.prog X.w->5*kk.length<3*t'.mask->Q (.ref s.heap.objs.size) { s with heap:=h' }):wpAny (model X.prog X.w) X.A (eval (.Call (.Name "set" p) [.Name x p2] [] pos) X.env) Q E s:=by
 refine wpAny_Call_Name_kw (qio I hg hm hb ?_)
 refine PyProof.Rows.callWith_type1 (qx0 rfl (q2k I ei (λu r=>?_) hN hv hd hcd)) (qbx rfl) rfl
 cases r
 obtain⟨z,no,vs,kv,D⟩:=qjb I.hok e
 obtain⟨xs,x1,DX⟩:=qrn D (by rw[←kv.keys];exact hk)
 have xl:xs.length=ks.length:=by rw[←x1,List.length_map]
 exact qpm hu DX no (by lia) λh' o' es' ep' t' kk sb S pm le lo=>h h' o' es' ep' t' kk (λb o eb=>(sb.2 b (fresh_ne eb)).trans (qfq eb)) S (by rw[←x1];exact pm.map _) le lo
theorem qwn(I:Inv X pins σ H s)(hu:X.A.units+60<cLine)(hh:X.A.handled=none){o:Obj}{es:Array (Int×Value)}{ep:Nat}{t:SetTable}{kk:List (Str×Tok)}(S:SetTx X.prog X.w s.heap a o es ep t kk)(led:t.led=qcc X.prog X.w)(hz:kk.length<=kMax){Q:VK}
  (h:∀(l:Addr) (ws:List Str),H l=none->(∀w,w∈ws↔w∈kk.map (·.1))->ws.Pairwise (λv w=>ltS v w=true)->Q (.ref l) (upd H l (.lst (ws.map V.str)))) :
  wpAny (model X.prog X.w) X.A (call (.builtin "sorted") [.ref a]) (EP X pins σ Q) E s:=by
 have un:X.A.in1.units=X.A.units+1:=rfl
 have un2:X.A.in1.in1.units=X.A.units+2:=rfl
 refine Calls.call_function_entry kind_sorted plain_sorted entry_sorted (args_sorted1 _) ?_
 unfold Builtin.«sorted»
 refine wpAny_bind (m:=checkCount "sorted" 1 1 _) (wpAny_pure ?_)
 refine wpAny_bind (qrf (A:=X.A.in1) hh S led (Nat.le_trans hz (by decide)) λh1 tk dr acc k1 ap=>?_)
 rw[S.es,List.map_map] at ap
 obtain⟨kp,pk,ea⟩:=qvy (λp:Str×Tok=>Value.str p.1 p.2) ap kk (by rfl)
 have lz:acc.toList.length<=sizeLine:=by
  rw[ea,List.length_map,pk.length_eq]
  exact Nat.le_trans hz (by decide)
 obtain⟨ws,ew⟩:∃ws,ws=kp.map (·.1):=⟨_,rfl⟩
 have lw:kp.length=ws.length:=by rw[ew,List.length_map]
 have ndw:ws.Nodup:=by rw[ew];exact((pk.map (·.1)).nodup_iff).mpr S.nd
 have rp:Reps X.K H (ws.map D.str) (ws.map V.str):=qht ws
 have I1:Inv X pins σ H { s with heap:=h1,toks:=tk,drawn:=dr }:=(I.kept (t':=tk) k1).drawn dr
 have v:Vals (ws.map V.str) acc.toList:=by
  rw[ea,ew]
  clear ea ew lw pk rp ndw
  induction kp with
 |nil=>exact .nil
 |cons p kp ih=>exact .cons ⟨_,rfl⟩ ih
 have la:acc.toList.length=ws.length:=by rw[ea,List.length_map,lw]
 refine wpAny_bind (wpAny_newList ?_ lz)
 generalize e2:Heap.push _ _=h2
 have hD:h2.get? h1.objs.size=some (seqObj "list" acc.toList.toArray 0):=by rw[←e2];exact Heap.get?_push_size _ rfl
 have k2:∀b o,h1.get? b=some o->h2.get? b=some o:=λb o q=>by rw[←e2];exact Heap.get?_push_of_some _ q
 show wpAny (model X.prog X.w) X.A.in1 (do let _ ←holding [Value.ref h1.objs.size] (call (.builtin "list.sort") [.ref h1.objs.size]);ret (.ref h1.objs.size)) _ E { s with heap:=h2,toks:=tk,drawn:=dr }
 refine wpAny_bind (wpAny_holding (wpAny_call_entry (s:={ s with heap:=h2,toks:=tk,drawn:=dr }) slot_list_sort ⟨_,hD,rfl⟩ entry_list_sort ?_ (args_list_sort _)))
 refine qsu (s:={ s with heap:=h2,toks:=tk,drawn:=dr }) (H:=H) (σ:=σ) (pins:=pins) (X:=X) (ds:=ws.map D.str) hD (λh' kp=>?_) rp v (qqg ndw) (by have:=pk.length_eq;have hz:kk.length<=60:=hz;lia) (by lia) λq h' m hqp hqs kp' he=>⟨_,rfl,?_⟩
 ·exact I1.kept (t':=tk) λb o e=>kp b o (Nat.ne_of_lt (Heap.lt_size e)) (k2 b o e)
 ·have hql:q.length=ws.length:=by
   have:=hqp.length_eq
   simpa using this
  have hqm:∀i∈q,i<ws.length:=λi hi=>by simpa using hqp.mem_iff.mp hi
  have e1:(q.map λi=>(ws.map V.str).getD i .non)=(q.map λi=>ws.getD i "").map V.str:=by
   rw[List.map_map]
   refine List.map_congr_left λi hi=>?_
   have:=hqm i hi
   simp[List.getD_eq_getElem?_getD,this]
  have hr:((List.range ws.length).map λi=>ws.getD i "")=ws:=by
   apply List.ext_getElem
   ·simp
   ·intro i h1 h2
    simp[List.getD_eq_getElem?_getD,h2]
  have hw:(q.map λi=>ws.getD i "").Perm ws:=by
   have:=hqp.map λi=>ws.getD i ""
   rw[List.length_map,hr] at this
   exact this
  refine wpAny_pure ⟨_,rfl,.ref h1.objs.size,upd H h1.objs.size (.lst ((q.map λi=>ws.getD i "").map V.str)),?_,rfl,h _ (q.map λi=>ws.getD i "") (I1.hok.fresh (Nat.le_refl _)) (λw=>?_) ?_⟩
  ·have I3:Inv X pins σ (upd H h1.objs.size (.lst ((q.map λi=>ws.getD i "").map V.str))) { s with heap:=h',toks:=tk,drawn:=dr }:=by
    refine Inv.laid (t':=tk) I1 (λb o e=>kp' b o (Nat.ne_of_lt (Heap.lt_size e)) (k2 b o e)) (Nat.le_refl _) ⟨?_,_,m,?_,he⟩
    ·rw[List.length_map,List.length_map,hql,←la]
     exact lz
    ·rw[←e1]
     exact v.pick q λi hi=>by rw[List.length_map];exact hqm i hi
   exact I3
  ·rw[hw.mem_iff,ew,(pk.map (·.1)).mem_iff]
  ·have st:(q.map λi=>(ws.map D.str).getD i .non)=(q.map λi=>ws.getD i "").map D.str:=by
    rw[List.map_map]
    refine List.map_congr_left λi hi=>?_
    have:=hqm i hi
    simp[List.getD_eq_getElem?_getD,this]
   have ss:((q.map λi=>ws.getD i "").map D.str).Pairwise (λa b=>ltD a b=true):=by
    rw[←st,List.pairwise_map]
    exact hqs
   rw[List.pairwise_map] at ss
   exact ss.imp λz=>by rw[qeh] at z;exact z
end
end L2
namespace L2
open PySem PySem.Spec PyProof.Rows
def q39(i j:Nat):TE:=λσ H Q=>∃x y kvs lvs,∃ks ls:List Str,σ[i]?=some (some (.ref x))/\σ[j]?=some (some (.ref y))/\Rd H x (.dK kvs)/\Rd H y (.dK lvs)/\kvs.map (·.1)=ks.map Sum.inr/\lvs.map (·.1)=ls.map Sum.inr/\ks.length+ls.length<=700/\(∃us:List Str,us.length<=kMax/\∀w,w∈ks\/w∈ls->w∈us) /\
 ∀(l:Addr) (ws:List Str),H l=none->(∀w,w∈ws↔w∈ks\/w∈ls)->ws.Pairwise (λv w=>ltS v w=true)->Q (.ref l) (upd H l (.lst (ws.map V.str)))
section
variable {X:Cx} {EX:St->XK} {x y:Str} {i j:Nat} {p1 p2 p3 p4 p5 p6 p7 p8 p9:Pos}
theorem qvw(hu64:X.A.units+64<cLine)(hh:X.A.handled=none)(hg:Gl X "sorted")(hm:X.mg "sorted" = none)(hb:bootBuiltins "sorted" = some (.builtin "sorted"))(hgS:Gl X "set")(hmS:X.mg "set" = none)(hbS:bootBuiltins "set" = some (.type "set"))
  (hN:X.N[i]?=some x) (hv:Vis X.env.scope x) (hN2:X.N[j]?=some y) (hv2:Vis X.env.scope y) (hd:(x==("__debug__" : Str))=false) (hcd:(x==("__classdict__" : Str))=false) (hd2:(y==("__debug__" : Str))=false) (hcd2:(y==("__classdict__" : Str))=false) :
  PE X (.Call (.Name "sorted" p1) [.BinOp (.Call (.Name "set" p2) [.Name x p3] [] p4) .BitOr (.Call (.Name "set" p5) [.Name y p6] [] p7) p8] [] p9) (q39 i j):=by
 intro pins s σ H Q I h
 have hu:X.A.units+60<cLine:=by lia
 obtain⟨ax,ay,kvs,lvs,ks,ls,ei,ej,dx,dy,hk,hl,few,⟨us,usl,usm⟩,hq⟩:=h
 refine wpAny_Call_Name_kw (qio I hg hm hb ?_)
 refine PyProof.Rows.callWith_builtin1 (qx0 rfl ?_) (qbx rfl) rfl
 refine wpAny_BinOp (qru I hu hgS hmS hbS ei hN hv hd hcd dx hk (by lia) λh1 o1 es1 ep1 t1 kk1 k1 S1 pm1 led1 lo1=>?_)
 have I1:Inv X pins σ H { s with heap:=h1 }:=I.kept (t':=s.toks) k1
 refine qru I1 hu hgS hmS hbS ej hN2 hv2 hd2 hcd2 dy hl (by lia) λh2 o2 es2 ep2 t2 kk2 k2 S2 pm2 led2 lo2=>?_
 have I2:Inv X pins σ H { s with heap:=h2 }:=I1.kept (t':=s.toks) k2
 have l1:kk1.length=ks.length:=by rw[←pm1.length_eq,List.length_map]
 have l2:kk2.length=ls.length:=by rw[←pm2.length_eq,List.length_map]
 have ne:s.heap.objs.size≠h1.objs.size:=Nat.ne_of_lt (Heap.lt_size S1.ho)
 refine qyl (s:={ s with heap:=h2 }) hu (S1.keep (k2 _ _)) S2 ne lo1 lo2 led1 led2 (by lia) λh3 dr o3 es3 ep3 t3 kk3 sb S3 iff3 ⟨len3,sub3⟩ led3=>?_
 have k3:∀b o,h2.get? b=some o->h3.get? b=some o:=λb o e=>(sb.2 b (fresh_ne e)).trans (qfq e)
 have I3:Inv X pins σ H { s with heap:=h3,drawn:=dr }:=(I2.kept (t':=s.toks) k3).drawn dr
 have kl3:kk3.length<=kMax:=by
  have:=List.Nodup.length_le_of_subset S3.nd (l₂:=us) λw mw=>usm w (by rw[←pm1.mem_iff,←pm2.mem_iff];exact(iff3 w).mp mw)
  rw[List.length_map] at this
  exact Nat.le_trans this usl
 refine qwn I3 hu hh S3 led3 kl3 λl ws hl' iff' st=>hq l ws hl' (λw=>?_) st
 rw[iff',iff3,pm1.mem_iff,pm2.mem_iff]
def qly(i j:Nat):TV:=λτ Q=>match τ[i]?,τ[j]? with
|some (some (.val (.dK ks _))),some (some (.val (.dK ls _)))=>(ks.length+ls.length<=700/\∃us:List Str,us.length<=kMax/\∀w,w∈ks\/w∈ls->w∈us)/\∀ws:List Str,(∀w,w∈ws↔w∈ks\/w∈ls)->ws.Pairwise (λv w=>ltS v w=true)->Q (.own (.lst (ws.map D.str)))
|_,_=>False
theorem qwx(hu64:X.A.units+64<cLine)(hh:X.A.handled=none)(hg:Gl X "sorted")(hm:X.mg "sorted" = none)(hgS:Gl X "set")(hmS:X.mg "set" = none)
  (hN:X.N[i]?=some x:=by rfl) (hN2:X.N[j]?=some y:=by rfl) (hv:Vis X.env.scope x:=by first|exact Or.inl rfl|exact Or.inr (Or.inl rfl)|exact Or.inr (Or.inr rfl)) (hv2:Vis X.env.scope y:=by first|exact Or.inl rfl|exact Or.inr (Or.inl rfl)|exact Or.inr (Or.inr rfl))
  (hb:bootBuiltins "sorted" = some (.builtin "sorted"):=by exact PyProof.Rows.Boot.«sorted») (hbS:bootBuiltins "set" = some (.type "set"):=by exact PyProof.Rows.Boot.«set»)
  (hd:(x==("__debug__" : Str))=false:=by decide) (hcd:(x==("__classdict__" : Str))=false:=by decide) (hd2:(y==("__debug__" : Str))=false:=by decide) (hcd2:(y==("__classdict__" : Str))=false:=by decide) :
  VE X EX (.Call (.Name "sorted" p1) [.BinOp (.Call (.Name "set" p2) [.Name x p3] [] p4) .BitOr (.Call (.Name "set" p5) [.Name y p6] [] p7) p8] [] p9) (qly i j):=by
 refine⟨_,⟨qvw hu64 hh hg hm hb hgS hmS hbS hN hv hN2 hv2 hd hcd hd2 hcd2⟩,λH0 B H τ σ Q Qd s S h _ k=>?_⟩
 unfold qly at h
 split at h
 ·rename_i ks ds ls es e1 e2
  obtain⟨⟨few,us⟩,h⟩:=h
  obtain⟨v1,f1,r1⟩:=S.val i _ e1
  obtain⟨v2,f2,r2⟩:=S.val j _ e2
  have q1:Pk X.K B H (.val (.dK ks ds)) v1:=r1
  have q2:Pk X.K B H (.val (.dK ls es)) v2:=r2
  obtain⟨a1,kvs,rfl,d1,k1,_⟩:=q1.dK s rfl
  obtain⟨a2,lvs,rfl,d2,k2,_⟩:=q2.dK s rfl
  refine⟨a1,a2,kvs,lvs,ks,ls,f1,f2,.inl d1,.inl d2,k1,k2,few,us,λl ws hl iff' st=>?_⟩
  refine k (.own (.lst (ws.map D.str))) _ _ _ (.grow s (qan hl (.lst (ws.map V.str)))) ⟨l,rfl,hl,s.free hl,qbr (qht ws)⟩ (h ws iff' st)
 ·exact h.elim
end
end L2
namespace PySem
section
variable {prog:Program} {w:World} {K:Type} [DecidableEq K] {knd:KeyKind prog w K} {A:Around} {E:Value->Shared->Prop} {s:Shared}
theorem quo{d:Addr}{xs:List (K×Value)}{k:K}{key v:Value}{Q:Value->Shared->Prop}(hkey:knd.is k key=true)(hm:s.heap.DictOf knd d xs)
  (h1:∀u,valueAt xs k=some u->Q u { s with toks:=s.toks+1 })
  (h2:valueAt xs k=none->∀h',h'.DictOf knd d (xs++[(k,v)])->Heap.SameBut d s.heap h'->Q v { s with heap:=h',toks:=s.toks+1 })
  (hsz:xs.length<=sizeLine):wpAny (model prog w) A (dictSetDefault d key v) Q E s:=by
 have hm0:=hm
 obtain⟨o,es,ep,ho,hc,hd,hk,hp,hn⟩:=hm
 have hl:es.size=xs.length:=by
  have:∀ {es:List DictEntry} {xs:List (K×Value)},Pairs knd es xs->es.length=xs.length:=λh=>by
   induction h with
  |nil=>rfl
  |cons _ _ _ ih=>rw[List.length_cons,List.length_cons,ih]
  rw[←this hp,Array.length_toList]
 unfold dictSetDefault
 try with_reducible refine wpAny_holding ?_
 refine wpAny_bind (knd.pyHash hkey ?_)
 refine wpAny_bind (wpAny_dictFind_of (s:={ s with toks:=s.toks+1 }) hkey ho hd hk ?_)
 cases hi:es.findIdx? λe=>knd.is k e.key with
|some i =>
  have hi':(es.toList.findIdx? λe=>knd.is k e.key)=some i:=by rw[←hi];obtain⟨l⟩:=es;simp
  obtain⟨e,e1,e2,e3⟩:=hp.at hi'
  refine wpAny_bind (wpAny_dictEntries (s:={ s with toks:=s.toks+1 }) ho hd ?_)
  rw[←Array.getElem?_toList,e1]
  exact wpAny_bind (wpAny_rule (wpAny_pure (h1 e.val e3)))
|none =>
  have hi':(es.toList.findIdx? λe=>knd.is k e.key)=none:=by rw[←hi];obtain⟨l⟩:=es;simp
  have hv:valueAt xs k=none:=by
   rw[←hp.find k]
   have:(es.toList.find? λe=>knd.is k e.key)=none:=by
    rw[List.find?_eq_none]
    intro e me
    have:=List.findIdx?_eq_none_iff.mp hi' e me
    simpa using this
   rw[this]
   rfl
  have hnk:k∉xs.map (·.1):=λm=>by
   obtain⟨kv,mk,e⟩:=List.mem_map.mp m
   unfold valueAt at hv
   rw[Option.map_eq_none_iff,List.find?_eq_none] at hv
   exact hv kv mk (decide_eq_true e)
  refine wpAny_bind (wpAny_rule (wpAny_bind (wpAny_updateDictKeys (hz:=by lia) (s:={ s with toks:=s.toks+1 }) ho hd (wpAny_pure (h2 hv _ ⟨_,_,ep+1,Heap.get?_update_self _ ho (Obj.isFreed_of_dict (Obj.data_mapDictKeys hd _)),
   hc.mapDictKeys _,Obj.data_mapDictKeys hd _,hk.push hkey _,?_,?_⟩ (Heap.SameBut.update ..))))))
  ·rw[Array.toList_push]
   exact hp.append hkey _ _
  ·rw[List.map_append]
   exact List.nodup_append.mpr ⟨hn,by simp,λx mx y my e=>hnk (by rw[←(show y=k from List.mem_singleton.mp my),←e];exact mx)⟩
theorem qsy(d:Addr)(key:Value)(hd:(d==sysModules)=false)(dflt:Value) :
  MeetsIn prog w (Builtin.«dict.setdefault» ⟨[.ref d,key,dflt],[]⟩) (λ_ R s=>∃k xs,knd.is k key=true/\s.heap.DictOf knd d xs/\xs.length<=sizeLine /\
   (∀u,valueAt xs k=some u->R (.ok (.ret u)) { s with toks:=s.toks+1 }) /\
   (valueAt xs k=none->∀h',h'.DictOf knd d (xs++[(k,dflt)])->Heap.SameBut d s.heap h'->R (.ok (.ret dflt)) { s with heap:=h',toks:=s.toks+1 })) :=
 .of_wp λA R s ⟨k,xs,hkey,hm,hz,h1,h2⟩=>by
  unfold Builtin.«dict.setdefault»
  refine wpAny_bind ?_
  unfold Builtin.Dict.keyAndDefault
  refine wpAny_bind (wpAny_notOrdered_dict hm.typeIs ?_)
  show wpAny _ _ (pure (d,key,some dflt)) _ _ s
  refine wpAny_pure ?_
  show wpAny _ _ (if (d==sysModules)=true then _ else (dictSetDefault d key dflt >>= _)) _ _ s
  rw[if_neg (by rw[hd];exact Bool.false_ne_true)]
  exact wpAny_bind (quo hkey hm (λv hv=>wpAny_pure ⟨v,rfl,h1 v hv⟩) (λhn h' hm' hs'=>wpAny_pure ⟨dflt,rfl,h2 hn h' hm' hs'⟩) hz)
end
end PySem
namespace L2
open PySem PySem.Spec PyProof.Rows
section
variable {X:Cx} {pins:List (Addr×Obj)} {σ:St} {H:Hp} {s:Shared} {a b:Addr} {u r:Value} {d:V} {A:Around} {E:Value->Shared->Prop}
theorem q4v{kvs:List (Key×V)}{k:Key}{Q:Value->Shared->Prop}(I:Inv X pins σ H s)(e:H a=some (.dK kvs))(hl:kvs.length<sizeLine)(ry:RelV (kV k) u)(rd:RelV d r)
  (h1:∀v w' s',valV kvs k=some v->Inv X pins σ H s'->RelV v w'->Q w' s') (h2:∀s',valV kvs k=none->Inv X pins σ (upd H a (.dK (kvs++[(k,d)]))) s'->Q r s') :
  wpAny (model X.prog X.w) A (call (.builtin "dict.setdefault") [.ref a,u,r]) Q E s:=by
 obtain⟨z,hd,vs,rel,dd⟩:=q12 I.hok e
 have hz:vs.length<=sizeLine:=by rw[←rel.length];exact z
 refine call_meetsIn PySem.F.slot_dict_setdefault dd.typeIs PySem.F.entry_dict_setdefault (PySem.F.args_dict_setdefault_3 _ _ _) (qsy (knd:=qbb X.prog X.w) a u hd r) ⟨k,vs,qk4 ry,dd,hz,λw' hw=>?_,λhn h' dd' hs=>h2 _ ?_ ?_⟩
 ·have:=rel.val k
  rw[hw] at this
  cases hv:valV kvs k with
 |none=>rw[hv] at this;exact this.elim
 |some v=>rw[hv] at this;exact h1 v w' _ hv (I.tok _) this
 ·have:=rel.val k
  rw[hn] at this
  cases hv:valV kvs k with
 |none=>rfl
 |some v=>rw[hv] at this;exact this.elim
 ·have he:∃q,h'.get? a=some q:=let ⟨q,_,_,hq,_⟩:=dd';⟨q,hq⟩
  exact qmg I (by rw[e];exact True.intro) hs he (qw7 (by rw[List.length_append,List.length_singleton];exact hl) hd (Paired.snoc rel ⟨rfl,rd⟩) dd')
end
def q37(td ty tx:TE):TE:=λσ H Q=>td σ H λx H1=>∃a,x=.ref a/\IsD H1 a/\ty σ H1 λy H2=>tx σ H2 λz H3=>∃kvs k,H3 a=some (.dK kvs)/\y=kV k/\kvs.length<sizeLine /\
 (∀v,valV kvs k=some v->Q v H3)/\(valV kvs k=none->Q z (upd H3 a (.dK (kvs++[(k,z)]))))
section
variable {X:Cx} {o e f:Expr} {apos cpos:Pos} {td ty tx:TE}
theorem qzt(ho:PE X o td)(he:PE X e ty)(hf:PE X f tx)(m:M2 X o "setdefault" apos e f cpos):PE X (.Call (.Attribute o "setdefault" apos) [e,f] [] cpos) (q37 td ty tx):=by
 intro pins s σ H Q I h
 refine wpAny_Call_method m.base m.few m.line PySem.F.plainAttrs_dict PySem.F.slot_dict_setdefault PySem.F.type_dict_setdefault (thn (ho pins s σ H _ I h) λu s1 ⟨x,H1,I1,rx,a,ex,d,q1⟩=>?_)
 subst ex
 obtain rfl:u=Value.ref a:=rx
 obtain⟨t1,t2,_⟩:=qsc I1 d
 refine⟨t1,t2,?_⟩
 rw[m.trees]
 refine Calls.callWith_builtin rfl (Calls.evalArgs_plain (Calls.spliced_cons (thn (he pins s1 σ H1 _ I1 q1) λiv s2 ⟨y,H2,I2,ry,q2⟩ =>
  Calls.spliced_cons (thn (hf pins s2 σ H2 _ I2 q2) λfv s3 ⟨z,H3,I3,rz,kvs,k,ea,ey,hl,g1,g2⟩=>Calls.spliced_nil ?_))))
 subst ey
 exact q4v I3 ea hl ry rz (λv w' s4 hv I4 rw'=>⟨v,H3,I4,rw',g1 v hv⟩) λs4 hn I4=>⟨z,_,I4,rz,g2 hn⟩
theorem q0h(ho:QE X o td)(he:QE X e ty)(hf:QE X f tx)(m:M2 X o "setdefault" apos e f cpos):QE X (.Call (.Attribute o "setdefault" apos) [e,f] [] cpos) (q37 td ty tx):=⟨qzt ho.u he.u hf.u m⟩
end
def putH(acc:List (Str×List D))(z:Str)(e:D):List (Str×List D):=if z∈acc.map (·.1) then acc.map (λp=>if p.1=z then (p.1,p.2++[e]) else p) else acc++[(z,[e])]
def qcv(key:D->Str)(es:List D):List (Str×List D):=es.foldl (λacc e=>putH acc (key e) e) []
def qk2(key:D->Str)(es:List D):D:=.dK ((qcv key es).map (·.1)) ((qcv key es).map λp=>.lst p.2)
structure HpInv(K:PySem.W.Frag)(H0 B H:Hp)(a:Addr)(acc:List (Str×Addr×List D)):Prop where
 da:H a=some (.dK (acc.map λp=>(Sum.inr p.1,V.ref p.2.1)))
 a0:H0 a=none
 ab:B a=none
 kn:(acc.map (·.1)).Nodup
 an:(acc.map (·.2.1)).Nodup
 li:∀p∈acc,H0 p.2.1=none/\B p.2.1=none/\p.2.1≠a/\OwnAt K B H (.lst p.2.2) p.2.1
section
variable {K:PySem.W.Frag} {H0 B H B' H' B0:Hp} {a:Addr} {acc:List (Str×Addr×List D)}
theorem HpInv.step(I:HpInv K H0 B H a acc)(p:Stp B H B' H'):HpInv K H0 B' H' a acc :=
 ⟨p.h _ _ I.da,I.a0,p.keep I.ab (by rw[I.da];simp) (by intro xs z;rw[I.da] at z;cases z),I.kn,I.an,λq m=>by
  obtain⟨h1,h2,h3,h4⟩:=I.li q m
  exact⟨h1,p.keep h2 h4.some h4.nt,h3,h4.step p.b (p.h.at h4.some)⟩⟩
theorem qt1{z:Str}:∀ {acc:List (Str×Addr×List D)},(acc.map (·.1)).Nodup->∀p∈acc,p.1=z->valV (acc.map λp=>((Sum.inr p.1:Key),V.ref p.2.1)) (Sum.inr z)=some (.ref p.2.1)
|q::acc,nd,p,m,e=>by
  rw[List.map_cons] at nd ⊢
  have nd':=List.nodup_cons.mp nd
  rcases List.mem_cons.mp m with rfl|m
  ·exact qe0 (by rw[e])
  ·rw[qdz λc=>nd'.1 (by
    have c:q.1=z:=Sum.inr.inj c
    rw[c,←e]
    exact List.mem_map_of_mem m)]
   exact qt1 nd'.2 p m e
theorem qx9{z:Str}:∀ {acc:List (Str×Addr×List D)},z∉acc.map (·.1)->valV (acc.map λp=>((Sum.inr p.1:Key),V.ref p.2.1)) (Sum.inr z)=none
|[],_=>rfl
|q::acc,h=>by
  rw[List.map_cons] at h ⊢
  rw[qdz λc=>h (by
   have c:q.1=z:=Sum.inr.inj c
   rw[c]
   exact List.mem_cons_self)]
  exact qx9 λm=>h (List.mem_cons_of_mem _ m)
end
end L2
namespace L2
open PySem PySem.Spec PyProof.Rows
section
variable {K:PySem.W.Frag} {H0 B H B' H' B0:Hp} {a:Addr} {acc:List (Str×Addr×List D)}
theorem qot{α β:Type}{f:α->β}:∀ {l:List α},(l.map f).Nodup->∀ {x y:α},x∈l->y∈l->f x=f y->x=y
|q::l,nd,x,y,mx,my,e=>by
  rw[List.map_cons] at nd
  have nd':=List.nodup_cons.mp nd
  rcases List.mem_cons.mp mx with rfl|mx
  ·rcases List.mem_cons.mp my with rfl|my
   ·rfl
   ·exact absurd (by rw[e];exact List.mem_map_of_mem my) nd'.1
  ·rcases List.mem_cons.mp my with q|my
   ·exact absurd (by rw[←q,←e];exact List.mem_map_of_mem mx) nd'.1
   ·exact qot nd'.2 mx my e
def appA(z:Str)(e:D)(q:Str×Addr×List D):Str×Addr×List D:=if q.1=z then (q.1,q.2.1,q.2.2++[e]) else q
theorem qki(z:Str)(e:D)(q:Str×Addr×List D):(appA z e q).1=q.1/\(appA z e q).2.1=q.2.1:=by
 unfold appA
 split<;>exact⟨rfl,rfl⟩
theorem HpInv.app(I:HpInv K H0 B H a acc){p:Str×Addr×List D}(mp:p∈acc){e:D}{y:V}(r:Rep K B e y){xs:List V}(hx:H p.2.1=some (.lst xs)):HpInv K H0 B (upd H p.2.1 (.lst (xs++[y]))) a (acc.map (appA p.1 e)):=by
 obtain⟨_,_,pa,po⟩:=I.li p mp
 refine⟨?_,I.a0,I.ab,?_,?_,λq' m'=>?_⟩
 ·rw[qa4 (Ne.symm pa),I.da,List.map_map]
  congr 2
  refine List.map_congr_left λq _=>?_
  show (Sum.inr q.1,V.ref q.2.1)=(Sum.inr (appA p.1 e q).1,V.ref (appA p.1 e q).2.1)
  rw[(qki p.1 e q).1,(qki p.1 e q).2]
 ·rw[List.map_map,show (acc.map ((·.1) ∘ appA p.1 e))=acc.map (·.1) from List.map_congr_left λq _=>(qki p.1 e q).1]
  exact I.kn
 ·rw[List.map_map,show (acc.map ((·.2.1) ∘ appA p.1 e))=acc.map (·.2.1) from List.map_congr_left λq _=>(qki p.1 e q).2]
  exact I.an
 ·obtain⟨q,mq,rfl⟩:=List.mem_map.mp m'
  obtain⟨h1,h2,h3,h4⟩:=I.li q mq
  rw[(qki p.1 e q).2]
  refine⟨h1,h2,h3,?_⟩
  by_cases c:q.1=p.1
  ·have:q=p:=qot I.kn mq mp c
   subst this
   unfold appA
   rw[if_pos rfl]
   obtain⟨xs',e1,e2⟩:=po
   rw[hx] at e1
   cases e1
   exact⟨xs++[y],qbc,e2.append (by unfold Reps;exact⟨y,[],rfl,r,by unfold Reps;rfl⟩)⟩
  ·unfold appA
   rw[if_neg c]
   exact h4.step (Same.refl _) (qa4 λz=>c (by rw[qot I.an mq mp z]))
theorem HpInv.new(I:HpInv K H0 B H a acc)(s0:Same H0 H)(sb:Same B H){z:Str}(nz:z∉acc.map (·.1)){l:Addr}(hl:H l=none){e:D}{y:V}(r:Rep K B e y) :
  HpInv K H0 B (upd (upd (upd H l (.lst [])) a (.dK ((acc.map λp=>((Sum.inr p.1:Key),V.ref p.2.1))++[(Sum.inr z,V.ref l)]))) l (.lst ([]++[y]))) a (acc++[(z,l,[e])]):=by
 have la:l≠a:=λc=>by rw[c,I.da] at hl;cases hl
 refine⟨?_,I.a0,I.ab,?_,?_,λq m=>?_⟩
 ·rw[qa4 (Ne.symm la),qbc,List.map_append]
  rfl
 ·rw[List.map_append]
  exact List.nodup_append.mpr ⟨I.kn,by simp,λx mx w mw e=>nz (by rw[←(show w=z from List.mem_singleton.mp mw),←e];exact mx)⟩
 ·rw[List.map_append]
  refine List.nodup_append.mpr ⟨I.an,by simp,λx mx w mw e=>?_⟩
  obtain⟨q,mq,rfl⟩:=List.mem_map.mp mx
  have:w=l:=List.mem_singleton.mp mw
  exact(I.li q mq).2.2.2.some (by rw[e,this];exact hl)
 ·rcases List.mem_append.mp m with m|m
  ·obtain⟨h1,h2,h3,h4⟩:=I.li q m
   have ql:q.2.1≠l:=λc=>h4.some (by rw[c];exact hl)
   exact⟨h1,h2,h3,h4.step (Same.refl _) (by rw[qa4 ql,qa4 h3,qa4 ql])⟩
  ·rw[List.mem_singleton.mp m]
   exact⟨s0.free hl,sb.free hl,la,[y],qbc,by unfold Reps;exact⟨y,[],rfl,r,by unfold Reps;rfl⟩⟩
theorem q0a{z:Str}{e:D}(h:z∈acc.map (·.1)):(acc.map (appA z e)).map (λp=>(p.1,p.2.2))=putH (acc.map λp=>(p.1,p.2.2)) z e:=by
 unfold putH
 rw[if_pos (by rw[List.map_map];exact h),List.map_map,List.map_map]
 refine List.map_congr_left λq _=>?_
 show ((appA z e q).1,(appA z e q).2.2)=if q.1=z then (q.1,q.2.2++[e]) else (q.1,q.2.2)
 unfold appA
 split<;>rfl
theorem qz9{z:Str}{l:Addr}{e:D}(h:z∉acc.map (·.1)):(acc++[(z,l,[e])]).map (λp=>(p.1,p.2.2))=putH (acc.map λp=>(p.1,p.2.2)) z e:=by
 unfold putH
 rw[if_neg (by rw[List.map_map];exact h),List.map_append]
 rfl
theorem HpInv.pub(I:HpInv K H0 B H a acc)(p:Stp B0 H0 B H):∃B2,Stp B0 H0 B2 H/\Rep K B2 (.dK (acc.map (·.1)) (acc.map λq=>.lst q.2.2)) (.ref a):=by
 let ls:=a::acc.map (·.2.1)
 have bn:∀x∈ls,B x=none/\H0 x=none/\H x≠none:=λx mx=>by
  rcases List.mem_cons.mp mx with rfl|mx
  ·exact⟨I.ab,I.a0,by rw[I.da];simp⟩
  ·obtain⟨q,mq,rfl⟩:=List.mem_map.mp mx
   obtain⟨h1,h2,_,h4⟩:=I.li q mq
   exact⟨h2,h1,h4.some⟩
 have s2:Same B λx=>if x∈ls then H x else B x:=λx o e=>by
  show (if x∈ls then H x else B x)=_
  rw[if_neg λm=>by rw[(bn x m).1] at e;cases e]
  exact e
 refine⟨λx=>if x∈ls then H x else B x,⟨p.b.trans s2,p.h,λx o e=>?_,λx h=>?_⟩,?_⟩
 ·have e:(if x∈ls then H x else B x)=some o:=e
  split at e
  ·exact e
  ·exact p.s _ _ e
 ·by_cases m:x∈ls
  ·exact .inr (.inl (bn x m).2.1)
  ·refine p.d x ?_
   rw[if_neg m] at h
   exact h
 ·unfold Rep
  refine⟨a,acc.map λp=>((Sum.inr p.1:Key),V.ref p.2.1),rfl,?_,?_,?_⟩
  ·show (if a∈ls then H a else B a)=_
   rw[if_pos List.mem_cons_self]
   exact I.da
  ·rw[List.map_map,List.map_map]
   rfl
  ·rw[List.map_map]
   have all:∀ {l:List (Str×Addr×List D)},(∀q∈l,q∈acc)->Reps K (λx=>if x∈ls then H x else B x) (l.map λq=>D.lst q.2.2) (l.map ((·.2) ∘ λq=>((Sum.inr q.1:Key),V.ref q.2.1))):=λ{l} h=>by
    induction l with
   |nil=>unfold Reps;rfl
   |cons q l ih =>
     rw[List.map_cons,List.map_cons]
     unfold Reps
     refine⟨_,_,rfl,?_,ih λx m=>h x (List.mem_cons_of_mem _ m)⟩
     obtain⟨_,_,_,xs,e1,e2⟩:=I.li q (h q List.mem_cons_self)
     unfold Rep
     refine⟨q.2.1,xs,rfl,?_,e2.same s2⟩
     show (if q.2.1∈ls then H q.2.1 else B q.2.1)=_
     rw[if_pos (List.mem_cons_of_mem _ (List.mem_map_of_mem (h q List.mem_cons_self)))]
     exact e1
   exact all λq m=>m
end
def qpa(k l:Nat)(vi:TVA)(tk:TV):TVS:=λDv τ=>(plainS τ/\k<τ.length/\l<τ.length/\k≠l)/\vi (τ.set k none) λa=>match a with
|.ok es=>es.length<sizeLine/\∃key:D->Str,(∀e∈es,tk ((τ.set k none).set l (some (.val e))) λr=>r=.val (.str (key e)))/\Dv.rt (.val (qk2 key es))
|.exc _=>False
theorem qlk{τ:VSt}(h:plainS τ)(i:Nat){o:Option R}(ho:o=none\/∃d,o=some (.val d)):plainS (τ.set i o):=by
 unfold plainS at h ⊢
 rw[List.all_eq_true] at h ⊢
 intro x m
 rcases List.mem_or_eq_of_mem_set m with m|rfl
 ·exact h x m
 ·rcases ho with rfl|⟨d,rfl⟩<;>rfl
theorem qdp(key:D->Str)(es:List D){i:Nat}(hi:i<es.length):qcv key (es.take (i+1))=putH (qcv key (es.take i)) (key es[i]) es[i]:=by
 unfold qcv
 rw[List.take_succ,List.getElem?_eq_getElem hi,List.foldl_append]
 rfl
theorem qv2(acc:List (Str×List D))(z:Str)(e:D):(putH acc z e).length<=acc.length+1:=by
 unfold putH
 split
 ·rw[List.length_map];lia
 ·rw[List.length_append];exact Nat.le_refl _
theorem qhc(key:D->Str)(es:List D):∀i,i<=es.length->(qcv key (es.take i)).length<=i
|0,_=>Nat.le_refl _
|i+1,h=>by
  rw[qdp key es h]
  have:=qhc key es i (by lia)
  have:=qv2 (qcv key (es.take i)) (key es[i]) es[i]
  lia
theorem qof(key:D->Str)(es:List D):∀i,i<=es.length->∀p∈qcv key (es.take i),p.2.length<=i
|0,_,p,m=>by cases m
|i+1,h,p,m=>by
  rw[qdp key es h] at m
  have ih:=qof key es i (by lia)
  unfold putH at m
  split at m
  ·obtain⟨q,mq,rfl⟩:=List.mem_map.mp m
   have:=ih q mq
   split
   ·show (q.2++[es[i]]).length<=i+1
    rw[List.length_append]
    exact Nat.add_le_add_right this 1
   ·lia
  ·rcases List.mem_append.mp m with m|m
   ·have:=ih p m
    lia
   ·rw[List.mem_singleton.mp m]
    show 1<=i+1
    lia
section
variable {X:Cx} {EX:St->XK} {x y:Str} {k l:Nat} {vi:TVA} {tk:TV} {iter ek:Expr} {p1 p2 p3 p4 p5 p6 p7 q1 q2 q3 q4 a1 a2 c1 c2:Pos}
theorem qua(hp:PassesOwn (model X.prog X.w) X.A X.env X.xe)(hc:X.calm=true)(hN:X.N.Nodup)(hk:X.N[k]?=some x)(hl:X.N[l]?=some y)(hx:Loc X.env.scope x)(hy:Loc X.env.scope y)(hi:VI X EX (.Name y p3) iter vi)(hkey:VE X EX ek tk)
  (hs:∀z,foldedSetIterable iter X.env z=pure z:=by intro _;rfl) (hpe:qa3 ek=true:=by rfl)
  (hf:X.fn x=true\/X.env.scope.names.lookup x=some .local:=by first|exact .inl rfl|exact .inr rfl|assumption) (hf2:X.fn y=true\/X.env.scope.names.lookup y=some .local:=by first|exact .inl rfl|exact .inr rfl|assumption)
  (hv:Vis X.env.scope x:=by first|exact Or.inl rfl|exact Or.inr (Or.inl rfl)|exact Or.inr (Or.inr rfl)) (hv2:Vis X.env.scope y:=by first|exact Or.inl rfl|exact Or.inr (Or.inl rfl)|exact Or.inr (Or.inr rfl))
  (hd:(x==("__debug__" : Str))=false:=by decide) (hcd:(x==("__classdict__" : Str))=false:=by decide) (hd2:(y==("__debug__" : Str))=false:=by decide) (hcd2:(y==("__classdict__" : Str))=false:=by decide)
  (m:M2 X (.Name x p4) "setdefault" a1 ek (.List [] p5) c1:=by exact⟨rfl,rfl,rfl,rfl⟩) (hs1:swapsWith (.Dict [] [] p2) (some (.Name x p1)) q1.line X.env=pure false:=by rfl)
  (hbase:attributeBase (.Call (.Attribute (.Name x p4) "setdefault" a1) [ek,.List [] p5] [] c1) "append" X.env (eval (.Call (.Attribute (.Name x p4) "setdefault" a1) [ek,.List [] p5] [] c1) X.env)=eval (.Call (.Attribute (.Name x p4) "setdefault" a1) [ek,.List [] p5] [] c1) X.env:=by rfl)
  (hline:(a2.endLine==c2.line)=true:=by rfl) (hs2:swapsWith (.Call (.Attribute (.Call (.Attribute (.Name x p4) "setdefault" a1) [ek,.List [] p5] [] c1) "append" a2) [.Name y p6] [] c2) none q2.line X.env=pure false:=by rfl) :
  VSs X EX (.Assign [.Name x p1] (.Dict [] [] p2) q1::.For (.Name y p3) iter [.Expr (.Call (.Attribute (.Call (.Attribute (.Name x p4) "setdefault" a1) [ek,.List [] p5] [] c1) "append" a2) [.Name y p6] [] c2) q2] [] q3::.Return (some (.Name x p7)) q4::[]) (qpa k l vi tk) :=
 let ⟨_,i1,i2⟩:=hi.u;let ⟨_,e1,e2⟩:=hkey.u
 ⟨_,qju (qth hN hk hx qv5 hs1 hf) (qju (qxt hp hc i1 (qtg hN hl hy hf2) (qjv (qnc (qbm PySem.F.plainAttrs_list PySem.F.slot_list_append PySem.F.type_list_append qhp (q0h (qv k hk hv hd hcd) e1 (qxs qej) m) (qac (qv l hl hv2 hd2 hcd2) qej rfl) rfl rfl hbase hline) hs2)) hs) (qjv (qlm (qv k hk hv hd hcd)))),λB0 H0 B H τ σ Dv Dh p S h E=>by
  obtain⟨⟨pl,lk,ll,nkl⟩,h⟩:=h
  intro a ha
  have ha0:=p.h.free ha
  have hab:=p.s.free ha
  have p1:Stp B0 H0 B (upd H a (.dK [])):=p.upd ha0 hab
  have pk:plainS (τ.set k none):=qlk pl k (.inl rfl)
  have S1:Slots X.K H0 B (upd H a (.dK [])) (τ.set k none) (σ.set k (some (.ref a))):=(S.plain pl).setNone k _
  have I0:HpInv X.K H0 B (upd H a (.dK [])) a []:=⟨qbc,ha0,hab,List.nodup_nil,List.nodup_nil,λq m=>by cases m⟩
  refine i2 H0 B _ (τ.set k none) (σ.set k (some (.ref a))) _ _ p1.s S1 h (λ_ _ _ _ _ _ z=>z.elim) λJ es B' H' q ok hq=>?_
  obtain⟨hlen,key,hky,hrt⟩:=hq
  obtain⟨o,ho⟩:∃o,(τ.set k none)[l]?=some o:=⟨_,List.getElem?_eq_getElem (by rw[List.length_set];exact ll)⟩
  have po:o=none\/∃d,o=some (.val d):=by
   have:=List.all_eq_true.mp pk o (List.mem_of_getElem? ho)
   cases o with
  |none=>exact .inl rfl
  |some r =>
    cases r with
   |val d=>exact .inr ⟨d,rfl⟩
   |_=>cases this
  have so:(τ.set k none).set l o=τ.set k none:=by
   obtain⟨z1,z2⟩:=List.getElem?_eq_some_iff.mp ho
   rw[←z2]
   exact List.set_getElem_self z1
  have sk:(σ.set k (some (V.ref a)))[k]?=some (some (.ref a)):=List.getElem?_set_self (by rw[S.len];exact lk)
  refine⟨λi m σ2 H2=>m=es.length-i/\i<=es.length/\∃B2 o acc,Stp B0 H0 B2 H2/\Same B' B2/\(o=none\/∃d,o=some (.val d))/\Slots X.K H0 B2 H2 ((τ.set k none).set l o) σ2/\σ2[k]?=some (some (.ref a))/\HpInv X.K H0 B2 H2 a acc/\acc.map (λp=>(p.1,p.2.2))=qcv key (es.take i),
   ⟨es.length,by lia,Nat.zero_le _,B',o,[],p1.trans q,Same.refl _,po,by rw[so];exact S1.step q,sk,I0.step q,rfl⟩,?_⟩
  rintro i m σ2 H2 ⟨rfl,hi,B2,o2,acc,p2,sB,po2,S2,sk2,I2,ea⟩
  by_cases hlt:i<es.length
  ·have ei:es[i]?=some es[i]:=List.getElem?_eq_getElem hlt
   obtain⟨go,yl⟩:=(ok i B2 H2 sB p2.s).1 _ ei
   refine .inr ⟨go,λσ3 H3=>∃B2 o acc,Stp B0 H0 B2 H3/\Same B' B2/\(o=none\/∃d,o=some (.val d))/\Slots X.K H0 B2 H3 ((τ.set k none).set l o) σ3/\σ3[k]?=some (some (.ref a))/\HpInv X.K H0 B2 H3 a acc/\acc.map (λp=>(p.1,p.2.2))=qcv key (es.take (i+1)),
    λσ3 H3 z=>⟨es.length-(i+1),by lia,rfl,by lia,z⟩,λyv H3 hy=>?_⟩
   obtain⟨B3,q3,rp⟩:=yl yv H3 hy
   have S3:=(S2.step q3).setVal l rp
   rw[List.set_set] at S3
   have sk3:(σ2.set l (some yv))[k]?=some (some (.ref a)):=by rw[List.getElem?_set_ne (Ne.symm nkl)];exact sk2
   have I3:=I2.step q3
   have pl3:plainS ((τ.set k none).set l (some (.val es[i]))):=qlk pk l (.inr ⟨_,rfl⟩)
   have sl3:(σ2.set l (some yv))[l]?=some (some yv):=List.getElem?_set_self (by
    have:=S2.len
    rw[List.length_set,List.length_set] at this
    lia)
   refine⟨.ref a,sk3,a,rfl,.inl ⟨_,.inl I3.da⟩,e2 H0 B3 H3 _ _ _ _ q3.s S3 (hky es[i] (List.getElem_mem hlt)) (λ_ _ _ _ _ _ z=>by cases z) λr v B4 H4 q4 hr hq=>?_⟩
   subst hq
   have ev:v=V.str (key es[i]):=by
    have hr':Rep X.K B4 (.str (key es[i])) v:=hr
    unfold Rep at hr'
    exact hr'
   subst ev
   refine⟨Nat.zero_le _,λlp hlp=>?_⟩
   have I4:=I3.step q4
   have p4:=(p2.trans q3).trans q4
   have sB4:Same B' B4:=(sB.trans q3.b).trans q4.b
   have rp4:Rep X.K B4 es[i] yv:=rp.same q4.b
   have alp:a≠lp:=λz=>by
    have:=I4.da
    rw[z,hlp] at this
    cases this
   have g:Stp B4 H4 B4 (upd H4 lp (.lst [])):=.grow q4.s (qan hlp _)
   have len1:acc.length<=i:=by
    have:=qhc key es i hi
    rw[←ea,List.length_map] at this
    exact this
   refine⟨_,Sum.inr (key es[i]),(by rw[qa4 alp];exact I4.da),rfl,by rw[List.length_map];lia,λv' hv'=>?_,λhv'=>?_⟩
   ·by_cases mz:key es[i]∈acc.map (·.1)
    ·obtain⟨q,mq,eq⟩:=List.mem_map.mp mz
     rw[qt1 I4.kn q mq eq] at hv'
     cases hv'
     have I5:=I4.step g
     obtain⟨n1,n2,n3,xs,x1,x2⟩:=I5.li q mq
     have xl:xs.length<=i:=by
      rw[←x2.length]
      exact qof key es i hi (q.1,q.2.2) (by rw[←ea];exact List.mem_map.mpr ⟨q,mq,rfl⟩)
     refine⟨.inl ⟨rfl,xs,.inl (.inl x1)⟩,yv,sl3,q.2.1,xs,yv,rfl,rfl,x1,by lia,?_⟩
     refine⟨B4,some (.val es[i]),acc.map (appA q.1 es[i]),(p4.trans g).upd n1 n2,sB4,.inr ⟨_,rfl⟩,(S3.step q4).plain pl3,sk3,I5.app mq rp4 x1,?_⟩
     rw[q0a (by rw[eq];exact mz),qdp key es hlt,←ea,eq]
    ·rw[qx9 mz] at hv'
     cases hv'
   ·have mz:key es[i]∉acc.map (·.1):=λmz=>by
     obtain⟨q,mq,eq⟩:=List.mem_map.mp mz
     rw[qt1 I4.kn q mq eq] at hv'
     cases hv'
    have l0:=p4.h.free hlp
    have lb:=q4.s.free hlp
    have xl:(upd (upd H4 lp (.lst [])) a (.dK ((acc.map λp=>((Sum.inr p.1:Key),V.ref p.2.1))++[(Sum.inr (key es[i]),V.ref lp)]))) lp=some (.lst []):=by rw[qa4 (Ne.symm alp),qbc]
    refine⟨.inl ⟨rfl,[],.inl (.inl xl)⟩,yv,sl3,lp,[],yv,rfl,rfl,xl,by have:1000<=sizeLine:=qaw;show 0<sizeLine;lia,?_⟩
    refine⟨B4,some (.val es[i]),acc++[(key es[i],lp,[es[i]])],(((p4.trans g).upd I4.a0 I4.ab).upd l0 lb),sB4,.inr ⟨_,rfl⟩,(S3.step q4).plain pl3,sk3,I4.new p4.h q4.s mz hlp rp4,?_⟩
    rw[qz9 mz,qdp key es hlt,←ea]
  ·have ei:es[i]?=none:=List.getElem?_eq_none (by lia)
   have:i=es.length:=by lia
   subst this
   refine .inl ⟨(ok _ B2 H2 sB p2.s).2 ei,.ref a,sk2,?_⟩
   obtain⟨B5,p5,r5⟩:=I2.pub p2
   refine E.rt (.val (qk2 key es)) (.ref a) B5 H2 p5 (show Rep X.K B5 (qk2 key es) (.ref a) from ?_) hrt
   rw[List.take_length] at ea
   unfold qk2
   rw[←ea,List.map_map,List.map_map]
   exact r5⟩
end
end L2
namespace L2
open PySem PySem.Spec PyProof.Rows
section
variable {X:Cx} {EX:St->XK} {o e f:Expr} {to ti tf te:TV} {apos cpos pos p:Pos} {x:Str}
def qlx(to ti tf:TV):TV:=λτ Q=>to τ λrx=>match rx.d with
|.dK ks ds=>ti τ λry=>∃z,ry.d=.str z/\tf τ λrf=>exR rf (λ_=>False) <| match lkK ks ds z with
 |some d=>Q (.val d)
 |none=>Q rf
|_=>False
theorem qpe(hu:X.A.units+64<cLine)(ho:VE X EX o to)(hi:VE X EX e ti)(hf:VE X EX f tf)(m:M2 X o "get" apos e f cpos:=by exact⟨rfl,rfl,rfl,rfl⟩):VE X EX (.Call (.Attribute o "get" apos) [e,f] [] cpos) (qlx to ti tf) :=
 let ⟨_,a1,a2⟩:=ho.u;let ⟨_,b1,b2⟩:=hi.u;let ⟨_,c1,c2⟩:=hf.u;⟨_,qv4 (by lia) a1 b1 c1 m,λH0 B H τ σ Q Qd s S h xc k=>a2 H0 B H τ σ _ _ s S h (xno λ_ q=>q) λrx x B1 H1 p1 q1 h1=>by
  split at h1
  ·rename_i ks ds e1
   obtain⟨ad,kvs,rfl,hd,_,_⟩:=q1.pk.dK p1.s e1
   refine⟨ad,rfl,.inl ⟨kvs,.inl hd⟩,b2 H0 B1 H1 τ σ _ _ p1.s (S.step p1) h1 (xno λ_ ⟨_,q,_⟩=>by cases q) λry y B2 H2 p2 q2 h2=>?_⟩
   obtain⟨w,e2,h2⟩:=h2
   cases q2.pk.scal (z:=.str w) (by rw[e2];rfl)
   refine c2 H0 B2 H2 τ σ _ _ p2.s (S.step (p1.trans p2)) h2 (xno λ_ q=>q) λrf v B3 H3 p3 q3 h3=>?_
   have hq:=q3.ok h3
   obtain⟨ad',kvs',ea,hd',hk,hr⟩:=(q1.pk.step (p2.trans p3)).dK p3.s e1
   cases ea
   refine⟨_,DGet.k (k:=Sum.inr w) hd',?_⟩
   rcases qhl w hk hr with ⟨z,y⟩|⟨d',v',z,y,rp⟩
   ·rw[y];rw[z] at hq
    exact k rf _ B3 H3 ((p1.trans p2).trans p3) (q3.back (p1.h.trans p2.h)) hq
   ·rw[y];rw[z] at hq
    exact k (.val d') _ B3 H3 ((p1.trans p2).trans p3) rp hq
  ·exact h1.elim⟩
def qj4(i:Nat)(te:TV):TVS:=λDv τ=>ownL τ i λds=>te τ λr=>exS τ Dv r (match r.d with
|.lst es=>ds.length+es.length<=sizeLine/\Dv.nx (τ.set i (some (.own (.lst (ds++es)))))
|  _=>False)
theorem qt9(i:Nat)(h:VE X EX e te)(hN:X.N[i]?=some x:=by rfl)(hv:Vis X.env.scope x:=by first|exact Or.inl rfl|exact Or.inr (Or.inl rfl)|exact Or.inr (Or.inr rfl))(hd:(x==("__debug__" : Str))=false:=by decide)
  (hcd:(x==("__classdict__" : Str))=false:=by decide) (hp:qa3 e=true:=by rfl)
  (hbase:attributeBase (.Name x p) "extend" X.env (eval (.Name x p) X.env)=eval (.Name x p) X.env:=by rfl) (hline:(apos.endLine==cpos.line)=true:=by rfl)
  (hs:swapsWith (.Call (.Attribute (.Name x p) "extend" apos) [e] [] cpos) none pos.line X.env=pure false:=by rfl) :
  VS X EX (.Expr (.Call (.Attribute (.Name x p) "extend" apos) [e] [] cpos) pos) (qj4 i te) :=
 let ⟨_,a1,a2⟩:=h.u;⟨_,qnc (qbm PySem.F.plainAttrs_list PySem.F.slot_list_extend PySem.F.type_list_extend qs0 (qv i hN hv hd hcd) (qac a1 qej hp) (by simp[hp]) rfl hbase hline) hs,λB0 H0 B H τ σ Dv Dh p S h E=>by
  obtain⟨ds,ad,xs,e1,h,e2,e3,_⟩:=S.ownL h
  refine⟨.ref ad,e2,.inl ⟨rfl,xs,SqL.of e3⟩,a2 H0 B H τ σ _ _ p.s S h (E.raised p S) λr v B' H' q hr hq=>?_⟩
  have hq:=hr.okS hq
  split at hq
  ·rename_i es ee
   have S2:=S.step q
   obtain⟨a',q1,_,_,xs2,q4,q3⟩:=S2.own i _ e1
   rw[e2] at q1
   cases q1
   obtain⟨b,zs,rfl,hb,rz⟩:=hr.pk.lst q.s ee
   refine⟨ad,b,xs2,zs,rfl,rfl,q4,hb,by rw[←q3.length,←rz.length];exact hq.1,?_⟩
   obtain⟨p3,S3⟩:=S2.lst (p.trans q) e1 e2 (q3.append rz)
   exact E.nx B' _ _ σ p3 S3 hq.2
  ·exact hq.elim⟩
end
end L2
namespace L2
open PySem PySem.Spec PyProof.Rows
theorem FnOk.none{P:Program}{w:World}{K:PySem.W.Frag}{mg:Str->Option Value}{base:Heap}{CX:CXT}{k:Nat}{f:Addr}{fd:FuncData}{ps:List Str}{g:DP}(h:∀ds Q,¬ g ds Q):FnOk P w K mg base CX k f fd ps (spOf K g) :=
 ⟨λ_ _ _ _ ⟨ds,_,Qd,_,_,hg,_⟩=>(h ds Qd hg).elim,λ_ _ _ _ _ _ _ _ _ _ _ _ _ ⟨ds,_,Qd,_,_,hg,_⟩=>(h ds Qd hg).elim⟩
end L2
namespace L2
open PySem
theorem qxn(x:List Nat)(t:List (List Nat)):∀l:List (List Nat),l<l++x::t
|[]=>List.nil_lt_cons _ _
|y::l=>List.cons_lt_cons_iff.mpr (.inr ⟨rfl,qxn x t l⟩)
theorem qm0{v w:List Str}(h:v <+: w)(ne:v.length<w.length):ltW v w=true:=by
 obtain⟨t,rfl⟩:=h
 cases t with
|nil=>simp at ne
|cons z t =>
  refine decide_eq_true ?_
  unfold keyW
  rw[List.map_append]
  exact qxn _ _ _
theorem qxm{y z:Str}(h:ltS y z=true)(s t:List Str):∀b:List Str,ltW (b++y::s) (b++z::t)=true
|[]=>decide_eq_true (List.cons_lt_cons_iff.mpr (.inl (of_decide_eq_true h)))
|x::b=>decide_eq_true (List.cons_lt_cons_iff.mpr (.inr ⟨rfl,of_decide_eq_true (qxm h s t b)⟩))
def nmAt(d:Nat)(r:Row):Str:=r.1.getD d ""
def grp(d:Nat)(z:Str)(rs:List Row):List Row:=rs.filter λr=>decide (nmAt d r=z)
theorem grp_mem{d:Nat}{z:Str}{rs:List Row}{r:Row}:r∈grp d z rs↔r∈rs/\nmAt d r=z:=by
 unfold grp
 rw[List.mem_filter,decide_eq_true_iff]
theorem qsa(z:Str):∀ws:List Str,ws.Pairwise (λa b=>ltS a b=true)->∃us:List Str,(∀w,w∈us↔w=z\/w∈ws)/\us.Pairwise (λa b=>ltS a b=true)
|[],_=>⟨[z],λw=>by simp,List.pairwise_singleton _ _⟩
|t::ts,h=>by
  have h':=List.pairwise_cons.mp h
  by_cases e:z=t
  ·exact⟨t::ts,λw=>by rw[e];simp,h⟩
  ·rcases qsw e with q|q
   ·refine⟨z::t::ts,λw=>List.mem_cons,List.pairwise_cons.mpr ⟨λx hx=>?_,h⟩⟩
    rcases List.mem_cons.mp hx with e|hx
    ·rw[e];exact q
    ·exact qxl q (h'.1 x hx)
   ·obtain⟨us,p1,p2⟩:=qsa z ts h'.2
    refine⟨t::us,λw=>?_,List.pairwise_cons.mpr ⟨λx hx=>?_,p2⟩⟩
    ·rw[List.mem_cons,p1,List.mem_cons]
     constructor
     ·rintro (a|a|a)
      ·exact .inr (.inl a)
      ·exact .inl a
      ·exact .inr (.inr a)
     ·rintro (a|a|a)
      ·exact .inr (.inl a)
      ·exact .inl a
      ·exact .inr (.inr a)
    ·rcases (p1 x).mp hx with e|hx
     ·rw[e];exact q
     ·exact h'.1 x hx
theorem qjh:∀l:List Str,∃ws:List Str,(∀w,w∈ws↔w∈l)/\ws.Pairwise (λa b=>ltS a b=true)
|[]=>⟨[],λw=>Iff.rfl,.nil⟩
|z::l=>by
  obtain⟨ws,p1,p2⟩:=qjh l
  obtain⟨us,q1,q2⟩:=qsa z ws p2
  exact⟨us,λw=>by rw[q1,p1,List.mem_cons],q2⟩
theorem qwq:∀ {u v:List Str},u.Pairwise (λa b=>ltS a b=true)->v.Pairwise (λa b=>ltS a b=true)->(∀w,w∈u↔w∈v)->u=v:=λ{u v} hu hv h=>by
 have nn:∀ {u:List Str},u.Pairwise (λa b=>ltS a b=true)->u.Nodup:=λh=>by
  rw[List.nodup_iff_pairwise_ne]
  exact h.imp λ{a b} q e=>by
   rw[e] at q
   exact absurd q (by rw[qlc q];decide)
 exact qgf (lt:=ltS) (λ_ _=>qlc) ((List.perm_ext_iff_of_nodup (nn hu) (nn hv)).mpr h) hu hv
noncomputable def qbw(d:Nat)(one other:List Row):List Str:=Classical.choose (qjh (one.map (nmAt d)++other.map (nmAt d)))
theorem keysR_mem{d:Nat}{one other:List Row}{z:Str}:z∈qbw d one other↔z∈one.map (nmAt d)\/z∈other.map (nmAt d):=by
 unfold qbw
 rw[(Classical.choose_spec (qjh (one.map (nmAt d)++other.map (nmAt d)))).1 z,List.mem_append]
theorem qgu(d:Nat)(one other:List Row):(qbw d one other).Pairwise (λa b=>ltS a b=true):=(Classical.choose_spec (qjh (one.map (nmAt d)++other.map (nmAt d)))).2
theorem qvb{d:Nat}{one other:List Row}{ws:List Str}(h:∀w,w∈ws↔w∈one.map (nmAt d)\/w∈other.map (nmAt d))(so:ws.Pairwise (λa b=>ltS a b=true)):ws=qbw d one other :=
 qwq so (qgu d one other) λw=>by rw[h,keysR_mem]
def isF(rs:List Row):Bool:=match rs with
|[]=>false
|r::_=>decide (r.2.1=qag)
def qd9(a b:List Row):List Row:=if b.length<a.length then b else a
noncomputable def qdb:Nat->List Row->List Row->List Row
|0,_,_=>[]
|m+1,one,other=>if one=other then [] else match other with
 |[]=>[((one.headD ([],qav,qav)).1,qax,qav)]
 |o::os=>if (isF one&&isF (o::os))=true then qd9 (o::(qbw o.1.length one.tail os).flatMap λz=>qdb m (grp o.1.length z one.tail) (grp o.1.length z os)) ((o.1,qas,qav)::os) else o::os
noncomputable def qbg(m d:Nat)(one other:List Row):List Row:=(qbw d one other).flatMap λz=>qdb m (grp d z one) (grp d z other)
noncomputable def qdj(m:Nat)(one other:List Row):List Row:=if one=other then [] else qd9 (qbg m 0 one other) (([],qas,qav)::other)
structure Cl(b:List Str)(rs:List Row):Prop where
 so:qao rs
 un:∀r∈rs,b <+: r.1/\b.length<r.1.length
 cl:∀r∈rs,r.1.dropLast=b\/∃q∈rs,q.1=r.1.dropLast/\q.2.1=qag
 ki:∀r∈rs,(r.2.1=qcf\/r.2.1=qcg)\/(r.2.1=qag/\r.2.2=qav)
structure HeapC(v:List Str)(mt:Str×Str)(tl:List Row):Prop where
 so:qao ((v,mt)::tl)
 ki:(mt.1=qcf\/mt.1=qcg)\/(mt.1=qag/\mt.2=qav)
 cl:Cl v tl
 no:mt.1≠qag->tl=[]
def HeapOk(v:List Str)(rs:List Row):Prop:=rs=[]\/∃mt tl,rs=(v,mt)::tl/\HeapC v mt tl
theorem qxq{b w:List Str}(h:b <+: w)(hl:b.length<w.length):∃t,w=b++w.getD b.length ""::t:=by
 obtain⟨t,rfl⟩:=h
 cases t with
|nil=>simp at hl
|cons z t=>exact⟨t,by simp⟩
theorem pre_take{v w:List Str}(h:v <+: w):w.take v.length=v:=by
 obtain⟨t,rfl⟩:=h
 exact List.take_left
theorem Cl.up{b:List Str}{rs:List Row}(C:Cl b rs){r:Row}(hr:r∈rs):∀(n k:Nat),r.1.length-k=n->b.length<k->k<=r.1.length->∃q∈rs,q.1=r.1.take k/\(k<r.1.length->q.2.1=qag)
|0,k,e,h1,h2=>⟨r,hr,by rw[List.take_of_length_le (by lia)],λz=>by lia⟩
|n+1,k,e,h1,h2=>by
  obtain⟨q,mq,eq,_⟩:=C.up hr n (k+1) (by lia) (by lia) (by lia)
  have ed:q.1.dropLast=r.1.take k:=by
   rw[eq,List.dropLast_eq_take,List.length_take,List.take_take]
   congr 1
   lia
  rcases C.cl q mq with z|⟨p,mp,ep,fp⟩
  ·rw[ed] at z
   have:=congrArg List.length z
   rw[List.length_take] at this
   lia
  ·exact⟨p,mp,by rw[ep,ed],λ_=>fp⟩
theorem Cl.name{b:List Str}{rs:List Row}(C:Cl b rs){r:Row}(hr:r∈rs):∃t,r.1=b++nmAt b.length r::t:=qxq (C.un r hr).1 (C.un r hr).2
theorem qyx{b:List Str}{rs:List Row}(C:Cl b rs){z:Str}{r:Row}(hr:r∈rs):nmAt b.length r=z↔b++[z] <+: r.1:=by
 obtain⟨t,e⟩:=C.name hr
 constructor
 ·intro h
  rw[e,h]
  exact⟨t,by simp⟩
 ·rintro⟨t',e'⟩
  unfold nmAt
  rw[←e']
  simp
theorem qs5{rs:List Row}(so:qao rs){r q:Row}(hr:r∈rs)(hq:q∈rs)(e:r.1=q.1):r=q:=qot (qah so) hr hq e
theorem Cl.grp{b:List Str}{rs:List Row}(C:Cl b rs)(z:Str):HeapOk (b++[z]) (L2.grp b.length z rs):=by
 have so:qao (L2.grp b.length z rs):=C.so.sublist List.filter_sublist
 cases hg:L2.grp b.length z rs with
|nil=>exact .inl rfl
|cons h tl =>
  rw[hg] at so
  have mem:∀r,r∈h::tl↔r∈rs/\b++[z] <+: r.1:=λr=>by
   rw[←hg,grp_mem]
   exact and_congr_right λhr=>qyx C hr
  have so':=List.pairwise_cons.mp so
  obtain⟨hh,hp⟩:=(mem h).mp List.mem_cons_self
  have lb:(b++[z]).length=b.length+1:=by simp
  obtain⟨q,mq,eq,fq⟩:=C.up hh _ (b.length+1) rfl (by lia) (by have:=hp.length_le;lia)
  have eq':q.1=b++[z]:=by rw[eq,←lb];exact pre_take hp
  have mq':q∈h::tl:=(mem q).mpr ⟨mq,by rw[eq'];exact List.prefix_refl _⟩
  have eh:h.1=b++[z]:=by
   rcases List.mem_cons.mp mq' with rfl|m
   ·exact eq'
   ·have h1:=so'.1 q m
    by_cases c:h.1=b++[z]
    ·exact c
    ·have hl:(b++[z]).length<h.1.length:=by
      rcases Nat.lt_or_ge (b++[z]).length h.1.length with y|y
      ·exact y
      ·exact absurd (hp.eq_of_length_le y).symm c
     have h2:=qm0 hp hl
     rw[eq'] at h1
     rw[qhm h1] at h2
     cases h2
  have nh:∀r∈tl,b++[z] <+: r.1/\(b++[z]).length<r.1.length:=λr m=>by
   obtain⟨_,p⟩:=(mem r).mp (List.mem_cons_of_mem _ m)
   refine⟨p,?_⟩
   rcases Nat.lt_or_ge (b++[z]).length r.1.length with y|y
   ·exact y
   ·have e:b++[z]=r.1:=p.eq_of_length_le y
    have:=so'.1 r m
    rw[eh,e] at this
    exact absurd this (by rw[qhm this];decide)
  obtain⟨hw,mt⟩:=h
  cases eh
  refine .inr ⟨mt,tl,rfl,so,C.ki _ hh,⟨so'.2,nh,λr m=>?_,λr m=>C.ki r ((mem r).mp (List.mem_cons_of_mem _ m)).1⟩,λnf=>?_⟩
  ·have mr:=((mem r).mp (List.mem_cons_of_mem _ m)).1
   obtain⟨p1,p2⟩:=nh r m
   rcases C.cl r mr with e|⟨q,mq,eq,fq⟩
   ·have:=congrArg List.length e
    rw[List.length_dropLast] at this
    lia
   ·by_cases c:r.1.dropLast=b++[z]
    ·exact .inl c
    ·have pq:b++[z] <+: q.1:=by
      rw[eq,List.dropLast_eq_take]
      exact List.prefix_take_iff.mpr ⟨p1,by lia⟩
     rcases List.mem_cons.mp ((mem q).mpr ⟨mq,pq⟩) with e|m'
     ·exact absurd (by rw[←eq,e];rfl) c
     ·exact .inr ⟨q,m',eq,fq⟩
  ·cases tl with
  |nil=>rfl
  |cons r tl =>
    obtain⟨p1,p2⟩:=nh r List.mem_cons_self
    have mr:=((mem r).mp (List.mem_cons_of_mem _ List.mem_cons_self)).1
    obtain⟨q,mq,eq,fq⟩:=C.up mr _ (b.length+1) rfl (by lia) (by lia)
    have e:q.1=b++[z]:=by rw[eq,←lb];exact pre_take p1
    have:=qs5 C.so mq hh e
    rw[this] at fq
    exact absurd (fq (by lia)) nf
end L2
namespace L2
open PySem
def LA(p t:List Row)(w:List Str):Option (Str×Str):=match rowAt p w with
|some x=>if x.1=qax then none else if x.1=qas then some (qag,qav) else some x
|none=>if qa7 p w=true then none else rowAt t w
def rwOk(r:Row):Prop:=(r.2.1=qcf\/r.2.1=qcg)\/((r.2.1=qag\/r.2.1=qas\/r.2.1=qax)/\r.2.2=qav)
structure Drawn(b:List Str)(one other p:List Row):Prop where
 so:qao p
 un:∀r∈p,b <+: r.1/\b.length<r.1.length
 cl:∀r∈p,r.1.dropLast=b\/∃q∈p,q.1=r.1.dropLast/\FS q.2.1
 ki:∀r∈p,rwOk r
 nb:∀r∈p,(r.2.1=qax\/r.2.1=qas)->∀q∈p,q.1 <+: r.1->q.1≠r.1->q.2.1=qag
 at_:∀w,b <+: w->b.length<w.length->LA p one w=rowAt other w
structure HDrawn(v:List Str)(one other p:List Row):Prop where
 so:qao p
 un:∀r∈p,v <+: r.1
 cl:∀r∈p,r.1=v\/∃q∈p,q.1=r.1.dropLast/\FS q.2.1
 ki:∀r∈p,rwOk r
 nb:∀r∈p,(r.2.1=qax\/r.2.1=qas)->∀q∈p,q.1 <+: r.1->q.1≠r.1->q.2.1=qag
 at_:∀w,v <+: w->LA p one w=rowAt other w
theorem qfd{p q:List Row}{w:List Str}(h:∀r,r.1=w->(r∈p↔r∈q))(np:(p.map (·.1)).Nodup)(nq:(q.map (·.1)).Nodup):rowAt p w=rowAt q w :=
 qs7 λx=>by rw[qbh np,qbh nq];exact h (w,x) rfl
theorem qcx{p:List Row}{w:List Str}(h:∀r∈p,r.1≠w):rowAt p w=none:=rowAt_none.mpr λm=>by
 obtain⟨r,mr,e⟩:=List.mem_map.mp m
 exact h r mr e
theorem qiz{p q t u:List Row}{w:List Str}(h1:∀k,k<=w.length->rowAt p (w.take k)=rowAt q (w.take k))(h2:rowAt t w=rowAt u w):LA p t w=LA q u w:=by
 have e:qa7 p w=qa7 q w:=by
  unfold qa7
  refine qdm λk hk=>?_
  rw[qgv,qgv,h1 k (by have:=List.mem_range.mp hk;lia)]
 have e1:=h1 w.length (Nat.le_refl _)
 rw[List.take_length] at e1
 unfold LA
 rw[e1,e,h2]
theorem qmm{p:List Row}(nd:(p.map (·.1)).Nodup){w:List Str}:qa7 p w=true↔∃q∈p,q.1 <+: w/\q.1.length<w.length/\q.2.1≠qag:=by
 unfold qa7
 rw[List.any_eq_true]
 constructor
 ·rintro⟨k,hk,h⟩
  have hk:=List.mem_range.mp hk
  rw[qgv] at h
  cases e:rowAt p (w.take k) with
 |none=>rw[e] at h;cases h
 |some x =>
   rw[e] at h
   have h:(!decide (x.1=qag))=true:=h
   refine⟨(w.take k,x),(qbh nd).mp e,List.take_prefix _ _,?_,by simpa using h⟩
   show (w.take k).length<w.length
   rw[List.length_take]
   lia
 ·rintro⟨q,mq,pq,lq,nq⟩
  refine⟨q.1.length,List.mem_range.mpr lq,?_⟩
  rw[qgv,pre_take pq,(qbh nd).mpr (show (q.1,q.2)∈p from mq)]
  show (!decide (q.2.1=qag))=true
  rw[decide_eq_false nq]
  rfl
theorem qe5{p t:List Row}(nd:(p.map (·.1)).Nodup){r:Row}(hr:r∈p):LA p t r.1=if r.2.1=qax then none else if r.2.1=qas then some (qag,qav) else some r.2:=by
 unfold LA
 rw[(qbh nd).mpr (show (r.1,r.2)∈p from hr)]
theorem qfk{p t:List Row}(nd:(p.map (·.1)).Nodup){w:List Str}(nw:∀r∈p,r.1≠w)(h:∃q∈p,q.1 <+: w/\q.1.length<w.length/\q.2.1≠qag):LA p t w=none:=by
 unfold LA
 rw[qcx nw]
 show (if qa7 p w=true then none else rowAt t w)=none
 rw[if_pos ((qmm nd).mpr h)]
theorem qdr{p t:List Row}(nd:(p.map (·.1)).Nodup){w:List Str}(nw:∀r∈p,r.1≠w)(h:¬ ∃q∈p,q.1 <+: w/\q.1.length<w.length/\q.2.1≠qag):LA p t w=rowAt t w:=by
 unfold LA
 rw[qcx nw]
 show (if qa7 p w=true then none else rowAt t w)=_
 rw[if_neg λz=>h ((qmm nd).mp z)]
theorem qc7{p:List Row}(nd:(p.map (·.1)).Nodup){r:Row}(hr:r∈p):rowAt p r.1=some r.2:=(qbh nd).mpr (show (r.1,r.2)∈p from hr)
theorem qn8{v:List Str}{one:List Row}{mt:Str×Str}{tl:List Row}{hd:Str}(H:HeapC v mt tl)(hm:hd=mt.1\/(hd=qas/\mt.1=qag))(none1:∀w,v <+: w->(∀r∈(v,mt)::tl,r.1≠w)->(∃q∈(v,hd,mt.2)::tl,q.1 <+: w/\q.1.length<w.length/\q.2.1≠qag)\/rowAt one w=none):HDrawn v one ((v,mt)::tl) ((v,hd,mt.2)::tl):=by
 have so':=List.pairwise_cons.mp H.so
 have so:qao ((v,hd,mt.2)::tl):=List.pairwise_cons.mpr so'
 have nd:=qah so
 have nd0:=qah H.so
 have tn:∀r∈tl,r.2.1≠qax/\r.2.1≠qas:=λr m=>by
  obtain⟨n1,n2,n3,n4,n5,n6,n7,n8,n9,_⟩:=mne
  rcases H.cl.ki r m with (q|q)|⟨q,_⟩
  ·rw[q];exact⟨n8,n6⟩
  ·rw[q];exact⟨n9,n7⟩
  ·rw[q];exact⟨λz=>n2 z.symm,λz=>n1 z.symm⟩
 have hn:mt.1≠qax/\mt.1≠qas:=by
  obtain⟨n1,n2,n3,n4,n5,n6,n7,n8,n9,_⟩:=mne
  rcases H.ki with (q|q)|⟨q,_⟩
  ·rw[q];exact⟨n8,n6⟩
  ·rw[q];exact⟨n9,n7⟩
  ·rw[q];exact⟨λz=>n2 z.symm,λz=>n1 z.symm⟩
 have hf:tl≠[]->FS hd:=λz=>by
  have f:mt.1=qag:=by
   by_cases c:mt.1=qag
   ·exact c
   ·exact absurd (H.no c) z
  rcases hm with e|⟨e,_⟩
  ·exact .inl (e.trans f)
  ·exact .inr e
 refine⟨so,λr m=>?_,λr m=>?_,λr m=>?_,λr m hs q mq pq nq=>?_,λw pw=>?_⟩
 ·rcases List.mem_cons.mp m with e|m
  ·rw[e];exact List.prefix_refl _
  ·exact(H.cl.un r m).1
 ·rcases List.mem_cons.mp m with e|m
  ·exact .inl (by rw[e])
  ·rcases H.cl.cl r m with e|⟨q,mq,eq,fq⟩
   ·exact .inr ⟨_,List.mem_cons_self,e.symm,hf (by rintro rfl;cases m)⟩
   ·exact .inr ⟨q,List.mem_cons_of_mem _ mq,eq,.inl fq⟩
 ·rcases List.mem_cons.mp m with e|m
  ·rw[e]
   rcases hm with e|⟨e,f⟩
   ·rcases H.ki with q|⟨q,t⟩
    ·exact .inl (by rw[e];exact q)
    ·exact .inr ⟨.inl (e.trans q),t⟩
   ·refine .inr ⟨.inr (.inl e),?_⟩
    rcases H.ki with q|⟨q,t⟩
    ·rw[f] at q
     rcases q with q|q
     ·exact absurd q.symm mne.2.2.1
     ·exact absurd q.symm mne.2.2.2.1
    ·exact t
  ·rcases H.cl.ki r m with q|⟨q,t⟩
   ·exact .inl q
   ·exact .inr ⟨.inl q,t⟩
 ·rcases List.mem_cons.mp m with e|m
  ·rcases List.mem_cons.mp mq with e'|mq
   ·exact absurd (by rw[e,e']) nq
   ·have h1:=(H.cl.un q mq).2
    have h2:=pq.length_le
    rw[e] at h2
    have h2:q.1.length<=v.length:=h2
    lia
  ·exact absurd hs λz=>z.elim (tn r m).1 (tn r m).2
 ·by_cases c:∃r∈(v,mt)::tl,r.1=w
  ·obtain⟨r,mr,rfl⟩:=c
   rw[qc7 nd0 mr]
   rcases List.mem_cons.mp mr with e|mr
   ·rw[e]
    have:=qe5 (t:=one) nd (r:=(v,hd,mt.2)) List.mem_cons_self
    refine this.trans ?_
    show (if hd=qax then none else if hd=qas then some (qag,qav) else some (hd,mt.2))=some mt
    rcases hm with e|⟨e,f⟩
    ·rw[e,if_neg hn.1,if_neg hn.2]
    ·rw[e,if_neg λz=>mne.2.2.2.2.1 z.symm,if_pos rfl]
     rcases H.ki with q|⟨q,t⟩
     ·rw[f] at q
      rcases q with q|q
      ·exact absurd q.symm mne.2.2.1
      ·exact absurd q.symm mne.2.2.2.1
     ·rw[←q,←t]
   ·rw[qe5 nd (List.mem_cons_of_mem _ mr),if_neg (tn r mr).1,if_neg (tn r mr).2]
  ·have c':∀r∈(v,mt)::tl,r.1≠w:=λr m e=>c ⟨r,m,e⟩
   have c2:∀r∈(v,hd,mt.2)::tl,r.1≠w:=λr m e=>by
    rcases List.mem_cons.mp m with z|m
    ·exact c' _ List.mem_cons_self (by rw[z] at e;exact e)
    ·exact c' r (List.mem_cons_of_mem _ m) e
   rw[qcx c']
   rcases none1 w pw c' with h|h
   ·exact qfk nd c2 h
   ·by_cases hh:∃q∈(v,hd,mt.2)::tl,q.1 <+: w/\q.1.length<w.length/\q.2.1≠qag
    ·exact qfk nd c2 hh
    ·rw[qdr nd c2 hh]
     exact h
end L2
namespace L2
open PySem
theorem qqt(t:List Row)(w:List Str):LA [] t w=rowAt t w:=by
 refine qdr (by simp) (λr m=>by cases m) ?_
 rintro⟨q,m,_⟩
 cases m
theorem qyc{v:List Str}{mt:Str×Str}{p one t:List Row}{x:Row}(nd:(((v,mt)::p).map (·.1)).Nodup)(hf:mt.1=qag)(nx:x.1=v)(e1:one=x::t){w:List Str}(hw:w≠v):LA ((v,mt)::p) one w=LA p t w:=by
 have nd':(p.map (·.1)).Nodup:=(List.nodup_cons.mp nd).2
 have er:rowAt one w=rowAt t w:=by
  rw[e1]
  unfold rowAt
  rw[List.find?_cons_of_neg (by simpa using λz:x.1=w=>hw (by rw[←z,nx]))]
 by_cases c:∃r∈p,r.1=w
 ·obtain⟨r,mr,rfl⟩:=c
  rw[qe5 nd (List.mem_cons_of_mem _ mr),qe5 nd' mr]
 ·have c':∀r∈p,r.1≠w:=λr m e=>c ⟨r,m,e⟩
  have c2:∀r∈(v,mt)::p,r.1≠w:=λr m e=>by
   rcases List.mem_cons.mp m with z|m
   ·rw[z] at e;exact hw e.symm
   ·exact c' r m e
  by_cases h:∃q∈p,q.1 <+: w/\q.1.length<w.length/\q.2.1≠qag
  ·rw[qfk nd' c' h]
   obtain⟨q,mq,z⟩:=h
   exact qfk nd c2 ⟨q,List.mem_cons_of_mem _ mq,z⟩
  ·rw[qdr nd' c' h,qdr nd c2 ?_,er]
   rintro⟨q,mq,z1,z2,z3⟩
   rcases List.mem_cons.mp mq with e|mq
   ·rw[e] at z3;exact z3 hf
   ·exact h ⟨q,mq,z1,z2,z3⟩
theorem isF_iff{v:List Str}{mt:Str×Str}{tl:List Row}:isF ((v,mt)::tl)=true↔mt.1=qag:=decide_eq_true_iff
theorem qll{v w:List Str}(h:v <+: w)(ne:w≠v):v.length<w.length:=by
 rcases Nat.lt_or_ge v.length w.length with y|y
 ·exact y
 ·exact absurd (h.eq_of_length_le y).symm ne
theorem qn4{P:List Row->Prop}{a b:List Row}(ha:P a)(hb:P b):P (qd9 a b):=by
 unfold qd9
 split
 ·exact hb
 ·exact ha
theorem qr4{m:Nat}{v:List Str}{one other:List Row}(O:HeapOk v one)(P:HeapOk v other)(ih:∀mt1 t1 mt2 t2,one=(v,mt1)::t1->other=(v,mt2)::t2->Drawn v t1 t2 (qbg m v.length t1 t2)):HDrawn v one other (qdb (m+1) one other):=by
 unfold qdb
 by_cases eo:one=other
 ·rw[if_pos eo,eo]
  refine⟨.nil,(λr z=>by cases z),(λr z=>by cases z),(λr z=>by cases z),(λr z=>by cases z),λw _=>qqt _ w⟩
 ·rw[if_neg eo]
  rcases P with rfl|⟨mt,tl,rfl,H⟩
  ·rcases O with rfl|⟨mt,tl,rfl,H⟩
   ·exact absurd rfl eo
   ·dsimp only[List.headD_cons]
    have so:qao [((v,qax,qav):Row)]:=List.pairwise_singleton _ _
    refine⟨so,λr z=>?_,λr z=>?_,λr z=>?_,λr z _ q mq _ nq=>?_,λw pw=>?_⟩
    ·rw[List.mem_singleton.mp z];exact List.prefix_refl _
    ·exact .inl (by rw[List.mem_singleton.mp z])
    ·rw[List.mem_singleton.mp z];exact .inr ⟨.inr (.inr rfl),rfl⟩
    ·exact absurd (by rw[List.mem_singleton.mp mq,List.mem_singleton.mp z]) nq
    ·by_cases e:w=v
     ·rw[e]
      exact(qe5 (qah so) (r:=(v,qax,qav)) List.mem_cons_self).trans (if_pos rfl)
     ·exact qfk (qah so) (λr z=>by rw[List.mem_singleton.mp z];exact λq=>e q.symm) ⟨_,List.mem_cons_self,pw,qll pw e,mne.2.1⟩
  ·dsimp only
   by_cases bf:(isF one&&isF ((v,mt)::tl))=true
   ·rw[if_pos bf]
    obtain⟨b1,b2⟩:=Bool.and_eq_true_iff.mp bf
    have f2:=isF_iff.mp b2
    rcases O with rfl|⟨mt1,t1,rfl,H1⟩
    ·cases b1
    have D:=ih mt1 t1 mt tl rfl rfl
    have te:mt.2=qav:=by
     rcases H.ki with (q|q)|⟨_,q⟩
     ·rw[f2] at q;exact absurd q.symm mne.2.2.1
     ·rw[f2] at q;exact absurd q.symm mne.2.2.2.1
     ·exact q
    refine qn4 ?_ ?_
    ·show HDrawn v ((v,mt1)::t1) ((v,mt)::tl) ((v,mt)::qbg m v.length t1 tl)
     have so:qao ((v,mt)::qbg m v.length t1 tl):=List.pairwise_cons.mpr ⟨λr mr=>qm0 (D.un r mr).1 (D.un r mr).2,D.so⟩
     have nd:=qah so
     refine⟨so,λr z=>?_,λr z=>?_,λr z=>?_,λr z hs q mq pq nq=>?_,λw pw=>?_⟩
     ·rcases List.mem_cons.mp z with e|z
      ·rw[e];exact List.prefix_refl _
      ·exact(D.un r z).1
     ·rcases List.mem_cons.mp z with e|z
      ·exact .inl (by rw[e])
      ·rcases D.cl r z with e|⟨q,mq,h⟩
       ·exact .inr ⟨_,List.mem_cons_self,e.symm,.inl f2⟩
       ·exact .inr ⟨q,List.mem_cons_of_mem _ mq,h⟩
     ·rcases List.mem_cons.mp z with e|z
      ·rw[e];exact .inr ⟨.inl f2,te⟩
      ·exact D.ki r z
     ·rcases List.mem_cons.mp z with e|z
      ·rw[e] at hs
       have hs:mt.1=qax\/mt.1=qas:=hs
       rw[f2] at hs
       rcases hs with q|q
       ·exact absurd q.symm mne.2.1
       ·exact absurd q.symm mne.1
      ·rcases List.mem_cons.mp mq with e|mq
       ·rw[e];exact f2
       ·exact D.nb r z hs q mq pq nq
     ·by_cases e:w=v
      ·rw[e,qc7 (qah H.so) (r:=(v,mt)) List.mem_cons_self]
       refine(qe5 nd (r:=(v,mt)) List.mem_cons_self).trans ?_
       show (if mt.1=qax then none else if mt.1=qas then some (qag,qav) else some mt)=some mt
       rw[if_neg (by rw[f2];exact λz=>mne.2.1 z.symm),if_neg (by rw[f2];exact λz=>mne.1 z.symm)]
      ·rw[qyc nd f2 (x:=(v,mt1)) rfl rfl e,D.at_ w pw (qll pw e)]
       unfold rowAt
       rw[List.find?_cons_of_neg (by simpa using λz:v=w=>e z.symm)]
    ·have:=qn8 (one:=(v,mt1)::t1) (hd:=qas) H (.inr ⟨rfl,f2⟩) λw pw nw=>.inl ⟨_,List.mem_cons_self,pw,qll pw λz=>nw _ List.mem_cons_self z.symm,mne.1⟩
     rw[te] at this
     exact this
   ·rw[if_neg bf]
    refine qn8 (hd:=mt.1) H (.inl rfl) λw pw nw=>?_
    have wv:w≠v:=λz=>nw _ List.mem_cons_self z.symm
    by_cases f2:mt.1=qag
    ·refine .inr ?_
     rcases O with rfl|⟨mt1,t1,rfl,H1⟩
     ·rfl
     ·have nf:mt1.1≠qag:=λf1=>bf (Bool.and_eq_true_iff.mpr ⟨isF_iff.mpr f1,isF_iff.mpr f2⟩)
      rw[H1.no nf]
      exact qcx λr z=>by rw[List.mem_singleton.mp z];exact λq=>wv q.symm
    ·exact .inl ⟨_,List.mem_cons_self,pw,qll pw wv,f2⟩
theorem qgb{b w:List Str}{y:Str}(h:b++[y] <+: w):w.getD b.length "" = y:=by
 obtain⟨t,rfl⟩:=h
 simp
theorem qis{b:List Str}{one other:List Row}(O:Cl b one)(P:Cl b other){f:Str->List Row}(h:∀z,HDrawn (b++[z]) (grp b.length z one) (grp b.length z other) (f z)):Drawn b one other ((qbw b.length one other).flatMap f):=by
 have nm:∀z,∀r∈f z,r.1.getD b.length "" = z:=λz r m=>qgb ((h z).un r m)
 have so:qao ((qbw b.length one other).flatMap f):=by
  show ((qbw b.length one other).flatMap f).Pairwise _
  rw[List.pairwise_flatMap]
  refine⟨λz _=>(h z).so,(qgu b.length one other).imp λ{y z} lt r mr s ms=>?_⟩
  obtain⟨t1,e1⟩:=(h y).un r mr
  obtain⟨t2,e2⟩:=(h z).un s ms
  rw[←e1,←e2,List.append_assoc,List.append_assoc]
  exact qxm lt t1 t2 b
 have nd:=qah so
 have mem:∀ {r:Row},r∈(qbw b.length one other).flatMap f->∃z∈qbw b.length one other,r∈f z:=λm=>List.mem_flatMap.mp m
 refine⟨so,λr m=>?_,λr m=>?_,λr m=>?_,λr m hs q mq pq nq=>?_,λw pw lw=>?_⟩
 ·obtain⟨z,_,mr⟩:=mem m
  have p:=(h z).un r mr
  refine⟨(List.prefix_append b [z]).trans p,?_⟩
  have:=p.length_le
  rw[List.length_append] at this
  exact this
 ·obtain⟨z,mz,mr⟩:=mem m
  rcases (h z).cl r mr with e|⟨q,mq,e⟩
  ·exact .inl (by rw[e,List.dropLast_concat])
  ·exact .inr ⟨q,List.mem_flatMap.mpr ⟨z,mz,mq⟩,e⟩
 ·obtain⟨z,_,mr⟩:=mem m
  exact(h z).ki r mr
 ·obtain⟨z,_,mr⟩:=mem m
  obtain⟨y,_,mq'⟩:=mem mq
  have e1:=qgb (((h y).un q mq').trans pq)
  rw[nm z r mr] at e1
  subst e1
  exact(h z).nb r mr hs q mq' pq nq
 ·obtain⟨t,ew⟩:=qxq pw lw
  generalize hz:w.getD b.length "" = z at ew
  have gone:∀ {rs:List Row},Cl b rs->rowAt (grp b.length z rs) w=rowAt rs w:=λ{rs} C=>qfd (λr e=>by
   rw[grp_mem]
   exact⟨λq=>q.1,λq=>⟨q,by unfold nmAt;rw[e];exact hz⟩⟩) (qah (C.so.sublist List.filter_sublist)) (qah C.so)
  by_cases mz:z∈qbw b.length one other
  ·rw[←gone P,←(h z).at_ w (by rw[ew];exact⟨t,by simp⟩)]
   refine qiz (λk hk=>qfd (λr e=>⟨λm=>?_,λm=>List.mem_flatMap.mpr ⟨z,mz,m⟩⟩) nd (qah (h z).so)) (gone O).symm
   obtain⟨y,_,mr⟩:=mem m
   have p:=(h y).un r mr
   rw[e] at p
   have:=qgb (p.trans (List.take_prefix _ _))
   rw[hz] at this
   rw[this]
   exact mr
  ·have no:∀ {rs:List Row},(∀r∈rs,nmAt b.length r≠z)->rowAt rs w=none:=λhr=>qcx λr m e=>hr r m (by unfold nmAt;rw[e];exact hz)
   have n1:∀r∈one,nmAt b.length r≠z:=λr m e=>mz (keysR_mem.mpr (.inl (List.mem_map.mpr ⟨r,m,e⟩)))
   have n2:∀r∈other,nmAt b.length r≠z:=λr m e=>mz (keysR_mem.mpr (.inr (List.mem_map.mpr ⟨r,m,e⟩)))
   have np:∀r∈(qbw b.length one other).flatMap f,¬ r.1 <+: w:=λr m p=>by
    obtain⟨y,my,mr⟩:=mem m
    have:=qgb (((h y).un r mr).trans p)
    rw[hz] at this
    exact mz (by rw[this];exact my)
   rw[qdr nd (λr m e=>np r m (by rw[e];exact List.prefix_refl _)) (λ⟨q,mq,pq,_⟩=>np q mq pq),no n1,no n2]
theorem qkw:∀(m:Nat) (b:List Str) (one other:List Row),Cl b one->Cl b other->(∀r∈one,r.1.length<=b.length+m)->(∀r∈other,r.1.length<=b.length+m)->Drawn b one other (qbg m b.length one other)
|0,b,one,other,O,P,h1,h2=>by
  have e:∀ {rs:List Row},Cl b rs->(∀r∈rs,r.1.length<=b.length+0)->rs=[]:=λ{rs} C h=>by
   cases rs with
  |nil=>rfl
  |cons r rs =>
    have:=(C.un r List.mem_cons_self).2
    have:=h r List.mem_cons_self
    lia
  rw[e O h1,e P h2]
  exact qis (f:=λz=>qdb 0 (grp b.length z []) (grp b.length z [])) ⟨.nil,(λr z=>by cases z),(λr z=>by cases z),(λr z=>by cases z)⟩ ⟨.nil,(λr z=>by cases z),(λr z=>by cases z),(λr z=>by cases z)⟩ λz=>⟨.nil,(λr z=>by cases z),(λr z=>by cases z),(λr z=>by cases z),(λr z=>by cases z),λw _=>qqt _ w⟩
|m+1,b,one,other,O,P,h1,h2=>by
  refine qis O P λz=>qr4 (O.grp z) (P.grp z) λmt1 t1 mt2 t2 e1 e2=>?_
  have up:∀ {rs:List Row} {mt:Str×Str} {t:List Row},(∀r∈rs,r.1.length<=b.length+(m+1))->grp b.length z rs=(b++[z],mt)::t->∀r∈t,r.1.length<=(b++[z]).length+m:=λh e r mr=>by
   have:=h r (grp_mem.mp (by rw[e];exact List.mem_cons_of_mem _ mr)).1
   rw[List.length_append,List.length_singleton]
   lia
  have cl:∀ {rs:List Row} {mt:Str×Str} {t:List Row},Cl b rs->grp b.length z rs=(b++[z],mt)::t->Cl (b++[z]) t:=λC e=>by
   rcases C.grp z with q|⟨_,_,q,H⟩
   ·rw[q] at e;cases e
   ·rw[e] at q
    cases q
    exact H.cl
  exact qkw m (b++[z]) t1 t2 (cl O e1) (cl P e2) (up h1 e1) (up h2 e2)
theorem qmp{p t:List Row}(P:PaneOk p)(T:TreeOk t){w:List Str}(hw:w≠[]):rowAt (qa9 p t) w=LA p t w:=by
 obtain⟨T2,pm⟩:=qf9 P T
 have ndp:=qah P.so
 have ndt:=qah T.so
 refine qs7 λx=>?_
 rw[qbh (qah T2.so),pm.mem_iff,List.mem_append]
 unfold LA
 constructor
 ·rintro (m|m)
  ·obtain⟨m1,m2⟩:=List.mem_filter.mp m
   rw[Bool.and_eq_true] at m2
   have np:w∉p.map (·.1):=λz=>by
    have:=m2.1
    unfold inR at this
    rw[decide_eq_true (show (w,x).1∈p.map (·.1) from z)] at this
    cases this
   have nh:qa7 p w=false:=by simpa using m2.2
   rw[rowAt_none.mpr np]
   show (if qa7 p w=true then none else rowAt t w)=some x
   rw[nh,if_neg Bool.false_ne_true]
   exact(qbh ndt).mpr m1
  ·unfold putR at m
   obtain⟨r,mr,e⟩:=List.mem_map.mp m
   obtain⟨mr1,mr2⟩:=List.mem_filter.mp mr
   rw[Bool.and_eq_true] at mr2
   have ng:r.2.1≠qax:=by simpa using mr2.2
   have e1:r.1=w:=by rw[←qeq r,e]
   have hr:rowAt p w=some r.2:=(qbh ndp).mpr (e1▸mr1)
   rw[hr]
   show (if r.2.1=qax then none else if r.2.1=qas then some (qag,qav) else some r.2)=some x
   rw[if_neg ng]
   unfold qep at e
   by_cases s:r.2.1=qas
   ·rw[if_pos s] at e ⊢
    cases e
    rfl
   ·rw[if_neg s] at e ⊢
    rw[e]
 ·intro h
  cases hp:rowAt p w with
 |none =>
   rw[hp] at h
   have h':(if qa7 p w=true then none else rowAt t w)=some x:=h
   by_cases hb:qa7 p w=true
   ·rw[if_pos hb] at h';cases h'
   ·rw[if_neg hb] at h'
    refine .inl (List.mem_filter.mpr ⟨(qbh ndt).mp h',?_⟩)
    unfold inR
    rw[decide_eq_false (rowAt_none.mp hp),Bool.eq_false_iff.mpr hb]
    rfl
 |some y =>
   rw[hp] at h
   have h':(if y.1=qax then none else if y.1=qas then some (qag,qav) else some y)=some x:=h
   by_cases g:y.1=qax
   ·rw[if_pos g] at h';cases h'
   ·rw[if_neg g] at h'
    refine .inr (List.mem_map.mpr ⟨(w,y),List.mem_filter.mpr ⟨(qbh ndp).mp hp,by simp[hw,g]⟩,?_⟩)
    unfold qep
    by_cases s:y.1=qas
    ·rw[if_pos s] at h' ⊢
     cases h'
     rfl
    ·rw[if_neg s] at h' ⊢
     cases h'
     rfl
structure Shows(one other p:List Row):Prop where
 ok:PaneOk p
 ki:∀r∈p,rwOk r
 cl:∀r∈p,r.1=[]\/r.1.dropLast=[]\/∃q∈p,q.1=r.1.dropLast/\FS q.2.1
 nb:∀r∈p,(r.2.1=qax\/r.2.1=qas)->∀q∈p,q.1 <+: r.1->q.1≠r.1->q.2.1=qag
 eq:qa9 p one=other
theorem q32{r:Row}(h:rwOk r):(r.2.1=qcf\/r.2.1=qcg)\/(r.2.1=qag/\r.2.2=qav)\/r.2.1=qas\/r.2.1=qax:=by
 rcases h with q|⟨q|q|q,t⟩
 ·exact .inl q
 ·exact .inr (.inl ⟨q,t⟩)
 ·exact .inr (.inr (.inl q))
 ·exact .inr (.inr (.inr q))
theorem q15{m:Str}(h:FS m):m≠qax:=by
 rcases h with q|q
 ·rw[q];exact λz=>mne.2.1 z.symm
 ·rw[q];exact λz=>mne.2.2.2.2.1 z.symm
theorem Cl.tree{rs:List Row}(C:Cl [] rs):TreeOk rs:=⟨C.so,λr m=>⟨λe=>by have:=(C.un r m).2;rw[e] at this;simp at this,by
 rcases C.cl r m with e|⟨q,mq,eq,_⟩
 ·exact .inl e
 ·exact .inr (List.mem_map.mpr ⟨q,mq,eq⟩)⟩⟩
theorem qjz{one other p:List Row}(O:Cl [] one)(P:Cl [] other)(ok:PaneOk p)(h:∀w,w≠[]->LA p one w=rowAt other w):qa9 p one=other:=by
 have T:=O.tree
 obtain⟨T2,_⟩:=qf9 ok T
 refine qhu T2.so P.so λw=>?_
 by_cases e:w=[]
 ·rw[e,qcx λr m=>(T2.cl r m).1,qcx λr m=>(P.tree.cl r m).1]
 ·rw[qmp ok T e,h w e]
theorem qpt{m:Nat}{one other:List Row}(O:Cl [] one)(P:Cl [] other)(h1:∀r∈one,r.1.length<=m)(h2:∀r∈other,r.1.length<=m):Shows one other (qdj m one other):=by
 unfold qdj
 by_cases e:one=other
 ·rw[if_pos e]
  have ok:PaneOk []:=⟨.nil,(λr z=>by cases z),(λr z=>by cases z),(λr z=>by cases z)⟩
  exact⟨ok,(λr z=>by cases z),(λr z=>by cases z),(λr z=>by cases z),qjz O P ok λw _=>by rw[qqt,e]⟩
 ·rw[if_neg e]
  refine qn4 ?_ ?_
  ·have D:=qkw m [] one other O P (λr z=>by have:=h1 r z;simpa using this) (λr z=>by have:=h2 r z;simpa using this)
   have D:Drawn [] one other (qbg m 0 one other):=D
   have ok:PaneOk (qbg m 0 one other):=⟨D.so,λr z=>(D.cl r z).elim (λq=>.inr (.inl q)) λ⟨q,mq,eq,f⟩=>.inr (.inr ⟨q,mq,eq,q15 f⟩),λr z=>q32 (D.ki r z),λr z q=>by
    have:=(D.un r z).2
    rw[q] at this
    simp at this⟩
   exact⟨ok,D.ki,λr z=>.inr (D.cl r z),D.nb,qjz O P ok λw hw=>D.at_ w List.nil_prefix (by have:=List.length_pos_iff.mpr hw;simpa using this)⟩
  ·have so:qao (([],qas,qav)::other):=List.pairwise_cons.mpr ⟨λr z=>qm0 List.nil_prefix (P.un r z).2,P.so⟩
   have nd:=qah so
   have tn:∀r∈other,r.2.1≠qax/\r.2.1≠qas:=λr z=>by
    obtain⟨n1,n2,n3,n4,n5,n6,n7,n8,n9,_⟩:=mne
    rcases P.ki r z with (q|q)|⟨q,_⟩
    ·rw[q];exact⟨n8,n6⟩
    ·rw[q];exact⟨n9,n7⟩
    ·rw[q];exact⟨λz=>n2 z.symm,λz=>n1 z.symm⟩
   have ki:∀r∈(([],qas,qav)::other:List Row),rwOk r:=λr z=>by
    rcases List.mem_cons.mp z with q|z
    ·rw[q];exact .inr ⟨.inr (.inl rfl),rfl⟩
    ·rcases P.ki r z with q|⟨q,t⟩
     ·exact .inl q
     ·exact .inr ⟨.inl q,t⟩
   have cl:∀r∈(([],qas,qav)::other:List Row),r.1=[]\/r.1.dropLast=[]\/∃q∈(([],qas,qav)::other:List Row),q.1=r.1.dropLast/\FS q.2.1:=λr z=>by
    rcases List.mem_cons.mp z with q|z
    ·exact .inl (by rw[q])
    ·rcases P.cl r z with q|⟨q,mq,eq,f⟩
     ·exact .inr (.inl q)
     ·exact .inr (.inr ⟨q,List.mem_cons_of_mem _ mq,eq,.inl f⟩)
   have ok:PaneOk (([],qas,qav)::other):=⟨so,λr z=>(cl r z).imp id λq=>q.imp id λ⟨q,mq,eq,f⟩=>⟨q,mq,eq,q15 f⟩,λr z=>q32 (ki r z),λr z q=>by
    rcases List.mem_cons.mp z with w|z
    ·rw[w]
    ·have:=(P.un r z).2
     rw[q] at this
     simp at this⟩
   refine⟨ok,ki,cl,λr z hs q mq pq nq=>?_,qjz O P ok λw hw=>?_⟩
   ·rcases List.mem_cons.mp z with e|z
    ·rw[e] at pq nq
     exact absurd (List.prefix_nil.mp pq) nq
    ·exact absurd hs λy=>y.elim (tn r z).1 (tn r z).2
   ·by_cases c:∃r∈other,r.1=w
    ·obtain⟨r,mr,rfl⟩:=c
     rw[qe5 nd (List.mem_cons_of_mem _ mr),if_neg (tn r mr).1,if_neg (tn r mr).2,qc7 (qah P.so) mr]
    ·have c':∀r∈other,r.1≠w:=λr z e=>c ⟨r,z,e⟩
     rw[qcx c']
     exact qfk nd (λr z e=>by
      rcases List.mem_cons.mp z with q|z
      ·rw[q] at e;exact hw e.symm
      ·exact c' r z e) ⟨_,List.mem_cons_self,List.nil_prefix,List.length_pos_iff.mpr hw,mne.1⟩
end L2
namespace L2
open PySem PySem.Spec PyProof.Rows
def qh1(K:PySem.W.Frag):Sp:=λvs H Q _=>∃a b B ds es,vs=[.ref a,.ref b]/\a≠b/\Same B H/\B a=none/\B b=none/\OwnAt K B H (.lst ds) a/\OwnAt K B H (.lst es) b /\
 ∀B' H',Stp B H B' H'->B' (if es.length<ds.length then b else a)=none->Q (.ref (if es.length<ds.length then b else a)) H'
theorem qnm{K:PySem.W.Frag}:∀vs H Q E,qh1 K vs H Q E->vs.length=2:=by
 rintro vs H Q E ⟨a,b,B,ds,es,rfl,_⟩
 rfl
section
variable {X:Cx} {EX:St->XK} {c:Expr} {tt:TVT} {x y:Str} {p1 p2 p3 q:Pos}
theorem qpn{vs:List V}{H:Hp}{Q:VK}{E:XK}(hc:VT X EX c tt)(hx:X.N[0]?=some x)(hy:X.N[1]?=some y)(hN:X.N.length=2)(htt:∀(ds es:List D) (Y:Bool->Prop),Y (decide (es.length<ds.length))->tt [some (.val (.lst ds)),some (.val (.lst es))] Y)(h:qh1 X.K vs H Q E)
  (hv:Vis X.env.scope x:=by first|exact Or.inl rfl|exact Or.inr (Or.inl rfl)|exact Or.inr (Or.inr rfl)) (hv2:Vis X.env.scope y:=by first|exact Or.inl rfl|exact Or.inr (Or.inl rfl)|exact Or.inr (Or.inr rfl))
  (hd:(x==("__debug__" : Str))=false:=by decide) (hcd:(x==("__classdict__" : Str))=false:=by decide) (hd2:(y==("__debug__" : Str))=false:=by decide) (hcd2:(y==("__classdict__" : Str))=false:=by decide) :
  ∃t,QSs X [.Return (some (.IfExp c (.Name y p1) (.Name x p2) p3)) q] t/\t { nx:=λ_ H'=>Q .non H',rt:=Q } (start X.N vs) H:=by
 obtain⟨tc,c1,c2⟩:=hc.u
 obtain⟨a,b,B,ds,es,rfl,ab,sB,ha,hb,oa,ob,k⟩:=h
 refine⟨_,qjv (qlm (qo1 c1 (qv 1 hy hv2 hd2 hcd2) (qv 0 hx hv hd hcd))),?_⟩
 have e0:start X.N [V.ref a,V.ref b]=[some (.ref a),some (.ref b)]:=by unfold start;rw[hN];rfl
 rw[e0]
 obtain⟨xs,xa,ra⟩:=oa
 obtain⟨ys,yb,rb⟩:=ob
 let B1:Hp:=λz=>if z=a then H a else if z=b then H b else B z
 have s1:Same B B1:=λz o e=>by
  show (if z=a then H a else if z=b then H b else B z)=some o
  rw[if_neg (λw=>by rw[w,ha] at e;cases e),if_neg (λw=>by rw[w,hb] at e;cases e)]
  exact e
 have s2:Same B1 H:=λz o e=>by
  have e:(if z=a then H a else if z=b then H b else B z)=some o:=e
  split at e
  ·rename_i w;rw[w];exact e
  ·split at e
   ·rename_i w;rw[w];exact e
   ·exact sB _ _ e
 have r1:Rep X.K B1 (.lst ds) (.ref a):=by
  unfold Rep
  exact⟨a,xs,rfl,by show (if a=a then H a else _)=_;rw[if_pos rfl];exact xa,ra.same s1⟩
 have r2:Rep X.K B1 (.lst es) (.ref b):=by
  unfold Rep
  exact⟨b,ys,rfl,by show (if b=a then H a else if b=b then H b else B b)=_;rw[if_neg (Ne.symm ab),if_pos rfl];exact yb,rb.same s1⟩
 have S:Slots X.K H B1 H [some (.val (.lst ds)),some (.val (.lst es))] [some (.ref a),some (.ref b)]:=by
  have z0:Slots X.K H B1 H [] []:=⟨rfl,λi d e=>by simp at e,λi d e=>by simp at e,λi d e=>by simp at e,λi j d e a q=>by simp at q⟩
  exact(z0.consV r2).consV r1
 refine c2 H B1 H _ _ _ _ s2 S (htt ds es _ rfl) λbb B2 H2 st e=>?_
 let B3:Hp:=λz=>if z=a\/z=b then none else B2 z
 have st3:Stp B H B3 H2:=by
  refine⟨λz o e=>?_,st.h,λz o e=>?_,λz e=>?_⟩
  ·show (if z=a\/z=b then none else B2 z)=some o
   rw[if_neg λw=>by
    rcases w with w|w
    ·rw[w,ha] at e;cases e
    ·rw[w,hb] at e;cases e]
   exact st.b _ _ (s1 _ _ e)
  ·have e:(if z=a\/z=b then none else B2 z)=some o:=e
   split at e
   ·cases e
   ·exact st.s _ _ e
  ·have e:(if z=a\/z=b then none else B2 z)≠none:=e
   split at e
   ·exact absurd rfl e
   ·rename_i nw
    rcases st.d z e with w|w
    ·refine .inl ?_
     have w:(if z=a then H a else if z=b then H b else B z)≠none:=w
     rw[if_neg λy=>nw (.inl y),if_neg λy=>nw (.inr y)] at w
     exact w
    ·exact .inr w
 have b3:∀z,z=a\/z=b->B3 z=none:=λz w=>if_pos w
 subst e
 by_cases l:es.length<ds.length
 ·have:=k B3 H2 st3 (b3 _ (by rw[if_pos l];exact .inr rfl))
  rw[if_pos l] at this
  rw[decide_eq_true l]
  exact⟨.ref b,rfl,this⟩
 ·have:=k B3 H2 st3 (b3 _ (by rw[if_neg l];exact .inl rfl))
  rw[if_neg l] at this
  rw[decide_eq_false l]
  exact⟨.ref a,rfl,this⟩
def qfy(t1 t2:TV):TVS:=λDv τ=>t1 τ λr1=>match r1 with
|.own (.lst ds)=>t2 τ λr2=>match r2 with
 |.own (.lst es)=>Dv.rt (.own (.lst (if es.length<ds.length then es else ds)))
 |_=>False
|_=>False
theorem qnw{k:Nat}{ps:List Str}{f:Str}{e1 e2:Expr}{t1 t2:TV}{p pos:Pos}(C:Cal X.prog X.w X.K X.mg X.base k f ps (qh1 X.K))(hr:Room k X.A)(hg:Gl X f)(h1:VE X EX e1 t1)(h2:VE X EX e2 t2)(hp:[e1,e2].all qa3=true:=by rfl)(hp1:qa3 e1=true:=by rfl)(hp2:qa3 e2=true:=by rfl)(hdb:(f==("__debug__" : Str))=false:=by decide) :
  VS X EX (.Return (some (.Call (.Name f p) [e1,e2] [] pos)) q) (qfy t1 t2) :=
 let ⟨_,a1,a2⟩:=h1.u;let ⟨_,b1,b2⟩:=h2.u;⟨_,qlm (qo0 C hr hg (qac a1 (qac b1 qej hp2) hp1) hp hdb),λB0 H0 B H τ σ Dv Dh p S h E=>a2 H0 B H τ σ _ _ p.s S h (xno λ_ z=>z) λr1 v1 B1 H1 q1 hr1 h=>by
  split at h
  ·rename_i ds
   refine b2 H0 B1 H1 τ σ _ _ q1.s (S.step q1) h (xno λ_ z=>z) λr2 v2 B2 H2 q2 hr2 h=>?_
   split at h
   ·rename_i es
    obtain⟨a,rfl,a0,ab,oa⟩:=hr1
    obtain⟨b,rfl,b0,bb,ob⟩:=hr2
    have oa2:=oa.step q2.b (q2.h.at oa.some)
    have ab2:=q2.keep ab oa.some oa.nt
    have ne:a≠b:=λz=>oa.some (by rw[z];exact b0)
    have pp:=(p.trans q1).trans q2
    refine⟨a,b,B2,ds,es,rfl,ne,q2.s,ab2,bb,oa2,ob,λB' H' st hn=>?_⟩
    have a00:=p.h.free a0
    have b00:=(p.trans q1).h.free b0
    refine E.rt (.own (.lst (if es.length<ds.length then es else ds))) _ B' H' (pp.trans st) ?_ h
    by_cases l:es.length<ds.length
    ·rw[if_pos l] at hn ⊢
     rw[if_pos l]
     exact⟨b,rfl,b00,hn,ob.step st.b (st.h.at ob.some)⟩
    ·rw[if_neg l] at hn ⊢
     rw[if_neg l]
     exact⟨a,rfl,a00,hn,oa2.step st.b (st.h.at oa2.some)⟩
   ·exact h.elim
  ·exact h.elim⟩
end
end L2
namespace L2
open PySem
def qef(d:Nat):D->Str
|.tup (.tup ws::_)=>match ws[d]? with
 |some (.str z)=>z
 |_=>""
|_=>""
theorem qsg(d:Nat)(r:Row):qef d (rowD r)=nmAt d r:=by
 show (match (r.1.map D.str)[d]? with
 |some (.str z)=>z
 |  _=>"")=r.1.getD d ""
 rw[List.getElem?_map,List.getD_eq_getElem?_getD]
 cases r.1[d]?<;>rfl
def hpD(d:Nat)(rs:List Row):D:=qk2 (qef d) (rs.map rowD)
def hpK(d:Nat)(rs:List Row):List Str:=(qcv (qef d) (rs.map rowD)).map (·.1)
def hpV(d:Nat)(rs:List Row):List D:=(qcv (qef d) (rs.map rowD)).map λp=>.lst p.2
theorem qog(d:Nat)(rs:List Row):hpD d rs=.dK (hpK d rs) (hpV d rs):=rfl
theorem qjg(d:Nat)(z:Str)(a b:List Row):grp d z (a++b)=grp d z a++grp d z b:=List.filter_append ..
theorem qr9(d:Nat)(rs:List Row):∀i,i<=rs.length->((qcv (qef d) ((rs.map rowD).take i)).map (·.1)).Nodup/\(∀z,z∈(qcv (qef d) ((rs.map rowD).take i)).map (·.1)↔z∈(rs.take i).map (nmAt d))/\∀p∈qcv (qef d) ((rs.map rowD).take i),p.2=(grp d p.1 (rs.take i)).map rowD
|0,_=>⟨List.nodup_nil,λz=>Iff.rfl,λp m=>by cases m⟩
|i+1,h=>by
  obtain⟨a,b,c⟩:=qr9 d rs i (by lia)
  have hl:i<(rs.map rowD).length:=by rw[List.length_map];lia
  rw[qdp (qef d) (rs.map rowD) hl,List.getElem_map,qsg]
  generalize qcv (qef d) ((rs.map rowD).take i)=hp at a b c
  have et:rs.take (i+1)=rs.take i++[rs[i]]:=by rw[List.take_succ,List.getElem?_eq_getElem (by lia)];rfl
  rw[et]
  generalize rs.take i=ts at b c
  generalize rs[i]=r
  have g1:∀z,grp d z [r]=if nmAt d r=z then [r] else []:=λz=>by
   unfold grp
   by_cases e:nmAt d r=z
   ·rw[List.filter_cons_of_pos (by simpa using e),if_pos e]
    rfl
   ·rw[List.filter_cons_of_neg (by simpa using e),if_neg e]
    rfl
  unfold putH
  by_cases m:nmAt d r∈hp.map (·.1)
  ·rw[if_pos m]
   have ek:(hp.map (λp=>if p.1=nmAt d r then (p.1,p.2++[rowD r]) else p)).map (·.1)=hp.map (·.1):=by
    rw[List.map_map]
    refine List.map_congr_left λp _=>?_
    show (if p.1=nmAt d r then (p.1,p.2++[rowD r]) else p).1=p.1
    split<;>rfl
   rw[ek]
   refine⟨a,λz=>?_,λp mp=>?_⟩
   ·rw[b,List.map_append,List.mem_append]
    exact⟨.inl,λq=>q.elim id λq=>by rw[List.mem_singleton.mp q];exact(b _).mp m⟩
   ·obtain⟨q,mq,rfl⟩:=List.mem_map.mp mp
    by_cases e:q.1=nmAt d r
    ·rw[if_pos e]
     show q.2++[rowD r]=(grp d q.1 (ts++[r])).map rowD
     rw[c q mq,qjg,g1,if_pos e.symm,List.map_append]
     rfl
    ·rw[if_neg e,c q mq,qjg,g1,if_neg λz=>e z.symm,List.append_nil]
  ·rw[if_neg m]
   refine⟨?_,λz=>?_,λp mp=>?_⟩
   ·rw[List.map_append]
    exact List.nodup_append.mpr ⟨a,by simp,λx mx y my e=>m (by rw[←(show y=nmAt d r from List.mem_singleton.mp my),←e];exact mx)⟩
   ·rw[List.map_append,List.mem_append,b,List.map_append,List.mem_append]
    rfl
   ·rcases List.mem_append.mp mp with q|q
    ·have ne:¬ nmAt d r=p.1:=λz=>m (by rw[z];exact List.mem_map_of_mem q)
     rw[c p q,qjg,g1,if_neg ne,List.append_nil]
    ·rw[List.mem_singleton.mp q]
     show [rowD r]=(grp d (nmAt d r) (ts++[r])).map rowD
     have g0:grp d (nmAt d r) ts=[]:=by
      unfold grp
      rw[List.filter_eq_nil_iff]
      intro x mx e
      exact m ((b _).mpr (List.mem_map.mpr ⟨x,mx,of_decide_eq_true e⟩))
     rw[qjg,g1,if_pos rfl,g0]
     rfl
theorem hpK_mem{d:Nat}{rs:List Row}{z:Str}:z∈hpK d rs↔z∈rs.map (nmAt d):=by
 have:=(qr9 d rs rs.length (Nat.le_refl _)).2.1 z
 rw[List.take_of_length_le (by rw[List.length_map];exact Nat.le_refl _),List.take_length] at this
 exact this
theorem qr8(d:Nat)(rs:List Row):(hpK d rs).length<=rs.length:=by
 have:=qhc (qef d) (rs.map rowD) rs.length (by rw[List.length_map];exact Nat.le_refl _)
 rw[List.take_of_length_le (by rw[List.length_map];exact Nat.le_refl _)] at this
 unfold hpK
 rw[List.length_map]
 exact this
theorem qxk{z:Str}:∀ {hp:List (Str×List D)},(hp.map (·.1)).Nodup->∀p∈hp,p.1=z->lkK (hp.map (·.1)) (hp.map λp=>D.lst p.2) z=some (.lst p.2)
|q::hp,nd,p,m,e=>by
  rw[List.map_cons] at nd
  have nd':=List.nodup_cons.mp nd
  show (if q.1=z then some (D.lst q.2) else lkK (hp.map (·.1)) (hp.map λp=>D.lst p.2) z)=_
  rcases List.mem_cons.mp m with rfl|m
  ·rw[if_pos e]
  ·rw[if_neg λc=>nd'.1 (by rw[c,←e];exact List.mem_map_of_mem m)]
   exact qxk nd'.2 p m e
theorem qol{z:Str}:∀ {hp:List (Str×List D)},z∉hp.map (·.1)->lkK (hp.map (·.1)) (hp.map λp=>D.lst p.2) z=none
|[],_=>rfl
|q::hp,h=>by
  rw[List.map_cons] at h
  show (if q.1=z then some (D.lst q.2) else lkK (hp.map (·.1)) (hp.map λp=>D.lst p.2) z)=_
  rw[if_neg λc=>h (by rw[c];exact List.mem_cons_self)]
  exact qol λm=>h (List.mem_cons_of_mem _ m)
theorem qyz(d:Nat)(rs:List Row)(z:Str):(lkK (hpK d rs) (hpV d rs) z=some (qab (grp d z rs)))\/(lkK (hpK d rs) (hpV d rs) z=none/\grp d z rs=[]):=by
 obtain⟨a,b,c⟩:=qr9 d rs rs.length (Nat.le_refl _)
 rw[List.take_of_length_le (by rw[List.length_map];exact Nat.le_refl _)] at a b c
 rw[List.take_length] at c
 by_cases m:z∈hpK d rs
 ·obtain⟨p,mp,e⟩:=List.mem_map.mp m
  refine .inl ?_
  rw[show lkK (hpK d rs) (hpV d rs) z=some (.lst p.2) from qxk a p mp e,c p mp,e]
  rfl
 ·refine .inr ⟨qol m,?_⟩
  unfold grp
  rw[List.filter_eq_nil_iff]
  intro x mx e
  exact m (hpK_mem.mpr (List.mem_map.mpr ⟨x,mx,of_decide_eq_true e⟩))
theorem qku(m:Nat)(one other:List Row):(qdb m one other).length<=one.length+other.length:=by
 cases m with
|zero=>exact Nat.zero_le _
|succ m =>
  unfold qdb
  split
  ·exact Nat.zero_le _
  ·rename_i ne
   cases other with
  |nil =>
    cases one with
   |nil=>exact absurd rfl ne
   |cons r one=>show 1<=(r::one).length+0;rw[List.length_cons];lia
  |cons o os =>
    dsimp only
    split
    ·unfold qd9
     split
     ·rw[List.length_cons,List.length_cons];lia
     ·rename_i l
      rw[List.length_cons] at l ⊢
      rw[List.length_cons] at l
      rw[List.length_cons]
      lia
    ·lia
theorem qk5(d:Nat)(one other:List Row):(qbw d one other).length<=one.length+other.length:=by
 have nd:(qbw d one other).Nodup:=by
  rw[List.nodup_iff_pairwise_ne]
  exact(qgu d one other).imp λ{x y} q e=>by
   rw[e] at q
   exact absurd q (by rw[qlc q];decide)
 have:=List.Nodup.length_le_of_subset nd (λz mz=>List.mem_append.mpr (keysR_mem.mp mz))
 rw[List.length_append,List.length_map,List.length_map] at this
 exact this
theorem qpr(m d:Nat){one other:List Row}(h:one.length+other.length<=120):(qbg m d one other).length<=14400:=by
 have all:∀ks:List Str,(ks.flatMap λz=>qdb m (grp d z one) (grp d z other)).length<=120*ks.length:=λks=>by
  induction ks with
 |nil=>exact Nat.zero_le _
 |cons z ks ih =>
   have g1:(grp d z one).length<=one.length:=List.length_filter_le ..
   have g2:(grp d z other).length<=other.length:=List.length_filter_le ..
   have:=qku m (grp d z one) (grp d z other)
   rw[List.flatMap_cons,List.length_append,List.length_cons]
   lia
 have:=all (qbw d one other)
 have:=qk5 d one other
 unfold qbg
 lia
structure Few(one other:List Row)(W:List (List Str)):Prop where
 w:W.length<=kMax
 a:∀r∈one,r.1∈W
 b:∀r∈other,r.1∈W
 len:one.length+other.length<=120
theorem Few.sub{a b c d:List Row}{W:List (List Str)}(F:Few a b W)(h1:∀r∈c,r∈a)(h2:∀r∈d,r∈b)(l1:c.length<=a.length)(l2:d.length<=b.length):Few c d W:=⟨F.w,λr m=>F.a r (h1 r m),λr m=>F.b r (h2 r m),by have:=F.len;lia⟩
theorem qik:∀(m:Nat) (one other:List Row),∀r∈qdb m one other,r.1∈one.map (·.1)\/r.1∈other.map (·.1)
|0,_,_,r,h=>by cases h
|m+1,one,other,r,h=>by
  unfold qdb at h
  split at h
  ·cases h
  ·rename_i ne
   cases other with
  |nil =>
    cases one with
   |nil=>exact absurd rfl ne
   |cons x one =>
     rw[List.mem_singleton.mp h]
     exact .inl List.mem_cons_self
  |cons o os =>
    dsimp only at h
    have copy:∀ {q:Row},q∈o::os->q.1∈one.map (·.1)\/q.1∈(o::os).map (·.1):=λm=>.inr (List.mem_map_of_mem m)
    split at h
    ·unfold qd9 at h
     split at h
     ·rcases List.mem_cons.mp h with e|h
      ·rw[e];exact .inr List.mem_cons_self
      ·exact copy (List.mem_cons_of_mem _ h)
     ·rcases List.mem_cons.mp h with e|h
      ·rw[e];exact copy List.mem_cons_self
      ·obtain⟨z,_,hz⟩:=List.mem_flatMap.mp h
       have sub:∀ {rs:List Row} {w:List Str},w∈(grp o.1.length z rs).map (·.1)->w∈rs.map (·.1):=λq=>by
        obtain⟨x,mx,e⟩:=List.mem_map.mp q
        exact List.mem_map.mpr ⟨x,(grp_mem.mp mx).1,e⟩
       rcases qik m _ _ r hz with q|q
       ·refine .inl ?_
        obtain⟨x,mx,e⟩:=List.mem_map.mp (sub q)
        exact List.mem_map.mpr ⟨x,List.mem_of_mem_tail mx,e⟩
       ·exact .inr (List.mem_cons_of_mem _ (sub q))
    ·exact copy h
theorem qro{m:Nat}{one other:List Row}{r:Row}(h:r∈qdj m one other):r.1=[]\/r.1∈one.map (·.1)\/r.1∈other.map (·.1):=by
 unfold qdj at h
 split at h
 ·cases h
 ·unfold qd9 at h
  split at h
  ·rcases List.mem_cons.mp h with e|h
   ·exact .inl (by rw[e])
   ·exact .inr (.inr (List.mem_map_of_mem h))
  ·obtain⟨z,_,hz⟩:=List.mem_flatMap.mp h
   have sub:∀ {rs:List Row} {w:List Str},w∈(grp 0 z rs).map (·.1)->w∈rs.map (·.1):=λq=>by
    obtain⟨x,mx,e⟩:=List.mem_map.mp q
    exact List.mem_map.mpr ⟨x,(grp_mem.mp mx).1,e⟩
   exact .inr ((qik m _ _ r hz).imp sub sub)
theorem quz(m:Nat)(one other:List Row):(qdj m one other).length<=other.length+1:=by
 unfold qdj
 split
 ·exact Nat.zero_le _
 ·unfold qd9
  split
  ·exact Nat.le_refl _
  ·rename_i l
   rw[List.length_cons] at l
   lia
end L2
namespace L2
open PySem
theorem qsi{p t:List Row}(P:PaneOk p)(fs:∀r∈p,r.1=[]\/r.1.dropLast=[]\/∃q∈p,q.1=r.1.dropLast/\FS q.2.1)(T:Cl [] t):Cl [] (qa9 p t):=by
 obtain⟨T2,pm⟩:=qf9 P T.tree
 have ndp:=qah P.so
 have ndl:=qah T2.so
 obtain⟨n1,n2,n3,n4,n5,n6,n7,n8,n9,_⟩:=mne
 have up:∀ {v:List Str} {x:Str×Str},v≠[]->LA p t v=some x->x.1=qag->∃q∈qa9 p t,q.1=v/\q.2.1=qag:=λ{v x} hv e f=>⟨(v,x),(qbh ndl).mp (by rw[qmp P T.tree hv,e]),rfl,f⟩
 refine⟨T2.so,λr m=>⟨List.nil_prefix,List.length_pos_iff.mpr (T2.cl r m).1⟩,λr m=>?_,λr m=>?_⟩
 ·rcases List.mem_append.mp (pm.mem_iff.mp m) with m|m
  ·obtain⟨mt,h⟩:=List.mem_filter.mp m
   rw[Bool.and_eq_true] at h
   have nh:qa7 p r.1=false:=by simpa using h.2
   have r0:=(T.tree.cl r mt).1
   by_cases e:r.1.dropLast=[]
   ·exact .inl e
   ·have lt:r.1.dropLast.length<r.1.length:=by
     rw[List.length_dropLast]
     have:=List.length_pos_iff.mpr r0
     lia
    have pre:r.1.dropLast <+: r.1:=List.dropLast_prefix _
    have nohid:¬ ∃q∈p,q.1 <+: r.1/\q.1.length<r.1.length/\q.2.1≠qag:=λz=>by
     rw[(qmm ndp).mpr z] at nh
     cases nh
    by_cases c:∃q∈p,q.1=r.1.dropLast
    ·obtain⟨q,mq,eq⟩:=c
     have f:q.2.1=qag:=by
      by_cases f:q.2.1=qag
      ·exact f
      ·exact absurd ⟨q,mq,by rw[eq];exact pre,by rw[eq];exact lt,f⟩ nohid
     refine .inr (up e ?_ f)
     rw[←eq,qe5 ndp mq,f,if_neg λz=>n2 z.symm,if_neg λz=>n1 z.symm]
    ·rcases T.cl r mt with z|⟨q,mq,eq,f⟩
     ·exact absurd z e
     ·refine .inr (up (x:=q.2) e ?_ f)
      rw[qdr ndp (λx mx z=>c ⟨x,mx,z⟩) λ⟨x,mx,a,b,d⟩=>nohid ⟨x,mx,a.trans pre,by lia,d⟩,←eq,qc7 (qah T.so) mq]
  ·unfold putR at m
   obtain⟨r0,m0,rfl⟩:=List.mem_map.mp m
   obtain⟨mp,h⟩:=List.mem_filter.mp m0
   rw[qeq]
   rcases fs r0 mp with z|z|⟨q,mq,eq,f⟩
   ·rw[Bool.and_eq_true] at h
    have:=h.1
    rw[decide_eq_true z] at this
    cases this
   ·exact .inl z
   ·by_cases e:r0.1.dropLast=[]
    ·exact .inl e
    ·refine .inr (up (x:=(qag,if q.2.1=qas then qav else q.2.2)) e ?_ rfl)
     rw[←eq,qe5 ndp mq]
     rcases f with f|f
     ·rw[f,if_neg λz=>n2 z.symm,if_neg λz=>n1 z.symm,if_neg λz=>n1 z.symm,←f]
     ·rw[f,if_neg λz=>n5 z.symm,if_pos rfl,if_pos rfl]
 ·rcases List.mem_append.mp (pm.mem_iff.mp m) with m|m
  ·exact T.ki r (List.mem_filter.mp m).1
  ·unfold putR at m
   obtain⟨r0,m0,rfl⟩:=List.mem_map.mp m
   obtain⟨mp,h⟩:=List.mem_filter.mp m0
   rw[Bool.and_eq_true] at h
   have ng:r0.2.1≠qax:=by simpa using h.2
   unfold qep
   by_cases s:r0.2.1=qas
   ·rw[if_pos s]
    exact .inr ⟨rfl,rfl⟩
   ·rw[if_neg s]
    rcases P.mr r0 mp with q|q|q|q
    ·exact .inl q
    ·exact .inr q
    ·exact absurd q s
    ·exact absurd q ng
end L2
namespace L2
open PySem
structure PaneF(p:List Row):Prop where
 so:qao p
 fs:∀r∈p,r.1=[]\/r.1.dropLast=[]\/∃q∈p,q.1=r.1.dropLast/\FS q.2.1
 rt:∀r∈p,r.1=[]->r.2.1=qas
theorem PaneF.up{p:List Row}(P:PaneF p){r:Row}(hr:r∈p):∀(n k:Nat),r.1.length-k=n->0<k->k<=r.1.length->∃q∈p,q.1=r.1.take k
|0,k,e,h1,h2=>⟨r,hr,by rw[List.take_of_length_le (by lia)]⟩
|n+1,k,e,h1,h2=>by
  obtain⟨q,mq,eq⟩:=P.up hr n (k+1) (by lia) (by lia) (by lia)
  have ed:q.1.dropLast=r.1.take k:=by
   rw[eq,List.dropLast_eq_take,List.length_take,List.take_take]
   congr 1
   lia
  have lt:(r.1.take k).length=k:=by rw[List.length_take];lia
  rcases P.fs q mq with z|z|⟨x,mx,ex,_⟩
  ·have:=congrArg List.length eq
   rw[z,List.length_take] at this
   simp only[List.length_nil] at this
   lia
  ·rw[ed] at z
   rw[z] at lt
   simp only[List.length_nil] at lt
   lia
  ·exact⟨x,mx,by rw[ex,ed]⟩
theorem qgr{p rs:List Row}{f:List Str->Bool}(nd:(rs.map (·.1)).Nodup)(h:∀r∈rs,(∃q∈p,q.1=r.1)/\f r.1=true):rs.length<=(p.filter λr=>f r.1).length:=by
 have:=List.Nodup.length_le_of_subset nd (l₂:=(p.filter λr=>f r.1).map (·.1)) λw mw=>by
  obtain⟨r,mr,rfl⟩:=List.mem_map.mp mw
  obtain⟨⟨q,mq,e⟩,fr⟩:=h r mr
  exact List.mem_map.mpr ⟨q,List.mem_filter.mpr ⟨mq,by rw[e];exact fr⟩,e⟩
 rw[List.length_map,List.length_map] at this
 exact this
section
variable {m:Nat} {v:List Str} {one other p:List Row}
theorem q1o(P:PaneF p){w:List Str}(h:LA p one w≠rowAt one w)(op:∀q∈p,q.1 <+: w->q.1.length<w.length->q.2.1=qag):∃q∈p,q.1=w:=by
 by_cases c:∃q∈p,q.1=w
 ·exact c
 ·exact absurd (qdr (qah P.so) (λr z e=>c ⟨r,z,e⟩) λ⟨q,mq,a,b,d⟩=>d (op q mq a b)) h
theorem qqu(P:PaneF p){w:List Str}{x:Str×Str}(h:LA p one w=some x)(no:rowAt one w=none):∃q∈p,q.1=w:=by
 by_cases c:∃q∈p,q.1=w
 ·exact c
 ·exfalso
  have nw:∀r∈p,r.1≠w:=λr z e=>c ⟨r,z,e⟩
  by_cases hd:∃q∈p,q.1 <+: w/\q.1.length<w.length/\q.2.1≠qag
  ·rw[qfk (qah P.so) nw hd] at h
   cases h
  ·rw[qdr (qah P.so) nw hd,no] at h
   cases h
theorem qtc{v w:List Str}(h:v <+: w)(ne:v.length<w.length):qa0 w v=true:=by
 unfold qa0
 rw[decide_eq_true ne,preB_iff.mpr h]
 rfl
theorem qo8(so:qao p){q:Row}(mq:q∈p)(e:q.1=v):(p.filter λr=>qa0 r.1 v).length+1<=(p.filter λr=>preB r.1 v).length:=by
 have nd:((q::p.filter λr=>qa0 r.1 v).map (·.1)).Nodup:=by
  rw[List.map_cons]
  refine List.nodup_cons.mpr ⟨λz=>?_,(qah (so.sublist List.filter_sublist))⟩
  obtain⟨x,mx,ex⟩:=List.mem_map.mp z
  have:=(List.mem_filter.mp mx).2
  rw[ex,e] at this
  have:=(underB_iff.mp this).2
  exact this rfl
 have:=qgr (p:=p) (f:=λw=>preB w v) nd λr z=>by
  rcases List.mem_cons.mp z with y|y
  ·exact⟨⟨q,mq,by rw[y]⟩,by rw[y,e];exact preB_iff.mpr (List.prefix_refl _)⟩
  ·obtain⟨y1,y2⟩:=List.mem_filter.mp y
   exact⟨⟨r,y1,rfl⟩,preB_iff.mpr (underB_iff.mp y2).1⟩
 rw[List.length_cons] at this
 exact this
theorem qvj(O:HeapOk v one)(Q:HeapOk v other)(v0:v≠[])(P:PaneF p)(op:∀q∈p,q.1 <+: v->q.1≠v->q.2.1=qag)(at_:∀w,v <+: w->LA p one w=rowAt other w)
  (ih:∀mt1 t1 mt2 t2,one=(v,mt1)::t1->other=(v,mt2)::t2->(∀q∈p,q.1 <+: v->q.2.1=qag)->(qbg m v.length t1 t2).length<=(p.filter λr=>qa0 r.1 v).length):(qdb (m+1) one other).length<=(p.filter λr=>preB r.1 v).length:=by
 have ndp:=qah P.so
 have nil_at:∀w,rowAt ([]:List Row) w=none:=λw=>rfl
 have opl:∀q∈p,q.1 <+: v->q.1.length<v.length->q.2.1=qag:=λq mq a b=>op q mq a λz=>by rw[z] at b;lia
 have hd_at:∀ {mt:Str×Str} {tl:List Row},rowAt ((v,mt)::tl) v=some mt:=λ{mt tl}=>by
  unfold rowAt
  rw[List.find?_cons_of_pos (by simp)]
  rfl
 have tl_at:∀ {mt:Str×Str} {tl:List Row} {w:List Str},w≠v->rowAt ((v,mt)::tl) w=rowAt tl w:=λ{mt tl w} h=>by
  unfold rowAt
  rw[List.find?_cons_of_neg (by simpa using λz:v=w=>h z.symm)]
 unfold qdb
 by_cases eo:one=other
 ·rw[if_pos eo];exact Nat.zero_le _
 ·rw[if_neg eo]
  rcases Q with rfl|⟨mt,tl,rfl,H⟩
  ·rcases O with rfl|⟨mt1,t1,rfl,H1⟩
   ·exact absurd rfl eo
   ·obtain⟨q,mq,e⟩:=q1o P (w:=v) (one:=(v,mt1)::t1) (by rw[at_ v (List.prefix_refl _),hd_at,nil_at];simp) opl
    show 1<=_
    exact List.length_pos_of_mem (List.mem_filter.mpr ⟨mq,by rw[e];exact preB_iff.mpr (List.prefix_refl _)⟩)
  ·dsimp only
   have sorted:=H.so
   have pres:∀r∈(v,mt)::tl,v <+: r.1:=λr z=>by
    rcases List.mem_cons.mp z with e|z
    ·rw[e];exact List.prefix_refl _
    ·exact(H.cl.un r z).1
   by_cases bf:(isF one&&isF ((v,mt)::tl))=true
   ·rw[if_pos bf]
    obtain⟨b1,b2⟩:=Bool.and_eq_true_iff.mp bf
    have f2:=isF_iff.mp b2
    rcases O with rfl|⟨mt1,t1,rfl,H1⟩
    ·cases b1
    have f1:=isF_iff.mp b1
    have le1:(qd9 ((v,mt)::qbg m v.length t1 tl) ((v,qas,qav)::tl)).length<=(qbg m v.length t1 tl).length+1:=by
     unfold qd9
     split
     ·rename_i l
      have l:tl.length+1<(qbg m v.length t1 tl).length+1:=l
      show tl.length+1<=_
      lia
     ·exact Nat.le_refl _
    have le2:(qd9 ((v,mt)::qbg m v.length t1 tl) ((v,qas,qav)::tl)).length<=tl.length+1:=by
     unfold qd9
     split
     ·exact Nat.le_refl _
     ·rename_i l
      have l:¬ tl.length+1<(qbg m v.length t1 tl).length+1:=l
      show (qbg m v.length t1 tl).length+1<=_
      lia
    by_cases c:∃q∈p,q.1=v
    ·obtain⟨q,mq,e⟩:=c
     have sp:=qo8 P.so mq e
     have av:=at_ v (List.prefix_refl _)
     rw[hd_at] at av
     have lr:=qe5 (t:=(v,mt1)::t1) ndp mq
     rw[e,av] at lr
     by_cases fq:q.2.1=qag
     ·have:=ih mt1 t1 mt tl rfl rfl λx mx px=>by
       by_cases ex:x.1=v
       ·rw[qs5 P.so mx mq (ex.trans e.symm)];exact fq
       ·exact op x mx px ex
      exact Nat.le_trans le1 (by lia)
     ·by_cases sq:q.2.1=qas
      ·have:tl.length<=(p.filter λr=>qa0 r.1 v).length:=qgr (p:=p) (f:=λw=>qa0 w v) (qah H.cl.so) λr z=>by
        obtain⟨u1,u2⟩:=H.cl.un r z
        refine⟨?_,qtc u1 u2⟩
        by_cases cc:∃x∈p,x.1=r.1
        ·exact cc
        ·exfalso
         have:=at_ r.1 u1
         rw[qfk ndp (λx mx ex=>cc ⟨x,mx,ex⟩) ⟨q,mq,by rw[e];exact u1,by rw[e];exact u2,fq⟩,qc7 (qah sorted) (List.mem_cons_of_mem _ z)] at this
         cases this
       exact Nat.le_trans le2 (by lia)
      ·exfalso
       by_cases gq:q.2.1=qax
       ·rw[if_pos gq] at lr;cases lr
       ·rw[if_neg gq,if_neg sq] at lr
        exact fq (by rw[←Option.some.inj lr];exact f2)
    ·exfalso
     have none_under:∀q∈p,¬ v <+: q.1:=λq mq pv=>by
      obtain⟨x,mx,ex⟩:=P.up mq _ v.length rfl (List.length_pos_iff.mpr v0) pv.length_le
      exact c ⟨x,mx,by rw[ex];exact pre_take pv⟩
     refine eo (qhu H1.so H.so λw=>?_)
     by_cases pw:v <+: w
     ·rw[←at_ w pw]
      refine(qdr ndp (λr z e=>none_under r z (by rw[e];exact pw)) λ⟨q,mq,a,b,d⟩=>?_).symm
      rcases Nat.lt_or_ge q.1.length v.length with y|y
      ·exact d (opl q mq (List.prefix_of_prefix_length_le a pw (by lia)) y)
      ·exact none_under q mq (List.prefix_of_prefix_length_le pw a y)
     ·have out:∀ {mt:Str×Str} {t:List Row},HeapC v mt t->rowAt ((v,mt)::t) w=none:=λ{mt t} HH=>qcx λr z e=>by
       rcases List.mem_cons.mp z with y|y
       ·rw[y] at e;exact pw (by rw[←e];exact List.prefix_refl _)
       ·exact pw (by rw[←e];exact(HH.cl.un r y).1)
      rw[out H1,out H]
   ·rw[if_neg bf]
    refine qgr (p:=p) (f:=λw=>preB w v) (qah sorted) λr z=>⟨?_,preB_iff.mpr (pres r z)⟩
    have ar:=at_ r.1 (pres r z)
    rw[qc7 (qah sorted) z] at ar
    rcases O with rfl|⟨mt1,t1,rfl,H1⟩
    ·exact qqu P ar rfl
    ·by_cases e:r.1=v
     ·rw[e] at ar ⊢
      refine q1o P (one:=(v,mt1)::t1) (w:=v) ?_ opl
      rw[ar,hd_at]
      intro y
      have er:r=(v,mt):=qs5 sorted z List.mem_cons_self e
      have em:mt=mt1:=by rw[er] at y;exact Option.some.inj y
      subst em
      by_cases f:mt.1=qag
      ·exact bf (Bool.and_eq_true_iff.mpr ⟨isF_iff.mpr f,isF_iff.mpr f⟩)
      ·rw[H.no f,H1.no f] at eo
       exact eo rfl
     ·refine qqu P ar ?_
      rw[tl_at e]
      have zt:r∈tl:=by
       rcases List.mem_cons.mp z with y|y
       ·rw[y] at e;exact absurd rfl e
       ·exact y
      have f2:mt.1=qag:=by
       by_cases f:mt.1=qag
       ·exact f
       ·rw[H.no f] at zt;cases zt
      have nf:mt1.1≠qag:=λf1=>bf (Bool.and_eq_true_iff.mpr ⟨isF_iff.mpr f1,isF_iff.mpr f2⟩)
      rw[H1.no nf]
      rfl
end
theorem qlt{p:List Row}{b:List Str}{f:Str->Nat}:∀ {ks:List Str},ks.Nodup->(∀z∈ks,f z<=(p.filter λr=>preB r.1 (b++[z])).length)->(ks.map f).sum<=(p.filter λr=>qa0 r.1 b&&decide (r.1.getD b.length "" ∈ ks)).length
|[],_,_=>Nat.zero_le _
|z::ks,nd,h=>by
  have nd':=List.nodup_cons.mp nd
  have ih:=qlt (f:=f) nd'.2 λy my=>h y (List.mem_cons_of_mem _ my)
  have hz:=h z List.mem_cons_self
  rw[List.map_cons,List.sum_cons]
  have key:(p.filter λr=>preB r.1 (b++[z])).length+(p.filter λr=>qa0 r.1 b&&decide (r.1.getD b.length "" ∈ ks)).length<=(p.filter λr=>qa0 r.1 b&&decide (r.1.getD b.length "" ∈ z::ks)).length:=by
   clear ih hz h
   induction p with
  |nil=>exact Nat.le_refl _
  |cons r p ihp =>
    by_cases pz:preB r.1 (b++[z])=true
    ·have pp:=preB_iff.mp pz
     have nz:r.1.getD b.length "" = z:=qgb pp
     have un:qa0 r.1 b=true:=qtc ((List.prefix_append b [z]).trans pp) (by have:=pp.length_le;rw[List.length_append] at this;exact this)
     rw[List.filter_cons_of_pos (p:=λr:Row=>preB r.1 (b++[z])) pz,List.filter_cons_of_neg (p:=λr:Row=>qa0 r.1 b&&decide (r.1.getD b.length "" ∈ ks)) (by rw[un,nz,decide_eq_false nd'.1];decide),List.filter_cons_of_pos (p:=λr:Row=>qa0 r.1 b&&decide (r.1.getD b.length "" ∈ z::ks)) (by rw[un,nz,decide_eq_true List.mem_cons_self];rfl),List.length_cons,List.length_cons]
     lia
    ·rw[List.filter_cons_of_neg (p:=λr:Row=>preB r.1 (b++[z])) pz]
     by_cases c:(qa0 r.1 b&&decide (r.1.getD b.length "" ∈ ks))=true
     ·obtain⟨c1,c2⟩:=Bool.and_eq_true_iff.mp c
      rw[List.filter_cons_of_pos (p:=λr:Row=>qa0 r.1 b&&decide (r.1.getD b.length "" ∈ ks)) c,List.filter_cons_of_pos (p:=λr:Row=>qa0 r.1 b&&decide (r.1.getD b.length "" ∈ z::ks)) (by rw[c1,decide_eq_true (List.mem_cons_of_mem _ (of_decide_eq_true c2))];rfl),List.length_cons,List.length_cons]
      lia
     ·rw[List.filter_cons_of_neg (p:=λr:Row=>qa0 r.1 b&&decide (r.1.getD b.length "" ∈ ks)) c]
      refine Nat.le_trans ihp ?_
      by_cases d:(qa0 r.1 b&&decide (r.1.getD b.length "" ∈ z::ks))=true
      ·rw[List.filter_cons_of_pos (p:=λr:Row=>qa0 r.1 b&&decide (r.1.getD b.length "" ∈ z::ks)) d,List.length_cons]
       lia
      ·rw[List.filter_cons_of_neg (p:=λr:Row=>qa0 r.1 b&&decide (r.1.getD b.length "" ∈ z::ks)) d]
       exact Nat.le_refl _
  lia
theorem qld:∀(m:Nat) (b:List Str) (one other p:List Row),Cl b one->Cl b other->(∀r∈one,r.1.length<=b.length+m)->(∀r∈other,r.1.length<=b.length+m)->PaneF p->(∀q∈p,q.1 <+: b->q.2.1=qag)->(∀w,b <+: w->b.length<w.length->LA p one w=rowAt other w) ->
  (qbg m b.length one other).length<=(p.filter λr=>qa0 r.1 b).length
|0,b,one,other,p,O,Q,h1,h2,P,op,at_=>by
  have e:∀ {rs:List Row},Cl b rs->(∀r∈rs,r.1.length<=b.length+0)->rs=[]:=λ{rs} C h=>by
   cases rs with
  |nil=>rfl
  |cons r rs =>
    have:=(C.un r List.mem_cons_self).2
    have:=h r List.mem_cons_self
    lia
  rw[e O h1,e Q h2]
  have k0:qbw b.length [] []=[]:=by
   cases hk:qbw b.length [] [] with
  |nil=>rfl
  |cons z ks =>
    have:z∈qbw b.length [] []:=by rw[hk];exact List.mem_cons_self
    rcases keysR_mem.mp this with q|q<;>cases q
  unfold qbg
  rw[k0]
  exact Nat.zero_le _
|m+1,b,one,other,p,O,Q,h1,h2,P,op,at_=>by
  have nd:(qbw b.length one other).Nodup:=by
   rw[List.nodup_iff_pairwise_ne]
   exact(qgu b.length one other).imp λ{x y} q e=>by
    rw[e] at q
    exact absurd q (by rw[qlc q];decide)
  have each:∀z∈qbw b.length one other,(qdb (m+1) (grp b.length z one) (grp b.length z other)).length<=(p.filter λr=>preB r.1 (b++[z])).length:=λz _=>by
   have gone:∀ {rs:List Row} {w:List Str},Cl b rs->b++[z] <+: w->rowAt (grp b.length z rs) w=rowAt rs w:=λ{rs w} C pw=>qfd (λr e=>by
    rw[grp_mem]
    exact⟨λq=>q.1,λq=>⟨q,by unfold nmAt;rw[e];exact qgb pw⟩⟩) (qah (C.so.sublist List.filter_sublist)) (qah C.so)
   have up:∀ {rs:List Row} {mt:Str×Str} {t:List Row},(∀r∈rs,r.1.length<=b.length+(m+1))->grp b.length z rs=(b++[z],mt)::t->∀r∈t,r.1.length<=(b++[z]).length+m:=λh e r mr=>by
    have:=h r (grp_mem.mp (by rw[e];exact List.mem_cons_of_mem _ mr)).1
    rw[List.length_append,List.length_singleton]
    lia
   have cl:∀ {rs:List Row} {mt:Str×Str} {t:List Row},Cl b rs->grp b.length z rs=(b++[z],mt)::t->Cl (b++[z]) t:=λC e=>by
    rcases C.grp z with q|⟨_,_,q,H⟩
    ·rw[q] at e;cases e
    ·rw[e] at q
     cases q
     exact H.cl
   have at2:∀w,b++[z] <+: w->LA p (grp b.length z one) w=rowAt (grp b.length z other) w:=λw pw=>by
    have lw:=pw.length_le
    rw[List.length_append,List.length_singleton] at lw
    rw[gone Q pw,←at_ w ((List.prefix_append b [z]).trans pw) lw]
    exact qiz (λ_ _=>rfl) (gone O pw)
   refine qvj (O.grp z) (Q.grp z) (by simp) P (λq mq pq nq=>?_) at2 λmt1 t1 mt2 t2 e1 e2 fo=>qld m (b++[z]) t1 t2 p (cl O e1) (cl Q e2) (up h1 e1) (up h2 e2) P fo λw pw lw=>?_
   ·refine op q mq ?_
    have lt:=qll pq (Ne.symm nq)
    rw[List.length_append,List.length_singleton] at lt
    exact List.prefix_of_prefix_length_le pq (List.prefix_append b [z]) (by lia)
   ·have:=at2 w pw
    have ne:w≠b++[z]:=λe=>by rw[e] at lw;lia
    have cut:∀ {mt:Str×Str} {t:List Row},rowAt ((b++[z],mt)::t) w=rowAt t w:=λ{mt t}=>by
     unfold rowAt
     rw[List.find?_cons_of_neg (by simpa using λy:b++[z]=w=>ne y.symm)]
    rw[e2,cut] at this
    rw[←this]
    exact qiz (λ_ _=>rfl) (by rw[e1,cut])
  have:=qlt (f:=λz=>(qdb (m+1) (grp b.length z one) (grp b.length z other)).length) nd each
  unfold qbg
  rw[List.length_flatMap]
  refine Nat.le_trans this ?_
  have all:∀q:List Row,(q.filter λr=>qa0 r.1 b&&decide (r.1.getD b.length "" ∈ qbw b.length one other)).length<=(q.filter λr=>qa0 r.1 b).length:=λq=>by
   induction q with
  |nil=>exact Nat.le_refl _
  |cons r q ih =>
    by_cases u:qa0 r.1 b=true
    ·rw[List.filter_cons_of_pos (p:=λr:Row=>qa0 r.1 b) u]
     by_cases c:(qa0 r.1 b&&decide (r.1.getD b.length "" ∈ qbw b.length one other))=true
     ·rw[List.filter_cons_of_pos (p:=λr:Row=>qa0 r.1 b&&decide (r.1.getD b.length "" ∈ qbw b.length one other)) c,List.length_cons,List.length_cons]
      lia
     ·rw[List.filter_cons_of_neg (p:=λr:Row=>qa0 r.1 b&&decide (r.1.getD b.length "" ∈ qbw b.length one other)) c,List.length_cons]
      lia
    ·rw[List.filter_cons_of_neg (p:=λr:Row=>qa0 r.1 b) u,List.filter_cons_of_neg (p:=λr:Row=>qa0 r.1 b&&decide (r.1.getD b.length "" ∈ qbw b.length one other)) (by rw[Bool.and_eq_true];exact λz=>u z.1)]
     exact ih
  exact all p
theorem qu0{m:Nat}{one other p:List Row}(O:Cl [] one)(Q:Cl [] other)(h1:∀r∈one,r.1.length<=m)(h2:∀r∈other,r.1.length<=m)(P:PaneF p)(at_:∀w,w≠[]->LA p one w=rowAt other w):(qdj m one other).length<=p.length:=by
 unfold qdj
 split
 ·exact Nat.zero_le _
 ·by_cases c:∃q∈p,q.1=[]
  ·obtain⟨q,mq,e⟩:=c
   have sq:=P.rt q mq e
   have:other.length<=(p.filter λr=>qa0 r.1 []).length:=qgr (p:=p) (f:=λw=>qa0 w []) (qah Q.so) λr z=>by
    obtain⟨u1,u2⟩:=Q.un r z
    refine⟨?_,qtc u1 u2⟩
    by_cases cc:∃x∈p,x.1=r.1
    ·exact cc
    ·exfalso
     have:=at_ r.1 (Q.tree.cl r z).1
     rw[qfk (qah P.so) (λx mx ex=>cc ⟨x,mx,ex⟩) ⟨q,mq,by rw[e];exact List.nil_prefix,by rw[e];exact u2,by rw[sq];exact mne.1⟩,qc7 (qah Q.so) z] at this
     cases this
   have sp:=qo8 P.so mq e
   have le:(p.filter λr=>preB r.1 []).length<=p.length:=List.length_filter_le ..
   have:=quz m one other
   unfold qd9
   split
   ·rw[List.length_cons];lia
   ·rename_i l
    rw[List.length_cons] at l
    lia
  ·have:=qld m [] one other p O Q (λr z=>by have:=h1 r z;simpa using this) (λr z=>by have:=h2 r z;simpa using this) P (λq mq pq=>absurd ⟨q,mq,List.prefix_nil.mp pq⟩ c) λw _ lw=>at_ w (List.length_pos_iff.mp (by simpa using lw))
   have le:(p.filter λr=>qa0 r.1 []).length<=p.length:=List.length_filter_le ..
   have this:(qbg m 0 one other).length<=(p.filter λr=>qa0 r.1 []).length:=this
   unfold qd9
   split
   ·lia
   ·lia
end L2
set_option maxHeartbeats 4000000
namespace K24
open PySem L2
local macro_rules|`(tactic| simp! only[$xs,*])=>`(tactic| simp only[qfy,qpa,qly,qlx,qj4,vIfS,vBl,vOp,vLt,vLe,vGt,vGe,vI2',vI2,vVar,vF1,vLen,qif,qh3,qx8,vStr,vRet,qns,q4j,vIxR,qbv,vC,vAdd,vSub,vMul,vDiv,vMod,vPow,vEq,vNe,qd5,vSlR,qcu,qdk,vNeg,q4g,qal,qaa,vNil,vTup,vLst,vSet,qfz,qfh,ownL,vFor,qlz,q4k,qcr,qie,qj5,isTy,qfi,qfg,vOrT,q4i,qnr,vOrE,vIfE,vAsg,qbl,qqn,qd6,qqo,qt0,vFrz,frz,q4h,vAll,qwv,vIsN,qba,dV,scal,qxy,qxx,qtj,qxw,qte,qtd,qxe,qxd,qr2,qxc,qrx,qrw,qob,qrv,qr1,qr0,qoc,qrz,qxa,qky,qxb,qry,qsz,qos,qx7,vTry,VEnds.calm,VEnds.wiped,qlw,vDIn,qo9,qfx,qgq,ownT,qer,qtz,qpb,qnk,qql,tupR,qqm,vStR,vNeD,vIn,strsOf,qiw,Option.map_some,List.map_cons,List.map_nil,List.length_cons,List.length_nil,List.cons_append,List.nil_append,List.getElem?_cons_zero,List.getElem?_cons_succ,List.set_cons_zero,List.set_cons_succ,List.replicate_succ,List.replicate_zero,Nat.reduceSub,Nat.reduceAdd,if_true,if_false,ite_true,ite_false,Bool.not_true,Bool.not_false,decide_true,decide_false,eq_int,eq_str,qyn,qre,qyq,qys,true_and,and_true,Nat.zero_le,List.take_succ_cons,List.take_zero,reduceIte,Bool.false_eq_true,eq_self,List.length_map,V.int.injEq,V.str.injEq,CDiv,Int.reduceLT,Int.zero_add,and_self,List.cons.injEq,D.scr.injEq,D.int.injEq,D.str.injEq,D.tup.injEq,D.lst.injEq,D.bl.injEq,and_assoc,exists_and_left,exists_eq_left,exists_eq_left',qhn,qm2,qwl,qwk,qu1,qym,qn9,Int.reduceLE,Int.le_refl,qwt,qrp,qyk,qur,Option.some.injEq,$xs,*])
local macro_rules|`(tactic| dsimp! only[$xs,*])=>`(tactic| ((try dsimp only[qfy,qpa,qly,qlx,qj4,vIfS,vBl,vOp,vLt,vLe,vGt,vGe,vI2',vI2,vVar,vF1,vLen,qif,qh3,qx8,vStr,vRet,qns,q4j,vIxR,qbv,vC,vAdd,vSub,vMul,vDiv,vMod,vPow,vEq,vNe,qd5,vSlR,qcu,qdk,vNeg,q4g,qal,qaa,vNil,vTup,vLst,vSet,qfz,qfh,ownL,vFor,qlz,q4k,qcr,qie,qj5,isTy,qfi,qfg,vOrT,q4i,qnr,vOrE,vIfE,vAsg,qbl,qqn,qd6,qqo,qt0,vFrz,frz,q4h,vAll,qwv,vIsN,qba,dV,scal,qxy,qxx,qtj,qxw,qte,qtd,qxe,qxd,qr2,qxc,qrx,qrw,qob,qrv,qr1,qr0,qoc,qrz,qxa,qky,qxb,qry,qsz,qos,qx7,vTry,VEnds.calm,VEnds.wiped,qlw,vDIn,qo9,qfx,qgq,ownT,qer,qtz,qpb,qnk,qql,tupR,qqm,vStR,vNeD,vIn,strsOf,Option.map_some,List.map_cons,List.map_nil,List.length_cons,List.length_nil,List.cons_append,List.nil_append,List.getElem?_cons_zero,List.getElem?_cons_succ,List.set_cons_zero,List.set_cons_succ,List.take_succ_cons,List.take_zero,CDiv,$xs,*]);(try simp! only[$xs,*])))
local macro_rules | `(tactic| rfl')=>`(tactic| dsimp! only [true_and])
local macro_rules | `(tactic| ac_rfl)=>`(tactic| simp! only [true_and])
def NS:Str:="abcdefghijklmnopqrstuvwxyz0123456789"
def qut(ns:List Int)(k:Int):Int:=(ns[k.toNat]?).getD 0
def qcq:DP:=λds Q=>∃ns k,ds=[.scr ns,.int k]/\0<=k/\Q (.val (.int (qut ns k)))
theorem qmr:∀ds Q,qcq ds Q->ds.length=2:=by rintro ds Q ⟨_,_,rfl,_⟩;rfl
def qar:DP:=λds Q=>∃c t m,ds=[.int c,.int t,.int m]/\0<=t/\0<m/\∀i,0<=i->i<m->(t=0->i=(c%10 ^ 18+1)*48271%99991%m)->Q (.val (.int i))
theorem qsp:∀ds Q,qar ds Q->ds.length=3:=by rintro ds Q ⟨_,_,_,rfl,_⟩;rfl
def qbj:DP:=λds Q=>∃c v,ds=[.int c,.int v]/\0<=c/\c<10 ^ 19/\0<=v/\∀z:Str,1<=z.length->z.length<=12->Q (.val (.str z))
theorem qmu:∀ds Q,qbj ds Q->ds.length=2:=by rintro ds Q ⟨_,_,rfl,_⟩;rfl
abbrev En(Q:R->Prop):VEnds:={ nx:=λ_=>Q (.val .non),rt:=Q }
def qc2:DP:=λds Q=>∃c,ds=[.int c]/\∀t:Str,Q (.val (.str t))
theorem qla:∀ds Q,qc2 ds Q->ds.length=1:=by rintro ds Q ⟨_,rfl,_⟩;rfl
def PS94:Str:=(" !\"#$&'()*+,-./0123456789:;<=>?@ABCDEFGHIJKLMNOPQRSTUVWXYZ[\\]^_`" : Str)++("abcdefghijklmnopqrstuvwxyz{|}~" : Str)
theorem q29:PS94.length=94:=by decide +kernel
theorem qlg:∀ {es:List D},(∀e∈es,∃c∈PS94.cps.toList,e=.str ⟨#[c]⟩)->∃ls:List Nat,es=(ls.map λc=>(⟨#[c]⟩:Str)).map D.str/\(∀c∈ls,c∈PS94.cps.toList)/\ls.length=es.length
|[],_=>⟨[],rfl,λc m=>(by cases m),rfl⟩
|e::es,h=>by
  obtain⟨ls,h1,h2,h3⟩:=qlg λx m=>h x (List.mem_cons_of_mem e m)
  obtain⟨c,mc,ec⟩:=h e (List.mem_cons_self ..)
  exact⟨c::ls,by rw[List.map_cons,List.map_cons,←h1,ec],λx m=>(List.mem_cons.mp m).elim (λq=>q▸mc) (h2 x),by rw[List.length_cons,List.length_cons,h3]⟩
theorem qoy:∀ls:List Nat,((ls.map λc=>(⟨#[c]⟩:Str)).map (·.length)).sum=ls.length
|[]=>rfl
|c::ls=>by
  rw[List.map_cons,List.map_cons,List.sum_cons,qoy ls,List.length_cons]
  show 1+ls.length=_
  omega
def qb8:DP:=λds Q=>∃m c s v,ds=[.str m,.int c,.int s,.int v]/\0<=s/\s<10 ^ 19/\0<v/\∀z:Str,(m≠qcf->m≠qcg->z=qav)->Q (.val (.str z))
theorem qmw:∀ds Q,qb8 ds Q->ds.length=4:=by rintro ds Q ⟨_,_,_,_,rfl,_⟩;rfl
def qb0:DP:=λds Q=>∃rs w,ds=[qaq (rs.map prR),wayD w]/\("" : Str)∉w/\w.length<=1000/\Q (.val (.bl (qe3 rs w)))
def PFS(p:List Row):Prop:=∀r∈p,r.1=[]\/r.1.dropLast=[]\/∃q∈p,q.1=r.1.dropLast/\FS q.2.1
theorem q17{p:List Row}{w:List Str}(h:qa7 p w=false):qe3 p w=false:=by
 unfold qa7 at h
 unfold qe3
 rw[List.any_eq_false] at h ⊢
 intro k hk q
 have e:=of_decide_eq_true q
 have:=h k hk
 rw[e] at this
 exact this (by decide +kernel)
structure SPn(n:Nat)(p:List Row):Prop where
 ok:PaneOk p
 fs:PFS p
 nm:∀r∈p,Wy14 r.1
 ns:∀r∈p,r.2.1=qas->qe3 p r.1=false
 len:p.length<=n
def TrK(rs:List Row):Prop:=∀r∈rs,r.1≠[]/\((r.2.1=qcf\/r.2.1=qcg)\/(r.2.1=qag/\r.2.2=qav))
theorem q1b{i:Nat}{p rs:List Row}{fs:List (List Str)}(P:PInv i rs fs)(K:TrK rs)(hp:p.Perm rs)(so:qao p):Cl [] p:=by
 refine⟨so,λr m=>⟨List.nil_prefix,List.length_pos_iff.mpr (K r (hp.mem_iff.mp m)).1⟩,λr m=>?_,λr m=>(K r (hp.mem_iff.mp m)).2⟩
 have mr:=hp.mem_iff.mp m
 rcases P.row r mr with q|⟨_,_,f,_⟩
 ·exact absurd q.1 (K r mr).1
 ·rcases f.2 with e|⟨q,mq,e,fq⟩
  ·exact .inl e
  ·refine .inr ⟨q,hp.mem_iff.mpr mq,e,?_⟩
   rcases fq with z|z
   ·exact z
   ·obtain⟨n1,n2,n3,n4,n5,n6,n7,n8,n9,_⟩:=mne
    rcases (K q mq).2 with (y|y)|⟨y,_⟩
    ·rw[y] at z;exact absurd z n6
    ·rw[y] at z;exact absurd z n7
    ·exact y
def qc5:DP:=λds Q=>∃(cs:List Int) (s:Int),ds=[.lst (cs.map D.int),.int s]/\cs.length<=60/\0<=s/\s<10 ^ 19/\∀p,SPn (cs.length+1) p->Q (.own (qab p))
def qdo:DP:=λds Q=>∃(cs:List Int) (s:Int),ds=[.lst (cs.map D.int),.int s]/\cs.length<=60/\0<=s/\s<10 ^ 19/\∀p,Cl [] p->p.length<=cs.length+1->(∀r∈p,Wy14 r.1)->Q (.own (qab p))
theorem qic:∀ds Q,qb0 ds Q->ds.length=2:=by rintro ds Q ⟨_,_,rfl,_⟩;rfl
theorem qmv:∀ds Q,qc5 ds Q->ds.length=2:=by rintro ds Q ⟨_,_,rfl,_⟩;rfl
theorem qmx:∀ds Q,qdo ds Q->ds.length=2:=by rintro ds Q ⟨_,_,rfl,_⟩;rfl
def NmOk(rs:List Row):Prop:=∀r∈rs,WyOk r.1
def qfb:DP:=λds Q=>∃w,ds=[wayD w]/\Q (.val (wayD w.dropLast))
def qc1:DP:=λds Q=>∃rs:List Row,ds=[qab rs]/\(rs.map (·.1)).Nodup/\rs.length<64/\∀ts:List Row,ts.Perm rs->qao ts->Q (.own (qab ts))
def qce:DP:=λds Q=>∃p:List Row,ds=[qab p]/\(p.map (·.1)).Nodup/\NmOk p/\p.length<=400/\Q (.own (qaq (p.map prM)))
def qf7:DP:=λds Q=>∃o:Option Str,ds=[(o.map D.str).getD .non]/\Q (.val (.bl (qb9 o)))
def qb7:DP:=λds Q=>∃p tr:List Row,ds=[qab p,qab tr]/\(p.map (·.1)).Nodup/\NmOk p/\p.length<=400/\Clo tr/\NmOk tr/\tr.length<=400/\Q (.own (qaq ((hidW p tr).map λw=>(w,.bl true))))
def qbz:DP:=λds Q=>∃p tr:List Row,ds=[qab p,qab tr]/\(p.map (·.1)).Nodup/\NmOk p/\p.length<=400/\Clo tr/\NmOk tr/\tr.length<=400/\Q (.own (qab (qat p tr)))
def qf8:DP:=λds Q=>∃w m t,ds=[wayD w,.str m,.str t]/\Q (.val (rowD (qep (w,m,t))))
def qk1:DP:=λds Q=>∃p tr:List Row,ds=[qab p,qab tr]/\PaneOk p/\NmOk p/\p.length<=400/\TreeOk tr/\NmOk tr/\tr.length+bulk p<=63/\(TreeOk (qa9 p tr)->NmOk (qa9 p tr)->(qa9 p tr).length<=tr.length+bulk p->Q (.own (qab (qa9 p tr))))
def q4u(ps:List (List Row)):Nat:=(ps.map bulk).sum
structure PanesOk(ps:List (List Row)):Prop where
 ok:∀p∈ps,PaneOk p/\NmOk p/\p.length<=400
 few:q4u ps<=150
theorem qsm:∀ds Q,qfb ds Q->ds.length=1:=by rintro ds Q ⟨_,rfl,_⟩;rfl
theorem qk8:∀ds Q,qc1 ds Q->ds.length=1:=by rintro ds Q ⟨_,rfl,_⟩;rfl
theorem qk9:∀ds Q,qce ds Q->ds.length=1:=by rintro ds Q ⟨_,rfl,_⟩;rfl
theorem qso:∀ds Q,qf7 ds Q->ds.length=1:=by rintro ds Q ⟨_,rfl,_⟩;rfl
theorem qhj:∀ds Q,qb7 ds Q->ds.length=2:=by rintro ds Q ⟨_,_,rfl,_⟩;rfl
theorem qia:∀ds Q,qbz ds Q->ds.length=2:=by rintro ds Q ⟨_,_,rfl,_⟩;rfl
theorem qsq:∀ds Q,qf8 ds Q->ds.length=3:=by rintro ds Q ⟨_,_,_,rfl,_⟩;rfl
theorem qvg:∀ds Q,qk1 ds Q->ds.length=2:=by rintro ds Q ⟨_,_,rfl,_⟩;rfl
def qcm:DP:=λds Q=>∃p tr:List Row,ds=[qab p,qab tr]/\PaneOk p/\NmOk p/\p.length<=100/\TreeOk tr/\NmOk tr/\tr.length+bulk p<=63/\(TreeOk (qa9 p tr)->NmOk (qa9 p tr)->(qa9 p tr).length<=tr.length+bulk p->Q (.own (qab (qa9 p tr))))
theorem qpy:∀ds Q,qcm ds Q->ds.length=2:=by rintro ds Q ⟨_,_,rfl,_⟩;rfl
def g_same:DP:=λds Q=>∃rs:List Row,ds=[qab rs,qab rs]/\rs.length<=1000/\Q (.val (.bl true))
theorem qvh:∀ds Q,g_same ds Q->ds.length=2:=by rintro ds Q ⟨_,rfl,_⟩;rfl
theorem qnt{t:TVT}{a u:TVS}{Dv:VEnds}{τ:VSt}(P:Bool->Prop)(ht:∀Y:Bool->Prop,(∀c,P c->Y c)->t τ Y)(ha:P true->a { nx:=u Dv,rt:=Dv.rt,bk:=Dv.bk,ct:=Dv.ct,xc:=Dv.xc,ro:=Dv.ro,rn:=Dv.rn } τ)(hb:P false->u Dv τ):vSeq (vIfS t a qbv) u Dv τ:=qfj (v_if P ht ha hb)
def qbs:DP:=λds Q=>∃(rs:List Row) (d:Nat),ds=[qab rs,.int d]/\(∀r∈rs,d<r.1.length)/\rs.length<=1000/\Q (.val (hpD d rs))
def qdn:DP:=λds Q=>∃(d:Nat) (one other:List Row) (W:List (List Str)),ds=[hpD d one,hpD d other]/\Few one other W/\Q (.own (.lst ((qbw d one other).map D.str)))
def qby:DP:=λds Q=>∃rs:List Row,ds=[qab rs]/\Q (.val (.bl (isF rs)))
def qc4:DP:=λds Q=>∃a b:List Row,ds=[qab a,qab b]/\Q (.val (qab (qd9 a b)))
def qbf(m:Nat):DP:=λds Q=>∃(v:List Str) (one other:List Row) (W:List (List Str)),ds=[qab one,qab other]/\0<m/\HeapOk v one/\HeapOk v other/\Few one other W/\(∀r∈one,r.1.length<v.length+m)/\(∀r∈other,r.1.length<v.length+m)/\Q (.own (qab (qdb m one other)))/\Q (.val (qab (qdb m one other)))
def qa1(m:Nat):DP:=λds Q=>∃(b:List Str) (one other:List Row) (W:List (List Str)),ds=[qab one,qab other,.int b.length]/\Cl b one/\Cl b other/\Few one other W/\(∀r∈one,r.1.length<=b.length+m)/\(∀r∈other,r.1.length<=b.length+m)/\Q (.own (qab (qbg m b.length one other)))
theorem qib:∀ds Q,qbs ds Q->ds.length=2:=by rintro ds Q ⟨_,_,rfl,_⟩;rfl
theorem qmt:∀ds Q,qdn ds Q->ds.length=2:=by rintro ds Q ⟨_,_,_,_,rfl,_⟩;rfl
theorem qji:∀ds Q,qby ds Q->ds.length=1:=by rintro ds Q ⟨_,rfl,_⟩;rfl
theorem qms:∀ds Q,qc4 ds Q->ds.length=2:=by rintro ds Q ⟨_,_,rfl,_⟩;rfl
theorem qh9(m:Nat):∀ds Q,qbf m ds Q->ds.length=2:=by rintro ds Q ⟨_,_,_,_,rfl,_⟩;rfl
theorem qhi(m:Nat):∀ds Q,qa1 m ds Q->ds.length=3:=by rintro ds Q ⟨_,_,_,_,rfl,_⟩;rfl
theorem qjl:∀ds Q,¬ qbf 0 ds Q:=by
 rintro ds Q ⟨_,_,_,_,_,h,_⟩
 exact absurd h (by decide)
theorem qmn(ds es:List D)(Y:Bool->Prop)(y:Y (decide (es.length<ds.length))):(vBl (vOp vLt (vF1 vLen (vVar 1)) (vF1 vLen (vVar 0)))) [some (.val (.lst ds)),some (.val (.lst es))] Y:=by
 rfl'
 rw[show decide ((es.length:Int)<ds.length)=decide (es.length<ds.length) from decide_eq_decide.mpr Int.ofNat_lt]
 exact y
structure TreeC(t:List Row):Prop where
 cl:Cl [] t
 nm:NmOk t
def qfn:DP:=λds Q=>∃one other:List Row,ds=[qab one,qab other]/\Cl [] one/\Cl [] other/\(one=other\/∃W,Few one other W)/\(∀r∈one,r.1.length<=20)/\(∀r∈other,r.1.length<=20)/\Q (.own (qab (qdj 20 one other)))
theorem qvf:∀ds Q,qfn ds Q->ds.length=2:=by rintro ds Q ⟨_,_,rfl,_⟩;rfl
theorem qw1:WyOk []:=⟨Nat.zero_le _,λz m=>by cases m⟩
theorem TreeC.shows{one other:List Row}(A:TreeC one)(B:TreeC other):Shows one other (qdj 20 one other)/\NmOk (qdj 20 one other):=by
 refine⟨qpt (m:=20) A.cl B.cl (λr m=>(A.nm r m).1) (λr m=>(B.nm r m).1),λr m=>?_⟩
 rcases qro m with e|e|e
 ·rw[e];exact qw1
 ·obtain⟨q,mq,eq⟩:=List.mem_map.mp e
  rw[←eq];exact A.nm q mq
 ·obtain⟨q,mq,eq⟩:=List.mem_map.mp e
  rw[←eq];exact B.nm q mq
theorem qi6(p:List Row):bulk p<=p.length:=List.length_filter_le ..
theorem qkp{one other:List Row}{Y:R->Prop}(A:TreeC one)(B:TreeC other)(h:one=other\/∃W,Few one other W)(y:Y (.own (qab (qdj 20 one other)))):qfn [qab one,qab other] Y:=⟨one,other,rfl,A.cl,B.cl,h,λr m=>(A.nm r m).1,λr m=>(B.nm r m).1,y⟩
def qc6:DP:=λds Q=>∃p t:List Row,ds=[qab p,qab t]/\PaneOk p/\NmOk p/\p.length<=100/\TreeC t/\TreeC (qa9 p t)/\t.length+p.length<=60/\(∃W,Few t (qa9 p t) W)/\Q (.own (qab (qdj 20 t (qa9 p t))))
def qfc:DP:=λds Q=>∃p t:List Row,ds=[qab p,qab t]/\SPn 17 p/\TreeC t/\t.length<=27/\Q (.val (.bl true))
def qml:DP:=λds Q=>∃ns,ds=[.scr ns]/\Q (.val (.bl true))
theorem qmy:∀ds Q,qc6 ds Q->ds.length=2:=by rintro ds Q ⟨_,_,rfl,_⟩;rfl
theorem qsn:∀ds Q,qfc ds Q->ds.length=2:=by rintro ds Q ⟨_,_,rfl,_⟩;rfl
theorem qy9:∀ds Q,qml ds Q->ds.length=1:=by rintro ds Q ⟨_,rfl,_⟩;rfl
theorem SPn.wy{n:Nat}{p:List Row}(S:SPn n p):NmOk p:=λr m=>⟨by have:=(S.nm r m).1;omega,(S.nm r m).2⟩
theorem SPn.pf{n:Nat}{p:List Row}(S:SPn n p):PaneF p:=⟨S.ok.so,S.fs,S.ok.rt⟩
theorem q4x{n:Nat}{p t:List Row}(S:SPn n p)(A:TreeC t)(B:TreeC (qa9 p t)):(qdj 20 t (qa9 p t)).length<=p.length :=
 qu0 A.cl B.cl (λr m=>(A.nm r m).1) (λr m=>(B.nm r m).1) S.pf λw hw=>(qmp S.ok A.cl.tree hw).symm
theorem qsj{p t:List Row}(P:PaneOk p)(T:TreeOk t){r:Row}(h:r∈qa9 p t):r.1∈t.map (·.1)++p.map (·.1):=by
 rcases List.mem_append.mp ((qf9 P T).2.mem_iff.mp h) with m|m
 ·exact List.mem_append_left _ (List.mem_map_of_mem (List.mem_filter.mp m).1)
 ·unfold putR at m
  obtain⟨q,mq,rfl⟩:=List.mem_map.mp m
  rw[qeq]
  exact List.mem_append_right _ (List.mem_map_of_mem (List.mem_filter.mp mq).1)
theorem qu5{p t:List Row}(P:PaneOk p)(T:TreeOk t)(h:t.length+p.length<=60)(l:t.length+(qa9 p t).length<=120):Few t (qa9 p t) (t.map (·.1)++p.map (·.1)):=⟨by rw[List.length_append,List.length_map,List.length_map];exact h,λr m=>List.mem_append_left _ (List.mem_map_of_mem m),λr m=>qsj P T m,l⟩
theorem qtt(ns:List Int)(a b c:Nat)(h:b<=a+3*c)(ha:a<=b):(qdc ns (some (a:Int)) (some (b:Int)) (some 3)).length<=c:=by
 unfold qdc
 refine Nat.le_trans (List.length_filterMap_le _ _) ?_
 unfold sliceRange sliceBounds
 simp only[List.length_map,List.length_range,Option.getD_some,show (3:Int)>0 from by decide,if_true,show ¬ ((a:Int)<0) from by omega,show ¬ ((b:Int)<0) from by omega,if_false]
 split<;>omega
def qgx:TVS:=(vSeq (vIfS (vBl (vOp vLt (vVar 1) (vF1 vLen (vVar 0))))
  (vRet (vOp vIxR (vVar 0) (vVar 1)))
  qbv)
 (vRet (vC (.int 0))))
abbrev qqv:List Str:=["_law_script","_law_k"]
theorem que:∀ds Q,qcq ds Q->qgx (En Q) (qba qqv ds):=by
 rintro ds Q ⟨ns,k,rfl,h0,h⟩
 simp! only[vSeq,qgx]
 split
 ·rename_i c
  obtain⟨v,hv,hv2⟩:=qd3 (xs:=ns) h0 (of_decide_eq_true c)
  unfold qut at h
  rw[hv2] at h
  exact⟨v,hv,h⟩
 ·rename_i c
  have hn:ns[k.toNat]?=none:=List.getElem?_eq_none (by have:=of_decide_eq_false (Bool.eq_false_iff.mpr c);omega)
  unfold qut at h
  rw[hn] at h
  exact h
def qrb:TVS:=(vSeq (vSet 3 (vTup (qaa (vC (.int 48271)) (qaa (vC (.int 69621)) (qaa (vC (.int 16807)) (qaa (vC (.int 39373)) (qaa (vC (.int 21401)) (qaa (vC (.int 60493)) (qaa (vC (.int 87721)) (qaa (vC (.int 31337)) vNil))))))))))
 (vSeq (vSet 4 (vTup (qaa (vC (.int 99991)) (qaa (vC (.int 99989)) (qaa (vC (.int 99971)) (qaa (vC (.int 99961)) (qaa (vC (.int 99929)) (qaa (vC (.int 99923)) (qaa (vC (.int 99907)) (qaa (vC (.int 99901)) vNil))))))))))
 (vRet (vOp vMod (vOp vMod (vOp vMul (vOp vAdd (vOp vMod (vVar 0) (vOp vPow (vC (.int 10)) (vC (.int 18)))) (vC (.int 1))) (vOp vIxR (vVar 3) (vOp vMod (vVar 1) (vC (.int 8))))) (vOp vIxR (vVar 4) (vOp vMod (vVar 1) (vC (.int 8))))) (vVar 2)))))
abbrev qyg:List Str:=["_law_cell","_law_turn","_law_many","_law_by","_law_prime"]
def mxA:List Int:=[48271,69621,16807,39373,21401,60493,87721,31337]
def mxB:List Int:=[99991,99989,99971,99961,99929,99923,99907,99901]
theorem q1k:∀ds Q,qar ds Q->qrb (En Q) (qba qyg ds):=by
 rintro ds Q ⟨c,t,m,rfl,h0,hm,h⟩
 refine v_cut (λτ=>τ=[some (.val (.int c)),some (.val (.int t)),some (.val (.int m)),some (.val (.tup (mxA.map D.int))),none]) ?_ λnx hnx=>?now
 case now =>
  rfl'
  exact⟨by decide,hnx _ rfl⟩
 rintro τ rfl
 refine v_cut (λτ=>τ=[some (.val (.int c)),some (.val (.int t)),some (.val (.int m)),some (.val (.tup (mxA.map D.int))),some (.val (.tup (mxB.map D.int)))]) ?_ λnx hnx=>?now
 case now =>
  rfl'
  exact⟨by decide,hnx _ rfl⟩
 rintro τ rfl
 have q0:=Int.emod_nonneg t (show (8:Int)≠0 by decide)
 have q1:=Int.emod_lt_of_pos t (show (0:Int)<8 by decide)
 obtain⟨a,ha,ha2⟩:=qd3 (xs:=mxA) (k:=t%8) q0 q1
 obtain⟨b,hb,hb2⟩:=qd3 (xs:=mxB) (k:=t%8) q0 q1
 have ba:∀x∈mxA,0<=x/\x<100000:=by decide
 have bb:∀x∈mxB,0<x:=by decide
 have a1:=ba a (List.mem_of_getElem? ha2)
 have b1:=bb b (List.mem_of_getElem? hb2)
 have hA:∀Y:R->Prop,Y (.val (.int (c%10 ^ Int.toNat 18+1)))->vOp vAdd (vOp vMod (vVar 0) (vOp vPow (vC (.int 10)) (vC (.int 18)))) (vC (.int 1)) [some (.val (.int c)),some (.val (.int t)),some (.val (.int m)),some (.val (.tup (mxA.map D.int))),some (.val (.tup (mxB.map D.int)))] Y:=λY y=>by
  rfl'
  exact⟨⟨by decide,by decide,by decide⟩,by decide,y⟩
 have hB:∀Y:R->Prop,Y (.val (.int a))->vOp vIxR (vVar 3) (vOp vMod (vVar 1) (vC (.int 8))) [some (.val (.int c)),some (.val (.int t)),some (.val (.int m)),some (.val (.tup (mxA.map D.int))),some (.val (.tup (mxB.map D.int)))] Y:=λY y=>by
  rfl'
  exact⟨.int a,by rw[qdi,ha];rfl,y⟩
 have hC:∀Y:R->Prop,Y (.val (.int b))->vOp vIxR (vVar 4) (vOp vMod (vVar 1) (vC (.int 8))) [some (.val (.int c)),some (.val (.int t)),some (.val (.int m)),some (.val (.tup (mxA.map D.int))),some (.val (.tup (mxB.map D.int)))] Y:=λY y=>by
  rfl'
  exact⟨.int b,by rw[qdi,hb];rfl,y⟩
 exact hA _ (hB _ ⟨.inr ⟨by omega,by omega⟩,hC _ ⟨b1,hm,h _ (Int.emod_nonneg _ (by omega)) (Int.emod_lt_of_pos _ hm) λe=>by
  subst e
  have e1:a=48271:=by simpa [mxA] using ha2.symm
  have e2:b=99991:=by simpa [mxB] using hb2.symm
  rw[e1,e2,show Int.toNat 18=18 from rfl]⟩⟩)
def qkj:TVS:=(vSeq (vSet 2 (vC (.str ("abcdefghijklmnopqrstuvwxyz0123456789" : Str))))
 (vSeq (vSet 3 (vOp vAdd (vC (.int 1)) (vOp vMod (vVar 0) (vC (.int 12)))))
 (vSeq (vSet 4 (vOp vMod (vOp vDiv (vVar 0) (vC (.int 12))) (vVar 3)))
 (vSeq (vSet 5 (vC (.str ("" : Str))))
 (vSeq (vFor (qlz (vVar 3)) (qbl 6)
  (vSeq (vSet 7 (vOp vAdd (vOp vDiv (vVar 0) (vC (.int 5184))) (vOp vMul (vVar 6) (vOp vMod (vOp vDiv (vVar 0) (vC (.int 144))) (vC (.int 36))))))
 (vSeq (vIfS (vBl (vOp vEq (vVar 6) (vVar 4)))
  (vSet 7 (vOp vAdd (vVar 7) (vVar 1)))
  qbv)
 (vSet 5 (vOp vAdd (vVar 5) (vOp vIxR (vVar 2) (vOp vMod (vVar 7) (vC (.int 36)))))))))
 (vSeq (vIfS (qfg (vBl (vOp vEq (vOp vMod (vOp vDiv (vVar 0) (vC (.int 3))) (vC (.int 2))) (vC (.int 1)))) (vBl (vOp vEq (vOp vMod (vVar 1) (vC (.int 5))) (vC (.int 4)))))
  (vSet 5 (qd5 (vVar 5) qcu (qdk (vOp vAdd (vC (.int 1)) (vOp vMod (vVar 1) (vVar 3))))))
  qbv)
 (vRet (vVar 5))))))))
abbrev qqy:List Str:=["_law_stem","_law_v","_law_signs","_law_size","_law_spot","_law_name","_law_k","_law_turn"]
theorem quh:∀ds Q,qbj ds Q->qkj (En Q) (qba qqy ds):=by
 rintro ds Q ⟨c,v,rfl,hc,hc2,hv,h⟩
 have hm0:0<=c%12:=Int.emod_nonneg _ (by decide)
 have hm1:c%12<12:=Int.emod_lt_of_pos _ (by decide)
 have eN:(NS.cps.toList.length:Int)=36:=by decide +kernel
 have lN:NS.length<=sizeLine:=by decide +kernel
 refine v_cut (λτ=>τ=[some (.val (.int c)),some (.val (.int v)),some (.val (.str NS)),none,none,none,none,none]) ?_ λnx hnx=>?now
 case now =>
  rfl'
  exact hnx _ rfl
 rintro τ rfl
 refine v_cut (λτ=>τ=[some (.val (.int c)),some (.val (.int v)),some (.val (.str NS)),some (.val (.int (1+c%12))),none,none,none,none]) ?_ λnx hnx=>?now
 case now =>
  rfl'
  exact hnx _ rfl
 rintro τ rfl
 generalize hn:1+c%12=n
 have n1:1<=n:=by omega
 have n2:n<=12:=by omega
 refine v_cut (λτ=>∃sp:Int,τ=[some (.val (.int c)),some (.val (.int v)),some (.val (.str NS)),some (.val (.int n)),some (.val (.int sp)),none,none,none]) ?_ λnx hnx=>?now
 case now =>
  rfl'
  exact⟨by omega,hnx _ ⟨_,rfl⟩⟩
 rintro τ ⟨sp,rfl⟩
 refine v_cut (λτ=>τ=[some (.val (.int c)),some (.val (.int v)),some (.val (.str NS)),some (.val (.int n)),some (.val (.int sp)),some (.val (.str "")),none,none]) ?_ λnx hnx=>?now
 case now =>
  rfl'
  exact hnx _ rfl
 rintro τ rfl
 refine v_cut (λτ=>∃(z:Str) (a b:Option R),1<=z.length/\z.length<=12/\τ=[some (.val (.int c)),some (.val (.int v)),some (.val (.str NS)),some (.val (.int n)),some (.val (.int sp)),some (.val (.str z)),a,b]) ?_ λnx hnx=>?now
 case now =>
  rfl'
  refine⟨by omega,by omega,qjf (λi τ=>∃(z:Str) (a b:Option R),z.length=i/\τ=[some (.val (.int c)),some (.val (.int v)),some (.val (.str NS)),some (.val (.int n)),some (.val (.int sp)),some (.val (.str z)),a,b]) ⟨"",none,none,by decide +kernel,rfl⟩ ?_ ?_⟩
  ·rintro i τ hi ⟨z,a,b,hl,rfl⟩ nx2 hnx2
   refine v_cut (λτ=>∃t:Int,τ=[some (.val (.int c)),some (.val (.int v)),some (.val (.str NS)),some (.val (.int n)),some (.val (.int sp)),some (.val (.str z)),some (.val (.int i)),some (.val (.int t))]) ?_ λnx3 hnx3=>?now
   case now =>
    rfl'
    have k0:=Int.emod_nonneg (c / 144) (show (36:Int)≠0 by decide)
    have k1:=Int.emod_lt_of_pos (c / 144) (show (0:Int)<36 by decide)
    exact⟨.inr ⟨by omega,by omega⟩,hnx3 _ ⟨_,rfl⟩⟩
   rintro τ ⟨t,rfl⟩
   refine v_cut (λτ=>∃t:Int,τ=[some (.val (.int c)),some (.val (.int v)),some (.val (.str NS)),some (.val (.int n)),some (.val (.int sp)),some (.val (.str z)),some (.val (.int i)),some (.val (.int t))]) ?_ λnx3 hnx3=>?now
   case now =>
    rfl'
    split
    ·exact hnx3 _ ⟨_,rfl⟩
    ·exact hnx3 _ ⟨_,rfl⟩
   clear t
   rintro τ ⟨t,rfl⟩
   rfl'
   obtain⟨d,hd,_⟩:=qd3 (xs:=NS.cps.toList) (k:=t%36) (Int.emod_nonneg _ (by decide)) (by rw[eN];exact Int.emod_lt_of_pos _ (by decide))
   exact⟨lN,d,hd,Nat.le_trans (show z.length+1<=1000 by omega) qaw,hnx2 _ ⟨_,_,_,by rw[PySem.Str.length_append,hl];rfl,rfl⟩⟩
  ·rintro τ ⟨z,a,b,hl,rfl⟩
   exact hnx _ ⟨z,a,b,by omega,by omega,rfl⟩
 rintro τ ⟨z,a,b,z0,z1,rfl⟩
 refine v_cut (λτ=>∃(z:Str),1<=z.length/\z.length<=12/\τ=[some (.val (.int c)),some (.val (.int v)),some (.val (.str NS)),some (.val (.int n)),some (.val (.int sp)),some (.val (.str z)),a,b]) ?_ λnx hnx=>?now
 case now =>
  rfl'
  have sz:z.length<=sizeLine:=Nat.le_trans (by omega) qaw
  have v0:=Int.emod_nonneg v (show n≠0 by omega)
  split
  ·split
   ·refine⟨by omega,sz,hnx _ ⟨_,?_,?_,rfl⟩⟩
    ·obtain⟨k,hk⟩:∃k:Nat,1+v%n=(k:Int):=⟨(1+v%n).toNat,by omega⟩
     rw[hk]
     show 1<=(Txt.slice z none (some (k:Int))).cps.toList.length
     have el:z.cps.toList.length=z.length:=rfl
     rw[slice_list,qg6,List.length_take]
     omega
    ·exact Nat.le_trans (Txt.slice_le z _ _) (by omega)
   ·exact hnx _ ⟨z,z0,z1,rfl⟩
  ·exact hnx _ ⟨z,z0,z1,rfl⟩
 clear z0 z1 z
 rintro τ ⟨z,z0,z1,rfl⟩
 rfl'
 exact h z z0 z1
def qf6:TVS:=(vSeq (vSet 1 (vC (.str (" !\"#$&'()*+,-./0123456789:;<=>?@ABCDEFGHIJKLMNOPQRSTUVWXYZ[\\]^_`" : Str))))
 (vSeq (vSet 1 (vOp vAdd (vVar 1) (vC (.str ("abcdefghijklmnopqrstuvwxyz{|}~" : Str)))))
 (vSeq (vSet 2 (qal qar (qaa (vVar 0) (qaa (vC (.int 6)) (qaa (vC (.int 9)) vNil)))))
 (vSeq (vIfS (vBl (vOp vEq (vVar 2) (vC (.int 8))))
  (vSet 2 (vC (.int 60)))
  qbv)
 (vRet (qwv (vC (.str ("" : Str))) (qie (qlz (vVar 2)) (qbl 3) (λ_ Q=>Q true) (vOp vIxR (vVar 1) (qal qar (qaa (vOp vAdd (vVar 0) (vOp vMul (vVar 3) (vVar 3))) (qaa (vC (.int 7)) (qaa (vF1 vLen (vVar 1)) vNil))))) 1)))))))
abbrev qpj:List Str:=["_law_cell","_law_some","_law_size"]
theorem qqr:∀ds Q,qc2 ds Q->qf6 (En Q) (qba qpj ds):=by
 rintro ds Q ⟨c,rfl,h⟩
 have mx:∀(c k n:Int) (Y:R->Prop),0<=k->0<n->(∀i,0<=i->i<n->Y (.val (.int i)))->qar [.int c,.int k,.int n] Y:=λc k n Y hk hn y=>⟨c,k,n,rfl,hk,hn,λi h0 h1 _=>y i h0 h1⟩
 have big:5000<=sizeLine:=by decide
 refine qfj ?_
 dsimp! only[qf6]
 refine v_cut (λτ=>τ=[some (.val (.int c)),some (.val (.str PS94)),none]) ?_ λnx hnx=>?now
 case now =>
  rfl'
  exact⟨by decide +kernel,hnx _ rfl⟩
 rintro τ rfl
 refine v_cut (λτ=>∃k:Int,0<=k/\k<9/\τ=[some (.val (.int c)),some (.val (.str PS94)),some (.val (.int k))]) ?_ λnx hnx=>?now
 case now =>
  rfl'
  refine mx _ _ _ _ (by decide) (by decide) λk k0 k1=>?_
  rfl'
  exact hnx _ ⟨k,k0,k1,rfl⟩
 rintro τ ⟨k,k0,k1,rfl⟩
 refine v_cut (λτ=>∃k:Int,0<=k/\k<=60/\τ=[some (.val (.int c)),some (.val (.str PS94)),some (.val (.int k))]) ?_ λnx hnx=>?now
 case now =>
  rfl'
  split
  ·exact hnx _ ⟨60,by decide,by decide,rfl⟩
  ·exact hnx _ ⟨k,k0,by omega,rfl⟩
 clear k0 k1 k
 rintro τ ⟨k,k0,k1,rfl⟩
 have p94:=q29
 simp! only[vSeq,true_and]
 refine⟨by omega,by omega,?_⟩
 unfold rngL
 refine qn7 (λ_ d=>∃c∈PS94.cps.toList,d=.str ⟨#[c]⟩) (λ_=>true) (List.range k.toNat) (by rw[List.length_range];omega) (λx mx' Y N y1 _=>?_) λes hl hes=>?_
 ·have lx:=List.mem_range.mp mx'
  rfl'
  refine⟨by left;omega,by omega,?_⟩
  refine mx _ _ _ _ (by decide) (by rw[p94];decide) λj j0 j1=>?_
  obtain⟨v,hv,hv2⟩:=qd3 (xs:=PS94.cps.toList) (k:=j) j0 j1
  rfl'
  exact⟨by omega,v,hv,y1 rfl _ ⟨v,List.mem_of_getElem? hv2,rfl⟩⟩
 ·obtain⟨ls,e1,e2,e3⟩:=qlg (es:=es) λe me=>by
   obtain⟨j,lj,ej⟩:=List.mem_iff_getElem.mp me
   have hj:j<((List.range k.toNat).filter λ_=>true).length:=by rw[←hl];exact lj
   exact hes j _ e (List.getElem?_eq_getElem hj) (by rw[List.getElem?_eq_getElem lj,ej])
  have ell:ls.length<=300:=by
   rw[e3,hl]
   refine Nat.le_trans (List.length_filter_le _ _) ?_
   rw[List.length_range]
   omega
  have o0:(Str.ofString "").length=0:=by decide +kernel
  subst e1
  simp! only[vSeq,true_and]
  exact⟨_,.inl rfl,by rw[qoy,o0];omega,h _⟩
def qkk:TVS:=(vSeq (vIfS (vBl (vOp vEq (vVar 0) (vC (.str ("file" : Str)))))
  (vRet (vOp vIxR (vTup (qaa (vC (.str ("" : Str))) (qaa (vC (.str ("as it was" : Str))) (qaa (qal qc2 (qaa (vVar 1) vNil)) vNil)))) (qal qar (qaa (vVar 1) (qaa (vC (.int 5)) (qaa (vC (.int 3)) vNil))))))
  qbv)
 (vSeq (vIfS (vBl (vOp vNeD (vVar 0) (vC (.str ("link" : Str)))))
  (vRet (vC (.str ("" : Str))))
  qbv)
 (vSeq (vSet 4 (qal qbj (qaa (vVar 2) (qaa (qal qar (qaa (vVar 1) (qaa (vC (.int 5)) (qaa (vVar 3) vNil)))) vNil))))
 (vSeq (vSet 5 (qal qbj (qaa (vVar 2) (qaa (qal qar (qaa (vVar 1) (qaa (vC (.int 6)) (qaa (vVar 3) vNil)))) vNil))))
 (vSeq (vSet 6 (vTup (qaa (vC (.str ("/" : Str))) (qaa (vOp vAdd (vC (.str ("/" : Str))) (vVar 4)) (qaa (vVar 4) (qaa (vOp vAdd (vC (.str ("../" : Str))) (vVar 4)) (qaa (vOp vAdd (vOp vAdd (vOp vAdd (vC (.str ("./" : Str))) (vVar 4)) (vC (.str ("/" : Str)))) (vVar 5)) (qaa (vOp vAdd (vOp vAdd (vC (.str ("/" : Str))) (vVar 4)) (vC (.str ("/.." : Str)))) (qaa (vC (.str (".." : Str))) (qaa (vC (.str ("." : Str))) vNil))))))))))
 (vRet (vOp vIxR (vVar 6) (qal qar (qaa (vVar 1) (qaa (vC (.int 7)) (qaa (vC (.int 8)) vNil)))))))))))
abbrev qq0:List Str:=["_law_mark","_law_cell","_law_stem","_law_wide","_law_name","_law_more","_law_some"]
theorem quj:∀ds Q,qb8 ds Q->qkk (En Q) (qba qq0 ds):=by
 rintro ds Q ⟨m,c,s,v,rfl,h0,h1,hv,h⟩
 have mx:∀(k n:Int) (Y:R->Prop),0<=k->0<n->(∀i,0<=i->i<n->Y (.val (.int i)))->qar [.int c,.int k,.int n] Y:=λk n Y hk hn y=>⟨c,k,n,rfl,hk,hn,λi i0 i1 _=>y i i0 i1⟩
 have nb:∀(i:Int) (Y:R->Prop),0<=i->(∀z:Str,1<=z.length->z.length<=12->Y (.val (.str z)))->qbj [.int s,.int i] Y:=λi Y hi y=>⟨s,i,rfl,h0,h1,hi,y⟩
 refine v_cut (λτ=>m≠qcf/\τ=[some (.val (.str m)),some (.val (.int c)),some (.val (.int s)),some (.val (.int v)),none,none,none]) ?_ λnx hnx=>?now
 case now =>
  rfl'
  by_cases m1:m=qcf
  ·have h':∀z:Str,Q (.val (.str z)):=λz=>h z λq=>absurd m1 q
   rw[decide_eq_true m1]
   have sg:∀Y:R->Prop,(∀t:Str,Y (.val (.str t)))->qc2 [.int c] Y:=λY y=>⟨c,rfl,y⟩
   refine iteT (sg _ λt=>?_)
   rfl'
   refine⟨by decide,mx _ _ _ (by decide) (by decide) λi h0 h1=>?_⟩
   rfl'
   have e:[D.str (Str.ofString ""),D.str (Str.ofString "as it was"),D.str t]=[Str.ofString "",Str.ofString "as it was",t].map D.str:=rfl
   obtain⟨y,hy,_⟩:=qd3 (xs:=[Str.ofString "",Str.ofString "as it was",t]) (k:=i) h0 h1
   exact⟨.str y,by rw[e,qdi,hy];rfl,h' y⟩
  ·rw[decide_eq_false m1]
   exact iteF (hnx _ ⟨m1,rfl⟩)
 rintro τ ⟨m1,rfl⟩
 refine v_cut (λτ=>m=qcg/\τ=[some (.val (.str m)),some (.val (.int c)),some (.val (.int s)),some (.val (.int v)),none,none,none]) ?_ λnx hnx=>?now
 case now =>
  rfl'
  by_cases m2:m=qcg
  ·rw[decide_eq_true m2]
   exact iteF (hnx _ ⟨m2,rfl⟩)
  ·rw[decide_eq_false m2]
   exact iteT (h _ λ_ _=>rfl)
 rintro τ ⟨m2,rfl⟩
 have h':∀z:Str,Q (.val (.str z)):=λz=>h z λ_ q=>absurd m2 q
 refine v_cut (λτ=>∃z:Str,z.length<=12/\τ=[some (.val (.str m)),some (.val (.int c)),some (.val (.int s)),some (.val (.int v)),some (.val (.str z)),none,none]) ?_ λnx hnx=>?now
 case now =>
  rfl'
  refine mx _ _ _ (by decide) hv λi i0 i1=>?_
  rfl'
  refine nb _ _ i0 λz _ z1=>?_
  rfl'
  exact hnx _ ⟨z,z1,rfl⟩
 rintro τ ⟨z,z1,rfl⟩
 refine v_cut (λτ=>∃y:Str,y.length<=12/\τ=[some (.val (.str m)),some (.val (.int c)),some (.val (.int s)),some (.val (.int v)),some (.val (.str z)),some (.val (.str y)),none]) ?_ λnx hnx=>?now
 case now =>
  rfl'
  refine mx _ _ _ (by decide) hv λi i0 i1=>?_
  rfl'
  refine nb _ _ i0 λz _ z1=>?_
  rfl'
  exact hnx _ ⟨z,z1,rfl⟩
 rintro τ ⟨y,y1,rfl⟩
 refine v_cut (λτ=>τ=[some (.val (.str m)),some (.val (.int c)),some (.val (.int s)),some (.val (.int v)),some (.val (.str z)),some (.val (.str y)),some (.val (.tup ([Str.ofString "/",Str.ofString "/" ++ z,z,Str.ofString "../" ++ z,Str.ofString "./" ++ z++Str.ofString "/" ++ y,Str.ofString "/" ++ z++Str.ofString "/..",Str.ofString "..",Str.ofString "."].map D.str)))]) ?_ λnx hnx=>?now
 case now =>
  rfl'
  have e1:(Str.ofString "/").length=1:=by decide +kernel
  have e2:(Str.ofString "../").length=3:=by decide +kernel
  have e3:(Str.ofString "./").length=2:=by decide +kernel
  have e4:(Str.ofString "/..").length=3:=by decide +kernel
  refine⟨Nat.le_trans (by omega) qaw,Nat.le_trans (by omega) qaw,Nat.le_trans (by omega) qaw,Nat.le_trans (by rw[PySem.Str.length_append];omega) qaw,Nat.le_trans (by rw[PySem.Str.length_append,PySem.Str.length_append];omega) qaw,Nat.le_trans (by omega) qaw,Nat.le_trans (by rw[PySem.Str.length_append];omega) qaw,by decide,hnx _ rfl⟩
 rintro τ rfl
 rfl'
 refine mx _ _ _ (by decide) (by decide) λj j0 j1=>?_
 rfl'
 obtain⟨x,hx,_⟩:=qd3 (xs:=[Str.ofString "/",Str.ofString "/" ++ z,z,Str.ofString "../" ++ z,Str.ofString "./" ++ z++Str.ofString "/" ++ y,Str.ofString "/" ++ z++Str.ofString "/..",Str.ofString "..",Str.ofString "."]) (k:=j) j0 j1
 have hx2:atI ([Str.ofString "/",Str.ofString "/" ++ z,z,Str.ofString "../" ++ z,Str.ofString "./" ++ z++Str.ofString "/" ++ y,Str.ofString "/" ++ z++Str.ofString "/..",Str.ofString "..",Str.ofString "."].map D.str) j=some (.str x):=by rw[qdi,hx];rfl
 exact⟨.str x,hx2,h' x⟩
def qed:TVS:=(vSeq (vFor (qlz (vF1 vLen (vVar 1))) (qbl 2)
  (vIfS (qfg (vBl (vDIn id (qd5 (vVar 1) qcu (qdk (vVar 2))) (vVar 0))) (vBl (vOp vEq (vOp vIxR (qlw (vVar 0) (qd5 (vVar 1) qcu (qdk (vVar 2)))) (vC (.int 0))) (vC (.str ("shut" : Str))))))
  (vRet (vC (.bl true)))
  qbv))
 (vRet (vC (.bl false))))
abbrev qkg:List Str:=["_law_things","_law_way","_law_k"]
theorem ql4:∀ds Q,qb0 ds Q->qed (En Q) (qba qkg ds):=by
 rintro ds Q ⟨rs,w,rfl,hw,hl,h⟩
 simp! only[vSeq,qed,wayD]
 have tk:∀k:Nat,("" : Str)∉w.take k:=λk m=>hw (List.mem_of_mem_take m)
 refine⟨by omega,by omega,qjf (λi τ=>(∀k,k<i->qbu rs (w.take k)≠some qas)/\∃kv,τ=[some (.val (qaq (rs.map prR))),some (.val (wayD w)),kv]) ⟨λk hk=>absurd hk (Nat.not_lt_zero _),none,rfl⟩ ?_ ?_⟩
 ·rintro i τ hi ⟨hb,kv,rfl⟩ nx hnx
  have hd:∀Y:R->Prop,Y (.val (.bl (qbu rs (w.take i)).isSome))->True:=λ_ _=>trivial
  have mk:qbu rs (w.take i)=(rs.find? λr=>decide (r.1=w.take i)).map (·.2.1):=rfl
  have lk:=qon rs (w.take i)
  have e0:qe3 rs w=true->Q (.val (.bl true)):=λz=>by rw[z] at h;exact h
  have hit:qbu rs (w.take i)=some qas->Q (.val (.bl true)):=λz=>e0 (List.any_eq_true.mpr ⟨i,List.mem_range.mpr hi,decide_eq_true z⟩)
  have go:qbu rs (w.take i)≠some qas->∀kv,nx [some (.val (qaq (rs.map prR))),some (.val (wayD w)),kv]:=λz kv=>hnx _ ⟨λk hk=>by
   rcases Nat.lt_or_ge k i with q|q
   ·exact hb k q
   ·have:k=i:=by omega
    rw[this];exact z,kv,rfl⟩
  dsimp! only[qaq,wayD]
  simp only[qg6]
  refine⟨tk i,?_⟩
  rw[qbo,lk]
  cases e:rs.find? λr=>decide (r.1=w.take i) with
 |none =>
   rw[e] at mk
   refine iteF ?_
   exact go (by rw[mk];exact λz=>by cases z) _
 |some r =>
   rw[e] at mk
   refine iteT ⟨tk i,thD r.2,rfl,?_⟩
   dsimp! only[thD]
   by_cases q:r.2.1=qas
   ·rw[decide_eq_true q]
    exact iteT (hit (by rw[mk,←q];rfl))
   ·rw[decide_eq_false q]
    exact iteF (go (by rw[mk];exact λz=>q (Option.some.inj z)) _)
 ·rintro τ ⟨hb,kv,rfl⟩
  simp! only[vSeq,true_and]
  have e:qe3 rs w=false:=by
   unfold qe3
   rw[List.any_eq_false]
   exact λk hk z=>hb k (List.mem_range.mp hk) (of_decide_eq_true z)
  rw[e] at h
  exact h
def qg0:TVS:=(vSeq (vSet 2 (vOp vAdd (vC (.int 2)) (vOp vMod (vOp vDiv (vVar 1) (vC (.int 5))) (vC (.int 7)))))
 (vSeq (qfz 3 qfx)
 (vSeq (qfz 4 (vLst (qaa (vTup vNil) vNil)))
 (vSeq (vIfS (qfg (vBl (vOp vGt (vF1 vLen (vVar 0)) (vC (.int 2)))) (vBl (vOp vEq (qal qar (qaa (vOp vIxR (vVar 0) (vC (.int 0))) (qaa (vC (.int 4)) (qaa (vC (.int 6)) vNil)))) (vC (.int 0)))))
  (qgq 3 (vTup vNil) (vTup (qaa (vC (.str ("shut" : Str))) (qaa (vC (.str ("" : Str))) vNil))))
  qbv)
 (vSeq (vFor (qcr (vVar 0)) (qbl 5)
  (vSeq (vSet 6 (vOp vIxR (vVar 4) (qal qar (qaa (vVar 5) (qaa (vC (.int 0)) (qaa (vF1 vLen (vVar 4)) vNil))))))
 (vSeq (vIfS (vBl (vOp vEq (qal qar (qaa (vVar 5) (qaa (vC (.int 3)) (qaa (vC (.int 3)) vNil)))) (vC (.int 0))))
  (vSet 6 (vOp vIxR (vVar 4) (vNeg (vC (.int 1)))))
  qbv)
 (vSeq (vSet 7 (vOp vAdd (vVar 6) (vTup (qaa (qal qbj (qaa (vVar 1) (qaa (qal qar (qaa (vVar 5) (qaa (vC (.int 1)) (qaa (vVar 2) vNil)))) vNil))) vNil))))
 (vIfS (qfg (vBl (vDIn (!·) (vVar 7) (vVar 3))) (vBl (vOp vLt (vF1 vLen (vVar 7)) (vC (.int 15)))))
  (vSeq (vSet 8 (vOp vIxR (vTup (qaa (vC (.str ("folder" : Str))) (qaa (vC (.str ("shut" : Str))) (qaa (vC (.str ("file" : Str))) (qaa (vC (.str ("folder" : Str))) (qaa (vC (.str ("gone" : Str))) (qaa (vC (.str ("link" : Str))) (qaa (vC (.str ("folder" : Str))) vNil)))))))) (qal qar (qaa (vVar 5) (qaa (vC (.int 2)) (qaa (vC (.int 7)) vNil))))))
 (vSeq (vIfS (qfg (vBl (qtz qb0 3 (qaa (vVar 7) vNil))) (vBl (vOp (vIn id) (vVar 8) (vTup (qaa (vC (.str ("gone" : Str))) (qaa (vC (.str ("shut" : Str))) vNil))))))
  (vSet 8 (vC (.str ("folder" : Str))))
  qbv)
 (vSeq (qgq 3 (vVar 7) (vTup (qaa (vVar 8) (qaa (qal qb8 (qaa (vVar 8) (qaa (vVar 5) (qaa (vVar 1) (qaa (vVar 2) vNil))))) vNil))))
 (vIfS (vBl (vOp (vIn id) (vVar 8) (vTup (qaa (vC (.str ("folder" : Str))) (qaa (vC (.str ("shut" : Str))) vNil)))))
  (qfh 4 (vVar 7))
  qbv))))
  qbv)))))
 (vRet (qie (qcr (vF1 qer (vF1 qh3 (vVar 3)))) (qbl 9) (λ_ Q=>Q true) (vOp vAdd (vTup (qaa (vVar 9) vNil)) (qlw (vVar 3) (vVar 9))) 1)))))))
abbrev qqz:List Str:=["_law_cells","_law_stem","_law_wide","_law_things","_law_folders","_law_cell","_law_over","_law_way","_law_mark"]
theorem qui:∀ds Q,qc5 ds Q->qg0 (En Q) (qba qqz ds):=by
 rintro ds Q ⟨cs,st,rfl,hcs,h0,h1,h⟩
 refine qfj ?_
 dsimp! only[qg0]
 have w0:=Int.emod_nonneg (st / 5) (show (7:Int)≠0 by decide)
 generalize hwd:2+st / 5%7=wide
 have w1:0<wide:=by omega
 refine qfj ?_
 rfl'
 refine qfj ?_
 rfl'
 refine⟨by decide,?_⟩
 refine v_cut (λτ=>∃rs:List Row,(rs=[]\/rs=[([],qas,qav)])/\τ=[some (.val (.lst (cs.map D.int))),some (.val (.int st)),some (.val (.int wide)),some (.own (qaq (rs.map prR))),some (.own (.lst ([([]:List Str)].map wayD))),none,none,none,none]) ?_ λnx2 hnx2=>?now
 case now =>
  dsimp! only[qar]
  have none':=hnx2 _ ⟨[],.inl rfl,rfl⟩
  split
  ·rename_i h2
   have h2':2<cs.length:=by have:=of_decide_eq_true h2;omega
   refine⟨.int cs[0],by rw[List.getElem?_map,List.getElem?_eq_getElem (by omega)];rfl,cs[0],rfl,λi i0 i1 _=>?_⟩
   split
   ·exact⟨by decide,[],rfl,by simp,by decide,hnx2 _ ⟨[([],qas,qav)],.inr rfl,rfl⟩⟩
   ·exact none'
  ·exact none'
 rintro τ ⟨rs0,hrs0,rfl⟩
 refine qfj ?_
 rfl'
 refine qdu (λi τ=>∃(rs:List Row) (fs:List (List Str)) (a b c d:Option R),PInv i rs fs /\
  τ=[some (.val (.lst (cs.map D.int))),some (.val (.int st)),some (.val (.int wide)),some (.own (qaq (rs.map prR))),some (.own (.lst (fs.map wayD))),a,b,c,d]) ⟨rs0,[[]],none,none,none,none,.start hrs0,rfl⟩ ?_ ?_
 ·rintro i c τ hc ⟨rs,fs,k5,k6,k7,k8,PI,rfl⟩ nx hnx
  have hi:=(List.getElem?_eq_some_iff.mp hc).1
  have hfp:0<fs.length:=List.length_pos_iff.mpr PI.ne
  have hfl:=PI.fln
  have hrl:=PI.len
  refine v_cut (λτ=>∃f,f∈fs/\τ=[some (.val (.lst (cs.map D.int))),some (.val (.int st)),some (.val (.int wide)),some (.own (qaq (rs.map prR))),some (.own (.lst (fs.map wayD))),some (.val (.int c)),some (.val (wayD f)),k7,k8]) ?_ λnx2 hnx2=>?now
  case now =>
   dsimp! only[qar]
   refine⟨by omega,λk k0 k1 _=>?_⟩
   obtain⟨f,hf,hf2⟩:=qd3 (xs:=fs) (k:=k) k0 k1
   exact⟨wayD f,by rw[qdi,hf];rfl,hnx2 _ ⟨f,List.mem_of_getElem? hf2,rfl⟩⟩
  rintro τ ⟨f,mf,rfl⟩
  refine v_cut (λτ=>∃f,f∈fs/\τ=[some (.val (.lst (cs.map D.int))),some (.val (.int st)),some (.val (.int wide)),some (.own (qaq (rs.map prR))),some (.own (.lst (fs.map wayD))),some (.val (.int c)),some (.val (wayD f)),k7,k8]) ?_ λnx2 hnx2=>?now
  case now =>
   dsimp! only[qar]
   refine λk k0 k1 _=>?_
   split
   ·exact⟨wayD (fs.getLast PI.ne),by rw[List.getLast?_map,List.getLast?_eq_some_getLast PI.ne];rfl,hnx2 _ ⟨_,List.getLast_mem PI.ne,rfl⟩⟩
   ·exact hnx2 _ ⟨f,mf,rfl⟩
  clear mf f
  rintro τ ⟨f,mf,rfl⟩
  have hf14:=(PI.fol f mf).1
  refine v_cut (λτ=>∃z:Str,1<=z.length/\z.length<=12/\τ=[some (.val (.lst (cs.map D.int))),some (.val (.int st)),some (.val (.int wide)),some (.own (qaq (rs.map prR))),some (.own (.lst (fs.map wayD))),some (.val (.int c)),some (.val (wayD f)),some (.val (wayD (f++[z]))),k8]) ?_ λnx2 hnx2=>?now
  case now =>
   dsimp! only[qar,qbj,wayD]
   have:=hf14.1
   exact⟨w1,λk k0 k1 _=>⟨h0,h1,k0,λz z1 z2=>⟨by decide,Nat.le_trans (show _<=1000 by omega) qaw,hnx2 _ ⟨z,z1,z2,rfl⟩⟩⟩⟩
  rintro τ ⟨z,z1,z2,rfl⟩
  have hfz:(∀y∈f++[z],1<=y.length/\y.length<=12):=λy hy=>by
   rcases List.mem_append.mp hy with m|m
   ·exact hf14.2 y m
   ·rw[List.mem_singleton.mp m];exact⟨z1,z2⟩
  have hwy:WyOk (f++[z]):=⟨by have:=hf14.1;rw[List.length_append,List.length_singleton];omega,hfz⟩
  have lk:(lkP (rs.map prR) (f++[z])).isSome=decide (f++[z]∈rs.map (·.1)):=by
   rw[qon,Option.isSome_map]
   exact(Option.isSome_map ..).symm.trans (qfo rs (f++[z]))
  have stay:=hnx _ ⟨rs,fs,some (.val (.int c)),some (.val (wayD f)),some (.val (wayD (f++[z]))),k8,PI.stay,rfl⟩
  have put:=λ(m t:Str) (hm:mkOk (f++[z],m,t)) (hw:Wy14 (f++[z])) (nw:f++[z]∉rs.map (·.1)) (hs:m=qax\/m=qas->qe3 rs (f++[z])=false)=>PI.put mf hm hw nw hs
  generalize hw:f++[z]=w at *
  refine v_if (λb=>b=true->w∉rs.map (·.1)/\w.length<15) (λY y=>?test) (λhyes=>?yes) λ_=>stay
  case test =>
   dsimp! only[qaq,wayD]
   refine⟨hwy.ne,?_⟩
   rw[qbo,lk]
   by_cases hm:w∈rs.map (·.1)
   ·rw[decide_eq_true hm]
    exact iteF (y _ λz=>by cases z)
   ·rw[decide_eq_false hm]
    exact iteT (y _ λz=>⟨hm,by have:=of_decide_eq_true z;omega⟩)
  case yes =>
    obtain⟨hm,h15'⟩:=hyes rfl
    have w14:Wy14 w:=⟨by omega,hfz⟩
    refine v_cut (λτ=>∃m:Str,(m=qag\/m=qas\/m=qcf\/m=qax\/m=qcg)/\τ=[some (.val (.lst (cs.map D.int))),some (.val (.int st)),some (.val (.int wide)),some (.own (qaq (rs.map prR))),some (.own (.lst (fs.map wayD))),some (.val (.int c)),some (.val (wayD f)),some (.val (wayD w)),some (.val (.str m))]) ?_ λnx2 hnx2=>?now
    case now =>
     dsimp! only[qar]
     refine⟨by decide,λk k0 k1 _=>?_⟩
     have e:[D.str (Str.ofString "folder"),D.str (Str.ofString "shut"),D.str (Str.ofString "file"),D.str (Str.ofString "folder"),D.str (Str.ofString "gone"),D.str (Str.ofString "link"),D.str (Str.ofString "folder")]=[qag,qas,qcf,qag,qax,qcg,qag].map D.str:=rfl
     obtain⟨y,hy,hy2⟩:=qd3 (xs:=[qag,qas,qcf,qag,qax,qcg,qag]) (k:=k) k0 k1
     have my:y=qag\/y=qas\/y=qcf\/y=qax\/y=qcg:=by
      have:=List.mem_of_getElem? hy2
      simp only[List.mem_cons,List.not_mem_nil,or_false] at this
      rcases this with q|q|q|q|q|q|q<;>simp[q]
     exact⟨.str y,by rw[e,qdi,hy];rfl,hnx2 _ ⟨y,my,rfl⟩⟩
    rintro τ ⟨m0,hm0,rfl⟩
    refine v_cut (λτ=>∃m:Str,(m=qag\/m=qas\/m=qcf\/m=qax\/m=qcg)/\(m=qax\/m=qas->qe3 rs w=false)/\τ=[some (.val (.lst (cs.map D.int))),some (.val (.int st)),some (.val (.int wide)),some (.own (qaq (rs.map prR))),some (.own (.lst (fs.map wayD))),some (.val (.int c)),some (.val (wayD f)),some (.val (wayD w)),some (.val (.str m))]) ?_ λnx2 hnx2=>?now
    case now =>
     have us:∀Y:R->Prop,Y (.val (.bl (qe3 rs w)))->qb0 [qaq (rs.map prR),wayD w] Y:=λY y=>⟨rs,w,rfl,hwy.ne,by omega,y⟩
     rfl'
     refine us _ ?_
     rfl'
     cases hs:qe3 rs w with
    |false=>exact iteF (hnx2 _ ⟨m0,hm0,λ_=>hs,rfl⟩)
    |true =>
      refine iteT ⟨by decide,?_⟩
      by_cases q:m0∈[qax,qas]
      ·rw[decide_eq_true q]
       exact hnx2 _ ⟨qag,.inl rfl,λz=>z.elim (λz=>absurd z.symm mne.2.1) λz=>absurd z.symm mne.1,rfl⟩
      ·rw[decide_eq_false q]
       exact hnx2 _ ⟨m0,hm0,λz=>absurd (by rcases z with z|z<;>simp[z]) q,rfl⟩
    rintro τ ⟨m,hm1,hsh,rfl⟩
    refine v_cut (λτ=>∃t:Str,mkOk (w,m,t)/\τ=[some (.val (.lst (cs.map D.int))),some (.val (.int st)),some (.val (.int wide)),some (.own (qaq ((rs++[(w,m,t)]).map prR))),some (.own (.lst (fs.map wayD))),some (.val (.int c)),some (.val (wayD f)),some (.val (wayD w)),some (.val (.str m))]) ?_ λnx2 hnx2=>?now
    case now =>
     dsimp! only[qb8,qaq,wayD]
     refine⟨h0,h1,w1,λt ht=>⟨by decide,hwy.ne,?_,?_⟩⟩
     ·exact Nat.lt_of_lt_of_le (show _<1000 by omega) qaw
     ·rw[qb1]
      refine hnx2 _ ⟨t,?_,?_⟩
      ·rcases hm1 with q|q|q|q|q
       ·exact .inr (.inl ⟨q,ht (by rw[q];exact Ne.symm mne.2.2.1) (by rw[q];exact Ne.symm mne.2.2.2.1)⟩)
       ·exact .inr (.inr (.inl q))
       ·exact .inl (.inl q)
       ·exact .inr (.inr (.inr q))
       ·exact .inl (.inr q)
      ·have e:insP (rs.map prR) w (.tup [.str m,.str t])=(rs++[(w,m,t)]).map prR:=by
        unfold insP
        rw[qkc,if_neg hm,List.map_append]
        rfl
       rw[e]
       rfl
    rintro τ ⟨t,hmk,rfl⟩
    obtain⟨A,A2⟩:=put m t hmk w14 hm hsh
    rfl'
    refine⟨by decide,?_⟩
    by_cases q:m∈[qag,qas]
    ·rw[decide_eq_true q]
     have fsm:FS m:=by simpa [FS] using q
     refine⟨Nat.lt_of_lt_of_le (show _<1000 by omega) qaw,hnx _ ⟨rs++[(w,m,t)],fs++[w],some (.val (.int c)),some (.val (wayD f)),some (.val (wayD w)),some (.val (.str m)),A2 fsm,?_⟩⟩
     rw[List.map_append (f:=wayD)]
     rfl
    ·rw[decide_eq_false q]
     exact hnx _ ⟨rs++[(w,m,t)],fs,_,_,_,_,A,rfl⟩
 ·rintro τ ⟨rs,fs,k5,k6,k7,k8,PI,rfl⟩
  have hlen:=PI.len
  simp! only[vSeq,qaq]
  have ek:(((rs.map prR).map (·.1)).map λw=>D.tup (w.map D.str))=(rs.map (·.1)).map wayD:=by
   rw[List.map_map,List.map_map,List.map_map]
   rfl
  refine⟨?_,?_,λds hp hs=>?_⟩
  ·rw[ek]
   exact qge PI.nd
  ·(first|omega|(simp only[List.length_map];omega))
  ·rw[ek] at hp
   obtain⟨vs,rfl,hv,hso⟩:=qh7 hp hs
   have hvl:vs.length=rs.length:=by rw[hv.length_eq,List.length_map]
   refine qi8 (λw=>rowD (w,lkR rs w)) vs (Nat.le_trans (show _<=1000 by omega) qaw) (λw mw Y N hY=>?_) ?_
   ·have mw':=hv.mem_iff.mp mw
    simp! only[vSeq,wayD]
    have wk:("" : Str)∉w:=by
     obtain⟨r,mr,er⟩:=List.mem_map.mp mw'
     rcases PI.row r mr with q|q
     ·rw[←er,q.1];simp
     ·rw[←er];exact q.2.1.ok.ne
    exact⟨by decide,wk,thD (lkR rs w),by rw[qbo];exact qmz PI.nd mw',by show 3<=sizeLine;decide,hY⟩
   ·simp! only[vSeq,true_and]
    have e:vs.map (λw=>rowD (w,lkR rs w))=(vs.map λw=>(w,lkR rs w)).map rowD:=by rw[List.map_map];rfl
    rw[e]
    obtain⟨p1,p2⟩:=qek PI.nd hv hso
    obtain⟨a1,a2,a3,a4,a5⟩:=PI.pane p1 p2
    refine h _ ⟨a1,λr hr=>?_,a2,λr hr z=>?_,by omega⟩
    ·rcases PI.row r (p1.mem_iff.mp hr) with z|⟨_,_,⟨_,z⟩,_⟩
     ·exact .inl z.1
     ·exact .inr (z.imp id λ⟨q,mq,x⟩=>⟨q,p1.mem_iff.mpr mq,x⟩)
    ·exact q17 (a5 r hr (.inr z))
def qg1:TVS:=(vSeq (vSet 2 (vOp vAdd (vC (.int 2)) (vOp vMod (vOp vDiv (vVar 1) (vC (.int 5))) (vC (.int 7)))))
 (vSeq (qfz 3 qfx)
 (vSeq (qfz 4 (vLst (qaa (vTup vNil) vNil)))
 (vSeq (vFor (qcr (vVar 0)) (qbl 5)
  (vSeq (vSet 6 (vOp vIxR (vVar 4) (qal qar (qaa (vVar 5) (qaa (vC (.int 0)) (qaa (vF1 vLen (vVar 4)) vNil))))))
 (vSeq (vIfS (vBl (vOp vEq (qal qar (qaa (vVar 5) (qaa (vC (.int 3)) (qaa (vC (.int 3)) vNil)))) (vC (.int 0))))
  (vSet 6 (vOp vIxR (vVar 4) (vNeg (vC (.int 1)))))
  qbv)
 (vSeq (vSet 7 (vOp vAdd (vVar 6) (vTup (qaa (qal qbj (qaa (vVar 1) (qaa (qal qar (qaa (vVar 5) (qaa (vC (.int 1)) (qaa (vVar 2) vNil)))) vNil))) vNil))))
 (vIfS (qfg (vBl (vDIn (!·) (vVar 7) (vVar 3))) (vBl (vOp vLt (vF1 vLen (vVar 7)) (vC (.int 15)))))
  (vSeq (vSet 8 (vOp vIxR (vTup (qaa (vC (.str ("folder" : Str))) (qaa (vC (.str ("file" : Str))) (qaa (vC (.str ("folder" : Str))) (qaa (vC (.str ("link" : Str))) vNil))))) (qal qar (qaa (vVar 5) (qaa (vC (.int 2)) (qaa (vC (.int 4)) vNil))))))
 (vSeq (qgq 3 (vVar 7) (vTup (qaa (vVar 8) (qaa (qal qb8 (qaa (vVar 8) (qaa (vVar 5) (qaa (vVar 1) (qaa (vVar 2) vNil))))) vNil))))
 (vIfS (vBl (vOp vEq (vVar 8) (vC (.str ("folder" : Str)))))
  (qfh 4 (vVar 7))
  qbv)))
  qbv)))))
 (vRet (qie (qcr (vF1 qer (vF1 qh3 (vVar 3)))) (qbl 9) (λ_ Q=>Q true) (vOp vAdd (vTup (qaa (vVar 9) vNil)) (qlw (vVar 3) (vVar 9))) 1))))))
abbrev qq1:List Str:=["_law_cells","_law_stem","_law_wide","_law_things","_law_folders","_law_cell","_law_over","_law_way","_law_mark"]
theorem quk:∀ds Q,qdo ds Q->qg1 (En Q) (qba qq1 ds):=by
 rintro ds Q ⟨cs,st,rfl,hcs,h0,h1,h⟩
 refine qfj ?_
 dsimp! only[qg1]
 have w0:=Int.emod_nonneg (st / 5) (show (7:Int)≠0 by decide)
 generalize hwd:2+st / 5%7=wide
 have w1:0<wide:=by omega
 refine qfj ?_
 rfl'
 refine qfj ?_
 rfl'
 refine⟨by decide,?_⟩
 refine qfj ?_
 rfl'
 refine qdu (λi τ=>∃(rs:List Row) (fs:List (List Str)) (a b c d:Option R),(PInv i rs fs/\TrK rs) /\
  τ=[some (.val (.lst (cs.map D.int))),some (.val (.int st)),some (.val (.int wide)),some (.own (qaq (rs.map prR))),some (.own (.lst (fs.map wayD))),a,b,c,d]) ⟨[],[[]],none,none,none,none,⟨.start (.inl rfl),λr hr=>by cases hr⟩,rfl⟩ ?_ ?_
 ·rintro i c τ hc ⟨rs,fs,k5,k6,k7,k8,⟨PI,NR⟩,rfl⟩ nx hnx
  have hi:=(List.getElem?_eq_some_iff.mp hc).1
  have hfp:0<fs.length:=List.length_pos_iff.mpr PI.ne
  have hfl:=PI.fln
  have hrl:=PI.len
  refine v_cut (λτ=>∃f,f∈fs/\τ=[some (.val (.lst (cs.map D.int))),some (.val (.int st)),some (.val (.int wide)),some (.own (qaq (rs.map prR))),some (.own (.lst (fs.map wayD))),some (.val (.int c)),some (.val (wayD f)),k7,k8]) ?_ λnx2 hnx2=>?now
  case now =>
   dsimp! only[qar]
   refine⟨by omega,λk k0 k1 _=>?_⟩
   obtain⟨f,hf,hf2⟩:=qd3 (xs:=fs) (k:=k) k0 k1
   exact⟨wayD f,by rw[qdi,hf];rfl,hnx2 _ ⟨f,List.mem_of_getElem? hf2,rfl⟩⟩
  rintro τ ⟨f,mf,rfl⟩
  refine v_cut (λτ=>∃f,f∈fs/\τ=[some (.val (.lst (cs.map D.int))),some (.val (.int st)),some (.val (.int wide)),some (.own (qaq (rs.map prR))),some (.own (.lst (fs.map wayD))),some (.val (.int c)),some (.val (wayD f)),k7,k8]) ?_ λnx2 hnx2=>?now
  case now =>
   dsimp! only[qar]
   refine λk k0 k1 _=>?_
   split
   ·exact⟨wayD (fs.getLast PI.ne),by rw[List.getLast?_map,List.getLast?_eq_some_getLast PI.ne];rfl,hnx2 _ ⟨_,List.getLast_mem PI.ne,rfl⟩⟩
   ·exact hnx2 _ ⟨f,mf,rfl⟩
  clear mf f
  rintro τ ⟨f,mf,rfl⟩
  have hf14:=(PI.fol f mf).1
  refine v_cut (λτ=>∃z:Str,1<=z.length/\z.length<=12/\τ=[some (.val (.lst (cs.map D.int))),some (.val (.int st)),some (.val (.int wide)),some (.own (qaq (rs.map prR))),some (.own (.lst (fs.map wayD))),some (.val (.int c)),some (.val (wayD f)),some (.val (wayD (f++[z]))),k8]) ?_ λnx2 hnx2=>?now
  case now =>
   dsimp! only[qar,qbj,wayD]
   have:=hf14.1
   exact⟨w1,λk k0 k1 _=>⟨h0,h1,k0,λz z1 z2=>⟨by decide,Nat.le_trans (show _<=1000 by omega) qaw,hnx2 _ ⟨z,z1,z2,rfl⟩⟩⟩⟩
  rintro τ ⟨z,z1,z2,rfl⟩
  have hfz:(∀y∈f++[z],1<=y.length/\y.length<=12):=λy hy=>by
   rcases List.mem_append.mp hy with m|m
   ·exact hf14.2 y m
   ·rw[List.mem_singleton.mp m];exact⟨z1,z2⟩
  have hwy:WyOk (f++[z]):=⟨by have:=hf14.1;rw[List.length_append,List.length_singleton];omega,hfz⟩
  have lk:(lkP (rs.map prR) (f++[z])).isSome=decide (f++[z]∈rs.map (·.1)):=by
   rw[qon,Option.isSome_map]
   exact(Option.isSome_map ..).symm.trans (qfo rs (f++[z]))
  have stay:=hnx _ ⟨rs,fs,some (.val (.int c)),some (.val (wayD f)),some (.val (wayD (f++[z]))),k8,⟨PI.stay,NR⟩,rfl⟩
  have put:=λ(m t:Str) (hm:mkOk (f++[z],m,t)) (hw:Wy14 (f++[z])) (nw:f++[z]∉rs.map (·.1)) (hs:m=qax\/m=qas->qe3 rs (f++[z])=false)=>PI.put mf hm hw nw hs
  generalize hw:f++[z]=w at *
  refine v_if (λb=>b=true->w∉rs.map (·.1)/\w.length<15) (λY y=>?test) (λhyes=>?yes) λ_=>stay
  case test =>
   dsimp! only[qaq,wayD]
   refine⟨hwy.ne,?_⟩
   rw[qbo,lk]
   by_cases hm:w∈rs.map (·.1)
   ·rw[decide_eq_true hm]
    exact iteF (y _ λz=>by cases z)
   ·rw[decide_eq_false hm]
    exact iteT (y _ λz=>⟨hm,by have:=of_decide_eq_true z;omega⟩)
  case yes =>
    obtain⟨hm,h15'⟩:=hyes rfl
    have w14:Wy14 w:=⟨by omega,hfz⟩
    refine v_cut (λτ=>∃m:Str,(m=qag\/m=qcf\/m=qcg)/\τ=[some (.val (.lst (cs.map D.int))),some (.val (.int st)),some (.val (.int wide)),some (.own (qaq (rs.map prR))),some (.own (.lst (fs.map wayD))),some (.val (.int c)),some (.val (wayD f)),some (.val (wayD w)),some (.val (.str m))]) ?_ λnx2 hnx2=>?now
    case now =>
     dsimp! only[qar]
     refine⟨by decide,λk k0 k1 _=>?_⟩
     have e:[D.str (Str.ofString "folder"),D.str (Str.ofString "file"),D.str (Str.ofString "folder"),D.str (Str.ofString "link")]=[qag,qcf,qag,qcg].map D.str:=rfl
     obtain⟨y,hy,hy2⟩:=qd3 (xs:=[qag,qcf,qag,qcg]) (k:=k) k0 k1
     have my:y=qag\/y=qcf\/y=qcg:=by
      have:=List.mem_of_getElem? hy2
      simp only[List.mem_cons,List.not_mem_nil,or_false] at this
      rcases this with q|q|q|q<;>simp[q]
     exact⟨.str y,by rw[e,qdi,hy];rfl,hnx2 _ ⟨y,my,rfl⟩⟩
    rintro τ ⟨m,hm1,rfl⟩
    have hsh:m=qax\/m=qas->qe3 rs w=false:=λz=>by
     rcases hm1 with q|q|q<;>rw[q] at z
     ·rcases z with z|z
      ·exact absurd z.symm mne.2.1
      ·exact absurd z.symm mne.1
     ·rcases z with z|z
      ·exact absurd z mne.2.2.2.2.2.2.2.1
      ·exact absurd z mne.2.2.2.2.2.1
     ·rcases z with z|z
      ·exact absurd z mne.2.2.2.2.2.2.2.2.1
      ·exact absurd z mne.2.2.2.2.2.2.1
    refine v_cut (λτ=>∃t:Str,mkOk (w,m,t)/\τ=[some (.val (.lst (cs.map D.int))),some (.val (.int st)),some (.val (.int wide)),some (.own (qaq ((rs++[(w,m,t)]).map prR))),some (.own (.lst (fs.map wayD))),some (.val (.int c)),some (.val (wayD f)),some (.val (wayD w)),some (.val (.str m))]) ?_ λnx2 hnx2=>?now
    case now =>
     dsimp! only[qb8,qaq,wayD]
     refine⟨h0,h1,w1,λt ht=>⟨by decide,hwy.ne,?_,?_⟩⟩
     ·exact Nat.lt_of_lt_of_le (show _<1000 by omega) qaw
     ·rw[qb1]
      refine hnx2 _ ⟨t,?_,?_⟩
      ·rcases hm1 with q|q|q
       ·exact .inr (.inl ⟨q,ht (by rw[q];exact Ne.symm mne.2.2.1) (by rw[q];exact Ne.symm mne.2.2.2.1)⟩)
       ·exact .inl (.inl q)
       ·exact .inl (.inr q)
      ·have e:insP (rs.map prR) w (.tup [.str m,.str t])=(rs++[(w,m,t)]).map prR:=by
        unfold insP
        rw[qkc,if_neg hm,List.map_append]
        rfl
       rw[e]
       rfl
    rintro τ ⟨t,hmk,rfl⟩
    obtain⟨A,A2⟩:=put m t hmk w14 hm hsh
    have NR2:TrK (rs++[(w,m,t)]):=λr hr=>by
     rcases List.mem_append.mp hr with hr|hr
     ·exact NR r hr
     ·rw[List.mem_singleton.mp hr]
      refine⟨λz=>by
       have z':w=[]:=z
       rw[←hw] at z'
       simp at z',?_⟩
      rcases hmk with y|y|y|y
      ·exact .inl y
      ·exact .inr y
      ·exact absurd y λy=>by
        have y:m=qas:=y
        rcases hm1 with q|q|q<;>rw[q] at y
        ·exact absurd y.symm mne.1
        ·exact absurd y mne.2.2.2.2.2.1
        ·exact absurd y mne.2.2.2.2.2.2.1
      ·exact absurd y λy=>by
        have y:m=qax:=y
        rcases hm1 with q|q|q<;>rw[q] at y
        ·exact absurd y.symm mne.2.1
        ·exact absurd y mne.2.2.2.2.2.2.2.1
        ·exact absurd y mne.2.2.2.2.2.2.2.2.1
    rfl'
    by_cases q:m=qag
    ·rw[decide_eq_true q]
     refine iteT ⟨Nat.lt_of_lt_of_le (show _<1000 by omega) qaw,hnx _ ⟨rs++[(w,m,t)],fs++[w],some (.val (.int c)),some (.val (wayD f)),some (.val (wayD w)),some (.val (.str m)),⟨A2 (.inl q),NR2⟩,?_⟩⟩
     rw[List.map_append (f:=wayD)]
     rfl
    ·rw[decide_eq_false q]
     exact iteF (hnx _ ⟨rs++[(w,m,t)],fs,_,_,_,_,⟨A,NR2⟩,rfl⟩)
 ·rintro τ ⟨rs,fs,k5,k6,k7,k8,⟨PI,NR⟩,rfl⟩
  have hlen:=PI.len
  simp! only[vSeq,qaq]
  have ek:(((rs.map prR).map (·.1)).map λw=>D.tup (w.map D.str))=(rs.map (·.1)).map wayD:=by
   rw[List.map_map,List.map_map,List.map_map]
   rfl
  refine⟨?_,?_,λds hp hs=>?_⟩
  ·rw[ek]
   exact qge PI.nd
  ·(first|omega|(simp only[List.length_map];omega))
  ·rw[ek] at hp
   obtain⟨vs,rfl,hv,hso⟩:=qh7 hp hs
   have hvl:vs.length=rs.length:=by rw[hv.length_eq,List.length_map]
   refine qi8 (λw=>rowD (w,lkR rs w)) vs (Nat.le_trans (show _<=1000 by omega) qaw) (λw mw Y N hY=>?_) ?_
   ·have mw':=hv.mem_iff.mp mw
    simp! only[vSeq,wayD]
    have wk:("" : Str)∉w:=by
     obtain⟨r,mr,er⟩:=List.mem_map.mp mw'
     rcases PI.row r mr with q|q
     ·rw[←er,q.1];simp
     ·rw[←er];exact q.2.1.ok.ne
    exact⟨by decide,wk,thD (lkR rs w),by rw[qbo];exact qmz PI.nd mw',by show 3<=sizeLine;decide,hY⟩
   ·simp! only[vSeq,true_and]
    have e:vs.map (λw=>rowD (w,lkR rs w))=(vs.map λw=>(w,lkR rs w)).map rowD:=by rw[List.map_map];rfl
    rw[e]
    obtain⟨p1,p2⟩:=qek PI.nd hv hso
    exact h _ (q1b PI NR p1 p2) (by rw[p1.length_eq];exact Nat.le_trans PI.len (by omega)) (λr hr=>(PI.pane p1 p2).2.1 r hr)
def qmb:TVS:=(vRet (qd5 (vVar 0) qcu (qdk (vNeg (vC (.int 1))))))
abbrev qyd:List Str:=["way"]
theorem q1h:∀ds Q,qfb ds Q->qmb (En Q) (qba qyd ds):=by
 rintro ds Q ⟨w,rfl,h⟩
 simp! only[vSeq,qmb,wayD]
 rw[qg5]
 exact h
def qf4:TVS:=(vRet (vF1 qer (vVar 0)))
abbrev qph:List Str:=["entries"]
theorem qqp:∀ds Q,qc1 ds Q->qf4 (En Q) (qba qph ds):=by
 rintro ds Q ⟨rs,rfl,nd,hl,h⟩
 simp! only[vSeq,qf4,qab]
 refine⟨qqf nd,by first|exact hl|(rw[List.length_map];exact hl),λds hp hs=>?_⟩
 obtain⟨ts,rfl,p1,p2⟩:=qtm nd hp hs
 exact h ts p1 p2
def qf5:TVS:=(vSeq (qfz 1 qfx)
 (vSeq (vFor (qcr (vVar 0)) (qqo 3 (qd6 (qbl 2) (qd6 (qbl 3) (qd6 (qbl 4) qqn))))
  (qgq 1 (vVar 2) (vVar 3)))
 (qns 1)))
abbrev qpi:List Str:=["pane","marks","way","mark","text"]
theorem qqq:∀ds Q,qce ds Q->qf5 (En Q) (qba qpi ds):=by
 rintro ds Q ⟨p,rfl,nd,nm,hl,h⟩
 simp! only[vSeq,qf5,qab]
 refine qdu (λi τ=>∃(a b c:Option R),τ=[some (.val (.lst (p.map rowD))),some (.own (qaq ((p.take i).map prM))),a,b,c]) ⟨none,none,none,rfl⟩ ?_ ?_
 ·rintro i r τ hr ⟨a,b,c,rfl⟩ nx hnx
  have mr:=List.mem_of_getElem? hr
  have hi:=(List.getElem?_eq_some_iff.mp hr).1
  simp! only[vSeq,rowD,qaq,wayD]
  refine⟨(nm r mr).ok.ne,?_,?_⟩
  ·rw[List.length_take]
   exact Nat.lt_of_lt_of_le (show _<1000 by omega) qaw
  ·rw[qb1]
   have ni:¬ r.1∈((p.take i).map prM).map (·.1):=by
    rw[qun]
    exact qfw nd hr
   have e:insP ((p.take i).map prM) r.1 (.str r.2.1)=(p.take (i+1)).map prM:=by
    unfold insP
    rw[if_neg ni,List.take_succ,hr,List.map_append]
    rfl
   rw[e]
   exact hnx _ ⟨_,_,_,rfl⟩
 ·rintro τ ⟨a,b,c,rfl⟩
  simp! only[vSeq,true_and]
  rw[List.take_length]
  exact h
def qi4:TVS:=(vRet (qnr (vOp (vIsN (!·)) (vVar 0) (vC .non)) (vOp vNeD (vVar 0) (vC (.str ("folder" : Str))))))
abbrev qyf:List Str:=["mark"]
theorem q1j:∀ds Q,qf7 ds Q->qi4 (En Q) (qba qyf ds):=by
 rintro ds Q ⟨o,rfl,h⟩
 cases o with
|none =>
  simp! only[vSeq,qi4,Option.map_none,Option.getD_none]
  exact h
|some m =>
  simp! only[vSeq,qi4,Option.map_some,Option.getD_some]
  exact h
def qdt:TVS:=(vSeq (vSet 2 (qal qce (qaa (vVar 0) vNil)))
 (vSeq (qfz 3 qfx)
 (vSeq (vFor (qcr (vVar 1)) (qqo 3 (qd6 (qbl 4) (qd6 (qbl 5) (qd6 (qbl 6) qqn))))
  (vIfS (qfg (vBl (vOp vNeD (vVar 4) (vTup vNil))) (vOrT (vBl (vDIn id (qal qfb (qaa (vVar 4) vNil)) (vVar 3))) (vBl (qal qf7 (qaa (qo9 (vVar 2) (qal qfb (qaa (vVar 4) vNil))) vNil)))))
  (qgq 3 (vVar 4) (vC (.bl true)))
  qbv))
 (qns 3))))
abbrev qi1:List Str:=["pane","entries","marks","hidden","way","mark","text"]
theorem qka:∀ds Q,qb7 ds Q->qdt (En Q) (qba qi1 ds):=by
 rintro ds Q ⟨p,tr,rfl,nd,nm,hl,T,tm,tl,h⟩
 refine qfj ?_
 dsimp! only[qdt]
 refine⟨p,rfl,nd,nm,hl,?_⟩
 rfl'
 refine qfj ?_
 rfl'
 refine qfj ?_
 dsimp! only[qab]
 refine qdu (λi τ=>∃(a b c:Option R),τ=[some (.val (.lst (p.map rowD))),some (.val (.lst (tr.map rowD))),some (.val (qaq (p.map prM))),some (.own (qaq ((hidW p (tr.take i)).map λw=>(w,.bl true)))),a,b,c]) ⟨none,none,none,rfl⟩ ?_ ?_
 ·rintro i r τ hr ⟨a,b,c,rfl⟩ nx hnx
  have mr:=List.mem_of_getElem? hr
  have hi:=(List.getElem?_eq_some_iff.mp hr).1
  have wy:=(tm r mr).ok
  have hh:=λh0:r.1≠[]=>qr7 (p:=p) T hr h0
  have hL:(hidW p (tr.take i)).length<=400:=by
   unfold hidW
   rw[List.length_map]
   have:=List.length_filter_le (λr:Row=>qa7 p r.1) (tr.take i)
   rw[List.length_take] at this
   omega
  have et:tr.take (i+1)=tr.take i++[r]:=by rw[List.take_succ,hr];rfl
  have ab:∀Y:R->Prop,Y (.val (wayD r.1.dropLast))->qfb [wayD r.1] Y:=λY y=>⟨r.1,rfl,y⟩
  have hd:∀(o:Option Str) (Y:R->Prop),Y (.val (.bl (qb9 o)))->qf7 [(o.map D.str).getD .non] Y:=λo Y y=>⟨o,rfl,y⟩
  have stay:qa7 p r.1=false->nx [some (.val (.lst (p.map rowD))),some (.val (.lst (tr.map rowD))),some (.val (qaq (p.map prM))),some (.own (qaq ((hidW p (tr.take i)).map λw=>(w,.bl true)))),some (.val (wayD r.1)),some (.val (.str r.2.1)),some (.val (.str r.2.2))]:=λq=>hnx _ ⟨_,_,_,by
   have:hidW p (tr.take (i+1))=hidW p (tr.take i):=by
    unfold hidW
    rw[et,List.filter_append]
    simp[q]
   rw[this]⟩
  have put:qa7 p r.1=true->nx [some (.val (.lst (p.map rowD))),some (.val (.lst (tr.map rowD))),some (.val (qaq (p.map prM))),some (.own (qaq ((hidW p (tr.take i)++[r.1]).map λw=>(w,.bl true)))),some (.val (wayD r.1)),some (.val (.str r.2.1)),some (.val (.str r.2.2))]:=λq=>hnx _ ⟨_,_,_,by
   have:hidW p (tr.take (i+1))=hidW p (tr.take i)++[r.1]:=by
    unfold hidW
    rw[et,List.filter_append]
    simp[q]
   rw[this]⟩
  have nin:r.1∉hidW p (tr.take i):=λm=>by
   unfold hidW at m
   obtain⟨q,mq,eq⟩:=List.mem_map.mp m
   exact qfw (qah T.so) hr (List.mem_map.mpr ⟨q,(List.mem_filter.mp mq).1,eq⟩)
  dsimp! only[rowD,wayD]
  refine⟨cmpW _ [],depW _,?_⟩
  have e0:eqD (.tup (r.1.map D.str)) (.tup [])=decide (r.1=[]):=eqW r.1 []
  rw[e0]
  by_cases h0:r.1=[]
  ·rw[decide_eq_true h0]
   exact iteF (stay (by rw[h0];rfl))
  rw[decide_eq_false h0]
  refine iteT (ab _ ?_)
  dsimp! only[qaq,wayD]
  refine⟨wy.drop.ne,?_⟩
  have lk1:(lkD (((hidW p (tr.take i)).map λw=>(w,D.bl true)).map (·.1)) (((hidW p (tr.take i)).map λw=>(w,D.bl true)).map (·.2)) r.1.dropLast).isSome=decide (r.1.dropLast∈hidW p (tr.take i)):=by
   rw[qbo,qsr]
   by_cases m:r.1.dropLast∈hidW p (tr.take i)
   ·rw[if_pos m,decide_eq_true m];rfl
   ·rw[if_neg m,decide_eq_false m];rfl
  have ins:insP ((hidW p (tr.take i)).map λw=>(w,D.bl true)) r.1 (.bl true)=(hidW p (tr.take i)++[r.1]).map λw=>(w,D.bl true):=by
   unfold insP
   rw[if_neg (by rw[List.map_map];exact λm=>nin (by simpa using m)),List.map_append]
   rfl
  have big:1000<sizeLine:=by decide
  have yes:qa7 p r.1=true->("" : Str)∉r.1/\(hidW p (tr.take i)).length<sizeLine/\nx [some (.val (.lst (p.map rowD))),some (.val (.lst (tr.map rowD))),some (.val (.dT ((p.map prM).map (·.1)) ((p.map prM).map (·.2)))),some (.own (putD (((hidW p (tr.take i)).map λw=>(w,D.bl true)).map (·.1)) (((hidW p (tr.take i)).map λw=>(w,D.bl true)).map (·.2)) r.1 (.bl true))),some (.val (.tup (r.1.map D.str))),some (.val (.str r.2.1)),some (.val (.str r.2.2))]:=λq=>⟨wy.ne,by omega,by
   rw[qb1,ins]
   exact put q⟩
  by_cases m:r.1.dropLast∈hidW p (tr.take i)
  ·rw[lk1,decide_eq_true m]
   exact iteT (yes (by rw[←hh h0,decide_eq_true m];rfl))
  ·rw[lk1,decide_eq_false m]
   have hh2:=hh h0
   rw[decide_eq_false m,Bool.false_or] at hh2
   refine iteF (ab _ ?_)
   dsimp! only[wayD]
   refine⟨wy.drop.ne,?_⟩
   rw[qbo,qom]
   refine hd _ _ ?_
   rfl'
   rw[hh2]
   cases q:qa7 p r.1 with
  |true=>exact iteT (yes q)
  |false=>exact iteF (stay q)
 ·rintro τ ⟨a,b,c,rfl⟩
  simp! only[vSeq,true_and]
  rw[List.take_length]
  exact h
def qeb:TVS:=(vSeq (vSet 2 (qal qce (qaa (vVar 0) vNil)))
 (vSeq (vSet 3 (qal qb7 (qaa (vVar 0) (qaa (vVar 1) vNil))))
 (vRet (qie (qcr (vVar 1)) (qbl 4) (qfg (vBl (vDIn (!·) (vOp vIxR (vVar 4) (vC (.int 0))) (vVar 2))) (vBl (vDIn (!·) (vOp vIxR (vVar 4) (vC (.int 0))) (vVar 3)))) (vVar 4) 1))))
abbrev qke:List Str:=["pane","entries","marks","hidden"]
theorem ql2:∀ds Q,qbz ds Q->qeb (En Q) (qba qke ds):=by
 rintro ds Q ⟨p,tr,rfl,nd,nm,hl,T,tm,tl,h⟩
 refine qfj ?_
 dsimp! only[qeb]
 refine⟨p,rfl,nd,nm,hl,?_⟩
 rfl'
 refine qfj ?_
 rfl'
 refine⟨p,tr,rfl,nd,nm,hl,T,tm,tl,?_⟩
 dsimp! only[qab]
 refine qfa (λr=>rowD r) (λr=>!inR p r.1&&!qa7 p r.1) tr (Nat.le_trans (show _<=1000 by omega) qaw) (λr hr Y N y1 y2=>?_) ?_
 ·have wy:=(tm r hr).ok
  have hm:=qyy (p:=p) (List.mem_map.mpr ⟨r,hr,rfl⟩:r.1∈tr.map (·.1))
  dsimp! only[rowD,qaq,wayD]
  have l1:(lkD ((p.map prM).map (·.1)) ((p.map prM).map (·.2)) r.1).isSome=inR p r.1:=by
   rw[qbo,qom,Option.isSome_map,qfo]
  have l2:(lkD (((hidW p tr).map λw=>(w,D.bl true)).map (·.1)) (((hidW p tr).map λw=>(w,D.bl true)).map (·.2)) r.1).isSome=qa7 p r.1:=by
   rw[qbo,qsr,←hm]
   by_cases m:r.1∈hidW p tr
   ·rw[if_pos m,decide_eq_true m];rfl
   ·rw[if_neg m,decide_eq_false m];rfl
  rw[l1,l2]
  refine⟨wy.ne,?_⟩
  cases q1:inR p r.1 with
 |true=>exact iteF (y2 (by rw[q1];rfl))
 |false =>
   refine iteT ⟨wy.ne,?_⟩
   cases q2:qa7 p r.1 with
  |true=>exact iteF (y2 (by rw[q1,q2];rfl))
  |false=>exact iteT (y1 (by rw[q1,q2];rfl))
 ·simp! only[vSeq,true_and]
  exact h
def qmc:TVS:=(vRet (vIfE (vBl (vOp vEq (vVar 1) (vC (.str ("shut" : Str))))) (vTup (qaa (vVar 0) (qaa (vC (.str ("folder" : Str))) (qaa (vC (.str ("" : Str))) vNil)))) (vTup (qaa (vVar 0) (qaa (vVar 1) (qaa (vVar 2) vNil))))))
abbrev qyh:List Str:=["way","mark","text"]
theorem q1l:∀ds Q,qf8 ds Q->qmc (En Q) (qba qyh ds):=by
 rintro ds Q ⟨w,m,t,rfl,h⟩
 simp! only[vSeq,qmc,wayD]
 unfold qep at h
 by_cases q:m=qas
 ·rw[decide_eq_true q]
  rw[if_pos q] at h
  exact iteT ⟨by decide,h⟩
 ·rw[decide_eq_false q]
  rw[if_neg q] at h
  exact iteF ⟨by decide,h⟩
def qw3:TVS:=(vSeq (vSet 2 (qie (qcr (vVar 0)) (qqo 3 (qd6 (qbl 3) (qd6 (qbl 4) (qd6 (qbl 5) qqn)))) (qfg (vBl (vOp vNeD (vVar 3) (vTup vNil))) (vBl (vOp vNeD (vVar 4) (vC (.str ("gone" : Str)))))) (qal qf8 (qaa (vVar 3) (qaa (vVar 4) (qaa (vVar 5) vNil)))) 3))
 (vRet (qal qc1 (qaa (vOp vAdd (qal qbz (qaa (vVar 0) (qaa (vVar 1) vNil))) (vVar 2)) vNil))))
abbrev q1q:List Str:=["pane","tree","put"]
theorem q4p:∀ds Q,qk1 ds Q->qw3 (En Q) (qba q1q ds):=by
 rintro ds Q ⟨p,tr,rfl,P,pn,pl,T,tn,hl,h⟩
 have la:∀Y:R->Prop,Y (.own (qab (qat p tr)))->qbz [qab p,qab tr] Y:=λY y=>⟨p,tr,rfl,qah P.so,pn,pl,T.clo,tn,by omega,y⟩
 have nd:=qmq (qah P.so) (qah T.so)
 have ll:=qok p tr
 have io:∀Y:R->Prop,(∀ts:List Row,ts.Perm (qat p tr++putR p)->qao ts->Y (.own (qab ts)))->qc1 [qab (qat p tr++putR p)] Y:=λY y=>⟨_,rfl,nd,by unfold bulk at hl;omega,y⟩
 refine v_cut (λτ=>τ=[some (.val (qab p)),some (.val (qab tr)),some (.val (qab (putR p)))]) ?_ λnx hnx=>?now
 case now =>
  dsimp! only[qab]
  refine qfa (λr=>rowD (qep r)) (λr=>!decide (r.1=[])&&!decide (r.2.1=qax)) p (Nat.le_trans (show _<=1000 by omega) qaw) (λr hr Y N y1 y2=>?_) ?_
  ·have sh:∀Y:R->Prop,Y (.val (rowD (qep r)))->qf8 [wayD r.1,.str r.2.1,.str r.2.2] Y:=λY y=>⟨r.1,r.2.1,r.2.2,rfl,y⟩
   have e0:eqD (.tup (r.1.map D.str)) (.tup [])=decide (r.1=[]):=eqW r.1 []
   dsimp! only[rowD,wayD]
   refine⟨cmpW _ [],depW _,?_⟩
   rw[e0]
   by_cases h0:r.1=[]
   ·rw[decide_eq_true h0] at y2 ⊢
    exact iteF (y2 rfl)
   ·rw[decide_eq_false h0] at y1 y2 ⊢
    refine iteT ?_
    by_cases g:r.2.1=qax
    ·rw[decide_eq_true g] at y2 ⊢
     exact iteF (y2 rfl)
    ·rw[decide_eq_false g] at y1 ⊢
     refine iteT (sh _ ?_)
     rfl'
     exact y1 rfl
  ·rfl'
   refine hnx _ ?_
   unfold putR qab
   rw[List.map_map]
   rfl
 rintro τ rfl
 rfl'
 refine la _ ?_
 dsimp! only[qab]
 have ll2:(qat p tr++putR p).length<=tr.length+bulk p:=ll
 have el:(qat p tr).length+(putR p).length=(qat p tr++putR p).length:=by rw[List.length_append]
 refine⟨by rw[el];exact Nat.le_trans (show _<=1000 by omega) qaw,?_⟩
 rw[←List.map_append]
 refine io _ λts p1 p2=>?_
 rfl'
 have e:qa9 p tr=ts:=qj1 p1 p2
 have hp:(qa9 p tr).Perm (qat p tr++putR p)/\qao (qa9 p tr):=by
  rw[e]
  exact⟨p1,p2⟩
 rw[←e]
 refine h (qhg P T hp.1 hp.2) (λr hr=>?_) (by rw[hp.1.length_eq];exact ll)
 rcases List.mem_append.mp (hp.1.mem_iff.mp hr) with q|q
 ·exact tn r (List.mem_filter.mp q).1
 ·unfold putR at q
  obtain⟨o,mo,rfl⟩:=List.mem_map.mp q
  rw[qeq]
  exact pn o (List.mem_filter.mp mo).1
def qn2:TVS:=(vSeq (qfz 2 qfx)
 (vSeq (vFor (qcr (vVar 0)) (qbl 3)
  (qgq 2 (vOp vIxR (vVar 3) (vC (.int 0))) (vOp vIxR (vVar 3) (vC (.int 1)))))
 (vSeq (qfz 4 qfx)
 (vSeq (vFor (qcr (vVar 1)) (qbl 3)
  (vSeq (vSet 5 (vDIn (!·) (vOp vIxR (vVar 3) (vC (.int 0))) (vVar 2)))
 (vSeq (vFor (qlz (vF1 vLen (vOp vIxR (vVar 3) (vC (.int 0))))) (qbl 6)
  (vIfS (qfg (vBl (vDIn id (qd5 (vOp vIxR (vVar 3) (vC (.int 0))) qcu (qdk (vVar 6))) (vVar 2))) (vBl (vOp vNeD (qlw (vVar 2) (qd5 (vOp vIxR (vVar 3) (vC (.int 0))) qcu (qdk (vVar 6)))) (vC (.str ("folder" : Str))))))
  (vSet 5 (vC (.bl false)))
  qbv))
 (vIfS (vBl (vVar 5))
  (qgq 4 (vOp vIxR (vVar 3) (vC (.int 0))) (vTup (qaa (vOp vIxR (vVar 3) (vC (.int 1))) (qaa (vOp vIxR (vVar 3) (vC (.int 2))) vNil))))
  qbv))))
 (vSeq (vFor (qcr (vVar 0)) (qbl 3)
  (vIfS (vOrT (vBl (vOp vEq (vOp vIxR (vVar 3) (vC (.int 1))) (vC (.str ("file" : Str))))) (vBl (vOp vEq (vOp vIxR (vVar 3) (vC (.int 1))) (vC (.str ("link" : Str))))))
  (qgq 4 (vOp vIxR (vVar 3) (vC (.int 0))) (vTup (qaa (vOp vIxR (vVar 3) (vC (.int 1))) (qaa (vOp vIxR (vVar 3) (vC (.int 2))) vNil))))
  (vIfS (qfg (vBl (vOp vNeD (vOp vIxR (vVar 3) (vC (.int 1))) (vC (.str ("gone" : Str))))) (vBl (vOp vNeD (vOp vIxR (vVar 3) (vC (.int 0))) (vTup vNil))))
  (qgq 4 (vOp vIxR (vVar 3) (vC (.int 0))) (vTup (qaa (vC (.str ("folder" : Str))) (qaa (vC (.str ("" : Str))) vNil))))
  qbv)))
 (vRet (qie (qcr (vF1 qer (vF1 qh3 (vVar 4)))) (qbl 7) (λ_ Q=>Q true) (vOp vAdd (vTup (qaa (vVar 7) vNil)) (qlw (vVar 4) (vVar 7))) 1)))))))
abbrev qup:List Str:=["_law_pane","_law_tree","_law_marks","_law_row","_law_shown","_law_kept","_law_k"]
theorem qw0:∀ds Q,qcm ds Q->qn2 (En Q) (qba qup ds):=by
 rintro ds Q ⟨p,tr,rfl,P,pn,pl,T,tn,hl,h⟩
 have big:1000<sizeLine:=by decide
 have ndp:=qah P.so
 have ndt:=qah T.so
 have nd:=qmq ndp ndt
 have ll:(qat p tr++putR p).length<=tr.length+bulk p:=qok p tr
 refine v_cut (λτ=>τ=[some (.val (qab p)),some (.val (qab tr)),some (.own (qaq [])),none,none,none,none]) ?_ λnx hnx=>?now
 case now =>
  rfl'
  exact hnx _ rfl
 rintro τ rfl
 refine v_cut (λτ=>∃a,τ=[some (.val (qab p)),some (.val (qab tr)),some (.own (qaq (p.map prM))),a,none,none,none]) ?_ λnx hnx=>?now
 case now =>
  dsimp! only[qab]
  refine qdu (λi τ=>∃a,τ=[some (.val (qab p)),some (.val (qab tr)),some (.own (qaq ((p.take i).map prM))),a,none,none,none]) ⟨none,rfl⟩ ?_ ?_
  ·rintro i r τ hr ⟨a,rfl⟩ nx2 hnx2
   have mr:=List.mem_of_getElem? hr
   have hi:=(List.getElem?_eq_some_iff.mp hr).1
   simp! only[vSeq,rowD,qaq,wayD]
   refine⟨(pn r mr).ok.ne,?_,?_⟩
   ·rw[List.length_take]
    omega
   ·rw[qb1]
    have ni:¬ r.1∈((p.take i).map prM).map (·.1):=by
     rw[qun]
     exact qfw ndp hr
    have e:insP ((p.take i).map prM) r.1 (.str r.2.1)=(p.take (i+1)).map prM:=by
     unfold insP
     rw[if_neg ni,List.take_succ,hr,List.map_append]
     rfl
    rw[e]
    exact hnx2 _ ⟨some (.val (rowD r)),rfl⟩
  ·rintro τ ⟨a,rfl⟩
   rw[List.take_length]
   exact hnx _ ⟨a,rfl⟩
 rintro τ ⟨a,rfl⟩
 refine v_cut (λτ=>τ=[some (.val (qab p)),some (.val (qab tr)),some (.own (qaq (p.map prM))),a,some (.own (qaq [])),none,none]) ?_ λnx hnx=>?now
 case now =>
  rfl'
  exact hnx _ rfl
 rintro τ rfl
 refine v_cut (λτ=>∃a b c,τ=[some (.val (qab p)),some (.val (qab tr)),some (.own (qaq (p.map prM))),a,some (.own (qaq ((qat p tr).map prR))),b,c]) ?_ λnx hnx=>?now
 case now =>
  dsimp! only[qab]
  refine qdu (λi τ=>∃a b c,τ=[some (.val (qab p)),some (.val (qab tr)),some (.own (qaq (p.map prM))),a,some (.own (qaq ((qat p (tr.take i)).map prR))),b,c]) ⟨a,none,none,rfl⟩ ?_ ?_
  ·rintro i r τ hr ⟨a,b,c,rfl⟩ nx2 hnx2
   have mr:=List.mem_of_getElem? hr
   have hi:=(List.getElem?_eq_some_iff.mp hr).1
   have wy:=(tn r mr).ok
   have wl:=wy.1
   have et:tr.take (i+1)=tr.take i++[r]:=by rw[List.take_succ,hr];rfl
   have al:(qat p (tr.take i)).length<=200:=by
    have:=List.length_filter_le (λr:Row=>!inR p r.1&&!qa7 p r.1) (tr.take i)
    rw[List.length_take] at this
    have e:qat p (tr.take i)=(tr.take i).filter λr:Row=>!inR p r.1&&!qa7 p r.1:=rfl
    rw[e]
    omega
   refine v_cut (λτ=>τ=[some (.val (qab p)),some (.val (qab tr)),some (.own (qaq (p.map prM))),some (.val (rowD r)),some (.own (qaq ((qat p (tr.take i)).map prR))),some (.val (.bl (!inR p r.1))),c]) ?_ λnx3 hnx3=>?now
   case now =>
    dsimp! only[rowD,qaq,wayD]
    have l1:(lkD ((p.map prM).map (·.1)) ((p.map prM).map (·.2)) r.1).isSome=inR p r.1:=by
     rw[qbo,qom,Option.isSome_map,qfo]
    rw[l1]
    exact⟨wy.ne,hnx3 _ rfl⟩
   rintro τ rfl
   refine v_cut (λτ=>∃c,τ=[some (.val (qab p)),some (.val (qab tr)),some (.own (qaq (p.map prM))),some (.val (rowD r)),some (.own (qaq ((qat p (tr.take i)).map prR))),some (.val (.bl (!inR p r.1&&!qa7 p r.1))),c]) ?_ λnx3 hnx3=>?now
   case now =>
    dsimp! only[rowD,wayD]
    refine⟨by omega,by omega,qjf (λk τ=>∃c,τ=[some (.val (qab p)),some (.val (qab tr)),some (.own (qaq (p.map prM))),some (.val (rowD r)),some (.own (qaq ((qat p (tr.take i)).map prR))),some (.val (.bl (!inR p r.1&&!((List.range k).any λj=>qb9 (qbu p (r.1.take j)))))),c]) ⟨c,?_⟩ ?_ ?_⟩
    ·rw[List.range_zero,List.any_nil,Bool.not_false,Bool.and_true]
     rfl
    ·rintro k τ hk ⟨c,rfl⟩ nx4 hnx4
     have es:((List.range (k+1)).any λj=>qb9 (qbu p (r.1.take j)))=(((List.range k).any λj=>qb9 (qbu p (r.1.take j)))||qb9 (qbu p (r.1.take k))):=by
      rw[List.range_succ,List.any_append,List.any_cons,List.any_nil,Bool.or_false]
     have tk:("" : Str)∉r.1.take k:=λm=>wy.ne (List.mem_of_mem_take m)
     have no:qb9 (qbu p (r.1.take k))=false->∀c,nx4 [some (.val (qab p)),some (.val (qab tr)),some (.own (qaq (p.map prM))),some (.val (rowD r)),some (.own (qaq ((qat p (tr.take i)).map prR))),some (.val (.bl (!inR p r.1&&!((List.range k).any λj=>qb9 (qbu p (r.1.take j)))))),c]:=λq c=>hnx4 _ ⟨c,by rw[es,q,Bool.or_false]⟩
     have yes:qb9 (qbu p (r.1.take k))=true->∀c,nx4 [some (.val (qab p)),some (.val (qab tr)),some (.own (qaq (p.map prM))),some (.val (rowD r)),some (.own (qaq ((qat p (tr.take i)).map prR))),some (.val (.bl false)),c]:=λq c=>hnx4 _ ⟨c,by rw[es,q,Bool.or_true,Bool.not_true,Bool.and_false]⟩
     dsimp! only[rowD,qaq,wayD]
     simp only[qg6]
     refine⟨tk,?_⟩
     rw[qbo,qom]
     cases e:qbu p (r.1.take k) with
    |none =>
      refine iteF ?_
      exact no (by rw[e];rfl) _
    |some m =>
      refine iteT ⟨tk,.str m,rfl,?_⟩
      rfl'
      by_cases q:m=qag
      ·rw[decide_eq_true q]
       exact iteF (no (by rw[e,q];simp[qb9]) _)
      ·rw[decide_eq_false q]
       exact iteT (yes (by rw[e];simp[qb9,q]) _)
    ·rintro τ ⟨c,rfl⟩
     exact hnx3 _ ⟨c,rfl⟩
   rintro τ ⟨c,rfl⟩
   dsimp! only[rowD,wayD]
   cases q:(!inR p r.1&&!qa7 p r.1) with
  |false =>
    refine iteF (hnx2 _ ⟨some (.val (rowD r)),some (.val (.bl false)),c,?_⟩)
    have:qat p (tr.take (i+1))=qat p (tr.take i):=by
     unfold qat
     rw[et,List.filter_append,List.filter_cons_of_neg (by rw[q];exact Bool.false_ne_true),List.filter_nil,List.append_nil]
    rw[this]
    rfl
  |true =>
    refine iteT ?_
    dsimp! only[qaq,wayD]
    refine⟨by decide,wy.ne,by omega,?_⟩
    rw[qb1]
    have this:qat p (tr.take (i+1))=qat p (tr.take i)++[r]:=by
     unfold qat
     rw[et,List.filter_append,List.filter_cons_of_pos (by rw[q]),List.filter_nil]
    have ins:insP ((qat p (tr.take i)).map prR) r.1 (.tup [.str r.2.1,.str r.2.2])=(qat p (tr.take (i+1))).map prR:=by
     unfold insP
     rw[qkc,if_neg,this,List.map_append]
     ·rfl
     ·intro m
      obtain⟨o,mo,eo⟩:=List.mem_map.mp m
      exact qfw ndt hr (List.mem_map.mpr ⟨o,(List.mem_filter.mp mo).1,eo⟩)
    rw[ins]
    exact hnx2 _ ⟨some (.val (rowD r)),some (.val (.bl true)),c,rfl⟩
  ·rintro τ ⟨a,b,c,rfl⟩
   rw[List.take_length]
   exact hnx _ ⟨a,b,c,rfl⟩
 clear a
 rintro τ ⟨a,b,c,rfl⟩
 refine v_cut (λτ=>∃a,τ=[some (.val (qab p)),some (.val (qab tr)),some (.own (qaq (p.map prM))),a,some (.own (qaq ((qat p tr++putR p).map prR))),b,c]) ?_ λnx hnx=>?now
 case now =>
  dsimp! only[qab]
  refine qdu (λi τ=>∃a,τ=[some (.val (qab p)),some (.val (qab tr)),some (.own (qaq (p.map prM))),a,some (.own (qaq ((qat p tr++qbq (p.take i)).map prR))),b,c]) ⟨a,?_⟩ ?_ ?_
  ·show _=[_,_,_,_,some (R.own (qaq ((qat p tr++[]).map prR))),_,_]
   rw[List.append_nil]
   rfl
  ·rintro i r τ hr ⟨a,rfl⟩ nx2 hnx2
   have mr:=List.mem_of_getElem? hr
   have hi:=(List.getElem?_eq_some_iff.mp hr).1
   have wy:=(pn r mr).ok
   have et:p.take (i+1)=p.take i++[r]:=by rw[List.take_succ,hr];rfl
   have al:(qat p tr++qbq (p.take i)).length<=500:=by
    have h1:=List.length_filter_le (λr:Row=>!inR p r.1&&!qa7 p r.1) tr
    have h2:(qbq (p.take i)).length<=(p.take i).length:=by
     unfold qbq
     rw[List.length_map]
     exact List.length_filter_le _ _
    rw[List.length_take] at h2
    have e:qat p tr=tr.filter λr:Row=>!inR p r.1&&!qa7 p r.1:=rfl
    rw[List.length_append,e]
    omega
   have nin:r.1∉(qat p tr++qbq (p.take i)).map (·.1):=λm=>by
    rw[List.map_append] at m
    rcases List.mem_append.mp m with m|m
    ·obtain⟨o,mo,eo⟩:=List.mem_map.mp m
     have:=(List.mem_filter.mp mo).2
     have i1:inR p o.1=true:=decide_eq_true (List.mem_map.mpr ⟨r,mr,eo.symm⟩)
     rw[i1] at this
     cases this
    ·obtain⟨o,mo,eo⟩:=List.mem_map.mp m
     unfold qbq at mo
     obtain⟨o2,mo2,rfl⟩:=List.mem_map.mp mo
     have e2:o2.1=r.1:=by
      rw[←eo]
      split<;>rfl
     exact qfw ndp hr (List.mem_map.mpr ⟨o2,(List.mem_filter.mp mo2).1,e2⟩)
   have step:qbq (p.take (i+1))=qbq (p.take i)++qbq [r]:=by
    unfold qbq
    rw[et,List.filter_append,List.map_append]
   have ins:∀x:Str×Str,insP ((qat p tr++qbq (p.take i)).map prR) r.1 (thD x)=(qat p tr++(qbq (p.take i)++[(r.1,x)])).map prR:=λx=>by
    unfold insP
    rw[qkc,if_neg nin,←List.append_assoc,List.map_append (l₂:=[(r.1,x)])]
    rfl
   have put:∀x:Str×Str,qbq [r]=[(r.1,x)]->("" : Str)∉r.1/\(qat p tr++qbq (p.take i)).length<sizeLine/\nx2 [some (.val (qab p)),some (.val (qab tr)),some (.own (qaq (p.map prM))),some (.val (rowD r)),some (.own (qaq (insP ((qat p tr++qbq (p.take i)).map prR) r.1 (thD x)))),b,c]:=λx e=>⟨wy.ne,by omega,by
    rw[ins]
    exact hnx2 _ ⟨some (.val (rowD r)),by rw[step,e]⟩⟩
   have skip:qbq [r]=[]->nx2 [some (.val (qab p)),some (.val (qab tr)),some (.own (qaq (p.map prM))),some (.val (rowD r)),some (.own (qaq ((qat p tr++qbq (p.take i)).map prR))),b,c]:=λe=>hnx2 _ ⟨some (.val (rowD r)),by rw[step,e,List.append_nil]⟩
   have e0:eqD (.tup (r.1.map D.str)) (.tup [])=decide (r.1=[]):=eqW r.1 []
   dsimp! only[rowD,wayD,qaq]
   rw[qb1,qb1]
   by_cases m1:r.2.1=qcf
   ·rw[decide_eq_true m1]
    exact iteT ⟨by decide,put r.2 (by simp[qbq,m1])⟩
   rw[decide_eq_false m1]
   refine iteF ?_
   by_cases m2:r.2.1=qcg
   ·rw[decide_eq_true m2]
    exact iteT ⟨by decide,put r.2 (by simp[qbq,m2])⟩
   rw[decide_eq_false m2]
   refine iteF ?_
   by_cases m3:r.2.1=qax
   ·rw[decide_eq_true m3]
    exact iteF (skip (by simp only[qbq,List.filter_cons,List.filter_nil,decide_eq_false m1,decide_eq_false m2,decide_eq_true m3];rfl))
   rw[decide_eq_false m3]
   refine iteT ⟨cmpW _ [],depW _,?_⟩
   rw[e0]
   by_cases h0:r.1=[]
   ·rw[decide_eq_true h0]
    exact iteF (skip (by simp only[qbq,List.filter_cons,List.filter_nil,decide_eq_false m1,decide_eq_false m2,decide_eq_false m3,decide_eq_true h0];rfl))
   rw[decide_eq_false h0]
   refine iteT ⟨by decide,put (qag,qav) ?_⟩
   simp only[qbq,List.filter_cons,List.filter_nil,decide_eq_false m1,decide_eq_false m2,decide_eq_false m3,decide_eq_false h0]
   simp[m1,m2]
  ·rintro τ ⟨a,rfl⟩
   rw[List.take_length,qsk P]
   exact hnx _ ⟨a,rfl⟩
 clear a
 rintro τ ⟨a,rfl⟩
 generalize hL:qat p tr++putR p=L at *
 have wk:∀w∈L.map (·.1),("" : Str)∉w:=λw mw=>by
  obtain⟨r,mr,rfl⟩:=List.mem_map.mp mw
  rw[←hL] at mr
  rcases List.mem_append.mp mr with q|q
  ·exact(tn r (List.mem_filter.mp q).1).ok.ne
  ·unfold putR at q
   obtain⟨o,mo,rfl⟩:=List.mem_map.mp q
   rw[qeq]
   exact(pn o (List.mem_filter.mp mo).1).ok.ne
 dsimp! only[qaq]
 have ek:(((L.map prR).map (·.1)).map λw=>D.tup (w.map D.str))=(L.map (·.1)).map wayD:=by
  rw[List.map_map,List.map_map,List.map_map]
  rfl
 refine⟨?_,?_,λds hp hs=>?_⟩
 ·rw[ek]
  exact qge nd
 ·(first|omega|(simp only[List.length_map];omega))
 ·rw[ek] at hp
  obtain⟨vs,rfl,hv,hso⟩:=qh7 hp hs
  have hvl:vs.length=L.length:=by rw[hv.length_eq,List.length_map]
  refine qi8 (λw=>rowD (w,lkR L w)) vs (Nat.le_trans (show _<=1000 by omega) qaw) (λw mw Y N hY=>?_) ?_
  ·have mw':=hv.mem_iff.mp mw
   dsimp! only[wayD]
   exact⟨by decide,wk w mw',thD (lkR L w),by rw[qbo];exact qmz nd mw',by show 3<=sizeLine;decide,hY⟩
  ·rfl'
   have e:vs.map (λw=>rowD (w,lkR L w))=(vs.map λw=>(w,lkR L w)).map rowD:=by rw[List.map_map];rfl
   rw[e]
   obtain⟨p1,p2⟩:=qek nd hv hso
   have el:qa9 p tr=vs.map λw=>(w,lkR L w):=by
    unfold qa9
    rw[hL]
    exact qj1 p1 p2
   have p3:(qa9 p tr).Perm (qat p tr++putR p):=by rw[el,hL];exact p1
   have p4:qao (qa9 p tr):=by rw[el];exact p2
   rw[←el]
   refine h (qhg P T p3 p4) (λr hr=>?_) (by rw[p3.length_eq,hL];exact ll)
   rcases List.mem_append.mp (p3.mem_iff.mp hr) with q|q
   ·exact tn r (List.mem_filter.mp q).1
   ·unfold putR at q
    obtain⟨o,mo,rfl⟩:=List.mem_map.mp q
    rw[qeq]
    exact pn o (List.mem_filter.mp mo).1
def qrc:TVS:=(vSeq (vIfS (vOrT (qfi (vBl (qj5 .list (vVar 0)))) (vBl (vOp vNeD (vF1 vLen (vVar 0)) (vF1 vLen (vVar 1)))))
  (vRet (vC (.bl false)))
  qbv)
 (vSeq (vFor (qlz (vF1 vLen (vVar 1))) (qbl 2)
  (vSeq (vSet 3 (vOp vIxR (vVar 0) (vVar 2)))
 (vSeq (vIfS (vOrT (qfi (vBl (qj5 .tuple (vVar 3)))) (vOrT (vBl (vOp vNeD (vF1 vLen (vVar 3)) (vC (.int 3)))) (qfi (vBl (qj5 .tuple (vOp vIxR (vVar 3) (vC (.int 0))))))))
  (vRet (vC (.bl false)))
  qbv)
 (vIfS (vOrT (qfi (vBl (qj5 .str (vOp vIxR (vVar 3) (vC (.int 1)))))) (vOrT (qfi (vBl (qj5 .str (vOp vIxR (vVar 3) (vC (.int 2)))))) (vBl (vOp vNeD (vVar 3) (vOp vIxR (vVar 1) (vVar 2))))))
  (vRet (vC (.bl false)))
  qbv))))
 (vRet (vC (.bl true)))))
abbrev q1r:List Str:=["_law_found","_law_due","_law_k","_law_row"]
theorem q4q:∀ds Q,g_same ds Q->qrc (En Q) (qba q1r ds):=by
 rintro ds Q ⟨rs,rfl,hl,h⟩
 simp! only[vSeq,qrc,qab]
 refine⟨by omega,by omega,qjf (λi τ=>∃kv rv,τ=[some (.val (.lst (rs.map rowD))),some (.val (.lst (rs.map rowD))),kv,rv]) ⟨none,none,rfl⟩ ?_ ?_⟩
 ·rintro i τ hi ⟨kv,rv,rfl⟩ nx hnx
  simp! only[vSeq,true_and]
  obtain⟨y,hy,_⟩:=qd3 (xs:=rs) (k:=(i:Int)) (by omega) (by omega)
  have hy2:atI (rs.map rowD) (i:Int)=some (rowD y):=by rw[qdi,hy];rfl
  refine⟨_,hy2,?_⟩
  have e3:decide (((3:Nat):Int)=3)=true:=by decide
  have hy3:atI (rs.map rowD) (i:Int)=some (.tup [.tup (y.1.map D.str),.str y.2.1,.str y.2.2]):=hy2
  simp! only[vSeq,rowD,wayD]
  rw[e3]
  simp! only[vSeq,true_and]
  refine⟨_,hy3,cmpR y y,Nat.le_trans (depR y) (by decide),?_⟩
  simp only[qcl]
  exact hnx _ ⟨_,_,rfl⟩
 ·rintro τ ⟨kv,rv,rfl⟩
  simp! only[vSeq,true_and]
  exact h
def qec:TVS:=(qpa 2 3 (qcr (vVar 0)) (vOp vIxR (vOp vIxR (vVar 3) (vC (.int 0))) (vVar 1)))
abbrev qkf:List Str:=["entries","depth","heaps","entry"]
theorem ql3:∀ds Q,qbs ds Q->qec (En Q) (qba qkf ds):=by
 rintro ds Q ⟨rs,d,rfl,hd,hl,h⟩
 dsimp! only[qec,qab]
 refine⟨rfl,by decide,by decide,by decide,Nat.lt_of_le_of_lt hl (by decide),qef d,λe me=>?_,h⟩
 obtain⟨r,mr,rfl⟩:=List.mem_map.mp me
 have hr:=hd r mr
 refine⟨wayD r.1,rfl,.str (nmAt d r),?_,by rw[qsg]⟩
 show atI (r.1.map D.str) (d:Int)=some (.str (nmAt d r))
 rw[qdi,qq9 (List.getElem?_eq_getElem hr)]
 unfold nmAt
 rw[List.getD_eq_getElem?_getD,List.getElem?_eq_getElem hr]
 rfl
def qgz:TVS:=(vRet (qly 0 1))
abbrev qqx:List Str:=["one","other"]
theorem qug:∀ds Q,qdn ds Q->qgz (En Q) (qba qqx ds):=by
 rintro ds Q ⟨d,one,other,W,rfl,F,h⟩
 have l1:=qr8 d one
 have l2:=qr8 d other
 have hl:=F.len
 dsimp! only[qgz,qog]
 refine⟨by omega,⟨W.map λw=>w.getD d "",by rw[List.length_map];exact F.w,λz mz=>?_⟩,λws iff so=>?_⟩
 ·rcases mz with q|q
  ·obtain⟨r,mr,rfl⟩:=List.mem_map.mp (hpK_mem.mp q)
   exact List.mem_map.mpr ⟨r.1,F.a r mr,rfl⟩
  ·obtain⟨r,mr,rfl⟩:=List.mem_map.mp (hpK_mem.mp q)
   exact List.mem_map.mpr ⟨r.1,F.b r mr,rfl⟩
 rw[qvb (d:=d) (one:=one) (other:=other) (λw=>by rw[iff,hpK_mem,hpK_mem]) so]
 exact h
def qe9:TVS:=(vRet (qnr (vOp vNeD (vVar 0) (vLst vNil)) (vOp vEq (vOp vIxR (vOp vIxR (vVar 0) (vC (.int 0))) (vC (.int 1))) (vC (.str ("folder" : Str))))))
abbrev ql6:List Str:=["heap"]
theorem qny:∀ds Q,qby ds Q->qe9 (En Q) (qba ql6 ds):=by
 rintro ds Q ⟨rs,rfl,h⟩
 dsimp! only[qe9,qab]
 refine⟨qpp rs [],Nat.le_trans (qps rs) (by decide),?_⟩
 have e:=eqRL rs []
 unfold qab at e
 rw[List.map_nil] at e
 rw[e]
 cases rs with
|nil=>exact h
|cons r rs =>
  refine⟨rowD r,rfl,.str r.2.1,rfl,rfl,by show depD (.str r.2.1)<=50;unfold depD;decide,?_⟩
  rw[eq_str]
  exact h
def qgy:TVS:=(vRet (vIfE (vBl (vOp vLt (vF1 vLen (vVar 1)) (vF1 vLen (vVar 0)))) (vVar 1) (vVar 0)))
abbrev qqw:List Str:=["first","second"]
theorem quf:∀ds Q,qc4 ds Q->qgy (En Q) (qba qqw ds):=by
 rintro ds Q ⟨a,b,rfl,h⟩
 dsimp! only[qgy,qab]
 unfold qd9 at h
 by_cases l:b.length<a.length
 ·rw[if_pos l] at h
  rw[decide_eq_true (Int.ofNat_lt.mpr l)]
  exact h
 ·rw[if_neg l] at h
  rw[decide_eq_false λz=>l (Int.ofNat_lt.mp z)]
  exact h
def qfm(m:Nat):TVS:=(vSeq (vSet 3 (qal qbs (qaa (vVar 0) (qaa (vVar 2) vNil))))
 (vSeq (vSet 4 (qal qbs (qaa (vVar 1) (qaa (vVar 2) vNil))))
 (vSeq (qfz 5 (vLst vNil))
 (vSeq (vFor (qcr (qal qdn (qaa (vVar 3) (qaa (vVar 4) vNil)))) (qbl 6)
  (qj4 5 (qal (qbf m) (qaa (qlx (vVar 3) (vVar 6) (vLst vNil)) (qaa (qlx (vVar 4) (vVar 6) (vLst vNil)) vNil)))))
 (qns 5)))))
abbrev qi0:List Str:=["one","other","depth","ones","others","drawn","name"]
theorem qj9(m:Nat):∀ds Q,qa1 m ds Q->qfm m (En Q) (qba qi0 ds):=by
 rintro ds Q ⟨b,one,other,W,rfl,O,P,F,h1,h2,h⟩
 have hl:=F.len
 have so:∀(rs:List Row) (Y:R->Prop),Cl b rs->rs.length<=120->Y (.val (hpD b.length rs))->qbs [qab rs,.int b.length] Y:=λrs Y C l y=>⟨rs,b.length,rfl,λr mr=>(C.un r mr).2,by omega,y⟩
 have ko:∀Y:R->Prop,Y (.own (.lst ((qbw b.length one other).map D.str)))->qdn [hpD b.length one,hpD b.length other] Y:=λY y=>⟨b.length,one,other,W,rfl,F,y⟩
 have kl:(qbw b.length one other).length<=120:=Nat.le_trans (qk5 ..) hl
 refine v_cut (λτ=>τ=[some (.val (qab one)),some (.val (qab other)),some (.val (.int b.length)),some (.val (hpD b.length one)),none,none,none]) ?_ λnx hnx=>?now
 case now =>
  rfl'
  refine so one _ O (by omega) ?_
  rfl'
  exact hnx _ rfl
 rintro τ rfl
 refine v_cut (λτ=>τ=[some (.val (qab one)),some (.val (qab other)),some (.val (.int b.length)),some (.val (hpD b.length one)),some (.val (hpD b.length other)),none,none]) ?_ λnx hnx=>?now
 case now =>
  rfl'
  refine so other _ P (by omega) ?_
  rfl'
  exact hnx _ rfl
 rintro τ rfl
 refine v_cut (λτ=>τ=[some (.val (qab one)),some (.val (qab other)),some (.val (.int b.length)),some (.val (hpD b.length one)),some (.val (hpD b.length other)),some (.own (qab [])),none]) ?_ λnx hnx=>?now
 case now =>
  rfl'
  exact hnx _ rfl
 rintro τ rfl
 refine v_cut (λτ=>∃a,τ=[some (.val (qab one)),some (.val (qab other)),some (.val (.int b.length)),some (.val (hpD b.length one)),some (.val (hpD b.length other)),some (.own (qab (qbg m b.length one other))),a]) ?_ λnx hnx=>?now
 case now =>
  rfl'
  refine ko _ ?_
  rfl'
  refine qdu (λi τ=>∃a acc,acc=((qbw b.length one other).take i).flatMap (λz=>qdb m (grp b.length z one) (grp b.length z other))/\acc.length<=120*i/\τ=[some (.val (qab one)),some (.val (qab other)),some (.val (.int b.length)),some (.val (hpD b.length one)),some (.val (hpD b.length other)),some (.own (qab acc)),a]) ⟨none,[],rfl,Nat.le_refl _,rfl⟩ ?_ ?_
  ·rintro i z τ hz ⟨a,acc,ea,al,rfl⟩ nx2 hnx2
   have hi:=(List.getElem?_eq_some_iff.mp hz).1
   have mz:=List.mem_of_getElem? hz
   have et:(qbw b.length one other).take (i+1)=(qbw b.length one other).take i++[z]:=by rw[List.take_succ,hz];rfl
   have g1:(grp b.length z one).length<=one.length:=List.length_filter_le ..
   have g2:(grp b.length z other).length<=other.length:=List.length_filter_le ..
   have dl:(qdb m (grp b.length z one) (grp b.length z other)).length<=120:=by have:=qku m (grp b.length z one) (grp b.length z other);omega
   have m0:0<m:=by
    rcases keysR_mem.mp mz with q|q
    ·obtain⟨r,mr,_⟩:=List.mem_map.mp q
     have:=(O.un r mr).2
     have:=h1 r mr
     omega
    ·obtain⟨r,mr,_⟩:=List.mem_map.mp q
     have:=(P.un r mr).2
     have:=h2 r mr
     omega
   have lz:(b++[z]).length=b.length+1:=by rw[List.length_append,List.length_singleton]
   have dh:∀Y:R->Prop,Y (.own (qab (qdb m (grp b.length z one) (grp b.length z other))))->Y (.val (qab (qdb m (grp b.length z one) (grp b.length z other))))->qbf m [qab (grp b.length z one),qab (grp b.length z other)] Y:=λY y1 y2=>⟨b++[z],_,_,W,rfl,m0,O.grp z,P.grp z,F.sub (λr mr=>(grp_mem.mp mr).1) (λr mr=>(grp_mem.mp mr).1) g1 g2,λr mr=>by have:=h1 r (grp_mem.mp mr).1;omega,λr mr=>by have:=h2 r (grp_mem.mp mr).1;omega,y1,y2⟩
   have s1000:100000<=sizeLine:=by decide
   have fin:nx2 [some (.val (qab one)),some (.val (qab other)),some (.val (.int b.length)),some (.val (hpD b.length one)),some (.val (hpD b.length other)),some (.own (qab (acc++qdb m (grp b.length z one) (grp b.length z other)))),some (.val (.str z))]:=hnx2 _ ⟨_,_,by rw[et,List.flatMap_append,←ea];simp,by rw[List.length_append];omega,rfl⟩
   unfold qab at fin
   rw[List.map_append] at fin
   rw[qog,qog] at fin
   dsimp! only[qog,qab]
   rcases qyz b.length one z with e1|⟨e1,z1⟩
   ·rcases qyz b.length other z with e2|⟨e2,z2⟩
    ·rw[e1,e2]
     refine dh _ ?_ ?_
     ·dsimp! only[qab]
      exact⟨by omega,fin⟩
     ·dsimp! only[qab]
      exact⟨by omega,fin⟩
    ·rw[e1,e2]
     rw[z2] at dh fin dl
     refine dh _ ?_ ?_
     ·dsimp! only[qab]
      exact⟨by omega,fin⟩
     ·dsimp! only[qab]
      exact⟨by omega,fin⟩
   ·rcases qyz b.length other z with e2|⟨e2,z2⟩
    ·rw[e1,e2]
     rw[z1] at dh fin dl
     refine dh _ ?_ ?_
     ·dsimp! only[qab]
      exact⟨by omega,fin⟩
     ·dsimp! only[qab]
      exact⟨by omega,fin⟩
    ·rw[e1,e2]
     rw[z1,z2] at dh fin dl
     refine dh _ ?_ ?_
     ·dsimp! only[qab]
      exact⟨by omega,fin⟩
     ·dsimp! only[qab]
      exact⟨by omega,fin⟩
  ·rintro τ ⟨a,acc,ea,al,rfl⟩
   rw[List.take_length] at ea
   rw[ea]
   exact hnx _ ⟨a,rfl⟩
 rintro τ ⟨a,rfl⟩
 simp! only[vSeq,true_and]
 exact h
def qgl(m:Nat):TVS:=(vSeq (vIfS (vBl (vOp vEq (vVar 0) (vVar 1)))
  (vRet (vLst vNil))
  qbv)
 (vSeq (vIfS (vBl (vOp vEq (vVar 1) (vLst vNil)))
  (vRet (vLst (qaa (vTup (qaa (vOp vIxR (vOp vIxR (vVar 0) (vC (.int 0))) (vC (.int 0))) (qaa (vC (.str ("gone" : Str))) (qaa (vC (.str ("" : Str))) vNil)))) vNil)))
  qbv)
 (vSeq (vIfS (vOrT (qfi (vBl (qal qby (qaa (vVar 0) vNil)))) (qfi (vBl (qal qby (qaa (vVar 1) vNil)))))
  (vRet (vVar 1))
  qbv)
 (vSeq (vSet 2 (vOp vIxR (vOp vIxR (vVar 1) (vC (.int 0))) (vC (.int 0))))
 (vSeq (vSet 3 (vOp vAdd (vLst (qaa (vOp vIxR (vVar 1) (vC (.int 0))) vNil)) (qal (qa1 m) (qaa (qd5 (vVar 0) (qdk (vC (.int 1))) qcu) (qaa (qd5 (vVar 1) (qdk (vC (.int 1))) qcu) (qaa (vF1 vLen (vVar 2)) vNil))))))
 (vRet (qal qc4 (qaa (vVar 3) (qaa (vOp vAdd (vLst (qaa (vTup (qaa (vVar 2) (qaa (vC (.str ("shut" : Str))) (qaa (vC (.str ("" : Str))) vNil)))) vNil)) (qd5 (vVar 1) (qdk (vC (.int 1))) qcu)) vNil)))))))))
abbrev qkd:List Str:=["one","other","way","kept"]
theorem ql1(m:Nat):∀ds Q,qbf (m+1) ds Q->qgl m (En Q) (qba qkd ds):=by
 rintro ds Q ⟨v,one,other,W,rfl,_,O,P,F,h1,h2,ho,hv⟩
 have hl:=F.len
 unfold qdb at ho hv
 have s1000:100000<=sizeLine:=by decide
 refine qnt (λc=>c=decide (one=other)) (λY y=>?t1) (λe=>?y1) λe=>?_
 case t1 =>
  rfl'
  exact⟨qpp one other,Nat.le_trans (qps one) (by decide),y _ (eqRL one other)⟩
 case y1 =>
  rw[if_pos (of_decide_eq_true e.symm)] at ho
  rfl'
  exact ho
 have ne:one≠other:=of_decide_eq_false e.symm
 rw[if_neg ne] at ho hv
 refine qnt (λc=>c=decide (other=[])) (λY y=>?t2) (λe=>?y2) λe=>?_
 case t2 =>
  rfl'
  exact⟨qpp other [],Nat.le_trans (qps other) (by decide),y _ (eqRL other [])⟩
 case y2 =>
  have eo:=of_decide_eq_true e.symm
  subst eo
  rcases O with rfl|⟨mt,tl,rfl,H⟩
  ·exact absurd rfl ne
  ·dsimp! only[qab,rowD,wayD]
   exact⟨by omega,by omega,ho⟩
 have no:other≠[]:=of_decide_eq_false e.symm
 rcases P with rfl|⟨mt,tl,rfl,H⟩
 ·exact absurd rfl no
 dsimp only at ho hv
 have gf:∀(rs:List Row) (Y:R->Prop),Y (.val (.bl (isF rs)))->qby [qab rs] Y:=λrs Y y=>⟨rs,rfl,y⟩
 refine qnt (λc=>c=!(isF one&&isF ((v,mt)::tl))) (λY y=>?t3) (λe=>?y3) λe=>?_
 case t3 =>
  rfl'
  refine gf _ _ ?_
  rfl'
  cases h1:isF one with
 |false=>exact y _ (by rw[h1];rfl)
 |true =>
   rw[if_neg (by decide)]
   refine gf _ _ ?_
   rfl'
   exact y _ (by rw[h1];rfl)
 case y3 =>
  rw[if_neg λz=>by rw[z] at e;cases e] at hv
  rfl'
  exact hv
 have bf:(isF one&&isF ((v,mt)::tl))=true:=by
  cases hx:(isF one&&isF ((v,mt)::tl)) with
 |true=>rfl
 |false=>rw[hx] at e;cases e
 rw[if_pos bf] at ho hv
 rcases O with rfl|⟨mt1,t1,rfl,H1⟩
 ·cases (Bool.and_eq_true_iff.mp bf).1
 have c1:∀(x:Row) (xs:List Row),cutL ((x::xs).map rowD) (some 1) none=xs.map rowD:=λx xs=>by
  have:=qrg ((x::xs).map rowD) 1
  rw[List.map_cons,List.drop_succ_cons,List.drop_zero] at this
  exact this
 have l1:((v,mt1)::t1).length=t1.length+1:=rfl
 have l2:((v,mt)::tl).length=tl.length+1:=rfl
 have dn:∀Y:R->Prop,Y (.own (qab (qbg m v.length t1 tl)))->qa1 m [qab t1,qab tl,.int v.length] Y:=λY y=>⟨v,t1,tl,W,rfl,H1.cl,H.cl,F.sub (λr mr=>List.mem_cons_of_mem _ mr) (λr mr=>List.mem_cons_of_mem _ mr) (by omega) (by omega),λr mr=>by have:=h1 r (List.mem_cons_of_mem _ mr);omega,λr mr=>by have:=h2 r (List.mem_cons_of_mem _ mr);omega,y⟩
 have ch:∀(a b:List Row) (Y:R->Prop),Y (.val (qab (qd9 a b)))->qc4 [qab a,qab b] Y:=λa b Y y=>⟨a,b,rfl,y⟩
 have nl:=qpr m v.length (one:=t1) (other:=tl) (by omega)
 refine v_cut (λτ=>τ=[some (.val (qab ((v,mt1)::t1))),some (.val (qab ((v,mt)::tl))),some (.val (wayD v)),none]) ?_ λnx hnx=>?now
 case now =>
  dsimp! only[qab,rowD]
  exact hnx _ rfl
 rintro τ rfl
 refine v_cut (λτ=>τ=[some (.val (qab ((v,mt1)::t1))),some (.val (qab ((v,mt)::tl))),some (.val (wayD v)),some (.val (qab ((v,mt)::qbg m v.length t1 tl)))]) ?_ λnx hnx=>?now
 case now =>
  dsimp! only[qab,wayD]
  have e1:=c1 (v,mt1) t1
  have e2:=c1 (v,mt) tl
  rw[List.map_cons] at e1 e2
  rw[e1,e2]
  refine⟨by omega,dn _ ?_⟩
  dsimp! only[qab]
  exact⟨by omega,hnx _ rfl⟩
 rintro τ rfl
 dsimp! only[qab]
 have e2:=c1 (v,mt) tl
 rw[List.map_cons] at e2
 rw[e2]
 refine⟨by omega,by omega,by rw[List.length_map];omega,ch ((v,mt)::qbg m v.length t1 tl) ((v,qas,qav)::tl) _ ?_⟩
 rfl'
 exact hv
def qw2:TVS:=(vSeq (vIfS (vBl (vOp vEq (vVar 0) (vVar 1)))
  (vRet (vLst vNil))
  qbv)
 (qfy (qal (qa1 20) (qaa (vVar 0) (qaa (vVar 1) (qaa (vC (.int 0)) vNil)))) (vOp vAdd (vLst (qaa (vTup (qaa (vTup vNil) (qaa (vC (.str ("shut" : Str))) (qaa (vC (.str ("" : Str))) vNil)))) vNil)) (vVar 1))))
abbrev q1p:List Str:=["one","other"]
theorem q4o:∀ds Q,qfn ds Q->qw2 (En Q) (qba q1p ds):=by
 rintro ds Q ⟨one,other,rfl,O,P,hl,h1,h2,h⟩
 unfold qdj at h
 have s1000:100000<=sizeLine:=by decide
 refine qnt (λc=>c=decide (one=other)) (λY y=>?t1) (λe=>?y1) λe=>?_
 case t1 =>
  rfl'
  exact⟨qpp one other,Nat.le_trans (qps one) (by decide),y _ (eqRL one other)⟩
 case y1 =>
  rw[if_pos (of_decide_eq_true e.symm)] at h
  rfl'
  exact h
 have ne:=of_decide_eq_false e.symm
 rw[if_neg ne] at h
 obtain⟨W,F⟩:=hl.resolve_left ne
 have hl:=F.len
 have dn:∀Y:R->Prop,Y (.own (qab (qbg 20 0 one other)))->qa1 20 [qab one,qab other,.int 0] Y:=λY y=>⟨[],one,other,W,rfl,O,P,F,λr mr=>by have:=h1 r mr;simpa using this,λr mr=>by have:=h2 r mr;simpa using this,y⟩
 rfl'
 refine dn _ ?_
 dsimp! only[qab]
 refine⟨by omega,by omega,by omega,?_⟩
 unfold qd9 at h
 by_cases l:other.length+1<(qbg 20 0 one other).length
 ·rw[if_pos (show (([],qas,qav)::other:List Row).length<(qbg 20 0 one other).length from l)] at h
  rw[if_pos l]
  exact h
 ·rw[if_neg (show ¬ (([],qas,qav)::other:List Row).length<(qbg 20 0 one other).length from l)] at h
  rw[if_neg l]
  exact h
def qg2:TVS:=(vRet (qal qfn (qaa (vVar 1) (qaa (qal qk1 (qaa (vVar 0) (qaa (vVar 1) vNil))) vNil))))
abbrev qq2:List Str:=["pane","tree"]
theorem qul:∀ds Q,qc6 ds Q->qg2 (En Q) (qba qq2 ds):=by
 rintro ds Q ⟨p,t,rfl,P,nm,pl,A,B,hl,hk,h⟩
 have bl:=qi6 p
 dsimp! only[qg2]
 refine⟨p,t,rfl,P,nm,by omega,A.cl.tree,A.nm,by omega,λ_ _ _=>?_⟩
 rfl'
 refine qkp A B (.inr hk) ?_
 rfl'
 exact h
def qra:TVS:=(vSeq (vSet 2 (qal qcm (qaa (vVar 0) (qaa (vVar 1) vNil))))
 (vSeq (vSet 3 (vLst (qaa (vF1 qif (vVar 0)) (qaa (vF1 qif (vVar 1)) vNil))))
 (vSeq (qfz 4 (qal qc6 (qaa (vOp vIxR (vVar 3) (vC (.int 0))) (qaa (vOp vIxR (vVar 3) (vC (.int 1))) vNil))))
 (vSeq (vIfS (vOrT (qfi (vBl (qj5 .list (vVar 4)))) (vBl (vOp vGt (vF1 vLen (vVar 4)) (vF1 vLen (vVar 0)))))
  (vRet (vC (.bl false)))
  qbv)
 (vSeq (vIfS (vOrT (qfi (vBl (qql g_same 4 (qaa (qal qfn (qaa (vF1 qif (vVar 1)) (qaa (vF1 qif (vVar 2)) vNil))) vNil)))) (qfi (vBl (qal g_same (qaa (qql qcm 4 (qaa (vVar 1) vNil)) (qaa (vVar 2) vNil))))))
  (vRet (vC (.bl false)))
  qbv)
 (vSeq (vIfS (qfi (vBl (qpb 4 (qal g_same (qaa (qal qc6 (qaa (vF1 qif (vVar 4)) (qaa (vF1 qif (vVar 1)) vNil))) (qaa (vVar 4) vNil))))))
  (vRet (vC (.bl false)))
  qbv)
 (vSeq (qfh 4 (vTup (qaa (vTup (qaa (vC (.str ("a" : Str))) vNil)) (qaa (vC (.str ("file" : Str))) (qaa (vC (.str ("" : Str))) vNil)))))
 (vSeq (qfh 4 (vTup (qaa (vTup vNil) (qaa (vC (.str ("shut" : Str))) (qaa (vC (.str ("" : Str))) vNil)))))
 (vRet (qnr (vOp vEq (vOp vIxR (vVar 3) (vC (.int 0))) (vVar 0)) (vOp vEq (vOp vIxR (vVar 3) (vC (.int 1))) (vVar 1))))))))))))
abbrev qye:List Str:=["_law_pane","_law_tree","_law_shown","_law_handed","_law_given"]
theorem q1i:∀ds Q,qfc ds Q->qra (En Q) (qba qye ds):=by
 rintro ds Q ⟨p,t,rfl,S,A,tl,h⟩
 have s1000:10000<=sizeLine:=by decide
 have bl:=qi6 p
 have pl:=S.len
 have ld:∀Y:R->Prop,(NmOk (qa9 p t)->(qa9 p t).length<=t.length+bulk p->Y (.own (qab (qa9 p t))))->qcm [qab p,qab t] Y:=λY y=>⟨p,t,rfl,S.ok,S.wy,by omega,A.cl.tree,A.nm,by omega,λ_ b c=>y b c⟩
 have cl:=qsi S.ok S.fs A.cl
 refine v_cut (λτ=>(TreeC (qa9 p t)/\(qa9 p t).length<=44)/\τ=[some (.val (qab p)),some (.val (qab t)),some (.val (qab (qa9 p t))),none,none]) ?_ λnx hnx=>?now
 case now =>
  rfl'
  refine ld _ λnm l=>?_
  dsimp! only[qab]
  exact hnx _ ⟨⟨⟨cl,nm⟩,by omega⟩,rfl⟩
 rintro τ ⟨⟨B,sl⟩,rfl⟩
 have few:=q4x S A B
 obtain⟨W,dn⟩:=A.shows B
 have same_t:∃W,Few t (qa9 p t) W:=⟨_,qu5 S.ok A.cl.tree (by omega) (by omega)⟩
 have trim:∀(q:List Row) (Y:R->Prop),PaneOk q->NmOk q->q.length<=17->qa9 q t=qa9 p t->Y (.own (qab (qdj 20 t (qa9 p t))))->qc6 [qab q,qab t] Y:=λq Y a b c d y=>⟨q,t,rfl,a,b,by omega,A,by rw[d];exact B,by omega,by rw[d];exact same_t,by rw[d];exact y⟩
 have ld2:∀Y:R->Prop,Y (.own (qab (qa9 p t)))->qcm [qab (qdj 20 t (qa9 p t)),qab t] Y:=λY y=>⟨_,t,rfl,W.ok,dn,by omega,A.cl.tree,A.nm,by have:=qi6 (qdj 20 t (qa9 p t));omega,λ_ _ _=>by rw[W.eq];exact y⟩
 have dr:∀Y:R->Prop,Y (.own (qab (qdj 20 t (qa9 p t))))->qfn [qab t,qab (qa9 p t)] Y:=λY y=>qkp A B (.inr same_t) y
 have trim2:=λY=>trim (qdj 20 t (qa9 p t)) Y W.ok dn (by omega) W.eq
 have sm:∀(rs:List Row) (Y:R->Prop),rs.length<=1000->Y (.val (.bl true))->g_same [qab rs,qab rs] Y:=λrs Y l y=>⟨rs,rfl,l,y⟩
 generalize qdj 20 t (qa9 p t)=D0 at few W dn trim ld2 dr trim2
 generalize hS0:qa9 p t=S0 at *
 refine v_cut (λτ=>τ=[some (.val (qab p)),some (.val (qab t)),some (.val (qab S0)),some (.val (.lst [qab p,qab t])),none]) ?_ λnx hnx=>?now
 case now =>
  dsimp! only[qab]
  exact⟨by omega,hnx _ rfl⟩
 rintro τ rfl
 refine v_cut (λτ=>τ=[some (.val (qab p)),some (.val (qab t)),some (.val (qab S0)),some (.val (.lst [qab p,qab t])),some (.own (qab D0))]) ?_ λnx hnx=>?now
 case now =>
  rfl'
  refine trim p _ S.ok S.wy (by omega) hS0 ?_
  rfl'
  exact hnx _ rfl
 rintro τ rfl
 refine qnt (λc=>c=false) (λY y=>?t1) (λe=>by cases e) λ_=>?_
 case t1 =>
  dsimp! only[qab]
  refine y _ ?_
  exact decide_eq_false (by omega)
 refine qnt (λc=>c=false) (λY y=>?t2) (λe=>by cases e) λ_=>?_
 case t2 =>
  dsimp! only[qab]
  refine dr _ ?_
  dsimp! only[qab]
  refine sm D0 _ (by omega) ?_
  dsimp! only[tupO]
  refine ld2 _ ?_
  dsimp! only[qab]
  refine⟨qlu _,sm S0 _ (by omega) ?_⟩
  rfl'
  exact y _ rfl
 refine qnt (λc=>c=false) (λY y=>?t3) (λe=>by cases e) λ_=>?_
 case t3 =>
  dsimp! only[qab]
  refine trim2 _ ?_
  dsimp! only[qab]
  refine sm D0 _ (by omega) ?_
  rfl'
  exact y _ rfl
 refine v_cut (λτ=>∃ds:List D,ds.length<=50/\τ=[some (.val (qab p)),some (.val (qab t)),some (.val (qab S0)),some (.val (.lst [qab p,qab t])),some (.own (.lst ds))]) ?_ λnx hnx=>?now
 case now =>
  dsimp! only[qab]
  refine⟨by omega,by omega,by omega,hnx _ ⟨_,?_,rfl⟩⟩
  rw[List.length_append,List.length_map,List.length_singleton]
  omega
 rintro τ ⟨ds,dl,rfl⟩
 refine v_cut (λτ=>∃a,τ=[some (.val (qab p)),some (.val (qab t)),some (.val (qab S0)),some (.val (.lst [qab p,qab t])),a]) ?_ λnx hnx=>?now
 case now =>
  rfl'
  exact⟨by omega,by omega,hnx _ ⟨_,rfl⟩⟩
 rintro τ ⟨a,rfl⟩
 rfl'
 refine⟨qpp p p,Nat.le_trans (qps p) (by decide),?_⟩
 rw[qcl]
 refine iteT ⟨qpp t t,Nat.le_trans (qps t) (by decide),?_⟩
 rw[qcl]
 exact h
def q1v:TVS:=(vSeq (vSet 1 (vOp vMod (qal qcq (qaa (vVar 0) (qaa (vC (.int 0)) vNil))) (vOp vPow (vC (.int 10)) (vC (.int 18)))))
 (vSeq (vSet 2 (qal qcq (qaa (vVar 0) (qaa (vC (.int 1)) vNil))))
 (vSeq (vSet 3 (qal qdo (qaa (qqm (vVar 0) (qdk (vC (.int 2))) (qdk (vC (.int 47))) (qdk (vC (.int 3)))) (qaa (vVar 1) vNil))))
 (vSeq (vSet 4 (qal qc5 (qaa (vOp vAdd (qqm (vVar 0) (qdk (vC (.int 3))) (qdk (vC (.int 48))) (qdk (vC (.int 3)))) (vOp qt0 (vLst (qaa (vVar 2) vNil)) (qal qar (qaa (vVar 2) (qaa (vC (.int 1)) (qaa (vC (.int 2)) vNil)))))) (qaa (vVar 1) vNil))))
 (vSeq (vSet 5 (qal qc5 (qaa (qqm (vVar 0) (qdk (vC (.int 4))) (qdk (vC (.int 31))) (qdk (vC (.int 3)))) (qaa (vVar 1) vNil))))
 (vRet (qnr (qal qfc (qaa (vVar 4) (qaa (vVar 3) vNil))) (qal qfc (qaa (vVar 4) (qaa (qal qcm (qaa (vVar 5) (qaa (vVar 3) vNil))) vNil))))))))))
abbrev q4s:List Str:=["_law_script","_law_stem","_law_drawn","_law_tree","_law_pane","_law_second"]
theorem q5o:∀ds Q,qml ds Q->q1v (En Q) (qba q4s ds):=by
 rintro ds Q ⟨ns,rfl,h⟩
 have s1000:10000<=sizeLine:=by decide
 refine v_cut (λτ=>∃st:Int,0<=st/\st<10 ^ 19/\τ=[some (.val (.scr ns)),some (.val (.int st)),none,none,none,none]) ?_ λnx hnx=>?now
 case now =>
  dsimp! only[qcq]
  have q1:qut ns 0%10 ^ Int.toNat 18<10 ^ Int.toNat 18:=Int.emod_lt_of_pos _ (by decide)
  exact⟨⟨by decide,by decide,by decide⟩,by decide,hnx _ ⟨_,Int.emod_nonneg _ (show (10 ^ Int.toNat 18:Int)≠0 by decide),Int.lt_of_lt_of_le q1 (by decide),rfl⟩⟩
 rintro τ ⟨st,st0,st1,rfl⟩
 have tb:∀(cs:List Int) (Y:R->Prop),cs.length<=15->(∀p,TreeC p->p.length<=16->Y (.own (qab p)))->qdo [.lst (cs.map D.int),.int st] Y:=λcs Y hc y=>⟨_,st,rfl,by omega,st0,st1,λp c l w=>y p ⟨c,λr m=>⟨by have:=(w r m).1;omega,(w r m).2⟩⟩ (by omega)⟩
 have pb:∀(n:Nat) (cs:List Int) (Y:R->Prop),cs.length<=n->n<=16->(∀p,SPn (n+1) p->Y (.own (qab p)))->qc5 [.lst (cs.map D.int),.int st] Y:=λn cs Y hc hn y=>⟨_,st,rfl,by omega,st0,st1,λp c=>y p ⟨c.ok,c.fs,c.nm,c.ns,Nat.le_trans c.len (by omega)⟩⟩
 refine v_cut (λτ=>∃d:Int,τ=[some (.val (.scr ns)),some (.val (.int st)),some (.val (.int d)),none,none,none]) ?_ λnx hnx=>?now
 case now =>
  dsimp! only[qcq]
  exact hnx _ ⟨_,rfl⟩
 rintro τ ⟨d,rfl⟩
 refine v_cut (λτ=>∃t:List Row,(TreeC t/\t.length<=16)/\τ=[some (.val (.scr ns)),some (.val (.int st)),some (.val (.int d)),some (.val (qab t)),none,none]) ?_ λnx hnx=>?now
 case now =>
  rfl'
  refine⟨by decide,tb _ _ (qtt ns 2 47 15 (by decide) (by decide)) λt A l=>?_⟩
  dsimp! only[qab]
  exact hnx _ ⟨t,⟨A,l⟩,rfl⟩
 rintro τ ⟨t,⟨A,l1⟩,rfl⟩
 refine v_cut (λτ=>∃p:List Row,SPn 17 p/\τ=[some (.val (.scr ns)),some (.val (.int st)),some (.val (.int d)),some (.val (qab t)),some (.val (qab p)),none]) ?_ λnx hnx=>?now
 case now =>
  dsimp! only[qar]
  have sl:=qtt ns 3 48 15 (by decide) (by decide)
  have sl:(qdc ns (some 3) (some 48) (some 3)).length<=15:=sl
  refine⟨by decide,by decide,λi i0 i1 _=>?_⟩
  obtain rfl|rfl:i=0\/i=1:=by omega
  ·have e:List.map D.int (qdc ns (some 3) (some 48) (some 3))++repL [D.int d] (Int.toNat 0)=(qdc ns (some 3) (some 48) (some 3)).map D.int:=List.append_nil _
   rw[e]
   refine⟨by decide,by decide,by decide,by show _+0<=_;omega,pb 16 _ _ (by omega) (by decide) λp S=>?_⟩
   dsimp! only[qab]
   exact hnx _ ⟨p,S,rfl⟩
  ·have e:List.map D.int (qdc ns (some 3) (some 48) (some 3))++repL [D.int d] (Int.toNat 1)=(qdc ns (some 3) (some 48) (some 3)++[d]).map D.int:=by rw[List.map_append];rfl
   rw[e]
   refine⟨by decide,by decide,by decide,by show _+1<=_;omega,pb 16 _ _ (by rw[List.length_append,List.length_singleton];omega) (by decide) λp S=>?_⟩
   dsimp! only[qab]
   exact hnx _ ⟨p,S,rfl⟩
 rintro τ ⟨p,S,rfl⟩
 refine v_cut (λτ=>∃q:List Row,SPn 10 q/\τ=[some (.val (.scr ns)),some (.val (.int st)),some (.val (.int d)),some (.val (qab t)),some (.val (qab p)),some (.val (qab q))]) ?_ λnx hnx=>?now
 case now =>
  rfl'
  refine⟨by decide,pb 9 _ _ (qtt ns 4 31 9 (by decide) (by decide)) (by decide) λq S2=>?_⟩
  dsimp! only[qab]
  exact hnx _ ⟨q,S2,rfl⟩
 rintro τ ⟨q,S2,rfl⟩
 have as_:∀(t:List Row) (Y:R->Prop),TreeC t->t.length<=27->Y (.val (.bl true))->qfc [qab p,qab t] Y:=λt Y A l y=>⟨p,t,rfl,S,A,l,y⟩
 have bl:=qi6 q
 have ql:=S2.len
 rfl'
 refine as_ t _ A (by omega) ?_
 rfl'
 refine⟨q,t,rfl,S2.ok,S2.wy,by omega,A.cl.tree,A.nm,by omega,λ_ nm l=>?_⟩
 rfl'
 refine as_ (qa9 q t) _ ⟨qsi S2.ok S2.fs A.cl,nm⟩ (by omega) ?_
 rfl'
 exact h
theorem q2j{K:PySem.W.Frag}{H:Hp}{a:Addr}(ns:List Int)(_:ns.length<=63)(hS:SqL K H a (ns.map V.int)){E:XK}:spOf K qml [.ref a] H (λv _=>v=.bl true) E:=qwo ⟨ns,rfl,rfl⟩ hS
def top(i:Nat):Stmt:=PySem.Challenge.pw_glasslayers_k24_trimmed.main.body.getD i (.Pass ⟨0,0,0,0⟩)
abbrev qne:Stmt:=top 1
abbrev qgc:Stmt:=top 3
abbrev qgd:Stmt:=top 5
abbrev qng:Stmt:=top 6
abbrev qdy:Stmt:=top 7
abbrev qdf:Stmt:=top 8
abbrev qni:Stmt:=top 10
abbrev qo3:Stmt:=top 11
abbrev qen:Stmt:=top 13
abbrev qhx:Stmt:=top 14
abbrev qfe:Stmt:=top 16
abbrev qfr:Stmt:=top 17
abbrev qdx:Stmt:=top 18
abbrev qem:Stmt:=top 19
abbrev qtn:Stmt:=top 20
abbrev qh0:Stmt:=top 21
abbrev qhw:Stmt:=top 23
abbrev qnh:Stmt:=top 24
abbrev qhy:Stmt:=top 25
abbrev qez:Stmt:=top 26
abbrev qhz:Stmt:=top 27
abbrev qft:Stmt:=top 28
abbrev qeo:Stmt:=top 29
abbrev qfs:Stmt:=top 30
abbrev qgw:Stmt:=top 31
abbrev s_same:Stmt:=top 32
abbrev qnf:Stmt:=top 33
abbrev qjy:Stmt:=top 34
structure Blt(K:PySem.W.Frag)(mg:Str->Option Value):Prop where
 isinstance:mg "isinstance" = none
 len:mg "len" = none
 list:mg "list" = none
 range:mg "range" = none
 set:mg "set" = none
 sorted:mg "sorted" = none
 str:mg "str" = none
 tuple:mg "tuple" = none
section
variable {P:Program} {w:World} {K:PySem.W.Frag} {mg:Str->Option Value} {base:Heap} {f:Addr} {fd:FuncData}
theorem qqb:FnScope ["_law_script","_law_k"] ["_law_script","_law_k"] (qaj qhw):=⟨rfl,rfl,rfl,by decide +kernel,rfl,by decide +kernel,by decide +kernel⟩
theorem qp1(F:Fun K "_law_cell_at" "_law_cell_at" qhw f fd)(B:Blt K mg):FnOk P w K mg base CX0 1 f fd ["_law_script","_law_k"] (spOf K qcq) :=
 F.okV qqb qmr λcdv A outer s H E hr=>⟨qgx,(qad (qb3 (qa6 qt7 (vv 1) (qcy qb2 rfl B.len PyProof.Rows.Boot.«len» (vv 0)))
   (qai (qaz (qa8 qap (vv 0) (vv 1))))
   qay)
  (qai (qaz qae))),que⟩
theorem sc_mixed:FnScope ["_law_cell","_law_turn","_law_many","_law_by","_law_prime"] ["_law_cell","_law_turn","_law_many"] (qaj qnh):=⟨rfl,rfl,rfl,by decide +kernel,rfl,by decide +kernel,by decide +kernel⟩
theorem qvo(F:Fun K "_law_mixed" "_law_mixed" qnh f fd)(B:Blt K mg):FnOk P w K mg base CX0 1 f fd ["_law_cell","_law_turn","_law_many"] (spOf K qar) :=
 F.okV sc_mixed qsp λcdv A outer s H E hr=>⟨qrb,(qad (qau (i:=3) sc_mixed.nd rfl (Or.inl rfl) (qa5 (vac qae (vac qae (vac qae (vac qae (vac qae (vac qae (vac qae (vac qae qaf))))))))))
  (qad (qau (i:=4) sc_mixed.nd rfl (Or.inl rfl) (qa5 (vac qae (vac qae (vac qae (vac qae (vac qae (vac qae (vac qae (vac qae qaf))))))))))
  (qai (qaz (qa2 qc9 (qa2 qc9 (qa2 qt8 (qa2 qbn (qa2 qc9 (vv 0) (qa2 qyb qae qae)) qae) (qa8 qap (vv 3) (qa2 qc9 (vv 1) qae))) (qa8 qap (vv 4) (qa2 qc9 (vv 1) qae))) (vv 2)))))),q1k⟩
theorem sc_name_by:FnScope ["_law_stem","_law_v","_law_signs","_law_size","_law_spot","_law_name","_law_k","_law_turn"] ["_law_stem","_law_v"] (qaj qhy):=⟨rfl,rfl,rfl,by decide +kernel,rfl,by decide +kernel,by decide +kernel⟩
theorem qp4(F:Fun K "_law_name_by" "_law_name_by" qhy f fd)(B:Blt K mg):FnOk P w K mg base CX0 1 f fd ["_law_stem","_law_v"] (spOf K qbj) :=
 F.okV sc_name_by qmu λcdv A outer s H E hr=>⟨qkj,(qad (qau (i:=2) sc_name_by.nd rfl (Or.inl rfl) qak)
  (qad (qau (i:=3) sc_name_by.nd rfl (Or.inl rfl) (qa2 qbn qae (qa2 qc9 (vv 0) qae)))
  (qad (qau (i:=4) sc_name_by.nd rfl (Or.inl rfl) (qa2 qc9 (qa2 qiy (vv 0) qae) (vv 3)))
  (qad (qau (i:=5) sc_name_by.nd rfl (Or.inl rfl) qak)
  (qad (qd8 PassesOwn.never rfl (qh6 rfl B.range (vv 3)) (qbd (i:=6) sc_name_by.nd rfl (Or.inl rfl))
   (qad (qau (i:=7) sc_name_by.nd rfl (Or.inl rfl) (qa2 qbn (qa2 qiy (vv 0) qae) (qa2 qt8 (vv 6) (qa2 qc9 (qa2 qiy (vv 0) qae) qae))))
  (qad (qb3 (qa6 (qd0 hr.units) (vv 6) (vv 4))
   (qai (qau (i:=7) sc_name_by.nd rfl (Or.inl rfl) (qa2 qbn (vv 7) (vv 1))))
   qay)
  (qai (qau (i:=5) sc_name_by.nd rfl (Or.inl rfl) (qa2 qbn (vv 5) (qa8 qap (vv 2) (qa2 qc9 (vv 7) qae))))))))
  (qad (qb3 (vw_t (qet (qa6 (qd0 hr.units) (qa2 qc9 (qa2 qiy (vv 0) qae) qae) qae) (qda (qa6 (qd0 hr.units) (qa2 qc9 (vv 1) qae) qae))))
   (qai (qau (i:=5) sc_name_by.nd rfl (Or.inl rfl) (qcz (vv 5) qd1 (qbp (qa2 qbn qae (qa2 qc9 (vv 1) (vv 3)))))))
   qay)
  (qai (qaz (vv 5))))))))),quh⟩
theorem sc_signs_by:FnScope ["_law_cell","_law_some","_law_size"] ["_law_cell"] (qaj qez):=⟨rfl,rfl,rfl,by decide +kernel,rfl,by decide +kernel,by decide +kernel⟩
theorem qgm:CompScope (qaj qez) ["_law_cell","_law_some","_law_size"] ["_law_cell","_law_some","_law_size","_law_k"] ["_law_k"] ({ kind:=PySem.ScopeKind.function,names:=[ (PySem.Str.ofString ".0",PySem.NameKind.local),(PySem.Str.ofString "_law_k",PySem.NameKind.local),(PySem.Str.ofString "_law_mixed",PySem.NameKind.globalImplicit),(PySem.Str.ofString "len",PySem.NameKind.globalImplicit),(PySem.Str.ofString "_law_cell",PySem.NameKind.free),(PySem.Str.ofString "_law_some",PySem.NameKind.free)],isGenerator:=false,isCoroutine:=false,more:=[]:PySem.Scope }):=⟨rfl,by decide +kernel,by decide +kernel,by decide +kernel,by decide +kernel,rfl,by decide +kernel⟩
theorem qm9(F:Fun K "_law_signs_by" "_law_signs_by" qez f fd)(B:Blt K mg)(Cmixed:Cal P w K mg base 1 "_law_mixed" ["_law_cell","_law_turn","_law_many"] (spOf K qar)):FnOk P w K mg base CX0 2 f fd ["_law_cell"] (spOf K qc2) :=
 F.okV sc_signs_by qla λcdv A outer s H E hr=>⟨qf6,(qad (qau (i:=1) sc_signs_by.nd rfl (Or.inr rfl) qak)
  (qad (qau (i:=1) sc_signs_by.nd rfl (Or.inr rfl) (qa2 qbn (vv 1) qak))
  (qad (qau (i:=2) sc_signs_by.nd rfl (Or.inl rfl) (qam Cmixed (hr.mono (by decide)) rfl (vac (vv 0) (vac qae (vac qae qaf)))))
  (qad (qb3 (qa6 (qd0 hr.units) (vv 2) qae)
   (qai (qau (i:=2) sc_signs_by.nd rfl (Or.inl rfl) qae))
   qay)
  (qai (qaz (q1d qak (vc_e (qgh (M:=["_law_k"]) (qh6 rfl B.range (vv 2)) rfl qgm (λcl C s2 H2 fp pn=>(qbd (i:=3) (qgm).nd rfl (Or.inl rfl))) (λcl C s2 H2 fp pn=>qj8) (λcl C s2 H2 fp pn=>(qa8 qap (vv 1) (qam Cmixed (hr.mono (by decide)) rfl (vac (qa2 qbn (vv 0) (qa2 qt8 (vv 3) (vv 3))) (vac qae (vac (qcy qb2 rfl B.len PyProof.Rows.Boot.«len» (vv 1)) qaf))))))))))))))),qqr⟩
theorem sc_text_by:FnScope ["_law_mark","_law_cell","_law_stem","_law_wide","_law_name","_law_more","_law_some"] ["_law_mark","_law_cell","_law_stem","_law_wide"] (qaj qhz):=⟨rfl,rfl,rfl,by decide +kernel,rfl,by decide +kernel,by decide +kernel⟩
theorem qp6(F:Fun K "_law_text_by" "_law_text_by" qhz f fd)(B:Blt K mg)(Csigns_by:Cal P w K mg base 2 "_law_signs_by" ["_law_cell"] (spOf K qc2))(Cmixed:Cal P w K mg base 1 "_law_mixed" ["_law_cell","_law_turn","_law_many"] (spOf K qar))(Cname_by:Cal P w K mg base 1 "_law_name_by" ["_law_stem","_law_v"] (spOf K qbj)):FnOk P w K mg base CX0 3 f fd ["_law_mark","_law_cell","_law_stem","_law_wide"] (spOf K qb8) :=
 F.okV sc_text_by qmw λcdv A outer s H E hr=>⟨qkk,(qad (qb3 (qa6 (qd0 hr.units) (vv 0) qak)
   (qai (qaz (qa8 qap (qa5 (vac qak (vac qak (vac (qam Csigns_by (hr.mono (by decide)) rfl (vac (vv 1) qaf)) qaf)))) (qam Cmixed (hr.mono (by decide)) rfl (vac (vv 1) (vac qae (vac qae qaf)))))))
   qay)
  (qad (qb3 (qa6 (qd7 hr.units) (vv 0) qak)
   (qai (qaz qak))
   qay)
  (qad (qau (i:=4) sc_text_by.nd rfl (Or.inl rfl) (qam Cname_by (hr.mono (by decide)) rfl (vac (vv 2) (vac (qam Cmixed (hr.mono (by decide)) rfl (vac (vv 1) (vac qae (vac (vv 3) qaf)))) qaf))))
  (qad (qau (i:=5) sc_text_by.nd rfl (Or.inl rfl) (qam Cname_by (hr.mono (by decide)) rfl (vac (vv 2) (vac (qam Cmixed (hr.mono (by decide)) rfl (vac (vv 1) (vac qae (vac (vv 3) qaf)))) qaf))))
  (qad (qau (i:=6) sc_text_by.nd rfl (Or.inl rfl) (qa5 (vac qak (vac (qa2 qbn qak (vv 4)) (vac (vv 4) (vac (qa2 qbn qak (vv 4)) (vac (qa2 qbn (qa2 qbn (qa2 qbn qak (vv 4)) qak) (vv 5)) (vac (qa2 qbn (qa2 qbn qak (vv 4)) qak) (vac qak (vac qak qaf))))))))))
  (qai (qaz (qa8 qap (vv 6) (qam Cmixed (hr.mono (by decide)) rfl (vac (vv 1) (vac qae (vac qae qaf)))))))))))),quj⟩
theorem sc_tree_by:FnScope ["_law_cells","_law_stem","_law_wide","_law_things","_law_folders","_law_cell","_law_over","_law_way","_law_mark"] ["_law_cells","_law_stem"] (qaj qft):=⟨rfl,rfl,rfl,by decide +kernel,rfl,by decide +kernel,by decide +kernel⟩
theorem qg4:CompScope (qaj qft) ["_law_cells","_law_stem","_law_wide","_law_things","_law_folders","_law_cell","_law_over","_law_way","_law_mark"] ["_law_cells","_law_stem","_law_wide","_law_things","_law_folders","_law_cell","_law_over","_law_way'","_law_mark","_law_way"] ["_law_way"] ({ kind:=PySem.ScopeKind.function,names:=[ (PySem.Str.ofString ".0",PySem.NameKind.local),(PySem.Str.ofString "_law_way",PySem.NameKind.local),(PySem.Str.ofString "_law_things",PySem.NameKind.free)],isGenerator:=false,isCoroutine:=false,more:=[]:PySem.Scope }):=⟨rfl,by decide +kernel,by decide +kernel,by decide +kernel,by decide +kernel,rfl,by decide +kernel⟩
theorem qp7(F:Fun K "_law_tree_by" "_law_tree_by" qft f fd)(B:Blt K mg)(Cmixed:Cal P w K mg base 1 "_law_mixed" ["_law_cell","_law_turn","_law_many"] (spOf K qar))(Cname_by:Cal P w K mg base 1 "_law_name_by" ["_law_stem","_law_v"] (spOf K qbj))(Ctext_by:Cal P w K mg base 3 "_law_text_by" ["_law_mark","_law_cell","_law_stem","_law_wide"] (spOf K qb8)):FnOk P w K mg base CX0 4 f fd ["_law_cells","_law_stem"] (spOf K qdo) :=
 F.okV sc_tree_by qmx λcdv A outer s H E hr=>⟨qg1,(qad (qau (i:=2) sc_tree_by.nd rfl (Or.inl rfl) (qa2 qbn qae (qa2 qc9 (qa2 qiy (vv 1) qae) qae)))
  (qad (qdl (i:=3) sc_tree_by.nd rfl (Or.inr rfl) qe1)
  (qad (qdl (i:=4) sc_tree_by.nd rfl (Or.inl rfl) (qc8 (vac (qa5 qaf) qaf)))
  (qad (qd8 PassesOwn.never rfl (qdg (vv 0)) (qbd (i:=5) sc_tree_by.nd rfl (Or.inl rfl))
   (qad (qau (i:=6) sc_tree_by.nd rfl (Or.inl rfl) (qa8 qap (vv 4) (qam Cmixed (hr.mono (by decide)) rfl (vac (vv 5) (vac qae (vac (qcy qb2 rfl B.len PyProof.Rows.Boot.«len» (vv 4)) qaf))))))
  (qad (qb3 (qa6 (qd0 hr.units) (qam Cmixed (hr.mono (by decide)) rfl (vac (vv 5) (vac qae (vac qae qaf)))) qae)
   (qai (qau (i:=6) sc_tree_by.nd rfl (Or.inl rfl) (qa8 qap (vv 4) (qt4 qae))))
   qay)
  (qad (qau (i:=7) sc_tree_by.nd rfl (Or.inl rfl) (qa2 qbn (vv 6) (qa5 (vac (qam Cname_by (hr.mono (by decide)) rfl (vac (vv 1) (vac (qam Cmixed (hr.mono (by decide)) rfl (vac (vv 5) (vac qae (vac (vv 2) qaf)))) qaf))) qaf))))
  (qai (qb3 (vw_t (qet (qf2 hr.dict (vv 7) (vv 3)) (qda (qa6 qt7 (qcy qb2 rfl B.len PyProof.Rows.Boot.«len» (vv 7)) qae))))
   (qad (qau (i:=8) sc_tree_by.nd rfl (Or.inl rfl) (qa8 qap (qa5 (vac qak (vac qak (vac qak (vac qak qaf))))) (qam Cmixed (hr.mono (by decide)) rfl (vac (vv 5) (vac qae (vac qae qaf))))))
  (qad (qd2 3 hr.dict (vv 7) (qa5 (vac (vv 8) (vac (qam Ctext_by (hr.mono (by decide)) rfl (vac (vv 8) (vac (vv 5) (vac (vv 1) (vac (vv 2) qaf))))) qaf))))
  (qai (qb3 (qa6 (qd0 hr.units) (vv 8) qak)
   (qai (qf1 4 (vv 7)))
   qay))))
   qay))))))
  (qai (qaz (vc_e (qgh (M:=["_law_way"]) (qdg (qcy (qf0 hr.units) rfl B.sorted PyProof.Rows.Boot.«sorted» (qj6 (qj7 hr.hd) rfl B.list PyProof.Rows.Boot.«list» (vv 3)))) rfl qg4 (λcl C s2 H2 fp pn=>(qbd (i:=9) (qg4).nd rfl (Or.inl rfl))) (λcl C s2 H2 fp pn=>qj8) (λcl C s2 H2 fp pn=>(qa2 qbn (qa5 (vac (vv 9) qaf)) (qh5 hr.dict (vv 3) (vv 9)))))))))))),quk⟩
theorem sc_under_shut:FnScope ["_law_things","_law_way","_law_k"] ["_law_things","_law_way"] (qaj qeo):=⟨rfl,rfl,rfl,by decide +kernel,rfl,by decide +kernel,by decide +kernel⟩
theorem qjp(F:Fun K "_law_under_shut" "_law_under_shut" qeo f fd)(B:Blt K mg):FnOk P w K mg base CX0 1 f fd ["_law_things","_law_way"] (spOf K qb0) :=
 F.okV sc_under_shut qic λcdv A outer s H E hr=>⟨qed,(qad (qd8 PassesOwn.never rfl (qh6 rfl B.range (qcy qb2 rfl B.len PyProof.Rows.Boot.«len» (vv 1))) (qbd (i:=2) sc_under_shut.nd rfl (Or.inl rfl))
   (qai (qb3 (vw_t (qet (qub hr.dict (qcz (vv 1) qd1 (qbp (vv 2))) (vv 0)) (qda (qa6 (qd0 hr.units) (qa8 qap (qh5 hr.dict (vv 0) (qcz (vv 1) qd1 (qbp (vv 2)))) qae) qak))))
   (qai (qaz qh4))
   qay)))
  (qai (qaz qh4))),ql4⟩
theorem sc_pane_by:FnScope ["_law_cells","_law_stem","_law_wide","_law_things","_law_folders","_law_cell","_law_over","_law_way","_law_mark"] ["_law_cells","_law_stem"] (qaj qfs):=⟨rfl,rfl,rfl,by decide +kernel,rfl,by decide +kernel,by decide +kernel⟩
theorem qg3:CompScope (qaj qfs) ["_law_cells","_law_stem","_law_wide","_law_things","_law_folders","_law_cell","_law_over","_law_way","_law_mark"] ["_law_cells","_law_stem","_law_wide","_law_things","_law_folders","_law_cell","_law_over","_law_way'","_law_mark","_law_way"] ["_law_way"] ({ kind:=PySem.ScopeKind.function,names:=[ (PySem.Str.ofString ".0",PySem.NameKind.local),(PySem.Str.ofString "_law_way",PySem.NameKind.local),(PySem.Str.ofString "_law_things",PySem.NameKind.free)],isGenerator:=false,isCoroutine:=false,more:=[]:PySem.Scope }):=⟨rfl,by decide +kernel,by decide +kernel,by decide +kernel,by decide +kernel,rfl,by decide +kernel⟩
theorem qp5(F:Fun K "_law_pane_by" "_law_pane_by" qfs f fd)(B:Blt K mg)(Cmixed:Cal P w K mg base 1 "_law_mixed" ["_law_cell","_law_turn","_law_many"] (spOf K qar))(Cname_by:Cal P w K mg base 1 "_law_name_by" ["_law_stem","_law_v"] (spOf K qbj))(Cunder_shut:Cal P w K mg base 1 "_law_under_shut" ["_law_things","_law_way"] (spOf K qb0))(Ctext_by:Cal P w K mg base 3 "_law_text_by" ["_law_mark","_law_cell","_law_stem","_law_wide"] (spOf K qb8)):FnOk P w K mg base CX0 4 f fd ["_law_cells","_law_stem"] (spOf K qc5) :=
 F.okV sc_pane_by qmv λcdv A outer s H E hr=>⟨qg0,(qad (qau (i:=2) sc_pane_by.nd rfl (Or.inl rfl) (qa2 qbn qae (qa2 qc9 (qa2 qiy (vv 1) qae) qae)))
  (qad (qdl (i:=3) sc_pane_by.nd rfl (Or.inr rfl) qe1)
  (qad (qdl (i:=4) sc_pane_by.nd rfl (Or.inl rfl) (qc8 (vac (qa5 qaf) qaf)))
  (qad (qb3 (vw_t (qet (qa6 q4m (qcy qb2 rfl B.len PyProof.Rows.Boot.«len» (vv 0)) qae) (qda (qa6 (qd0 hr.units) (qam Cmixed (hr.mono (by decide)) rfl (vac (qa8 qap (vv 0) qae) (vac qae (vac qae qaf)))) qae))))
   (qai (qd2 3 hr.dict (qa5 qaf) (qa5 (vac qak (vac qak qaf)))))
   qay)
  (qad (qd8 PassesOwn.never rfl (qdg (vv 0)) (qbd (i:=5) sc_pane_by.nd rfl (Or.inl rfl))
   (qad (qau (i:=6) sc_pane_by.nd rfl (Or.inl rfl) (qa8 qap (vv 4) (qam Cmixed (hr.mono (by decide)) rfl (vac (vv 5) (vac qae (vac (qcy qb2 rfl B.len PyProof.Rows.Boot.«len» (vv 4)) qaf))))))
  (qad (qb3 (qa6 (qd0 hr.units) (qam Cmixed (hr.mono (by decide)) rfl (vac (vv 5) (vac qae (vac qae qaf)))) qae)
   (qai (qau (i:=6) sc_pane_by.nd rfl (Or.inl rfl) (qa8 qap (vv 4) (qt4 qae))))
   qay)
  (qad (qau (i:=7) sc_pane_by.nd rfl (Or.inl rfl) (qa2 qbn (vv 6) (qa5 (vac (qam Cname_by (hr.mono (by decide)) rfl (vac (vv 1) (vac (qam Cmixed (hr.mono (by decide)) rfl (vac (vv 5) (vac qae (vac (vv 2) qaf)))) qaf))) qaf))))
  (qai (qb3 (vw_t (qet (qf2 hr.dict (vv 7) (vv 3)) (qda (qa6 qt7 (qcy qb2 rfl B.len PyProof.Rows.Boot.«len» (vv 7)) qae))))
   (qad (qau (i:=8) sc_pane_by.nd rfl (Or.inl rfl) (qa8 qap (qa5 (vac qak (vac qak (vac qak (vac qak (vac qak (vac qak (vac qak qaf)))))))) (qam Cmixed (hr.mono (by decide)) rfl (vac (vv 5) (vac qae (vac qae qaf))))))
  (qad (qb3 (vw_t (qet (qdh (q1c (i:=3) Cunder_shut (hr.mono (by decide)) rfl (vac (vv 7) qaf))) (qda (qa6 q4n (vv 8) (qa5 (vac qak (vac qak qaf)))))))
   (qai (qau (i:=8) sc_pane_by.nd rfl (Or.inl rfl) qak))
   qay)
  (qad (qd2 3 hr.dict (vv 7) (qa5 (vac (vv 8) (vac (qam Ctext_by (hr.mono (by decide)) rfl (vac (vv 8) (vac (vv 5) (vac (vv 1) (vac (vv 2) qaf))))) qaf))))
  (qai (qb3 (qa6 q4n (vv 8) (qa5 (vac qak (vac qak qaf))))
   (qai (qf1 4 (vv 7)))
   qay)))))
   qay))))))
  (qai (qaz (vc_e (qgh (M:=["_law_way"]) (qdg (qcy (qf0 hr.units) rfl B.sorted PyProof.Rows.Boot.«sorted» (qj6 (qj7 hr.hd) rfl B.list PyProof.Rows.Boot.«list» (vv 3)))) rfl qg3 (λcl C s2 H2 fp pn=>(qbd (i:=9) (qg3).nd rfl (Or.inl rfl))) (λcl C s2 H2 fp pn=>qj8) (λcl C s2 H2 fp pn=>(qa2 qbn (qa5 (vac (vv 9) qaf)) (qh5 hr.dict (vv 3) (vv 9))))))))))))),qui⟩
theorem sc_l_laid:FnScope ["_law_pane","_law_tree","_law_marks","_law_row","_law_shown","_law_kept","_law_k"] ["_law_pane","_law_tree"] (qaj qgw):=⟨rfl,rfl,rfl,by decide +kernel,rfl,by decide +kernel,by decide +kernel⟩
theorem qij:CompScope (qaj qgw) ["_law_pane","_law_tree","_law_marks","_law_row","_law_shown","_law_kept","_law_k"] ["_law_pane","_law_tree","_law_marks","_law_row","_law_shown","_law_kept","_law_k","_law_way"] ["_law_way"] ({ kind:=PySem.ScopeKind.function,names:=[ (PySem.Str.ofString ".0",PySem.NameKind.local),(PySem.Str.ofString "_law_way",PySem.NameKind.local),(PySem.Str.ofString "_law_shown",PySem.NameKind.free)],isGenerator:=false,isCoroutine:=false,more:=[]:PySem.Scope }):=⟨rfl,by decide +kernel,by decide +kernel,by decide +kernel,by decide +kernel,rfl,by decide +kernel⟩
theorem qs4(F:Fun K "_law_laid" "_law_laid" qgw f fd)(B:Blt K mg):FnOk P w K mg base CX0 1 f fd ["_law_pane","_law_tree"] (spOf K qcm) :=
 F.okV sc_l_laid qpy λcdv A outer s H E hr=>⟨qn2,(qad (qdl (i:=2) sc_l_laid.nd rfl (Or.inl rfl) qe1)
  (qad (qd8 PassesOwn.never rfl (qdg (vv 0)) (qbd (i:=3) sc_l_laid.nd rfl (Or.inl rfl))
   (qai (qd2 2 hr.dict (qa8 qap (vv 3) qae) (qa8 qap (vv 3) qae))))
  (qad (qdl (i:=4) sc_l_laid.nd rfl (Or.inr rfl) qe1)
  (qad (qd8 PassesOwn.never rfl (qdg (vv 1)) (qbd (i:=3) sc_l_laid.nd rfl (Or.inl rfl))
   (qad (qau (i:=5) sc_l_laid.nd rfl (Or.inl rfl) (qt3 hr.dict (qa8 qap (vv 3) qae) (vv 2)))
  (qad (qd8 PassesOwn.never rfl (qh6 rfl B.range (qcy qb2 rfl B.len PyProof.Rows.Boot.«len» (qa8 qap (vv 3) qae))) (qbd (i:=6) sc_l_laid.nd rfl (Or.inl rfl))
   (qai (qb3 (vw_t (qet (qub hr.dict (qcz (qa8 qap (vv 3) qae) qd1 (qbp (vv 6))) (vv 2)) (qda (qa6 (qd7 hr.units) (qh5 hr.dict (vv 2) (qcz (qa8 qap (vv 3) qae) qd1 (qbp (vv 6)))) qak))))
   (qai (qau (i:=5) sc_l_laid.nd rfl (Or.inl rfl) qh4))
   qay)))
  (qai (qb3 (qdh (vv 5))
   (qai (qd2 4 hr.dict (qa8 qap (vv 3) qae) (qa5 (vac (qa8 qap (vv 3) qae) (vac (qa8 qap (vv 3) qae) qaf)))))
   qay)))))
  (qad (qd8 PassesOwn.never rfl (qdg (vv 0)) (qbd (i:=3) sc_l_laid.nd rfl (Or.inl rfl))
   (qai (qb3 (vw_t (qig (qa6 (qd0 hr.units) (qa8 qap (vv 3) qae) qak) (qgo (qa6 (qd0 hr.units) (qa8 qap (vv 3) qae) qak))))
   (qai (qd2 4 hr.dict (qa8 qap (vv 3) qae) (qa5 (vac (qa8 qap (vv 3) qae) (vac (qa8 qap (vv 3) qae) qaf)))))
   (qai (qb3 (vw_t (qet (qa6 (qd7 hr.units) (qa8 qap (vv 3) qae) qak) (qda (qa6 (qd7 hr.units) (qa8 qap (vv 3) qae) (qa5 qaf)))))
   (qai (qd2 4 hr.dict (qa8 qap (vv 3) qae) (qa5 (vac qak (vac qak qaf)))))
   qay)))))
  (qai (qaz (vc_e (qgh (M:=["_law_way"]) (qdg (qcy (qf0 hr.units) rfl B.sorted PyProof.Rows.Boot.«sorted» (qj6 (qj7 hr.hd) rfl B.list PyProof.Rows.Boot.«list» (vv 4)))) rfl qij (λcl C s2 H2 fp pn=>(qbd (i:=7) (qij).nd rfl (Or.inl rfl))) (λcl C s2 H2 fp pn=>qj8) (λcl C s2 H2 fp pn=>(qa2 qbn (qa5 (vac (vv 7) qaf)) (qh5 hr.dict (vv 4) (vv 7))))))))))))),qw0⟩
theorem qiu:FnScope ["first","second"] ["first","second"] (qaj qfr):=⟨rfl,rfl,rfl,by decide +kernel,rfl,by decide +kernel,by decide +kernel⟩
theorem qna(F:Fun K "cheaper" "cheaper" qfr f fd)(B:Blt K mg):FnOk P w K mg base CX0 1 f fd ["first","second"] (qh1 K) :=
 F.okQ qiu qnm λcdv A outer s H vs Q E hr h=>qpn (EX:=EX0) (qa6 qt7 (qcy qb2 rfl B.len PyProof.Rows.Boot.«len» (vv 1)) (qcy qb2 rfl B.len PyProof.Rows.Boot.«len» (vv 0))) rfl rfl rfl qmn h
theorem qp2(F:Fun K "cheaper" "cheaper" qfr f fd)(B:Blt K mg):FnOk P w K mg base CX0 1 f fd ["first","second"] (spOf K qc4) :=
 F.okV qiu qms λcdv A outer s H E hr=>⟨qgy,(qai (qaz (qpf (qa6 qt7 (qcy qb2 rfl B.len PyProof.Rows.Boot.«len» (vv 1)) (qcy qb2 rfl B.len PyProof.Rows.Boot.«len» (vv 0))) (vv 1) (vv 0)))),quf⟩
theorem sc_sorted_out:FnScope ["entries","depth","heaps","entry"] ["entries","depth"] (qaj qen):=⟨rfl,rfl,rfl,by decide +kernel,rfl,by decide +kernel,by decide +kernel⟩
theorem qjo(F:Fun K "sorted_out" "sorted_out" qen f fd)(B:Blt K mg):FnOk P w K mg base CX0 1 f fd ["entries","depth"] (spOf K qbs) :=
 F.okV sc_sorted_out qib λcdv A outer s H E hr=>⟨qec,(qua (k:=2) (l:=3) PassesOwn.never rfl sc_sorted_out.nd rfl rfl (Or.inl rfl) (Or.inl rfl) (qdg (vv 0)) (qa8 qap (qa8 qap (vv 3) qae) (vv 1))),ql3⟩
theorem qqc:FnScope ["one","other"] ["one","other"] (qaj qhx):=⟨rfl,rfl,rfl,by decide +kernel,rfl,by decide +kernel,by decide +kernel⟩
theorem qp3(F:Fun K "keys_of" "keys_of" qhx f fd)(B:Blt K mg):FnOk P w K mg base CX0 1 f fd ["one","other"] (spOf K qdn) :=
 F.okV qqc qmt λcdv A outer s H E hr=>⟨qgz,(qai (qaz (qwx (i:=0) (j:=1) hr.units hr.hd rfl B.sorted rfl B.set))),qug⟩
theorem qlo:FnScope ["heap"] ["heap"] (qaj qfe):=⟨rfl,rfl,rfl,by decide +kernel,rfl,by decide +kernel,by decide +kernel⟩
theorem qlf(F:Fun K "is_folder" "is_folder" qfe f fd)(B:Blt K mg):FnOk P w K mg base CX0 1 f fd ["heap"] (spOf K qby) :=
 F.okV qlo qji λcdv A outer s H E hr=>⟨qe9,(qai (qaz (qpd (qix (qd7 hr.units) (vv 0) (qc8 qaf)) (qpg (qix (qd0 hr.units) (qa8 qap (qa8 qap (vv 0) qae) qae) qak))))),qny⟩
theorem sc_drawn_heap:FnScope ["one","other","way","kept"] ["one","other"] (qaj qem):=⟨rfl,rfl,rfl,by decide +kernel,rfl,by decide +kernel,by decide +kernel⟩
theorem qjm(m:Nat)(F:Fun K "drawn_heap" "drawn_heap" qem f fd)(B:Blt K mg)(Cis_folder:Cal P w K mg base 1 "is_folder" ["heap"] (spOf K qby))(Cdrawn_names:Cal P w K mg base (2+2*m+1) "drawn_names" ["one","other","depth"] (spOf K (qa1 m)))(Ccheaper:Cal P w K mg base 1 "cheaper" ["first","second"] (spOf K qc4)):FnOk P w K mg base CX0 (2+2*m+2) f fd ["one","other"] (spOf K (qbf (m+1))) :=
 F.okV sc_drawn_heap (qh9 (m+1)) λcdv A outer s H E hr=>⟨qgl m,(qad (qb3 (qa6 (qd0 hr.units) (vv 0) (vv 1))
   (qai (qaz (qc8 qaf)))
   qay)
  (qad (qb3 (qa6 (qd0 hr.units) (vv 1) (qc8 qaf))
   (qai (qaz (qc8 (vac (qa5 (vac (qa8 qap (qa8 qap (vv 0) qae) qae) (vac qak (vac qak qaf)))) qaf))))
   qay)
  (qad (qb3 (vw_t (qig (qes (qdh (qam Cis_folder (hr.mono (by lia)) rfl (vac (vv 0) qaf)))) (qgo (qes (qdh (qam Cis_folder (hr.mono (by lia)) rfl (vac (vv 1) qaf)))))))
   (qai (qaz (vv 1)))
   qay)
  (qad (qau (i:=2) sc_drawn_heap.nd rfl (Or.inl rfl) (qa8 qap (qa8 qap (vv 1) qae) qae))
  (qad (qau (i:=3) sc_drawn_heap.nd rfl (Or.inl rfl) (qa2 qbn (qc8 (vac (qa8 qap (vv 1) qae) qaf)) (qam Cdrawn_names (hr.mono (by lia)) rfl (vac (qcz (vv 0) (qbp qae) qd1) (vac (qcz (vv 1) (qbp qae) qd1) (vac (qcy qb2 rfl B.len PyProof.Rows.Boot.«len» (vv 2)) qaf))))))
  (qai (qaz (qam Ccheaper (hr.mono (by lia)) rfl (vac (vv 3) (vac (qa2 qbn (qc8 (vac (qa5 (vac (vv 2) (vac qak (vac qak qaf)))) qaf)) (qcz (vv 1) (qbp qae) qd1)) qaf)))))))))),ql1 m⟩
theorem sc_drawn_names:FnScope ["one","other","depth","ones","others","drawn","name"] ["one","other","depth"] (qaj qdx):=⟨rfl,rfl,rfl,by decide +kernel,rfl,by decide +kernel,by decide +kernel⟩
theorem qe7(m:Nat)(F:Fun K "drawn_names" "drawn_names" qdx f fd)(B:Blt K mg)(Csorted_out:Cal P w K mg base 1 "sorted_out" ["entries","depth"] (spOf K qbs))(Ckeys_of:Cal P w K mg base 1 "keys_of" ["one","other"] (spOf K qdn))(Cdrawn_heap:Cal P w K mg base (2+2*m) "drawn_heap" ["one","other"] (spOf K (qbf m))):FnOk P w K mg base CX0 (2+2*m+1) f fd ["one","other","depth"] (spOf K (qa1 m)) :=
 F.okV sc_drawn_names (qhi m) λcdv A outer s H E hr=>⟨qfm m,(qad (qau (i:=3) sc_drawn_names.nd rfl (Or.inl rfl) (qam Csorted_out (hr.mono (by lia)) rfl (vac (vv 0) (vac (vv 2) qaf))))
  (qad (qau (i:=4) sc_drawn_names.nd rfl (Or.inl rfl) (qam Csorted_out (hr.mono (by lia)) rfl (vac (vv 1) (vac (vv 2) qaf))))
  (qad (qdl (i:=5) sc_drawn_names.nd rfl (Or.inl rfl) (qc8 qaf))
  (qad (qd8 PassesOwn.never rfl (qdg (qam Ckeys_of (hr.mono (by lia)) rfl (vac (vv 3) (vac (vv 4) qaf)))) (qbd (i:=6) sc_drawn_names.nd rfl (Or.inl rfl))
   (qai (qt9 5 (qam Cdrawn_heap (hr.mono (by lia)) rfl (vac (qpe hr.dict (vv 3) (vv 6) (qc8 qaf)) (vac (qpe hr.dict (vv 4) (vv 6) (qc8 qaf)) qaf))))))
  (qai (qnx 5)))))),qj9 m⟩
theorem q02:FnScope ["one","other"] ["one","other"] (qaj qtn):=⟨rfl,rfl,rfl,by decide +kernel,rfl,by decide +kernel,by decide +kernel⟩
theorem qzf(F:Fun K "draw" "draw" qtn f fd)(B:Blt K mg)(Ccheaper:Cal P w K mg base 1 "cheaper" ["first","second"] (spOf K qc4))(Cdrawn_names:Cal P w K mg base 43 "drawn_names" ["one","other","depth"] (spOf K (qa1 20)))(Dcheaper:Cal P w K mg base 1 "cheaper" ["first","second"] (qh1 K)):FnOk P w K mg base CX0 44 f fd ["one","other"] (spOf K qfn) :=
 F.okV q02 qvf λcdv A outer s H E hr=>⟨qw2,(qad (qb3 (qa6 (qd0 hr.units) (vv 0) (vv 1))
   (qai (qaz (qc8 qaf)))
   qay)
  (qai (qnw Dcheaper (hr.mono (by decide)) rfl (qam Cdrawn_names (hr.mono (by decide)) rfl (vac (vv 0) (vac (vv 1) (vac qae qaf)))) (qa2 qbn (qc8 (vac (qa5 (vac (qa5 qaf) (vac qak (vac qak qaf)))) qaf)) (vv 1))))),q4o⟩
theorem qwi:FnScope ["way","mark","text"] ["way","mark","text"] (qaj qni):=⟨rfl,rfl,rfl,by decide +kernel,rfl,by decide +kernel,by decide +kernel⟩
theorem qvp(F:Fun K "shown" "shown" qni f fd)(B:Blt K mg):FnOk P w K mg base CX0 1 f fd ["way","mark","text"] (spOf K qf8) :=
 F.okV qwi qsq λcdv A outer s H E hr=>⟨qmc,(qai (qaz (qpf (qa6 (qd0 hr.units) (vv 1) qak) (qa5 (vac (vv 0) (vac qak (vac qak qaf)))) (qa5 (vac (vv 0) (vac (vv 1) (vac (vv 2) qaf))))))),q1l⟩
theorem qnj:FnScope ["entries"] ["entries"] (qaj qgc):=⟨rfl,rfl,rfl,by decide +kernel,rfl,by decide +kernel,by decide +kernel⟩
theorem qm7(F:Fun K "in_order" "in_order" qgc f fd)(B:Blt K mg):FnOk P w K mg base CX0 1 f fd ["entries"] (spOf K qc1) :=
 F.okV qnj qk8 λcdv A outer s H E hr=>⟨qf4,(qai (qaz (qcy (qf0 hr.units) rfl B.sorted PyProof.Rows.Boot.«sorted» (vv 0)))),qqp⟩
theorem sc_marks_of:FnScope ["pane","marks","way","mark","text"] ["pane"] (qaj qgd):=⟨rfl,rfl,rfl,by decide +kernel,rfl,by decide +kernel,by decide +kernel⟩
theorem qm8(F:Fun K "marks_of" "marks_of" qgd f fd)(B:Blt K mg):FnOk P w K mg base CX0 1 f fd ["pane"] (spOf K qce) :=
 F.okV sc_marks_of qk9 λcdv A outer s H E hr=>⟨qf5,(qad (qdl (i:=1) sc_marks_of.nd rfl (Or.inl rfl) qe1)
  (qad (qd8 PassesOwn.never rfl (qdg (vv 0)) (qt6 rfl (qc0 (qbd (i:=2) sc_marks_of.nd rfl (Or.inl rfl)) (qc0 (qbd (i:=3) sc_marks_of.nd rfl (Or.inl rfl)) (qc0 (qbd (i:=4) sc_marks_of.nd rfl (Or.inl rfl)) qnv))))
   (qai (qd2 1 hr.dict (vv 2) (vv 3))))
  (qai (qnx 1)))),qqq⟩
theorem qwg:FnScope ["way"] ["way"] (qaj qne):=⟨rfl,rfl,rfl,by decide +kernel,rfl,by decide +kernel,by decide +kernel⟩
theorem qvl(F:Fun K "above" "above" qne f fd)(B:Blt K mg):FnOk P w K mg base CX0 1 f fd ["way"] (spOf K qfb) :=
 F.okV qwg qsm λcdv A outer s H E hr=>⟨qmb,(qai (qaz (qcz (vv 0) qd1 (qbp (qt4 qae))))),q1h⟩
theorem qwh:FnScope ["mark"] ["mark"] (qaj qng):=⟨rfl,rfl,rfl,by decide +kernel,rfl,by decide +kernel,by decide +kernel⟩
theorem qvn(F:Fun K "hides" "hides" qng f fd)(B:Blt K mg):FnOk P w K mg base CX0 1 f fd ["mark"] (spOf K qf7) :=
 F.okV qwh qso λcdv A outer s H E hr=>⟨qi4,(qai (qaz (qpd (qix qwz (vv 0) q4l) (qpg (qix (qd7 hr.units) (vv 0) qak))))),q1j⟩
theorem sc_hidden_ways:FnScope ["pane","entries","marks","hidden","way","mark","text"] ["pane","entries"] (qaj qdy):=⟨rfl,rfl,rfl,by decide +kernel,rfl,by decide +kernel,by decide +kernel⟩
theorem qid(F:Fun K "hidden_ways" "hidden_ways" qdy f fd)(B:Blt K mg)(Cmarks_of:Cal P w K mg base 1 "marks_of" ["pane"] (spOf K qce))(Cabove:Cal P w K mg base 1 "above" ["way"] (spOf K qfb))(Chides:Cal P w K mg base 1 "hides" ["mark"] (spOf K qf7)):FnOk P w K mg base CX0 2 f fd ["pane","entries"] (spOf K qb7) :=
 F.okV sc_hidden_ways qhj λcdv A outer s H E hr=>⟨qdt,(qad (qau (i:=2) sc_hidden_ways.nd rfl (Or.inl rfl) (qam Cmarks_of (hr.mono (by decide)) rfl (vac (vv 0) qaf)))
  (qad (qdl (i:=3) sc_hidden_ways.nd rfl (Or.inl rfl) qe1)
  (qad (qd8 PassesOwn.never rfl (qdg (vv 1)) (qt6 rfl (qc0 (qbd (i:=4) sc_hidden_ways.nd rfl (Or.inl rfl)) (qc0 (qbd (i:=5) sc_hidden_ways.nd rfl (Or.inl rfl)) (qc0 (qbd (i:=6) sc_hidden_ways.nd rfl (Or.inl rfl)) qnv))))
   (qai (qb3 (vw_t (qet (qa6 (qd7 hr.units) (vv 4) (qa5 qaf)) (qda (vw_t (qig (qub hr.dict (qam Cabove (hr.mono (by decide)) rfl (vac (vv 4) qaf)) (vv 3)) (qgo (qdh (qam Chides (hr.mono (by decide)) rfl (vac (qww hr.dict (vv 2) (qam Cabove (hr.mono (by decide)) rfl (vac (vv 4) qaf))) qaf)))))))))
   (qai (qd2 3 hr.dict (vv 4) qh4))
   qay)))
  (qai (qnx 3))))),qka⟩
theorem sc_left_alone:FnScope ["pane","entries","marks","hidden"] ["pane","entries"] (qaj qdf):=⟨rfl,rfl,rfl,by decide +kernel,rfl,by decide +kernel,by decide +kernel⟩
theorem qe6:CompScope (qaj qdf) ["pane","entries","marks","hidden"] ["pane","entries","marks","hidden","entry"] ["entry"] ({ kind:=PySem.ScopeKind.function,names:=[ (PySem.Str.ofString ".0",PySem.NameKind.local),(PySem.Str.ofString "entry",PySem.NameKind.local),(PySem.Str.ofString "hidden",PySem.NameKind.free),(PySem.Str.ofString "marks",PySem.NameKind.free)],isGenerator:=false,isCoroutine:=false,more:=[]:PySem.Scope }):=⟨rfl,by decide +kernel,by decide +kernel,by decide +kernel,by decide +kernel,rfl,by decide +kernel⟩
theorem qjn(F:Fun K "left_alone" "left_alone" qdf f fd)(B:Blt K mg)(Cmarks_of:Cal P w K mg base 1 "marks_of" ["pane"] (spOf K qce))(Chidden_ways:Cal P w K mg base 2 "hidden_ways" ["pane","entries"] (spOf K qb7)):FnOk P w K mg base CX0 3 f fd ["pane","entries"] (spOf K qbz) :=
 F.okV sc_left_alone qia λcdv A outer s H E hr=>⟨qeb,(qad (qau (i:=2) sc_left_alone.nd rfl (Or.inr rfl) (qam Cmarks_of (hr.mono (by decide)) rfl (vac (vv 0) qaf)))
  (qad (qau (i:=3) sc_left_alone.nd rfl (Or.inr rfl) (qam Chidden_ways (hr.mono (by decide)) rfl (vac (vv 0) (vac (vv 1) qaf))))
  (qai (qaz (vc_e (qgh (M:=["entry"]) (qdg (vv 1)) rfl qe6 (λcl C s2 H2 fp pn=>(qbd (i:=4) (qe6).nd rfl (Or.inl rfl))) (λcl C s2 H2 fp pn=>(qt5 (vw_t (qet (qf2 hr.dict (qa8 qap (vv 4) qae) (vv 2)) (qda (qf2 hr.dict (qa8 qap (vv 4) qae) (vv 3))))))) (λcl C s2 H2 fp pn=>(vv 4)))))))),ql2⟩
theorem sc_laid:FnScope ["pane","tree","put"] ["pane","tree"] (qaj qo3):=⟨rfl,rfl,rfl,by decide +kernel,rfl,by decide +kernel,by decide +kernel⟩
theorem qgs:CompScope (qaj qo3) ["pane","tree","put"] ["pane","tree","put","way","mark","text"] ["way","mark","text"] ({ kind:=PySem.ScopeKind.function,names:=[ (PySem.Str.ofString ".0",PySem.NameKind.local),(PySem.Str.ofString "way",PySem.NameKind.local),(PySem.Str.ofString "mark",PySem.NameKind.local),(PySem.Str.ofString "text",PySem.NameKind.local),(PySem.Str.ofString "shown",PySem.NameKind.globalImplicit)],isGenerator:=false,isCoroutine:=false,more:=[]:PySem.Scope }):=⟨rfl,by decide +kernel,by decide +kernel,by decide +kernel,by decide +kernel,rfl,by decide +kernel⟩
theorem qzg(F:Fun K "laid" "laid" qo3 f fd)(B:Blt K mg)(Cshown:Cal P w K mg base 1 "shown" ["way","mark","text"] (spOf K qf8))(Cin_order:Cal P w K mg base 1 "in_order" ["entries"] (spOf K qc1))(Cleft_alone:Cal P w K mg base 3 "left_alone" ["pane","entries"] (spOf K qbz)):FnOk P w K mg base CX0 4 f fd ["pane","tree"] (spOf K qk1) :=
 F.okV sc_laid qvg λcdv A outer s H E hr=>⟨qw3,(qad (q1g (i:=2) sc_laid.nd rfl (Or.inl rfl) (qgh (M:=["way","mark","text"]) (qdg (vv 0)) rfl qgs (λcl C s2 H2 fp pn=>(qt6 rfl (qc0 (qbd (i:=3) (qgs).nd rfl (Or.inl rfl)) (qc0 (qbd (i:=4) (qgs).nd rfl (Or.inl rfl)) (qc0 (qbd (i:=5) (qgs).nd rfl (Or.inl rfl)) qnv))))) (λcl C s2 H2 fp pn=>(qt5 (vw_t (qet (qa6 (qd7 hr.units) (vv 3) (qa5 qaf)) (qda (qa6 (qd7 hr.units) (vv 4) qak)))))) (λcl C s2 H2 fp pn=>(qam Cshown (hr.mono (by decide)) rfl (vac (vv 3) (vac (vv 4) (vac (vv 5) qaf)))))))
  (qai (qaz (qam Cin_order (hr.mono (by decide)) rfl (vac (qa2 qbn (qam Cleft_alone (hr.mono (by decide)) rfl (vac (vv 0) (vac (vv 1) qaf))) (vv 2)) qaf))))),q4p⟩
theorem qqd:FnScope ["pane","tree"] ["pane","tree"] (qaj qh0):=⟨rfl,rfl,rfl,by decide +kernel,rfl,by decide +kernel,by decide +kernel⟩
theorem qp8(F:Fun K "trimmed" "trimmed" qh0 f fd)(B:Blt K mg)(Cdraw:Cal P w K mg base 44 "draw" ["one","other"] (spOf K qfn))(Claid:Cal P w K mg base 4 "laid" ["pane","tree"] (spOf K qk1)):FnOk P w K mg base CX0 45 f fd ["pane","tree"] (spOf K qc6) :=
 F.okV qqd qmy λcdv A outer s H E hr=>⟨qg2,(qai (qaz (qam Cdraw (hr.mono (by decide)) rfl (vac (vv 1) (vac (qam Claid (hr.mono (by decide)) rfl (vac (vv 0) (vac (vv 1) qaf))) qaf))))),qul⟩
theorem sc_same:FnScope ["_law_found","_law_due","_law_k","_law_row"] ["_law_found","_law_due"] (qaj s_same):=⟨rfl,rfl,rfl,by decide +kernel,rfl,by decide +kernel,by decide +kernel⟩
theorem qzh(F:Fun K "_law_same" "_law_same" s_same f fd)(B:Blt K mg):FnOk P w K mg base CX0 1 f fd ["_law_found","_law_due"] (spOf K g_same) :=
 F.okV sc_same qvh λcdv A outer s H E hr=>⟨qrc,(qad (qb3 (vw_t (qig (qes (qdh (qgi .list rfl B.isinstance rfl B.list PyProof.Rows.Boot.«list» (vv 0)))) (qgo (qa6 (qd7 hr.units) (qcy qb2 rfl B.len PyProof.Rows.Boot.«len» (vv 0)) (qcy qb2 rfl B.len PyProof.Rows.Boot.«len» (vv 1))))))
   (qai (qaz qh4))
   qay)
  (qad (qd8 PassesOwn.never rfl (qh6 rfl B.range (qcy qb2 rfl B.len PyProof.Rows.Boot.«len» (vv 1))) (qbd (i:=2) sc_same.nd rfl (Or.inl rfl))
   (qad (qau (i:=3) sc_same.nd rfl (Or.inl rfl) (qa8 qap (vv 0) (vv 2)))
  (qad (qb3 (vw_t (qig (qes (qdh (qgi .tuple rfl B.isinstance rfl B.tuple PyProof.Rows.Boot.«tuple» (vv 3)))) (qig (qa6 (qd7 hr.units) (qcy qb2 rfl B.len PyProof.Rows.Boot.«len» (vv 3)) qae) (qgo (qes (qdh (qgi .tuple rfl B.isinstance rfl B.tuple PyProof.Rows.Boot.«tuple» (qa8 qap (vv 3) qae))))))))
   (qai (qaz qh4))
   qay)
  (qai (qb3 (vw_t (qig (qes (qdh (qgi .str rfl B.isinstance rfl B.str PyProof.Rows.Boot.«str» (qa8 qap (vv 3) qae)))) (qig (qes (qdh (qgi .str rfl B.isinstance rfl B.str PyProof.Rows.Boot.«str» (qa8 qap (vv 3) qae)))) (qgo (qa6 (qd7 hr.units) (vv 3) (qa8 qap (vv 1) (vv 2)))))))
   (qai (qaz qh4))
   qay)))))
  (qai (qaz qh4)))),q4q⟩
theorem sc_asked:FnScope ["_law_pane","_law_tree","_law_shown","_law_handed","_law_given"] ["_law_pane","_law_tree"] (qaj qnf):=⟨rfl,rfl,rfl,by decide +kernel,rfl,by decide +kernel,by decide +kernel⟩
theorem qvm(F:Fun K "_law_asked" "_law_asked" qnf f fd)(B:Blt K mg)(Cl_laid:Cal P w K mg base 1 "_law_laid" ["_law_pane","_law_tree"] (spOf K qcm))(Ctrimmed:Cal P w K mg base 45 "trimmed" ["pane","tree"] (spOf K qc6))(Csame:Cal P w K mg base 1 "_law_same" ["_law_found","_law_due"] (spOf K g_same))(Cdraw:Cal P w K mg base 44 "draw" ["one","other"] (spOf K qfn)):FnOk P w K mg base CX0 46 f fd ["_law_pane","_law_tree"] (spOf K qfc) :=
 F.okV sc_asked qsn λcdv A outer s H E hr=>⟨qra,(qad (qau (i:=2) sc_asked.nd rfl (Or.inl rfl) (qam Cl_laid (hr.mono (by decide)) rfl (vac (vv 0) (vac (vv 1) qaf))))
  (qad (qau (i:=3) sc_asked.nd rfl (Or.inl rfl) (qc8 (vac (qj6 qgj rfl B.list PyProof.Rows.Boot.«list» (vv 0)) (vac (qj6 qgj rfl B.list PyProof.Rows.Boot.«list» (vv 1)) qaf))))
  (qad (qdl (i:=4) sc_asked.nd rfl (Or.inl rfl) (qam Ctrimmed (hr.mono (by decide)) rfl (vac (qa8 qap (vv 3) qae) (vac (qa8 qap (vv 3) qae) qaf))))
  (qad (qb3 (vw_t (qig (qes (qdh (qgi .list rfl B.isinstance rfl B.list PyProof.Rows.Boot.«list» (vv 4)))) (qgo (qa6 q4m (qcy qb2 rfl B.len PyProof.Rows.Boot.«len» (vv 4)) (qcy qb2 rfl B.len PyProof.Rows.Boot.«len» (vv 0))))))
   (qai (qaz qh4))
   qay)
  (qad (qb3 (vw_t (qig (qes (qdh (qt2 (i:=4) Csame (hr.mono (by decide)) rfl (vac (qam Cdraw (hr.mono (by decide)) rfl (vac (qj6 qgj rfl B.list PyProof.Rows.Boot.«list» (vv 1)) (vac (qj6 qgj rfl B.list PyProof.Rows.Boot.«list» (vv 2)) qaf))) qaf)))) (qgo (qes (qdh (qam Csame (hr.mono (by decide)) rfl (vac (qt2 (i:=4) Cl_laid (hr.mono (by decide)) rfl (vac (vv 1) qaf)) (vac (vv 2) qaf))))))))
   (qai (qaz qh4))
   qay)
  (qad (qb3 (qes (qdh (q1e 4 (qam Csame (hr.mono (by decide)) rfl (vac (qam Ctrimmed (hr.mono (by decide)) rfl (vac (qj6 qgj rfl B.list PyProof.Rows.Boot.«list» (vv 4)) (vac (qj6 qgj rfl B.list PyProof.Rows.Boot.«list» (vv 1)) qaf))) (vac (vv 4) qaf))))))
   (qai (qaz qh4))
   qay)
  (qad (qf1 4 (qa5 (vac (qa5 (vac qak qaf)) (vac qak (vac qak qaf)))))
  (qad (qf1 4 (qa5 (vac (qa5 qaf) (vac qak (vac qak qaf)))))
  (qai (qaz (qpd (qix (qd0 hr.units) (qa8 qap (vv 3) qae) (vv 0)) (qpg (qix (qd0 hr.units) (qa8 qap (vv 3) qae) (vv 1)))))))))))))),q1i⟩
theorem sc_law:FnScope ["_law_script","_law_stem","_law_drawn","_law_tree","_law_pane","_law_second"] ["_law_script"] (qaj qjy):=⟨rfl,rfl,rfl,by decide +kernel,rfl,by decide +kernel,by decide +kernel⟩
theorem q2m(F:Fun K "law" "law" qjy f fd)(B:Blt K mg)(Ccell_at:Cal P w K mg base 1 "_law_cell_at" ["_law_script","_law_k"] (spOf K qcq))(Ctree_by:Cal P w K mg base 4 "_law_tree_by" ["_law_cells","_law_stem"] (spOf K qdo))(Cpane_by:Cal P w K mg base 4 "_law_pane_by" ["_law_cells","_law_stem"] (spOf K qc5))(Cmixed:Cal P w K mg base 1 "_law_mixed" ["_law_cell","_law_turn","_law_many"] (spOf K qar))(Casked:Cal P w K mg base 46 "_law_asked" ["_law_pane","_law_tree"] (spOf K qfc))(Cl_laid:Cal P w K mg base 1 "_law_laid" ["_law_pane","_law_tree"] (spOf K qcm)):FnOk P w K mg base CX0 47 f fd ["_law_script"] (spOf K qml) :=
 F.okV sc_law qy9 λcdv A outer s H E hr=>⟨q1v,(qad (qau (i:=1) sc_law.nd rfl (Or.inl rfl) (qa2 qc9 (qam Ccell_at (hr.mono (by decide)) rfl (vac (vv 0) (vac qae qaf))) (qa2 qyb qae qae)))
  (qad (qau (i:=2) sc_law.nd rfl (Or.inl rfl) (qam Ccell_at (hr.mono (by decide)) rfl (vac (vv 0) (vac qae qaf))))
  (qad (qau (i:=3) sc_law.nd rfl (Or.inl rfl) (qam Ctree_by (hr.mono (by decide)) rfl (vac (qnu (vv 0) (qbp qae) (qbp qae) (qbp qae)) (vac (vv 1) qaf))))
  (qad (qau (i:=4) sc_law.nd rfl (Or.inl rfl) (qam Cpane_by (hr.mono (by decide)) rfl (vac (qa2 qbn (qnu (vv 0) (qbp qae) (qbp qae) (qbp qae)) (qa2 q1f (qc8 (vac (vv 2) qaf)) (qam Cmixed (hr.mono (by decide)) rfl (vac (vv 2) (vac qae (vac qae qaf)))))) (vac (vv 1) qaf))))
  (qad (qau (i:=5) sc_law.nd rfl (Or.inl rfl) (qam Cpane_by (hr.mono (by decide)) rfl (vac (qnu (vv 0) (qbp qae) (qbp qae) (qbp qae)) (vac (vv 1) qaf))))
  (qai (qaz (qpd (qam Casked (hr.mono (by decide)) rfl (vac (vv 4) (vac (vv 3) qaf))) (qpg (qam Casked (hr.mono (by decide)) rfl (vac (vv 4) (vac (qam Cl_laid (hr.mono (by decide)) rfl (vac (vv 5) (vac (vv 3) qaf))) qaf)))))))))))),q5o⟩
end
theorem q5q{l:PySem.W.OpenLaw}{w:World}{K:PySem.W.Frag}{h:Heap}{mg:Str->Option Value}{fa:Addr}(X:K.In h)(G:h.Ns mainGlobals mg)(hfa:mg "law" = some (.ref fa))
  {f28:Addr} {od28 an28:Option Addr} {sl28:Array (Option Value)} {oc28 kV28 dc28 pm28 cd28 ct28:Value}
  (d1:qb4 K "above" qne)
  (d2:qb4 K "in_order" qgc)
  (d3:qb4 K "marks_of" qgd)
  (d4:qb4 K "hides" qng)
  (d5:qb4 K "hidden_ways" qdy)
  (d6:qb4 K "left_alone" qdf)
  (d7:qb4 K "shown" qni)
  (d8:qb4 K "laid" qo3)
  (d9:qb4 K "sorted_out" qen)
  (d10:qb4 K "keys_of" qhx)
  (d11:qb4 K "is_folder" qfe)
  (d12:qb4 K "cheaper" qfr)
  (d13:qb4 K "drawn_names" qdx)
  (d14:qb4 K "drawn_heap" qem)
  (d15:qb4 K "draw" qtn)
  (d16:qb4 K "trimmed" qh0)
  (d17:qb4 K "_law_cell_at" qhw)
  (d18:qb4 K "_law_mixed" qnh)
  (d19:qb4 K "_law_name_by" qhy)
  (d20:qb4 K "_law_signs_by" qez)
  (d21:qb4 K "_law_text_by" qhz)
  (d22:qb4 K "_law_tree_by" qft)
  (d23:qb4 K "_law_under_shut" qeo)
  (d24:qb4 K "_law_pane_by" qfs)
  (d25:qb4 K "_law_laid" qgw)
  (d26:qb4 K "_law_same" s_same)
  (d27:qb4 K "_law_asked" qnf)
  (a28:PySem.W.nsIn K mainGlobals "law" = some (some (.ref f28))) (l28:K.lookup f28=some ⟨oc28,od28,.func (PySem.W.fnOf "law" "law" (qc3 qjy) (qb5 qjy) (qaj qjy) .none kV28 dc28 pm28 an28 cd28 ct28),sl28⟩) (c28:PySem.W.codeIn K cd28 "law" = true) (k28:PySem.W.keepIn K (.ref f28)=true)
  (z_isinstance:PySem.W.nsIn K mainGlobals "isinstance" = some none)
  (z_len:PySem.W.nsIn K mainGlobals "len" = some none)
  (z_list:PySem.W.nsIn K mainGlobals "list" = some none)
  (z_range:PySem.W.nsIn K mainGlobals "range" = some none)
  (z_set:PySem.W.nsIn K mainGlobals "set" = some none)
  (z_sorted:PySem.W.nsIn K mainGlobals "sorted" = some none)
  (z_str:PySem.W.nsIn K mainGlobals "str" = some none)
  (z_tuple:PySem.W.nsIn K mainGlobals "tuple" = some none) :
  ∃fd:FuncData,(∀(s:Shared) (v:Value),BindsTo s fd ⟨[v],[]⟩ [("_law_script",v)])/\∀base:Heap,K.In base->base.Ns mainGlobals mg->FnOk l.prog w K mg base CX0 47 fa fd ["_law_script"] (spOf K qml):=by
 have e:=hfa.symm.trans (PySem.W.mg_of X G a28)
 cases e
 have B:Blt K mg:=⟨PySem.W.mg_none_of X G z_isinstance,PySem.W.mg_none_of X G z_len,PySem.W.mg_none_of X G z_list,PySem.W.mg_none_of X G z_range,PySem.W.mg_none_of X G z_set,PySem.W.mg_none_of X G z_sorted,PySem.W.mg_none_of X G z_str,PySem.W.mg_none_of X G z_tuple⟩
 have F28:=qxg (st:=qjy) l28 c28 k28
 have b28:=F28.binds1 (ps:=["_law_script"]) rfl λ_ _ _ _ _ _ _=>rfl
 refine⟨PySem.W.fnOf "law" "law" (qc3 qjy) (qb5 qjy) (qaj qjy) .none kV28 dc28 pm28 an28 cd28 ct28,λs v=>.of_eq rfl,λbase _ _=>?_⟩
 have Ccell_at:=calD l.prog w base X G d17 (λF=>qp1 F B) λF=>F.binds2 (ps:=["_law_script","_law_k"]) rfl λ_ _ _ _ _ _ _ _=>rfl
 have Cmixed:=calD l.prog w base X G d18 (λF=>qvo F B) λF=>F.binds3 (ps:=["_law_cell","_law_turn","_law_many"]) rfl λ_ _ _ _ _ _ _ _ _=>rfl
 have Cname_by:=calD l.prog w base X G d19 (λF=>qp4 F B) λF=>F.binds2 (ps:=["_law_stem","_law_v"]) rfl λ_ _ _ _ _ _ _ _=>rfl
 have Csigns_by:=calD l.prog w base X G d20 (λF=>qm9 F B Cmixed) λF=>F.binds1 (ps:=["_law_cell"]) rfl λ_ _ _ _ _ _ _=>rfl
 have Ctext_by:=calD l.prog w base X G d21 (λF=>qp6 F B Csigns_by Cmixed Cname_by) λF=>F.binds4 (ps:=["_law_mark","_law_cell","_law_stem","_law_wide"]) rfl λ_ _ _ _ _ _ _ _ _ _=>rfl
 have Ctree_by:=calD l.prog w base X G d22 (λF=>qp7 F B Cmixed Cname_by Ctext_by) λF=>F.binds2 (ps:=["_law_cells","_law_stem"]) rfl λ_ _ _ _ _ _ _ _=>rfl
 have Cunder_shut:=calD l.prog w base X G d23 (λF=>qjp F B) λF=>F.binds2 (ps:=["_law_things","_law_way"]) rfl λ_ _ _ _ _ _ _ _=>rfl
 have Cpane_by:=calD l.prog w base X G d24 (λF=>qp5 F B Cmixed Cname_by Cunder_shut Ctext_by) λF=>F.binds2 (ps:=["_law_cells","_law_stem"]) rfl λ_ _ _ _ _ _ _ _=>rfl
 have Cl_laid:=calD l.prog w base X G d25 (λF=>qs4 F B) λF=>F.binds2 (ps:=["_law_pane","_law_tree"]) rfl λ_ _ _ _ _ _ _ _=>rfl
 have Dcheaper:=calD l.prog w base X G d12 (λF=>qna F B) λF=>F.binds2 (ps:=["first","second"]) rfl λ_ _ _ _ _ _ _ _=>rfl
 have Ccheaper:=calD l.prog w base X G d12 (λF=>qp2 F B) λF=>F.binds2 (ps:=["first","second"]) rfl λ_ _ _ _ _ _ _ _=>rfl
 have Csorted_out:=calD l.prog w base X G d9 (λF=>qjo F B) λF=>F.binds2 (ps:=["entries","depth"]) rfl λ_ _ _ _ _ _ _ _=>rfl
 have Ckeys_of:=calD l.prog w base X G d10 (λF=>qp3 F B) λF=>F.binds2 (ps:=["one","other"]) rfl λ_ _ _ _ _ _ _ _=>rfl
 have Cis_folder:=calD l.prog w base X G d11 (λF=>qlf F B) λF=>F.binds1 (ps:=["heap"]) rfl λ_ _ _ _ _ _ _=>rfl
 have Rec:∀m,Cal l.prog w K mg base (2+2*m) "drawn_heap" ["one","other"] (spOf K (qbf m))/\Cal l.prog w K mg base (2+2*m+1) "drawn_names" ["one","other","depth"] (spOf K (qa1 m)):=λm=>by
  induction m with
 |zero =>
   have h0:Cal l.prog w K mg base (2+2*0) "drawn_heap" ["one","other"] (spOf K (qbf 0)):=calD l.prog w base X G d14 (λF=>FnOk.none qjl) λF=>F.binds2 (ps:=["one","other"]) rfl λ_ _ _ _ _ _ _ _=>rfl
   exact⟨h0,calD l.prog w base X G d13 (λF=>qe7 0 F B Csorted_out Ckeys_of h0) λF=>F.binds3 (ps:=["one","other","depth"]) rfl λ_ _ _ _ _ _ _ _ _=>rfl⟩
 |succ m ih =>
   have h1:Cal l.prog w K mg base (2+2*(m+1)) "drawn_heap" ["one","other"] (spOf K (qbf (m+1))):=calD l.prog w base X G d14 (λF=>qjm m F B Cis_folder ih.2 Ccheaper) λF=>F.binds2 (ps:=["one","other"]) rfl λ_ _ _ _ _ _ _ _=>rfl
   exact⟨h1,calD l.prog w base X G d13 (λF=>qe7 (m+1) F B Csorted_out Ckeys_of h1) λF=>F.binds3 (ps:=["one","other","depth"]) rfl λ_ _ _ _ _ _ _ _ _=>rfl⟩
 have Cdrawn_heap:=(Rec 20).1
 have Cdrawn_names:=(Rec 20).2
 have Cdraw:=calD l.prog w base X G d15 (λF=>qzf F B Ccheaper Cdrawn_names Dcheaper) λF=>F.binds2 (ps:=["one","other"]) rfl λ_ _ _ _ _ _ _ _=>rfl
 have Cshown:=calD l.prog w base X G d7 (λF=>qvp F B) λF=>F.binds3 (ps:=["way","mark","text"]) rfl λ_ _ _ _ _ _ _ _ _=>rfl
 have Cin_order:=calD l.prog w base X G d2 (λF=>qm7 F B) λF=>F.binds1 (ps:=["entries"]) rfl λ_ _ _ _ _ _ _=>rfl
 have Cmarks_of:=calD l.prog w base X G d3 (λF=>qm8 F B) λF=>F.binds1 (ps:=["pane"]) rfl λ_ _ _ _ _ _ _=>rfl
 have Cabove:=calD l.prog w base X G d1 (λF=>qvl F B) λF=>F.binds1 (ps:=["way"]) rfl λ_ _ _ _ _ _ _=>rfl
 have Chides:=calD l.prog w base X G d4 (λF=>qvn F B) λF=>F.binds1 (ps:=["mark"]) rfl λ_ _ _ _ _ _ _=>rfl
 have Chidden_ways:=calD l.prog w base X G d5 (λF=>qid F B Cmarks_of Cabove Chides) λF=>F.binds2 (ps:=["pane","entries"]) rfl λ_ _ _ _ _ _ _ _=>rfl
 have Cleft_alone:=calD l.prog w base X G d6 (λF=>qjn F B Cmarks_of Chidden_ways) λF=>F.binds2 (ps:=["pane","entries"]) rfl λ_ _ _ _ _ _ _ _=>rfl
 have Claid:=calD l.prog w base X G d8 (λF=>qzg F B Cshown Cin_order Cleft_alone) λF=>F.binds2 (ps:=["pane","tree"]) rfl λ_ _ _ _ _ _ _ _=>rfl
 have Ctrimmed:=calD l.prog w base X G d16 (λF=>qp8 F B Cdraw Claid) λF=>F.binds2 (ps:=["pane","tree"]) rfl λ_ _ _ _ _ _ _ _=>rfl
 have Csame:=calD l.prog w base X G d26 (λF=>qzh F B) λF=>F.binds2 (ps:=["_law_found","_law_due"]) rfl λ_ _ _ _ _ _ _ _=>rfl
 have Casked:=calD l.prog w base X G d27 (λF=>qvm F B Cl_laid Ctrimmed Csame Cdraw) λF=>F.binds2 (ps:=["_law_pane","_law_tree"]) rfl λ_ _ _ _ _ _ _ _=>rfl
 exact q2m F28 B Ccell_at Ctree_by Cpane_by Cmixed Casked Cl_laid
theorem walk{l:PySem.W.OpenLaw}{q:Program}{loose:List Str}{XP:(Str->Option Value)->Heap->Prop}{YP:World->Heap->Prop}{d:DefRec}{K:Params->PySem.W.Frag}(hn:l.most=some 63)(hdf:d.params.defaults=[])
  (hY:∀(w:World) (h:Heap),YP w h->(K w.params).In h)
  (F:∀(w:World) (mg:Str->Option Value) (fa:Addr) (h:Heap),(K w.params).In h->h.Ns mainGlobals mg->mg d.name=some (.ref fa) ->
   ∃fd:FuncData,(∀(s:Shared) (u:Value),BindsTo s fd ⟨[u],[]⟩ [("_law_script",u)])/\∀base:Heap,(K w.params).In base->base.Ns mainGlobals mg->FnOk l.prog w (K w.params) mg base CX0 47 fa fd ["_law_script"] (spOf (K w.params) qml)) :
  PySem.W.WalkO q loose XP YP l.row.toRowW d [] (λf vs=>PySem.call f vs) :=
 L2.q5p (n:=63) (k:=47) (x:="_law_script") (CX:=λ_=>CX0) (sp:=λw=>spOf (K w.params) qml) hn (by decide) hdf ⟨rfl,by decide,by decide⟩ hY F (λw H a ns hl _ hS=>q2j ns hl hS) λ_ _ _ _ _ z=>z
end K24
open PySem PySem.W PyProof.Rows
set_option maxRecDepth 100000 in
set_option maxHeartbeats 0 in
def PySem.W.Fast.tw4795560282811571567 := ()
def PySem.W.Fast.tw9080478931737154694 := ()
def PySem.W.Fast.tw12555033612918059242 := ()
def PySem.W.Fast.tw15156976379349469322 := ()
def PySem.W.Fast.tw736434713096966860 := ()
def PySem.W.Fast.tw2640967725463167301 := ()
def PySem.W.Fast.tw13784780266794716979 := ()
def PySem.W.Fast.tw16083744615898935988 := ()
def PySem.W.Fast.tw9927711078346850606 := ()
def PySem.W.Fast.tw10199049000113323782 := ()
def PySem.W.Fast.tw13840547108000384162 := ()
def PySem.W.Fast.tw6138526983881213691 := ()
def PySem.W.Fast.tw10899720442220250716 := ()
def PySem.W.Fast.tw6628832284110755457 := ()
def PySem.W.Fast.tw10925804723758369380 := ()
def PySem.W.Fast.tw14404485901303707052 := ()
def PySem.W.Fast.tw4457070004984066077 := ()
def PySem.W.Fast.tw15161320019784149042 := ()
def PySem.W.Fast.tw13797779228545639353 := ()
def PySem.W.Fast.tw14198048297143313631 := ()
def PySem.W.Fast.tw8241941542636424300 := ()
def PySem.W.Fast.tw10269000016219832921 := ()
def PySem.W.Fast.tw17944217871573362053 := ()
def PySem.W.Fast.tw2300550700838303066 := ()
def PySem.W.Fast.tw8977124990973025025 := ()
def PySem.W.Fast.tw16294890743010206563 := ()
def PySem.W.Fast.tw12316769230831079854 := ()
def PySem.W.Fast.tw2752061261756519287 := ()
def PySem.W.Fast.tw4844298828958769817 := ()
def PySem.W.Fast.tw5892193142744555150 := ()
def PySem.W.Fast.tw17354483286861787938 := ()
def PySem.W.Fast.tw7253375640325422632 := ()
def PySem.W.Fast.tw6706945499509456653 := ()
def PySem.W.Fast.tw7035034179271266035 := ()
def PySem.W.Fast.tw1679203644386240222 := ()
def PySem.W.Fast.tw1923179026497393483 := ()
def PySem.W.Fast.tw11185851857692202841 := ()
def PySem.W.Fast.tw2037542389334768105 := ()
def PySem.W.Fast.tw10248975095903015118 := ()
def PySem.W.Fast.tw5043520284505662443 := ()
def PySem.W.Fast.tw8025662286548882330 := ()
def PySem.W.Fast.tw10508696226957885088 := ()
def PySem.W.Fast.tw9117698184110772665 := ()
def PySem.W.Fast.tw4160391958371337281 := ()
def PySem.W.Fast.tw14750855556774646210 := ()
def PySem.W.Fast.tw5262922378678754568 := ()
def PySem.W.Fast.tw15956911470577983440 := ()
def PySem.W.Fast.tw9818124510760516594 := ()
def PySem.W.Fast.tw269768584945832955 := ()
def PySem.W.Fast.tw3294043971112291562 := ()
def PySem.W.Fast.tw14331391043600495322 := ()
def PySem.W.Fast.tw11330252970988789172 := ()
def PySem.W.Fast.tw17857805900282127016 := ()
def PySem.W.Fast.tw9503864515635561324 := ()
def PySem.W.Fast.tw5522258670977211127 := ()
def PySem.W.Fast.tw10735298576402009521 := ()
def PySem.W.Fast.tw4889066986466636063 := ()
def PySem.W.Fast.tw13506051247066156499 := ()
def PySem.W.Fast.tw3579297213949678677 := ()
def PySem.W.Fast.tw594835383400542244 := ()
def PySem.W.Fast.tw1174244119188333001 := ()
def PySem.W.Fast.tw15301872364103031039 := ()
def PySem.W.Fast.tw2300192248456457594 := ()
def PySem.W.Fast.tw16045213637952515311 := ()
def PySem.W.Fast.tw5472383317734965492 := ()
def PySem.W.Fast.tw15524193897715172 := ()
def PySem.W.Fast.tw877248026949610298 := ()
def PySem.W.Fast.tw998799526844955974 := ()
def PySem.W.Fast.tw18053713101686279295 := ()
def PySem.W.Fast.tw6442331876478332513 := ()
def PySem.W.Fast.tw7594230337858916210 := ()
def PySem.W.Fast.tw17099458314768120286 := ()
def PySem.W.Fast.tw14029958366598161568 := ()
def PySem.W.Fast.tw15742811475900862717 := ()
def PySem.W.Fast.tw15395616957087891213 := ()
def PySem.W.Fast.tw11690965819099634787 := ()
def PySem.W.Fast.tw16681018295557252440 := ()
def PySem.W.Fast.tw6814410690082254167 := ()
def PySem.W.Fast.tw9420398679789366015 := ()
def PySem.W.Fast.tw18363733045913861074 := ()
def PySem.W.Fast.tw12897060371417153722 := ()
def PySem.W.Fast.tw1073001017746865919 := ()
def PySem.W.Fast.tw6803739689666768328 := ()
def PySem.W.Fast.tw16119075210248204605 := ()
def PySem.W.Fast.tw4146964802497926873 := ()
def PySem.W.Fast.tw9945527974657912629 := ()
def PySem.W.Fast.tw3217689269791460733 := ()
def PySem.W.Fast.tw2152186280743499675 := ()
def PySem.W.Fast.tw4732776743024442111 := ()
def PySem.W.Fast.tw8792991395847974954 := ()
def PySem.W.Fast.tw12067911930927642235 := ()
def PySem.W.Fast.tw8690992705159640668 := ()
def PySem.W.Fast.tw4973466056199290613 := ()
def PySem.W.Fast.tw1635136165726536007 := ()
def PySem.W.Fast.tw16227973225130143439 := ()
def PySem.W.Fast.tw17507246550474139444 := ()
def PySem.W.Fast.tw678416844850613993 := ()
def PySem.W.Fast.tw15477118568797951720 := ()
def PySem.W.Fast.tw15133905883912151672 := ()
def PySem.W.Fast.tw17280049666313518034 := ()
def PySem.W.Fast.tw1790229559079843926 := ()
def PySem.W.Fast.tw3569422284586043911 := ()
def PySem.W.Fast.tw16135656552359723141 := ()
def PySem.W.Fast.tw5715168551328162868 := ()
def PySem.W.Fast.tw7394899685306470110 := ()
def PySem.W.Fast.tw14555460004132501463 := ()
def PySem.W.Fast.tw1241206813301232360 := ()
def PySem.W.Fast.tw12016174038274375447 := ()
def PySem.W.Fast.tw11466611648785609217 := ()
def PySem.W.Fast.tw5983660126516908850 := ()
def PySem.W.Fast.tw16449947646644534755 := ()
def PySem.W.Fast.tw10331798506719367559 := ()
def PySem.W.Fast.tw7504594332454380681 := ()
def PySem.W.Fast.tw170449573694971405 := ()
def PySem.W.Fast.tw14675912045757006060 := ()
def PySem.W.Fast.tw12652474825571630087 := ()
def PySem.W.Fast.tw9453995876088134802 := ()
def PySem.W.Fast.tw11331413259287324471 := ()
def PySem.W.Fast.tw7719521671115629423 := ()
def PySem.W.Fast.tw5216667782133533669 := ()
def PySem.W.Fast.tw9357062760189496004 := ()
def PySem.W.Fast.tw8377454797913576674 := ()
def PySem.W.Fast.tw6547185187157312082 := ()
def PySem.W.Fast.tw2839597709933025859 := ()
def PySem.W.Fast.tw11611618387299663777 := ()
def PySem.W.Fast.tw991528783918528644 := ()
def PySem.W.Fast.tw9693723789429184902 := ()
def PySem.W.Fast.tw929953813061421349 := ()
def PySem.W.Fast.tw9279003372755762419 := ()
def PySem.W.Fast.tw8386394506873336302 := ()
def PySem.W.Fast.tw8317943645104352737 := ()
def PySem.W.Fast.tw8255921323995113387 := ()
def PySem.W.Fast.tw8108306392814756335 := ()
def PySem.W.Fast.tw7528060180160402524 := ()
def PySem.W.Fast.tw7380941383960033795 := ()
def PySem.W.Fast.tw7342975260406223223 := ()
def PySem.W.Fast.tw7289464991239969016 := ()
def PySem.W.Fast.tw7002332381679691860 := ()
def PySem.W.Fast.tw6450703357873962561 := ()
def PySem.W.Fast.tw6412458531185972829 := ()
def PySem.W.Fast.tw6388712279556827087 := ()
def PySem.W.Fast.tw5493092057456433369 := ()
def PySem.W.Fast.tw5065320479043792128 := ()
def PySem.W.Fast.tw4507222381466906410 := ()
def PySem.W.Fast.tw4070146982664092950 := ()
def PySem.W.Fast.tw3644332761804288683 := ()
def PySem.W.Fast.tw3449491037402761466 := ()
def PySem.W.Fast.tw3005280371658344012 := ()
def PySem.W.Fast.tw1877957692580080301 := ()
def PySem.W.Fast.tw1873264695718709702 := ()
def PySem.W.Fast.tw17997609532482775546 := ()
def PySem.W.Fast.tw17681021181084457136 := ()
def PySem.W.Fast.tw17199552417542707828 := ()
def PySem.W.Fast.tw1707352964377831875 := ()
def PySem.W.Fast.tw14994059653451399996 := ()
def PySem.W.Fast.tw14861716520642059439 := ()
def PySem.W.Fast.tw14763674876580335015 := ()
def PySem.W.Fast.tw146368641200030947 := ()
def PySem.W.Fast.tw14443369676955927351 := ()
def PySem.W.Fast.tw13939978796081520321 := ()
def PySem.W.Fast.tw1374118905908491380 := ()
def PySem.W.Fast.tw13699578353984918699 := ()
def PySem.W.Fast.tw13619579036766051541 := ()
def PySem.W.Fast.tw13467931929911521980 := ()
def PySem.W.Fast.tw13200260260891304292 := ()
def PySem.W.Fast.tw12897489077558270464 := ()
def PySem.W.Fast.tw12720362849731362248 := ()
def PySem.W.Fast.tw12445410077970016726 := ()
def PySem.W.Fast.tw12104738814573087451 := ()
def PySem.W.Fast.tw11909582525727831924 := ()
def PySem.W.Fast.tw1144394158843766516 := ()
def PySem.W.Fast.tw11307443935481772984 := ()
def PySem.W.Fast.tw10894572644183994402 := ()
def PySem.W.Fast.tw1013900900019379458 := ()
def PySem.W.Fast.tw10064197006305532063 := ()
def PySem.W.Fast.tw1006062729389852110 := ()
theorem PySem.Challenge.cw_glasslayers_k24_trimmed_holds : PySem.Challenge.rw_glasslayers_k24_trimmed.Holds := by
 w_on;o_law;k_head;(case hw=>w_witness2)
 k_fill
 refine K24.walk (l:=PySem.Challenge.rw_glasslayers_k24_trimmed) rfl rfl (λw h Y=>PySem.W.kIn_of Y) ?F
 case F =>
  intro w mg fa h KX G hmg
  refine' K24.q5q KX G hmg ?d1 ?d2 ?d3 ?d4 ?d5 ?d6 ?d7 ?d8 ?d9 ?d10 ?d11 ?d12 ?d13 ?d14 ?d15 ?d16 ?d17 ?d18 ?d19 ?d20 ?d21 ?d22 ?d23 ?d24 ?d25 ?d26 ?d27 ?a28 ?l28 ?c28 ?k28 ?z_isinstance ?z_len ?z_list ?z_range ?z_set ?z_sorted ?z_str ?z_tuple
  (case d1=>refine' L2.q5s ?a ?b ?c ?d;(case a=>k_is);(case b=>k_is);(case c=>k_is);(case d=>k_is))
  (case d2=>refine' L2.q5s ?a ?b ?c ?d;(case a=>k_is);(case b=>k_is);(case c=>k_is);(case d=>k_is))
  (case d3=>refine' L2.q5s ?a ?b ?c ?d;(case a=>k_is);(case b=>k_is);(case c=>k_is);(case d=>k_is))
  (case d4=>refine' L2.q5s ?a ?b ?c ?d;(case a=>k_is);(case b=>k_is);(case c=>k_is);(case d=>k_is))
  (case d5=>refine' L2.q5s ?a ?b ?c ?d;(case a=>k_is);(case b=>k_is);(case c=>k_is);(case d=>k_is))
  (case d6=>refine' L2.q5s ?a ?b ?c ?d;(case a=>k_is);(case b=>k_is);(case c=>k_is);(case d=>k_is))
  (case d7=>refine' L2.q5s ?a ?b ?c ?d;(case a=>k_is);(case b=>k_is);(case c=>k_is);(case d=>k_is))
  (case d8=>refine' L2.q5s ?a ?b ?c ?d;(case a=>k_is);(case b=>k_is);(case c=>k_is);(case d=>k_is))
  (case d9=>refine' L2.q5s ?a ?b ?c ?d;(case a=>k_is);(case b=>k_is);(case c=>k_is);(case d=>k_is))
  (case d10=>refine' L2.q5s ?a ?b ?c ?d;(case a=>k_is);(case b=>k_is);(case c=>k_is);(case d=>k_is))
  (case d11=>refine' L2.q5s ?a ?b ?c ?d;(case a=>k_is);(case b=>k_is);(case c=>k_is);(case d=>k_is))
  (case d12=>refine' L2.q5s ?a ?b ?c ?d;(case a=>k_is);(case b=>k_is);(case c=>k_is);(case d=>k_is))
  (case d13=>refine' L2.q5s ?a ?b ?c ?d;(case a=>k_is);(case b=>k_is);(case c=>k_is);(case d=>k_is))
  (case d14=>refine' L2.q5s ?a ?b ?c ?d;(case a=>k_is);(case b=>k_is);(case c=>k_is);(case d=>k_is))
  (case d15=>refine' L2.q5s ?a ?b ?c ?d;(case a=>k_is);(case b=>k_is);(case c=>k_is);(case d=>k_is))
  (case d16=>refine' L2.q5s ?a ?b ?c ?d;(case a=>k_is);(case b=>k_is);(case c=>k_is);(case d=>k_is))
  (case d17=>refine' L2.q5s ?a ?b ?c ?d;(case a=>k_is);(case b=>k_is);(case c=>k_is);(case d=>k_is))
  (case d18=>refine' L2.q5s ?a ?b ?c ?d;(case a=>k_is);(case b=>k_is);(case c=>k_is);(case d=>k_is))
  (case d19=>refine' L2.q5s ?a ?b ?c ?d;(case a=>k_is);(case b=>k_is);(case c=>k_is);(case d=>k_is))
  (case d20=>refine' L2.q5s ?a ?b ?c ?d;(case a=>k_is);(case b=>k_is);(case c=>k_is);(case d=>k_is))
  (case d21=>refine' L2.q5s ?a ?b ?c ?d;(case a=>k_is);(case b=>k_is);(case c=>k_is);(case d=>k_is))
  (case d22=>refine' L2.q5s ?a ?b ?c ?d;(case a=>k_is);(case b=>k_is);(case c=>k_is);(case d=>k_is))
  (case d23=>refine' L2.q5s ?a ?b ?c ?d;(case a=>k_is);(case b=>k_is);(case c=>k_is);(case d=>k_is))
  (case d24=>refine' L2.q5s ?a ?b ?c ?d;(case a=>k_is);(case b=>k_is);(case c=>k_is);(case d=>k_is))
  (case d25=>refine' L2.q5s ?a ?b ?c ?d;(case a=>k_is);(case b=>k_is);(case c=>k_is);(case d=>k_is))
  (case d26=>refine' L2.q5s ?a ?b ?c ?d;(case a=>k_is);(case b=>k_is);(case c=>k_is);(case d=>k_is))
  (case d27=>refine' L2.q5s ?a ?b ?c ?d;(case a=>k_is);(case b=>k_is);(case c=>k_is);(case d=>k_is))
  (case a28=>k_is)
  (case l28=>k_is)
  (case c28=>k_is)
  (case k28=>k_is)
  (case z_isinstance=>k_is)
  (case z_len=>k_is)
  (case z_list=>k_is)
  (case z_range=>k_is)
  (case z_set=>k_is)
  (case z_sorted=>k_is)
  (case z_str=>k_is)
  (case z_tuple=>k_is)
