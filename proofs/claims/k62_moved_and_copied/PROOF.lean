import PyProof.Rows.All
import Wide.All
import OpenK.AllK
import Wide.FinOn
import Lean
import PyProof.EqAt
import PyProof.EqKinds
import PyProof.TupleCall
import PySem.Challenge.RW_glasslayers_k62_moved_and_copied
set_option compiler.extract_closed false
set_option Elab.async false
set_option linter.all false
set_option maxRecDepth 100000
namespace L2
open PySem PySem.Spec PyProof.Rows
abbrev Key:=Sum Int Str
def qra:Key->Value->Bool
|.inl k,v=>Value.isInt k v
|.inr x,v=>Value.isStrOf x v
def keyH(w:World):Key->Int
|.inl k=>hashInt k
|.inr x=>hashStr w x
theorem qbp:∀ {k:Key} {v:Value},qra k v=true->(∃i t,k=Sum.inl i/\v=Value.int i t)\/(∃x t,k=Sum.inr x/\v=Value.str x t)
|.inl i,v,h=>by
  obtain⟨t,e⟩:=Value.isInt_shape (k:=i) (v:=v) h
  exact .inl ⟨i,t,rfl,e⟩
|.inr x,v,h=>by
  obtain⟨t,e⟩:=Value.isStrOf_shape (x:=x) (v:=v) h
  exact .inr ⟨x,t,rfl,e⟩
theorem qt8(i:Int)(t:Tok):qra (.inl i) (.int i t)=true:=by simp[qra,Value.isInt]
theorem qt9(x:Str)(t:Tok):qra (.inr x) (.str x t)=true:=by simp[qra,Value.isStrOf]
theorem q48(a b:Int):decide ((Sum.inl a:Key)=Sum.inl b)=(a==b):=by
 by_cases e:a=b
 ·subst e;simp
 ·have h:¬ (Sum.inl a:Key)=Sum.inl b:=λq=>e (Sum.inl.inj q)
  rw[decide_eq_false h]
  exact(beq_eq_false_iff_ne.mpr e).symm
theorem q5b(a b:Str):decide ((Sum.inr a:Key)=Sum.inr b)=decide (a=b):=by
 by_cases e:a=b
 ·subst e;simp
 ·have h:¬ (Sum.inr a:Key)=Sum.inr b:=λq=>e (Sum.inr.inj q)
  rw[decide_eq_false h,decide_eq_false e]
theorem q49(a:Int)(b:Str):decide ((Sum.inl a:Key)=Sum.inr b)=false:=decide_eq_false (λq=>nomatch q)
theorem q5a(a:Str)(b:Int):decide ((Sum.inr a:Key)=Sum.inl b)=false:=decide_eq_false (λq=>nomatch q)
def qb3(prog:Program)(w:World):PySem.KeyKind prog w Key where
 is:=qra
 hash:=keyH w
 inj:=λv a b ha hb=>by
  rcases qbp ha with ⟨i,t,rfl,rfl⟩|⟨x,t,rfl,rfl⟩
  ·rcases qbp hb with ⟨j,u,rfl,e⟩|⟨y,u,rfl,e⟩
   ·injection e with e1 _;rw[e1]
   ·exact nomatch e
  ·rcases qbp hb with ⟨j,u,rfl,e⟩|⟨y,u,rfl,e⟩
   ·exact nomatch e
   ·injection e with e1 _;rw[e1]
 byValue:=λk v h=>by
  rcases qbp h with ⟨i,t,rfl,rfl⟩|⟨x,t,rfl,rfl⟩<;>rfl
 pyHash:=λhv h=>by
  rcases qbp hv with ⟨i,t,rfl,rfl⟩|⟨x,t,rfl,rfl⟩
  ·exact wpAny_pyHash_int h
  ·exact wpAny_pyHash_str h
 eqBool:=λhu hv h=>by
  rcases qbp hu with ⟨i,t,rfl,rfl⟩|⟨x,t,rfl,rfl⟩
  ·rcases qbp hv with ⟨j,u,rfl,rfl⟩|⟨y,u,rfl,rfl⟩
   ·rw[q48] at h;exact wpAny_eqBool_int h
   ·rw[q49] at h;exact SeqAt.EqAt.int_str i t y u _ _ _ _ h
  ·rcases qbp hv with ⟨j,u,rfl,rfl⟩|⟨y,u,rfl,rfl⟩
   ·rw[q5a] at h;exact SeqAt.EqAt.str_int x t j u _ _ _ _ h
   ·rw[q5b] at h;exact wpAny_eqBool_str h
 «strs»:=λk x t v h=>by
  rcases qbp h with ⟨i,u,rfl,e⟩|⟨y,u,rfl,e⟩
  ·exact nomatch e
  ·injection e with e1 _
   subst e1
   cases v<;>rfl
theorem qof(prog:Program)(w:World)(i:Int)(t:Tok):(qb3 prog w).is (.inl i) (.int i t)=true:=qt8 i t
theorem qog(prog:Program)(w:World)(x:Str)(t:Tok):(qb3 prog w).is (.inr x) (.str x t)=true:=qt9 x t
end L2
namespace L2
open PySem PySem.Spec PyProof.Rows
inductive V where
|non|bl (b:Bool)|int (i:Int)|str (x:Str)|byt (b:Array UInt8)|flt (b:UInt64)|ref (a:Addr)|ty (n:String)
 deriving DecidableEq
def RelV:V->Value->Prop
|.non,u=>u=Value.none
|.bl b,u=>u=Value.bool b
|.int i,u=>∃t,u=Value.int i t
|.str x,u=>∃t,u=Value.str x t
|.byt b,u=>∃t,u=Value.bytes b t
|.flt b,u=>∃t,u=Value.float b t
|.ref a,u=>u=Value.ref a
|.ty n,u=>u=Value.type n
abbrev Vals:List V->List Value->Prop:=Paired RelV
theorem Vals.length{xs:List V}{us:List Value}(r:Vals xs us):xs.length=us.length:=Paired.length r
theorem Vals.get:∀ {xs:List V} {us:List Value} {i:Nat} {x:V},Vals xs us->xs[i]?=some x->∃u,us[i]?=some u/\RelV x u
|_,_,_,_,.nil,e=>by simp at e
|_,_,0,_,.cons r _,e=>by simp at e;subst e;exact⟨_,rfl,r⟩
|_,_,i+1,x,.cons _ t,e=>by
  obtain⟨u,h1,h2⟩:=Vals.get (i:=i) (x:=x) t (by simpa using e)
  exact⟨u,by simpa using h1,h2⟩
theorem Vals.set{x:V}{u:Value}(r:RelV x u):∀ {xs:List V} {us:List Value} (i:Nat),Vals xs us->Vals (xs.set i x) (us.set i u)
|_,_,_,.nil=>.nil
|_,_,0,.cons _ t=>.cons r t
|_,_,i+1,.cons q t=>.cons q (Vals.set r i t)
theorem Vals.append:∀ {xs ys:List V} {us ws:List Value},Vals xs us->Vals ys ws->Vals (xs++ys) (us++ws)
|_,_,_,_,.nil,s=>s
|_,_,_,_,.cons r t,s=>.cons r (Vals.append t s)
theorem Vals.take:∀ {xs:List V} {us:List Value} (n:Nat),Vals xs us->Vals (xs.take n) (us.take n)
|_,_,0,_=>.nil
|_,_,_+1,.nil=>.nil
|_,_,n+1,.cons r t=>.cons r (Vals.take n t)
theorem Vals.drop:∀ {xs:List V} {us:List Value} (n:Nat),Vals xs us->Vals (xs.drop n) (us.drop n)
|_,_,0,r=>r
|_,_,_+1,.nil=>.nil
|_,_,n+1,.cons _ t=>Vals.drop n t
def RelO:Option V->Option Value->Prop
|some v,some u=>RelV v u
|none,none=>True
|_,_=>False
def KV{κ:Type}:List (κ×V)->List (κ×Value)->Prop:=Paired λ(p:κ×V) (q:κ×Value)=>p.1=q.1/\RelV p.2 q.2
def kV:Key->V
|.inl i=>.int i
|.inr x=>.str x
inductive HO where
|lst (xs:List V)
|tup (xs:List V)
|dK (kvs:List (Key×V))|dT (kvs:List (List Key×V))
|set (S:Int->Bool) (n:Nat)
|ins (C dx:Addr) (fs:List (Str×V))
|own (x:Addr)
|xd (fs:List (Str×V))
|met (f x:Addr)
|rng (lo hi:Int)
|frz (o:Obj) (u:HO)
|tbl (ps:Array Value)
|ext (φ:Heap->Prop)
abbrev Hp:=Addr->Option HO
def upd(H:Hp)(a:Addr)(o:HO):Hp:=λb=>if b=a then some o else H b
theorem qa6{H:Hp}{a:Addr}{o:HO}:upd H a o a=some o:=by unfold upd;rw[if_pos rfl]
theorem qau{H:Hp}{a b:Addr}{o:HO}(h:b≠a):upd H a o b=H b:=by unfold upd;rw[if_neg h]
theorem q5h{H:Hp}{a b:Addr}{o u:HO}(h:H a=some o)(h':H b=some u)(d:o≠u):a≠b:=by
 intro e;subst e;rw[h] at h';exact d (Option.some.inj h')
theorem qcv{H:Hp}{a b:Addr}{o:HO}(h:H a=some o)(h':H b=none):a≠b:=by
 intro e;subst e;rw[h] at h';cases h'
section
variable (P:Program) (w:World)
def ObjOk(H:Hp)(h:Heap)(a:Addr):HO->Prop
|.lst xs=>xs.length<=sizeLine/\∃(its:List Value) (n:Nat),Vals xs its/\h.get? a=some { cls:=.type "list",data:=.seq its.toArray n }
|.tup xs=>xs.length<=sizeLine/\∃its:List Value,Vals xs its/\IsTup h a its.toArray
|.dK kvs=>kvs.length<=sizeLine/\(a==sysModules)=false/\∃vs,KV kvs vs/\h.DictOf (qb3 P w) a vs
|.dT kvs=>kvs.length<=sizeLine/\(a==sysModules)=false/\∃xs:List (List Key×Addr×Value),
   Paired (λ(p:List Key×V) (q:List Key×Addr×Value)=>p.1=q.1/\H q.2.1=some (.tup (p.1.map kV))/\RelV p.2 q.2.2) kvs xs /\
   ∃o es ep,h.get? a=some o/\o.ExactDict/\o.data=.dict es ep/\es.toList=xs.map (entryOfKey (tupleKind (qb3 P w)))/\(xs.map (·.1)).Nodup
|.set S n=>h.SetOf (intKind P w) a S n
|.ins C dx fs=>H dx=some (.own a)/\fs.length<=1000/\dx≠a/\h.get? a=some (PySem.W.instObj C dx) /\
   ∃mA,h.Ns1 dx mA/\(∀f,RelO (fs.lookup f) (mA f))/\PySem.Within mA (fs.map (·.1))
|.own _=>∃o,h.get? a=some o
|.xd fs=>∃mA,h.Ns1 a mA/\∀f,RelO (fs.lookup f) (mA f)
|.rng lo hi=>∃t u v,h.get? a=some { cls:=.type "range",data:=.fields #[.int lo t,.int hi u,.int 1 v] }
|.frz o u=>h.get? a=some o/\ObjOk H h a u
|.tbl ps=>h.get? a=some { cls:=.none,data:=.fields ps }
|.met f x=>h.get? a=some (PySem.W.methodObj (.ref f) (.ref x))
|.ext φ=>φ h/\(∃o,h.get? a=some o)/\∀h1 h2:Heap,φ h1->(∀o,h1.get? a=some o->h2.get? a=some o)->φ h2
def HOk(H:Hp)(h:Heap):Prop:=∀a o,H a=some o->ObjOk P w H h a o
end
section
variable {P:Program} {w:World} {H H':Hp} {h h':Heap} {a:Addr} {o:HO}
theorem ObjOk.lt(x:ObjOk P w H h a o):a<h.objs.size:=by
 cases o with
|lst xs=>obtain⟨_,_,_,_,e⟩:=x;exact Heap.lt_size e
|tup xs=>obtain⟨_,_,_,p⟩:=x;exact p.lt
|dK kvs=>obtain⟨_,_,_,_,o,_,_,e,_⟩:=x;exact Heap.lt_size e
|dT kvs=>obtain⟨_,_,_,_,o,_,_,e,_⟩:=x;exact Heap.lt_size e
|set S n=>obtain⟨o,_,_,_,e,_⟩:=x;exact Heap.lt_size e
|ins C dx fs=>obtain⟨_,_,_,e,_⟩:=x;exact Heap.lt_size e
|own y=>obtain⟨_,e⟩:=x;exact Heap.lt_size e
|xd fs=>obtain⟨_,⟨_,_,_,e,_⟩,_⟩:=x;exact Heap.lt_size e
|rng lo hi=>obtain⟨_,_,_,e⟩:=x;exact Heap.lt_size e
|frz ob u=>obtain⟨e,_⟩:=x;exact Heap.lt_size e
|tbl ps=>exact Heap.lt_size (show h.get? a=some _ from x)
|met f y=>exact Heap.lt_size (show h.get? a=some _ from x)
|ext φ=>obtain⟨_,⟨_,e⟩,_⟩:=x;exact Heap.lt_size e
theorem Paired.mapP{α β:Type}{F G:α->β->Prop}:∀ {l₁:List α} {l₂:List β},Paired F l₁ l₂->(∀a b,F a b->G a b)->Paired G l₁ l₂
|_,_,.nil,_=>.nil
|_,_,.cons r t,f=>.cons (f _ _ r) (Paired.mapP t f)
theorem ObjOk.stay(x:ObjOk P w H h a o)(k:∀b u,(b=a\/H b=some (.own a))->h.get? b=some u->h'.get? b=some u)
  (ho:∀b,H b=some (.own a)->H' b=some (.own a)) (ht:∀b xs,H b=some (.tup xs)->H' b=some (.tup xs)):ObjOk P w H' h' a o:=by
 induction o with
|lst xs=>obtain⟨z,its,n,r,e⟩:=x;exact⟨z,its,n,r,k _ _ (.inl rfl) e⟩
|tup xs=>obtain⟨z,its,r,ob,e,c⟩:=x;exact⟨z,its,r,ob,k _ _ (.inl rfl) e,c⟩
|dK kvs=>obtain⟨z,y,vs,r,ob,es,ep,e,c⟩:=x;exact⟨z,y,vs,r,ob,es,ep,k _ _ (.inl rfl) e,c⟩
|dT kvs =>
  obtain⟨z,y,xs,r,ob,es,ep,e,c⟩:=x
  exact⟨z,y,xs,Paired.mapP r λp q z=>⟨z.1,ht _ _ z.2.1,z.2.2⟩,ob,es,ep,k _ _ (.inl rfl) e,c⟩
|set S n=>obtain⟨ob,es,ep,t,e,c⟩:=x;exact⟨ob,es,ep,t,k _ _ (.inl rfl) e,c⟩
|ins C dx fs =>
  obtain⟨d,z,ne,e,mA,⟨od,es,ep,e2,c⟩,r⟩:=x
  exact⟨ho _ d,z,ne,k _ _ (.inl rfl) e,mA,⟨od,es,ep,k _ _ (.inr d) e2,c⟩,r⟩
|own y=>obtain⟨ob,e⟩:=x;exact⟨ob,k _ _ (.inl rfl) e⟩
|xd fs=>obtain⟨mA,⟨od,es,ep,e,c⟩,r⟩:=x;exact⟨mA,⟨od,es,ep,k _ _ (.inl rfl) e,c⟩,r⟩
|rng lo hi=>obtain⟨t,u,v,e⟩:=x;exact⟨t,u,v,k _ _ (.inl rfl) e⟩
|frz ob u ih=>obtain⟨e,q⟩:=x;exact⟨k _ _ (.inl rfl) e,ih q⟩
|tbl ps =>
  have e:h.get? a=some { cls:=.none,data:=.fields ps }:=x
  show h'.get? a=some { cls:=.none,data:=.fields ps }
  exact k a _ (.inl rfl) e
|met f y =>
  have e:h.get? a=some (PySem.W.methodObj (.ref f) (.ref y)):=x
  show h'.get? a=some (PySem.W.methodObj (.ref f) (.ref y))
  exact k a _ (.inl rfl) e
|ext φ=>obtain⟨p,⟨o,e⟩,st⟩:=x;exact⟨st _ _ p λo q=>k _ _ (.inl rfl) q,⟨o,k _ _ (.inl rfl) e⟩,st⟩
theorem HOk.lt(x:HOk P w H h)(e:H a=some o):a<h.objs.size:=(x a o e).lt
theorem HOk.fresh(x:HOk P w H h)(e:h.objs.size<=a):H a=none:=by
 cases q:H a with
|none=>rfl
|some u=>exact absurd (Nat.lt_of_lt_of_le (x.lt q) e) (Nat.lt_irrefl _)
theorem HOk.kept(x:HOk P w H h)(k:∀b u,h.get? b=some u->h'.get? b=some u):HOk P w H h':=λa o e =>
 (x a o e).stay (λb u _ q=>k b u q) (λ_ q=>q) λ_ _ q=>q
theorem HOk.laid(x:HOk P w H h)(k:∀b u,h.get? b=some u->h'.get? b=some u)(hp:h.objs.size<=a)(new:ObjOk P w (upd H a o) h' a o):HOk P w (upd H a o) h':=λb u e=>by
 have hn:=x.fresh hp
 by_cases hb:b=a
 ·subst hb;rw[qa6] at e;cases e;exact new
 ·rw[qau hb] at e
  exact(x b u e).stay (λc v _ q=>k c v q) (λc q=>by rw[qau (qcv q hn)];exact q) λc xs q=>by rw[qau (qcv q hn)];exact q
end
def Rd(H:Hp)(a:Addr)(u:HO):Prop:=H a=some u\/∃o,H a=some (.frz o u)
theorem Rd.ok{P:Program}{w:World}{H:Hp}{h:Heap}{a:Addr}{u:HO}(r:Rd H a u)(x:HOk P w H h):ObjOk P w H h a u:=by
 rcases r with r|⟨o,r⟩
 ·exact x a u r
 ·obtain⟨_,q⟩:=x a _ r
  exact q
def Mut:Option HO->Prop
|some (.lst _)=>True
|some (.dK _)=>True
|some (.dT _)=>True
|some (.set _ _)=>True
|some (.ins _ _ _)=>True
|some (.ext _)=>True
|_=>False
section
variable {P:Program} {w:World} {H:Hp} {h h':Heap} {x e:Addr} {o':HO}
theorem HOk.write(ok:HOk P w H h)(mu:Mut (H x))(he:e=x\/H e=some (.own x))(k:∀b u,b≠e->h.get? b=some u->h'.get? b=some u)(heo:∃u,h'.get? e=some u)
  (new:ObjOk P w (upd H x o') h' x o'):HOk P w (upd H x o') h':=λb u q=>by
 have nown:∀c y,H c=some (.own y)->c≠x:=λc y r z=>by subst z;rw[r] at mu;exact mu
 have ntup:∀c xs,H c=some (.tup xs)->c≠x:=λc xs r z=>by subst z;rw[r] at mu;exact mu
 by_cases hb:b=x
 ·subst hb;rw[qa6] at q;cases q;exact new
 ·rw[qau hb] at q
  by_cases hbe:b=e
  ·have q':H b=some (.own x):=by
    rcases he with z|z
    ·exact absurd (hbe.trans z) hb
    ·rw[hbe];exact z
   rw[q] at q';cases q'
   obtain⟨v,hv⟩:=heo
   exact⟨v,by rw[hbe];exact hv⟩
  ·refine(ok b u q).stay (λc v hc r=>k c v ?_ r) (λc r=>by rw[qau (nown c b r)];exact r) λc xs r=>by rw[qau (ntup c xs r)];exact r
   rcases hc with rfl|hc
   ·exact hbe
   ·rintro rfl
    rcases he with z|z
    ·exact nown c b hc z
    ·rw[hc] at z;cases z;exact hb rfl
end
structure Un(fs ex:List Addr)(H H':Hp)(h h':Heap):Prop where
 keep:∀b o,h.get? b=some o->H b=none->b∉fs->b∉ex->h'.get? b=some o
 slot:∀b o,h.get? b=some o->H b=none->b∈fs->b∉ex->∃sl,h'.get? b=some { o with slots:=sl }
 free:∀b o,h.get? b=some o->H b=none->b∉ex->H' b=none
 there:∀b o,h.get? b=some o->b∉ex->∃o',h'.get? b=some o'
 tups:∀b xs,H b=some (.tup xs)->H' b=some (.tup xs)
 frzs:∀b o u,H b=some (.frz o u)->H' b=some (.frz o u)
 tbls:∀b ps,H b=some (.tbl ps)->∃more,H' b=some (.tbl (ps++more))
section
variable {fs fs' ex ex':List Addr} {H H1 H2:Hp} {h h1 h2 h':Heap} {a x e:Addr} {o:HO}
theorem Un.any(u:Un fs ex H H1 h h1){b:Addr}{ob:Obj}(q:h.get? b=some ob)(n:H b=none)(hx:b∉ex):∃sl,h1.get? b=some { ob with slots:=sl }:=by
 by_cases hb:b∈fs
 ·exact u.slot b ob q n hb hx
 ·exact⟨ob.slots,u.keep b ob q n hb hx⟩
theorem Un.kept(k:∀b u,h.get? b=some u->h'.get? b=some u):Un fs ex H H h h' :=
 ⟨λb ob q _ _ _=>k b ob q,λb ob q _ _ _=>⟨ob.slots,k b ob q⟩,λ_ _ _ n _=>n,λb ob q _=>⟨ob,k b ob q⟩,λ_ _ q=>q,λ_ _ _ q=>q,λ_ ps q=>⟨#[],by rw[q];simp⟩⟩
theorem Un.refl:Un fs ex H H h h:=Un.kept λ_ _ q=>q
theorem Un.laid(k:∀b u,h.get? b=some u->h'.get? b=some u)(hp:h.objs.size<=a)(hn:H a=none):Un fs ex H (upd H a o) h h' where
 keep:=λb u q _ _ _=>k b u q
 slot:=λb u q _ _ _=>⟨u.slots,k b u q⟩
 free:=λb u q n _=>by rw[qau (Nat.ne_of_lt (Nat.lt_of_lt_of_le (Heap.lt_size q) hp))];exact n
 there:=λb u q _=>⟨u,k b u q⟩
 tups:=λb xs q=>by rw[qau (qcv q hn)];exact q
 frzs:=λb u xs q=>by rw[qau (qcv q hn)];exact q
 tbls:=λb ps q=>⟨#[],by rw[qau (qcv q hn),q];simp⟩
theorem Un.write(mu:Mut (H x))(he:e=x\/H e=some (.own x))(k:∀b u,b≠e->h.get? b=some u->h'.get? b=some u)(heo:∃u,h'.get? e=some u):Un fs ex H (upd H x o) h h':=by
 have hx:∀b,H b=none->b≠x:=λb n z=>by subst z;rw[n] at mu;exact mu
 have hb:∀b,H b=none->b≠e:=λb n z=>by
  subst z
  rcases he with r|r
  ·exact hx b n r
  ·rw[n] at r;cases r
 have hm:∀b u,H b=some u->¬ Mut (some u)->b≠x:=λb u q nm z=>by subst z;rw[q] at mu;exact nm mu
 refine⟨λb u q n _ _=>k b u (hb b n) q,λb u q n _ _=>⟨u.slots,k b u (hb b n) q⟩,λb u q n _=>by rw[qau (hx b n)];exact n,λb u q _=>?_,
  λb xs q=>by rw[qau (hm b _ q λz=>z)];exact q,λb u xs q=>by rw[qau (hm b _ q λz=>z)];exact q,λb ps q=>⟨#[],by rw[qau (hm b _ q λz=>z),q];simp⟩⟩
 by_cases hbe:b=e
 ·subst hbe;exact heo
 ·exact⟨u,k b u hbe q⟩
theorem Un.mono(u:Un fs ex H H1 h h1)(hs:∀b∈fs,b∈fs')(hx:∀b∈ex,b∈ex'):Un fs' ex' H H1 h h1 :=
 ⟨λb ob q n hb he=>u.keep b ob q n (λz=>hb (hs b z)) λz=>he (hx b z),λ_ _ q n _ he=>u.any q n λz=>he (hx _ z),λb ob q n he=>u.free b ob q n λz=>he (hx b z),λb ob q he=>u.there b ob q λz=>he (hx b z),u.tups,u.frzs,u.tbls⟩
end
def trk(h:Heap)(H:Hp):List Addr:=(List.range h.objs.size).filter λa=>(H a).isSome
def hidT(h:Heap)(H:Hp):Heap:=PySem.W.hideAll h (trk h H)
theorem qt2(h:Heap)(H:Hp):(hidT h H).objs.size=h.objs.size:=PySem.W.hideAll_size _ _
theorem qxc{h:Heap}{H:Hp}{b:Addr}{o:Obj}(e:h.get? b=some o)(n:H b=none):(hidT h H).get? b=some o :=
 PySem.W.hideAll_get _ e λhm=>by
  have q:(H b).isSome=true:=(List.mem_filter.mp hm).2
  rw[n] at q;simp at q
theorem q10{h:Heap}{H:Hp}{b:Addr}{o:Obj}(e:(hidT h H).get? b=some o):h.get? b=some o/\H b=none:=by
 have e':h.get? b=some o:=PySem.W.of_hideAll (trk h H) e
 refine⟨e',?_⟩
 cases q:H b with
|none=>rfl
|some x =>
  have hm:b∈trk h H:=List.mem_filter.mpr ⟨List.mem_range.mpr (Heap.lt_size e'),by simp[q]⟩
  have z:(hidT h H).get? b=none:=PySem.W.hideAll_none (trk h H) hm
  rw[z] at e;cases e
def q01(g h:Heap)(L:Addr):List (Addr×Obj):=(List.range h.objs.size).filterMap λa=>if a=L\/(g.get? a).isSome=true then none else (h.get? a).map λo=>(a,o)
def rest(g h:Heap)(L d:Addr):List (Addr×Obj):=(q01 g h L).filter λp=>decide (p.1≠d)
end L2
namespace L2
open PySem PySem.Spec PyProof.Rows
structure Mod(K:PySem.W.Frag)(mg:Str->Option Value)(base:Heap):Prop where
 kin:K.In base
 glob:base.Ns mainGlobals mg
 blt:∃mb,base.Ns builtinsNs mb/\∀x:Str,x≠"__name__" -> mb x=bootBuiltins x
 nolimit:base.NoLimit
structure Cx where
 prog:Program
 w:World
 K:PySem.W.Frag
 mg:Str->Option Value
 base:Heap
 A:Around
 N:List Str
 s₀:Shared
 H₀:Hp
 env:Env
 outer:List Env
 stack:List Env
 ex:List Addr
 fn:Str->Bool
 calm:Bool
 pn:List (Addr×Obj)
 xe:Value->Shared->Prop
def frs(l:List Env):List Addr:=l.filterMap (·.frame)
abbrev Cx.fs(X:Cx):List Addr:=frs X.outer
def Vis(sc:Scope)(x:Str):Prop:=sc.names.lookup x=some .local\/sc.names.lookup x=some .cell\/sc.names.lookup x=some .free
def Loc(sc:Scope)(x:Str):Prop:=sc.names.lookup x=some .local\/sc.names.lookup x=some .cell
def Look(env:Env)(h:Heap)(m:Str->Option Value)(x:Str)(u:Value):Prop :=
 (env.kindOf x=some .local/\m x=some u)\/((env.kindOf x=some .cell\/env.kindOf x=some .free)/\∃c,env.cells.lookup x=some c/\h.IsCell c (some u))
structure Cx.Ok(X:Cx):Prop where
 mod:Mod X.K X.mg X.base
 kind:X.env.scope.kind=.function
 glob:X.env.globals=mainGlobals
 blt:X.env.builtins=builtinsNs
 above:X.s₀.heap.objs.size<=X.env.locals
 inj:∀x y c,X.env.cells.lookup x=some c->X.env.cells.lookup y=some c->x=y
 has:∀x,(X.env.kindOf x=some .cell\/X.env.kindOf x=some .free)->∃c,X.env.cells.lookup x=some c
 cab:∀x c,X.fn x=true->X.env.cells.lookup x=some c->X.s₀.heap.objs.size<=c
 hd:X.calm=true->X.A.handled=none
 frames:X.A.frames=some X.stack
 stk:X.stack=X.outer\/(X.stack=X.env::X.outer/\X.env.frame=some X.env.locals)
 exf:∀b∈X.ex,b≠X.env.locals/\∀x c,X.env.cells.lookup x=some c->c≠b
 bs:∀b o,X.base.get? b=some o->X.s₀.heap.get? b=some o/\X.H₀ b=none
 bsz:X.base.objs.size<=X.s₀.heap.objs.size
 noex:∀b o,X.base.get? b=some o->b∉X.ex
 exfs:∀b∈X.ex,b∉X.fs
 funs:X.s₀.heap.FunFrames X.base X.outer
 frf:∀b∈X.fs,X.H₀ b=none
structure Inv(X:Cx)(pins:List (Addr×Obj))(σ:List (Option V))(H:Hp)(s:Shared):Prop where
 ok:X.Ok
 os:s.os=X.s₀.os
 bare:AllBare s.gens
 base:Un X.fs X.ex X.H₀ H X.s₀.heap s.heap
 loc:∃m,s.heap.Ns X.env.locals m/\∀(i:Nat) (x:Str) (v:V),X.N[i]?=some x->σ[i]?=some (some v)->Vis X.env.scope x->∃u,RelV v u/\Look X.env s.heap m x u
 cell:∀x c,X.env.cells.lookup x=some c->∃v,s.heap.IsCell c v
 free:H X.env.locals=none
 freeC:∀x c,X.env.cells.lookup x=some c->H c=none
 pin:∀p∈X.pn++pins,s.heap.get? p.1=some p.2/\H p.1=none/\p.1≠X.env.locals/\p.1∉X.fs/\∀v,p.2.data≠.cell v
 hok:HOk X.prog X.w H s.heap
 len:σ.length=X.N.length
section
variable {X:Cx} {pins:List (Addr×Obj)} {σ:List (Option V)} {H H':Hp} {s:Shared} {h':Heap}
theorem Cx.Ok.nofr(ok:X.Ok){b:Addr}{o:Obj}(e:X.base.get? b=some o):b∉X.fs:=λhb=>by
 have:=(ok.funs.mem hb).1
 rw[e] at this;cases this
theorem Inv.bs(I:Inv X pins σ H s):∀b o,X.base.get? b=some o->s.heap.get? b=some o/\H b=none:=λb o e =>
 ⟨I.base.keep b o (I.ok.bs b o e).1 (I.ok.bs b o e).2 (I.ok.nofr e) (I.ok.noex b o e),I.base.free b o (I.ok.bs b o e).1 (I.ok.bs b o e).2 (I.ok.noex b o e)⟩
theorem Inv.bk(I:Inv X pins σ H s):∀b o,X.base.get? b=some o->s.heap.get? b=some o:=λb o e=>(I.bs b o e).1
theorem Inv.mod(I:Inv X pins σ H s):Mod X.K X.mg X.base:=I.ok.mod
theorem Inv.kIn(I:Inv X pins σ H s):X.K.In s.heap:=I.ok.mod.kin.keeps I.bk
theorem Inv.lt(I:Inv X pins σ H s):X.env.locals<s.heap.objs.size:=let ⟨_,hn,_⟩:=I.loc;hn.lt
theorem Inv.sz(I:Inv X pins σ H s):X.s₀.heap.objs.size<=s.heap.objs.size:=Nat.le_trans I.ok.above (Nat.le_of_lt I.lt)
theorem Inv.nofs(I:Inv X pins σ H s){a:Addr}(h:s.heap.objs.size<=a):a∉X.fs:=λhb=>by
 obtain⟨_,o,ho,_⟩:=I.ok.funs.mem hb
 exact absurd (Nat.lt_of_lt_of_le (Heap.lt_size ho) (Nat.le_trans I.sz h)) (Nat.lt_irrefl _)
theorem Inv.cne(I:Inv X pins σ H s):∀x c,X.env.cells.lookup x=some c->c≠X.env.locals:=λx c e z=>by
 obtain⟨v,o,ho,hd⟩:=I.cell x c e
 obtain⟨m,⟨o',es,ep,ho',hd',_⟩,_⟩:=I.loc
 rw[z,ho'] at ho;cases ho;rw[hd'] at hd;cases hd
theorem Inv.funs(I:Inv X pins σ H s):s.heap.FunFrames X.base X.outer:=by
 have all:∀(l:List Env),(∀b∈frs l,b∈X.fs)->X.s₀.heap.FunFrames X.base l->s.heap.FunFrames X.base l:=by
  intro l
  induction l with
 |nil=>intro _ _;trivial
 |cons env r ih =>
   intro hs hl
   obtain⟨hk,⟨L,o,hf,hn,ho,hd⟩,hr⟩:=hl
   have hL:L∈X.fs:=hs L (by unfold frs;rw[List.filterMap_cons,hf];exact List.mem_cons_self)
   obtain⟨sl,e⟩:=I.base.slot L o ho (I.ok.frf L hL) hL λz=>I.ok.exfs L z hL
   exact⟨hk,⟨L,_,hf,hn,e,hd⟩,ih (λb hb=>hs b (by unfold frs;rw[List.filterMap_cons,hf];exact List.mem_cons_of_mem _ hb)) hr⟩
 exact all X.outer (λ_ hb=>hb) I.ok.funs
theorem Inv.stack(I:Inv X pins σ H s):s.heap.FunFrames X.base X.stack:=by
 rcases I.ok.stk with e|⟨e,hf⟩
 ·rw[e];exact I.funs
 ·rw[e]
  obtain⟨m,hn,_⟩:=I.loc
  refine .cons (by rw[I.ok.kind];decide) hf hn ?_ I.funs
  exact Heap.get?_none_of_le (Nat.le_trans I.ok.bsz I.ok.above)
theorem Inv.stkSub(I:Inv X pins σ H s):∀b∈frs X.stack,b∈X.env.locals::X.fs:=λb hb=>by
 rcases I.ok.stk with e|⟨e,hf⟩
 ·rw[e] at hb;exact List.mem_cons_of_mem _ hb
 ·rw[e] at hb
  unfold frs at hb
  rw[List.filterMap_cons,hf] at hb
  exact hb
theorem Inv.stkFree(I:Inv X pins σ H s):∀b∈frs X.stack,H b=none:=λb hb=>by
 rcases List.mem_cons.mp (I.stkSub b hb) with e|hb
 ·rw[e];exact I.free
 ·obtain⟨_,o,ho,_⟩:=I.ok.funs.mem hb
  exact I.base.free b o ho (I.ok.frf b hb) λz=>I.ok.exfs b z hb
theorem Inv.step{g':Array GenState}{t':Nat}{d':Drawn}{ch:List Addr}(I:Inv X pins σ H s)
  (hch:∀b∈ch,(b∈X.ex\/X.s₀.heap.objs.size<=b)/\b≠X.env.locals/\(∀x c,X.env.cells.lookup x=some c->c≠b)/\∀p∈X.pn++pins,p.1≠b)
  (keep:∀b o,b≠X.env.locals->b∉X.fs->b∉ch->s.heap.get? b=some o->H b=none->h'.get? b=some o)
  (slot:∀b o,b≠X.env.locals->b∈X.fs->b∉ch->s.heap.get? b=some o->H b=none->∃sl,h'.get? b=some { o with slots:=sl }) (free:∀b o,b∉ch->s.heap.get? b=some o->H b=none->H' b=none)
  (there:∀b o,b∉ch->s.heap.get? b=some o->∃o',h'.get? b=some o')
  (tups:∀b xs,H b=some (.tup xs)->H' b=some (.tup xs)) (frzs:∀b o u,H b=some (.frz o u)->H' b=some (.frz o u)) (tbls:∀b ps,H b=some (.tbl ps)->∃more,H' b=some (.tbl (ps++more)))
  (ns:∀m,s.heap.Ns X.env.locals m->h'.Ns X.env.locals m) (hok:HOk X.prog X.w H' h') (hg:AllBare g') :
  Inv X pins σ H' { s with heap:=h',gens:=g',drawn:=d',toks:=t' }:=by
 have neL:∀b o,X.s₀.heap.get? b=some o->b≠X.env.locals:=λb o e=>Nat.ne_of_lt (Nat.lt_of_lt_of_le (Heap.lt_size e) I.ok.above)
 have neC:∀b o,X.s₀.heap.get? b=some o->b∉X.ex->b∉ch:=λb o e hx hb=>by
  rcases (hch b hb).1 with z|z
  ·exact hx z
  ·exact absurd (Nat.lt_of_lt_of_le (Heap.lt_size e) z) (Nat.lt_irrefl _)
 have cellK:∀x c,X.env.cells.lookup x=some c->∀v,s.heap.IsCell c v->h'.IsCell c v:=λx c e v ⟨o,ho,hd⟩=>by
  have nch:c∉ch:=λz=>(hch c z).2.2.1 x c e rfl
  by_cases hc:c∈X.fs
  ·obtain⟨sl,q⟩:=slot c o (I.cne x c e) hc nch ho (I.freeC x c e)
   exact⟨_,q,hd⟩
  ·exact⟨o,keep c o (I.cne x c e) hc nch ho (I.freeC x c e),hd⟩
 refine⟨I.ok,I.os,hg,⟨λb o e n hb hx=>?_,λb o e n hb hx=>?_,λb o e n hx=>?_,λb o e hx=>?_,λb xs e=>tups b xs (I.base.tups b xs e),λb o xs e=>frzs b o xs (I.base.frzs b o xs e),λb ps e=>?_⟩,?_,λx c e=>?_,?_,λx c e=>?_,λp hp=>?_,hok,I.len⟩
 ·exact keep b o (neL b o e) hb (neC b o e hx) (I.base.keep b o e n hb hx) (I.base.free b o e n hx)
 ·obtain⟨sl,e1⟩:=I.base.slot b o e n hb hx
  obtain⟨sl',e2⟩:=slot b _ (neL b o e) hb (neC b o e hx) e1 (I.base.free b o e n hx)
  exact⟨sl',e2⟩
 ·obtain⟨o',e1⟩:=I.base.there b o e hx
  exact free b o' (neC b o e hx) e1 (I.base.free b o e n hx)
 ·obtain⟨o',e1⟩:=I.base.there b o e hx
  exact there b o' (neC b o e hx) e1
 ·obtain⟨m1,e1⟩:=I.base.tbls b ps e
  obtain⟨m2,e2⟩:=tbls b _ e1
  exact⟨m1++m2,by rw[e2,Array.append_assoc]⟩
 ·obtain⟨m,hn,hl⟩:=I.loc
  refine⟨m,ns m hn,λi x v e1 e2 e3=>?_⟩
  obtain⟨u,r,l⟩:=hl i x v e1 e2 e3
  refine⟨u,r,?_⟩
  rcases l with l|⟨k,c,e,z⟩
  ·exact .inl l
  ·exact .inr ⟨k,c,e,cellK x c e _ z⟩
 ·obtain⟨v,z⟩:=I.cell x c e
  exact⟨v,cellK x c e v z⟩
 ·obtain⟨m,⟨o,_,_,ho,_⟩,_⟩:=I.loc
  exact free _ o (λz=>(hch _ z).2.1 rfl) ho I.free
 ·obtain⟨v,o,ho,hd⟩:=I.cell x c e
  exact free c o (λz=>(hch c z).2.2.1 x c e rfl) ho (I.freeC x c e)
 ·obtain⟨e,n,ne,nf,d⟩:=I.pin p hp
  have nch:p.1∉ch:=λz=>(hch p.1 z).2.2.2 p hp rfl
  exact⟨keep p.1 p.2 ne nf nch e n,free p.1 p.2 nch e n,ne,nf,d⟩
theorem Inv.un{t':Nat}(I:Inv X pins σ H s)(u:Un X.fs [] H H' s.heap h')(hok:HOk X.prog X.w H' h'):Inv X pins σ H' { s with heap:=h',toks:=t' }:=by
 obtain⟨m,⟨o,es,ep,ho,r⟩,_⟩:=id I.loc
 obtain⟨sl,hL⟩:=u.any ho I.free (by simp)
 exact I.step (g':=s.gens) (d':=s.drawn) (ch:=[]) (λ_ z=>nomatch z) (λb o _ hb _ e n=>u.keep b o e n hb (by simp)) (λb o _ hb _ e n=>u.slot b o e n hb (by simp)) (λb o _ e n=>u.free b o e n (by simp)) (λb o _ e=>u.there b o e (by simp)) u.tups u.frzs u.tbls (λm' hm=>by
  obtain⟨o',es',ep',ho',r'⟩:=hm
  rw[ho] at ho';cases ho'
  exact⟨_,es',ep',hL,r'⟩) hok I.bare
theorem Inv.call{g':Array GenState}{t':Nat}{d':Drawn}{ch:List Addr}(I:Inv X pins σ H s)(u:Un (frs X.stack) ch H H' s.heap h')(hok:HOk X.prog X.w H' h')(hg:AllBare g')
  (hch:∀b∈ch,(b∈X.ex\/X.s₀.heap.objs.size<=b)/\b≠X.env.locals/\(∀x c,X.env.cells.lookup x=some c->c≠b)/\∀p∈X.pn++pins,p.1≠b) :
  Inv X pins σ H' { s with heap:=h',gens:=g',drawn:=d',toks:=t' }:=by
 obtain⟨m,⟨o,es,ep,ho,r⟩,_⟩:=id I.loc
 obtain⟨sl,hL⟩:=u.any ho I.free λz=>(hch _ z).2.1 rfl
 exact I.step (ch:=ch) hch (λb o hL hb hc e n=>u.keep b o e n (λz=>(List.mem_cons.mp (I.stkSub b z)).elim hL hb) hc) (λb o _ _ hc e n=>u.any e n hc) (λb o hc e n=>u.free b o e n hc) (λb o hc e=>u.there b o e hc) u.tups u.frzs u.tbls (λm' hm=>by
  obtain⟨o',es',ep',ho',r'⟩:=hm
  rw[ho] at ho';cases ho'
  exact⟨_,es',ep',hL,r'⟩) hok hg
theorem Inv.turned{t':Nat}{it:Addr}(I:Inv X pins σ H s)(k:∀b o,b≠it->s.heap.get? b=some o->h'.get? b=some o)(hn:H it=none)(hL:it≠X.env.locals)
  (h1:it∈X.ex\/X.s₀.heap.objs.size<=it) (h2:∀x c,X.env.cells.lookup x=some c->c≠it) (h3:∀p∈X.pn++pins,p.1≠it):Inv X pins σ H { s with heap:=h',toks:=t' }:=by
 have nit:∀b u,H b=some u->b≠it:=λb u e z=>by rw[z,hn] at e;cases e
 refine I.step (g':=s.gens) (d':=s.drawn) (ch:=[it]) (λb hb=>?_) (λb o _ _ hc e _=>k b o (λz=>hc (by simp[z])) e) (λb o _ _ hc e _=>⟨o.slots,k b o (λz=>hc (by simp[z])) e⟩) (λ_ _ _ _ n=>n)
  (λb o hc e=>⟨o,k b o (λz=>hc (by simp[z])) e⟩) (λ_ _ e=>e) (λ_ _ _ e=>e) (λb ps e=>⟨#[],by rw[e];simp⟩) (λm hm=>?_) (λb u e=>?_) I.bare
 ·have e:b=it:=by simpa using hb
  subst e
  exact⟨h1,hL,h2,h3⟩
 ·obtain⟨o,es,ep,ho,r⟩:=hm
  exact⟨o,es,ep,k _ o (Ne.symm hL) ho,r⟩
 ·refine(I.hok b u e).stay (λc v hc q=>k c v ?_ q) (λ_ q=>q) λ_ _ q=>q
  rcases hc with z|z
  ·rw[z];exact nit b u e
  ·exact nit c _ z
theorem Inv.tok(I:Inv X pins σ H s)(t:Nat):Inv X pins σ H { s with toks:=t }:=I.un (h':=s.heap) (t':=t) Un.refl I.hok
theorem Inv.kept{t':Nat}(I:Inv X pins σ H s)(k:∀b u,s.heap.get? b=some u->h'.get? b=some u):Inv X pins σ H { s with heap:=h',toks:=t' }:=I.un (Un.kept k) (I.hok.kept k)
theorem Inv.laid{a:Addr}{o:HO}{t':Nat}(I:Inv X pins σ H s)(k:∀b u,s.heap.get? b=some u->h'.get? b=some u)(hp:s.heap.objs.size<=a)(new:ObjOk X.prog X.w (upd H a o) h' a o) :
  Inv X pins σ (upd H a o) { s with heap:=h',toks:=t' }:=I.un (Un.laid k hp (I.hok.fresh hp)) (I.hok.laid k hp new)
theorem Inv.write{x e:Addr}{o:HO}{t':Nat}(I:Inv X pins σ H s)(mu:Mut (H x))(he:e=x\/H e=some (.own x))(k:∀b u,b≠e->s.heap.get? b=some u->h'.get? b=some u)(heo:∃u,h'.get? e=some u)
  (new:ObjOk X.prog X.w (upd H x o) h' x o):Inv X pins σ (upd H x o) { s with heap:=h',toks:=t' }:=I.un (Un.write mu he k heo) (I.hok.write mu he k heo new)
theorem Inv.pins_of{pins':List (Addr×Obj)}(I:Inv X pins σ H s)(h:∀p∈pins',s.heap.get? p.1=some p.2/\H p.1=none/\p.1≠X.env.locals/\p.1∉X.fs/\∀v,p.2.data≠.cell v):Inv X pins' σ H s :=
 ⟨I.ok,I.os,I.bare,I.base,I.loc,I.cell,I.free,I.freeC,λp hp=>(List.mem_append.mp hp).elim (λz=>I.pin p (List.mem_append_left _ z)) (h p),I.hok,I.len⟩
theorem qp4{N:List Str}(hN:N.Nodup){i j:Nat}{x:Str}(a:N[i]?=some x)(b:N[j]?=some x):i=j:=by
 obtain⟨h1,e1⟩:=List.getElem?_eq_some_iff.mp a
 obtain⟨h2,e2⟩:=List.getElem?_eq_some_iff.mp b
 exact(List.getElem_inj hN).mp (e1.trans e2.symm)
theorem qvt{M:Model}{A:Around}{E:Value->Shared->Prop}{i:Nat}{x:Str}{v:V}{u:Value}{Q:Unit->Shared->Prop}(I:Inv X pins σ H s)(hN:X.N.Nodup)(hi:X.N[i]?=some x)(hx:Loc X.env.scope x)(r:RelV v u)
  (h:∀s',Inv X pins (σ.set i (some v)) H s'->(∃a,Heap.SameBut a s.heap s'.heap/\(a=X.env.locals\/X.env.cells.lookup x=some a))->Q () s') (hf:X.fn x=true\/X.env.scope.names.lookup x=some .local:=by first|exact .inl rfl|exact .inr rfl|assumption):wpAny M A (storeName X.env x u) Q E s:=by
 obtain⟨m,hn,hl⟩:=id I.loc
 have hcls:(X.env.scope.kind==.class||(X.env.scope.kind==.module&&X.env.locals != X.env.globals))=false:=by rw[I.ok.kind];rfl
 have hiσ:i<σ.length:=by rw[I.len];exact(List.getElem?_eq_some_iff.mp hi).1
 have cne:=I.cne
 have tracked:∀ {a:Addr} {h':Heap},(∃o,s.heap.get? a=some o/\H a=none)->Heap.SameBut a s.heap h'->HOk X.prog X.w H h':=λ{a h'} ha hs b ob e=>by
  obtain⟨_,_,hfree⟩:=ha
  refine(I.hok b ob e).stay (λc w' hc q=>(hs.2 c ?_).trans q) (λ_ q=>q) λ_ _ q=>q
  rintro rfl
  rcases hc with rfl|hc
  ·rw[hfree] at e;cases e
  ·rw[hfree] at hc;cases hc
 rcases hx with hk|hk
 ·refine wpAny_storeName_local hk hn (λh' hn' hs=>?_) hcls
  obtain⟨oL,_,_,hoL,_⟩:=id hn
  refine h _ ⟨I.ok,I.os,I.bare,⟨λb o e n hb hx=>?_,λb o e n hb hx=>?_,I.base.free,λb o e hx=>?_,I.base.tups,I.base.frzs,I.base.tbls⟩,⟨_,hn',λj y v' e1 e2 e3=>?_⟩,λy c e=>?_,I.free,I.freeC,λp hp=>?_,tracked ⟨oL,hoL,I.free⟩ hs,by simpa using I.len⟩ ⟨_,hs,.inl rfl⟩
  ·exact(hs.2 b (Nat.ne_of_lt (Nat.lt_of_lt_of_le (Heap.lt_size e) I.ok.above))).trans (I.base.keep b o e n hb hx)
  ·obtain⟨sl,e1⟩:=I.base.slot b o e n hb hx
   exact⟨sl,(hs.2 b (Nat.ne_of_lt (Nat.lt_of_lt_of_le (Heap.lt_size e) I.ok.above))).trans e1⟩
  ·obtain⟨o',e1⟩:=I.base.there b o e hx
   exact⟨o',(hs.2 b (Nat.ne_of_lt (Nat.lt_of_lt_of_le (Heap.lt_size e) I.ok.above))).trans e1⟩
  ·by_cases hj:j=i
   ·subst hj
    rw[hi] at e1;cases e1
    rw[List.getElem?_set_self hiσ] at e2
    cases e2
    exact⟨u,r,.inl ⟨hk,by simp⟩⟩
   ·rw[List.getElem?_set_ne (Ne.symm hj)] at e2
    obtain⟨u',r',q⟩:=hl j y v' e1 e2 e3
    refine⟨u',r',?_⟩
    rcases q with ⟨k,e⟩|⟨k,c,e,z⟩
    ·refine .inl ⟨k,?_⟩
     have:y≠x:=λe=>hj (qp4 hN e1 (e▸hi))
     simp[this,e]
    ·exact .inr ⟨k,c,e,z.sameBut hs (cne y c e)⟩
  ·obtain⟨w',z⟩:=I.cell y c e
   exact⟨w',z.sameBut hs (cne y c e)⟩
  ·obtain⟨e,n,ne,nf,d⟩:=I.pin p hp
   exact⟨(hs.2 p.1 ne).trans e,n,ne,nf,d⟩
 ·have hfn:X.fn x=true:=by
   rcases hf with z|z
   ·exact z
   ·rw[z] at hk;cases hk
  obtain⟨c,hc⟩:=I.ok.has x (.inl hk)
  obtain⟨w',z⟩:=I.cell x c hc
  refine wpAny_storeName_cell I.ok.kind hk hc z (λh' hc' hs=>?_)
  obtain⟨oc,hoc,hocd⟩:=id z
  refine h { s with heap:=h' } ⟨I.ok,I.os,I.bare,⟨λb o e n hb hx=>?_,λb o e n hb hx=>?_,I.base.free,λb o e hx=>?_,I.base.tups,I.base.frzs,I.base.tbls⟩,⟨m,hn.sameBut hs (Ne.symm (cne x c hc)),λj y v' e1 e2 e3=>?_⟩,λy c' e=>?_,I.free,I.freeC,λp hp=>?_,tracked ⟨oc,hoc,I.freeC x c hc⟩ hs,by simpa using I.len⟩ ⟨c,hs,.inr hc⟩
  ·exact(hs.2 b (Nat.ne_of_lt (Nat.lt_of_lt_of_le (Heap.lt_size e) (I.ok.cab x c hfn hc)))).trans (I.base.keep b o e n hb hx)
  ·obtain⟨sl,e1⟩:=I.base.slot b o e n hb hx
   exact⟨sl,(hs.2 b (Nat.ne_of_lt (Nat.lt_of_lt_of_le (Heap.lt_size e) (I.ok.cab x c hfn hc)))).trans e1⟩
  ·obtain⟨o',e1⟩:=I.base.there b o e hx
   exact⟨o',(hs.2 b (Nat.ne_of_lt (Nat.lt_of_lt_of_le (Heap.lt_size e) (I.ok.cab x c hfn hc)))).trans e1⟩
  ·by_cases hj:j=i
   ·subst hj
    rw[hi] at e1;cases e1
    rw[List.getElem?_set_self hiσ] at e2
    cases e2
    exact⟨u,r,.inr ⟨.inl hk,c,hc,hc'⟩⟩
   ·rw[List.getElem?_set_ne (Ne.symm hj)] at e2
    obtain⟨u',r',q⟩:=hl j y v' e1 e2 e3
    refine⟨u',r',?_⟩
    rcases q with q|⟨k,c',e,z'⟩
    ·exact .inl q
    ·refine .inr ⟨k,c',e,z'.sameBut hs ?_⟩
     rintro rfl
     exact hj (qp4 hN e1 (I.ok.inj _ _ _ e hc▸hi))
  ·by_cases hcc:c'=c
   ·subst hcc;exact⟨_,hc'⟩
   ·obtain⟨w2,z2⟩:=I.cell y c' e
    exact⟨w2,z2.sameBut hs hcc⟩
  ·obtain⟨e,n,ne,nf,d⟩:=I.pin p hp
   refine⟨(hs.2 p.1 ?_).trans e,n,ne,nf,d⟩
   intro q
   rw[q,hoc] at e
   have q':oc=p.2:=Option.some.inj e
   exact d w' (by rw[←q'];exact hocd)
theorem qkz{M:Model}{A:Around}{E:Value->Shared->Prop}{i:Nat}{x:Str}{v:V}{u:Value}{Q:Unit->Shared->Prop}(I:Inv X pins σ H s)(hN:X.N.Nodup)(hi:X.N[i]?=some x)(hx:Loc X.env.scope x)(r:RelV v u)
  (h:∀s',Inv X pins (σ.set i (some v)) H s'->Q () s') (hf:X.fn x=true\/X.env.scope.names.lookup x=some .local:=by first|exact .inl rfl|exact .inr rfl|assumption):wpAny M A (storeName X.env x u) Q E s :=
 qvt I hN hi hx r (λs' I' _=>h s' I') hf
theorem Inv.call'{s':Shared}{ch:List Addr}(I:Inv X pins σ H s)(ho:s'.os=s.os)(u:Un (frs X.stack) ch H H' s.heap s'.heap)(hok:HOk X.prog X.w H' s'.heap)(hg:AllBare s'.gens)
  (hch:∀b∈ch,(b∈X.ex\/X.s₀.heap.objs.size<=b)/\b≠X.env.locals/\(∀x c,X.env.cells.lookup x=some c->c≠b)/\∀p∈X.pn++pins,p.1≠b):Inv X pins σ H' s':=by
 obtain⟨h',g',d',t',o'⟩:=s'
 have e:o'=s.os:=ho
 subst e
 exact I.call (g':=g') (t':=t') (d':=d') u hok hg hch
end
abbrev XK:=Value->Option Addr->Hp->Prop
abbrev St:=List (Option V)
abbrev VK:=V->Hp->Prop
abbrev TE:=St->Hp->VK->Prop
abbrev TT:=St->Hp->(Bool->Hp->Prop)->Prop
abbrev TA:=St->Hp->(List V->Hp->Prop)->Prop
structure Ends where
 nx:St->Hp->Prop
 rt:VK
 bk:St->Hp->Prop:=λ_ _=>False
 ct:St->Hp->Prop:=λ_ _=>False
abbrev TS:=Ends->St->Hp->Prop
def EP(X:Cx)(pins:List (Addr×Obj))(σ:St)(Q:VK)(u:Value)(s':Shared):Prop:=∃v H',Inv X pins σ H' s'/\RelV v u/\Q v H'
def TP(X:Cx)(pins:List (Addr×Obj))(σ:St)(Q:Bool->Hp->Prop)(b:Bool)(s':Shared):Prop:=∃H',Inv X pins σ H' s'/\Q b H'
def AP(X:Cx)(pins:List (Addr×Obj))(σ:St)(Q:List V->Hp->Prop)(us:List Value)(s':Shared):Prop:=∃vs H',Inv X pins σ H' s'/\Vals vs us/\Q vs H'
def SP(X:Cx)(pins:List (Addr×Obj))(D:Ends)(f:Flow)(s':Shared):Prop :=
 match f with
|.next=>∃σ' H',Inv X pins σ' H' s'/\D.nx σ' H'
|.brk=>∃σ' H',Inv X pins σ' H' s'/\D.bk σ' H'
|.cont=>∃σ' H',Inv X pins σ' H' s'/\D.ct σ' H'
|.ret u=>∃v σ' H',Inv X pins σ' H' s'/\RelV v u/\D.rt v H'
def PE(X:Cx)(e:Expr)(t:TE):Prop :=
 ∀(pins:List (Addr×Obj)) (s:Shared) (σ:St) (H:Hp) (Q:VK),Inv X pins σ H s->t σ H Q->wpAny (model X.prog X.w) X.A (eval e X.env) (EP X pins σ Q) X.xe s
def PT(X:Cx)(e:Expr)(t:TT):Prop :=
 ∀(pins:List (Addr×Obj)) (s:Shared) (σ:St) (H:Hp) (Q:Bool->Hp->Prop),Inv X pins σ H s->t σ H Q->wpAny (model X.prog X.w) X.A (isTrue e X.env (eval e X.env)) (TP X pins σ Q) X.xe s
def PW(X:Cx)(e:Expr)(t:TT):Prop :=
 ∀(whole:Sem Value) (pins:List (Addr×Obj)) (s:Shared) (σ:St) (H:Hp) (Q:Bool->Hp->Prop),Inv X pins σ H s->t σ H Q->wpAny (model X.prog X.w) X.A (isTrue e X.env whole) (TP X pins σ Q) X.xe s
theorem PW.pt{X:Cx}{e:Expr}{t:TT}(h:PW X e t):PT X e t:=h _
def PA(X:Cx)(es:List Expr)(t:TA):Prop :=
 ∀(pos:Pos) (pins:List (Addr×Obj)) (s:Shared) (σ:St) (H:Hp) (Q:List V->Hp->Prop),Inv X pins σ H s->t σ H Q->wpAny (model X.prog X.w) X.A (spliced (backTo pos (starEach es X.env))) (AP X pins σ Q) X.xe s
def PS(X:Cx)(st:Stmt)(t:TS):Prop :=
 ∀(pins:List (Addr×Obj)) (s:Shared) (σ:St) (H:Hp) (D:Ends),Inv X pins σ H s->t D σ H->wpAny (model X.prog X.w) X.A (exec st X.env) (SP X pins D) X.xe s
def PSs(X:Cx)(st:List Stmt)(t:TS):Prop :=
 ∀(pins:List (Addr×Obj)) (s:Shared) (σ:St) (H:Hp) (D:Ends),Inv X pins σ H s->t D σ H->wpAny (model X.prog X.w) X.A (execs st X.env) (SP X pins D) X.xe s
theorem thn{α:Type}{t:Sem α}{Q Q':α->Shared->Prop}{M:Model}{A:Around}{E:Value->Shared->Prop}{s:Shared}(h:wpAny M A t Q E s)(hQ:∀a s,Q a s->Q' a s):wpAny M A t Q' E s:=wpAny_mono h hQ λ_ _ x=>x
end L2
namespace L2
open PySem PySem.Spec PyProof.Rows
section
variable {X:Cx}
def tVar(i:Nat):TE:=λσ H Q=>∃v,σ[i]?=some (some v)/\Q v H
def tC(v:V):TE:=λ_ H Q=>Q v H
theorem qz9{i:Nat}{x:Str}{pos:Pos}(hN:X.N[i]?=some x)(hv:Vis X.env.scope x)(hd:(x==("__debug__" : Str))=false:=by decide)(hcd:(x==("__classdict__" : Str))=false:=by decide):PE X (.Name x pos) (tVar i):=by
 intro pins s σ H Q I h
 obtain⟨v,e,h⟩:=h
 obtain⟨m,hn,hl⟩:=I.loc
 obtain⟨u,r,l⟩:=hl i x v hN e hv
 have fin:EP X pins σ Q u s:=⟨v,H,I,r,h⟩
 rcases l with ⟨hk,hm⟩|⟨hk,c,hc,hcell⟩
 ·exact wpAny_Name (wpAny_loadName_local I.ok.kind hk hn hm fin) hd
 ·rcases hk with hk|hk
  ·exact wpAny_Name (wpAny_loadName_cell I.ok.kind hk hc hcell fin) hd
  ·exact wpAny_Name (wpAny_loadName_free I.ok.kind hk hc hcell fin hcd) hd
theorem q5y{i j pos}:PE X (.Constant (.int i) j pos) (tC (.int i)):=λ_ _ _ H _ I h=>wpAny_Constant_int ⟨.int i,H,I.tok _,⟨_,rfl⟩,h⟩
theorem q8l{b j pos}:PE X (.Constant (.bool b) j pos) (tC (.bl b)):=λ_ _ _ H _ I h=>Constant_bool ⟨.bl b,H,I,rfl,h⟩
theorem q51{j pos}:PE X (.Constant .none j pos) (tC .non):=λ_ _ _ H _ I h=>Constant_none ⟨.non,H,I,rfl,h⟩
theorem q54{x j pos}:PE X (.Constant (.str x) j pos) (tC (.str x)):=λ_ _ _ H _ I h=>Calls.Constant_str ⟨.str x,H,I.tok _,⟨_,rfl⟩,h⟩
def Gl(X:Cx)(x:Str):Prop:=X.env.kindOf x=some .globalImplicit
theorem qgf{E:Value->Shared->Prop}{pins:List (Addr×Obj)}{s:Shared}{σ:St}{H:Hp}{x:Str}{u:Value}{pos:Pos}{Q:Value->Shared->Prop}(I:Inv X pins σ H s)(hg:Gl X x)(hm:X.mg x=some u)(h:Q u s)
  (hd:(x==("__debug__" : Str))=false:=by decide):wpAny (model X.prog X.w) X.A (eval (.Name x pos) X.env) Q E s :=
 Calls.Name_function_global I.ok.kind hg (Calls.loadGlobal_global (by rw[I.ok.glob];exact I.mod.glob.keeps I.bk) hm h) hd
theorem qjo{E:Value->Shared->Prop}{pins:List (Addr×Obj)}{s:Shared}{σ:St}{H:Hp}{x:Str}{u:Value}{pos:Pos}{Q:Value->Shared->Prop}(I:Inv X pins σ H s)(hg:Gl X x)(hm:X.mg x=none)(hv:bootBuiltins x=some u)(h:Q u s)
  (hn:x≠"__name__" := by decide) (hd:(x==("__debug__" : Str))=false:=by decide):wpAny (model X.prog X.w) X.A (eval (.Name x pos) X.env) Q E s:=by
 obtain⟨mb,h1,h2⟩:=I.mod.blt
 exact Calls.Name_function_global I.ok.kind hg (Calls.loadGlobal_builtin (by rw[I.ok.glob];exact I.mod.glob.keeps I.bk) hm (by rw[I.ok.blt];exact h1.keeps I.bk) ((h2 x hn).trans hv) h) hd
theorem qu1{x:Str}{v:V}{u:Value}{pos:Pos}(hg:Gl X x)(hm:X.mg x=some u)(r:RelV v u)(hd:(x==("__debug__" : Str))=false:=by decide):PE X (.Name x pos) (tC v) :=
 λ_ _ _ H _ I h=>qgf I hg hm ⟨v,H,I,r,h⟩ hd
theorem q2g{x:Str}{v:V}{u:Value}{pos:Pos}(hg:Gl X x)(hm:X.mg x=none)(hv:bootBuiltins x=some u)(r:RelV v u)(hn:x≠"__name__" := by decide)(hd:(x==("__debug__" : Str))=false:=by decide):PE X (.Name x pos) (tC v) :=
 λ_ _ _ H _ I h=>qjo I hg hm hv ⟨v,H,I,r,h⟩ hn hd
variable {a b:Expr} {ta tb:TE} {pos:Pos}
def PC(X:Cx)(op:CmpOp)(a b:Expr)(t:TE):Prop :=
 ∀(pins:List (Addr×Obj)) (s:Shared) (σ:St) (H:Hp) (Q:VK),Inv X pins σ H s->t σ H Q ->
  wpAny (model X.prog X.w) X.A (eval a X.env) (λv s₁=>wpAny (model X.prog X.w) X.A (eval b X.env) (λu s₂=>wpAny (model X.prog X.w) X.A (compareOp op v u) (EP X pins σ Q) X.xe s₂) X.xe s₁) X.xe s
theorem qx1(b:Expr){op:CmpOp}(h:op≠.In)(h2:op≠.NotIn):behindInMarks op b=false:=by
 have e1:(op==CmpOp.In)=false:=by cases op<;>first|rfl|exact absurd rfl h
 have e2:(op==CmpOp.NotIn)=false:=by cases op<;>first|rfl|exact absurd rfl h2
 cases b<;>simp[behindInMarks,e1,e2]
def tB(t:TE):TT:=λσ H Q=>t σ H λx H1=>∃c,x=.bl c/\Q c H1
theorem q0b{op:CmpOp}{t:TE}(h:PC X op a b t)(h1:behindInMarks op b=false:=by first|exact qx1 _ (by decide) (by decide)|rfl):PT X (.Compare a [op] [b] pos) (tB t):=by
 intro pins s σ H Q I hw
 refine wpAny_isTrue_Compare1 (thn (h pins s σ H _ I hw) λv s1 h1=>thn h1 λu s2 h2=>thn h2 λc s3 ⟨x,H1,I1,r1,q1⟩=>?_) h1
 obtain⟨d,rfl,q⟩:=q1
 cases r1
 exact wpAny_truthy_bool ⟨H1,I1,q⟩
theorem q6d{e:Expr}{t:TE}(h:PE X e t)(he:∀whole,isTrue e X.env whole=(do let v ←whole;standAt e.pos;holding [v] (truthy v)):=by intro _;rfl):PT X e (tB t):=by
 intro pins s σ H Q I hw
 refine isTrue_plain (thn (h pins s σ H _ I hw) λv s1 ⟨x,H1,I1,r1,q1⟩=>?_) (he _)
 obtain⟨d,rfl,q⟩:=q1
 cases r1
 exact wpAny_truthy_bool ⟨H1,I1,q⟩
variable {tA tB':TT} {rest:List Expr}
def tAnd(t u:TT):TT:=λσ H Q=>t σ H λc H1=>if c=true then u σ H1 Q else Q false H1
def tOr(t u:TT):TT:=λσ H Q=>t σ H λc H1=>if c=true then Q true H1 else u σ H1 Q
def tNot(t:TT):TT:=λσ H Q=>t σ H λc H1=>Q (!c) H1
theorem q2w(ha:PT X a tA):PW X (.BoolOp .And [a] pos) tA:=by
 intro wh pins s σ H Q I h
 refine isTrue_and (thn (ha pins s σ H Q I h) λc s1 e=>?_)
 cases c with
|true=>exact isTrue_and_nil e
|false=>exact e
theorem q6f(ha:PT X a tA):PW X (.BoolOp .Or [a] pos) tA:=by
 intro wh pins s σ H Q I h
 refine isTrue_or (thn (ha pins s σ H Q I h) λc s1 e=>?_)
 cases c with
|false=>exact isTrue_or_nil e
|true=>exact e
theorem q6e(ha:PT X a tA)(hb:PW X (.BoolOp .And (b::rest) pos) tB'):PW X (.BoolOp .And (a::b::rest) pos) (tAnd tA tB'):=by
 intro wh pins s σ H Q I h
 refine isTrue_and (thn (ha pins s σ H _ I h) λc s1 ⟨H1,I1,q1⟩=>?_)
 cases c with
|true=>exact hb wh pins s1 σ H1 Q I1 q1
|false=>exact⟨H1,I1,q1⟩
theorem q8t(ha:PT X a tA)(hb:PW X (.BoolOp .Or (b::rest) pos) tB'):PW X (.BoolOp .Or (a::b::rest) pos) (tOr tA tB'):=by
 intro wh pins s σ H Q I h
 refine isTrue_or (thn (ha pins s σ H _ I h) λc s1 ⟨H1,I1,q1⟩=>?_)
 cases c with
|true=>exact⟨H1,I1,q1⟩
|false=>exact hb wh pins s1 σ H1 Q I1 q1
theorem q6c(ha:PT X a tA):PT X (.UnaryOp .Not a pos) (tNot tA):=by
 intro pins s σ H Q I h
 exact isTrue_not (ha pins s σ H (λc H1=>Q (!c) H1) I h)
def q7d(ta tb:TE):TE:=λσ H Q=>ta σ H λx H1=>∃c,x=.bl c/\if c=true then tb σ H1 Q else Q (.bl false) H1
def tOrV(ta tb:TE):TE:=λσ H Q=>ta σ H λx H1=>∃c,x=.bl c/\if c=true then Q (.bl true) H1 else tb σ H1 Q
def q7j(ta:TE):TE:=λσ H Q=>ta σ H λx H1=>∃c,x=.bl c/\Q (.bl (!c)) H1
theorem q53{op}{t:TE}(h:PE X a t):PE X (.BoolOp op [a] pos) t:=λpins s σ H Q I hw=>BoolOp_one (h pins s σ H Q I hw)
theorem q5w(ha:PE X a ta)(hb:PE X (.BoolOp .And (b::rest) pos) tb):PE X (.BoolOp .And (a::b::rest) pos) (q7d ta tb):=by
 intro pins s σ H Q I h
 refine BoolOp_and (thn (ha pins s σ H _ I h) λv s1 ⟨x,H1,I1,r1,q1⟩=>?_)
 obtain⟨c,rfl,q1⟩:=q1
 cases r1
 refine wpAny_truthy_bool ?_
 cases c with
|true=>exact hb pins s1 σ H1 Q I1 q1
|false=>exact⟨.bl false,H1,I1,rfl,q1⟩
theorem q8o(ha:PE X a ta)(hb:PE X (.BoolOp .Or (b::rest) pos) tb):PE X (.BoolOp .Or (a::b::rest) pos) (tOrV ta tb):=by
 intro pins s σ H Q I h
 refine BoolOp_or (thn (ha pins s σ H _ I h) λv s1 ⟨x,H1,I1,r1,q1⟩=>?_)
 obtain⟨c,rfl,q1⟩:=q1
 cases r1
 refine wpAny_truthy_bool ?_
 cases c with
|false=>exact hb pins s1 σ H1 Q I1 q1
|true=>exact⟨.bl true,H1,I1,rfl,q1⟩
theorem q52(ha:PE X a ta):PE X (.UnaryOp .Not a pos) (q7j ta):=by
 intro pins s σ H Q I h
 refine UnaryOp_ (thn (ha pins s σ H _ I h) λv s1 ⟨x,H1,I1,r1,q1⟩=>?_)
 obtain⟨c,rfl,q1⟩:=q1
 cases r1
 exact not_of (wpAny_truthy_bool ⟨.bl (!c),H1,I1,rfl,q1⟩)
def tIf(t:TT)(ta tb:TE):TE:=λσ H Q=>t σ H λc H1=>if c=true then ta σ H1 Q else tb σ H1 Q
theorem qyg{c:Expr}(hc:PT X c tA)(ha:PE X a ta)(hb:PE X b tb):PE X (.IfExp c a b pos) (tIf tA ta tb):=by
 intro pins s σ H Q I h
 refine wpAny_IfExp (thn (hc pins s σ H _ I h) λd s1 ⟨H1,I1,q1⟩=>?_)
 cases d with
|true=>exact ha pins s1 σ H1 Q I1 q1
|false=>exact hb pins s1 σ H1 Q I1 q1
end
end L2
namespace L2
open PySem PySem.Spec PyProof.Rows
def SqL(K:PySem.W.Frag)(H:Hp)(a:Addr)(xs:List V):Prop :=
 Rd H a (.lst xs) \/
  ∃(o:Obj) (its:Array Value) (n:Nat),K.lookup a=some o/\o.cls=.type "list" /\ o.dict=none/\o.data=.seq its n/\its.size<=sizeLine/\Vals xs its.toList
def SqT(K:PySem.W.Frag)(H:Hp)(a:Addr)(xs:List V):Prop :=
 Rd H a (.tup xs) \/
  ∃(o:Obj) (its:Array Value) (n:Nat),K.lookup a=some o/\o.cls=.type "tuple" /\ o.data=.seq its n/\its.size<=sizeLine/\Vals xs its.toList
def absV:Value->Option V
|.none=>some .non
|.bool b=>some (.bl b)
|.int i _=>some (.int i)
|.str x _=>some (.str x)
|.bytes b _=>some (.byt b)
|.float b _=>some (.flt b)
|.ref a=>some (.ref a)
|.type n=>some (.ty n)
|_=>none
theorem RelV.abs{x:V}{u:Value}(r:RelV x u):absV u=some x:=by
 cases x with
|non=>cases r;rfl
|bl _=>cases r;rfl
|int _=>obtain⟨t,rfl⟩:=r;rfl
|str _=>obtain⟨t,rfl⟩:=r;rfl
|byt _=>obtain⟨t,rfl⟩:=r;rfl
|flt _=>obtain⟨t,rfl⟩:=r;rfl
|ref _=>cases r;rfl
|ty _=>cases r;rfl
theorem RelV.inj{x y:V}{u:Value}(r:RelV x u)(q:RelV y u):x=y:=Option.some.inj (r.abs.symm.trans q.abs)
theorem Vals.inj:∀ {xs ys:List V} {us:List Value},Vals xs us->Vals ys us->xs=ys
|_,_,_,.nil,.nil=>rfl
|_,_,_,.cons r t,.cons r' t'=>by rw[r.inj r',Vals.inj t t']
section
variable {X:Cx} {pins:List (Addr×Obj)} {σ:St} {H:Hp} {s:Shared} {a:Addr} {xs ys:List V}
theorem SqL.of{K:PySem.W.Frag}(h:H a=some (.lst xs)):SqL K H a xs:=.inl (.inl h)
theorem SqT.of{K:PySem.W.Frag}(h:H a=some (.tup xs)):SqT K H a xs:=.inl (.inl h)
theorem Inv.list(I:Inv X pins σ H s)(h:SqL X.K H a xs):∃its:List Value,Vals xs its/\PlainL s.heap a its.toArray/\xs.length<=sizeLine:=by
 rcases h with h|⟨o,its,n,hk,hc,hd,hs,hz,r⟩
 ·obtain⟨z,its,n,r,e⟩:=h.ok I.hok
  exact⟨its,r,⟨_,n,e,rfl,rfl,rfl⟩,z⟩
 ·refine⟨its.toList,r,⟨o,n,I.kIn a o hk,hc,hd,by simpa using hs⟩,?_⟩
  have e:=r.length
  simp only[Array.length_toList] at e
  lia
theorem Inv.tuple(I:Inv X pins σ H s)(h:SqT X.K H a xs):∃its:List Value,Vals xs its/\IsTup s.heap a its.toArray/\xs.length<=sizeLine:=by
 rcases h with h|⟨o,its,n,hk,hc,hs,hz,r⟩
 ·obtain⟨z,its,r,p⟩:=h.ok I.hok
  exact⟨its,r,p,z⟩
 ·refine⟨its.toList,r,⟨o,I.kIn a o hk,hc,n,by simpa using hs⟩,?_⟩
  have e:=r.length
  simp only[Array.length_toList] at e
  lia
theorem Inv.list_inj(I:Inv X pins σ H s)(h:SqL X.K H a xs)(h':SqL X.K H a ys):xs=ys:=by
 obtain⟨its,r,⟨o,n,e,_,_,d⟩,_⟩:=I.list h
 obtain⟨its',r',⟨o',n',e',_,_,d'⟩,_⟩:=I.list h'
 rw[e] at e';cases e'
 rw[d] at d'
 injection d' with d1 _
 have:its=its':=by simpa using congrArg Array.toList d1
 subst this
 exact r.inj r'
theorem Inv.tuple_inj(I:Inv X pins σ H s)(h:SqT X.K H a xs)(h':SqT X.K H a ys):xs=ys:=by
 obtain⟨its,r,⟨o,e,_,n,d⟩,_⟩:=I.tuple h
 obtain⟨its',r',⟨o',e',_,n',d'⟩,_⟩:=I.tuple h'
 rw[e] at e';cases e'
 rw[d] at d'
 injection d' with d1 _
 have:its=its':=by simpa using congrArg Array.toList d1
 subst this
 exact r.inj r'
end
abbrev Cx.wish(X:Cx)(E:Value->Shared->Prop):Cx:={ X with xe:=E }
abbrev Cx.nox(X:Cx):Cx:=X.wish λ_ _=>False
theorem Cx.Ok.wish{X:Cx}(ok:X.Ok)(E:Value->Shared->Prop):(X.wish E).Ok :=
 ⟨ok.mod,ok.kind,ok.glob,ok.blt,ok.above,ok.inj,ok.has,ok.cab,ok.hd,ok.frames,ok.stk,ok.exf,ok.bs,ok.bsz,ok.noex,ok.exfs,ok.funs,ok.frf⟩
theorem Cx.Ok.unwish{X:Cx}{E:Value->Shared->Prop}(ok:(X.wish E).Ok):X.Ok :=
 ⟨ok.mod,ok.kind,ok.glob,ok.blt,ok.above,ok.inj,ok.has,ok.cab,ok.hd,ok.frames,ok.stk,ok.exf,ok.bs,ok.bsz,ok.noex,ok.exfs,ok.funs,ok.frf⟩
section
variable {X:Cx} {pins:List (Addr×Obj)} {σ:St} {H:Hp} {s:Shared} {E:Value->Shared->Prop}
theorem Inv.wish(I:Inv X pins σ H s)(E:Value->Shared->Prop):Inv (X.wish E) pins σ H s:=⟨I.ok.wish E,I.os,I.bare,I.base,I.loc,I.cell,I.free,I.freeC,I.pin,I.hok,I.len⟩
theorem Inv.unwish(I:Inv (X.wish E) pins σ H s):Inv X pins σ H s:=⟨I.ok.unwish,I.os,I.bare,I.base,I.loc,I.cell,I.free,I.freeC,I.pin,I.hok,I.len⟩
theorem SP.unwish{D:Ends}{f:Flow}{s':Shared}(h:SP (X.wish E) pins D f s'):SP X pins D f s':=by
 cases f with
|next=>obtain⟨σ',H',I,q⟩:=h;exact⟨σ',H',I.unwish,q⟩
|brk=>obtain⟨σ',H',I,q⟩:=h;exact⟨σ',H',I.unwish,q⟩
|cont=>obtain⟨σ',H',I,q⟩:=h;exact⟨σ',H',I.unwish,q⟩
|ret u=>obtain⟨v,σ',H',I,r,q⟩:=h;exact⟨v,σ',H',I.unwish,r,q⟩
theorem PSs.nox{st:List Stmt}{t:TS}(h:PSs X.nox st t):PSs X st t:=λpins s σ H D I hw =>
 wpAny_mono (h pins s σ H D (I.wish _) hw) (λ_ _ q=>q.unwish) λ_ _ z=>False.elim z
end
section
variable {X:Cx} {st:Stmt} {rest:List Stmt} {t u:TS} {e:Expr} {te:TE} {pos:Pos}
def q7i:TS:=λD σ H=>D.nx σ H
def tSeq(t u:TS):TS:=λD σ H=>t { D with nx:=u D } σ H
theorem q2t:PSs X [] q7i:=λ_ _ σ H _ I h=>wpAny_execs_nil ⟨σ,H,I,h⟩
theorem qyn(h1:PS X st t)(h2:PSs X rest u):PSs X (st::rest) (tSeq t u):=by
 intro pins s σ H D I h
 refine wpAny_execs_cons (thn (h1 pins s σ H { D with nx:=u D } I h) λf s1 q=>?_)
 cases f with
|next =>
  obtain⟨σ',H',I',q⟩:=q
  exact h2 pins s1 σ' H' D I' q
|ret v=>exact q
|brk=>exact q
|cont=>exact q
theorem q2u(h1:PS X st t):PSs X [st] t:=by
 intro pins s σ H D I h
 refine wpAny_execs_cons (thn (h1 pins s σ H D I h) λf s1 q=>?_)
 cases f with
|next=>exact wpAny_execs_nil q
|ret v=>exact q
|brk=>exact q
|cont=>exact q
theorem Inv.quiet{pins:List (Addr×Obj)}{σ:St}{H:Hp}{s:Shared}(I:Inv X pins σ H s):interactive X.env=false:=by simp[interactive,I.ok.kind]
def q7f(te:TE):TS:=λD σ H=>te σ H λ_ H1=>D.nx σ H1
theorem q2s(he:PE X e te)(hs:swapsWith e none pos.line X.env=pure false:=by rfl):PS X (.Expr e pos) (q7f te):=by
 intro pins s σ H D I h
 exact wpAny_Expr_any (thn (he pins s σ H _ I h) λv s1 ⟨x,H1,I1,r1,q1⟩=>⟨σ,H1,I1,q1⟩) I.quiet hs
def tRet(te:TE):TS:=λD σ H=>te σ H D.rt
theorem q6a(he:PE X e te):PS X (.Return (some e) pos) (tRet te):=by
 intro pins s σ H D I h
 exact wpAny_Return_some (thn (he pins s σ H _ I h) λv s1 ⟨x,H1,I1,r1,q1⟩=>⟨x,σ,H1,I1,r1,q1⟩)
def tIfS(c:TT)(t u:TS):TS:=λD σ H=>c σ H λb H1=>if b=true then t D σ H1 else u D σ H1
theorem q8s{c:Expr}{a b:List Stmt}{tc:TT}(hc:PT X c tc)(ha:PSs X a t)(hb:PSs X b u):PS X (.If c a b pos) (tIfS tc t u):=by
 intro pins s σ H D I h
 refine wpAny_If (thn (hc pins s σ H _ I h) λd s1 ⟨H1,I1,q1⟩=>?_)
 cases d with
|true=>exact ha pins s1 σ H1 D I1 q1
|false=>exact hb pins s1 σ H1 D I1 q1
end
abbrev TG:=V->St->Hp->(St->Hp->Prop)->Prop
abbrev TGs:=List V->St->Hp->(St->Hp->Prop)->Prop
def PG(X:Cx)(target:Expr)(t:TG):Prop :=
 ∀(pins:List (Addr×Obj)) (s:Shared) (σ:St) (H:Hp) (v:V) (u:Value) (Q:St->Hp->Prop),Inv X pins σ H s->RelV v u->t v σ H Q ->
  wpAny (model X.prog X.w) X.A (assign target X.env u) (λ_ s'=>∃σ' H',Inv X pins σ' H' s'/\Q σ' H') X.xe s
def PGs(X:Cx)(ts:List Expr)(t:TGs):Prop :=
 ∀(pins:List (Addr×Obj)) (s:Shared) (σ:St) (H:Hp) (vs:List V) (us:List Value) (Q:St->Hp->Prop),Inv X pins σ H s->Vals vs us->t vs σ H Q ->
  wpAny (model X.prog X.w) X.A (assignInOrder ((assignEach ts X.env).map (·.2)) us) (λ_ s'=>∃σ' H',Inv X pins σ' H' s'/\Q σ' H') X.xe s
section
variable {X:Cx} {pos:Pos}
def qq4(i:Nat):TG:=λv σ H Q=>Q (σ.set i (some v)) H
theorem q2k{i:Nat}{x:Str}(hN:X.N.Nodup)(hi:X.N[i]?=some x)(hx:Loc X.env.scope x)(hf:X.fn x=true\/X.env.scope.names.lookup x=some .local:=by first|exact .inl rfl|exact .inr rfl|assumption):PG X (.Name x pos) (qq4 i):=by
 intro pins s σ H v u Q I r h
 exact wpAny_assign_Name (qkz I hN hi hx r (λs' I'=>⟨_,H,I',h⟩) hf)
def gNil:TGs:=λvs σ H Q=>vs=[]/\Q σ H
def q42(t:TG)(u:TGs):TGs:=λvs σ H Q=>∃v r,vs=v::r/\t v σ H λσ' H'=>u r σ' H' Q
theorem q2l:PGs X [] gNil:=by
 intro pins s σ H vs us Q I r h
 obtain⟨e,h⟩:=h
 subst e
 cases r
 exact assignInOrder_nil ⟨σ,H,I,h⟩
theorem qyi{e:Expr}{es:List Expr}{t:TG}{u:TGs}(h1:PG X e t)(h2:PGs X es u)
  (hs:(assignEach (e::es) X.env).map (·.2)=assign e X.env::(assignEach es X.env).map (·.2):=by rfl):PGs X (e::es) (q42 t u):=by
 intro pins s σ H vs us Q I r h
 obtain⟨v,vr,e1,h⟩:=h
 subst e1
 cases r with
|cons r rr =>
  rw[hs]
  refine assignInOrder_cons (thn (h1 pins s σ H _ _ _ I r h) λ_ s1 ⟨σ1,H1,I1,q1⟩=>?_)
  exact h2 pins s1 σ1 H1 _ _ Q I1 rr q1
def gTup(K:PySem.W.Frag)(n:Nat)(t:TGs):TG:=λv σ H Q=>∃a xs,v=.ref a/\SqT K H a xs/\xs.length=n/\t xs σ H Q
theorem q56{es:List Expr}{k:Nat}{t:TGs}{n:Nat}(hc:X.calm=true)(h:PGs X es t)
  (hn:(assignEach es X.env).length=n:=by rfl) (hst:(assignEach es X.env).findIdx? (·.1)=none:=by rfl):PG X (.Tuple es k pos) (gTup X.K n t):=by
 intro pins s σ H v u Q I r hw
 obtain⟨a,xs,e1,hq,hl,hw⟩:=hw
 subst e1
 cases r
 obtain⟨its,rv,ht,hz⟩:=I.tuple hq
 refine assign_Tuple_tuple (I.ok.hd hc) ht (by simp[hn,←hl,rv.length]) hst λh' hx=>?_
 have I1:Inv X pins σ H { s with heap:=h' }:=I.kept (t':=s.toks) λb o e=>hx b o (Nat.ne_of_lt (Heap.lt_size e)) e
 exact h pins _ σ H xs _ Q I1 (by simpa using rv) hw
def tAsg(te:TE)(g:TG):TS:=λD σ H=>te σ H λx H1=>g x σ H1 D.nx
theorem q6b{i:Nat}{x:Str}{e:Expr}{te:TE}{pos':Pos}(hN:X.N.Nodup)(hi:X.N[i]?=some x)(hx:Loc X.env.scope x)(he:PE X e te)(hs:swapsWith e (some (.Name x pos')) pos.line X.env=pure false:=by rfl)(hf:X.fn x=true\/X.env.scope.names.lookup x=some .local:=by first|exact .inl rfl|exact .inr rfl|assumption) :
  PS X (.Assign [.Name x pos'] e pos) (tAsg te (qq4 i)):=by
 intro pins s σ H D I h
 refine wpAny_Assign_Name (thn (he pins s σ H _ I h) λv s1 ⟨y,H1,I1,r1,q1⟩=>?_) hs
 exact qkz I1 hN hi hx r1 (λs2 I2=>⟨_,H1,I2,q1⟩) hf
end
section
variable {X:Cx} {pos:Pos}
def q0m(c:TT)(tb:TS):TS:=λD σ H=>∃W:Nat->St->Hp->Prop,(∃m,W m σ H)/\∀m σ H,W m σ H ->
 c σ H λb H1=>if b=true then ∃N:St->Hp->Prop,(∀σ' H',N σ' H'->∃m',m'<m/\W m' σ' H')/\tb { D with nx:=N,ct:=N,bk:=D.nx } σ H1 else D.nx σ H1
theorem qym{c:Expr}{body:List Stmt}{tc:TT}{tb:TS}(hp:PassesOwn (model X.prog X.w) X.A X.env X.xe)(hc:PT X c tc)(hb:PSs X body tb):PS X (.While c body [] pos) (q0m tc tb):=by
 intro pins s σ H D I h
 obtain⟨W,⟨m0,w0⟩,turn⟩:=h
 refine wpAny_While (codeAny_whileLoop (λn s'=>∃σ' H',Inv X pins σ' H' s'/\W n σ' H') ?_ m0 ⟨σ,H,I,w0⟩)
 rintro n s1 ⟨σ1,H1,I1,w1⟩
 refine wpAny_passesOwn hp (thn (hc pins s1 σ1 H1 _ I1 (turn n σ1 H1 w1)) λb s2 ⟨H2,I2,q2⟩=>?_)
 cases b with
|true =>
  obtain⟨N,hN,q2⟩:=q2
  rw[if_pos rfl]
  refine wpAny_passesOwn hp (thn (hb pins s2 σ1 H2 _ I2 q2) λf s3 q3=>?_)
  cases f with
 |next =>
   obtain⟨σ3,H3,I3,n3⟩:=q3
   obtain⟨m',hm,w3⟩:=hN σ3 H3 n3
   exact⟨m',hm,σ3,H3,I3,w3⟩
 |cont =>
   obtain⟨σ3,H3,I3,n3⟩:=q3
   obtain⟨m',hm,w3⟩:=hN σ3 H3 n3
   exact⟨m',hm,σ3,H3,I3,w3⟩
 |brk=>exact q3
 |ret v=>exact q3
|false =>
  rw[if_neg Bool.false_ne_true]
  exact wpAny_execs_nil ⟨σ1,H2,I2,q2⟩
end
structure It where
 go:Nat->Hp->Prop
 yld:Nat->Hp->V->Hp->Prop
 stop:Nat->Hp->Prop
def FpOk(X:Cx)(pins:List (Addr×Obj))(H:Hp)(b:Addr):Prop :=
 H b=none/\b≠X.env.locals/\b∉X.fs/\(b∈X.ex\/X.s₀.heap.objs.size<=b)/\(∀x c,X.env.cells.lookup x=some c->c≠b)/\∀p∈X.pn++pins,p.1≠b
theorem Inv.fpOk{X:Cx}{pins:List (Addr×Obj)}{σ:St}{H H':Hp}{s:Shared}{b:Addr}(I:Inv X pins σ H s)(hb:s.heap.objs.size<=b)(hn:H' b=none):FpOk X pins H' b:=by
 refine⟨hn,Nat.ne_of_gt (Nat.lt_of_lt_of_le I.lt hb),I.nofs hb,.inr (Nat.le_trans I.sz hb),λx c e z=>?_,λp hp z=>?_⟩
 ·obtain⟨v,q⟩:=I.cell x c e
  exact absurd (Nat.lt_of_lt_of_le q.lt (by rw[z];exact hb)) (Nat.lt_irrefl _)
 ·exact absurd (Nat.lt_of_lt_of_le (Heap.lt_size (I.pin p hp).1) (by rw[z];exact hb)) (Nat.lt_irrefl _)
structure Turn(P:Program)(w:World)(K:PySem.W.Frag)(tg:Expr)(J:It)(fp:List Addr)(it:Addr)(tn:Nat->Heap->Prop):Prop where
 mem:it∈fp
 obj:∀i h,tn i h->∀b∈fp,∃o,h.get? b=some o/\∀v,o.data≠.cell v
 keep:∀i h h',tn i h->(∀b∈fp,∀o,h.get? b=some o->h'.get? b=some o)->tn i h'
 item:∀(X:Cx),X.prog=P->X.w=w->X.K=K->X.calm=true->∀(i:Nat) (pins:List (Addr×Obj)) (s:Shared) (σ:St) (H:Hp) (E:Value->Shared->Prop),Inv X pins σ H s->(∀b∈fp,FpOk X pins H b)->tn i s.heap->J.go i H ->
  wpAny (model P w) X.A (pyNext (.ref it)) (λr s1=>∃u,r=some u /\
   wpAny (model P w) X.A (letOwnedTupleGo tg (.ref it) u) (λ_ s2=>∃x H',Inv X pins σ H' s2/\RelV x u/\J.yld i H x H'/\tn (i+1) s2.heap/\∀b∈fp,H' b=none) E s1) E s
 done:∀(X:Cx),X.prog=P->X.w=w->X.K=K->X.calm=true->∀(i:Nat) (pins:List (Addr×Obj)) (s:Shared) (σ:St) (H:Hp) (E:Value->Shared->Prop),Inv X pins σ H s->(∀b∈fp,FpOk X pins H b)->tn i s.heap->J.stop i H ->
  wpAny (model P w) X.A (pyNext (.ref it)) (λr s1=>r=none/\Inv X pins σ H s1) E s
 self:∀(A:Around) (i:Nat) (s:Shared) (Q:Value->Shared->Prop) (E:Value->Shared->Prop),tn i s.heap->Q (.ref it) s->wpAny (model P w) A (pyIter (.ref it)) Q E s
abbrev TI:=St->Hp->(It->Hp->Prop)->Prop
def PIE(X:Cx)(pins:List (Addr×Obj))(σ:St)(tg:Expr)(R:It->Hp->Prop)(itv:Value)(s2:Shared):Prop :=
 ∃(it:Addr) (fp:List Addr) (tn:Nat->Heap->Prop) (J:It) (H':Hp),itv=.ref it/\Inv X pins σ H' s2/\Turn X.prog X.w X.K tg J fp it tn/\tn 0 s2.heap/\(∀b∈fp,FpOk X pins H' b)/\R J H'
def PI(X:Cx)(tg iter:Expr)(wi:TI):Prop :=
 ∀(pins:List (Addr×Obj)) (s:Shared) (σ:St) (H:Hp) (R:It->Hp->Prop),Inv X pins σ H s->wi σ H R ->
  wpAny (model X.prog X.w) X.A (eval iter X.env) (λv s1=>wpAny (model X.prog X.w) X.A (pyIter v) (PIE X pins σ tg R) X.xe s1) X.xe s
theorem qq6{M:Model}{A:Around}{E:Value->Shared->Prop}{s:Shared}{tg:Expr}{it:Addr}{u:Value}{o:Obj}{n:String}{vs:Array Value}{Q:Unit->Shared->Prop}(ho:s.heap.get? it=some o)(hc:o.cls=.type n)(hd:o.data=.fields vs)
    (hn:["enumerate","zip","dict_itemiterator","dict_reverseitemiterator","odict_iterator","itertools.zip_longest","itertools.pairwise"].contains n=false) (hQ:Q () s):wpAny M A (letOwnedTupleGo tg (.ref it) u) Q E s:=by
  unfold letOwnedTupleGo
  cases tg<;>first
   |exact wpAny_pure hQ
    | (cases u<;>first
       |exact wpAny_pure hQ
        | (refine wpAny_bind (wpAny_load ho ?_)
           rw[hc,hd]
           show wpAny M A (if (["enumerate","zip","dict_itemiterator","dict_reverseitemiterator","odict_iterator","itertools.zip_longest","itertools.pairwise"].contains n&&vs[0]?==some (rawInt _))=true then _ else _) Q E s
           rw[if_neg (by intro h;rw[hn,Bool.false_and] at h;cases h)]
           exact wpAny_pure hQ))
def Itl(K:PySem.W.Frag)(a:Addr):It :=
 ⟨λi H=>∃xs x,SqL K H a xs/\xs[i]?=some x,λi H x H'=>H'=H/\∀xs,SqL K H a xs->xs[i]?=some x,λi H=>∃xs,SqL K H a xs/\xs.length<=i⟩
def Itt(K:PySem.W.Frag)(a:Addr):It :=
 ⟨λi H=>∃xs x,SqT K H a xs/\xs[i]?=some x,λi H x H'=>H'=H/\∀xs,SqT K H a xs->xs[i]?=some x,λi H=>∃xs,SqT K H a xs/\xs.length<=i⟩
def Itr(lo:Int)(n:Nat):It:=⟨λi _=>i<n,λi H x H'=>H'=H/\x=.int (lo+i),λi _=>n<=i⟩
theorem qvy{P:Program}{w:World}{K:PySem.W.Frag}{tg:Expr}(a it:Addr):Turn P w K tg (Itl K a) [it] it (λi h=>h.IsListIter it a i) where
 mem:=by simp
 obj:=λi h st b hb=>by
  have e:b=it:=by simpa using hb
  subst e
  obtain⟨o,e,c,d⟩:=st
  exact⟨o,e,λv z=>by rw[d] at z;cases z⟩
 keep:=λi h h' st k=>st.at λo e=>k it (by simp) o e
 item:=by
  intro X hP hw hK hc i pins s σ H E I hf st hg
  subst hP hw hK
  obtain⟨xs,x,hq,hx⟩:=hg
  obtain⟨its,rv,p,hz⟩:=I.list hq
  obtain⟨u,hu,ru⟩:=rv.get hx
  obtain⟨f0,f1,f2,f3,f4,f5⟩:=hf it (by simp)
  refine wpAny_pyNext_list_item st p.isList (x:=u) (by simpa using hu) λh' st' sb=>?_
  have I1:Inv X pins σ H { s with heap:=h' }:=I.turned (t':=s.toks) (λb o hb e=>(sb.2 b hb).trans e) f0 f1 f3 f4 f5
  obtain⟨o,e,c,d⟩:=id st'
  exact⟨u,rfl,qq6 (s:={ s with heap:=h' }) e c d (by decide) ⟨x,H,I1,ru,⟨rfl,λys hy=>by rw[I.list_inj hy hq];exact hx⟩,st',λb hb=>(hf b hb).1⟩⟩
 done:=by
  intro X hP hw hK hc i pins s σ H E I hf st hg
  subst hP hw hK
  obtain⟨xs,hq,hx⟩:=hg
  obtain⟨its,rv,p,hz⟩:=I.list hq
  obtain⟨f0,f1,f2,f3,f4,f5⟩:=hf it (by simp)
  have hl:=rv.length
  exact wpAny_pyNext_list_end (I.ok.hd hc) st p.isList (by simp;lia) λh' eb=>⟨rfl,I.turned (t':=s.toks) (λb o hb e=>eb b o hb e) f0 f1 f3 f4 f5⟩
 self:=λ_ _ _ _ _ st h=>wpAny_pyIter_listiter st h
theorem qsc{P:Program}{w:World}{K:PySem.W.Frag}{tg:Expr}(a it:Addr):Turn P w K tg (Itt K a) [it] it (λi h=>h.IsTupleIter it a i) where
 mem:=by simp
 obj:=λi h st b hb=>by
  have e:b=it:=by simpa using hb
  subst e
  obtain⟨o,e,c,d⟩:=st
  exact⟨o,e,λv z=>by rw[d] at z;cases z⟩
 keep:=λi h h' st k=>st.at λo e=>k it (by simp) o e
 item:=by
  intro X hP hw hK hc i pins s σ H E I hf st hg
  subst hP hw hK
  obtain⟨xs,x,hq,hx⟩:=hg
  obtain⟨its,rv,p,hz⟩:=I.tuple hq
  obtain⟨u,hu,ru⟩:=rv.get hx
  obtain⟨f0,f1,f2,f3,f4,f5⟩:=hf it (by simp)
  refine wpAny_pyNext_tuple_item st (show s.heap.IsTuple a its.toArray from p) (x:=u) (by simpa using hu) λh' st' sb=>?_
  have I1:Inv X pins σ H { s with heap:=h' }:=I.turned (t':=s.toks) (λb o hb e=>(sb.2 b hb).trans e) f0 f1 f3 f4 f5
  obtain⟨o,e,c,d⟩:=id st'
  exact⟨u,rfl,qq6 (s:={ s with heap:=h' }) e c d (by decide) ⟨x,H,I1,ru,⟨rfl,λys hy=>by rw[I.tuple_inj hy hq];exact hx⟩,st',λb hb=>(hf b hb).1⟩⟩
 done:=by
  intro X hP hw hK hc i pins s σ H E I hf st hg
  subst hP hw hK
  obtain⟨xs,hq,hx⟩:=hg
  obtain⟨its,rv,p,hz⟩:=I.tuple hq
  obtain⟨f0,f1,f2,f3,f4,f5⟩:=hf it (by simp)
  have hl:=rv.length
  exact wpAny_pyNext_tuple_end (I.ok.hd hc) st (show s.heap.IsTuple a its.toArray from p) (by simp;lia) λh' eb=>⟨rfl,I.turned (t':=s.toks) (λb o hb e=>eb b o hb e) f0 f1 f3 f4 f5⟩
 self:=λ_ _ _ _ _ st h=>wpAny_pyIter_tupleiter st h
theorem qsb{P:Program}{w:World}{K:PySem.W.Frag}{tg:Expr}(it:Addr)(lo:Int)(n:Nat):Turn P w K tg (Itr lo n) [it] it (λi h=>IsRangeIter h it (lo+(i:Nat)*1) ((n:Int)-(i:Nat)) 1) where
 mem:=by simp
 obj:=λi h st b hb=>by
  have e:b=it:=by simpa using hb
  subst e
  exact⟨_,st,λv z=>by
   have z':Data.fields _=Data.cell v:=z
   cases z'⟩
 keep:=λi h h' st k=>k it (by simp) _ st
 item:=by
  intro X hP hw hK hc i pins s σ H E I hf st hg
  subst hP hw hK
  obtain⟨f0,f1,f2,f3,f4,f5⟩:=hf it (by simp)
  have W:=Walks.range (prog:=X.prog) (w:=X.w) (I.ok.hd hc) it lo 1 n
  refine W.item i s _ _ hg st λv h' tk hv st' kk=>?_
  obtain⟨t,rfl⟩:=hv
  have I1:Inv X pins σ H { s with heap:=h',toks:=tk }:=I.turned (λb o hb e=>kk b o (by simpa using hb) e) f0 f1 f3 f4 f5
  refine⟨_,rfl,qq6 (s:={ s with heap:=h',toks:=tk }) (n:="range_iterator") st' rfl rfl (by decide) ⟨.int (lo+i),H,I1,⟨t,?_⟩,⟨rfl,rfl⟩,st',λb hb=>(hf b hb).1⟩⟩
  rw[Int.mul_one]
 done:=by
  intro X hP hw hK hc i pins s σ H E I hf st hg
  subst hP hw hK
  obtain⟨f0,f1,f2,f3,f4,f5⟩:=hf it (by simp)
  exact wpAny_pyNext_range_end (I.ok.hd hc) st (by have:n<=i:=hg;lia) λh' eb=>⟨rfl,I.turned (t':=s.toks) (λb o hb e=>eb b o hb e) f0 f1 f3 f4 f5⟩
 self:=λ_ _ _ _ _ st h=>wpAny_pyIter_rangeiter st h
end L2
namespace L2
open PySem PySem.Spec PyProof.Rows
section
variable {X:Cx} {tg:Expr}
theorem qp6{pins:List (Addr×Obj)}{σ:St}{H:Hp}{s:Shared}{R:It->Hp->Prop}{E:Value->Shared->Prop}{lo hi:Int}{t u v:Tok}{tk:Nat}(I:Inv X pins σ H s)(h1:-(2 ^ 62)<=lo)(h2:lo<2 ^ 62)(h3:-(2 ^ 62)<=hi)(h4:hi<2 ^ 62)
  (q:R (Itr lo (hi-lo).toNat) H):wpAny (model X.prog X.w) X.A (pyIter (.ref s.heap.objs.size)) (PIE X pins σ tg R) E { s with heap:=s.heap.push { cls:=.type "range",data:=.fields #[.int lo t,.int hi u,.int 1 v] },toks:=tk }:=by
 refine wpAny_pyIter_range (IsRange.new ..) (small_one h1 h2 h3 h4) ?_
 have I1:Inv X pins σ H { s with heap:=s.heap.push { cls:=.type "range",data:=.fields #[.int lo t,.int hi u,.int 1 v] },toks:=tk }:=I.kept λb o e=>Heap.get?_push_of_some _ e
 refine⟨(s.heap.push { cls:=.type "range",data:=.fields #[.int lo t,.int hi u,.int 1 v] }).objs.size,[(s.heap.push { cls:=.type "range",data:=.fields #[.int lo t,.int hi u,.int 1 v] }).objs.size],_,_,H,rfl,
  I1.kept (t':=tk) λb o e=>Heap.get?_push_of_some _ e,qsb _ lo (hi-lo).toNat,?_,λb hb=>?_,q⟩
 ·have e1:lo+((0:Nat):Int)*1=lo:=by simp
  have e2:(((hi-lo).toNat:Nat):Int)-((0:Nat):Int)=Builtin.Range.rangeSize lo hi 1:=by rw[rangeSize_one];split<;>lia
  show IsRangeIter _ _ (lo+((0:Nat):Int)*1) ((((hi-lo).toNat:Nat):Int)-((0:Nat):Int)) 1
  rw[e1,e2]
  exact Heap.get?_push_size _ rfl
 ·have e:b=(s.heap.push { cls:=.type "range",data:=.fields #[.int lo t,.int hi u,.int 1 v] }).objs.size:=by simpa using hb
  subst e
  exact I1.fpOk (Nat.le_refl _) (I1.hok.fresh (Nat.le_refl _))
def q1c(ta:TA):TI:=λσ H R=>ta σ H λvs H1=>∃j:Int,vs=[.int j]/\-(2 ^ 62)<=j/\j<2 ^ 62/\R (Itr 0 j.toNat) H1
def q1d(ta:TA):TI:=λσ H R=>ta σ H λvs H1=>∃i j:Int,vs=[.int i,.int j]/\(-(2 ^ 62)<=i/\i<2 ^ 62/\-(2 ^ 62)<=j/\j<2 ^ 62)/\R (Itr i (j-i).toNat) H1
theorem qu2{a:Expr}{ta:TA}{p pos:Pos}(hg:Gl X "range")(hm:X.mg "range" = none)(ha:PA X [a] ta)(hs:starEach [a] X.env=[(false,eval a X.env)]:=by rfl):PI X tg (.Call (.Name "range" p) [a] [] pos) (q1c ta):=by
 intro pins s σ H R I h
 refine Call_ (qjo I hg hm boot_range (PyProof.Rows.callWith_type1 (thn (ha pos pins s σ H _ I h) λus s1 ⟨vs,H1,I1,r1,q1⟩=>?_) hs rfl))
 obtain⟨j,e,q1,q2,q⟩:=q1
 subst e
 cases r1 with
|cons r rr =>
  cases rr
  obtain⟨t,rfl⟩:=r
  exact call_range_1 (qp6 I1 (by lia) (by lia) q1 q2 (by simpa using q))
theorem qu3{a b:Expr}{ta:TA}{p pos:Pos}(hg:Gl X "range")(hm:X.mg "range" = none)(ha:PA X [a,b] ta)(hs:starEach [a,b] X.env=[(false,eval a X.env),(false,eval b X.env)]:=by rfl)(hs2:starEach [b] X.env=[(false,eval b X.env)]:=by rfl) :
  PI X tg (.Call (.Name "range" p) [a,b] [] pos) (q1d ta):=by
 intro pins s σ H R I h
 refine Call_ (qjo I hg hm boot_range (PyProof.Rows.callWith_type1 (thn (ha pos pins s σ H _ I h) λus s1 ⟨vs,H1,I1,r1,q1⟩=>?_) (by rw[hs,hs2]) (by rw[hs2];rfl)))
 obtain⟨i,j,e,⟨q1,q2,q3,q4⟩,q⟩:=q1
 subst e
 cases r1 with
|cons r rr =>
  cases rr with
 |cons r' rr =>
   cases rr
   obtain⟨t,rfl⟩:=r
   obtain⟨t',rfl⟩:=r'
   exact call_range_2 (qp6 I1 q1 q2 q3 q4 q)
def tFor(wi:TI)(g:TG)(tb:TS):TS:=λD σ H=>wi σ H λJ H1=>∃W:Nat->Nat->St->Hp->Prop,(∃m,W 0 m σ H1)/\∀i m σ H,W i m σ H ->
 (J.stop i H/\D.nx σ H)\/(J.go i H/\∃N:St->Hp->Prop,(∀σ' H',N σ' H'->∃m',m'<m/\W (i+1) m' σ' H')/\∀x H',J.yld i H x H'->g x σ H' λσ2 H2=>tb { D with nx:=N,ct:=N,bk:=D.nx } σ2 H2)
def qmd(fp:List Addr)(h:Heap):List (Addr×Obj):=fp.filterMap λb=>(h.get? b).map λo=>(b,o)
theorem qe6{fp:List Addr}{h:Heap}{b:Addr}{o:Obj}(hb:b∈fp)(e:h.get? b=some o):(b,o)∈qmd fp h:=List.mem_filterMap.mpr ⟨b,hb,by rw[e];rfl⟩
theorem quq{fp:List Addr}{h:Heap}{p:Addr×Obj}(hp:p∈qmd fp h):p.1∈fp/\h.get? p.1=some p.2:=by
 obtain⟨b,hb,e⟩:=List.mem_filterMap.mp hp
 cases q:h.get? b with
|none=>rw[q] at e;cases e
|some o =>
  rw[q] at e
  have e':(b,o)=p:=Option.some.inj e
  subst e'
  exact⟨hb,q⟩
theorem Inv.pinned{pins:List (Addr×Obj)}{σ:St}{H:Hp}{s:Shared}{fp:List Addr}(I:Inv X pins σ H s)(hf:∀b∈fp,FpOk X pins H b)(ho:∀b∈fp,∃o,s.heap.get? b=some o/\∀v,o.data≠.cell v):Inv X (pins++qmd fp s.heap) σ H s :=
 I.pins_of λp hp=>(List.mem_append.mp hp).elim (λz=>I.pin p (List.mem_append_right _ z)) λz=>by
  obtain⟨hb,e⟩:=quq z
  obtain⟨f0,f1,f2,_⟩:=hf p.1 hb
  obtain⟨o,e',d⟩:=ho p.1 hb
  rw[e] at e';cases e'
  exact⟨e,f0,f1,f2,d⟩
theorem Inv.unpinned{pins pl:List (Addr×Obj)}{σ:St}{H:Hp}{s:Shared}(I:Inv X (pins++pl) σ H s):Inv X pins σ H s:=I.pins_of λp hp=>I.pin p (List.mem_append_right _ (List.mem_append_left _ hp))
theorem q59{iter:Expr}{body:List Stmt}{wi:TI}{g:TG}{tb:TS}{pos:Pos}(hp:PassesOwn (model X.prog X.w) X.A X.env X.xe)(hc:X.calm=true)(hi:PI X tg iter wi)(hg:PG X tg g)(hb:PSs X body tb)
  (hs:∀x,foldedSetIterable iter X.env x=pure x:=by intro _;rfl):PS X (.For tg iter body [] pos) (tFor wi g tb):=by
 intro pins s σ H D I h
 refine wpAny_For (thn (hi pins s σ H _ I h) λv s1 h1=>thn h1 λitv s2 h2=>?_) hs
 obtain⟨it,fp,tn,J,H2,e,I2,T,st2,f2,W,⟨m0,w0⟩,turn⟩:=h2
 subst e
 have stat:∀ {H':Hp},(∀b∈fp,H' b=none)->∀b∈fp,FpOk X pins H' b:=λhn b hb=>⟨hn b hb,(f2 b hb).2⟩
 refine codeAny_forLoop_any (λn s'=>∃i σ' H',Inv X pins σ' H' s'/\tn i s'.heap/\(∀b∈fp,H' b=none)/\W i n σ' H') ?_ m0 ⟨0,σ,H2,I2,st2,λb hb=>(f2 b hb).1,w0⟩
 rintro n s3 ⟨i,σ3,H3,I3,st3,fr3,w3⟩
 rcases turn i n σ3 H3 w3 with ⟨stop,qn⟩|⟨go,N,hN,step⟩
 ·refine wpAny_passesOwn hp (thn (T.done X rfl rfl rfl hc i pins s3 σ3 H3 X.xe I3 (stat fr3) st3 stop) λr s4 ⟨hr,I4⟩=>?_)
  subst hr
  exact wpAny_execs_nil ⟨σ3,H3,I4,qn⟩
 ·refine wpAny_passesOwn hp (thn (T.item X rfl rfl rfl hc i pins s3 σ3 H3 X.xe I3 (stat fr3) st3 go) λr s4 ⟨u,hr,h4⟩=>?_)
  subst hr
  refine wpAny_passesOwn hp (thn h4 λ_ s5 ⟨x,H5,I5,r5,y5,st5,fr5⟩=>?_)
  have I5':=I5.pinned (stat fr5) (T.obj _ _ st5)
  refine wpAny_passesOwn hp (thn (hg _ s5 σ3 H5 x u _ I5' r5 (step x H5 y5)) λ_ s6 ⟨σ6,H6,I6,q6⟩=>?_)
  refine wpAny_passesOwn hp (thn (hb _ s6 σ6 H6 _ I6 q6) λf s7 q7=>?_)
  have again:∀ {σ7:St} {H7:Hp},Inv X (pins++qmd fp s5.heap) σ7 H7 s7->N σ7 H7->∃m,m<n/\∃i σ' H',Inv X pins σ' H' s7/\tn i s7.heap/\(∀b∈fp,H' b=none)/\W i m σ' H':=λ{σ7 H7} I7 n7=>by
   obtain⟨m',hm,w7⟩:=hN σ7 H7 n7
   refine⟨m',hm,i+1,σ7,H7,I7.unpinned,T.keep _ _ _ st5 λb hb o e=>(I7.pin (b,o) (List.mem_append_right _ (List.mem_append_right _ (qe6 hb e)))).1,λb hb=>?_,w7⟩
   obtain⟨o,e,d⟩:=T.obj _ _ st5 b hb
   exact(I7.pin (b,o) (List.mem_append_right _ (List.mem_append_right _ (qe6 hb e)))).2.1
  cases f with
 |next=>obtain⟨σ7,H7,I7,n7⟩:=q7;exact again I7 n7
 |cont=>obtain⟨σ7,H7,I7,n7⟩:=q7;exact again I7 n7
 |brk=>obtain⟨σ7,H7,I7,q7⟩:=q7;exact⟨σ7,H7,I7.unpinned,q7⟩
 |ret v=>obtain⟨x7,σ7,H7,I7,r7,q7⟩:=q7;exact⟨x7,σ7,H7,I7.unpinned,r7,q7⟩
end
end L2
namespace L2
open PySem PySem.Spec PyProof.Rows
abbrev R2:=V->V->Hp->VK->Prop
def OpR(X:Cx)(f:Value->Value->Sem Value)(r:R2):Prop :=
 ∀(pins:List (Addr×Obj)) (s:Shared) (σ:St) (H:Hp) (x y:V) (v u:Value) (Q:VK),Inv X pins σ H s->RelV x v->RelV y u->r x y H Q ->
  wpAny (model X.prog X.w) X.A (f v u) (EP X pins σ Q) X.xe s
def UnR(X:Cx)(f:Value->Sem Value)(r:V->Hp->VK->Prop):Prop :=
 ∀(pins:List (Addr×Obj)) (s:Shared) (σ:St) (H:Hp) (x:V) (v:Value) (Q:VK),Inv X pins σ H s->RelV x v->r x H Q ->
  wpAny (model X.prog X.w) X.A (f v) (EP X pins σ Q) X.xe s
def CallR(X:Cx)(f:Value)(r:List V->Hp->VK->Prop):Prop :=
 ∀(pins:List (Addr×Obj)) (s:Shared) (σ:St) (H:Hp) (xs:List V) (us:List Value) (Q:VK),Inv X pins σ H s->Vals xs us->r xs H Q ->
  wpAny (model X.prog X.w) X.A (call f us) (EP X pins σ Q) X.xe s
def tOp(r:R2)(ta tb:TE):TE:=λσ H Q=>ta σ H λx H1=>tb σ H1 λy H2=>r x y H2 Q
def tUn(r:V->Hp->VK->Prop)(ta:TE):TE:=λσ H Q=>ta σ H λx H1=>r x H1 Q
def rI(C:Int->Int->Prop)(g:Int->Int->V):R2:=λx y H Q=>∃i j,x=.int i/\y=.int j/\C i j/\Q (g i j) H
def rI0(g:Int->Int->V):R2:=λx y H Q=>∃i j,x=.int i/\y=.int j/\Q (g i j) H
def rU(g:Int->V):V->Hp->VK->Prop:=λx H Q=>∃i,x=.int i/\Q (g i) H
section
variable {X:Cx} {a b c:Expr} {ta tb tc:TE} {pos:Pos}
theorem binT(ha:PE X a ta)(hb:PE X b tb){pins:List (Addr×Obj)}{s:Shared}{σ:St}{H:Hp}{R:V->V->Hp->Prop}(I:Inv X pins σ H s)
  (h:ta σ H λx H1=>tb σ H1 λy H2=>R x y H2) {Q:Value->Shared->Prop} {f:Value->Value->Sem Value}
  (hf:∀v u s2 x y H2,Inv X pins σ H2 s2->RelV x v->RelV y u->R x y H2->wpAny (model X.prog X.w) X.A (f v u) Q X.xe s2) :
  wpAny (model X.prog X.w) X.A (eval a X.env) (λv s₁=>wpAny (model X.prog X.w) X.A (eval b X.env) (λu s₂=>wpAny (model X.prog X.w) X.A (f v u) Q X.xe s₂) X.xe s₁) X.xe s:=by
 refine thn (ha pins s σ H _ I h) λv s1 ⟨x,H1,I1,r1,q1⟩=>?_
 refine thn (hb pins s1 σ H1 _ I1 q1) λu s2 ⟨y,H2,I2,r2,q2⟩=>?_
 exact hf v u s2 x y H2 I2 r1 r2 q2
theorem q8n{op:Operator}{r:R2}(ho:OpR X (binaryOp op) r)(ha:PE X a ta)(hb:PE X b tb):PE X (.BinOp a op b pos) (tOp r ta tb):=by
 intro pins s σ H Q I h
 exact wpAny_BinOp (binT ha hb I h λv u s2 x y H2 I2 rx ry q=>ho pins s2 σ H2 x y v u Q I2 rx ry q)
theorem q8p{op:UnaryOp}{r:V->Hp->VK->Prop}(ho:UnR X (unaryOp op) r)(ha:PE X a ta):PE X (.UnaryOp op a pos) (tUn r ta):=by
 intro pins s σ H Q I h
 exact UnaryOp_ (thn (ha pins s σ H _ I h) λv s1 ⟨x,H1,I1,r1,q1⟩=>ho pins s1 σ H1 x v Q I1 r1 q1)
theorem opI{f:Value->Value->Sem Value}{C:Int->Int->Prop}{g:Int->Int->Int}
  (rule:∀(i j:Int) (t u:Tok) (s:Shared) (Q:Value->Shared->Prop) (E:Value->Shared->Prop),C i j->Q (.int (g i j) s.toks) { s with toks:=s.toks+1 }->wpAny (model X.prog X.w) X.A (f (.int i t) (.int j u)) Q E s) :
  OpR X f (rI C λi j=>.int (g i j)):=by
 intro pins s σ H x y v u Q I rx ry h
 obtain⟨i,j,rfl,rfl,hc,q⟩:=h
 obtain⟨t,rfl⟩:=rx
 obtain⟨t',rfl⟩:=ry
 exact rule i j t t' s _ _ hc ⟨.int (g i j),H,I.tok _,⟨_,rfl⟩,q⟩
theorem opI0{f:Value->Value->Sem Value}{g:Int->Int->Int}
  (rule:∀(i j:Int) (t u:Tok) (s:Shared) (Q:Value->Shared->Prop) (E:Value->Shared->Prop),Q (.int (g i j) s.toks) { s with toks:=s.toks+1 }->wpAny (model X.prog X.w) X.A (f (.int i t) (.int j u)) Q E s) :
  OpR X f (rI0 λi j=>.int (g i j)):=by
 intro pins s σ H x y v u Q I rx ry h
 obtain⟨i,j,rfl,rfl,q⟩:=h
 obtain⟨t,rfl⟩:=rx
 obtain⟨t',rfl⟩:=ry
 exact rule i j t t' s _ _ ⟨.int (g i j),H,I.tok _,⟨_,rfl⟩,q⟩
theorem opB0{f:Value->Value->Sem Value}{g:Int->Int->Bool}
  (rule:∀(i j:Int) (t u:Tok) (s:Shared) (Q:Value->Shared->Prop) (E:Value->Shared->Prop),Q (.bool (g i j)) s->wpAny (model X.prog X.w) X.A (f (.int i t) (.int j u)) Q E s) :
  OpR X f (rI0 λi j=>.bl (g i j)):=by
 intro pins s σ H x y v u Q I rx ry h
 obtain⟨i,j,rfl,rfl,q⟩:=h
 obtain⟨t,rfl⟩:=rx
 obtain⟨t',rfl⟩:=ry
 exact rule i j t t' s _ _ ⟨.bl (g i j),H,I,rfl,q⟩
def CDiv(i j:Int):Prop:=0<j/\j<1073741824
def CPow(i j:Int):Prop:=0<=j/\j<=1000000/\i.natAbs<2 ^ 64
def CMul(i j:Int):Prop:=(-(2 ^ 64)<i/\i<2 ^ 64)\/(-(2 ^ 64)<j/\j<2 ^ 64)
theorem CMul.ok{i j:Int}(h:CMul i j):IntMulOk i j:=by
 rcases h with ⟨h1,h2⟩|⟨h1,h2⟩
 ·exact .of_left (intBits_le_64 h1 h2)
 ·exact .of_right (intBits_le_64 h1 h2)
theorem op_add:OpR X (binaryOp .Add) (rI0 λi j=>.int (i+j)):=opI0 λ_ _ _ _ _ _ _ q=>add_int q
theorem q5s:OpR X (binaryOp .Sub) (rI0 λi j=>.int (i-j)):=opI0 λ_ _ _ _ _ _ _ q=>sub_int q
theorem q5p:OpR X (binaryOp .Mult) (rI CMul λi j=>.int (i*j)):=opI λ_ _ _ _ _ _ _ hc q=>mul_int q hc.ok
theorem q17:OpR X (binaryOp .FloorDiv) (rI CDiv λi j=>.int (i / j)):=opI λi j _ _ _ _ _ hc q=>by
 have h1:(0:Int)<j:=hc.1
 have h2:j<1073741824:=hc.2
 exact floordiv_int (by lia) (by rw[Int.fdiv_eq_ediv_of_nonneg i (by lia)];exact q) (.inl (PyProof.noPylong_small (by lia)))
theorem q5o:OpR X (binaryOp .Mod) (rI (λ_ j=>0<j) λi j=>.int (i%j)):=opI λi j _ _ _ _ _ hc q=>by
 have h1:(0:Int)<j:=hc
 exact mod_int' (by lia) (by rw[Int.fmod_eq_emod_of_nonneg i (by lia)];exact q)
theorem q5r:OpR X (binaryOp .Pow) (rI CPow λi j=>.int (i ^ j.toNat)):=opI λ_ _ _ _ _ _ _ hc q=>pow_int_small hc.1 hc.2.1 hc.2.2 q
theorem unI{f:Value->Sem Value}{g:Int->Int}
  (rule:∀(i:Int) (t:Tok) (s:Shared) (Q:Value->Shared->Prop) (E:Value->Shared->Prop),Q (.int (g i) s.toks) { s with toks:=s.toks+1 }->wpAny (model X.prog X.w) X.A (f (.int i t)) Q E s) :
  UnR X f (rU λi=>.int (g i)):=by
 intro pins s σ H x v Q I rx h
 obtain⟨i,rfl,q⟩:=h
 obtain⟨t,rfl⟩:=rx
 exact rule i t s _ _ ⟨.int (g i),H,I.tok _,⟨_,rfl⟩,q⟩
theorem q7o:UnR X (unaryOp .USub) (rU λi=>.int (-i)):=unI λ_ _ _ _ _ q=>neg_int q
end
def scal:V->V->Bool
|.non,.non=>true|.non,.int _=>true|.int _,.non=>true|.non,.bl _=>true|.bl _,.non=>true|.non,.str _=>true|.str _,.non=>true
|.int _,.int _=>true|.bl _,.bl _=>true|.str _,.str _=>true|.byt _,.byt _=>true
|.int _,.str _=>true|.str _,.int _=>true|.bl _,.str _=>true|.str _,.bl _=>true
|_,_=>false
def rEq:R2:=λx y H Q=>scal x y=true/\Q (.bl (decide (x=y))) H
def rNe:R2:=λx y H Q=>scal x y=true/\Q (.bl (!decide (x=y))) H
theorem qtj{i j:Int}:decide (V.int i=V.int j)=(i==j):=by
 rw[Bool.eq_iff_iff]
 simp
theorem qzz{i j:Bool}:decide (V.bl i=V.bl j)=(i==j):=by
 rw[Bool.eq_iff_iff]
 simp
theorem qtk{i j:Str}:decide (V.str i=V.str j)=(i==j):=by
 rw[Bool.eq_iff_iff]
 simp
theorem qti{i j:Array UInt8}:decide (V.byt i=V.byt j)=(i.toList==j.toList):=by
 rw[Bool.eq_iff_iff]
 cases i
 cases j
 simp
section
variable {X:Cx} {a b c:Expr} {ta tb tc:TE} {pos:Pos}
theorem qbb{pins:List (Addr×Obj)}{σ:St}{H:Hp}{s:Shared}{Q:VK}{k k':Bool}(I:Inv X pins σ H s)(q:Q (.bl k) H)(e:k=k'):EP X pins σ Q (.bool k') s:=by
 subst e
 exact⟨.bl k,H,I,rfl,q⟩
theorem q8e:OpR X (compareOp .Eq) rEq:=by
 intro pins s σ H x y v u Q I rx ry h
 obtain⟨hs,q⟩:=h
 cases x with
|non =>
  cases rx
  cases y with
 |non=>cases ry;exact PySem.EqNone.eq_none_none (qbb I q (by simp))
 |bl j=>cases ry;exact PySem.EqNone.eq_none_bool (qbb I q (by simp))
 |int j=>obtain⟨t',rfl⟩:=ry;exact PySem.EqNone.eq_none_int (qbb I q (by simp))
 |str j=>obtain⟨t',rfl⟩:=ry;exact PySem.EqNone.eq_none_str (qbb I q (by simp))
 |_=>exact absurd (show false=true from hs) Bool.false_ne_true
|bl i =>
  cases rx
  cases y with
 |non=>cases ry;exact PySem.EqNone.eq_bool_none (qbb I q (by simp))
 |bl j=>cases ry;exact eq_bool (qbb I q qzz)
 |str j=>obtain⟨t',rfl⟩:=ry;exact PySem.EqMixed.eq_bool_str (qbb I q (by simp))
 |_=>exact absurd (show false=true from hs) Bool.false_ne_true
|int i =>
  obtain⟨t,rfl⟩:=rx
  cases y with
 |non=>cases ry;exact PySem.EqNone.eq_int_none (qbb I q (by simp))
 |int j=>obtain⟨t',rfl⟩:=ry;exact eq_int (qbb I q qtj)
 |str j=>obtain⟨t',rfl⟩:=ry;exact PySem.EqMixed.eq_int_str (qbb I q (by simp))
 |_=>exact absurd (show false=true from hs) Bool.false_ne_true
|str i =>
  obtain⟨t,rfl⟩:=rx
  cases y with
 |non=>cases ry;exact PySem.EqNone.eq_str_none (qbb I q (by simp))
 |bl j=>cases ry;exact PySem.EqMixed.eq_str_bool (qbb I q (by simp))
 |int j=>obtain⟨t',rfl⟩:=ry;exact PySem.EqMixed.eq_str_int (qbb I q (by simp))
 |str j=>obtain⟨t',rfl⟩:=ry;exact eq_str (qbb I q qtk)
 |_=>exact absurd (show false=true from hs) Bool.false_ne_true
|byt i =>
  obtain⟨t,rfl⟩:=rx
  cases y with
 |byt j=>obtain⟨t',rfl⟩:=ry;exact PySem.W.eq_bytes (qbb I q qti)
 |_=>exact absurd (show false=true from hs) Bool.false_ne_true
|_=>cases y<;>exact absurd (show false=true from hs) Bool.false_ne_true
theorem q8i:OpR X (compareOp .NotEq) rNe:=by
 intro pins s σ H x y v u Q I rx ry h
 obtain⟨hs,q⟩:=h
 cases x with
|non =>
  cases rx
  cases y with
 |non=>cases ry;exact PySem.EqNone.ne_none_none (qbb I q (by simp))
 |bl j=>cases ry;exact PySem.EqNone.ne_none_bool (qbb I q (by simp))
 |int j=>obtain⟨t',rfl⟩:=ry;exact PySem.EqNone.ne_none_int (qbb I q (by simp))
 |str j=>obtain⟨t',rfl⟩:=ry;exact PySem.EqNone.ne_none_str (qbb I q (by simp))
 |_=>exact absurd (show false=true from hs) Bool.false_ne_true
|bl i =>
  cases rx
  cases y with
 |non=>cases ry;exact PySem.EqNone.ne_bool_none (qbb I q (by simp))
 |bl j=>cases ry;exact ne_bool (qbb I q (congrArg not qzz))
 |str j=>obtain⟨t',rfl⟩:=ry;exact PySem.EqMixed.ne_bool_str (qbb I q (by simp))
 |_=>exact absurd (show false=true from hs) Bool.false_ne_true
|int i =>
  obtain⟨t,rfl⟩:=rx
  cases y with
 |non=>cases ry;exact PySem.EqNone.ne_int_none (qbb I q (by simp))
 |int j=>obtain⟨t',rfl⟩:=ry;exact ne_int (qbb I q (congrArg not qtj))
 |str j=>obtain⟨t',rfl⟩:=ry;exact PySem.EqMixed.ne_int_str (qbb I q (by simp))
 |_=>exact absurd (show false=true from hs) Bool.false_ne_true
|str i =>
  obtain⟨t,rfl⟩:=rx
  cases y with
 |non=>cases ry;exact PySem.EqNone.ne_str_none (qbb I q (by simp))
 |bl j=>cases ry;exact PySem.EqMixed.ne_str_bool (qbb I q (by simp))
 |int j=>obtain⟨t',rfl⟩:=ry;exact PySem.EqMixed.ne_str_int (qbb I q (by simp))
 |str j=>obtain⟨t',rfl⟩:=ry;exact ne_str (qbb I q (congrArg not qtk))
 |_=>exact absurd (show false=true from hs) Bool.false_ne_true
|byt i =>
  obtain⟨t,rfl⟩:=rx
  cases y with
 |byt j=>obtain⟨t',rfl⟩:=ry;exact PySem.W.ne_bytes (qbb I q (congrArg not qti))
 |_=>exact absurd (show false=true from hs) Bool.false_ne_true
|_=>cases y<;>exact absurd (show false=true from hs) Bool.false_ne_true
theorem q8h:OpR X (compareOp .Lt) (rI0 λi j=>.bl (decide (i<j))):=opB0 λ_ _ _ _ _ _ _ q=>lt_int q
theorem q8g:OpR X (compareOp .LtE) (rI0 λi j=>.bl (decide (i<=j))):=opB0 λ_ _ _ _ _ _ _ q=>le_int q
theorem q8f:OpR X (compareOp .Gt) (rI0 λi j=>.bl (decide (j<i))):=opB0 λ_ _ _ _ _ _ _ q=>gt_int q
theorem op_in_str:OpR X (compareOp .In) (λx y H Q=>∃i j,x=.str i/\y=.str j/\Q (.bl (!(Builtin.Str.occurrences j i 0 j.length 1).isEmpty)) H):=by
 intro pins s σ H x y v u Q I rx ry h
 obtain⟨i,j,rfl,rfl,q⟩:=h
 obtain⟨t,rfl⟩:=rx
 obtain⟨t',rfl⟩:=ry
 exact in_str (qbb I q rfl)
theorem q5n:OpR X (compareOp .Is) (λx y H Q=>y=.non/\Q (.bl (decide (x=.non))) H):=by
 intro pins s σ H x y v u Q I rx ry h
 obtain⟨rfl,q⟩:=h
 cases ry
 refine is_none_gen (qbb I q ?_)
 cases x<;>first
 |(cases rx;rfl)
 |(obtain⟨t,rfl⟩:=rx;rfl)
theorem q19:OpR X (compareOp .IsNot) (λx y H Q=>y=.non/\Q (.bl (!decide (x=.non))) H):=by
 intro pins s σ H x y v u Q I rx ry h
 obtain⟨rfl,q⟩:=h
 cases ry
 refine isnot_none_gen (qbb I q ?_)
 cases x<;>first
 |(cases rx;rfl)
 |(obtain⟨t,rfl⟩:=rx;rfl)
theorem OpR.or{f:Value->Value->Sem Value}{r r':R2}(h:OpR X f r)(h':OpR X f r'):OpR X f (λx y H Q=>r x y H Q\/r' x y H Q):=by
 intro pins s σ H x y v u Q I rx ry q
 rcases q with q|q
 ·exact h pins s σ H x y v u Q I rx ry q
 ·exact h' pins s σ H x y v u Q I rx ry q
theorem q2h{op:CmpOp}{r:R2}(ho:OpR X (compareOp op) r)(ha:PE X a ta)(hb:PE X b tb)(hm:behindInMarks op b=false):PE X (.Compare a [op] [b] pos) (tOp r ta tb):=by
 intro pins s σ H Q I h
 exact wpAny_Compare1 (binT ha hb I h λv u s2 x y H2 I2 rx ry q=>ho pins s2 σ H2 x y v u Q I2 rx ry q) hm
def qzg(t:TE):TT:=λσ H Q=>t σ H λx H'=>∃k,x=.bl k/\Q k H'
theorem q2v{op:CmpOp}{r:R2}(ho:OpR X (compareOp op) r)(ha:PE X a ta)(hb:PE X b tb)(hm:behindInMarks op b=false):PT X (.Compare a [op] [b] pos) (qzg (tOp r ta tb)):=by
 intro pins s σ H Q I h
 refine wpAny_isTrue_Compare1 (thn (ha pins s σ H _ I h) λv s1 ⟨x,H1,I1,r1,q1⟩=>thn (hb pins s1 σ H1 _ I1 q1) λu s2 ⟨y,H2,I2,r2,q2⟩ =>
  thn (ho pins s2 σ H2 x y v u _ I2 r1 r2 q2) λc s3 ⟨z,H3,I3,r3,k,e,q3⟩=>?_) hm
 subst e
 cases r3
 exact wpAny_truthy_bool ⟨H3,I3,q3⟩
def qvv(r r':R2)(ta tb tc:TE):TE:=λσ H Q=>ta σ H λx H1=>tb σ H1 λy H2=>r x y H2 λz H3=>∃k,z=.bl k /\
 (if k=true then tc σ H3 λw' H4=>r' y w' H4 Q else Q (.bl false) H3)
theorem qyo{op op':CmpOp}{r r':R2}(ho:OpR X (compareOp op) r)(ho':OpR X (compareOp op') r')(ha:PE X a ta)(hb:PE X b tb)(hc:PE X c tc)
  (hm:lastMarks [op,op'] [b,c]=false:=by with_unfolding_all rfl):PT X (.Compare a [op,op'] [b,c] pos) (qzg (qvv r r' ta tb tc)):=by
 intro pins s σ H Q I h
 refine isTrue_chain (thn (ha pins s σ H _ I h) λv s1 ⟨x,H1,I1,r1,q1⟩=>test_link (thn (hb pins s1 σ H1 _ I1 q1) λu s2 ⟨y,H2,I2,r2,q2⟩ =>
  thn (ho pins s2 σ H2 x y v u _ I2 r1 r2 q2) λd s3 ⟨z,H3,I3,r3,k,e,q3⟩=>?_)) hm
 subst e
 cases r3
 refine wpAny_truthy_bool ?_
 cases k with
|false =>
  obtain⟨k',e',q'⟩:=q3
  cases e'
  exact ite_ff ⟨H3,I3,q'⟩
|true =>
  refine ite_tt (test_last (thn (hc pins s3 σ H3 _ I3 q3) λw' s4 ⟨z',H4,I4,r4,q4⟩=>thn (ho' pins s4 σ H4 y z' u w' _ I4 r2 r4 q4) λd' s5 ⟨z2,H5,I5,r5,k2,e2,q5⟩=>?_))
  subst e2
  cases r5
  exact wpAny_truthy_bool ⟨H5,I5,q5⟩
theorem ql8:(sizeLine:Nat)<2 ^ 63:=by rw[sizeLine_eq];decide
theorem op_add_str:OpR X (binaryOp .Add) (λx y H Q=>∃i j,x=.str i/\y=.str j/\i.length+j.length<=sizeLine/\Q (.str (i++j)) H):=by
 intro pins s σ H x y v u Q I rx ry h
 obtain⟨i,j,rfl,rfl,hz,q⟩:=h
 obtain⟨t,rfl⟩:=rx
 obtain⟨t',rfl⟩:=ry
 exact add_str (λt' tk=>⟨.str (i++j),H,I.tok _,⟨_,rfl⟩,q⟩) hz
theorem vals1{x:V}{us:List Value}(r:Vals [x] us):∃u,us=[u]/\RelV x u:=by
 cases r with
|cons r1 r2=>cases r2;exact⟨_,rfl,r1⟩
theorem vals2{x y:V}{us:List Value}(r:Vals [x,y] us):∃u w',us=[u,w']/\RelV x u/\RelV y w':=by
 cases r with
|cons r1 r2 =>
  cases r2 with
 |cons r3 r4=>cases r4;exact⟨_,_,rfl,r1,r3⟩
theorem qtb(hc:X.calm=true):CallR X (.builtin "max") (λxs H Q=>∃i j,xs=[.int i,.int j]/\Q (.int (if j>i then j else i)) H):=by
 intro pins s σ H xs us Q I r h
 obtain⟨i,j,rfl,q⟩:=h
 obtain⟨u,w',rfl,⟨t,rfl⟩,⟨t',rfl⟩⟩:=vals2 r
 refine max_two_ints (I.ok.hd hc) λh' tk k=>⟨_,H,I.kept k,?_,q⟩
 by_cases hj:j>i
 ·rw[if_pos hj,if_pos hj];exact⟨_,rfl⟩
 ·rw[if_neg hj,if_neg hj];exact⟨_,rfl⟩
theorem qlr:CallR X (.type "str") (λxs H Q=>∃i,xs=[.int i]/\i.natAbs.log2<1920/\Q (.str (toString i)) H):=by
 intro pins s σ H xs us Q I r h
 obtain⟨i,rfl,hz,q⟩:=h
 obtain⟨u,rfl,t,rfl⟩:=vals1 r
 exact PySem.P.str_of_int hz ⟨.str _,H,I.tok _,⟨_,rfl⟩,q⟩
end
end L2
namespace L2
open PySem PySem.Spec PyProof.Rows
structure ObjM(h:Heap)(x dx C:Addr)(mA:Str->Option Value):Prop where
 obj:h.get? x=some (PySem.W.instObj C dx)
 ns:h.Ns1 dx mA
 ne:dx≠x
theorem qui{h:Heap}{dx:Addr}{mA:Str->Option Value}(n:h.Ns1 dx mA):∃od,h.get? dx=some od/\∀name,PySem.W.lookIn name od=some (mA name):=by
 obtain⟨o,es,ep,ho,hd,hk,_,hm⟩:=n
 refine⟨o,ho,λname=>?_⟩
 have e:=hm name
 unfold nsFind findBy at e
 rw[←Array.find?_toList] at e
 unfold PySem.W.lookIn
 rw[hd]
 dsimp only
 split
 ·rename_i y q
  rw[q] at e
  exact congrArg some e
 ·rename_i q
  rw[q] at e
  have a:es.toList.any (·.refKey)=false:=by
   rw[List.any_eq_false]
   intro y hy
   obtain⟨z,t,hkey⟩:=hk y (Array.mem_toList_iff.mp hy)
   simp[DictEntry.refKey,hkey]
  have a':¬ es.toList.any (·.refKey)=true:=by rw[a];exact Bool.false_ne_true
  rw[if_neg a']
  exact congrArg some e
theorem ObjM.look{h:Heap}{x dx C:Addr}{mA:Str->Option Value}(I:ObjM h x dx C mA):∃od,PySem.W.InstAt h x (PySem.W.instObj C dx) C (some od)/\∀name,PySem.W.lookIn name od=some (mA name) :=
 let ⟨od,ho,hl⟩:=qui I.ns
 ⟨od,⟨I.obj,rfl,rfl,ho⟩,hl⟩
section
variable {prog:Program} {w:World} {A:Around} {E:Value->Shared->Prop} {s:Shared} {K:PySem.W.Frag} {x dx C f:Addr} {mA:Str->Option Value} {name:Str} {v:Value}
end
theorem RelO.some_of{v:V}{o:Option Value}(r:RelO (some v) o):∃u,o=some u/\RelV v u:=by
 cases o with
|none=>exact(show False from r).elim
|some u=>exact⟨u,rfl,r⟩
section
variable {P:Program} {w:World} {H H':Hp} {h h':Heap} {a C dx:Addr} {fs fs':List (Str×V)}
theorem q1f(hok:HOk P w H h)(e:H a=some (.ins C dx fs)):∃mA,ObjM h a dx C mA/\(∀f,RelO (fs.lookup f) (mA f))/\PySem.Within mA (fs.map (·.1))/\fs.length<=1000/\H dx=some (.own a):=by
 obtain⟨d,z,ne,ob,mA,n,r,q⟩:=(show ObjOk P w H h a (.ins C dx fs) from hok a _ e)
 exact⟨mA,⟨ob,n,ne⟩,r,q,z,d⟩
end
structure Cls(K:PySem.W.Frag)(C:Addr):Prop where
 pg:PySem.W.plainGet K C Str.empty=true
 hd:PySem.W.hasDictIn K C=true
 po:PySem.W.plainOver K C=true
 sa:PySem.W.findIn K (.ref C) "__setattr__" = some (some (.builtin "object.__setattr__"))
theorem Cls.get{K:PySem.W.Frag}{C:Addr}(c:Cls K C)(f:Str):PySem.W.plainGet K C f=true:=c.pg
structure Con(K:PySem.W.Frag)(C:Addr)(f:Str)(v:V)(u:Value):Prop where
 at_:PySem.W.findIn K (.ref C) f=some (some u)
 rel:RelV v u
 get:PySem.W.specialIn K u "__get__" = some none
 cp:PySem.W.copiedNames.contains f=false
structure Meth(K:PySem.W.Frag)(C:Addr)(m:Str)(f:Addr):Prop where
 at_:PySem.W.findIn K (.ref C) m=some (some (.ref f))
 fn:PySem.W.isFn K (.ref f)=true
 kp:PySem.W.keepIn K (.ref f)=true
section
variable {X:Cx} {pins:List (Addr×Obj)} {σ:St} {H:Hp} {s:Shared} {a C dx:Addr} {fs:List (Str×V)} {f:Str} {v:V} {A:Around} {E:Value->Shared->Prop}
end
section
variable {X:Cx} {o e value:Expr} {f:Str} {pos pos' tpos:Pos} {ta tv:TE}
end
section
variable {X:Cx} {pins:List (Addr×Obj)} {σ:St} {H:Hp} {s:Shared} {A:Around} {E:Value->Shared->Prop} {Q:Value->Shared->Prop} {c:Value} {b:Bool}
inductive TyOf(K:PySem.W.Frag)(H:Hp):V->Value->Prop where
|non:TyOf K H .non (.type "NoneType")
|bl (x:Bool):TyOf K H (.bl x) (.type "bool")
|int (i:Int):TyOf K H (.int i) (.type "int")
|str (x:Str):TyOf K H (.str x) (.type "str")
|flt (x:UInt64):TyOf K H (.flt x) (.type "float")
|lst {a:Addr} {xs:List V} (e:H a=some (.lst xs)):TyOf K H (.ref a) (.type "list")
|frz {a:Addr} {o:Obj} {xs:List V} (e:H a=some (.frz o (.lst xs))):TyOf K H (.ref a) (.type "list")
|tup {a:Addr} {xs:List V} (e:H a=some (.tup xs)):TyOf K H (.ref a) (.type "tuple")
|dK {a:Addr} {kvs:List (Key×V)} (e:H a=some (.dK kvs)):TyOf K H (.ref a) (.type "dict")
|dT {a:Addr} {kvs:List (List Key×V)} (e:H a=some (.dT kvs)):TyOf K H (.ref a) (.type "dict")
|ins {a C dx:Addr} {fs:List (Str×V)} (e:H a=some (.ins C dx fs)) (cl:Cls K C) (ha:PySem.W.findIn K (.ref C) "__class__" = some (some (.builtin "object.__class__")))
   (hn:PySem.W.specialIn K (.builtin "object.__class__") "__get__" = some (some (.builtin "getset_descriptor.__get__"))) (htk:PySem.W.takesIn K (.builtin "object.__class__")=some true)
   (hm:PySem.W.mroIn K C (.type "object")=some true):TyOf K H (.ref a) (.ref C)
theorem qen{x:V}{u t:Value}(I:Inv X pins σ H s)(rx:RelV x u)(ty:TyOf X.K H x t)(e:PySem.W.kitOne X.K t c=some b)(h:∀tk,Q (.bool b) { s with toks:=tk }) :
  wpAny (model X.prog X.w) A (call (.builtin "isinstance") [u,c]) Q E s:=by
 cases ty with
|non=>cases (show u=Value.none from rx);exact PySem.W.kia_one PySem.W.kitx_none I.kIn True.intro e (λz=>nomatch z) h
|bl y=>cases (show u=Value.bool y from rx);exact PySem.W.kia_one PySem.W.kitx_bool I.kIn True.intro e (λz=>nomatch z) h
|int i=>obtain⟨t,q⟩:=(show ∃t,u=Value.int i t from rx);cases q;exact PySem.W.kia_one PySem.W.kitx_int I.kIn True.intro e (λz=>nomatch z) h
|str y=>obtain⟨t,q⟩:=(show ∃t,u=Value.str y t from rx);cases q;exact PySem.W.kia_one PySem.W.kitx_str I.kIn True.intro e (λz=>nomatch z) h
|flt y=>obtain⟨t,q⟩:=(show ∃t,u=Value.float y t from rx);cases q;exact PySem.W.kia_one PySem.W.kitx_float I.kIn True.intro e (λz=>nomatch z) h
|@lst a xs ea =>
  cases (show u=Value.ref a from rx)
  obtain⟨_,_,n,_,h1⟩:=(show ObjOk X.prog X.w H s.heap a (.lst xs) from I.hok a _ ea)
  exact PySem.W.kia_one PySem.W.kitx_list I.kIn ⟨_,h1,rfl⟩ e (λz=>nomatch z) h
|@frz a ob xs ea =>
  cases (show u=Value.ref a from rx)
  obtain⟨_,_,_,n,_,h1⟩:=(show ObjOk X.prog X.w H s.heap a (.frz ob (.lst xs)) from I.hok a _ ea)
  exact PySem.W.kia_one PySem.W.kitx_list I.kIn ⟨_,h1,rfl⟩ e (λz=>nomatch z) h
|@tup a xs ea =>
  cases (show u=Value.ref a from rx)
  obtain⟨_,_,_,p⟩:=(show ObjOk X.prog X.w H s.heap a (.tup xs) from I.hok a _ ea)
  obtain⟨o,h1,h2,_⟩:=p
  exact PySem.W.kia_one PySem.W.kitx_tuple I.kIn ⟨o,h1,h2⟩ e (λz=>nomatch z) h
|@dK a kvs ea =>
  cases (show u=Value.ref a from rx)
  obtain⟨_,_,vs,_,p⟩:=(show ObjOk X.prog X.w H s.heap a (.dK kvs) from I.hok a _ ea)
  obtain⟨o,es,ep,h1,h2,_⟩:=p
  exact PySem.W.kia_one PySem.W.kitx_dict I.kIn ⟨o,h1,h2.1⟩ e (λz=>nomatch z) h
|@dT a kvs ea =>
  cases (show u=Value.ref a from rx)
  obtain⟨_,_,xs,_,o,es,ep,h1,h2,_⟩:=(show ObjOk X.prog X.w H s.heap a (.dT kvs) from I.hok a _ ea)
  exact PySem.W.kia_one PySem.W.kitx_dict I.kIn ⟨o,h1,h2.1⟩ e (λz=>nomatch z) h
|@ins a C dx fs ea cl ha hn htk hm =>
  cases (show u=Value.ref a from rx)
  obtain⟨mA,O,_⟩:=q1f I.hok ea
  obtain⟨od,J,_⟩:=O.look
  exact PySem.W.kia_one (PySem.W.kitx_own (cl.get _) cl.hd ha hn htk hm) I.kIn J e (λz=>nomatch z) h
end
end L2
namespace L2
open PySem PySem.Spec PyProof.Rows
structure Room(k:Nat)(A:Around):Prop where
 hd:A.handled=none
 dp:A.depth+3*k+5<recursionLimit
 un:A.units+16*k+200<cLine
theorem Room.mono{j k:Nat}{A:Around}(r:Room k A)(h:j<=k):Room j A:=⟨r.hd,by have:=r.dp;lia,by have:=r.un;lia⟩
theorem Room.deeper{k:Nat}{A:Around}(r:Room (k+1) A)(env:Env):Room k (A.deeper env) :=
 ⟨r.hd,by have:=r.dp;show A.depth+1+3*k+5<_;lia,by have:=r.un;show A.units+3+16*k+200<_;lia⟩
theorem Room.depth{k:Nat}{A:Around}(r:Room k A):A.depth<recursionLimit:=by have:=r.dp;lia
theorem Room.units{k:Nat}{A:Around}(r:Room k A):A.units+64<cLine:=by have:=r.un;lia
def tNil:TA:=λ_ H Q=>Q [] H
def qzf(ta:TE)(tr:TA):TA:=λσ H Q=>ta σ H λx H1=>tr σ H1 λxs H2=>Q (x::xs) H2
section
variable {X:Cx} {e:Expr} {es:List Expr} {te:TE} {t:TA} {pos:Pos}
theorem q5u:PA X [] tNil:=λ_ _ _ _ H Q I h=>Calls.spliced_nil ⟨[],H,I,.nil,h⟩
theorem q2e(ha:PE X e te)(hr:PA X es t)(hs:starEach (e::es) X.env=(false,eval e X.env)::starEach es X.env:=by rfl):PA X (e::es) (qzf te t):=by
 intro pos pins s σ H Q I h
 rw[hs]
 show wpAny _ _ (spliced ((false,eval e X.env)::backTo pos (starEach es X.env))) _ _ s
 refine Calls.spliced_cons (thn (ha pins s σ H _ I h) λu s1 ⟨x,H1,I1,r1,q1⟩=>?_)
 exact thn (hr pos pins s1 σ H1 _ I1 q1) λus s2 ⟨xs,H2,I2,r2,q2⟩=>⟨x::xs,H2,I2,.cons r1 r2,q2⟩
def tTup(t:TA):TE:=λσ H Q=>t σ H λxs H1=>xs.length<=sizeLine/\∀p,H1 p=none->Q (.ref p) (upd H1 p (.tup xs))
def tLst(t:TA):TE:=λσ H Q=>t σ H λxs H1=>xs.length<=sizeLine/\∀p,H1 p=none->Q (.ref p) (upd H1 p (.lst xs))
theorem q55{x1}(h:PA X es t):PE X (.Tuple es x1 pos) (tTup t):=by
 intro pins s σ H Q I hq
 refine wpAny_Tuple_spliced (thn (h pos pins s σ H _ I hq) λus s1 ⟨xs,H1,I1,r,z,q⟩=>⟨by rw[←r.length];exact z,?_⟩)
 have hf:H1 s1.heap.objs.size=none:=I1.hok.fresh (Nat.le_refl _)
 refine⟨.ref s1.heap.objs.size,upd H1 s1.heap.objs.size (.tup xs),I1.laid (t':=s1.toks) (λb u e=>Heap.get?_push_of_some _ e) (Nat.le_refl _) ?_,rfl,q _ hf⟩
 exact⟨z,us,r,⟨_,Heap.get?_push_size _ rfl,rfl,_,rfl⟩⟩
theorem q50(h:PA X es t):PE X (.List es pos) (tLst t):=by
 intro pins s σ H Q I hq
 refine wpAny_List_spliced (thn (h pos pins s σ H _ I hq) λus s1 ⟨xs,H1,I1,r,z,q⟩=>⟨by rw[←r.length];exact z,?_⟩)
 have hf:H1 s1.heap.objs.size=none:=I1.hok.fresh (Nat.le_refl _)
 refine⟨.ref s1.heap.objs.size,upd H1 s1.heap.objs.size (.lst xs),I1.laid (t':=s1.toks) (λb u e=>Heap.get?_push_of_some _ e) (Nat.le_refl _) ?_,rfl,q _ hf⟩
 exact⟨z,us,0,r,Heap.get?_push_size _ rfl⟩
end
abbrev Sp:=List V->Hp->VK->XK->Prop
abbrev CXT:=List Env->Hp->Shared->XK->Value->Shared->Prop
structure Env0(P:Program)(w:World)(K:PySem.W.Frag)(mg:Str->Option Value)(base:Heap)(A:Around)(outer:List Env)(s:Shared)(H:Hp):Prop where
 frames:A.frames=some outer
 mod:Mod K mg base
 bs:∀b o,base.get? b=some o->s.heap.get? b=some o/\H b=none
 bsz:base.objs.size<=s.heap.objs.size
 funs:s.heap.FunFrames base outer
 frf:∀b∈frs outer,H b=none
 hok:HOk P w H s.heap
 bare:AllBare s.gens
def CE(outer:List Env)(P:Program)(w:World)(H:Hp)(s:Shared)(Q:VK)(u:Value)(s':Shared):Prop :=
 ∃v H',s'.os=s.os/\AllBare s'.gens/\Un (frs outer) [] H H' s.heap s'.heap/\HOk P w H' s'.heap/\RelV v u/\Q v H'
def CR(CX:CXT)(outer:List Env)(P:Program)(w:World)(H:Hp)(s:Shared)(Q:VK)(E:XK)(r:Result)(s':Shared):Prop :=
 match r with
|.ok (.ret u)=>CE outer P w H s Q u s'
|.ok _=>False
|.error e=>CX outer H s E e s'
structure FnOk(P:Program)(w:World)(K:PySem.W.Frag)(mg:Str->Option Value)(base:Heap)(CX:CXT)(k:Nat)(f:Addr)(fd:FuncData)(ps:List Str)(sp:Sp):Prop where
 len:∀vs H Q E,sp vs H Q E->vs.length=ps.length
 run:∀(A:Around) (outer:List Env) (s:Shared) (H:Hp) (args:Args) (us:List Value) (vs:List V) (Q:VK) (E:XK),Room k A->Env0 P w K mg base A outer s H->BindsTo s fd args (ps.zip us)->Vals vs us->sp vs H Q E ->
  codeAny (model P w) A (.call (.ref f) args) (CR CX outer P w H s Q E) s
section
variable {X:Cx} {pins:List (Addr×Obj)} {σ:St} {H:Hp} {s s':Shared}
theorem Inv.env0(I:Inv X pins σ H s):Env0 X.prog X.w X.K X.mg X.base X.A X.stack s H :=
 ⟨I.ok.frames,I.ok.mod,I.bs,Nat.le_trans I.ok.bsz I.sz,I.stack,I.stkFree,I.hok,I.bare⟩
theorem Inv.after{Q:VK}{u:Value}(I:Inv X pins σ H s)(h:CE X.stack X.prog X.w H s Q u s'):EP X pins σ Q u s':=by
 obtain⟨v,H',os,bare,un,hok,r,q⟩:=h
 obtain⟨hh,g,d,t,os'⟩:=s'
 obtain rfl:os'=s.os:=os
 exact⟨v,H',I.call (h':=hh) (g':=g) (d':=d) (t':=t) (ch:=[]) un hok bare (λb z=>absurd z (by simp)),r,q⟩
end
def qvu(sp:Sp)(dvs:List V)(E:XK)(t:TA):TE:=λσ H Q=>t σ H λvs H1=>sp (vs++dvs) H1 Q E
def Binds(K:PySem.W.Frag)(fd:FuncData)(ps:List Str)(ds:List Value):Prop :=
 ∀(s:Shared) (us:List Value),K.In s.heap->(us++ds).length=ps.length->BindsTo s fd ⟨us,[]⟩ (ps.zip (us++ds))
theorem Binds.all{K:PySem.W.Frag}{fd:FuncData}{ps:List Str}(h:∀us:List Value,us.length=ps.length->bindArgs fd ⟨us,[]⟩=pure (ps.zip us)):Binds K fd ps []:=λs us _ hl=>by
 rw[List.append_nil] at hl ⊢
 exact .of_eq (h us hl)
def qpk(CX:CXT)(X:Cx)(E:XK):Prop:=∀(pins:List (Addr×Obj)) (σ:St) (H:Hp) (s:Shared) (e:Value) (s':Shared),Inv X pins σ H s->CX X.stack H s E e s'->X.xe e s'
section
variable {X:Cx} {CX:CXT} {k:Nat} {f C:Addr} {fd:FuncData} {ps:List Str} {sp:Sp} {dvs:List V} {ds:List Value} {E:XK} {x m:Str} {p pos apos:Pos} {e o:Expr} {es:List Expr} {ta:TE} {t:TA}
theorem q69{pins:List (Addr×Obj)}{σ:St}{H:Hp}{s:Shared}{Q:VK}{us:List Value}{vs:List V}(F:FnOk X.prog X.w X.K X.mg X.base CX k f fd ps sp)(hr:Room k X.A)(hb:Binds X.K fd ps ds)(hd:Vals dvs ds)(hx:qpk CX X E)
  (I:Inv X pins σ H s) (r:Vals vs us) (h:sp (vs++dvs) H Q E):wpAny (model X.prog X.w) X.A (call (.ref f) us) (EP X pins σ Q) X.xe s:=by
 have r2:Vals (vs++dvs) (us++ds):=r.append hd
 have hl:(us++ds).length=ps.length:=by rw[←r2.length];exact F.len _ _ _ _ h
 refine wpAny_call (codeAny_mono (F.run X.A X.stack s H ⟨us,[]⟩ (us++ds) (vs++dvs) Q E hr I.env0 (hb s us I.kIn hl) r2 h) λr s' hq=>?_)
 cases r with
|error e=>exact hx pins σ H s e s' I hq
|ok fl =>
  cases fl with
 |ret u=>exact I.after hq
 |next=>exact False.elim hq
 |brk=>exact False.elim hq
 |cont=>exact False.elim hq
theorem quz(F:FnOk X.prog X.w X.K X.mg X.base CX k f fd ps sp)(hr:Room k X.A)(hg:Gl X x)(hm:X.mg x=some (.ref f))(hk:PySem.W.keepIn X.K (.ref f)=true)(hb:Binds X.K fd ps ds)(hd:Vals dvs ds)(hx:qpk CX X E)
  (ha:PA X (e::es) t) (hdb:(x==("__debug__" : Str))=false:=by decide) (he:starEach (e::es) X.env=(false,eval e X.env)::starEach es X.env:=by rfl) (hpl:(backTo pos (starEach es X.env)).any (·.1)=false:=by rfl) :
  PE X (.Call (.Name x p) (e::es) [] pos) (qvu sp dvs E t):=by
 intro pins s σ H Q I h
 refine wpAny_Call_Name_kw (qgf I hg hm ?_ hdb)
 refine PySem.W.callWith_K (h₀:=X.base) I.ok.mod.kin hk (thn (ha pos pins s σ H _ I h) λus s1 ⟨vs,H1,I1,r,q⟩=>⟨I1.kIn,?_⟩) he hpl
 exact q69 F hr hb hd hx I1 r q
structure Mk(K:PySem.W.Frag)(C f:Addr):Prop where
 makes:PySem.W.makesIn K C=true
 init:PySem.W.findIn K (.ref C) "__init__" = some (some (.ref f))
 fn:PySem.W.isFn K (.ref f)=true
 kp:PySem.W.keepIn K (.ref C)=true
end
section
variable {X:Cx} {CX:CXT} {k:Nat} {f C:Addr} {fd:FuncData} {ps ks:List Str} {sp:Sp} {E:XK} {x m:Str} {p pos apos kpos:Pos} {e o:Expr} {es:List Expr} {kws:List Keyword} {te ta:TE} {t tk:TA} {nm:Option Str}
structure KBinds(K:PySem.W.Frag)(fd:FuncData)(ps ks:List Str)(g:List Value->List Value->List Value)(gV:List V->List V->List V):Prop where
 to:∀(s:Shared) (us ws:List Value),K.In s.heap->(g us ws).length=ps.length->BindsTo s fd ⟨us,ks.zip ws⟩ (ps.zip (g us ws))
 rel:∀ {vs:List V} {us:List Value} {zs:List V} {ws:List Value},Vals vs us->Vals zs ws->Vals (gV vs zs) (g us ws)
variable {g:List Value->List Value->List Value} {gV:List V->List V->List V}
end
structure FnScope(N P:List Str)(sc:Scope):Prop where
 kind:sc.kind=.function
 co:sc.isCoroutine=false
 gen:sc.isGenerator=false
 nd:N.Nodup
 pre:N.take P.length=P
 par:∀x∈P,sc.names.lookup x=some .local\/sc.names.lookup x=some .cell
 nofree:∀y∈sc.names,y.2≠.free
theorem qln{kindOf:Str->Option NameKind}{x:Str}:∀ {binds:List (Str×Value)} {m:Str->Option Value},(∀v,(x,v)∉binds)->bindL kindOf binds m x=m x
|[],_,_=>rfl
|(n,v)::r,m,h=>by
  unfold bindL
  rw[qln λw hw=>h w (List.mem_cons_of_mem _ hw)]
  split
  ·have:x≠n:=by rintro rfl;exact h v List.mem_cons_self
   simp[this]
  ·rfl
theorem qll{kindOf:Str->Option NameKind}{x:Str}:∀ {binds:List (Str×Value)} {m:Str->Option Value},(∀v,(x,v)∉binds)->bindC kindOf binds m x=m x
|[],_,_=>rfl
|(n,v)::r,m,h=>by
  unfold bindC
  rw[qll λw hw=>h w (List.mem_cons_of_mem _ hw)]
  split
  ·rfl
  ·have:x≠n:=by rintro rfl;exact h v List.mem_cons_self
   simp[this]
theorem qlm{kindOf:Str->Option NameKind}{x:Str}{v:Value}:∀ {P:List Str} {vs:List Value} {i:Nat} {m:Str->Option Value},P.Nodup->P[i]?=some x->vs[i]?=some v->kindOf x=some .local ->
  bindL kindOf (P.zip vs) m x=some v
|[],_,_,_,_,h,_,_=>by simp at h
|_::_,[],_,_,_,_,h,_=>by simp at h
|p::P,w::vs,0,m,nd,h1,h2,hk=>by
  simp at h1 h2;subst h1;subst h2
  show bindL kindOf ((p,w)::P.zip vs) m p=_
  unfold bindL
  rw[qln λv hv=>(List.nodup_cons.mp nd).1 (List.of_mem_zip hv).1,if_pos hk]
  simp
|p::P,w::vs,i+1,m,nd,h1,h2,hk=>by
  show bindL kindOf ((p,w)::P.zip vs) m x=_
  unfold bindL
  exact qlm (i:=i) (List.nodup_cons.mp nd).2 (by simpa using h1) (by simpa using h2) hk
theorem qlk{kindOf:Str->Option NameKind}{x:Str}{v:Value}:∀ {P:List Str} {vs:List Value} {i:Nat} {m:Str->Option Value},P.Nodup->P[i]?=some x->vs[i]?=some v->kindOf x≠some .local ->
  bindC kindOf (P.zip vs) m x=some v
|[],_,_,_,_,h,_,_=>by simp at h
|_::_,[],_,_,_,_,h,_=>by simp at h
|p::P,w::vs,0,m,nd,h1,h2,hk=>by
  simp at h1 h2;subst h1;subst h2
  show bindC kindOf ((p,w)::P.zip vs) m p=_
  unfold bindC
  rw[qll λv hv=>(List.nodup_cons.mp nd).1 (List.of_mem_zip hv).1,if_neg hk]
  simp
|p::P,w::vs,i+1,m,nd,h1,h2,hk=>by
  show bindC kindOf ((p,w)::P.zip vs) m x=_
  unfold bindC
  exact qlk (i:=i) (List.nodup_cons.mp nd).2 (by simpa using h1) (by simpa using h2) hk
def start(N:List Str)(vs:List V):St:=vs.map some++List.replicate (N.length-vs.length) none
def cxOf(CX:CXT)(P:Program)(w:World)(K:PySem.W.Frag)(mg:Str->Option Value)(base:Heap)(N:List Str)(qual:Str)(scope:Scope)(f:Addr)(cd:Value)(A:Around)(outer:List Env)(s:Shared)(H:Hp)(E:XK):Cx where
 prog:=P
 w:=w
 K:=K
 mg:=mg
 base:=base
 A:=A.deeper (envOfC qual scope s.heap.objs.size f cd)
 N:=N
 s₀:=s
 H₀:=H
 env:=envOfC qual scope s.heap.objs.size f cd
 outer:=outer
 stack:=envOfC qual scope s.heap.objs.size f cd::outer
 ex:=[]
 calm:=true
 fn:=λ_=>true
 pn:=[]
 xe:=λe s'=>wpAny (model P w) (A.deeper (envOfC qual scope s.heap.objs.size f cd)) (leaving (envOfC qual scope s.heap.objs.size f cd) e) (λ_ s''=>CX outer H s E e s'') (λe' s''=>CX outer H s E e' s'') s'
theorem qpm{sc:Scope}{n:Nat}{x:Str}(h:sc.names.lookup x=some .cell):∃c,(cellsFrom n sc.names []).lookup x=some c:=by
 have q:=PySem.W.cellsFrom_some sc.names n [] (.inl h)
 exact Option.isSome_iff_exists.mp q
theorem qt6{CX:CXT}{P:Program}{w:World}{K:PySem.W.Frag}{mg:Str->Option Value}{base:Heap}{N ps:List Str}{qual:Str}{scope:Scope}{f:Addr}{cd:Value}{A:Around}{outer:List Env}{s s1:Shared}{H:Hp}{E:XK}{us:List Value}{vs:List V}
  (S:FnScope N ps scope) (hd:A.handled=none) (e0:Env0 P w K mg base A outer s H) (hl:vs.length=ps.length) (r:Vals vs us)
  (x:InCallC s s.heap.objs.size (bindL (envOfC qual scope s.heap.objs.size f cd).kindOf (ps.zip us) λ_=>none) (cellsFrom (s.heap.objs.size+1) scope.names []) (bindC (envOfC qual scope s.heap.objs.size f cd).kindOf (ps.zip us) λ_=>none) s1) :
  Inv (cxOf CX P w K mg base N qual scope f cd A outer s H E) [] (start N vs) H s1:=by
 have hpl:ps.length<=N.length:=by have:=congrArg List.length S.pre;rw[List.length_take] at this;lia
 obtain⟨h1,tk,rfl,hk⟩:=x.done
 have noA:∀b:Addr,b∉(cxOf CX P w K mg base N qual scope f cd A outer s H E).ex:=λb z=>absurd (show b∈([]:List Addr) from z) (by simp)
 refine⟨⟨e0.mod,S.kind,rfl,rfl,Nat.le_refl _,λy z c h1 h2=>?_,λy hy=>?_,λy c _ h=>?_,λ_=>hd,Around.frames_deeper e0.frames,.inr ⟨rfl,rfl⟩,λb z=>absurd z (noA b),e0.bs,e0.bsz,λb _ _=>noA b,λb z=>absurd z (noA b),e0.funs,e0.frf⟩,
  rfl,e0.bare,Un.kept hk,⟨_,x.toInCall.ns,λi y v h1 h2 h3=>?_⟩,λy c h=>⟨_,x.cell y c h⟩,e0.hok.fresh (Nat.le_refl _),λy c h=>?_,λp hp=>absurd (show p∈([]:List (Addr×Obj)) from hp) (by simp),e0.hok.kept hk,?_⟩
 ·exact name_of_addr x.apart (PySem.mem_of_lookup h1) (PySem.mem_of_lookup h2)
 ·have hy:scope.names.lookup y=some .cell\/scope.names.lookup y=some .free:=hy
  rcases hy with hy|hy
  ·exact qpm hy
  ·exact absurd rfl (S.nofree _ (PySem.mem_of_lookup hy))
 ·exact Nat.le_of_lt (x.above y c (PySem.mem_of_lookup h))
 ·have hi:i<vs.length:=by
   unfold start at h2
   by_cases hi:i<vs.length
   ·exact hi
   ·rw[List.getElem?_append_right (by simpa using hi)] at h2
    rw[List.getElem?_replicate] at h2
    split at h2<;>cases h2
  have ha:vs[i]?=some v:=by
   unfold start at h2
   rw[List.getElem?_append_left (by simpa using hi),List.getElem?_map] at h2
   cases e:vs[i]? with
  |none=>rw[e] at h2;cases h2
  |some a=>rw[e] at h2;cases h2;rfl
  obtain⟨u,hu,rv⟩:=r.get ha
  have hp:ps[i]?=some y:=by
   rw[←S.pre,List.getElem?_take_of_lt (by lia)];exact h1
  have ndP:ps.Nodup:=by rw[←S.pre];exact S.nd.sublist (List.take_sublist _ _)
  refine⟨u,rv,?_⟩
  rcases S.par y (List.mem_of_getElem? hp) with k|k
  ·exact .inl ⟨k,qlm ndP hp hu k⟩
  ·obtain⟨c,e⟩:=qpm (n:=s.heap.objs.size+1) k
   refine .inr ⟨.inl k,c,e,?_⟩
   have q:=x.cell y c e
   rw[qlk ndP hp hu (by show scope.names.lookup y≠_;rw[k];decide)] at q
   exact q
 ·exact e0.hok.fresh (Nat.le_of_lt (x.above y c (PySem.mem_of_lookup h)))
 ·unfold start
  show _=N.length
  rw[List.length_append,List.length_map,List.length_replicate]
  lia
theorem q41{CX:CXT}{P:Program}{w:World}{K:PySem.W.Frag}{mg:Str->Option Value}{base:Heap}{k:Nat}{f:Addr}{name qual:Str}{params:Arguments}{body:List Stmt}{scope:Scope}{dV kV doc pm cdv ct oc:Value}{an od:Option Addr}
  {osl:Array (Option Value)} {N ps:List Str} {sp:Sp} (lk:K.lookup f=some ⟨oc,od,.func (PySem.W.fnOf name qual params body scope dV kV doc pm an cdv ct),osl⟩) (hcd:PySem.W.codeIn K cdv qual=true) (S:FnScope N ps scope)
  (len:∀vs H Q E,sp vs H Q E->vs.length=ps.length)
  (hbody:∀(A:Around) (outer:List Env) (s:Shared) (H:Hp) (vs:List V) (Q:VK) (E:XK),Room k (A.deeper (envOfC qual scope s.heap.objs.size f cdv))->sp vs H Q E ->
   ∃t,PSs (cxOf CX P w K mg base N qual scope f cdv A outer s H E) body t/\t { nx:=λ_ H'=>Q .non H',rt:=Q } (start N vs) H) :
  FnOk P w K mg base CX (k+1) f (PySem.W.fnOf name qual params body scope dV kV doc pm an cdv ct) ps sp:=by
 refine⟨len,λA outer s H args us vs Q E hr e0 hb r hsp=>?_⟩
 have hl:=len _ _ _ _ hsp
 have KX:K.In s.heap:=e0.mod.kin.keeps λb o e=>(e0.bs b o e).1
 have lim:s.heap.NoLimit:=e0.mod.nolimit.keeps λb o e=>(e0.bs b o e).1
 have hkind:∀y∈ps.zip us,scope.names.lookup y.1=some .local\/(scope.names.lookup y.1=some .cell/\((cellsFrom (s.heap.objs.size+1) scope.names []).lookup y.1).isSome=true):=λ⟨n,v⟩ hy=>by
  rcases S.par n (List.of_mem_zip hy).1 with q|q
  ·exact .inl q
  ·exact .inr ⟨q,PySem.W.cellsFrom_some _ _ _ (.inl q)⟩
 refine codeAny_call_function hr.depth (KX _ _ lk) rfl S.co S.gen rfl (PySem.W.codeRec_of KX hcd) (hb _ _ _ _ ?_)
 refine wpAny_newFunctionEnv_cells S.kind hkind λenv he s1 x=>?_
 subst he
 refine⟨lim.keeps x.toInCall.keep,codeAny_func ?_⟩
 obtain⟨t,ht,hq⟩:=hbody A outer s H vs Q E (hr.deeper _) hsp
 have I:Inv (cxOf CX P w K mg base N qual scope f cdv A outer s H E) [] (start N vs) H s1:=qt6 S hr.hd e0 hl r x
 refine wpAny_mono (ht [] s1 (start N vs) H _ I hq) (λfl s' hs=>?_) λe s' hs=>hs
 have fin:∀ {σ':St} {H':Hp} {v:V} {u:Value},Inv (cxOf CX P w K mg base N qual scope f cdv A outer s H E) [] σ' H' s'->RelV v u->Q v H'->CE outer P w H s Q u s' :=
  λ{σ' H' v u} J rv q=>⟨v,H',J.os,J.bare,J.base,J.hok,rv,q⟩
 cases fl with
|ret u =>
  obtain⟨v,σ',H',J,rv,q⟩:=hs
  exact fin J rv q
|next =>
  obtain⟨σ',H',J,q⟩:=hs
  exact fin (v:=V.non) (u:=Value.none) J rfl q
|brk =>
  obtain⟨_,_,_,q⟩:=hs
  exact False.elim q
|cont =>
  obtain⟨_,_,_,q⟩:=hs
  exact False.elim q
end L2
namespace L2
open PySem PySem.Spec PyProof.Rows
section
variable {X:Cx} {x:Str} {p pos:Pos} {e:Expr} {es:List Expr} {t:TA} {id T:String} {r:List V->Hp->VK->Prop}
def tCB(r:List V->Hp->VK->Prop)(t:TA):TE:=λσ H Q=>t σ H λvs H1=>r vs H1 Q
theorem qyc(hc:CallR X (.builtin id) r)(hg:Gl X x)(hm:X.mg x=none)(hv:bootBuiltins x=some (.builtin id))(ha:PA X (e::es) t)(hn:x≠"__name__" := by decide)(hdb:(x==("__debug__" : Str))=false:=by decide)
  (he:starEach (e::es) X.env=(false,eval e X.env)::starEach es X.env:=by rfl) (hpl:(backTo pos (starEach es X.env)).any (·.1)=false:=by rfl):PE X (.Call (.Name x p) (e::es) [] pos) (tCB r t):=by
 intro pins s σ H Q I h
 refine wpAny_Call_Name_kw (qjo I hg hm hv ?_ hn hdb)
 exact PyProof.Rows.callWith_builtin1 (thn (ha pos pins s σ H _ I h) λus s1 ⟨vs,H1,I1,r1,q1⟩=>hc pins s1 σ H1 vs us Q I1 r1 q1) he hpl
theorem qu0(hc:CallR X (.type T) r)(hg:Gl X x)(hm:X.mg x=none)(hv:bootBuiltins x=some (.type T))(ha:PA X (e::es) t)(hn:x≠"__name__" := by decide)(hdb:(x==("__debug__" : Str))=false:=by decide)
  (he:starEach (e::es) X.env=(false,eval e X.env)::starEach es X.env:=by rfl) (hpl:(backTo pos (starEach es X.env)).any (·.1)=false:=by rfl):PE X (.Call (.Name x p) (e::es) [] pos) (tCB r t):=by
 intro pins s σ H Q I h
 refine wpAny_Call_Name_kw (qjo I hg hm hv ?_ hn hdb)
 exact PyProof.Rows.callWith_type1 (thn (ha pos pins s σ H _ I h) λus s1 ⟨vs,H1,I1,r1,q1⟩=>hc pins s1 σ H1 vs us Q I1 r1 q1) he hpl
end
end L2
namespace HT
open PySem PyProof.Rows
section
open PySem.SeqAt
open PySem.AutoSeq1 (wpAny_loadPart')
open PySem.MeetsSeq PySem.MeetsSeq2 PySem.MeetsSeq3
end
section
variable {prog:Program} {w:World} {A:Around} {E:Value->Shared->Prop} {s:Shared}
theorem cat_tup{t b:Addr}{vs ws:List Value}{Q:Value->Shared->Prop}(ht:IsTup s.heap t vs.toArray)(hb:IsTup s.heap b ws.toArray)(hv:vs≠[])
  (h1:ws=[]->Q (.ref t) s) (h2:ws≠[]->Q (.ref s.heap.objs.size) { s with heap:=s.heap.push { cls:=.type "tuple",data:=.seq (vs++ws).toArray } })
  (hsz:vs.length+ws.length<=sizeLine):wpAny (model prog w) A (binaryOp .Add (.ref t) (.ref b)) Q E s:=by
 obtain⟨⟨cls,dd,data,sl⟩,ho,hc,n,hd⟩:=id ht
 obtain⟨⟨cls2,dd2,data2,sl2⟩,ho2,hc2,n2,hd2⟩:=id hb
 simp only at hc hd hc2 hd2
 subst hc hd hc2 hd2
 have e:vs.toArray++ws.toArray=(vs++ws).toArray:=by simp
 by_cases hw:ws=[]
 ·exact concat_meets ⟨_,ho,rfl⟩ ⟨_,ho2,rfl⟩ noFill_tuple_add seq_tuple_add PySem.F.slot_tuple_add PySem.F.entry_tuple_add (PySem.F.args_tuple_add_2 _ _)
   (tuple_addW1 t b vs.toArray ws.toArray n n2 dd dd2 sl sl2 (by simpa using hv) (by simp[hw])) ⟨ho,ho2,h1 hw⟩
 ·refine concat_meets ⟨_,ho,rfl⟩ ⟨_,ho2,rfl⟩ noFill_tuple_add seq_tuple_add PySem.F.slot_tuple_add PySem.F.entry_tuple_add (PySem.F.args_tuple_add_2 _ _)
   (tuple_addW2 t b vs.toArray ws.toArray n n2 dd dd2 sl sl2 (by simpa using hv) (by simpa using hw) (by rw[List.size_toArray,List.size_toArray];exact hsz)) ⟨ho,ho2,?_⟩
  rw[e]
  exact h2 hw
def sIx(n d:Nat):Option Int->Nat
|none=>d
|some v=>if v<0 then (v+(n:Int)).toNat else min v.toNat n
theorem sIx_none(n d:Nat):sIx n d none=d:=rfl
theorem sIx_nat(n d k:Nat):sIx n d (some (k:Int))=min k n:=by
 show (if (k:Int)<0 then ((k:Int)+(n:Int)).toNat else min (k:Int).toNat n)=min k n
 rw[if_neg (by lia),Int.toNat_natCast]
theorem sIx_le(n d:Nat)(hd:d<=n)(o:Option Int):sIx n d o<=n:=by
 cases o with
|none=>exact hd
|some v =>
  show (if v<0 then (v+(n:Int)).toNat else min v.toNat n)<=n
  by_cases hv:v<0
  ·rw[if_pos hv];lia
  ·rw[if_neg hv];exact Nat.min_le_right _ _
theorem qtd(v:Int)(n d:Nat):(if v<0 then max (v+(n:Int)) 0 else min v (n:Int))=((sIx n d (some v):Nat):Int):=by
 show (if v<0 then max (v+(n:Int)) 0 else min v (n:Int))=(((if v<0 then (v+(n:Int)).toNat else min v.toNat n):Nat):Int)
 by_cases hv:v<0
 ·simp only[if_pos hv];lia
 ·simp only[if_neg hv];lia
theorem qq1(lo hi:Option Int)(n:Nat):Builtin.Slice.sliceAdjust lo hi 1 (n:Int)=(((sIx n 0 lo:Nat):Int),((sIx n n hi:Nat):Int)):=by
 have h1:¬ ((1:Int)<0):=by lia
 unfold Builtin.Slice.sliceAdjust
 simp only[h1,if_false]
 refine Prod.ext ?_ ?_
 ·cases lo with
 |none=>rfl
 |some v=>exact qtd v n 0
 ·cases hi with
 |none=>rfl
 |some v=>exact qtd v n n
theorem qrt(i j:Nat):Builtin.Slice.slicePlaces (i:Int) (j:Int) 1=j-i:=by
 unfold Builtin.Slice.slicePlaces
 have h1:(1:Int)>0:=by lia
 simp only[h1,if_true,Int.ediv_one]
 split<;>lia
theorem qju{v:Value}{o:Option Int}{Q:Option Int->Shared->Prop}(p:IsPart v o)(h:Q o s):wpAny (model prog w) A (Builtin.Slice.slicePartIndex v) Q E s:=by
 cases p with
|none=>exact slicePart_none h
|int i t=>exact slicePart_int h
theorem qeh{sl:Addr}{vl vu:Value}{lo hi:Option Int}{n:Nat}{Q:Int×Int×Nat->Shared->Prop}(hs:s.heap.IsSliceOf sl vl vu .none)(pl:IsPart vl lo)(pu:IsPart vu hi)
  (h:Q (((sIx n 0 lo:Nat):Int),1,sIx n n hi-sIx n 0 lo) s):wpAny (model prog w) A (Builtin.Slice.sliceApplied (.ref sl) (pure (n:Int))) Q E s:=by
 obtain⟨os,hos,hcs,hds⟩:=id hs
 unfold Builtin.Slice.sliceApplied Builtin.Slice.sliceFields
 refine wpAny_bind (wpAny_bind (wpAny_field hos hds (x:=vl) rfl (wpAny_bind (wpAny_field hos hds (x:=vu) rfl (wpAny_bind (wpAny_field hos hds (x:=.none) rfl (wpAny_pure ?_)))))))
 refine wpAny_bind (slicePart_none ?_)
 show wpAny _ _ (if ((1:Int)==0)=true then _ else _) _ _ s
 rw[if_neg (by decide)]
 refine wpAny_bind (qju pl (wpAny_bind (qju pu (wpAny_bind (wpAny_pure ?_)))))
 show wpAny _ _ (match Builtin.Slice.sliceAdjust lo hi 1 (n:Int) with|(lo,hi)=>pure (lo,(1:Int),Builtin.Slice.slicePlaces lo hi 1)) _ _ s
 rw[qq1 lo hi n]
 show wpAny _ _ (pure (((sIx n 0 lo:Nat):Int),(1:Int),Builtin.Slice.slicePlaces ((sIx n 0 lo:Nat):Int) ((sIx n n hi:Nat):Int) 1)) _ _ s
 rw[qrt]
 exact wpAny_pure h
theorem qyk(xs:Array Value)(i k:Nat):((List.range k).filterMap λ(m:Nat)=>xs[((i:Int)+(m:Int)*1).toNat]?).toArray=((xs.toList.drop i).take k).toArray:=by
 have e:(λ(m:Nat)=>xs[((i:Int)+(m:Int)*1).toNat]?)=λm=>xs[i+m]?:=by
  funext m
  have:((i:Int)+(m:Int)*1).toNat=i+m:=by lia
  rw[this]
 rw[e]
 have:=pick_run xs i k
 rw[List.filterMap_map] at this
 have e2:((λx=>xs[x]?) ∘ λx=>i+x)=λm=>xs[i+m]?:=rfl
 rw[e2] at this
 rw[this]
theorem getItem_tuple_cut{t sl:Addr}{items:Array Value}{vl vu:Value}{lo hi:Option Int}{Q:Value->Shared->Prop}(ht:IsTup s.heap t items)(hs:s.heap.IsSliceOf sl vl vu .none)(pl:IsPart vl lo)(pu:IsPart vu hi)
  (hw:¬ (sIx items.size 0 lo=0/\sIx items.size items.size hi=items.size))
  (h:Q (.ref s.heap.objs.size) { s with heap:=s.heap.push { cls:=.type "tuple",data:=.seq ((items.toList.drop (sIx items.size 0 lo)).take (sIx items.size items.size hi-sIx items.size 0 lo)).toArray } })
  (hsz:items.size<=sizeLine):wpAny (model prog w) A (getItem (.ref t) (.ref sl)) Q E s:=by
 have htake:sizeOk (.seq ((items.toList.drop (sIx items.size 0 lo)).take (sIx items.size items.size hi-sIx items.size 0 lo)).toArray):=by
  show ((items.toList.drop (sIx items.size 0 lo)).take (sIx items.size items.size hi-sIx items.size 0 lo)).toArray.size<=sizeLine
  rw[List.size_toArray,List.length_take,List.length_drop,Array.length_toList]
  lia
 have hj:sIx items.size items.size hi<=items.size:=sIx_le _ _ (Nat.le_refl _) hi
 obtain⟨os,hos,hcs,hds⟩:=id hs
 have hTs:s.TypeIs (.ref sl) "slice" := ⟨os,hos,hcs⟩
 unfold getItem
 try with_reducible refine wpAny_holding ?_
 first|refine wpAny_bind (wpAny_pure ?_)|skip
 refine wpAny_bind (wpAny_sequenceKey ht.typeIs (by decide) ?_)
 refine wpAny_bind (wpAny_callSpecial?_slot (name:=Str.ofString "__getitem__") ht.typeIs PyProof.Rows.slot_tuple_getitem
  (wpAny_call_entry PyProof.Rows.slot_tuple_getitem ht.typeIs entry_tuple_getitem ?_ (args_tuple_getitem _ _)))
 show wpAny _ _ (Builtin.Tuple.tupleItemsOf (.ref t) >>= _) _ _ s
 refine wpAny_bind (tupleItemsOf_ ht ?_)
 refine wpAny_bind (wpAny_typeOf hTs ?_)
 rw[if_pos (by decide)]
 refine wpAny_bind (qeh hs pl pu ?_)
 have hno:¬ ((((sIx items.size 0 lo:Nat):Int)==0&&(1:Int)==1&&(sIx items.size items.size hi-sIx items.size 0 lo)==items.size)=true):=by
  intro q
  rw[Bool.and_eq_true,Bool.and_eq_true] at q
  have q1:((sIx items.size 0 lo:Nat):Int)=0:=eq_of_beq q.1.1
  have q2:sIx items.size items.size hi-sIx items.size 0 lo=items.size:=eq_of_beq q.2
  exact hw ⟨by lia,by lia⟩
 show wpAny _ _ (if (((sIx items.size 0 lo:Nat):Int)==0&&(1:Int)==1&&(sIx items.size items.size hi-sIx items.size 0 lo)==items.size)=true then _ else _) _ _ s
 rw[if_neg hno,qyk]
 first
 |exact wpAny_bind (m:=Builtin.Tuple.tupleExact _) (wpAny_newObj_type (wpAny_pure ⟨_,rfl,wpAny_pure h⟩) htake)
 |exact wpAny_bind (m:=Builtin.Tuple.tupleExact _) (wpAny_newObj_type (wpAny_bind (wpAny_pure (wpAny_pure ⟨_,rfl,wpAny_pure h⟩))) htake)
 |exact wpAny_bind (wpAny_bind (m:=Builtin.Tuple.tupleExact _) (wpAny_newObj_type (wpAny_pure (wpAny_pure ⟨_,rfl,wpAny_pure h⟩)) htake))
 |exact wpAny_bind (wpAny_bind (m:=Builtin.Tuple.tupleExact _) (wpAny_newObj_type (wpAny_pure ⟨_,rfl,wpAny_pure h⟩) htake))
end
end HT
namespace L2
open PySem PySem.Spec PyProof.Rows
abbrev TO:=St->Hp->(Option Int->Hp->Prop)->Prop
def PO(X:Cx)(e:Option Expr)(t:TO):Prop :=
 ∀(pins:List (Addr×Obj)) (s:Shared) (σ:St) (H:Hp) (Q:Option Int->Hp->Prop),Inv X pins σ H s->t σ H Q ->
  wpAny (model X.prog X.w) X.A (evalPart e X.env) (λu s'=>∃o H',Inv X pins σ H' s'/\IsPart u o/\Q o H') X.xe s
def qvx:TO:=λ_ H Q=>Q none H
def q7k(t:TE):TO:=λσ H Q=>t σ H λx H1=>∃i,x=.int i/\Q (some i) H1
section
variable {X:Cx} {e:Expr} {te:TE} {lo hi:Option Expr} {tl th:TO} {pos p2:Pos}
theorem q2o:PO X none qvx:=by
 intro pins s σ H Q I h
 rw[evalPart_none]
 exact wpAny_pure ⟨none,H,I,.none,h⟩
theorem q2p(h:PE X e te):PO X (some e) (q7k te):=by
 intro pins s σ H Q I hw
 rw[evalPart_some]
 refine thn (h pins s σ H _ I hw) λu s1 ⟨x,H1,I1,r1,q1⟩=>?_
 obtain⟨i,rfl,q⟩:=q1
 obtain⟨t,rfl⟩:=r1
 exact⟨some i,H1,I1,.int i t,q⟩
def SlR(X:Cx)(r:V->Option Int->Option Int->Hp->VK->Prop):Prop :=
 ∀(pins:List (Addr×Obj)) (s:Shared) (σ:St) (H:Hp) (x:V) (v vl vu:Value) (lo hi:Option Int) (sl:Addr) (Q:VK),Inv X pins σ H s->RelV x v->s.heap.IsSliceOf sl vl vu .none->IsPart vl lo->IsPart vu hi->r x lo hi H Q ->
  ∃T id,typeLookup (.type T) "__getitem__" = pure (some (.builtin id))/\s.TypeIs v T/\wpAny (model X.prog X.w) X.A (getItem v (.ref sl)) (EP X pins σ Q) X.xe s
theorem SlR.or{r r':V->Option Int->Option Int->Hp->VK->Prop}(h:SlR X r)(h':SlR X r'):SlR X (λx lo hi H Q=>r x lo hi H Q\/r' x lo hi H Q):=by
 intro pins s σ H x v vl vu lo hi sl Q I rx hs pl pu q
 rcases q with q|q
 ·exact h pins s σ H x v vl vu lo hi sl Q I rx hs pl pu q
 ·exact h' pins s σ H x v vl vu lo hi sl Q I rx hs pl pu q
def tSl(r:V->Option Int->Option Int->Hp->VK->Prop)(te:TE)(tl th:TO):TE:=λσ H Q=>te σ H λx H1=>tl σ H1 λl H2=>th σ H2 λu H3=>r x l u H3 Q
theorem qyh{r:V->Option Int->Option Int->Hp->VK->Prop}(hr:SlR X r)(he:PE X e te)(hl:PO X lo tl)(hu:PO X hi th):PE X (.Subscript e (.Slice lo hi none p2) pos) (tSl r te tl th):=by
 intro pins s σ H Q I h
 refine Subscript_ (thn (he pins s σ H _ I h) λv s1 ⟨x,H1,I1,r1,q1⟩=>?_)
 refine wpAny_Slice (thn (hl pins s1 σ H1 _ I1 q1) λvl s2 ⟨l,H2,I2,pl,q2⟩=>thn (hu pins s2 σ H2 _ I2 q2) λvu s3 ⟨u,H3,I3,pu,q3⟩=>?_)
 rw[evalPart_none]
 refine wpAny_pure ?_
 have I4:Inv X pins σ H3 { s3 with heap:=s3.heap.push { cls:=.type "slice",data:=.fields #[vl,vu,.none] } }:=I3.kept (t':=s3.toks) λb ob q=>Heap.get?_push_of_some _ q
 obtain⟨T,id,hT,ht,hg⟩:=hr pins { s3 with heap:=s3.heap.push { cls:=.type "slice",data:=.fields #[vl,vu,.none] } } σ H3 x v vl vu l u s3.heap.objs.size Q I4 r1 (Heap.IsSliceOf.new ..) pl pu q3
 show wpAny (model X.prog X.w) X.A (subscriptTail e (.Slice lo hi none p2) v (.ref s3.heap.objs.size)) (EP X pins σ Q) X.xe { s3 with heap:=s3.heap.push { cls:=.type "slice",data:=.fields #[vl,vu,.none] } }
 exact tail_any (ops:=[.ref s3.heap.objs.size,v]) ht hT hg (by with_unfolding_all rfl)
def cutV(xs:List V)(lo hi:Option Int):List V:=(xs.drop (HT.sIx xs.length 0 lo)).take (HT.sIx xs.length xs.length hi-HT.sIx xs.length 0 lo)
theorem qhs(xs:List V)(lo hi:Option Int):(cutV xs lo hi).length<=xs.length:=by
 unfold cutV
 rw[List.length_take,List.length_drop]
 lia
def rSlT(K:PySem.W.Frag):V->Option Int->Option Int->Hp->VK->Prop:=λx lo hi H Q=>∃a xs,x=.ref a/\SqT K H a xs /\
 ¬ (HT.sIx xs.length 0 lo=0/\HT.sIx xs.length xs.length hi=xs.length)/\∀p,H p=none->Q (.ref p) (upd H p (.tup (cutV xs lo hi)))
theorem q7b:SlR X (rSlT X.K):=by
 intro pins s σ H x v vl vu lo hi sl Q I rx hs pl pu h
 obtain⟨a,xs,rfl,hx,hw,q⟩:=h
 cases rx
 obtain⟨its,r,ht,hz⟩:=I.tuple hx
 have hlen:its.toArray.size=xs.length:=by rw[List.size_toArray];exact r.length.symm
 refine⟨"tuple",_,PyProof.Rows.slot_tuple_getitem.lookup,ht.typeIs,?_⟩
 refine HT.getItem_tuple_cut ht hs pl pu (by rw[hlen];exact hw) ?_ (by rw[hlen];exact hz)
 rw[hlen]
 refine⟨.ref s.heap.objs.size,_,I.laid (t':=s.toks) (o:=.tup (cutV xs lo hi)) (λb ob q=>Heap.get?_push_of_some _ q) (Nat.le_refl _) ?_,rfl,q _ (I.hok.fresh (Nat.le_refl _))⟩
 exact⟨Nat.le_trans (qhs xs lo hi) hz,_,(r.drop (HT.sIx xs.length 0 lo)).take (HT.sIx xs.length xs.length hi-HT.sIx xs.length 0 lo),IsTup.new _ _⟩
def q84(K:PySem.W.Frag):R2:=λx y H Q=>∃a b xs ys,x=.ref a/\y=.ref b/\SqT K H a xs/\SqT K H b ys/\xs≠[]/\xs.length+ys.length<=sizeLine /\
 (ys=[]->Q (.ref a) H)/\(ys≠[]->∀p,H p=none->Q (.ref p) (upd H p (.tup (xs++ys))))
theorem Vals.nil_iff{xs:List V}{us:List Value}(r:Vals xs us):us=[]↔xs=[]:=by
 cases r with
|nil=>simp
|cons _ _=>simp
theorem q16:OpR X (binaryOp .Add) (q84 X.K):=by
 intro pins s σ H x y v u Q I rx ry h
 obtain⟨a,b,xs,ys,rfl,rfl,ha,hb,hx,hz,q1,q2⟩:=h
 cases rx
 cases ry
 obtain⟨its,r1,p1,_⟩:=I.tuple ha
 obtain⟨its2,r2,p2,_⟩:=I.tuple hb
 refine HT.cat_tup p1 p2 (λz=>hx (r1.nil_iff.mp z)) (λz=>⟨.ref a,H,I,rfl,q1 (r2.nil_iff.mp z)⟩) (λz=>?_) (by rw[←r1.length,←r2.length];exact hz)
 refine⟨.ref s.heap.objs.size,_,I.laid (t':=s.toks) (o:=.tup (xs++ys)) (λb ob q=>Heap.get?_push_of_some _ q) (Nat.le_refl _) ?_,rfl,q2 (λw=>z (r2.nil_iff.mpr w)) _ (I.hok.fresh (Nat.le_refl _))⟩
 exact⟨by rw[List.length_append];exact hz,_,r1.append r2,IsTup.new _ _⟩
end
end L2
namespace L2
open PySem PySem.Spec PyProof.Rows
def ixN(n:Nat)(i:Int):Option Nat:=if 0<=i then (if i<n then some i.toNat else none) else if -(n:Int)<=i then some (i+n).toNat else none
def atI{α:Type}(xs:List α)(i:Int):Option α:=(ixN xs.length i).bind λj=>xs[j]?
theorem q1h{n:Nat}{i:Int}{j:Nat}(h:ixN n i=some j):seqIndex? i n=some j/\j<n/\-(n:Int)<=i/\i<n:=by
 unfold ixN at h
 by_cases h0:0<=i
 ·rw[if_pos h0] at h
  by_cases h1:i<n
  ·rw[if_pos h1] at h
   have e:i.toNat=j:=Option.some.inj h
   exact⟨by rw[seqIndex_of h0 h1,e],by lia,by lia,h1⟩
  ·rw[if_neg h1] at h;cases h
 ·rw[if_neg h0] at h
  by_cases h1:-(n:Int)<=i
  ·rw[if_pos h1] at h
   have e:(i+n).toNat=j:=Option.some.inj h
   exact⟨by rw[seqIndex_neg (by lia) h1,e],by lia,h1,by lia⟩
  ·rw[if_neg h1] at h;cases h
theorem qm6{α:Type}{xs:List α}{i:Int}{v:α}(h:atI xs i=some v):∃j,seqIndex? i xs.length=some j/\xs[j]?=some v/\j<xs.length/\-(xs.length:Int)<=i/\i<xs.length:=by
 unfold atI at h
 cases e:ixN xs.length i with
|none=>rw[e] at h;cases h
|some j =>
  rw[e] at h
  obtain⟨h1,h2,h3,h4⟩:=q1h e
  exact⟨j,h1,h,h2,h3,h4⟩
theorem q02{α:Type}{xs:List α}{j:Nat}{v:α}(h:xs[j]?=some v):atI xs (j:Int)=some v:=by
 have hj:j<xs.length:=(List.getElem?_eq_some_iff.mp h).1
 have e:ixN xs.length (j:Int)=some j:=by
  unfold ixN
  rw[if_pos (by lia),if_pos (by lia)];simp
 unfold atI;rw[e];exact h
def qf4(b:Expr):Prop:=∀o i,subscripted b false o i=operate [o,i] (getItem o i)
def IxR(X:Cx)(r:R2):Prop :=
 ∀(value slice:Expr) (pins:List (Addr×Obj)) (s:Shared) (σ:St) (H:Hp) (x y:V) (v u:Value) (Q:VK),Inv X pins σ H s->RelV x v->RelV y u->r x y H Q ->
  subscripted slice false v u=operate [v,u] (getItem v u)->wpAny (model X.prog X.w) X.A (subscriptTail value slice v u) (EP X pins σ Q) X.xe s
def MtR(X:Cx)(id:String)(r:V->List V->Hp->VK->Prop):Prop :=
 ∀(pins:List (Addr×Obj)) (s:Shared) (σ:St) (H:Hp) (x:V) (xs:List V) (v:Value) (us:List Value) (Q:VK),Inv X pins σ H s->RelV x v->Vals xs us->r x xs H Q ->
  wpAny (model X.prog X.w) X.A (call (.builtin id) (v::us)) (EP X pins σ Q) X.xe s
section
variable {X:Cx} {a b:Expr} {ta tb:TE} {pos:Pos}
theorem IxR.or{r r':R2}(h:IxR X r)(h':IxR X r'):IxR X (λx y H Q=>r x y H Q\/r' x y H Q):=by
 intro value slice pins s σ H x y v u Q I rx ry q hs
 rcases q with q|q
 ·exact h value slice pins s σ H x y v u Q I rx ry q hs
 ·exact h' value slice pins s σ H x y v u Q I rx ry q hs
theorem MtR.or{id:String}{r r':V->List V->Hp->VK->Prop}(h:MtR X id r)(h':MtR X id r'):MtR X id (λx xs H Q=>r x xs H Q\/r' x xs H Q):=by
 intro pins s σ H x xs v us Q I rx rs q
 rcases q with q|q
 ·exact h pins s σ H x xs v us Q I rx rs q
 ·exact h' pins s σ H x xs v us Q I rx rs q
theorem q5z{r:R2}(hr:IxR X r)(ha:PE X a ta)(hb:PE X b tb)(hs:qf4 b):PE X (.Subscript a b pos) (tOp r ta tb):=by
 intro pins s σ H Q I h
 exact Subscript_ (binT ha hb I h λv u s2 x y H2 I2 rx ry q=>hr a b pins s2 σ H2 x y v u Q I2 rx ry q (hs _ _))
def rIxL(K:PySem.W.Frag):R2:=λx y H Q=>∃p xs i v,x=.ref p/\y=.int i/\SqL K H p xs/\atI xs i=some v/\Q v H
def rIxT(K:PySem.W.Frag):R2:=λx y H Q=>∃p xs i v,x=.ref p/\y=.int i/\SqT K H p xs/\atI xs i=some v/\Q v H
def rIxS:R2:=λx y H Q=>∃z i c,x=.str z/\y=.int i/\z.length<=sizeLine/\atI z.cps.toList i=some c/\Q (.str ⟨#[c]⟩) H
theorem q1i:IxR X (rIxL X.K):=by
 intro value slice pins s σ H x y v u Q I rx ry h hs
 obtain⟨p,xs,i,z,rfl,rfl,hq,he,q⟩:=h
 cases rx
 obtain⟨t,rfl⟩:=ry
 obtain⟨its,r,pl,hz⟩:=I.list hq
 obtain⟨j,h1,h2,h3,h4,h5⟩:=qm6 he
 obtain⟨w,ew,rw'⟩:=r.get h2
 have hl:=r.length
 have hn:=ql8
 have fin:EP X pins σ Q w s:=⟨z,H,I,rw',q⟩
 by_cases h0:0<=i
 ·have hj:i.toNat=j:=by
   rw[seqIndex_of h0 h5] at h1
   exact Option.some.inj h1
  exact item_listR pl.isList h0 (by lia) (by rw[hj];simpa using ew) fin hs
 ·have hj:(i+(its.toArray.size:Int)).toNat=j:=by
   rw[seqIndex_neg (by lia) h4] at h1
   rw[List.size_toArray,←hl]
   exact Option.some.inj h1
  exact subscriptTail_builtinR (x:=w) pl.isList.typeIs slot_list_getitem.lookup
   (wpAny_getItem_list_neg (Q:=λr s'=>r=w/\EP X pins σ Q r s') pl.isList (by lia) (by rw[List.size_toArray]<;>lia) (by lia) (by rw[hj];simpa using ew) ⟨rfl,fin⟩) hs
theorem ix_tup:IxR X (rIxT X.K):=by
 intro value slice pins s σ H x y v u Q I rx ry h hs
 obtain⟨p,xs,i,z,rfl,rfl,hq,he,q⟩:=h
 cases rx
 obtain⟨t,rfl⟩:=ry
 obtain⟨its,r,pl,hz⟩:=I.tuple hq
 obtain⟨j,h1,h2,h3,h4,h5⟩:=qm6 he
 obtain⟨w,ew,rw'⟩:=r.get h2
 have hl:=r.length
 have hn:=ql8
 have fin:EP X pins σ Q w s:=⟨z,H,I,rw',q⟩
 exact subscriptTail_builtinR (x:=w) pl.typeIs slot_tuple_getitem.lookup
  (getItem_tuple (j:=j) (Q:=λr s'=>r=w/\EP X pins σ Q r s') pl (by lia) (by lia) (by rw[List.size_toArray,←hl];exact h1) (by simpa using ew) ⟨rfl,fin⟩) hs
theorem ix_str:IxR X rIxS:=by
 intro value slice pins s σ H x y v u Q I rx ry h hs
 obtain⟨z,i,c,rfl,rfl,hz,he,q⟩:=h
 obtain⟨t,rfl⟩:=rx
 obtain⟨t',rfl⟩:=ry
 obtain⟨j,h1,h2,h3,h4,h5⟩:=qm6 he
 have hl:z.cps.toList.length=z.length:=by simp[Str.length]
 rw[hl] at h1 h4 h5
 have hn:=ql8
 exact tail_any (typeIs_str s z t) slot_str_getitem.lookup (getItem_str (c:=c) (by
  have e1:decide (i < -(2 ^ 63:Int))=false:=decide_eq_false (by lia)
  have e2:decide (i≥2 ^ 63)=false:=decide_eq_false (by lia)
  rw[e1,e2,Bool.or_false]) (by rw[h1];simpa using h2) ⟨.str ⟨#[c]⟩,H,I.tok _,⟨_,rfl⟩,q⟩) hs
theorem qmi(lo hi:Option Int)(n:Nat):(sliceBounds lo hi none n).1=((HT.sIx n 0 lo:Nat):Int)/\(sliceBounds lo hi none n).2.1=((HT.sIx n n hi:Nat):Int)/\(sliceBounds lo hi none n).2.2=1:=by
 refine⟨?_,?_,rfl⟩
 ·cases lo with
 |none=>simp[sliceBounds,HT.sIx]
 |some i =>
   simp only[sliceBounds,HT.sIx,Option.getD_none,show (1:Int)>0 by decide,if_true]
   by_cases h:i<0
   ·simp only[h,if_true]<;>lia
   ·simp only[h,if_false]<;>lia
 ·cases hi with
 |none=>simp[sliceBounds,HT.sIx]
 |some i =>
   simp only[sliceBounds,HT.sIx,Option.getD_none,show (1:Int)>0 by decide,if_true]
   by_cases h:i<0
   ·simp only[h,if_true]<;>lia
   ·simp only[h,if_false]<;>lia
theorem qky(its:List Value)(lo hi:Option Int):slicePick its.toArray lo hi none=((its.drop (HT.sIx its.length 0 lo)).take (HT.sIx its.length its.length hi-HT.sIx its.length 0 lo)).toArray:=by
 obtain⟨h1,h2,h3⟩:=qmi lo hi its.toArray.size
 unfold slicePick
 rw[h1,h2,h3]
 simp only[sliceRange_one,pick_run,List.size_toArray]<;>rfl
def rSlL(K:PySem.W.Frag):V->Option Int->Option Int->Hp->VK->Prop:=λx lo hi H Q=>∃a xs,x=.ref a/\SqL K H a xs/\∀p,H p=none->Q (.ref p) (upd H p (.lst (cutV xs lo hi)))
theorem q3q:SlR X (rSlL X.K):=by
 intro pins s σ H x v vl vu lo hi sl Q I rx hs pl pu h
 obtain⟨a,xs,rfl,hx,q⟩:=h
 cases rx
 obtain⟨its,r,ht,hz⟩:=I.list hx
 have hlen:=r.length
 refine⟨"list",_,slot_list_getitem.lookup,ht.isList.typeIs,?_⟩
 refine wpAny_getItem_list_slice ht.isList hs pl pu .none (by simp) ?_ (by rw[List.size_toArray]<;>lia)
 rw[qky,←hlen]
 refine⟨.ref s.heap.objs.size,_,I.laid (t':=s.toks) (o:=.lst (cutV xs lo hi)) (λb ob q=>Heap.get?_push_of_some _ q) (Nat.le_refl _) ?_,rfl,q _ (I.hok.fresh (Nat.le_refl _))⟩
 exact⟨Nat.le_trans (qhs xs lo hi) hz,_,0,(r.drop (HT.sIx xs.length 0 lo)).take (HT.sIx xs.length xs.length hi-HT.sIx xs.length 0 lo),Heap.get?_push_size _ rfl⟩
def qg4:V->Bool
|.non=>true
|.bl _=>true
|.int _=>true
|.str _=>true
|_=>false
def eqV:V->V->Bool
|.non,.non=>true
|.bl a,.bl b=>a==b
|.bl a,.int b=>(if a then 1 else 0)==b
|.int a,.bl b=>a==(if b then 1 else 0)
|.int a,.int b=>a==b
|.str a,.str b=>a==b
|_,_=>false
theorem qz0{A:Around}{s:Shared}{y x:V}{u v:Value}(ry:RelV y u)(rx:RelV x v)(fy:qg4 y=true)(fx:qg4 x=true):SeqAt.EqAt A s u v (eqV y x):=by
 cases y with
|non =>
  cases ry
  cases x with
 |non=>cases rx;exact SeqAt.EqAt.same _
 |bl b=>cases rx;exact SeqAt.EqAt.none_bool b
 |int b=>obtain⟨t,rfl⟩:=rx;exact SeqAt.EqAt.none_int b t
 |str b=>obtain⟨t,rfl⟩:=rx;exact SeqAt.EqAt.none_str b t
 |_=>exact absurd (show false=true from fx) Bool.false_ne_true
|bl a =>
  cases ry
  cases x with
 |non=>cases rx;exact SeqAt.EqAt.bool_none a
 |bl b=>cases rx;exact SeqAt.EqAt.bool_bool a b
 |int b=>obtain⟨t,rfl⟩:=rx;exact SeqAt.EqAt.bool_int a b t
 |str b=>obtain⟨t,rfl⟩:=rx;exact SeqAt.EqAt.bool_str a b t
 |_=>exact absurd (show false=true from fx) Bool.false_ne_true
|int a =>
  obtain⟨t',rfl⟩:=ry
  cases x with
 |non=>cases rx;exact SeqAt.EqAt.int_none a t'
 |bl b=>cases rx;exact SeqAt.EqAt.int_bool a t' b
 |int b=>obtain⟨t,rfl⟩:=rx;exact SeqAt.EqAt.int_int a t' b t
 |str b=>obtain⟨t,rfl⟩:=rx;exact SeqAt.EqAt.int_str a t' b t
 |_=>exact absurd (show false=true from fx) Bool.false_ne_true
|str a =>
  obtain⟨t',rfl⟩:=ry
  cases x with
 |non=>cases rx;exact SeqAt.EqAt.str_none a t'
 |bl b=>cases rx;exact SeqAt.EqAt.str_bool a t' b
 |int b=>obtain⟨t,rfl⟩:=rx;exact SeqAt.EqAt.str_int a t' b t
 |str b=>obtain⟨t,rfl⟩:=rx;exact SeqAt.EqAt.str_str a t' b t
 |_=>exact absurd (show false=true from fx) Bool.false_ne_true
|_=>exact absurd (show false=true from fy) Bool.false_ne_true
def eqU(x:V)(u:Value):Bool:=match u with
|.none=>eqV .non x
|.bool b=>eqV (.bl b) x
|.int i _=>eqV (.int i) x
|.str z _=>eqV (.str z) x
|_=>false
theorem qz1{x y:V}{u:Value}(r:RelV y u)(f:qg4 y=true):eqU x u=eqV y x:=by
 cases y with
|non=>cases r;rfl
|bl b=>cases r;rfl
|int i=>obtain⟨t,rfl⟩:=r;rfl
|str z=>obtain⟨t,rfl⟩:=r;rfl
|_=>exact absurd (show false=true from f) Bool.false_ne_true
theorem qm5{x:V}:∀ {xs:List V} {us:List Value},Vals xs us->xs.all qg4=true->us.any (eqU x)=xs.any λy=>eqV y x
|_,_,.nil,_=>rfl
|y::xs,u::us,.cons r t,f=>by
  rw[List.all_cons,Bool.and_eq_true] at f
  rw[List.any_cons,List.any_cons,qz1 r f.1,qm5 t f.2]
theorem qki{A:Around}{s:Shared}{x:V}{v:Value}(rx:RelV x v)(fx:qg4 x=true):∀ {xs:List V} {us:List Value},Vals xs us->xs.all qg4=true->∀u∈us,SeqAt.EqAt A s u v (eqU x u)
|_,_,.nil,_=>λu hu=>by cases hu
|y::xs,u::us,.cons r t,f=>λu' hu=>by
  rw[List.all_cons,Bool.and_eq_true] at f
  rcases List.mem_cons.mp hu with rfl|hu
  ·rw[qz1 r f.1];exact qz0 r rx f.1 fx
  ·exact qki rx fx t f.2 u' hu
def inV(x:V)(xs:List V):Bool:=xs.any λy=>eqV y x
def rIn(K:PySem.W.Frag)(neg:Bool):R2:=λx y H Q=>∃p xs,y=.ref p/\(SqL K H p xs\/SqT K H p xs)/\qg4 x=true/\xs.all qg4=true/\Q (.bl (if neg then !inV x xs else inV x xs)) H
theorem qus:OpR X (compareOp .In) (rIn X.K false):=by
 intro pins s σ H x y v u Q I rx ry h
 obtain⟨p,xs,rfl,hq,fx,fs,q⟩:=h
 cases ry
 rcases hq with hq|hq
 ·obtain⟨its,r,pl,hz⟩:=I.list hq
  refine SeqAt.in_listAt (eqU x) pl.isList (λw hw=>qki rx fx r fs w (by simpa using hw)) ⟨.bl _,H,I,rfl,?_⟩
  rw[show its.toArray.any (eqU x)=its.any (eqU x) by simp,qm5 r fs]
  exact q
 ·obtain⟨its,r,pl,hz⟩:=I.tuple hq
  refine SeqAt.in_tupleAt (eqU x) pl (λw hw=>qki rx fx r fs w (by simpa using hw)) ⟨.bl _,H,I,rfl,?_⟩
  rw[show its.toArray.any (eqU x)=its.any (eqU x) by simp,qm5 r fs]
  exact q
theorem qlo:CallR X (.builtin "len") (λxs H Q=>∃p ys,xs=[.ref p]/\(SqL X.K H p ys\/SqT X.K H p ys)/\Q (.int ys.length) H):=by
 intro pins s σ H xs us Q I r h
 obtain⟨p,ys,rfl,hq,q⟩:=h
 obtain⟨u,rfl,rx⟩:=vals1 r
 cases rx
 have hn:=ql8
 rcases hq with hq|hq
 ·obtain⟨its,r',pl,hz⟩:=I.list hq
  have hlen:=r'.length
  exact Calls.call_len_list pl.isList (by simp only[List.size_toArray]<;>lia) ⟨.int ys.length,H,I.tok _,⟨s.toks+1,by rw[List.size_toArray,hlen]⟩,q⟩
 ·obtain⟨its,r',pl,hz⟩:=I.tuple hq
  have hlen:=r'.length
  exact len_tuple pl (by simp only[List.size_toArray]<;>lia) ⟨.int ys.length,H,I.tok _,⟨s.toks+1,by rw[List.size_toArray,hlen]⟩,q⟩
theorem call_len_str:CallR X (.builtin "len") (λxs H Q=>∃z,xs=[.str z]/\z.length<=sizeLine/\Q (.int z.length) H):=by
 intro pins s σ H xs us Q I r h
 obtain⟨z,rfl,hz,q⟩:=h
 obtain⟨u,rfl,t,rfl⟩:=vals1 r
 have hn:=ql8
 exact len_str (by lia) ⟨.int z.length,H,I.tok _,⟨_,rfl⟩,q⟩
theorem CallR.or{f:Value}{r r':List V->Hp->VK->Prop}(h:CallR X f r)(h':CallR X f r'):CallR X f (λxs H Q=>r xs H Q\/r' xs H Q):=by
 intro pins s σ H xs us Q I rs q
 rcases q with q|q
 ·exact h pins s σ H xs us Q I rs q
 ·exact h' pins s σ H xs us Q I rs q
theorem qlq:CallR X (.type "list") (λxs H Q=>∃p ys,xs=[.ref p]/\(SqL X.K H p ys\/SqT X.K H p ys)/\∀l,H l=none->Q (.ref l) (upd H l (.lst ys))):=by
 intro pins s σ H xs us Q I r h
 obtain⟨p,ys,rfl,hq,q⟩:=h
 obtain⟨u,rfl,rx⟩:=vals1 r
 cases rx
 have fin:∀(its:List Value),Vals ys its->ys.length<=sizeLine->∀(h':Heap) (c':Nat),(∀b o',s.heap.get? b=some o'->h'.get? b=some o') ->
   h'.get? s.heap.objs.size=some { cls:=.type "list",dict:=none,data:=.seq its.toArray c',slots:=#[] }->EP X pins σ Q (.ref s.heap.objs.size) { s with heap:=h' }:=λits r' hz h' c' kp e =>
  ⟨.ref s.heap.objs.size,_,I.laid (t':=s.toks) kp (Nat.le_refl _) (show ObjOk X.prog X.w _ h' _ (.lst ys) from ⟨hz,its,c',r',e⟩),rfl,q _ (I.hok.fresh (Nat.le_refl _))⟩
 rcases hq with hq|hq
 ·obtain⟨its,r',pl,hz⟩:=I.list hq
  have hlen:=r'.length
  obtain⟨o,ho,hc,n,hd⟩:=pl.isList
  exact call_list_seq p (.inl rfl) ho hc hd (λh' c' kp e=>fin its r' hz h' c' kp e) (by simp only[List.size_toArray]<;>lia)
 ·obtain⟨its,r',pl,hz⟩:=I.tuple hq
  have hlen:=r'.length
  obtain⟨o,ho,hc,n,hd⟩:=pl
  exact call_list_seq p (.inr rfl) ho hc hd (λh' c' kp e=>fin its r' hz h' c' kp e) (by simp only[List.size_toArray]<;>lia)
def tyV(K:PySem.W.Frag)(T:String)(x:V)(H:Hp):Prop:=match x with
|.str _=>T="str"
|.int _=>T="int"
|.ref p=>(T="list" /\ ∃xs,SqL K H p xs)\/(T="tuple" /\ ∃o,K.lookup p=some o/\o.cls=.type "tuple" /\ o.dict=none) \/
   (T="dict" /\ ((∃kvs,H p=some (.dK kvs))\/∃kvs,H p=some (.dT kvs)))\/(T="set" /\ ∃S n,H p=some (.set S n))
|_=>False
theorem q7n{pins:List (Addr×Obj)}{σ:St}{H:Hp}{s:Shared}{T:String}{x:V}{v:Value}(I:Inv X pins σ H s)(r:RelV x v)(ty:tyV X.K T x H) :
  s.TypeIs v T/\∀a,v=.ref a->∃ob,s.heap.get? a=some ob/\ob.dict=none:=by
 cases x with
|str z =>
  obtain⟨t,rfl⟩:=r
  cases (show T="str" from ty)
  exact⟨typeIs_str s z t,λ_ e=>nomatch e⟩
|int i =>
  obtain⟨t,rfl⟩:=r
  cases (show T="int" from ty)
  exact⟨typeIs_int s i t,λ_ e=>nomatch e⟩
|ref p =>
  cases r
  rcases ty with ⟨rfl,xs,hq⟩|⟨rfl,o,hk,hc,hd⟩|⟨rfl,hk⟩|⟨rfl,S,n,hk⟩
  ·obtain⟨its,_,pl,_⟩:=I.list hq
   refine⟨pl.isList.typeIs,λa e=>?_⟩
   cases e
   obtain⟨o,n,e,c,hd,_⟩:=pl
   exact⟨o,e,hd⟩
  ·refine⟨⟨o,I.kIn p o hk,hc⟩,λa e=>?_⟩
   cases e
   exact⟨o,I.kIn _ o hk,hd⟩
  ·have z:∃o,s.heap.get? p=some o/\o.ExactDict:=by
    rcases hk with ⟨kvs,hk⟩|⟨kvs,hk⟩
    ·obtain⟨_,_,_,_,o,_,_,e,ex,_⟩:=I.hok p _ hk
     exact⟨o,e,ex⟩
    ·obtain⟨_,_,_,_,o,_,_,e,ex,_⟩:=I.hok p _ hk
     exact⟨o,e,ex⟩
   obtain⟨o,e,ex⟩:=z
   refine⟨⟨o,e,ex.1⟩,λa e2=>?_⟩
   cases e2
   exact⟨o,e,ex.2.1⟩
  ·obtain⟨o,_,_,_,e,ex,_⟩:=I.hok p _ hk
   refine⟨⟨o,e,ex.1⟩,λa e2=>?_⟩
   cases e2
   exact⟨o,e,ex.2.1⟩
|_=>exact False.elim ty
def tBM(K:PySem.W.Frag)(T:String)(r:V->List V->Hp->VK->Prop)(to:TE)(t:TA):TE:=λσ H Q=>to σ H λx H1=>tyV K T x H1/\t σ H1 λxs H2=>r x xs H2 Q
variable {o e:Expr} {es:List Expr} {to:TE} {t:TA} {name:Str} {apos cpos:Pos} {T id:String} {r:V->List V->Hp->VK->Prop}
theorem q8m(pa:PlainAttrs T)(slot:Slot T name id)(hty:typeOf (.builtin id)=pure (.type "method_descriptor"))(hm:MtR X id r)(ho:PE X o to)(ha:PA X (e::es) t)
  (hbase:attributeBase o name X.env (eval o X.env)=eval o X.env:=by rfl)
  (hfew:((backTo cpos (starEach (e::es) X.env)).all (λx=>!x.1)&&(backToKw cpos (keywordEach [] X.env)).all (λx=>x.1.isSome)
   && decide ((e::es).length+([]:List Keyword).length+(if ([]:List Keyword).isEmpty then 0 else 1)<30))=true:=by rfl)
  (hline:(apos.endLine==cpos.line)=true:=by rfl) (hs:starEach (e::es) X.env=(false,eval e X.env)::starEach es X.env:=by rfl) (hplain:(backTo cpos (starEach es X.env)).any (·.1)=false:=by rfl) :
  PE X (.Call (.Attribute o name apos) (e::es) [] cpos) (tBM X.K T r to t):=by
 intro pins s σ H Q I h
 refine wpAny_Call_method_late hbase hfew hline rfl (thn (ho pins s σ H _ I h) λv s1 ⟨x,H1,I1,r1,ty,q1⟩=>?_)
 obtain⟨h1,h2⟩:=q7n I1 r1 ty
 refine⟨T,id,pa,slot,hty,h1,h2,?_⟩
 have hA:=ha cpos pins s1 σ H1 _ I1 q1
 rw[hs] at hA ⊢
 refine Calls.callWith_builtin (by show (false||(backTo cpos (starEach es X.env)).any (·.1))=false;rw[hplain]<;>rfl) (Calls.evalArgs_plain ?_)
 exact thn hA λus s2 ⟨vs,H2,I2,r2,q2⟩=>hm pins s2 σ H2 x vs v us Q I2 r1 r2 q2
end
end L2
namespace L2
open PySem PySem.Spec PyProof.Rows
def MtM(X:Cx)(id:String)(r:V->List V->Hp->VK->Prop):Prop :=
 ∀(pins:List (Addr×Obj)) (s:Shared) (σ:St) (H:Hp) (x:V) (xs:List V) (v:Value) (us:List Value) (Q:VK),Inv X pins σ H s->RelV x v->Vals xs us->r x xs H Q ->
  wpAny (model X.prog X.w) X.A (call (.builtin id) (v::us)) (EP X pins σ Q) X.xe s
theorem Vals.one:∀ {x:V} {us:List Value},Vals [x] us->∃u,us=[u]/\RelV x u
|_,_,.cons r .nil=>⟨_,rfl,r⟩
theorem Vals.zero:∀ {us:List Value},Vals [] us->us=[]
|_,.nil=>rfl
theorem Vals.eraseIdx:∀ {xs:List V} {us:List Value} (i:Nat),Vals xs us->Vals (xs.eraseIdx i) (us.eraseIdx i)
|_,_,_,.nil=>.nil
|_,_,0,.cons _ t=>t
|_,_,i+1,.cons r t=>.cons r (Vals.eraseIdx i t)
theorem Vals.rep{xs:List V}{us:List Value}(h:Vals xs us):∀k:Nat,Vals (List.replicate k xs).flatten (List.replicate k us).flatten
|0=>.nil
|k+1=>by
  rw[List.replicate_succ,List.replicate_succ,List.flatten_cons,List.flatten_cons]
  exact Vals.append h (Vals.rep h k)
theorem ql1{α:Type}:∀(l:List α) (i:Nat),(l.eraseIdx i).length<=l.length
|[],_=>Nat.le_refl _
|_::_,0=>Nat.le_succ _
|_::r,i+1=>Nat.succ_le_succ (ql1 r i)
section
variable {X:Cx} {pins:List (Addr×Obj)} {σ:St} {H:Hp} {s:Shared} {l b:Addr} {xs ys zs:List V}
theorem Inv.lset{its its':List Value}{n:Nat}{f:Array Value->Array Value}{t':Nat}(I:Inv X pins σ H s)(hH:H l=some (.lst xs))
  (e:s.heap.get? l=some { cls:=.type "list",data:=.seq its.toArray n }) (hf:f its.toArray=its'.toArray) (hv:Vals ys its') (hz:ys.length<=sizeLine) :
  Inv X pins σ (upd H l (.lst ys)) { s with heap:=s.heap.update l (Obj.mapSeq f),toks:=t' }:=by
 have q:=PySem.IsL.update e f
 rw[hf] at q
 refine I.write (x:=l) (e:=l) (by rw[hH];exact trivial) (.inl rfl) (λb' u hb hu=>(Heap.get?_update_other s.heap (Obj.mapSeq f) (Ne.symm hb)).trans hu) ⟨_,q⟩ ?_
 exact⟨hz,its',_,hv,q⟩
theorem Inv.lnew{its:List Value}{t':Nat}(I:Inv X pins σ H s)(hv:Vals ys its)(hz:ys.length<=sizeLine) :
  Inv X pins σ (upd H s.heap.objs.size (.lst ys)) { s with heap:=s.heap.push { cls:=.type "list",data:=.seq its.toArray },toks:=t' } :=
 I.laid (λ_ _ q=>Heap.get?_push_of_some _ q) (Nat.le_refl _) ⟨hz,its,0,hv,Heap.get?_push_size _ rfl⟩
theorem Inv.fresh(I:Inv X pins σ H s):H s.heap.objs.size=none:=I.hok.fresh (Nat.le_refl _)
theorem Inv.lstM(I:Inv X pins σ H s)(hH:H l=some (.lst xs)):xs.length<=sizeLine/\∃(its:List Value) (n:Nat),Vals xs its/\xs.length=its.length/\s.heap.get? l=some { cls:=.type "list",data:=.seq its.toArray n }:=by
 obtain⟨z,its,n,r,e⟩:=I.hok l _ hH
 exact⟨z,its,n,r,r.length,e⟩
end
section
variable {X:Cx}
def q3e:V->List V->Hp->VK->Prop:=λx vs H Q=>∃l xs y,x=.ref l/\vs=[y]/\H l=some (.lst xs)/\xs.length<sizeLine/\Q .non (upd H l (.lst (xs++[y])))
theorem qma:MtM X "list.append" q3e:=by
 intro pins s σ H x vs v us Q I rx rv h
 obtain⟨l,xs,y,rfl,rfl,hH,hz,q⟩:=h
 cases rx
 obtain⟨u,rfl,ru⟩:=rv.one
 obtain⟨z,its,n,r,hl,e⟩:=I.lstM hH
 refine call_meets F.slot_list_append ⟨_,e,rfl⟩ F.entry_list_append (F.args_list_append_2 _ _) (PySem.list_append l its.toArray n u (by rw[List.size_toArray];lia)) ⟨e,?_⟩
 refine⟨.non,_,I.lset (its':=its++[u]) hH e (by simp) (r.append (.cons ru .nil)) ?_,rfl,q⟩
 rw[List.length_append,List.length_singleton]
 lia
def q6y:V->List V->Hp->VK->Prop:=λx vs H Q=>∃l xs i k y,x=.ref l/\vs=[.int i]/\H l=some (.lst xs)/\-(2 ^ 63)<=i/\i<2 ^ 63/\seqIndex? i xs.length=some k/\xs[k]?=some y/\Q y (upd H l (.lst (xs.eraseIdx k)))
theorem qxw:MtM X "list.pop" q6y:=by
 intro pins s σ H x vs v us Q I rx rv h
 obtain⟨l,xs,i,k,y,rfl,rfl,hH,h1,h2,hk,hy,q⟩:=h
 cases rx
 obtain⟨u,rfl,ru⟩:=rv.one
 obtain⟨t,rfl⟩:=ru
 obtain⟨z,its,n,r,hl,e⟩:=I.lstM hH
 obtain⟨w,hw,rw'⟩:=r.get hy
 refine call_meets F.slot_list_pop ⟨_,e,rfl⟩ F.entry_list_pop (F.args_list_pop_2 _ _)
  (MeetsSeq.list_pop_at l its.toArray n i t k w (fitsIndex_both h1 h2) (by rw[List.size_toArray,←hl];exact hk) (by rw[←Array.getElem?_toList];exact hw) (by rw[List.size_toArray];lia)) ⟨e,?_⟩
 refine⟨y,_,I.lset (its':=its.eraseIdx k) hH e ?_ (r.eraseIdx k) ?_,rw',q⟩
 ·show its.toArray.eraseIdxIfInBounds k=(its.eraseIdx k).toArray
  rw[List.eraseIdxIfInBounds_toArray]
 ·have:=ql1 xs k
  lia
def rCat:R2:=λx y H Q=>∃l b xs zs,x=.ref l/\y=.ref b/\H l=some (.lst xs)/\H b=some (.lst zs)/\xs.length+zs.length<=sizeLine/\∀p,H p=none->Q (.ref p) (upd H p (.lst (xs++zs)))
theorem q5l:OpR X (binaryOp .Add) rCat:=by
 intro pins s σ H x y v u Q I rx ry h
 obtain⟨l,b,xs,zs,rfl,rfl,hH,hB,hz,q⟩:=h
 cases rx
 cases ry
 obtain⟨z,its,n,r,hl,e⟩:=I.lstM hH
 obtain⟨z2,its2,n2,r2,hl2,e2⟩:=I.lstM hB
 refine PySem.P.add_list e e2 ?_ (by rw[List.size_toArray,List.size_toArray];lia)
 have ea:its.toArray++its2.toArray=(its++its2).toArray:=by simp
 rw[ea]
 exact⟨.ref _,_,I.lnew (t':=s.toks) (r.append r2) (by rw[List.length_append];lia),rfl,q _ I.fresh⟩
end
section
variable {prog:Program} {w:World} {A:Around} {E:Value->Shared->Prop} {s:Shared}
end
section
variable {X:Cx}
end
end L2
namespace L2
open PySem PySem.Spec PyProof.Rows
section
variable {κ:Type} [DecidableEq κ]
def valV(kvs:List (κ×V))(k:κ):Option V:=(kvs.find? λkv=>decide (kv.1=k)).map (·.2)
def putK(kvs:List (κ×V))(k:κ)(v:V):List (κ×V) :=
 if (kvs.any λkv=>decide (kv.1=k))=true then kvs.map (λkv=>if kv.1=k then (kv.1,v) else kv) else kvs++[(k,v)]
theorem qf2{p:κ×V}{r:List (κ×V)}{k:κ}(e:p.1=k):valV (p::r) k=some p.2:=by simp[valV,List.find?_cons,e]
theorem qf1{p:κ×V}{r:List (κ×V)}{k:κ}(e:¬ p.1=k):valV (p::r) k=valV r k:=by simp[valV,List.find?_cons,e]
theorem qqo(k:κ):∀kvs:List (κ×V),(kvs.any λkv=>decide (kv.1=k))=(valV kvs k).isSome
|[]=>rfl
|p::r=>by
  rw[List.any_cons]
  by_cases e:p.1=k
  ·simp only[qf2 e,decide_eq_true e,Bool.true_or,Option.isSome_some]
  ·rw[qf1 e,decide_eq_false e,Bool.false_or];exact qqo k r
theorem qh3(kvs:List (κ×V))(k:κ)(v:V):(putK kvs k v).length<=kvs.length+1:=by
 unfold putK
 split
 ·rw[List.length_map];lia
 ·rw[List.length_append,List.length_cons,List.length_nil];lia
theorem RelO.isSome_eq{o:Option V}{u:Option Value}(r:RelO o u):o.isSome=u.isSome:=by
 cases o with
|none=>cases u with
 |none=>rfl
 |some _=>exact(show False from r).elim
|some _=>cases u with
 |none=>exact(show False from r).elim
 |some _=>rfl
theorem RelO.getD{o:Option V}{u:Option Value}{d:V}{d':Value}(r:RelO o u)(rd:RelV d d'):RelV (o.getD d) (u.getD d'):=by
 cases o with
|none=>cases u with
 |none=>exact rd
 |some _=>exact(show False from r).elim
|some _=>cases u with
 |none=>exact(show False from r).elim
 |some _=>exact r
theorem KV.val{kvs:List (κ×V)}{vs:List (κ×Value)}(r:KV kvs vs)(k:κ):RelO (valV kvs k) (valueAt vs k):=by
 unfold KV at r
 induction r with
|nil=>exact True.intro
|@cons p q ps qs h t ih =>
  obtain⟨h1,h2⟩:=h
  by_cases e:p.1=k
  ·have e':q.1=k:=h1.symm.trans e
   have b:valueAt (q::qs) k=some q.2:=by simp[valueAt,List.find?_cons,e']
   rw[qf2 e,b];exact h2
  ·have e':¬ q.1=k:=λz=>e (h1.trans z)
   have b:valueAt (q::qs) k=valueAt qs k:=by simp[valueAt,List.find?_cons,e']
   rw[qf1 e,b];exact ih
theorem KV.any{kvs:List (κ×V)}{vs:List (κ×Value)}(r:KV kvs vs)(k:κ):(kvs.any λkv=>decide (kv.1=k))=vs.any λkv=>decide (kv.1=k):=by
 unfold KV at r
 induction r with
|nil=>rfl
|cons h t ih=>rw[List.any_cons,List.any_cons,ih,h.1]
theorem KV.repl{kvs:List (κ×V)}{vs:List (κ×Value)}(r:KV kvs vs)(k:κ){y:V}{u:Value}(ry:RelV y u) :
  KV (kvs.map λkv=>if kv.1=k then (kv.1,y) else kv) (vs.map λkv=>if kv.1=k then (kv.1,u) else kv):=by
 unfold KV at r ⊢
 induction r with
|nil=>exact .nil
|@cons p q ps qs h t ih =>
  rw[List.map_cons,List.map_cons]
  refine .cons ?_ ih
  obtain⟨h1,h2⟩:=h
  by_cases e:p.1=k
  ·rw[if_pos e,if_pos (h1.symm.trans e)];exact⟨h1,ry⟩
  ·rw[if_neg e,if_neg (λz=>e (h1.trans z))];exact⟨h1,h2⟩
theorem KV.put{kvs:List (κ×V)}{vs:List (κ×Value)}(r:KV kvs vs)(k:κ){y:V}{u:Value}(ry:RelV y u):KV (putK kvs k y) (stored vs k u):=by
 unfold putK stored
 rw[r.any k]
 by_cases e:(vs.any λkv=>decide (kv.1=k))=true
 ·rw[if_pos e,if_pos e];exact r.repl k ry
 ·rw[if_neg e,if_neg e];exact Paired.snoc r ⟨rfl,ry⟩
theorem KV.length{kvs:List (κ×V)}{vs:List (κ×Value)}(r:KV kvs vs):kvs.length=vs.length:=Paired.length r
end
theorem qq9{P:Program}{w:World}{k:Key}{u:Value}(r:RelV (kV k) u):(qb3 P w).is k u=true:=by
 cases k with
|inl i=>obtain⟨t,e⟩:=(show ∃t,u=Value.int i t from r);subst e;exact qof P w i t
|inr x=>obtain⟨t,e⟩:=(show ∃t,u=Value.str x t from r);subst e;exact qog P w x t
theorem qlz{P:Program}{w:World}:∀ {ks:List Key} {us:List Value},Vals (ks.map kV) us->ItemsAre (qb3 P w) ks us
|[],_,r=>by rw[List.map_nil] at r;cases r;exact .nil
|k::ks,_,r=>by
  rw[List.map_cons] at r
  cases r with
 |cons h t=>exact .cons (qq9 h) (qlz t)
abbrev KT(H:Hp):List (List Key×V)->List (List Key×Addr×Value)->Prop:=Paired λp q=>p.1=q.1/\H q.2.1=some (.tup (p.1.map kV))/\RelV p.2 q.2.2
theorem KT.val{H:Hp}{kvs:List (List Key×V)}{xs:List (List Key×Addr×Value)}(r:KT H kvs xs)(k:List Key):RelO (valV kvs k) ((atKey xs k).map (·.2)):=by
 induction r with
|nil=>exact True.intro
|@cons p q ps qs h t ih =>
  obtain⟨h1,_,h2⟩:=h
  by_cases e:p.1=k
  ·have e':q.1=k:=h1.symm.trans e
   have b:atKey (q::qs) k=some q.2:=by simp[atKey,List.find?_cons,e']
   rw[qf2 e,b];exact h2
  ·have e':¬ q.1=k:=λz=>e (h1.trans z)
   have b:atKey (q::qs) k=atKey qs k:=by simp[atKey,List.find?_cons,e']
   rw[qf1 e,b];exact ih
theorem KT.repl{H:Hp}{kvs:List (List Key×V)}{xs:List (List Key×Addr×Value)}(r:KT H kvs xs)(k:List Key){y:V}{u:Value}(ry:RelV y u) :
  KT H (kvs.map λkv=>if kv.1=k then (kv.1,y) else kv) (xs.map (putAt k u)):=by
 induction r with
|nil=>exact .nil
|@cons p q ps qs h t ih =>
  rw[List.map_cons,List.map_cons]
  refine .cons ?_ ih
  obtain⟨h1,h2,h3⟩:=h
  unfold putAt
  by_cases e:p.1=k
  ·rw[if_pos e,if_pos (h1.symm.trans e)];exact⟨h1,h2,ry⟩
  ·rw[if_neg e,if_neg (λz=>e (h1.trans z))];exact⟨h1,h2,h3⟩
theorem KT.put{H:Hp}{kvs:List (List Key×V)}{xs:List (List Key×Addr×Value)}(r:KT H kvs xs)(k:List Key){b:Addr}{y:V}{u:Value}(hb:H b=some (.tup (k.map kV)))(ry:RelV y u) :
  KT H (putK kvs k y) (storedH xs k b u):=by
 have e:(kvs.any λkv=>decide (kv.1=k))=(atKey xs k).isSome:=by
  rw[qqo,(r.val k).isSome_eq,Option.isSome_map]
 unfold putK storedH
 rw[e]
 by_cases q:(atKey xs k).isSome=true
 ·rw[if_pos q,if_pos q];exact r.repl k ry
 ·rw[if_neg q,if_neg q];exact Paired.snoc r ⟨rfl,hb,ry⟩
theorem KT.keeps{H H':Hp}{kvs:List (List Key×V)}{xs:List (List Key×Addr×Value)}(r:KT H kvs xs)(ht:∀b ys,H b=some (.tup ys)->H' b=some (.tup ys)):KT H' kvs xs :=
 Paired.mapP r λ_ _ z=>⟨z.1,ht _ _ z.2.1,z.2.2⟩
section
variable {P:Program} {w:World} {H:Hp} {h:Heap} {a:Addr}
theorem q6z{u:HO}(ok:HOk P w H h)(e:Rd H a u):ObjOk P w H h a u:=e.ok ok
theorem qnl{kvs:List (Key×V)}(ok:HOk P w H h)(e:Rd H a (.dK kvs)):kvs.length<=sizeLine/\(a==sysModules)=false/\∃vs,KV kvs vs/\h.DictOf (qb3 P w) a vs :=
 show ObjOk P w H h a (.dK kvs) from q6z ok e
theorem q79{kvs:List (Key×V)}(ok:HOk P w H h)(e:H a=some (.dK kvs)):kvs.length<=sizeLine/\(a==sysModules)=false/\∃vs,KV kvs vs/\h.DictOf (qb3 P w) a vs:=qnl ok (.inl e)
theorem qh1{ks:List Key}(ok:HOk P w H h)(e:H a=some (.tup (ks.map kV))):(tupleKind (qb3 P w)).is h ks a:=by
 obtain⟨_,its,r,o,h1,h2,n,h3⟩:=(show ObjOk P w H h a (.tup (ks.map kV)) from ok a _ e)
 exact⟨o,its.toArray,n,h1,h2,h3,by simpa using qlz r⟩
theorem qlv{kvs:List (List Key×V)}(ok:HOk P w H h)(e:Rd H a (.dT kvs)):kvs.length<=sizeLine/\(a==sysModules)=false /\
  ∃xs,KT H kvs xs/\h.DictOfH (tupleKind (qb3 P w)) a xs:=by
 obtain⟨z,y,xs,r,o,es,ep,h1,h2,h3,h4,h5⟩:=(show ObjOk P w H h a (.dT kvs) from q6z ok e)
 refine⟨z,y,xs,r,o,es,ep,h1,h2,h3,h4,λx hx=>?_,h5⟩
 have all:∀ {l:List (List Key×V)} {m:List (List Key×Addr×Value)},KT H l m->∀x∈m,(tupleKind (qb3 P w)).is h x.1 x.2.1:=by
  intro l m q
  induction q with
 |nil=>intro x hx;exact nomatch hx
 |@cons p q ps qs hq t ih =>
   intro x hx
   rcases List.mem_cons.mp hx with e|hx
   ·subst e
    exact qh1 ok (by rw[←hq.1];exact hq.2.1)
   ·exact ih x hx
 exact all r x hx
theorem q4z{kvs:List (List Key×V)}(ok:HOk P w H h)(e:H a=some (.dT kvs)):kvs.length<=sizeLine/\(a==sysModules)=false /\
  ∃xs,KT H kvs xs/\h.DictOfH (tupleKind (qb3 P w)) a xs:=qlv ok (.inl e)
end
def DGet(H:Hp)(a:Addr)(y:V)(r:Option V):Prop :=
 (∃kvs k,Rd H a (.dK kvs)/\y=kV k/\r=valV kvs k)\/∃kvs k b,Rd H a (.dT kvs)/\y=.ref b/\H b=some (.tup (k.map kV))/\r=valV kvs k
def DPut(H:Hp)(a:Addr)(y v:V)(H':Hp):Prop :=
 (∃kvs k,H a=some (.dK kvs)/\y=kV k/\kvs.length<sizeLine/\H'=upd H a (.dK (putK kvs k v))) \/
 ∃kvs k b,H a=some (.dT kvs)/\y=.ref b/\H b=some (.tup (k.map kV))/\kvs.length<sizeLine/\H'=upd H a (.dT (putK kvs k v))
theorem DGet.k{H:Hp}{a:Addr}{kvs:List (Key×V)}{k:Key}(e:H a=some (.dK kvs)):DGet H a (kV k) (valV kvs k):=.inl ⟨kvs,k,.inl e,rfl,rfl⟩
theorem DPut.t{H:Hp}{a b:Addr}{kvs:List (List Key×V)}{k:List Key}{v:V}(e:H a=some (.dT kvs))(eb:H b=some (.tup (k.map kV)))(hl:kvs.length<sizeLine) :
  DPut H a (.ref b) v (upd H a (.dT (putK kvs k v))):=.inr ⟨kvs,k,b,e,rfl,eb,hl,rfl⟩
section
variable {X:Cx} {pins:List (Addr×Obj)} {σ:St} {H:Hp} {s:Shared} {a:Addr} {y v:V} {u r:Value} {o:Option V} {A:Around} {E:Value->Shared->Prop}
theorem Inv.big(I:Inv X pins σ H s):sysModules<s.heap.objs.size:=by
 have h:mainGlobals<s.heap.objs.size:=(I.mod.glob.keeps I.bk).lt
 exact Nat.lt_trans (by decide) h
theorem qtg{Q:Value->Shared->Prop}(hu:A.units+1<cLine)(I:Inv X pins σ H s)(g:DGet H a y (some v))(ry:RelV y u)(h:∀w' s',Inv X pins σ H s'->RelV v w'->Q w' s') :
  wpAny (model X.prog X.w) A (getItem (.ref a) u) Q E s:=by
 rcases g with ⟨kvs,k,e,ey,l⟩|⟨kvs,k,b,e,ey,eb,l⟩
 ·subst ey
  obtain⟨z,hd,vs,rel,dd⟩:=qnl I.hok e
  obtain⟨w',hw,rw'⟩:=RelO.some_of (v:=v) (o:=valueAt vs k) (by rw[l];exact rel.val k)
  exact wpAny_getItem_of (qq9 ry) dd.mapOf hw (h w' _ (I.tok _) rw')
 ·subst ey
  cases (show u=Value.ref b from ry)
  obtain⟨z,hd,xs,rel,dd⟩:=qlv I.hok e
  obtain⟨w',hw,rw'⟩:=RelO.some_of (v:=v) (o:=(atKey xs k).map (·.2)) (by rw[l];exact rel.val k)
  obtain⟨p,hp,hp2⟩:=Option.map_eq_some_iff.mp hw
  refine wpAny_getItem_heap (tupleKind_room_in1 hu) (qh1 I.hok eb) dd hp ?_
  rw[hp2]
  exact h w' _ (I.tok _) rw'
theorem d_in{Q:Value->Shared->Prop}(hu:A.units+1<cLine)(I:Inv X pins σ H s)(g:DGet H a y o)(ry:RelV y u)(h:∀s',Inv X pins σ H s'->Q (.bool o.isSome) s') :
  wpAny (model X.prog X.w) A (compareOp .In u (.ref a)) Q E s:=by
 rcases g with ⟨kvs,k,e,ey,l⟩|⟨kvs,k,b,e,ey,eb,l⟩
 ·subst ey
  obtain⟨z,hd,vs,rel,dd⟩:=qnl I.hok e
  refine wpAny_in_of (qq9 ry) hd dd.mapOf ?_
  rw[←(rel.val k).isSome_eq,←l]
  exact h _ (I.tok _)
 ·subst ey
  cases (show u=Value.ref b from ry)
  obtain⟨z,hd,xs,rel,dd⟩:=qlv I.hok e
  refine wpAny_in_heap (tupleKind_room_in1 hu) (qh1 I.hok eb) hd dd ?_
  have q:=(rel.val k).isSome_eq
  rw[Option.isSome_map] at q
  rw[←q,←l]
  exact h _ (I.tok _)
theorem q05{Q:Value->Shared->Prop}(hu:A.units+1<cLine)(I:Inv X pins σ H s)(g:DGet H a y o)(ry:RelV y u)(h:∀s',Inv X pins σ H s'->Q (.bool (!o.isSome)) s') :
  wpAny (model X.prog X.w) A (compareOp .NotIn u (.ref a)) Q E s:=by
 rcases g with ⟨kvs,k,e,ey,l⟩|⟨kvs,k,b,e,ey,eb,l⟩
 ·subst ey
  obtain⟨z,hd,vs,rel,dd⟩:=qnl I.hok e
  refine wpAny_notIn_of (qq9 ry) hd dd.mapOf ?_
  rw[←(rel.val k).isSome_eq,←l]
  exact h _ (I.tok _)
 ·subst ey
  cases (show u=Value.ref b from ry)
  obtain⟨z,hd,xs,rel,dd⟩:=qlv I.hok e
  refine wpAny_notIn_heap (tupleKind_room_in1 hu) (qh1 I.hok eb) hd dd ?_
  have q:=(rel.val k).isSome_eq
  rw[Option.isSome_map] at q
  rw[←q,←l]
  exact h _ (I.tok _)
theorem qng{h':Heap}{t':Nat}{ob:HO}(I:Inv X pins σ H s)(mu:Mut (H a))(hs:Heap.SameBut a s.heap h')(he:∃q,h'.get? a=some q)(new:ObjOk X.prog X.w (upd H a ob) h' a ob) :
  Inv X pins σ (upd H a ob) { s with heap:=h',toks:=t' } :=
 I.write (x:=a) (e:=a) mu (.inl rfl) (λb q hb z=>(hs.2 b hb).trans z) he new
theorem q4y{P:Program}{w:World}{H':Hp}{h':Heap}{kvs:List (Key×V)}{vs:List (Key×Value)}(z:kvs.length<=sizeLine)(hd:(a==sysModules)=false)(rel:KV kvs vs)(dd:h'.DictOf (qb3 P w) a vs) :
  ObjOk P w H' h' a (.dK kvs):=⟨z,hd,vs,rel,dd⟩
theorem qth{H':Hp}{Q:Unit->Shared->Prop}(hu:A.units+1<cLine)(I:Inv X pins σ H s)(g:DPut H a y v H')(ry:RelV y u)(rv:RelV v r)(h:∀s',Inv X pins σ H' s'->Q () s') :
  wpAny (model X.prog X.w) A (setItem (.ref a) u r) Q E s:=by
 rcases g with ⟨kvs,k,e,ey,l,eH⟩|⟨kvs,k,b,e,ey,eb,l,eH⟩
 ·subst ey eH
  obtain⟨z,hd,vs,rel,dd⟩:=q79 I.hok e
  have hz:vs.length<=sizeLine:=by rw[←rel.length];exact z
  have hl:(putK kvs k v).length<=sizeLine:=by have:=qh3 kvs k v;lia
  refine wpAny_setItem_pairs (hsz:=hz) (qq9 ry) dd λh' dd' hs=>h _ ?_
  have he:∃q,h'.get? a=some q:=let ⟨q,_,_,hq,_⟩:=dd';⟨q,hq⟩
  exact qng I (by rw[e];exact True.intro) hs he (q4y hl hd (rel.put k rv) dd')
 ·subst ey eH
  cases (show u=Value.ref b from ry)
  obtain⟨z,hd,xs,rel,dd⟩:=q4z I.hok e
  have hz:xs.length<=sizeLine:=by rw[←Paired.length rel];exact z
  have hl:(putK kvs k v).length<=sizeLine:=by have:=qh3 kvs k v;lia
  refine wpAny_setItem_heap (hsz:=hz) (tupleKind_room_in1 hu) (qh1 I.hok eb) dd λh' dd' hs=>h _ ?_
  obtain⟨q,es,ep,hq,h2,h3,h4,_,h5⟩:=dd'
  refine qng I (by rw[e];exact True.intro) hs ⟨q,hq⟩ ⟨hl,hd,_,(rel.put k eb rv).keeps λc ys ec=>?_,q,es,ep,hq,h2,h3,h4,h5⟩
  rw[qau (q5h ec e (λz=>nomatch z))]
  exact ec
end
section
variable {X:Cx} {pins:List (Addr×Obj)} {σ:St} {H:Hp} {s:Shared} {a:Addr} {kvs:List (Key×V)} {k:Key} {u:Value} {A:Around} {E:Value->Shared->Prop}
end
def NoSl(i:Expr):Prop:=∀ov iv,subscripted i false ov iv=operate [ov,iv] (getItem ov iv)
theorem q3t{prog:Program}{w:World}{A:Around}{E:Value->Shared->Prop}{s:Shared}{env:Env}{value slice:Expr}{pos:Pos}{T id:String}{Q:Value->Shared->Prop}
  (hl:typeLookup (.type T) "__getitem__" = pure (some (.builtin id))) (hs:NoSl slice)
  (h:wpAny (model prog w) A (eval value env) (λo s₁=>wpAny (model prog w) A (eval slice env) (λi s₂=>s₂.TypeIs o T/\wpAny (model prog w) A (getItem o i) Q E s₂) E s₁) E s) :
  wpAny (model prog w) A (eval (.Subscript value slice pos) env) Q E s:=by
 refine Subscript_ (wpAny_mono h (λo s₁ h₁=>wpAny_mono h₁ (λi s₂ h₂=>?_) λ_ _ x=>x) λ_ _ x=>x)
 obtain⟨hT,h₂⟩:=h₂
 unfold subscriptTail
 refine wpAny_bind ?_
 rw[getitemInPython_of_ne hT.not_modules]
 refine wpAny_bind (wpAny_specialOf hT hl ?_)
 have fin:wpAny (model prog w) A (subscripted slice false o i) (λr s₃=>wpAny (model prog w) A (letTemporaryGo value o r >>= λ_=>pure r) Q E s₃) E s₂:=by
  rw[hs o i]
  exact wpAny_operating (wpAny_mono h₂ (λr s₃ h₃=>wpAny_bind (wpAny_letTemporaryGo (wpAny_pure h₃))) λ_ _ x=>x)
 first
 |exact wpAny_pure (wpAny_bind fin)
 |exact wpAny_bind (wpAny_pure (wpAny_bind fin))
 |exact wpAny_bind fin
theorem qnk{X:Cx}{pins:List (Addr×Obj)}{σ:St}{H:Hp}{s:Shared}{a:Addr}{y:V}{o:Option V}(I:Inv X pins σ H s)(g:DGet H a y o):s.TypeIs (.ref a) "dict" := by
 rcases g with ⟨kvs,k,e,_,_⟩|⟨kvs,k,b,e,_,_,_⟩
 ·obtain⟨_,_,vs,_,dd⟩:=qnl I.hok e
  exact dd.typeIs
 ·obtain⟨_,_,xs,_,dd⟩:=qlv I.hok e
  exact dd.typeIs
def q7e(td ty:TE):TE:=λσ H Q=>td σ H λx H1=>ty σ H1 λy H2=>∃a v,x=.ref a/\DGet H2 a y (some v)/\Q v H2
def tDIn(ty td:TE):TE:=λσ H Q=>ty σ H λy H1=>td σ H1 λx H2=>∃a o,x=.ref a/\DGet H2 a y o/\Q (.bl o.isSome) H2
def qvw(ty td:TE):TE:=λσ H Q=>ty σ H λy H1=>td σ H1 λx H2=>∃a o,x=.ref a/\DGet H2 a y o/\Q (.bl (!o.isSome)) H2
def q7a(td ty tv:TE):TS:=λD σ H=>tv σ H λv H1=>td σ H1 λx H2=>ty σ H2 λy H3=>∃a H4,x=.ref a/\DPut H3 a y v H4/\D.nx σ H4
section
variable {X:Cx} {o i e value:Expr} {pos pos' tpos:Pos} {td ty tv:TE}
theorem q2i(hu:X.A.units+1<cLine)(ho:PE X o td)(hi:PE X i ty)(hs:NoSl i):PE X (.Subscript o i pos) (q7e td ty):=by
 intro pins s σ H Q I h
 refine q3t PySem.F.slot_dict_getitem.lookup hs (thn (ho pins s σ H _ I h) λu s1 ⟨x,H1,I1,rx,q1⟩=>thn (hi pins s1 σ H1 _ I1 q1) λiv s2 ⟨y,H2,I2,ry,a,v,ex,g,q2⟩=>?_)
 subst ex
 obtain rfl:u=Value.ref a:=rx
 exact⟨qnk I2 g,qtg hu I2 g ry λw' s3 I3 rw'=>⟨v,H2,I3,rw',q2⟩⟩
theorem q5v(hu:X.A.units+1<cLine)(hi:PE X i ty)(ho:PE X o td):PC X .In i o (tDIn ty td):=by
 intro pins s σ H Q I h
 refine thn (hi pins s σ H _ I h) λiv s1 ⟨y,H1,I1,ry,q1⟩=>thn (ho pins s1 σ H1 _ I1 q1) λu s2 ⟨x,H2,I2,rx,a,ov,ex,g,q2⟩=>?_
 subst ex
 obtain rfl:u=Value.ref a:=rx
 exact d_in hu I2 g ry λs3 I3=>⟨.bl ov.isSome,H2,I3,rfl,q2⟩
theorem quy(hu:X.A.units+1<cLine)(hi:PE X i ty)(ho:PE X o td):PC X .NotIn i o (qvw ty td):=by
 intro pins s σ H Q I h
 refine thn (hi pins s σ H _ I h) λiv s1 ⟨y,H1,I1,ry,q1⟩=>thn (ho pins s1 σ H1 _ I1 q1) λu s2 ⟨x,H2,I2,rx,a,ov,ex,g,q2⟩=>?_
 subst ex
 obtain rfl:u=Value.ref a:=rx
 exact q05 hu I2 g ry λs3 I3=>⟨.bl (!ov.isSome),H2,I3,rfl,q2⟩
theorem q2r(hu:X.A.units+1<cLine)(ho:PE X o td)(hi:PE X i ty)(hv:PE X value tv)(hs:swapsWith value (some (.Subscript o i pos')) pos.line X.env=pure false) :
  PS X (.Assign [.Subscript o i pos'] value pos) (q7a td ty tv):=by
 intro pins s σ H D I h
 refine wpAny_Assign_Subscript (thn (hv pins s σ H _ I h) λr s1 ⟨v,H1,I1,rv,q1⟩=>thn (ho pins s1 σ H1 _ I1 q1) λu s2 ⟨x,H2,I2,rx,q2⟩=>thn (hi pins s2 σ H2 _ I2 q2) λiv s3 ⟨y,H3,I3,ry,a,H4,ex,g,q3⟩=>?_) hs
 subst ex
 obtain rfl:u=Value.ref a:=rx
 exact qth hu I3 g ry rv λs4 I4=>⟨σ,H4,I4,q3⟩
end
theorem qpr{P:Program}{w:World}{H:Hp}(h:Heap)(hb:sysModules<h.objs.size):ObjOk P w H (h.push { cls:=.type "dict",data:=.dict #[] }) h.objs.size (.dT []) :=
 ⟨Nat.zero_le _,beq_eq_false_iff_ne.mpr (Ne.symm (Nat.ne_of_lt hb)),[],.nil,_,#[],0,Heap.get?_push_size _ rfl,⟨rfl,rfl,rfl⟩,rfl,rfl,List.nodup_nil⟩
def q0j:TE:=λ_ H Q=>∀p,H p=none->Q (.ref p) (upd H p (.dT []))
section
variable {X:Cx} {pos:Pos}
theorem qyf:PE X (.Dict [] [] pos) q0j:=λpins s σ H Q I h =>
 wpAny_Dict_empty ⟨.ref s.heap.objs.size,_,I.laid (a:=s.heap.objs.size) (o:=.dT []) (t':=s.toks) (λ_ _ q=>Heap.get?_push_of_some _ q) (Nat.le_refl _) (qpr s.heap I.big),rfl,h _ (I.hok.fresh (Nat.le_refl _))⟩
end
def q0l:List (TE×TE)->St->Hp->(List (V×V)->Hp->Prop)->Prop
|[],_,H,Q=>Q [] H
|(tk,tv)::r,σ,H,Q=>tk σ H λx H1=>tv σ H1 λy H2=>q0l r σ H2 λps H3=>Q ((x,y)::ps) H3
abbrev VV:List (V×V)->List (Value×Value)->Prop:=Paired λp q=>RelV p.1 q.1/\RelV p.2 q.2
def PPs(X:Cx)(pos:Pos)(keys:List (Option Expr))(values:List Expr)(trs:List (TE×TE)):Prop :=
 ∀(pins:List (Addr×Obj)) (s:Shared) (σ:St) (H:Hp) (Q:List (V×V)->Hp->Prop),Inv X pins σ H s->q0l trs σ H Q ->
  wpAny (model X.prog X.w) X.A (evalPairs (pairTrees keys values X.env pos)) (λvs s'=>∃ps H',Inv X pins σ H' s'/\VV ps vs/\Q ps H') X.xe s
theorem q2q{X:Cx}{pos:Pos}:PPs X pos [] [] []:=λpins s σ H Q I h=>pairTrees_nil_walk ⟨[],H,I,.nil,h⟩
theorem qyl{X:Cx}{pos:Pos}{k v:Expr}{ks:List (Option Expr)}{vs:List Expr}{tk tv:TE}{trs:List (TE×TE)}(hk:PE X k tk)(hv:PE X v tv)(hr:PPs X pos ks vs trs) :
  PPs X pos (some k::ks) (v::vs) ((tk,tv)::trs):=λpins s σ H Q I h =>
 pairTrees_cons_walk (thn (hk pins s σ H _ I h) λu s1 ⟨x,H1,I1,rx,q1⟩=>thn (hv pins s1 σ H1 _ I1 q1) λw2 s2 ⟨y,H2,I2,ry,q2⟩ =>
  thn (hr pins s2 σ H2 _ I2 q2) λws s3 ⟨ps,H3,I3,rel,q3⟩=>⟨(x,y)::ps,H3,I3,.cons ⟨rx,ry⟩ rel,q3⟩)
structure M1(X:Cx)(o:Expr)(m:Str)(apos:Pos)(e:Expr)(cpos:Pos):Prop where
 base:attributeBase o m X.env (eval o X.env)=eval o X.env
 few:((backTo cpos (starEach [e] X.env)).all (λx=>!x.1)&&(backToKw cpos (keywordEach [] X.env)).all (λx=>x.1.isSome)
  && decide (([e]:List Expr).length+([]:List Keyword).length+(if ([]:List Keyword).isEmpty then 0 else 1)<30))=true
 line:(apos.endLine==cpos.line)=true
 trees:backTo cpos (starEach [e] X.env)=[(false,eval e X.env)]
structure M2(X:Cx)(o:Expr)(m:Str)(apos:Pos)(e f:Expr)(cpos:Pos):Prop where
 base:attributeBase o m X.env (eval o X.env)=eval o X.env
 few:((backTo cpos (starEach [e,f] X.env)).all (λx=>!x.1)&&(backToKw cpos (keywordEach [] X.env)).all (λx=>x.1.isSome)
  && decide (([e,f]:List Expr).length+([]:List Keyword).length+(if ([]:List Keyword).isEmpty then 0 else 1)<30))=true
 line:(apos.endLine==cpos.line)=true
 trees:backTo cpos (starEach [e,f] X.env)=[(false,eval e X.env),(false,eval f X.env)]
def IsD(H:Hp)(a:Addr):Prop:=(∃kvs,Rd H a (.dK kvs))\/∃kvs,Rd H a (.dT kvs)
theorem q44{X:Cx}{pins:List (Addr×Obj)}{σ:St}{H:Hp}{s:Shared}{a:Addr}(I:Inv X pins σ H s)(d:IsD H a) :
  s.TypeIs (.ref a) "dict" /\ (∀b,Value.ref a=.ref b->∃ob,s.heap.get? b=some ob/\ob.dict=none)/\(a==sysModules)=false:=by
 rcases d with ⟨kvs,e⟩|⟨kvs,e⟩
 ·obtain⟨_,hd,vs,_,dd⟩:=qnl I.hok e
  refine⟨dd.typeIs,λb q=>?_,hd⟩
  cases q
  obtain⟨ob,_,_,h1,h2,_⟩:=dd
  exact⟨ob,h1,h2.2.1⟩
 ·obtain⟨_,hd,xs,_,dd⟩:=qlv I.hok e
  refine⟨dd.typeIs,λb q=>?_,hd⟩
  cases q
  obtain⟨ob,_,_,h1,h2,_⟩:=dd
  exact⟨ob,h1,h2.2.1⟩
section
variable {X:Cx} {pins:List (Addr×Obj)} {σ:St} {H:Hp} {s:Shared} {a:Addr} {y d:V} {u r:Value} {o:Option V} {A:Around} {E:Value->Shared->Prop}
theorem q4w{Q:Value->Shared->Prop}(hu:A.units+1<cLine)(I:Inv X pins σ H s)(g:DGet H a y o)(ry:RelV y u)(h:∀w' s',Inv X pins σ H s'->RelV (o.getD .non) w'->Q w' s') :
  wpAny (model X.prog X.w) A (call (.builtin "dict.get") [.ref a,u]) Q E s:=by
 rcases g with ⟨kvs,k,e,ey,l⟩|⟨kvs,k,b,e,ey,eb,l⟩
 ·subst ey
  obtain⟨z,hd,vs,rel,dd⟩:=qnl I.hok e
  refine call_meetsIn PySem.F.slot_dict_get dd.typeIs PySem.F.entry_dict_get (PySem.F.args_dict_get_2 _ _) (meets_dict_get (qb3 X.prog X.w) a (qq9 ry) hd) ⟨_,dd.mapOf,h _ _ (I.tok _) ?_⟩
  rw[l]
  exact(rel.val k).getD rfl
 ·subst ey
  cases (show u=Value.ref b from ry)
  obtain⟨z,hd,xs,rel,dd⟩:=qlv I.hok e
  refine call_meetsIn PySem.F.slot_dict_get dd.typeIs PySem.F.entry_dict_get (PySem.F.args_dict_get_2 _ _) (meetsH_dict_get (tupleKind (qb3 X.prog X.w)) a b hd) ⟨tupleKind_room_in1 hu,k,xs,qh1 I.hok eb,dd,h _ _ (I.tok _) ?_⟩
  rw[l]
  exact(rel.val k).getD rfl
end
def q0i(td ty:TE):TE:=λσ H Q=>td σ H λx H1=>∃a,x=.ref a/\IsD H1 a/\ty σ H1 λy H2=>∃o,DGet H2 a y o/\Q (o.getD .non) H2
section
variable {X:Cx} {o e f:Expr} {apos cpos:Pos} {td ty tx:TE}
theorem qyd(hu:X.A.units+1<cLine)(ho:PE X o td)(he:PE X e ty)(m:M1 X o "get" apos e cpos):PE X (.Call (.Attribute o "get" apos) [e] [] cpos) (q0i td ty):=by
 intro pins s σ H Q I h
 refine wpAny_Call_method m.base m.few m.line PySem.F.plainAttrs_dict PySem.F.slot_dict_get PySem.F.type_dict_get (thn (ho pins s σ H _ I h) λu s1 ⟨x,H1,I1,rx,a,ex,d,q1⟩=>?_)
 subst ex
 obtain rfl:u=Value.ref a:=rx
 obtain⟨t1,t2,_⟩:=q44 I1 d
 refine⟨t1,t2,?_⟩
 rw[m.trees]
 refine Calls.callWith_builtin rfl (Calls.evalArgs_plain (Calls.spliced_cons (thn (he pins s1 σ H1 _ I1 q1) λiv s2 ⟨y,H2,I2,ry,ov,g,q2⟩=>Calls.spliced_nil ?_)))
 exact q4w hu I2 g ry λw' s3 I3 rw'=>⟨_,H2,I3,rw',q2⟩
end
section
variable {X:Cx} {pins:List (Addr×Obj)} {σ:St} {H:Hp} {s:Shared} {a:Addr} {kvs:List (Key×V)} {A:Around} {E:Value->Shared->Prop}
end
section
variable {X:Cx} {pins:List (Addr×Obj)} {σ:St} {H:Hp} {s:Shared} {a:Addr} {y:V} {u:Value} {A:Around} {E:Value->Shared->Prop}
end
end L2
namespace Att
open PySem PySem.W PySem.Calls PyProof.Rows
theorem qhz{P:Params}{h:Heap}:∀(ns:List Int) (vs:List Value),WellAll P h vs (ns.map WData.int)->IntsAre vs ns:=by
 intro ns
 induction ns with
|nil =>
  intro vs w
  rw[List.map_nil] at w
  cases w
  exact .nil
|cons n ns ih =>
  intro vs w
  rw[List.map_cons] at w
  cases w with
 |cons a b =>
   cases a
   exact .cons _ _ (ih _ b)
theorem qvn{l:OpenLaw}{n:Nat}(hn:l.most=some n){P:Params}{h:Heap}{args:List WData}{vals:List Value}
  (hpre:l.row.toRowW.claim.pre args=true) (hwl:WellAll P h vals args) :
  ∃a vs ns,vals=[Value.ref a]/\args=[WData.list (ns.map WData.int)]/\h.get? a=some { cls:=.type "list",data:=.seq vs.toArray }/\IntsAre vs ns/\ns.length<=n:=by
 have hsh:WShape.hasAll [] args [.list .int]=true:=(pre_splitW hpre).1
 have hc:l.pre.holds [] { args:=args }=true:=(pre_splitW hpre).2
 obtain⟨d,r,rfl,h1,h2⟩:=hasAllW_cons hsh
 obtain rfl:=hasAllW_nil h2
 obtain⟨xs,rfl,h3⟩:=hasW_list h1
 obtain⟨ns,rfl⟩:=items_int h3
 have hlen:ns.length<=n:=by
  unfold OpenLaw.pre at hc
  have h4:(WTm.not (.lt (.lit (.int (n:Int))) (.len (.arg 0)))).holds [] { args:=[.list (ns.map .int)] }=true:=by
   have h4:=(holds_andW hc).1
   rw[hn] at h4
   exact h4
  have h5:=condW_of h4 (w_not (w_lt w_lit (w_len_list (w_arg rfl))))
  rw[List.length_map] at h5
  refine Nat.le_of_not_lt λq=>?_
  have q':(n:Int)<((ns.length:Nat):Int):=by lia
  first
  |(rw[decide_eq_true q'] at h5;exact absurd h5 (by decide))
  |(simp at h5;lia)
 cases hwl with
|cons w1 w2 =>
  cases w2
  cases w1 with
 |list ho hall=>exact⟨_,_,ns,rfl,rfl,ho,qhz ns _ hall,hlen⟩
theorem qu6(l:OpenLaw)(args:List WData):l.row.toRowW.claim.post args (.bool true) args=true :=
 postW_of (r:=l.row.toRowW) (X:=(true==true))
  (show WShape.has [] (.bool true) .bool=true by first|rfl|decide|simp[WShape.has,WShape.arms,WShape.armsAll])
  (show (WTm.eq .res (.lit (.bool true))).value [] { args:=args,res:=some (.bool true),after:=args }=some (.bool (true==true)) from w_eq_bool (w_res rfl) w_lit) rfl
theorem attach_call{l:OpenLaw}{n:Nat}{q:Program}{loose:List Str}{XP:(Str->Option Value)->Heap->Prop}{YP:World->Heap->Prop}{d:DefRec}
  (hn:l.most=some n) (hdf:d.params.defaults=[])
  (call:∀(w:World) (s₀ s₁:Shared) (mg mb:Str->Option Value) (fa:Addr) (o:Obj) (pm cd doc:Value) (a:Addr) (vs:List Value) (ns:List Int),
   Ground q loose [] XP w s₀ mg mb s₁.heap->YP w s₁.heap ->
   s₁.heap.get? fa=some o->o.data=.func (docDef d.name d.params d.body d.scope pm cd doc)->s₁.heap.CodeRec cd d.name->mg d.name=some (.ref fa) ->
   s₁.heap.get? a=some { cls:=.type "list",data:=.seq vs.toArray }->IntsAre vs ns->ns.length<=n->s₁.gens=#[] ->
   codeAny (model l.prog w) callerA (.call (.ref fa) ⟨[.ref a],[]⟩) (λr s'=>r=.ok (.ret (.bool true))/\OldK s₁.heap s'.heap/\s'.os=s₁.os/\AllBare s'.gens) s₁) :
  WalkO q loose XP YP l.row.toRowW d [] (λf vs=>PySem.call f vs):=by
 intro w s₀ s₁ mg mb G Y fa o pm cd doc dV kV ho hd hcd hD hmg hg args vals as hpre hlay hrd hwl hlo
 obtain rfl:dV=.none:=Dflts.none hD hdf
 obtain rfl:kV=.none:=Dflts.noKw hD
 obtain⟨a,vs,ns,rfl,rfl,hobj,hints,hlen⟩:=qvn hn hpre hwl
 refine enter_call (codeAny_mono (call w s₀ s₁ mg mb fa o pm cd doc a vs ns G Y ho (fd_plain hd) hcd hmg hobj hints hlen hg) λr s' hq=>?_)
 obtain⟨rfl,h2,h3,h4⟩:=hq
 exact⟨.inl ⟨.bool true,.bool true,[],rfl,λ_=>rfl,.bool true,qu6 l _,λ_=>⟨List.Pairwise.nil,λ_ hm=>(nomatch hm)⟩⟩,h2,h3,h4⟩
section
variable {prog:Program} {w:World} {A:Around} {E:Value->Shared->Prop} {s:Shared} {K:Frag}
end
end Att
namespace L2
open PySem PySem.Spec PyProof.Rows
theorem qmv:∀ {vs:List Value} {ns:List Int},IntsAre vs ns->Vals (ns.map V.int) vs
|_,_,.nil=>.nil
|_,_,.cons n t h=>.cons ⟨t,rfl⟩ (qmv h)
def Only(H:Hp):Prop:=∀b,H b=none\/∃o xs,H b=some (.frz o (.lst xs))
theorem qxn{P:Program}{w:World}{K:PySem.W.Frag}{mg mb:Str->Option Value}{CX:CXT}{k:Nat}{fa a:Addr}{fd:FuncData}{x:Str}{sp:Sp}{s₁:Shared}{vs:List Value}{ns:List Int}
  (KX:K.In s₁.heap) (hns:s₁.heap.Ns mainGlobals mg) (hb:s₁.heap.Ns builtinsNs mb) (hbb:∀x:Str,x≠"__name__" -> mb x=bootBuiltins x) (hlim:s₁.heap.NoLimit) (hg:s₁.gens=#[])
  (ha:s₁.heap.get? a=some { cls:=.type "list",data:=.seq vs.toArray }) (hi:IntsAre vs ns) (hl:ns.length<=sizeLine) (hr:Room k callerA)
  (F:∀base:Heap,K.In base->base.Ns mainGlobals mg->FnOk P w K mg base CX k fa fd [x] sp) (hbind:∀(s:Shared) (u:Value),BindsTo s fd ⟨[u],[]⟩ [(x,u)])
  (hsp:∀H:Hp,Only H->SqL K H a (ns.map V.int)->sp [.ref a] H (λv _=>v=.bl true) λ_ _ _=>False)
  (hCX:∀H e s',CX [] H s₁ (λ_ _ _=>False) e s'->False) :
  codeAny (model P w) callerA (.call (.ref fa) ⟨[.ref a],[]⟩) (λr s'=>r=.ok (.ret (.bool true))/\OldK s₁.heap s'.heap/\s'.os=s₁.os/\AllBare s'.gens) s₁:=by
 have rv:=qmv hi
 have lenV:=hi.length
 have core:∀H:Hp,Only H->SqL K H a (ns.map V.int)->HOk P w H s₁.heap->(∀b,H b≠none->b=a)->(H a≠none->K.lookup a=none) ->
   codeAny (model P w) callerA (.call (.ref fa) ⟨[.ref a],[]⟩) (λr s'=>r=.ok (.ret (.bool true))/\OldK s₁.heap s'.heap/\s'.os=s₁.os/\AllBare s'.gens) s₁:=by
  intro H hO hS hok hA hK
  have base_of:∀ {b:Addr} {o:Obj},s₁.heap.get? b=some o->H b=none->(hidT s₁.heap H).get? b=some o:=λe n=>qxc e n
  have noA:∀ {b:Addr} {o:Obj} {es:Array DictEntry} {ep:Nat},s₁.heap.get? b=some o->o.data=.dict es ep->H b=none:=λ{b o es ep} e d=>by
   cases q:H b with
  |none=>rfl
  |some u =>
    have e':b=a:=hA b (by rw[q];simp)
    subst e'
    rw[ha] at e;cases e
    have d':Data.seq vs.toArray _=Data.dict es ep:=d
    cases d'
  have nsK:∀ {b:Addr} {m:Str->Option Value},s₁.heap.Ns b m->(hidT s₁.heap H).Ns b m:=λ{b m} ⟨o,es,ep,e,d,r⟩=>⟨o,es,ep,base_of e (noA e d),d,r⟩
  have hKb:K.In (hidT s₁.heap H):=λb o e=>base_of (KX b o e) (by
   cases q:H b with
  |none=>rfl
  |some u =>
    have e':b=a:=hA b (by rw[q];simp)
    subst e'
    rw[hK (by rw[q];simp)] at e;cases e)
  have hM:Mod K mg (hidT s₁.heap H):=⟨hKb,nsK hns,⟨mb,nsK hb,hbb⟩,let ⟨mc,h1,h2⟩:=hlim;⟨mc,nsK h1,h2⟩⟩
  have e0:Env0 P w K mg (hidT s₁.heap H) callerA [] s₁ H:=⟨rfl,hM,λb o e=>q10 e,Nat.le_of_eq (qt2 _ _),trivial,λb hb=>absurd (show b∈([]:List Addr) from hb) (by simp),hok,.of_eq hg⟩
  refine codeAny_mono ((F _ hKb (nsK hns)).run callerA [] s₁ H ⟨[.ref a],[]⟩ [.ref a] [.ref a] _ _ hr e0 (hbind s₁ (.ref a)) (.cons rfl .nil) (hsp H hO hS)) λr s' h=>?_
  cases r with
 |error e=>exact(hCX H e s' h).elim
 |ok fl =>
   cases fl with
  |next=>exact False.elim h
  |brk=>exact False.elim h
  |cont=>exact False.elim h
  |ret u =>
    obtain⟨v,H',os,bare,un,hok',r',q⟩:=h
    have q':v=.bl true:=q
    subst q'
    obtain rfl:u=Value.bool true:=r'
    refine⟨rfl,OldK.of_keep λb o e=>?_,os,bare⟩
    cases q:H b with
   |none=>exact un.keep b o e q (by intro z;exact absurd (show b∈([]:List Addr) from z) (by simp)) (by simp)
   |some u =>
     rcases hO b with z|⟨ob,xs,z⟩
     ·rw[q] at z;cases z
     ·have z2:=un.frzs b ob _ z
      obtain⟨e1,_⟩:=hok b _ z
      obtain⟨e2,_⟩:=hok' b _ z2
      rw[e] at e1;cases e1
      exact e2
 cases hk:K.lookup a with
|some o =>
  have e:=KX a o hk
  rw[ha] at e
  cases e
  refine core (λ_=>none) (λ_=>.inl rfl) (.inr ⟨_,vs.toArray,_,hk,rfl,rfl,rfl,by rw[List.size_toArray,lenV];exact hl,by simpa using rv⟩) (λb u z=>by have z':(none:Option HO)=some u:=z;cases z') (λb z=>absurd rfl z) λz=>absurd rfl z
|none =>
  refine core (λb=>if b=a then some (.frz { cls:=.type "list",data:=.seq vs.toArray } (.lst (ns.map V.int))) else none) (λb=>?_) (.inl (.inr ⟨{ cls:=.type "list",data:=.seq vs.toArray },if_pos rfl⟩)) (λb u z=>?_) (λb z=>?_) λ_=>hk
  ·by_cases hb:b=a
   ·exact .inr ⟨_,_,if_pos hb⟩
   ·exact .inl (if_neg hb)
  ·by_cases hb:b=a
   ·have z':=(if_pos hb).symm.trans z
    cases z'
    subst hb
    exact⟨ha,by rw[List.length_map];exact hl,vs,_,rv,ha⟩
   ·have z':=(if_neg hb).symm.trans z
    cases z'
  ·by_cases hb:b=a
   ·exact hb
   ·exact absurd (if_neg hb) z
end L2
namespace L2
open PySem PySem.Spec PyProof.Rows
theorem q9g{l:PySem.W.OpenLaw}{n k:Nat}{q:Program}{loose:List Str}{XP:(Str->Option Value)->Heap->Prop}{YP:World->Heap->Prop}{d:DefRec}{K:Params->PySem.W.Frag}{CX:World->CXT}{sp:World->Sp}{x:Str}
  (hn:l.most=some n) (hn2:n<=sizeLine) (hdf:d.params.defaults=[]) (hr:Room k callerA)
  (hY:∀(w:World) (h:Heap),YP w h->(K w.params).In h)
  (F:∀(w:World) (mg:Str->Option Value) (fa:Addr) (h:Heap),(K w.params).In h->h.Ns mainGlobals mg->mg d.name=some (.ref fa) ->
   ∃fd:FuncData,(∀(s:Shared) (u:Value),BindsTo s fd ⟨[u],[]⟩ [(x,u)]) /\
    ∀base:Heap,(K w.params).In base->base.Ns mainGlobals mg->FnOk l.prog w (K w.params) mg base (CX w) k fa fd [x] (sp w))
  (hsp:∀(w:World) (H:Hp) (a:Addr) (ns:List Int),ns.length<=n->Only H->SqL (K w.params) H a (ns.map V.int)->sp w [.ref a] H (λv _=>v=.bl true) λ_ _ _=>False)
  (hCX:∀(w:World) (H:Hp) (s:Shared) (e:Value) (s':Shared),CX w [] H s (λ_ _ _=>False) e s'->False) :
  PySem.W.WalkO q loose XP YP l.row.toRowW d [] (λf vs=>PySem.call f vs):=by
 refine Att.attach_call hn hdf λw s₀ s₁ mg mb fa o pm cd doc a vs ns G Y ho hd hcd hmg hobj hints hlen hg=>?_
 have KX:=hY w _ Y
 obtain⟨fd,hb,hF⟩:=F w mg fa _ KX G.T.g hmg
 exact qxn KX G.T.g G.T.b G.T.builtins G.T.nolimit hg hobj hints (Nat.le_trans hlen hn2) hr hF hb (λH hO hS=>hsp w H a ns hlen hO hS) λH e s'=>hCX w H s₁ e s'
end L2
namespace L2
open PySem PySem.Spec PyProof.Rows
def qcs(s:Stmt):Arguments:=match s with
|.FunctionDef _ a _ _ _ _ _ _ _ _=>a
|_=>{ posonlyargs:=[],args:=[],vararg:=none,kwonlyargs:=[],kw_defaults:=[],kwarg:=none,defaults:=[] }
def qbn(s:Stmt):List Stmt:=match s with
|.FunctionDef _ _ b _ _ _ _ _ _ _=>b
|_=>[]
def qaf(s:Stmt):Scope:=match s with
|.FunctionDef _ _ _ _ _ _ sc _ _ _=>sc
|_=>{ kind:=.function,names:=[],isGenerator:=false,isCoroutine:=false }
abbrev CX0:CXT:=λ_ _ _ _ _ _=>False
abbrev E0:XK:=λ_ _ _=>False
theorem q8j{X:Cx}:qpk CX0 X E0:=λ_ _ _ _ _ _ _ h=>h.elim
structure Fun(K:PySem.W.Frag)(x qual:Str)(st:Stmt)(f:Addr)(fd:FuncData):Prop where
 ex:∃(oc:Value) (od:Option Addr) (kV doc pm:Value) (an:Option Addr) (cdv ct:Value) (osl:Array (Option Value)),
  fd=PySem.W.fnOf x qual (qcs st) (qbn st) (qaf st) .none kV doc pm an cdv ct/\K.lookup f=some ⟨oc,od,.func fd,osl⟩/\PySem.W.codeIn K cdv qual=true
 kp:PySem.W.keepIn K (.ref f)=true
section
variable {P:Program} {w:World} {K:PySem.W.Frag} {mg:Str->Option Value} {base:Heap}
theorem Fun.ok{x qual:Str}{st:Stmt}{f:Addr}{fd:FuncData}{N ps:List Str}{k:Nat}{sp:Sp}(F:Fun K x qual st f fd)(S:FnScope N ps (qaf st))(len:∀vs H Q E,sp vs H Q E->vs.length=ps.length)
  (hbody:∀(cdv:Value) (A:Around) (outer:List Env) (s:Shared) (H:Hp) (vs:List V) (Q:VK) (E:XK),Room k (A.deeper (envOfC qual (qaf st) s.heap.objs.size f cdv))->sp vs H Q E ->
   ∃t,PSs (cxOf CX0 P w K mg base N qual (qaf st) f cdv A outer s H E).nox (qbn st) t/\t { nx:=λ_ H'=>Q .non H',rt:=Q } (start N vs) H):FnOk P w K mg base CX0 (k+1) f fd ps sp:=by
 obtain⟨oc,od,kV,doc,pm,an,cdv,ct,osl,rfl,lk,hcd⟩:=F.ex
 refine q41 lk hcd S len λA outer s H vs Q E hr hsp=>?_
 obtain⟨t,h,q⟩:=hbody cdv A outer s H vs Q E hr hsp
 exact⟨t,h.nox,q⟩
theorem Fun.binds{x qual:Str}{st:Stmt}{f:Addr}{fd:FuncData}{ps:List Str}(F:Fun K x qual st f fd)
  (h:∀(kV doc pm:Value) (an:Option Addr) (cdv ct:Value) (us:List Value),us.length=ps.length->bindArgs (PySem.W.fnOf x qual (qcs st) (qbn st) (qaf st) .none kV doc pm an cdv ct) ⟨us,[]⟩=pure (ps.zip us)):Binds K fd ps []:=by
 obtain⟨oc,od,kV,doc,pm,an,cdv,ct,osl,rfl,lk,hcd⟩:=F.ex
 exact .all (h kV doc pm an cdv ct)
theorem qpt{x qual:Str}{st:Stmt}{f:Addr}{oc:Value}{od an:Option Addr}{osl:Array (Option Value)}{kV doc pm cdv ct:Value}(l:K.lookup f=some ⟨oc,od,.func (PySem.W.fnOf x qual (qcs st) (qbn st) (qaf st) .none kV doc pm an cdv ct),osl⟩)
  (c:PySem.W.codeIn K cdv qual=true) (k:PySem.W.keepIn K (.ref f)=true):Fun K x qual st f (PySem.W.fnOf x qual (qcs st) (qbn st) (qaf st) .none kV doc pm an cdv ct):=⟨⟨oc,od,kV,doc,pm,an,cdv,ct,osl,rfl,l,c⟩,k⟩
end
section
variable {X:Cx}
theorem pv(i:Nat){x:Str}{pos:Pos}(hN:X.N[i]?=some x:=by rfl)(hv:Vis X.env.scope x:=by first|exact Or.inl rfl|exact Or.inr (Or.inl rfl)|exact Or.inr (Or.inr rfl))(hd:(x==("__debug__" : Str))=false:=by decide)
  (hcd:(x==("__classdict__" : Str))=false:=by decide):PE X (.Name x pos) (tVar i):=qz9 hN hv hd hcd
end
theorem iteF{A B:Prop}(h:B):if false=true then A else B:=by
 rw[if_neg Bool.false_ne_true]
 exact h
theorem iteT{A B:Prop}(h:A):if true=true then A else B:=by
 rw[if_pos rfl]
 exact h
def Same(H H':Hp):Prop:=∀b o,H b=some o->H' b=some o
theorem Same.refl(H:Hp):Same H H:=λ_ _ h=>h
theorem Same.trans{H H1 H2:Hp}(a:Same H H1)(b:Same H1 H2):Same H H2:=λc o h=>b c o (a c o h)
theorem Same.free{H H':Hp}(e:Same H H'){l:Addr}(h:H' l=Option.none):H l=Option.none:=by
 cases q:H l with
|none=>rfl
|some o =>
  rw[e l o q] at h
  cases h
theorem Same.seq{K:PySem.W.Frag}{H H':Hp}{a:Addr}{xs:List V}(e:Same H H')(h:SqL K H a xs):SqL K H' a xs:=by
 rcases h with (h|⟨o,h⟩)|h
 ·exact .inl (.inl (e _ _ h))
 ·exact .inl (.inr ⟨o,e _ _ h⟩)
 ·exact .inr h
end L2
namespace L2
open PySem PySem.Spec PyProof.Rows
theorem qao:1000<=sizeLine:=by decide
theorem qaw{H:Hp}{l:Addr}(h:H l=none)(o:HO):Same H (upd H l o):=λb u e=>by
 rw[qau (qcv e h)]
 exact e
theorem Same.put{H H':Hp}{p:Addr}{o:HO}(e:Same H H')(h:H p=none):Same H (upd H' p o):=λb u q=>by
 rw[qau (qcv q h)]
 exact e b u q
theorem qef{α:Type}{xs:List α}{k:Int}(h0:0<=k)(h1:k<(xs.length:Int)):∃v,atI xs k=some v/\xs[k.toNat]?=some v:=by
 have hk:k.toNat<xs.length:=by lia
 have e:xs[k.toNat]?=some xs[k.toNat]:=List.getElem?_eq_getElem hk
 refine⟨xs[k.toNat],?_,e⟩
 have:=q02 e
 rw[Int.toNat_of_nonneg h0] at this
 exact this
theorem q4p{α β:Type}{f:α->β}{xs:List α}{k:Int}{v:α}(h:atI xs k=some v):atI (xs.map f) k=some (f v):=by
 unfold atI at h ⊢
 rw[List.length_map]
 cases e:ixN xs.length k with
|none =>
  rw[e] at h
  cases h
|some j =>
  rw[e] at h
  have h':xs[j]?=some v:=h
  show (xs.map f)[j]?=some (f v)
  rw[List.getElem?_map,h']
  rfl
def cutL{α:Type}(xs:List α)(lo hi:Option Int):List α:=(xs.drop (HT.sIx xs.length 0 lo)).take (HT.sIx xs.length xs.length hi-HT.sIx xs.length 0 lo)
theorem qw6{α:Type}(f:α->V)(xs:List α)(lo hi:Option Int):cutV (xs.map f) lo hi=(cutL xs lo hi).map f:=by
 unfold cutV cutL
 rw[List.length_map,List.map_take,List.map_drop]
theorem qft{α:Type}(xs:List α):cutL xs none (some (-1))=xs.dropLast:=by
 unfold cutL
 rw[HT.sIx_none]
 show (xs.drop 0).take ((if (-1:Int)<0 then ((-1:Int)+(xs.length:Int)).toNat else min (-1:Int).toNat xs.length)-0)=xs.dropLast
 rw[if_pos (by decide),List.drop_zero,List.dropLast_eq_take]
 congr 1
 lia
theorem qhr{α:Type}(xs:List α)(k:Nat):cutL xs none (some (k:Int))=xs.take k:=by
 unfold cutL
 rw[HT.sIx_none,HT.sIx_nat,List.drop_zero,Nat.sub_zero]
 by_cases h:k<=xs.length
 ·rw[Nat.min_eq_left h]
 ·rw[Nat.min_eq_right (by lia),List.take_length,List.take_of_length_le (by lia)]
theorem qfs{α:Type}(xs:List α)(k:Nat):cutL xs (some (k:Int)) none=xs.drop k:=by
 unfold cutL
 rw[HT.sIx_none,HT.sIx_nat]
 by_cases h:k<=xs.length
 ·rw[Nat.min_eq_left h,List.take_of_length_le (by rw[List.length_drop];lia)]
 ·rw[Nat.min_eq_right (by lia),List.drop_length,List.drop_of_length_le (by lia),List.take_nil]
theorem qw5{α:Type}{xs:List α}{lo hi:Option Int}{x:α}(h:x∈cutL xs lo hi):x∈xs:=List.mem_of_mem_drop (List.mem_of_mem_take h)
theorem toString_length_le{v:Int}{k:Nat}(h0:0<=v)(hk:0<k)(h:v<10 ^ k):(Str.ofString (toString v)).length<=k:=by
 obtain⟨m,rfl⟩:=Int.eq_ofNat_of_zero_le h0
 have e:toString (m:Int)=Nat.repr m:=rfl
 rw[PySem.ofString_length,e]
 exact(Nat.length_repr_le_iff hk).mpr (by exact_mod_cast h)
def Its(z:Str):It:=⟨λi _=>i<z.cps.size,λi H x H'=>H'=H/\∃c,z.cps[i]?=some c/\x=.str ⟨#[c]⟩,λi _=>z.cps.size<=i⟩
theorem qr9{P:Program}{w:World}{K:PySem.W.Frag}{tg:Expr}(it:Addr)(z:Str)(t:Tok):Turn P w K tg (Its z) [it] it (λi h=>h.IsStrIter it "str_ascii_iterator" z t i) where
 mem:=by simp
 obj:=λi h st b hb=>by
  have e:b=it:=by simpa using hb
  subst e
  obtain⟨o,e,c,d⟩:=st
  exact⟨o,e,λv z=>by rw[d] at z;cases z⟩
 keep:=λi h h' st k=>by
  obtain⟨o,e,r⟩:=st
  exact⟨o,k it (by simp) o e,r⟩
 item:=by
  intro X hP hw hK hc i pins s σ H E I hf st hg
  subst hP hw hK
  obtain⟨f0,f1,f2,f3,f4,f5⟩:=hf it (by simp)
  have hx:z.cps[i]?=some z.cps[i]:=Array.getElem?_eq_getElem hg
  refine wpAny_pyNext_ascii_item st hx λh' st' sb=>?_
  have I1:Inv X pins σ H { s with heap:=h',toks:=s.toks+1 }:=I.turned (λb o hb e=>(sb.2 b hb).trans e) f0 f1 f3 f4 f5
  obtain⟨o,e,c,d⟩:=id st'
  exact⟨_,rfl,qq6 (s:={ s with heap:=h',toks:=s.toks+1 }) e c d (by decide) ⟨.str ⟨#[z.cps[i]]⟩,H,I1,⟨_,rfl⟩,⟨rfl,_,hx,rfl⟩,st',λb hb=>(hf b hb).1⟩⟩
 done:=by
  intro X hP hw hK hc i pins s σ H E I hf st hg
  subst hP hw hK
  obtain⟨f0,f1,f2,f3,f4,f5⟩:=hf it (by simp)
  exact wpAny_pyNext_ascii_end (I.ok.hd hc) st (Array.getElem?_eq_none hg) λh' eb=>⟨rfl,I.turned (t':=s.toks) (λb o hb e=>eb b o hb e) f0 f1 f3 f4 f5⟩
 self:=λ_ _ _ _ _ st h=>wpAny_pyIter_striter_ascii st h
theorem qvz{P:Program}{w:World}{K:PySem.W.Frag}{tg:Expr}(it:Addr)(z:Str)(t:Tok):Turn P w K tg (Its z) [it] it (λi h=>h.IsStrIter it "str_iterator" z t i) where
 mem:=by simp
 obj:=λi h st b hb=>by
  have e:b=it:=by simpa using hb
  subst e
  obtain⟨o,e,c,d⟩:=st
  exact⟨o,e,λv z=>by rw[d] at z;cases z⟩
 keep:=λi h h' st k=>by
  obtain⟨o,e,r⟩:=st
  exact⟨o,k it (by simp) o e,r⟩
 item:=by
  intro X hP hw hK hc i pins s σ H E I hf st hg
  subst hP hw hK
  obtain⟨f0,f1,f2,f3,f4,f5⟩:=hf it (by simp)
  have hx:z.cps[i]?=some z.cps[i]:=Array.getElem?_eq_getElem hg
  refine wpAny_pyNext_wide_item st hx λh' st' sb=>?_
  have I1:Inv X pins σ H { s with heap:=h',toks:=s.toks+1 }:=I.turned (λb o hb e=>(sb.2 b hb).trans e) f0 f1 f3 f4 f5
  obtain⟨o,e,c,d⟩:=id st'
  exact⟨_,rfl,qq6 (s:={ s with heap:=h',toks:=s.toks+1 }) e c d (by decide) ⟨.str ⟨#[z.cps[i]]⟩,H,I1,⟨_,rfl⟩,⟨rfl,_,hx,rfl⟩,st',λb hb=>(hf b hb).1⟩⟩
 done:=by
  intro X hP hw hK hc i pins s σ H E I hf st hg
  subst hP hw hK
  obtain⟨f0,f1,f2,f3,f4,f5⟩:=hf it (by simp)
  exact wpAny_pyNext_wide_end (I.ok.hd hc) st (Array.getElem?_eq_none hg) λh' eb=>⟨rfl,I.turned (t':=s.toks) (λb o hb e=>eb b o hb e) f0 f1 f3 f4 f5⟩
 self:=λ_ _ _ _ _ st h=>wpAny_pyIter_striter_wide st h
section
variable {X:Cx} {tg:Expr}
end
def qav:Expr->Bool
|.Starred ..=>false
|_=>true
theorem qbe{e:Expr}{es:List Expr}{env:Env}(h:qav e=true):starEach (e::es) env=(false,eval e env)::starEach es env:=by
 cases e<;>first|rfl|(exact absurd h Bool.false_ne_true)
theorem qfn{env:Env}:∀ {es:List Expr},es.all qav=true->starEach es env=es.map λe=>(false,eval e env)
|[],_=>rfl
|e::es,h=>by
  rw[List.all_cons,Bool.and_eq_true] at h
  rw[qbe h.1,qfn h.2,List.map_cons]
theorem qc5{es:List Expr}{env:Env}{pos:Pos}(h:es.all qav=true):(backTo pos (starEach es env)).any (·.1)=false:=by
 rw[qfn h]
 unfold backTo
 rw[List.map_map,List.any_eq_false]
 intro p hp
 obtain⟨e,_,rfl⟩:=List.mem_map.mp hp
 exact Bool.false_ne_true
theorem qzd{es:List Expr}{env:Env}{pos:Pos}(h:es.all qav=true):(backTo pos (starEach es env)).all (λx=>!x.1)=true:=by
 rw[qfn h]
 unfold backTo
 rw[List.map_map,List.all_eq_true]
 intro p hp
 obtain⟨e,_,rfl⟩:=List.mem_map.mp hp
 rfl
section
variable {X:Cx} {x:Str} {p pos:Pos} {e:Expr} {es:List Expr} {te:TE} {t:TA} {id T:String} {r:List V->Hp->VK->Prop}
theorem pac(ha:PE X e te)(hr:PA X es t)(hs:qav e=true:=by rfl):PA X (e::es) (qzf te t):=q2e ha hr (qbe hs)
theorem all2{e:Expr}{es:List Expr}(h:(e::es).all qav=true):qav e=true/\es.all qav=true:=by
 rw[List.all_cons,Bool.and_eq_true] at h
 exact h
theorem pcb(hc:CallR X (.builtin id) r)(hg:Gl X x)(hm:X.mg x=none)(hv:bootBuiltins x=some (.builtin id))(ha:PA X (e::es) t)(hp:(e::es).all qav=true:=by rfl)(hn:x≠"__name__" := by decide)(hdb:(x==("__debug__" : Str))=false:=by decide) :
  PE X (.Call (.Name x p) (e::es) [] pos) (tCB r t):=qyc hc hg hm hv ha hn hdb (qbe (all2 hp).1) (qc5 (all2 hp).2)
theorem pct(hc:CallR X (.type T) r)(hg:Gl X x)(hm:X.mg x=none)(hv:bootBuiltins x=some (.type T))(ha:PA X (e::es) t)(hp:(e::es).all qav=true:=by rfl)(hn:x≠"__name__" := by decide)(hdb:(x==("__debug__" : Str))=false:=by decide) :
  PE X (.Call (.Name x p) (e::es) [] pos) (tCB r t):=qu0 hc hg hm hv ha hn hdb (qbe (all2 hp).1) (qc5 (all2 hp).2)
theorem pbm{o:Expr}{to:TE}{name:Str}{apos cpos:Pos}{r:V->List V->Hp->VK->Prop}(pa:PlainAttrs T)(slot:Slot T name id)(hty:typeOf (.builtin id)=pure (.type "method_descriptor"))(hm:MtR X id r)(ho:PE X o to)(ha:PA X (e::es) t)
  (hp:(e::es).all qav=true:=by rfl) (hfew:decide ((e::es).length<30)=true:=by rfl) (hbase:attributeBase o name X.env (eval o X.env)=eval o X.env:=by rfl) (hline:(apos.endLine==cpos.line)=true:=by rfl) :
  PE X (.Call (.Attribute o name apos) (e::es) [] cpos) (tBM X.K T r to t):=by
 refine q8m pa slot hty hm ho ha hbase ?_ hline (qbe (all2 hp).1) (qc5 (all2 hp).2)
 rw[qzd hp]
 exact hfew
theorem q8q{tg a:Expr}{ta:TA}(hg:Gl X "range")(hm:X.mg "range" = none)(ha:PA X [a] ta)(hp:qav a=true:=by rfl):PI X tg (.Call (.Name "range" p) [a] [] pos) (q1c ta):=qu2 hg hm ha (qbe hp)
theorem q8r{tg a b:Expr}{ta:TA}(hg:Gl X "range")(hm:X.mg "range" = none)(ha:PA X [a,b] ta)(hp:qav a=true:=by rfl)(hp2:qav b=true:=by rfl):PI X tg (.Call (.Name "range" p) [a,b] [] pos) (q1d ta) :=
 qu3 hg hm ha (by rw[qbe hp,qbe hp2];rfl) (qbe hp2)
end
inductive Cal(P:Program)(w:World)(K:PySem.W.Frag)(mg:Str->Option Value)(base:Heap)(k:Nat)(x:Str)(ps:List Str)(sp:Sp):Prop where
|mk {f:Addr} {fd:FuncData} (F:FnOk P w K mg base CX0 k f fd ps sp) (hm:mg x=some (.ref f)) (hk:PySem.W.keepIn K (.ref f)=true) (hb:Binds K fd ps [])
section
variable {X:Cx} {k:Nat} {ps:List Str} {sp:Sp} {x:Str} {p pos:Pos} {e:Expr} {es:List Expr} {t:TA}
theorem q5x(C:Cal X.prog X.w X.K X.mg X.base k x ps sp)(hr:Room k X.A)(hg:Gl X x)(ha:PA X (e::es) t)(hp:(e::es).all qav=true:=by rfl)(hdb:(x==("__debug__" : Str))=false:=by decide):PE X (.Call (.Name x p) (e::es) [] pos) (qvu sp [] E0 t):=by
 cases C with
|mk F hm hk hb=>exact quz F hr hg hm hk hb .nil q8j ha hdb (qbe (all2 hp).1) (qc5 (all2 hp).2)
end
section
variable {X:Cx}
end
theorem qxl{K:PySem.W.Frag}{T:String}:PySem.W.kitOne K (.type T) (.type T)=some true:=by
 unfold PySem.W.kitOne
 rw[if_pos (by simp)]
theorem range_all(bs:List Bool):(List.range bs.length).all (λi=>bs.getD i true)=bs.all id:=by
 have e:(List.range bs.length).map (λi=>bs.getD i true)=bs:=by
  apply List.ext_getElem
  ·simp
  ·intro i h1 h2
   simp[List.getD_eq_getElem?_getD,h2]
 calc (List.range bs.length).all (λi=>bs.getD i true)=((List.range bs.length).map (λi=>bs.getD i true)).all id:=by rw[List.all_map];rfl
  _=bs.all id:=by rw[e]
section
variable {X:Cx}
theorem qnc{A:Around}{bs:List Bool}{its:List Value}(r:Vals (bs.map V.bl) its):TruthOf X.prog X.w A (λi v=>its.toArray[i]?=some v) (λi=>bs.getD i true):=by
 intro i v s Q E hv q
 have hv':its[i]?=some v:=by simpa using hv
 have hl:=r.length
 rw[List.length_map] at hl
 have hi:i<bs.length:=by
  rw[hl]
  exact(List.getElem?_eq_some_iff.mp hv').1
 have e:(bs.map V.bl)[i]?=some (.bl bs[i]):=by rw[List.getElem?_map,List.getElem?_eq_getElem hi];rfl
 obtain⟨u,hu,ru⟩:=r.get e
 rw[hv'] at hu
 cases hu
 cases (show v=Value.bool bs[i] from ru)
 refine wpAny_truthy_bool ?_
 have e2:bs.getD i true=bs[i]:=by simp[List.getD_eq_getElem?_getD,hi]
 have q':Q (bs.getD i true) s:=q
 rw[e2] at q'
 exact q'
theorem qs9(hc:X.calm=true):CallR X (.builtin "all") (λxs H Q=>∃(p:Addr) (bs:List Bool),xs=[.ref p]/\SqL X.K H p (bs.map V.bl)/\Q (.bl (bs.all id)) H):=by
 intro pins s σ H xs us Q I r h
 obtain⟨p,bs,rfl,hq,q⟩:=h
 obtain⟨u,rfl,rx⟩:=vals1 r
 cases rx
 obtain⟨its,rv,pl,hz⟩:=I.list hq
 have hlt:p<s.heap.objs.size:=by
  obtain⟨_,_,e,_⟩:=pl
  exact Heap.lt_size e
 have hl:=rv.length
 rw[List.length_map] at hl
 have hA:X.A.in1.handled=none:=I.ok.hd hc
 refine call_all_walk (wpAny_pyIter_list pl.isList ?_)
 refine⟨s.heap.objs.size,_,_,its.toArray.size,_,_,λi=>bs.getD i true,rfl,Walks.list hA s.heap.objs.size p (Nat.ne_of_lt hlt) its.toArray,⟨⟨_,Heap.get?_push_size _ rfl,rfl,rfl⟩,pl.isList.push _⟩,qnc rv,λh' tk kp=>?_⟩
 refine⟨.bl (bs.all id),H,I.kept (t':=tk) (λb o e=>kp b o (λz=>?_) (Heap.get?_push_of_some _ e)),?_,q⟩
 ·have e1:b=s.heap.objs.size:=by simpa using z
  exact absurd (e1▸Heap.lt_size e) (Nat.lt_irrefl _)
 ·rw[List.size_toArray,←hl,range_all]
  rfl
theorem qo8:∀ {ys:List Str} {us:List Value},Vals (ys.map V.str) us->∃l:List (Str×Tok),us=strValues l/\l.map (·.1)=ys
|[],_,r=>by
  cases r
  exact⟨[],rfl,rfl⟩
|y::ys,_,r=>by
  rw[List.map_cons] at r
  cases r with
 |cons r1 r2 =>
   obtain⟨t,e⟩:=r1
   subst e
   obtain⟨l,e1,e2⟩:=qo8 r2
   subst e1
   exact⟨(y,t)::l,rfl,by rw[List.map_cons,e2]⟩
abbrev glue(sep:Str)(ys:List Str):Str:=Txt.join sep ys
theorem qxa(sep:Str)(ys:List Str):(glue sep ys).length<=(ys.map (·.length)).sum+ys.length*sep.length:=by
 show (Builtin.Str.glued sep ys).length<=_
 rw[StrLaws.glued_eq_join]
 exact StrLaws.join_length_le sep ys
theorem q1u:MtM X "str.join" (λx vs H Q=>∃(sep:Str) (l:Addr) (ys:List Str),x=.str sep/\vs=[.ref l]/\SqL X.K H l (ys.map V.str)/\(ys.map (·.length)).sum+ys.length*sep.length<=16777216/\Q (.str (glue sep ys)) H):=by
 intro pins s σ H x vs v us Q I rx rv h
 obtain⟨sep,l,ys,rfl,rfl,hq,hz,q⟩:=h
 obtain⟨t,rfl⟩:=rx
 obtain⟨u,rfl,ru⟩:=rv.one
 cases ru
 obtain⟨its,r,pl,_⟩:=I.list hq
 obtain⟨ts,e1,e2⟩:=qo8 r
 subst e1
 refine SC.join pl.isList e2 ?_ λt' k=>⟨.str (glue sep ys),H,I.tok k,⟨t',rfl⟩,q⟩
 unfold JoinOk
 rw[StrLaws.joinTotal]
 have:Builtin.Str.tooLong ((ys.map (·.length)).sum+ys.length*sep.length)=false:=by
  unfold Builtin.Str.tooLong
  rw[sizeLine_eq]
  exact decide_eq_false (by lia)
 rw[this]
 rfl
theorem part_of{v:Value}{o:Option Int}(p:IsPart v o):∃l:Option (Int×Tok),v=partValue l/\l.map (·.1)=o:=by
 cases p with
|none=>exact⟨none,rfl,rfl⟩
|int i t=>exact⟨some (i,t),rfl,rfl⟩
theorem sl_str:SlR X (λx lo hi H Q=>∃z,x=.str z/\z.length<=sizeLine/\Q (.str (Txt.slice z lo hi)) H):=by
 intro pins s σ H x v vl vu lo hi sl Q I rx hs pl pu h
 obtain⟨z,rfl,hz,q⟩:=h
 obtain⟨t,rfl⟩:=rx
 obtain⟨l,e1,e2⟩:=part_of pl
 obtain⟨u,e3,e4⟩:=part_of pu
 subst e1 e2 e3 e4
 refine⟨"str",_,F.slot_str_getitem.lookup,typeIs_str _ _ _,?_⟩
 refine wpAny_getItem_str_slice (l:=l) (u:=u) (st:=none) hs rfl ?_
 exact post_val_or_str ⟨Nat.le_trans (Txt.slice_le z _ _) hz,λt' k=>⟨.str (Txt.slice z (l.map (·.1)) (u.map (·.1))),H,I.tok k,⟨t',rfl⟩,q⟩⟩
end
end L2
namespace HT
open PySem PyProof.Rows
section
variable {prog:Program} {w:World} {A:Around} {E:Value->Shared->Prop} {s:Shared}
theorem getItem_tuple_whole{t sl:Addr}{items:Array Value}{vl vu:Value}{lo hi:Option Int}{Q:Value->Shared->Prop}(ht:IsTup s.heap t items)(hs:s.heap.IsSliceOf sl vl vu .none)(pl:IsPart vl lo)(pu:IsPart vu hi)
  (hw:sIx items.size 0 lo=0/\sIx items.size items.size hi=items.size) (h:Q (.ref t) s):wpAny (model prog w) A (getItem (.ref t) (.ref sl)) Q E s:=by
 obtain⟨os,hos,hcs,hds⟩:=id hs
 have hTs:s.TypeIs (.ref sl) "slice" := ⟨os,hos,hcs⟩
 unfold getItem
 try with_reducible refine wpAny_holding ?_
 first|refine wpAny_bind (wpAny_pure ?_)|skip
 refine wpAny_bind (wpAny_sequenceKey ht.typeIs (by decide) ?_)
 refine wpAny_bind (wpAny_callSpecial?_slot (name:=Str.ofString "__getitem__") ht.typeIs PyProof.Rows.slot_tuple_getitem
  (wpAny_call_entry PyProof.Rows.slot_tuple_getitem ht.typeIs entry_tuple_getitem ?_ (args_tuple_getitem _ _)))
 show wpAny _ _ (Builtin.Tuple.tupleItemsOf (.ref t) >>= _) _ _ s
 refine wpAny_bind (tupleItemsOf_ ht ?_)
 refine wpAny_bind (wpAny_typeOf hTs ?_)
 rw[if_pos (by decide)]
 refine wpAny_bind (qeh hs pl pu ?_)
 have hyes:(((sIx items.size 0 lo:Nat):Int)==0&&(1:Int)==1&&(sIx items.size items.size hi-sIx items.size 0 lo)==items.size)=true:=by
  rw[hw.1,hw.2]
  simp
 show wpAny _ _ (if (((sIx items.size 0 lo:Nat):Int)==0&&(1:Int)==1&&(sIx items.size items.size hi-sIx items.size 0 lo)==items.size)=true then _ else _) _ _ s
 rw[if_pos hyes]
 refine wpAny_bind (m:=Builtin.Tuple.tupleIsExact _) ?_
 unfold Builtin.Tuple.tupleIsExact
 refine wpAny_bind (wpAny_typeOf ht.typeIs (wpAny_pure ?_))
 rw[if_pos (by decide)]
 exact wpAny_bind (wpAny_rule (wpAny_pure ⟨_,rfl,wpAny_pure h⟩))
end
end HT
namespace L2
open PySem PySem.Spec PyProof.Rows
section
variable {X:Cx}
end
theorem qdm{env:Env}{x:Str}{k:NameKind}:∀ {names:List (Str×NameKind)},
  (names.map λ(n,k)=>if (k==NameKind.free&&env.scope.kind==.function&&env.kindOf n==some .cell) then (n,NameKind.cell) else (n,k)).lookup x=some k->names.lookup x=some k\/(names.lookup x=some .free/\k=.cell)
|[],h=>by simp at h
|(n,k0)::r,h=>by
  have ih:=@qdm env x k r
  rw[List.map_cons] at h
  have h:List.lookup x ((if (k0==NameKind.free&&env.scope.kind==.function&&env.kindOf n==some .cell)=true then (n,NameKind.cell) else (n,k0))::_)=some k:=h
  by_cases hc:(k0==NameKind.free&&env.scope.kind==.function&&env.kindOf n==some .cell)=true
  ·rw[if_pos hc,List.lookup_cons] at h
   rw[List.lookup_cons]
   cases hx:x==n with
  |true =>
    rw[hx] at h
    have e:NameKind.cell=k:=Option.some.inj h
    subst e
    have e0:k0=.free:=by
     rw[Bool.and_eq_true,Bool.and_eq_true] at hc
     exact eq_of_beq hc.1.1
    subst e0
    exact .inr ⟨rfl,rfl⟩
  |false =>
    rw[hx] at h
    exact ih h
  ·rw[if_neg hc,List.lookup_cons] at h
   rw[List.lookup_cons]
   cases hx:x==n with
  |true =>
    rw[hx] at h
    exact .inl h
  |false =>
    rw[hx] at h
    exact ih h
theorem qcy{csc:Scope}{env:Env}{x:Str}{k:NameKind}(h:(relabel csc env).names.lookup x=some k):csc.names.lookup x=some k\/(csc.names.lookup x=some .free/\k=.cell):=qdm h
theorem qq2{csc:Scope}{env:Env}(h:∀y∈csc.names,y.2=.free->∃c,env.cells.lookup y.1=some c) :
  ∃cl,closureFor csc env=pure cl/\(∀x c,cl.lookup x=some c->env.cells.lookup x=some c)/\∀y∈csc.names,y.2=.free->∃c,cl.lookup y.1=some c:=by
 have key:∀(body:Str×NameKind->List (Str×Addr)->Sem (ForInStep (List (Str×Addr)))),
   (∀n k acc,body (n,k) acc=if (k==.free)=true then (cellOf env n >>= λc=>pure (ForInStep.yield ((n,c)::acc))) else pure (ForInStep.yield acc)) ->
   ∀(l:List (Str×NameKind)) (acc:List (Str×Addr)),(∀y∈l,y.2=.free->∃c,env.cells.lookup y.1=some c)->(∀x c,acc.lookup x=some c->env.cells.lookup x=some c) ->
   ∃cl,(forIn l acc body:Sem (List (Str×Addr)))=pure cl/\(∀x c,cl.lookup x=some c->env.cells.lookup x=some c)/\(∀y∈l,y.2=.free->∃c,cl.lookup y.1=some c)/\∀x c,acc.lookup x=some c->∃c',cl.lookup x=some c':=by
  intro body hb l
  induction l with
 |nil =>
   intro acc _ ha
   exact⟨acc,rfl,ha,λy hy=>(nomatch hy),λx c e=>⟨c,e⟩⟩
 |cons p r ih =>
   intro acc hl ha
   obtain⟨n,k⟩:=p
   have hr:∀y∈r,y.2=.free->∃c,env.cells.lookup y.1=some c:=λy hy=>hl y (List.mem_cons_of_mem _ hy)
   by_cases hk:k=.free
   ·subst hk
    obtain⟨c,hc⟩:=hl (n,.free) List.mem_cons_self rfl
    have ha':∀x d,((n,c)::acc).lookup x=some d->env.cells.lookup x=some d:=λx d e=>by
     rw[List.lookup_cons] at e
     cases hx:x==n with
    |true =>
      rw[hx] at e
      have e1:c=d:=Option.some.inj e
      subst e1
      rw[eq_of_beq hx]
      exact hc
    |false =>
      rw[hx] at e
      exact ha x d e
    obtain⟨cl,e1,e2,e3,e4⟩:=ih ((n,c)::acc) hr ha'
    refine⟨cl,?_,e2,λy hy hf=>?_,λx d e=>?_⟩
    ·rw[List.forIn_cons,hb,if_pos (by rfl)]
     have ec:cellOf env n=pure c:=by
      unfold cellOf
      rw[hc]
     rw[ec]
     exact e1
    ·rcases List.mem_cons.mp hy with e|hy
     ·subst e
      exact e4 n c (by rw[List.lookup_cons,beq_self_eq_true])
     ·exact e3 y hy hf
    ·cases hx:x==n with
    |true=>exact e4 x c (by rw[List.lookup_cons,hx])
    |false=>exact e4 x d (by rw[List.lookup_cons,hx];exact e)
   ·obtain⟨cl,e1,e2,e3,e4⟩:=ih acc hr ha
    refine⟨cl,?_,e2,λy hy hf=>?_,e4⟩
    ·have hk':(k==NameKind.free)=false:=by simpa using hk
     rw[List.forIn_cons,hb,hk',if_neg Bool.false_ne_true]
     exact e1
    ·rcases List.mem_cons.mp hy with e|hy
     ·subst e
      exact absurd hf hk
     ·exact e3 y hy hf
 obtain⟨cl,e1,e2,e3,_⟩:=key (λp acc=>if (p.2==.free)=true then (cellOf env p.1 >>= λc=>pure (ForInStep.yield ((p.1,c)::acc))) else pure (ForInStep.yield acc)) (λn k acc=>rfl) csc.names [] h (λx c e=>by simp at e)
 refine⟨cl,?_,e2,e3⟩
 have e4:closureFor csc env=(forIn csc.names [] (λp acc=>if (p.2==.free)=true then (cellOf env p.1 >>= λc=>pure (ForInStep.yield ((p.1,c)::acc))) else pure (ForInStep.yield acc)) >>= λcs=>pure cs):=rfl
 rw[e4,e1]
 rfl
structure CompScope(sc:Scope)(N NB M:List Str)(csc:Scope):Prop where
 kind:csc.kind=.function
 nocell:∀y∈csc.names,y.2≠.cell
 locs:∀y∈csc.names,y.2=.local->csc.names.lookup y.1=some .local
 free:∀y∈csc.names,y.2=.free->sc.names.lookup y.1=some .cell\/sc.names.lookup y.1=some .free
 nd:NB.Nodup
 len:NB.length=N.length+M.length
 old:∀p∈N.zip NB,csc.names.lookup p.2≠some .local/\(csc.names.lookup p.2=none\/p.1=p.2)
theorem CompScope.at{sc:Scope}{N NB M:List Str}{csc:Scope}(S:CompScope sc N NB M csc){i:Nat}{x:Str}(e:NB[i]?=some x)(hi:i<N.length):csc.names.lookup x≠some .local/\(csc.names.lookup x≠none->N[i]?=some x):=by
 have e1:N[i]?=some N[i]:=List.getElem?_eq_getElem hi
 have hm:(N[i],x)∈N.zip NB:=by
  apply List.mem_of_getElem? (i:=i)
  rw[List.getElem?_zip_eq_some]
  exact⟨e1,e⟩
 obtain⟨h1,h2⟩:=S.old _ hm
 refine⟨h1,λhn=>?_⟩
 rcases h2 with h2|h2
 ·exact absurd h2 hn
 ·rw[e1]
  exact congrArg some h2
def cxC(X:Cx)(NB:List Str)(csc:Scope)(cl:List (Str×Addr))(C:Addr)(s₀:Shared)(H₀:Hp)(fp:List Addr)(pn:List (Addr×Obj)):Cx where
 prog:=X.prog
 w:=X.w
 K:=X.K
 mg:=X.mg
 base:=X.base
 A:=X.A
 N:=NB
 s₀:=s₀
 H₀:=H₀
 env:=compEnvC csc cl C X.env
 outer:=X.stack
 stack:=X.stack
 ex:=fp
 fn:=λ_=>false
 calm:=X.calm
 pn:=pn
 xe:=λ_ _=>False
section
variable {X:Cx} {pins:List (Addr×Obj)} {σ:St} {H₀:Hp} {s₀:Shared} {NB M:List Str} {csc:Scope} {cl:List (Str×Addr)} {fp:List Addr}
theorem qq3{h₁:Heap}{tk:Nat}{m:Str->Option Value}(S:CompScope X.env.scope X.N NB M csc)(I:Inv X pins σ H₀ s₀)(hf:∀b∈fp,FpOk X pins H₀ b)(hlt:∀b∈fp,b<s₀.heap.objs.size)
  (c1:∀x c,cl.lookup x=some c->X.env.cells.lookup x=some c) (c2:∀y∈csc.names,y.2=.free->∃c,cl.lookup y.1=some c)
  (hn:h₁.Ns s₀.heap.objs.size m) (hk:∀b o,s₀.heap.get? b=some o->h₁.get? b=some o) :
  Inv (cxC X NB csc cl s₀.heap.objs.size s₀ H₀ fp (X.pn++pins)) [] (σ++List.replicate M.length none) H₀ { s₀ with heap:=h₁,toks:=tk }:=by
 have kindB:∀x,((relabel csc X.env).names.lookup x=some .cell\/(relabel csc X.env).names.lookup x=some .free)->csc.names.lookup x=some .free:=λx hx=>by
  rcases hx with hx|hx
  ·rcases qcy hx with z|⟨z,_⟩
   ·exact absurd rfl (S.nocell _ (PySem.mem_of_lookup z))
   ·exact z
  ·rcases qcy hx with z|⟨z,_⟩
   ·exact z
   ·exact z
 have hasC:∀x,csc.names.lookup x=some .free->∃c,cl.lookup x=some c:=λx hx=>c2 (x,.free) (PySem.mem_of_lookup hx) rfl
 refine⟨⟨I.ok.mod,S.kind,I.ok.glob,I.ok.blt,Nat.le_refl _,λx y c h1 h2=>I.ok.inj x y c (c1 x c h1) (c1 y c h2),λx hx=>hasC x (kindB x hx),λx c h _=>absurd h Bool.false_ne_true,I.ok.hd,I.ok.frames,.inl rfl,
   λb hb=>⟨Nat.ne_of_lt (hlt b hb),λx c e=>(hf b hb).2.2.2.2.1 x c (c1 x c e)⟩,I.bs,Nat.le_trans I.ok.bsz I.sz,λb o e hb=>?_,λb hb z=>?_,I.stack,I.stkFree⟩,
  rfl,I.bare,Un.kept hk,⟨m,hn,λi x v e1 e2 e3=>?_⟩,λx c e=>?_,I.fresh,λx c e=>I.freeC x c (c1 x c e),λp hp=>?_,I.hok.kept hk,?_⟩
 ·rcases (hf b hb).2.2.2.1 with z|z
  ·exact I.ok.noex b o e z
  ·exact absurd (Nat.lt_of_lt_of_le (Heap.lt_size e) (Nat.le_trans I.ok.bsz z)) (Nat.lt_irrefl _)
 ·rcases List.mem_cons.mp (I.stkSub b z) with e|e
  ·exact(hf b hb).2.1 e
  ·exact(hf b hb).2.2.1 e
 ·have hlen:=I.len
  have hi:i<X.N.length:=by
   apply Classical.byContradiction
   intro hi
   rw[List.getElem?_append_right (by lia),List.getElem?_replicate] at e2
   split at e2<;>cases e2
  have e2':σ[i]?=some (some v):=by
   rw[List.getElem?_append_left (by lia)] at e2
   exact e2
  obtain⟨nl,hN⟩:=S.at e1 hi
  have hfree:csc.names.lookup x=some .free:=by
   rcases e3 with z|z
   ·rcases qcy (show (relabel csc X.env).names.lookup x=some .local from z) with q|⟨_,q⟩
    ·exact absurd q nl
    ·cases q
   ·exact kindB x z
  have hN':=hN (by rw[hfree];intro z;cases z)
  have ok:=S.free (x,.free) (PySem.mem_of_lookup hfree) rfl
  obtain⟨m',hn',hl⟩:=I.loc
  obtain⟨u,r,l⟩:=hl i x v hN' e2' (.inr ok)
  rcases l with ⟨k,_⟩|⟨_,c,hc,hcell⟩
  ·have k':X.env.scope.names.lookup x=some .local:=k
   rcases ok with z|z
   ·rw[show X.env.scope.names.lookup x=some .cell from z] at k'
    cases k'
   ·rw[show X.env.scope.names.lookup x=some .free from z] at k'
    cases k'
  ·obtain⟨c',hc'⟩:=hasC x hfree
   have ec:c'=c:=by
    have:=c1 x c' hc'
    rw[hc] at this
    exact(Option.some.inj this).symm
   subst ec
   obtain⟨o,ho,hd⟩:=hcell
   refine⟨u,r,.inr ⟨?_,c',hc',o,hk _ _ ho,hd⟩⟩
   rcases e3 with z|z
   ·rcases qcy (show (relabel csc X.env).names.lookup x=some .local from z) with q|⟨_,q⟩
    ·exact absurd q nl
    ·cases q
   ·exact z
 ·obtain⟨v,o,ho,hd⟩:=I.cell x c (c1 x c e)
  exact⟨v,o,hk _ _ ho,hd⟩
 ·have hp':p∈(X.pn++pins)++[]:=hp
  rw[List.append_nil] at hp'
  obtain⟨e,n,ne,nf,d⟩:=I.pin p hp'
  exact⟨hk _ _ e,n,Nat.ne_of_lt (Heap.lt_size e),λz=>(List.mem_cons.mp (I.stkSub _ z)).elim ne nf,d⟩
 ·rw[List.length_append,List.length_replicate,I.len]
  exact S.len.symm
theorem qw3{τ:St}{H:Hp}{s:Shared}{pins':List (Addr×Obj)}(I:Inv X pins σ H₀ s₀)(hf:∀b∈fp,FpOk X pins H₀ b)(B:Inv (cxC X NB csc cl s₀.heap.objs.size s₀ H₀ fp (X.pn++pins)) pins' τ H s) :
  Inv X pins σ H s/\FpOk X pins H s₀.heap.objs.size :=
 ⟨I.call' (ch:=fp) B.os B.base B.hok B.bare λb hb=>⟨(hf b hb).2.2.2.1,(hf b hb).2.1,(hf b hb).2.2.2.2.1,(hf b hb).2.2.2.2.2⟩,I.fpOk (Nat.le_refl _) B.free⟩
end
theorem qfc{prog:Program}{w:World}{A:Around}{R:Result->Shared->Prop}{s:Shared}{elt target iter:Expr}{ifs:List Expr}{scope:Scope}{pos:Pos}{it acc:Value}{env:Env}(I:Nat->Shared->Prop)
  (turn:∀n s,I n s->wpAny (model prog w) A (pyNext it) (λr s₁=>match r with
  |none=>R (.ok .next) s₁
   | some v=>wpAny (model prog w) A (letOwnedTupleGo target it v) (λ_ s₁'=>wpAny (model prog w) A (assign target env v) (λ_ s₂ =>
     wpAny (model prog w) A (forIn ifs true λc r=>if r=true then do let ok ←isTrue c env (eval c env);pure (ForInStep.yield ok) else pure (ForInStep.yield r)) (λok s₃ =>
      if ok=true then wpAny (model prog w) A (eval elt env) (λx s₄ =>
       wpAny (model prog w) A (call (.builtin "list.append") [acc,x]) (λ_ s₅=>∃m,m<n/\I m s₅) (notedBy (model prog w) A env λe s'=>R (.error e) s') s₄) (notedBy (model prog w) A env λe s'=>R (.error e) s') s₃
      else ∃m,m<n/\I m s₃) (notedBy (model prog w) A env λe s'=>R (.error e) s') s₂) (notedBy (model prog w) A env λe s'=>R (.error e) s') s₁') (notedBy (model prog w) A env λe s'=>R (.error e) s') s₁)
    (notedBy (model prog w) A env λe s'=>R (.error e) s') s)
  (n:Nat) (h:I n s):codeAny (model prog w) A (.compLoop (.ListComp elt [⟨target,iter,ifs,0⟩] scope pos) 0 it acc env) R s:=by
 refine codeAny_loop rfl I (λn s hI=>?_) n h
 show wpAny _ A ((compTurn (.ListComp elt [⟨target,iter,ifs,0⟩] scope pos) 0 it acc env).onRaise (λx=>do noteFrame x env;theTreesLotGoes x)) _ _ s
 refine wpAny_noted ?_
 rw[compTurn_list]
 refine wpAny_bind (wpAny_standAt (wpAny_bind (wpAny_mono (turn n s hI) (λr s₁ h₁=>?_) λ_ _ h'=>h')))
 cases r with
|none=>exact wpAny_pure h₁
|some v =>
  refine wpAny_bind (wpAny_mono h₁ (λ_ s₁' h₁'=>?_) λ_ _ h'=>h')
  refine wpAny_bind (wpAny_mono h₁' (λ_ s₂ h₂=>wpAny_bind (wpAny_mono h₂ (λok s₃ h₃=>?_) λ_ _ h'=>h')) λ_ _ h'=>h')
  cases ok with
 |false=>exact wpAny_pure ⟨rfl,h₃⟩
 |true =>
   exact wpAny_bind (wpAny_bind (wpAny_mono h₃ (λx s₄ h₄=>wpAny_bind (wpAny_mono h₄ (λ_ s₅ h₅=>wpAny_pure (wpAny_pure ⟨rfl,h₅⟩)) λ_ _ h'=>h')) λ_ _ h'=>h'))
abbrev TF:=St->Hp->(Hp->Prop)->(Hp->Prop)->Prop
def PF(X:Cx)(ifs:List Expr)(t:TF):Prop :=
 ∀(pins:List (Addr×Obj)) (s:Shared) (σ:St) (H:Hp) (Y N:Hp->Prop),Inv X pins σ H s->t σ H Y N ->
  wpAny (model X.prog X.w) X.A (forIn ifs true λc r=>if r=true then do let ok ←isTrue c X.env (eval c X.env);pure (ForInStep.yield ok) else pure (ForInStep.yield r)) (λb s'=>∃H',Inv X pins σ H' s'/\if b=true then Y H' else N H') X.xe s
def fNil:TF:=λ_ H Y _=>Y H
def fOne(tc:TT):TF:=λσ H Y N=>tc σ H λb H1=>if b=true then Y H1 else N H1
theorem q2m{X:Cx}:PF X [] fNil:=λ_ _ _ H _ _ I h=>wpAny_tests_nil ⟨H,I,iteT h⟩
theorem q2n{X:Cx}{c:Expr}{tc:TT}(hc:PT X c tc):PF X [c] (fOne tc):=λpins s σ H _ _ I h =>
 wpAny_tests_one (thn (hc pins s σ H _ I h) λ_ _ ⟨H1,I1,q⟩=>⟨H1,I1,q⟩)
def q3u(wi:TI)(g:TG)(ti:TF)(te:TE)(k:Nat):TE:=λσ H Q=>wi σ H λJ H1=>∀p,H1 p=none->∃W:Nat->Nat->St->List V->Hp->Prop,(∃m,W 0 m (σ++List.replicate k none) [] (upd H1 p (.lst [])))/\∀i m τ xs H,W i m τ xs H ->
 (J.stop i H/\Q (.ref p) H)\/(J.go i H/\∀x H',J.yld i H x H'->g x τ H' λτ2 H2=>ti τ2 H2 (λH3=>te τ2 H3 λv H4=>H4 p=some (.lst xs)/\xs.length<sizeLine/\∃m',m'<m/\W (i+1) m' τ2 (xs++[v]) (upd H4 p (.lst (xs++[v]))))
  (λH3=>∃m',m'<m/\W (i+1) m' τ2 xs H3))
def PCp(X:Cx)(e:Expr)(t:TE):Prop:=∃elt tg iter ifs csc pos,e=.ListComp elt [⟨tg,iter,ifs,0⟩] csc pos /\
 ∀(ppos:Pos) (use:Option (Value->Sem Unit)) (R:Value->Shared->Prop) (pins:List (Addr×Obj)) (s:Shared) (σ:St) (H:Hp) (Q:VK),Inv X pins σ H s->t σ H Q ->
  (∀(D C:Addr) (s':Shared) (H':Hp),Inv X pins σ H' s'->FpOk X pins H' C->(∃m,s'.heap.Ns C m)->Q (.ref D) H'->compPost (model X.prog X.w) X.A X.xe use R (.ref D) C (.ok .next) s') ->
  wpAny (model X.prog X.w) X.A (comprehension (.ListComp elt [⟨tg,iter,ifs,0⟩] csc pos) csc X.env ppos (newList []) false (eval iter X.env) use) R X.xe s
section
variable {X:Cx}
theorem q2f{tg iter elt:Expr}{ifs:List Expr}{csc:Scope}{pos:Pos}{NB M:List Str}{wi:TI}{g:TG}{ti:TF}{te:TE}(hi:PI X tg iter wi)(hc:X.calm=true)(S:CompScope X.env.scope X.N NB M csc)
  (hg:∀cl C s₀ H₀ fp pn,PG (cxC X NB csc cl C s₀ H₀ fp pn) tg g) (hf:∀cl C s₀ H₀ fp pn,PF (cxC X NB csc cl C s₀ H₀ fp pn) ifs ti) (he:∀cl C s₀ H₀ fp pn,PE (cxC X NB csc cl C s₀ H₀ fp pn) elt te)
  (hs:∀x,foldedSetIterable iter X.env x=pure x:=by intro _;rfl):PCp X (.ListComp elt [⟨tg,iter,ifs,0⟩] csc pos) (q3u wi g ti te M.length):=by
 refine⟨elt,tg,iter,ifs,csc,pos,rfl,λppos use R pins s σ H Q I h fin=>?_⟩
 have hcell:∀y∈csc.names,y.2=.free->∃c,X.env.cells.lookup y.1=some c:=λy hy hfr=>I.ok.has y.1 (S.free y hy hfr)
 obtain⟨cl,hcl,c1,c2⟩:=qq2 hcell
 refine wpAny_comprehension_free rfl hs hcl S.kind S.locs ?_
 refine thn (hi pins s σ H _ I h) λv s1 h1=>thn h1 λitv s2 h2=>?_
 obtain⟨it,fp,tn,J,H2,e,I2,T,st2,f2,h2⟩:=h2
 subst e
 have hlt2:∀b∈fp,b<s2.heap.objs.size:=λb hb=>let ⟨_,e,_⟩:=T.obj _ _ st2 b hb;Heap.lt_size e
 refine wpAny_newObj_type (wpAny_newFunctionEnv S.nocell (by intro y hy;simp at hy) (λh₁ hns₁ hsb₁=>?_) S.kind)
 dsimp only at hns₁ hsb₁ ⊢
 have I0:Inv X pins σ (upd H2 s2.heap.objs.size (.lst [])) { s2 with heap:=s2.heap.push { cls:=.type "list",dict:=none,data:=.seq ([]:List Value).toArray } }:=I2.lnew (its:=[]) (t':=s2.toks) .nil (Nat.zero_le _)
 generalize hs0:({ s2 with heap:=s2.heap.push { cls:=.type "list",dict:=none,data:=.seq ([]:List Value).toArray } }:Shared)=s₀ at I0
 have hh:s2.heap.push { cls:=.type "list",dict:=none,data:=.seq ([]:List Value).toArray }=s₀.heap:=by rw[←hs0]
 rw[hh] at hns₁ hsb₁ ⊢
 have hsz:s2.heap.objs.size<s₀.heap.objs.size:=by rw[←hh,Heap.size_push];exact Nat.lt_succ_self _
 have hDn:H2 s2.heap.objs.size=none:=I2.fresh
 have f0:∀b∈fp,FpOk X pins (upd H2 s2.heap.objs.size (.lst [])) b:=λb hb=>⟨by rw[qau (Nat.ne_of_lt (hlt2 b hb))];exact(f2 b hb).1,(f2 b hb).2⟩
 have hlt:∀b∈fp,b<s₀.heap.objs.size:=λb hb=>Nat.lt_trans (hlt2 b hb) hsz
 have hk:∀b o,s₀.heap.get? b=some o->h₁.get? b=some o:=λb o e=>hsb₁.extBut b o (Nat.ne_of_lt (Heap.lt_size e)) (Heap.get?_push_of_some _ e)
 have hk2:∀b o,s2.heap.get? b=some o->h₁.get? b=some o:=λb o e=>hk b o (by rw[←hh];exact Heap.get?_push_of_some _ e)
 have st1:tn 0 h₁:=T.keep _ _ _ st2 λb _ o e=>hk2 b o e
 obtain⟨W,⟨m0,w0⟩,turn⟩:=h2 s2.heap.objs.size hDn
 have loop:∀s₃:Shared,s₃={ s₀ with heap:=h₁,toks:=s2.toks+([]:List (Str×Value)).length } ->
   codeAny (model X.prog X.w) X.A (.compLoop (.ListComp elt [⟨tg,iter,ifs,0⟩] csc pos) 0 (.ref it) (.ref s2.heap.objs.size) (compEnvC csc cl s₀.heap.objs.size X.env))
    (compPost (model X.prog X.w) X.A X.xe use R (.ref s2.heap.objs.size) s₀.heap.objs.size) s₃:=by
  rintro s₃ rfl
  have B0:=qq3 (cl:=cl) (tk:=s2.toks+([]:List (Str×Value)).length) S I0 f0 hlt c1 c2 hns₁ hk
  have fpB:∀ {H':Hp},(∀b∈fp,H' b=none)->∀b∈fp,FpOk (cxC X NB csc cl s₀.heap.objs.size s₀ (upd H2 s2.heap.objs.size (.lst [])) fp (X.pn++pins)) [] H' b:=λ{H'} hn b hb =>
   ⟨hn b hb,Nat.ne_of_lt (hlt b hb),B0.ok.exfs b hb,.inl hb,λx c e=>(f0 b hb).2.2.2.2.1 x c (c1 x c e),λp hp=>(f0 b hb).2.2.2.2.2 p (by
    have hp':p∈(X.pn++pins)++[]:=hp
    rw[List.append_nil] at hp'
    exact hp')⟩
  refine qfc (λn s'=>∃i τ xs H',Inv (cxC X NB csc cl s₀.heap.objs.size s₀ (upd H2 s2.heap.objs.size (.lst [])) fp (X.pn++pins)) [] τ H' s'/\tn i s'.heap/\(∀b∈fp,H' b=none)/\W i n τ xs H') ?_ m0
   ⟨0,_,[],_,B0,st1,λb hb=>(f0 b hb).1,w0⟩
  rintro n s3 ⟨i,τ,xs,H3,I3,st3,fr3,w3⟩
  rcases turn i n τ xs H3 w3 with ⟨stop,q⟩|⟨go,step⟩
  ·refine thn (T.done (cxC X NB csc cl s₀.heap.objs.size s₀ (upd H2 s2.heap.objs.size (.lst [])) fp (X.pn++pins)) rfl rfl rfl hc i [] s3 τ H3 _ I3 (fpB fr3) st3 stop) λr s4 ⟨hr,I4⟩=>?_
   subst hr
   obtain⟨IX,fpC⟩:=qw3 I0 f0 I4
   exact fin _ _ s4 H3 IX fpC (let ⟨m,hn,_⟩:=I4.loc;⟨m,hn⟩) q
  ·refine thn (T.item (cxC X NB csc cl s₀.heap.objs.size s₀ (upd H2 s2.heap.objs.size (.lst [])) fp (X.pn++pins)) rfl rfl rfl hc i [] s3 τ H3 _ I3 (fpB fr3) st3 go) λr s4 ⟨u,hr,h4⟩=>?_
   subst hr
   refine thn h4 λ_ s5 ⟨x,H5,I5,r5,y5,st5,fr5⟩=>?_
   have I5':=I5.pinned (fpB fr5) (T.obj _ _ st5)
   refine wpAny_mono (hg _ _ _ _ _ _ _ s5 τ H5 x u _ I5' r5 (step x H5 y5)) (λ_ s6 ⟨τ6,H6,I6,q6⟩=>?_) λ_ _ z=>False.elim z
   refine wpAny_mono (hf _ _ _ _ _ _ _ s6 τ6 H6 _ _ I6 q6) (λb s7 ⟨H7,I7,q7⟩=>?_) λ_ _ z=>False.elim z
   have again:∀ {τ7:St} {H7:Hp} {s7:Shared} {ys:List V},Inv (cxC X NB csc cl s₀.heap.objs.size s₀ (upd H2 s2.heap.objs.size (.lst [])) fp (X.pn++pins)) ([]++qmd fp s5.heap) τ7 H7 s7->(∃m',m'<n/\W (i+1) m' τ7 ys H7) ->
     ∃m,m<n/\∃i τ xs H',Inv (cxC X NB csc cl s₀.heap.objs.size s₀ (upd H2 s2.heap.objs.size (.lst [])) fp (X.pn++pins)) [] τ H' s7/\tn i s7.heap/\(∀b∈fp,H' b=none)/\W i m τ xs H':=λ{τ7 H7 s7 ys} I7 w7=>by
    obtain⟨m',hm,w7⟩:=w7
    refine⟨m',hm,i+1,τ7,ys,H7,I7.unpinned,T.keep _ _ _ st5 λb hb o e=>(I7.pin (b,o) (List.mem_append_right _ (List.mem_append_right _ (qe6 hb e)))).1,λb hb=>?_,w7⟩
    obtain⟨o,e,d⟩:=T.obj _ _ st5 b hb
    exact(I7.pin (b,o) (List.mem_append_right _ (List.mem_append_right _ (qe6 hb e)))).2.1
   cases b with
  |false=>exact again I7 q7
  |true =>
    have q7':te τ6 H7 _:=q7
    refine wpAny_mono (he _ _ _ _ _ _ _ s7 τ6 H7 _ I7 q7') (λy s8 ⟨v8,H8,I8,r8,hl8,hz8,w8⟩=>?_) λ_ _ z=>False.elim z
    refine wpAny_mono (qma (X:=(cxC X NB csc cl s₀.heap.objs.size s₀ (upd H2 s2.heap.objs.size (.lst [])) fp (X.pn++pins))) _ s8 τ6 H8 (.ref s2.heap.objs.size) [v8] (.ref s2.heap.objs.size) [y] (λ_ H9=>H9=upd H8 s2.heap.objs.size (.lst (xs++[v8]))) I8 rfl (.cons r8 .nil) ⟨_,xs,v8,rfl,rfl,hl8,hz8,rfl⟩) (λ_ s9 ⟨_,H9,I9,_,e9⟩=>?_) λ_ _ z=>False.elim z
    subst e9
    exact again I9 w8
 exact codeAny_compStart_list (loop _ (by rw[←hs0])) (T.self _ _ _ _ _ st1 (loop _ (by rw[←hs0])))
theorem PCp.pe{e:Expr}{t:TE}(h:PCp X e t):PE X e t:=by
 obtain⟨elt,tg,iter,ifs,csc,pos,rfl,h⟩:=h
 intro pins s σ H Q I hw
 rw[eval_ListComp]
 refine h _ none (EP X pins σ Q) pins s σ H Q I hw λD C s' H' IX fpC ⟨m,hn⟩ q=>⟨m,hn,λh' hs=>?_⟩
 exact⟨.ref D,H',IX.turned (t':=s'.toks) (λb o hb e=>(hs.2 b hb).trans e) fpC.1 fpC.2.1 fpC.2.2.2.1 fpC.2.2.2.2.1 fpC.2.2.2.2.2,rfl,q⟩
end
end L2
namespace L2
open PySem PySem.Spec PyProof.Rows
structure QE(X:Cx)(e:Expr)(t:TE):Prop where
 u:PE X e t
structure QT(X:Cx)(e:Expr)(t:TT):Prop where
 u:PT X e t
structure QW(X:Cx)(e:Expr)(t:TT):Prop where
 u:PW X e t
structure QA(X:Cx)(es:List Expr)(t:TA):Prop where
 u:PA X es t
structure QS(X:Cx)(st:Stmt)(t:TS):Prop where
 u:PS X st t
structure QSs(X:Cx)(st:List Stmt)(t:TS):Prop where
 u:PSs X st t
structure QI(X:Cx)(tg iter:Expr)(t:TI):Prop where
 u:PI X tg iter t
structure QG(X:Cx)(tg:Expr)(t:TG):Prop where
 u:PG X tg t
structure QGs(X:Cx)(ts:List Expr)(t:TGs):Prop where
 u:PGs X ts t
structure QO(X:Cx)(e:Option Expr)(t:TO):Prop where
 u:PO X e t
structure QF(X:Cx)(ifs:List Expr)(t:TF):Prop where
 u:PF X ifs t
structure QC(X:Cx)(e:Expr)(t:TE):Prop where
 u:PCp X e t
section
variable {X:Cx} {st:Stmt} {rest:List Stmt} {t u:TS} {a b c e o i:Expr} {ta tb tc te to ti:TE} {es:List Expr} {tA:TA} {tT tU:TT} {pos pos' p p2 apos cpos:Pos} {x name:Str} {n:Nat}
theorem q3a:QSs X [] q7i:=⟨q2t⟩
theorem q3b(h:QS X st t):QSs X [st] t:=⟨q2u h.u⟩
theorem qyy(h:QS X st t)(r:QSs X rest u):QSs X (st::rest) (tSeq t u):=⟨qyn h.u r.u⟩
theorem qou(h:QE X e te)(hs:swapsWith e none pos.line X.env=pure false:=by rfl):QS X (.Expr e pos) (q7f te):=⟨q2s h.u hs⟩
theorem qvb(h:QE X e te):QS X (.Return (some e) pos) (tRet te):=⟨q6a h.u⟩
theorem q82{a b:List Stmt}(hc:QT X c tT)(ha:QSs X a t)(hb:QSs X b u):QS X (.If c a b pos) (tIfS tT t u):=⟨q8s hc.u ha.u hb.u⟩
theorem qme{i:Nat}(hN:X.N.Nodup)(hi:X.N[i]?=some x)(hx:Loc X.env.scope x)(h:QE X e te)(hs:swapsWith e (some (.Name x pos')) pos.line X.env=pure false:=by rfl)
  (hf:X.fn x=true\/X.env.scope.names.lookup x=some .local:=by first|exact .inl rfl|exact .inr rfl|assumption):QS X (.Assign [.Name x pos'] e pos) (tAsg te (qq4 i)):=⟨q6b hN hi hx h.u hs hf⟩
theorem q6r{tg iter:Expr}{body:List Stmt}{wi:TI}{g:TG}(hp:PassesOwn (model X.prog X.w) X.A X.env X.xe)(hc:X.calm=true)(hi:QI X tg iter wi)(hg:QG X tg g)(hb:QSs X body t)
  (hs:∀x,foldedSetIterable iter X.env x=pure x:=by intro _;rfl):QS X (.For tg iter body [] pos) (tFor wi g t):=⟨q59 hp hc hi.u hg.u hb.u hs⟩
theorem qyx{body:List Stmt}(hp:PassesOwn (model X.prog X.w) X.A X.env X.xe)(hc:QT X c tT)(hb:QSs X body t):QS X (.While c body [] pos) (q0m tT t):=⟨qym hp hc.u hb.u⟩
theorem q0c{k:Int}{j:Nat}:QE X (.Constant (.int k) j pos) (tC (.int k)):=⟨q5y⟩
theorem q8u{k:Bool}{j:Nat}:QE X (.Constant (.bool k) j pos) (tC (.bl k)):=⟨q8l⟩
theorem q6i{j:Nat}:QE X (.Constant .none j pos) (tC .non):=⟨q51⟩
theorem q6l{z:Str}{j:Nat}:QE X (.Constant (.str z) j pos) (tC (.str z)):=⟨q54⟩
theorem qv(i:Nat)(hN:X.N[i]?=some x:=by rfl)(hv:Vis X.env.scope x:=by first|exact Or.inl rfl|exact Or.inr (Or.inl rfl)|exact Or.inr (Or.inr rfl))(hd:(x==("__debug__" : Str))=false:=by decide)
  (hcd:(x==("__classdict__" : Str))=false:=by decide):QE X (.Name x pos) (tVar i):=⟨qz9 hN hv hd hcd⟩
theorem qot{v:V}{w:Value}(hg:Gl X x)(hm:X.mg x=some w)(r:RelV v w)(hd:(x==("__debug__" : Str))=false:=by decide):QE X (.Name x pos) (tC v):=⟨qu1 hg hm r hd⟩
theorem qu8{v:V}{w:Value}(hg:Gl X x)(hm:X.mg x=none)(hv:bootBuiltins x=some w)(r:RelV v w)(hn:x≠"__name__" := by decide)(hd:(x==("__debug__" : Str))=false:=by decide):QE X (.Name x pos) (tC v):=⟨q2g hg hm hv r hn hd⟩
theorem q8w{op:Operator}{r:R2}(ho:OpR X (binaryOp op) r)(ha:QE X a ta)(hb:QE X b tb):QE X (.BinOp a op b pos) (tOp r ta tb):=⟨q8n ho ha.u hb.u⟩
theorem q8y{op:UnaryOp}{r:V->Hp->VK->Prop}(ho:UnR X (unaryOp op) r)(ha:QE X a ta):QE X (.UnaryOp op a pos) (tUn r ta):=⟨q8p ho ha.u⟩
theorem q20{op:CmpOp}{r:R2}(ho:OpR X (compareOp op) r)(ha:QE X a ta)(hb:QE X b tb)(hm:behindInMarks op b=false):QE X (.Compare a [op] [b] pos) (tOp r ta tb):=⟨q2h ho ha.u hb.u hm⟩
theorem q6k{op:BoolOp}(h:QE X a ta):QE X (.BoolOp op [a] pos) ta:=⟨q53 h.u⟩
theorem q6g(ha:QE X a ta)(hb:QE X (.BoolOp .And (b::es) pos) tb):QE X (.BoolOp .And (a::b::es) pos) (q7d ta tb):=⟨q5w ha.u hb.u⟩
theorem q8x(ha:QE X a ta)(hb:QE X (.BoolOp .Or (b::es) pos) tb):QE X (.BoolOp .Or (a::b::es) pos) (tOrV ta tb):=⟨q8o ha.u hb.u⟩
theorem q6j(ha:QE X a ta):QE X (.UnaryOp .Not a pos) (q7j ta):=⟨q52 ha.u⟩
theorem qys(hc:QT X c tT)(ha:QE X a ta)(hb:QE X b tb):QE X (.IfExp c a b pos) (tIf tT ta tb):=⟨qyg hc.u ha.u hb.u⟩
theorem q6n{k:Nat}(h:QA X es tA):QE X (.Tuple es k pos) (tTup tA):=⟨q55 h.u⟩
theorem q6h(h:QA X es tA):QE X (.List es pos) (tLst tA):=⟨q50 h.u⟩
theorem qyt{lo hi:Option Expr}{tl th:TO}{r:V->Option Int->Option Int->Hp->VK->Prop}(hr:SlR X r)(he:QE X e te)(hl:QO X lo tl)(hu:QO X hi th):QE X (.Subscript e (.Slice lo hi none p2) pos) (tSl r te tl th):=⟨qyh hr he.u hl.u hu.u⟩
theorem q8v{r:R2}(hr:IxR X r)(ha:QE X a ta)(hb:QE X b tb)(hs:qf4 b):QE X (.Subscript a b pos) (tOp r ta tb):=⟨q5z hr ha.u hb.u hs⟩
theorem q28:QO X none qvx:=⟨q2o⟩
theorem q29(h:QE X e te):QO X (some e) (q7k te):=⟨q2p h.u⟩
theorem qdi:QA X [] tNil:=⟨q5u⟩
theorem qac(ha:QE X e te)(hr:QA X es tA)(hs:qav e=true:=by rfl):QA X (e::es) (qzf te tA):=⟨pac ha.u hr.u hs⟩
theorem qu9{k:Nat}{ps:List Str}{sp:Sp}(C:Cal X.prog X.w X.K X.mg X.base k x ps sp)(hr:Room k X.A)(hg:Gl X x)(ha:QA X (e::es) tA)(hp:(e::es).all qav=true:=by rfl)(hdb:(x==("__debug__" : Str))=false:=by decide) :
  QE X (.Call (.Name x p) (e::es) [] pos) (qvu sp [] E0 tA):=⟨q5x C hr hg ha.u hp hdb⟩
theorem qcb{id:String}{r:List V->Hp->VK->Prop}(hc:CallR X (.builtin id) r)(hg:Gl X x)(hm:X.mg x=none)(hv:bootBuiltins x=some (.builtin id))(ha:QA X (e::es) tA)(hp:(e::es).all qav=true:=by rfl)(hn:x≠"__name__" := by decide)
  (hdb:(x==("__debug__" : Str))=false:=by decide):QE X (.Call (.Name x p) (e::es) [] pos) (tCB r tA):=⟨pcb hc hg hm hv ha.u hp hn hdb⟩
theorem qct{T:String}{r:List V->Hp->VK->Prop}(hc:CallR X (.type T) r)(hg:Gl X x)(hm:X.mg x=none)(hv:bootBuiltins x=some (.type T))(ha:QA X (e::es) tA)(hp:(e::es).all qav=true:=by rfl)(hn:x≠"__name__" := by decide)
  (hdb:(x==("__debug__" : Str))=false:=by decide):QE X (.Call (.Name x p) (e::es) [] pos) (tCB r tA):=⟨pct hc hg hm hv ha.u hp hn hdb⟩
theorem qbm{T id:String}{r:V->List V->Hp->VK->Prop}(pa:PlainAttrs T)(slot:Slot T name id)(hty:typeOf (.builtin id)=pure (.type "method_descriptor"))(hm:MtR X id r)(ho:QE X o to)(ha:QA X (e::es) tA)(hp:(e::es).all qav=true:=by rfl)
  (hfew:decide ((e::es).length<30)=true:=by rfl) (hbase:attributeBase o name X.env (eval o X.env)=eval o X.env:=by rfl) (hline:(apos.endLine==cpos.line)=true:=by rfl) :
  QE X (.Call (.Attribute o name apos) (e::es) [] cpos) (tBM X.K T r to tA):=⟨pbm pa slot hty hm ho.u ha.u hp hfew hbase hline⟩
theorem q3c{op:CmpOp}{r:R2}(ho:OpR X (compareOp op) r)(ha:QE X a ta)(hb:QE X b tb)(hm:behindInMarks op b=false):QT X (.Compare a [op] [b] pos) (qzg (tOp r ta tb)):=⟨q2v ho ha.u hb.u hm⟩
theorem qyz{op op':CmpOp}{r r':R2}(ho:OpR X (compareOp op) r)(ho':OpR X (compareOp op') r')(ha:QE X a ta)(hb:QE X b tb)(hc:QE X c tc)(hm:lastMarks [op,op'] [b,c]=false:=by with_unfolding_all rfl) :
  QT X (.Compare a [op,op'] [b,c] pos) (qzg (qvv r r' ta tb tc)):=⟨qyo ho ho' ha.u hb.u hc.u hm⟩
theorem q6u(h:QT X a tT):QT X (.UnaryOp .Not a pos) (tNot tT):=⟨q6c h.u⟩
theorem q6v(h:QE X e te)(he:∀whole,isTrue e X.env whole=(do let v ←whole;standAt e.pos;holding [v] (truthy v)):=by intro _;rfl):QT X e (tB te):=⟨q6d h.u he⟩
theorem q3d(h:QT X a tT):QW X (.BoolOp .And [a] pos) tT:=⟨q2w h.u⟩
theorem q6x(h:QT X a tT):QW X (.BoolOp .Or [a] pos) tT:=⟨q6f h.u⟩
theorem q6w(ha:QT X a tT)(hb:QW X (.BoolOp .And (b::es) pos) tU):QW X (.BoolOp .And (a::b::es) pos) (tAnd tT tU):=⟨q6e ha.u hb.u⟩
theorem q83(ha:QT X a tT)(hb:QW X (.BoolOp .Or (b::es) pos) tU):QW X (.BoolOp .Or (a::b::es) pos) (tOr tT tU):=⟨q8t ha.u hb.u⟩
theorem qw_t(h:QW X e tT):QT X e tT:=⟨h.u.pt⟩
theorem q80{tg:Expr}(hg:Gl X "range")(hm:X.mg "range" = none)(ha:QA X [a] tA)(hp:qav a=true:=by rfl):QI X tg (.Call (.Name "range" p) [a] [] pos) (q1c tA):=⟨q8q hg hm ha.u hp⟩
theorem q81{tg:Expr}(hg:Gl X "range")(hm:X.mg "range" = none)(ha:QA X [a,b] tA)(hp:qav a=true:=by rfl)(hp2:qav b=true:=by rfl):QI X tg (.Call (.Name "range" p) [a,b] [] pos) (q1d tA):=⟨q8r hg hm ha.u hp hp2⟩
theorem q23{i:Nat}(hN:X.N.Nodup)(hi:X.N[i]?=some x)(hx:Loc X.env.scope x)(hf:X.fn x=true\/X.env.scope.names.lookup x=some .local:=by first|exact .inl rfl|exact .inr rfl|assumption):QG X (.Name x pos) (qq4 i):=⟨q2k hN hi hx hf⟩
theorem q24:QGs X [] gNil:=⟨q2l⟩
theorem qyu{g:TG}{gs:TGs}(h1:QG X e g)(h2:QGs X es gs)(hs:(assignEach (e::es) X.env).map (·.2)=assign e X.env::(assignEach es X.env).map (·.2):=by rfl):QGs X (e::es) (q42 g gs):=⟨qyi h1.u h2.u hs⟩
theorem q6o{k:Nat}{gs:TGs}{n:Nat}(hc:X.calm=true)(h:QGs X es gs)(hn:(assignEach es X.env).length=n:=by rfl)(hst:(assignEach es X.env).findIdx? (·.1)=none:=by rfl):QG X (.Tuple es k pos) (gTup X.K n gs):=⟨q56 hc h.u hn hst⟩
theorem q26:QF X [] fNil:=⟨q2m⟩
theorem q27(h:QT X c tT):QF X [c] (fOne tT):=⟨q2n h.u⟩
theorem q2x{tg iter elt:Expr}{ifs:List Expr}{csc:Scope}{NB M:List Str}{wi:TI}{g:TG}{ti:TF}(hi:QI X tg iter wi)(hc:X.calm=true)(S:CompScope X.env.scope X.N NB M csc)
  (hg:∀cl C s₀ H₀ fp pn,QG (cxC X NB csc cl C s₀ H₀ fp pn) tg g) (hf:∀cl C s₀ H₀ fp pn,QF (cxC X NB csc cl C s₀ H₀ fp pn) ifs ti) (he:∀cl C s₀ H₀ fp pn,QE (cxC X NB csc cl C s₀ H₀ fp pn) elt te)
  (hs:∀x,foldedSetIterable iter X.env x=pure x:=by intro _;rfl):QC X (.ListComp elt [⟨tg,iter,ifs,0⟩] csc pos) (q3u wi g ti te M.length) :=
 ⟨q2f hi.u hc S (λcl C s₀ H₀ fp pn=>(hg cl C s₀ H₀ fp pn).u) (λcl C s₀ H₀ fp pn=>(hf cl C s₀ H₀ fp pn).u) (λcl C s₀ H₀ fp pn=>(he cl C s₀ H₀ fp pn).u) hs⟩
theorem qc_e(h:QC X e te):QE X e te:=⟨h.u.pe⟩
end
theorem Fun.okQ{P:Program}{w:World}{K:PySem.W.Frag}{mg:Str->Option Value}{base:Heap}{x qual:Str}{st:Stmt}{f:Addr}{fd:FuncData}{N ps:List Str}{k:Nat}{sp:Sp}(F:Fun K x qual st f fd)(S:FnScope N ps (qaf st))(len:∀vs H Q E,sp vs H Q E->vs.length=ps.length)
  (hbody:∀(cdv:Value) (A:Around) (outer:List Env) (s:Shared) (H:Hp) (vs:List V) (Q:VK) (E:XK),Room k (A.deeper (envOfC qual (qaf st) s.heap.objs.size f cdv))->sp vs H Q E ->
   ∃t,QSs (cxOf CX0 P w K mg base N qual (qaf st) f cdv A outer s H E).nox (qbn st) t/\t { nx:=λ_ H'=>Q .non H',rt:=Q } (start N vs) H):FnOk P w K mg base CX0 (k+1) f fd ps sp :=
 F.ok S len λcdv A outer s H vs Q E hr hsp=>let ⟨t,h,q⟩:=hbody cdv A outer s H vs Q E hr hsp;⟨t,h.u,q⟩
end L2
namespace L2
open PySem PySem.Spec PyProof.Rows
def FlR(h:Heap)(a:Addr)(C:Value):Prop:=∃oa vs,h.get? a=some oa/\(oa.cls=C/\oa.dict=none)/\oa.data=.fields vs/\vs[1]?=some .none
def FlT(h:Heap)(a:Addr)(C:Value)(T:Addr)(fl:Value):Prop :=
 ∃oa vs oT ts,h.get? a=some oa/\(oa.cls=C/\oa.dict=none)/\oa.data=.fields vs/\vs[1]?=some (.ref T)/\T≠a/\h.get? T=some oT/\oT.data=.fields ts/\ts[3]?=some fl
def Fly(h:Heap)(a:Addr)(C:Value):List Addr->Prop
|[]=>FlR h a C
|T::r=>r=[]/\FlT h a C T .none
theorem qun(o:Obj)(f:Array Value->Array Value):(o.mapFields f).dict=o.dict:=by
 cases o with|mk c d dt sl=>cases dt<;>rfl
structure Nk(fs ch:List Addr)(h g:Heap):Prop where
 keep:∀b o,b∉fs->b∉ch->h.get? b=some o->g.get? b=some o
 slot:∀b o,b∈fs->b∉ch->h.get? b=some o->∃sl,g.get? b=some { o with slots:=sl }
 there:∀b o,h.get? b=some o->∃u,g.get? b=some u
theorem FlT.thing{h:Heap}{a T:Addr}{C fl:Value}(f:FlT h a C T fl):∃oa,h.get? a=some oa/\(oa.cls=C/\oa.dict=none)/\PySem.W.notCls oa=true:=by
 obtain⟨oa,_,_,_,ha,hc,hd,_⟩:=f
 exact⟨oa,ha,hc,by unfold PySem.W.notCls;rw[hd]⟩
theorem FlT.there{h:Heap}{a T:Addr}{C fl:Value}(f:FlT h a C T fl):∃oa,h.get? a=some oa/\oa.cls=C:=by
 obtain⟨oa,ha,hc,_⟩:=f.thing
 exact⟨oa,ha,hc.1⟩
theorem qiu{h:Heap}{a b:Addr}{oa o:Obj}{vs:Array Value}{i:Nat}{x:Value}(ha:h.get? a=some oa)(hd:oa.data=.fields vs)(e:h.get? b=some o):∃u,(h.update a (Obj.mapFields (·.setIfInBounds i x))).get? b=some u:=by
 by_cases hb:b=a
 ·subst hb
  exact⟨_,Heap.get?_update_self _ ha (Obj.isFreed_of_fields (Obj.data_mapFields hd _))⟩
 ·exact⟨o,by rw[Heap.get?_update_other _ _ (Ne.symm hb)];exact e⟩
section
variable {M:Model} {A:Around} {E:Value->Shared->Prop} {s:Shared} {base:Heap} {env:Env} {outer:List Env} {L a T:Addr} {C:Value}
theorem qjr{oa:Obj}{vs:Array Value}{head:Value}{more:Bool}{Q:Unit->Shared->Prop}(hfr:A.frames=some (env::outer))(hl:s.heap.FunFrames base (env::outer))(hf:env.frame=some L)
  (ha:s.heap.get? a=some oa) (hdn:oa.dict=none) (hd:oa.data=.fields vs) (hz:1<vs.size) (k:∀g T,Nk (frs (env::outer)) [a] s.heap g->s.heap.objs.size<=T->FlT g a oa.cls T (rawInt L)->Q () { s with heap:=g }) :
  wpAny M A (do let fr ←frameOf env;let pl ←entryPlaceOf L more;let b ←EntryCells.newEntry head fr .none (rawInt L) .none pl;setField (.ref a) 1 b) Q E s:=by
 have nofr:a∉frs (env::outer):=λhm=>by
  obtain⟨_,o,ho,no⟩:=hl.mem hm
  rw[ha] at ho
  cases ho
  exact no vs hd
 refine wpAny_bind (wpAny_frameOf_fun hfr hl hf λg1 so=>wpAny_bind (wpAny_entryPlaceOf λpl ip=>?_))
 unfold EntryCells.newEntry newFields
 refine wpAny_bind (wpAny_newObj_type ?_ (ip.sizeOk5 _ _ _ _ _))
 have a1:g1.get? a=some oa:=(so.2.1 a nofr).trans ha
 have lt1:a<g1.objs.size:=Heap.lt_size a1
 refine wpAny_setField (Heap.get?_push_of_some _ a1) hd hz (k _ g1.objs.size ⟨λb o nb nc e=>?_,λb o mb nc e=>?_,λb o e=>?_⟩ (by rw[so.1];exact Nat.le_refl _) ?_)
 ·have hb:b≠a:=λz=>nc (by simp[z])
  rw[Heap.get?_update_other _ _ (Ne.symm hb)]
  exact Heap.get?_push_of_some _ ((so.2.1 b nb).trans e)
 ·have hb:b≠a:=λz=>nc (by simp[z])
  obtain⟨sl,q⟩:=so.2.2 b o e
  exact⟨sl,by rw[Heap.get?_update_other _ _ (Ne.symm hb)];exact Heap.get?_push_of_some _ q⟩
 ·obtain⟨sl,q⟩:=so.2.2 b o e
  exact qiu (Heap.get?_push_of_some _ a1) hd (Heap.get?_push_of_some _ q)
 ·have hne:g1.objs.size≠a:=Nat.ne_of_gt lt1
  refine⟨_,_,_,_,Heap.get?_update_self _ (Heap.get?_push_of_some _ a1) (Obj.isFreed_of_fields (Obj.data_mapFields hd _)),⟨Obj.cls_mapFields _ _,(qun _ _).trans hdn⟩,Obj.data_mapFields hd _,(by simp[hz]),hne,(Heap.get?_update_other _ _ (Ne.symm hne)).trans (Heap.get?_push_size g1 rfl),rfl,?_⟩
  first
  |(simp;done)
  |(rcases ip with rfl|⟨_,_,_,_,_,_,_,rfl⟩<;>simp)
theorem qx5{Q:Unit->Shared->Prop}(hfr:A.frames=some (env::outer))(hl:s.heap.FunFrames base (env::outer))(hf:env.frame=some L)(r:FlR s.heap a C)
  (k:∀g T,Nk (frs (env::outer)) [a] s.heap g->s.heap.objs.size<=T->FlT g a C T (rawInt L)->Q () { s with heap:=g }):wpAny M A (noteFrame (.ref a) env) Q E s:=by
 obtain⟨oa,vs,ha,⟨hc,hdn⟩,hd,h1⟩:=r
 subst hc
 unfold noteFrame
 simp only[hf]
 refine wpAny_bind (wpAny_field ha hd h1 ?_)
 rw[if_neg (by decide)]
 exact qjr hfr hl hf ha hdn hd (Array.getElem?_eq_some_iff.mp h1).1 k
theorem q1y{Q:Unit->Shared->Prop}(hfr:A.frames=some (env::outer))(hl:s.heap.FunFrames base (env::outer))(hf:env.frame=some L)(r:FlT s.heap a C T .none)
  (k:∀g U,Nk (frs (env::outer)) [a,T] s.heap g->s.heap.objs.size<=U->FlT g a C U (rawInt L)->Q () { s with heap:=g }):wpAny M A (noteFrame (.ref a) env) Q E s:=by
 obtain⟨oa,vs,oT,ts,ha,⟨hc,hdn⟩,hd,h1,ne,hT,hdT,h3⟩:=r
 subst hc
 unfold noteFrame
 simp only[hf]
 refine wpAny_bind (wpAny_field ha hd h1 ?_)
 rw[if_pos (show (Value.ref T != Value.none)=true by simp)]
 refine wpAny_bind (wpAny_field hT hdT h3 ?_)
 rw[if_neg (show ¬ ((Value.none==rawInt L)=true) by simp[rawInt])]
 refine wpAny_bind (wpAny_setField hT hdT (Array.getElem?_eq_some_iff.mp h3).1 ?_)
 have oth:∀b,b≠T->(s.heap.update T (Obj.mapFields (·.setIfInBounds 3 Value.none))).get? b=s.heap.get? b:=λb hb=>Heap.get?_update_other _ _ (Ne.symm hb)
 have hl2:(s.heap.update T (Obj.mapFields (·.setIfInBounds 3 Value.none))).FunFrames base (env::outer):=hl.of_keeps λb o e no=>⟨o,(oth b λz=>by subst z;rw[hT] at e;cases e;exact no ts hdT).trans e,rfl⟩
 refine qjr (s:={ s with heap:=s.heap.update T (Obj.mapFields (·.setIfInBounds 3 Value.none)) }) hfr hl2 hf ((oth a (Ne.symm ne)).trans ha) hdn hd (Array.getElem?_eq_some_iff.mp h1).1 λg U nk sz fl=>k g U ⟨λb o nb nc e=>?_,λb o mb nc e=>?_,λb o e=>?_⟩ ?_ fl
 ·have hb:b≠T:=λz=>nc (by simp[z])
  exact nk.keep b o nb (λz=>nc (by simp at z;simp[z])) ((oth b hb).trans e)
 ·have hb:b≠T:=λz=>nc (by simp[z])
  exact nk.slot b o mb (λz=>nc (by simp at z;simp[z])) ((oth b hb).trans e)
 ·obtain⟨u,q⟩:=qiu (i:=3) (x:=Value.none) hT hdT e
  exact nk.there b u q
 ·have e:(s.heap.update T (Obj.mapFields (·.setIfInBounds 3 Value.none))).objs.size=s.heap.objs.size:=Heap.size_after_update ..
  rw[←e]
  exact sz
theorem qfi{fl:Value}{Q:Unit->Shared->Prop}(r:FlT s.heap a C T fl)(k:∀g,Nk [] [T] s.heap g->FlT g a C T .none->g.objs.size=s.heap.objs.size->Q () { s with heap:=g }):wpAny M A (setFlight (.ref a) none) Q E s:=by
 obtain⟨oa,vs,oT,ts,ha,hc,hd,h1,ne,hT,hdT,h3⟩:=r
 have h3z:=(Array.getElem?_eq_some_iff.mp h3).1
 have oth:∀b,b≠T->(s.heap.update T (Obj.mapFields (·.setIfInBounds 3 Value.none))).get? b=s.heap.get? b:=λb hb=>Heap.get?_update_other _ _ (Ne.symm hb)
 refine wpAny_setFlight_none ha hd h1 hT hdT h3z (k _ ⟨λb o _ nc e=>(oth b λz=>nc (by simp[z])).trans e,λb o mb _ _=>(nomatch mb),λb o e=>qiu hT hdT e⟩ ?_ (Heap.size_after_update ..))
 exact⟨oa,vs,_,_,(oth a (Ne.symm ne)).trans ha,hc,hd,h1,ne,Heap.get?_update_self _ hT (Obj.isFreed_of_fields (Obj.data_mapFields hdT _)),Obj.data_mapFields hdT _,by simp[h3z]⟩
theorem qlx{ts:List Addr}{Q:Unit->Shared->Prop}(hfr:A.frames=some (env::outer))(hl:s.heap.FunFrames base (env::outer))(hf:env.frame=some L)(r:Fly s.heap a C ts)
  (k:∀g U,Nk (frs (env::outer)) (a::ts) s.heap g->s.heap.objs.size<=U->FlT g a C U .none->Q () { s with heap:=g }) :
  wpAny M A (noteFrame (.ref a) env) (λ_ s2=>wpAny M A (setFlight (.ref a) none) Q E s2) E s:=by
 have fin:∀(ch:List Addr) (g:Heap) (U:Addr),(∀b∈ch,b∈a::ts)->Nk (frs (env::outer)) ch s.heap g->s.heap.objs.size<=U->FlT g a C U (rawInt L)->wpAny M A (setFlight (.ref a) none) Q E { s with heap:=g }:=λch g U sub nk sz fl=>by
  refine qfi (s:={ s with heap:=g }) fl λg2 nk2 fl2 _=>k g2 U ⟨λb o nb nc e=>?_,λb o mb nc e=>?_,λb o e=>?_⟩ sz fl2
  ·have hU:b≠U:=Nat.ne_of_lt (Nat.lt_of_lt_of_le (Heap.lt_size e) sz)
   exact nk2.keep b o (by simp) (by simpa using hU) (nk.keep b o nb (λz=>nc (sub b z)) e)
  ·have hU:b≠U:=Nat.ne_of_lt (Nat.lt_of_lt_of_le (Heap.lt_size e) sz)
   obtain⟨sl,q⟩:=nk.slot b o mb (λz=>nc (sub b z)) e
   exact⟨sl,nk2.keep b _ (by simp) (by simpa using hU) q⟩
  ·obtain⟨u,q⟩:=nk.there b o e
   exact nk2.there b u q
 cases ts with
|nil=>exact qx5 hfr hl hf r λg U nk sz fl=>fin [a] g U (λb hb=>by simpa using hb) nk sz fl
|cons T r' =>
  obtain⟨hr,r⟩:=r
  subst hr
  exact q1y hfr hl hf r λg U nk sz fl=>fin [a,T] g U (λb hb=>by simpa using hb) nk sz fl
end
section
variable {X:Cx} {pins:List (Addr×Obj)} {σ:St} {H:Hp} {s:Shared} {a:Addr} {ts:List Addr} {C:Addr}
def FpN(X:Cx)(pins:List (Addr×Obj))(H:Hp)(b:Addr):Prop :=
 H b=none/\b≠X.env.locals/\b∉X.fs/\X.s₀.heap.get? b=none/\(∀x c,X.env.cells.lookup x=some c->c≠b)/\∀p∈X.pn++pins,p.1≠b
theorem Inv.fpN{H':Hp}{b:Addr}(I:Inv X pins σ H s)(hx:X.ex=[])(hb:s.heap.get? b=none)(hn:H' b=none):FpN X pins H' b:=by
 have no:∀(d:Addr) (o:Obj),X.s₀.heap.get? d=some o->d≠b:=λd o e z=>by
  obtain⟨o',e'⟩:=I.base.there d o e (by rw[hx];exact λy=>nomatch y)
  rw[z,hb] at e'
  cases e'
 refine⟨hn,λz=>?_,λz=>?_,?_,λx c e z=>?_,λp hp z=>?_⟩
 ·obtain⟨m,⟨o,_,_,ho,_⟩,_⟩:=I.loc
  rw[←z,hb] at ho
  cases ho
 ·obtain⟨_,o,ho,_⟩:=I.ok.funs.mem z
  exact no b o ho rfl
 ·cases q:X.s₀.heap.get? b with
 |none=>rfl
 |some o=>exact absurd rfl (no b o q)
 ·obtain⟨v,o,ho,_⟩:=I.cell x c e
  rw[z,hb] at ho
  cases ho
 ·have e:=(I.pin p hp).1
  rw[z,hb] at e
  cases e
theorem Inv.exMore{ch:List Addr}(I:Inv X pins σ H s)(f:∀b∈ch,FpN X pins H b):Inv { X with ex:=ch++X.ex } pins σ H s:=by
 refine⟨⟨I.ok.mod,I.ok.kind,I.ok.glob,I.ok.blt,I.ok.above,I.ok.inj,I.ok.has,I.ok.cab,I.ok.hd,I.ok.frames,I.ok.stk,λb hb=>?_,I.ok.bs,I.ok.bsz,λb o e hb=>?_,λb hb=>?_,I.ok.funs,I.ok.frf⟩,I.os,I.bare,
  ⟨λb o e n h1 h2=>?_,λb o e n h1 h2=>?_,λb o e n h2=>?_,λb o e h2=>?_,I.base.tups,I.base.frzs,I.base.tbls⟩,I.loc,I.cell,I.free,I.freeC,I.pin,I.hok,I.len⟩
 ·rcases List.mem_append.mp hb with z|z
  ·exact⟨(f b z).2.1,(f b z).2.2.2.2.1⟩
  ·exact I.ok.exf b z
 ·rcases List.mem_append.mp hb with z|z
  ·have q:=(I.ok.bs b o e).1
   rw[(f b z).2.2.2.1] at q
   cases q
  ·exact I.ok.noex b o e z
 ·rcases List.mem_append.mp hb with z|z
  ·exact(f b z).2.2.1
  ·exact I.ok.exfs b z
 ·exact I.base.keep b o e n h1 λz=>h2 (List.mem_append.mpr (.inr z))
 ·exact I.base.slot b o e n h1 λz=>h2 (List.mem_append.mpr (.inr z))
 ·exact I.base.free b o e n λz=>h2 (List.mem_append.mpr (.inr z))
 ·exact I.base.there b o e λz=>h2 (List.mem_append.mpr (.inr z))
theorem Inv.exLess{ch:List Addr}(ok:X.Ok)(f:∀b∈ch,X.s₀.heap.get? b=none)(I:Inv { X with ex:=ch++X.ex } pins σ H s):Inv X pins σ H s:=by
 have no:∀(b:Addr) (o:Obj),X.s₀.heap.get? b=some o->b∉X.ex->b∉ch++X.ex:=λb o e hx z=>by
  rcases List.mem_append.mp z with z|z
  ·rw[f b z] at e
   cases e
  ·exact hx z
 exact⟨ok,I.os,I.bare,⟨λb o e n h1 h2=>I.base.keep b o e n h1 (no b o e h2),λb o e n h1 h2=>I.base.slot b o e n h1 (no b o e h2),λb o e n h2=>I.base.free b o e n (no b o e h2),λb o e h2=>I.base.there b o e (no b o e h2),I.base.tups,I.base.frzs,I.base.tbls⟩,
  I.loc,I.cell,I.free,I.freeC,I.pin,I.hok,I.len⟩
theorem Inv.noted{g:Heap}(I:Inv X pins σ H s)(fa:∀b∈a::ts,FpN X pins H b)(nk:Nk (frs X.stack) (a::ts) s.heap g):Inv X pins σ H { s with heap:=g }:=by
 have trk:∀c u,H c=some u->c∉frs X.stack/\c∉a::ts:=λc u e=>⟨λz=>(by rw[I.stkFree c z] at e;cases e),λz=>(by rw[(fa c z).1] at e;cases e)⟩
 have hok:HOk X.prog X.w H g:=λb u e=>(I.hok b u e).stay (λc v hc q=>by
  rcases hc with z|z
  ·rw[z] at q ⊢
   exact nk.keep b v (trk b u e).1 (trk b u e).2 q
  ·exact nk.keep c v (trk c _ z).1 (trk c _ z).2 q) (λ_ q=>q) λ_ _ q=>q
 have I1:=I.exMore fa
 refine Inv.exLess I.ok (λb hb=>(fa b hb).2.2.2.1) (I1.call (g':=s.gens) (t':=s.toks) (d':=s.drawn) (ch:=a::ts) ⟨λb o e _ hb hx=>nk.keep b o hb hx e,λb o e _ hb hx=>nk.slot b o hb hx e,λ_ _ _ n _=>n,λb o e _=>nk.there b o e,λ_ _ q=>q,λ_ _ _ q=>q,λ_ ps q=>⟨#[],by rw[q];simp⟩⟩ hok I.bare
  λb hb=>⟨.inl (List.mem_append.mpr (.inl hb)),(fa b hb).2.1,(fa b hb).2.2.2.2.1,(fa b hb).2.2.2.2.2⟩)
def FlyX(X:Cx)(pins:List (Addr×Obj))(H:Hp)(s:Shared)(a C:Addr):Prop:=∃ts,(∀b∈a::ts,FpN X pins H b)/\Fly s.heap a (.ref C) ts
def Out(X:Cx)(EX:St->XK):Prop:=∀(pins:List (Addr×Obj)) (σ:St) (H:Hp) (s:Shared) (a C:Addr),Inv X pins σ H s->FlyX X pins H s a C->EX σ (.ref C) none H->X.xe (.ref a) s
end
def CXR(P:Program)(w:World):CXT:=λouter H s E e s'=>∃a C H' T,e=.ref a/\s'.os=s.os/\AllBare s'.gens/\Un (frs outer) [] H H' s.heap s'.heap/\HOk P w H' s'.heap/\FlT s'.heap a (.ref C) T .none /\
 s.heap.get? a=none/\s.heap.get? T=none/\H' a=none/\H' T=none/\E (.ref C) none H'
theorem Out.pass{X:Cx}{EX:St->XK}(o:Out X EX)(hx:X.ex=[]){pins:List (Addr×Obj)}{σ:St}{H:Hp}{s s':Shared}{e:Value}(I:Inv X pins σ H s)(h:CXR X.prog X.w X.stack H s (EX σ) e s'):X.xe e s':=by
 obtain⟨a,C,H',T,rfl,ho,hg,u,hok,fl,sa,sT,na,nT,q⟩:=h
 have I2:Inv X pins σ H' s':=I.call' (ch:=[]) ho (u.mono (λ_ z=>z) λ_ z=>z) hok hg λb hb=>nomatch hb
 refine o pins σ H' s' a C I2 ⟨[T],λb hb=>?_,rfl,fl⟩ q
 rcases List.mem_cons.mp hb with z|z
 ·subst z
  exact I.fpN hx sa na
 ·have z':b=T:=by simpa using z
  subst z'
  exact I.fpN hx sT nT
theorem q8k{X:Cx}{P:Program}{w:World}:qpk (CXR P w) X E0:=by
 intro pins σ H s e s' I h
 obtain⟨_,_,_,_,_,_,_,_,_,_,_,_,_,_,q⟩:=h
 exact q.elim
section
variable {P:Program} {w:World} {K:PySem.W.Frag} {mg:Str->Option Value} {base:Heap}
theorem q2a{N:List Str}{qual:Str}{scope:Scope}{f:Addr}{cd:Value}{A:Around}{outer:List Env}{s:Shared}{H:Hp}{E:XK}:Out (cxOf (CXR P w) P w K mg base N qual scope f cd A outer s H E) λ_=>E:=by
 intro pins σ H' s' a C I fly e
 obtain⟨ts,fa,r⟩:=fly
 show wpAny (model P w) (A.deeper (envOfC qual scope s.heap.objs.size f cd)) (leaving (envOfC qual scope s.heap.objs.size f cd) (.ref a)) _ _ s'
 unfold leaving
 refine wpAny_bind (qlx (L:=s.heap.objs.size) I.ok.frames I.stack rfl r λg U nk sz fl=>?_)
 have I2:=I.noted fa nk
 have old:∀b,b∈a::ts->s.heap.get? b=none:=λb hb=>(fa b hb).2.2.2.1
 exact⟨a,C,H',U,rfl,I2.os,I2.bare,I2.base,I2.hok,fl,old a List.mem_cons_self,Heap.get?_none_of_le (Nat.le_trans I.sz sz),(fa a List.mem_cons_self).1,I.hok.fresh sz,e⟩
theorem Fun.okX{x qual:Str}{st:Stmt}{f:Addr}{fd:FuncData}{N ps:List Str}{k:Nat}{sp:Sp}(F:Fun K x qual st f fd)(S:FnScope N ps (qaf st))(len:∀vs H Q E,sp vs H Q E->vs.length=ps.length)
  (hbody:∀(cdv:Value) (A:Around) (outer:List Env) (s:Shared) (H:Hp) (vs:List V) (Q:VK) (E:XK),Room k (A.deeper (envOfC qual (qaf st) s.heap.objs.size f cdv))->sp vs H Q E ->
   Out (cxOf (CXR P w) P w K mg base N qual (qaf st) f cdv A outer s H E) (λ_=>E) ->
   ∃t,QSs (cxOf (CXR P w) P w K mg base N qual (qaf st) f cdv A outer s H E) (qbn st) t/\t { nx:=λ_ H'=>Q .non H',rt:=Q } (start N vs) H):FnOk P w K mg base (CXR P w) (k+1) f fd ps sp:=by
 obtain⟨oc,od,kV,doc,pm,an,cdv,ct,osl,rfl,lk,hcd⟩:=F.ex
 refine q41 lk hcd S len λA outer s H vs Q E hr hsp=>?_
 obtain⟨t,h,q⟩:=hbody cdv A outer s H vs Q E hr hsp q2a
 exact⟨t,h.u,q⟩
end
inductive CalX(P:Program)(w:World)(K:PySem.W.Frag)(mg:Str->Option Value)(base:Heap)(k:Nat)(x:Str)(ps:List Str)(sp:Sp):Prop where
|mk {f:Addr} {fd:FuncData} (F:FnOk P w K mg base (CXR P w) k f fd ps sp) (hm:mg x=some (.ref f)) (hk:PySem.W.keepIn K (.ref f)=true) (hb:Binds K fd ps [])
def q0h(sp:Sp)(EX:St->XK)(t:TA):TE:=λσ H Q=>t σ H λvs H1=>sp (vs++[]) H1 Q (EX σ)
section
variable {X:Cx} {k:Nat} {ps:List Str} {sp:Sp} {x:Str} {p pos:Pos} {e:Expr} {es:List Expr} {t:TA} {EX:St->XK}
theorem q68{f:Addr}{fd:FuncData}{pins:List (Addr×Obj)}{σ:St}{H:Hp}{s:Shared}{Q:VK}{us:List Value}{vs:List V}(F:FnOk X.prog X.w X.K X.mg X.base (CXR X.prog X.w) k f fd ps sp)(hr:Room k X.A)(hb:Binds X.K fd ps [])(o:Out X EX)(hx:X.ex=[])
  (I:Inv X pins σ H s) (r:Vals vs us) (h:sp (vs++[]) H Q (EX σ)):wpAny (model X.prog X.w) X.A (call (.ref f) us) (EP X pins σ Q) X.xe s:=by
 have rr:Vals (vs++[]) (us++[]):=r.append .nil
 have ll:(us++[]).length=ps.length:=rr.length▸F.len _ _ _ _ h
 have run:=F.run X.A X.stack s H ⟨us,[]⟩ (us++[]) (vs++[]) Q (EX σ) hr I.env0 (hb s us I.kIn ll) rr h
 refine wpAny_call (codeAny_mono run fun
 |.error _,_,z=>o.pass hx I z
 |.ok (.ret _),_,z=>I.after z
 |.ok .next,_,z=>z.elim
 |.ok .brk,_,z=>z.elim
  | .ok .cont,_,z=>z.elim)
theorem q2z(C:CalX X.prog X.w X.K X.mg X.base k x ps sp)(o:Out X EX)(hr:Room k X.A)(hg:Gl X x)(ha:QA X (e::es) t)(hx:X.ex=[]:=by rfl)(hp:(e::es).all qav=true:=by rfl)(hdb:(x==("__debug__" : Str))=false:=by decide) :
  QE X (.Call (.Name x p) (e::es) [] pos) (q0h sp EX t):=by
 cases C with
|mk F hm hk hb =>
  refine⟨λpins s σ H Q I h=>wpAny_Call_Name_kw (qgf I hg hm ?_ hdb)⟩
  exact PySem.W.callWith_K (h₀:=X.base) I.ok.mod.kin hk (thn (ha.u pos pins s σ H _ I h) λus s1 ⟨vs,H1,I1,r,q⟩=>⟨I1.kIn,q68 F hr hb o hx I1 r q⟩) (qbe (all2 hp).1) (qc5 (all2 hp).2)
theorem q2y(C:CalX X.prog X.w X.K X.mg X.base k x ps sp)(hr:Room k X.A)(hg:Gl X x)(ha:QA X (e::es) t)(hp:(e::es).all qav=true:=by rfl)(hdb:(x==("__debug__" : Str))=false:=by decide) :
  QE X (.Call (.Name x p) (e::es) [] pos) (qvu sp [] E0 t):=by
 cases C with
|mk F hm hk hb=>exact⟨quz F hr hg hm hk hb .nil q8k ha.u hdb (qbe (all2 hp).1) (qc5 (all2 hp).2)⟩
end
abbrev bmV:List Value:=[.type "ValueError",.type "Exception",.type "BaseException",.type "object"]
abbrev OwnX(K:PySem.W.Frag)(C:Addr):Prop:=PySem.W.excIn K C bmV "ValueError.__new__" = true
theorem quv{K:PySem.W.Frag}{h:Heap}{C:Addr}(X:K.In h)(q:OwnX K C):∃bm N nm qn bs hdct sn sub ab col dd k0 k1 k2 k3 k5 mN,
  h.get? C=some (excClassObj nm qn C N bs bm hdct sn sub ab col dd k0 k1 k2 k3 k5 "ValueError.__new__")/\h.Ns N mN/\mN "__init__" = none/\OwnTail h bmV bm:=by
 unfold OwnX PySem.W.excIn at q
 split at q
 ·rename_i dct cld slt look
  split at q
  ·rename_i C1 rest j0 j1 j2 j3 nw j5 em es
   simp only[Bool.and_eq_true,beq_iff_eq,Bool.not_eq_true'] at q
   obtain⟨⟨⟨⟨⟨c1,c2⟩,c3⟩,c4⟩,c5⟩,c6⟩:=q
   subst c1 c2
   cases cld with
  |mk nm bs mro ns qn hd sn sub ab col del =>
    obtain⟨l⟩:=slt
    dsimp only at em es c3 c5 c6
    subst em c3 es
    exact⟨rest,ns,nm,qn,bs,hd,sn,sub,ab,col,dct,j0,j1,j2,j3,j5,_,X _ _ look,.of_isNs (PySem.W.isNs_of_in X c5),PySem.W.nsMap_none_of_in X c5 c6,PySem.W.tail_of_in X c4⟩
  ·cases q
 ·cases q
theorem ObjOk.here{P:Program}{w:World}{H:Hp}{h:Heap}{a:Addr}{o:HO}(x:ObjOk P w H h a o):∃ob,h.get? a=some ob:=by
 cases o with
|lst xs=>obtain⟨_,_,_,_,e⟩:=x;exact⟨_,e⟩
|tup xs=>obtain⟨_,_,_,p⟩:=x;obtain⟨ob,e,_⟩:=p;exact⟨ob,e⟩
|dK kvs=>obtain⟨_,_,_,_,ob,_,_,e,_⟩:=x;exact⟨_,e⟩
|dT kvs=>obtain⟨_,_,_,_,ob,_,_,e,_⟩:=x;exact⟨_,e⟩
|set S n=>obtain⟨ob,_,_,_,e,_⟩:=x;exact⟨_,e⟩
|ins C dx fs=>obtain⟨_,_,_,e,_⟩:=x;exact⟨_,e⟩
|own y=>exact x
|xd fs=>obtain⟨_,⟨_,_,_,e,_⟩,_⟩:=x;exact⟨_,e⟩
|met f y=>exact⟨_,x⟩
|rng lo hi=>obtain⟨_,_,_,e⟩:=x;exact⟨_,e⟩
|frz ob u=>exact⟨_,x.1⟩
|tbl ps=>exact⟨_,x⟩
|ext φ=>exact x.2.1
section
variable {X:Cx} {pins:List (Addr×Obj)} {σ:St} {H:Hp} {s:Shared}
theorem Inv.grown{h':Heap}(I:Inv X pins σ H s)(k:∀b o,s.heap.get? b=some o->h'.get? b=some o):Inv X pins σ H { s with heap:=h' }:=by
 refine I.call (g':=s.gens) (t':=s.toks) (d':=s.drawn) (ch:=[]) ⟨λb o e _ _ _=>k b o e,λb o e _ _ _=>⟨o.slots,k b o e⟩,λ_ _ _ n _=>n,λb o e _=>⟨o,k b o e⟩,λ_ _ q=>q,λ_ _ _ q=>q,λ_ ps q=>⟨#[],by rw[q];simp⟩⟩
  (λb u e=>(I.hok b u e).stay (λc v _ q=>k c v q) (λ_ q=>q) λ_ _ q=>q) I.bare λb hb=>nomatch hb
def q7l(C:Addr)(EX:St->XK)(t:TA):TS:=λ_ σ H=>t σ H λvs H1=>vs.length<=sizeLine/\EX σ (.ref C) none H1
theorem qyw{x:Str}{C:Addr}{EX:St->XK}{np cpos pos:Pos}{e:Expr}{es:List Expr}{t:TA}(q:OwnX X.K C)(hm:X.mg x=some (.ref C))(hg:Gl X x)(hc:X.calm=true)(o:Out X EX)(ha:QA X (e::es) t)
  (hx:X.ex=[]:=by rfl) (hp:(e::es).all qav=true:=by rfl) (hdb:(x==("__debug__" : Str))=false:=by decide) :
  QS X (.Raise (some (.Call (.Name x np) (e::es) [] cpos)) none pos) (q7l C EX t):=by
 refine⟨λpins s σ H D I h=>?_⟩
 obtain⟨bm,N,nm,qn,bs,hdct,sn,sub,ab,col,dd,k0,k1,k2,k3,k5,mN,hC,hN,hni,T⟩:=quv I.ok.mod.kin q
 have st:starEach (e::es) X.env=(false,eval e X.env)::starEach es X.env:=qbe (all2 hp).1
 have pl:(backTo cpos (starEach es X.env)).any (·.1)=false:=qc5 (all2 hp).2
 refine wpAny_Raise_call_subU (C:=C) (nm:=nm) (q:=qn) (N:=N) (bs:=bs) (bm:=bm) (hdct:=hdct) (sn:=sn) (sub:=sub) (ab:=ab) (col:=col) (dd:=dd) (k0:=k0) (k1:=k1) (k2:=k2) (k3:=k3) (k5:=k5)
  PySem.F.excBase_ValueError (by decide) PySem.F.excBase_ValueError (mN:=mN) (T.hasType PySem.F.excBase_ValueError.hasBase) (I.ok.hd hc) (by rw[st];show (false||(backTo cpos (starEach es X.env)).any (·.1))=false;rw[pl];rfl) hni (qgf I hg hm ⟨rfl,?_⟩ hdb)
 have run:=ha.u cpos pins s σ H _ I h
 rw[st] at run ⊢
 refine Calls.evalArgs_plain (thn run λus s1 ⟨vs,H1,I1,r,hl,qx⟩=>⟨rfl,by rw[←r.length];exact hl,I1.bk _ _ hC,hN.keeps I1.bk,T.keeps I1.bk,λh' a made=>?_⟩)
 obtain⟨tt,h1,h2,h3⟩:=made.there
 have I2:=I1.grown made.keeps
 have na:H1 a=none:=by
  cases z:H1 a with
 |none=>rfl
 |some u =>
   obtain⟨ob,eo⟩:=(I1.hok a u z).here
   rw[made.new] at eo
   cases eo
 exact o pins σ H1 _ a C I2 ⟨[],λb hb=>by
  have e:b=a:=by simpa using hb
  subst e
  exact I1.fpN hx made.new na,⟨_,_,h1,⟨rfl,rfl⟩,rfl,rfl⟩⟩ qx
end
abbrev Cx.tryB(X:Cx)(pn:List (Addr×Obj))(E:Value->Shared->Prop):Cx:={ X with pn:=pn,xe:=E }
abbrev Cx.hand(X:Cx)(e:Value)(pn:List (Addr×Obj))(E:Value->Shared->Prop):Cx:={ X with A:=X.A.mark (some e),calm:=false,pn:=pn,xe:=E }
section
variable {X:Cx} {pins pins':List (Addr×Obj)} {σ:St} {H:Hp} {s:Shared} {E:Value->Shared->Prop} {e:Value}
theorem Inv.tryB(I:Inv X pins σ H s):Inv (X.tryB (X.pn++pins) E) [] σ H s :=
 ⟨⟨I.ok.mod,I.ok.kind,I.ok.glob,I.ok.blt,I.ok.above,I.ok.inj,I.ok.has,I.ok.cab,I.ok.hd,I.ok.frames,I.ok.stk,I.ok.exf,I.ok.bs,I.ok.bsz,I.ok.noex,I.ok.exfs,I.ok.funs,I.ok.frf⟩,I.os,I.bare,I.base,I.loc,I.cell,I.free,I.freeC,
  λp hp=>I.pin p (by simpa using hp),I.hok,I.len⟩
theorem Inv.untryB(I:Inv (X.tryB (X.pn++pins) E) pins' σ H s):Inv X pins σ H s :=
 ⟨⟨I.ok.mod,I.ok.kind,I.ok.glob,I.ok.blt,I.ok.above,I.ok.inj,I.ok.has,I.ok.cab,I.ok.hd,I.ok.frames,I.ok.stk,I.ok.exf,I.ok.bs,I.ok.bsz,I.ok.noex,I.ok.exfs,I.ok.funs,I.ok.frf⟩,I.os,I.bare,I.base,I.loc,I.cell,I.free,I.freeC,
  λp hp=>I.pin p (List.mem_append.mpr (.inl hp)),I.hok,I.len⟩
theorem Inv.hand(I:Inv X pins σ H s):Inv (X.hand e (X.pn++pins) E) [] σ H s :=
 ⟨⟨I.ok.mod,I.ok.kind,I.ok.glob,I.ok.blt,I.ok.above,I.ok.inj,I.ok.has,I.ok.cab,(λz=>nomatch z),I.ok.frames,I.ok.stk,I.ok.exf,I.ok.bs,I.ok.bsz,I.ok.noex,I.ok.exfs,I.ok.funs,I.ok.frf⟩,I.os,I.bare,I.base,I.loc,I.cell,I.free,I.freeC,
  λp hp=>I.pin p (by simpa using hp),I.hok,I.len⟩
theorem Inv.unhand(ok:X.Ok)(I:Inv (X.hand e (X.pn++pins) E) pins' σ H s):Inv X pins σ H s :=
 ⟨ok,I.os,I.bare,I.base,I.loc,I.cell,I.free,I.freeC,λp hp=>I.pin p (List.mem_append.mpr (.inl hp)),I.hok,I.len⟩
theorem SP.untryB{D:Ends}{f:Flow}(h:SP (X.tryB (X.pn++pins) E) pins' D f s):SP X pins D f s:=by
 cases f with
|next=>obtain⟨_,_,I,q⟩:=h;exact⟨_,_,I.untryB,q⟩
|brk=>obtain⟨_,_,I,q⟩:=h;exact⟨_,_,I.untryB,q⟩
|cont=>obtain⟨_,_,I,q⟩:=h;exact⟨_,_,I.untryB,q⟩
|ret u=>obtain⟨_,_,_,I,r,q⟩:=h;exact⟨_,_,_,I.untryB,r,q⟩
theorem SP.unhand{D:Ends}{f:Flow}(ok:X.Ok)(h:SP (X.hand e (X.pn++pins) E) pins' D f s):SP X pins D f s:=by
 cases f with
|next=>obtain⟨_,_,I,q⟩:=h;exact⟨_,_,I.unhand ok,q⟩
|brk=>obtain⟨_,_,I,q⟩:=h;exact⟨_,_,I.unhand ok,q⟩
|cont=>obtain⟨_,_,I,q⟩:=h;exact⟨_,_,I.unhand ok,q⟩
|ret u=>obtain⟨_,_,_,I,r,q⟩:=h;exact⟨_,_,_,I.unhand ok,r,q⟩
end
abbrev TH:=Value->TS
def PH(X:Cx)(hs:List ExceptHandler)(th:TH):Prop :=
 ∀(pins:List (Addr×Obj)) (s:Shared) (σ:St) (H:Hp) (D:Ends) (a C U:Addr),Inv X pins σ H s->FlT s.heap a (.ref C) U .none->FpN X pins H a->FpN X pins H U->th (.ref C) D σ H ->
  wpAny (model X.prog X.w) X.A (handleBy (.ref a) X.env hs) (SP X pins D) X.xe s
structure QH(X:Cx)(hs:List ExceptHandler)(th:TH):Prop where
 u:PH X hs th
def q89:TH:=λ_ _ _ _=>False
def q7m(K:PySem.W.Frag)(c:Value)(t:TS)(th:TH):TH:=λC D σ H=>∃b,PySem.W.exmOne K C c=some b/\if b=true then t D σ H else th C D σ H
def tTry(tb:(St->XK)->TS)(th:TH):TS:=λD σ H=>tb (λσ' C _ H'=>th C D σ' H') D σ H
section
variable {X:Cx} {x:Str} {c:Value} {t:TS} {th:TH} {np pos:Pos} {b0:Stmt} {suite body:List Stmt} {rest:List ExceptHandler}
theorem q6p:QH X [] q89:=⟨λ_ _ _ _ _ _ _ _ _ _ _ _ h=>h.elim⟩
theorem q25(hm:X.mg x=some c)(hg:Gl X x)(hs:∀e pn E,QSs (X.hand e pn E) (b0::suite) t)(hr:QH X rest th)(hdb:(x==("__debug__" : Str))=false:=by decide) :
  QH X (.ExceptHandler (some (.Name x np)) none (b0::suite) pos::rest) (q7m X.K c t th):=by
 refine⟨λpins s σ H D a C U I fl fa fu ⟨b,hx,q⟩=>?_⟩
 obtain⟨oa,ha,hc⟩:=fl.there
 have IH:∀E,Inv (X.hand (.ref a) (X.pn++pins) E) [] σ H s:=λE=>I.hand
 refine wpAny_handleBy_cons (codeAny_handlers_test (qgf (X:=X.hand (.ref a) (X.pn++pins) X.xe) (IH _) hg hm ?_ hdb)) (by intro z;cases z)
 have LT:PySem.W.Looks (model X.prog X.w) s.heap (typeOf (.ref a)) (.ref C):=by
  rw[←hc]
  exact(PySem.W.Looks.ld ha).andThen .now
 refine(PySem.W.exm_one I.kIn LT hx).here ?_
 cases b with
|false =>
  exact hr.u pins s σ H D a C U I fl fa fu q
|true =>
  refine codeAny_handlers_suite (qfi fl λg nk fl2 _=>?_)
  have I2:Inv X pins σ H { s with heap:=g }:=I.noted (a:=U) (ts:=[]) (λb hb=>by
   have e:b=U:=by simpa using hb
   rw[e]
   exact fu) ⟨λb o _ h2 e=>nk.keep b o (by simp) h2 e,λb o _ h2 e=>⟨o.slots,nk.keep b o (by simp) h2 e⟩,nk.there⟩
  refine thn ((hs (.ref a) (X.pn++pins) _).u [] _ σ H D I2.hand q) λf s2 z=>?_
  exact z.unhand I.ok
theorem q6s{tb:(St->XK)->TS}{h0:ExceptHandler}(hb:∀pn E EX,PassesOwn (model X.prog X.w) X.A X.env E->Out (X.tryB pn E) EX->QSs (X.tryB pn E) body (tb EX))(hh:QH X (h0::rest) th)(hst:X.stack=X.env::X.outer:=by rfl)(hfr:X.env.frame=some X.env.locals:=by rfl)(hx:X.ex=[]:=by rfl) :
  QS X (.Try body (h0::rest) [] [] pos) (tTry tb th):=by
 refine⟨λpins s σ H D I h=>wpAny_Try_except ?_⟩
 refine wpAny_mono ((hb (X.pn++pins) _ _ PassesOwn.looking ?_).u [] s σ H D I.tryB h) (λf s2 z=>?_) λ_ _ z=>z
 ·intro pins1 σ1 H1 s1 a C I1 ⟨ts,fa,r⟩ q
  have I2:Inv X pins σ1 H1 s1:=I1.untryB
  have fa2:∀b∈a::ts,FpN X pins H1 b:=λb hb=>⟨(fa b hb).1,(fa b hb).2.1,(fa b hb).2.2.1,(fa b hb).2.2.2.1,(fa b hb).2.2.2.2.1,λp hp=>(fa b hb).2.2.2.2.2 p (List.mem_append.mpr (.inl hp))⟩
  refine qlx (L:=X.env.locals) (by rw[←hst];exact I2.ok.frames) (by rw[←hst];exact I2.stack) hfr r λg U nk sz fl=>?_
  rw[←hst] at nk
  have I3:=I2.noted fa2 nk
  refine hh.u pins _ σ1 H1 D a C U I3 fl (fa2 a List.mem_cons_self) ?_ q
  exact I2.fpN hx (Heap.get?_none_of_le sz) (I2.hok.fresh sz)
 ·cases f with
 |next=>exact wpAny_execs_nil z.untryB
 |brk=>exact z.untryB
 |cont=>exact z.untryB
 |ret u=>exact z.untryB
end
def wipe(σ:St):St:=List.replicate σ.length none
def Ends.wiped(D:Ends):Ends:={ nx:=λσ H=>D.nx (wipe σ) H,rt:=D.rt,bk:=λσ H=>D.bk (wipe σ) H,ct:=λσ H=>D.ct (wipe σ) H }
theorem qwy{σ:St}{j:Nat}{v:V}(e:(wipe σ)[j]?=some (some v)):False:=by
 unfold wipe at e
 obtain⟨h,e⟩:=List.getElem?_eq_some_iff.mp e
 rw[List.getElem_replicate] at e
 cases e
def excO(a C:Addr):HO:=.ext λh=>∃o,h.get? a=some o/\(o.cls=.ref C/\o.dict=none)/\PySem.W.notCls o=true
section
variable {X:Cx} {pins:List (Addr×Obj)} {σ:St} {H:Hp} {s:Shared} {a C:Addr}
theorem name_goes{M:Model}{A:Around}{E:Value->Shared->Prop}{n:Str}{pos:Pos}{Q:Unit->Shared->Prop}(I:Inv X pins σ H s)(hk:X.env.scope.names.lookup n=some .local)(h:∀s',Inv X pins (wipe σ) H s'->Q () s') :
  wpAny M A (do bindName X.env n .none;unbindBehindTheSuite X.env n pos) Q E s:=by
 obtain⟨m,hn,_⟩:=id I.loc
 obtain⟨oL,_,_,hoL,_⟩:=id hn
 refine wpAny_nameGoes hk hn (by rw[I.ok.kind];rfl) λh' m' hn' same=>h _ ?_
 have low:∀(b:Addr) (o:Obj),X.s₀.heap.get? b=some o->h'.get? b=s.heap.get? b:=λb o e=>same.2 b (Nat.ne_of_lt (Nat.lt_of_lt_of_le (Heap.lt_size e) I.ok.above))
 have hok:HOk X.prog X.w H h':=λb ob e=>by
  refine(I.hok b ob e).stay (λc u hc q=>(same.2 c λz=>?_).trans q) (λ_ q=>q) λ_ _ q=>q
  rw[z] at hc
  rcases hc with hc|hc
  ·rw[←hc,I.free] at e
   cases e
  ·rw[I.free] at hc
   cases hc
 refine⟨I.ok,I.os,I.bare,⟨λb o e n h1 h2=>(low b o e).trans (I.base.keep b o e n h1 h2),λb o e n h1 h2=>?_,I.base.free,λb o e h2=>?_,I.base.tups,I.base.frzs,I.base.tbls⟩,⟨m',hn',λj y v e1 e2 _=>(qwy e2).elim⟩,
  λx c e=>?_,I.free,I.freeC,λp hp=>?_,hok,?_⟩
 ·obtain⟨sl,z⟩:=I.base.slot b o e n h1 h2
  exact⟨sl,(low b o e).trans z⟩
 ·obtain⟨o',z⟩:=I.base.there b o e h2
  exact⟨o',(low b o e).trans z⟩
 ·obtain⟨v,z⟩:=I.cell x c e
  exact⟨v,z.sameBut same (I.cne x c e)⟩
 ·obtain⟨e,n,ne,nf,d⟩:=I.pin p hp
  exact⟨(same.2 p.1 ne).trans e,n,ne,nf,d⟩
 ·show (List.replicate σ.length none).length=_
  rw[List.length_replicate]
  exact I.len
theorem Inv.exc{o:Obj}(I:Inv X pins σ H s)(fa:FpN X pins H a)(e:s.heap.get? a=some o)(hc:o.cls=.ref C/\o.dict=none)(hd:PySem.W.notCls o=true):Inv X pins σ (upd H a (excO a C)) s:=by
 have fl:∀b∈[a],FpN X pins H b:=λb hb=>by
  have z:b=a:=by simpa using hb
  rw[z]
  exact fa
 have other:∀ {b:Addr} {u:HO},H b=some u->b≠a:=λ{b u} q z=>by rw[z,fa.1] at q;cases q
 have hok:HOk X.prog X.w (upd H a (excO a C)) s.heap:=λb u q=>by
  by_cases hb:b=a
  ·subst hb
   rw[qa6] at q
   cases q
   exact⟨⟨o,e,hc,hd⟩,⟨o,e⟩,λh1 h2 ⟨o1,y1,y2⟩ k=>⟨o1,k o1 y1,y2⟩⟩
  ·rw[qau hb] at q
   exact(I.hok b u q).stay (λ_ _ _ z=>z) (λc z=>by rw[qau (other z)];exact z) λc xs z=>by rw[qau (other z)];exact z
 refine Inv.exLess I.ok (λb hb=>(fl b hb).2.2.2.1) ((I.exMore fl).call (g':=s.gens) (t':=s.toks) (d':=s.drawn) (h':=s.heap) (ch:=[a]) ⟨λb o e _ _ _=>e,λb o e _ _ _=>⟨o.slots,e⟩,λb o _ n hx=>?_,λb o e _=>⟨o,e⟩,λb xs q=>?_,λb ob xs q=>?_,λb ps q=>⟨#[],?_⟩⟩ hok I.bare
  λb hb=>⟨.inl (List.mem_append.mpr (.inl hb)),(fl b hb).2.1,(fl b hb).2.2.2.2.1,(fl b hb).2.2.2.2.2⟩)
 ·rw[qau (λz=>hx (by simp[z]))]
  exact n
 ·rw[qau (other q)]
  exact q
 ·rw[qau (other q)]
  exact q
 ·rw[qau (other q),q]
  simp
end
def thAs(K:PySem.W.Frag)(c:Value)(i:Nat)(t:TS)(th:TH):TH:=λC D σ H=>∃b,PySem.W.exmOne K C c=some b /\
 if b=true then ∀(a Ca:Addr),C=.ref Ca->H a=none->t D.wiped (σ.set i (some (.ref a))) (upd H a (excO a Ca)) else th C D σ H
theorem SP.wiped{X:Cx}{pins:List (Addr×Obj)}{D:Ends}{f:Flow}{s:Shared}{M:Model}{A:Around}{E:Value->Shared->Prop}{n:Str}{pos:Pos}(hk:X.env.scope.names.lookup n=some .local)(h:SP X pins D.wiped f s) :
  wpAny M A (do bindName X.env n .none;unbindBehindTheSuite X.env n pos) (λ_ s'=>SP X pins D f s') E s:=by
 cases f with
|next=>obtain⟨_,_,I,q⟩:=h;exact name_goes I hk λs' I'=>⟨_,_,I',q⟩
|brk=>obtain⟨_,_,I,q⟩:=h;exact name_goes I hk λs' I'=>⟨_,_,I',q⟩
|cont=>obtain⟨_,_,I,q⟩:=h;exact name_goes I hk λs' I'=>⟨_,_,I',q⟩
|ret u=>obtain⟨_,_,_,I,r,q⟩:=h;exact name_goes I hk λs' I'=>⟨_,_,_,I',r,q⟩
section
variable {X:Cx} {x n:Str} {i:Nat} {c:Value} {t:TS} {th:TH} {np pos:Pos} {b0:Stmt} {suite body:List Stmt} {rest:List ExceptHandler}
theorem q8z(hN:X.N.Nodup)(hi:X.N[i]?=some n)(hl:X.env.scope.names.lookup n=some .local)(hm:X.mg x=some c)(hg:Gl X x)(hs:∀e pn E,QSs (X.hand e pn E) (b0::suite) t)(hr:QH X rest th)(hdb:(x==("__debug__" : Str))=false:=by decide) :
  QH X (.ExceptHandler (some (.Name x np)) (some n) (b0::suite) pos::rest) (thAs X.K c i t th):=by
 refine⟨λpins s σ H D a C U I fl fa fu ⟨b,hx,q⟩=>?_⟩
 obtain⟨oa,ha,hc⟩:=fl.there
 have IH:∀E,Inv (X.hand (.ref a) (X.pn++pins) E) [] σ H s:=λE=>I.hand
 refine wpAny_handleBy_cons (codeAny_handlers_test (qgf (X:=X.hand (.ref a) (X.pn++pins) X.xe) (IH _) hg hm ?_ hdb)) (by intro z;cases z)
 have LT:PySem.W.Looks (model X.prog X.w) s.heap (typeOf (.ref a)) (.ref C):=by
  rw[←hc]
  exact(PySem.W.Looks.ld ha).andThen .now
 refine(PySem.W.exm_one I.kIn LT hx).here ?_
 cases b with
|false =>
  exact hr.u pins s σ H D a C U I fl fa fu q
|true =>
  refine codeAny_handlers_suite_as (qfi fl λg nk fl2 _=>?_)
  have I2:Inv X pins σ H { s with heap:=g }:=I.noted (a:=U) (ts:=[]) (λb hb=>by
   have e:b=U:=by simpa using hb
   rw[e]
   exact fu) ⟨λb o _ h2 e=>nk.keep b o (by simp) h2 e,λb o _ h2 e=>⟨o.slots,nk.keep b o (by simp) h2 e⟩,nk.there⟩
  obtain⟨ob,hb,hcb,hnb⟩:=fl2.thing
  have I3:=I2.exc fa hb hcb hnb
  refine qkz I3 hN hi (.inl hl) (v:=.ref a) rfl (λs3 I4=>?_) (.inr hl)
  refine thn ((hs (.ref a) (X.pn++pins) _).u [] _ _ _ D.wiped I4.hand (q a C rfl fa.1)) λf s2 z=>?_
  exact SP.wiped hl (z.unhand I.ok)
end
open PySem.W
structure ExcK(K:Frag)(C:Addr):Prop where
 ga:findIn K (.ref C) "__getattribute__" = some (some (.builtin "BaseException.__getattribute__"))
 gn:findIn K (.ref C) "__getattr__" = some none
 gc:findIn K (.ref C) "__class__" = some (some (.builtin "object.__class__"))
 mo:mroIn K C (.type "object")=some true
 mb:mroIn K C (.type "BaseException")=some true
 hd:hasDictIn K C=true
section
variable {prog:Program} {w:World} {A:Around} {E:Value->Shared->Prop} {h:Heap} {g:Array GenState} {d:Drawn} {t:Nat} {os:OsState} {K:Frag} {a C:Addr} {o:Obj}
theorem qty{M:Model}{nv:Value}{Q:Unit->Shared->Prop}(X:K.In h)(k:ExcK K C)(hx:h.get? a=some o)(hc:o.cls=.ref C)(q:Q () ⟨h,g,d,t,os⟩) :
  wpAny M A (checkBuiltinCall "BaseException.__getattribute__" ⟨[.ref a,nv],[]⟩) Q E ⟨h,g,d,t,os⟩:=by
 have k1:builtinKind "BaseException.__getattribute__" = some .slot:=by decide +kernel
 have k2:splitId "BaseException.__getattribute__" = some ("BaseException","__getattribute__"):=by decide +kernel
 have k3:=F.args_bexc_ga (.ref a) nv
 have LM:=looks_mroIn (M:=M) X k.mb
 simp only[checkBuiltinCall,k1,k2]
 refine wpAny_bind ?_
 unfold isInstance
 repeat (first|(with_reducible refine wpAny_loadPart_at hx ?_;rw[hc])|with_reducible refine LM.at ?_|wp_step)
 exact q
theorem qt0{tk:Tok}{Q:Fin->Shared->Prop}(X:K.In h)(k:ExcK K C)(hx:h.get? a=some o)(hc:o.cls=.ref C)(hn:notCls o=true)(hd:o.dict=none)(q:Q (.done (.ret (.ref C))) ⟨h,g,d,t,os⟩) :
  wpAny (model prog w) A (Builtin.«object.__getattribute__» ⟨[.ref a,.str "__class__" tk],[]⟩) Q E ⟨h,g,d,t,os⟩:=by
 have hT5:(⟨h,g,d,t,os⟩:Shared).TypeIs (.builtin "object.__class__") "getset_descriptor" := F.typeOf_object_class
 have f5:=F.typeOf_object_class
 have f6:=F.slot_gs_get.lookup
 have f7:=F.slot_gs_set.lookup
 have L1:=looks_findIn (M:=model prog w) X k.gc
 repeat (any_goals (first|assumption|(with_reducible refine wpAny_loadPart_at hx ?_;rw[hc])|with_reducible refine L1.at ?_|wp_step))
 refine class_get (s:=⟨h,g,d,t,os⟩) (ox:=o) (od:=none) X ⟨hx,hc,hn,by rw[hd];trivial⟩ k.mo ?_
 repeat (any_goals (first|assumption|wp_step))
theorem q40{tk:Tok}{Q:Value->Shared->Prop}(X:K.In h)(k:ExcK K C)(hx:h.get? a=some o)(hc:o.cls=.ref C)(hn:notCls o=true)(hd:o.dict=none)(q:Q (.ref C) ⟨h,g,d,t,os⟩) :
  wpAny (model prog w) A (getAttrBy (.ref a) (.str "__class__" tk) false) Q E ⟨h,g,d,t,os⟩:=by
 have L1:=looks_findIn (M:=model prog w) X k.ga
 have L2:=looks_findIn (M:=model prog w) X k.gn
 have f3:=F.attrBase_ValueError.ga.bind (.ref a)
 have e2:(Value.builtin "BaseException.__getattribute__"==Value.builtin "object.__getattribute__")=false:=by decide +kernel
 have e1:(onTheHeap (Value.ref C)&&Value.builtin "BaseException.__getattribute__"==Value.builtin "object.__getattribute__")=false:=by rw[e2];rfl
 repeat (any_goals (first|assumption|(with_reducible refine wpAny_loadPart_at hx ?_;rw[hc])|with_reducible refine L1.at ?_|with_reducible refine L2.at ?_|wp_step))
 refine codeAny_call_builtin F.attrBase_ValueError.ga.plain F.entry_bexc_ga (qty X k hx hc (qt0 X k hx hc hn hd ?_))
 repeat (any_goals (first|assumption|wp_step))
theorem qtz{Q:Option Value->Shared->Prop}(X:K.In h)(k:ExcK K C)(hx:h.get? a=some o)(hc:o.cls=.ref C)(hn:notCls o=true)(hd:o.dict=none)(q:Q (some (.ref C)) ⟨h,g,d,t+1,os⟩) :
  wpAny (model prog w) A (getAttr? (.ref a) "__class__") Q E ⟨h,g,d,t,os⟩:=by
 unfold getAttr? getAttrBy?
 repeat (any_goals (first|assumption|with_reducible apply q40 X k hx hc hn hd|wp_step))
end
theorem qzx{K:Frag}{C:Addr}(k:hasDictIn K C=true):∃c d cd sl,K.lookup C=some ⟨c,d,.cls cd,sl⟩:=by
 obtain⟨cd,e,_⟩:=any_some k
 unfold clsIn at e
 split at e
 ·rename_i look
  exact⟨_,_,_,_,look⟩
 ·cases e
theorem qxm{K:Frag}{a C:Addr}(k:ExcK K C):KitX K (.ref a) (.ref C) (λh=>∃o,h.get? a=some o/\(o.cls=.ref C/\o.dict=none)/\notCls o=true) where
 ty:=λM h _ ⟨o,e,c,_⟩=>c.1▸(Looks.ld e).andThen .now
 it:=λM h X _=>by
  obtain⟨c,d,cd,sl,look⟩:=qzx k.hd
  intro A Q E s kk q
  unfold isType loadHead
  exact wpAny_bind (wpAny_loadPart (kk _ _ (X _ _ look)) (wpAny_pure q))
 ne:=λh tp dd its n sl X e=>by
  obtain⟨c,d,cd,sl',look⟩:=qzx k.hd
  refine Bool.eq_false_iff.mpr λq=>?_
  have z:C=tp:=Value.ref.inj (beq_iff_eq.mp q)
  subst z
  have y:=(X _ _ look).symm.trans e
  cases y
 ca:=λ{prog w A E Q s} X ⟨o,e,c,n⟩ q=>by
  obtain⟨h,g,d,t,os⟩:=s
  exact qtz X k e c.1 n c.2 q
section
variable {X:Cx}
theorem qgu:CallR X (.builtin "isinstance") (λxs H Q=>∃a C x c b,xs=[.ref a,x]/\H a=some (excO a C)/\ExcK X.K C/\(∀u,RelV x u->u=c)/\kitOne X.K (.ref C) c=some b/\Q (.bl b) H):=by
 intro pins s σ H xs us Q I r h
 obtain⟨a,C,x,c,b,rfl,ea,k,hc,e,q⟩:=h
 obtain⟨u,v,rfl,ru,rv⟩:=vals2 r
 cases (show u=Value.ref a from ru)
 cases hc v rv
 obtain⟨p,_,_⟩:=(show ObjOk X.prog X.w H s.heap a (excO a C) from I.hok a _ ea)
 exact kia_one (qxm k) I.kIn p e (λz=>nomatch z) λtk=>⟨.bl b,H,I.tok tk,rfl,q⟩
end
structure RoomH(k:Nat)(A:Around):Prop where
 dp:A.depth+3*k+5<recursionLimit
 un:A.units+16*k+200<cLine
structure FnOkH(P:Program)(w:World)(K:Frag)(mg:Str->Option Value)(base:Heap)(CX:CXT)(k:Nat)(f:Addr)(fd:FuncData)(ps:List Str)(sp:Sp):Prop where
 len:∀vs H Q E,sp vs H Q E->vs.length=ps.length
 run:∀(A:Around) (outer:List Env) (s:Shared) (H:Hp) (args:Args) (us:List Value) (vs:List V) (Q:VK) (E:XK),RoomH k A->Env0 P w K mg base A outer s H->BindsTo s fd args (ps.zip us)->Vals vs us->sp vs H Q E ->
  codeAny (model P w) A (.call (.ref f) args) (CR CX outer P w H s Q E) s
section
variable {P:Program} {w:World} {K:Frag} {mg:Str->Option Value} {base:Heap} {CX:CXT} {k:Nat} {f:Addr}
end
inductive CalH(P:Program)(w:World)(K:Frag)(mg:Str->Option Value)(base:Heap)(k:Nat)(x:Str)(ps:List Str)(sp:Sp):Prop where
|mk {f:Addr} {fd:FuncData} (F:FnOkH P w K mg base CX0 k f fd ps sp) (hm:mg x=some (.ref f)) (hk:keepIn K (.ref f)=true) (hb:Binds K fd ps [])
section
variable {X:Cx} {k:Nat} {ps:List Str} {sp:Sp} {x:Str} {p pos:Pos} {e:Expr} {es:List Expr} {t:TA}
end
end L2
namespace L2
open PySem PySem.Spec PyProof.Rows
section
variable {X:Cx} {o i e f value a b:Expr} {pos pos' tpos apos cpos:Pos} {td ty tv tx:TE}
theorem q21(hu:X.A.units+1<cLine)(ho:QE X o td)(hi:QE X i ty)(hs:NoSl i:=by exact λ_ _=>rfl):QE X (.Subscript o i pos) (q7e td ty):=⟨q2i hu ho.u hi.u hs⟩
theorem q6t(hu:X.A.units+1<cLine)(hi:QE X i ty)(ho:QE X o td)(hm:behindInMarks .In o=false:=by with_unfolding_all rfl):QT X (.Compare i [.In] [o] pos) (tB (tDIn ty td)):=⟨q0b (q5v hu hi.u ho.u) hm⟩
theorem qvd(hu:X.A.units+1<cLine)(hi:QE X i ty)(ho:QE X o td)(hm:behindInMarks .NotIn o=false:=by with_unfolding_all rfl):QT X (.Compare i [.NotIn] [o] pos) (tB (qvw ty td)):=⟨q0b (quy hu hi.u ho.u) hm⟩
theorem qva(hu:X.A.units+1<cLine)(ho:QE X o td)(hi:QE X i ty)(hv:QE X value tv)(hs:swapsWith value (some (.Subscript o i pos')) pos.line X.env=pure false:=by rfl) :
  QS X (.Assign [.Subscript o i pos'] value pos) (q7a td ty tv):=⟨q2r hu ho.u hi.u hv.u hs⟩
theorem qyr:QE X (.Dict [] [] pos) q0j:=⟨qyf⟩
theorem qyp(hu:X.A.units+1<cLine)(ho:QE X o td)(he:QE X e ty)(m:M1 X o "get" apos e cpos):QE X (.Call (.Attribute o "get" apos) [e] [] cpos) (q0i td ty):=⟨qyd hu ho.u he.u m⟩
end
end L2
namespace L2
open PySem PySem.Spec PyProof.Rows
inductive D where
|non
|bl (b:Bool)
|int (i:Int)
|str (x:Str)
|tup (xs:List D)
|lst (xs:List D)
|dT (ks:List (List Str)) (ds:List D)
|dK (ks:List Str) (ds:List D)
|scr (ns:List Int)
|kt (ss:List Str)
|exc (n:Str)
|io (c:Addr) (ds:List D)
|ioT (c:Addr) (ks:List (List Str)) (ds:List D)
def clsOf(K:PySem.W.Frag)(n:Str)(C:Addr):Prop:=PySem.W.nsIn K mainGlobals n=some (some (.ref C))
def wK(ws:List Str):List Key:=ws.map Sum.inr
def TupAt(K:PySem.W.Frag)(H:Hp)(a:Addr)(ds:List D)(xs:List V):Prop:=H a=some (.tup xs)\/(SqT K (λ_=>none) a xs/\D.str "" ∈ ds)
mutual
def Rep(K:PySem.W.Frag)(H:Hp):D->V->Prop
|.non,v=>v=.non
|.bl b,v=>v=.bl b
|.int i,v=>v=.int i
|.str x,v=>v=.str x
|.tup ds,v=>∃a xs,v=.ref a/\TupAt K H a ds xs/\Reps K H ds xs
|.lst ds,v=>∃a xs,v=.ref a/\H a=some (.lst xs)/\Reps K H ds xs
|.dT ks ds,v=>∃a kvs,v=.ref a/\Rd H a (.dT kvs)/\kvs.map (·.1)=ks.map wK/\Reps K H ds (kvs.map (·.2))
|.dK ks ds,v=>∃a kvs,v=.ref a/\H a=some (.dK kvs)/\kvs.map (·.1)=ks.map Sum.inr/\Reps K H ds (kvs.map (·.2))
|.scr ns,v=>∃a,v=.ref a/\SqL K H a (ns.map V.int)
|.kt ss,v=>∃a,v=.ref a/\SqT K (λ_=>none) a (ss.map V.str)
|.exc n,v=>∃a C,v=.ref a/\H a=some (excO a C)/\clsOf K n C
|.io c ds,v=>∃xs,v=.ref c/\H c=some (.lst xs)/\Reps K H ds xs
|.ioT c ks ds,v=>∃kvs,v=.ref c/\H c=some (.dT kvs)/\kvs.map (·.1)=ks.map wK/\Reps K H ds (kvs.map (·.2))
def Reps(K:PySem.W.Frag)(H:Hp):List D->List V->Prop
|[],xs=>xs=[]
|d::ds,xs=>∃x r,xs=x::r/\Rep K H d x/\Reps K H ds r
end
noncomputable def eqD(d e:D):Bool:=@decide (d=e) (Classical.propDecidable _)
noncomputable def eqDs(d e:List D):Bool:=@decide (d=e) (Classical.propDecidable _)
theorem eqD_iff{d e:D}:eqD d e=true↔d=e:=@decide_eq_true_iff _ (Classical.propDecidable _)
theorem eqDs_iff{d e:List D}:eqDs d e=true↔d=e:=@decide_eq_true_iff _ (Classical.propDecidable _)
theorem qtp{d e:D}(h:eqD d e=true):d=e:=eqD_iff.mp h
theorem q09{d e:List D}(h:eqDs d e=true):d=e:=eqDs_iff.mp h
theorem qdb(d:D):eqD d d=true:=eqD_iff.mpr rfl
theorem qts(d:List D):eqDs d d=true:=eqDs_iff.mpr rfl
theorem qce{a b:Bool}(h:a=true↔b=true):a=b:=by cases a<;>cases b<;>simp_all
theorem qtr(ds es:List D):eqD (.tup ds) (.tup es)=eqDs ds es:=qce (by rw[eqD_iff,eqDs_iff];exact⟨λh=>D.tup.inj h,λh=>h▸rfl⟩)
theorem qtq(ds es:List D):eqD (.lst ds) (.lst es)=eqDs ds es:=qce (by rw[eqD_iff,eqDs_iff];exact⟨λh=>D.lst.inj h,λh=>h▸rfl⟩)
def dV:D->Option V
|.non=>some .non
|.bl b=>some (.bl b)
|.int i=>some (.int i)
|.str x=>some (.str x)
|_=>none
theorem q4v{d e:D}{v:V}(h:dV d=some v)(h':dV e=some v):d=e:=by
 cases d<;>cases e<;>simp_all [dV]<;>(subst h;simp_all)
theorem qj8{d e:D}{v z:V}(h:dV d=some v)(h':dV e=some z):eqD d e=decide (v=z):=qce (by
 rw[eqD_iff,decide_eq_true_iff]
 exact⟨λq=>by subst q;exact Option.some.inj (h.symm.trans h'),λq=>by subst q;exact q4v h h'⟩)
mutual
def cmpD:D->D->Bool
|.tup a,.tup b=>qc0 a b
|.lst a,.lst b=>qc0 a b
|.non,.non=>true|.non,.int _=>true|.int _,.non=>true|.non,.bl _=>true|.bl _,.non=>true|.non,.str _=>true|.str _,.non=>true
|.int _,.int _=>true|.bl _,.bl _=>true|.str _,.str _=>true|.int _,.str _=>true|.str _,.int _=>true|.bl _,.str _=>true|.str _,.bl _=>true
|_,_=>false
def qc0:List D->List D->Bool
|x::xs,y::ys=>cmpD x y&&qc0 xs ys
|_,_=>true
end
mutual
def depD:D->Nat
|.tup a=>qcu a+1
|.lst a=>qcu a+1
|_=>0
def qcu:List D->Nat
|[]=>0
|x::xs=>max (depD x) (qcu xs)
end
theorem Same.emp(H:Hp):Same (λ_=>none) H:=λ_ _ h=>by cases h
theorem Same.sqT{K:PySem.W.Frag}{H H':Hp}(sm:Same H H'){a:Addr}{xs:List V}(h:SqT K H a xs):SqT K H' a xs:=by
 rcases h with (h|⟨o,h⟩)|h
 ·exact .inl (.inl (sm _ _ h))
 ·exact .inl (.inr ⟨o,sm _ _ h⟩)
 ·exact .inr h
theorem TupAt.sq{K:PySem.W.Frag}{H:Hp}{a:Addr}{ds:List D}{xs:List V}(h:TupAt K H a ds xs):SqT K H a xs:=h.elim SqT.of λq=>(Same.emp H).sqT q.1
theorem TupAt.same{K:PySem.W.Frag}{H H':Hp}{a:Addr}{ds:List D}{xs:List V}(h:TupAt K H a ds xs)(sm:Same H H'):TupAt K H' a ds xs:=h.elim (λq=>.inl (sm _ _ q)) .inr
section
variable {X:Cx} {pins:List (Addr×Obj)} {σ:St} {H:Hp} {s:Shared}
mutual
theorem Rep.inj(I:Inv X pins σ H s):∀ {d e:D} {v:V},Rep X.K H d v->Rep X.K H e v->cmpD d e=true->d=e
|.non,e,v,h,h',hc=>by
  unfold Rep at h
  subst h
  cases e<;>unfold Rep at h'<;>first|rfl|(obtain⟨_,_,z,_⟩:=h';cases z;done)|(obtain⟨_,z,_⟩:=h';cases z;done)|(cases h';done)
|.bl i,e,v,h,h',hc=>by
  unfold Rep at h
  subst h
  cases e<;>unfold Rep at h'<;>first|rfl|(obtain⟨_,_,z,_⟩:=h';cases z;done)|(obtain⟨_,z,_⟩:=h';cases z;done)|(cases h';rfl)|(cases h';done)
|.int i,e,v,h,h',hc=>by
  unfold Rep at h
  subst h
  cases e<;>unfold Rep at h'<;>first|rfl|(obtain⟨_,_,z,_⟩:=h';cases z;done)|(obtain⟨_,z,_⟩:=h';cases z;done)|(cases h';rfl)|(cases h';done)
|.str i,e,v,h,h',hc=>by
  unfold Rep at h
  subst h
  cases e<;>unfold Rep at h'<;>first|rfl|(obtain⟨_,_,z,_⟩:=h';cases z;done)|(obtain⟨_,z,_⟩:=h';cases z;done)|(cases h';rfl)|(cases h';done)
|.tup ds,e,v,h,h',hc=>by
  cases e with
 |tup es =>
   unfold Rep at h h'
   obtain⟨a,xs,rfl,ha,hr⟩:=h
   obtain⟨b,ys,z,hb,hs⟩:=h'
   cases z
   cases I.tuple_inj ha.sq hb.sq
   unfold cmpD at hc
   rw[Reps.inj I hr hs hc]
 |_=>unfold cmpD at hc;cases hc
|.lst ds,e,v,h,h',hc=>by
  cases e with
 |lst es =>
   unfold Rep at h h'
   obtain⟨a,xs,rfl,ha,hr⟩:=h
   obtain⟨b,ys,z,hb,hs⟩:=h'
   cases z
   rw[ha] at hb
   cases hb
   unfold cmpD at hc
   rw[Reps.inj I hr hs hc]
 |_=>unfold cmpD at hc;cases hc
|.dT _ _,e,_,_,_,h=>by cases e<;>(unfold cmpD at h;cases h)
|.dK _ _,e,_,_,_,h=>by cases e<;>(unfold cmpD at h;cases h)
|.scr _,e,_,_,_,h=>by cases e<;>(unfold cmpD at h;cases h)
|.kt _,e,_,_,_,h=>by cases e<;>(unfold cmpD at h;cases h)
|.exc _,e,_,_,_,h=>by cases e<;>(unfold cmpD at h;cases h)
|.io _ _,e,_,_,_,h=>by cases e<;>(unfold cmpD at h;cases h)
|.ioT _ _ _,e,_,_,_,h=>by cases e<;>(unfold cmpD at h;cases h)
theorem Reps.inj(I:Inv X pins σ H s):∀ {ds es:List D} {xs:List V},Reps X.K H ds xs->Reps X.K H es xs->qc0 ds es=true->ds=es
|[],es,xs,h,h',_=>by
  unfold Reps at h
  subst h
  cases es with
 |nil=>rfl
 |cons e es=>unfold Reps at h';obtain⟨_,_,z,_⟩:=h';cases z
|d::ds,es,xs,h,h',hc=>by
  unfold Reps at h
  obtain⟨x,r,rfl,h1,h2⟩:=h
  cases es with
 |nil=>unfold Reps at h';cases h'
 |cons e es =>
   unfold Reps at h'
   obtain⟨x',r',z,h3,h4⟩:=h'
   cases z
   unfold qc0 at hc
   rw[Bool.and_eq_true] at hc
   rw[Rep.inj I h1 h3 hc.1,Reps.inj I h2 h4 hc.2]
end
end
mutual
theorem Rep.same{K:PySem.W.Frag}{H H':Hp}(sm:Same H H'):∀ {d:D} {v:V},Rep K H d v->Rep K H' d v
|.non,_,h=>h
|.bl _,_,h=>h
|.int _,_,h=>h
|.str _,_,h=>h
|.tup _,_,h=>by
  unfold Rep at h ⊢
  obtain⟨a,xs,e,ha,r⟩:=h
  exact⟨a,xs,e,ha.same sm,Reps.same sm r⟩
|.lst _,_,h=>by
  unfold Rep at h ⊢
  obtain⟨a,xs,e,ha,r⟩:=h
  exact⟨a,xs,e,sm _ _ ha,Reps.same sm r⟩
|.dT _ _,_,h=>by
  unfold Rep at h ⊢
  obtain⟨a,xs,e,ha,k,r⟩:=h
  exact⟨a,xs,e,ha.elim (λq=>.inl (sm _ _ q)) λ⟨o,q⟩=>.inr ⟨o,sm _ _ q⟩,k,Reps.same sm r⟩
|.dK _ _,_,h=>by
  unfold Rep at h ⊢
  obtain⟨a,xs,e,ha,k,r⟩:=h
  exact⟨a,xs,e,sm _ _ ha,k,Reps.same sm r⟩
|.scr _,_,h=>by
  unfold Rep at h ⊢
  obtain⟨a,e,ha⟩:=h
  exact⟨a,e,sm.seq ha⟩
|.kt _,_,h=>h
|.exc _,_,h=>by
  unfold Rep at h ⊢
  obtain⟨a,C,e,ha,hc⟩:=h
  exact⟨a,C,e,sm _ _ ha,hc⟩
|.io _ _,_,h=>by
  unfold Rep at h ⊢
  obtain⟨xs,e,ha,r⟩:=h
  exact⟨xs,e,sm _ _ ha,Reps.same sm r⟩
|.ioT _ _ _,_,h=>by
  unfold Rep at h ⊢
  obtain⟨kvs,e,ha,k,r⟩:=h
  exact⟨kvs,e,sm _ _ ha,k,Reps.same sm r⟩
theorem Reps.same{K:PySem.W.Frag}{H H':Hp}(sm:Same H H'):∀ {ds:List D} {xs:List V},Reps K H ds xs->Reps K H' ds xs
|[],_,h=>h
|_::_,_,h=>by
  unfold Reps at h ⊢
  obtain⟨x,r,e,h1,h2⟩:=h
  exact⟨x,r,e,Rep.same sm h1,Reps.same sm h2⟩
end
theorem Reps.length{K:PySem.W.Frag}{H:Hp}:∀ {ds:List D} {xs:List V},Reps K H ds xs->ds.length=xs.length
|[],xs,h=>by unfold Reps at h;rw[h];rfl
|d::ds,xs,h=>by
  unfold Reps at h
  obtain⟨x,r,rfl,h1,h2⟩:=h
  rw[List.length_cons,List.length_cons,Reps.length h2]
theorem Reps.at{K:PySem.W.Frag}{H:Hp}:∀ {ds:List D} {xs:List V} {j:Nat} {d:D},Reps K H ds xs->ds[j]?=some d->∃x,xs[j]?=some x/\Rep K H d x
|[],xs,j,d,h,e=>by simp at e
|d0::ds,xs,0,d,h,e=>by
  unfold Reps at h
  obtain⟨x,r,rfl,h1,h2⟩:=h
  have e':d0=d:=by simpa using e
  subst e'
  exact⟨x,rfl,h1⟩
|d0::ds,xs,j+1,d,h,e=>by
  unfold Reps at h
  obtain⟨x,r,rfl,h1,h2⟩:=h
  obtain⟨y,h3,h4⟩:=Reps.at (j:=j) (d:=d) h2 (by simpa using e)
  exact⟨y,by simpa using h3,h4⟩
theorem qe3:∀(ds es:List D),((List.range (min ds.length es.length)).all (λj=>eqD (ds.getD j .non) (es.getD j .non))&&ds.length==es.length)=eqDs ds es:=by
 intro ds es
 cases h:eqDs ds es with
|true =>
  have e:=q09 h
  subst e
  rw[Bool.and_eq_true]
  refine⟨?_,by simp⟩
  rw[List.all_eq_true]
  intro j _
  exact qdb _
|false =>
  apply Classical.byContradiction
  intro hn
  have ht:=eq_true_of_ne_false hn
  rw[Bool.and_eq_true,List.all_eq_true] at ht
  obtain⟨h1,h2⟩:=ht
  have hl:ds.length=es.length:=by simpa using h2
  have e:ds=es:=by
   apply List.ext_getElem hl
   intro i hi1 hi2
   have:=qtp (h1 i (by rw[List.mem_range];lia))
   simpa [List.getD_eq_getElem?_getD,hi1,hi2] using this
  rw[e,qts] at h
  cases h
theorem qpn:∀ {ds es:List D} {j:Nat} {d e:D},qc0 ds es=true->ds[j]?=some d->es[j]?=some e->cmpD d e=true
|[],_,j,d,e,_,h,_=>by simp at h
|_::_,[],j,d,e,_,_,h=>by simp at h
|d0::ds,e0::es,0,d,e,h,h1,h2=>by
  unfold qc0 at h
  rw[Bool.and_eq_true] at h
  have q1:d0=d:=by simpa using h1
  have q2:e0=e:=by simpa using h2
  subst q1 q2
  exact h.1
|d0::ds,e0::es,j+1,d,e,h,h1,h2=>by
  unfold qc0 at h
  rw[Bool.and_eq_true] at h
  exact qpn (j:=j) h.2 (by simpa using h1) (by simpa using h2)
theorem qpp:∀ {ds:List D} {j:Nat} {d:D},ds[j]?=some d->depD d<=qcu ds
|[],j,d,h=>by simp at h
|d0::ds,0,d,h=>by
  have q:d0=d:=by simpa using h
  subst q
  unfold qcu
  exact Nat.le_max_left _ _
|d0::ds,j+1,d,h=>by
  have:=qpp (j:=j) (d:=d) (ds:=ds) (by simpa using h)
  unfold qcu
  exact Nat.le_trans this (Nat.le_max_right _ _)
section
variable {X:Cx} {pins:List (Addr×Obj)} {σ:St} {H:Hp} {s:Shared}
theorem qe7{d:D}{v:V}(h:Rep X.K H d v){z:V}(e:dV d=some z):v=z:=by
 cases d<;>first|(unfold Rep at h;subst h;exact Option.some.inj e)|(cases e;done)
theorem qo6{d e:D}(h:cmpD d e=true)(h0:∀ds,d≠.tup ds)(h1:∀ds,d≠.lst ds):∃v z,dV d=some v/\dV e=some z/\scal v z=true:=by
 cases d<;>cases e<;>first|exact⟨_,_,rfl,rfl,rfl⟩|exact absurd rfl (h0 _)|exact absurd rfl (h1 _)|(unfold cmpD at h;cases h;done)
theorem qnu{d:D}{v:V}(h:dV d=some v):qg4 v=true:=by
 cases d<;>first|(cases h;rfl)|(cases h;done)
theorem qw8{v z:V}(h:scal v z=true)(hv:qg4 v=true):eqV v z=decide (v=z):=by
 cases v<;>cases z<;>first|(cases h;done)|(cases hv;done)|rfl|(simp[eqV];done)|(unfold eqV;exact qce (by simp))
theorem qh0{A':Around}{ds es:List D}{xs ys:List V}{its its2:List Value}(r1:Reps X.K H ds xs)(r2:Reps X.K H es ys)(v1:Vals xs its)(v2:Vals ys its2)(hc:qc0 ds es=true)
  (ih:∀d∈ds,∀(e:D) (v z:V) (u w:Value),Rep X.K H d v->Rep X.K H e z->RelV v u->RelV z w->cmpD d e=true->SeqAt.EqAt A' s u w (eqD d e)) :
  ∀j (h1:j<its.toArray.size) (h2:j<its2.toArray.size),SeqAt.EqAt A' s its.toArray[j] its2.toArray[j] (eqD (ds.getD j .non) (es.getD j .non)):=λj h1 h2=>by
 have l1:j<ds.length:=by rw[r1.length,v1.length];simpa using h1
 have l2:j<es.length:=by rw[r2.length,v2.length];simpa using h2
 have q1:ds[j]?=some ds[j]:=List.getElem?_eq_getElem l1
 have q2:es[j]?=some es[j]:=List.getElem?_eq_getElem l2
 obtain⟨x,hx,rx⟩:=r1.at q1
 obtain⟨y,hy,ry⟩:=r2.at q2
 obtain⟨ux,hux,rux⟩:=v1.get hx
 obtain⟨uy,huy,ruy⟩:=v2.get hy
 have e1:its.toArray[j]=ux:=by
  have:its[j]?=some its.toArray[j]:=by simp
  rw[hux] at this
  exact(Option.some.inj this).symm
 have e2:its2.toArray[j]=uy:=by
  have:its2[j]?=some its2.toArray[j]:=by simp
  rw[huy] at this
  exact(Option.some.inj this).symm
 have e3:ds.getD j .non=ds[j]:=by simp[List.getD_eq_getElem?_getD,l1]
 have e4:es.getD j .non=es[j]:=by simp[List.getD_eq_getElem?_getD,l2]
 rw[e1,e2,e3,e4]
 exact ih ds[j] (List.getElem_mem l1) es[j] x y ux uy rx ry rux ruy (qpn hc q1 q2)
theorem q0e{A:Around}(I:Inv X pins σ H s){a b:Addr}{ds es:List D}{xs ys:List V}(ha:SqT X.K H a xs)(hb:SqT X.K H b ys)(r1:Reps X.K H ds xs)(r2:Reps X.K H es ys)(hc:qc0 ds es=true)(hu:A.units<cLine)
  (ih:∀d∈ds,∀(e:D) (v z:V) (u w:Value),Rep X.K H d v->Rep X.K H e z->RelV v u->RelV z w->cmpD d e=true->SeqAt.EqAt A.in1 s u w (eqD d e)):SeqAt.RcAt A s (.ref a) (.ref b) (eqD (.tup ds) (.tup es)):=by
 obtain⟨its,v1,p1,_⟩:=I.tuple ha
 obtain⟨its2,v2,p2,_⟩:=I.tuple hb
 have:=SeqAt.RcAt.tuples (A:=A) (s:=s) (e:=λj=>eqD (ds.getD j .non) (es.getD j .non)) (show s.heap.IsTuple a its.toArray from p1) (show s.heap.IsTuple b its2.toArray from p2) hu (qh0 r1 r2 v1 v2 hc ih)
 rw[List.size_toArray,List.size_toArray,←v1.length,←v2.length,←r1.length,←r2.length,qe3] at this
 rw[qtr]
 exact this
theorem q0d{A:Around}(I:Inv X pins σ H s){a b:Addr}{ds es:List D}{xs ys:List V}(ha:H a=some (.lst xs))(hb:H b=some (.lst ys))(r1:Reps X.K H ds xs)(r2:Reps X.K H es ys)(hc:qc0 ds es=true)(hu:A.units<cLine)
  (ih:∀d∈ds,∀(e:D) (v z:V) (u w:Value),Rep X.K H d v->Rep X.K H e z->RelV v u->RelV z w->cmpD d e=true->SeqAt.EqAt A.in1 s u w (eqD d e)):SeqAt.RcAt A s (.ref a) (.ref b) (eqD (.lst ds) (.lst es)):=by
 obtain⟨its,v1,p1,_⟩:=I.list (SqL.of ha)
 obtain⟨its2,v2,p2,_⟩:=I.list (SqL.of hb)
 have er:=qe3 ds es
 rw[qtq]
 by_cases hl:ds.length=es.length
 ·have hz:its.toArray.size=its2.toArray.size:=by rw[List.size_toArray,List.size_toArray,←v1.length,←v2.length,←r1.length,←r2.length,hl]
  have:=SeqAt.RcAt.lists (A:=A) (s:=s) (e:=λj=>eqD (ds.getD j .non) (es.getD j .non)) p1.isList p2.isList hz hu (qh0 r1 r2 v1 v2 hc ih)
  rw[List.size_toArray,←v1.length,←r1.length] at this
  rw[←hl,Nat.min_self] at er
  have e2:(ds.length==ds.length)=true:=by simp
  rw[e2,Bool.and_true] at er
  rw[er] at this
  exact this
 ·have e2:(ds.length==es.length)=false:=by simpa using hl
  rw[e2,Bool.and_false] at er
  rw[←er]
  refine SeqAt.RcAt.lists_lengths p1.isList p2.isList ?_ hu
  rw[List.size_toArray,List.size_toArray,←v1.length,←v2.length,←r1.length,←r2.length]
  simpa using hl
theorem qcw{ds:List D}{d:D}(h:d∈ds):depD d<=qcu ds:=by
 obtain⟨j,hj⟩:=List.mem_iff_getElem?.mp h
 exact qpp hj
theorem qgw(I:Inv X pins σ H s):∀(n:Nat) (A:Around) (d e:D) (v z:V) (u w:Value),sizeOf d<=n->Rep X.K H d v->Rep X.K H e z->RelV v u->RelV z w->cmpD d e=true->A.units+depD d<cLine->SeqAt.EqAt A s u w (eqD d e)
|0,_,d,_,_,_,_,_,hn,_,_,_,_,_,_=>by cases d<;>simp at hn
|n+1,A,d,e,v,z,u,w,hn,hd,he,ru,rw',hc,hu=>by
  have un:A.in1.units=A.units+1:=rfl
  cases d with
 |tup ds =>
   cases e with
  |tup es =>
    have hd':=hd
    have he':=he
    unfold Rep at hd he
    obtain⟨a,xs,rfl,ha,r1⟩:=hd
    obtain⟨b,ys,rfl,hb,r2⟩:=he
    cases ru
    cases rw'
    unfold depD at hu
    by_cases hab:a=b
    ·subst hab
     rw[Rep.inj I hd' he' hc,qdb]
     exact SeqAt.EqAt.same _
    ·unfold cmpD at hc
     refine SeqAt.EqAt.of_refs hab (q0e I ha.sq hb.sq r1 r2 hc (by lia) λd hd e v z u w h1 h2 h3 h4 h5=>qgw I n A.in1 d e v z u w ?_ h1 h2 h3 h4 h5 ?_)
     ·have:=List.sizeOf_lt_of_mem hd
      simp at hn
      lia
     ·have:=qcw hd
      lia
  |_=>unfold cmpD at hc;cases hc
 |lst ds =>
   cases e with
  |lst es =>
    have hd':=hd
    have he':=he
    unfold Rep at hd he
    obtain⟨a,xs,rfl,ha,r1⟩:=hd
    obtain⟨b,ys,rfl,hb,r2⟩:=he
    cases ru
    cases rw'
    unfold depD at hu
    by_cases hab:a=b
    ·subst hab
     rw[Rep.inj I hd' he' hc,qdb]
     exact SeqAt.EqAt.same _
    ·unfold cmpD at hc
     refine SeqAt.EqAt.of_refs hab (q0d I ha hb r1 r2 hc (by lia) λd hd e v z u w h1 h2 h3 h4 h5=>qgw I n A.in1 d e v z u w ?_ h1 h2 h3 h4 h5 ?_)
     ·have:=List.sizeOf_lt_of_mem hd
      simp at hn
      lia
     ·have:=qcw hd
      lia
  |_=>unfold cmpD at hc;cases hc
 |_ =>
   obtain⟨v',z',q1,q2,q3⟩:=qo6 hc (λ_ h=>by cases h) (λ_ h=>by cases h)
   have e1:=qe7 hd q1
   have e2:=qe7 he q2
   subst e1 e2
   rw[qj8 q1 q2,←qw8 q3 (qnu q1)]
   exact qz0 ru rw' (qnu q1) (qnu q2)
def rEqD(K:PySem.W.Frag)(g:Bool->Bool):R2:=λx y H Q=>∃d e,Rep K H d x/\Rep K H e y/\cmpD d e=true/\depD d<=50/\Q (.bl (g (eqD d e))) H
theorem q5m(hu:X.A.units+60<cLine):OpR X (compareOp .Eq) (rEqD X.K id):=by
 intro pins s σ H x y v u Q I rx ry h
 obtain⟨d,e,hd,he,hc,hn,q⟩:=h
 have fin:EP X pins σ Q (.bool (eqD d e)) s:=⟨.bl (eqD d e),H,I,rfl,q⟩
 have un:X.A.in1.units=X.A.units+1:=rfl
 cases d with
|tup ds =>
  cases e with
 |tup es =>
   unfold Rep at hd he
   obtain⟨a,xs,rfl,ha,r1⟩:=hd
   obtain⟨b,ys,rfl,hb,r2⟩:=he
   cases rx
   cases ry
   unfold cmpD at hc
   unfold depD at hn
   exact q0e I ha.sq hb.sq r1 r2 hc (by lia) (λd hd e v z u w h1 h2 h3 h4 h5=>qgw I _ X.A.in1 d e v z u w (Nat.le_refl _) h1 h2 h3 h4 h5 (by have:=qcw hd;lia)) _ _ _ _ fin
 |_=>unfold cmpD at hc;cases hc
|lst ds =>
  cases e with
 |lst es =>
   unfold Rep at hd he
   obtain⟨a,xs,rfl,ha,r1⟩:=hd
   obtain⟨b,ys,rfl,hb,r2⟩:=he
   cases rx
   cases ry
   unfold cmpD at hc
   unfold depD at hn
   exact q0d I ha hb r1 r2 hc (by lia) (λd hd e v z u w h1 h2 h3 h4 h5=>qgw I _ X.A.in1 d e v z u w (Nat.le_refl _) h1 h2 h3 h4 h5 (by have:=qcw hd;lia)) _ _ _ _ fin
 |_=>unfold cmpD at hc;cases hc
|_ =>
  obtain⟨v',z',q1,q2,q3⟩:=qo6 hc (λ_ h=>by cases h) (λ_ h=>by cases h)
  have e1:=qe7 hd q1
  have e2:=qe7 he q2
  subst e1 e2
  have q':Q (.bl (eqD _ _)) H:=q
  rw[qj8 q1 q2] at q'
  exact q8e pins s σ H _ _ v u Q I rx ry ⟨q3,q'⟩
end
end L2
namespace L2
open PySem PySem.Spec PyProof.Rows
inductive R where
|val (d:D)
|own (d:D)
|peek (d:D)
|exc (n:Str)
def R.d:R->D
|.val d=>d
|.own d=>d
|.peek d=>d
|.exc _=>.scr []
abbrev VSt:=List (Option R)
def ioA:D->Option Addr
|.io c _=>some c
|.ioT c _ _=>some c
|_=>none
def OwnAt(K:PySem.W.Frag)(B H:Hp)(d:D)(a:Addr):Prop:=match d with
|.lst ds=>∃xs,H a=some (.lst xs)/\Reps K B ds xs
|.dT ks ds=>∃kvs,H a=some (.dT kvs)/\kvs.map (·.1)=ks.map wK/\Reps K B ds (kvs.map (·.2))
|.dK ks ds=>∃kvs,H a=some (.dK kvs)/\kvs.map (·.1)=ks.map Sum.inr/\Reps K B ds (kvs.map (·.2))
|.io c ds=>∃xs,H a=some (.lst xs)/\a=c/\Reps K B ds xs
|.ioT c ks ds=>∃kvs,H a=some (.dT kvs)/\a=c/\kvs.map (·.1)=ks.map wK/\Reps K B ds (kvs.map (·.2))
|_=>False
def Pk(K:PySem.W.Frag)(B H:Hp)(r:R)(v:V):Prop:=match r with
|.val d=>Rep K B d v
|.own d=>∃a,v=.ref a/\B a=none/\OwnAt K B H d a
|.peek d=>∃a,v=.ref a/\B a=none/\OwnAt K B H d a
|.exc _=>False
def RepR(K:PySem.W.Frag)(B H0 H:Hp)(r:R)(v:V):Prop:=match r with
|.val d=>Rep K B d v
|.own d=>∃a,v=.ref a/\H0 a=none/\B a=none/\OwnAt K B H d a
|.peek d=>∃a,v=.ref a/\B a=none/\OwnAt K B H d a
|.exc _=>False
structure Stp(B H B' H':Hp):Prop where
 b:Same B B'
 h:Same H H'
 s:Same B' H'
 d:∀a,B' a≠none->B a≠none\/H a=none\/∃xs,H a=some (.tup xs)
theorem Stp.refl{B H:Hp}(s:Same B H):Stp B H B H:=⟨Same.refl _,Same.refl _,s,λ_ h=>.inl h⟩
theorem Stp.trans{B H B1 H1 B2 H2:Hp}(p:Stp B H B1 H1)(q:Stp B1 H1 B2 H2):Stp B H B2 H2 :=
 ⟨p.b.trans q.b,p.h.trans q.h,q.s,λa h=>by
  rcases q.d a h with z|z|⟨xs,z⟩
  ·exact p.d a z
  ·exact .inr (.inl (p.h.free z))
  ·cases e:H a with
  |none=>exact .inr (.inl rfl)
  |some o =>
    rw[p.h _ _ e] at z
    exact .inr (.inr ⟨xs,z⟩)⟩
theorem Stp.keep{B H B' H':Hp}(p:Stp B H B' H'){a:Addr}(hb:B a=none)(hh:H a≠none)(nt:∀xs,H a≠some (.tup xs)):B' a=none:=by
 cases e:B' a with
|none=>rfl
|some o =>
  rcases p.d a (by rw[e];exact λz=>by cases z) with z|z|⟨xs,z⟩
  ·exact absurd hb z
  ·exact absurd z hh
  ·exact absurd z (nt xs)
theorem Stp.grow{B H H':Hp}(s:Same B H)(h:Same H H'):Stp B H B H':=⟨Same.refl _,h,s.trans h,λ_ z=>.inl z⟩
theorem Stp.new{B H:Hp}{p:Addr}{o:HO}(s:Same B H)(hp:H p=none):Stp B H (upd B p o) (upd H p o) :=
 ⟨qaw (s.free hp) o,qaw hp o,λb u e=>by
  unfold upd at e ⊢
  by_cases z:b=p
  ·rw[if_pos z] at e ⊢
   exact e
  ·rw[if_neg z] at e ⊢
   exact s _ _ e,λa h=>by
  by_cases z:a=p
  ·exact .inr (.inl (z▸hp))
  ·rw[qau z] at h
   exact .inl h⟩
section
variable {K:PySem.W.Frag} {B H B' H' H0:Hp} {d:D} {a:Addr} {r:R} {v:V}
theorem OwnAt.some(h:OwnAt K B H d a):H a≠none:=by
 unfold OwnAt at h
 split at h
 ·obtain⟨xs,e,_⟩:=h;rw[e];exact λz=>by cases z
 ·obtain⟨xs,e,_⟩:=h;rw[e];exact λz=>by cases z
 ·obtain⟨xs,e,_⟩:=h;rw[e];exact λz=>by cases z
 ·obtain⟨xs,e,_⟩:=h;rw[e];exact λz=>by cases z
 ·obtain⟨xs,e,_⟩:=h;rw[e];exact λz=>by cases z
 ·exact h.elim
theorem OwnAt.nt(h:OwnAt K B H d a):∀xs,H a≠Option.some (.tup xs):=by
 intro ys
 unfold OwnAt at h
 split at h
 ·obtain⟨xs,e,_⟩:=h;rw[e];exact λz=>by cases z
 ·obtain⟨xs,e,_⟩:=h;rw[e];exact λz=>by cases z
 ·obtain⟨xs,e,_⟩:=h;rw[e];exact λz=>by cases z
 ·obtain⟨xs,e,_⟩:=h;rw[e];exact λz=>by cases z
 ·obtain⟨xs,e,_⟩:=h;rw[e];exact λz=>by cases z
 ·exact h.elim
theorem OwnAt.step(h:OwnAt K B H d a)(b:Same B B')(e:H' a=H a):OwnAt K B' H' d a:=by
 unfold OwnAt at h ⊢
 split at h
 ·obtain⟨xs,q,r⟩:=h;exact⟨xs,by rw[e,q],r.same b⟩
 ·obtain⟨xs,q,k,r⟩:=h;exact⟨xs,by rw[e,q],k,r.same b⟩
 ·obtain⟨xs,q,k,r⟩:=h;exact⟨xs,by rw[e,q],k,r.same b⟩
 ·obtain⟨xs,q,k,r⟩:=h;exact⟨xs,by rw[e,q],k,r.same b⟩
 ·obtain⟨xs,q,z,k,r⟩:=h;exact⟨xs,by rw[e,q],z,k,r.same b⟩
 ·exact h.elim
theorem Same.at{a:Addr}(h:Same H H')(n:H a≠none):H' a=H a:=by
 cases e:H a with
|none=>exact absurd e n
|some o=>exact h _ _ e
theorem Pk.step(h:Pk K B H r v)(p:Stp B H B' H'):Pk K B' H' r v:=by
 cases r with
|val d=>exact Rep.same p.b h
|own d =>
  obtain⟨a,e,q,o⟩:=h
  exact⟨a,e,p.keep q o.some o.nt,o.step p.b (p.h.at o.some)⟩
|peek d =>
  obtain⟨a,e,q,o⟩:=h
  exact⟨a,e,p.keep q o.some o.nt,o.step p.b (p.h.at o.some)⟩
|exc n=>exact h.elim
theorem RepR.pk(h:RepR K B H0 H r v):Pk K B H r v:=by
 cases r with
|val d=>exact h
|own d =>
  obtain⟨a,e,_,q,o⟩:=h
  exact⟨a,e,q,o⟩
|peek d=>exact h
|exc n=>exact h
theorem OwnAt.rep(s:Same B H)(h:OwnAt K B H d a):Rep K H d (.ref a):=by
 unfold OwnAt at h
 split at h
 ·obtain⟨xs,q,r⟩:=h;unfold Rep;exact⟨a,xs,rfl,q,r.same s⟩
 ·obtain⟨xs,q,k,r⟩:=h;unfold Rep;exact⟨a,xs,rfl,.inl q,k,r.same s⟩
 ·obtain⟨xs,q,k,r⟩:=h;unfold Rep;exact⟨a,xs,rfl,q,k,r.same s⟩
 ·obtain⟨xs,q,rfl,r⟩:=h;unfold Rep;exact⟨xs,rfl,q,r.same s⟩
 ·obtain⟨xs,q,rfl,k,r⟩:=h;unfold Rep;exact⟨xs,rfl,q,k,r.same s⟩
 ·exact h.elim
theorem Pk.rep(s:Same B H)(h:Pk K B H r v):Rep K H r.d v:=by
 cases r with
|val d=>exact Rep.same s h
|own d =>
  obtain⟨a,rfl,_,o⟩:=h
  exact o.rep s
|peek d =>
  obtain⟨a,rfl,_,o⟩:=h
  exact o.rep s
|exc n=>exact h.elim
theorem OwnAt.pub(h:OwnAt K B H d a)(hb:B a=none):∃o,H a=Option.some o/\Rep K (upd B a o) d (.ref a):=by
 unfold OwnAt at h
 split at h
 ·obtain⟨xs,q,r⟩:=h
  refine⟨_,q,?_⟩
  unfold Rep
  exact⟨a,xs,rfl,qa6,r.same (qaw hb _)⟩
 ·obtain⟨xs,q,k,r⟩:=h
  refine⟨_,q,?_⟩
  unfold Rep
  exact⟨a,xs,rfl,.inl qa6,k,r.same (qaw hb _)⟩
 ·obtain⟨xs,q,k,r⟩:=h
  refine⟨_,q,?_⟩
  unfold Rep
  exact⟨a,xs,rfl,qa6,k,r.same (qaw hb _)⟩
 ·obtain⟨xs,q,rfl,r⟩:=h
  refine⟨_,q,?_⟩
  unfold Rep
  exact⟨xs,rfl,qa6,r.same (qaw hb _)⟩
 ·obtain⟨xs,q,rfl,k,r⟩:=h
  refine⟨_,q,?_⟩
  unfold Rep
  exact⟨xs,rfl,qa6,k,r.same (qaw hb _)⟩
 ·exact h.elim
theorem qip{o:HO}(s:Same B H)(e:H a=Option.some o):Same (upd B a o) H:=λb u q=>by
 unfold upd at q
 by_cases z:b=a
 ·rw[if_pos z] at q
  rw[z,e]
  exact q
 ·rw[if_neg z] at q
  exact s _ _ q
def pubR:R->(D->Prop)->Prop
|.val d,Q=>Q d
|.own d,Q=>Q d
|.peek _,_=>False
|.exc _,_=>False
def exR:R->(R->Prop)->Prop->Prop
|.exc n,Q,_=>Q (.exc n)
|.val _,_,k=>k
|.own _,_,k=>k
|.peek _,_,k=>k
theorem pub{Q:D->Prop}(p:Stp B H B' H')(h:RepR K B' H H' r v)(q:pubR r Q):∃d B2,Stp B H B2 H'/\Same B' B2/\Rep K B2 d v/\Q d:=by
 cases r with
|val d=>exact⟨d,B',p,Same.refl _,h,q⟩
|own d =>
  obtain⟨a,rfl,h0,hb,o⟩:=h
  obtain⟨u,e,rp⟩:=o.pub hb
  refine⟨d,upd B' a u,⟨p.b.trans (qaw hb _),p.h,qip p.s e,λc z=>?_⟩,qaw hb _,rp,q⟩
  by_cases w:c=a
  ·exact .inr (.inl (w▸h0))
  ·rw[qau w] at z
   exact p.d c z
|peek d=>exact q.elim
|exc n=>exact q.elim
def FzAt(K:PySem.W.Frag)(B:Hp)(d:D)(v:V):Prop:=∃a ks ds kvs o,d=.dT ks ds/\v=.ref a/\B a=some (.frz o (.dT kvs))/\kvs.map (·.1)=ks.map wK/\Reps K B ds (kvs.map (·.2))
theorem FzAt.same(h:FzAt K B d v)(s:Same B B'):FzAt K B' d v:=by
 obtain⟨a,ks,ds,kvs,o,e1,e2,e3,e4,e5⟩:=h
 exact⟨a,ks,ds,kvs,o,e1,e2,s _ _ e3,e4,e5.same s⟩
theorem FzAt.rep(h:FzAt K B d v):Rep K B d v:=by
 obtain⟨a,ks,ds,kvs,o,rfl,e2,e3,e4,e5⟩:=h
 unfold Rep
 exact⟨a,kvs,e2,.inr ⟨o,e3⟩,e4,e5⟩
structure Slots(K:PySem.W.Frag)(H0 B H:Hp)(τ:VSt)(σ:St):Prop where
 len:σ.length=τ.length
 val:∀(i:Nat) (d:D),τ[i]?=some (some (R.val d))->∃v,σ[i]?=some (some v)/\Rep K B d v
 fz:∀(i:Nat) (d:D),τ[i]?=some (some (R.peek d))->∃v,σ[i]?=some (some v)/\FzAt K B d v
 own:∀(i:Nat) (d:D),τ[i]?=some (some (R.own d))->∃a,σ[i]?=some (some (.ref a))/\H0 a=none/\B a=none/\OwnAt K B H d a
 sep:∀(i j:Nat) (d e:D) (a:Addr),τ[i]?=some (some (R.own d))->τ[j]?=some (some (R.own e))->σ[i]?=some (some (.ref a))->σ[j]?=some (some (.ref a))->i=j
variable {τ:VSt} {σ:St}
theorem Slots.step(S:Slots K H0 B H τ σ)(p:Stp B H B' H'):Slots K H0 B' H' τ σ where
 len:=S.len
 val:=λi d e=>let ⟨v,q,r⟩:=S.val i d e;⟨v,q,r.same p.b⟩
 fz:=λi d e=>let ⟨v,q,r⟩:=S.fz i d e;⟨v,q,r.same p.b⟩
 own:=λi d e=>let ⟨a,q,h0,hb,o⟩:=S.own i d e;⟨a,q,h0,p.keep hb o.some o.nt,o.step p.b (p.h.at o.some)⟩
 sep:=S.sep
theorem qbd{α:Type}{xs:List α}{i j:Nat}{x y:α}(h:(xs.set i x)[j]?=some y):(i=j/\x=y/\i<xs.length)\/(i≠j/\xs[j]?=some y):=by
 by_cases e:i=j
 ·subst e
  by_cases l:i<xs.length
  ·rw[List.getElem?_set_self l] at h
   exact .inl ⟨rfl,Option.some.inj h,l⟩
  ·rw[List.getElem?_eq_none (by rw[List.length_set];lia)] at h
   cases h
 ·rw[List.getElem?_set_ne e] at h
  exact .inr ⟨e,h⟩
theorem Slots.setVal(S:Slots K H0 B H τ σ)(i:Nat)(h:Rep K B d v):Slots K H0 B H (τ.set i (some (.val d))) (σ.set i (some v)) where
 len:=by rw[List.length_set,List.length_set,S.len]
 val:=λj e q=>by
  rcases qbd q with ⟨rfl,z,l⟩|⟨n,q⟩
  ·cases z
   exact⟨v,List.getElem?_set_self (by rw[S.len];exact l),h⟩
  ·obtain⟨w,q,r⟩:=S.val j e q
   exact⟨w,by rw[List.getElem?_set_ne n];exact q,r⟩
 fz:=λj e q=>by
  rcases qbd q with ⟨rfl,z,l⟩|⟨n,q⟩
  ·cases z
  ·obtain⟨w,q,r⟩:=S.fz j e q
   exact⟨w,by rw[List.getElem?_set_ne n];exact q,r⟩
 own:=λj e q=>by
  rcases qbd q with ⟨rfl,z,l⟩|⟨n,q⟩
  ·cases z
  ·obtain⟨w,q,r⟩:=S.own j e q
   exact⟨w,by rw[List.getElem?_set_ne n];exact q,r⟩
 sep:=λj k e f c q1 q2 q3 q4=>by
  rcases qbd q1 with ⟨rfl,z,l⟩|⟨n,q1⟩
  ·cases z
  rcases qbd q2 with ⟨rfl,z,l⟩|⟨n2,q2⟩
  ·cases z
  rw[List.getElem?_set_ne n] at q3
  rw[List.getElem?_set_ne n2] at q4
  exact S.sep j k e f c q1 q2 q3 q4
theorem Slots.setOwn(S:Slots K H0 B H τ σ)(i:Nat)(h0:H0 a=none)(hb:B a=none)(o:OwnAt K B H d a)(nw:∀(j:Nat) (e:D),τ[j]?=some (some (.own e))->σ[j]?≠some (some (.ref a))) :
  Slots K H0 B H (τ.set i (some (.own d))) (σ.set i (some (.ref a))) where
 len:=by rw[List.length_set,List.length_set,S.len]
 val:=λj e q=>by
  rcases qbd q with ⟨rfl,z,l⟩|⟨n,q⟩
  ·cases z
  ·obtain⟨w,q,r⟩:=S.val j e q
   exact⟨w,by rw[List.getElem?_set_ne n];exact q,r⟩
 fz:=λj e q=>by
  rcases qbd q with ⟨rfl,z,l⟩|⟨n,q⟩
  ·cases z
  ·obtain⟨w,q,r⟩:=S.fz j e q
   exact⟨w,by rw[List.getElem?_set_ne n];exact q,r⟩
 own:=λj e q=>by
  rcases qbd q with ⟨rfl,z,l⟩|⟨n,q⟩
  ·cases z
   exact⟨a,List.getElem?_set_self (by rw[S.len];exact l),h0,hb,o⟩
  ·obtain⟨w,q,r⟩:=S.own j e q
   exact⟨w,by rw[List.getElem?_set_ne n];exact q,r⟩
 sep:=λj k e f c q1 q2 q3 q4=>by
  rcases qbd q1 with ⟨rfl,z,l⟩|⟨n,q1⟩
  ·rcases qbd q2 with ⟨rfl,z,l2⟩|⟨n2,q2⟩
   ·rfl
   ·rw[List.getElem?_set_self (by rw[S.len];exact l)] at q3
    cases q3
    rw[List.getElem?_set_ne n2] at q4
    exact absurd q4 (nw k f q2)
  ·rcases qbd q2 with ⟨rfl,z,l2⟩|⟨n2,q2⟩
   ·rw[List.getElem?_set_self (by rw[S.len];exact l2)] at q4
    cases q4
    rw[List.getElem?_set_ne n] at q3
    exact absurd q3 (nw j e q1)
   ·rw[List.getElem?_set_ne n] at q3
    rw[List.getElem?_set_ne n2] at q4
    exact S.sep j k e f c q1 q2 q3 q4
theorem Slots.upd(S:Slots K H0 B H τ σ){i:Nat}{e:D}{o:HO}(hi:τ[i]?=some (some (.own e)))(ha:σ[i]?=some (some (.ref a)))(n:OwnAt K B (upd H a o) d a) :
  Slots K H0 B (upd H a o) (τ.set i (some (.own d))) σ where
 len:=by rw[List.length_set,S.len]
 val:=λj f q=>by
  rcases qbd q with ⟨rfl,z,l⟩|⟨n,q⟩
  ·cases z
  ·exact S.val j f q
 fz:=λj f q=>by
  rcases qbd q with ⟨rfl,z,l⟩|⟨n,q⟩
  ·cases z
  ·exact S.fz j f q
 own:=λj f q=>by
  rcases qbd q with ⟨rfl,z,l⟩|⟨ne,q⟩
  ·cases z
   obtain⟨c,q1,h0,hb,_⟩:=S.own i e hi
   rw[ha] at q1
   cases q1
   exact⟨a,ha,h0,hb,n⟩
  ·obtain⟨c,q1,h0,hb,w⟩:=S.own j f q
   refine⟨c,q1,h0,hb,w.step (Same.refl _) (qau λz=>?_)⟩
   subst z
   exact ne (S.sep i j e f c hi q ha q1)
 sep:=λj k e' f c q1 q2 q3 q4=>by
  have hj:∃e',τ[j]?=some (some (.own e')):=by
   rcases qbd q1 with ⟨rfl,z,l⟩|⟨_,q⟩
   ·exact⟨e,hi⟩
   ·exact⟨_,q⟩
  have hk:∃e',τ[k]?=some (some (.own e')):=by
   rcases qbd q2 with ⟨rfl,z,l⟩|⟨_,q⟩
   ·exact⟨e,hi⟩
   ·exact⟨_,q⟩
  obtain⟨_,hj⟩:=hj
  obtain⟨_,hk⟩:=hk
  exact S.sep j k _ _ c hj hk q3 q4
theorem Stp.upd(p:Stp B H B' H'){o:HO}(h0:H a=none)(hb:B' a=none):Stp B H B' (L2.upd H' a o) :=
 ⟨p.b,p.h.put h0,λb u q=>by
  rw[qau (λz=>by rw[z,hb] at q;cases q)]
  exact p.s _ _ q,p.d⟩
def frz(i:Nat)(τ:VSt):VSt:=match τ[i]? with
|some (some (.own d))=>τ.set i (some (.val d))
|_=>τ
theorem Slots.frz(S:Slots K H0 B' H' τ σ)(p:Stp B H0 B' H')(i:Nat):∃B2,Stp B H0 B2 H'/\Same B' B2/\Slots K H0 B2 H' (frz i τ) σ:=by
 unfold L2.frz
 split
 ·rename_i d e
  obtain⟨a,q,h0,hb,o⟩:=S.own i d e
  obtain⟨u,eu,rp⟩:=o.pub hb
  refine⟨L2.upd B' a u,⟨p.b.trans (qaw hb _),p.h,qip p.s eu,λc z=>?_⟩,qaw hb _,?_⟩
  ·by_cases w:c=a
   ·exact .inr (.inl (w▸h0))
   ·rw[qau w] at z
    exact p.d c z
  ·refine⟨by rw[List.length_set,S.len],λj f q'=>?_,λj f q'=>?_,λj f q'=>?_,λj k f g c q1 q2 q3 q4=>?_⟩
   ·rcases qbd q' with ⟨rfl,z,l⟩|⟨n,q'⟩
    ·cases z
     exact⟨_,q,rp⟩
    ·obtain⟨w,q1,r⟩:=S.val j f q'
     exact⟨w,q1,r.same (qaw hb _)⟩
   ·rcases qbd q' with ⟨rfl,z,l⟩|⟨n,q'⟩
    ·cases z
    ·obtain⟨w,q1,r⟩:=S.fz j f q'
     exact⟨w,q1,r.same (qaw hb _)⟩
   ·rcases qbd q' with ⟨rfl,z,l⟩|⟨n,q'⟩
    ·cases z
    ·obtain⟨c,q1,h0',hb',w⟩:=S.own j f q'
     have ne:c≠a:=λz=>by subst z;exact n (S.sep i j d f c e q' q q1)
     exact⟨c,q1,h0',by rw[qau ne];exact hb',w.step (qaw hb _) rfl⟩
   ·rcases qbd q1 with ⟨rfl,z,l⟩|⟨n,q1⟩
    ·cases z
    rcases qbd q2 with ⟨rfl,z,l⟩|⟨n2,q2⟩
    ·cases z
    exact S.sep j k f g c q1 q2 q3 q4
 ·exact⟨B',p,Same.refl _,S⟩
end
end L2
namespace L2
open PySem PySem.Spec PyProof.Rows
abbrev TV:=VSt->(R->Prop)->Prop
abbrev TVT:=VSt->(Bool->Prop)->Prop
inductive AR where
|ok (ds:List D)
|exc (n:Str)
abbrev TVA:=VSt->(AR->Prop)->Prop
abbrev TVG:=D->VSt->(VSt->Prop)->Prop
structure VEnds where
 nx:VSt->Prop
 rt:R->Prop
 bk:VSt->Prop:=λ_=>False
 ct:VSt->Prop:=λ_=>False
 xc:VSt->Str->Prop:=λ_ _=>False
 ro:VSt->R->Prop:=λ_ _=>False
abbrev TVS:=VEnds->VSt->Prop
section
variable (K:PySem.W.Frag) (EX:St->XK)
def RfE(te:TE)(t:TV):Prop:=∀(H0 B H:Hp) (τ:VSt) (σ:St) (Q:VK) (Qd:R->Prop),Same B H->Slots K H0 B H τ σ->t τ Qd->(∀n C B' H',Stp B H B' H'->clsOf K n C->Qd (.exc n)->EX σ (.ref C) none H')->(∀r v B' H',Stp B H B' H'->RepR K B' H H' r v->Qd r->Q v H')->te σ H Q
def RfT(te:TT)(t:TVT):Prop:=∀(H0 B H:Hp) (τ:VSt) (σ:St) (Q:Bool->Hp->Prop) (Qd:Bool->Prop),Same B H->Slots K H0 B H τ σ->t τ Qd->(∀b B' H',Stp B H B' H'->Qd b->Q b H')->te σ H Q
def RfA(te:TA)(t:TVA):Prop:=∀(H0 B H:Hp) (τ:VSt) (σ:St) (Q:List V->Hp->Prop) (Qd:AR->Prop),Same B H->Slots K H0 B H τ σ->t τ Qd->(∀n C B' H',Stp B H B' H'->clsOf K n C->Qd (.exc n)->EX σ (.ref C) none H')->(∀ds vs B' H',Stp B H B' H'->Reps K B' ds vs->Qd (.ok ds)->Q vs H')->te σ H Q
def RfO(r:R2)(rd:R->R->(R->Prop)->Prop):Prop:=∀(B H:Hp) (x y:V) (rx ry:R) (Q:VK) (Qd:R->Prop),Same B H->Pk K B H rx x->Pk K B H ry y->rd rx ry Qd->(∀r v B' H',Stp B H B' H'->RepR K B' H H' r v->Qd r->Q v H')->r x y H Q
def RfC(r:List V->Hp->VK->Prop)(rd:R->(R->Prop)->Prop):Prop:=∀(B H:Hp) (x:V) (rx:R) (Q:VK) (Qd:R->Prop),Same B H->Pk K B H rx x->rd rx Qd->(∀r v B' H',Stp B H B' H'->RepR K B' H H' r v->Qd r->Q v H')->r [x] H Q
def Kp(τ:VSt)(σ:St)(τ':VSt)(σ':St):Prop:=∀(j:Nat) (e:D),τ'[j]?=some (some (R.own e))->τ[j]?=some (some (R.own e))/\σ'[j]?=σ[j]?
def RfG(g:TG)(t:TVG):Prop:=∀(H0 B H:Hp) (τ:VSt) (σ:St) (x:V) (d:D) (Q:St->Hp->Prop) (Qd:VSt->Prop),Same B H->Slots K H0 B H τ σ->Rep K B d x->t d τ Qd->(∀τ' σ',Slots K H0 B H τ' σ'->Kp τ σ τ' σ'->Qd τ'->Q σ' H)->g x σ H Q
def RfGs(g:TGs)(t:List D->VSt->(VSt->Prop)->Prop):Prop:=∀(H0 B H:Hp) (τ:VSt) (σ:St) (xs:List V) (ds:List D) (Q:St->Hp->Prop) (Qd:VSt->Prop),Same B H->Slots K H0 B H τ σ->Reps K B ds xs->t ds τ Qd->(∀τ' σ',Slots K H0 B H τ' σ'->Kp τ σ τ' σ'->Qd τ'->Q σ' H)->g xs σ H Q
def ItOk(B:Hp)(J:It)(ds:List D):Prop:=∀(i:Nat) (B2 H:Hp),Same B B2->Same B2 H->(∀d,ds[i]?=some d->J.go i H/\∀x H',J.yld i H x H'->∃B3,Stp B2 H B3 H'/\Rep K B3 d x)/\(ds[i]?=none->J.stop i H)
def RfI(wi:TI)(vi:TVA):Prop:=∀(H0 B H:Hp) (τ:VSt) (σ:St) (Q:It->Hp->Prop) (Qd:AR->Prop),Same B H->Slots K H0 B H τ σ->vi τ Qd->(∀n C B' H',Stp B H B' H'->clsOf K n C->Qd (.exc n)->EX σ (.ref C) none H')->(∀J ds B' H',Stp B H B' H'->ItOk K B' J ds->Qd (.ok ds)->Q J H')->wi σ H Q
def RfF(ti:TF)(t:TVT):Prop:=∀(H0 B H:Hp) (τ:VSt) (σ:St) (Y N:Hp->Prop) (Qd:Bool->Prop),Same B H->Slots K H0 B H τ σ->t τ Qd->(∀b B' H',Stp B H B' H'->Qd b->if b=true then Y H' else N H')->ti σ H Y N
structure EndsOk(B0 H0:Hp)(Dv:VEnds)(Dh:Ends):Prop where
 nx:∀B H τ σ,Stp B0 H0 B H->Slots K H0 B H τ σ->Dv.nx τ->Dh.nx σ H
 rt:∀r v B H,Stp B0 H0 B H->RepR K B H0 H r v->Dv.rt r->Dh.rt v H
 bk:∀B H τ σ,Stp B0 H0 B H->Slots K H0 B H τ σ->Dv.bk τ->Dh.bk σ H
 ct:∀B H τ σ,Stp B0 H0 B H->Slots K H0 B H τ σ->Dv.ct τ->Dh.ct σ H
 xc:∀B H τ σ n C,Stp B0 H0 B H->Slots K H0 B H τ σ->clsOf K n C->Dv.xc τ n->EX σ (.ref C) none H
 ro:∀r v B H τ σ,Stp B0 H0 B H->Slots K H0 B H τ σ->RepR K B H0 H r v->(∀(d e:D) (i:Nat) (c:Addr),r=R.own d->τ[i]?=some (some (R.own e))->ioA e=some c->v≠.ref c)->Dv.ro τ r->Dh.rt v H
def RfS(ts:TS)(t:TVS):Prop:=∀(B0 H0 B H:Hp) (τ:VSt) (σ:St) (Dv:VEnds) (Dh:Ends),Stp B0 H0 B H->Slots K H0 B H τ σ->t Dv τ->EndsOk K EX B0 H0 Dv Dh->ts Dh σ H
end
section
structure VE(X:Cx)(EX:St->XK)(e:Expr)(t:TV):Prop where
 u:∃te,QE X e te/\RfE X.K EX te t
structure VC(X:Cx)(EX:St->XK)(e:Expr)(t:TV):Prop where
 u:∃te,QC X e te/\RfE X.K EX te t
structure VT(X:Cx)(EX:St->XK)(e:Expr)(t:TVT):Prop where
 u:∃te,QT X e te/\RfT X.K te t
structure VW(X:Cx)(EX:St->XK)(e:Expr)(t:TVT):Prop where
 u:∃te,QW X e te/\RfT X.K te t
structure VA(X:Cx)(EX:St->XK)(es:List Expr)(t:TVA):Prop where
 u:∃te,QA X es te/\RfA X.K EX te t
structure VI(X:Cx)(EX:St->XK)(tg e:Expr)(t:TVA):Prop where
 u:∃wi,QI X tg e wi/\RfI X.K EX wi t
structure VFs(X:Cx)(EX:St->XK)(ifs:List Expr)(t:TVT):Prop where
 u:∃ti,QF X ifs ti/\RfF X.K ti t
structure VS(X:Cx)(EX:St->XK)(st:Stmt)(t:TVS):Prop where
 u:∃ts,QS X st ts/\RfS X.K EX ts t
structure VSs(X:Cx)(EX:St->XK)(st:List Stmt)(t:TVS):Prop where
 u:∃ts,QSs X st ts/\RfS X.K EX ts t
end
section
variable (X:Cx)
structure VO(f:Value->Value->Sem Value)(rd:R->R->(R->Prop)->Prop):Prop where
 u:∃r,OpR X f r/\RfO X.K r rd
structure VX(rd:R->R->(R->Prop)->Prop):Prop where
 u:∃r,IxR X r/\RfO X.K r rd
structure VF(f:Value)(rd:R->(R->Prop)->Prop):Prop where
 u:∃r,CallR X f r/\RfC X.K r rd
structure VG(tg:Expr)(t:TVG):Prop where
 u:∃g,QG X tg g/\RfG X.K g t
structure VGs(ts:List Expr)(t:List D->VSt->(VSt->Prop)->Prop):Prop where
 u:∃g,QGs X ts g/\RfGs X.K g t
end
section
variable {X:Cx} {EX:St->XK} {K:PySem.W.Frag} {a b c e o i:Expr} {es:List Expr} {pos pos' p p2 apos cpos:Pos} {x:Str} {ta tb tc te:TV} {tA:TVA} {tT tU:TVT} {B H B' H' H0 H1 H2:Hp} {r:R} {v:V}
theorem RepR.back(h:RepR K B H1 H2 r v)(s:Same H H1):RepR K B H H2 r v:=by
 cases r with
|val d=>exact h
|own d =>
  obtain⟨a,e,h0,q⟩:=h
  exact⟨a,e,s.free h0,q⟩
|peek d=>exact h
|exc n=>exact h
theorem Pk.scal{z:V}(h:Pk K B H r v)(e:dV r.d=some z):v=z:=by
 cases r with
|val d =>
  have e':dV d=some z:=e
  have h':Rep K B d v:=h
  cases d<;>first|(unfold Rep at h';subst h';exact Option.some.inj e')|(cases e';done)
|own d =>
  obtain⟨a,_,_,q⟩:=h
  have e':dV d=some z:=e
  cases d<;>first|(cases e';done)|exact q.elim
|peek d =>
  obtain⟨a,_,_,q⟩:=h
  have e':dV d=some z:=e
  cases d<;>first|(cases e';done)|exact q.elim
|exc n=>exact h.elim
theorem Pk.tup{ds:List D}(h:Pk K B H r v)(e:r.d=.tup ds):∃a xs,v=.ref a/\TupAt K B a ds xs/\Reps K B ds xs:=by
 cases r with
|val d =>
  cases (show d=_ from e)
  have h':Rep K B (.tup ds) v:=h
  unfold Rep at h'
  exact h'
|own d=>cases (show d=_ from e);obtain⟨_,_,_,q⟩:=h;exact q.elim
|peek d=>cases (show d=_ from e);obtain⟨_,_,_,q⟩:=h;exact q.elim
|exc n=>exact h.elim
theorem Pk.lst{ds:List D}(s:Same B H)(h:Pk K B H r v)(e:r.d=.lst ds):∃a xs,v=.ref a/\H a=some (.lst xs)/\Reps K B ds xs:=by
 cases r with
|val d =>
  cases (show d=_ from e)
  have h':Rep K B (.lst ds) v:=h
  unfold Rep at h'
  obtain⟨a,xs,rfl,q,rp⟩:=h'
  exact⟨a,xs,rfl,s _ _ q,rp⟩
|own d=>cases (show d=_ from e);obtain⟨a,rfl,_,xs,q,rp⟩:=h;exact⟨a,xs,rfl,q,rp⟩
|peek d=>cases (show d=_ from e);obtain⟨a,rfl,_,xs,q,rp⟩:=h;exact⟨a,xs,rfl,q,rp⟩
|exc n=>exact h.elim
theorem Pk.scr{ns:List Int}(s:Same B H)(h:Pk K B H r v)(e:r.d=.scr ns):∃a,v=.ref a/\SqL K H a (ns.map V.int):=by
 cases r with
|val d =>
  cases (show d=_ from e)
  have h':Rep K B (.scr ns) v:=h
  unfold Rep at h'
  obtain⟨a,rfl,q⟩:=h'
  exact⟨a,rfl,s.seq q⟩
|own d=>cases (show d=_ from e);obtain⟨_,_,_,q⟩:=h;exact q.elim
|peek d=>cases (show d=_ from e);obtain⟨_,_,_,q⟩:=h;exact q.elim
|exc n=>exact h.elim
theorem qid{d:D}{z:V}(e:dV d=some z):Rep K B d z:=by
 cases d<;>first|(cases e;done)|(unfold Rep;exact(Option.some.inj e).symm)
theorem repV{d:D}{z:V}(e:dV d=some z):RepR K B H0 H (.val d) z:=qid e
theorem xst{B1:Hp}{σ:St}{P:Str->Prop}(x:∀n C B' H',Stp B H B' H'->clsOf K n C->P n->EX σ (.ref C) none H')(p:Stp B H B1 H1):∀n C B' H',Stp B1 H1 B' H'->clsOf K n C->P n->EX σ (.ref C) none H':=λn C B' H' q c h=>x n C B' H' (p.trans q) c h
theorem xno{σ:St}{P:Str->Prop}(h:∀n,¬ P n):∀n C B' H',Stp B H B' H'->clsOf K n C->P n->EX σ (.ref C) none H':=λn _ _ _ _ _ q=>absurd q (h n)
def vVar(i:Nat):TV:=λτ Q=>match τ[i]? with
|some (some (.val d))=>Q (.val d)
|some (some (.own d))=>Q (.peek d)
|some (some (.peek d))=>Q (.val d)
|_=>False
theorem q65{i:Nat}:RfE K EX (tVar i) (vVar i):=λH0 B H τ σ Q Qd s S h _ k=>by
 unfold vVar at h
 split at h
 ·rename_i d e
  obtain⟨v,q,rp⟩:=S.val i d e
  exact⟨v,q,k (.val d) v B H (.refl s) rp h⟩
 ·rename_i d e
  obtain⟨a,q,_,hb,ow⟩:=S.own i d e
  exact⟨.ref a,q,k (.peek d) (.ref a) B H (.refl s) ⟨a,rfl,hb,ow⟩ h⟩
 ·rename_i d e
  obtain⟨v,q,rp⟩:=S.fz i d e
  exact⟨v,q,k (.val d) v B H (.refl s) rp.rep h⟩
 ·exact h.elim
theorem vv(i:Nat)(hN:X.N[i]?=some x:=by rfl)(hv:Vis X.env.scope x:=by first|exact Or.inl rfl|exact Or.inr (Or.inl rfl)|exact Or.inr (Or.inr rfl))(hd:(x==("__debug__" : Str))=false:=by decide)
  (hcd:(x==("__classdict__" : Str))=false:=by decide):VE X EX (.Name x pos) (vVar i):=⟨_,qv i hN hv hd hcd,q65⟩
def vC(d:D):TV:=λ_ Q=>Q (.val d)
theorem rf_c{d:D}{z:V}(e:dV d=some z):RfE K EX (tC z) (vC d):=λ_ B H _ _ _ _ s _ h _ k=>k (.val d) z B H (.refl s) (qid e) h
theorem qad{k:Int}{j:Nat}:VE X EX (.Constant (.int k) j pos) (vC (.int k)):=⟨_,q0c,rf_c rfl⟩
theorem qk2{k:Bool}{j:Nat}:VE X EX (.Constant (.bool k) j pos) (vC (.bl k)):=⟨_,q8u,rf_c rfl⟩
theorem qd5{j:Nat}:VE X EX (.Constant .none j pos) (vC .non):=⟨_,q6i,rf_c rfl⟩
theorem qap{z:Str}{j:Nat}:VE X EX (.Constant (.str z) j pos) (vC (.str z)):=⟨_,q6l,rf_c rfl⟩
theorem qfb{d:D}{z:V}{w:Value}(hg:Gl X x)(hm:X.mg x=some w)(r:RelV z w)(e:dV d=some z)(hd:(x==("__debug__" : Str))=false:=by decide):VE X EX (.Name x pos) (vC d):=⟨_,qot hg hm r hd,rf_c e⟩
theorem qzk{ds:List D}{xs:List V}{ad:Addr}(hg:Gl X x)(hm:X.mg x=some (.ref ad))(h:SqT X.K (λ_=>none) ad xs/\D.str "" ∈ ds/\Reps X.K (λ_=>none) ds xs)(hd:(x==("__debug__" : Str))=false:=by decide):VE X EX (.Name x pos) (vC (.tup ds)) :=
 ⟨_,qot (v:=.ref ad) hg hm rfl hd,λ_ B H _ _ _ _ s _ q _ k=>k (.val _) _ B H (.refl s) (by show Rep X.K B (.tup ds) _;unfold Rep;exact⟨ad,xs,rfl,.inr ⟨h.1,h.2.1⟩,h.2.2.same (Same.emp B)⟩) q⟩
theorem RepR.ok{Q:R->Prop}{k:Prop}(h:RepR K B H0 H r v)(q:exR r Q k):k:=by
 cases r with
|exc n=>exact h.elim
|val d=>exact q
|own d=>exact q
|peek d=>exact q
def vOp(rd:R->R->(R->Prop)->Prop)(ta tb:TV):TV:=λτ Q=>ta τ λrx=>exR rx Q (tb τ λry=>exR ry Q (rd rx ry Q))
theorem qy2{rr:R2}{rd:R->R->(R->Prop)->Prop}{ea eb:TE}(hr:RfO K rr rd)(ha:RfE K EX ea ta)(hb:RfE K EX eb tb):RfE K EX (tOp rr ea eb) (vOp rd ta tb):=λH0 B H τ σ Q Qd s S h xc k =>
 ha H0 B H τ σ _ _ s S h xc λrx x B1 H1 p1 q1 h1=>hb H0 B1 H1 τ σ _ _ p1.s (S.step p1) (q1.ok h1) (xst xc p1) λry y B2 H2 p2 q2 h2 =>
  hr B2 H2 x y rx ry _ _ p2.s (q1.pk.step p2) q2.pk (q2.ok h2) λr v B3 H3 p3 q3 h3=>k r v B3 H3 (p1.trans (p2.trans p3)) (q3.back (p1.trans p2).h) h3
theorem qa2{op:Operator}{rd:R->R->(R->Prop)->Prop}(hr:VO X (binaryOp op) rd)(ha:VE X EX a ta)(hb:VE X EX b tb):VE X EX (.BinOp a op b pos) (vOp rd ta tb) :=
 let ⟨_,h1,h2⟩:=hr.u;let ⟨_,a1,a2⟩:=ha.u;let ⟨_,b1,b2⟩:=hb.u;⟨_,q8w h1 a1 b1,qy2 h2 a2 b2⟩
theorem qfg{op:CmpOp}{rd:R->R->(R->Prop)->Prop}(hr:VO X (compareOp op) rd)(ha:VE X EX a ta)(hb:VE X EX b tb)(hm:behindInMarks op b=false:=by with_unfolding_all rfl):VE X EX (.Compare a [op] [b] pos) (vOp rd ta tb) :=
 let ⟨_,h1,h2⟩:=hr.u;let ⟨_,a1,a2⟩:=ha.u;let ⟨_,b1,b2⟩:=hb.u;⟨_,q20 h1 a1 b1 hm,qy2 h2 a2 b2⟩
theorem qa5{rd:R->R->(R->Prop)->Prop}(hr:VX X rd)(ha:VE X EX a ta)(hb:VE X EX b tb)(hs:qf4 b:=by exact λ_ _=>rfl):VE X EX (.Subscript a b pos) (vOp rd ta tb) :=
 let ⟨_,h1,h2⟩:=hr.u;let ⟨_,a1,a2⟩:=ha.u;let ⟨_,b1,b2⟩:=hb.u;⟨_,q8v h1 a1 b1 hs,qy2 h2 a2 b2⟩
def vBl(t:TV):TVT:=λτ Q=>t τ λr=>match r.d with
|.bl b=>Q b
|_=>False
theorem qvj{ea:TE}(ha:RfE K EX ea ta):RfT K (tB ea) (vBl ta):=λH0 B H τ σ Q Qd s S h k=>ha H0 B H τ σ _ _ s S h (xno λ_ q=>q) λr v B' H' p q h1=>by
 split at h1
 ·rename_i bb e
  exact⟨bb,q.pk.scal (by rw[e];rfl),k bb B' H' p h1⟩
 ·exact h1.elim
theorem qcd(ha:VE X EX e ta)(he:∀whole,isTrue e X.env whole=(do let v ←whole;standAt e.pos;holding [v] (truthy v)):=by intro _;rfl):VT X EX e (vBl ta) :=
 let ⟨_,a1,a2⟩:=ha.u;⟨_,q6v a1 he,qvj a2⟩
theorem qay{op:CmpOp}{rd:R->R->(R->Prop)->Prop}(hr:VO X (compareOp op) rd)(ha:VE X EX a ta)(hb:VE X EX b tb)(hm:behindInMarks op b=false:=by with_unfolding_all rfl):VT X EX (.Compare a [op] [b] pos) (vBl (vOp rd ta tb)) :=
 let ⟨_,h1,h2⟩:=hr.u;let ⟨_,a1,a2⟩:=ha.u;let ⟨_,b1,b2⟩:=hb.u;⟨_,q3c h1 a1 b1 hm,qvj (qy2 h2 a2 b2)⟩
def qgm(t u:TVT):TVT:=λτ Q=>t τ λc=>if c=true then u τ Q else Q false
def vOrT(t u:TVT):TVT:=λτ Q=>t τ λc=>if c=true then Q true else u τ Q
def qes(t:TVT):TVT:=λτ Q=>t τ λc=>Q (!c)
theorem q63{e1:TT}(h1:RfT K e1 tT):RfT K (tNot e1) (qes tT):=λH0 B H τ σ Q Qd s S h k=>h1 H0 B H τ σ _ _ s S h λb B' H' p q=>k _ B' H' p q
theorem q60{e1 e2:TT}(h1:RfT K e1 tT)(h2:RfT K e2 tU):RfT K (tAnd e1 e2) (qgm tT tU):=λH0 B H τ σ Q Qd s S h k=>h1 H0 B H τ σ _ _ s S h λb B' H' p q=>by
 cases b with
|true=>exact iteT (h2 H0 B' H' τ σ _ _ p.s (S.step p) (by rw[if_pos rfl] at q;exact q) λb2 B2 H2 p2 q2=>k b2 B2 H2 (p.trans p2) q2)
|false=>exact iteF (k false B' H' p (by rw[if_neg Bool.false_ne_true] at q;exact q))
theorem q86{e1 e2:TT}(h1:RfT K e1 tT)(h2:RfT K e2 tU):RfT K (tOr e1 e2) (vOrT tT tU):=λH0 B H τ σ Q Qd s S h k=>h1 H0 B H τ σ _ _ s S h λb B' H' p q=>by
 cases b with
|true=>exact iteT (k true B' H' p (by rw[if_pos rfl] at q;exact q))
|false=>exact iteF (h2 H0 B' H' τ σ _ _ p.s (S.step p) (by rw[if_neg Bool.false_ne_true] at q;exact q) λb2 B2 H2 p2 q2=>k b2 B2 H2 (p.trans p2) q2)
theorem qez(h:VT X EX a tT):VT X EX (.UnaryOp .Not a pos) (qes tT):=let ⟨_,a1,a2⟩:=h.u;⟨_,q6u a1,q63 a2⟩
theorem qe0(h:VT X EX a tT):VW X EX (.BoolOp .And [a] pos) tT:=let ⟨_,a1,a2⟩:=h.u;⟨_,q3d a1,a2⟩
theorem qe1(h:VT X EX a tT):VW X EX (.BoolOp .Or [a] pos) tT:=let ⟨_,a1,a2⟩:=h.u;⟨_,q6x a1,a2⟩
theorem qg1(ha:VT X EX a tT)(hb:VW X EX (.BoolOp .And (b::es) pos) tU):VW X EX (.BoolOp .And (a::b::es) pos) (qgm tT tU):=let ⟨_,a1,a2⟩:=ha.u;let ⟨_,b1,b2⟩:=hb.u;⟨_,q6w a1 b1,q60 a2 b2⟩
theorem qgs(ha:VT X EX a tT)(hb:VW X EX (.BoolOp .Or (b::es) pos) tU):VW X EX (.BoolOp .Or (a::b::es) pos) (vOrT tT tU):=let ⟨_,a1,a2⟩:=ha.u;let ⟨_,b1,b2⟩:=hb.u;⟨_,q83 a1 b1,q86 a2 b2⟩
theorem vw_t(h:VW X EX e tT):VT X EX e tT:=let ⟨_,a1,a2⟩:=h.u;⟨_,qw_t a1,a2⟩
def qmk(ta tb:TV):TV:=λτ Q=>ta τ λr=>match r.d with
|.bl c=>if c=true then tb τ Q else Q (.val (.bl false))
|_=>False
def vOrE(ta tb:TV):TV:=λτ Q=>ta τ λr=>match r.d with
|.bl c=>if c=true then Q (.val (.bl true)) else tb τ Q
|_=>False
def qv2(ta:TV):TV:=λτ Q=>ta τ λr=>match r.d with
|.bl c=>Q (.val (.bl (!c)))
|_=>False
theorem qj1{op:BoolOp}(h:VE X EX a ta):VE X EX (.BoolOp op [a] pos) ta:=let ⟨_,a1,a2⟩:=h.u;⟨_,q6k a1,a2⟩
theorem qqp(ha:VE X EX a ta)(hb:VE X EX (.BoolOp .And (b::es) pos) tb):VE X EX (.BoolOp .And (a::b::es) pos) (qmk ta tb) :=
 let ⟨_,a1,a2⟩:=ha.u;let ⟨_,b1,b2⟩:=hb.u;⟨_,q6g a1 b1,λH0 B H τ σ Q Qd s S h xc k=>a2 H0 B H τ σ _ _ s S h (xno λ_ q=>q) λr v B' H' p q h1=>by
  split at h1
  ·rename_i c e
   refine⟨c,q.pk.scal (by rw[e];rfl),?_⟩
   cases c with
  |true=>exact iteT (b2 H0 B' H' τ σ _ _ p.s (S.step p) (by rw[if_pos rfl] at h1;exact h1) (xst xc p) λr2 v2 B2 H2 p2 q2 h2=>k r2 v2 B2 H2 (p.trans p2) (q2.back p.h) h2)
  |false=>exact iteF (k (.val (.bl false)) _ B' H' p (repV (d:=.bl false) rfl) (by rw[if_neg Bool.false_ne_true] at h1;exact h1))
  ·exact h1.elim⟩
theorem q7r(ha:VE X EX a ta)(hb:VE X EX (.BoolOp .Or (b::es) pos) tb):VE X EX (.BoolOp .Or (a::b::es) pos) (vOrE ta tb) :=
 let ⟨_,a1,a2⟩:=ha.u;let ⟨_,b1,b2⟩:=hb.u;⟨_,q8x a1 b1,λH0 B H τ σ Q Qd s S h xc k=>a2 H0 B H τ σ _ _ s S h (xno λ_ q=>q) λr v B' H' p q h1=>by
  split at h1
  ·rename_i c e
   refine⟨c,q.pk.scal (by rw[e];rfl),?_⟩
   cases c with
  |true=>exact iteT (k (.val (.bl true)) _ B' H' p (repV (d:=.bl true) rfl) (by rw[if_pos rfl] at h1;exact h1))
  |false=>exact iteF (b2 H0 B' H' τ σ _ _ p.s (S.step p) (by rw[if_neg Bool.false_ne_true] at h1;exact h1) (xst xc p) λr2 v2 B2 H2 p2 q2 h2=>k r2 v2 B2 H2 (p.trans p2) (q2.back p.h) h2)
  ·exact h1.elim⟩
theorem q7q(ha:VE X EX a ta):VE X EX (.UnaryOp .Not a pos) (qv2 ta) :=
 let ⟨_,a1,a2⟩:=ha.u;⟨_,q6j a1,λH0 B H τ σ Q Qd s S h xc k=>a2 H0 B H τ σ _ _ s S h (xno λ_ q=>q) λr v B' H' p q h1=>by
  split at h1
  ·rename_i c e
   exact⟨c,q.pk.scal (by rw[e];rfl),k (.val (.bl (!c))) _ B' H' p (repV (d:=.bl (!c)) rfl) h1⟩
  ·exact h1.elim⟩
def vIfE(tT:TVT)(ta tb:TV):TV:=λτ Q=>tT τ λc=>if c=true then ta τ Q else tb τ Q
theorem qk3(hc:VT X EX c tT)(ha:VE X EX a ta)(hb:VE X EX b tb):VE X EX (.IfExp c a b pos) (vIfE tT ta tb) :=
 let ⟨_,c1,c2⟩:=hc.u;let ⟨_,a1,a2⟩:=ha.u;let ⟨_,b1,b2⟩:=hb.u;⟨_,qys c1 a1 b1,λH0 B H τ σ Q Qd s S h xc k=>c2 H0 B H τ σ _ _ s S h λcb B' H' p q=>by
  cases cb with
 |true=>exact iteT (a2 H0 B' H' τ σ _ _ p.s (S.step p) (by rw[if_pos rfl] at q;exact q) (xst xc p) λr2 v2 B2 H2 p2 q2 h2=>k r2 v2 B2 H2 (p.trans p2) (q2.back p.h) h2)
  | false=>exact iteF (b2 H0 B' H' τ σ _ _ p.s (S.step p) (by rw[if_neg Bool.false_ne_true] at q;exact q) (xst xc p) λr2 v2 B2 H2 p2 q2 h2=>k r2 v2 B2 H2 (p.trans p2) (q2.back p.h) h2)⟩
def exA:AR->(R->Prop)->(List D->Prop)->Prop
|.ok ds,_,k=>k ds
|.exc n,Q,_=>Q (.exc n)
def vNil:TVA:=λ_ Q=>Q (.ok [])
def q1t(d:D):AR->AR
|.ok ds=>.ok (d::ds)
|.exc n=>.exc n
def excA:R->(AR->Prop)->Prop->Prop
|.exc n,Q,_=>Q (.exc n)
|.val _,_,k=>k
|.own _,_,k=>k
|.peek _,_,k=>k
theorem RepR.okA{Q:AR->Prop}{k:Prop}(h:RepR K B H0 H r v)(q:excA r Q k):k:=by
 cases r with
|exc n=>exact h.elim
|val d=>exact q
|own d=>exact q
|peek d=>exact q
def qaa(te:TV)(tA:TVA):TVA:=λτ Q=>te τ λr=>excA r Q (pubR r λd=>tA τ λa=>Q (q1t d a))
theorem qae:VA X EX [] vNil:=⟨_,qdi,λ_ B H _ _ _ _ s _ h _ k=>k [] [] B H (.refl s) (by unfold Reps;rfl) h⟩
theorem vac(ha:VE X EX e te)(hr:VA X EX es tA)(hs:qav e=true:=by rfl):VA X EX (e::es) (qaa te tA) :=
 let ⟨_,a1,a2⟩:=ha.u;let ⟨_,b1,b2⟩:=hr.u;⟨_,qac a1 b1 hs,λH0 B H τ σ Q Qd s S h xc k=>a2 H0 B H τ σ _ _ s S h xc λr v B1 H1 p q h1=>by
  obtain⟨d,B2,p2,_,rp,h2⟩:=pub p q (q.okA h1)
  exact b2 H0 B2 H1 τ σ _ _ p2.s (S.step p2) h2 (xst xc p2) λds vs B3 H3 p3 q3 h3=>k (d::ds) (v::vs) B3 H3 (p2.trans p3) (by unfold Reps;exact⟨v,vs,rfl,rp.same p3.b,q3⟩) h3⟩
def vTup(tA:TVA):TV:=λτ Q=>tA τ λa=>exA a Q λds=>ds.length<=sizeLine/\Q (.val (.tup ds))
def vLst(tA:TVA):TV:=λτ Q=>tA τ λa=>exA a Q λds=>ds.length<=sizeLine/\Q (.own (.lst ds))
theorem qks{ds:List D}{xs:List V}{q:Addr}(h:Reps K B ds xs)(hb:B q=none):Rep K (upd B q (.tup xs)) (.tup ds) (.ref q):=by
 unfold Rep
 exact⟨q,xs,rfl,.inl qa6,h.same (qaw hb _)⟩
theorem qco{ds:List D}{xs:List V}{q:Addr}(h:Reps K B ds xs):OwnAt K B (upd H q (.lst xs)) (.lst ds) q:=⟨xs,qa6,h⟩
theorem qa0{k:Nat}(h:VA X EX es tA):VE X EX (.Tuple es k pos) (vTup tA) :=
 let ⟨_,a1,a2⟩:=h.u;⟨_,q6n a1,λH0 B H τ σ Q Qd s S h xc k=>a2 H0 B H τ σ _ _ s S h xc λds vs B1 H1 p q h1 =>
  ⟨by rw[←q.length];exact h1.1,λad had=>k (.val (.tup ds)) _ (upd B1 ad (.tup vs)) _ (p.trans (.new p.s had)) (qks q (p.s.free had)) h1.2⟩⟩
theorem qej(h:VA X EX es tA):VE X EX (.List es pos) (vLst tA) :=
 let ⟨_,a1,a2⟩:=h.u;⟨_,q6h a1,λH0 B H τ σ Q Qd s S h xc k=>a2 H0 B H τ σ _ _ s S h xc λds vs B1 H1 p q h1 =>
  ⟨by rw[←q.length];exact h1.1,λad had=>k (.own (.lst ds)) _ B1 _ (p.trans (.grow p.s (qaw had _))) ⟨ad,rfl,p.h.free had,p.s.free had,qco q⟩ h1.2⟩⟩
abbrev DP:=List D->(R->Prop)->Prop
def spOf(K:PySem.W.Frag)(g:DP):Sp:=λvs H Q E=>∃ds B Qd,Same B H/\Reps K B ds vs/\g ds Qd/\(∀n C B' H',Qd (.exc n)->Stp B H B' H'->clsOf K n C->E (.ref C) none H')/\∀r v B' H',Qd r->Stp B H B' H'->RepR K B' H H' r v->Q v H'
def qdw(g:DP)(tA:TVA):TV:=λτ Q=>tA τ λa=>exA a Q λds=>g ds Q
def qak(g:DP)(tA:TVA):TV:=λτ Q=>tA τ λa=>exA a Q λds=>g ds λr=>exR r (λ_=>False) (Q r)
theorem qal{k:Nat}{ps:List Str}{g:DP}(C:Cal X.prog X.w X.K X.mg X.base k x ps (spOf X.K g))(hr:Room k X.A)(hg:Gl X x)(ha:VA X EX (e::es) tA)(hp:(e::es).all qav=true:=by rfl)(hdb:(x==("__debug__" : Str))=false:=by decide) :
  VE X EX (.Call (.Name x p) (e::es) [] pos) (qak g tA) :=
 let ⟨_,a1,a2⟩:=ha.u;⟨_,qu9 C hr hg a1 hp hdb,λH0 B H τ σ Q Qd s S h xc k=>a2 H0 B H τ σ _ _ s S h xc λds vs B1 H1 p q h1 =>
  ⟨ds,B1,_,p.s,by rw[List.append_nil];exact q,h1,λn C B' H' hq _ _=>hq.elim,λr v B2 H2 hq p2 q2=>k r v B2 H2 (p.trans p2) (q2.back p.h) (q2.ok hq)⟩⟩
def vF1(rd:R->(R->Prop)->Prop)(te:TV):TV:=λτ Q=>te τ λr=>exR r Q (rd r Q)
theorem q61{rr:List V->Hp->VK->Prop}{rd:R->(R->Prop)->Prop}{ea:TE}(hr:RfC K rr rd)(ha:RfE K EX ea te):RfE K EX (tCB rr (qzf ea tNil)) (vF1 rd te):=λH0 B H τ σ Q Qd s S h xc k =>
 ha H0 B H τ σ _ _ s S h xc λrx x B1 H1 p1 q1 h1=>hr B1 H1 x rx _ _ p1.s q1.pk (q1.ok h1) λr v B2 H2 p2 q2 h2=>k r v B2 H2 (p1.trans p2) (q2.back p1.h) h2
theorem qbq{id:String}{rd:R->(R->Prop)->Prop}(hc:VF X (.builtin id) rd)(hg:Gl X x)(hm:X.mg x=none)(hv:bootBuiltins x=some (.builtin id))(ha:VE X EX e te)(hp:qav e=true:=by rfl)(hn:x≠"__name__" := by decide)
  (hdb:(x==("__debug__" : Str))=false:=by decide):VE X EX (.Call (.Name x p) [e] [] pos) (vF1 rd te) :=
 let ⟨_,c1,c2⟩:=hc.u;let ⟨_,a1,a2⟩:=ha.u;⟨_,qcb c1 hg hm hv (qac a1 qdi hp) (by simp[hp]) hn hdb,q61 c2 a2⟩
theorem qsg{T:String}{rd:R->(R->Prop)->Prop}(hc:VF X (.type T) rd)(hg:Gl X x)(hm:X.mg x=none)(hv:bootBuiltins x=some (.type T))(ha:VE X EX e te)(hp:qav e=true:=by rfl)(hn:x≠"__name__" := by decide)
  (hdb:(x==("__debug__" : Str))=false:=by decide):VE X EX (.Call (.Name x p) [e] [] pos) (vF1 rd te) :=
 let ⟨_,c1,c2⟩:=hc.u;let ⟨_,a1,a2⟩:=ha.u;⟨_,qct c1 hg hm hv (qac a1 qdi hp) (by simp[hp]) hn hdb,q61 c2 a2⟩
end
end L2
namespace L2
open PySem PySem.Spec PyProof.Rows
section
variable {X:Cx} {EX:St->XK} {K:PySem.W.Frag} {B H B' H' H0:Hp}
theorem op_catP:OpR X (binaryOp .Add) (λx y H Q=>∃a b xs ys,x=.ref a/\y=.ref b/\SqT X.K H a xs/\SqT X.K H b ys/\xs.length+ys.length<=sizeLine/\(xs=[]->Q (.ref b) H)/\(xs≠[]->ys=[]->Q (.ref a) H) /\
  (xs≠[]->ys≠[]->∀p,H p=none->Q (.ref p) (upd H p (.tup (xs++ys))))):=by
 intro pins s σ H x y v u Q I rx ry h
 obtain⟨a,b,xs,ys,rfl,rfl,ha,hb,hz,q1,q2,q3⟩:=h
 by_cases hx:xs=[]
 ·subst hx
  cases rx
  cases ry
  obtain⟨its,r1,p1,_⟩:=I.tuple ha
  obtain⟨its2,r2,p2,_⟩:=I.tuple hb
  obtain⟨⟨cls,dd,data,sl⟩,ho,hc,n,hd⟩:=id p1
  obtain⟨⟨cls2,dd2,data2,sl2⟩,ho2,hc2,n2,hd2⟩:=id p2
  simp only at hc hd hc2 hd2
  subst hc hd hc2 hd2
  have e1:its=[]:=r1.nil_iff.mpr rfl
  exact concat_meets ⟨_,ho,rfl⟩ ⟨_,ho2,rfl⟩ noFill_tuple_add seq_tuple_add PySem.F.slot_tuple_add PySem.F.entry_tuple_add (PySem.F.args_tuple_add_2 _ _)
   (tuple_addW0 a b its.toArray its2.toArray n n2 dd dd2 sl sl2 (by simp[e1])) ⟨ho,ho2,⟨.ref b,H,I,rfl,q1 rfl⟩⟩
 ·exact q16 pins s σ H (.ref a) (.ref b) v u Q I rx ry ⟨a,b,xs,ys,rfl,rfl,ha,hb,hx,hz,λe=>q2 hx e,λe p hp=>q3 hx e p hp⟩
theorem sl_tupP:SlR X (λx lo hi H Q=>∃a xs,x=.ref a/\SqT X.K H a xs/\((HT.sIx xs.length 0 lo=0/\HT.sIx xs.length xs.length hi=xs.length)->Q (.ref a) H) /\
  (¬ (HT.sIx xs.length 0 lo=0/\HT.sIx xs.length xs.length hi=xs.length)->∀p,H p=none->Q (.ref p) (upd H p (.tup (cutV xs lo hi))))):=by
 intro pins s σ H x v vl vu lo hi sl Q I rx hs pl pu h
 obtain⟨a,xs,rfl,hx,q1,q2⟩:=h
 by_cases hw:HT.sIx xs.length 0 lo=0/\HT.sIx xs.length xs.length hi=xs.length
 ·cases rx
  obtain⟨its,r,ht,hz⟩:=I.tuple hx
  have hlen:its.toArray.size=xs.length:=by rw[List.size_toArray];exact r.length.symm
  refine⟨"tuple",_,PyProof.Rows.slot_tuple_getitem.lookup,ht.typeIs,?_⟩
  exact HT.getItem_tuple_whole ht hs pl pu (by rw[hlen];exact hw) ⟨.ref a,H,I,rfl,q1 hw⟩
 ·exact q7b pins s σ H (.ref a) v vl vu lo hi sl Q I rx hs pl pu ⟨a,xs,rfl,hx,hw,q2 hw⟩
theorem Reps.append{ds es:List D}{xs ys:List V}(h1:Reps K B ds xs)(h2:Reps K B es ys):Reps K B (ds++es) (xs++ys):=by
 induction ds generalizing xs with
|nil=>unfold Reps at h1;subst h1;exact h2
|cons d ds ih =>
  unfold Reps at h1
  obtain⟨x,r,rfl,q1,q2⟩:=h1
  show Reps K B (d::(ds++es)) (x::(r++ys))
  unfold Reps
  exact⟨x,r++ys,rfl,q1,ih q2⟩
theorem Reps.nil:Reps K B [] []:=by unfold Reps;rfl
theorem Reps.cons{d:D}{ds:List D}{x:V}{xs:List V}(h1:Rep K B d x)(h2:Reps K B ds xs):Reps K B (d::ds) (x::xs):=by unfold Reps;exact⟨x,xs,rfl,h1,h2⟩
theorem Reps.one{d:D}{x:V}(h:Rep K B d x):Reps K B [d] [x]:=.cons h .nil
theorem Reps.drop:∀(n:Nat) {ds:List D} {xs:List V},Reps K B ds xs->Reps K B (ds.drop n) (xs.drop n)
|0,_,_,h=>h
|n+1,[],_,h=>by unfold Reps at h;subst h;exact .nil
|n+1,d::ds,_,h=>by
  unfold Reps at h
  obtain⟨x,r,rfl,q1,q2⟩:=h
  exact Reps.drop n q2
theorem Reps.take:∀(n:Nat) {ds:List D} {xs:List V},Reps K B ds xs->Reps K B (ds.take n) (xs.take n)
|0,_,_,_=>.nil
|n+1,[],_,h=>by unfold Reps at h;subst h;exact .nil
|n+1,d::ds,_,h=>by
  unfold Reps at h
  obtain⟨x,r,rfl,q1,q2⟩:=h
  exact .cons q1 (Reps.take n q2)
theorem Reps.cut{ds:List D}{xs:List V}(lo hi:Option Int)(h:Reps K B ds xs):Reps K B (cutL ds lo hi) (cutV xs lo hi):=by
 unfold cutL cutV
 rw[h.length]
 exact(h.drop _).take _
theorem Reps.ints(ns:List Int):Reps K B (ns.map D.int) (ns.map V.int):=by
 induction ns with
|nil=>exact .nil
|cons n ns ih=>exact .cons (qid (d:=.int n) rfl) ih
theorem Reps.strs:∀ {ss:List Str} {xs:List V},Reps K B (ss.map D.str) xs->xs=ss.map V.str
|[],_,h=>by unfold Reps at h;exact h
|s::ss,_,h=>by
  have h':Reps K B (.str s::ss.map D.str) _:=h
  unfold Reps at h'
  obtain⟨x,r,rfl,q1,q2⟩:=h'
  unfold Rep at q1
  rw[q1,Reps.strs q2]
  rfl
theorem Reps.bls:∀ {ss:List Bool} {xs:List V},Reps K B (ss.map D.bl) xs->xs=ss.map V.bl
|[],_,h=>by unfold Reps at h;exact h
|s::ss,_,h=>by
  have h':Reps K B (.bl s::ss.map D.bl) _:=h
  unfold Reps at h'
  obtain⟨x,r,rfl,q1,q2⟩:=h'
  unfold Rep at q1
  rw[q1,Reps.bls q2]
  rfl
theorem Reps.atI{ds:List D}{xs:List V}{i:Int}{d:D}(h:Reps K B ds xs)(e:L2.atI ds i=some d):∃x,L2.atI xs i=some x/\Rep K B d x:=by
 unfold L2.atI at e ⊢
 rw[←h.length]
 cases q:ixN ds.length i with
|none=>rw[q] at e;cases e
|some j =>
  rw[q] at e
  exact h.at e
def vAdd(rx ry:R)(Q:R->Prop):Prop:=match rx.d,ry.d with
|.int i,.int j=>Q (.val (.int (i+j)))
|.str a,.str b=>a.length+b.length<=sizeLine/\Q (.val (.str (a++b)))
|.tup a,.tup b=>a.length+b.length<=sizeLine/\Q (.val (.tup (a++b)))
|.lst a,.lst b=>a.length+b.length<=sizeLine/\Q (.own (.lst (a++b)))
|_,_=>False
theorem qa7:VO X (binaryOp .Add) vAdd:=by
 refine⟨_,op_add.or (op_add_str.or (op_catP.or q5l)),λB H x y rx ry Q Qd s px py h k=>?_⟩
 unfold vAdd at h
 split at h
 ·rename_i i j e1 e2
  exact .inl ⟨i,j,px.scal (by rw[e1];rfl),py.scal (by rw[e2];rfl),k _ _ B H (.refl s) (repV rfl) h⟩
 ·rename_i i j e1 e2
  exact .inr (.inl ⟨i,j,px.scal (by rw[e1];rfl),py.scal (by rw[e2];rfl),h.1,k _ _ B H (.refl s) (repV rfl) h.2⟩)
 ·rename_i ds es e1 e2
  obtain⟨a,xs,rfl,h1,r1⟩:=px.tup e1
  obtain⟨b,ys,rfl,h2,r2⟩:=py.tup e2
  refine .inr (.inr (.inl ⟨a,b,xs,ys,rfl,rfl,s.sqT h1.sq,s.sqT h2.sq,by rw[←r1.length,←r2.length];exact h.1,λz=>?_,λ_ z=>?_,λ_ _ p hp=>?_⟩))
  ·refine k _ _ B H (.refl s) ?_ h.2
   show Rep X.K B (.tup (ds++es)) _
   have e:ds=[]:=List.eq_nil_of_length_eq_zero (by rw[r1.length,z];rfl)
   unfold Rep
   exact⟨b,ys,rfl,by rw[e];exact h2,by rw[e];exact r2⟩
  ·refine k _ _ B H (.refl s) ?_ h.2
   show Rep X.K B (.tup (ds++es)) _
   have e:es=[]:=List.eq_nil_of_length_eq_zero (by rw[r2.length,z];rfl)
   unfold Rep
   exact⟨a,xs,rfl,by rw[e,List.append_nil];exact h1,by rw[e,List.append_nil];exact r1⟩
  ·exact k (.val (.tup (ds++es))) _ (upd B p (.tup (xs++ys))) _ (.new s hp) (qks (r1.append r2) (s.free hp)) h.2
 ·rename_i ds es e1 e2
  obtain⟨a,xs,rfl,h1,r1⟩:=px.lst s e1
  obtain⟨b,ys,rfl,h2,r2⟩:=py.lst s e2
  exact .inr (.inr (.inr ⟨a,b,xs,ys,rfl,rfl,h1,h2,by rw[←r1.length,←r2.length];exact h.1,λp hp=>k (.own (.lst (ds++es))) _ B _ (.grow s (qaw hp _)) ⟨p,rfl,hp,s.free hp,qco (r1.append r2)⟩ h.2⟩))
 ·exact h.elim
def vI2(C:Int->Int->Prop)(f:Int->Int->D)(rx ry:R)(Q:R->Prop):Prop:=match rx.d,ry.d with
|.int i,.int j=>C i j/\Q (.val (f i j))
|_,_=>False
def vI2'(f:Int->Int->D)(rx ry:R)(Q:R->Prop):Prop:=match rx.d,ry.d with
|.int i,.int j=>Q (.val (f i j))
|_,_=>False
theorem qzn{g:Value->Value->Sem Value}{C:Int->Int->Prop}{f:Int->Int->D}{f':Int->Int->V}(hf:∀i j,dV (f i j)=some (f' i j))(h:OpR X g (rI C f')):VO X g (vI2 C f):=by
 refine⟨_,h,λB H x y rx ry Q Qd s px py h k=>?_⟩
 unfold vI2 at h
 split at h
 ·rename_i i j e1 e2
  exact⟨i,j,px.scal (by rw[e1];rfl),py.scal (by rw[e2];rfl),h.1,k _ _ B H (.refl s) (repV (hf i j)) h.2⟩
 ·exact h.elim
theorem qqr{g:Value->Value->Sem Value}{f:Int->Int->D}{f':Int->Int->V}(hf:∀i j,dV (f i j)=some (f' i j))(h:OpR X g (rI0 f')):VO X g (vI2' f):=by
 refine⟨_,h,λB H x y rx ry Q Qd s px py h k=>?_⟩
 unfold vI2' at h
 split at h
 ·rename_i i j e1 e2
  exact⟨i,j,px.scal (by rw[e1];rfl),py.scal (by rw[e2];rfl),k _ _ B H (.refl s) (repV (hf i j)) h⟩
 ·exact h.elim
abbrev vSub:=vI2' λi j=>.int (i-j)
abbrev vMul:=vI2 CMul λi j=>.int (i*j)
abbrev vDiv:=vI2 CDiv λi j=>.int (i / j)
abbrev vMod:=vI2 (λ_ j=>0<j) λi j=>.int (i%j)
abbrev vPow:=vI2 CPow λi j=>.int (i ^ j.toNat)
abbrev vLt:=vI2' λi j=>.bl (decide (i<j))
abbrev vLe:=vI2' λi j=>.bl (decide (i<=j))
abbrev vGt:=vI2' λi j=>.bl (decide (j<i))
abbrev vGe:=vI2' λi j=>.bl (decide (j<=i))
theorem q0t:VO X (binaryOp .Sub) vSub:=qqr (λ_ _=>rfl) q5s
theorem qv9:VO X (binaryOp .Mult) vMul:=qzn (λ_ _=>rfl) q5p
theorem qm0:VO X (binaryOp .FloorDiv) vDiv:=qzn (λ_ _=>rfl) q17
theorem qdj:VO X (binaryOp .Mod) vMod:=qzn (λ_ _=>rfl) q5o
theorem q0s:VO X (binaryOp .Pow) vPow:=qzn (λ_ _=>rfl) q5r
theorem q7w:VO X (compareOp .Lt) vLt:=qqr (λ_ _=>rfl) q8h
theorem q7v:VO X (compareOp .LtE) vLe:=qqr (λ_ _=>rfl) q8g
theorem qjc:VO X (compareOp .Gt) vGt:=qqr (λ_ _=>rfl) q8f
def vEq(rx ry:R)(Q:R->Prop):Prop:=cmpD rx.d ry.d=true/\depD rx.d<=50/\Q (.val (.bl (eqD rx.d ry.d)))
theorem qcc(hu:X.A.units+64<cLine):VO X (compareOp .Eq) vEq :=
 ⟨_,q5m (by lia),λB H x y rx ry Q Qd s px py h k=>⟨rx.d,ry.d,px.rep s,py.rep s,h.1,h.2.1,k _ _ B H (.refl s) (repV rfl) h.2.2⟩⟩
def vNe(rx ry:R)(Q:R->Prop):Prop:=match dV rx.d,dV ry.d with
|some u,some w=>scal u w=true/\Q (.val (.bl (!decide (u=w))))
|_,_=>False
def vSlR(rx:R)(lo hi:Option Int)(Q:R->Prop):Prop:=match rx.d with
|.str z=>z.length<=sizeLine/\Q (.val (.str (Txt.slice z lo hi)))
|.tup ds=>Q (.val (.tup (cutL ds lo hi)))
|.lst ds=>Q (.own (.lst (cutL ds lo hi)))
|.scr ns=>Q (.own (.lst ((cutL ns lo hi).map D.int)))
|_=>False
abbrev TVO:=VSt->(Option Int->Prop)->Prop
def qc7:TVO:=λ_ Q=>Q none
def qhb(te:TV):TVO:=λτ Q=>te τ λr=>match r.d with
|.int i=>Q (some i)
|_=>False
def RfOp(K:PySem.W.Frag)(to:TO)(t:TVO):Prop:=∀(H0 B H:Hp) (τ:VSt) (σ:St) (Q:Option Int->Hp->Prop) (Qd:Option Int->Prop),Same B H->Slots K H0 B H τ σ->t τ Qd->(∀o B' H',Stp B H B' H'->Qd o->Q o H')->to σ H Q
structure VPt(X:Cx)(EX:St->XK)(e:Option Expr)(t:TVO):Prop where
 u:∃to,QO X e to/\RfOp X.K to t
variable {e:Expr} {te ta:TV} {es:List Expr} {lo hi:Option Expr} {tl th:TVO} {pos p p2 apos cpos:Pos} {x:Str}
theorem qew:VPt X EX none qc7:=⟨_,q28,λ_ B H _ _ _ _ s _ h k=>k _ B H (.refl s) h⟩
theorem qex(h:VE X EX e te):VPt X EX (some e) (qhb te):=let ⟨_,a1,a2⟩:=h.u;⟨_,q29 a1,λH0 B H τ σ Q Qd s S h k=>a2 H0 B H τ σ _ _ s S h (xno λ_ q=>q) λr v B' H' p q h1=>by
  split at h1
  ·rename_i i e
   exact⟨i,q.pk.scal (by rw[e];rfl),k _ B' H' p h1⟩
  ·exact h1.elim⟩
def qei(te:TV)(tl th:TVO):TV:=λτ Q=>te τ λr=>exR r Q (tl τ λl=>th τ λu=>vSlR r l u Q)
theorem qdn(he:VE X EX e te)(hl:VPt X EX lo tl)(hh:VPt X EX hi th):VE X EX (.Subscript e (.Slice lo hi none p2) pos) (qei te tl th) :=
 let ⟨_,a1,a2⟩:=he.u;let ⟨_,b1,b2⟩:=hl.u;let ⟨_,c1,c2⟩:=hh.u;⟨_,qyt (sl_str.or (sl_tupP.or q3q)) a1 b1 c1,λH0 B H τ σ Q Qd s S h xc k =>
  a2 H0 B H τ σ _ _ s S h xc λr v B1 H1 p1 q1 h1=>b2 H0 B1 H1 τ σ _ _ p1.s (S.step p1) (q1.ok h1) λl B2 H2 p2 h2=>c2 H0 B2 H2 τ σ _ _ p2.s (S.step (p1.trans p2)) h2 λu B3 H3 p3 h3=>by
   have p12:=p1.trans p2
   have pp:=p12.trans p3
   have pk:=(q1.pk.step p2).step p3
   unfold vSlR at h3
   split at h3
   ·rename_i z ez
    cases pk.scal (z:=.str z) (by rw[ez];rfl)
    exact .inl ⟨z,rfl,h3.1,k _ _ B3 H3 pp (repV rfl) h3.2⟩
   ·rename_i ds ed
    obtain⟨a,xs,rfl,h1,r1⟩:=pk.tup ed
    refine .inr (.inl ⟨a,xs,rfl,p3.s.sqT h1.sq,λw=>?_,λw p hp=>?_⟩)
    ·refine k _ _ B3 H3 pp ?_ h3
     show Rep X.K B3 (.tup (cutL ds l u)) _
     unfold Rep
     have hc:cutL ds l u=ds:=by
      unfold cutL
      rw[r1.length,w.1,w.2,List.drop_zero,Nat.sub_zero,←r1.length,List.take_length]
     rw[hc]
     exact⟨a,xs,rfl,h1,r1⟩
    ·exact k (.val (.tup (cutL ds l u))) _ (upd B3 p (.tup (cutV xs l u))) _ (pp.trans (.new p3.s hp)) (qks (r1.cut l u) (p3.s.free hp)) h3
   ·rename_i ds ed
    obtain⟨a,xs,rfl,h1,r1⟩:=pk.lst p3.s ed
    exact .inr (.inr ⟨a,xs,rfl,SqL.of h1,λp hp=>k (.own _) _ B3 _ (pp.trans (.grow p3.s (qaw hp _))) ⟨p,rfl,pp.h.free hp,p3.s.free hp,qco (r1.cut l u)⟩ h3⟩)
   ·rename_i ns en
    obtain⟨a,rfl,h1⟩:=pk.scr p3.s en
    refine .inr (.inr ⟨a,_,rfl,h1,λp hp=>k (.own _) _ B3 _ (pp.trans (.grow p3.s (qaw hp _))) ⟨p,rfl,pp.h.free hp,p3.s.free hp,?_⟩ h3⟩)
    rw[qw6]
    exact qco (.ints _)
   ·exact h3.elim⟩
def vIxR(rx ry:R)(Q:R->Prop):Prop:=match rx.d,ry.d with
|.str z,.int i=>z.length<=sizeLine/\∃c,atI z.cps.toList i=some c/\Q (.val (.str ⟨#[c]⟩))
|.tup ds,.int i=>∃d,atI ds i=some d/\Q (.val d)
|.lst ds,.int i=>∃d,atI ds i=some d/\Q (.val d)
|.scr ns,.int i=>∃n,atI ns i=some n/\Q (.val (.int n))
|_,_=>False
theorem qar:VX X vIxR:=by
 refine⟨_,ix_str.or (ix_tup.or q1i),λB H x y rx ry Q Qd s px py h k=>?_⟩
 unfold vIxR at h
 split at h
 ·rename_i z i e1 e2
  obtain⟨hz,c,hc,q⟩:=h
  exact .inl ⟨z,i,c,px.scal (by rw[e1];rfl),py.scal (by rw[e2];rfl),hz,hc,k _ _ B H (.refl s) (repV rfl) q⟩
 ·rename_i ds i e1 e2
  obtain⟨d,hd,q⟩:=h
  obtain⟨a,xs,rfl,h1,r1⟩:=px.tup e1
  obtain⟨w,hw,rw'⟩:=r1.atI hd
  exact .inr (.inl ⟨a,xs,i,w,rfl,py.scal (by rw[e2];rfl),s.sqT h1.sq,hw,k (.val d) _ B H (.refl s) rw' q⟩)
 ·rename_i ds i e1 e2
  obtain⟨d,hd,q⟩:=h
  obtain⟨a,xs,rfl,h1,r1⟩:=px.lst s e1
  obtain⟨w,hw,rw'⟩:=r1.atI hd
  exact .inr (.inr ⟨a,xs,i,w,rfl,py.scal (by rw[e2];rfl),SqL.of h1,hw,k (.val d) _ B H (.refl s) rw' q⟩)
 ·rename_i ns i e1 e2
  obtain⟨n,hn,q⟩:=h
  obtain⟨a,rfl,h1⟩:=px.scr s e1
  exact .inr (.inr ⟨a,_,i,_,rfl,py.scal (by rw[e2];rfl),h1,q4p hn,k _ _ B H (.refl s) (repV rfl) q⟩)
 ·exact h.elim
def vLen(rx:R)(Q:R->Prop):Prop:=match rx.d with
|.str z=>z.length<=sizeLine/\Q (.val (.int z.length))
|.tup ds=>Q (.val (.int ds.length))
|.lst ds=>Q (.val (.int ds.length))
|.scr ns=>Q (.val (.int ns.length))
|_=>False
theorem qbc:VF X (.builtin "len") vLen:=by
 refine⟨_,call_len_str.or qlo,λB H x rx Q Qd s px h k=>?_⟩
 unfold vLen at h
 split at h
 ·rename_i z e1
  exact .inl ⟨z,by rw[px.scal (z:=.str z) (by rw[e1];rfl)],h.1,k _ _ B H (.refl s) (repV rfl) h.2⟩
 ·rename_i ds e1
  obtain⟨a,xs,rfl,h1,r1⟩:=px.tup e1
  exact .inr ⟨a,xs,rfl,.inr (s.sqT h1.sq),k _ _ B H (.refl s) (repV rfl) (by rw[r1.length] at h;exact h)⟩
 ·rename_i ds e1
  obtain⟨a,xs,rfl,h1,r1⟩:=px.lst s e1
  exact .inr ⟨a,xs,rfl,.inl (SqL.of h1),k _ _ B H (.refl s) (repV rfl) (by rw[r1.length] at h;exact h)⟩
 ·rename_i ns e1
  obtain⟨a,rfl,h1⟩:=px.scr s e1
  exact .inr ⟨a,_,rfl,.inl h1,k (.val (.int ns.length)) _ B H (.refl s) (by rw[List.length_map];exact repV rfl) h⟩
 ·exact h.elim
def qpb(rx:R)(Q:R->Prop):Prop:=match rx.d with
|.tup ds=>Q (.own (.lst ds))
|.lst ds=>Q (.own (.lst ds))
|.scr ns=>Q (.own (.lst (ns.map D.int)))
|_=>False
theorem qv8:VF X (.type "list") qpb:=by
 refine⟨_,qlq,λB H x rx Q Qd s px h k=>?_⟩
 unfold qpb at h
 split at h
 ·rename_i ds e1
  obtain⟨a,xs,rfl,h1,r1⟩:=px.tup e1
  exact⟨a,xs,rfl,.inr (s.sqT h1.sq),λp hp=>k (.own _) _ B _ (.grow s (qaw hp _)) ⟨p,rfl,hp,s.free hp,qco r1⟩ h⟩
 ·rename_i ds e1
  obtain⟨a,xs,rfl,h1,r1⟩:=px.lst s e1
  exact⟨a,xs,rfl,.inl (SqL.of h1),λp hp=>k (.own _) _ B _ (.grow s (qaw hp _)) ⟨p,rfl,hp,s.free hp,qco r1⟩ h⟩
 ·rename_i ns e1
  obtain⟨a,rfl,h1⟩:=px.scr s e1
  exact⟨a,_,rfl,.inl h1,λp hp=>k (.own _) _ B _ (.grow s (qaw hp _)) ⟨p,rfl,hp,s.free hp,qco (.ints ns)⟩ h⟩
 ·exact h.elim
def qv6(rx:R)(Q:R->Prop):Prop:=match rx.d with
|.tup ds=>Q (.val (.tup ds))
|.lst ds=>Q (.val (.tup ds))
|_=>False
def vStr(rx:R)(Q:R->Prop):Prop:=match rx.d with
|.int i=>i.natAbs.log2<1920/\Q (.val (.str (toString i)))
|_=>False
theorem q7t:VF X (.type "str") vStr:=by
 refine⟨_,qlr,λB H x rx Q Qd s px h k=>?_⟩
 unfold vStr at h
 split at h
 ·rename_i i e1
  exact⟨i,by rw[px.scal (z:=.int i) (by rw[e1];rfl)],h.1,k _ _ B H (.refl s) (repV rfl) h.2⟩
 ·exact h.elim
def vAll(g:List Bool->Bool)(rx:R)(Q:R->Prop):Prop:=∃bs:List Bool,rx.d=.lst (bs.map D.bl)/\Q (.val (.bl (g bs)))
theorem q0q(hc:X.calm=true):VF X (.builtin "all") (vAll λbs=>bs.all id):=by
 refine⟨_,qs9 hc,λB H x rx Q Qd s px ⟨bs,e1,h⟩ k=>?_⟩
 obtain⟨a,xs,rfl,h1,r1⟩:=px.lst s e1
 exact⟨a,bs,rfl,SqL.of (by rw[h1,r1.bls]),k _ _ B H (.refl s) (repV rfl) h⟩
def vMM(f:Int->Int->Int)(ta tb:TV):TV:=λτ Q=>ta τ λrx=>exR rx (λ_=>False) <| tb τ λry=>match rx.d,ry.d with
|.int i,.int j=>Q (.val (.int (f i j)))
|_,_=>False
theorem q9b{id:String}{a b:Expr}{ta tb:TV}{f:Int->Int->Int}(hc:CallR X (.builtin id) (λxs H Q=>∃i j,xs=[.int i,.int j]/\Q (.int (f i j)) H))(hg:Gl X x)(hm:X.mg x=none)(hv:bootBuiltins x=some (.builtin id))(ha:VE X EX a ta)(hb:VE X EX b tb)
  (hp:qav a=true:=by rfl) (hp2:qav b=true:=by rfl) (hn:x≠"__name__" := by decide) (hdb:(x==("__debug__" : Str))=false:=by decide):VE X EX (.Call (.Name x p) [a,b] [] pos) (vMM f ta tb) :=
 let ⟨_,a1,a2⟩:=ha.u;let ⟨_,b1,b2⟩:=hb.u;⟨_,qcb hc hg hm hv (qac a1 (qac b1 qdi hp2) hp) (by simp[hp,hp2]) hn hdb,λH0 B H τ σ Q Qd s S h xc k =>
  a2 H0 B H τ σ _ _ s S h (xno λ_ q=>q) λrx x B1 H1 p1 q1 h1=>b2 H0 B1 H1 τ σ _ _ p1.s (S.step p1) (q1.ok h1) (xno λ_ q=>by revert q;cases rx.d<;>exact λz=>z) λry y B2 H2 p2 q2 h2=>by
   split at h2
   ·rename_i i j e1 e2
    exact⟨i,j,by rw[q1.pk.scal (z:=.int i) (by rw[e1];rfl),q2.pk.scal (z:=.int j) (by rw[e2];rfl)],k _ _ B2 H2 (p1.trans p2) (repV rfl) h2⟩
   ·exact h2.elim⟩
inductive Ty5 where
|str|tuple|list|int|bool
def Ty5.nm:Ty5->String
|.str=>"str"|.tuple=>"tuple"|.list=>"list"|.int=>"int"|.bool=>"bool"
def isTy:Ty5->D->Option Bool
|_,.non=>some false
|c,.bl _=>some (match c with|.bool=>true|.int=>true|_=>false)
|c,.int _=>some (match c with|.int=>true|_=>false)
|c,.str _=>some (match c with|.str=>true|_=>false)
|c,.tup _=>some (match c with|.tuple=>true|_=>false)
|c,.lst _=>some (match c with|.list=>true|_=>false)
|_,_=>none
def nmTy:D->String
|.non=>"NoneType"|.bl _=>"bool"|.int _=>"int"|.str _=>"str"|.tup _=>"tuple"|_=>"list"
theorem qxk{d:D}{c:Ty5}{b:Bool}(h:isTy c d=some b):PySem.W.kitOne K (.type (nmTy d)) (.type c.nm)=some b:=by
 cases d<;>cases c<;>first|(cases h;with_unfolding_all rfl;done)|(cases h;exact qxl;done)|(cases h;done)
theorem qxg{pins:List (Addr×Obj)}{s:Shared}{σ:St}{H:Hp}{v:V}{u:Value}{d:D}{c:Ty5}{b:Bool}{A:Around}{Q:Value->Shared->Prop}{E:Value->Shared->Prop}(I:Inv X pins σ H s)(rx:RelV v u)(h:Rep X.K H d v)(e:isTy c d=some b)
  (q:∀tk,Q (.bool b) { s with toks:=tk }):wpAny (model X.prog X.w) A (call (.builtin "isinstance") [u,.type c.nm]) Q E s:=by
 have kt:=qxk (K:=X.K) e
 cases d with
|non=>unfold Rep at h;subst h;exact qen I rx .non kt q
|bl b=>unfold Rep at h;subst h;exact qen I rx (.bl _) kt q
|int b=>unfold Rep at h;subst h;exact qen I rx (.int _) kt q
|str b=>unfold Rep at h;subst h;exact qen I rx (.str _) kt q
|tup ds =>
  unfold Rep at h
  obtain⟨a,xs,rfl,ha,_⟩:=h
  cases (show u=Value.ref a from rx)
  obtain⟨its,_,⟨o,h1,h2,_⟩,_⟩:=I.tuple ha.sq
  exact PySem.W.kia_one PySem.W.kitx_tuple I.kIn ⟨o,h1,h2⟩ kt (λz=>nomatch z) q
|lst ds =>
  unfold Rep at h
  obtain⟨a,xs,rfl,ha,_⟩:=h
  exact qen I rx (.lst ha) kt q
|dT _ _=>cases e
|dK _ _=>cases e
|scr _=>cases e
|kt _=>cases e
|exc _=>cases e
|io _ _=>cases e
|ioT _ _ _=>cases e
theorem qw0(c:Ty5):CallR X (.builtin "isinstance") (λxs H Q=>∃x d b,xs=[x,.ty c.nm]/\Rep X.K H d x/\isTy c d=some b/\Q (.bl b) H):=by
 intro pins s σ H xs us Q I r h
 obtain⟨x,d,b,rfl,ty,e,q⟩:=h
 obtain⟨u,v,rfl,ru,rv⟩:=vals2 r
 cases (show v=Value.type c.nm from rv)
 exact qxg I ru ty e λtk=>⟨.bl b,H,I.tok tk,rfl,q⟩
def qjb(c:Ty5)(ta:TV):TV:=λτ Q=>ta τ λr=>exR r (λ_=>False) <| match isTy c r.d with
|some b=>Q (.val (.bl b))
|none=>False
theorem qgq{a:Expr}{pb:Pos}{y:Str}(c:Ty5)(hg:Gl X "isinstance")(hm:X.mg "isinstance" = none)(hgy:Gl X y)(hmy:X.mg y=none)(hby:bootBuiltins y=some (.type c.nm))(ha:VE X EX a ta)(hp:qav a=true:=by rfl)(hny:y≠"__name__" := by decide)(hdy:(y==("__debug__" : Str))=false:=by decide) :
  VE X EX (.Call (.Name "isinstance" p) [a,.Name y pb] [] pos) (qjb c ta) :=
 let ⟨_,a1,a2⟩:=ha.u;⟨_,qcb (qw0 c) hg hm PyProof.Rows.Boot.«isinstance» (qac a1 (qac (qu8 (v:=.ty c.nm) hgy hmy hby rfl hny hdy) qdi rfl) hp) (by rw[List.all_cons,hp];rfl),λH0 B H τ σ Q Qd s S h xc k=>a2 H0 B H τ σ _ _ s S h (xno λ_ q=>q) λr v B1 H1 p1 q1 h1=>by
   have h1:=q1.ok h1
   split at h1
   ·rename_i b eb
    exact⟨v,r.d,b,rfl,q1.pk.rep p1.s,eb,k _ _ B1 H1 p1 (repV rfl) h1⟩
   ·exact h1.elim⟩
end
end L2
namespace L2
open PySem PySem.Spec PyProof.Rows
section
variable {X:Cx} {EX:St->XK} {K:PySem.W.Frag} {B H B' H' H0 B0 B1 H1:Hp} {st:Stmt} {rest:List Stmt} {t u:TVS} {e a c o:Expr} {te ta:TV} {tT:TVT} {tA:TVA} {es:List Expr} {pos pos' p p2 apos cpos:Pos} {x:Str} {τ:VSt} {σ:St}
theorem Stp.base(p:Stp B0 H0 B1 H1)(q:Stp B1 H0 B' H'):Stp B0 H0 B' H':=⟨p.b.trans q.b,q.h,q.s,λa h=>(q.d a h).elim (p.d a) .inr⟩
theorem Stp.here(p:Stp B0 H0 B1 H1):Stp B1 H0 B1 H1:=⟨Same.refl _,p.h,p.s,λ_ h=>.inl h⟩
theorem EndsOk.base{Dv:VEnds}{Dh:Ends}(E:EndsOk K EX B0 H0 Dv Dh)(p:Stp B0 H0 B1 H1):EndsOk K EX B1 H0 Dv Dh :=
 ⟨λB H τ σ q=>E.nx B H τ σ (p.base q),λr v B H q=>E.rt r v B H (p.base q),λB H τ σ q=>E.bk B H τ σ (p.base q),λB H τ σ q=>E.ct B H τ σ (p.base q),λB H τ σ n C q=>E.xc B H τ σ n C (p.base q),λr v B H τ σ q=>E.ro r v B H τ σ (p.base q)⟩
def exS(τ:VSt)(Dv:VEnds):R->Prop->Prop
|.exc n,_=>Dv.xc τ n
|.val _,k=>k
|.own _,k=>k
|.peek _,k=>k
theorem RepR.okS{r:R}{v:V}{τ:VSt}{Dv:VEnds}{k:Prop}(h:RepR K B H0 H r v)(q:exS τ Dv r k):k:=by
 cases r with
|exc n=>exact h.elim
|val d=>exact q
|own d=>exact q
|peek d=>exact q
theorem EndsOk.raised{Dv:VEnds}{Dh:Ends}(E:EndsOk K EX B0 H0 Dv Dh)(p:Stp B0 H0 B H)(S:Slots K H0 B H τ σ):∀n C B' H',Stp B H B' H'->clsOf K n C->Dv.xc τ n->EX σ (.ref C) none H':=λn C B' H' q c h=>E.xc B' H' τ σ n C (p.trans q) (S.step q) c h
def qa9:TVS:=λDv τ=>Dv.nx τ
def vSeq(t u:TVS):TVS:=λDv τ=>t { Dv with nx:=u Dv } τ
theorem qan:VSs X EX [] qa9:=⟨_,q3a,λB0 H0 B H τ σ Dv Dh p S h E=>E.nx B H τ σ p S h⟩
theorem qag(h:VS X EX st t):VSs X EX [st] t:=let ⟨_,a1,a2⟩:=h.u;⟨_,q3b a1,a2⟩
theorem qab(h:VS X EX st t)(r:VSs X EX rest u):VSs X EX (st::rest) (vSeq t u) :=
 let ⟨_,a1,a2⟩:=h.u;let ⟨_,b1,b2⟩:=r.u;⟨_,qyy a1 b1,λB0 H0 B H τ σ Dv Dh p S h E=>a2 B0 H0 B H τ σ _ _ p S h ⟨λB H τ σ p S h=>b2 B0 H0 B H τ σ _ _ p S h E,E.rt,E.bk,E.ct,E.xc,E.ro⟩⟩
def vFrz(i:Nat)(t:TVS):TVS:=λDv τ=>t Dv (frz i τ)
theorem qwc(i:Nat)(h:VSs X EX rest t):VSs X EX rest (vFrz i t) :=
 let ⟨_,a1,a2⟩:=h.u;⟨_,a1,λB0 H0 B H τ σ Dv Dh p S h E=>by
  obtain⟨B2,p2,_,S2⟩:=S.frz p i
  exact a2 B0 H0 B2 H _ σ _ _ p2 S2 h E⟩
def vIfS(c:TVT)(t u:TVS):TVS:=λDv τ=>c τ λb=>if b=true then t Dv τ else u Dv τ
theorem qbg{sa sb:List Stmt}(hc:VT X EX c tT)(ha:VSs X EX sa t)(hb:VSs X EX sb u):VS X EX (.If c sa sb pos) (vIfS tT t u) :=
 let ⟨_,c1,c2⟩:=hc.u;let ⟨_,a1,a2⟩:=ha.u;let ⟨_,b1,b2⟩:=hb.u;⟨_,q82 c1 a1 b1,λB0 H0 B H τ σ Dv Dh p S h E=>c2 H0 B H τ σ _ _ p.s S h λcb B' H' q hq=>by
  cases cb with
 |true=>exact iteT (a2 B0 H0 B' H' τ σ _ _ (p.trans q |> λz=>⟨z.b,z.h,z.s,z.d⟩) (S.step q) (by rw[if_pos rfl] at hq;exact hq) E)
  | false=>exact iteF (b2 B0 H0 B' H' τ σ _ _ (p.trans q) (S.step q) (by rw[if_neg Bool.false_ne_true] at hq;exact hq) E)⟩
def vRet(te:TV):TVS:=λDv τ=>te τ λr=>exS τ Dv r (pubR r λ_=>Dv.rt r)
theorem qaq(h:VE X EX e te):VS X EX (.Return (some e) pos) (vRet te) :=
 let ⟨_,a1,a2⟩:=h.u;⟨_,qvb a1,λB0 H0 B H τ σ Dv Dh p S h E=>a2 H0 B H τ σ _ _ p.s S h (E.raised p S) λr v B' H' q hr hq=>by
  cases r with
 |val d=>exact E.rt (.val d) v B' H' (p.trans q) hr hq
 |own d=>exact E.rt (.own d) v B' H' (p.trans q) (hr.back p.h) hq
 |peek d=>exact hq.elim
  | exc n=>exact hr.elim⟩
def qpc(i:Nat):TVS:=λDv τ=>match τ[i]? with
|some (some (.own d))=>Dv.rt (.own d)
|some (some (.val d))=>Dv.rt (.val d)
|_=>False
theorem qwb(i:Nat)(hN:X.N[i]?=some x:=by rfl)(hv:Vis X.env.scope x:=by first|exact Or.inl rfl|exact Or.inr (Or.inl rfl)|exact Or.inr (Or.inr rfl))(hd:(x==("__debug__" : Str))=false:=by decide)
  (hcd:(x==("__classdict__" : Str))=false:=by decide):VS X EX (.Return (some (.Name x pos')) pos) (qpc i) :=
 ⟨_,qvb (qv i hN hv hd hcd),λB0 H0 B H τ σ Dv Dh p S h E=>by
  unfold qpc at h
  split at h
  ·rename_i d e
   obtain⟨a,q,h0,hb,ow⟩:=S.own i d e
   exact⟨.ref a,q,E.rt (.own d) _ B H p ⟨a,rfl,h0,hb,ow⟩ h⟩
  ·rename_i d e
   obtain⟨v,q,rp⟩:=S.val i d e
   exact⟨v,q,E.rt (.val d) _ B H p rp h⟩
  ·exact h.elim⟩
def q3y:TVS:=λDv _=>Dv.rt (.val .non)
def qmp(te:TV):TVS:=λDv τ=>te τ λr=>exS τ Dv r (Dv.nx τ)
theorem qk9(h:VE X EX e te)(hs:swapsWith e none pos.line X.env=pure false:=by rfl):VS X EX (.Expr e pos) (qmp te) :=
 let ⟨_,a1,a2⟩:=h.u;⟨_,qou a1 hs,λB0 H0 B H τ σ Dv Dh p S h E=>a2 H0 B H τ σ _ _ p.s S h (E.raised p S) λr v B' H' q hr hq=>E.nx B' H' τ σ (p.trans q) (S.step q) (hr.okS hq)⟩
def vSet(i:Nat)(te:TV):TVS:=λDv τ=>te τ λr=>exS τ Dv r (pubR r λd=>Dv.nx (τ.set i (some (.val d))))
theorem q64{i:Nat}{ee:TE}(h:RfE K EX ee te):RfS K EX (tAsg ee (qq4 i)) (vSet i te):=λB0 H0 B H τ σ Dv Dh p S hh E=>h H0 B H τ σ _ _ p.s S hh (E.raised p S) λr v B' H' q hr hq=>by
 obtain⟨d,B2,q2,_,rp,hd⟩:=pub q hr (hr.okS hq)
 exact E.nx B2 H' _ _ (p.trans q2) ((S.step q2).setVal i rp) hd
def qgo(i:Nat)(te:TV):TVS:=λDv τ=>te τ λr=>exS τ Dv r (pubR r λ_=>Dv.nx (τ.set i (some r)))
theorem q3j{i:Nat}{ee:TE}(h:RfE K EX ee te):RfS K EX (tAsg ee (qq4 i)) (qgo i te):=λB0 H0 B H τ σ Dv Dh p S hh E=>h H0 B H τ σ _ _ p.s S hh (E.raised p S) λr v B' H' q hr hq=>by
 cases r with
|val d=>exact E.nx B' H' _ _ (p.trans q) ((S.step q).setVal i hr) hq
|own d =>
  obtain⟨a,rfl,h0,hb,ow⟩:=hr
  refine E.nx B' H' _ _ (p.trans q) ((S.step q).setOwn i (p.h.free h0) hb ow λj e he z=>?_) hq
  obtain⟨c,qc,_,_,oc⟩:=S.own j e he
  rw[z] at qc
  cases qc
  exact oc.some h0
|peek d=>exact hq.elim
|exc n=>exact hr.elim
theorem qam{i:Nat}(hN:X.N.Nodup)(hi:X.N[i]?=some x)(hx:Loc X.env.scope x)(h:VE X EX e te)(hs:swapsWith e (some (.Name x pos')) pos.line X.env=pure false:=by rfl)
  (hf:X.fn x=true\/X.env.scope.names.lookup x=some .local:=by first|exact .inl rfl|exact .inr rfl|assumption):VS X EX (.Assign [.Name x pos'] e pos) (vSet i te):=let ⟨_,a1,a2⟩:=h.u;⟨_,qme hN hi hx a1 hs hf,q64 a2⟩
theorem qey{i:Nat}(hN:X.N.Nodup)(hi:X.N[i]?=some x)(hx:Loc X.env.scope x)(h:VE X EX e te)(hs:swapsWith e (some (.Name x pos')) pos.line X.env=pure false:=by rfl)
  (hf:X.fn x=true\/X.env.scope.names.lookup x=some .local:=by first|exact .inl rfl|exact .inr rfl|assumption):VS X EX (.Assign [.Name x pos'] e pos) (qgo i te):=let ⟨_,a1,a2⟩:=h.u;⟨_,qme hN hi hx a1 hs hf,q3j a2⟩
def qbf(i:Nat):TVG:=λd τ Q=>Q (τ.set i (some (.val d)))
theorem q5d{i:Nat}{d:D}{v:V}:Kp τ σ (τ.set i (some (.val d))) (σ.set i (some v)):=λj e h=>by
 rcases qbd h with ⟨rfl,z,l⟩|⟨n,h⟩
 ·cases z
 ·exact⟨h,List.getElem?_set_ne n⟩
theorem Kp.trans{τ1 τ2 τ3:VSt}{σ1 σ2 σ3:St}(h1:Kp τ1 σ1 τ2 σ2)(h2:Kp τ2 σ2 τ3 σ3):Kp τ1 σ1 τ3 σ3:=λj e h=>let ⟨a,b⟩:=h2 j e h;let ⟨c,d⟩:=h1 j e a;⟨c,b.trans d⟩
theorem qba{i:Nat}(hN:X.N.Nodup)(hi:X.N[i]?=some x)(hx:Loc X.env.scope x)(hf:X.fn x=true\/X.env.scope.names.lookup x=some .local:=by first|exact .inl rfl|exact .inr rfl|assumption):VG X (.Name x pos) (qbf i) :=
 ⟨_,q23 hN hi hx hf,λH0 B H τ σ v d Q Qd s S rp h k=>k _ _ (S.setVal i rp) q5d h⟩
def qk5:List D->VSt->(VSt->Prop)->Prop:=λds τ Q=>ds=[]/\Q τ
def qcp(g:TVG)(gs:List D->VSt->(VSt->Prop)->Prop):List D->VSt->(VSt->Prop)->Prop:=λds τ Q=>match ds with
|d::r=>g d τ λτ'=>gs r τ' Q
|[]=>False
theorem qiy:VGs X [] qk5:=⟨_,q24,λH0 B H τ σ xs ds Q Qd s S rp h k=>by
 obtain⟨rfl,h⟩:=h
 unfold Reps at rp
 exact⟨rp,k τ σ S (λj e h=>⟨h,rfl⟩) h⟩⟩
theorem qbr{g:TVG}{gs:List D->VSt->(VSt->Prop)->Prop}(h1:VG X e g)(h2:VGs X es gs)(hs:(assignEach (e::es) X.env).map (·.2)=assign e X.env::(assignEach es X.env).map (·.2):=by rfl):VGs X (e::es) (qcp g gs) :=
 let ⟨_,a1,a2⟩:=h1.u;let ⟨_,b1,b2⟩:=h2.u;⟨_,qyu a1 b1 hs,λH0 B H τ σ xs ds Q Qd s S rp h k=>by
  cases ds with
 |nil=>exact h.elim
 |cons d ds =>
   unfold Reps at rp
   obtain⟨v,r,rfl,r1,r2⟩:=rp
   exact⟨v,r,rfl,a2 H0 B H τ σ v d _ _ s S r1 h λτ' σ' S' kp h'=>b2 H0 B H τ' σ' r ds _ _ s S' r2 h' λτ2 σ2 S2 kp2 h2=>k τ2 σ2 S2 (kp.trans kp2) h2⟩⟩
def qk6(n:Nat)(gs:List D->VSt->(VSt->Prop)->Prop):TVG:=λd τ Q=>match d with
|.tup ds=>ds.length=n/\gs ds τ Q
|_=>False
theorem qmy{k:Nat}{gs:List D->VSt->(VSt->Prop)->Prop}{n:Nat}(hc:X.calm=true)(h:VGs X es gs)(hn:(assignEach es X.env).length=n:=by rfl)(hst:(assignEach es X.env).findIdx? (·.1)=none:=by rfl):VG X (.Tuple es k pos) (qk6 n gs) :=
 let ⟨_,a1,a2⟩:=h.u;⟨_,q6o hc a1 hn hst,λH0 B H τ σ v d Q Qd s S rp h k=>by
  cases d with
 |tup ds =>
   unfold Rep at rp
   obtain⟨a,xs,rfl,ha,r⟩:=rp
   exact⟨a,xs,rfl,s.sqT ha.sq,by rw[←r.length];exact h.1,a2 H0 B H τ σ xs ds _ _ s S r h.2 k⟩
  | _=>exact h.elim⟩
def vAsg(te:TV)(g:TVG):TVS:=λDv τ=>te τ λr=>exS τ Dv r (pubR r λd=>g d τ Dv.nx)
end
section
variable {X:Cx} {tg l e:Expr}
def iAny(K:PySem.W.Frag)(tl:TE):TI:=λσ H R=>tl σ H λx H1=>(∃a,x=.ref a/\(∃xs,SqL K H1 a xs)/\R (Itl K a) H1)\/(∃a,x=.ref a/\(∃xs,SqT K H1 a xs)/\R (Itt K a) H1)\/∃z,x=.str z/\R (Its z) H1
theorem q57{tl:TE}(hl:PE X l tl):PI X tg l (iAny X.K tl):=by
 intro pins s σ H R I h
 refine thn (hl pins s σ H _ I h) λv s1 ⟨x,H1,I1,r1,q1⟩=>?_
 rcases q1 with ⟨a,rfl,⟨xs,hq⟩,q⟩|⟨a,rfl,⟨xs,hq⟩,q⟩|⟨z,rfl,q⟩
 ·cases r1
  obtain⟨its,rv,pl,hz⟩:=I1.list hq
  refine wpAny_pyIter_list pl.isList ⟨s1.heap.objs.size,[s1.heap.objs.size],_,_,H1,rfl,I1.kept (t':=s1.toks) λb o e=>Heap.get?_push_of_some _ e,qvy a _,⟨_,Heap.get?_push_size _ rfl,rfl,rfl⟩,λb hb=>?_,q⟩
  cases (by simpa using hb:b=s1.heap.objs.size)
  exact I1.fpOk (Nat.le_refl _) (I1.hok.fresh (Nat.le_refl _))
 ·cases r1
  obtain⟨its,rv,pl,hz⟩:=I1.tuple hq
  refine wpAny_pyIter_tuple (show s1.heap.IsTuple a its.toArray from pl) ⟨s1.heap.objs.size,[s1.heap.objs.size],_,_,H1,rfl,I1.kept (t':=s1.toks) λb o e=>Heap.get?_push_of_some _ e,qsc a _,⟨_,Heap.get?_push_size _ rfl,rfl,rfl⟩,λb hb=>?_,q⟩
  cases (by simpa using hb:b=s1.heap.objs.size)
  exact I1.fpOk (Nat.le_refl _) (I1.hok.fresh (Nat.le_refl _))
 ·obtain⟨t,rfl⟩:=r1
  have fp:∀b∈[s1.heap.objs.size],FpOk X pins H1 b:=λb hb=>by
   cases (by simpa using hb:b=s1.heap.objs.size)
   exact I1.fpOk (Nat.le_refl _) (I1.hok.fresh (Nat.le_refl _))
  cases ha:z.cps.all (·<128)
  ·exact wpAny_pyIter_wide ha ⟨s1.heap.objs.size,[s1.heap.objs.size],_,_,H1,rfl,I1.kept (t':=s1.toks) λb o e=>Heap.get?_push_of_some _ e,qvz _ z t,⟨_,Heap.get?_push_size _ rfl,rfl,rfl⟩,fp,q⟩
  ·exact wpAny_pyIter_ascii ha ⟨s1.heap.objs.size,[s1.heap.objs.size],_,_,H1,rfl,I1.kept (t':=s1.toks) λb o e=>Heap.get?_push_of_some _ e,qr9 _ z t,⟨_,Heap.get?_push_size _ rfl,rfl,rfl⟩,fp,q⟩
theorem q6q{tl:TE}(h:QE X e tl):QI X tg e (iAny X.K tl):=⟨q57 h.u⟩
end
section
variable {X:Cx} {EX:St->XK} {K:PySem.W.Frag} {B H B' H' H0 B0 B1 H1:Hp} {st:Stmt} {rest:List Stmt} {t u:TVS} {e a c o:Expr} {te ta:TV} {tT:TVT} {tA:TVA} {es:List Expr} {pos pos' p p2 apos cpos:Pos} {x:Str} {τ:VSt} {σ:St}
def qc9(te:TV):TVA:=λτ Q=>te τ λr=>excA r Q <| pubR r λd=>match d with
|.lst ds=>Q (.ok ds)
|.tup ds=>Q (.ok ds)
|.scr ns=>Q (.ok (ns.map D.int))
|.str z=>Q (.ok (z.cps.toList.map λc=>.str ⟨#[c]⟩))
|_=>False
theorem qpx{ad:Addr}{ds:List D}{xs:List V}(h:SqL K B ad xs)(r:Reps K B ds xs):ItOk K B (Itl K ad) ds:=λi B2 H sb s2=>by
 have s:=sb.trans s2
 refine⟨λd e=>?_,λe=>⟨xs,s.seq h,by rw[←r.length];exact List.getElem?_eq_none_iff.mp e⟩⟩
 obtain⟨w,hw,rw'⟩:=r.at e
 refine⟨⟨xs,w,s.seq h,hw⟩,λy H' q=>⟨B2,by rw[q.1];exact .refl s2,?_⟩⟩
 have:=q.2 xs (s.seq h)
 rw[hw] at this
 cases this
 exact rw'.same sb
theorem q46{ad:Addr}{ds:List D}{xs:List V}(h:SqT K B ad xs)(r:Reps K B ds xs):ItOk K B (Itt K ad) ds:=λi B2 H sb s2=>by
 have s:=sb.trans s2
 refine⟨λd e=>?_,λe=>⟨xs,s.sqT h,by rw[←r.length];exact List.getElem?_eq_none_iff.mp e⟩⟩
 obtain⟨w,hw,rw'⟩:=r.at e
 refine⟨⟨xs,w,s.sqT h,hw⟩,λy H' q=>⟨B2,by rw[q.1];exact .refl s2,?_⟩⟩
 have:=q.2 xs (s.sqT h)
 rw[hw] at this
 cases this
 exact rw'.same sb
theorem q45(z:Str):ItOk K B (Its z) (z.cps.toList.map λc=>.str ⟨#[c]⟩):=λi B2 H sb s2=>by
 have s:=sb.trans s2
 refine⟨λd e=>?_,λe=>?_⟩
 ·rw[List.getElem?_map] at e
  cases hc:z.cps.toList[i]? with
 |none=>rw[hc] at e;cases e
 |some ch =>
   rw[hc] at e
   cases e
   have hc':z.cps[i]?=some ch:=by simpa using hc
   refine⟨?_,λy H' q=>⟨B2,by rw[q.1];exact .refl s2,?_⟩⟩
   ·show i<z.cps.size
    exact(Array.getElem?_eq_some_iff.mp hc').1
   ·obtain⟨c2,h2,rfl⟩:=q.2
    rw[hc'] at h2
    cases h2
    exact qid (d:=.str ⟨#[ch]⟩) rfl
 ·show z.cps.size<=i
  have:=List.getElem?_eq_none_iff.mp e
  simpa using this
theorem qeu{tg:Expr}(h:VE X EX e te):VI X EX tg e (qc9 te) :=
 let ⟨_,a1,a2⟩:=h.u;⟨_,q6q a1,λH0 B H τ σ Q Qd s S h xc k=>a2 H0 B H τ σ _ _ s S h xc λr v B' H' q hr hq=>by
  obtain⟨d,B2,q2,_,rp,hd⟩:=pub q hr (hr.okA hq)
  split at hd
  ·unfold Rep at rp
   obtain⟨ad,xs,rfl,ha,r1⟩:=rp
   exact .inl ⟨ad,rfl,⟨xs,SqL.of (q2.s _ _ ha)⟩,k _ _ B2 H' q2 (qpx (SqL.of ha) r1) hd⟩
  ·unfold Rep at rp
   obtain⟨ad,xs,rfl,ha,r1⟩:=rp
   exact .inr (.inl ⟨ad,rfl,⟨xs,q2.s.sqT ha.sq⟩,k _ _ B2 H' q2 (q46 ha.sq r1) hd⟩)
  ·unfold Rep at rp
   obtain⟨ad,rfl,ha⟩:=rp
   exact .inl ⟨ad,rfl,⟨_,q2.s.seq ha⟩,k _ _ B2 H' q2 (qpx ha (.ints _)) hd⟩
  ·rename_i z
   unfold Rep at rp
   exact .inr (.inr ⟨z,rp,k _ _ B2 H' q2 (q45 z) hd⟩)
  ·exact hd.elim⟩
def rngL(lo:Int)(n:Nat):List D:=(List.range n).map λ(i:Nat)=>.int (lo+i)
theorem qz5(lo:Int)(n:Nat):ItOk K B (Itr lo n) (rngL lo n):=λi B2 H sb s2=>by
 unfold rngL
 refine⟨λd e=>?_,λe=>?_⟩
 ·rw[List.getElem?_map] at e
  by_cases hi:i<n
  ·rw[List.getElem?_range hi] at e
   cases e
   exact⟨hi,λy H' q=>⟨B2,by rw[q.1];exact .refl s2,by rw[q.2];exact qid (d:=.int (lo+(i:Nat))) rfl⟩⟩
  ·rw[List.getElem?_eq_none (by rw[List.length_range];lia)] at e
   cases e
 ·have:=List.getElem?_eq_none_iff.mp e
  rw[List.length_map,List.length_range] at this
  exact this
def qpd(te:TV):TVA:=λτ Q=>te τ λr=>match r.d with
|.int j=>-(2 ^ 62)<=j/\j<2 ^ 62/\Q (.ok (rngL 0 j.toNat))
|_=>False
theorem qpg{tg:Expr}(hg:Gl X "range")(hm:X.mg "range" = none)(h:VE X EX a ta)(hp:qav a=true:=by rfl):VI X EX tg (.Call (.Name "range" p) [a] [] pos) (qpd ta) :=
 let ⟨_,a1,a2⟩:=h.u;⟨_,q80 hg hm (qac a1 qdi hp) hp,λH0 B H τ σ Q Qd s S h xc k=>a2 H0 B H τ σ _ _ s S h (xno λ_ q=>q) λr v B' H' q hr hq=>by
  split at hq
  ·rename_i j ej
   exact⟨j,by rw[hr.pk.scal (z:=.int j) (by rw[ej];rfl)],hq.1,hq.2.1,k _ _ B' H' q (qz5 0 j.toNat) hq.2.2⟩
  ·exact hq.elim⟩
def qv4(ta tb:TV):TVA:=λτ Q=>ta τ λrx=>exR rx (λ_=>False) <| tb τ λry=>match rx.d,ry.d with
|.int i,.int j=>(-(2 ^ 62)<=i/\i<2 ^ 62/\-(2 ^ 62)<=j/\j<2 ^ 62)/\Q (.ok (rngL i (j-i).toNat))
|_,_=>False
theorem q35{tg b:Expr}{tb:TV}(hg:Gl X "range")(hm:X.mg "range" = none)(h:VE X EX a ta)(hb:VE X EX b tb)(hp:qav a=true:=by rfl)(hp2:qav b=true:=by rfl):VI X EX tg (.Call (.Name "range" p) [a,b] [] pos) (qv4 ta tb) :=
 let ⟨_,a1,a2⟩:=h.u;let ⟨_,b1,b2⟩:=hb.u;⟨_,q81 hg hm (qac a1 (qac b1 qdi hp2) hp) hp hp2,λH0 B H τ σ Q Qd s S h xc k=>a2 H0 B H τ σ _ _ s S h (xno λ_ q=>q) λr v B' H' q hr hq=>b2 H0 B' H' τ σ _ _ q.s (S.step q) (hr.ok hq) (xno λ_ q=>by revert q;cases r.d<;>exact λz=>z) λr2 v2 B2 H2 q2 hr2 hq2=>by
  split at hq2
  ·rename_i i j ei ej
   exact⟨i,j,by rw[hr.pk.scal (z:=.int i) (by rw[ei];rfl),hr2.pk.scal (z:=.int j) (by rw[ej];rfl)],hq2.1,k _ _ B2 H2 (q.trans q2) (qz5 i (j-i).toNat) hq2.2⟩
  ·exact hq2.elim⟩
def forW(g:TVG)(tb:TVS)(Dv:VEnds):List D->VSt->Prop
|[],τ=>Dv.nx τ
|d::ds,τ=>g d τ λτ'=>tb { Dv with nx:=forW g tb Dv ds,ct:=forW g tb Dv ds,bk:=Dv.nx } τ'
def exI(τ:VSt)(Dv:VEnds):AR->(List D->Prop)->Prop
|.ok ds,k=>k ds
|.exc n,_=>Dv.xc τ n
def vFor(vi:TVA)(g:TVG)(tb:TVS):TVS:=λDv τ=>vi τ λa=>exI τ Dv a λds=>forW g tb Dv ds τ
theorem q62{wi:TI}{g:TG}{tb:TS}{vi:TVA}{gv:TVG}{bv:TVS}(hi:RfI K EX wi vi)(hg:RfG K g gv)(hb:RfS K EX tb bv):RfS K EX (tFor wi g tb) (vFor vi gv bv):=λB0 H0 B H τ σ Dv Dh p S h E =>
 hi H0 B H τ σ _ _ p.s S h (E.raised p S) λJ ds B1 H1 q ok hw=>by
  have pq:=p.trans q
  have E1:=E.base pq
  refine⟨λi m σ H=>m=ds.length-i/\i<=ds.length/\∃B2 τ,Stp B1 H0 B2 H/\Slots K H0 B2 H τ σ/\forW gv bv Dv (ds.drop i) τ,⟨ds.length,by lia,Nat.zero_le _,B1,τ,pq.here,S.step q,hw⟩,?_⟩
  rintro i m σ2 H2 ⟨rfl,hi,B2,τ2,p2,S2,w⟩
  by_cases hlt:i<ds.length
  ·have ei:ds[i]?=some ds[i]:=List.getElem?_eq_getElem hlt
   rw[List.drop_eq_getElem_cons hlt] at w
   obtain⟨go,yl⟩:=(ok i B2 H2 p2.b p2.s).1 _ ei
   refine .inr ⟨go,λσ' H'=>∃B2 τ,Stp B1 H0 B2 H'/\Slots K H0 B2 H' τ σ'/\forW gv bv Dv (ds.drop (i+1)) τ,λσ' H' ⟨B3,τ3,a1,a2,a3⟩=>⟨ds.length-(i+1),by lia,rfl,by lia,B3,τ3,a1,a2,a3⟩,λy H' hy=>?_⟩
   obtain⟨B3,q3,rp⟩:=yl y H' hy
   refine hg H0 B3 H' τ2 σ2 y _ _ _ q3.s (S2.step q3) rp w λτ' σ' S' _ h'=>?_
   exact hb B1 H0 B3 H' τ' σ' _ _ (p2.trans q3) S' h' ⟨λB H τ σ a1 a2 a3=>⟨B,τ,a1,a2,a3⟩,E1.rt,λB H τ σ a1 a2 a3=>E1.nx B H τ σ a1 a2 a3,λB H τ σ a1 a2 a3=>⟨B,τ,a1,a2,a3⟩,E1.xc,E1.ro⟩
  ·have ei:ds[i]?=none:=List.getElem?_eq_none (by lia)
   rw[List.drop_eq_nil_of_le (by lia)] at w
   exact .inl ⟨(ok i B2 H2 p2.b p2.s).2 ei,E1.nx B2 H2 τ2 σ2 p2 S2 w⟩
theorem qiz{tg iter:Expr}{body:List Stmt}{vi:TVA}{g:TVG}(hp:PassesOwn (model X.prog X.w) X.A X.env X.xe)(hc:X.calm=true)(hi:VI X EX tg iter vi)(hg:VG X tg g)(hb:VSs X EX body t)
  (hs:∀x,foldedSetIterable iter X.env x=pure x:=by intro _;rfl):VS X EX (.For tg iter body [] pos) (vFor vi g t) :=
 let ⟨_,a1,a2⟩:=hi.u;let ⟨_,b1,b2⟩:=hg.u;let ⟨_,c1,c2⟩:=hb.u;⟨_,q6r hp hc a1 b1 c1 hs,q62 a2 b2 c2⟩
def q0p(c:TVT)(tb:TVS):TVS:=λDv τ=>∃W:Nat->VSt->Prop,(∃m,W m τ)/\∀m τ,W m τ->c τ λb=>if b=true then tb { Dv with nx:=λτ'=>∃m',m'<m/\W m' τ',ct:=λτ'=>∃m',m'<m/\W m' τ',bk:=Dv.nx } τ else Dv.nx τ
theorem qzs{body:List Stmt}(hp:PassesOwn (model X.prog X.w) X.A X.env X.xe)(hc:VT X EX c tT)(hb:VSs X EX body t):VS X EX (.While c body [] pos) (q0p tT t) :=
 let ⟨_,a1,a2⟩:=hc.u;let ⟨_,b1,b2⟩:=hb.u;⟨_,qyx hp a1 b1,λB0 H0 B H τ σ Dv Dh p S h E=>by
  obtain⟨W,⟨m0,w0⟩,turn⟩:=h
  refine⟨λm σ H=>∃B2 τ,Stp B0 H0 B2 H/\Slots X.K H0 B2 H τ σ/\W m τ,⟨m0,B,τ,p,S,w0⟩,?_⟩
  rintro m σ2 H2 ⟨B2,τ2,p2,S2,w⟩
  refine a2 H0 B2 H2 τ2 σ2 _ _ p2.s S2 (turn m τ2 w) λb B3 H3 q hq=>?_
  cases b with
 |true =>
   refine iteT ⟨λσ' H'=>∃m',m'<m/\∃B2 τ,Stp B0 H0 B2 H'/\Slots X.K H0 B2 H' τ σ'/\W m' τ,λσ' H' z=>z,?_⟩
   rw[if_pos rfl] at hq
   exact b2 B0 H0 B3 H3 τ2 σ2 _ _ (p2.trans q) (S2.step q) hq ⟨λB H τ σ a1 a2 ⟨m',l,a3⟩=>⟨m',l,B,τ,a1,a2,a3⟩,E.rt,λB H τ σ a1 a2 a3=>E.nx B H τ σ a1 a2 a3,λB H τ σ a1 a2 ⟨m',l,a3⟩=>⟨m',l,B,τ,a1,a2,a3⟩,E.xc,E.ro⟩
 |false =>
   rw[if_neg Bool.false_ne_true] at hq
   exact iteF (E.nx B3 H3 τ2 σ2 (p2.trans q) (S2.step q) hq)⟩
theorem qgr:VFs X EX [] (λ_ Q=>Q true):=⟨_,q26,λH0 B H τ σ Y N Qd s S h k=>by have:=k true B H (.refl s) h;rw[if_pos rfl] at this;exact this⟩
theorem qpf(h:VT X EX c tT):VFs X EX [c] tT:=let ⟨_,a1,a2⟩:=h.u;⟨_,q27 a1,λH0 B H τ σ Y N Qd s S h k=>a2 H0 B H τ σ _ _ s S h k⟩
def qj6(τ:VSt)(k:Nat)(g:TVG)(ti:TVT)(te:TV)(Q:R->Prop):List D->List D->Prop
|[],acc=>Q (.own (.lst acc))
|d::ds,acc=>g d (τ++List.replicate k none) λτ2=>(τ2.take τ.length=τ/\τ2.length=τ.length+k)/\ti τ2 λb=>if b=true then te τ2 λr=>pubR r λd'=>acc.length<sizeLine/\qj6 τ k g ti te Q ds (acc++[d']) else qj6 τ k g ti te Q ds acc
def qfp(vi:TVA)(g:TVG)(ti:TVT)(te:TV)(k:Nat):TV:=λτ Q=>vi τ λa=>exA a Q λds=>qj6 τ k g ti te Q ds []
theorem Slots.more(S:Slots K H0 B H τ σ)(k:Nat):Slots K H0 B H (τ++List.replicate k none) (σ++List.replicate k none):=by
 have get:∀(i:Nat) (r:R),(τ++List.replicate k none)[i]?=some (some r)->τ[i]?=some (some r)/\(σ++List.replicate k (none:Option V))[i]?=σ[i]?:=λi r h=>by
  by_cases l:i<τ.length
  ·rw[List.getElem?_append_left l] at h
   exact⟨h,List.getElem?_append_left (by rw[S.len];exact l)⟩
  ·rw[List.getElem?_append_right (by lia)] at h
   by_cases l2:i-τ.length<k
   ·rw[List.getElem?_replicate_of_lt l2] at h;cases h
   ·rw[List.getElem?_eq_none (by rw[List.length_replicate];lia)] at h;cases h
 refine⟨by rw[List.length_append,List.length_append,S.len,List.length_replicate,List.length_replicate],λi d h=>?_,λi d h=>?_,λi d h=>?_,λi j d e a h1 h2 h3 h4=>?_⟩
 ·obtain⟨g1,g2⟩:=get i _ h
  rw[g2]
  exact S.val i d g1
 ·obtain⟨g1,g2⟩:=get i _ h
  rw[g2]
  exact S.fz i d g1
 ·obtain⟨g1,g2⟩:=get i _ h
  rw[g2]
  exact S.own i d g1
 ·obtain⟨g1,g2⟩:=get i _ h1
  obtain⟨g3,g4⟩:=get j _ h2
  rw[g2] at h3
  rw[g4] at h4
  exact S.sep i j d e a g1 g3 h3 h4
theorem Slots.less{τ2:VSt}{k:Nat}(S:Slots K H0 B H τ2 σ)(h1:τ2.take τ.length=τ)(h2:τ2.length=τ.length+k):Slots K H0 B H (τ++List.replicate k none) σ/\∀(j:Nat) (e:D),(τ++List.replicate k none)[j]?=some (some (R.own e))->τ2[j]?=some (some (R.own e)):=by
 have get:∀(i:Nat) (r:R),(τ++List.replicate k none)[i]?=some (some r)->τ2[i]?=some (some r):=λi r h=>by
  by_cases l:i<τ.length
  ·rw[List.getElem?_append_left l,←h1,List.getElem?_take_of_lt l] at h
   exact h
  ·rw[List.getElem?_append_right (by lia)] at h
   by_cases l2:i-τ.length<k
   ·rw[List.getElem?_replicate_of_lt l2] at h;cases h
   ·rw[List.getElem?_eq_none (by rw[List.length_replicate];lia)] at h;cases h
 exact⟨⟨by rw[S.len,h2,List.length_append,List.length_replicate],λi d h=>S.val i d (get i _ h),λi d h=>S.fz i d (get i _ h),λi d h=>S.own i d (get i _ h),λi j d e a q1 q2=>S.sep i j d e a (get i _ q1) (get j _ q2)⟩,λj e=>get j _⟩
theorem Slots.heap(S:Slots K H0 B H τ σ)(h:∀(i:Nat) (d:D) (a:Addr),τ[i]?=some (some (R.own d))->σ[i]?=some (some (.ref a))->H' a=H a):Slots K H0 B H' τ σ :=
 ⟨S.len,S.val,S.fz,λi d e=>let ⟨a,q1,q2,q3,q4⟩:=S.own i d e;⟨a,q1,q2,q3,q4.step (Same.refl _) (h i d a e q1)⟩,S.sep⟩
abbrev EX0:St->XK:=λ_ _ _ _=>False
theorem q3i{wi:TI}{g:TG}{ti:TF}{ee:TE}{vi:TVA}{gv:TVG}{tv:TVT}{k:Nat}(hi:RfI K EX wi vi)(hg:RfG K g gv)(hf:RfF K ti tv)(he:RfE K EX0 ee te):RfE K EX (q3u wi g ti ee k) (qfp vi gv tv te k):=λH0 B H τ σ Q Qd s S h xc kk =>
 hi H0 B H τ σ _ _ s S h xc λJ ds B1 H1 q ok hw p hp=>by
  have S1:=S.step q
  refine⟨λi m σ' xs H'=>m=ds.length-i/\i<=ds.length/\∃B2 acc,Stp B1 H1 B2 H'/\H' p=some (.lst xs)/\B2 p=none/\Reps K B2 acc xs/\Slots K H0 B2 H' (τ++List.replicate k none) σ' /\
    (∀(j:Nat) (e:D),(τ++List.replicate k none)[j]?=some (some (R.own e))->σ'[j]?≠some (some (.ref p)))/\qj6 τ k gv tv te Qd (ds.drop i) acc,
   ⟨ds.length,by lia,Nat.zero_le _,B1,[],.grow q.s (qaw hp _),qa6,q.s.free hp,.nil,(S1.more k).heap λi d a h1 h2=>?_,λj e h1 h2=>?_,hw⟩,?_⟩
  ·obtain⟨c,q1,_,_,ow⟩:=(S1.more k).own i d h1
   rw[h2] at q1
   cases q1
   exact qau λz=>ow.some (z▸hp)
  ·obtain⟨c,q1,_,_,ow⟩:=(S1.more k).own j e h1
   rw[h2] at q1
   cases q1
   exact ow.some hp
  rintro i m σ2 xs H2 ⟨rfl,hle,B2,acc,p2,hx,hb,rp,S2,fr,w⟩
  by_cases hlt:i<ds.length
  ·have ei:ds[i]?=some ds[i]:=List.getElem?_eq_getElem hlt
   rw[List.drop_eq_getElem_cons hlt] at w
   obtain⟨go,yl⟩:=(ok i B2 H2 p2.b p2.s).1 _ ei
   refine .inr ⟨go,λy H' hy=>?_⟩
   obtain⟨B3,q3,ry⟩:=yl y H' hy
   replace hb:=q3.keep hb (by rw[hx];exact λz=>by cases z) (by rw[hx];exact λ_ z=>by cases z)
   replace hx:=q3.h _ _ hx
   replace rp:=rp.same q3.b
   replace p2:=p2.trans q3
   replace S2:=S2.step q3
   clear q3
   refine hg H0 B3 H' _ σ2 y _ _ _ p2.s S2 ry w λτ3 σ3 S3 kp h3=>?_
   obtain⟨⟨e1,e2⟩,h3⟩:=h3
   obtain⟨S3',ow3⟩:=S3.less e1 e2
   have fr3:∀(j:Nat) (e:D),(τ++List.replicate k none)[j]?=some (some (R.own e))->σ3[j]?≠some (some (.ref p)):=λj e h z=>by
    obtain⟨g1,g2⟩:=kp j e (ow3 j e h)
    rw[g2] at z
    exact fr j e g1 z
   refine hf H0 B3 H' τ3 σ3 _ _ _ p2.s S3 h3 λb B4 H4 q4 hq4=>?_
   have hx4:H4 p=some (.lst xs):=q4.h _ _ hx
   have hb4:B4 p=none:=q4.keep hb (by rw[hx];exact λz=>by cases z) (by rw[hx];exact λ_ z=>by cases z)
   cases b with
  |false =>
    rw[if_neg Bool.false_ne_true] at hq4 ⊢
    exact⟨ds.length-(i+1),by lia,rfl,by lia,B4,acc,p2.trans q4,hx4,hb4,rp.same q4.b,S3'.step q4,fr3,hq4⟩
  |true =>
    rw[if_pos rfl] at hq4 ⊢
    refine he H0 B4 H4 τ3 σ3 _ _ q4.s (S3.step q4) hq4 (xno λ_ q=>q) λr v B5 H5 q5 hr hq5=>?_
    obtain⟨d',B6,q6,_,rd,hz,hq6⟩:=pub q5 hr hq5
    have hx6:H5 p=some (.lst xs):=q6.h _ _ hx4
    have hb6:B6 p=none:=q6.keep hb4 (by rw[hx4];exact λz=>by cases z) (by rw[hx4];exact λ_ z=>by cases z)
    have qq:=q4.trans q6
    refine⟨hx6,by rw[←rp.length];exact hz,ds.length-(i+1),by lia,rfl,by lia,B6,acc++[d'],(p2.trans qq).upd hp hb6,qa6,hb6,(rp.same qq.b).append (.one rd),(S3'.step qq).heap λj d a h1 h2=>?_,fr3,hq6⟩
    exact qau λz=>fr3 j d h1 (z▸h2)
  ·have ei:ds[i]?=none:=List.getElem?_eq_none (by lia)
   rw[List.drop_eq_nil_of_le (by lia)] at w
   exact .inl ⟨(ok i B2 H2 p2.b p2.s).2 ei,kk (.own (.lst acc)) _ B2 H2 (q.trans p2) ⟨p,rfl,q.h.free hp,hb,xs,hx,rp⟩ w⟩
def canE(K:PySem.W.Frag)(t:TV):TE:=λσ H Q=>∃H0 B τ Qd,Same B H/\Slots K H0 B H τ σ/\t τ Qd/\(∀n C B' H',Stp B H B' H'->clsOf K n C->Qd (.exc n)->EX0 σ (.ref C) none H')/\∀r v B' H',Stp B H B' H'->RepR K B' H H' r v->Qd r->Q v H'
def canG(K:PySem.W.Frag)(g:TVG):TG:=λv σ H Q=>∃H0 B τ d Qd,Same B H/\Slots K H0 B H τ σ/\Rep K B d v/\g d τ Qd/\∀τ' σ',Slots K H0 B H τ' σ'->Kp τ σ τ' σ'->Qd τ'->Q σ' H
def canF(K:PySem.W.Frag)(t:TVT):TF:=λσ H Y N=>∃H0 B τ Qd,Same B H/\Slots K H0 B H τ σ/\t τ Qd/\∀b B' H',Stp B H B' H'->Qd b->if b=true then Y H' else N H'
theorem VE.can(h:VE X EX0 e te):QE X e (canE X.K te):=let ⟨_,a1,a2⟩:=h.u;⟨λpins s σ H Q I ⟨H0,B,τ,Qd,q1,q2,q3,q4,q5⟩=>a1.u pins s σ H Q I (a2 H0 B H τ σ Q Qd q1 q2 q3 q4 q5)⟩
theorem VG.can{g:TVG}(h:VG X e g):QG X e (canG X.K g):=let ⟨_,a1,a2⟩:=h.u;⟨λpins s σ H v u Q I r ⟨H0,B,τ,d,Qd,q1,q2,q3,q4,q5⟩=>a1.u pins s σ H v u Q I r (a2 H0 B H τ σ v d Q Qd q1 q2 q3 q4 q5)⟩
theorem VFs.can(h:VFs X EX es tT):QF X es (canF X.K tT):=let ⟨_,a1,a2⟩:=h.u;⟨λpins s σ H Y N I ⟨H0,B,τ,Qd,q1,q2,q3,q4⟩=>a1.u pins s σ H Y N I (a2 H0 B H τ σ Y N Qd q1 q2 q3 q4)⟩
theorem qee{tg iter elt:Expr}{ifs:List Expr}{csc:Scope}{NB M:List Str}{vi:TVA}{g:TVG}{ti:TVT}(hi:VI X EX tg iter vi)(hc:X.calm=true)(S:CompScope X.env.scope X.N NB M csc)
  (hg:∀cl C s₀ H₀ fp pn,VG (cxC X NB csc cl C s₀ H₀ fp pn) tg g) (hf:∀cl C s₀ H₀ fp pn,VFs (cxC X NB csc cl C s₀ H₀ fp pn) EX0 ifs ti)
  (he:∀cl C s₀ H₀ fp pn,VE (cxC X NB csc cl C s₀ H₀ fp pn) EX0 elt te) (hs:∀x,foldedSetIterable iter X.env x=pure x:=by intro _;rfl):VC X EX (.ListComp elt [⟨tg,iter,ifs,0⟩] csc pos) (qfp vi g ti te M.length) :=
 let ⟨_,a1,a2⟩:=hi.u;⟨_,q2x (g:=canG X.K g) (ti:=canF X.K ti) (te:=canE X.K te) a1 hc S (λcl C s₀ H₀ fp pn=>(hg cl C s₀ H₀ fp pn).can) (λcl C s₀ H₀ fp pn=>(hf cl C s₀ H₀ fp pn).can) (λcl C s₀ H₀ fp pn=>(he cl C s₀ H₀ fp pn).can) hs,
  q3i a2 (λH0 B H τ σ v d Q Qd q1 q2 q3 q4 q5=>⟨H0,B,τ,d,Qd,q1,q2,q3,q4,q5⟩) (λH0 B H τ σ Y N Qd q1 q2 q3 q4=>⟨H0,B,τ,Qd,q1,q2,q3,q4⟩) (λH0 B H τ σ Q Qd q1 q2 q3 q4 q5=>⟨H0,B,τ,Qd,q1,q2,q3,q4,q5⟩)⟩
theorem vc_e(h:VC X EX e te):VE X EX e te:=let ⟨_,a1,a2⟩:=h.u;⟨_,qc_e a1,a2⟩
def ownL(τ:VSt)(i:Nat)(Q:List D->Prop):Prop:=match τ[i]? with
|some (some (.own (.lst ds)))=>Q ds
|_=>False
theorem q2b{i:Nat}{Q:List D->Prop}(h:ownL τ i Q):∃ds,τ[i]?=some (some (.own (.lst ds)))/\Q ds:=by
 unfold ownL at h
 split at h
 ·exact⟨_,by assumption,h⟩
 ·exact h.elim
theorem Slots.lst{i:Nat}{ds es:List D}{ad:Addr}{ys:List V}(S:Slots K H0 B H τ σ)(p:Stp B0 H0 B H)(hi:τ[i]?=some (some (.own (.lst ds))))(ha:σ[i]?=some (some (.ref ad)))(r:Reps K B es ys) :
  Stp B0 H0 B (L2.upd H ad (.lst ys))/\Slots K H0 B (L2.upd H ad (.lst ys)) (τ.set i (some (.own (.lst es)))) σ:=by
 obtain⟨c,q,h0,hb,_⟩:=S.own i _ hi
 rw[ha] at q
 cases q
 exact⟨p.upd h0 hb,S.upd hi ha (qco r)⟩
theorem Slots.ownL{i:Nat}{Q:List D->Prop}(S:Slots K H0 B H τ σ)(h:L2.ownL τ i Q):∃ds ad xs,τ[i]?=some (some (.own (.lst ds)))/\Q ds/\σ[i]?=some (some (.ref ad))/\H ad=some (.lst xs)/\Reps K B ds xs:=by
 obtain⟨ds,e,q⟩:=q2b h
 obtain⟨a,q1,_,_,xs,q2,q3⟩:=S.own i _ e
 exact⟨ds,a,xs,e,q,q1,q2,q3⟩
def qer(i:Nat)(te:TV):TVS:=λDv τ=>ownL τ i λds=>te τ λr=>exS τ Dv r (pubR r λd=>ds.length<sizeLine/\Dv.nx (τ.set i (some (.own (.lst (ds++[d]))))))
theorem qf3(i:Nat)(h:VE X EX e te)(hN:X.N[i]?=some x:=by rfl)(hv:Vis X.env.scope x:=by first|exact Or.inl rfl|exact Or.inr (Or.inl rfl)|exact Or.inr (Or.inr rfl))(hd:(x==("__debug__" : Str))=false:=by decide)
  (hcd:(x==("__classdict__" : Str))=false:=by decide) (hp:qav e=true:=by rfl)
  (hbase:attributeBase (.Name x p) "append" X.env (eval (.Name x p) X.env)=eval (.Name x p) X.env:=by rfl) (hline:(apos.endLine==cpos.line)=true:=by rfl)
  (hs:swapsWith (.Call (.Attribute (.Name x p) "append" apos) [e] [] cpos) none pos.line X.env=pure false:=by rfl) :
  VS X EX (.Expr (.Call (.Attribute (.Name x p) "append" apos) [e] [] cpos) pos) (qer i te) :=
 let ⟨_,a1,a2⟩:=h.u;⟨_,qou (qbm PySem.F.plainAttrs_list PySem.F.slot_list_append PySem.F.type_list_append qma (qv i hN hv hd hcd) (qac a1 qdi hp) (by simp[hp]) rfl hbase hline) hs,λB0 H0 B H τ σ Dv Dh p S h E=>by
  obtain⟨ds,ad,xs,e1,h,e2,e3,_⟩:=S.ownL h
  refine⟨.ref ad,e2,.inl ⟨rfl,xs,SqL.of e3⟩,a2 H0 B H τ σ _ _ p.s S h (E.raised p S) λr v B' H' q hr hq=>?_⟩
  obtain⟨d,B2,q2,_,rp,hz,hn⟩:=pub q hr (hr.okS hq)
  have S2:=S.step q2
  obtain⟨a',q1,_,_,xs2,q4,q3⟩:=S2.own i _ e1
  rw[e2] at q1
  cases q1
  refine⟨ad,xs2,v,rfl,rfl,q4,by rw[←q3.length];exact hz,?_⟩
  obtain⟨p3,S3⟩:=S2.lst (p.trans q2) e1 e2 (q3.append (.one rp))
  exact E.nx B2 _ _ σ p3 S3 hn⟩
def qax(N:List Str)(ds:List D):VSt:=ds.map (λd=>some (R.val d))++List.replicate (N.length-ds.length) none
theorem qe8:∀ {ds:List D} {vs:List V},Reps K B ds vs->Slots K H0 B H (ds.map λd=>some (R.val d)) (vs.map some)
|[],_,h=>by
  unfold Reps at h
  subst h
  exact⟨rfl,λi d e=>by simp at e,λi d e=>by simp at e,λi d e=>by simp at e,λi j d e a h=>by simp at h⟩
|d::ds,_,h=>by
  unfold Reps at h
  obtain⟨v,vs,rfl,h1,h2⟩:=h
  have S:=qe8 h2
  refine⟨by have:=S.len;simp at this ⊢;exact this,λi f e=>?_,λi f e=>?_,λi f e=>?_,λi j f g ad e=>?_⟩
  ·cases i with
  |zero=>simp at e;subst e;exact⟨v,rfl,h1⟩
  |succ i=>simpa using S.val i f (by simpa using e)
  ·cases i with
  |zero=>simp at e
  |succ i=>simpa using S.fz i f (by simpa using e)
  ·cases i with
  |zero=>simp at e
  |succ i=>simpa using S.own i f (by simpa using e)
  ·cases i with
  |zero=>simp at e
  |succ i =>
    simp at e
theorem Fun.okV{P:Program}{w:World}{mg:Str->Option Value}{base:Heap}{x qual:Str}{st:Stmt}{f:Addr}{fd:FuncData}{N ps:List Str}{k:Nat}{g:DP}(F:Fun K x qual st f fd)(S:FnScope N ps (qaf st))(len:∀ds Q,g ds Q->ds.length=ps.length)
  (hbody:∀(cdv:Value) (A:Around) (outer:List Env) (s:Shared) (H:Hp) (E:XK),Room k (A.deeper (envOfC qual (qaf st) s.heap.objs.size f cdv)) ->
   ∃t,VSs (cxOf CX0 P w K mg base N qual (qaf st) f cdv A outer s H E).nox EX0 (qbn st) t/\∀ds Q,g ds Q->t { nx:=λ_=>Q (.val .non),rt:=Q } (qax N ds)):FnOk P w K mg base CX0 (k+1) f fd ps (spOf K g):=by
 refine F.okQ S (λvs H Q E h=>?_) (λcdv A outer s H vs Q E hr h=>?_)
 ·obtain⟨ds,B,Qd,_,rp,hg,_,_⟩:=h
  rw[←rp.length]
  exact len ds Qd hg
 ·obtain⟨ds,B,Qd,sm,rp,hg,_,kk⟩:=h
  obtain⟨t,⟨ts,q1,q2⟩,ht⟩:=hbody cdv A outer s H E hr
  refine⟨ts,q1,q2 B H B H (qax N ds) (start N vs) _ _ (.refl sm) ?_ (ht ds Qd hg) ⟨λB' H' τ σ p S h=>kk (.val .non) .non B' H' h p (repV rfl),λr v B' H' p hr h=>kk r v B' H' h p hr,λ_ _ _ _ _ _ h=>h.elim,λ_ _ _ _ _ _ h=>h.elim,λ_ _ _ _ _ _ _ _ _ h=>h.elim,λ_ _ _ _ _ _ _ _ _ _ h=>h.elim⟩⟩
  unfold qax start
  rw[rp.length]
  exact(qe8 rp).more _
end
end L2
namespace L2
open PySem PySem.Spec PyProof.Rows
section
variable {X:Cx} {EX:St->XK} {K:PySem.W.Frag} {e a b c o:Expr} {te ta tb tc to:TV} {pos p apos cpos:Pos} {x:Str}
def vNeg(ta:TV):TV:=λτ Q=>ta τ λr=>match r.d with
|.int i=>Q (.val (.int (-i)))
|_=>False
theorem qmx(ha:VE X EX a ta):VE X EX (.UnaryOp .USub a pos) (vNeg ta) :=
 let ⟨_,a1,a2⟩:=ha.u;⟨_,q8y q7o a1,λH0 B H τ σ Q Qd s S h xc k=>a2 H0 B H τ σ _ _ s S h (xno λ_ q=>q) λr v B' H' p q h1=>by
  split at h1
  ·rename_i i e
   exact⟨i,q.pk.scal (by rw[e];rfl),k (.val (.int (-i))) _ B' H' p (repV rfl) h1⟩
  ·exact h1.elim⟩
def vIsN(g:Bool->Bool)(rx ry:R)(Q:R->Prop):Prop:=match ry.d with
|.non=>Q (.val (.bl (g (match rx.d with|.non=>true|_=>false))))
|_=>False
theorem q0a{B H:Hp}{r:R}{v:V}(h:Pk K B H r v):decide (v=.non)=(match r.d with|.non=>true|_=>false):=by
 have key:∀d,Rep K B d v->decide (v=.non)=(match d with|.non=>true|_=>false):=λd h=>by
  cases d<;>unfold Rep at h<;>first|(subst h;rfl)|(obtain⟨_,_,rfl,_⟩:=h;rfl)|(obtain⟨_,rfl,_⟩:=h;rfl)
 have key2:∀d,(∃a,v=.ref a/\B a=none/\OwnAt K B H d a)->decide (v=.non)=(match d with|.non=>true|_=>false):=λd ⟨a,e,_,ow⟩=>by
  subst e
  cases d<;>first|rfl|exact ow.elim
 cases r with
|val d=>exact key d h
|own d=>exact key2 d h
|peek d=>exact key2 d h
|exc n=>exact h.elim
theorem q36:VO X (compareOp .Is) (vIsN id):=by
 refine⟨_,q5n,λB H x y rx ry Q Qd s px py h k=>?_⟩
 unfold vIsN at h
 split at h
 ·rename_i e
  refine⟨py.scal (by rw[e];rfl),?_⟩
  rw[q0a px]
  exact k _ _ B H (.refl s) (repV rfl) h
 ·exact h.elim
theorem qzo:VO X (compareOp .IsNot) (vIsN (!·)):=by
 refine⟨_,q19,λB H x y rx ry Q Qd s px py h k=>?_⟩
 unfold vIsN at h
 split at h
 ·rename_i e
  refine⟨py.scal (by rw[e];rfl),?_⟩
  rw[q0a px]
  exact k _ _ B H (.refl s) (repV rfl) h
 ·exact h.elim
def qjx(rd rd':R->R->(R->Prop)->Prop)(ta tb tc:TV):TV:=λτ Q=>ta τ λrx=>exR rx (λ_=>False) <| tb τ λry=>exR ry (λ_=>False) <| rd rx ry λrz=>match rz.d with
|.bl k=>if k=true then tc τ λrw=>exR rw (λ_=>False) (rd' ry rw Q) else Q (.val (.bl false))
|_=>False
theorem qxv:MtM X "str.join" (λx vs H Q=>∃(sep:Str) (l:Addr) (ys:List Str),x=.str sep/\vs=[.ref l]/\SqT X.K H l (ys.map V.str)/\(ys.map (·.length)).sum+ys.length*sep.length<=16777216/\Q (.str (glue sep ys)) H):=by
 intro pins s σ H x vs v us Q I rx rv h
 obtain⟨sep,l,ys,rfl,rfl,hq,hz,q⟩:=h
 obtain⟨t,rfl⟩:=rx
 obtain⟨u,rfl,ru⟩:=rv.one
 cases ru
 obtain⟨its,r,pl,_⟩:=I.tuple hq
 obtain⟨ts,rfl,rfl⟩:=qo8 r
 have fit:Builtin.Str.tooLong ((ts.map (·.1)).toArray.foldl (·+·.length+sep.length) 0)=false:=by
  rw[StrLaws.joinTotal]
  unfold Builtin.Str.tooLong
  rw[sizeLine_eq]
  exact decide_eq_false (by lia)
 exact call_meets F.slot_str_join (typeIs_str _ _ _) F.entry_str_join (F.args_str_join_2 _ _) (meets_str_join_tuple sep t l ts fit) ⟨(let ⟨o,h1,h2,n,h3⟩:=pl;⟨o,n,h1,h2,h3⟩),post_join ts ⟨joinFit_length fit,λt' k=>⟨.str (glue sep (ts.map (·.1))),H,I.tok k,⟨t',rfl⟩,q⟩⟩⟩
def qpa(to te:TV):TV:=λτ Q=>to τ λrs=>match rs.d with
|.str sep=>te τ λrl=>∃ys:List Str,(rl.d=.lst (ys.map D.str)\/rl.d=.tup (ys.map D.str))/\(ys.map (·.length)).sum+ys.length*sep.length<=16777216/\Q (.val (.str (glue sep ys)))
|_=>False
theorem qpe(ho:VE X EX o to)(h:VE X EX e te)(hp:qav e=true:=by rfl)
  (hbase:attributeBase o "join" X.env (eval o X.env)=eval o X.env:=by rfl) (hline:(apos.endLine==cpos.line)=true:=by rfl):VE X EX (.Call (.Attribute o "join" apos) [e] [] cpos) (qpa to te) :=
 let ⟨_,o1,o2⟩:=ho.u;let ⟨_,a1,a2⟩:=h.u;⟨_,qbm PySem.F.plainAttrs_str PySem.F.slot_str_join PySem.F.type_str_join (MtR.or q1u qxv) o1 (qac a1 qdi hp) (by simp[hp]) rfl hbase hline,λH0 B H τ σ Q Qd s S h xc k =>
  o2 H0 B H τ σ _ _ s S h (xno λ_ q=>q) λrs vs B1 H1 p1 q1 h1=>by
   split at h1
   ·rename_i sep es
    cases q1.pk.scal (z:=.str sep) (by rw[es];rfl)
    refine⟨rfl,a2 H0 B1 H1 τ σ _ _ p1.s (S.step p1) h1 (xno λ_ ⟨_,q,_⟩=>by rcases q with q|q<;>cases q) λrl vl B2 H2 p2 q2 h2=>?_⟩
    obtain⟨ys,el,hz,hq⟩:=h2
    rcases el with el|el
    ·obtain⟨ad,xs,rfl,hx,rx⟩:=q2.pk.lst p2.s el
     exact .inl ⟨sep,ad,ys,rfl,rfl,SqL.of (by rw[hx,rx.strs]),hz,k _ _ B2 H2 (p1.trans p2) (repV rfl) hq⟩
    ·obtain⟨ad,xs,rfl,hx,rx⟩:=q2.pk.tup el
     cases rx.strs
     exact .inr ⟨sep,ad,ys,rfl,rfl,p2.s.sqT hx.sq,hz,k _ _ B2 H2 (p1.trans p2) (repV rfl) hq⟩
   ·exact h1.elim⟩
theorem qy1{r r':R2}{rd rd':R->R->(R->Prop)->Prop}{ea eb ec:TE}(hr:RfO K r rd)(hr':RfO K r' rd')(ha:RfE K EX ea ta)(hb:RfE K EX eb tb)(hc:RfE K EX ec tc):RfE K EX (qvv r r' ea eb ec) (qjx rd rd' ta tb tc):=λH0 B H τ σ Q Qd s S h xc k =>
 ha H0 B H τ σ _ _ s S h (xno λ_ q=>q) λrx x B1 H1 p1 q1 h1=>hb H0 B1 H1 τ σ _ _ p1.s (S.step p1) (q1.ok h1) (xno λ_ q=>q) λry y B2 H2 p2 q2 h2 =>
  hr B2 H2 x y rx ry _ _ p2.s (q1.pk.step p2) q2.pk (q2.ok h2) λrz z B3 H3 p3 q3 h3=>by
   split at h3
   ·rename_i kk ek
    refine⟨kk,q3.pk.scal (by rw[ek];rfl),?_⟩
    have p13:=p1.trans (p2.trans p3)
    cases kk with
   |true =>
     rw[if_pos rfl] at h3 ⊢
     exact hc H0 B3 H3 τ σ _ _ p3.s (S.step p13) h3 (xno λ_ q=>q) λrw' w B4 H4 p4 q4 h4=>hr' B4 H4 y w ry rw' _ _ p4.s ((q2.pk.step p3).step p4) q4.pk (q4.ok h4) λr v B5 H5 p5 q5 h5=>k r v B5 H5 (p13.trans (p4.trans p5)) (q5.back (p13.trans p4).h) h5
   |false =>
     rw[if_neg Bool.false_ne_true] at h3 ⊢
     exact k (.val (.bl false)) _ B3 H3 p13 (repV rfl) h3
   ·exact h3.elim
theorem qzt{op op':CmpOp}{rd rd':R->R->(R->Prop)->Prop}(hr:VO X (compareOp op) rd)(hr':VO X (compareOp op') rd')(ha:VE X EX a ta)(hb:VE X EX b tb)(hc:VE X EX c tc)(hm:lastMarks [op,op'] [b,c]=false:=by with_unfolding_all rfl) :
  VT X EX (.Compare a [op,op'] [b,c] pos) (vBl (qjx rd rd' ta tb tc)) :=
 let ⟨_,r1,r2⟩:=hr.u;let ⟨_,s1,s2⟩:=hr'.u;let ⟨_,a1,a2⟩:=ha.u;let ⟨_,b1,b2⟩:=hb.u;let ⟨_,c1,c2⟩:=hc.u;⟨_,qyz r1 s1 a1 b1 c1 hm,qvj (qy1 r2 s2 a2 b2 c2)⟩
def strsOf:List D->Option (List Str)
|[]=>some []
|.str s::ds=>(strsOf ds).map (s::·)
|_::_=>none
theorem qgl(ss:List Str):strsOf (ss.map D.str)=some ss:=by
 induction ss with
|nil=>rfl
|cons s ss ih=>rw[List.map_cons,strsOf,ih];rfl
theorem qis:∀ {ds:List D} {ss:List Str},strsOf ds=some ss->ds=ss.map D.str
|[],ss,h=>by cases h;rfl
|d::ds,ss,h=>by
  cases d<;>first|(unfold strsOf at h;cases h;done)|skip
  rename_i s
  unfold strsOf at h
  cases q:strsOf ds with
 |none=>rw[q] at h;cases h
 |some r =>
   rw[q] at h
   cases h
   rw[qis q]
   rfl
def vIn(g:Bool->Bool)(rx ry:R)(Q:R->Prop):Prop:=match rx.d,ry.d with
|.str x,.str y=>Q (.val (.bl (g (!(Builtin.Str.occurrences y x 0 y.length 1).isEmpty))))
|.str x,.tup ds=>∃ss,strsOf ds=some ss/\Q (.val (.bl (g (decide (x∈ss)))))
|.str x,.lst ds=>∃ss,strsOf ds=some ss/\Q (.val (.bl (g (decide (x∈ss)))))
|.str x,.kt ss=>Q (.val (.bl (g (decide (x∈ss)))))
|_,_=>False
theorem qhe(x:Str):∀(ss:List Str),inV (.str x) (ss.map V.str)=decide (x∈ss)
|[]=>rfl
|y::ss=>by
  have:=qhe x ss
  unfold inV at this ⊢
  rw[List.map_cons,List.any_cons,this]
  apply qce
  rw[Bool.or_eq_true,decide_eq_true_iff,decide_eq_true_iff,List.mem_cons]
  rw[show eqV (V.str y) (V.str x)=(y==x) from rfl,beq_iff_eq]
  exact⟨λh=>h.imp Eq.symm id,λh=>h.imp Eq.symm id⟩
theorem qhu(ss:List Str):(ss.map V.str).all qg4=true:=by rw[List.all_map];simp[qg4]
theorem Pk.kt{B H:Hp}{r:R}{v:V}{ss:List Str}(h:Pk K B H r v)(e:r.d=.kt ss):∃a,v=.ref a/\SqT K (λ_=>none) a (ss.map V.str):=by
 cases r with
|val d =>
  cases (show d=_ from e)
  have h':Rep K B (.kt ss) v:=h
  unfold Rep at h'
  exact h'
|own d=>cases (show d=_ from e);obtain⟨_,_,_,q⟩:=h;exact q.elim
|peek d=>cases (show d=_ from e);obtain⟨_,_,_,q⟩:=h;exact q.elim
|exc n=>exact h.elim
theorem q7u:VO X (compareOp .In) (vIn id):=by
 refine⟨_,op_in_str.or qus,λB H x y rx ry Q Qd s px py h k=>?_⟩
 unfold vIn at h
 split at h
 ·rename_i u w e1 e2
  exact .inl ⟨u,w,px.scal (by rw[e1];rfl),py.scal (by rw[e2];rfl),k _ _ B H (.refl s) (repV rfl) h⟩
 ·rename_i u ds e1 e2
  obtain⟨ss,hs,q⟩:=h
  cases qis hs
  cases px.scal (z:=.str u) (by rw[e1];rfl)
  obtain⟨a,xs,rfl,h1,r1⟩:=py.tup e2
  cases r1.strs
  have q':Qd (.val (.bl (decide (u∈ss)))):=q
  rw[←qhe] at q'
  exact .inr ⟨a,_,rfl,.inr (s.sqT h1.sq),rfl,qhu ss,k _ _ B H (.refl s) (repV rfl) q'⟩
 ·rename_i u ds e1 e2
  obtain⟨ss,hs,q⟩:=h
  cases qis hs
  cases px.scal (z:=.str u) (by rw[e1];rfl)
  obtain⟨a,xs,rfl,h1,r1⟩:=py.lst s e2
  cases r1.strs
  have q':Qd (.val (.bl (decide (u∈ss)))):=q
  rw[←qhe] at q'
  exact .inr ⟨a,_,rfl,.inl (SqL.of h1),rfl,qhu ss,k _ _ B H (.refl s) (repV rfl) q'⟩
 ·rename_i u ss e1 e2
  cases px.scal (z:=.str u) (by rw[e1];rfl)
  obtain⟨a,rfl,h1⟩:=py.kt e2
  have q':Qd (.val (.bl (decide (u∈ss)))):=h
  rw[←qhe] at q'
  exact .inr ⟨a,_,rfl,.inr ((Same.emp H).sqT h1),rfl,qhu ss,k _ _ B H (.refl s) (repV rfl) q'⟩
 ·exact h.elim
end
end L2
namespace L2
open PySem PySem.Spec PyProof.Rows
theorem v_cut{t u:TVS}{Dv:VEnds}{τ:VSt}(Pv:VSt->Prop)(rest:∀τ,Pv τ->u Dv τ)(now:∀nx:VSt->Prop,(∀τ,Pv τ->nx τ)->t { nx:=nx,rt:=Dv.rt,bk:=Dv.bk,ct:=Dv.ct,xc:=Dv.xc,ro:=Dv.ro } τ):vSeq t u Dv τ:=now (u Dv) rest
section
variable {g:TVG} {tb:TVS} {Dv:VEnds} {τ:VSt}
theorem q1a{ds:List D}(Pv:Nat->VSt->Prop)(h0:Pv 0 τ)(hn:∀(i:Nat) (d:D) (τ:VSt),ds[i]?=some d->Pv i τ->∀nx:VSt->Prop,(∀τ',Pv (i+1) τ'->nx τ')->g d τ λτ'=>tb { nx:=nx,rt:=Dv.rt,bk:=Dv.nx,ct:=nx,xc:=Dv.xc,ro:=Dv.ro } τ')
  (he:∀τ,Pv ds.length τ->Dv.nx τ):forW g tb Dv ds τ:=by
 have key:∀(n i:Nat) (τ:VSt),ds.length-i=n->i<=ds.length->Pv i τ->forW g tb Dv (ds.drop i) τ:=λn=>by
  induction n with
 |zero =>
   intro i τ h1 h2 h3
   have e:i=ds.length:=by lia
   subst e
   rw[List.drop_length]
   exact he τ h3
 |succ n ih =>
   intro i τ h1 h2 h3
   have l:i<ds.length:=by lia
   rw[List.drop_eq_getElem_cons l]
   exact hn i ds[i] τ (List.getElem?_eq_getElem l) h3 _ λτ' h=>ih (i+1) τ' (by lia) (by lia) h
 have:=key ds.length 0 τ (by lia) (Nat.zero_le _) h0
 rw[List.drop_zero] at this
 exact this
theorem qkb{α:Type}{f:α->D}{xs:List α}(Pv:Nat->VSt->Prop)(h0:Pv 0 τ)(hn:∀(i:Nat) (x:α) (τ:VSt),xs[i]?=some x->Pv i τ->∀nx:VSt->Prop,(∀τ',Pv (i+1) τ'->nx τ')->g (f x) τ λτ'=>tb { nx:=nx,rt:=Dv.rt,bk:=Dv.nx,ct:=nx,xc:=Dv.xc,ro:=Dv.ro } τ')
  (he:∀τ,Pv xs.length τ->Dv.nx τ):forW g tb Dv (xs.map f) τ:=by
 refine q1a Pv h0 (λi d τ e=>?_) (by rw[List.length_map];exact he)
 rw[List.getElem?_map] at e
 cases q:xs[i]? with
|none=>rw[q] at e;cases e
|some x =>
  rw[q] at e
  cases e
  exact hn i x τ q
theorem qnv{lo:Int}{n:Nat}(Pv:Nat->VSt->Prop)(h0:Pv 0 τ)(hn:∀(i:Nat) (τ:VSt),i<n->Pv i τ->∀nx:VSt->Prop,(∀τ',Pv (i+1) τ'->nx τ')->g (.int (lo+i)) τ λτ'=>tb { nx:=nx,rt:=Dv.rt,bk:=Dv.nx,ct:=nx,xc:=Dv.xc,ro:=Dv.ro } τ')
  (he:∀τ,Pv n τ->Dv.nx τ):forW g tb Dv (rngL lo n) τ:=by
 unfold rngL
 refine qkb Pv h0 (λi x τ e=>?_) (by rw[List.length_range];exact he)
 by_cases l:i<n
 ·rw[List.getElem?_range l] at e
  cases e
  exact hn i τ l
 ·rw[List.getElem?_eq_none (by rw[List.length_range];lia)] at e
  cases e
end
theorem qjj{α:Type}(xs:List α):xs.filter (λ_=>true)=xs:=List.filter_eq_self.mpr λ_ _=>rfl
section
variable {α:Type} {f:α->D} {τ:VSt} {k:Nat} {g:TVG} {ti:TVT} {te:TV} {Q:R->Prop}
theorem qpo(P:α->D->Prop)(p:α->Bool)(xs:List α)(hz:xs.length<=sizeLine)
  (ok:∀x∈xs,∀(Y:R->Prop) (N:Prop),(p x=true->∀d,P x d->Y (.val d))->(p x=false->N)->g (f x) (τ++List.replicate k none) λτ2=>(τ2.take τ.length=τ/\τ2.length=τ.length+k)/\ti τ2 λb=>if b=true then te τ2 Y else N)
  (fin:∀es:List D,es.length=(xs.filter p).length->(∀(j:Nat) (x:α) (e:D),(xs.filter p)[j]?=some x->es[j]?=some e->P x e)->Q (.own (.lst es))):qj6 τ k g ti te Q (xs.map f) []:=by
 have key:∀(ys zs:List α) (acc:List D),xs=zs++ys->acc.length=(zs.filter p).length->(∀(j:Nat) (x:α) (e:D),(zs.filter p)[j]?=some x->acc[j]?=some e->P x e)->qj6 τ k g ti te Q (ys.map f) acc:=by
  intro ys
  induction ys with
 |nil =>
   intro zs acc e h1 h2
   rw[List.append_nil] at e
   subst e
   exact fin acc h1 h2
 |cons y ys ih =>
   intro zs acc e h1 h2
   have hl:acc.length<sizeLine:=by
    have h3:=List.length_filter_le p zs
    have h4:xs.length=zs.length+(ys.length+1):=by rw[e,List.length_append,List.length_cons]
    lia
   refine ok y (by rw[e];simp) _ _ (λhp d hd=>⟨hl,ih (zs++[y]) (acc++[d]) (by rw[e];simp) ?_ λj x e' q1 q2=>?_⟩) (λhp=>ih (zs++[y]) acc (by rw[e];simp) ?_ λj x e' q1 q2=>?_)
   ·rw[List.filter_append,List.length_append,List.length_append,h1]
    simp[hp]
   ·rw[List.filter_append] at q1
    have ef:[y].filter p=[y]:=by simp[hp]
    rw[ef] at q1
    by_cases l:j<(zs.filter p).length
    ·rw[List.getElem?_append_left l] at q1
     rw[List.getElem?_append_left (by lia)] at q2
     exact h2 j x e' q1 q2
    ·rw[List.getElem?_append_right (by lia)] at q1
     rw[List.getElem?_append_right (by lia)] at q2
     have ej:j-(zs.filter p).length=0:=by
      have:=(List.getElem?_eq_some_iff.mp q1).1
      simp at this
      lia
     rw[ej] at q1
     rw[h1,ej] at q2
     cases q1
     cases q2
     exact hd
   ·rw[List.filter_append,List.length_append,h1]
    simp[hp]
   ·rw[List.filter_append] at q1
    have ef:[y].filter p=[]:=by simp[hp]
    rw[ef,List.append_nil] at q1
    exact h2 j x e' q1 q2
 exact key xs [] [] rfl rfl (λj x e q=>by simp at q)
theorem qd7(h:α->D)(p:α->Bool)(xs:List α)(hz:xs.length<=sizeLine)
  (ok:∀x∈xs,∀(Y:R->Prop) (N:Prop),(p x=true->Y (.val (h x)))->(p x=false->N)->g (f x) (τ++List.replicate k none) λτ2=>(τ2.take τ.length=τ/\τ2.length=τ.length+k)/\ti τ2 λb=>if b=true then te τ2 Y else N)
  (fin:Q (.own (.lst ((xs.filter p).map h)))):qj6 τ k g ti te Q (xs.map f) []:=by
 refine qpo (λx d=>d=h x) p xs hz (λx hx Y N h1 h2=>ok x hx Y N (λz=>h1 z _ rfl) h2) λes hl he=>?_
 have:es=(xs.filter p).map h:=List.ext_getElem (by rw[hl,List.length_map]) λj h1 h2=>by
  rw[List.length_map] at h2
  rw[List.getElem_map]
  exact he j _ _ (List.getElem?_eq_getElem h2) (List.getElem?_eq_getElem h1)
 rw[this]
 exact fin
theorem qfr(h:α->D)(xs:List α)(hz:xs.length<=sizeLine)
  (ok:∀x∈xs,∀(Y:R->Prop) (N:Prop),Y (.val (h x))->g (f x) (τ++List.replicate k none) λτ2=>(τ2.take τ.length=τ/\τ2.length=τ.length+k)/\ti τ2 λb=>if b=true then te τ2 Y else N)
  (fin:Q (.own (.lst (xs.map h)))):qj6 τ k g ti te Q (xs.map f) []:=by
 refine qd7 h (λ_=>true) xs hz (λx hx Y N h1 _=>ok x hx Y N (h1 rfl)) ?_
 rw[qjj]
 exact fin
theorem qw2(P:D->Prop)(xs:List α)(hz:xs.length<=sizeLine)
  (ok:∀x∈xs,∀(Y:R->Prop) (N:Prop),(∀d,P d->Y (.val d))->g (f x) (τ++List.replicate k none) λτ2=>(τ2.take τ.length=τ/\τ2.length=τ.length+k)/\ti τ2 λb=>if b=true then te τ2 Y else N)
  (fin:∀es:List D,es.length=xs.length->(∀e∈es,P e)->Q (.own (.lst es))):qj6 τ k g ti te Q (xs.map f) []:=by
 refine qpo (λ_ d=>P d) (λ_=>true) xs hz (λx hx Y N h1 _=>ok x hx Y N (h1 rfl)) λes hl he=>fin es ?_ λe hm=>?_
 ·rw[qjj] at hl
  exact hl
 ·obtain⟨j,hj⟩:=List.mem_iff_getElem?.mp hm
  have l:=(List.getElem?_eq_some_iff.mp hj).1
  exact he j _ e (List.getElem?_eq_getElem (by rw[←hl];exact l)) hj
end
def wayD(ws:List Str):D:=.tup (ws.map D.str)
def qha(ws:List Str):D:=.lst (ws.map D.str)
theorem qfq:∀(ss ts:List Str),qc0 (ss.map D.str) (ts.map D.str)=true
|[],_=>by unfold qc0;rfl
|_::_,[]=>by unfold qc0;rfl
|s::ss,t::ts=>by
  show qc0 (.str s::ss.map D.str) (.str t::ts.map D.str)=true
  unfold qc0
  rw[qfq ss ts]
  rfl
theorem qhd:∀(ss:List Str),qcu (ss.map D.str)=0
|[]=>rfl
|s::ss=>by
  show qcu (.str s::ss.map D.str)=0
  unfold qcu
  rw[qhd ss]
  rfl
theorem qoe{ss ts:List Str}(h:ss.map D.str=ts.map D.str):ss=ts:=by
 induction ss generalizing ts with
|nil=>cases ts with
 |nil=>rfl
 |cons t ts=>cases h
|cons s ss ih=>cases ts with
 |nil=>cases h
 |cons t ts =>
   injection h with h1 h2
   injection h1 with h1
   rw[h1,ih h2]
theorem eq_int(i j:Int):eqD (.int i) (.int j)=decide (i=j):=qce (by
 rw[eqD_iff,decide_eq_true_iff]
 exact⟨λh=>D.int.inj h,λh=>h▸rfl⟩)
theorem eq_str(i j:Str):eqD (.str i) (.str j)=decide (i=j):=qce (by
 rw[eqD_iff,decide_eq_true_iff]
 exact⟨λh=>D.str.inj h,λh=>h▸rfl⟩)
theorem qte(i j:Int):cmpD (.int i) (.int j)=true:=rfl
theorem qnf(i j:Str):cmpD (.str i) (.str j)=true:=rfl
theorem qtl(i:Int):depD (.int i)=0:=rfl
theorem qtm(i:Str):depD (.str i)=0:=rfl
theorem qdo{α β:Type}(f:α->β)(xs:List α)(k:Int):atI (xs.map f) k=(atI xs k).map f:=by
 unfold atI
 rw[List.length_map]
 cases ixN xs.length k with
|none=>rfl
|some j=>simp
theorem qj7{α β:Type}(f:α->β)(xs:List α)(lo hi:Option Int):cutL (xs.map f) lo hi=(cutL xs lo hi).map f:=by
 unfold cutL
 rw[List.length_map,List.map_take,List.map_drop]
theorem qzb{K:PySem.W.Frag}{H:Hp}{a:Addr}{ns:List Int}{g:DP}(h:g [.scr ns] (λr=>r=.val (.bl true)))(hS:SqL K H a (ns.map V.int)){E:XK}:spOf K g [.ref a] H (λv _=>v=.bl true) E :=
 ⟨[.scr ns],H,_,Same.refl H,.one (by unfold Rep;exact⟨a,rfl,hS⟩),h,(λn C B' H' e _ _=>by cases e),λr v B' H' e p rr=>by
  subst e
  have rr':Rep K B' (.bl true) v:=rr
  unfold Rep at rr'
  exact rr'⟩
theorem qfk(ss ts:List Str):(ss.map D.str=ts.map D.str)=(ss=ts):=propext ⟨qoe,λh=>h▸rfl⟩
theorem qh4(ss ts:List Int):(ss.map D.int=ts.map D.int)=(ss=ts):=propext ⟨λh=>by
 induction ss generalizing ts with
|nil=>cases ts with
 |nil=>rfl
 |cons t ts=>cases h
|cons s ss ih=>cases ts with
 |nil=>cases h
 |cons t ts =>
   injection h with h1 h2
   injection h1 with h1
   rw[h1,ih _ h2],λh=>h▸rfl⟩
theorem qp3{α:Type}(f:α->D)(xs:List α)(x:α):xs.map f++[f x]=(xs++[x]).map f:=by rw[List.map_append];rfl
theorem qqe(xs:List Str)(x:Str):xs.map D.str++[.str x]=(xs++[x]).map D.str:=qp3 _ xs x
theorem qqd(xs:List Int)(x:Int):xs.map D.int++[.int x]=(xs++[x]).map D.int:=qp3 _ xs x
theorem qtc(xs ys:List Str):xs.map D.str++ys.map D.str=(xs++ys).map D.str:=(List.map_append ..).symm
theorem qpq(xs:List Str):(xs.map D.str).dropLast=xs.dropLast.map D.str:=by
 rw[←qft,←qft,qj7]
theorem qos(d:D)(Q:D->Prop):pubR (.val d) Q=Q d:=rfl
theorem qor(d:D)(Q:D->Prop):pubR (.own d) Q=Q d:=rfl
theorem qqm(k:Nat)(xs:List Str):(xs.map D.str).take k=(xs.take k).map D.str:=(List.map_take ..).symm
theorem qlt(k:Nat)(xs:List Str):(xs.map D.str).drop k=(xs.drop k).map D.str:=(List.map_drop ..).symm
theorem qs2{α:Type}(xs:List α)(n:Nat):atI xs (no_index (OfNat.ofNat n:Int))=xs[n]?:=by
 show atI xs (n:Int)=xs[n]?
 unfold atI ixN
 rw[if_pos (by lia)]
 by_cases h:(n:Int)<xs.length
 ·rw[if_pos h]
  simp
 ·rw[if_neg h]
  simp
  lia
theorem qpl{α:Type}(xs:List α):atI xs (-1)=xs.getLast?:=by
 unfold atI ixN
 rw[if_neg (by decide)]
 cases xs with
|nil=>rfl
|cons x xs =>
  rw[if_pos (by rw[List.length_cons];lia)]
  rw[List.getLast?_eq_getElem?]
  show (x::xs)[(-1+((x::xs).length:Int)).toNat]?=_
  congr 1
  lia
theorem qtx(d:D)(Q:R->Prop)(k:Prop):exR (.val d) Q k=k:=rfl
theorem qtw(d:D)(Q:R->Prop)(k:Prop):exR (.own d) Q k=k:=rfl
theorem qnt(d:D)(Q:R->Prop)(k:Prop):exR (.peek d) Q k=k:=rfl
theorem qtv(n:Str)(Q:R->Prop)(k:Prop):exR (.exc n) Q k=Q (.exc n):=rfl
theorem qno(d:D)(Q:AR->Prop)(k:Prop):excA (.val d) Q k=k:=rfl
theorem qnn(d:D)(Q:AR->Prop)(k:Prop):excA (.own d) Q k=k:=rfl
theorem qj9(d:D)(Q:AR->Prop)(k:Prop):excA (.peek d) Q k=k:=rfl
theorem qnm(n:Str)(Q:AR->Prop)(k:Prop):excA (.exc n) Q k=Q (.exc n):=rfl
theorem qns(τ:VSt)(Dv:VEnds)(d:D)(k:Prop):exS τ Dv (.val d) k=k:=rfl
theorem qnr(τ:VSt)(Dv:VEnds)(d:D)(k:Prop):exS τ Dv (.own d) k=k:=rfl
theorem qka(τ:VSt)(Dv:VEnds)(d:D)(k:Prop):exS τ Dv (.peek d) k=k:=rfl
theorem qnq(τ:VSt)(Dv:VEnds)(n:Str)(k:Prop):exS τ Dv (.exc n) k=Dv.xc τ n:=rfl
theorem qtt(ds:List D)(Q:R->Prop)(k:List D->Prop):exA (.ok ds) Q k=k ds:=rfl
theorem qht(n:Str)(Q:R->Prop)(k:List D->Prop):exA (.exc n) Q k=Q (.exc n):=rfl
theorem qtu(τ:VSt)(Dv:VEnds)(ds:List D)(k:List D->Prop):exI τ Dv (.ok ds) k=k ds:=rfl
theorem qnp(τ:VSt)(Dv:VEnds)(n:Str)(k:List D->Prop):exI τ Dv (.exc n) k=Dv.xc τ n:=rfl
theorem qoh(d:D)(ds:List D):q1t d (.ok ds)=.ok (d::ds):=rfl
theorem qkj(d:D)(n:Str):q1t d (.exc n)=.exc n:=rfl
theorem qvh(d:D):(R.val d).d=d:=rfl
theorem qvg(d:D):(R.own d).d=d:=rfl
theorem qov(d:D):(R.peek d).d=d:=rfl
theorem qvf(n:Str):(R.exc n).d=.scr []:=rfl
theorem qca{t u:TVS}{Dv:VEnds}{τ:VSt}(h:t { nx:=u Dv,rt:=Dv.rt,bk:=Dv.bk,ct:=Dv.ct,xc:=Dv.xc,ro:=Dv.ro } τ):vSeq t u Dv τ:=h
end L2
namespace L2
open PySem PySem.Spec PyProof.Rows
def lkD:List (List Str)->List D->List Str->Option D
|k::ks,d::ds,w=>if k=w then some d else lkD ks ds w
|_,_,_=>none
def lkK:List Str->List D->Str->Option D
|k::ks,d::ds,w=>if k=w then some d else lkK ks ds w
|_,_,_=>none
def rpD:List (List Str)->List D->List Str->D->List D
|k::ks,e::ds,w,d=>(if k=w then d else e)::rpD ks ds w d
|_,_,_,_=>[]
def putD(ks:List (List Str))(ds:List D)(w:List Str)(d:D):D:=if w∈ks then .dT ks (rpD ks ds w d) else .dT (ks++[w]) (ds++[d])
theorem qwf{a b:List Str}(h:wK a=wK b):a=b:=by
 unfold wK at h
 induction a generalizing b with
|nil=>cases b with
 |nil=>rfl
 |cons _ _=>cases h
|cons x a ih=>cases b with
 |nil=>cases h
 |cons y b =>
   injection h with h1 h2
   injection h1 with h1
   rw[h1,ih h2]
theorem qm1(w:List Str):(wK w).map kV=w.map V.str:=by
 unfold wK
 rw[List.map_map]
 rfl
section
variable {K:PySem.W.Frag} {B H:Hp} {d:D} {r:R} {v:V}
theorem DGet.tR{H:Hp}{a b:Addr}{kvs:List (List Key×V)}{k:List Key}(e:Rd H a (.dT kvs))(eb:H b=some (.tup (k.map kV))):DGet H a (.ref b) (valV kvs k):=.inr ⟨kvs,k,b,e,rfl,eb,rfl⟩
theorem Pk.dT{ks:List (List Str)}{ds:List D}(s:Same B H)(h:Pk K B H r v)(e:r.d=.dT ks ds):∃a kvs,v=.ref a/\Rd H a (.dT kvs)/\kvs.map (·.1)=ks.map wK/\Reps K B ds (kvs.map (·.2)):=by
 cases r with
|val d =>
  cases (show d=_ from e)
  have h':Rep K B (.dT ks ds) v:=h
  unfold Rep at h'
  obtain⟨a,xs,rfl,q,k,rp⟩:=h'
  exact⟨a,xs,rfl,q.elim (λq=>.inl (s _ _ q)) λ⟨o,q⟩=>.inr ⟨o,s _ _ q⟩,k,rp⟩
|own d=>cases (show d=_ from e);obtain⟨a,rfl,_,xs,q,k,rp⟩:=h;exact⟨a,xs,rfl,.inl q,k,rp⟩
|peek d=>cases (show d=_ from e);obtain⟨a,rfl,_,xs,q,k,rp⟩:=h;exact⟨a,xs,rfl,.inl q,k,rp⟩
|exc n=>exact h.elim
theorem Pk.dK{ks:List Str}{ds:List D}(s:Same B H)(h:Pk K B H r v)(e:r.d=.dK ks ds):∃a kvs,v=.ref a/\H a=some (.dK kvs)/\kvs.map (·.1)=ks.map Sum.inr/\Reps K B ds (kvs.map (·.2)):=by
 cases r with
|val d =>
  cases (show d=_ from e)
  have h':Rep K B (.dK ks ds) v:=h
  unfold Rep at h'
  obtain⟨a,xs,rfl,q,k,rp⟩:=h'
  exact⟨a,xs,rfl,s _ _ q,k,rp⟩
|own d=>cases (show d=_ from e);obtain⟨a,rfl,_,xs,q,k,rp⟩:=h;exact⟨a,xs,rfl,q,k,rp⟩
|peek d=>cases (show d=_ from e);obtain⟨a,rfl,_,xs,q,k,rp⟩:=h;exact⟨a,xs,rfl,q,k,rp⟩
|exc n=>exact h.elim
theorem Pk.way{w:List Str}(h:Pk K B H r v)(e:r.d=.tup (w.map D.str))(n:("" : Str)∉w):∃a,v=.ref a/\B a=some (.tup (w.map V.str)):=by
 obtain⟨a,xs,rfl,t,rp⟩:=h.tup e
 refine⟨a,rfl,?_⟩
 rw[←rp.strs]
 rcases t with t|⟨_,t⟩
 ·exact t
 ·obtain⟨z,hz,ez⟩:=List.mem_map.mp t
  cases ez
  exact absurd hz n
theorem qpz:∀ {ks:List (List Str)} {ds:List D} {kvs:List (List Key×V)} (w:List Str),kvs.map (·.1)=ks.map wK->Reps K B ds (kvs.map (·.2))->(lkD ks ds w=none/\valV kvs (wK w)=none)\/∃d v,lkD ks ds w=some d/\valV kvs (wK w)=some v/\Rep K B d v
|[],ds,kvs,w,h1,h2=>by
  have e:kvs=[]:=by simpa using h1
  subst e
  exact .inl ⟨by unfold lkD;rfl,rfl⟩
|k::ks,ds,[],w,h1,h2=>by cases h1
|k::ks,[],p::kvs,w,h1,h2=>by
  unfold Reps at h2
  cases h2
|k::ks,d::ds,p::kvs,w,h1,h2=>by
  injection h1 with e1 e2
  have e1:p.1=wK k:=e1
  unfold Reps at h2
  obtain⟨x,r,q,r1,r2⟩:=h2
  injection q with q1 q2
  subst q1 q2
  unfold lkD
  by_cases e:k=w
  ·rw[if_pos e,qf2 (by rw[e1,e])]
   exact .inr ⟨d,p.2,rfl,rfl,r1⟩
  ·rw[if_neg e,qf1 (λz=>e (qwf (e1.symm.trans z)))]
   exact qpz w e2 r2
theorem qke:∀ {ks:List Str} {ds:List D} {kvs:List (Key×V)} (w:Str),kvs.map (·.1)=ks.map Sum.inr->Reps K B ds (kvs.map (·.2))->(lkK ks ds w=none/\valV kvs (Sum.inr w)=none)\/∃d v,lkK ks ds w=some d/\valV kvs (Sum.inr w)=some v/\Rep K B d v
|[],ds,kvs,w,h1,h2=>by
  have e:kvs=[]:=by simpa using h1
  subst e
  exact .inl ⟨by unfold lkK;rfl,rfl⟩
|k::ks,ds,[],w,h1,h2=>by cases h1
|k::ks,[],p::kvs,w,h1,h2=>by
  unfold Reps at h2
  cases h2
|k::ks,d::ds,p::kvs,w,h1,h2=>by
  injection h1 with e1 e2
  have e1:p.1=Sum.inr k:=e1
  unfold Reps at h2
  obtain⟨x,r,q,r1,r2⟩:=h2
  injection q with q1 q2
  subst q1 q2
  unfold lkK
  by_cases e:k=w
  ·rw[if_pos e,qf2 (by rw[e1,e])]
   exact .inr ⟨d,p.2,rfl,rfl,r1⟩
  ·rw[if_neg e,qf1 (λz=>e (Sum.inr.inj (e1.symm.trans z)))]
   exact qke w e2 r2
theorem qu7{ks:List (List Str)}{ds:List D}{kvs:List (List Key×V)}(w:List Str){d:D}{v:V}(h1:kvs.map (·.1)=ks.map wK)(h2:Reps K B ds (kvs.map (·.2)))(hd:Rep K B d v) :
  ∃ks' ds',putD ks ds w d=.dT ks' ds'/\(putK kvs (wK w) v).map (·.1)=ks'.map wK/\Reps K B ds' ((putK kvs (wK w) v).map (·.2)):=by
 have hany:(kvs.any λkv=>decide (kv.1=wK w))=decide (w∈ks):=by
  apply qce
  rw[List.any_eq_true,decide_eq_true_iff]
  constructor
  ·rintro⟨p,hp,e⟩
   have:p.1∈kvs.map (·.1):=List.mem_map_of_mem hp
   rw[h1,of_decide_eq_true e] at this
   obtain⟨k,hk,ek⟩:=List.mem_map.mp this
   rw[←qwf ek]
   exact hk
  ·intro hw
   have:wK w∈kvs.map (·.1):=by rw[h1];exact List.mem_map_of_mem hw
   obtain⟨p,hp,e⟩:=List.mem_map.mp this
   exact⟨p,hp,decide_eq_true e⟩
 unfold putD putK
 rw[hany]
 by_cases hw:w∈ks
 ·rw[if_pos hw,if_pos (decide_eq_true hw)]
  refine⟨ks,_,rfl,?_,?_⟩
  ·rw[←h1,List.map_map]
   refine List.map_congr_left λp _=>?_
   show (if p.1=wK w then (p.1,v) else p).1=p.1
   split<;>rfl
  ·clear hany hw
   induction kvs generalizing ks ds with
  |nil =>
    have e:ks=[]:=by simpa using h1.symm
    subst e
    unfold rpD
    exact .nil
  |cons p kvs ih =>
    cases ks with
   |nil=>cases h1
   |cons k ks =>
     cases ds with
    |nil=>unfold Reps at h2;cases h2
    |cons e ds =>
      injection h1 with e1 e2
      have e1:p.1=wK k:=e1
      unfold Reps at h2
      obtain⟨x,r,q,r1,r2⟩:=h2
      injection q with q1 q2
      subst q1 q2
      unfold rpD
      refine .cons ?_ (ih e2 r2)
      by_cases ek:k=w
      ·rw[if_pos ek]
       show Rep K B d (if p.1=wK w then (p.1,v) else p).2
       rw[if_pos (by rw[e1,ek])]
       exact hd
      ·rw[if_neg ek]
       show Rep K B e (if p.1=wK w then (p.1,v) else p).2
       rw[if_neg (λz=>ek (qwf (e1.symm.trans z)))]
       exact r1
 ·rw[if_neg hw,if_neg (by simpa using hw)]
  refine⟨_,_,rfl,?_,?_⟩
  ·rw[List.map_append,List.map_append,h1]
   rfl
  ·rw[List.map_append]
   exact h2.append (.one hd)
end
section
variable {X:Cx} {EX:St->XK} {e a o i:Expr} {te ta to ti:TV} {pos pos' p p2 apos cpos:Pos} {x:Str} {f:Expr} {tf:TV}
def qja(to ti:TV):TV:=λτ Q=>to τ λrx=>exR rx (λ_=>False) <| ti τ λry=>match rx.d,ry.d with
|.dT ks ds,.tup es=>∃w d,es=w.map D.str/\("" : Str)∉w/\lkD ks ds w=some d/\Q (.val d)
|.dK ks ds,.str z=>∃d,lkK ks ds z=some d/\Q (.val d)
|_,_=>False
theorem qgp(hu:X.A.units+64<cLine)(ho:VE X EX o to)(hi:VE X EX i ti)(hs:NoSl i:=by exact λ_ _=>rfl):VE X EX (.Subscript o i pos) (qja to ti) :=
 let ⟨_,a1,a2⟩:=ho.u;let ⟨_,b1,b2⟩:=hi.u;⟨_,q21 (by lia) a1 b1 hs,λH0 B H τ σ Q Qd s S h xc k=>a2 H0 B H τ σ _ _ s S h (xno λ_ q=>q) λrx x B1 H1 p1 q1 h1=>b2 H0 B1 H1 τ σ _ _ p1.s (S.step p1) (q1.ok h1) (xno λ_ q=>by revert q;cases rx.d<;>exact λz=>z) λry y B2 H2 p2 q2 h2=>by
  have px:=q1.pk.step p2
  split at h2
  ·rename_i ks ds es e1 e2
   obtain⟨w,d,rfl,hn,hl,hq⟩:=h2
   obtain⟨ad,kvs,rfl,hd,hk,hr⟩:=px.dT p2.s e1
   obtain⟨b,rfl,hb⟩:=q2.pk.way e2 hn
   rcases qpz w hk hr with ⟨z,_⟩|⟨d',v,z,hv,rp⟩
   ·rw[z] at hl;cases hl
   ·rw[z] at hl;cases hl
    exact⟨ad,v,rfl,hv▸DGet.tR hd (by rw[qm1];exact p2.s _ _ hb),k (.val d) _ B2 H2 (p1.trans p2) rp hq⟩
  ·rename_i ks ds z e1 e2
   obtain⟨d,hl,hq⟩:=h2
   obtain⟨ad,kvs,rfl,hd,hk,hr⟩:=px.dK p2.s e1
   cases q2.pk.scal (z:=.str z) (by rw[e2];rfl)
   rcases qke z hk hr with ⟨w,_⟩|⟨d',v,w,hv,rp⟩
   ·rw[w] at hl;cases hl
   ·rw[w] at hl;cases hl
    exact⟨ad,v,rfl,hv▸DGet.k (k:=Sum.inr z) hd,k (.val d) _ B2 H2 (p1.trans p2) rp hq⟩
  ·exact h2.elim⟩
def vDIn(g:Bool->Bool)(ti to:TV):TV:=λτ Q=>ti τ λry=>exR ry (λ_=>False) <| to τ λrx=>match rx.d,ry.d with
|.dT ks ds,.tup es=>∃w,es=w.map D.str/\("" : Str)∉w/\Q (.val (.bl (g (lkD ks ds w).isSome)))
|.dK ks ds,.str z=>Q (.val (.bl (g (lkK ks ds z).isSome)))
|_,_=>False
theorem quh{K:PySem.W.Frag}{B:Hp}{ks:List (List Str)}{ds:List D}{kvs:List (List Key×V)}(w:List Str)(h1:kvs.map (·.1)=ks.map wK)(h2:Reps K B ds (kvs.map (·.2))):(valV kvs (wK w)).isSome=(lkD ks ds w).isSome:=by
 rcases qpz w h1 h2 with ⟨z,y⟩|⟨d',v,z,y,_⟩<;>rw[z,y]<;>rfl
theorem qrb{K:PySem.W.Frag}{B:Hp}{ks:List Str}{ds:List D}{kvs:List (Key×V)}(w:Str)(h1:kvs.map (·.1)=ks.map Sum.inr)(h2:Reps K B ds (kvs.map (·.2))):(valV kvs (Sum.inr w)).isSome=(lkK ks ds w).isSome:=by
 rcases qke w h1 h2 with ⟨z,y⟩|⟨d',v,z,y,_⟩<;>rw[z,y]<;>rfl
theorem q0f{K:PySem.W.Frag}{eo ei:TE}(g:Bool->Bool)(ho:RfE K EX eo to)(hi:RfE K EX ei ti):RfE K EX (λσ H Q=>ei σ H λy H1=>eo σ H1 λx H2=>∃a o,x=.ref a/\DGet H2 a y o/\Q (.bl (g o.isSome)) H2) (vDIn g ti to):=λH0 B H τ σ Q Qd s S h xc k =>
 hi H0 B H τ σ _ _ s S h (xno λ_ q=>q) λry y B1 H1 p1 q1 h1=>ho H0 B1 H1 τ σ _ _ p1.s (S.step p1) (q1.ok h1) (xno λ_ q=>q) λrx x B2 H2 p2 q2 h2=>by
  have py:=q1.pk.step p2
  split at h2
  ·rename_i ks ds es e1 e2
   obtain⟨w,rfl,hn,hq⟩:=h2
   obtain⟨ad,kvs,rfl,hd,hk,hr⟩:=q2.pk.dT p2.s e1
   obtain⟨b,rfl,hb⟩:=py.way e2 hn
   refine⟨ad,_,rfl,DGet.tR (k:=wK w) hd (by rw[qm1];exact p2.s _ _ hb),?_⟩
   rw[quh w hk hr]
   exact k _ _ B2 H2 (p1.trans p2) (repV rfl) hq
  ·rename_i ks ds z e1 e2
   obtain⟨ad,kvs,rfl,hd,hk,hr⟩:=q2.pk.dK p2.s e1
   cases py.scal (z:=.str z) (by rw[e2];rfl)
   refine⟨ad,_,rfl,DGet.k (k:=Sum.inr z) hd,?_⟩
   rw[qrb z hk hr]
   exact k _ _ B2 H2 (p1.trans p2) (repV rfl) h2
  ·exact h2.elim
theorem q7x(hu:X.A.units+64<cLine)(hi:VE X EX i ti)(ho:VE X EX o to)(hm:behindInMarks .In o=false:=by with_unfolding_all rfl):VT X EX (.Compare i [.In] [o] pos) (vBl (vDIn id ti to)) :=
 let ⟨_,a1,a2⟩:=ho.u;let ⟨_,b1,b2⟩:=hi.u;⟨_,q6t (by lia) b1 a1 hm,qvj (q0f id a2 b2)⟩
theorem qwe(hu:X.A.units+64<cLine)(hi:VE X EX i ti)(ho:VE X EX o to)(hm:behindInMarks .NotIn o=false:=by with_unfolding_all rfl):VT X EX (.Compare i [.NotIn] [o] pos) (vBl (vDIn (!·) ti to)) :=
 let ⟨_,a1,a2⟩:=ho.u;let ⟨_,b1,b2⟩:=hi.u;⟨_,qvd (by lia) b1 a1 hm,qvj (q0f (!·) a2 b2)⟩
def qjy(to ti:TV):TV:=λτ Q=>to τ λrx=>match rx.d with
|.dT ks ds=>ti τ λry=>∃w,ry.d=.tup (w.map D.str)/\("" : Str)∉w/\Q (.val ((lkD ks ds w).getD .non))
|.dK ks ds=>ti τ λry=>∃z,ry.d=.str z/\Q (.val ((lkK ks ds z).getD .non))
|_=>False
theorem qqq(hu:X.A.units+64<cLine)(ho:VE X EX o to)(hi:VE X EX e ti)(m:M1 X o "get" apos e cpos:=by exact⟨rfl,rfl,rfl,rfl⟩):VE X EX (.Call (.Attribute o "get" apos) [e] [] cpos) (qjy to ti) :=
 let ⟨_,a1,a2⟩:=ho.u;let ⟨_,b1,b2⟩:=hi.u;⟨_,qyp (by lia) a1 b1 m,λH0 B H τ σ Q Qd s S h xc k=>a2 H0 B H τ σ _ _ s S h (xno λ_ q=>q) λrx x B1 H1 p1 q1 h1=>by
  split at h1
  ·rename_i ks ds e1
   obtain⟨ad,kvs,rfl,hd,_,_⟩:=q1.pk.dT p1.s e1
   refine⟨ad,rfl,.inr ⟨kvs,hd⟩,b2 H0 B1 H1 τ σ _ _ p1.s (S.step p1) h1 (xno λ_ ⟨_,q,_⟩=>by cases q) λry y B2 H2 p2 q2 h2=>?_⟩
   obtain⟨w,e2,hn,hq⟩:=h2
   obtain⟨ad',kvs',ea,hd',hk,hr⟩:=(q1.pk.step p2).dT p2.s e1
   cases ea
   obtain⟨b,rfl,hb⟩:=q2.pk.way e2 hn
   refine⟨_,DGet.tR (k:=wK w) hd' (by rw[qm1];exact p2.s _ _ hb),?_⟩
   rcases qpz w hk hr with ⟨z,y⟩|⟨d',v,z,y,rp⟩
   ·rw[y];rw[z] at hq
    exact k (.val .non) _ B2 H2 (p1.trans p2) (repV rfl) hq
   ·rw[y];rw[z] at hq
    exact k (.val d') _ B2 H2 (p1.trans p2) rp hq
  ·rename_i ks ds e1
   obtain⟨ad,kvs,rfl,hd,_,_⟩:=q1.pk.dK p1.s e1
   refine⟨ad,rfl,.inl ⟨kvs,.inl hd⟩,b2 H0 B1 H1 τ σ _ _ p1.s (S.step p1) h1 (xno λ_ ⟨_,q,_⟩=>by cases q) λry y B2 H2 p2 q2 h2=>?_⟩
   obtain⟨w,e2,hq⟩:=h2
   obtain⟨ad',kvs',ea,hd',hk,hr⟩:=(q1.pk.step p2).dK p2.s e1
   cases ea
   cases q2.pk.scal (z:=.str w) (by rw[e2];rfl)
   refine⟨_,DGet.k (k:=Sum.inr w) hd',?_⟩
   rcases qke w hk hr with ⟨z,y⟩|⟨d',v,z,y,rp⟩
   ·rw[y];rw[z] at hq
    exact k (.val .non) _ B2 H2 (p1.trans p2) (repV rfl) hq
   ·rw[y];rw[z] at hq
    exact k (.val d') _ B2 H2 (p1.trans p2) rp hq
  ·exact h1.elim⟩
def qmm:TV:=λ_ Q=>Q (.own (.dT [] []))
theorem qzj:VE X EX (.Dict [] [] pos) qmm:=⟨_,qyr,λ_ B H _ _ _ _ s _ h _ k p hp=>k (.own (.dT [] [])) _ B _ (.grow s (qaw hp _)) ⟨p,rfl,hp,s.free hp,[],qa6,rfl,.nil⟩ h⟩
def ownT(τ:VSt)(i:Nat)(Q:List (List Str)->List D->Prop):Prop:=match τ[i]? with
|some (some (.own (.dT ks ds)))=>Q ks ds
|_=>False
theorem q2c{τ:VSt}{i:Nat}{Q:List (List Str)->List D->Prop}(h:ownT τ i Q):∃ks ds,τ[i]?=some (some (.own (.dT ks ds)))/\Q ks ds:=by
 unfold ownT at h
 split at h
 ·exact⟨_,_,by assumption,h⟩
 ·exact h.elim
def qmn(i:Nat)(tk te:TV):TVS:=λDv τ=>ownT τ i λks ds=>te τ λr=>exS τ Dv r <| pubR r λd=>tk τ λrk=>match rk.d with
|.tup es=>∃w,es=w.map D.str/\("" : Str)∉w/\ks.length<sizeLine/\Dv.nx (τ.set i (some (.own (putD ks ds w d))))
|_=>False
theorem qk8{ek:Expr}{tk:TV}(i:Nat)(hu:X.A.units+64<cLine)(hk:VE X EX ek tk)(h:VE X EX e te)(hN:X.N[i]?=some x:=by rfl)(hv:Vis X.env.scope x:=by first|exact Or.inl rfl|exact Or.inr (Or.inl rfl)|exact Or.inr (Or.inr rfl))(hd:(x==("__debug__" : Str))=false:=by decide)
  (hcd:(x==("__classdict__" : Str))=false:=by decide) (hs:swapsWith e (some (.Subscript (.Name x p) ek p2)) pos.line X.env=pure false:=by rfl):VS X EX (.Assign [.Subscript (.Name x p) ek p2] e pos) (qmn i tk te) :=
 let ⟨_,a1,a2⟩:=h.u;let ⟨_,b1,b2⟩:=hk.u;⟨_,qva (by lia) (qv i hN hv hd hcd) b1 a1 hs,λB0 H0 B H τ σ Dv Dh p S h E=>by
  obtain⟨ks,ds,e1,h⟩:=q2c h
  obtain⟨ad,e2,_,_,_⟩:=S.own i _ e1
  refine a2 H0 B H τ σ _ _ p.s S h (E.raised p S) λr v B' H' q hr hq=>?_
  obtain⟨d,B2,q2,_,rp,hn⟩:=pub q hr (hr.okS hq)
  refine⟨.ref ad,e2,b2 H0 B2 H' τ σ _ _ q2.s (S.step q2) hn (xno λ_ q=>q) λrk vk B3 H3 q3 hk hh=>?_⟩
  split at hh
  ·rename_i es ek
   obtain⟨w,rfl,hne,hz,hn⟩:=hh
   obtain⟨b,rfl,hb⟩:=hk.pk.way ek hne
   have qq:=q2.trans q3
   have S3:=S.step qq
   obtain⟨a',f1,h0,hbb,kvs,f4,f5,f6⟩:=S3.own i _ e1
   rw[e2] at f1
   cases f1
   have hl:kvs.length<sizeLine:=by
    have:kvs.length=ks.length:=by simpa using congrArg List.length f5
    lia
   refine⟨ad,_,rfl,DPut.t (k:=wK w) f4 (by rw[qm1];exact q3.s _ _ hb) hl,?_⟩
   obtain⟨ks',ds',ep,g1,g2⟩:=qu7 w f5 f6 (rp.same q3.b)
   rw[ep] at hn
   exact E.nx B3 _ _ σ ((p.trans qq).upd h0 hbb) (S3.upd (d:=.dT ks' ds') e1 e2 ⟨_,qa6,g1,g2⟩) hn
  ·exact hh.elim⟩
end
def qa4(kds:List (List Str×D)):D:=.dT (kds.map (·.1)) (kds.map (·.2))
def lkP(kds:List (List Str×D))(w:List Str):Option D:=(kds.find? λp=>decide (p.1=w)).map (·.2)
def insP(kds:List (List Str×D))(w:List Str)(d:D):List (List Str×D):=if w∈kds.map (·.1) then kds.map (λp=>if p.1=w then (p.1,d) else p) else kds++[(w,d)]
theorem qcn(kds:List (List Str×D))(w:List Str):lkD (kds.map (·.1)) (kds.map (·.2)) w=lkP kds w:=by
 induction kds with
|nil=>unfold lkP;simp[lkD]
|cons p kds ih =>
  rw[List.map_cons,List.map_cons]
  unfold lkD
  unfold lkP at ih ⊢
  by_cases e:p.1=w
  ·rw[if_pos e,List.find?_cons,decide_eq_true e]
   rfl
  ·rw[if_neg e,ih,List.find?_cons,decide_eq_false e]
theorem qd4(kds:List (List Str×D))(w:List Str)(d:D):putD (kds.map (·.1)) (kds.map (·.2)) w d=qa4 (insP kds w d):=by
 unfold putD insP qa4
 by_cases h:w∈kds.map (·.1)
 ·rw[if_pos h,if_pos h]
  congr 1
  ·rw[List.map_map]
   refine(List.map_congr_left λp _=>?_).symm
   show (if p.1=w then (p.1,d) else p).1=p.1
   split<;>rfl
  ·clear h
   induction kds with
  |nil=>rfl
  |cons p kds ih =>
    rw[List.map_cons,List.map_cons,List.map_cons,List.map_cons]
    unfold rpD
    rw[ih]
    congr 1
    split<;>rfl
 ·rw[if_neg h,if_neg h,List.map_append,List.map_append]
  rfl
end L2
namespace PySem
open PySem Calls PyProof.Rows PyProof.V PySem.Spec
def RawD(h:Heap)(d:Addr)(es:Array DictEntry)(ep:Nat):Prop:=∃o,h.get? d=some o/\o.ExactDict/\o.data=.dict es ep
section
variable {prog:Program} {w:World} {A:Around} {E:Value->Shared->Prop} {s:Shared} {d it:Addr} {es:Array DictEntry} {ep i:Nat}
theorem RawD.typeIs(x:RawD s.heap d es ep):s.TypeIs (.ref d) "dict" := let ⟨o,h1,h2,_⟩:=x;⟨o,h1,h2.1⟩
theorem RawD.keep{h h':Heap}(x:RawD h d es ep)(k:∀o,h.get? d=some o->h'.get? d=some o):RawD h' d es ep:=let ⟨o,h1,r⟩:=x;⟨o,k o h1,r⟩
theorem qp8{Q:Value->Shared->Prop}(no:(d==sysModules)=false)(x:RawD s.heap d es ep)
  (fin:Q (.ref s.heap.objs.size) { s with heap:=s.heap.push { cls:=.type "dict_keyiterator",data:=.fields #[.ref d,.int 0 0,.int es.size 0,.int ep 0] } }):wpAny (model prog w) A (pyIter (.ref d)) Q E s:=by
 have T:=x.typeIs
 obtain⟨o,h1,_,h2⟩:=x
 refine wpAny_pyIter_slot T F.slot_dict_iter (wpAny_call_entry F.slot_dict_iter T F.entry_dict_iter ?_ (F.args_dict_iter_1 _))
 unfold Builtin.«dict.__iter__» Builtin.Dict.dictSlotNone
 refine wpAny_bind (wpAny_bind (wpAny_notOrdered_dict T (show wpAny _ _ (pure (Value.ref d)) _ _ s from wpAny_pure ?_)))
 show wpAny _ _ (Builtin.Dict.showsAll d >>= λ_=>_) _ _ s
 unfold Builtin.Dict.showsAll
 rw[no,if_neg Bool.false_ne_true]
 refine wpAny_bind (wpAny_pure (wpAny_bind (wpAny_dictEntries h1 h2 (wpAny_bind (wpAny_dictEpoch h1 h2 (wpAny_bind (wpAny_newObj_type (wpAny_pure ⟨_,rfl,"dict_keyiterator",_,⟨_,Heap.get?_push_size _ rfl,rfl⟩,F.slot_dict_keyiterator_next.lookup,?_⟩))))))))
 simpa [rawInt] using fin
theorem qe4{Q:String->Shared->Prop}(h:s.TypeIs (.ref it) "dict_keyiterator")(q:Q "dict_keyiterator" s):wpAny (model prog w) A (typeNameOfWhole (.ref it)) Q E s:=wpAny_typeNameOfWhole_keyiter h q
theorem qp7{Q:Option Value->Shared->Prop}{ky:Value}(K:s.heap.IsKeyIter it d i es.size ep)(x:RawD s.heap d es ep)(hk:es[i]?.map (·.key)=some ky)
  (fin:∀h',h'.IsKeyIter it d (i+1) es.size ep->Heap.SameBut it s.heap h'->Q (some ky) { s with heap:=h' }):wpAny (model prog w) A (pyNext (.ref it)) Q E s:=by
 have T:=K.typeIs
 obtain⟨oi,g1,g2,g3⟩:=K
 obtain⟨o,h1,_,h2⟩:=x
 have lt:i<es.size:=by
  apply Classical.byContradiction
  intro z
  rw[Array.getElem?_eq_none (by lia)] at hk
  cases hk
 have ek:es[i].key=ky:=by
  rw[Array.getElem?_eq_getElem lt] at hk
  exact Option.some.inj hk
 have no:Builtin.Dict_items.ownsTuple "dict_keyiterator" = false:=by decide
 unfold pyNext
 refine wpAny_bind (wpAny_attempt (wpAny_callSpecial?_slot (name:=Str.ofString "__next__") T F.slot_dict_keyiterator_next (wpAny_call_entry F.slot_dict_keyiterator_next T F.entry_dict_keyiterator_next (wpAny_bind (wpAny_pure (wpAny_bind (wpAny_bind ?_)))) (F.args_dict_keyiterator_next_1 _))))
 refine wpAny_bind (qe4 T (wpAny_pure (wpAny_bind (wpAny_fieldsOf g1 g3 ?_))))
 simp only[no,Bool.false_eq_true,if_false]
 show wpAny _ _ (ite ((Value.ref d==Value.none)=true) _ _) _ _ s
 rw[if_neg (show ¬ (Value.ref d==Value.none)=true from λz=>by cases z)]
 refine wpAny_bind (wpAny_pure (wpAny_bind (wpAny_dictEntries h1 h2 ?_)))
 rw[if_neg (λz=>by simp at z)]
 refine wpAny_bind (wpAny_pure (wpAny_bind (wpAny_dictEpoch h1 h2 ?_)))
 rw[if_neg (λz=>by simp at z)]
 refine wpAny_pure ?_
 simp only[show ¬ (i:Int)<0 from by lia,if_false,Int.toNat_natCast,Array.getElem?_eq_getElem lt]
 refine wpAny_bind (wpAny_bind (qe4 T (wpAny_pure (wpAny_bind (wpAny_isOneOf_keyiter T ?_)))))
 show wpAny _ _ (setField (.ref it) 1 (rawInt ((i:Int)+1)) >>= λ_=>_) _ _ s
 have K2:(s.heap.update it (Obj.mapFields (·.setIfInBounds 1 (rawInt ((i:Int)+1))))).IsKeyIter it d (i+1) es.size ep:=⟨_,Heap.get?_update_self _ g1 (Obj.isFreed_of_fields (Obj.data_mapFields g3 _)),(Obj.cls_mapFields ..).trans g2,by
  rw[Obj.data_mapFields g3]
  simp[rawInt]⟩
 refine wpAny_bind (wpAny_setField g1 g3 (by simp) (wpAny_bind (wpAny_holding (wpAny_bind (wpAny_isOneOf_keyiter (s:={ s with heap:=s.heap.update it (Obj.mapFields (·.setIfInBounds 1 (rawInt ((i:Int)+1)))) }) K2.typeIs ?_)))))
 show wpAny _ _ (pure (es[i].key)) _ _ _
 rw[ek]
 exact wpAny_pure (wpAny_pure ⟨_,rfl,wpAny_pure (fin _ K2 (Heap.SameBut.update ..))⟩)
theorem qve{Q:Option Value->Shared->Prop}(hh:A.handled=none)(K:s.heap.IsKeyIter it d i es.size ep)(x:RawD s.heap d es ep)(ge:es.size<=i)(fin:∀h',Heap.ExtBut it s.heap h'->Q none { s with heap:=h' }) :
  wpAny (model prog w) A (pyNext (.ref it)) Q E s:=by
 have T:=K.typeIs
 obtain⟨oi,g1,g2,g3⟩:=K
 obtain⟨o,h1,_,h2⟩:=x
 have no:Builtin.Dict_items.ownsTuple "dict_keyiterator" = false:=by decide
 unfold pyNext
 refine wpAny_bind (wpAny_attempt (wpAny_callSpecial?_slot (name:=Str.ofString "__next__") T F.slot_dict_keyiterator_next (wpAny_call_entry F.slot_dict_keyiterator_next T F.entry_dict_keyiterator_next (wpAny_bind (wpAny_pure (wpAny_bind (wpAny_bind ?_)))) (F.args_dict_keyiterator_next_1 _))))
 refine wpAny_bind (qe4 T (wpAny_pure (wpAny_bind (wpAny_fieldsOf g1 g3 ?_))))
 simp only[no,Bool.false_eq_true,if_false]
 show wpAny _ _ (ite ((Value.ref d==Value.none)=true) _ _) _ _ s
 rw[if_neg (show ¬ (Value.ref d==Value.none)=true from λz=>by cases z)]
 refine wpAny_bind (wpAny_pure (wpAny_bind (wpAny_dictEntries h1 h2 ?_)))
 rw[if_neg (λz=>by simp at z)]
 refine wpAny_bind (wpAny_pure (wpAny_bind (wpAny_dictEpoch h1 h2 ?_)))
 rw[if_neg (λz=>by simp at z)]
 refine wpAny_pure ?_
 simp only[show ¬ (i:Int)<0 from by lia,if_false,Int.toNat_natCast,Array.getElem?_eq_none ge]
 refine wpAny_bind (wpAny_bind (qe4 T (wpAny_pure ?_)))
 show wpAny _ _ (setField (.ref it) 0 .none >>= λ_=>_) _ _ s
 refine wpAny_bind (wpAny_setField g1 g3 (by simp) ?_)
 show wpAny _ _ (newExc (.type "StopIteration") [] >>= λ_=>_) _ _ _
 refine wpAny_bind ?_
 simp only[newExc,newTuple]
 refine wpAny_bind (wpAny_newObj_type (wpAny_bind (m:=firstArgMember _ _) (wpAny_of_eq (a:=Value.none) (by first|rfl|(simp only[firstArgMember];rfl)) (wpAny_newObj_type ?_ (by size_fits)))) (by size_fits))
 simp only[raiseNew]
 refine(wpAny_bind (wpAny_handled ?_))
 rw[(show A.in1.handled=none from hh)]
 refine(wpAny_bind (wpAny_pure (wpAny_throw ?_)))
 exact wpAny_bind (wpAny_isInstance (T:="StopIteration") (b:=true) ⟨_,Heap.get?_push_size _ rfl,rfl⟩ isSubtype_stop (wpAny_pure (fin _ (((Heap.SameBut.update ..).extBut.push _).push _))))
theorem qwv(hh:A.handled=none)(I d:Addr)(ne:d≠I)(es:Array DictEntry)(ep:Nat) :
  Walks prog w A I [I,d] [I] es.size (λi v=>es[i]?.map (·.key)=some v) (λi h=>h.IsKeyIter I d i es.size ep/\RawD h d es ep) where
 sub:=λb hb=>by
  cases List.mem_singleton.mp hb
  exact List.mem_cons_self ..
 frame:=λ_ _ _ st k=>⟨st.1.at λo e=>k I (List.mem_cons_self ..) o e,st.2.keep λo e=>k d (by simp) o e⟩
 item:=λi s Q E lt st fin=>by
  have e:es[i]?.map (·.key)=some es[i].key:=by rw[Array.getElem?_eq_getElem lt];rfl
  exact qp7 st.1 st.2 e λh' K' sb=>fin _ h' s.toks e ⟨K',st.2.keep λo z=>sb.extBut d o ne z⟩ λb o nb z=>sb.extBut b o (λy=>nb (by simp[y])) z
 done:=λs Q E st fin=>qve hh st.1 st.2 (Nat.le_refl _) λh' x=>fin h' s.toks λb o nb z=>x b o (λy=>nb (by simp[y])) z
 self:=λ_ _ _ _ st q=>wpAny_pyIter_keyiter st.1 q
theorem q3s(no:(d==sysModules)=false):PySem.W.KdlSrc prog w "dict" d d es.size (λi v=>es[i]?.map (·.key)=some v) (λh=>RawD h d es ep) where
 type:=λ_ x=>x.typeIs
 there:=λ_ x=>let ⟨_,e,_⟩:=x;⟨Heap.lt_size e,Heap.lt_size e⟩
 keep:=λ_ _ x k=>x.keep λo e=>k d (.inl rfl) o e
 notList:=by decide
 notTuple:=by decide
 hint:=λ_ _ _ _ x q=>PySem.W.kdl_hint_dict x.typeIs q
 iter:=λ_ _ hh x=>⟨_,_,(λ_ _ q=>qp8 no x q),qwv hh _ d (let ⟨_,e,_⟩:=x;Nat.ne_of_lt (Heap.lt_size e)) es ep,⟨⟨_,Heap.get?_push_size _ rfl,rfl,rfl⟩,x.keep λ_ e=>Heap.get?_push_of_some _ e⟩⟩
end
end PySem
namespace L2
open PySem PySem.Spec PyProof.Rows
section
variable {X:Cx}
theorem qmc{α β:Type}{F:α->β->Prop}:∀ {l:List α} {m:List β} {i:Nat} {b:β},Paired F l m->m[i]?=some b->∃a,l[i]?=some a/\F a b
|_,_,_,_,.nil,e=>by simp at e
|_,_,0,_,.cons h _,e=>by
  have e':=Option.some.inj e
  subst e'
  exact⟨_,rfl,h⟩
|_,_,i+1,b,.cons _ t,e=>by
  obtain⟨a,h1,h2⟩:=qmc (i:=i) (b:=b) t (by simpa using e)
  exact⟨a,by simpa using h1,h2⟩
theorem qlu{P:Program}{w:World}{H:Hp}{h:Heap}{a:Addr}{kvs:List (List Key×V)}(ok:HOk P w H h)(e:Rd H a (.dT kvs)):kvs.length<=sizeLine/\(a==sysModules)=false/\∃es ep,RawD h a es ep/\es.size=kvs.length /\
  ∀(i:Nat) (u:Value),es[i]?.map (·.key)=some u->∃(b:Addr) (k:List Key),u=.ref b/\kvs[i]?.map (·.1)=some k/\H b=some (.tup (k.map kV)):=by
 obtain⟨z,y,xs,r,o,es,ep,h1,h2,h3,h4,_⟩:=qlv ok e
 have hl:es.size=xs.length:=by rw[←Array.length_toList,h4,List.length_map]
 refine⟨z,y,es,ep,⟨o,h1,h2,h3⟩,by rw[hl,←Paired.length r],λi u q=>?_⟩
 have ei:es[i]?=(xs[i]?).map (entryOfKey (tupleKind (qb3 P w))):=by rw[←Array.getElem?_toList,h4,List.getElem?_map]
 rw[ei] at q
 cases hx:xs[i]? with
|none=>rw[hx] at q;cases q
|some p =>
  rw[hx] at q
  have eu:Value.ref p.2.1=u:=Option.some.inj q
  obtain⟨kv,hkv,e1,e2,_⟩:=qmc r hx
  exact⟨p.2.1,kv.1,eu.symm,by rw[hkv];rfl,by rw[e1] at e2 ⊢;exact e2⟩
theorem qlp(hh:X.A.handled=none):CallR X (.type "list") (λxs H Q=>∃a kvs,xs=[.ref a]/\Rd H a (.dT kvs)/\∀(l:Addr) (bs:List Addr),H l=none->bs.length=kvs.length ->
  (∀(i:Nat) (b:Addr),bs[i]?=some b->∃k,kvs[i]?.map (·.1)=some k/\H b=some (.tup (k.map kV)))->Q (.ref l) (upd H l (.lst (bs.map V.ref)))):=by
 intro pins s σ H xs us Q I r h
 obtain⟨a,kvs,rfl,e,q⟩:=h
 obtain⟨u,rfl,ru⟩:=vals1 r
 cases ru
 obtain⟨z,no,es,ep,raw,hs,hk⟩:=qlu I.hok e
 refine PySem.W.kdl_call (q3s (ep:=ep) (es:=es) no) hh raw (by rw[hs];exact z) λh' tk acc c keep new its=>?_
 have refs:∀vs:List Value,(∀v∈vs,∃b,v=Value.ref b)->∃bs:List Addr,vs=bs.map Value.ref:=λvs=>by
  induction vs with
 |nil=>exact λ_=>⟨[],rfl⟩
 |cons v vs ih =>
   intro hv
   obtain⟨b,rfl⟩:=hv v (List.mem_cons_self ..)
   obtain⟨bs,rfl⟩:=ih λy hy=>hv y (List.mem_cons_of_mem _ hy)
   exact⟨b::bs,rfl⟩
 obtain⟨hsz,hP⟩:=its
 obtain⟨bs,hbs⟩:=refs acc.toList λv hv=>by
  obtain⟨j,hj⟩:=List.mem_iff_getElem?.mp hv
  obtain⟨b,k,eb,_⟩:=hk j v (hP j v (by simpa using hj))
  exact⟨b,eb⟩
 have hacc:acc=(bs.map Value.ref).toArray:=by rw[←hbs]
 have hlen:bs.length=kvs.length:=by
  have:acc.size=bs.length:=by rw[hacc];simp
  lia
 have rel:∀bs:List Addr,Vals (bs.map V.ref) (bs.map Value.ref):=λbs=>by
  induction bs with
 |nil=>exact .nil
 |cons b bs ih=>exact .cons rfl ih
 refine⟨.ref s.heap.objs.size,upd H s.heap.objs.size (.lst (bs.map V.ref)),I.laid (t':=tk) keep (Nat.le_refl _) ⟨by rw[List.length_map];lia,bs.map Value.ref,c,rel bs,by rw[←hacc];exact new⟩,rfl,q _ bs (I.hok.fresh (Nat.le_refl _)) hlen λi b hb=>?_⟩
 obtain⟨b',k,eb,h1,h2⟩:=hk i (.ref b) (hP i (.ref b) (by rw[hacc];simp[hb]))
 cases eb
 exact⟨k,h1,h2⟩
end
section
variable {X:Cx} {K:PySem.W.Frag} {B H:Hp}
theorem Stp.tups(s:Same B H)(bs:List Addr)(h:∀b∈bs,∃xs,H b=some (.tup xs)):Stp B H (λa=>if a∈bs then H a else B a) H:=by
 refine⟨λa o e=>?_,Same.refl _,λa o e=>?_,λa z=>?_⟩
 ·show (if a∈bs then H a else B a)=some o
  split
  ·exact s _ _ e
  ·exact e
 ·have e':(if a∈bs then H a else B a)=some o:=e
  split at e'
  ·exact e'
  ·exact s _ _ e'
 ·by_cases q:a∈bs
  ·exact .inr (.inr (h a q))
  ·have z':(if a∈bs then H a else B a)≠none:=z
   rw[if_neg q] at z'
   exact .inl z'
theorem qmf:∀ {ks:List (List Str)} {bs:List Addr},bs.length=ks.length->(∀(i:Nat) (b:Addr) (k:List Str),bs[i]?=some b->ks[i]?=some k->B b=some (.tup (k.map V.str)))->Reps K B (ks.map λw=>.tup (w.map D.str)) (bs.map V.ref)
|[],[],_,_=>.nil
|[],_::_,h,_=>by simp at h
|_::_,[],h,_=>by simp at h
|k::ks,b::bs,h,q=>by
  refine .cons ?_ (qmf (by simpa using h) λi b' k' h1 h2=>q (i+1) b' k' (by simpa using h1) (by simpa using h2))
  unfold Rep
  exact⟨b,_,rfl,.inl (q 0 b k rfl rfl),by
   have:∀ss:List Str,Reps K B (ss.map D.str) (ss.map V.str):=λss=>by
    induction ss with
   |nil=>exact .nil
   |cons s ss ih=>exact .cons (qid (d:=.str s) rfl) ih
   exact this k⟩
def qgz(rx:R)(Q:R->Prop):Prop:=match rx.d with
|.dT ks _=>Q (.own (.lst (ks.map λw=>.tup (w.map D.str))))
|_=>False
theorem qk4(hh:X.A.handled=none):VF X (.type "list") qgz:=by
 refine⟨_,qlp hh,λB H x rx Q Qd s px h k=>?_⟩
 unfold qgz at h
 split at h
 ·rename_i ks ds e1
  obtain⟨ad,kvs,rfl,hd,hk,hr⟩:=px.dT s e1
  refine⟨ad,kvs,rfl,hd,λl bs hl hlen hb=>?_⟩
  have hkl:ks.length=kvs.length:=by simpa using (congrArg List.length hk).symm
  have key:∀(i:Nat) (b:Addr) (k:List Str),bs[i]?=some b->ks[i]?=some k->H b=some (.tup (k.map V.str)):=λi b k h1 h2=>by
   obtain⟨k',h3,h4⟩:=hb i b h1
   have e:(kvs.map (·.1))[i]?=(ks.map wK)[i]?:=by rw[hk]
   rw[List.getElem?_map,List.getElem?_map,h3,h2] at e
   cases e
   rw[qm1] at h4
   exact h4
  have T:=Stp.tups s bs λb hm=>by
   obtain⟨i,hi⟩:=List.mem_iff_getElem?.mp hm
   obtain⟨k',_,h4⟩:=hb i b hi
   exact⟨_,h4⟩
  have hlB:(λa=>if a∈bs then H a else B a) l=none:=by
   show (if l∈bs then H l else B l)=none
   split
   ·exact hl
   ·exact s.free hl
  refine k (.own _) _ _ _ (T.trans (.grow T.s (qaw hl (.lst (bs.map V.ref))))) ⟨l,rfl,hl,hlB,qco (qmf (by lia) λi b w h1 h2=>?_)⟩ h
  show (if b∈bs then H b else B b)=_
  rw[if_pos (List.mem_of_getElem? h1)]
  exact key i b w h1 h2
 ·exact h.elim
end
end L2
namespace L2
open PySem PySem.Spec PyProof.Rows
section
variable {X:Cx} {EX:St->XK} {K:PySem.W.Frag} {B H B' H' H0 B0:Hp} {e a:Expr} {es:List Expr} {te ta:TV} {tA:TVA} {pos p np cpos:Pos} {x:Str} {t:TVS} {τ:VSt} {σ:St}
theorem clsOf.inj{n:Str}{C C':Addr}(h:clsOf K n C)(h':clsOf K n C'):C=C':=by
 unfold clsOf at h h'
 rw[h] at h'
 cases h'
 rfl
theorem qb8{k:Nat}{ps:List Str}{g:DP}(C:CalX X.prog X.w X.K X.mg X.base k x ps (spOf X.K g))(o:Out X EX)(hr:Room k X.A)(hg:Gl X x)(ha:VA X EX (e::es) tA)(hx:X.ex=[]:=by rfl)(hp:(e::es).all qav=true:=by rfl)(hdb:(x==("__debug__" : Str))=false:=by decide) :
  VE X EX (.Call (.Name x p) (e::es) [] pos) (qdw g tA) :=
 let ⟨_,a1,a2⟩:=ha.u;⟨_,q2z C o hr hg a1 hx hp hdb,λH0 B H τ σ Q Qd s S h xc k=>a2 H0 B H τ σ _ _ s S h xc λds vs B1 H1 p q h1 =>
  ⟨ds,B1,Qd,p.s,by rw[List.append_nil];exact q,h1,λn C B' H' hq p2 c=>xc n C B' H' (p.trans p2) c hq,λr v B2 H2 hq p2 q2=>k r v B2 H2 (p.trans p2) (q2.back p.h) hq⟩⟩
theorem q3z{k:Nat}{ps:List Str}{g:DP}(C:CalX X.prog X.w X.K X.mg X.base k x ps (spOf X.K g))(hr:Room k X.A)(hg:Gl X x)(ha:VA X EX (e::es) tA)(hp:(e::es).all qav=true:=by rfl)(hdb:(x==("__debug__" : Str))=false:=by decide) :
  VE X EX (.Call (.Name x p) (e::es) [] pos) (qak g tA) :=
 let ⟨_,a1,a2⟩:=ha.u;⟨_,q2y C hr hg a1 hp hdb,λH0 B H τ σ Q Qd s S h xc k=>a2 H0 B H τ σ _ _ s S h xc λds vs B1 H1 p q h1 =>
  ⟨ds,B1,_,p.s,by rw[List.append_nil];exact q,h1,λn C B' H' hq _ _=>hq.elim,λr v B2 H2 hq p2 q2=>k r v B2 H2 (p.trans p2) (q2.back p.h) (q2.ok hq)⟩⟩
def XCls(K:PySem.W.Frag)(mg:Str->Option Value)(n:Str):Prop:=∃C,mg n=some (.ref C)/\clsOf K n C/\OwnX K C
def qda(n:Str)(tA:TVA):TVS:=λDv τ=>tA τ λa=>exI τ Dv a λds=>ds.length<=sizeLine/\Dv.xc τ n
theorem qcq(u:XCls X.K X.mg x)(hg:Gl X x)(hc:X.calm=true)(o:Out X EX)(ha:VA X EX (e::es) tA)(hx:X.ex=[]:=by rfl)(hp:(e::es).all qav=true:=by rfl)(hdb:(x==("__debug__" : Str))=false:=by decide) :
  VS X EX (.Raise (some (.Call (.Name x np) (e::es) [] cpos)) none pos) (qda x tA):=by
 obtain⟨C,hm,hk,q⟩:=u
 obtain⟨_,a1,a2⟩:=ha.u
 exact⟨_,qyw q hm hg hc o a1 hx hp hdb,λB0 H0 B H τ σ Dv Dh p S h E=>a2 H0 B H τ σ _ _ p.s S h (E.raised p S) λds vs B1 H1 p1 q1 h1 =>
  ⟨by rw[←q1.length];exact h1.1,E.xc B1 H1 τ σ x C (p.trans p1) (S.step p1) hk h1.2⟩⟩
def canS(K:PySem.W.Frag)(EX:St->XK)(t:TVS):TS:=λDh σ H=>∃B0 H0 B τ Dv,Stp B0 H0 B H/\Slots K H0 B H τ σ/\t Dv τ/\EndsOk K EX B0 H0 Dv Dh
theorem VSs.can{st:List Stmt}(h:VSs X EX st t):QSs X st (canS X.K EX t):=let ⟨_,a1,a2⟩:=h.u;⟨λpins s σ H D I ⟨B0,H0,B,τ,Dv,q1,q2,q3,q4⟩=>a1.u pins s σ H D I (a2 B0 H0 B H τ σ Dv D q1 q2 q3 q4)⟩
abbrev THD:=Str->TVS
def RfH(K:PySem.W.Frag)(EX:St->XK)(th:TH)(td:THD):Prop:=∀(B0 H0 B H:Hp) (τ:VSt) (σ:St) (n:Str) (C:Addr) (Dv:VEnds) (Dh:Ends),Stp B0 H0 B H->Slots K H0 B H τ σ->clsOf K n C->td n Dv τ->EndsOk K EX B0 H0 Dv Dh->th (.ref C) Dh σ H
structure VH(X:Cx)(EX:St->XK)(hs:List ExceptHandler)(td:THD):Prop where
 u:∃th,QH X hs th/\RfH X.K EX th td
def vTry(t:TVS)(td:THD):TVS:=λDv τ=>t { nx:=Dv.nx,rt:=Dv.rt,bk:=Dv.bk,ct:=Dv.ct,xc:=λτ' n=>td n Dv τ' } τ
theorem q0u{body:List Stmt}{h0:ExceptHandler}{rest:List ExceptHandler}{td:THD}(hb:∀pn E EX',PassesOwn (model X.prog X.w) X.A X.env E->Out (X.tryB pn E) EX'->VSs (X.tryB pn E) EX' body t)(hh:VH X EX (h0::rest) td)(hst:X.stack=X.env::X.outer:=by rfl)
  (hfr:X.env.frame=some X.env.locals:=by rfl) (hx:X.ex=[]:=by rfl):VS X EX (.Try body (h0::rest) [] [] pos) (vTry t td) :=
 let ⟨_,a1,a2⟩:=hh.u;⟨_,q6s (tb:=λEX'=>canS X.K EX' t) (λpn E EX' po o=>(hb pn E EX' po o).can) a1 hst hfr hx,λB0 H0 B H τ σ Dv Dh p S h E =>
  ⟨B0,H0,B,τ,_,p,S,h,E.nx,E.rt,E.bk,E.ct,λB1 H1 τ1 σ1 n C q1 q2 q3 q4=>a2 B0 H0 B1 H1 τ1 σ1 n C Dv Dh q1 q2 q3 q4 E,λ_ _ _ _ _ _ _ _ _ _ h=>h.elim⟩⟩
def q34:THD:=λ_ _ _=>False
theorem q0r:VH X EX [] q34:=⟨_,q6p,λ_ _ _ _ _ _ _ _ _ _ _ _ _ h=>h.elim⟩
def q4o(K:PySem.W.Frag)(mg:Str->Option Value)(x:Str)(yes no:List Str):Prop:=∃c,mg x=some c/\(∀n∈yes,∀C,clsOf K n C->PySem.W.exmOne K (.ref C) c=some true)/\∀n∈no,∀C,clsOf K n C->PySem.W.exmOne K (.ref C) c=some false
def VEnds.calm(Dv:VEnds):VEnds:={ nx:=Dv.nx,rt:=Dv.rt,bk:=Dv.bk,ct:=Dv.ct }
theorem EndsOk.calm{Dv:VEnds}{Dh:Ends}(E:EndsOk K EX B0 H0 Dv Dh):EndsOk K EX0 B0 H0 Dv.calm Dh:=⟨E.nx,E.rt,E.bk,E.ct,λ_ _ _ _ _ _ _ _ _ h=>h.elim,λ_ _ _ _ _ _ _ _ _ _ h=>h.elim⟩
def qmz(yes no:List Str)(t:TVS)(td:THD):THD:=λn Dv τ=>(n∈yes/\t Dv.calm τ)\/(n∈no/\td n Dv τ)
theorem qk7{b0:Stmt}{suite:List Stmt}{rest:List ExceptHandler}{td:THD}{yes no:List Str}(u:q4o X.K X.mg x yes no)(hg:Gl X x)(hs:∀e pn E,VSs (X.hand e pn E) EX0 (b0::suite) t)(hr:VH X EX rest td)(hdb:(x==("__debug__" : Str))=false:=by decide) :
  VH X EX (.ExceptHandler (some (.Name x np)) none (b0::suite) pos::rest) (qmz yes no t td):=by
 obtain⟨c,hm,hy,hn⟩:=u
 obtain⟨_,a1,a2⟩:=hr.u
 refine⟨_,q25 (t:=canS X.K EX0 t) hm hg (λe pn E=>(hs e pn E).can) a1 hdb,λB0 H0 B H τ σ n C Dv Dh p S hc h E=>?_⟩
 rcases h with ⟨h1,h2⟩|⟨h1,h2⟩
 ·exact⟨true,hy n h1 C hc,iteT ⟨B0,H0,B,τ,_,p,S,h2,E.calm⟩⟩
 ·exact⟨false,hn n h1 C hc,iteF (a2 B0 H0 B H τ σ n C Dv Dh p S hc h2 E)⟩
def VEnds.wiped(Dv:VEnds):VEnds:={ nx:=λτ=>Dv.nx (List.replicate τ.length none),rt:=Dv.rt,bk:=λτ=>Dv.bk (List.replicate τ.length none),ct:=λτ=>Dv.ct (List.replicate τ.length none) }
theorem Slots.wiped(S:Slots K H0 B H τ σ):Slots K H0 B H (List.replicate τ.length none) (wipe σ):=by
 have no:∀(i:Nat) (r:R),(List.replicate τ.length (none:Option R))[i]?=some (some r)->False:=λi r h=>by
  by_cases l:i<τ.length
  ·rw[List.getElem?_replicate_of_lt l] at h;cases h
  ·rw[List.getElem?_eq_none (by rw[List.length_replicate];lia)] at h;cases h
 exact⟨by unfold wipe;rw[List.length_replicate,List.length_replicate,S.len],λi d h=>(no i _ h).elim,λi d h=>(no i _ h).elim,λi d h=>(no i _ h).elim,λi j d e a h=>(no i _ h).elim⟩
theorem EndsOk.wiped{Dv:VEnds}{Dh:Ends}(E:EndsOk K EX B0 H0 Dv Dh):EndsOk K EX0 B0 H0 Dv.wiped Dh.wiped :=
 ⟨λB H τ σ p S h=>E.nx B H _ _ p S.wiped h,E.rt,λB H τ σ p S h=>E.bk B H _ _ p S.wiped h,λB H τ σ p S h=>E.ct B H _ _ p S.wiped h,λ_ _ _ _ _ _ _ _ _ h=>h.elim,λ_ _ _ _ _ _ _ _ _ _ h=>h.elim⟩
def vhAs(i:Nat)(yes no:List Str)(t:TVS)(td:THD):THD:=λn Dv τ=>(n∈yes/\t Dv.wiped (τ.set i (some (.val (.exc n)))))\/(n∈no/\td n Dv τ)
theorem q9c{b0:Stmt}{suite:List Stmt}{rest:List ExceptHandler}{td:THD}{yes no:List Str}{i:Nat}{m:Str}(hN:X.N.Nodup)(hi:X.N[i]?=some m)(hl:X.env.scope.names.lookup m=some .local)(u:q4o X.K X.mg x yes no)(hg:Gl X x)(hs:∀e pn E,VSs (X.hand e pn E) EX0 (b0::suite) t)
  (hr:VH X EX rest td) (hdb:(x==("__debug__" : Str))=false:=by decide):VH X EX (.ExceptHandler (some (.Name x np)) (some m) (b0::suite) pos::rest) (vhAs i yes no t td):=by
 obtain⟨c,hm,hy,hn⟩:=u
 obtain⟨_,a1,a2⟩:=hr.u
 refine⟨_,q8z (i:=i) (t:=canS X.K EX0 t) hN hi hl hm hg (λe pn E=>(hs e pn E).can) a1 hdb,λB0 H0 B H τ σ n C Dv Dh p S hc h E=>?_⟩
 rcases h with ⟨h1,h2⟩|⟨h1,h2⟩
 ·refine⟨true,hy n h1 C hc,iteT λad Ca ea had=>?_⟩
  cases ea
  have q:Stp B H (upd B ad (excO ad C)) (upd H ad (excO ad C)):=.new p.s had
  refine⟨B0,H0,_,_,_,p.trans q,(S.step q).setVal i (d:=.exc n) ?_,h2,E.wiped⟩
  unfold Rep
  exact⟨ad,C,rfl,qa6,hc⟩
 ·exact⟨false,hn n h1 C hc,iteF (a2 B0 H0 B H τ σ n C Dv Dh p S hc h2 E)⟩
def vIsX(yes no:List Str)(ta:TV):TV:=λτ Q=>ta τ λr=>match r.d with
|.exc n=>(n∈yes/\Q (.val (.bl true)))\/(n∈no/\Q (.val (.bl false)))
|_=>False
theorem Pk.exc{r:R}{v:V}{n:Str}(s:Same B H)(h:Pk K B H r v)(e:r.d=.exc n):∃a C,v=.ref a/\H a=some (excO a C)/\clsOf K n C:=by
 have h':=h.rep s
 rw[e] at h'
 unfold Rep at h'
 exact h'
theorem q7p{y:Str}{pb:Pos}{T:String}{yes no:List Str}(u:∀n C,clsOf X.K n C->n∈yes\/n∈no->ExcK X.K C)(hy:∀n∈yes,∀C,clsOf X.K n C->PySem.W.kitOne X.K (.ref C) (.type T)=some true)(hn:∀n∈no,∀C,clsOf X.K n C->PySem.W.kitOne X.K (.ref C) (.type T)=some false)
  (hg:Gl X "isinstance") (hm:X.mg "isinstance" = none) (hgy:Gl X y) (hmy:X.mg y=none) (hby:bootBuiltins y=some (.type T)) (ha:VE X EX a ta) (hp:qav a=true:=by rfl) (hny:y≠"__name__" := by decide) (hdy:(y==("__debug__" : Str))=false:=by decide) :
  VE X EX (.Call (.Name "isinstance" p) [a,.Name y pb] [] pos) (vIsX yes no ta) :=
 let ⟨_,a1,a2⟩:=ha.u;⟨_,qcb qgu hg hm PyProof.Rows.Boot.«isinstance» (qac a1 (qac (qu8 (v:=.ty T) hgy hmy hby rfl hny hdy) qdi rfl) hp) (by rw[List.all_cons,hp];rfl),λH0 B H τ σ Q Qd s S h xc k=>a2 H0 B H τ σ _ _ s S h (xno λ_ q=>q) λr v B1 H1 p1 q1 h1=>by
   split at h1
   ·rename_i n en
    obtain⟨ad,C,rfl,hx,hc⟩:=q1.pk.exc p1.s en
    rcases h1 with ⟨h1,h2⟩|⟨h1,h2⟩
    ·exact⟨ad,C,_,.type T,true,rfl,hx,u n C hc (.inl h1),λw rw'=>rw',hy n h1 C hc,k _ _ B1 H1 p1 (repV rfl) h2⟩
    ·exact⟨ad,C,_,.type T,false,rfl,hx,u n C hc (.inr h1),λw rw'=>rw',hn n h1 C hc,k _ _ B1 H1 p1 (repV rfl) h2⟩
   ·exact h1.elim⟩
theorem Fun.okVX{P:Program}{w:World}{mg:Str->Option Value}{base:Heap}{x qual:Str}{st:Stmt}{f:Addr}{fd:FuncData}{N ps:List Str}{k:Nat}{g:DP}(F:Fun K x qual st f fd)(S:FnScope N ps (qaf st))(len:∀ds Q,g ds Q->ds.length=ps.length)
  (hbody:∀(cdv:Value) (A:Around) (outer:List Env) (s:Shared) (H:Hp) (E:XK),Room k (A.deeper (envOfC qual (qaf st) s.heap.objs.size f cdv))->Out (cxOf (CXR P w) P w K mg base N qual (qaf st) f cdv A outer s H E) (λ_=>E) ->
   ∃t,VSs (cxOf (CXR P w) P w K mg base N qual (qaf st) f cdv A outer s H E) (λ_=>E) (qbn st) t/\∀ds Q,g ds Q->t { nx:=λ_=>Q (.val .non),rt:=Q,xc:=λ_ n=>Q (.exc n) } (qax N ds)):FnOk P w K mg base (CXR P w) (k+1) f fd ps (spOf K g):=by
 refine F.okX S (λvs H Q E h=>?_) (λcdv A outer s H vs Q E hr h o=>?_)
 ·obtain⟨ds,B,Qd,_,rp,hg,_,_⟩:=h
  rw[←rp.length]
  exact len ds Qd hg
 ·obtain⟨ds,B,Qd,sm,rp,hg,kx,kk⟩:=h
  obtain⟨t,⟨ts,q1,q2⟩,ht⟩:=hbody cdv A outer s H E hr o
  refine⟨ts,q1,q2 B H B H (qax N ds) (start N vs) _ _ (.refl sm) ?_ (ht ds Qd hg) ⟨λB' H' τ σ p S h=>kk (.val .non) .non B' H' h p (repV rfl),λr v B' H' p hr h=>kk r v B' H' h p hr,λ_ _ _ _ _ _ h=>h.elim,λ_ _ _ _ _ _ h=>h.elim,λB' H' τ σ n C p S c h=>kx n C B' H' h p c,λ_ _ _ _ _ _ _ _ _ _ h=>h.elim⟩⟩
  unfold qax start
  rw[rp.length]
  exact(qe8 rp).more _
theorem qcr{P:Addr->Prop}:∀n∈([]:List Str),∀C,clsOf K n C->P C:=λ_ h=>by cases h
theorem qah{P:Addr->Prop}{m:Str}{E:Addr}{l:List Str}(k:clsOf K m E)(q:P E)(r:∀n∈l,∀C,clsOf K n C->P C):∀n∈m::l,∀C,clsOf K n C->P C:=λn h C c=>by
 rcases List.mem_cons.mp h with rfl|h
 ·cases clsOf.inj c k
  exact q
 ·exact r n h C c
theorem q4s{P:Addr->Prop}{l m:List Str}(h1:∀n∈l,∀C,clsOf K n C->P C)(h2:∀n∈m,∀C,clsOf K n C->P C):∀n C,clsOf K n C->n∈l\/n∈m->P C:=λn C c h=>h.elim (λz=>h1 n z C c) λz=>h2 n z C c
end
end L2
namespace L2
open PySem PySem.Spec PyProof.Rows Builtin.Str
section
variable {X:Cx}
theorem qmw:∀(l:List (Str×Tok)),Vals ((l.map (·.1)).map V.str) (strValues l)
|[]=>.nil
|p::l=>.cons ⟨p.2,rfl⟩ (qmw l)
theorem qkk:MtM X "str.startswith" (λx vs H Q=>∃a b,x=.str a/\vs=[.str b]/\Q (.bl (Txt.startswith a b)) H):=by
 intro pins s σ H x vs v us Q I rx rv h
 obtain⟨a,b,rfl,rfl,q⟩:=h
 obtain⟨t,rfl⟩:=rx
 obtain⟨u,rfl,⟨t',rfl⟩⟩:=rv.one
 exact SC.startswith ⟨.bl _,H,I,rfl,q⟩
theorem qxx:MtM X "str.split" (λx vs H Q=>∃a b,x=.str a/\vs=[.str b]/\(b.length==0)=false/\a.length<=sizeLine/\(Txt.split a b).length<=sizeLine/\∀l,H l=none->Q (.ref l) (upd H l (.lst ((Txt.split a b).map V.str)))):=by
 intro pins s σ H x vs v us Q I rx rv h
 obtain⟨a,b,rfl,rfl,hb,ha,hz,q⟩:=h
 obtain⟨t,rfl⟩:=rx
 obtain⟨u,rfl,⟨t',rfl⟩⟩:=rv.one
 cases h1:(decide (a.length<b.length)||decide (strKind a<strKind b))
 ·cases hf:(occurrences a b 0 a.length (a.length+1)).isEmpty
  ·have e:Txt.split a b=partsBetween a (occurrences a b 0 a.length (a.length+1)) b.length:=by
    unfold Txt.split
    rw[h1,hf,if_neg Bool.false_ne_true,if_neg Bool.false_ne_true]
   refine call_meets F.slot_str_split (typeIs_str _ _ _) F.entry_str_split (F.args_str_split_2 _ _) (meets_str_split_sep a b t t' h1 hb hf ha (by rw[←e];exact hz)) ?_
   rw[strsFrom_eq,←e]
   have r:=qmw (numbered s.toks (Txt.split a b))
   rw[numbered_texts] at r
   exact⟨.ref _,_,I.lnew (t':=_) r (by rw[List.length_map];exact hz),rfl,q _ I.fresh⟩
  ·have e:Txt.split a b=[a]:=by
    unfold Txt.split
    rw[h1,hf,if_neg Bool.false_ne_true,if_pos rfl]
   rw[e] at q
   exact call_meets F.slot_str_split (typeIs_str _ _ _) F.entry_str_split (F.args_str_split_2 _ _) (meets_str_split_not_found a b t t' h1 hb hf) ⟨.ref _,_,I.lnew (t':=s.toks) (ys:=[.str a]) (its:=[.str a t]) (.cons ⟨t,rfl⟩ .nil) (show 1<=sizeLine by decide),rfl,q _ I.fresh⟩
 ·have e:Txt.split a b=[a]:=by
   unfold Txt.split
   rw[h1,if_pos rfl]
  rw[e] at q
  exact call_meets F.slot_str_split (typeIs_str _ _ _) F.entry_str_split (F.args_str_split_2 _ _) (meets_str_split_cannot_occur a b t t' h1) ⟨.ref _,_,I.lnew (t':=s.toks) (ys:=[.str a]) (its:=[.str a t]) (.cons ⟨t,rfl⟩ .nil) (show 1<=sizeLine by decide),rfl,q _ I.fresh⟩
end
section
variable {X:Cx} {EX:St->XK} {o e:Expr} {to te:TV} {apos cpos:Pos}
def qiw(to te:TV):TV:=λτ Q=>to τ λrs=>match rs.d with
|.str a=>te τ λrt=>∃b,rt.d=.str b/\Q (.val (.bl (Txt.startswith a b)))
|_=>False
theorem qv7(ho:VE X EX o to)(h:VE X EX e te)(hp:qav e=true:=by rfl)(hbase:attributeBase o "startswith" X.env (eval o X.env)=eval o X.env:=by rfl)(hline:(apos.endLine==cpos.line)=true:=by rfl) :
  VE X EX (.Call (.Attribute o "startswith" apos) [e] [] cpos) (qiw to te) :=
 let ⟨_,o1,o2⟩:=ho.u;let ⟨_,a1,a2⟩:=h.u;⟨_,qbm PySem.F.plainAttrs_str PySem.F.slot_str_startswith PySem.F.type_str_startswith qkk o1 (qac a1 qdi hp) (by simp[hp]) rfl hbase hline,λH0 B H τ σ Q Qd s S h xc k =>
  o2 H0 B H τ σ _ _ s S h (xno λ_ q=>q) λrs vs B1 H1 p1 q1 h1=>by
   split at h1
   ·rename_i a es
    cases q1.pk.scal (z:=.str a) (by rw[es];rfl)
    refine⟨rfl,a2 H0 B1 H1 τ σ _ _ p1.s (S.step p1) h1 (xno λ_ ⟨_,q,_⟩=>by cases q) λrl vl B2 H2 p2 q2 h2=>?_⟩
    obtain⟨b,el,hq⟩:=h2
    cases q2.pk.scal (z:=.str b) (by rw[el];rfl)
    exact⟨a,b,rfl,rfl,k _ _ B2 H2 (p1.trans p2) (repV rfl) hq⟩
   ·exact h1.elim⟩
def qmt(to te:TV):TV:=λτ Q=>to τ λrs=>match rs.d with
|.str a=>te τ λrt=>∃b,rt.d=.str b/\(b.length==0)=false/\a.length<=sizeLine/\(Txt.split a b).length<=sizeLine/\Q (.own (.lst ((Txt.split a b).map D.str)))
|_=>False
theorem qfw{K:PySem.W.Frag}{B:Hp}:∀ss:List Str,Reps K B (ss.map D.str) (ss.map V.str)
|[]=>.nil
|s::ss=>.cons (qid (d:=.str s) rfl) (qfw ss)
theorem qzl(ho:VE X EX o to)(h:VE X EX e te)(hp:qav e=true:=by rfl)(hbase:attributeBase o "split" X.env (eval o X.env)=eval o X.env:=by rfl)(hline:(apos.endLine==cpos.line)=true:=by rfl) :
  VE X EX (.Call (.Attribute o "split" apos) [e] [] cpos) (qmt to te) :=
 let ⟨_,o1,o2⟩:=ho.u;let ⟨_,a1,a2⟩:=h.u;⟨_,qbm PySem.F.plainAttrs_str PySem.F.slot_str_split PySem.F.type_str_split qxx o1 (qac a1 qdi hp) (by simp[hp]) rfl hbase hline,λH0 B H τ σ Q Qd s S h xc k =>
  o2 H0 B H τ σ _ _ s S h (xno λ_ q=>q) λrs vs B1 H1 p1 q1 h1=>by
   split at h1
   ·rename_i a es
    cases q1.pk.scal (z:=.str a) (by rw[es];rfl)
    refine⟨rfl,a2 H0 B1 H1 τ σ _ _ p1.s (S.step p1) h1 (xno λ_ ⟨_,q,_⟩=>by cases q) λrl vl B2 H2 p2 q2 h2=>?_⟩
    obtain⟨b,el,hb,ha,hz,hq⟩:=h2
    cases q2.pk.scal (z:=.str b) (by rw[el];rfl)
    have pp:=p1.trans p2
    exact⟨a,b,rfl,rfl,hb,ha,hz,λl hl=>k (.own _) _ B2 _ (pp.trans (.grow p2.s (qaw hl _))) ⟨l,rfl,pp.h.free hl,p2.s.free hl,qco (qfw _)⟩ hq⟩
   ·exact h1.elim⟩
end
def sp(c:Nat):List Nat->List (List Nat)
|[]=>[[]]
|x::xs=>if x=c then []::sp c xs else match sp c xs with
 |[]=>[[x]]
 |p::ps=>(x::p)::ps
theorem q88(c:Nat):∀xs,sp c xs≠[]
|[]=>by unfold sp;exact λh=>by cases h
|x::xs=>by
  unfold sp
  split
  ·exact λh=>by cases h
  ·split<;>exact λh=>by cases h
theorem qo7(c:Nat):∀xs:List Nat,c∉xs->sp c xs=[xs]
|[],_=>rfl
|x::xs,h=>by
  unfold sp
  rw[if_neg (λe=>h (by simp[e])),qo7 c xs λz=>h (List.mem_cons_of_mem _ z)]
theorem qvp(c:Nat):∀(pre post:List Nat),c∉pre->sp c (pre++c::post)=pre::sp c post
|[],post,_=>by
  show sp c (c::post)=_
  rw[sp,if_pos rfl]
|x::pre,post,h=>by
  show sp c (x::(pre++c::post))=_
  rw[sp,if_neg (λe=>h (by simp[e])),qvp c pre post λz=>h (List.mem_cons_of_mem _ z)]
theorem qkm(s:Str)(c n lim:Nat)(hn:s.length=n):∀(l:List Nat) (a:Nat) (st:Array Nat×Nat),l=List.range' a (n+1-a)->a<=n+1->st.2<=a->st.1.size+(n+1-a)<=lim ->
  (forIn l st (StrLaws.occBody s ⟨#[c]⟩ n lim)).run.fst.toList=st.1.toList++((List.range' a (n-a)).filter λi=>s.cps[i]?==some c)
|[],a,st,hl,ha,h2,h3=>by
  have e:n+1-a=0:=by simpa using congrArg List.length hl.symm
  have e2:n-a=0:=by lia
  rw[e2]
  simp
|x::l,a,st,hl,ha,h2,h3=>by
  have ea:n+1-a=(n-a)+1:=by
   have:=congrArg List.length hl
   simp at this
   lia
  rw[ea,List.range'_succ] at hl
  injection hl with e1 e2
  subst e1
  rw[List.forIn_cons]
  have el:l=List.range' (x+1) (n+1-(x+1)):=by rw[e2];congr 1;lia
  have one:(⟨#[c]⟩:Str).length=1:=rfl
  by_cases hx:x<n
  ·have er:List.range' x (n-x)=x::List.range' (x+1) (n-(x+1)):=by
    have:n-x=(n-(x+1))+1:=by lia
    rw[this,List.range'_succ]
   have hs:x<s.cps.size:=by show x<s.length;lia
   have sub:subAt s ⟨#[c]⟩ x=(s.cps[x]?==some c):=by
    unfold subAt
    rw[one]
    have:s.cps.extract x (x+1)=#[s.cps[x]]:=by
     apply Array.ext
     ·simp;lia
     ·intro i h1 h2
      have:i=0:=by simp at h2;lia
      subst this
      simp
    rw[this,Array.getElem?_eq_getElem hs]
    apply qce
    simp
   rw[er,List.filter_cons]
   unfold StrLaws.occBody
   rw[sub,one]
   by_cases hc:(s.cps[x]?==some c)=true
   ·rw[if_pos ⟨⟨⟨by lia,h2⟩,by lia⟩,hc⟩,if_pos hc]
    show (forIn l (st.1.push x,x+1) (StrLaws.occBody s ⟨#[c]⟩ n lim)).run.fst.toList=_
    rw[qkm s c n lim hn l (x+1) (st.1.push x,x+1) el (by lia) (Nat.le_refl _) (by simp;lia)]
    simp
   ·rw[if_neg (λz=>hc z.2),if_neg hc]
    show (forIn l (st.1,st.2) (StrLaws.occBody s ⟨#[c]⟩ n lim)).run.fst.toList=_
    rw[qkm s c n lim hn l (x+1) (st.1,st.2) el (by lia) (by show st.2<=x+1;lia) (by show st.1.size+_<=lim;lia)]
  ·have ex:x=n:=by lia
   have er:List.range' x (n-x)=[]:=by rw[show n-x=0 by lia];rfl
   rw[er]
   unfold StrLaws.occBody
   rw[one,if_neg (λz=>by have:=z.1.2;lia)]
   show (forIn l (st.1,st.2) (StrLaws.occBody s ⟨#[c]⟩ n lim)).run.fst.toList=_
   rw[qkm s c n lim hn l (x+1) (st.1,st.2) el (by lia) (by show st.2<=x+1;lia) (by show st.1.size+_<=lim;lia)]
   rw[show n-(x+1)=0 by lia]
   rfl
theorem q1z(s:Str)(c:Nat):occurrences s ⟨#[c]⟩ 0 s.length (s.length+1)=(List.range' 0 s.length).filter λi=>s.cps[i]?==some c:=by
 rw[StrLaws.occ_eq,qkm s c s.length (s.length+1) rfl _ 0 (#[],0) rfl (Nat.zero_le _) (Nat.le_refl _) (by simp)]
 simp
theorem qk0(s:Str)(a k:Nat):(strSub s a k).cps.toList=(s.cps.toList.drop a).take (k-a):=by
 unfold strSub
 simp[Array.toList_extract,List.extract]
theorem qkr(s:Str)(c:Nat):∀(m a:Nat),s.length-a=m->a<=s.length->∀(b:Nat),b<=a->c∉(s.cps.toList.drop b).take (a-b) ->
  (StrLaws.partsFrom s 1 b ((List.range' a m).filter λi=>s.cps[i]?==some c)).map (·.cps.toList)=sp c (s.cps.toList.drop b)
|0,a,hm,ha,b,hb,hf=>by
  have e:a=s.length:=by lia
  have el:s.cps.toList.length=s.length:=rfl
  show [(strSub s b s.length).cps.toList]=_
  rw[qk0,qo7]
  ·rw[List.take_of_length_le (by rw[List.length_drop,el];exact Nat.le_refl _)]
  ·rw[e,List.take_of_length_le (by rw[List.length_drop,el];exact Nat.le_refl _)] at hf
   exact hf
|m+1,a,hm,ha,b,hb,hf=>by
  have hs:a<s.cps.toList.length:=by show a<s.length;lia
  have hs':a<s.cps.size:=hs
  have ed:s.cps.toList.drop a=s.cps.toList[a]::s.cps.toList.drop (a+1):=List.drop_eq_getElem_cons hs
  have eb:s.cps.toList.drop b=(s.cps.toList.drop b).take (a-b)++s.cps.toList.drop a:=by
   have:(s.cps.toList.drop b).drop (a-b)=s.cps.toList.drop a:=by rw[List.drop_drop];congr 1;lia
   rw[←this,List.take_append_drop]
  have eg:s.cps[a]?=some s.cps.toList[a]:=by rw[Array.getElem?_eq_getElem hs'];rfl
  rw[List.range'_succ,List.filter_cons]
  by_cases hc:s.cps.toList[a]=c
  ·rw[if_pos (by rw[eg,hc];simp)]
   show (strSub s b a).cps.toList::(StrLaws.partsFrom s 1 (a+1) _).map (·.cps.toList)=_
   rw[qkr s c m (a+1) (by lia) (by lia) (a+1) (Nat.le_refl _) (by simp),qk0]
   conv=>rhs;rw[eb,ed,hc,qvp c _ _ hf]
  ·rw[if_neg (by rw[eg];simpa using hc)]
   refine qkr s c m (a+1) (by lia) (by lia) b (by lia) ?_
   have e2:(s.cps.toList.drop b).take (a+1-b)=(s.cps.toList.drop b).take (a-b)++[s.cps.toList[a]]:=by
    rw[show a+1-b=(a-b)+1 by lia,List.take_succ]
    congr 1
    rw[List.getElem?_drop,show b+(a-b)=a by lia,List.getElem?_eq_getElem hs]
    rfl
   rw[e2,List.mem_append]
   rintro (z|z)
   ·exact hf z
   ·exact hc (List.mem_singleton.mp z).symm
theorem qxj{c:Nat}(h:c<256):Builtin.Str.strKind (⟨#[c]⟩:Str)=1:=by
 unfold Builtin.Str.strKind
 rw[if_pos (by simpa using h)]
theorem q1m(s:Str):1<=Builtin.Str.strKind s:=by
 unfold Builtin.Str.strKind
 repeat' split
 all_goals lia
theorem qzc(s:Str){c:Nat}(h:c<256):(Txt.split s ⟨#[c]⟩).map (·.cps.toList)=sp c s.cps.toList:=by
 have one:(⟨#[c]⟩:Str).length=1:=rfl
 unfold Txt.split
 by_cases h0:s.length=0
 ·rw[if_pos (by rw[one,h0];rfl)]
  have e:s.cps.toList=[]:=List.eq_nil_of_length_eq_zero h0
  show [s.cps.toList]=_
  rw[e]
  rfl
 ·rw[if_neg (by
   rw[one,qxj h]
   have:=q1m s
   simp
   lia),q1z]
  have hp:=qkr s c s.length 0 (by lia) (Nat.zero_le _) 0 (Nat.le_refl _) (by simp)
  rw[List.drop_zero] at hp
  by_cases he:((List.range' 0 s.length).filter λi=>s.cps[i]?==some c).isEmpty=true
  ·rw[if_pos he]
   rw[List.isEmpty_iff.mp he] at hp
   rw[←hp]
   show [s.cps.toList]=[(strSub s 0 s.length).cps.toList]
   rw[qk0,List.drop_zero,List.take_of_length_le (show s.cps.toList.length<=s.length-0 from Nat.le_refl _)]
  ·rw[if_neg he,one,StrLaws.partsBetween_eq]
   exact hp
theorem q3k(a b:Nat):sliceRange a b 1=List.range' a (b-a):=by
 unfold sliceRange
 have e:(if (1:Int)>0 then (if (a:Int)<b then ((b:Int)-a+1-1) / 1 else 0) else (if (a:Int)>b then ((a:Int)-b-1-1) / (-1) else 0)).toNat=b-a:=by
  rw[if_pos (by decide)]
  split
  ·rw[Int.ediv_one];lia
  ·lia
 show (List.range _).map _=_
 rw[e,List.range'_eq_map_range]
 refine List.map_congr_left λk _=>?_
 lia
theorem q1e(l u:Option Int)(n:Nat):strSliceIndices l u 1 n=List.range' (HT.sIx n 0 l) (HT.sIx n n u-HT.sIx n 0 l):=by
 rw[←q3k]
 unfold strSliceIndices
 have c:∀(v:Int),max 0 (min (if v<0 then v+(n:Int) else v) n)=((HT.sIx n 0 (some v):Nat):Int):=λv=>by
  show _=(((if v<0 then (v+(n:Int)).toNat else min v.toNat n):Nat):Int)
  split<;>lia
 have c2:∀(v:Int),HT.sIx n n (some v)=HT.sIx n 0 (some v):=λ_=>rfl
 have go:∀(a b:Int) (x y:Nat),a=x->b=y->sliceRange a b 1=sliceRange x y 1:=λa b x y h1 h2=>by rw[h1,h2]
 cases l with
|none =>
  cases u with
 |none=>exact go _ _ _ _ rfl rfl
 |some v=>exact go _ _ _ _ rfl (by rw[c2,←c v];rfl)
|some v =>
  cases u with
 |none=>exact go _ _ _ _ (by rw[←c v];rfl) rfl
 |some w=>exact go _ _ _ _ (by rw[←c v];rfl) (by rw[c2,←c w];rfl)
theorem qps(xs:Array Nat):∀(m a:Nat),a+m<=xs.size->(List.range' a m).filterMap (xs[·]?)=(xs.toList.drop a).take m
|0,a,_=>by simp
|m+1,a,h=>by
  have hs:a<xs.toList.length:=by show a<xs.size;lia
  rw[List.range'_succ,List.filterMap_cons,Array.getElem?_eq_getElem (show a<xs.size by lia)]
  show xs[a]::_=_
  rw[qps xs m (a+1) (by lia),List.drop_eq_getElem_cons hs,List.take_succ_cons]
  rfl
theorem slice_list(z:Str)(l u:Option Int):(Txt.slice z l u).cps.toList=cutL z.cps.toList l u:=by
 unfold Txt.slice cutL
 have el:z.cps.toList.length=z.length:=rfl
 have h1:=HT.sIx_le z.length 0 (Nat.zero_le _) l
 have h2:=HT.sIx_le z.length z.length (Nat.le_refl _) u
 rw[q1e,el]
 by_cases h:HT.sIx z.length z.length u-HT.sIx z.length 0 l=z.length
 ·rw[if_pos (by simpa using h),h]
  have e0:HT.sIx z.length 0 l=0:=by lia
  rw[e0,List.drop_zero,List.take_of_length_le (Nat.le_of_eq el)]
 ·rw[if_neg (by simpa using h)]
  show List.filterMap _ _=_
  by_cases hz:HT.sIx z.length 0 l<=HT.sIx z.length z.length u
  ·exact qps z.cps _ _ (by show _<=z.length;lia)
  ·rw[show HT.sIx z.length z.length u-HT.sIx z.length 0 l=0 by lia]
   simp
def mkS(l:List Nat):Str:=⟨l.toArray⟩
theorem qeb(z:Str):mkS z.cps.toList=z:=by unfold mkS;simp
theorem quo(l:List Nat):(mkS l).length=l.length:=by unfold mkS Str.length;simp
theorem qfo{a b:Str}(h:a.cps.toList=b.cps.toList):a=b:=by rw[←qeb a,←qeb b,h]
theorem qqi(s:Str){c:Nat}(h:c<256):Txt.split s ⟨#[c]⟩=(sp c s.cps.toList).map mkS:=by
 rw[←qzc s h,List.map_map]
 refine(List.map_id _).symm.trans (List.map_congr_left λz _=>?_)
 exact(qeb z).symm
theorem qr7(s:Str)(c:Nat):Txt.startswith s ⟨#[c]⟩=(s.cps.toList.head?==some c):=by
 unfold Txt.startswith
 have one:(⟨#[c]⟩:Str).length=1:=rfl
 rw[one]
 cases hl:s.cps.toList with
|nil =>
  have e:s=mkS []:=by rw[←hl,qeb]
  rw[e]
  rfl
|cons x xs =>
  have e:s=mkS (x::xs):=by rw[←hl,qeb]
  have hsz:s.length=xs.length+1:=by rw[e,quo];rfl
  rw[decide_eq_true (by lia:0+1<=s.length),Bool.true_and]
  unfold subAt
  rw[one]
  have ex:s.cps.extract 0 (0+1)=#[x]:=by
   apply Array.toList_inj.mp
   rw[Array.toList_extract,hl]
   simp[List.extract]
  rw[ex]
  apply qce
  simp
theorem q0g(c:Nat):∀xs:List Nat,(sp c xs).length<=xs.length+1
|[]=>Nat.le_refl _
|x::xs=>by
  have:=q0g c xs
  unfold sp
  split
  ·simp;lia
  ·split
   ·simp
   ·rename_i h
    rw[h] at this
    simp at this ⊢
    lia
theorem qqg(c:Nat):∀(xs:List Nat),∀p∈sp c xs,p.length<=xs.length
|[],p,h=>by
  have:p=[]:=by simpa [sp] using h
  rw[this]
  exact Nat.le_refl _
|x::xs,p,h=>by
  have ih:=qqg c xs
  unfold sp at h
  split at h
  ·rcases List.mem_cons.mp h with rfl|h
   ·simp
   ·have:=ih p h
    simp;lia
  ·split at h
   ·rename_i e
    exact absurd e (q88 c xs)
   ·rename_i q qs e
    rw[e] at ih
    rcases List.mem_cons.mp h with rfl|h
    ·have:=ih q (List.mem_cons_self ..)
     simp;lia
    ·have:=ih p (List.mem_cons_of_mem _ h)
     simp;lia
end L2
namespace L2
open PySem PySem.Spec PyProof.Rows
section
variable {X:Cx} {EX:St->XK} {K:PySem.W.Frag} {o e:Expr} {to te:TV} {apos cpos:Pos} {τ:VSt} {σ:St} {B H H0:Hp}
def q85:R2:=λx y H Q=>∃a n,x=.str a/\y=.int n/\MulOk a n/\Q (.str (Txt.mul a n)) H
theorem q18:OpR X (binaryOp .Mult) q85:=by
 intro pins s σ H x y v u Q I rx ry h
 obtain⟨a,n,rfl,rfl,hok,q⟩:=h
 obtain⟨t1,rfl⟩:=rx
 obtain⟨t2,rfl⟩:=ry
 exact SB.mul hok λt' k=>⟨.str _,H,I.tok _,⟨_,rfl⟩,q⟩
def qse(rx ry:R)(Q:R->Prop):Prop:=match rx.d,ry.d with
|.str a,.int n=>MulOk a n/\Q (.val (.str (Txt.mul a n)))
|_,_=>False
theorem q37:VO X (binaryOp .Mult) qse:=⟨_,q18,λB H x y rx ry Q Qd s hx hy h k=>by
 unfold qse at h
 split at h
 ·rename_i a n e1 e2
  cases hx.scal (z:=.str a) (by rw[e1];rfl)
  cases hy.scal (z:=.int n) (by rw[e2];rfl)
  exact⟨a,n,rfl,rfl,h.1,k _ _ B H (.refl s) (repV rfl) h.2⟩
 ·exact h.elim⟩
end
end L2
namespace L2
open PySem PySem.W PyProof.Rows
section
variable {α β:Type}
def kRun(lt:Nat->Nat->Bool):KasT α->α
|.ret a=>a
|.ask i j k=>kRun lt (k (lt i j))
def kOk(n:Nat)(lt:Nat->Nat->Bool):KasT α->Prop
|.ret _=>True
|.ask i j k=>i<n/\j<n/\kOk n lt (k (lt i j))
theorem qcm(lt:Nat->Nat->Bool)(f:α->KasT β):∀t:KasT α,kRun lt (t.bind f)=kRun lt (f (kRun lt t))
|.ret _=>rfl
|.ask i j k=>qcm lt f (k (lt i j))
theorem qdc{n:Nat}{lt:Nat->Nat->Bool}{f:α->KasT β}:∀ {t:KasT α},kOk n lt t->kOk n lt (f (kRun lt t))->kOk n lt (t.bind f)
|.ret _,_,h=>h
|.ask i j k,⟨a,b,c⟩,h=>⟨a,b,qdc c h⟩
theorem qek{lt:Nat->Nat->Bool}{i j:Nat}{b:Bool}{k:Bool->KasT α}(e:lt i j=b):kRun lt (.ask i j k)=kRun lt (k b):=by
 show kRun lt (k (lt i j))=_
 rw[e]
theorem qgt{n:Nat}{lt:Nat->Nat->Bool}{i j:Nat}{b:Bool}{k:Bool->KasT α}(hi:i<n)(hj:j<n)(e:lt i j=b)(h:kOk n lt (k b)):kOk n lt (.ask i j k):=⟨hi,hj,by rw[e];exact h⟩
theorem qt7{cmp:Nat->Nat->(Bool->Shared->Prop)->Shared->Prop}{n:Nat}{lt:Nat->Nat->Bool}{P:Shared->Prop}{Q:α->Shared->Prop}(hc:∀i j C s,i<n->j<n->P s->(∀s',P s'->C (lt i j) s')->cmp i j C s) :
  ∀(t:KasT α) (s:Shared),kOk n lt t->P s->(∀s',P s'->Q (kRun lt t) s')->t.kasWp cmp Q s
|.ret _,s,_,hp,hq=>hq s hp
|.ask i j k,s,⟨hi,hj,hk⟩,hp,hq=>hc i j _ s hi hj hp λs' hp'=>qt7 hc (k (lt i j)) s' hk hp' hq
end
structure LtOk(n:Nat)(lt:Nat->Nat->Bool):Prop where
 tr:∀a b c,a<n->b<n->c<n->lt a b=true->lt b c=true->lt a c=true
 as:∀a b,a<n->b<n->lt a b=true->lt b a=false
 tot:∀a b,a<n->b<n->a≠b->lt a b=true\/lt b a=true
section
variable {n:Nat} {lt:Nat->Nat->Bool} {p:Array Nat}
structure PermOk(n:Nat)(p:Array Nat):Prop where
 sz:p.size=n
 lt:∀i,i<n->p.getD i 0<n
 inj:∀i j,i<n->j<n->p.getD i 0=p.getD j 0->i=j
theorem qc6(p:Array Nat)(i:Nat):p.getD i 0=(p[i]?).getD 0:=by
 by_cases h:i<p.size
 ·simp[Array.getD,h]
 ·simp[Array.getD,h]
theorem PermOk.of(hp:p.Perm (List.range n).toArray):PermOk n p where
 sz:=by rw[hp.size_eq];simp
 lt:=λi hi=>by
  have hs:p.size=n:=by rw[hp.size_eq];simp
  have hm:p[i]'(by lia)∈p:=Array.getElem_mem _
  have:p[i]'(by lia)∈(List.range n).toArray:=hp.mem_iff.mp hm
  rw[qc6,Array.getElem?_eq_getElem (by lia)]
  simpa using this
 inj:=λi j hi hj e=>by
  have hs:p.size=n:=by rw[hp.size_eq];simp
  have nd:p.toList.Nodup:=by
   have:=hp.toList
   rw[this.nodup_iff]
   simp[List.nodup_range]
  rw[qc6,qc6,Array.getElem?_eq_getElem (by lia),Array.getElem?_eq_getElem (by lia)] at e
  have e':p.toList[i]'(by simp;lia)=p.toList[j]'(by simp;lia):=by simpa using e
  exact(List.getElem_inj nd).mp e'
def SPr(lt:Nat->Nat->Bool)(p:Array Nat)(k:Nat):Prop:=∀i j,i<j->j<k->lt (p.getD i 0) (p.getD j 0)=true
def DPr(lt:Nat->Nat->Bool)(p:Array Nat)(k:Nat):Prop:=∀i j,i<j->j<k->lt (p.getD j 0) (p.getD i 0)=true
theorem SPr.snoc(L:LtOk n lt)(P:PermOk n p){k:Nat}(h:SPr lt p k)(hk:k<n)(h1:1<=k)(e:lt (p.getD k 0) (p.getD (k-1) 0)=false):SPr lt p (k+1):=λi j hi hj=>by
 have l1:lt (p.getD (k-1) 0) (p.getD k 0)=true:=by
  rcases L.tot _ _ (P.lt (k-1) (by lia)) (P.lt k hk) (λz=>by have:=P.inj _ _ (by lia) hk z;lia) with q|q
  ·exact q
  ·rw[e] at q;cases q
 by_cases hjk:j=k
 ·subst hjk
  by_cases hik:i=j-1
  ·rw[hik];exact l1
  ·exact L.tr _ _ _ (P.lt i (by lia)) (P.lt (j-1) (by lia)) (P.lt j hk) (h i (j-1) (by lia) (by lia)) l1
 ·exact h i j hi (by lia)
theorem DPr.snoc(L:LtOk n lt)(P:PermOk n p){k:Nat}(h:DPr lt p k)(hk:k<n)(h1:1<=k)(e:lt (p.getD k 0) (p.getD (k-1) 0)=true):DPr lt p (k+1):=λi j hi hj=>by
 by_cases hjk:j=k
 ·subst hjk
  by_cases hik:i=j-1
  ·rw[hik];exact e
  ·exact L.tr _ _ _ (P.lt j hk) (P.lt (j-1) (by lia)) (P.lt i (by lia)) e (h i (j-1) (by lia) (by lia))
 ·exact h i j hi (by lia)
theorem qs1(L:LtOk n lt)(P:PermOk n p):∀(f m:Nat),1<=m->m+f<=n->SPr lt p m->kOk n lt (kas_asc p f m)/\∃m',kRun lt (kas_asc p f m)=m'/\m<=m'/\m'<=m+f/\SPr lt p m'/\(m'=m+f\/lt (p.getD m' 0) (p.getD (m' - 1) 0)=true)
|0,m,h1,hf,hs=>⟨trivial,m,rfl,Nat.le_refl _,Nat.le_refl _,hs,.inl rfl⟩
|f+1,m,h1,hf,hs=>by
  cases e:lt (p.getD m 0) (p.getD (m-1) 0) with
 |true =>
   refine⟨qgt (P.lt m (by lia)) (P.lt (m-1) (by lia)) e ?_,m,(qek e).trans ?_,Nat.le_refl _,by lia,hs,.inr e⟩
   ·trivial
   ·rfl
 |false =>
   obtain⟨a,m',r,b,c,d,g⟩:=qs1 L P f (m+1) (by lia) (by lia) (hs.snoc L P (by lia) h1 e)
   refine⟨qgt (P.lt m (by lia)) (P.lt (m-1) (by lia)) e a,m',(qek e).trans r,by lia,by lia,d,?_⟩
   rcases g with g|g
   ·left;lia
   ·exact .inr g
theorem qtn(L:LtOk n lt)(P:PermOk n p):∀(f m:Nat),1<=m->m+f<=n->DPr lt p m->kOk n lt (kas_desc f p m 0)/\∃m',kRun lt (kas_desc f p m 0)=(p,m',0)/\m<=m'/\m'<=m+f/\DPr lt p m'
|0,m,h1,hf,hs=>⟨trivial,m,rfl,Nat.le_refl _,Nat.le_refl _,hs⟩
|f+1,m,h1,hf,hs=>by
  cases e:lt (p.getD m 0) (p.getD (m-1) 0) with
 |true =>
   obtain⟨a,m',b,c,d,g⟩:=qtn L P f (m+1) (by lia) (by lia) (hs.snoc L P (by lia) h1 e)
   exact⟨qgt (P.lt m (by lia)) (P.lt (m-1) (by lia)) e a,m',(qek e).trans b,by lia,by lia,g⟩
 |false =>
   have l1:lt (p.getD (m-1) 0) (p.getD m 0)=true:=by
    rcases L.tot _ _ (P.lt (m-1) (by lia)) (P.lt m (by lia)) (λz=>by have:=P.inj _ _ (by lia) (by lia) z;lia) with q|q
    ·exact q
    ·rw[e] at q;cases q
   exact⟨qgt (P.lt m (by lia)) (P.lt (m-1) (by lia)) e (qgt (P.lt (m-1) (by lia)) (P.lt m (by lia)) l1 trivial),m,(qek e).trans ((qek l1).trans rfl),Nat.le_refl _,by lia,hs⟩
theorem qh5{j:Nat}(hj:j<=p.size)(k:Nat):(kas_rev p 0 j).getD k 0=if k<j then p.getD (j-1-k) 0 else p.getD k 0:=by
 rw[qc6,kas_rev,getElem?_mirror_all hj k]
 by_cases h:k<j
 ·rw[if_pos ⟨Nat.zero_le _,h⟩,if_pos h,qc6,Nat.zero_add]
 ·rw[if_neg (λz=>h z.2),if_neg h,qc6]
theorem q3h{j:Nat}(hj:j<=p.size)(h:DPr lt p j):SPr lt (kas_rev p 0 j) j:=λa b hab hb=>by
 rw[qh5 hj,qh5 hj,if_pos (by lia),if_pos hb]
 exact h (j-1-b) (j-1-a) (by lia) (by lia)
theorem qzh(L:LtOk n lt)(hp:p.Perm (List.range n).toArray){m:Nat}(h1:1<=m)(hm:m<=n)(h:DPr lt p m):kOk n lt (kas_tail3 m n p)/\∃k q,kRun lt (kas_tail3 m n p)=(k,q)/\1<=k/\k<=n/\q.Perm p/\SPr lt q k:=by
 have hq:(kas_rev p 0 m).Perm p:=mirror_perm _ _ _ _
 have P:=PermOk.of (hq.trans hp)
 obtain⟨a,k,r,b,c,d,_⟩:=qs1 L P (n-m) m h1 (by lia) (q3h (by rw[(PermOk.of hp).sz];exact hm) h)
 refine⟨qdc a trivial,k,kas_rev p 0 m,?_,by lia,by lia,hq,d⟩
 unfold kas_tail3
 rw[qcm,r]
 rfl
theorem qnj(L:LtOk n lt)(hp:p.Perm (List.range n).toArray){m:Nat}(hm:m+1<=n)(h:DPr lt p (m+1)):kOk n lt (kas_descPart m n p)/\∃k q,kRun lt (kas_descPart m n p)=(k,q)/\1<=k/\k<=n/\q.Perm p/\SPr lt q k:=by
 have P:=PermOk.of hp
 obtain⟨a,m',r,b,c,d⟩:=qtn L P (n-(m+1)) (m+1) (by lia) (by lia) h
 obtain⟨a2,k,q,r2,e⟩:=qzh L hp (m:=m') (by lia) (by lia) d
 refine⟨qdc a ?_,k,q,?_,e⟩
 ·rw[r]
  exact a2
 ·unfold kas_descPart
  rw[qcm,r]
  exact r2
theorem qw4(L:LtOk n lt)(hp:p.Perm (List.range n).toArray)(h1:1<=n):kOk n lt (kas_count n p)/\∃m q,kRun lt (kas_count n p)=(m,q)/\1<=m/\m<=n/\q.Perm p/\SPr lt q m:=by
 have P:=PermOk.of hp
 obtain⟨a,m,r,b,c,d,g⟩:=qs1 L P (n-1) 1 (Nat.le_refl _) (by lia) (λi j hi hj=>by lia)
 by_cases hn:m=n
 ·refine⟨qdc a ?_,m,p,?_,b,by lia,.refl _,d⟩
  ·rw[r,if_pos (by simp[hn])]
   trivial
  ·unfold kas_count
   rw[qcm,r,if_pos (by simp[hn])]
   rfl
 ·have ne:¬ (m==n)=true:=by simp[hn]
  by_cases hm:m>1
  ·have e:lt (p.getD 0 0) (p.getD (m-1) 0)=true:=d 0 (m-1) (by lia) (by lia)
   refine⟨qdc a ?_,m,p,?_,b,by lia,.refl _,d⟩
   ·rw[r,if_neg ne,if_pos hm]
    exact qgt (P.lt 0 (by lia)) (P.lt (m-1) (by lia)) e trivial
   ·unfold kas_count
    rw[qcm,r,if_neg ne,if_pos hm,qek e]
    rfl
  ·have hm1:m=1:=by lia
   have e:lt (p.getD 1 0) (p.getD 0 0)=true:=by
    rcases g with g|g
    ·exact absurd (by lia) hn
    ·rw[hm1] at g;exact g
   have D2:DPr lt p (m+1):=λi j hi hj=>by
    have:i=0:=by lia
    have:j=1:=by lia
    subst_vars
    exact e
   obtain⟨a2,k,q,r2,e2⟩:=qnj L hp (m:=m) (by lia) D2
   refine⟨qdc a ?_,k,q,?_,e2⟩
   ·rw[r,if_neg ne,if_neg hm]
    exact a2
   ·unfold kas_count
    rw[qcm,r,if_neg ne,if_neg hm]
    exact r2
theorem qfv(L:LtOk n lt)(P:PermOk n p){k:Nat}(hk:k<n):∀(f l r:Nat),l<=r->r<=k->r-l<=f->SPr lt p k->(∀i,i<l->lt (p.getD i 0) (p.getD k 0)=true)->(∀i,r<=i->i<k->lt (p.getD k 0) (p.getD i 0)=true) ->
  kOk n lt (kas_place p k f l r)/\∃l',kRun lt (kas_place p k f l r)=l'/\l'<=k/\(∀i,i<l'->lt (p.getD i 0) (p.getD k 0)=true)/\(∀i,l'<=i->i<k->lt (p.getD k 0) (p.getD i 0)=true)
|0,l,r,hlr,hrk,hf,hs,h1,h2=>by
  have:l=r:=by lia
  subst this
  exact⟨trivial,l,rfl,hrk,h1,h2⟩
|f+1,l,r,hlr,hrk,hf,hs,h1,h2=>by
  unfold kas_place
  by_cases hge:l≥r
  ·have:l=r:=by lia
   subst this
   rw[if_pos hge]
   exact⟨trivial,l,rfl,hrk,h1,h2⟩
  ·rw[if_neg hge]
   have hmk:(l+r) / 2<k:=by lia
   cases e:lt (p.getD k 0) (p.getD ((l+r) / 2) 0) with
  |true =>
    obtain⟨a,l',q,b,c,d⟩:=qfv L P hk f l ((l+r) / 2) (by lia) (by lia) (by lia) hs h1 (λi hi hik=>by
     by_cases z:i=(l+r) / 2
     ·rw[z];exact e
     ·exact L.tr _ _ _ (P.lt k hk) (P.lt _ (by lia)) (P.lt i (by lia)) e (hs ((l+r) / 2) i (by lia) hik))
    exact⟨qgt (P.lt k hk) (P.lt _ (by lia)) e a,l',(qek e).trans q,b,c,d⟩
  |false =>
    have l1:lt (p.getD ((l+r) / 2) 0) (p.getD k 0)=true:=by
     rcases L.tot _ _ (P.lt ((l+r) / 2) (by lia)) (P.lt k hk) (λz=>by have:=P.inj _ _ (by lia) hk z;lia) with q|q
     ·exact q
     ·rw[e] at q;cases q
    obtain⟨a,l',q,b,c,d⟩:=qfv L P hk f ((l+r) / 2+1) r (by lia) hrk (by lia) hs (λi hi=>by
     by_cases z:i=(l+r) / 2
     ·rw[z];exact l1
     ·exact L.tr _ _ _ (P.lt i (by lia)) (P.lt ((l+r) / 2) (by lia)) (P.lt k hk) (hs i ((l+r) / 2) (by lia) hmk) l1) h2
    exact⟨qgt (P.lt k hk) (P.lt _ (by lia)) e a,l',(qek e).trans q,b,c,d⟩
theorem qnd{src d:Nat}(hs:src<p.size)(hd:d<=src)(k:Nat):(bubble p src d).getD k 0=if k=src-d then p.getD src 0 else if src-d<k/\k<=src then p.getD (k-1) 0 else p.getD k 0:=by
 rw[qc6,getElem?_bubble hs d hd k]
 by_cases h1:k=src-d
 ·rw[if_pos h1,if_pos h1,qc6]
 ·rw[if_neg h1,if_neg h1]
  by_cases h2:src-d<k/\k<=src
  ·rw[if_pos h2,if_pos h2,qc6]
  ·rw[if_neg h2,if_neg h2,qc6]
theorem qzw(L:LtOk n lt):∀(f k:Nat) (p:Array Nat),p.Perm (List.range n).toArray->1<=k->k+f<=n->SPr lt p k->kOk n lt (kas_bin f p k)/\∃q,kRun lt (kas_bin f p k)=q/\q.Perm p/\SPr lt q (k+f)
|0,k,p,hp,h1,hf,hs=>⟨trivial,p,rfl,.refl _,hs⟩
|f+1,k,p,hp,h1,hf,hs=>by
  have P:=PermOk.of hp
  obtain⟨a,l,r,b,c,d⟩:=qfv L P (k:=k) (by lia) k 0 k (Nat.zero_le _) (Nat.le_refl _) (by lia) hs (λi hi=>by lia) (λi hi hk=>by lia)
  have hq:(bubble p k (k-l)).Perm p:=bubble_perm _ _ _
  have G:=qnd (p:=p) (src:=k) (d:=k-l) (by rw[P.sz];lia) (by lia)
  have hs2:SPr lt (bubble p k (k-l)) (k+1):=λi j hi hj=>by
   rw[G i,G j]
   have ekl:k-(k-l)=l:=by lia
   rw[ekl]
   by_cases i1:i=l
   ·rw[if_pos i1,if_neg (by lia),if_pos (by lia)]
    exact d (j-1) (by lia) (by lia)
   ·rw[if_neg i1]
    by_cases j1:j=l
    ·rw[if_pos j1,if_neg (by lia)]
     exact c i (by lia)
    ·rw[if_neg j1]
     by_cases i2:l<i
     ·rw[if_pos (by lia),if_pos (by lia)]
      exact hs (i-1) (j-1) (by lia) (by lia)
     ·rw[if_neg (by lia)]
      by_cases j2:l<j
      ·rw[if_pos (by lia)]
       exact hs i (j-1) (by lia) (by lia)
      ·rw[if_neg (by lia)]
       exact hs i j hi (by lia)
  obtain⟨a2,q,r2,e1,e2⟩:=qzw L f (k+1) _ (hq.trans hp) (by lia) (by lia) hs2
  refine⟨qdc a (by rw[r];exact a2),q,?_,e1.trans hq,by rw[show k+(f+1)=k+1+f by lia];exact e2⟩
  unfold kas_bin
  rw[qcm,r]
  exact r2
theorem q3r(L:LtOk n lt)(h1:1<=n):kOk n lt (kas_sort n)/\∃q,kRun lt (kas_sort n)=q/\q.Perm (List.range n).toArray/\SPr lt q n:=by
 obtain⟨a,m,q,r,b,c,d,e⟩:=qw4 L (.refl _) h1
 by_cases hm:m<n
 ·obtain⟨a2,q2,r2,e1,e2⟩:=qzw L (n-max m 1) (max m 1) q d (by lia) (by lia) (by rw[Nat.max_eq_left b];exact e)
  refine⟨qdc a ?_,q2,?_,e1.trans d,?_⟩
  ·rw[r,if_pos hm]
   exact a2
  ·unfold kas_sort
   rw[qcm,r,if_pos hm]
   exact r2
  ·rw[show max m 1+(n-max m 1)=n by lia] at e2
   exact e2
 ·have:m=n:=by lia
  subst this
  refine⟨qdc a ?_,q,?_,d,e⟩
  ·rw[r,if_neg hm]
   trivial
  ·unfold kas_sort
   rw[qcm,r,if_neg hm]
   rfl
end
end L2
namespace L2
open PySem PySem.Spec PyProof.Rows PySem.W
def LtA(A:Around)(s:Shared)(x y:Value)(c:Bool):Prop:=∀(prog:Program) (w:World) (E:Value->Shared->Prop) (Q:Value->Shared->Prop),Q (.bool c) s->wpAny (model prog w) A (richCompare .Lt x y) Q E s
def LtC(A:Around)(s:Shared)(p q:Addr)(c:Bool):Prop:=∀(prog:Program) (w:World) (E:Value->Shared->Prop) (Q:Value->Shared->Prop),Q (.bool c) s->wpAny (model prog w) A (call (.builtin "tuple.__lt__") [.ref p,.ref q]) Q E s
def lexV(e l:Nat->Bool)(z:Bool):Nat->Nat->Bool
|0,_=>z
|k+1,i=>if e i=true then lexV e l z k (i+1) else l i
theorem q0n(p q:Addr)(us ws:Array Value)(m k:Nat)(dp dq:Option Addr)(sp sq:Array (Option Value))(e c:Nat->Bool) :
  Meets (Builtin.«tuple.__lt__» ⟨[.ref p,.ref q],[]⟩)
   (λA R s=>s.heap.get? p=some { cls:=.type "tuple",dict:=dp,data:=.seq us m,slots:=sp }/\s.heap.get? q=some { cls:=.type "tuple",dict:=dq,data:=.seq ws k,slots:=sq } /\
    (∀j (h1:j<us.size) (h2:j<ws.size),SeqAt.EqAt A.in1 s us[j] ws[j] (e j))/\(∀j (h1:j<us.size) (h2:j<ws.size),e j=false->LtA A.in1 s us[j] ws[j] (c j)) /\
    R (.ok (.ret (.bool (lexV e c (decide (us.size<ws.size)) (min us.size ws.size) 0)))) s) :=
 .of_wp λprog w A R s h=>by
  obtain⟨h1,g1,d1,t1,o1⟩:=s
  obtain⟨hl,hb,he,hc,hR0⟩:=h
  have f2:=AutoSeq1.sub_tuple_tuple
  have hZ:(us.toList.zip ws.toList).length=min us.size ws.size:=by simp
  wp_walk using wpAny_loadPart' hl,wpAny_loadPart' hb,wpAny_forIn_list _ (λrest b s'=>b.1=none/\s'=⟨h1,g1,d1,t1,o1⟩/\∃i k,i+k=min us.size ws.size/\rest=(us.toList.zip ws.toList).drop i /\
   R (.ok (.ret (.bool (lexV e c (decide (us.size<ws.size)) k i)))) ⟨h1,g1,d1,t1,o1⟩) _
  case turn =>
   rintro⟨y,x⟩ rest b s' ⟨hb',rfl,i,k,hik,hz,hR⟩
   have hm:i<(us.toList.zip ws.toList).length:=by
    apply Nat.lt_of_not_le
    intro z
    rw[List.drop_of_length_le z] at hz
    cases hz
   have l1:i<us.size:=by lia
   have l2:i<ws.size:=by lia
   rw[List.drop_eq_getElem_cons hm] at hz
   injection hz with hyx hrest
   obtain rfl:y=us[i]:=by simpa using congrArg Prod.fst hyx
   obtain rfl:x=ws[i]:=by simpa using congrArg Prod.snd hyx
   obtain⟨k,rfl⟩:∃k',k=k'+1:=⟨k-1,by lia⟩
   have hR':R (.ok (.ret (.bool (if e i=true then lexV e c (decide (us.size<ws.size)) k (i+1) else c i)))) ⟨h1,g1,d1,t1,o1⟩:=hR
   refine wpAny_bind (he i l1 l2 prog w _ _ ?_)
   cases hy:e i with
  |true =>
    rw[hy,if_pos rfl] at hR'
    wp_walk
    exact⟨rfl,rfl,i+1,k,by lia,hrest,hR'⟩
  |false =>
    rw[hy,if_neg (by decide)] at hR'
    simp only[Bool.not_false,if_true]
    refine wpAny_bind (wpAny_rule (wpAny_bind (hc i l1 l2 hy prog w _ _ ?_)))
    wp_walk
    exact⟨_,rfl,hR'⟩
  case fin =>
   rintro⟨b1,b2⟩ s' ⟨hb',rfl,i,k,hik,hz,hR⟩
   simp only at hb'
   subst hb'
   have hk:k=0:=by
    rcases Nat.lt_or_ge i (us.toList.zip ws.toList).length with z|z
    ·rw[List.drop_eq_getElem_cons z] at hz;cases hz
    ·lia
   subst hk
   wp_walk
   exact⟨_,rfl,by simpa [Builtin.Tuple.tupleCompareSizes,lexV] using hR⟩
  case h =>
   exact⟨rfl,rfl,0,_,Nat.zero_add _,rfl,hR0⟩
section
variable {A:Around} {s:Shared} {p q:Addr} {us ws:Array Value} {e c:Nat->Bool}
theorem LtA.tups(hp:s.heap.IsTuple p us)(hq:s.heap.IsTuple q ws)(hu:A.units<cLine)(he:∀j (h1:j<us.size) (h2:j<ws.size),SeqAt.EqAt A.in1 s us[j] ws[j] (e j))
  (hc:∀j (h1:j<us.size) (h2:j<ws.size),e j=false->LtA A.in1 s us[j] ws[j] (c j)):LtA A s (.ref p) (.ref q) (lexV e c (decide (us.size<ws.size)) (min us.size ws.size) 0)/\LtC A s p q (lexV e c (decide (us.size<ws.size)) (min us.size ws.size) 0):=by
 obtain⟨⟨cl1,dp,da1,sp⟩,o1,z1,m,y1⟩:=id hp
 obtain⟨⟨cl2,dq,da2,sq⟩,o2,z2,k,y2⟩:=id hq
 cases z1;cases y1;cases z2;cases y2
 refine⟨λprog w E Q h=>?_,λprog w E Q h=>call_meets F.slot_tuple_lt ⟨_,o1,rfl⟩ F.entry_tuple_lt (F.args_tuple_lt_2 _ _) (q0n p q us ws m k dp dq sp sq e c) ⟨o1,o2,he,hc,h⟩⟩
 exact richCompare_meets_room (op:=.Lt) ⟨_,o1,rfl⟩ ⟨_,o2,rfl⟩ F.slot_tuple_lt F.entry_tuple_lt (F.args_tuple_lt_2 _ _) (q0n p q us ws m k dp dq sp sq e c) ⟨o1,o2,he,hc,(λx=>nomatch x),h⟩ hu
theorem LtA.strs{a b:Str}{t u:Tok}:LtA A s (.str a t) (.str b u) (decide (a.cps.toList<b.cps.toList)):=λprog w E Q h=>by
 refine wpAny_richCompare_same_or (typeIs_str s a t) (typeIs_str s b u) slot_str_lt (call_str_lt (Q:=λv s'=>v≠.notImplemented/\Q v s') ⟨(λx=>nomatch x),h⟩) (.inl rfl)
end
mutual
noncomputable def ltD:D->D->Bool
|.str a,.str b=>decide (a.cps.toList<b.cps.toList)
|.tup ds,.tup es=>ltDs ds es
|_,_=>false
noncomputable def ltDs:List D->List D->Bool
|[],[]=>false
|[],_::_=>true
|_::_,[]=>false
|d::ds,e::es=>if eqD d e=true then ltDs ds es else ltD d e
end
mutual
def ordD:D->D->Bool
|.str _,.str _=>true
|.tup ds,.tup es=>qd3 ds es
|_,_=>false
def qd3:List D->List D->Bool
|d::ds,e::es=>ordD d e&&qd3 ds es
|_,_=>true
end
mutual
theorem quu:∀(d e:D),ordD d e=true->cmpD d e=true
|.str _,e,h=>by
  cases e<;>first|rfl|(unfold ordD at h;cases h)
|.tup ds,e,h=>by
  cases e<;>first|(unfold ordD at h;cases h;done)|skip
  rename_i es
  unfold ordD at h
  unfold cmpD
  exact qkq ds es h
|.non,e,h=>by unfold ordD at h;cases h
|.bl _,e,h=>by unfold ordD at h;cases h
|.int _,e,h=>by unfold ordD at h;cases h
|.lst _,e,h=>by unfold ordD at h;cases h
|.dT _ _,e,h=>by unfold ordD at h;cases h
|.dK _ _,e,h=>by unfold ordD at h;cases h
|.scr _,e,h=>by unfold ordD at h;cases h
|.kt _,e,h=>by unfold ordD at h;cases h
|.exc _,e,h=>by unfold ordD at h;cases h
theorem qkq:∀(ds es:List D),qd3 ds es=true->qc0 ds es=true
|[],_,_=>by unfold qc0;rfl
|_::_,[],_=>by unfold qc0;rfl
|d::ds,e::es,h=>by
  unfold qd3 at h
  rw[Bool.and_eq_true] at h
  unfold qc0
  rw[quu d e h.1,qkq ds es h.2]
  rfl
end
theorem qp5:∀ {ds es:List D} {j:Nat} {d e:D},qd3 ds es=true->ds[j]?=some d->es[j]?=some e->ordD d e=true
|[],_,j,_,_,_,q,_=>by simp at q
|_::_,[],j,_,_,_,_,q=>by simp at q
|d::ds,e::es,0,_,_,h,q1,q2=>by
  unfold qd3 at h
  rw[Bool.and_eq_true] at h
  simp at q1 q2
  rw[←q1,←q2]
  exact h.1
|d::ds,e::es,j+1,_,_,h,q1,q2=>by
  unfold qd3 at h
  rw[Bool.and_eq_true] at h
  exact qp5 h.2 (by simpa using q1) (by simpa using q2)
theorem qjp(e l:Nat->Bool)(z:Bool):∀k i,lexV e l z k (i+1)=lexV (λj=>e (j+1)) (λj=>l (j+1)) z k i
|0,_=>rfl
|k+1,i=>by
  show (if e (i+1)=true then lexV e l z k (i+1+1) else l (i+1))=if e (i+1)=true then lexV (λj=>e (j+1)) (λj=>l (j+1)) z k (i+1) else l (i+1)
  rw[qjp e l z k (i+1)]
theorem qz6:∀ds es:List D,lexV (λj=>eqD (ds.getD j .non) (es.getD j .non)) (λj=>ltD (ds.getD j .non) (es.getD j .non)) (decide (ds.length<es.length)) (min ds.length es.length) 0=ltDs ds es
|[],[]=>by unfold ltDs;rfl
|[],_::_=>by unfold ltDs;simp[lexV]
|_::_,[]=>by unfold ltDs;simp[lexV]
|d::ds,e::es=>by
  have ih:=qz6 ds es
  rw[List.length_cons,List.length_cons,Nat.add_min_add_right]
  show (if eqD d e=true then lexV _ _ _ (min ds.length es.length) (0+1) else ltD d e)=_
  rw[qjp]
  unfold ltDs
  have ed:decide (ds.length+1<es.length+1)=decide (ds.length<es.length):=decide_eq_decide.mpr (by lia)
  rw[ed]
  have h2:lexV (λj=>eqD ((d::ds).getD (j+1) .non) ((e::es).getD (j+1) .non)) (λj=>ltD ((d::ds).getD (j+1) .non) ((e::es).getD (j+1) .non)) (decide (ds.length<es.length)) (min ds.length es.length) 0=ltDs ds es:=ih
  rw[h2]
section
variable {X:Cx} {pins:List (Addr×Obj)} {σ:St} {H:Hp} {s:Shared}
theorem qz8{A:Around}(I:Inv X pins σ H s){a b:Addr}{ds es:List D}{xs ys:List V}(ha:SqT X.K H a xs)(hb:SqT X.K H b ys)(r1:Reps X.K H ds xs)(r2:Reps X.K H es ys)(ho:qd3 ds es=true)(hu:A.units+qcu ds+1<cLine)
  (ih:∀d∈ds,∀(e:D) (v z:V) (u w:Value),Rep X.K H d v->Rep X.K H e z->RelV v u->RelV z w->ordD d e=true->LtA A.in1 s u w (ltD d e)):LtA A s (.ref a) (.ref b) (ltDs ds es)/\LtC A s a b (ltDs ds es):=by
 obtain⟨its,v1,p1,_⟩:=I.tuple ha
 obtain⟨its2,v2,p2,_⟩:=I.tuple hb
 have hc:=qkq ds es ho
 have ihe:∀d∈ds,∀(e:D) (v z:V) (u w:Value),Rep X.K H d v->Rep X.K H e z->RelV v u->RelV z w->cmpD d e=true->SeqAt.EqAt A.in1 s u w (eqD d e):=λd hd e v z u w h1 h2 h3 h4 h5 =>
  qgw I _ A.in1 d e v z u w (Nat.le_refl _) h1 h2 h3 h4 h5 (by have:=qcw hd;have un:A.in1.units=A.units+1:=rfl;lia)
 have:=LtA.tups (A:=A) (s:=s) (e:=λj=>eqD (ds.getD j .non) (es.getD j .non)) (c:=λj=>ltD (ds.getD j .non) (es.getD j .non)) (show s.heap.IsTuple a its.toArray from p1) (show s.heap.IsTuple b its2.toArray from p2) (by lia) (qh0 r1 r2 v1 v2 hc ihe) ?_
 ·rw[List.size_toArray,List.size_toArray,←v1.length,←v2.length,←r1.length,←r2.length,qz6] at this
  exact this
 ·intro j h1 h2 _
  have l1:j<ds.length:=by rw[r1.length,v1.length];simpa using h1
  have l2:j<es.length:=by rw[r2.length,v2.length];simpa using h2
  obtain⟨x,qx,rx⟩:=r1.at (List.getElem?_eq_getElem l1)
  obtain⟨y,qy,ry⟩:=r2.at (List.getElem?_eq_getElem l2)
  obtain⟨ux,e1,rux⟩:=v1.get qx
  obtain⟨uy,e2,ruy⟩:=v2.get qy
  have e1':its.toArray[j]=ux:=by
   have z:its[j]?=some its.toArray[j]:=by simp
   rw[e1] at z
   exact(Option.some.inj z).symm
  have e2':its2.toArray[j]=uy:=by
   have z:its2[j]?=some its2.toArray[j]:=by simp
   rw[e2] at z
   exact(Option.some.inj z).symm
  have e3:ds.getD j .non=ds[j]:=by simp[List.getD_eq_getElem?_getD,l1]
  have e4:es.getD j .non=es[j]:=by simp[List.getD_eq_getElem?_getD,l2]
  rw[e1',e2',e3,e4]
  exact ih ds[j] (List.getElem_mem l1) es[j] x y ux uy rx ry rux ruy (qp5 ho (List.getElem?_eq_getElem l1) (List.getElem?_eq_getElem l2))
theorem quj(I:Inv X pins σ H s):∀(n:Nat) (A:Around) (d e:D) (v z:V) (u w:Value),sizeOf d<=n->Rep X.K H d v->Rep X.K H e z->RelV v u->RelV z w->ordD d e=true->A.units+depD d<cLine->LtA A s u w (ltD d e)
|0,_,d,_,_,_,_,_,hn,_,_,_,_,_,_=>by cases d<;>simp at hn
|n+1,A,d,e,v,z,u,w,hn,hd,he,ru,rw',ho,hu=>by
  have un:A.in1.units=A.units+1:=rfl
  cases d with
 |str a =>
   cases e with
  |str b =>
    unfold Rep at hd he
    subst hd he
    obtain⟨t1,rfl⟩:=ru
    obtain⟨t2,rfl⟩:=rw'
    unfold ltD
    exact LtA.strs
  |_=>unfold ordD at ho;cases ho
 |tup ds =>
   cases e with
  |tup es =>
    unfold Rep at hd he
    obtain⟨a,xs,rfl,ha,r1⟩:=hd
    obtain⟨b,ys,rfl,hb,r2⟩:=he
    cases ru
    cases rw'
    unfold ordD at ho
    unfold ltD
    unfold depD at hu
    refine(qz8 I ha.sq hb.sq r1 r2 ho (by lia) λd hd e v z u w h1 h2 h3 h4 h5=>quj I n A.in1 d e v z u w ?_ h1 h2 h3 h4 h5 ?_).1
    ·have:=List.sizeOf_lt_of_mem hd
     simp at hn
     lia
    ·have:=qcw hd
     lia
  |_=>unfold ordD at ho;cases ho
 |_=>unfold ordD at ho;cases ho
end
end L2
namespace L2
open PySem PySem.Spec PyProof.Rows PySem.W
section
variable {X:Cx} {pins:List (Addr×Obj)} {σ:St} {H:Hp} {s:Shared} {E:Value->Shared->Prop}
theorem qop(I:Inv X pins σ H s){A:Around}(c:Bool){d e:D}{v z:V}{u w:Value}{Q:Bool->Shared->Prop}(hd:Rep X.K H d v)(he:Rep X.K H e z)(ru:RelV v u)(rw':RelV z w)(ho:ordD d e=true)(hu:A.units+depD d+1<cLine)(h:Q (ltD d e) s) :
  wpAny (model X.prog X.w) A (oneLt' c u w) Q E s:=by
 have L:=quj I _ A d e v z u w (Nat.le_refl _) hd he ru rw' ho (by lia)
 cases c with
|false=>exact kat_one u w (L X.prog X.w E (PySem.W.BoolBack Q) h)
|true =>
  cases d with
 |str a =>
   cases e with
  |str b =>
    unfold Rep at hd he
    subst hd he
    obtain⟨t1,rfl⟩:=ru
    obtain⟨t2,rfl⟩:=rw'
    unfold ltD at h
    exact oneLt_str h
  |_=>unfold ordD at ho;cases ho
 |tup ds =>
   cases e with
  |tup es =>
    unfold Rep at hd he
    obtain⟨a,xs,rfl,ha,r1⟩:=hd
    obtain⟨b,ys,rfl,hb,r2⟩:=he
    cases ru
    cases rw'
    unfold ordD at ho
    unfold ltD at h
    unfold depD at hu
    have C:=(qz8 (A:=A) I ha.sq hb.sq r1 r2 ho (by lia) λd hd e v z u w h1 h2 h3 h4 h5=>quj I _ A.in1 d e v z u w (Nat.le_refl _) h1 h2 h3 h4 h5 (by have:=qcw hd;have un:A.in1.units=A.units+1:=rfl;lia)).2
    obtain⟨its,_,pl,_⟩:=I.tuple ha.sq
    rw[oneLt'_eq]
    simp only[if_true]
    refine wpAny_bind (wpAny_cRoomFor (by lia) (wpAny_bind (wpAny_callSpecialIfBound?_slot pl.typeIs F.slot_tuple_lt (C X.prog X.w _ _ ?_))))
    exact wpAny_truthy_bool h
  |_=>unfold ordD at ho;cases ho
 |_=>unfold ordD at ho;cases ho
theorem q5f(I:Inv X pins σ H s){A:Around}{b z:Bool}{Q:Bool->Shared->Prop}:∀(ds es:List D) (xs ys:List V) (us ws:List Value) (i:Nat),Reps X.K H ds xs->Reps X.K H es ys->Vals xs us->Vals ys ws->qd3 ds es=true->A.units+qcu ds+1<cLine->decide (ds.length<es.length)=z->Q (ltDs ds es) s ->
  KatLex X.prog X.w A b z Q (us.zip ws) i s
|[],es,xs,ys,us,ws,i,r1,r2,v1,v2,ho,hu,hz,h=>by
  have e1:=r1.length
  have e2:=v1.length
  have:us=[]:=List.length_eq_zero_iff.mp (by rw[←e2,←e1];rfl)
  subst this
  rw[List.zip_nil_left]
  refine kat_nil ?_
  cases es with
 |nil=>unfold ltDs at h;rw[←hz];exact h
 |cons e es=>unfold ltDs at h;rw[←hz];simpa using h
|d::ds,[],xs,ys,us,ws,i,r1,r2,v1,v2,ho,hu,hz,h=>by
  have e1:=r2.length
  have e2:=v2.length
  have:ws=[]:=List.length_eq_zero_iff.mp (by rw[←e2,←e1];rfl)
  subst this
  rw[List.zip_nil_right]
  refine kat_nil ?_
  unfold ltDs at h
  rw[←hz]
  simpa using h
|d::ds,e::es,xs,ys,us,ws,i,r1,r2,v1,v2,ho,hu,hz,h=>by
  unfold Reps at r1 r2
  obtain⟨x,xs,rfl,rx,r1⟩:=r1
  obtain⟨y,ys,rfl,ry,r2⟩:=r2
  cases v1 with
 |cons ru v1 =>
  cases v2 with
 |cons rw' v2 =>
  rename_i u us w ws
  unfold qd3 at ho
  rw[Bool.and_eq_true] at ho
  have hd1:depD d<=qcu (d::ds):=qcw (List.mem_cons_self ..)
  have hd2:qcu ds<=qcu (d::ds):=by show _<=max (depD d) (qcu ds);lia
  show KatLex X.prog X.w A b z Q ((u,w)::us.zip ws) i s
  refine kat_cons (qgw I _ A d e x y u w (Nat.le_refl _) rx ry ru rw' (quu d e ho.1) (by lia) X.prog X.w _ _ ?_)
  unfold ltDs at h
  cases he:eqD d e with
 |true =>
   rw[he,if_pos rfl] at h
   refine kat_yes (q5f I ds es xs ys us ws (i+1) r1 r2 v1 v2 ho.2 (by lia) ?_ h)
   rw[←hz,List.length_cons,List.length_cons]
   exact decide_eq_decide.mpr (by lia)
 |false =>
   rw[he,if_neg (by decide)] at h
   exact kat_no (qop I _ rx ry ru rw' ho.1 (by lia) h)
theorem q1j(I:Inv X pins σ H s){A:Around}(κ:SortKind){ds es:List D}{v z:V}{u w:Value}{Q:Bool->Shared->Prop}(hd:Rep X.K H (.tup ds) v)(he:Rep X.K H (.tup es) z)(ru:RelV v u)(rw':RelV z w)(ho:qd3 ds es=true)(hu:A.units+qcu ds+2<cLine)(h:Q (ltDs ds es) s) :
  wpAny (model X.prog X.w) A (keyLt' κ u w) Q E s:=by
 have hl:ltD (.tup ds) (.tup es)=ltDs ds es:=by unfold ltD;rfl
 have ho':ordD (.tup ds) (.tup es)=true:=by unfold ordD;exact ho
 have hdp:depD (.tup ds)=qcu ds+1:=by unfold depD;rfl
 have one:∀c,wpAny (model X.prog X.w) A (oneLt' c u w) Q E s:=λc=>qop I c hd he ru rw' ho' (by lia) (by rw[hl];exact h)
 cases κ with
|general=>exact one false
|oneType=>exact one true
|tuples b =>
  unfold Rep at hd he
  obtain⟨a,xs,rfl,ha,r1⟩:=hd
  obtain⟨c,ys,rfl,hb,r2⟩:=he
  cases ru
  cases rw'
  obtain⟨its,v1,p1,_⟩:=I.tuple ha.sq
  obtain⟨its2,v2,p2,_⟩:=I.tuple hb.sq
  obtain⟨o1,q1,_,n1,y1⟩:=id p1
  obtain⟨o2,q2,_,n2,y2⟩:=id p2
  refine kat_lt q1 y1 q2 y2 ?_
  refine q5f I ds es xs ys _ _ 0 r1 r2 v1 v2 ho (by lia) ?_ h
  rw[r1.length,r2.length,v1.length,v2.length]
  simp
end
end L2
namespace L2
open PySem PySem.Spec PyProof.Rows PySem.W
section
variable {M:Model} {A:Around} {E:Value->Shared->Prop} {s:Shared}
theorem qkg{α β:Type}{f:α->Sem β}{P:β->Prop}:∀(l:List α) {Q:List β->Shared->Prop},(∀v∈l,∀(Q':β->Shared->Prop),(∀r,P r->Q' r s)->wpAny M A (f v) Q' E s)->(∀rs,(∀r∈rs,P r)->Q rs s)->wpAny M A (l.mapM f) Q E s
|[],_,_,h=>by rw[List.mapM_nil];exact wpAny_pure (h [] (by simp))
|x::l,Q,hf,h=>by
  rw[List.mapM_cons]
  refine wpAny_bind (hf x (List.mem_cons_self ..) _ λr hr=>wpAny_bind (qkg l (λv hv=>hf v (List.mem_cons_of_mem _ hv)) λrs hrs=>wpAny_pure (h _ λy hy=>?_)))
  rcases List.mem_cons.mp hy with rfl|hy
  ·exact hr
  ·exact hrs y hy
def TyOk(h:Heap)(u:Value):Prop:=∃T,∀M:Model,Looks M h (typeOf u) T
theorem qib{vs:Array Value}{Q:Option Value->Shared->Prop}(ht:∀u∈vs.toList,TyOk s.heap u)(h:∀r,Q r s):wpAny M A (oneTypeOnly' vs) Q E s:=by
 rw[oneTypeOnly'_eq]
 obtain⟨vs⟩:=vs
 rw[List.mapM_toArray,map_eq_pure_bind]
 refine wpAny_bind (wpAny_bind (qkg (P:=λ_=>True) vs (λv hv Q' hq=>?_) λrs _=>wpAny_pure ?_))
 ·obtain⟨T,hT⟩:=ht v hv
  exact(hT M).here (hq T trivial)
 ·cases rs.toArray[0]? with
 |none=>exact wpAny_pure (h _)
 |some t=>exact wpAny_pure (h _)
theorem kind_any{vs:List Value}{Q:SortKind->Shared->Prop}(ht:∀v∈vs,∃(a:Addr) (o:Obj) (us:Array Value) (n:Nat),v=.ref a/\s.heap.get? a=some o/\o.cls=.type "tuple" /\ o.data=.seq us n/\∀f,us[0]?=some f->TyOk s.heap f)(h:∀κ,Q κ s):wpAny M A (keyKind' vs.toArray) Q E s:=by
 have tr:∀(a:Addr) (o:Obj),s.heap.get? a=some o->∀M:Model,Looks M s.heap (typeOf (.ref a)) o.cls:=λa o ho M=>(Looks.ld ho).andThen .now
 rw[keyKind'_eq,List.mapM_toArray,map_eq_pure_bind]
 refine wpAny_bind (wpAny_bind (qkg (P:=λr=>∀f,r=some f->TyOk s.heap f) vs (λv hv Q' hq=>?_) λrs hrs=>wpAny_pure ?_))
 ·obtain⟨a,o,us,n,rfl,ho,hc,hd,hf⟩:=ht v hv
  rw[kas_first_eq]
  refine wpAny_bind ((tr a o ho M).here ?_)
  rw[hc,if_neg (by simp)]
  exact wpAny_bind (listItems_at ho hd (wpAny_pure (hq _ λf e=>hf f e)))
 ·split
  ·refine wpAny_bind (wpAny_rule (wpAny_bind (qib (λu hu=>?_) λr=>wpAny_pure (h _))))
   have hu':u∈rs.filterMap id:=by simpa using hu
   obtain⟨r,hr,e⟩:=List.mem_filterMap.mp hu'
   exact hrs r hr u e
  ·split
   ·exact wpAny_pure (h _)
   ·refine wpAny_bind (qib (λu hu=>?_) λr=>?_)
    ·obtain⟨a,o,us,n,rfl,ho,_⟩:=ht u hu
     exact⟨o.cls,tr a o ho⟩
    ·split<;>exact wpAny_pure (h _)
end
section
variable {K:PySem.W.Frag} {H:Hp}
theorem Reps.pick{ds:List D}{xs:List V}(r:Reps K H ds xs):∀l:List Nat,(∀i∈l,i<ds.length)->Reps K H (l.map λi=>ds.getD i .non) (l.map λi=>xs.getD i .non)
|[],_=>.nil
|i::l,h=>by
  have hi:=h i (List.mem_cons_self ..)
  obtain⟨x,hx,rx⟩:=r.at (List.getElem?_eq_getElem hi)
  refine .cons ?_ (r.pick l λj hj=>h j (List.mem_cons_of_mem _ hj))
  have e1:ds.getD i .non=ds[i]:=by simp[List.getD_eq_getElem?_getD,hi]
  have e2:xs.getD i .non=x:=by simp[List.getD_eq_getElem?_getD,hx]
  show Rep K H (ds.getD i .non) (xs.getD i .non)
  rw[e1,e2]
  exact rx
theorem Vals.pick{xs:List V}{us:List Value}(r:Vals xs us):∀l:List Nat,(∀i∈l,i<xs.length)->Vals (l.map λi=>xs.getD i .non) (l.map λi=>us.getD i Value.none)
|[],_=>.nil
|i::l,h=>by
  have hi:=h i (List.mem_cons_self ..)
  obtain⟨u,hu,ru⟩:=r.get (List.getElem?_eq_getElem hi)
  refine .cons ?_ (Vals.pick r l λj hj=>h j (List.mem_cons_of_mem _ hj))
  have e1:xs.getD i .non=xs[i]:=by simp[List.getD_eq_getElem?_getD,hi]
  have e2:us.getD i Value.none=u:=by simp[List.getD_eq_getElem?_getD,hu]
  show RelV (xs.getD i .non) (us.getD i Value.none)
  rw[e1,e2]
  exact ru
end
def q5c:D->Bool
|.str _=>true
|.tup _=>true
|_=>false
structure SortD(ds:List D):Prop where
 tup:(∀d∈ds,∃es,d=.tup es/\qcu es<=20/\∀x,es[0]?=some x->q5c x=true)\/∀d∈ds,∃z,d=.str z
 ord:∀d∈ds,∀e∈ds,ordD d e=true
 tr:∀a∈ds,∀b∈ds,∀c∈ds,ltD a b=true->ltD b c=true->ltD a c=true
 as:∀a∈ds,∀b∈ds,ltD a b=true->ltD b a=false
 tot:∀a∈ds,∀b∈ds,a≠b->ltD a b=true\/ltD b a=true
 nd:ds.Nodup
theorem getD_mem{ds:List D}{i:Nat}(h:i<ds.length):ds.getD i .non∈ds:=by
 have e1:ds.getD i .non=ds[i]:=by simp[List.getD_eq_getElem?_getD,h]
 rw[e1]
 exact List.getElem_mem h
theorem SortD.ltOk{ds:List D}(S:SortD ds):LtOk ds.length λi j=>ltD (ds.getD i .non) (ds.getD j .non) where
 tr:=λa b c ha hb hc=>S.tr _ (getD_mem ha) _ (getD_mem hb) _ (getD_mem hc)
 as:=λa b ha hb=>S.as _ (getD_mem ha) _ (getD_mem hb)
 tot:=λa b ha hb ne=>S.tot _ (getD_mem ha) _ (getD_mem hb) λe=>ne (by
  have e1:ds.getD a .non=ds[a]:=by simp[List.getD_eq_getElem?_getD,ha]
  have e2:ds.getD b .non=ds[b]:=by simp[List.getD_eq_getElem?_getD,hb]
  rw[e1,e2] at e
  exact(List.getElem_inj S.nd).mp e)
end L2
namespace L2
open PySem PySem.Spec PyProof.Rows PySem.W
theorem range_getD(vs:List Value):((List.range vs.length).map λi=>vs.getD i Value.none)=vs:=by
 apply List.ext_getElem
 ·simp
 ·intro i h1 h2
  simp[List.getD_eq_getElem?_getD,h2]
section
variable {X:Cx} {pins:List (Addr×Obj)} {σ:St} {H:Hp} {s:Shared} {E:Value->Shared->Prop}
theorem q87(I:Inv X pins σ H s){A:Around}{ds:List D}{xs:List V}{vs:List Value}(r:Reps X.K H ds xs)(v:Vals xs vs)(S:SortD ds)(h2:2<=vs.length)(h64:vs.length<64)(hu:A.units+30<cLine)(κ:SortKind)(hκ:(∀d∈ds,∃z,d=.str z)->2<=ds.length->κ=oneType'){Q:SortSt->Shared->Prop}
  (h:∀(st:SortSt) (q:Array Nat),q.Perm (List.range ds.length).toArray->SPr (λi j=>ltD (ds.getD i .non) (ds.getD j .non)) q ds.length->(arrOf st).map (·.2)=List.toArray (q.toList.map λi=>vs.getD i Value.none)->failedOf st=none->Q st s) :
  wpAny (model X.prog X.w) A ((sortRuns').run (SortSt.mk' κ (vs.toArray.zip vs.toArray) #[] 7 none)) (λr s'=>Q r.2 s') E s:=by
 have hl:ds.length=vs.length:=r.length.trans v.length
 obtain⟨ok,q,hq,hp,hs⟩:=q3r S.ltOk (by lia)
 refine kat_run (ks:=vs) (vs:=vs) (G:=λp s'=>p=q/\s'=s) rfl h2 h64 (λp st s' hz ha hf hg=>?_) ?_
 ·obtain⟨rfl,rfl⟩:=hg
  exact h st p hp hs (kat_snds rfl ha) hf
 ·rw[←hl]
  refine qt7 (n:=ds.length) (lt:=λi j=>ltD (ds.getD i .non) (ds.getD j .non)) (P:=λs'=>s'=s) (λi j C s' hi hj hs' hC=>?_) _ s ok rfl λs' hs'=>⟨hq,hs'⟩
  subst hs'
  obtain⟨x,hx,rx⟩:=r.at (List.getElem?_eq_getElem hi)
  obtain⟨y,hy,ry⟩:=r.at (List.getElem?_eq_getElem hj)
  obtain⟨u,eu,ru⟩:=v.get hx
  obtain⟨w,ew,rw'⟩:=v.get hy
  have e1:ds.getD i .non=ds[i]:=by simp[List.getD_eq_getElem?_getD,hi]
  have e2:ds.getD j .non=ds[j]:=by simp[List.getD_eq_getElem?_getD,hj]
  have e3:vs.getD i Value.none=u:=by simp[List.getD_eq_getElem?_getD,eu]
  have e4:vs.getD j Value.none=w:=by simp[List.getD_eq_getElem?_getD,ew]
  have m1:ds[i]∈ds:=List.getElem_mem hi
  have m2:ds[j]∈ds:=List.getElem_mem hj
  have ho:=S.ord _ m1 _ m2
  have hC':=hC s' rfl
  rw[e1,e2] at hC'
  show wpAny (model X.prog X.w) A (keyLt' κ (vs.getD i Value.none) (vs.getD j Value.none)) C (λ_ _=>False) s'
  rw[e3,e4]
  rcases S.tup with T|T
  ·obtain⟨es,ee,he,_⟩:=T _ m1
   obtain⟨fs,ef,_,_⟩:=T _ m2
   rw[ee,ef] at hC'
   rw[ee,ef] at ho
   rw[ee] at rx
   rw[ef] at ry
   have hlt:ltD (.tup es) (.tup fs)=ltDs es fs:=by unfold ltD;rfl
   have hoo:qd3 es fs=true:=by unfold ordD at ho;exact ho
   rw[hlt] at hC'
   exact q1j I κ rx ry ru rw' hoo (by lia) hC'
  ·rw[hκ T (by lia),keyLt'_oneType]
   exact qop I true rx ry ru rw' ho (by obtain⟨z,ez⟩:=T _ m1;rw[ez];unfold depD;lia) hC'
theorem q1r{A:Around}{a:Addr}{n:Nat}{ds:List D}{xs:List V}{vs:List Value}{P:Fin->Shared->Prop}(ho:s.heap.get? a=some (seqObj "list" vs.toArray n))
  (I:∀h',(∀b o,b≠a->s.heap.get? b=some o->h'.get? b=some o)->Inv X pins σ H { s with heap:=h' }) (r:Reps X.K H ds xs) (v:Vals xs vs) (S:SortD ds) (h64:vs.length<64) (hu:A.units+30<cLine)
  (h:∀(q:List Nat) (h':Heap) (m:Nat),q.Perm (List.range ds.length)->q.Pairwise (λi j=>ltD (ds.getD i .non) (ds.getD j .non)=true)->(∀b o,b≠a->s.heap.get? b=some o->h'.get? b=some o)->h'.get? a=some (seqObj "list" (q.map λi=>vs.getD i Value.none).toArray m) ->
   P (.done (.ret .none)) { s with heap:=h' }):wpAny (model X.prog X.w) A (Builtin.«list.sort» ⟨[.ref a],[]⟩) P E s:=by
 have hl:ds.length=vs.length:=r.length.trans v.length
 have small:∀k,k<64->k<=sizeLine:=λk hk=>Nat.le_trans (Nat.le_of_lt hk) (by decide)
 rw[list_sort_plain]
 have ha:a<s.heap.objs.size:=Heap.lt_size ho
 have hz:vs.toArray.size<=sizeLine:=by rw[List.size_toArray];exact small _ h64
 refine wpAny_bind (listItems_at ho rfl (wpAny_bind (listUpdate_at ho rfl ?_ hz (Nat.zero_le _))))
 generalize e1:s.heap.update a (Obj.mapSeq λ_=>#[])=h1
 obtain⟨m1,ho1⟩:∃m1,h1.get? a=some (seqObj "list" #[] m1):=⟨_,by rw[←e1];exact get?_update_seq ho (λ_=>#[])⟩
 have k1:∀b o,b≠a->s.heap.get? b=some o->h1.get? b=some o:=λb o hb hq=>by
  rw[←e1,Heap.get?_update_ne _ _ _ _ hb]
  exact hq
 refine wpAny_bind (seqEpoch_at (s:={ s with heap:=h1 }) ho1 rfl (wpAny_bind (wpAny_newTuple ?_ (small _ h64))))
 generalize e2:h1.push { cls:=.type "tuple",data:=.seq vs.toArray }=h2
 have k2:∀b o,h1.get? b=some o->h2.get? b=some o:=λb o hq=>by rw[←e2];exact Heap.get?_push_of_some _ hq
 refine wpAny_bind (wpAny_newList ?_ (Nat.zero_le _))
 generalize e3:Heap.push _ _=h3
 have k3:∀b o,h2.get? b=some o->h3.get? b=some o:=λb o hq=>by rw[←e3];exact Heap.get?_push_of_some _ hq
 have ho3:h3.get? a=some (seqObj "list" #[] m1):=k3 _ _ (k2 _ _ ho1)
 have kk:∀b o,b≠a->s.heap.get? b=some o->h3.get? b=some o:=λb o hb hq=>k3 _ _ (k2 _ _ (k1 b o hb hq))
 have I3:Inv X pins σ H { s with heap:=h3 }:=I h3 kk
 refine wpAny_holding ?_
 show wpAny (model X.prog X.w) A _ P E { s with heap:=h3 }
 have fin:∀(q:List Nat) (out:Array Value),q.Perm (List.range ds.length)->q.Pairwise (λi j=>ltD (ds.getD i .non) (ds.getD j .non)=true)->out=(q.map λi=>vs.getD i Value.none).toArray ->
   P (.done (.ret .none)) { s with heap:=h3.update a (Obj.mapSeq λ_=>out) }:=λq out hq hp e=>by
  subst e
  refine h q _ _ hq hp (λb o hb hs=>?_) (get?_update_seq ho3 (λ_=>_))
  rw[Heap.get?_update_ne _ _ _ _ hb]
  exact kk b o hb hs
 dsimp only
 by_cases h2':vs.toArray.size<2
 ·rw[if_pos h2']
  refine wpAny_bind (wpAny_pure ?_)
  rw[if_pos h2',StateT.run_pure]
  refine wpAny_bind (wpAny_pure ?_)
  dsimp only
  refine wpAny_bind (seqEpoch_at (s:={ s with heap:=h3 }) ho3 rfl (wpAny_bind (listUpdate_at (s:={ s with heap:=h3 }) ho3 rfl ?_ (Nat.zero_le _) ?_)))
  ·simp only[bne_self_eq_false,Bool.false_eq_true,if_false]
   refine wpAny_pure (fin (List.range ds.length) _ (List.Perm.refl _) ?_ ?_)
   ·rw[List.size_toArray] at h2'
    rw[List.pairwise_iff_getElem]
    intro i j hi hj hij
    simp at hi hj
    lia
   ·apply Array.toList_inj.mp
    show (Array.map (λx:Value×Value=>x.2) (vs.toArray.zip vs.toArray)).toList=_
    rw[hl,range_getD]
    simp only[Array.toList_map,Array.toList_zip]
    exact List.map_snd_zip (Nat.le_refl _)
  ·show (Array.map (λx:Value×Value=>x.2) (vs.toArray.zip vs.toArray)).size<=_
   simp
   have:=small _ h64
   lia
 ·rw[if_neg h2']
  have h2v:2<=vs.length:=by rw[List.size_toArray] at h2';lia
  have kind:∀Q:SortKind->Shared->Prop,(∀κ,((∀d∈ds,∃z,d=.str z)->2<=ds.length->κ=oneType')->Q κ { s with heap:=h3 })->wpAny (model X.prog X.w) A (keyKind' vs.toArray) Q E { s with heap:=h3 }:=λQ hQ=>by
   rcases S.tup with T|T
   case inr =>
    refine kas_kind (T:=.type "str") (s:={ s with heap:=h3 }) h2v (λu hu=>?_) (by decide) (by decide) (hQ _ λ_ _=>rfl)
    obtain⟨i,hi,rfl⟩:=List.mem_iff_getElem.mp hu
    have hi2:i<ds.length:=by lia
    obtain⟨x,hx,rx⟩:=r.at (List.getElem?_eq_getElem hi2)
    obtain⟨u',eu,ru⟩:=v.get hx
    rw[List.getElem?_eq_getElem hi] at eu
    cases eu
    obtain⟨z,ez⟩:=T _ (List.getElem_mem hi2)
    rw[ez] at rx
    unfold Rep at rx
    subst rx
    obtain⟨t,et⟩:=ru
    rw[et]
    exact .now
   refine kind_any (s:={ s with heap:=h3 }) (λu hu=>?_) λκ=>hQ κ λhstr hlen=>?b
   case b =>
    have m0:ds[0]'(by lia)∈ds:=List.getElem_mem _
    obtain⟨es,ee,_⟩:=T _ m0
    obtain⟨z,ez⟩:=hstr _ m0
    rw[ee] at ez
    cases ez
   obtain⟨i,hi,rfl⟩:=List.mem_iff_getElem.mp hu
   have hi2:i<ds.length:=by lia
   obtain⟨x,hx,rx⟩:=r.at (List.getElem?_eq_getElem hi2)
   obtain⟨u',eu,ru⟩:=v.get hx
   rw[List.getElem?_eq_getElem hi] at eu
   cases eu
   obtain⟨es,ee,he,hk⟩:=T _ (List.getElem_mem hi2)
   rw[ee] at rx
   unfold Rep at rx
   obtain⟨b,ys,rfl,hb,r1⟩:=rx
   obtain⟨its,v1,p1,_⟩:=I3.tuple hb.sq
   obtain⟨o1,q1,c1,n1,y1⟩:=id p1
   refine⟨b,o1,its.toArray,n1,ru,q1,c1,y1,λf hf=>?_⟩
   have hf':its[0]?=some f:=by simpa using hf
   have h0:0<es.length:=by
    rw[r1.length,v1.length]
    exact(List.getElem?_eq_some_iff.mp hf').1
   obtain⟨y,hy,ry⟩:=r1.at (List.getElem?_eq_getElem h0)
   obtain⟨f',ef,rf⟩:=v1.get hy
   rw[hf'] at ef
   cases ef
   have hkey:=hk _ (List.getElem?_eq_getElem h0)
   generalize es[0]=d0 at hkey ry
   cases d0 with
  |str z =>
    unfold Rep at ry
    subst ry
    obtain⟨t,rfl⟩:=rf
    exact⟨.type "str",λM=>.now⟩
  |tup gs =>
    unfold Rep at ry
    obtain⟨c,zs,rfl,hc,_⟩:=ry
    cases rf
    obtain⟨its3,_,p3,_⟩:=I3.tuple hc.sq
    obtain⟨o3,q3,_⟩:=id p3
    exact⟨o3.cls,λM=>(Looks.ld q3).andThen .now⟩
  |_=>cases hkey
  refine wpAny_bind (kind _ λκ hκ=>?_)
  ·rw[if_neg h2']
   refine wpAny_bind (wpAny_mono (q87 I3 r v S h2v h64 hu κ hκ (Q:=λst s'=>s'={ s with heap:=h3 }/\∃q:Array Nat,q.Perm (List.range ds.length).toArray/\SPr (λi j=>ltD (ds.getD i .non) (ds.getD j .non)) q ds.length/\(arrOf st).map (·.2)=List.toArray (q.toList.map λi=>vs.getD i Value.none)/\failedOf st=none)
    λst q a1 a2 a3 a4=>⟨rfl,q,a1,a2,a3,a4⟩) ?_ λ_ _ z=>z)
   rintro⟨⟨⟩,st⟩ s' ⟨rfl,q,a1,a2,a3,a4⟩
   have hql:q.toList.length=ds.length:=by
    have:=a1.size_eq
    simpa using this
   dsimp only
   refine wpAny_bind (seqEpoch_at (s:={ s with heap:=h3 }) ho3 rfl (wpAny_bind (listUpdate_at (s:={ s with heap:=h3 }) ho3 rfl ?_ (Nat.zero_le _) ?_)))
   ·rw[a4]
    simp only[bne_self_eq_false,Bool.false_eq_true,if_false]
    refine wpAny_pure (fin q.toList _ ?_ ?_ a3)
    ·have:=a1.toList
     simpa using this
    ·rw[List.pairwise_iff_getElem]
     intro i j hi hj hij
     have:=a2 i j hij (by lia)
     have g1:q.getD i 0=q.toList[i]:=by rw[qc6];simp[Array.getElem?_eq_getElem (show i<q.size by simpa using hi)]
     have g2:q.getD j 0=q.toList[j]:=by rw[qc6];simp[Array.getElem?_eq_getElem (show j<q.size by simpa using hj)]
     rw[g1,g2] at this
     exact this
   ·show ((arrOf st).map (·.2)).size<=_
    rw[a3]
    simp
    have:=small _ h64
    have:q.size=ds.length:=by simpa using hql
    lia
theorem qne(hu:X.A.units+60<cLine):CallR X (.builtin "sorted") (λxs H Q=>∃p ys ds,xs=[.ref p]/\SqL X.K H p ys/\Reps X.K H ds ys/\SortD ds/\ds.length<64/\∀l (q:List Nat),H l=none->q.Perm (List.range ds.length)->q.Pairwise (λi j=>ltD (ds.getD i .non) (ds.getD j .non)=true)->Q (.ref l) (upd H l (.lst (q.map λi=>ys.getD i .non)))):=by
 intro pins s σ H xs us Q I rx h
 obtain⟨p,ys,ds,rfl,hp,r,S,h64,hq⟩:=h
 obtain⟨u,rfl,ru⟩:=vals1 rx
 cases ru
 obtain⟨its,v,pl,hz⟩:=I.list hp
 have hl:ds.length=its.length:=r.length.trans v.length
 refine Calls.call_function_entry kind_sorted plain_sorted entry_sorted (args_sorted1 _) ?_
 unfold Builtin.«sorted»
 refine wpAny_bind (m:=checkCount "sorted" 1 1 _) (wpAny_pure ?_)
 have hz':its.length<=sizeLine:=by rw[←v.length];exact hz
 refine wpAny_bind (collect_list pl.isList (wpAny_bind (wpAny_newList ?_ hz')) hz')
 generalize e1:(s.heap.push (seqObj "list" #[] 0)).update s.heap.objs.size _=h1
 have n1:h1.objs.size=s.heap.objs.size+1:=by rw[←e1,Heap.size_update,size_push']
 have k1:∀b o,s.heap.get? b=some o->h1.get? b=some o:=λb o q=>by
  have lt:b<s.heap.objs.size:=Heap.lt_size q
  rw[←e1,Heap.get?_update_ne _ _ _ _ (Nat.ne_of_lt lt)]
  exact Heap.get?_push_of_some _ q
 generalize e2:Heap.push _ _=h2
 have hD:h2.get? h1.objs.size=some (seqObj "list" its.toArray 0):=by rw[←e2];exact Heap.get?_push_size _ rfl
 have k2:∀b o,s.heap.get? b=some o->h2.get? b=some o:=λb o q=>by rw[←e2];exact Heap.get?_push_of_some _ (k1 b o q)
 have un:X.A.in1.units=X.A.units+1:=rfl
 have un2:X.A.in1.in1.units=X.A.units+2:=rfl
 show wpAny (model X.prog X.w) X.A.in1 (do let _ ←holding [Value.ref h1.objs.size] (call (.builtin "list.sort") [.ref h1.objs.size]);ret (.ref h1.objs.size)) _ X.xe { s with heap:=h2 }
 refine wpAny_bind (wpAny_holding (wpAny_call_entry (s:={ s with heap:=h2 }) slot_list_sort ⟨_,hD,rfl⟩ entry_list_sort ?_ (args_list_sort _)))
 refine q1r (s:={ s with heap:=h2 }) (H:=H) (σ:=σ) (pins:=pins) (X:=X) hD (λh' kp=>?_) r v S (by lia) (by lia) λq h' m hqp hqs kp he=>⟨_,rfl,?_⟩
 ·refine I.kept (t':=s.toks) λb o e=>?_
  refine kp b o (λz=>?_) (k2 b o e)
  have lt:b<s.heap.objs.size:=Heap.lt_size e
  rw[z,n1] at lt
  exact Nat.not_succ_le_self _ (Nat.le_of_lt lt)
 ·refine wpAny_pure ⟨_,rfl,.ref h1.objs.size,upd H h1.objs.size (.lst (q.map λi=>ys.getD i .non)),?_,rfl,hq _ q (I.hok.fresh (by lia)) hqp hqs⟩
  have hqm:∀i∈q,i<ys.length:=λi hi=>by
   have:=hqp.mem_iff.mp hi
   rw[←r.length]
   simpa using this
  refine I.laid (t':=s.toks) (λb o e=>?_) (by lia) ⟨?_,_,m,v.pick q hqm,he⟩
  ·refine kp b o (λz=>?_) (k2 b o e)
   have lt:b<s.heap.objs.size:=Heap.lt_size e
   rw[z,n1] at lt
   exact Nat.not_succ_le_self _ (Nat.le_of_lt lt)
  ·have:=hqp.length_eq
   rw[List.length_map,this,List.length_range]
   have:=r.length
   lia
end
end L2
namespace L2
open PySem PySem.Spec PyProof.Rows
section
variable {X:Cx} {EX:St->XK} {K:PySem.W.Frag} {B H H0:Hp} {e:Expr} {es:List Expr} {tA:TVA} {x y:Str} {p pos:Pos}
def qet(rx:R)(Q:R->Prop):Prop:=match rx.d with
|.lst ds=>SortD ds/\ds.length<64/\∀ds',ds'.Perm ds->ds'.Pairwise (λa b=>ltD a b=true)->Q (.own (.lst ds'))
|_=>False
theorem qix(hu64:X.A.units+64<cLine):VF X (.builtin "sorted") qet:=by
 have hu:X.A.units+60<cLine:=by lia
 refine⟨_,qne hu,λB H x rx Q Qd s px h k=>?_⟩
 unfold qet at h
 split at h
 ·rename_i ds e1
  obtain⟨hS,hl,hq⟩:=h
  obtain⟨a,xs,rfl,h1,r1⟩:=px.lst s e1
  refine⟨a,xs,ds,rfl,SqL.of h1,r1.same s,hS,hl,λl q hn hp hs=>?_⟩
  have hm:∀i∈q,i<ds.length:=λi hi=>by simpa using hp.mem_iff.mp hi
  have hr:((List.range ds.length).map λi=>ds.getD i .non)=ds:=by
   apply List.ext_getElem
   ·simp
   ·intro i h1 h2
    simp[List.getD_eq_getElem?_getD,h2]
  refine k (.own (.lst (q.map λi=>ds.getD i .non))) _ B _ (.grow s (qaw hn _)) ⟨l,rfl,hn,s.free hn,qco (r1.pick q hm)⟩ (hq _ ?_ ?_)
  ·have:=hp.map λi=>ds.getD i .non
   rw[hr] at this
   exact this
  ·rw[List.pairwise_map]
   exact hs
 ·exact h.elim
end
def keyW(w:List Str):List (List Nat):=w.map (·.cps.toList)
theorem qpy:∀ {a b:List Str},keyW a=keyW b->a=b
|[],[],_=>rfl
|[],_::_,h=>by cases h
|_::_,[],h=>by cases h
|x::a,y::b,h=>by
  injection h with h1 h2
  rw[qfo h1,qpy h2]
theorem qp2:∀a b:List Str,ltDs (a.map D.str) (b.map D.str)=decide (keyW a<keyW b)
|[],[]=>by unfold ltDs;simp[keyW]
|[],y::b=>by
  show ltDs [] (.str y::b.map D.str)=_
  unfold ltDs
  simp[keyW]
|x::a,[]=>by
  show ltDs (.str x::a.map D.str) []=_
  unfold ltDs
  simp[keyW]
|x::a,y::b=>by
  show ltDs (.str x::a.map D.str) (.str y::b.map D.str)=decide (x.cps.toList::keyW a<y.cps.toList::keyW b)
  unfold ltDs
  rw[qp2 a b]
  by_cases e:x=y
  ·subst e
   rw[if_pos (qdb _)]
   exact decide_eq_decide.mpr (by rw[List.cons_lt_cons_iff];simp[List.lt_irrefl])
  ·rw[if_neg (λz=>e (D.str.inj (qtp z)))]
   unfold ltD
   refine decide_eq_decide.mpr ?_
   rw[List.cons_lt_cons_iff]
   constructor
   ·exact .inl
   ·rintro (z|⟨z,_⟩)
    ·exact z
    ·exact absurd (qfo z) e
theorem q1l{a b c:List (List Nat)}(h1:a<b)(h2:b<c):a<c:=List.lt_trans h1 h2
theorem q1k{a b:List (List Nat)}(h1:a<b):¬ b<a:=λh2=>List.lt_irrefl a (List.lt_trans h1 h2)
theorem qxi(a b:List (List Nat))(h:a≠b):a<b\/b<a:=by
 by_cases h1:a<b
 ·exact .inl h1
 ·by_cases h2:b<a
  ·exact .inr h2
  ·exact absurd (List.le_antisymm (List.not_lt.mp h2) (List.not_lt.mp h1)) h
def ltW(a b:List Str):Bool:=decide (keyW a<keyW b)
theorem qea(a b:List Str):ltD (wayD a) (wayD b)=ltW a b:=by
 show ltD (.tup (a.map D.str)) (.tup (b.map D.str))=_
 unfold ltD
 exact qp2 a b
theorem qz7{a b c:List Str}(h1:ltW a b=true)(h2:ltW b c=true):ltW a c=true:=decide_eq_true (q1l (of_decide_eq_true h1) (of_decide_eq_true h2))
theorem quk{a b:List Str}(h1:ltW a b=true):ltW b a=false:=decide_eq_false (q1k (of_decide_eq_true h1))
theorem qul{a b:List Str}(h:a≠b):ltW a b=true\/ltW b a=true:=(qxi _ _ λe=>h (qpy e)).imp decide_eq_true decide_eq_true
theorem qkp:∀a b:List Str,qd3 (a.map D.str) (b.map D.str)=true
|[],_=>by
  show qd3 [] _=true
  unfold qd3
  rfl
|_::_,[]=>by
  show qd3 (_::_) []=true
  unfold qd3
  rfl
|x::a,y::b=>by
  show qd3 (.str x::a.map D.str) (.str y::b.map D.str)=true
  unfold qd3
  rw[qkp a b]
  unfold ordD
  rfl
theorem q08(a:List Str):qcu (a.map D.str)=0:=by
 induction a with
|nil=>rfl
|cons x a ih =>
  show max (depD (.str x)) (qcu (a.map D.str))=0
  rw[ih]
  rfl
theorem qlb{a b:List Str}(h:wayD a=wayD b):a=b:=by
 have h':a.map D.str=b.map D.str:=D.tup.inj h
 exact(qfk _ _).mp h'
theorem qr4{ws:List (List Str)}(nd:ws.Nodup):SortD (ws.map wayD) where
 tup:=.inl λd hd=>by
  obtain⟨w,_,rfl⟩:=List.mem_map.mp hd
  refine⟨w.map D.str,rfl,by rw[q08];lia,λx hx=>?_⟩
  rw[List.getElem?_map] at hx
  obtain⟨z,_,rfl⟩:=Option.map_eq_some_iff.mp hx
  rfl
 ord:=λd hd e he=>by
  obtain⟨a,_,rfl⟩:=List.mem_map.mp hd
  obtain⟨b,_,rfl⟩:=List.mem_map.mp he
  show ordD (.tup _) (.tup _)=true
  unfold ordD
  exact qkp a b
 tr:=λd hd e he f hf=>by
  obtain⟨a,_,rfl⟩:=List.mem_map.mp hd
  obtain⟨b,_,rfl⟩:=List.mem_map.mp he
  obtain⟨c,_,rfl⟩:=List.mem_map.mp hf
  rw[qea,qea,qea]
  exact qz7
 as:=λd hd e he=>by
  obtain⟨a,_,rfl⟩:=List.mem_map.mp hd
  obtain⟨b,_,rfl⟩:=List.mem_map.mp he
  rw[qea,qea]
  exact quk
 tot:=λd hd e he ne=>by
  obtain⟨a,_,rfl⟩:=List.mem_map.mp hd
  obtain⟨b,_,rfl⟩:=List.mem_map.mp he
  rw[qea,qea]
  exact qul λz=>ne (by rw[z])
 nd:=by
  rw[List.nodup_iff_pairwise_ne] at nd ⊢
  rw[List.pairwise_map]
  exact nd.imp λh z=>h (qlb z)
theorem qjw{α:Type}{lt:α->α->Bool}(as:∀a b,lt a b=true->lt b a=false):∀ {xs ys:List α},xs.Perm ys->xs.Pairwise (λa b=>lt a b=true)->ys.Pairwise (λa b=>lt a b=true)->xs=ys
|[],ys,hp,_,_=>(List.nil_perm.mp hp).symm▸rfl
|x::xs,[],hp,_,_=>by cases hp.length_eq
|x::xs,y::ys,hp,hx,hy=>by
  rw[List.pairwise_cons] at hx hy
  have e:x=y:=by
   have m1:x∈y::ys:=hp.mem_iff.mp (List.mem_cons_self ..)
   have m2:y∈x::xs:=hp.mem_iff.mpr (List.mem_cons_self ..)
   rcases List.mem_cons.mp m1 with z|z
   ·exact z
   rcases List.mem_cons.mp m2 with w|w
   ·exact w.symm
   have l1:=hx.1 y w
   have l2:=hy.1 x z
   rw[as _ _ l1] at l2
   cases l2
  subst e
  rw[qjw as (List.perm_cons x |>.mp hp) hx.2 hy.2]
end L2
namespace L2
open PySem PySem.Spec PyProof.Rows
def q0k(tk tv:TE):TE:=λσ H Q=>∀p,H p=none->tk σ (upd H p (.dT [])) λx H1=>tv σ H1 λy H2=>H2 p=some (.dT [])/\∃b ks,x=.ref b/\H2 b=some (.tup (ks.map kV))/\Q (.ref p) (upd H2 p (.dT [(ks,y)]))
def qoq(C:V->V->Hp->Prop)(ps:List (V×V))(H:Hp):Prop:=match ps with
|[(x,y)]=>C x y H
|_=>False
theorem qrs{C:V->V->Hp->Prop}{ps:List (V×V)}{H:Hp}(h:qoq C ps H):∃x y,ps=[(x,y)]/\C x y H:=by
 unfold qoq at h
 split at h
 ·exact⟨_,_,rfl,h⟩
 ·exact h.elim
section
variable {X:Cx} {pos:Pos} {k v:Expr} {tk tv:TE}
theorem qye(hu:X.A.units+1<cLine)(hk:PE X k tk)(hv:PE X v tv):PE X (.Dict [some k] [v] pos) (q0k tk tv):=by
 intro pins s σ H Q I h
 have hn:=I.hok.fresh (Nat.le_refl s.heap.objs.size)
 have I1:=I.laid (a:=s.heap.objs.size) (o:=.dT []) (h':=s.heap.push { cls:=.type "dict",data:=.dict #[] }) (t':=s.toks) (λ_ _ q=>Heap.get?_push_of_some _ q) (Nat.le_refl _) (qpr s.heap I.big)
 have P:=qyl (pos:=pos) hk hv q2q pins _ σ _ (qoq λx y H2=>H2 s.heap.objs.size=some (.dT [])/\∃(b:Addr) (ks:List Key),x=.ref b/\H2 b=some (.tup (ks.map kV))/\Q (.ref s.heap.objs.size) (upd H2 s.heap.objs.size (.dT [(ks,y)]))) I1 (h _ hn)
 rw[arm_eval_Dict,zip_pairTrees [some k] [v] X.env pos rfl rfl,dictDisplay_pairs _ (by simp[pairTrees]) (by simp[pairTrees])]
 refine wpAny_bind (wpAny_standAt (wpAny_bind ?_))
 unfold subDict
 refine wpAny_bind (wpAny_alloc (wpAny_bind (wpAny_holding ?_)))
 rw[if_pos (by simp[pairTrees])]
 refine wpAny_bind (wpAny_mono P (λws s2 hw=>?_) λ_ _ e=>e)
 obtain⟨ps,H2,I2,rel,hp⟩:=hw
 obtain⟨x,y,rfl,e,b,ks,rfl,eb,q2⟩:=qrs hp
 cases rel with
|cons hr rel =>
 cases rel
 obtain⟨ru,rv⟩:=hr
 rename_i wp
 obtain⟨u,r⟩:=wp
 obtain rfl:u=Value.ref b:=ru
 obtain⟨z,hd,xs,rk,dd⟩:=q4z I2.hok e
 cases rk
 refine wpAny_holding ?_
 rw[List.forIn_cons]
 refine wpAny_bind (wpAny_bind (wpAny_bind (wpAny_dictSet_heap (hsz:=Nat.zero_le _) (show (tupleKind (qb3 X.prog X.w)).room X.A from by show X.A.units<cLine;lia) (qh1 I2.hok eb) dd λh' dd' hs=>wpAny_pure ?_)))
 dsimp only
 rw[List.forIn_nil]
 refine wpAny_pure (wpAny_pure (wpAny_pure (wpAny_pure ⟨.ref s.heap.objs.size,_,?_,rfl,q2⟩)))
 obtain⟨q,es,ep,hq,g2,g3,g4,_,g5⟩:=dd'
 refine qng I2 (by rw[e];exact True.intro) hs ⟨q,hq⟩ ⟨by show 1<=sizeLine;decide,hd,[(ks,b,r)],.cons ⟨rfl,?_,rv⟩ .nil,q,es,ep,hq,g2,g3,g4,g5⟩
 rw[qau (q5h eb e (λz=>nomatch z))]
 exact eb
theorem qyq(hu:X.A.units+1<cLine)(hk:QE X k tk)(hv:QE X v tv):QE X (.Dict [some k] [v] pos) (q0k tk tv):=⟨qye hu hk.u hv.u⟩
end
section
variable {X:Cx} {EX:St->XK} {pos:Pos} {k v:Expr} {tk tv:TV}
def qmo(tk tv:TV):TV:=λτ Q=>tk τ λrk=>match rk.d with
|.tup es=>∃w:List Str,es=w.map D.str/\("" : Str)∉w/\tv τ λrv=>exR rv (λ_=>False) (pubR rv λd=>Q (.own (.dT [w] [d])))
|_=>False
theorem qzi(hu:X.A.units+64<cLine)(hk:VE X EX k tk)(hv:VE X EX v tv):VE X EX (.Dict [some k] [v] pos) (qmo tk tv) :=
 let ⟨_,a1,a2⟩:=hk.u;let ⟨_,b1,b2⟩:=hv.u;⟨_,qyq (by lia) a1 b1,λH0 B H τ σ Q Qd s S h xc kk p hp=>by
  have g0:Stp B H B (upd H p (.dT [])):=.grow s (qaw hp _)
  refine a2 H0 B (upd H p (.dT [])) τ σ _ _ g0.s (S.step g0) h (xno λ_ q=>q) λrk vk B1 H1 p1 q1 h1=>?_
  split at h1
  ·rename_i es ek
   obtain⟨w,rfl,hne,h1⟩:=h1
   obtain⟨b,rfl,hb⟩:=q1.pk.way ek hne
   have S1:=S.step (g0.trans p1)
   refine b2 H0 B1 H1 τ σ _ _ p1.s S1 h1 (xno λ_ q=>by exact q) λrv vv B2 H2 p2 q2 h2=>?_
   obtain⟨d,B3,p3,_,rp,hq⟩:=pub p2 q2 (q2.ok h2)
   have hpp:(upd H p (.dT [])) p=some (.dT []):=qa6
   have e1:H1 p=some (.dT []):=p1.h _ _ hpp
   have e2:H2 p=some (.dT []):=p3.h _ _ e1
   refine⟨e2,b,wK w,rfl,?_,?_⟩
   ·rw[qm1]
    exact p3.h _ _ (p1.s _ _ hb)
   ·have hB3:B3 p=none:=(p1.trans p3).keep (s.free hp) (by rw[hpp];exact λz=>by cases z) λxs z=>by rw[hpp] at z;cases z
    refine kk (.own (.dT [w] [d])) _ B3 _ ?_ ⟨p,rfl,hp,hB3,?_⟩ hq
    ·exact(g0.trans (p1.trans p3)).upd hp hB3
    ·refine⟨[(wK w,vv)],qa6,rfl,.cons rp .nil⟩
  ·exact h1.elim⟩
end
end L2
namespace L2
open PySem PySem.Spec PyProof.Rows
theorem Room.dict{k:Nat}{A:Around}(r:Room k A):A.units+64<cLine:=by
 have:=r.un
 lia
end L2
namespace L2
open PySem PySem.Spec PyProof.Rows
section
variable {X:Cx} {EX:St->XK} {a:Expr} {ta:TV} {p pos:Pos}
theorem q30{y:Str}{pb:Pos}{c:Addr}{yes no:List Str}(u:∀n C,clsOf X.K n C->n∈yes\/n∈no->ExcK X.K C)(hy:∀n∈yes,∀C,clsOf X.K n C->PySem.W.kitOne X.K (.ref C) (.ref c)=some true)(hn:∀n∈no,∀C,clsOf X.K n C->PySem.W.kitOne X.K (.ref C) (.ref c)=some false)
  (hg:Gl X "isinstance") (hm:X.mg "isinstance" = none) (hgy:Gl X y) (hmy:X.mg y=some (.ref c)) (ha:VE X EX a ta) (hp:qav a=true:=by rfl) (hdy:(y==("__debug__" : Str))=false:=by decide) :
  VE X EX (.Call (.Name "isinstance" p) [a,.Name y pb] [] pos) (vIsX yes no ta) :=
 let ⟨_,a1,a2⟩:=ha.u;⟨_,qcb qgu hg hm PyProof.Rows.Boot.«isinstance» (qac a1 (qac (qot (v:=.ref c) hgy hmy rfl hdy) qdi rfl) hp) (by rw[List.all_cons,hp];rfl),λH0 B H τ σ Q Qd s S h xc k=>a2 H0 B H τ σ _ _ s S h (xno λ_ q=>q) λr v B1 H1 p1 q1 h1=>by
   split at h1
   ·rename_i n en
    obtain⟨ad,C,rfl,hx,hc⟩:=q1.pk.exc p1.s en
    rcases h1 with ⟨h1,h2⟩|⟨h1,h2⟩
    ·exact⟨ad,C,_,.ref c,true,rfl,hx,u n C hc (.inl h1),λw rw'=>rw',hy n h1 C hc,k _ _ B1 H1 p1 (repV rfl) h2⟩
    ·exact⟨ad,C,_,.ref c,false,rfl,hx,u n C hc (.inr h1),λw rw'=>rw',hn n h1 C hc,k _ _ B1 H1 p1 (repV rfl) h2⟩
   ·exact h1.elim⟩
end
end L2
namespace L2
open PySem PySem.Spec PyProof.Rows
theorem eqW(a b:List Str):eqD (.tup (a.map D.str)) (.tup (b.map D.str))=decide (a=b):=qce (by
  rw[eqD_iff,decide_eq_true_eq]
  exact⟨λz=>qlb z,λz=>by rw[z]⟩)
theorem cmpW(a b:List Str):cmpD (.tup (a.map D.str)) (.tup (b.map D.str))=true:=by
 unfold cmpD
 exact qfq _ _
theorem depW(a:List Str):depD (.tup (a.map D.str))<=50:=by
 unfold depD
 rw[qhd]
 decide
def unW:D->List Str
|.tup es=>(strsOf es).getD []
|_=>[]
theorem qo9(w:List Str):unW (wayD w)=w:=by
 show (strsOf (w.map D.str)).getD []=w
 rw[qgl]
 rfl
theorem qww{ds:List D}{ws:List (List Str)}(hp:ds.Perm (ws.map wayD))(hs:ds.Pairwise (λa b=>ltD a b=true)):∃vs:List (List Str),ds=vs.map wayD/\vs.Perm ws/\vs.Pairwise (λa b=>ltW a b=true):=by
 have e:ds=(ds.map unW).map wayD:=by
  rw[List.map_map]
  refine(List.map_id _).symm.trans (List.map_congr_left λd hd=>?_)
  obtain⟨w,_,rfl⟩:=List.mem_map.mp (hp.mem_iff.mp hd)
  show wayD w=wayD (unW (wayD w))
  rw[qo9]
 refine⟨ds.map unW,e,?_,?_⟩
 ·have:=hp.map unW
  rw[List.map_map] at this
  exact this.trans (List.Perm.of_eq ((List.map_congr_left λw _=>qo9 w).trans (List.map_id _)))
 ·rw[e,List.pairwise_map] at hs
  exact hs.imp λh=>by rw[←qea];exact h
abbrev Row:=List Str×Str×Str
def rowD(r:Row):D:=.tup [wayD r.1,.str r.2.1,.str r.2.2]
def unR:D->Row
|.tup [w,.str m,.str t]=>(unW w,m,t)
|_=>([],"","")
theorem qk1(r:Row):unR (rowD r)=r:=by
 show (unW (wayD r.1),r.2.1,r.2.2)=r
 rw[qo9]
theorem qy4{a b:Row}(h:rowD a=rowD b):a=b:=by rw[←qk1 a,←qk1 b,h]
theorem cmpR(a b:Row):cmpD (rowD a) (rowD b)=true:=by
 show cmpD (.tup [.tup (a.1.map D.str),.str a.2.1,.str a.2.2]) (.tup [.tup (b.1.map D.str),.str b.2.1,.str b.2.2])=true
 have h:=cmpW a.1 b.1
 unfold cmpD at h ⊢
 simp only[qc0,cmpD,h,qnf,Bool.and_self,Bool.true_and]
theorem q07(a:Row):depD (rowD a)=1+0\/depD (rowD a)<=20:=by
 right
 show depD (.tup [.tup (a.1.map D.str),.str a.2.1,.str a.2.2])<=20
 unfold depD
 simp only[qcu,depD,qhd]
 decide
theorem depR(a:Row):depD (rowD a)<=20:=by
 rcases q07 a with h|h
 ·lia
 ·exact h
theorem qeo{a b:Row}(h:a.1=b.1->a=b):ltD (rowD a) (rowD b)=ltW a.1 b.1:=by
 have e:ltD (rowD a) (rowD b)=ltDs [wayD a.1,.str a.2.1,.str a.2.2] [wayD b.1,.str b.2.1,.str b.2.2]:=by
  show ltD (.tup _) (.tup _)=_
  unfold ltD
  rfl
 rw[e]
 by_cases q:a.1=b.1
 ·have:=h q
  subst this
  unfold ltDs
  rw[if_pos (qdb _)]
  unfold ltDs
  rw[if_pos (qdb _)]
  unfold ltDs
  rw[if_pos (qdb _)]
  unfold ltDs
  exact(decide_eq_false (List.lt_irrefl _)).symm
 ·unfold ltDs
  rw[if_neg (λz=>q (qlb (qtp z)))]
  exact qea a.1 b.1
theorem qb9{rs:List Row}(nd:(rs.map (·.1)).Nodup){a b:Row}(ha:a∈rs)(hb:b∈rs)(h:a.1=b.1):a=b:=by
 induction rs with
|nil=>cases ha
|cons r rs ih =>
  rw[List.map_cons,List.nodup_cons] at nd
  rcases List.mem_cons.mp ha with ea|ha2
  ·rcases List.mem_cons.mp hb with eb|hb2
   ·rw[ea,eb]
   ·exact absurd (show r.1∈rs.map (·.1) from List.mem_map.mpr ⟨b,hb2,by rw[←h,ea]⟩) nd.1
  ·rcases List.mem_cons.mp hb with eb|hb2
   ·exact absurd (show r.1∈rs.map (·.1) from List.mem_map.mpr ⟨a,ha2,by rw[h,eb]⟩) nd.1
   ·exact ih nd.2 ha2 hb2
theorem qjv{rs:List Row}(nd:(rs.map (·.1)).Nodup):SortD (rs.map rowD) where
 tup:=.inl λd hd=>by
  obtain⟨r,_,rfl⟩:=List.mem_map.mp hd
  refine⟨_,rfl,?_,λx hx=>?_⟩
  ·have:=depR r
   unfold rowD depD at this
   lia
  ·cases hx
   rfl
 ord:=λd hd e he=>by
  obtain⟨a,_,rfl⟩:=List.mem_map.mp hd
  obtain⟨b,_,rfl⟩:=List.mem_map.mp he
  show ordD (.tup [.tup (a.1.map D.str),.str a.2.1,.str a.2.2]) (.tup [.tup (b.1.map D.str),.str b.2.1,.str b.2.2])=true
  simp only[ordD,qd3,qkp,Bool.and_self]
 tr:=λd hd e he f hf=>by
  obtain⟨a,ha,rfl⟩:=List.mem_map.mp hd
  obtain⟨b,hb,rfl⟩:=List.mem_map.mp he
  obtain⟨c,hc,rfl⟩:=List.mem_map.mp hf
  rw[qeo (qb9 nd ha hb),qeo (qb9 nd hb hc),qeo (qb9 nd ha hc)]
  exact qz7
 as:=λd hd e he=>by
  obtain⟨a,ha,rfl⟩:=List.mem_map.mp hd
  obtain⟨b,hb,rfl⟩:=List.mem_map.mp he
  rw[qeo (qb9 nd ha hb),qeo (qb9 nd hb ha)]
  exact quk
 tot:=λd hd e he ne=>by
  obtain⟨a,ha,rfl⟩:=List.mem_map.mp hd
  obtain⟨b,hb,rfl⟩:=List.mem_map.mp he
  rw[qeo (qb9 nd ha hb),qeo (qb9 nd hb ha)]
  exact qul λz=>ne (by rw[qb9 nd ha hb z])
 nd:=by
  rw[List.nodup_iff_pairwise_ne] at nd ⊢
  rw[List.pairwise_map] at nd ⊢
  exact nd.imp λh z=>h (by rw[qy4 z])
abbrev qb7(rs:List Row):Prop:=rs.Pairwise (λa b=>ltW a.1 b.1=true)
theorem qmg{ds:List D}{rs:List Row}(nd:(rs.map (·.1)).Nodup)(hp:ds.Perm (rs.map rowD))(hs:ds.Pairwise (λa b=>ltD a b=true)):∃ts:List Row,ds=ts.map rowD/\ts.Perm rs/\qb7 ts:=by
 have e:ds=(ds.map unR).map rowD:=by
  rw[List.map_map]
  refine(List.map_id _).symm.trans (List.map_congr_left λd hd=>?_)
  obtain⟨r,_,rfl⟩:=List.mem_map.mp (hp.mem_iff.mp hd)
  show rowD r=rowD (unR (rowD r))
  rw[qk1]
 have pm:(ds.map unR).Perm rs:=by
  have:=hp.map unR
  rw[List.map_map] at this
  exact this.trans (List.Perm.of_eq ((List.map_congr_left λr _=>qk1 r).trans (List.map_id _)))
 refine⟨ds.map unR,e,pm,?_⟩
 rw[e,List.pairwise_map] at hs
 have nd2:((ds.map unR).map (·.1)).Nodup:=((pm.map (·.1)).nodup_iff).mpr nd
 exact hs.imp_of_mem λ{a b} ma mb h=>by rw[←qeo (qb9 nd2 ma mb)];exact h
theorem qie{rs ts:List Row}(hp:rs.Perm ts)(h1:qb7 rs)(h2:qb7 ts):rs=ts:=qjw (lt:=λa b:Row=>ltW a.1 b.1) (λ_ _=>quk) hp h1 h2
def qaj(rs:List Row):D:=.lst (rs.map rowD)
theorem q4t:∀rs ts:List Row,qc0 (rs.map rowD) (ts.map rowD)=true
|[],_=>by cases ‹List Row›<;>rfl
|_::_,[]=>rfl
|a::rs,b::ts=>by
  show qc0 (rowD a::rs.map rowD) (rowD b::ts.map rowD)=true
  unfold qc0
  rw[cmpR,q4t rs ts]
  rfl
theorem q77(rs ts:List Row):cmpD (qaj rs) (qaj ts)=true:=by
 show cmpD (.lst _) (.lst _)=true
 unfold cmpD
 exact q4t rs ts
theorem q4x:∀rs:List Row,qcu (rs.map rowD)<=20
|[]=>by
  show qcu []<=20
  unfold qcu
  lia
|a::rs=>by
  show qcu (rowD a::rs.map rowD)<=20
  unfold qcu
  have:=depR a
  have:=q4x rs
  lia
theorem q78(rs:List Row):depD (qaj rs)<=21:=by
 show depD (.lst _)<=21
 unfold depD
 have:=q4x rs
 lia
section
variable {X:Cx} {pins:List (Addr×Obj)} {σ:St} {H:Hp} {s:Shared}
theorem q67{A:Around}(I:Inv X pins σ H s){a b:Addr}{ds es:List D}{xs ys:List V}(ha:SqT X.K H a xs)(hb:SqT X.K H b ys)(r1:Reps X.K H ds xs)(r2:Reps X.K H es ys)(hc:qc0 ds es=true)(hu:A.units<cLine)
  (ih:∀d∈ds,∀(e:D) (v z:V) (u w:Value),Rep X.K H d v->Rep X.K H e z->RelV v u->RelV z w->cmpD d e=true->SeqAt.EqAt A.in1 s u w (eqD d e)):SeqAt.RcNeAt A s (.ref a) (.ref b) (!eqD (.tup ds) (.tup es)):=by
 obtain⟨its,v1,p1,_⟩:=I.tuple ha
 obtain⟨its2,v2,p2,_⟩:=I.tuple hb
 have:=SeqAt.RcNeAt.tuples (A:=A) (s:=s) (e:=λj=>eqD (ds.getD j .non) (es.getD j .non)) (show s.heap.IsTuple a its.toArray from p1) (show s.heap.IsTuple b its2.toArray from p2) hu (qh0 r1 r2 v1 v2 hc ih)
 rw[List.size_toArray,List.size_toArray,←v1.length,←v2.length,←r1.length,←r2.length,qe3] at this
 rw[qtr]
 exact this
theorem q66{A:Around}(I:Inv X pins σ H s){a b:Addr}{ds es:List D}{xs ys:List V}(ha:H a=some (.lst xs))(hb:H b=some (.lst ys))(r1:Reps X.K H ds xs)(r2:Reps X.K H es ys)(hc:qc0 ds es=true)(hu:A.units<cLine)
  (ih:∀d∈ds,∀(e:D) (v z:V) (u w:Value),Rep X.K H d v->Rep X.K H e z->RelV v u->RelV z w->cmpD d e=true->SeqAt.EqAt A.in1 s u w (eqD d e)):SeqAt.RcNeAt A s (.ref a) (.ref b) (!eqD (.lst ds) (.lst es)):=by
 obtain⟨its,v1,p1,_⟩:=I.list (SqL.of ha)
 obtain⟨its2,v2,p2,_⟩:=I.list (SqL.of hb)
 have er:=qe3 ds es
 rw[qtq]
 by_cases hl:ds.length=es.length
 ·have hz:its.toArray.size=its2.toArray.size:=by rw[List.size_toArray,List.size_toArray,←v1.length,←v2.length,←r1.length,←r2.length,hl]
  have:=SeqAt.RcNeAt.lists (A:=A) (s:=s) (e:=λj=>eqD (ds.getD j .non) (es.getD j .non)) p1.isList p2.isList hz hu (qh0 r1 r2 v1 v2 hc ih)
  rw[List.size_toArray,←v1.length,←r1.length] at this
  rw[←hl,Nat.min_self] at er
  have e2:(ds.length==ds.length)=true:=by simp
  rw[e2,Bool.and_true] at er
  rw[er] at this
  exact this
 ·have e2:(ds.length==es.length)=false:=by simpa using hl
  rw[e2,Bool.and_false] at er
  rw[←er]
  refine SeqAt.RcNeAt.lists_lengths p1.isList p2.isList ?_ hu
  rw[List.size_toArray,List.size_toArray,←v1.length,←v2.length,←r1.length,←r2.length]
  simpa using hl
theorem q5q(hu:X.A.units+60<cLine):OpR X (compareOp .NotEq) (rEqD X.K not):=by
 intro pins s σ H x y v u Q I rx ry h
 obtain⟨d,e,hd,he,hc,hn,q⟩:=h
 have fin:EP X pins σ Q (.bool (!eqD d e)) s:=⟨.bl (!eqD d e),H,I,rfl,q⟩
 have un:X.A.in1.units=X.A.units+1:=rfl
 cases d with
|tup ds =>
  cases e with
 |tup es =>
   unfold Rep at hd he
   obtain⟨a,xs,rfl,ha,r1⟩:=hd
   obtain⟨b,ys,rfl,hb,r2⟩:=he
   cases rx
   cases ry
   unfold cmpD at hc
   unfold depD at hn
   exact q67 I ha.sq hb.sq r1 r2 hc (by lia) (λd hd e v z u w h1 h2 h3 h4 h5=>qgw I _ X.A.in1 d e v z u w (Nat.le_refl _) h1 h2 h3 h4 h5 (by have:=qcw hd;lia)) _ _ _ _ fin
 |_=>unfold cmpD at hc;cases hc
|lst ds =>
  cases e with
 |lst es =>
   unfold Rep at hd he
   obtain⟨a,xs,rfl,ha,r1⟩:=hd
   obtain⟨b,ys,rfl,hb,r2⟩:=he
   cases rx
   cases ry
   unfold cmpD at hc
   unfold depD at hn
   exact q66 I ha hb r1 r2 hc (by lia) (λd hd e v z u w h1 h2 h3 h4 h5=>qgw I _ X.A.in1 d e v z u w (Nat.le_refl _) h1 h2 h3 h4 h5 (by have:=qcw hd;lia)) _ _ _ _ fin
 |_=>unfold cmpD at hc;cases hc
|_ =>
  obtain⟨v',z',q1,q2,q3⟩:=qo6 hc (λ_ h=>by cases h) (λ_ h=>by cases h)
  have e1:=qe7 hd q1
  have e2:=qe7 he q2
  subst e1 e2
  have q':Q (.bl (!eqD _ _)) H:=q
  rw[qj8 q1 q2] at q'
  exact q8i pins s σ H _ _ v u Q I rx ry ⟨q3,q'⟩
def vNeD(rx ry:R)(Q:R->Prop):Prop:=cmpD rx.d ry.d=true/\depD rx.d<=50/\Q (.val (.bl (!eqD rx.d ry.d)))
theorem qev(hu:X.A.units+64<cLine):VO X (compareOp .NotEq) vNeD :=
 ⟨_,q5q (by lia),λB H x y rx ry Q Qd s px py h k=>⟨rx.d,ry.d,px.rep s,py.rep s,h.1,h.2.1,k _ _ B H (.refl s) (repV rfl) h.2.2⟩⟩
end
section
variable {X:Cx} {pos p2:Pos} {e st:Expr} {te:TE} {lo hi:Option Expr} {tl th ts:TO}
end
section
variable {X:Cx} {EX:St->XK} {pos p2:Pos} {e st:Expr} {te:TV} {lo hi:Option Expr} {tl th ts:TVO} {K:PySem.W.Frag} {B:Hp}
end
end L2
namespace L2
section
variable {α:Type} [DecidableEq α]
def preB(w o:List α):Bool:=decide (w.take o.length=o)
def qa8(w o:List α):Bool:=decide (o.length<w.length)&&preB w o
theorem preB_iff{w o:List α}:preB w o=true↔o <+: w:=by
 unfold preB
 rw[decide_eq_true_eq]
 constructor
 ·intro h
  rw[←h]
  exact List.take_prefix _ _
 ·rintro⟨t,rfl⟩
  exact List.take_left
theorem underB_iff{w o:List α}:qa8 w o=true↔o <+: w/\w≠o:=by
 unfold qa8
 rw[Bool.and_eq_true,decide_eq_true_eq,preB_iff]
 constructor
 ·rintro⟨h1,h2⟩
  exact⟨h2,λe=>by rw[e] at h1;lia⟩
 ·rintro⟨h1,h2⟩
  refine⟨?_,h1⟩
  have:=h1.length_le
  rcases Nat.lt_or_ge o.length w.length with h|h
  ·exact h
  ·exact absurd (h1.eq_of_length (by lia)).symm h2
theorem qjs(w o:List α):preB w o=(decide (w=o)||qa8 w o):=by
 by_cases h:w=o
 ·subst h
  rw[decide_eq_true rfl,Bool.true_or,preB_iff]
  exact List.prefix_refl _
 ·rw[decide_eq_false h,Bool.false_or]
  refine Bool.eq_iff_iff.mpr ?_
  rw[preB_iff,underB_iff]
  exact⟨λq=>⟨q,h⟩,λq=>q.1⟩
def qbl(w old new:List α):List α:=if w=old\/qa8 w old=true then new++w.drop old.length else w
theorem qvo(w new:List α):qbl w [] new=new++w:=by
 unfold qbl
 rw[if_pos]
 ·rfl
 ·by_cases h:w=[]
  ·exact .inl h
  ·exact .inr (underB_iff.mpr ⟨List.nil_prefix,h⟩)
theorem qfa{w o:List α}(h:qa8 w o=true):o++qbl w o []=w:=by
 unfold qbl
 rw[if_pos (.inr h),List.nil_append]
 obtain⟨⟨t,rfl⟩,_⟩:=underB_iff.mp h
 rw[List.drop_left]
theorem qy9{w o:List α}(h:qa8 w o=true):qbl w o []≠[]:=λe=>by
 have:=qfa h
 rw[e,List.append_nil] at this
 exact(underB_iff.mp h).2 this.symm
end
section
variable {α β:Type} [DecidableEq α]
abbrev Rw(α β:Type):=List α×β
def qat(rs:List (Rw α β))(w:List α):List (Rw α β):=rs.filter λr=>!preB r.1 w
def qas(rs:List (Rw α β))(w:List α):List (Rw α β):=(rs.filter λr=>qa8 r.1 w).map λr=>(qbl r.1 w [],r.2)
def qc8(w:List α)(b:β)(below:List (Rw α β)):List (Rw α β):=(w,b)::below.map λr=>(w++r.1,r.2)
def qbh(rs:List (Rw α β))(w:List α)(b:β)(below:List (Rw α β)):List (Rw α β):=qat rs w++qc8 w b below
theorem qpu{rs below:List (Rw α β)}{w:List α}{b:β}(h1:(rs.map (·.1)).Nodup)(h2:(below.map (·.1)).Nodup)(h3:∀r∈below,r.1≠[]):((qbh rs w b below).map (·.1)).Nodup:=by
 unfold qbh qc8 qat
 rw[List.map_append,List.nodup_append]
 refine⟨h1.sublist ((List.filter_sublist).map _),?_,?_⟩
 ·rw[List.map_cons,List.nodup_cons,List.map_map]
  refine⟨λm=>?_,?_⟩
  ·obtain⟨r,mr,e⟩:=List.mem_map.mp m
   have e':w++r.1=w:=e
   exact h3 r mr (by simpa using e')
  ·rw[List.nodup_iff_pairwise_ne,List.pairwise_map] at h2 ⊢
   exact h2.imp λh e=>h (List.append_cancel_left e)
 ·intro x hx y hy e
  subst e
  obtain⟨r,mr,rfl⟩:=List.mem_map.mp hx
  have np:=(List.mem_filter.mp mr).2
  have pr:preB r.1 w=true:=by
   rw[preB_iff]
   rw[List.map_cons,List.mem_cons] at hy
   rcases hy with hy|hy
   ·rw[hy]
    exact List.prefix_refl _
   ·rw[List.map_map] at hy
    obtain⟨q,mq,eq⟩:=List.mem_map.mp hy
    have eq':w++q.1=r.1:=eq
    rw[←eq']
    exact List.prefix_append _ _
  rw[pr] at np
  cases np
theorem quw{rs:List (Rw α β)}{w:List α}(h:(rs.map (·.1)).Nodup):((qas rs w).map (·.1)).Nodup:=by
 unfold qas
 rw[List.map_map]
 rw[List.nodup_iff_pairwise_ne,List.pairwise_map] at h ⊢
 refine(h.filter _).imp_of_mem λ{a b} ma mb q e=>q ?_
 have ma':=(List.mem_filter.mp ma).2
 have mb':=(List.mem_filter.mp mb).2
 have e':qbl a.1 w []=qbl b.1 w []:=e
 rw[←qfa ma',←qfa mb',e']
theorem qux{rs:List (Rw α β)}{w:List α}:∀r∈qas rs w,r.1≠[]:=λr hr=>by
 obtain⟨q,mq,rfl⟩:=List.mem_map.mp hr
 exact qy9 (List.mem_filter.mp mq).2
theorem qlw{γ:Type}(p q:γ->Bool):∀(xs:List γ),(∀x∈xs,p x=true->q x=false)->((xs.filter λx=>!(p x||q x))++(xs.filter p++xs.filter q)).Perm xs:=by
 intro xs h
 induction xs with
|nil=>exact .nil
|cons x xs ih =>
  have ih:=ih λy hy=>h y (List.mem_cons_of_mem _ hy)
  cases hp:p x with
 |true =>
   have hq:=h x (List.mem_cons_self ..) hp
   rw[List.filter_cons_of_neg (by simp[hp]),List.filter_cons_of_pos hp,List.filter_cons_of_neg (by simp[hq])]
   exact List.perm_middle.trans (.cons x ih)
 |false =>
   cases hq:q x with
  |true =>
    rw[List.filter_cons_of_neg (by simp[hq]),List.filter_cons_of_neg (by simp[hp]),List.filter_cons_of_pos hq]
    rw[←List.append_assoc]
    exact List.perm_middle.trans (.cons x (by rw[List.append_assoc];exact ih))
  |false =>
    rw[List.filter_cons_of_pos (by simp[hp,hq]),List.filter_cons_of_neg (by simp[hp]),List.filter_cons_of_neg (by simp[hq]),List.cons_append]
    exact .cons x ih
theorem qg2(rs:List (Rw α β))(w:List α):qat (qat rs w) w=qat rs w:=by
 unfold qat
 rw[List.filter_filter]
 congr 1
 funext r
 exact Bool.and_self _
theorem qji{rs:List (Rw α β)}(nd:(rs.map (·.1)).Nodup){r:Rw α β}(hr:r∈rs):(rs.filter λq=>decide (q.1=r.1))=[r]:=by
 induction rs with
|nil=>cases hr
|cons x rs ih =>
  rw[List.map_cons,List.nodup_cons] at nd
  rcases List.mem_cons.mp hr with rfl|hr
  ·rw[List.filter_cons_of_pos (by simp)]
   congr 1
   refine List.filter_eq_nil_iff.mpr λq hq z=>nd.1 ?_
   rw[←of_decide_eq_true z]
   exact List.mem_map_of_mem hq
  ·have ne:x.1≠r.1:=λe=>nd.1 (by rw[e];exact List.mem_map_of_mem hr)
   rw[List.filter_cons_of_neg (by simpa using ne)]
   exact ih nd.2 hr
theorem qq7{rs:List (Rw α β)}(nd:(rs.map (·.1)).Nodup){r:Rw α β}(hr:r∈rs):(qbh (qat rs r.1) r.1 r.2 (qas rs r.1)).Perm rs:=by
 have e1:qc8 r.1 r.2 (qas rs r.1)=(rs.filter λq=>decide (q.1=r.1))++rs.filter λq=>qa8 q.1 r.1:=by
  rw[qji nd hr]
  unfold qc8 qas
  rw[List.map_map]
  show (r.1,r.2)::_=r::_
  congr 1
  refine((List.map_id _).symm.trans (List.map_congr_left λq hq=>?_)).symm
  show q=(r.1++qbl q.1 r.1 [],q.2)
  rw[qfa (List.mem_filter.mp hq).2]
 have e2:qat rs r.1=rs.filter λq=>!(decide (q.1=r.1)||qa8 q.1 r.1):=by
  unfold qat
  congr 1
  funext q
  rw[qjs]
 unfold qbh
 rw[qg2,e1,e2]
 refine qlw _ _ rs λq hq h=>?_
 have:=of_decide_eq_true h
 rw[this]
 refine Bool.eq_false_iff.mpr λz=>(underB_iff.mp z).2 rfl
end
end L2
namespace L2
open PySem
abbrev qai:Str:="folder"
abbrev qrd:Str:="shut"
abbrev qum:Str:="gone"
abbrev qfu:Str:="file"
abbrev qdk:Str:="link"
abbrev qa1:Str:=""
def inR(p:List Row)(w:List Str):Bool:=decide (w∈p.map (·.1))
def q1s(p:List Row)(w:List Str):Option Str:=(p.find? λr=>decide (r.1=w)).map (·.2.1)
def q43:Option Str->Bool
|none=>false
|some m=>!decide (m=qai)
def q8a(p:List Row)(w:List Str):Bool:=(List.range w.length).any λk=>q43 (q1s p (w.take k))
theorem qxu(p:List Row)(w:List Str):(q1s p w).isSome=inR p w:=by
 unfold q1s inR
 rw[Option.isSome_map]
 by_cases h:w∈p.map (·.1)
 ·rw[decide_eq_true h,List.find?_isSome]
  obtain⟨r,mr,er⟩:=List.mem_map.mp h
  exact⟨r,mr,decide_eq_true er⟩
 ·rw[decide_eq_false h,Bool.eq_false_iff]
  intro q
  rw[List.find?_isSome] at q
  obtain⟨r,mr,er⟩:=q
  exact h (List.mem_map.mpr ⟨r,mr,of_decide_eq_true er⟩)
structure TreeOk(tr:List Row):Prop where
 so:qb7 tr
 cl:∀r∈tr,r.1≠[]/\(r.1.dropLast=[]\/r.1.dropLast∈tr.map (·.1))
structure PaneOk(p:List Row):Prop where
 so:qb7 p
 cl:∀r∈p,r.1=[]\/r.1.dropLast=[]\/∃q∈p,q.1=r.1.dropLast/\q.2.1≠qum
 mr:∀r∈p,(r.2.1=qfu\/r.2.1=qdk)\/(r.2.1=qai/\r.2.2=qa1)\/r.2.1=qrd\/r.2.1=qum
 rt:∀r∈p,r.1=[]->r.2.1=qrd
structure Clo(tr:List Row):Prop where
 so:qb7 tr
 cl:∀r∈tr,r.1=[]\/r.1.dropLast=[]\/r.1.dropLast∈tr.map (·.1)
def thD:Str×Str->D:=λt=>.tup [.str t.1,.str t.2]
def WyOk(w:List Str):Prop:=w.length<=20/\∀z∈w,1<=z.length/\z.length<=12
def Wy14(w:List Str):Prop:=w.length<=14/\∀z∈w,1<=z.length/\z.length<=12
theorem WyOk.ne{w:List Str}(h:WyOk w):("" : Str)∉w:=λm=>by
 have:=(h.2 _ m).1
 have e:("" : Str).length=0:=by decide +kernel
 lia
def prR(r:Row):List Str×D:=(r.1,thD r.2)
theorem ql9(rs:List Row)(w:List Str):lkP (rs.map prR) w=(rs.find? λr=>decide (r.1=w)).map λr=>thD r.2:=by
 unfold lkP
 rw[List.find?_map,Option.map_map]
 rfl
theorem qi1(rs:List Row):(rs.map prR).map (·.1)=rs.map (·.1):=by rw[List.map_map];rfl
theorem qpw:∀(es:List D),(∀e∈es,∃z:Int,e=.int z)->∃cs:List Int,es=cs.map D.int
|[],_=>⟨[],rfl⟩
|e::es,h=>by
  obtain⟨z,rfl⟩:=h e (List.mem_cons_self ..)
  obtain⟨cs,rfl⟩:=qpw es λx hx=>h x (List.mem_cons_of_mem _ hx)
  exact⟨z::cs,rfl⟩
def bulk(p:List Row):Nat:=(p.filter λr=>!decide (r.1=[])).length
def mkOk(r:Row):Prop:=(r.2.1=qfu\/r.2.1=qdk)\/(r.2.1=qai/\r.2.2=qa1)\/r.2.1=qrd\/r.2.1=qum
def FS(m:Str):Prop:=m=qai\/m=qrd
def q4g(rs:List Row)(f:List Str):Prop:=Wy14 f/\(f=[]\/∃q∈rs,q.1=f/\FS q.2.1)
def q76(rs:List Row)(r:Row):Prop:=(r.1=[]/\r.2.1=qrd)\/(r.1≠[]/\Wy14 r.1/\q4g rs r.1.dropLast/\mkOk r)
structure PInv(i:Nat)(rs:List Row)(fs:List (List Str)):Prop where
 nd:(rs.map (·.1)).Nodup
 row:∀r∈rs,q76 rs r
 blk:bulk rs<=i
 len:rs.length<=i+1
 ne:fs≠[]
 fol:∀f∈fs,q4g rs f
 fln:fs.length<=i+1
 nu:∀r∈rs,r.2.1=qum\/r.2.1=qrd->q8a rs r.1=false
def lkR(rs:List Row)(w:List Str):Str×Str:=((rs.find? λr=>decide (r.1=w)).map (·.2)).getD (qa1,qa1)
theorem qd9{rs:List Row}(nd:(rs.map (·.1)).Nodup){r:Row}(h:r∈rs):(rs.find? λq=>decide (q.1=r.1))=some r:=by
 cases e:rs.find? λq=>decide (q.1=r.1) with
|none=>exact absurd (decide_eq_true rfl) (List.find?_eq_none.mp e r h)
|some q =>
  have h1:=List.mem_of_find?_eq_some e
  have h2:q.1=r.1:=of_decide_eq_true (p:=q.1=r.1) (by simpa using List.find?_some e)
  rw[qb9 nd h1 h h2]
theorem qmh{rs:List Row}(nd:(rs.map (·.1)).Nodup){vs:List (List Str)}(hv:vs.Perm (rs.map (·.1)))(hs:vs.Pairwise (λa b=>ltW a b=true)):(vs.map λw=>(w,lkR rs w)).Perm rs/\qb7 (vs.map λw=>(w,lkR rs w)):=by
 constructor
 ·refine(hv.map _).trans (List.Perm.of_eq ?_)
  rw[List.map_map]
  refine(List.map_congr_left λr hr=>?_).trans (List.map_id _)
  show (r.1,lkR rs r.1)=r
  unfold lkR
  rw[qd9 nd hr]
  rfl
 ·show List.Pairwise _ (List.map _ _)
  rw[List.pairwise_map]
  exact hs
theorem qug{rs:List Row}(nd:(rs.map (·.1)).Nodup){w:List Str}(h:w∈rs.map (·.1)):lkP (rs.map prR) w=some (thD (lkR rs w)):=by
 obtain⟨r,mr,rfl⟩:=List.mem_map.mp h
 rw[ql9]
 unfold lkR
 rw[qd9 nd mr]
 rfl
def s6(u:Nat):Nat:=u%99991%9+(u+96542*1)%99991%9+(u+96542*2)%99991%9+(u+96542*3)%99991%9+(u+96542*4)%99991%9+(u+96542*5)%99991%9
end L2
namespace L2
open PySem PySem.Spec PyProof.Rows
section
variable {K:PySem.W.Frag} {B:Hp} {ad:Addr}
end
section
variable {X:Cx} {EX:St->XK} {pos p:Pos} {x y:Str} {es:List Expr} {tA:TVA}
end
end L2
namespace L2
open PySem PySem.Spec PyProof.Rows
structure PaneC(p:List Row):Prop where
 so:qb7 p
 cl:∀r∈p,r.1=[]\/r.1.dropLast=[]\/∃q∈p,q.1=r.1.dropLast/\q.2.1≠qum
section
variable {α:Type} {f:α->D} {τ:VSt} {k:Nat} {g:TVG} {ti:TVT} {te:TV} {Q:R->Prop}
end
def s5(u:Nat):Nat:=u%99991%8+(u+96542*1)%99991%8+(u+96542*2)%99991%8+(u+96542*3)%99991%8+(u+96542*4)%99991%8
theorem v_if{t:TVT}{a b:TVS}{Dv:VEnds}{τ:VSt}(P:Bool->Prop)(ht:∀Y:Bool->Prop,(∀c,P c->Y c)->t τ Y)(ha:P true->a Dv τ)(hb:P false->b Dv τ):vIfS t a b Dv τ :=
 ht _ λc hc=>by
  cases c with
 |true=>exact iteT (ha hc)
 |false=>exact iteF (hb hc)
end L2
namespace L2
open PySem PySem.Spec PyProof.Rows
section
variable {X:Cx} {pins:List (Addr×Obj)} {σ:St} {H:Hp} {s:Shared} {h':Heap}
end
section
variable {X:Cx} {elts:List Expr} {kk:Nat} {tp p pos:Pos}
end
section
variable {X:Cx} {EX:St->XK} {elts:List Expr} {kk:Nat} {tp p pos:Pos} {K:PySem.W.Frag} {B:Hp} {a:Expr} {ta:TV}
end
end L2
namespace L2
open PySem PySem.Spec PyProof.Rows
section
variable {prog:Program} {w:World} {A:Around}
theorem qkl:(toString "max" ++ toString ".loop" : String)="max.loop" := by decide
theorem qoi{R:Result->Shared->Prop}{I S:Addr}{fp wr:List Addr}{n:Nat}{P:Nat->Value->Prop}{St:Nat->Heap->Prop}{kw:List (Str×Value)}(W:Walks prog w A.in1 I fp wr n P St)(bt:Nat->Nat->Bool)(hc:CmpOf prog w A.in1 .Gt P bt)(hS:S∉fp) :
  ∀(k j:Nat) (s:Shared) (b:Value) (c:Nat),j+1+k=n->St (j+1) s.heap->P (argBest bt j) b->s.heap.get? S=some { cls:=.type "list",dict:=none,data:=.seq #[b,b] c,slots:=#[] } ->
  (∀v h' tk,P (argBest bt (n-1)) v->(∀a o,a∉wr->a≠S->s.heap.get? a=some o->h'.get? a=some o)->R (.ok (.ret v)) { s with heap:=h',toks:=tk }) ->
  codeAny (model prog w) A (.builtin "max.loop" ⟨[.ref I,.none,.ref S],kw⟩) R s
|0,j,s,b,c,hk,st,pb,gS,hR=>by
  have nS:S∉wr:=λz=>hS (W.sub _ z)
  have ej:j+1=n:=by lia
  refine codeAny_builtin F.entry_max_loop ?_
  rw[Around.under_plainId F.plain_max_loop _]
  show wpAny _ A.in1 (seqItems? (.ref S) >>= _) _ _ s
  refine wpAny_bind (wpAny_seqItems gS rfl ?_)
  show wpAny _ A.in1 (tryCatch (pyNext (.ref I)) _ >>= _) _ _ s
  refine wpAny_bind (wpAny_tryCatch (W.done s _ _ (by rw[←ej];exact st) λh1 tk k1=>?_))
  have g1:=k1 S _ nS gS
  show wpAny _ A.in1 (updateSeq S (λ_=>#[]) >>= _) _ _ _
  refine wpAny_bind (wpAny_updateSeq g1 rfl (wpAny_bind (wpAny_letGo (wpAny_pure ?_))))
  have ev:argBest bt (n-1)=argBest bt j:=by rw[←ej];rfl
  exact hR b _ tk (by rw[ev];exact pb) λa o ha hne e=>(Heap.get?_update_other _ _ (Ne.symm hne)).trans (k1 a o ha e)
|k+1,j,s,b,c,hk,st,pb,gS,hR=>by
  have nS:S∉wr:=λz=>hS (W.sub _ z)
  refine codeAny_builtin F.entry_max_loop ?_
  rw[Around.under_plainId F.plain_max_loop _]
  show wpAny _ A.in1 (seqItems? (.ref S) >>= _) _ _ s
  refine wpAny_bind (wpAny_seqItems gS rfl ?_)
  show wpAny _ A.in1 (tryCatch (pyNext (.ref I)) _ >>= _) _ _ s
  refine wpAny_bind (wpAny_tryCatch (W.item (j+1) s _ _ (by lia) st λv h1 tk pv st1 k1=>?_))
  have g1:=k1 S _ nS gS
  show wpAny _ A.in1 (tryCatch (holding [v,v] (richCompare .Gt v b >>= _)) _ >>= _) _ _ _
  refine wpAny_bind (wpAny_tryCatch (wpAny_holding (wpAny_bind (hc (j+1) (argBest bt j) v b _ _ _ pv pb ?_))))
  refine wpAny_bind (wpAny_holding (wpAny_truthy_bool (wpAny_bind (wpAny_letGo (wpAny_pure ?_)))))
  cases e:bt (j+1) (argBest bt j) with
 |true =>
   have ea:argBest bt (j+1)=j+1:=by simp only[argBest,e,if_true]
   simp only[if_true]
   refine wpAny_bind (wpAny_updateSeq g1 rfl (wpAny_bind (wpAny_letGo ?_)))
   rw[qkl]
   refine wpAny_pure ⟨plainId_quiet F.plain_max_loop _,qoi W bt hc hS k (j+1) _ v _ (by lia) (W.frame _ _ _ st1 λa ha o q=>(Heap.get?_update_other _ _ (λz:S=a=>hS (by rw[z];exact ha))).trans q) (by rw[ea];exact pv) (Heap.get?_update_self _ g1 rfl) λv' h2 tk2 p2 k2=>?_⟩
   exact hR v' h2 tk2 p2 λa o ha hne q=>k2 a o ha hne ((Heap.get?_update_other _ _ (Ne.symm hne)).trans (k1 a o ha q))
 |false =>
   have ea:argBest bt (j+1)=argBest bt j:=by simp only[argBest,e,Bool.false_eq_true,if_false]
   simp only[Bool.false_eq_true,if_false]
   refine wpAny_bind (wpAny_letGo ?_)
   rw[qkl]
   refine wpAny_pure ⟨plainId_quiet F.plain_max_loop _,qoi W bt hc hS k (j+1) _ b c (by lia) st1 (by rw[ea];exact pb) g1 λv' h2 tk2 p2 k2=>?_⟩
   exact hR v' h2 tk2 p2 λa o ha hne q=>k2 a o ha hne (k1 a o ha q)
theorem qxy{R:Result->Shared->Prop}{I S:Addr}{fp wr:List Addr}{n:Nat}{P:Nat->Value->Prop}{St:Nat->Heap->Prop}{d:Value}{s:Shared}{c:Nat}(W:Walks prog w A.in1 I fp wr n P St)(bt:Nat->Nat->Bool)(hc:CmpOf prog w A.in1 .Gt P bt)(hS:S∉fp)
  (st:St 0 s.heap) (gS:s.heap.get? S=some { cls:=.type "list",dict:=none,data:=.seq #[] c,slots:=#[] })
  (hR:∀v h' tk,(0<n/\P (argBest bt (n-1)) v\/n=0/\v=d)->(∀a o,a∉wr->a≠S->s.heap.get? a=some o->h'.get? a=some o)->R (.ok (.ret v)) { s with heap:=h',toks:=tk }) :
  codeAny (model prog w) A (.builtin "max.loop" ⟨[.ref I,.none,.ref S],[("default",d)]⟩) R s:=by
 have nS:S∉wr:=λz=>hS (W.sub _ z)
 refine codeAny_builtin F.entry_max_loop ?_
 rw[Around.under_plainId F.plain_max_loop _]
 show wpAny _ A.in1 (seqItems? (.ref S) >>= _) _ _ s
 refine wpAny_bind (wpAny_seqItems gS rfl ?_)
 show wpAny _ A.in1 (tryCatch (pyNext (.ref I)) _ >>= _) _ _ s
 rcases Nat.eq_zero_or_pos n with h0|h0
 ·subst h0
  refine wpAny_bind (wpAny_tryCatch (W.done s _ _ st λh1 tk k1=>?_))
  refine wpAny_bind (wpAny_rule (wpAny_pure ?_))
  exact hR d h1 tk (.inr ⟨rfl,rfl⟩) λa o ha _ e=>k1 a o ha e
 ·refine wpAny_bind (wpAny_tryCatch (W.item 0 s _ _ h0 st λv h1 tk pv st1 k1=>?_))
  have g1:=k1 S _ nS gS
  show wpAny _ A.in1 (updateSeq S (λ_=>#[v,v]) >>= _) _ _ _
  refine wpAny_bind (wpAny_updateSeq g1 rfl ?_)
  rw[qkl]
  refine wpAny_pure ⟨plainId_quiet F.plain_max_loop _,qoi W bt hc hS (n-1) 0 _ v _ (by lia) (W.frame _ _ _ st1 λa ha o q=>(Heap.get?_update_other _ _ (λz:S=a=>hS (by rw[z];exact ha))).trans q) pv (Heap.get?_update_self _ g1 rfl) λv' h2 tk2 p2 k2=>?_⟩
  exact hR v' h2 tk2 (.inl ⟨h0,p2⟩) λa o ha hne q=>k2 a o ha hne ((Heap.get?_update_other _ _ (Ne.symm hne)).trans (k1 a o ha q))
theorem q1v(a d:Value):argsOk "max" ⟨[a],[("default",d)]⟩:=by unfold argsOk;kernel_rfl
theorem q1w{E:Value->Shared->Prop}{s:Shared}{l:Addr}{xs:Array (Int×Tok)}{d:Value}{Q:Value->Shared->Prop}(hh:A.handled=none)(hl:s.heap.IsList l (intItems xs))
  (h:∀v h' tk,(0<xs.size/\(intItems xs)[argBest (λi j=>decide (numAt xs i>numAt xs j)) (xs.size-1)]?=some v\/xs.size=0/\v=d)->(∀b o,s.heap.get? b=some o->h'.get? b=some o)->Q v { s with heap:=h',toks:=tk }) :
  wpAny (model prog w) A (call (.builtin "max") [.ref l] [("default",d)]) Q E s:=by
 refine wpAny_call (codeAny_call_builtin F.plain_max F.entry_max ?_)
 simp only[checkBuiltinCall,F.kind_max]
 have go:wpAny (model prog w) A.in1 (Builtin.«max» ⟨[.ref l],[("default",d)]⟩) (λfin s'=>match fin with
  |.done f=>(match (Except.ok f:Result) with|.ok (.ret v)=>Q v s'|.ok _=>False|.error e=>E e s')
   | .again c'=>c'.quiet=true/\codeAny (model prog w) A c' (λr s'=>match r with | .ok (.ret v)=>Q v s' | .ok _=>False | .error e=>E e s') s') E s:=by
  show wpAny _ A.in1 (Builtin.Builtins.bindParams "max" ["key","default"] 0 ⟨[],[("default",d)]⟩ >>= _) _ _ s
  refine wpAny_bind (wpAny_of_eq (show Builtin.Builtins.bindParams "max" ["key","default"] 0 ⟨[],[("default",d)]⟩=pure [none,some d] from rfl) ?_)
  refine wpAny_bind (wpAny_pure ?_)
  refine wpAny_bind (iter_intList hl λs2 e2 st hfp hlI=>?_)
  subst e2
  refine wpAny_bind (wpAny_newObj_type ?_)
  rw[qkl]
  have W:=Walks.list (prog:=prog) (w:=w) (A:=A.in1) hh s.heap.objs.size l hlI (intItems xs)
  refine wpAny_pure ⟨plainId_quiet F.plain_max_loop _,qxy W _ (CmpOf.ints_gt (numAt xs) (λ_ _=>intItems_at)) (λhm=>Nat.lt_irrefl _ (hfp _ hm)) (W.frame _ _ _ st λb _ o e=>Heap.get?_push_of_some _ e) (Heap.get?_push_size _ rfl) λv h' tk hv hk=>?_⟩
  refine h v h' tk (by simpa [intItems] using hv) λb o e=>?_
  have lb:=Heap.lt_size e
  have e1:(s.heap.push { cls:=.type "list_iterator",data:=.fields #[.ref l,.int 0 0] }).get? b=some o:=Heap.get?_push_of_some _ e
  exact hk b o (λhm=>by
   have:=List.mem_singleton.mp hm
   rw[this] at lb
   exact Nat.lt_irrefl _ lb) (Nat.ne_of_lt (Heap.lt_size e1)) (Heap.get?_push_of_some _ e1)
 cases hsig:Manifest.signature? "max" with
|none=>exact wpAny_pure go
|some sig =>
  have ha:=q1v (.ref l) d
  have ha':Bind.checkArgs "max" sig ⟨[.ref l],[("default",d)]⟩=pure ():=by simpa only[argsOk,hsig] using ha
  simp only[ha']
  exact wpAny_pure go
end
theorem qs8(val:Nat->Int):∀k,argBest (λi j=>decide (val i>val j)) k<=k/\∀i,i<=k->val i<=val (argBest (λi j=>decide (val i>val j)) k)
|  0=>⟨Nat.le_refl _,λi hi=>by
   have:i=0:=by lia
   rw[this]
   exact Int.le_refl _⟩
|k+1=>by
  obtain⟨a,b⟩:=qs8 val k
  by_cases h:val (k+1)>val (argBest (λi j=>decide (val i>val j)) k)
  ·have e:argBest (λi j=>decide (val i>val j)) (k+1)=k+1:=by
    show (if decide _=true then _ else _)=_
    rw[decide_eq_true h,if_pos rfl]
   rw[e]
   refine⟨Nat.le_refl _,λi hi=>?_⟩
   rcases Nat.lt_or_ge i (k+1) with q|q
   ·have:=b i (by lia)
    lia
   ·have:i=k+1:=by lia
    rw[this]
    exact Int.le_refl _
  ·have e:argBest (λi j=>decide (val i>val j)) (k+1)=argBest (λi j=>decide (val i>val j)) k:=by
    show (if decide _=true then _ else _)=_
    rw[decide_eq_false h,if_neg Bool.false_ne_true]
   rw[e]
   refine⟨Nat.le_succ_of_le a,λi hi=>?_⟩
   rcases Nat.lt_or_ge i (k+1) with q|q
   ·exact b i (by lia)
   ·have:i=k+1:=by lia
    rw[this]
    lia
theorem qj0:∀ {ns:List Int} {its:List Value},Vals (ns.map V.int) its->∃ps:List (Int×Tok),its=ps.map (λp=>Value.int p.1 p.2)/\ps.map (·.1)=ns
|[],its,r=>by
  have:=r.zero
  subst this
  exact⟨[],rfl,rfl⟩
|n::ns,its,r=>by
  cases r with
 |cons r1 r2 =>
   obtain⟨t,rfl⟩:=r1
   obtain⟨ps,rfl,e⟩:=qj0 r2
   exact⟨(n,t)::ps,rfl,by rw[List.map_cons,e]⟩
section
variable {X:Cx} {p kp pos:Pos} {a d:Expr}
end
theorem qjt{K:PySem.W.Frag}{B:Hp}:∀ {ns:List Int} {xs:List V},Reps K B (ns.map D.int) xs->xs=ns.map V.int
|[],xs,r=>by
  have:Reps K B [] xs:=r
  unfold Reps at this
  exact this
|n::ns,xs,r=>by
  have r':Reps K B (.int n::ns.map D.int) xs:=r
  unfold Reps at r'
  obtain⟨x,xs',rfl,r1,r2⟩:=r'
  unfold Rep at r1
  rw[r1,qjt r2]
  rfl
section
variable {X:Cx} {EX:St->XK} {p kp pos cp:Pos} {a:Expr} {te:TV} {j:Nat}
end
end L2
namespace L2
open PySem PySem.Spec PyProof.Rows
section
variable {X:Cx} {EX:St->XK} {pos pos' p apos cpos:Pos} {x y:Str} {e:Expr}
def qv3(j i:Nat):TVS:=λDv τ=>ownL τ i λds=>match ds with
|d::rest=>Dv.nx ((τ.set i (some (.own (.lst rest)))).set j (some (.val d)))
|[]=>False
theorem q38{j i:Nat}(hnd:X.N.Nodup)(hj:X.N[j]?=some x)(hx:Loc X.env.scope x)(h:VE X EX e (vC (.int 0)))(hN:X.N[i]?=some y:=by rfl)(hv:Vis X.env.scope y:=by first|exact Or.inl rfl|exact Or.inr (Or.inl rfl)|exact Or.inr (Or.inr rfl))(hd:(y==("__debug__" : Str))=false:=by decide)
  (hcd:(y==("__classdict__" : Str))=false:=by decide) (hp:qav e=true:=by rfl)
  (hbase:attributeBase (.Name y p) "pop" X.env (eval (.Name y p) X.env)=eval (.Name y p) X.env:=by rfl) (hline:(apos.endLine==cpos.line)=true:=by rfl)
  (hs:swapsWith (.Call (.Attribute (.Name y p) "pop" apos) [e] [] cpos) (some (.Name x pos')) pos.line X.env=pure false:=by rfl)
  (hf:X.fn x=true\/X.env.scope.names.lookup x=some .local:=by first|exact .inl rfl|exact .inr rfl|assumption) :
  VS X EX (.Assign [.Name x pos'] (.Call (.Attribute (.Name y p) "pop" apos) [e] [] cpos) pos) (qv3 j i) :=
 let ⟨_,a1,a2⟩:=h.u;⟨_,qme hnd hj hx (qbm PySem.F.plainAttrs_list PySem.F.slot_list_pop PySem.F.type_list_pop qxw (qv i hN hv hd hcd) (qac a1 qdi hp) (by simp[hp]) rfl hbase hline) hs hf,λB0 H0 B H τ σ Dv Dh p S h E=>by
  obtain⟨ds,ad,xs,e1,h,e2,e3,_⟩:=S.ownL h
  cases ds with
 |nil=>exact h.elim
 |cons d0 rest =>
  refine⟨.ref ad,e2,.inl ⟨rfl,xs,SqL.of e3⟩,a2 H0 B H τ σ _ (λr=>r=.val (.int 0)) p.s S rfl (λn C B' H' _ _ z=>by cases z) λr v B' H' q hr hq=>?_⟩
  subst hq
  have ev:v=.int 0:=hr.pk.scal (z:=.int 0) rfl
  subst ev
  have S2:=S.step q
  obtain⟨a',q1,_,_,xs2,q4,q3⟩:=S2.own i _ e1
  rw[e2] at q1
  cases q1
  have hl:=q3.length
  unfold Reps at q3
  obtain⟨w,xs3,rfl,r1,r2⟩:=q3
  refine⟨ad,w::xs3,0,0,w,rfl,rfl,q4,by decide,by decide,?_,rfl,?_⟩
  ·rw[seqIndex_of (by decide) (by rw[List.length_cons];lia)]
   rfl
  ·obtain⟨p3,S3⟩:=S2.lst (p.trans q) e1 e2 r2
   exact E.nx B' _ _ _ p3 (S3.setVal j r1) h⟩
end
end L2
namespace L2
open PySem PySem.Spec PyProof.Rows
section
variable {X:Cx} {pins:List (Addr×Obj)} {σ:St} {H:Hp} {s:Shared} {tg:Expr}
theorem Inv.frzD{a:Addr}{kvs:List (List Key×V)}(I:Inv X pins σ H s)(e:H a=some (.dT kvs)):∃o,Inv X pins σ (upd H a (.frz o (.dT kvs))) s:=by
 have ok:ObjOk X.prog X.w H s.heap a (.dT kvs):=I.hok a _ e
 obtain⟨_,_,_,_,o,es,ep,h1,_⟩:=id ok
 have nt:∀c xs,H c=some (.tup xs)->c≠a:=λc xs q z=>by rw[z,e] at q;cases q
 have no:∀c,H c=some (.own a)->c≠a:=λc q z=>by rw[z,e] at q;cases q
 refine⟨o,I.write (x:=a) (e:=a) (t':=s.toks) (h':=s.heap) (by rw[e];exact trivial) (.inl rfl) (λ_ _ _ q=>q) ⟨o,h1⟩ ⟨h1,ok.stay (λ_ _ _ q=>q) (λc q=>by rw[qau (no c q)];exact q) λc xs q=>by rw[qau (nt c xs q)];exact q⟩⟩
def Itf(a:Addr)(o:Obj)(kvs:List (List Key×V)):It :=
 ⟨λi H=>H a=some (.frz o (.dT kvs))/\i<kvs.length,λi H x H'=>H'=H/\∃(b:Addr) (k:List Key),x=.ref b/\kvs[i]?.map (·.1)=some k/\H b=some (.tup (k.map kV)),λi H=>H a=some (.frz o (.dT kvs))/\kvs.length<=i⟩
theorem qp9{h:Heap}{a:Addr}{o:Obj}{es es':Array DictEntry}{ep ep':Nat}(x:RawD h a es' ep')(h1:h.get? a=some o)(hd:o.data=.dict es ep):ep'=ep:=by
 obtain⟨o',e1,_,e2⟩:=x
 rw[h1] at e1
 cases e1
 rw[hd] at e2
 cases e2
 rfl
theorem qsa{P:Program}{w:World}{K:PySem.W.Frag}(a it:Addr)(o:Obj)(kvs:List (List Key×V)){es:Array DictEntry}{ep:Nat}(hd:o.data=.dict es ep):Turn P w K tg (Itf a o kvs) [it] it (λi h=>h.IsKeyIter it a i kvs.length ep) where
 mem:=by simp
 obj:=λi h st b hb=>by
  have e:b=it:=by simpa using hb
  subst e
  obtain⟨o,e,c,d⟩:=st
  exact⟨o,e,λv z=>by rw[d] at z;cases z⟩
 keep:=λi h h' st k=>st.at λo e=>k it (by simp) o e
 item:=by
  intro X hP hw hK hc i pins s σ H E I hf st hg
  subst hP hw hK
  obtain⟨ha,hi⟩:=hg
  obtain⟨z,no,es',ep',raw,hs,hk⟩:=qlu I.hok (.inr ⟨o,ha⟩)
  have h1:s.heap.get? a=some o:=(I.hok a _ ha).1
  have ee:=qp9 raw h1 hd
  subst ee
  have lt:i<es'.size:=by rw[hs];exact hi
  have ek:es'[i]?.map (·.key)=some es'[i].key:=by rw[Array.getElem?_eq_getElem lt];rfl
  obtain⟨b,k,eb,e1,e2⟩:=hk i _ ek
  obtain⟨f0,f1,f2,f3,f4,f5⟩:=hf it (by simp)
  rw[←hs] at st
  refine qp7 st raw ek λh' st' sb=>?_
  have I1:Inv X pins σ H { s with heap:=h' }:=I.turned (t':=s.toks) (λb o hb e=>(sb.2 b hb).trans e) f0 f1 f3 f4 f5
  obtain⟨oi,e,c,d⟩:=id st'
  rw[hs] at st'
  rw[eb]
  exact⟨_,rfl,qq6 (s:={ s with heap:=h' }) e c d (by decide) ⟨.ref b,H,I1,rfl,⟨rfl,b,k,rfl,e1,e2⟩,st',λb hb=>(hf b hb).1⟩⟩
 done:=by
  intro X hP hw hK hc i pins s σ H E I hf st hg
  subst hP hw hK
  obtain⟨ha,hi⟩:=hg
  obtain⟨z,no,es',ep',raw,hs,hk⟩:=qlu I.hok (.inr ⟨o,ha⟩)
  have h1:s.heap.get? a=some o:=(I.hok a _ ha).1
  have ee:=qp9 raw h1 hd
  subst ee
  obtain⟨f0,f1,f2,f3,f4,f5⟩:=hf it (by simp)
  rw[←hs] at st
  exact qve (I.ok.hd hc) st raw (by rw[hs];exact hi) λh' eb=>⟨rfl,I.turned (t':=s.toks) (λb o hb e=>eb b o hb e) f0 f1 f3 f4 f5⟩
 self:=λ_ _ _ _ _ st h=>wpAny_pyIter_keyiter st h
def qz3(tl:TE):TI:=λσ H R=>tl σ H λx H1=>∃a o kvs,x=.ref a/\H1 a=some (.frz o (.dT kvs))/\R (Itf a o kvs) H1
theorem qyj{l:Expr}{tl:TE}(hl:PE X l tl):PI X tg l (qz3 tl):=by
 intro pins s σ H R I h
 refine thn (hl pins s σ H _ I h) λv s1 ⟨x,H1,I1,r1,q1⟩=>?_
 obtain⟨a,o,kvs,rfl,ha,q⟩:=q1
 cases r1
 obtain⟨z,no,es,ep,raw,hs,hk⟩:=qlu I1.hok (.inr ⟨o,ha⟩)
 have h1:s1.heap.get? a=some o:=(I1.hok a _ ha).1
 have hd:o.data=.dict es ep:=by
  obtain⟨o',e1,_,e2⟩:=raw
  rw[h1] at e1
  cases e1
  exact e2
 refine qp8 no raw ?_
 refine⟨s1.heap.objs.size,[s1.heap.objs.size],_,_,H1,rfl,I1.kept (t':=s1.toks) λb o e=>Heap.get?_push_of_some _ e,qsa a _ o kvs hd,⟨_,Heap.get?_push_size _ rfl,rfl,by rw[hs];rfl⟩,λb hb=>?_,q⟩
 have e:b=s1.heap.objs.size:=by simpa using hb
 subst e
 exact I1.fpOk (Nat.le_refl _) (I1.hok.fresh (Nat.le_refl _))
theorem qyv{l:Expr}{tl:TE}(hl:QE X l tl):QI X tg l (qz3 tl):=⟨qyj hl.u⟩
end
section
variable {X:Cx} {EX:St->XK} {K:PySem.W.Frag} {B H:Hp} {tg:Expr} {x:Str} {pos:Pos} {rest:List Stmt} {t:TVS}
def q9j(i:Nat)(t:TVS):TVS:=λDv τ=>match τ[i]? with
|some (some (.own (.dT ks ds)))=>t Dv (τ.set i (some (.peek (.dT ks ds))))
|_=>False
theorem q3g{w:List Str}{b:Addr}(h:B b=some (.tup (w.map V.str))):Rep K B (.tup (w.map D.str)) (.ref b):=by
 unfold Rep
 exact⟨b,_,rfl,.inl h,qfw w⟩
theorem qxh{a:Addr}{o:Obj}{kvs:List (List Key×V)}{ks:List (List Str)}(h:B a=some (.frz o (.dT kvs)))(hk:kvs.map (·.1)=ks.map wK):ItOk K B (Itf a o kvs) (ks.map λw=>.tup (w.map D.str)):=λi B2 H sb s2=>by
 have hl:kvs.length=ks.length:=by simpa using congrArg List.length hk
 have hH:H a=some (.frz o (.dT kvs)):=s2 _ _ (sb _ _ h)
 refine⟨λd e=>?_,λe=>⟨hH,?_⟩⟩
 ·rw[List.getElem?_map] at e
  obtain⟨w,ew,rfl⟩:=Option.map_eq_some_iff.mp e
  have lt:=(List.getElem?_eq_some_iff.mp ew).1
  refine⟨⟨hH,by lia⟩,λx H' q=>?_⟩
  obtain⟨rfl,b,k,rfl,e1,e2⟩:=q
  have ek:k=wK w:=by
   have:(kvs.map (·.1))[i]?=(ks.map wK)[i]?:=by rw[hk]
   rw[List.getElem?_map,List.getElem?_map,e1,ew] at this
   exact Option.some.inj this
  subst ek
  rw[qm1] at e2
  refine⟨_,Stp.tups s2 [b] (λc hc=>by rw[List.mem_singleton.mp hc];exact⟨_,e2⟩),q3g ?_⟩
  show (if b∈[b] then H' b else B2 b)=_
  rw[if_pos (by simp)]
  exact e2
 ·have:=List.getElem?_eq_none_iff.mp e
  rw[List.length_map] at this
  lia
def qgn(i:Nat):TVA:=λτ Q=>match τ[i]? with
|some (some (.peek (.dT ks _)))=>Q (.ok (ks.map λw=>.tup (w.map D.str)))
|_=>False
theorem qzm(i:Nat)(hN:X.N[i]?=some x:=by rfl)(hv:Vis X.env.scope x:=by first|exact Or.inl rfl|exact Or.inr (Or.inl rfl)|exact Or.inr (Or.inr rfl))(hd:(x==("__debug__" : Str))=false:=by decide)
  (hcd:(x==("__classdict__" : Str))=false:=by decide):VI X EX tg (.Name x pos) (qgn i):=⟨_,qyv (qv i hN hv hd hcd),λH0 B H τ σ Q Qd s S h xc k=>by
  unfold qgn at h
  split at h
  ·rename_i ks ds e
   obtain⟨v,q,a,ks',ds',kvs,o,e1,rfl,e3,e4,e5⟩:=S.fz i _ e
   cases e1
   exact⟨.ref a,q,a,o,kvs,rfl,s _ _ e3,k _ _ B H (.refl s) (qxh e3 e4) h⟩
  ·exact h.elim⟩
end
end L2
namespace L2
open PySem PySem.Spec PyProof.Rows
section
variable {X:Cx}
end
section
variable {X:Cx} {EX:St->XK} {pos pos' p apos cpos:Pos} {x:Str} {e:Expr} {es:List Expr} {te:TV} {tA:TVA} {K:PySem.W.Frag} {B B' H H0:Hp} {τ:VSt} {σ:St}
end
end L2
namespace L2
open PySem PySem.Spec PyProof.Rows
section
variable {X:Cx} {pins:List (Addr×Obj)} {σ:St} {H:Hp} {s:Shared} {st:Stmt} {rest:List Stmt}
theorem Inv.unfD{a:Addr}{o:Obj}{kvs:List (List Key×V)}(I:Inv X pins σ H s)(e:H a=some (.frz o (.dT kvs)))(nb:∀ob u,X.H₀ a≠some (.frz ob u)):Inv X pins σ (upd H a (.dT kvs)) s:=by
 have ne:∀b,H b=none->b≠a:=λb q z=>by rw[z,e] at q;cases q
 have nt:∀b xs,H b=some (.tup xs)->b≠a:=λb xs q z=>by rw[z,e] at q;cases q
 have no:∀b c,H b=some (.own c)->b≠a:=λb c q z=>by rw[z,e] at q;cases q
 refine⟨I.ok,I.os,I.bare,⟨I.base.keep,I.base.slot,λb ob q n hx=>?_,I.base.there,λb xs q=>?_,λb ob u q=>?_,λb ps q=>?_⟩,I.loc,I.cell,?_,λx c q=>?_,λp hp=>?_,λb u q=>?_,I.len⟩
 ·have:=I.base.free b ob q n hx
  rw[qau (ne b this)]
  exact this
 ·have:=I.base.tups b xs q
  rw[qau (nt b xs this)]
  exact this
 ·rw[qau (λz=>nb ob u (by rw[←z];exact q))]
  exact I.base.frzs b ob u q
 ·obtain⟨more,z⟩:=I.base.tbls b ps q
  exact⟨more,by rw[qau (λy=>by rw[y,e] at z;cases z)];exact z⟩
 ·rw[qau (ne _ I.free)]
  exact I.free
 ·rw[qau (ne _ (I.freeC x c q))]
  exact I.freeC x c q
 ·obtain⟨h1,h2,h3⟩:=I.pin p hp
  exact⟨h1,by rw[qau (ne _ h2)];exact h2,h3⟩
 ·have hs:∀u,ObjOk X.prog X.w H s.heap b u->ObjOk X.prog X.w (upd H a (.dT kvs)) s.heap b u:=λu k=>k.stay (λ_ _ _ z=>z) (λc z=>by rw[qau (no c b z)];exact z) λc xs z=>by rw[qau (nt c xs z)];exact z
  by_cases z:b=a
  ·subst z
   rw[qa6] at q
   cases q
   exact hs _ (I.hok b _ e).2
  ·rw[qau z] at q
   exact hs _ (I.hok b _ q)
def q7g(i:Nat)(t u:TS):TS:=λD σ H=>∃a kvs,σ[i]?=some (some (.ref a))/\H a=some (.dT kvs)/\∀o,t { nx:=λσ' H'=>H' a=some (.frz o (.dT kvs))/\u D σ' (upd H' a (.dT kvs)),rt:=λ_ _=>False } σ (upd H a (.frz o (.dT kvs)))
theorem qvc{t u:TS}(i:Nat)(h1:QS X st t)(h2:QSs X rest u):QSs X (st::rest) (q7g i t u):=⟨λpins s σ H D I ⟨a,kvs,_,e2,k⟩=>by
 obtain⟨o,I2⟩:=Inv.frzD I e2
 have nb:∀ob v,X.H₀ a≠some (.frz ob v):=λob v z=>by
  have:=I.base.frzs a ob v z
  rw[e2] at this
  cases this
 refine wpAny_execs_cons (thn (h1.u pins s σ _ _ I2 (k o)) λf s1 q=>?_)
 cases f with
|next =>
  obtain⟨σ',H',I',q1,q2⟩:=q
  exact h2.u pins s1 σ' _ D (Inv.unfD I' q1 nb) q2
|ret v =>
  obtain⟨_,_,_,_,_,z⟩:=q
  exact z.elim
|brk =>
  obtain⟨_,_,_,z⟩:=q
  exact z.elim
|cont =>
  obtain⟨_,_,_,z⟩:=q
  exact z.elim⟩
end
section
variable {X:Cx} {EX:St->XK} {K:PySem.W.Frag} {B B' H H0:Hp} {τ:VSt} {σ:St} {x:Str} {e:Expr} {te:TV} {rest:List Stmt} {u:TVS} {pos pos':Pos}
theorem qr3{i:Nat}{a:Addr}{o:Obj}{ks:List (List Str)}{ds:List D}{kvs:List (List Key×V)}(S:Slots K H0 B H τ σ)(e:τ[i]?=some (some (.own (.dT ks ds))))(q:σ[i]?=some (some (.ref a)))(hb:B a=none)(e2:kvs.map (·.1)=ks.map wK)(e3:Reps K B ds (kvs.map (·.2))) :
  Slots K H0 (upd B a (.frz o (.dT kvs))) (upd H a (.frz o (.dT kvs))) (τ.set i (some (.peek (.dT ks ds)))) σ:=by
 have sb:=qaw hb (HO.frz o (.dT kvs))
 refine⟨by rw[List.length_set,S.len],λj f q'=>?_,λj f q'=>?_,λj f q'=>?_,λj k f g c q1 q2 q3 q4=>?_⟩
 ·rcases qbd q' with ⟨rfl,z,l⟩|⟨n,q'⟩
  ·cases z
  ·obtain⟨w,q1,r⟩:=S.val j f q'
   exact⟨w,q1,r.same sb⟩
 ·rcases qbd q' with ⟨rfl,z,l⟩|⟨n,q'⟩
  ·cases z
   exact⟨_,q,a,ks,ds,kvs,o,rfl,rfl,qa6,e2,e3.same sb⟩
  ·obtain⟨w,q1,r⟩:=S.fz j f q'
   exact⟨w,q1,r.same sb⟩
 ·rcases qbd q' with ⟨rfl,z,l⟩|⟨n,q'⟩
  ·cases z
  ·obtain⟨c,q1,h0',hb',w⟩:=S.own j f q'
   have ne:c≠a:=λz=>by subst z;exact n (S.sep i j _ f c e q' q q1)
   exact⟨c,q1,h0',by rw[qau ne];exact hb',w.step sb (qau ne)⟩
 ·rcases qbd q1 with ⟨rfl,z,l⟩|⟨n,q1⟩
  ·cases z
  rcases qbd q2 with ⟨rfl,z,l⟩|⟨n2,q2⟩
  ·cases z
  exact S.sep j k f g c q1 q2 q3 q4
def NoDt(d:D):Prop:=∀(K:PySem.W.Frag) (B B':Hp) (v:V),(∀a o,B a=some o->(∀ob u,o≠.frz ob u)->B' a=some o)->Rep K B d v->Rep K B' d v
theorem NoDt.all{ds:List D}(h:∀d∈ds,NoDt d)(k:∀a o,B a=some o->(∀ob u,o≠.frz ob u)->B' a=some o):∀ {xs:List V},Reps K B ds xs->Reps K B' ds xs:=by
 induction ds with
|nil=>intro xs r;unfold Reps at r ⊢;exact r
|cons d ds ih =>
  intro xs r
  unfold Reps at r ⊢
  obtain⟨x,t,rfl,r1,r2⟩:=r
  exact⟨x,t,rfl,h d (List.mem_cons_self ..) K B B' x k r1,ih (λd m=>h d (List.mem_cons_of_mem _ m)) r2⟩
theorem qx3(z:Str):NoDt (.str z):=λ_ _ _ _ _ r=>by unfold Rep at r ⊢;exact r
theorem qx4{ds:List D}(h:∀d∈ds,NoDt d):NoDt (.tup ds):=λK B B' v k r=>by
 unfold Rep at r ⊢
 obtain⟨a,xs,rfl,t,r⟩:=r
 exact⟨a,xs,rfl,t.elim (λq=>.inl (k a _ q λ_ _ z=>by cases z)) .inr,NoDt.all h k r⟩
theorem qx2{ds:List D}(h:∀d∈ds,NoDt d):NoDt (.lst ds):=λK B B' v k r=>by
 unfold Rep at r ⊢
 obtain⟨a,xs,rfl,t,r⟩:=r
 exact⟨a,xs,rfl,k a _ t (λ_ _ z=>by cases z),NoDt.all h k r⟩
theorem qup(ws:List (List Str)):NoDt (.lst (ws.map λw=>.tup (w.map D.str))):=qx2 λd m=>by
 obtain⟨w,_,rfl⟩:=List.mem_map.mp m
 exact qx4 λd m=>by
  obtain⟨z,_,rfl⟩:=List.mem_map.mp m
  exact qx3 z
def qmr(i j:Nat)(te:TV)(u:TVS):TVS:=λDv τ=>match τ[i]? with
|some (some (.own (.dT ks ds)))=>te (τ.set i (some (.peek (.dT ks ds)))) λr=>pubR r λd=>NoDt d/\u Dv (τ.set j (some (.val d)))
|_=>False
end
end L2
namespace L2
open PySem PySem.Spec PyProof.Rows
section
variable {X:Cx} {EX:St->XK} {pos p cpos:Pos} {x y:Str} {e:Expr} {es:List Expr} {tA:TVA} {K:PySem.W.Frag} {B B' H H0:Hp} {τ:VSt} {σ:St}
end
end L2
namespace L2
open PySem PySem.Spec PyProof.Rows
section
variable {X:Cx} {elts:List Expr} {kk:Nat} {tp p pos:Pos}
end
section
variable {X:Cx} {EX:St->XK} {elts:List Expr} {kk:Nat} {tp p pos:Pos} {K:PySem.W.Frag} {B:Hp} {a b:Expr} {ta tb:TV}
end
section
variable {X:Cx} {EX:St->XK}
end
end L2
namespace L2
open PySem PySem.Spec PyProof.Rows Builtin.Str
section
variable {X:Cx}
abbrev TJ:=St->Hp->Str->VK->Prop
structure QJ(X:Cx)(vs:List Expr)(t:TJ):Prop where
 u:∀(pins:List (Addr×Obj)) (s:Shared) (σ:St) (H:Hp) (out:Str) (Q:VK),Inv X pins σ H s->t σ H out Q->wpAny (model X.prog X.w) X.A (joinParts out (evalEach vs X.env)) (EP X pins σ Q) X.xe s
end
section
variable {X:Cx} {EX:St->XK} {K:PySem.W.Frag} {o e e1 e2:Expr} {to te t1 t2:TV} {apos cpos p pos:Pos} {x:Str} {rest:List Expr}
abbrev TVJ:=VSt->Str->(R->Prop)->Prop
def RfJ(K:PySem.W.Frag)(t:TJ)(u:TVJ):Prop:=∀(H0 B H:Hp) (τ:VSt) (σ:St) (out:Str) (Q:VK) (Qd:R->Prop),Same B H->Slots K H0 B H τ σ->u τ out Qd->(∀r v B' H',Stp B H B' H'->RepR K B' H H' r v->Qd r->Q v H')->t σ H out Q
structure VJ(X:Cx)(EX:St->XK)(vs:List Expr)(t:TVJ):Prop where
 u:∃tj,QJ X vs tj/\RfJ X.K tj t
end
end L2
namespace L2
open PySem PySem.Spec PyProof.Rows
section
variable {X:Cx} {EX:St->XK} {K:PySem.W.Frag} {B H H0:Hp} {e:Expr} {t:TV} {τ:VSt} {σ:St}
end
end L2
namespace L2
open PySem PySem.Spec PyProof.Rows
def hidH(H:Hp)(c:Addr):Hp:=λb=>if b=c then none else H b
theorem qhy{H:Hp}{b c:Addr}(n:b≠c):hidH H c b=H b:=if_neg n
theorem qz2{H:Hp}{c:Addr}:hidH H c c=none:=if_pos rfl
theorem qxd{H:Hp}{c:Addr}:Same (hidH H c) H:=λb o e=>by
 by_cases z:b=c
 ·subst z
  rw[qz2] at e
  cases e
 ·rw[qhy z] at e
  exact e
section
variable {X:Cx} {EX:St->XK} {K:PySem.W.Frag} {B H B' H' H0 B0 B1 H1:Hp} {st:Stmt} {rest:List Stmt} {t u:TVS} {e a:Expr} {te ta:TV} {tT:TVT} {tA:TVA} {es:List Expr} {pos pos' p p2 apos cpos:Pos} {x y:Str} {τ:VSt} {σ:St} {r:R} {v:V}
theorem q5t{c ad:Addr}{ds:List D}(h:OwnAt K B H (.io c ds) ad):ad=c/\∃xs,H ad=some (.lst xs)/\Reps K B ds xs:=let ⟨xs,e,z,r⟩:=h;⟨z,xs,e,r⟩
theorem q2d{c ad:Addr}{e:D}(h:OwnAt K B H e ad)(ha:ioA e=some c):ad=c:=by
 cases e with
|io c' ds=>cases ha;exact(q5t h).1
|ioT c' ks ds=>cases ha;obtain⟨_,_,z,_⟩:=h;exact z
|_=>cases ha
def qsf(te:TV):TVS:=λDv τ=>te τ λr=>exS τ Dv r (pubR r λ_=>Dv.ro τ r)
theorem qwa(h:VE X EX e te):VS X EX (.Return (some e) pos) (qsf te) :=
 let ⟨_,a1,a2⟩:=h.u;⟨_,qvb a1,λB0 H0 B H τ σ Dv Dh p S h E=>a2 H0 B H τ σ _ _ p.s S h (E.raised p S) λr v B' H' q hr hq=>by
  cases r with
 |val d=>exact E.ro (.val d) v B' H' τ σ (p.trans q) (S.step q) hr (λ_ _ _ _ z=>by cases z) hq
 |own d =>
   refine E.ro (.own d) v B' H' τ σ (p.trans q) (S.step q) (hr.back p.h) (λ_ _ i c _ e ha z=>?_) hq
   obtain⟨ad,rfl,hn,_⟩:=hr
   cases z
   obtain⟨a',_,_,_,ow⟩:=S.own i _ e
   have:=ow.some
   rw[q2d ow ha] at this
   exact this hn
 |peek d=>exact hq.elim
  | exc n=>exact hr.elim⟩
def RfAI(K:PySem.W.Frag)(EX:St->XK)(te:TA)(t:TVA)(k j:Nat):Prop:=∀(H0 B H:Hp) (τ:VSt) (σ:St) (Q:List V->Hp->Prop) (Qd:AR->Prop),Same B H->Slots K H0 B H τ σ->(∃c ps,τ[j]?=some (some (R.own (.io c ps))))->t τ Qd->(∀n C B' H',Stp B H B' H'->clsOf K n C->Qd (.exc n)->EX σ (.ref C) none H') ->
 (∀ds vs B' H' ad,Stp B H B' H'->k<=vs.length->σ[j]?=some (some (.ref ad))->Reps K B' ds vs->Qd (.ok ds)->Q (vs.insertIdx k (.ref ad)) H')->te σ H Q
structure VAI(X:Cx)(EX:St->XK)(es:List Expr)(t:TVA)(k j:Nat):Prop where
 u:∃te,QA X es te/\RfAI X.K EX te t k j
abbrev DPI:=List D->List D->(R->List D->Prop)->Prop
def q1g(k:Nat)(c:Addr)(τ:VSt)(P:List D->Prop):Prop:=match τ[k]? with
|some (some (.own (.io c' ps)))=>c'=c/\P ps
|_=>False
def qvq(N:List Str)(k:Nat)(c:Addr)(ds ps:List D):VSt:=(ds.map λd=>some (R.val d)).insertIdx k (some (.own (.io c ps)))++List.replicate (N.length-(ds.length+1)) none
theorem Slots.consV{d:D}(S:Slots K H0 B H τ σ)(h:Rep K B d v):Slots K H0 B H (some (.val d)::τ) (some v::σ):=by
 refine⟨by have:=S.len;simp[this],λi f e=>?_,λi f e=>?_,λi f e=>?_,λi j f g ad e1 e2 e3 e4=>?_⟩
 ·cases i with
 |zero=>simp at e;subst e;exact⟨v,rfl,h⟩
 |succ i=>simpa using S.val i f (by simpa using e)
 ·cases i with
 |zero=>simp at e
 |succ i=>simpa using S.fz i f (by simpa using e)
 ·cases i with
 |zero=>simp at e
 |succ i=>simpa using S.own i f (by simpa using e)
 ·cases i with
 |zero=>simp at e1
 |succ i =>
   cases j with
  |zero=>simp at e2
  |succ j =>
    rw[S.sep i j f g ad (by simpa using e1) (by simpa using e2) (by simpa using e3) (by simpa using e4)]
theorem Slots.consO{d:D}{ds:List D}{c:Addr}(S:Slots K H0 B H (ds.map λd=>some (R.val d)) σ)(h0:H0 c=none)(hb:B c=none)(o:OwnAt K B H d c):Slots K H0 B H (some (.own d)::ds.map λd=>some (R.val d)) (some (.ref c)::σ):=by
 refine⟨by have:=S.len;simp[this],λi f e=>?_,λi f e=>?_,λi f e=>?_,λi j f g ad e1 e2 e3 e4=>?_⟩
 ·cases i with
 |zero=>simp at e
 |succ i=>simpa using S.val i f (by simpa using e)
 ·cases i with
 |zero=>simp at e
 |succ i=>simp at e
 ·cases i with
 |zero=>simp at e;subst e;exact⟨c,rfl,h0,hb,o⟩
 |succ i=>simp at e
 ·cases i with
 |zero =>
   cases j with
  |zero=>rfl
  |succ j=>simp at e2
 |succ i=>simp at e1
theorem Stp.lent{c:Addr}(p:Stp B0 H0 B1 H1)(h0:H0 c=none)(q:Stp B1 (hidH H1 c) B' H')(hb:B' c=none):Stp B0 H0 B' H' :=
 ⟨p.b.trans q.b,λb o e=>by
  have n:b≠c:=λz=>by rw[z,h0] at e;cases e
  exact q.h _ _ (by rw[qhy n];exact p.h _ _ e),q.s,λb z=>by
  have n:b≠c:=λw=>by rw[w] at z;exact z hb
  rcases q.d b z with w|w|⟨xs,w⟩
  ·exact p.d b w
  ·rw[qhy n] at w
   exact .inr (.inl (p.h.free w))
  ·rw[qhy n] at w
   cases e:H0 b with
  |none=>exact .inr (.inl rfl)
  |some o =>
    rw[p.h _ _ e] at w
    exact .inr (.inr ⟨xs,w⟩)⟩
theorem pubI{c:Addr}{Hh:Hp}{Q:D->Prop}(q:Stp B1 Hh B' H')(hc:B' c=none)(h:RepR K B' Hh H' r v)(ne:∀d,r=.own d->v≠.ref c)(hq:pubR r Q):∃d B2,Stp B1 Hh B2 H'/\Same B' B2/\B2 c=none/\Rep K B2 d v/\Q d:=by
 cases r with
|val d=>exact⟨d,B',q,Same.refl _,hc,h,hq⟩
|own d =>
  have ne':=ne d rfl
  obtain⟨ad,rfl,h0,hb,o⟩:=h
  obtain⟨u,e,rp⟩:=o.pub hb
  have n:c≠ad:=λz=>ne' (by rw[z])
  refine⟨d,upd B' ad u,⟨q.b.trans (qaw hb _),q.h,qip q.s e,λb z=>?_⟩,qaw hb _,by rw[qau n];exact hc,rp,hq⟩
  by_cases w:b=ad
  ·exact .inr (.inl (w▸h0))
  ·rw[qau w] at z
   exact q.d b z
|peek d=>exact hq.elim
|exc n=>exact hq.elim
def qml(g:DPI)(j:Nat)(tA:TVA)(τ:VSt)(k:D->VSt->Prop):Prop:=match τ[j]? with
|some (some (.own (.io c ps)))=>tA τ λa=>match a with
 |.ok ds=>g ds ps λr qs=>pubR r λd=>k d (τ.set j (some (.own (.io c qs))))
 |.exc _=>False
|_=>False
def qv5(i:Nat)(g:DPI)(j:Nat)(tA:TVA):TVS:=λDv τ=>qml g j tA τ λd τ'=>Dv.nx (τ'.set i (some (.val d)))
def q3x(g:DPI)(j:Nat)(tA:TVA)(tg:TVG):TVS:=λDv τ=>qml g j tA τ λd τ'=>tg d τ' Dv.nx
end
section
variable {K:PySem.W.Frag} {x qual:Str} {st:Stmt} {f:Addr} {fd:FuncData} {ps:List Str}
theorem qcx{α:Type}{us:List α}{n:Nat}(h:us.length=n+1):∃a t,us=a::t/\t.length=n:=by
 cases us with
|nil=>cases h
|cons a t=>exact⟨a,t,rfl,Nat.succ.inj h⟩
theorem Fun.binds1(F:Fun K x qual st f fd)(hp:ps.length=1)(h:∀(kV doc pm:Value) (an:Option Addr) (cdv ct a0:Value),bindArgs (PySem.W.fnOf x qual (qcs st) (qbn st) (qaf st) .none kV doc pm an cdv ct) ⟨[a0],[]⟩=pure (ps.zip [a0])):Binds K fd ps [] :=
 F.binds λkV doc pm an cdv ct us hl=>by
  obtain⟨a0,t,rfl,h0⟩:=qcx (hl.trans hp)
  cases List.length_eq_zero_iff.mp h0
  exact h kV doc pm an cdv ct a0
theorem Fun.binds2(F:Fun K x qual st f fd)(hp:ps.length=2)(h:∀(kV doc pm:Value) (an:Option Addr) (cdv ct a0 a1:Value),bindArgs (PySem.W.fnOf x qual (qcs st) (qbn st) (qaf st) .none kV doc pm an cdv ct) ⟨[a0,a1],[]⟩=pure (ps.zip [a0,a1])):Binds K fd ps [] :=
 F.binds λkV doc pm an cdv ct us hl=>by
  obtain⟨a0,t,rfl,h0⟩:=qcx (hl.trans hp)
  obtain⟨a1,t,rfl,h1⟩:=qcx h0
  cases List.length_eq_zero_iff.mp h1
  exact h kV doc pm an cdv ct a0 a1
theorem Fun.binds3(F:Fun K x qual st f fd)(hp:ps.length=3)(h:∀(kV doc pm:Value) (an:Option Addr) (cdv ct a0 a1 a2:Value),bindArgs (PySem.W.fnOf x qual (qcs st) (qbn st) (qaf st) .none kV doc pm an cdv ct) ⟨[a0,a1,a2],[]⟩=pure (ps.zip [a0,a1,a2])):Binds K fd ps [] :=
 F.binds λkV doc pm an cdv ct us hl=>by
  obtain⟨a0,t,rfl,h0⟩:=qcx (hl.trans hp)
  obtain⟨a1,t,rfl,h1⟩:=qcx h0
  obtain⟨a2,t,rfl,h2⟩:=qcx h1
  cases List.length_eq_zero_iff.mp h2
  exact h kV doc pm an cdv ct a0 a1 a2
theorem Fun.binds4(F:Fun K x qual st f fd)(hp:ps.length=4)(h:∀(kV doc pm:Value) (an:Option Addr) (cdv ct a0 a1 a2 a3:Value),bindArgs (PySem.W.fnOf x qual (qcs st) (qbn st) (qaf st) .none kV doc pm an cdv ct) ⟨[a0,a1,a2,a3],[]⟩=pure (ps.zip [a0,a1,a2,a3])):Binds K fd ps [] :=
 F.binds λkV doc pm an cdv ct us hl=>by
  obtain⟨a0,t,rfl,h0⟩:=qcx (hl.trans hp)
  obtain⟨a1,t,rfl,h1⟩:=qcx h0
  obtain⟨a2,t,rfl,h2⟩:=qcx h1
  obtain⟨a3,t,rfl,h3⟩:=qcx h2
  cases List.length_eq_zero_iff.mp h3
  exact h kV doc pm an cdv ct a0 a1 a2 a3
end
end L2
namespace L2
open PySem PySem.Spec PyProof.Rows
section
variable {X:Cx} {EX:St->XK} {a b e:Expr} {es:List Expr} {pos p tp:Pos} {tA:TVA} {te:TV}
theorem q47{d:Addr}{ent:Array DictEntry}{n:Nat}(hl:X.K.lookup d=some ⟨.type "dict",none,.dict ent n,#[]⟩)(hk:PySem.W.KeysLit X.w.params ent.toList) :
  IxR X (λx y H Q=>x=.ref d/\∃key f,y=.str key/\PySem.W.nsIn X.K d key=some (some (.ref f))/\Q (.ref f) H):=by
 intro value slice pins s σ H x y v u Q I rx ry h hs
 obtain⟨rfl,key,f,rfl,e,q⟩:=h
 cases rx
 obtain⟨t,rfl⟩:=ry
 have hm:=PySem.W.mapOf_K (prog:=X.prog) (w:=X.w) I.kIn hl hk
 exact tail_any hm.typeIs slot_dict_getitem.lookup (wpAny_getItem_of (strKind_is X.prog X.w key t) hm (PySem.W.find_K hl e) ⟨.ref f,H,I.tok _,rfl,q⟩) hs
def qq0(X:Cx)(d:Addr)(keys:List Str)(gs:Str->DP):Prop:=∀key∈keys,∃(k:Nat) (f:Addr) (fd:FuncData) (ps:List Str),PySem.W.nsIn X.K d key=some (some (.ref f))/\FnOk X.prog X.w X.K X.mg X.base (CXR X.prog X.w) k f fd ps (spOf X.K (gs key))/\Room k X.A/\PySem.W.keepIn X.K (.ref f)=true/\Binds X.K fd ps []
theorem q3v{d:Addr}{gs:Str->DP}:qq0 X d [] gs:=λ_ h=>by cases h
theorem qql{d:Addr}{key x:Str}{keys:List Str}{k:Nat}{ps:List Str}{g:DP}{gs:Str->DP}(C:CalX X.prog X.w X.K X.mg X.base k x ps (spOf X.K g))(e:PySem.W.nsIn X.K d key=some (X.mg x))(hr:Room k X.A)(r:qq0 X d keys gs):qq0 X d (key::keys) λz=>if z=key then g else gs z:=by
 intro z hz
 by_cases ez:z=key
 ·subst ez
  cases C with
 |mk F hm hk hb=>exact⟨k,_,_,ps,by rw[e,hm],by dsimp only;rw[if_pos rfl];exact F,hr,hk,hb⟩
 ·obtain⟨k',f,fd,ps',h1,h2,h3⟩:=r z ((List.mem_cons.mp hz).resolve_left ez)
  exact⟨k',f,fd,ps',h1,by dsimp only;rw[if_neg ez];exact h2,h3⟩
def rTab(K:PySem.W.Frag)(d:Addr):R2:=λx y H Q=>x=.ref d/\∃key f,y=.str key/\PySem.W.nsIn K d key=some (some (.ref f))/\Q (.ref f) H
def tTab(K:PySem.W.Frag)(d:Addr)(keys:List Str)(gs:Str->DP)(EX:St->XK)(ts:TE)(t:TA):TE:=λσ H Q=>tOp (rTab K d) (tC (.ref d)) ts σ H λv H1=>∃key f,v=.ref f/\key∈keys/\PySem.W.nsIn K d key=some (some (.ref f))/\q0h (spOf K (gs key)) EX t σ H1 Q
theorem qw9(a b:Expr)(sp:Pos)(args:List Expr)(ks:List Keyword)(pos:Pos)(env:Env):eval (.Call (.Subscript a b sp) args ks pos) env=(do
  callWith pos (←eval (.Subscript a b sp) env) [] (backTo pos (starEach args env)) (backToKw pos (keywordEach ks env))):=rfl
theorem q6m{x:Str}{d:Addr}{ent:Array DictEntry}{n:Nat}{keys:List Str}{gs:Str->DP}{ts:TE}{t:TA}(hm:X.mg x=some (.ref d))(hl:X.K.lookup d=some ⟨.type "dict",none,.dict ent n,#[]⟩)(hk:PySem.W.KeysLit X.w.params ent.toList)(hT:qq0 X d keys gs)
  (o:Out X EX) (hg:Gl X x) (hs:qf4 b) (hb:QE X b ts) (ha:QA X (e::es) t) (hx:X.ex=[]:=by rfl) (hp:(e::es).all qav=true:=by rfl) (hdb:(x==("__debug__" : Str))=false:=by decide) :
  QE X (.Call (.Subscript (.Name x tp) b p) (e::es) [] pos) (tTab X.K d keys gs EX ts t):=by
 refine⟨λpins s σ H Q I h=>?_⟩
 rw[qw9]
 refine wpAny_bind (wpAny_mono ((q5z (q47 hl hk) (qu1 (v:=.ref d) hg hm rfl hdb) hb.u hs) pins s σ H _ I h) (λv s1 ⟨x1,H1,I1,rx,q⟩=>?_) λ_ _ z=>z)
 obtain⟨key,f,rfl,mk,hf,q⟩:=q
 cases rx
 obtain⟨k,f',fd,ps,h1,F,hr,hkp,hbd⟩:=hT key mk
 rw[hf] at h1
 cases h1
 exact PySem.W.callWith_K (h₀:=X.base) I1.ok.mod.kin hkp (thn (ha.u pos pins s1 σ H1 _ I1 q) λus s2 ⟨vs,H2,I2,r,q⟩=>⟨I2.kIn,q68 F hr hbd o hx I2 r q⟩) (qbe (all2 hp).1) (qc5 (all2 hp).2)
def vTab(keys:List Str)(gs:Str->DP)(te:TV)(tA:TVA):TV:=λτ Q=>te τ λr=>exR r Q (∃key∈keys,r.d=.str key/\qdw (gs key) tA τ Q)
theorem q7s{x:Str}{d:Addr}{ent:Array DictEntry}{n:Nat}{keys:List Str}{gs:Str->DP}(hT:qq0 X d keys gs)(hm:X.mg x=some (.ref d))(hl:X.K.lookup d=some ⟨.type "dict",none,.dict ent n,#[]⟩)(hk:PySem.W.KeysLit X.w.params ent.toList)
  (o:Out X EX) (hg:Gl X x) (hb:VE X EX b te) (ha:VA X EX (e::es) tA) (hs:qf4 b:=by with_unfolding_all exact λ_ _=>rfl) (hx:X.ex=[]:=by rfl) (hp:(e::es).all qav=true:=by rfl) (hdb:(x==("__debug__" : Str))=false:=by decide) :
  VE X EX (.Call (.Subscript (.Name x tp) b p) (e::es) [] pos) (vTab keys gs te tA) :=
 let ⟨_,b1,b2⟩:=hb.u;let ⟨_,a1,a2⟩:=ha.u;⟨_,q6m hm hl hk hT o hg hs b1 a1 hx hp hdb,λH0 B H τ σ Q Qd s S h xc k =>
  b2 H0 B H τ σ _ _ s S h xc λr v B1 H1 p1 q1 h1=>by
   obtain⟨key,mk,er,h2⟩:=q1.ok h1
   obtain⟨k',f,fd,ps,hf,_⟩:=hT key mk
   refine⟨rfl,key,f,?_,hf,key,f,rfl,mk,hf,?_⟩
   ·exact q1.pk.scal (z:=.str key) (by rw[er];rfl)
   ·refine a2 H0 B1 H1 τ σ _ _ p1.s (S.step p1) h2 (λn C B' H' p2 c hq=>xc n C B' H' (p1.trans p2) c hq) λds vs B2 H2 p2 q2 h3=>?_
    exact⟨ds,B2,Qd,p2.s,by rw[List.append_nil];exact q2,h3,λn C B' H' hq p3 c=>xc n C B' H' ((p1.trans p2).trans p3) c hq,λr v B3 H3 hq p3 q3=>k r v B3 H3 ((p1.trans p2).trans p3) (q3.back (p1.trans p2).h) hq⟩⟩
def TabF(w:World)(K:PySem.W.Frag)(mg:Str->Option Value)(x:Str)(l:List (Str×Str)):Prop:=∃(d:Addr) (ent:Array DictEntry) (n:Nat),mg x=some (.ref d)/\K.lookup d=some ⟨.type "dict",none,.dict ent n,#[]⟩/\PySem.W.KeysLit w.params ent.toList/\∀p∈l,PySem.W.nsIn K d p.1=some (mg p.2)
theorem q32{x:Str}{l:List (Str×Str)}{keys:List Str}{gs:Str->DP}(T:TabF X.w X.K X.mg x l)(hT:∀d,(∀p∈l,PySem.W.nsIn X.K d p.1=some (X.mg p.2))->qq0 X d keys gs)
  (o:Out X EX) (hg:Gl X x) (hb:VE X EX b te) (ha:VA X EX (e::es) tA) (hs:qf4 b:=by with_unfolding_all exact λ_ _=>rfl) (hx:X.ex=[]:=by rfl) (hp:(e::es).all qav=true:=by rfl) (hdb:(x==("__debug__" : Str))=false:=by decide) :
  VE X EX (.Call (.Subscript (.Name x tp) b p) (e::es) [] pos) (vTab keys gs te tA) :=
 let ⟨d,_,_,h1,h2,h3,h4⟩:=T;q7s (hT d h4) h1 h2 h3 o hg hb ha hs hx hp hdb
end
end L2
namespace L2
open PySem PySem.Spec PyProof.Rows
section
variable {X:Cx} {EX:St->XK} {K:PySem.W.Frag} {B H B' H' H0 B0 B1 H1:Hp} {st:Stmt} {rest:List Stmt} {t u:TVS} {e a:Expr} {te ta tk:TV} {tT:TVT} {tA:TVA} {es:List Expr} {pos pos' p p2 apos cpos:Pos} {x y:Str} {τ:VSt} {σ:St} {r:R} {v:V}
theorem qic{c ad:Addr}{ks:List (List Str)}{ds:List D}(h:OwnAt K B H (.ioT c ks ds) ad):ad=c/\∃kvs,H ad=some (.dT kvs)/\kvs.map (·.1)=ks.map wK/\Reps K B ds (kvs.map (·.2)):=let ⟨xs,e,z,r⟩:=h;⟨z,xs,e,r⟩
def qg0(i:Nat):TV:=λτ Q=>match τ[i]? with
|some (some (.own (.ioT _ ks ds)))=>Q (.peek (.dT ks ds))
|_=>False
theorem qy3{i:Nat}:RfE K EX (tVar i) (qg0 i):=λH0 B H τ σ Q Qd s S h _ k=>by
 unfold qg0 at h
 split at h
 ·rename_i c ks ds e
  obtain⟨ad,q,_,hb,ow⟩:=S.own i _ e
  obtain⟨_,xs,hx,rp⟩:=qic ow
  exact⟨.ref ad,q,k (.peek (.dT ks ds)) (.ref ad) B H (.refl s) ⟨ad,rfl,hb,xs,hx,rp⟩ h⟩
 ·exact h.elim
theorem vvIT(i:Nat)(hN:X.N[i]?=some x:=by rfl)(hv:Vis X.env.scope x:=by first|exact Or.inl rfl|exact Or.inr (Or.inl rfl)|exact Or.inr (Or.inr rfl))(hd:(x==("__debug__" : Str))=false:=by decide)
  (hcd:(x==("__classdict__" : Str))=false:=by decide):VE X EX (.Name x pos) (qg0 i):=⟨_,qv i hN hv hd hcd,qy3⟩
def toIo(c:Addr):D->D
|.dT ks ds=>.ioT c ks ds
|d=>d
def qjz(i:Nat)(tk te:TV):TVS:=λDv τ=>match τ[i]? with
|some (some (.own (.ioT c ks ds)))=>te τ λr=>exS τ Dv r <| pubR r λd=>tk τ λrk=>match rk.d with
 |.tup es=>∃w,es=w.map D.str/\("" : Str)∉w/\ks.length<sizeLine/\Dv.nx (τ.set i (some (.own (toIo c (putD ks ds w d)))))
 |_=>False
|_=>False
theorem qzp{ek:Expr}(i:Nat)(hu:X.A.units+64<cLine)(hk:VE X EX ek tk)(h:VE X EX e te)(hN:X.N[i]?=some x:=by rfl)(hv:Vis X.env.scope x:=by first|exact Or.inl rfl|exact Or.inr (Or.inl rfl)|exact Or.inr (Or.inr rfl))(hd:(x==("__debug__" : Str))=false:=by decide)
  (hcd:(x==("__classdict__" : Str))=false:=by decide) (hs:swapsWith e (some (.Subscript (.Name x p) ek p2)) pos.line X.env=pure false:=by rfl):VS X EX (.Assign [.Subscript (.Name x p) ek p2] e pos) (qjz i tk te) :=
 let ⟨_,a1,a2⟩:=h.u;let ⟨_,b1,b2⟩:=hk.u;⟨_,qva (by lia) (qv i hN hv hd hcd) b1 a1 hs,λB0 H0 B H τ σ Dv Dh p S h E=>by
  unfold qjz at h
  split at h
  ·rename_i c ks ds e1
   obtain⟨ad,e2,_,_,_⟩:=S.own i _ e1
   refine a2 H0 B H τ σ _ _ p.s S h (E.raised p S) λr v B' H' q hr hq=>?_
   obtain⟨d,B2,q2,_,rp,hn⟩:=pub q hr (hr.okS hq)
   refine⟨.ref ad,e2,b2 H0 B2 H' τ σ _ _ q2.s (S.step q2) hn (xno λ_ q=>q) λrk vk B3 H3 q3 hk hh=>?_⟩
   split at hh
   ·rename_i es ek
    obtain⟨w,rfl,hne,hz,hn⟩:=hh
    obtain⟨b,rfl,hb⟩:=hk.pk.way ek hne
    have qq:=q2.trans q3
    have S3:=S.step qq
    obtain⟨a',f1,h0,hbb,ow⟩:=S3.own i _ e1
    obtain⟨ec,kvs,f4,f5,f6⟩:=qic ow
    rw[e2] at f1
    cases f1
    have hl:kvs.length<sizeLine:=by
     have:kvs.length=ks.length:=by simpa using congrArg List.length f5
     lia
    refine⟨ad,_,rfl,DPut.t (k:=wK w) f4 (by rw[qm1];exact q3.s _ _ hb) hl,?_⟩
    obtain⟨ks',ds',ep,g1,g2⟩:=qu7 w f5 f6 (rp.same q3.b)
    rw[ep] at hn
    exact E.nx B3 _ _ σ ((p.trans qq).upd h0 hbb) (S3.upd (d:=.ioT c ks' ds') e1 e2 ⟨_,qa6,ec,g1,g2⟩) hn
   ·exact hh.elim
  ·exact h.elim⟩
def q4n(K:PySem.W.Frag)(EX:St->XK)(te:TA)(t:TVA)(k j:Nat):Prop:=∀(H0 B H:Hp) (τ:VSt) (σ:St) (Q:List V->Hp->Prop) (Qd:AR->Prop),Same B H->Slots K H0 B H τ σ->(∃ks ps,τ[j]?=some (some (R.own (.dT ks ps))))->t τ Qd->(∀n C B' H',Stp B H B' H'->clsOf K n C->Qd (.exc n)->EX σ (.ref C) none H') ->
 (∀ds vs B' H' ad,Stp B H B' H'->k<=vs.length->σ[j]?=some (some (.ref ad))->Reps K B' ds vs->Qd (.ok ds)->Q (vs.insertIdx k (.ref ad)) H')->te σ H Q
structure VAIT(X:Cx)(EX:St->XK)(es:List Expr)(t:TVA)(k j:Nat):Prop where
 u:∃te,QA X es te/\q4n X.K EX te t k j
theorem qmu(j:Nat)(hr:VA X EX es tA)(hN:X.N[j]?=some x:=by rfl)(hv:Vis X.env.scope x:=by first|exact Or.inl rfl|exact Or.inr (Or.inl rfl)|exact Or.inr (Or.inr rfl))(hd:(x==("__debug__" : Str))=false:=by decide)
  (hcd:(x==("__classdict__" : Str))=false:=by decide):VAIT X EX (.Name x pos::es) tA 0 j :=
 let ⟨_,b1,b2⟩:=hr.u;⟨_,qac (qv j hN hv hd hcd) b1 rfl,λH0 B H τ σ Q Qd s S ⟨c,ps,e⟩ h xc k=>by
  obtain⟨ad,q,_,hb,ow⟩:=S.own j _ e
  exact⟨.ref ad,q,b2 H0 B H τ σ _ _ s S h xc λds vs B1 H1 p1 q1 h1=>k ds vs B1 H1 ad p1 (Nat.zero_le _) q q1 h1⟩⟩
abbrev DPJ:=List D->List (List Str)->List D->(R->List (List Str)->List D->Prop)->Prop
def qr5(K:PySem.W.Frag)(g:DPJ)(k:Nat):Sp:=λvs H Q _=>∃ds ws B c ks ps Qd,Same B H/\Reps K B ds ws/\k<=ws.length/\vs=ws.insertIdx k (.ref c)/\B c=none/\OwnAt K B H (.ioT c ks ps) c/\g ds ks ps Qd /\
 ∀r v B' H' ks' ps',Qd r ks' ps'->Stp B (hidH H c) B' H'->B' c=none->OwnAt K B' H' (.ioT c ks' ps') c->RepR K B' (hidH H c) H' r v->(∀d,r=.own d->v≠.ref c)->Q v H'
def qgx(k:Nat)(c:Addr)(τ:VSt)(P:List (List Str)->List D->Prop):Prop:=match τ[k]? with
|some (some (.own (.ioT c' ks ps)))=>c'=c/\P ks ps
|_=>False
theorem qly{k:Nat}{c:Addr}{P:List (List Str)->List D->Prop}(h:qgx k c τ P):∃ks ps,τ[k]?=some (some (.own (.ioT c ks ps)))/\P ks ps:=by
 unfold qgx at h
 split at h
 ·rename_i c' ks ps e
  obtain⟨rfl,h⟩:=h
  exact⟨ks,ps,e,h⟩
 ·exact h.elim
abbrev EnJ(k:Nat)(c:Addr)(Q:R->List (List Str)->List D->Prop):VEnds:={ nx:=λτ=>qgx k c τ (Q (.val .non)),rt:=λ_=>False,ro:=λτ r=>qgx k c τ (Q r) }
def startJ(N:List Str)(k:Nat)(c:Addr)(ds:List D)(ks:List (List Str))(ps:List D):VSt:=(ds.map λd=>some (R.val d)).insertIdx k (some (.own (.ioT c ks ps)))++List.replicate (N.length-(ds.length+1)) none
theorem qgy{c:Addr}{ks:List (List Str)}{ps:List D}(h0:H0 c=none)(hb:B c=none)(o:OwnAt K B H (.ioT c ks ps) c):∀(k:Nat) {ds:List D} {ws:List V},Reps K B ds ws->k<=ws.length->Slots K H0 B H ((ds.map λd=>some (R.val d)).insertIdx k (some (.own (.ioT c ks ps)))) ((ws.insertIdx k (.ref c)).map some)
|0,ds,ws,h,_=>by
  rw[List.insertIdx_zero,List.insertIdx_zero]
  exact(qe8 h).consO h0 hb o
|k+1,ds,ws,h,l=>by
  cases ds with
 |nil =>
   unfold Reps at h
   subst h
   exact absurd l (by simp)
 |cons d ds =>
   unfold Reps at h
   obtain⟨w,ws,rfl,h1,h2⟩:=h
   rw[List.map_cons,List.insertIdx_succ_cons,List.insertIdx_succ_cons,List.map_cons]
   exact(qgy h0 hb o k h2 (Nat.le_of_succ_le_succ l)).consV h1
theorem Fun.okJ{P:Program}{w:World}{mg:Str->Option Value}{base:Heap}{x qual:Str}{st:Stmt}{f:Addr}{fd:FuncData}{N ps:List Str}{k m:Nat}{g:DPJ}(F:Fun K x qual st f fd)(S:FnScope N ps (qaf st))(len:∀ds ks zs Q,g ds ks zs Q->ds.length+1=ps.length)
  (hbody:∀(cdv:Value) (A:Around) (outer:List Env) (s:Shared) (H:Hp) (E:XK),Room m (A.deeper (envOfC qual (qaf st) s.heap.objs.size f cdv)) ->
   ∃t,VSs (cxOf CX0 P w K mg base N qual (qaf st) f cdv A outer s H E).nox EX0 (qbn st) t/\∀ds ks zs c Q,g ds ks zs Q->t (EnJ k c Q) (startJ N k c ds ks zs)):FnOk P w K mg base CX0 (m+1) f fd ps (qr5 K g k):=by
 refine F.okQ S (λvs H Q E h=>?_) (λcdv A outer s H vs Q E hr h=>?_)
 ·obtain⟨ds,ws,B,c,ks,zs,Qd,_,rp,lk,rfl,_,_,hg,_⟩:=h
  rw[List.length_insertIdx_of_le_length lk,←rp.length]
  exact len ds ks zs Qd hg
 ·obtain⟨ds,ws,B,c,ks,zs,Qd,sm,rp,lk,rfl,hb,ow,hg,kk⟩:=h
  obtain⟨t,⟨ts,q1,q2⟩,ht⟩:=hbody cdv A outer s H E hr
  refine⟨ts,q1,q2 B (hidH H c) B H (startJ N k c ds ks zs) (start N (ws.insertIdx k (.ref c))) _ _ ⟨Same.refl _,qxd,sm,λ_ z=>.inl z⟩ ?_ (ht ds ks zs c Qd hg) ⟨λB' H' τ σ p S h=>?_,λ_ _ _ _ _ _ h=>h.elim,λ_ _ _ _ _ _ h=>h.elim,λ_ _ _ _ _ _ h=>h.elim,λ_ _ _ _ _ _ _ _ _ h=>h.elim,λr v B' H' τ σ p S hr ne h=>?_⟩⟩
  ·unfold startJ start
   rw[rp.length,List.length_insertIdx_of_le_length lk]
   exact(qgy qz2 hb ow k rp lk).more _
  ·obtain⟨ks',qs,e,q⟩:=qly h
   obtain⟨a',_,_,hb',ow'⟩:=S.own k _ e
   obtain⟨rfl,_⟩:=qic ow'
   exact kk (.val .non) .non B' H' ks' qs q p hb' ow' (repV rfl) λ_ z=>by cases z
  ·obtain⟨ks',qs,e,q⟩:=qly h
   obtain⟨a',_,_,hb',ow'⟩:=S.own k _ e
   obtain⟨rfl,_⟩:=qic ow'
   exact kk r v B' H' ks' qs q p hb' ow' hr λd z=>ne d _ k _ z e rfl
theorem Slots.lentJ{c:Addr}{j:Nat}{ks ks':List (List Str)}{ps qs:List D}(S:Slots K H0 B1 H1 τ σ)(e:τ[j]?=some (some (.own (.dT ks ps))))(e1:σ[j]?=some (some (.ref c)))(q:Stp B1 (hidH H1 c) B' H')(hb:B' c=none)(o:OwnAt K B' H' (.ioT c ks' qs) c):Slots K H0 B' H' (τ.set j (some (.own (.dT ks' qs)))) σ:=by
 obtain⟨a',e1',h0,_,ow⟩:=S.own j _ e
 rw[e1] at e1'
 cases e1'
 obtain⟨_,kvs,f4,f5,f6⟩:=qic o
 refine⟨by rw[List.length_set,S.len],λk d q'=>?_,λk d q'=>?_,λk d q'=>?_,λk l d f b q1 q2 q3 q4=>?_⟩
 ·rcases qbd q' with ⟨rfl,z,_⟩|⟨_,q'⟩
  ·cases z
  ·obtain⟨w,w1,w2⟩:=S.val k d q'
   exact⟨w,w1,w2.same q.b⟩
 ·rcases qbd q' with ⟨rfl,z,_⟩|⟨_,q'⟩
  ·cases z
  ·obtain⟨w,w1,w2⟩:=S.fz k d q'
   exact⟨w,w1,w2.same q.b⟩
 ·rcases qbd q' with ⟨rfl,z,_⟩|⟨n,q'⟩
  ·cases z
   exact⟨_,e1,h0,hb,kvs,f4,f5,f6⟩
  ·obtain⟨b,w1,w2,w3,w4⟩:=S.own k d q'
   have nb:b≠c:=λz=>n (S.sep j k _ _ c e q' e1 (by rw[←z];exact w1))
   have hs:hidH H1 c b≠none:=by rw[qhy nb];exact w4.some
   refine⟨b,w1,w2,q.keep w3 hs (λxs=>by rw[qhy nb];exact w4.nt xs),w4.step q.b ?_⟩
   rw[q.h.at hs,qhy nb]
 ·have hk:∃d',τ[k]?=some (some (.own d')):=by
   rcases qbd q1 with ⟨rfl,_,_⟩|⟨_,q'⟩
   ·exact⟨_,e⟩
   ·exact⟨_,q'⟩
  have hl:∃d',τ[l]?=some (some (.own d')):=by
   rcases qbd q2 with ⟨rfl,_,_⟩|⟨_,q'⟩
   ·exact⟨_,e⟩
   ·exact⟨_,q'⟩
  obtain⟨_,hk⟩:=hk
  obtain⟨_,hl⟩:=hl
  exact S.sep k l _ _ b hk hl q3 q4
def qiv(g:DPJ)(j:Nat)(tA:TVA)(τ:VSt)(k:D->VSt->Prop):Prop:=match τ[j]? with
|some (some (.own (.dT ks ps)))=>tA τ λa=>match a with
 |.ok ds=>g ds ks ps λr ks' qs=>pubR r λd=>k d (τ.set j (some (.own (.dT ks' qs))))
 |.exc _=>False
|_=>False
theorem qqa{g:DPJ}{j k:Nat}{teA:TA}(hA:q4n K EX teA tA k j){Q:VK}{P:D->VSt->Prop}(pp:Stp B0 H0 B H)(S:Slots K H0 B H τ σ)(h:qiv g j tA τ P)(kk:∀d τ' v B' H',Stp B0 H0 B' H'->Slots K H0 B' H' τ' σ->Rep K B' d v->P d τ'->Q v H'):qvu (qr5 K g k) [] E0 teA σ H Q:=by
 unfold qiv at h
 split at h
 ·rename_i ks ps e
  refine hA H0 B H τ σ _ _ pp.s S ⟨ks,ps,e⟩ h (xno λ_ q=>q) λds vs B1 H1 ad p1 lk hj rp h1=>?_
  have S1:=S.step p1
  obtain⟨a',e1,h0,hb,kvs,f4,f5,f6⟩:=S1.own j _ e
  rw[hj] at e1
  cases e1
  refine⟨ds,vs,B1,ad,ks,ps,_,p1.s,rp,lk,by rw[List.append_nil],hb,⟨kvs,f4,rfl,f5,f6⟩,h1,λr v B' H' ks' qs hq q hc o hr ne=>?_⟩
  obtain⟨d,B2,q2,s2,hc2,rp2,hd⟩:=pubI q hc hr ne hq
  exact kk d _ v B2 H' ((pp.trans p1).lent h0 q2 hc2) (S1.lentJ e hj q2 hc2 (o.step s2 rfl)) rp2 hd
 ·exact h.elim
def qms(i:Nat)(g:DPJ)(j:Nat)(tA:TVA):TVS:=λDv τ=>qiv g j tA τ λd τ'=>Dv.nx (τ'.set i (some (.val d)))
theorem qzr{i m k j:Nat}{ps:List Str}{g:DPJ}(hN:X.N.Nodup)(hi:X.N[i]?=some y)(hx:Loc X.env.scope y)(C:Cal X.prog X.w X.K X.mg X.base m x ps (qr5 X.K g k))(hr:Room m X.A)(hg:Gl X x)(ha:VAIT X EX (e::es) tA k j)(hp:(e::es).all qav=true:=by rfl)(hdb:(x==("__debug__" : Str))=false:=by decide)
  (hs:swapsWith (.Call (.Name x p) (e::es) [] p2) (some (.Name y pos')) pos.line X.env=pure false:=by rfl)
  (hf:X.fn y=true\/X.env.scope.names.lookup y=some .local:=by first|exact .inl rfl|exact .inr rfl|assumption):VS X EX (.Assign [.Name y pos'] (.Call (.Name x p) (e::es) [] p2) pos) (qms i g j tA) :=
 let ⟨_,a1,a2⟩:=ha.u;⟨_,qme hN hi hx (qu9 C hr hg a1 hp hdb) hs hf,λB0 H0 B H τ σ Dv Dh p S h E=>qqa a2 p S h λd τ' v B' H' q S' rp hd=>E.nx B' H' _ _ q (S'.setVal i rp) hd⟩
def qmq(g:DPJ)(j:Nat)(tA:TVA):TVS:=λDv τ=>qiv g j tA τ λ_ τ'=>Dv.nx τ'
theorem qzq{m k j:Nat}{ps:List Str}{g:DPJ}(C:Cal X.prog X.w X.K X.mg X.base m x ps (qr5 X.K g k))(hr:Room m X.A)(hg:Gl X x)(ha:VAIT X EX (e::es) tA k j)(hp:(e::es).all qav=true:=by rfl)(hdb:(x==("__debug__" : Str))=false:=by decide)
  (hs:swapsWith (.Call (.Name x p) (e::es) [] p2) none pos.line X.env=pure false:=by rfl):VS X EX (.Expr (.Call (.Name x p) (e::es) [] p2) pos) (qmq g j tA) :=
 let ⟨_,a1,a2⟩:=ha.u;⟨_,qou (qu9 C hr hg a1 hp hdb) hs,λB0 H0 B H τ σ Dv Dh p S h E=>qqa a2 p S h λd τ' v B' H' q S' rp hd=>E.nx B' H' _ _ q S' hd⟩
theorem qwd{i j:Nat}(hN:X.N.Nodup)(hi:X.N[j]?=some x)(hx:Loc X.env.scope x)(h:VE X EX e te)(hr:VSs X EX rest u)(hs:swapsWith e (some (.Name x pos')) pos.line X.env=pure false:=by rfl)
  (hf:X.fn x=true\/X.env.scope.names.lookup x=some .local:=by first|exact .inl rfl|exact .inr rfl|assumption):VSs X EX (.Assign [.Name x pos'] e pos::rest) (qmr i j te u) :=
 let ⟨_,a1,a2⟩:=h.u;let ⟨_,r1,r2⟩:=hr.u;⟨_,qvc i (qme hN hi hx a1 hs hf) r1,λB0 H0 B H τ σ Dv Dh p S h E=>by
  unfold qmr at h
  split at h
  ·rename_i ks ds e
   obtain⟨a,q,h0,hb,kvs,e1,e2,e3⟩:=S.own i _ e
   refine⟨a,kvs,q,e1,λo=>?_⟩
   have sH:Same (upd B a (.frz o (.dT kvs))) (upd H a (.frz o (.dT kvs))):=λc w z=>by
    by_cases y:c=a
    ·subst y
     rw[qa6] at z ⊢
     exact z
    ·rw[qau y] at z ⊢
     exact p.s _ _ z
   refine a2 H0 _ _ _ σ _ _ sH (qr3 S e q hb e2 e3) h (xno λ_ q=>q) λr v B1 H1 q1 hr hq=>?_
   obtain⟨d,B2,q2,_,rp,nd,hn⟩:=pub q1 hr hq
   have bf:B2 a=some (.frz o (.dT kvs)):=q2.b _ _ qa6
   have hfz:H1 a=some (.frz o (.dT kvs)):=q2.s _ _ bf
   refine⟨hfz,?_⟩
   let B3:Hp:=λb=>if b=a then none else B2 b
   have b3:∀b,b≠a->B3 b=B2 b:=λb n=>if_neg n
   have b3a:B3 a=none:=if_pos rfl
   have st:Stp B H B3 (upd H1 a (.dT kvs)):=by
    refine⟨λb w z=>?_,λb w z=>?_,λb w z=>?_,λb z=>?_⟩
    ·have n:b≠a:=λy=>by rw[y,hb] at z;cases z
     rw[b3 b n]
     exact q2.b _ _ (by rw[qau n];exact z)
    ·by_cases n:b=a
     ·subst n
      rw[e1] at z
      cases z
      exact qa6
     ·rw[qau n]
      exact q2.h _ _ (by rw[qau n];exact z)
    ·by_cases n:b=a
     ·rw[n,b3a] at z;cases z
     ·rw[b3 b n] at z
      rw[qau n]
      exact q2.s _ _ z
    ·by_cases n:b=a
     ·rw[n,b3a] at z;exact absurd rfl z
     ·rw[b3 b n] at z
      have:=q2.d b z
      rw[qau n,qau n] at this
      exact this
   have rp3:Rep X.K B3 d v:=nd X.K B2 B3 v (λb w z nf=>by
    have n:b≠a:=λy=>by rw[y,bf] at z;cases z;exact nf _ _ rfl
    rw[b3 b n]
    exact z) rp
   exact r2 B0 H0 B3 _ _ _ _ _ (p.trans st) ((S.step st).setVal j rp3) hn E
  ·exact h.elim⟩
end
section
variable {X:Cx} {p kp pos:Pos} {a d:Expr}
def q7h(K:PySem.W.Frag)(z:V)(ta:TA):TE:=λσ H Q=>ta σ H λvs H1=>∃ad ns,vs=[.ref ad]/\SqL K H1 ad (ns.map V.int)/\(ns=[]->Q z H1)/\∀m∈ns,(∀x∈ns,x<=m)->Q (.int m) H1
theorem q2j{z:V}{ta:TA}(hc:X.calm=true)(hg:Gl X "max")(hm:X.mg "max" = none)(hb:bootBuiltins "max" = some (.builtin "max"))(ha:PA X [a] ta)(hd:PE X d (tC z))(hs:starEach [a] X.env=[(false,eval a X.env)]:=by rfl):PE X (.Call (.Name "max" p) [a] [⟨some "default",d,kp⟩] pos) (q7h X.K z ta):=by
 intro pins s σ H Q I h
 have he:eval (.Call (.Name "max" p) [a] [⟨some "default",d,kp⟩] pos) X.env=(do callWith pos (←eval (.Name "max" p) X.env) [] (backTo pos (starEach [a] X.env)) (backToKw pos (keywordEach [⟨some "default",d,kp⟩] X.env))):=rfl
 rw[he]
 refine wpAny_bind (qjo I hg hm hb ?_)
 refine callWith_kw (thn (ha pos pins s σ H _ I h) λus s1 ⟨vs,H1,I1,r1,q1⟩=>?_) (by rw[hs];rfl) (by rw[hs];rfl)
 refine kws_cons (thn (hd pins s1 σ H1 (λx H2=>x=z/\H2=H1) I1 ⟨rfl,rfl⟩) λv s2 ⟨x,H2,I2,r2,q2⟩=>kws_nil ?_)
 obtain⟨rfl,rfl⟩:=q2
 obtain⟨ad,ns,rfl,hq,q0,qm⟩:=q1
 cases r1 with
|cons r rr =>
  cases rr
  cases r
  obtain⟨its,rv,pl,hz⟩:=I2.list hq
  obtain⟨ps,rfl,ens⟩:=qj0 rv
  have el:intItems ps.toArray=(ps.map λp=>Value.int p.1 p.2).toArray:=by unfold intItems;simp
  show wpAny (model X.prog X.w) X.A (call (.builtin "max") [.ref ad] [("default",v)]) (EP X pins σ Q) X.xe s2
  refine q1w (xs:=ps.toArray) (I2.ok.hd hc) (by rw[el];exact pl.isList) λu h' tk hu kp2=>?_
  have hn:∀i,i<ps.length->numAt ps.toArray i=(ps.map (·.1)).getD i 0:=λi hi=>by simp[numAt,hi]
  rcases hu with ⟨h0,hu⟩|⟨h0,rfl⟩
  ·have h0':0<ps.length:=by simpa using h0
   obtain⟨b1,b2⟩:=qs8 (numAt ps.toArray) (ps.toArray.size-1)
   obtain⟨t,rfl⟩:=intItems_at hu
   generalize argBest (λi j=>decide (numAt ps.toArray i>numAt ps.toArray j)) (ps.toArray.size-1)=k at *
   have hk:k<ps.length:=by
    rw[List.size_toArray] at b1
    lia
   have hmem:numAt ps.toArray k∈ns:=by
    rw[hn k hk,←ens,List.getD_eq_getElem?_getD,List.getElem?_eq_getElem (by rw[List.length_map];exact hk)]
    exact List.getElem_mem _
   refine⟨.int (numAt ps.toArray k),H2,I2.kept kp2,⟨t,rfl⟩,qm _ hmem λy hy=>?_⟩
   rw[←ens] at hy
   obtain⟨i,hi,ei⟩:=List.mem_iff_getElem.mp hy
   rw[List.length_map] at hi
   have:=b2 i (by rw[List.size_toArray];lia)
   rw[hn i hi,List.getD_eq_getElem?_getD,List.getElem?_eq_getElem (by rw[List.length_map];exact hi)] at this
   rw[←ei]
   exact this
  ·have e0:ns=[]:=by
    have:ps=[]:=List.length_eq_zero_iff.mp (by simpa using h0)
    rw[←ens,this]
    rfl
   exact⟨_,H2,I2.kept kp2,r2,q0 e0⟩
theorem q22{z:V}{ta:TA}(hc:X.calm=true)(hg:Gl X "max")(hm:X.mg "max" = none)(hb:bootBuiltins "max" = some (.builtin "max"))(ha:QA X [a] ta)(hd:QE X d (tC z))(hp:qav a=true:=by rfl):QE X (.Call (.Name "max" p) [a] [⟨some "default",d,kp⟩] pos) (q7h X.K z ta):=⟨q2j hc hg hm hb ha.u hd.u (qbe hp)⟩
end
section
variable {X:Cx} {EX:St->XK} {p kp pos cp:Pos} {a:Expr} {te:TV} {j:Nat}
def qv1(z:Int)(te:TV):TV:=λτ Q=>te τ λr=>match r.d with
|.lst ds=>∃ns:List Int,ds=ns.map D.int/\(ns=[]->Q (.val (.int z)))/\∀m∈ns,(∀x∈ns,x<=m)->Q (.val (.int m))
|_=>False
theorem q31{z:Int}(hc:X.calm=true)(hg:Gl X "max")(hm:X.mg "max" = none)(hb:bootBuiltins "max" = some (.builtin "max"))(h:VE X EX a te)(hp:qav a=true:=by rfl):VE X EX (.Call (.Name "max" p) [a] [⟨some "default",.Constant (.int z) j cp,kp⟩] pos) (qv1 z te) :=
 let ⟨_,a1,a2⟩:=h.u;⟨_,q22 hc hg hm hb (qac a1 qdi hp) q0c hp,λH0 B H τ σ Q Qd s S h xc k=>a2 H0 B H τ σ _ _ s S h (xno λ_ q=>q) λr v B' H' q hr hq=>by
  split at hq
  ·rename_i ds ed
   obtain⟨ns,rfl,h0,h1⟩:=hq
   obtain⟨ad,xs,rfl,hx,r1⟩:=hr.pk.lst q.s ed
   have e:=qjt r1
   subst e
   exact⟨ad,ns,rfl,SqL.of hx,λz0=>k (.val (.int z)) _ B' H' q (repV rfl) (h0 z0),λm hm' hle=>k (.val (.int m)) _ B' H' q (repV rfl) (h1 m hm' hle)⟩
  ·exact hq.elim⟩
end
section
variable {prog:Program} {w:World} {A:Around} {E:Value->Shared->Prop} {s:Shared} {d:Addr} {es:Array DictEntry} {ep:Nat}
theorem qkh(hd:(d==sysModules)=false):MeetsIn prog w (Builtin.«dict.__len__» ⟨[.ref d],[]⟩) (λ_ R s=>RawD s.heap d es ep/\R (.ok (.ret (.int es.size s.toks))) { s with toks:=s.toks+1 }) :=
 .of_wp λA R s ⟨hm,h⟩=>by
  obtain⟨o,ho,hc,hdat⟩:=hm
  show wpAny _ _ (dictSize d >>= _) _ _ s
  unfold dictSize
  refine wpAny_bind (wpAny_bind (wpAny_dictEntries ho hdat (wpAny_pure ?_)))
  show wpAny _ _ (Builtin.Dict.pendingCount d >>= _) _ _ s
  refine wpAny_bind (wpAny_pendingCount_other hd ?_)
  refine wpAny_ret_mkInt ?_
  rw[Nat.add_zero];exact h
theorem q3f{Q:Value->Shared->Prop}(hd:(d==sysModules)=false)(hm:RawD s.heap d es ep)(hfit:(es.size:Int)<2 ^ 63)(h:Q (.int es.size (s.toks+1)) { s with toks:=s.toks+1+1 }):wpAny (model prog w) A (call (.builtin "len") [.ref d]) Q E s:=by
 refine Calls.call_function_entry kind_len plain_len entry_len (args_len1 _) ?_
 unfold Builtin.«len»
 refine wpAny_bind (m:=oneArg "len" _) (wpAny_pure ?_)
 refine wpAny_bind (m:=callSpecial? (.ref d) (Str.ofString "__len__")) (wpAny_callSpecial?_slot (name:=Str.ofString "__len__") hm.typeIs F.slot_dict_len
  (call_meetsIn F.slot_dict_len hm.typeIs F.entry_dict_len (F.args_dict_len_1 _) (qkh (es:=es) (ep:=ep) hd) ⟨hm,?_⟩))
 show wpAny _ _ _ _ _ { s with toks:=s.toks+1 }
 refine wpAny_bind (wpAny_holding (wpAny_pure ?_))
 refine wpAny_bind (wpAny_letGo ?_)
 show wpAny _ _ (if ((es.size:Nat):Int)<0 then _ else _) _ _ _
 rw[if_neg (by omega)]
 show wpAny _ _ (if ((es.size:Nat):Int)≥2 ^ 63 then _ else _) _ _ _
 rw[if_neg (by omega)]
 exact wpAny_bind (wpAny_mkInt (wpAny_pure ⟨_,rfl,h⟩))
end
section
variable {X:Cx}
theorem qta:CallR X (.builtin "len") (λxs H Q=>∃a kvs,xs=[.ref a]/\Rd H a (.dT kvs)/\Q (.int kvs.length) H):=by
 intro pins s σ H xs us Q I r h
 obtain⟨a,kvs,rfl,e,q⟩:=h
 cases r with
|cons r rr =>
  cases rr
  cases r
  obtain⟨z,no,es,ep,raw,hs,_⟩:=qlu I.hok e
  refine q3f no raw (by rw[hs];rw[sizeLine_eq] at z;omega) ?_
  rw[hs]
  exact⟨.int kvs.length,H,I.tok _,⟨_,rfl⟩,q⟩
def qsd(rx:R)(Q:R->Prop):Prop:=match rx.d with
|.dT ks _=>Q (.val (.int ks.length))
|_=>False
theorem q33:VF X (.builtin "len") qsd:=by
 refine⟨_,qta,λB H x rx Q Qd s px h k=>?_⟩
 unfold qsd at h
 split at h
 ·rename_i ks ds e1
  obtain⟨ad,kvs,rfl,hd,hk,hr⟩:=px.dT s e1
  have hkl:ks.length=kvs.length:=by simpa using (congrArg List.length hk).symm
  exact⟨ad,kvs,rfl,hd,k (.val (.int ks.length)) _ B H (.refl s) (by rw[hkl];exact repV rfl) h⟩
 ·exact h.elim
end
section
variable {P:Program} {w:World} {K:PySem.W.Frag} {mg:Str->Option Value} {base h:Heap} {x:Str} {st:Stmt} {k:Nat} {ps:List Str} {sp:Sp}
def qbj(K:PySem.W.Frag)(x:Str)(st:Stmt):Prop:=∃(f:Addr) (fd:FuncData),PySem.W.nsIn K mainGlobals x=some (some (.ref f))/\Fun K x x st f fd
theorem q9i{f:Addr}{oc:Value}{od an:Option Addr}{osl:Array (Option Value)}{kV doc pm cdv ct:Value}(a:PySem.W.nsIn K mainGlobals x=some (some (.ref f)))(l:K.lookup f=some ⟨oc,od,.func (PySem.W.fnOf x x (qcs st) (qbn st) (qaf st) .none kV doc pm an cdv ct),osl⟩)
  (c:PySem.W.codeIn K cdv x=true) (q:PySem.W.keepIn K (.ref f)=true):qbj K x st:=⟨f,_,a,qpt l c q⟩
theorem calD(P:Program)(w:World)(base:Heap)(X:K.In h)(G:h.Ns mainGlobals mg)(D:qbj K x st)(ok:∀ {f:Addr} {fd:FuncData},Fun K x x st f fd->FnOk P w K mg base CX0 k f fd ps sp)(b:∀ {f:Addr} {fd:FuncData},Fun K x x st f fd->Binds K fd ps []):Cal P w K mg base k x ps sp :=
 let ⟨_,_,a,F⟩:=D;.mk (ok F) (PySem.W.mg_of X G a) F.kp (b F)
theorem qg3(P:Program)(w:World)(base:Heap)(X:K.In h)(G:h.Ns mainGlobals mg)(D:qbj K x st)(ok:∀ {f:Addr} {fd:FuncData},Fun K x x st f fd->FnOk P w K mg base (CXR P w) k f fd ps sp)(b:∀ {f:Addr} {fd:FuncData},Fun K x x st f fd->Binds K fd ps []):CalX P w K mg base k x ps sp :=
 let ⟨_,_,a,F⟩:=D;.mk (ok F) (PySem.W.mg_of X G a) F.kp (b F)
end
end L2
set_option maxHeartbeats 4000000
namespace K62
open PySem L2
local macro_rules|`(tactic| simp! only[$xs,*])=>`(tactic| simp only[vSeq,vIfS,vBl,vOp,vLt,vLe,vGt,vGe,vI2',vI2,vVar,vF1,vLen,qpb,qgz,qv6,vStr,vRet,qpc,q3y,vIxR,qa9,vC,vAdd,vSub,vMul,vDiv,vMod,vPow,vEq,vNe,qei,vSlR,qc7,qhb,vNeg,qdw,qak,qaa,vNil,vTup,vLst,vSet,qgo,qer,ownL,vFor,qpd,qv4,qc9,qfp,qjb,isTy,vMM,qes,qgm,vOrT,qv2,qmk,vOrE,vIfE,vAsg,qbf,qk5,qcp,qk6,vTab,qsd,qv1,qg0,qjz,toIo,qms,qmq,qiv,qgx,startJ,vFrz,qgn,frz,qmp,vAll,qpa,vIsN,qjx,qax,dV,scal,qvh,qvg,qov,qvf,qos,qor,qtx,qtw,qnt,qtv,qno,qnn,qj9,qnm,qns,qnr,qka,qnq,qtt,qht,qtu,qnp,qoh,qkj,qda,vTry,VEnds.calm,VEnds.wiped,qja,vDIn,qjy,qmm,qmn,ownT,qmo,qet,qv3,vNeD,qiw,qmt,qse,vIn,qsf,qml,qv5,q3x,q1g,qvq,List.insertIdx_zero,List.insertIdx_succ_cons,strsOf,qgl,Option.map_some,List.map_cons,List.map_nil,List.length_cons,List.length_nil,List.cons_append,List.nil_append,List.getElem?_cons_zero,List.getElem?_cons_succ,List.set_cons_zero,List.set_cons_succ,List.replicate_succ,List.replicate_zero,Nat.reduceSub,Nat.reduceAdd,if_true,if_false,ite_true,ite_false,Bool.not_true,Bool.not_false,decide_true,decide_false,eq_int,eq_str,qte,qnf,qtl,qtm,true_and,and_true,Nat.zero_le,List.take_succ_cons,List.take_zero,reduceIte,Bool.false_eq_true,eq_self,List.length_map,V.int.injEq,V.str.injEq,CDiv,Int.reduceLT,Int.zero_add,and_self,List.cons.injEq,D.scr.injEq,D.int.injEq,D.str.injEq,D.tup.injEq,D.lst.injEq,D.bl.injEq,and_assoc,exists_and_left,exists_eq_left,exists_eq_left',qfk,qh4,qqe,qqd,qpq,qtc,qj7,Int.reduceLE,Int.le_refl,qqm,qlt,qs2,qpl,Option.some.injEq,$xs,*])
local macro_rules|`(tactic| dsimp! only[$xs,*])=>`(tactic| ((try dsimp only[vIfS,vBl,vOp,vLt,vLe,vGt,vGe,vI2',vI2,vVar,vF1,vLen,qpb,qgz,qv6,vStr,vRet,qpc,q3y,vIxR,qa9,vC,vAdd,vSub,vMul,vDiv,vMod,vPow,vEq,vNe,qei,vSlR,qc7,qhb,vNeg,qdw,qak,qaa,vNil,vTup,vLst,vSet,qgo,qer,ownL,vFor,qpd,qv4,qc9,qfp,qjb,isTy,vMM,qes,qgm,vOrT,qv2,qmk,vOrE,vIfE,vAsg,qbf,qk5,qcp,qk6,vTab,qsd,qv1,qg0,qjz,toIo,qms,qmq,qiv,qgx,startJ,vFrz,qgn,frz,qmp,vAll,qpa,vIsN,qjx,qax,dV,scal,qvh,qvg,qov,qvf,qos,qor,qtx,qtw,qnt,qtv,qno,qnn,qj9,qnm,qns,qnr,qka,qnq,qtt,qht,qtu,qnp,qoh,qkj,qda,vTry,VEnds.calm,VEnds.wiped,qja,vDIn,qjy,qmm,qmn,ownT,qmo,qet,qv3,vNeD,qiw,qmt,qse,vIn,qsf,qml,qv5,q3x,q1g,qvq,List.insertIdx_zero,List.insertIdx_succ_cons,strsOf,Option.map_some,List.map_cons,List.map_nil,List.length_cons,List.length_nil,List.cons_append,List.nil_append,List.getElem?_cons_zero,List.getElem?_cons_succ,List.set_cons_zero,List.set_cons_succ,List.take_succ_cons,List.take_zero,CDiv,$xs,*]);(try simp only[vIfS,vBl,vOp,vLt,vLe,vGt,vGe,vI2',vI2,vVar,vF1,vLen,qpb,qgz,qv6,vStr,vRet,qpc,q3y,vIxR,qa9,vC,vAdd,vSub,vMul,vDiv,vMod,vPow,vEq,vNe,qei,vSlR,qc7,qhb,vNeg,qdw,qak,qaa,vNil,vTup,vLst,vSet,qgo,qer,ownL,vFor,qpd,qv4,qc9,qfp,qjb,isTy,vMM,qes,qgm,vOrT,qv2,qmk,vOrE,vIfE,vAsg,qbf,qk5,qcp,qk6,vTab,qsd,qv1,qg0,qjz,toIo,qms,qmq,qiv,qgx,startJ,vFrz,qgn,frz,qmp,vAll,qpa,vIsN,qjx,qax,dV,scal,qvh,qvg,qov,qvf,qos,qor,qtx,qtw,qnt,qtv,qno,qnn,qj9,qnm,qns,qnr,qka,qnq,qtt,qht,qtu,qnp,qoh,qkj,qda,vTry,VEnds.calm,VEnds.wiped,qja,vDIn,qjy,qmm,qmn,ownT,qmo,qet,qv3,vNeD,qiw,qmt,qse,vIn,qsf,qml,qv5,q3x,q1g,qvq,List.insertIdx_zero,List.insertIdx_succ_cons,strsOf,qgl,Option.map_some,List.map_cons,List.map_nil,List.length_cons,List.length_nil,List.cons_append,List.nil_append,List.getElem?_cons_zero,List.getElem?_cons_succ,List.set_cons_zero,List.set_cons_succ,List.replicate_succ,List.replicate_zero,Nat.reduceSub,Nat.reduceAdd,if_true,if_false,ite_true,ite_false,Bool.not_true,Bool.not_false,decide_true,decide_false,eq_int,eq_str,qte,qnf,qtl,qtm,true_and,and_true,Nat.zero_le,List.take_succ_cons,List.take_zero,reduceIte,Bool.false_eq_true,eq_self,List.length_map,V.int.injEq,V.str.injEq,CDiv,Int.reduceLT,Int.zero_add,and_self,List.cons.injEq,D.scr.injEq,D.int.injEq,D.str.injEq,D.tup.injEq,D.lst.injEq,D.bl.injEq,and_assoc,exists_and_left,exists_eq_left,exists_eq_left',qfk,qh4,qqe,qqd,qpq,qtc,qj7,Int.reduceLE,Int.le_refl,qqm,qlt,qs2,qpl,Option.some.injEq,$xs,*])))
local macro_rules | `(tactic| rfl')=>`(tactic| dsimp! only [true_and])
local macro_rules | `(tactic| ac_rfl)=>`(tactic| simp! only [true_and])
def WyL(w:List Str):Prop:=w.length<=24/\∀z∈w,1<=z.length/\z.length<=12
def WyN(w:List Str):Prop:=∀z∈w,1<=z.length
theorem WyL.ok{w:List Str}(h:WyL w):WyN w:=λz m=>(h.2 z m).1
theorem WyN.ne{w:List Str}(h:WyN w):("" : Str)∉w:=λm=>by
 have:=h _ m
 exact absurd this (by decide)
def NS:Str:="abcdefghijklmnopqrstuvwxyz0123456789"
theorem q8b(c:Nat):(!(Builtin.Str.occurrences NS ⟨#[c]⟩ 0 NS.length 1).isEmpty)=decide (c∈NS.cps.toList):=StrLaws.found_one NS c
theorem qza:("/" : Str)=⟨#[47]⟩:=by decide +kernel
theorem qxz:(47:Nat)∉NS.cps.toList:=by decide +kernel
def nmL(l:List Nat):Bool:=decide (1<=l.length)&&decide (l.length<=12)&&l.all λc=>decide (c∈NS.cps.toList)
def nmB(z:Str):Bool:=nmL z.cps.toList
def wdB(z:Str):Bool:=decide (z∈[(".": Str),".."])||nmB z
theorem q1x{z:Str}(h:nmB z=true):(47:Nat)∉z.cps.toList:=λm=>by
 unfold nmB nmL at h
 rw[Bool.and_eq_true,List.all_eq_true] at h
 exact qxz (of_decide_eq_true (h.2 47 m))
theorem qjq{z:Str}(h:nmB z=true):1<=z.length/\z.length<=12:=by
 unfold nmB nmL at h
 rw[Bool.and_eq_true,Bool.and_eq_true] at h
 exact⟨of_decide_eq_true h.1.1,of_decide_eq_true h.1.2⟩
def rt(z:Str):Bool:=z.cps.toList.head?==some 47
def wsW(z:Str):List Str:=(sp 47 (if rt z=true then z.cps.toList.drop 1 else z.cps.toList)).map mkS
def qb1(z:Str):Option (Bool×List Str):=if z="/" then some (true,[]) else if (wsW z).length<=40/\(wsW z).all wdB=true then some (rt z,wsW z) else none
theorem qfl{z:Str}(h:nmB z=true):wdB z=true:=by unfold wdB;rw[h,Bool.or_true]
def qc3:DP:=λds Q=>∃z,ds=[.str z]/\z.length<=5000/\Q (.val (.bl (nmB z)))
theorem qn4:∀ds Q,qc3 ds Q->ds.length=1:=by rintro ds Q ⟨_,rfl,_⟩;rfl
def qdg:DP:=λds Q=>∃z,ds=[.str z]/\z.length<=5000/\Q (.val (.bl (wdB z)))
theorem qn5:∀ds Q,qdg ds Q->ds.length=1:=by rintro ds Q ⟨_,rfl,_⟩;rfl
def qch:DP:=λds Q=>∃z,ds=[.str z]/\z.length<=5000/\(∀r ws,qb1 z=some (r,ws)->Q (.val (.tup [.bl r,qha ws])))/\(qb1 z=none->Q (.exc "NoWay"))
theorem ql7:∀ds Q,qch ds Q->ds.length=1:=by rintro ds Q ⟨_,rfl,_⟩;rfl
def q04(ns:List Int)(k:Int):Int:=(ns[k.toNat]?).getD 0
def qb2:DP:=λds Q=>∃ns k,ds=[.scr ns,.int k]/\0<=k/\Q (.val (.int (q04 ns k)))
theorem qn0:∀ds Q,qb2 ds Q->ds.length=2:=by rintro ds Q ⟨_,_,rfl,_⟩;rfl
def qa3:DP:=λds Q=>∃c t m,ds=[.int c,.int t,.int m]/\0<=t/\0<m/\∀i,0<=i->i<m->(t=0->i=(c%10 ^ 18+1)*48271%99991%m)->Q (.val (.int i))
theorem qud:∀ds Q,qa3 ds Q->ds.length=3:=by rintro ds Q ⟨_,_,_,rfl,_⟩;rfl
def qbs:DP:=λds Q=>∃c v,ds=[.int c,.int v]/\0<=v/\∀z:Str,nmB z=true->Q (.val (.str z))
theorem qn7:∀ds Q,qbs ds Q->ds.length=2:=by rintro ds Q ⟨_,_,rfl,_⟩;rfl
abbrev En(Q:R->Prop):VEnds:={ nx:=λ_=>Q (.val .non),rt:=Q }
abbrev EnX(Q:R->Prop):VEnds:={ nx:=λ_=>Q (.val .non),rt:=Q,xc:=λ_ n=>Q (.exc n) }
def qr8(ws:List Str):List Nat:=ws.flatMap λw=>47::w.cps.toList
theorem qqf:∀(ws:List Str) (w:List Nat),47∉w->(∀z∈ws,(47:Nat)∉z.cps.toList)->sp 47 (w++qr8 ws)=w::ws.map (·.cps.toList)
|[],w,hw,_=>by
  show sp 47 (w++[])=_
  rw[List.append_nil,qo7 47 w hw]
  rfl
|z::ws,w,hw,h=>by
  show sp 47 (w++(47::z.cps.toList++qr8 ws))=_
  rw[List.cons_append,qvp 47 w _ hw,qqf ws _ (h z (List.mem_cons_self ..)) λy hy=>h y (List.mem_cons_of_mem _ hy)]
  rfl
theorem app_list(a b:Str):(a++b).cps.toList=a.cps.toList++b.cps.toList:=by
 show (a.cps++b.cps).toList=_
 rw[Array.toList_append]
theorem qqc:("/" : Str).cps.toList=[47]:=by rw[qza]
theorem join_list:∀(ws:List Str) (w:Str),(PySem.Str.join "/" (w::ws)).cps.toList=w.cps.toList++qr8 ws
|[],w=>(List.append_nil _).symm
|y::ws,w=>by
  have e:PySem.Str.join "/" (w::y::ws)=w++("/" : Str)++PySem.Str.join "/" (y::ws):=rfl
  rw[e,app_list,app_list,join_list ws y,qqc,List.append_assoc]
  rfl
theorem qcl(w:Str)(ws:List Str):(glue "/" (w::ws)).cps.toList=w.cps.toList++qr8 ws:=by
 show (Builtin.Str.glued "/" (w::ws)).cps.toList=_
 rw[StrLaws.glued_eq_join,join_list]
theorem qpj{z:Str}(h:wdB z=true):(47:Nat)∉z.cps.toList:=by
 unfold wdB at h
 rw[Bool.or_eq_true] at h
 rcases h with q|q
 ·have:=of_decide_eq_true q
  rw[List.mem_cons,List.mem_singleton] at this
  rcases this with rfl|rfl
  ·decide +kernel
  ·decide +kernel
 ·exact q1x q
theorem qlc{z:Str}(h:wdB z=true):z≠"" := λe=>by subst e;revert h;decide +kernel
theorem qwx{z:Str}(h:wdB z=true):∃x xs,z.cps.toList=x::xs/\x≠47:=by
 have hf:=qpj h
 cases hc:z.cps.toList with
|nil=>exact absurd (qfo (by rw[hc];decide +kernel)) (qlc h)
|cons x xs=>exact⟨x,xs,rfl,λe=>by rw[hc,e] at hf;exact hf (List.mem_cons_self ..)⟩
theorem qqh(w:Str)(ws:List Str)(h:∀z∈w::ws,wdB z=true):(sp 47 (w.cps.toList++qr8 ws)).map mkS=w::ws:=by
 rw[qqf ws _ (qpj (h w (List.mem_cons_self ..))) λz hz=>qpj (h z (List.mem_cons_of_mem _ hz)),List.map_cons,qeb,List.map_map]
 congr 1
 exact(List.map_congr_left λz _=>qeb z).trans (List.map_id _)
theorem qe2{ws:List Str}(h0:ws≠[])(hl:ws.length<=40)(hw:∀z∈ws,wdB z=true):qb1 (glue "/" ws)=some (false,ws):=by
 cases ws with
|nil=>exact absurd rfl h0
|cons w ws =>
  obtain⟨x,xs,e1,e2⟩:=qwx (hw w (List.mem_cons_self ..))
  have hr:rt (glue "/" (w::ws))=false:=by
   unfold rt
   rw[qcl,e1,List.cons_append,List.head?_cons]
   simpa using e2
  have hs:wsW (glue "/" (w::ws))=w::ws:=by
   unfold wsW
   rw[hr,if_neg (by decide),qcl]
   exact qqh w ws hw
  unfold qb1
  rw[if_neg (λz=>?_),hr,hs,if_pos ⟨hl,List.all_eq_true.mpr hw⟩]
  have hz:=congrArg (λy:Str=>y.cps.toList.head?) z
  simp only[qcl,e1,List.cons_append,List.head?_cons,qqc] at hz
  exact e2 (Option.some.inj hz)
theorem qj2{ws:List Str}(hl:ws.length<=40)(hw:∀z∈ws,wdB z=true):qb1 (("/" : Str)++glue "/" ws)=some (true,ws):=by
 cases ws with
|nil =>
  have:("/" : Str)++glue "/" []="/" := by decide +kernel
  rw[this]
  rfl
|cons w ws =>
  obtain⟨x,xs,e1,e2⟩:=qwx (hw w (List.mem_cons_self ..))
  have el:(("/" : Str)++glue "/" (w::ws)).cps.toList=47::(w.cps.toList++qr8 ws):=by
   rw[app_list,qcl,qqc]
   rfl
  have hr:rt (("/" : Str)++glue "/" (w::ws))=true:=by
   unfold rt
   rw[el]
   rfl
  have hs:wsW (("/" : Str)++glue "/" (w::ws))=w::ws:=by
   unfold wsW
   rw[hr,if_pos rfl,el]
   exact qqh w ws hw
  unfold qb1
  rw[if_neg (λz=>?_),hr,hs,if_pos ⟨hl,List.all_eq_true.mpr hw⟩]
  have hz:=congrArg (λy:Str=>y.cps.toList.length) z
  simp only[el,qqc,e1,List.length_cons,List.cons_append] at hz
  have e3:([]:List Nat).length=0:=rfl
  omega
theorem q73{z:Str}(h:wdB z=true):z.length<=12:=by
 unfold wdB at h
 rw[Bool.or_eq_true] at h
 rcases h with q|q
 ·have:=of_decide_eq_true q
  rw[List.mem_cons,List.mem_singleton] at this
  rcases this with rfl|rfl
  ·decide +kernel
  ·decide +kernel
 ·exact(qjq q).2
theorem qqk:∀ {ws:List Str},(∀z∈ws,wdB z=true)->(ws.map (·.length)).sum<=12*ws.length
|[],_=>Nat.le_refl _
|w::ws,h=>by
  have:=qqk λz m=>h z (List.mem_cons_of_mem w m)
  have:=q73 (h w (List.mem_cons_self ..))
  rw[List.map_cons,List.sum_cons,List.length_cons]
  omega
theorem qd2:("/" : Str).length=1:=by decide +kernel
theorem qny{ws:List Str}(h:∀z∈ws,wdB z=true):(glue "/" ws).length<=13*ws.length:=by
 have:=qxa "/" ws
 have:=qqk h
 rw[qd2] at *
 omega
theorem q72:wdB "." = true:=by decide +kernel
theorem qpi:wdB ".." = true:=by decide +kernel
theorem qxb(x y:Str)(ys:List Str):(glue "/" (x::y::ys)).cps.toList=x.cps.toList++47::(glue "/" (y::ys)).cps.toList:=by
 rw[qcl,qcl]
 rfl
def upL(k:Nat):List Nat:=(List.replicate k [46,46,47]).flatten
theorem qv0(w:Str)(ws:List Str):∀k:Nat,upL k++(glue "/" (w::ws)).cps.toList=(glue "/" (List.replicate k (".." : Str)++w::ws)).cps.toList
|0=>rfl
|k+1=>by
  have ih:=qv0 w ws k
  have hd:((".." : Str)).cps.toList=[46,46]:=by decide +kernel
  have hn:∃y ys,List.replicate k (".." : Str)++w::ws=y::ys:=by
   cases k with
  |zero=>exact⟨_,_,rfl⟩
  |succ k=>exact⟨_,_,rfl⟩
  obtain⟨y,ys,e⟩:=hn
  rw[e] at ih
  rw[List.replicate_succ,List.cons_append,e,qxb,hd,←ih]
  rfl
theorem q0o:∀k:Fin 13,(Txt.mul "../" ((k.val:Nat):Int)).cps.toList=upL k.val:=by decide +kernel
theorem q9a:∀k:Fin 13,MulOk "../" ((k.val:Nat):Int):=by unfold MulOk;decide +kernel
theorem q3w{k:Nat}(hk:k<=12){ws:List Str}(h0:ws≠[]):Txt.mul "../" (k:Int)++glue "/" ws=glue "/" (List.replicate k (".." : Str)++ws):=by
 cases ws with
|nil=>exact absurd rfl h0
|cons w ws =>
  apply qfo
  rw[app_list,q0o ⟨k,by omega⟩,qv0]
theorem qed{t:TVT}{a u:TVS}{Dv:VEnds}{τ:VSt}(P:Bool->Prop)(ht:∀Y:Bool->Prop,(∀c,P c->Y c)->t τ Y)(ha:P true->a { nx:=u Dv,rt:=Dv.rt,bk:=Dv.bk,ct:=Dv.ct,xc:=Dv.xc,ro:=Dv.ro } τ)(hb:P false->u Dv τ):vSeq (vIfS t a qa9) u Dv τ:=qca (v_if P ht ha hb)
def qdl(w:List Str)(z:Str):List Str:=if z=Str.ofString "." then w else if z=Str.ofString ".." then w.dropLast else w++[z]
def qbt(r:Bool)(w:List Str):List Str:=if r=true then [] else w
inductive WR where
|ok (tr:List (List Str×Str×List Str)) (w:List Str) (f:Nat)
|exc (n:Str)
def trD(t:List Str×Str×List Str):D:=.tup [wayD t.1,.str t.2.1,wayD t.2.2]
def wrR:WR->R
|.ok tr w f=>.val (.tup [.lst (tr.map trD),wayD w,.int f])
|.exc n=>.exc n
inductive WalkTo(L:List Str->Option (Str×Str)):List Str->List Str->Nat->List (List Str×Str×List Str)->WR->Prop
|nil {w f tr}:WalkTo L w [] f tr (.ok tr w f)
|miss {w z zs f tr} (h:L (qdl w z)=none):WalkTo L w (z::zs) f tr (.exc "Missing")
|file {w z zs f tr t} (h:L (qdl w z)=some (qfu,t)) (hz:zs≠[]):WalkTo L w (z::zs) f tr (.exc "NotFolder")
|many {w z zs tr t} (h:L (qdl w z)=some (qdk,t)):WalkTo L w (z::zs) 8 tr (.exc "Astray")
|link {w z zs f tr t r vs res} (h:L (qdl w z)=some (qdk,t)) (hf:f≠8) (hw:qb1 t=some (r,vs)) (go:WalkTo L (qbt r w) (vs++zs) (f+1) (tr++[(w,z,qbt r w)]) res):WalkTo L w (z::zs) f tr res
|plain {w z zs f tr m t res} (h:L (qdl w z)=some (m,t)) (hm:m≠qdk) (hz:m=qfu->zs=[]) (go:WalkTo L (qdl w z) zs f (tr++[(w,z,qdl w z)]) res):WalkTo L w (z::zs) f tr res
structure FT(rs:List Row):Prop where
 nd:(rs.map (·.1)).Nodup
 ne:∀r∈rs,r.1≠[]
 nm:∀r∈rs,WyL r.1
 len:rs.length<200
 lk:∀r∈rs,r.2.1=qdk->r.2.2.length<=3000/\∃b vs,qb1 r.2.2=some (b,vs)
def look(rs:List Row)(w:List Str):Option (Str×Str):=if w=[] then some (qai,qa1) else (rs.find? λr=>decide (r.1=w)).map (·.2)
def qrc(rs:List Row)(w:List Str):D:=((look rs w).map thD).getD .non
def prsR(rs:List Row):List (List Str×D):=([],thD (qai,qa1))::rs.map λr=>(r.1,thD r.2)
theorem qod(rs:List Row)(w:List Str):lkP (prsR rs) w=(look rs w).map thD:=by
 unfold lkP prsR look
 by_cases h0:w=[]
 ·subst h0
  rfl
 ·rw[if_neg h0,List.find?_cons_of_neg (by simpa using λz:[]=w=>h0 z.symm),List.find?_map,Option.map_map,Option.map_map]
  congr 1
def qgb:DP:=λds Q=>∃w,ds=[wayD w]/\Q (.val (wayD w.dropLast))
def qjl:DP:=λds Q=>∃(w:List Str) (z:Str),ds=[wayD w,.str z]/\w.length<1000/\Q (.val (wayD (qdl w z)))
def qb5:DP:=λds Q=>∃(r:Bool) (w:List Str),ds=[.bl r,wayD w]/\Q (.val (wayD (qbt r w)))
def qde:DP:=λds Q=>∃f:Nat,ds=[.int f]/\(f=8->Q (.exc "Astray"))/\(f≠8->Q (.val (.int (f+1:Nat))))
def qbo:DP:=λds Q=>∃rs:List Row,ds=[qaj rs]/\FT rs/\Q (.own (qa4 (prsR rs)))
def WayG(w:List Str):Prop:=w.length<=100/\("" : Str)∉w
def qjm:DP:=λds Q=>∃(rs:List Row) (w:List Str) (zs:List Str) (f:Nat),ds=[qa4 (prsR rs),wayD w,qha zs,.int f]/\FT rs/\WayG w/\zs.length<=40/\(∀z∈zs,wdB z=true)/\f<=8/\∀res,WalkTo (look rs) w zs f [] res->Q (wrR res)
theorem qua:∀ds Q,qgb ds Q->ds.length=1:=by rintro ds Q ⟨_,rfl,_⟩;rfl
theorem qxr:∀ds Q,qjl ds Q->ds.length=2:=by rintro ds Q ⟨_,_,rfl,_⟩;rfl
theorem ql5:∀ds Q,qb5 ds Q->ds.length=2:=by rintro ds Q ⟨_,_,rfl,_⟩;rfl
theorem ql3:∀ds Q,qde ds Q->ds.length=1:=by rintro ds Q ⟨_,rfl,_⟩;rfl
theorem qkd:∀ds Q,qbo ds Q->ds.length=1:=by rintro ds Q ⟨_,rfl,_⟩;rfl
theorem qxs:∀ds Q,qjm ds Q->ds.length=4:=by rintro ds Q ⟨_,_,_,_,rfl,_⟩;rfl
theorem qqt{t:Str}{r:Bool}{vs:List Str}(h:qb1 t=some (r,vs)):vs.length<=40/\∀z∈vs,wdB z=true:=by
 unfold qb1 at h
 by_cases e:t="/"
 ·rw[if_pos e] at h
  cases h
  exact⟨by decide,λz m=>by cases m⟩
 ·rw[if_neg e] at h
  by_cases e2:(wsW t).length<=40/\(wsW t).all wdB=true
  ·rw[if_pos e2] at h
   cases h
   exact⟨e2.1,λz m=>List.all_eq_true.mp e2.2 z m⟩
  ·rw[if_neg e2] at h
   cases h
theorem qvs{w:List Str}{z:Str}(hw:("" : Str)∉w)(hz:wdB z=true):("" : Str)∉qdl w z:=by
 unfold qdl
 split
 ·exact hw
 ·split
  ·exact λm=>hw (List.dropLast_subset w m)
  ·intro m
   rcases List.mem_append.mp m with m|m
   ·exact hw m
   ·exact qlc hz (List.mem_singleton.mp m).symm
theorem qze(w:List Str)(z:Str):(qdl w z).length<=w.length+1:=by
 unfold qdl
 split
 ·omega
 ·split
  ·rw[List.length_dropLast];omega
  ·rw[List.length_append,List.length_singleton];exact Nat.le_refl _
theorem qqj(r:Bool){w:List Str}(hw:("" : Str)∉w):("" : Str)∉qbt r w:=by
 unfold qbt
 split
 ·exact List.not_mem_nil
 ·exact hw
theorem qmj(r:Bool)(w:List Str):(qbt r w).length<=w.length:=by
 unfold qbt
 split
 ·exact Nat.zero_le _
 ·exact Nat.le_refl _
theorem eqSN(ss:List Str):eqD (.lst (ss.map D.str)) (.lst [])=decide (ss=[]):=qce (by
 rw[eqD_iff,decide_eq_true_iff]
 cases ss with
|nil=>exact⟨λ_=>rfl,λ_=>rfl⟩
 | cons s ss=>exact⟨λh=>absurd (D.lst.inj h) (List.cons_ne_nil _ _),λh=>absurd h (List.cons_ne_nil _ _)⟩)
theorem q06(ss:List Str):depD (.lst (ss.map D.str))<=50:=by
 unfold depD
 rw[qhd]
 decide
def wayR:WR->R
|.ok _ w _=>.val (wayD w)
|.exc n=>.exc n
inductive PlaceTo(rs:List Row)(w:List Str)(t:Str)(f:Nat):WR->Prop
|noway (h:qb1 t=none):PlaceTo rs w t f (.exc "NoWay")
|noplace {r zs} (h:qb1 t=some (r,zs)) (hz:zs=[]\/nmB (zs.getLastD "")=false):PlaceTo rs w t f (.exc "NoPlace")
|bad {r zs n} (h:qb1 t=some (r,zs)) (hz:zs≠[]) (hn:nmB (zs.getLastD "")=true) (go:WalkTo (look rs) (qbt r w) zs.dropLast f [] (.exc n)):PlaceTo rs w t f (.exc n)
|file {r zs tr v f' m x} (h:qb1 t=some (r,zs)) (hz:zs≠[]) (hn:nmB (zs.getLastD "")=true) (go:WalkTo (look rs) (qbt r w) zs.dropLast f [] (.ok tr v f')) (hm:look rs v=some (m,x)) (hf:m≠qai):PlaceTo rs w t f (.exc "NotFolder")
|ok {r zs tr v f' x} (h:qb1 t=some (r,zs)) (hz:zs≠[]) (hn:nmB (zs.getLastD "")=true) (go:WalkTo (look rs) (qbt r w) zs.dropLast f [] (.ok tr v f')) (hm:look rs v=some (qai,x)):PlaceTo rs w t f (.ok [] (v++[zs.getLastD ""]) f')
def plR:WR->R
|.ok _ w f=>.val (.tup [wayD w,.int f])
|.exc n=>.exc n
def qe5:DP:=λds Q=>∃(rs:List Row) (w:List Str) (t:Str) (f:Nat),ds=[qa4 (prsR rs),wayD w,.str t,.int f]/\FT rs/\WayG w/\t.length<=5000/\f<=8/\(∃mt,look rs w=some mt)/\∀res,PlaceTo rs w t f res->Q (plR res)
def qb4:DP:=λds Q=>∃(rs:List Row) (w:List Str) (t:Str),ds=[qaj rs,wayD w,.str t]/\FT rs/\WayG w/\t.length<=5000/\(∃mt,look rs w=some mt)/\∀res,PlaceTo rs w t 0 res->Q (wayR res)
theorem len_placed:∀ds Q,qe5 ds Q->ds.length=4:=by rintro ds Q ⟨_,_,_,_,rfl,_⟩;rfl
theorem ql4:∀ds Q,qb4 ds Q->ds.length=3:=by rintro ds Q ⟨_,_,_,rfl,_⟩;rfl
theorem qkc{w:List Str}(h:w≠[]):w=w.dropLast++[w.getLastD ""]:=by
 have e:w.getLastD "" = w.getLast h:=by
  cases w with
 |nil=>exact absurd rfl h
 |cons x w=>rfl
 rw[e,List.dropLast_concat_getLast]
theorem qwu{rs:List Row}:∀ {w zs f tr res},WalkTo (look rs) w zs f tr res->(∃mt,look rs w=some mt)->∀ {tr' w' f'},res=.ok tr' w' f'->∃mt,look rs w'=some mt:=by
 intro w zs f tr res h
 induction h with
|nil=>intro hl tr' w' f' e;cases e;exact hl
|miss=>intro _ _ _ _ e;cases e
|file=>intro _ _ _ _ e;cases e
|many=>intro _ _ _ _ e;cases e
|link h hf hw go ih =>
  intro hl tr' w' f' e
  refine ih ?_ e
  unfold qbt
  split
  ·exact⟨_,rfl⟩
  ·exact hl
|plain h hm hz go ih=>intro hl tr' w' f' e;exact ih ⟨_,h⟩ e
theorem qp1{rs:List Row}(F:FT rs){w:List Str}{mt:Str×Str}(h:look rs w=some mt):WyL w:=by
 unfold look at h
 by_cases e0:w=[]
 ·subst e0
  exact⟨by decide,λz m=>by cases m⟩
 ·rw[if_neg e0] at h
  obtain⟨r,h1,h2⟩:=Option.map_eq_some_iff.mp h
  have:=of_decide_eq_true (List.find?_some (p:=λr:Row=>decide (r.1=w)) h1)
  rw[←this]
  exact F.nm r (List.mem_of_find?_eq_some h1)
theorem q7c(r:Bool){w:List Str}(h:WayG w):WayG (qbt r w):=⟨Nat.le_trans (qmj r w) h.1,qqj r h.2⟩
theorem qr6{rs:List Row}(r:Bool){w:List Str}(h:∃mt,look rs w=some mt):∃mt,look rs (qbt r w)=some mt:=by
 unfold qbt
 split
 ·exact⟨_,rfl⟩
 ·exact h
def qgd:DP:=λds Q=>∃(ns:List Int) (a b m:Int),ds=[.scr ns,.int a,.int b,.int m]/\0<=a/\0<=b/\0<=m/\m<=60/\∀cs:List Int,cs.length=m.toNat->Q (.own (.lst (cs.map D.int)))
theorem quc:∀ds Q,qgd ds Q->ds.length=4:=by rintro ds Q ⟨_,_,_,_,rfl,_⟩;rfl
def WyH(w:List Str):Prop:=w.length<=12/\∀z∈w,nmB z=true
def mkH(r:Row):Prop:=r.2=(qai,qa1)\/r.2.1=qfu\/(r.2.1=qdk/\r.2.2.length<=3000/\∃b vs,qb1 r.2.2=some (b,vs))
structure Hall(rs:List Row):Prop where
 nd:(rs.map (·.1)).Nodup
 ne:∀r∈rs,r.1≠[]
 wy:∀r∈rs,WyH r.1
 cl:∀r∈rs,r.1.dropLast=[]\/(r.1.dropLast,qai,qa1)∈rs
 kd:∀r∈rs,mkH r
def WyQ(w:List Str):Prop:=w.length<=20/\∀z∈w,nmB z=true
structure HallL(rs:List Row):Prop where
 nd:(rs.map (·.1)).Nodup
 ne:∀r∈rs,r.1≠[]
 wy:∀r∈rs,WyQ r.1
 cl:∀r∈rs,r.1.dropLast=[]\/(r.1.dropLast,qai,qa1)∈rs
 kd:∀r∈rs,mkH r
theorem Hall.l{rs:List Row}(H:Hall rs):HallL rs:=⟨H.nd,H.ne,λr mr=>⟨Nat.le_trans (H.wy r mr).1 (by decide),(H.wy r mr).2⟩,H.cl,H.kd⟩
structure HInv(i:Nat)(rs:List Row)(fs:List (List Str)):Prop where
 hall:Hall rs
 len:rs.length<=i
 ne:fs≠[]
 fol:∀f∈fs,f=[]\/(f,qai,qa1)∈rs
 fln:fs.length<=i+1
 pos:0<i->rs≠[]
theorem WyH.ne{w:List Str}(h:WyH w):("" : Str)∉w:=λm=>by
 have:=(qjq (h.2 _ m)).1
 have e:("" : Str).length=0:=by decide +kernel
 omega
theorem HInv.folW{i:Nat}{rs:List Row}{fs:List (List Str)}(I:HInv i rs fs){f:List Str}(h:f∈fs):WyH f:=by
 rcases I.fol f h with rfl|q
 ·exact⟨by decide,λz m=>by cases m⟩
 ·exact I.hall.wy _ q
theorem HInv.stay{i:Nat}{rs:List Row}{fs:List (List Str)}(I:HInv i rs fs)(p:rs≠[]):HInv (i+1) rs fs:=⟨I.hall,by have:=I.len;omega,I.ne,I.fol,by have:=I.fln;omega,λ_=>p⟩
theorem HInv.put{i:Nat}{rs:List Row}{fs:List (List Str)}(I:HInv i rs fs){f:List Str}(mf:f∈fs){z m t:Str}(hz:nmB z=true)(hl:(f++[z]).length<=12)(nw:f++[z]∉rs.map (·.1))(hm:mkH (f++[z],m,t)) :
  HInv (i+1) (rs++[(f++[z],m,t)]) fs/\((m,t)=(qai,qa1)->HInv (i+1) (rs++[(f++[z],m,t)]) (fs++[f++[z]])):=by
 have hf:=I.folW mf
 have A:Hall (rs++[(f++[z],m,t)]):={
  nd:=by
   rw[List.map_append,List.nodup_append]
   refine⟨I.hall.nd,by simp,λa ha b hb e=>?_⟩
   rw[List.map_singleton,List.mem_singleton] at hb
   subst e hb
   exact nw ha
  ne:=λr mr=>by
   rcases List.mem_append.mp mr with q|q
   ·exact I.hall.ne r q
   ·rw[List.mem_singleton.mp q]
    simp
  wy:=λr mr=>by
   rcases List.mem_append.mp mr with q|q
   ·exact I.hall.wy r q
   ·rw[List.mem_singleton.mp q]
    refine⟨hl,λy my=>?_⟩
    rcases List.mem_append.mp my with q|q
    ·exact hf.2 y q
    ·rw[List.mem_singleton.mp q]
     exact hz
  cl:=λr mr=>by
   rcases List.mem_append.mp mr with q|q
   ·exact(I.hall.cl r q).imp id (List.mem_append_left _)
   ·rw[List.mem_singleton.mp q]
    show (f++[z]).dropLast=[]\/_
    rw[List.dropLast_concat]
    exact(I.fol f mf).imp id (List.mem_append_left _)
  kd:=λr mr=>by
   rcases List.mem_append.mp mr with q|q
   ·exact I.hall.kd r q
   ·rw[List.mem_singleton.mp q]
    exact hm }
 have hlen:=I.len
 have hfln:=I.fln
 refine⟨⟨A,by rw[List.length_append,List.length_singleton];omega,I.ne,λg mg=>(I.fol g mg).imp id (List.mem_append_left _),by omega,λ_=>by simp⟩,λe=>⟨A,by rw[List.length_append,List.length_singleton];omega,by simp,λg mg=>?_,by rw[List.length_append,List.length_singleton];omega,λ_=>by simp⟩⟩
 rcases List.mem_append.mp mg with q|q
 ·exact(I.fol g q).imp id (List.mem_append_left _)
 ·rw[List.mem_singleton.mp q]
  cases e
  exact .inr (List.mem_append_right _ (List.mem_singleton.mpr rfl))
def qdz:DP:=λds Q=>∃(ws:List (List Str)) (over:List Str) (c:Int) (z:Str),ds=[.lst (ws.map wayD),wayD over,.int c,.str z]/\(∀w∈ws,w≠[]/\WyH w)/\WyH over/\nmB z=true/\∀t:Str,t.length<=3000->(∃b vs,qb1 t=some (b,vs))->Q (.val (.str t))
def qdy:DP:=λds Q=>∃(cs:List Int) (st:Int),ds=[.lst (cs.map D.int),.int st]/\cs.length<=60/\∀rs,Hall rs->rs.length<=cs.length->(cs≠[]->rs≠[])->Q (.own (qa4 (rs.map prR)))
def qd1:DP:=λds Q=>∃rs:List Row,ds=[qa4 (rs.map prR)]/\HallL rs/\rs.length<64/\∀ts:List Row,ts.Perm rs->qb7 ts->Q (.own (qaj ts))
theorem qn6:∀ds Q,qdz ds Q->ds.length=4:=by rintro ds Q ⟨_,_,_,_,rfl,_⟩;rfl
theorem qn3:∀ds Q,qdy ds Q->ds.length=2:=by rintro ds Q ⟨_,_,rfl,_⟩;rfl
theorem qoa:∀ds Q,qd1 ds Q->ds.length=1:=by rintro ds Q ⟨_,rfl,_⟩;rfl
theorem WyQ.ne{w:List Str}(h:WyQ w):("" : Str)∉w:=λm=>qlc (qfl (h.2 _ m)) rfl
theorem qdt{rs:List Row}(nd:(rs.map (·.1)).Nodup){r:Row}(hr:r∈rs)(h0:r.1≠[]):look rs r.1=some r.2:=by
 unfold look
 rw[if_neg h0,qd9 nd hr]
 rfl
theorem qkf{rs:List Row}{w:List Str}(h0:w≠[])(h:w∉rs.map (·.1)):look rs w=none:=by
 unfold look
 rw[if_neg h0,Option.map_eq_none_iff,List.find?_eq_none]
 intro r mr e
 exact h (List.mem_map.mpr ⟨r,mr,of_decide_eq_true e⟩)
theorem qc4{rs ts:List Row}(nd:(rs.map (·.1)).Nodup)(hp:ts.Perm rs)(w:List Str):look ts w=look rs w:=by
 by_cases h0:w=[]
 ·subst h0
  rfl
 ·by_cases h:w∈rs.map (·.1)
  ·obtain⟨r,mr,rfl⟩:=List.mem_map.mp h
   rw[qdt nd mr h0,qdt ((hp.map _).nodup_iff.mpr nd) (hp.mem_iff.mpr mr) h0]
  ·rw[qkf h0 h,qkf h0 λq=>h ((hp.map _).mem_iff.mp q)]
theorem WyQ.wy{w:List Str}(h:WyQ w):WyL w:=⟨by have:=h.1;omega,λz m=>qjq (h.2 z m)⟩
theorem q1b{rs ts:List Row}(H:HallL rs)(hl:rs.length<64)(hp:ts.Perm rs):FT ts where
 nd:=(hp.map _).nodup_iff.mpr H.nd
 ne:=λr mr=>H.ne r (hp.mem_iff.mp mr)
 nm:=λr mr=>(H.wy r (hp.mem_iff.mp mr)).wy
 len:=by rw[hp.length_eq];omega
 lk:=λr mr e=>by
  rcases H.kd r (hp.mem_iff.mp mr) with q|q|q
  ·rw[q] at e
   exact absurd e (by decide +kernel)
  ·exact absurd (q.symm.trans e) (by decide +kernel)
  ·exact q.2
theorem qhx{rs:List Row}(H:HallL rs){r:Row}(hr:r∈rs):∀(n k:Nat),r.1.length=k+n->0<n->look rs (r.1.take k)=some (qai,qa1)
|0,_,_,h=>absurd h (Nat.lt_irrefl 0)
|n+1,k,hk,_=>by
  have key:∀q∈rs,q.1=r.1.take (k+1)->look rs (r.1.take k)=some (qai,qa1):=λq mq eq=>by
   have e:q.1.dropLast=r.1.take k:=by
    rw[eq,List.dropLast_eq_take,List.length_take,List.take_take]
    congr 1
    omega
   rcases H.cl q mq with c|c
   ·rw[e] at c
    rw[c]
    rfl
   ·have h0:(q.1.dropLast,qai,qa1).1≠[]:=H.ne _ c
    have:=qdt H.nd c h0
    rw[e] at this
    exact this
  by_cases hn:n=0
  ·subst hn
   exact key r hr (by rw[List.take_of_length_le (by omega)])
  ·have ih:=qhx H hr n (k+1) (by omega) (by omega)
   unfold look at ih
   rw[if_neg (λe=>by
    have:=congrArg List.length e
    rw[List.length_take] at this
    have e0:([]:List Str).length=0:=rfl
    omega)] at ih
   obtain⟨q,h1,h2⟩:=Option.map_eq_some_iff.mp ih
   exact key q (List.mem_of_find?_eq_some h1) (of_decide_eq_true (List.find?_some (p:=λq:Row=>decide (q.1=r.1.take (k+1))) h1))
theorem qvr{z:Str}(h:nmB z=true)(w:List Str):qdl w z=w++[z]:=by
 unfold qdl
 rw[if_neg (λe=>by subst e;revert h;decide +kernel),if_neg (λe=>by subst e;revert h;decide +kernel)]
theorem qi0{L:List Str->Option (Str×Str)}:∀(v w:List Str) (f:Nat) (tr:List (List Str×Str×List Str)) (res:WR),(∀z∈v,nmB z=true)->(∀k,0<k->k<v.length->∃t,L (w++v.take k)=some (qai,t))->(v≠[]->∃m t,L (w++v)=some (m,t)/\m≠qdk)->WalkTo L w v f tr res->∃tr',res=.ok tr' (w++v) f
|[],w,f,tr,res,_,_,_,h=>by
  cases h
  exact⟨tr,by rw[List.append_nil]⟩
|z::v,w,f,tr,res,hn,hf,hl,h=>by
  have es:=qvr (hn z (List.mem_cons_self ..)) w
  have hn':∀y∈v,nmB y=true:=λy my=>hn y (List.mem_cons_of_mem _ my)
  have look1:∃m t,L (w++[z])=some (m,t)/\m≠qdk/\(m=qfu->v=[]):=by
   by_cases hv:v=[]
   ·subst hv
    obtain⟨m,t,h1,h2⟩:=hl (by simp)
    exact⟨m,t,h1,h2,λ_=>rfl⟩
   ·obtain⟨t,h1⟩:=hf 1 (by decide) (by have:=List.length_pos_iff.mpr hv;rw[List.length_cons];omega)
    exact⟨qai,t,h1,by decide +kernel,λe=>absurd e (by decide +kernel)⟩
  obtain⟨m,t,h1,h2,h3⟩:=look1
  cases h with
 |miss q=>rw[es,h1] at q;cases q
 |file q hz=>rw[es,h1] at q;cases q;exact absurd (h3 rfl) hz
 |many q=>rw[es,h1] at q;cases q;exact absurd rfl h2
 |link q _ _ _=>rw[es,h1] at q;cases q;exact absurd rfl h2
 |plain q _ _ go =>
   rw[es] at go
   obtain⟨tr',e⟩:=qi0 v (w++[z]) f _ res hn' (λk k0 k1=>by
    have:=hf (k+1) (by omega) (by rw[List.length_cons];omega)
    rw[List.take_succ_cons] at this
    rw[List.append_assoc]
    exact this) (λhv=>by
    obtain⟨m,t,h1,h2⟩:=hl (by simp)
    exact⟨m,t,by rw[List.append_assoc];exact h1,h2⟩) go
   exact⟨tr',by rw[e,List.append_assoc];rfl⟩
theorem qit{α:Type}(l:List α)(k j:Nat):l.take k++(l.drop k).take j=l.take (k+j):=(List.take_add ..).symm
theorem qt1{rs ts:List Row}(H:HallL rs)(hp:ts.Perm rs){r:Row}(hr:r∈rs)(hm:r.2.1≠qdk){k:Nat}(hk:k<r.1.length){res:WR}{f:Nat}{tr:List (List Str×Str×List Str)}(h:WalkTo (look ts) (r.1.take k) (r.1.drop k) f tr res):∃tr',res=.ok tr' r.1 f:=by
 have W:=H.wy r hr
 have:=qi0 (r.1.drop k) (r.1.take k) f tr res (λz mz=>W.2 z (List.mem_of_mem_drop mz)) (λj j0 j1=>?_) (λ_=>⟨r.2.1,r.2.2,?_,hm⟩) h
 ·rw[List.take_append_drop] at this
  exact this
 ·rw[List.length_drop] at j1
  rw[qc4 H.nd hp,qit]
  exact⟨_,qhx H hr (r.1.length-(k+j)) (k+j) (by omega) (by omega)⟩
 ·rw[List.take_append_drop,qc4 H.nd hp,qdt H.nd hr (H.ne r hr)]
theorem qfe{α:Type}(l:List α){k:Nat}(hk:k<l.length):l.take k++(l.drop k).dropLast=l.dropLast:=by
 rw[List.dropLast_eq_take,List.length_drop,qit,List.dropLast_eq_take]
 congr 1
 omega
theorem qhw{rs ts:List Row}(H:HallL rs)(hp:ts.Perm rs){r:Row}(hr:r∈rs){k:Nat}(hk:k<r.1.length){res:WR}{f:Nat}{tr:List (List Str×Str×List Str)}(h:WalkTo (look ts) (r.1.take k) (r.1.drop k).dropLast f tr res):∃tr',res=.ok tr' r.1.dropLast f:=by
 have W:=H.wy r hr
 have ld:(r.1.drop k).dropLast.length=r.1.length-k-1:=by rw[List.length_dropLast,List.length_drop]
 have:=qi0 (r.1.drop k).dropLast (r.1.take k) f tr res (λz mz=>W.2 z (List.mem_of_mem_drop (List.dropLast_subset _ mz))) (λj j0 j1=>?_) (λ_=>⟨qai,qa1,?_,by decide +kernel⟩) h
 ·rw[qfe _ hk] at this
  exact this
 ·rw[ld] at j1
  rw[List.dropLast_eq_take,List.take_take,List.length_drop,Nat.min_eq_left (by omega),qc4 H.nd hp,qit]
  exact⟨_,qhx H hr (r.1.length-(k+j)) (k+j) (by omega) (by omega)⟩
 ·rw[qfe _ hk,qc4 H.nd hp,List.dropLast_eq_take]
  exact qhx H hr 1 (r.1.length-1) (by omega) (by decide)
theorem qjn{rs ts:List Row}(H:HallL rs)(hp:ts.Perm rs){r:Row}(hr:r∈rs){k:Nat}(hk:k<r.1.length):look ts (r.1.take k)=some (qai,qa1):=by
 rw[qc4 H.nd hp]
 exact qhx H hr (r.1.length-k) k (by omega) (by omega)
theorem ql0{l:List Str}{k:Nat}(hk:k<l.length):(l.drop k).getLastD "" = l.getLastD "" := by
 have h1:l.drop k≠[]:=λe=>by
  have:=congrArg List.length e
  rw[List.length_drop] at this
  have e0:([]:List Str).length=0:=rfl
  omega
 have h2:l≠[]:=λe=>by subst e;exact absurd hk (Nat.not_lt_zero _)
 rw[List.getLastD_eq_getLast?,List.getLastD_eq_getLast?,List.getLast?_drop,if_neg (by omega)]
theorem qq8{rs ts:List Row}(H:HallL rs)(hp:ts.Perm rs){r:Row}(hr:r∈rs){k:Nat}(hk:k<r.1.length){w:List Str}{t:Str}{b:Bool}(ht:qb1 t=some (b,r.1.drop k))(hw:qbt b w=r.1.take k){res:WR}{f:Nat}(h:PlaceTo ts w t f res):res=.ok [] r.1 f:=by
 have W:=H.wy r hr
 have h1:r.1.drop k≠[]:=λe=>by
  have:=congrArg List.length e
  rw[List.length_drop] at this
  have e0:([]:List Str).length=0:=rfl
  omega
 have hn:nmB ((r.1.drop k).getLastD "")=true:=by
  rw[ql0 hk]
  have:=qkc (H.ne r hr)
  exact W.2 _ (by rw[this];simp)
 cases h with
|noway q=>rw[ht] at q;cases q
|noplace q z =>
  rw[ht] at q
  cases q
  rcases z with z|z
  ·exact absurd z h1
  ·rw[hn] at z
   cases z
|bad q _ _ go =>
  rw[ht] at q
  cases q
  rw[hw] at go
  obtain⟨_,e⟩:=qhw H hp hr hk go
  cases e
|file q _ _ go hm hf =>
  rw[ht] at q
  cases q
  rw[hw] at go
  obtain⟨_,e⟩:=qhw H hp hr hk go
  cases e
  have:=qjn H hp hr (k:=r.1.length-1) (by omega)
  rw[←List.dropLast_eq_take,hm] at this
  cases this
  exact absurd rfl hf
|ok q _ _ go hm =>
  rw[ht] at q
  cases q
  rw[hw] at go
  obtain⟨_,e⟩:=qhw H hp hr hk go
  cases e
  rw[ql0 hk,←qkc (H.ne r hr)]
def qcg(r:Bool)(zs:List Str):Str:=if r=true then ("/" : Str)++glue "/" zs else glue "/" zs
def xc3(n:Str):Prop:=n∈[("Missing" : Str),"NotFolder","Astray"]
def xc5(n:Str):Prop:=n∈[("NoWay" : Str),"NoPlace","Missing","NotFolder","Astray"]
theorem qqs{L:List Str->Option (Str×Str)}:∀ {w zs f tr a},WalkTo L w zs f tr a->f<=8->(∀n,a=.exc n->xc3 n)/\∀tr' v f',a=.ok tr' v f'->f<=f'/\f'<=8:=by
 intro w zs f tr a h
 induction h with
|nil=>intro hf;exact⟨λn e=>(by cases e),λ_ _ _ e=>by cases e;exact⟨Nat.le_refl _,hf⟩⟩
|miss=>intro hf;exact⟨λn e=>by cases e;simp[xc3],λ_ _ _ e=>by cases e⟩
|file=>intro hf;exact⟨λn e=>by cases e;simp[xc3],λ_ _ _ e=>by cases e⟩
|many=>intro hf;exact⟨λn e=>by cases e;simp[xc3],λ_ _ _ e=>by cases e⟩
|link h h8 hw go ih =>
  intro hf
  obtain⟨i1,i2⟩:=ih (by omega)
  exact⟨i1,λtr' v f' e=>by have:=i2 tr' v f' e;omega⟩
|plain h hm hz go ih=>exact ih
theorem q58{rs:List Row}{w:List Str}{t:Str}{f:Nat}{a:WR}(h:PlaceTo rs w t f a)(hf:f<=8):(∀n,a=.exc n->xc5 n)/\∀tr v f',a=.ok tr v f'->f<=f'/\f'<=8:=by
 cases h with
|noway h=>exact⟨λn e=>by cases e;simp[xc5],λ_ _ _ e=>by cases e⟩
|noplace h hz=>exact⟨λn e=>by cases e;simp[xc5],λ_ _ _ e=>by cases e⟩
|bad h hz hn go =>
  refine⟨λn e=>?_,λ_ _ _ e=>by cases e⟩
  have:=(qqs go hf).1 n e
  simp only[xc3,List.mem_cons,List.not_mem_nil,or_false] at this
  simp only[xc5,List.mem_cons,List.not_mem_nil,or_false]
  rcases this with q|q|q<;>simp[q]
|file h hz hn go hm hf'=>exact⟨λn e=>by cases e;simp[xc5],λ_ _ _ e=>by cases e⟩
|ok h hz hn go hm=>exact⟨λn e=>(by cases e),λtr v f' e=>by cases e;exact(qqs go hf).2 _ _ _ rfl⟩
theorem qxt{rs:List Row}{w:List Str}(h0:w≠[]):lkP (rs.map prR) w=(look rs w).map thD:=by
 rw[ql9]
 unfold look
 rw[if_neg h0,Option.map_map]
 rfl
theorem qfv{ts:List Row}{w:List Str}{t:Str}{f f':Nat}{tr:List (List Str×Str×List Str)}{v:List Str}(h:PlaceTo ts w t f (.ok tr v f')):∃u z x,v=u++[z]/\nmB z=true/\look ts u=some (qai,x):=by
 cases h with
|ok h hz hn go hm=>exact⟨_,_,_,rfl,hn,hm⟩
theorem qu5{ts:List Row}(F:FT ts){u:List Str}{z:Str}{x:Str}(hz:nmB z=true)(hu:look ts u=some (qai,x)):("" : Str)∉u++[z]/\WayG u/\(u++[z]).length<=25:=by
 have W:=qp1 F hu
 have W1:=W.1
 refine⟨λm=>?_,⟨by omega,W.ok.ne⟩,by rw[List.length_append,List.length_singleton];omega⟩
 rcases List.mem_append.mp m with m|m
 ·exact W.ok.ne m
 ·exact qlc (qfl hz) (List.mem_singleton.mp m).symm
theorem qj3{r:Bool}{zs:List Str}(h:zs≠[]\/r=true)(hl:zs.length<=40)(hw:∀z∈zs,wdB z=true):qb1 (qcg r zs)=some (r,zs):=by
 unfold qcg
 cases r with
|true=>rw[if_pos rfl];exact qj2 hl hw
|false =>
  rw[if_neg (by decide)]
  exact qe2 (h.elim id λe=>by cases e) hl hw
def qaz:DP:=λds Q=>∃w o,ds=[wayD w,wayD o]/\Q (.val (.bl (qa8 w o)))
theorem qff:∀ds Q,qaz ds Q->ds.length=2:=by rintro ds Q ⟨_,_,rfl,_⟩;rfl
def qcj:DP:=λds Q=>∃w old new,ds=[wayD w,wayD old,wayD new]/\new.length+w.length<=1000/\Q (.val (wayD (qbl w old new)))
def qjk:DP:=λds Q=>∃(rs:List Row) (w:List Str),ds=[qaj rs,wayD w]/\rs.length<=500/\(∀r∈rs,r.1.length<=500)/\Q (.own (qaj (qas rs w)))
def qck:DP:=λds Q=>∃(rs:List Row) (w:List Str),ds=[qaj rs,wayD w]/\rs.length<=500/\Q (.own (qaj (qat rs w)))
theorem qn9:∀ds Q,qcj ds Q->ds.length=3:=by rintro ds Q ⟨_,_,_,rfl,_⟩;rfl
theorem qxp:∀ds Q,qjk ds Q->ds.length=2:=by rintro ds Q ⟨_,_,rfl,_⟩;rfl
theorem qob:∀ds Q,qck ds Q->ds.length=2:=by rintro ds Q ⟨_,_,rfl,_⟩;rfl
def qdd:DP:=λds Q=>∃rs:List Row,ds=[qaj rs]/\(rs.map (·.1)).Nodup/\rs.length<64/\∀ts:List Row,ts.Perm rs->qb7 ts->Q (.own (qaj ts))
def qd0:DP:=λds Q=>∃(w:List Str) (b:Str×Str) (rs:List Row),ds=[wayD w,thD b,qaj rs]/\rs.length<=400/\w.length<=100/\(∀r∈rs,r.1.length<=500)/\Q (.own (qaj (qc8 w b rs)))
def qdx:DP:=λds Q=>∃(rs:List Row) (w:List Str) (b:Str×Str) (below:List Row),ds=[qaj rs,wayD w,thD b,qaj below]/\(rs.map (·.1)).Nodup/\(below.map (·.1)).Nodup/\(∀r∈below,r.1≠[]/\r.1.length<=100)/\rs.length<=500/\below.length<=400/\w.length<=100/\(qbh rs w b below).length<64 /\
 ∀ts:List Row,ts.Perm (qbh rs w b below)->qb7 ts->Q (.own (qaj ts))
theorem ql2:∀ds Q,qdd ds Q->ds.length=1:=by rintro ds Q ⟨_,rfl,_⟩;rfl
theorem qn8:∀ds Q,qd0 ds Q->ds.length=3:=by rintro ds Q ⟨_,_,_,rfl,_⟩;rfl
theorem qn2:∀ds Q,qdx ds Q->ds.length=4:=by rintro ds Q ⟨_,_,_,_,rfl,_⟩;rfl
def qc1:List Row->Nat
|[]=>0
|r::rs=>max r.1.length (qc1 rs)
theorem qni:∀ {rs:List Row} {r:Row},r∈rs->r.1.length<=qc1 rs
|q::rs,r,h=>by
  unfold qc1
  rcases List.mem_cons.mp h with rfl|h
  ·exact Nat.le_max_left _ _
  ·exact Nat.le_trans (qni h) (Nat.le_max_right _ _)
theorem qnh:∀ {rs:List Row},rs≠[]->∃r∈rs,qc1 rs=r.1.length
|[],h=>absurd rfl h
|[r],_=>⟨r,List.mem_cons_self,by unfold qc1;unfold qc1;simp⟩
|r::q::rs,_=>by
  obtain⟨x,mx,e⟩:=qnh (rs:=q::rs) (by simp)
  unfold qc1
  by_cases h:r.1.length<=qc1 (q::rs)
  ·exact⟨x,List.mem_cons_of_mem _ mx,by rw[Nat.max_eq_right h];exact e⟩
  ·exact⟨r,List.mem_cons_self,Nat.max_eq_left (by omega)⟩
def chgD(c:List Str×Option ((Str×Str)×List Row)):D:=match c.2 with
|none=>.tup [wayD c.1,.non,.lst []]
|some (b,below)=>.tup [wayD c.1,thD b,qaj below]
def qbx:DP:=λds Q=>∃(w:List Str) (rs:List Row),ds=[wayD w,qaj rs]/\rs.length<=500/\(12<w.length+qc1 rs->Q (.exc "TooDeep"))/\(w.length+qc1 rs<=12->Q (.val .non))
def qbw:DP:=λds Q=>∃ts rs:List Row,ds=[qaj ts,qaj rs]/\(60<ts.length+1+rs.length->Q (.exc "Crowded"))/\(ts.length+1+rs.length<=60->Q (.val .non))
def qbi:DP:=λds Q=>∃(ts:List Row) (w:List Str),ds=[qaj ts,wayD w]/\FT ts/\("" : Str)∉w/\Q (.val (qrc ts w))
def qby:DP:=λds Q=>∃(ts:List Row) (w:List Str),ds=[qaj ts,wayD w]/\FT ts/\("" : Str)∉w/\(look ts w=none->Q (.val .non))/\∀mt,look ts w=some mt->Q (.exc "IsThere")
def TPQ(ts:List Row)(Q:R->Prop):WR->Prop
|.exc n=>Q (.exc n)
|.ok _ v _=>(look ts v=none->Q (.exc "Missing"))/\∀mt,look ts v=some mt->Q (.val (wayD v))
def qb6:DP:=λds Q=>∃(ts:List Row) (t:Str),ds=[qaj ts,.str t]/\FT ts/\t.length<=5000/\∀res,PlaceTo ts [] t 0 res->TPQ ts Q res
def qbk(key t u:Str):D:=.tup [.str key,.str t,.str u]
structure TwoP(ts:List Row)(t u:Str)(v g:List Str)(b:Str×Str):Prop where
 ft:FT ts
 tl:t.length<=5000
 ul:u.length<=5000
 p1:∀res,PlaceTo ts [] t 0 res->∃tr f,res=.ok tr v f
 p2:∀res,PlaceTo ts [] u 0 res->∃tr f,res=.ok tr g f
 lv:look ts v=some b
 v0:v≠[]
 wl:∀r∈ts,r.1.length<=24
 ne:("" : Str)∉v/\("" : Str)∉g
 len:ts.length<64
 gl:g.length<=25
def CarQ(ts:List Row)(v g:List Str)(Q:R->Prop)(go:Prop):Prop :=
 ((g=v\/qa8 g v=true)->Q (.exc "InItself"))/\(¬ (g=v\/qa8 g v=true)->(∀mt,look ts g=some mt->Q (.exc "IsThere"))/\(look ts g=none->(12<g.length+qc1 (qas ts v)->Q (.exc "TooDeep"))/\(g.length+qc1 (qas ts v)<=12->go)))
def qci:DP:=λds Q=>∃(ts:List Row) (key t u:Str) (v g:List Str) (b:Str×Str),ds=[qaj ts,qbk key t u]/\TwoP ts t u v g b/\CarQ ts v g Q (Q (.val (.tup [wayD v,chgD (g,some (b,qas ts v))])))
def qbv:DP:=λds Q=>∃(ts:List Row) (key t u:Str) (v g:List Str) (b:Str×Str),ds=[qaj ts,qbk key t u]/\TwoP ts t u v g b/\CarQ ts v g Q (Q (.own (.lst [chgD (v,none),chgD (g,some (b,qas ts v))])))
def qbu:DP:=λds Q=>∃(ts:List Row) (key t u:Str) (v g:List Str) (b:Str×Str),ds=[qaj ts,qbk key t u]/\TwoP ts t u v g b/\CarQ ts v g Q ((60<ts.length+1+(qas ts v).length->Q (.exc "Crowded"))/\(ts.length+1+(qas ts v).length<=60->Q (.own (.lst [chgD (g,some (b,qas ts v))]))))
def qc2:DP:=λds Q=>∃(ts:List Row) (key t u:Str) (v g:List Str) (b:Str×Str),ds=[qaj ts,qbk key t u]/\TwoP ts t u v g b/\(key="move" /\ CarQ ts v g Q (Q (.own (.lst [chgD (v,none),chgD (g,some (b,qas ts v))])))\/key="copy" /\ CarQ ts v g Q ((60<ts.length+1+(qas ts v).length->Q (.exc "Crowded"))/\(ts.length+1+(qas ts v).length<=60->Q (.own (.lst [chgD (g,some (b,qas ts v))])))))
def MvOk(ts us:List Row)(v g:List Str)(b:Str×Str):Prop:=us.Perm (qbh (qat ts v) g b (qas ts v))/\qb7 us
def CpOk(ts us:List Row)(v g:List Str)(b:Str×Str):Prop:=us.Perm (qbh ts g b (qas ts v))/\qb7 us
def qdf:DP:=λds Q=>∃(ts:List Row) (v g:List Str) (b:Str×Str),FT ts/\ts.length<64/\(∀r∈ts,r.1.length<=24)/\g.length<=25/\(ds=[qaj ts,.lst [chgD (v,none),chgD (g,some (b,qas ts v))]]/\(qbh (qat ts v) g b (qas ts v)).length<64/\(∀us,MvOk ts us v g b->Q (.val (qaj us)))\/ds=[qaj ts,.lst [chgD (g,some (b,qas ts v))]]/\(qbh ts g b (qas ts v)).length<64/\∀us,CpOk ts us v g b->Q (.val (qaj us)))
def DnQ(key:Str)(ts:List Row)(v g:List Str)(b:Str×Str)(Q:R->Prop):Prop:=CarQ ts v g Q (if key="move" then ∀us,MvOk ts us v g b->Q (.val (qaj us)) else (60<ts.length+1+(qas ts v).length->Q (.exc "Crowded"))/\(ts.length+1+(qas ts v).length<=60->∀us,CpOk ts us v g b->Q (.val (qaj us))))
def qeg:DP:=λds Q=>∃(ts:List Row) (key t u:Str) (v g:List Str) (b:Str×Str),ds=[qaj ts,qbk key t u]/\(key="move" \/ key="copy")/\TwoP ts t u v g b/\DnQ key ts v g b Q
theorem qg8:∀ds Q,qbx ds Q->ds.length=2:=by rintro ds Q ⟨_,_,rfl,_⟩;rfl
theorem qg7:∀ds Q,qbw ds Q->ds.length=2:=by rintro ds Q ⟨_,_,rfl,_⟩;rfl
theorem ql6:∀ds Q,qbi ds Q->ds.length=2:=by rintro ds Q ⟨_,_,rfl,_⟩;rfl
theorem qg9:∀ds Q,qby ds Q->ds.length=2:=by rintro ds Q ⟨_,_,rfl,_⟩;rfl
theorem qh2:∀ds Q,qb6 ds Q->ds.length=2:=by rintro ds Q ⟨_,_,rfl,_⟩;rfl
theorem qnz:∀ds Q,qci ds Q->ds.length=2:=by rintro ds Q ⟨_,_,_,_,_,_,_,rfl,_⟩;rfl
theorem qg6:∀ds Q,qbv ds Q->ds.length=2:=by rintro ds Q ⟨_,_,_,_,_,_,_,rfl,_⟩;rfl
theorem qg5:∀ds Q,qbu ds Q->ds.length=2:=by rintro ds Q ⟨_,_,_,_,_,_,_,rfl,_⟩;rfl
theorem qi7:∀ds Q,qc2 ds Q->ds.length=2:=by rintro ds Q ⟨_,_,_,_,_,_,_,rfl,_⟩;rfl
theorem qn1:∀ds Q,qdf ds Q->ds.length=2:=by rintro ds Q ⟨_,_,_,_,_,_,_,_,⟨rfl,_⟩|⟨rfl,_⟩⟩<;>rfl
theorem qxo:∀ds Q,qeg ds Q->ds.length=2:=by rintro ds Q ⟨_,_,_,_,_,_,_,rfl,_⟩;rfl
def qfj:DP:=qaz
def g_same:DP:=λds Q=>∃rs:List Row,ds=[qaj rs,qaj rs]/\rs.length<=1000/\Q (.val (.bl true))
def qdh:DP:=λds Q=>∃(v:List Str) (b:Bool),ds=[wayD v,.bl b]/\v.length<=40/\(∀z∈v,wdB z=true)/\Q (.val (.str (qcg b v)))
theorem quf:∀ds Q,qfj ds Q->ds.length=2:=qff
theorem qxq:∀ds Q,g_same ds Q->ds.length=2:=by rintro ds Q ⟨_,rfl,_⟩;rfl
theorem qoc:∀ds Q,qdh ds Q->ds.length=2:=by rintro ds Q ⟨_,_,rfl,_⟩;rfl
def askD(n:Str):D:=.tup [.str n,.non]
def okD(us:List Row):D:=.tup [.str "",qaj us]
def Res(key:Str)(ts:List Row)(v g:List Str)(b:Str×Str)(d:D):Prop :=
 ((g=v\/qa8 g v=true)/\d=askD "InItself")\/(¬ (g=v\/qa8 g v=true)/\((∃mt,look ts g=some mt)/\d=askD "IsThere" \/ look ts g=none/\(12<g.length+qc1 (qas ts v)/\d=askD "TooDeep" \/ g.length+qc1 (qas ts v)<=12/\(key="move" /\ (∃us,MvOk ts us v g b/\d=okD us)\/key="copy" /\ (60<ts.length+1+(qas ts v).length/\d=askD "Crowded" \/ ts.length+1+(qas ts v).length<=60/\∃us,CpOk ts us v g b/\d=okD us)))))
theorem qvi{key:Str}(hk:key="move" \/ key="copy"){ts:List Row}{v g:List Str}{b:Str×Str}{Q:R->Prop}(hx:∀n:Str,n∈[("InItself" : Str),"IsThere","TooDeep","Crowded"]->Res key ts v g b (askD n)->Q (.exc n))(ho:∀us,Res key ts v g b (okD us)->Q (.val (qaj us))):DnQ key ts v g b Q:=by
 refine⟨λe=>hx _ (by simp) (.inl ⟨e,rfl⟩),λe=>⟨λmt k=>hx _ (by simp) (.inr ⟨e,.inl ⟨⟨mt,k⟩,rfl⟩⟩),λk=>⟨λq=>hx _ (by simp) (.inr ⟨e,.inr ⟨k,.inl ⟨q,rfl⟩⟩⟩),λq=>?_⟩⟩⟩
 rcases hk with rfl|rfl
 ·rw[if_pos rfl]
  exact λus ok=>ho us (.inr ⟨e,.inr ⟨k,.inr ⟨q,.inl ⟨rfl,us,ok,rfl⟩⟩⟩⟩)
 ·rw[if_neg (by decide)]
  exact⟨λc=>hx _ (by simp) (.inr ⟨e,.inr ⟨k,.inr ⟨q,.inr ⟨rfl,.inl ⟨c,rfl⟩⟩⟩⟩⟩),λc us ok=>ho us (.inr ⟨e,.inr ⟨k,.inr ⟨q,.inr ⟨rfl,.inr ⟨c,us,ok,rfl⟩⟩⟩⟩⟩)⟩
theorem q5g{ts us us':List Row}{v g:List Str}{b:Str×Str}(h:MvOk ts us v g b)(h':MvOk ts us' v g b):us=us':=qie (h.1.trans h'.1.symm) h.2 h'.2
theorem q4u{ts us us':List Row}{v g:List Str}{b:Str×Str}(h:CpOk ts us v g b)(h':CpOk ts us' v g b):us=us':=qie (h.1.trans h'.1.symm) h.2 h'.2
theorem qkt{key:Str}{ts:List Row}{v g:List Str}{b:Str×Str}{d d':D}(h:Res key ts v g b d)(h':Res key ts v g b d'):d=d':=by
 have mc:∀ {p q:Prop},key="move" /\ p->key="copy" /\ q->False:=λa c=>by rw[a.1] at c;exact absurd c.1 (by decide)
 rcases h with ⟨a1,rfl⟩|⟨a1,h⟩<;>rcases h' with ⟨c1,rfl⟩|⟨c1,h'⟩
 ·rfl
 ·exact absurd a1 c1
 ·exact absurd c1 a1
 rcases h with ⟨⟨mt,a2⟩,rfl⟩|⟨a2,h⟩<;>rcases h' with ⟨⟨mt',c2⟩,rfl⟩|⟨c2,h'⟩
 ·rfl
 ·rw[a2] at c2;cases c2
 ·rw[a2] at c2;cases c2
 rcases h with ⟨a3,rfl⟩|⟨a3,h⟩<;>rcases h' with ⟨c3,rfl⟩|⟨c3,h'⟩
 ·rfl
 ·omega
 ·omega
 rcases h with h|h<;>rcases h' with h'|h'
 ·obtain⟨_,us,o1,rfl⟩:=h
  obtain⟨_,us',o2,rfl⟩:=h'
  rw[q5g o1 o2]
 ·exact(mc h h').elim
 ·exact(mc h' h).elim
 ·rcases h.2 with ⟨a4,rfl⟩|⟨a4,us,o1,rfl⟩<;>rcases h'.2 with ⟨c4,rfl⟩|⟨c4,us',o2,rfl⟩
  ·rfl
  ·omega
  ·omega
  ·rw[q4u o1 o2]
theorem qhv(xs:List Row)(g:List Str)(b:Str×Str)(ys:List Row):(qbh xs g b ys).length<=xs.length+1+ys.length:=by
 unfold qbh qc8
 rw[List.length_append,List.length_cons,List.length_map]
 have:(qat xs g).length<=xs.length:=List.length_filter_le _ _
 omega
theorem qy0{key:Str}{ts:List Row}(hl:ts.length<64){v g:List Str}{b:Str×Str}{d:D}(h:Res key ts v g b d):(∃n,n∈[("InItself" : Str),"IsThere","TooDeep","Crowded"]/\d=askD n)\/∃us,d=okD us/\us.length<=1000:=by
 have lp:(qas ts v).length<=ts.length:=by unfold qas;rw[List.length_map];exact List.length_filter_le _ _
 have lw:(qat ts v).length<=ts.length:=List.length_filter_le _ _
 rcases h with ⟨_,rfl⟩|⟨_,h⟩
 ·exact .inl ⟨_,by simp,rfl⟩
 rcases h with ⟨_,rfl⟩|⟨_,h⟩
 ·exact .inl ⟨_,by simp,rfl⟩
 rcases h with ⟨_,rfl⟩|⟨_,h⟩
 ·exact .inl ⟨_,by simp,rfl⟩
 rcases h with ⟨_,us,o,rfl⟩|⟨_,⟨_,rfl⟩|⟨_,us,o,rfl⟩⟩
 ·have:=o.1.length_eq
  have:=qhv (qat ts v) g b (qas ts v)
  exact .inr ⟨us,rfl,by omega⟩
 ·exact .inl ⟨_,by simp,rfl⟩
 ·have:=o.1.length_eq
  have:=qhv ts g b (qas ts v)
  exact .inr ⟨us,rfl,by omega⟩
theorem qzy{ts:List Row}(nd:(ts.map (·.1)).Nodup){v:List Str}{b:Str×Str}(h:(v,b)∈ts):(qat ts v).length+1+(qas ts v).length=ts.length:=by
 have:(qbh (qat ts v) v b (qas ts v)).length=ts.length:=(qq7 nd h).length_eq
 unfold qbh qc8 at this
 rw[qg2,List.length_append,List.length_cons,List.length_map] at this
 omega
theorem qu4{rs ts:List Row}(H:HallL rs)(hp:ts.Perm rs){over:List Str}(ho:over=[]\/∃r∈rs,r.1=over/\r.2.1=qai){z:Str}(hz:nmB z=true){t:Str}{b:Bool}(ht:qb1 t=some (b,over++[z])){f:Nat}{res:WR}(k:PlaceTo ts [] t f res):∃tr f',res=.ok tr (over++[z]) f':=by
 have ed:(over++[z]).dropLast=over:=List.dropLast_concat
 have el:(over++[z]).getLastD "" = z:=by simp
 have st:qbt b []=[]:=by unfold qbt;split<;>rfl
 have gw:∀ {tr:List (List Str×Str×List Str)} {a:WR},WalkTo (look ts) [] over f tr a->∃tr',a=.ok tr' over f:=λ{tr a} go=>by
  rcases ho with rfl|⟨r,mr,rfl,hm⟩
  ·cases go
   exact⟨_,rfl⟩
  ·have h0:=H.ne r mr
   exact qt1 H hp mr (by rw[hm];decide +kernel) (k:=0) (List.length_pos_iff.mpr h0) (by rw[List.take_zero,List.drop_zero];exact go)
 cases k with
|noway q=>rw[ht] at q;cases q
|noplace q y =>
  rw[ht] at q
  cases q
  rcases y with y|y
  ·simp at y
  ·rw[el,hz] at y
   cases y
|bad q _ _ go =>
  rw[ht] at q
  cases q
  rw[st,ed] at go
  obtain⟨_,e⟩:=gw go
  cases e
|file q _ _ go hm hf =>
  rw[ht] at q
  cases q
  rw[st,ed] at go
  obtain⟨_,e⟩:=gw go
  cases e
  have:∃x,look ts over=some (qai,x):=by
   rcases ho with rfl|⟨r,mr,rfl,hm'⟩
   ·exact⟨_,rfl⟩
   ·exact⟨r.2.2,by rw[qc4 H.nd hp,qdt H.nd mr (H.ne r mr),←hm']⟩
  obtain⟨x,e⟩:=this
  rw[e] at hm
  cases hm
  exact absurd rfl hf
|ok q _ _ go hm =>
  rw[ht] at q
  cases q
  rw[st,ed] at go
  obtain⟨_,e⟩:=gw go
  cases e
  rw[el]
  exact⟨_,_,rfl⟩
theorem qx0{rs ts:List Row}(H:HallL rs)(hp:ts.Perm rs){g:List Str}(e:look ts g=none)(r:Row)(mr:r∈ts):preB r.1 g=false:=by
 cases h:preB r.1 g with
|false=>rfl
|true =>
  exfalso
  have mr':=hp.mem_iff.mp mr
  have pf:=preB_iff.mp h
  have et:g=r.1.take g.length:=List.prefix_iff_eq_take.mp pf
  by_cases hl:g.length<r.1.length
  ·have:=qjn H hp mr' hl
   rw[←et,e] at this
   cases this
  ·have:g=r.1:=pf.eq_of_length (by have:=pf.length_le;omega)
   have l2:=qdt H.nd mr' (H.ne r mr')
   rw[←this,←qc4 H.nd hp,e] at l2
   cases l2
theorem q1q{i j:Nat}{ks:List (List Str)}{ds:List D}{te:TV}{u:TVS}{Dv:VEnds}{τ:VSt}(e:τ[i]?=some (some (.own (.dT ks ds))))(h:te (τ.set i (some (.peek (.dT ks ds)))) λr=>pubR r λd=>NoDt d/\u Dv (τ.set j (some (.val d)))):qmr i j te u Dv τ:=by
 unfold qmr
 rw[e]
 exact h
def dueR(ts:List Row)(v g:List Str)(st:Bool):List Row:=ts.flatMap λr=>(if preB r.1 v=true then [(g++r.1.drop v.length,r.2)] else [])++(if (st||!preB r.1 v)=true then [r] else [])
theorem qqn{α:Type}(p q:α->Bool)(h:α->α):∀ts:List α,(ts.flatMap λr=>(if p r=true then [h r] else [])++(if q r=true then [r] else [])).Perm (ts.filter q++(ts.filter p).map h)
|[]=>List.Perm.refl _
|r::ts=>by
  have ih:=qqn p q h ts
  rw[List.flatMap_cons]
  cases hp:p r<;>cases hq:q r<;>simp only[List.filter_cons,hp,hq,if_true,if_false,Bool.false_eq_true,List.nil_append,List.append_nil,List.map_cons,List.cons_append]
  ·exact ih
  ·exact ih.cons r
  ·exact(ih.cons (h r)).trans List.perm_middle.symm
  ·exact((ih.cons r).cons (h r)).trans (((List.Perm.swap r (h r) _).trans ((List.perm_middle.symm).cons r)))
theorem qut{α:Type}(p q:α->Bool):∀ts:List α,(∀r∈ts,p r=true->q r=false)->(ts.filter λr=>p r||q r).Perm (ts.filter p++ts.filter q)
|[],_=>List.Perm.refl _
|r::ts,h=>by
  have ih:=qut p q ts λx mx=>h x (List.mem_cons_of_mem _ mx)
  have h0:=h r List.mem_cons_self
  cases hp:p r<;>cases hq:q r<;>simp only[List.filter_cons,hp,hq,Bool.or_true,Bool.or_false,Bool.or_self,if_true,if_false,Bool.false_eq_true,List.cons_append]
  ·exact ih
  ·exact(ih.cons r).trans List.perm_middle.symm
  ·exact ih.cons r
  ·rw[hp,hq] at h0;exact absurd (h0 rfl) (by decide)
theorem qw7{ts:List Row}(nd:(ts.map (·.1)).Nodup){v g:List Str}{b:Str×Str}(mv:(v,b)∈ts)(ng:∀r∈ts,preB r.1 g=false)(st:Bool):(dueR ts v g st).Perm (qbh (if st=true then ts else qat ts v) g b (qas ts v)):=by
 have e1:=qqn (λr:Row=>preB r.1 v) (λr:Row=>st||!preB r.1 v) (λr:Row=>(g++r.1.drop v.length,r.2)) ts
 unfold dueR
 refine e1.trans ?_
 have wo:∀xs:List Row,(∀r∈xs,r∈ts)->qat xs g=xs:=λxs hx=>by
  unfold qat
  exact List.filter_eq_self.mpr λr mr=>by rw[ng r (hx r mr)];rfl
 have ef:(ts.filter λr=>preB r.1 v).Perm ((v,b)::ts.filter λr=>qa8 r.1 v):=by
  have h:=qut (λr:Row=>decide (r.1=v)) (λr:Row=>qa8 r.1 v) ts λr _ e=>by
   have e:=of_decide_eq_true e
   cases hu:qa8 r.1 v with
  |false=>rfl
  |true=>exact absurd e (underB_iff.mp hu).2
  rw[show (ts.filter λr=>preB r.1 v)=ts.filter λr=>decide (r.1=v)||qa8 r.1 v from List.filter_congr λr _=>qjs r.1 v]
  rw[show (ts.filter λr=>decide (r.1=v))=[(v,b)] from qji nd mv] at h
  exact h
 have em:((ts.filter λr=>preB r.1 v).map λr:Row=>(g++r.1.drop v.length,r.2)).Perm (qc8 g b (qas ts v)):=by
  refine(ef.map _).trans ?_
  unfold qc8 qas
  rw[List.map_cons,List.map_map]
  have e0:((g++(v,b).1.drop v.length,(v,b).2):Row)=(g,b):=by
   show ((g++v.drop v.length,b):Row)=(g,b)
   rw[List.drop_length,List.append_nil]
  rw[e0]
  refine List.Perm.of_eq (congrArg _ (List.map_congr_left λr mr=>?_))
  have hu:=(List.mem_filter.mp mr).2
  show ((g++r.1.drop v.length,r.2):Row)=(g++qbl r.1 v [],r.2)
  unfold qbl
  rw[if_pos (.inr hu),List.nil_append]
 unfold qbh
 cases st with
|true =>
  rw[if_pos rfl,wo ts λr mr=>mr]
  refine(List.Perm.append (List.Perm.of_eq ?_) em)
  exact List.filter_eq_self.mpr λr _=>rfl
|false =>
  rw[if_neg (by decide),wo (qat ts v) λr mr=>(List.mem_filter.mp mr).1]
  exact List.Perm.append (List.Perm.of_eq rfl) em
theorem qto(v g:List Str)(st:Bool):∀xs:List Row,(dueR xs v g st).length<=2*xs.length
|[]=>Nat.le_refl _
|r::xs=>by
  have ih:=qto v g st xs
  unfold dueR at ih ⊢
  rw[List.flatMap_cons,List.length_append,List.length_append,List.length_cons]
  have h1:(if preB r.1 v=true then [((g++r.1.drop v.length,r.2):Row)] else []).length<=1:=by split<;>simp
  have h2:(if (st||!preB r.1 v)=true then [r] else []).length<=1:=by split<;>simp
  omega
def insN(v g:List Str):List Row->Nat
|[]=>0
|r::rs=>max (if preB r.1 v=true then g.length+r.1.length-v.length else 0) (insN v g rs)
theorem qt3(v g:List Str):∀xs ys:List Row,insN v g (xs++ys)=max (insN v g xs) (insN v g ys)
|[],ys=>by rw[List.nil_append];unfold insN;omega
|x::xs,ys=>by
  show max _ (insN v g (xs++ys))=max (max _ (insN v g xs)) (insN v g ys)
  rw[qt3 v g xs ys]
  omega
theorem qt4{v g:List Str}:∀ {xs:List Row} {r:Row},r∈xs->preB r.1 v=true->g.length+r.1.length-v.length<=insN v g xs
|q::xs,r,h,e=>by
  unfold insN
  rcases List.mem_cons.mp h with rfl|h
  ·rw[if_pos e];omega
  ·have:=qt4 (g:=g) h e
   omega
theorem qz4{v g:List Str}{m:Nat}:∀ {xs:List Row},(∀r∈xs,preB r.1 v=true->g.length+r.1.length-v.length<=m)->insN v g xs<=m
|[],_=>Nat.zero_le _
|q::xs,h=>by
  unfold insN
  have h1:=qz4 (v:=v) (g:=g) (m:=m) (xs:=xs) λr mr=>h r (List.mem_cons_of_mem _ mr)
  have h2:=h q List.mem_cons_self
  split
  ·rename_i e
   have:=h2 e
   omega
  ·omega
theorem qxe{ts:List Row}{v g:List Str}{b:Str×Str}(mv:(v,b)∈ts):insN v g ts=g.length+qc1 (qas ts v):=by
 refine Nat.le_antisymm (qz4 λr mr e=>?_) ?_
 ·have lp:=(preB_iff.mp e).length_le
  by_cases hu:qa8 r.1 v=true
  ·have m2:((qbl r.1 v [],r.2):Row)∈qas ts v:=List.mem_map.mpr ⟨r,List.mem_filter.mpr ⟨mr,hu⟩,rfl⟩
   have:=qni m2
   have e2:(qbl r.1 v []).length=r.1.length-v.length:=by
    unfold qbl
    rw[if_pos (.inr hu),List.nil_append,List.length_drop]
   have e3:((qbl r.1 v [],r.2):Row).1.length=r.1.length-v.length:=e2
   omega
  ·rw[qjs,Bool.or_eq_true] at e
   have e1:=of_decide_eq_true (e.resolve_right hu)
   rw[e1]
   omega
 ·have g1:=qt4 (v:=v) (g:=g) (xs:=ts) (r:=(v,b)) mv (preB_iff.mpr (List.prefix_refl _))
  have g2:g.length<=insN v g ts:=by
   have:((v,b):Row).1.length=v.length:=rfl
   omega
  by_cases e0:qas ts v=[]
  ·rw[e0]
   unfold qc1
   omega
  ·obtain⟨q,mq,eq⟩:=qnh e0
   rw[eq]
   obtain⟨r,mr,rfl⟩:=List.mem_map.mp mq
   obtain⟨mr1,hu⟩:=List.mem_filter.mp mr
   have hp:=preB_iff.mpr (underB_iff.mp hu).1
   have lp:=(preB_iff.mp hp).length_le
   have g3:=qt4 (g:=g) mr1 hp
   have e2:(qbl r.1 v []).length=r.1.length-v.length:=by
    unfold qbl
    rw[if_pos (.inr hu),List.nil_append,List.length_drop]
   show g.length+(qbl r.1 v []).length<=_
   omega
def qnw:DPJ:=λds ks ps Q=>∃(rs:List Row) (over:List Str) (deep st:Int),ds=[wayD over,.int deep,.int st]/\ks=(rs.map prR).map (·.1)/\ps=(rs.map prR).map (·.2)/\HallL rs/\(over=[]\/(over,qai,qa1)∈rs)/\over.length<=12/\0<=deep/\deep<=17/\rs.length<=200/\∀(rs':List Row) (o:List Str),HallL rs'->rs'.length<=rs.length+(deep-over.length).toNat->(o=[]\/(o,qai,qa1)∈rs')->(∀r∈rs,r∈rs')->Q (.val (wayD o)) ((rs'.map prR).map (·.1)) ((rs'.map prR).map (·.2))
theorem q1o:∀ds ks ps Q,qnw ds ks ps Q->ds.length+1=4:=by rintro ds ks ps Q ⟨_,_,_,_,rfl,_⟩;rfl
def qgc:DP:=λds Q=>∃(ts:List Row) (key t u:Str) (v g:List Str) (b:Str×Str),ds=[qaj ts,qbk key t u]/\(key="move" \/ key="copy")/\TwoP ts t u v g b/\∀d,Res key ts v g b d->Q (.val d)
def qge:DP:=λds Q=>∃(ts:List Row) (key t u:Str) (v g:List Str) (b:Str×Str) (n:Str),ds=[qaj ts,qbk key t u]/\(key="move" \/ key="copy")/\TwoP ts t u v g b/\Res key ts v g b (askD n)/\Q (.val (.bl true))
def qq5:DP:=λds Q=>∃(ts:List Row) (v g:List Str) (b:Str×Str) (st:Bool),ds=[qaj ts,wayD v,wayD g,.bl st]/\(ts.map (·.1)).Nodup/\ts.length<64/\(∀r∈ts,r.1.length<=24)/\(v,b)∈ts/\g≠[]/\g.length<=25/\(look ts g=none->∀r∈ts,preB r.1 g=false)/\∀d,Res (if st=true then "copy" else "move") ts v g b d->Q (.val d)
theorem qub:∀ds Q,qgc ds Q->ds.length=2:=by rintro ds Q ⟨_,_,_,_,_,_,_,rfl,_⟩;rfl
theorem que:∀ds Q,qge ds Q->ds.length=2:=by rintro ds Q ⟨_,_,_,_,_,_,_,_,rfl,_⟩;rfl
theorem q1n:∀ds Q,qq5 ds Q->ds.length=4:=by rintro ds Q ⟨_,_,_,_,_,rfl,_⟩;rfl
def qnx:DP:=λds Q=>∃ns,ds=[.scr ns]/\Q (.val (.bl true))
theorem q1p:∀ds Q,qnx ds Q->ds.length=1:=by rintro ds Q ⟨_,rfl,_⟩;rfl
theorem qp0{ts:List Row}{v:List Str}{b:Str×Str}(h:look ts v=some b)(v0:v≠[]):(v,b)∈ts:=by
 unfold look at h
 rw[if_neg v0] at h
 obtain⟨q,h1,h2⟩:=Option.map_eq_some_iff.mp h
 have e:=of_decide_eq_true (List.find?_some (p:=λq:Row=>decide (q.1=v)) h1)
 have:q=(v,b):=by rw[←e,←h2]
 rw[←this]
 exact List.mem_of_find?_eq_some h1
theorem qw1{ts:List Row}(F:FT ts){v:List Str}{b:Str×Str}(h:look ts v=some b)(v0:v≠[]):(qat ts v).length+1+(qas ts v).length=ts.length:=qzy F.nd (qp0 h v0)
def qhf:TVS:=(vSeq (vIfS (vBl (vOp vLt (vVar 1) (vF1 vLen (vVar 0))))
  (vRet (vOp vIxR (vVar 0) (vVar 1)))
  qa9)
 (vRet (vC (.int 0))))
abbrev qso:List Str:=["_law_script","_law_k"]
theorem qwh:∀ds Q,qb2 ds Q->qhf (En Q) (qax qso ds):=by
 rintro ds Q ⟨ns,k,rfl,h0,h⟩
 simp! only[qhf]
 split
 ·rename_i c
  obtain⟨v,hv,hv2⟩:=qef (xs:=ns) h0 (of_decide_eq_true c)
  unfold q04 at h
  rw[hv2] at h
  exact⟨v,hv,h⟩
 ·rename_i c
  have hn:ns[k.toNat]?=none:=List.getElem?_eq_none (by have:=of_decide_eq_false (Bool.eq_false_iff.mpr c);omega)
  unfold q04 at h
  rw[hn] at h
  exact h
def qs4:TVS:=(vSeq (vSet 3 (vTup (qaa (vC (.int 48271)) (qaa (vC (.int 69621)) (qaa (vC (.int 16807)) (qaa (vC (.int 39373)) (qaa (vC (.int 21401)) (qaa (vC (.int 60493)) (qaa (vC (.int 87721)) (qaa (vC (.int 31337)) vNil))))))))))
 (vSeq (vSet 4 (vTup (qaa (vC (.int 99991)) (qaa (vC (.int 99989)) (qaa (vC (.int 99971)) (qaa (vC (.int 99961)) (qaa (vC (.int 99929)) (qaa (vC (.int 99923)) (qaa (vC (.int 99907)) (qaa (vC (.int 99901)) vNil))))))))))
 (vRet (vOp vMod (vOp vMod (vOp vMul (vOp vAdd (vOp vMod (vVar 0) (vOp vPow (vC (.int 10)) (vC (.int 18)))) (vC (.int 1))) (vOp vIxR (vVar 3) (vOp vMod (vVar 1) (vC (.int 8))))) (vOp vIxR (vVar 4) (vOp vMod (vVar 1) (vC (.int 8))))) (vVar 2)))))
abbrev q0y:List Str:=["_law_cell","_law_turn","_law_many","_law_by","_law_prime"]
def mxA:List Int:=[48271,69621,16807,39373,21401,60493,87721,31337]
def mxB:List Int:=[99991,99989,99971,99961,99929,99923,99907,99901]
theorem q4c:∀ds Q,qa3 ds Q->qs4 (En Q) (qax q0y ds):=by
 rintro ds Q ⟨c,t,m,rfl,h0,hm,h⟩
 refine v_cut (λτ=>τ=[some (.val (.int c)),some (.val (.int t)),some (.val (.int m)),some (.val (.tup (mxA.map D.int))),none]) ?_ λnx hnx=>?now
 case now =>
  rfl'
  exact⟨by decide,hnx _ rfl⟩
 rintro τ rfl
 refine v_cut (λτ=>τ=[some (.val (.int c)),some (.val (.int t)),some (.val (.int m)),some (.val (.tup (mxA.map D.int))),some (.val (.tup (mxB.map D.int)))]) ?_ λnx hnx=>?now
 case now =>
  rfl'
  exact⟨by decide,hnx _ rfl⟩
 rintro τ rfl
 have q0:=Int.emod_nonneg t (show (8:Int)≠0 by decide)
 have q1:=Int.emod_lt_of_pos t (show (0:Int)<8 by decide)
 obtain⟨a,ha,ha2⟩:=qef (xs:=mxA) (k:=t%8) q0 q1
 obtain⟨b,hb,hb2⟩:=qef (xs:=mxB) (k:=t%8) q0 q1
 have ba:∀x∈mxA,0<=x/\x<100000:=by decide
 have bb:∀x∈mxB,0<x:=by decide
 have a1:=ba a (List.mem_of_getElem? ha2)
 have b1:=bb b (List.mem_of_getElem? hb2)
 have hA:∀Y:R->Prop,Y (.val (.int (c%10 ^ Int.toNat 18+1)))->vOp vAdd (vOp vMod (vVar 0) (vOp vPow (vC (.int 10)) (vC (.int 18)))) (vC (.int 1)) [some (.val (.int c)),some (.val (.int t)),some (.val (.int m)),some (.val (.tup (mxA.map D.int))),some (.val (.tup (mxB.map D.int)))] Y:=λY y=>by
  rfl'
  exact⟨⟨by decide,by decide,by decide⟩,by decide,y⟩
 have hB:∀Y:R->Prop,Y (.val (.int a))->vOp vIxR (vVar 3) (vOp vMod (vVar 1) (vC (.int 8))) [some (.val (.int c)),some (.val (.int t)),some (.val (.int m)),some (.val (.tup (mxA.map D.int))),some (.val (.tup (mxB.map D.int)))] Y:=λY y=>by
  rfl'
  exact⟨.int a,by rw[qdo,ha];rfl,y⟩
 have hC:∀Y:R->Prop,Y (.val (.int b))->vOp vIxR (vVar 4) (vOp vMod (vVar 1) (vC (.int 8))) [some (.val (.int c)),some (.val (.int t)),some (.val (.int m)),some (.val (.tup (mxA.map D.int))),some (.val (.tup (mxB.map D.int)))] Y:=λY y=>by
  rfl'
  exact⟨.int b,by rw[qdo,hb];rfl,y⟩
 exact hA _ (hB _ ⟨.inr ⟨by omega,by omega⟩,hC _ ⟨b1,hm,h _ (Int.emod_nonneg _ (by omega)) (Int.emod_lt_of_pos _ hm) λe=>by
  subst e
  have e1:a=48271:=by simpa [mxA] using ha2.symm
  have e2:b=99991:=by simpa [mxB] using hb2.symm
  rw[e1,e2,show Int.toNat 18=18 from rfl]⟩⟩)
def qli:TVS:=(vSeq (vSet 2 (vC (.str ("abcdefghijklmnopqrstuvwxyz0123456789" : Str))))
 (vSeq (vSet 3 (vOp vAdd (vC (.int 1)) (vOp vMod (vVar 0) (vC (.int 12)))))
 (vSeq (vSet 4 (vOp vMod (vOp vDiv (vVar 0) (vC (.int 12))) (vVar 3)))
 (vSeq (vSet 5 (vC (.str ("" : Str))))
 (vSeq (vFor (qpd (vVar 3)) (qbf 6)
  (vSeq (vSet 7 (vOp vAdd (vOp vDiv (vVar 0) (vC (.int 5184))) (vOp vMul (vVar 6) (vOp vMod (vOp vDiv (vVar 0) (vC (.int 144))) (vC (.int 36))))))
 (vSeq (vIfS (vBl (vOp vEq (vVar 6) (vVar 4)))
  (vSet 7 (vOp vAdd (vVar 7) (vVar 1)))
  qa9)
 (vSet 5 (vOp vAdd (vVar 5) (vOp vIxR (vVar 2) (vOp vMod (vVar 7) (vC (.int 36)))))))))
 (vSeq (vIfS (qgm (vBl (vOp vEq (vOp vMod (vOp vDiv (vVar 0) (vC (.int 3))) (vC (.int 2))) (vC (.int 1)))) (vBl (vOp vEq (vOp vMod (vVar 1) (vC (.int 5))) (vC (.int 4)))))
  (vSet 5 (qei (vVar 5) qc7 (qhb (vOp vAdd (vC (.int 1)) (vOp vMod (vVar 1) (vVar 3))))))
  qa9)
 (vRet (vVar 5))))))))
abbrev qsv:List Str:=["_law_stem","_law_v","_law_signs","_law_size","_law_spot","_law_name","_law_k","_law_turn"]
theorem cps_append{z:Str}{d:Nat}(h:∀y∈z.cps.toList,y∈NS.cps.toList)(hd:d∈NS.cps.toList):∀y∈(z++⟨#[d]⟩:Str).cps.toList,y∈NS.cps.toList:=λy hy=>by
 have e:(z++⟨#[d]⟩:Str).cps.toList=z.cps.toList++[d]:=by
  show (z.cps++#[d]).toList=_
  simp
 rw[e] at hy
 rcases List.mem_append.mp hy with q|q
 ·exact h y q
 ·rw[List.mem_singleton.mp q];exact hd
theorem qwo:∀ds Q,qbs ds Q->qli (En Q) (qax qsv ds):=by
 rintro ds Q ⟨c,v,rfl,hv,h⟩
 have hm0:0<=c%12:=Int.emod_nonneg _ (by decide)
 have hm1:c%12<12:=Int.emod_lt_of_pos _ (by decide)
 have eN:(NS.cps.toList.length:Int)=36:=by decide +kernel
 have lN:NS.length<=sizeLine:=by decide +kernel
 refine v_cut (λτ=>τ=[some (.val (.int c)),some (.val (.int v)),some (.val (.str NS)),none,none,none,none,none]) ?_ λnx hnx=>?now
 case now =>
  rfl'
  exact hnx _ rfl
 rintro τ rfl
 refine v_cut (λτ=>τ=[some (.val (.int c)),some (.val (.int v)),some (.val (.str NS)),some (.val (.int (1+c%12))),none,none,none,none]) ?_ λnx hnx=>?now
 case now =>
  rfl'
  exact hnx _ rfl
 rintro τ rfl
 generalize hn:1+c%12=n
 have n1:1<=n:=by omega
 have n2:n<=12:=by omega
 refine v_cut (λτ=>∃sp:Int,τ=[some (.val (.int c)),some (.val (.int v)),some (.val (.str NS)),some (.val (.int n)),some (.val (.int sp)),none,none,none]) ?_ λnx hnx=>?now
 case now =>
  rfl'
  exact⟨by omega,hnx _ ⟨_,rfl⟩⟩
 rintro τ ⟨sp,rfl⟩
 refine v_cut (λτ=>τ=[some (.val (.int c)),some (.val (.int v)),some (.val (.str NS)),some (.val (.int n)),some (.val (.int sp)),some (.val (.str "")),none,none]) ?_ λnx hnx=>?now
 case now =>
  rfl'
  exact hnx _ rfl
 rintro τ rfl
 refine v_cut (λτ=>∃(z:Str) (a b:Option R),1<=z.length/\z.length<=12/\(∀y∈z.cps.toList,y∈NS.cps.toList)/\τ=[some (.val (.int c)),some (.val (.int v)),some (.val (.str NS)),some (.val (.int n)),some (.val (.int sp)),some (.val (.str z)),a,b]) ?_ λnx hnx=>?now
 case now =>
  rfl'
  refine⟨by omega,by omega,qnv (λi τ=>∃(z:Str) (a b:Option R),z.length=i/\(∀y∈z.cps.toList,y∈NS.cps.toList)/\τ=[some (.val (.int c)),some (.val (.int v)),some (.val (.str NS)),some (.val (.int n)),some (.val (.int sp)),some (.val (.str z)),a,b]) ⟨"",none,none,by decide +kernel,by decide +kernel,rfl⟩ ?_ ?_⟩
  ·rintro i τ hi ⟨z,a,b,hl,hns,rfl⟩ nx2 hnx2
   refine v_cut (λτ=>∃t:Int,τ=[some (.val (.int c)),some (.val (.int v)),some (.val (.str NS)),some (.val (.int n)),some (.val (.int sp)),some (.val (.str z)),some (.val (.int i)),some (.val (.int t))]) ?_ λnx3 hnx3=>?now
   case now =>
    rfl'
    have k0:=Int.emod_nonneg (c / 144) (show (36:Int)≠0 by decide)
    have k1:=Int.emod_lt_of_pos (c / 144) (show (0:Int)<36 by decide)
    exact⟨.inr ⟨by omega,by omega⟩,hnx3 _ ⟨_,rfl⟩⟩
   rintro τ ⟨t,rfl⟩
   refine v_cut (λτ=>∃t:Int,τ=[some (.val (.int c)),some (.val (.int v)),some (.val (.str NS)),some (.val (.int n)),some (.val (.int sp)),some (.val (.str z)),some (.val (.int i)),some (.val (.int t))]) ?_ λnx3 hnx3=>?now
   case now =>
    rfl'
    split
    ·exact hnx3 _ ⟨_,rfl⟩
    ·exact hnx3 _ ⟨_,rfl⟩
   clear t
   rintro τ ⟨t,rfl⟩
   rfl'
   obtain⟨d,hd,hd2⟩:=qef (xs:=NS.cps.toList) (k:=t%36) (Int.emod_nonneg _ (by decide)) (by rw[eN];exact Int.emod_lt_of_pos _ (by decide))
   exact⟨lN,d,hd,Nat.le_trans (show z.length+1<=1000 by omega) qao,hnx2 _ ⟨_,_,_,by rw[PySem.Str.length_append,hl];rfl,cps_append hns (List.mem_of_getElem? hd2),rfl⟩⟩
  ·rintro τ ⟨z,a,b,hl,hns,rfl⟩
   exact hnx _ ⟨z,a,b,by omega,by omega,hns,rfl⟩
 rintro τ ⟨z,a,b,z0,z1,zn,rfl⟩
 refine v_cut (λτ=>∃(z:Str),1<=z.length/\z.length<=12/\(∀y∈z.cps.toList,y∈NS.cps.toList)/\τ=[some (.val (.int c)),some (.val (.int v)),some (.val (.str NS)),some (.val (.int n)),some (.val (.int sp)),some (.val (.str z)),a,b]) ?_ λnx hnx=>?now
 case now =>
  rfl'
  have sz:z.length<=sizeLine:=Nat.le_trans (by omega) qao
  have v0:=Int.emod_nonneg v (show n≠0 by omega)
  split
  ·split
   ·refine⟨by omega,sz,hnx _ ⟨_,?_,?_,?_,rfl⟩⟩
    ·obtain⟨k,hk⟩:∃k:Nat,1+v%n=(k:Int):=⟨(1+v%n).toNat,by omega⟩
     rw[hk]
     show 1<=(Txt.slice z none (some (k:Int))).cps.toList.length
     have el:z.cps.toList.length=z.length:=rfl
     rw[slice_list,qhr,List.length_take]
     omega
    ·exact Nat.le_trans (Txt.slice_le z _ _) (by omega)
    ·intro y hy
     rw[slice_list] at hy
     exact zn y (qw5 hy)
   ·exact hnx _ ⟨z,z0,z1,zn,rfl⟩
  ·exact hnx _ ⟨z,z0,z1,zn,rfl⟩
 clear zn z0 z1 z
 rintro τ ⟨z,z0,z1,zn,rfl⟩
 rfl'
 refine h z ?_
 unfold nmB nmL
 have el:z.cps.toList.length=z.length:=rfl
 rw[el,decide_eq_true z0,decide_eq_true z1,List.all_eq_true.mpr λy hy=>decide_eq_true (zn y hy)]
 rfl
def qhi:TVS:=(vSeq (vIfS (qes (vBl (qjb .str (vVar 0))))
  (vRet (vC (.bl false)))
  qa9)
 (vSeq (vIfS (qes (vBl (qjx vLe vLe (vC (.int 1)) (vF1 vLen (vVar 0)) (vC (.int 12)))))
  (vRet (vC (.bl false)))
  qa9)
 (vRet (vF1 (vAll λbs=>bs.all id) (qfp (qc9 (vVar 0)) (qbf 1) (λ_ Q=>Q true) (vOp (vIn id) (vVar 1) (vC (.str ("abcdefghijklmnopqrstuvwxyz0123456789" : Str)))) 1)))))
abbrev qss:List Str:=["thing"]
theorem qwl:∀ds Q,qc3 ds Q->qhi (En Q) (qax qss ds):=by
 rintro ds Q ⟨z,rfl,hz,h⟩
 have sz:z.length<=sizeLine:=Nat.le_trans hz (by decide)
 unfold nmB nmL at h
 have el:z.cps.toList.length=z.length:=rfl
 rw[el] at h
 simp! only[qhi]
 refine⟨sz,?_⟩
 by_cases h1:1<=z.length
 ·rw[decide_eq_true (by omega:1<=(z.length:Int))]
  refine iteT ?_
  rw[decide_eq_true h1,Bool.true_and] at h
  by_cases h2:z.length<=12
  ·rw[decide_eq_true (by omega:(z.length:Int)<=12)]
   refine iteF ?_
   rw[decide_eq_true h2,Bool.true_and] at h
   refine qfr (λc=>.bl (decide (c∈NS.cps.toList))) z.cps.toList (Nat.le_trans (Nat.le_of_eq el) sz) (λc _ Y N hY=>?_) ?_
   ·ac_rfl
    show Y (.val (.bl (!(Builtin.Str.occurrences NS ⟨#[c]⟩ 0 NS.length 1).isEmpty)))
    rw[q8b]
    exact hY
   ·ac_rfl
    refine⟨z.cps.toList.map λc=>decide (c∈NS.cps.toList),?_,?_⟩
    ·rw[List.map_map]
     rfl
    ·rw[List.all_map]
     exact h
  ·rw[decide_eq_false (by omega:¬ (z.length:Int)<=12)]
   rw[decide_eq_false h2,Bool.false_and] at h
   exact iteT h
 ·rw[decide_eq_false (by omega:¬ 1<=(z.length:Int))]
  rw[decide_eq_false h1,Bool.false_and,Bool.false_and] at h
  exact iteF h
def qhj:TVS:=(vRet (vOrE (vOp (vIn id) (vVar 0) (vTup (qaa (vC (.str ("." : Str))) (qaa (vC (.str (".." : Str))) vNil)))) (qak qc3 (qaa (vVar 0) vNil))))
abbrev qst:List Str:=["text"]
theorem qwm:∀ds Q,qdg ds Q->qhj (En Q) (qax qst ds):=by
 rintro ds Q ⟨z,rfl,hz,h⟩
 unfold wdB at h
 simp! only[qhj,qc3]
 refine⟨by decide,?_⟩
 show if decide (z∈[(".": Str),".."])=true then _ else _
 by_cases hm:z∈[(".": Str),".."]
 ·rw[decide_eq_true hm] at h ⊢
  exact iteT h
 ·rw[decide_eq_false hm] at h ⊢
  exact iteF ⟨hz,h⟩
def qga:TVS:=(vSeq (vIfS (vBl (vOp vEq (vVar 0) (vC (.str ("/" : Str)))))
  (vRet (vTup (qaa (vC (.bl true)) (qaa (vLst vNil) vNil))))
  qa9)
 (vSeq (vSet 1 (qiw (vVar 0) (vC (.str ("/" : Str)))))
 (vSeq (vSet 2 (qmt (vIfE (vBl (vVar 1)) (qei (vVar 0) (qhb (vC (.int 1))) qc7) (vVar 0)) (vC (.str ("/" : Str)))))
 (vSeq (vIfS (vOrT (vBl (vOp vGt (vF1 vLen (vVar 2)) (vC (.int 40)))) (qes (vBl (vF1 (vAll λbs=>bs.all id) (qfp (qc9 (vVar 2)) (qbf 3) (λ_ Q=>Q true) (qak qdg (qaa (vVar 3) vNil)) 1)))))
  (qda "NoWay" (qaa (vVar 0) vNil))
  qa9)
 (vRet (vTup (qaa (vVar 1) (qaa (vVar 2) vNil))))))))
abbrev qqz:List Str:=["text","rooted","words"]
theorem ifT{c:Prop}[Decidable c]{p q:Prop}(h:c)(hp:p):if c then p else q:=by rw[if_pos h];exact hp
theorem ifF{c:Prop}[Decidable c]{p q:Prop}(h:¬ c)(hq:q):if c then p else q:=by rw[if_neg h];exact hq
theorem q4f(z:Str):(wsW z).length<=z.length+1/\∀w∈wsW z,w.length<=z.length:=by
 have el:z.cps.toList.length=z.length:=rfl
 have key:∀l:List Nat,l.length<=z.length->((sp 47 l).map mkS).length<=z.length+1/\∀w∈(sp 47 l).map mkS,w.length<=z.length:=λl hl=>by
  have:=q0g 47 l
  refine⟨by rw[List.length_map];omega,λw hw=>?_⟩
  obtain⟨p,hp,rfl⟩:=List.mem_map.mp hw
  rw[quo]
  exact Nat.le_trans (qqg 47 l p hp) hl
 unfold wsW
 split
 ·exact key _ (by rw[List.length_drop];omega)
 ·exact key _ (Nat.le_of_eq el)
theorem qsm:∀ds Q,qch ds Q->qga (EnX Q) (qax qqz ds):=by
 rintro ds Q ⟨z,rfl,hz,hy,hn⟩
 have sz:z.length<=sizeLine:=Nat.le_trans hz (by decide)
 have el:z.cps.toList.length=z.length:=rfl
 unfold qb1 at hy hn
 obtain⟨w1,w2⟩:=q4f z
 refine qca ?_
 dsimp! only[qga]
 by_cases h0:z="/"
 ·rw[decide_eq_true h0]
  exact iteT ⟨by decide,hy true [] (by rw[if_pos h0])⟩
 rw[decide_eq_false h0]
 rw[if_neg h0] at hy hn
 refine iteF ?_
 refine qca ?_
 rfl'
 have hr:Txt.startswith z "/" = rt z:=by rw[qza,qr7];rfl
 rw[hr]
 have sl:("/" : Str).length=1:=by decide +kernel
 have rest:vSeq
   (vIfS (vOrT (vBl (vOp vGt (vF1 vLen (vVar 2)) (vC (.int 40)))) (qes (vBl (vF1 (vAll λbs=>bs.all id) (qfp (qc9 (vVar 2)) (qbf 3) (λ_ Q=>Q true) (qak qdg (qaa (vVar 3) vNil)) 1)))))
    (qda "NoWay" (qaa (vVar 0) vNil)) qa9)
   (vRet (vTup (qaa (vVar 1) (qaa (vVar 2) vNil)))) (EnX Q) [some (.val (.str z)),some (.val (.bl (rt z))),some (.val (.lst ((wsW z).map D.str)))]:=by
  refine qca ?_
  rfl'
  have one:1<=sizeLine:=by decide
  by_cases hl:(wsW z).length<=40
  ·rw[decide_eq_false (by omega:¬ 40<((wsW z).length:Int))]
   refine iteF ?_
   refine qfr (λw=>.bl (wdB w)) (wsW z) (Nat.le_trans hl (by decide)) (λw hw Y N hY=>?_) ?_
   ·simp! only[qdg]
    exact⟨Nat.le_trans (w2 w hw) hz,hY⟩
   ·ac_rfl
    refine⟨(wsW z).map wdB,by rw[List.map_map];rfl,?_⟩
    rw[List.all_map]
    show if (!(wsW z).all wdB)=true then _ else _
    by_cases ha:(wsW z).all wdB=true
    ·rw[ha]
     refine iteF ⟨by decide,hy _ _ (by rw[if_pos ⟨hl,ha⟩])⟩
    ·rw[Bool.eq_false_iff.mpr ha]
     exact iteT ⟨one,hn (by rw[if_neg (λq=>ha q.2)])⟩
  ·rw[decide_eq_true (by omega:40<((wsW z).length:Int))]
   exact iteT ⟨one,hn (by rw[if_neg (λq=>hl q.1)])⟩
 have hws:(wsW z).length<=sizeLine:=Nat.le_trans w1 (Nat.le_trans (by omega) (show 5001<=sizeLine by decide))
 refine qca ?_
 rfl'
 by_cases hrt:rt z=true
 ·have e:Txt.split (Txt.slice z (some 1) none) "/" = wsW z:=by
   rw[qza,qqi _ (by decide),slice_list]
   unfold wsW
   rw[if_pos hrt,show (some 1:Option Int)=some ((1:Nat):Int) from rfl,qfs]
  refine ifT hrt ⟨sz,by rw[sl];rfl,Nat.le_trans (Txt.slice_le z _ _) sz,by rw[e];exact hws,?_⟩
  rw[e]
  exact rest
 ·have e:Txt.split z "/" = wsW z:=by
   rw[qza,qqi _ (by decide)]
   unfold wsW
   rw[if_neg hrt]
  refine ifF hrt ⟨by rw[sl];rfl,sz,by rw[e];exact hws,?_⟩
  rw[e]
  exact rest
def qm7:TVS:=(vRet (qei (vVar 0) qc7 (qhb (vNeg (vC (.int 1))))))
abbrev q0v:List Str:=["way"]
theorem q39:∀ds Q,qgb ds Q->qm7 (En Q) (qax q0v ds):=by
 rintro ds Q ⟨w,rfl,h⟩
 simp! only[qm7,wayD]
 rw[qft]
 exact h
def qzv:TVS:=(vSeq (vIfS (vBl (vOp vEq (vVar 1) (vC (.str ("." : Str)))))
  (vRet (vVar 0))
  qa9)
 (vSeq (vIfS (vBl (vOp vEq (vVar 1) (vC (.str (".." : Str)))))
  (vRet (qak qgb (qaa (vVar 0) vNil)))
  qa9)
 (vRet (vOp vAdd (vVar 0) (vTup (qaa (vVar 1) vNil))))))
abbrev q4l:List Str:=["way","word"]
theorem q71:∀ds Q,qjl ds Q->qzv (En Q) (qax q4l ds):=by
 rintro ds Q ⟨w,z,rfl,hl,h⟩
 have ab:∀Y:R->Prop,Y (.val (wayD w.dropLast))->qgb [wayD w] Y:=λY y=>⟨w,rfl,y⟩
 unfold qdl at h
 refine qed (λb=>b=decide (z=Str.ofString ".")) (λY y=>?t1) (λhb=>?y1) λhb=>?n1
 case t1 =>
  rfl'
  exact y _ (by simp)
 case y1 =>
  rw[if_pos (of_decide_eq_true hb.symm)] at h
  rfl'
  exact h
 case n1 =>
  rw[if_neg (of_decide_eq_false hb.symm)] at h
  refine qed (λb=>b=decide (z=Str.ofString "..")) (λY y=>?t2) (λhb=>?y2) λhb=>?n2
  case t2 =>
   rfl'
   exact y _ (by simp)
  case y2 =>
   rw[if_pos (of_decide_eq_true hb.symm)] at h
   rfl'
   exact ab _ h
  case n2 =>
   rw[if_neg (of_decide_eq_false hb.symm)] at h
   dsimp! only[wayD]
   exact⟨by decide,Nat.le_trans hl qao,h⟩
def qf8:TVS:=(vRet (vIfE (vBl (vVar 0)) (vTup vNil) (vVar 1)))
abbrev qqx:List Str:=["rooted","at"]
theorem qsk:∀ds Q,qb5 ds Q->qf8 (En Q) (qax qqx ds):=by
 rintro ds Q ⟨r,w,rfl,h⟩
 unfold qbt at h
 dsimp! only[qf8]
 cases r
 ·exact h
 ·exact h
def qf6:TVS:=(vSeq (vIfS (vBl (vOp vEq (vVar 0) (vC (.int 8))))
  (qda "Astray" (qaa (vC (.str ("too many links" : Str))) vNil))
  qa9)
 (vRet (vOp vAdd (vVar 0) (vC (.int 1)))))
abbrev qqv:List Str:=["followed"]
theorem qsi:∀ds Q,qde ds Q->qf6 (EnX Q) (qax qqv ds):=by
 rintro ds Q ⟨f,rfl,h1,h2⟩
 simp! only[qf6]
 by_cases e:f=8
 ·subst e
  exact⟨by decide,h1 rfl⟩
 ·have e':¬ (f:Int)=8:=by omega
  rw[if_neg (by simpa using e')]
  exact h2 e
def qfh:TVS:=(vSeq (qgo 1 (qmo (vTup vNil) (vC (.tup [.str ("folder" : Str),.str ("" : Str)]))))
 (vSeq (vFor (qc9 (vVar 0)) (qk6 3 (qcp (qbf 2) (qcp (qbf 3) (qcp (qbf 4) qk5))))
  (qmn 1 (vVar 2) (vTup (qaa (vVar 3) (qaa (vVar 4) vNil)))))
 (qpc 1)))
abbrev qm4:List Str:=["tree","things","way","mark","text"]
theorem qph:∀ds Q,qbo ds Q->qfh (En Q) (qax qm4 ds):=by
 rintro ds Q ⟨rs,rfl,F,h⟩
 have ond:=F.nd
 have olen:=F.len
 simp! only[qfh,qaj]
 refine⟨[],rfl,by simp,?_⟩
 refine qkb (λi τ=>∃(a b c:Option R),τ=[some (.val (.lst (rs.map rowD))),some (.own (qa4 (prsR (rs.take i)))),a,b,c]) ⟨none,none,none,rfl⟩ ?_ ?_
 ·rintro i r τ hr ⟨a,b,c,rfl⟩ nx hnx
  have mr:=List.mem_of_getElem? hr
  have hi:=(List.getElem?_eq_some_iff.mp hr).1
  have hlen:=olen
  simp! only[rowD,qa4,wayD]
  refine⟨by decide,(F.nm r mr).ok.ne,?_,?_⟩
  ·unfold prsR
   rw[List.length_cons,List.length_map,List.length_take]
   exact Nat.lt_of_lt_of_le (show _<1000 by omega) qao
  ·rw[qd4]
   refine hnx _ ⟨some (.val (.tup (r.1.map D.str))),some (.val (.str r.2.1)),some (.val (.str r.2.2)),?_⟩
   have ni:¬ r.1∈(prsR (rs.take i)).map (·.1):=λm=>by
    unfold prsR at m
    rw[List.map_cons,List.mem_cons] at m
    rcases m with m|m
    ·exact F.ne r mr m
    ·rw[List.map_map] at m
     obtain⟨r',m',e'⟩:=List.mem_map.mp m
     have nd:=ond
     rw[List.nodup_iff_pairwise_ne,List.pairwise_map,List.pairwise_iff_getElem] at nd
     obtain⟨j,hj,ej⟩:=List.mem_iff_getElem.mp m'
     have hj':j<i:=by rw[List.length_take] at hj;omega
     have er:rs[i]=r:=by
      rw[List.getElem?_eq_getElem hi] at hr
      exact Option.some.inj hr
     have:=nd j i (by omega) hi hj'
     rw[List.getElem_take] at ej
     rw[ej,er] at this
     exact this e'
   have e:insP (prsR (rs.take i)) r.1 (thD r.2)=prsR (rs.take (i+1)):=by
    unfold insP
    rw[if_neg ni,List.take_succ,hr]
    unfold prsR
    rw[List.map_append]
    rfl
   show _=[_,some (R.own (qa4 (prsR (rs.take (i+1))))),_,_,_]
   rw[←e]
   rfl
 ·rintro τ ⟨a,b,c,rfl⟩
  ac_rfl
  rw[List.take_length]
  exact h
def qs7:TVS:=(vSeq (qgo 4 (vLst vNil))
 (vSeq (qgo 5 (vF1 qpb (vVar 2)))
 (vSeq (q0p (vBl (vOp vNeD (vVar 5) (vLst vNil)))
  (vSeq (qv3 6 5)
 (vSeq (vSet 7 (qak qjl (qaa (vVar 1) (qaa (vVar 6) vNil))))
 (vSeq (vSet 8 (qjy (vVar 0) (vVar 7)))
 (vSeq (vIfS (vBl (vOp (vIsN id) (vVar 8) (vC .non)))
  (qda "Missing" (qaa (vC (.str ("nothing lies there" : Str))) vNil))
  qa9)
 (vSeq (vIfS (qgm (vBl (vOp vEq (vOp vIxR (vVar 8) (vC (.int 0))) (vC (.str ("file" : Str))))) (vBl (vOp vNeD (vVar 5) (vLst vNil))))
  (qda "NotFolder" (qaa (vC (.str ("a file lies ahead of the last word" : Str))) vNil))
  qa9)
 (vSeq (vIfS (vBl (vOp vEq (vOp vIxR (vVar 8) (vC (.int 0))) (vC (.str ("link" : Str)))))
  (vSeq (vSet 3 (qdw qde (qaa (vVar 3) vNil)))
 (vSeq (vSet 9 (qdw qch (qaa (vOp vIxR (vVar 8) (vC (.int 1))) vNil)))
 (vSeq (vSet 7 (qak qb5 (qaa (vOp vIxR (vVar 9) (vC (.int 0))) (qaa (vVar 1) vNil))))
 (qgo 5 (vOp vAdd (vOp vIxR (vVar 9) (vC (.int 1))) (vVar 5))))))
  qa9)
 (vSeq (qer 4 (vTup (qaa (vVar 1) (qaa (vVar 6) (qaa (vVar 7) vNil)))))
 (vSet 1 (vVar 7))))))))))
 (vFrz 4 (vRet (vTup (qaa (vVar 4) (qaa (vVar 1) (qaa (vVar 3) vNil)))))))))
abbrev q4m:List Str:=["things","at","words","followed","trail","left","word","then","thing","led"]
theorem w_walk:∀ds Q,qjm ds Q->qs7 (EnX Q) (qax q4m ds):=by
 rintro ds Q ⟨rs,w0,zs0,f0,rfl,F,hw0,hz0,hzw0,hf0,h⟩
 refine qca ?_
 dsimp! only[qs7]
 refine qca ?_
 dsimp! only[qha]
 refine v_cut (λτ=>∃(w:List Str) (f:Nat) (tr:List (List Str×Str×List Str)) (a b c d:Option R),τ=[some (.val (qa4 (prsR rs))),some (.val (wayD w)),some (.val (qha zs0)),some (.val (.int f)),some (.own (.lst (tr.map trD))),some (.own (.lst [])),a,b,c,d]/\Q (wrR (.ok tr w f))) ?_ ?_
 ·rintro τ ⟨w,f,tr,a,b,c,d,rfl,hq⟩
  rfl'
  exact⟨by decide,hq⟩
 ·intro nx hnx
  refine⟨λm τ=>∃(w left:List Str) (f:Nat) (tr:List (List Str×Str×List Str)) (a b c d:Option R),τ=[some (.val (qa4 (prsR rs))),some (.val (wayD w)),some (.val (qha zs0)),some (.val (.int f)),some (.own (.lst (tr.map trD))),some (.own (.lst (left.map D.str))),a,b,c,d]/\f<=8/\m=(8-f)*41+left.length/\w.length+m<900/\tr.length+m<900/\("" : Str)∉w/\(∀z∈left,wdB z=true)/\∀res,WalkTo (look rs) w left f tr res->Q (wrR res),⟨_,w0,zs0,f0,[],none,none,none,none,rfl,hf0,rfl,by have:=hw0.1;omega,by simp only[List.length_nil];omega,hw0.2,hzw0,h⟩,?_⟩
  rintro m τ ⟨w,left,f,tr,a,b,c,d,rfl,hf,hm,h1,h2,h3,h4,h5⟩
  rfl'
  refine⟨qfq left [],q06 left,?_⟩
  simp only[eqSN left]
  cases left with
 |nil =>
   refine iteF (hnx _ ⟨w,f,tr,a,b,c,d,rfl,h5 _ .nil⟩)
 |cons z zs =>
   refine iteT ?_
   have hl:(z::zs).length=zs.length+1:=rfl
   rw[hl] at hm
   obtain⟨G,hG⟩:∃G:VSt->Prop,G=(λτ':VSt=>∃m',m'<m/\∃(w left:List Str) (f:Nat) (tr:List (List Str×Str×List Str)) (a b c d:Option R),τ'=[some (.val (qa4 (prsR rs))),some (.val (wayD w)),some (.val (qha zs0)),some (.val (.int f)),some (.own (.lst (tr.map trD))),some (.own (.lst (left.map D.str))),a,b,c,d]/\f<=8/\m'=(8-f)*41+left.length/\w.length+m'<900/\tr.length+m'<900/\("" : Str)∉w/\(∀z∈left,wdB z=true)/\∀res,WalkTo (look rs) w left f tr res->Q (wrR res)):=⟨_,rfl⟩
   have kn:∀(w' left':List Str) (f':Nat) (tr':List (List Str×Str×List Str)) (a b c d:Option R),f'<=8->(8-f')*41+left'.length<m->w'.length<=w.length+1->tr'.length<=tr.length+1->("" : Str)∉w'->(∀z∈left',wdB z=true)->(∀res,WalkTo (look rs) w' left' f' tr' res->Q (wrR res))->G [some (R.val (qa4 (prsR rs))),some (R.val (wayD w')),some (R.val (qha zs0)),some (R.val (D.int f')),some (R.own (D.lst (tr'.map trD))),some (R.own (D.lst (left'.map D.str))),a,b,c,d]:=λw' left' f' tr' a b c d k1 k2 k3 k4 k5 k6 k7=>by
    rw[hG]
    exact⟨_,k2,w',left',f',tr',a,b,c,d,rfl,k1,rfl,by omega,by omega,k5,k6,k7⟩
   rw[←hG]
   clear hG hnx
   have hz:wdB z=true:=h4 z List.mem_cons_self
   have hzs:∀y∈zs,wdB y=true:=λy my=>h4 y (List.mem_cons_of_mem _ my)
   have ls:∀Y:R->Prop,Y (.val (wayD (qdl w z)))->qjl [wayD w,.str z] Y:=λY y=>⟨w,z,rfl,by omega,y⟩
   refine qca ?_
   dsimp! only[List.map_cons]
   refine qca ?_
   rfl'
   refine ls _ ?_
   rfl'
   refine qca ?_
   dsimp! only[qa4]
   refine⟨qdl w z,rfl,qvs h3 hz,?_⟩
   rw[qcn,qod]
   have one:1<=sizeLine:=by decide
   cases hk:look rs (qdl w z) with
  |none =>
    refine qca ?_
    dsimp! only[Option.map_none,Option.getD_none]
    exact⟨one,h5 _ (.miss hk)⟩
  |some mt =>
    obtain⟨m',t⟩:=mt
    refine qed (λb=>b=false) (λY y=>?t1) (λhb=>absurd hb (by decide)) λ_=>?n1
    case t1 =>
     dsimp! only[thD,Option.map_some,Option.getD_some]
     exact y _ rfl
    case n1 =>
    refine qed (λb=>b=(decide (m'=qfu)&&decide (zs≠[]))) (λY y=>?t2) (λhb=>?y2) λhb=>?n2
    case t2 =>
     dsimp! only[thD,Option.map_some,Option.getD_some]
     by_cases hm':m'=qfu
     ·rw[if_pos (decide_eq_true hm')]
      refine⟨qfq zs [],q06 zs,?_⟩
      rw[eqSN zs]
      refine y _ ?_
      rw[decide_eq_true hm',Bool.true_and,decide_not]
     ·rw[if_neg (by rw[decide_eq_false hm'];decide)]
      refine y _ ?_
      rw[decide_eq_false hm',Bool.false_and]
    case y2 =>
     rw[Eq.comm,Bool.and_eq_true] at hb
     have e1:=of_decide_eq_true hb.1
     subst e1
     rfl'
     exact⟨one,h5 _ (.file hk (of_decide_eq_true hb.2))⟩
    case n2 =>
    refine v_cut (λτ=>∃(w' left':List Str) (f':Nat) (c d:Option R),τ=[some (R.val (qa4 (prsR rs))),some (R.val (wayD w)),some (R.val (qha zs0)),some (R.val (D.int f')),some (R.own (D.lst (tr.map trD))),some (R.own (D.lst (left'.map D.str))),some (.val (.str z)),some (.val (wayD w')),c,d]/\f'<=8/\(8-f')*41+left'.length<m/\w'.length<=w.length+1/\("" : Str)∉w'/\(∀z∈left',wdB z=true)/\(∀res,WalkTo (look rs) w' left' f' (tr++[(w,z,w')]) res->Q (wrR res))) ?_ ?_
    ·rintro τ ⟨w',left',f',c,d,rfl,k1,k2,k3,k4,k5,k6⟩
     refine qca ?_
     rfl'
     refine⟨by decide,Nat.lt_of_lt_of_le (show _<1000 by omega) qao,?_⟩
     have e:tr.map trD++[D.tup [wayD w,D.str z,wayD w']]=(tr++[(w,z,w')]).map trD:=by rw[List.map_append];rfl
     rw[e]
     exact kn w' left' f' _ _ _ _ _ k1 k2 k3 (by rw[List.length_append];exact Nat.le_refl _) k4 k5 k6
    ·intro nx hnx
     refine v_if (λb=>b=decide (m'=qdk)) (λY y=>?t3) (λhb=>?y3) λhb=>?n3
     case t3 =>
      dsimp! only[thD,Option.map_some,Option.getD_some]
      exact y _ rfl
     case n3 =>
      have hm':=of_decide_eq_false hb.symm
      refine hnx _ ⟨qdl w z,zs,f,_,_,rfl,hf,by omega,qze w z,qvs h3 hz,hzs,λres k=>h5 _ (.plain hk hm' (λe=>?_) k)⟩
      by_cases hn:zs=[]
      ·exact hn
      ·rename_i hc
       rw[decide_eq_true e,decide_eq_true hn] at hc
       cases hc
     case y3 =>
      have hm':=of_decide_eq_true hb.symm
      subst hm'
      have lo:∀Y:R->Prop,(f=8->Y (.exc "Astray"))->(f≠8->Y (.val (.int (f+1:Nat))))->qde [.int f] Y:=λY y1 y2=>⟨f,rfl,y1,y2⟩
      obtain⟨mr,er,et⟩:∃r∈rs,r.2=(qdk,t)/\r.1=qdl w z:=by
       unfold look at hk
       by_cases e0:qdl w z=[]
       ·rw[if_pos e0] at hk
        exact absurd (show qai=qdk from congrArg (λx=>(x.getD ("","")).1) hk) (by decide +kernel)
       ·rw[if_neg e0] at hk
        obtain⟨r,h1,h2⟩:=Option.map_eq_some_iff.mp hk
        exact⟨r,List.mem_of_find?_eq_some h1,h2,of_decide_eq_true (List.find?_some (p:=λr:Row=>decide (r.1=qdl w z)) h1)⟩
      obtain⟨lt,r,vs,ew⟩:=F.lk mr er (by rw[et.1])
      rw[et.1] at lt ew
      have lw:∀Y:R->Prop,Y (.val (.tup [.bl r,qha vs]))->qch [.str t] Y:=λY y=>⟨t,rfl,by simp only at lt;omega,λr' ws' e'=>by rw[ew] at e';cases e';exact y,λe'=>by rw[ew] at e';cases e'⟩
      have lst:∀Y:R->Prop,Y (.val (wayD (qbt r w)))->qb5 [.bl r,wayD w] Y:=λY y=>⟨r,w,rfl,y⟩
      have ok:=qqt ew
      refine qca ?_
      rfl'
      refine lo _ (λe8=>?_) λn8=>?_
      ·rfl'
       subst e8
       exact h5 _ (.many hk)
      rfl'
      refine qca ?_
      dsimp! only[thD,Option.map_some,Option.getD_some]
      refine lw _ ?_
      rfl'
      refine qca ?_
      rfl'
      refine lst _ ?_
      dsimp! only[qha]
      refine⟨Nat.le_trans (show _<=1000 by omega) qao,?_⟩
      exact hnx _ ⟨qbt r w,vs++zs,f+1,_,_,rfl,by omega,by rw[List.length_append];omega,Nat.le_succ_of_le (qmj r w),qqj r h3,λy my=>(List.mem_append.mp my).elim (ok.2 y) (hzs y),λres k=>h5 _ (.link hk n8 ew k)⟩
def qj5:TVS:=(vSeq (vSet 4 (qdw qch (qaa (vVar 2) vNil)))
 (vSeq (vSet 5 (vOp vIxR (vVar 4) (vC (.int 1))))
 (vSeq (vIfS (vOrT (vBl (vOp vEq (vVar 5) (vLst vNil))) (qes (vBl (qak qc3 (qaa (vOp vIxR (vVar 5) (vNeg (vC (.int 1)))) vNil)))))
  (qda "NoPlace" (qaa (vC (.str ("the last word is no name" : Str))) vNil))
  qa9)
 (vSeq (vSet 6 (qdw qjm (qaa (vVar 0) (qaa (qak qb5 (qaa (vOp vIxR (vVar 4) (vC (.int 0))) (qaa (vVar 1) vNil))) (qaa (qei (vVar 5) qc7 (qhb (vNeg (vC (.int 1))))) (qaa (vVar 3) vNil))))))
 (vSeq (vIfS (vBl (vOp vNeD (vOp vIxR (qja (vVar 0) (vOp vIxR (vVar 6) (vC (.int 1)))) (vC (.int 0))) (vC (.str ("folder" : Str)))))
  (qda "NotFolder" (qaa (vC (.str ("the words ahead of the last one lead to a file" : Str))) vNil))
  qa9)
 (vRet (vTup (qaa (vOp vAdd (vOp vIxR (vVar 6) (vC (.int 1))) (vTup (qaa (vOp vIxR (vVar 5) (vNeg (vC (.int 1)))) vNil))) (qaa (vOp vIxR (vVar 6) (vC (.int 2))) vNil)))))))))
abbrev qwz:List Str:=["things","at","text","followed","found","words","come"]
theorem qzu:∀ds Q,qe5 ds Q->qj5 (EnX Q) (qax qwz ds):=by
 rintro ds Q ⟨rs,w,t,f,rfl,F,hw,ht,hf,hl,h⟩
 have one:1<=sizeLine:=by decide
 refine qca ?_
 dsimp! only[qj5]
 refine⟨t,rfl,ht,λr zs e=>?_,λe=>?_⟩
 ·have ok:=qqt e
  have l2:∀Y:R->Prop,Y (.val (wayD (qbt r w)))->qb5 [.bl r,wayD w] Y:=λY y=>⟨r,w,rfl,y⟩
  have l3:∀Y:R->Prop,(∀res,WalkTo (look rs) (qbt r w) zs.dropLast f [] res->Y (wrR res))->qjm [qa4 (prsR rs),wayD (qbt r w),qha zs.dropLast,.int f] Y:=λY y=>⟨rs,qbt r w,zs.dropLast,f,rfl,F,q7c r hw,by rw[List.length_dropLast];omega,λz m=>ok.2 z (List.dropLast_subset zs m),hf,y⟩
  have lr:∀z∈zs,z.length<=5000:=λz m=>by
   have:=ok.2 z m
   unfold wdB at this
   rw[Bool.or_eq_true] at this
   rcases this with q|q
   ·have:=of_decide_eq_true q
    rw[List.mem_cons,List.mem_singleton] at this
    rcases this with rfl|rfl
    ·decide +kernel
    ·decide +kernel
   ·have:=(qjq q).2
    omega
  rfl'
  refine qca ?_
  dsimp! only[qha]
  refine qed (λb=>b=(decide (zs=[])||!nmB (zs.getLastD ""))) (λY y=>?t1) (λhb=>?y1) λhb=>?n1
  case t1 =>
   rfl'
   refine⟨qfq zs [],q06 zs,?_⟩
   rw[eqSN zs]
   by_cases hz:zs=[]
   ·rw[if_pos (decide_eq_true hz)]
    refine y _ ?_
    rw[decide_eq_true hz,Bool.true_or]
   ·rw[if_neg (by rw[decide_eq_false hz];decide)]
    have el:=qkc hz
    refine⟨.str (zs.getLastD ""),?_,zs.getLastD "",rfl,lr _ ?_,?_⟩
    ·rw[el,List.map_append]
     simp
    ·rw[el]
     exact List.mem_append_right _ (by simp)
    ·rfl'
     refine y _ ?_
     rw[decide_eq_false hz,Bool.false_or]
  case y1 =>
   rfl'
   refine⟨one,h _ (.noplace e ?_)⟩
   rw[Eq.comm,Bool.or_eq_true] at hb
   exact hb.elim (λq=>.inl (of_decide_eq_true q)) λq=>.inr (by simpa using q)
  case n1 =>
  rw[Eq.comm,Bool.or_eq_false_iff] at hb
  have hz:zs≠[]:=of_decide_eq_false hb.1
  have hn:nmB (zs.getLastD "")=true:=by simpa using hb.2
  refine qca ?_
  rfl'
  refine l2 _ ?_
  rfl'
  rw[qft]
  refine l3 _ λres k=>?_
  cases res with
 |exc n =>
   dsimp! only[wrR]
   exact h _ (.bad e hz hn k)
 |ok tr v f' =>
   dsimp! only[wrR]
   obtain⟨⟨m,x⟩,hv⟩:=qwu k (qr6 r hl) rfl
   have wv:=qp1 F hv
   have el:=qkc hz
   refine qed (λb=>b=!decide (m=qai)) (λY y=>?t2) (λhb=>?y2) λhb=>?n2
   case t2 =>
    dsimp! only[qa4]
    show ∃w:List Str,v.map D.str=w.map D.str/\_
    refine⟨v,rfl,wv.ok.ne,thD (m,x),by rw[qcn,qod,hv];rfl,?_⟩
    dsimp! only[thD]
    exact y _ rfl
   case y2 =>
    rfl'
    exact⟨one,h _ (.file e hz hn k hv (by simpa using hb))⟩
   case n2 =>
    have hm:m=qai:=by simpa using hb
    subst hm
    rfl'
    refine⟨.str (zs.getLastD ""),?_,one,?_,by decide,?_⟩
    ·conv=>lhs;rw[el,List.map_append]
     simp
    ·rw[List.length_map]
     exact Nat.le_trans (show v.length+1<=1000 by have:=wv.1;omega) qao
    ·have:=h _ (.ok e hz hn k hv)
     unfold plR wayD at this
     simp only[List.map_append] at this
     exact this
 ·rfl'
  exact h _ (.noway e)
def qf7:TVS:=(vRet (vOp vIxR (qdw qe5 (qaa (qak qbo (qaa (vVar 0) vNil)) (qaa (vVar 1) (qaa (vVar 2) (qaa (vC (.int 0)) vNil))))) (vC (.int 0))))
abbrev qqw:List Str:=["tree","at","text"]
theorem qsj:∀ds Q,qb4 ds Q->qf7 (EnX Q) (qax qqw ds):=by
 rintro ds Q ⟨rs,w,t,rfl,F,hw,ht,hl,h⟩
 have l1:∀Y:R->Prop,Y (.own (qa4 (prsR rs)))->qbo [qaj rs] Y:=λY y=>⟨rs,rfl,F,y⟩
 have l2:∀Y:R->Prop,(∀res,PlaceTo rs w t 0 res->Y (plR res))->qe5 [qa4 (prsR rs),wayD w,.str t,.int (0:Nat)] Y:=λY y=>⟨rs,w,t,0,rfl,F,hw,ht,by decide,hl,y⟩
 dsimp! only[qf7]
 refine l1 _ ?_
 rfl'
 refine l2 _ λres k=>?_
 have:=h res k
 cases res with
|ok tr w f =>
  dsimp! only[plR]
  exact this
|exc n =>
  dsimp! only[plR]
  exact this
def qm9:TVS:=(vRet (qfp (qpd (vVar 3)) (qbf 4) (λ_ Q=>Q true) (vOp vAdd (qak qb2 (qaa (vVar 0) (qaa (vOp vAdd (vVar 1) (vOp vMul (vVar 2) (vVar 4))) vNil))) (vVar 4)) 1))
abbrev q0x:List Str:=["_law_script","_law_first","_law_step","_law_many"]
theorem q4b:∀ds Q,qgd ds Q->qm9 (En Q) (qax q0x ds):=by
 rintro ds Q ⟨ns,a,b,m,rfl,h0,h1,h2,h3,h⟩
 simp! only[qm9]
 refine⟨by omega,by omega,?_⟩
 refine qw2 (f:=λi:Nat=>D.int (0+i)) (λd=>∃z:Int,d=.int z) (List.range m.toNat) (by rw[List.length_range];exact Nat.le_trans (show _<=1000 by omega) qao) (λk hk Y N hY=>?_) λes hl he=>?_
 ·simp! only[qb2]
  have:=List.mem_range.mp hk
  refine⟨.inr ⟨by omega,by omega⟩,?_,hY _ ⟨_,rfl⟩⟩
  have:=Int.mul_nonneg h1 (Int.natCast_nonneg k)
  omega
 ·obtain⟨cs,rfl⟩:=qpw es he
  ac_rfl
  rw[List.length_map,List.length_range] at hl
  exact h cs hl
def qlh:TVS:=(vSeq (vSet 4 (qak qa3 (qaa (vVar 2) (qaa (vC (.int 5)) (qaa (vC (.int 7)) vNil)))))
 (vSeq (vIfS (vOrT (vBl (vOp vGt (vVar 4) (vC (.int 4)))) (vBl (vOp vEq (vF1 vLen (vVar 0)) (vC (.int 0)))))
  (vSeq (vSet 5 (vTup (qaa (vC (.str ("/" : Str))) (qaa (vC (.str (".." : Str))) (qaa (vC (.str ("." : Str))) (qaa (vVar 3) (qaa (vOp vAdd (vC (.str ("../" : Str))) (vVar 3)) (qaa (vOp vAdd (vOp vAdd (vC (.str ("./" : Str))) (vVar 3)) (vC (.str ("/.." : Str)))) vNil))))))))
 (vRet (vOp vIxR (vVar 5) (qak qa3 (qaa (vVar 2) (qaa (vC (.int 7)) (qaa (vC (.int 6)) vNil)))))))
  qa9)
 (vSeq (vSet 6 (qpa (vC (.str ("/" : Str))) (vOp vIxR (vVar 0) (qak qa3 (qaa (vVar 2) (qaa (vC (.int 6)) (qaa (vF1 vLen (vVar 0)) vNil)))))))
 (vSeq (vIfS (vBl (vOp vEq (vVar 4) (vC (.int 4))))
  (vRet (vOp vAdd (vOp qse (vC (.str ("../" : Str))) (vF1 vLen (vVar 1))) (vVar 6)))
  qa9)
 (vRet (vOp vAdd (vC (.str ("/" : Str))) (vVar 6)))))))
abbrev qsu:List Str:=["_law_ways","_law_over","_law_cell","_law_name","_law_kind","_law_some","_law_to"]
theorem qwn:∀ds Q,qdz ds Q->qlh (En Q) (qax qsu ds):=by
 rintro ds Q ⟨ws,over,c,z,rfl,hws,hov,hz,h⟩
 have mx:∀(k n:Int) (Y:R->Prop),0<=k->0<n->(∀i,0<=i->i<n->Y (.val (.int i)))->qa3 [.int c,.int k,.int n] Y:=λk n Y hk hn y=>⟨c,k,n,rfl,hk,hn,λi h0 h1 _=>y i h0 h1⟩
 have wz:=qfl hz
 have lz:=(qjq hz).2
 refine v_cut (λτ=>∃k:Int,τ=[some (.val (.lst (ws.map wayD))),some (.val (wayD over)),some (.val (.int c)),some (.val (.str z)),some (.val (.int k)),none,none]) ?_ λnx hnx=>?now
 case now =>
  rfl'
  refine mx _ _ _ (by decide) (by decide) λi _ _=>?_
  rfl'
  exact hnx _ ⟨i,rfl⟩
 rintro τ ⟨k,rfl⟩
 refine qed (λb=>b=false->ws≠[]) (λY y=>?t1) (λ_=>?y1) λhn=>?n1
 case t1 =>
  rfl'
  by_cases e0:ws=[]
  ·subst e0
   by_cases e4:k>4
   ·rw[if_pos (decide_eq_true e4)]
    exact y _ λq=>by cases q
   ·rw[if_neg (by rw[decide_eq_false e4];decide)]
    exact y _ λq=>by revert q;decide
  ·by_cases e4:k>4
   ·rw[if_pos (decide_eq_true e4)]
    exact y _ λ_=>e0
   ·rw[if_neg (by rw[decide_eq_false e4];decide)]
    exact y _ λ_=>e0
 case y1 =>
  have e2:(Str.ofString "../").length=3:=by decide +kernel
  have e3:(Str.ofString "./").length=2:=by decide +kernel
  have e4:(Str.ofString "/..").length=3:=by decide +kernel
  refine qca ?_
  rfl'
  refine⟨Nat.le_trans (show _<=1000 by omega) qao,Nat.le_trans (show _<=1000 by omega) qao,Nat.le_trans (show _<=1000 by rw[PySem.Str.length_append];omega) qao,by decide,?_⟩
  refine mx _ _ _ (by decide) (by decide) λi i0 i1=>?_
  rfl'
  obtain⟨x,hx,hx2⟩:=qef (xs:=[Str.ofString "/",Str.ofString "..",Str.ofString ".",z,Str.ofString "../" ++ z,Str.ofString "./" ++ z++Str.ofString "/.."]) (k:=i) i0 i1
  have hx3:atI ([Str.ofString "/",Str.ofString "..",Str.ofString ".",z,Str.ofString "../" ++ z,Str.ofString "./" ++ z++Str.ofString "/.."].map D.str) i=some (.str x):=by rw[qdo,hx];rfl
  refine⟨.str x,hx3,?_⟩
  have mx:=List.mem_of_getElem? hx2
  simp only[List.mem_cons,List.not_mem_nil,or_false] at mx
  have d3:(Str.ofString "../").cps.toList=[46,46,47]:=by decide +kernel
  have d2:(Str.ofString "./").cps.toList=[46,47]:=by decide +kernel
  have d4:(Str.ofString "/..").cps.toList=[47,46,46]:=by decide +kernel
  have c1:(Str.ofString ".").cps.toList=[46]:=by decide +kernel
  have c2:(Str.ofString "..").cps.toList=[46,46]:=by decide +kernel
  have g1:glue "/" [z]=z:=qfo (by rw[qcl];exact List.append_nil _)
  have g2:glue "/" [Str.ofString "..",z]=Str.ofString "../" ++ z:=qfo (by rw[qcl,app_list,d3,c2];show [46,46]++(47::z.cps.toList++[])=_;simp)
  have g3:glue "/" [Str.ofString ".",z,Str.ofString ".."]=Str.ofString "./" ++ z++Str.ofString "/.." := qfo (by rw[qcl,app_list,app_list,d2,d4,c1];show [46]++(47::z.cps.toList++(47::(Str.ofString "..").cps.toList++[]))=_;rw[c2];simp)
  rcases mx with rfl|rfl|rfl|rfl|rfl|rfl
  ·exact h _ (by decide +kernel) ⟨true,[],by decide +kernel⟩
  ·exact h _ (by decide +kernel) ⟨false,[".."],by decide +kernel⟩
  ·exact h _ (by decide +kernel) ⟨false,["."],by decide +kernel⟩
  ·exact h _ (by omega) ⟨false,[x],by have:=qe2 (ws:=[x]) (by simp) (by simp) (by simpa using wz);rw[g1] at this;exact this⟩
  ·refine h _ (by rw[PySem.Str.length_append];omega) ⟨false,_,g2▸qe2 (by simp) (by simp) λy my=>?_⟩
   simp only[List.mem_cons,List.not_mem_nil,or_false] at my
   rcases my with rfl|rfl
   ·exact qpi
   ·exact wz
  ·refine h _ (by rw[PySem.Str.length_append,PySem.Str.length_append];omega) ⟨false,_,g3▸qe2 (by simp) (by simp) λy my=>?_⟩
   simp only[List.mem_cons,List.not_mem_nil,or_false] at my
   rcases my with rfl|rfl|rfl
   ·exact q72
   ·exact wz
   ·exact qpi
 case n1 =>
 have hn:=hn rfl
 have hwl:0<ws.length:=List.length_pos_iff.mpr hn
 refine v_cut (λτ=>∃w∈ws,τ=[some (.val (.lst (ws.map wayD))),some (.val (wayD over)),some (.val (.int c)),some (.val (.str z)),some (.val (.int k)),none,some (.val (.str (glue "/" w)))]) ?_ λnx hnx=>?now
 case now =>
  rfl'
  refine mx _ _ _ (by decide) (by omega) λi i0 i1=>?_
  obtain⟨w,hw,hw2⟩:=qef (xs:=ws) (k:=i) i0 i1
  have mw:=List.mem_of_getElem? hw2
  rfl'
  have s1:=qqk λy my=>qfl ((hws w mw).2.2 y my)
  have s2:=(hws w mw).2.1
  have s3:=qd2
  refine⟨wayD w,by rw[qdo,hw];rfl,w,.inr rfl,?_,hnx _ ⟨w,mw,rfl⟩⟩
  have s4:(Str.ofString "/").length=1:=qd2
  rw[s4]
  omega
 rintro τ ⟨w,mw,rfl⟩
 obtain⟨w0,w1,w2⟩:=hws w mw
 have ww:∀y∈w,wdB y=true:=λy my=>qfl (w2 y my)
 have gl:=qny ww
 refine qed (λ_=>True) (λY y=>?t2) (λ_=>?y2) λ_=>?n2
 case t2 =>
  rfl'
  exact y _ trivial
 case y2 =>
  have o1:=hov.1
  have um:=q0o ⟨over.length,by omega⟩
  have ul:(Txt.mul "../" (over.length:Int)).length<=3*12:=PyProof.Rows.len_mul_leN (by decide +kernel) (by omega)
  dsimp! only[wayD]
  refine⟨q9a ⟨over.length,by omega⟩,Nat.le_trans (show _<=1000 by omega) qao,h _ (by rw[PySem.Str.length_append];omega) ⟨false,List.replicate over.length (".." : Str)++w,?_⟩⟩
  have:=q3w o1 w0
  show qb1 (Txt.mul "../" (over.length:Int)++glue "/" w)=_
  rw[this]
  refine qe2 (by simp[w0]) (by rw[List.length_append,List.length_replicate];omega) λy my=>?_
  rcases List.mem_append.mp my with q|q
  ·rw[(List.mem_replicate.mp q).2]
   exact qpi
  ·exact ww y q
 case n2 =>
  rfl'
  have s3:(Str.ofString "/").length=1:=qd2
  exact⟨Nat.le_trans (show _<=1000 by omega) qao,h _ (by rw[PySem.Str.length_append];omega) ⟨true,_,qj2 (by omega) ww⟩⟩
def qhh:TVS:=(vSeq (vSet 2 (vOp vAdd (vC (.int 2)) (vOp vMod (vOp vDiv (vVar 1) (vC (.int 5))) (vC (.int 7)))))
 (vSeq (qgo 3 qmm)
 (vSeq (qgo 4 (vLst (qaa (vTup vNil) vNil)))
 (vSeq (vFor (qc9 (vVar 0)) (qbf 5)
  (vSeq (vSet 6 (vOp vIxR (vVar 4) (qak qa3 (qaa (vVar 5) (qaa (vC (.int 0)) (qaa (vF1 vLen (vVar 4)) vNil))))))
 (vSeq (vIfS (vBl (vOp vEq (qak qa3 (qaa (vVar 5) (qaa (vC (.int 3)) (qaa (vC (.int 3)) vNil)))) (vC (.int 0))))
  (vSet 6 (vOp vIxR (vVar 4) (vNeg (vC (.int 1)))))
  qa9)
 (vSeq (vSet 7 (qak qbs (qaa (vVar 1) (qaa (qak qa3 (qaa (vVar 5) (qaa (vC (.int 1)) (qaa (vVar 2) vNil)))) vNil))))
 (vSeq (vSet 8 (vOp vAdd (vVar 6) (vTup (qaa (vVar 7) vNil))))
 (vIfS (qgm (vBl (vDIn (!·) (vVar 8) (vVar 3))) (vBl (vOp vLt (vF1 vLen (vVar 8)) (vC (.int 13)))))
  (vSeq (vSet 9 (vOp vIxR (vTup (qaa (vC (.str ("folder" : Str))) (qaa (vC (.str ("link" : Str))) (qaa (vC (.str ("file" : Str))) (qaa (vC (.str ("folder" : Str))) (qaa (vC (.str ("link" : Str))) vNil)))))) (qak qa3 (qaa (vVar 5) (qaa (vC (.int 2)) (qaa (vC (.int 5)) vNil))))))
 (vSeq (qmn 3 (vVar 8) (vTup (qaa (vVar 9) (qaa (vC (.str ("" : Str))) vNil))))
 (vSeq (vIfS (vBl (vOp vEq (vVar 9) (vC (.str ("link" : Str)))))
  (qmn 3 (vVar 8) (vTup (qaa (vVar 9) (qaa (qak qdz (qaa (vF1 qgz (vVar 3)) (qaa (vVar 6) (qaa (vVar 5) (qaa (vVar 7) vNil))))) vNil))))
  qa9)
 (vSeq (vIfS (vBl (vOp vEq (vVar 9) (vC (.str ("file" : Str)))))
  (qmn 3 (vVar 8) (vTup (qaa (vVar 9) (qaa (vOp vAdd (vOp vAdd (vVar 7) (vC (.str (" " : Str)))) (vF1 vStr (vOp vMod (vVar 5) (vOp vPow (vC (.int 10)) (vC (.int 30)))))) vNil))))
  qa9)
 (vIfS (vBl (vOp vEq (vVar 9) (vC (.str ("folder" : Str)))))
  (qer 4 (vVar 8))
  qa9)))))
  qa9))))))
 (qpc 3)))))
abbrev qsr:List Str:=["_law_cells_here","_law_stem","_law_wide","_law_things","_law_folders","_law_cell","_law_over","_law_name","_law_way","_law_mark"]
theorem qt5{rs:List Row}{w:List Str}(h:w∉rs.map (·.1))(m t:Str):insP (rs.map prR) w (.tup [.str m,.str t])=(rs++[(w,m,t)]).map prR:=by
 unfold insP
 rw[qi1,if_neg h,List.map_append]
 rfl
theorem qpv{rs:List Row}{w:List Str}(h:w∉rs.map (·.1))(m t m' t':Str):insP ((rs++[(w,m,t)]).map prR) w (.tup [.str m',.str t'])=(rs++[(w,m',t')]).map prR:=by
 unfold insP
 rw[qi1,if_pos (by rw[List.map_append];exact List.mem_append_right _ (by simp)),List.map_append,List.map_append,List.map_append]
 congr 1
 ·rw[List.map_map]
  refine List.map_congr_left λr mr=>?_
  show (if r.1=w then _ else _)=_
  rw[if_neg (λe:r.1=w=>h (List.mem_map.mpr ⟨r,mr,e⟩))]
 ·show [if w=w then _ else _]=_
  rw[if_pos rfl]
  rfl
theorem qwk:∀ds Q,qdy ds Q->qhh (En Q) (qax qsr ds):=by
 rintro ds Q ⟨cs,st,rfl,hcs,h⟩
 refine qca ?_
 dsimp! only[qhh]
 have w0:=Int.emod_nonneg (st / 5) (show (7:Int)≠0 by decide)
 generalize hwd:2+st / 5%7=wide
 have w1:0<wide:=by omega
 refine qca ?_
 rfl'
 refine qca ?_
 rfl'
 refine⟨by decide,?_⟩
 refine qca ?_
 rfl'
 refine qkb (λi τ=>∃(rs:List Row) (fs:List (List Str)) (a b c d e:Option R),HInv i rs fs /\
  τ=[some (.val (.lst (cs.map D.int))),some (.val (.int st)),some (.val (.int wide)),some (.own (qa4 (rs.map prR))),some (.own (.lst (fs.map wayD))),a,b,c,d,e]) ⟨[],[[]],none,none,none,none,none,⟨⟨by simp,by simp,by simp,by simp,by simp⟩,by simp,by simp,by simp,by simp,λz=>absurd z (Nat.lt_irrefl 0)⟩,rfl⟩ ?_ ?_
 ·rintro i c τ hc ⟨rs,fs,k5,k6,k7,k8,k9,I,rfl⟩ nx hnx
  have hi:=(List.getElem?_eq_some_iff.mp hc).1
  have hfp:0<fs.length:=List.length_pos_iff.mpr I.ne
  have hfl:=I.fln
  have hrl:=I.len
  have mx:∀(k n:Int) (Y:R->Prop),0<=k->0<n->(∀i,0<=i->i<n->Y (.val (.int i)))->qa3 [.int c,.int k,.int n] Y:=λk n Y hk hn y=>⟨c,k,n,rfl,hk,hn,λi h0 h1 _=>y i h0 h1⟩
  have nb:∀(i:Int) (Y:R->Prop),0<=i->(∀z:Str,nmB z=true->Y (.val (.str z)))->qbs [.int st,.int i] Y:=λi Y hi y=>⟨st,i,rfl,hi,y⟩
  refine v_cut (λτ=>∃f,f∈fs/\τ=[some (.val (.lst (cs.map D.int))),some (.val (.int st)),some (.val (.int wide)),some (.own (qa4 (rs.map prR))),some (.own (.lst (fs.map wayD))),some (.val (.int c)),some (.val (wayD f)),k7,k8,k9]) ?_ λnx2 hnx2=>?now
  case now =>
   rfl'
   refine mx _ _ _ (by decide) (by omega) λk k0 k1=>?_
   obtain⟨f,hf,hf2⟩:=qef (xs:=fs) (k:=k) k0 k1
   rfl'
   exact⟨wayD f,by rw[qdo,hf];rfl,hnx2 _ ⟨f,List.mem_of_getElem? hf2,rfl⟩⟩
  rintro τ ⟨f,mf,rfl⟩
  refine v_cut (λτ=>∃f,f∈fs/\τ=[some (.val (.lst (cs.map D.int))),some (.val (.int st)),some (.val (.int wide)),some (.own (qa4 (rs.map prR))),some (.own (.lst (fs.map wayD))),some (.val (.int c)),some (.val (wayD f)),k7,k8,k9]) ?_ λnx2 hnx2=>?now
  case now =>
   rfl'
   refine mx _ _ _ (by decide) (by decide) λk k0 k1=>?_
   rfl'
   split
   ·exact⟨wayD (fs.getLast I.ne),by rw[List.getLast?_map,List.getLast?_eq_some_getLast I.ne];rfl,hnx2 _ ⟨_,List.getLast_mem I.ne,rfl⟩⟩
   ·exact hnx2 _ ⟨f,mf,rfl⟩
  clear mf f
  rintro τ ⟨f,mf,rfl⟩
  have hf12:=I.folW mf
  refine v_cut (λτ=>∃z:Str,nmB z=true/\τ=[some (.val (.lst (cs.map D.int))),some (.val (.int st)),some (.val (.int wide)),some (.own (qa4 (rs.map prR))),some (.own (.lst (fs.map wayD))),some (.val (.int c)),some (.val (wayD f)),some (.val (.str z)),k8,k9]) ?_ λnx2 hnx2=>?now
  case now =>
   rfl'
   refine mx _ _ _ (by decide) w1 λk k0 k1=>?_
   rfl'
   refine nb _ _ k0 λz hz=>?_
   rfl'
   exact hnx2 _ ⟨z,hz,rfl⟩
  rintro τ ⟨z,hz,rfl⟩
  refine v_cut (λτ=>τ=[some (.val (.lst (cs.map D.int))),some (.val (.int st)),some (.val (.int wide)),some (.own (qa4 (rs.map prR))),some (.own (.lst (fs.map wayD))),some (.val (.int c)),some (.val (wayD f)),some (.val (.str z)),some (.val (wayD (f++[z]))),k9]) ?_ λnx2 hnx2=>?now
  case now =>
   dsimp! only[wayD]
   have:=hf12.1
   exact⟨by decide,Nat.le_trans (show _<=1000 by omega) qao,hnx2 _ rfl⟩
  rintro τ rfl
  have hwe:("" : Str)∉f++[z]:=λm=>by
   rcases List.mem_append.mp m with m|m
   ·exact hf12.ne m
   ·exact qlc (qfl hz) (List.mem_singleton.mp m).symm
  have lk:(lkP (rs.map prR) (f++[z])).isSome=decide (f++[z]∈rs.map (·.1)):=by
   rw[ql9,Option.isSome_map]
   exact(Option.isSome_map ..).symm.trans (qxu rs (f++[z]))
  have stay:=λ(pz:rs≠[])=>hnx _ ⟨rs,fs,some (.val (.int c)),some (.val (wayD f)),some (.val (.str z)),some (.val (wayD (f++[z]))),k9,I.stay pz,rfl⟩
  have put:=λ(m t:Str) (hl:(f++[z]).length<=12) (nw:f++[z]∉rs.map (·.1)) (hm:mkH (f++[z],m,t))=>I.put mf hz hl nw hm
  have hfw:WyH f:=hf12
  have w00:f++[z]≠[]:=by simp
  have wz12:(f++[z]).length<=12->WyH (f++[z]):=λhl=>⟨hl,λy my=>by
   rcases List.mem_append.mp my with q|q
   ·exact hf12.2 y q
   ·rw[List.mem_singleton.mp q]
    exact hz⟩
  generalize hw:f++[z]=w at *
  have fpos:¬ w.length<13->rs≠[]:=λz e=>by
   rcases I.fol f mf with q|q
   ·rw[q,List.nil_append] at hw
    rw[←hw] at z
    exact z (by decide:1<13)
   ·rw[e] at q
    cases q
  refine v_if (λb=>(b=true->w∉rs.map (·.1)/\w.length<13)/\(b=false->rs≠[])) (λY y=>?test) (λhyes=>?yes) λq=>stay (q.2 rfl)
  case test =>
   dsimp! only[qa4,wayD]
   refine⟨hwe,?_⟩
   rw[qcn,lk]
   by_cases hm:w∈rs.map (·.1)
   ·rw[decide_eq_true hm]
    exact iteF (y _ ⟨λz=>(by cases z),λ_ e=>by rw[e] at hm;cases hm⟩)
   ·rw[decide_eq_false hm]
    exact iteT (y _ ⟨λz=>⟨hm,by have:=of_decide_eq_true z;omega⟩,λz=>fpos (by have:=of_decide_eq_false z;omega)⟩)
  case yes =>
    obtain⟨hm,h13⟩:=hyes.1 rfl
    have w12:=wz12 (by omega)
    have big:(rs.map prR).length<sizeLine:=Nat.lt_of_lt_of_le (show _<1000 by rw[List.length_map];omega) qao
    refine v_cut (λτ=>∃m:Str,(m=qai\/m=qdk\/m=qfu)/\τ=[some (.val (.lst (cs.map D.int))),some (.val (.int st)),some (.val (.int wide)),some (.own (qa4 (rs.map prR))),some (.own (.lst (fs.map wayD))),some (.val (.int c)),some (.val (wayD f)),some (.val (.str z)),some (.val (wayD w)),some (.val (.str m))]) ?_ λnx2 hnx2=>?now
    case now =>
     rfl'
     refine⟨by decide,?_⟩
     refine mx _ _ _ (by decide) (by decide) λk k0 k1=>?_
     rfl'
     have e:[D.str (Str.ofString "folder"),D.str (Str.ofString "link"),D.str (Str.ofString "file"),D.str (Str.ofString "folder"),D.str (Str.ofString "link")]=[qai,qdk,qfu,qai,qdk].map D.str:=rfl
     obtain⟨y,hy,hy2⟩:=qef (xs:=[qai,qdk,qfu,qai,qdk]) (k:=k) k0 k1
     have my:y=qai\/y=qdk\/y=qfu:=by
      have:=List.mem_of_getElem? hy2
      simp only[List.mem_cons,List.not_mem_nil,or_false] at this
      rcases this with q|q|q|q|q<;>simp[q]
     exact⟨.str y,by rw[e,qdo,hy];rfl,hnx2 _ ⟨y,my,rfl⟩⟩
    rintro τ ⟨m,hm1,rfl⟩
    refine v_cut (λτ=>τ=[some (.val (.lst (cs.map D.int))),some (.val (.int st)),some (.val (.int wide)),some (.own (qa4 ((rs++[(w,m,qa1)]).map prR))),some (.own (.lst (fs.map wayD))),some (.val (.int c)),some (.val (wayD f)),some (.val (.str z)),some (.val (wayD w)),some (.val (.str m))]) ?_ λnx2 hnx2=>?now
    case now =>
     dsimp! only[qa4,wayD]
     refine⟨by decide,hwe,?_,?_⟩
     ·simpa using big
     ·rw[qd4,show D.tup [D.str m,D.str (Str.ofString "")]=.tup [.str m,.str qa1] from rfl,qt5 hm]
      exact hnx2 _ rfl
    rintro τ rfl
    refine v_cut (λτ=>∃t:Str,(m=qai->t=qa1)/\(m=qdk->t.length<=3000/\∃b vs,qb1 t=some (b,vs))/\τ=[some (.val (.lst (cs.map D.int))),some (.val (.int st)),some (.val (.int wide)),some (.own (qa4 ((rs++[(w,m,t)]).map prR))),some (.own (.lst (fs.map wayD))),some (.val (.int c)),some (.val (wayD f)),some (.val (.str z)),some (.val (wayD w)),some (.val (.str m))]) ?_ λnx2 hnx2=>?now
    case now =>
     refine v_if (λb=>b=decide (m=qdk)) (λY y=>?t1) (λhb=>?y1) λhb=>?n1
     case t1 =>
      rfl'
      exact y _ rfl
     case y1 =>
      have el:=of_decide_eq_true hb.symm
      have lb:∀Y:R->Prop,(∀t:Str,t.length<=3000->(∃b vs,qb1 t=some (b,vs))->Y (.val (.str t)))->qdz [.lst (((rs++[(w,m,qa1)]).map (·.1)).map wayD),wayD f,.int c,.str z] Y:=λY y=>⟨_,f,c,z,rfl,λv mv=>by
        rw[List.map_append] at mv
        rcases List.mem_append.mp mv with q|q
        ·obtain⟨r,mr,rfl⟩:=List.mem_map.mp q
         exact⟨I.hall.ne r mr,I.hall.wy r mr⟩
        ·rw[List.mem_singleton.mp q]
         exact⟨w00,w12⟩,hfw,hz,y⟩
      have ek:(((rs++[(w,m,qa1)]).map prR).map (·.1)).map (λw=>D.tup (w.map D.str))=((rs++[(w,m,qa1)]).map (·.1)).map wayD:=by
       rw[qi1]
       rfl
      dsimp! only[qa4]
      rw[ek]
      refine lb _ λt ht hw=>?_
      dsimp! only[wayD]
      refine⟨by decide,hwe,?_,?_⟩
      ·rw[List.length_append,List.length_singleton]
       exact Nat.lt_of_lt_of_le (show _<1000 by omega) qao
      ·rw[qd4,qpv hm]
       exact hnx2 _ ⟨t,λe=>absurd (el.symm.trans e) (by decide +kernel),λ_=>⟨ht,hw⟩,rfl⟩
     case n1 =>
      exact hnx2 _ ⟨qa1,λ_=>rfl,λe=>absurd e (of_decide_eq_false hb.symm),rfl⟩
    rintro τ ⟨t,hfo,hli,rfl⟩
    refine v_cut (λτ=>∃t:Str,mkH (w,m,t)/\τ=[some (.val (.lst (cs.map D.int))),some (.val (.int st)),some (.val (.int wide)),some (.own (qa4 ((rs++[(w,m,t)]).map prR))),some (.own (.lst (fs.map wayD))),some (.val (.int c)),some (.val (wayD f)),some (.val (.str z)),some (.val (wayD w)),some (.val (.str m))]) ?_ λnx2 hnx2=>?now
    case now =>
     refine v_if (λb=>b=decide (m=qfu)) (λY y=>?t1) (λhb=>?y1) λhb=>?n1
     case t1 =>
      rfl'
      exact y _ rfl
     case y1 =>
      have el:=of_decide_eq_true hb.symm
      have q0:=Int.emod_nonneg c (show (10 ^ Int.toNat 30:Int)≠0 by decide)
      have q1:=Int.emod_lt_of_pos c (show (0:Int)<10 ^ Int.toNat 30 by decide)
      have q2:(Str.ofString (toString (c%10 ^ Int.toNat 30))).length<=30:=toString_length_le q0 (by decide) q1
      have q3:(Str.ofString " ").length=1:=by decide +kernel
      have q4:=(qjq hz).2
      dsimp! only[qa4,wayD]
      refine⟨Nat.le_trans (show _<=1000 by omega) qao,⟨by decide,by decide,by decide⟩,by decide,?_,Nat.le_trans (show _<=1000 by rw[PySem.Str.length_append];omega) qao,by decide,hwe,?_,?_⟩
      ·have:(c%10 ^ Int.toNat 30).natAbs<2 ^ 200:=by
        have e:(10 ^ Int.toNat 30:Int)<2 ^ 200:=by decide
        omega
       by_cases z:(c%10 ^ Int.toNat 30).natAbs=0
       ·rw[z]
        decide
       ·exact Nat.lt_of_lt_of_le ((Nat.log2_lt z).mpr this) (by decide)
      ·rw[List.length_append,List.length_singleton]
       exact Nat.lt_of_lt_of_le (show _<1000 by omega) qao
      ·rw[qd4,qpv hm]
       exact hnx2 _ ⟨_,.inr (.inl el),rfl⟩
     case n1 =>
      refine hnx2 _ ⟨t,?_,rfl⟩
      rcases hm1 with q|q|q
      ·exact .inl (by rw[hfo q,q])
      ·exact .inr (.inr ⟨q,hli q⟩)
      ·exact absurd q (of_decide_eq_false hb.symm)
    rintro τ ⟨t,hmk,rfl⟩
    obtain⟨A,A2⟩:=put m t (by omega) hm hmk
    refine v_if (λb=>b=decide (m=qai)) (λY y=>?t1) (λhb=>?y1) λhb=>?n1
    case t1 =>
     rfl'
     exact y _ rfl
    case y1 =>
     have q:=of_decide_eq_true hb.symm
     have et:(m,t)=(qai,qa1):=by
      rcases hmk with u|u|u
      ·exact u
      ·exact absurd (q.symm.trans u) (by decide +kernel)
      ·exact absurd (q.symm.trans u.1) (by decide +kernel)
     rfl'
     refine⟨Nat.lt_of_lt_of_le (show _<1000 by omega) qao,hnx _ ⟨rs++[(w,m,t)],fs++[w],some (.val (.int c)),some (.val (wayD f)),some (.val (.str z)),some (.val (wayD w)),some (.val (.str m)),A2 et,?_⟩⟩
     rw[List.map_append (f:=wayD)]
     rfl
    case n1=>exact hnx _ ⟨rs++[(w,m,t)],fs,_,_,_,_,_,A,rfl⟩
 ·rintro τ ⟨rs,fs,k5,k6,k7,k8,k9,I,rfl⟩
  rfl'
  exact h rs I.hall I.len λq=>I.pos (List.length_pos_iff.mpr q)
def qhm:TVS:=(vRet (qfp (qc9 (vF1 qet (vF1 qgz (vVar 0)))) (qbf 1) (λ_ Q=>Q true) (vTup (qaa (vVar 1) (qaa (vOp vIxR (qja (vVar 0) (vVar 1)) (vC (.int 0))) (qaa (vOp vIxR (qja (vVar 0) (vVar 1)) (vC (.int 1))) vNil)))) 1))
abbrev qsy:List Str:=["_law_things"]
theorem qwr:∀ds Q,qd1 ds Q->qhm (En Q) (qax qsy ds):=by
 rintro ds Q ⟨rs,rfl,H,hlen,h⟩
 simp! only[qhm,qa4]
 have ek:(((rs.map prR).map (·.1)).map λw=>D.tup (w.map D.str))=(rs.map (·.1)).map wayD:=by
  rw[List.map_map,List.map_map,List.map_map]
  rfl
 refine⟨?_,?_,λds hp hs=>?_⟩
 ·rw[ek]
  exact qr4 H.nd
 ·omega
 ·rw[ek] at hp
  obtain⟨vs,rfl,hv,hso⟩:=qww hp hs
  have hvl:vs.length=rs.length:=by rw[hv.length_eq,List.length_map]
  refine qfr (λw=>rowD (w,lkR rs w)) vs (Nat.le_trans (show _<=1000 by omega) qao) (λw mw Y N hY=>?_) ?_
  ·have mw':=hv.mem_iff.mp mw
   simp! only[wayD]
   have wk:("" : Str)∉w:=by
    obtain⟨r,mr,er⟩:=List.mem_map.mp mw'
    rw[←er]
    exact(H.wy r mr).ne
   refine⟨wk,thD (lkR rs w),by rw[qcn];exact qug H.nd mw',?_⟩
   simp! only[thD]
   refine⟨wk,thD (lkR rs w),by rw[qcn];exact qug H.nd mw',?_⟩
   simp! only[thD]
   exact⟨by decide,hY⟩
  ·ac_rfl
   have e:vs.map (λw=>rowD (w,lkR rs w))=(vs.map λw=>(w,lkR rs w)).map rowD:=by rw[List.map_map];rfl
   rw[e]
   obtain⟨p1,p2⟩:=qmh H.nd hv hso
   exact h _ p1 p2
def qem:TVS:=(vRet (qmk (vOp vGt (vF1 vLen (vVar 0)) (vF1 vLen (vVar 1))) (vOp vEq (qei (vVar 0) qc7 (qhb (vF1 vLen (vVar 1)))) (vVar 1))))
abbrev qle:List Str:=["way","other"]
theorem qm3:∀ds Q,qaz ds Q->qem (En Q) (qax qle ds):=by
 rintro ds Q ⟨w,o,rfl,h⟩
 simp! only[qem,wayD]
 rw[qhr]
 unfold qa8 preB at h
 by_cases hl:o.length<w.length
 ·rw[decide_eq_true (by omega:(o.length:Int)<w.length)]
  rw[decide_eq_true hl,Bool.true_and] at h
  refine iteT ⟨cmpW _ _,depW _,?_⟩
  rw[eqW]
  exact h
 ·rw[decide_eq_false (by omega:¬ (o.length:Int)<w.length)]
  rw[decide_eq_false hl,Bool.false_and] at h
  exact iteF h
def qhl:TVS:=(vSeq (vIfS (vOrT (vBl (vOp vEq (vVar 0) (vVar 1))) (vBl (qak qaz (qaa (vVar 0) (qaa (vVar 1) vNil)))))
  (vRet (vOp vAdd (vVar 2) (qei (vVar 0) (qhb (vF1 vLen (vVar 1))) qc7)))
  qa9)
 (vRet (vVar 0)))
abbrev qsx:List Str:=["way","old","new"]
theorem qwq:∀ds Q,qcj ds Q->qhl (En Q) (qax qsx ds):=by
 rintro ds Q ⟨w,old,new,rfl,hl,h⟩
 have lu:∀Y:R->Prop,Y (.val (.bl (qa8 w old)))->qaz [wayD w,wayD old] Y:=λY y=>⟨w,old,rfl,y⟩
 unfold qbl at h
 have go:(w=old\/qa8 w old=true)->new.length+(w.drop old.length).length<=sizeLine/\Q (.val (wayD (new++w.drop old.length))):=λc=>by
  rw[if_pos c] at h
  refine⟨Nat.le_trans ?_ qao,h⟩
  rw[List.length_drop]
  lia
 simp! only[qhl,wayD]
 refine⟨cmpW _ _,depW _,?_⟩
 rw[eqW]
 by_cases e:w=old
 ·rw[decide_eq_true e]
  refine iteT ?_
  rw[qfs]
  exact go (.inl e)
 ·rw[decide_eq_false e]
  refine iteF (lu _ ?_)
  ac_rfl
  cases hu:qa8 w old with
 |true =>
   refine iteT ?_
   rw[qfs]
   exact go (.inr hu)
 |false =>
   refine iteF ?_
   rw[if_neg (by rintro (q|q);exact e q;rw[hu] at q;cases q)] at h
   exact h
def qs5:TVS:=(vRet (qfp (qc9 (vVar 0)) (qk6 3 (qcp (qbf 2) (qcp (qbf 3) (qcp (qbf 4) qk5)))) (vBl (qak qaz (qaa (vVar 2) (qaa (vVar 1) vNil)))) (vTup (qaa (qak qcj (qaa (vVar 2) (qaa (vVar 1) (qaa (vTup vNil) vNil)))) (qaa (vVar 3) (qaa (vVar 4) vNil)))) 3))
abbrev q4j:List Str:=["tree","way"]
theorem q7z:∀ds Q,qjk ds Q->qs5 (En Q) (qax q4j ds):=by
 rintro ds Q ⟨rs,w,rfl,hl,hn,h⟩
 simp! only[qs5,qaj]
 refine qd7 (λr=>rowD (qbl r.1 w [],r.2)) (λr=>qa8 r.1 w) rs (Nat.le_trans (show _<=1000 by lia) qao) (λr hr Y N y1 y2=>?_) ?_
 ·simp! only[rowD,qaz,qcj]
  refine⟨r.1,rfl,w,rfl,?_⟩
  cases hu:qa8 r.1 w with
 |true =>
   have:=hn r hr
   exact iteT ⟨r.1,rfl,w,rfl,[],rfl,by show 0+r.1.length<=1000;lia,by decide,y1 hu⟩
 |false=>exact iteF (y2 hu)
 ·ac_rfl
  unfold qas at h
  have e:qaj ((rs.filter λr=>qa8 r.1 w).map λr=>(qbl r.1 w [],r.2))=.lst ((rs.filter λr=>qa8 r.1 w).map λr=>rowD (qbl r.1 w [],r.2)):=by
   unfold qaj
   rw[List.map_map]
   rfl
  rw[e] at h
  exact h
def qhn:TVS:=(vRet (qfp (qc9 (vVar 0)) (qbf 2) (qgm (vBl (vOp vNeD (vOp vIxR (vVar 2) (vC (.int 0))) (vVar 1))) (qes (vBl (qak qaz (qaa (vOp vIxR (vVar 2) (vC (.int 0))) (qaa (vVar 1) vNil)))))) (vVar 2) 1))
abbrev qsz:List Str:=["tree","way"]
theorem qws:∀ds Q,qck ds Q->qhn (En Q) (qax qsz ds):=by
 rintro ds Q ⟨rs,w,rfl,hl,h⟩
 simp! only[qhn,qaj]
 refine qd7 (λr=>rowD r) (λr=>!preB r.1 w) rs (Nat.le_trans (show _<=1000 by lia) qao) (λr hr Y N y1 y2=>?_) ?_
 ·have lu:∀Y:R->Prop,Y (.val (.bl (qa8 r.1 w)))->qaz [wayD r.1,wayD w] Y:=λY y=>⟨r.1,w,rfl,y⟩
  simp! only[rowD,wayD]
  refine⟨cmpW _ _,depW _,?_⟩
  rw[eqW]
  rw[qjs] at y1 y2
  by_cases e:r.1=w
  ·rw[decide_eq_true e] at y2 ⊢
   exact iteF (y2 rfl)
  ·rw[decide_eq_false e] at y1 y2 ⊢
   refine iteT (lu _ ?_)
   ac_rfl
   cases hu:qa8 r.1 w with
  |true=>exact iteF (y2 (by rw[hu];rfl))
  |false=>exact iteT (y1 (by rw[hu];rfl))
 ·ac_rfl
  exact h
def qf5:TVS:=(vRet (vF1 qet (vVar 0)))
abbrev qqu:List Str:=["entries"]
theorem qsh:∀ds Q,qdd ds Q->qf5 (En Q) (qax qqu ds):=by
 rintro ds Q ⟨rs,rfl,nd,hl,h⟩
 simp! only[qf5,qaj]
 refine⟨qjv nd,by first|exact hl|(rw[List.length_map];exact hl),λds hp hs=>?_⟩
 obtain⟨ts,rfl,p1,p2⟩:=qmg nd hp hs
 exact h ts p1 p2
def qhk:TVS:=(vRet (vOp vAdd (vLst (qaa (vTup (qaa (vVar 0) (qaa (vOp vIxR (vVar 1) (vC (.int 0))) (qaa (vOp vIxR (vVar 1) (vC (.int 1))) vNil)))) vNil)) (qfp (qc9 (vVar 2)) (qk6 3 (qcp (qbf 3) (qcp (qbf 4) (qcp (qbf 5) qk5)))) (λ_ Q=>Q true) (vTup (qaa (qak qcj (qaa (vVar 3) (qaa (vTup vNil) (qaa (vVar 0) vNil)))) (qaa (vVar 4) (qaa (vVar 5) vNil)))) 3)))
abbrev qsw:List Str:=["way","thing","below"]
theorem qwp:∀ds Q,qd0 ds Q->qhk (En Q) (qax qsw ds):=by
 rintro ds Q ⟨w,b,rs,rfl,hl,hw,hn,h⟩
 simp! only[qhk,qaj,thD]
 refine⟨by decide,by decide,?_⟩
 refine qfr (λr=>rowD (w++r.1,r.2)) rs (Nat.le_trans (show _<=1000 by omega) qao) (λr hr Y N hY=>?_) ?_
 ·simp! only[rowD,qcj]
  have:=hn r hr
  refine⟨r.1,rfl,[],rfl,w,rfl,by omega,by decide,?_⟩
  rw[qvo]
  exact hY
 ·ac_rfl
  refine⟨Nat.le_trans (show _<=1000 by omega) qao,?_⟩
  have e:qaj (qc8 w b rs)=.lst ([D.tup [wayD w,.str b.1,.str b.2]]++rs.map λr=>rowD (w++r.1,r.2)):=by
   unfold qaj qc8
   rw[List.map_cons,List.map_map]
   rfl
  rw[e] at h
  exact h
def qhg:TVS:=(vRet (qak qdd (qaa (vOp vAdd (qak qck (qaa (vVar 0) (qaa (vVar 1) vNil))) (qak qd0 (qaa (vVar 1) (qaa (vVar 2) (qaa (vVar 3) vNil))))) vNil)))
abbrev qsq:List Str:=["tree","way","thing","below"]
theorem qwj:∀ds Q,qdx ds Q->qhg (En Q) (qax qsq ds):=by
 rintro ds Q ⟨rs,w,b,below,rfl,n1,n2,n3,l1,l2,l3,l4,h⟩
 have wo:∀Y:R->Prop,Y (.own (qaj (qat rs w)))->qck [qaj rs,wayD w] Y:=λY y=>⟨rs,w,rfl,l1,y⟩
 have pl:∀Y:R->Prop,Y (.own (qaj (qc8 w b below)))->qd0 [wayD w,thD b,qaj below] Y:=λY y=>⟨w,b,below,rfl,l2,l3,λr hr=>Nat.le_trans (n3 r hr).2 (by omega),y⟩
 have io:∀Y:R->Prop,(∀ts:List Row,ts.Perm (qbh rs w b below)->qb7 ts->Y (.own (qaj ts)))->qdd [qaj (qbh rs w b below)] Y:=λY y=>⟨_,rfl,qpu n1 n2 λr hr=>(n3 r hr).1,l4,y⟩
 simp! only[qhg]
 refine wo _ ?_
 ac_rfl
 refine pl _ ?_
 simp! only[qaj]
 have el:(qat rs w).length+(qc8 w b below).length=(qbh rs w b below).length:=by unfold qbh;rw[List.length_append]
 refine⟨by rw[el];exact Nat.le_trans (show _<=1000 by omega) qao,?_⟩
 have e:(qat rs w).map rowD++(qc8 w b below).map rowD=(qbh rs w b below).map rowD:=by unfold qbh;rw[List.map_append]
 rw[e]
 refine io _ λts p1 p2=>?_
 ac_rfl
 exact h ts p1 p2
theorem q8d{p:Prop}[Decidable p]{A B:Prop}(h:p)(a:A):if decide p=true then A else B:=by rw[if_pos (decide_eq_true h)];exact a
theorem q8c{p:Prop}[Decidable p]{A B:Prop}(h:¬ p)(b:B):if decide p=true then A else B:=by rw[if_neg (by rw[decide_eq_false h];decide)];exact b
def qfd:TVS:=(vSeq (vSet 2 (qv1 0 (qfp (qc9 (vVar 1)) (qk6 3 (qcp (qbf 3) (qcp (qbf 4) (qcp (qbf 5) qk5)))) (λ_ Q=>Q true) (vF1 vLen (vVar 3)) 3)))
 (vIfS (vBl (vOp vGt (vOp vAdd (vF1 vLen (vVar 0)) (vVar 2)) (vC (.int 12))))
  (qda "TooDeep" (qaa (vC (.str ("a way would have too many names" : Str))) vNil))
  qa9))
abbrev qi5:List Str:=["way","below","deepest"]
theorem qjg:∀ds Q,qbx ds Q->qfd (EnX Q) (qax qi5 ds):=by
 rintro ds Q ⟨w,rs,rfl,hl,h1,h2⟩
 refine v_cut (λτ=>τ=[some (.val (wayD w)),some (.val (qaj rs)),some (.val (.int (qc1 rs)))]) ?_ λnx hnx=>?now
 case now =>
  dsimp! only[qaj]
  refine qfr (λr=>.int r.1.length) rs (Nat.le_trans (show _<=1000 by omega) qao) (λr hr Y N hY=>?_) ?_
  ·dsimp! only[rowD,wayD]
   exact hY
  ·rfl'
   refine⟨rs.map λr=>(r.1.length:Int),by rw[List.map_map];rfl,λe=>?_,λm hm hx=>?_⟩
   ·have:rs=[]:=List.map_eq_nil_iff.mp e
    subst this
    exact hnx _ rfl
   ·have e:m=qc1 rs:=by
     obtain⟨r,mr,er⟩:=List.mem_map.mp hm
     have g1:=qni mr
     obtain⟨q,mq,eq⟩:=qnh (rs:=rs) (by rintro rfl;cases mr)
     have g2:=hx (q.1.length:Int) (List.mem_map.mpr ⟨q,mq,rfl⟩)
     omega
    subst e
    exact hnx _ rfl
 rintro τ rfl
 refine v_if (λc=>c=decide (12<w.length+qc1 rs)) (λY y=>?t1) (λhb=>?y1) λhb=>?n1
 case t1 =>
  dsimp! only[wayD]
  refine y _ ?_
  by_cases e:12<w.length+qc1 rs
  ·rw[decide_eq_true e,decide_eq_true (by omega)]
  ·rw[decide_eq_false e,decide_eq_false (by omega)]
 case y1 =>
  rfl'
  exact⟨by decide,h1 (of_decide_eq_true hb.symm)⟩
 case n1 =>
  rfl'
  exact h2 (by have:=of_decide_eq_false hb.symm;omega)
def qdr:TVS:=(vIfS (vBl (vOp vGt (vOp vAdd (vOp vAdd (vF1 vLen (vVar 0)) (vC (.int 1))) (vF1 vLen (vVar 1))) (vC (.int 60))))
  (qda "Crowded" (qaa (vC (.str ("the tree would have too many entries" : Str))) vNil))
  qa9)
abbrev qi4:List Str:=["tree","below"]
theorem qjf:∀ds Q,qbw ds Q->qdr (EnX Q) (qax qi4 ds):=by
 rintro ds Q ⟨ts,rs,rfl,h1,h2⟩
 dsimp! only[qdr,qaj]
 by_cases e:60<ts.length+1+rs.length
 ·exact q8d (by omega) ⟨by decide,h1 e⟩
 ·exact q8c (by omega) (h2 (by omega))
def qf9:TVS:=(vRet (qjy (qak qbo (qaa (vVar 0) vNil)) (vVar 1)))
abbrev qqy:List Str:=["tree","way"]
theorem qsl:∀ds Q,qbi ds Q->qf9 (En Q) (qax qqy ds):=by
 rintro ds Q ⟨ts,w,rfl,F,hw,h⟩
 have th:∀Y:R->Prop,Y (.own (qa4 (prsR ts)))->qbo [qaj ts] Y:=λY y=>⟨ts,rfl,F,y⟩
 dsimp! only[qf9]
 refine th _ ?_
 dsimp! only[qa4,wayD]
 refine⟨hw,?_⟩
 rw[qcn,qod]
 exact h
def qds:TVS:=(vIfS (vBl (vOp (vIsN (!·)) (qak qbi (qaa (vVar 0) (qaa (vVar 1) vNil))) (vC .non)))
  (qda "IsThere" (qaa (vC (.str ("something lies there" : Str))) vNil))
  qa9)
abbrev qi6:List Str:=["tree","way"]
theorem qjh:∀ds Q,qby ds Q->qds (EnX Q) (qax qi6 ds):=by
 rintro ds Q ⟨ts,w,rfl,F,hw,h1,h2⟩
 have th:∀Y:R->Prop,Y (.val (qrc ts w))->qbi [qaj ts,wayD w] Y:=λY y=>⟨ts,w,rfl,F,hw,y⟩
 dsimp! only[qds]
 refine th _ ?_
 unfold qrc
 cases e:look ts w with
|none =>
  dsimp! only[Option.map_none,Option.getD_none]
  exact h1 e
|some mt =>
  dsimp! only[Option.map_some,Option.getD_some,thD]
  exact⟨by decide,h2 mt e⟩
def qd6:TVS:=(vSeq (vSet 2 (qdw qb4 (qaa (vVar 0) (qaa (vTup vNil) (qaa (vVar 1) vNil)))))
 (vSeq (vIfS (vBl (vOp (vIsN id) (qak qbi (qaa (vVar 0) (qaa (vVar 2) vNil))) (vC .non)))
  (qda "Missing" (qaa (vC (.str ("nothing lies there" : Str))) vNil))
  qa9)
 (vRet (vVar 2))))
abbrev qj4:List Str:=["tree","where","way"]
theorem qla:∀ds Q,qb6 ds Q->qd6 (EnX Q) (qax qj4 ds):=by
 rintro ds Q ⟨ts,t,rfl,F,ht,h⟩
 have pl:∀Y:R->Prop,(∀res,PlaceTo ts [] t 0 res->Y (wayR res))->qb4 [qaj ts,.tup [],.str t] Y:=λY y=>⟨ts,[],t,rfl,F,⟨by decide,by simp⟩,ht,⟨_,rfl⟩,y⟩
 refine qca ?_
 dsimp! only[qd6]
 refine pl _ λres k=>?_
 have hq:=h res k
 cases res with
|exc n =>
  dsimp! only[wayR]
  exact hq
|ok tr v f =>
  obtain⟨u,z,x,ev,hz,hu⟩:=qfv k
  have hne:("" : Str)∉v:=by rw[ev];exact(qu5 F hz hu).1
  have th:∀Y:R->Prop,Y (.val (qrc ts v))->qbi [qaj ts,wayD v] Y:=λY y=>⟨ts,v,rfl,F,hne,y⟩
  dsimp! only[wayR]
  refine qed (λc=>c=decide (look ts v=none)) (λY y=>?t1) (λhb=>?y1) λhb=>?n1
  case t1 =>
   rfl'
   refine th _ ?_
   unfold qrc
   cases e:look ts v with
  |none =>
    dsimp! only[Option.map_none,Option.getD_none]
    exact y _ (by rw[e];rfl)
  |some mt =>
    dsimp! only[Option.map_some,Option.getD_some,thD]
    exact y _ (by rw[e];rfl)
  case y1 =>
   rfl'
   exact⟨by decide,hq.1 (of_decide_eq_true hb.symm)⟩
  case n1 =>
   cases e:look ts v with
  |none=>rw[e] at hb;cases hb
  |some mt =>
    rfl'
    exact hq.2 mt e
def qlf:TVS:=(vSeq (vSet 2 (qdw qb6 (qaa (vVar 0) (qaa (vOp vIxR (vVar 1) (vC (.int 1))) vNil))))
 (vSeq (vSet 3 (qdw qb4 (qaa (vVar 0) (qaa (vTup vNil) (qaa (vOp vIxR (vVar 1) (vC (.int 2))) vNil)))))
 (vSeq (vIfS (vOrT (vBl (vOp vEq (vVar 3) (vVar 2))) (vBl (qak qaz (qaa (vVar 3) (qaa (vVar 2) vNil)))))
  (qda "InItself" (qaa (vC (.str ("the second place lies in the first one" : Str))) vNil))
  qa9)
 (vSeq (qmp (qdw qby (qaa (vVar 0) (qaa (vVar 3) vNil))))
 (vSeq (vSet 4 (qak qjk (qaa (vVar 0) (qaa (vVar 2) vNil))))
 (vSeq (qmp (qdw qbx (qaa (vVar 3) (qaa (vVar 4) vNil))))
 (vRet (vTup (qaa (vVar 2) (qaa (vTup (qaa (vVar 3) (qaa (qak qbi (qaa (vVar 0) (qaa (vVar 2) vNil))) (qaa (vVar 4) vNil)))) vNil))))))))))
abbrev qsn:List Str:=["tree","deed","first","second","below"]
theorem qwg:∀ds Q,qci ds Q->qlf (EnX Q) (qax qsn ds):=by
 rintro ds Q ⟨ts,key,t,u,v,g,b,rfl,T,h1,h2⟩
 have F:=T.ft
 have tp:∀Y:R->Prop,Y (.val (wayD v))->qb6 [qaj ts,.str t] Y:=λY y=>⟨ts,t,rfl,F,T.tl,λres k=>by
  obtain⟨tr,f,rfl⟩:=T.p1 res k
  exact⟨λe=>(by rw[T.lv] at e;cases e),λ_ _=>y⟩⟩
 have pl:∀Y:R->Prop,Y (.val (wayD g))->qb4 [qaj ts,.tup [],.str u] Y:=λY y=>⟨ts,[],u,rfl,F,⟨by decide,by simp⟩,T.ul,⟨_,rfl⟩,λres k=>by
  obtain⟨tr,f,rfl⟩:=T.p2 res k
  exact y⟩
 have lu:∀Y:R->Prop,Y (.val (.bl (qa8 g v)))->qaz [wayD g,wayD v] Y:=λY y=>⟨g,v,rfl,y⟩
 have ft:∀Y:R->Prop,(look ts g=none->Y (.val .non))->(∀mt,look ts g=some mt->Y (.exc "IsThere"))->qby [qaj ts,wayD g] Y:=λY y1 y2=>⟨ts,g,rfl,F,T.ne.2,y1,y2⟩
 have pa:∀Y:R->Prop,Y (.own (qaj (qas ts v)))->qjk [qaj ts,wayD v] Y:=λY y=>⟨ts,v,rfl,by have:=T.len;omega,λr hr=>by have:=T.wl r hr;omega,y⟩
 have ll:(qas ts v).length<=ts.length:=by unfold qas;rw[List.length_map];exact List.length_filter_le _ _
 have rd:∀Y:R->Prop,(12<g.length+qc1 (qas ts v)->Y (.exc "TooDeep"))->(g.length+qc1 (qas ts v)<=12->Y (.val .non))->qbx [wayD g,qaj (qas ts v)] Y:=λY y1 y2=>⟨g,_,rfl,by have:=T.len;omega,y1,y2⟩
 have th:∀Y:R->Prop,Y (.val (thD b))->qbi [qaj ts,wayD v] Y:=λY y=>⟨ts,v,rfl,F,T.ne.1,by unfold qrc;rw[T.lv];exact y⟩
 refine v_cut (λτ=>τ=[some (.val (qaj ts)),some (.val (qbk key t u)),some (.val (wayD v)),none,none]) ?_ λnx hnx=>?now
 case now =>
  dsimp! only[qbk]
  refine tp _ ?_
  rfl'
  exact hnx _ rfl
 rintro τ rfl
 refine v_cut (λτ=>τ=[some (.val (qaj ts)),some (.val (qbk key t u)),some (.val (wayD v)),some (.val (wayD g)),none]) ?_ λnx hnx=>?now
 case now =>
  dsimp! only[qbk]
  refine pl _ ?_
  rfl'
  exact hnx _ rfl
 rintro τ rfl
 refine qed (λc=>c=decide (g=v\/qa8 g v=true)) (λY y=>?t1) (λhb=>?y1) λhb=>?n1
 case t1 =>
  dsimp! only[wayD]
  refine⟨cmpW _ _,depW _,?_⟩
  simp only[eqW]
  by_cases e:g=v
  ·rw[if_pos (decide_eq_true e)]
   exact y _ (decide_eq_true (.inl e)).symm
  ·rw[if_neg (by rw[decide_eq_false e];decide)]
   refine lu _ ?_
   rfl'
   refine y _ ?_
   cases hu:qa8 g v with
  |true=>exact(decide_eq_true (.inr rfl)).symm
  |false=>exact(decide_eq_false (by rintro (q|q);exact e q;cases q)).symm
 case y1 =>
  rfl'
  exact⟨by decide,h1 (of_decide_eq_true hb.symm)⟩
 case n1 =>
 obtain⟨h3,h4⟩:=h2 (of_decide_eq_false hb.symm)
 refine v_cut (λτ=>look ts g=none/\τ=[some (.val (qaj ts)),some (.val (qbk key t u)),some (.val (wayD v)),some (.val (wayD g)),none]) ?_ λnx hnx=>?now
 case now =>
  rfl'
  refine ft _ (λe=>?_) λmt e=>?_
  ·rfl'
   exact hnx _ ⟨e,rfl⟩
  ·rfl'
   exact h3 mt e
 rintro τ ⟨e,rfl⟩
 obtain⟨h5,h6⟩:=h4 e
 refine v_cut (λτ=>τ=[some (.val (qaj ts)),some (.val (qbk key t u)),some (.val (wayD v)),some (.val (wayD g)),some (.val (qaj (qas ts v)))]) ?_ λnx hnx=>?now
 case now =>
  rfl'
  refine pa _ ?_
  rfl'
  exact hnx _ rfl
 rintro τ rfl
 refine v_cut (λτ=>g.length+qc1 (qas ts v)<=12/\τ=[some (.val (qaj ts)),some (.val (qbk key t u)),some (.val (wayD v)),some (.val (wayD g)),some (.val (qaj (qas ts v)))]) ?_ λnx hnx=>?now
 case now =>
  rfl'
  refine rd _ (λe=>?_) λe=>?_
  ·rfl'
   exact h5 e
  ·rfl'
   exact hnx _ ⟨e,rfl⟩
 rintro τ ⟨e2,rfl⟩
 rfl'
 refine th _ ?_
 rfl'
 exact⟨by decide,by decide,h6 e2⟩
def qdq:TVS:=(vSeq (vSet 2 (qdw qci (qaa (vVar 0) (qaa (vVar 1) vNil))))
 (vRet (vLst (qaa (vTup (qaa (vOp vIxR (vVar 2) (vC (.int 0))) (qaa (vC .non) (qaa (vLst vNil) vNil)))) (qaa (vOp vIxR (vVar 2) (vC (.int 1))) vNil)))))
abbrev qi3:List Str:=["tree","deed","found"]
theorem qje:∀ds Q,qbv ds Q->qdq (EnX Q) (qax qi3 ds):=by
 rintro ds Q ⟨ts,key,t,u,v,g,b,rfl,T,h⟩
 have cr:∀Y:R->Prop,CarQ ts v g Y (Y (.val (.tup [wayD v,chgD (g,some (b,qas ts v))])))->qci [qaj ts,qbk key t u] Y:=λY y=>⟨ts,key,t,u,v,g,b,rfl,T,y⟩
 refine qca ?_
 dsimp! only[qdq]
 refine cr _ ⟨λe=>?_,λe=>⟨λmt k=>?_,λk=>⟨λq=>?_,λq=>?_⟩⟩⟩
 ·rfl'
  exact h.1 e
 ·rfl'
  exact(h.2 e).1 mt k
 ·rfl'
  exact((h.2 e).2 k).1 q
 ·have hq:=((h.2 e).2 k).2 q
  rfl'
  exact⟨by decide,by decide,hq⟩
def qdp:TVS:=(vSeq (vSet 2 (vOp vIxR (qdw qci (qaa (vVar 0) (qaa (vVar 1) vNil))) (vC (.int 1))))
 (vSeq (qmp (qdw qbw (qaa (vVar 0) (qaa (vOp vIxR (vVar 2) (vC (.int 2))) vNil))))
 (vRet (vLst (qaa (vVar 2) vNil)))))
abbrev qi2:List Str:=["tree","deed","change"]
theorem qjd:∀ds Q,qbu ds Q->qdp (EnX Q) (qax qi2 ds):=by
 rintro ds Q ⟨ts,key,t,u,v,g,b,rfl,T,h⟩
 have cr:∀Y:R->Prop,CarQ ts v g Y (Y (.val (.tup [wayD v,chgD (g,some (b,qas ts v))])))->qci [qaj ts,qbk key t u] Y:=λY y=>⟨ts,key,t,u,v,g,b,rfl,T,y⟩
 have rc:∀Y:R->Prop,(60<ts.length+1+(qas ts v).length->Y (.exc "Crowded"))->(ts.length+1+(qas ts v).length<=60->Y (.val .non))->qbw [qaj ts,qaj (qas ts v)] Y:=λY y1 y2=>⟨ts,_,rfl,y1,y2⟩
 refine qca ?_
 dsimp! only[qdp]
 refine cr _ ⟨λe=>?_,λe=>⟨λmt k=>?_,λk=>⟨λq=>?_,λq=>?_⟩⟩⟩
 ·rfl'
  exact h.1 e
 ·rfl'
  exact(h.2 e).1 mt k
 ·rfl'
  exact((h.2 e).2 k).1 q
 ·obtain⟨q1,q2⟩:=((h.2 e).2 k).2 q
  dsimp! only[chgD]
  refine qca ?_
  rfl'
  refine rc _ (λc=>?_) λc=>?_
  ·rfl'
   exact q1 c
  ·rfl'
   exact⟨by decide,q2 c⟩
def qel:TVS:=(vRet (vTab [("move" : Str),("copy" : Str)] (λz=>if z=("move" : Str) then qbv else if z=("copy" : Str) then qbu else λ_ _=>False) (vOp vIxR (vVar 1) (vC (.int 0))) (qaa (vVar 0) (qaa (vVar 1) vNil))))
abbrev qld:List Str:=["tree","deed"]
theorem qm2:∀ds Q,qc2 ds Q->qel (EnX Q) (qax qld ds):=by
 rintro ds Q ⟨ts,key,t,u,v,g,b,rfl,T,h⟩
 dsimp! only[qel,qbk]
 rcases h with ⟨rfl,h⟩|⟨rfl,h⟩
 ·refine⟨"move",by simp,rfl,?_⟩
  rw[if_pos rfl]
  exact⟨ts,"move",t,u,v,g,b,rfl,T,h⟩
 ·refine⟨"copy",by simp,rfl,?_⟩
  rw[if_neg (by decide),if_pos rfl]
  exact⟨ts,"copy",t,u,v,g,b,rfl,T,h⟩
def qlg:TVS:=(vSeq (vFor (qc9 (vVar 1)) (qk6 3 (qcp (qbf 2) (qcp (qbf 3) (qcp (qbf 4) qk5))))
  (vSet 0 (vIfE (vBl (vOp (vIsN id) (vVar 3) (vC .non))) (qak qck (qaa (vVar 0) (qaa (vVar 2) vNil))) (qak qdx (qaa (vVar 0) (qaa (vVar 2) (qaa (vVar 3) (qaa (vVar 4) vNil))))))))
 (vRet (vVar 0)))
abbrev qsp:List Str:=["tree","changes","way","thing","below"]
theorem qwi:∀ds Q,qdf ds Q->qlg (En Q) (qax qsp ds):=by
 rintro ds Q ⟨ts,v,g,b,F,hl,hw,hg,h⟩
 have wo:∀Y:R->Prop,Y (.own (qaj (qat ts v)))->qck [qaj ts,wayD v] Y:=λY y=>⟨ts,v,rfl,by omega,y⟩
 have ll:(qas ts v).length<=ts.length:=by unfold qas;rw[List.length_map];exact List.length_filter_le _ _
 have lw:(qat ts v).length<=ts.length:=List.length_filter_le _ _
 have nb:∀r∈qas ts v,r.1≠[]/\r.1.length<=100:=λr hr=>⟨qux r hr,by
  unfold qas at hr
  obtain⟨q,mq,rfl⟩:=List.mem_map.mp hr
  have:=hw q (List.mem_filter.mp mq).1
  have e:(qbl q.1 v []).length<=q.1.length:=by
   unfold qbl
   split
   ·rw[List.nil_append,List.length_drop];omega
   ·exact Nat.le_refl _
  show (qbl q.1 v []).length<=100
  omega⟩
 have gr:∀(xs:List Row) (Y:R->Prop),(xs.map (·.1)).Nodup->xs.length<=ts.length->(qbh xs g b (qas ts v)).length<64->(∀us:List Row,us.Perm (qbh xs g b (qas ts v))->qb7 us->Y (.own (qaj us)))->qdx [qaj xs,wayD g,thD b,qaj (qas ts v)] Y:=λxs Y nd hx hlg y=>⟨xs,g,b,qas ts v,rfl,nd,quw F.nd,nb,by omega,by omega,by omega,hlg,y⟩
 rcases h with ⟨rfl,hlg,h⟩|⟨rfl,hlg,h⟩
 ·refine v_cut (λτ=>∃us a1 a2 a3 a4,MvOk ts us v g b/\τ=[some (.val (qaj us)),a1,a2,a3,a4]) ?_ λnx hnx=>?now
  case now =>
   dsimp! only[chgD,forW,thD]
   refine iteT (wo _ ?_)
   rfl'
   refine iteF (gr (qat ts v) _ (F.nd.sublist ((List.filter_sublist).map _)) lw hlg λus p1 p2=>?_)
   rfl'
   exact hnx _ ⟨us,_,_,_,_,⟨p1,p2⟩,rfl⟩
  rintro τ ⟨us,a1,a2,a3,a4,ok,rfl⟩
  rfl'
  exact h us ok
 ·refine v_cut (λτ=>∃us a1 a2 a3 a4,CpOk ts us v g b/\τ=[some (.val (qaj us)),a1,a2,a3,a4]) ?_ λnx hnx=>?now
  case now =>
   dsimp! only[chgD,forW,thD]
   refine iteF (gr ts _ F.nd (Nat.le_refl _) hlg λus p1 p2=>?_)
   rfl'
   exact hnx _ ⟨us,_,_,_,_,⟨p1,p2⟩,rfl⟩
  rintro τ ⟨us,a1,a2,a3,a4,ok,rfl⟩
  rfl'
  exact h us ok
def qs3:TVS:=(vRet (qak qdf (qaa (vVar 0) (qaa (qdw qc2 (qaa (vVar 0) (qaa (vVar 1) vNil))) vNil))))
abbrev q4h:List Str:=["tree","deed"]
theorem q7y:∀ds Q,qeg ds Q->qs3 (EnX Q) (qax q4h ds):=by
 rintro ds Q ⟨ts,key,t,u,v,g,b,rfl,hk,T,h⟩
 have tl:=T.len
 have cm:∀Y:R->Prop,(qbh (qat ts v) g b (qas ts v)).length<64->(∀us,MvOk ts us v g b->Y (.val (qaj us)))->qdf [qaj ts,.lst [chgD (v,none),chgD (g,some (b,qas ts v))]] Y:=λY l y=>⟨ts,v,g,b,T.ft,T.len,T.wl,T.gl,.inl ⟨rfl,l,y⟩⟩
 have cc:∀Y:R->Prop,(qbh ts g b (qas ts v)).length<64->(∀us,CpOk ts us v g b->Y (.val (qaj us)))->qdf [qaj ts,.lst [chgD (g,some (b,qas ts v))]] Y:=λY l y=>⟨ts,v,g,b,T.ft,T.len,T.wl,T.gl,.inr ⟨rfl,l,y⟩⟩
 have gl:∀xs:List Row,(qbh xs g b (qas ts v)).length<=xs.length+1+(qas ts v).length:=λxs=>by
  unfold qbh qc8
  rw[List.length_append,List.length_cons,List.length_map]
  have:(qat xs g).length<=xs.length:=List.length_filter_le _ _
  omega
 dsimp! only[qs3]
 rcases hk with rfl|rfl
 ·refine⟨ts,"move",t,u,v,g,b,rfl,T,.inl ⟨rfl,λe=>h.1 e,λe=>⟨λmt k=>(h.2 e).1 mt k,λk=>⟨λq=>((h.2 e).2 k).1 q,λq=>?_⟩⟩⟩⟩
  have hq:=((h.2 e).2 k).2 q
  rw[if_pos rfl] at hq
  rfl'
  refine cm _ ?_ λus ok=>?_
  ·have g1:=gl (qat ts v)
   have g2:=qw1 T.ft T.lv T.v0
   omega
  ·rfl'
   exact hq us ok
 ·refine⟨ts,"copy",t,u,v,g,b,rfl,T,.inr ⟨rfl,λe=>h.1 e,λe=>⟨λmt k=>(h.2 e).1 mt k,λk=>⟨λq=>((h.2 e).2 k).1 q,λq=>?_⟩⟩⟩⟩
  have hq:=((h.2 e).2 k).2 q
  rw[if_neg (by decide)] at hq
  refine⟨λc=>hq.1 c,λc=>?_⟩
  rfl'
  refine cc _ (by have:=gl ts;omega) λus ok=>?_
  rfl'
  exact hq.2 c us ok
def qs6:TVS:=(vSeq (vIfS (vOrT (qes (vBl (qjb .list (vVar 0)))) (vBl (vOp vNeD (vF1 vLen (vVar 0)) (vF1 vLen (vVar 1)))))
  (vRet (vC (.bl false)))
  qa9)
 (vSeq (vFor (qpd (vF1 vLen (vVar 1))) (qbf 2)
  (vSeq (vSet 3 (vOp vIxR (vVar 0) (vVar 2)))
 (vSeq (vIfS (vOrT (qes (vBl (qjb .tuple (vVar 3)))) (vOrT (vBl (vOp vNeD (vF1 vLen (vVar 3)) (vC (.int 3)))) (qes (vBl (qjb .tuple (vOp vIxR (vVar 3) (vC (.int 0))))))))
  (vRet (vC (.bl false)))
  qa9)
 (vIfS (vOrT (qes (vBl (qjb .str (vOp vIxR (vVar 3) (vC (.int 1)))))) (vOrT (qes (vBl (qjb .str (vOp vIxR (vVar 3) (vC (.int 2)))))) (vBl (vOp vNeD (vVar 3) (vOp vIxR (vVar 1) (vVar 2))))))
  (vRet (vC (.bl false)))
  qa9))))
 (vRet (vC (.bl true)))))
abbrev q4k:List Str:=["_law_found","_law_due_here","_law_k","_law_row"]
theorem q70:∀ds Q,g_same ds Q->qs6 (En Q) (qax q4k ds):=by
 rintro ds Q ⟨rs,rfl,hl,h⟩
 simp! only[qs6,qaj]
 refine⟨by omega,by omega,qnv (λi τ=>∃kv rv,τ=[some (.val (.lst (rs.map rowD))),some (.val (.lst (rs.map rowD))),kv,rv]) ⟨none,none,rfl⟩ ?_ ?_⟩
 ·rintro i τ hi ⟨kv,rv,rfl⟩ nx hnx
  ac_rfl
  obtain⟨y,hy,_⟩:=qef (xs:=rs) (k:=(i:Int)) (by omega) (by omega)
  have hy2:atI (rs.map rowD) (i:Int)=some (rowD y):=by rw[qdo,hy];rfl
  refine⟨_,hy2,?_⟩
  have e3:decide (((3:Nat):Int)=3)=true:=by decide
  have hy3:atI (rs.map rowD) (i:Int)=some (.tup [.tup (y.1.map D.str),.str y.2.1,.str y.2.2]):=hy2
  simp! only[rowD,wayD]
  rw[e3]
  ac_rfl
  refine⟨_,hy3,cmpR y y,Nat.le_trans (depR y) (by decide),?_⟩
  simp only[qdb]
  exact hnx _ ⟨_,_,rfl⟩
 ·rintro τ ⟨kv,rv,rfl⟩
  ac_rfl
  exact h
def qnb:TVS:=(vRet (qmk (vOp vGt (vF1 vLen (vVar 0)) (vF1 vLen (vVar 1))) (vOp vEq (qei (vVar 0) qc7 (qhb (vF1 vLen (vVar 1)))) (vVar 1))))
abbrev q00:List Str:=["_law_way","_law_over"]
theorem q4e:∀ds Q,qfj ds Q->qnb (En Q) (qax q00 ds):=by
 rintro ds Q ⟨w,o,rfl,h⟩
 simp! only[qnb,wayD]
 rw[qhr]
 unfold qa8 preB at h
 by_cases hl:o.length<w.length
 ·rw[decide_eq_true (by omega:(o.length:Int)<w.length)]
  rw[decide_eq_true hl,Bool.true_and] at h
  refine iteT ⟨cmpW _ _,depW _,?_⟩
  rw[eqW]
  exact h
 ·rw[decide_eq_false (by omega:¬ (o.length:Int)<w.length)]
  rw[decide_eq_false hl,Bool.false_and] at h
  exact iteF h
def qlj:TVS:=(vSeq (vIfS (vBl (vVar 1))
  (vRet (vOp vAdd (vC (.str ("/" : Str))) (qpa (vC (.str ("/" : Str))) (vVar 0))))
  qa9)
 (vRet (qpa (vC (.str ("/" : Str))) (vVar 0))))
abbrev qs0:List Str:=["_law_way","_law_rooted"]
theorem qwt:∀ds Q,qdh ds Q->qlj (En Q) (qax qs0 ds):=by
 rintro ds Q ⟨v,b,rfl,hl,hw,h⟩
 have g1:=qny hw
 have s1:=qqk hw
 have os:(Str.ofString "/").length=1:=qd2
 unfold qcg at h
 refine qed (λc=>c=b) (λY y=>?t1) (λhb=>?y1) λhb=>?n1
 case t1 =>
  rfl'
  exact y _ rfl
 case y1 =>
  rw[if_pos hb.symm] at h
  dsimp! only[wayD]
  exact⟨v,.inr rfl,by rw[os];omega,Nat.le_trans (show _<=1000 by rw[os];show 1+(glue "/" v).length<=1000;omega) qao,h⟩
 case n1 =>
  rw[if_neg (by rw[←hb];decide)] at h
  dsimp! only[wayD]
  exact⟨v,.inr rfl,by rw[os];omega,h⟩
theorem HallL.put{rs:List Row}(H:HallL rs){f:List Str}(mf:f=[]\/(f,qai,qa1)∈rs){z:Str}(hz:nmB z=true)(hl:(f++[z]).length<=20)(nw:f++[z]∉rs.map (·.1)):HallL (rs++[(f++[z],qai,qa1)]) where
 nd:=by
  rw[List.map_append,List.nodup_append]
  refine⟨H.nd,by simp,λa ha b hb e=>?_⟩
  rw[List.map_singleton,List.mem_singleton] at hb
  subst e hb
  exact nw ha
 ne:=λr mr=>by
  rcases List.mem_append.mp mr with q|q
  ·exact H.ne r q
  ·rw[List.mem_singleton.mp q]
   simp
 wy:=λr mr=>by
  rcases List.mem_append.mp mr with q|q
  ·exact H.wy r q
  ·rw[List.mem_singleton.mp q]
   refine⟨hl,λy my=>?_⟩
   rcases List.mem_append.mp my with q|q
   ·rcases mf with rfl|mf
    ·cases q
    ·exact(H.wy _ mf).2 y q
   ·rw[List.mem_singleton.mp q]
    exact hz
 cl:=λr mr=>by
  rcases List.mem_append.mp mr with q|q
  ·exact(H.cl r q).imp id (List.mem_append_left _)
  ·rw[List.mem_singleton.mp q]
   show (f++[z]).dropLast=[]\/_
   rw[List.dropLast_concat]
   exact mf.imp id (List.mem_append_left _)
 kd:=λr mr=>by
  rcases List.mem_append.mp mr with q|q
  ·exact H.kd r q
  ·rw[List.mem_singleton.mp q]
   exact .inl rfl
theorem qxf{rs:List Row}(nd:(rs.map (·.1)).Nodup){w:List Str}{m t:Str}(h:(w,m,t)∈rs):insP (rs.map prR) w (.tup [.str m,.str t])=rs.map prR:=by
 unfold insP
 rw[if_pos (by rw[qi1];exact List.mem_map.mpr ⟨_,h,rfl⟩),List.map_map]
 refine List.map_congr_left λr mr=>?_
 show (if (prR r).1=w then ((prR r).1,D.tup [.str m,.str t]) else prR r)=prR r
 by_cases e:(prR r).1=w
 ·rw[if_pos e]
  have e1:=qd9 nd mr
  have e2:=qd9 nd h
  rw[show r.1=w from e] at e1
  rw[show ((w,m,t):Row).1=w from rfl,e1] at e2
  cases e2
  rfl
 ·rw[if_neg e]
def q03:TVS:=(vSeq (vFor (qv4 (vF1 vLen (vVar 1)) (vVar 2)) (qbf 4)
  (vSeq (vSet 5 (vOp vAdd (vVar 1) (vTup (qaa (qak qbs (qaa (vVar 3) (qaa (vOp vAdd (vC (.int 11)) (vOp vMod (vVar 4) (vC (.int 9)))) vNil))) vNil))))
 (vSeq (vIfS (qgm (vBl (vDIn id (vVar 5) (qg0 0))) (vBl (vOp vNeD (vOp vIxR (qja (qg0 0) (vVar 5)) (vC (.int 0))) (vC (.str ("folder" : Str))))))
  (qsf (vVar 1))
  qa9)
 (vSeq (qjz 0 (vVar 5) (vTup (qaa (vC (.str ("folder" : Str))) (qaa (vC (.str ("" : Str))) vNil))))
 (vSet 1 (vVar 5))))))
 (qsf (vVar 1)))
abbrev q4i:List Str:=["_law_things","_law_over","_law_deep","_law_stem","_law_k","_law_way"]
theorem q9e:∀ds ks ps c Q,qnw ds ks ps Q->q03 (EnJ 0 c Q) (startJ q4i 0 c ds ks ps):=by
 rintro ds ks ps c Q ⟨rs0,over0,deep,st,rfl,rfl,rfl,H0,ho0,ol0,hd0,hd,hl0,h⟩
 suffices go:∀E:VEnds,(∀τ r,E.ro τ r=qgx 0 c τ (Q r))->q03 E (startJ q4i 0 c [wayD over0,.int deep,.int st] ((rs0.map prR).map (·.1)) ((rs0.map prR).map (·.2))) from go _ λ_ _=>rfl
 intro E hE
 have nb:∀(i:Int) (Y:R->Prop),0<=i->(∀z:Str,nmB z=true->Y (.val (.str z)))->qbs [.int st,.int i] Y:=λi Y hi y=>⟨st,i,rfl,hi,y⟩
 refine v_cut (λτ=>∃(rs:List Row) (o:List Str) (a b:Option R),HallL rs/\rs.length<=rs0.length+(deep-over0.length).toNat/\(o=[]\/(o,qai,qa1)∈rs)/\(∀r∈rs0,r∈rs)/\τ=[some (.own (.ioT c ((rs.map prR).map (·.1)) ((rs.map prR).map (·.2)))),some (.val (wayD o)),some (.val (.int deep)),some (.val (.int st)),a,b]) ?_ λnx hnx=>?now
 ·rintro τ ⟨rs,o,a,b,H,l,ho,sub,rfl⟩
  rfl'
  rw[hE]
  exact⟨rfl,h rs o H l ho sub⟩
 ·dsimp! only[wayD]
  refine⟨by omega,by omega,by omega,by omega,qnv (λi τ=>∃(rs:List Row) (o:List Str) (a b:Option R),HallL rs/\rs.length<=rs0.length+i/\o.length=over0.length+i/\(o=[]\/(o,qai,qa1)∈rs)/\(∀r∈rs0,r∈rs)/\τ=[some (.own (.ioT c ((rs.map prR).map (·.1)) ((rs.map prR).map (·.2)))),some (.val (wayD o)),some (.val (.int deep)),some (.val (.int st)),a,b]) ⟨rs0,over0,none,none,H0,Nat.le_refl _,rfl,ho0,λr mr=>mr,rfl⟩ ?_ λτ ⟨rs,o,a,b,H,l,_,ho,sub,e⟩=>hnx _ ⟨rs,o,a,b,H,l,ho,sub,e⟩⟩
  rintro i τ hi ⟨rs,o,a,b,H,l,ol,ho,sub,rfl⟩ nx2 hnx2
  have oW:∀z∈o,nmB z=true:=by
   rcases ho with rfl|ho
   ·intro z mz;cases mz
   ·exact(H.wy _ ho).2
  have mod0:0<=((over0.length:Int)+i)%9:=Int.emod_nonneg _ (by decide)
  rfl'
  refine v_cut (λτ=>∃z:Str,nmB z=true/\∃a,τ=[some (.own (.ioT c ((rs.map prR).map (·.1)) ((rs.map prR).map (·.2)))),some (.val (wayD o)),some (.val (.int deep)),some (.val (.int st)),a,some (.val (wayD (o++[z])))]) ?_ ?nwa
  case nwa =>
   intro nx3 hnx3
   dsimp! only[wayD]
   refine nb _ _ (by omega) λz hz=>?_
   rfl'
   exact⟨by decide,Nat.le_trans (show _<=1000 by omega) qao,hnx3 _ ⟨z,hz,_,rfl⟩⟩
  rintro τ ⟨z,hz,a,rfl⟩
  have lz:(o++[z]).length=over0.length+i+1:=by rw[List.length_append,List.length_singleton,ol]
  have nez:("" : Str)∉o++[z]:=λq=>(List.mem_append.mp q).elim (λq=>qlc (qfl (oW _ q)) rfl) λq=>qlc (qfl (List.mem_singleton.mp q▸hz)) rfl
  have z0:o++[z]≠[]:=by simp
  refine qed (λcc=>cc=false->o++[z]∉rs.map (·.1)\/(o++[z],qai,qa1)∈rs) ?t1 ?y1 ?n1
  case t1 =>
   intro Y y
   dsimp! only[wayD]
   refine⟨nez,?_⟩
   rw[qcn,qxt z0]
   cases e:look rs (o++[z]) with
  |none =>
    refine iteF (y _ λ_=>.inl λq=>?_)
    obtain⟨r,mr,er⟩:=List.mem_map.mp q
    have:=qdt H.nd mr (H.ne r mr)
    rw[er,e] at this
    cases this
  |some mt =>
    refine iteT ⟨nez,thD mt,rfl,?_⟩
    dsimp! only[thD]
    refine y _ λq=>.inr ?_
    have em:mt.1=qai:=by
     by_cases q2:mt.1=qai
     ·exact q2
     ·rw[show decide (mt.1=Str.ofString "folder")=false from decide_eq_false q2] at q
      cases q
    have mr:=qp0 e z0
    rcases H.kd _ mr with q2|q2|q2
    ·rw[show mt=(qai,qa1) from q2] at mr
     exact mr
    ·rw[show mt.1=qfu from q2] at em
     exact absurd em (by decide +kernel)
    ·rw[show mt.1=qdk from q2.1] at em
     exact absurd em (by decide +kernel)
  case y1 =>
   intro hb
   rfl'
   rw[hE]
   exact⟨rfl,h rs o H (by omega) ho sub⟩
  case n1 =>
   intro hb
   have key:∃rs':List Row,HallL rs'/\rs'.length<=rs.length+1/\(o++[z],qai,qa1)∈rs'/\(∀r∈rs,r∈rs')/\insP (rs.map prR) (o++[z]) (.tup [.str qai,.str qa1])=rs'.map prR:=by
    rcases hb rfl with q|q
    ·exact⟨_,H.put ho hz (by omega) q,by simp,by simp,λr mr=>List.mem_append_left _ mr,qt5 q _ _⟩
    ·exact⟨rs,H,by omega,q,λr mr=>mr,qxf H.nd q⟩
   obtain⟨rs',H',l',m',sub',e'⟩:=key
   refine v_cut (λτ=>∃a,τ=[some (.own (.ioT c ((rs'.map prR).map (·.1)) ((rs'.map prR).map (·.2)))),some (.val (wayD o)),some (.val (.int deep)),some (.val (.int st)),a,some (.val (wayD (o++[z])))]) ?_ ?nwb
   case nwb =>
    intro nx3 hnx3
    dsimp! only[wayD]
    refine⟨by decide,nez,Nat.lt_of_lt_of_le (show _<1000 by omega) qao,?_⟩
    have e2:insP (rs.map prR) (o++[z]) (D.tup [D.str (Str.ofString "folder"),D.str (Str.ofString "")])=rs'.map prR:=e'
    rw[qd4,e2]
    exact hnx3 _ ⟨_,rfl⟩
   rintro τ ⟨a,rfl⟩
   rfl'
   exact hnx2 _ ⟨rs',o++[z],_,_,H',by omega,by omega,.inr m',λr mr=>sub' r (sub r mr),rfl⟩
def qm8:TVS:=(vTry (vRet (vTup (qaa (vC (.str ("" : Str))) (qaa (qdw qeg (qaa (vVar 0) (qaa (vVar 1) vNil))) vNil))))
  (qmz ["InItself"] ["NoWay","TooDeep","Crowded","Astray","Missing","NotFolder","NoPlace","IsThere"] (vRet (vTup (qaa (vC (.str ("InItself" : Str))) (qaa (vC .non) vNil)))) (qmz ["IsThere"] ["NoWay","TooDeep","Crowded","Astray","Missing","NotFolder","NoPlace","InItself"] (vRet (vTup (qaa (vC (.str ("IsThere" : Str))) (qaa (vC .non) vNil)))) (qmz ["TooDeep"] ["NoWay","Crowded","Astray","Missing","NotFolder","NoPlace","IsThere","InItself"] (vRet (vTup (qaa (vC (.str ("TooDeep" : Str))) (qaa (vC .non) vNil)))) (qmz ["Crowded"] ["NoWay","TooDeep","Astray","Missing","NotFolder","NoPlace","IsThere","InItself"] (vRet (vTup (qaa (vC (.str ("Crowded" : Str))) (qaa (vC .non) vNil)))) q34)))))
abbrev q0w:List Str:=["_law_tree","_law_deed"]
theorem q4a:∀ds Q,qgc ds Q->qm8 (En Q) (qax q0w ds):=by
 rintro ds Q ⟨ts,key,t,u,v,g,b,rfl,hk,T,h⟩
 have dn:∀Y:R->Prop,DnQ key ts v g b Y->qeg [qaj ts,qbk key t u] Y:=λY y=>⟨ts,key,t,u,v,g,b,rfl,hk,T,y⟩
 dsimp! only[qm8]
 refine dn _ (qvi hk (λn hn k=>?_) λus k=>?_)
 ·have hq:=h _ k
  unfold askD at hq
  rfl'
  simp only[List.mem_cons,List.not_mem_nil,or_false] at hn
  rcases hn with rfl|rfl|rfl|rfl
  ·refine .inl ⟨by decide,?_⟩
   rfl'
   exact⟨by decide,hq⟩
  ·refine .inr ⟨by decide,.inl ⟨by decide,?_⟩⟩
   rfl'
   exact⟨by decide,hq⟩
  ·refine .inr ⟨by decide,.inr ⟨by decide,.inl ⟨by decide,?_⟩⟩⟩
   rfl'
   exact⟨by decide,hq⟩
  ·refine .inr ⟨by decide,.inr ⟨by decide,.inr ⟨by decide,.inl ⟨by decide,?_⟩⟩⟩⟩
   rfl'
   exact⟨by decide,hq⟩
 ·have hq:=h _ k
  rfl'
  exact⟨by decide,hq⟩
def qna:TVS:=(vSeq (vTry (qmp (qdw qeg (qaa (vVar 0) (qaa (vVar 1) vNil))))
  (vhAs 2 ["NoWay","TooDeep","Crowded","Astray","Missing","NotFolder","NoPlace","IsThere","InItself"] [] (vRet (qmk (vIsX ["NoWay","TooDeep","Crowded","Astray","Missing","NotFolder","NoPlace","IsThere","InItself"] [] (vVar 2)) (qv2 (vIsX ["NotFolder"] ["NoWay","TooDeep","Crowded","Astray","Missing","NoPlace","IsThere","InItself"] (vVar 2))))) q34))
 (vRet (vC (.bl false))))
abbrev q0z:List Str:=["_law_tree","_law_deed","e"]
theorem q4d:∀ds Q,qge ds Q->qna (En Q) (qax q0z ds):=by
 rintro ds Q ⟨ts,key,t,u,v,g,b,n0,rfl,hk,T,hn0,h⟩
 have dn:∀Y:R->Prop,DnQ key ts v g b Y->qeg [qaj ts,qbk key t u] Y:=λY y=>⟨ts,key,t,u,v,g,b,rfl,hk,T,y⟩
 refine qca ?_
 dsimp! only[qna]
 refine dn _ (qvi hk (λn hn k=>?_) λus k=>?_)
 ·rfl'
  simp only[List.mem_cons,List.not_mem_nil,or_false] at hn
  refine .inl ⟨by rcases hn with e|e|e|e<;>(subst e;decide),?_⟩
  rfl'
  refine .inl ⟨by rcases hn with e|e|e|e<;>(subst e;decide),?_⟩
  rfl'
  refine .inr ⟨by rcases hn with e|e|e|e<;>(subst e;decide),?_⟩
  rfl'
  exact h
 ·have:=qkt k hn0
  unfold okD askD qaj at this
  simp at this
def q4q:TVS:=(vSeq (vIfS (vOrT (vBl (vOp vEq (vVar 2) (vVar 1))) (vBl (qak qfj (qaa (vVar 2) (qaa (vVar 1) vNil)))))
  (vRet (vTup (qaa (vC (.str ("InItself" : Str))) (qaa (vC .non) vNil))))
  qa9)
 (vSeq (qgo 4 (vLst vNil))
 (vSeq (vSet 5 (vC (.int 0)))
 (vSeq (vFor (qc9 (vVar 0)) (qbf 6)
  (vSeq (vIfS (vBl (vOp vEq (vOp vIxR (vVar 6) (vC (.int 0))) (vVar 2)))
  (vRet (vTup (qaa (vC (.str ("IsThere" : Str))) (qaa (vC .non) vNil))))
  qa9)
 (vSeq (vSet 7 (vOrE (vOp vEq (vOp vIxR (vVar 6) (vC (.int 0))) (vVar 1)) (qak qfj (qaa (vOp vIxR (vVar 6) (vC (.int 0))) (qaa (vVar 1) vNil)))))
 (vSeq (vIfS (vBl (vVar 7))
  (vSeq (qer 4 (vTup (qaa (vOp vAdd (vVar 2) (qei (vOp vIxR (vVar 6) (vC (.int 0))) (qhb (vF1 vLen (vVar 1))) qc7)) (qaa (vOp vIxR (vVar 6) (vC (.int 1))) (qaa (vOp vIxR (vVar 6) (vC (.int 2))) vNil)))))
 (vSet 5 (vMM (λi j=>if j>i then j else i) (vVar 5) (vOp vSub (vOp vAdd (vF1 vLen (vVar 2)) (vF1 vLen (vOp vIxR (vVar 6) (vC (.int 0))))) (vF1 vLen (vVar 1))))))
  qa9)
 (vIfS (vOrT (vBl (vVar 3)) (qes (vBl (vVar 7))))
  (qer 4 (vVar 6))
  qa9)))))
 (vSeq (vIfS (vBl (vOp vGt (vVar 5) (vC (.int 12))))
  (vRet (vTup (qaa (vC (.str ("TooDeep" : Str))) (qaa (vC .non) vNil))))
  qa9)
 (vSeq (vIfS (qgm (vBl (vVar 3)) (vBl (vOp vGt (vF1 vLen (vVar 4)) (vC (.int 60)))))
  (vRet (vTup (qaa (vC (.str ("Crowded" : Str))) (qaa (vC .non) vNil))))
  qa9)
 (vRet (vTup (qaa (vC (.str ("" : Str))) (qaa (vF1 qet (vVar 4)) vNil))))))))))
abbrev q74:List Str:=["_law_tree","_law_way","_law_goes","_law_stays","_law_rows","_law_deepest","_law_row","_law_inside"]
theorem q9d:∀ds Q,qq5 ds Q->q4q (En Q) (qax q74 ds):=by
 rintro ds Q ⟨ts,v,g,b,st,rfl,nd,hl,hw,mv,g0,gl,ng,h⟩
 have un:∀(w o:List Str) (Y:R->Prop),Y (.val (.bl (qa8 w o)))->qfj [wayD w,wayD o] Y:=λw o Y y=>⟨w,o,rfl,y⟩
 have lv:look ts v=some b\/v=[]:=by
  by_cases e:v=[]
  ·exact .inr e
  ·exact .inl (qdt nd mv e)
 refine qed (λc=>c=decide (g=v\/qa8 g v=true)) (λY y=>?t1) (λhb=>?y1) λhb=>?n1
 case t1 =>
  dsimp! only[wayD]
  refine⟨cmpW _ _,depW _,?_⟩
  simp only[eqW]
  by_cases e:g=v
  ·rw[if_pos (decide_eq_true e)]
   exact y _ (decide_eq_true (.inl e)).symm
  ·rw[if_neg (by rw[decide_eq_false e];decide)]
   refine un g v _ ?_
   rfl'
   refine y _ ?_
   cases hu:qa8 g v with
  |true=>exact(decide_eq_true (.inr rfl)).symm
  |false=>exact(decide_eq_false (by rintro (q|q);exact e q;cases q)).symm
 case y1 =>
  rfl'
  exact⟨by decide,h _ (.inl ⟨of_decide_eq_true hb.symm,rfl⟩)⟩
 case n1 =>
 have nin:=of_decide_eq_false hb.symm
 refine qca ?_
 rfl'
 refine qca ?_
 rfl'
 refine v_cut (λτ=>look ts g=none/\∃a1 a2,τ=[some (.val (qaj ts)),some (.val (wayD v)),some (.val (wayD g)),some (.val (.bl st)),some (.own (.lst ((dueR ts v g st).map rowD))),some (.val (.int (g.length+qc1 (qas ts v):Nat))),a1,a2]) ?_ λnx hnx=>?now
 case now =>
  dsimp! only[qaj]
  refine qkb (f:=rowD) (xs:=ts) (λi τ=>(∀r∈ts.take i,r.1≠g)/\∃a1 a2,τ=[some (.val (.lst (ts.map rowD))),some (.val (wayD v)),some (.val (wayD g)),some (.val (.bl st)),some (.own (.lst ((dueR (ts.take i) v g st).map rowD))),some (.val (.int (insN v g (ts.take i):Nat))),a1,a2]) ⟨λr mr=>(by rw[List.take_zero] at mr;cases mr),none,none,rfl⟩ ?_ λτ ⟨nog,a1,a2,e⟩=>?_
  ·rintro i r τ hi ⟨nog,a1,a2,rfl⟩ nx2 hnx2
   have mr:=List.mem_of_getElem? hi
   have hlt:=(List.getElem?_eq_some_iff.mp hi).1
   have wr:=hw r mr
   have et:ts.take (i+1)=ts.take i++[r]:=by rw[List.take_add_one,hi];rfl
   have ed:dueR (ts.take (i+1)) v g st=dueR (ts.take i) v g st++((if preB r.1 v=true then [(g++r.1.drop v.length,r.2)] else [])++(if (st||!preB r.1 v)=true then [r] else [])):=by
    unfold dueR
    rw[et,List.flatMap_append,List.flatMap_singleton]
   have ei:insN v g (ts.take (i+1))=max (insN v g (ts.take i)) (if preB r.1 v=true then g.length+r.1.length-v.length else 0):=by
    rw[et,qt3]
    unfold insN
    unfold insN
    omega
   have ld:(dueR (ts.take i) v g st).length<=2*64:=by
    have:=qto v g st (ts.take i)
    rw[List.length_take] at this
    omega
   rfl'
   refine qed (λc=>c=decide (r.1=g)) ?t1 ?y1 ?n1
   case t1 =>
    intro Y y
    dsimp! only[rowD,wayD]
    refine⟨cmpW _ _,depW _,?_⟩
    simp only[eqW]
    exact y _ rfl
   case y1 =>
    intro hb
    have e:=of_decide_eq_true hb.symm
    rfl'
    exact⟨by decide,h _ (.inr ⟨nin,.inl ⟨⟨r.2,by rw[←e];exact qdt nd mr (by rw[e];exact g0)⟩,rfl⟩⟩)⟩
   case n1 =>
   intro hb
   have ne:=of_decide_eq_false hb.symm
   refine v_cut (λτ=>τ=[some (.val (.lst (ts.map rowD))),some (.val (wayD v)),some (.val (wayD g)),some (.val (.bl st)),some (.own (.lst ((dueR (ts.take i) v g st).map rowD))),some (.val (.int (insN v g (ts.take i):Nat))),some (.val (rowD r)),some (.val (.bl (preB r.1 v)))]) ?_ ?nwa
   case nwa =>
    intro nx3 hnx3
    dsimp! only[rowD,wayD]
    refine⟨cmpW _ _,depW _,?_⟩
    simp only[eqW]
    by_cases e:r.1=v
    ·rw[decide_eq_true e]
     have hp:preB r.1 v=true:=by rw[qjs,decide_eq_true e];rfl
     rw[hp] at hnx3
     exact iteT (hnx3 _ rfl)
    ·rw[decide_eq_false e]
     have hp:preB r.1 v=qa8 r.1 v:=by rw[qjs,decide_eq_false e];rfl
     rw[hp] at hnx3
     refine iteF (un r.1 v _ ?_)
     rfl'
     exact hnx3 _ rfl
   rintro τ rfl
   refine v_cut (λτ=>τ=[some (.val (.lst (ts.map rowD))),some (.val (wayD v)),some (.val (wayD g)),some (.val (.bl st)),some (.own (.lst ((dueR (ts.take i) v g st).map rowD++(if preB r.1 v=true then [rowD (g++r.1.drop v.length,r.2)] else [])))),some (.val (.int (insN v g (ts.take (i+1)):Nat))),some (.val (rowD r)),some (.val (.bl (preB r.1 v)))]) ?_ ?nwb
   case nwb =>
    intro nx3 hnx3
    refine v_if (λc=>c=preB r.1 v) ?t2 ?y2 ?n2
    case t2 =>
     intro Y y
     rfl'
     exact y _ rfl
    case n2 =>
     intro hb
     rw[ei,←hb] at hnx3
     rw[←hb]
     rw[if_neg (by decide),if_neg (by decide),List.append_nil,Nat.max_zero] at hnx3
     exact hnx3 _ rfl
    case y2 =>
     intro hb
     rw[ei,←hb] at hnx3
     rw[←hb]
     rw[if_pos rfl,if_pos rfl] at hnx3
     refine qca ?_
     have lpv:=(preB_iff.mp hb.symm).length_le
     dsimp! only[rowD,wayD]
     rw[qfs]
     have ez:(if (g.length:Int)+(r.1.length:Int)-(v.length:Int)>((insN v g (ts.take i):Nat):Int) then (g.length:Int)+(r.1.length:Int)-(v.length:Int) else ((insN v g (ts.take i):Nat):Int))=((max (insN v g (ts.take i)) (g.length+r.1.length-v.length):Nat):Int):=by
      split<;>omega
     rw[ez]
     exact⟨Nat.le_trans (show _<=1000 by rw[List.length_drop];omega) qao,by decide,Nat.lt_of_lt_of_le (show _<1000 by omega) qao,hnx3 _ rfl⟩
   rintro τ rfl
   refine v_if (λc=>c=(st||!preB r.1 v)) ?t3 ?y3 ?n3
   case t3 =>
    intro Y y
    rfl'
    cases st with
   |true=>exact iteT (y _ rfl)
   |false=>exact iteF (y _ rfl)
   case n3 =>
    intro hb
    rw[←hb] at ed
    refine hnx2 _ ⟨λq mq=>?_,some (.val (rowD r)),some (.val (.bl (preB r.1 v))),?_⟩
    ·rw[et] at mq
     exact(List.mem_append.mp mq).elim (nog q) λe=>by rw[List.mem_singleton.mp e];exact ne
    ·have eq1:(dueR (ts.take (i+1)) v g st).map rowD=(dueR (ts.take i) v g st).map rowD++(if preB r.1 v=true then [rowD (g++r.1.drop v.length,r.2)] else []):=by
      rw[ed]
      cases preB r.1 v<;>simp
     rw[eq1]
   case y3 =>
    intro hb
    rw[←hb] at ed
    rfl'
    refine⟨?_,hnx2 _ ⟨λq mq=>?_,some (.val (rowD r)),some (.val (.bl (preB r.1 v))),?_⟩⟩
    ·refine Nat.lt_of_lt_of_le (show _<1000 from ?_) qao
     rw[List.length_append,List.length_map]
     have:(if preB r.1 v=true then [rowD (g++r.1.drop v.length,r.2)] else []).length<=1:=by split<;>simp
     omega
    ·rw[et] at mq
     exact(List.mem_append.mp mq).elim (nog q) λe=>by rw[List.mem_singleton.mp e];exact ne
    ·have eq2:(dueR (ts.take (i+1)) v g st).map rowD=((dueR (ts.take i) v g st).map rowD++(if preB r.1 v=true then [rowD (g++r.1.drop v.length,r.2)] else []))++[rowD r]:=by
      rw[ed]
      cases preB r.1 v<;>simp
     rw[eq2]
  ·have eT:ts.take ts.length=ts:=List.take_length
   rw[eT] at nog e
   refine hnx _ ⟨qkf g0 λq=>?_,a1,a2,?_⟩
   ·obtain⟨r,mr,er⟩:=List.mem_map.mp q
    exact nog r mr er
   ·rw[e,qxe mv]
    rfl
 rintro τ ⟨e,a1,a2,rfl⟩
 have pm:=qw7 nd (g:=g) mv (ng e) st
 have lp:(qas ts v).length<=ts.length:=by unfold qas;rw[List.length_map];exact List.length_filter_le _ _
 refine qed (λc=>c=decide (12<g.length+qc1 (qas ts v))) (λY y=>?t5) (λhb=>?y5) λhb=>?n5
 case t5 =>
  rfl'
  refine y _ ?_
  by_cases q:12<g.length+qc1 (qas ts v)
  ·rw[decide_eq_true q,decide_eq_true (by omega)]
  ·rw[decide_eq_false q,decide_eq_false (by omega)]
 case y5 =>
  rfl'
  exact⟨by decide,h _ (.inr ⟨nin,.inr ⟨e,.inl ⟨of_decide_eq_true hb.symm,rfl⟩⟩⟩)⟩
 case n5 =>
 have d12:=of_decide_eq_false hb.symm
 have go:∀d,(st=false/\(∃us,MvOk ts us v g b/\d=okD us)\/st=true/\(60<ts.length+1+(qas ts v).length/\d=askD "Crowded" \/ ts.length+1+(qas ts v).length<=60/\∃us,CpOk ts us v g b/\d=okD us))->Q (.val d):=λd q=>h d (.inr ⟨nin,.inr ⟨e,.inr ⟨by omega,by
  rcases q with ⟨rfl,q⟩|⟨rfl,q⟩
  ·exact .inl ⟨rfl,q⟩
  ·exact .inr ⟨rfl,q⟩⟩⟩⟩)
 have lc:st=true->(dueR ts v g st).length=ts.length+1+(qas ts v).length:=λq=>by
  rw[pm.length_eq,q,if_pos rfl]
  unfold qbh qc8
  rw[List.length_append,List.length_cons,List.length_map]
  have:qat ts g=ts:=by
   unfold qat
   exact List.filter_eq_self.mpr λr mr=>by rw[ng e r mr];rfl
  rw[this]
  omega
 refine qed (λc=>c=decide (st=true/\60<ts.length+1+(qas ts v).length)) (λY y=>?t6) (λhb=>?y6) λhb=>?n6
 case t6 =>
  rfl'
  cases st with
 |false=>exact y _ (decide_eq_false (by rintro⟨q,_⟩;cases q)).symm
 |true =>
   refine y _ ?_
   rw[lc rfl]
   by_cases q:60<ts.length+1+(qas ts v).length
   ·rw[decide_eq_true (show (60:Int)<((ts.length+1+(qas ts v).length:Nat):Int) by omega),decide_eq_true (show true=true/\60<ts.length+1+(qas ts v).length from ⟨rfl,q⟩)]
   ·rw[decide_eq_false (show ¬ (60:Int)<((ts.length+1+(qas ts v).length:Nat):Int) by omega),decide_eq_false (show ¬ (true=true/\60<ts.length+1+(qas ts v).length) from λz=>q z.2)]
 case y6 =>
  obtain⟨q1,q2⟩:=of_decide_eq_true hb.symm
  rfl'
  exact⟨by decide,go _ (.inr ⟨q1,.inl ⟨q2,rfl⟩⟩)⟩
 case n6 =>
 have n6:=of_decide_eq_false hb.symm
 have nds:∀xs:List Row,(xs.map (·.1)).Nodup->((qbh xs g b (qas ts v)).map (·.1)).Nodup:=λxs hx=>qpu hx (quw nd) λr hr=>qux r hr
 have nd2:((dueR ts v g st).map (·.1)).Nodup:=by
  refine((pm.map _).nodup_iff).mpr ?_
  split
  ·exact nds _ nd
  ·exact nds _ (nd.sublist ((List.filter_sublist).map _))
 have hl2:(dueR ts v g st).length<64:=by
  cases st with
 |true =>
   rw[lc rfl]
   have:¬ 60<ts.length+1+(qas ts v).length:=λq=>n6 ⟨rfl,q⟩
   omega
 |false =>
   have h1:=pm.length_eq
   rw[if_neg (by decide)] at h1
   have h2:=qhv (qat ts v) g b (qas ts v)
   have h3:=qzy nd mv
   omega
 rfl'
 refine⟨qjv nd2,by first|exact hl2|(rw[List.length_map];exact hl2),λdss hp hs=>?_⟩
 obtain⟨us,rfl,p1,p2⟩:=qmg nd2 hp hs
 rfl'
 refine⟨by decide,go _ ?_⟩
 cases st with
|false=>exact .inl ⟨rfl,us,⟨p1.trans pm,p2⟩,rfl⟩
|true=>exact .inr ⟨rfl,.inr ⟨Nat.le_of_not_lt λq=>n6 ⟨rfl,q⟩,us,⟨p1.trans pm,p2⟩,rfl⟩⟩
def q4r:TVS:=(vSeq (vSet 1 (qak qb2 (qaa (vVar 0) (qaa (vC (.int 0)) vNil))))
 (vSeq (vSet 2 (qak qb2 (qaa (vVar 0) (qaa (vC (.int 1)) vNil))))
 (vSeq (vSet 3 (vOp vAdd (vC (.int 1)) (qak qa3 (qaa (vVar 2) (qaa (vC (.int 0)) (qaa (vC (.int 13)) vNil))))))
 (vSeq (vIfS (vBl (vOp vEq (qak qa3 (qaa (vVar 2) (qaa (vC (.int 1)) (qaa (vC (.int 6)) vNil)))) (vC (.int 0))))
  (vSet 3 (vOp vAdd (vC (.int 1)) (qak qa3 (qaa (vVar 2) (qaa (vC (.int 2)) (qaa (vC (.int 41)) vNil))))))
  qa9)
 (vSeq (qgo 4 (qak qdy (qaa (qak qgd (qaa (vVar 0) (qaa (vC (.int 3)) (qaa (vC (.int 1)) (qaa (vVar 3) vNil))))) (qaa (vVar 1) vNil))))
 (qmr 4 5 (vOp vAdd (vLst (qaa (vTup vNil) vNil)) (qfp (qgn 4) (qbf 18) (vBl (vOp vEq (vOp vIxR (qja (vVar 4) (vVar 18)) (vC (.int 0))) (vC (.str ("folder" : Str))))) (vVar 18) 1))
 (vSeq (vSet 6 (vOp vIxR (vF1 qgz (vVar 4)) (qak qa3 (qaa (vVar 2) (qaa (vC (.int 3)) (qaa (vF1 qsd (vVar 4)) vNil))))))
 (vSeq (vIfS (qgm (vBl (vOp vGt (vF1 vLen (vVar 5)) (vC (.int 1)))) (vBl (vOp vGt (qak qa3 (qaa (vVar 2) (qaa (vC (.int 4)) (qaa (vC (.int 3)) vNil)))) (vC (.int 0)))))
  (vSet 6 (vOp vIxR (vVar 5) (vOp vAdd (vC (.int 1)) (qak qa3 (qaa (vVar 2) (qaa (vC (.int 3)) (qaa (vOp vSub (vF1 vLen (vVar 5)) (vC (.int 1))) vNil)))))))
  qa9)
 (vSeq (vSet 7 (qak qb2 (qaa (vVar 0) (qaa (vC (.int 2)) vNil))))
 (vSeq (vSet 8 (vOp vIxR (vVar 5) (qak qa3 (qaa (vVar 7) (qaa (vC (.int 0)) (qaa (vF1 vLen (vVar 5)) vNil))))))
 (vSeq (vIfS (vBl (vOp vEq (qak qa3 (qaa (vVar 7) (qaa (vC (.int 6)) (qaa (vC (.int 2)) vNil)))) (vC (.int 0))))
  (qms 8 qnw 4 (qaa (vVar 8) (qaa (vOp vAdd (vC (.int 5)) (qak qa3 (qaa (vVar 7) (qaa (vC (.int 7)) (qaa (vC (.int 7)) vNil))))) (qaa (vVar 1) vNil))))
  qa9)
 (vSeq (vIfS (qgm (vBl (vOp vEq (qak qa3 (qaa (vVar 2) (qaa (vC (.int 5)) (qaa (vC (.int 2)) vNil)))) (vC (.int 0)))) (vBl (vOp vEq (vOp vIxR (qja (vVar 4) (vVar 6)) (vC (.int 0))) (vC (.str ("folder" : Str))))))
  (qmq qnw 4 (qaa (vVar 6) (qaa (vOp vAdd (vF1 vLen (vVar 6)) (qak qa3 (qaa (vVar 2) (qaa (vC (.int 6)) (qaa (vC (.int 6)) vNil))))) (qaa (vVar 1) vNil))))
  qa9)
 (vFrz 4 (vSeq (vSet 9 (qak qd1 (qaa (vVar 4) vNil)))
 (vSeq (vSet 10 (vOp vAdd (vVar 8) (vTup (qaa (qak qbs (qaa (vVar 1) (qaa (qak qa3 (qaa (vVar 7) (qaa (vC (.int 1)) (qaa (vC (.int 8)) vNil)))) vNil))) vNil))))
 (vSeq (vIfS (vBl (vOp vEq (qak qa3 (qaa (vVar 7) (qaa (vC (.int 2)) (qaa (vC (.int 9)) vNil)))) (vC (.int 0))))
  (vSet 10 (vVar 6))
  qa9)
 (vSeq (vSet 11 (vOp vEq (qak qa3 (qaa (vVar 7) (qaa (vC (.int 3)) (qaa (vC (.int 2)) vNil)))) (vC (.int 0))))
 (vSeq (vSet 12 (vC (.str ("move" : Str))))
 (vSeq (vIfS (vBl (vVar 11))
  (vSet 12 (vC (.str ("copy" : Str))))
  qa9)
 (vSeq (vSet 13 (qak qdh (qaa (vVar 6) (qaa (vOp vEq (qak qa3 (qaa (vVar 7) (qaa (vC (.int 4)) (qaa (vC (.int 2)) vNil)))) (vC (.int 0))) vNil))))
 (vSeq (vSet 14 (vTup (qaa (vVar 12) (qaa (vVar 13) (qaa (qak qdh (qaa (vVar 10) (qaa (vOp vEq (qak qa3 (qaa (vVar 7) (qaa (vC (.int 5)) (qaa (vC (.int 2)) vNil)))) (vC (.int 0))) vNil))) vNil)))))
 (vSeq (vSet 15 (vF1 qpb (vVar 9)))
 (vSeq (vSet 16 (qak qq5 (qaa (vVar 9) (qaa (vVar 6) (qaa (vVar 10) (qaa (vVar 11) vNil))))))
 (vSeq (vSet 17 (qak qgc (qaa (vVar 15) (qaa (vVar 14) vNil))))
 (vSeq (vIfS (vOrT (vBl (vOp vNeD (vOp vIxR (vVar 17) (vC (.int 0))) (vOp vIxR (vVar 16) (vC (.int 0))))) (vBl (vOp vNeD (vVar 15) (vVar 9))))
  (vRet (vC (.bl false)))
  qa9)
 (vSeq (vIfS (vBl (vOp vNeD (vOp vIxR (vVar 16) (vC (.int 0))) (vC (.str ("" : Str)))))
  (vRet (qak qge (qaa (vVar 15) (qaa (vVar 14) vNil))))
  qa9)
 (vRet (qmk (qak g_same (qaa (vOp vIxR (vVar 17) (vC (.int 1))) (qaa (vOp vIxR (vVar 16) (vC (.int 1))) vNil))) (qak g_same (qaa (qak qeg (qaa (vVar 15) (qaa (vVar 14) vNil))) (qaa (vOp vIxR (vVar 16) (vC (.int 1))) vNil)))))))))))))))))))))))))))))))
abbrev q75:List Str:=["_law_script","_law_stem","_law_some","_law_many","_law_things","_law_folders","_law_way","_law_other","_law_over","_law_tree","_law_goes","_law_stays","_law_word","_law_first","_law_deed","_law_handed","_law_due_here","_law_told"]
theorem q9f:∀ds Q,qnx ds Q->q4r (En Q) (qax q75 ds):=by
 rintro ds Q ⟨ns,rfl,h⟩
 have mx:∀(c k n:Int) (Y:R->Prop),0<=k->0<n->(∀i,0<=i->i<n->Y (.val (.int i)))->qa3 [.int c,.int k,.int n] Y:=λc k n Y hk hn y=>⟨c,k,n,rfl,hk,hn,λi h0 h1 _=>y i h0 h1⟩
 have ca:∀(k:Int) (Y:R->Prop),0<=k->(∀c,Y (.val (.int c)))->qb2 [.scr ns,.int k] Y:=λk Y hk y=>⟨ns,k,rfl,hk,y _⟩
 have nb:∀(st i:Int) (Y:R->Prop),0<=i->(∀z:Str,nmB z=true->Y (.val (.str z)))->qbs [.int st,.int i] Y:=λst i Y hi y=>⟨st,i,rfl,hi,y⟩
 refine v_cut (λτ=>∃a:Int,τ=[some (.val (.scr ns)),some (.val (.int a)),none,none,none,none,none,none,none,none,none,none,none,none,none,none,none,none]) ?_ λnx hnx=>?now
 case now =>
  rfl'
  refine ca _ _ (by decide) λc=>?_
  rfl'
  exact hnx _ ⟨c,rfl⟩
 rintro τ ⟨a,rfl⟩
 refine v_cut (λτ=>∃b:Int,τ=[some (.val (.scr ns)),some (.val (.int a)),some (.val (.int b)),none,none,none,none,none,none,none,none,none,none,none,none,none,none,none]) ?_ λnx hnx=>?now
 case now =>
  rfl'
  refine ca _ _ (by decide) λc=>?_
  rfl'
  exact hnx _ ⟨c,rfl⟩
 rintro τ ⟨b,rfl⟩
 refine v_cut (λτ=>∃m:Int,1<=m/\m<42/\τ=[some (.val (.scr ns)),some (.val (.int a)),some (.val (.int b)),some (.val (.int m)),none,none,none,none,none,none,none,none,none,none,none,none,none,none]) ?_ λnx hnx=>?now
 case now =>
  rfl'
  refine mx _ _ _ _ (by decide) (by decide) λc c0 c1=>?_
  rfl'
  exact hnx _ ⟨1+c,by omega,by omega,rfl⟩
 rintro τ ⟨m,m0,m1,rfl⟩
 refine v_cut (λτ=>∃m:Int,1<=m/\m<42/\τ=[some (.val (.scr ns)),some (.val (.int a)),some (.val (.int b)),some (.val (.int m)),none,none,none,none,none,none,none,none,none,none,none,none,none,none]) ?_ λnx hnx=>?now
 case now =>
  rfl'
  refine mx _ _ _ _ (by decide) (by decide) λc c0 c1=>?_
  rfl'
  split
  ·refine mx _ _ _ _ (by decide) (by decide) λc c0 c1=>?_
   rfl'
   exact hnx _ ⟨1+c,by omega,by omega,rfl⟩
  ·exact hnx _ ⟨m,m0,m1,rfl⟩
 clear m0 m1 m
 rintro τ ⟨m,m0,m1,rfl⟩
 refine v_cut (λτ=>∃rs:List Row,Hall rs/\rs.length<=41/\rs≠[]/\τ=[some (.val (.scr ns)),some (.val (.int a)),some (.val (.int b)),some (.val (.int m)),some (.own (qa4 (rs.map prR))),none,none,none,none,none,none,none,none,none,none,none,none,none]) ?_ λnx hnx=>?now
 case now =>
  have ce:∀Y:R->Prop,(∀cs:List Int,cs.length=m.toNat->Y (.own (.lst (cs.map D.int))))->qgd [.scr ns,.int 3,.int 1,.int m] Y:=λY y=>⟨ns,3,1,m,rfl,by decide,by decide,by omega,by omega,y⟩
  rfl'
  refine ce _ λcs hcs=>?_
  have ha:∀Y:R->Prop,(∀rs,Hall rs->rs.length<=cs.length->(cs≠[]->rs≠[])->Y (.own (qa4 (rs.map prR))))->qdy [.lst (cs.map D.int),.int a] Y:=λY y=>⟨cs,a,rfl,by omega,y⟩
  rfl'
  refine ha _ λrs H hl hne=>?_
  rfl'
  exact hnx _ ⟨rs,H,by omega,hne (by rintro rfl;rw[List.length_nil] at hcs;omega),rfl⟩
 rintro τ ⟨rs,H,hlen,rne,rfl⟩
 have ek:List.map (λw=>D.tup (List.map D.str w)) (List.map (λx=>x.fst) (List.map prR rs))=rs.map λr=>wayD r.1:=by
  rw[qi1,List.map_map]
  rfl
 obtain⟨fs,efs⟩:∃fs,fs=[]::(rs.filter λr=>decide (r.2.1=qai)).map (·.1):=⟨_,rfl⟩
 have fol:∀r∈rs,r.2.1=qai->(r.1,qai,qa1)∈rs:=λr mr e=>by
  rcases H.kd r mr with q|q|q
  ·have:r=(r.1,qai,qa1):=by rw[←q]
   rw[←this]
   exact mr
  ·rw[e] at q
   exact absurd q (by decide +kernel)
  ·rw[e] at q
   exact absurd q.1 (by decide +kernel)
 have mtl:∀o∈(rs.filter λr=>decide (r.2.1=qai)).map (·.1),(o,qai,qa1)∈rs:=λo mo=>by
  obtain⟨r,mr,e⟩:=List.mem_map.mp mo
  rw[List.mem_filter] at mr
  rw[←e]
  exact fol r mr.1 (of_decide_eq_true mr.2)
 have mfs:∀o∈fs,o=[]\/(o,qai,qa1)∈rs:=λo mo=>by
  rw[efs,List.mem_cons] at mo
  exact mo.imp id (mtl o)
 have lfs:fs.length<=42:=by
  rw[efs,List.length_cons,List.length_map]
  have:=List.length_filter_le (λr:Row=>decide (r.2.1=qai)) rs
  omega
 refine q1q rfl ?_
 show vOp _ _ _ [some (.val (.scr ns)),some (.val (.int a)),some (.val (.int b)),some (.val (.int m)),some (.peek (qa4 (rs.map prR))),none,none,none,none,none,none,none,none,none,none,none,none,none] _
 dsimp! only[qa4]
 rw[ek]
 refine⟨by decide,qd7 (λr=>wayD r.1) (λr=>decide (r.2.1=qai)) rs (Nat.le_trans (show _<=1000 by omega) qao) (λq hq Y N y1 y2=>?_) ?_⟩
 ·dsimp! only[wayD]
  refine⟨(H.wy q hq).ne,thD q.2,by rw[qcn,ql9,qd9 H.nd hq];rfl,?_⟩
  dsimp! only[thD]
  by_cases e:q.2.1=qai
  ·rw[decide_eq_true e] at y1
   rw[if_pos (decide_eq_true e)]
   exact y1 rfl
  ·rw[decide_eq_false e] at y2
   rw[if_neg (by rw[decide_eq_false e];decide)]
   exact y2 rfl
 have ef:fs.map wayD=D.tup []::List.map (λr=>wayD r.1) (rs.filter λr=>decide (r.2.1=qai)):=by
  rw[efs,List.map_cons,List.map_map]
  rfl
 rfl'
 rw[←ef]
 refine⟨Nat.le_trans (show _<=1000 by have:=List.length_filter_le (λr:Row=>decide (r.2.1=qai)) rs;omega) qao,by rw[show (fs.map wayD)=fs.map λw=>D.tup (w.map D.str) from rfl];exact qup _,?_⟩
 show vSeq _ _ _ [some (.val (.scr ns)),some (.val (.int a)),some (.val (.int b)),some (.val (.int m)),some (.own (qa4 (rs.map prR))),some (.val (.lst (fs.map wayD))),none,none,none,none,none,none,none,none,none,none,none,none]
 refine v_cut (λτ=>∃r0∈rs,τ=[some (.val (.scr ns)),some (.val (.int a)),some (.val (.int b)),some (.val (.int m)),some (.own (qa4 (rs.map prR))),some (.val (.lst (fs.map wayD))),some (.val (wayD r0.1)),none,none,none,none,none,none,none,none,none,none,none]) ?_ λnx hnx=>?now
 case now =>
  have rp:=List.length_pos_iff.mpr rne
  dsimp! only[qa4]
  refine mx _ _ _ _ (by decide) (by omega) λc c0 c1=>?_
  obtain⟨y,hy,hy2⟩:=qef (xs:=rs) (k:=c) c0 c1
  rfl'
  rw[ek]
  refine⟨wayD y.1,by rw[qdo,hy];rfl,?_⟩
  rfl'
  exact hnx _ ⟨y,List.mem_of_getElem? hy2,rfl⟩
 rintro τ ⟨r0,mr0,rfl⟩
 refine v_cut (λτ=>∃r0∈rs,τ=[some (.val (.scr ns)),some (.val (.int a)),some (.val (.int b)),some (.val (.int m)),some (.own (qa4 (rs.map prR))),some (.val (.lst (fs.map wayD))),some (.val (wayD r0.1)),none,none,none,none,none,none,none,none,none,none,none]) ?_ λnx hnx=>?now
 case now =>
  refine v_if (λc=>c=true->1<fs.length) (λY y=>?t1) (λhb=>?y1) λhb=>hnx _ ⟨r0,mr0,rfl⟩
  case t1 =>
   rfl'
   by_cases e:1<fs.length
   ·rw[if_pos (decide_eq_true (by omega))]
    refine mx _ _ _ _ (by decide) (by decide) λc c0 c1=>?_
    rfl'
    exact y _ λ_=>e
   ·rw[if_neg (by rw[decide_eq_false (by omega)];decide)]
    exact y _ λq=>by cases q
  case y1 =>
   have f1:=hb rfl
   rfl'
   refine mx _ _ _ _ (by decide) (by omega) λc c0 c1=>?_
   obtain⟨o,ho,ho2⟩:=qef (xs:=fs) (k:=1+c) (by omega) (by omega)
   have mo:(o,qai,qa1)∈rs:=by
    rw[efs] at ho2
    have e1:(1+c).toNat=c.toNat+1:=by omega
    rw[e1,List.getElem?_cons_succ] at ho2
    exact mtl o (List.mem_of_getElem? ho2)
   rfl'
   refine⟨wayD o,by rw[qdo,ho];rfl,?_⟩
   rfl'
   exact hnx _ ⟨_,mo,rfl⟩
 clear mr0 r0
 rintro τ ⟨r0,mr0,rfl⟩
 refine v_cut (λτ=>∃c2:Int,τ=[some (.val (.scr ns)),some (.val (.int a)),some (.val (.int b)),some (.val (.int m)),some (.own (qa4 (rs.map prR))),some (.val (.lst (fs.map wayD))),some (.val (wayD r0.1)),some (.val (.int c2)),none,none,none,none,none,none,none,none,none,none]) ?_ λnx hnx=>?now
 case now =>
  rfl'
  refine ca _ _ (by decide) λc=>?_
  rfl'
  exact hnx _ ⟨c,rfl⟩
 rintro τ ⟨c2,rfl⟩
 refine v_cut (λτ=>∃o,o∈fs/\τ=[some (.val (.scr ns)),some (.val (.int a)),some (.val (.int b)),some (.val (.int m)),some (.own (qa4 (rs.map prR))),some (.val (.lst (fs.map wayD))),some (.val (wayD r0.1)),some (.val (.int c2)),some (.val (wayD o)),none,none,none,none,none,none,none,none,none]) ?_ λnx hnx=>?now
 case now =>
  have fp:0<fs.length:=by rw[efs,List.length_cons];omega
  rfl'
  refine mx _ _ _ _ (by decide) (by omega) λc c0 c1=>?_
  obtain⟨o,ho,ho2⟩:=qef (xs:=fs) (k:=c) c0 c1
  rfl'
  refine⟨wayD o,by rw[qdo,ho];rfl,?_⟩
  rfl'
  exact hnx _ ⟨o,List.mem_of_getElem? ho2,rfl⟩
 rintro τ ⟨o,mo,rfl⟩
 have oF:=mfs o mo
 have oL:o.length<=12:=by
  rcases oF with rfl|q
  ·decide
  ·exact(H.wy _ q).1
 have dg:∀(xs:List Row) (w:List Str) (dp:Int) (Y:R->List (List Str)->List D->Prop),HallL xs->(w=[]\/(w,qai,qa1)∈xs)->w.length<=12->0<=dp->dp<=17->xs.length<=200->(∀(rs':List Row) (o:List Str),HallL rs'->rs'.length<=xs.length+(dp-w.length).toNat->(o=[]\/(o,qai,qa1)∈rs')->(∀r∈xs,r∈rs')->Y (.val (wayD o)) ((rs'.map prR).map (·.1)) ((rs'.map prR).map (·.2)))->qnw [wayD w,.int dp,.int a] ((xs.map prR).map (·.1)) ((xs.map prR).map (·.2)) Y:=λxs w dp Y h1 h2 h3 h4 h5 h6 y=>⟨xs,w,dp,a,rfl,rfl,rfl,h1,h2,h3,h4,h5,h6,y⟩
 refine v_cut (λτ=>∃(rs2:List Row) (o:List Str),HallL rs2/\rs2.length<=52/\(∀r∈rs,r∈rs2)/\(o=[]\/(o,qai,qa1)∈rs2)/\τ=[some (.val (.scr ns)),some (.val (.int a)),some (.val (.int b)),some (.val (.int m)),some (.own (qa4 (rs2.map prR))),some (.val (.lst (fs.map wayD))),some (.val (wayD r0.1)),some (.val (.int c2)),some (.val (wayD o)),none,none,none,none,none,none,none,none,none]) ?_ λnx hnx=>?now
 case now =>
  refine v_if (λ_=>True) (λY y=>?t1) (λhb=>?y1) λhb=>hnx _ ⟨rs,o,H.l,by omega,λr mr=>mr,oF,rfl⟩
  case t1 =>
   rfl'
   refine mx _ _ _ _ (by decide) (by decide) λc c0 c1=>?_
   rfl'
   exact y _ trivial
  case y1 =>
   dsimp! only[qa4]
   refine mx _ _ _ _ (by decide) (by decide) λc c0 c1=>?_
   rfl'
   refine dg rs o _ _ H.l oF oL (by omega) (by omega) (by omega) λrs' o' H' l' ho' sub=>?_
   rfl'
   exact hnx _ ⟨rs',o',H',by omega,sub,ho',rfl⟩
 clear oL oF mo o
 rintro τ ⟨rs2,o,H2,l2,sub2,oF,rfl⟩
 have mr2:=sub2 r0 mr0
 have rL:=(H.wy r0 mr0).1
 have r00:=H.ne r0 mr0
 refine v_cut (λτ=>∃rs3:List Row,HallL rs3/\rs3.length<64/\r0∈rs3/\(o=[]\/(o,qai,qa1)∈rs3)/\τ=[some (.val (.scr ns)),some (.val (.int a)),some (.val (.int b)),some (.val (.int m)),some (.own (qa4 (rs3.map prR))),some (.val (.lst (fs.map wayD))),some (.val (wayD r0.1)),some (.val (.int c2)),some (.val (wayD o)),none,none,none,none,none,none,none,none,none]) ?_ λnx hnx=>?now
 case now =>
  refine v_if (λc=>c=true->r0.2.1=qai) (λY y=>?t1) (λhb=>?y1) λhb=>hnx _ ⟨rs2,H2,by omega,mr2,oF,rfl⟩
  case t1 =>
   dsimp! only[qa4,wayD]
   refine mx _ _ _ _ (by decide) (by decide) λc c0 c1=>?_
   rfl'
   split
   ·refine⟨(H.wy r0 mr0).ne,thD r0.2,by rw[qcn,ql9,qd9 H2.nd mr2];rfl,?_⟩
    dsimp! only[thD]
    exact y _ λq=>of_decide_eq_true q
   ·exact y _ λq=>by cases q
  case y1 =>
   have rf:(r0.1,qai,qa1)∈rs2:=sub2 _ (fol r0 mr0 (hb rfl))
   dsimp! only[qa4,wayD]
   refine mx _ _ _ _ (by decide) (by decide) λc c0 c1=>?_
   rfl'
   refine dg rs2 r0.1 _ _ H2 (.inr rf) rL (by omega) (by omega) (by omega) λrs' o' H' l' ho' sub=>?_
   rfl'
   exact hnx _ ⟨rs',H',by omega,sub r0 mr2,oF.imp id (sub _),rfl⟩
 rintro τ ⟨rs3,H3,l3,mr3,oF3,rfl⟩
 rfl'
 refine v_cut (λτ=>∃ts:List Row,ts.Perm rs3/\τ=[some (.val (.scr ns)),some (.val (.int a)),some (.val (.int b)),some (.val (.int m)),some (.val (qa4 (rs3.map prR))),some (.val (.lst (fs.map wayD))),some (.val (wayD r0.1)),some (.val (.int c2)),some (.val (wayD o)),some (.val (qaj ts)),none,none,none,none,none,none,none,none]) ?_ λnx hnx=>?now
 case now =>
  have tr:∀Y:R->Prop,(∀ts:List Row,ts.Perm rs3->qb7 ts->Y (.own (qaj ts)))->qd1 [qa4 (rs3.map prR)] Y:=λY y=>⟨rs3,rfl,H3,l3,y⟩
  rfl'
  refine tr _ λts hp _=>?_
  rfl'
  exact hnx _ ⟨ts,hp,rfl⟩
 rintro τ ⟨ts,hp,rfl⟩
 have F:=q1b H3 l3 hp
 have lts:ts.length=rs3.length:=hp.length_eq
 have oQ:o.length<=20/\∀z∈o,nmB z=true:=by
  rcases oF3 with rfl|q
  ·exact⟨by decide,λz mz=>by cases mz⟩
  ·exact H3.wy _ q
 have oQ1:=oQ.1
 have rW:∀z∈r0.1,nmB z=true:=(H.wy r0 mr0).2
 have tl:∀(r:Bool) (zs:List Str),zs.length<=40->(∀z∈zs,wdB z=true)->(qcg r zs).length<=5000:=λr zs a b=>by
  have g1:=qny b
  unfold qcg
  split
  ·rw[PySem.Str.length_append,qd2]
   omega
  ·omega
 have pw:∀(bb:Bool) (res:WR),PlaceTo ts [] (qcg bb r0.1) 0 res->∃tr f,res=.ok tr r0.1 f:=λbb res k=>⟨[],0,qq8 H3 hp mr3 (k:=0) (b:=bb) (List.length_pos_iff.mpr r00) (by rw[List.drop_zero];exact qj3 (.inl r00) (by omega) λz mz=>qfl (rW z mz)) (by unfold qbt;rw[List.take_zero];split<;>rfl) k⟩
 refine v_cut (λτ=>∃g:List Str,g≠[]/\g.length<=21/\(∀z∈g,nmB z=true)/\(∀(bb:Bool) (res:WR),PlaceTo ts [] (qcg bb g) 0 res->∃tr f,res=.ok tr g f)/\τ=[some (.val (.scr ns)),some (.val (.int a)),some (.val (.int b)),some (.val (.int m)),some (.val (qa4 (rs3.map prR))),some (.val (.lst (fs.map wayD))),some (.val (wayD r0.1)),some (.val (.int c2)),some (.val (wayD o)),some (.val (qaj ts)),some (.val (wayD g)),none,none,none,none,none,none,none]) ?_ λnx hnx=>?now
 case now =>
  dsimp! only[wayD]
  refine mx _ _ _ _ (by decide) (by decide) λc c0 c1=>?_
  rfl'
  refine nb _ _ _ c0 λz hz=>?_
  have wz:∀x∈o++[z],nmB x=true:=λx mx=>(List.mem_append.mp mx).elim (oQ.2 x) λq=>by rw[List.mem_singleton.mp q];exact hz
  have lz:(o++[z]).length=o.length+1:=by rw[List.length_append,List.length_singleton]
  rfl'
  refine⟨by decide,Nat.le_trans (show _<=1000 by omega) qao,hnx _ ⟨o++[z],by simp,by omega,wz,λbb res k=>?_,rfl⟩⟩
  exact qu4 H3 hp (over:=o) (oF3.imp id λq=>⟨(o,qai,qa1),q,rfl,rfl⟩) hz (b:=bb) (qj3 (.inl (by simp)) (by omega) λx mx=>qfl (wz x mx)) k
 rintro τ ⟨g,g0,gl,gW,pg,rfl⟩
 refine v_cut (λτ=>∃g:List Str,g≠[]/\g.length<=21/\(∀z∈g,nmB z=true)/\(∀(bb:Bool) (res:WR),PlaceTo ts [] (qcg bb g) 0 res->∃tr f,res=.ok tr g f)/\τ=[some (.val (.scr ns)),some (.val (.int a)),some (.val (.int b)),some (.val (.int m)),some (.val (qa4 (rs3.map prR))),some (.val (.lst (fs.map wayD))),some (.val (wayD r0.1)),some (.val (.int c2)),some (.val (wayD o)),some (.val (qaj ts)),some (.val (wayD g)),none,none,none,none,none,none,none]) ?_ λnx hnx=>?now
 case now =>
  rfl'
  refine mx _ _ _ _ (by decide) (by decide) λc c0 c1=>?_
  rfl'
  split
  ·exact hnx _ ⟨r0.1,r00,by omega,rW,pw,rfl⟩
  ·exact hnx _ ⟨g,g0,gl,gW,pg,rfl⟩
 clear pg gW gl g0 g
 rintro τ ⟨g,g0,gl,gW,pg,rfl⟩
 refine v_cut (λτ=>∃sy:Bool,τ=[some (.val (.scr ns)),some (.val (.int a)),some (.val (.int b)),some (.val (.int m)),some (.val (qa4 (rs3.map prR))),some (.val (.lst (fs.map wayD))),some (.val (wayD r0.1)),some (.val (.int c2)),some (.val (wayD o)),some (.val (qaj ts)),some (.val (wayD g)),some (.val (.bl sy)),none,none,none,none,none,none]) ?_ λnx hnx=>?now
 case now =>
  rfl'
  refine mx _ _ _ _ (by decide) (by decide) λc c0 c1=>?_
  rfl'
  exact hnx _ ⟨_,rfl⟩
 rintro τ ⟨sy,rfl⟩
 refine qca ?_
 rfl'
 obtain⟨key,ekey⟩:∃key:Str,key=if sy=true then ("copy" : Str) else ("move" : Str):=⟨_,rfl⟩
 have hk:key="move" \/ key="copy" := by
  rw[ekey]
  cases sy
  ·exact .inl rfl
  ·exact .inr rfl
 refine v_cut (λτ=>τ=[some (.val (.scr ns)),some (.val (.int a)),some (.val (.int b)),some (.val (.int m)),some (.val (qa4 (rs3.map prR))),some (.val (.lst (fs.map wayD))),some (.val (wayD r0.1)),some (.val (.int c2)),some (.val (wayD o)),some (.val (qaj ts)),some (.val (wayD g)),some (.val (.bl sy)),some (.val (.str key)),none,none,none,none,none]) ?_ λnx hnx=>?now
 case now =>
  rw[ekey] at hnx
  rfl'
  cases sy with
 |true=>exact iteT (hnx _ rfl)
 |false=>exact iteF (hnx _ rfl)
 rintro τ rfl
 have wr:∀(v:List Str) (bb:Bool) (Y:R->Prop),v.length<=40->(∀z∈v,nmB z=true)->Y (.val (.str (qcg bb v)))->qdh [wayD v,.bl bb] Y:=λv bb Y a b y=>⟨v,bb,rfl,a,λz mz=>qfl (b z mz),y⟩
 refine v_cut (λτ=>∃b1:Bool,τ=[some (.val (.scr ns)),some (.val (.int a)),some (.val (.int b)),some (.val (.int m)),some (.val (qa4 (rs3.map prR))),some (.val (.lst (fs.map wayD))),some (.val (wayD r0.1)),some (.val (.int c2)),some (.val (wayD o)),some (.val (qaj ts)),some (.val (wayD g)),some (.val (.bl sy)),some (.val (.str key)),some (.val (.str (qcg b1 r0.1))),none,none,none,none]) ?_ λnx hnx=>?now
 case now =>
  rfl'
  refine mx _ _ _ _ (by decide) (by decide) λc c0 c1=>?_
  rfl'
  refine wr r0.1 _ _ (by omega) rW ?_
  rfl'
  exact hnx _ ⟨_,rfl⟩
 rintro τ ⟨b1,rfl⟩
 refine v_cut (λτ=>∃b2:Bool,τ=[some (.val (.scr ns)),some (.val (.int a)),some (.val (.int b)),some (.val (.int m)),some (.val (qa4 (rs3.map prR))),some (.val (.lst (fs.map wayD))),some (.val (wayD r0.1)),some (.val (.int c2)),some (.val (wayD o)),some (.val (qaj ts)),some (.val (wayD g)),some (.val (.bl sy)),some (.val (.str key)),some (.val (.str (qcg b1 r0.1))),some (.val (qbk key (qcg b1 r0.1) (qcg b2 g))),none,none,none]) ?_ λnx hnx=>?now
 case now =>
  rfl'
  refine mx _ _ _ _ (by decide) (by decide) λc c0 c1=>?_
  rfl'
  refine wr g _ _ (by omega) gW ?_
  rfl'
  exact⟨by decide,hnx _ ⟨_,rfl⟩⟩
 rintro τ ⟨b2,rfl⟩
 have T:TwoP ts (qcg b1 r0.1) (qcg b2 g) r0.1 g r0.2:={
  ft:=F
  tl:=tl _ _ (by omega) λz mz=>qfl (rW z mz)
  ul:=tl _ _ (by omega) λz mz=>qfl (gW z mz)
  p1:=pw b1
  p2:=pg b2
  lv:=by rw[qc4 H3.nd hp];exact qdt H3.nd mr3 r00
  v0:=r00
  wl:=λr mr=>Nat.le_trans (H3.wy r (hp.mem_iff.mp mr)).1 (by decide)
  ne:=⟨λq=>qlc (qfl (rW _ q)) rfl,λq=>qlc (qfl (gW _ q)) rfl⟩
  len:=by omega
  gl:=by omega }
 refine v_cut (λτ=>τ=[some (.val (.scr ns)),some (.val (.int a)),some (.val (.int b)),some (.val (.int m)),some (.val (qa4 (rs3.map prR))),some (.val (.lst (fs.map wayD))),some (.val (wayD r0.1)),some (.val (.int c2)),some (.val (wayD o)),some (.val (qaj ts)),some (.val (wayD g)),some (.val (.bl sy)),some (.val (.str key)),some (.val (.str (qcg b1 r0.1))),some (.val (qbk key (qcg b1 r0.1) (qcg b2 g))),some (.val (qaj ts)),none,none]) ?_ λnx hnx=>?now
 case now =>
  dsimp! only[qaj]
  exact hnx _ rfl
 rintro τ rfl
 refine v_cut (λτ=>∃d,Res key ts r0.1 g r0.2 d/\τ=[some (.val (.scr ns)),some (.val (.int a)),some (.val (.int b)),some (.val (.int m)),some (.val (qa4 (rs3.map prR))),some (.val (.lst (fs.map wayD))),some (.val (wayD r0.1)),some (.val (.int c2)),some (.val (wayD o)),some (.val (qaj ts)),some (.val (wayD g)),some (.val (.bl sy)),some (.val (.str key)),some (.val (.str (qcg b1 r0.1))),some (.val (qbk key (qcg b1 r0.1) (qcg b2 g))),some (.val (qaj ts)),some (.val d),none]) ?_ λnx hnx=>?now
 case now =>
  have du:∀Y:R->Prop,(∀d,Res key ts r0.1 g r0.2 d->Y (.val d))->qq5 [qaj ts,wayD r0.1,wayD g,.bl sy] Y:=λY y=>⟨ts,r0.1,g,r0.2,sy,rfl,F.nd,by omega,T.wl,hp.mem_iff.mpr mr3,g0,by omega,λe r mr=>qx0 H3 hp e r mr,by rw[←ekey];exact y⟩
  rfl'
  refine du _ λd hd=>?_
  rfl'
  exact hnx _ ⟨d,hd,rfl⟩
 rintro τ ⟨d,hd,rfl⟩
 refine v_cut (λτ=>τ=[some (.val (.scr ns)),some (.val (.int a)),some (.val (.int b)),some (.val (.int m)),some (.val (qa4 (rs3.map prR))),some (.val (.lst (fs.map wayD))),some (.val (wayD r0.1)),some (.val (.int c2)),some (.val (wayD o)),some (.val (qaj ts)),some (.val (wayD g)),some (.val (.bl sy)),some (.val (.str key)),some (.val (.str (qcg b1 r0.1))),some (.val (qbk key (qcg b1 r0.1) (qcg b2 g))),some (.val (qaj ts)),some (.val d),some (.val d)]) ?_ λnx hnx=>?now
 case now =>
  have as:∀Y:R->Prop,(∀d,Res key ts r0.1 g r0.2 d->Y (.val d))->qgc [qaj ts,qbk key (qcg b1 r0.1) (qcg b2 g)] Y:=λY y=>⟨ts,key,_,_,r0.1,g,r0.2,rfl,hk,T,y⟩
  rfl'
  refine as _ λd' hd'=>?_
  rw[qkt hd' hd]
  rfl'
  exact hnx _ rfl
 rintro τ rfl
 have hd3:=qy0 (by omega) hd
 refine qed (λc=>c=false) (λY y=>?t1) (λhb=>absurd hb (by decide)) λ_=>?n1
 case t1 =>
  have e1:∃(z:Str) (x:D),d=.tup [.str z,x]:=by
   rcases hd3 with ⟨n,_,rfl⟩|⟨us,rfl,_⟩
   ·exact⟨_,_,rfl⟩
   ·exact⟨_,_,rfl⟩
  obtain⟨z,x,rfl⟩:=e1
  rfl'
  refine⟨q77 ts ts,Nat.le_trans (q78 ts) (by decide),?_⟩
  rw[qdb]
  exact y _ rfl
 case n1 =>
 rcases hd3 with ⟨n,hn,rfl⟩|⟨us,rfl,hul⟩
 ·have tk:∀Y:R->Prop,Y (.val (.bl true))->qge [qaj ts,qbk key (qcg b1 r0.1) (qcg b2 g)] Y:=λY y=>⟨ts,key,_,_,r0.1,g,r0.2,n,rfl,hk,T,hd,y⟩
  have nz:¬ n=Str.ofString "" := λe=>by subst e;revert hn;decide
  refine qed (λc=>c=true) (λY y=>?t2) (λ_=>?y2) λhb=>absurd hb (by decide)
  case t2 =>
   dsimp! only[askD]
   exact y _ (by rw[decide_eq_false nz];rfl)
  case y2 =>
   rfl'
   refine tk _ ?_
   rfl'
   exact h
 ·have sa:∀Y:R->Prop,Y (.val (.bl true))->g_same [qaj us,qaj us] Y:=λY y=>⟨us,rfl,hul,y⟩
  have dn:∀Y:R->Prop,Y (.val (qaj us))->qeg [qaj ts,qbk key (qcg b1 r0.1) (qcg b2 g)] Y:=λY y=>⟨ts,key,_,_,r0.1,g,r0.2,rfl,hk,T,qvi hk (λn hn k=>by
   have:=qkt k hd
   unfold okD askD qaj at this
   simp at this) λus' k=>by
   have:=qkt k hd
   unfold okD at this
   rw[D.tup.injEq,List.cons.injEq,List.cons.injEq] at this
   rw[this.2.1]
   exact y⟩
  refine qed (λc=>c=false) (λY y=>?t2) (λhb=>absurd hb (by decide)) λ_=>?n2
  case t2 =>
   dsimp! only[okD]
   exact y _ rfl
  case n2 =>
   dsimp! only[okD]
   refine sa _ ?_
   rfl'
   refine dn _ ?_
   rfl'
   refine sa _ ?_
   rfl'
   exact h
theorem q5e{K:PySem.W.Frag}{H:Hp}{a:Addr}(ns:List Int)(_:ns.length<=63)(hS:SqL K H a (ns.map V.int)){E:XK}:spOf K qnx [.ref a] H (λv _=>v=.bl true) E:=qzb ⟨ns,rfl,rfl⟩ hS
def top(i:Nat):Stmt:=PySem.Challenge.pw_glasslayers_k62_moved_and_copied.main.body.getD i (.Pass ⟨0,0,0,0⟩)
abbrev qfx:Stmt:=top 16
abbrev qow:Stmt:=top 18
abbrev qeq:Stmt:=top 19
abbrev qin:Stmt:=top 20
abbrev qik:Stmt:=top 23
abbrev qe9:Stmt:=top 24
abbrev qvl:Stmt:=top 25
abbrev qgg:Stmt:=top 27
abbrev qqb:Stmt:=top 29
abbrev qf0:Stmt:=top 30
abbrev qfy:Stmt:=top 31
abbrev qii:Stmt:=top 32
abbrev qcz:Stmt:=top 36
abbrev qdu:Stmt:=top 37
abbrev qih:Stmt:=top 38
abbrev qfm:Stmt:=top 41
abbrev qgk:Stmt:=top 42
abbrev qgj:Stmt:=top 45
abbrev qgh:Stmt:=top 46
abbrev qvm:Stmt:=top 47
abbrev qkv:Stmt:=top 50
abbrev qgi:Stmt:=top 51
abbrev qdv:Stmt:=top 55
abbrev qec:Stmt:=top 56
abbrev qif:Stmt:=top 63
abbrev qb0:Stmt:=top 64
abbrev qbz:Stmt:=top 65
abbrev qep:Stmt:=top 67
abbrev qvk:Stmt:=top 68
abbrev qig:Stmt:=top 70
abbrev qku:Stmt:=top 71
abbrev qoy:Stmt:=top 72
abbrev qim:Stmt:=top 73
abbrev qil:Stmt:=top 74
abbrev qij:Stmt:=top 75
abbrev qfz:Stmt:=top 76
abbrev s_same:Stmt:=top 77
abbrev qo0:Stmt:=top 78
abbrev qio:Stmt:=top 79
abbrev q3m:Stmt:=top 80
abbrev qox:Stmt:=top 81
abbrev qoz:Stmt:=top 82
abbrev q3l:Stmt:=top 83
abbrev qi9:Stmt:=top 84
structure Blt(K:PySem.W.Frag)(mg:Str->Option Value)(cGlassError:Addr)(cNoWay:Addr)(cMissing:Addr)(cNotFolder:Addr)(cNoPlace:Addr)(cAstray:Addr)(cIsThere:Addr)(cInItself:Addr)(cTooDeep:Addr)(cCrowded:Addr):Prop where
 GlassError:mg "GlassError" = some (.ref cGlassError)
 k_GlassError:clsOf K "GlassError" cGlassError
 NoWay:mg "NoWay" = some (.ref cNoWay)
 k_NoWay:clsOf K "NoWay" cNoWay
 Missing:mg "Missing" = some (.ref cMissing)
 k_Missing:clsOf K "Missing" cMissing
 NotFolder:mg "NotFolder" = some (.ref cNotFolder)
 k_NotFolder:clsOf K "NotFolder" cNotFolder
 NoPlace:mg "NoPlace" = some (.ref cNoPlace)
 k_NoPlace:clsOf K "NoPlace" cNoPlace
 Astray:mg "Astray" = some (.ref cAstray)
 k_Astray:clsOf K "Astray" cAstray
 IsThere:mg "IsThere" = some (.ref cIsThere)
 k_IsThere:clsOf K "IsThere" cIsThere
 InItself:mg "InItself" = some (.ref cInItself)
 k_InItself:clsOf K "InItself" cInItself
 TooDeep:mg "TooDeep" = some (.ref cTooDeep)
 k_TooDeep:clsOf K "TooDeep" cTooDeep
 Crowded:mg "Crowded" = some (.ref cCrowded)
 k_Crowded:clsOf K "Crowded" cCrowded
 x_NoWay:OwnX K cNoWay
 ek_NoWay:ExcK K cNoWay
 x_TooDeep:OwnX K cTooDeep
 ek_TooDeep:ExcK K cTooDeep
 x_Crowded:OwnX K cCrowded
 ek_Crowded:ExcK K cCrowded
 x_Astray:OwnX K cAstray
 ek_Astray:ExcK K cAstray
 x_Missing:OwnX K cMissing
 ek_Missing:ExcK K cMissing
 x_NotFolder:OwnX K cNotFolder
 ek_NotFolder:ExcK K cNotFolder
 x_NoPlace:OwnX K cNoPlace
 ek_NoPlace:ExcK K cNoPlace
 x_IsThere:OwnX K cIsThere
 ek_IsThere:ExcK K cIsThere
 x_InItself:OwnX K cInItself
 ek_InItself:ExcK K cInItself
 m_NoWay_Crowded:PySem.W.exmOne K (.ref cNoWay) (.ref cCrowded)=some false
 m_TooDeep_Crowded:PySem.W.exmOne K (.ref cTooDeep) (.ref cCrowded)=some false
 m_Crowded_Crowded:PySem.W.exmOne K (.ref cCrowded) (.ref cCrowded)=some true
 m_Astray_Crowded:PySem.W.exmOne K (.ref cAstray) (.ref cCrowded)=some false
 m_Missing_Crowded:PySem.W.exmOne K (.ref cMissing) (.ref cCrowded)=some false
 m_NotFolder_Crowded:PySem.W.exmOne K (.ref cNotFolder) (.ref cCrowded)=some false
 m_NoPlace_Crowded:PySem.W.exmOne K (.ref cNoPlace) (.ref cCrowded)=some false
 m_IsThere_Crowded:PySem.W.exmOne K (.ref cIsThere) (.ref cCrowded)=some false
 m_InItself_Crowded:PySem.W.exmOne K (.ref cInItself) (.ref cCrowded)=some false
 m_NoWay_TooDeep:PySem.W.exmOne K (.ref cNoWay) (.ref cTooDeep)=some false
 m_TooDeep_TooDeep:PySem.W.exmOne K (.ref cTooDeep) (.ref cTooDeep)=some true
 m_Crowded_TooDeep:PySem.W.exmOne K (.ref cCrowded) (.ref cTooDeep)=some false
 m_Astray_TooDeep:PySem.W.exmOne K (.ref cAstray) (.ref cTooDeep)=some false
 m_Missing_TooDeep:PySem.W.exmOne K (.ref cMissing) (.ref cTooDeep)=some false
 m_NotFolder_TooDeep:PySem.W.exmOne K (.ref cNotFolder) (.ref cTooDeep)=some false
 m_NoPlace_TooDeep:PySem.W.exmOne K (.ref cNoPlace) (.ref cTooDeep)=some false
 m_IsThere_TooDeep:PySem.W.exmOne K (.ref cIsThere) (.ref cTooDeep)=some false
 m_InItself_TooDeep:PySem.W.exmOne K (.ref cInItself) (.ref cTooDeep)=some false
 m_NoWay_IsThere:PySem.W.exmOne K (.ref cNoWay) (.ref cIsThere)=some false
 m_TooDeep_IsThere:PySem.W.exmOne K (.ref cTooDeep) (.ref cIsThere)=some false
 m_Crowded_IsThere:PySem.W.exmOne K (.ref cCrowded) (.ref cIsThere)=some false
 m_Astray_IsThere:PySem.W.exmOne K (.ref cAstray) (.ref cIsThere)=some false
 m_Missing_IsThere:PySem.W.exmOne K (.ref cMissing) (.ref cIsThere)=some false
 m_NotFolder_IsThere:PySem.W.exmOne K (.ref cNotFolder) (.ref cIsThere)=some false
 m_NoPlace_IsThere:PySem.W.exmOne K (.ref cNoPlace) (.ref cIsThere)=some false
 m_IsThere_IsThere:PySem.W.exmOne K (.ref cIsThere) (.ref cIsThere)=some true
 m_InItself_IsThere:PySem.W.exmOne K (.ref cInItself) (.ref cIsThere)=some false
 m_NoWay_InItself:PySem.W.exmOne K (.ref cNoWay) (.ref cInItself)=some false
 m_TooDeep_InItself:PySem.W.exmOne K (.ref cTooDeep) (.ref cInItself)=some false
 m_Crowded_InItself:PySem.W.exmOne K (.ref cCrowded) (.ref cInItself)=some false
 m_Astray_InItself:PySem.W.exmOne K (.ref cAstray) (.ref cInItself)=some false
 m_Missing_InItself:PySem.W.exmOne K (.ref cMissing) (.ref cInItself)=some false
 m_NotFolder_InItself:PySem.W.exmOne K (.ref cNotFolder) (.ref cInItself)=some false
 m_NoPlace_InItself:PySem.W.exmOne K (.ref cNoPlace) (.ref cInItself)=some false
 m_IsThere_InItself:PySem.W.exmOne K (.ref cIsThere) (.ref cInItself)=some false
 m_InItself_InItself:PySem.W.exmOne K (.ref cInItself) (.ref cInItself)=some true
 m_NoWay_GlassError:PySem.W.exmOne K (.ref cNoWay) (.ref cGlassError)=some true
 m_TooDeep_GlassError:PySem.W.exmOne K (.ref cTooDeep) (.ref cGlassError)=some true
 m_Crowded_GlassError:PySem.W.exmOne K (.ref cCrowded) (.ref cGlassError)=some true
 m_Astray_GlassError:PySem.W.exmOne K (.ref cAstray) (.ref cGlassError)=some true
 m_Missing_GlassError:PySem.W.exmOne K (.ref cMissing) (.ref cGlassError)=some true
 m_NotFolder_GlassError:PySem.W.exmOne K (.ref cNotFolder) (.ref cGlassError)=some true
 m_NoPlace_GlassError:PySem.W.exmOne K (.ref cNoPlace) (.ref cGlassError)=some true
 m_IsThere_GlassError:PySem.W.exmOne K (.ref cIsThere) (.ref cGlassError)=some true
 m_InItself_GlassError:PySem.W.exmOne K (.ref cInItself) (.ref cGlassError)=some true
 o_NoWay_NotFolder:PySem.W.kitOne K (.ref cNoWay) (.ref cNotFolder)=some false
 o_TooDeep_NotFolder:PySem.W.kitOne K (.ref cTooDeep) (.ref cNotFolder)=some false
 o_Crowded_NotFolder:PySem.W.kitOne K (.ref cCrowded) (.ref cNotFolder)=some false
 o_Astray_NotFolder:PySem.W.kitOne K (.ref cAstray) (.ref cNotFolder)=some false
 o_Missing_NotFolder:PySem.W.kitOne K (.ref cMissing) (.ref cNotFolder)=some false
 o_NotFolder_NotFolder:PySem.W.kitOne K (.ref cNotFolder) (.ref cNotFolder)=some true
 o_NoPlace_NotFolder:PySem.W.kitOne K (.ref cNoPlace) (.ref cNotFolder)=some false
 o_IsThere_NotFolder:PySem.W.kitOne K (.ref cIsThere) (.ref cNotFolder)=some false
 o_InItself_NotFolder:PySem.W.kitOne K (.ref cInItself) (.ref cNotFolder)=some false
 i_NoWay_ValueError:PySem.W.kitOne K (.ref cNoWay) (.type "ValueError")=some true
 i_TooDeep_ValueError:PySem.W.kitOne K (.ref cTooDeep) (.type "ValueError")=some true
 i_Crowded_ValueError:PySem.W.kitOne K (.ref cCrowded) (.type "ValueError")=some true
 i_Astray_ValueError:PySem.W.kitOne K (.ref cAstray) (.type "ValueError")=some true
 i_Missing_ValueError:PySem.W.kitOne K (.ref cMissing) (.type "ValueError")=some true
 i_NotFolder_ValueError:PySem.W.kitOne K (.ref cNotFolder) (.type "ValueError")=some true
 i_NoPlace_ValueError:PySem.W.kitOne K (.ref cNoPlace) (.type "ValueError")=some true
 i_IsThere_ValueError:PySem.W.kitOne K (.ref cIsThere) (.type "ValueError")=some true
 i_InItself_ValueError:PySem.W.kitOne K (.ref cInItself) (.type "ValueError")=some true
 ValueError:mg "ValueError" = none
 all:mg "all" = none
 isinstance:mg "isinstance" = none
 len:mg "len" = none
 list:mg "list" = none
 max:mg "max" = none
 range:mg "range" = none
 sorted:mg "sorted" = none
 str:mg "str" = none
 tuple:mg "tuple" = none
 g_NAME_SIGNS:∃t,mg "NAME_SIGNS" = some (Value.str ("abcdefghijklmnopqrstuvwxyz0123456789" : Str) t)
 g_LONGEST_NAME:∃t,mg "LONGEST_NAME" = some (Value.int 12 t)
 g_MOST_WORDS:∃t,mg "MOST_WORDS" = some (Value.int 40 t)
 g_MOST_NAMES:∃t,mg "MOST_NAMES" = some (Value.int 12 t)
 g_MOST_ENTRIES:∃t,mg "MOST_ENTRIES" = some (Value.int 60 t)
 g_ROOT_THING:∃ad,mg "ROOT_THING" = some (.ref ad)/\SqT K (λ_=>none) ad ([("folder" : Str),("" : Str)].map V.str)
 g_MOST_LINKS:∃t,mg "MOST_LINKS" = some (Value.int 8 t)
section
variable {P:Program} {w:World} {K:PySem.W.Frag} {mg:Str->Option Value} {base:Heap} {f:Addr} {fd:FuncData} {cGlassError:Addr} {cNoWay:Addr} {cMissing:Addr} {cNotFolder:Addr} {cNoPlace:Addr} {cAstray:Addr} {cIsThere:Addr} {cInItself:Addr} {cTooDeep:Addr} {cCrowded:Addr}
theorem qru:FnScope ["_law_script","_law_k"] ["_law_script","_law_k"] (qaf qig):=⟨rfl,rfl,rfl,by decide +kernel,rfl,by decide +kernel,by decide +kernel⟩
theorem qrf(F:Fun K "_law_cell_at" "_law_cell_at" qig f fd)(B:Blt K mg cGlassError cNoWay cMissing cNotFolder cNoPlace cAstray cIsThere cInItself cTooDeep cCrowded):FnOk P w K mg base CX0 1 f fd ["_law_script","_law_k"] (spOf K qb2) :=
 F.okV qru qn0 λcdv A outer s H E hr=>⟨qhf,(qab (qbg (qay q7w (vv 1) (qbq qbc rfl B.len PyProof.Rows.Boot.«len» (vv 0)))
   (qag (qaq (qa5 qar (vv 0) (vv 1))))
   qan)
  (qag (qaq qad))),qwh⟩
theorem sc_mixed:FnScope ["_law_cell","_law_turn","_law_many","_law_by","_law_prime"] ["_law_cell","_law_turn","_law_many"] (qaf qoy):=⟨rfl,rfl,rfl,by decide +kernel,rfl,by decide +kernel,by decide +kernel⟩
theorem qx9(F:Fun K "_law_mixed" "_law_mixed" qoy f fd)(B:Blt K mg cGlassError cNoWay cMissing cNotFolder cNoPlace cAstray cIsThere cInItself cTooDeep cCrowded):FnOk P w K mg base CX0 1 f fd ["_law_cell","_law_turn","_law_many"] (spOf K qa3) :=
 F.okV sc_mixed qud λcdv A outer s H E hr=>⟨qs4,(qab (qam (i:=3) sc_mixed.nd rfl (Or.inl rfl) (qa0 (vac qad (vac qad (vac qad (vac qad (vac qad (vac qad (vac qad (vac qad qae))))))))))
  (qab (qam (i:=4) sc_mixed.nd rfl (Or.inl rfl) (qa0 (vac qad (vac qad (vac qad (vac qad (vac qad (vac qad (vac qad (vac qad qae))))))))))
  (qag (qaq (qa2 qdj (qa2 qdj (qa2 qv9 (qa2 qa7 (qa2 qdj (vv 0) (qa2 q0s qad qad)) qad) (qa5 qar (vv 3) (qa2 qdj (vv 1) qad))) (qa5 qar (vv 4) (qa2 qdj (vv 1) qad))) (vv 2)))))),q4c⟩
theorem sc_name_by:FnScope ["_law_stem","_law_v","_law_signs","_law_size","_law_spot","_law_name","_law_k","_law_turn"] ["_law_stem","_law_v"] (qaf qim):=⟨rfl,rfl,rfl,by decide +kernel,rfl,by decide +kernel,by decide +kernel⟩
theorem qrm(F:Fun K "_law_name_by" "_law_name_by" qim f fd)(B:Blt K mg cGlassError cNoWay cMissing cNotFolder cNoPlace cAstray cIsThere cInItself cTooDeep cCrowded):FnOk P w K mg base CX0 1 f fd ["_law_stem","_law_v"] (spOf K qbs) :=
 F.okV sc_name_by qn7 λcdv A outer s H E hr=>⟨qli,(qab (qam (i:=2) sc_name_by.nd rfl (Or.inl rfl) qap)
  (qab (qam (i:=3) sc_name_by.nd rfl (Or.inl rfl) (qa2 qa7 qad (qa2 qdj (vv 0) qad)))
  (qab (qam (i:=4) sc_name_by.nd rfl (Or.inl rfl) (qa2 qdj (qa2 qm0 (vv 0) qad) (vv 3)))
  (qab (qam (i:=5) sc_name_by.nd rfl (Or.inl rfl) qap)
  (qab (qiz PassesOwn.never rfl (qpg rfl B.range (vv 3)) (qba (i:=6) sc_name_by.nd rfl (Or.inl rfl))
   (qab (qam (i:=7) sc_name_by.nd rfl (Or.inl rfl) (qa2 qa7 (qa2 qm0 (vv 0) qad) (qa2 qv9 (vv 6) (qa2 qdj (qa2 qm0 (vv 0) qad) qad))))
  (qab (qbg (qay (qcc hr.units) (vv 6) (vv 4))
   (qag (qam (i:=7) sc_name_by.nd rfl (Or.inl rfl) (qa2 qa7 (vv 7) (vv 1))))
   qan)
  (qag (qam (i:=5) sc_name_by.nd rfl (Or.inl rfl) (qa2 qa7 (vv 5) (qa5 qar (vv 2) (qa2 qdj (vv 7) qad))))))))
  (qab (qbg (vw_t (qg1 (qay (qcc hr.units) (qa2 qdj (qa2 qm0 (vv 0) qad) qad) qad) (qe0 (qay (qcc hr.units) (qa2 qdj (vv 1) qad) qad))))
   (qag (qam (i:=5) sc_name_by.nd rfl (Or.inl rfl) (qdn (vv 5) qew (qex (qa2 qa7 qad (qa2 qdj (vv 1) (vv 3)))))))
   qan)
  (qag (qaq (vv 5))))))))),qwo⟩
theorem sc_link_by:FnScope ["_law_ways","_law_over","_law_cell","_law_name","_law_kind","_law_some","_law_to"] ["_law_ways","_law_over","_law_cell","_law_name"] (qaf qil):=⟨rfl,rfl,rfl,by decide +kernel,rfl,by decide +kernel,by decide +kernel⟩
theorem qrl(F:Fun K "_law_link_by" "_law_link_by" qil f fd)(B:Blt K mg cGlassError cNoWay cMissing cNotFolder cNoPlace cAstray cIsThere cInItself cTooDeep cCrowded)(Cmixed:Cal P w K mg base 1 "_law_mixed" ["_law_cell","_law_turn","_law_many"] (spOf K qa3)):FnOk P w K mg base CX0 2 f fd ["_law_ways","_law_over","_law_cell","_law_name"] (spOf K qdz) :=
 F.okV sc_link_by qn6 λcdv A outer s H E hr=>⟨qlh,(qab (qam (i:=4) sc_link_by.nd rfl (Or.inl rfl) (qal Cmixed (hr.mono (by decide)) rfl (vac (vv 2) (vac qad (vac qad qae)))))
  (qab (qbg (vw_t (qgs (qay qjc (vv 4) qad) (qe1 (qay (qcc hr.units) (qbq qbc rfl B.len PyProof.Rows.Boot.«len» (vv 0)) qad))))
   (qab (qam (i:=5) sc_link_by.nd rfl (Or.inl rfl) (qa0 (vac qap (vac qap (vac qap (vac (vv 3) (vac (qa2 qa7 qap (vv 3)) (vac (qa2 qa7 (qa2 qa7 qap (vv 3)) qap) qae))))))))
  (qag (qaq (qa5 qar (vv 5) (qal Cmixed (hr.mono (by decide)) rfl (vac (vv 2) (vac qad (vac qad qae))))))))
   qan)
  (qab (qam (i:=6) sc_link_by.nd rfl (Or.inl rfl) (qpe qap (qa5 qar (vv 0) (qal Cmixed (hr.mono (by decide)) rfl (vac (vv 2) (vac qad (vac (qbq qbc rfl B.len PyProof.Rows.Boot.«len» (vv 0)) qae)))))))
  (qab (qbg (qay (qcc hr.units) (vv 4) qad)
   (qag (qaq (qa2 qa7 (qa2 q37 qap (qbq qbc rfl B.len PyProof.Rows.Boot.«len» (vv 1))) (vv 6))))
   qan)
  (qag (qaq (qa2 qa7 qap (vv 6)))))))),qwn⟩
theorem sc_hall_by:FnScope ["_law_cells_here","_law_stem","_law_wide","_law_things","_law_folders","_law_cell","_law_over","_law_name","_law_way","_law_mark"] ["_law_cells_here","_law_stem"] (qaf qij):=⟨rfl,rfl,rfl,by decide +kernel,rfl,by decide +kernel,by decide +kernel⟩
theorem qri(F:Fun K "_law_hall_by" "_law_hall_by" qij f fd)(B:Blt K mg cGlassError cNoWay cMissing cNotFolder cNoPlace cAstray cIsThere cInItself cTooDeep cCrowded)(Cmixed:Cal P w K mg base 1 "_law_mixed" ["_law_cell","_law_turn","_law_many"] (spOf K qa3))(Cname_by:Cal P w K mg base 1 "_law_name_by" ["_law_stem","_law_v"] (spOf K qbs))(Clink_by:Cal P w K mg base 2 "_law_link_by" ["_law_ways","_law_over","_law_cell","_law_name"] (spOf K qdz)):FnOk P w K mg base CX0 3 f fd ["_law_cells_here","_law_stem"] (spOf K qdy) :=
 F.okV sc_hall_by qn3 λcdv A outer s H E hr=>⟨qhh,(qab (qam (i:=2) sc_hall_by.nd rfl (Or.inl rfl) (qa2 qa7 qad (qa2 qdj (qa2 qm0 (vv 1) qad) qad)))
  (qab (qey (i:=3) sc_hall_by.nd rfl (Or.inl rfl) qzj)
  (qab (qey (i:=4) sc_hall_by.nd rfl (Or.inl rfl) (qej (vac (qa0 qae) qae)))
  (qab (qiz PassesOwn.never rfl (qeu (vv 0)) (qba (i:=5) sc_hall_by.nd rfl (Or.inl rfl))
   (qab (qam (i:=6) sc_hall_by.nd rfl (Or.inl rfl) (qa5 qar (vv 4) (qal Cmixed (hr.mono (by decide)) rfl (vac (vv 5) (vac qad (vac (qbq qbc rfl B.len PyProof.Rows.Boot.«len» (vv 4)) qae))))))
  (qab (qbg (qay (qcc hr.units) (qal Cmixed (hr.mono (by decide)) rfl (vac (vv 5) (vac qad (vac qad qae)))) qad)
   (qag (qam (i:=6) sc_hall_by.nd rfl (Or.inl rfl) (qa5 qar (vv 4) (qmx qad))))
   qan)
  (qab (qam (i:=7) sc_hall_by.nd rfl (Or.inl rfl) (qal Cname_by (hr.mono (by decide)) rfl (vac (vv 1) (vac (qal Cmixed (hr.mono (by decide)) rfl (vac (vv 5) (vac qad (vac (vv 2) qae)))) qae))))
  (qab (qam (i:=8) sc_hall_by.nd rfl (Or.inl rfl) (qa2 qa7 (vv 6) (qa0 (vac (vv 7) qae))))
  (qag (qbg (vw_t (qg1 (qwe hr.dict (vv 8) (vv 3)) (qe0 (qay q7w (qbq qbc rfl B.len PyProof.Rows.Boot.«len» (vv 8)) qad))))
   (qab (qam (i:=9) sc_hall_by.nd rfl (Or.inl rfl) (qa5 qar (qa0 (vac qap (vac qap (vac qap (vac qap (vac qap qae)))))) (qal Cmixed (hr.mono (by decide)) rfl (vac (vv 5) (vac qad (vac qad qae))))))
  (qab (qk8 3 hr.dict (vv 8) (qa0 (vac (vv 9) (vac qap qae))))
  (qab (qbg (qay (qcc hr.units) (vv 9) qap)
   (qag (qk8 3 hr.dict (vv 8) (qa0 (vac (vv 9) (vac (qal Clink_by (hr.mono (by decide)) rfl (vac (qsg (qk4 hr.hd) rfl B.list PyProof.Rows.Boot.«list» (vv 3)) (vac (vv 6) (vac (vv 5) (vac (vv 7) qae))))) qae)))))
   qan)
  (qab (qbg (qay (qcc hr.units) (vv 9) qap)
   (qag (qk8 3 hr.dict (vv 8) (qa0 (vac (vv 9) (vac (qa2 qa7 (qa2 qa7 (vv 7) qap) (qsg q7t rfl B.str PyProof.Rows.Boot.«str» (qa2 qdj (vv 5) (qa2 q0s qad qad)))) qae)))))
   qan)
  (qag (qbg (qay (qcc hr.units) (vv 9) qap)
   (qag (qf3 4 (vv 8)))
   qan))))))
   qan)))))))
  (qag (qwb 3)))))),qwk⟩
theorem qy7:FnScope ["_law_script","_law_first","_law_step","_law_many"] ["_law_script","_law_first","_law_step","_law_many"] (qaf qku):=⟨rfl,rfl,rfl,by decide +kernel,rfl,by decide +kernel,by decide +kernel⟩
theorem qls:CompScope (qaf qku) ["_law_script","_law_first","_law_step","_law_many"] ["_law_script","_law_first","_law_step","_law_many","_law_k"] ["_law_k"] ({ kind:=PySem.ScopeKind.function,names:=[ (PySem.Str.ofString ".0",PySem.NameKind.local),(PySem.Str.ofString "_law_k",PySem.NameKind.local),(PySem.Str.ofString "_law_cell_at",PySem.NameKind.globalImplicit),(PySem.Str.ofString "_law_first",PySem.NameKind.free),(PySem.Str.ofString "_law_script",PySem.NameKind.free),(PySem.Str.ofString "_law_step",PySem.NameKind.free)],isGenerator:=false,isCoroutine:=false,more:=[]:PySem.Scope }):=⟨rfl,by decide +kernel,by decide +kernel,by decide +kernel,by decide +kernel,rfl,by decide +kernel⟩
theorem qx8(F:Fun K "_law_cells" "_law_cells" qku f fd)(B:Blt K mg cGlassError cNoWay cMissing cNotFolder cNoPlace cAstray cIsThere cInItself cTooDeep cCrowded)(Ccell_at:Cal P w K mg base 1 "_law_cell_at" ["_law_script","_law_k"] (spOf K qb2)):FnOk P w K mg base CX0 2 f fd ["_law_script","_law_first","_law_step","_law_many"] (spOf K qgd) :=
 F.okV qy7 quc λcdv A outer s H E hr=>⟨qm9,(qag (qaq (vc_e (qee (M:=["_law_k"]) (qpg rfl B.range (vv 3)) rfl qls (λcl C s2 H2 fp pn=>(qba (i:=4) (qls).nd rfl (Or.inl rfl))) (λcl C s2 H2 fp pn=>qgr) (λcl C s2 H2 fp pn=>(qa2 qa7 (qal Ccell_at (hr.mono (by decide)) rfl (vac (vv 0) (vac (qa2 qa7 (vv 1) (qa2 qv9 (vv 2) (vv 4))) qae))) (vv 4))))))),q4b⟩
theorem sc_dug:FnScope ["_law_things","_law_over","_law_deep","_law_stem","_law_k","_law_way"] ["_law_things","_law_over","_law_deep","_law_stem"] (qaf q3m):=⟨rfl,rfl,rfl,by decide +kernel,rfl,by decide +kernel,by decide +kernel⟩
theorem q5j(F:Fun K "_law_dug" "_law_dug" q3m f fd)(B:Blt K mg cGlassError cNoWay cMissing cNotFolder cNoPlace cAstray cIsThere cInItself cTooDeep cCrowded)(Cname_by:Cal P w K mg base 1 "_law_name_by" ["_law_stem","_law_v"] (spOf K qbs)):FnOk P w K mg base CX0 2 f fd ["_law_things","_law_over","_law_deep","_law_stem"] (qr5 K qnw 0) :=
 F.okJ (k:=0) sc_dug q1o λcdv A outer s H E hr=>⟨q03,(qab (qiz PassesOwn.never rfl (q35 rfl B.range (qbq qbc rfl B.len PyProof.Rows.Boot.«len» (vv 1)) (vv 2)) (qba (i:=4) sc_dug.nd rfl (Or.inl rfl))
   (qab (qam (i:=5) sc_dug.nd rfl (Or.inl rfl) (qa2 qa7 (vv 1) (qa0 (vac (qal Cname_by (hr.mono (by decide)) rfl (vac (vv 3) (vac (qa2 qa7 qad (qa2 qdj (vv 4) qad)) qae))) qae))))
  (qab (qbg (vw_t (qg1 (q7x hr.dict (vv 5) (vvIT 0)) (qe0 (qay (qev hr.units) (qa5 qar (qgp hr.dict (vvIT 0) (vv 5)) qad) qap))))
   (qag (qwa (vv 1)))
   qan)
  (qab (qzp 0 hr.dict (vv 5) (qa0 (vac qap (vac qap qae))))
  (qag (qam (i:=1) sc_dug.nd rfl (Or.inl rfl) (vv 5)))))))
  (qag (qwa (vv 1)))),q9e⟩
theorem qr0:FnScope ["_law_things"] ["_law_things"] (qaf qfz):=⟨rfl,rfl,rfl,by decide +kernel,rfl,by decide +kernel,by decide +kernel⟩
theorem qhp:CompScope (qaf qfz) ["_law_things"] ["_law_things","_law_way"] ["_law_way"] ({ kind:=PySem.ScopeKind.function,names:=[ (PySem.Str.ofString ".0",PySem.NameKind.local),(PySem.Str.ofString "_law_way",PySem.NameKind.local),(PySem.Str.ofString "_law_things",PySem.NameKind.free)],isGenerator:=false,isCoroutine:=false,more:=[]:PySem.Scope }):=⟨rfl,by decide +kernel,by decide +kernel,by decide +kernel,by decide +kernel,rfl,by decide +kernel⟩
theorem qrp(F:Fun K "_law_tree_of" "_law_tree_of" qfz f fd)(B:Blt K mg cGlassError cNoWay cMissing cNotFolder cNoPlace cAstray cIsThere cInItself cTooDeep cCrowded):FnOk P w K mg base CX0 1 f fd ["_law_things"] (spOf K qd1) :=
 F.okV qr0 qoa λcdv A outer s H E hr=>⟨qhm,(qag (qaq (vc_e (qee (M:=["_law_way"]) (qeu (qbq (qix hr.units) rfl B.sorted PyProof.Rows.Boot.«sorted» (qsg (qk4 hr.hd) rfl B.list PyProof.Rows.Boot.«list» (vv 0)))) rfl qhp (λcl C s2 H2 fp pn=>(qba (i:=1) (qhp).nd rfl (Or.inl rfl))) (λcl C s2 H2 fp pn=>qgr) (λcl C s2 H2 fp pn=>(qa0 (vac (vv 1) (vac (qa5 qar (qgp hr.dict (vv 0) (vv 1)) qad) (vac (qa5 qar (qgp hr.dict (vv 0) (vv 1)) qad) qae))))))))),qwr⟩
theorem qr2:FnScope ["_law_way","_law_rooted"] ["_law_way","_law_rooted"] (qaf qio):=⟨rfl,rfl,rfl,by decide +kernel,rfl,by decide +kernel,by decide +kernel⟩
theorem qrr(F:Fun K "_law_written" "_law_written" qio f fd)(B:Blt K mg cGlassError cNoWay cMissing cNotFolder cNoPlace cAstray cIsThere cInItself cTooDeep cCrowded):FnOk P w K mg base CX0 1 f fd ["_law_way","_law_rooted"] (spOf K qdh) :=
 F.okV qr2 qoc λcdv A outer s H E hr=>⟨qlj,(qab (qbg (qcd (vv 1))
   (qag (qaq (qa2 qa7 qap (qpe qap (vv 0)))))
   qan)
  (qag (qaq (qpe qap (vv 0))))),qwt⟩
theorem qy8:FnScope ["_law_way","_law_over"] ["_law_way","_law_over"] (qaf qo0):=⟨rfl,rfl,rfl,by decide +kernel,rfl,by decide +kernel,by decide +kernel⟩
theorem qyb(F:Fun K "_law_under" "_law_under" qo0 f fd)(B:Blt K mg cGlassError cNoWay cMissing cNotFolder cNoPlace cAstray cIsThere cInItself cTooDeep cCrowded):FnOk P w K mg base CX0 1 f fd ["_law_way","_law_over"] (spOf K qfj) :=
 F.okV qy8 quf λcdv A outer s H E hr=>⟨qnb,(qag (qaq (qqp (qfg qjc (qbq qbc rfl B.len PyProof.Rows.Boot.«len» (vv 0)) (qbq qbc rfl B.len PyProof.Rows.Boot.«len» (vv 1))) (qj1 (qfg (qcc hr.units) (qdn (vv 0) qew (qex (qbq qbc rfl B.len PyProof.Rows.Boot.«len» (vv 1)))) (vv 1)))))),q4e⟩
theorem sc_due:FnScope ["_law_tree","_law_way","_law_goes","_law_stays","_law_rows","_law_deepest","_law_row","_law_inside"] ["_law_tree","_law_way","_law_goes","_law_stays"] (qaf q3l):=⟨rfl,rfl,rfl,by decide +kernel,rfl,by decide +kernel,by decide +kernel⟩
theorem q5i(F:Fun K "_law_due" "_law_due" q3l f fd)(B:Blt K mg cGlassError cNoWay cMissing cNotFolder cNoPlace cAstray cIsThere cInItself cTooDeep cCrowded)(Cunder:Cal P w K mg base 1 "_law_under" ["_law_way","_law_over"] (spOf K qfj)):FnOk P w K mg base CX0 2 f fd ["_law_tree","_law_way","_law_goes","_law_stays"] (spOf K qq5) :=
 F.okV sc_due q1n λcdv A outer s H E hr=>⟨q4q,(qab (qbg (vw_t (qgs (qay (qcc hr.units) (vv 2) (vv 1)) (qe1 (qcd (qal Cunder (hr.mono (by decide)) rfl (vac (vv 2) (vac (vv 1) qae)))))))
   (qag (qaq (qa0 (vac qap (vac qd5 qae)))))
   qan)
  (qab (qey (i:=4) sc_due.nd rfl (Or.inl rfl) (qej qae))
  (qab (qam (i:=5) sc_due.nd rfl (Or.inl rfl) qad)
  (qab (qiz PassesOwn.never rfl (qeu (vv 0)) (qba (i:=6) sc_due.nd rfl (Or.inl rfl))
   (qab (qbg (qay (qcc hr.units) (qa5 qar (vv 6) qad) (vv 2))
   (qag (qaq (qa0 (vac qap (vac qd5 qae)))))
   qan)
  (qab (qam (i:=7) sc_due.nd rfl (Or.inl rfl) (q7r (qfg (qcc hr.units) (qa5 qar (vv 6) qad) (vv 1)) (qj1 (qal Cunder (hr.mono (by decide)) rfl (vac (qa5 qar (vv 6) qad) (vac (vv 1) qae))))))
  (qab (qbg (qcd (vv 7))
   (qab (qf3 4 (qa0 (vac (qa2 qa7 (vv 2) (qdn (qa5 qar (vv 6) qad) (qex (qbq qbc rfl B.len PyProof.Rows.Boot.«len» (vv 1))) qew)) (vac (qa5 qar (vv 6) qad) (vac (qa5 qar (vv 6) qad) qae)))))
  (qag (qam (i:=5) sc_due.nd rfl (Or.inl rfl) (q9b (f:=λi j=>if j>i then j else i) (qtb rfl) rfl B.max PyProof.Rows.Boot.«max» (vv 5) (qa2 q0t (qa2 qa7 (qbq qbc rfl B.len PyProof.Rows.Boot.«len» (vv 2)) (qbq qbc rfl B.len PyProof.Rows.Boot.«len» (qa5 qar (vv 6) qad))) (qbq qbc rfl B.len PyProof.Rows.Boot.«len» (vv 1)))))))
   qan)
  (qag (qbg (vw_t (qgs (qcd (vv 3)) (qe1 (qez (qcd (vv 7))))))
   (qag (qf3 4 (vv 6)))
   qan))))))
  (qab (qbg (qay qjc (vv 5) qad)
   (qag (qaq (qa0 (vac qap (vac qd5 qae)))))
   qan)
  (qab (qbg (vw_t (qg1 (qcd (vv 3)) (qe0 (qay qjc (qbq qbc rfl B.len PyProof.Rows.Boot.«len» (vv 4)) qad))))
   (qag (qaq (qa0 (vac qap (vac qd5 qae)))))
   qan)
  (qag (qaq (qa0 (vac qap (vac (qbq (qix hr.units) rfl B.sorted PyProof.Rows.Boot.«sorted» (vv 4)) qae))))))))))),q9d⟩
theorem qkx:FnScope ["way","other"] ["way","other"] (qaf qeq):=⟨rfl,rfl,rfl,by decide +kernel,rfl,by decide +kernel,by decide +kernel⟩
theorem qko(F:Fun K "lies_under" "lies_under" qeq f fd)(B:Blt K mg cGlassError cNoWay cMissing cNotFolder cNoPlace cAstray cIsThere cInItself cTooDeep cCrowded):FnOk P w K mg base CX0 1 f fd ["way","other"] (spOf K qaz) :=
 F.okV qkx qff λcdv A outer s H E hr=>⟨qem,(qag (qaq (qqp (qfg qjc (qbq qbc rfl B.len PyProof.Rows.Boot.«len» (vv 0)) (qbq qbc rfl B.len PyProof.Rows.Boot.«len» (vv 1))) (qj1 (qfg (qcc hr.units) (qdn (vv 0) qew (qex (qbq qbc rfl B.len PyProof.Rows.Boot.«len» (vv 1)))) (vv 1)))))),qm3⟩
theorem qr1:FnScope ["tree","way"] ["tree","way"] (qaf qf0):=⟨rfl,rfl,rfl,by decide +kernel,rfl,by decide +kernel,by decide +kernel⟩
theorem qhq:CompScope (qaf qf0) ["tree","way"] ["tree","way","entry"] ["entry"] ({ kind:=PySem.ScopeKind.function,names:=[ (PySem.Str.ofString ".0",PySem.NameKind.local),(PySem.Str.ofString "entry",PySem.NameKind.local),(PySem.Str.ofString "lies_under",PySem.NameKind.globalImplicit),(PySem.Str.ofString "way",PySem.NameKind.free)],isGenerator:=false,isCoroutine:=false,more:=[]:PySem.Scope }):=⟨rfl,by decide +kernel,by decide +kernel,by decide +kernel,by decide +kernel,rfl,by decide +kernel⟩
theorem qrq(F:Fun K "without" "without" qf0 f fd)(B:Blt K mg cGlassError cNoWay cMissing cNotFolder cNoPlace cAstray cIsThere cInItself cTooDeep cCrowded)(Clies_under:Cal P w K mg base 1 "lies_under" ["way","other"] (spOf K qaz)):FnOk P w K mg base CX0 2 f fd ["tree","way"] (spOf K qck) :=
 F.okV qr1 qob λcdv A outer s H E hr=>⟨qhn,(qag (qaq (vc_e (qee (M:=["entry"]) (qeu (vv 0)) rfl qhq (λcl C s2 H2 fp pn=>(qba (i:=2) (qhq).nd rfl (Or.inl rfl))) (λcl C s2 H2 fp pn=>(qpf (vw_t (qg1 (qay (qev hr.units) (qa5 qar (vv 2) qad) (vv 1)) (qe0 (qez (qcd (qal Clies_under (hr.mono (by decide)) rfl (vac (qa5 qar (vv 2) qad) (vac (vv 1) qae)))))))))) (λcl C s2 H2 fp pn=>(vv 2)))))),qws⟩
theorem qo1:FnScope ["entries"] ["entries"] (qaf qgg):=⟨rfl,rfl,rfl,by decide +kernel,rfl,by decide +kernel,by decide +kernel⟩
theorem qoj(F:Fun K "in_order" "in_order" qgg f fd)(B:Blt K mg cGlassError cNoWay cMissing cNotFolder cNoPlace cAstray cIsThere cInItself cTooDeep cCrowded):FnOk P w K mg base CX0 1 f fd ["entries"] (spOf K qdd) :=
 F.okV qo1 ql2 λcdv A outer s H E hr=>⟨qf5,(qag (qaq (qbq (qix hr.units) rfl B.sorted PyProof.Rows.Boot.«sorted» (vv 0)))),qsh⟩
theorem qrz:FnScope ["way","old","new"] ["way","old","new"] (qaf qin):=⟨rfl,rfl,rfl,by decide +kernel,rfl,by decide +kernel,by decide +kernel⟩
theorem qro(F:Fun K "shifted" "shifted" qin f fd)(B:Blt K mg cGlassError cNoWay cMissing cNotFolder cNoPlace cAstray cIsThere cInItself cTooDeep cCrowded)(Clies_under:Cal P w K mg base 1 "lies_under" ["way","other"] (spOf K qaz)):FnOk P w K mg base CX0 2 f fd ["way","old","new"] (spOf K qcj) :=
 F.okV qrz qn9 λcdv A outer s H E hr=>⟨qhl,(qab (qbg (vw_t (qgs (qay (qcc hr.units) (vv 0) (vv 1)) (qe1 (qcd (qal Clies_under (hr.mono (by decide)) rfl (vac (vv 0) (vac (vv 1) qae)))))))
   (qag (qaq (qa2 qa7 (vv 2) (qdn (vv 0) (qex (qbq qbc rfl B.len PyProof.Rows.Boot.«len» (vv 1))) qew))))
   qan)
  (qag (qaq (vv 0)))),qwq⟩
theorem qry:FnScope ["way","thing","below"] ["way","thing","below"] (qaf qfy):=⟨rfl,rfl,rfl,by decide +kernel,rfl,by decide +kernel,by decide +kernel⟩
theorem qd8:CompScope (qaf qfy) ["way","thing","below"] ["way","thing","below","under","mark","text"] ["under","mark","text"] ({ kind:=PySem.ScopeKind.function,names:=[ (PySem.Str.ofString ".0",PySem.NameKind.local),(PySem.Str.ofString "under",PySem.NameKind.local),(PySem.Str.ofString "mark",PySem.NameKind.local),(PySem.Str.ofString "text",PySem.NameKind.local),(PySem.Str.ofString "shifted",PySem.NameKind.globalImplicit),(PySem.Str.ofString "way",PySem.NameKind.free)],isGenerator:=false,isCoroutine:=false,more:=[]:PySem.Scope }):=⟨rfl,by decide +kernel,by decide +kernel,by decide +kernel,by decide +kernel,rfl,by decide +kernel⟩
theorem qrn(F:Fun K "planted" "planted" qfy f fd)(B:Blt K mg cGlassError cNoWay cMissing cNotFolder cNoPlace cAstray cIsThere cInItself cTooDeep cCrowded)(Cshifted:Cal P w K mg base 2 "shifted" ["way","old","new"] (spOf K qcj)):FnOk P w K mg base CX0 3 f fd ["way","thing","below"] (spOf K qd0) :=
 F.okV qry qn8 λcdv A outer s H E hr=>⟨qhk,(qag (qaq (qa2 qa7 (qej (vac (qa0 (vac (vv 0) (vac (qa5 qar (vv 1) qad) (vac (qa5 qar (vv 1) qad) qae)))) qae)) (vc_e (qee (M:=["under","mark","text"]) (qeu (vv 2)) rfl qd8 (λcl C s2 H2 fp pn=>(qmy rfl (qbr (qba (i:=3) (qd8).nd rfl (Or.inl rfl)) (qbr (qba (i:=4) (qd8).nd rfl (Or.inl rfl)) (qbr (qba (i:=5) (qd8).nd rfl (Or.inl rfl)) qiy))))) (λcl C s2 H2 fp pn=>qgr) (λcl C s2 H2 fp pn=>(qa0 (vac (qal Cshifted (hr.mono (by decide)) rfl (vac (vv 3) (vac (qa0 qae) (vac (vv 0) qae)))) (vac (vv 4) (vac (vv 5) qae)))))))))),qwp⟩
theorem qrv:FnScope ["tree","way","thing","below"] ["tree","way","thing","below"] (qaf qii):=⟨rfl,rfl,rfl,by decide +kernel,rfl,by decide +kernel,by decide +kernel⟩
theorem qrh(F:Fun K "grafted" "grafted" qii f fd)(B:Blt K mg cGlassError cNoWay cMissing cNotFolder cNoPlace cAstray cIsThere cInItself cTooDeep cCrowded)(Cin_order:Cal P w K mg base 1 "in_order" ["entries"] (spOf K qdd))(Cwithout:Cal P w K mg base 2 "without" ["tree","way"] (spOf K qck))(Cplanted:Cal P w K mg base 3 "planted" ["way","thing","below"] (spOf K qd0)):FnOk P w K mg base CX0 4 f fd ["tree","way","thing","below"] (spOf K qdx) :=
 F.okV qrv qn2 λcdv A outer s H E hr=>⟨qhg,(qag (qaq (qal Cin_order (hr.mono (by decide)) rfl (vac (qa2 qa7 (qal Cwithout (hr.mono (by decide)) rfl (vac (vv 0) (vac (vv 1) qae))) (qal Cplanted (hr.mono (by decide)) rfl (vac (vv 1) (vac (vv 2) (vac (vv 3) qae))))) qae)))),qwj⟩
theorem sc_changed:FnScope ["tree","changes","way","thing","below"] ["tree","changes"] (qaf qih):=⟨rfl,rfl,rfl,by decide +kernel,rfl,by decide +kernel,by decide +kernel⟩
theorem qrg(F:Fun K "changed" "changed" qih f fd)(B:Blt K mg cGlassError cNoWay cMissing cNotFolder cNoPlace cAstray cIsThere cInItself cTooDeep cCrowded)(Cwithout:Cal P w K mg base 2 "without" ["tree","way"] (spOf K qck))(Cgrafted:Cal P w K mg base 4 "grafted" ["tree","way","thing","below"] (spOf K qdx)):FnOk P w K mg base CX0 5 f fd ["tree","changes"] (spOf K qdf) :=
 F.okV sc_changed qn1 λcdv A outer s H E hr=>⟨qlg,(qab (qiz PassesOwn.never rfl (qeu (vv 1)) (qmy rfl (qbr (qba (i:=2) sc_changed.nd rfl (Or.inl rfl)) (qbr (qba (i:=3) sc_changed.nd rfl (Or.inl rfl)) (qbr (qba (i:=4) sc_changed.nd rfl (Or.inl rfl)) qiy))))
   (qag (qam (i:=0) sc_changed.nd rfl (Or.inl rfl) (qk3 (qay q36 (vv 3) qd5) (qal Cwithout (hr.mono (by decide)) rfl (vac (vv 0) (vac (vv 2) qae))) (qal Cgrafted (hr.mono (by decide)) rfl (vac (vv 0) (vac (vv 2) (vac (vv 3) (vac (vv 4) qae)))))))))
  (qag (qaq (vv 0)))),qwi⟩
theorem qrw:FnScope ["thing"] ["thing"] (qaf qfx):=⟨rfl,rfl,rfl,by decide +kernel,rfl,by decide +kernel,by decide +kernel⟩
theorem qho:CompScope (qaf qfx) ["thing"] ["thing","sign"] ["sign"] ({ kind:=PySem.ScopeKind.function,names:=[ (PySem.Str.ofString ".0",PySem.NameKind.local),(PySem.Str.ofString "sign",PySem.NameKind.local),(PySem.Str.ofString "NAME_SIGNS",PySem.NameKind.globalImplicit)],isGenerator:=false,isCoroutine:=false,more:=[]:PySem.Scope }):=⟨rfl,by decide +kernel,by decide +kernel,by decide +kernel,by decide +kernel,rfl,by decide +kernel⟩
theorem qrj(F:Fun K "is_name" "is_name" qfx f fd)(B:Blt K mg cGlassError cNoWay cMissing cNotFolder cNoPlace cAstray cIsThere cInItself cTooDeep cCrowded):FnOk P w K mg base CX0 1 f fd ["thing"] (spOf K qc3) :=
 F.okV qrw qn4 λcdv A outer s H E hr=>⟨qhi,(qab (qbg (qez (qcd (qgq .str rfl B.isinstance rfl B.str PyProof.Rows.Boot.«str» (vv 0))))
   (qag (qaq qk2))
   qan)
  (qab (qbg (qez (qzt q7v q7v qad (qbq qbc rfl B.len PyProof.Rows.Boot.«len» (vv 0)) (qfb (z:=(.int 12)) rfl (Classical.choose_spec B.g_LONGEST_NAME) ⟨_,rfl⟩ rfl)))
   (qag (qaq qk2))
   qan)
  (qag (qaq (qbq (q0q rfl) rfl B.all PyProof.Rows.Boot.«all» (vc_e (qee (M:=["sign"]) (qeu (vv 0)) rfl qho (λcl C s2 H2 fp pn=>(qba (i:=1) (qho).nd rfl (Or.inl rfl))) (λcl C s2 H2 fp pn=>qgr) (λcl C s2 H2 fp pn=>(qfg q7u (vv 1) (qfb (z:=(.str ("abcdefghijklmnopqrstuvwxyz0123456789" : Str))) rfl (Classical.choose_spec B.g_NAME_SIGNS) ⟨_,rfl⟩ rfl)))))))))),qwl⟩
theorem qrx:FnScope ["text"] ["text"] (qaf qik):=⟨rfl,rfl,rfl,by decide +kernel,rfl,by decide +kernel,by decide +kernel⟩
theorem qrk(F:Fun K "is_word" "is_word" qik f fd)(B:Blt K mg cGlassError cNoWay cMissing cNotFolder cNoPlace cAstray cIsThere cInItself cTooDeep cCrowded)(Cis_name:Cal P w K mg base 1 "is_name" ["thing"] (spOf K qc3)):FnOk P w K mg base CX0 2 f fd ["text"] (spOf K qdg) :=
 F.okV qrx qn5 λcdv A outer s H E hr=>⟨qhj,(qag (qaq (q7r (qfg q7u (vv 0) (qa0 (vac qap (vac qap qae)))) (qj1 (qal Cis_name (hr.mono (by decide)) rfl (vac (vv 0) qae)))))),qwm⟩
theorem sc_words_of:FnScope ["text","rooted","words"] ["text"] (qaf qe9):=⟨rfl,rfl,rfl,by decide +kernel,rfl,by decide +kernel,by decide +kernel⟩
theorem qgv:CompScope (qaf qe9) ["text","rooted","words"] ["text","rooted","words","word"] ["word"] ({ kind:=PySem.ScopeKind.function,names:=[ (PySem.Str.ofString ".0",PySem.NameKind.local),(PySem.Str.ofString "word",PySem.NameKind.local),(PySem.Str.ofString "is_word",PySem.NameKind.globalImplicit)],isGenerator:=false,isCoroutine:=false,more:=[]:PySem.Scope }):=⟨rfl,by decide +kernel,by decide +kernel,by decide +kernel,by decide +kernel,rfl,by decide +kernel⟩
theorem qoo(F:Fun K "words_of" "words_of" qe9 f fd)(B:Blt K mg cGlassError cNoWay cMissing cNotFolder cNoPlace cAstray cIsThere cInItself cTooDeep cCrowded)(Cis_word:Cal P w K mg base 2 "is_word" ["text"] (spOf K qdg)):FnOk P w K mg base (CXR P w) 3 f fd ["text"] (spOf K qch) :=
 F.okVX sc_words_of ql7 λcdv A outer s H E hr o=>⟨qga,(qab (qbg (qay (qcc hr.units) (vv 0) qap)
   (qag (qaq (qa0 (vac qk2 (vac (qej qae) qae)))))
   qan)
  (qab (qam (i:=1) sc_words_of.nd rfl (Or.inl rfl) (qv7 (vv 0) qap))
  (qab (qam (i:=2) sc_words_of.nd rfl (Or.inl rfl) (qzl (qk3 (qcd (vv 1)) (qdn (vv 0) (qex qad) qew) (vv 0)) qap))
  (qab (qbg (vw_t (qgs (qay qjc (qbq qbc rfl B.len PyProof.Rows.Boot.«len» (vv 2)) (qfb (z:=(.int 40)) rfl (Classical.choose_spec B.g_MOST_WORDS) ⟨_,rfl⟩ rfl)) (qe1 (qez (qcd (qbq (q0q rfl) rfl B.all PyProof.Rows.Boot.«all» (vc_e (qee (M:=["word"]) (qeu (vv 2)) rfl qgv (λcl C s2 H2 fp pn=>(qba (i:=3) (qgv).nd rfl (Or.inl rfl))) (λcl C s2 H2 fp pn=>qgr) (λcl C s2 H2 fp pn=>(qal Cis_word (hr.mono (by decide)) rfl (vac (vv 3) qae)))))))))))
   (qag (qcq ⟨cNoWay,B.NoWay,B.k_NoWay,B.x_NoWay⟩ rfl rfl o (vac (vv 0) qae)))
   qan)
  (qag (qaq (qa0 (vac (vv 1) (vac (vv 2) qae))))))))),qsm⟩
theorem qy5:FnScope ["way"] ["way"] (qaf qow):=⟨rfl,rfl,rfl,by decide +kernel,rfl,by decide +kernel,by decide +kernel⟩
theorem qx6(F:Fun K "above" "above" qow f fd)(B:Blt K mg cGlassError cNoWay cMissing cNotFolder cNoPlace cAstray cIsThere cInItself cTooDeep cCrowded):FnOk P w K mg base CX0 1 f fd ["way"] (spOf K qgb) :=
 F.okV qy5 qua λcdv A outer s H E hr=>⟨qm7,(qag (qaq (qdn (vv 0) qew (qex (qmx qad))))),q39⟩
theorem q3p:FnScope ["way","word"] ["way","word"] (qaf qvl):=⟨rfl,rfl,rfl,by decide +kernel,rfl,by decide +kernel,by decide +kernel⟩
theorem q14(F:Fun K "step" "step" qvl f fd)(B:Blt K mg cGlassError cNoWay cMissing cNotFolder cNoPlace cAstray cIsThere cInItself cTooDeep cCrowded)(Cabove:Cal P w K mg base 1 "above" ["way"] (spOf K qgb)):FnOk P w K mg base CX0 2 f fd ["way","word"] (spOf K qjl) :=
 F.okV q3p qxr λcdv A outer s H E hr=>⟨qzv,(qab (qbg (qay (qcc hr.units) (vv 1) qap)
   (qag (qaq (vv 0)))
   qan)
  (qab (qbg (qay (qcc hr.units) (vv 1) qap)
   (qag (qaq (qal Cabove (hr.mono (by decide)) rfl (vac (vv 0) qae))))
   qan)
  (qag (qaq (qa2 qa7 (vv 0) (qa0 (vac (vv 1) qae))))))),q71⟩
theorem qo2:FnScope ["followed"] ["followed"] (qaf qgh):=⟨rfl,rfl,rfl,by decide +kernel,rfl,by decide +kernel,by decide +kernel⟩
theorem qok(F:Fun K "one_more" "one_more" qgh f fd)(B:Blt K mg cGlassError cNoWay cMissing cNotFolder cNoPlace cAstray cIsThere cInItself cTooDeep cCrowded):FnOk P w K mg base (CXR P w) 1 f fd ["followed"] (spOf K qde) :=
 F.okVX qo2 ql3 λcdv A outer s H E hr o=>⟨qf6,(qab (qbg (qay (qcc hr.units) (vv 0) (qfb (z:=(.int 8)) rfl (Classical.choose_spec B.g_MOST_LINKS) ⟨_,rfl⟩ rfl))
   (qag (qcq ⟨cAstray,B.Astray,B.k_Astray,B.x_Astray⟩ rfl rfl o (vac qap qae)))
   qan)
  (qag (qaq (qa2 qa7 (vv 0) qad)))),qsi⟩
theorem qo4:FnScope ["rooted","at"] ["rooted","at"] (qaf qgj):=⟨rfl,rfl,rfl,by decide +kernel,rfl,by decide +kernel,by decide +kernel⟩
theorem qom(F:Fun K "start_of" "start_of" qgj f fd)(B:Blt K mg cGlassError cNoWay cMissing cNotFolder cNoPlace cAstray cIsThere cInItself cTooDeep cCrowded):FnOk P w K mg base CX0 1 f fd ["rooted","at"] (spOf K qb5) :=
 F.okV qo4 ql5 λcdv A outer s H E hr=>⟨qf8,(qag (qaq (qk3 (qcd (vv 0)) (qa0 qae) (vv 1)))),qsk⟩
theorem sc_walk:FnScope ["things","at","words","followed","trail","left","word","then","thing","led"] ["things","at","words","followed"] (qaf qvm):=⟨rfl,rfl,rfl,by decide +kernel,rfl,by decide +kernel,by decide +kernel⟩
theorem q15(F:Fun K "walk" "walk" qvm f fd)(B:Blt K mg cGlassError cNoWay cMissing cNotFolder cNoPlace cAstray cIsThere cInItself cTooDeep cCrowded)(Cstep:Cal P w K mg base 2 "step" ["way","word"] (spOf K qjl))(Cone_more:CalX P w K mg base 1 "one_more" ["followed"] (spOf K qde))(Cwords_of:CalX P w K mg base 3 "words_of" ["text"] (spOf K qch))(Cstart_of:Cal P w K mg base 1 "start_of" ["rooted","at"] (spOf K qb5)):FnOk P w K mg base (CXR P w) 4 f fd ["things","at","words","followed"] (spOf K qjm) :=
 F.okVX sc_walk qxs λcdv A outer s H E hr o=>⟨qs7,(qab (qey (i:=4) sc_walk.nd rfl (Or.inl rfl) (qej qae))
  (qab (qey (i:=5) sc_walk.nd rfl (Or.inl rfl) (qsg qv8 rfl B.list PyProof.Rows.Boot.«list» (vv 2)))
  (qab (qzs PassesOwn.leaving (qay (qev hr.units) (vv 5) (qej qae))
   (qab (q38 (j:=6) (i:=5) sc_walk.nd rfl (Or.inl rfl) qad)
  (qab (qam (i:=7) sc_walk.nd rfl (Or.inl rfl) (qal Cstep (hr.mono (by decide)) rfl (vac (vv 1) (vac (vv 6) qae))))
  (qab (qam (i:=8) sc_walk.nd rfl (Or.inl rfl) (qqq hr.dict (vv 0) (vv 7)))
  (qab (qbg (qay q36 (vv 8) qd5)
   (qag (qcq ⟨cMissing,B.Missing,B.k_Missing,B.x_Missing⟩ rfl rfl o (vac qap qae)))
   qan)
  (qab (qbg (vw_t (qg1 (qay (qcc hr.units) (qa5 qar (vv 8) qad) qap) (qe0 (qay (qev hr.units) (vv 5) (qej qae)))))
   (qag (qcq ⟨cNotFolder,B.NotFolder,B.k_NotFolder,B.x_NotFolder⟩ rfl rfl o (vac qap qae)))
   qan)
  (qab (qbg (qay (qcc hr.units) (qa5 qar (vv 8) qad) qap)
   (qab (qam (i:=3) sc_walk.nd rfl (Or.inl rfl) (qb8 Cone_more o (hr.mono (by decide)) rfl (vac (vv 3) qae)))
  (qab (qam (i:=9) sc_walk.nd rfl (Or.inl rfl) (qb8 Cwords_of o (hr.mono (by decide)) rfl (vac (qa5 qar (vv 8) qad) qae)))
  (qab (qam (i:=7) sc_walk.nd rfl (Or.inl rfl) (qal Cstart_of (hr.mono (by decide)) rfl (vac (qa5 qar (vv 9) qad) (vac (vv 1) qae))))
  (qag (qey (i:=5) sc_walk.nd rfl (Or.inl rfl) (qa2 qa7 (qa5 qar (vv 9) qad) (vv 5)))))))
   qan)
  (qab (qf3 4 (qa0 (vac (vv 1) (vac (vv 6) (vac (vv 7) qae)))))
  (qag (qam (i:=1) sc_walk.nd rfl (Or.inl rfl) (vv 7)))))))))))
  (qwc 4 (qag (qaq (qa0 (vac (vv 4) (vac (vv 1) (vac (vv 3) qae)))))))))),w_walk⟩
theorem sc_placed:FnScope ["things","at","text","followed","found","words","come"] ["things","at","text","followed"] (qaf qkv):=⟨rfl,rfl,rfl,by decide +kernel,rfl,by decide +kernel,by decide +kernel⟩
theorem qur(F:Fun K "placed" "placed" qkv f fd)(B:Blt K mg cGlassError cNoWay cMissing cNotFolder cNoPlace cAstray cIsThere cInItself cTooDeep cCrowded)(Cwords_of:CalX P w K mg base 3 "words_of" ["text"] (spOf K qch))(Cis_name:Cal P w K mg base 1 "is_name" ["thing"] (spOf K qc3))(Cwalk:CalX P w K mg base 4 "walk" ["things","at","words","followed"] (spOf K qjm))(Cstart_of:Cal P w K mg base 1 "start_of" ["rooted","at"] (spOf K qb5)):FnOk P w K mg base (CXR P w) 5 f fd ["things","at","text","followed"] (spOf K qe5) :=
 F.okVX sc_placed len_placed λcdv A outer s H E hr o=>⟨qj5,(qab (qam (i:=4) sc_placed.nd rfl (Or.inl rfl) (qb8 Cwords_of o (hr.mono (by decide)) rfl (vac (vv 2) qae)))
  (qab (qam (i:=5) sc_placed.nd rfl (Or.inl rfl) (qa5 qar (vv 4) qad))
  (qab (qbg (vw_t (qgs (qay (qcc hr.units) (vv 5) (qej qae)) (qe1 (qez (qcd (qal Cis_name (hr.mono (by decide)) rfl (vac (qa5 qar (vv 5) (qmx qad)) qae)))))))
   (qag (qcq ⟨cNoPlace,B.NoPlace,B.k_NoPlace,B.x_NoPlace⟩ rfl rfl o (vac qap qae)))
   qan)
  (qab (qam (i:=6) sc_placed.nd rfl (Or.inl rfl) (qb8 Cwalk o (hr.mono (by decide)) rfl (vac (vv 0) (vac (qal Cstart_of (hr.mono (by decide)) rfl (vac (qa5 qar (vv 4) qad) (vac (vv 1) qae))) (vac (qdn (vv 5) qew (qex (qmx qad))) (vac (vv 3) qae))))))
  (qab (qbg (qay (qev hr.units) (qa5 qar (qgp hr.dict (vv 0) (qa5 qar (vv 6) qad)) qad) qap)
   (qag (qcq ⟨cNotFolder,B.NotFolder,B.k_NotFolder,B.x_NotFolder⟩ rfl rfl o (vac qap qae)))
   qan)
  (qag (qaq (qa0 (vac (qa2 qa7 (qa5 qar (vv 6) qad) (qa0 (vac (qa5 qar (vv 5) (qmx qad)) qae))) (vac (qa5 qar (vv 6) qad) qae)))))))))),qzu⟩
theorem sc_things_of:FnScope ["tree","things","way","mark","text"] ["tree"] (qaf qfm):=⟨rfl,rfl,rfl,by decide +kernel,rfl,by decide +kernel,by decide +kernel⟩
theorem qmb(F:Fun K "things_of" "things_of" qfm f fd)(B:Blt K mg cGlassError cNoWay cMissing cNotFolder cNoPlace cAstray cIsThere cInItself cTooDeep cCrowded):FnOk P w K mg base CX0 1 f fd ["tree"] (spOf K qbo) :=
 F.okV sc_things_of qkd λcdv A outer s H E hr=>⟨qfh,(qab (qey (i:=1) sc_things_of.nd rfl (Or.inl rfl) (qzi hr.dict (qa0 qae) (qzk (ds:=[D.str ("folder" : Str),D.str ("" : Str)]) rfl (Classical.choose_spec B.g_ROOT_THING).1 ⟨(Classical.choose_spec B.g_ROOT_THING).2,by simp,qfw [("folder" : Str),("" : Str)]⟩)))
  (qab (qiz PassesOwn.never rfl (qeu (vv 0)) (qmy rfl (qbr (qba (i:=2) sc_things_of.nd rfl (Or.inl rfl)) (qbr (qba (i:=3) sc_things_of.nd rfl (Or.inl rfl)) (qbr (qba (i:=4) sc_things_of.nd rfl (Or.inl rfl)) qiy))))
   (qag (qk8 1 hr.dict (vv 2) (qa0 (vac (vv 3) (vac (vv 4) qae))))))
  (qag (qwb 1)))),qph⟩
theorem qo3:FnScope ["tree","at","text"] ["tree","at","text"] (qaf qgi):=⟨rfl,rfl,rfl,by decide +kernel,rfl,by decide +kernel,by decide +kernel⟩
theorem qol(F:Fun K "place_of" "place_of" qgi f fd)(B:Blt K mg cGlassError cNoWay cMissing cNotFolder cNoPlace cAstray cIsThere cInItself cTooDeep cCrowded)(Cplaced:CalX P w K mg base 5 "placed" ["things","at","text","followed"] (spOf K qe5))(Cthings_of:Cal P w K mg base 1 "things_of" ["tree"] (spOf K qbo)):FnOk P w K mg base (CXR P w) 6 f fd ["tree","at","text"] (spOf K qb4) :=
 F.okVX qo3 ql4 λcdv A outer s H E hr o=>⟨qf7,(qag (qaq (qa5 qar (qb8 Cplaced o (hr.mono (by decide)) rfl (vac (qal Cthings_of (hr.mono (by decide)) rfl (vac (vv 0) qae)) (vac (vv 1) (vac (vv 2) (vac qad qae))))) qad))),qsj⟩
theorem qo5:FnScope ["tree","way"] ["tree","way"] (qaf qgk):=⟨rfl,rfl,rfl,by decide +kernel,rfl,by decide +kernel,by decide +kernel⟩
theorem qon(F:Fun K "thing_at" "thing_at" qgk f fd)(B:Blt K mg cGlassError cNoWay cMissing cNotFolder cNoPlace cAstray cIsThere cInItself cTooDeep cCrowded)(Cthings_of:Cal P w K mg base 1 "things_of" ["tree"] (spOf K qbo)):FnOk P w K mg base CX0 2 f fd ["tree","way"] (spOf K qbi) :=
 F.okV qo5 ql6 λcdv A outer s H E hr=>⟨qf9,(qag (qaq (qqq hr.dict (qal Cthings_of (hr.mono (by decide)) rfl (vac (vv 0) qae)) (vv 1)))),qsl⟩
theorem sc_taken_place:FnScope ["tree","where","way"] ["tree","where"] (qaf qec):=⟨rfl,rfl,rfl,by decide +kernel,rfl,by decide +kernel,by decide +kernel⟩
theorem qi8(F:Fun K "taken_place" "taken_place" qec f fd)(B:Blt K mg cGlassError cNoWay cMissing cNotFolder cNoPlace cAstray cIsThere cInItself cTooDeep cCrowded)(Cplace_of:CalX P w K mg base 6 "place_of" ["tree","at","text"] (spOf K qb4))(Cthing_at:Cal P w K mg base 2 "thing_at" ["tree","way"] (spOf K qbi)):FnOk P w K mg base (CXR P w) 7 f fd ["tree","where"] (spOf K qb6) :=
 F.okVX sc_taken_place qh2 λcdv A outer s H E hr o=>⟨qd6,(qab (qam (i:=2) sc_taken_place.nd rfl (Or.inl rfl) (qb8 Cplace_of o (hr.mono (by decide)) rfl (vac (vv 0) (vac (qa0 qae) (vac (vv 1) qae)))))
  (qab (qbg (qay q36 (qal Cthing_at (hr.mono (by decide)) rfl (vac (vv 0) (vac (vv 2) qae))) qd5)
   (qag (qcq ⟨cMissing,B.Missing,B.k_Missing,B.x_Missing⟩ rfl rfl o (vac qap qae)))
   qan)
  (qag (qaq (vv 2))))),qla⟩
theorem qir:FnScope ["tree","way"] ["tree","way"] (qaf qdv):=⟨rfl,rfl,rfl,by decide +kernel,rfl,by decide +kernel,by decide +kernel⟩
theorem qia(F:Fun K "refuse_taken" "refuse_taken" qdv f fd)(B:Blt K mg cGlassError cNoWay cMissing cNotFolder cNoPlace cAstray cIsThere cInItself cTooDeep cCrowded)(Cthing_at:Cal P w K mg base 2 "thing_at" ["tree","way"] (spOf K qbi)):FnOk P w K mg base (CXR P w) 3 f fd ["tree","way"] (spOf K qby) :=
 F.okVX qir qg9 λcdv A outer s H E hr o=>⟨qds,(qag (qbg (qay qzo (qal Cthing_at (hr.mono (by decide)) rfl (vac (vv 0) (vac (vv 1) qae))) qd5)
   (qag (qcq ⟨cIsThere,B.IsThere,B.k_IsThere,B.x_IsThere⟩ rfl rfl o (vac qap qae)))
   qan)),qjh⟩
theorem q3o:FnScope ["tree","way"] ["tree","way"] (qaf qqb):=⟨rfl,rfl,rfl,by decide +kernel,rfl,by decide +kernel,by decide +kernel⟩
theorem qhc:CompScope (qaf qqb) ["tree","way"] ["tree","way","under","mark","text"] ["under","mark","text"] ({ kind:=PySem.ScopeKind.function,names:=[ (PySem.Str.ofString ".0",PySem.NameKind.local),(PySem.Str.ofString "under",PySem.NameKind.local),(PySem.Str.ofString "mark",PySem.NameKind.local),(PySem.Str.ofString "text",PySem.NameKind.local),(PySem.Str.ofString "lies_under",PySem.NameKind.globalImplicit),(PySem.Str.ofString "shifted",PySem.NameKind.globalImplicit),(PySem.Str.ofString "way",PySem.NameKind.free)],isGenerator:=false,isCoroutine:=false,more:=[]:PySem.Scope }):=⟨rfl,by decide +kernel,by decide +kernel,by decide +kernel,by decide +kernel,rfl,by decide +kernel⟩
theorem q12(F:Fun K "part" "part" qqb f fd)(B:Blt K mg cGlassError cNoWay cMissing cNotFolder cNoPlace cAstray cIsThere cInItself cTooDeep cCrowded)(Cshifted:Cal P w K mg base 2 "shifted" ["way","old","new"] (spOf K qcj))(Clies_under:Cal P w K mg base 1 "lies_under" ["way","other"] (spOf K qaz)):FnOk P w K mg base CX0 3 f fd ["tree","way"] (spOf K qjk) :=
 F.okV q3o qxp λcdv A outer s H E hr=>⟨qs5,(qag (qaq (vc_e (qee (M:=["under","mark","text"]) (qeu (vv 0)) rfl qhc (λcl C s2 H2 fp pn=>(qmy rfl (qbr (qba (i:=2) (qhc).nd rfl (Or.inl rfl)) (qbr (qba (i:=3) (qhc).nd rfl (Or.inl rfl)) (qbr (qba (i:=4) (qhc).nd rfl (Or.inl rfl)) qiy))))) (λcl C s2 H2 fp pn=>(qpf (qcd (qal Clies_under (hr.mono (by decide)) rfl (vac (vv 2) (vac (vv 1) qae)))))) (λcl C s2 H2 fp pn=>(qa0 (vac (qal Cshifted (hr.mono (by decide)) rfl (vac (vv 2) (vac (vv 1) (vac (qa0 qae) qae)))) (vac (vv 3) (vac (vv 4) qae))))))))),q7z⟩
theorem sc_refuse_depth:FnScope ["way","below","deepest"] ["way","below"] (qaf qcz):=⟨rfl,rfl,rfl,by decide +kernel,rfl,by decide +kernel,by decide +kernel⟩
theorem qcf:CompScope (qaf qcz) ["way","below","deepest"] ["way","below","deepest","under","mark","text"] ["under","mark","text"] ({ kind:=PySem.ScopeKind.function,names:=[ (PySem.Str.ofString ".0",PySem.NameKind.local),(PySem.Str.ofString "under",PySem.NameKind.local),(PySem.Str.ofString "mark",PySem.NameKind.local),(PySem.Str.ofString "text",PySem.NameKind.local),(PySem.Str.ofString "len",PySem.NameKind.globalImplicit)],isGenerator:=false,isCoroutine:=false,more:=[]:PySem.Scope }):=⟨rfl,by decide +kernel,by decide +kernel,by decide +kernel,by decide +kernel,rfl,by decide +kernel⟩
theorem qh9(F:Fun K "refuse_depth" "refuse_depth" qcz f fd)(B:Blt K mg cGlassError cNoWay cMissing cNotFolder cNoPlace cAstray cIsThere cInItself cTooDeep cCrowded):FnOk P w K mg base (CXR P w) 1 f fd ["way","below"] (spOf K qbx) :=
 F.okVX sc_refuse_depth qg8 λcdv A outer s H E hr o=>⟨qfd,(qab (qam (i:=2) sc_refuse_depth.nd rfl (Or.inl rfl) (q31 rfl rfl B.max PyProof.Rows.Boot.«max» (vc_e (qee (M:=["under","mark","text"]) (qeu (vv 1)) rfl qcf (λcl C s2 H2 fp pn=>(qmy rfl (qbr (qba (i:=3) (qcf).nd rfl (Or.inl rfl)) (qbr (qba (i:=4) (qcf).nd rfl (Or.inl rfl)) (qbr (qba (i:=5) (qcf).nd rfl (Or.inl rfl)) qiy))))) (λcl C s2 H2 fp pn=>qgr) (λcl C s2 H2 fp pn=>(qbq qbc rfl B.len PyProof.Rows.Boot.«len» (vv 3)))))))
  (qag (qbg (qay qjc (qa2 qa7 (qbq qbc rfl B.len PyProof.Rows.Boot.«len» (vv 0)) (vv 2)) (qfb (z:=(.int 12)) rfl (Classical.choose_spec B.g_MOST_NAMES) ⟨_,rfl⟩ rfl))
   (qag (qcq ⟨cTooDeep,B.TooDeep,B.k_TooDeep,B.x_TooDeep⟩ rfl rfl o (vac qap qae)))
   qan))),qjg⟩
theorem sc_carried:FnScope ["tree","deed","first","second","below"] ["tree","deed"] (qaf qif):=⟨rfl,rfl,rfl,by decide +kernel,rfl,by decide +kernel,by decide +kernel⟩
theorem qre(F:Fun K "carried" "carried" qif f fd)(B:Blt K mg cGlassError cNoWay cMissing cNotFolder cNoPlace cAstray cIsThere cInItself cTooDeep cCrowded)(Ctaken_place:CalX P w K mg base 7 "taken_place" ["tree","where"] (spOf K qb6))(Cplace_of:CalX P w K mg base 6 "place_of" ["tree","at","text"] (spOf K qb4))(Clies_under:Cal P w K mg base 1 "lies_under" ["way","other"] (spOf K qaz))(Crefuse_taken:CalX P w K mg base 3 "refuse_taken" ["tree","way"] (spOf K qby))(Cpart:Cal P w K mg base 3 "part" ["tree","way"] (spOf K qjk))(Crefuse_depth:CalX P w K mg base 1 "refuse_depth" ["way","below"] (spOf K qbx))(Cthing_at:Cal P w K mg base 2 "thing_at" ["tree","way"] (spOf K qbi)):FnOk P w K mg base (CXR P w) 8 f fd ["tree","deed"] (spOf K qci) :=
 F.okVX sc_carried qnz λcdv A outer s H E hr o=>⟨qlf,(qab (qam (i:=2) sc_carried.nd rfl (Or.inl rfl) (qb8 Ctaken_place o (hr.mono (by decide)) rfl (vac (vv 0) (vac (qa5 qar (vv 1) qad) qae))))
  (qab (qam (i:=3) sc_carried.nd rfl (Or.inl rfl) (qb8 Cplace_of o (hr.mono (by decide)) rfl (vac (vv 0) (vac (qa0 qae) (vac (qa5 qar (vv 1) qad) qae)))))
  (qab (qbg (vw_t (qgs (qay (qcc hr.units) (vv 3) (vv 2)) (qe1 (qcd (qal Clies_under (hr.mono (by decide)) rfl (vac (vv 3) (vac (vv 2) qae)))))))
   (qag (qcq ⟨cInItself,B.InItself,B.k_InItself,B.x_InItself⟩ rfl rfl o (vac qap qae)))
   qan)
  (qab (qk9 (qb8 Crefuse_taken o (hr.mono (by decide)) rfl (vac (vv 0) (vac (vv 3) qae))))
  (qab (qam (i:=4) sc_carried.nd rfl (Or.inl rfl) (qal Cpart (hr.mono (by decide)) rfl (vac (vv 0) (vac (vv 2) qae))))
  (qab (qk9 (qb8 Crefuse_depth o (hr.mono (by decide)) rfl (vac (vv 3) (vac (vv 4) qae))))
  (qag (qaq (qa0 (vac (vv 2) (vac (qa0 (vac (vv 3) (vac (qal Cthing_at (hr.mono (by decide)) rfl (vac (vv 0) (vac (vv 2) qae))) (vac (vv 4) qae)))) qae))))))))))),qwg⟩
theorem sc_move_changes:FnScope ["tree","deed","found"] ["tree","deed"] (qaf qb0):=⟨rfl,rfl,rfl,by decide +kernel,rfl,by decide +kernel,by decide +kernel⟩
theorem qh7(F:Fun K "move_changes" "move_changes" qb0 f fd)(B:Blt K mg cGlassError cNoWay cMissing cNotFolder cNoPlace cAstray cIsThere cInItself cTooDeep cCrowded)(Ccarried:CalX P w K mg base 8 "carried" ["tree","deed"] (spOf K qci)):FnOk P w K mg base (CXR P w) 9 f fd ["tree","deed"] (spOf K qbv) :=
 F.okVX sc_move_changes qg6 λcdv A outer s H E hr o=>⟨qdq,(qab (qam (i:=2) sc_move_changes.nd rfl (Or.inl rfl) (qb8 Ccarried o (hr.mono (by decide)) rfl (vac (vv 0) (vac (vv 1) qae))))
  (qag (qaq (qej (vac (qa0 (vac (qa5 qar (vv 2) qad) (vac qd5 (vac (qej qae) qae)))) (vac (qa5 qar (vv 2) qad) qae)))))),qje⟩
theorem qiq:FnScope ["tree","below"] ["tree","below"] (qaf qdu):=⟨rfl,rfl,rfl,by decide +kernel,rfl,by decide +kernel,by decide +kernel⟩
theorem qh8(F:Fun K "refuse_crowd" "refuse_crowd" qdu f fd)(B:Blt K mg cGlassError cNoWay cMissing cNotFolder cNoPlace cAstray cIsThere cInItself cTooDeep cCrowded):FnOk P w K mg base (CXR P w) 1 f fd ["tree","below"] (spOf K qbw) :=
 F.okVX qiq qg7 λcdv A outer s H E hr o=>⟨qdr,(qag (qbg (qay qjc (qa2 qa7 (qa2 qa7 (qbq qbc rfl B.len PyProof.Rows.Boot.«len» (vv 0)) qad) (qbq qbc rfl B.len PyProof.Rows.Boot.«len» (vv 1))) (qfb (z:=(.int 60)) rfl (Classical.choose_spec B.g_MOST_ENTRIES) ⟨_,rfl⟩ rfl))
   (qag (qcq ⟨cCrowded,B.Crowded,B.k_Crowded,B.x_Crowded⟩ rfl rfl o (vac qap qae)))
   qan)),qjf⟩
theorem sc_copy_changes:FnScope ["tree","deed","change"] ["tree","deed"] (qaf qbz):=⟨rfl,rfl,rfl,by decide +kernel,rfl,by decide +kernel,by decide +kernel⟩
theorem qh6(F:Fun K "copy_changes" "copy_changes" qbz f fd)(B:Blt K mg cGlassError cNoWay cMissing cNotFolder cNoPlace cAstray cIsThere cInItself cTooDeep cCrowded)(Ccarried:CalX P w K mg base 8 "carried" ["tree","deed"] (spOf K qci))(Crefuse_crowd:CalX P w K mg base 1 "refuse_crowd" ["tree","below"] (spOf K qbw)):FnOk P w K mg base (CXR P w) 9 f fd ["tree","deed"] (spOf K qbu) :=
 F.okVX sc_copy_changes qg5 λcdv A outer s H E hr o=>⟨qdp,(qab (qam (i:=2) sc_copy_changes.nd rfl (Or.inl rfl) (qa5 qar (qb8 Ccarried o (hr.mono (by decide)) rfl (vac (vv 0) (vac (vv 1) qae))) qad))
  (qab (qk9 (qb8 Crefuse_crowd o (hr.mono (by decide)) rfl (vac (vv 0) (vac (qa5 qar (vv 2) qad) qae))))
  (qag (qaq (qej (vac (vv 2) qae)))))),qjd⟩
theorem qkw:FnScope ["tree","deed"] ["tree","deed"] (qaf qep):=⟨rfl,rfl,rfl,by decide +kernel,rfl,by decide +kernel,by decide +kernel⟩
theorem qkn(F:Fun K "changes_of" "changes_of" qep f fd)(B:Blt K mg cGlassError cNoWay cMissing cNotFolder cNoPlace cAstray cIsThere cInItself cTooDeep cCrowded)(Cmove_changes:CalX P w K mg base 9 "move_changes" ["tree","deed"] (spOf K qbv))(Ccopy_changes:CalX P w K mg base 9 "copy_changes" ["tree","deed"] (spOf K qbu))(T_CHANGES:TabF w K mg ("CHANGES" : Str) [(("move" : Str),("move_changes" : Str)),(("copy" : Str),("copy_changes" : Str))]):FnOk P w K mg base (CXR P w) 10 f fd ["tree","deed"] (spOf K qc2) :=
 F.okVX qkw qi7 λcdv A outer s H E hr o=>⟨qel,(qag (qaq (q32 (keys:=[("move" : Str),("copy" : Str)]) (gs:=(λz=>if z=("move" : Str) then qbv else if z=("copy" : Str) then qbu else λ_ _=>False)) T_CHANGES (λd hd=>(qql Cmove_changes (hd _ (.head _)) (hr.mono (by decide)) (qql Ccopy_changes (hd _ (.tail _ (.head _))) (hr.mono (by decide)) (q3v (gs:=λ_ _ _=>False))))) o rfl (qa5 qar (vv 1) qad) (vac (vv 0) (vac (vv 1) qae))))),qm2⟩
theorem q3n:FnScope ["tree","deed"] ["tree","deed"] (qaf qvk):=⟨rfl,rfl,rfl,by decide +kernel,rfl,by decide +kernel,by decide +kernel⟩
theorem q11(F:Fun K "done" "done" qvk f fd)(B:Blt K mg cGlassError cNoWay cMissing cNotFolder cNoPlace cAstray cIsThere cInItself cTooDeep cCrowded)(Cchanged:Cal P w K mg base 5 "changed" ["tree","changes"] (spOf K qdf))(Cchanges_of:CalX P w K mg base 10 "changes_of" ["tree","deed"] (spOf K qc2)):FnOk P w K mg base (CXR P w) 11 f fd ["tree","deed"] (spOf K qeg) :=
 F.okVX q3n qxo λcdv A outer s H E hr o=>⟨qs3,(qag (qaq (qal Cchanged (hr.mono (by decide)) rfl (vac (vv 0) (vac (qb8 Cchanges_of o (hr.mono (by decide)) rfl (vac (vv 0) (vac (vv 1) qae))) qae))))),q7y⟩
theorem qy6:FnScope ["_law_tree","_law_deed"] ["_law_tree","_law_deed"] (qaf qox):=⟨rfl,rfl,rfl,by decide +kernel,rfl,by decide +kernel,by decide +kernel⟩
theorem qx7(F:Fun K "_law_asked" "_law_asked" qox f fd)(B:Blt K mg cGlassError cNoWay cMissing cNotFolder cNoPlace cAstray cIsThere cInItself cTooDeep cCrowded)(Cdone:CalX P w K mg base 11 "done" ["tree","deed"] (spOf K qeg)):FnOk P w K mg base CX0 12 f fd ["_law_tree","_law_deed"] (spOf K qgc) :=
 F.okV qy6 qub λcdv A outer s H E hr=>⟨qm8,(qag (q0u (λpn E EX' po1 o1=>(qag (qaq (qa0 (vac qap (vac (qb8 Cdone o1 (hr.mono (by decide)) rfl (vac (vv 0) (vac (vv 1) qae))) qae))))))
   (qk7 (yes:=["InItself"]) (no:=["NoWay","TooDeep","Crowded","Astray","Missing","NotFolder","NoPlace","IsThere"]) ⟨.ref cInItself,B.InItself,(qah B.k_InItself B.m_InItself_InItself qcr),(qah B.k_NoWay B.m_NoWay_InItself (qah B.k_TooDeep B.m_TooDeep_InItself (qah B.k_Crowded B.m_Crowded_InItself (qah B.k_Astray B.m_Astray_InItself (qah B.k_Missing B.m_Missing_InItself (qah B.k_NotFolder B.m_NotFolder_InItself (qah B.k_NoPlace B.m_NoPlace_InItself (qah B.k_IsThere B.m_IsThere_InItself qcr))))))))⟩ rfl (λe pn E=>(qag (qaq (qa0 (vac qap (vac qd5 qae)))))) (qk7 (yes:=["IsThere"]) (no:=["NoWay","TooDeep","Crowded","Astray","Missing","NotFolder","NoPlace","InItself"]) ⟨.ref cIsThere,B.IsThere,(qah B.k_IsThere B.m_IsThere_IsThere qcr),(qah B.k_NoWay B.m_NoWay_IsThere (qah B.k_TooDeep B.m_TooDeep_IsThere (qah B.k_Crowded B.m_Crowded_IsThere (qah B.k_Astray B.m_Astray_IsThere (qah B.k_Missing B.m_Missing_IsThere (qah B.k_NotFolder B.m_NotFolder_IsThere (qah B.k_NoPlace B.m_NoPlace_IsThere (qah B.k_InItself B.m_InItself_IsThere qcr))))))))⟩ rfl (λe pn E=>(qag (qaq (qa0 (vac qap (vac qd5 qae)))))) (qk7 (yes:=["TooDeep"]) (no:=["NoWay","Crowded","Astray","Missing","NotFolder","NoPlace","IsThere","InItself"]) ⟨.ref cTooDeep,B.TooDeep,(qah B.k_TooDeep B.m_TooDeep_TooDeep qcr),(qah B.k_NoWay B.m_NoWay_TooDeep (qah B.k_Crowded B.m_Crowded_TooDeep (qah B.k_Astray B.m_Astray_TooDeep (qah B.k_Missing B.m_Missing_TooDeep (qah B.k_NotFolder B.m_NotFolder_TooDeep (qah B.k_NoPlace B.m_NoPlace_TooDeep (qah B.k_IsThere B.m_IsThere_TooDeep (qah B.k_InItself B.m_InItself_TooDeep qcr))))))))⟩ rfl (λe pn E=>(qag (qaq (qa0 (vac qap (vac qd5 qae)))))) (qk7 (yes:=["Crowded"]) (no:=["NoWay","TooDeep","Astray","Missing","NotFolder","NoPlace","IsThere","InItself"]) ⟨.ref cCrowded,B.Crowded,(qah B.k_Crowded B.m_Crowded_Crowded qcr),(qah B.k_NoWay B.m_NoWay_Crowded (qah B.k_TooDeep B.m_TooDeep_Crowded (qah B.k_Astray B.m_Astray_Crowded (qah B.k_Missing B.m_Missing_Crowded (qah B.k_NotFolder B.m_NotFolder_Crowded (qah B.k_NoPlace B.m_NoPlace_Crowded (qah B.k_IsThere B.m_IsThere_Crowded (qah B.k_InItself B.m_InItself_Crowded qcr))))))))⟩ rfl (λe pn E=>(qag (qaq (qa0 (vac qap (vac qd5 qae)))))) q0r)))))),q4a⟩
theorem sc_taken:FnScope ["_law_tree","_law_deed","e"] ["_law_tree","_law_deed"] (qaf qoz):=⟨rfl,rfl,rfl,by decide +kernel,rfl,by decide +kernel,by decide +kernel⟩
theorem qya(F:Fun K "_law_taken" "_law_taken" qoz f fd)(B:Blt K mg cGlassError cNoWay cMissing cNotFolder cNoPlace cAstray cIsThere cInItself cTooDeep cCrowded)(Cdone:CalX P w K mg base 11 "done" ["tree","deed"] (spOf K qeg)):FnOk P w K mg base CX0 12 f fd ["_law_tree","_law_deed"] (spOf K qge) :=
 F.okV sc_taken que λcdv A outer s H E hr=>⟨qna,(qab (q0u (λpn E EX' po1 o1=>(qag (qk9 (qb8 Cdone o1 (hr.mono (by decide)) rfl (vac (vv 0) (vac (vv 1) qae))))))
   (q9c (yes:=["NoWay","TooDeep","Crowded","Astray","Missing","NotFolder","NoPlace","IsThere","InItself"]) (no:=[]) (i:=2) sc_taken.nd rfl rfl ⟨.ref cGlassError,B.GlassError,(qah B.k_NoWay B.m_NoWay_GlassError (qah B.k_TooDeep B.m_TooDeep_GlassError (qah B.k_Crowded B.m_Crowded_GlassError (qah B.k_Astray B.m_Astray_GlassError (qah B.k_Missing B.m_Missing_GlassError (qah B.k_NotFolder B.m_NotFolder_GlassError (qah B.k_NoPlace B.m_NoPlace_GlassError (qah B.k_IsThere B.m_IsThere_GlassError (qah B.k_InItself B.m_InItself_GlassError qcr))))))))),qcr⟩ rfl (λe pn E=>(qag (qaq (qqp (q7p (T:="ValueError") (yes:=["NoWay","TooDeep","Crowded","Astray","Missing","NotFolder","NoPlace","IsThere","InItself"]) (no:=[]) (q4s (qah B.k_NoWay B.ek_NoWay (qah B.k_TooDeep B.ek_TooDeep (qah B.k_Crowded B.ek_Crowded (qah B.k_Astray B.ek_Astray (qah B.k_Missing B.ek_Missing (qah B.k_NotFolder B.ek_NotFolder (qah B.k_NoPlace B.ek_NoPlace (qah B.k_IsThere B.ek_IsThere (qah B.k_InItself B.ek_InItself qcr))))))))) qcr) (qah B.k_NoWay B.i_NoWay_ValueError (qah B.k_TooDeep B.i_TooDeep_ValueError (qah B.k_Crowded B.i_Crowded_ValueError (qah B.k_Astray B.i_Astray_ValueError (qah B.k_Missing B.i_Missing_ValueError (qah B.k_NotFolder B.i_NotFolder_ValueError (qah B.k_NoPlace B.i_NoPlace_ValueError (qah B.k_IsThere B.i_IsThere_ValueError (qah B.k_InItself B.i_InItself_ValueError qcr))))))))) qcr rfl B.isinstance rfl B.ValueError PyProof.Rows.Boot.«ValueError» (vv 2)) (qj1 (q7q (q30 (c:=cNotFolder) (yes:=["NotFolder"]) (no:=["NoWay","TooDeep","Crowded","Astray","Missing","NoPlace","IsThere","InItself"]) (q4s (qah B.k_NotFolder B.ek_NotFolder qcr) (qah B.k_NoWay B.ek_NoWay (qah B.k_TooDeep B.ek_TooDeep (qah B.k_Crowded B.ek_Crowded (qah B.k_Astray B.ek_Astray (qah B.k_Missing B.ek_Missing (qah B.k_NoPlace B.ek_NoPlace (qah B.k_IsThere B.ek_IsThere (qah B.k_InItself B.ek_InItself qcr))))))))) (qah B.k_NotFolder B.o_NotFolder_NotFolder qcr) (qah B.k_NoWay B.o_NoWay_NotFolder (qah B.k_TooDeep B.o_TooDeep_NotFolder (qah B.k_Crowded B.o_Crowded_NotFolder (qah B.k_Astray B.o_Astray_NotFolder (qah B.k_Missing B.o_Missing_NotFolder (qah B.k_NoPlace B.o_NoPlace_NotFolder (qah B.k_IsThere B.o_IsThere_NotFolder (qah B.k_InItself B.o_InItself_NotFolder qcr)))))))) rfl B.isinstance rfl B.NotFolder (vv 2)))))))) q0r))
  (qag (qaq qk2))),q4d⟩
theorem sc_same:FnScope ["_law_found","_law_due_here","_law_k","_law_row"] ["_law_found","_law_due_here"] (qaf s_same):=⟨rfl,rfl,rfl,by decide +kernel,rfl,by decide +kernel,by decide +kernel⟩
theorem q13(F:Fun K "_law_same" "_law_same" s_same f fd)(B:Blt K mg cGlassError cNoWay cMissing cNotFolder cNoPlace cAstray cIsThere cInItself cTooDeep cCrowded):FnOk P w K mg base CX0 1 f fd ["_law_found","_law_due_here"] (spOf K g_same) :=
 F.okV sc_same qxq λcdv A outer s H E hr=>⟨qs6,(qab (qbg (vw_t (qgs (qez (qcd (qgq .list rfl B.isinstance rfl B.list PyProof.Rows.Boot.«list» (vv 0)))) (qe1 (qay (qev hr.units) (qbq qbc rfl B.len PyProof.Rows.Boot.«len» (vv 0)) (qbq qbc rfl B.len PyProof.Rows.Boot.«len» (vv 1))))))
   (qag (qaq qk2))
   qan)
  (qab (qiz PassesOwn.never rfl (qpg rfl B.range (qbq qbc rfl B.len PyProof.Rows.Boot.«len» (vv 1))) (qba (i:=2) sc_same.nd rfl (Or.inl rfl))
   (qab (qam (i:=3) sc_same.nd rfl (Or.inl rfl) (qa5 qar (vv 0) (vv 2)))
  (qab (qbg (vw_t (qgs (qez (qcd (qgq .tuple rfl B.isinstance rfl B.tuple PyProof.Rows.Boot.«tuple» (vv 3)))) (qgs (qay (qev hr.units) (qbq qbc rfl B.len PyProof.Rows.Boot.«len» (vv 3)) qad) (qe1 (qez (qcd (qgq .tuple rfl B.isinstance rfl B.tuple PyProof.Rows.Boot.«tuple» (qa5 qar (vv 3) qad))))))))
   (qag (qaq qk2))
   qan)
  (qag (qbg (vw_t (qgs (qez (qcd (qgq .str rfl B.isinstance rfl B.str PyProof.Rows.Boot.«str» (qa5 qar (vv 3) qad)))) (qgs (qez (qcd (qgq .str rfl B.isinstance rfl B.str PyProof.Rows.Boot.«str» (qa5 qar (vv 3) qad)))) (qe1 (qay (qev hr.units) (vv 3) (qa5 qar (vv 1) (vv 2)))))))
   (qag (qaq qk2))
   qan)))))
  (qag (qaq qk2)))),q70⟩
theorem sc_law:FnScope ["_law_script","_law_stem","_law_some","_law_many","_law_things","_law_folders","_law_way","_law_other","_law_over","_law_tree","_law_goes","_law_stays","_law_word","_law_first","_law_deed","_law_handed","_law_due_here","_law_told"] ["_law_script"] (qaf qi9):=⟨rfl,rfl,rfl,by decide +kernel,rfl,by decide +kernel,by decide +kernel⟩
theorem qtf:CompScope (qaf qi9) ["_law_script","_law_stem","_law_some","_law_many","_law_things","_law_folders","_law_way","_law_other","_law_over","_law_tree","_law_goes","_law_stays","_law_word","_law_first","_law_deed","_law_handed","_law_due_here","_law_told"] ["_law_script","_law_stem","_law_some","_law_many","_law_things","_law_folders","_law_way'","_law_other","_law_over","_law_tree","_law_goes","_law_stays","_law_word","_law_first","_law_deed","_law_handed","_law_due_here","_law_told","_law_way"] ["_law_way"] ({ kind:=PySem.ScopeKind.function,names:=[ (PySem.Str.ofString ".0",PySem.NameKind.local),(PySem.Str.ofString "_law_way",PySem.NameKind.local),(PySem.Str.ofString "_law_things",PySem.NameKind.free)],isGenerator:=false,isCoroutine:=false,more:=[]:PySem.Scope }):=⟨rfl,by decide +kernel,by decide +kernel,by decide +kernel,by decide +kernel,rfl,by decide +kernel⟩
theorem q5k(F:Fun K "law" "law" qi9 f fd)(B:Blt K mg cGlassError cNoWay cMissing cNotFolder cNoPlace cAstray cIsThere cInItself cTooDeep cCrowded)(Ccell_at:Cal P w K mg base 1 "_law_cell_at" ["_law_script","_law_k"] (spOf K qb2))(Cmixed:Cal P w K mg base 1 "_law_mixed" ["_law_cell","_law_turn","_law_many"] (spOf K qa3))(Chall_by:Cal P w K mg base 3 "_law_hall_by" ["_law_cells_here","_law_stem"] (spOf K qdy))(Ccells:Cal P w K mg base 2 "_law_cells" ["_law_script","_law_first","_law_step","_law_many"] (spOf K qgd))(Cdug:Cal P w K mg base 2 "_law_dug" ["_law_things","_law_over","_law_deep","_law_stem"] (qr5 K qnw 0))(Ctree_of:Cal P w K mg base 1 "_law_tree_of" ["_law_things"] (spOf K qd1))(Cname_by:Cal P w K mg base 1 "_law_name_by" ["_law_stem","_law_v"] (spOf K qbs))(Cwritten:Cal P w K mg base 1 "_law_written" ["_law_way","_law_rooted"] (spOf K qdh))(Cdue:Cal P w K mg base 2 "_law_due" ["_law_tree","_law_way","_law_goes","_law_stays"] (spOf K qq5))(Casked:Cal P w K mg base 12 "_law_asked" ["_law_tree","_law_deed"] (spOf K qgc))(Ctaken:Cal P w K mg base 12 "_law_taken" ["_law_tree","_law_deed"] (spOf K qge))(Csame:Cal P w K mg base 1 "_law_same" ["_law_found","_law_due_here"] (spOf K g_same))(Cdone:CalX P w K mg base 11 "done" ["tree","deed"] (spOf K qeg)):FnOk P w K mg base CX0 13 f fd ["_law_script"] (spOf K qnx) :=
 F.okV sc_law q1p λcdv A outer s H E hr=>⟨q4r,(qab (qam (i:=1) sc_law.nd rfl (Or.inl rfl) (qal Ccell_at (hr.mono (by decide)) rfl (vac (vv 0) (vac qad qae))))
  (qab (qam (i:=2) sc_law.nd rfl (Or.inl rfl) (qal Ccell_at (hr.mono (by decide)) rfl (vac (vv 0) (vac qad qae))))
  (qab (qam (i:=3) sc_law.nd rfl (Or.inl rfl) (qa2 qa7 qad (qal Cmixed (hr.mono (by decide)) rfl (vac (vv 2) (vac qad (vac qad qae))))))
  (qab (qbg (qay (qcc hr.units) (qal Cmixed (hr.mono (by decide)) rfl (vac (vv 2) (vac qad (vac qad qae)))) qad)
   (qag (qam (i:=3) sc_law.nd rfl (Or.inl rfl) (qa2 qa7 qad (qal Cmixed (hr.mono (by decide)) rfl (vac (vv 2) (vac qad (vac qad qae)))))))
   qan)
  (qab (qey (i:=4) sc_law.nd rfl (Or.inr rfl) (qal Chall_by (hr.mono (by decide)) rfl (vac (qal Ccells (hr.mono (by decide)) rfl (vac (vv 0) (vac qad (vac qad (vac (vv 3) qae))))) (vac (vv 1) qae))))
  (qwd (i:=4) (j:=5) sc_law.nd rfl (Or.inl rfl) (qa2 qa7 (qej (vac (qa0 qae) qae)) (vc_e (qee (M:=["_law_way"]) (qzm 4) rfl qtf (λcl C s2 H2 fp pn=>(qba (i:=18) (qtf).nd rfl (Or.inl rfl))) (λcl C s2 H2 fp pn=>(qpf (qay (qcc hr.units) (qa5 qar (qgp hr.dict (vv 4) (vv 18)) qad) qap))) (λcl C s2 H2 fp pn=>(vv 18)))))
  (qab (qam (i:=6) sc_law.nd rfl (Or.inl rfl) (qa5 qar (qsg (qk4 hr.hd) rfl B.list PyProof.Rows.Boot.«list» (vv 4)) (qal Cmixed (hr.mono (by decide)) rfl (vac (vv 2) (vac qad (vac (qbq q33 rfl B.len PyProof.Rows.Boot.«len» (vv 4)) qae))))))
  (qab (qbg (vw_t (qg1 (qay qjc (qbq qbc rfl B.len PyProof.Rows.Boot.«len» (vv 5)) qad) (qe0 (qay qjc (qal Cmixed (hr.mono (by decide)) rfl (vac (vv 2) (vac qad (vac qad qae)))) qad))))
   (qag (qam (i:=6) sc_law.nd rfl (Or.inl rfl) (qa5 qar (vv 5) (qa2 qa7 qad (qal Cmixed (hr.mono (by decide)) rfl (vac (vv 2) (vac qad (vac (qa2 q0t (qbq qbc rfl B.len PyProof.Rows.Boot.«len» (vv 5)) qad) qae))))))))
   qan)
  (qab (qam (i:=7) sc_law.nd rfl (Or.inl rfl) (qal Ccell_at (hr.mono (by decide)) rfl (vac (vv 0) (vac qad qae))))
  (qab (qam (i:=8) sc_law.nd rfl (Or.inl rfl) (qa5 qar (vv 5) (qal Cmixed (hr.mono (by decide)) rfl (vac (vv 7) (vac qad (vac (qbq qbc rfl B.len PyProof.Rows.Boot.«len» (vv 5)) qae))))))
  (qab (qbg (qay (qcc hr.units) (qal Cmixed (hr.mono (by decide)) rfl (vac (vv 7) (vac qad (vac qad qae)))) qad)
   (qag (qzr (i:=8) sc_law.nd rfl (Or.inl rfl) Cdug (hr.mono (by decide)) rfl (qmu 4 (vac (vv 8) (vac (qa2 qa7 qad (qal Cmixed (hr.mono (by decide)) rfl (vac (vv 7) (vac qad (vac qad qae))))) (vac (vv 1) qae))))))
   qan)
  (qab (qbg (vw_t (qg1 (qay (qcc hr.units) (qal Cmixed (hr.mono (by decide)) rfl (vac (vv 2) (vac qad (vac qad qae)))) qad) (qe0 (qay (qcc hr.units) (qa5 qar (qgp hr.dict (vv 4) (vv 6)) qad) qap))))
   (qag (qzq Cdug (hr.mono (by decide)) rfl (qmu 4 (vac (vv 6) (vac (qa2 qa7 (qbq qbc rfl B.len PyProof.Rows.Boot.«len» (vv 6)) (qal Cmixed (hr.mono (by decide)) rfl (vac (vv 2) (vac qad (vac qad qae))))) (vac (vv 1) qae))))))
   qan)
  (qwc 4 (qab (qam (i:=9) sc_law.nd rfl (Or.inl rfl) (qal Ctree_of (hr.mono (by decide)) rfl (vac (vv 4) qae)))
  (qab (qam (i:=10) sc_law.nd rfl (Or.inl rfl) (qa2 qa7 (vv 8) (qa0 (vac (qal Cname_by (hr.mono (by decide)) rfl (vac (vv 1) (vac (qal Cmixed (hr.mono (by decide)) rfl (vac (vv 7) (vac qad (vac qad qae)))) qae))) qae))))
  (qab (qbg (qay (qcc hr.units) (qal Cmixed (hr.mono (by decide)) rfl (vac (vv 7) (vac qad (vac qad qae)))) qad)
   (qag (qam (i:=10) sc_law.nd rfl (Or.inl rfl) (vv 6)))
   qan)
  (qab (qam (i:=11) sc_law.nd rfl (Or.inl rfl) (qfg (qcc hr.units) (qal Cmixed (hr.mono (by decide)) rfl (vac (vv 7) (vac qad (vac qad qae)))) qad))
  (qab (qam (i:=12) sc_law.nd rfl (Or.inl rfl) qap)
  (qab (qbg (qcd (vv 11))
   (qag (qam (i:=12) sc_law.nd rfl (Or.inl rfl) qap))
   qan)
  (qab (qam (i:=13) sc_law.nd rfl (Or.inl rfl) (qal Cwritten (hr.mono (by decide)) rfl (vac (vv 6) (vac (qfg (qcc hr.units) (qal Cmixed (hr.mono (by decide)) rfl (vac (vv 7) (vac qad (vac qad qae)))) qad) qae))))
  (qab (qam (i:=14) sc_law.nd rfl (Or.inl rfl) (qa0 (vac (vv 12) (vac (vv 13) (vac (qal Cwritten (hr.mono (by decide)) rfl (vac (vv 10) (vac (qfg (qcc hr.units) (qal Cmixed (hr.mono (by decide)) rfl (vac (vv 7) (vac qad (vac qad qae)))) qad) qae))) qae)))))
  (qab (qam (i:=15) sc_law.nd rfl (Or.inl rfl) (qsg qv8 rfl B.list PyProof.Rows.Boot.«list» (vv 9)))
  (qab (qam (i:=16) sc_law.nd rfl (Or.inl rfl) (qal Cdue (hr.mono (by decide)) rfl (vac (vv 9) (vac (vv 6) (vac (vv 10) (vac (vv 11) qae))))))
  (qab (qam (i:=17) sc_law.nd rfl (Or.inl rfl) (qal Casked (hr.mono (by decide)) rfl (vac (vv 15) (vac (vv 14) qae))))
  (qab (qbg (vw_t (qgs (qay (qev hr.units) (qa5 qar (vv 17) qad) (qa5 qar (vv 16) qad)) (qe1 (qay (qev hr.units) (vv 15) (vv 9)))))
   (qag (qaq qk2))
   qan)
  (qab (qbg (qay (qev hr.units) (qa5 qar (vv 16) qad) qap)
   (qag (qaq (qal Ctaken (hr.mono (by decide)) rfl (vac (vv 15) (vac (vv 14) qae)))))
   qan)
  (qag (qaq (qqp (qal Csame (hr.mono (by decide)) rfl (vac (qa5 qar (vv 17) qad) (vac (qa5 qar (vv 16) qad) qae))) (qj1 (qal Csame (hr.mono (by decide)) rfl (vac (q3z Cdone (hr.mono (by decide)) rfl (vac (vv 15) (vac (vv 14) qae))) (vac (qa5 qar (vv 16) qad) qae))))))))))))))))))))))))))))))))),q9f⟩
end
theorem q9h{l:PySem.W.OpenLaw}{w:World}{K:PySem.W.Frag}{h:Heap}{mg:Str->Option Value}{fa:Addr}(X:K.In h)(G:h.Ns mainGlobals mg)(hfa:mg "law" = some (.ref fa))
  {f26:Addr} {od26 an26:Option Addr} {sl26:Array (Option Value)} {oc26 kV26 dc26 pm26 cd26 ct26:Value}
  {f27:Addr} {od27 an27:Option Addr} {sl27:Array (Option Value)} {oc27 kV27 dc27 pm27 cd27 ct27:Value}
  {f44:Addr} {od44 an44:Option Addr} {sl44:Array (Option Value)} {oc44 kV44 dc44 pm44 cd44 ct44:Value}
  {cGlassError:Addr}
  {cNoWay:Addr}
  {cMissing:Addr}
  {cNotFolder:Addr}
  {cNoPlace:Addr}
  {cAstray:Addr}
  {cIsThere:Addr}
  {cInItself:Addr}
  {cTooDeep:Addr}
  {cCrowded:Addr}
  {gt_NAME_SIGNS:Tok}
  {gt_LONGEST_NAME:Tok}
  {gt_MOST_WORDS:Tok}
  {gt_MOST_NAMES:Tok}
  {gt_MOST_ENTRIES:Tok}
  {ad_ROOT_THING:Addr} {ob_ROOT_THING:Obj} {sn_ROOT_THING:Nat} {gt_ROOT_THING0:Tok} {gt_ROOT_THING1:Tok}
  {gt_MOST_LINKS:Tok}
  {dT_CHANGES:Addr} {eT_CHANGES:Array DictEntry} {nT_CHANGES:Nat}
  (d1:qbj K "is_name" qfx)
  (d2:qbj K "above" qow)
  (d3:qbj K "lies_under" qeq)
  (d4:qbj K "shifted" qin)
  (d5:qbj K "is_word" qik)
  (d6:qbj K "words_of" qe9)
  (d7:qbj K "step" qvl)
  (d8:qbj K "in_order" qgg)
  (d9:qbj K "part" qqb)
  (d10:qbj K "without" qf0)
  (d11:qbj K "planted" qfy)
  (d12:qbj K "grafted" qii)
  (d13:qbj K "refuse_depth" qcz)
  (d14:qbj K "refuse_crowd" qdu)
  (d15:qbj K "changed" qih)
  (d16:qbj K "things_of" qfm)
  (d17:qbj K "thing_at" qgk)
  (d18:qbj K "start_of" qgj)
  (d19:qbj K "one_more" qgh)
  (d20:qbj K "walk" qvm)
  (d21:qbj K "placed" qkv)
  (d22:qbj K "place_of" qgi)
  (d23:qbj K "refuse_taken" qdv)
  (d24:qbj K "taken_place" qec)
  (d25:qbj K "carried" qif)
  (a26:PySem.W.nsIn K mainGlobals "move_changes" = some (some (.ref f26))) (l26:K.lookup f26=some ⟨oc26,od26,.func (PySem.W.fnOf "move_changes" "move_changes" (qcs qb0) (qbn qb0) (qaf qb0) .none kV26 dc26 pm26 an26 cd26 ct26),sl26⟩) (c26:PySem.W.codeIn K cd26 "move_changes" = true) (k26:PySem.W.keepIn K (.ref f26)=true)
  (a27:PySem.W.nsIn K mainGlobals "copy_changes" = some (some (.ref f27))) (l27:K.lookup f27=some ⟨oc27,od27,.func (PySem.W.fnOf "copy_changes" "copy_changes" (qcs qbz) (qbn qbz) (qaf qbz) .none kV27 dc27 pm27 an27 cd27 ct27),sl27⟩) (c27:PySem.W.codeIn K cd27 "copy_changes" = true) (k27:PySem.W.keepIn K (.ref f27)=true)
  (d28:qbj K "changes_of" qep)
  (d29:qbj K "done" qvk)
  (d30:qbj K "_law_cell_at" qig)
  (d31:qbj K "_law_cells" qku)
  (d32:qbj K "_law_mixed" qoy)
  (d33:qbj K "_law_name_by" qim)
  (d34:qbj K "_law_link_by" qil)
  (d35:qbj K "_law_hall_by" qij)
  (d36:qbj K "_law_tree_of" qfz)
  (d37:qbj K "_law_same" s_same)
  (d38:qbj K "_law_under" qo0)
  (d39:qbj K "_law_written" qio)
  (d40:qbj K "_law_dug" q3m)
  (d41:qbj K "_law_asked" qox)
  (d42:qbj K "_law_taken" qoz)
  (d43:qbj K "_law_due" q3l)
  (a44:PySem.W.nsIn K mainGlobals "law" = some (some (.ref f44))) (l44:K.lookup f44=some ⟨oc44,od44,.func (PySem.W.fnOf "law" "law" (qcs qi9) (qbn qi9) (qaf qi9) .none kV44 dc44 pm44 an44 cd44 ct44),sl44⟩) (c44:PySem.W.codeIn K cd44 "law" = true) (k44:PySem.W.keepIn K (.ref f44)=true)
  (q_GlassError:PySem.W.nsIn K mainGlobals "GlassError" = some (some (.ref cGlassError)))
  (q_NoWay:PySem.W.nsIn K mainGlobals "NoWay" = some (some (.ref cNoWay)))
  (q_Missing:PySem.W.nsIn K mainGlobals "Missing" = some (some (.ref cMissing)))
  (q_NotFolder:PySem.W.nsIn K mainGlobals "NotFolder" = some (some (.ref cNotFolder)))
  (q_NoPlace:PySem.W.nsIn K mainGlobals "NoPlace" = some (some (.ref cNoPlace)))
  (q_Astray:PySem.W.nsIn K mainGlobals "Astray" = some (some (.ref cAstray)))
  (q_IsThere:PySem.W.nsIn K mainGlobals "IsThere" = some (some (.ref cIsThere)))
  (q_InItself:PySem.W.nsIn K mainGlobals "InItself" = some (some (.ref cInItself)))
  (q_TooDeep:PySem.W.nsIn K mainGlobals "TooDeep" = some (some (.ref cTooDeep)))
  (q_Crowded:PySem.W.nsIn K mainGlobals "Crowded" = some (some (.ref cCrowded)))
  (x_NoWay:OwnX K cNoWay)
  (ek_NoWay:ExcK K cNoWay)
  (x_TooDeep:OwnX K cTooDeep)
  (ek_TooDeep:ExcK K cTooDeep)
  (x_Crowded:OwnX K cCrowded)
  (ek_Crowded:ExcK K cCrowded)
  (x_Astray:OwnX K cAstray)
  (ek_Astray:ExcK K cAstray)
  (x_Missing:OwnX K cMissing)
  (ek_Missing:ExcK K cMissing)
  (x_NotFolder:OwnX K cNotFolder)
  (ek_NotFolder:ExcK K cNotFolder)
  (x_NoPlace:OwnX K cNoPlace)
  (ek_NoPlace:ExcK K cNoPlace)
  (x_IsThere:OwnX K cIsThere)
  (ek_IsThere:ExcK K cIsThere)
  (x_InItself:OwnX K cInItself)
  (ek_InItself:ExcK K cInItself)
  (m_NoWay_Crowded:PySem.W.exmOne K (.ref cNoWay) (.ref cCrowded)=some false)
  (m_TooDeep_Crowded:PySem.W.exmOne K (.ref cTooDeep) (.ref cCrowded)=some false)
  (m_Crowded_Crowded:PySem.W.exmOne K (.ref cCrowded) (.ref cCrowded)=some true)
  (m_Astray_Crowded:PySem.W.exmOne K (.ref cAstray) (.ref cCrowded)=some false)
  (m_Missing_Crowded:PySem.W.exmOne K (.ref cMissing) (.ref cCrowded)=some false)
  (m_NotFolder_Crowded:PySem.W.exmOne K (.ref cNotFolder) (.ref cCrowded)=some false)
  (m_NoPlace_Crowded:PySem.W.exmOne K (.ref cNoPlace) (.ref cCrowded)=some false)
  (m_IsThere_Crowded:PySem.W.exmOne K (.ref cIsThere) (.ref cCrowded)=some false)
  (m_InItself_Crowded:PySem.W.exmOne K (.ref cInItself) (.ref cCrowded)=some false)
  (m_NoWay_TooDeep:PySem.W.exmOne K (.ref cNoWay) (.ref cTooDeep)=some false)
  (m_TooDeep_TooDeep:PySem.W.exmOne K (.ref cTooDeep) (.ref cTooDeep)=some true)
  (m_Crowded_TooDeep:PySem.W.exmOne K (.ref cCrowded) (.ref cTooDeep)=some false)
  (m_Astray_TooDeep:PySem.W.exmOne K (.ref cAstray) (.ref cTooDeep)=some false)
  (m_Missing_TooDeep:PySem.W.exmOne K (.ref cMissing) (.ref cTooDeep)=some false)
  (m_NotFolder_TooDeep:PySem.W.exmOne K (.ref cNotFolder) (.ref cTooDeep)=some false)
  (m_NoPlace_TooDeep:PySem.W.exmOne K (.ref cNoPlace) (.ref cTooDeep)=some false)
  (m_IsThere_TooDeep:PySem.W.exmOne K (.ref cIsThere) (.ref cTooDeep)=some false)
  (m_InItself_TooDeep:PySem.W.exmOne K (.ref cInItself) (.ref cTooDeep)=some false)
  (m_NoWay_IsThere:PySem.W.exmOne K (.ref cNoWay) (.ref cIsThere)=some false)
  (m_TooDeep_IsThere:PySem.W.exmOne K (.ref cTooDeep) (.ref cIsThere)=some false)
  (m_Crowded_IsThere:PySem.W.exmOne K (.ref cCrowded) (.ref cIsThere)=some false)
  (m_Astray_IsThere:PySem.W.exmOne K (.ref cAstray) (.ref cIsThere)=some false)
  (m_Missing_IsThere:PySem.W.exmOne K (.ref cMissing) (.ref cIsThere)=some false)
  (m_NotFolder_IsThere:PySem.W.exmOne K (.ref cNotFolder) (.ref cIsThere)=some false)
  (m_NoPlace_IsThere:PySem.W.exmOne K (.ref cNoPlace) (.ref cIsThere)=some false)
  (m_IsThere_IsThere:PySem.W.exmOne K (.ref cIsThere) (.ref cIsThere)=some true)
  (m_InItself_IsThere:PySem.W.exmOne K (.ref cInItself) (.ref cIsThere)=some false)
  (m_NoWay_InItself:PySem.W.exmOne K (.ref cNoWay) (.ref cInItself)=some false)
  (m_TooDeep_InItself:PySem.W.exmOne K (.ref cTooDeep) (.ref cInItself)=some false)
  (m_Crowded_InItself:PySem.W.exmOne K (.ref cCrowded) (.ref cInItself)=some false)
  (m_Astray_InItself:PySem.W.exmOne K (.ref cAstray) (.ref cInItself)=some false)
  (m_Missing_InItself:PySem.W.exmOne K (.ref cMissing) (.ref cInItself)=some false)
  (m_NotFolder_InItself:PySem.W.exmOne K (.ref cNotFolder) (.ref cInItself)=some false)
  (m_NoPlace_InItself:PySem.W.exmOne K (.ref cNoPlace) (.ref cInItself)=some false)
  (m_IsThere_InItself:PySem.W.exmOne K (.ref cIsThere) (.ref cInItself)=some false)
  (m_InItself_InItself:PySem.W.exmOne K (.ref cInItself) (.ref cInItself)=some true)
  (m_NoWay_GlassError:PySem.W.exmOne K (.ref cNoWay) (.ref cGlassError)=some true)
  (m_TooDeep_GlassError:PySem.W.exmOne K (.ref cTooDeep) (.ref cGlassError)=some true)
  (m_Crowded_GlassError:PySem.W.exmOne K (.ref cCrowded) (.ref cGlassError)=some true)
  (m_Astray_GlassError:PySem.W.exmOne K (.ref cAstray) (.ref cGlassError)=some true)
  (m_Missing_GlassError:PySem.W.exmOne K (.ref cMissing) (.ref cGlassError)=some true)
  (m_NotFolder_GlassError:PySem.W.exmOne K (.ref cNotFolder) (.ref cGlassError)=some true)
  (m_NoPlace_GlassError:PySem.W.exmOne K (.ref cNoPlace) (.ref cGlassError)=some true)
  (m_IsThere_GlassError:PySem.W.exmOne K (.ref cIsThere) (.ref cGlassError)=some true)
  (m_InItself_GlassError:PySem.W.exmOne K (.ref cInItself) (.ref cGlassError)=some true)
  (o_NoWay_NotFolder:PySem.W.kitOne K (.ref cNoWay) (.ref cNotFolder)=some false)
  (o_TooDeep_NotFolder:PySem.W.kitOne K (.ref cTooDeep) (.ref cNotFolder)=some false)
  (o_Crowded_NotFolder:PySem.W.kitOne K (.ref cCrowded) (.ref cNotFolder)=some false)
  (o_Astray_NotFolder:PySem.W.kitOne K (.ref cAstray) (.ref cNotFolder)=some false)
  (o_Missing_NotFolder:PySem.W.kitOne K (.ref cMissing) (.ref cNotFolder)=some false)
  (o_NotFolder_NotFolder:PySem.W.kitOne K (.ref cNotFolder) (.ref cNotFolder)=some true)
  (o_NoPlace_NotFolder:PySem.W.kitOne K (.ref cNoPlace) (.ref cNotFolder)=some false)
  (o_IsThere_NotFolder:PySem.W.kitOne K (.ref cIsThere) (.ref cNotFolder)=some false)
  (o_InItself_NotFolder:PySem.W.kitOne K (.ref cInItself) (.ref cNotFolder)=some false)
  (i_NoWay_ValueError:PySem.W.kitOne K (.ref cNoWay) (.type "ValueError")=some true)
  (i_TooDeep_ValueError:PySem.W.kitOne K (.ref cTooDeep) (.type "ValueError")=some true)
  (i_Crowded_ValueError:PySem.W.kitOne K (.ref cCrowded) (.type "ValueError")=some true)
  (i_Astray_ValueError:PySem.W.kitOne K (.ref cAstray) (.type "ValueError")=some true)
  (i_Missing_ValueError:PySem.W.kitOne K (.ref cMissing) (.type "ValueError")=some true)
  (i_NotFolder_ValueError:PySem.W.kitOne K (.ref cNotFolder) (.type "ValueError")=some true)
  (i_NoPlace_ValueError:PySem.W.kitOne K (.ref cNoPlace) (.type "ValueError")=some true)
  (i_IsThere_ValueError:PySem.W.kitOne K (.ref cIsThere) (.type "ValueError")=some true)
  (i_InItself_ValueError:PySem.W.kitOne K (.ref cInItself) (.type "ValueError")=some true)
  (g_NAME_SIGNS:PySem.W.nsIn K mainGlobals "NAME_SIGNS" = some (some (.str ("abcdefghijklmnopqrstuvwxyz0123456789" : Str) gt_NAME_SIGNS)))
  (g_LONGEST_NAME:PySem.W.nsIn K mainGlobals "LONGEST_NAME" = some (some (.int 12 gt_LONGEST_NAME)))
  (g_MOST_WORDS:PySem.W.nsIn K mainGlobals "MOST_WORDS" = some (some (.int 40 gt_MOST_WORDS)))
  (g_MOST_NAMES:PySem.W.nsIn K mainGlobals "MOST_NAMES" = some (some (.int 12 gt_MOST_NAMES)))
  (g_MOST_ENTRIES:PySem.W.nsIn K mainGlobals "MOST_ENTRIES" = some (some (.int 60 gt_MOST_ENTRIES)))
  (g_ROOT_THING:PySem.W.nsIn K mainGlobals "ROOT_THING" = some (some (.ref ad_ROOT_THING)))
  (h_ROOT_THING:K.lookup ad_ROOT_THING=some ob_ROOT_THING)
  (u_ROOT_THING:ob_ROOT_THING.cls=.type "tuple")
  (w_ROOT_THING:ob_ROOT_THING.data=.seq #[.str ("folder" : Str) gt_ROOT_THING0,.str ("" : Str) gt_ROOT_THING1] sn_ROOT_THING)
  (g_MOST_LINKS:PySem.W.nsIn K mainGlobals "MOST_LINKS" = some (some (.int 8 gt_MOST_LINKS)))
  (gT_CHANGES:PySem.W.nsIn K mainGlobals "CHANGES" = some (some (.ref dT_CHANGES)))
  (lT_CHANGES:K.lookup dT_CHANGES=some ⟨.type "dict",none,.dict eT_CHANGES nT_CHANGES,#[]⟩)
  (kT_CHANGES:PySem.W.KeysLit w.params eT_CHANGES.toList)
  (vT_CHANGES_move:PySem.W.nsIn K dT_CHANGES "move" = some (some (.ref f26)))
  (vT_CHANGES_copy:PySem.W.nsIn K dT_CHANGES "copy" = some (some (.ref f27)))
  (z_ValueError:PySem.W.nsIn K mainGlobals "ValueError" = some none)
  (z_all:PySem.W.nsIn K mainGlobals "all" = some none)
  (z_isinstance:PySem.W.nsIn K mainGlobals "isinstance" = some none)
  (z_len:PySem.W.nsIn K mainGlobals "len" = some none)
  (z_list:PySem.W.nsIn K mainGlobals "list" = some none)
  (z_max:PySem.W.nsIn K mainGlobals "max" = some none)
  (z_range:PySem.W.nsIn K mainGlobals "range" = some none)
  (z_sorted:PySem.W.nsIn K mainGlobals "sorted" = some none)
  (z_str:PySem.W.nsIn K mainGlobals "str" = some none)
  (z_tuple:PySem.W.nsIn K mainGlobals "tuple" = some none) :
  ∃fd:FuncData,(∀(s:Shared) (v:Value),BindsTo s fd ⟨[v],[]⟩ [("_law_script",v)])/\∀base:Heap,K.In base->base.Ns mainGlobals mg->FnOk l.prog w K mg base CX0 13 fa fd ["_law_script"] (spOf K qnx):=by
 have e:=hfa.symm.trans (PySem.W.mg_of X G a44)
 cases e
 have B:Blt K mg cGlassError cNoWay cMissing cNotFolder cNoPlace cAstray cIsThere cInItself cTooDeep cCrowded:=⟨PySem.W.mg_of X G q_GlassError,q_GlassError,PySem.W.mg_of X G q_NoWay,q_NoWay,PySem.W.mg_of X G q_Missing,q_Missing,PySem.W.mg_of X G q_NotFolder,q_NotFolder,PySem.W.mg_of X G q_NoPlace,q_NoPlace,PySem.W.mg_of X G q_Astray,q_Astray,PySem.W.mg_of X G q_IsThere,q_IsThere,PySem.W.mg_of X G q_InItself,q_InItself,PySem.W.mg_of X G q_TooDeep,q_TooDeep,PySem.W.mg_of X G q_Crowded,q_Crowded,x_NoWay,ek_NoWay,x_TooDeep,ek_TooDeep,x_Crowded,ek_Crowded,x_Astray,ek_Astray,x_Missing,ek_Missing,x_NotFolder,ek_NotFolder,x_NoPlace,ek_NoPlace,x_IsThere,ek_IsThere,x_InItself,ek_InItself,m_NoWay_Crowded,m_TooDeep_Crowded,m_Crowded_Crowded,m_Astray_Crowded,m_Missing_Crowded,m_NotFolder_Crowded,m_NoPlace_Crowded,m_IsThere_Crowded,m_InItself_Crowded,m_NoWay_TooDeep,m_TooDeep_TooDeep,m_Crowded_TooDeep,m_Astray_TooDeep,m_Missing_TooDeep,m_NotFolder_TooDeep,m_NoPlace_TooDeep,m_IsThere_TooDeep,m_InItself_TooDeep,m_NoWay_IsThere,m_TooDeep_IsThere,m_Crowded_IsThere,m_Astray_IsThere,m_Missing_IsThere,m_NotFolder_IsThere,m_NoPlace_IsThere,m_IsThere_IsThere,m_InItself_IsThere,m_NoWay_InItself,m_TooDeep_InItself,m_Crowded_InItself,m_Astray_InItself,m_Missing_InItself,m_NotFolder_InItself,m_NoPlace_InItself,m_IsThere_InItself,m_InItself_InItself,m_NoWay_GlassError,m_TooDeep_GlassError,m_Crowded_GlassError,m_Astray_GlassError,m_Missing_GlassError,m_NotFolder_GlassError,m_NoPlace_GlassError,m_IsThere_GlassError,m_InItself_GlassError,o_NoWay_NotFolder,o_TooDeep_NotFolder,o_Crowded_NotFolder,o_Astray_NotFolder,o_Missing_NotFolder,o_NotFolder_NotFolder,o_NoPlace_NotFolder,o_IsThere_NotFolder,o_InItself_NotFolder,i_NoWay_ValueError,i_TooDeep_ValueError,i_Crowded_ValueError,i_Astray_ValueError,i_Missing_ValueError,i_NotFolder_ValueError,i_NoPlace_ValueError,i_IsThere_ValueError,i_InItself_ValueError,PySem.W.mg_none_of X G z_ValueError,PySem.W.mg_none_of X G z_all,PySem.W.mg_none_of X G z_isinstance,PySem.W.mg_none_of X G z_len,PySem.W.mg_none_of X G z_list,PySem.W.mg_none_of X G z_max,PySem.W.mg_none_of X G z_range,PySem.W.mg_none_of X G z_sorted,PySem.W.mg_none_of X G z_str,PySem.W.mg_none_of X G z_tuple,⟨_,PySem.W.mg_of X G g_NAME_SIGNS⟩,⟨_,PySem.W.mg_of X G g_LONGEST_NAME⟩,⟨_,PySem.W.mg_of X G g_MOST_WORDS⟩,⟨_,PySem.W.mg_of X G g_MOST_NAMES⟩,⟨_,PySem.W.mg_of X G g_MOST_ENTRIES⟩,⟨_,PySem.W.mg_of X G g_ROOT_THING,.inr ⟨_,_,_,h_ROOT_THING,u_ROOT_THING,w_ROOT_THING,Nat.le_of_ble_eq_true rfl,(.cons ⟨_,rfl⟩ (.cons ⟨_,rfl⟩ .nil))⟩⟩,⟨_,PySem.W.mg_of X G g_MOST_LINKS⟩⟩
 have F26:=qpt (st:=qb0) l26 c26 k26
 have b26:=F26.binds2 (ps:=["tree","deed"]) rfl λ_ _ _ _ _ _ _ _=>rfl
 have F27:=qpt (st:=qbz) l27 c27 k27
 have b27:=F27.binds2 (ps:=["tree","deed"]) rfl λ_ _ _ _ _ _ _ _=>rfl
 have F44:=qpt (st:=qi9) l44 c44 k44
 have b44:=F44.binds1 (ps:=["_law_script"]) rfl λ_ _ _ _ _ _ _=>rfl
 refine⟨PySem.W.fnOf "law" "law" (qcs qi9) (qbn qi9) (qaf qi9) .none kV44 dc44 pm44 an44 cd44 ct44,λs v=>.of_eq rfl,λbase _ _=>?_⟩
 have T_CHANGES:TabF w K mg ("CHANGES" : Str) [(("move" : Str),("move_changes" : Str)),(("copy" : Str),("copy_changes" : Str))]:=⟨dT_CHANGES,eT_CHANGES,nT_CHANGES,PySem.W.mg_of X G gT_CHANGES,lT_CHANGES,kT_CHANGES,λp hp=>by
  simp only[List.mem_cons,List.not_mem_nil,or_false] at hp
  rcases hp with rfl|rfl
  ·exact vT_CHANGES_move.trans (congrArg some (PySem.W.mg_of X G a26).symm)
  ·exact vT_CHANGES_copy.trans (congrArg some (PySem.W.mg_of X G a27).symm)⟩
 have Ccell_at:=calD l.prog w base X G d30 (λF=>qrf F B) λF=>F.binds2 (ps:=["_law_script","_law_k"]) rfl λ_ _ _ _ _ _ _ _=>rfl
 have Cmixed:=calD l.prog w base X G d32 (λF=>qx9 F B) λF=>F.binds3 (ps:=["_law_cell","_law_turn","_law_many"]) rfl λ_ _ _ _ _ _ _ _ _=>rfl
 have Cname_by:=calD l.prog w base X G d33 (λF=>qrm F B) λF=>F.binds2 (ps:=["_law_stem","_law_v"]) rfl λ_ _ _ _ _ _ _ _=>rfl
 have Clink_by:=calD l.prog w base X G d34 (λF=>qrl F B Cmixed) λF=>F.binds4 (ps:=["_law_ways","_law_over","_law_cell","_law_name"]) rfl λ_ _ _ _ _ _ _ _ _ _=>rfl
 have Chall_by:=calD l.prog w base X G d35 (λF=>qri F B Cmixed Cname_by Clink_by) λF=>F.binds2 (ps:=["_law_cells_here","_law_stem"]) rfl λ_ _ _ _ _ _ _ _=>rfl
 have Ccells:=calD l.prog w base X G d31 (λF=>qx8 F B Ccell_at) λF=>F.binds4 (ps:=["_law_script","_law_first","_law_step","_law_many"]) rfl λ_ _ _ _ _ _ _ _ _ _=>rfl
 have Cdug:=calD l.prog w base X G d40 (λF=>q5j F B Cname_by) λF=>F.binds4 (ps:=["_law_things","_law_over","_law_deep","_law_stem"]) rfl λ_ _ _ _ _ _ _ _ _ _=>rfl
 have Ctree_of:=calD l.prog w base X G d36 (λF=>qrp F B) λF=>F.binds1 (ps:=["_law_things"]) rfl λ_ _ _ _ _ _ _=>rfl
 have Cwritten:=calD l.prog w base X G d39 (λF=>qrr F B) λF=>F.binds2 (ps:=["_law_way","_law_rooted"]) rfl λ_ _ _ _ _ _ _ _=>rfl
 have Cunder:=calD l.prog w base X G d38 (λF=>qyb F B) λF=>F.binds2 (ps:=["_law_way","_law_over"]) rfl λ_ _ _ _ _ _ _ _=>rfl
 have Cdue:=calD l.prog w base X G d43 (λF=>q5i F B Cunder) λF=>F.binds4 (ps:=["_law_tree","_law_way","_law_goes","_law_stays"]) rfl λ_ _ _ _ _ _ _ _ _ _=>rfl
 have Clies_under:=calD l.prog w base X G d3 (λF=>qko F B) λF=>F.binds2 (ps:=["way","other"]) rfl λ_ _ _ _ _ _ _ _=>rfl
 have Cwithout:=calD l.prog w base X G d10 (λF=>qrq F B Clies_under) λF=>F.binds2 (ps:=["tree","way"]) rfl λ_ _ _ _ _ _ _ _=>rfl
 have Cin_order:=calD l.prog w base X G d8 (λF=>qoj F B) λF=>F.binds1 (ps:=["entries"]) rfl λ_ _ _ _ _ _ _=>rfl
 have Cshifted:=calD l.prog w base X G d4 (λF=>qro F B Clies_under) λF=>F.binds3 (ps:=["way","old","new"]) rfl λ_ _ _ _ _ _ _ _ _=>rfl
 have Cplanted:=calD l.prog w base X G d11 (λF=>qrn F B Cshifted) λF=>F.binds3 (ps:=["way","thing","below"]) rfl λ_ _ _ _ _ _ _ _ _=>rfl
 have Cgrafted:=calD l.prog w base X G d12 (λF=>qrh F B Cin_order Cwithout Cplanted) λF=>F.binds4 (ps:=["tree","way","thing","below"]) rfl λ_ _ _ _ _ _ _ _ _ _=>rfl
 have Cchanged:=calD l.prog w base X G d15 (λF=>qrg F B Cwithout Cgrafted) λF=>F.binds2 (ps:=["tree","changes"]) rfl λ_ _ _ _ _ _ _ _=>rfl
 have Cis_name:=calD l.prog w base X G d1 (λF=>qrj F B) λF=>F.binds1 (ps:=["thing"]) rfl λ_ _ _ _ _ _ _=>rfl
 have Cis_word:=calD l.prog w base X G d5 (λF=>qrk F B Cis_name) λF=>F.binds1 (ps:=["text"]) rfl λ_ _ _ _ _ _ _=>rfl
 have Cwords_of:=qg3 l.prog w base X G d6 (λF=>qoo F B Cis_word) λF=>F.binds1 (ps:=["text"]) rfl λ_ _ _ _ _ _ _=>rfl
 have Cabove:=calD l.prog w base X G d2 (λF=>qx6 F B) λF=>F.binds1 (ps:=["way"]) rfl λ_ _ _ _ _ _ _=>rfl
 have Cstep:=calD l.prog w base X G d7 (λF=>q14 F B Cabove) λF=>F.binds2 (ps:=["way","word"]) rfl λ_ _ _ _ _ _ _ _=>rfl
 have Cone_more:=qg3 l.prog w base X G d19 (λF=>qok F B) λF=>F.binds1 (ps:=["followed"]) rfl λ_ _ _ _ _ _ _=>rfl
 have Cstart_of:=calD l.prog w base X G d18 (λF=>qom F B) λF=>F.binds2 (ps:=["rooted","at"]) rfl λ_ _ _ _ _ _ _ _=>rfl
 have Cwalk:=qg3 l.prog w base X G d20 (λF=>q15 F B Cstep Cone_more Cwords_of Cstart_of) λF=>F.binds4 (ps:=["things","at","words","followed"]) rfl λ_ _ _ _ _ _ _ _ _ _=>rfl
 have Cplaced:=qg3 l.prog w base X G d21 (λF=>qur F B Cwords_of Cis_name Cwalk Cstart_of) λF=>F.binds4 (ps:=["things","at","text","followed"]) rfl λ_ _ _ _ _ _ _ _ _ _=>rfl
 have Cthings_of:=calD l.prog w base X G d16 (λF=>qmb F B) λF=>F.binds1 (ps:=["tree"]) rfl λ_ _ _ _ _ _ _=>rfl
 have Cplace_of:=qg3 l.prog w base X G d22 (λF=>qol F B Cplaced Cthings_of) λF=>F.binds3 (ps:=["tree","at","text"]) rfl λ_ _ _ _ _ _ _ _ _=>rfl
 have Cthing_at:=calD l.prog w base X G d17 (λF=>qon F B Cthings_of) λF=>F.binds2 (ps:=["tree","way"]) rfl λ_ _ _ _ _ _ _ _=>rfl
 have Ctaken_place:=qg3 l.prog w base X G d24 (λF=>qi8 F B Cplace_of Cthing_at) λF=>F.binds2 (ps:=["tree","where"]) rfl λ_ _ _ _ _ _ _ _=>rfl
 have Crefuse_taken:=qg3 l.prog w base X G d23 (λF=>qia F B Cthing_at) λF=>F.binds2 (ps:=["tree","way"]) rfl λ_ _ _ _ _ _ _ _=>rfl
 have Cpart:=calD l.prog w base X G d9 (λF=>q12 F B Cshifted Clies_under) λF=>F.binds2 (ps:=["tree","way"]) rfl λ_ _ _ _ _ _ _ _=>rfl
 have Crefuse_depth:=qg3 l.prog w base X G d13 (λF=>qh9 F B) λF=>F.binds2 (ps:=["way","below"]) rfl λ_ _ _ _ _ _ _ _=>rfl
 have Ccarried:=qg3 l.prog w base X G d25 (λF=>qre F B Ctaken_place Cplace_of Clies_under Crefuse_taken Cpart Crefuse_depth Cthing_at) λF=>F.binds2 (ps:=["tree","deed"]) rfl λ_ _ _ _ _ _ _ _=>rfl
 have Cmove_changes:=CalX.mk (qh7 (P:=l.prog) (w:=w) (mg:=mg) (base:=base) F26 B Ccarried) (PySem.W.mg_of X G a26) k26 b26
 have Crefuse_crowd:=qg3 l.prog w base X G d14 (λF=>qh8 F B) λF=>F.binds2 (ps:=["tree","below"]) rfl λ_ _ _ _ _ _ _ _=>rfl
 have Ccopy_changes:=CalX.mk (qh6 (P:=l.prog) (w:=w) (mg:=mg) (base:=base) F27 B Ccarried Crefuse_crowd) (PySem.W.mg_of X G a27) k27 b27
 have Cchanges_of:=qg3 l.prog w base X G d28 (λF=>qkn F B Cmove_changes Ccopy_changes T_CHANGES) λF=>F.binds2 (ps:=["tree","deed"]) rfl λ_ _ _ _ _ _ _ _=>rfl
 have Cdone:=qg3 l.prog w base X G d29 (λF=>q11 F B Cchanged Cchanges_of) λF=>F.binds2 (ps:=["tree","deed"]) rfl λ_ _ _ _ _ _ _ _=>rfl
 have Casked:=calD l.prog w base X G d41 (λF=>qx7 F B Cdone) λF=>F.binds2 (ps:=["_law_tree","_law_deed"]) rfl λ_ _ _ _ _ _ _ _=>rfl
 have Ctaken:=calD l.prog w base X G d42 (λF=>qya F B Cdone) λF=>F.binds2 (ps:=["_law_tree","_law_deed"]) rfl λ_ _ _ _ _ _ _ _=>rfl
 have Csame:=calD l.prog w base X G d37 (λF=>q13 F B) λF=>F.binds2 (ps:=["_law_found","_law_due_here"]) rfl λ_ _ _ _ _ _ _ _=>rfl
 exact q5k F44 B Ccell_at Cmixed Chall_by Ccells Cdug Ctree_of Cname_by Cwritten Cdue Casked Ctaken Csame Cdone
theorem walk{l:PySem.W.OpenLaw}{q:Program}{loose:List Str}{XP:(Str->Option Value)->Heap->Prop}{YP:World->Heap->Prop}{d:DefRec}{K:Params->PySem.W.Frag}(hn:l.most=some 63)(hdf:d.params.defaults=[])
  (hY:∀(w:World) (h:Heap),YP w h->(K w.params).In h)
  (F:∀(w:World) (mg:Str->Option Value) (fa:Addr) (h:Heap),(K w.params).In h->h.Ns mainGlobals mg->mg d.name=some (.ref fa) ->
   ∃fd:FuncData,(∀(s:Shared) (u:Value),BindsTo s fd ⟨[u],[]⟩ [("_law_script",u)])/\∀base:Heap,(K w.params).In base->base.Ns mainGlobals mg->FnOk l.prog w (K w.params) mg base CX0 13 fa fd ["_law_script"] (spOf (K w.params) qnx)) :
  PySem.W.WalkO q loose XP YP l.row.toRowW d [] (λf vs=>PySem.call f vs) :=
 L2.q9g (n:=63) (k:=13) (x:="_law_script") (CX:=λ_=>CX0) (sp:=λw=>spOf (K w.params) qnx) hn (by decide) hdf ⟨rfl,by decide,by decide⟩ hY F (λw H a ns hl _ hS=>q5e ns hl hS) λ_ _ _ _ _ z=>z
end K62
open PySem PySem.W PyProof.Rows
set_option maxRecDepth 100000 in
set_option maxHeartbeats 0 in
def PySem.W.Fast.tw9676848011165601497 := ()
def PySem.W.Fast.tw7093207754965575060 := ()
def PySem.W.Fast.tw2063610949315498502 := ()
def PySem.W.Fast.tw14076143972133191069 := ()
def PySem.W.Fast.tw17741943123463911961 := ()
def PySem.W.Fast.tw14831908660525223616 := ()
def PySem.W.Fast.tw3998267168919932055 := ()
def PySem.W.Fast.tw4213047533268160378 := ()
def PySem.W.Fast.tw13063924660800635765 := ()
def PySem.W.Fast.tw6302619263511615719 := ()
def PySem.W.Fast.tw14044936372056214870 := ()
def PySem.W.Fast.tw12709484478191288100 := ()
def PySem.W.Fast.tw9837679033460742997 := ()
def PySem.W.Fast.tw15901481942064517390 := ()
def PySem.W.Fast.tw7570309845048294400 := ()
def PySem.W.Fast.tw5773695555387252612 := ()
def PySem.W.Fast.tw2538694822770336992 := ()
def PySem.W.Fast.tw18353297549156450660 := ()
def PySem.W.Fast.tw8824480898123164359 := ()
def PySem.W.Fast.tw2573785801198280133 := ()
def PySem.W.Fast.tw9628556451008554901 := ()
def PySem.W.Fast.tw1317791790829834145 := ()
def PySem.W.Fast.tw8980876870410649577 := ()
def PySem.W.Fast.tw17082749838852130366 := ()
def PySem.W.Fast.tw6041301200279889523 := ()
def PySem.W.Fast.tw12600985731095794122 := ()
def PySem.W.Fast.tw11958563676528228378 := ()
def PySem.W.Fast.tw936792636014671817 := ()
def PySem.W.Fast.tw16534095622878108373 := ()
def PySem.W.Fast.tw16638373437638115967 := ()
def PySem.W.Fast.tw14915553343766201688 := ()
def PySem.W.Fast.tw9128775258559240357 := ()
def PySem.W.Fast.tw1260064466025180706 := ()
def PySem.W.Fast.tw6085754127417087731 := ()
def PySem.W.Fast.tw15014921391093869075 := ()
def PySem.W.Fast.tw4824381245668517022 := ()
def PySem.W.Fast.tw2650683691745747807 := ()
def PySem.W.Fast.tw46306144342432780 := ()
def PySem.W.Fast.tw8503299654584156975 := ()
def PySem.W.Fast.tw3529956230924718263 := ()
def PySem.W.Fast.tw15446544934560089983 := ()
def PySem.W.Fast.tw14021103071548760301 := ()
def PySem.W.Fast.tw13134025663225451923 := ()
def PySem.W.Fast.tw846195391874325968 := ()
def PySem.W.Fast.tw18283409809512825314 := ()
def PySem.W.Fast.tw8419855889306020018 := ()
def PySem.W.Fast.tw8899653493552640654 := ()
def PySem.W.Fast.tw11510332119011639495 := ()
def PySem.W.Fast.tw11359723112191189910 := ()
def PySem.W.Fast.tw16591492125022342697 := ()
def PySem.W.Fast.tw14518498073758944354 := ()
def PySem.W.Fast.tw15290100934019167954 := ()
def PySem.W.Fast.tw16024384514981064303 := ()
def PySem.W.Fast.tw16179213739664885666 := ()
def PySem.W.Fast.tw6330923768203759170 := ()
def PySem.W.Fast.tw5128125466406684316 := ()
def PySem.W.Fast.tw5132277179955648288 := ()
def PySem.W.Fast.tw5945487785780490328 := ()
def PySem.W.Fast.tw14564710641295325013 := ()
def PySem.W.Fast.tw16056877449340674389 := ()
def PySem.W.Fast.tw1475419475774419385 := ()
def PySem.W.Fast.tw15695167252284382411 := ()
def PySem.W.Fast.tw4465833326626797862 := ()
def PySem.W.Fast.tw7929082625141157670 := ()
def PySem.W.Fast.tw16293486183018517654 := ()
def PySem.W.Fast.tw7091380625666048890 := ()
def PySem.W.Fast.tw11870421009006272995 := ()
def PySem.W.Fast.tw13395883329510494918 := ()
def PySem.W.Fast.tw14769175992673846476 := ()
def PySem.W.Fast.tw15186457074172834261 := ()
def PySem.W.Fast.tw6984086161864071134 := ()
def PySem.W.Fast.tw16819990088779758035 := ()
def PySem.W.Fast.tw8496754093008538657 := ()
def PySem.W.Fast.tw10951853965044501340 := ()
def PySem.W.Fast.tw8877542345715439248 := ()
def PySem.W.Fast.tw5233486408301860042 := ()
def PySem.W.Fast.tw6055560800285669152 := ()
def PySem.W.Fast.tw15397017707136575663 := ()
def PySem.W.Fast.tw6478165482068639969 := ()
def PySem.W.Fast.tw15963305403761747787 := ()
def PySem.W.Fast.tw16410321377762415069 := ()
def PySem.W.Fast.tw10989652853560067914 := ()
def PySem.W.Fast.tw12920803690210067861 := ()
def PySem.W.Fast.tw13676836641873391222 := ()
def PySem.W.Fast.tw9081050500440324882 := ()
def PySem.W.Fast.tw5800778911050448458 := ()
def PySem.W.Fast.tw11900490721187571120 := ()
def PySem.W.Fast.tw5554468518924875601 := ()
def PySem.W.Fast.tw5754287682467379275 := ()
def PySem.W.Fast.tw10211619308545472562 := ()
def PySem.W.Fast.tw17822704820880985096 := ()
def PySem.W.Fast.tw3622819747719609149 := ()
def PySem.W.Fast.tw15790458643829975089 := ()
def PySem.W.Fast.tw10108983899089923599 := ()
def PySem.W.Fast.tw11935279242171579775 := ()
def PySem.W.Fast.tw14358072811911315455 := ()
def PySem.W.Fast.tw4894972091424685175 := ()
def PySem.W.Fast.tw4319676835217147655 := ()
def PySem.W.Fast.tw11448969048680376986 := ()
def PySem.W.Fast.tw2837177942740017600 := ()
def PySem.W.Fast.tw10502402827360704032 := ()
def PySem.W.Fast.tw17199227990995216271 := ()
def PySem.W.Fast.tw17728180716124652193 := ()
def PySem.W.Fast.tw12448879244561812188 := ()
def PySem.W.Fast.tw8057784356363595716 := ()
def PySem.W.Fast.tw9656092350724997227 := ()
def PySem.W.Fast.tw872312122408579034 := ()
def PySem.W.Fast.tw9223743580252019337 := ()
def PySem.W.Fast.tw13751476923430435856 := ()
def PySem.W.Fast.tw7863274424802498574 := ()
def PySem.W.Fast.tw2588352555159358954 := ()
def PySem.W.Fast.tw15531941489370089195 := ()
def PySem.W.Fast.tw16271687020283105800 := ()
def PySem.W.Fast.tw6421158021310446659 := ()
def PySem.W.Fast.tw6820052163101176469 := ()
def PySem.W.Fast.tw11415603799822446690 := ()
def PySem.W.Fast.tw14013177936071789453 := ()
def PySem.W.Fast.tw11419161999417659435 := ()
def PySem.W.Fast.tw13663045765247114968 := ()
def PySem.W.Fast.tw2255497734262235131 := ()
def PySem.W.Fast.tw10167586836037443677 := ()
def PySem.W.Fast.tw11498044519070994070 := ()
def PySem.W.Fast.tw16082648369979948558 := ()
def PySem.W.Fast.tw17148272358144213908 := ()
def PySem.W.Fast.tw8856908573261379830 := ()
def PySem.W.Fast.tw9468670849508212110 := ()
def PySem.W.Fast.tw11523731811356328904 := ()
def PySem.W.Fast.tw8458621009923344109 := ()
def PySem.W.Fast.tw3627476884134201252 := ()
def PySem.W.Fast.tw18435320090904791607 := ()
def PySem.W.Fast.tw10664353419657605854 := ()
def PySem.W.Fast.tw5757309018207950713 := ()
def PySem.W.Fast.tw6689703703093389791 := ()
def PySem.W.Fast.tw7784377517874543084 := ()
def PySem.W.Fast.tw8674388169994053744 := ()
def PySem.W.Fast.tw1722573416399244338 := ()
def PySem.W.Fast.tw16275527751195429875 := ()
def PySem.W.Fast.tw3280999763689392019 := ()
def PySem.W.Fast.tw6250681589458525840 := ()
def PySem.W.Fast.tw7206388192463649329 := ()
def PySem.W.Fast.tw6920264091262665464 := ()
def PySem.W.Fast.tw5995677924607346600 := ()
def PySem.W.Fast.tw8982593574630465192 := ()
def PySem.W.Fast.tw12241008138399958408 := ()
def PySem.W.Fast.tw18183829857836776649 := ()
def PySem.W.Fast.tw212320307085029338 := ()
def PySem.W.Fast.tw7777464019599119188 := ()
def PySem.W.Fast.tw9576086033286239305 := ()
def PySem.W.Fast.tw3503981150235587662 := ()
def PySem.W.Fast.tw934668894201137530 := ()
def PySem.W.Fast.tw6192931239448289659 := ()
def PySem.W.Fast.tw13750311971731589397 := ()
def PySem.W.Fast.tw15302384708339910673 := ()
def PySem.W.Fast.tw12693967316624261312 := ()
def PySem.W.Fast.tw1022309960787866083 := ()
def PySem.W.Fast.tw740748840724736324 := ()
def PySem.W.Fast.tw5785673038089235969 := ()
def PySem.W.Fast.tw4571279943511009019 := ()
def PySem.W.Fast.tw10812057224354497451 := ()
def PySem.W.Fast.tw17105296947373013375 := ()
theorem PySem.Challenge.cw_glasslayers_k62_moved_and_copied_holds : PySem.Challenge.rw_glasslayers_k62_moved_and_copied.Holds := by
 w_on;o_law;k_head;(case hw=>w_witness2)
 k_fill
 refine K62.walk (l:=PySem.Challenge.rw_glasslayers_k62_moved_and_copied) rfl rfl (λw h Y=>PySem.W.kIn_of Y) ?F
 case F =>
  intro w mg fa h KX G hmg
  refine' K62.q9h KX G hmg ?d1 ?d2 ?d3 ?d4 ?d5 ?d6 ?d7 ?d8 ?d9 ?d10 ?d11 ?d12 ?d13 ?d14 ?d15 ?d16 ?d17 ?d18 ?d19 ?d20 ?d21 ?d22 ?d23 ?d24 ?d25 ?a26 ?l26 ?c26 ?k26 ?a27 ?l27 ?c27 ?k27 ?d28 ?d29 ?d30 ?d31 ?d32 ?d33 ?d34 ?d35 ?d36 ?d37 ?d38 ?d39 ?d40 ?d41 ?d42 ?d43 ?a44 ?l44 ?c44 ?k44 ?q_GlassError ?q_NoWay ?q_Missing ?q_NotFolder ?q_NoPlace ?q_Astray ?q_IsThere ?q_InItself ?q_TooDeep ?q_Crowded ?x_NoWay ?ek_NoWay ?x_TooDeep ?ek_TooDeep ?x_Crowded ?ek_Crowded ?x_Astray ?ek_Astray ?x_Missing ?ek_Missing ?x_NotFolder ?ek_NotFolder ?x_NoPlace ?ek_NoPlace ?x_IsThere ?ek_IsThere ?x_InItself ?ek_InItself ?m_NoWay_Crowded ?m_TooDeep_Crowded ?m_Crowded_Crowded ?m_Astray_Crowded ?m_Missing_Crowded ?m_NotFolder_Crowded ?m_NoPlace_Crowded ?m_IsThere_Crowded ?m_InItself_Crowded ?m_NoWay_TooDeep ?m_TooDeep_TooDeep ?m_Crowded_TooDeep ?m_Astray_TooDeep ?m_Missing_TooDeep ?m_NotFolder_TooDeep ?m_NoPlace_TooDeep ?m_IsThere_TooDeep ?m_InItself_TooDeep ?m_NoWay_IsThere ?m_TooDeep_IsThere ?m_Crowded_IsThere ?m_Astray_IsThere ?m_Missing_IsThere ?m_NotFolder_IsThere ?m_NoPlace_IsThere ?m_IsThere_IsThere ?m_InItself_IsThere ?m_NoWay_InItself ?m_TooDeep_InItself ?m_Crowded_InItself ?m_Astray_InItself ?m_Missing_InItself ?m_NotFolder_InItself ?m_NoPlace_InItself ?m_IsThere_InItself ?m_InItself_InItself ?m_NoWay_GlassError ?m_TooDeep_GlassError ?m_Crowded_GlassError ?m_Astray_GlassError ?m_Missing_GlassError ?m_NotFolder_GlassError ?m_NoPlace_GlassError ?m_IsThere_GlassError ?m_InItself_GlassError ?o_NoWay_NotFolder ?o_TooDeep_NotFolder ?o_Crowded_NotFolder ?o_Astray_NotFolder ?o_Missing_NotFolder ?o_NotFolder_NotFolder ?o_NoPlace_NotFolder ?o_IsThere_NotFolder ?o_InItself_NotFolder ?i_NoWay_ValueError ?i_TooDeep_ValueError ?i_Crowded_ValueError ?i_Astray_ValueError ?i_Missing_ValueError ?i_NotFolder_ValueError ?i_NoPlace_ValueError ?i_IsThere_ValueError ?i_InItself_ValueError ?g_NAME_SIGNS ?g_LONGEST_NAME ?g_MOST_WORDS ?g_MOST_NAMES ?g_MOST_ENTRIES ?g_ROOT_THING ?h_ROOT_THING ?u_ROOT_THING ?w_ROOT_THING ?g_MOST_LINKS ?gT_CHANGES ?lT_CHANGES ?kT_CHANGES ?vT_CHANGES_move ?vT_CHANGES_copy ?z_ValueError ?z_all ?z_isinstance ?z_len ?z_list ?z_max ?z_range ?z_sorted ?z_str ?z_tuple
  (case d1=>refine' L2.q9i ?a ?b ?c ?d;(case a=>k_is);(case b=>k_is);(case c=>k_is);(case d=>k_is))
  (case d2=>refine' L2.q9i ?a ?b ?c ?d;(case a=>k_is);(case b=>k_is);(case c=>k_is);(case d=>k_is))
  (case d3=>refine' L2.q9i ?a ?b ?c ?d;(case a=>k_is);(case b=>k_is);(case c=>k_is);(case d=>k_is))
  (case d4=>refine' L2.q9i ?a ?b ?c ?d;(case a=>k_is);(case b=>k_is);(case c=>k_is);(case d=>k_is))
  (case d5=>refine' L2.q9i ?a ?b ?c ?d;(case a=>k_is);(case b=>k_is);(case c=>k_is);(case d=>k_is))
  (case d6=>refine' L2.q9i ?a ?b ?c ?d;(case a=>k_is);(case b=>k_is);(case c=>k_is);(case d=>k_is))
  (case d7=>refine' L2.q9i ?a ?b ?c ?d;(case a=>k_is);(case b=>k_is);(case c=>k_is);(case d=>k_is))
  (case d8=>refine' L2.q9i ?a ?b ?c ?d;(case a=>k_is);(case b=>k_is);(case c=>k_is);(case d=>k_is))
  (case d9=>refine' L2.q9i ?a ?b ?c ?d;(case a=>k_is);(case b=>k_is);(case c=>k_is);(case d=>k_is))
  (case d10=>refine' L2.q9i ?a ?b ?c ?d;(case a=>k_is);(case b=>k_is);(case c=>k_is);(case d=>k_is))
  (case d11=>refine' L2.q9i ?a ?b ?c ?d;(case a=>k_is);(case b=>k_is);(case c=>k_is);(case d=>k_is))
  (case d12=>refine' L2.q9i ?a ?b ?c ?d;(case a=>k_is);(case b=>k_is);(case c=>k_is);(case d=>k_is))
  (case d13=>refine' L2.q9i ?a ?b ?c ?d;(case a=>k_is);(case b=>k_is);(case c=>k_is);(case d=>k_is))
  (case d14=>refine' L2.q9i ?a ?b ?c ?d;(case a=>k_is);(case b=>k_is);(case c=>k_is);(case d=>k_is))
  (case d15=>refine' L2.q9i ?a ?b ?c ?d;(case a=>k_is);(case b=>k_is);(case c=>k_is);(case d=>k_is))
  (case d16=>refine' L2.q9i ?a ?b ?c ?d;(case a=>k_is);(case b=>k_is);(case c=>k_is);(case d=>k_is))
  (case d17=>refine' L2.q9i ?a ?b ?c ?d;(case a=>k_is);(case b=>k_is);(case c=>k_is);(case d=>k_is))
  (case d18=>refine' L2.q9i ?a ?b ?c ?d;(case a=>k_is);(case b=>k_is);(case c=>k_is);(case d=>k_is))
  (case d19=>refine' L2.q9i ?a ?b ?c ?d;(case a=>k_is);(case b=>k_is);(case c=>k_is);(case d=>k_is))
  (case d20=>refine' L2.q9i ?a ?b ?c ?d;(case a=>k_is);(case b=>k_is);(case c=>k_is);(case d=>k_is))
  (case d21=>refine' L2.q9i ?a ?b ?c ?d;(case a=>k_is);(case b=>k_is);(case c=>k_is);(case d=>k_is))
  (case d22=>refine' L2.q9i ?a ?b ?c ?d;(case a=>k_is);(case b=>k_is);(case c=>k_is);(case d=>k_is))
  (case d23=>refine' L2.q9i ?a ?b ?c ?d;(case a=>k_is);(case b=>k_is);(case c=>k_is);(case d=>k_is))
  (case d24=>refine' L2.q9i ?a ?b ?c ?d;(case a=>k_is);(case b=>k_is);(case c=>k_is);(case d=>k_is))
  (case d25=>refine' L2.q9i ?a ?b ?c ?d;(case a=>k_is);(case b=>k_is);(case c=>k_is);(case d=>k_is))
  (case a26=>k_is)
  (case l26=>k_is)
  (case c26=>k_is)
  (case k26=>k_is)
  (case a27=>k_is)
  (case l27=>k_is)
  (case c27=>k_is)
  (case k27=>k_is)
  (case d28=>refine' L2.q9i ?a ?b ?c ?d;(case a=>k_is);(case b=>k_is);(case c=>k_is);(case d=>k_is))
  (case d29=>refine' L2.q9i ?a ?b ?c ?d;(case a=>k_is);(case b=>k_is);(case c=>k_is);(case d=>k_is))
  (case d30=>refine' L2.q9i ?a ?b ?c ?d;(case a=>k_is);(case b=>k_is);(case c=>k_is);(case d=>k_is))
  (case d31=>refine' L2.q9i ?a ?b ?c ?d;(case a=>k_is);(case b=>k_is);(case c=>k_is);(case d=>k_is))
  (case d32=>refine' L2.q9i ?a ?b ?c ?d;(case a=>k_is);(case b=>k_is);(case c=>k_is);(case d=>k_is))
  (case d33=>refine' L2.q9i ?a ?b ?c ?d;(case a=>k_is);(case b=>k_is);(case c=>k_is);(case d=>k_is))
  (case d34=>refine' L2.q9i ?a ?b ?c ?d;(case a=>k_is);(case b=>k_is);(case c=>k_is);(case d=>k_is))
  (case d35=>refine' L2.q9i ?a ?b ?c ?d;(case a=>k_is);(case b=>k_is);(case c=>k_is);(case d=>k_is))
  (case d36=>refine' L2.q9i ?a ?b ?c ?d;(case a=>k_is);(case b=>k_is);(case c=>k_is);(case d=>k_is))
  (case d37=>refine' L2.q9i ?a ?b ?c ?d;(case a=>k_is);(case b=>k_is);(case c=>k_is);(case d=>k_is))
  (case d38=>refine' L2.q9i ?a ?b ?c ?d;(case a=>k_is);(case b=>k_is);(case c=>k_is);(case d=>k_is))
  (case d39=>refine' L2.q9i ?a ?b ?c ?d;(case a=>k_is);(case b=>k_is);(case c=>k_is);(case d=>k_is))
  (case d40=>refine' L2.q9i ?a ?b ?c ?d;(case a=>k_is);(case b=>k_is);(case c=>k_is);(case d=>k_is))
  (case d41=>refine' L2.q9i ?a ?b ?c ?d;(case a=>k_is);(case b=>k_is);(case c=>k_is);(case d=>k_is))
  (case d42=>refine' L2.q9i ?a ?b ?c ?d;(case a=>k_is);(case b=>k_is);(case c=>k_is);(case d=>k_is))
  (case d43=>refine' L2.q9i ?a ?b ?c ?d;(case a=>k_is);(case b=>k_is);(case c=>k_is);(case d=>k_is))
  (case a44=>k_is)
  (case l44=>k_is)
  (case c44=>k_is)
  (case k44=>k_is)
  (case q_GlassError=>k_is)
  (case q_NoWay=>k_is)
  (case q_Missing=>k_is)
  (case q_NotFolder=>k_is)
  (case q_NoPlace=>k_is)
  (case q_Astray=>k_is)
  (case q_IsThere=>k_is)
  (case q_InItself=>k_is)
  (case q_TooDeep=>k_is)
  (case q_Crowded=>k_is)
  (case x_NoWay=>(delta L2.OwnX;k_exc))
  (case ek_NoWay=>exact⟨by k_is,by k_is,by k_is,by k_is,by k_is,by k_is⟩)
  (case x_TooDeep=>(delta L2.OwnX;k_exc))
  (case ek_TooDeep=>exact⟨by k_is,by k_is,by k_is,by k_is,by k_is,by k_is⟩)
  (case x_Crowded=>(delta L2.OwnX;k_exc))
  (case ek_Crowded=>exact⟨by k_is,by k_is,by k_is,by k_is,by k_is,by k_is⟩)
  (case x_Astray=>(delta L2.OwnX;k_exc))
  (case ek_Astray=>exact⟨by k_is,by k_is,by k_is,by k_is,by k_is,by k_is⟩)
  (case x_Missing=>(delta L2.OwnX;k_exc))
  (case ek_Missing=>exact⟨by k_is,by k_is,by k_is,by k_is,by k_is,by k_is⟩)
  (case x_NotFolder=>(delta L2.OwnX;k_exc))
  (case ek_NotFolder=>exact⟨by k_is,by k_is,by k_is,by k_is,by k_is,by k_is⟩)
  (case x_NoPlace=>(delta L2.OwnX;k_exc))
  (case ek_NoPlace=>exact⟨by k_is,by k_is,by k_is,by k_is,by k_is,by k_is⟩)
  (case x_IsThere=>(delta L2.OwnX;k_exc))
  (case ek_IsThere=>exact⟨by k_is,by k_is,by k_is,by k_is,by k_is,by k_is⟩)
  (case x_InItself=>(delta L2.OwnX;k_exc))
  (case ek_InItself=>exact⟨by k_is,by k_is,by k_is,by k_is,by k_is,by k_is⟩)
  (case m_NoWay_Crowded=>kts_exm)
  (case m_TooDeep_Crowded=>kts_exm)
  (case m_Crowded_Crowded=>kts_exm)
  (case m_Astray_Crowded=>kts_exm)
  (case m_Missing_Crowded=>kts_exm)
  (case m_NotFolder_Crowded=>kts_exm)
  (case m_NoPlace_Crowded=>kts_exm)
  (case m_IsThere_Crowded=>kts_exm)
  (case m_InItself_Crowded=>kts_exm)
  (case m_NoWay_TooDeep=>kts_exm)
  (case m_TooDeep_TooDeep=>kts_exm)
  (case m_Crowded_TooDeep=>kts_exm)
  (case m_Astray_TooDeep=>kts_exm)
  (case m_Missing_TooDeep=>kts_exm)
  (case m_NotFolder_TooDeep=>kts_exm)
  (case m_NoPlace_TooDeep=>kts_exm)
  (case m_IsThere_TooDeep=>kts_exm)
  (case m_InItself_TooDeep=>kts_exm)
  (case m_NoWay_IsThere=>kts_exm)
  (case m_TooDeep_IsThere=>kts_exm)
  (case m_Crowded_IsThere=>kts_exm)
  (case m_Astray_IsThere=>kts_exm)
  (case m_Missing_IsThere=>kts_exm)
  (case m_NotFolder_IsThere=>kts_exm)
  (case m_NoPlace_IsThere=>kts_exm)
  (case m_IsThere_IsThere=>kts_exm)
  (case m_InItself_IsThere=>kts_exm)
  (case m_NoWay_InItself=>kts_exm)
  (case m_TooDeep_InItself=>kts_exm)
  (case m_Crowded_InItself=>kts_exm)
  (case m_Astray_InItself=>kts_exm)
  (case m_Missing_InItself=>kts_exm)
  (case m_NotFolder_InItself=>kts_exm)
  (case m_NoPlace_InItself=>kts_exm)
  (case m_IsThere_InItself=>kts_exm)
  (case m_InItself_InItself=>kts_exm)
  (case m_NoWay_GlassError=>kts_exm)
  (case m_TooDeep_GlassError=>kts_exm)
  (case m_Crowded_GlassError=>kts_exm)
  (case m_Astray_GlassError=>kts_exm)
  (case m_Missing_GlassError=>kts_exm)
  (case m_NotFolder_GlassError=>kts_exm)
  (case m_NoPlace_GlassError=>kts_exm)
  (case m_IsThere_GlassError=>kts_exm)
  (case m_InItself_GlassError=>kts_exm)
  (case o_NoWay_NotFolder=>kit_is)
  (case o_TooDeep_NotFolder=>kit_is)
  (case o_Crowded_NotFolder=>kit_is)
  (case o_Astray_NotFolder=>kit_is)
  (case o_Missing_NotFolder=>kit_is)
  (case o_NotFolder_NotFolder=>kit_is)
  (case o_NoPlace_NotFolder=>kit_is)
  (case o_IsThere_NotFolder=>kit_is)
  (case o_InItself_NotFolder=>kit_is)
  (case i_NoWay_ValueError=>kit_is)
  (case i_TooDeep_ValueError=>kit_is)
  (case i_Crowded_ValueError=>kit_is)
  (case i_Astray_ValueError=>kit_is)
  (case i_Missing_ValueError=>kit_is)
  (case i_NotFolder_ValueError=>kit_is)
  (case i_NoPlace_ValueError=>kit_is)
  (case i_IsThere_ValueError=>kit_is)
  (case i_InItself_ValueError=>kit_is)
  (case g_NAME_SIGNS=>k_is)
  (case g_LONGEST_NAME=>k_is)
  (case g_MOST_WORDS=>k_is)
  (case g_MOST_NAMES=>k_is)
  (case g_MOST_ENTRIES=>k_is)
  (case g_ROOT_THING=>k_is)
  (case h_ROOT_THING=>k_is)
  (case u_ROOT_THING=>rfl)
  (case w_ROOT_THING=>rfl)
  (case g_MOST_LINKS=>k_is)
  (case gT_CHANGES=>k_is)
  (case lT_CHANGES=>k_is)
  (case kT_CHANGES=>k_keys)
  (case vT_CHANGES_move=>k_is)
  (case vT_CHANGES_copy=>k_is)
  (case z_ValueError=>k_is)
  (case z_all=>k_is)
  (case z_isinstance=>k_is)
  (case z_len=>k_is)
  (case z_list=>k_is)
  (case z_max=>k_is)
  (case z_range=>k_is)
  (case z_sorted=>k_is)
  (case z_str=>k_is)
  (case z_tuple=>k_is)
