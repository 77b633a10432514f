import PyProof.Rows.All
import Wide.All
import OpenK.AllK
import Wide.FinOn
import Lean
import PyProof.EqAt
import PyProof.EqKinds
import PyProof.TupleCall
import PySem.Challenge.RW_glasslayers_k81_texts_read
set_option compiler.extract_closed false
set_option Elab.async false
set_option linter.all false
set_option maxRecDepth 100000
namespace L2
open PySem PySem.Spec PyProof.Rows
abbrev Key:=Sum Int Str
def qqd:Key->Value->Bool
|.inl k,v=>Value.isInt k v
|.inr x,v=>Value.isStrOf x v
def keyH(w:World):Key->Int
|.inl k=>hashInt k
|.inr x=>hashStr w x
theorem qbh:∀ {k:Key} {v:Value},qqd k v=true->(∃i t,k=Sum.inl i/\v=Value.int i t)\/(∃x t,k=Sum.inr x/\v=Value.str x t)
|.inl i,v,h=>by
  obtain⟨t,e⟩:=Value.isInt_shape (k:=i) (v:=v) h
  exact .inl ⟨i,t,rfl,e⟩
|.inr x,v,h=>by
  obtain⟨t,e⟩:=Value.isStrOf_shape (x:=x) (v:=v) h
  exact .inr ⟨x,t,rfl,e⟩
theorem qsx(i:Int)(t:Tok):qqd (.inl i) (.int i t)=true:=by simp[qqd,Value.isInt]
theorem qsy(x:Str)(t:Tok):qqd (.inr x) (.str x t)=true:=by simp[qqd,Value.isStrOf]
theorem q3c(a b:Int):decide ((Sum.inl a:Key)=Sum.inl b)=(a==b):=by
 by_cases e:a=b
 ·subst e;simp
 ·have h:¬ (Sum.inl a:Key)=Sum.inl b:=λq=>e (Sum.inl.inj q)
  rw[decide_eq_false h]
  exact(beq_eq_false_iff_ne.mpr e).symm
theorem q3f(a b:Str):decide ((Sum.inr a:Key)=Sum.inr b)=decide (a=b):=by
 by_cases e:a=b
 ·subst e;simp
 ·have h:¬ (Sum.inr a:Key)=Sum.inr b:=λq=>e (Sum.inr.inj q)
  rw[decide_eq_false h,decide_eq_false e]
theorem q3d(a:Int)(b:Str):decide ((Sum.inl a:Key)=Sum.inr b)=false:=decide_eq_false (λq=>nomatch q)
theorem q3e(a:Str)(b:Int):decide ((Sum.inr a:Key)=Sum.inl b)=false:=decide_eq_false (λq=>nomatch q)
def qbs(prog:Program)(w:World):PySem.KeyKind prog w Key where
 is:=qqd
 hash:=keyH w
 inj:=λv a b ha hb=>by
  rcases qbh ha with ⟨i,t,rfl,rfl⟩|⟨x,t,rfl,rfl⟩
  ·rcases qbh hb with ⟨j,u,rfl,e⟩|⟨y,u,rfl,e⟩
   ·injection e with e1 _;rw[e1]
   ·exact nomatch e
  ·rcases qbh hb with ⟨j,u,rfl,e⟩|⟨y,u,rfl,e⟩
   ·exact nomatch e
   ·injection e with e1 _;rw[e1]
 byValue:=λk v h=>by
  rcases qbh h with ⟨i,t,rfl,rfl⟩|⟨x,t,rfl,rfl⟩<;>rfl
 pyHash:=λhv h=>by
  rcases qbh hv with ⟨i,t,rfl,rfl⟩|⟨x,t,rfl,rfl⟩
  ·exact wpAny_pyHash_int h
  ·exact wpAny_pyHash_str h
 eqBool:=λhu hv h=>by
  rcases qbh hu with ⟨i,t,rfl,rfl⟩|⟨x,t,rfl,rfl⟩
  ·rcases qbh hv with ⟨j,u,rfl,rfl⟩|⟨y,u,rfl,rfl⟩
   ·rw[q3c] at h;exact wpAny_eqBool_int h
   ·rw[q3d] at h;exact SeqAt.EqAt.int_str i t y u _ _ _ _ h
  ·rcases qbh hv with ⟨j,u,rfl,rfl⟩|⟨y,u,rfl,rfl⟩
   ·rw[q3e] at h;exact SeqAt.EqAt.str_int x t j u _ _ _ _ h
   ·rw[q3f] at h;exact wpAny_eqBool_str h
 «strs»:=λk x t v h=>by
  rcases qbh h with ⟨i,u,rfl,e⟩|⟨y,u,rfl,e⟩
  ·exact nomatch e
  ·injection e with e1 _
   subst e1
   cases v<;>rfl
theorem qne(prog:Program)(w:World)(i:Int)(t:Tok):(qbs prog w).is (.inl i) (.int i t)=true:=qsx i t
theorem qnf(prog:Program)(w:World)(x:Str)(t:Tok):(qbs prog w).is (.inr x) (.str x t)=true:=qsy x t
end L2
namespace L2
open PySem PySem.Spec PyProof.Rows
inductive V where
|non|bl (b:Bool)|int (i:Int)|str (x:Str)|byt (b:Array UInt8)|flt (b:UInt64)|ref (a:Addr)|ty (n:String)
 deriving DecidableEq
def RelV:V->Value->Prop
|.non,u=>u=Value.none
|.bl b,u=>u=Value.bool b
|.int i,u=>∃t,u=Value.int i t
|.str x,u=>∃t,u=Value.str x t
|.byt b,u=>∃t,u=Value.bytes b t
|.flt b,u=>∃t,u=Value.float b t
|.ref a,u=>u=Value.ref a
|.ty n,u=>u=Value.type n
abbrev Vals:List V->List Value->Prop:=Paired RelV
theorem Vals.length{xs:List V}{us:List Value}(r:Vals xs us):xs.length=us.length:=Paired.length r
theorem Vals.get:∀ {xs:List V} {us:List Value} {i:Nat} {x:V},Vals xs us->xs[i]?=some x->∃u,us[i]?=some u/\RelV x u
|_,_,_,_,.nil,e=>by simp at e
|_,_,0,_,.cons r _,e=>by simp at e;subst e;exact⟨_,rfl,r⟩
|_,_,i+1,x,.cons _ t,e=>by
  obtain⟨u,h1,h2⟩:=Vals.get (i:=i) (x:=x) t (by simpa using e)
  exact⟨u,by simpa using h1,h2⟩
theorem Vals.set{x:V}{u:Value}(r:RelV x u):∀ {xs:List V} {us:List Value} (i:Nat),Vals xs us->Vals (xs.set i x) (us.set i u)
|_,_,_,.nil=>.nil
|_,_,0,.cons _ t=>.cons r t
|_,_,i+1,.cons q t=>.cons q (Vals.set r i t)
theorem Vals.append:∀ {xs ys:List V} {us ws:List Value},Vals xs us->Vals ys ws->Vals (xs++ys) (us++ws)
|_,_,_,_,.nil,s=>s
|_,_,_,_,.cons r t,s=>.cons r (Vals.append t s)
theorem Vals.take:∀ {xs:List V} {us:List Value} (n:Nat),Vals xs us->Vals (xs.take n) (us.take n)
|_,_,0,_=>.nil
|_,_,_+1,.nil=>.nil
|_,_,n+1,.cons r t=>.cons r (Vals.take n t)
theorem Vals.drop:∀ {xs:List V} {us:List Value} (n:Nat),Vals xs us->Vals (xs.drop n) (us.drop n)
|_,_,0,r=>r
|_,_,_+1,.nil=>.nil
|_,_,n+1,.cons _ t=>Vals.drop n t
def RelO:Option V->Option Value->Prop
|some v,some u=>RelV v u
|none,none=>True
|_,_=>False
def KV{κ:Type}:List (κ×V)->List (κ×Value)->Prop:=Paired λ(p:κ×V) (q:κ×Value)=>p.1=q.1/\RelV p.2 q.2
def kV:Key->V
|.inl i=>.int i
|.inr x=>.str x
inductive HO where
|lst (xs:List V)
|tup (xs:List V)
|dK (kvs:List (Key×V))|dT (kvs:List (List Key×V))
|set (S:Int->Bool) (n:Nat)
|ins (C dx:Addr) (fs:List (Str×V))
|own (x:Addr)
|xd (fs:List (Str×V))
|met (f x:Addr)
|rng (lo hi:Int)
|frz (o:Obj) (u:HO)
|tbl (ps:Array Value)
|ext (φ:Heap->Prop)
abbrev Hp:=Addr->Option HO
def upd(H:Hp)(a:Addr)(o:HO):Hp:=λb=>if b=a then some o else H b
theorem qaw{H:Hp}{a:Addr}{o:HO}:upd H a o a=some o:=by unfold upd;rw[if_pos rfl]
theorem qar{H:Hp}{a b:Addr}{o:HO}(h:b≠a):upd H a o b=H b:=by unfold upd;rw[if_neg h]
theorem q3l{H:Hp}{a b:Addr}{o u:HO}(h:H a=some o)(h':H b=some u)(d:o≠u):a≠b:=by
 intro e;subst e;rw[h] at h';exact d (Option.some.inj h')
theorem qbb{H:Hp}{a b:Addr}{o:HO}(h:H a=some o)(h':H b=none):a≠b:=by
 intro e;subst e;rw[h] at h';cases h'
section
variable (P:Program) (w:World)
def ObjOk(H:Hp)(h:Heap)(a:Addr):HO->Prop
|.lst xs=>xs.length<=sizeLine/\∃(its:List Value) (n:Nat),Vals xs its/\h.get? a=some { cls:=.type "list",data:=.seq its.toArray n }
|.tup xs=>xs.length<=sizeLine/\∃its:List Value,Vals xs its/\IsTup h a its.toArray
|.dK kvs=>kvs.length<=sizeLine/\(a==sysModules)=false/\∃vs,KV kvs vs/\h.DictOf (qbs P w) a vs
|.dT kvs=>kvs.length<=sizeLine/\(a==sysModules)=false/\∃xs:List (List Key×Addr×Value),
   Paired (λ(p:List Key×V) (q:List Key×Addr×Value)=>p.1=q.1/\H q.2.1=some (.tup (p.1.map kV))/\RelV p.2 q.2.2) kvs xs /\
   ∃o es ep,h.get? a=some o/\o.ExactDict/\o.data=.dict es ep/\es.toList=xs.map (entryOfKey (tupleKind (qbs P w)))/\(xs.map (·.1)).Nodup
|.set S n=>h.SetOf (intKind P w) a S n
|.ins C dx fs=>H dx=some (.own a)/\fs.length<=1000/\dx≠a/\h.get? a=some (PySem.W.instObj C dx) /\
   ∃mA,h.Ns1 dx mA/\(∀f,RelO (fs.lookup f) (mA f))/\PySem.Within mA (fs.map (·.1))
|.own _=>∃o,h.get? a=some o
|.xd fs=>∃mA,h.Ns1 a mA/\∀f,RelO (fs.lookup f) (mA f)
|.rng lo hi=>∃t u v,h.get? a=some { cls:=.type "range",data:=.fields #[.int lo t,.int hi u,.int 1 v] }
|.frz o u=>h.get? a=some o/\ObjOk H h a u
|.tbl ps=>h.get? a=some { cls:=.none,data:=.fields ps }
|.met f x=>h.get? a=some (PySem.W.methodObj (.ref f) (.ref x))
|.ext φ=>φ h/\(∃o,h.get? a=some o)/\∀h1 h2:Heap,φ h1->(∀o,h1.get? a=some o->h2.get? a=some o)->φ h2
def HOk(H:Hp)(h:Heap):Prop:=∀a o,H a=some o->ObjOk P w H h a o
end
section
variable {P:Program} {w:World} {H H':Hp} {h h':Heap} {a:Addr} {o:HO}
theorem ObjOk.lt(x:ObjOk P w H h a o):a<h.objs.size:=by
 cases o with
|lst xs=>obtain⟨_,_,_,_,e⟩:=x;exact Heap.lt_size e
|tup xs=>obtain⟨_,_,_,p⟩:=x;exact p.lt
|dK kvs=>obtain⟨_,_,_,_,o,_,_,e,_⟩:=x;exact Heap.lt_size e
|dT kvs=>obtain⟨_,_,_,_,o,_,_,e,_⟩:=x;exact Heap.lt_size e
|set S n=>obtain⟨o,_,_,_,e,_⟩:=x;exact Heap.lt_size e
|ins C dx fs=>obtain⟨_,_,_,e,_⟩:=x;exact Heap.lt_size e
|own y=>obtain⟨_,e⟩:=x;exact Heap.lt_size e
|xd fs=>obtain⟨_,⟨_,_,_,e,_⟩,_⟩:=x;exact Heap.lt_size e
|rng lo hi=>obtain⟨_,_,_,e⟩:=x;exact Heap.lt_size e
|frz ob u=>obtain⟨e,_⟩:=x;exact Heap.lt_size e
|tbl ps=>exact Heap.lt_size (show h.get? a=some _ from x)
|met f y=>exact Heap.lt_size (show h.get? a=some _ from x)
|ext φ=>obtain⟨_,⟨_,e⟩,_⟩:=x;exact Heap.lt_size e
theorem Paired.mapP{α β:Type}{F G:α->β->Prop}:∀ {l₁:List α} {l₂:List β},Paired F l₁ l₂->(∀a b,F a b->G a b)->Paired G l₁ l₂
|_,_,.nil,_=>.nil
|_,_,.cons r t,f=>.cons (f _ _ r) (Paired.mapP t f)
theorem ObjOk.stay(x:ObjOk P w H h a o)(k:∀b u,(b=a\/H b=some (.own a))->h.get? b=some u->h'.get? b=some u)
  (ho:∀b,H b=some (.own a)->H' b=some (.own a)) (ht:∀b xs,H b=some (.tup xs)->H' b=some (.tup xs)):ObjOk P w H' h' a o:=by
 induction o with
|lst xs=>obtain⟨z,its,n,r,e⟩:=x;exact⟨z,its,n,r,k _ _ (.inl rfl) e⟩
|tup xs=>obtain⟨z,its,r,ob,e,c⟩:=x;exact⟨z,its,r,ob,k _ _ (.inl rfl) e,c⟩
|dK kvs=>obtain⟨z,y,vs,r,ob,es,ep,e,c⟩:=x;exact⟨z,y,vs,r,ob,es,ep,k _ _ (.inl rfl) e,c⟩
|dT kvs =>
  obtain⟨z,y,xs,r,ob,es,ep,e,c⟩:=x
  exact⟨z,y,xs,Paired.mapP r λp q z=>⟨z.1,ht _ _ z.2.1,z.2.2⟩,ob,es,ep,k _ _ (.inl rfl) e,c⟩
|set S n=>obtain⟨ob,es,ep,t,e,c⟩:=x;exact⟨ob,es,ep,t,k _ _ (.inl rfl) e,c⟩
|ins C dx fs =>
  obtain⟨d,z,ne,e,mA,⟨od,es,ep,e2,c⟩,r⟩:=x
  exact⟨ho _ d,z,ne,k _ _ (.inl rfl) e,mA,⟨od,es,ep,k _ _ (.inr d) e2,c⟩,r⟩
|own y=>obtain⟨ob,e⟩:=x;exact⟨ob,k _ _ (.inl rfl) e⟩
|xd fs=>obtain⟨mA,⟨od,es,ep,e,c⟩,r⟩:=x;exact⟨mA,⟨od,es,ep,k _ _ (.inl rfl) e,c⟩,r⟩
|rng lo hi=>obtain⟨t,u,v,e⟩:=x;exact⟨t,u,v,k _ _ (.inl rfl) e⟩
|frz ob u ih=>obtain⟨e,q⟩:=x;exact⟨k _ _ (.inl rfl) e,ih q⟩
|tbl ps =>
  have e:h.get? a=some { cls:=.none,data:=.fields ps }:=x
  show h'.get? a=some { cls:=.none,data:=.fields ps }
  exact k a _ (.inl rfl) e
|met f y =>
  have e:h.get? a=some (PySem.W.methodObj (.ref f) (.ref y)):=x
  show h'.get? a=some (PySem.W.methodObj (.ref f) (.ref y))
  exact k a _ (.inl rfl) e
|ext φ=>obtain⟨p,⟨o,e⟩,st⟩:=x;exact⟨st _ _ p λo q=>k _ _ (.inl rfl) q,⟨o,k _ _ (.inl rfl) e⟩,st⟩
theorem HOk.lt(x:HOk P w H h)(e:H a=some o):a<h.objs.size:=(x a o e).lt
theorem HOk.fresh(x:HOk P w H h)(e:h.objs.size<=a):H a=none:=by
 cases q:H a with
|none=>rfl
|some u=>exact absurd (Nat.lt_of_lt_of_le (x.lt q) e) (Nat.lt_irrefl _)
theorem HOk.kept(x:HOk P w H h)(k:∀b u,h.get? b=some u->h'.get? b=some u):HOk P w H h':=λa o e =>
 (x a o e).stay (λb u _ q=>k b u q) (λ_ q=>q) λ_ _ q=>q
theorem HOk.laid(x:HOk P w H h)(k:∀b u,h.get? b=some u->h'.get? b=some u)(hp:h.objs.size<=a)(new:ObjOk P w (upd H a o) h' a o):HOk P w (upd H a o) h':=λb u e=>by
 have hn:=x.fresh hp
 by_cases hb:b=a
 ·subst hb;rw[qaw] at e;cases e;exact new
 ·rw[qar hb] at e
  exact(x b u e).stay (λc v _ q=>k c v q) (λc q=>by rw[qar (qbb q hn)];exact q) λc xs q=>by rw[qar (qbb q hn)];exact q
end
def Rd(H:Hp)(a:Addr)(u:HO):Prop:=H a=some u\/∃o,H a=some (.frz o u)
theorem Rd.ok{P:Program}{w:World}{H:Hp}{h:Heap}{a:Addr}{u:HO}(r:Rd H a u)(x:HOk P w H h):ObjOk P w H h a u:=by
 rcases r with r|⟨o,r⟩
 ·exact x a u r
 ·obtain⟨_,q⟩:=x a _ r
  exact q
def Mut:Option HO->Prop
|some (.lst _)=>True
|some (.dK _)=>True
|some (.dT _)=>True
|some (.set _ _)=>True
|some (.ins _ _ _)=>True
|some (.ext _)=>True
|_=>False
section
variable {P:Program} {w:World} {H:Hp} {h h':Heap} {x e:Addr} {o':HO}
theorem HOk.write(ok:HOk P w H h)(mu:Mut (H x))(he:e=x\/H e=some (.own x))(k:∀b u,b≠e->h.get? b=some u->h'.get? b=some u)(heo:∃u,h'.get? e=some u)
  (new:ObjOk P w (upd H x o') h' x o'):HOk P w (upd H x o') h':=λb u q=>by
 have nown:∀c y,H c=some (.own y)->c≠x:=λc y r z=>by subst z;rw[r] at mu;exact mu
 have ntup:∀c xs,H c=some (.tup xs)->c≠x:=λc xs r z=>by subst z;rw[r] at mu;exact mu
 by_cases hb:b=x
 ·subst hb;rw[qaw] at q;cases q;exact new
 ·rw[qar hb] at q
  by_cases hbe:b=e
  ·have q':H b=some (.own x):=by
    rcases he with z|z
    ·exact absurd (hbe.trans z) hb
    ·rw[hbe];exact z
   rw[q] at q';cases q'
   obtain⟨v,hv⟩:=heo
   exact⟨v,by rw[hbe];exact hv⟩
  ·refine(ok b u q).stay (λc v hc r=>k c v ?_ r) (λc r=>by rw[qar (nown c b r)];exact r) λc xs r=>by rw[qar (ntup c xs r)];exact r
   rcases hc with rfl|hc
   ·exact hbe
   ·rintro rfl
    rcases he with z|z
    ·exact nown c b hc z
    ·rw[hc] at z;cases z;exact hb rfl
end
structure Un(fs ex:List Addr)(H H':Hp)(h h':Heap):Prop where
 keep:∀b o,h.get? b=some o->H b=none->b∉fs->b∉ex->h'.get? b=some o
 slot:∀b o,h.get? b=some o->H b=none->b∈fs->b∉ex->∃sl,h'.get? b=some { o with slots:=sl }
 free:∀b o,h.get? b=some o->H b=none->b∉ex->H' b=none
 there:∀b o,h.get? b=some o->b∉ex->∃o',h'.get? b=some o'
 tups:∀b xs,H b=some (.tup xs)->H' b=some (.tup xs)
 frzs:∀b o u,H b=some (.frz o u)->H' b=some (.frz o u)
 tbls:∀b ps,H b=some (.tbl ps)->∃more,H' b=some (.tbl (ps++more))
section
variable {fs fs' ex ex':List Addr} {H H1 H2:Hp} {h h1 h2 h':Heap} {a x e:Addr} {o:HO}
theorem Un.any(u:Un fs ex H H1 h h1){b:Addr}{ob:Obj}(q:h.get? b=some ob)(n:H b=none)(hx:b∉ex):∃sl,h1.get? b=some { ob with slots:=sl }:=by
 by_cases hb:b∈fs
 ·exact u.slot b ob q n hb hx
 ·exact⟨ob.slots,u.keep b ob q n hb hx⟩
theorem Un.kept(k:∀b u,h.get? b=some u->h'.get? b=some u):Un fs ex H H h h' :=
 ⟨λb ob q _ _ _=>k b ob q,λb ob q _ _ _=>⟨ob.slots,k b ob q⟩,λ_ _ _ n _=>n,λb ob q _=>⟨ob,k b ob q⟩,λ_ _ q=>q,λ_ _ _ q=>q,λ_ ps q=>⟨#[],by rw[q];simp⟩⟩
theorem Un.refl:Un fs ex H H h h:=Un.kept λ_ _ q=>q
theorem Un.laid(k:∀b u,h.get? b=some u->h'.get? b=some u)(hp:h.objs.size<=a)(hn:H a=none):Un fs ex H (upd H a o) h h' where
 keep:=λb u q _ _ _=>k b u q
 slot:=λb u q _ _ _=>⟨u.slots,k b u q⟩
 free:=λb u q n _=>by rw[qar (Nat.ne_of_lt (Nat.lt_of_lt_of_le (Heap.lt_size q) hp))];exact n
 there:=λb u q _=>⟨u,k b u q⟩
 tups:=λb xs q=>by rw[qar (qbb q hn)];exact q
 frzs:=λb u xs q=>by rw[qar (qbb q hn)];exact q
 tbls:=λb ps q=>⟨#[],by rw[qar (qbb q hn),q];simp⟩
theorem Un.write(mu:Mut (H x))(he:e=x\/H e=some (.own x))(k:∀b u,b≠e->h.get? b=some u->h'.get? b=some u)(heo:∃u,h'.get? e=some u):Un fs ex H (upd H x o) h h':=by
 have hx:∀b,H b=none->b≠x:=λb n z=>by subst z;rw[n] at mu;exact mu
 have hb:∀b,H b=none->b≠e:=λb n z=>by
  subst z
  rcases he with r|r
  ·exact hx b n r
  ·rw[n] at r;cases r
 have hm:∀b u,H b=some u->¬ Mut (some u)->b≠x:=λb u q nm z=>by subst z;rw[q] at mu;exact nm mu
 refine⟨λb u q n _ _=>k b u (hb b n) q,λb u q n _ _=>⟨u.slots,k b u (hb b n) q⟩,λb u q n _=>by rw[qar (hx b n)];exact n,λb u q _=>?_,
  λb xs q=>by rw[qar (hm b _ q λz=>z)];exact q,λb u xs q=>by rw[qar (hm b _ q λz=>z)];exact q,λb ps q=>⟨#[],by rw[qar (hm b _ q λz=>z),q];simp⟩⟩
 by_cases hbe:b=e
 ·subst hbe;exact heo
 ·exact⟨u,k b u hbe q⟩
theorem Un.mono(u:Un fs ex H H1 h h1)(hs:∀b∈fs,b∈fs')(hx:∀b∈ex,b∈ex'):Un fs' ex' H H1 h h1 :=
 ⟨λb ob q n hb he=>u.keep b ob q n (λz=>hb (hs b z)) λz=>he (hx b z),λ_ _ q n _ he=>u.any q n λz=>he (hx _ z),λb ob q n he=>u.free b ob q n λz=>he (hx b z),λb ob q he=>u.there b ob q λz=>he (hx b z),u.tups,u.frzs,u.tbls⟩
end
def trk(h:Heap)(H:Hp):List Addr:=(List.range h.objs.size).filter λa=>(H a).isSome
def hidT(h:Heap)(H:Hp):Heap:=PySem.W.hideAll h (trk h H)
theorem qsr(h:Heap)(H:Hp):(hidT h H).objs.size=h.objs.size:=PySem.W.hideAll_size _ _
theorem qvn{h:Heap}{H:Hp}{b:Addr}{o:Obj}(e:h.get? b=some o)(n:H b=none):(hidT h H).get? b=some o :=
 PySem.W.hideAll_get _ e λhm=>by
  have q:(H b).isSome=true:=(List.mem_filter.mp hm).2
  rw[n] at q;simp at q
theorem q0h{h:Heap}{H:Hp}{b:Addr}{o:Obj}(e:(hidT h H).get? b=some o):h.get? b=some o/\H b=none:=by
 have e':h.get? b=some o:=PySem.W.of_hideAll (trk h H) e
 refine⟨e',?_⟩
 cases q:H b with
|none=>rfl
|some x =>
  have hm:b∈trk h H:=List.mem_filter.mpr ⟨List.mem_range.mpr (Heap.lt_size e'),by simp[q]⟩
  have z:(hidT h H).get? b=none:=PySem.W.hideAll_none (trk h H) hm
  rw[z] at e;cases e
def qy9(g h:Heap)(L:Addr):List (Addr×Obj):=(List.range h.objs.size).filterMap λa=>if a=L\/(g.get? a).isSome=true then none else (h.get? a).map λo=>(a,o)
def rest(g h:Heap)(L d:Addr):List (Addr×Obj):=(qy9 g h L).filter λp=>decide (p.1≠d)
end L2
namespace L2
open PySem PySem.Spec PyProof.Rows
structure Mod(K:PySem.W.Frag)(mg:Str->Option Value)(base:Heap):Prop where
 kin:K.In base
 glob:base.Ns mainGlobals mg
 blt:∃mb,base.Ns builtinsNs mb/\∀x:Str,x≠"__name__" -> mb x=bootBuiltins x
 nolimit:base.NoLimit
structure Cx where
 prog:Program
 w:World
 K:PySem.W.Frag
 mg:Str->Option Value
 base:Heap
 A:Around
 N:List Str
 s₀:Shared
 H₀:Hp
 env:Env
 outer:List Env
 stack:List Env
 ex:List Addr
 fn:Str->Bool
 calm:Bool
 pn:List (Addr×Obj)
 xe:Value->Shared->Prop
def frs(l:List Env):List Addr:=l.filterMap (·.frame)
abbrev Cx.fs(X:Cx):List Addr:=frs X.outer
def Vis(sc:Scope)(x:Str):Prop:=sc.names.lookup x=some .local\/sc.names.lookup x=some .cell\/sc.names.lookup x=some .free
def Loc(sc:Scope)(x:Str):Prop:=sc.names.lookup x=some .local\/sc.names.lookup x=some .cell
def Look(env:Env)(h:Heap)(m:Str->Option Value)(x:Str)(u:Value):Prop :=
 (env.kindOf x=some .local/\m x=some u)\/((env.kindOf x=some .cell\/env.kindOf x=some .free)/\∃c,env.cells.lookup x=some c/\h.IsCell c (some u))
structure Cx.Ok(X:Cx):Prop where
 mod:Mod X.K X.mg X.base
 kind:X.env.scope.kind=.function
 glob:X.env.globals=mainGlobals
 blt:X.env.builtins=builtinsNs
 above:X.s₀.heap.objs.size<=X.env.locals
 inj:∀x y c,X.env.cells.lookup x=some c->X.env.cells.lookup y=some c->x=y
 has:∀x,(X.env.kindOf x=some .cell\/X.env.kindOf x=some .free)->∃c,X.env.cells.lookup x=some c
 cab:∀x c,X.fn x=true->X.env.cells.lookup x=some c->X.s₀.heap.objs.size<=c
 hd:X.calm=true->X.A.handled=none
 frames:X.A.frames=some X.stack
 stk:X.stack=X.outer\/(X.stack=X.env::X.outer/\X.env.frame=some X.env.locals)
 exf:∀b∈X.ex,b≠X.env.locals/\∀x c,X.env.cells.lookup x=some c->c≠b
 bs:∀b o,X.base.get? b=some o->X.s₀.heap.get? b=some o/\X.H₀ b=none
 bsz:X.base.objs.size<=X.s₀.heap.objs.size
 noex:∀b o,X.base.get? b=some o->b∉X.ex
 exfs:∀b∈X.ex,b∉X.fs
 funs:X.s₀.heap.FunFrames X.base X.outer
 frf:∀b∈X.fs,X.H₀ b=none
structure Inv(X:Cx)(pins:List (Addr×Obj))(σ:List (Option V))(H:Hp)(s:Shared):Prop where
 ok:X.Ok
 os:s.os=X.s₀.os
 bare:AllBare s.gens
 base:Un X.fs X.ex X.H₀ H X.s₀.heap s.heap
 loc:∃m,s.heap.Ns X.env.locals m/\∀(i:Nat) (x:Str) (v:V),X.N[i]?=some x->σ[i]?=some (some v)->Vis X.env.scope x->∃u,RelV v u/\Look X.env s.heap m x u
 cell:∀x c,X.env.cells.lookup x=some c->∃v,s.heap.IsCell c v
 free:H X.env.locals=none
 freeC:∀x c,X.env.cells.lookup x=some c->H c=none
 pin:∀p∈X.pn++pins,s.heap.get? p.1=some p.2/\H p.1=none/\p.1≠X.env.locals/\p.1∉X.fs/\∀v,p.2.data≠.cell v
 hok:HOk X.prog X.w H s.heap
 len:σ.length=X.N.length
section
variable {X:Cx} {pins:List (Addr×Obj)} {σ:List (Option V)} {H H':Hp} {s:Shared} {h':Heap}
theorem Cx.Ok.nofr(ok:X.Ok){b:Addr}{o:Obj}(e:X.base.get? b=some o):b∉X.fs:=λhb=>by
 have:=(ok.funs.mem hb).1
 rw[e] at this;cases this
theorem Inv.bs(I:Inv X pins σ H s):∀b o,X.base.get? b=some o->s.heap.get? b=some o/\H b=none:=λb o e =>
 ⟨I.base.keep b o (I.ok.bs b o e).1 (I.ok.bs b o e).2 (I.ok.nofr e) (I.ok.noex b o e),I.base.free b o (I.ok.bs b o e).1 (I.ok.bs b o e).2 (I.ok.noex b o e)⟩
theorem Inv.bk(I:Inv X pins σ H s):∀b o,X.base.get? b=some o->s.heap.get? b=some o:=λb o e=>(I.bs b o e).1
theorem Inv.mod(I:Inv X pins σ H s):Mod X.K X.mg X.base:=I.ok.mod
theorem Inv.kIn(I:Inv X pins σ H s):X.K.In s.heap:=I.ok.mod.kin.keeps I.bk
theorem Inv.lt(I:Inv X pins σ H s):X.env.locals<s.heap.objs.size:=let ⟨_,hn,_⟩:=I.loc;hn.lt
theorem Inv.sz(I:Inv X pins σ H s):X.s₀.heap.objs.size<=s.heap.objs.size:=Nat.le_trans I.ok.above (Nat.le_of_lt I.lt)
theorem Inv.nofs(I:Inv X pins σ H s){a:Addr}(h:s.heap.objs.size<=a):a∉X.fs:=λhb=>by
 obtain⟨_,o,ho,_⟩:=I.ok.funs.mem hb
 exact absurd (Nat.lt_of_lt_of_le (Heap.lt_size ho) (Nat.le_trans I.sz h)) (Nat.lt_irrefl _)
theorem Inv.cne(I:Inv X pins σ H s):∀x c,X.env.cells.lookup x=some c->c≠X.env.locals:=λx c e z=>by
 obtain⟨v,o,ho,hd⟩:=I.cell x c e
 obtain⟨m,⟨o',es,ep,ho',hd',_⟩,_⟩:=I.loc
 rw[z,ho'] at ho;cases ho;rw[hd'] at hd;cases hd
theorem Inv.funs(I:Inv X pins σ H s):s.heap.FunFrames X.base X.outer:=by
 have all:∀(l:List Env),(∀b∈frs l,b∈X.fs)->X.s₀.heap.FunFrames X.base l->s.heap.FunFrames X.base l:=by
  intro l
  induction l with
 |nil=>intro _ _;trivial
 |cons env r ih =>
   intro hs hl
   obtain⟨hk,⟨L,o,hf,hn,ho,hd⟩,hr⟩:=hl
   have hL:L∈X.fs:=hs L (by unfold frs;rw[List.filterMap_cons,hf];exact List.mem_cons_self)
   obtain⟨sl,e⟩:=I.base.slot L o ho (I.ok.frf L hL) hL λz=>I.ok.exfs L z hL
   exact⟨hk,⟨L,_,hf,hn,e,hd⟩,ih (λb hb=>hs b (by unfold frs;rw[List.filterMap_cons,hf];exact List.mem_cons_of_mem _ hb)) hr⟩
 exact all X.outer (λ_ hb=>hb) I.ok.funs
theorem Inv.stack(I:Inv X pins σ H s):s.heap.FunFrames X.base X.stack:=by
 rcases I.ok.stk with e|⟨e,hf⟩
 ·rw[e];exact I.funs
 ·rw[e]
  obtain⟨m,hn,_⟩:=I.loc
  refine .cons (by rw[I.ok.kind];decide) hf hn ?_ I.funs
  exact Heap.get?_none_of_le (Nat.le_trans I.ok.bsz I.ok.above)
theorem Inv.stkSub(I:Inv X pins σ H s):∀b∈frs X.stack,b∈X.env.locals::X.fs:=λb hb=>by
 rcases I.ok.stk with e|⟨e,hf⟩
 ·rw[e] at hb;exact List.mem_cons_of_mem _ hb
 ·rw[e] at hb
  unfold frs at hb
  rw[List.filterMap_cons,hf] at hb
  exact hb
theorem Inv.stkFree(I:Inv X pins σ H s):∀b∈frs X.stack,H b=none:=λb hb=>by
 rcases List.mem_cons.mp (I.stkSub b hb) with e|hb
 ·rw[e];exact I.free
 ·obtain⟨_,o,ho,_⟩:=I.ok.funs.mem hb
  exact I.base.free b o ho (I.ok.frf b hb) λz=>I.ok.exfs b z hb
theorem Inv.step{g':Array GenState}{t':Nat}{d':Drawn}{ch:List Addr}(I:Inv X pins σ H s)
  (hch:∀b∈ch,(b∈X.ex\/X.s₀.heap.objs.size<=b)/\b≠X.env.locals/\(∀x c,X.env.cells.lookup x=some c->c≠b)/\∀p∈X.pn++pins,p.1≠b)
  (keep:∀b o,b≠X.env.locals->b∉X.fs->b∉ch->s.heap.get? b=some o->H b=none->h'.get? b=some o)
  (slot:∀b o,b≠X.env.locals->b∈X.fs->b∉ch->s.heap.get? b=some o->H b=none->∃sl,h'.get? b=some { o with slots:=sl }) (free:∀b o,b∉ch->s.heap.get? b=some o->H b=none->H' b=none)
  (there:∀b o,b∉ch->s.heap.get? b=some o->∃o',h'.get? b=some o')
  (tups:∀b xs,H b=some (.tup xs)->H' b=some (.tup xs)) (frzs:∀b o u,H b=some (.frz o u)->H' b=some (.frz o u)) (tbls:∀b ps,H b=some (.tbl ps)->∃more,H' b=some (.tbl (ps++more)))
  (ns:∀m,s.heap.Ns X.env.locals m->h'.Ns X.env.locals m) (hok:HOk X.prog X.w H' h') (hg:AllBare g') :
  Inv X pins σ H' { s with heap:=h',gens:=g',drawn:=d',toks:=t' }:=by
 have neL:∀b o,X.s₀.heap.get? b=some o->b≠X.env.locals:=λb o e=>Nat.ne_of_lt (Nat.lt_of_lt_of_le (Heap.lt_size e) I.ok.above)
 have neC:∀b o,X.s₀.heap.get? b=some o->b∉X.ex->b∉ch:=λb o e hx hb=>by
  rcases (hch b hb).1 with z|z
  ·exact hx z
  ·exact absurd (Nat.lt_of_lt_of_le (Heap.lt_size e) z) (Nat.lt_irrefl _)
 have cellK:∀x c,X.env.cells.lookup x=some c->∀v,s.heap.IsCell c v->h'.IsCell c v:=λx c e v ⟨o,ho,hd⟩=>by
  have nch:c∉ch:=λz=>(hch c z).2.2.1 x c e rfl
  by_cases hc:c∈X.fs
  ·obtain⟨sl,q⟩:=slot c o (I.cne x c e) hc nch ho (I.freeC x c e)
   exact⟨_,q,hd⟩
  ·exact⟨o,keep c o (I.cne x c e) hc nch ho (I.freeC x c e),hd⟩
 refine⟨I.ok,I.os,hg,⟨λb o e n hb hx=>?_,λb o e n hb hx=>?_,λb o e n hx=>?_,λb o e hx=>?_,λb xs e=>tups b xs (I.base.tups b xs e),λb o xs e=>frzs b o xs (I.base.frzs b o xs e),λb ps e=>?_⟩,?_,λx c e=>?_,?_,λx c e=>?_,λp hp=>?_,hok,I.len⟩
 ·exact keep b o (neL b o e) hb (neC b o e hx) (I.base.keep b o e n hb hx) (I.base.free b o e n hx)
 ·obtain⟨sl,e1⟩:=I.base.slot b o e n hb hx
  obtain⟨sl',e2⟩:=slot b _ (neL b o e) hb (neC b o e hx) e1 (I.base.free b o e n hx)
  exact⟨sl',e2⟩
 ·obtain⟨o',e1⟩:=I.base.there b o e hx
  exact free b o' (neC b o e hx) e1 (I.base.free b o e n hx)
 ·obtain⟨o',e1⟩:=I.base.there b o e hx
  exact there b o' (neC b o e hx) e1
 ·obtain⟨m1,e1⟩:=I.base.tbls b ps e
  obtain⟨m2,e2⟩:=tbls b _ e1
  exact⟨m1++m2,by rw[e2,Array.append_assoc]⟩
 ·obtain⟨m,hn,hl⟩:=I.loc
  refine⟨m,ns m hn,λi x v e1 e2 e3=>?_⟩
  obtain⟨u,r,l⟩:=hl i x v e1 e2 e3
  refine⟨u,r,?_⟩
  rcases l with l|⟨k,c,e,z⟩
  ·exact .inl l
  ·exact .inr ⟨k,c,e,cellK x c e _ z⟩
 ·obtain⟨v,z⟩:=I.cell x c e
  exact⟨v,cellK x c e v z⟩
 ·obtain⟨m,⟨o,_,_,ho,_⟩,_⟩:=I.loc
  exact free _ o (λz=>(hch _ z).2.1 rfl) ho I.free
 ·obtain⟨v,o,ho,hd⟩:=I.cell x c e
  exact free c o (λz=>(hch c z).2.2.1 x c e rfl) ho (I.freeC x c e)
 ·obtain⟨e,n,ne,nf,d⟩:=I.pin p hp
  have nch:p.1∉ch:=λz=>(hch p.1 z).2.2.2 p hp rfl
  exact⟨keep p.1 p.2 ne nf nch e n,free p.1 p.2 nch e n,ne,nf,d⟩
theorem Inv.un{t':Nat}(I:Inv X pins σ H s)(u:Un X.fs [] H H' s.heap h')(hok:HOk X.prog X.w H' h'):Inv X pins σ H' { s with heap:=h',toks:=t' }:=by
 obtain⟨m,⟨o,es,ep,ho,r⟩,_⟩:=id I.loc
 obtain⟨sl,hL⟩:=u.any ho I.free (by simp)
 exact I.step (g':=s.gens) (d':=s.drawn) (ch:=[]) (λ_ z=>nomatch z) (λb o _ hb _ e n=>u.keep b o e n hb (by simp)) (λb o _ hb _ e n=>u.slot b o e n hb (by simp)) (λb o _ e n=>u.free b o e n (by simp)) (λb o _ e=>u.there b o e (by simp)) u.tups u.frzs u.tbls (λm' hm=>by
  obtain⟨o',es',ep',ho',r'⟩:=hm
  rw[ho] at ho';cases ho'
  exact⟨_,es',ep',hL,r'⟩) hok I.bare
theorem Inv.call{g':Array GenState}{t':Nat}{d':Drawn}{ch:List Addr}(I:Inv X pins σ H s)(u:Un (frs X.stack) ch H H' s.heap h')(hok:HOk X.prog X.w H' h')(hg:AllBare g')
  (hch:∀b∈ch,(b∈X.ex\/X.s₀.heap.objs.size<=b)/\b≠X.env.locals/\(∀x c,X.env.cells.lookup x=some c->c≠b)/\∀p∈X.pn++pins,p.1≠b) :
  Inv X pins σ H' { s with heap:=h',gens:=g',drawn:=d',toks:=t' }:=by
 obtain⟨m,⟨o,es,ep,ho,r⟩,_⟩:=id I.loc
 obtain⟨sl,hL⟩:=u.any ho I.free λz=>(hch _ z).2.1 rfl
 exact I.step (ch:=ch) hch (λb o hL hb hc e n=>u.keep b o e n (λz=>(List.mem_cons.mp (I.stkSub b z)).elim hL hb) hc) (λb o _ _ hc e n=>u.any e n hc) (λb o hc e n=>u.free b o e n hc) (λb o hc e=>u.there b o e hc) u.tups u.frzs u.tbls (λm' hm=>by
  obtain⟨o',es',ep',ho',r'⟩:=hm
  rw[ho] at ho';cases ho'
  exact⟨_,es',ep',hL,r'⟩) hok hg
theorem Inv.turned{t':Nat}{it:Addr}(I:Inv X pins σ H s)(k:∀b o,b≠it->s.heap.get? b=some o->h'.get? b=some o)(hn:H it=none)(hL:it≠X.env.locals)
  (h1:it∈X.ex\/X.s₀.heap.objs.size<=it) (h2:∀x c,X.env.cells.lookup x=some c->c≠it) (h3:∀p∈X.pn++pins,p.1≠it):Inv X pins σ H { s with heap:=h',toks:=t' }:=by
 have nit:∀b u,H b=some u->b≠it:=λb u e z=>by rw[z,hn] at e;cases e
 refine I.step (g':=s.gens) (d':=s.drawn) (ch:=[it]) (λb hb=>?_) (λb o _ _ hc e _=>k b o (λz=>hc (by simp[z])) e) (λb o _ _ hc e _=>⟨o.slots,k b o (λz=>hc (by simp[z])) e⟩) (λ_ _ _ _ n=>n)
  (λb o hc e=>⟨o,k b o (λz=>hc (by simp[z])) e⟩) (λ_ _ e=>e) (λ_ _ _ e=>e) (λb ps e=>⟨#[],by rw[e];simp⟩) (λm hm=>?_) (λb u e=>?_) I.bare
 ·have e:b=it:=by simpa using hb
  subst e
  exact⟨h1,hL,h2,h3⟩
 ·obtain⟨o,es,ep,ho,r⟩:=hm
  exact⟨o,es,ep,k _ o (Ne.symm hL) ho,r⟩
 ·refine(I.hok b u e).stay (λc v hc q=>k c v ?_ q) (λ_ q=>q) λ_ _ q=>q
  rcases hc with z|z
  ·rw[z];exact nit b u e
  ·exact nit c _ z
theorem Inv.tok(I:Inv X pins σ H s)(t:Nat):Inv X pins σ H { s with toks:=t }:=I.un (h':=s.heap) (t':=t) Un.refl I.hok
theorem Inv.kept{t':Nat}(I:Inv X pins σ H s)(k:∀b u,s.heap.get? b=some u->h'.get? b=some u):Inv X pins σ H { s with heap:=h',toks:=t' }:=I.un (Un.kept k) (I.hok.kept k)
theorem Inv.laid{a:Addr}{o:HO}{t':Nat}(I:Inv X pins σ H s)(k:∀b u,s.heap.get? b=some u->h'.get? b=some u)(hp:s.heap.objs.size<=a)(new:ObjOk X.prog X.w (upd H a o) h' a o) :
  Inv X pins σ (upd H a o) { s with heap:=h',toks:=t' }:=I.un (Un.laid k hp (I.hok.fresh hp)) (I.hok.laid k hp new)
theorem Inv.write{x e:Addr}{o:HO}{t':Nat}(I:Inv X pins σ H s)(mu:Mut (H x))(he:e=x\/H e=some (.own x))(k:∀b u,b≠e->s.heap.get? b=some u->h'.get? b=some u)(heo:∃u,h'.get? e=some u)
  (new:ObjOk X.prog X.w (upd H x o) h' x o):Inv X pins σ (upd H x o) { s with heap:=h',toks:=t' }:=I.un (Un.write mu he k heo) (I.hok.write mu he k heo new)
theorem Inv.pins_of{pins':List (Addr×Obj)}(I:Inv X pins σ H s)(h:∀p∈pins',s.heap.get? p.1=some p.2/\H p.1=none/\p.1≠X.env.locals/\p.1∉X.fs/\∀v,p.2.data≠.cell v):Inv X pins' σ H s :=
 ⟨I.ok,I.os,I.bare,I.base,I.loc,I.cell,I.free,I.freeC,λp hp=>(List.mem_append.mp hp).elim (λz=>I.pin p (List.mem_append_left _ z)) (h p),I.hok,I.len⟩
theorem qo3{N:List Str}(hN:N.Nodup){i j:Nat}{x:Str}(a:N[i]?=some x)(b:N[j]?=some x):i=j:=by
 obtain⟨h1,e1⟩:=List.getElem?_eq_some_iff.mp a
 obtain⟨h2,e2⟩:=List.getElem?_eq_some_iff.mp b
 exact(List.getElem_inj hN).mp (e1.trans e2.symm)
theorem ql4{M:Model}{A:Around}{E:Value->Shared->Prop}{i:Nat}{x:Str}{v:V}{u:Value}{Q:Unit->Shared->Prop}(I:Inv X pins σ H s)(hN:X.N.Nodup)(hi:X.N[i]?=some x)(hx:Loc X.env.scope x)(r:RelV v u)
  (h:∀s',Inv X pins (σ.set i (some v)) H s'->(∃a,Heap.SameBut a s.heap s'.heap/\(a=X.env.locals\/X.env.cells.lookup x=some a))->Q () s') (hf:X.fn x=true\/X.env.scope.names.lookup x=some .local:=by first|exact .inl rfl|exact .inr rfl|assumption):wpAny M A (storeName X.env x u) Q E s:=by
 obtain⟨m,hn,hl⟩:=id I.loc
 have hcls:(X.env.scope.kind==.class||(X.env.scope.kind==.module&&X.env.locals != X.env.globals))=false:=by rw[I.ok.kind];rfl
 have hiσ:i<σ.length:=by rw[I.len];exact(List.getElem?_eq_some_iff.mp hi).1
 have cne:=I.cne
 have tracked:∀ {a:Addr} {h':Heap},(∃o,s.heap.get? a=some o/\H a=none)->Heap.SameBut a s.heap h'->HOk X.prog X.w H h':=λ{a h'} ha hs b ob e=>by
  obtain⟨_,_,hfree⟩:=ha
  refine(I.hok b ob e).stay (λc w' hc q=>(hs.2 c ?_).trans q) (λ_ q=>q) λ_ _ q=>q
  rintro rfl
  rcases hc with rfl|hc
  ·rw[hfree] at e;cases e
  ·rw[hfree] at hc;cases hc
 rcases hx with hk|hk
 ·refine wpAny_storeName_local hk hn (λh' hn' hs=>?_) hcls
  obtain⟨oL,_,_,hoL,_⟩:=id hn
  refine h _ ⟨I.ok,I.os,I.bare,⟨λb o e n hb hx=>?_,λb o e n hb hx=>?_,I.base.free,λb o e hx=>?_,I.base.tups,I.base.frzs,I.base.tbls⟩,⟨_,hn',λj y v' e1 e2 e3=>?_⟩,λy c e=>?_,I.free,I.freeC,λp hp=>?_,tracked ⟨oL,hoL,I.free⟩ hs,by simpa using I.len⟩ ⟨_,hs,.inl rfl⟩
  ·exact(hs.2 b (Nat.ne_of_lt (Nat.lt_of_lt_of_le (Heap.lt_size e) I.ok.above))).trans (I.base.keep b o e n hb hx)
  ·obtain⟨sl,e1⟩:=I.base.slot b o e n hb hx
   exact⟨sl,(hs.2 b (Nat.ne_of_lt (Nat.lt_of_lt_of_le (Heap.lt_size e) I.ok.above))).trans e1⟩
  ·obtain⟨o',e1⟩:=I.base.there b o e hx
   exact⟨o',(hs.2 b (Nat.ne_of_lt (Nat.lt_of_lt_of_le (Heap.lt_size e) I.ok.above))).trans e1⟩
  ·by_cases hj:j=i
   ·subst hj
    rw[hi] at e1;cases e1
    rw[List.getElem?_set_self hiσ] at e2
    cases e2
    exact⟨u,r,.inl ⟨hk,by simp⟩⟩
   ·rw[List.getElem?_set_ne (Ne.symm hj)] at e2
    obtain⟨u',r',q⟩:=hl j y v' e1 e2 e3
    refine⟨u',r',?_⟩
    rcases q with ⟨k,e⟩|⟨k,c,e,z⟩
    ·refine .inl ⟨k,?_⟩
     have:y≠x:=λe=>hj (qo3 hN e1 (e▸hi))
     simp[this,e]
    ·exact .inr ⟨k,c,e,z.sameBut hs (cne y c e)⟩
  ·obtain⟨w',z⟩:=I.cell y c e
   exact⟨w',z.sameBut hs (cne y c e)⟩
  ·obtain⟨e,n,ne,nf,d⟩:=I.pin p hp
   exact⟨(hs.2 p.1 ne).trans e,n,ne,nf,d⟩
 ·have hfn:X.fn x=true:=by
   rcases hf with z|z
   ·exact z
   ·rw[z] at hk;cases hk
  obtain⟨c,hc⟩:=I.ok.has x (.inl hk)
  obtain⟨w',z⟩:=I.cell x c hc
  refine wpAny_storeName_cell I.ok.kind hk hc z (λh' hc' hs=>?_)
  obtain⟨oc,hoc,hocd⟩:=id z
  refine h { s with heap:=h' } ⟨I.ok,I.os,I.bare,⟨λb o e n hb hx=>?_,λb o e n hb hx=>?_,I.base.free,λb o e hx=>?_,I.base.tups,I.base.frzs,I.base.tbls⟩,⟨m,hn.sameBut hs (Ne.symm (cne x c hc)),λj y v' e1 e2 e3=>?_⟩,λy c' e=>?_,I.free,I.freeC,λp hp=>?_,tracked ⟨oc,hoc,I.freeC x c hc⟩ hs,by simpa using I.len⟩ ⟨c,hs,.inr hc⟩
  ·exact(hs.2 b (Nat.ne_of_lt (Nat.lt_of_lt_of_le (Heap.lt_size e) (I.ok.cab x c hfn hc)))).trans (I.base.keep b o e n hb hx)
  ·obtain⟨sl,e1⟩:=I.base.slot b o e n hb hx
   exact⟨sl,(hs.2 b (Nat.ne_of_lt (Nat.lt_of_lt_of_le (Heap.lt_size e) (I.ok.cab x c hfn hc)))).trans e1⟩
  ·obtain⟨o',e1⟩:=I.base.there b o e hx
   exact⟨o',(hs.2 b (Nat.ne_of_lt (Nat.lt_of_lt_of_le (Heap.lt_size e) (I.ok.cab x c hfn hc)))).trans e1⟩
  ·by_cases hj:j=i
   ·subst hj
    rw[hi] at e1;cases e1
    rw[List.getElem?_set_self hiσ] at e2
    cases e2
    exact⟨u,r,.inr ⟨.inl hk,c,hc,hc'⟩⟩
   ·rw[List.getElem?_set_ne (Ne.symm hj)] at e2
    obtain⟨u',r',q⟩:=hl j y v' e1 e2 e3
    refine⟨u',r',?_⟩
    rcases q with q|⟨k,c',e,z'⟩
    ·exact .inl q
    ·refine .inr ⟨k,c',e,z'.sameBut hs ?_⟩
     rintro rfl
     exact hj (qo3 hN e1 (I.ok.inj _ _ _ e hc▸hi))
  ·by_cases hcc:c'=c
   ·subst hcc;exact⟨_,hc'⟩
   ·obtain⟨w2,z2⟩:=I.cell y c' e
    exact⟨w2,z2.sameBut hs hcc⟩
  ·obtain⟨e,n,ne,nf,d⟩:=I.pin p hp
   refine⟨(hs.2 p.1 ?_).trans e,n,ne,nf,d⟩
   intro q
   rw[q,hoc] at e
   have q':oc=p.2:=Option.some.inj e
   exact d w' (by rw[←q'];exact hocd)
theorem qki{M:Model}{A:Around}{E:Value->Shared->Prop}{i:Nat}{x:Str}{v:V}{u:Value}{Q:Unit->Shared->Prop}(I:Inv X pins σ H s)(hN:X.N.Nodup)(hi:X.N[i]?=some x)(hx:Loc X.env.scope x)(r:RelV v u)
  (h:∀s',Inv X pins (σ.set i (some v)) H s'->Q () s') (hf:X.fn x=true\/X.env.scope.names.lookup x=some .local:=by first|exact .inl rfl|exact .inr rfl|assumption):wpAny M A (storeName X.env x u) Q E s :=
 ql4 I hN hi hx r (λs' I' _=>h s' I') hf
theorem Inv.call'{s':Shared}{ch:List Addr}(I:Inv X pins σ H s)(ho:s'.os=s.os)(u:Un (frs X.stack) ch H H' s.heap s'.heap)(hok:HOk X.prog X.w H' s'.heap)(hg:AllBare s'.gens)
  (hch:∀b∈ch,(b∈X.ex\/X.s₀.heap.objs.size<=b)/\b≠X.env.locals/\(∀x c,X.env.cells.lookup x=some c->c≠b)/\∀p∈X.pn++pins,p.1≠b):Inv X pins σ H' s':=by
 obtain⟨h',g',d',t',o'⟩:=s'
 have e:o'=s.os:=ho
 subst e
 exact I.call (g':=g') (t':=t') (d':=d') u hok hg hch
end
abbrev XK:=Value->Option Addr->Hp->Prop
abbrev St:=List (Option V)
abbrev VK:=V->Hp->Prop
abbrev TE:=St->Hp->VK->Prop
abbrev TT:=St->Hp->(Bool->Hp->Prop)->Prop
abbrev TA:=St->Hp->(List V->Hp->Prop)->Prop
structure Ends where
 nx:St->Hp->Prop
 rt:VK
 bk:St->Hp->Prop:=λ_ _=>False
 ct:St->Hp->Prop:=λ_ _=>False
abbrev TS:=Ends->St->Hp->Prop
def EP(X:Cx)(pins:List (Addr×Obj))(σ:St)(Q:VK)(u:Value)(s':Shared):Prop:=∃v H',Inv X pins σ H' s'/\RelV v u/\Q v H'
def TP(X:Cx)(pins:List (Addr×Obj))(σ:St)(Q:Bool->Hp->Prop)(b:Bool)(s':Shared):Prop:=∃H',Inv X pins σ H' s'/\Q b H'
def AP(X:Cx)(pins:List (Addr×Obj))(σ:St)(Q:List V->Hp->Prop)(us:List Value)(s':Shared):Prop:=∃vs H',Inv X pins σ H' s'/\Vals vs us/\Q vs H'
def SP(X:Cx)(pins:List (Addr×Obj))(D:Ends)(f:Flow)(s':Shared):Prop :=
 match f with
|.next=>∃σ' H',Inv X pins σ' H' s'/\D.nx σ' H'
|.brk=>∃σ' H',Inv X pins σ' H' s'/\D.bk σ' H'
|.cont=>∃σ' H',Inv X pins σ' H' s'/\D.ct σ' H'
|.ret u=>∃v σ' H',Inv X pins σ' H' s'/\RelV v u/\D.rt v H'
def PE(X:Cx)(e:Expr)(t:TE):Prop :=
 ∀(pins:List (Addr×Obj)) (s:Shared) (σ:St) (H:Hp) (Q:VK),Inv X pins σ H s->t σ H Q->wpAny (model X.prog X.w) X.A (eval e X.env) (EP X pins σ Q) X.xe s
def PT(X:Cx)(e:Expr)(t:TT):Prop :=
 ∀(pins:List (Addr×Obj)) (s:Shared) (σ:St) (H:Hp) (Q:Bool->Hp->Prop),Inv X pins σ H s->t σ H Q->wpAny (model X.prog X.w) X.A (isTrue e X.env (eval e X.env)) (TP X pins σ Q) X.xe s
def PW(X:Cx)(e:Expr)(t:TT):Prop :=
 ∀(whole:Sem Value) (pins:List (Addr×Obj)) (s:Shared) (σ:St) (H:Hp) (Q:Bool->Hp->Prop),Inv X pins σ H s->t σ H Q->wpAny (model X.prog X.w) X.A (isTrue e X.env whole) (TP X pins σ Q) X.xe s
theorem PW.pt{X:Cx}{e:Expr}{t:TT}(h:PW X e t):PT X e t:=h _
def PA(X:Cx)(es:List Expr)(t:TA):Prop :=
 ∀(pos:Pos) (pins:List (Addr×Obj)) (s:Shared) (σ:St) (H:Hp) (Q:List V->Hp->Prop),Inv X pins σ H s->t σ H Q->wpAny (model X.prog X.w) X.A (spliced (backTo pos (starEach es X.env))) (AP X pins σ Q) X.xe s
def PS(X:Cx)(st:Stmt)(t:TS):Prop :=
 ∀(pins:List (Addr×Obj)) (s:Shared) (σ:St) (H:Hp) (D:Ends),Inv X pins σ H s->t D σ H->wpAny (model X.prog X.w) X.A (exec st X.env) (SP X pins D) X.xe s
def PSs(X:Cx)(st:List Stmt)(t:TS):Prop :=
 ∀(pins:List (Addr×Obj)) (s:Shared) (σ:St) (H:Hp) (D:Ends),Inv X pins σ H s->t D σ H->wpAny (model X.prog X.w) X.A (execs st X.env) (SP X pins D) X.xe s
theorem thn{α:Type}{t:Sem α}{Q Q':α->Shared->Prop}{M:Model}{A:Around}{E:Value->Shared->Prop}{s:Shared}(h:wpAny M A t Q E s)(hQ:∀a s,Q a s->Q' a s):wpAny M A t Q' E s:=wpAny_mono h hQ λ_ _ x=>x
end L2
namespace L2
open PySem PySem.Spec PyProof.Rows
section
variable {X:Cx}
def tVar(i:Nat):TE:=λσ H Q=>∃v,σ[i]?=some (some v)/\Q v H
def tC(v:V):TE:=λ_ H Q=>Q v H
theorem q4d{i:Nat}{x:Str}{pos:Pos}(hN:X.N[i]?=some x)(hv:Vis X.env.scope x)(hd:(x==("__debug__" : Str))=false:=by decide)(hcd:(x==("__classdict__" : Str))=false:=by decide):PE X (.Name x pos) (tVar i):=by
 intro pins s σ H Q I h
 obtain⟨v,e,h⟩:=h
 obtain⟨m,hn,hl⟩:=I.loc
 obtain⟨u,r,l⟩:=hl i x v hN e hv
 have fin:EP X pins σ Q u s:=⟨v,H,I,r,h⟩
 rcases l with ⟨hk,hm⟩|⟨hk,c,hc,hcell⟩
 ·exact wpAny_Name (wpAny_loadName_local I.ok.kind hk hn hm fin) hd
 ·rcases hk with hk|hk
  ·exact wpAny_Name (wpAny_loadName_cell I.ok.kind hk hc hcell fin) hd
  ·exact wpAny_Name (wpAny_loadName_free I.ok.kind hk hc hcell fin hcd) hd
theorem q36{i j pos}:PE X (.Constant (.int i) j pos) (tC (.int i)):=λ_ _ _ H _ I h=>wpAny_Constant_int ⟨.int i,H,I.tok _,⟨_,rfl⟩,h⟩
theorem q6s{b j pos}:PE X (.Constant (.bool b) j pos) (tC (.bl b)):=λ_ _ _ H _ I h=>Constant_bool ⟨.bl b,H,I,rfl,h⟩
theorem q38{j pos}:PE X (.Constant .none j pos) (tC .non):=λ_ _ _ H _ I h=>Constant_none ⟨.non,H,I,rfl,h⟩
theorem q4b{x j pos}:PE X (.Constant (.str x) j pos) (tC (.str x)):=λ_ _ _ H _ I h=>Calls.Constant_str ⟨.str x,H,I.tok _,⟨_,rfl⟩,h⟩
def Gl(X:Cx)(x:Str):Prop:=X.env.kindOf x=some .globalImplicit
theorem qek{E:Value->Shared->Prop}{pins:List (Addr×Obj)}{s:Shared}{σ:St}{H:Hp}{x:Str}{u:Value}{pos:Pos}{Q:Value->Shared->Prop}(I:Inv X pins σ H s)(hg:Gl X x)(hm:X.mg x=some u)(h:Q u s)
  (hd:(x==("__debug__" : Str))=false:=by decide):wpAny (model X.prog X.w) X.A (eval (.Name x pos) X.env) Q E s :=
 Calls.Name_function_global I.ok.kind hg (Calls.loadGlobal_global (by rw[I.ok.glob];exact I.mod.glob.keeps I.bk) hm h) hd
theorem qld{E:Value->Shared->Prop}{pins:List (Addr×Obj)}{s:Shared}{σ:St}{H:Hp}{x:Str}{u:Value}{pos:Pos}{Q:Value->Shared->Prop}(I:Inv X pins σ H s)(hg:Gl X x)(hm:X.mg x=none)(hv:bootBuiltins x=some u)(h:Q u s)
  (hn:x≠"__name__" := by decide) (hd:(x==("__debug__" : Str))=false:=by decide):wpAny (model X.prog X.w) X.A (eval (.Name x pos) X.env) Q E s:=by
 obtain⟨mb,h1,h2⟩:=I.mod.blt
 exact Calls.Name_function_global I.ok.kind hg (Calls.loadGlobal_builtin (by rw[I.ok.glob];exact I.mod.glob.keeps I.bk) hm (by rw[I.ok.blt];exact h1.keeps I.bk) ((h2 x hn).trans hv) h) hd
theorem q0v{x:Str}{v:V}{u:Value}{pos:Pos}(hg:Gl X x)(hm:X.mg x=some u)(r:RelV v u)(hd:(x==("__debug__" : Str))=false:=by decide):PE X (.Name x pos) (tC v) :=
 λ_ _ _ H _ I h=>qek I hg hm ⟨v,H,I,r,h⟩ hd
theorem q0s{x:Str}{v:V}{u:Value}{pos:Pos}(hg:Gl X x)(hm:X.mg x=none)(hv:bootBuiltins x=some u)(r:RelV v u)(hn:x≠"__name__" := by decide)(hd:(x==("__debug__" : Str))=false:=by decide):PE X (.Name x pos) (tC v) :=
 λ_ _ _ H _ I h=>qld I hg hm hv ⟨v,H,I,r,h⟩ hn hd
variable {a b:Expr} {ta tb:TE} {pos:Pos}
def PC(X:Cx)(op:CmpOp)(a b:Expr)(t:TE):Prop :=
 ∀(pins:List (Addr×Obj)) (s:Shared) (σ:St) (H:Hp) (Q:VK),Inv X pins σ H s->t σ H Q ->
  wpAny (model X.prog X.w) X.A (eval a X.env) (λv s₁=>wpAny (model X.prog X.w) X.A (eval b X.env) (λu s₂=>wpAny (model X.prog X.w) X.A (compareOp op v u) (EP X pins σ Q) X.xe s₂) X.xe s₁) X.xe s
theorem qv3(b:Expr){op:CmpOp}(h:op≠.In)(h2:op≠.NotIn):behindInMarks op b=false:=by
 have e1:(op==CmpOp.In)=false:=by cases op<;>first|rfl|exact absurd rfl h
 have e2:(op==CmpOp.NotIn)=false:=by cases op<;>first|rfl|exact absurd rfl h2
 cases b<;>simp[behindInMarks,e1,e2]
def tB(t:TE):TT:=λσ H Q=>t σ H λx H1=>∃c,x=.bl c/\Q c H1
theorem qyh{op:CmpOp}{t:TE}(h:PC X op a b t)(h1:behindInMarks op b=false:=by first|exact qv3 _ (by decide) (by decide)|rfl):PT X (.Compare a [op] [b] pos) (tB t):=by
 intro pins s σ H Q I hw
 refine wpAny_isTrue_Compare1 (thn (h pins s σ H _ I hw) λv s1 h1=>thn h1 λu s2 h2=>thn h2 λc s3 ⟨x,H1,I1,r1,q1⟩=>?_) h1
 obtain⟨d,rfl,q⟩:=q1
 cases r1
 exact wpAny_truthy_bool ⟨H1,I1,q⟩
theorem q4n{e:Expr}{t:TE}(h:PE X e t)(he:∀whole,isTrue e X.env whole=(do let v ←whole;standAt e.pos;holding [v] (truthy v)):=by intro _;rfl):PT X e (tB t):=by
 intro pins s σ H Q I hw
 refine isTrue_plain (thn (h pins s σ H _ I hw) λv s1 ⟨x,H1,I1,r1,q1⟩=>?_) (he _)
 obtain⟨d,rfl,q⟩:=q1
 cases r1
 exact wpAny_truthy_bool ⟨H1,I1,q⟩
variable {tA tB':TT} {rest:List Expr}
def tAnd(t u:TT):TT:=λσ H Q=>t σ H λc H1=>if c=true then u σ H1 Q else Q false H1
def tOr(t u:TT):TT:=λσ H Q=>t σ H λc H1=>if c=true then Q true H1 else u σ H1 Q
def tNot(t:TT):TT:=λσ H Q=>t σ H λc H1=>Q (!c) H1
theorem q09(ha:PT X a tA):PW X (.BoolOp .And [a] pos) tA:=by
 intro wh pins s σ H Q I h
 refine isTrue_and (thn (ha pins s σ H Q I h) λc s1 e=>?_)
 cases c with
|true=>exact isTrue_and_nil e
|false=>exact e
theorem q4p(ha:PT X a tA):PW X (.BoolOp .Or [a] pos) tA:=by
 intro wh pins s σ H Q I h
 refine isTrue_or (thn (ha pins s σ H Q I h) λc s1 e=>?_)
 cases c with
|false=>exact isTrue_or_nil e
|true=>exact e
theorem q4o(ha:PT X a tA)(hb:PW X (.BoolOp .And (b::rest) pos) tB'):PW X (.BoolOp .And (a::b::rest) pos) (tAnd tA tB'):=by
 intro wh pins s σ H Q I h
 refine isTrue_and (thn (ha pins s σ H _ I h) λc s1 ⟨H1,I1,q1⟩=>?_)
 cases c with
|true=>exact hb wh pins s1 σ H1 Q I1 q1
|false=>exact⟨H1,I1,q1⟩
theorem q61(ha:PT X a tA)(hb:PW X (.BoolOp .Or (b::rest) pos) tB'):PW X (.BoolOp .Or (a::b::rest) pos) (tOr tA tB'):=by
 intro wh pins s σ H Q I h
 refine isTrue_or (thn (ha pins s σ H _ I h) λc s1 ⟨H1,I1,q1⟩=>?_)
 cases c with
|true=>exact⟨H1,I1,q1⟩
|false=>exact hb wh pins s1 σ H1 Q I1 q1
theorem q4m(ha:PT X a tA):PT X (.UnaryOp .Not a pos) (tNot tA):=by
 intro pins s σ H Q I h
 exact isTrue_not (ha pins s σ H (λc H1=>Q (!c) H1) I h)
def q5l(ta tb:TE):TE:=λσ H Q=>ta σ H λx H1=>∃c,x=.bl c/\if c=true then tb σ H1 Q else Q (.bl false) H1
def tOrV(ta tb:TE):TE:=λσ H Q=>ta σ H λx H1=>∃c,x=.bl c/\if c=true then Q (.bl true) H1 else tb σ H1 Q
def q5q(ta:TE):TE:=λσ H Q=>ta σ H λx H1=>∃c,x=.bl c/\Q (.bl (!c)) H1
theorem q4a{op}{t:TE}(h:PE X a t):PE X (.BoolOp op [a] pos) t:=λpins s σ H Q I hw=>BoolOp_one (h pins s σ H Q I hw)
theorem q34(ha:PE X a ta)(hb:PE X (.BoolOp .And (b::rest) pos) tb):PE X (.BoolOp .And (a::b::rest) pos) (q5l ta tb):=by
 intro pins s σ H Q I h
 refine BoolOp_and (thn (ha pins s σ H _ I h) λv s1 ⟨x,H1,I1,r1,q1⟩=>?_)
 obtain⟨c,rfl,q1⟩:=q1
 cases r1
 refine wpAny_truthy_bool ?_
 cases c with
|true=>exact hb pins s1 σ H1 Q I1 q1
|false=>exact⟨.bl false,H1,I1,rfl,q1⟩
theorem q6w(ha:PE X a ta)(hb:PE X (.BoolOp .Or (b::rest) pos) tb):PE X (.BoolOp .Or (a::b::rest) pos) (tOrV ta tb):=by
 intro pins s σ H Q I h
 refine BoolOp_or (thn (ha pins s σ H _ I h) λv s1 ⟨x,H1,I1,r1,q1⟩=>?_)
 obtain⟨c,rfl,q1⟩:=q1
 cases r1
 refine wpAny_truthy_bool ?_
 cases c with
|false=>exact hb pins s1 σ H1 Q I1 q1
|true=>exact⟨.bl true,H1,I1,rfl,q1⟩
theorem q39(ha:PE X a ta):PE X (.UnaryOp .Not a pos) (q5q ta):=by
 intro pins s σ H Q I h
 refine UnaryOp_ (thn (ha pins s σ H _ I h) λv s1 ⟨x,H1,I1,r1,q1⟩=>?_)
 obtain⟨c,rfl,q1⟩:=q1
 cases r1
 exact not_of (wpAny_truthy_bool ⟨.bl (!c),H1,I1,rfl,q1⟩)
def tIf(t:TT)(ta tb:TE):TE:=λσ H Q=>t σ H λc H1=>if c=true then ta σ H1 Q else tb σ H1 Q
theorem qwg{c:Expr}(hc:PT X c tA)(ha:PE X a ta)(hb:PE X b tb):PE X (.IfExp c a b pos) (tIf tA ta tb):=by
 intro pins s σ H Q I h
 refine wpAny_IfExp (thn (hc pins s σ H _ I h) λd s1 ⟨H1,I1,q1⟩=>?_)
 cases d with
|true=>exact ha pins s1 σ H1 Q I1 q1
|false=>exact hb pins s1 σ H1 Q I1 q1
end
end L2
namespace L2
open PySem PySem.Spec PyProof.Rows
def SqL(K:PySem.W.Frag)(H:Hp)(a:Addr)(xs:List V):Prop :=
 Rd H a (.lst xs) \/
  ∃(o:Obj) (its:Array Value) (n:Nat),K.lookup a=some o/\o.cls=.type "list" /\ o.dict=none/\o.data=.seq its n/\its.size<=sizeLine/\Vals xs its.toList
def SqT(K:PySem.W.Frag)(H:Hp)(a:Addr)(xs:List V):Prop :=
 Rd H a (.tup xs) \/
  ∃(o:Obj) (its:Array Value) (n:Nat),K.lookup a=some o/\o.cls=.type "tuple" /\ o.data=.seq its n/\its.size<=sizeLine/\Vals xs its.toList
def absV:Value->Option V
|.none=>some .non
|.bool b=>some (.bl b)
|.int i _=>some (.int i)
|.str x _=>some (.str x)
|.bytes b _=>some (.byt b)
|.float b _=>some (.flt b)
|.ref a=>some (.ref a)
|.type n=>some (.ty n)
|_=>none
theorem RelV.abs{x:V}{u:Value}(r:RelV x u):absV u=some x:=by
 cases x with
|non=>cases r;rfl
|bl _=>cases r;rfl
|int _=>obtain⟨t,rfl⟩:=r;rfl
|str _=>obtain⟨t,rfl⟩:=r;rfl
|byt _=>obtain⟨t,rfl⟩:=r;rfl
|flt _=>obtain⟨t,rfl⟩:=r;rfl
|ref _=>cases r;rfl
|ty _=>cases r;rfl
theorem RelV.inj{x y:V}{u:Value}(r:RelV x u)(q:RelV y u):x=y:=Option.some.inj (r.abs.symm.trans q.abs)
theorem Vals.inj:∀ {xs ys:List V} {us:List Value},Vals xs us->Vals ys us->xs=ys
|_,_,_,.nil,.nil=>rfl
|_,_,_,.cons r t,.cons r' t'=>by rw[r.inj r',Vals.inj t t']
section
variable {X:Cx} {pins:List (Addr×Obj)} {σ:St} {H:Hp} {s:Shared} {a:Addr} {xs ys:List V}
theorem SqL.of{K:PySem.W.Frag}(h:H a=some (.lst xs)):SqL K H a xs:=.inl (.inl h)
theorem SqT.of{K:PySem.W.Frag}(h:H a=some (.tup xs)):SqT K H a xs:=.inl (.inl h)
theorem Inv.list(I:Inv X pins σ H s)(h:SqL X.K H a xs):∃its:List Value,Vals xs its/\PlainL s.heap a its.toArray/\xs.length<=sizeLine:=by
 rcases h with h|⟨o,its,n,hk,hc,hd,hs,hz,r⟩
 ·obtain⟨z,its,n,r,e⟩:=h.ok I.hok
  exact⟨its,r,⟨_,n,e,rfl,rfl,rfl⟩,z⟩
 ·refine⟨its.toList,r,⟨o,n,I.kIn a o hk,hc,hd,by simpa using hs⟩,?_⟩
  have e:=r.length
  simp only[Array.length_toList] at e
  lia
theorem Inv.tuple(I:Inv X pins σ H s)(h:SqT X.K H a xs):∃its:List Value,Vals xs its/\IsTup s.heap a its.toArray/\xs.length<=sizeLine:=by
 rcases h with h|⟨o,its,n,hk,hc,hs,hz,r⟩
 ·obtain⟨z,its,r,p⟩:=h.ok I.hok
  exact⟨its,r,p,z⟩
 ·refine⟨its.toList,r,⟨o,I.kIn a o hk,hc,n,by simpa using hs⟩,?_⟩
  have e:=r.length
  simp only[Array.length_toList] at e
  lia
theorem Inv.list_inj(I:Inv X pins σ H s)(h:SqL X.K H a xs)(h':SqL X.K H a ys):xs=ys:=by
 obtain⟨its,r,⟨o,n,e,_,_,d⟩,_⟩:=I.list h
 obtain⟨its',r',⟨o',n',e',_,_,d'⟩,_⟩:=I.list h'
 rw[e] at e';cases e'
 rw[d] at d'
 injection d' with d1 _
 have:its=its':=by simpa using congrArg Array.toList d1
 subst this
 exact r.inj r'
theorem Inv.tuple_inj(I:Inv X pins σ H s)(h:SqT X.K H a xs)(h':SqT X.K H a ys):xs=ys:=by
 obtain⟨its,r,⟨o,e,_,n,d⟩,_⟩:=I.tuple h
 obtain⟨its',r',⟨o',e',_,n',d'⟩,_⟩:=I.tuple h'
 rw[e] at e';cases e'
 rw[d] at d'
 injection d' with d1 _
 have:its=its':=by simpa using congrArg Array.toList d1
 subst this
 exact r.inj r'
end
abbrev Cx.wish(X:Cx)(E:Value->Shared->Prop):Cx:={ X with xe:=E }
abbrev Cx.nox(X:Cx):Cx:=X.wish λ_ _=>False
theorem Cx.Ok.wish{X:Cx}(ok:X.Ok)(E:Value->Shared->Prop):(X.wish E).Ok :=
 ⟨ok.mod,ok.kind,ok.glob,ok.blt,ok.above,ok.inj,ok.has,ok.cab,ok.hd,ok.frames,ok.stk,ok.exf,ok.bs,ok.bsz,ok.noex,ok.exfs,ok.funs,ok.frf⟩
theorem Cx.Ok.unwish{X:Cx}{E:Value->Shared->Prop}(ok:(X.wish E).Ok):X.Ok :=
 ⟨ok.mod,ok.kind,ok.glob,ok.blt,ok.above,ok.inj,ok.has,ok.cab,ok.hd,ok.frames,ok.stk,ok.exf,ok.bs,ok.bsz,ok.noex,ok.exfs,ok.funs,ok.frf⟩
section
variable {X:Cx} {pins:List (Addr×Obj)} {σ:St} {H:Hp} {s:Shared} {E:Value->Shared->Prop}
theorem Inv.wish(I:Inv X pins σ H s)(E:Value->Shared->Prop):Inv (X.wish E) pins σ H s:=⟨I.ok.wish E,I.os,I.bare,I.base,I.loc,I.cell,I.free,I.freeC,I.pin,I.hok,I.len⟩
theorem Inv.unwish(I:Inv (X.wish E) pins σ H s):Inv X pins σ H s:=⟨I.ok.unwish,I.os,I.bare,I.base,I.loc,I.cell,I.free,I.freeC,I.pin,I.hok,I.len⟩
theorem SP.unwish{D:Ends}{f:Flow}{s':Shared}(h:SP (X.wish E) pins D f s'):SP X pins D f s':=by
 cases f with
|next=>obtain⟨σ',H',I,q⟩:=h;exact⟨σ',H',I.unwish,q⟩
|brk=>obtain⟨σ',H',I,q⟩:=h;exact⟨σ',H',I.unwish,q⟩
|cont=>obtain⟨σ',H',I,q⟩:=h;exact⟨σ',H',I.unwish,q⟩
|ret u=>obtain⟨v,σ',H',I,r,q⟩:=h;exact⟨v,σ',H',I.unwish,r,q⟩
theorem PSs.nox{st:List Stmt}{t:TS}(h:PSs X.nox st t):PSs X st t:=λpins s σ H D I hw =>
 wpAny_mono (h pins s σ H D (I.wish _) hw) (λ_ _ q=>q.unwish) λ_ _ z=>False.elim z
end
section
variable {X:Cx} {st:Stmt} {rest:List Stmt} {t u:TS} {e:Expr} {te:TE} {pos:Pos}
def q5p:TS:=λD σ H=>D.nx σ H
def tSeq(t u:TS):TS:=λD σ H=>t { D with nx:=u D } σ H
theorem q05:PSs X [] q5p:=λ_ _ σ H _ I h=>wpAny_execs_nil ⟨σ,H,I,h⟩
theorem qwm(h1:PS X st t)(h2:PSs X rest u):PSs X (st::rest) (tSeq t u):=by
 intro pins s σ H D I h
 refine wpAny_execs_cons (thn (h1 pins s σ H { D with nx:=u D } I h) λf s1 q=>?_)
 cases f with
|next =>
  obtain⟨σ',H',I',q⟩:=q
  exact h2 pins s1 σ' H' D I' q
|ret v=>exact q
|brk=>exact q
|cont=>exact q
theorem q06(h1:PS X st t):PSs X [st] t:=by
 intro pins s σ H D I h
 refine wpAny_execs_cons (thn (h1 pins s σ H D I h) λf s1 q=>?_)
 cases f with
|next=>exact wpAny_execs_nil q
|ret v=>exact q
|brk=>exact q
|cont=>exact q
theorem Inv.quiet{pins:List (Addr×Obj)}{σ:St}{H:Hp}{s:Shared}(I:Inv X pins σ H s):interactive X.env=false:=by simp[interactive,I.ok.kind]
def q5o(te:TE):TS:=λD σ H=>te σ H λ_ H1=>D.nx σ H1
theorem q03(he:PE X e te)(hs:swapsWith e none pos.line X.env=pure false:=by rfl):PS X (.Expr e pos) (q5o te):=by
 intro pins s σ H D I h
 exact wpAny_Expr_any (thn (he pins s σ H _ I h) λv s1 ⟨x,H1,I1,r1,q1⟩=>⟨σ,H1,I1,q1⟩) I.quiet hs
def tRet(te:TE):TS:=λD σ H=>te σ H D.rt
theorem q4k(he:PE X e te):PS X (.Return (some e) pos) (tRet te):=by
 intro pins s σ H D I h
 exact wpAny_Return_some (thn (he pins s σ H _ I h) λv s1 ⟨x,H1,I1,r1,q1⟩=>⟨x,σ,H1,I1,r1,q1⟩)
def tIfS(c:TT)(t u:TS):TS:=λD σ H=>c σ H λb H1=>if b=true then t D σ H1 else u D σ H1
theorem q6z{c:Expr}{a b:List Stmt}{tc:TT}(hc:PT X c tc)(ha:PSs X a t)(hb:PSs X b u):PS X (.If c a b pos) (tIfS tc t u):=by
 intro pins s σ H D I h
 refine wpAny_If (thn (hc pins s σ H _ I h) λd s1 ⟨H1,I1,q1⟩=>?_)
 cases d with
|true=>exact ha pins s1 σ H1 D I1 q1
|false=>exact hb pins s1 σ H1 D I1 q1
end
abbrev TG:=V->St->Hp->(St->Hp->Prop)->Prop
abbrev TGs:=List V->St->Hp->(St->Hp->Prop)->Prop
def PG(X:Cx)(target:Expr)(t:TG):Prop :=
 ∀(pins:List (Addr×Obj)) (s:Shared) (σ:St) (H:Hp) (v:V) (u:Value) (Q:St->Hp->Prop),Inv X pins σ H s->RelV v u->t v σ H Q ->
  wpAny (model X.prog X.w) X.A (assign target X.env u) (λ_ s'=>∃σ' H',Inv X pins σ' H' s'/\Q σ' H') X.xe s
def PGs(X:Cx)(ts:List Expr)(t:TGs):Prop :=
 ∀(pins:List (Addr×Obj)) (s:Shared) (σ:St) (H:Hp) (vs:List V) (us:List Value) (Q:St->Hp->Prop),Inv X pins σ H s->Vals vs us->t vs σ H Q ->
  wpAny (model X.prog X.w) X.A (assignInOrder ((assignEach ts X.env).map (·.2)) us) (λ_ s'=>∃σ' H',Inv X pins σ' H' s'/\Q σ' H') X.xe s
abbrev TSet:=V->V->V->Hp->(Hp->Prop)->Prop
def PSet(X:Cx)(t:TSet):Prop :=
 ∀(pins:List (Addr×Obj)) (s:Shared) (σ:St) (H:Hp) (o i v:V) (ov iv u:Value) (Q:Hp->Prop),Inv X pins σ H s->RelV o ov->RelV i iv->RelV v u->t o i v H Q ->
  wpAny (model X.prog X.w) X.A (setItem ov iv u) (λ_ s'=>∃H',Inv X pins σ H' s'/\Q H') X.xe s
section
variable {X:Cx} {pos:Pos}
def qlb(i:Nat):TG:=λv σ H Q=>Q (σ.set i (some v)) H
theorem q0w{i:Nat}{x:Str}(hN:X.N.Nodup)(hi:X.N[i]?=some x)(hx:Loc X.env.scope x)(hf:X.fn x=true\/X.env.scope.names.lookup x=some .local:=by first|exact .inl rfl|exact .inr rfl|assumption):PG X (.Name x pos) (qlb i):=by
 intro pins s σ H v u Q I r h
 exact wpAny_assign_Name (qki I hN hi hx r (λs' I'=>⟨_,H,I',h⟩) hf)
def gNil:TGs:=λvs σ H Q=>vs=[]/\Q σ H
def q22(t:TG)(u:TGs):TGs:=λvs σ H Q=>∃v r,vs=v::r/\t v σ H λσ' H'=>u r σ' H' Q
theorem q0x:PGs X [] gNil:=by
 intro pins s σ H vs us Q I r h
 obtain⟨e,h⟩:=h
 subst e
 cases r
 exact assignInOrder_nil ⟨σ,H,I,h⟩
theorem qwi{e:Expr}{es:List Expr}{t:TG}{u:TGs}(h1:PG X e t)(h2:PGs X es u)
  (hs:(assignEach (e::es) X.env).map (·.2)=assign e X.env::(assignEach es X.env).map (·.2):=by rfl):PGs X (e::es) (q22 t u):=by
 intro pins s σ H vs us Q I r h
 obtain⟨v,vr,e1,h⟩:=h
 subst e1
 cases r with
|cons r rr =>
  rw[hs]
  refine assignInOrder_cons (thn (h1 pins s σ H _ _ _ I r h) λ_ s1 ⟨σ1,H1,I1,q1⟩=>?_)
  exact h2 pins s1 σ1 H1 _ _ Q I1 rr q1
def gTup(K:PySem.W.Frag)(n:Nat)(t:TGs):TG:=λv σ H Q=>∃a xs,v=.ref a/\SqT K H a xs/\xs.length=n/\t xs σ H Q
theorem q4f{es:List Expr}{k:Nat}{t:TGs}{n:Nat}(hc:X.calm=true)(h:PGs X es t)
  (hn:(assignEach es X.env).length=n:=by rfl) (hst:(assignEach es X.env).findIdx? (·.1)=none:=by rfl):PG X (.Tuple es k pos) (gTup X.K n t):=by
 intro pins s σ H v u Q I r hw
 obtain⟨a,xs,e1,hq,hl,hw⟩:=hw
 subst e1
 cases r
 obtain⟨its,rv,ht,hz⟩:=I.tuple hq
 refine assign_Tuple_tuple (I.ok.hd hc) ht (by simp[hn,←hl,rv.length]) hst λh' hx=>?_
 have I1:Inv X pins σ H { s with heap:=h' }:=I.kept (t':=s.toks) λb o e=>hx b o (Nat.ne_of_lt (Heap.lt_size e)) e
 exact h pins _ σ H xs _ Q I1 (by simpa using rv) hw
def gSub(to ti:TE)(t:TSet):TG:=λv σ H Q=>to σ H λo H1=>ti σ H1 λi H2=>t o i v H2 λH3=>Q σ H3
theorem q4e{o i:Expr}{to ti:TE}{t:TSet}(ho:PE X o to)(hi:PE X i ti)(hs:PSet X t)
  (ha:∀v,assign (.Subscript o i pos) X.env v=(do
   let ov ←holding [v] (eval o X.env)
   let iv ←holding [v,ov] (eval i X.env)
   standAt pos
   holding [v,ov,iv] (setItem ov iv v)
   release [v,ov,iv] []):=by intro _;rfl):PG X (.Subscript o i pos) (gSub to ti t):=by
 intro pins s σ H v u Q I r h
 rw[ha]
 refine wpAny_bind (wpAny_holding (thn (ho pins s σ H _ I h) λov s1 ⟨x,H1,I1,r1,q1⟩=>?_))
 refine wpAny_bind (wpAny_holding (thn (hi pins s1 σ H1 _ I1 q1) λiv s2 ⟨y,H2,I2,r2,q2⟩=>?_))
 refine wpAny_bind (wpAny_standAt (wpAny_bind (wpAny_holding (thn (hs pins s2 σ H2 x y v ov iv u _ I2 r1 r2 r q2) λ_ s3 ⟨H3,I3,q3⟩=>?_))))
 exact wpAny_release ⟨σ,H3,I3,q3⟩
def tAsg(te:TE)(g:TG):TS:=λD σ H=>te σ H λx H1=>g x σ H1 D.nx
theorem q4i{tg e:Expr}{te:TE}{g:TG}(he:PE X e te)(hg:PG X tg g)(hs:swapsWithSole [tg] e pos.line X.env=pure false:=by rfl)(hw:swappedStores [tg] e X.env=pure none:=by rfl)
  (h1:(assignEach [tg] X.env).map (·.2)=[assign tg X.env]:=by rfl):PS X (.Assign [tg] e pos) (tAsg te g):=by
 intro pins s σ H D I h
 refine wpAny_Assign_stores (thn (he pins s σ H _ I h) λv s1 ⟨x,H1,I1,r1,q1⟩=>?_) hs hw
 rw[h1]
 exact thn (hg pins s1 σ H1 x v _ I1 r1 q1) λ_ s2 q=>q
theorem q4l{i:Nat}{x:Str}{e:Expr}{te:TE}{pos':Pos}(hN:X.N.Nodup)(hi:X.N[i]?=some x)(hx:Loc X.env.scope x)(he:PE X e te)(hs:swapsWith e (some (.Name x pos')) pos.line X.env=pure false:=by rfl)(hf:X.fn x=true\/X.env.scope.names.lookup x=some .local:=by first|exact .inl rfl|exact .inr rfl|assumption) :
  PS X (.Assign [.Name x pos'] e pos) (tAsg te (qlb i)):=by
 intro pins s σ H D I h
 refine wpAny_Assign_Name (thn (he pins s σ H _ I h) λv s1 ⟨y,H1,I1,r1,q1⟩=>?_) hs
 exact qki I1 hN hi hx r1 (λs2 I2=>⟨_,H1,I2,q1⟩) hf
end
section
variable {X:Cx} {pos:Pos}
end
structure It where
 go:Nat->Hp->Prop
 yld:Nat->Hp->V->Hp->Prop
 stop:Nat->Hp->Prop
def FpOk(X:Cx)(pins:List (Addr×Obj))(H:Hp)(b:Addr):Prop :=
 H b=none/\b≠X.env.locals/\b∉X.fs/\(b∈X.ex\/X.s₀.heap.objs.size<=b)/\(∀x c,X.env.cells.lookup x=some c->c≠b)/\∀p∈X.pn++pins,p.1≠b
theorem Inv.fpOk{X:Cx}{pins:List (Addr×Obj)}{σ:St}{H H':Hp}{s:Shared}{b:Addr}(I:Inv X pins σ H s)(hb:s.heap.objs.size<=b)(hn:H' b=none):FpOk X pins H' b:=by
 refine⟨hn,Nat.ne_of_gt (Nat.lt_of_lt_of_le I.lt hb),I.nofs hb,.inr (Nat.le_trans I.sz hb),λx c e z=>?_,λp hp z=>?_⟩
 ·obtain⟨v,q⟩:=I.cell x c e
  exact absurd (Nat.lt_of_lt_of_le q.lt (by rw[z];exact hb)) (Nat.lt_irrefl _)
 ·exact absurd (Nat.lt_of_lt_of_le (Heap.lt_size (I.pin p hp).1) (by rw[z];exact hb)) (Nat.lt_irrefl _)
structure Turn(P:Program)(w:World)(K:PySem.W.Frag)(tg:Expr)(J:It)(fp:List Addr)(it:Addr)(tn:Nat->Heap->Prop):Prop where
 mem:it∈fp
 obj:∀i h,tn i h->∀b∈fp,∃o,h.get? b=some o/\∀v,o.data≠.cell v
 keep:∀i h h',tn i h->(∀b∈fp,∀o,h.get? b=some o->h'.get? b=some o)->tn i h'
 item:∀(X:Cx),X.prog=P->X.w=w->X.K=K->X.calm=true->∀(i:Nat) (pins:List (Addr×Obj)) (s:Shared) (σ:St) (H:Hp) (E:Value->Shared->Prop),Inv X pins σ H s->(∀b∈fp,FpOk X pins H b)->tn i s.heap->J.go i H ->
  wpAny (model P w) X.A (pyNext (.ref it)) (λr s1=>∃u,r=some u /\
   wpAny (model P w) X.A (letOwnedTupleGo tg (.ref it) u) (λ_ s2=>∃x H',Inv X pins σ H' s2/\RelV x u/\J.yld i H x H'/\tn (i+1) s2.heap/\∀b∈fp,H' b=none) E s1) E s
 done:∀(X:Cx),X.prog=P->X.w=w->X.K=K->X.calm=true->∀(i:Nat) (pins:List (Addr×Obj)) (s:Shared) (σ:St) (H:Hp) (E:Value->Shared->Prop),Inv X pins σ H s->(∀b∈fp,FpOk X pins H b)->tn i s.heap->J.stop i H ->
  wpAny (model P w) X.A (pyNext (.ref it)) (λr s1=>r=none/\Inv X pins σ H s1) E s
 self:∀(A:Around) (i:Nat) (s:Shared) (Q:Value->Shared->Prop) (E:Value->Shared->Prop),tn i s.heap->Q (.ref it) s->wpAny (model P w) A (pyIter (.ref it)) Q E s
abbrev TI:=St->Hp->(It->Hp->Prop)->Prop
def PIE(X:Cx)(pins:List (Addr×Obj))(σ:St)(tg:Expr)(R:It->Hp->Prop)(itv:Value)(s2:Shared):Prop :=
 ∃(it:Addr) (fp:List Addr) (tn:Nat->Heap->Prop) (J:It) (H':Hp),itv=.ref it/\Inv X pins σ H' s2/\Turn X.prog X.w X.K tg J fp it tn/\tn 0 s2.heap/\(∀b∈fp,FpOk X pins H' b)/\R J H'
def PI(X:Cx)(tg iter:Expr)(wi:TI):Prop :=
 ∀(pins:List (Addr×Obj)) (s:Shared) (σ:St) (H:Hp) (R:It->Hp->Prop),Inv X pins σ H s->wi σ H R ->
  wpAny (model X.prog X.w) X.A (eval iter X.env) (λv s1=>wpAny (model X.prog X.w) X.A (pyIter v) (PIE X pins σ tg R) X.xe s1) X.xe s
theorem qqb{M:Model}{A:Around}{E:Value->Shared->Prop}{s:Shared}{tg:Expr}{it:Addr}{u:Value}{o:Obj}{n:String}{vs:Array Value}{Q:Unit->Shared->Prop}(ho:s.heap.get? it=some o)(hc:o.cls=.type n)(hd:o.data=.fields vs)
    (hn:["enumerate","zip","dict_itemiterator","dict_reverseitemiterator","odict_iterator","itertools.zip_longest","itertools.pairwise"].contains n=false) (hQ:Q () s):wpAny M A (letOwnedTupleGo tg (.ref it) u) Q E s:=by
  unfold letOwnedTupleGo
  cases tg<;>first
   |exact wpAny_pure hQ
   |  (cases u<;>first
       |exact wpAny_pure hQ
       |  (refine wpAny_bind (wpAny_load ho ?_)
           rw[hc,hd]
           show wpAny M A (if (["enumerate","zip","dict_itemiterator","dict_reverseitemiterator","odict_iterator","itertools.zip_longest","itertools.pairwise"].contains n&&vs[0]?==some (rawInt _))=true then _ else _) Q E s
           rw[if_neg (by intro h;rw[hn,Bool.false_and] at h;cases h)]
           exact wpAny_pure hQ))
def Itl(K:PySem.W.Frag)(a:Addr):It :=
 ⟨λi H=>∃xs x,SqL K H a xs/\xs[i]?=some x,λi H x H'=>H'=H/\∀xs,SqL K H a xs->xs[i]?=some x,λi H=>∃xs,SqL K H a xs/\xs.length<=i⟩
def Itt(K:PySem.W.Frag)(a:Addr):It :=
 ⟨λi H=>∃xs x,SqT K H a xs/\xs[i]?=some x,λi H x H'=>H'=H/\∀xs,SqT K H a xs->xs[i]?=some x,λi H=>∃xs,SqT K H a xs/\xs.length<=i⟩
def Itr(lo:Int)(n:Nat):It:=⟨λi _=>i<n,λi H x H'=>H'=H/\x=.int (lo+i),λi _=>n<=i⟩
theorem qud{P:Program}{w:World}{K:PySem.W.Frag}{tg:Expr}(a it:Addr):Turn P w K tg (Itl K a) [it] it (λi h=>h.IsListIter it a i) where
 mem:=by simp
 obj:=λi h st b hb=>by
  have e:b=it:=by simpa using hb
  subst e
  obtain⟨o,e,c,d⟩:=st
  exact⟨o,e,λv z=>by rw[d] at z;cases z⟩
 keep:=λi h h' st k=>st.at λo e=>k it (by simp) o e
 item:=by
  intro X hP hw hK hc i pins s σ H E I hf st hg
  subst hP hw hK
  obtain⟨xs,x,hq,hx⟩:=hg
  obtain⟨its,rv,p,hz⟩:=I.list hq
  obtain⟨u,hu,ru⟩:=rv.get hx
  obtain⟨f0,f1,f2,f3,f4,f5⟩:=hf it (by simp)
  refine wpAny_pyNext_list_item st p.isList (x:=u) (by simpa using hu) λh' st' sb=>?_
  have I1:Inv X pins σ H { s with heap:=h' }:=I.turned (t':=s.toks) (λb o hb e=>(sb.2 b hb).trans e) f0 f1 f3 f4 f5
  obtain⟨o,e,c,d⟩:=id st'
  exact⟨u,rfl,qqb (s:={ s with heap:=h' }) e c d (by decide) ⟨x,H,I1,ru,⟨rfl,λys hy=>by rw[I.list_inj hy hq];exact hx⟩,st',λb hb=>(hf b hb).1⟩⟩
 done:=by
  intro X hP hw hK hc i pins s σ H E I hf st hg
  subst hP hw hK
  obtain⟨xs,hq,hx⟩:=hg
  obtain⟨its,rv,p,hz⟩:=I.list hq
  obtain⟨f0,f1,f2,f3,f4,f5⟩:=hf it (by simp)
  have hl:=rv.length
  exact wpAny_pyNext_list_end (I.ok.hd hc) st p.isList (by simp;lia) λh' eb=>⟨rfl,I.turned (t':=s.toks) (λb o hb e=>eb b o hb e) f0 f1 f3 f4 f5⟩
 self:=λ_ _ _ _ _ st h=>wpAny_pyIter_listiter st h
theorem qq7{P:Program}{w:World}{K:PySem.W.Frag}{tg:Expr}(a it:Addr):Turn P w K tg (Itt K a) [it] it (λi h=>h.IsTupleIter it a i) where
 mem:=by simp
 obj:=λi h st b hb=>by
  have e:b=it:=by simpa using hb
  subst e
  obtain⟨o,e,c,d⟩:=st
  exact⟨o,e,λv z=>by rw[d] at z;cases z⟩
 keep:=λi h h' st k=>st.at λo e=>k it (by simp) o e
 item:=by
  intro X hP hw hK hc i pins s σ H E I hf st hg
  subst hP hw hK
  obtain⟨xs,x,hq,hx⟩:=hg
  obtain⟨its,rv,p,hz⟩:=I.tuple hq
  obtain⟨u,hu,ru⟩:=rv.get hx
  obtain⟨f0,f1,f2,f3,f4,f5⟩:=hf it (by simp)
  refine wpAny_pyNext_tuple_item st (show s.heap.IsTuple a its.toArray from p) (x:=u) (by simpa using hu) λh' st' sb=>?_
  have I1:Inv X pins σ H { s with heap:=h' }:=I.turned (t':=s.toks) (λb o hb e=>(sb.2 b hb).trans e) f0 f1 f3 f4 f5
  obtain⟨o,e,c,d⟩:=id st'
  exact⟨u,rfl,qqb (s:={ s with heap:=h' }) e c d (by decide) ⟨x,H,I1,ru,⟨rfl,λys hy=>by rw[I.tuple_inj hy hq];exact hx⟩,st',λb hb=>(hf b hb).1⟩⟩
 done:=by
  intro X hP hw hK hc i pins s σ H E I hf st hg
  subst hP hw hK
  obtain⟨xs,hq,hx⟩:=hg
  obtain⟨its,rv,p,hz⟩:=I.tuple hq
  obtain⟨f0,f1,f2,f3,f4,f5⟩:=hf it (by simp)
  have hl:=rv.length
  exact wpAny_pyNext_tuple_end (I.ok.hd hc) st (show s.heap.IsTuple a its.toArray from p) (by simp;lia) λh' eb=>⟨rfl,I.turned (t':=s.toks) (λb o hb e=>eb b o hb e) f0 f1 f3 f4 f5⟩
 self:=λ_ _ _ _ _ st h=>wpAny_pyIter_tupleiter st h
theorem qq6{P:Program}{w:World}{K:PySem.W.Frag}{tg:Expr}(it:Addr)(lo:Int)(n:Nat):Turn P w K tg (Itr lo n) [it] it (λi h=>IsRangeIter h it (lo+(i:Nat)*1) ((n:Int)-(i:Nat)) 1) where
 mem:=by simp
 obj:=λi h st b hb=>by
  have e:b=it:=by simpa using hb
  subst e
  exact⟨_,st,λv z=>by
   have z':Data.fields _=Data.cell v:=z
   cases z'⟩
 keep:=λi h h' st k=>k it (by simp) _ st
 item:=by
  intro X hP hw hK hc i pins s σ H E I hf st hg
  subst hP hw hK
  obtain⟨f0,f1,f2,f3,f4,f5⟩:=hf it (by simp)
  have W:=Walks.range (prog:=X.prog) (w:=X.w) (I.ok.hd hc) it lo 1 n
  refine W.item i s _ _ hg st λv h' tk hv st' kk=>?_
  obtain⟨t,rfl⟩:=hv
  have I1:Inv X pins σ H { s with heap:=h',toks:=tk }:=I.turned (λb o hb e=>kk b o (by simpa using hb) e) f0 f1 f3 f4 f5
  refine⟨_,rfl,qqb (s:={ s with heap:=h',toks:=tk }) (n:="range_iterator") st' rfl rfl (by decide) ⟨.int (lo+i),H,I1,⟨t,?_⟩,⟨rfl,rfl⟩,st',λb hb=>(hf b hb).1⟩⟩
  rw[Int.mul_one]
 done:=by
  intro X hP hw hK hc i pins s σ H E I hf st hg
  subst hP hw hK
  obtain⟨f0,f1,f2,f3,f4,f5⟩:=hf it (by simp)
  exact wpAny_pyNext_range_end (I.ok.hd hc) st (by have:n<=i:=hg;lia) λh' eb=>⟨rfl,I.turned (t':=s.toks) (λb o hb e=>eb b o hb e) f0 f1 f3 f4 f5⟩
 self:=λ_ _ _ _ _ st h=>wpAny_pyIter_rangeiter st h
end L2
namespace L2
open PySem PySem.Spec PyProof.Rows
section
variable {X:Cx} {tg:Expr}
theorem qw0{pins:List (Addr×Obj)}{σ:St}{H:Hp}{s:Shared}{R:It->Hp->Prop}{E:Value->Shared->Prop}{lo hi:Int}{t u v:Tok}{tk:Nat}(I:Inv X pins σ H s)(h1:-(2 ^ 62)<=lo)(h2:lo<2 ^ 62)(h3:-(2 ^ 62)<=hi)(h4:hi<2 ^ 62)
  (q:R (Itr lo (hi-lo).toNat) H):wpAny (model X.prog X.w) X.A (pyIter (.ref s.heap.objs.size)) (PIE X pins σ tg R) E { s with heap:=s.heap.push { cls:=.type "range",data:=.fields #[.int lo t,.int hi u,.int 1 v] },toks:=tk }:=by
 refine wpAny_pyIter_range (IsRange.new ..) (small_one h1 h2 h3 h4) ?_
 have I1:Inv X pins σ H { s with heap:=s.heap.push { cls:=.type "range",data:=.fields #[.int lo t,.int hi u,.int 1 v] },toks:=tk }:=I.kept λb o e=>Heap.get?_push_of_some _ e
 refine⟨(s.heap.push { cls:=.type "range",data:=.fields #[.int lo t,.int hi u,.int 1 v] }).objs.size,[(s.heap.push { cls:=.type "range",data:=.fields #[.int lo t,.int hi u,.int 1 v] }).objs.size],_,_,H,rfl,
  I1.kept (t':=tk) λb o e=>Heap.get?_push_of_some _ e,qq6 _ lo (hi-lo).toNat,?_,λb hb=>?_,q⟩
 ·have e1:lo+((0:Nat):Int)*1=lo:=by simp
  have e2:(((hi-lo).toNat:Nat):Int)-((0:Nat):Int)=Builtin.Range.rangeSize lo hi 1:=by rw[rangeSize_one];split<;>lia
  show IsRangeIter _ _ (lo+((0:Nat):Int)*1) ((((hi-lo).toNat:Nat):Int)-((0:Nat):Int)) 1
  rw[e1,e2]
  exact Heap.get?_push_size _ rfl
 ·have e:b=(s.heap.push { cls:=.type "range",data:=.fields #[.int lo t,.int hi u,.int 1 v] }).objs.size:=by simpa using hb
  subst e
  exact I1.fpOk (Nat.le_refl _) (I1.hok.fresh (Nat.le_refl _))
def qzt(ta:TA):TI:=λσ H R=>ta σ H λvs H1=>∃j:Int,vs=[.int j]/\-(2 ^ 62)<=j/\j<2 ^ 62/\R (Itr 0 j.toNat) H1
theorem qtn{a:Expr}{ta:TA}{p pos:Pos}(hg:Gl X "range")(hm:X.mg "range" = none)(ha:PA X [a] ta)(hs:starEach [a] X.env=[(false,eval a X.env)]:=by rfl):PI X tg (.Call (.Name "range" p) [a] [] pos) (qzt ta):=by
 intro pins s σ H R I h
 refine Call_ (qld I hg hm boot_range (PyProof.Rows.callWith_type1 (thn (ha pos pins s σ H _ I h) λus s1 ⟨vs,H1,I1,r1,q1⟩=>?_) hs rfl))
 obtain⟨j,e,q1,q2,q⟩:=q1
 subst e
 cases r1 with
|cons r rr =>
  cases rr
  obtain⟨t,rfl⟩:=r
  exact call_range_1 (qw0 I1 (by lia) (by lia) q1 q2 (by simpa using q))
def tFor(wi:TI)(g:TG)(tb:TS):TS:=λD σ H=>wi σ H λJ H1=>∃W:Nat->Nat->St->Hp->Prop,(∃m,W 0 m σ H1)/\∀i m σ H,W i m σ H ->
 (J.stop i H/\D.nx σ H)\/(J.go i H/\∃N:St->Hp->Prop,(∀σ' H',N σ' H'->∃m',m'<m/\W (i+1) m' σ' H')/\∀x H',J.yld i H x H'->g x σ H' λσ2 H2=>tb { D with nx:=N,ct:=N,bk:=D.nx } σ2 H2)
def qlv(fp:List Addr)(h:Heap):List (Addr×Obj):=fp.filterMap λb=>(h.get? b).map λo=>(b,o)
theorem qev{fp:List Addr}{h:Heap}{b:Addr}{o:Obj}(hb:b∈fp)(e:h.get? b=some o):(b,o)∈qlv fp h:=List.mem_filterMap.mpr ⟨b,hb,by rw[e];rfl⟩
theorem qtg{fp:List Addr}{h:Heap}{p:Addr×Obj}(hp:p∈qlv fp h):p.1∈fp/\h.get? p.1=some p.2:=by
 obtain⟨b,hb,e⟩:=List.mem_filterMap.mp hp
 cases q:h.get? b with
|none=>rw[q] at e;cases e
|some o =>
  rw[q] at e
  have e':(b,o)=p:=Option.some.inj e
  subst e'
  exact⟨hb,q⟩
theorem Inv.pinned{pins:List (Addr×Obj)}{σ:St}{H:Hp}{s:Shared}{fp:List Addr}(I:Inv X pins σ H s)(hf:∀b∈fp,FpOk X pins H b)(ho:∀b∈fp,∃o,s.heap.get? b=some o/\∀v,o.data≠.cell v):Inv X (pins++qlv fp s.heap) σ H s :=
 I.pins_of λp hp=>(List.mem_append.mp hp).elim (λz=>I.pin p (List.mem_append_right _ z)) λz=>by
  obtain⟨hb,e⟩:=qtg z
  obtain⟨f0,f1,f2,_⟩:=hf p.1 hb
  obtain⟨o,e',d⟩:=ho p.1 hb
  rw[e] at e';cases e'
  exact⟨e,f0,f1,f2,d⟩
theorem Inv.unpinned{pins pl:List (Addr×Obj)}{σ:St}{H:Hp}{s:Shared}(I:Inv X (pins++pl) σ H s):Inv X pins σ H s:=I.pins_of λp hp=>I.pin p (List.mem_append_right _ (List.mem_append_left _ hp))
theorem q4j{iter:Expr}{body:List Stmt}{wi:TI}{g:TG}{tb:TS}{pos:Pos}(hp:PassesOwn (model X.prog X.w) X.A X.env X.xe)(hc:X.calm=true)(hi:PI X tg iter wi)(hg:PG X tg g)(hb:PSs X body tb)
  (hs:∀x,foldedSetIterable iter X.env x=pure x:=by intro _;rfl):PS X (.For tg iter body [] pos) (tFor wi g tb):=by
 intro pins s σ H D I h
 refine wpAny_For (thn (hi pins s σ H _ I h) λv s1 h1=>thn h1 λitv s2 h2=>?_) hs
 obtain⟨it,fp,tn,J,H2,e,I2,T,st2,f2,W,⟨m0,w0⟩,turn⟩:=h2
 subst e
 have stat:∀ {H':Hp},(∀b∈fp,H' b=none)->∀b∈fp,FpOk X pins H' b:=λhn b hb=>⟨hn b hb,(f2 b hb).2⟩
 refine codeAny_forLoop_any (λn s'=>∃i σ' H',Inv X pins σ' H' s'/\tn i s'.heap/\(∀b∈fp,H' b=none)/\W i n σ' H') ?_ m0 ⟨0,σ,H2,I2,st2,λb hb=>(f2 b hb).1,w0⟩
 rintro n s3 ⟨i,σ3,H3,I3,st3,fr3,w3⟩
 rcases turn i n σ3 H3 w3 with ⟨stop,qn⟩|⟨go,N,hN,step⟩
 ·refine wpAny_passesOwn hp (thn (T.done X rfl rfl rfl hc i pins s3 σ3 H3 X.xe I3 (stat fr3) st3 stop) λr s4 ⟨hr,I4⟩=>?_)
  subst hr
  exact wpAny_execs_nil ⟨σ3,H3,I4,qn⟩
 ·refine wpAny_passesOwn hp (thn (T.item X rfl rfl rfl hc i pins s3 σ3 H3 X.xe I3 (stat fr3) st3 go) λr s4 ⟨u,hr,h4⟩=>?_)
  subst hr
  refine wpAny_passesOwn hp (thn h4 λ_ s5 ⟨x,H5,I5,r5,y5,st5,fr5⟩=>?_)
  have I5':=I5.pinned (stat fr5) (T.obj _ _ st5)
  refine wpAny_passesOwn hp (thn (hg _ s5 σ3 H5 x u _ I5' r5 (step x H5 y5)) λ_ s6 ⟨σ6,H6,I6,q6⟩=>?_)
  refine wpAny_passesOwn hp (thn (hb _ s6 σ6 H6 _ I6 q6) λf s7 q7=>?_)
  have again:∀ {σ7:St} {H7:Hp},Inv X (pins++qlv fp s5.heap) σ7 H7 s7->N σ7 H7->∃m,m<n/\∃i σ' H',Inv X pins σ' H' s7/\tn i s7.heap/\(∀b∈fp,H' b=none)/\W i m σ' H':=λ{σ7 H7} I7 n7=>by
   obtain⟨m',hm,w7⟩:=hN σ7 H7 n7
   refine⟨m',hm,i+1,σ7,H7,I7.unpinned,T.keep _ _ _ st5 λb hb o e=>(I7.pin (b,o) (List.mem_append_right _ (List.mem_append_right _ (qev hb e)))).1,λb hb=>?_,w7⟩
   obtain⟨o,e,d⟩:=T.obj _ _ st5 b hb
   exact(I7.pin (b,o) (List.mem_append_right _ (List.mem_append_right _ (qev hb e)))).2.1
  cases f with
 |next=>obtain⟨σ7,H7,I7,n7⟩:=q7;exact again I7 n7
 |cont=>obtain⟨σ7,H7,I7,n7⟩:=q7;exact again I7 n7
 |brk=>obtain⟨σ7,H7,I7,q7⟩:=q7;exact⟨σ7,H7,I7.unpinned,q7⟩
 |ret v=>obtain⟨x7,σ7,H7,I7,r7,q7⟩:=q7;exact⟨x7,σ7,H7,I7.unpinned,r7,q7⟩
end
end L2
namespace L2
open PySem PySem.Spec PyProof.Rows
abbrev R2:=V->V->Hp->VK->Prop
def OpR(X:Cx)(f:Value->Value->Sem Value)(r:R2):Prop :=
 ∀(pins:List (Addr×Obj)) (s:Shared) (σ:St) (H:Hp) (x y:V) (v u:Value) (Q:VK),Inv X pins σ H s->RelV x v->RelV y u->r x y H Q ->
  wpAny (model X.prog X.w) X.A (f v u) (EP X pins σ Q) X.xe s
def UnR(X:Cx)(f:Value->Sem Value)(r:V->Hp->VK->Prop):Prop :=
 ∀(pins:List (Addr×Obj)) (s:Shared) (σ:St) (H:Hp) (x:V) (v:Value) (Q:VK),Inv X pins σ H s->RelV x v->r x H Q ->
  wpAny (model X.prog X.w) X.A (f v) (EP X pins σ Q) X.xe s
def CallR(X:Cx)(f:Value)(r:List V->Hp->VK->Prop):Prop :=
 ∀(pins:List (Addr×Obj)) (s:Shared) (σ:St) (H:Hp) (xs:List V) (us:List Value) (Q:VK),Inv X pins σ H s->Vals xs us->r xs H Q ->
  wpAny (model X.prog X.w) X.A (call f us) (EP X pins σ Q) X.xe s
def tOp(r:R2)(ta tb:TE):TE:=λσ H Q=>ta σ H λx H1=>tb σ H1 λy H2=>r x y H2 Q
def tUn(r:V->Hp->VK->Prop)(ta:TE):TE:=λσ H Q=>ta σ H λx H1=>r x H1 Q
def rI(C:Int->Int->Prop)(g:Int->Int->V):R2:=λx y H Q=>∃i j,x=.int i/\y=.int j/\C i j/\Q (g i j) H
def rI0(g:Int->Int->V):R2:=λx y H Q=>∃i j,x=.int i/\y=.int j/\Q (g i j) H
def rU(g:Int->V):V->Hp->VK->Prop:=λx H Q=>∃i,x=.int i/\Q (g i) H
section
variable {X:Cx} {a b c:Expr} {ta tb tc:TE} {pos:Pos}
theorem binT(ha:PE X a ta)(hb:PE X b tb){pins:List (Addr×Obj)}{s:Shared}{σ:St}{H:Hp}{R:V->V->Hp->Prop}(I:Inv X pins σ H s)
  (h:ta σ H λx H1=>tb σ H1 λy H2=>R x y H2) {Q:Value->Shared->Prop} {f:Value->Value->Sem Value}
  (hf:∀v u s2 x y H2,Inv X pins σ H2 s2->RelV x v->RelV y u->R x y H2->wpAny (model X.prog X.w) X.A (f v u) Q X.xe s2) :
  wpAny (model X.prog X.w) X.A (eval a X.env) (λv s₁=>wpAny (model X.prog X.w) X.A (eval b X.env) (λu s₂=>wpAny (model X.prog X.w) X.A (f v u) Q X.xe s₂) X.xe s₁) X.xe s:=by
 refine thn (ha pins s σ H _ I h) λv s1 ⟨x,H1,I1,r1,q1⟩=>?_
 refine thn (hb pins s1 σ H1 _ I1 q1) λu s2 ⟨y,H2,I2,r2,q2⟩=>?_
 exact hf v u s2 x y H2 I2 r1 r2 q2
theorem q6v{op:Operator}{r:R2}(ho:OpR X (binaryOp op) r)(ha:PE X a ta)(hb:PE X b tb):PE X (.BinOp a op b pos) (tOp r ta tb):=by
 intro pins s σ H Q I h
 exact wpAny_BinOp (binT ha hb I h λv u s2 x y H2 I2 rx ry q=>ho pins s2 σ H2 x y v u Q I2 rx ry q)
theorem q6x{op:UnaryOp}{r:V->Hp->VK->Prop}(ho:UnR X (unaryOp op) r)(ha:PE X a ta):PE X (.UnaryOp op a pos) (tUn r ta):=by
 intro pins s σ H Q I h
 exact UnaryOp_ (thn (ha pins s σ H _ I h) λv s1 ⟨x,H1,I1,r1,q1⟩=>ho pins s1 σ H1 x v Q I1 r1 q1)
theorem opI{f:Value->Value->Sem Value}{C:Int->Int->Prop}{g:Int->Int->Int}
  (rule:∀(i j:Int) (t u:Tok) (s:Shared) (Q:Value->Shared->Prop) (E:Value->Shared->Prop),C i j->Q (.int (g i j) s.toks) { s with toks:=s.toks+1 }->wpAny (model X.prog X.w) X.A (f (.int i t) (.int j u)) Q E s) :
  OpR X f (rI C λi j=>.int (g i j)):=by
 intro pins s σ H x y v u Q I rx ry h
 obtain⟨i,j,rfl,rfl,hc,q⟩:=h
 obtain⟨t,rfl⟩:=rx
 obtain⟨t',rfl⟩:=ry
 exact rule i j t t' s _ _ hc ⟨.int (g i j),H,I.tok _,⟨_,rfl⟩,q⟩
theorem opI0{f:Value->Value->Sem Value}{g:Int->Int->Int}
  (rule:∀(i j:Int) (t u:Tok) (s:Shared) (Q:Value->Shared->Prop) (E:Value->Shared->Prop),Q (.int (g i j) s.toks) { s with toks:=s.toks+1 }->wpAny (model X.prog X.w) X.A (f (.int i t) (.int j u)) Q E s) :
  OpR X f (rI0 λi j=>.int (g i j)):=by
 intro pins s σ H x y v u Q I rx ry h
 obtain⟨i,j,rfl,rfl,q⟩:=h
 obtain⟨t,rfl⟩:=rx
 obtain⟨t',rfl⟩:=ry
 exact rule i j t t' s _ _ ⟨.int (g i j),H,I.tok _,⟨_,rfl⟩,q⟩
theorem opB0{f:Value->Value->Sem Value}{g:Int->Int->Bool}
  (rule:∀(i j:Int) (t u:Tok) (s:Shared) (Q:Value->Shared->Prop) (E:Value->Shared->Prop),Q (.bool (g i j)) s->wpAny (model X.prog X.w) X.A (f (.int i t) (.int j u)) Q E s) :
  OpR X f (rI0 λi j=>.bl (g i j)):=by
 intro pins s σ H x y v u Q I rx ry h
 obtain⟨i,j,rfl,rfl,q⟩:=h
 obtain⟨t,rfl⟩:=rx
 obtain⟨t',rfl⟩:=ry
 exact rule i j t t' s _ _ ⟨.bl (g i j),H,I,rfl,q⟩
def CDiv(i j:Int):Prop:=0<j/\j<1073741824
def CPow(i j:Int):Prop:=0<=j/\j<=1000000/\i.natAbs<2 ^ 64
def CMul(i j:Int):Prop:=(-(2 ^ 64)<i/\i<2 ^ 64)\/(-(2 ^ 64)<j/\j<2 ^ 64)
theorem CMul.ok{i j:Int}(h:CMul i j):IntMulOk i j:=by
 rcases h with ⟨h1,h2⟩|⟨h1,h2⟩
 ·exact .of_left (intBits_le_64 h1 h2)
 ·exact .of_right (intBits_le_64 h1 h2)
theorem op_add:OpR X (binaryOp .Add) (rI0 λi j=>.int (i+j)):=opI0 λ_ _ _ _ _ _ _ q=>add_int q
theorem q31:OpR X (binaryOp .Sub) (rI0 λi j=>.int (i-j)):=opI0 λ_ _ _ _ _ _ _ q=>sub_int q
theorem q3y:OpR X (binaryOp .Mult) (rI CMul λi j=>.int (i*j)):=opI λ_ _ _ _ _ _ _ hc q=>mul_int q hc.ok
theorem q0l:OpR X (binaryOp .FloorDiv) (rI CDiv λi j=>.int (i / j)):=opI λi j _ _ _ _ _ hc q=>by
 have h1:(0:Int)<j:=hc.1
 have h2:j<1073741824:=hc.2
 exact floordiv_int (by lia) (by rw[Int.fdiv_eq_ediv_of_nonneg i (by lia)];exact q) (.inl (PyProof.noPylong_small (by lia)))
theorem q3x:OpR X (binaryOp .Mod) (rI (λ_ j=>0<j) λi j=>.int (i%j)):=opI λi j _ _ _ _ _ hc q=>by
 have h1:(0:Int)<j:=hc
 exact mod_int' (by lia) (by rw[Int.fmod_eq_emod_of_nonneg i (by lia)];exact q)
theorem q30:OpR X (binaryOp .Pow) (rI CPow λi j=>.int (i ^ j.toNat)):=opI λ_ _ _ _ _ _ _ hc q=>pow_int_small hc.1 hc.2.1 hc.2.2 q
theorem unI{f:Value->Sem Value}{g:Int->Int}
  (rule:∀(i:Int) (t:Tok) (s:Shared) (Q:Value->Shared->Prop) (E:Value->Shared->Prop),Q (.int (g i) s.toks) { s with toks:=s.toks+1 }->wpAny (model X.prog X.w) X.A (f (.int i t)) Q E s) :
  UnR X f (rU λi=>.int (g i)):=by
 intro pins s σ H x v Q I rx h
 obtain⟨i,rfl,q⟩:=h
 obtain⟨t,rfl⟩:=rx
 exact rule i t s _ _ ⟨.int (g i),H,I.tok _,⟨_,rfl⟩,q⟩
theorem q5w:UnR X (unaryOp .USub) (rU λi=>.int (-i)):=unI λ_ _ _ _ _ q=>neg_int q
end
def scal:V->V->Bool
|.non,.non=>true|.non,.int _=>true|.int _,.non=>true|.non,.bl _=>true|.bl _,.non=>true|.non,.str _=>true|.str _,.non=>true
|.int _,.int _=>true|.bl _,.bl _=>true|.str _,.str _=>true|.byt _,.byt _=>true
|.int _,.str _=>true|.str _,.int _=>true|.bl _,.str _=>true|.str _,.bl _=>true
|_,_=>false
def rEq:R2:=λx y H Q=>scal x y=true/\Q (.bl (decide (x=y))) H
def rNe:R2:=λx y H Q=>scal x y=true/\Q (.bl (!decide (x=y))) H
theorem qr6{i j:Int}:decide (V.int i=V.int j)=(i==j):=by
 rw[Bool.eq_iff_iff]
 simp
theorem qx0{i j:Bool}:decide (V.bl i=V.bl j)=(i==j):=by
 rw[Bool.eq_iff_iff]
 simp
theorem qr7{i j:Str}:decide (V.str i=V.str j)=(i==j):=by
 rw[Bool.eq_iff_iff]
 simp
theorem qr5{i j:Array UInt8}:decide (V.byt i=V.byt j)=(i.toList==j.toList):=by
 rw[Bool.eq_iff_iff]
 cases i
 cases j
 simp
section
variable {X:Cx} {a b c:Expr} {ta tb tc:TE} {pos:Pos}
theorem qa7{pins:List (Addr×Obj)}{σ:St}{H:Hp}{s:Shared}{Q:VK}{k k':Bool}(I:Inv X pins σ H s)(q:Q (.bl k) H)(e:k=k'):EP X pins σ Q (.bool k') s:=by
 subst e
 exact⟨.bl k,H,I,rfl,q⟩
theorem q6l:OpR X (compareOp .Eq) rEq:=by
 intro pins s σ H x y v u Q I rx ry h
 obtain⟨hs,q⟩:=h
 cases x with
|non =>
  cases rx
  cases y with
 |non=>cases ry;exact PySem.EqNone.eq_none_none (qa7 I q (by simp))
 |bl j=>cases ry;exact PySem.EqNone.eq_none_bool (qa7 I q (by simp))
 |int j=>obtain⟨t',rfl⟩:=ry;exact PySem.EqNone.eq_none_int (qa7 I q (by simp))
 |str j=>obtain⟨t',rfl⟩:=ry;exact PySem.EqNone.eq_none_str (qa7 I q (by simp))
 |_=>exact absurd (show false=true from hs) Bool.false_ne_true
|bl i =>
  cases rx
  cases y with
 |non=>cases ry;exact PySem.EqNone.eq_bool_none (qa7 I q (by simp))
 |bl j=>cases ry;exact eq_bool (qa7 I q qx0)
 |str j=>obtain⟨t',rfl⟩:=ry;exact PySem.EqMixed.eq_bool_str (qa7 I q (by simp))
 |_=>exact absurd (show false=true from hs) Bool.false_ne_true
|int i =>
  obtain⟨t,rfl⟩:=rx
  cases y with
 |non=>cases ry;exact PySem.EqNone.eq_int_none (qa7 I q (by simp))
 |int j=>obtain⟨t',rfl⟩:=ry;exact eq_int (qa7 I q qr6)
 |str j=>obtain⟨t',rfl⟩:=ry;exact PySem.EqMixed.eq_int_str (qa7 I q (by simp))
 |_=>exact absurd (show false=true from hs) Bool.false_ne_true
|str i =>
  obtain⟨t,rfl⟩:=rx
  cases y with
 |non=>cases ry;exact PySem.EqNone.eq_str_none (qa7 I q (by simp))
 |bl j=>cases ry;exact PySem.EqMixed.eq_str_bool (qa7 I q (by simp))
 |int j=>obtain⟨t',rfl⟩:=ry;exact PySem.EqMixed.eq_str_int (qa7 I q (by simp))
 |str j=>obtain⟨t',rfl⟩:=ry;exact eq_str (qa7 I q qr7)
 |_=>exact absurd (show false=true from hs) Bool.false_ne_true
|byt i =>
  obtain⟨t,rfl⟩:=rx
  cases y with
 |byt j=>obtain⟨t',rfl⟩:=ry;exact PySem.W.eq_bytes (qa7 I q qr5)
 |_=>exact absurd (show false=true from hs) Bool.false_ne_true
|_=>cases y<;>exact absurd (show false=true from hs) Bool.false_ne_true
theorem q6p:OpR X (compareOp .NotEq) rNe:=by
 intro pins s σ H x y v u Q I rx ry h
 obtain⟨hs,q⟩:=h
 cases x with
|non =>
  cases rx
  cases y with
 |non=>cases ry;exact PySem.EqNone.ne_none_none (qa7 I q (by simp))
 |bl j=>cases ry;exact PySem.EqNone.ne_none_bool (qa7 I q (by simp))
 |int j=>obtain⟨t',rfl⟩:=ry;exact PySem.EqNone.ne_none_int (qa7 I q (by simp))
 |str j=>obtain⟨t',rfl⟩:=ry;exact PySem.EqNone.ne_none_str (qa7 I q (by simp))
 |_=>exact absurd (show false=true from hs) Bool.false_ne_true
|bl i =>
  cases rx
  cases y with
 |non=>cases ry;exact PySem.EqNone.ne_bool_none (qa7 I q (by simp))
 |bl j=>cases ry;exact ne_bool (qa7 I q (congrArg not qx0))
 |str j=>obtain⟨t',rfl⟩:=ry;exact PySem.EqMixed.ne_bool_str (qa7 I q (by simp))
 |_=>exact absurd (show false=true from hs) Bool.false_ne_true
|int i =>
  obtain⟨t,rfl⟩:=rx
  cases y with
 |non=>cases ry;exact PySem.EqNone.ne_int_none (qa7 I q (by simp))
 |int j=>obtain⟨t',rfl⟩:=ry;exact ne_int (qa7 I q (congrArg not qr6))
 |str j=>obtain⟨t',rfl⟩:=ry;exact PySem.EqMixed.ne_int_str (qa7 I q (by simp))
 |_=>exact absurd (show false=true from hs) Bool.false_ne_true
|str i =>
  obtain⟨t,rfl⟩:=rx
  cases y with
 |non=>cases ry;exact PySem.EqNone.ne_str_none (qa7 I q (by simp))
 |bl j=>cases ry;exact PySem.EqMixed.ne_str_bool (qa7 I q (by simp))
 |int j=>obtain⟨t',rfl⟩:=ry;exact PySem.EqMixed.ne_str_int (qa7 I q (by simp))
 |str j=>obtain⟨t',rfl⟩:=ry;exact ne_str (qa7 I q (congrArg not qr7))
 |_=>exact absurd (show false=true from hs) Bool.false_ne_true
|byt i =>
  obtain⟨t,rfl⟩:=rx
  cases y with
 |byt j=>obtain⟨t',rfl⟩:=ry;exact PySem.W.ne_bytes (qa7 I q (congrArg not qr5))
 |_=>exact absurd (show false=true from hs) Bool.false_ne_true
|_=>cases y<;>exact absurd (show false=true from hs) Bool.false_ne_true
theorem q6o:OpR X (compareOp .Lt) (rI0 λi j=>.bl (decide (i<j))):=opB0 λ_ _ _ _ _ _ _ q=>lt_int q
theorem q6n:OpR X (compareOp .LtE) (rI0 λi j=>.bl (decide (i<=j))):=opB0 λ_ _ _ _ _ _ _ q=>le_int q
theorem q6m:OpR X (compareOp .Gt) (rI0 λi j=>.bl (decide (j<i))):=opB0 λ_ _ _ _ _ _ _ q=>gt_int q
theorem op_in_str:OpR X (compareOp .In) (λx y H Q=>∃i j,x=.str i/\y=.str j/\Q (.bl (!(Builtin.Str.occurrences j i 0 j.length 1).isEmpty)) H):=by
 intro pins s σ H x y v u Q I rx ry h
 obtain⟨i,j,rfl,rfl,q⟩:=h
 obtain⟨t,rfl⟩:=rx
 obtain⟨t',rfl⟩:=ry
 exact in_str (qa7 I q rfl)
theorem q3v:OpR X (compareOp .Is) (λx y H Q=>y=.non/\Q (.bl (decide (x=.non))) H):=by
 intro pins s σ H x y v u Q I rx ry h
 obtain⟨rfl,q⟩:=h
 cases ry
 refine is_none_gen (qa7 I q ?_)
 cases x<;>first
 |(cases rx;rfl)
 |(obtain⟨t,rfl⟩:=rx;rfl)
theorem q0m:OpR X (compareOp .IsNot) (λx y H Q=>y=.non/\Q (.bl (!decide (x=.non))) H):=by
 intro pins s σ H x y v u Q I rx ry h
 obtain⟨rfl,q⟩:=h
 cases ry
 refine isnot_none_gen (qa7 I q ?_)
 cases x<;>first
 |(cases rx;rfl)
 |(obtain⟨t,rfl⟩:=rx;rfl)
theorem op_notin_str:OpR X (compareOp .NotIn) (λx y H Q=>∃i j,x=.str i/\y=.str j/\Q (.bl (!(!(Builtin.Str.occurrences j i 0 j.length 1).isEmpty))) H):=by
 intro pins s σ H x y v u Q I rx ry h
 obtain⟨i,j,rfl,rfl,q⟩:=h
 obtain⟨t,rfl⟩:=rx
 obtain⟨t',rfl⟩:=ry
 exact notIn_str (qa7 I q rfl)
theorem OpR.or{f:Value->Value->Sem Value}{r r':R2}(h:OpR X f r)(h':OpR X f r'):OpR X f (λx y H Q=>r x y H Q\/r' x y H Q):=by
 intro pins s σ H x y v u Q I rx ry q
 rcases q with q|q
 ·exact h pins s σ H x y v u Q I rx ry q
 ·exact h' pins s σ H x y v u Q I rx ry q
theorem q0t{op:CmpOp}{r:R2}(ho:OpR X (compareOp op) r)(ha:PE X a ta)(hb:PE X b tb)(hm:behindInMarks op b=false):PE X (.Compare a [op] [b] pos) (tOp r ta tb):=by
 intro pins s σ H Q I h
 exact wpAny_Compare1 (binT ha hb I h λv u s2 x y H2 I2 rx ry q=>ho pins s2 σ H2 x y v u Q I2 rx ry q) hm
def qxd(t:TE):TT:=λσ H Q=>t σ H λx H'=>∃k,x=.bl k/\Q k H'
theorem q07{op:CmpOp}{r:R2}(ho:OpR X (compareOp op) r)(ha:PE X a ta)(hb:PE X b tb)(hm:behindInMarks op b=false):PT X (.Compare a [op] [b] pos) (qxd (tOp r ta tb)):=by
 intro pins s σ H Q I h
 refine wpAny_isTrue_Compare1 (thn (ha pins s σ H _ I h) λv s1 ⟨x,H1,I1,r1,q1⟩=>thn (hb pins s1 σ H1 _ I1 q1) λu s2 ⟨y,H2,I2,r2,q2⟩ =>
  thn (ho pins s2 σ H2 x y v u _ I2 r1 r2 q2) λc s3 ⟨z,H3,I3,r3,k,e,q3⟩=>?_) hm
 subst e
 cases r3
 exact wpAny_truthy_bool ⟨H3,I3,q3⟩
def ql5(r r':R2)(ta tb tc:TE):TE:=λσ H Q=>ta σ H λx H1=>tb σ H1 λy H2=>r x y H2 λz H3=>∃k,z=.bl k /\
 (if k=true then tc σ H3 λw' H4=>r' y w' H4 Q else Q (.bl false) H3)
theorem qwc{op op':CmpOp}{r r':R2}(ho:OpR X (compareOp op) r)(ho':OpR X (compareOp op') r')(ha:PE X a ta)(hb:PE X b tb)(hc:PE X c tc)
  (hm:lastMarks [op,op'] [b,c]=false:=by with_unfolding_all rfl):PE X (.Compare a [op,op'] [b,c] pos) (ql5 r r' ta tb tc):=by
 intro pins s σ H Q I h
 refine Compare_chain (thn (ha pins s σ H _ I h) λv s1 ⟨x,H1,I1,r1,q1⟩=>chain_link (thn (hb pins s1 σ H1 _ I1 q1) λu s2 ⟨y,H2,I2,r2,q2⟩ =>
  thn (ho pins s2 σ H2 x y v u _ I2 r1 r2 q2) λd s3 ⟨z,H3,I3,r3,k,e,q3⟩=>?_)) hm
 subst e
 cases r3
 refine wpAny_truthy_bool ?_
 cases k with
|false=>exact ite_ff ⟨.bl false,H3,I3,rfl,q3⟩
|true=>exact ite_tt (chain_last (thn (hc pins s3 σ H3 _ I3 q3) λw' s4 ⟨z',H4,I4,r4,q4⟩=>ho' pins s4 σ H4 y z' u w' Q I4 r2 r4 q4))
theorem qwn{op op':CmpOp}{r r':R2}(ho:OpR X (compareOp op) r)(ho':OpR X (compareOp op') r')(ha:PE X a ta)(hb:PE X b tb)(hc:PE X c tc)
  (hm:lastMarks [op,op'] [b,c]=false:=by with_unfolding_all rfl):PT X (.Compare a [op,op'] [b,c] pos) (qxd (ql5 r r' ta tb tc)):=by
 intro pins s σ H Q I h
 refine isTrue_chain (thn (ha pins s σ H _ I h) λv s1 ⟨x,H1,I1,r1,q1⟩=>test_link (thn (hb pins s1 σ H1 _ I1 q1) λu s2 ⟨y,H2,I2,r2,q2⟩ =>
  thn (ho pins s2 σ H2 x y v u _ I2 r1 r2 q2) λd s3 ⟨z,H3,I3,r3,k,e,q3⟩=>?_)) hm
 subst e
 cases r3
 refine wpAny_truthy_bool ?_
 cases k with
|false =>
  obtain⟨k',e',q'⟩:=q3
  cases e'
  exact ite_ff ⟨H3,I3,q'⟩
|true =>
  refine ite_tt (test_last (thn (hc pins s3 σ H3 _ I3 q3) λw' s4 ⟨z',H4,I4,r4,q4⟩=>thn (ho' pins s4 σ H4 y z' u w' _ I4 r2 r4 q4) λd' s5 ⟨z2,H5,I5,r5,k2,e2,q5⟩=>?_))
  subst e2
  cases r5
  exact wpAny_truthy_bool ⟨H5,I5,q5⟩
theorem qiy:(sizeLine:Nat)<2 ^ 63:=by rw[sizeLine_eq];decide
theorem op_add_str:OpR X (binaryOp .Add) (λx y H Q=>∃i j,x=.str i/\y=.str j/\i.length+j.length<=sizeLine/\Q (.str (i++j)) H):=by
 intro pins s σ H x y v u Q I rx ry h
 obtain⟨i,j,rfl,rfl,hz,q⟩:=h
 obtain⟨t,rfl⟩:=rx
 obtain⟨t',rfl⟩:=ry
 exact add_str (λt' tk=>⟨.str (i++j),H,I.tok _,⟨_,rfl⟩,q⟩) hz
theorem vals1{x:V}{us:List Value}(r:Vals [x] us):∃u,us=[u]/\RelV x u:=by
 cases r with
|cons r1 r2=>cases r2;exact⟨_,rfl,r1⟩
theorem vals2{x y:V}{us:List Value}(r:Vals [x,y] us):∃u w',us=[u,w']/\RelV x u/\RelV y w':=by
 cases r with
|cons r1 r2 =>
  cases r2 with
 |cons r3 r4=>cases r4;exact⟨_,_,rfl,r1,r3⟩
end
end L2
namespace L2
open PySem PySem.Spec PyProof.Rows
structure ObjM(h:Heap)(x dx C:Addr)(mA:Str->Option Value):Prop where
 obj:h.get? x=some (PySem.W.instObj C dx)
 ns:h.Ns1 dx mA
 ne:dx≠x
theorem qs7{h:Heap}{dx:Addr}{mA:Str->Option Value}(n:h.Ns1 dx mA):∃od,h.get? dx=some od/\∀name,PySem.W.lookIn name od=some (mA name):=by
 obtain⟨o,es,ep,ho,hd,hk,_,hm⟩:=n
 refine⟨o,ho,λname=>?_⟩
 have e:=hm name
 unfold nsFind findBy at e
 rw[←Array.find?_toList] at e
 unfold PySem.W.lookIn
 rw[hd]
 dsimp only
 split
 ·rename_i y q
  rw[q] at e
  exact congrArg some e
 ·rename_i q
  rw[q] at e
  have a:es.toList.any (·.refKey)=false:=by
   rw[List.any_eq_false]
   intro y hy
   obtain⟨z,t,hkey⟩:=hk y (Array.mem_toList_iff.mp hy)
   simp[DictEntry.refKey,hkey]
  have a':¬ es.toList.any (·.refKey)=true:=by rw[a];exact Bool.false_ne_true
  rw[if_neg a']
  exact congrArg some e
theorem ObjM.look{h:Heap}{x dx C:Addr}{mA:Str->Option Value}(I:ObjM h x dx C mA):∃od,PySem.W.InstAt h x (PySem.W.instObj C dx) C (some od)/\∀name,PySem.W.lookIn name od=some (mA name) :=
 let ⟨od,ho,hl⟩:=qs7 I.ns
 ⟨od,⟨I.obj,rfl,rfl,ho⟩,hl⟩
section
variable {prog:Program} {w:World} {A:Around} {E:Value->Shared->Prop} {s:Shared} {K:PySem.W.Frag} {x dx C f:Addr} {mA:Str->Option Value} {name:Str} {v:Value}
end
theorem RelO.some_of{v:V}{o:Option Value}(r:RelO (some v) o):∃u,o=some u/\RelV v u:=by
 cases o with
|none=>exact(show False from r).elim
|some u=>exact⟨u,rfl,r⟩
section
variable {P:Program} {w:World} {H H':Hp} {h h':Heap} {a C dx:Addr} {fs fs':List (Str×V)}
theorem qzv(hok:HOk P w H h)(e:H a=some (.ins C dx fs)):∃mA,ObjM h a dx C mA/\(∀f,RelO (fs.lookup f) (mA f))/\PySem.Within mA (fs.map (·.1))/\fs.length<=1000/\H dx=some (.own a):=by
 obtain⟨d,z,ne,ob,mA,n,r,q⟩:=(show ObjOk P w H h a (.ins C dx fs) from hok a _ e)
 exact⟨mA,⟨ob,n,ne⟩,r,q,z,d⟩
end
structure Cls(K:PySem.W.Frag)(C:Addr):Prop where
 pg:PySem.W.plainGet K C Str.empty=true
 hd:PySem.W.hasDictIn K C=true
 po:PySem.W.plainOver K C=true
 sa:PySem.W.findIn K (.ref C) "__setattr__" = some (some (.builtin "object.__setattr__"))
theorem Cls.get{K:PySem.W.Frag}{C:Addr}(c:Cls K C)(f:Str):PySem.W.plainGet K C f=true:=c.pg
structure Con(K:PySem.W.Frag)(C:Addr)(f:Str)(v:V)(u:Value):Prop where
 at_:PySem.W.findIn K (.ref C) f=some (some u)
 rel:RelV v u
 get:PySem.W.specialIn K u "__get__" = some none
 cp:PySem.W.copiedNames.contains f=false
structure Meth(K:PySem.W.Frag)(C:Addr)(m:Str)(f:Addr):Prop where
 at_:PySem.W.findIn K (.ref C) m=some (some (.ref f))
 fn:PySem.W.isFn K (.ref f)=true
 kp:PySem.W.keepIn K (.ref f)=true
section
variable {X:Cx} {pins:List (Addr×Obj)} {σ:St} {H:Hp} {s:Shared} {a C dx:Addr} {fs:List (Str×V)} {f:Str} {v:V} {A:Around} {E:Value->Shared->Prop}
end
section
variable {X:Cx} {o e value:Expr} {f:Str} {pos pos' tpos:Pos} {ta tv:TE}
end
section
variable {X:Cx} {pins:List (Addr×Obj)} {σ:St} {H:Hp} {s:Shared} {A:Around} {E:Value->Shared->Prop} {Q:Value->Shared->Prop} {c:Value} {b:Bool}
inductive TyOf(K:PySem.W.Frag)(H:Hp):V->Value->Prop where
|non:TyOf K H .non (.type "NoneType")
|bl (x:Bool):TyOf K H (.bl x) (.type "bool")
|int (i:Int):TyOf K H (.int i) (.type "int")
|str (x:Str):TyOf K H (.str x) (.type "str")
|flt (x:UInt64):TyOf K H (.flt x) (.type "float")
|lst {a:Addr} {xs:List V} (e:H a=some (.lst xs)):TyOf K H (.ref a) (.type "list")
|frz {a:Addr} {o:Obj} {xs:List V} (e:H a=some (.frz o (.lst xs))):TyOf K H (.ref a) (.type "list")
|tup {a:Addr} {xs:List V} (e:H a=some (.tup xs)):TyOf K H (.ref a) (.type "tuple")
|dK {a:Addr} {kvs:List (Key×V)} (e:H a=some (.dK kvs)):TyOf K H (.ref a) (.type "dict")
|dT {a:Addr} {kvs:List (List Key×V)} (e:H a=some (.dT kvs)):TyOf K H (.ref a) (.type "dict")
|ins {a C dx:Addr} {fs:List (Str×V)} (e:H a=some (.ins C dx fs)) (cl:Cls K C) (ha:PySem.W.findIn K (.ref C) "__class__" = some (some (.builtin "object.__class__")))
   (hn:PySem.W.specialIn K (.builtin "object.__class__") "__get__" = some (some (.builtin "getset_descriptor.__get__"))) (htk:PySem.W.takesIn K (.builtin "object.__class__")=some true)
   (hm:PySem.W.mroIn K C (.type "object")=some true):TyOf K H (.ref a) (.ref C)
theorem qej{x:V}{u t:Value}(I:Inv X pins σ H s)(rx:RelV x u)(ty:TyOf X.K H x t)(e:PySem.W.kitOne X.K t c=some b)(h:∀tk,Q (.bool b) { s with toks:=tk }) :
  wpAny (model X.prog X.w) A (call (.builtin "isinstance") [u,c]) Q E s:=by
 cases ty with
|non=>cases (show u=Value.none from rx);exact PySem.W.kia_one PySem.W.kitx_none I.kIn True.intro e (λz=>nomatch z) h
|bl y=>cases (show u=Value.bool y from rx);exact PySem.W.kia_one PySem.W.kitx_bool I.kIn True.intro e (λz=>nomatch z) h
|int i=>obtain⟨t,q⟩:=(show ∃t,u=Value.int i t from rx);cases q;exact PySem.W.kia_one PySem.W.kitx_int I.kIn True.intro e (λz=>nomatch z) h
|str y=>obtain⟨t,q⟩:=(show ∃t,u=Value.str y t from rx);cases q;exact PySem.W.kia_one PySem.W.kitx_str I.kIn True.intro e (λz=>nomatch z) h
|flt y=>obtain⟨t,q⟩:=(show ∃t,u=Value.float y t from rx);cases q;exact PySem.W.kia_one PySem.W.kitx_float I.kIn True.intro e (λz=>nomatch z) h
|@lst a xs ea =>
  cases (show u=Value.ref a from rx)
  obtain⟨_,_,n,_,h1⟩:=(show ObjOk X.prog X.w H s.heap a (.lst xs) from I.hok a _ ea)
  exact PySem.W.kia_one PySem.W.kitx_list I.kIn ⟨_,h1,rfl⟩ e (λz=>nomatch z) h
|@frz a ob xs ea =>
  cases (show u=Value.ref a from rx)
  obtain⟨_,_,_,n,_,h1⟩:=(show ObjOk X.prog X.w H s.heap a (.frz ob (.lst xs)) from I.hok a _ ea)
  exact PySem.W.kia_one PySem.W.kitx_list I.kIn ⟨_,h1,rfl⟩ e (λz=>nomatch z) h
|@tup a xs ea =>
  cases (show u=Value.ref a from rx)
  obtain⟨_,_,_,p⟩:=(show ObjOk X.prog X.w H s.heap a (.tup xs) from I.hok a _ ea)
  obtain⟨o,h1,h2,_⟩:=p
  exact PySem.W.kia_one PySem.W.kitx_tuple I.kIn ⟨o,h1,h2⟩ e (λz=>nomatch z) h
|@dK a kvs ea =>
  cases (show u=Value.ref a from rx)
  obtain⟨_,_,vs,_,p⟩:=(show ObjOk X.prog X.w H s.heap a (.dK kvs) from I.hok a _ ea)
  obtain⟨o,es,ep,h1,h2,_⟩:=p
  exact PySem.W.kia_one PySem.W.kitx_dict I.kIn ⟨o,h1,h2.1⟩ e (λz=>nomatch z) h
|@dT a kvs ea =>
  cases (show u=Value.ref a from rx)
  obtain⟨_,_,xs,_,o,es,ep,h1,h2,_⟩:=(show ObjOk X.prog X.w H s.heap a (.dT kvs) from I.hok a _ ea)
  exact PySem.W.kia_one PySem.W.kitx_dict I.kIn ⟨o,h1,h2.1⟩ e (λz=>nomatch z) h
|@ins a C dx fs ea cl ha hn htk hm =>
  cases (show u=Value.ref a from rx)
  obtain⟨mA,O,_⟩:=qzv I.hok ea
  obtain⟨od,J,_⟩:=O.look
  exact PySem.W.kia_one (PySem.W.kitx_own (cl.get _) cl.hd ha hn htk hm) I.kIn J e (λz=>nomatch z) h
end
end L2
namespace L2
open PySem PySem.Spec PyProof.Rows
structure Room(k:Nat)(A:Around):Prop where
 hd:A.handled=none
 dp:A.depth+3*k+5<recursionLimit
 un:A.units+16*k+200<cLine
theorem Room.mono{j k:Nat}{A:Around}(r:Room k A)(h:j<=k):Room j A:=⟨r.hd,by have:=r.dp;lia,by have:=r.un;lia⟩
theorem Room.deeper{k:Nat}{A:Around}(r:Room (k+1) A)(env:Env):Room k (A.deeper env) :=
 ⟨r.hd,by have:=r.dp;show A.depth+1+3*k+5<_;lia,by have:=r.un;show A.units+3+16*k+200<_;lia⟩
theorem Room.depth{k:Nat}{A:Around}(r:Room k A):A.depth<recursionLimit:=by have:=r.dp;lia
theorem Room.units{k:Nat}{A:Around}(r:Room k A):A.units+64<cLine:=by have:=r.un;lia
def tNil:TA:=λ_ H Q=>Q [] H
def qxc(ta:TE)(tr:TA):TA:=λσ H Q=>ta σ H λx H1=>tr σ H1 λxs H2=>Q (x::xs) H2
section
variable {X:Cx} {e:Expr} {es:List Expr} {te:TE} {t:TA} {pos:Pos}
theorem q32:PA X [] tNil:=λ_ _ _ _ H Q I h=>Calls.spliced_nil ⟨[],H,I,.nil,h⟩
theorem q0q(ha:PE X e te)(hr:PA X es t)(hs:starEach (e::es) X.env=(false,eval e X.env)::starEach es X.env:=by rfl):PA X (e::es) (qxc te t):=by
 intro pos pins s σ H Q I h
 rw[hs]
 show wpAny _ _ (spliced ((false,eval e X.env)::backTo pos (starEach es X.env))) _ _ s
 refine Calls.spliced_cons (thn (ha pins s σ H _ I h) λu s1 ⟨x,H1,I1,r1,q1⟩=>?_)
 exact thn (hr pos pins s1 σ H1 _ I1 q1) λus s2 ⟨xs,H2,I2,r2,q2⟩=>⟨x::xs,H2,I2,.cons r1 r2,q2⟩
def tTup(t:TA):TE:=λσ H Q=>t σ H λxs H1=>xs.length<=sizeLine/\∀p,H1 p=none->Q (.ref p) (upd H1 p (.tup xs))
def tLst(t:TA):TE:=λσ H Q=>t σ H λxs H1=>xs.length<=sizeLine/\∀p,H1 p=none->Q (.ref p) (upd H1 p (.lst xs))
theorem q4c{x1}(h:PA X es t):PE X (.Tuple es x1 pos) (tTup t):=by
 intro pins s σ H Q I hq
 refine wpAny_Tuple_spliced (thn (h pos pins s σ H _ I hq) λus s1 ⟨xs,H1,I1,r,z,q⟩=>⟨by rw[←r.length];exact z,?_⟩)
 have hf:H1 s1.heap.objs.size=none:=I1.hok.fresh (Nat.le_refl _)
 refine⟨.ref s1.heap.objs.size,upd H1 s1.heap.objs.size (.tup xs),I1.laid (t':=s1.toks) (λb u e=>Heap.get?_push_of_some _ e) (Nat.le_refl _) ?_,rfl,q _ hf⟩
 exact⟨z,us,r,⟨_,Heap.get?_push_size _ rfl,rfl,_,rfl⟩⟩
theorem q37(h:PA X es t):PE X (.List es pos) (tLst t):=by
 intro pins s σ H Q I hq
 refine wpAny_List_spliced (thn (h pos pins s σ H _ I hq) λus s1 ⟨xs,H1,I1,r,z,q⟩=>⟨by rw[←r.length];exact z,?_⟩)
 have hf:H1 s1.heap.objs.size=none:=I1.hok.fresh (Nat.le_refl _)
 refine⟨.ref s1.heap.objs.size,upd H1 s1.heap.objs.size (.lst xs),I1.laid (t':=s1.toks) (λb u e=>Heap.get?_push_of_some _ e) (Nat.le_refl _) ?_,rfl,q _ hf⟩
 exact⟨z,us,0,r,Heap.get?_push_size _ rfl⟩
end
abbrev Sp:=List V->Hp->VK->XK->Prop
abbrev CXT:=List Env->Hp->Shared->XK->Value->Shared->Prop
structure Env0(P:Program)(w:World)(K:PySem.W.Frag)(mg:Str->Option Value)(base:Heap)(A:Around)(outer:List Env)(s:Shared)(H:Hp):Prop where
 frames:A.frames=some outer
 mod:Mod K mg base
 bs:∀b o,base.get? b=some o->s.heap.get? b=some o/\H b=none
 bsz:base.objs.size<=s.heap.objs.size
 funs:s.heap.FunFrames base outer
 frf:∀b∈frs outer,H b=none
 hok:HOk P w H s.heap
 bare:AllBare s.gens
def CE(outer:List Env)(P:Program)(w:World)(H:Hp)(s:Shared)(Q:VK)(u:Value)(s':Shared):Prop :=
 ∃v H',s'.os=s.os/\AllBare s'.gens/\Un (frs outer) [] H H' s.heap s'.heap/\HOk P w H' s'.heap/\RelV v u/\Q v H'
def CR(CX:CXT)(outer:List Env)(P:Program)(w:World)(H:Hp)(s:Shared)(Q:VK)(E:XK)(r:Result)(s':Shared):Prop :=
 match r with
|.ok (.ret u)=>CE outer P w H s Q u s'
|.ok _=>False
|.error e=>CX outer H s E e s'
structure FnOk(P:Program)(w:World)(K:PySem.W.Frag)(mg:Str->Option Value)(base:Heap)(CX:CXT)(k:Nat)(f:Addr)(fd:FuncData)(ps:List Str)(sp:Sp):Prop where
 len:∀vs H Q E,sp vs H Q E->vs.length=ps.length
 run:∀(A:Around) (outer:List Env) (s:Shared) (H:Hp) (args:Args) (us:List Value) (vs:List V) (Q:VK) (E:XK),Room k A->Env0 P w K mg base A outer s H->BindsTo s fd args (ps.zip us)->Vals vs us->sp vs H Q E ->
  codeAny (model P w) A (.call (.ref f) args) (CR CX outer P w H s Q E) s
section
variable {X:Cx} {pins:List (Addr×Obj)} {σ:St} {H:Hp} {s s':Shared}
theorem Inv.env0(I:Inv X pins σ H s):Env0 X.prog X.w X.K X.mg X.base X.A X.stack s H :=
 ⟨I.ok.frames,I.ok.mod,I.bs,Nat.le_trans I.ok.bsz I.sz,I.stack,I.stkFree,I.hok,I.bare⟩
theorem Inv.after{Q:VK}{u:Value}(I:Inv X pins σ H s)(h:CE X.stack X.prog X.w H s Q u s'):EP X pins σ Q u s':=by
 obtain⟨v,H',os,bare,un,hok,r,q⟩:=h
 obtain⟨hh,g,d,t,os'⟩:=s'
 obtain rfl:os'=s.os:=os
 exact⟨v,H',I.call (h':=hh) (g':=g) (d':=d) (t':=t) (ch:=[]) un hok bare (λb z=>absurd z (by simp)),r,q⟩
end
def qua(sp:Sp)(dvs:List V)(E:XK)(t:TA):TE:=λσ H Q=>t σ H λvs H1=>sp (vs++dvs) H1 Q E
def Binds(K:PySem.W.Frag)(fd:FuncData)(ps:List Str)(ds:List Value):Prop :=
 ∀(s:Shared) (us:List Value),K.In s.heap->(us++ds).length=ps.length->BindsTo s fd ⟨us,[]⟩ (ps.zip (us++ds))
theorem Binds.all{K:PySem.W.Frag}{fd:FuncData}{ps:List Str}(h:∀us:List Value,us.length=ps.length->bindArgs fd ⟨us,[]⟩=pure (ps.zip us)):Binds K fd ps []:=λs us _ hl=>by
 rw[List.append_nil] at hl ⊢
 exact .of_eq (h us hl)
def qgj(CX:CXT)(X:Cx)(E:XK):Prop:=∀(pins:List (Addr×Obj)) (σ:St) (H:Hp) (s:Shared) (e:Value) (s':Shared),Inv X pins σ H s->CX X.stack H s E e s'->X.xe e s'
section
variable {X:Cx} {CX:CXT} {k:Nat} {f C:Addr} {fd:FuncData} {ps:List Str} {sp:Sp} {dvs:List V} {ds:List Value} {E:XK} {x m:Str} {p pos apos:Pos} {e o:Expr} {es:List Expr} {ta:TE} {t:TA}
theorem q5i{pins:List (Addr×Obj)}{σ:St}{H:Hp}{s:Shared}{Q:VK}{us:List Value}{vs:List V}(F:FnOk X.prog X.w X.K X.mg X.base CX k f fd ps sp)(hr:Room k X.A)(hb:Binds X.K fd ps ds)(hd:Vals dvs ds)(hx:qgj CX X E)
  (I:Inv X pins σ H s) (r:Vals vs us) (h:sp (vs++dvs) H Q E):wpAny (model X.prog X.w) X.A (call (.ref f) us) (EP X pins σ Q) X.xe s:=by
 have r2:Vals (vs++dvs) (us++ds):=r.append hd
 have hl:(us++ds).length=ps.length:=by rw[←r2.length];exact F.len _ _ _ _ h
 refine wpAny_call (codeAny_mono (F.run X.A X.stack s H ⟨us,[]⟩ (us++ds) (vs++dvs) Q E hr I.env0 (hb s us I.kIn hl) r2 h) λr s' hq=>?_)
 cases r with
|error e=>exact hx pins σ H s e s' I hq
|ok fl =>
  cases fl with
 |ret u=>exact I.after hq
 |next=>exact False.elim hq
 |brk=>exact False.elim hq
 |cont=>exact False.elim hq
theorem qnq(F:FnOk X.prog X.w X.K X.mg X.base CX k f fd ps sp)(hr:Room k X.A)(hg:Gl X x)(hm:X.mg x=some (.ref f))(hk:PySem.W.keepIn X.K (.ref f)=true)(hb:Binds X.K fd ps ds)(hd:Vals dvs ds)(hx:qgj CX X E)
  (ha:PA X (e::es) t) (hdb:(x==("__debug__" : Str))=false:=by decide) (he:starEach (e::es) X.env=(false,eval e X.env)::starEach es X.env:=by rfl) (hpl:(backTo pos (starEach es X.env)).any (·.1)=false:=by rfl) :
  PE X (.Call (.Name x p) (e::es) [] pos) (qua sp dvs E t):=by
 intro pins s σ H Q I h
 refine wpAny_Call_Name_kw (qek I hg hm ?_ hdb)
 refine PySem.W.callWith_K (h₀:=X.base) I.ok.mod.kin hk (thn (ha pos pins s σ H _ I h) λus s1 ⟨vs,H1,I1,r,q⟩=>⟨I1.kIn,?_⟩) he hpl
 exact q5i F hr hb hd hx I1 r q
structure Mk(K:PySem.W.Frag)(C f:Addr):Prop where
 makes:PySem.W.makesIn K C=true
 init:PySem.W.findIn K (.ref C) "__init__" = some (some (.ref f))
 fn:PySem.W.isFn K (.ref f)=true
 kp:PySem.W.keepIn K (.ref C)=true
end
section
variable {X:Cx} {CX:CXT} {k:Nat} {f C:Addr} {fd:FuncData} {ps ks:List Str} {sp:Sp} {E:XK} {x m:Str} {p pos apos kpos:Pos} {e o:Expr} {es:List Expr} {kws:List Keyword} {te ta:TE} {t tk:TA} {nm:Option Str}
structure KBinds(K:PySem.W.Frag)(fd:FuncData)(ps ks:List Str)(g:List Value->List Value->List Value)(gV:List V->List V->List V):Prop where
 to:∀(s:Shared) (us ws:List Value),K.In s.heap->(g us ws).length=ps.length->BindsTo s fd ⟨us,ks.zip ws⟩ (ps.zip (g us ws))
 rel:∀ {vs:List V} {us:List Value} {zs:List V} {ws:List Value},Vals vs us->Vals zs ws->Vals (gV vs zs) (g us ws)
variable {g:List Value->List Value->List Value} {gV:List V->List V->List V}
end
structure FnScope(N P:List Str)(sc:Scope):Prop where
 kind:sc.kind=.function
 co:sc.isCoroutine=false
 gen:sc.isGenerator=false
 nd:N.Nodup
 pre:N.take P.length=P
 par:∀x∈P,sc.names.lookup x=some .local\/sc.names.lookup x=some .cell
 nofree:∀y∈sc.names,y.2≠.free
theorem qk3{kindOf:Str->Option NameKind}{x:Str}:∀ {binds:List (Str×Value)} {m:Str->Option Value},(∀v,(x,v)∉binds)->bindL kindOf binds m x=m x
|[],_,_=>rfl
|(n,v)::r,m,h=>by
  unfold bindL
  rw[qk3 λw hw=>h w (List.mem_cons_of_mem _ hw)]
  split
  ·have:x≠n:=by rintro rfl;exact h v List.mem_cons_self
   simp[this]
  ·rfl
theorem qk1{kindOf:Str->Option NameKind}{x:Str}:∀ {binds:List (Str×Value)} {m:Str->Option Value},(∀v,(x,v)∉binds)->bindC kindOf binds m x=m x
|[],_,_=>rfl
|(n,v)::r,m,h=>by
  unfold bindC
  rw[qk1 λw hw=>h w (List.mem_cons_of_mem _ hw)]
  split
  ·rfl
  ·have:x≠n:=by rintro rfl;exact h v List.mem_cons_self
   simp[this]
theorem qk2{kindOf:Str->Option NameKind}{x:Str}{v:Value}:∀ {P:List Str} {vs:List Value} {i:Nat} {m:Str->Option Value},P.Nodup->P[i]?=some x->vs[i]?=some v->kindOf x=some .local ->
  bindL kindOf (P.zip vs) m x=some v
|[],_,_,_,_,h,_,_=>by simp at h
|_::_,[],_,_,_,_,h,_=>by simp at h
|p::P,w::vs,0,m,nd,h1,h2,hk=>by
  simp at h1 h2;subst h1;subst h2
  show bindL kindOf ((p,w)::P.zip vs) m p=_
  unfold bindL
  rw[qk3 λv hv=>(List.nodup_cons.mp nd).1 (List.of_mem_zip hv).1,if_pos hk]
  simp
|p::P,w::vs,i+1,m,nd,h1,h2,hk=>by
  show bindL kindOf ((p,w)::P.zip vs) m x=_
  unfold bindL
  exact qk2 (i:=i) (List.nodup_cons.mp nd).2 (by simpa using h1) (by simpa using h2) hk
theorem qk0{kindOf:Str->Option NameKind}{x:Str}{v:Value}:∀ {P:List Str} {vs:List Value} {i:Nat} {m:Str->Option Value},P.Nodup->P[i]?=some x->vs[i]?=some v->kindOf x≠some .local ->
  bindC kindOf (P.zip vs) m x=some v
|[],_,_,_,_,h,_,_=>by simp at h
|_::_,[],_,_,_,_,h,_=>by simp at h
|p::P,w::vs,0,m,nd,h1,h2,hk=>by
  simp at h1 h2;subst h1;subst h2
  show bindC kindOf ((p,w)::P.zip vs) m p=_
  unfold bindC
  rw[qk1 λv hv=>(List.nodup_cons.mp nd).1 (List.of_mem_zip hv).1,if_neg hk]
  simp
|p::P,w::vs,i+1,m,nd,h1,h2,hk=>by
  show bindC kindOf ((p,w)::P.zip vs) m x=_
  unfold bindC
  exact qk0 (i:=i) (List.nodup_cons.mp nd).2 (by simpa using h1) (by simpa using h2) hk
def start(N:List Str)(vs:List V):St:=vs.map some++List.replicate (N.length-vs.length) none
def cxOf(CX:CXT)(P:Program)(w:World)(K:PySem.W.Frag)(mg:Str->Option Value)(base:Heap)(N:List Str)(qual:Str)(scope:Scope)(f:Addr)(cd:Value)(A:Around)(outer:List Env)(s:Shared)(H:Hp)(E:XK):Cx where
 prog:=P
 w:=w
 K:=K
 mg:=mg
 base:=base
 A:=A.deeper (envOfC qual scope s.heap.objs.size f cd)
 N:=N
 s₀:=s
 H₀:=H
 env:=envOfC qual scope s.heap.objs.size f cd
 outer:=outer
 stack:=envOfC qual scope s.heap.objs.size f cd::outer
 ex:=[]
 calm:=true
 fn:=λ_=>true
 pn:=[]
 xe:=λe s'=>wpAny (model P w) (A.deeper (envOfC qual scope s.heap.objs.size f cd)) (leaving (envOfC qual scope s.heap.objs.size f cd) e) (λ_ s''=>CX outer H s E e s'') (λe' s''=>CX outer H s E e' s'') s'
theorem qoc{sc:Scope}{n:Nat}{x:Str}(h:sc.names.lookup x=some .cell):∃c,(cellsFrom n sc.names []).lookup x=some c:=by
 have q:=PySem.W.cellsFrom_some sc.names n [] (.inl h)
 exact Option.isSome_iff_exists.mp q
theorem qsu{CX:CXT}{P:Program}{w:World}{K:PySem.W.Frag}{mg:Str->Option Value}{base:Heap}{N ps:List Str}{qual:Str}{scope:Scope}{f:Addr}{cd:Value}{A:Around}{outer:List Env}{s s1:Shared}{H:Hp}{E:XK}{us:List Value}{vs:List V}
  (S:FnScope N ps scope) (hd:A.handled=none) (e0:Env0 P w K mg base A outer s H) (hl:vs.length=ps.length) (r:Vals vs us)
  (x:InCallC s s.heap.objs.size (bindL (envOfC qual scope s.heap.objs.size f cd).kindOf (ps.zip us) λ_=>none) (cellsFrom (s.heap.objs.size+1) scope.names []) (bindC (envOfC qual scope s.heap.objs.size f cd).kindOf (ps.zip us) λ_=>none) s1) :
  Inv (cxOf CX P w K mg base N qual scope f cd A outer s H E) [] (start N vs) H s1:=by
 have hpl:ps.length<=N.length:=by have:=congrArg List.length S.pre;rw[List.length_take] at this;lia
 obtain⟨h1,tk,rfl,hk⟩:=x.done
 have noA:∀b:Addr,b∉(cxOf CX P w K mg base N qual scope f cd A outer s H E).ex:=λb z=>absurd (show b∈([]:List Addr) from z) (by simp)
 refine⟨⟨e0.mod,S.kind,rfl,rfl,Nat.le_refl _,λy z c h1 h2=>?_,λy hy=>?_,λy c _ h=>?_,λ_=>hd,Around.frames_deeper e0.frames,.inr ⟨rfl,rfl⟩,λb z=>absurd z (noA b),e0.bs,e0.bsz,λb _ _=>noA b,λb z=>absurd z (noA b),e0.funs,e0.frf⟩,
  rfl,e0.bare,Un.kept hk,⟨_,x.toInCall.ns,λi y v h1 h2 h3=>?_⟩,λy c h=>⟨_,x.cell y c h⟩,e0.hok.fresh (Nat.le_refl _),λy c h=>?_,λp hp=>absurd (show p∈([]:List (Addr×Obj)) from hp) (by simp),e0.hok.kept hk,?_⟩
 ·exact name_of_addr x.apart (PySem.mem_of_lookup h1) (PySem.mem_of_lookup h2)
 ·have hy:scope.names.lookup y=some .cell\/scope.names.lookup y=some .free:=hy
  rcases hy with hy|hy
  ·exact qoc hy
  ·exact absurd rfl (S.nofree _ (PySem.mem_of_lookup hy))
 ·exact Nat.le_of_lt (x.above y c (PySem.mem_of_lookup h))
 ·have hi:i<vs.length:=by
   unfold start at h2
   by_cases hi:i<vs.length
   ·exact hi
   ·rw[List.getElem?_append_right (by simpa using hi)] at h2
    rw[List.getElem?_replicate] at h2
    split at h2<;>cases h2
  have ha:vs[i]?=some v:=by
   unfold start at h2
   rw[List.getElem?_append_left (by simpa using hi),List.getElem?_map] at h2
   cases e:vs[i]? with
  |none=>rw[e] at h2;cases h2
  |some a=>rw[e] at h2;cases h2;rfl
  obtain⟨u,hu,rv⟩:=r.get ha
  have hp:ps[i]?=some y:=by
   rw[←S.pre,List.getElem?_take_of_lt (by lia)];exact h1
  have ndP:ps.Nodup:=by rw[←S.pre];exact S.nd.sublist (List.take_sublist _ _)
  refine⟨u,rv,?_⟩
  rcases S.par y (List.mem_of_getElem? hp) with k|k
  ·exact .inl ⟨k,qk2 ndP hp hu k⟩
  ·obtain⟨c,e⟩:=qoc (n:=s.heap.objs.size+1) k
   refine .inr ⟨.inl k,c,e,?_⟩
   have q:=x.cell y c e
   rw[qk0 ndP hp hu (by show scope.names.lookup y≠_;rw[k];decide)] at q
   exact q
 ·exact e0.hok.fresh (Nat.le_of_lt (x.above y c (PySem.mem_of_lookup h)))
 ·unfold start
  show _=N.length
  rw[List.length_append,List.length_map,List.length_replicate]
  lia
theorem q20{CX:CXT}{P:Program}{w:World}{K:PySem.W.Frag}{mg:Str->Option Value}{base:Heap}{k:Nat}{f:Addr}{name qual:Str}{params:Arguments}{body:List Stmt}{scope:Scope}{dV kV doc pm cdv ct oc:Value}{an od:Option Addr}
  {osl:Array (Option Value)} {N ps:List Str} {sp:Sp} (lk:K.lookup f=some ⟨oc,od,.func (PySem.W.fnOf name qual params body scope dV kV doc pm an cdv ct),osl⟩) (hcd:PySem.W.codeIn K cdv qual=true) (S:FnScope N ps scope)
  (len:∀vs H Q E,sp vs H Q E->vs.length=ps.length)
  (hbody:∀(A:Around) (outer:List Env) (s:Shared) (H:Hp) (vs:List V) (Q:VK) (E:XK),Room k (A.deeper (envOfC qual scope s.heap.objs.size f cdv))->sp vs H Q E ->
   ∃t,PSs (cxOf CX P w K mg base N qual scope f cdv A outer s H E) body t/\t { nx:=λ_ H'=>Q .non H',rt:=Q } (start N vs) H) :
  FnOk P w K mg base CX (k+1) f (PySem.W.fnOf name qual params body scope dV kV doc pm an cdv ct) ps sp:=by
 refine⟨len,λA outer s H args us vs Q E hr e0 hb r hsp=>?_⟩
 have hl:=len _ _ _ _ hsp
 have KX:K.In s.heap:=e0.mod.kin.keeps λb o e=>(e0.bs b o e).1
 have lim:s.heap.NoLimit:=e0.mod.nolimit.keeps λb o e=>(e0.bs b o e).1
 have hkind:∀y∈ps.zip us,scope.names.lookup y.1=some .local\/(scope.names.lookup y.1=some .cell/\((cellsFrom (s.heap.objs.size+1) scope.names []).lookup y.1).isSome=true):=λ⟨n,v⟩ hy=>by
  rcases S.par n (List.of_mem_zip hy).1 with q|q
  ·exact .inl q
  ·exact .inr ⟨q,PySem.W.cellsFrom_some _ _ _ (.inl q)⟩
 refine codeAny_call_function hr.depth (KX _ _ lk) rfl S.co S.gen rfl (PySem.W.codeRec_of KX hcd) (hb _ _ _ _ ?_)
 refine wpAny_newFunctionEnv_cells S.kind hkind λenv he s1 x=>?_
 subst he
 refine⟨lim.keeps x.toInCall.keep,codeAny_func ?_⟩
 obtain⟨t,ht,hq⟩:=hbody A outer s H vs Q E (hr.deeper _) hsp
 have I:Inv (cxOf CX P w K mg base N qual scope f cdv A outer s H E) [] (start N vs) H s1:=qsu S hr.hd e0 hl r x
 refine wpAny_mono (ht [] s1 (start N vs) H _ I hq) (λfl s' hs=>?_) λe s' hs=>hs
 have fin:∀ {σ':St} {H':Hp} {v:V} {u:Value},Inv (cxOf CX P w K mg base N qual scope f cdv A outer s H E) [] σ' H' s'->RelV v u->Q v H'->CE outer P w H s Q u s' :=
  λ{σ' H' v u} J rv q=>⟨v,H',J.os,J.bare,J.base,J.hok,rv,q⟩
 cases fl with
|ret u =>
  obtain⟨v,σ',H',J,rv,q⟩:=hs
  exact fin J rv q
|next =>
  obtain⟨σ',H',J,q⟩:=hs
  exact fin (v:=V.non) (u:=Value.none) J rfl q
|brk =>
  obtain⟨_,_,_,q⟩:=hs
  exact False.elim q
|cont =>
  obtain⟨_,_,_,q⟩:=hs
  exact False.elim q
end L2
namespace L2
open PySem PySem.Spec PyProof.Rows
section
variable {X:Cx} {x:Str} {p pos:Pos} {e:Expr} {es:List Expr} {t:TA} {id T:String} {r:List V->Hp->VK->Prop}
def tCB(r:List V->Hp->VK->Prop)(t:TA):TE:=λσ H Q=>t σ H λvs H1=>r vs H1 Q
theorem qwb(hc:CallR X (.builtin id) r)(hg:Gl X x)(hm:X.mg x=none)(hv:bootBuiltins x=some (.builtin id))(ha:PA X (e::es) t)(hn:x≠"__name__" := by decide)(hdb:(x==("__debug__" : Str))=false:=by decide)
  (he:starEach (e::es) X.env=(false,eval e X.env)::starEach es X.env:=by rfl) (hpl:(backTo pos (starEach es X.env)).any (·.1)=false:=by rfl):PE X (.Call (.Name x p) (e::es) [] pos) (tCB r t):=by
 intro pins s σ H Q I h
 refine wpAny_Call_Name_kw (qld I hg hm hv ?_ hn hdb)
 exact PyProof.Rows.callWith_builtin1 (thn (ha pos pins s σ H _ I h) λus s1 ⟨vs,H1,I1,r1,q1⟩=>hc pins s1 σ H1 vs us Q I1 r1 q1) he hpl
theorem qtm(hc:CallR X (.type T) r)(hg:Gl X x)(hm:X.mg x=none)(hv:bootBuiltins x=some (.type T))(ha:PA X (e::es) t)(hn:x≠"__name__" := by decide)(hdb:(x==("__debug__" : Str))=false:=by decide)
  (he:starEach (e::es) X.env=(false,eval e X.env)::starEach es X.env:=by rfl) (hpl:(backTo pos (starEach es X.env)).any (·.1)=false:=by rfl):PE X (.Call (.Name x p) (e::es) [] pos) (tCB r t):=by
 intro pins s σ H Q I h
 refine wpAny_Call_Name_kw (qld I hg hm hv ?_ hn hdb)
 exact PyProof.Rows.callWith_type1 (thn (ha pos pins s σ H _ I h) λus s1 ⟨vs,H1,I1,r1,q1⟩=>hc pins s1 σ H1 vs us Q I1 r1 q1) he hpl
end
end L2
namespace HT
open PySem PyProof.Rows
section
open PySem.SeqAt
open PySem.AutoSeq1 (wpAny_loadPart')
open PySem.MeetsSeq PySem.MeetsSeq2 PySem.MeetsSeq3
end
section
variable {prog:Program} {w:World} {A:Around} {E:Value->Shared->Prop} {s:Shared}
theorem cat_tup{t b:Addr}{vs ws:List Value}{Q:Value->Shared->Prop}(ht:IsTup s.heap t vs.toArray)(hb:IsTup s.heap b ws.toArray)(hv:vs≠[])
  (h1:ws=[]->Q (.ref t) s) (h2:ws≠[]->Q (.ref s.heap.objs.size) { s with heap:=s.heap.push { cls:=.type "tuple",data:=.seq (vs++ws).toArray } })
  (hsz:vs.length+ws.length<=sizeLine):wpAny (model prog w) A (binaryOp .Add (.ref t) (.ref b)) Q E s:=by
 obtain⟨⟨cls,dd,data,sl⟩,ho,hc,n,hd⟩:=id ht
 obtain⟨⟨cls2,dd2,data2,sl2⟩,ho2,hc2,n2,hd2⟩:=id hb
 simp only at hc hd hc2 hd2
 subst hc hd hc2 hd2
 have e:vs.toArray++ws.toArray=(vs++ws).toArray:=by simp
 by_cases hw:ws=[]
 ·exact concat_meets ⟨_,ho,rfl⟩ ⟨_,ho2,rfl⟩ noFill_tuple_add seq_tuple_add PySem.F.slot_tuple_add PySem.F.entry_tuple_add (PySem.F.args_tuple_add_2 _ _)
   (tuple_addW1 t b vs.toArray ws.toArray n n2 dd dd2 sl sl2 (by simpa using hv) (by simp[hw])) ⟨ho,ho2,h1 hw⟩
 ·refine concat_meets ⟨_,ho,rfl⟩ ⟨_,ho2,rfl⟩ noFill_tuple_add seq_tuple_add PySem.F.slot_tuple_add PySem.F.entry_tuple_add (PySem.F.args_tuple_add_2 _ _)
   (tuple_addW2 t b vs.toArray ws.toArray n n2 dd dd2 sl sl2 (by simpa using hv) (by simpa using hw) (by rw[List.size_toArray,List.size_toArray];exact hsz)) ⟨ho,ho2,?_⟩
  rw[e]
  exact h2 hw
def sIx(n d:Nat):Option Int->Nat
|none=>d
|some v=>if v<0 then (v+(n:Int)).toNat else min v.toNat n
theorem sIx_none(n d:Nat):sIx n d none=d:=rfl
theorem sIx_nat(n d k:Nat):sIx n d (some (k:Int))=min k n:=by
 show (if (k:Int)<0 then ((k:Int)+(n:Int)).toNat else min (k:Int).toNat n)=min k n
 rw[if_neg (by lia),Int.toNat_natCast]
theorem sIx_le(n d:Nat)(hd:d<=n)(o:Option Int):sIx n d o<=n:=by
 cases o with
|none=>exact hd
|some v =>
  show (if v<0 then (v+(n:Int)).toNat else min v.toNat n)<=n
  by_cases hv:v<0
  ·rw[if_pos hv];lia
  ·rw[if_neg hv];exact Nat.min_le_right _ _
theorem qry(v:Int)(n d:Nat):(if v<0 then max (v+(n:Int)) 0 else min v (n:Int))=((sIx n d (some v):Nat):Int):=by
 show (if v<0 then max (v+(n:Int)) 0 else min v (n:Int))=(((if v<0 then (v+(n:Int)).toNat else min v.toNat n):Nat):Int)
 by_cases hv:v<0
 ·simp only[if_pos hv];lia
 ·simp only[if_neg hv];lia
theorem qp6(lo hi:Option Int)(n:Nat):Builtin.Slice.sliceAdjust lo hi 1 (n:Int)=(((sIx n 0 lo:Nat):Int),((sIx n n hi:Nat):Int)):=by
 have h1:¬ ((1:Int)<0):=by lia
 unfold Builtin.Slice.sliceAdjust
 simp only[h1,if_false]
 refine Prod.ext ?_ ?_
 ·cases lo with
 |none=>rfl
 |some v=>exact qry v n 0
 ·cases hi with
 |none=>rfl
 |some v=>exact qry v n n
theorem qqs(i j:Nat):Builtin.Slice.slicePlaces (i:Int) (j:Int) 1=j-i:=by
 unfold Builtin.Slice.slicePlaces
 have h1:(1:Int)>0:=by lia
 simp only[h1,if_true,Int.ediv_one]
 split<;>lia
theorem qi4{v:Value}{o:Option Int}{Q:Option Int->Shared->Prop}(p:IsPart v o)(h:Q o s):wpAny (model prog w) A (Builtin.Slice.slicePartIndex v) Q E s:=by
 cases p with
|none=>exact slicePart_none h
|int i t=>exact slicePart_int h
theorem qd8{sl:Addr}{vl vu:Value}{lo hi:Option Int}{n:Nat}{Q:Int×Int×Nat->Shared->Prop}(hs:s.heap.IsSliceOf sl vl vu .none)(pl:IsPart vl lo)(pu:IsPart vu hi)
  (h:Q (((sIx n 0 lo:Nat):Int),1,sIx n n hi-sIx n 0 lo) s):wpAny (model prog w) A (Builtin.Slice.sliceApplied (.ref sl) (pure (n:Int))) Q E s:=by
 obtain⟨os,hos,hcs,hds⟩:=id hs
 unfold Builtin.Slice.sliceApplied Builtin.Slice.sliceFields
 refine wpAny_bind (wpAny_bind (wpAny_field hos hds (x:=vl) rfl (wpAny_bind (wpAny_field hos hds (x:=vu) rfl (wpAny_bind (wpAny_field hos hds (x:=.none) rfl (wpAny_pure ?_)))))))
 refine wpAny_bind (slicePart_none ?_)
 show wpAny _ _ (if ((1:Int)==0)=true then _ else _) _ _ s
 rw[if_neg (by decide)]
 refine wpAny_bind (qi4 pl (wpAny_bind (qi4 pu (wpAny_bind (wpAny_pure ?_)))))
 show wpAny _ _ (match Builtin.Slice.sliceAdjust lo hi 1 (n:Int) with|(lo,hi)=>pure (lo,(1:Int),Builtin.Slice.slicePlaces lo hi 1)) _ _ s
 rw[qp6 lo hi n]
 show wpAny _ _ (pure (((sIx n 0 lo:Nat):Int),(1:Int),Builtin.Slice.slicePlaces ((sIx n 0 lo:Nat):Int) ((sIx n n hi:Nat):Int) 1)) _ _ s
 rw[qqs]
 exact wpAny_pure h
theorem qwk(xs:Array Value)(i k:Nat):((List.range k).filterMap λ(m:Nat)=>xs[((i:Int)+(m:Int)*1).toNat]?).toArray=((xs.toList.drop i).take k).toArray:=by
 have e:(λ(m:Nat)=>xs[((i:Int)+(m:Int)*1).toNat]?)=λm=>xs[i+m]?:=by
  funext m
  have:((i:Int)+(m:Int)*1).toNat=i+m:=by lia
  rw[this]
 rw[e]
 have:=pick_run xs i k
 rw[List.filterMap_map] at this
 have e2:((λx=>xs[x]?) ∘ λx=>i+x)=λm=>xs[i+m]?:=rfl
 rw[e2] at this
 rw[this]
theorem getItem_tuple_cut{t sl:Addr}{items:Array Value}{vl vu:Value}{lo hi:Option Int}{Q:Value->Shared->Prop}(ht:IsTup s.heap t items)(hs:s.heap.IsSliceOf sl vl vu .none)(pl:IsPart vl lo)(pu:IsPart vu hi)
  (hw:¬ (sIx items.size 0 lo=0/\sIx items.size items.size hi=items.size))
  (h:Q (.ref s.heap.objs.size) { s with heap:=s.heap.push { cls:=.type "tuple",data:=.seq ((items.toList.drop (sIx items.size 0 lo)).take (sIx items.size items.size hi-sIx items.size 0 lo)).toArray } })
  (hsz:items.size<=sizeLine):wpAny (model prog w) A (getItem (.ref t) (.ref sl)) Q E s:=by
 have htake:sizeOk (.seq ((items.toList.drop (sIx items.size 0 lo)).take (sIx items.size items.size hi-sIx items.size 0 lo)).toArray):=by
  show ((items.toList.drop (sIx items.size 0 lo)).take (sIx items.size items.size hi-sIx items.size 0 lo)).toArray.size<=sizeLine
  rw[List.size_toArray,List.length_take,List.length_drop,Array.length_toList]
  lia
 have hj:sIx items.size items.size hi<=items.size:=sIx_le _ _ (Nat.le_refl _) hi
 obtain⟨os,hos,hcs,hds⟩:=id hs
 have hTs:s.TypeIs (.ref sl) "slice" := ⟨os,hos,hcs⟩
 unfold getItem
 try with_reducible refine wpAny_holding ?_
 first|refine wpAny_bind (wpAny_pure ?_)|skip
 refine wpAny_bind (wpAny_sequenceKey ht.typeIs (by decide) ?_)
 refine wpAny_bind (wpAny_callSpecial?_slot (name:=Str.ofString "__getitem__") ht.typeIs PyProof.Rows.slot_tuple_getitem
  (wpAny_call_entry PyProof.Rows.slot_tuple_getitem ht.typeIs entry_tuple_getitem ?_ (args_tuple_getitem _ _)))
 show wpAny _ _ (Builtin.Tuple.tupleItemsOf (.ref t) >>= _) _ _ s
 refine wpAny_bind (tupleItemsOf_ ht ?_)
 refine wpAny_bind (wpAny_typeOf hTs ?_)
 rw[if_pos (by decide)]
 refine wpAny_bind (qd8 hs pl pu ?_)
 have hno:¬ ((((sIx items.size 0 lo:Nat):Int)==0&&(1:Int)==1&&(sIx items.size items.size hi-sIx items.size 0 lo)==items.size)=true):=by
  intro q
  rw[Bool.and_eq_true,Bool.and_eq_true] at q
  have q1:((sIx items.size 0 lo:Nat):Int)=0:=eq_of_beq q.1.1
  have q2:sIx items.size items.size hi-sIx items.size 0 lo=items.size:=eq_of_beq q.2
  exact hw ⟨by lia,by lia⟩
 show wpAny _ _ (if (((sIx items.size 0 lo:Nat):Int)==0&&(1:Int)==1&&(sIx items.size items.size hi-sIx items.size 0 lo)==items.size)=true then _ else _) _ _ s
 rw[if_neg hno,qwk]
 first
 |exact wpAny_bind (m:=Builtin.Tuple.tupleExact _) (wpAny_newObj_type (wpAny_pure ⟨_,rfl,wpAny_pure h⟩) htake)
 |exact wpAny_bind (m:=Builtin.Tuple.tupleExact _) (wpAny_newObj_type (wpAny_bind (wpAny_pure (wpAny_pure ⟨_,rfl,wpAny_pure h⟩))) htake)
 |exact wpAny_bind (wpAny_bind (m:=Builtin.Tuple.tupleExact _) (wpAny_newObj_type (wpAny_pure (wpAny_pure ⟨_,rfl,wpAny_pure h⟩)) htake))
 |exact wpAny_bind (wpAny_bind (m:=Builtin.Tuple.tupleExact _) (wpAny_newObj_type (wpAny_pure ⟨_,rfl,wpAny_pure h⟩) htake))
end
end HT
namespace L2
open PySem PySem.Spec PyProof.Rows
abbrev TO:=St->Hp->(Option Int->Hp->Prop)->Prop
def PO(X:Cx)(e:Option Expr)(t:TO):Prop :=
 ∀(pins:List (Addr×Obj)) (s:Shared) (σ:St) (H:Hp) (Q:Option Int->Hp->Prop),Inv X pins σ H s->t σ H Q ->
  wpAny (model X.prog X.w) X.A (evalPart e X.env) (λu s'=>∃o H',Inv X pins σ H' s'/\IsPart u o/\Q o H') X.xe s
def quc:TO:=λ_ H Q=>Q none H
def q5r(t:TE):TO:=λσ H Q=>t σ H λx H1=>∃i,x=.int i/\Q (some i) H1
section
variable {X:Cx} {e:Expr} {te:TE} {lo hi:Option Expr} {tl th:TO} {pos p2:Pos}
theorem q0z:PO X none quc:=by
 intro pins s σ H Q I h
 rw[evalPart_none]
 exact wpAny_pure ⟨none,H,I,.none,h⟩
theorem q00(h:PE X e te):PO X (some e) (q5r te):=by
 intro pins s σ H Q I hw
 rw[evalPart_some]
 refine thn (h pins s σ H _ I hw) λu s1 ⟨x,H1,I1,r1,q1⟩=>?_
 obtain⟨i,rfl,q⟩:=q1
 obtain⟨t,rfl⟩:=r1
 exact⟨some i,H1,I1,.int i t,q⟩
def SlR(X:Cx)(r:V->Option Int->Option Int->Hp->VK->Prop):Prop :=
 ∀(pins:List (Addr×Obj)) (s:Shared) (σ:St) (H:Hp) (x:V) (v vl vu:Value) (lo hi:Option Int) (sl:Addr) (Q:VK),Inv X pins σ H s->RelV x v->s.heap.IsSliceOf sl vl vu .none->IsPart vl lo->IsPart vu hi->r x lo hi H Q ->
  ∃T id,typeLookup (.type T) "__getitem__" = pure (some (.builtin id))/\s.TypeIs v T/\wpAny (model X.prog X.w) X.A (getItem v (.ref sl)) (EP X pins σ Q) X.xe s
theorem SlR.or{r r':V->Option Int->Option Int->Hp->VK->Prop}(h:SlR X r)(h':SlR X r'):SlR X (λx lo hi H Q=>r x lo hi H Q\/r' x lo hi H Q):=by
 intro pins s σ H x v vl vu lo hi sl Q I rx hs pl pu q
 rcases q with q|q
 ·exact h pins s σ H x v vl vu lo hi sl Q I rx hs pl pu q
 ·exact h' pins s σ H x v vl vu lo hi sl Q I rx hs pl pu q
def tSl(r:V->Option Int->Option Int->Hp->VK->Prop)(te:TE)(tl th:TO):TE:=λσ H Q=>te σ H λx H1=>tl σ H1 λl H2=>th σ H2 λu H3=>r x l u H3 Q
theorem qwh{r:V->Option Int->Option Int->Hp->VK->Prop}(hr:SlR X r)(he:PE X e te)(hl:PO X lo tl)(hu:PO X hi th):PE X (.Subscript e (.Slice lo hi none p2) pos) (tSl r te tl th):=by
 intro pins s σ H Q I h
 refine Subscript_ (thn (he pins s σ H _ I h) λv s1 ⟨x,H1,I1,r1,q1⟩=>?_)
 refine wpAny_Slice (thn (hl pins s1 σ H1 _ I1 q1) λvl s2 ⟨l,H2,I2,pl,q2⟩=>thn (hu pins s2 σ H2 _ I2 q2) λvu s3 ⟨u,H3,I3,pu,q3⟩=>?_)
 rw[evalPart_none]
 refine wpAny_pure ?_
 have I4:Inv X pins σ H3 { s3 with heap:=s3.heap.push { cls:=.type "slice",data:=.fields #[vl,vu,.none] } }:=I3.kept (t':=s3.toks) λb ob q=>Heap.get?_push_of_some _ q
 obtain⟨T,id,hT,ht,hg⟩:=hr pins { s3 with heap:=s3.heap.push { cls:=.type "slice",data:=.fields #[vl,vu,.none] } } σ H3 x v vl vu l u s3.heap.objs.size Q I4 r1 (Heap.IsSliceOf.new ..) pl pu q3
 show wpAny (model X.prog X.w) X.A (subscriptTail e (.Slice lo hi none p2) v (.ref s3.heap.objs.size)) (EP X pins σ Q) X.xe { s3 with heap:=s3.heap.push { cls:=.type "slice",data:=.fields #[vl,vu,.none] } }
 exact tail_any (ops:=[.ref s3.heap.objs.size,v]) ht hT hg (by with_unfolding_all rfl)
def cutV(xs:List V)(lo hi:Option Int):List V:=(xs.drop (HT.sIx xs.length 0 lo)).take (HT.sIx xs.length xs.length hi-HT.sIx xs.length 0 lo)
theorem qhh(xs:List V)(lo hi:Option Int):(cutV xs lo hi).length<=xs.length:=by
 unfold cutV
 rw[List.length_take,List.length_drop]
 lia
def rSlT(K:PySem.W.Frag):V->Option Int->Option Int->Hp->VK->Prop:=λx lo hi H Q=>∃a xs,x=.ref a/\SqT K H a xs /\
 ¬ (HT.sIx xs.length 0 lo=0/\HT.sIx xs.length xs.length hi=xs.length)/\∀p,H p=none->Q (.ref p) (upd H p (.tup (cutV xs lo hi)))
theorem q5k:SlR X (rSlT X.K):=by
 intro pins s σ H x v vl vu lo hi sl Q I rx hs pl pu h
 obtain⟨a,xs,rfl,hx,hw,q⟩:=h
 cases rx
 obtain⟨its,r,ht,hz⟩:=I.tuple hx
 have hlen:its.toArray.size=xs.length:=by rw[List.size_toArray];exact r.length.symm
 refine⟨"tuple",_,PyProof.Rows.slot_tuple_getitem.lookup,ht.typeIs,?_⟩
 refine HT.getItem_tuple_cut ht hs pl pu (by rw[hlen];exact hw) ?_ (by rw[hlen];exact hz)
 rw[hlen]
 refine⟨.ref s.heap.objs.size,_,I.laid (t':=s.toks) (o:=.tup (cutV xs lo hi)) (λb ob q=>Heap.get?_push_of_some _ q) (Nat.le_refl _) ?_,rfl,q _ (I.hok.fresh (Nat.le_refl _))⟩
 exact⟨Nat.le_trans (qhh xs lo hi) hz,_,(r.drop (HT.sIx xs.length 0 lo)).take (HT.sIx xs.length xs.length hi-HT.sIx xs.length 0 lo),IsTup.new _ _⟩
def q7b(K:PySem.W.Frag):R2:=λx y H Q=>∃a b xs ys,x=.ref a/\y=.ref b/\SqT K H a xs/\SqT K H b ys/\xs≠[]/\xs.length+ys.length<=sizeLine /\
 (ys=[]->Q (.ref a) H)/\(ys≠[]->∀p,H p=none->Q (.ref p) (upd H p (.tup (xs++ys))))
theorem Vals.nil_iff{xs:List V}{us:List Value}(r:Vals xs us):us=[]↔xs=[]:=by
 cases r with
|nil=>simp
|cons _ _=>simp
theorem q0k:OpR X (binaryOp .Add) (q7b X.K):=by
 intro pins s σ H x y v u Q I rx ry h
 obtain⟨a,b,xs,ys,rfl,rfl,ha,hb,hx,hz,q1,q2⟩:=h
 cases rx
 cases ry
 obtain⟨its,r1,p1,_⟩:=I.tuple ha
 obtain⟨its2,r2,p2,_⟩:=I.tuple hb
 refine HT.cat_tup p1 p2 (λz=>hx (r1.nil_iff.mp z)) (λz=>⟨.ref a,H,I,rfl,q1 (r2.nil_iff.mp z)⟩) (λz=>?_) (by rw[←r1.length,←r2.length];exact hz)
 refine⟨.ref s.heap.objs.size,_,I.laid (t':=s.toks) (o:=.tup (xs++ys)) (λb ob q=>Heap.get?_push_of_some _ q) (Nat.le_refl _) ?_,rfl,q2 (λw=>z (r2.nil_iff.mpr w)) _ (I.hok.fresh (Nat.le_refl _))⟩
 exact⟨by rw[List.length_append];exact hz,_,r1.append r2,IsTup.new _ _⟩
end
end L2
namespace L2
open PySem PySem.Spec PyProof.Rows
def ixN(n:Nat)(i:Int):Option Nat:=if 0<=i then (if i<n then some i.toNat else none) else if -(n:Int)<=i then some (i+n).toNat else none
def atI{α:Type}(xs:List α)(i:Int):Option α:=(ixN xs.length i).bind λj=>xs[j]?
theorem qsv{n:Nat}{i:Int}{j:Nat}(h:ixN n i=some j):seqIndex? i n=some j/\j<n/\-(n:Int)<=i/\i<n:=by
 unfold ixN at h
 by_cases h0:0<=i
 ·rw[if_pos h0] at h
  by_cases h1:i<n
  ·rw[if_pos h1] at h
   have e:i.toNat=j:=Option.some.inj h
   exact⟨by rw[seqIndex_of h0 h1,e],by lia,by lia,h1⟩
  ·rw[if_neg h1] at h;cases h
 ·rw[if_neg h0] at h
  by_cases h1:-(n:Int)<=i
  ·rw[if_pos h1] at h
   have e:(i+n).toNat=j:=Option.some.inj h
   exact⟨by rw[seqIndex_neg (by lia) h1,e],by lia,h1,by lia⟩
  ·rw[if_neg h1] at h;cases h
theorem qmo{α:Type}{xs:List α}{i:Int}{v:α}(h:atI xs i=some v):∃j,seqIndex? i xs.length=some j/\xs[j]?=some v/\j<xs.length/\-(xs.length:Int)<=i/\i<xs.length:=by
 unfold atI at h
 cases e:ixN xs.length i with
|none=>rw[e] at h;cases h
|some j =>
  rw[e] at h
  obtain⟨h1,h2,h3,h4⟩:=qsv e
  exact⟨j,h1,h,h2,h3,h4⟩
theorem qzb{α:Type}{xs:List α}{j:Nat}{v:α}(h:xs[j]?=some v):atI xs (j:Int)=some v:=by
 have hj:j<xs.length:=(List.getElem?_eq_some_iff.mp h).1
 have e:ixN xs.length (j:Int)=some j:=by
  unfold ixN
  rw[if_pos (by lia),if_pos (by lia)];simp
 unfold atI;rw[e];exact h
def qmn(b:Expr):Prop:=∀o i,subscripted b false o i=operate [o,i] (getItem o i)
def IxR(X:Cx)(r:R2):Prop :=
 ∀(value slice:Expr) (pins:List (Addr×Obj)) (s:Shared) (σ:St) (H:Hp) (x y:V) (v u:Value) (Q:VK),Inv X pins σ H s->RelV x v->RelV y u->r x y H Q ->
  subscripted slice false v u=operate [v,u] (getItem v u)->wpAny (model X.prog X.w) X.A (subscriptTail value slice v u) (EP X pins σ Q) X.xe s
def MtR(X:Cx)(id:String)(r:V->List V->Hp->VK->Prop):Prop :=
 ∀(pins:List (Addr×Obj)) (s:Shared) (σ:St) (H:Hp) (x:V) (xs:List V) (v:Value) (us:List Value) (Q:VK),Inv X pins σ H s->RelV x v->Vals xs us->r x xs H Q ->
  wpAny (model X.prog X.w) X.A (call (.builtin id) (v::us)) (EP X pins σ Q) X.xe s
section
variable {X:Cx} {a b:Expr} {ta tb:TE} {pos:Pos}
theorem IxR.or{r r':R2}(h:IxR X r)(h':IxR X r'):IxR X (λx y H Q=>r x y H Q\/r' x y H Q):=by
 intro value slice pins s σ H x y v u Q I rx ry q hs
 rcases q with q|q
 ·exact h value slice pins s σ H x y v u Q I rx ry q hs
 ·exact h' value slice pins s σ H x y v u Q I rx ry q hs
theorem MtR.or{id:String}{r r':V->List V->Hp->VK->Prop}(h:MtR X id r)(h':MtR X id r'):MtR X id (λx xs H Q=>r x xs H Q\/r' x xs H Q):=by
 intro pins s σ H x xs v us Q I rx rs q
 rcases q with q|q
 ·exact h pins s σ H x xs v us Q I rx rs q
 ·exact h' pins s σ H x xs v us Q I rx rs q
theorem q6u{r:R2}(hr:IxR X r)(ha:PE X a ta)(hb:PE X b tb)(hs:qmn b):PE X (.Subscript a b pos) (tOp r ta tb):=by
 intro pins s σ H Q I h
 exact Subscript_ (binT ha hb I h λv u s2 x y H2 I2 rx ry q=>hr a b pins s2 σ H2 x y v u Q I2 rx ry q (hs _ _))
def rIxL(K:PySem.W.Frag):R2:=λx y H Q=>∃p xs i v,x=.ref p/\y=.int i/\SqL K H p xs/\atI xs i=some v/\Q v H
def rIxT(K:PySem.W.Frag):R2:=λx y H Q=>∃p xs i v,x=.ref p/\y=.int i/\SqT K H p xs/\atI xs i=some v/\Q v H
def rIxS:R2:=λx y H Q=>∃z i c,x=.str z/\y=.int i/\z.length<=sizeLine/\atI z.cps.toList i=some c/\Q (.str ⟨#[c]⟩) H
theorem qzx:IxR X (rIxL X.K):=by
 intro value slice pins s σ H x y v u Q I rx ry h hs
 obtain⟨p,xs,i,z,rfl,rfl,hq,he,q⟩:=h
 cases rx
 obtain⟨t,rfl⟩:=ry
 obtain⟨its,r,pl,hz⟩:=I.list hq
 obtain⟨j,h1,h2,h3,h4,h5⟩:=qmo he
 obtain⟨w,ew,rw'⟩:=r.get h2
 have hl:=r.length
 have hn:=qiy
 have fin:EP X pins σ Q w s:=⟨z,H,I,rw',q⟩
 by_cases h0:0<=i
 ·have hj:i.toNat=j:=by
   rw[seqIndex_of h0 h5] at h1
   exact Option.some.inj h1
  exact item_listR pl.isList h0 (by lia) (by rw[hj];simpa using ew) fin hs
 ·have hj:(i+(its.toArray.size:Int)).toNat=j:=by
   rw[seqIndex_neg (by lia) h4] at h1
   rw[List.size_toArray,←hl]
   exact Option.some.inj h1
  exact subscriptTail_builtinR (x:=w) pl.isList.typeIs slot_list_getitem.lookup
   (wpAny_getItem_list_neg (Q:=λr s'=>r=w/\EP X pins σ Q r s') pl.isList (by lia) (by rw[List.size_toArray]<;>lia) (by lia) (by rw[hj];simpa using ew) ⟨rfl,fin⟩) hs
theorem ix_tup:IxR X (rIxT X.K):=by
 intro value slice pins s σ H x y v u Q I rx ry h hs
 obtain⟨p,xs,i,z,rfl,rfl,hq,he,q⟩:=h
 cases rx
 obtain⟨t,rfl⟩:=ry
 obtain⟨its,r,pl,hz⟩:=I.tuple hq
 obtain⟨j,h1,h2,h3,h4,h5⟩:=qmo he
 obtain⟨w,ew,rw'⟩:=r.get h2
 have hl:=r.length
 have hn:=qiy
 have fin:EP X pins σ Q w s:=⟨z,H,I,rw',q⟩
 exact subscriptTail_builtinR (x:=w) pl.typeIs slot_tuple_getitem.lookup
  (getItem_tuple (j:=j) (Q:=λr s'=>r=w/\EP X pins σ Q r s') pl (by lia) (by lia) (by rw[List.size_toArray,←hl];exact h1) (by simpa using ew) ⟨rfl,fin⟩) hs
theorem ix_str:IxR X rIxS:=by
 intro value slice pins s σ H x y v u Q I rx ry h hs
 obtain⟨z,i,c,rfl,rfl,hz,he,q⟩:=h
 obtain⟨t,rfl⟩:=rx
 obtain⟨t',rfl⟩:=ry
 obtain⟨j,h1,h2,h3,h4,h5⟩:=qmo he
 have hl:z.cps.toList.length=z.length:=by simp[Str.length]
 rw[hl] at h1 h4 h5
 have hn:=qiy
 exact tail_any (typeIs_str s z t) slot_str_getitem.lookup (getItem_str (c:=c) (by
  have e1:decide (i < -(2 ^ 63:Int))=false:=decide_eq_false (by lia)
  have e2:decide (i≥2 ^ 63)=false:=decide_eq_false (by lia)
  rw[e1,e2,Bool.or_false]) (by rw[h1];simpa using h2) ⟨.str ⟨#[c]⟩,H,I.tok _,⟨_,rfl⟩,q⟩) hs
theorem qqh(its:List Value)(n j:Nat)(u:Value):Obj.mapSeq (·.setIfInBounds j u) { cls:=.type "list",data:=.seq its.toArray n }={ cls:=.type "list",data:=.seq (its.set j u).toArray n }:=by
 simp[Obj.mapSeq]
theorem Inv.lst{pins:List (Addr×Obj)}{σ:St}{H:Hp}{s:Shared}{p:Addr}{xs:List V}(I:Inv X pins σ H s)(h:H p=some (.lst xs)) :
  ∃(its:List Value) (n:Nat),Vals xs its/\s.heap.get? p=some { cls:=.type "list",data:=.seq its.toArray n }/\xs.length<=sizeLine:=by
 obtain⟨z,its,n,r,e⟩:=I.hok p _ h
 exact⟨its,n,r,e,z⟩
theorem Inv.lstUpd{pins:List (Addr×Obj)}{σ:St}{H:Hp}{s:Shared}{p:Addr}{xs ys:List V}{its its':List Value}{n n':Nat}{f:Obj->Obj}(I:Inv X pins σ H s)(h:H p=some (.lst xs))
  (ho:s.heap.get? p=some { cls:=.type "list",data:=.seq its.toArray n }) (hf:f { cls:=.type "list",data:=.seq its.toArray n }={ cls:=.type "list",data:=.seq its'.toArray n' }) (r:Vals ys its') (hz:ys.length<=sizeLine) (t:Nat) :
  Inv X pins σ (upd H p (.lst ys)) { s with heap:=s.heap.update p f,toks:=t }:=by
 have e:(s.heap.update p f).get? p=some { cls:=.type "list",data:=.seq its'.toArray n' }:=by
  rw[Heap.get?_update_self f ho (by rw[hf]<;>rfl),hf]
 refine I.write (x:=p) (e:=p) (by rw[h];trivial) (.inl rfl) (λb u hb q=>(Heap.get?_update_other _ _ (Ne.symm hb)).trans q) ⟨_,e⟩ ?_
 exact⟨hz,its',n',r,e⟩
def q7c:V->V->V->Hp->(Hp->Prop)->Prop:=λo i v H Q=>∃p xs k j,o=.ref p/\i=.int k/\H p=some (.lst xs)/\ixN xs.length k=some j/\Q (upd H p (.lst (xs.set j v)))
theorem set_list:PSet X q7c:=by
 intro pins s σ H o i v ov iv u Q I ro ri rv h
 obtain⟨p,xs,k,j,rfl,rfl,hp,hj,q⟩:=h
 cases ro
 obtain⟨t,rfl⟩:=ri
 obtain⟨its,n,r,ho,hz⟩:=I.lst hp
 obtain⟨h1,h2,h3,h4⟩:=qsv hj
 have hl:=r.length
 have hn:=qiy
 have I':Inv X pins σ (upd H p (.lst (xs.set j v))) { s with heap:=s.heap.update p (Obj.mapSeq (·.setIfInBounds j u)) } :=
  I.lstUpd hp ho (qqh its n j u) (r.set rv j) (by rw[List.length_set];exact hz) s.toks
 by_cases h0:0<=k
 ·have hk:k.toNat=j:=by
   rw[seqIndex_of h0 h4] at h1
   exact Option.some.inj h1
  exact PySem.W.ki_setAt ho h0 (by lia) (by rw[List.size_toArray,←hl];exact h4) (by rw[hk];exact⟨_,I',q⟩)
 ·have hk:(k+(its.toArray.size:Int)).toNat=j:=by
   rw[seqIndex_neg (by lia) h3] at h1
   rw[List.size_toArray,←hl]
   exact Option.some.inj h1
  exact PySem.W.ki_setBack ho (by lia) (by rw[List.size_toArray,←hl];exact h3) (by lia) (by rw[hk];exact⟨_,I',q⟩)
theorem ql2(lo hi:Option Int)(n:Nat):(sliceBounds lo hi none n).1=((HT.sIx n 0 lo:Nat):Int)/\(sliceBounds lo hi none n).2.1=((HT.sIx n n hi:Nat):Int)/\(sliceBounds lo hi none n).2.2=1:=by
 refine⟨?_,?_,rfl⟩
 ·cases lo with
 |none=>simp[sliceBounds,HT.sIx]
 |some i =>
   simp only[sliceBounds,HT.sIx,Option.getD_none,show (1:Int)>0 by decide,if_true]
   by_cases h:i<0
   ·simp only[h,if_true]<;>lia
   ·simp only[h,if_false]<;>lia
 ·cases hi with
 |none=>simp[sliceBounds,HT.sIx]
 |some i =>
   simp only[sliceBounds,HT.sIx,Option.getD_none,show (1:Int)>0 by decide,if_true]
   by_cases h:i<0
   ·simp only[h,if_true]<;>lia
   ·simp only[h,if_false]<;>lia
theorem qke(its:List Value)(lo hi:Option Int):slicePick its.toArray lo hi none=((its.drop (HT.sIx its.length 0 lo)).take (HT.sIx its.length its.length hi-HT.sIx its.length 0 lo)).toArray:=by
 obtain⟨h1,h2,h3⟩:=ql2 lo hi its.toArray.size
 unfold slicePick
 rw[h1,h2,h3]
 simp only[sliceRange_one,pick_run,List.size_toArray]<;>rfl
def rSlL(K:PySem.W.Frag):V->Option Int->Option Int->Hp->VK->Prop:=λx lo hi H Q=>∃a xs,x=.ref a/\SqL K H a xs/\∀p,H p=none->Q (.ref p) (upd H p (.lst (cutV xs lo hi)))
theorem q10:SlR X (rSlL X.K):=by
 intro pins s σ H x v vl vu lo hi sl Q I rx hs pl pu h
 obtain⟨a,xs,rfl,hx,q⟩:=h
 cases rx
 obtain⟨its,r,ht,hz⟩:=I.list hx
 have hlen:=r.length
 refine⟨"list",_,slot_list_getitem.lookup,ht.isList.typeIs,?_⟩
 refine wpAny_getItem_list_slice ht.isList hs pl pu .none (by simp) ?_ (by rw[List.size_toArray]<;>lia)
 rw[qke,←hlen]
 refine⟨.ref s.heap.objs.size,_,I.laid (t':=s.toks) (o:=.lst (cutV xs lo hi)) (λb ob q=>Heap.get?_push_of_some _ q) (Nat.le_refl _) ?_,rfl,q _ (I.hok.fresh (Nat.le_refl _))⟩
 exact⟨Nat.le_trans (qhh xs lo hi) hz,_,0,(r.drop (HT.sIx xs.length 0 lo)).take (HT.sIx xs.length xs.length hi-HT.sIx xs.length 0 lo),Heap.get?_push_size _ rfl⟩
def qgt:V->Bool
|.non=>true
|.bl _=>true
|.int _=>true
|.str _=>true
|_=>false
def eqV:V->V->Bool
|.non,.non=>true
|.bl a,.bl b=>a==b
|.bl a,.int b=>(if a then 1 else 0)==b
|.int a,.bl b=>a==(if b then 1 else 0)
|.int a,.int b=>a==b
|.str a,.str b=>a==b
|_,_=>false
theorem qx3{A:Around}{s:Shared}{y x:V}{u v:Value}(ry:RelV y u)(rx:RelV x v)(fy:qgt y=true)(fx:qgt x=true):SeqAt.EqAt A s u v (eqV y x):=by
 cases y with
|non =>
  cases ry
  cases x with
 |non=>cases rx;exact SeqAt.EqAt.same _
 |bl b=>cases rx;exact SeqAt.EqAt.none_bool b
 |int b=>obtain⟨t,rfl⟩:=rx;exact SeqAt.EqAt.none_int b t
 |str b=>obtain⟨t,rfl⟩:=rx;exact SeqAt.EqAt.none_str b t
 |_=>exact absurd (show false=true from fx) Bool.false_ne_true
|bl a =>
  cases ry
  cases x with
 |non=>cases rx;exact SeqAt.EqAt.bool_none a
 |bl b=>cases rx;exact SeqAt.EqAt.bool_bool a b
 |int b=>obtain⟨t,rfl⟩:=rx;exact SeqAt.EqAt.bool_int a b t
 |str b=>obtain⟨t,rfl⟩:=rx;exact SeqAt.EqAt.bool_str a b t
 |_=>exact absurd (show false=true from fx) Bool.false_ne_true
|int a =>
  obtain⟨t',rfl⟩:=ry
  cases x with
 |non=>cases rx;exact SeqAt.EqAt.int_none a t'
 |bl b=>cases rx;exact SeqAt.EqAt.int_bool a t' b
 |int b=>obtain⟨t,rfl⟩:=rx;exact SeqAt.EqAt.int_int a t' b t
 |str b=>obtain⟨t,rfl⟩:=rx;exact SeqAt.EqAt.int_str a t' b t
 |_=>exact absurd (show false=true from fx) Bool.false_ne_true
|str a =>
  obtain⟨t',rfl⟩:=ry
  cases x with
 |non=>cases rx;exact SeqAt.EqAt.str_none a t'
 |bl b=>cases rx;exact SeqAt.EqAt.str_bool a t' b
 |int b=>obtain⟨t,rfl⟩:=rx;exact SeqAt.EqAt.str_int a t' b t
 |str b=>obtain⟨t,rfl⟩:=rx;exact SeqAt.EqAt.str_str a t' b t
 |_=>exact absurd (show false=true from fx) Bool.false_ne_true
|_=>exact absurd (show false=true from fy) Bool.false_ne_true
def eqU(x:V)(u:Value):Bool:=match u with
|.none=>eqV .non x
|.bool b=>eqV (.bl b) x
|.int i _=>eqV (.int i) x
|.str z _=>eqV (.str z) x
|_=>false
theorem qx5{x y:V}{u:Value}(r:RelV y u)(f:qgt y=true):eqU x u=eqV y x:=by
 cases y with
|non=>cases r;rfl
|bl b=>cases r;rfl
|int i=>obtain⟨t,rfl⟩:=r;rfl
|str z=>obtain⟨t,rfl⟩:=r;rfl
|_=>exact absurd (show false=true from f) Bool.false_ne_true
theorem qg2{x:V}:∀ {xs:List V} {us:List Value},Vals xs us->xs.all qgt=true->us.any (eqU x)=xs.any λy=>eqV y x
|_,_,.nil,_=>rfl
|y::xs,u::us,.cons r t,f=>by
  rw[List.all_cons,Bool.and_eq_true] at f
  rw[List.any_cons,List.any_cons,qx5 r f.1,qg2 t f.2]
theorem qfl{A:Around}{s:Shared}{x:V}{v:Value}(rx:RelV x v)(fx:qgt x=true):∀ {xs:List V} {us:List Value},Vals xs us->xs.all qgt=true->∀u∈us,SeqAt.EqAt A s u v (eqU x u)
|_,_,.nil,_=>λu hu=>by cases hu
|y::xs,u::us,.cons r t,f=>λu' hu=>by
  rw[List.all_cons,Bool.and_eq_true] at f
  rcases List.mem_cons.mp hu with rfl|hu
  ·rw[qx5 r f.1];exact qx3 r rx f.1 fx
  ·exact qfl rx fx t f.2 u' hu
def inV(x:V)(xs:List V):Bool:=xs.any λy=>eqV y x
def rIn(K:PySem.W.Frag)(neg:Bool):R2:=λx y H Q=>∃p xs,y=.ref p/\(SqL K H p xs\/SqT K H p xs)/\qgt x=true/\xs.all qgt=true/\Q (.bl (if neg then !inV x xs else inV x xs)) H
theorem qtj:OpR X (compareOp .In) (rIn X.K false):=by
 intro pins s σ H x y v u Q I rx ry h
 obtain⟨p,xs,rfl,hq,fx,fs,q⟩:=h
 cases ry
 rcases hq with hq|hq
 ·obtain⟨its,r,pl,hz⟩:=I.list hq
  refine SeqAt.in_listAt (eqU x) pl.isList (λw hw=>qfl rx fx r fs w (by simpa using hw)) ⟨.bl _,H,I,rfl,?_⟩
  rw[show its.toArray.any (eqU x)=its.any (eqU x) by simp,qg2 r fs]
  exact q
 ·obtain⟨its,r,pl,hz⟩:=I.tuple hq
  refine SeqAt.in_tupleAt (eqU x) pl (λw hw=>qfl rx fx r fs w (by simpa using hw)) ⟨.bl _,H,I,rfl,?_⟩
  rw[show its.toArray.any (eqU x)=its.any (eqU x) by simp,qg2 r fs]
  exact q
theorem qls:OpR X (compareOp .NotIn) (rIn X.K true):=by
 intro pins s σ H x y v u Q I rx ry h
 obtain⟨p,xs,rfl,hq,fx,fs,q⟩:=h
 cases ry
 rcases hq with hq|hq
 ·obtain⟨its,r,pl,hz⟩:=I.list hq
  refine SeqAt.notIn_listAt (eqU x) pl.isList (λw hw=>qfl rx fx r fs w (by simpa using hw)) ⟨.bl _,H,I,rfl,?_⟩
  rw[show its.toArray.any (eqU x)=its.any (eqU x) by simp,qg2 r fs]
  exact q
 ·obtain⟨its,r,pl,hz⟩:=I.tuple hq
  refine SeqAt.notIn_tupleAt (eqU x) pl (λw hw=>qfl rx fx r fs w (by simpa using hw)) ⟨.bl _,H,I,rfl,?_⟩
  rw[show its.toArray.any (eqU x)=its.any (eqU x) by simp,qg2 r fs]
  exact q
theorem qk5:CallR X (.builtin "len") (λxs H Q=>∃p ys,xs=[.ref p]/\(SqL X.K H p ys\/SqT X.K H p ys)/\Q (.int ys.length) H):=by
 intro pins s σ H xs us Q I r h
 obtain⟨p,ys,rfl,hq,q⟩:=h
 obtain⟨u,rfl,rx⟩:=vals1 r
 cases rx
 have hn:=qiy
 rcases hq with hq|hq
 ·obtain⟨its,r',pl,hz⟩:=I.list hq
  have hlen:=r'.length
  exact Calls.call_len_list pl.isList (by simp only[List.size_toArray]<;>lia) ⟨.int ys.length,H,I.tok _,⟨s.toks+1,by rw[List.size_toArray,hlen]⟩,q⟩
 ·obtain⟨its,r',pl,hz⟩:=I.tuple hq
  have hlen:=r'.length
  exact len_tuple pl (by simp only[List.size_toArray]<;>lia) ⟨.int ys.length,H,I.tok _,⟨s.toks+1,by rw[List.size_toArray,hlen]⟩,q⟩
theorem call_len_str:CallR X (.builtin "len") (λxs H Q=>∃z,xs=[.str z]/\z.length<=sizeLine/\Q (.int z.length) H):=by
 intro pins s σ H xs us Q I r h
 obtain⟨z,rfl,hz,q⟩:=h
 obtain⟨u,rfl,t,rfl⟩:=vals1 r
 have hn:=qiy
 exact len_str (by lia) ⟨.int z.length,H,I.tok _,⟨_,rfl⟩,q⟩
theorem CallR.or{f:Value}{r r':List V->Hp->VK->Prop}(h:CallR X f r)(h':CallR X f r'):CallR X f (λxs H Q=>r xs H Q\/r' xs H Q):=by
 intro pins s σ H xs us Q I rs q
 rcases q with q|q
 ·exact h pins s σ H xs us Q I rs q
 ·exact h' pins s σ H xs us Q I rs q
theorem qjh:CallR X (.type "tuple") (λxs H Q=>∃p ys,xs=[.ref p]/\((SqL X.K H p ys/\∀l,H l=none->Q (.ref l) (upd H l (.tup ys)))\/(SqT X.K H p ys/\Q (.ref p) H))):=by
 intro pins s σ H xs us Q I r h
 obtain⟨p,ys,rfl,h⟩:=h
 obtain⟨u,rfl,rx⟩:=vals1 r
 cases rx
 rcases h with ⟨hq,q⟩|⟨hq,q⟩
 ·obtain⟨its,r',pl,hz⟩:=I.list hq
  have hlen:=r'.length
  refine call_tuple_list pl.isList (λh' kp=>?_) (by simp only[List.size_toArray]<;>lia)
  have I1:Inv X pins σ H { s with heap:=h' }:=I.kept (t':=s.toks) kp
  have I2:Inv X pins σ (upd H h'.objs.size (.tup ys)) { s with heap:=h'.push { cls:=.type "tuple",data:=.seq its.toArray } } :=
   I1.laid (t':=s.toks) (λb o e=>Heap.get?_push_of_some _ e) (Nat.le_refl _) (show ObjOk X.prog X.w _ _ _ (.tup ys) from ⟨hz,its,r',IsTup.new _ _⟩)
  exact⟨.ref h'.objs.size,_,I2,rfl,q _ (I1.hok.fresh (Nat.le_refl _))⟩
 ·obtain⟨its,r',pl,hz⟩:=I.tuple hq
  exact call_tuple_same pl ⟨.ref p,H,I,rfl,q⟩
def tyV(K:PySem.W.Frag)(T:String)(x:V)(H:Hp):Prop:=match x with
|.str _=>T="str"
|.int _=>T="int"
|.ref p=>(T="list" /\ ∃xs,SqL K H p xs)\/(T="tuple" /\ ∃o,K.lookup p=some o/\o.cls=.type "tuple" /\ o.dict=none) \/
   (T="dict" /\ ((∃kvs,H p=some (.dK kvs))\/∃kvs,H p=some (.dT kvs)))\/(T="set" /\ ∃S n,H p=some (.set S n))
|_=>False
theorem q5v{pins:List (Addr×Obj)}{σ:St}{H:Hp}{s:Shared}{T:String}{x:V}{v:Value}(I:Inv X pins σ H s)(r:RelV x v)(ty:tyV X.K T x H) :
  s.TypeIs v T/\∀a,v=.ref a->∃ob,s.heap.get? a=some ob/\ob.dict=none:=by
 cases x with
|str z =>
  obtain⟨t,rfl⟩:=r
  cases (show T="str" from ty)
  exact⟨typeIs_str s z t,λ_ e=>nomatch e⟩
|int i =>
  obtain⟨t,rfl⟩:=r
  cases (show T="int" from ty)
  exact⟨typeIs_int s i t,λ_ e=>nomatch e⟩
|ref p =>
  cases r
  rcases ty with ⟨rfl,xs,hq⟩|⟨rfl,o,hk,hc,hd⟩|⟨rfl,hk⟩|⟨rfl,S,n,hk⟩
  ·obtain⟨its,_,pl,_⟩:=I.list hq
   refine⟨pl.isList.typeIs,λa e=>?_⟩
   cases e
   obtain⟨o,n,e,c,hd,_⟩:=pl
   exact⟨o,e,hd⟩
  ·refine⟨⟨o,I.kIn p o hk,hc⟩,λa e=>?_⟩
   cases e
   exact⟨o,I.kIn _ o hk,hd⟩
  ·have z:∃o,s.heap.get? p=some o/\o.ExactDict:=by
    rcases hk with ⟨kvs,hk⟩|⟨kvs,hk⟩
    ·obtain⟨_,_,_,_,o,_,_,e,ex,_⟩:=I.hok p _ hk
     exact⟨o,e,ex⟩
    ·obtain⟨_,_,_,_,o,_,_,e,ex,_⟩:=I.hok p _ hk
     exact⟨o,e,ex⟩
   obtain⟨o,e,ex⟩:=z
   refine⟨⟨o,e,ex.1⟩,λa e2=>?_⟩
   cases e2
   exact⟨o,e,ex.2.1⟩
  ·obtain⟨o,_,_,_,e,ex,_⟩:=I.hok p _ hk
   refine⟨⟨o,e,ex.1⟩,λa e2=>?_⟩
   cases e2
   exact⟨o,e,ex.2.1⟩
|_=>exact False.elim ty
def tBM(K:PySem.W.Frag)(T:String)(r:V->List V->Hp->VK->Prop)(to:TE)(t:TA):TE:=λσ H Q=>to σ H λx H1=>tyV K T x H1/\t σ H1 λxs H2=>r x xs H2 Q
variable {o e:Expr} {es:List Expr} {to:TE} {t:TA} {name:Str} {apos cpos:Pos} {T id:String} {r:V->List V->Hp->VK->Prop}
theorem q6t(pa:PlainAttrs T)(slot:Slot T name id)(hty:typeOf (.builtin id)=pure (.type "method_descriptor"))(hm:MtR X id r)(ho:PE X o to)(ha:PA X (e::es) t)
  (hbase:attributeBase o name X.env (eval o X.env)=eval o X.env:=by rfl)
  (hfew:((backTo cpos (starEach (e::es) X.env)).all (λx=>!x.1)&&(backToKw cpos (keywordEach [] X.env)).all (λx=>x.1.isSome)
   && decide ((e::es).length+([]:List Keyword).length+(if ([]:List Keyword).isEmpty then 0 else 1)<30))=true:=by rfl)
  (hline:(apos.endLine==cpos.line)=true:=by rfl) (hs:starEach (e::es) X.env=(false,eval e X.env)::starEach es X.env:=by rfl) (hplain:(backTo cpos (starEach es X.env)).any (·.1)=false:=by rfl) :
  PE X (.Call (.Attribute o name apos) (e::es) [] cpos) (tBM X.K T r to t):=by
 intro pins s σ H Q I h
 refine wpAny_Call_method_late hbase hfew hline rfl (thn (ho pins s σ H _ I h) λv s1 ⟨x,H1,I1,r1,ty,q1⟩=>?_)
 obtain⟨h1,h2⟩:=q5v I1 r1 ty
 refine⟨T,id,pa,slot,hty,h1,h2,?_⟩
 have hA:=ha cpos pins s1 σ H1 _ I1 q1
 rw[hs] at hA ⊢
 refine Calls.callWith_builtin (by show (false||(backTo cpos (starEach es X.env)).any (·.1))=false;rw[hplain]<;>rfl) (Calls.evalArgs_plain ?_)
 exact thn hA λus s2 ⟨vs,H2,I2,r2,q2⟩=>hm pins s2 σ H2 x vs v us Q I2 r1 r2 q2
end
end L2
namespace L2
open PySem PySem.Spec PyProof.Rows
def MtM(X:Cx)(id:String)(r:V->List V->Hp->VK->Prop):Prop :=
 ∀(pins:List (Addr×Obj)) (s:Shared) (σ:St) (H:Hp) (x:V) (xs:List V) (v:Value) (us:List Value) (Q:VK),Inv X pins σ H s->RelV x v->Vals xs us->r x xs H Q ->
  wpAny (model X.prog X.w) X.A (call (.builtin id) (v::us)) (EP X pins σ Q) X.xe s
theorem Vals.one:∀ {x:V} {us:List Value},Vals [x] us->∃u,us=[u]/\RelV x u
|_,_,.cons r .nil=>⟨_,rfl,r⟩
theorem Vals.eraseIdx:∀ {xs:List V} {us:List Value} (i:Nat),Vals xs us->Vals (xs.eraseIdx i) (us.eraseIdx i)
|_,_,_,.nil=>.nil
|_,_,0,.cons _ t=>t
|_,_,i+1,.cons r t=>.cons r (Vals.eraseIdx i t)
theorem qlf{α:Type}:∀(l:List α) (i:Nat),(l.eraseIdx i).length<=l.length
|[],_=>Nat.le_refl _
|_::_,0=>Nat.le_succ _
|_::r,i+1=>Nat.succ_le_succ (qlf r i)
section
variable {X:Cx} {pins:List (Addr×Obj)} {σ:St} {H:Hp} {s:Shared} {l b:Addr} {xs ys zs:List V}
theorem Inv.lset{its its':List Value}{n:Nat}{f:Array Value->Array Value}{t':Nat}(I:Inv X pins σ H s)(hH:H l=some (.lst xs))
  (e:s.heap.get? l=some { cls:=.type "list",data:=.seq its.toArray n }) (hf:f its.toArray=its'.toArray) (hv:Vals ys its') (hz:ys.length<=sizeLine) :
  Inv X pins σ (upd H l (.lst ys)) { s with heap:=s.heap.update l (Obj.mapSeq f),toks:=t' }:=by
 have q:=PySem.IsL.update e f
 rw[hf] at q
 refine I.write (x:=l) (e:=l) (by rw[hH];exact trivial) (.inl rfl) (λb' u hb hu=>(Heap.get?_update_other s.heap (Obj.mapSeq f) (Ne.symm hb)).trans hu) ⟨_,q⟩ ?_
 exact⟨hz,its',_,hv,q⟩
theorem Inv.lnew{its:List Value}{t':Nat}(I:Inv X pins σ H s)(hv:Vals ys its)(hz:ys.length<=sizeLine) :
  Inv X pins σ (upd H s.heap.objs.size (.lst ys)) { s with heap:=s.heap.push { cls:=.type "list",data:=.seq its.toArray },toks:=t' } :=
 I.laid (λ_ _ q=>Heap.get?_push_of_some _ q) (Nat.le_refl _) ⟨hz,its,0,hv,Heap.get?_push_size _ rfl⟩
theorem Inv.fresh(I:Inv X pins σ H s):H s.heap.objs.size=none:=I.hok.fresh (Nat.le_refl _)
theorem Inv.lstM(I:Inv X pins σ H s)(hH:H l=some (.lst xs)):xs.length<=sizeLine/\∃(its:List Value) (n:Nat),Vals xs its/\xs.length=its.length/\s.heap.get? l=some { cls:=.type "list",data:=.seq its.toArray n }:=by
 obtain⟨z,its,n,r,e⟩:=I.hok l _ hH
 exact⟨z,its,n,r,r.length,e⟩
end
section
variable {X:Cx}
def q1r:V->List V->Hp->VK->Prop:=λx vs H Q=>∃l xs y,x=.ref l/\vs=[y]/\H l=some (.lst xs)/\xs.length<sizeLine/\Q .non (upd H l (.lst (xs++[y])))
theorem qlm:MtM X "list.append" q1r:=by
 intro pins s σ H x vs v us Q I rx rv h
 obtain⟨l,xs,y,rfl,rfl,hH,hz,q⟩:=h
 cases rx
 obtain⟨u,rfl,ru⟩:=rv.one
 obtain⟨z,its,n,r,hl,e⟩:=I.lstM hH
 refine call_meets F.slot_list_append ⟨_,e,rfl⟩ F.entry_list_append (F.args_list_append_2 _ _) (PySem.list_append l its.toArray n u (by rw[List.size_toArray];lia)) ⟨e,?_⟩
 refine⟨.non,_,I.lset (its':=its++[u]) hH e (by simp) (r.append (.cons ru .nil)) ?_,rfl,q⟩
 rw[List.length_append,List.length_singleton]
 lia
def q49:V->List V->Hp->VK->Prop:=λx vs H Q=>∃l xs i k y,x=.ref l/\vs=[.int i]/\H l=some (.lst xs)/\-(2 ^ 63)<=i/\i<2 ^ 63/\seqIndex? i xs.length=some k/\xs[k]?=some y/\Q y (upd H l (.lst (xs.eraseIdx k)))
theorem qv0:MtM X "list.pop" q49:=by
 intro pins s σ H x vs v us Q I rx rv h
 obtain⟨l,xs,i,k,y,rfl,rfl,hH,h1,h2,hk,hy,q⟩:=h
 cases rx
 obtain⟨u,rfl,ru⟩:=rv.one
 obtain⟨t,rfl⟩:=ru
 obtain⟨z,its,n,r,hl,e⟩:=I.lstM hH
 obtain⟨w,hw,rw'⟩:=r.get hy
 refine call_meets F.slot_list_pop ⟨_,e,rfl⟩ F.entry_list_pop (F.args_list_pop_2 _ _)
  (MeetsSeq.list_pop_at l its.toArray n i t k w (fitsIndex_both h1 h2) (by rw[List.size_toArray,←hl];exact hk) (by rw[←Array.getElem?_toList];exact hw) (by rw[List.size_toArray];lia)) ⟨e,?_⟩
 refine⟨y,_,I.lset (its':=its.eraseIdx k) hH e ?_ (r.eraseIdx k) ?_,rw',q⟩
 ·show its.toArray.eraseIdxIfInBounds k=(its.eraseIdx k).toArray
  rw[List.eraseIdxIfInBounds_toArray]
 ·have:=qlf xs k
  lia
def rCat:R2:=λx y H Q=>∃l b xs zs,x=.ref l/\y=.ref b/\H l=some (.lst xs)/\H b=some (.lst zs)/\xs.length+zs.length<=sizeLine/\∀p,H p=none->Q (.ref p) (upd H p (.lst (xs++zs)))
theorem q3t:OpR X (binaryOp .Add) rCat:=by
 intro pins s σ H x y v u Q I rx ry h
 obtain⟨l,b,xs,zs,rfl,rfl,hH,hB,hz,q⟩:=h
 cases rx
 cases ry
 obtain⟨z,its,n,r,hl,e⟩:=I.lstM hH
 obtain⟨z2,its2,n2,r2,hl2,e2⟩:=I.lstM hB
 refine PySem.P.add_list e e2 ?_ (by rw[List.size_toArray,List.size_toArray];lia)
 have ea:its.toArray++its2.toArray=(its++its2).toArray:=by simp
 rw[ea]
 exact⟨.ref _,_,I.lnew (t':=s.toks) (r.append r2) (by rw[List.length_append];lia),rfl,q _ I.fresh⟩
end
section
variable {prog:Program} {w:World} {A:Around} {E:Value->Shared->Prop} {s:Shared}
end
section
variable {X:Cx}
end
end L2
namespace L2
open PySem PySem.Spec PyProof.Rows
section
variable {κ:Type} [DecidableEq κ]
def valV(kvs:List (κ×V))(k:κ):Option V:=(kvs.find? λkv=>decide (kv.1=k)).map (·.2)
def putK(kvs:List (κ×V))(k:κ)(v:V):List (κ×V) :=
 if (kvs.any λkv=>decide (kv.1=k))=true then kvs.map (λkv=>if kv.1=k then (kv.1,v) else kv) else kvs++[(k,v)]
theorem qfv{p:κ×V}{r:List (κ×V)}{k:κ}(e:p.1=k):valV (p::r) k=some p.2:=by simp[valV,List.find?_cons,e]
theorem qfu{p:κ×V}{r:List (κ×V)}{k:κ}(e:¬ p.1=k):valV (p::r) k=valV r k:=by simp[valV,List.find?_cons,e]
theorem qpn(k:κ):∀kvs:List (κ×V),(kvs.any λkv=>decide (kv.1=k))=(valV kvs k).isSome
|[]=>rfl
|p::r=>by
  rw[List.any_cons]
  by_cases e:p.1=k
  ·simp only[qfv e,decide_eq_true e,Bool.true_or,Option.isSome_some]
  ·rw[qfu e,decide_eq_false e,Bool.false_or];exact qpn k r
theorem qhr(kvs:List (κ×V))(k:κ)(v:V):(putK kvs k v).length<=kvs.length+1:=by
 unfold putK
 split
 ·rw[List.length_map];lia
 ·rw[List.length_append,List.length_cons,List.length_nil];lia
theorem RelO.isSome_eq{o:Option V}{u:Option Value}(r:RelO o u):o.isSome=u.isSome:=by
 cases o with
|none=>cases u with
 |none=>rfl
 |some _=>exact(show False from r).elim
|some _=>cases u with
 |none=>exact(show False from r).elim
 |some _=>rfl
theorem RelO.getD{o:Option V}{u:Option Value}{d:V}{d':Value}(r:RelO o u)(rd:RelV d d'):RelV (o.getD d) (u.getD d'):=by
 cases o with
|none=>cases u with
 |none=>exact rd
 |some _=>exact(show False from r).elim
|some _=>cases u with
 |none=>exact(show False from r).elim
 |some _=>exact r
theorem KV.val{kvs:List (κ×V)}{vs:List (κ×Value)}(r:KV kvs vs)(k:κ):RelO (valV kvs k) (valueAt vs k):=by
 unfold KV at r
 induction r with
|nil=>exact True.intro
|@cons p q ps qs h t ih =>
  obtain⟨h1,h2⟩:=h
  by_cases e:p.1=k
  ·have e':q.1=k:=h1.symm.trans e
   have b:valueAt (q::qs) k=some q.2:=by simp[valueAt,List.find?_cons,e']
   rw[qfv e,b];exact h2
  ·have e':¬ q.1=k:=λz=>e (h1.trans z)
   have b:valueAt (q::qs) k=valueAt qs k:=by simp[valueAt,List.find?_cons,e']
   rw[qfu e,b];exact ih
theorem KV.any{kvs:List (κ×V)}{vs:List (κ×Value)}(r:KV kvs vs)(k:κ):(kvs.any λkv=>decide (kv.1=k))=vs.any λkv=>decide (kv.1=k):=by
 unfold KV at r
 induction r with
|nil=>rfl
|cons h t ih=>rw[List.any_cons,List.any_cons,ih,h.1]
theorem KV.repl{kvs:List (κ×V)}{vs:List (κ×Value)}(r:KV kvs vs)(k:κ){y:V}{u:Value}(ry:RelV y u) :
  KV (kvs.map λkv=>if kv.1=k then (kv.1,y) else kv) (vs.map λkv=>if kv.1=k then (kv.1,u) else kv):=by
 unfold KV at r ⊢
 induction r with
|nil=>exact .nil
|@cons p q ps qs h t ih =>
  rw[List.map_cons,List.map_cons]
  refine .cons ?_ ih
  obtain⟨h1,h2⟩:=h
  by_cases e:p.1=k
  ·rw[if_pos e,if_pos (h1.symm.trans e)];exact⟨h1,ry⟩
  ·rw[if_neg e,if_neg (λz=>e (h1.trans z))];exact⟨h1,h2⟩
theorem KV.put{kvs:List (κ×V)}{vs:List (κ×Value)}(r:KV kvs vs)(k:κ){y:V}{u:Value}(ry:RelV y u):KV (putK kvs k y) (stored vs k u):=by
 unfold putK stored
 rw[r.any k]
 by_cases e:(vs.any λkv=>decide (kv.1=k))=true
 ·rw[if_pos e,if_pos e];exact r.repl k ry
 ·rw[if_neg e,if_neg e];exact Paired.snoc r ⟨rfl,ry⟩
theorem KV.length{kvs:List (κ×V)}{vs:List (κ×Value)}(r:KV kvs vs):kvs.length=vs.length:=Paired.length r
end
theorem qqc{P:Program}{w:World}{k:Key}{u:Value}(r:RelV (kV k) u):(qbs P w).is k u=true:=by
 cases k with
|inl i=>obtain⟨t,e⟩:=(show ∃t,u=Value.int i t from r);subst e;exact qne P w i t
|inr x=>obtain⟨t,e⟩:=(show ∃t,u=Value.str x t from r);subst e;exact qnf P w x t
theorem qlc{P:Program}{w:World}:∀ {ks:List Key} {us:List Value},Vals (ks.map kV) us->ItemsAre (qbs P w) ks us
|[],_,r=>by rw[List.map_nil] at r;cases r;exact .nil
|k::ks,_,r=>by
  rw[List.map_cons] at r
  cases r with
 |cons h t=>exact .cons (qqc h) (qlc t)
abbrev KT(H:Hp):List (List Key×V)->List (List Key×Addr×Value)->Prop:=Paired λp q=>p.1=q.1/\H q.2.1=some (.tup (p.1.map kV))/\RelV p.2 q.2.2
theorem KT.val{H:Hp}{kvs:List (List Key×V)}{xs:List (List Key×Addr×Value)}(r:KT H kvs xs)(k:List Key):RelO (valV kvs k) ((atKey xs k).map (·.2)):=by
 induction r with
|nil=>exact True.intro
|@cons p q ps qs h t ih =>
  obtain⟨h1,_,h2⟩:=h
  by_cases e:p.1=k
  ·have e':q.1=k:=h1.symm.trans e
   have b:atKey (q::qs) k=some q.2:=by simp[atKey,List.find?_cons,e']
   rw[qfv e,b];exact h2
  ·have e':¬ q.1=k:=λz=>e (h1.trans z)
   have b:atKey (q::qs) k=atKey qs k:=by simp[atKey,List.find?_cons,e']
   rw[qfu e,b];exact ih
theorem KT.repl{H:Hp}{kvs:List (List Key×V)}{xs:List (List Key×Addr×Value)}(r:KT H kvs xs)(k:List Key){y:V}{u:Value}(ry:RelV y u) :
  KT H (kvs.map λkv=>if kv.1=k then (kv.1,y) else kv) (xs.map (putAt k u)):=by
 induction r with
|nil=>exact .nil
|@cons p q ps qs h t ih =>
  rw[List.map_cons,List.map_cons]
  refine .cons ?_ ih
  obtain⟨h1,h2,h3⟩:=h
  unfold putAt
  by_cases e:p.1=k
  ·rw[if_pos e,if_pos (h1.symm.trans e)];exact⟨h1,h2,ry⟩
  ·rw[if_neg e,if_neg (λz=>e (h1.trans z))];exact⟨h1,h2,h3⟩
theorem KT.put{H:Hp}{kvs:List (List Key×V)}{xs:List (List Key×Addr×Value)}(r:KT H kvs xs)(k:List Key){b:Addr}{y:V}{u:Value}(hb:H b=some (.tup (k.map kV)))(ry:RelV y u) :
  KT H (putK kvs k y) (storedH xs k b u):=by
 have e:(kvs.any λkv=>decide (kv.1=k))=(atKey xs k).isSome:=by
  rw[qpn,(r.val k).isSome_eq,Option.isSome_map]
 unfold putK storedH
 rw[e]
 by_cases q:(atKey xs k).isSome=true
 ·rw[if_pos q,if_pos q];exact r.repl k ry
 ·rw[if_neg q,if_neg q];exact Paired.snoc r ⟨rfl,hb,ry⟩
theorem KT.keeps{H H':Hp}{kvs:List (List Key×V)}{xs:List (List Key×Addr×Value)}(r:KT H kvs xs)(ht:∀b ys,H b=some (.tup ys)->H' b=some (.tup ys)):KT H' kvs xs :=
 Paired.mapP r λ_ _ z=>⟨z.1,ht _ _ z.2.1,z.2.2⟩
section
variable {P:Program} {w:World} {H:Hp} {h:Heap} {a:Addr}
theorem q5a{u:HO}(ok:HOk P w H h)(e:Rd H a u):ObjOk P w H h a u:=e.ok ok
theorem qmz{kvs:List (Key×V)}(ok:HOk P w H h)(e:Rd H a (.dK kvs)):kvs.length<=sizeLine/\(a==sysModules)=false/\∃vs,KV kvs vs/\h.DictOf (qbs P w) a vs :=
 show ObjOk P w H h a (.dK kvs) from q5a ok e
theorem q6f{kvs:List (Key×V)}(ok:HOk P w H h)(e:H a=some (.dK kvs)):kvs.length<=sizeLine/\(a==sysModules)=false/\∃vs,KV kvs vs/\h.DictOf (qbs P w) a vs:=qmz ok (.inl e)
theorem qhn{ks:List Key}(ok:HOk P w H h)(e:H a=some (.tup (ks.map kV))):(tupleKind (qbs P w)).is h ks a:=by
 obtain⟨_,its,r,o,h1,h2,n,h3⟩:=(show ObjOk P w H h a (.tup (ks.map kV)) from ok a _ e)
 exact⟨o,its.toArray,n,h1,h2,h3,by simpa using qlc r⟩
theorem qk8{kvs:List (List Key×V)}(ok:HOk P w H h)(e:Rd H a (.dT kvs)):kvs.length<=sizeLine/\(a==sysModules)=false /\
  ∃xs,KT H kvs xs/\h.DictOfH (tupleKind (qbs P w)) a xs:=by
 obtain⟨z,y,xs,r,o,es,ep,h1,h2,h3,h4,h5⟩:=(show ObjOk P w H h a (.dT kvs) from q5a ok e)
 refine⟨z,y,xs,r,o,es,ep,h1,h2,h3,h4,λx hx=>?_,h5⟩
 have all:∀ {l:List (List Key×V)} {m:List (List Key×Addr×Value)},KT H l m->∀x∈m,(tupleKind (qbs P w)).is h x.1 x.2.1:=by
  intro l m q
  induction q with
 |nil=>intro x hx;exact nomatch hx
 |@cons p q ps qs hq t ih =>
   intro x hx
   rcases List.mem_cons.mp hx with e|hx
   ·subst e
    exact qhn ok (by rw[←hq.1];exact hq.2.1)
   ·exact ih x hx
 exact all r x hx
theorem q2y{kvs:List (List Key×V)}(ok:HOk P w H h)(e:H a=some (.dT kvs)):kvs.length<=sizeLine/\(a==sysModules)=false /\
  ∃xs,KT H kvs xs/\h.DictOfH (tupleKind (qbs P w)) a xs:=qk8 ok (.inl e)
end
def DGet(H:Hp)(a:Addr)(y:V)(r:Option V):Prop :=
 (∃kvs k,Rd H a (.dK kvs)/\y=kV k/\r=valV kvs k)\/∃kvs k b,Rd H a (.dT kvs)/\y=.ref b/\H b=some (.tup (k.map kV))/\r=valV kvs k
def DPut(H:Hp)(a:Addr)(y v:V)(H':Hp):Prop :=
 (∃kvs k,H a=some (.dK kvs)/\y=kV k/\kvs.length<sizeLine/\H'=upd H a (.dK (putK kvs k v))) \/
 ∃kvs k b,H a=some (.dT kvs)/\y=.ref b/\H b=some (.tup (k.map kV))/\kvs.length<sizeLine/\H'=upd H a (.dT (putK kvs k v))
theorem DGet.k{H:Hp}{a:Addr}{kvs:List (Key×V)}{k:Key}(e:H a=some (.dK kvs)):DGet H a (kV k) (valV kvs k):=.inl ⟨kvs,k,.inl e,rfl,rfl⟩
theorem DPut.t{H:Hp}{a b:Addr}{kvs:List (List Key×V)}{k:List Key}{v:V}(e:H a=some (.dT kvs))(eb:H b=some (.tup (k.map kV)))(hl:kvs.length<sizeLine) :
  DPut H a (.ref b) v (upd H a (.dT (putK kvs k v))):=.inr ⟨kvs,k,b,e,rfl,eb,hl,rfl⟩
section
variable {X:Cx} {pins:List (Addr×Obj)} {σ:St} {H:Hp} {s:Shared} {a:Addr} {y v:V} {u r:Value} {o:Option V} {A:Around} {E:Value->Shared->Prop}
theorem Inv.big(I:Inv X pins σ H s):sysModules<s.heap.objs.size:=by
 have h:mainGlobals<s.heap.objs.size:=(I.mod.glob.keeps I.bk).lt
 exact Nat.lt_trans (by decide) h
theorem qr3{Q:Value->Shared->Prop}(hu:A.units+1<cLine)(I:Inv X pins σ H s)(g:DGet H a y (some v))(ry:RelV y u)(h:∀w' s',Inv X pins σ H s'->RelV v w'->Q w' s') :
  wpAny (model X.prog X.w) A (getItem (.ref a) u) Q E s:=by
 rcases g with ⟨kvs,k,e,ey,l⟩|⟨kvs,k,b,e,ey,eb,l⟩
 ·subst ey
  obtain⟨z,hd,vs,rel,dd⟩:=qmz I.hok e
  obtain⟨w',hw,rw'⟩:=RelO.some_of (v:=v) (o:=valueAt vs k) (by rw[l];exact rel.val k)
  exact wpAny_getItem_of (qqc ry) dd.mapOf hw (h w' _ (I.tok _) rw')
 ·subst ey
  cases (show u=Value.ref b from ry)
  obtain⟨z,hd,xs,rel,dd⟩:=qk8 I.hok e
  obtain⟨w',hw,rw'⟩:=RelO.some_of (v:=v) (o:=(atKey xs k).map (·.2)) (by rw[l];exact rel.val k)
  obtain⟨p,hp,hp2⟩:=Option.map_eq_some_iff.mp hw
  refine wpAny_getItem_heap (tupleKind_room_in1 hu) (qhn I.hok eb) dd hp ?_
  rw[hp2]
  exact h w' _ (I.tok _) rw'
theorem d_in{Q:Value->Shared->Prop}(hu:A.units+1<cLine)(I:Inv X pins σ H s)(g:DGet H a y o)(ry:RelV y u)(h:∀s',Inv X pins σ H s'->Q (.bool o.isSome) s') :
  wpAny (model X.prog X.w) A (compareOp .In u (.ref a)) Q E s:=by
 rcases g with ⟨kvs,k,e,ey,l⟩|⟨kvs,k,b,e,ey,eb,l⟩
 ·subst ey
  obtain⟨z,hd,vs,rel,dd⟩:=qmz I.hok e
  refine wpAny_in_of (qqc ry) hd dd.mapOf ?_
  rw[←(rel.val k).isSome_eq,←l]
  exact h _ (I.tok _)
 ·subst ey
  cases (show u=Value.ref b from ry)
  obtain⟨z,hd,xs,rel,dd⟩:=qk8 I.hok e
  refine wpAny_in_heap (tupleKind_room_in1 hu) (qhn I.hok eb) hd dd ?_
  have q:=(rel.val k).isSome_eq
  rw[Option.isSome_map] at q
  rw[←q,←l]
  exact h _ (I.tok _)
theorem qzh{Q:Value->Shared->Prop}(hu:A.units+1<cLine)(I:Inv X pins σ H s)(g:DGet H a y o)(ry:RelV y u)(h:∀s',Inv X pins σ H s'->Q (.bool (!o.isSome)) s') :
  wpAny (model X.prog X.w) A (compareOp .NotIn u (.ref a)) Q E s:=by
 rcases g with ⟨kvs,k,e,ey,l⟩|⟨kvs,k,b,e,ey,eb,l⟩
 ·subst ey
  obtain⟨z,hd,vs,rel,dd⟩:=qmz I.hok e
  refine wpAny_notIn_of (qqc ry) hd dd.mapOf ?_
  rw[←(rel.val k).isSome_eq,←l]
  exact h _ (I.tok _)
 ·subst ey
  cases (show u=Value.ref b from ry)
  obtain⟨z,hd,xs,rel,dd⟩:=qk8 I.hok e
  refine wpAny_notIn_heap (tupleKind_room_in1 hu) (qhn I.hok eb) hd dd ?_
  have q:=(rel.val k).isSome_eq
  rw[Option.isSome_map] at q
  rw[←q,←l]
  exact h _ (I.tok _)
theorem qmw{h':Heap}{t':Nat}{ob:HO}(I:Inv X pins σ H s)(mu:Mut (H a))(hs:Heap.SameBut a s.heap h')(he:∃q,h'.get? a=some q)(new:ObjOk X.prog X.w (upd H a ob) h' a ob) :
  Inv X pins σ (upd H a ob) { s with heap:=h',toks:=t' } :=
 I.write (x:=a) (e:=a) mu (.inl rfl) (λb q hb z=>(hs.2 b hb).trans z) he new
theorem q2x{P:Program}{w:World}{H':Hp}{h':Heap}{kvs:List (Key×V)}{vs:List (Key×Value)}(z:kvs.length<=sizeLine)(hd:(a==sysModules)=false)(rel:KV kvs vs)(dd:h'.DictOf (qbs P w) a vs) :
  ObjOk P w H' h' a (.dK kvs):=⟨z,hd,vs,rel,dd⟩
theorem qr4{H':Hp}{Q:Unit->Shared->Prop}(hu:A.units+1<cLine)(I:Inv X pins σ H s)(g:DPut H a y v H')(ry:RelV y u)(rv:RelV v r)(h:∀s',Inv X pins σ H' s'->Q () s') :
  wpAny (model X.prog X.w) A (setItem (.ref a) u r) Q E s:=by
 rcases g with ⟨kvs,k,e,ey,l,eH⟩|⟨kvs,k,b,e,ey,eb,l,eH⟩
 ·subst ey eH
  obtain⟨z,hd,vs,rel,dd⟩:=q6f I.hok e
  have hz:vs.length<=sizeLine:=by rw[←rel.length];exact z
  have hl:(putK kvs k v).length<=sizeLine:=by have:=qhr kvs k v;lia
  refine wpAny_setItem_pairs (hsz:=hz) (qqc ry) dd λh' dd' hs=>h _ ?_
  have he:∃q,h'.get? a=some q:=let ⟨q,_,_,hq,_⟩:=dd';⟨q,hq⟩
  exact qmw I (by rw[e];exact True.intro) hs he (q2x hl hd (rel.put k rv) dd')
 ·subst ey eH
  cases (show u=Value.ref b from ry)
  obtain⟨z,hd,xs,rel,dd⟩:=q2y I.hok e
  have hz:xs.length<=sizeLine:=by rw[←Paired.length rel];exact z
  have hl:(putK kvs k v).length<=sizeLine:=by have:=qhr kvs k v;lia
  refine wpAny_setItem_heap (hsz:=hz) (tupleKind_room_in1 hu) (qhn I.hok eb) dd λh' dd' hs=>h _ ?_
  obtain⟨q,es,ep,hq,h2,h3,h4,_,h5⟩:=dd'
  refine qmw I (by rw[e];exact True.intro) hs ⟨q,hq⟩ ⟨hl,hd,_,(rel.put k eb rv).keeps λc ys ec=>?_,q,es,ep,hq,h2,h3,h4,h5⟩
  rw[qar (q3l ec e (λz=>nomatch z))]
  exact ec
end
section
variable {X:Cx} {pins:List (Addr×Obj)} {σ:St} {H:Hp} {s:Shared} {a:Addr} {kvs:List (Key×V)} {k:Key} {u:Value} {A:Around} {E:Value->Shared->Prop}
end
def NoSl(i:Expr):Prop:=∀ov iv,subscripted i false ov iv=operate [ov,iv] (getItem ov iv)
theorem q14{prog:Program}{w:World}{A:Around}{E:Value->Shared->Prop}{s:Shared}{env:Env}{value slice:Expr}{pos:Pos}{T id:String}{Q:Value->Shared->Prop}
  (hl:typeLookup (.type T) "__getitem__" = pure (some (.builtin id))) (hs:NoSl slice)
  (h:wpAny (model prog w) A (eval value env) (λo s₁=>wpAny (model prog w) A (eval slice env) (λi s₂=>s₂.TypeIs o T/\wpAny (model prog w) A (getItem o i) Q E s₂) E s₁) E s) :
  wpAny (model prog w) A (eval (.Subscript value slice pos) env) Q E s:=by
 refine Subscript_ (wpAny_mono h (λo s₁ h₁=>wpAny_mono h₁ (λi s₂ h₂=>?_) λ_ _ x=>x) λ_ _ x=>x)
 obtain⟨hT,h₂⟩:=h₂
 unfold subscriptTail
 refine wpAny_bind ?_
 rw[getitemInPython_of_ne hT.not_modules]
 refine wpAny_bind (wpAny_specialOf hT hl ?_)
 have fin:wpAny (model prog w) A (subscripted slice false o i) (λr s₃=>wpAny (model prog w) A (letTemporaryGo value o r >>= λ_=>pure r) Q E s₃) E s₂:=by
  rw[hs o i]
  exact wpAny_operating (wpAny_mono h₂ (λr s₃ h₃=>wpAny_bind (wpAny_letTemporaryGo (wpAny_pure h₃))) λ_ _ x=>x)
 first
 |exact wpAny_pure (wpAny_bind fin)
 |exact wpAny_bind (wpAny_pure (wpAny_bind fin))
 |exact wpAny_bind fin
theorem qmy{X:Cx}{pins:List (Addr×Obj)}{σ:St}{H:Hp}{s:Shared}{a:Addr}{y:V}{o:Option V}(I:Inv X pins σ H s)(g:DGet H a y o):s.TypeIs (.ref a) "dict" := by
 rcases g with ⟨kvs,k,e,_,_⟩|⟨kvs,k,b,e,_,_,_⟩
 ·obtain⟨_,_,vs,_,dd⟩:=qmz I.hok e
  exact dd.typeIs
 ·obtain⟨_,_,xs,_,dd⟩:=qk8 I.hok e
  exact dd.typeIs
def q5n(td ty:TE):TE:=λσ H Q=>td σ H λx H1=>ty σ H1 λy H2=>∃a v,x=.ref a/\DGet H2 a y (some v)/\Q v H2
def tDIn(ty td:TE):TE:=λσ H Q=>ty σ H λy H1=>td σ H1 λx H2=>∃a o,x=.ref a/\DGet H2 a y o/\Q (.bl o.isSome) H2
def qub(ty td:TE):TE:=λσ H Q=>ty σ H λy H1=>td σ H1 λx H2=>∃a o,x=.ref a/\DGet H2 a y o/\Q (.bl (!o.isSome)) H2
def q5j(td ty tv:TE):TS:=λD σ H=>tv σ H λv H1=>td σ H1 λx H2=>ty σ H2 λy H3=>∃a H4,x=.ref a/\DPut H3 a y v H4/\D.nx σ H4
section
variable {X:Cx} {o i e value:Expr} {pos pos' tpos:Pos} {td ty tv:TE}
theorem q0u(hu:X.A.units+1<cLine)(ho:PE X o td)(hi:PE X i ty)(hs:NoSl i):PE X (.Subscript o i pos) (q5n td ty):=by
 intro pins s σ H Q I h
 refine q14 PySem.F.slot_dict_getitem.lookup hs (thn (ho pins s σ H _ I h) λu s1 ⟨x,H1,I1,rx,q1⟩=>thn (hi pins s1 σ H1 _ I1 q1) λiv s2 ⟨y,H2,I2,ry,a,v,ex,g,q2⟩=>?_)
 subst ex
 obtain rfl:u=Value.ref a:=rx
 exact⟨qmy I2 g,qr3 hu I2 g ry λw' s3 I3 rw'=>⟨v,H2,I3,rw',q2⟩⟩
theorem q33(hu:X.A.units+1<cLine)(hi:PE X i ty)(ho:PE X o td):PC X .In i o (tDIn ty td):=by
 intro pins s σ H Q I h
 refine thn (hi pins s σ H _ I h) λiv s1 ⟨y,H1,I1,ry,q1⟩=>thn (ho pins s1 σ H1 _ I1 q1) λu s2 ⟨x,H2,I2,rx,a,ov,ex,g,q2⟩=>?_
 subst ex
 obtain rfl:u=Value.ref a:=rx
 exact d_in hu I2 g ry λs3 I3=>⟨.bl ov.isSome,H2,I3,rfl,q2⟩
theorem qtl(hu:X.A.units+1<cLine)(hi:PE X i ty)(ho:PE X o td):PC X .NotIn i o (qub ty td):=by
 intro pins s σ H Q I h
 refine thn (hi pins s σ H _ I h) λiv s1 ⟨y,H1,I1,ry,q1⟩=>thn (ho pins s1 σ H1 _ I1 q1) λu s2 ⟨x,H2,I2,rx,a,ov,ex,g,q2⟩=>?_
 subst ex
 obtain rfl:u=Value.ref a:=rx
 exact qzh hu I2 g ry λs3 I3=>⟨.bl (!ov.isSome),H2,I3,rfl,q2⟩
theorem q02(hu:X.A.units+1<cLine)(ho:PE X o td)(hi:PE X i ty)(hv:PE X value tv)(hs:swapsWith value (some (.Subscript o i pos')) pos.line X.env=pure false) :
  PS X (.Assign [.Subscript o i pos'] value pos) (q5j td ty tv):=by
 intro pins s σ H D I h
 refine wpAny_Assign_Subscript (thn (hv pins s σ H _ I h) λr s1 ⟨v,H1,I1,rv,q1⟩=>thn (ho pins s1 σ H1 _ I1 q1) λu s2 ⟨x,H2,I2,rx,q2⟩=>thn (hi pins s2 σ H2 _ I2 q2) λiv s3 ⟨y,H3,I3,ry,a,H4,ex,g,q3⟩=>?_) hs
 subst ex
 obtain rfl:u=Value.ref a:=rx
 exact qr4 hu I3 g ry rv λs4 I4=>⟨σ,H4,I4,q3⟩
end
theorem qoj{P:Program}{w:World}{H:Hp}(h:Heap)(hb:sysModules<h.objs.size):ObjOk P w H (h.push { cls:=.type "dict",data:=.dict #[] }) h.objs.size (.dT []) :=
 ⟨Nat.zero_le _,beq_eq_false_iff_ne.mpr (Ne.symm (Nat.ne_of_lt hb)),[],.nil,_,#[],0,Heap.get?_push_size _ rfl,⟨rfl,rfl,rfl⟩,rfl,rfl,List.nodup_nil⟩
def qyv:TE:=λ_ H Q=>∀p,H p=none->Q (.ref p) (upd H p (.dT []))
section
variable {X:Cx} {pos:Pos}
theorem qwf:PE X (.Dict [] [] pos) qyv:=λpins s σ H Q I h =>
 wpAny_Dict_empty ⟨.ref s.heap.objs.size,_,I.laid (a:=s.heap.objs.size) (o:=.dT []) (t':=s.toks) (λ_ _ q=>Heap.get?_push_of_some _ q) (Nat.le_refl _) (qoj s.heap I.big),rfl,h _ (I.hok.fresh (Nat.le_refl _))⟩
end
def qyx:List (TE×TE)->St->Hp->(List (V×V)->Hp->Prop)->Prop
|[],_,H,Q=>Q [] H
|(tk,tv)::r,σ,H,Q=>tk σ H λx H1=>tv σ H1 λy H2=>qyx r σ H2 λps H3=>Q ((x,y)::ps) H3
abbrev VV:List (V×V)->List (Value×Value)->Prop:=Paired λp q=>RelV p.1 q.1/\RelV p.2 q.2
def PPs(X:Cx)(pos:Pos)(keys:List (Option Expr))(values:List Expr)(trs:List (TE×TE)):Prop :=
 ∀(pins:List (Addr×Obj)) (s:Shared) (σ:St) (H:Hp) (Q:List (V×V)->Hp->Prop),Inv X pins σ H s->qyx trs σ H Q ->
  wpAny (model X.prog X.w) X.A (evalPairs (pairTrees keys values X.env pos)) (λvs s'=>∃ps H',Inv X pins σ H' s'/\VV ps vs/\Q ps H') X.xe s
theorem q01{X:Cx}{pos:Pos}:PPs X pos [] [] []:=λpins s σ H Q I h=>pairTrees_nil_walk ⟨[],H,I,.nil,h⟩
theorem qwl{X:Cx}{pos:Pos}{k v:Expr}{ks:List (Option Expr)}{vs:List Expr}{tk tv:TE}{trs:List (TE×TE)}(hk:PE X k tk)(hv:PE X v tv)(hr:PPs X pos ks vs trs) :
  PPs X pos (some k::ks) (v::vs) ((tk,tv)::trs):=λpins s σ H Q I h =>
 pairTrees_cons_walk (thn (hk pins s σ H _ I h) λu s1 ⟨x,H1,I1,rx,q1⟩=>thn (hv pins s1 σ H1 _ I1 q1) λw2 s2 ⟨y,H2,I2,ry,q2⟩ =>
  thn (hr pins s2 σ H2 _ I2 q2) λws s3 ⟨ps,H3,I3,rel,q3⟩=>⟨(x,y)::ps,H3,I3,.cons ⟨rx,ry⟩ rel,q3⟩)
structure M1(X:Cx)(o:Expr)(m:Str)(apos:Pos)(e:Expr)(cpos:Pos):Prop where
 base:attributeBase o m X.env (eval o X.env)=eval o X.env
 few:((backTo cpos (starEach [e] X.env)).all (λx=>!x.1)&&(backToKw cpos (keywordEach [] X.env)).all (λx=>x.1.isSome)
  && decide (([e]:List Expr).length+([]:List Keyword).length+(if ([]:List Keyword).isEmpty then 0 else 1)<30))=true
 line:(apos.endLine==cpos.line)=true
 trees:backTo cpos (starEach [e] X.env)=[(false,eval e X.env)]
structure M2(X:Cx)(o:Expr)(m:Str)(apos:Pos)(e f:Expr)(cpos:Pos):Prop where
 base:attributeBase o m X.env (eval o X.env)=eval o X.env
 few:((backTo cpos (starEach [e,f] X.env)).all (λx=>!x.1)&&(backToKw cpos (keywordEach [] X.env)).all (λx=>x.1.isSome)
  && decide (([e,f]:List Expr).length+([]:List Keyword).length+(if ([]:List Keyword).isEmpty then 0 else 1)<30))=true
 line:(apos.endLine==cpos.line)=true
 trees:backTo cpos (starEach [e,f] X.env)=[(false,eval e X.env),(false,eval f X.env)]
def IsD(H:Hp)(a:Addr):Prop:=(∃kvs,Rd H a (.dK kvs))\/∃kvs,Rd H a (.dT kvs)
theorem q25{X:Cx}{pins:List (Addr×Obj)}{σ:St}{H:Hp}{s:Shared}{a:Addr}(I:Inv X pins σ H s)(d:IsD H a) :
  s.TypeIs (.ref a) "dict" /\ (∀b,Value.ref a=.ref b->∃ob,s.heap.get? b=some ob/\ob.dict=none)/\(a==sysModules)=false:=by
 rcases d with ⟨kvs,e⟩|⟨kvs,e⟩
 ·obtain⟨_,hd,vs,_,dd⟩:=qmz I.hok e
  refine⟨dd.typeIs,λb q=>?_,hd⟩
  cases q
  obtain⟨ob,_,_,h1,h2,_⟩:=dd
  exact⟨ob,h1,h2.2.1⟩
 ·obtain⟨_,hd,xs,_,dd⟩:=qk8 I.hok e
  refine⟨dd.typeIs,λb q=>?_,hd⟩
  cases q
  obtain⟨ob,_,_,h1,h2,_⟩:=dd
  exact⟨ob,h1,h2.2.1⟩
section
variable {X:Cx} {pins:List (Addr×Obj)} {σ:St} {H:Hp} {s:Shared} {a:Addr} {y d:V} {u r:Value} {o:Option V} {A:Around} {E:Value->Shared->Prop}
theorem q2w{Q:Value->Shared->Prop}(hu:A.units+1<cLine)(I:Inv X pins σ H s)(g:DGet H a y o)(ry:RelV y u)(h:∀w' s',Inv X pins σ H s'->RelV (o.getD .non) w'->Q w' s') :
  wpAny (model X.prog X.w) A (call (.builtin "dict.get") [.ref a,u]) Q E s:=by
 rcases g with ⟨kvs,k,e,ey,l⟩|⟨kvs,k,b,e,ey,eb,l⟩
 ·subst ey
  obtain⟨z,hd,vs,rel,dd⟩:=qmz I.hok e
  refine call_meetsIn PySem.F.slot_dict_get dd.typeIs PySem.F.entry_dict_get (PySem.F.args_dict_get_2 _ _) (meets_dict_get (qbs X.prog X.w) a (qqc ry) hd) ⟨_,dd.mapOf,h _ _ (I.tok _) ?_⟩
  rw[l]
  exact(rel.val k).getD rfl
 ·subst ey
  cases (show u=Value.ref b from ry)
  obtain⟨z,hd,xs,rel,dd⟩:=qk8 I.hok e
  refine call_meetsIn PySem.F.slot_dict_get dd.typeIs PySem.F.entry_dict_get (PySem.F.args_dict_get_2 _ _) (meetsH_dict_get (tupleKind (qbs X.prog X.w)) a b hd) ⟨tupleKind_room_in1 hu,k,xs,qhn I.hok eb,dd,h _ _ (I.tok _) ?_⟩
  rw[l]
  exact(rel.val k).getD rfl
end
def qyu(td ty:TE):TE:=λσ H Q=>td σ H λx H1=>∃a,x=.ref a/\IsD H1 a/\ty σ H1 λy H2=>∃o,DGet H2 a y o/\Q (o.getD .non) H2
section
variable {X:Cx} {o e f:Expr} {apos cpos:Pos} {td ty tx:TE}
theorem qwd(hu:X.A.units+1<cLine)(ho:PE X o td)(he:PE X e ty)(m:M1 X o "get" apos e cpos):PE X (.Call (.Attribute o "get" apos) [e] [] cpos) (qyu td ty):=by
 intro pins s σ H Q I h
 refine wpAny_Call_method m.base m.few m.line PySem.F.plainAttrs_dict PySem.F.slot_dict_get PySem.F.type_dict_get (thn (ho pins s σ H _ I h) λu s1 ⟨x,H1,I1,rx,a,ex,d,q1⟩=>?_)
 subst ex
 obtain rfl:u=Value.ref a:=rx
 obtain⟨t1,t2,_⟩:=q25 I1 d
 refine⟨t1,t2,?_⟩
 rw[m.trees]
 refine Calls.callWith_builtin rfl (Calls.evalArgs_plain (Calls.spliced_cons (thn (he pins s1 σ H1 _ I1 q1) λiv s2 ⟨y,H2,I2,ry,ov,g,q2⟩=>Calls.spliced_nil ?_)))
 exact q2w hu I2 g ry λw' s3 I3 rw'=>⟨_,H2,I3,rw',q2⟩
end
section
variable {X:Cx} {pins:List (Addr×Obj)} {σ:St} {H:Hp} {s:Shared} {a:Addr} {kvs:List (Key×V)} {A:Around} {E:Value->Shared->Prop}
end
section
variable {X:Cx} {pins:List (Addr×Obj)} {σ:St} {H:Hp} {s:Shared} {a:Addr} {y:V} {u:Value} {A:Around} {E:Value->Shared->Prop}
end
end L2
namespace Att
open PySem PySem.W PySem.Calls PyProof.Rows
theorem qhl{P:Params}{h:Heap}:∀(ns:List Int) (vs:List Value),WellAll P h vs (ns.map WData.int)->IntsAre vs ns:=by
 intro ns
 induction ns with
|nil =>
  intro vs w
  rw[List.map_nil] at w
  cases w
  exact .nil
|cons n ns ih =>
  intro vs w
  rw[List.map_cons] at w
  cases w with
 |cons a b =>
   cases a
   exact .cons _ _ (ih _ b)
theorem qt4{l:OpenLaw}{n:Nat}(hn:l.most=some n){P:Params}{h:Heap}{args:List WData}{vals:List Value}
  (hpre:l.row.toRowW.claim.pre args=true) (hwl:WellAll P h vals args) :
  ∃a vs ns,vals=[Value.ref a]/\args=[WData.list (ns.map WData.int)]/\h.get? a=some { cls:=.type "list",data:=.seq vs.toArray }/\IntsAre vs ns/\ns.length<=n:=by
 have hsh:WShape.hasAll [] args [.list .int]=true:=(pre_splitW hpre).1
 have hc:l.pre.holds [] { args:=args }=true:=(pre_splitW hpre).2
 obtain⟨d,r,rfl,h1,h2⟩:=hasAllW_cons hsh
 obtain rfl:=hasAllW_nil h2
 obtain⟨xs,rfl,h3⟩:=hasW_list h1
 obtain⟨ns,rfl⟩:=items_int h3
 have hlen:ns.length<=n:=by
  unfold OpenLaw.pre at hc
  have h4:(WTm.not (.lt (.lit (.int (n:Int))) (.len (.arg 0)))).holds [] { args:=[.list (ns.map .int)] }=true:=by
   have h4:=(holds_andW hc).1
   rw[hn] at h4
   exact h4
  have h5:=condW_of h4 (w_not (w_lt w_lit (w_len_list (w_arg rfl))))
  rw[List.length_map] at h5
  refine Nat.le_of_not_lt λq=>?_
  have q':(n:Int)<((ns.length:Nat):Int):=by lia
  first
  |(rw[decide_eq_true q'] at h5;exact absurd h5 (by decide))
  |(simp at h5;lia)
 cases hwl with
|cons w1 w2 =>
  cases w2
  cases w1 with
 |list ho hall=>exact⟨_,_,ns,rfl,rfl,ho,qhl ns _ hall,hlen⟩
theorem qto(l:OpenLaw)(args:List WData):l.row.toRowW.claim.post args (.bool true) args=true :=
 postW_of (r:=l.row.toRowW) (X:=(true==true))
  (show WShape.has [] (.bool true) .bool=true by first|rfl|decide|simp[WShape.has,WShape.arms,WShape.armsAll])
  (show (WTm.eq .res (.lit (.bool true))).value [] { args:=args,res:=some (.bool true),after:=args }=some (.bool (true==true)) from w_eq_bool (w_res rfl) w_lit) rfl
theorem attach_call{l:OpenLaw}{n:Nat}{q:Program}{loose:List Str}{XP:(Str->Option Value)->Heap->Prop}{YP:World->Heap->Prop}{d:DefRec}
  (hn:l.most=some n) (hdf:d.params.defaults=[])
  (call:∀(w:World) (s₀ s₁:Shared) (mg mb:Str->Option Value) (fa:Addr) (o:Obj) (pm cd doc:Value) (a:Addr) (vs:List Value) (ns:List Int),
   Ground q loose [] XP w s₀ mg mb s₁.heap->YP w s₁.heap ->
   s₁.heap.get? fa=some o->o.data=.func (docDef d.name d.params d.body d.scope pm cd doc)->s₁.heap.CodeRec cd d.name->mg d.name=some (.ref fa) ->
   s₁.heap.get? a=some { cls:=.type "list",data:=.seq vs.toArray }->IntsAre vs ns->ns.length<=n->s₁.gens=#[] ->
   codeAny (model l.prog w) callerA (.call (.ref fa) ⟨[.ref a],[]⟩) (λr s'=>r=.ok (.ret (.bool true))/\OldK s₁.heap s'.heap/\s'.os=s₁.os/\AllBare s'.gens) s₁) :
  WalkO q loose XP YP l.row.toRowW d [] (λf vs=>PySem.call f vs):=by
 intro w s₀ s₁ mg mb G Y fa o pm cd doc dV kV ho hd hcd hD hmg hg args vals as hpre hlay hrd hwl hlo
 obtain rfl:dV=.none:=Dflts.none hD hdf
 obtain rfl:kV=.none:=Dflts.noKw hD
 obtain⟨a,vs,ns,rfl,rfl,hobj,hints,hlen⟩:=qt4 hn hpre hwl
 refine enter_call (codeAny_mono (call w s₀ s₁ mg mb fa o pm cd doc a vs ns G Y ho (fd_plain hd) hcd hmg hobj hints hlen hg) λr s' hq=>?_)
 obtain⟨rfl,h2,h3,h4⟩:=hq
 exact⟨.inl ⟨.bool true,.bool true,[],rfl,λ_=>rfl,.bool true,qto l _,λ_=>⟨List.Pairwise.nil,λ_ hm=>(nomatch hm)⟩⟩,h2,h3,h4⟩
section
variable {prog:Program} {w:World} {A:Around} {E:Value->Shared->Prop} {s:Shared} {K:Frag}
end
end Att
namespace L2
open PySem PySem.Spec PyProof.Rows
theorem qma:∀ {vs:List Value} {ns:List Int},IntsAre vs ns->Vals (ns.map V.int) vs
|_,_,.nil=>.nil
|_,_,.cons n t h=>.cons ⟨t,rfl⟩ (qma h)
def Only(H:Hp):Prop:=∀b,H b=none\/∃o xs,H b=some (.frz o (.lst xs))
theorem qvt{P:Program}{w:World}{K:PySem.W.Frag}{mg mb:Str->Option Value}{CX:CXT}{k:Nat}{fa a:Addr}{fd:FuncData}{x:Str}{sp:Sp}{s₁:Shared}{vs:List Value}{ns:List Int}
  (KX:K.In s₁.heap) (hns:s₁.heap.Ns mainGlobals mg) (hb:s₁.heap.Ns builtinsNs mb) (hbb:∀x:Str,x≠"__name__" -> mb x=bootBuiltins x) (hlim:s₁.heap.NoLimit) (hg:s₁.gens=#[])
  (ha:s₁.heap.get? a=some { cls:=.type "list",data:=.seq vs.toArray }) (hi:IntsAre vs ns) (hl:ns.length<=sizeLine) (hr:Room k callerA)
  (F:∀base:Heap,K.In base->base.Ns mainGlobals mg->FnOk P w K mg base CX k fa fd [x] sp) (hbind:∀(s:Shared) (u:Value),BindsTo s fd ⟨[u],[]⟩ [(x,u)])
  (hsp:∀H:Hp,Only H->SqL K H a (ns.map V.int)->sp [.ref a] H (λv _=>v=.bl true) λ_ _ _=>False)
  (hCX:∀H e s',CX [] H s₁ (λ_ _ _=>False) e s'->False) :
  codeAny (model P w) callerA (.call (.ref fa) ⟨[.ref a],[]⟩) (λr s'=>r=.ok (.ret (.bool true))/\OldK s₁.heap s'.heap/\s'.os=s₁.os/\AllBare s'.gens) s₁:=by
 have rv:=qma hi
 have lenV:=hi.length
 have core:∀H:Hp,Only H->SqL K H a (ns.map V.int)->HOk P w H s₁.heap->(∀b,H b≠none->b=a)->(H a≠none->K.lookup a=none) ->
   codeAny (model P w) callerA (.call (.ref fa) ⟨[.ref a],[]⟩) (λr s'=>r=.ok (.ret (.bool true))/\OldK s₁.heap s'.heap/\s'.os=s₁.os/\AllBare s'.gens) s₁:=by
  intro H hO hS hok hA hK
  have base_of:∀ {b:Addr} {o:Obj},s₁.heap.get? b=some o->H b=none->(hidT s₁.heap H).get? b=some o:=λe n=>qvn e n
  have noA:∀ {b:Addr} {o:Obj} {es:Array DictEntry} {ep:Nat},s₁.heap.get? b=some o->o.data=.dict es ep->H b=none:=λ{b o es ep} e d=>by
   cases q:H b with
  |none=>rfl
  |some u =>
    have e':b=a:=hA b (by rw[q];simp)
    subst e'
    rw[ha] at e;cases e
    have d':Data.seq vs.toArray _=Data.dict es ep:=d
    cases d'
  have nsK:∀ {b:Addr} {m:Str->Option Value},s₁.heap.Ns b m->(hidT s₁.heap H).Ns b m:=λ{b m} ⟨o,es,ep,e,d,r⟩=>⟨o,es,ep,base_of e (noA e d),d,r⟩
  have hKb:K.In (hidT s₁.heap H):=λb o e=>base_of (KX b o e) (by
   cases q:H b with
  |none=>rfl
  |some u =>
    have e':b=a:=hA b (by rw[q];simp)
    subst e'
    rw[hK (by rw[q];simp)] at e;cases e)
  have hM:Mod K mg (hidT s₁.heap H):=⟨hKb,nsK hns,⟨mb,nsK hb,hbb⟩,let ⟨mc,h1,h2⟩:=hlim;⟨mc,nsK h1,h2⟩⟩
  have e0:Env0 P w K mg (hidT s₁.heap H) callerA [] s₁ H:=⟨rfl,hM,λb o e=>q0h e,Nat.le_of_eq (qsr _ _),trivial,λb hb=>absurd (show b∈([]:List Addr) from hb) (by simp),hok,.of_eq hg⟩
  refine codeAny_mono ((F _ hKb (nsK hns)).run callerA [] s₁ H ⟨[.ref a],[]⟩ [.ref a] [.ref a] _ _ hr e0 (hbind s₁ (.ref a)) (.cons rfl .nil) (hsp H hO hS)) λr s' h=>?_
  cases r with
 |error e=>exact(hCX H e s' h).elim
 |ok fl =>
   cases fl with
  |next=>exact False.elim h
  |brk=>exact False.elim h
  |cont=>exact False.elim h
  |ret u =>
    obtain⟨v,H',os,bare,un,hok',r',q⟩:=h
    have q':v=.bl true:=q
    subst q'
    obtain rfl:u=Value.bool true:=r'
    refine⟨rfl,OldK.of_keep λb o e=>?_,os,bare⟩
    cases q:H b with
   |none=>exact un.keep b o e q (by intro z;exact absurd (show b∈([]:List Addr) from z) (by simp)) (by simp)
   |some u =>
     rcases hO b with z|⟨ob,xs,z⟩
     ·rw[q] at z;cases z
     ·have z2:=un.frzs b ob _ z
      obtain⟨e1,_⟩:=hok b _ z
      obtain⟨e2,_⟩:=hok' b _ z2
      rw[e] at e1;cases e1
      exact e2
 cases hk:K.lookup a with
|some o =>
  have e:=KX a o hk
  rw[ha] at e
  cases e
  refine core (λ_=>none) (λ_=>.inl rfl) (.inr ⟨_,vs.toArray,_,hk,rfl,rfl,rfl,by rw[List.size_toArray,lenV];exact hl,by simpa using rv⟩) (λb u z=>by have z':(none:Option HO)=some u:=z;cases z') (λb z=>absurd rfl z) λz=>absurd rfl z
|none =>
  refine core (λb=>if b=a then some (.frz { cls:=.type "list",data:=.seq vs.toArray } (.lst (ns.map V.int))) else none) (λb=>?_) (.inl (.inr ⟨{ cls:=.type "list",data:=.seq vs.toArray },if_pos rfl⟩)) (λb u z=>?_) (λb z=>?_) λ_=>hk
  ·by_cases hb:b=a
   ·exact .inr ⟨_,_,if_pos hb⟩
   ·exact .inl (if_neg hb)
  ·by_cases hb:b=a
   ·have z':=(if_pos hb).symm.trans z
    cases z'
    subst hb
    exact⟨ha,by rw[List.length_map];exact hl,vs,_,rv,ha⟩
   ·have z':=(if_neg hb).symm.trans z
    cases z'
  ·by_cases hb:b=a
   ·exact hb
   ·exact absurd (if_neg hb) z
end L2
namespace L2
open PySem PySem.Spec PyProof.Rows
theorem q7r{l:PySem.W.OpenLaw}{n k:Nat}{q:Program}{loose:List Str}{XP:(Str->Option Value)->Heap->Prop}{YP:World->Heap->Prop}{d:DefRec}{K:Params->PySem.W.Frag}{CX:World->CXT}{sp:World->Sp}{x:Str}
  (hn:l.most=some n) (hn2:n<=sizeLine) (hdf:d.params.defaults=[]) (hr:Room k callerA)
  (hY:∀(w:World) (h:Heap),YP w h->(K w.params).In h)
  (F:∀(w:World) (mg:Str->Option Value) (fa:Addr) (h:Heap),(K w.params).In h->h.Ns mainGlobals mg->mg d.name=some (.ref fa) ->
   ∃fd:FuncData,(∀(s:Shared) (u:Value),BindsTo s fd ⟨[u],[]⟩ [(x,u)]) /\
    ∀base:Heap,(K w.params).In base->base.Ns mainGlobals mg->FnOk l.prog w (K w.params) mg base (CX w) k fa fd [x] (sp w))
  (hsp:∀(w:World) (H:Hp) (a:Addr) (ns:List Int),ns.length<=n->Only H->SqL (K w.params) H a (ns.map V.int)->sp w [.ref a] H (λv _=>v=.bl true) λ_ _ _=>False)
  (hCX:∀(w:World) (H:Hp) (s:Shared) (e:Value) (s':Shared),CX w [] H s (λ_ _ _=>False) e s'->False) :
  PySem.W.WalkO q loose XP YP l.row.toRowW d [] (λf vs=>PySem.call f vs):=by
 refine Att.attach_call hn hdf λw s₀ s₁ mg mb fa o pm cd doc a vs ns G Y ho hd hcd hmg hobj hints hlen hg=>?_
 have KX:=hY w _ Y
 obtain⟨fd,hb,hF⟩:=F w mg fa _ KX G.T.g hmg
 exact qvt KX G.T.g G.T.b G.T.builtins G.T.nolimit hg hobj hints (Nat.le_trans hlen hn2) hr hF hb (λH hO hS=>hsp w H a ns hlen hO hS) λH e s'=>hCX w H s₁ e s'
end L2
namespace L2
open PySem PySem.Spec PyProof.Rows
def qcx(s:Stmt):Arguments:=match s with
|.FunctionDef _ a _ _ _ _ _ _ _ _=>a
|_=>{ posonlyargs:=[],args:=[],vararg:=none,kwonlyargs:=[],kw_defaults:=[],kwarg:=none,defaults:=[] }
def qbq(s:Stmt):List Stmt:=match s with
|.FunctionDef _ _ b _ _ _ _ _ _ _=>b
|_=>[]
def qaf(s:Stmt):Scope:=match s with
|.FunctionDef _ _ _ _ _ _ sc _ _ _=>sc
|_=>{ kind:=.function,names:=[],isGenerator:=false,isCoroutine:=false }
abbrev CX0:CXT:=λ_ _ _ _ _ _=>False
abbrev E0:XK:=λ_ _ _=>False
theorem q6q{X:Cx}:qgj CX0 X E0:=λ_ _ _ _ _ _ _ h=>h.elim
structure Fun(K:PySem.W.Frag)(x qual:Str)(st:Stmt)(f:Addr)(fd:FuncData):Prop where
 ex:∃(oc:Value) (od:Option Addr) (kV doc pm:Value) (an:Option Addr) (cdv ct:Value) (osl:Array (Option Value)),
  fd=PySem.W.fnOf x qual (qcx st) (qbq st) (qaf st) .none kV doc pm an cdv ct/\K.lookup f=some ⟨oc,od,.func fd,osl⟩/\PySem.W.codeIn K cdv qual=true
 kp:PySem.W.keepIn K (.ref f)=true
section
variable {P:Program} {w:World} {K:PySem.W.Frag} {mg:Str->Option Value} {base:Heap}
theorem Fun.ok{x qual:Str}{st:Stmt}{f:Addr}{fd:FuncData}{N ps:List Str}{k:Nat}{sp:Sp}(F:Fun K x qual st f fd)(S:FnScope N ps (qaf st))(len:∀vs H Q E,sp vs H Q E->vs.length=ps.length)
  (hbody:∀(cdv:Value) (A:Around) (outer:List Env) (s:Shared) (H:Hp) (vs:List V) (Q:VK) (E:XK),Room k (A.deeper (envOfC qual (qaf st) s.heap.objs.size f cdv))->sp vs H Q E ->
   ∃t,PSs (cxOf CX0 P w K mg base N qual (qaf st) f cdv A outer s H E).nox (qbq st) t/\t { nx:=λ_ H'=>Q .non H',rt:=Q } (start N vs) H):FnOk P w K mg base CX0 (k+1) f fd ps sp:=by
 obtain⟨oc,od,kV,doc,pm,an,cdv,ct,osl,rfl,lk,hcd⟩:=F.ex
 refine q20 lk hcd S len λA outer s H vs Q E hr hsp=>?_
 obtain⟨t,h,q⟩:=hbody cdv A outer s H vs Q E hr hsp
 exact⟨t,h.nox,q⟩
theorem Fun.binds{x qual:Str}{st:Stmt}{f:Addr}{fd:FuncData}{ps:List Str}(F:Fun K x qual st f fd)
  (h:∀(kV doc pm:Value) (an:Option Addr) (cdv ct:Value) (us:List Value),us.length=ps.length->bindArgs (PySem.W.fnOf x qual (qcx st) (qbq st) (qaf st) .none kV doc pm an cdv ct) ⟨us,[]⟩=pure (ps.zip us)):Binds K fd ps []:=by
 obtain⟨oc,od,kV,doc,pm,an,cdv,ct,osl,rfl,lk,hcd⟩:=F.ex
 exact .all (h kV doc pm an cdv ct)
theorem qyb{x qual:Str}{st:Stmt}{f:Addr}{oc:Value}{od an:Option Addr}{osl:Array (Option Value)}{kV doc pm cdv ct:Value}(l:K.lookup f=some ⟨oc,od,.func (PySem.W.fnOf x qual (qcx st) (qbq st) (qaf st) .none kV doc pm an cdv ct),osl⟩)
  (c:PySem.W.codeIn K cdv qual=true) (k:PySem.W.keepIn K (.ref f)=true):Fun K x qual st f (PySem.W.fnOf x qual (qcx st) (qbq st) (qaf st) .none kV doc pm an cdv ct):=⟨⟨oc,od,kV,doc,pm,an,cdv,ct,osl,rfl,l,c⟩,k⟩
end
section
variable {X:Cx}
end
theorem iteF{A B:Prop}(h:B):if false=true then A else B:=by
 rw[if_neg Bool.false_ne_true]
 exact h
theorem iteT{A B:Prop}(h:A):if true=true then A else B:=by
 rw[if_pos rfl]
 exact h
def Same(H H':Hp):Prop:=∀b o,H b=some o->H' b=some o
theorem Same.refl(H:Hp):Same H H:=λ_ _ h=>h
theorem Same.trans{H H1 H2:Hp}(a:Same H H1)(b:Same H1 H2):Same H H2:=λc o h=>b c o (a c o h)
theorem Same.free{H H':Hp}(e:Same H H'){l:Addr}(h:H' l=Option.none):H l=Option.none:=by
 cases q:H l with
|none=>rfl
|some o =>
  rw[e l o q] at h
  cases h
theorem Same.seq{K:PySem.W.Frag}{H H':Hp}{a:Addr}{xs:List V}(e:Same H H')(h:SqL K H a xs):SqL K H' a xs:=by
 rcases h with (h|⟨o,h⟩)|h
 ·exact .inl (.inl (e _ _ h))
 ·exact .inl (.inr ⟨o,e _ _ h⟩)
 ·exact .inr h
end L2
namespace L2
open PySem PySem.Spec PyProof.Rows
theorem qb4:1000<=sizeLine:=by decide
theorem qav{H:Hp}{l:Addr}(h:H l=none)(o:HO):Same H (upd H l o):=λb u e=>by
 rw[qar (qbb e h)]
 exact e
theorem Same.put{H H':Hp}{p:Addr}{o:HO}(e:Same H H')(h:H p=none):Same H (upd H' p o):=λb u q=>by
 rw[qar (qbb q h)]
 exact e b u q
theorem qce{α:Type}{xs:List α}{k:Int}(h0:0<=k)(h1:k<(xs.length:Int)):∃v,atI xs k=some v/\xs[k.toNat]?=some v:=by
 have hk:k.toNat<xs.length:=by lia
 have e:xs[k.toNat]?=some xs[k.toNat]:=List.getElem?_eq_getElem hk
 refine⟨xs[k.toNat],?_,e⟩
 have:=qzb e
 rw[Int.toNat_of_nonneg h0] at this
 exact this
theorem q2r{α β:Type}{f:α->β}{xs:List α}{k:Int}{v:α}(h:atI xs k=some v):atI (xs.map f) k=some (f v):=by
 unfold atI at h ⊢
 rw[List.length_map]
 cases e:ixN xs.length k with
|none =>
  rw[e] at h
  cases h
|some j =>
  rw[e] at h
  have h':xs[j]?=some v:=h
  show (xs.map f)[j]?=some (f v)
  rw[List.getElem?_map,h']
  rfl
def cutL{α:Type}(xs:List α)(lo hi:Option Int):List α:=(xs.drop (HT.sIx xs.length 0 lo)).take (HT.sIx xs.length xs.length hi-HT.sIx xs.length 0 lo)
theorem qvj{α:Type}(f:α->V)(xs:List α)(lo hi:Option Int):cutV (xs.map f) lo hi=(cutL xs lo hi).map f:=by
 unfold cutV cutL
 rw[List.length_map,List.map_take,List.map_drop]
theorem qfj{α:Type}(xs:List α):cutL xs none (some (-1))=xs.dropLast:=by
 unfold cutL
 rw[HT.sIx_none]
 show (xs.drop 0).take ((if (-1:Int)<0 then ((-1:Int)+(xs.length:Int)).toNat else min (-1:Int).toNat xs.length)-0)=xs.dropLast
 rw[if_pos (by decide),List.drop_zero,List.dropLast_eq_take]
 congr 1
 lia
theorem qhg{α:Type}(xs:List α)(k:Nat):cutL xs none (some (k:Int))=xs.take k:=by
 unfold cutL
 rw[HT.sIx_none,HT.sIx_nat,List.drop_zero,Nat.sub_zero]
 by_cases h:k<=xs.length
 ·rw[Nat.min_eq_left h]
 ·rw[Nat.min_eq_right (by lia),List.take_length,List.take_of_length_le (by lia)]
theorem qeg{α:Type}(xs:List α)(k:Nat):cutL xs (some (k:Int)) none=xs.drop k:=by
 unfold cutL
 rw[HT.sIx_none,HT.sIx_nat]
 by_cases h:k<=xs.length
 ·rw[Nat.min_eq_left h,List.take_of_length_le (by rw[List.length_drop];lia)]
 ·rw[Nat.min_eq_right (by lia),List.drop_length,List.drop_of_length_le (by lia),List.take_nil]
def Its(z:Str):It:=⟨λi _=>i<z.cps.size,λi H x H'=>H'=H/\∃c,z.cps[i]?=some c/\x=.str ⟨#[c]⟩,λi _=>z.cps.size<=i⟩
theorem qq4{P:Program}{w:World}{K:PySem.W.Frag}{tg:Expr}(it:Addr)(z:Str)(t:Tok):Turn P w K tg (Its z) [it] it (λi h=>h.IsStrIter it "str_ascii_iterator" z t i) where
 mem:=by simp
 obj:=λi h st b hb=>by
  have e:b=it:=by simpa using hb
  subst e
  obtain⟨o,e,c,d⟩:=st
  exact⟨o,e,λv z=>by rw[d] at z;cases z⟩
 keep:=λi h h' st k=>by
  obtain⟨o,e,r⟩:=st
  exact⟨o,k it (by simp) o e,r⟩
 item:=by
  intro X hP hw hK hc i pins s σ H E I hf st hg
  subst hP hw hK
  obtain⟨f0,f1,f2,f3,f4,f5⟩:=hf it (by simp)
  have hx:z.cps[i]?=some z.cps[i]:=Array.getElem?_eq_getElem hg
  refine wpAny_pyNext_ascii_item st hx λh' st' sb=>?_
  have I1:Inv X pins σ H { s with heap:=h',toks:=s.toks+1 }:=I.turned (λb o hb e=>(sb.2 b hb).trans e) f0 f1 f3 f4 f5
  obtain⟨o,e,c,d⟩:=id st'
  exact⟨_,rfl,qqb (s:={ s with heap:=h',toks:=s.toks+1 }) e c d (by decide) ⟨.str ⟨#[z.cps[i]]⟩,H,I1,⟨_,rfl⟩,⟨rfl,_,hx,rfl⟩,st',λb hb=>(hf b hb).1⟩⟩
 done:=by
  intro X hP hw hK hc i pins s σ H E I hf st hg
  subst hP hw hK
  obtain⟨f0,f1,f2,f3,f4,f5⟩:=hf it (by simp)
  exact wpAny_pyNext_ascii_end (I.ok.hd hc) st (Array.getElem?_eq_none hg) λh' eb=>⟨rfl,I.turned (t':=s.toks) (λb o hb e=>eb b o hb e) f0 f1 f3 f4 f5⟩
 self:=λ_ _ _ _ _ st h=>wpAny_pyIter_striter_ascii st h
theorem que{P:Program}{w:World}{K:PySem.W.Frag}{tg:Expr}(it:Addr)(z:Str)(t:Tok):Turn P w K tg (Its z) [it] it (λi h=>h.IsStrIter it "str_iterator" z t i) where
 mem:=by simp
 obj:=λi h st b hb=>by
  have e:b=it:=by simpa using hb
  subst e
  obtain⟨o,e,c,d⟩:=st
  exact⟨o,e,λv z=>by rw[d] at z;cases z⟩
 keep:=λi h h' st k=>by
  obtain⟨o,e,r⟩:=st
  exact⟨o,k it (by simp) o e,r⟩
 item:=by
  intro X hP hw hK hc i pins s σ H E I hf st hg
  subst hP hw hK
  obtain⟨f0,f1,f2,f3,f4,f5⟩:=hf it (by simp)
  have hx:z.cps[i]?=some z.cps[i]:=Array.getElem?_eq_getElem hg
  refine wpAny_pyNext_wide_item st hx λh' st' sb=>?_
  have I1:Inv X pins σ H { s with heap:=h',toks:=s.toks+1 }:=I.turned (λb o hb e=>(sb.2 b hb).trans e) f0 f1 f3 f4 f5
  obtain⟨o,e,c,d⟩:=id st'
  exact⟨_,rfl,qqb (s:={ s with heap:=h',toks:=s.toks+1 }) e c d (by decide) ⟨.str ⟨#[z.cps[i]]⟩,H,I1,⟨_,rfl⟩,⟨rfl,_,hx,rfl⟩,st',λb hb=>(hf b hb).1⟩⟩
 done:=by
  intro X hP hw hK hc i pins s σ H E I hf st hg
  subst hP hw hK
  obtain⟨f0,f1,f2,f3,f4,f5⟩:=hf it (by simp)
  exact wpAny_pyNext_wide_end (I.ok.hd hc) st (Array.getElem?_eq_none hg) λh' eb=>⟨rfl,I.turned (t':=s.toks) (λb o hb e=>eb b o hb e) f0 f1 f3 f4 f5⟩
 self:=λ_ _ _ _ _ st h=>wpAny_pyIter_striter_wide st h
section
variable {X:Cx} {tg:Expr}
end
def qaq:Expr->Bool
|.Starred ..=>false
|_=>true
theorem qa9{e:Expr}{es:List Expr}{env:Env}(h:qaq e=true):starEach (e::es) env=(false,eval e env)::starEach es env:=by
 cases e<;>first|rfl|(exact absurd h Bool.false_ne_true)
theorem qfd{env:Env}:∀ {es:List Expr},es.all qaq=true->starEach es env=es.map λe=>(false,eval e env)
|[],_=>rfl
|e::es,h=>by
  rw[List.all_cons,Bool.and_eq_true] at h
  rw[qa9 h.1,qfd h.2,List.map_cons]
theorem qcj{es:List Expr}{env:Env}{pos:Pos}(h:es.all qaq=true):(backTo pos (starEach es env)).any (·.1)=false:=by
 rw[qfd h]
 unfold backTo
 rw[List.map_map,List.any_eq_false]
 intro p hp
 obtain⟨e,_,rfl⟩:=List.mem_map.mp hp
 exact Bool.false_ne_true
theorem qxb{es:List Expr}{env:Env}{pos:Pos}(h:es.all qaq=true):(backTo pos (starEach es env)).all (λx=>!x.1)=true:=by
 rw[qfd h]
 unfold backTo
 rw[List.map_map,List.all_eq_true]
 intro p hp
 obtain⟨e,_,rfl⟩:=List.mem_map.mp hp
 rfl
section
variable {X:Cx} {x:Str} {p pos:Pos} {e:Expr} {es:List Expr} {te:TE} {t:TA} {id T:String} {r:List V->Hp->VK->Prop}
theorem pac(ha:PE X e te)(hr:PA X es t)(hs:qaq e=true:=by rfl):PA X (e::es) (qxc te t):=q0q ha hr (qa9 hs)
theorem all2{e:Expr}{es:List Expr}(h:(e::es).all qaq=true):qaq e=true/\es.all qaq=true:=by
 rw[List.all_cons,Bool.and_eq_true] at h
 exact h
theorem pcb(hc:CallR X (.builtin id) r)(hg:Gl X x)(hm:X.mg x=none)(hv:bootBuiltins x=some (.builtin id))(ha:PA X (e::es) t)(hp:(e::es).all qaq=true:=by rfl)(hn:x≠"__name__" := by decide)(hdb:(x==("__debug__" : Str))=false:=by decide) :
  PE X (.Call (.Name x p) (e::es) [] pos) (tCB r t):=qwb hc hg hm hv ha hn hdb (qa9 (all2 hp).1) (qcj (all2 hp).2)
theorem pct(hc:CallR X (.type T) r)(hg:Gl X x)(hm:X.mg x=none)(hv:bootBuiltins x=some (.type T))(ha:PA X (e::es) t)(hp:(e::es).all qaq=true:=by rfl)(hn:x≠"__name__" := by decide)(hdb:(x==("__debug__" : Str))=false:=by decide) :
  PE X (.Call (.Name x p) (e::es) [] pos) (tCB r t):=qtm hc hg hm hv ha hn hdb (qa9 (all2 hp).1) (qcj (all2 hp).2)
theorem pbm{o:Expr}{to:TE}{name:Str}{apos cpos:Pos}{r:V->List V->Hp->VK->Prop}(pa:PlainAttrs T)(slot:Slot T name id)(hty:typeOf (.builtin id)=pure (.type "method_descriptor"))(hm:MtR X id r)(ho:PE X o to)(ha:PA X (e::es) t)
  (hp:(e::es).all qaq=true:=by rfl) (hfew:decide ((e::es).length<30)=true:=by rfl) (hbase:attributeBase o name X.env (eval o X.env)=eval o X.env:=by rfl) (hline:(apos.endLine==cpos.line)=true:=by rfl) :
  PE X (.Call (.Attribute o name apos) (e::es) [] cpos) (tBM X.K T r to t):=by
 refine q6t pa slot hty hm ho ha hbase ?_ hline (qa9 (all2 hp).1) (qcj (all2 hp).2)
 rw[qxb hp]
 exact hfew
theorem q6y{tg a:Expr}{ta:TA}(hg:Gl X "range")(hm:X.mg "range" = none)(ha:PA X [a] ta)(hp:qaq a=true:=by rfl):PI X tg (.Call (.Name "range" p) [a] [] pos) (qzt ta):=qtn hg hm ha (qa9 hp)
end
inductive Cal(P:Program)(w:World)(K:PySem.W.Frag)(mg:Str->Option Value)(base:Heap)(k:Nat)(x:Str)(ps:List Str)(sp:Sp):Prop where
|mk {f:Addr} {fd:FuncData} (F:FnOk P w K mg base CX0 k f fd ps sp) (hm:mg x=some (.ref f)) (hk:PySem.W.keepIn K (.ref f)=true) (hb:Binds K fd ps [])
section
variable {X:Cx} {k:Nat} {ps:List Str} {sp:Sp} {x:Str} {p pos:Pos} {e:Expr} {es:List Expr} {t:TA}
theorem q35(C:Cal X.prog X.w X.K X.mg X.base k x ps sp)(hr:Room k X.A)(hg:Gl X x)(ha:PA X (e::es) t)(hp:(e::es).all qaq=true:=by rfl)(hdb:(x==("__debug__" : Str))=false:=by decide):PE X (.Call (.Name x p) (e::es) [] pos) (qua sp [] E0 t):=by
 cases C with
|mk F hm hk hb=>exact qnq F hr hg hm hk hb .nil q6q ha hdb (qa9 (all2 hp).1) (qcj (all2 hp).2)
end
section
variable {X:Cx}
end
theorem qvs{K:PySem.W.Frag}{T:String}:PySem.W.kitOne K (.type T) (.type T)=some true:=by
 unfold PySem.W.kitOne
 rw[if_pos (by simp)]
theorem range_all(bs:List Bool):(List.range bs.length).all (λi=>bs.getD i true)=bs.all id:=by
 have e:(List.range bs.length).map (λi=>bs.getD i true)=bs:=by
  apply List.ext_getElem
  ·simp
  ·intro i h1 h2
   simp[List.getD_eq_getElem?_getD,h2]
 calc (List.range bs.length).all (λi=>bs.getD i true)=((List.range bs.length).map (λi=>bs.getD i true)).all id:=by rw[List.all_map];rfl
  _=bs.all id:=by rw[e]
section
variable {X:Cx}
theorem qms{A:Around}{bs:List Bool}{its:List Value}(r:Vals (bs.map V.bl) its):TruthOf X.prog X.w A (λi v=>its.toArray[i]?=some v) (λi=>bs.getD i true):=by
 intro i v s Q E hv q
 have hv':its[i]?=some v:=by simpa using hv
 have hl:=r.length
 rw[List.length_map] at hl
 have hi:i<bs.length:=by
  rw[hl]
  exact(List.getElem?_eq_some_iff.mp hv').1
 have e:(bs.map V.bl)[i]?=some (.bl bs[i]):=by rw[List.getElem?_map,List.getElem?_eq_getElem hi];rfl
 obtain⟨u,hu,ru⟩:=r.get e
 rw[hv'] at hu
 cases hu
 cases (show v=Value.bool bs[i] from ru)
 refine wpAny_truthy_bool ?_
 have e2:bs.getD i true=bs[i]:=by simp[List.getD_eq_getElem?_getD,hi]
 have q':Q (bs.getD i true) s:=q
 rw[e2] at q'
 exact q'
theorem qrx(hc:X.calm=true):CallR X (.builtin "all") (λxs H Q=>∃(p:Addr) (bs:List Bool),xs=[.ref p]/\SqL X.K H p (bs.map V.bl)/\Q (.bl (bs.all id)) H):=by
 intro pins s σ H xs us Q I r h
 obtain⟨p,bs,rfl,hq,q⟩:=h
 obtain⟨u,rfl,rx⟩:=vals1 r
 cases rx
 obtain⟨its,rv,pl,hz⟩:=I.list hq
 have hlt:p<s.heap.objs.size:=by
  obtain⟨_,_,e,_⟩:=pl
  exact Heap.lt_size e
 have hl:=rv.length
 rw[List.length_map] at hl
 have hA:X.A.in1.handled=none:=I.ok.hd hc
 refine call_all_walk (wpAny_pyIter_list pl.isList ?_)
 refine⟨s.heap.objs.size,_,_,its.toArray.size,_,_,λi=>bs.getD i true,rfl,Walks.list hA s.heap.objs.size p (Nat.ne_of_lt hlt) its.toArray,⟨⟨_,Heap.get?_push_size _ rfl,rfl,rfl⟩,pl.isList.push _⟩,qms rv,λh' tk kp=>?_⟩
 refine⟨.bl (bs.all id),H,I.kept (t':=tk) (λb o e=>kp b o (λz=>?_) (Heap.get?_push_of_some _ e)),?_,q⟩
 ·have e1:b=s.heap.objs.size:=by simpa using z
  exact absurd (e1▸Heap.lt_size e) (Nat.lt_irrefl _)
 ·rw[List.size_toArray,←hl,range_all]
  rfl
theorem qn0:∀ {ys:List Str} {us:List Value},Vals (ys.map V.str) us->∃l:List (Str×Tok),us=strValues l/\l.map (·.1)=ys
|[],_,r=>by
  cases r
  exact⟨[],rfl,rfl⟩
|y::ys,_,r=>by
  rw[List.map_cons] at r
  cases r with
 |cons r1 r2 =>
   obtain⟨t,e⟩:=r1
   subst e
   obtain⟨l,e1,e2⟩:=qn0 r2
   subst e1
   exact⟨(y,t)::l,rfl,by rw[List.map_cons,e2]⟩
abbrev glue(sep:Str)(ys:List Str):Str:=Txt.join sep ys
theorem qoo(sep:Str)(ys:List Str):(glue sep ys).length<=(ys.map (·.length)).sum+ys.length*sep.length:=by
 show (Builtin.Str.glued sep ys).length<=_
 rw[StrLaws.glued_eq_join]
 exact StrLaws.join_length_le sep ys
theorem q0c:MtM X "str.join" (λx vs H Q=>∃(sep:Str) (l:Addr) (ys:List Str),x=.str sep/\vs=[.ref l]/\SqL X.K H l (ys.map V.str)/\(ys.map (·.length)).sum+ys.length*sep.length<=16777216/\Q (.str (glue sep ys)) H):=by
 intro pins s σ H x vs v us Q I rx rv h
 obtain⟨sep,l,ys,rfl,rfl,hq,hz,q⟩:=h
 obtain⟨t,rfl⟩:=rx
 obtain⟨u,rfl,ru⟩:=rv.one
 cases ru
 obtain⟨its,r,pl,_⟩:=I.list hq
 obtain⟨ts,e1,e2⟩:=qn0 r
 subst e1
 refine SC.join pl.isList e2 ?_ λt' k=>⟨.str (glue sep ys),H,I.tok k,⟨t',rfl⟩,q⟩
 unfold JoinOk
 rw[StrLaws.joinTotal]
 have:Builtin.Str.tooLong ((ys.map (·.length)).sum+ys.length*sep.length)=false:=by
  unfold Builtin.Str.tooLong
  rw[sizeLine_eq]
  exact decide_eq_false (by lia)
 rw[this]
 rfl
theorem part_of{v:Value}{o:Option Int}(p:IsPart v o):∃l:Option (Int×Tok),v=partValue l/\l.map (·.1)=o:=by
 cases p with
|none=>exact⟨none,rfl,rfl⟩
|int i t=>exact⟨some (i,t),rfl,rfl⟩
theorem sl_str:SlR X (λx lo hi H Q=>∃z,x=.str z/\z.length<=sizeLine/\Q (.str (Txt.slice z lo hi)) H):=by
 intro pins s σ H x v vl vu lo hi sl Q I rx hs pl pu h
 obtain⟨z,rfl,hz,q⟩:=h
 obtain⟨t,rfl⟩:=rx
 obtain⟨l,e1,e2⟩:=part_of pl
 obtain⟨u,e3,e4⟩:=part_of pu
 subst e1 e2 e3 e4
 refine⟨"str",_,F.slot_str_getitem.lookup,typeIs_str _ _ _,?_⟩
 refine wpAny_getItem_str_slice (l:=l) (u:=u) (st:=none) hs rfl ?_
 exact post_val_or_str ⟨Nat.le_trans (Txt.slice_le z _ _) hz,λt' k=>⟨.str (Txt.slice z (l.map (·.1)) (u.map (·.1))),H,I.tok k,⟨t',rfl⟩,q⟩⟩
end
end L2
namespace HT
open PySem PyProof.Rows
section
variable {prog:Program} {w:World} {A:Around} {E:Value->Shared->Prop} {s:Shared}
theorem getItem_tuple_whole{t sl:Addr}{items:Array Value}{vl vu:Value}{lo hi:Option Int}{Q:Value->Shared->Prop}(ht:IsTup s.heap t items)(hs:s.heap.IsSliceOf sl vl vu .none)(pl:IsPart vl lo)(pu:IsPart vu hi)
  (hw:sIx items.size 0 lo=0/\sIx items.size items.size hi=items.size) (h:Q (.ref t) s):wpAny (model prog w) A (getItem (.ref t) (.ref sl)) Q E s:=by
 obtain⟨os,hos,hcs,hds⟩:=id hs
 have hTs:s.TypeIs (.ref sl) "slice" := ⟨os,hos,hcs⟩
 unfold getItem
 try with_reducible refine wpAny_holding ?_
 first|refine wpAny_bind (wpAny_pure ?_)|skip
 refine wpAny_bind (wpAny_sequenceKey ht.typeIs (by decide) ?_)
 refine wpAny_bind (wpAny_callSpecial?_slot (name:=Str.ofString "__getitem__") ht.typeIs PyProof.Rows.slot_tuple_getitem
  (wpAny_call_entry PyProof.Rows.slot_tuple_getitem ht.typeIs entry_tuple_getitem ?_ (args_tuple_getitem _ _)))
 show wpAny _ _ (Builtin.Tuple.tupleItemsOf (.ref t) >>= _) _ _ s
 refine wpAny_bind (tupleItemsOf_ ht ?_)
 refine wpAny_bind (wpAny_typeOf hTs ?_)
 rw[if_pos (by decide)]
 refine wpAny_bind (qd8 hs pl pu ?_)
 have hyes:(((sIx items.size 0 lo:Nat):Int)==0&&(1:Int)==1&&(sIx items.size items.size hi-sIx items.size 0 lo)==items.size)=true:=by
  rw[hw.1,hw.2]
  simp
 show wpAny _ _ (if (((sIx items.size 0 lo:Nat):Int)==0&&(1:Int)==1&&(sIx items.size items.size hi-sIx items.size 0 lo)==items.size)=true then _ else _) _ _ s
 rw[if_pos hyes]
 refine wpAny_bind (m:=Builtin.Tuple.tupleIsExact _) ?_
 unfold Builtin.Tuple.tupleIsExact
 refine wpAny_bind (wpAny_typeOf ht.typeIs (wpAny_pure ?_))
 rw[if_pos (by decide)]
 exact wpAny_bind (wpAny_rule (wpAny_pure ⟨_,rfl,wpAny_pure h⟩))
end
end HT
namespace L2
open PySem PySem.Spec PyProof.Rows
section
variable {X:Cx}
end
theorem qdl{env:Env}{x:Str}{k:NameKind}:∀ {names:List (Str×NameKind)},
  (names.map λ(n,k)=>if (k==NameKind.free&&env.scope.kind==.function&&env.kindOf n==some .cell) then (n,NameKind.cell) else (n,k)).lookup x=some k->names.lookup x=some k\/(names.lookup x=some .free/\k=.cell)
|[],h=>by simp at h
|(n,k0)::r,h=>by
  have ih:=@qdl env x k r
  rw[List.map_cons] at h
  have h:List.lookup x ((if (k0==NameKind.free&&env.scope.kind==.function&&env.kindOf n==some .cell)=true then (n,NameKind.cell) else (n,k0))::_)=some k:=h
  by_cases hc:(k0==NameKind.free&&env.scope.kind==.function&&env.kindOf n==some .cell)=true
  ·rw[if_pos hc,List.lookup_cons] at h
   rw[List.lookup_cons]
   cases hx:x==n with
  |true =>
    rw[hx] at h
    have e:NameKind.cell=k:=Option.some.inj h
    subst e
    have e0:k0=.free:=by
     rw[Bool.and_eq_true,Bool.and_eq_true] at hc
     exact eq_of_beq hc.1.1
    subst e0
    exact .inr ⟨rfl,rfl⟩
  |false =>
    rw[hx] at h
    exact ih h
  ·rw[if_neg hc,List.lookup_cons] at h
   rw[List.lookup_cons]
   cases hx:x==n with
  |true =>
    rw[hx] at h
    exact .inl h
  |false =>
    rw[hx] at h
    exact ih h
theorem qcw{csc:Scope}{env:Env}{x:Str}{k:NameKind}(h:(relabel csc env).names.lookup x=some k):csc.names.lookup x=some k\/(csc.names.lookup x=some .free/\k=.cell):=qdl h
theorem qp7{csc:Scope}{env:Env}(h:∀y∈csc.names,y.2=.free->∃c,env.cells.lookup y.1=some c) :
  ∃cl,closureFor csc env=pure cl/\(∀x c,cl.lookup x=some c->env.cells.lookup x=some c)/\∀y∈csc.names,y.2=.free->∃c,cl.lookup y.1=some c:=by
 have key:∀(body:Str×NameKind->List (Str×Addr)->Sem (ForInStep (List (Str×Addr)))),
   (∀n k acc,body (n,k) acc=if (k==.free)=true then (cellOf env n >>= λc=>pure (ForInStep.yield ((n,c)::acc))) else pure (ForInStep.yield acc)) ->
   ∀(l:List (Str×NameKind)) (acc:List (Str×Addr)),(∀y∈l,y.2=.free->∃c,env.cells.lookup y.1=some c)->(∀x c,acc.lookup x=some c->env.cells.lookup x=some c) ->
   ∃cl,(forIn l acc body:Sem (List (Str×Addr)))=pure cl/\(∀x c,cl.lookup x=some c->env.cells.lookup x=some c)/\(∀y∈l,y.2=.free->∃c,cl.lookup y.1=some c)/\∀x c,acc.lookup x=some c->∃c',cl.lookup x=some c':=by
  intro body hb l
  induction l with
 |nil =>
   intro acc _ ha
   exact⟨acc,rfl,ha,λy hy=>(nomatch hy),λx c e=>⟨c,e⟩⟩
 |cons p r ih =>
   intro acc hl ha
   obtain⟨n,k⟩:=p
   have hr:∀y∈r,y.2=.free->∃c,env.cells.lookup y.1=some c:=λy hy=>hl y (List.mem_cons_of_mem _ hy)
   by_cases hk:k=.free
   ·subst hk
    obtain⟨c,hc⟩:=hl (n,.free) List.mem_cons_self rfl
    have ha':∀x d,((n,c)::acc).lookup x=some d->env.cells.lookup x=some d:=λx d e=>by
     rw[List.lookup_cons] at e
     cases hx:x==n with
    |true =>
      rw[hx] at e
      have e1:c=d:=Option.some.inj e
      subst e1
      rw[eq_of_beq hx]
      exact hc
    |false =>
      rw[hx] at e
      exact ha x d e
    obtain⟨cl,e1,e2,e3,e4⟩:=ih ((n,c)::acc) hr ha'
    refine⟨cl,?_,e2,λy hy hf=>?_,λx d e=>?_⟩
    ·rw[List.forIn_cons,hb,if_pos (by rfl)]
     have ec:cellOf env n=pure c:=by
      unfold cellOf
      rw[hc]
     rw[ec]
     exact e1
    ·rcases List.mem_cons.mp hy with e|hy
     ·subst e
      exact e4 n c (by rw[List.lookup_cons,beq_self_eq_true])
     ·exact e3 y hy hf
    ·cases hx:x==n with
    |true=>exact e4 x c (by rw[List.lookup_cons,hx])
    |false=>exact e4 x d (by rw[List.lookup_cons,hx];exact e)
   ·obtain⟨cl,e1,e2,e3,e4⟩:=ih acc hr ha
    refine⟨cl,?_,e2,λy hy hf=>?_,e4⟩
    ·have hk':(k==NameKind.free)=false:=by simpa using hk
     rw[List.forIn_cons,hb,hk',if_neg Bool.false_ne_true]
     exact e1
    ·rcases List.mem_cons.mp hy with e|hy
     ·subst e
      exact absurd hf hk
     ·exact e3 y hy hf
 obtain⟨cl,e1,e2,e3,_⟩:=key (λp acc=>if (p.2==.free)=true then (cellOf env p.1 >>= λc=>pure (ForInStep.yield ((p.1,c)::acc))) else pure (ForInStep.yield acc)) (λn k acc=>rfl) csc.names [] h (λx c e=>by simp at e)
 refine⟨cl,?_,e2,e3⟩
 have e4:closureFor csc env=(forIn csc.names [] (λp acc=>if (p.2==.free)=true then (cellOf env p.1 >>= λc=>pure (ForInStep.yield ((p.1,c)::acc))) else pure (ForInStep.yield acc)) >>= λcs=>pure cs):=rfl
 rw[e4,e1]
 rfl
structure CompScope(sc:Scope)(N NB M:List Str)(csc:Scope):Prop where
 kind:csc.kind=.function
 nocell:∀y∈csc.names,y.2≠.cell
 locs:∀y∈csc.names,y.2=.local->csc.names.lookup y.1=some .local
 free:∀y∈csc.names,y.2=.free->sc.names.lookup y.1=some .cell\/sc.names.lookup y.1=some .free
 nd:NB.Nodup
 len:NB.length=N.length+M.length
 old:∀p∈N.zip NB,csc.names.lookup p.2≠some .local/\(csc.names.lookup p.2=none\/p.1=p.2)
theorem CompScope.at{sc:Scope}{N NB M:List Str}{csc:Scope}(S:CompScope sc N NB M csc){i:Nat}{x:Str}(e:NB[i]?=some x)(hi:i<N.length):csc.names.lookup x≠some .local/\(csc.names.lookup x≠none->N[i]?=some x):=by
 have e1:N[i]?=some N[i]:=List.getElem?_eq_getElem hi
 have hm:(N[i],x)∈N.zip NB:=by
  apply List.mem_of_getElem? (i:=i)
  rw[List.getElem?_zip_eq_some]
  exact⟨e1,e⟩
 obtain⟨h1,h2⟩:=S.old _ hm
 refine⟨h1,λhn=>?_⟩
 rcases h2 with h2|h2
 ·exact absurd h2 hn
 ·rw[e1]
  exact congrArg some h2
def cxC(X:Cx)(NB:List Str)(csc:Scope)(cl:List (Str×Addr))(C:Addr)(s₀:Shared)(H₀:Hp)(fp:List Addr)(pn:List (Addr×Obj)):Cx where
 prog:=X.prog
 w:=X.w
 K:=X.K
 mg:=X.mg
 base:=X.base
 A:=X.A
 N:=NB
 s₀:=s₀
 H₀:=H₀
 env:=compEnvC csc cl C X.env
 outer:=X.stack
 stack:=X.stack
 ex:=fp
 fn:=λ_=>false
 calm:=X.calm
 pn:=pn
 xe:=λ_ _=>False
section
variable {X:Cx} {pins:List (Addr×Obj)} {σ:St} {H₀:Hp} {s₀:Shared} {NB M:List Str} {csc:Scope} {cl:List (Str×Addr)} {fp:List Addr}
theorem qp9{h₁:Heap}{tk:Nat}{m:Str->Option Value}(S:CompScope X.env.scope X.N NB M csc)(I:Inv X pins σ H₀ s₀)(hf:∀b∈fp,FpOk X pins H₀ b)(hlt:∀b∈fp,b<s₀.heap.objs.size)
  (c1:∀x c,cl.lookup x=some c->X.env.cells.lookup x=some c) (c2:∀y∈csc.names,y.2=.free->∃c,cl.lookup y.1=some c)
  (hn:h₁.Ns s₀.heap.objs.size m) (hk:∀b o,s₀.heap.get? b=some o->h₁.get? b=some o) :
  Inv (cxC X NB csc cl s₀.heap.objs.size s₀ H₀ fp (X.pn++pins)) [] (σ++List.replicate M.length none) H₀ { s₀ with heap:=h₁,toks:=tk }:=by
 have kindB:∀x,((relabel csc X.env).names.lookup x=some .cell\/(relabel csc X.env).names.lookup x=some .free)->csc.names.lookup x=some .free:=λx hx=>by
  rcases hx with hx|hx
  ·rcases qcw hx with z|⟨z,_⟩
   ·exact absurd rfl (S.nocell _ (PySem.mem_of_lookup z))
   ·exact z
  ·rcases qcw hx with z|⟨z,_⟩
   ·exact z
   ·exact z
 have hasC:∀x,csc.names.lookup x=some .free->∃c,cl.lookup x=some c:=λx hx=>c2 (x,.free) (PySem.mem_of_lookup hx) rfl
 refine⟨⟨I.ok.mod,S.kind,I.ok.glob,I.ok.blt,Nat.le_refl _,λx y c h1 h2=>I.ok.inj x y c (c1 x c h1) (c1 y c h2),λx hx=>hasC x (kindB x hx),λx c h _=>absurd h Bool.false_ne_true,I.ok.hd,I.ok.frames,.inl rfl,
   λb hb=>⟨Nat.ne_of_lt (hlt b hb),λx c e=>(hf b hb).2.2.2.2.1 x c (c1 x c e)⟩,I.bs,Nat.le_trans I.ok.bsz I.sz,λb o e hb=>?_,λb hb z=>?_,I.stack,I.stkFree⟩,
  rfl,I.bare,Un.kept hk,⟨m,hn,λi x v e1 e2 e3=>?_⟩,λx c e=>?_,I.fresh,λx c e=>I.freeC x c (c1 x c e),λp hp=>?_,I.hok.kept hk,?_⟩
 ·rcases (hf b hb).2.2.2.1 with z|z
  ·exact I.ok.noex b o e z
  ·exact absurd (Nat.lt_of_lt_of_le (Heap.lt_size e) (Nat.le_trans I.ok.bsz z)) (Nat.lt_irrefl _)
 ·rcases List.mem_cons.mp (I.stkSub b z) with e|e
  ·exact(hf b hb).2.1 e
  ·exact(hf b hb).2.2.1 e
 ·have hlen:=I.len
  have hi:i<X.N.length:=by
   apply Classical.byContradiction
   intro hi
   rw[List.getElem?_append_right (by lia),List.getElem?_replicate] at e2
   split at e2<;>cases e2
  have e2':σ[i]?=some (some v):=by
   rw[List.getElem?_append_left (by lia)] at e2
   exact e2
  obtain⟨nl,hN⟩:=S.at e1 hi
  have hfree:csc.names.lookup x=some .free:=by
   rcases e3 with z|z
   ·rcases qcw (show (relabel csc X.env).names.lookup x=some .local from z) with q|⟨_,q⟩
    ·exact absurd q nl
    ·cases q
   ·exact kindB x z
  have hN':=hN (by rw[hfree];intro z;cases z)
  have ok:=S.free (x,.free) (PySem.mem_of_lookup hfree) rfl
  obtain⟨m',hn',hl⟩:=I.loc
  obtain⟨u,r,l⟩:=hl i x v hN' e2' (.inr ok)
  rcases l with ⟨k,_⟩|⟨_,c,hc,hcell⟩
  ·have k':X.env.scope.names.lookup x=some .local:=k
   rcases ok with z|z
   ·rw[show X.env.scope.names.lookup x=some .cell from z] at k'
    cases k'
   ·rw[show X.env.scope.names.lookup x=some .free from z] at k'
    cases k'
  ·obtain⟨c',hc'⟩:=hasC x hfree
   have ec:c'=c:=by
    have:=c1 x c' hc'
    rw[hc] at this
    exact(Option.some.inj this).symm
   subst ec
   obtain⟨o,ho,hd⟩:=hcell
   refine⟨u,r,.inr ⟨?_,c',hc',o,hk _ _ ho,hd⟩⟩
   rcases e3 with z|z
   ·rcases qcw (show (relabel csc X.env).names.lookup x=some .local from z) with q|⟨_,q⟩
    ·exact absurd q nl
    ·cases q
   ·exact z
 ·obtain⟨v,o,ho,hd⟩:=I.cell x c (c1 x c e)
  exact⟨v,o,hk _ _ ho,hd⟩
 ·have hp':p∈(X.pn++pins)++[]:=hp
  rw[List.append_nil] at hp'
  obtain⟨e,n,ne,nf,d⟩:=I.pin p hp'
  exact⟨hk _ _ e,n,Nat.ne_of_lt (Heap.lt_size e),λz=>(List.mem_cons.mp (I.stkSub _ z)).elim ne nf,d⟩
 ·rw[List.length_append,List.length_replicate,I.len]
  exact S.len.symm
theorem qog{τ:St}{H:Hp}{s:Shared}{pins':List (Addr×Obj)}(I:Inv X pins σ H₀ s₀)(hf:∀b∈fp,FpOk X pins H₀ b)(B:Inv (cxC X NB csc cl s₀.heap.objs.size s₀ H₀ fp (X.pn++pins)) pins' τ H s) :
  Inv X pins σ H s/\FpOk X pins H s₀.heap.objs.size :=
 ⟨I.call' (ch:=fp) B.os B.base B.hok B.bare λb hb=>⟨(hf b hb).2.2.2.1,(hf b hb).2.1,(hf b hb).2.2.2.2.1,(hf b hb).2.2.2.2.2⟩,I.fpOk (Nat.le_refl _) B.free⟩
end
theorem qe3{prog:Program}{w:World}{A:Around}{R:Result->Shared->Prop}{s:Shared}{elt target iter:Expr}{ifs:List Expr}{scope:Scope}{pos:Pos}{it acc:Value}{env:Env}(I:Nat->Shared->Prop)
  (turn:∀n s,I n s->wpAny (model prog w) A (pyNext it) (λr s₁=>match r with
  |none=>R (.ok .next) s₁
  |  some v=>wpAny (model prog w) A (letOwnedTupleGo target it v) (λ_ s₁'=>wpAny (model prog w) A (assign target env v) (λ_ s₂ =>
     wpAny (model prog w) A (forIn ifs true λc r=>if r=true then do let ok ←isTrue c env (eval c env);pure (ForInStep.yield ok) else pure (ForInStep.yield r)) (λok s₃ =>
      if ok=true then wpAny (model prog w) A (eval elt env) (λx s₄ =>
       wpAny (model prog w) A (call (.builtin "list.append") [acc,x]) (λ_ s₅=>∃m,m<n/\I m s₅) (notedBy (model prog w) A env λe s'=>R (.error e) s') s₄) (notedBy (model prog w) A env λe s'=>R (.error e) s') s₃
      else ∃m,m<n/\I m s₃) (notedBy (model prog w) A env λe s'=>R (.error e) s') s₂) (notedBy (model prog w) A env λe s'=>R (.error e) s') s₁') (notedBy (model prog w) A env λe s'=>R (.error e) s') s₁)
    (notedBy (model prog w) A env λe s'=>R (.error e) s') s)
  (n:Nat) (h:I n s):codeAny (model prog w) A (.compLoop (.ListComp elt [⟨target,iter,ifs,0⟩] scope pos) 0 it acc env) R s:=by
 refine codeAny_loop rfl I (λn s hI=>?_) n h
 show wpAny _ A ((compTurn (.ListComp elt [⟨target,iter,ifs,0⟩] scope pos) 0 it acc env).onRaise (λx=>do noteFrame x env;theTreesLotGoes x)) _ _ s
 refine wpAny_noted ?_
 rw[compTurn_list]
 refine wpAny_bind (wpAny_standAt (wpAny_bind (wpAny_mono (turn n s hI) (λr s₁ h₁=>?_) λ_ _ h'=>h')))
 cases r with
|none=>exact wpAny_pure h₁
|some v =>
  refine wpAny_bind (wpAny_mono h₁ (λ_ s₁' h₁'=>?_) λ_ _ h'=>h')
  refine wpAny_bind (wpAny_mono h₁' (λ_ s₂ h₂=>wpAny_bind (wpAny_mono h₂ (λok s₃ h₃=>?_) λ_ _ h'=>h')) λ_ _ h'=>h')
  cases ok with
 |false=>exact wpAny_pure ⟨rfl,h₃⟩
 |true =>
   exact wpAny_bind (wpAny_bind (wpAny_mono h₃ (λx s₄ h₄=>wpAny_bind (wpAny_mono h₄ (λ_ s₅ h₅=>wpAny_pure (wpAny_pure ⟨rfl,h₅⟩)) λ_ _ h'=>h')) λ_ _ h'=>h'))
abbrev TF:=St->Hp->(Hp->Prop)->(Hp->Prop)->Prop
def PF(X:Cx)(ifs:List Expr)(t:TF):Prop :=
 ∀(pins:List (Addr×Obj)) (s:Shared) (σ:St) (H:Hp) (Y N:Hp->Prop),Inv X pins σ H s->t σ H Y N ->
  wpAny (model X.prog X.w) X.A (forIn ifs true λc r=>if r=true then do let ok ←isTrue c X.env (eval c X.env);pure (ForInStep.yield ok) else pure (ForInStep.yield r)) (λb s'=>∃H',Inv X pins σ H' s'/\if b=true then Y H' else N H') X.xe s
def fNil:TF:=λ_ H Y _=>Y H
theorem q0y{X:Cx}:PF X [] fNil:=λ_ _ _ H _ _ I h=>wpAny_tests_nil ⟨H,I,iteT h⟩
def qq3(wi:TI)(g:TG)(ti:TF)(te:TE)(k:Nat):TE:=λσ H Q=>wi σ H λJ H1=>∀p,H1 p=none->∃W:Nat->Nat->St->List V->Hp->Prop,(∃m,W 0 m (σ++List.replicate k none) [] (upd H1 p (.lst [])))/\∀i m τ xs H,W i m τ xs H ->
 (J.stop i H/\Q (.ref p) H)\/(J.go i H/\∀x H',J.yld i H x H'->g x τ H' λτ2 H2=>ti τ2 H2 (λH3=>te τ2 H3 λv H4=>H4 p=some (.lst xs)/\xs.length<sizeLine/\∃m',m'<m/\W (i+1) m' τ2 (xs++[v]) (upd H4 p (.lst (xs++[v]))))
  (λH3=>∃m',m'<m/\W (i+1) m' τ2 xs H3))
def PCp(X:Cx)(e:Expr)(t:TE):Prop:=∃elt tg iter ifs csc pos,e=.ListComp elt [⟨tg,iter,ifs,0⟩] csc pos /\
 ∀(ppos:Pos) (use:Option (Value->Sem Unit)) (R:Value->Shared->Prop) (pins:List (Addr×Obj)) (s:Shared) (σ:St) (H:Hp) (Q:VK),Inv X pins σ H s->t σ H Q ->
  (∀(D C:Addr) (s':Shared) (H':Hp),Inv X pins σ H' s'->FpOk X pins H' C->(∃m,s'.heap.Ns C m)->Q (.ref D) H'->compPost (model X.prog X.w) X.A X.xe use R (.ref D) C (.ok .next) s') ->
  wpAny (model X.prog X.w) X.A (comprehension (.ListComp elt [⟨tg,iter,ifs,0⟩] csc pos) csc X.env ppos (newList []) false (eval iter X.env) use) R X.xe s
section
variable {X:Cx}
theorem qo9{tg iter elt:Expr}{ifs:List Expr}{csc:Scope}{pos:Pos}{NB M:List Str}{wi:TI}{g:TG}{ti:TF}{te:TE}{Z:Hp->Shared->Value->Shared->Prop}(hi:PI X tg iter wi)(hc:X.calm=true)(S:CompScope X.env.scope X.N NB M csc)
  (hg:∀cl C s₀ H₀ fp pn,PG (cxC X NB csc cl C s₀ H₀ fp pn) tg g) (hf:∀cl C s₀ H₀ fp pn,PF (cxC X NB csc cl C s₀ H₀ fp pn) ifs ti)
  (he:∀cl C s₀ H₀ fp pn E,(∀pins τ H s e s',Inv (cxC X NB csc cl C s₀ H₀ fp pn) pins τ H s->Z H s e s'->E e s')->PE ((cxC X NB csc cl C s₀ H₀ fp pn).wish E) elt te)
  (hz:∀pins σ H s e s' C use R D,Inv X pins σ H s->FpOk X pins H C->(∃m,s.heap.Ns C m)->Z H s e s'->notedBy (model X.prog X.w) X.A X.env (λe s'=>compPost (model X.prog X.w) X.A X.xe use R D C (.error e) s') e s')
  (hs:∀x,foldedSetIterable iter X.env x=pure x:=by intro _;rfl):PCp X (.ListComp elt [⟨tg,iter,ifs,0⟩] csc pos) (qq3 wi g ti te M.length):=by
 refine⟨elt,tg,iter,ifs,csc,pos,rfl,λppos use R pins s σ H Q I h fin=>?_⟩
 have hcell:∀y∈csc.names,y.2=.free->∃c,X.env.cells.lookup y.1=some c:=λy hy hfr=>I.ok.has y.1 (S.free y hy hfr)
 obtain⟨cl,hcl,c1,c2⟩:=qp7 hcell
 refine wpAny_comprehension_free rfl hs hcl S.kind S.locs ?_
 refine thn (hi pins s σ H _ I h) λv s1 h1=>thn h1 λitv s2 h2=>?_
 obtain⟨it,fp,tn,J,H2,e,I2,T,st2,f2,h2⟩:=h2
 subst e
 have hlt2:∀b∈fp,b<s2.heap.objs.size:=λb hb=>let ⟨_,e,_⟩:=T.obj _ _ st2 b hb;Heap.lt_size e
 refine wpAny_newObj_type (wpAny_newFunctionEnv S.nocell (by intro y hy;simp at hy) (λh₁ hns₁ hsb₁=>?_) S.kind)
 dsimp only at hns₁ hsb₁ ⊢
 have I0:Inv X pins σ (upd H2 s2.heap.objs.size (.lst [])) { s2 with heap:=s2.heap.push { cls:=.type "list",dict:=none,data:=.seq ([]:List Value).toArray } }:=I2.lnew (its:=[]) (t':=s2.toks) .nil (Nat.zero_le _)
 generalize hs0:({ s2 with heap:=s2.heap.push { cls:=.type "list",dict:=none,data:=.seq ([]:List Value).toArray } }:Shared)=s₀ at I0
 have hh:s2.heap.push { cls:=.type "list",dict:=none,data:=.seq ([]:List Value).toArray }=s₀.heap:=by rw[←hs0]
 rw[hh] at hns₁ hsb₁ ⊢
 have hsz:s2.heap.objs.size<s₀.heap.objs.size:=by rw[←hh,Heap.size_push];exact Nat.lt_succ_self _
 have hDn:H2 s2.heap.objs.size=none:=I2.fresh
 have f0:∀b∈fp,FpOk X pins (upd H2 s2.heap.objs.size (.lst [])) b:=λb hb=>⟨by rw[qar (Nat.ne_of_lt (hlt2 b hb))];exact(f2 b hb).1,(f2 b hb).2⟩
 have hlt:∀b∈fp,b<s₀.heap.objs.size:=λb hb=>Nat.lt_trans (hlt2 b hb) hsz
 have hk:∀b o,s₀.heap.get? b=some o->h₁.get? b=some o:=λb o e=>hsb₁.extBut b o (Nat.ne_of_lt (Heap.lt_size e)) (Heap.get?_push_of_some _ e)
 have hk2:∀b o,s2.heap.get? b=some o->h₁.get? b=some o:=λb o e=>hk b o (by rw[←hh];exact Heap.get?_push_of_some _ e)
 have st1:tn 0 h₁:=T.keep _ _ _ st2 λb _ o e=>hk2 b o e
 obtain⟨W,⟨m0,w0⟩,turn⟩:=h2 s2.heap.objs.size hDn
 have loop:∀s₃:Shared,s₃={ s₀ with heap:=h₁,toks:=s2.toks+([]:List (Str×Value)).length } ->
   codeAny (model X.prog X.w) X.A (.compLoop (.ListComp elt [⟨tg,iter,ifs,0⟩] csc pos) 0 (.ref it) (.ref s2.heap.objs.size) (compEnvC csc cl s₀.heap.objs.size X.env))
    (compPost (model X.prog X.w) X.A X.xe use R (.ref s2.heap.objs.size) s₀.heap.objs.size) s₃:=by
  rintro s₃ rfl
  have B0:=qp9 (cl:=cl) (tk:=s2.toks+([]:List (Str×Value)).length) S I0 f0 hlt c1 c2 hns₁ hk
  have fpB:∀ {H':Hp},(∀b∈fp,H' b=none)->∀b∈fp,FpOk (cxC X NB csc cl s₀.heap.objs.size s₀ (upd H2 s2.heap.objs.size (.lst [])) fp (X.pn++pins)) [] H' b:=λ{H'} hn b hb =>
   ⟨hn b hb,Nat.ne_of_lt (hlt b hb),B0.ok.exfs b hb,.inl hb,λx c e=>(f0 b hb).2.2.2.2.1 x c (c1 x c e),λp hp=>(f0 b hb).2.2.2.2.2 p (by
    have hp':p∈(X.pn++pins)++[]:=hp
    rw[List.append_nil] at hp'
    exact hp')⟩
  refine qe3 (λn s'=>∃i τ xs H',Inv (cxC X NB csc cl s₀.heap.objs.size s₀ (upd H2 s2.heap.objs.size (.lst [])) fp (X.pn++pins)) [] τ H' s'/\tn i s'.heap/\(∀b∈fp,H' b=none)/\W i n τ xs H') ?_ m0
   ⟨0,_,[],_,B0,st1,λb hb=>(f0 b hb).1,w0⟩
  rintro n s3 ⟨i,τ,xs,H3,I3,st3,fr3,w3⟩
  rcases turn i n τ xs H3 w3 with ⟨stop,q⟩|⟨go,step⟩
  ·refine thn (T.done (cxC X NB csc cl s₀.heap.objs.size s₀ (upd H2 s2.heap.objs.size (.lst [])) fp (X.pn++pins)) rfl rfl rfl hc i [] s3 τ H3 _ I3 (fpB fr3) st3 stop) λr s4 ⟨hr,I4⟩=>?_
   subst hr
   obtain⟨IX,fpC⟩:=qog I0 f0 I4
   exact fin _ _ s4 H3 IX fpC (let ⟨m,hn,_⟩:=I4.loc;⟨m,hn⟩) q
  ·refine thn (T.item (cxC X NB csc cl s₀.heap.objs.size s₀ (upd H2 s2.heap.objs.size (.lst [])) fp (X.pn++pins)) rfl rfl rfl hc i [] s3 τ H3 _ I3 (fpB fr3) st3 go) λr s4 ⟨u,hr,h4⟩=>?_
   subst hr
   refine thn h4 λ_ s5 ⟨x,H5,I5,r5,y5,st5,fr5⟩=>?_
   have I5':=I5.pinned (fpB fr5) (T.obj _ _ st5)
   refine wpAny_mono (hg _ _ _ _ _ _ _ s5 τ H5 x u _ I5' r5 (step x H5 y5)) (λ_ s6 ⟨τ6,H6,I6,q6⟩=>?_) λ_ _ z=>False.elim z
   refine wpAny_mono (hf _ _ _ _ _ _ _ s6 τ6 H6 _ _ I6 q6) (λb s7 ⟨H7,I7,q7⟩=>?_) λ_ _ z=>False.elim z
   have again:∀ {τ7:St} {H7:Hp} {s7:Shared} {ys:List V},Inv (cxC X NB csc cl s₀.heap.objs.size s₀ (upd H2 s2.heap.objs.size (.lst [])) fp (X.pn++pins)) ([]++qlv fp s5.heap) τ7 H7 s7->(∃m',m'<n/\W (i+1) m' τ7 ys H7) ->
     ∃m,m<n/\∃i τ xs H',Inv (cxC X NB csc cl s₀.heap.objs.size s₀ (upd H2 s2.heap.objs.size (.lst [])) fp (X.pn++pins)) [] τ H' s7/\tn i s7.heap/\(∀b∈fp,H' b=none)/\W i m τ xs H':=λ{τ7 H7 s7 ys} I7 w7=>by
    obtain⟨m',hm,w7⟩:=w7
    refine⟨m',hm,i+1,τ7,ys,H7,I7.unpinned,T.keep _ _ _ st5 λb hb o e=>(I7.pin (b,o) (List.mem_append_right _ (List.mem_append_right _ (qev hb e)))).1,λb hb=>?_,w7⟩
    obtain⟨o,e,d⟩:=T.obj _ _ st5 b hb
    exact(I7.pin (b,o) (List.mem_append_right _ (List.mem_append_right _ (qev hb e)))).2.1
   cases b with
  |false=>exact again I7 q7
  |true =>
    have q7':te τ6 H7 _:=q7
    have pass:∀pins' τ H s e s',Inv (cxC X NB csc cl s₀.heap.objs.size s₀ (upd H2 s2.heap.objs.size (.lst [])) fp (X.pn++pins)) pins' τ H s->Z H s e s'->notedBy (model X.prog X.w) X.A X.env (λe s'=>compPost (model X.prog X.w) X.A X.xe use R (.ref s2.heap.objs.size) s₀.heap.objs.size (.error e) s') e s':=λpins' τ H s e s' Ic z =>
     let ⟨IX,fpC⟩:=qog I0 f0 Ic
     hz pins σ H s e s' _ _ _ _ IX fpC (let ⟨m,hn,_⟩:=Ic.loc;⟨m,hn⟩) z
    refine wpAny_mono (he _ _ _ _ _ _ _ pass _ s7 τ6 H7 _ (I7.wish _) q7') (λy s8 ⟨v8,H8,I8,r8,hl8,hz8,w8⟩=>?_) λ_ _ z=>z
    replace I8:=I8.unwish
    refine wpAny_mono (qlm (X:=(cxC X NB csc cl s₀.heap.objs.size s₀ (upd H2 s2.heap.objs.size (.lst [])) fp (X.pn++pins))) _ s8 τ6 H8 (.ref s2.heap.objs.size) [v8] (.ref s2.heap.objs.size) [y] (λ_ H9=>H9=upd H8 s2.heap.objs.size (.lst (xs++[v8]))) I8 rfl (.cons r8 .nil) ⟨_,xs,v8,rfl,rfl,hl8,hz8,rfl⟩) (λ_ s9 ⟨_,H9,I9,_,e9⟩=>?_) λ_ _ z=>False.elim z
    subst e9
    exact again I9 w8
 exact codeAny_compStart_list (loop _ (by rw[←hs0])) (T.self _ _ _ _ _ st1 (loop _ (by rw[←hs0])))
theorem q0r{tg iter elt:Expr}{ifs:List Expr}{csc:Scope}{pos:Pos}{NB M:List Str}{wi:TI}{g:TG}{ti:TF}{te:TE}(hi:PI X tg iter wi)(hc:X.calm=true)(S:CompScope X.env.scope X.N NB M csc)
  (hg:∀cl C s₀ H₀ fp pn,PG (cxC X NB csc cl C s₀ H₀ fp pn) tg g) (hf:∀cl C s₀ H₀ fp pn,PF (cxC X NB csc cl C s₀ H₀ fp pn) ifs ti) (he:∀cl C s₀ H₀ fp pn,PE (cxC X NB csc cl C s₀ H₀ fp pn) elt te)
  (hs:∀x,foldedSetIterable iter X.env x=pure x:=by intro _;rfl):PCp X (.ListComp elt [⟨tg,iter,ifs,0⟩] csc pos) (qq3 wi g ti te M.length) :=
 qo9 (Z:=λ_ _ _ _=>False) hi hc S hg hf (λcl C s₀ H₀ fp pn E _ pins s σ H Q I h=>wpAny_mono (he cl C s₀ H₀ fp pn pins s σ H Q I.unwish h) (λv s' ⟨v',H',I',r⟩=>⟨v',H',I'.wish E,r⟩) λ_ _ z=>z.elim) (λ_ _ _ _ _ _ _ _ _ _ _ _ _ z=>z.elim) hs
theorem PCp.pe{e:Expr}{t:TE}(h:PCp X e t):PE X e t:=by
 obtain⟨elt,tg,iter,ifs,csc,pos,rfl,h⟩:=h
 intro pins s σ H Q I hw
 rw[eval_ListComp]
 refine h _ none (EP X pins σ Q) pins s σ H Q I hw λD C s' H' IX fpC ⟨m,hn⟩ q=>⟨m,hn,λh' hs=>?_⟩
 exact⟨.ref D,H',IX.turned (t':=s'.toks) (λb o hb e=>(hs.2 b hb).trans e) fpC.1 fpC.2.1 fpC.2.2.2.1 fpC.2.2.2.2.1 fpC.2.2.2.2.2,rfl,q⟩
theorem q04{i:Nat}{x:Str}{e:Expr}{te:TE}{pos' pos:Pos}(hN:X.N.Nodup)(hi:X.N[i]?=some x)(hx:Loc X.env.scope x)(he:PCp X e te)(hsw:swapsWith e (some (.Name x pos')) pos.line X.env=pure true:=by rfl)
  (hf:X.fn x=true\/X.env.scope.names.lookup x=some .local:=by first|exact .inl rfl|exact .inr rfl|assumption):PS X (.Assign [.Name x pos'] e pos) (tAsg te (qlb i)):=by
 obtain⟨elt,tg,iter,ifs,csc,cpos,rfl,h⟩:=he
 intro pins s σ H D I hw
 rw[exec_Assign_Name_used _ _ _ _ hsw]
 refine wpAny_bind (wpAny_standAt (wpAny_bind ?_))
 show wpAny _ X.A (do let _ ←comprehension (.ListComp elt [⟨tg,iter,ifs,0⟩] csc cpos) csc X.env _ (newList []) false (eval iter X.env) (some (assign (.Name x pos') X.env))) _ _ s
 refine wpAny_bind (wpAny_mono (h _ (some (assign (.Name x pos') X.env)) (λ_ s'=>SP X pins D .next s') pins s σ H _ I hw ?_) (λ_ s' hq=>wpAny_pure (wpAny_pure hq)) λ_ _ e=>e)
 intro Dl C s' H' IX fpC ⟨m,hn⟩ q
 show wpAny _ X.A (assign (.Name x pos') X.env (.ref Dl)) _ _ s'
 refine wpAny_assign_Name (ql4 IX hN hi hx (v:=.ref Dl) rfl (λs2 I2 ⟨a,sb,ha⟩=>?_) hf)
 have hne:C≠a:=by
  rcases ha with e|e
  ·rw[e]
   exact fpC.2.1
  ·exact Ne.symm (fpC.2.2.2.2.1 x a e)
 refine⟨m,hn.sameBut sb hne,λh' hs=>?_⟩
 exact⟨_,H',I2.turned (t':=s2.toks) (λb o hb e=>(hs.2 b hb).trans e) fpC.1 fpC.2.1 fpC.2.2.2.1 fpC.2.2.2.2.1 fpC.2.2.2.2.2,q⟩
end
end L2
namespace L2
open PySem PySem.Spec PyProof.Rows
structure QE(X:Cx)(e:Expr)(t:TE):Prop where
 u:PE X e t
structure QT(X:Cx)(e:Expr)(t:TT):Prop where
 u:PT X e t
structure QW(X:Cx)(e:Expr)(t:TT):Prop where
 u:PW X e t
structure QA(X:Cx)(es:List Expr)(t:TA):Prop where
 u:PA X es t
structure QS(X:Cx)(st:Stmt)(t:TS):Prop where
 u:PS X st t
structure QSs(X:Cx)(st:List Stmt)(t:TS):Prop where
 u:PSs X st t
structure QI(X:Cx)(tg iter:Expr)(t:TI):Prop where
 u:PI X tg iter t
structure QG(X:Cx)(tg:Expr)(t:TG):Prop where
 u:PG X tg t
structure QGs(X:Cx)(ts:List Expr)(t:TGs):Prop where
 u:PGs X ts t
structure QO(X:Cx)(e:Option Expr)(t:TO):Prop where
 u:PO X e t
structure QF(X:Cx)(ifs:List Expr)(t:TF):Prop where
 u:PF X ifs t
structure QC(X:Cx)(e:Expr)(t:TE):Prop where
 u:PCp X e t
section
variable {X:Cx} {st:Stmt} {rest:List Stmt} {t u:TS} {a b c e o i:Expr} {ta tb tc te to ti:TE} {es:List Expr} {tA:TA} {tT tU:TT} {pos pos' p p2 apos cpos:Pos} {x name:Str} {n:Nat}
theorem q1n:QSs X [] q5p:=⟨q05⟩
theorem q1o(h:QS X st t):QSs X [st] t:=⟨q06 h.u⟩
theorem qwx(h:QS X st t)(r:QSs X rest u):QSs X (st::rest) (tSeq t u):=⟨qwm h.u r.u⟩
theorem qj7(h:QE X e te)(hs:swapsWith e none pos.line X.env=pure false:=by rfl):QS X (.Expr e pos) (q5o te):=⟨q03 h.u hs⟩
theorem qyl(h:QE X e te):QS X (.Return (some e) pos) (tRet te):=⟨q4k h.u⟩
theorem q69{a b:List Stmt}(hc:QT X c tT)(ha:QSs X a t)(hb:QSs X b u):QS X (.If c a b pos) (tIfS tT t u):=⟨q6z hc.u ha.u hb.u⟩
theorem qym{i:Nat}(hN:X.N.Nodup)(hi:X.N[i]?=some x)(hx:Loc X.env.scope x)(h:QE X e te)(hs:swapsWith e (some (.Name x pos')) pos.line X.env=pure false:=by rfl)
  (hf:X.fn x=true\/X.env.scope.names.lookup x=some .local:=by first|exact .inl rfl|exact .inr rfl|assumption):QS X (.Assign [.Name x pos'] e pos) (tAsg te (qlb i)):=⟨q4l hN hi hx h.u hs hf⟩
theorem qtw{i:Nat}(hN:X.N.Nodup)(hi:X.N[i]?=some x)(hx:Loc X.env.scope x)(h:QC X e te)(hs:swapsWith e (some (.Name x pos')) pos.line X.env=pure true:=by rfl)
  (hf:X.fn x=true\/X.env.scope.names.lookup x=some .local:=by first|exact .inl rfl|exact .inr rfl|assumption):QS X (.Assign [.Name x pos'] e pos) (tAsg te (qlb i)):=⟨q04 hN hi hx h.u hs hf⟩
theorem qtv{tg:Expr}{g:TG}(h:QE X e te)(hg:QG X tg g)(hs:swapsWithSole [tg] e pos.line X.env=pure false:=by rfl)(hw:swappedStores [tg] e X.env=pure none:=by rfl)
  (h1:(assignEach [tg] X.env).map (·.2)=[assign tg X.env]:=by rfl):QS X (.Assign [tg] e pos) (tAsg te g):=⟨q4i h.u hg.u hs hw h1⟩
theorem q42{tg iter:Expr}{body:List Stmt}{wi:TI}{g:TG}(hp:PassesOwn (model X.prog X.w) X.A X.env X.xe)(hc:X.calm=true)(hi:QI X tg iter wi)(hg:QG X tg g)(hb:QSs X body t)
  (hs:∀x,foldedSetIterable iter X.env x=pure x:=by intro _;rfl):QS X (.For tg iter body [] pos) (tFor wi g t):=⟨q4j hp hc hi.u hg.u hb.u hs⟩
theorem q4r{k:Int}{j:Nat}:QE X (.Constant (.int k) j pos) (tC (.int k)):=⟨q36⟩
theorem q62{k:Bool}{j:Nat}:QE X (.Constant (.bool k) j pos) (tC (.bl k)):=⟨q6s⟩
theorem q4t{j:Nat}:QE X (.Constant .none j pos) (tC .non):=⟨q38⟩
theorem qe_str{z:Str}{j:Nat}:QE X (.Constant (.str z) j pos) (tC (.str z)):=⟨q4b⟩
theorem qv(i:Nat)(hN:X.N[i]?=some x:=by rfl)(hv:Vis X.env.scope x:=by first|exact Or.inl rfl|exact Or.inr (Or.inl rfl)|exact Or.inr (Or.inr rfl))(hd:(x==("__debug__" : Str))=false:=by decide)
  (hcd:(x==("__classdict__" : Str))=false:=by decide):QE X (.Name x pos) (tVar i):=⟨q4d hN hv hd hcd⟩
theorem qj5{v:V}{w:Value}(hg:Gl X x)(hm:X.mg x=some w)(r:RelV v w)(hd:(x==("__debug__" : Str))=false:=by decide):QE X (.Name x pos) (tC v):=⟨q0v hg hm r hd⟩
theorem qtr{v:V}{w:Value}(hg:Gl X x)(hm:X.mg x=none)(hv:bootBuiltins x=some w)(r:RelV v w)(hn:x≠"__name__" := by decide)(hd:(x==("__debug__" : Str))=false:=by decide):QE X (.Name x pos) (tC v):=⟨q0s hg hm hv r hn hd⟩
theorem q64{op:Operator}{r:R2}(ho:OpR X (binaryOp op) r)(ha:QE X a ta)(hb:QE X b tb):QE X (.BinOp a op b pos) (tOp r ta tb):=⟨q6v ho ha.u hb.u⟩
theorem q66{op:UnaryOp}{r:V->Hp->VK->Prop}(ho:UnR X (unaryOp op) r)(ha:QE X a ta):QE X (.UnaryOp op a pos) (tUn r ta):=⟨q6x ho ha.u⟩
theorem q1e{op:CmpOp}{r:R2}(ho:OpR X (compareOp op) r)(ha:QE X a ta)(hb:QE X b tb)(hm:behindInMarks op b=false):QE X (.Compare a [op] [b] pos) (tOp r ta tb):=⟨q0t ho ha.u hb.u hm⟩
theorem qwp{op op':CmpOp}{r r':R2}(ho:OpR X (compareOp op) r)(ho':OpR X (compareOp op') r')(ha:QE X a ta)(hb:QE X b tb)(hc:QE X c tc)(hm:lastMarks [op,op'] [b,c]=false:=by with_unfolding_all rfl) :
  QE X (.Compare a [op,op'] [b,c] pos) (ql5 r r' ta tb tc):=⟨qwc ho ho' ha.u hb.u hc.u hm⟩
theorem q4v{op:BoolOp}(h:QE X a ta):QE X (.BoolOp op [a] pos) ta:=⟨q4a h.u⟩
theorem q4q(ha:QE X a ta)(hb:QE X (.BoolOp .And (b::es) pos) tb):QE X (.BoolOp .And (a::b::es) pos) (q5l ta tb):=⟨q34 ha.u hb.u⟩
theorem q65(ha:QE X a ta)(hb:QE X (.BoolOp .Or (b::es) pos) tb):QE X (.BoolOp .Or (a::b::es) pos) (tOrV ta tb):=⟨q6w ha.u hb.u⟩
theorem q4u(ha:QE X a ta):QE X (.UnaryOp .Not a pos) (q5q ta):=⟨q39 ha.u⟩
theorem qwt(hc:QT X c tT)(ha:QE X a ta)(hb:QE X b tb):QE X (.IfExp c a b pos) (tIf tT ta tb):=⟨qwg hc.u ha.u hb.u⟩
theorem qyj{k:Nat}(h:QA X es tA):QE X (.Tuple es k pos) (tTup tA):=⟨q4c h.u⟩
theorem q4s(h:QA X es tA):QE X (.List es pos) (tLst tA):=⟨q37 h.u⟩
theorem qwu{lo hi:Option Expr}{tl th:TO}{r:V->Option Int->Option Int->Hp->VK->Prop}(hr:SlR X r)(he:QE X e te)(hl:QO X lo tl)(hu:QO X hi th):QE X (.Subscript e (.Slice lo hi none p2) pos) (tSl r te tl th):=⟨qwh hr he.u hl.u hu.u⟩
theorem q63{r:R2}(hr:IxR X r)(ha:QE X a ta)(hb:QE X b tb)(hs:qmn b):QE X (.Subscript a b pos) (tOp r ta tb):=⟨q6u hr ha.u hb.u hs⟩
theorem q1k:QO X none quc:=⟨q0z⟩
theorem q1l(h:QE X e te):QO X (some e) (q5r te):=⟨q00 h.u⟩
theorem qd0:QA X [] tNil:=⟨q32⟩
theorem qac(ha:QE X e te)(hr:QA X es tA)(hs:qaq e=true:=by rfl):QA X (e::es) (qxc te tA):=⟨pac ha.u hr.u hs⟩
theorem qyi{k:Nat}{ps:List Str}{sp:Sp}(C:Cal X.prog X.w X.K X.mg X.base k x ps sp)(hr:Room k X.A)(hg:Gl X x)(ha:QA X (e::es) tA)(hp:(e::es).all qaq=true:=by rfl)(hdb:(x==("__debug__" : Str))=false:=by decide) :
  QE X (.Call (.Name x p) (e::es) [] pos) (qua sp [] E0 tA):=⟨q35 C hr hg ha.u hp hdb⟩
theorem qcb{id:String}{r:List V->Hp->VK->Prop}(hc:CallR X (.builtin id) r)(hg:Gl X x)(hm:X.mg x=none)(hv:bootBuiltins x=some (.builtin id))(ha:QA X (e::es) tA)(hp:(e::es).all qaq=true:=by rfl)(hn:x≠"__name__" := by decide)
  (hdb:(x==("__debug__" : Str))=false:=by decide):QE X (.Call (.Name x p) (e::es) [] pos) (tCB r tA):=⟨pcb hc hg hm hv ha.u hp hn hdb⟩
theorem qct{T:String}{r:List V->Hp->VK->Prop}(hc:CallR X (.type T) r)(hg:Gl X x)(hm:X.mg x=none)(hv:bootBuiltins x=some (.type T))(ha:QA X (e::es) tA)(hp:(e::es).all qaq=true:=by rfl)(hn:x≠"__name__" := by decide)
  (hdb:(x==("__debug__" : Str))=false:=by decide):QE X (.Call (.Name x p) (e::es) [] pos) (tCB r tA):=⟨pct hc hg hm hv ha.u hp hn hdb⟩
theorem qbm{T id:String}{r:V->List V->Hp->VK->Prop}(pa:PlainAttrs T)(slot:Slot T name id)(hty:typeOf (.builtin id)=pure (.type "method_descriptor"))(hm:MtR X id r)(ho:QE X o to)(ha:QA X (e::es) tA)(hp:(e::es).all qaq=true:=by rfl)
  (hfew:decide ((e::es).length<30)=true:=by rfl) (hbase:attributeBase o name X.env (eval o X.env)=eval o X.env:=by rfl) (hline:(apos.endLine==cpos.line)=true:=by rfl) :
  QE X (.Call (.Attribute o name apos) (e::es) [] cpos) (tBM X.K T r to tA):=⟨pbm pa slot hty hm ho.u ha.u hp hfew hbase hline⟩
theorem q1p{op:CmpOp}{r:R2}(ho:OpR X (compareOp op) r)(ha:QE X a ta)(hb:QE X b tb)(hm:behindInMarks op b=false):QT X (.Compare a [op] [b] pos) (qxd (tOp r ta tb)):=⟨q07 ho ha.u hb.u hm⟩
theorem qwz{op op':CmpOp}{r r':R2}(ho:OpR X (compareOp op) r)(ho':OpR X (compareOp op') r')(ha:QE X a ta)(hb:QE X b tb)(hc:QE X c tc)(hm:lastMarks [op,op'] [b,c]=false:=by with_unfolding_all rfl) :
  QT X (.Compare a [op,op'] [b,c] pos) (qxd (ql5 r r' ta tb tc)):=⟨qwn ho ho' ha.u hb.u hc.u hm⟩
theorem q45(h:QT X a tT):QT X (.UnaryOp .Not a pos) (tNot tT):=⟨q4m h.u⟩
theorem q46(h:QE X e te)(he:∀whole,isTrue e X.env whole=(do let v ←whole;standAt e.pos;holding [v] (truthy v)):=by intro _;rfl):QT X e (tB te):=⟨q4n h.u he⟩
theorem q1q(h:QT X a tT):QW X (.BoolOp .And [a] pos) tT:=⟨q09 h.u⟩
theorem q48(h:QT X a tT):QW X (.BoolOp .Or [a] pos) tT:=⟨q4p h.u⟩
theorem q47(ha:QT X a tT)(hb:QW X (.BoolOp .And (b::es) pos) tU):QW X (.BoolOp .And (a::b::es) pos) (tAnd tT tU):=⟨q4o ha.u hb.u⟩
theorem q7a(ha:QT X a tT)(hb:QW X (.BoolOp .Or (b::es) pos) tU):QW X (.BoolOp .Or (a::b::es) pos) (tOr tT tU):=⟨q61 ha.u hb.u⟩
theorem qw_t(h:QW X e tT):QT X e tT:=⟨h.u.pt⟩
theorem q68{tg:Expr}(hg:Gl X "range")(hm:X.mg "range" = none)(ha:QA X [a] tA)(hp:qaq a=true:=by rfl):QI X tg (.Call (.Name "range" p) [a] [] pos) (qzt tA):=⟨q6y hg hm ha.u hp⟩
theorem q1h{i:Nat}(hN:X.N.Nodup)(hi:X.N[i]?=some x)(hx:Loc X.env.scope x)(hf:X.fn x=true\/X.env.scope.names.lookup x=some .local:=by first|exact .inl rfl|exact .inr rfl|assumption):QG X (.Name x pos) (qlb i):=⟨q0w hN hi hx hf⟩
theorem qtt:QGs X [] gNil:=⟨q0x⟩
theorem qj6{g:TG}{gs:TGs}(h1:QG X e g)(h2:QGs X es gs)(hs:(assignEach (e::es) X.env).map (·.2)=assign e X.env::(assignEach es X.env).map (·.2):=by rfl):QGs X (e::es) (q22 g gs):=⟨qwi h1.u h2.u hs⟩
theorem qyk{k:Nat}{gs:TGs}{n:Nat}(hc:X.calm=true)(h:QGs X es gs)(hn:(assignEach es X.env).length=n:=by rfl)(hst:(assignEach es X.env).findIdx? (·.1)=none:=by rfl):QG X (.Tuple es k pos) (gTup X.K n gs):=⟨q4f hc h.u hn hst⟩
theorem qts{s:TSet}(ho:QE X o to)(hi:QE X i ti)(hs:PSet X s) (ha:∀v,assign (.Subscript o i pos) X.env v=(do
   let ov ←holding [v] (eval o X.env)
   let iv ←holding [v,ov] (eval i X.env)
   standAt pos
   holding [v,ov,iv] (setItem ov iv v)
   release [v,ov,iv] []):=by intro _;rfl):QG X (.Subscript o i pos) (gSub to ti s):=⟨q4e ho.u hi.u hs ha⟩
theorem qtu:QF X [] fNil:=⟨q0y⟩
theorem q1a{tg iter elt:Expr}{ifs:List Expr}{csc:Scope}{NB M:List Str}{wi:TI}{g:TG}{ti:TF}(hi:QI X tg iter wi)(hc:X.calm=true)(S:CompScope X.env.scope X.N NB M csc)
  (hg:∀cl C s₀ H₀ fp pn,QG (cxC X NB csc cl C s₀ H₀ fp pn) tg g) (hf:∀cl C s₀ H₀ fp pn,QF (cxC X NB csc cl C s₀ H₀ fp pn) ifs ti) (he:∀cl C s₀ H₀ fp pn,QE (cxC X NB csc cl C s₀ H₀ fp pn) elt te)
  (hs:∀x,foldedSetIterable iter X.env x=pure x:=by intro _;rfl):QC X (.ListComp elt [⟨tg,iter,ifs,0⟩] csc pos) (qq3 wi g ti te M.length) :=
 ⟨q0r hi.u hc S (λcl C s₀ H₀ fp pn=>(hg cl C s₀ H₀ fp pn).u) (λcl C s₀ H₀ fp pn=>(hf cl C s₀ H₀ fp pn).u) (λcl C s₀ H₀ fp pn=>(he cl C s₀ H₀ fp pn).u) hs⟩
theorem qc_e(h:QC X e te):QE X e te:=⟨h.u.pe⟩
end
theorem Fun.okQ{P:Program}{w:World}{K:PySem.W.Frag}{mg:Str->Option Value}{base:Heap}{x qual:Str}{st:Stmt}{f:Addr}{fd:FuncData}{N ps:List Str}{k:Nat}{sp:Sp}(F:Fun K x qual st f fd)(S:FnScope N ps (qaf st))(len:∀vs H Q E,sp vs H Q E->vs.length=ps.length)
  (hbody:∀(cdv:Value) (A:Around) (outer:List Env) (s:Shared) (H:Hp) (vs:List V) (Q:VK) (E:XK),Room k (A.deeper (envOfC qual (qaf st) s.heap.objs.size f cdv))->sp vs H Q E ->
   ∃t,QSs (cxOf CX0 P w K mg base N qual (qaf st) f cdv A outer s H E).nox (qbq st) t/\t { nx:=λ_ H'=>Q .non H',rt:=Q } (start N vs) H):FnOk P w K mg base CX0 (k+1) f fd ps sp :=
 F.ok S len λcdv A outer s H vs Q E hr hsp=>let ⟨t,h,q⟩:=hbody cdv A outer s H vs Q E hr hsp;⟨t,h.u,q⟩
end L2
namespace L2
open PySem PySem.Spec PyProof.Rows
def oddC:Value:=.ref 61
def Bare2(C:Value)(vs:Array Value):Prop:=C=oddC\/vs[2]?=some .none
theorem Bare2.set{C x:Value}{vs:Array Value}(h:Bare2 C vs):Bare2 C (vs.setIfInBounds 1 x):=h.imp id λq=>by rw[Array.getElem?_setIfInBounds_ne (by decide)];exact q
def FlR(h:Heap)(a:Addr)(C:Value):Prop:=∃oa vs,h.get? a=some oa/\(oa.cls=C/\oa.dict=none)/\oa.data=.fields vs/\vs[1]?=some .none/\Bare2 C vs
def FlT(h:Heap)(a:Addr)(C:Value)(T:Addr)(fl:Value):Prop :=
 ∃oa vs oT ts,h.get? a=some oa/\(oa.cls=C/\oa.dict=none)/\oa.data=.fields vs/\vs[1]?=some (.ref T)/\T≠a/\h.get? T=some oT/\oT.data=.fields ts/\ts[3]?=some fl/\Bare2 C vs
def Fly(h:Heap)(a:Addr)(C:Value):List Addr->Prop
|[]=>FlR h a C
|T::r=>r=[]/\∃fl,FlT h a C T fl
theorem qta(o:Obj)(f:Array Value->Array Value):(o.mapFields f).dict=o.dict:=by
 cases o with|mk c d dt sl=>cases dt<;>rfl
structure Nk(fs ch:List Addr)(h g:Heap):Prop where
 keep:∀b o,b∉fs->b∉ch->h.get? b=some o->g.get? b=some o
 slot:∀b o,b∈fs->b∉ch->h.get? b=some o->∃sl,g.get? b=some { o with slots:=sl }
 there:∀b o,h.get? b=some o->∃u,g.get? b=some u
theorem FlT.thing{h:Heap}{a T:Addr}{C fl:Value}(f:FlT h a C T fl):∃oa,h.get? a=some oa/\(oa.cls=C/\oa.dict=none)/\PySem.W.notCls oa=true:=by
 obtain⟨oa,_,_,_,ha,hc,hd,_⟩:=f
 exact⟨oa,ha,hc,by unfold PySem.W.notCls;rw[hd]⟩
theorem FlT.there{h:Heap}{a T:Addr}{C fl:Value}(f:FlT h a C T fl):∃oa,h.get? a=some oa/\oa.cls=C:=by
 obtain⟨oa,ha,hc,_⟩:=f.thing
 exact⟨oa,ha,hc.1⟩
theorem qft{h:Heap}{a b:Addr}{oa o:Obj}{vs:Array Value}{i:Nat}{x:Value}(ha:h.get? a=some oa)(hd:oa.data=.fields vs)(e:h.get? b=some o):∃u,(h.update a (Obj.mapFields (·.setIfInBounds i x))).get? b=some u:=by
 by_cases hb:b=a
 ·subst hb
  exact⟨_,Heap.get?_update_self _ ha (Obj.isFreed_of_fields (Obj.data_mapFields hd _))⟩
 ·exact⟨o,by rw[Heap.get?_update_other _ _ (Ne.symm hb)];exact e⟩
section
variable {M:Model} {A:Around} {E:Value->Shared->Prop} {s:Shared} {base:Heap} {env:Env} {outer:List Env} {L a T:Addr} {C:Value}
theorem qi1{oa:Obj}{vs:Array Value}{head:Value}{more:Bool}{Q:Unit->Shared->Prop}(hfr:A.frames=some (env::outer))(hl:s.heap.FunFrames base (env::outer))(hf:env.frame=some L)
  (ha:s.heap.get? a=some oa) (hdn:oa.dict=none) (hd:oa.data=.fields vs) (hz:1<vs.size) (hb2:Bare2 oa.cls vs) (k:∀g T,Nk (frs (env::outer)) [a] s.heap g->s.heap.objs.size<=T->FlT g a oa.cls T (rawInt L)->Q () { s with heap:=g }) :
  wpAny M A (do let fr ←frameOf env;let pl ←entryPlaceOf L more;let b ←EntryCells.newEntry head fr .none (rawInt L) .none pl;setField (.ref a) 1 b) Q E s:=by
 have nofr:a∉frs (env::outer):=λhm=>by
  obtain⟨_,o,ho,no⟩:=hl.mem hm
  rw[ha] at ho
  cases ho
  exact no vs hd
 refine wpAny_bind (wpAny_frameOf_fun hfr hl hf λg1 so=>wpAny_bind (wpAny_entryPlaceOf λpl ip=>?_))
 unfold EntryCells.newEntry newFields
 refine wpAny_bind (wpAny_newObj_type ?_ (ip.sizeOk5 _ _ _ _ _))
 have a1:g1.get? a=some oa:=(so.2.1 a nofr).trans ha
 have lt1:a<g1.objs.size:=Heap.lt_size a1
 refine wpAny_setField (Heap.get?_push_of_some _ a1) hd hz (k _ g1.objs.size ⟨λb o nb nc e=>?_,λb o mb nc e=>?_,λb o e=>?_⟩ (by rw[so.1];exact Nat.le_refl _) ?_)
 ·have hb:b≠a:=λz=>nc (by simp[z])
  rw[Heap.get?_update_other _ _ (Ne.symm hb)]
  exact Heap.get?_push_of_some _ ((so.2.1 b nb).trans e)
 ·have hb:b≠a:=λz=>nc (by simp[z])
  obtain⟨sl,q⟩:=so.2.2 b o e
  exact⟨sl,by rw[Heap.get?_update_other _ _ (Ne.symm hb)];exact Heap.get?_push_of_some _ q⟩
 ·obtain⟨sl,q⟩:=so.2.2 b o e
  exact qft (Heap.get?_push_of_some _ a1) hd (Heap.get?_push_of_some _ q)
 ·have hne:g1.objs.size≠a:=Nat.ne_of_gt lt1
  refine⟨_,_,_,_,Heap.get?_update_self _ (Heap.get?_push_of_some _ a1) (Obj.isFreed_of_fields (Obj.data_mapFields hd _)),⟨Obj.cls_mapFields _ _,(qta _ _).trans hdn⟩,Obj.data_mapFields hd _,(by simp[hz]),hne,(Heap.get?_update_other _ _ (Ne.symm hne)).trans (Heap.get?_push_size g1 rfl),rfl,?_,hb2.set⟩
  first
  |(simp;done)
  |(rcases ip with rfl|⟨_,_,_,_,_,_,_,rfl⟩<;>simp)
theorem qo4{Q:Unit->Shared->Prop}(hfr:A.frames=some (env::outer))(hl:s.heap.FunFrames base (env::outer))(hf:env.frame=some L)(r:FlR s.heap a C)
  (k:∀g T,Nk (frs (env::outer)) [a] s.heap g->s.heap.objs.size<=T->FlT g a C T (rawInt L)->Q () { s with heap:=g }):wpAny M A (noteFrame (.ref a) env) Q E s:=by
 obtain⟨oa,vs,ha,⟨hc,hdn⟩,hd,h1,hb⟩:=r
 subst hc
 unfold noteFrame
 simp only[hf]
 refine wpAny_bind (wpAny_field ha hd h1 ?_)
 rw[if_neg (by decide)]
 exact qi1 hfr hl hf ha hdn hd (Array.getElem?_eq_some_iff.mp h1).1 hb k
theorem qtf{Q:Unit->Shared->Prop}(hfr:A.frames=some (env::outer))(hl:s.heap.FunFrames base (env::outer))(hf:env.frame=some L){fl:Value}(r:FlT s.heap a C T fl)(hne:¬ (fl==rawInt L)=true)
  (k:∀g U,Nk (frs (env::outer)) [a,T] s.heap g->s.heap.objs.size<=U->FlT g a C U (rawInt L)->Q () { s with heap:=g }):wpAny M A (noteFrame (.ref a) env) Q E s:=by
 obtain⟨oa,vs,oT,ts,ha,⟨hc,hdn⟩,hd,h1,ne,hT,hdT,h3,hb2⟩:=r
 subst hc
 unfold noteFrame
 simp only[hf]
 refine wpAny_bind (wpAny_field ha hd h1 ?_)
 rw[if_pos (show (Value.ref T != Value.none)=true by simp)]
 refine wpAny_bind (wpAny_field hT hdT h3 ?_)
 rw[if_neg hne]
 refine wpAny_bind (wpAny_setField hT hdT (Array.getElem?_eq_some_iff.mp h3).1 ?_)
 have oth:∀b,b≠T->(s.heap.update T (Obj.mapFields (·.setIfInBounds 3 Value.none))).get? b=s.heap.get? b:=λb hb=>Heap.get?_update_other _ _ (Ne.symm hb)
 have hl2:(s.heap.update T (Obj.mapFields (·.setIfInBounds 3 Value.none))).FunFrames base (env::outer):=hl.of_keeps λb o e no=>⟨o,(oth b λz=>by subst z;rw[hT] at e;cases e;exact no ts hdT).trans e,rfl⟩
 refine qi1 (s:={ s with heap:=s.heap.update T (Obj.mapFields (·.setIfInBounds 3 Value.none)) }) hfr hl2 hf ((oth a (Ne.symm ne)).trans ha) hdn hd (Array.getElem?_eq_some_iff.mp h1).1 hb2 λg U nk sz fl=>k g U ⟨λb o nb nc e=>?_,λb o mb nc e=>?_,λb o e=>?_⟩ ?_ fl
 ·have hb:b≠T:=λz=>nc (by simp[z])
  exact nk.keep b o nb (λz=>nc (by simp at z;simp[z])) ((oth b hb).trans e)
 ·have hb:b≠T:=λz=>nc (by simp[z])
  exact nk.slot b o mb (λz=>nc (by simp at z;simp[z])) ((oth b hb).trans e)
 ·obtain⟨u,q⟩:=qft (i:=3) (x:=Value.none) hT hdT e
  exact nk.there b u q
 ·have e:(s.heap.update T (Obj.mapFields (·.setIfInBounds 3 Value.none))).objs.size=s.heap.objs.size:=Heap.size_after_update ..
  rw[←e]
  exact sz
theorem qcp{fl:Value}{Q:Unit->Shared->Prop}(r:FlT s.heap a C T fl)(k:∀g,Nk [] [T] s.heap g->FlT g a C T .none->g.objs.size=s.heap.objs.size->Q () { s with heap:=g }):wpAny M A (setFlight (.ref a) none) Q E s:=by
 obtain⟨oa,vs,oT,ts,ha,hc,hd,h1,ne,hT,hdT,h3,hb2⟩:=r
 have h3z:=(Array.getElem?_eq_some_iff.mp h3).1
 have oth:∀b,b≠T->(s.heap.update T (Obj.mapFields (·.setIfInBounds 3 Value.none))).get? b=s.heap.get? b:=λb hb=>Heap.get?_update_other _ _ (Ne.symm hb)
 refine wpAny_setFlight_none ha hd h1 hT hdT h3z (k _ ⟨λb o _ nc e=>(oth b λz=>nc (by simp[z])).trans e,λb o mb _ _=>(nomatch mb),λb o e=>qft hT hdT e⟩ ?_ (Heap.size_after_update ..))
 exact⟨oa,vs,_,_,(oth a (Ne.symm ne)).trans ha,hc,hd,h1,ne,Heap.get?_update_self _ hT (Obj.isFreed_of_fields (Obj.data_mapFields hdT _)),Obj.data_mapFields hdT _,by simp[h3z],hb2⟩
theorem qla{ts:List Addr}{Q:Unit->Shared->Prop}(hfr:A.frames=some (env::outer))(hl:s.heap.FunFrames base (env::outer))(hf:env.frame=some L)(r:Fly s.heap a C ts)
  (k:∀g U,Nk (frs (env::outer)) (a::ts) s.heap g->(s.heap.objs.size<=U\/U∈ts)->FlT g a C U .none->Q () { s with heap:=g }) :
  wpAny M A (noteFrame (.ref a) env) (λ_ s2=>wpAny M A (setFlight (.ref a) none) Q E s2) E s:=by
 have fin:∀(ch:List Addr) (g:Heap) (U:Addr),(∀b∈ch,b∈a::ts)->Nk (frs (env::outer)) ch s.heap g->s.heap.objs.size<=U->FlT g a C U (rawInt L)->wpAny M A (setFlight (.ref a) none) Q E { s with heap:=g }:=λch g U sub nk sz fl=>by
  refine qcp (s:={ s with heap:=g }) fl λg2 nk2 fl2 _=>k g2 U ⟨λb o nb nc e=>?_,λb o mb nc e=>?_,λb o e=>?_⟩ (.inl sz) fl2
  ·have hU:b≠U:=Nat.ne_of_lt (Nat.lt_of_lt_of_le (Heap.lt_size e) sz)
   exact nk2.keep b o (by simp) (by simpa using hU) (nk.keep b o nb (λz=>nc (sub b z)) e)
  ·have hU:b≠U:=Nat.ne_of_lt (Nat.lt_of_lt_of_le (Heap.lt_size e) sz)
   obtain⟨sl,q⟩:=nk.slot b o mb (λz=>nc (sub b z)) e
   exact⟨sl,nk2.keep b _ (by simp) (by simpa using hU) q⟩
  ·obtain⟨u,q⟩:=nk.there b o e
   exact nk2.there b u q
 cases ts with
|nil=>exact qo4 hfr hl hf r λg U nk sz fl=>fin [a] g U (λb hb=>by simpa using hb) nk sz fl
|cons T r' =>
  obtain⟨hr,f0,r⟩:=r
  by_cases hne:(f0==rawInt L)=true
  ·have e0:f0=rawInt L:=eq_of_beq hne
   subst e0
   subst hr
   obtain⟨oa,vs,oT,tv,ha,hc,hd,h1,ne,hT,hdT,h3,hb2⟩:=r
   refine wpAny_noteFrame_inFlight hf ha hd h1 hT hdT h3 ?_
   exact qcp ⟨oa,vs,oT,tv,ha,hc,hd,h1,ne,hT,hdT,h3,hb2⟩ λg nk fl _=>k g T ⟨λb o _ nc e=>nk.keep b o (by simp) (λz=>nc (by simp at z;simp[z])) e,λb o _ nc e=>⟨o.slots,nk.keep b o (by simp) (λz=>nc (by simp at z;simp[z])) e⟩,nk.there⟩ (.inr List.mem_cons_self) fl
  subst hr
  exact qtf hfr hl hf r hne λg U nk sz fl=>fin [a,T] g U (λb hb=>by simpa using hb) nk sz fl
end
section
variable {X:Cx} {pins:List (Addr×Obj)} {σ:St} {H:Hp} {s:Shared} {a:Addr} {ts:List Addr} {C:Addr}
def FpN(X:Cx)(pins:List (Addr×Obj))(H:Hp)(b:Addr):Prop :=
 H b=none/\b≠X.env.locals/\b∉X.fs/\X.s₀.heap.get? b=none/\(∀x c,X.env.cells.lookup x=some c->c≠b)/\∀p∈X.pn++pins,p.1≠b
theorem Inv.fpN{H':Hp}{b:Addr}(I:Inv X pins σ H s)(hx:X.ex=[])(hb:s.heap.get? b=none)(hn:H' b=none):FpN X pins H' b:=by
 have no:∀(d:Addr) (o:Obj),X.s₀.heap.get? d=some o->d≠b:=λd o e z=>by
  obtain⟨o',e'⟩:=I.base.there d o e (by rw[hx];exact λy=>nomatch y)
  rw[z,hb] at e'
  cases e'
 refine⟨hn,λz=>?_,λz=>?_,?_,λx c e z=>?_,λp hp z=>?_⟩
 ·obtain⟨m,⟨o,_,_,ho,_⟩,_⟩:=I.loc
  rw[←z,hb] at ho
  cases ho
 ·obtain⟨_,o,ho,_⟩:=I.ok.funs.mem z
  exact no b o ho rfl
 ·cases q:X.s₀.heap.get? b with
 |none=>rfl
 |some o=>exact absurd rfl (no b o q)
 ·obtain⟨v,o,ho,_⟩:=I.cell x c e
  rw[z,hb] at ho
  cases ho
 ·have e:=(I.pin p hp).1
  rw[z,hb] at e
  cases e
theorem Inv.exMore{ch:List Addr}(I:Inv X pins σ H s)(f:∀b∈ch,FpN X pins H b):Inv { X with ex:=ch++X.ex } pins σ H s:=by
 refine⟨⟨I.ok.mod,I.ok.kind,I.ok.glob,I.ok.blt,I.ok.above,I.ok.inj,I.ok.has,I.ok.cab,I.ok.hd,I.ok.frames,I.ok.stk,λb hb=>?_,I.ok.bs,I.ok.bsz,λb o e hb=>?_,λb hb=>?_,I.ok.funs,I.ok.frf⟩,I.os,I.bare,
  ⟨λb o e n h1 h2=>?_,λb o e n h1 h2=>?_,λb o e n h2=>?_,λb o e h2=>?_,I.base.tups,I.base.frzs,I.base.tbls⟩,I.loc,I.cell,I.free,I.freeC,I.pin,I.hok,I.len⟩
 ·rcases List.mem_append.mp hb with z|z
  ·exact⟨(f b z).2.1,(f b z).2.2.2.2.1⟩
  ·exact I.ok.exf b z
 ·rcases List.mem_append.mp hb with z|z
  ·have q:=(I.ok.bs b o e).1
   rw[(f b z).2.2.2.1] at q
   cases q
  ·exact I.ok.noex b o e z
 ·rcases List.mem_append.mp hb with z|z
  ·exact(f b z).2.2.1
  ·exact I.ok.exfs b z
 ·exact I.base.keep b o e n h1 λz=>h2 (List.mem_append.mpr (.inr z))
 ·exact I.base.slot b o e n h1 λz=>h2 (List.mem_append.mpr (.inr z))
 ·exact I.base.free b o e n λz=>h2 (List.mem_append.mpr (.inr z))
 ·exact I.base.there b o e λz=>h2 (List.mem_append.mpr (.inr z))
theorem Inv.exLess{ch:List Addr}(ok:X.Ok)(f:∀b∈ch,X.s₀.heap.get? b=none)(I:Inv { X with ex:=ch++X.ex } pins σ H s):Inv X pins σ H s:=by
 have no:∀(b:Addr) (o:Obj),X.s₀.heap.get? b=some o->b∉X.ex->b∉ch++X.ex:=λb o e hx z=>by
  rcases List.mem_append.mp z with z|z
  ·rw[f b z] at e
   cases e
  ·exact hx z
 exact⟨ok,I.os,I.bare,⟨λb o e n h1 h2=>I.base.keep b o e n h1 (no b o e h2),λb o e n h1 h2=>I.base.slot b o e n h1 (no b o e h2),λb o e n h2=>I.base.free b o e n (no b o e h2),λb o e h2=>I.base.there b o e (no b o e h2),I.base.tups,I.base.frzs,I.base.tbls⟩,
  I.loc,I.cell,I.free,I.freeC,I.pin,I.hok,I.len⟩
theorem Inv.noted{g:Heap}(I:Inv X pins σ H s)(fa:∀b∈a::ts,FpN X pins H b)(nk:Nk (frs X.stack) (a::ts) s.heap g):Inv X pins σ H { s with heap:=g }:=by
 have trk:∀c u,H c=some u->c∉frs X.stack/\c∉a::ts:=λc u e=>⟨λz=>(by rw[I.stkFree c z] at e;cases e),λz=>(by rw[(fa c z).1] at e;cases e)⟩
 have hok:HOk X.prog X.w H g:=λb u e=>(I.hok b u e).stay (λc v hc q=>by
  rcases hc with z|z
  ·rw[z] at q ⊢
   exact nk.keep b v (trk b u e).1 (trk b u e).2 q
  ·exact nk.keep c v (trk c _ z).1 (trk c _ z).2 q) (λ_ q=>q) λ_ _ q=>q
 have I1:=I.exMore fa
 refine Inv.exLess I.ok (λb hb=>(fa b hb).2.2.2.1) (I1.call (g':=s.gens) (t':=s.toks) (d':=s.drawn) (ch:=a::ts) ⟨λb o e _ hb hx=>nk.keep b o hb hx e,λb o e _ hb hx=>nk.slot b o hb hx e,λ_ _ _ n _=>n,λb o e _=>nk.there b o e,λ_ _ q=>q,λ_ _ _ q=>q,λ_ ps q=>⟨#[],by rw[q];simp⟩⟩ hok I.bare
  λb hb=>⟨.inl (List.mem_append.mpr (.inl hb)),(fa b hb).2.1,(fa b hb).2.2.2.2.1,(fa b hb).2.2.2.2.2⟩)
def FlyX(X:Cx)(pins:List (Addr×Obj))(H:Hp)(s:Shared)(a C:Addr):Prop:=∃ts,(∀b∈a::ts,FpN X pins H b)/\Fly s.heap a (.ref C) ts
def Out(X:Cx)(EX:St->XK):Prop:=∀(pins:List (Addr×Obj)) (σ:St) (H:Hp) (s:Shared) (a C:Addr),Inv X pins σ H s->FlyX X pins H s a C->EX σ (.ref C) none H->X.xe (.ref a) s
end
def CXR(P:Program)(w:World):CXT:=λouter H s E e s'=>∃a C H' T,e=.ref a/\s'.os=s.os/\AllBare s'.gens/\Un (frs outer) [] H H' s.heap s'.heap/\HOk P w H' s'.heap/\FlT s'.heap a (.ref C) T .none /\
 s.heap.get? a=none/\s.heap.get? T=none/\H' a=none/\H' T=none/\E (.ref C) none H'
theorem Out.pass{X:Cx}{EX:St->XK}(o:Out X EX)(hx:X.ex=[]){pins:List (Addr×Obj)}{σ:St}{H:Hp}{s s':Shared}{e:Value}(I:Inv X pins σ H s)(h:CXR X.prog X.w X.stack H s (EX σ) e s'):X.xe e s':=by
 obtain⟨a,C,H',T,rfl,ho,hg,u,hok,fl,sa,sT,na,nT,q⟩:=h
 have I2:Inv X pins σ H' s':=I.call' (ch:=[]) ho (u.mono (λ_ z=>z) λ_ z=>z) hok hg λb hb=>nomatch hb
 refine o pins σ H' s' a C I2 ⟨[T],λb hb=>?_,rfl,_,fl⟩ q
 rcases List.mem_cons.mp hb with z|z
 ·subst z
  exact I.fpN hx sa na
 ·have z':b=T:=by simpa using z
  subst z'
  exact I.fpN hx sT nT
theorem q6r{X:Cx}{P:Program}{w:World}:qgj (CXR P w) X E0:=by
 intro pins σ H s e s' I h
 obtain⟨_,_,_,_,_,_,_,_,_,_,_,_,_,_,q⟩:=h
 exact q.elim
section
variable {P:Program} {w:World} {K:PySem.W.Frag} {mg:Str->Option Value} {base:Heap}
theorem q0n{N:List Str}{qual:Str}{scope:Scope}{f:Addr}{cd:Value}{A:Around}{outer:List Env}{s:Shared}{H:Hp}{E:XK}:Out (cxOf (CXR P w) P w K mg base N qual scope f cd A outer s H E) λ_=>E:=by
 intro pins σ H' s' a C I fly e
 obtain⟨ts,fa,r⟩:=fly
 show wpAny (model P w) (A.deeper (envOfC qual scope s.heap.objs.size f cd)) (leaving (envOfC qual scope s.heap.objs.size f cd) (.ref a)) _ _ s'
 unfold leaving
 refine wpAny_bind (qla (L:=s.heap.objs.size) I.ok.frames I.stack rfl r λg U nk sz fl=>?_)
 have I2:=I.noted fa nk
 have old:∀b,b∈a::ts->s.heap.get? b=none:=λb hb=>(fa b hb).2.2.2.1
 exact⟨a,C,H',U,rfl,I2.os,I2.bare,I2.base,I2.hok,fl,old a List.mem_cons_self,sz.elim (λsz=>Heap.get?_none_of_le (Nat.le_trans I.sz sz)) λm=>old U (List.mem_cons_of_mem _ m),(fa a List.mem_cons_self).1,sz.elim (λsz=>I.hok.fresh sz) λm=>(fa U (List.mem_cons_of_mem _ m)).1,e⟩
theorem Fun.okX{x qual:Str}{st:Stmt}{f:Addr}{fd:FuncData}{N ps:List Str}{k:Nat}{sp:Sp}(F:Fun K x qual st f fd)(S:FnScope N ps (qaf st))(len:∀vs H Q E,sp vs H Q E->vs.length=ps.length)
  (hbody:∀(cdv:Value) (A:Around) (outer:List Env) (s:Shared) (H:Hp) (vs:List V) (Q:VK) (E:XK),Room k (A.deeper (envOfC qual (qaf st) s.heap.objs.size f cdv))->sp vs H Q E ->
   Out (cxOf (CXR P w) P w K mg base N qual (qaf st) f cdv A outer s H E) (λ_=>E) ->
   ∃t,QSs (cxOf (CXR P w) P w K mg base N qual (qaf st) f cdv A outer s H E) (qbq st) t/\t { nx:=λ_ H'=>Q .non H',rt:=Q } (start N vs) H):FnOk P w K mg base (CXR P w) (k+1) f fd ps sp:=by
 obtain⟨oc,od,kV,doc,pm,an,cdv,ct,osl,rfl,lk,hcd⟩:=F.ex
 refine q20 lk hcd S len λA outer s H vs Q E hr hsp=>?_
 obtain⟨t,h,q⟩:=hbody cdv A outer s H vs Q E hr hsp q0n
 exact⟨t,h.u,q⟩
end
inductive CalX(P:Program)(w:World)(K:PySem.W.Frag)(mg:Str->Option Value)(base:Heap)(k:Nat)(x:Str)(ps:List Str)(sp:Sp):Prop where
|mk {f:Addr} {fd:FuncData} (F:FnOk P w K mg base (CXR P w) k f fd ps sp) (hm:mg x=some (.ref f)) (hk:PySem.W.keepIn K (.ref f)=true) (hb:Binds K fd ps [])
def q5m(sp:Sp)(EX:St->XK)(t:TA):TE:=λσ H Q=>t σ H λvs H1=>sp (vs++[]) H1 Q (EX σ)
section
variable {X:Cx} {k:Nat} {ps:List Str} {sp:Sp} {x:Str} {p pos:Pos} {e:Expr} {es:List Expr} {t:TA} {EX:St->XK}
theorem q7f{f:Addr}{fd:FuncData}{pins:List (Addr×Obj)}{σ:St}{H:Hp}{s:Shared}{Q:VK}{us:List Value}{vs:List V}(F:FnOk X.prog X.w X.K X.mg X.base (CXR X.prog X.w) k f fd ps sp)(hr:Room k X.A)(hb:Binds X.K fd ps [])(o:Out X EX)(hx:X.ex=[])
  (I:Inv X pins σ H s) (r:Vals vs us) (h:sp (vs++[]) H Q (EX σ)):wpAny (model X.prog X.w) X.A (call (.ref f) us) (EP X pins σ Q) X.xe s:=by
 have rr:Vals (vs++[]) (us++[]):=r.append .nil
 have ll:(us++[]).length=ps.length:=rr.length▸F.len _ _ _ _ h
 have run:=F.run X.A X.stack s H ⟨us,[]⟩ (us++[]) (vs++[]) Q (EX σ) hr I.env0 (hb s us I.kIn ll) rr h
 refine wpAny_call (codeAny_mono run fun
 |.error _,_,z=>o.pass hx I z
 |.ok (.ret _),_,z=>I.after z
 |.ok .next,_,z=>z.elim
 |.ok .brk,_,z=>z.elim
 |  .ok .cont,_,z=>z.elim)
theorem q1d(C:CalX X.prog X.w X.K X.mg X.base k x ps sp)(o:Out X EX)(hr:Room k X.A)(hg:Gl X x)(ha:QA X (e::es) t)(hx:X.ex=[]:=by rfl)(hp:(e::es).all qaq=true:=by rfl)(hdb:(x==("__debug__" : Str))=false:=by decide) :
  QE X (.Call (.Name x p) (e::es) [] pos) (q5m sp EX t):=by
 cases C with
|mk F hm hk hb =>
  refine⟨λpins s σ H Q I h=>wpAny_Call_Name_kw (qek I hg hm ?_ hdb)⟩
  exact PySem.W.callWith_K (h₀:=X.base) I.ok.mod.kin hk (thn (ha.u pos pins s σ H _ I h) λus s1 ⟨vs,H1,I1,r,q⟩=>⟨I1.kIn,q7f F hr hb o hx I1 r q⟩) (qa9 (all2 hp).1) (qcj (all2 hp).2)
theorem q1b(C:CalX X.prog X.w X.K X.mg X.base k x ps sp)(hr:Room k X.A)(hg:Gl X x)(ha:QA X (e::es) t)(hp:(e::es).all qaq=true:=by rfl)(hdb:(x==("__debug__" : Str))=false:=by decide) :
  QE X (.Call (.Name x p) (e::es) [] pos) (qua sp [] E0 t):=by
 cases C with
|mk F hm hk hb=>exact⟨qnq F hr hg hm hk hb .nil q6r ha.u hdb (qa9 (all2 hp).1) (qcj (all2 hp).2)⟩
end
abbrev bmV:List Value:=[.type "ValueError",.type "Exception",.type "BaseException",.type "object"]
abbrev OwnX(K:PySem.W.Frag)(C:Addr):Prop:=PySem.W.excIn K C bmV "ValueError.__new__" = true
theorem qlt{K:PySem.W.Frag}{h:Heap}{C:Addr}(X:K.In h)(q:OwnX K C):∃bm N nm qn bs hdct sn sub ab col dd k0 k1 k2 k3 k5 mN,
  h.get? C=some (excClassObj nm qn C N bs bm hdct sn sub ab col dd k0 k1 k2 k3 k5 "ValueError.__new__")/\h.Ns N mN/\mN "__init__" = none/\OwnTail h bmV bm:=by
 unfold OwnX PySem.W.excIn at q
 split at q
 ·rename_i dct cld slt look
  split at q
  ·rename_i C1 rest j0 j1 j2 j3 nw j5 em es
   simp only[Bool.and_eq_true,beq_iff_eq,Bool.not_eq_true'] at q
   obtain⟨⟨⟨⟨⟨c1,c2⟩,c3⟩,c4⟩,c5⟩,c6⟩:=q
   subst c1 c2
   cases cld with
  |mk nm bs mro ns qn hd sn sub ab col del =>
    obtain⟨l⟩:=slt
    dsimp only at em es c3 c5 c6
    subst em c3 es
    exact⟨rest,ns,nm,qn,bs,hd,sn,sub,ab,col,dct,j0,j1,j2,j3,j5,_,X _ _ look,.of_isNs (PySem.W.isNs_of_in X c5),PySem.W.nsMap_none_of_in X c5 c6,PySem.W.tail_of_in X c4⟩
  ·cases q
 ·cases q
theorem ObjOk.here{P:Program}{w:World}{H:Hp}{h:Heap}{a:Addr}{o:HO}(x:ObjOk P w H h a o):∃ob,h.get? a=some ob:=by
 cases o with
|lst xs=>obtain⟨_,_,_,_,e⟩:=x;exact⟨_,e⟩
|tup xs=>obtain⟨_,_,_,p⟩:=x;obtain⟨ob,e,_⟩:=p;exact⟨ob,e⟩
|dK kvs=>obtain⟨_,_,_,_,ob,_,_,e,_⟩:=x;exact⟨_,e⟩
|dT kvs=>obtain⟨_,_,_,_,ob,_,_,e,_⟩:=x;exact⟨_,e⟩
|set S n=>obtain⟨ob,_,_,_,e,_⟩:=x;exact⟨_,e⟩
|ins C dx fs=>obtain⟨_,_,_,e,_⟩:=x;exact⟨_,e⟩
|own y=>exact x
|xd fs=>obtain⟨_,⟨_,_,_,e,_⟩,_⟩:=x;exact⟨_,e⟩
|met f y=>exact⟨_,x⟩
|rng lo hi=>obtain⟨_,_,_,e⟩:=x;exact⟨_,e⟩
|frz ob u=>exact⟨_,x.1⟩
|tbl ps=>exact⟨_,x⟩
|ext φ=>exact x.2.1
section
variable {X:Cx} {pins:List (Addr×Obj)} {σ:St} {H:Hp} {s:Shared}
theorem Inv.grown{h':Heap}(I:Inv X pins σ H s)(k:∀b o,s.heap.get? b=some o->h'.get? b=some o):Inv X pins σ H { s with heap:=h' }:=by
 refine I.call (g':=s.gens) (t':=s.toks) (d':=s.drawn) (ch:=[]) ⟨λb o e _ _ _=>k b o e,λb o e _ _ _=>⟨o.slots,k b o e⟩,λ_ _ _ n _=>n,λb o e _=>⟨o,k b o e⟩,λ_ _ q=>q,λ_ _ _ q=>q,λ_ ps q=>⟨#[],by rw[q];simp⟩⟩
  (λb u e=>(I.hok b u e).stay (λc v _ q=>k c v q) (λ_ q=>q) λ_ _ q=>q) I.bare λb hb=>nomatch hb
def q5s(C:Addr)(EX:St->XK)(t:TA):TS:=λ_ σ H=>t σ H λvs H1=>vs.length<=sizeLine/\EX σ (.ref C) none H1
theorem qww{x:Str}{C:Addr}{EX:St->XK}{np cpos pos:Pos}{e:Expr}{es:List Expr}{t:TA}(q:OwnX X.K C)(hm:X.mg x=some (.ref C))(hg:Gl X x)(hc:X.calm=true)(o:Out X EX)(ha:QA X (e::es) t)
  (hx:X.ex=[]:=by rfl) (hp:(e::es).all qaq=true:=by rfl) (hdb:(x==("__debug__" : Str))=false:=by decide) :
  QS X (.Raise (some (.Call (.Name x np) (e::es) [] cpos)) none pos) (q5s C EX t):=by
 refine⟨λpins s σ H D I h=>?_⟩
 obtain⟨bm,N,nm,qn,bs,hdct,sn,sub,ab,col,dd,k0,k1,k2,k3,k5,mN,hC,hN,hni,T⟩:=qlt I.ok.mod.kin q
 have st:starEach (e::es) X.env=(false,eval e X.env)::starEach es X.env:=qa9 (all2 hp).1
 have pl:(backTo cpos (starEach es X.env)).any (·.1)=false:=qcj (all2 hp).2
 refine wpAny_Raise_call_subU (C:=C) (nm:=nm) (q:=qn) (N:=N) (bs:=bs) (bm:=bm) (hdct:=hdct) (sn:=sn) (sub:=sub) (ab:=ab) (col:=col) (dd:=dd) (k0:=k0) (k1:=k1) (k2:=k2) (k3:=k3) (k5:=k5)
  PySem.F.excBase_ValueError (by decide) PySem.F.excBase_ValueError (mN:=mN) (T.hasType PySem.F.excBase_ValueError.hasBase) (I.ok.hd hc) (by rw[st];show (false||(backTo cpos (starEach es X.env)).any (·.1))=false;rw[pl];rfl) hni (qek I hg hm ⟨rfl,?_⟩ hdb)
 have run:=ha.u cpos pins s σ H _ I h
 rw[st] at run ⊢
 refine Calls.evalArgs_plain (thn run λus s1 ⟨vs,H1,I1,r,hl,qx⟩=>⟨rfl,by rw[←r.length];exact hl,I1.bk _ _ hC,hN.keeps I1.bk,T.keeps I1.bk,λh' a made=>?_⟩)
 obtain⟨tt,h1,h2,h3⟩:=made.there
 have I2:=I1.grown made.keeps
 have na:H1 a=none:=by
  cases z:H1 a with
 |none=>rfl
 |some u =>
   obtain⟨ob,eo⟩:=(I1.hok a u z).here
   rw[made.new] at eo
   cases eo
 exact o pins σ H1 _ a C I2 ⟨[],λb hb=>by
  have e:b=a:=by simpa using hb
  subst e
  exact I1.fpN hx made.new na,⟨_,_,h1,⟨rfl,rfl⟩,rfl,rfl,.inr rfl⟩⟩ qx
end
abbrev Cx.tryB(X:Cx)(pn:List (Addr×Obj))(E:Value->Shared->Prop):Cx:={ X with pn:=pn,xe:=E }
abbrev Cx.hand(X:Cx)(e:Value)(pn:List (Addr×Obj))(E:Value->Shared->Prop):Cx:={ X with A:=X.A.mark (some e),calm:=false,pn:=pn,xe:=E }
section
variable {X:Cx} {pins pins':List (Addr×Obj)} {σ:St} {H:Hp} {s:Shared} {E:Value->Shared->Prop} {e:Value}
theorem Inv.tryB(I:Inv X pins σ H s):Inv (X.tryB (X.pn++pins) E) [] σ H s :=
 ⟨⟨I.ok.mod,I.ok.kind,I.ok.glob,I.ok.blt,I.ok.above,I.ok.inj,I.ok.has,I.ok.cab,I.ok.hd,I.ok.frames,I.ok.stk,I.ok.exf,I.ok.bs,I.ok.bsz,I.ok.noex,I.ok.exfs,I.ok.funs,I.ok.frf⟩,I.os,I.bare,I.base,I.loc,I.cell,I.free,I.freeC,
  λp hp=>I.pin p (by simpa using hp),I.hok,I.len⟩
theorem Inv.untryB(I:Inv (X.tryB (X.pn++pins) E) pins' σ H s):Inv X pins σ H s :=
 ⟨⟨I.ok.mod,I.ok.kind,I.ok.glob,I.ok.blt,I.ok.above,I.ok.inj,I.ok.has,I.ok.cab,I.ok.hd,I.ok.frames,I.ok.stk,I.ok.exf,I.ok.bs,I.ok.bsz,I.ok.noex,I.ok.exfs,I.ok.funs,I.ok.frf⟩,I.os,I.bare,I.base,I.loc,I.cell,I.free,I.freeC,
  λp hp=>I.pin p (List.mem_append.mpr (.inl hp)),I.hok,I.len⟩
theorem Inv.hand(I:Inv X pins σ H s):Inv (X.hand e (X.pn++pins) E) [] σ H s :=
 ⟨⟨I.ok.mod,I.ok.kind,I.ok.glob,I.ok.blt,I.ok.above,I.ok.inj,I.ok.has,I.ok.cab,(λz=>nomatch z),I.ok.frames,I.ok.stk,I.ok.exf,I.ok.bs,I.ok.bsz,I.ok.noex,I.ok.exfs,I.ok.funs,I.ok.frf⟩,I.os,I.bare,I.base,I.loc,I.cell,I.free,I.freeC,
  λp hp=>I.pin p (by simpa using hp),I.hok,I.len⟩
theorem Inv.unhand(ok:X.Ok)(I:Inv (X.hand e (X.pn++pins) E) pins' σ H s):Inv X pins σ H s :=
 ⟨ok,I.os,I.bare,I.base,I.loc,I.cell,I.free,I.freeC,λp hp=>I.pin p (List.mem_append.mpr (.inl hp)),I.hok,I.len⟩
theorem SP.untryB{D:Ends}{f:Flow}(h:SP (X.tryB (X.pn++pins) E) pins' D f s):SP X pins D f s:=by
 cases f with
|next=>obtain⟨_,_,I,q⟩:=h;exact⟨_,_,I.untryB,q⟩
|brk=>obtain⟨_,_,I,q⟩:=h;exact⟨_,_,I.untryB,q⟩
|cont=>obtain⟨_,_,I,q⟩:=h;exact⟨_,_,I.untryB,q⟩
|ret u=>obtain⟨_,_,_,I,r,q⟩:=h;exact⟨_,_,_,I.untryB,r,q⟩
theorem SP.unhand{D:Ends}{f:Flow}(ok:X.Ok)(h:SP (X.hand e (X.pn++pins) E) pins' D f s):SP X pins D f s:=by
 cases f with
|next=>obtain⟨_,_,I,q⟩:=h;exact⟨_,_,I.unhand ok,q⟩
|brk=>obtain⟨_,_,I,q⟩:=h;exact⟨_,_,I.unhand ok,q⟩
|cont=>obtain⟨_,_,I,q⟩:=h;exact⟨_,_,I.unhand ok,q⟩
|ret u=>obtain⟨_,_,_,I,r,q⟩:=h;exact⟨_,_,_,I.unhand ok,r,q⟩
end
abbrev TH:=Value->TS
def PH(X:Cx)(hs:List ExceptHandler)(th:TH):Prop :=
 ∀(pins:List (Addr×Obj)) (s:Shared) (σ:St) (H:Hp) (D:Ends) (a C U:Addr),Inv X pins σ H s->FlT s.heap a (.ref C) U .none->FpN X pins H a->FpN X pins H U->th (.ref C) D σ H ->
  wpAny (model X.prog X.w) X.A (handleBy (.ref a) X.env hs) (SP X pins D) X.xe s
structure QH(X:Cx)(hs:List ExceptHandler)(th:TH):Prop where
 u:PH X hs th
def q7i:TH:=λ_ _ _ _=>False
def q5t(K:PySem.W.Frag)(c:Value)(t:TS)(th:TH):TH:=λC D σ H=>∃b,PySem.W.exmOne K C c=some b/\if b=true then t D σ H else th C D σ H
def tTry(tb:(St->XK)->TS)(th:TH):TS:=λD σ H=>tb (λσ' C _ H'=>th C D σ' H') D σ H
section
variable {X:Cx} {x:Str} {c:Value} {t:TS} {th:TH} {np pos:Pos} {b0:Stmt} {suite body:List Stmt} {rest:List ExceptHandler}
theorem q4w:QH X [] q7i:=⟨λ_ _ _ _ _ _ _ _ _ _ _ _ h=>h.elim⟩
theorem q1i(hm:X.mg x=some c)(hg:Gl X x)(hs:∀e pn E,QSs (X.hand e pn E) (b0::suite) t)(hr:QH X rest th)(hdb:(x==("__debug__" : Str))=false:=by decide) :
  QH X (.ExceptHandler (some (.Name x np)) none (b0::suite) pos::rest) (q5t X.K c t th):=by
 refine⟨λpins s σ H D a C U I fl fa fu ⟨b,hx,q⟩=>?_⟩
 obtain⟨oa,ha,hc⟩:=fl.there
 have IH:∀E,Inv (X.hand (.ref a) (X.pn++pins) E) [] σ H s:=λE=>I.hand
 refine wpAny_handleBy_cons (codeAny_handlers_test (qek (X:=X.hand (.ref a) (X.pn++pins) X.xe) (IH _) hg hm ?_ hdb)) (by intro z;cases z)
 have LT:PySem.W.Looks (model X.prog X.w) s.heap (typeOf (.ref a)) (.ref C):=by
  rw[←hc]
  exact(PySem.W.Looks.ld ha).andThen .now
 refine(PySem.W.exm_one I.kIn LT hx).here ?_
 cases b with
|false =>
  exact hr.u pins s σ H D a C U I fl fa fu q
|true =>
  refine codeAny_handlers_suite (qcp fl λg nk fl2 _=>?_)
  have I2:Inv X pins σ H { s with heap:=g }:=I.noted (a:=U) (ts:=[]) (λb hb=>by
   have e:b=U:=by simpa using hb
   rw[e]
   exact fu) ⟨λb o _ h2 e=>nk.keep b o (by simp) h2 e,λb o _ h2 e=>⟨o.slots,nk.keep b o (by simp) h2 e⟩,nk.there⟩
  refine thn ((hs (.ref a) (X.pn++pins) _).u [] _ σ H D I2.hand q) λf s2 z=>?_
  exact z.unhand I.ok
theorem q43{tb:(St->XK)->TS}{h0:ExceptHandler}(hb:∀pn E EX,PassesOwn (model X.prog X.w) X.A X.env E->Out (X.tryB pn E) EX->QSs (X.tryB pn E) body (tb EX))(hh:QH X (h0::rest) th)(hst:X.stack=X.env::X.outer:=by rfl)(hfr:X.env.frame=some X.env.locals:=by rfl)(hx:X.ex=[]:=by rfl) :
  QS X (.Try body (h0::rest) [] [] pos) (tTry tb th):=by
 refine⟨λpins s σ H D I h=>wpAny_Try_except ?_⟩
 refine wpAny_mono ((hb (X.pn++pins) _ _ PassesOwn.looking ?_).u [] s σ H D I.tryB h) (λf s2 z=>?_) λ_ _ z=>z
 ·intro pins1 σ1 H1 s1 a C I1 ⟨ts,fa,r⟩ q
  have I2:Inv X pins σ1 H1 s1:=I1.untryB
  have fa2:∀b∈a::ts,FpN X pins H1 b:=λb hb=>⟨(fa b hb).1,(fa b hb).2.1,(fa b hb).2.2.1,(fa b hb).2.2.2.1,(fa b hb).2.2.2.2.1,λp hp=>(fa b hb).2.2.2.2.2 p (List.mem_append.mpr (.inl hp))⟩
  refine qla (L:=X.env.locals) (by rw[←hst];exact I2.ok.frames) (by rw[←hst];exact I2.stack) hfr r λg U nk sz fl=>?_
  rw[←hst] at nk
  have I3:=I2.noted fa2 nk
  refine hh.u pins _ σ1 H1 D a C U I3 fl (fa2 a List.mem_cons_self) ?_ q
  exact sz.elim (λsz=>I2.fpN hx (Heap.get?_none_of_le sz) (I2.hok.fresh sz)) λm=>fa2 U (List.mem_cons_of_mem _ m)
 ·cases f with
 |next=>exact wpAny_execs_nil z.untryB
 |brk=>exact z.untryB
 |cont=>exact z.untryB
 |ret u=>exact z.untryB
end
def wipe(σ:St):St:=List.replicate σ.length none
def Ends.wiped(D:Ends):Ends:={ nx:=λσ H=>D.nx (wipe σ) H,rt:=D.rt,bk:=λσ H=>D.bk (wipe σ) H,ct:=λσ H=>D.ct (wipe σ) H }
theorem qvb{σ:St}{j:Nat}{v:V}(e:(wipe σ)[j]?=some (some v)):False:=by
 unfold wipe at e
 obtain⟨h,e⟩:=List.getElem?_eq_some_iff.mp e
 rw[List.getElem_replicate] at e
 cases e
def excO(a C:Addr):HO:=.ext λh=>∃o,h.get? a=some o/\(o.cls=.ref C/\o.dict=none)/\PySem.W.notCls o=true
section
variable {X:Cx} {pins:List (Addr×Obj)} {σ:St} {H:Hp} {s:Shared} {a C:Addr}
theorem name_goes{M:Model}{A:Around}{E:Value->Shared->Prop}{n:Str}{pos:Pos}{Q:Unit->Shared->Prop}(I:Inv X pins σ H s)(hk:X.env.scope.names.lookup n=some .local)(h:∀s',Inv X pins (wipe σ) H s'->Q () s') :
  wpAny M A (do bindName X.env n .none;unbindBehindTheSuite X.env n pos) Q E s:=by
 obtain⟨m,hn,_⟩:=id I.loc
 obtain⟨oL,_,_,hoL,_⟩:=id hn
 refine wpAny_nameGoes hk hn (by rw[I.ok.kind];rfl) λh' m' hn' same=>h _ ?_
 have low:∀(b:Addr) (o:Obj),X.s₀.heap.get? b=some o->h'.get? b=s.heap.get? b:=λb o e=>same.2 b (Nat.ne_of_lt (Nat.lt_of_lt_of_le (Heap.lt_size e) I.ok.above))
 have hok:HOk X.prog X.w H h':=λb ob e=>by
  refine(I.hok b ob e).stay (λc u hc q=>(same.2 c λz=>?_).trans q) (λ_ q=>q) λ_ _ q=>q
  rw[z] at hc
  rcases hc with hc|hc
  ·rw[←hc,I.free] at e
   cases e
  ·rw[I.free] at hc
   cases hc
 refine⟨I.ok,I.os,I.bare,⟨λb o e n h1 h2=>(low b o e).trans (I.base.keep b o e n h1 h2),λb o e n h1 h2=>?_,I.base.free,λb o e h2=>?_,I.base.tups,I.base.frzs,I.base.tbls⟩,⟨m',hn',λj y v e1 e2 _=>(qvb e2).elim⟩,
  λx c e=>?_,I.free,I.freeC,λp hp=>?_,hok,?_⟩
 ·obtain⟨sl,z⟩:=I.base.slot b o e n h1 h2
  exact⟨sl,(low b o e).trans z⟩
 ·obtain⟨o',z⟩:=I.base.there b o e h2
  exact⟨o',(low b o e).trans z⟩
 ·obtain⟨v,z⟩:=I.cell x c e
  exact⟨v,z.sameBut same (I.cne x c e)⟩
 ·obtain⟨e,n,ne,nf,d⟩:=I.pin p hp
  exact⟨(same.2 p.1 ne).trans e,n,ne,nf,d⟩
 ·show (List.replicate σ.length none).length=_
  rw[List.length_replicate]
  exact I.len
theorem Inv.exc{o:Obj}(I:Inv X pins σ H s)(fa:FpN X pins H a)(e:s.heap.get? a=some o)(hc:o.cls=.ref C/\o.dict=none)(hd:PySem.W.notCls o=true):Inv X pins σ (upd H a (excO a C)) s:=by
 have fl:∀b∈[a],FpN X pins H b:=λb hb=>by
  have z:b=a:=by simpa using hb
  rw[z]
  exact fa
 have other:∀ {b:Addr} {u:HO},H b=some u->b≠a:=λ{b u} q z=>by rw[z,fa.1] at q;cases q
 have hok:HOk X.prog X.w (upd H a (excO a C)) s.heap:=λb u q=>by
  by_cases hb:b=a
  ·subst hb
   rw[qaw] at q
   cases q
   exact⟨⟨o,e,hc,hd⟩,⟨o,e⟩,λh1 h2 ⟨o1,y1,y2⟩ k=>⟨o1,k o1 y1,y2⟩⟩
  ·rw[qar hb] at q
   exact(I.hok b u q).stay (λ_ _ _ z=>z) (λc z=>by rw[qar (other z)];exact z) λc xs z=>by rw[qar (other z)];exact z
 refine Inv.exLess I.ok (λb hb=>(fl b hb).2.2.2.1) ((I.exMore fl).call (g':=s.gens) (t':=s.toks) (d':=s.drawn) (h':=s.heap) (ch:=[a]) ⟨λb o e _ _ _=>e,λb o e _ _ _=>⟨o.slots,e⟩,λb o _ n hx=>?_,λb o e _=>⟨o,e⟩,λb xs q=>?_,λb ob xs q=>?_,λb ps q=>⟨#[],?_⟩⟩ hok I.bare
  λb hb=>⟨.inl (List.mem_append.mpr (.inl hb)),(fl b hb).2.1,(fl b hb).2.2.2.2.1,(fl b hb).2.2.2.2.2⟩)
 ·rw[qar (λz=>hx (by simp[z]))]
  exact n
 ·rw[qar (other q)]
  exact q
 ·rw[qar (other q)]
  exact q
 ·rw[qar (other q),q]
  simp
end
def thAs(K:PySem.W.Frag)(c:Value)(i:Nat)(t:TS)(th:TH):TH:=λC D σ H=>∃b,PySem.W.exmOne K C c=some b /\
 if b=true then ∀(a Ca:Addr),C=.ref Ca->H a=none->t D.wiped (σ.set i (some (.ref a))) (upd H a (excO a Ca)) else th C D σ H
theorem SP.wiped{X:Cx}{pins:List (Addr×Obj)}{D:Ends}{f:Flow}{s:Shared}{M:Model}{A:Around}{E:Value->Shared->Prop}{n:Str}{pos:Pos}(hk:X.env.scope.names.lookup n=some .local)(h:SP X pins D.wiped f s) :
  wpAny M A (do bindName X.env n .none;unbindBehindTheSuite X.env n pos) (λ_ s'=>SP X pins D f s') E s:=by
 cases f with
|next=>obtain⟨_,_,I,q⟩:=h;exact name_goes I hk λs' I'=>⟨_,_,I',q⟩
|brk=>obtain⟨_,_,I,q⟩:=h;exact name_goes I hk λs' I'=>⟨_,_,I',q⟩
|cont=>obtain⟨_,_,I,q⟩:=h;exact name_goes I hk λs' I'=>⟨_,_,I',q⟩
|ret u=>obtain⟨_,_,_,I,r,q⟩:=h;exact name_goes I hk λs' I'=>⟨_,_,_,I',r,q⟩
section
variable {X:Cx} {x n:Str} {i:Nat} {c:Value} {t:TS} {th:TH} {np pos:Pos} {b0:Stmt} {suite body:List Stmt} {rest:List ExceptHandler}
theorem q67(hN:X.N.Nodup)(hi:X.N[i]?=some n)(hl:X.env.scope.names.lookup n=some .local)(hm:X.mg x=some c)(hg:Gl X x)(hs:∀e pn E,QSs (X.hand e pn E) (b0::suite) t)(hr:QH X rest th)(hdb:(x==("__debug__" : Str))=false:=by decide) :
  QH X (.ExceptHandler (some (.Name x np)) (some n) (b0::suite) pos::rest) (thAs X.K c i t th):=by
 refine⟨λpins s σ H D a C U I fl fa fu ⟨b,hx,q⟩=>?_⟩
 obtain⟨oa,ha,hc⟩:=fl.there
 have IH:∀E,Inv (X.hand (.ref a) (X.pn++pins) E) [] σ H s:=λE=>I.hand
 refine wpAny_handleBy_cons (codeAny_handlers_test (qek (X:=X.hand (.ref a) (X.pn++pins) X.xe) (IH _) hg hm ?_ hdb)) (by intro z;cases z)
 have LT:PySem.W.Looks (model X.prog X.w) s.heap (typeOf (.ref a)) (.ref C):=by
  rw[←hc]
  exact(PySem.W.Looks.ld ha).andThen .now
 refine(PySem.W.exm_one I.kIn LT hx).here ?_
 cases b with
|false =>
  exact hr.u pins s σ H D a C U I fl fa fu q
|true =>
  refine codeAny_handlers_suite_as (qcp fl λg nk fl2 _=>?_)
  have I2:Inv X pins σ H { s with heap:=g }:=I.noted (a:=U) (ts:=[]) (λb hb=>by
   have e:b=U:=by simpa using hb
   rw[e]
   exact fu) ⟨λb o _ h2 e=>nk.keep b o (by simp) h2 e,λb o _ h2 e=>⟨o.slots,nk.keep b o (by simp) h2 e⟩,nk.there⟩
  obtain⟨ob,hb,hcb,hnb⟩:=fl2.thing
  have I3:=I2.exc fa hb hcb hnb
  refine qki I3 hN hi (.inl hl) (v:=.ref a) rfl (λs3 I4=>?_) (.inr hl)
  refine thn ((hs (.ref a) (X.pn++pins) _).u [] _ _ _ D.wiped I4.hand (q a C rfl fa.1)) λf s2 z=>?_
  exact SP.wiped hl (z.unhand I.ok)
end
open PySem.W
structure ExcK(K:Frag)(C:Addr):Prop where
 ga:findIn K (.ref C) "__getattribute__" = some (some (.builtin "BaseException.__getattribute__"))
 gn:findIn K (.ref C) "__getattr__" = some none
 gc:findIn K (.ref C) "__class__" = some (some (.builtin "object.__class__"))
 mo:mroIn K C (.type "object")=some true
 mb:mroIn K C (.type "BaseException")=some true
 hd:hasDictIn K C=true
section
variable {prog:Program} {w:World} {A:Around} {E:Value->Shared->Prop} {h:Heap} {g:Array GenState} {d:Drawn} {t:Nat} {os:OsState} {K:Frag} {a C:Addr} {o:Obj}
theorem qso{M:Model}{nv:Value}{Q:Unit->Shared->Prop}(X:K.In h)(k:ExcK K C)(hx:h.get? a=some o)(hc:o.cls=.ref C)(q:Q () ⟨h,g,d,t,os⟩) :
  wpAny M A (checkBuiltinCall "BaseException.__getattribute__" ⟨[.ref a,nv],[]⟩) Q E ⟨h,g,d,t,os⟩:=by
 have k1:builtinKind "BaseException.__getattribute__" = some .slot:=by decide +kernel
 have k2:splitId "BaseException.__getattribute__" = some ("BaseException","__getattribute__"):=by decide +kernel
 have k3:=F.args_bexc_ga (.ref a) nv
 have LM:=looks_mroIn (M:=M) X k.mb
 simp only[checkBuiltinCall,k1,k2]
 refine wpAny_bind ?_
 unfold isInstance
 repeat (first|(with_reducible refine wpAny_loadPart_at hx ?_;rw[hc])|with_reducible refine LM.at ?_|wp_step)
 exact q
theorem qsq{tk:Tok}{Q:Fin->Shared->Prop}(X:K.In h)(k:ExcK K C)(hx:h.get? a=some o)(hc:o.cls=.ref C)(hn:notCls o=true)(hd:o.dict=none)(q:Q (.done (.ret (.ref C))) ⟨h,g,d,t,os⟩) :
  wpAny (model prog w) A (Builtin.«object.__getattribute__» ⟨[.ref a,.str "__class__" tk],[]⟩) Q E ⟨h,g,d,t,os⟩:=by
 have hT5:(⟨h,g,d,t,os⟩:Shared).TypeIs (.builtin "object.__class__") "getset_descriptor" := F.typeOf_object_class
 have f5:=F.typeOf_object_class
 have f6:=F.slot_gs_get.lookup
 have f7:=F.slot_gs_set.lookup
 have L1:=looks_findIn (M:=model prog w) X k.gc
 repeat (any_goals (first|assumption|(with_reducible refine wpAny_loadPart_at hx ?_;rw[hc])|with_reducible refine L1.at ?_|wp_step))
 refine class_get (s:=⟨h,g,d,t,os⟩) (ox:=o) (od:=none) X ⟨hx,hc,hn,by rw[hd];trivial⟩ k.mo ?_
 repeat (any_goals (first|assumption|wp_step))
theorem q2z{tk:Tok}{Q:Value->Shared->Prop}(X:K.In h)(k:ExcK K C)(hx:h.get? a=some o)(hc:o.cls=.ref C)(hn:notCls o=true)(hd:o.dict=none)(q:Q (.ref C) ⟨h,g,d,t,os⟩) :
  wpAny (model prog w) A (getAttrBy (.ref a) (.str "__class__" tk) false) Q E ⟨h,g,d,t,os⟩:=by
 have L1:=looks_findIn (M:=model prog w) X k.ga
 have L2:=looks_findIn (M:=model prog w) X k.gn
 have f3:=F.attrBase_ValueError.ga.bind (.ref a)
 have e2:(Value.builtin "BaseException.__getattribute__"==Value.builtin "object.__getattribute__")=false:=by decide +kernel
 have e1:(onTheHeap (Value.ref C)&&Value.builtin "BaseException.__getattribute__"==Value.builtin "object.__getattribute__")=false:=by rw[e2];rfl
 repeat (any_goals (first|assumption|(with_reducible refine wpAny_loadPart_at hx ?_;rw[hc])|with_reducible refine L1.at ?_|with_reducible refine L2.at ?_|wp_step))
 refine codeAny_call_builtin F.attrBase_ValueError.ga.plain F.entry_bexc_ga (qso X k hx hc (qsq X k hx hc hn hd ?_))
 repeat (any_goals (first|assumption|wp_step))
theorem qsp{Q:Option Value->Shared->Prop}(X:K.In h)(k:ExcK K C)(hx:h.get? a=some o)(hc:o.cls=.ref C)(hn:notCls o=true)(hd:o.dict=none)(q:Q (some (.ref C)) ⟨h,g,d,t+1,os⟩) :
  wpAny (model prog w) A (getAttr? (.ref a) "__class__") Q E ⟨h,g,d,t,os⟩:=by
 unfold getAttr? getAttrBy?
 repeat (any_goals (first|assumption|with_reducible apply q2z X k hx hc hn hd|wp_step))
end
theorem qxz{K:Frag}{C:Addr}(k:hasDictIn K C=true):∃c d cd sl,K.lookup C=some ⟨c,d,.cls cd,sl⟩:=by
 obtain⟨cd,e,_⟩:=any_some k
 unfold clsIn at e
 split at e
 ·rename_i look
  exact⟨_,_,_,_,look⟩
 ·cases e
theorem qow{K:Frag}{a C:Addr}(k:ExcK K C):KitX K (.ref a) (.ref C) (λh=>∃o,h.get? a=some o/\(o.cls=.ref C/\o.dict=none)/\notCls o=true) where
 ty:=λM h _ ⟨o,e,c,_⟩=>c.1▸(Looks.ld e).andThen .now
 it:=λM h X _=>by
  obtain⟨c,d,cd,sl,look⟩:=qxz k.hd
  intro A Q E s kk q
  unfold isType loadHead
  exact wpAny_bind (wpAny_loadPart (kk _ _ (X _ _ look)) (wpAny_pure q))
 ne:=λh tp dd its n sl X e=>by
  obtain⟨c,d,cd,sl',look⟩:=qxz k.hd
  refine Bool.eq_false_iff.mpr λq=>?_
  have z:C=tp:=Value.ref.inj (beq_iff_eq.mp q)
  subst z
  have y:=(X _ _ look).symm.trans e
  cases y
 ca:=λ{prog w A E Q s} X ⟨o,e,c,n⟩ q=>by
  obtain⟨h,g,d,t,os⟩:=s
  exact qsp X k e c.1 n c.2 q
section
variable {X:Cx}
theorem qk4:CallR X (.builtin "isinstance") (λxs H Q=>∃a C x c b,xs=[.ref a,x]/\H a=some (excO a C)/\ExcK X.K C/\(∀u,RelV x u->u=c)/\kitOne X.K (.ref C) c=some b/\Q (.bl b) H):=by
 intro pins s σ H xs us Q I r h
 obtain⟨a,C,x,c,b,rfl,ea,k,hc,e,q⟩:=h
 obtain⟨u,v,rfl,ru,rv⟩:=vals2 r
 cases (show u=Value.ref a from ru)
 cases hc v rv
 obtain⟨p,_,_⟩:=(show ObjOk X.prog X.w H s.heap a (excO a C) from I.hok a _ ea)
 exact kia_one (qow k) I.kIn p e (λz=>nomatch z) λtk=>⟨.bl b,H,I.tok tk,rfl,q⟩
theorem qjg:CallR X (.builtin "isinstance") (λxs H Q=>∃a C tp vs cs b,xs=[.ref a,.ref tp]/\H a=some (excO a C)/\H tp=some (.tup vs)/\ExcK X.K C/\(∀us,Vals vs us->us=cs)/\kitAny X.K (.ref C) cs=some b/\Q (.bl b) H):=by
 intro pins s σ H xs us Q I r h
 obtain⟨a,C,tp,vs,cs,b,rfl,ea,et,k,hc,e,q⟩:=h
 obtain⟨u,v,rfl,ru,rv⟩:=vals2 r
 cases (show u=Value.ref a from ru)
 cases (show v=Value.ref tp from rv)
 obtain⟨p,_,_⟩:=(show ObjOk X.prog X.w H s.heap a (excO a C) from I.hok a _ ea)
 obtain⟨_,its,rt,ob,hb,hcl,n,hdat⟩:=(show ObjOk X.prog X.w H s.heap tp (.tup vs) from I.hok tp _ et)
 cases hc its rt
 obtain⟨oc,od,oda,osl⟩:=ob
 dsimp only at hcl hdat
 subst hcl hdat
 exact kia_tup (qow k) I.kIn p hb e (λz=>nomatch z) λtk=>⟨.bl b,H,I.tok tk,rfl,q⟩
end
structure RoomH(k:Nat)(A:Around):Prop where
 dp:A.depth+3*k+5<recursionLimit
 un:A.units+16*k+200<cLine
structure FnOkH(P:Program)(w:World)(K:Frag)(mg:Str->Option Value)(base:Heap)(CX:CXT)(k:Nat)(f:Addr)(fd:FuncData)(ps:List Str)(sp:Sp):Prop where
 len:∀vs H Q E,sp vs H Q E->vs.length=ps.length
 run:∀(A:Around) (outer:List Env) (s:Shared) (H:Hp) (args:Args) (us:List Value) (vs:List V) (Q:VK) (E:XK),RoomH k A->Env0 P w K mg base A outer s H->BindsTo s fd args (ps.zip us)->Vals vs us->sp vs H Q E ->
  codeAny (model P w) A (.call (.ref f) args) (CR CX outer P w H s Q E) s
section
variable {P:Program} {w:World} {K:Frag} {mg:Str->Option Value} {base:Heap} {CX:CXT} {k:Nat} {f:Addr}
end
inductive CalH(P:Program)(w:World)(K:Frag)(mg:Str->Option Value)(base:Heap)(k:Nat)(x:Str)(ps:List Str)(sp:Sp):Prop where
|mk {f:Addr} {fd:FuncData} (F:FnOkH P w K mg base CX0 k f fd ps sp) (hm:mg x=some (.ref f)) (hk:keepIn K (.ref f)=true) (hb:Binds K fd ps [])
section
variable {X:Cx} {k:Nat} {ps:List Str} {sp:Sp} {x:Str} {p pos:Pos} {e:Expr} {es:List Expr} {t:TA}
end
end L2
namespace L2
open PySem PySem.Spec PyProof.Rows
section
variable {X:Cx} {o i e f value a b:Expr} {pos pos' tpos apos cpos:Pos} {td ty tv tx:TE}
theorem q1f(hu:X.A.units+1<cLine)(ho:QE X o td)(hi:QE X i ty)(hs:NoSl i:=by exact λ_ _=>rfl):QE X (.Subscript o i pos) (q5n td ty):=⟨q0u hu ho.u hi.u hs⟩
theorem q44(hu:X.A.units+1<cLine)(hi:QE X i ty)(ho:QE X o td)(hm:behindInMarks .In o=false:=by with_unfolding_all rfl):QT X (.Compare i [.In] [o] pos) (tB (tDIn ty td)):=⟨qyh (q33 hu hi.u ho.u) hm⟩
theorem qtx(hu:X.A.units+1<cLine)(hi:QE X i ty)(ho:QE X o td)(hm:behindInMarks .NotIn o=false:=by with_unfolding_all rfl):QT X (.Compare i [.NotIn] [o] pos) (tB (qub ty td)):=⟨qyh (qtl hu hi.u ho.u) hm⟩
theorem q1m(hu:X.A.units+1<cLine)(ho:QE X o td)(hi:QE X i ty)(hv:QE X value tv)(hs:swapsWith value (some (.Subscript o i pos')) pos.line X.env=pure false:=by rfl) :
  QS X (.Assign [.Subscript o i pos'] value pos) (q5j td ty tv):=⟨q02 hu ho.u hi.u hv.u hs⟩
theorem qws:QE X (.Dict [] [] pos) qyv:=⟨qwf⟩
theorem qwq(hu:X.A.units+1<cLine)(ho:QE X o td)(he:QE X e ty)(m:M1 X o "get" apos e cpos):QE X (.Call (.Attribute o "get" apos) [e] [] cpos) (qyu td ty):=⟨qwd hu ho.u he.u m⟩
end
end L2
namespace L2
open PySem PySem.Spec PyProof.Rows
inductive D where
|non
|bl (b:Bool)
|int (i:Int)
|str (x:Str)
|tup (xs:List D)
|lst (xs:List D)
|dT (ks:List (List Str)) (ds:List D)
|dK (ks:List Str) (ds:List D)
|scr (ns:List Int)
|kt (ss:List Str)
|exc (n:Str)
|io (c:Addr) (ds:List D)
|ioT (c:Addr) (ks:List (List Str)) (ds:List D)
|ob (c:Addr) (ds:List D)
|adr (c:Addr)
def clsOf(K:PySem.W.Frag)(n:Str)(C:Addr):Prop:=PySem.W.nsIn K mainGlobals n=some (some (.ref C))
def obN:List Str:=["layers"]
def wK(ws:List Str):List Key:=ws.map Sum.inr
def TupAt(K:PySem.W.Frag)(H:Hp)(a:Addr)(ds:List D)(xs:List V):Prop:=H a=some (.tup xs)\/(SqT K (λ_=>none) a xs/\ds=[.str "folder",.str ""])
mutual
def Rep(K:PySem.W.Frag)(H:Hp):D->V->Prop
|.non,v=>v=.non
|.bl b,v=>v=.bl b
|.int i,v=>v=.int i
|.str x,v=>v=.str x
|.tup ds,v=>∃a xs,v=.ref a/\TupAt K H a ds xs/\Reps K H ds xs
|.lst ds,v=>∃a xs,v=.ref a/\H a=some (.lst xs)/\Reps K H ds xs
|.dT ks ds,v=>∃a kvs,v=.ref a/\Rd H a (.dT kvs)/\kvs.map (·.1)=ks.map wK/\Reps K H ds (kvs.map (·.2))
|.dK ks ds,v=>∃a kvs,v=.ref a/\H a=some (.dK kvs)/\kvs.map (·.1)=ks.map Sum.inr/\Reps K H ds (kvs.map (·.2))
|.scr ns,v=>∃a,v=.ref a/\SqL K H a (ns.map V.int)
|.kt ss,v=>∃a,v=.ref a/\SqT K (λ_=>none) a (ss.map V.str)
|.exc n,v=>∃a C,v=.ref a/\H a=some (excO a C)/\clsOf K n C
|.io c ds,v=>∃xs,v=.ref c/\H c=some (.lst xs)/\Reps K H ds xs
|.ioT c ks ds,v=>∃kvs,v=.ref c/\H c=some (.dT kvs)/\kvs.map (·.1)=ks.map wK/\Reps K H ds (kvs.map (·.2))
|.ob c ds,v=>∃fs,v=.ref c/\(∃C dx,H c=some (.ins C dx fs)/\clsOf K "Glass" C)/\fs.map (·.1)=(obN.take ds.length)/\Reps K H ds (fs.map (·.2))
|.adr c,v=>v=.ref c
def Reps(K:PySem.W.Frag)(H:Hp):List D->List V->Prop
|[],xs=>xs=[]
|d::ds,xs=>∃x r,xs=x::r/\Rep K H d x/\Reps K H ds r
end
noncomputable def eqD(d e:D):Bool:=@decide (d=e) (Classical.propDecidable _)
noncomputable def eqDs(d e:List D):Bool:=@decide (d=e) (Classical.propDecidable _)
theorem eqD_iff{d e:D}:eqD d e=true↔d=e:=@decide_eq_true_iff _ (Classical.propDecidable _)
theorem eqDs_iff{d e:List D}:eqDs d e=true↔d=e:=@decide_eq_true_iff _ (Classical.propDecidable _)
theorem qx4{d e:D}(h:eqD d e=true):d=e:=eqD_iff.mp h
theorem qzo{d e:List D}(h:eqDs d e=true):d=e:=eqDs_iff.mp h
theorem qfk(d:D):eqD d d=true:=eqD_iff.mpr rfl
theorem qse(d:List D):eqDs d d=true:=eqDs_iff.mpr rfl
theorem qbc{a b:Bool}(h:a=true↔b=true):a=b:=by cases a<;>cases b<;>simp_all
theorem qsd(ds es:List D):eqD (.tup ds) (.tup es)=eqDs ds es:=qbc (by rw[eqD_iff,eqDs_iff];exact⟨λh=>D.tup.inj h,λh=>h▸rfl⟩)
theorem qsc(ds es:List D):eqD (.lst ds) (.lst es)=eqDs ds es:=qbc (by rw[eqD_iff,eqDs_iff];exact⟨λh=>D.lst.inj h,λh=>h▸rfl⟩)
def dV:D->Option V
|.non=>some .non
|.bl b=>some (.bl b)
|.int i=>some (.int i)
|.str x=>some (.str x)
|_=>none
theorem q2v{d e:D}{v:V}(h:dV d=some v)(h':dV e=some v):d=e:=by
 cases d<;>cases e<;>simp_all [dV]<;>(subst h;simp_all)
theorem qjm{d e:D}{v z:V}(h:dV d=some v)(h':dV e=some z):eqD d e=decide (v=z):=qbc (by
 rw[eqD_iff,decide_eq_true_iff]
 exact⟨λq=>by subst q;exact Option.some.inj (h.symm.trans h'),λq=>by subst q;exact q2v h h'⟩)
mutual
def cmpD:D->D->Bool
|.tup a,.tup b=>qdd a b
|.lst a,.lst b=>qdd a b
|.non,.non=>true|.non,.int _=>true|.int _,.non=>true|.non,.bl _=>true|.bl _,.non=>true|.non,.str _=>true|.str _,.non=>true
|.int _,.int _=>true|.bl _,.bl _=>true|.str _,.str _=>true|.int _,.str _=>true|.str _,.int _=>true|.bl _,.str _=>true|.str _,.bl _=>true
|_,_=>false
def qdd:List D->List D->Bool
|x::xs,y::ys=>cmpD x y&&qdd xs ys
|_,_=>true
end
mutual
def depD:D->Nat
|.tup a=>qdj a+1
|.lst a=>qdj a+1
|_=>0
def qdj:List D->Nat
|[]=>0
|x::xs=>max (depD x) (qdj xs)
end
theorem Same.emp(H:Hp):Same (λ_=>none) H:=λ_ _ h=>by cases h
theorem Same.sqT{K:PySem.W.Frag}{H H':Hp}(sm:Same H H'){a:Addr}{xs:List V}(h:SqT K H a xs):SqT K H' a xs:=by
 rcases h with (h|⟨o,h⟩)|h
 ·exact .inl (.inl (sm _ _ h))
 ·exact .inl (.inr ⟨o,sm _ _ h⟩)
 ·exact .inr h
theorem TupAt.sq{K:PySem.W.Frag}{H:Hp}{a:Addr}{ds:List D}{xs:List V}(h:TupAt K H a ds xs):SqT K H a xs:=h.elim SqT.of λq=>(Same.emp H).sqT q.1
theorem TupAt.same{K:PySem.W.Frag}{H H':Hp}{a:Addr}{ds:List D}{xs:List V}(h:TupAt K H a ds xs)(sm:Same H H'):TupAt K H' a ds xs:=h.elim (λq=>.inl (sm _ _ q)) .inr
section
variable {X:Cx} {pins:List (Addr×Obj)} {σ:St} {H:Hp} {s:Shared}
mutual
theorem Rep.inj(I:Inv X pins σ H s):∀ {d e:D} {v:V},Rep X.K H d v->Rep X.K H e v->cmpD d e=true->d=e
|.non,e,v,h,h',hc=>by
  unfold Rep at h
  subst h
  cases e<;>unfold Rep at h'<;>first|rfl|(obtain⟨_,_,z,_⟩:=h';cases z;done)|(obtain⟨_,z,_⟩:=h';cases z;done)|(cases h';done)
|.bl i,e,v,h,h',hc=>by
  unfold Rep at h
  subst h
  cases e<;>unfold Rep at h'<;>first|rfl|(obtain⟨_,_,z,_⟩:=h';cases z;done)|(obtain⟨_,z,_⟩:=h';cases z;done)|(cases h';rfl)|(cases h';done)
|.int i,e,v,h,h',hc=>by
  unfold Rep at h
  subst h
  cases e<;>unfold Rep at h'<;>first|rfl|(obtain⟨_,_,z,_⟩:=h';cases z;done)|(obtain⟨_,z,_⟩:=h';cases z;done)|(cases h';rfl)|(cases h';done)
|.str i,e,v,h,h',hc=>by
  unfold Rep at h
  subst h
  cases e<;>unfold Rep at h'<;>first|rfl|(obtain⟨_,_,z,_⟩:=h';cases z;done)|(obtain⟨_,z,_⟩:=h';cases z;done)|(cases h';rfl)|(cases h';done)
|.tup ds,e,v,h,h',hc=>by
  cases e with
 |tup es =>
   unfold Rep at h h'
   obtain⟨a,xs,rfl,ha,hr⟩:=h
   obtain⟨b,ys,z,hb,hs⟩:=h'
   cases z
   cases I.tuple_inj ha.sq hb.sq
   unfold cmpD at hc
   rw[Reps.inj I hr hs hc]
 |_=>unfold cmpD at hc;cases hc
|.lst ds,e,v,h,h',hc=>by
  cases e with
 |lst es =>
   unfold Rep at h h'
   obtain⟨a,xs,rfl,ha,hr⟩:=h
   obtain⟨b,ys,z,hb,hs⟩:=h'
   cases z
   rw[ha] at hb
   cases hb
   unfold cmpD at hc
   rw[Reps.inj I hr hs hc]
 |_=>unfold cmpD at hc;cases hc
|.dT _ _,e,_,_,_,h=>by cases e<;>(unfold cmpD at h;cases h)
|.dK _ _,e,_,_,_,h=>by cases e<;>(unfold cmpD at h;cases h)
|.scr _,e,_,_,_,h=>by cases e<;>(unfold cmpD at h;cases h)
|.kt _,e,_,_,_,h=>by cases e<;>(unfold cmpD at h;cases h)
|.exc _,e,_,_,_,h=>by cases e<;>(unfold cmpD at h;cases h)
|.io _ _,e,_,_,_,h=>by cases e<;>(unfold cmpD at h;cases h)
|.ioT _ _ _,e,_,_,_,h=>by cases e<;>(unfold cmpD at h;cases h)
|.ob _ _,e,_,_,_,h=>by cases e<;>(unfold cmpD at h;cases h)
|.adr _,e,_,_,_,h=>by cases e<;>(unfold cmpD at h;cases h)
theorem Reps.inj(I:Inv X pins σ H s):∀ {ds es:List D} {xs:List V},Reps X.K H ds xs->Reps X.K H es xs->qdd ds es=true->ds=es
|[],es,xs,h,h',_=>by
  unfold Reps at h
  subst h
  cases es with
 |nil=>rfl
 |cons e es=>unfold Reps at h';obtain⟨_,_,z,_⟩:=h';cases z
|d::ds,es,xs,h,h',hc=>by
  unfold Reps at h
  obtain⟨x,r,rfl,h1,h2⟩:=h
  cases es with
 |nil=>unfold Reps at h';cases h'
 |cons e es =>
   unfold Reps at h'
   obtain⟨x',r',z,h3,h4⟩:=h'
   cases z
   unfold qdd at hc
   rw[Bool.and_eq_true] at hc
   rw[Rep.inj I h1 h3 hc.1,Reps.inj I h2 h4 hc.2]
end
end
mutual
theorem Rep.same{K:PySem.W.Frag}{H H':Hp}(sm:Same H H'):∀ {d:D} {v:V},Rep K H d v->Rep K H' d v
|.non,_,h=>h
|.bl _,_,h=>h
|.int _,_,h=>h
|.str _,_,h=>h
|.tup _,_,h=>by
  unfold Rep at h ⊢
  obtain⟨a,xs,e,ha,r⟩:=h
  exact⟨a,xs,e,ha.same sm,Reps.same sm r⟩
|.lst _,_,h=>by
  unfold Rep at h ⊢
  obtain⟨a,xs,e,ha,r⟩:=h
  exact⟨a,xs,e,sm _ _ ha,Reps.same sm r⟩
|.dT _ _,_,h=>by
  unfold Rep at h ⊢
  obtain⟨a,xs,e,ha,k,r⟩:=h
  exact⟨a,xs,e,ha.elim (λq=>.inl (sm _ _ q)) λ⟨o,q⟩=>.inr ⟨o,sm _ _ q⟩,k,Reps.same sm r⟩
|.dK _ _,_,h=>by
  unfold Rep at h ⊢
  obtain⟨a,xs,e,ha,k,r⟩:=h
  exact⟨a,xs,e,sm _ _ ha,k,Reps.same sm r⟩
|.scr _,_,h=>by
  unfold Rep at h ⊢
  obtain⟨a,e,ha⟩:=h
  exact⟨a,e,sm.seq ha⟩
|.kt _,_,h=>h
|.exc _,_,h=>by
  unfold Rep at h ⊢
  obtain⟨a,C,e,ha,hc⟩:=h
  exact⟨a,C,e,sm _ _ ha,hc⟩
|.io _ _,_,h=>by
  unfold Rep at h ⊢
  obtain⟨xs,e,ha,r⟩:=h
  exact⟨xs,e,sm _ _ ha,Reps.same sm r⟩
|.ioT _ _ _,_,h=>by
  unfold Rep at h ⊢
  obtain⟨kvs,e,ha,k,r⟩:=h
  exact⟨kvs,e,sm _ _ ha,k,Reps.same sm r⟩
|.ob _ _,_,h=>by
  unfold Rep at h ⊢
  obtain⟨fs,e,⟨C,dx,ha,hc⟩,k,r⟩:=h
  exact⟨fs,e,⟨C,dx,sm _ _ ha,hc⟩,k,Reps.same sm r⟩
|.adr _,_,h=>h
theorem Reps.same{K:PySem.W.Frag}{H H':Hp}(sm:Same H H'):∀ {ds:List D} {xs:List V},Reps K H ds xs->Reps K H' ds xs
|[],_,h=>h
|_::_,_,h=>by
  unfold Reps at h ⊢
  obtain⟨x,r,e,h1,h2⟩:=h
  exact⟨x,r,e,Rep.same sm h1,Reps.same sm h2⟩
end
theorem Reps.length{K:PySem.W.Frag}{H:Hp}:∀ {ds:List D} {xs:List V},Reps K H ds xs->ds.length=xs.length
|[],xs,h=>by unfold Reps at h;rw[h];rfl
|d::ds,xs,h=>by
  unfold Reps at h
  obtain⟨x,r,rfl,h1,h2⟩:=h
  rw[List.length_cons,List.length_cons,Reps.length h2]
theorem Reps.at{K:PySem.W.Frag}{H:Hp}:∀ {ds:List D} {xs:List V} {j:Nat} {d:D},Reps K H ds xs->ds[j]?=some d->∃x,xs[j]?=some x/\Rep K H d x
|[],xs,j,d,h,e=>by simp at e
|d0::ds,xs,0,d,h,e=>by
  unfold Reps at h
  obtain⟨x,r,rfl,h1,h2⟩:=h
  have e':d0=d:=by simpa using e
  subst e'
  exact⟨x,rfl,h1⟩
|d0::ds,xs,j+1,d,h,e=>by
  unfold Reps at h
  obtain⟨x,r,rfl,h1,h2⟩:=h
  obtain⟨y,h3,h4⟩:=Reps.at (j:=j) (d:=d) h2 (by simpa using e)
  exact⟨y,by simpa using h3,h4⟩
theorem qer:∀(ds es:List D),((List.range (min ds.length es.length)).all (λj=>eqD (ds.getD j .non) (es.getD j .non))&&ds.length==es.length)=eqDs ds es:=by
 intro ds es
 cases h:eqDs ds es with
|true =>
  have e:=qzo h
  subst e
  rw[Bool.and_eq_true]
  refine⟨?_,by simp⟩
  rw[List.all_eq_true]
  intro j _
  exact qfk _
|false =>
  apply Classical.byContradiction
  intro hn
  have ht:=eq_true_of_ne_false hn
  rw[Bool.and_eq_true,List.all_eq_true] at ht
  obtain⟨h1,h2⟩:=ht
  have hl:ds.length=es.length:=by simpa using h2
  have e:ds=es:=by
   apply List.ext_getElem hl
   intro i hi1 hi2
   have:=qx4 (h1 i (by rw[List.mem_range];lia))
   simpa [List.getD_eq_getElem?_getD,hi1,hi2] using this
  rw[e,qse] at h
  cases h
theorem qod:∀ {ds es:List D} {j:Nat} {d e:D},qdd ds es=true->ds[j]?=some d->es[j]?=some e->cmpD d e=true
|[],_,j,d,e,_,h,_=>by simp at h
|_::_,[],j,d,e,_,_,h=>by simp at h
|d0::ds,e0::es,0,d,e,h,h1,h2=>by
  unfold qdd at h
  rw[Bool.and_eq_true] at h
  have q1:d0=d:=by simpa using h1
  have q2:e0=e:=by simpa using h2
  subst q1 q2
  exact h.1
|d0::ds,e0::es,j+1,d,e,h,h1,h2=>by
  unfold qdd at h
  rw[Bool.and_eq_true] at h
  exact qod (j:=j) h.2 (by simpa using h1) (by simpa using h2)
theorem qoi:∀ {ds:List D} {j:Nat} {d:D},ds[j]?=some d->depD d<=qdj ds
|[],j,d,h=>by simp at h
|d0::ds,0,d,h=>by
  have q:d0=d:=by simpa using h
  subst q
  unfold qdj
  exact Nat.le_max_left _ _
|d0::ds,j+1,d,h=>by
  have:=qoi (j:=j) (d:=d) (ds:=ds) (by simpa using h)
  unfold qdj
  exact Nat.le_trans this (Nat.le_max_right _ _)
section
variable {X:Cx} {pins:List (Addr×Obj)} {σ:St} {H:Hp} {s:Shared}
theorem qex{d:D}{v:V}(h:Rep X.K H d v){z:V}(e:dV d=some z):v=z:=by
 cases d<;>first|(unfold Rep at h;subst h;exact Option.some.inj e)|(cases e;done)
theorem qnx{d e:D}(h:cmpD d e=true)(h0:∀ds,d≠.tup ds)(h1:∀ds,d≠.lst ds):∃v z,dV d=some v/\dV e=some z/\scal v z=true:=by
 cases d<;>cases e<;>first|exact⟨_,_,rfl,rfl,rfl⟩|exact absurd rfl (h0 _)|exact absurd rfl (h1 _)|(unfold cmpD at h;cases h;done)
theorem qm0{d:D}{v:V}(h:dV d=some v):qgt v=true:=by
 cases d<;>first|(cases h;rfl)|(cases h;done)
theorem qvm{v z:V}(h:scal v z=true)(hv:qgt v=true):eqV v z=decide (v=z):=by
 cases v<;>cases z<;>first|(cases h;done)|(cases hv;done)|rfl|(simp[eqV];done)|(unfold eqV;exact qbc (by simp))
theorem qhm{A':Around}{ds es:List D}{xs ys:List V}{its its2:List Value}(r1:Reps X.K H ds xs)(r2:Reps X.K H es ys)(v1:Vals xs its)(v2:Vals ys its2)(hc:qdd ds es=true)
  (ih:∀d∈ds,∀(e:D) (v z:V) (u w:Value),Rep X.K H d v->Rep X.K H e z->RelV v u->RelV z w->cmpD d e=true->SeqAt.EqAt A' s u w (eqD d e)) :
  ∀j (h1:j<its.toArray.size) (h2:j<its2.toArray.size),SeqAt.EqAt A' s its.toArray[j] its2.toArray[j] (eqD (ds.getD j .non) (es.getD j .non)):=λj h1 h2=>by
 have l1:j<ds.length:=by rw[r1.length,v1.length];simpa using h1
 have l2:j<es.length:=by rw[r2.length,v2.length];simpa using h2
 have q1:ds[j]?=some ds[j]:=List.getElem?_eq_getElem l1
 have q2:es[j]?=some es[j]:=List.getElem?_eq_getElem l2
 obtain⟨x,hx,rx⟩:=r1.at q1
 obtain⟨y,hy,ry⟩:=r2.at q2
 obtain⟨ux,hux,rux⟩:=v1.get hx
 obtain⟨uy,huy,ruy⟩:=v2.get hy
 have e1:its.toArray[j]=ux:=by
  have:its[j]?=some its.toArray[j]:=by simp
  rw[hux] at this
  exact(Option.some.inj this).symm
 have e2:its2.toArray[j]=uy:=by
  have:its2[j]?=some its2.toArray[j]:=by simp
  rw[huy] at this
  exact(Option.some.inj this).symm
 have e3:ds.getD j .non=ds[j]:=by simp[List.getD_eq_getElem?_getD,l1]
 have e4:es.getD j .non=es[j]:=by simp[List.getD_eq_getElem?_getD,l2]
 rw[e1,e2,e3,e4]
 exact ih ds[j] (List.getElem_mem l1) es[j] x y ux uy rx ry rux ruy (qod hc q1 q2)
theorem qyo{A:Around}(I:Inv X pins σ H s){a b:Addr}{ds es:List D}{xs ys:List V}(ha:SqT X.K H a xs)(hb:SqT X.K H b ys)(r1:Reps X.K H ds xs)(r2:Reps X.K H es ys)(hc:qdd ds es=true)(hu:A.units<cLine)
  (ih:∀d∈ds,∀(e:D) (v z:V) (u w:Value),Rep X.K H d v->Rep X.K H e z->RelV v u->RelV z w->cmpD d e=true->SeqAt.EqAt A.in1 s u w (eqD d e)):SeqAt.RcAt A s (.ref a) (.ref b) (eqD (.tup ds) (.tup es)):=by
 obtain⟨its,v1,p1,_⟩:=I.tuple ha
 obtain⟨its2,v2,p2,_⟩:=I.tuple hb
 have:=SeqAt.RcAt.tuples (A:=A) (s:=s) (e:=λj=>eqD (ds.getD j .non) (es.getD j .non)) (show s.heap.IsTuple a its.toArray from p1) (show s.heap.IsTuple b its2.toArray from p2) hu (qhm r1 r2 v1 v2 hc ih)
 rw[List.size_toArray,List.size_toArray,←v1.length,←v2.length,←r1.length,←r2.length,qer] at this
 rw[qsd]
 exact this
theorem qyn{A:Around}(I:Inv X pins σ H s){a b:Addr}{ds es:List D}{xs ys:List V}(ha:H a=some (.lst xs))(hb:H b=some (.lst ys))(r1:Reps X.K H ds xs)(r2:Reps X.K H es ys)(hc:qdd ds es=true)(hu:A.units<cLine)
  (ih:∀d∈ds,∀(e:D) (v z:V) (u w:Value),Rep X.K H d v->Rep X.K H e z->RelV v u->RelV z w->cmpD d e=true->SeqAt.EqAt A.in1 s u w (eqD d e)):SeqAt.RcAt A s (.ref a) (.ref b) (eqD (.lst ds) (.lst es)):=by
 obtain⟨its,v1,p1,_⟩:=I.list (SqL.of ha)
 obtain⟨its2,v2,p2,_⟩:=I.list (SqL.of hb)
 have er:=qer ds es
 rw[qsc]
 by_cases hl:ds.length=es.length
 ·have hz:its.toArray.size=its2.toArray.size:=by rw[List.size_toArray,List.size_toArray,←v1.length,←v2.length,←r1.length,←r2.length,hl]
  have:=SeqAt.RcAt.lists (A:=A) (s:=s) (e:=λj=>eqD (ds.getD j .non) (es.getD j .non)) p1.isList p2.isList hz hu (qhm r1 r2 v1 v2 hc ih)
  rw[List.size_toArray,←v1.length,←r1.length] at this
  rw[←hl,Nat.min_self] at er
  have e2:(ds.length==ds.length)=true:=by simp
  rw[e2,Bool.and_true] at er
  rw[er] at this
  exact this
 ·have e2:(ds.length==es.length)=false:=by simpa using hl
  rw[e2,Bool.and_false] at er
  rw[←er]
  refine SeqAt.RcAt.lists_lengths p1.isList p2.isList ?_ hu
  rw[List.size_toArray,List.size_toArray,←v1.length,←v2.length,←r1.length,←r2.length]
  simpa using hl
theorem qcv{ds:List D}{d:D}(h:d∈ds):depD d<=qdj ds:=by
 obtain⟨j,hj⟩:=List.mem_iff_getElem?.mp h
 exact qoi hj
theorem qgq(I:Inv X pins σ H s):∀(n:Nat) (A:Around) (d e:D) (v z:V) (u w:Value),sizeOf d<=n->Rep X.K H d v->Rep X.K H e z->RelV v u->RelV z w->cmpD d e=true->A.units+depD d<cLine->SeqAt.EqAt A s u w (eqD d e)
|0,_,d,_,_,_,_,_,hn,_,_,_,_,_,_=>by cases d<;>simp at hn
|n+1,A,d,e,v,z,u,w,hn,hd,he,ru,rw',hc,hu=>by
  have un:A.in1.units=A.units+1:=rfl
  cases d with
 |tup ds =>
   cases e with
  |tup es =>
    have hd':=hd
    have he':=he
    unfold Rep at hd he
    obtain⟨a,xs,rfl,ha,r1⟩:=hd
    obtain⟨b,ys,rfl,hb,r2⟩:=he
    cases ru
    cases rw'
    unfold depD at hu
    by_cases hab:a=b
    ·subst hab
     rw[Rep.inj I hd' he' hc,qfk]
     exact SeqAt.EqAt.same _
    ·unfold cmpD at hc
     refine SeqAt.EqAt.of_refs hab (qyo I ha.sq hb.sq r1 r2 hc (by lia) λd hd e v z u w h1 h2 h3 h4 h5=>qgq I n A.in1 d e v z u w ?_ h1 h2 h3 h4 h5 ?_)
     ·have:=List.sizeOf_lt_of_mem hd
      simp at hn
      lia
     ·have:=qcv hd
      lia
  |_=>unfold cmpD at hc;cases hc
 |lst ds =>
   cases e with
  |lst es =>
    have hd':=hd
    have he':=he
    unfold Rep at hd he
    obtain⟨a,xs,rfl,ha,r1⟩:=hd
    obtain⟨b,ys,rfl,hb,r2⟩:=he
    cases ru
    cases rw'
    unfold depD at hu
    by_cases hab:a=b
    ·subst hab
     rw[Rep.inj I hd' he' hc,qfk]
     exact SeqAt.EqAt.same _
    ·unfold cmpD at hc
     refine SeqAt.EqAt.of_refs hab (qyn I ha hb r1 r2 hc (by lia) λd hd e v z u w h1 h2 h3 h4 h5=>qgq I n A.in1 d e v z u w ?_ h1 h2 h3 h4 h5 ?_)
     ·have:=List.sizeOf_lt_of_mem hd
      simp at hn
      lia
     ·have:=qcv hd
      lia
  |_=>unfold cmpD at hc;cases hc
 |_ =>
   obtain⟨v',z',q1,q2,q3⟩:=qnx hc (λ_ h=>by cases h) (λ_ h=>by cases h)
   have e1:=qex hd q1
   have e2:=qex he q2
   subst e1 e2
   rw[qjm q1 q2,←qvm q3 (qm0 q1)]
   exact qx3 ru rw' (qm0 q1) (qm0 q2)
def rEqD(K:PySem.W.Frag)(g:Bool->Bool):R2:=λx y H Q=>∃d e,Rep K H d x/\Rep K H e y/\cmpD d e=true/\depD d<=50/\Q (.bl (g (eqD d e))) H
theorem q3u(hu:X.A.units+60<cLine):OpR X (compareOp .Eq) (rEqD X.K id):=by
 intro pins s σ H x y v u Q I rx ry h
 obtain⟨d,e,hd,he,hc,hn,q⟩:=h
 have fin:EP X pins σ Q (.bool (eqD d e)) s:=⟨.bl (eqD d e),H,I,rfl,q⟩
 have un:X.A.in1.units=X.A.units+1:=rfl
 cases d with
|tup ds =>
  cases e with
 |tup es =>
   unfold Rep at hd he
   obtain⟨a,xs,rfl,ha,r1⟩:=hd
   obtain⟨b,ys,rfl,hb,r2⟩:=he
   cases rx
   cases ry
   unfold cmpD at hc
   unfold depD at hn
   exact qyo I ha.sq hb.sq r1 r2 hc (by lia) (λd hd e v z u w h1 h2 h3 h4 h5=>qgq I _ X.A.in1 d e v z u w (Nat.le_refl _) h1 h2 h3 h4 h5 (by have:=qcv hd;lia)) _ _ _ _ fin
 |_=>unfold cmpD at hc;cases hc
|lst ds =>
  cases e with
 |lst es =>
   unfold Rep at hd he
   obtain⟨a,xs,rfl,ha,r1⟩:=hd
   obtain⟨b,ys,rfl,hb,r2⟩:=he
   cases rx
   cases ry
   unfold cmpD at hc
   unfold depD at hn
   exact qyn I ha hb r1 r2 hc (by lia) (λd hd e v z u w h1 h2 h3 h4 h5=>qgq I _ X.A.in1 d e v z u w (Nat.le_refl _) h1 h2 h3 h4 h5 (by have:=qcv hd;lia)) _ _ _ _ fin
 |_=>unfold cmpD at hc;cases hc
|_ =>
  obtain⟨v',z',q1,q2,q3⟩:=qnx hc (λ_ h=>by cases h) (λ_ h=>by cases h)
  have e1:=qex hd q1
  have e2:=qex he q2
  subst e1 e2
  have q':Q (.bl (eqD _ _)) H:=q
  rw[qjm q1 q2] at q'
  exact q6l pins s σ H _ _ v u Q I rx ry ⟨q3,q'⟩
end
end L2
namespace L2
open PySem PySem.Spec PyProof.Rows
inductive R where
|val (d:D)
|own (d:D)
|peek (d:D)
|exc (n:Str)
def R.d:R->D
|.val d=>d
|.own d=>d
|.peek d=>d
|.exc _=>.scr []
abbrev VSt:=List (Option R)
def ioA:D->Option Addr
|.io c _=>some c
|.ioT c _ _=>some c
|.ob c _=>some c
|_=>none
def OwnAt(K:PySem.W.Frag)(B H:Hp)(d:D)(a:Addr):Prop:=match d with
|.lst ds=>∃xs,H a=some (.lst xs)/\Reps K B ds xs
|.dT ks ds=>∃kvs,H a=some (.dT kvs)/\kvs.map (·.1)=ks.map wK/\Reps K B ds (kvs.map (·.2))
|.dK ks ds=>∃kvs,H a=some (.dK kvs)/\kvs.map (·.1)=ks.map Sum.inr/\Reps K B ds (kvs.map (·.2))
|.io c ds=>∃xs,H a=some (.lst xs)/\a=c/\Reps K B ds xs
|.ioT c ks ds=>∃kvs,H a=some (.dT kvs)/\a=c/\kvs.map (·.1)=ks.map wK/\Reps K B ds (kvs.map (·.2))
|.ob c ds=>∃fs,(∃C dx,H a=some (.ins C dx fs)/\clsOf K "Glass" C)/\a=c/\fs.map (·.1)=(obN.take ds.length)/\Reps K B ds (fs.map (·.2))
|_=>False
def Pk(K:PySem.W.Frag)(B H:Hp)(r:R)(v:V):Prop:=match r with
|.val d=>Rep K B d v
|.own d=>∃a,v=.ref a/\B a=none/\OwnAt K B H d a
|.peek d=>∃a,v=.ref a/\B a=none/\OwnAt K B H d a
|.exc _=>False
def RepR(K:PySem.W.Frag)(B H0 H:Hp)(r:R)(v:V):Prop:=match r with
|.val d=>Rep K B d v
|.own d=>∃a,v=.ref a/\H0 a=none/\B a=none/\OwnAt K B H d a
|.peek d=>∃a,v=.ref a/\B a=none/\OwnAt K B H d a
|.exc _=>False
structure Stp(B H B' H':Hp):Prop where
 b:Same B B'
 h:Same H H'
 s:Same B' H'
 d:∀a,B' a≠none->B a≠none\/H a=none\/∃xs,H a=some (.tup xs)
theorem Stp.refl{B H:Hp}(s:Same B H):Stp B H B H:=⟨Same.refl _,Same.refl _,s,λ_ h=>.inl h⟩
theorem Stp.trans{B H B1 H1 B2 H2:Hp}(p:Stp B H B1 H1)(q:Stp B1 H1 B2 H2):Stp B H B2 H2 :=
 ⟨p.b.trans q.b,p.h.trans q.h,q.s,λa h=>by
  rcases q.d a h with z|z|⟨xs,z⟩
  ·exact p.d a z
  ·exact .inr (.inl (p.h.free z))
  ·cases e:H a with
  |none=>exact .inr (.inl rfl)
  |some o =>
    rw[p.h _ _ e] at z
    exact .inr (.inr ⟨xs,z⟩)⟩
theorem Stp.keep{B H B' H':Hp}(p:Stp B H B' H'){a:Addr}(hb:B a=none)(hh:H a≠none)(nt:∀xs,H a≠some (.tup xs)):B' a=none:=by
 cases e:B' a with
|none=>rfl
|some o =>
  rcases p.d a (by rw[e];exact λz=>by cases z) with z|z|⟨xs,z⟩
  ·exact absurd hb z
  ·exact absurd z hh
  ·exact absurd z (nt xs)
theorem Stp.grow{B H H':Hp}(s:Same B H)(h:Same H H'):Stp B H B H':=⟨Same.refl _,h,s.trans h,λ_ z=>.inl z⟩
theorem Stp.new{B H:Hp}{p:Addr}{o:HO}(s:Same B H)(hp:H p=none):Stp B H (upd B p o) (upd H p o) :=
 ⟨qav (s.free hp) o,qav hp o,λb u e=>by
  unfold upd at e ⊢
  by_cases z:b=p
  ·rw[if_pos z] at e ⊢
   exact e
  ·rw[if_neg z] at e ⊢
   exact s _ _ e,λa h=>by
  by_cases z:a=p
  ·exact .inr (.inl (z▸hp))
  ·rw[qar z] at h
   exact .inl h⟩
section
variable {K:PySem.W.Frag} {B H B' H' H0:Hp} {d:D} {a:Addr} {r:R} {v:V}
theorem OwnAt.some(h:OwnAt K B H d a):H a≠none:=by
 unfold OwnAt at h
 split at h
 ·obtain⟨xs,e,_⟩:=h;rw[e];exact λz=>by cases z
 ·obtain⟨xs,e,_⟩:=h;rw[e];exact λz=>by cases z
 ·obtain⟨xs,e,_⟩:=h;rw[e];exact λz=>by cases z
 ·obtain⟨xs,e,_⟩:=h;rw[e];exact λz=>by cases z
 ·obtain⟨xs,e,_⟩:=h;rw[e];exact λz=>by cases z
 ·obtain⟨xs,⟨C,dx,e,_⟩,_⟩:=h;rw[e];exact λz=>by cases z
 ·exact h.elim
theorem OwnAt.nt(h:OwnAt K B H d a):∀xs,H a≠Option.some (.tup xs):=by
 intro ys
 unfold OwnAt at h
 split at h
 ·obtain⟨xs,e,_⟩:=h;rw[e];exact λz=>by cases z
 ·obtain⟨xs,e,_⟩:=h;rw[e];exact λz=>by cases z
 ·obtain⟨xs,e,_⟩:=h;rw[e];exact λz=>by cases z
 ·obtain⟨xs,e,_⟩:=h;rw[e];exact λz=>by cases z
 ·obtain⟨xs,e,_⟩:=h;rw[e];exact λz=>by cases z
 ·obtain⟨xs,⟨C,dx,e,_⟩,_⟩:=h;rw[e];exact λz=>by cases z
 ·exact h.elim
theorem OwnAt.step(h:OwnAt K B H d a)(b:Same B B')(e:H' a=H a):OwnAt K B' H' d a:=by
 unfold OwnAt at h ⊢
 split at h
 ·obtain⟨xs,q,r⟩:=h;exact⟨xs,by rw[e,q],r.same b⟩
 ·obtain⟨xs,q,k,r⟩:=h;exact⟨xs,by rw[e,q],k,r.same b⟩
 ·obtain⟨xs,q,k,r⟩:=h;exact⟨xs,by rw[e,q],k,r.same b⟩
 ·obtain⟨xs,q,k,r⟩:=h;exact⟨xs,by rw[e,q],k,r.same b⟩
 ·obtain⟨xs,q,z,k,r⟩:=h;exact⟨xs,by rw[e,q],z,k,r.same b⟩
 ·obtain⟨xs,⟨C,dx,q,c⟩,z,k,r⟩:=h;exact⟨xs,⟨C,dx,by rw[e,q],c⟩,z,k,r.same b⟩
 ·exact h.elim
theorem Same.at{a:Addr}(h:Same H H')(n:H a≠none):H' a=H a:=by
 cases e:H a with
|none=>exact absurd e n
|some o=>exact h _ _ e
theorem Pk.step(h:Pk K B H r v)(p:Stp B H B' H'):Pk K B' H' r v:=by
 cases r with
|val d=>exact Rep.same p.b h
|own d =>
  obtain⟨a,e,q,o⟩:=h
  exact⟨a,e,p.keep q o.some o.nt,o.step p.b (p.h.at o.some)⟩
|peek d =>
  obtain⟨a,e,q,o⟩:=h
  exact⟨a,e,p.keep q o.some o.nt,o.step p.b (p.h.at o.some)⟩
|exc n=>exact h.elim
theorem RepR.pk(h:RepR K B H0 H r v):Pk K B H r v:=by
 cases r with
|val d=>exact h
|own d =>
  obtain⟨a,e,_,q,o⟩:=h
  exact⟨a,e,q,o⟩
|peek d=>exact h
|exc n=>exact h
theorem OwnAt.rep(s:Same B H)(h:OwnAt K B H d a):Rep K H d (.ref a):=by
 unfold OwnAt at h
 split at h
 ·obtain⟨xs,q,r⟩:=h;unfold Rep;exact⟨a,xs,rfl,q,r.same s⟩
 ·obtain⟨xs,q,k,r⟩:=h;unfold Rep;exact⟨a,xs,rfl,.inl q,k,r.same s⟩
 ·obtain⟨xs,q,k,r⟩:=h;unfold Rep;exact⟨a,xs,rfl,q,k,r.same s⟩
 ·obtain⟨xs,q,rfl,r⟩:=h;unfold Rep;exact⟨xs,rfl,q,r.same s⟩
 ·obtain⟨xs,q,rfl,k,r⟩:=h;unfold Rep;exact⟨xs,rfl,q,k,r.same s⟩
 ·obtain⟨xs,⟨C,dx,q,c⟩,rfl,k,r⟩:=h;unfold Rep;exact⟨xs,rfl,⟨C,dx,q,c⟩,k,r.same s⟩
 ·exact h.elim
theorem Pk.rep(s:Same B H)(h:Pk K B H r v):Rep K H r.d v:=by
 cases r with
|val d=>exact Rep.same s h
|own d =>
  obtain⟨a,rfl,_,o⟩:=h
  exact o.rep s
|peek d =>
  obtain⟨a,rfl,_,o⟩:=h
  exact o.rep s
|exc n=>exact h.elim
theorem OwnAt.pub(h:OwnAt K B H d a)(hb:B a=none):∃o,H a=Option.some o/\Rep K (upd B a o) d (.ref a):=by
 unfold OwnAt at h
 split at h
 ·obtain⟨xs,q,r⟩:=h
  refine⟨_,q,?_⟩
  unfold Rep
  exact⟨a,xs,rfl,qaw,r.same (qav hb _)⟩
 ·obtain⟨xs,q,k,r⟩:=h
  refine⟨_,q,?_⟩
  unfold Rep
  exact⟨a,xs,rfl,.inl qaw,k,r.same (qav hb _)⟩
 ·obtain⟨xs,q,k,r⟩:=h
  refine⟨_,q,?_⟩
  unfold Rep
  exact⟨a,xs,rfl,qaw,k,r.same (qav hb _)⟩
 ·obtain⟨xs,q,rfl,r⟩:=h
  refine⟨_,q,?_⟩
  unfold Rep
  exact⟨xs,rfl,qaw,r.same (qav hb _)⟩
 ·obtain⟨xs,q,rfl,k,r⟩:=h
  refine⟨_,q,?_⟩
  unfold Rep
  exact⟨xs,rfl,qaw,k,r.same (qav hb _)⟩
 ·obtain⟨xs,⟨C,dx,q,c⟩,rfl,k,r⟩:=h
  refine⟨_,q,?_⟩
  unfold Rep
  exact⟨xs,rfl,⟨C,dx,qaw,c⟩,k,r.same (qav hb _)⟩
 ·exact h.elim
theorem qly{o:HO}(s:Same B H)(e:H a=Option.some o):Same (upd B a o) H:=λb u q=>by
 unfold upd at q
 by_cases z:b=a
 ·rw[if_pos z] at q
  rw[z,e]
  exact q
 ·rw[if_neg z] at q
  exact s _ _ q
def pubR:R->(D->Prop)->Prop
|.val d,Q=>Q d
|.own d,Q=>Q d
|.peek _,_=>False
|.exc _,_=>False
def exR:R->(R->Prop)->Prop->Prop
|.exc n,Q,_=>Q (.exc n)
|.val _,_,k=>k
|.own _,_,k=>k
|.peek _,_,k=>k
theorem pub{Q:D->Prop}(p:Stp B H B' H')(h:RepR K B' H H' r v)(q:pubR r Q):∃d B2,Stp B H B2 H'/\Same B' B2/\Rep K B2 d v/\Q d:=by
 cases r with
|val d=>exact⟨d,B',p,Same.refl _,h,q⟩
|own d =>
  obtain⟨a,rfl,h0,hb,o⟩:=h
  obtain⟨u,e,rp⟩:=o.pub hb
  refine⟨d,upd B' a u,⟨p.b.trans (qav hb _),p.h,qly p.s e,λc z=>?_⟩,qav hb _,rp,q⟩
  by_cases w:c=a
  ·exact .inr (.inl (w▸h0))
  ·rw[qar w] at z
   exact p.d c z
|peek d=>exact q.elim
|exc n=>exact q.elim
def FzD(K:PySem.W.Frag)(B:Hp)(d:D)(v:V):Prop:=∃a ks ds kvs o,d=.dT ks ds/\v=.ref a/\B a=some (.frz o (.dT kvs))/\kvs.map (·.1)=ks.map wK/\Reps K B ds (kvs.map (·.2))
mutual
def NewD(H0 B:Hp):D->V->Prop
|.lst ds,v=>∃a xs,v=.ref a/\B a=some (.lst xs)/\H0 a=none/\NewDs H0 B ds xs
|_,_=>True
def NewDs(H0 B:Hp):List D->List V->Prop
|d::ds,x::xs=>NewD H0 B d x/\NewDs H0 B ds xs
|_,_=>True
end
mutual
theorem NewD.same{H0 B B':Hp}(s:Same B B'):∀(d:D) (v:V),NewD H0 B d v->NewD H0 B' d v
|.lst ds,v,h=>by
  unfold NewD at h ⊢
  obtain⟨a,xs,e1,e2,e3,e4⟩:=h
  exact⟨a,xs,e1,s _ _ e2,e3,NewDs.same s ds xs e4⟩
|.non,_,_|.bl _,_,_|.int _,_,_|.str _,_,_|.tup _,_,_|.dT ..,_,_|.dK ..,_,_|.scr _,_,_|.kt _,_,_|.exc _,_,_|.io ..,_,_|.ioT ..,_,_|.ob ..,_,_|.adr _,_,_=>by unfold NewD;trivial
theorem NewDs.same{H0 B B':Hp}(s:Same B B'):∀(ds:List D) (xs:List V),NewDs H0 B ds xs->NewDs H0 B' ds xs
|d::ds,x::xs,h=>by
  unfold NewDs at h ⊢
  exact⟨NewD.same s d x h.1,NewDs.same s ds xs h.2⟩
|[],_,_=>by unfold NewDs;trivial
|_::_,[],_=>by unfold NewDs;trivial
end
def q6g(ds:List D):Prop:=∀d∈ds,match d with
|.lst _=>False
|_=>True
def NewR(H0 B:Hp)(d:D)(v:V):Prop:=match d with
|.tup ds=>q6g ds\/∃a xs,v=.ref a/\B a=some (.tup xs)/\NewDs H0 B ds xs
|_=>NewD H0 B d v
def FzAt(K:PySem.W.Frag)(H0 B:Hp)(d:D)(v:V):Prop:=FzD K B d v\/∃ds,d=.lst ds/\Rep K B d v/\NewD H0 B d v
theorem FzAt.same{H0:Hp}(h:FzAt K H0 B d v)(s:Same B B'):FzAt K H0 B' d v:=by
 rcases h with ⟨a,ks,ds,kvs,o,e1,e2,e3,e4,e5⟩|⟨ds,e,r,n⟩
 ·exact .inl ⟨a,ks,ds,kvs,o,e1,e2,s _ _ e3,e4,e5.same s⟩
 ·exact .inr ⟨ds,e,r.same s,NewD.same s _ _ n⟩
theorem FzAt.rep{H0:Hp}(h:FzAt K H0 B d v):Rep K B d v:=by
 rcases h with ⟨a,ks,ds,kvs,o,rfl,e2,e3,e4,e5⟩|⟨ds,e,r,n⟩
 ·unfold Rep
  exact⟨a,kvs,e2,.inr ⟨o,e3⟩,e4,e5⟩
 ·exact r
structure Slots(K:PySem.W.Frag)(H0 B H:Hp)(τ:VSt)(σ:St):Prop where
 len:σ.length=τ.length
 val:∀(i:Nat) (d:D),τ[i]?=some (some (R.val d))->∃v,σ[i]?=some (some v)/\Rep K B d v
 fz:∀(i:Nat) (d:D),τ[i]?=some (some (R.peek d))->∃v,σ[i]?=some (some v)/\FzAt K H0 B d v
 own:∀(i:Nat) (d:D),τ[i]?=some (some (R.own d))->∃a,σ[i]?=some (some (.ref a))/\H0 a=none/\B a=none/\OwnAt K B H d a
 sep:∀(i j:Nat) (d e:D) (a:Addr),τ[i]?=some (some (R.own d))->τ[j]?=some (some (R.own e))->σ[i]?=some (some (.ref a))->σ[j]?=some (some (.ref a))->i=j
variable {τ:VSt} {σ:St}
theorem Slots.step(S:Slots K H0 B H τ σ)(p:Stp B H B' H'):Slots K H0 B' H' τ σ where
 len:=S.len
 val:=λi d e=>let ⟨v,q,r⟩:=S.val i d e;⟨v,q,r.same p.b⟩
 fz:=λi d e=>let ⟨v,q,r⟩:=S.fz i d e;⟨v,q,r.same p.b⟩
 own:=λi d e=>let ⟨a,q,h0,hb,o⟩:=S.own i d e;⟨a,q,h0,p.keep hb o.some o.nt,o.step p.b (p.h.at o.some)⟩
 sep:=S.sep
theorem qb0{α:Type}{xs:List α}{i j:Nat}{x y:α}(h:(xs.set i x)[j]?=some y):(i=j/\x=y/\i<xs.length)\/(i≠j/\xs[j]?=some y):=by
 by_cases e:i=j
 ·subst e
  by_cases l:i<xs.length
  ·rw[List.getElem?_set_self l] at h
   exact .inl ⟨rfl,Option.some.inj h,l⟩
  ·rw[List.getElem?_eq_none (by rw[List.length_set];lia)] at h
   cases h
 ·rw[List.getElem?_set_ne e] at h
  exact .inr ⟨e,h⟩
theorem Slots.setVal(S:Slots K H0 B H τ σ)(i:Nat)(h:Rep K B d v):Slots K H0 B H (τ.set i (some (.val d))) (σ.set i (some v)) where
 len:=by rw[List.length_set,List.length_set,S.len]
 val:=λj e q=>by
  rcases qb0 q with ⟨rfl,z,l⟩|⟨n,q⟩
  ·cases z
   exact⟨v,List.getElem?_set_self (by rw[S.len];exact l),h⟩
  ·obtain⟨w,q,r⟩:=S.val j e q
   exact⟨w,by rw[List.getElem?_set_ne n];exact q,r⟩
 fz:=λj e q=>by
  rcases qb0 q with ⟨rfl,z,l⟩|⟨n,q⟩
  ·cases z
  ·obtain⟨w,q,r⟩:=S.fz j e q
   exact⟨w,by rw[List.getElem?_set_ne n];exact q,r⟩
 own:=λj e q=>by
  rcases qb0 q with ⟨rfl,z,l⟩|⟨n,q⟩
  ·cases z
  ·obtain⟨w,q,r⟩:=S.own j e q
   exact⟨w,by rw[List.getElem?_set_ne n];exact q,r⟩
 sep:=λj k e f c q1 q2 q3 q4=>by
  rcases qb0 q1 with ⟨rfl,z,l⟩|⟨n,q1⟩
  ·cases z
  rcases qb0 q2 with ⟨rfl,z,l⟩|⟨n2,q2⟩
  ·cases z
  rw[List.getElem?_set_ne n] at q3
  rw[List.getElem?_set_ne n2] at q4
  exact S.sep j k e f c q1 q2 q3 q4
theorem Slots.setOwn(S:Slots K H0 B H τ σ)(i:Nat)(h0:H0 a=none)(hb:B a=none)(o:OwnAt K B H d a)(nw:∀(j:Nat) (e:D),τ[j]?=some (some (.own e))->σ[j]?≠some (some (.ref a))) :
  Slots K H0 B H (τ.set i (some (.own d))) (σ.set i (some (.ref a))) where
 len:=by rw[List.length_set,List.length_set,S.len]
 val:=λj e q=>by
  rcases qb0 q with ⟨rfl,z,l⟩|⟨n,q⟩
  ·cases z
  ·obtain⟨w,q,r⟩:=S.val j e q
   exact⟨w,by rw[List.getElem?_set_ne n];exact q,r⟩
 fz:=λj e q=>by
  rcases qb0 q with ⟨rfl,z,l⟩|⟨n,q⟩
  ·cases z
  ·obtain⟨w,q,r⟩:=S.fz j e q
   exact⟨w,by rw[List.getElem?_set_ne n];exact q,r⟩
 own:=λj e q=>by
  rcases qb0 q with ⟨rfl,z,l⟩|⟨n,q⟩
  ·cases z
   exact⟨a,List.getElem?_set_self (by rw[S.len];exact l),h0,hb,o⟩
  ·obtain⟨w,q,r⟩:=S.own j e q
   exact⟨w,by rw[List.getElem?_set_ne n];exact q,r⟩
 sep:=λj k e f c q1 q2 q3 q4=>by
  rcases qb0 q1 with ⟨rfl,z,l⟩|⟨n,q1⟩
  ·rcases qb0 q2 with ⟨rfl,z,l2⟩|⟨n2,q2⟩
   ·rfl
   ·rw[List.getElem?_set_self (by rw[S.len];exact l)] at q3
    cases q3
    rw[List.getElem?_set_ne n2] at q4
    exact absurd q4 (nw k f q2)
  ·rcases qb0 q2 with ⟨rfl,z,l2⟩|⟨n2,q2⟩
   ·rw[List.getElem?_set_self (by rw[S.len];exact l2)] at q4
    cases q4
    rw[List.getElem?_set_ne n] at q3
    exact absurd q3 (nw j e q1)
   ·rw[List.getElem?_set_ne n] at q3
    rw[List.getElem?_set_ne n2] at q4
    exact S.sep j k e f c q1 q2 q3 q4
theorem Slots.upd(S:Slots K H0 B H τ σ){i:Nat}{e:D}{o:HO}(hi:τ[i]?=some (some (.own e)))(ha:σ[i]?=some (some (.ref a)))(n:OwnAt K B (upd H a o) d a) :
  Slots K H0 B (upd H a o) (τ.set i (some (.own d))) σ where
 len:=by rw[List.length_set,S.len]
 val:=λj f q=>by
  rcases qb0 q with ⟨rfl,z,l⟩|⟨n,q⟩
  ·cases z
  ·exact S.val j f q
 fz:=λj f q=>by
  rcases qb0 q with ⟨rfl,z,l⟩|⟨n,q⟩
  ·cases z
  ·exact S.fz j f q
 own:=λj f q=>by
  rcases qb0 q with ⟨rfl,z,l⟩|⟨ne,q⟩
  ·cases z
   obtain⟨c,q1,h0,hb,_⟩:=S.own i e hi
   rw[ha] at q1
   cases q1
   exact⟨a,ha,h0,hb,n⟩
  ·obtain⟨c,q1,h0,hb,w⟩:=S.own j f q
   refine⟨c,q1,h0,hb,w.step (Same.refl _) (qar λz=>?_)⟩
   subst z
   exact ne (S.sep i j e f c hi q ha q1)
 sep:=λj k e' f c q1 q2 q3 q4=>by
  have hj:∃e',τ[j]?=some (some (.own e')):=by
   rcases qb0 q1 with ⟨rfl,z,l⟩|⟨_,q⟩
   ·exact⟨e,hi⟩
   ·exact⟨_,q⟩
  have hk:∃e',τ[k]?=some (some (.own e')):=by
   rcases qb0 q2 with ⟨rfl,z,l⟩|⟨_,q⟩
   ·exact⟨e,hi⟩
   ·exact⟨_,q⟩
  obtain⟨_,hj⟩:=hj
  obtain⟨_,hk⟩:=hk
  exact S.sep j k _ _ c hj hk q3 q4
theorem Stp.upd(p:Stp B H B' H'){o:HO}(h0:H a=none)(hb:B' a=none):Stp B H B' (L2.upd H' a o) :=
 ⟨p.b,p.h.put h0,λb u q=>by
  rw[qar (λz=>by rw[z,hb] at q;cases q)]
  exact p.s _ _ q,p.d⟩
def frz(i:Nat)(τ:VSt):VSt:=match τ[i]? with
|some (some (.own d))=>τ.set i (some (.val d))
|_=>τ
end
end L2
namespace L2
open PySem PySem.Spec PyProof.Rows
abbrev TV:=VSt->(R->Prop)->Prop
abbrev TVT:=VSt->(Bool->Prop)->Prop
inductive AR where
|ok (ds:List D)
|exc (n:Str)
abbrev TVA:=VSt->(AR->Prop)->Prop
abbrev TVG:=D->VSt->(VSt->Prop)->Prop
structure VEnds where
 nx:VSt->Prop
 rt:R->Prop
 bk:VSt->Prop:=λ_=>False
 ct:VSt->Prop:=λ_=>False
 xc:VSt->Str->Prop:=λ_ _=>False
 ro:VSt->R->Prop:=λ_ _=>False
 rn:D->Prop:=λ_=>False
abbrev TVS:=VEnds->VSt->Prop
section
variable (K:PySem.W.Frag) (EX:St->XK)
def RfE(te:TE)(t:TV):Prop:=∀(H0 B H:Hp) (τ:VSt) (σ:St) (Q:VK) (Qd:R->Prop),Same B H->Slots K H0 B H τ σ->t τ Qd->(∀n C B' H',Stp B H B' H'->clsOf K n C->Qd (.exc n)->EX σ (.ref C) none H')->(∀r v B' H',Stp B H B' H'->RepR K B' H H' r v->Qd r->Q v H')->te σ H Q
def RfT(te:TT)(t:TVT):Prop:=∀(H0 B H:Hp) (τ:VSt) (σ:St) (Q:Bool->Hp->Prop) (Qd:Bool->Prop),Same B H->Slots K H0 B H τ σ->t τ Qd->(∀b B' H',Stp B H B' H'->Qd b->Q b H')->te σ H Q
def RfA(te:TA)(t:TVA):Prop:=∀(H0 B H:Hp) (τ:VSt) (σ:St) (Q:List V->Hp->Prop) (Qd:AR->Prop),Same B H->Slots K H0 B H τ σ->t τ Qd->(∀n C B' H',Stp B H B' H'->clsOf K n C->Qd (.exc n)->EX σ (.ref C) none H')->(∀ds vs B' H',Stp B H B' H'->Reps K B' ds vs->Qd (.ok ds)->Q vs H')->te σ H Q
def RfO(r:R2)(rd:R->R->(R->Prop)->Prop):Prop:=∀(B H:Hp) (x y:V) (rx ry:R) (Q:VK) (Qd:R->Prop),Same B H->Pk K B H rx x->Pk K B H ry y->rd rx ry Qd->(∀r v B' H',Stp B H B' H'->RepR K B' H H' r v->Qd r->Q v H')->r x y H Q
def RfC(r:List V->Hp->VK->Prop)(rd:R->(R->Prop)->Prop):Prop:=∀(B H:Hp) (x:V) (rx:R) (Q:VK) (Qd:R->Prop),Same B H->Pk K B H rx x->rd rx Qd->(∀r v B' H',Stp B H B' H'->RepR K B' H H' r v->Qd r->Q v H')->r [x] H Q
def Kp(τ:VSt)(σ:St)(τ':VSt)(σ':St):Prop:=∀(j:Nat) (e:D),τ'[j]?=some (some (R.own e))->τ[j]?=some (some (R.own e))/\σ'[j]?=σ[j]?
def RfG(g:TG)(t:TVG):Prop:=∀(H0 B H:Hp) (τ:VSt) (σ:St) (x:V) (d:D) (Q:St->Hp->Prop) (Qd:VSt->Prop),Same B H->Slots K H0 B H τ σ->Rep K B d x->t d τ Qd->(∀τ' σ',Slots K H0 B H τ' σ'->Kp τ σ τ' σ'->Qd τ'->Q σ' H)->g x σ H Q
def RfGs(g:TGs)(t:List D->VSt->(VSt->Prop)->Prop):Prop:=∀(H0 B H:Hp) (τ:VSt) (σ:St) (xs:List V) (ds:List D) (Q:St->Hp->Prop) (Qd:VSt->Prop),Same B H->Slots K H0 B H τ σ->Reps K B ds xs->t ds τ Qd->(∀τ' σ',Slots K H0 B H τ' σ'->Kp τ σ τ' σ'->Qd τ'->Q σ' H)->g xs σ H Q
def ItOk(B:Hp)(J:It)(ds:List D):Prop:=∀(i:Nat) (B2 H:Hp),Same B B2->Same B2 H->(∀d,ds[i]?=some d->J.go i H/\∀x H',J.yld i H x H'->∃B3,Stp B2 H B3 H'/\Rep K B3 d x)/\(ds[i]?=none->J.stop i H)
def RfI(wi:TI)(vi:TVA):Prop:=∀(H0 B H:Hp) (τ:VSt) (σ:St) (Q:It->Hp->Prop) (Qd:AR->Prop),Same B H->Slots K H0 B H τ σ->vi τ Qd->(∀n C B' H',Stp B H B' H'->clsOf K n C->Qd (.exc n)->EX σ (.ref C) none H')->(∀J ds B' H',Stp B H B' H'->ItOk K B' J ds->Qd (.ok ds)->Q J H')->wi σ H Q
def RfF(ti:TF)(t:TVT):Prop:=∀(H0 B H:Hp) (τ:VSt) (σ:St) (Y N:Hp->Prop) (Qd:Bool->Prop),Same B H->Slots K H0 B H τ σ->t τ Qd->(∀b B' H',Stp B H B' H'->Qd b->if b=true then Y H' else N H')->ti σ H Y N
structure EndsOk(B0 H0:Hp)(Dv:VEnds)(Dh:Ends):Prop where
 nx:∀B H τ σ,Stp B0 H0 B H->Slots K H0 B H τ σ->Dv.nx τ->Dh.nx σ H
 rt:∀r v B H,Stp B0 H0 B H->RepR K B H0 H r v->Dv.rt r->Dh.rt v H
 bk:∀B H τ σ,Stp B0 H0 B H->Slots K H0 B H τ σ->Dv.bk τ->Dh.bk σ H
 ct:∀B H τ σ,Stp B0 H0 B H->Slots K H0 B H τ σ->Dv.ct τ->Dh.ct σ H
 xc:∀B H τ σ n C,Stp B0 H0 B H->Slots K H0 B H τ σ->clsOf K n C->Dv.xc τ n->EX σ (.ref C) none H
 ro:∀r v B H τ σ,Stp B0 H0 B H->Slots K H0 B H τ σ->RepR K B H0 H r v->(∀(d e:D) (i:Nat) (c:Addr),r=R.own d->τ[i]?=some (some (R.own e))->ioA e=some c->v≠.ref c)->Dv.ro τ r->Dh.rt v H
 rn:∀d v B H,Stp B0 H0 B H->Rep K B d v->NewR H0 B d v->Dv.rn d->Dh.rt v H
def RfS(ts:TS)(t:TVS):Prop:=∀(B0 H0 B H:Hp) (τ:VSt) (σ:St) (Dv:VEnds) (Dh:Ends),Stp B0 H0 B H->Slots K H0 B H τ σ->t Dv τ->EndsOk K EX B0 H0 Dv Dh->ts Dh σ H
end
section
structure VE(X:Cx)(EX:St->XK)(e:Expr)(t:TV):Prop where
 u:∃te,QE X e te/\RfE X.K EX te t
structure VC(X:Cx)(EX:St->XK)(e:Expr)(t:TV):Prop where
 u:∃te,QC X e te/\RfE X.K EX te t
structure VT(X:Cx)(EX:St->XK)(e:Expr)(t:TVT):Prop where
 u:∃te,QT X e te/\RfT X.K te t
structure VW(X:Cx)(EX:St->XK)(e:Expr)(t:TVT):Prop where
 u:∃te,QW X e te/\RfT X.K te t
structure VA(X:Cx)(EX:St->XK)(es:List Expr)(t:TVA):Prop where
 u:∃te,QA X es te/\RfA X.K EX te t
structure VI(X:Cx)(EX:St->XK)(tg e:Expr)(t:TVA):Prop where
 u:∃wi,QI X tg e wi/\RfI X.K EX wi t
structure VFs(X:Cx)(EX:St->XK)(ifs:List Expr)(t:TVT):Prop where
 u:∃ti,QF X ifs ti/\RfF X.K ti t
structure VS(X:Cx)(EX:St->XK)(st:Stmt)(t:TVS):Prop where
 u:∃ts,QS X st ts/\RfS X.K EX ts t
structure VSs(X:Cx)(EX:St->XK)(st:List Stmt)(t:TVS):Prop where
 u:∃ts,QSs X st ts/\RfS X.K EX ts t
end
section
variable (X:Cx)
structure VO(f:Value->Value->Sem Value)(rd:R->R->(R->Prop)->Prop):Prop where
 u:∃r,OpR X f r/\RfO X.K r rd
structure VX(rd:R->R->(R->Prop)->Prop):Prop where
 u:∃r,IxR X r/\RfO X.K r rd
structure VF(f:Value)(rd:R->(R->Prop)->Prop):Prop where
 u:∃r,CallR X f r/\RfC X.K r rd
structure VG(tg:Expr)(t:TVG):Prop where
 u:∃g,QG X tg g/\RfG X.K g t
structure VGs(ts:List Expr)(t:List D->VSt->(VSt->Prop)->Prop):Prop where
 u:∃g,QGs X ts g/\RfGs X.K g t
end
section
variable {X:Cx} {EX:St->XK} {K:PySem.W.Frag} {a b c e o i:Expr} {es:List Expr} {pos pos' p p2 apos cpos:Pos} {x:Str} {ta tb tc te:TV} {tA:TVA} {tT tU:TVT} {B H B' H' H0 H1 H2:Hp} {r:R} {v:V}
theorem RepR.back(h:RepR K B H1 H2 r v)(s:Same H H1):RepR K B H H2 r v:=by
 cases r with
|val d=>exact h
|own d =>
  obtain⟨a,e,h0,q⟩:=h
  exact⟨a,e,s.free h0,q⟩
|peek d=>exact h
|exc n=>exact h
theorem Pk.scal{z:V}(h:Pk K B H r v)(e:dV r.d=some z):v=z:=by
 cases r with
|val d =>
  have e':dV d=some z:=e
  have h':Rep K B d v:=h
  cases d<;>first|(unfold Rep at h';subst h';exact Option.some.inj e')|(cases e';done)
|own d =>
  obtain⟨a,_,_,q⟩:=h
  have e':dV d=some z:=e
  cases d<;>first|(cases e';done)|exact q.elim
|peek d =>
  obtain⟨a,_,_,q⟩:=h
  have e':dV d=some z:=e
  cases d<;>first|(cases e';done)|exact q.elim
|exc n=>exact h.elim
theorem Pk.tup{ds:List D}(h:Pk K B H r v)(e:r.d=.tup ds):∃a xs,v=.ref a/\TupAt K B a ds xs/\Reps K B ds xs:=by
 cases r with
|val d =>
  cases (show d=_ from e)
  have h':Rep K B (.tup ds) v:=h
  unfold Rep at h'
  exact h'
|own d=>cases (show d=_ from e);obtain⟨_,_,_,q⟩:=h;exact q.elim
|peek d=>cases (show d=_ from e);obtain⟨_,_,_,q⟩:=h;exact q.elim
|exc n=>exact h.elim
theorem Pk.lst{ds:List D}(s:Same B H)(h:Pk K B H r v)(e:r.d=.lst ds):∃a xs,v=.ref a/\H a=some (.lst xs)/\Reps K B ds xs:=by
 cases r with
|val d =>
  cases (show d=_ from e)
  have h':Rep K B (.lst ds) v:=h
  unfold Rep at h'
  obtain⟨a,xs,rfl,q,rp⟩:=h'
  exact⟨a,xs,rfl,s _ _ q,rp⟩
|own d=>cases (show d=_ from e);obtain⟨a,rfl,_,xs,q,rp⟩:=h;exact⟨a,xs,rfl,q,rp⟩
|peek d=>cases (show d=_ from e);obtain⟨a,rfl,_,xs,q,rp⟩:=h;exact⟨a,xs,rfl,q,rp⟩
|exc n=>exact h.elim
theorem Pk.scr{ns:List Int}(s:Same B H)(h:Pk K B H r v)(e:r.d=.scr ns):∃a,v=.ref a/\SqL K H a (ns.map V.int):=by
 cases r with
|val d =>
  cases (show d=_ from e)
  have h':Rep K B (.scr ns) v:=h
  unfold Rep at h'
  obtain⟨a,rfl,q⟩:=h'
  exact⟨a,rfl,s.seq q⟩
|own d=>cases (show d=_ from e);obtain⟨_,_,_,q⟩:=h;exact q.elim
|peek d=>cases (show d=_ from e);obtain⟨_,_,_,q⟩:=h;exact q.elim
|exc n=>exact h.elim
theorem qhz{d:D}{z:V}(e:dV d=some z):Rep K B d z:=by
 cases d<;>first|(cases e;done)|(unfold Rep;exact(Option.some.inj e).symm)
theorem repV{d:D}{z:V}(e:dV d=some z):RepR K B H0 H (.val d) z:=qhz e
theorem xst{B1:Hp}{σ:St}{P:Str->Prop}(x:∀n C B' H',Stp B H B' H'->clsOf K n C->P n->EX σ (.ref C) none H')(p:Stp B H B1 H1):∀n C B' H',Stp B1 H1 B' H'->clsOf K n C->P n->EX σ (.ref C) none H':=λn C B' H' q c h=>x n C B' H' (p.trans q) c h
theorem xno{σ:St}{P:Str->Prop}(h:∀n,¬ P n):∀n C B' H',Stp B H B' H'->clsOf K n C->P n->EX σ (.ref C) none H':=λn _ _ _ _ _ q=>absurd q (h n)
def vVar(i:Nat):TV:=λτ Q=>match τ[i]? with
|some (some (.val d))=>Q (.val d)
|some (some (.own d))=>Q (.peek d)
|some (some (.peek d))=>Q (.val d)
|_=>False
theorem q5f{i:Nat}:RfE K EX (tVar i) (vVar i):=λH0 B H τ σ Q Qd s S h _ k=>by
 unfold vVar at h
 split at h
 ·rename_i d e
  obtain⟨v,q,rp⟩:=S.val i d e
  exact⟨v,q,k (.val d) v B H (.refl s) rp h⟩
 ·rename_i d e
  obtain⟨a,q,_,hb,ow⟩:=S.own i d e
  exact⟨.ref a,q,k (.peek d) (.ref a) B H (.refl s) ⟨a,rfl,hb,ow⟩ h⟩
 ·rename_i d e
  obtain⟨v,q,rp⟩:=S.fz i d e
  exact⟨v,q,k (.val d) v B H (.refl s) rp.rep h⟩
 ·exact h.elim
theorem vv(i:Nat)(hN:X.N[i]?=some x:=by rfl)(hv:Vis X.env.scope x:=by first|exact Or.inl rfl|exact Or.inr (Or.inl rfl)|exact Or.inr (Or.inr rfl))(hd:(x==("__debug__" : Str))=false:=by decide)
  (hcd:(x==("__classdict__" : Str))=false:=by decide):VE X EX (.Name x pos) (vVar i):=⟨_,qv i hN hv hd hcd,q5f⟩
def vC(d:D):TV:=λ_ Q=>Q (.val d)
theorem rf_c{d:D}{z:V}(e:dV d=some z):RfE K EX (tC z) (vC d):=λ_ B H _ _ _ _ s _ h _ k=>k (.val d) z B H (.refl s) (qhz e) h
theorem qad{k:Int}{j:Nat}:VE X EX (.Constant (.int k) j pos) (vC (.int k)):=⟨_,q4r,rf_c rfl⟩
theorem qc1{k:Bool}{j:Nat}:VE X EX (.Constant (.bool k) j pos) (vC (.bl k)):=⟨_,q62,rf_c rfl⟩
theorem qe5{j:Nat}:VE X EX (.Constant .none j pos) (vC .non):=⟨_,q4t,rf_c rfl⟩
theorem qah{z:Str}{j:Nat}:VE X EX (.Constant (.str z) j pos) (vC (.str z)):=⟨_,qe_str,rf_c rfl⟩
theorem qkn{d:D}{z:V}{w:Value}(hg:Gl X x)(hm:X.mg x=some w)(r:RelV z w)(e:dV d=some z)(hd:(x==("__debug__" : Str))=false:=by decide):VE X EX (.Name x pos) (vC d):=⟨_,qj5 hg hm r hd,rf_c e⟩
theorem qgz{ss:List Str}{ad:Addr}(hg:Gl X x)(hm:X.mg x=some (.ref ad))(h:SqT X.K (λ_=>none) ad (ss.map V.str))(hd:(x==("__debug__" : Str))=false:=by decide):VE X EX (.Name x pos) (vC (.kt ss)) :=
 ⟨_,qj5 (v:=.ref ad) hg hm rfl hd,λ_ B H _ _ _ _ s _ q _ k=>k (.val _) _ B H (.refl s) (by show Rep X.K B (.kt ss) _;unfold Rep;exact⟨ad,rfl,h⟩) q⟩
theorem RepR.ok{Q:R->Prop}{k:Prop}(h:RepR K B H0 H r v)(q:exR r Q k):k:=by
 cases r with
|exc n=>exact h.elim
|val d=>exact q
|own d=>exact q
|peek d=>exact q
def vOp(rd:R->R->(R->Prop)->Prop)(ta tb:TV):TV:=λτ Q=>ta τ λrx=>exR rx Q (tb τ λry=>exR ry Q (rd rx ry Q))
theorem qw2{rr:R2}{rd:R->R->(R->Prop)->Prop}{ea eb:TE}(hr:RfO K rr rd)(ha:RfE K EX ea ta)(hb:RfE K EX eb tb):RfE K EX (tOp rr ea eb) (vOp rd ta tb):=λH0 B H τ σ Q Qd s S h xc k =>
 ha H0 B H τ σ _ _ s S h xc λrx x B1 H1 p1 q1 h1=>hb H0 B1 H1 τ σ _ _ p1.s (S.step p1) (q1.ok h1) (xst xc p1) λry y B2 H2 p2 q2 h2 =>
  hr B2 H2 x y rx ry _ _ p2.s (q1.pk.step p2) q2.pk (q2.ok h2) λr v B3 H3 p3 q3 h3=>k r v B3 H3 (p1.trans (p2.trans p3)) (q3.back (p1.trans p2).h) h3
theorem qay{op:Operator}{rd:R->R->(R->Prop)->Prop}(hr:VO X (binaryOp op) rd)(ha:VE X EX a ta)(hb:VE X EX b tb):VE X EX (.BinOp a op b pos) (vOp rd ta tb) :=
 let ⟨_,h1,h2⟩:=hr.u;let ⟨_,a1,a2⟩:=ha.u;let ⟨_,b1,b2⟩:=hb.u;⟨_,q64 h1 a1 b1,qw2 h2 a2 b2⟩
theorem qdo{op:CmpOp}{rd:R->R->(R->Prop)->Prop}(hr:VO X (compareOp op) rd)(ha:VE X EX a ta)(hb:VE X EX b tb)(hm:behindInMarks op b=false:=by with_unfolding_all rfl):VE X EX (.Compare a [op] [b] pos) (vOp rd ta tb) :=
 let ⟨_,h1,h2⟩:=hr.u;let ⟨_,a1,a2⟩:=ha.u;let ⟨_,b1,b2⟩:=hb.u;⟨_,q1e h1 a1 b1 hm,qw2 h2 a2 b2⟩
theorem qau{rd:R->R->(R->Prop)->Prop}(hr:VX X rd)(ha:VE X EX a ta)(hb:VE X EX b tb)(hs:qmn b:=by exact λ_ _=>rfl):VE X EX (.Subscript a b pos) (vOp rd ta tb) :=
 let ⟨_,h1,h2⟩:=hr.u;let ⟨_,a1,a2⟩:=ha.u;let ⟨_,b1,b2⟩:=hb.u;⟨_,q63 h1 a1 b1 hs,qw2 h2 a2 b2⟩
def vBl(t:TV):TVT:=λτ Q=>t τ λr=>match r.d with
|.bl b=>Q b
|_=>False
theorem qt0{ea:TE}(ha:RfE K EX ea ta):RfT K (tB ea) (vBl ta):=λH0 B H τ σ Q Qd s S h k=>ha H0 B H τ σ _ _ s S h (xno λ_ q=>q) λr v B' H' p q h1=>by
 split at h1
 ·rename_i bb e
  exact⟨bb,q.pk.scal (by rw[e];rfl),k bb B' H' p h1⟩
 ·exact h1.elim
theorem qc5(ha:VE X EX e ta)(he:∀whole,isTrue e X.env whole=(do let v ←whole;standAt e.pos;holding [v] (truthy v)):=by intro _;rfl):VT X EX e (vBl ta) :=
 let ⟨_,a1,a2⟩:=ha.u;⟨_,q46 a1 he,qt0 a2⟩
theorem qal{op:CmpOp}{rd:R->R->(R->Prop)->Prop}(hr:VO X (compareOp op) rd)(ha:VE X EX a ta)(hb:VE X EX b tb)(hm:behindInMarks op b=false:=by with_unfolding_all rfl):VT X EX (.Compare a [op] [b] pos) (vBl (vOp rd ta tb)) :=
 let ⟨_,h1,h2⟩:=hr.u;let ⟨_,a1,a2⟩:=ha.u;let ⟨_,b1,b2⟩:=hb.u;⟨_,q1p h1 a1 b1 hm,qt0 (qw2 h2 a2 b2)⟩
def qe4(t u:TVT):TVT:=λτ Q=>t τ λc=>if c=true then u τ Q else Q false
def vOrT(t u:TVT):TVT:=λτ Q=>t τ λc=>if c=true then Q true else u τ Q
def qdr(t:TVT):TVT:=λτ Q=>t τ λc=>Q (!c)
theorem q5e{e1:TT}(h1:RfT K e1 tT):RfT K (tNot e1) (qdr tT):=λH0 B H τ σ Q Qd s S h k=>h1 H0 B H τ σ _ _ s S h λb B' H' p q=>k _ B' H' p q
theorem q5b{e1 e2:TT}(h1:RfT K e1 tT)(h2:RfT K e2 tU):RfT K (tAnd e1 e2) (qe4 tT tU):=λH0 B H τ σ Q Qd s S h k=>h1 H0 B H τ σ _ _ s S h λb B' H' p q=>by
 cases b with
|true=>exact iteT (h2 H0 B' H' τ σ _ _ p.s (S.step p) (by rw[if_pos rfl] at q;exact q) λb2 B2 H2 p2 q2=>k b2 B2 H2 (p.trans p2) q2)
|false=>exact iteF (k false B' H' p (by rw[if_neg Bool.false_ne_true] at q;exact q))
theorem q7d{e1 e2:TT}(h1:RfT K e1 tT)(h2:RfT K e2 tU):RfT K (tOr e1 e2) (vOrT tT tU):=λH0 B H τ σ Q Qd s S h k=>h1 H0 B H τ σ _ _ s S h λb B' H' p q=>by
 cases b with
|true=>exact iteT (k true B' H' p (by rw[if_pos rfl] at q;exact q))
|false=>exact iteF (h2 H0 B' H' τ σ _ _ p.s (S.step p) (by rw[if_neg Bool.false_ne_true] at q;exact q) λb2 B2 H2 p2 q2=>k b2 B2 H2 (p.trans p2) q2)
theorem qc4(h:VT X EX a tT):VT X EX (.UnaryOp .Not a pos) (qdr tT):=let ⟨_,a1,a2⟩:=h.u;⟨_,q45 a1,q5e a2⟩
theorem qdt(h:VT X EX a tT):VW X EX (.BoolOp .And [a] pos) tT:=let ⟨_,a1,a2⟩:=h.u;⟨_,q1q a1,a2⟩
theorem qea(h:VT X EX a tT):VW X EX (.BoolOp .Or [a] pos) tT:=let ⟨_,a1,a2⟩:=h.u;⟨_,q48 a1,a2⟩
theorem qd9(ha:VT X EX a tT)(hb:VW X EX (.BoolOp .And (b::es) pos) tU):VW X EX (.BoolOp .And (a::b::es) pos) (qe4 tT tU):=let ⟨_,a1,a2⟩:=ha.u;let ⟨_,b1,b2⟩:=hb.u;⟨_,q47 a1 b1,q5b a2 b2⟩
theorem qfg(ha:VT X EX a tT)(hb:VW X EX (.BoolOp .Or (b::es) pos) tU):VW X EX (.BoolOp .Or (a::b::es) pos) (vOrT tT tU):=let ⟨_,a1,a2⟩:=ha.u;let ⟨_,b1,b2⟩:=hb.u;⟨_,q7a a1 b1,q7d a2 b2⟩
theorem vw_t(h:VW X EX e tT):VT X EX e tT:=let ⟨_,a1,a2⟩:=h.u;⟨_,qw_t a1,a2⟩
def qit(ta tb:TV):TV:=λτ Q=>ta τ λr=>match r.d with
|.bl c=>if c=true then tb τ Q else Q (.val (.bl false))
|_=>False
def vOrE(ta tb:TV):TV:=λτ Q=>ta τ λr=>match r.d with
|.bl c=>if c=true then Q (.val (.bl true)) else tb τ Q
|_=>False
def qui(ta:TV):TV:=λτ Q=>ta τ λr=>match r.d with
|.bl c=>Q (.val (.bl (!c)))
|_=>False
theorem qep{op:BoolOp}(h:VE X EX a ta):VE X EX (.BoolOp op [a] pos) ta:=let ⟨_,a1,a2⟩:=h.u;⟨_,q4v a1,a2⟩
theorem qih(ha:VE X EX a ta)(hb:VE X EX (.BoolOp .And (b::es) pos) tb):VE X EX (.BoolOp .And (a::b::es) pos) (qit ta tb) :=
 let ⟨_,a1,a2⟩:=ha.u;let ⟨_,b1,b2⟩:=hb.u;⟨_,q4q a1 b1,λH0 B H τ σ Q Qd s S h xc k=>a2 H0 B H τ σ _ _ s S h (xno λ_ q=>q) λr v B' H' p q h1=>by
  split at h1
  ·rename_i c e
   refine⟨c,q.pk.scal (by rw[e];rfl),?_⟩
   cases c with
  |true=>exact iteT (b2 H0 B' H' τ σ _ _ p.s (S.step p) (by rw[if_pos rfl] at h1;exact h1) (xst xc p) λr2 v2 B2 H2 p2 q2 h2=>k r2 v2 B2 H2 (p.trans p2) (q2.back p.h) h2)
  |false=>exact iteF (k (.val (.bl false)) _ B' H' p (repV (d:=.bl false) rfl) (by rw[if_neg Bool.false_ne_true] at h1;exact h1))
  ·exact h1.elim⟩
theorem qum(ha:VE X EX a ta)(hb:VE X EX (.BoolOp .Or (b::es) pos) tb):VE X EX (.BoolOp .Or (a::b::es) pos) (vOrE ta tb) :=
 let ⟨_,a1,a2⟩:=ha.u;let ⟨_,b1,b2⟩:=hb.u;⟨_,q65 a1 b1,λH0 B H τ σ Q Qd s S h xc k=>a2 H0 B H τ σ _ _ s S h (xno λ_ q=>q) λr v B' H' p q h1=>by
  split at h1
  ·rename_i c e
   refine⟨c,q.pk.scal (by rw[e];rfl),?_⟩
   cases c with
  |true=>exact iteT (k (.val (.bl true)) _ B' H' p (repV (d:=.bl true) rfl) (by rw[if_pos rfl] at h1;exact h1))
  |false=>exact iteF (b2 H0 B' H' τ σ _ _ p.s (S.step p) (by rw[if_neg Bool.false_ne_true] at h1;exact h1) (xst xc p) λr2 v2 B2 H2 p2 q2 h2=>k r2 v2 B2 H2 (p.trans p2) (q2.back p.h) h2)
  ·exact h1.elim⟩
theorem qyz(ha:VE X EX a ta):VE X EX (.UnaryOp .Not a pos) (qui ta) :=
 let ⟨_,a1,a2⟩:=ha.u;⟨_,q4u a1,λH0 B H τ σ Q Qd s S h xc k=>a2 H0 B H τ σ _ _ s S h (xno λ_ q=>q) λr v B' H' p q h1=>by
  split at h1
  ·rename_i c e
   exact⟨c,q.pk.scal (by rw[e];rfl),k (.val (.bl (!c))) _ B' H' p (repV (d:=.bl (!c)) rfl) h1⟩
  ·exact h1.elim⟩
def vIfE(tT:TVT)(ta tb:TV):TV:=λτ Q=>tT τ λc=>if c=true then ta τ Q else tb τ Q
theorem qg0(hc:VT X EX c tT)(ha:VE X EX a ta)(hb:VE X EX b tb):VE X EX (.IfExp c a b pos) (vIfE tT ta tb) :=
 let ⟨_,c1,c2⟩:=hc.u;let ⟨_,a1,a2⟩:=ha.u;let ⟨_,b1,b2⟩:=hb.u;⟨_,qwt c1 a1 b1,λH0 B H τ σ Q Qd s S h xc k=>c2 H0 B H τ σ _ _ s S h λcb B' H' p q=>by
  cases cb with
 |true=>exact iteT (a2 H0 B' H' τ σ _ _ p.s (S.step p) (by rw[if_pos rfl] at q;exact q) (xst xc p) λr2 v2 B2 H2 p2 q2 h2=>k r2 v2 B2 H2 (p.trans p2) (q2.back p.h) h2)
 |  false=>exact iteF (b2 H0 B' H' τ σ _ _ p.s (S.step p) (by rw[if_neg Bool.false_ne_true] at q;exact q) (xst xc p) λr2 v2 B2 H2 p2 q2 h2=>k r2 v2 B2 H2 (p.trans p2) (q2.back p.h) h2)⟩
def exA:AR->(R->Prop)->(List D->Prop)->Prop
|.ok ds,_,k=>k ds
|.exc n,Q,_=>Q (.exc n)
def vNil:TVA:=λ_ Q=>Q (.ok [])
def q0b(d:D):AR->AR
|.ok ds=>.ok (d::ds)
|.exc n=>.exc n
def excA:R->(AR->Prop)->Prop->Prop
|.exc n,Q,_=>Q (.exc n)
|.val _,_,k=>k
|.own _,_,k=>k
|.peek _,_,k=>k
theorem RepR.okA{Q:AR->Prop}{k:Prop}(h:RepR K B H0 H r v)(q:excA r Q k):k:=by
 cases r with
|exc n=>exact h.elim
|val d=>exact q
|own d=>exact q
|peek d=>exact q
def qab(te:TV)(tA:TVA):TVA:=λτ Q=>te τ λr=>excA r Q (pubR r λd=>tA τ λa=>Q (q0b d a))
theorem qag:VA X EX [] vNil:=⟨_,qd0,λ_ B H _ _ _ _ s _ h _ k=>k [] [] B H (.refl s) (by unfold Reps;rfl) h⟩
theorem vac(ha:VE X EX e te)(hr:VA X EX es tA)(hs:qaq e=true:=by rfl):VA X EX (e::es) (qab te tA) :=
 let ⟨_,a1,a2⟩:=ha.u;let ⟨_,b1,b2⟩:=hr.u;⟨_,qac a1 b1 hs,λH0 B H τ σ Q Qd s S h xc k=>a2 H0 B H τ σ _ _ s S h xc λr v B1 H1 p q h1=>by
  obtain⟨d,B2,p2,_,rp,h2⟩:=pub p q (q.okA h1)
  exact b2 H0 B2 H1 τ σ _ _ p2.s (S.step p2) h2 (xst xc p2) λds vs B3 H3 p3 q3 h3=>k (d::ds) (v::vs) B3 H3 (p2.trans p3) (by unfold Reps;exact⟨v,vs,rfl,rp.same p3.b,q3⟩) h3⟩
def vTup(tA:TVA):TV:=λτ Q=>tA τ λa=>exA a Q λds=>ds.length<=sizeLine/\Q (.val (.tup ds))
def vLst(tA:TVA):TV:=λτ Q=>tA τ λa=>exA a Q λds=>ds.length<=sizeLine/\Q (.own (.lst ds))
theorem qfo{ds:List D}{xs:List V}{q:Addr}(h:Reps K B ds xs)(hb:B q=none):Rep K (upd B q (.tup xs)) (.tup ds) (.ref q):=by
 unfold Rep
 exact⟨q,xs,rfl,.inl qaw,h.same (qav hb _)⟩
theorem qc8{ds:List D}{xs:List V}{q:Addr}(h:Reps K B ds xs):OwnAt K B (upd H q (.lst xs)) (.lst ds) q:=⟨xs,qaw,h⟩
theorem qa2{k:Nat}(h:VA X EX es tA):VE X EX (.Tuple es k pos) (vTup tA) :=
 let ⟨_,a1,a2⟩:=h.u;⟨_,qyj a1,λH0 B H τ σ Q Qd s S h xc k=>a2 H0 B H τ σ _ _ s S h xc λds vs B1 H1 p q h1 =>
  ⟨by rw[←q.length];exact h1.1,λad had=>k (.val (.tup ds)) _ (upd B1 ad (.tup vs)) _ (p.trans (.new p.s had)) (qfo q (p.s.free had)) h1.2⟩⟩
theorem qi8(h:VA X EX es tA):VE X EX (.List es pos) (vLst tA) :=
 let ⟨_,a1,a2⟩:=h.u;⟨_,q4s a1,λH0 B H τ σ Q Qd s S h xc k=>a2 H0 B H τ σ _ _ s S h xc λds vs B1 H1 p q h1 =>
  ⟨by rw[←q.length];exact h1.1,λad had=>k (.own (.lst ds)) _ B1 _ (p.trans (.grow p.s (qav had _))) ⟨ad,rfl,p.h.free had,p.s.free had,qc8 q⟩ h1.2⟩⟩
abbrev DP:=List D->(R->Prop)->Prop
def spOf(K:PySem.W.Frag)(g:DP):Sp:=λvs H Q E=>∃ds B Qd,Same B H/\Reps K B ds vs/\g ds Qd/\(∀n C B' H',Qd (.exc n)->Stp B H B' H'->clsOf K n C->E (.ref C) none H')/\∀r v B' H',Qd r->Stp B H B' H'->RepR K B' H H' r v->Q v H'
def qib(g:DP)(tA:TVA):TV:=λτ Q=>tA τ λa=>exA a Q λds=>g ds Q
def qaj(g:DP)(tA:TVA):TV:=λτ Q=>tA τ λa=>exA a Q λds=>g ds λr=>exR r (λ_=>False) (Q r)
theorem qam{k:Nat}{ps:List Str}{g:DP}(C:Cal X.prog X.w X.K X.mg X.base k x ps (spOf X.K g))(hr:Room k X.A)(hg:Gl X x)(ha:VA X EX (e::es) tA)(hp:(e::es).all qaq=true:=by rfl)(hdb:(x==("__debug__" : Str))=false:=by decide) :
  VE X EX (.Call (.Name x p) (e::es) [] pos) (qaj g tA) :=
 let ⟨_,a1,a2⟩:=ha.u;⟨_,qyi C hr hg a1 hp hdb,λH0 B H τ σ Q Qd s S h xc k=>a2 H0 B H τ σ _ _ s S h xc λds vs B1 H1 p q h1 =>
  ⟨ds,B1,_,p.s,by rw[List.append_nil];exact q,h1,λn C B' H' hq _ _=>hq.elim,λr v B2 H2 hq p2 q2=>k r v B2 H2 (p.trans p2) (q2.back p.h) (q2.ok hq)⟩⟩
def vF1(rd:R->(R->Prop)->Prop)(te:TV):TV:=λτ Q=>te τ λr=>exR r Q (rd r Q)
theorem q5c{rr:List V->Hp->VK->Prop}{rd:R->(R->Prop)->Prop}{ea:TE}(hr:RfC K rr rd)(ha:RfE K EX ea te):RfE K EX (tCB rr (qxc ea tNil)) (vF1 rd te):=λH0 B H τ σ Q Qd s S h xc k =>
 ha H0 B H τ σ _ _ s S h xc λrx x B1 H1 p1 q1 h1=>hr B1 H1 x rx _ _ p1.s q1.pk (q1.ok h1) λr v B2 H2 p2 q2 h2=>k r v B2 H2 (p1.trans p2) (q2.back p1.h) h2
theorem qb3{id:String}{rd:R->(R->Prop)->Prop}(hc:VF X (.builtin id) rd)(hg:Gl X x)(hm:X.mg x=none)(hv:bootBuiltins x=some (.builtin id))(ha:VE X EX e te)(hp:qaq e=true:=by rfl)(hn:x≠"__name__" := by decide)
  (hdb:(x==("__debug__" : Str))=false:=by decide):VE X EX (.Call (.Name x p) [e] [] pos) (vF1 rd te) :=
 let ⟨_,c1,c2⟩:=hc.u;let ⟨_,a1,a2⟩:=ha.u;⟨_,qcb c1 hg hm hv (qac a1 qd0 hp) (by simp[hp]) hn hdb,q5c c2 a2⟩
theorem q19{T:String}{rd:R->(R->Prop)->Prop}(hc:VF X (.type T) rd)(hg:Gl X x)(hm:X.mg x=none)(hv:bootBuiltins x=some (.type T))(ha:VE X EX e te)(hp:qaq e=true:=by rfl)(hn:x≠"__name__" := by decide)
  (hdb:(x==("__debug__" : Str))=false:=by decide):VE X EX (.Call (.Name x p) [e] [] pos) (vF1 rd te) :=
 let ⟨_,c1,c2⟩:=hc.u;let ⟨_,a1,a2⟩:=ha.u;⟨_,qct c1 hg hm hv (qac a1 qd0 hp) (by simp[hp]) hn hdb,q5c c2 a2⟩
end
end L2
namespace L2
open PySem PySem.Spec PyProof.Rows
section
variable {X:Cx} {EX:St->XK} {K:PySem.W.Frag} {B H B' H' H0:Hp}
theorem op_catP:OpR X (binaryOp .Add) (λx y H Q=>∃a b xs ys,x=.ref a/\y=.ref b/\SqT X.K H a xs/\SqT X.K H b ys/\xs.length+ys.length<=sizeLine/\(xs=[]->Q (.ref b) H)/\(xs≠[]->ys=[]->Q (.ref a) H) /\
  (xs≠[]->ys≠[]->∀p,H p=none->Q (.ref p) (upd H p (.tup (xs++ys))))):=by
 intro pins s σ H x y v u Q I rx ry h
 obtain⟨a,b,xs,ys,rfl,rfl,ha,hb,hz,q1,q2,q3⟩:=h
 by_cases hx:xs=[]
 ·subst hx
  cases rx
  cases ry
  obtain⟨its,r1,p1,_⟩:=I.tuple ha
  obtain⟨its2,r2,p2,_⟩:=I.tuple hb
  obtain⟨⟨cls,dd,data,sl⟩,ho,hc,n,hd⟩:=id p1
  obtain⟨⟨cls2,dd2,data2,sl2⟩,ho2,hc2,n2,hd2⟩:=id p2
  simp only at hc hd hc2 hd2
  subst hc hd hc2 hd2
  have e1:its=[]:=r1.nil_iff.mpr rfl
  exact concat_meets ⟨_,ho,rfl⟩ ⟨_,ho2,rfl⟩ noFill_tuple_add seq_tuple_add PySem.F.slot_tuple_add PySem.F.entry_tuple_add (PySem.F.args_tuple_add_2 _ _)
   (tuple_addW0 a b its.toArray its2.toArray n n2 dd dd2 sl sl2 (by simp[e1])) ⟨ho,ho2,⟨.ref b,H,I,rfl,q1 rfl⟩⟩
 ·exact q0k pins s σ H (.ref a) (.ref b) v u Q I rx ry ⟨a,b,xs,ys,rfl,rfl,ha,hb,hx,hz,λe=>q2 hx e,λe p hp=>q3 hx e p hp⟩
theorem sl_tupP:SlR X (λx lo hi H Q=>∃a xs,x=.ref a/\SqT X.K H a xs/\((HT.sIx xs.length 0 lo=0/\HT.sIx xs.length xs.length hi=xs.length)->Q (.ref a) H) /\
  (¬ (HT.sIx xs.length 0 lo=0/\HT.sIx xs.length xs.length hi=xs.length)->∀p,H p=none->Q (.ref p) (upd H p (.tup (cutV xs lo hi))))):=by
 intro pins s σ H x v vl vu lo hi sl Q I rx hs pl pu h
 obtain⟨a,xs,rfl,hx,q1,q2⟩:=h
 by_cases hw:HT.sIx xs.length 0 lo=0/\HT.sIx xs.length xs.length hi=xs.length
 ·cases rx
  obtain⟨its,r,ht,hz⟩:=I.tuple hx
  have hlen:its.toArray.size=xs.length:=by rw[List.size_toArray];exact r.length.symm
  refine⟨"tuple",_,PyProof.Rows.slot_tuple_getitem.lookup,ht.typeIs,?_⟩
  exact HT.getItem_tuple_whole ht hs pl pu (by rw[hlen];exact hw) ⟨.ref a,H,I,rfl,q1 hw⟩
 ·exact q5k pins s σ H (.ref a) v vl vu lo hi sl Q I rx hs pl pu ⟨a,xs,rfl,hx,hw,q2 hw⟩
theorem Reps.append{ds es:List D}{xs ys:List V}(h1:Reps K B ds xs)(h2:Reps K B es ys):Reps K B (ds++es) (xs++ys):=by
 induction ds generalizing xs with
|nil=>unfold Reps at h1;subst h1;exact h2
|cons d ds ih =>
  unfold Reps at h1
  obtain⟨x,r,rfl,q1,q2⟩:=h1
  show Reps K B (d::(ds++es)) (x::(r++ys))
  unfold Reps
  exact⟨x,r++ys,rfl,q1,ih q2⟩
theorem Reps.nil:Reps K B [] []:=by unfold Reps;rfl
theorem Reps.cons{d:D}{ds:List D}{x:V}{xs:List V}(h1:Rep K B d x)(h2:Reps K B ds xs):Reps K B (d::ds) (x::xs):=by unfold Reps;exact⟨x,xs,rfl,h1,h2⟩
theorem Reps.one{d:D}{x:V}(h:Rep K B d x):Reps K B [d] [x]:=.cons h .nil
theorem Reps.drop:∀(n:Nat) {ds:List D} {xs:List V},Reps K B ds xs->Reps K B (ds.drop n) (xs.drop n)
|0,_,_,h=>h
|n+1,[],_,h=>by unfold Reps at h;subst h;exact .nil
|n+1,d::ds,_,h=>by
  unfold Reps at h
  obtain⟨x,r,rfl,q1,q2⟩:=h
  exact Reps.drop n q2
theorem Reps.take:∀(n:Nat) {ds:List D} {xs:List V},Reps K B ds xs->Reps K B (ds.take n) (xs.take n)
|0,_,_,_=>.nil
|n+1,[],_,h=>by unfold Reps at h;subst h;exact .nil
|n+1,d::ds,_,h=>by
  unfold Reps at h
  obtain⟨x,r,rfl,q1,q2⟩:=h
  exact .cons q1 (Reps.take n q2)
theorem Reps.set:∀(n:Nat) {ds:List D} {xs:List V} {d:D} {x:V},Reps K B ds xs->Rep K B d x->Reps K B (ds.set n d) (xs.set n x)
|_,[],_,_,_,h,_=>by unfold Reps at h;subst h;exact .nil
|0,d::ds,_,_,_,h,q=>by
  unfold Reps at h
  obtain⟨x,r,rfl,q1,q2⟩:=h
  exact .cons q q2
|n+1,d::ds,_,_,_,h,q=>by
  unfold Reps at h
  obtain⟨x,r,rfl,q1,q2⟩:=h
  exact .cons q1 (Reps.set n q2 q)
theorem Reps.cut{ds:List D}{xs:List V}(lo hi:Option Int)(h:Reps K B ds xs):Reps K B (cutL ds lo hi) (cutV xs lo hi):=by
 unfold cutL cutV
 rw[h.length]
 exact(h.drop _).take _
theorem Reps.ints(ns:List Int):Reps K B (ns.map D.int) (ns.map V.int):=by
 induction ns with
|nil=>exact .nil
|cons n ns ih=>exact .cons (qhz (d:=.int n) rfl) ih
theorem Reps.strs:∀ {ss:List Str} {xs:List V},Reps K B (ss.map D.str) xs->xs=ss.map V.str
|[],_,h=>by unfold Reps at h;exact h
|s::ss,_,h=>by
  have h':Reps K B (.str s::ss.map D.str) _:=h
  unfold Reps at h'
  obtain⟨x,r,rfl,q1,q2⟩:=h'
  unfold Rep at q1
  rw[q1,Reps.strs q2]
  rfl
theorem Reps.bls:∀ {ss:List Bool} {xs:List V},Reps K B (ss.map D.bl) xs->xs=ss.map V.bl
|[],_,h=>by unfold Reps at h;exact h
|s::ss,_,h=>by
  have h':Reps K B (.bl s::ss.map D.bl) _:=h
  unfold Reps at h'
  obtain⟨x,r,rfl,q1,q2⟩:=h'
  unfold Rep at q1
  rw[q1,Reps.bls q2]
  rfl
theorem Reps.atI{ds:List D}{xs:List V}{i:Int}{d:D}(h:Reps K B ds xs)(e:L2.atI ds i=some d):∃x,L2.atI xs i=some x/\Rep K B d x:=by
 unfold L2.atI at e ⊢
 rw[←h.length]
 cases q:ixN ds.length i with
|none=>rw[q] at e;cases e
|some j =>
  rw[q] at e
  exact h.at e
def vAdd(rx ry:R)(Q:R->Prop):Prop:=match rx.d,ry.d with
|.int i,.int j=>Q (.val (.int (i+j)))
|.str a,.str b=>a.length+b.length<=sizeLine/\Q (.val (.str (a++b)))
|.tup a,.tup b=>a.length+b.length<=sizeLine/\Q (.val (.tup (a++b)))
|.lst a,.lst b=>a.length+b.length<=sizeLine/\Q (.own (.lst (a++b)))
|_,_=>False
theorem qa6:VO X (binaryOp .Add) vAdd:=by
 refine⟨_,op_add.or (op_add_str.or (op_catP.or q3t)),λB H x y rx ry Q Qd s px py h k=>?_⟩
 unfold vAdd at h
 split at h
 ·rename_i i j e1 e2
  exact .inl ⟨i,j,px.scal (by rw[e1];rfl),py.scal (by rw[e2];rfl),k _ _ B H (.refl s) (repV rfl) h⟩
 ·rename_i i j e1 e2
  exact .inr (.inl ⟨i,j,px.scal (by rw[e1];rfl),py.scal (by rw[e2];rfl),h.1,k _ _ B H (.refl s) (repV rfl) h.2⟩)
 ·rename_i ds es e1 e2
  obtain⟨a,xs,rfl,h1,r1⟩:=px.tup e1
  obtain⟨b,ys,rfl,h2,r2⟩:=py.tup e2
  refine .inr (.inr (.inl ⟨a,b,xs,ys,rfl,rfl,s.sqT h1.sq,s.sqT h2.sq,by rw[←r1.length,←r2.length];exact h.1,λz=>?_,λ_ z=>?_,λ_ _ p hp=>?_⟩))
  ·refine k _ _ B H (.refl s) ?_ h.2
   show Rep X.K B (.tup (ds++es)) _
   have e:ds=[]:=List.eq_nil_of_length_eq_zero (by rw[r1.length,z];rfl)
   unfold Rep
   exact⟨b,ys,rfl,by rw[e];exact h2,by rw[e];exact r2⟩
  ·refine k _ _ B H (.refl s) ?_ h.2
   show Rep X.K B (.tup (ds++es)) _
   have e:es=[]:=List.eq_nil_of_length_eq_zero (by rw[r2.length,z];rfl)
   unfold Rep
   exact⟨a,xs,rfl,by rw[e,List.append_nil];exact h1,by rw[e,List.append_nil];exact r1⟩
  ·exact k (.val (.tup (ds++es))) _ (upd B p (.tup (xs++ys))) _ (.new s hp) (qfo (r1.append r2) (s.free hp)) h.2
 ·rename_i ds es e1 e2
  obtain⟨a,xs,rfl,h1,r1⟩:=px.lst s e1
  obtain⟨b,ys,rfl,h2,r2⟩:=py.lst s e2
  exact .inr (.inr (.inr ⟨a,b,xs,ys,rfl,rfl,h1,h2,by rw[←r1.length,←r2.length];exact h.1,λp hp=>k (.own (.lst (ds++es))) _ B _ (.grow s (qav hp _)) ⟨p,rfl,hp,s.free hp,qc8 (r1.append r2)⟩ h.2⟩))
 ·exact h.elim
def vI2(C:Int->Int->Prop)(f:Int->Int->D)(rx ry:R)(Q:R->Prop):Prop:=match rx.d,ry.d with
|.int i,.int j=>C i j/\Q (.val (f i j))
|_,_=>False
def vI2'(f:Int->Int->D)(rx ry:R)(Q:R->Prop):Prop:=match rx.d,ry.d with
|.int i,.int j=>Q (.val (f i j))
|_,_=>False
theorem qxp{g:Value->Value->Sem Value}{C:Int->Int->Prop}{f:Int->Int->D}{f':Int->Int->V}(hf:∀i j,dV (f i j)=some (f' i j))(h:OpR X g (rI C f')):VO X g (vI2 C f):=by
 refine⟨_,h,λB H x y rx ry Q Qd s px py h k=>?_⟩
 unfold vI2 at h
 split at h
 ·rename_i i j e1 e2
  exact⟨i,j,px.scal (by rw[e1];rfl),py.scal (by rw[e2];rfl),h.1,k _ _ B H (.refl s) (repV (hf i j)) h.2⟩
 ·exact h.elim
theorem qpt{g:Value->Value->Sem Value}{f:Int->Int->D}{f':Int->Int->V}(hf:∀i j,dV (f i j)=some (f' i j))(h:OpR X g (rI0 f')):VO X g (vI2' f):=by
 refine⟨_,h,λB H x y rx ry Q Qd s px py h k=>?_⟩
 unfold vI2' at h
 split at h
 ·rename_i i j e1 e2
  exact⟨i,j,px.scal (by rw[e1];rfl),py.scal (by rw[e2];rfl),k _ _ B H (.refl s) (repV (hf i j)) h⟩
 ·exact h.elim
abbrev vSub:=vI2' λi j=>.int (i-j)
abbrev vMul:=vI2 CMul λi j=>.int (i*j)
abbrev vDiv:=vI2 CDiv λi j=>.int (i / j)
abbrev vMod:=vI2 (λ_ j=>0<j) λi j=>.int (i%j)
abbrev vPow:=vI2 CPow λi j=>.int (i ^ j.toNat)
abbrev vLt:=vI2' λi j=>.bl (decide (i<j))
abbrev vLe:=vI2' λi j=>.bl (decide (i<=j))
abbrev vGt:=vI2' λi j=>.bl (decide (j<i))
abbrev vGe:=vI2' λi j=>.bl (decide (j<=i))
theorem q53:VO X (binaryOp .Sub) vSub:=qpt (λ_ _=>rfl) q31
theorem quw:VO X (binaryOp .Mult) vMul:=qxp (λ_ _=>rfl) q3y
theorem qii:VO X (binaryOp .FloorDiv) vDiv:=qxp (λ_ _=>rfl) q0l
theorem qdp:VO X (binaryOp .Mod) vMod:=qxp (λ_ _=>rfl) q3x
theorem q52:VO X (binaryOp .Pow) vPow:=qxp (λ_ _=>rfl) q30
theorem quv:VO X (compareOp .Lt) vLt:=qpt (λ_ _=>rfl) q6o
theorem q2c:VO X (compareOp .LtE) vLe:=qpt (λ_ _=>rfl) q6n
theorem qra:VO X (compareOp .Gt) vGt:=qpt (λ_ _=>rfl) q6m
def vEq(rx ry:R)(Q:R->Prop):Prop:=cmpD rx.d ry.d=true/\depD rx.d<=50/\Q (.val (.bl (eqD rx.d ry.d)))
theorem qa8(hu:X.A.units+64<cLine):VO X (compareOp .Eq) vEq :=
 ⟨_,q3u (by lia),λB H x y rx ry Q Qd s px py h k=>⟨rx.d,ry.d,px.rep s,py.rep s,h.1,h.2.1,k _ _ B H (.refl s) (repV rfl) h.2.2⟩⟩
def vNe(rx ry:R)(Q:R->Prop):Prop:=match dV rx.d,dV ry.d with
|some u,some w=>scal u w=true/\Q (.val (.bl (!decide (u=w))))
|_,_=>False
def vSlR(rx:R)(lo hi:Option Int)(Q:R->Prop):Prop:=match rx.d with
|.str z=>z.length<=sizeLine/\Q (.val (.str (Txt.slice z lo hi)))
|.tup ds=>Q (.val (.tup (cutL ds lo hi)))
|.lst ds=>Q (.own (.lst (cutL ds lo hi)))
|.scr ns=>Q (.own (.lst ((cutL ns lo hi).map D.int)))
|_=>False
abbrev TVO:=VSt->(Option Int->Prop)->Prop
def qbp:TVO:=λ_ Q=>Q none
def qeb(te:TV):TVO:=λτ Q=>te τ λr=>match r.d with
|.int i=>Q (some i)
|_=>False
def RfOp(K:PySem.W.Frag)(to:TO)(t:TVO):Prop:=∀(H0 B H:Hp) (τ:VSt) (σ:St) (Q:Option Int->Hp->Prop) (Qd:Option Int->Prop),Same B H->Slots K H0 B H τ σ->t τ Qd->(∀o B' H',Stp B H B' H'->Qd o->Q o H')->to σ H Q
structure VPt(X:Cx)(EX:St->XK)(e:Option Expr)(t:TVO):Prop where
 u:∃to,QO X e to/\RfOp X.K to t
variable {e:Expr} {te ta:TV} {es:List Expr} {lo hi:Option Expr} {tl th:TVO} {pos p p2 apos cpos:Pos} {x:Str}
theorem qb7:VPt X EX none qbp:=⟨_,q1k,λ_ B H _ _ _ _ s _ h k=>k _ B H (.refl s) h⟩
theorem qb8(h:VE X EX e te):VPt X EX (some e) (qeb te):=let ⟨_,a1,a2⟩:=h.u;⟨_,q1l a1,λH0 B H τ σ Q Qd s S h k=>a2 H0 B H τ σ _ _ s S h (xno λ_ q=>q) λr v B' H' p q h1=>by
  split at h1
  ·rename_i i e
   exact⟨i,q.pk.scal (by rw[e];rfl),k _ B' H' p h1⟩
  ·exact h1.elim⟩
def qcn(te:TV)(tl th:TVO):TV:=λτ Q=>te τ λr=>exR r Q (tl τ λl=>th τ λu=>vSlR r l u Q)
theorem qbj(he:VE X EX e te)(hl:VPt X EX lo tl)(hh:VPt X EX hi th):VE X EX (.Subscript e (.Slice lo hi none p2) pos) (qcn te tl th) :=
 let ⟨_,a1,a2⟩:=he.u;let ⟨_,b1,b2⟩:=hl.u;let ⟨_,c1,c2⟩:=hh.u;⟨_,qwu (sl_str.or (sl_tupP.or q10)) a1 b1 c1,λH0 B H τ σ Q Qd s S h xc k =>
  a2 H0 B H τ σ _ _ s S h xc λr v B1 H1 p1 q1 h1=>b2 H0 B1 H1 τ σ _ _ p1.s (S.step p1) (q1.ok h1) λl B2 H2 p2 h2=>c2 H0 B2 H2 τ σ _ _ p2.s (S.step (p1.trans p2)) h2 λu B3 H3 p3 h3=>by
   have p12:=p1.trans p2
   have pp:=p12.trans p3
   have pk:=(q1.pk.step p2).step p3
   unfold vSlR at h3
   split at h3
   ·rename_i z ez
    cases pk.scal (z:=.str z) (by rw[ez];rfl)
    exact .inl ⟨z,rfl,h3.1,k _ _ B3 H3 pp (repV rfl) h3.2⟩
   ·rename_i ds ed
    obtain⟨a,xs,rfl,h1,r1⟩:=pk.tup ed
    refine .inr (.inl ⟨a,xs,rfl,p3.s.sqT h1.sq,λw=>?_,λw p hp=>?_⟩)
    ·refine k _ _ B3 H3 pp ?_ h3
     show Rep X.K B3 (.tup (cutL ds l u)) _
     unfold Rep
     have hc:cutL ds l u=ds:=by
      unfold cutL
      rw[r1.length,w.1,w.2,List.drop_zero,Nat.sub_zero,←r1.length,List.take_length]
     rw[hc]
     exact⟨a,xs,rfl,h1,r1⟩
    ·exact k (.val (.tup (cutL ds l u))) _ (upd B3 p (.tup (cutV xs l u))) _ (pp.trans (.new p3.s hp)) (qfo (r1.cut l u) (p3.s.free hp)) h3
   ·rename_i ds ed
    obtain⟨a,xs,rfl,h1,r1⟩:=pk.lst p3.s ed
    exact .inr (.inr ⟨a,xs,rfl,SqL.of h1,λp hp=>k (.own _) _ B3 _ (pp.trans (.grow p3.s (qav hp _))) ⟨p,rfl,pp.h.free hp,p3.s.free hp,qc8 (r1.cut l u)⟩ h3⟩)
   ·rename_i ns en
    obtain⟨a,rfl,h1⟩:=pk.scr p3.s en
    refine .inr (.inr ⟨a,_,rfl,h1,λp hp=>k (.own _) _ B3 _ (pp.trans (.grow p3.s (qav hp _))) ⟨p,rfl,pp.h.free hp,p3.s.free hp,?_⟩ h3⟩)
    rw[qvj]
    exact qc8 (.ints _)
   ·exact h3.elim⟩
def vIxR(rx ry:R)(Q:R->Prop):Prop:=match rx.d,ry.d with
|.str z,.int i=>z.length<=sizeLine/\∃c,atI z.cps.toList i=some c/\Q (.val (.str ⟨#[c]⟩))
|.tup ds,.int i=>∃d,atI ds i=some d/\Q (.val d)
|.lst ds,.int i=>∃d,atI ds i=some d/\Q (.val d)
|.scr ns,.int i=>∃n,atI ns i=some n/\Q (.val (.int n))
|_,_=>False
theorem qan:VX X vIxR:=by
 refine⟨_,ix_str.or (ix_tup.or qzx),λB H x y rx ry Q Qd s px py h k=>?_⟩
 unfold vIxR at h
 split at h
 ·rename_i z i e1 e2
  obtain⟨hz,c,hc,q⟩:=h
  exact .inl ⟨z,i,c,px.scal (by rw[e1];rfl),py.scal (by rw[e2];rfl),hz,hc,k _ _ B H (.refl s) (repV rfl) q⟩
 ·rename_i ds i e1 e2
  obtain⟨d,hd,q⟩:=h
  obtain⟨a,xs,rfl,h1,r1⟩:=px.tup e1
  obtain⟨w,hw,rw'⟩:=r1.atI hd
  exact .inr (.inl ⟨a,xs,i,w,rfl,py.scal (by rw[e2];rfl),s.sqT h1.sq,hw,k (.val d) _ B H (.refl s) rw' q⟩)
 ·rename_i ds i e1 e2
  obtain⟨d,hd,q⟩:=h
  obtain⟨a,xs,rfl,h1,r1⟩:=px.lst s e1
  obtain⟨w,hw,rw'⟩:=r1.atI hd
  exact .inr (.inr ⟨a,xs,i,w,rfl,py.scal (by rw[e2];rfl),SqL.of h1,hw,k (.val d) _ B H (.refl s) rw' q⟩)
 ·rename_i ns i e1 e2
  obtain⟨n,hn,q⟩:=h
  obtain⟨a,rfl,h1⟩:=px.scr s e1
  exact .inr (.inr ⟨a,_,i,_,rfl,py.scal (by rw[e2];rfl),h1,q2r hn,k _ _ B H (.refl s) (repV rfl) q⟩)
 ·exact h.elim
def vLen(rx:R)(Q:R->Prop):Prop:=match rx.d with
|.str z=>z.length<=sizeLine/\Q (.val (.int z.length))
|.tup ds=>Q (.val (.int ds.length))
|.lst ds=>Q (.val (.int ds.length))
|.scr ns=>Q (.val (.int ns.length))
|_=>False
theorem qbo:VF X (.builtin "len") vLen:=by
 refine⟨_,call_len_str.or qk5,λB H x rx Q Qd s px h k=>?_⟩
 unfold vLen at h
 split at h
 ·rename_i z e1
  exact .inl ⟨z,by rw[px.scal (z:=.str z) (by rw[e1];rfl)],h.1,k _ _ B H (.refl s) (repV rfl) h.2⟩
 ·rename_i ds e1
  obtain⟨a,xs,rfl,h1,r1⟩:=px.tup e1
  exact .inr ⟨a,xs,rfl,.inr (s.sqT h1.sq),k _ _ B H (.refl s) (repV rfl) (by rw[r1.length] at h;exact h)⟩
 ·rename_i ds e1
  obtain⟨a,xs,rfl,h1,r1⟩:=px.lst s e1
  exact .inr ⟨a,xs,rfl,.inl (SqL.of h1),k _ _ B H (.refl s) (repV rfl) (by rw[r1.length] at h;exact h)⟩
 ·rename_i ns e1
  obtain⟨a,rfl,h1⟩:=px.scr s e1
  exact .inr ⟨a,_,rfl,.inl h1,k (.val (.int ns.length)) _ B H (.refl s) (by rw[List.length_map];exact repV rfl) h⟩
 ·exact h.elim
def q5x(rx:R)(Q:R->Prop):Prop:=match rx.d with
|.tup ds=>Q (.own (.lst ds))
|.lst ds=>Q (.own (.lst ds))
|.scr ns=>Q (.own (.lst (ns.map D.int)))
|_=>False
def qi7(rx:R)(Q:R->Prop):Prop:=match rx.d with
|.tup ds=>Q (.val (.tup ds))
|.lst ds=>Q (.val (.tup ds))
|_=>False
theorem qpq:VF X (.type "tuple") qi7:=by
 refine⟨_,qjh,λB H x rx Q Qd s px h k=>?_⟩
 unfold qi7 at h
 split at h
 ·rename_i ds e1
  obtain⟨a,xs,rfl,h1,r1⟩:=px.tup e1
  refine⟨a,xs,rfl,.inr ⟨s.sqT h1.sq,k (.val (.tup ds)) _ B H (.refl s) ?_ h⟩⟩
  show Rep X.K B (.tup ds) _
  unfold Rep
  exact⟨a,xs,rfl,h1,r1⟩
 ·rename_i ds e1
  obtain⟨a,xs,rfl,h1,r1⟩:=px.lst s e1
  exact⟨a,xs,rfl,.inl ⟨SqL.of h1,λp hp=>k (.val (.tup ds)) _ (upd B p (.tup xs)) _ (.new s hp) (qfo r1 (s.free hp)) h⟩⟩
 ·exact h.elim
def vStr(rx:R)(Q:R->Prop):Prop:=match rx.d with
|.int i=>i.natAbs.log2<1920/\Q (.val (.str (toString i)))
|_=>False
def vAll(g:List Bool->Bool)(rx:R)(Q:R->Prop):Prop:=∃bs:List Bool,rx.d=.lst (bs.map D.bl)/\Q (.val (.bl (g bs)))
theorem qi9(hc:X.calm=true):VF X (.builtin "all") (vAll λbs=>bs.all id):=by
 refine⟨_,qrx hc,λB H x rx Q Qd s px ⟨bs,e1,h⟩ k=>?_⟩
 obtain⟨a,xs,rfl,h1,r1⟩:=px.lst s e1
 exact⟨a,bs,rfl,SqL.of (by rw[h1,r1.bls]),k _ _ B H (.refl s) (repV rfl) h⟩
inductive Ty5 where
|str|tuple|list|int|bool
def Ty5.nm:Ty5->String
|.str=>"str"|.tuple=>"tuple"|.list=>"list"|.int=>"int"|.bool=>"bool"
def isTy:Ty5->D->Option Bool
|_,.non=>some false
|c,.bl _=>some (match c with|.bool=>true|.int=>true|_=>false)
|c,.int _=>some (match c with|.int=>true|_=>false)
|c,.str _=>some (match c with|.str=>true|_=>false)
|c,.tup _=>some (match c with|.tuple=>true|_=>false)
|c,.lst _=>some (match c with|.list=>true|_=>false)
|_,_=>none
def nmTy:D->String
|.non=>"NoneType"|.bl _=>"bool"|.int _=>"int"|.str _=>"str"|.tup _=>"tuple"|_=>"list"
theorem qvr{d:D}{c:Ty5}{b:Bool}(h:isTy c d=some b):PySem.W.kitOne K (.type (nmTy d)) (.type c.nm)=some b:=by
 cases d<;>cases c<;>first|(cases h;with_unfolding_all rfl;done)|(cases h;exact qvs;done)|(cases h;done)
theorem qvo{pins:List (Addr×Obj)}{s:Shared}{σ:St}{H:Hp}{v:V}{u:Value}{d:D}{c:Ty5}{b:Bool}{A:Around}{Q:Value->Shared->Prop}{E:Value->Shared->Prop}(I:Inv X pins σ H s)(rx:RelV v u)(h:Rep X.K H d v)(e:isTy c d=some b)
  (q:∀tk,Q (.bool b) { s with toks:=tk }):wpAny (model X.prog X.w) A (call (.builtin "isinstance") [u,.type c.nm]) Q E s:=by
 have kt:=qvr (K:=X.K) e
 cases d with
|non=>unfold Rep at h;subst h;exact qej I rx .non kt q
|bl b=>unfold Rep at h;subst h;exact qej I rx (.bl _) kt q
|int b=>unfold Rep at h;subst h;exact qej I rx (.int _) kt q
|str b=>unfold Rep at h;subst h;exact qej I rx (.str _) kt q
|tup ds =>
  unfold Rep at h
  obtain⟨a,xs,rfl,ha,_⟩:=h
  cases (show u=Value.ref a from rx)
  obtain⟨its,_,⟨o,h1,h2,_⟩,_⟩:=I.tuple ha.sq
  exact PySem.W.kia_one PySem.W.kitx_tuple I.kIn ⟨o,h1,h2⟩ kt (λz=>nomatch z) q
|lst ds =>
  unfold Rep at h
  obtain⟨a,xs,rfl,ha,_⟩:=h
  exact qej I rx (.lst ha) kt q
|dT _ _=>cases e
|dK _ _=>cases e
|scr _=>cases e
|kt _=>cases e
|exc _=>cases e
|io _ _=>cases e
|ioT _ _ _=>cases e
|ob _ _=>cases e
|adr _=>cases e
theorem qvh(c:Ty5):CallR X (.builtin "isinstance") (λxs H Q=>∃x d b,xs=[x,.ty c.nm]/\Rep X.K H d x/\isTy c d=some b/\Q (.bl b) H):=by
 intro pins s σ H xs us Q I r h
 obtain⟨x,d,b,rfl,ty,e,q⟩:=h
 obtain⟨u,v,rfl,ru,rv⟩:=vals2 r
 cases (show v=Value.type c.nm from rv)
 exact qvo I ru ty e λtk=>⟨.bl b,H,I.tok tk,rfl,q⟩
def qkj(c:Ty5)(ta:TV):TV:=λτ Q=>ta τ λr=>exR r (λ_=>False) <| match isTy c r.d with
|some b=>Q (.val (.bl b))
|none=>False
theorem qgg{a:Expr}{pb:Pos}{y:Str}(c:Ty5)(hg:Gl X "isinstance")(hm:X.mg "isinstance" = none)(hgy:Gl X y)(hmy:X.mg y=none)(hby:bootBuiltins y=some (.type c.nm))(ha:VE X EX a ta)(hp:qaq a=true:=by rfl)(hny:y≠"__name__" := by decide)(hdy:(y==("__debug__" : Str))=false:=by decide) :
  VE X EX (.Call (.Name "isinstance" p) [a,.Name y pb] [] pos) (qkj c ta) :=
 let ⟨_,a1,a2⟩:=ha.u;⟨_,qcb (qvh c) hg hm PyProof.Rows.Boot.«isinstance» (qac a1 (qac (qtr (v:=.ty c.nm) hgy hmy hby rfl hny hdy) qd0 rfl) hp) (by rw[List.all_cons,hp];rfl),λH0 B H τ σ Q Qd s S h xc k=>a2 H0 B H τ σ _ _ s S h (xno λ_ q=>q) λr v B1 H1 p1 q1 h1=>by
   have h1:=q1.ok h1
   split at h1
   ·rename_i b eb
    exact⟨v,r.d,b,rfl,q1.pk.rep p1.s,eb,k _ _ B1 H1 p1 (repV rfl) h1⟩
   ·exact h1.elim⟩
end
end L2
namespace L2
open PySem PySem.Spec PyProof.Rows
section
variable {X:Cx} {EX:St->XK} {K:PySem.W.Frag} {B H B' H' H0 B0 B1 H1:Hp} {st:Stmt} {rest:List Stmt} {t u:TVS} {e a c o:Expr} {te ta:TV} {tT:TVT} {tA:TVA} {es:List Expr} {pos pos' p p2 apos cpos:Pos} {x:Str} {τ:VSt} {σ:St}
theorem Stp.base(p:Stp B0 H0 B1 H1)(q:Stp B1 H0 B' H'):Stp B0 H0 B' H':=⟨p.b.trans q.b,q.h,q.s,λa h=>(q.d a h).elim (p.d a) .inr⟩
theorem Stp.here(p:Stp B0 H0 B1 H1):Stp B1 H0 B1 H1:=⟨Same.refl _,p.h,p.s,λ_ h=>.inl h⟩
theorem EndsOk.base{Dv:VEnds}{Dh:Ends}(E:EndsOk K EX B0 H0 Dv Dh)(p:Stp B0 H0 B1 H1):EndsOk K EX B1 H0 Dv Dh :=
 ⟨λB H τ σ q=>E.nx B H τ σ (p.base q),λr v B H q=>E.rt r v B H (p.base q),λB H τ σ q=>E.bk B H τ σ (p.base q),λB H τ σ q=>E.ct B H τ σ (p.base q),λB H τ σ n C q=>E.xc B H τ σ n C (p.base q),λr v B H τ σ q=>E.ro r v B H τ σ (p.base q),λd v B H q=>E.rn d v B H (p.base q)⟩
def exS(τ:VSt)(Dv:VEnds):R->Prop->Prop
|.exc n,_=>Dv.xc τ n
|.val _,k=>k
|.own _,k=>k
|.peek _,k=>k
theorem RepR.okS{r:R}{v:V}{τ:VSt}{Dv:VEnds}{k:Prop}(h:RepR K B H0 H r v)(q:exS τ Dv r k):k:=by
 cases r with
|exc n=>exact h.elim
|val d=>exact q
|own d=>exact q
|peek d=>exact q
theorem EndsOk.raised{Dv:VEnds}{Dh:Ends}(E:EndsOk K EX B0 H0 Dv Dh)(p:Stp B0 H0 B H)(S:Slots K H0 B H τ σ):∀n C B' H',Stp B H B' H'->clsOf K n C->Dv.xc τ n->EX σ (.ref C) none H':=λn C B' H' q c h=>E.xc B' H' τ σ n C (p.trans q) (S.step q) c h
def qaz:TVS:=λDv τ=>Dv.nx τ
def vSeq(t u:TVS):TVS:=λDv τ=>t { Dv with nx:=u Dv } τ
theorem qai:VSs X EX [] qaz:=⟨_,q1n,λB0 H0 B H τ σ Dv Dh p S h E=>E.nx B H τ σ p S h⟩
theorem qae(h:VS X EX st t):VSs X EX [st] t:=let ⟨_,a1,a2⟩:=h.u;⟨_,q1o a1,a2⟩
theorem qaa(h:VS X EX st t)(r:VSs X EX rest u):VSs X EX (st::rest) (vSeq t u) :=
 let ⟨_,a1,a2⟩:=h.u;let ⟨_,b1,b2⟩:=r.u;⟨_,qwx a1 b1,λB0 H0 B H τ σ Dv Dh p S h E=>a2 B0 H0 B H τ σ _ _ p S h ⟨λB H τ σ p S h=>b2 B0 H0 B H τ σ _ _ p S h E,E.rt,E.bk,E.ct,E.xc,E.ro,E.rn⟩⟩
def vFrz(i:Nat)(t:TVS):TVS:=λDv τ=>t Dv (frz i τ)
def vIfS(c:TVT)(t u:TVS):TVS:=λDv τ=>c τ λb=>if b=true then t Dv τ else u Dv τ
theorem qa4{sa sb:List Stmt}(hc:VT X EX c tT)(ha:VSs X EX sa t)(hb:VSs X EX sb u):VS X EX (.If c sa sb pos) (vIfS tT t u) :=
 let ⟨_,c1,c2⟩:=hc.u;let ⟨_,a1,a2⟩:=ha.u;let ⟨_,b1,b2⟩:=hb.u;⟨_,q69 c1 a1 b1,λB0 H0 B H τ σ Dv Dh p S h E=>c2 H0 B H τ σ _ _ p.s S h λcb B' H' q hq=>by
  cases cb with
 |true=>exact iteT (a2 B0 H0 B' H' τ σ _ _ (p.trans q |> λz=>⟨z.b,z.h,z.s,z.d⟩) (S.step q) (by rw[if_pos rfl] at hq;exact hq) E)
 |  false=>exact iteF (b2 B0 H0 B' H' τ σ _ _ (p.trans q) (S.step q) (by rw[if_neg Bool.false_ne_true] at hq;exact hq) E)⟩
def vRet(te:TV):TVS:=λDv τ=>te τ λr=>exS τ Dv r (pubR r λ_=>Dv.rt r)
theorem qak(h:VE X EX e te):VS X EX (.Return (some e) pos) (vRet te) :=
 let ⟨_,a1,a2⟩:=h.u;⟨_,qyl a1,λB0 H0 B H τ σ Dv Dh p S h E=>a2 H0 B H τ σ _ _ p.s S h (E.raised p S) λr v B' H' q hr hq=>by
  cases r with
 |val d=>exact E.rt (.val d) v B' H' (p.trans q) hr hq
 |own d=>exact E.rt (.own d) v B' H' (p.trans q) (hr.back p.h) hq
 |peek d=>exact hq.elim
 |  exc n=>exact hr.elim⟩
def quj(i:Nat):TVS:=λDv τ=>match τ[i]? with
|some (some (.own d))=>Dv.rt (.own d)
|some (some (.val d))=>Dv.rt (.val d)
|_=>False
theorem q2e(i:Nat)(hN:X.N[i]?=some x:=by rfl)(hv:Vis X.env.scope x:=by first|exact Or.inl rfl|exact Or.inr (Or.inl rfl)|exact Or.inr (Or.inr rfl))(hd:(x==("__debug__" : Str))=false:=by decide)
  (hcd:(x==("__classdict__" : Str))=false:=by decide):VS X EX (.Return (some (.Name x pos')) pos) (quj i) :=
 ⟨_,qyl (qv i hN hv hd hcd),λB0 H0 B H τ σ Dv Dh p S h E=>by
  unfold quj at h
  split at h
  ·rename_i d e
   obtain⟨a,q,h0,hb,ow⟩:=S.own i d e
   exact⟨.ref a,q,E.rt (.own d) _ B H p ⟨a,rfl,h0,hb,ow⟩ h⟩
  ·rename_i d e
   obtain⟨v,q,rp⟩:=S.val i d e
   exact⟨v,q,E.rt (.val d) _ B H p rp h⟩
  ·exact h.elim⟩
def q5y:TVS:=λDv _=>Dv.rt (.val .non)
def qq8(te:TV):TVS:=λDv τ=>te τ λr=>exS τ Dv r (Dv.nx τ)
theorem qn4(h:VE X EX e te)(hs:swapsWith e none pos.line X.env=pure false:=by rfl):VS X EX (.Expr e pos) (qq8 te) :=
 let ⟨_,a1,a2⟩:=h.u;⟨_,qj7 a1 hs,λB0 H0 B H τ σ Dv Dh p S h E=>a2 H0 B H τ σ _ _ p.s S h (E.raised p S) λr v B' H' q hr hq=>E.nx B' H' τ σ (p.trans q) (S.step q) (hr.okS hq)⟩
def vSet(i:Nat)(te:TV):TVS:=λDv τ=>te τ λr=>exS τ Dv r (pubR r λd=>Dv.nx (τ.set i (some (.val d))))
theorem qyt{i:Nat}{ee:TE}(h:RfE K EX ee te):RfS K EX (tAsg ee (qlb i)) (vSet i te):=λB0 H0 B H τ σ Dv Dh p S hh E=>h H0 B H τ σ _ _ p.s S hh (E.raised p S) λr v B' H' q hr hq=>by
 obtain⟨d,B2,q2,_,rp,hd⟩:=pub q hr (hr.okS hq)
 exact E.nx B2 H' _ _ (p.trans q2) ((S.step q2).setVal i rp) hd
def qgu(i:Nat)(te:TV):TVS:=λDv τ=>te τ λr=>exS τ Dv r (pubR r λ_=>Dv.nx (τ.set i (some r)))
theorem qt1{i:Nat}{ee:TE}(h:RfE K EX ee te):RfS K EX (tAsg ee (qlb i)) (qgu i te):=λB0 H0 B H τ σ Dv Dh p S hh E=>h H0 B H τ σ _ _ p.s S hh (E.raised p S) λr v B' H' q hr hq=>by
 cases r with
|val d=>exact E.nx B' H' _ _ (p.trans q) ((S.step q).setVal i hr) hq
|own d =>
  obtain⟨a,rfl,h0,hb,ow⟩:=hr
  refine E.nx B' H' _ _ (p.trans q) ((S.step q).setOwn i (p.h.free h0) hb ow λj e he z=>?_) hq
  obtain⟨c,qc,_,_,oc⟩:=S.own j e he
  rw[z] at qc
  cases qc
  exact oc.some h0
|peek d=>exact hq.elim
|exc n=>exact hr.elim
theorem qao{i:Nat}(hN:X.N.Nodup)(hi:X.N[i]?=some x)(hx:Loc X.env.scope x)(h:VE X EX e te)(hs:swapsWith e (some (.Name x pos')) pos.line X.env=pure false:=by rfl)
  (hf:X.fn x=true\/X.env.scope.names.lookup x=some .local:=by first|exact .inl rfl|exact .inr rfl|assumption):VS X EX (.Assign [.Name x pos'] e pos) (vSet i te):=let ⟨_,a1,a2⟩:=h.u;⟨_,qym hN hi hx a1 hs hf,qyt a2⟩
theorem qij{i:Nat}(hN:X.N.Nodup)(hi:X.N[i]?=some x)(hx:Loc X.env.scope x)(h:VE X EX e te)(hs:swapsWith e (some (.Name x pos')) pos.line X.env=pure false:=by rfl)
  (hf:X.fn x=true\/X.env.scope.names.lookup x=some .local:=by first|exact .inl rfl|exact .inr rfl|assumption):VS X EX (.Assign [.Name x pos'] e pos) (qgu i te):=let ⟨_,a1,a2⟩:=h.u;⟨_,qym hN hi hx a1 hs hf,qt1 a2⟩
theorem q2f{i:Nat}(hN:X.N.Nodup)(hi:X.N[i]?=some x)(hx:Loc X.env.scope x)(h:VC X EX e te)(hs:swapsWith e (some (.Name x pos')) pos.line X.env=pure true:=by rfl)
  (hf:X.fn x=true\/X.env.scope.names.lookup x=some .local:=by first|exact .inl rfl|exact .inr rfl|assumption):VS X EX (.Assign [.Name x pos'] e pos) (vSet i te):=let ⟨_,a1,a2⟩:=h.u;⟨_,qtw hN hi hx a1 hs hf,qyt a2⟩
theorem qpv{i:Nat}(hN:X.N.Nodup)(hi:X.N[i]?=some x)(hx:Loc X.env.scope x)(h:VC X EX e te)(hs:swapsWith e (some (.Name x pos')) pos.line X.env=pure true:=by rfl)
  (hf:X.fn x=true\/X.env.scope.names.lookup x=some .local:=by first|exact .inl rfl|exact .inr rfl|assumption):VS X EX (.Assign [.Name x pos'] e pos) (qgu i te):=let ⟨_,a1,a2⟩:=h.u;⟨_,qtw hN hi hx a1 hs hf,qt1 a2⟩
def qa1(i:Nat):TVG:=λd τ Q=>Q (τ.set i (some (.val d)))
theorem q3h{i:Nat}{d:D}{v:V}:Kp τ σ (τ.set i (some (.val d))) (σ.set i (some v)):=λj e h=>by
 rcases qb0 h with ⟨rfl,z,l⟩|⟨n,h⟩
 ·cases z
 ·exact⟨h,List.getElem?_set_ne n⟩
theorem Kp.trans{τ1 τ2 τ3:VSt}{σ1 σ2 σ3:St}(h1:Kp τ1 σ1 τ2 σ2)(h2:Kp τ2 σ2 τ3 σ3):Kp τ1 σ1 τ3 σ3:=λj e h=>let ⟨a,b⟩:=h2 j e h;let ⟨c,d⟩:=h1 j e a;⟨c,b.trans d⟩
theorem qas{i:Nat}(hN:X.N.Nodup)(hi:X.N[i]?=some x)(hx:Loc X.env.scope x)(hf:X.fn x=true\/X.env.scope.names.lookup x=some .local:=by first|exact .inl rfl|exact .inr rfl|assumption):VG X (.Name x pos) (qa1 i) :=
 ⟨_,q1h hN hi hx hf,λH0 B H τ σ v d Q Qd s S rp h k=>k _ _ (S.setVal i rp) q3h h⟩
def qko:List D->VSt->(VSt->Prop)->Prop:=λds τ Q=>ds=[]/\Q τ
def qco(g:TVG)(gs:List D->VSt->(VSt->Prop)->Prop):List D->VSt->(VSt->Prop)->Prop:=λds τ Q=>match ds with
|d::r=>g d τ λτ'=>gs r τ' Q
|[]=>False
theorem qgi:VGs X [] qko:=⟨_,qtt,λH0 B H τ σ xs ds Q Qd s S rp h k=>by
 obtain⟨rfl,h⟩:=h
 unfold Reps at rp
 exact⟨rp,k τ σ S (λj e h=>⟨h,rfl⟩) h⟩⟩
theorem qbk{g:TVG}{gs:List D->VSt->(VSt->Prop)->Prop}(h1:VG X e g)(h2:VGs X es gs)(hs:(assignEach (e::es) X.env).map (·.2)=assign e X.env::(assignEach es X.env).map (·.2):=by rfl):VGs X (e::es) (qco g gs) :=
 let ⟨_,a1,a2⟩:=h1.u;let ⟨_,b1,b2⟩:=h2.u;⟨_,qj6 a1 b1 hs,λH0 B H τ σ xs ds Q Qd s S rp h k=>by
  cases ds with
 |nil=>exact h.elim
 |cons d ds =>
   unfold Reps at rp
   obtain⟨v,r,rfl,r1,r2⟩:=rp
   exact⟨v,r,rfl,a2 H0 B H τ σ v d _ _ s S r1 h λτ' σ' S' kp h'=>b2 H0 B H τ' σ' r ds _ _ s S' r2 h' λτ2 σ2 S2 kp2 h2=>k τ2 σ2 S2 (kp.trans kp2) h2⟩⟩
def qkp(n:Nat)(gs:List D->VSt->(VSt->Prop)->Prop):TVG:=λd τ Q=>match d with
|.tup ds=>ds.length=n/\gs ds τ Q
|_=>False
theorem qja{k:Nat}{gs:List D->VSt->(VSt->Prop)->Prop}{n:Nat}(hc:X.calm=true)(h:VGs X es gs)(hn:(assignEach es X.env).length=n:=by rfl)(hst:(assignEach es X.env).findIdx? (·.1)=none:=by rfl):VG X (.Tuple es k pos) (qkp n gs) :=
 let ⟨_,a1,a2⟩:=h.u;⟨_,qyk hc a1 hn hst,λH0 B H τ σ v d Q Qd s S rp h k=>by
  cases d with
 |tup ds =>
   unfold Rep at rp
   obtain⟨a,xs,rfl,ha,r⟩:=rp
   exact⟨a,xs,rfl,s.sqT ha.sq,by rw[←r.length];exact h.1,a2 H0 B H τ σ xs ds _ _ s S r h.2 k⟩
 |  _=>exact h.elim⟩
def vAsg(te:TV)(g:TVG):TVS:=λDv τ=>te τ λr=>exS τ Dv r (pubR r λd=>g d τ Dv.nx)
theorem qy2{tg:Expr}{g:TVG}(h:VE X EX e te)(hg:VG X tg g)(hs:swapsWithSole [tg] e pos.line X.env=pure false:=by rfl)(hw:swappedStores [tg] e X.env=pure none:=by rfl)
  (h1:(assignEach [tg] X.env).map (·.2)=[assign tg X.env]:=by rfl):VS X EX (.Assign [tg] e pos) (vAsg te g) :=
 let ⟨_,a1,a2⟩:=h.u;let ⟨_,b1,b2⟩:=hg.u;⟨_,qtv a1 b1 hs hw h1,λB0 H0 B H τ σ Dv Dh p S hh E=>a2 H0 B H τ σ _ _ p.s S hh (E.raised p S) λr v B' H' q hr hq=>by
  obtain⟨d,B2,q2,_,rp,hd⟩:=pub q hr (hr.okS hq)
  exact b2 H0 B2 H' τ σ v d _ _ q2.s (S.step q2) rp hd λτ' σ' S' _ h'=>E.nx B2 H' _ _ (p.trans q2) S' h'⟩
end
section
variable {X:Cx} {tg l e:Expr}
def iAny(K:PySem.W.Frag)(tl:TE):TI:=λσ H R=>tl σ H λx H1=>(∃a,x=.ref a/\(∃xs,SqL K H1 a xs)/\R (Itl K a) H1)\/(∃a,x=.ref a/\(∃xs,SqT K H1 a xs)/\R (Itt K a) H1)\/∃z,x=.str z/\R (Its z) H1
theorem q4g{tl:TE}(hl:PE X l tl):PI X tg l (iAny X.K tl):=by
 intro pins s σ H R I h
 refine thn (hl pins s σ H _ I h) λv s1 ⟨x,H1,I1,r1,q1⟩=>?_
 rcases q1 with ⟨a,rfl,⟨xs,hq⟩,q⟩|⟨a,rfl,⟨xs,hq⟩,q⟩|⟨z,rfl,q⟩
 ·cases r1
  obtain⟨its,rv,pl,hz⟩:=I1.list hq
  refine wpAny_pyIter_list pl.isList ⟨s1.heap.objs.size,[s1.heap.objs.size],_,_,H1,rfl,I1.kept (t':=s1.toks) λb o e=>Heap.get?_push_of_some _ e,qud a _,⟨_,Heap.get?_push_size _ rfl,rfl,rfl⟩,λb hb=>?_,q⟩
  cases (by simpa using hb:b=s1.heap.objs.size)
  exact I1.fpOk (Nat.le_refl _) (I1.hok.fresh (Nat.le_refl _))
 ·cases r1
  obtain⟨its,rv,pl,hz⟩:=I1.tuple hq
  refine wpAny_pyIter_tuple (show s1.heap.IsTuple a its.toArray from pl) ⟨s1.heap.objs.size,[s1.heap.objs.size],_,_,H1,rfl,I1.kept (t':=s1.toks) λb o e=>Heap.get?_push_of_some _ e,qq7 a _,⟨_,Heap.get?_push_size _ rfl,rfl,rfl⟩,λb hb=>?_,q⟩
  cases (by simpa using hb:b=s1.heap.objs.size)
  exact I1.fpOk (Nat.le_refl _) (I1.hok.fresh (Nat.le_refl _))
 ·obtain⟨t,rfl⟩:=r1
  have fp:∀b∈[s1.heap.objs.size],FpOk X pins H1 b:=λb hb=>by
   cases (by simpa using hb:b=s1.heap.objs.size)
   exact I1.fpOk (Nat.le_refl _) (I1.hok.fresh (Nat.le_refl _))
  cases ha:z.cps.all (·<128)
  ·exact wpAny_pyIter_wide ha ⟨s1.heap.objs.size,[s1.heap.objs.size],_,_,H1,rfl,I1.kept (t':=s1.toks) λb o e=>Heap.get?_push_of_some _ e,que _ z t,⟨_,Heap.get?_push_size _ rfl,rfl,rfl⟩,fp,q⟩
  ·exact wpAny_pyIter_ascii ha ⟨s1.heap.objs.size,[s1.heap.objs.size],_,_,H1,rfl,I1.kept (t':=s1.toks) λb o e=>Heap.get?_push_of_some _ e,qq4 _ z t,⟨_,Heap.get?_push_size _ rfl,rfl,rfl⟩,fp,q⟩
theorem q4x{tl:TE}(h:QE X e tl):QI X tg e (iAny X.K tl):=⟨q4g h.u⟩
end
section
variable {X:Cx} {EX:St->XK} {K:PySem.W.Frag} {B H B' H' H0 B0 B1 H1:Hp} {st:Stmt} {rest:List Stmt} {t u:TVS} {e a c o:Expr} {te ta:TV} {tT:TVT} {tA:TVA} {es:List Expr} {pos pos' p p2 apos cpos:Pos} {x:Str} {τ:VSt} {σ:St}
def qck(te:TV):TVA:=λτ Q=>te τ λr=>excA r Q <| pubR r λd=>match d with
|.lst ds=>Q (.ok ds)
|.tup ds=>Q (.ok ds)
|.scr ns=>Q (.ok (ns.map D.int))
|.str z=>Q (.ok (z.cps.toList.map λc=>.str ⟨#[c]⟩))
|_=>False
theorem qos{ad:Addr}{ds:List D}{xs:List V}(h:SqL K B ad xs)(r:Reps K B ds xs):ItOk K B (Itl K ad) ds:=λi B2 H sb s2=>by
 have s:=sb.trans s2
 refine⟨λd e=>?_,λe=>⟨xs,s.seq h,by rw[←r.length];exact List.getElem?_eq_none_iff.mp e⟩⟩
 obtain⟨w,hw,rw'⟩:=r.at e
 refine⟨⟨xs,w,s.seq h,hw⟩,λy H' q=>⟨B2,by rw[q.1];exact .refl s2,?_⟩⟩
 have:=q.2 xs (s.seq h)
 rw[hw] at this
 cases this
 exact rw'.same sb
theorem q28{ad:Addr}{ds:List D}{xs:List V}(h:SqT K B ad xs)(r:Reps K B ds xs):ItOk K B (Itt K ad) ds:=λi B2 H sb s2=>by
 have s:=sb.trans s2
 refine⟨λd e=>?_,λe=>⟨xs,s.sqT h,by rw[←r.length];exact List.getElem?_eq_none_iff.mp e⟩⟩
 obtain⟨w,hw,rw'⟩:=r.at e
 refine⟨⟨xs,w,s.sqT h,hw⟩,λy H' q=>⟨B2,by rw[q.1];exact .refl s2,?_⟩⟩
 have:=q.2 xs (s.sqT h)
 rw[hw] at this
 cases this
 exact rw'.same sb
theorem q27(z:Str):ItOk K B (Its z) (z.cps.toList.map λc=>.str ⟨#[c]⟩):=λi B2 H sb s2=>by
 have s:=sb.trans s2
 refine⟨λd e=>?_,λe=>?_⟩
 ·rw[List.getElem?_map] at e
  cases hc:z.cps.toList[i]? with
 |none=>rw[hc] at e;cases e
 |some ch =>
   rw[hc] at e
   cases e
   have hc':z.cps[i]?=some ch:=by simpa using hc
   refine⟨?_,λy H' q=>⟨B2,by rw[q.1];exact .refl s2,?_⟩⟩
   ·show i<z.cps.size
    exact(Array.getElem?_eq_some_iff.mp hc').1
   ·obtain⟨c2,h2,rfl⟩:=q.2
    rw[hc'] at h2
    cases h2
    exact qhz (d:=.str ⟨#[ch]⟩) rfl
 ·show z.cps.size<=i
  have:=List.getElem?_eq_none_iff.mp e
  simpa using this
theorem qdi{tg:Expr}(h:VE X EX e te):VI X EX tg e (qck te) :=
 let ⟨_,a1,a2⟩:=h.u;⟨_,q4x a1,λH0 B H τ σ Q Qd s S h xc k=>a2 H0 B H τ σ _ _ s S h xc λr v B' H' q hr hq=>by
  obtain⟨d,B2,q2,_,rp,hd⟩:=pub q hr (hr.okA hq)
  split at hd
  ·unfold Rep at rp
   obtain⟨ad,xs,rfl,ha,r1⟩:=rp
   exact .inl ⟨ad,rfl,⟨xs,SqL.of (q2.s _ _ ha)⟩,k _ _ B2 H' q2 (qos (SqL.of ha) r1) hd⟩
  ·unfold Rep at rp
   obtain⟨ad,xs,rfl,ha,r1⟩:=rp
   exact .inr (.inl ⟨ad,rfl,⟨xs,q2.s.sqT ha.sq⟩,k _ _ B2 H' q2 (q28 ha.sq r1) hd⟩)
  ·unfold Rep at rp
   obtain⟨ad,rfl,ha⟩:=rp
   exact .inl ⟨ad,rfl,⟨_,q2.s.seq ha⟩,k _ _ B2 H' q2 (qos ha (.ints _)) hd⟩
  ·rename_i z
   unfold Rep at rp
   exact .inr (.inr ⟨z,rp,k _ _ B2 H' q2 (q27 z) hd⟩)
  ·exact hd.elim⟩
def rngL(lo:Int)(n:Nat):List D:=(List.range n).map λ(i:Nat)=>.int (lo+i)
theorem q26(lo:Int)(n:Nat):ItOk K B (Itr lo n) (rngL lo n):=λi B2 H sb s2=>by
 unfold rngL
 refine⟨λd e=>?_,λe=>?_⟩
 ·rw[List.getElem?_map] at e
  by_cases hi:i<n
  ·rw[List.getElem?_range hi] at e
   cases e
   exact⟨hi,λy H' q=>⟨B2,by rw[q.1];exact .refl s2,by rw[q.2];exact qhz (d:=.int (lo+(i:Nat))) rfl⟩⟩
  ·rw[List.getElem?_eq_none (by rw[List.length_range];lia)] at e
   cases e
 ·have:=List.getElem?_eq_none_iff.mp e
  rw[List.length_map,List.length_range] at this
  exact this
def qiu(te:TV):TVA:=λτ Q=>te τ λr=>match r.d with
|.int j=>-(2 ^ 62)<=j/\j<2 ^ 62/\Q (.ok (rngL 0 j.toNat))
|_=>False
theorem qff{tg:Expr}(hg:Gl X "range")(hm:X.mg "range" = none)(h:VE X EX a ta)(hp:qaq a=true:=by rfl):VI X EX tg (.Call (.Name "range" p) [a] [] pos) (qiu ta) :=
 let ⟨_,a1,a2⟩:=h.u;⟨_,q68 hg hm (qac a1 qd0 hp) hp,λH0 B H τ σ Q Qd s S h xc k=>a2 H0 B H τ σ _ _ s S h (xno λ_ q=>q) λr v B' H' q hr hq=>by
  split at hq
  ·rename_i j ej
   exact⟨j,by rw[hr.pk.scal (z:=.int j) (by rw[ej];rfl)],hq.1,hq.2.1,k _ _ B' H' q (q26 0 j.toNat) hq.2.2⟩
  ·exact hq.elim⟩
def q5z(ta tb:TV):TVA:=λτ Q=>ta τ λrx=>exR rx (λ_=>False) <| tb τ λry=>match rx.d,ry.d with
|.int i,.int j=>(-(2 ^ 62)<=i/\i<2 ^ 62/\-(2 ^ 62)<=j/\j<2 ^ 62)/\Q (.ok (rngL i (j-i).toNat))
|_,_=>False
def forW(g:TVG)(tb:TVS)(Dv:VEnds):List D->VSt->Prop
|[],τ=>Dv.nx τ
|d::ds,τ=>g d τ λτ'=>tb { Dv with nx:=forW g tb Dv ds,ct:=forW g tb Dv ds,bk:=Dv.nx } τ'
def exI(τ:VSt)(Dv:VEnds):AR->(List D->Prop)->Prop
|.ok ds,k=>k ds
|.exc n,_=>Dv.xc τ n
def vFor(vi:TVA)(g:TVG)(tb:TVS):TVS:=λDv τ=>vi τ λa=>exI τ Dv a λds=>forW g tb Dv ds τ
theorem q5d{wi:TI}{g:TG}{tb:TS}{vi:TVA}{gv:TVG}{bv:TVS}(hi:RfI K EX wi vi)(hg:RfG K g gv)(hb:RfS K EX tb bv):RfS K EX (tFor wi g tb) (vFor vi gv bv):=λB0 H0 B H τ σ Dv Dh p S h E =>
 hi H0 B H τ σ _ _ p.s S h (E.raised p S) λJ ds B1 H1 q ok hw=>by
  have pq:=p.trans q
  have E1:=E.base pq
  refine⟨λi m σ H=>m=ds.length-i/\i<=ds.length/\∃B2 τ,Stp B1 H0 B2 H/\Slots K H0 B2 H τ σ/\forW gv bv Dv (ds.drop i) τ,⟨ds.length,by lia,Nat.zero_le _,B1,τ,pq.here,S.step q,hw⟩,?_⟩
  rintro i m σ2 H2 ⟨rfl,hi,B2,τ2,p2,S2,w⟩
  by_cases hlt:i<ds.length
  ·have ei:ds[i]?=some ds[i]:=List.getElem?_eq_getElem hlt
   rw[List.drop_eq_getElem_cons hlt] at w
   obtain⟨go,yl⟩:=(ok i B2 H2 p2.b p2.s).1 _ ei
   refine .inr ⟨go,λσ' H'=>∃B2 τ,Stp B1 H0 B2 H'/\Slots K H0 B2 H' τ σ'/\forW gv bv Dv (ds.drop (i+1)) τ,λσ' H' ⟨B3,τ3,a1,a2,a3⟩=>⟨ds.length-(i+1),by lia,rfl,by lia,B3,τ3,a1,a2,a3⟩,λy H' hy=>?_⟩
   obtain⟨B3,q3,rp⟩:=yl y H' hy
   refine hg H0 B3 H' τ2 σ2 y _ _ _ q3.s (S2.step q3) rp w λτ' σ' S' _ h'=>?_
   exact hb B1 H0 B3 H' τ' σ' _ _ (p2.trans q3) S' h' ⟨λB H τ σ a1 a2 a3=>⟨B,τ,a1,a2,a3⟩,E1.rt,λB H τ σ a1 a2 a3=>E1.nx B H τ σ a1 a2 a3,λB H τ σ a1 a2 a3=>⟨B,τ,a1,a2,a3⟩,E1.xc,E1.ro,E1.rn⟩
  ·have ei:ds[i]?=none:=List.getElem?_eq_none (by lia)
   rw[List.drop_eq_nil_of_le (by lia)] at w
   exact .inl ⟨(ok i B2 H2 p2.b p2.s).2 ei,E1.nx B2 H2 τ2 σ2 p2 S2 w⟩
theorem qeq{tg iter:Expr}{body:List Stmt}{vi:TVA}{g:TVG}(hp:PassesOwn (model X.prog X.w) X.A X.env X.xe)(hc:X.calm=true)(hi:VI X EX tg iter vi)(hg:VG X tg g)(hb:VSs X EX body t)
  (hs:∀x,foldedSetIterable iter X.env x=pure x:=by intro _;rfl):VS X EX (.For tg iter body [] pos) (vFor vi g t) :=
 let ⟨_,a1,a2⟩:=hi.u;let ⟨_,b1,b2⟩:=hg.u;let ⟨_,c1,c2⟩:=hb.u;⟨_,q42 hp hc a1 b1 c1 hs,q5d a2 b2 c2⟩
theorem qc2:VFs X EX [] (λ_ Q=>Q true):=⟨_,qtu,λH0 B H τ σ Y N Qd s S h k=>by have:=k true B H (.refl s) h;rw[if_pos rfl] at this;exact this⟩
def qji(τ:VSt)(k:Nat)(g:TVG)(ti:TVT)(te:TV)(Q:R->Prop):List D->List D->Prop
|[],acc=>Q (.own (.lst acc))
|d::ds,acc=>g d (τ++List.replicate k none) λτ2=>(τ2.take τ.length=τ/\τ2.length=τ.length+k)/\ti τ2 λb=>if b=true then te τ2 λr=>pubR r λd'=>acc.length<sizeLine/\qji τ k g ti te Q ds (acc++[d']) else qji τ k g ti te Q ds acc
def qeo(vi:TVA)(g:TVG)(ti:TVT)(te:TV)(k:Nat):TV:=λτ Q=>vi τ λa=>exA a Q λds=>qji τ k g ti te Q ds []
theorem Slots.more(S:Slots K H0 B H τ σ)(k:Nat):Slots K H0 B H (τ++List.replicate k none) (σ++List.replicate k none):=by
 have get:∀(i:Nat) (r:R),(τ++List.replicate k none)[i]?=some (some r)->τ[i]?=some (some r)/\(σ++List.replicate k (none:Option V))[i]?=σ[i]?:=λi r h=>by
  by_cases l:i<τ.length
  ·rw[List.getElem?_append_left l] at h
   exact⟨h,List.getElem?_append_left (by rw[S.len];exact l)⟩
  ·rw[List.getElem?_append_right (by lia)] at h
   by_cases l2:i-τ.length<k
   ·rw[List.getElem?_replicate_of_lt l2] at h;cases h
   ·rw[List.getElem?_eq_none (by rw[List.length_replicate];lia)] at h;cases h
 refine⟨by rw[List.length_append,List.length_append,S.len,List.length_replicate,List.length_replicate],λi d h=>?_,λi d h=>?_,λi d h=>?_,λi j d e a h1 h2 h3 h4=>?_⟩
 ·obtain⟨g1,g2⟩:=get i _ h
  rw[g2]
  exact S.val i d g1
 ·obtain⟨g1,g2⟩:=get i _ h
  rw[g2]
  exact S.fz i d g1
 ·obtain⟨g1,g2⟩:=get i _ h
  rw[g2]
  exact S.own i d g1
 ·obtain⟨g1,g2⟩:=get i _ h1
  obtain⟨g3,g4⟩:=get j _ h2
  rw[g2] at h3
  rw[g4] at h4
  exact S.sep i j d e a g1 g3 h3 h4
theorem Slots.less{τ2:VSt}{k:Nat}(S:Slots K H0 B H τ2 σ)(h1:τ2.take τ.length=τ)(h2:τ2.length=τ.length+k):Slots K H0 B H (τ++List.replicate k none) σ/\∀(j:Nat) (e:D),(τ++List.replicate k none)[j]?=some (some (R.own e))->τ2[j]?=some (some (R.own e)):=by
 have get:∀(i:Nat) (r:R),(τ++List.replicate k none)[i]?=some (some r)->τ2[i]?=some (some r):=λi r h=>by
  by_cases l:i<τ.length
  ·rw[List.getElem?_append_left l,←h1,List.getElem?_take_of_lt l] at h
   exact h
  ·rw[List.getElem?_append_right (by lia)] at h
   by_cases l2:i-τ.length<k
   ·rw[List.getElem?_replicate_of_lt l2] at h;cases h
   ·rw[List.getElem?_eq_none (by rw[List.length_replicate];lia)] at h;cases h
 exact⟨⟨by rw[S.len,h2,List.length_append,List.length_replicate],λi d h=>S.val i d (get i _ h),λi d h=>S.fz i d (get i _ h),λi d h=>S.own i d (get i _ h),λi j d e a q1 q2=>S.sep i j d e a (get i _ q1) (get j _ q2)⟩,λj e=>get j _⟩
theorem Slots.heap(S:Slots K H0 B H τ σ)(h:∀(i:Nat) (d:D) (a:Addr),τ[i]?=some (some (R.own d))->σ[i]?=some (some (.ref a))->H' a=H a):Slots K H0 B H' τ σ :=
 ⟨S.len,S.val,S.fz,λi d e=>let ⟨a,q1,q2,q3,q4⟩:=S.own i d e;⟨a,q1,q2,q3,q4.step (Same.refl _) (h i d a e q1)⟩,S.sep⟩
abbrev EX0:St->XK:=λ_ _ _ _=>False
theorem q1v{wi:TI}{g:TG}{ti:TF}{ee:TE}{vi:TVA}{gv:TVG}{tv:TVT}{k:Nat}(hi:RfI K EX wi vi)(hg:RfG K g gv)(hf:RfF K ti tv)(he:RfE K EX0 ee te):RfE K EX (qq3 wi g ti ee k) (qeo vi gv tv te k):=λH0 B H τ σ Q Qd s S h xc kk =>
 hi H0 B H τ σ _ _ s S h xc λJ ds B1 H1 q ok hw p hp=>by
  have S1:=S.step q
  refine⟨λi m σ' xs H'=>m=ds.length-i/\i<=ds.length/\∃B2 acc,Stp B1 H1 B2 H'/\H' p=some (.lst xs)/\B2 p=none/\Reps K B2 acc xs/\Slots K H0 B2 H' (τ++List.replicate k none) σ' /\
    (∀(j:Nat) (e:D),(τ++List.replicate k none)[j]?=some (some (R.own e))->σ'[j]?≠some (some (.ref p)))/\qji τ k gv tv te Qd (ds.drop i) acc,
   ⟨ds.length,by lia,Nat.zero_le _,B1,[],.grow q.s (qav hp _),qaw,q.s.free hp,.nil,(S1.more k).heap λi d a h1 h2=>?_,λj e h1 h2=>?_,hw⟩,?_⟩
  ·obtain⟨c,q1,_,_,ow⟩:=(S1.more k).own i d h1
   rw[h2] at q1
   cases q1
   exact qar λz=>ow.some (z▸hp)
  ·obtain⟨c,q1,_,_,ow⟩:=(S1.more k).own j e h1
   rw[h2] at q1
   cases q1
   exact ow.some hp
  rintro i m σ2 xs H2 ⟨rfl,hle,B2,acc,p2,hx,hb,rp,S2,fr,w⟩
  by_cases hlt:i<ds.length
  ·have ei:ds[i]?=some ds[i]:=List.getElem?_eq_getElem hlt
   rw[List.drop_eq_getElem_cons hlt] at w
   obtain⟨go,yl⟩:=(ok i B2 H2 p2.b p2.s).1 _ ei
   refine .inr ⟨go,λy H' hy=>?_⟩
   obtain⟨B3,q3,ry⟩:=yl y H' hy
   replace hb:=q3.keep hb (by rw[hx];exact λz=>by cases z) (by rw[hx];exact λ_ z=>by cases z)
   replace hx:=q3.h _ _ hx
   replace rp:=rp.same q3.b
   replace p2:=p2.trans q3
   replace S2:=S2.step q3
   clear q3
   refine hg H0 B3 H' _ σ2 y _ _ _ p2.s S2 ry w λτ3 σ3 S3 kp h3=>?_
   obtain⟨⟨e1,e2⟩,h3⟩:=h3
   obtain⟨S3',ow3⟩:=S3.less e1 e2
   have fr3:∀(j:Nat) (e:D),(τ++List.replicate k none)[j]?=some (some (R.own e))->σ3[j]?≠some (some (.ref p)):=λj e h z=>by
    obtain⟨g1,g2⟩:=kp j e (ow3 j e h)
    rw[g2] at z
    exact fr j e g1 z
   refine hf H0 B3 H' τ3 σ3 _ _ _ p2.s S3 h3 λb B4 H4 q4 hq4=>?_
   have hx4:H4 p=some (.lst xs):=q4.h _ _ hx
   have hb4:B4 p=none:=q4.keep hb (by rw[hx];exact λz=>by cases z) (by rw[hx];exact λ_ z=>by cases z)
   cases b with
  |false =>
    rw[if_neg Bool.false_ne_true] at hq4 ⊢
    exact⟨ds.length-(i+1),by lia,rfl,by lia,B4,acc,p2.trans q4,hx4,hb4,rp.same q4.b,S3'.step q4,fr3,hq4⟩
  |true =>
    rw[if_pos rfl] at hq4 ⊢
    refine he H0 B4 H4 τ3 σ3 _ _ q4.s (S3.step q4) hq4 (xno λ_ q=>q) λr v B5 H5 q5 hr hq5=>?_
    obtain⟨d',B6,q6,_,rd,hz,hq6⟩:=pub q5 hr hq5
    have hx6:H5 p=some (.lst xs):=q6.h _ _ hx4
    have hb6:B6 p=none:=q6.keep hb4 (by rw[hx4];exact λz=>by cases z) (by rw[hx4];exact λ_ z=>by cases z)
    have qq:=q4.trans q6
    refine⟨hx6,by rw[←rp.length];exact hz,ds.length-(i+1),by lia,rfl,by lia,B6,acc++[d'],(p2.trans qq).upd hp hb6,qaw,hb6,(rp.same qq.b).append (.one rd),(S3'.step qq).heap λj d a h1 h2=>?_,fr3,hq6⟩
    exact qar λz=>fr3 j d h1 (z▸h2)
  ·have ei:ds[i]?=none:=List.getElem?_eq_none (by lia)
   rw[List.drop_eq_nil_of_le (by lia)] at w
   exact .inl ⟨(ok i B2 H2 p2.b p2.s).2 ei,kk (.own (.lst acc)) _ B2 H2 (q.trans p2) ⟨p,rfl,q.h.free hp,hb,xs,hx,rp⟩ w⟩
def canE(K:PySem.W.Frag)(t:TV):TE:=λσ H Q=>∃H0 B τ Qd,Same B H/\Slots K H0 B H τ σ/\t τ Qd/\(∀n C B' H',Stp B H B' H'->clsOf K n C->Qd (.exc n)->EX0 σ (.ref C) none H')/\∀r v B' H',Stp B H B' H'->RepR K B' H H' r v->Qd r->Q v H'
def canG(K:PySem.W.Frag)(g:TVG):TG:=λv σ H Q=>∃H0 B τ d Qd,Same B H/\Slots K H0 B H τ σ/\Rep K B d v/\g d τ Qd/\∀τ' σ',Slots K H0 B H τ' σ'->Kp τ σ τ' σ'->Qd τ'->Q σ' H
def canF(K:PySem.W.Frag)(t:TVT):TF:=λσ H Y N=>∃H0 B τ Qd,Same B H/\Slots K H0 B H τ σ/\t τ Qd/\∀b B' H',Stp B H B' H'->Qd b->if b=true then Y H' else N H'
theorem VE.can(h:VE X EX0 e te):QE X e (canE X.K te):=let ⟨_,a1,a2⟩:=h.u;⟨λpins s σ H Q I ⟨H0,B,τ,Qd,q1,q2,q3,q4,q5⟩=>a1.u pins s σ H Q I (a2 H0 B H τ σ Q Qd q1 q2 q3 q4 q5)⟩
theorem VG.can{g:TVG}(h:VG X e g):QG X e (canG X.K g):=let ⟨_,a1,a2⟩:=h.u;⟨λpins s σ H v u Q I r ⟨H0,B,τ,d,Qd,q1,q2,q3,q4,q5⟩=>a1.u pins s σ H v u Q I r (a2 H0 B H τ σ v d Q Qd q1 q2 q3 q4 q5)⟩
theorem VFs.can(h:VFs X EX es tT):QF X es (canF X.K tT):=let ⟨_,a1,a2⟩:=h.u;⟨λpins s σ H Y N I ⟨H0,B,τ,Qd,q1,q2,q3,q4⟩=>a1.u pins s σ H Y N I (a2 H0 B H τ σ Y N Qd q1 q2 q3 q4)⟩
theorem qc0{tg iter elt:Expr}{ifs:List Expr}{csc:Scope}{NB M:List Str}{vi:TVA}{g:TVG}{ti:TVT}(hi:VI X EX tg iter vi)(hc:X.calm=true)(S:CompScope X.env.scope X.N NB M csc)
  (hg:∀cl C s₀ H₀ fp pn,VG (cxC X NB csc cl C s₀ H₀ fp pn) tg g) (hf:∀cl C s₀ H₀ fp pn,VFs (cxC X NB csc cl C s₀ H₀ fp pn) EX0 ifs ti)
  (he:∀cl C s₀ H₀ fp pn,VE (cxC X NB csc cl C s₀ H₀ fp pn) EX0 elt te) (hs:∀x,foldedSetIterable iter X.env x=pure x:=by intro _;rfl):VC X EX (.ListComp elt [⟨tg,iter,ifs,0⟩] csc pos) (qeo vi g ti te M.length) :=
 let ⟨_,a1,a2⟩:=hi.u;⟨_,q1a (g:=canG X.K g) (ti:=canF X.K ti) (te:=canE X.K te) a1 hc S (λcl C s₀ H₀ fp pn=>(hg cl C s₀ H₀ fp pn).can) (λcl C s₀ H₀ fp pn=>(hf cl C s₀ H₀ fp pn).can) (λcl C s₀ H₀ fp pn=>(he cl C s₀ H₀ fp pn).can) hs,
  q1v a2 (λH0 B H τ σ v d Q Qd q1 q2 q3 q4 q5=>⟨H0,B,τ,d,Qd,q1,q2,q3,q4,q5⟩) (λH0 B H τ σ Y N Qd q1 q2 q3 q4=>⟨H0,B,τ,Qd,q1,q2,q3,q4⟩) (λH0 B H τ σ Q Qd q1 q2 q3 q4 q5=>⟨H0,B,τ,Qd,q1,q2,q3,q4,q5⟩)⟩
theorem vc_e(h:VC X EX e te):VE X EX e te:=let ⟨_,a1,a2⟩:=h.u;⟨_,qc_e a1,a2⟩
def ownL(τ:VSt)(i:Nat)(Q:List D->Prop):Prop:=match τ[i]? with
|some (some (.own (.lst ds)))=>Q ds
|_=>False
theorem q0o{i:Nat}{Q:List D->Prop}(h:ownL τ i Q):∃ds,τ[i]?=some (some (.own (.lst ds)))/\Q ds:=by
 unfold ownL at h
 split at h
 ·exact⟨_,by assumption,h⟩
 ·exact h.elim
theorem Slots.lst{i:Nat}{ds es:List D}{ad:Addr}{ys:List V}(S:Slots K H0 B H τ σ)(p:Stp B0 H0 B H)(hi:τ[i]?=some (some (.own (.lst ds))))(ha:σ[i]?=some (some (.ref ad)))(r:Reps K B es ys) :
  Stp B0 H0 B (L2.upd H ad (.lst ys))/\Slots K H0 B (L2.upd H ad (.lst ys)) (τ.set i (some (.own (.lst es)))) σ:=by
 obtain⟨c,q,h0,hb,_⟩:=S.own i _ hi
 rw[ha] at q
 cases q
 exact⟨p.upd h0 hb,S.upd hi ha (qc8 r)⟩
theorem Slots.ownL{i:Nat}{Q:List D->Prop}(S:Slots K H0 B H τ σ)(h:L2.ownL τ i Q):∃ds ad xs,τ[i]?=some (some (.own (.lst ds)))/\Q ds/\σ[i]?=some (some (.ref ad))/\H ad=some (.lst xs)/\Reps K B ds xs:=by
 obtain⟨ds,e,q⟩:=q0o h
 obtain⟨a,q1,_,_,xs,q2,q3⟩:=S.own i _ e
 exact⟨ds,a,xs,e,q,q1,q2,q3⟩
def qia(i:Nat)(te:TV):TVS:=λDv τ=>ownL τ i λds=>te τ λr=>exS τ Dv r (pubR r λd=>ds.length<sizeLine/\Dv.nx (τ.set i (some (.own (.lst (ds++[d]))))))
theorem qmd(i:Nat)(h:VE X EX e te)(hN:X.N[i]?=some x:=by rfl)(hv:Vis X.env.scope x:=by first|exact Or.inl rfl|exact Or.inr (Or.inl rfl)|exact Or.inr (Or.inr rfl))(hd:(x==("__debug__" : Str))=false:=by decide)
  (hcd:(x==("__classdict__" : Str))=false:=by decide) (hp:qaq e=true:=by rfl)
  (hbase:attributeBase (.Name x p) "append" X.env (eval (.Name x p) X.env)=eval (.Name x p) X.env:=by rfl) (hline:(apos.endLine==cpos.line)=true:=by rfl)
  (hs:swapsWith (.Call (.Attribute (.Name x p) "append" apos) [e] [] cpos) none pos.line X.env=pure false:=by rfl) :
  VS X EX (.Expr (.Call (.Attribute (.Name x p) "append" apos) [e] [] cpos) pos) (qia i te) :=
 let ⟨_,a1,a2⟩:=h.u;⟨_,qj7 (qbm PySem.F.plainAttrs_list PySem.F.slot_list_append PySem.F.type_list_append qlm (qv i hN hv hd hcd) (qac a1 qd0 hp) (by simp[hp]) rfl hbase hline) hs,λB0 H0 B H τ σ Dv Dh p S h E=>by
  obtain⟨ds,ad,xs,e1,h,e2,e3,_⟩:=S.ownL h
  refine⟨.ref ad,e2,.inl ⟨rfl,xs,SqL.of e3⟩,a2 H0 B H τ σ _ _ p.s S h (E.raised p S) λr v B' H' q hr hq=>?_⟩
  obtain⟨d,B2,q2,_,rp,hz,hn⟩:=pub q hr (hr.okS hq)
  have S2:=S.step q2
  obtain⟨a',q1,_,_,xs2,q4,q3⟩:=S2.own i _ e1
  rw[e2] at q1
  cases q1
  refine⟨ad,xs2,v,rfl,rfl,q4,by rw[←q3.length];exact hz,?_⟩
  obtain⟨p3,S3⟩:=S2.lst (p.trans q2) e1 e2 (q3.append (.one rp))
  exact E.nx B2 _ _ σ p3 S3 hn⟩
def quk(i:Nat)(tk te:TV):TVS:=λDv τ=>ownL τ i λds=>te τ λr=>exS τ Dv r <| pubR r λd=>tk τ λrk=>match rk.d with
|.int k=>∃j,ixN ds.length k=some j/\Dv.nx (τ.set i (some (.own (.lst (ds.set j d)))))
|_=>False
theorem qux{ek:Expr}{tk:TV}(i:Nat)(hk:VE X EX ek tk)(h:VE X EX e te)(hN:X.N[i]?=some x:=by rfl)(hv:Vis X.env.scope x:=by first|exact Or.inl rfl|exact Or.inr (Or.inl rfl)|exact Or.inr (Or.inr rfl))(hd:(x==("__debug__" : Str))=false:=by decide)
  (hcd:(x==("__classdict__" : Str))=false:=by decide)
  (ha:∀v,assign (.Subscript (.Name x p) ek p2) X.env v=(do
   let ov ←holding [v] (eval (.Name x p) X.env)
   let iv ←holding [v,ov] (eval ek X.env)
   standAt p2
   holding [v,ov,iv] (setItem ov iv v)
   release [v,ov,iv] []):=by intro _;rfl)
  (hs:swapsWithSole [.Subscript (.Name x p) ek p2] e pos.line X.env=pure false:=by rfl) (hw:swappedStores [.Subscript (.Name x p) ek p2] e X.env=pure none:=by rfl)
  (h1:(assignEach [.Subscript (.Name x p) ek p2] X.env).map (·.2)=[assign (.Subscript (.Name x p) ek p2) X.env]:=by rfl):VS X EX (.Assign [.Subscript (.Name x p) ek p2] e pos) (quk i tk te) :=
 let ⟨_,a1,a2⟩:=h.u;let ⟨_,b1,b2⟩:=hk.u;⟨_,qtv a1 (qts (qv i hN hv hd hcd) b1 set_list ha) hs hw h1,λB0 H0 B H τ σ Dv Dh p S h E=>by
  obtain⟨ds,ad,xs,e1,h,e2,e3,_⟩:=S.ownL h
  refine a2 H0 B H τ σ _ _ p.s S h (E.raised p S) λr v B' H' q hr hq=>?_
  obtain⟨d,B2,q2,_,rp,hn⟩:=pub q hr (hr.okS hq)
  refine⟨.ref ad,e2,b2 H0 B2 H' τ σ _ _ q2.s (S.step q2) hn (xno λ_ q=>q) λrk vk B3 H3 q3 hk hh=>?_⟩
  split at hh
  ·rename_i k ek
   obtain⟨j,hj,hn⟩:=hh
   have qq:=q2.trans q3
   have S3:=S.step qq
   obtain⟨a',f1,_,_,xs2,f4,f3⟩:=S3.own i _ e1
   rw[e2] at f1
   cases f1
   refine⟨ad,xs2,k,j,rfl,hk.pk.scal (by rw[ek];rfl),f4,by rw[←f3.length];exact hj,?_⟩
   obtain⟨p4,S4⟩:=S3.lst (p.trans qq) e1 e2 (f3.set j (rp.same q3.b))
   exact E.nx B3 _ _ σ p4 S4 hn
  ·exact hh.elim⟩
def qat(N:List Str)(ds:List D):VSt:=ds.map (λd=>some (R.val d))++List.replicate (N.length-ds.length) none
theorem qga:∀ {ds:List D} {vs:List V},Reps K B ds vs->Slots K H0 B H (ds.map λd=>some (R.val d)) (vs.map some)
|[],_,h=>by
  unfold Reps at h
  subst h
  exact⟨rfl,λi d e=>by simp at e,λi d e=>by simp at e,λi d e=>by simp at e,λi j d e a h=>by simp at h⟩
|d::ds,_,h=>by
  unfold Reps at h
  obtain⟨v,vs,rfl,h1,h2⟩:=h
  have S:=qga h2
  refine⟨by have:=S.len;simp at this ⊢;exact this,λi f e=>?_,λi f e=>?_,λi f e=>?_,λi j f g ad e=>?_⟩
  ·cases i with
  |zero=>simp at e;subst e;exact⟨v,rfl,h1⟩
  |succ i=>simpa using S.val i f (by simpa using e)
  ·cases i with
  |zero=>simp at e
  |succ i=>simpa using S.fz i f (by simpa using e)
  ·cases i with
  |zero=>simp at e
  |succ i=>simpa using S.own i f (by simpa using e)
  ·cases i with
  |zero=>simp at e
  |succ i =>
    simp at e
theorem Fun.okV{P:Program}{w:World}{mg:Str->Option Value}{base:Heap}{x qual:Str}{st:Stmt}{f:Addr}{fd:FuncData}{N ps:List Str}{k:Nat}{g:DP}(F:Fun K x qual st f fd)(S:FnScope N ps (qaf st))(len:∀ds Q,g ds Q->ds.length=ps.length)
  (hbody:∀(cdv:Value) (A:Around) (outer:List Env) (s:Shared) (H:Hp) (E:XK),Room k (A.deeper (envOfC qual (qaf st) s.heap.objs.size f cdv)) ->
   ∃t,VSs (cxOf CX0 P w K mg base N qual (qaf st) f cdv A outer s H E).nox EX0 (qbq st) t/\∀ds Q,g ds Q->t { nx:=λ_=>Q (.val .non),rt:=Q } (qat N ds)):FnOk P w K mg base CX0 (k+1) f fd ps (spOf K g):=by
 refine F.okQ S (λvs H Q E h=>?_) (λcdv A outer s H vs Q E hr h=>?_)
 ·obtain⟨ds,B,Qd,_,rp,hg,_,_⟩:=h
  rw[←rp.length]
  exact len ds Qd hg
 ·obtain⟨ds,B,Qd,sm,rp,hg,_,kk⟩:=h
  obtain⟨t,⟨ts,q1,q2⟩,ht⟩:=hbody cdv A outer s H E hr
  refine⟨ts,q1,q2 B H B H (qat N ds) (start N vs) _ _ (.refl sm) ?_ (ht ds Qd hg) ⟨λB' H' τ σ p S h=>kk (.val .non) .non B' H' h p (repV rfl),λr v B' H' p hr h=>kk r v B' H' h p hr,λ_ _ _ _ _ _ h=>h.elim,λ_ _ _ _ _ _ h=>h.elim,λ_ _ _ _ _ _ _ _ _ h=>h.elim,λ_ _ _ _ _ _ _ _ _ _ h=>h.elim,λ_ _ _ _ _ _ _ h=>h.elim⟩⟩
  unfold qat start
  rw[rp.length]
  exact(qga rp).more _
end
end L2
namespace L2
open PySem PySem.Spec PyProof.Rows
section
variable {X:Cx} {EX:St->XK} {K:PySem.W.Frag} {e a b c o:Expr} {te ta tb tc to:TV} {pos p apos cpos:Pos} {x:Str}
def vNeg(ta:TV):TV:=λτ Q=>ta τ λr=>match r.d with
|.int i=>Q (.val (.int (-i)))
|_=>False
theorem qpp(ha:VE X EX a ta):VE X EX (.UnaryOp .USub a pos) (vNeg ta) :=
 let ⟨_,a1,a2⟩:=ha.u;⟨_,q66 q5w a1,λH0 B H τ σ Q Qd s S h xc k=>a2 H0 B H τ σ _ _ s S h (xno λ_ q=>q) λr v B' H' p q h1=>by
  split at h1
  ·rename_i i e
   exact⟨i,q.pk.scal (by rw[e];rfl),k (.val (.int (-i))) _ B' H' p (repV rfl) h1⟩
  ·exact h1.elim⟩
def vIsN(g:Bool->Bool)(rx ry:R)(Q:R->Prop):Prop:=match ry.d with
|.non=>Q (.val (.bl (g (match rx.d with|.non=>true|_=>false))))
|_=>False
theorem qyf{B H:Hp}{r:R}{v:V}(h:Pk K B H r v):decide (v=.non)=(match r.d with|.non=>true|_=>false):=by
 have key:∀d,Rep K B d v->decide (v=.non)=(match d with|.non=>true|_=>false):=λd h=>by
  cases d<;>unfold Rep at h<;>first|(subst h;rfl)|(obtain⟨_,_,rfl,_⟩:=h;rfl)|(obtain⟨_,rfl,_⟩:=h;rfl)
 have key2:∀d,(∃a,v=.ref a/\B a=none/\OwnAt K B H d a)->decide (v=.non)=(match d with|.non=>true|_=>false):=λd ⟨a,e,_,ow⟩=>by
  subst e
  cases d<;>first|rfl|exact ow.elim
 cases r with
|val d=>exact key d h
|own d=>exact key2 d h
|peek d=>exact key2 d h
|exc n=>exact h.elim
theorem qxq:VO X (compareOp .Is) (vIsN id):=by
 refine⟨_,q3v,λB H x y rx ry Q Qd s px py h k=>?_⟩
 unfold vIsN at h
 split at h
 ·rename_i e
  refine⟨py.scal (by rw[e];rfl),?_⟩
  rw[qyf px]
  exact k _ _ B H (.refl s) (repV rfl) h
 ·exact h.elim
theorem qxr:VO X (compareOp .IsNot) (vIsN (!·)):=by
 refine⟨_,q0m,λB H x y rx ry Q Qd s px py h k=>?_⟩
 unfold vIsN at h
 split at h
 ·rename_i e
  refine⟨py.scal (by rw[e];rfl),?_⟩
  rw[qyf px]
  exact k _ _ B H (.refl s) (repV rfl) h
 ·exact h.elim
def qic(rd rd':R->R->(R->Prop)->Prop)(ta tb tc:TV):TV:=λτ Q=>ta τ λrx=>exR rx (λ_=>False) <| tb τ λry=>exR ry (λ_=>False) <| rd rx ry λrz=>match rz.d with
|.bl k=>if k=true then tc τ λrw=>exR rw (λ_=>False) (rd' ry rw Q) else Q (.val (.bl false))
|_=>False
theorem qvz:MtM X "str.join" (λx vs H Q=>∃(sep:Str) (l:Addr) (ys:List Str),x=.str sep/\vs=[.ref l]/\SqT X.K H l (ys.map V.str)/\(ys.map (·.length)).sum+ys.length*sep.length<=16777216/\Q (.str (glue sep ys)) H):=by
 intro pins s σ H x vs v us Q I rx rv h
 obtain⟨sep,l,ys,rfl,rfl,hq,hz,q⟩:=h
 obtain⟨t,rfl⟩:=rx
 obtain⟨u,rfl,ru⟩:=rv.one
 cases ru
 obtain⟨its,r,pl,_⟩:=I.tuple hq
 obtain⟨ts,rfl,rfl⟩:=qn0 r
 have fit:Builtin.Str.tooLong ((ts.map (·.1)).toArray.foldl (·+·.length+sep.length) 0)=false:=by
  rw[StrLaws.joinTotal]
  unfold Builtin.Str.tooLong
  rw[sizeLine_eq]
  exact decide_eq_false (by lia)
 exact call_meets F.slot_str_join (typeIs_str _ _ _) F.entry_str_join (F.args_str_join_2 _ _) (meets_str_join_tuple sep t l ts fit) ⟨(let ⟨o,h1,h2,n,h3⟩:=pl;⟨o,n,h1,h2,h3⟩),post_join ts ⟨joinFit_length fit,λt' k=>⟨.str (glue sep (ts.map (·.1))),H,I.tok k,⟨t',rfl⟩,q⟩⟩⟩
def qkk(to te:TV):TV:=λτ Q=>to τ λrs=>match rs.d with
|.str sep=>te τ λrl=>∃ys:List Str,(rl.d=.lst (ys.map D.str)\/rl.d=.tup (ys.map D.str))/\(ys.map (·.length)).sum+ys.length*sep.length<=16777216/\Q (.val (.str (glue sep ys)))
|_=>False
theorem qgh(ho:VE X EX o to)(h:VE X EX e te)(hp:qaq e=true:=by rfl)
  (hbase:attributeBase o "join" X.env (eval o X.env)=eval o X.env:=by rfl) (hline:(apos.endLine==cpos.line)=true:=by rfl):VE X EX (.Call (.Attribute o "join" apos) [e] [] cpos) (qkk to te) :=
 let ⟨_,o1,o2⟩:=ho.u;let ⟨_,a1,a2⟩:=h.u;⟨_,qbm PySem.F.plainAttrs_str PySem.F.slot_str_join PySem.F.type_str_join (MtR.or q0c qvz) o1 (qac a1 qd0 hp) (by simp[hp]) rfl hbase hline,λH0 B H τ σ Q Qd s S h xc k =>
  o2 H0 B H τ σ _ _ s S h (xno λ_ q=>q) λrs vs B1 H1 p1 q1 h1=>by
   split at h1
   ·rename_i sep es
    cases q1.pk.scal (z:=.str sep) (by rw[es];rfl)
    refine⟨rfl,a2 H0 B1 H1 τ σ _ _ p1.s (S.step p1) h1 (xno λ_ ⟨_,q,_⟩=>by rcases q with q|q<;>cases q) λrl vl B2 H2 p2 q2 h2=>?_⟩
    obtain⟨ys,el,hz,hq⟩:=h2
    rcases el with el|el
    ·obtain⟨ad,xs,rfl,hx,rx⟩:=q2.pk.lst p2.s el
     exact .inl ⟨sep,ad,ys,rfl,rfl,SqL.of (by rw[hx,rx.strs]),hz,k _ _ B2 H2 (p1.trans p2) (repV rfl) hq⟩
    ·obtain⟨ad,xs,rfl,hx,rx⟩:=q2.pk.tup el
     cases rx.strs
     exact .inr ⟨sep,ad,ys,rfl,rfl,p2.s.sqT hx.sq,hz,k _ _ B2 H2 (p1.trans p2) (repV rfl) hq⟩
   ·exact h1.elim⟩
theorem qpf{r r':R2}{rd rd':R->R->(R->Prop)->Prop}{ea eb ec:TE}(hr:RfO K r rd)(hr':RfO K r' rd')(ha:RfE K EX ea ta)(hb:RfE K EX eb tb)(hc:RfE K EX ec tc):RfE K EX (ql5 r r' ea eb ec) (qic rd rd' ta tb tc):=λH0 B H τ σ Q Qd s S h xc k =>
 ha H0 B H τ σ _ _ s S h (xno λ_ q=>q) λrx x B1 H1 p1 q1 h1=>hb H0 B1 H1 τ σ _ _ p1.s (S.step p1) (q1.ok h1) (xno λ_ q=>q) λry y B2 H2 p2 q2 h2 =>
  hr B2 H2 x y rx ry _ _ p2.s (q1.pk.step p2) q2.pk (q2.ok h2) λrz z B3 H3 p3 q3 h3=>by
   split at h3
   ·rename_i kk ek
    refine⟨kk,q3.pk.scal (by rw[ek];rfl),?_⟩
    have p13:=p1.trans (p2.trans p3)
    cases kk with
   |true =>
     rw[if_pos rfl] at h3 ⊢
     exact hc H0 B3 H3 τ σ _ _ p3.s (S.step p13) h3 (xno λ_ q=>q) λrw' w B4 H4 p4 q4 h4=>hr' B4 H4 y w ry rw' _ _ p4.s ((q2.pk.step p3).step p4) q4.pk (q4.ok h4) λr v B5 H5 p5 q5 h5=>k r v B5 H5 (p13.trans (p4.trans p5)) (q5.back (p13.trans p4).h) h5
   |false =>
     rw[if_neg Bool.false_ne_true] at h3 ⊢
     exact k (.val (.bl false)) _ B3 H3 p13 (repV rfl) h3
   ·exact h3.elim
theorem qxk{op op':CmpOp}{rd rd':R->R->(R->Prop)->Prop}(hr:VO X (compareOp op) rd)(hr':VO X (compareOp op') rd')(ha:VE X EX a ta)(hb:VE X EX b tb)(hc:VE X EX c tc)(hm:lastMarks [op,op'] [b,c]=false:=by with_unfolding_all rfl) :
  VE X EX (.Compare a [op,op'] [b,c] pos) (qic rd rd' ta tb tc) :=
 let ⟨_,r1,r2⟩:=hr.u;let ⟨_,s1,s2⟩:=hr'.u;let ⟨_,a1,a2⟩:=ha.u;let ⟨_,b1,b2⟩:=hb.u;let ⟨_,c1,c2⟩:=hc.u;⟨_,qwp r1 s1 a1 b1 c1 hm,qpf r2 s2 a2 b2 c2⟩
theorem qxt{op op':CmpOp}{rd rd':R->R->(R->Prop)->Prop}(hr:VO X (compareOp op) rd)(hr':VO X (compareOp op') rd')(ha:VE X EX a ta)(hb:VE X EX b tb)(hc:VE X EX c tc)(hm:lastMarks [op,op'] [b,c]=false:=by with_unfolding_all rfl) :
  VT X EX (.Compare a [op,op'] [b,c] pos) (vBl (qic rd rd' ta tb tc)) :=
 let ⟨_,r1,r2⟩:=hr.u;let ⟨_,s1,s2⟩:=hr'.u;let ⟨_,a1,a2⟩:=ha.u;let ⟨_,b1,b2⟩:=hb.u;let ⟨_,c1,c2⟩:=hc.u;⟨_,qwz r1 s1 a1 b1 c1 hm,qt0 (qpf r2 s2 a2 b2 c2)⟩
def strsOf:List D->Option (List Str)
|[]=>some []
|.str s::ds=>(strsOf ds).map (s::·)
|_::_=>none
theorem qi6(ss:List Str):strsOf (ss.map D.str)=some ss:=by
 induction ss with
|nil=>rfl
|cons s ss ih=>rw[List.map_cons,strsOf,ih];rfl
theorem qen:∀ {ds:List D} {ss:List Str},strsOf ds=some ss->ds=ss.map D.str
|[],ss,h=>by cases h;rfl
|d::ds,ss,h=>by
  cases d<;>first|(unfold strsOf at h;cases h;done)|skip
  rename_i s
  unfold strsOf at h
  cases q:strsOf ds with
 |none=>rw[q] at h;cases h
 |some r =>
   rw[q] at h
   cases h
   rw[qen q]
   rfl
def vIn(g:Bool->Bool)(rx ry:R)(Q:R->Prop):Prop:=match rx.d,ry.d with
|.str x,.str y=>Q (.val (.bl (g (!(Builtin.Str.occurrences y x 0 y.length 1).isEmpty))))
|.str x,.tup ds=>∃ss,strsOf ds=some ss/\Q (.val (.bl (g (decide (x∈ss)))))
|.str x,.lst ds=>∃ss,strsOf ds=some ss/\Q (.val (.bl (g (decide (x∈ss)))))
|.str x,.kt ss=>Q (.val (.bl (g (decide (x∈ss)))))
|_,_=>False
theorem qd3(x:Str):∀(ss:List Str),inV (.str x) (ss.map V.str)=decide (x∈ss)
|[]=>rfl
|y::ss=>by
  have:=qd3 x ss
  unfold inV at this ⊢
  rw[List.map_cons,List.any_cons,this]
  apply qbc
  rw[Bool.or_eq_true,decide_eq_true_iff,decide_eq_true_iff,List.mem_cons]
  rw[show eqV (V.str y) (V.str x)=(y==x) from rfl,beq_iff_eq]
  exact⟨λh=>h.imp Eq.symm id,λh=>h.imp Eq.symm id⟩
theorem qdu(ss:List Str):(ss.map V.str).all qgt=true:=by rw[List.all_map];simp[qgt]
theorem Pk.kt{B H:Hp}{r:R}{v:V}{ss:List Str}(h:Pk K B H r v)(e:r.d=.kt ss):∃a,v=.ref a/\SqT K (λ_=>none) a (ss.map V.str):=by
 cases r with
|val d =>
  cases (show d=_ from e)
  have h':Rep K B (.kt ss) v:=h
  unfold Rep at h'
  exact h'
|own d=>cases (show d=_ from e);obtain⟨_,_,_,q⟩:=h;exact q.elim
|peek d=>cases (show d=_ from e);obtain⟨_,_,_,q⟩:=h;exact q.elim
|exc n=>exact h.elim
theorem qkq:VO X (compareOp .In) (vIn id):=by
 refine⟨_,op_in_str.or qtj,λB H x y rx ry Q Qd s px py h k=>?_⟩
 unfold vIn at h
 split at h
 ·rename_i u w e1 e2
  exact .inl ⟨u,w,px.scal (by rw[e1];rfl),py.scal (by rw[e2];rfl),k _ _ B H (.refl s) (repV rfl) h⟩
 ·rename_i u ds e1 e2
  obtain⟨ss,hs,q⟩:=h
  cases qen hs
  cases px.scal (z:=.str u) (by rw[e1];rfl)
  obtain⟨a,xs,rfl,h1,r1⟩:=py.tup e2
  cases r1.strs
  have q':Qd (.val (.bl (decide (u∈ss)))):=q
  rw[←qd3] at q'
  exact .inr ⟨a,_,rfl,.inr (s.sqT h1.sq),rfl,qdu ss,k _ _ B H (.refl s) (repV rfl) q'⟩
 ·rename_i u ds e1 e2
  obtain⟨ss,hs,q⟩:=h
  cases qen hs
  cases px.scal (z:=.str u) (by rw[e1];rfl)
  obtain⟨a,xs,rfl,h1,r1⟩:=py.lst s e2
  cases r1.strs
  have q':Qd (.val (.bl (decide (u∈ss)))):=q
  rw[←qd3] at q'
  exact .inr ⟨a,_,rfl,.inl (SqL.of h1),rfl,qdu ss,k _ _ B H (.refl s) (repV rfl) q'⟩
 ·rename_i u ss e1 e2
  cases px.scal (z:=.str u) (by rw[e1];rfl)
  obtain⟨a,rfl,h1⟩:=py.kt e2
  have q':Qd (.val (.bl (decide (u∈ss)))):=h
  rw[←qd3] at q'
  exact .inr ⟨a,_,rfl,.inr ((Same.emp H).sqT h1),rfl,qdu ss,k _ _ B H (.refl s) (repV rfl) q'⟩
 ·exact h.elim
theorem qpu:VO X (compareOp .NotIn) (vIn (!·)):=by
 refine⟨_,op_notin_str.or qls,λB H x y rx ry Q Qd s px py h k=>?_⟩
 unfold vIn at h
 split at h
 ·rename_i u w e1 e2
  exact .inl ⟨u,w,px.scal (by rw[e1];rfl),py.scal (by rw[e2];rfl),k _ _ B H (.refl s) (repV rfl) h⟩
 ·rename_i u ds e1 e2
  obtain⟨ss,hs,q⟩:=h
  cases qen hs
  cases px.scal (z:=.str u) (by rw[e1];rfl)
  obtain⟨a,xs,rfl,h1,r1⟩:=py.tup e2
  cases r1.strs
  have q':Qd (.val (.bl (!decide (u∈ss)))):=q
  rw[←qd3] at q'
  exact .inr ⟨a,_,rfl,.inr (s.sqT h1.sq),rfl,qdu ss,k _ _ B H (.refl s) (repV rfl) q'⟩
 ·rename_i u ds e1 e2
  obtain⟨ss,hs,q⟩:=h
  cases qen hs
  cases px.scal (z:=.str u) (by rw[e1];rfl)
  obtain⟨a,xs,rfl,h1,r1⟩:=py.lst s e2
  cases r1.strs
  have q':Qd (.val (.bl (!decide (u∈ss)))):=q
  rw[←qd3] at q'
  exact .inr ⟨a,_,rfl,.inl (SqL.of h1),rfl,qdu ss,k _ _ B H (.refl s) (repV rfl) q'⟩
 ·rename_i u ss e1 e2
  cases px.scal (z:=.str u) (by rw[e1];rfl)
  obtain⟨a,rfl,h1⟩:=py.kt e2
  have q':Qd (.val (.bl (!decide (u∈ss)))):=h
  rw[←qd3] at q'
  exact .inr ⟨a,_,rfl,.inr ((Same.emp H).sqT h1),rfl,qdu ss,k _ _ B H (.refl s) (repV rfl) q'⟩
 ·exact h.elim
end
end L2
namespace L2
open PySem PySem.Spec PyProof.Rows
theorem v_cut{t u:TVS}{Dv:VEnds}{τ:VSt}(Pv:VSt->Prop)(rest:∀τ,Pv τ->u Dv τ)(now:∀nx:VSt->Prop,(∀τ,Pv τ->nx τ)->t { nx:=nx,rt:=Dv.rt,bk:=Dv.bk,ct:=Dv.ct,xc:=Dv.xc,ro:=Dv.ro,rn:=Dv.rn } τ):vSeq t u Dv τ:=now (u Dv) rest
section
variable {g:TVG} {tb:TVS} {Dv:VEnds} {τ:VSt}
theorem qzq{ds:List D}(Pv:Nat->VSt->Prop)(h0:Pv 0 τ)(hn:∀(i:Nat) (d:D) (τ:VSt),ds[i]?=some d->Pv i τ->∀nx:VSt->Prop,(∀τ',Pv (i+1) τ'->nx τ')->g d τ λτ'=>tb { nx:=nx,rt:=Dv.rt,bk:=Dv.nx,ct:=nx,xc:=Dv.xc,ro:=Dv.ro,rn:=Dv.rn } τ')
  (he:∀τ,Pv ds.length τ->Dv.nx τ):forW g tb Dv ds τ:=by
 have key:∀(n i:Nat) (τ:VSt),ds.length-i=n->i<=ds.length->Pv i τ->forW g tb Dv (ds.drop i) τ:=λn=>by
  induction n with
 |zero =>
   intro i τ h1 h2 h3
   have e:i=ds.length:=by lia
   subst e
   rw[List.drop_length]
   exact he τ h3
 |succ n ih =>
   intro i τ h1 h2 h3
   have l:i<ds.length:=by lia
   rw[List.drop_eq_getElem_cons l]
   exact hn i ds[i] τ (List.getElem?_eq_getElem l) h3 _ λτ' h=>ih (i+1) τ' (by lia) (by lia) h
 have:=key ds.length 0 τ (by lia) (Nat.zero_le _) h0
 rw[List.drop_zero] at this
 exact this
theorem qe7{α:Type}{f:α->D}{xs:List α}(Pv:Nat->VSt->Prop)(h0:Pv 0 τ)(hn:∀(i:Nat) (x:α) (τ:VSt),xs[i]?=some x->Pv i τ->∀nx:VSt->Prop,(∀τ',Pv (i+1) τ'->nx τ')->g (f x) τ λτ'=>tb { nx:=nx,rt:=Dv.rt,bk:=Dv.nx,ct:=nx,xc:=Dv.xc,ro:=Dv.ro,rn:=Dv.rn } τ')
  (he:∀τ,Pv xs.length τ->Dv.nx τ):forW g tb Dv (xs.map f) τ:=by
 refine qzq Pv h0 (λi d τ e=>?_) (by rw[List.length_map];exact he)
 rw[List.getElem?_map] at e
 cases q:xs[i]? with
|none=>rw[q] at e;cases e
|some x =>
  rw[q] at e
  cases e
  exact hn i x τ q
theorem qhj{lo:Int}{n:Nat}(Pv:Nat->VSt->Prop)(h0:Pv 0 τ)(hn:∀(i:Nat) (τ:VSt),i<n->Pv i τ->∀nx:VSt->Prop,(∀τ',Pv (i+1) τ'->nx τ')->g (.int (lo+i)) τ λτ'=>tb { nx:=nx,rt:=Dv.rt,bk:=Dv.nx,ct:=nx,xc:=Dv.xc,ro:=Dv.ro,rn:=Dv.rn } τ')
  (he:∀τ,Pv n τ->Dv.nx τ):forW g tb Dv (rngL lo n) τ:=by
 unfold rngL
 refine qe7 Pv h0 (λi x τ e=>?_) (by rw[List.length_range];exact he)
 by_cases l:i<n
 ·rw[List.getElem?_range l] at e
  cases e
  exact hn i τ l
 ·rw[List.getElem?_eq_none (by rw[List.length_range];lia)] at e
  cases e
end
theorem qiv{α:Type}(xs:List α):xs.filter (λ_=>true)=xs:=List.filter_eq_self.mpr λ_ _=>rfl
section
variable {α:Type} {f:α->D} {τ:VSt} {k:Nat} {g:TVG} {ti:TVT} {te:TV} {Q:R->Prop}
theorem qjj(P:α->D->Prop)(p:α->Bool)(xs:List α)(hz:xs.length<=sizeLine)
  (ok:∀x∈xs,∀(Y:R->Prop) (N:Prop),(p x=true->∀d,P x d->Y (.val d))->(p x=false->N)->g (f x) (τ++List.replicate k none) λτ2=>(τ2.take τ.length=τ/\τ2.length=τ.length+k)/\ti τ2 λb=>if b=true then te τ2 Y else N)
  (fin:∀es:List D,es.length=(xs.filter p).length->(∀(j:Nat) (x:α) (e:D),(xs.filter p)[j]?=some x->es[j]?=some e->P x e)->Q (.own (.lst es))):qji τ k g ti te Q (xs.map f) []:=by
 have key:∀(ys zs:List α) (acc:List D),xs=zs++ys->acc.length=(zs.filter p).length->(∀(j:Nat) (x:α) (e:D),(zs.filter p)[j]?=some x->acc[j]?=some e->P x e)->qji τ k g ti te Q (ys.map f) acc:=by
  intro ys
  induction ys with
 |nil =>
   intro zs acc e h1 h2
   rw[List.append_nil] at e
   subst e
   exact fin acc h1 h2
 |cons y ys ih =>
   intro zs acc e h1 h2
   have hl:acc.length<sizeLine:=by
    have h3:=List.length_filter_le p zs
    have h4:xs.length=zs.length+(ys.length+1):=by rw[e,List.length_append,List.length_cons]
    lia
   refine ok y (by rw[e];simp) _ _ (λhp d hd=>⟨hl,ih (zs++[y]) (acc++[d]) (by rw[e];simp) ?_ λj x e' q1 q2=>?_⟩) (λhp=>ih (zs++[y]) acc (by rw[e];simp) ?_ λj x e' q1 q2=>?_)
   ·rw[List.filter_append,List.length_append,List.length_append,h1]
    simp[hp]
   ·rw[List.filter_append] at q1
    have ef:[y].filter p=[y]:=by simp[hp]
    rw[ef] at q1
    by_cases l:j<(zs.filter p).length
    ·rw[List.getElem?_append_left l] at q1
     rw[List.getElem?_append_left (by lia)] at q2
     exact h2 j x e' q1 q2
    ·rw[List.getElem?_append_right (by lia)] at q1
     rw[List.getElem?_append_right (by lia)] at q2
     have ej:j-(zs.filter p).length=0:=by
      have:=(List.getElem?_eq_some_iff.mp q1).1
      simp at this
      lia
     rw[ej] at q1
     rw[h1,ej] at q2
     cases q1
     cases q2
     exact hd
   ·rw[List.filter_append,List.length_append,h1]
    simp[hp]
   ·rw[List.filter_append] at q1
    have ef:[y].filter p=[]:=by simp[hp]
    rw[ef,List.append_nil] at q1
    exact h2 j x e' q1 q2
 exact key xs [] [] rfl rfl (λj x e q=>by simp at q)
theorem qmv(h:α->D)(p:α->Bool)(xs:List α)(hz:xs.length<=sizeLine)
  (ok:∀x∈xs,∀(Y:R->Prop) (N:Prop),(p x=true->Y (.val (h x)))->(p x=false->N)->g (f x) (τ++List.replicate k none) λτ2=>(τ2.take τ.length=τ/\τ2.length=τ.length+k)/\ti τ2 λb=>if b=true then te τ2 Y else N)
  (fin:Q (.own (.lst ((xs.filter p).map h)))):qji τ k g ti te Q (xs.map f) []:=by
 refine qjj (λx d=>d=h x) p xs hz (λx hx Y N h1 h2=>ok x hx Y N (λz=>h1 z _ rfl) h2) λes hl he=>?_
 have:es=(xs.filter p).map h:=List.ext_getElem (by rw[hl,List.length_map]) λj h1 h2=>by
  rw[List.length_map] at h2
  rw[List.getElem_map]
  exact he j _ _ (List.getElem?_eq_getElem h2) (List.getElem?_eq_getElem h1)
 rw[this]
 exact fin
theorem qc6(h:α->D)(xs:List α)(hz:xs.length<=sizeLine)
  (ok:∀x∈xs,∀(Y:R->Prop) (N:Prop),Y (.val (h x))->g (f x) (τ++List.replicate k none) λτ2=>(τ2.take τ.length=τ/\τ2.length=τ.length+k)/\ti τ2 λb=>if b=true then te τ2 Y else N)
  (fin:Q (.own (.lst (xs.map h)))):qji τ k g ti te Q (xs.map f) []:=by
 refine qmv h (λ_=>true) xs hz (λx hx Y N h1 _=>ok x hx Y N (h1 rfl)) ?_
 rw[qiv]
 exact fin
theorem qof(P:D->Prop)(xs:List α)(hz:xs.length<=sizeLine)
  (ok:∀x∈xs,∀(Y:R->Prop) (N:Prop),(∀d,P d->Y (.val d))->g (f x) (τ++List.replicate k none) λτ2=>(τ2.take τ.length=τ/\τ2.length=τ.length+k)/\ti τ2 λb=>if b=true then te τ2 Y else N)
  (fin:∀es:List D,es.length=xs.length->(∀e∈es,P e)->Q (.own (.lst es))):qji τ k g ti te Q (xs.map f) []:=by
 refine qjj (λ_ d=>P d) (λ_=>true) xs hz (λx hx Y N h1 _=>ok x hx Y N (h1 rfl)) λes hl he=>fin es ?_ λe hm=>?_
 ·rw[qiv] at hl
  exact hl
 ·obtain⟨j,hj⟩:=List.mem_iff_getElem?.mp hm
  have l:=(List.getElem?_eq_some_iff.mp hj).1
  exact he j _ e (List.getElem?_eq_getElem (by rw[←hl];exact l)) hj
end
def wayD(ws:List Str):D:=.tup (ws.map D.str)
def qbz(ws:List Str):D:=.lst (ws.map D.str)
theorem qoe:∀(ss ts:List Str),qdd (ss.map D.str) (ts.map D.str)=true
|[],_=>by unfold qdd;rfl
|_::_,[]=>by unfold qdd;rfl
|s::ss,t::ts=>by
  show qdd (.str s::ss.map D.str) (.str t::ts.map D.str)=true
  unfold qdd
  rw[qoe ss ts]
  rfl
theorem qjk:∀(ss:List Str),qdj (ss.map D.str)=0
|[]=>rfl
|s::ss=>by
  show qdj (.str s::ss.map D.str)=0
  unfold qdj
  rw[qjk ss]
  rfl
theorem qnd{ss ts:List Str}(h:ss.map D.str=ts.map D.str):ss=ts:=by
 induction ss generalizing ts with
|nil=>cases ts with
 |nil=>rfl
 |cons t ts=>cases h
|cons s ss ih=>cases ts with
 |nil=>cases h
 |cons t ts =>
   injection h with h1 h2
   injection h1 with h1
   rw[h1,ih h2]
theorem eq_int(i j:Int):eqD (.int i) (.int j)=decide (i=j):=qbc (by
 rw[eqD_iff,decide_eq_true_iff]
 exact⟨λh=>D.int.inj h,λh=>h▸rfl⟩)
theorem eq_str(i j:Str):eqD (.str i) (.str j)=decide (i=j):=qbc (by
 rw[eqD_iff,decide_eq_true_iff]
 exact⟨λh=>D.str.inj h,λh=>h▸rfl⟩)
theorem qzf(i j:Int):cmpD (.int i) (.int j)=true:=rfl
theorem qrz(i j:Str):cmpD (.str i) (.str j)=true:=rfl
theorem qzi(i:Int):depD (.int i)=0:=rfl
theorem qzk(i:Str):depD (.str i)=0:=rfl
theorem qb5{α β:Type}(f:α->β)(xs:List α)(k:Int):atI (xs.map f) k=(atI xs k).map f:=by
 unfold atI
 rw[List.length_map]
 cases ixN xs.length k with
|none=>rfl
|some j=>simp
theorem qoh{α β:Type}(f:α->β)(xs:List α)(lo hi:Option Int):cutL (xs.map f) lo hi=(cutL xs lo hi).map f:=by
 unfold cutL
 rw[List.length_map,List.map_take,List.map_drop]
theorem qw9{K:PySem.W.Frag}{H:Hp}{a:Addr}{ns:List Int}{g:DP}(h:g [.scr ns] (λr=>r=.val (.bl true)))(hS:SqL K H a (ns.map V.int)){E:XK}:spOf K g [.ref a] H (λv _=>v=.bl true) E :=
 ⟨[.scr ns],H,_,Same.refl H,.one (by unfold Rep;exact⟨a,rfl,hS⟩),h,(λn C B' H' e _ _=>by cases e),λr v B' H' e p rr=>by
  subst e
  have rr':Rep K B' (.bl true) v:=rr
  unfold Rep at rr'
  exact rr'⟩
theorem qht(ss ts:List Str):(ss.map D.str=ts.map D.str)=(ss=ts):=propext ⟨qnd,λh=>h▸rfl⟩
theorem qnc(ss ts:List Int):(ss.map D.int=ts.map D.int)=(ss=ts):=propext ⟨λh=>by
 induction ss generalizing ts with
|nil=>cases ts with
 |nil=>rfl
 |cons t ts=>cases h
|cons s ss ih=>cases ts with
 |nil=>cases h
 |cons t ts =>
   injection h with h1 h2
   injection h1 with h1
   rw[h1,ih _ h2],λh=>h▸rfl⟩
theorem qo1{α:Type}(f:α->D)(xs:List α)(x:α):xs.map f++[f x]=(xs++[x]).map f:=by rw[List.map_append];rfl
theorem qw8(xs:List Str)(x:Str):xs.map D.str++[.str x]=(xs++[x]).map D.str:=qo1 _ xs x
theorem qw7(xs:List Int)(x:Int):xs.map D.int++[.int x]=(xs++[x]).map D.int:=qo1 _ xs x
theorem qzd(xs ys:List Str):xs.map D.str++ys.map D.str=(xs++ys).map D.str:=(List.map_append ..).symm
theorem qvk(xs:List Str):(xs.map D.str).dropLast=xs.dropLast.map D.str:=by
 rw[←qfj,←qfj,qoh]
theorem qtq(d:D)(Q:D->Prop):pubR (.val d) Q=Q d:=rfl
theorem qtp(d:D)(Q:D->Prop):pubR (.own d) Q=Q d:=rfl
theorem qxf(k:Nat)(xs:List Str):(xs.map D.str).take k=(xs.take k).map D.str:=(List.map_take ..).symm
theorem qr9(k:Nat)(xs:List Str):(xs.map D.str).drop k=(xs.drop k).map D.str:=(List.map_drop ..).symm
theorem qza{α:Type}(xs:List α)(n:Nat):atI xs (no_index (OfNat.ofNat n:Int))=xs[n]?:=by
 show atI xs (n:Int)=xs[n]?
 unfold atI ixN
 rw[if_pos (by lia)]
 by_cases h:(n:Int)<xs.length
 ·rw[if_pos h]
  simp
 ·rw[if_neg h]
  simp
  lia
theorem qvg{α:Type}(xs:List α):atI xs (-1)=xs.getLast?:=by
 unfold atI ixN
 rw[if_neg (by decide)]
 cases xs with
|nil=>rfl
|cons x xs =>
  rw[if_pos (by rw[List.length_cons];lia)]
  rw[List.getLast?_eq_getElem?]
  show (x::xs)[(-1+((x::xs).length:Int)).toNat]?=_
  congr 1
  lia
theorem qya(d:D)(Q:R->Prop)(k:Prop):exR (.val d) Q k=k:=rfl
theorem qx9(d:D)(Q:R->Prop)(k:Prop):exR (.own d) Q k=k:=rfl
theorem qsn(d:D)(Q:R->Prop)(k:Prop):exR (.peek d) Q k=k:=rfl
theorem qx8(n:Str)(Q:R->Prop)(k:Prop):exR (.exc n) Q k=Q (.exc n):=rfl
theorem qsi(d:D)(Q:AR->Prop)(k:Prop):excA (.val d) Q k=k:=rfl
theorem qsh(d:D)(Q:AR->Prop)(k:Prop):excA (.own d) Q k=k:=rfl
theorem qol(d:D)(Q:AR->Prop)(k:Prop):excA (.peek d) Q k=k:=rfl
theorem qsg(n:Str)(Q:AR->Prop)(k:Prop):excA (.exc n) Q k=Q (.exc n):=rfl
theorem qsm(τ:VSt)(Dv:VEnds)(d:D)(k:Prop):exS τ Dv (.val d) k=k:=rfl
theorem qsl(τ:VSt)(Dv:VEnds)(d:D)(k:Prop):exS τ Dv (.own d) k=k:=rfl
theorem qom(τ:VSt)(Dv:VEnds)(d:D)(k:Prop):exS τ Dv (.peek d) k=k:=rfl
theorem qsk(τ:VSt)(Dv:VEnds)(n:Str)(k:Prop):exS τ Dv (.exc n) k=Dv.xc τ n:=rfl
theorem qx6(ds:List D)(Q:R->Prop)(k:List D->Prop):exA (.ok ds) Q k=k ds:=rfl
theorem qk9(n:Str)(Q:R->Prop)(k:List D->Prop):exA (.exc n) Q k=Q (.exc n):=rfl
theorem qx7(τ:VSt)(Dv:VEnds)(ds:List D)(k:List D->Prop):exI τ Dv (.ok ds) k=k ds:=rfl
theorem qsj(τ:VSt)(Dv:VEnds)(n:Str)(k:List D->Prop):exI τ Dv (.exc n) k=Dv.xc τ n:=rfl
theorem qtb(d:D)(ds:List D):q0b d (.ok ds)=.ok (d::ds):=rfl
theorem qo2(d:D)(n:Str):q0b d (.exc n)=.exc n:=rfl
theorem qyr(d:D):(R.val d).d=d:=rfl
theorem qyq(d:D):(R.own d).d=d:=rfl
theorem qtz(d:D):(R.peek d).d=d:=rfl
theorem qyp(n:Str):(R.exc n).d=.scr []:=rfl
theorem qfe{t u:TVS}{Dv:VEnds}{τ:VSt}(h:t { nx:=u Dv,rt:=Dv.rt,bk:=Dv.bk,ct:=Dv.ct,xc:=Dv.xc,ro:=Dv.ro,rn:=Dv.rn } τ):vSeq t u Dv τ:=h
end L2
namespace L2
open PySem PySem.Spec PyProof.Rows
def lkD:List (List Str)->List D->List Str->Option D
|k::ks,d::ds,w=>if k=w then some d else lkD ks ds w
|_,_,_=>none
def lkK:List Str->List D->Str->Option D
|k::ks,d::ds,w=>if k=w then some d else lkK ks ds w
|_,_,_=>none
def rpD:List (List Str)->List D->List Str->D->List D
|k::ks,e::ds,w,d=>(if k=w then d else e)::rpD ks ds w d
|_,_,_,_=>[]
def putD(ks:List (List Str))(ds:List D)(w:List Str)(d:D):D:=if w∈ks then .dT ks (rpD ks ds w d) else .dT (ks++[w]) (ds++[d])
theorem quy{a b:List Str}(h:wK a=wK b):a=b:=by
 unfold wK at h
 induction a generalizing b with
|nil=>cases b with
 |nil=>rfl
 |cons _ _=>cases h
|cons x a ih=>cases b with
 |nil=>cases h
 |cons y b =>
   injection h with h1 h2
   injection h1 with h1
   rw[h1,ih h2]
theorem qn5(w:List Str):(wK w).map kV=w.map V.str:=by
 unfold wK
 rw[List.map_map]
 rfl
section
variable {K:PySem.W.Frag} {B H:Hp} {d:D} {r:R} {v:V}
theorem DGet.tR{H:Hp}{a b:Addr}{kvs:List (List Key×V)}{k:List Key}(e:Rd H a (.dT kvs))(eb:H b=some (.tup (k.map kV))):DGet H a (.ref b) (valV kvs k):=.inr ⟨kvs,k,b,e,rfl,eb,rfl⟩
theorem Pk.dT{ks:List (List Str)}{ds:List D}(s:Same B H)(h:Pk K B H r v)(e:r.d=.dT ks ds):∃a kvs,v=.ref a/\Rd H a (.dT kvs)/\kvs.map (·.1)=ks.map wK/\Reps K B ds (kvs.map (·.2)):=by
 cases r with
|val d =>
  cases (show d=_ from e)
  have h':Rep K B (.dT ks ds) v:=h
  unfold Rep at h'
  obtain⟨a,xs,rfl,q,k,rp⟩:=h'
  exact⟨a,xs,rfl,q.elim (λq=>.inl (s _ _ q)) λ⟨o,q⟩=>.inr ⟨o,s _ _ q⟩,k,rp⟩
|own d=>cases (show d=_ from e);obtain⟨a,rfl,_,xs,q,k,rp⟩:=h;exact⟨a,xs,rfl,.inl q,k,rp⟩
|peek d=>cases (show d=_ from e);obtain⟨a,rfl,_,xs,q,k,rp⟩:=h;exact⟨a,xs,rfl,.inl q,k,rp⟩
|exc n=>exact h.elim
theorem Pk.dK{ks:List Str}{ds:List D}(s:Same B H)(h:Pk K B H r v)(e:r.d=.dK ks ds):∃a kvs,v=.ref a/\H a=some (.dK kvs)/\kvs.map (·.1)=ks.map Sum.inr/\Reps K B ds (kvs.map (·.2)):=by
 cases r with
|val d =>
  cases (show d=_ from e)
  have h':Rep K B (.dK ks ds) v:=h
  unfold Rep at h'
  obtain⟨a,xs,rfl,q,k,rp⟩:=h'
  exact⟨a,xs,rfl,s _ _ q,k,rp⟩
|own d=>cases (show d=_ from e);obtain⟨a,rfl,_,xs,q,k,rp⟩:=h;exact⟨a,xs,rfl,q,k,rp⟩
|peek d=>cases (show d=_ from e);obtain⟨a,rfl,_,xs,q,k,rp⟩:=h;exact⟨a,xs,rfl,q,k,rp⟩
|exc n=>exact h.elim
theorem qzg{w:List Str}(t:w.map D.str=[.str "folder",.str ""]):w=(["folder",""]:List Str):=by
 cases w with
|nil=>cases t
|cons x w =>
  cases w with
 |nil=>cases t
 |cons y w =>
   cases w with
  |nil =>
    simp only[List.map_cons,List.map_nil,List.cons.injEq,D.str.injEq,and_true] at t
    rw[t.1,t.2]
  |cons z w=>cases t
theorem Pk.wayN{w:List Str}(h:Pk K B H r v)(e:r.d=.tup (w.map D.str))(n:w≠(["folder",""]:List Str)):∃a,v=.ref a/\B a=some (.tup (w.map V.str)):=by
 obtain⟨a,xs,rfl,t,rp⟩:=h.tup e
 refine⟨a,rfl,?_⟩
 rw[←rp.strs]
 rcases t with t|⟨_,t⟩
 ·exact t
 ·exact absurd (qzg t) n
theorem Pk.way{w:List Str}(h:Pk K B H r v)(e:r.d=.tup (w.map D.str))(n:("" : Str)∉w):∃a,v=.ref a/\B a=some (.tup (w.map V.str)):=h.wayN e λq=>n (by rw[q];simp)
theorem qox:∀ {ks:List (List Str)} {ds:List D} {kvs:List (List Key×V)} (w:List Str),kvs.map (·.1)=ks.map wK->Reps K B ds (kvs.map (·.2))->(lkD ks ds w=none/\valV kvs (wK w)=none)\/∃d v,lkD ks ds w=some d/\valV kvs (wK w)=some v/\Rep K B d v
|[],ds,kvs,w,h1,h2=>by
  have e:kvs=[]:=by simpa using h1
  subst e
  exact .inl ⟨by unfold lkD;rfl,rfl⟩
|k::ks,ds,[],w,h1,h2=>by cases h1
|k::ks,[],p::kvs,w,h1,h2=>by
  unfold Reps at h2
  cases h2
|k::ks,d::ds,p::kvs,w,h1,h2=>by
  injection h1 with e1 e2
  have e1:p.1=wK k:=e1
  unfold Reps at h2
  obtain⟨x,r,q,r1,r2⟩:=h2
  injection q with q1 q2
  subst q1 q2
  unfold lkD
  by_cases e:k=w
  ·rw[if_pos e,qfv (by rw[e1,e])]
   exact .inr ⟨d,p.2,rfl,rfl,r1⟩
  ·rw[if_neg e,qfu (λz=>e (quy (e1.symm.trans z)))]
   exact qox w e2 r2
theorem qjs:∀ {ks:List Str} {ds:List D} {kvs:List (Key×V)} (w:Str),kvs.map (·.1)=ks.map Sum.inr->Reps K B ds (kvs.map (·.2))->(lkK ks ds w=none/\valV kvs (Sum.inr w)=none)\/∃d v,lkK ks ds w=some d/\valV kvs (Sum.inr w)=some v/\Rep K B d v
|[],ds,kvs,w,h1,h2=>by
  have e:kvs=[]:=by simpa using h1
  subst e
  exact .inl ⟨by unfold lkK;rfl,rfl⟩
|k::ks,ds,[],w,h1,h2=>by cases h1
|k::ks,[],p::kvs,w,h1,h2=>by
  unfold Reps at h2
  cases h2
|k::ks,d::ds,p::kvs,w,h1,h2=>by
  injection h1 with e1 e2
  have e1:p.1=Sum.inr k:=e1
  unfold Reps at h2
  obtain⟨x,r,q,r1,r2⟩:=h2
  injection q with q1 q2
  subst q1 q2
  unfold lkK
  by_cases e:k=w
  ·rw[if_pos e,qfv (by rw[e1,e])]
   exact .inr ⟨d,p.2,rfl,rfl,r1⟩
  ·rw[if_neg e,qfu (λz=>e (Sum.inr.inj (e1.symm.trans z)))]
   exact qjs w e2 r2
theorem q08{ks:List (List Str)}{ds:List D}{kvs:List (List Key×V)}(w:List Str){d:D}{v:V}(h1:kvs.map (·.1)=ks.map wK)(h2:Reps K B ds (kvs.map (·.2)))(hd:Rep K B d v) :
  ∃ks' ds',putD ks ds w d=.dT ks' ds'/\(putK kvs (wK w) v).map (·.1)=ks'.map wK/\Reps K B ds' ((putK kvs (wK w) v).map (·.2)):=by
 have hany:(kvs.any λkv=>decide (kv.1=wK w))=decide (w∈ks):=by
  apply qbc
  rw[List.any_eq_true,decide_eq_true_iff]
  constructor
  ·rintro⟨p,hp,e⟩
   have:p.1∈kvs.map (·.1):=List.mem_map_of_mem hp
   rw[h1,of_decide_eq_true e] at this
   obtain⟨k,hk,ek⟩:=List.mem_map.mp this
   rw[←quy ek]
   exact hk
  ·intro hw
   have:wK w∈kvs.map (·.1):=by rw[h1];exact List.mem_map_of_mem hw
   obtain⟨p,hp,e⟩:=List.mem_map.mp this
   exact⟨p,hp,decide_eq_true e⟩
 unfold putD putK
 rw[hany]
 by_cases hw:w∈ks
 ·rw[if_pos hw,if_pos (decide_eq_true hw)]
  refine⟨ks,_,rfl,?_,?_⟩
  ·rw[←h1,List.map_map]
   refine List.map_congr_left λp _=>?_
   show (if p.1=wK w then (p.1,v) else p).1=p.1
   split<;>rfl
  ·clear hany hw
   induction kvs generalizing ks ds with
  |nil =>
    have e:ks=[]:=by simpa using h1.symm
    subst e
    unfold rpD
    exact .nil
  |cons p kvs ih =>
    cases ks with
   |nil=>cases h1
   |cons k ks =>
     cases ds with
    |nil=>unfold Reps at h2;cases h2
    |cons e ds =>
      injection h1 with e1 e2
      have e1:p.1=wK k:=e1
      unfold Reps at h2
      obtain⟨x,r,q,r1,r2⟩:=h2
      injection q with q1 q2
      subst q1 q2
      unfold rpD
      refine .cons ?_ (ih e2 r2)
      by_cases ek:k=w
      ·rw[if_pos ek]
       show Rep K B d (if p.1=wK w then (p.1,v) else p).2
       rw[if_pos (by rw[e1,ek])]
       exact hd
      ·rw[if_neg ek]
       show Rep K B e (if p.1=wK w then (p.1,v) else p).2
       rw[if_neg (λz=>ek (quy (e1.symm.trans z)))]
       exact r1
 ·rw[if_neg hw,if_neg (by simpa using hw)]
  refine⟨_,_,rfl,?_,?_⟩
  ·rw[List.map_append,List.map_append,h1]
   rfl
  ·rw[List.map_append]
   exact h2.append (.one hd)
end
section
variable {X:Cx} {EX:St->XK} {e a o i:Expr} {te ta to ti:TV} {pos pos' p p2 apos cpos:Pos} {x:Str} {f:Expr} {tf:TV}
def qge(to ti:TV):TV:=λτ Q=>to τ λrx=>exR rx (λ_=>False) <| ti τ λry=>match rx.d,ry.d with
|.dT ks ds,.tup es=>∃w d,es=w.map D.str/\("" : Str)∉w/\lkD ks ds w=some d/\Q (.val d)
|.dK ks ds,.str z=>∃d,lkK ks ds z=some d/\Q (.val d)
|_,_=>False
theorem qds(hu:X.A.units+64<cLine)(ho:VE X EX o to)(hi:VE X EX i ti)(hs:NoSl i:=by exact λ_ _=>rfl):VE X EX (.Subscript o i pos) (qge to ti) :=
 let ⟨_,a1,a2⟩:=ho.u;let ⟨_,b1,b2⟩:=hi.u;⟨_,q1f (by lia) a1 b1 hs,λH0 B H τ σ Q Qd s S h xc k=>a2 H0 B H τ σ _ _ s S h (xno λ_ q=>q) λrx x B1 H1 p1 q1 h1=>b2 H0 B1 H1 τ σ _ _ p1.s (S.step p1) (q1.ok h1) (xno λ_ q=>by revert q;cases rx.d<;>exact λz=>z) λry y B2 H2 p2 q2 h2=>by
  have px:=q1.pk.step p2
  split at h2
  ·rename_i ks ds es e1 e2
   obtain⟨w,d,rfl,hn,hl,hq⟩:=h2
   obtain⟨ad,kvs,rfl,hd,hk,hr⟩:=px.dT p2.s e1
   obtain⟨b,rfl,hb⟩:=q2.pk.way e2 hn
   rcases qox w hk hr with ⟨z,_⟩|⟨d',v,z,hv,rp⟩
   ·rw[z] at hl;cases hl
   ·rw[z] at hl;cases hl
    exact⟨ad,v,rfl,hv▸DGet.tR hd (by rw[qn5];exact p2.s _ _ hb),k (.val d) _ B2 H2 (p1.trans p2) rp hq⟩
  ·rename_i ks ds z e1 e2
   obtain⟨d,hl,hq⟩:=h2
   obtain⟨ad,kvs,rfl,hd,hk,hr⟩:=px.dK p2.s e1
   cases q2.pk.scal (z:=.str z) (by rw[e2];rfl)
   rcases qjs z hk hr with ⟨w,_⟩|⟨d',v,w,hv,rp⟩
   ·rw[w] at hl;cases hl
   ·rw[w] at hl;cases hl
    exact⟨ad,v,rfl,hv▸DGet.k (k:=Sum.inr z) hd,k (.val d) _ B2 H2 (p1.trans p2) rp hq⟩
  ·exact h2.elim⟩
def vDIn(g:Bool->Bool)(ti to:TV):TV:=λτ Q=>ti τ λry=>exR ry (λ_=>False) <| to τ λrx=>match rx.d,ry.d with
|.dT ks ds,.tup es=>∃w,es=w.map D.str/\("" : Str)∉w/\Q (.val (.bl (g (lkD ks ds w).isSome)))
|.dK ks ds,.str z=>Q (.val (.bl (g (lkK ks ds z).isSome)))
|_,_=>False
theorem qs6{K:PySem.W.Frag}{B:Hp}{ks:List (List Str)}{ds:List D}{kvs:List (List Key×V)}(w:List Str)(h1:kvs.map (·.1)=ks.map wK)(h2:Reps K B ds (kvs.map (·.2))):(valV kvs (wK w)).isSome=(lkD ks ds w).isSome:=by
 rcases qox w h1 h2 with ⟨z,y⟩|⟨d',v,z,y,_⟩<;>rw[z,y]<;>rfl
theorem qqg{K:PySem.W.Frag}{B:Hp}{ks:List Str}{ds:List D}{kvs:List (Key×V)}(w:Str)(h1:kvs.map (·.1)=ks.map Sum.inr)(h2:Reps K B ds (kvs.map (·.2))):(valV kvs (Sum.inr w)).isSome=(lkK ks ds w).isSome:=by
 rcases qjs w h1 h2 with ⟨z,y⟩|⟨d',v,z,y,_⟩<;>rw[z,y]<;>rfl
theorem qys{K:PySem.W.Frag}{eo ei:TE}(g:Bool->Bool)(ho:RfE K EX eo to)(hi:RfE K EX ei ti):RfE K EX (λσ H Q=>ei σ H λy H1=>eo σ H1 λx H2=>∃a o,x=.ref a/\DGet H2 a y o/\Q (.bl (g o.isSome)) H2) (vDIn g ti to):=λH0 B H τ σ Q Qd s S h xc k =>
 hi H0 B H τ σ _ _ s S h (xno λ_ q=>q) λry y B1 H1 p1 q1 h1=>ho H0 B1 H1 τ σ _ _ p1.s (S.step p1) (q1.ok h1) (xno λ_ q=>q) λrx x B2 H2 p2 q2 h2=>by
  have py:=q1.pk.step p2
  split at h2
  ·rename_i ks ds es e1 e2
   obtain⟨w,rfl,hn,hq⟩:=h2
   obtain⟨ad,kvs,rfl,hd,hk,hr⟩:=q2.pk.dT p2.s e1
   obtain⟨b,rfl,hb⟩:=py.way e2 hn
   refine⟨ad,_,rfl,DGet.tR (k:=wK w) hd (by rw[qn5];exact p2.s _ _ hb),?_⟩
   rw[qs6 w hk hr]
   exact k _ _ B2 H2 (p1.trans p2) (repV rfl) hq
  ·rename_i ks ds z e1 e2
   obtain⟨ad,kvs,rfl,hd,hk,hr⟩:=q2.pk.dK p2.s e1
   cases py.scal (z:=.str z) (by rw[e2];rfl)
   refine⟨ad,_,rfl,DGet.k (k:=Sum.inr z) hd,?_⟩
   rw[qqg z hk hr]
   exact k _ _ B2 H2 (p1.trans p2) (repV rfl) h2
  ·exact h2.elim
theorem q54(hu:X.A.units+64<cLine)(hi:VE X EX i ti)(ho:VE X EX o to)(hm:behindInMarks .In o=false:=by with_unfolding_all rfl):VT X EX (.Compare i [.In] [o] pos) (vBl (vDIn id ti to)) :=
 let ⟨_,a1,a2⟩:=ho.u;let ⟨_,b1,b2⟩:=hi.u;⟨_,q44 (by lia) b1 a1 hm,qt0 (qys id a2 b2)⟩
theorem qmf(hu:X.A.units+64<cLine)(hi:VE X EX i ti)(ho:VE X EX o to)(hm:behindInMarks .NotIn o=false:=by with_unfolding_all rfl):VT X EX (.Compare i [.NotIn] [o] pos) (vBl (vDIn (!·) ti to)) :=
 let ⟨_,a1,a2⟩:=ho.u;let ⟨_,b1,b2⟩:=hi.u;⟨_,qtx (by lia) b1 a1 hm,qt0 (qys (!·) a2 b2)⟩
def qpl(to ti:TV):TV:=λτ Q=>to τ λrx=>match rx.d with
|.dT ks ds=>ti τ λry=>∃w,ry.d=.tup (w.map D.str)/\("" : Str)∉w/\Q (.val ((lkD ks ds w).getD .non))
|.dK ks ds=>ti τ λry=>∃z,ry.d=.str z/\Q (.val ((lkK ks ds z).getD .non))
|_=>False
theorem qxl(hu:X.A.units+64<cLine)(ho:VE X EX o to)(hi:VE X EX e ti)(m:M1 X o "get" apos e cpos:=by exact⟨rfl,rfl,rfl,rfl⟩):VE X EX (.Call (.Attribute o "get" apos) [e] [] cpos) (qpl to ti) :=
 let ⟨_,a1,a2⟩:=ho.u;let ⟨_,b1,b2⟩:=hi.u;⟨_,qwq (by lia) a1 b1 m,λH0 B H τ σ Q Qd s S h xc k=>a2 H0 B H τ σ _ _ s S h (xno λ_ q=>q) λrx x B1 H1 p1 q1 h1=>by
  split at h1
  ·rename_i ks ds e1
   obtain⟨ad,kvs,rfl,hd,_,_⟩:=q1.pk.dT p1.s e1
   refine⟨ad,rfl,.inr ⟨kvs,hd⟩,b2 H0 B1 H1 τ σ _ _ p1.s (S.step p1) h1 (xno λ_ ⟨_,q,_⟩=>by cases q) λry y B2 H2 p2 q2 h2=>?_⟩
   obtain⟨w,e2,hn,hq⟩:=h2
   obtain⟨ad',kvs',ea,hd',hk,hr⟩:=(q1.pk.step p2).dT p2.s e1
   cases ea
   obtain⟨b,rfl,hb⟩:=q2.pk.way e2 hn
   refine⟨_,DGet.tR (k:=wK w) hd' (by rw[qn5];exact p2.s _ _ hb),?_⟩
   rcases qox w hk hr with ⟨z,y⟩|⟨d',v,z,y,rp⟩
   ·rw[y];rw[z] at hq
    exact k (.val .non) _ B2 H2 (p1.trans p2) (repV rfl) hq
   ·rw[y];rw[z] at hq
    exact k (.val d') _ B2 H2 (p1.trans p2) rp hq
  ·rename_i ks ds e1
   obtain⟨ad,kvs,rfl,hd,_,_⟩:=q1.pk.dK p1.s e1
   refine⟨ad,rfl,.inl ⟨kvs,.inl hd⟩,b2 H0 B1 H1 τ σ _ _ p1.s (S.step p1) h1 (xno λ_ ⟨_,q,_⟩=>by cases q) λry y B2 H2 p2 q2 h2=>?_⟩
   obtain⟨w,e2,hq⟩:=h2
   obtain⟨ad',kvs',ea,hd',hk,hr⟩:=(q1.pk.step p2).dK p2.s e1
   cases ea
   cases q2.pk.scal (z:=.str w) (by rw[e2];rfl)
   refine⟨_,DGet.k (k:=Sum.inr w) hd',?_⟩
   rcases qjs w hk hr with ⟨z,y⟩|⟨d',v,z,y,rp⟩
   ·rw[y];rw[z] at hq
    exact k (.val .non) _ B2 H2 (p1.trans p2) (repV rfl) hq
   ·rw[y];rw[z] at hq
    exact k (.val d') _ B2 H2 (p1.trans p2) rp hq
  ·exact h1.elim⟩
def ql8:TV:=λ_ Q=>Q (.own (.dT [] []))
theorem qpo:VE X EX (.Dict [] [] pos) ql8:=⟨_,qws,λ_ B H _ _ _ _ s _ h _ k p hp=>k (.own (.dT [] [])) _ B _ (.grow s (qav hp _)) ⟨p,rfl,hp,s.free hp,[],qaw,rfl,.nil⟩ h⟩
def ownT(τ:VSt)(i:Nat)(Q:List (List Str)->List D->Prop):Prop:=match τ[i]? with
|some (some (.own (.dT ks ds)))=>Q ks ds
|_=>False
theorem q0p{τ:VSt}{i:Nat}{Q:List (List Str)->List D->Prop}(h:ownT τ i Q):∃ks ds,τ[i]?=some (some (.own (.dT ks ds)))/\Q ks ds:=by
 unfold ownT at h
 split at h
 ·exact⟨_,_,by assumption,h⟩
 ·exact h.elim
def qn2(i:Nat)(tk te:TV):TVS:=λDv τ=>ownT τ i λks ds=>te τ λr=>exS τ Dv r <| pubR r λd=>tk τ λrk=>match rk.d with
|.tup es=>∃w,es=w.map D.str/\("" : Str)∉w/\ks.length<sizeLine/\Dv.nx (τ.set i (some (.own (putD ks ds w d))))
|_=>False
theorem qkr{ek:Expr}{tk:TV}(i:Nat)(hu:X.A.units+64<cLine)(hk:VE X EX ek tk)(h:VE X EX e te)(hN:X.N[i]?=some x:=by rfl)(hv:Vis X.env.scope x:=by first|exact Or.inl rfl|exact Or.inr (Or.inl rfl)|exact Or.inr (Or.inr rfl))(hd:(x==("__debug__" : Str))=false:=by decide)
  (hcd:(x==("__classdict__" : Str))=false:=by decide) (hs:swapsWith e (some (.Subscript (.Name x p) ek p2)) pos.line X.env=pure false:=by rfl):VS X EX (.Assign [.Subscript (.Name x p) ek p2] e pos) (qn2 i tk te) :=
 let ⟨_,a1,a2⟩:=h.u;let ⟨_,b1,b2⟩:=hk.u;⟨_,q1m (by lia) (qv i hN hv hd hcd) b1 a1 hs,λB0 H0 B H τ σ Dv Dh p S h E=>by
  obtain⟨ks,ds,e1,h⟩:=q0p h
  obtain⟨ad,e2,_,_,_⟩:=S.own i _ e1
  refine a2 H0 B H τ σ _ _ p.s S h (E.raised p S) λr v B' H' q hr hq=>?_
  obtain⟨d,B2,q2,_,rp,hn⟩:=pub q hr (hr.okS hq)
  refine⟨.ref ad,e2,b2 H0 B2 H' τ σ _ _ q2.s (S.step q2) hn (xno λ_ q=>q) λrk vk B3 H3 q3 hk hh=>?_⟩
  split at hh
  ·rename_i es ek
   obtain⟨w,rfl,hne,hz,hn⟩:=hh
   obtain⟨b,rfl,hb⟩:=hk.pk.way ek hne
   have qq:=q2.trans q3
   have S3:=S.step qq
   obtain⟨a',f1,h0,hbb,kvs,f4,f5,f6⟩:=S3.own i _ e1
   rw[e2] at f1
   cases f1
   have hl:kvs.length<sizeLine:=by
    have:kvs.length=ks.length:=by simpa using congrArg List.length f5
    lia
   refine⟨ad,_,rfl,DPut.t (k:=wK w) f4 (by rw[qn5];exact q3.s _ _ hb) hl,?_⟩
   obtain⟨ks',ds',ep,g1,g2⟩:=q08 w f5 f6 (rp.same q3.b)
   rw[ep] at hn
   exact E.nx B3 _ _ σ ((p.trans qq).upd h0 hbb) (S3.upd (d:=.dT ks' ds') e1 e2 ⟨_,qaw,g1,g2⟩) hn
  ·exact hh.elim⟩
end
def qbf(kds:List (List Str×D)):D:=.dT (kds.map (·.1)) (kds.map (·.2))
def lkP(kds:List (List Str×D))(w:List Str):Option D:=(kds.find? λp=>decide (p.1=w)).map (·.2)
def insP(kds:List (List Str×D))(w:List Str)(d:D):List (List Str×D):=if w∈kds.map (·.1) then kds.map (λp=>if p.1=w then (p.1,d) else p) else kds++[(w,d)]
theorem qb2(kds:List (List Str×D))(w:List Str):lkD (kds.map (·.1)) (kds.map (·.2)) w=lkP kds w:=by
 induction kds with
|nil=>unfold lkP;simp[lkD]
|cons p kds ih =>
  rw[List.map_cons,List.map_cons]
  unfold lkD
  unfold lkP at ih ⊢
  by_cases e:p.1=w
  ·rw[if_pos e,List.find?_cons,decide_eq_true e]
   rfl
  ·rw[if_neg e,ih,List.find?_cons,decide_eq_false e]
theorem qew(kds:List (List Str×D))(w:List Str)(d:D):putD (kds.map (·.1)) (kds.map (·.2)) w d=qbf (insP kds w d):=by
 unfold putD insP qbf
 by_cases h:w∈kds.map (·.1)
 ·rw[if_pos h,if_pos h]
  congr 1
  ·rw[List.map_map]
   refine(List.map_congr_left λp _=>?_).symm
   show (if p.1=w then (p.1,d) else p).1=p.1
   split<;>rfl
  ·clear h
   induction kds with
  |nil=>rfl
  |cons p kds ih =>
    rw[List.map_cons,List.map_cons,List.map_cons,List.map_cons]
    unfold rpD
    rw[ih]
    congr 1
    split<;>rfl
 ·rw[if_neg h,if_neg h,List.map_append,List.map_append]
  rfl
end L2
namespace PySem
open PySem Calls PyProof.Rows PyProof.V PySem.Spec
def RawD(h:Heap)(d:Addr)(es:Array DictEntry)(ep:Nat):Prop:=∃o,h.get? d=some o/\o.ExactDict/\o.data=.dict es ep
section
variable {prog:Program} {w:World} {A:Around} {E:Value->Shared->Prop} {s:Shared} {d it:Addr} {es:Array DictEntry} {ep i:Nat}
theorem RawD.typeIs(x:RawD s.heap d es ep):s.TypeIs (.ref d) "dict" := let ⟨o,h1,h2,_⟩:=x;⟨o,h1,h2.1⟩
theorem RawD.keep{h h':Heap}(x:RawD h d es ep)(k:∀o,h.get? d=some o->h'.get? d=some o):RawD h' d es ep:=let ⟨o,h1,r⟩:=x;⟨o,k o h1,r⟩
theorem qpb{Q:Value->Shared->Prop}(no:(d==sysModules)=false)(x:RawD s.heap d es ep)
  (fin:Q (.ref s.heap.objs.size) { s with heap:=s.heap.push { cls:=.type "dict_keyiterator",data:=.fields #[.ref d,.int 0 0,.int es.size 0,.int ep 0] } }):wpAny (model prog w) A (pyIter (.ref d)) Q E s:=by
 have T:=x.typeIs
 obtain⟨o,h1,_,h2⟩:=x
 refine wpAny_pyIter_slot T F.slot_dict_iter (wpAny_call_entry F.slot_dict_iter T F.entry_dict_iter ?_ (F.args_dict_iter_1 _))
 unfold Builtin.«dict.__iter__» Builtin.Dict.dictSlotNone
 refine wpAny_bind (wpAny_bind (wpAny_notOrdered_dict T (show wpAny _ _ (pure (Value.ref d)) _ _ s from wpAny_pure ?_)))
 show wpAny _ _ (Builtin.Dict.showsAll d >>= λ_=>_) _ _ s
 unfold Builtin.Dict.showsAll
 rw[no,if_neg Bool.false_ne_true]
 refine wpAny_bind (wpAny_pure (wpAny_bind (wpAny_dictEntries h1 h2 (wpAny_bind (wpAny_dictEpoch h1 h2 (wpAny_bind (wpAny_newObj_type (wpAny_pure ⟨_,rfl,"dict_keyiterator",_,⟨_,Heap.get?_push_size _ rfl,rfl⟩,F.slot_dict_keyiterator_next.lookup,?_⟩))))))))
 simpa [rawInt] using fin
theorem qes{Q:String->Shared->Prop}(h:s.TypeIs (.ref it) "dict_keyiterator")(q:Q "dict_keyiterator" s):wpAny (model prog w) A (typeNameOfWhole (.ref it)) Q E s:=wpAny_typeNameOfWhole_keyiter h q
theorem qpa{Q:Option Value->Shared->Prop}{ky:Value}(K:s.heap.IsKeyIter it d i es.size ep)(x:RawD s.heap d es ep)(hk:es[i]?.map (·.key)=some ky)
  (fin:∀h',h'.IsKeyIter it d (i+1) es.size ep->Heap.SameBut it s.heap h'->Q (some ky) { s with heap:=h' }):wpAny (model prog w) A (pyNext (.ref it)) Q E s:=by
 have T:=K.typeIs
 obtain⟨oi,g1,g2,g3⟩:=K
 obtain⟨o,h1,_,h2⟩:=x
 have lt:i<es.size:=by
  apply Classical.byContradiction
  intro z
  rw[Array.getElem?_eq_none (by lia)] at hk
  cases hk
 have ek:es[i].key=ky:=by
  rw[Array.getElem?_eq_getElem lt] at hk
  exact Option.some.inj hk
 have no:Builtin.Dict_items.ownsTuple "dict_keyiterator" = false:=by decide
 unfold pyNext
 refine wpAny_bind (wpAny_attempt (wpAny_callSpecial?_slot (name:=Str.ofString "__next__") T F.slot_dict_keyiterator_next (wpAny_call_entry F.slot_dict_keyiterator_next T F.entry_dict_keyiterator_next (wpAny_bind (wpAny_pure (wpAny_bind (wpAny_bind ?_)))) (F.args_dict_keyiterator_next_1 _))))
 refine wpAny_bind (qes T (wpAny_pure (wpAny_bind (wpAny_fieldsOf g1 g3 ?_))))
 simp only[no,Bool.false_eq_true,if_false]
 show wpAny _ _ (ite ((Value.ref d==Value.none)=true) _ _) _ _ s
 rw[if_neg (show ¬ (Value.ref d==Value.none)=true from λz=>by cases z)]
 refine wpAny_bind (wpAny_pure (wpAny_bind (wpAny_dictEntries h1 h2 ?_)))
 rw[if_neg (λz=>by simp at z)]
 refine wpAny_bind (wpAny_pure (wpAny_bind (wpAny_dictEpoch h1 h2 ?_)))
 rw[if_neg (λz=>by simp at z)]
 refine wpAny_pure ?_
 simp only[show ¬ (i:Int)<0 from by lia,if_false,Int.toNat_natCast,Array.getElem?_eq_getElem lt]
 refine wpAny_bind (wpAny_bind (qes T (wpAny_pure (wpAny_bind (wpAny_isOneOf_keyiter T ?_)))))
 show wpAny _ _ (setField (.ref it) 1 (rawInt ((i:Int)+1)) >>= λ_=>_) _ _ s
 have K2:(s.heap.update it (Obj.mapFields (·.setIfInBounds 1 (rawInt ((i:Int)+1))))).IsKeyIter it d (i+1) es.size ep:=⟨_,Heap.get?_update_self _ g1 (Obj.isFreed_of_fields (Obj.data_mapFields g3 _)),(Obj.cls_mapFields ..).trans g2,by
  rw[Obj.data_mapFields g3]
  simp[rawInt]⟩
 refine wpAny_bind (wpAny_setField g1 g3 (by simp) (wpAny_bind (wpAny_holding (wpAny_bind (wpAny_isOneOf_keyiter (s:={ s with heap:=s.heap.update it (Obj.mapFields (·.setIfInBounds 1 (rawInt ((i:Int)+1)))) }) K2.typeIs ?_)))))
 show wpAny _ _ (pure (es[i].key)) _ _ _
 rw[ek]
 exact wpAny_pure (wpAny_pure ⟨_,rfl,wpAny_pure (fin _ K2 (Heap.SameBut.update ..))⟩)
theorem qty{Q:Option Value->Shared->Prop}(hh:A.handled=none)(K:s.heap.IsKeyIter it d i es.size ep)(x:RawD s.heap d es ep)(ge:es.size<=i)(fin:∀h',Heap.ExtBut it s.heap h'->Q none { s with heap:=h' }) :
  wpAny (model prog w) A (pyNext (.ref it)) Q E s:=by
 have T:=K.typeIs
 obtain⟨oi,g1,g2,g3⟩:=K
 obtain⟨o,h1,_,h2⟩:=x
 have no:Builtin.Dict_items.ownsTuple "dict_keyiterator" = false:=by decide
 unfold pyNext
 refine wpAny_bind (wpAny_attempt (wpAny_callSpecial?_slot (name:=Str.ofString "__next__") T F.slot_dict_keyiterator_next (wpAny_call_entry F.slot_dict_keyiterator_next T F.entry_dict_keyiterator_next (wpAny_bind (wpAny_pure (wpAny_bind (wpAny_bind ?_)))) (F.args_dict_keyiterator_next_1 _))))
 refine wpAny_bind (qes T (wpAny_pure (wpAny_bind (wpAny_fieldsOf g1 g3 ?_))))
 simp only[no,Bool.false_eq_true,if_false]
 show wpAny _ _ (ite ((Value.ref d==Value.none)=true) _ _) _ _ s
 rw[if_neg (show ¬ (Value.ref d==Value.none)=true from λz=>by cases z)]
 refine wpAny_bind (wpAny_pure (wpAny_bind (wpAny_dictEntries h1 h2 ?_)))
 rw[if_neg (λz=>by simp at z)]
 refine wpAny_bind (wpAny_pure (wpAny_bind (wpAny_dictEpoch h1 h2 ?_)))
 rw[if_neg (λz=>by simp at z)]
 refine wpAny_pure ?_
 simp only[show ¬ (i:Int)<0 from by lia,if_false,Int.toNat_natCast,Array.getElem?_eq_none ge]
 refine wpAny_bind (wpAny_bind (qes T (wpAny_pure ?_)))
 show wpAny _ _ (setField (.ref it) 0 .none >>= λ_=>_) _ _ s
 refine wpAny_bind (wpAny_setField g1 g3 (by simp) ?_)
 show wpAny _ _ (newExc (.type "StopIteration") [] >>= λ_=>_) _ _ _
 refine wpAny_bind ?_
 simp only[newExc,newTuple]
 refine wpAny_bind (wpAny_newObj_type (wpAny_bind (m:=firstArgMember _ _) (wpAny_of_eq (a:=Value.none) (by first|rfl|(simp only[firstArgMember];rfl)) (wpAny_newObj_type ?_ (by size_fits)))) (by size_fits))
 simp only[raiseNew]
 refine(wpAny_bind (wpAny_handled ?_))
 rw[(show A.in1.handled=none from hh)]
 refine(wpAny_bind (wpAny_pure (wpAny_throw ?_)))
 exact wpAny_bind (wpAny_isInstance (T:="StopIteration") (b:=true) ⟨_,Heap.get?_push_size _ rfl,rfl⟩ isSubtype_stop (wpAny_pure (fin _ (((Heap.SameBut.update ..).extBut.push _).push _))))
theorem qu8(hh:A.handled=none)(I d:Addr)(ne:d≠I)(es:Array DictEntry)(ep:Nat) :
  Walks prog w A I [I,d] [I] es.size (λi v=>es[i]?.map (·.key)=some v) (λi h=>h.IsKeyIter I d i es.size ep/\RawD h d es ep) where
 sub:=λb hb=>by
  cases List.mem_singleton.mp hb
  exact List.mem_cons_self ..
 frame:=λ_ _ _ st k=>⟨st.1.at λo e=>k I (List.mem_cons_self ..) o e,st.2.keep λo e=>k d (by simp) o e⟩
 item:=λi s Q E lt st fin=>by
  have e:es[i]?.map (·.key)=some es[i].key:=by rw[Array.getElem?_eq_getElem lt];rfl
  exact qpa st.1 st.2 e λh' K' sb=>fin _ h' s.toks e ⟨K',st.2.keep λo z=>sb.extBut d o ne z⟩ λb o nb z=>sb.extBut b o (λy=>nb (by simp[y])) z
 done:=λs Q E st fin=>qty hh st.1 st.2 (Nat.le_refl _) λh' x=>fin h' s.toks λb o nb z=>x b o (λy=>nb (by simp[y])) z
 self:=λ_ _ _ _ st q=>wpAny_pyIter_keyiter st.1 q
theorem q12(no:(d==sysModules)=false):PySem.W.KdlSrc prog w "dict" d d es.size (λi v=>es[i]?.map (·.key)=some v) (λh=>RawD h d es ep) where
 type:=λ_ x=>x.typeIs
 there:=λ_ x=>let ⟨_,e,_⟩:=x;⟨Heap.lt_size e,Heap.lt_size e⟩
 keep:=λ_ _ x k=>x.keep λo e=>k d (.inl rfl) o e
 notList:=by decide
 notTuple:=by decide
 hint:=λ_ _ _ _ x q=>PySem.W.kdl_hint_dict x.typeIs q
 iter:=λ_ _ hh x=>⟨_,_,(λ_ _ q=>qpb no x q),qu8 hh _ d (let ⟨_,e,_⟩:=x;Nat.ne_of_lt (Heap.lt_size e)) es ep,⟨⟨_,Heap.get?_push_size _ rfl,rfl,rfl⟩,x.keep λ_ e=>Heap.get?_push_of_some _ e⟩⟩
end
end PySem
namespace L2
open PySem PySem.Spec PyProof.Rows
section
variable {X:Cx}
theorem qlu{α β:Type}{F:α->β->Prop}:∀ {l:List α} {m:List β} {i:Nat} {b:β},Paired F l m->m[i]?=some b->∃a,l[i]?=some a/\F a b
|_,_,_,_,.nil,e=>by simp at e
|_,_,0,_,.cons h _,e=>by
  have e':=Option.some.inj e
  subst e'
  exact⟨_,rfl,h⟩
|_,_,i+1,b,.cons _ t,e=>by
  obtain⟨a,h1,h2⟩:=qlu (i:=i) (b:=b) t (by simpa using e)
  exact⟨a,by simpa using h1,h2⟩
theorem qok{P:Program}{w:World}{H:Hp}{h:Heap}{a:Addr}{kvs:List (List Key×V)}(ok:HOk P w H h)(e:Rd H a (.dT kvs)):kvs.length<=sizeLine/\(a==sysModules)=false/\∃es ep,RawD h a es ep/\es.size=kvs.length /\
  ∀(i:Nat) (u:Value),es[i]?.map (·.key)=some u->∃(b:Addr) (k:List Key),u=.ref b/\kvs[i]?.map (·.1)=some k/\H b=some (.tup (k.map kV)):=by
 obtain⟨z,y,xs,r,o,es,ep,h1,h2,h3,h4,_⟩:=qk8 ok e
 have hl:es.size=xs.length:=by rw[←Array.length_toList,h4,List.length_map]
 refine⟨z,y,es,ep,⟨o,h1,h2,h3⟩,by rw[hl,←Paired.length r],λi u q=>?_⟩
 have ei:es[i]?=(xs[i]?).map (entryOfKey (tupleKind (qbs P w))):=by rw[←Array.getElem?_toList,h4,List.getElem?_map]
 rw[ei] at q
 cases hx:xs[i]? with
|none=>rw[hx] at q;cases q
|some p =>
  rw[hx] at q
  have eu:Value.ref p.2.1=u:=Option.some.inj q
  obtain⟨kv,hkv,e1,e2,_⟩:=qlu r hx
  exact⟨p.2.1,kv.1,eu.symm,by rw[hkv];rfl,by rw[e1] at e2 ⊢;exact e2⟩
theorem qk6(hh:X.A.handled=none):CallR X (.type "list") (λxs H Q=>∃a kvs,xs=[.ref a]/\Rd H a (.dT kvs)/\∀(l:Addr) (bs:List Addr),H l=none->bs.length=kvs.length ->
  (∀(i:Nat) (b:Addr),bs[i]?=some b->∃k,kvs[i]?.map (·.1)=some k/\H b=some (.tup (k.map kV)))->Q (.ref l) (upd H l (.lst (bs.map V.ref)))):=by
 intro pins s σ H xs us Q I r h
 obtain⟨a,kvs,rfl,e,q⟩:=h
 obtain⟨u,rfl,ru⟩:=vals1 r
 cases ru
 obtain⟨z,no,es,ep,raw,hs,hk⟩:=qok I.hok e
 refine PySem.W.kdl_call (q12 (ep:=ep) (es:=es) no) hh raw (by rw[hs];exact z) λh' tk acc c keep new its=>?_
 have refs:∀vs:List Value,(∀v∈vs,∃b,v=Value.ref b)->∃bs:List Addr,vs=bs.map Value.ref:=λvs=>by
  induction vs with
 |nil=>exact λ_=>⟨[],rfl⟩
 |cons v vs ih =>
   intro hv
   obtain⟨b,rfl⟩:=hv v (List.mem_cons_self ..)
   obtain⟨bs,rfl⟩:=ih λy hy=>hv y (List.mem_cons_of_mem _ hy)
   exact⟨b::bs,rfl⟩
 obtain⟨hsz,hP⟩:=its
 obtain⟨bs,hbs⟩:=refs acc.toList λv hv=>by
  obtain⟨j,hj⟩:=List.mem_iff_getElem?.mp hv
  obtain⟨b,k,eb,_⟩:=hk j v (hP j v (by simpa using hj))
  exact⟨b,eb⟩
 have hacc:acc=(bs.map Value.ref).toArray:=by rw[←hbs]
 have hlen:bs.length=kvs.length:=by
  have:acc.size=bs.length:=by rw[hacc];simp
  lia
 have rel:∀bs:List Addr,Vals (bs.map V.ref) (bs.map Value.ref):=λbs=>by
  induction bs with
 |nil=>exact .nil
 |cons b bs ih=>exact .cons rfl ih
 refine⟨.ref s.heap.objs.size,upd H s.heap.objs.size (.lst (bs.map V.ref)),I.laid (t':=tk) keep (Nat.le_refl _) ⟨by rw[List.length_map];lia,bs.map Value.ref,c,rel bs,by rw[←hacc];exact new⟩,rfl,q _ bs (I.hok.fresh (Nat.le_refl _)) hlen λi b hb=>?_⟩
 obtain⟨b',k,eb,h1,h2⟩:=hk i (.ref b) (hP i (.ref b) (by rw[hacc];simp[hb]))
 cases eb
 exact⟨k,h1,h2⟩
end
section
variable {X:Cx} {K:PySem.W.Frag} {B H:Hp}
theorem Stp.tups(s:Same B H)(bs:List Addr)(h:∀b∈bs,∃xs,H b=some (.tup xs)):Stp B H (λa=>if a∈bs then H a else B a) H:=by
 refine⟨λa o e=>?_,Same.refl _,λa o e=>?_,λa z=>?_⟩
 ·show (if a∈bs then H a else B a)=some o
  split
  ·exact s _ _ e
  ·exact e
 ·have e':(if a∈bs then H a else B a)=some o:=e
  split at e'
  ·exact e'
  ·exact s _ _ e'
 ·by_cases q:a∈bs
  ·exact .inr (.inr (h a q))
  ·have z':(if a∈bs then H a else B a)≠none:=z
   rw[if_neg q] at z'
   exact .inl z'
theorem qlw:∀ {ks:List (List Str)} {bs:List Addr},bs.length=ks.length->(∀(i:Nat) (b:Addr) (k:List Str),bs[i]?=some b->ks[i]?=some k->B b=some (.tup (k.map V.str)))->Reps K B (ks.map λw=>.tup (w.map D.str)) (bs.map V.ref)
|[],[],_,_=>.nil
|[],_::_,h,_=>by simp at h
|_::_,[],h,_=>by simp at h
|k::ks,b::bs,h,q=>by
  refine .cons ?_ (qlw (by simpa using h) λi b' k' h1 h2=>q (i+1) b' k' (by simpa using h1) (by simpa using h2))
  unfold Rep
  exact⟨b,_,rfl,.inl (q 0 b k rfl rfl),by
   have:∀ss:List Str,Reps K B (ss.map D.str) (ss.map V.str):=λss=>by
    induction ss with
   |nil=>exact .nil
   |cons s ss ih=>exact .cons (qhz (d:=.str s) rfl) ih
   exact this k⟩
def ql9(rx:R)(Q:R->Prop):Prop:=match rx.d with
|.dT ks _=>Q (.own (.lst (ks.map λw=>.tup (w.map D.str))))
|_=>False
theorem qxn(hh:X.A.handled=none):VF X (.type "list") ql9:=by
 refine⟨_,qk6 hh,λB H x rx Q Qd s px h k=>?_⟩
 unfold ql9 at h
 split at h
 ·rename_i ks ds e1
  obtain⟨ad,kvs,rfl,hd,hk,hr⟩:=px.dT s e1
  refine⟨ad,kvs,rfl,hd,λl bs hl hlen hb=>?_⟩
  have hkl:ks.length=kvs.length:=by simpa using (congrArg List.length hk).symm
  have key:∀(i:Nat) (b:Addr) (k:List Str),bs[i]?=some b->ks[i]?=some k->H b=some (.tup (k.map V.str)):=λi b k h1 h2=>by
   obtain⟨k',h3,h4⟩:=hb i b h1
   have e:(kvs.map (·.1))[i]?=(ks.map wK)[i]?:=by rw[hk]
   rw[List.getElem?_map,List.getElem?_map,h3,h2] at e
   cases e
   rw[qn5] at h4
   exact h4
  have T:=Stp.tups s bs λb hm=>by
   obtain⟨i,hi⟩:=List.mem_iff_getElem?.mp hm
   obtain⟨k',_,h4⟩:=hb i b hi
   exact⟨_,h4⟩
  have hlB:(λa=>if a∈bs then H a else B a) l=none:=by
   show (if l∈bs then H l else B l)=none
   split
   ·exact hl
   ·exact s.free hl
  refine k (.own _) _ _ _ (T.trans (.grow T.s (qav hl (.lst (bs.map V.ref))))) ⟨l,rfl,hl,hlB,qc8 (qlw (by lia) λi b w h1 h2=>?_)⟩ h
  show (if b∈bs then H b else B b)=_
  rw[if_pos (List.mem_of_getElem? h1)]
  exact key i b w h1 h2
 ·exact h.elim
end
end L2
namespace L2
open PySem PySem.Spec PyProof.Rows
section
variable {X:Cx} {EX:St->XK} {K:PySem.W.Frag} {B H B' H' H0 B0:Hp} {e a:Expr} {es:List Expr} {te ta:TV} {tA:TVA} {pos p np cpos:Pos} {x:Str} {t:TVS} {τ:VSt} {σ:St}
theorem clsOf.inj{n:Str}{C C':Addr}(h:clsOf K n C)(h':clsOf K n C'):C=C':=by
 unfold clsOf at h h'
 rw[h] at h'
 cases h'
 rfl
theorem qgf{k:Nat}{ps:List Str}{g:DP}(C:CalX X.prog X.w X.K X.mg X.base k x ps (spOf X.K g))(o:Out X EX)(hr:Room k X.A)(hg:Gl X x)(ha:VA X EX (e::es) tA)(hx:X.ex=[]:=by rfl)(hp:(e::es).all qaq=true:=by rfl)(hdb:(x==("__debug__" : Str))=false:=by decide) :
  VE X EX (.Call (.Name x p) (e::es) [] pos) (qib g tA) :=
 let ⟨_,a1,a2⟩:=ha.u;⟨_,q1d C o hr hg a1 hx hp hdb,λH0 B H τ σ Q Qd s S h xc k=>a2 H0 B H τ σ _ _ s S h xc λds vs B1 H1 p q h1 =>
  ⟨ds,B1,Qd,p.s,by rw[List.append_nil];exact q,h1,λn C B' H' hq p2 c=>xc n C B' H' (p.trans p2) c hq,λr v B2 H2 hq p2 q2=>k r v B2 H2 (p.trans p2) (q2.back p.h) hq⟩⟩
theorem q17{k:Nat}{ps:List Str}{g:DP}(C:CalX X.prog X.w X.K X.mg X.base k x ps (spOf X.K g))(hr:Room k X.A)(hg:Gl X x)(ha:VA X EX (e::es) tA)(hp:(e::es).all qaq=true:=by rfl)(hdb:(x==("__debug__" : Str))=false:=by decide) :
  VE X EX (.Call (.Name x p) (e::es) [] pos) (qaj g tA) :=
 let ⟨_,a1,a2⟩:=ha.u;⟨_,q1b C hr hg a1 hp hdb,λH0 B H τ σ Q Qd s S h xc k=>a2 H0 B H τ σ _ _ s S h xc λds vs B1 H1 p q h1 =>
  ⟨ds,B1,_,p.s,by rw[List.append_nil];exact q,h1,λn C B' H' hq _ _=>hq.elim,λr v B2 H2 hq p2 q2=>k r v B2 H2 (p.trans p2) (q2.back p.h) (q2.ok hq)⟩⟩
def XCls(K:PySem.W.Frag)(mg:Str->Option Value)(n:Str):Prop:=∃C,mg n=some (.ref C)/\clsOf K n C/\OwnX K C
def qgr(n:Str)(tA:TVA):TVS:=λDv τ=>tA τ λa=>exI τ Dv a λds=>ds.length<=sizeLine/\Dv.xc τ n
theorem qg1(u:XCls X.K X.mg x)(hg:Gl X x)(hc:X.calm=true)(o:Out X EX)(ha:VA X EX (e::es) tA)(hx:X.ex=[]:=by rfl)(hp:(e::es).all qaq=true:=by rfl)(hdb:(x==("__debug__" : Str))=false:=by decide) :
  VS X EX (.Raise (some (.Call (.Name x np) (e::es) [] cpos)) none pos) (qgr x tA):=by
 obtain⟨C,hm,hk,q⟩:=u
 obtain⟨_,a1,a2⟩:=ha.u
 exact⟨_,qww q hm hg hc o a1 hx hp hdb,λB0 H0 B H τ σ Dv Dh p S h E=>a2 H0 B H τ σ _ _ p.s S h (E.raised p S) λds vs B1 H1 p1 q1 h1 =>
  ⟨by rw[←q1.length];exact h1.1,E.xc B1 H1 τ σ x C (p.trans p1) (S.step p1) hk h1.2⟩⟩
def canS(K:PySem.W.Frag)(EX:St->XK)(t:TVS):TS:=λDh σ H=>∃B0 H0 B τ Dv,Stp B0 H0 B H/\Slots K H0 B H τ σ/\t Dv τ/\EndsOk K EX B0 H0 Dv Dh
theorem VSs.can{st:List Stmt}(h:VSs X EX st t):QSs X st (canS X.K EX t):=let ⟨_,a1,a2⟩:=h.u;⟨λpins s σ H D I ⟨B0,H0,B,τ,Dv,q1,q2,q3,q4⟩=>a1.u pins s σ H D I (a2 B0 H0 B H τ σ Dv D q1 q2 q3 q4)⟩
abbrev THD:=Str->TVS
def RfH(K:PySem.W.Frag)(EX:St->XK)(th:TH)(td:THD):Prop:=∀(B0 H0 B H:Hp) (τ:VSt) (σ:St) (n:Str) (C:Addr) (Dv:VEnds) (Dh:Ends),Stp B0 H0 B H->Slots K H0 B H τ σ->clsOf K n C->td n Dv τ->EndsOk K EX B0 H0 Dv Dh->th (.ref C) Dh σ H
structure VH(X:Cx)(EX:St->XK)(hs:List ExceptHandler)(td:THD):Prop where
 u:∃th,QH X hs th/\RfH X.K EX th td
def vTry(t:TVS)(td:THD):TVS:=λDv τ=>t { nx:=Dv.nx,rt:=Dv.rt,bk:=Dv.bk,ct:=Dv.ct,xc:=λτ' n=>td n Dv τ',rn:=Dv.rn } τ
theorem qpw{body:List Stmt}{h0:ExceptHandler}{rest:List ExceptHandler}{td:THD}(hb:∀pn E EX',PassesOwn (model X.prog X.w) X.A X.env E->Out (X.tryB pn E) EX'->VSs (X.tryB pn E) EX' body t)(hh:VH X EX (h0::rest) td)(hst:X.stack=X.env::X.outer:=by rfl)
  (hfr:X.env.frame=some X.env.locals:=by rfl) (hx:X.ex=[]:=by rfl):VS X EX (.Try body (h0::rest) [] [] pos) (vTry t td) :=
 let ⟨_,a1,a2⟩:=hh.u;⟨_,q43 (tb:=λEX'=>canS X.K EX' t) (λpn E EX' po o=>(hb pn E EX' po o).can) a1 hst hfr hx,λB0 H0 B H τ σ Dv Dh p S h E =>
  ⟨B0,H0,B,τ,_,p,S,h,E.nx,E.rt,E.bk,E.ct,λB1 H1 τ1 σ1 n C q1 q2 q3 q4=>a2 B0 H0 B1 H1 τ1 σ1 n C Dv Dh q1 q2 q3 q4 E,λ_ _ _ _ _ _ _ _ _ _ h=>h.elim,E.rn⟩⟩
def qur:THD:=λ_ _ _=>False
theorem qps:VH X EX [] qur:=⟨_,q4w,λ_ _ _ _ _ _ _ _ _ _ _ _ _ h=>h.elim⟩
def qy8(K:PySem.W.Frag)(mg:Str->Option Value)(x:Str)(yes no:List Str):Prop:=∃c,mg x=some c/\(∀n∈yes,∀C,clsOf K n C->PySem.W.exmOne K (.ref C) c=some true)/\∀n∈no,∀C,clsOf K n C->PySem.W.exmOne K (.ref C) c=some false
def VEnds.calm(Dv:VEnds):VEnds:={ nx:=Dv.nx,rt:=Dv.rt,bk:=Dv.bk,ct:=Dv.ct,ro:=Dv.ro }
theorem EndsOk.calm{Dv:VEnds}{Dh:Ends}(E:EndsOk K EX B0 H0 Dv Dh):EndsOk K EX0 B0 H0 Dv.calm Dh:=⟨E.nx,E.rt,E.bk,E.ct,λ_ _ _ _ _ _ _ _ _ h=>h.elim,E.ro,λ_ _ _ _ _ _ _ h=>h.elim⟩
def quq(yes no:List Str)(t:TVS)(td:THD):THD:=λn Dv τ=>(n∈yes/\t Dv.calm τ)\/(n∈no/\td n Dv τ)
theorem qus{b0:Stmt}{suite:List Stmt}{rest:List ExceptHandler}{td:THD}{yes no:List Str}(u:qy8 X.K X.mg x yes no)(hg:Gl X x)(hs:∀e pn E,VSs (X.hand e pn E) EX0 (b0::suite) t)(hr:VH X EX rest td)(hdb:(x==("__debug__" : Str))=false:=by decide) :
  VH X EX (.ExceptHandler (some (.Name x np)) none (b0::suite) pos::rest) (quq yes no t td):=by
 obtain⟨c,hm,hy,hn⟩:=u
 obtain⟨_,a1,a2⟩:=hr.u
 refine⟨_,q1i (t:=canS X.K EX0 t) hm hg (λe pn E=>(hs e pn E).can) a1 hdb,λB0 H0 B H τ σ n C Dv Dh p S hc h E=>?_⟩
 rcases h with ⟨h1,h2⟩|⟨h1,h2⟩
 ·exact⟨true,hy n h1 C hc,iteT ⟨B0,H0,B,τ,_,p,S,h2,E.calm⟩⟩
 ·exact⟨false,hn n h1 C hc,iteF (a2 B0 H0 B H τ σ n C Dv Dh p S hc h2 E)⟩
def VEnds.wiped(Dv:VEnds):VEnds:={ nx:=λτ=>Dv.nx (List.replicate τ.length none),rt:=Dv.rt,bk:=λτ=>Dv.bk (List.replicate τ.length none),ct:=λτ=>Dv.ct (List.replicate τ.length none),ro:=Dv.ro }
theorem Slots.wiped(S:Slots K H0 B H τ σ):Slots K H0 B H (List.replicate τ.length none) (wipe σ):=by
 have no:∀(i:Nat) (r:R),(List.replicate τ.length (none:Option R))[i]?=some (some r)->False:=λi r h=>by
  by_cases l:i<τ.length
  ·rw[List.getElem?_replicate_of_lt l] at h;cases h
  ·rw[List.getElem?_eq_none (by rw[List.length_replicate];lia)] at h;cases h
 exact⟨by unfold wipe;rw[List.length_replicate,List.length_replicate,S.len],λi d h=>(no i _ h).elim,λi d h=>(no i _ h).elim,λi d h=>(no i _ h).elim,λi j d e a h=>(no i _ h).elim⟩
theorem EndsOk.wiped{Dv:VEnds}{Dh:Ends}(E:EndsOk K EX B0 H0 Dv Dh):EndsOk K EX0 B0 H0 Dv.wiped Dh.wiped :=
 ⟨λB H τ σ p S h=>E.nx B H _ _ p S.wiped h,E.rt,λB H τ σ p S h=>E.bk B H _ _ p S.wiped h,λB H τ σ p S h=>E.ct B H _ _ p S.wiped h,λ_ _ _ _ _ _ _ _ _ h=>h.elim,E.ro,λ_ _ _ _ _ _ _ h=>h.elim⟩
def vhAs(i:Nat)(yes no:List Str)(t:TVS)(td:THD):THD:=λn Dv τ=>(n∈yes/\t Dv.wiped (τ.set i (some (.val (.exc n)))))\/(n∈no/\td n Dv τ)
theorem q7n{b0:Stmt}{suite:List Stmt}{rest:List ExceptHandler}{td:THD}{yes no:List Str}{i:Nat}{m:Str}(hN:X.N.Nodup)(hi:X.N[i]?=some m)(hl:X.env.scope.names.lookup m=some .local)(u:qy8 X.K X.mg x yes no)(hg:Gl X x)(hs:∀e pn E,VSs (X.hand e pn E) EX0 (b0::suite) t)
  (hr:VH X EX rest td) (hdb:(x==("__debug__" : Str))=false:=by decide):VH X EX (.ExceptHandler (some (.Name x np)) (some m) (b0::suite) pos::rest) (vhAs i yes no t td):=by
 obtain⟨c,hm,hy,hn⟩:=u
 obtain⟨_,a1,a2⟩:=hr.u
 refine⟨_,q67 (i:=i) (t:=canS X.K EX0 t) hN hi hl hm hg (λe pn E=>(hs e pn E).can) a1 hdb,λB0 H0 B H τ σ n C Dv Dh p S hc h E=>?_⟩
 rcases h with ⟨h1,h2⟩|⟨h1,h2⟩
 ·refine⟨true,hy n h1 C hc,iteT λad Ca ea had=>?_⟩
  cases ea
  have q:Stp B H (upd B ad (excO ad C)) (upd H ad (excO ad C)):=.new p.s had
  refine⟨B0,H0,_,_,_,p.trans q,(S.step q).setVal i (d:=.exc n) ?_,h2,E.wiped⟩
  unfold Rep
  exact⟨ad,C,rfl,qaw,hc⟩
 ·exact⟨false,hn n h1 C hc,iteF (a2 B0 H0 B H τ σ n C Dv Dh p S hc h2 E)⟩
def vIsX(yes no:List Str)(ta:TV):TV:=λτ Q=>ta τ λr=>match r.d with
|.exc n=>(n∈yes/\Q (.val (.bl true)))\/(n∈no/\Q (.val (.bl false)))
|_=>False
theorem Pk.exc{r:R}{v:V}{n:Str}(s:Same B H)(h:Pk K B H r v)(e:r.d=.exc n):∃a C,v=.ref a/\H a=some (excO a C)/\clsOf K n C:=by
 have h':=h.rep s
 rw[e] at h'
 unfold Rep at h'
 exact h'
theorem q50{y:Str}{pb:Pos}{T:String}{yes no:List Str}(u:∀n C,clsOf X.K n C->n∈yes\/n∈no->ExcK X.K C)(hy:∀n∈yes,∀C,clsOf X.K n C->PySem.W.kitOne X.K (.ref C) (.type T)=some true)(hn:∀n∈no,∀C,clsOf X.K n C->PySem.W.kitOne X.K (.ref C) (.type T)=some false)
  (hg:Gl X "isinstance") (hm:X.mg "isinstance" = none) (hgy:Gl X y) (hmy:X.mg y=none) (hby:bootBuiltins y=some (.type T)) (ha:VE X EX a ta) (hp:qaq a=true:=by rfl) (hny:y≠"__name__" := by decide) (hdy:(y==("__debug__" : Str))=false:=by decide) :
  VE X EX (.Call (.Name "isinstance" p) [a,.Name y pb] [] pos) (vIsX yes no ta) :=
 let ⟨_,a1,a2⟩:=ha.u;⟨_,qcb qk4 hg hm PyProof.Rows.Boot.«isinstance» (qac a1 (qac (qtr (v:=.ty T) hgy hmy hby rfl hny hdy) qd0 rfl) hp) (by rw[List.all_cons,hp];rfl),λH0 B H τ σ Q Qd s S h xc k=>a2 H0 B H τ σ _ _ s S h (xno λ_ q=>q) λr v B1 H1 p1 q1 h1=>by
   split at h1
   ·rename_i n en
    obtain⟨ad,C,rfl,hx,hc⟩:=q1.pk.exc p1.s en
    rcases h1 with ⟨h1,h2⟩|⟨h1,h2⟩
    ·exact⟨ad,C,_,.type T,true,rfl,hx,u n C hc (.inl h1),λw rw'=>rw',hy n h1 C hc,k _ _ B1 H1 p1 (repV rfl) h2⟩
    ·exact⟨ad,C,_,.type T,false,rfl,hx,u n C hc (.inr h1),λw rw'=>rw',hn n h1 C hc,k _ _ B1 H1 p1 (repV rfl) h2⟩
   ·exact h1.elim⟩
theorem q2a{es:List Expr}{pt:Pos}{kt:Nat}{tA:TA}{cs:List Addr}{yes no:List Str}(u:∀n C,clsOf X.K n C->n∈yes\/n∈no->ExcK X.K C)(hy:∀n∈yes,∀C,clsOf X.K n C->PySem.W.kitAny X.K (.ref C) (cs.map Value.ref)=some true)
  (hn:∀n∈no,∀C,clsOf X.K n C->PySem.W.kitAny X.K (.ref C) (cs.map Value.ref)=some false) (hl:cs.length<=100) (hq:QA X es tA) (ht:∀σ H Q,Q (cs.map V.ref) H->tA σ H Q) (hg:Gl X "isinstance") (hm:X.mg "isinstance" = none) (ha:VE X EX a ta) (hp:qaq a=true:=by rfl) :
  VE X EX (.Call (.Name "isinstance" p) [a,.Tuple es kt pt] [] pos) (vIsX yes no ta) :=
 let ⟨_,a1,a2⟩:=ha.u;⟨_,qcb qjg hg hm PyProof.Rows.Boot.«isinstance» (qac a1 (qac (qyj hq) qd0 rfl) hp) (by rw[List.all_cons,hp];rfl),λH0 B H τ σ Q Qd s S h xc k=>a2 H0 B H τ σ _ _ s S h (xno λ_ q=>q) λr v B1 H1 p1 q1 h1=>by
   refine ht σ H1 _ ⟨by rw[List.length_map];exact Nat.le_trans hl (by decide),λtp htp=>?_⟩
   have rel:∀us,Vals (cs.map V.ref) us->us=cs.map Value.ref:=λus=>by
    clear ht hy hn hl
    induction cs generalizing us with
   |nil=>intro r;cases r;rfl
   |cons c cs ih =>
     intro r
     cases r with
    |cons r1 r2 =>
      cases r1
      rw[ih _ r2]
      rfl
   split at h1
   ·rename_i n en
    have g:Stp B1 H1 B1 (upd H1 tp (.tup (cs.map V.ref))):=.grow p1.s (qav htp _)
    obtain⟨ad,C,rfl,hx,hc⟩:=(q1.pk.step g).exc g.s en
    rcases h1 with ⟨h1,h2⟩|⟨h1,h2⟩
    ·exact⟨ad,C,tp,_,_,true,rfl,hx,qaw,u n C hc (.inl h1),rel,hy n h1 C hc,k _ _ B1 _ (p1.trans g) (repV rfl) h2⟩
    ·exact⟨ad,C,tp,_,_,false,rfl,hx,qaw,u n C hc (.inr h1),rel,hn n h1 C hc,k _ _ B1 _ (p1.trans g) (repV rfl) h2⟩
   ·exact h1.elim⟩
theorem Fun.okVX{P:Program}{w:World}{mg:Str->Option Value}{base:Heap}{x qual:Str}{st:Stmt}{f:Addr}{fd:FuncData}{N ps:List Str}{k:Nat}{g:DP}(F:Fun K x qual st f fd)(S:FnScope N ps (qaf st))(len:∀ds Q,g ds Q->ds.length=ps.length)
  (hbody:∀(cdv:Value) (A:Around) (outer:List Env) (s:Shared) (H:Hp) (E:XK),Room k (A.deeper (envOfC qual (qaf st) s.heap.objs.size f cdv))->Out (cxOf (CXR P w) P w K mg base N qual (qaf st) f cdv A outer s H E) (λ_=>E) ->
   ∃t,VSs (cxOf (CXR P w) P w K mg base N qual (qaf st) f cdv A outer s H E) (λ_=>E) (qbq st) t/\∀ds Q,g ds Q->t { nx:=λ_=>Q (.val .non),rt:=Q,xc:=λ_ n=>Q (.exc n) } (qat N ds)):FnOk P w K mg base (CXR P w) (k+1) f fd ps (spOf K g):=by
 refine F.okX S (λvs H Q E h=>?_) (λcdv A outer s H vs Q E hr h o=>?_)
 ·obtain⟨ds,B,Qd,_,rp,hg,_,_⟩:=h
  rw[←rp.length]
  exact len ds Qd hg
 ·obtain⟨ds,B,Qd,sm,rp,hg,kx,kk⟩:=h
  obtain⟨t,⟨ts,q1,q2⟩,ht⟩:=hbody cdv A outer s H E hr o
  refine⟨ts,q1,q2 B H B H (qat N ds) (start N vs) _ _ (.refl sm) ?_ (ht ds Qd hg) ⟨λB' H' τ σ p S h=>kk (.val .non) .non B' H' h p (repV rfl),λr v B' H' p hr h=>kk r v B' H' h p hr,λ_ _ _ _ _ _ h=>h.elim,λ_ _ _ _ _ _ h=>h.elim,λB' H' τ σ n C p S c h=>kx n C B' H' h p c,λ_ _ _ _ _ _ _ _ _ _ h=>h.elim,λ_ _ _ _ _ _ _ h=>h.elim⟩⟩
  unfold qat start
  rw[rp.length]
  exact(qga rp).more _
theorem qc3{P:Addr->Prop}:∀n∈([]:List Str),∀C,clsOf K n C->P C:=λ_ h=>by cases h
theorem qb1{P:Addr->Prop}{m:Str}{E:Addr}{l:List Str}(k:clsOf K m E)(q:P E)(r:∀n∈l,∀C,clsOf K n C->P C):∀n∈m::l,∀C,clsOf K n C->P C:=λn h C c=>by
 rcases List.mem_cons.mp h with rfl|h
 ·cases clsOf.inj c k
  exact q
 ·exact r n h C c
theorem q2u{P:Addr->Prop}{l m:List Str}(h1:∀n∈l,∀C,clsOf K n C->P C)(h2:∀n∈m,∀C,clsOf K n C->P C):∀n C,clsOf K n C->n∈l\/n∈m->P C:=λn C c h=>h.elim (λz=>h1 n z C c) λz=>h2 n z C c
end
end L2
namespace L2
open PySem PySem.Spec PyProof.Rows Builtin.Str
section
variable {X:Cx}
theorem qig:∀(l:List (Str×Tok)),Vals ((l.map (·.1)).map V.str) (strValues l)
|[]=>.nil
|p::l=>.cons ⟨p.2,rfl⟩ (qig l)
theorem qjw:MtM X "str.startswith" (λx vs H Q=>∃a b,x=.str a/\vs=[.str b]/\Q (.bl (Txt.startswith a b)) H):=by
 intro pins s σ H x vs v us Q I rx rv h
 obtain⟨a,b,rfl,rfl,q⟩:=h
 obtain⟨t,rfl⟩:=rx
 obtain⟨u,rfl,⟨t',rfl⟩⟩:=rv.one
 exact SC.startswith ⟨.bl _,H,I,rfl,q⟩
theorem qv1:MtM X "str.split" (λx vs H Q=>∃a b,x=.str a/\vs=[.str b]/\(b.length==0)=false/\a.length<=sizeLine/\(Txt.split a b).length<=sizeLine/\∀l,H l=none->Q (.ref l) (upd H l (.lst ((Txt.split a b).map V.str)))):=by
 intro pins s σ H x vs v us Q I rx rv h
 obtain⟨a,b,rfl,rfl,hb,ha,hz,q⟩:=h
 obtain⟨t,rfl⟩:=rx
 obtain⟨u,rfl,⟨t',rfl⟩⟩:=rv.one
 cases h1:(decide (a.length<b.length)||decide (strKind a<strKind b))
 ·cases hf:(occurrences a b 0 a.length (a.length+1)).isEmpty
  ·have e:Txt.split a b=partsBetween a (occurrences a b 0 a.length (a.length+1)) b.length:=by
    unfold Txt.split
    rw[h1,hf,if_neg Bool.false_ne_true,if_neg Bool.false_ne_true]
   refine call_meets F.slot_str_split (typeIs_str _ _ _) F.entry_str_split (F.args_str_split_2 _ _) (meets_str_split_sep a b t t' h1 hb hf ha (by rw[←e];exact hz)) ?_
   rw[strsFrom_eq,←e]
   have r:=qig (numbered s.toks (Txt.split a b))
   rw[numbered_texts] at r
   exact⟨.ref _,_,I.lnew (t':=_) r (by rw[List.length_map];exact hz),rfl,q _ I.fresh⟩
  ·have e:Txt.split a b=[a]:=by
    unfold Txt.split
    rw[h1,hf,if_neg Bool.false_ne_true,if_pos rfl]
   rw[e] at q
   exact call_meets F.slot_str_split (typeIs_str _ _ _) F.entry_str_split (F.args_str_split_2 _ _) (meets_str_split_not_found a b t t' h1 hb hf) ⟨.ref _,_,I.lnew (t':=s.toks) (ys:=[.str a]) (its:=[.str a t]) (.cons ⟨t,rfl⟩ .nil) (show 1<=sizeLine by decide),rfl,q _ I.fresh⟩
 ·have e:Txt.split a b=[a]:=by
   unfold Txt.split
   rw[h1,if_pos rfl]
  rw[e] at q
  exact call_meets F.slot_str_split (typeIs_str _ _ _) F.entry_str_split (F.args_str_split_2 _ _) (meets_str_split_cannot_occur a b t t' h1) ⟨.ref _,_,I.lnew (t':=s.toks) (ys:=[.str a]) (its:=[.str a t]) (.cons ⟨t,rfl⟩ .nil) (show 1<=sizeLine by decide),rfl,q _ I.fresh⟩
end
section
variable {X:Cx} {EX:St->XK} {o e:Expr} {to te:TV} {apos cpos:Pos}
def qkm(to te:TV):TV:=λτ Q=>to τ λrs=>match rs.d with
|.str a=>te τ λrt=>∃b,rt.d=.str b/\Q (.val (.bl (Txt.startswith a b)))
|_=>False
theorem quo(ho:VE X EX o to)(h:VE X EX e te)(hp:qaq e=true:=by rfl)(hbase:attributeBase o "startswith" X.env (eval o X.env)=eval o X.env:=by rfl)(hline:(apos.endLine==cpos.line)=true:=by rfl) :
  VE X EX (.Call (.Attribute o "startswith" apos) [e] [] cpos) (qkm to te) :=
 let ⟨_,o1,o2⟩:=ho.u;let ⟨_,a1,a2⟩:=h.u;⟨_,qbm PySem.F.plainAttrs_str PySem.F.slot_str_startswith PySem.F.type_str_startswith qjw o1 (qac a1 qd0 hp) (by simp[hp]) rfl hbase hline,λH0 B H τ σ Q Qd s S h xc k =>
  o2 H0 B H τ σ _ _ s S h (xno λ_ q=>q) λrs vs B1 H1 p1 q1 h1=>by
   split at h1
   ·rename_i a es
    cases q1.pk.scal (z:=.str a) (by rw[es];rfl)
    refine⟨rfl,a2 H0 B1 H1 τ σ _ _ p1.s (S.step p1) h1 (xno λ_ ⟨_,q,_⟩=>by cases q) λrl vl B2 H2 p2 q2 h2=>?_⟩
    obtain⟨b,el,hq⟩:=h2
    cases q2.pk.scal (z:=.str b) (by rw[el];rfl)
    exact⟨a,b,rfl,rfl,k _ _ B2 H2 (p1.trans p2) (repV rfl) hq⟩
   ·exact h1.elim⟩
def qgs(to te:TV):TV:=λτ Q=>to τ λrs=>match rs.d with
|.str a=>te τ λrt=>∃b,rt.d=.str b/\(b.length==0)=false/\a.length<=sizeLine/\(Txt.split a b).length<=sizeLine/\Q (.own (.lst ((Txt.split a b).map D.str)))
|_=>False
theorem qfp{K:PySem.W.Frag}{B:Hp}:∀ss:List Str,Reps K B (ss.map D.str) (ss.map V.str)
|[]=>.nil
|s::ss=>.cons (qhz (d:=.str s) rfl) (qfp ss)
theorem qfw(ho:VE X EX o to)(h:VE X EX e te)(hp:qaq e=true:=by rfl)(hbase:attributeBase o "split" X.env (eval o X.env)=eval o X.env:=by rfl)(hline:(apos.endLine==cpos.line)=true:=by rfl) :
  VE X EX (.Call (.Attribute o "split" apos) [e] [] cpos) (qgs to te) :=
 let ⟨_,o1,o2⟩:=ho.u;let ⟨_,a1,a2⟩:=h.u;⟨_,qbm PySem.F.plainAttrs_str PySem.F.slot_str_split PySem.F.type_str_split qv1 o1 (qac a1 qd0 hp) (by simp[hp]) rfl hbase hline,λH0 B H τ σ Q Qd s S h xc k =>
  o2 H0 B H τ σ _ _ s S h (xno λ_ q=>q) λrs vs B1 H1 p1 q1 h1=>by
   split at h1
   ·rename_i a es
    cases q1.pk.scal (z:=.str a) (by rw[es];rfl)
    refine⟨rfl,a2 H0 B1 H1 τ σ _ _ p1.s (S.step p1) h1 (xno λ_ ⟨_,q,_⟩=>by cases q) λrl vl B2 H2 p2 q2 h2=>?_⟩
    obtain⟨b,el,hb,ha,hz,hq⟩:=h2
    cases q2.pk.scal (z:=.str b) (by rw[el];rfl)
    have pp:=p1.trans p2
    exact⟨a,b,rfl,rfl,hb,ha,hz,λl hl=>k (.own _) _ B2 _ (pp.trans (.grow p2.s (qav hl _))) ⟨l,rfl,pp.h.free hl,p2.s.free hl,qc8 (qfp _)⟩ hq⟩
   ·exact h1.elim⟩
end
def sp(c:Nat):List Nat->List (List Nat)
|[]=>[[]]
|x::xs=>if x=c then []::sp c xs else match sp c xs with
 |[]=>[[x]]
 |p::ps=>(x::p)::ps
theorem qq1(c:Nat):∀xs,sp c xs≠[]
|[]=>by unfold sp;exact λh=>by cases h
|x::xs=>by
  unfold sp
  split
  ·exact λh=>by cases h
  ·split<;>exact λh=>by cases h
theorem qh7(c:Nat):∀xs:List Nat,c∉xs->sp c xs=[xs]
|[],_=>rfl
|x::xs,h=>by
  unfold sp
  rw[if_neg (λe=>h (by simp[e])),qh7 c xs λz=>h (List.mem_cons_of_mem _ z)]
theorem qi5(c:Nat):∀(pre post:List Nat),c∉pre->sp c (pre++c::post)=pre::sp c post
|[],post,_=>by
  show sp c (c::post)=_
  rw[sp,if_pos rfl]
|x::pre,post,h=>by
  show sp c (x::(pre++c::post))=_
  rw[sp,if_neg (λe=>h (by simp[e])),qi5 c pre post λz=>h (List.mem_cons_of_mem _ z)]
theorem qjy(s:Str)(c n lim:Nat)(hn:s.length=n):∀(l:List Nat) (a:Nat) (st:Array Nat×Nat),l=List.range' a (n+1-a)->a<=n+1->st.2<=a->st.1.size+(n+1-a)<=lim ->
  (forIn l st (StrLaws.occBody s ⟨#[c]⟩ n lim)).run.fst.toList=st.1.toList++((List.range' a (n-a)).filter λi=>s.cps[i]?==some c)
|[],a,st,hl,ha,h2,h3=>by
  have e:n+1-a=0:=by simpa using congrArg List.length hl.symm
  have e2:n-a=0:=by lia
  rw[e2]
  simp
|x::l,a,st,hl,ha,h2,h3=>by
  have ea:n+1-a=(n-a)+1:=by
   have:=congrArg List.length hl
   simp at this
   lia
  rw[ea,List.range'_succ] at hl
  injection hl with e1 e2
  subst e1
  rw[List.forIn_cons]
  have el:l=List.range' (x+1) (n+1-(x+1)):=by rw[e2];congr 1;lia
  have one:(⟨#[c]⟩:Str).length=1:=rfl
  by_cases hx:x<n
  ·have er:List.range' x (n-x)=x::List.range' (x+1) (n-(x+1)):=by
    have:n-x=(n-(x+1))+1:=by lia
    rw[this,List.range'_succ]
   have hs:x<s.cps.size:=by show x<s.length;lia
   have sub:subAt s ⟨#[c]⟩ x=(s.cps[x]?==some c):=by
    unfold subAt
    rw[one]
    have:s.cps.extract x (x+1)=#[s.cps[x]]:=by
     apply Array.ext
     ·simp;lia
     ·intro i h1 h2
      have:i=0:=by simp at h2;lia
      subst this
      simp
    rw[this,Array.getElem?_eq_getElem hs]
    apply qbc
    simp
   rw[er,List.filter_cons]
   unfold StrLaws.occBody
   rw[sub,one]
   by_cases hc:(s.cps[x]?==some c)=true
   ·rw[if_pos ⟨⟨⟨by lia,h2⟩,by lia⟩,hc⟩,if_pos hc]
    show (forIn l (st.1.push x,x+1) (StrLaws.occBody s ⟨#[c]⟩ n lim)).run.fst.toList=_
    rw[qjy s c n lim hn l (x+1) (st.1.push x,x+1) el (by lia) (Nat.le_refl _) (by simp;lia)]
    simp
   ·rw[if_neg (λz=>hc z.2),if_neg hc]
    show (forIn l (st.1,st.2) (StrLaws.occBody s ⟨#[c]⟩ n lim)).run.fst.toList=_
    rw[qjy s c n lim hn l (x+1) (st.1,st.2) el (by lia) (by show st.2<=x+1;lia) (by show st.1.size+_<=lim;lia)]
  ·have ex:x=n:=by lia
   have er:List.range' x (n-x)=[]:=by rw[show n-x=0 by lia];rfl
   rw[er]
   unfold StrLaws.occBody
   rw[one,if_neg (λz=>by have:=z.1.2;lia)]
   show (forIn l (st.1,st.2) (StrLaws.occBody s ⟨#[c]⟩ n lim)).run.fst.toList=_
   rw[qjy s c n lim hn l (x+1) (st.1,st.2) el (by lia) (by show st.2<=x+1;lia) (by show st.1.size+_<=lim;lia)]
   rw[show n-(x+1)=0 by lia]
   rfl
theorem q0e(s:Str)(c:Nat):occurrences s ⟨#[c]⟩ 0 s.length (s.length+1)=(List.range' 0 s.length).filter λi=>s.cps[i]?==some c:=by
 rw[StrLaws.occ_eq,qjy s c s.length (s.length+1) rfl _ 0 (#[],0) rfl (Nat.zero_le _) (Nat.le_refl _) (by simp)]
 simp
theorem qd7(s:Str)(a k:Nat):(strSub s a k).cps.toList=(s.cps.toList.drop a).take (k-a):=by
 unfold strSub
 simp[Array.toList_extract,List.extract]
theorem qj3(s:Str)(c:Nat):∀(m a:Nat),s.length-a=m->a<=s.length->∀(b:Nat),b<=a->c∉(s.cps.toList.drop b).take (a-b) ->
  (StrLaws.partsFrom s 1 b ((List.range' a m).filter λi=>s.cps[i]?==some c)).map (·.cps.toList)=sp c (s.cps.toList.drop b)
|0,a,hm,ha,b,hb,hf=>by
  have e:a=s.length:=by lia
  have el:s.cps.toList.length=s.length:=rfl
  show [(strSub s b s.length).cps.toList]=_
  rw[qd7,qh7]
  ·rw[List.take_of_length_le (by rw[List.length_drop,el];exact Nat.le_refl _)]
  ·rw[e,List.take_of_length_le (by rw[List.length_drop,el];exact Nat.le_refl _)] at hf
   exact hf
|m+1,a,hm,ha,b,hb,hf=>by
  have hs:a<s.cps.toList.length:=by show a<s.length;lia
  have hs':a<s.cps.size:=hs
  have ed:s.cps.toList.drop a=s.cps.toList[a]::s.cps.toList.drop (a+1):=List.drop_eq_getElem_cons hs
  have eb:s.cps.toList.drop b=(s.cps.toList.drop b).take (a-b)++s.cps.toList.drop a:=by
   have:(s.cps.toList.drop b).drop (a-b)=s.cps.toList.drop a:=by rw[List.drop_drop];congr 1;lia
   rw[←this,List.take_append_drop]
  have eg:s.cps[a]?=some s.cps.toList[a]:=by rw[Array.getElem?_eq_getElem hs'];rfl
  rw[List.range'_succ,List.filter_cons]
  by_cases hc:s.cps.toList[a]=c
  ·rw[if_pos (by rw[eg,hc];simp)]
   show (strSub s b a).cps.toList::(StrLaws.partsFrom s 1 (a+1) _).map (·.cps.toList)=_
   rw[qj3 s c m (a+1) (by lia) (by lia) (a+1) (Nat.le_refl _) (by simp),qd7]
   conv=>rhs;rw[eb,ed,hc,qi5 c _ _ hf]
  ·rw[if_neg (by rw[eg];simpa using hc)]
   refine qj3 s c m (a+1) (by lia) (by lia) b (by lia) ?_
   have e2:(s.cps.toList.drop b).take (a+1-b)=(s.cps.toList.drop b).take (a-b)++[s.cps.toList[a]]:=by
    rw[show a+1-b=(a-b)+1 by lia,List.take_succ]
    congr 1
    rw[List.getElem?_drop,show b+(a-b)=a by lia,List.getElem?_eq_getElem hs]
    rfl
   rw[e2,List.mem_append]
   rintro (z|z)
   ·exact hf z
   ·exact hc (List.mem_singleton.mp z).symm
theorem qov{c:Nat}(h:c<256):Builtin.Str.strKind (⟨#[c]⟩:Str)=1:=by
 unfold Builtin.Str.strKind
 rw[if_pos (by simpa using h)]
theorem qsz(s:Str):1<=Builtin.Str.strKind s:=by
 unfold Builtin.Str.strKind
 repeat' split
 all_goals lia
theorem qxa(s:Str){c:Nat}(h:c<256):(Txt.split s ⟨#[c]⟩).map (·.cps.toList)=sp c s.cps.toList:=by
 have one:(⟨#[c]⟩:Str).length=1:=rfl
 unfold Txt.split
 by_cases h0:s.length=0
 ·rw[if_pos (by rw[one,h0];rfl)]
  have e:s.cps.toList=[]:=List.eq_nil_of_length_eq_zero h0
  show [s.cps.toList]=_
  rw[e]
  rfl
 ·rw[if_neg (by
   rw[one,qov h]
   have:=qsz s
   simp
   lia),q0e]
  have hp:=qj3 s c s.length 0 (by lia) (Nat.zero_le _) 0 (Nat.le_refl _) (by simp)
  rw[List.drop_zero] at hp
  by_cases he:((List.range' 0 s.length).filter λi=>s.cps[i]?==some c).isEmpty=true
  ·rw[if_pos he]
   rw[List.isEmpty_iff.mp he] at hp
   rw[←hp]
   show [s.cps.toList]=[(strSub s 0 s.length).cps.toList]
   rw[qd7,List.drop_zero,List.take_of_length_le (show s.cps.toList.length<=s.length-0 from Nat.le_refl _)]
  ·rw[if_neg he,one,StrLaws.partsBetween_eq]
   exact hp
theorem q1x(a b:Nat):sliceRange a b 1=List.range' a (b-a):=by
 unfold sliceRange
 have e:(if (1:Int)>0 then (if (a:Int)<b then ((b:Int)-a+1-1) / 1 else 0) else (if (a:Int)>b then ((a:Int)-b-1-1) / (-1) else 0)).toNat=b-a:=by
  rw[if_pos (by decide)]
  split
  ·rw[Int.ediv_one];lia
  ·lia
 show (List.range _).map _=_
 rw[e,List.range'_eq_map_range]
 refine List.map_congr_left λk _=>?_
 lia
theorem qzu(l u:Option Int)(n:Nat):strSliceIndices l u 1 n=List.range' (HT.sIx n 0 l) (HT.sIx n n u-HT.sIx n 0 l):=by
 rw[←q1x]
 unfold strSliceIndices
 have c:∀(v:Int),max 0 (min (if v<0 then v+(n:Int) else v) n)=((HT.sIx n 0 (some v):Nat):Int):=λv=>by
  show _=(((if v<0 then (v+(n:Int)).toNat else min v.toNat n):Nat):Int)
  split<;>lia
 have c2:∀(v:Int),HT.sIx n n (some v)=HT.sIx n 0 (some v):=λ_=>rfl
 have go:∀(a b:Int) (x y:Nat),a=x->b=y->sliceRange a b 1=sliceRange x y 1:=λa b x y h1 h2=>by rw[h1,h2]
 cases l with
|none =>
  cases u with
 |none=>exact go _ _ _ _ rfl rfl
 |some v=>exact go _ _ _ _ rfl (by rw[c2,←c v];rfl)
|some v =>
  cases u with
 |none=>exact go _ _ _ _ (by rw[←c v];rfl) rfl
 |some w=>exact go _ _ _ _ (by rw[←c v];rfl) (by rw[c2,←c w];rfl)
theorem qon(xs:Array Nat):∀(m a:Nat),a+m<=xs.size->(List.range' a m).filterMap (xs[·]?)=(xs.toList.drop a).take m
|0,a,_=>by simp
|m+1,a,h=>by
  have hs:a<xs.toList.length:=by show a<xs.size;lia
  rw[List.range'_succ,List.filterMap_cons,Array.getElem?_eq_getElem (show a<xs.size by lia)]
  show xs[a]::_=_
  rw[qon xs m (a+1) (by lia),List.drop_eq_getElem_cons hs,List.take_succ_cons]
  rfl
theorem slice_list(z:Str)(l u:Option Int):(Txt.slice z l u).cps.toList=cutL z.cps.toList l u:=by
 unfold Txt.slice cutL
 have el:z.cps.toList.length=z.length:=rfl
 have h1:=HT.sIx_le z.length 0 (Nat.zero_le _) l
 have h2:=HT.sIx_le z.length z.length (Nat.le_refl _) u
 rw[qzu,el]
 by_cases h:HT.sIx z.length z.length u-HT.sIx z.length 0 l=z.length
 ·rw[if_pos (by simpa using h),h]
  have e0:HT.sIx z.length 0 l=0:=by lia
  rw[e0,List.drop_zero,List.take_of_length_le (Nat.le_of_eq el)]
 ·rw[if_neg (by simpa using h)]
  show List.filterMap _ _=_
  by_cases hz:HT.sIx z.length 0 l<=HT.sIx z.length z.length u
  ·exact qon z.cps _ _ (by show _<=z.length;lia)
  ·rw[show HT.sIx z.length z.length u-HT.sIx z.length 0 l=0 by lia]
   simp
def mkS(l:List Nat):Str:=⟨l.toArray⟩
theorem qdm(z:Str):mkS z.cps.toList=z:=by unfold mkS;simp
theorem qb6(l:List Nat):(mkS l).length=l.length:=by unfold mkS Str.length;simp
theorem qdh{a b:Str}(h:a.cps.toList=b.cps.toList):a=b:=by rw[←qdm a,←qdm b,h]
theorem qfs(s:Str){c:Nat}(h:c<256):Txt.split s ⟨#[c]⟩=(sp c s.cps.toList).map mkS:=by
 rw[←qxa s h,List.map_map]
 refine(List.map_id _).symm.trans (List.map_congr_left λz _=>?_)
 exact(qdm z).symm
theorem qq2(s:Str)(c:Nat):Txt.startswith s ⟨#[c]⟩=(s.cps.toList.head?==some c):=by
 unfold Txt.startswith
 have one:(⟨#[c]⟩:Str).length=1:=rfl
 rw[one]
 cases hl:s.cps.toList with
|nil =>
  have e:s=mkS []:=by rw[←hl,qdm]
  rw[e]
  rfl
|cons x xs =>
  have e:s=mkS (x::xs):=by rw[←hl,qdm]
  have hsz:s.length=xs.length+1:=by rw[e,qb6];rfl
  rw[decide_eq_true (by lia:0+1<=s.length),Bool.true_and]
  unfold subAt
  rw[one]
  have ex:s.cps.extract 0 (0+1)=#[x]:=by
   apply Array.toList_inj.mp
   rw[Array.toList_extract,hl]
   simp[List.extract]
  rw[ex]
  apply qbc
  simp
theorem qph(c:Nat):∀xs:List Nat,(sp c xs).length<=xs.length+1
|[]=>Nat.le_refl _
|x::xs=>by
  have:=qph c xs
  unfold sp
  split
  ·simp;lia
  ·split
   ·simp
   ·rename_i h
    rw[h] at this
    simp at this ⊢
    lia
theorem qkg(c:Nat):∀(xs:List Nat),∀p∈sp c xs,p.length<=xs.length
|[],p,h=>by
  have:p=[]:=by simpa [sp] using h
  rw[this]
  exact Nat.le_refl _
|x::xs,p,h=>by
  have ih:=qkg c xs
  unfold sp at h
  split at h
  ·rcases List.mem_cons.mp h with rfl|h
   ·simp
   ·have:=ih p h
    simp;lia
  ·split at h
   ·rename_i e
    exact absurd e (qq1 c xs)
   ·rename_i q qs e
    rw[e] at ih
    rcases List.mem_cons.mp h with rfl|h
    ·have:=ih q (List.mem_cons_self ..)
     simp;lia
    ·have:=ih p (List.mem_cons_of_mem _ h)
     simp;lia
end L2
namespace L2
open PySem PySem.Spec PyProof.Rows
section
variable {X:Cx} {EX:St->XK} {K:PySem.W.Frag} {o e:Expr} {to te:TV} {apos cpos:Pos} {τ:VSt} {σ:St} {B H H0:Hp}
end
end L2
namespace L2
open PySem PySem.W PyProof.Rows
section
variable {α β:Type}
def kRun(lt:Nat->Nat->Bool):KasT α->α
|.ret a=>a
|.ask i j k=>kRun lt (k (lt i j))
def kOk(n:Nat)(lt:Nat->Nat->Bool):KasT α->Prop
|.ret _=>True
|.ask i j k=>i<n/\j<n/\kOk n lt (k (lt i j))
theorem qcg(lt:Nat->Nat->Bool)(f:α->KasT β):∀t:KasT α,kRun lt (t.bind f)=kRun lt (f (kRun lt t))
|.ret _=>rfl
|.ask i j k=>qcg lt f (k (lt i j))
theorem qc7{n:Nat}{lt:Nat->Nat->Bool}{f:α->KasT β}:∀ {t:KasT α},kOk n lt t->kOk n lt (f (kRun lt t))->kOk n lt (t.bind f)
|.ret _,_,h=>h
|.ask i j k,⟨a,b,c⟩,h=>⟨a,b,qc7 c h⟩
theorem qec{lt:Nat->Nat->Bool}{i j:Nat}{b:Bool}{k:Bool->KasT α}(e:lt i j=b):kRun lt (.ask i j k)=kRun lt (k b):=by
 show kRun lt (k (lt i j))=_
 rw[e]
theorem qgk{n:Nat}{lt:Nat->Nat->Bool}{i j:Nat}{b:Bool}{k:Bool->KasT α}(hi:i<n)(hj:j<n)(e:lt i j=b)(h:kOk n lt (k b)):kOk n lt (.ask i j k):=⟨hi,hj,by rw[e];exact h⟩
theorem qsw{cmp:Nat->Nat->(Bool->Shared->Prop)->Shared->Prop}{n:Nat}{lt:Nat->Nat->Bool}{P:Shared->Prop}{Q:α->Shared->Prop}(hc:∀i j C s,i<n->j<n->P s->(∀s',P s'->C (lt i j) s')->cmp i j C s) :
  ∀(t:KasT α) (s:Shared),kOk n lt t->P s->(∀s',P s'->Q (kRun lt t) s')->t.kasWp cmp Q s
|.ret _,s,_,hp,hq=>hq s hp
|.ask i j k,s,⟨hi,hj,hk⟩,hp,hq=>hc i j _ s hi hj hp λs' hp'=>qsw hc (k (lt i j)) s' hk hp' hq
end
structure LtOk(n:Nat)(lt:Nat->Nat->Bool):Prop where
 tr:∀a b c,a<n->b<n->c<n->lt a b=true->lt b c=true->lt a c=true
 as:∀a b,a<n->b<n->lt a b=true->lt b a=false
 tot:∀a b,a<n->b<n->a≠b->lt a b=true\/lt b a=true
section
variable {n:Nat} {lt:Nat->Nat->Bool} {p:Array Nat}
structure PermOk(n:Nat)(p:Array Nat):Prop where
 sz:p.size=n
 lt:∀i,i<n->p.getD i 0<n
 inj:∀i j,i<n->j<n->p.getD i 0=p.getD j 0->i=j
theorem qcy(p:Array Nat)(i:Nat):p.getD i 0=(p[i]?).getD 0:=by
 by_cases h:i<p.size
 ·simp[Array.getD,h]
 ·simp[Array.getD,h]
theorem PermOk.of(hp:p.Perm (List.range n).toArray):PermOk n p where
 sz:=by rw[hp.size_eq];simp
 lt:=λi hi=>by
  have hs:p.size=n:=by rw[hp.size_eq];simp
  have hm:p[i]'(by lia)∈p:=Array.getElem_mem _
  have:p[i]'(by lia)∈(List.range n).toArray:=hp.mem_iff.mp hm
  rw[qcy,Array.getElem?_eq_getElem (by lia)]
  simpa using this
 inj:=λi j hi hj e=>by
  have hs:p.size=n:=by rw[hp.size_eq];simp
  have nd:p.toList.Nodup:=by
   have:=hp.toList
   rw[this.nodup_iff]
   simp[List.nodup_range]
  rw[qcy,qcy,Array.getElem?_eq_getElem (by lia),Array.getElem?_eq_getElem (by lia)] at e
  have e':p.toList[i]'(by simp;lia)=p.toList[j]'(by simp;lia):=by simpa using e
  exact(List.getElem_inj nd).mp e'
def SPr(lt:Nat->Nat->Bool)(p:Array Nat)(k:Nat):Prop:=∀i j,i<j->j<k->lt (p.getD i 0) (p.getD j 0)=true
def DPr(lt:Nat->Nat->Bool)(p:Array Nat)(k:Nat):Prop:=∀i j,i<j->j<k->lt (p.getD j 0) (p.getD i 0)=true
theorem SPr.snoc(L:LtOk n lt)(P:PermOk n p){k:Nat}(h:SPr lt p k)(hk:k<n)(h1:1<=k)(e:lt (p.getD k 0) (p.getD (k-1) 0)=false):SPr lt p (k+1):=λi j hi hj=>by
 have l1:lt (p.getD (k-1) 0) (p.getD k 0)=true:=by
  rcases L.tot _ _ (P.lt (k-1) (by lia)) (P.lt k hk) (λz=>by have:=P.inj _ _ (by lia) hk z;lia) with q|q
  ·exact q
  ·rw[e] at q;cases q
 by_cases hjk:j=k
 ·subst hjk
  by_cases hik:i=j-1
  ·rw[hik];exact l1
  ·exact L.tr _ _ _ (P.lt i (by lia)) (P.lt (j-1) (by lia)) (P.lt j hk) (h i (j-1) (by lia) (by lia)) l1
 ·exact h i j hi (by lia)
theorem DPr.snoc(L:LtOk n lt)(P:PermOk n p){k:Nat}(h:DPr lt p k)(hk:k<n)(h1:1<=k)(e:lt (p.getD k 0) (p.getD (k-1) 0)=true):DPr lt p (k+1):=λi j hi hj=>by
 by_cases hjk:j=k
 ·subst hjk
  by_cases hik:i=j-1
  ·rw[hik];exact e
  ·exact L.tr _ _ _ (P.lt j hk) (P.lt (j-1) (by lia)) (P.lt i (by lia)) e (h i (j-1) (by lia) (by lia))
 ·exact h i j hi (by lia)
theorem qrt(L:LtOk n lt)(P:PermOk n p):∀(f m:Nat),1<=m->m+f<=n->SPr lt p m->kOk n lt (kas_asc p f m)/\∃m',kRun lt (kas_asc p f m)=m'/\m<=m'/\m'<=m+f/\SPr lt p m'/\(m'=m+f\/lt (p.getD m' 0) (p.getD (m' - 1) 0)=true)
|0,m,h1,hf,hs=>⟨trivial,m,rfl,Nat.le_refl _,Nat.le_refl _,hs,.inl rfl⟩
|f+1,m,h1,hf,hs=>by
  cases e:lt (p.getD m 0) (p.getD (m-1) 0) with
 |true =>
   refine⟨qgk (P.lt m (by lia)) (P.lt (m-1) (by lia)) e ?_,m,(qec e).trans ?_,Nat.le_refl _,by lia,hs,.inr e⟩
   ·trivial
   ·rfl
 |false =>
   obtain⟨a,m',r,b,c,d,g⟩:=qrt L P f (m+1) (by lia) (by lia) (hs.snoc L P (by lia) h1 e)
   refine⟨qgk (P.lt m (by lia)) (P.lt (m-1) (by lia)) e a,m',(qec e).trans r,by lia,by lia,d,?_⟩
   rcases g with g|g
   ·left;lia
   ·exact .inr g
theorem qr8(L:LtOk n lt)(P:PermOk n p):∀(f m:Nat),1<=m->m+f<=n->DPr lt p m->kOk n lt (kas_desc f p m 0)/\∃m',kRun lt (kas_desc f p m 0)=(p,m',0)/\m<=m'/\m'<=m+f/\DPr lt p m'
|0,m,h1,hf,hs=>⟨trivial,m,rfl,Nat.le_refl _,Nat.le_refl _,hs⟩
|f+1,m,h1,hf,hs=>by
  cases e:lt (p.getD m 0) (p.getD (m-1) 0) with
 |true =>
   obtain⟨a,m',b,c,d,g⟩:=qr8 L P f (m+1) (by lia) (by lia) (hs.snoc L P (by lia) h1 e)
   exact⟨qgk (P.lt m (by lia)) (P.lt (m-1) (by lia)) e a,m',(qec e).trans b,by lia,by lia,g⟩
 |false =>
   have l1:lt (p.getD (m-1) 0) (p.getD m 0)=true:=by
    rcases L.tot _ _ (P.lt (m-1) (by lia)) (P.lt m (by lia)) (λz=>by have:=P.inj _ _ (by lia) (by lia) z;lia) with q|q
    ·exact q
    ·rw[e] at q;cases q
   exact⟨qgk (P.lt m (by lia)) (P.lt (m-1) (by lia)) e (qgk (P.lt (m-1) (by lia)) (P.lt m (by lia)) l1 trivial),m,(qec e).trans ((qec l1).trans rfl),Nat.le_refl _,by lia,hs⟩
theorem qhu{j:Nat}(hj:j<=p.size)(k:Nat):(kas_rev p 0 j).getD k 0=if k<j then p.getD (j-1-k) 0 else p.getD k 0:=by
 rw[qcy,kas_rev,getElem?_mirror_all hj k]
 by_cases h:k<j
 ·rw[if_pos ⟨Nat.zero_le _,h⟩,if_pos h,qcy,Nat.zero_add]
 ·rw[if_neg (λz=>h z.2),if_neg h,qcy]
theorem q1u{j:Nat}(hj:j<=p.size)(h:DPr lt p j):SPr lt (kas_rev p 0 j) j:=λa b hab hb=>by
 rw[qhu hj,qhu hj,if_pos (by lia),if_pos hb]
 exact h (j-1-b) (j-1-a) (by lia) (by lia)
theorem qxe(L:LtOk n lt)(hp:p.Perm (List.range n).toArray){m:Nat}(h1:1<=m)(hm:m<=n)(h:DPr lt p m):kOk n lt (kas_tail3 m n p)/\∃k q,kRun lt (kas_tail3 m n p)=(k,q)/\1<=k/\k<=n/\q.Perm p/\SPr lt q k:=by
 have hq:(kas_rev p 0 m).Perm p:=mirror_perm _ _ _ _
 have P:=PermOk.of (hq.trans hp)
 obtain⟨a,k,r,b,c,d,_⟩:=qrt L P (n-m) m h1 (by lia) (q1u (by rw[(PermOk.of hp).sz];exact hm) h)
 refine⟨qc7 a trivial,k,kas_rev p 0 m,?_,by lia,by lia,hq,d⟩
 unfold kas_tail3
 rw[qcg,r]
 rfl
theorem qmx(L:LtOk n lt)(hp:p.Perm (List.range n).toArray){m:Nat}(hm:m+1<=n)(h:DPr lt p (m+1)):kOk n lt (kas_descPart m n p)/\∃k q,kRun lt (kas_descPart m n p)=(k,q)/\1<=k/\k<=n/\q.Perm p/\SPr lt q k:=by
 have P:=PermOk.of hp
 obtain⟨a,m',r,b,c,d⟩:=qr8 L P (n-(m+1)) (m+1) (by lia) (by lia) h
 obtain⟨a2,k,q,r2,e⟩:=qxe L hp (m:=m') (by lia) (by lia) d
 refine⟨qc7 a ?_,k,q,?_,e⟩
 ·rw[r]
  exact a2
 ·unfold kas_descPart
  rw[qcg,r]
  exact r2
theorem qvi(L:LtOk n lt)(hp:p.Perm (List.range n).toArray)(h1:1<=n):kOk n lt (kas_count n p)/\∃m q,kRun lt (kas_count n p)=(m,q)/\1<=m/\m<=n/\q.Perm p/\SPr lt q m:=by
 have P:=PermOk.of hp
 obtain⟨a,m,r,b,c,d,g⟩:=qrt L P (n-1) 1 (Nat.le_refl _) (by lia) (λi j hi hj=>by lia)
 by_cases hn:m=n
 ·refine⟨qc7 a ?_,m,p,?_,b,by lia,.refl _,d⟩
  ·rw[r,if_pos (by simp[hn])]
   trivial
  ·unfold kas_count
   rw[qcg,r,if_pos (by simp[hn])]
   rfl
 ·have ne:¬ (m==n)=true:=by simp[hn]
  by_cases hm:m>1
  ·have e:lt (p.getD 0 0) (p.getD (m-1) 0)=true:=d 0 (m-1) (by lia) (by lia)
   refine⟨qc7 a ?_,m,p,?_,b,by lia,.refl _,d⟩
   ·rw[r,if_neg ne,if_pos hm]
    exact qgk (P.lt 0 (by lia)) (P.lt (m-1) (by lia)) e trivial
   ·unfold kas_count
    rw[qcg,r,if_neg ne,if_pos hm,qec e]
    rfl
  ·have hm1:m=1:=by lia
   have e:lt (p.getD 1 0) (p.getD 0 0)=true:=by
    rcases g with g|g
    ·exact absurd (by lia) hn
    ·rw[hm1] at g;exact g
   have D2:DPr lt p (m+1):=λi j hi hj=>by
    have:i=0:=by lia
    have:j=1:=by lia
    subst_vars
    exact e
   obtain⟨a2,k,q,r2,e2⟩:=qmx L hp (m:=m) (by lia) D2
   refine⟨qc7 a ?_,k,q,?_,e2⟩
   ·rw[r,if_neg ne,if_neg hm]
    exact a2
   ·unfold kas_count
    rw[qcg,r,if_neg ne,if_neg hm]
    exact r2
theorem qj4(L:LtOk n lt)(P:PermOk n p){k:Nat}(hk:k<n):∀(f l r:Nat),l<=r->r<=k->r-l<=f->SPr lt p k->(∀i,i<l->lt (p.getD i 0) (p.getD k 0)=true)->(∀i,r<=i->i<k->lt (p.getD k 0) (p.getD i 0)=true) ->
  kOk n lt (kas_place p k f l r)/\∃l',kRun lt (kas_place p k f l r)=l'/\l'<=k/\(∀i,i<l'->lt (p.getD i 0) (p.getD k 0)=true)/\(∀i,l'<=i->i<k->lt (p.getD k 0) (p.getD i 0)=true)
|0,l,r,hlr,hrk,hf,hs,h1,h2=>by
  have:l=r:=by lia
  subst this
  exact⟨trivial,l,rfl,hrk,h1,h2⟩
|f+1,l,r,hlr,hrk,hf,hs,h1,h2=>by
  unfold kas_place
  by_cases hge:l≥r
  ·have:l=r:=by lia
   subst this
   rw[if_pos hge]
   exact⟨trivial,l,rfl,hrk,h1,h2⟩
  ·rw[if_neg hge]
   have hmk:(l+r) / 2<k:=by lia
   cases e:lt (p.getD k 0) (p.getD ((l+r) / 2) 0) with
  |true =>
    obtain⟨a,l',q,b,c,d⟩:=qj4 L P hk f l ((l+r) / 2) (by lia) (by lia) (by lia) hs h1 (λi hi hik=>by
     by_cases z:i=(l+r) / 2
     ·rw[z];exact e
     ·exact L.tr _ _ _ (P.lt k hk) (P.lt _ (by lia)) (P.lt i (by lia)) e (hs ((l+r) / 2) i (by lia) hik))
    exact⟨qgk (P.lt k hk) (P.lt _ (by lia)) e a,l',(qec e).trans q,b,c,d⟩
  |false =>
    have l1:lt (p.getD ((l+r) / 2) 0) (p.getD k 0)=true:=by
     rcases L.tot _ _ (P.lt ((l+r) / 2) (by lia)) (P.lt k hk) (λz=>by have:=P.inj _ _ (by lia) hk z;lia) with q|q
     ·exact q
     ·rw[e] at q;cases q
    obtain⟨a,l',q,b,c,d⟩:=qj4 L P hk f ((l+r) / 2+1) r (by lia) hrk (by lia) hs (λi hi=>by
     by_cases z:i=(l+r) / 2
     ·rw[z];exact l1
     ·exact L.tr _ _ _ (P.lt i (by lia)) (P.lt ((l+r) / 2) (by lia)) (P.lt k hk) (hs i ((l+r) / 2) (by lia) hmk) l1) h2
    exact⟨qgk (P.lt k hk) (P.lt _ (by lia)) e a,l',(qec e).trans q,b,c,d⟩
theorem qmt{src d:Nat}(hs:src<p.size)(hd:d<=src)(k:Nat):(bubble p src d).getD k 0=if k=src-d then p.getD src 0 else if src-d<k/\k<=src then p.getD (k-1) 0 else p.getD k 0:=by
 rw[qcy,getElem?_bubble hs d hd k]
 by_cases h1:k=src-d
 ·rw[if_pos h1,if_pos h1,qcy]
 ·rw[if_neg h1,if_neg h1]
  by_cases h2:src-d<k/\k<=src
  ·rw[if_pos h2,if_pos h2,qcy]
  ·rw[if_neg h2,if_neg h2,qcy]
theorem qxy(L:LtOk n lt):∀(f k:Nat) (p:Array Nat),p.Perm (List.range n).toArray->1<=k->k+f<=n->SPr lt p k->kOk n lt (kas_bin f p k)/\∃q,kRun lt (kas_bin f p k)=q/\q.Perm p/\SPr lt q (k+f)
|0,k,p,hp,h1,hf,hs=>⟨trivial,p,rfl,.refl _,hs⟩
|f+1,k,p,hp,h1,hf,hs=>by
  have P:=PermOk.of hp
  obtain⟨a,l,r,b,c,d⟩:=qj4 L P (k:=k) (by lia) k 0 k (Nat.zero_le _) (Nat.le_refl _) (by lia) hs (λi hi=>by lia) (λi hi hk=>by lia)
  have hq:(bubble p k (k-l)).Perm p:=bubble_perm _ _ _
  have G:=qmt (p:=p) (src:=k) (d:=k-l) (by rw[P.sz];lia) (by lia)
  have hs2:SPr lt (bubble p k (k-l)) (k+1):=λi j hi hj=>by
   rw[G i,G j]
   have ekl:k-(k-l)=l:=by lia
   rw[ekl]
   by_cases i1:i=l
   ·rw[if_pos i1,if_neg (by lia),if_pos (by lia)]
    exact d (j-1) (by lia) (by lia)
   ·rw[if_neg i1]
    by_cases j1:j=l
    ·rw[if_pos j1,if_neg (by lia)]
     exact c i (by lia)
    ·rw[if_neg j1]
     by_cases i2:l<i
     ·rw[if_pos (by lia),if_pos (by lia)]
      exact hs (i-1) (j-1) (by lia) (by lia)
     ·rw[if_neg (by lia)]
      by_cases j2:l<j
      ·rw[if_pos (by lia)]
       exact hs i (j-1) (by lia) (by lia)
      ·rw[if_neg (by lia)]
       exact hs i j hi (by lia)
  obtain⟨a2,q,r2,e1,e2⟩:=qxy L f (k+1) _ (hq.trans hp) (by lia) (by lia) hs2
  refine⟨qc7 a (by rw[r];exact a2),q,?_,e1.trans hq,by rw[show k+(f+1)=k+1+f by lia];exact e2⟩
  unfold kas_bin
  rw[qcg,r]
  exact r2
theorem q11(L:LtOk n lt)(h1:1<=n):kOk n lt (kas_sort n)/\∃q,kRun lt (kas_sort n)=q/\q.Perm (List.range n).toArray/\SPr lt q n:=by
 obtain⟨a,m,q,r,b,c,d,e⟩:=qvi L (.refl _) h1
 by_cases hm:m<n
 ·obtain⟨a2,q2,r2,e1,e2⟩:=qxy L (n-max m 1) (max m 1) q d (by lia) (by lia) (by rw[Nat.max_eq_left b];exact e)
  refine⟨qc7 a ?_,q2,?_,e1.trans d,?_⟩
  ·rw[r,if_pos hm]
   exact a2
  ·unfold kas_sort
   rw[qcg,r,if_pos hm]
   exact r2
  ·rw[show max m 1+(n-max m 1)=n by lia] at e2
   exact e2
 ·have:m=n:=by lia
  subst this
  refine⟨qc7 a ?_,q,?_,d,e⟩
  ·rw[r,if_neg hm]
   trivial
  ·unfold kas_sort
   rw[qcg,r,if_neg hm]
   rfl
end
end L2
namespace L2
open PySem PySem.Spec PyProof.Rows PySem.W
def LtA(A:Around)(s:Shared)(x y:Value)(c:Bool):Prop:=∀(prog:Program) (w:World) (E:Value->Shared->Prop) (Q:Value->Shared->Prop),Q (.bool c) s->wpAny (model prog w) A (richCompare .Lt x y) Q E s
def LtC(A:Around)(s:Shared)(p q:Addr)(c:Bool):Prop:=∀(prog:Program) (w:World) (E:Value->Shared->Prop) (Q:Value->Shared->Prop),Q (.bool c) s->wpAny (model prog w) A (call (.builtin "tuple.__lt__") [.ref p,.ref q]) Q E s
def lexV(e l:Nat->Bool)(z:Bool):Nat->Nat->Bool
|0,_=>z
|k+1,i=>if e i=true then lexV e l z k (i+1) else l i
theorem qyy(p q:Addr)(us ws:Array Value)(m k:Nat)(dp dq:Option Addr)(sp sq:Array (Option Value))(e c:Nat->Bool) :
  Meets (Builtin.«tuple.__lt__» ⟨[.ref p,.ref q],[]⟩)
   (λA R s=>s.heap.get? p=some { cls:=.type "tuple",dict:=dp,data:=.seq us m,slots:=sp }/\s.heap.get? q=some { cls:=.type "tuple",dict:=dq,data:=.seq ws k,slots:=sq } /\
    (∀j (h1:j<us.size) (h2:j<ws.size),SeqAt.EqAt A.in1 s us[j] ws[j] (e j))/\(∀j (h1:j<us.size) (h2:j<ws.size),e j=false->LtA A.in1 s us[j] ws[j] (c j)) /\
    R (.ok (.ret (.bool (lexV e c (decide (us.size<ws.size)) (min us.size ws.size) 0)))) s) :=
 .of_wp λprog w A R s h=>by
  obtain⟨h1,g1,d1,t1,o1⟩:=s
  obtain⟨hl,hb,he,hc,hR0⟩:=h
  have f2:=AutoSeq1.sub_tuple_tuple
  have hZ:(us.toList.zip ws.toList).length=min us.size ws.size:=by simp
  wp_walk using wpAny_loadPart' hl,wpAny_loadPart' hb,wpAny_forIn_list _ (λrest b s'=>b.1=none/\s'=⟨h1,g1,d1,t1,o1⟩/\∃i k,i+k=min us.size ws.size/\rest=(us.toList.zip ws.toList).drop i /\
   R (.ok (.ret (.bool (lexV e c (decide (us.size<ws.size)) k i)))) ⟨h1,g1,d1,t1,o1⟩) _
  case turn =>
   rintro⟨y,x⟩ rest b s' ⟨hb',rfl,i,k,hik,hz,hR⟩
   have hm:i<(us.toList.zip ws.toList).length:=by
    apply Nat.lt_of_not_le
    intro z
    rw[List.drop_of_length_le z] at hz
    cases hz
   have l1:i<us.size:=by lia
   have l2:i<ws.size:=by lia
   rw[List.drop_eq_getElem_cons hm] at hz
   injection hz with hyx hrest
   obtain rfl:y=us[i]:=by simpa using congrArg Prod.fst hyx
   obtain rfl:x=ws[i]:=by simpa using congrArg Prod.snd hyx
   obtain⟨k,rfl⟩:∃k',k=k'+1:=⟨k-1,by lia⟩
   have hR':R (.ok (.ret (.bool (if e i=true then lexV e c (decide (us.size<ws.size)) k (i+1) else c i)))) ⟨h1,g1,d1,t1,o1⟩:=hR
   refine wpAny_bind (he i l1 l2 prog w _ _ ?_)
   cases hy:e i with
  |true =>
    rw[hy,if_pos rfl] at hR'
    wp_walk
    exact⟨rfl,rfl,i+1,k,by lia,hrest,hR'⟩
  |false =>
    rw[hy,if_neg (by decide)] at hR'
    simp only[Bool.not_false,if_true]
    refine wpAny_bind (wpAny_rule (wpAny_bind (hc i l1 l2 hy prog w _ _ ?_)))
    wp_walk
    exact⟨_,rfl,hR'⟩
  case fin =>
   rintro⟨b1,b2⟩ s' ⟨hb',rfl,i,k,hik,hz,hR⟩
   simp only at hb'
   subst hb'
   have hk:k=0:=by
    rcases Nat.lt_or_ge i (us.toList.zip ws.toList).length with z|z
    ·rw[List.drop_eq_getElem_cons z] at hz;cases hz
    ·lia
   subst hk
   wp_walk
   exact⟨_,rfl,by simpa [Builtin.Tuple.tupleCompareSizes,lexV] using hR⟩
  case h =>
   exact⟨rfl,rfl,0,_,Nat.zero_add _,rfl,hR0⟩
section
variable {A:Around} {s:Shared} {p q:Addr} {us ws:Array Value} {e c:Nat->Bool}
theorem LtA.tups(hp:s.heap.IsTuple p us)(hq:s.heap.IsTuple q ws)(hu:A.units<cLine)(he:∀j (h1:j<us.size) (h2:j<ws.size),SeqAt.EqAt A.in1 s us[j] ws[j] (e j))
  (hc:∀j (h1:j<us.size) (h2:j<ws.size),e j=false->LtA A.in1 s us[j] ws[j] (c j)):LtA A s (.ref p) (.ref q) (lexV e c (decide (us.size<ws.size)) (min us.size ws.size) 0)/\LtC A s p q (lexV e c (decide (us.size<ws.size)) (min us.size ws.size) 0):=by
 obtain⟨⟨cl1,dp,da1,sp⟩,o1,z1,m,y1⟩:=id hp
 obtain⟨⟨cl2,dq,da2,sq⟩,o2,z2,k,y2⟩:=id hq
 cases z1;cases y1;cases z2;cases y2
 refine⟨λprog w E Q h=>?_,λprog w E Q h=>call_meets F.slot_tuple_lt ⟨_,o1,rfl⟩ F.entry_tuple_lt (F.args_tuple_lt_2 _ _) (qyy p q us ws m k dp dq sp sq e c) ⟨o1,o2,he,hc,h⟩⟩
 exact richCompare_meets_room (op:=.Lt) ⟨_,o1,rfl⟩ ⟨_,o2,rfl⟩ F.slot_tuple_lt F.entry_tuple_lt (F.args_tuple_lt_2 _ _) (qyy p q us ws m k dp dq sp sq e c) ⟨o1,o2,he,hc,(λx=>nomatch x),h⟩ hu
theorem LtA.strs{a b:Str}{t u:Tok}:LtA A s (.str a t) (.str b u) (decide (a.cps.toList<b.cps.toList)):=λprog w E Q h=>by
 refine wpAny_richCompare_same_or (typeIs_str s a t) (typeIs_str s b u) slot_str_lt (call_str_lt (Q:=λv s'=>v≠.notImplemented/\Q v s') ⟨(λx=>nomatch x),h⟩) (.inl rfl)
end
mutual
noncomputable def ltD:D->D->Bool
|.str a,.str b=>decide (a.cps.toList<b.cps.toList)
|.tup ds,.tup es=>ltDs ds es
|_,_=>false
noncomputable def ltDs:List D->List D->Bool
|[],[]=>false
|[],_::_=>true
|_::_,[]=>false
|d::ds,e::es=>if eqD d e=true then ltDs ds es else ltD d e
end
mutual
def ordD:D->D->Bool
|.str _,.str _=>true
|.tup ds,.tup es=>qdk ds es
|_,_=>false
def qdk:List D->List D->Bool
|d::ds,e::es=>ordD d e&&qdk ds es
|_,_=>true
end
mutual
theorem qtk:∀(d e:D),ordD d e=true->cmpD d e=true
|.str _,e,h=>by
  cases e<;>first|rfl|(unfold ordD at h;cases h)
|.tup ds,e,h=>by
  cases e<;>first|(unfold ordD at h;cases h;done)|skip
  rename_i es
  unfold ordD at h
  unfold cmpD
  exact qj2 ds es h
|.non,e,h=>by unfold ordD at h;cases h
|.bl _,e,h=>by unfold ordD at h;cases h
|.int _,e,h=>by unfold ordD at h;cases h
|.lst _,e,h=>by unfold ordD at h;cases h
|.dT _ _,e,h=>by unfold ordD at h;cases h
|.dK _ _,e,h=>by unfold ordD at h;cases h
|.scr _,e,h=>by unfold ordD at h;cases h
|.kt _,e,h=>by unfold ordD at h;cases h
|.exc _,e,h=>by unfold ordD at h;cases h
theorem qj2:∀(ds es:List D),qdk ds es=true->qdd ds es=true
|[],_,_=>by unfold qdd;rfl
|_::_,[],_=>by unfold qdd;rfl
|d::ds,e::es,h=>by
  unfold qdk at h
  rw[Bool.and_eq_true] at h
  unfold qdd
  rw[qtk d e h.1,qj2 ds es h.2]
  rfl
end
theorem qo6:∀ {ds es:List D} {j:Nat} {d e:D},qdk ds es=true->ds[j]?=some d->es[j]?=some e->ordD d e=true
|[],_,j,_,_,_,q,_=>by simp at q
|_::_,[],j,_,_,_,_,q=>by simp at q
|d::ds,e::es,0,_,_,h,q1,q2=>by
  unfold qdk at h
  rw[Bool.and_eq_true] at h
  simp at q1 q2
  rw[←q1,←q2]
  exact h.1
|d::ds,e::es,j+1,_,_,h,q1,q2=>by
  unfold qdk at h
  rw[Bool.and_eq_true] at h
  exact qo6 h.2 (by simpa using q1) (by simpa using q2)
theorem qix(e l:Nat->Bool)(z:Bool):∀k i,lexV e l z k (i+1)=lexV (λj=>e (j+1)) (λj=>l (j+1)) z k i
|0,_=>rfl
|k+1,i=>by
  show (if e (i+1)=true then lexV e l z k (i+1+1) else l (i+1))=if e (i+1)=true then lexV (λj=>e (j+1)) (λj=>l (j+1)) z k (i+1) else l (i+1)
  rw[qix e l z k (i+1)]
theorem qyd:∀ds es:List D,lexV (λj=>eqD (ds.getD j .non) (es.getD j .non)) (λj=>ltD (ds.getD j .non) (es.getD j .non)) (decide (ds.length<es.length)) (min ds.length es.length) 0=ltDs ds es
|[],[]=>by unfold ltDs;rfl
|[],_::_=>by unfold ltDs;simp[lexV]
|_::_,[]=>by unfold ltDs;simp[lexV]
|d::ds,e::es=>by
  have ih:=qyd ds es
  rw[List.length_cons,List.length_cons,Nat.add_min_add_right]
  show (if eqD d e=true then lexV _ _ _ (min ds.length es.length) (0+1) else ltD d e)=_
  rw[qix]
  unfold ltDs
  have ed:decide (ds.length+1<es.length+1)=decide (ds.length<es.length):=decide_eq_decide.mpr (by lia)
  rw[ed]
  have h2:lexV (λj=>eqD ((d::ds).getD (j+1) .non) ((e::es).getD (j+1) .non)) (λj=>ltD ((d::ds).getD (j+1) .non) ((e::es).getD (j+1) .non)) (decide (ds.length<es.length)) (min ds.length es.length) 0=ltDs ds es:=ih
  rw[h2]
section
variable {X:Cx} {pins:List (Addr×Obj)} {σ:St} {H:Hp} {s:Shared}
theorem qye{A:Around}(I:Inv X pins σ H s){a b:Addr}{ds es:List D}{xs ys:List V}(ha:SqT X.K H a xs)(hb:SqT X.K H b ys)(r1:Reps X.K H ds xs)(r2:Reps X.K H es ys)(ho:qdk ds es=true)(hu:A.units+qdj ds+1<cLine)
  (ih:∀d∈ds,∀(e:D) (v z:V) (u w:Value),Rep X.K H d v->Rep X.K H e z->RelV v u->RelV z w->ordD d e=true->LtA A.in1 s u w (ltD d e)):LtA A s (.ref a) (.ref b) (ltDs ds es)/\LtC A s a b (ltDs ds es):=by
 obtain⟨its,v1,p1,_⟩:=I.tuple ha
 obtain⟨its2,v2,p2,_⟩:=I.tuple hb
 have hc:=qj2 ds es ho
 have ihe:∀d∈ds,∀(e:D) (v z:V) (u w:Value),Rep X.K H d v->Rep X.K H e z->RelV v u->RelV z w->cmpD d e=true->SeqAt.EqAt A.in1 s u w (eqD d e):=λd hd e v z u w h1 h2 h3 h4 h5 =>
  qgq I _ A.in1 d e v z u w (Nat.le_refl _) h1 h2 h3 h4 h5 (by have:=qcv hd;have un:A.in1.units=A.units+1:=rfl;lia)
 have:=LtA.tups (A:=A) (s:=s) (e:=λj=>eqD (ds.getD j .non) (es.getD j .non)) (c:=λj=>ltD (ds.getD j .non) (es.getD j .non)) (show s.heap.IsTuple a its.toArray from p1) (show s.heap.IsTuple b its2.toArray from p2) (by lia) (qhm r1 r2 v1 v2 hc ihe) ?_
 ·rw[List.size_toArray,List.size_toArray,←v1.length,←v2.length,←r1.length,←r2.length,qyd] at this
  exact this
 ·intro j h1 h2 _
  have l1:j<ds.length:=by rw[r1.length,v1.length];simpa using h1
  have l2:j<es.length:=by rw[r2.length,v2.length];simpa using h2
  obtain⟨x,qx,rx⟩:=r1.at (List.getElem?_eq_getElem l1)
  obtain⟨y,qy,ry⟩:=r2.at (List.getElem?_eq_getElem l2)
  obtain⟨ux,e1,rux⟩:=v1.get qx
  obtain⟨uy,e2,ruy⟩:=v2.get qy
  have e1':its.toArray[j]=ux:=by
   have z:its[j]?=some its.toArray[j]:=by simp
   rw[e1] at z
   exact(Option.some.inj z).symm
  have e2':its2.toArray[j]=uy:=by
   have z:its2[j]?=some its2.toArray[j]:=by simp
   rw[e2] at z
   exact(Option.some.inj z).symm
  have e3:ds.getD j .non=ds[j]:=by simp[List.getD_eq_getElem?_getD,l1]
  have e4:es.getD j .non=es[j]:=by simp[List.getD_eq_getElem?_getD,l2]
  rw[e1',e2',e3,e4]
  exact ih ds[j] (List.getElem_mem l1) es[j] x y ux uy rx ry rux ruy (qo6 ho (List.getElem?_eq_getElem l1) (List.getElem?_eq_getElem l2))
theorem qoy(I:Inv X pins σ H s):∀(n:Nat) (A:Around) (d e:D) (v z:V) (u w:Value),sizeOf d<=n->Rep X.K H d v->Rep X.K H e z->RelV v u->RelV z w->ordD d e=true->A.units+depD d<cLine->LtA A s u w (ltD d e)
|0,_,d,_,_,_,_,_,hn,_,_,_,_,_,_=>by cases d<;>simp at hn
|n+1,A,d,e,v,z,u,w,hn,hd,he,ru,rw',ho,hu=>by
  have un:A.in1.units=A.units+1:=rfl
  cases d with
 |str a =>
   cases e with
  |str b =>
    unfold Rep at hd he
    subst hd he
    obtain⟨t1,rfl⟩:=ru
    obtain⟨t2,rfl⟩:=rw'
    unfold ltD
    exact LtA.strs
  |_=>unfold ordD at ho;cases ho
 |tup ds =>
   cases e with
  |tup es =>
    unfold Rep at hd he
    obtain⟨a,xs,rfl,ha,r1⟩:=hd
    obtain⟨b,ys,rfl,hb,r2⟩:=he
    cases ru
    cases rw'
    unfold ordD at ho
    unfold ltD
    unfold depD at hu
    refine(qye I ha.sq hb.sq r1 r2 ho (by lia) λd hd e v z u w h1 h2 h3 h4 h5=>qoy I n A.in1 d e v z u w ?_ h1 h2 h3 h4 h5 ?_).1
    ·have:=List.sizeOf_lt_of_mem hd
     simp at hn
     lia
    ·have:=qcv hd
     lia
  |_=>unfold ordD at ho;cases ho
 |_=>unfold ordD at ho;cases ho
end
end L2
namespace L2
open PySem PySem.Spec PyProof.Rows PySem.W
section
variable {X:Cx} {pins:List (Addr×Obj)} {σ:St} {H:Hp} {s:Shared} {E:Value->Shared->Prop}
theorem qnn(I:Inv X pins σ H s){A:Around}(c:Bool){d e:D}{v z:V}{u w:Value}{Q:Bool->Shared->Prop}(hd:Rep X.K H d v)(he:Rep X.K H e z)(ru:RelV v u)(rw':RelV z w)(ho:ordD d e=true)(hu:A.units+depD d+1<cLine)(h:Q (ltD d e) s) :
  wpAny (model X.prog X.w) A (oneLt' c u w) Q E s:=by
 have L:=qoy I _ A d e v z u w (Nat.le_refl _) hd he ru rw' ho (by lia)
 cases c with
|false=>exact kat_one u w (L X.prog X.w E (PySem.W.BoolBack Q) h)
|true =>
  cases d with
 |str a =>
   cases e with
  |str b =>
    unfold Rep at hd he
    subst hd he
    obtain⟨t1,rfl⟩:=ru
    obtain⟨t2,rfl⟩:=rw'
    unfold ltD at h
    exact oneLt_str h
  |_=>unfold ordD at ho;cases ho
 |tup ds =>
   cases e with
  |tup es =>
    unfold Rep at hd he
    obtain⟨a,xs,rfl,ha,r1⟩:=hd
    obtain⟨b,ys,rfl,hb,r2⟩:=he
    cases ru
    cases rw'
    unfold ordD at ho
    unfold ltD at h
    unfold depD at hu
    have C:=(qye (A:=A) I ha.sq hb.sq r1 r2 ho (by lia) λd hd e v z u w h1 h2 h3 h4 h5=>qoy I _ A.in1 d e v z u w (Nat.le_refl _) h1 h2 h3 h4 h5 (by have:=qcv hd;have un:A.in1.units=A.units+1:=rfl;lia)).2
    obtain⟨its,_,pl,_⟩:=I.tuple ha.sq
    rw[oneLt'_eq]
    simp only[if_true]
    refine wpAny_bind (wpAny_cRoomFor (by lia) (wpAny_bind (wpAny_callSpecialIfBound?_slot pl.typeIs F.slot_tuple_lt (C X.prog X.w _ _ ?_))))
    exact wpAny_truthy_bool h
  |_=>unfold ordD at ho;cases ho
 |_=>unfold ordD at ho;cases ho
theorem q3j(I:Inv X pins σ H s){A:Around}{b z:Bool}{Q:Bool->Shared->Prop}:∀(ds es:List D) (xs ys:List V) (us ws:List Value) (i:Nat),Reps X.K H ds xs->Reps X.K H es ys->Vals xs us->Vals ys ws->qdk ds es=true->A.units+qdj ds+1<cLine->decide (ds.length<es.length)=z->Q (ltDs ds es) s ->
  KatLex X.prog X.w A b z Q (us.zip ws) i s
|[],es,xs,ys,us,ws,i,r1,r2,v1,v2,ho,hu,hz,h=>by
  have e1:=r1.length
  have e2:=v1.length
  have:us=[]:=List.length_eq_zero_iff.mp (by rw[←e2,←e1];rfl)
  subst this
  rw[List.zip_nil_left]
  refine kat_nil ?_
  cases es with
 |nil=>unfold ltDs at h;rw[←hz];exact h
 |cons e es=>unfold ltDs at h;rw[←hz];simpa using h
|d::ds,[],xs,ys,us,ws,i,r1,r2,v1,v2,ho,hu,hz,h=>by
  have e1:=r2.length
  have e2:=v2.length
  have:ws=[]:=List.length_eq_zero_iff.mp (by rw[←e2,←e1];rfl)
  subst this
  rw[List.zip_nil_right]
  refine kat_nil ?_
  unfold ltDs at h
  rw[←hz]
  simpa using h
|d::ds,e::es,xs,ys,us,ws,i,r1,r2,v1,v2,ho,hu,hz,h=>by
  unfold Reps at r1 r2
  obtain⟨x,xs,rfl,rx,r1⟩:=r1
  obtain⟨y,ys,rfl,ry,r2⟩:=r2
  cases v1 with
 |cons ru v1 =>
  cases v2 with
 |cons rw' v2 =>
  rename_i u us w ws
  unfold qdk at ho
  rw[Bool.and_eq_true] at ho
  have hd1:depD d<=qdj (d::ds):=qcv (List.mem_cons_self ..)
  have hd2:qdj ds<=qdj (d::ds):=by show _<=max (depD d) (qdj ds);lia
  show KatLex X.prog X.w A b z Q ((u,w)::us.zip ws) i s
  refine kat_cons (qgq I _ A d e x y u w (Nat.le_refl _) rx ry ru rw' (qtk d e ho.1) (by lia) X.prog X.w _ _ ?_)
  unfold ltDs at h
  cases he:eqD d e with
 |true =>
   rw[he,if_pos rfl] at h
   refine kat_yes (q3j I ds es xs ys us ws (i+1) r1 r2 v1 v2 ho.2 (by lia) ?_ h)
   rw[←hz,List.length_cons,List.length_cons]
   exact decide_eq_decide.mpr (by lia)
 |false =>
   rw[he,if_neg (by decide)] at h
   exact kat_no (qnn I _ rx ry ru rw' ho.1 (by lia) h)
theorem qzy(I:Inv X pins σ H s){A:Around}(κ:SortKind){ds es:List D}{v z:V}{u w:Value}{Q:Bool->Shared->Prop}(hd:Rep X.K H (.tup ds) v)(he:Rep X.K H (.tup es) z)(ru:RelV v u)(rw':RelV z w)(ho:qdk ds es=true)(hu:A.units+qdj ds+2<cLine)(h:Q (ltDs ds es) s) :
  wpAny (model X.prog X.w) A (keyLt' κ u w) Q E s:=by
 have hl:ltD (.tup ds) (.tup es)=ltDs ds es:=by unfold ltD;rfl
 have ho':ordD (.tup ds) (.tup es)=true:=by unfold ordD;exact ho
 have hdp:depD (.tup ds)=qdj ds+1:=by unfold depD;rfl
 have one:∀c,wpAny (model X.prog X.w) A (oneLt' c u w) Q E s:=λc=>qnn I c hd he ru rw' ho' (by lia) (by rw[hl];exact h)
 cases κ with
|general=>exact one false
|oneType=>exact one true
|tuples b =>
  unfold Rep at hd he
  obtain⟨a,xs,rfl,ha,r1⟩:=hd
  obtain⟨c,ys,rfl,hb,r2⟩:=he
  cases ru
  cases rw'
  obtain⟨its,v1,p1,_⟩:=I.tuple ha.sq
  obtain⟨its2,v2,p2,_⟩:=I.tuple hb.sq
  obtain⟨o1,q1,_,n1,y1⟩:=id p1
  obtain⟨o2,q2,_,n2,y2⟩:=id p2
  refine kat_lt q1 y1 q2 y2 ?_
  refine q3j I ds es xs ys _ _ 0 r1 r2 v1 v2 ho (by lia) ?_ h
  rw[r1.length,r2.length,v1.length,v2.length]
  simp
end
end L2
namespace L2
open PySem PySem.Spec PyProof.Rows PySem.W
section
variable {M:Model} {A:Around} {E:Value->Shared->Prop} {s:Shared}
theorem qjt{α β:Type}{f:α->Sem β}{P:β->Prop}:∀(l:List α) {Q:List β->Shared->Prop},(∀v∈l,∀(Q':β->Shared->Prop),(∀r,P r->Q' r s)->wpAny M A (f v) Q' E s)->(∀rs,(∀r∈rs,P r)->Q rs s)->wpAny M A (l.mapM f) Q E s
|[],_,_,h=>by rw[List.mapM_nil];exact wpAny_pure (h [] (by simp))
|x::l,Q,hf,h=>by
  rw[List.mapM_cons]
  refine wpAny_bind (hf x (List.mem_cons_self ..) _ λr hr=>wpAny_bind (qjt l (λv hv=>hf v (List.mem_cons_of_mem _ hv)) λrs hrs=>wpAny_pure (h _ λy hy=>?_)))
  rcases List.mem_cons.mp hy with rfl|hy
  ·exact hr
  ·exact hrs y hy
def TyOk(h:Heap)(u:Value):Prop:=∃T,∀M:Model,Looks M h (typeOf u) T
theorem qhw{vs:Array Value}{Q:Option Value->Shared->Prop}(ht:∀u∈vs.toList,TyOk s.heap u)(h:∀r,Q r s):wpAny M A (oneTypeOnly' vs) Q E s:=by
 rw[oneTypeOnly'_eq]
 obtain⟨vs⟩:=vs
 rw[List.mapM_toArray,map_eq_pure_bind]
 refine wpAny_bind (wpAny_bind (qjt (P:=λ_=>True) vs (λv hv Q' hq=>?_) λrs _=>wpAny_pure ?_))
 ·obtain⟨T,hT⟩:=ht v hv
  exact(hT M).here (hq T trivial)
 ·cases rs.toArray[0]? with
 |none=>exact wpAny_pure (h _)
 |some t=>exact wpAny_pure (h _)
theorem kind_any{vs:List Value}{Q:SortKind->Shared->Prop}(ht:∀v∈vs,∃(a:Addr) (o:Obj) (us:Array Value) (n:Nat),v=.ref a/\s.heap.get? a=some o/\o.cls=.type "tuple" /\ o.data=.seq us n/\∀f,us[0]?=some f->TyOk s.heap f)(h:∀κ,Q κ s):wpAny M A (keyKind' vs.toArray) Q E s:=by
 have tr:∀(a:Addr) (o:Obj),s.heap.get? a=some o->∀M:Model,Looks M s.heap (typeOf (.ref a)) o.cls:=λa o ho M=>(Looks.ld ho).andThen .now
 rw[keyKind'_eq,List.mapM_toArray,map_eq_pure_bind]
 refine wpAny_bind (wpAny_bind (qjt (P:=λr=>∀f,r=some f->TyOk s.heap f) vs (λv hv Q' hq=>?_) λrs hrs=>wpAny_pure ?_))
 ·obtain⟨a,o,us,n,rfl,ho,hc,hd,hf⟩:=ht v hv
  rw[kas_first_eq]
  refine wpAny_bind ((tr a o ho M).here ?_)
  rw[hc,if_neg (by simp)]
  exact wpAny_bind (listItems_at ho hd (wpAny_pure (hq _ λf e=>hf f e)))
 ·split
  ·refine wpAny_bind (wpAny_rule (wpAny_bind (qhw (λu hu=>?_) λr=>wpAny_pure (h _))))
   have hu':u∈rs.filterMap id:=by simpa using hu
   obtain⟨r,hr,e⟩:=List.mem_filterMap.mp hu'
   exact hrs r hr u e
  ·split
   ·exact wpAny_pure (h _)
   ·refine wpAny_bind (qhw (λu hu=>?_) λr=>?_)
    ·obtain⟨a,o,us,n,rfl,ho,_⟩:=ht u hu
     exact⟨o.cls,tr a o ho⟩
    ·split<;>exact wpAny_pure (h _)
end
section
variable {K:PySem.W.Frag} {H:Hp}
theorem Reps.pick{ds:List D}{xs:List V}(r:Reps K H ds xs):∀l:List Nat,(∀i∈l,i<ds.length)->Reps K H (l.map λi=>ds.getD i .non) (l.map λi=>xs.getD i .non)
|[],_=>.nil
|i::l,h=>by
  have hi:=h i (List.mem_cons_self ..)
  obtain⟨x,hx,rx⟩:=r.at (List.getElem?_eq_getElem hi)
  refine .cons ?_ (r.pick l λj hj=>h j (List.mem_cons_of_mem _ hj))
  have e1:ds.getD i .non=ds[i]:=by simp[List.getD_eq_getElem?_getD,hi]
  have e2:xs.getD i .non=x:=by simp[List.getD_eq_getElem?_getD,hx]
  show Rep K H (ds.getD i .non) (xs.getD i .non)
  rw[e1,e2]
  exact rx
theorem Vals.pick{xs:List V}{us:List Value}(r:Vals xs us):∀l:List Nat,(∀i∈l,i<xs.length)->Vals (l.map λi=>xs.getD i .non) (l.map λi=>us.getD i Value.none)
|[],_=>.nil
|i::l,h=>by
  have hi:=h i (List.mem_cons_self ..)
  obtain⟨u,hu,ru⟩:=r.get (List.getElem?_eq_getElem hi)
  refine .cons ?_ (Vals.pick r l λj hj=>h j (List.mem_cons_of_mem _ hj))
  have e1:xs.getD i .non=xs[i]:=by simp[List.getD_eq_getElem?_getD,hi]
  have e2:us.getD i Value.none=u:=by simp[List.getD_eq_getElem?_getD,hu]
  show RelV (xs.getD i .non) (us.getD i Value.none)
  rw[e1,e2]
  exact ru
end
def q3g:D->Bool
|.str _=>true
|.tup _=>true
|_=>false
structure SortD(ds:List D):Prop where
 tup:(∀d∈ds,∃es,d=.tup es/\qdj es<=20/\∀x,es[0]?=some x->q3g x=true)\/∀d∈ds,∃z,d=.str z
 ord:∀d∈ds,∀e∈ds,ordD d e=true
 tr:∀a∈ds,∀b∈ds,∀c∈ds,ltD a b=true->ltD b c=true->ltD a c=true
 as:∀a∈ds,∀b∈ds,ltD a b=true->ltD b a=false
 tot:∀a∈ds,∀b∈ds,a≠b->ltD a b=true\/ltD b a=true
 nd:ds.Nodup
theorem getD_mem{ds:List D}{i:Nat}(h:i<ds.length):ds.getD i .non∈ds:=by
 have e1:ds.getD i .non=ds[i]:=by simp[List.getD_eq_getElem?_getD,h]
 rw[e1]
 exact List.getElem_mem h
theorem SortD.ltOk{ds:List D}(S:SortD ds):LtOk ds.length λi j=>ltD (ds.getD i .non) (ds.getD j .non) where
 tr:=λa b c ha hb hc=>S.tr _ (getD_mem ha) _ (getD_mem hb) _ (getD_mem hc)
 as:=λa b ha hb=>S.as _ (getD_mem ha) _ (getD_mem hb)
 tot:=λa b ha hb ne=>S.tot _ (getD_mem ha) _ (getD_mem hb) λe=>ne (by
  have e1:ds.getD a .non=ds[a]:=by simp[List.getD_eq_getElem?_getD,ha]
  have e2:ds.getD b .non=ds[b]:=by simp[List.getD_eq_getElem?_getD,hb]
  rw[e1,e2] at e
  exact(List.getElem_inj S.nd).mp e)
end L2
namespace L2
open PySem PySem.Spec PyProof.Rows PySem.W
theorem range_getD(vs:List Value):((List.range vs.length).map λi=>vs.getD i Value.none)=vs:=by
 apply List.ext_getElem
 ·simp
 ·intro i h1 h2
  simp[List.getD_eq_getElem?_getD,h2]
section
variable {X:Cx} {pins:List (Addr×Obj)} {σ:St} {H:Hp} {s:Shared} {E:Value->Shared->Prop}
theorem q7e(I:Inv X pins σ H s){A:Around}{ds:List D}{xs:List V}{vs:List Value}(r:Reps X.K H ds xs)(v:Vals xs vs)(S:SortD ds)(h2:2<=vs.length)(h64:vs.length<64)(hu:A.units+30<cLine)(κ:SortKind)(hκ:(∀d∈ds,∃z,d=.str z)->2<=ds.length->κ=oneType'){Q:SortSt->Shared->Prop}
  (h:∀(st:SortSt) (q:Array Nat),q.Perm (List.range ds.length).toArray->SPr (λi j=>ltD (ds.getD i .non) (ds.getD j .non)) q ds.length->(arrOf st).map (·.2)=List.toArray (q.toList.map λi=>vs.getD i Value.none)->failedOf st=none->Q st s) :
  wpAny (model X.prog X.w) A ((sortRuns').run (SortSt.mk' κ (vs.toArray.zip vs.toArray) #[] 7 none)) (λr s'=>Q r.2 s') E s:=by
 have hl:ds.length=vs.length:=r.length.trans v.length
 obtain⟨ok,q,hq,hp,hs⟩:=q11 S.ltOk (by lia)
 refine kat_run (ks:=vs) (vs:=vs) (G:=λp s'=>p=q/\s'=s) rfl h2 h64 (λp st s' hz ha hf hg=>?_) ?_
 ·obtain⟨rfl,rfl⟩:=hg
  exact h st p hp hs (kat_snds rfl ha) hf
 ·rw[←hl]
  refine qsw (n:=ds.length) (lt:=λi j=>ltD (ds.getD i .non) (ds.getD j .non)) (P:=λs'=>s'=s) (λi j C s' hi hj hs' hC=>?_) _ s ok rfl λs' hs'=>⟨hq,hs'⟩
  subst hs'
  obtain⟨x,hx,rx⟩:=r.at (List.getElem?_eq_getElem hi)
  obtain⟨y,hy,ry⟩:=r.at (List.getElem?_eq_getElem hj)
  obtain⟨u,eu,ru⟩:=v.get hx
  obtain⟨w,ew,rw'⟩:=v.get hy
  have e1:ds.getD i .non=ds[i]:=by simp[List.getD_eq_getElem?_getD,hi]
  have e2:ds.getD j .non=ds[j]:=by simp[List.getD_eq_getElem?_getD,hj]
  have e3:vs.getD i Value.none=u:=by simp[List.getD_eq_getElem?_getD,eu]
  have e4:vs.getD j Value.none=w:=by simp[List.getD_eq_getElem?_getD,ew]
  have m1:ds[i]∈ds:=List.getElem_mem hi
  have m2:ds[j]∈ds:=List.getElem_mem hj
  have ho:=S.ord _ m1 _ m2
  have hC':=hC s' rfl
  rw[e1,e2] at hC'
  show wpAny (model X.prog X.w) A (keyLt' κ (vs.getD i Value.none) (vs.getD j Value.none)) C (λ_ _=>False) s'
  rw[e3,e4]
  rcases S.tup with T|T
  ·obtain⟨es,ee,he,_⟩:=T _ m1
   obtain⟨fs,ef,_,_⟩:=T _ m2
   rw[ee,ef] at hC'
   rw[ee,ef] at ho
   rw[ee] at rx
   rw[ef] at ry
   have hlt:ltD (.tup es) (.tup fs)=ltDs es fs:=by unfold ltD;rfl
   have hoo:qdk es fs=true:=by unfold ordD at ho;exact ho
   rw[hlt] at hC'
   exact qzy I κ rx ry ru rw' hoo (by lia) hC'
  ·rw[hκ T (by lia),keyLt'_oneType]
   exact qnn I true rx ry ru rw' ho (by obtain⟨z,ez⟩:=T _ m1;rw[ez];unfold depD;lia) hC'
theorem qz6{A:Around}{a:Addr}{n:Nat}{ds:List D}{xs:List V}{vs:List Value}{P:Fin->Shared->Prop}(ho:s.heap.get? a=some (seqObj "list" vs.toArray n))
  (I:∀h',(∀b o,b≠a->s.heap.get? b=some o->h'.get? b=some o)->Inv X pins σ H { s with heap:=h' }) (r:Reps X.K H ds xs) (v:Vals xs vs) (S:SortD ds) (h64:vs.length<64) (hu:A.units+30<cLine)
  (h:∀(q:List Nat) (h':Heap) (m:Nat),q.Perm (List.range ds.length)->q.Pairwise (λi j=>ltD (ds.getD i .non) (ds.getD j .non)=true)->(∀b o,b≠a->s.heap.get? b=some o->h'.get? b=some o)->h'.get? a=some (seqObj "list" (q.map λi=>vs.getD i Value.none).toArray m) ->
   P (.done (.ret .none)) { s with heap:=h' }):wpAny (model X.prog X.w) A (Builtin.«list.sort» ⟨[.ref a],[]⟩) P E s:=by
 have hl:ds.length=vs.length:=r.length.trans v.length
 have small:∀k,k<64->k<=sizeLine:=λk hk=>Nat.le_trans (Nat.le_of_lt hk) (by decide)
 rw[list_sort_plain]
 have ha:a<s.heap.objs.size:=Heap.lt_size ho
 have hz:vs.toArray.size<=sizeLine:=by rw[List.size_toArray];exact small _ h64
 refine wpAny_bind (listItems_at ho rfl (wpAny_bind (listUpdate_at ho rfl ?_ hz (Nat.zero_le _))))
 generalize e1:s.heap.update a (Obj.mapSeq λ_=>#[])=h1
 obtain⟨m1,ho1⟩:∃m1,h1.get? a=some (seqObj "list" #[] m1):=⟨_,by rw[←e1];exact get?_update_seq ho (λ_=>#[])⟩
 have k1:∀b o,b≠a->s.heap.get? b=some o->h1.get? b=some o:=λb o hb hq=>by
  rw[←e1,Heap.get?_update_ne _ _ _ _ hb]
  exact hq
 refine wpAny_bind (seqEpoch_at (s:={ s with heap:=h1 }) ho1 rfl (wpAny_bind (wpAny_newTuple ?_ (small _ h64))))
 generalize e2:h1.push { cls:=.type "tuple",data:=.seq vs.toArray }=h2
 have k2:∀b o,h1.get? b=some o->h2.get? b=some o:=λb o hq=>by rw[←e2];exact Heap.get?_push_of_some _ hq
 refine wpAny_bind (wpAny_newList ?_ (Nat.zero_le _))
 generalize e3:Heap.push _ _=h3
 have k3:∀b o,h2.get? b=some o->h3.get? b=some o:=λb o hq=>by rw[←e3];exact Heap.get?_push_of_some _ hq
 have ho3:h3.get? a=some (seqObj "list" #[] m1):=k3 _ _ (k2 _ _ ho1)
 have kk:∀b o,b≠a->s.heap.get? b=some o->h3.get? b=some o:=λb o hb hq=>k3 _ _ (k2 _ _ (k1 b o hb hq))
 have I3:Inv X pins σ H { s with heap:=h3 }:=I h3 kk
 refine wpAny_holding ?_
 show wpAny (model X.prog X.w) A _ P E { s with heap:=h3 }
 have fin:∀(q:List Nat) (out:Array Value),q.Perm (List.range ds.length)->q.Pairwise (λi j=>ltD (ds.getD i .non) (ds.getD j .non)=true)->out=(q.map λi=>vs.getD i Value.none).toArray ->
   P (.done (.ret .none)) { s with heap:=h3.update a (Obj.mapSeq λ_=>out) }:=λq out hq hp e=>by
  subst e
  refine h q _ _ hq hp (λb o hb hs=>?_) (get?_update_seq ho3 (λ_=>_))
  rw[Heap.get?_update_ne _ _ _ _ hb]
  exact kk b o hb hs
 dsimp only
 by_cases h2':vs.toArray.size<2
 ·rw[if_pos h2']
  refine wpAny_bind (wpAny_pure ?_)
  rw[if_pos h2',StateT.run_pure]
  refine wpAny_bind (wpAny_pure ?_)
  dsimp only
  refine wpAny_bind (seqEpoch_at (s:={ s with heap:=h3 }) ho3 rfl (wpAny_bind (listUpdate_at (s:={ s with heap:=h3 }) ho3 rfl ?_ (Nat.zero_le _) ?_)))
  ·simp only[bne_self_eq_false,Bool.false_eq_true,if_false]
   refine wpAny_pure (fin (List.range ds.length) _ (List.Perm.refl _) ?_ ?_)
   ·rw[List.size_toArray] at h2'
    rw[List.pairwise_iff_getElem]
    intro i j hi hj hij
    simp at hi hj
    lia
   ·apply Array.toList_inj.mp
    show (Array.map (λx:Value×Value=>x.2) (vs.toArray.zip vs.toArray)).toList=_
    rw[hl,range_getD]
    simp only[Array.toList_map,Array.toList_zip]
    exact List.map_snd_zip (Nat.le_refl _)
  ·show (Array.map (λx:Value×Value=>x.2) (vs.toArray.zip vs.toArray)).size<=_
   simp
   have:=small _ h64
   lia
 ·rw[if_neg h2']
  have h2v:2<=vs.length:=by rw[List.size_toArray] at h2';lia
  have kind:∀Q:SortKind->Shared->Prop,(∀κ,((∀d∈ds,∃z,d=.str z)->2<=ds.length->κ=oneType')->Q κ { s with heap:=h3 })->wpAny (model X.prog X.w) A (keyKind' vs.toArray) Q E { s with heap:=h3 }:=λQ hQ=>by
   rcases S.tup with T|T
   case inr =>
    refine kas_kind (T:=.type "str") (s:={ s with heap:=h3 }) h2v (λu hu=>?_) (by decide) (by decide) (hQ _ λ_ _=>rfl)
    obtain⟨i,hi,rfl⟩:=List.mem_iff_getElem.mp hu
    have hi2:i<ds.length:=by lia
    obtain⟨x,hx,rx⟩:=r.at (List.getElem?_eq_getElem hi2)
    obtain⟨u',eu,ru⟩:=v.get hx
    rw[List.getElem?_eq_getElem hi] at eu
    cases eu
    obtain⟨z,ez⟩:=T _ (List.getElem_mem hi2)
    rw[ez] at rx
    unfold Rep at rx
    subst rx
    obtain⟨t,et⟩:=ru
    rw[et]
    exact .now
   refine kind_any (s:={ s with heap:=h3 }) (λu hu=>?_) λκ=>hQ κ λhstr hlen=>?b
   case b =>
    have m0:ds[0]'(by lia)∈ds:=List.getElem_mem _
    obtain⟨es,ee,_⟩:=T _ m0
    obtain⟨z,ez⟩:=hstr _ m0
    rw[ee] at ez
    cases ez
   obtain⟨i,hi,rfl⟩:=List.mem_iff_getElem.mp hu
   have hi2:i<ds.length:=by lia
   obtain⟨x,hx,rx⟩:=r.at (List.getElem?_eq_getElem hi2)
   obtain⟨u',eu,ru⟩:=v.get hx
   rw[List.getElem?_eq_getElem hi] at eu
   cases eu
   obtain⟨es,ee,he,hk⟩:=T _ (List.getElem_mem hi2)
   rw[ee] at rx
   unfold Rep at rx
   obtain⟨b,ys,rfl,hb,r1⟩:=rx
   obtain⟨its,v1,p1,_⟩:=I3.tuple hb.sq
   obtain⟨o1,q1,c1,n1,y1⟩:=id p1
   refine⟨b,o1,its.toArray,n1,ru,q1,c1,y1,λf hf=>?_⟩
   have hf':its[0]?=some f:=by simpa using hf
   have h0:0<es.length:=by
    rw[r1.length,v1.length]
    exact(List.getElem?_eq_some_iff.mp hf').1
   obtain⟨y,hy,ry⟩:=r1.at (List.getElem?_eq_getElem h0)
   obtain⟨f',ef,rf⟩:=v1.get hy
   rw[hf'] at ef
   cases ef
   have hkey:=hk _ (List.getElem?_eq_getElem h0)
   generalize es[0]=d0 at hkey ry
   cases d0 with
  |str z =>
    unfold Rep at ry
    subst ry
    obtain⟨t,rfl⟩:=rf
    exact⟨.type "str",λM=>.now⟩
  |tup gs =>
    unfold Rep at ry
    obtain⟨c,zs,rfl,hc,_⟩:=ry
    cases rf
    obtain⟨its3,_,p3,_⟩:=I3.tuple hc.sq
    obtain⟨o3,q3,_⟩:=id p3
    exact⟨o3.cls,λM=>(Looks.ld q3).andThen .now⟩
  |_=>cases hkey
  refine wpAny_bind (kind _ λκ hκ=>?_)
  ·rw[if_neg h2']
   refine wpAny_bind (wpAny_mono (q7e I3 r v S h2v h64 hu κ hκ (Q:=λst s'=>s'={ s with heap:=h3 }/\∃q:Array Nat,q.Perm (List.range ds.length).toArray/\SPr (λi j=>ltD (ds.getD i .non) (ds.getD j .non)) q ds.length/\(arrOf st).map (·.2)=List.toArray (q.toList.map λi=>vs.getD i Value.none)/\failedOf st=none)
    λst q a1 a2 a3 a4=>⟨rfl,q,a1,a2,a3,a4⟩) ?_ λ_ _ z=>z)
   rintro⟨⟨⟩,st⟩ s' ⟨rfl,q,a1,a2,a3,a4⟩
   have hql:q.toList.length=ds.length:=by
    have:=a1.size_eq
    simpa using this
   dsimp only
   refine wpAny_bind (seqEpoch_at (s:={ s with heap:=h3 }) ho3 rfl (wpAny_bind (listUpdate_at (s:={ s with heap:=h3 }) ho3 rfl ?_ (Nat.zero_le _) ?_)))
   ·rw[a4]
    simp only[bne_self_eq_false,Bool.false_eq_true,if_false]
    refine wpAny_pure (fin q.toList _ ?_ ?_ a3)
    ·have:=a1.toList
     simpa using this
    ·rw[List.pairwise_iff_getElem]
     intro i j hi hj hij
     have:=a2 i j hij (by lia)
     have g1:q.getD i 0=q.toList[i]:=by rw[qcy];simp[Array.getElem?_eq_getElem (show i<q.size by simpa using hi)]
     have g2:q.getD j 0=q.toList[j]:=by rw[qcy];simp[Array.getElem?_eq_getElem (show j<q.size by simpa using hj)]
     rw[g1,g2] at this
     exact this
   ·show ((arrOf st).map (·.2)).size<=_
    rw[a3]
    simp
    have:=small _ h64
    have:q.size=ds.length:=by simpa using hql
    lia
theorem qmu(hu:X.A.units+60<cLine):CallR X (.builtin "sorted") (λxs H Q=>∃p ys ds,xs=[.ref p]/\SqL X.K H p ys/\Reps X.K H ds ys/\SortD ds/\ds.length<64/\∀l (q:List Nat),H l=none->q.Perm (List.range ds.length)->q.Pairwise (λi j=>ltD (ds.getD i .non) (ds.getD j .non)=true)->Q (.ref l) (upd H l (.lst (q.map λi=>ys.getD i .non)))):=by
 intro pins s σ H xs us Q I rx h
 obtain⟨p,ys,ds,rfl,hp,r,S,h64,hq⟩:=h
 obtain⟨u,rfl,ru⟩:=vals1 rx
 cases ru
 obtain⟨its,v,pl,hz⟩:=I.list hp
 have hl:ds.length=its.length:=r.length.trans v.length
 refine Calls.call_function_entry kind_sorted plain_sorted entry_sorted (args_sorted1 _) ?_
 unfold Builtin.«sorted»
 refine wpAny_bind (m:=checkCount "sorted" 1 1 _) (wpAny_pure ?_)
 have hz':its.length<=sizeLine:=by rw[←v.length];exact hz
 refine wpAny_bind (collect_list pl.isList (wpAny_bind (wpAny_newList ?_ hz')) hz')
 generalize e1:(s.heap.push (seqObj "list" #[] 0)).update s.heap.objs.size _=h1
 have n1:h1.objs.size=s.heap.objs.size+1:=by rw[←e1,Heap.size_update,size_push']
 have k1:∀b o,s.heap.get? b=some o->h1.get? b=some o:=λb o q=>by
  have lt:b<s.heap.objs.size:=Heap.lt_size q
  rw[←e1,Heap.get?_update_ne _ _ _ _ (Nat.ne_of_lt lt)]
  exact Heap.get?_push_of_some _ q
 generalize e2:Heap.push _ _=h2
 have hD:h2.get? h1.objs.size=some (seqObj "list" its.toArray 0):=by rw[←e2];exact Heap.get?_push_size _ rfl
 have k2:∀b o,s.heap.get? b=some o->h2.get? b=some o:=λb o q=>by rw[←e2];exact Heap.get?_push_of_some _ (k1 b o q)
 have un:X.A.in1.units=X.A.units+1:=rfl
 have un2:X.A.in1.in1.units=X.A.units+2:=rfl
 show wpAny (model X.prog X.w) X.A.in1 (do let _ ←holding [Value.ref h1.objs.size] (call (.builtin "list.sort") [.ref h1.objs.size]);ret (.ref h1.objs.size)) _ X.xe { s with heap:=h2 }
 refine wpAny_bind (wpAny_holding (wpAny_call_entry (s:={ s with heap:=h2 }) slot_list_sort ⟨_,hD,rfl⟩ entry_list_sort ?_ (args_list_sort _)))
 refine qz6 (s:={ s with heap:=h2 }) (H:=H) (σ:=σ) (pins:=pins) (X:=X) hD (λh' kp=>?_) r v S (by lia) (by lia) λq h' m hqp hqs kp he=>⟨_,rfl,?_⟩
 ·refine I.kept (t':=s.toks) λb o e=>?_
  refine kp b o (λz=>?_) (k2 b o e)
  have lt:b<s.heap.objs.size:=Heap.lt_size e
  rw[z,n1] at lt
  exact Nat.not_succ_le_self _ (Nat.le_of_lt lt)
 ·refine wpAny_pure ⟨_,rfl,.ref h1.objs.size,upd H h1.objs.size (.lst (q.map λi=>ys.getD i .non)),?_,rfl,hq _ q (I.hok.fresh (by lia)) hqp hqs⟩
  have hqm:∀i∈q,i<ys.length:=λi hi=>by
   have:=hqp.mem_iff.mp hi
   rw[←r.length]
   simpa using this
  refine I.laid (t':=s.toks) (λb o e=>?_) (by lia) ⟨?_,_,m,v.pick q hqm,he⟩
  ·refine kp b o (λz=>?_) (k2 b o e)
   have lt:b<s.heap.objs.size:=Heap.lt_size e
   rw[z,n1] at lt
   exact Nat.not_succ_le_self _ (Nat.le_of_lt lt)
  ·have:=hqp.length_eq
   rw[List.length_map,this,List.length_range]
   have:=r.length
   lia
end
end L2
namespace L2
open PySem PySem.Spec PyProof.Rows
section
variable {X:Cx} {EX:St->XK} {K:PySem.W.Frag} {B H H0:Hp} {e:Expr} {es:List Expr} {tA:TVA} {x y:Str} {p pos:Pos}
def qif(rx:R)(Q:R->Prop):Prop:=match rx.d with
|.lst ds=>SortD ds/\ds.length<64/\∀ds',ds'.Perm ds->ds'.Pairwise (λa b=>ltD a b=true)->Q (.own (.lst ds'))
|_=>False
theorem qup(hu64:X.A.units+64<cLine):VF X (.builtin "sorted") qif:=by
 have hu:X.A.units+60<cLine:=by lia
 refine⟨_,qmu hu,λB H x rx Q Qd s px h k=>?_⟩
 unfold qif at h
 split at h
 ·rename_i ds e1
  obtain⟨hS,hl,hq⟩:=h
  obtain⟨a,xs,rfl,h1,r1⟩:=px.lst s e1
  refine⟨a,xs,ds,rfl,SqL.of h1,r1.same s,hS,hl,λl q hn hp hs=>?_⟩
  have hm:∀i∈q,i<ds.length:=λi hi=>by simpa using hp.mem_iff.mp hi
  have hr:((List.range ds.length).map λi=>ds.getD i .non)=ds:=by
   apply List.ext_getElem
   ·simp
   ·intro i h1 h2
    simp[List.getD_eq_getElem?_getD,h2]
  refine k (.own (.lst (q.map λi=>ds.getD i .non))) _ B _ (.grow s (qav hn _)) ⟨l,rfl,hn,s.free hn,qc8 (r1.pick q hm)⟩ (hq _ ?_ ?_)
  ·have:=hp.map λi=>ds.getD i .non
   rw[hr] at this
   exact this
  ·rw[List.pairwise_map]
   exact hs
 ·exact h.elim
def qw6(r:R)(Q:R->Prop):Prop:=match r with
|.val d=>match dV d with
 |some _=>Q (.val d)
 |none=>False
|_=>False
def qug(g:DP)(i:Nat)(tA:TVA):TV:=λτ Q=>match τ[i]? with
|some (some (.own d))=>tA τ λa=>exA a (λ_=>False) λds=>g (d::ds) λr=>qw6 r Q
|_=>False
theorem q16{k:Nat}{ps:List Str}{g:DP}{i:Nat}{p2:Pos}(C:Cal X.prog X.w X.K X.mg X.base k x ps (spOf X.K g))(hr:Room k X.A)(hg:Gl X x)(ha:VA X EX es tA)(hN:X.N[i]?=some y:=by rfl)(hv:Vis X.env.scope y:=by first|exact Or.inl rfl|exact Or.inr (Or.inl rfl)|exact Or.inr (Or.inr rfl))
  (hd:(y==("__debug__" : Str))=false:=by decide) (hcd:(y==("__classdict__" : Str))=false:=by decide) (hp:(Expr.Name y p2::es).all qaq=true:=by rfl) (hdb:(x==("__debug__" : Str))=false:=by decide) :
  VE X EX (.Call (.Name x p) (.Name y p2::es) [] pos) (qug g i tA) :=
 let ⟨_,a1,a2⟩:=ha.u;⟨_,qyi C hr hg (qac (qv i hN hv hd hcd) a1 rfl) hp hdb,λH0 B H τ σ Q Qd s S h xc kk=>by
  unfold qug at h
  split at h
  ·rename_i d e1
   obtain⟨ad,e2,_,hb,ow⟩:=S.own i d e1
   refine⟨.ref ad,e2,a2 H0 B H τ σ _ _ s S h (xno λ_ q=>q) λds vs B1 H1 p1 q1 h1=>?_⟩
   have ow1:OwnAt X.K B1 H1 d ad:=ow.step p1.b (p1.h.at ow.some)
   have hb1:B1 ad=none:=p1.keep hb ow.some ow.nt
   obtain⟨o,eo,rp⟩:=ow1.pub hb1
   refine⟨d::ds,upd B1 ad o,_,qly p1.s eo,?_,h1,λn C B' H' hq _ _=>?_,λr v B2 H2 hq p2 q2=>?_⟩
   ·rw[List.append_nil]
    exact .cons rp (q1.same (qav hb1 _))
   ·exact(show False from hq).elim
   ·unfold qw6 at hq
    split at hq
    ·rename_i d'
     split at hq
     ·rename_i z ez
      have:=(show Pk X.K B2 H2 (.val d') v from q2).scal ez
      subst this
      exact kk (.val d') _ B1 H2 (p1.trans (.grow p1.s p2.h)) (repV ez) hq
     ·exact hq.elim
    ·exact hq.elim
  ·exact h.elim⟩
end
def keyW(w:List Str):List (List Nat):=w.map (·.cps.toList)
theorem qou:∀ {a b:List Str},keyW a=keyW b->a=b
|[],[],_=>rfl
|[],_::_,h=>by cases h
|_::_,[],h=>by cases h
|x::a,y::b,h=>by
  injection h with h1 h2
  rw[qdh h1,qou h2]
theorem qoz:∀a b:List Str,ltDs (a.map D.str) (b.map D.str)=decide (keyW a<keyW b)
|[],[]=>by unfold ltDs;simp[keyW]
|[],y::b=>by
  show ltDs [] (.str y::b.map D.str)=_
  unfold ltDs
  simp[keyW]
|x::a,[]=>by
  show ltDs (.str x::a.map D.str) []=_
  unfold ltDs
  simp[keyW]
|x::a,y::b=>by
  show ltDs (.str x::a.map D.str) (.str y::b.map D.str)=decide (x.cps.toList::keyW a<y.cps.toList::keyW b)
  unfold ltDs
  rw[qoz a b]
  by_cases e:x=y
  ·subst e
   rw[if_pos (qfk _)]
   exact decide_eq_decide.mpr (by rw[List.cons_lt_cons_iff];simp[List.lt_irrefl])
  ·rw[if_neg (λz=>e (D.str.inj (qx4 z)))]
   unfold ltD
   refine decide_eq_decide.mpr ?_
   rw[List.cons_lt_cons_iff]
   constructor
   ·exact .inl
   ·rintro (z|⟨z,_⟩)
    ·exact z
    ·exact absurd (qdh z) e
theorem qz0{a b c:List (List Nat)}(h1:a<b)(h2:b<c):a<c:=List.lt_trans h1 h2
theorem qzz{a b:List (List Nat)}(h1:a<b):¬ b<a:=λh2=>List.lt_irrefl a (List.lt_trans h1 h2)
theorem qvq(a b:List (List Nat))(h:a≠b):a<b\/b<a:=by
 by_cases h1:a<b
 ·exact .inl h1
 ·by_cases h2:b<a
  ·exact .inr h2
  ·exact absurd (List.le_antisymm (List.not_lt.mp h2) (List.not_lt.mp h1)) h
def ltW(a b:List Str):Bool:=decide (keyW a<keyW b)
theorem qdq(a b:List Str):ltD (wayD a) (wayD b)=ltW a b:=by
 show ltD (.tup (a.map D.str)) (.tup (b.map D.str))=_
 unfold ltD
 exact qoz a b
theorem qs9{a b c:List Str}(h1:ltW a b=true)(h2:ltW b c=true):ltW a c=true:=decide_eq_true (qz0 (of_decide_eq_true h1) (of_decide_eq_true h2))
theorem qiz{a b:List Str}(h1:ltW a b=true):ltW b a=false:=decide_eq_false (qzz (of_decide_eq_true h1))
theorem qs8{a b:List Str}(h:a≠b):ltW a b=true\/ltW b a=true:=(qvq _ _ λe=>h (qou e)).imp decide_eq_true decide_eq_true
theorem qo7:∀a b:List Str,qdk (a.map D.str) (b.map D.str)=true
|[],_=>by
  show qdk [] _=true
  unfold qdk
  rfl
|_::_,[]=>by
  show qdk (_::_) []=true
  unfold qdk
  rfl
|x::a,y::b=>by
  show qdk (.str x::a.map D.str) (.str y::b.map D.str)=true
  unfold qdk
  rw[qo7 a b]
  unfold ordD
  rfl
theorem qzl(a:List Str):qdj (a.map D.str)=0:=by
 induction a with
|nil=>rfl
|cons x a ih =>
  show max (depD (.str x)) (qdj (a.map D.str))=0
  rw[ih]
  rfl
theorem qpx{a b:List Str}(h:wayD a=wayD b):a=b:=by
 have h':a.map D.str=b.map D.str:=D.tup.inj h
 exact(qht _ _).mp h'
theorem qq0{ws:List (List Str)}(nd:ws.Nodup):SortD (ws.map wayD) where
 tup:=.inl λd hd=>by
  obtain⟨w,_,rfl⟩:=List.mem_map.mp hd
  refine⟨w.map D.str,rfl,by rw[qzl];lia,λx hx=>?_⟩
  rw[List.getElem?_map] at hx
  obtain⟨z,_,rfl⟩:=Option.map_eq_some_iff.mp hx
  rfl
 ord:=λd hd e he=>by
  obtain⟨a,_,rfl⟩:=List.mem_map.mp hd
  obtain⟨b,_,rfl⟩:=List.mem_map.mp he
  show ordD (.tup _) (.tup _)=true
  unfold ordD
  exact qo7 a b
 tr:=λd hd e he f hf=>by
  obtain⟨a,_,rfl⟩:=List.mem_map.mp hd
  obtain⟨b,_,rfl⟩:=List.mem_map.mp he
  obtain⟨c,_,rfl⟩:=List.mem_map.mp hf
  rw[qdq,qdq,qdq]
  exact qs9
 as:=λd hd e he=>by
  obtain⟨a,_,rfl⟩:=List.mem_map.mp hd
  obtain⟨b,_,rfl⟩:=List.mem_map.mp he
  rw[qdq,qdq]
  exact qiz
 tot:=λd hd e he ne=>by
  obtain⟨a,_,rfl⟩:=List.mem_map.mp hd
  obtain⟨b,_,rfl⟩:=List.mem_map.mp he
  rw[qdq,qdq]
  exact qs8 λz=>ne (by rw[z])
 nd:=by
  rw[List.nodup_iff_pairwise_ne] at nd ⊢
  rw[List.pairwise_map]
  exact nd.imp λh z=>h (qpx z)
def ltS(a b:Str):Bool:=decide (a.cps.toList<b.cps.toList)
theorem qz7(a b:Str):ltD (.str a) (.str b)=ltS a b:=by unfold ltD;rfl
end L2
namespace L2
open PySem PySem.Spec PyProof.Rows
def qyw(tk tv:TE):TE:=λσ H Q=>∀p,H p=none->tk σ (upd H p (.dT [])) λx H1=>tv σ H1 λy H2=>H2 p=some (.dT [])/\∃b ks,x=.ref b/\H2 b=some (.tup (ks.map kV))/\Q (.ref p) (upd H2 p (.dT [(ks,y)]))
def qno(C:V->V->Hp->Prop)(ps:List (V×V))(H:Hp):Prop:=match ps with
|[(x,y)]=>C x y H
|_=>False
theorem qqr{C:V->V->Hp->Prop}{ps:List (V×V)}{H:Hp}(h:qno C ps H):∃x y,ps=[(x,y)]/\C x y H:=by
 unfold qno at h
 split at h
 ·exact⟨_,_,rfl,h⟩
 ·exact h.elim
section
variable {X:Cx} {pos:Pos} {k v:Expr} {tk tv:TE}
theorem qwe(hu:X.A.units+1<cLine)(hk:PE X k tk)(hv:PE X v tv):PE X (.Dict [some k] [v] pos) (qyw tk tv):=by
 intro pins s σ H Q I h
 have hn:=I.hok.fresh (Nat.le_refl s.heap.objs.size)
 have I1:=I.laid (a:=s.heap.objs.size) (o:=.dT []) (h':=s.heap.push { cls:=.type "dict",data:=.dict #[] }) (t':=s.toks) (λ_ _ q=>Heap.get?_push_of_some _ q) (Nat.le_refl _) (qoj s.heap I.big)
 have P:=qwl (pos:=pos) hk hv q01 pins _ σ _ (qno λx y H2=>H2 s.heap.objs.size=some (.dT [])/\∃(b:Addr) (ks:List Key),x=.ref b/\H2 b=some (.tup (ks.map kV))/\Q (.ref s.heap.objs.size) (upd H2 s.heap.objs.size (.dT [(ks,y)]))) I1 (h _ hn)
 rw[arm_eval_Dict,zip_pairTrees [some k] [v] X.env pos rfl rfl,dictDisplay_pairs _ (by simp[pairTrees]) (by simp[pairTrees])]
 refine wpAny_bind (wpAny_standAt (wpAny_bind ?_))
 unfold subDict
 refine wpAny_bind (wpAny_alloc (wpAny_bind (wpAny_holding ?_)))
 rw[if_pos (by simp[pairTrees])]
 refine wpAny_bind (wpAny_mono P (λws s2 hw=>?_) λ_ _ e=>e)
 obtain⟨ps,H2,I2,rel,hp⟩:=hw
 obtain⟨x,y,rfl,e,b,ks,rfl,eb,q2⟩:=qqr hp
 cases rel with
|cons hr rel =>
 cases rel
 obtain⟨ru,rv⟩:=hr
 rename_i wp
 obtain⟨u,r⟩:=wp
 obtain rfl:u=Value.ref b:=ru
 obtain⟨z,hd,xs,rk,dd⟩:=q2y I2.hok e
 cases rk
 refine wpAny_holding ?_
 rw[List.forIn_cons]
 refine wpAny_bind (wpAny_bind (wpAny_bind (wpAny_dictSet_heap (hsz:=Nat.zero_le _) (show (tupleKind (qbs X.prog X.w)).room X.A from by show X.A.units<cLine;lia) (qhn I2.hok eb) dd λh' dd' hs=>wpAny_pure ?_)))
 dsimp only
 rw[List.forIn_nil]
 refine wpAny_pure (wpAny_pure (wpAny_pure (wpAny_pure ⟨.ref s.heap.objs.size,_,?_,rfl,q2⟩)))
 obtain⟨q,es,ep,hq,g2,g3,g4,_,g5⟩:=dd'
 refine qmw I2 (by rw[e];exact True.intro) hs ⟨q,hq⟩ ⟨by show 1<=sizeLine;decide,hd,[(ks,b,r)],.cons ⟨rfl,?_,rv⟩ .nil,q,es,ep,hq,g2,g3,g4,g5⟩
 rw[qar (q3l eb e (λz=>nomatch z))]
 exact eb
theorem qwr(hu:X.A.units+1<cLine)(hk:QE X k tk)(hv:QE X v tv):QE X (.Dict [some k] [v] pos) (qyw tk tv):=⟨qwe hu hk.u hv.u⟩
end
section
variable {X:Cx} {EX:St->XK} {pos:Pos} {k v:Expr} {tk tv:TV}
def qpm(tk tv:TV):TV:=λτ Q=>tk τ λrk=>match rk.d with
|.tup es=>∃w:List Str,es=w.map D.str/\("" : Str)∉w/\tv τ λrv=>exR rv (λ_=>False) (pubR rv λd=>Q (.own (.dT [w] [d])))
|_=>False
theorem qxm(hu:X.A.units+64<cLine)(hk:VE X EX k tk)(hv:VE X EX v tv):VE X EX (.Dict [some k] [v] pos) (qpm tk tv) :=
 let ⟨_,a1,a2⟩:=hk.u;let ⟨_,b1,b2⟩:=hv.u;⟨_,qwr (by lia) a1 b1,λH0 B H τ σ Q Qd s S h xc kk p hp=>by
  have g0:Stp B H B (upd H p (.dT [])):=.grow s (qav hp _)
  refine a2 H0 B (upd H p (.dT [])) τ σ _ _ g0.s (S.step g0) h (xno λ_ q=>q) λrk vk B1 H1 p1 q1 h1=>?_
  split at h1
  ·rename_i es ek
   obtain⟨w,rfl,hne,h1⟩:=h1
   obtain⟨b,rfl,hb⟩:=q1.pk.way ek hne
   have S1:=S.step (g0.trans p1)
   refine b2 H0 B1 H1 τ σ _ _ p1.s S1 h1 (xno λ_ q=>by exact q) λrv vv B2 H2 p2 q2 h2=>?_
   obtain⟨d,B3,p3,_,rp,hq⟩:=pub p2 q2 (q2.ok h2)
   have hpp:(upd H p (.dT [])) p=some (.dT []):=qaw
   have e1:H1 p=some (.dT []):=p1.h _ _ hpp
   have e2:H2 p=some (.dT []):=p3.h _ _ e1
   refine⟨e2,b,wK w,rfl,?_,?_⟩
   ·rw[qn5]
    exact p3.h _ _ (p1.s _ _ hb)
   ·have hB3:B3 p=none:=(p1.trans p3).keep (s.free hp) (by rw[hpp];exact λz=>by cases z) λxs z=>by rw[hpp] at z;cases z
    refine kk (.own (.dT [w] [d])) _ B3 _ ?_ ⟨p,rfl,hp,hB3,?_⟩ hq
    ·exact(g0.trans (p1.trans p3)).upd hp hB3
    ·refine⟨[(wK w,vv)],qaw,rfl,.cons rp .nil⟩
  ·exact h1.elim⟩
end
end L2
namespace L2
open PySem PySem.Spec PyProof.Rows
theorem Room.dict{k:Nat}{A:Around}(r:Room k A):A.units+64<cLine:=by
 have:=r.un
 lia
end L2
namespace L2
open PySem PySem.Spec PyProof.Rows
section
variable {X:Cx} {EX:St->XK} {a:Expr} {ta:TV} {p pos:Pos}
end
end L2
namespace L2
open PySem PySem.Spec PyProof.Rows
theorem eqW(a b:List Str):eqD (.tup (a.map D.str)) (.tup (b.map D.str))=decide (a=b):=qbc (by
  rw[eqD_iff,decide_eq_true_eq]
  exact⟨λz=>qpx z,λz=>by rw[z]⟩)
theorem cmpW(a b:List Str):cmpD (.tup (a.map D.str)) (.tup (b.map D.str))=true:=by
 unfold cmpD
 exact qoe _ _
theorem depW(a:List Str):depD (.tup (a.map D.str))<=50:=by
 unfold depD
 rw[qjk]
 decide
def unS:D->Str
|.str z=>z
|_=>""
theorem qh9{ds:List D}{ss:List Str}(hp:ds.Perm (ss.map D.str))(hs:ds.Pairwise (λa b=>ltD a b=true)):∃ts:List Str,ds=ts.map D.str/\ts.Perm ss/\ts.Pairwise (λa b=>ltS a b=true):=by
 have e:ds=(ds.map unS).map D.str:=by
  rw[List.map_map]
  refine(List.map_id _).symm.trans (List.map_congr_left λd hd=>?_)
  obtain⟨z,_,rfl⟩:=List.mem_map.mp (hp.mem_iff.mp hd)
  rfl
 refine⟨ds.map unS,e,?_,?_⟩
 ·have:=hp.map unS
  rw[List.map_map] at this
  exact this.trans (List.Perm.of_eq ((List.map_congr_left λz _=>rfl).trans (List.map_id _)))
 ·rw[e,List.pairwise_map] at hs
  exact hs.imp λh=>by rw[←qz7];exact h
def unW:D->List Str
|.tup es=>(strsOf es).getD []
|_=>[]
theorem quf(w:List Str):unW (wayD w)=w:=by
 show (strsOf (w.map D.str)).getD []=w
 rw[qi6]
 rfl
theorem qu9{ds:List D}{ws:List (List Str)}(hp:ds.Perm (ws.map wayD))(hs:ds.Pairwise (λa b=>ltD a b=true)):∃vs:List (List Str),ds=vs.map wayD/\vs.Perm ws/\vs.Pairwise (λa b=>ltW a b=true):=by
 have e:ds=(ds.map unW).map wayD:=by
  rw[List.map_map]
  refine(List.map_id _).symm.trans (List.map_congr_left λd hd=>?_)
  obtain⟨w,_,rfl⟩:=List.mem_map.mp (hp.mem_iff.mp hd)
  show wayD w=wayD (unW (wayD w))
  rw[quf]
 refine⟨ds.map unW,e,?_,?_⟩
 ·have:=hp.map unW
  rw[List.map_map] at this
  exact this.trans (List.Perm.of_eq ((List.map_congr_left λw _=>quf w).trans (List.map_id _)))
 ·rw[e,List.pairwise_map] at hs
  exact hs.imp λh=>by rw[←qdq];exact h
abbrev Row:=List Str×Str×Str
def rowD(r:Row):D:=.tup [wayD r.1,.str r.2.1,.str r.2.2]
theorem cmpR(a b:Row):cmpD (rowD a) (rowD b)=true:=by
 show cmpD (.tup [.tup (a.1.map D.str),.str a.2.1,.str a.2.2]) (.tup [.tup (b.1.map D.str),.str b.2.1,.str b.2.2])=true
 have h:=cmpW a.1 b.1
 unfold cmpD at h ⊢
 simp only[qdd,cmpD,h,qrz,Bool.and_self,Bool.true_and]
theorem qzj(a:Row):depD (rowD a)=1+0\/depD (rowD a)<=20:=by
 right
 show depD (.tup [.tup (a.1.map D.str),.str a.2.1,.str a.2.2])<=20
 unfold depD
 simp only[qdj,depD,qjk]
 decide
theorem depR(a:Row):depD (rowD a)<=20:=by
 rcases qzj a with h|h
 ·lia
 ·exact h
theorem qte{rs:List Row}(nd:(rs.map (·.1)).Nodup){a b:Row}(ha:a∈rs)(hb:b∈rs)(h:a.1=b.1):a=b:=by
 induction rs with
|nil=>cases ha
|cons r rs ih =>
  rw[List.map_cons,List.nodup_cons] at nd
  rcases List.mem_cons.mp ha with ea|ha2
  ·rcases List.mem_cons.mp hb with eb|hb2
   ·rw[ea,eb]
   ·exact absurd (show r.1∈rs.map (·.1) from List.mem_map.mpr ⟨b,hb2,by rw[←h,ea]⟩) nd.1
  ·rcases List.mem_cons.mp hb with eb|hb2
   ·exact absurd (show r.1∈rs.map (·.1) from List.mem_map.mpr ⟨a,ha2,by rw[h,eb]⟩) nd.1
   ·exact ih nd.2 ha2 hb2
abbrev qbd(rs:List Row):Prop:=rs.Pairwise (λa b=>ltW a.1 b.1=true)
theorem qi2{rs:List Row}(h:qbd rs):(rs.map (·.1)).Nodup:=by
 rw[List.nodup_iff_pairwise_ne,List.pairwise_map]
 exact h.imp λ{a b} q z=>by
  rw[z] at q
  have:=qiz q
  rw[q] at this
  cases this
def qax(rs:List Row):D:=.lst (rs.map rowD)
section
variable {X:Cx} {pins:List (Addr×Obj)} {σ:St} {H:Hp} {s:Shared}
theorem q5h{A:Around}(I:Inv X pins σ H s){a b:Addr}{ds es:List D}{xs ys:List V}(ha:SqT X.K H a xs)(hb:SqT X.K H b ys)(r1:Reps X.K H ds xs)(r2:Reps X.K H es ys)(hc:qdd ds es=true)(hu:A.units<cLine)
  (ih:∀d∈ds,∀(e:D) (v z:V) (u w:Value),Rep X.K H d v->Rep X.K H e z->RelV v u->RelV z w->cmpD d e=true->SeqAt.EqAt A.in1 s u w (eqD d e)):SeqAt.RcNeAt A s (.ref a) (.ref b) (!eqD (.tup ds) (.tup es)):=by
 obtain⟨its,v1,p1,_⟩:=I.tuple ha
 obtain⟨its2,v2,p2,_⟩:=I.tuple hb
 have:=SeqAt.RcNeAt.tuples (A:=A) (s:=s) (e:=λj=>eqD (ds.getD j .non) (es.getD j .non)) (show s.heap.IsTuple a its.toArray from p1) (show s.heap.IsTuple b its2.toArray from p2) hu (qhm r1 r2 v1 v2 hc ih)
 rw[List.size_toArray,List.size_toArray,←v1.length,←v2.length,←r1.length,←r2.length,qer] at this
 rw[qsd]
 exact this
theorem q5g{A:Around}(I:Inv X pins σ H s){a b:Addr}{ds es:List D}{xs ys:List V}(ha:H a=some (.lst xs))(hb:H b=some (.lst ys))(r1:Reps X.K H ds xs)(r2:Reps X.K H es ys)(hc:qdd ds es=true)(hu:A.units<cLine)
  (ih:∀d∈ds,∀(e:D) (v z:V) (u w:Value),Rep X.K H d v->Rep X.K H e z->RelV v u->RelV z w->cmpD d e=true->SeqAt.EqAt A.in1 s u w (eqD d e)):SeqAt.RcNeAt A s (.ref a) (.ref b) (!eqD (.lst ds) (.lst es)):=by
 obtain⟨its,v1,p1,_⟩:=I.list (SqL.of ha)
 obtain⟨its2,v2,p2,_⟩:=I.list (SqL.of hb)
 have er:=qer ds es
 rw[qsc]
 by_cases hl:ds.length=es.length
 ·have hz:its.toArray.size=its2.toArray.size:=by rw[List.size_toArray,List.size_toArray,←v1.length,←v2.length,←r1.length,←r2.length,hl]
  have:=SeqAt.RcNeAt.lists (A:=A) (s:=s) (e:=λj=>eqD (ds.getD j .non) (es.getD j .non)) p1.isList p2.isList hz hu (qhm r1 r2 v1 v2 hc ih)
  rw[List.size_toArray,←v1.length,←r1.length] at this
  rw[←hl,Nat.min_self] at er
  have e2:(ds.length==ds.length)=true:=by simp
  rw[e2,Bool.and_true] at er
  rw[er] at this
  exact this
 ·have e2:(ds.length==es.length)=false:=by simpa using hl
  rw[e2,Bool.and_false] at er
  rw[←er]
  refine SeqAt.RcNeAt.lists_lengths p1.isList p2.isList ?_ hu
  rw[List.size_toArray,List.size_toArray,←v1.length,←v2.length,←r1.length,←r2.length]
  simpa using hl
theorem q3z(hu:X.A.units+60<cLine):OpR X (compareOp .NotEq) (rEqD X.K not):=by
 intro pins s σ H x y v u Q I rx ry h
 obtain⟨d,e,hd,he,hc,hn,q⟩:=h
 have fin:EP X pins σ Q (.bool (!eqD d e)) s:=⟨.bl (!eqD d e),H,I,rfl,q⟩
 have un:X.A.in1.units=X.A.units+1:=rfl
 cases d with
|tup ds =>
  cases e with
 |tup es =>
   unfold Rep at hd he
   obtain⟨a,xs,rfl,ha,r1⟩:=hd
   obtain⟨b,ys,rfl,hb,r2⟩:=he
   cases rx
   cases ry
   unfold cmpD at hc
   unfold depD at hn
   exact q5h I ha.sq hb.sq r1 r2 hc (by lia) (λd hd e v z u w h1 h2 h3 h4 h5=>qgq I _ X.A.in1 d e v z u w (Nat.le_refl _) h1 h2 h3 h4 h5 (by have:=qcv hd;lia)) _ _ _ _ fin
 |_=>unfold cmpD at hc;cases hc
|lst ds =>
  cases e with
 |lst es =>
   unfold Rep at hd he
   obtain⟨a,xs,rfl,ha,r1⟩:=hd
   obtain⟨b,ys,rfl,hb,r2⟩:=he
   cases rx
   cases ry
   unfold cmpD at hc
   unfold depD at hn
   exact q5g I ha hb r1 r2 hc (by lia) (λd hd e v z u w h1 h2 h3 h4 h5=>qgq I _ X.A.in1 d e v z u w (Nat.le_refl _) h1 h2 h3 h4 h5 (by have:=qcv hd;lia)) _ _ _ _ fin
 |_=>unfold cmpD at hc;cases hc
|_ =>
  obtain⟨v',z',q1,q2,q3⟩:=qnx hc (λ_ h=>by cases h) (λ_ h=>by cases h)
  have e1:=qex hd q1
  have e2:=qex he q2
  subst e1 e2
  have q':Q (.bl (!eqD _ _)) H:=q
  rw[qjm q1 q2] at q'
  exact q6p pins s σ H _ _ v u Q I rx ry ⟨q3,q'⟩
def vNeD(rx ry:R)(Q:R->Prop):Prop:=cmpD rx.d ry.d=true/\depD rx.d<=50/\Q (.val (.bl (!eqD rx.d ry.d)))
theorem qjb(hu:X.A.units+64<cLine):VO X (compareOp .NotEq) vNeD :=
 ⟨_,q3z (by lia),λB H x y rx ry Q Qd s px py h k=>⟨rx.d,ry.d,px.rep s,py.rep s,h.1,h.2.1,k _ _ B H (.refl s) (repV rfl) h.2.2⟩⟩
end
section
variable {X:Cx} {pos p2:Pos} {e st:Expr} {te:TE} {lo hi:Option Expr} {tl th ts:TO}
end
section
variable {X:Cx} {EX:St->XK} {pos p2:Pos} {e st:Expr} {te:TV} {lo hi:Option Expr} {tl th ts:TVO} {K:PySem.W.Frag} {B:Hp}
end
end L2
namespace L2
section
variable {α:Type} [DecidableEq α]
end
section
variable {α β:Type} [DecidableEq α]
end
end L2
namespace L2
open PySem
abbrev qa3:Str:="folder"
abbrev qa5:Str:="shut"
abbrev qcl:Str:="gone"
abbrev qdg:Str:="file"
abbrev qcz:Str:="link"
abbrev tEmpty:Str:=""
theorem qz8(l:List (List Nat))(x:List Nat):l<l++[x]:=by
 induction l with
|nil=>exact List.nil_lt_cons _ _
|cons y l ih=>exact List.cons_lt_cons_iff.mpr (.inr ⟨rfl,ih⟩)
theorem qvx{w:List Str}(h:w≠[]):ltW w.dropLast w=true:=by
 refine decide_eq_true ?_
 conv=>rhs;rw[←List.dropLast_concat_getLast h]
 unfold keyW
 rw[List.map_append]
 exact qz8 _ _
def inR(p:List Row)(w:List Str):Bool:=decide (w∈p.map (·.1))
def qz9(p:List Row)(w:List Str):Option Str:=(p.find? λr=>decide (r.1=w)).map (·.2.1)
def q24:Option Str->Bool
|none=>false
|some m=>!decide (m=qa3)
def q6i(p:List Row)(w:List Str):Bool:=(List.range w.length).any λk=>q24 (qz9 p (w.take k))
theorem qvy(p:List Row)(w:List Str):(qz9 p w).isSome=inR p w:=by
 unfold qz9 inR
 rw[Option.isSome_map]
 by_cases h:w∈p.map (·.1)
 ·rw[decide_eq_true h,List.find?_isSome]
  obtain⟨r,mr,er⟩:=List.mem_map.mp h
  exact⟨r,mr,decide_eq_true er⟩
 ·rw[decide_eq_false h,Bool.eq_false_iff]
  intro q
  rw[List.find?_isSome] at q
  obtain⟨r,mr,er⟩:=q
  exact h (List.mem_map.mpr ⟨r,mr,of_decide_eq_true er⟩)
structure TreeOk(tr:List Row):Prop where
 so:qbd tr
 cl:∀r∈tr,r.1≠[]/\(r.1.dropLast=[]\/r.1.dropLast∈tr.map (·.1))
structure PaneOk(p:List Row):Prop where
 so:qbd p
 cl:∀r∈p,r.1=[]\/r.1.dropLast=[]\/∃q∈p,q.1=r.1.dropLast/\q.2.1≠qcl
 mr:∀r∈p,(r.2.1=qdg\/r.2.1=qcz)\/(r.2.1=qa3/\r.2.2=tEmpty)\/r.2.1=qa5\/r.2.1=qcl
 rt:∀r∈p,r.1=[]->r.2.1=qa5
structure Clo(tr:List Row):Prop where
 so:qbd tr
 cl:∀r∈tr,r.1=[]\/r.1.dropLast=[]\/r.1.dropLast∈tr.map (·.1)
def thD:Str×Str->D:=λt=>.tup [.str t.1,.str t.2]
def WyOk(w:List Str):Prop:=w.length<=20/\∀z∈w,1<=z.length/\z.length<=12
def Wy14(w:List Str):Prop:=w.length<=14/\∀z∈w,1<=z.length/\z.length<=12
theorem WyOk.ne{w:List Str}(h:WyOk w):("" : Str)∉w:=λm=>by
 have:=(h.2 _ m).1
 have e:("" : Str).length=0:=by decide +kernel
 lia
def prR(r:Row):List Str×D:=(r.1,thD r.2)
theorem qs5(rs:List Row)(w:List Str):lkP (rs.map prR) w=(rs.find? λr=>decide (r.1=w)).map λr=>thD r.2:=by
 unfold lkP
 rw[List.find?_map,Option.map_map]
 rfl
def prM(r:Row):List Str×D:=(r.1,.str r.2.1)
theorem q2l(rs:List Row):(rs.map prR).map (·.1)=rs.map (·.1):=by rw[List.map_map];rfl
theorem qor:∀(es:List D),(∀e∈es,∃z:Int,e=.int z)->∃cs:List Int,es=cs.map D.int
|[],_=>⟨[],rfl⟩
|e::es,h=>by
  obtain⟨z,rfl⟩:=h e (List.mem_cons_self ..)
  obtain⟨cs,rfl⟩:=qor es λx hx=>h x (List.mem_cons_of_mem _ hx)
  exact⟨z::cs,rfl⟩
def bulk(p:List Row):Nat:=(p.filter λr=>!decide (r.1=[])).length
def mkOk(r:Row):Prop:=(r.2.1=qdg\/r.2.1=qcz)\/(r.2.1=qa3/\r.2.2=tEmpty)\/r.2.1=qa5\/r.2.1=qcl
def FS(m:Str):Prop:=m=qa3\/m=qa5
def q2n(rs:List Row)(f:List Str):Prop:=Wy14 f/\(f=[]\/∃q∈rs,q.1=f/\FS q.2.1)
def q6d(rs:List Row)(r:Row):Prop:=(r.1=[]/\r.2.1=qa5)\/(r.1≠[]/\Wy14 r.1/\q2n rs r.1.dropLast/\mkOk r)
structure PInv(i:Nat)(rs:List Row)(fs:List (List Str)):Prop where
 nd:(rs.map (·.1)).Nodup
 row:∀r∈rs,q6d rs r
 blk:bulk rs<=i
 len:rs.length<=i+1
 ne:fs≠[]
 fol:∀f∈fs,q2n rs f
 fln:fs.length<=i+1
 nu:∀r∈rs,r.2.1=qcl\/r.2.1=qa5->q6i rs r.1=false
def lkR(rs:List Row)(w:List Str):Str×Str:=((rs.find? λr=>decide (r.1=w)).map (·.2)).getD (tEmpty,tEmpty)
theorem qgv{rs:List Row}(nd:(rs.map (·.1)).Nodup){r:Row}(h:r∈rs):(rs.find? λq=>decide (q.1=r.1))=some r:=by
 cases e:rs.find? λq=>decide (q.1=r.1) with
|none=>exact absurd (decide_eq_true rfl) (List.find?_eq_none.mp e r h)
|some q =>
  have h1:=List.mem_of_find?_eq_some e
  have h2:q.1=r.1:=of_decide_eq_true (p:=q.1=r.1) (by simpa using List.find?_some e)
  rw[qte nd h1 h h2]
theorem qlx{rs:List Row}(nd:(rs.map (·.1)).Nodup){vs:List (List Str)}(hv:vs.Perm (rs.map (·.1)))(hs:vs.Pairwise (λa b=>ltW a b=true)):(vs.map λw=>(w,lkR rs w)).Perm rs/\qbd (vs.map λw=>(w,lkR rs w)):=by
 constructor
 ·refine(hv.map _).trans (List.Perm.of_eq ?_)
  rw[List.map_map]
  refine(List.map_congr_left λr hr=>?_).trans (List.map_id _)
  show (r.1,lkR rs r.1)=r
  unfold lkR
  rw[qgv nd hr]
  rfl
 ·show List.Pairwise _ (List.map _ _)
  rw[List.pairwise_map]
  exact hs
theorem qs4{rs:List Row}(nd:(rs.map (·.1)).Nodup){w:List Str}(h:w∈rs.map (·.1)):lkP (rs.map prR) w=some (thD (lkR rs w)):=by
 obtain⟨r,mr,rfl⟩:=List.mem_map.mp h
 rw[qs5]
 unfold lkR
 rw[qgv nd mr]
 rfl
def s6(u:Nat):Nat:=u%99991%9+(u+96542*1)%99991%9+(u+96542*2)%99991%9+(u+96542*3)%99991%9+(u+96542*4)%99991%9+(u+96542*5)%99991%9
end L2
namespace L2
open PySem PySem.Spec PyProof.Rows
section
variable {K:PySem.W.Frag} {B:Hp} {ad:Addr}
end
section
variable {X:Cx} {EX:St->XK} {pos p:Pos} {x y:Str} {es:List Expr} {tA:TVA}
end
end L2
namespace L2
open PySem PySem.Spec PyProof.Rows
structure PaneC(p:List Row):Prop where
 so:qbd p
 cl:∀r∈p,r.1=[]\/r.1.dropLast=[]\/∃q∈p,q.1=r.1.dropLast/\q.2.1≠qcl
section
variable {α:Type} {f:α->D} {τ:VSt} {k:Nat} {g:TVG} {ti:TVT} {te:TV} {Q:R->Prop}
end
def s5(u:Nat):Nat:=u%99991%8+(u+96542*1)%99991%8+(u+96542*2)%99991%8+(u+96542*3)%99991%8+(u+96542*4)%99991%8
theorem v_if{t:TVT}{a b:TVS}{Dv:VEnds}{τ:VSt}(P:Bool->Prop)(ht:∀Y:Bool->Prop,(∀c,P c->Y c)->t τ Y)(ha:P true->a Dv τ)(hb:P false->b Dv τ):vIfS t a b Dv τ :=
 ht _ λc hc=>by
  cases c with
 |true=>exact iteT (ha hc)
 |false=>exact iteF (hb hc)
end L2
namespace L2
open PySem PySem.Spec PyProof.Rows
section
variable {X:Cx} {pins:List (Addr×Obj)} {σ:St} {H:Hp} {s:Shared} {h':Heap}
theorem Inv.turnL{t':Nat}{ch:List Addr}(I:Inv X pins σ H s)(k:∀b o,b∉ch->s.heap.get? b=some o->h'.get? b=some o)(f:∀b∈ch,FpOk X pins H b):Inv X pins σ H { s with heap:=h',toks:=t' }:=by
 refine I.step (g':=s.gens) (d':=s.drawn) (ch:=ch) (λb hb=>?_) (λb o _ _ hc e _=>k b o hc e) (λb o _ _ hc e _=>⟨o.slots,k b o hc e⟩) (λ_ _ _ _ n=>n)
  (λb o hc e=>⟨o,k b o hc e⟩) (λ_ _ e=>e) (λ_ _ _ e=>e) (λb ps e=>⟨#[],by rw[e];simp⟩) (λm hm=>?_) (λb u e=>?_) I.bare
 ·obtain⟨f0,f1,f2,f3,f4,f5⟩:=f b hb
  exact⟨f3,f1,f4,f5⟩
 ·obtain⟨o,es,ep,ho,r⟩:=hm
  exact⟨o,es,ep,k _ o (λz=>(f _ z).2.1 rfl) ho,r⟩
 ·refine(I.hok b u e).stay (λc v hc q=>k c v ?_ q) (λ_ q=>q) λ_ _ q=>q
  rcases hc with z|z
  ·rw[z]
   exact λm=>by rw[(f b m).1] at e;cases e
  ·exact λm=>by rw[(f c m).1] at z;cases z
theorem Inv.turnN{t':Nat}{ch:List Addr}{a:Addr}{o:HO}(I:Inv X pins σ H s)(k:∀b o,b∉ch->s.heap.get? b=some o->h'.get? b=some o)(f:∀b∈ch,FpOk X pins H b)(hp:s.heap.objs.size<=a)(new:ObjOk X.prog X.w (upd H a o) h' a o) :
  Inv X pins σ (upd H a o) { s with heap:=h',toks:=t' }:=by
 have hn:=I.hok.fresh hp
 have lt:∀b u,s.heap.get? b=some u->b≠a:=λb u e=>Nat.ne_of_lt (Nat.lt_of_lt_of_le (Heap.lt_size e) hp)
 refine I.step (g':=s.gens) (d':=s.drawn) (ch:=ch) (λb hb=>?_) (λb o _ _ hc e _=>k b o hc e) (λb o _ _ hc e _=>⟨o.slots,k b o hc e⟩) (λb u _ e n=>by rw[qar (lt b u e)];exact n)
  (λb o hc e=>⟨o,k b o hc e⟩) (λb xs e=>by rw[qar (qbb e hn)];exact e) (λb u xs e=>by rw[qar (qbb e hn)];exact e) (λb ps e=>⟨#[],by rw[qar (qbb e hn),e];simp⟩) (λm hm=>?_) (λb u e=>?_) I.bare
 ·obtain⟨f0,f1,f2,f3,f4,f5⟩:=f b hb
  exact⟨f3,f1,f4,f5⟩
 ·obtain⟨o,es,ep,ho,r⟩:=hm
  exact⟨o,es,ep,k _ o (λz=>(f _ z).2.1 rfl) ho,r⟩
 ·by_cases hb:b=a
  ·subst hb
   rw[qaw] at e
   cases e
   exact new
  ·rw[qar hb] at e
   refine(I.hok b u e).stay (λc v hc q=>k c v ?_ q) (λc q=>by rw[qar (qbb q hn)];exact q) λc xs q=>by rw[qar (qbb q hn)];exact q
   rcases hc with z|z
   ·rw[z]
    exact λm=>by rw[(f b m).1] at e;cases e
   ·exact λm=>by rw[(f c m).1] at z;cases z
end
section
variable {X:Cx} {elts:List Expr} {kk:Nat} {tp p pos:Pos}
end
section
variable {X:Cx} {EX:St->XK} {elts:List Expr} {kk:Nat} {tp p pos:Pos} {K:PySem.W.Frag} {B:Hp} {a:Expr} {ta:TV}
end
end L2
namespace L2
open PySem PySem.Spec PyProof.Rows
section
variable {prog:Program} {w:World} {A:Around}
end
section
variable {X:Cx} {p kp pos:Pos} {a d:Expr}
end
section
variable {X:Cx} {EX:St->XK} {p kp pos cp:Pos} {a:Expr} {te:TV} {j:Nat}
end
end L2
namespace L2
open PySem PySem.Spec PyProof.Rows
section
variable {X:Cx} {EX:St->XK} {pos pos' p apos cpos:Pos} {x y:Str} {e:Expr}
end
end L2
namespace L2
open PySem PySem.Spec PyProof.Rows
section
variable {X:Cx} {pins:List (Addr×Obj)} {σ:St} {H:Hp} {s:Shared} {tg:Expr}
theorem Inv.frzD{a:Addr}{kvs:List (List Key×V)}(I:Inv X pins σ H s)(e:H a=some (.dT kvs)):∃o,Inv X pins σ (upd H a (.frz o (.dT kvs))) s:=by
 have ok:ObjOk X.prog X.w H s.heap a (.dT kvs):=I.hok a _ e
 obtain⟨_,_,_,_,o,es,ep,h1,_⟩:=id ok
 have nt:∀c xs,H c=some (.tup xs)->c≠a:=λc xs q z=>by rw[z,e] at q;cases q
 have no:∀c,H c=some (.own a)->c≠a:=λc q z=>by rw[z,e] at q;cases q
 refine⟨o,I.write (x:=a) (e:=a) (t':=s.toks) (h':=s.heap) (by rw[e];exact trivial) (.inl rfl) (λ_ _ _ q=>q) ⟨o,h1⟩ ⟨h1,ok.stay (λ_ _ _ q=>q) (λc q=>by rw[qar (no c q)];exact q) λc xs q=>by rw[qar (nt c xs q)];exact q⟩⟩
def Itf(a:Addr)(o:Obj)(kvs:List (List Key×V)):It :=
 ⟨λi H=>H a=some (.frz o (.dT kvs))/\i<kvs.length,λi H x H'=>H'=H/\∃(b:Addr) (k:List Key),x=.ref b/\kvs[i]?.map (·.1)=some k/\H b=some (.tup (k.map kV)),λi H=>H a=some (.frz o (.dT kvs))/\kvs.length<=i⟩
theorem qpc{h:Heap}{a:Addr}{o:Obj}{es es':Array DictEntry}{ep ep':Nat}(x:RawD h a es' ep')(h1:h.get? a=some o)(hd:o.data=.dict es ep):ep'=ep:=by
 obtain⟨o',e1,_,e2⟩:=x
 rw[h1] at e1
 cases e1
 rw[hd] at e2
 cases e2
 rfl
theorem qq5{P:Program}{w:World}{K:PySem.W.Frag}(a it:Addr)(o:Obj)(kvs:List (List Key×V)){es:Array DictEntry}{ep:Nat}(hd:o.data=.dict es ep):Turn P w K tg (Itf a o kvs) [it] it (λi h=>h.IsKeyIter it a i kvs.length ep) where
 mem:=by simp
 obj:=λi h st b hb=>by
  have e:b=it:=by simpa using hb
  subst e
  obtain⟨o,e,c,d⟩:=st
  exact⟨o,e,λv z=>by rw[d] at z;cases z⟩
 keep:=λi h h' st k=>st.at λo e=>k it (by simp) o e
 item:=by
  intro X hP hw hK hc i pins s σ H E I hf st hg
  subst hP hw hK
  obtain⟨ha,hi⟩:=hg
  obtain⟨z,no,es',ep',raw,hs,hk⟩:=qok I.hok (.inr ⟨o,ha⟩)
  have h1:s.heap.get? a=some o:=(I.hok a _ ha).1
  have ee:=qpc raw h1 hd
  subst ee
  have lt:i<es'.size:=by rw[hs];exact hi
  have ek:es'[i]?.map (·.key)=some es'[i].key:=by rw[Array.getElem?_eq_getElem lt];rfl
  obtain⟨b,k,eb,e1,e2⟩:=hk i _ ek
  obtain⟨f0,f1,f2,f3,f4,f5⟩:=hf it (by simp)
  rw[←hs] at st
  refine qpa st raw ek λh' st' sb=>?_
  have I1:Inv X pins σ H { s with heap:=h' }:=I.turned (t':=s.toks) (λb o hb e=>(sb.2 b hb).trans e) f0 f1 f3 f4 f5
  obtain⟨oi,e,c,d⟩:=id st'
  rw[hs] at st'
  rw[eb]
  exact⟨_,rfl,qqb (s:={ s with heap:=h' }) e c d (by decide) ⟨.ref b,H,I1,rfl,⟨rfl,b,k,rfl,e1,e2⟩,st',λb hb=>(hf b hb).1⟩⟩
 done:=by
  intro X hP hw hK hc i pins s σ H E I hf st hg
  subst hP hw hK
  obtain⟨ha,hi⟩:=hg
  obtain⟨z,no,es',ep',raw,hs,hk⟩:=qok I.hok (.inr ⟨o,ha⟩)
  have h1:s.heap.get? a=some o:=(I.hok a _ ha).1
  have ee:=qpc raw h1 hd
  subst ee
  obtain⟨f0,f1,f2,f3,f4,f5⟩:=hf it (by simp)
  rw[←hs] at st
  exact qty (I.ok.hd hc) st raw (by rw[hs];exact hi) λh' eb=>⟨rfl,I.turned (t':=s.toks) (λb o hb e=>eb b o hb e) f0 f1 f3 f4 f5⟩
 self:=λ_ _ _ _ _ st h=>wpAny_pyIter_keyiter st h
def qyc(tl:TE):TI:=λσ H R=>tl σ H λx H1=>∃a o kvs,x=.ref a/\H1 a=some (.frz o (.dT kvs))/\R (Itf a o kvs) H1
theorem qwj{l:Expr}{tl:TE}(hl:PE X l tl):PI X tg l (qyc tl):=by
 intro pins s σ H R I h
 refine thn (hl pins s σ H _ I h) λv s1 ⟨x,H1,I1,r1,q1⟩=>?_
 obtain⟨a,o,kvs,rfl,ha,q⟩:=q1
 cases r1
 obtain⟨z,no,es,ep,raw,hs,hk⟩:=qok I1.hok (.inr ⟨o,ha⟩)
 have h1:s1.heap.get? a=some o:=(I1.hok a _ ha).1
 have hd:o.data=.dict es ep:=by
  obtain⟨o',e1,_,e2⟩:=raw
  rw[h1] at e1
  cases e1
  exact e2
 refine qpb no raw ?_
 refine⟨s1.heap.objs.size,[s1.heap.objs.size],_,_,H1,rfl,I1.kept (t':=s1.toks) λb o e=>Heap.get?_push_of_some _ e,qq5 a _ o kvs hd,⟨_,Heap.get?_push_size _ rfl,rfl,by rw[hs];rfl⟩,λb hb=>?_,q⟩
 have e:b=s1.heap.objs.size:=by simpa using hb
 subst e
 exact I1.fpOk (Nat.le_refl _) (I1.hok.fresh (Nat.le_refl _))
theorem qwv{l:Expr}{tl:TE}(hl:QE X l tl):QI X tg l (qyc tl):=⟨qwj hl.u⟩
def q7h(i:Nat)(t:TS):TS:=λD σ H=>∃a kvs,σ[i]?=some (some (.ref a))/\H a=some (.dT kvs)/\∀o,t D σ (upd H a (.frz o (.dT kvs)))
theorem qwy{ss:List Stmt}{t:TS}(i:Nat)(h:QSs X ss t):QSs X ss (q7h i t):=⟨λpins s σ H D I ⟨a,kvs,_,e2,k⟩=>by
 obtain⟨o,I2⟩:=Inv.frzD I e2
 exact h.u pins s σ _ D I2 (k o)⟩
end
section
variable {X:Cx} {EX:St->XK} {K:PySem.W.Frag} {B H:Hp} {tg:Expr} {x:Str} {pos:Pos} {rest:List Stmt} {t:TVS}
def qn3(i:Nat)(t:TVS):TVS:=λDv τ=>match τ[i]? with
|some (some (.own (.dT ks ds)))=>t Dv (τ.set i (some (.peek (.dT ks ds))))
|_=>False
theorem qxs(i:Nat)(h:VSs X EX rest t):VSs X EX rest (qn3 i t) :=
 let ⟨_,a1,a2⟩:=h.u;⟨_,qwy i a1,λB0 H0 B H τ σ Dv Dh p S h E=>by
  unfold qn3 at h
  split at h
  ·rename_i ks ds e
   obtain⟨a,q,h0,hb,kvs,e1,e2,e3⟩:=S.own i _ e
   refine⟨a,kvs,q,e1,λo=>?_⟩
   have sb:=qav hb (HO.frz o (.dT kvs))
   refine a2 B0 H0 (upd B a (.frz o (.dT kvs))) _ _ σ _ _ ⟨p.b.trans sb,p.h.put h0,λc u q=>?_,λc z=>?_⟩ ⟨by rw[List.length_set,S.len],λj f q'=>?_,λj f q'=>?_,λj f q'=>?_,λj k f g c q1 q2 q3 q4=>?_⟩ h E
   ·by_cases z:c=a
    ·subst z
     rw[qaw] at q ⊢
     exact q
    ·rw[qar z] at q ⊢
     exact p.s _ _ q
   ·by_cases w:c=a
    ·exact .inr (.inl (w▸h0))
    ·rw[qar w] at z
     exact p.d c z
   ·rcases qb0 q' with ⟨rfl,z,l⟩|⟨n,q'⟩
    ·cases z
    ·obtain⟨w,q1,r⟩:=S.val j f q'
     exact⟨w,q1,r.same sb⟩
   ·rcases qb0 q' with ⟨rfl,z,l⟩|⟨n,q'⟩
    ·cases z
     exact⟨_,q,.inl ⟨a,ks,ds,kvs,o,rfl,rfl,qaw,e2,e3.same sb⟩⟩
    ·obtain⟨w,q1,r⟩:=S.fz j f q'
     exact⟨w,q1,r.same sb⟩
   ·rcases qb0 q' with ⟨rfl,z,l⟩|⟨n,q'⟩
    ·cases z
    ·obtain⟨c,q1,h0',hb',w⟩:=S.own j f q'
     have ne:c≠a:=λz=>by subst z;exact n (S.sep i j _ f c e q' q q1)
     exact⟨c,q1,h0',by rw[qar ne];exact hb',w.step sb (qar ne)⟩
   ·rcases qb0 q1 with ⟨rfl,z,l⟩|⟨n,q1⟩
    ·cases z
    rcases qb0 q2 with ⟨rfl,z,l⟩|⟨n2,q2⟩
    ·cases z
    exact S.sep j k f g c q1 q2 q3 q4
  ·exact h.elim⟩
theorem q1t{w:List Str}{b:Addr}(h:B b=some (.tup (w.map V.str))):Rep K B (.tup (w.map D.str)) (.ref b):=by
 unfold Rep
 exact⟨b,_,rfl,.inl h,qfp w⟩
theorem qvp{a:Addr}{o:Obj}{kvs:List (List Key×V)}{ks:List (List Str)}(h:B a=some (.frz o (.dT kvs)))(hk:kvs.map (·.1)=ks.map wK):ItOk K B (Itf a o kvs) (ks.map λw=>.tup (w.map D.str)):=λi B2 H sb s2=>by
 have hl:kvs.length=ks.length:=by simpa using congrArg List.length hk
 have hH:H a=some (.frz o (.dT kvs)):=s2 _ _ (sb _ _ h)
 refine⟨λd e=>?_,λe=>⟨hH,?_⟩⟩
 ·rw[List.getElem?_map] at e
  obtain⟨w,ew,rfl⟩:=Option.map_eq_some_iff.mp e
  have lt:=(List.getElem?_eq_some_iff.mp ew).1
  refine⟨⟨hH,by lia⟩,λx H' q=>?_⟩
  obtain⟨rfl,b,k,rfl,e1,e2⟩:=q
  have ek:k=wK w:=by
   have:(kvs.map (·.1))[i]?=(ks.map wK)[i]?:=by rw[hk]
   rw[List.getElem?_map,List.getElem?_map,e1,ew] at this
   exact Option.some.inj this
  subst ek
  rw[qn5] at e2
  refine⟨_,Stp.tups s2 [b] (λc hc=>by rw[List.mem_singleton.mp hc];exact⟨_,e2⟩),q1t ?_⟩
  show (if b∈[b] then H' b else B2 b)=_
  rw[if_pos (by simp)]
  exact e2
 ·have:=List.getElem?_eq_none_iff.mp e
  rw[List.length_map] at this
  lia
def qie(i:Nat):TVA:=λτ Q=>match τ[i]? with
|some (some (.peek (.dT ks _)))=>Q (.ok (ks.map λw=>.tup (w.map D.str)))
|_=>False
theorem qxo(i:Nat)(hN:X.N[i]?=some x:=by rfl)(hv:Vis X.env.scope x:=by first|exact Or.inl rfl|exact Or.inr (Or.inl rfl)|exact Or.inr (Or.inr rfl))(hd:(x==("__debug__" : Str))=false:=by decide)
  (hcd:(x==("__classdict__" : Str))=false:=by decide):VI X EX tg (.Name x pos) (qie i):=⟨_,qwv (qv i hN hv hd hcd),λH0 B H τ σ Q Qd s S h xc k=>by
  unfold qie at h
  split at h
  ·rename_i ks ds e
   obtain⟨v,q,⟨a,ks',ds',kvs,o,e1,rfl,e3,e4,e5⟩|⟨_,z,_⟩⟩:=S.fz i _ e
   case inr=>cases z
   cases e1
   exact⟨.ref a,q,a,o,kvs,rfl,s _ _ e3,k _ _ B H (.refl s) (qvp e3 e4) h⟩
  ·exact h.elim⟩
end
end L2
namespace L2
open PySem PySem.Spec PyProof.Rows
section
variable {X:Cx}
def q1s:V->List V->Hp->VK->Prop:=λx vs H Q=>∃l xs i y,x=.ref l/\vs=[.int i,y]/\H l=some (.lst xs)/\0<=i/\i<=xs.length/\i<2 ^ 60/\xs.length<sizeLine/\Q .non (upd H l (.lst (xs.take i.toNat++y::xs.drop i.toNat)))
theorem qtc:MtM X "list.insert" q1s:=by
 intro pins s σ H x vs v us Q I rx rv h
 obtain⟨l,xs,i,y,rfl,rfl,hH,h0,hk,hk2,hz,q⟩:=h
 cases rx
 obtain⟨u1,us1,rfl,r1,r2⟩:∃u1 us1,us=u1::us1/\RelV (V.int i) u1/\Vals [y] us1:=by
  cases rv with
 |cons a b=>exact⟨_,_,rfl,a,b⟩
 obtain⟨u,rfl,ru⟩:=r2.one
 obtain⟨t,rfl⟩:=r1
 obtain⟨z,its,n,r,hl,e⟩:=I.lstM hH
 have hfit:¬ (!Builtin.List.listFitsIndex i)=true:=by
  rw[fitsIndex_both (by lia) (by lia)]
  decide
 have m:=AutoSeq1.list_insert_list_int_val_1 l its.toArray n i t u hfit (by rw[List.size_toArray];lia)
 refine call_meets F.slot_list_insert ⟨_,e,rfl⟩ F.entry_list_insert (F.args_list_insert_3 _ _ _) m ⟨e,?_⟩
 refine⟨.non,_,I.lset (its':=its.take i.toNat++u::its.drop i.toNat) hH e ?_ ((r.take i.toNat).append (.cons ru (r.drop i.toNat))) ?_,rfl,q⟩
 ·have h0:¬ i<0:=by lia
  simp only[if_neg h0,List.size_toArray]
  rw[Nat.min_eq_left (by lia)]
  apply Array.toList_inj.mp
  simp[Array.toList_extract,List.extract_eq_take_drop]
  rw[List.take_of_length_le (by rw[List.length_drop];exact Nat.le_refl _)]
 ·rw[List.length_append,List.length_cons,List.length_take,List.length_drop]
  lia
end
section
variable {X:Cx} {EX:St->XK} {pos pos' p apos cpos:Pos} {x:Str} {e:Expr} {es:List Expr} {te:TV} {tA:TVA} {K:PySem.W.Frag} {B B' H H0:Hp} {τ:VSt} {σ:St}
def qid(i:Nat)(tA:TVA):TVS:=λDv τ=>ownL τ i λds=>tA τ λa=>match a with
|.ok [.int k,d]=>0<=k/\k<=ds.length/\k<1000/\ds.length<sizeLine/\Dv.nx (τ.set i (some (.own (.lst (ds.take k.toNat++d::ds.drop k.toNat)))))
|_=>False
theorem qme(i:Nat)(h:VA X EX (e::es) tA)(hN:X.N[i]?=some x:=by rfl)(hv:Vis X.env.scope x:=by first|exact Or.inl rfl|exact Or.inr (Or.inl rfl)|exact Or.inr (Or.inr rfl))(hd:(x==("__debug__" : Str))=false:=by decide)
  (hcd:(x==("__classdict__" : Str))=false:=by decide) (hp:(e::es).all qaq=true:=by rfl) (hfew:decide ((e::es).length<30)=true:=by rfl)
  (hbase:attributeBase (.Name x p) "insert" X.env (eval (.Name x p) X.env)=eval (.Name x p) X.env:=by rfl) (hline:(apos.endLine==cpos.line)=true:=by rfl)
  (hs:swapsWith (.Call (.Attribute (.Name x p) "insert" apos) (e::es) [] cpos) none pos.line X.env=pure false:=by rfl) :
  VS X EX (.Expr (.Call (.Attribute (.Name x p) "insert" apos) (e::es) [] cpos) pos) (qid i tA) :=
 let ⟨_,a1,a2⟩:=h.u;⟨_,qj7 (qbm PySem.F.plainAttrs_list PySem.F.slot_list_insert PySem.F.type_list_insert qtc (qv i hN hv hd hcd) a1 hp hfew hbase hline) hs,λB0 H0 B H τ σ Dv Dh p S h E=>by
  obtain⟨ds,ad,xs,e1,h,e2,e3,_⟩:=S.ownL h
  refine⟨.ref ad,e2,.inl ⟨rfl,xs,SqL.of e3⟩,a2 H0 B H τ σ _ _ p.s S h (xno λ_ q=>q) λds' vs B' H' q hr hq=>?_⟩
  split at hq
  ·rename_i a k d ea
   cases ea
   obtain⟨k0,k1,k2,hz,hn⟩:=hq
   unfold Reps at hr
   obtain⟨v0,vs0,rfl,r0,hr⟩:=hr
   unfold Reps at hr
   obtain⟨v1,vs1,rfl,r1,hr⟩:=hr
   unfold Reps at hr
   subst hr
   unfold Rep at r0
   subst r0
   have S2:=S.step q
   obtain⟨a',q1,_,_,xs2,q4,q3⟩:=S2.own i _ e1
   rw[e2] at q1
   cases q1
   have hl:=q3.length
   refine⟨ad,xs2,k,v1,rfl,rfl,q4,k0,by lia,by lia,by lia,?_⟩
   obtain⟨p3,S3⟩:=S2.lst (p.trans q) e1 e2 ((q3.take k.toNat).append (.cons r1 (q3.drop k.toNat)))
   exact E.nx B' _ _ σ p3 S3 hn
  ·exact hq.elim⟩
end
end L2
namespace L2
open PySem PySem.Spec PyProof.Rows
section
variable {X:Cx} {pins:List (Addr×Obj)} {σ:St} {H:Hp} {s:Shared} {st:Stmt} {rest:List Stmt}
end
section
variable {X:Cx} {EX:St->XK} {K:PySem.W.Frag} {B B' H H0:Hp} {τ:VSt} {σ:St} {x:Str} {e:Expr} {te:TV} {rest:List Stmt} {u:TVS} {pos pos':Pos}
end
end L2
namespace L2
open PySem PySem.Spec PyProof.Rows
section
variable {X:Cx} {EX:St->XK} {pos p cpos:Pos} {x y:Str} {e:Expr} {es:List Expr} {tA:TVA} {K:PySem.W.Frag} {B B' H H0:Hp} {τ:VSt} {σ:St}
end
end L2
namespace L2
open PySem PySem.Spec PyProof.Rows
def Itz(K:PySem.W.Frag)(a b:Addr):It :=
 ⟨λi H=>∃xs ys x y,SqL K H a xs/\SqL K H b ys/\xs[i]?=some x/\ys[i]?=some y,λi H x H'=>∃T y z,x=.ref T/\H T=none/\(∀xs,SqL K H a xs->xs[i]?=some y)/\(∀ys,SqL K H b ys->ys[i]?=some z)/\H'=upd H T (.tup [y,z]),λi H=>∃xs ys,SqL K H a xs/\SqL K H b ys/\(xs[i]?=none\/ys[i]?=none)⟩
theorem qxg{P:Program}{w:World}{K:PySem.W.Frag}{elts:List Expr}{kk:Nat}{pos:Pos}(a b z TI TO i1 i2:Addr)(D:ZipApart z TI TO i1 i2 a b):Turn P w K (.Tuple elts kk pos) (Itz K a b) [z,TI,TO,i1,i2] z (λi h=>IsZip h z TI TO .none/\IsPair h TI (.ref i1) (.ref i2)/\(∃x y,IsPair h TO x y)/\h.IsListIter i1 a i/\h.IsListIter i2 b i) where
 mem:=by simp
 obj:=λi h st c hc=>by
  obtain⟨hz,hTI,⟨x,y,hTO⟩,⟨o1,e1,_,d1⟩,⟨o2,e2,_,d2⟩⟩:=st
  simp only[List.mem_cons,List.not_mem_nil,or_false] at hc
  rcases hc with rfl|rfl|rfl|rfl|rfl
  ·exact⟨_,hz,λv q=>by
    have q':Data.fields _=Data.cell v:=q
    cases q'⟩
  ·exact⟨_,hTI,λv q=>by
    have q':Data.seq _ _=Data.cell v:=q
    cases q'⟩
  ·exact⟨_,hTO,λv q=>by
    have q':Data.seq _ _=Data.cell v:=q
    cases q'⟩
  ·exact⟨o1,e1,λv q=>by rw[d1] at q;cases q⟩
  ·exact⟨o2,e2,λv q=>by rw[d2] at q;cases q⟩
 keep:=λi h h' st k=>by
  obtain⟨hz,hTI,⟨x,y,hTO⟩,h1,h2⟩:=st
  exact⟨k z (by simp) _ hz,k TI (by simp) _ hTI,⟨x,y,k TO (by simp) _ hTO⟩,h1.at λo q=>k i1 (by simp) o q,h2.at λo q=>k i2 (by simp) o q⟩
 item:=by
  intro X hP hw hK hc i pins s σ H E I hf st hg
  subst hP hw hK
  obtain⟨xs,ys,x,y,hq1,hq2,hx,hy⟩:=hg
  obtain⟨its1,rv1,p1,_⟩:=I.list hq1
  obtain⟨its2,rv2,p2,_⟩:=I.list hq2
  obtain⟨u,hu,ru⟩:=rv1.get hx
  obtain⟨u2,hu2,ru2⟩:=rv2.get hy
  have W:=WalksT.zip2 (prog:=X.prog) (w:=X.w) (I.ok.hd hc) z TI TO i1 i2 a b D its1.toArray its2.toArray
  have l1:=(List.getElem?_eq_some_iff.mp hu).1
  have l2:=(List.getElem?_eq_some_iff.mp hu2).1
  refine W.item i s _ _ (by rw[List.size_toArray,List.size_toArray];lia) ⟨st.1,st.2.1,st.2.2.1,st.2.2.2.1,st.2.2.2.2,p1.isList,p2.isList⟩ λT vals h1 tk hv hT ht mid kp=>?_
  refine⟨.ref T,rfl,W.go elts kk pos i T _ _ _ mid λh2 st2 kp2=>?_⟩
  obtain⟨x',y',hx',hy',rfl⟩:=hv
  have ex:x'=u:=by
   have hx2:its1[i]?=some x':=by simpa using hx'
   exact Option.some.inj (hx2.symm.trans hu)
  have ey:y'=u2:=by
   have hy2:its2[i]?=some y':=by simpa using hy'
   exact Option.some.inj (hy2.symm.trans hu2)
  subst ex ey
  have nT:=W.apart _ _ _ mid
  obtain⟨oT,eT,cT,dT⟩:=ht
  have new:ObjOk X.prog X.w (upd H T (.tup [x,y])) h2 T (.tup [x,y]):=⟨by show 2<=sizeLine;decide,[x',y'],.cons ru (.cons ru2 .nil),oT,kp2 T oT nT eT,cT,dT⟩
  have sub:∀c,c∉[z,TI,TO,i1,i2]->c∉[z,TO,i1,i2]:=λc hc m=>hc (by
   simp only[List.mem_cons,List.not_mem_nil,or_false] at m ⊢
   rcases m with q | q | q | q<;>simp[q])
  have I2:=I.turnN (t':=tk) (h':=h2) (ch:=[z,TI,TO,i1,i2]) (λb o hb q=>kp2 b o (sub b hb) (kp b o (sub b hb) q)) hf hT new
  refine⟨.ref T,_,I2,rfl,⟨T,x,y,rfl,I.hok.fresh hT,λys hy'=>by rw[I.list_inj hy' hq1];exact hx,λys hy'=>by rw[I.list_inj hy' hq2];exact hy,rfl⟩,⟨st2.1,st2.2.1,st2.2.2.1,st2.2.2.2.1,st2.2.2.2.2.1⟩,λb hb=>?_⟩
  have hb2:=(hf b hb).1
  obtain⟨o,eo,_⟩:∃o,s.heap.get? b=some o/\True:=by
   obtain⟨hz,hTI,⟨q1,q2,hTO⟩,⟨o1,e1,_⟩,⟨o2,e2,_⟩⟩:=st
   simp only[List.mem_cons,List.not_mem_nil,or_false] at hb
   rcases hb with rfl|rfl|rfl|rfl|rfl
   ·exact⟨_,hz,trivial⟩
   ·exact⟨_,hTI,trivial⟩
   ·exact⟨_,hTO,trivial⟩
   ·exact⟨_,e1,trivial⟩
   ·exact⟨_,e2,trivial⟩
  have:b≠T:=Nat.ne_of_lt (Nat.lt_of_lt_of_le (Heap.lt_size eo) hT)
  rw[qar this]
  exact hb2
 done:=by
  intro X hP hw hK hc i pins s σ H E I hf st hg
  subst hP hw hK
  obtain⟨xs,ys,hq1,hq2,hx⟩:=hg
  obtain⟨its1,rv1,p1,_⟩:=I.list hq1
  obtain⟨its2,rv2,p2,_⟩:=I.list hq2
  obtain⟨hz,hTI,⟨q1,q2,hTO⟩,h1,h2⟩:=st
  have l1:=rv1.length
  have l2:=rv2.length
  have hend:its1.toArray[i]?=none\/its2.toArray[i]?=none:=by
   refine hx.imp (λq=>?_) λq=>?_
   ·have:=List.getElem?_eq_none_iff.mp q
    simp
    lia
   ·have:=List.getElem?_eq_none_iff.mp q
    simp
    lia
  exact wpAny_pyNext_zip_end (I.ok.hd hc) D hz hTI hTO h1 h2 p1.isList p2.isList hend λh' eb=>⟨rfl,I.turnL (t':=s.toks) (ch:=[z,TI,TO,i1,i2]) (λb o hb q=>eb b o (λy=>hb (by simp[y])) (λy=>hb (by simp[y])) (λy=>hb (by simp[y])) (λy=>hb (by simp[y])) q) hf⟩
 self:=λ_ _ _ _ _ st h=>wpAny_pyIter_zip st.1 h
section
variable {X:Cx} {elts:List Expr} {kk:Nat} {tp p pos:Pos}
def iZip(K:PySem.W.Frag)(ta:TA):TI:=λσ H R=>ta σ H λvs H1=>∃a b xs ys,vs=[.ref a,.ref b]/\SqL K H1 a xs/\SqL K H1 b ys/\R (Itz K a b) H1
theorem q4h{a b:Expr}{ta:TA}(hg:Gl X "zip")(hm:X.mg "zip" = none)(ha:PA X [a,b] ta)(hs:starEach [a,b] X.env=[(false,eval a X.env),(false,eval b X.env)]:=by rfl)(hs2:starEach [b] X.env=[(false,eval b X.env)]:=by rfl):PI X (.Tuple elts kk tp) (.Call (.Name "zip" p) [a,b] [] pos) (iZip X.K ta):=by
 intro pins s σ H R I h
 refine Call_ (qld I hg hm boot_zip (PyProof.Rows.callWith_type1 (thn (ha pos pins s σ H _ I h) λus s1 ⟨vs,H1,I1,r1,q1⟩=>?_) (by rw[hs,hs2]) (by rw[hs2];rfl)))
 obtain⟨ad,bd,xs,ys,e,hq1,hq2,q⟩:=q1
 subst e
 cases r1 with
|cons r rr =>
  cases rr with
 |cons r' rr =>
   cases rr
   cases r
   cases r'
   obtain⟨its1,rv1,p1,_⟩:=I1.list hq1
   obtain⟨its2,rv2,p2,_⟩:=I1.list hq2
   have a1:ad<s1.heap.objs.size:=by obtain⟨_,e,_⟩:=p1.isList;exact Heap.lt_size e
   have a2:bd<s1.heap.objs.size:=by obtain⟨_,e,_⟩:=p2.isList;exact Heap.lt_size e
   refine call_zip_2 p1.isList p2.isList λh' hz hTI hTO hi1 hi2 hsz kp=>wpAny_pyIter_zip hz ?_
   refine⟨s1.heap.objs.size+4,[s1.heap.objs.size+4,s1.heap.objs.size+2,s1.heap.objs.size+3,s1.heap.objs.size,s1.heap.objs.size+1],_,_,H1,rfl,I1.kept (t':=s1.toks) kp,qxg ad bd _ _ _ _ _ (zipApart_new a1 a2),⟨hz,hTI,⟨_,_,hTO⟩,hi1,hi2⟩,λb hb=>?_,q⟩
   have hge:s1.heap.objs.size<=b:=by
    simp only[List.mem_cons,List.not_mem_nil,or_false] at hb
    rcases hb with q|q|q|q|q<;>rw[q]<;>first|exact Nat.le_add_right _ _|exact Nat.le_refl _
   exact I1.fpOk hge (I1.hok.fresh hge)
theorem q4y{a b:Expr}{ta:TA}(hg:Gl X "zip")(hm:X.mg "zip" = none)(ha:QA X [a,b] ta)(hp:qaq a=true:=by rfl)(hp2:qaq b=true:=by rfl):QI X (.Tuple elts kk tp) (.Call (.Name "zip" p) [a,b] [] pos) (iZip X.K ta):=⟨q4h hg hm ha.u (by rw[qa9 hp,qa9 hp2];rfl) (qa9 hp2)⟩
end
def zipL(ds es:List D):List D:=(ds.zip es).map λp=>.tup [p.1,p.2]
section
variable {X:Cx} {EX:St->XK} {elts:List Expr} {kk:Nat} {tp p pos:Pos} {K:PySem.W.Frag} {B:Hp} {a b:Expr} {ta tb:TV}
theorem q29{ad bd:Addr}{ds es:List D}{xs ys:List V}(h:SqL K B ad xs)(h2:SqL K B bd ys)(r:Reps K B ds xs)(r2:Reps K B es ys):ItOk K B (Itz K ad bd) (zipL ds es):=λi B2 H sb s2=>by
 have s:=sb.trans s2
 unfold zipL
 refine⟨λd e=>?_,λe=>⟨xs,ys,s.seq h,s.seq h2,?_⟩⟩
 ·rw[List.getElem?_map] at e
  obtain⟨pq,e0,rfl⟩:=Option.map_eq_some_iff.mp e
  have e1:=List.getElem?_zip_eq_some.mp e0
  obtain⟨w,hw,rw1⟩:=r.at e1.1
  obtain⟨w2,hw2,rw2⟩:=r2.at e1.2
  refine⟨⟨xs,ys,w,w2,s.seq h,s.seq h2,hw,hw2⟩,λy H' q=>?_⟩
  obtain⟨T,z,z2,rfl,hT,hz,hz2,rfl⟩:=q
  have ez:z=w:=Option.some.inj ((hz xs (s.seq h)).symm.trans hw)
  have ez2:z2=w2:=Option.some.inj ((hz2 ys (s.seq h2)).symm.trans hw2)
  subst ez ez2
  refine⟨upd B2 T (.tup [z,z2]),.new s2 hT,?_⟩
  have rr:Reps K B2 [pq.1,pq.2] [z,z2]:=.cons (rw1.same sb) (.one (rw2.same sb))
  exact qfo rr (s2.free hT)
 ·rw[List.getElem?_map] at e
  have e1:=List.getElem?_eq_none_iff.mp (Option.map_eq_none_iff.mp e)
  rw[List.length_zip] at e1
  have l1:=r.length
  have l2:=r2.length
  rcases Nat.le_total ds.length es.length with q|q
  ·exact .inl (List.getElem?_eq_none_iff.mpr (by lia))
  ·exact .inr (List.getElem?_eq_none_iff.mpr (by lia))
def vZip(tA:TVA):TVA:=λτ Q=>tA τ λa=>match a with
|.ok [.lst ds,.lst es]=>Q (.ok (zipL ds es))
|_=>False
theorem q51{tA:TVA}(hg:Gl X "zip")(hm:X.mg "zip" = none)(h:VA X EX [a,b] tA)(hp:qaq a=true:=by rfl)(hp2:qaq b=true:=by rfl):VI X EX (.Tuple elts kk tp) (.Call (.Name "zip" p) [a,b] [] pos) (vZip tA):=by
 obtain⟨_,a1,a2⟩:=h.u
 exact⟨_,q4y hg hm a1 hp hp2,λH0 B H τ σ Q Qd s S h xc k=>a2 H0 B H τ σ _ _ s S h (xno λ_ q=>q) λds vs B' H' q hr hq=>by
  split at hq
  ·rename_i ar d1 d2 ea
   cases ea
   unfold Reps at hr
   obtain⟨v0,vs0,rfl,r0,hr⟩:=hr
   unfold Reps at hr
   obtain⟨v1,vs1,rfl,r1,hr⟩:=hr
   unfold Reps at hr
   subst hr
   unfold Rep at r0 r1
   obtain⟨ad,xs,rfl,ha,q1⟩:=r0
   obtain⟨bd,ys,rfl,hb,q2⟩:=r1
   exact⟨ad,bd,xs,ys,rfl,SqL.of (q.s _ _ ha),SqL.of (q.s _ _ hb),k _ _ B' H' q (q29 (SqL.of ha) (SqL.of hb) q1 q2) hq⟩
  ·exact hq.elim⟩
end
section
variable {X:Cx} {EX:St->XK}
def rLtD(K:PySem.W.Frag):R2:=λx y H Q=>∃d e,Rep K H d x/\Rep K H e y/\ordD d e=true/\depD d<=50/\Q (.bl (ltD d e)) H
theorem q3w(hu:X.A.units+60<cLine):OpR X (compareOp .Lt) (rLtD X.K):=by
 intro pins s σ H x y v u Q I rx ry h
 obtain⟨d,e,hd,he,hc,hn,q⟩:=h
 exact qoy I _ X.A d e x y v u (Nat.le_refl _) hd he rx ry hc (by lia) X.prog X.w X.xe _ ⟨.bl (ltD d e),H,I,rfl,q⟩
def vLtD(rx ry:R)(Q:R->Prop):Prop:=ordD rx.d ry.d=true/\depD rx.d<=50/\Q (.val (.bl (ltD rx.d ry.d)))
theorem qy1(hu:X.A.units+64<cLine):VO X (compareOp .Lt) vLtD:=⟨_,q3w (by lia),λB H x y rx ry Q Qd s px py h k=>⟨rx.d,ry.d,px.rep s,py.rep s,h.1,h.2.1,k (.val (.bl (ltD rx.d ry.d))) _ B H (.refl s) (repV rfl) h.2.2⟩⟩
end
end L2
namespace L2
open PySem PySem.Spec PyProof.Rows Builtin.Str
section
variable {X:Cx}
theorem qtd:MtM X "str.split" (λx vs H Q=>∃a b k,x=.str a/\vs=[.str b,.int k]/\0<=k/\k<1000/\(b.length==0)=false/\a.length<=sizeLine/\(Txt.splitMax a b k).length<=sizeLine/\∀l,H l=none->Q (.ref l) (upd H l (.lst ((Txt.splitMax a b k).map V.str)))):=by
 intro pins s σ H x vs v us Q I rx rv h
 obtain⟨a,b,k,rfl,rfl,k0,k1,hb,ha,hz,q⟩:=h
 obtain⟨t,rfl⟩:=rx
 obtain⟨u1,us1,rfl,r1,r2⟩:∃u1 us1,us=u1::us1/\RelV (V.str b) u1/\Vals [V.int k] us1:=by
  cases rv with
 |cons a b=>exact⟨_,_,rfl,a,b⟩
 obtain⟨t',rfl⟩:=r1
 obtain⟨u,rfl,⟨t2,rfl⟩⟩:=r2.one
 have hk:(decide (k < -(2 ^ 63:Int))||decide (k≥2 ^ 63))=false:=by
  rw[decide_eq_false (by lia),decide_eq_false (by lia)]
  rfl
 cases h1:(decide (a.length<b.length)||decide (strKind a<strKind b))
 ·cases hf:(occurrences a b 0 a.length (limitOf a k)).isEmpty
  ·have e:Txt.splitMax a b k=partsBetween a (occurrences a b 0 a.length (limitOf a k)) b.length:=by
    unfold Txt.splitMax
    rw[h1,hf,if_neg Bool.false_ne_true,if_neg Bool.false_ne_true]
   refine call_meets F.slot_str_split (typeIs_str _ _ _) F.entry_str_split (F.args_str_split_3 _ _ _) (meets_str_split_sep_max a b k t t' t2 hk h1 hb hf ha (by rw[←e];exact hz)) ?_
   rw[strsFrom_eq,←e]
   have r:=qig (numbered s.toks (Txt.splitMax a b k))
   rw[numbered_texts] at r
   exact⟨.ref _,_,I.lnew (t':=_) r (by rw[List.length_map];exact hz),rfl,q _ I.fresh⟩
  ·have e:Txt.splitMax a b k=[a]:=by
    unfold Txt.splitMax
    rw[h1,hf,if_neg Bool.false_ne_true,if_pos rfl]
   rw[e] at q
   exact call_meets F.slot_str_split (typeIs_str _ _ _) F.entry_str_split (F.args_str_split_3 _ _ _) (meets_str_split_max_not_found a b k t t' t2 hk h1 hb hf) ⟨.ref _,_,I.lnew (t':=s.toks) (ys:=[.str a]) (its:=[.str a t]) (.cons ⟨t,rfl⟩ .nil) (show 1<=sizeLine by decide),rfl,q _ I.fresh⟩
 ·have e:Txt.splitMax a b k=[a]:=by
   unfold Txt.splitMax
   rw[h1,if_pos rfl]
  rw[e] at q
  exact call_meets F.slot_str_split (typeIs_str _ _ _) F.entry_str_split (F.args_str_split_3 _ _ _) (meets_str_split_max_cannot_occur a b k t t' t2 hk h1) ⟨.ref _,_,I.lnew (t':=s.toks) (ys:=[.str a]) (its:=[.str a t]) (.cons ⟨t,rfl⟩ .nil) (show 1<=sizeLine by decide),rfl,q _ I.fresh⟩
abbrev TJ:=St->Hp->Str->VK->Prop
structure QJ(X:Cx)(vs:List Expr)(t:TJ):Prop where
 u:∀(pins:List (Addr×Obj)) (s:Shared) (σ:St) (H:Hp) (out:Str) (Q:VK),Inv X pins σ H s->t σ H out Q->wpAny (model X.prog X.w) X.A (joinParts out (evalEach vs X.env)) (EP X pins σ Q) X.xe s
def q7j:TJ:=λ_ H out Q=>out.length<=sizeLine/\Q (.str out) H
theorem q4z:QJ X [] q7j:=⟨λpins s σ H out Q I h=>joinParts_nil ⟨.str out,H,I.tok _,⟨_,rfl⟩,h.2⟩ h.1⟩
def q7k(z:Str)(t:TJ):TJ:=λσ H out Q=>(out++z).length<=sizeLine/\t σ H (out++z) Q
theorem q40{z:Str}{j:Nat}{p:Pos}{rest:List Expr}{t:TJ}(h:QJ X rest t)(hs:evalEach (.Constant (.str z) j p::rest) X.env=eval (.Constant (.str z) j p) X.env::evalEach rest X.env:=by rfl):QJ X (.Constant (.str z) j p::rest) (q7k z t):=⟨λpins s σ H out Q I hh=>by
 rw[hs]
 refine joinParts_cons (thn (qe_str.u pins s σ H (λv H1=>v=.str z/\H1=H) I ⟨rfl,rfl⟩) λv s1 ⟨x,H1,I1,r1,q1⟩=>?_)
 obtain⟨rfl,rfl⟩:=q1
 obtain⟨t',rfl⟩:=r1
 exact⟨hh.1,h.u pins s1 σ _ _ Q I1 hh.2⟩⟩
def q7l(te:TE)(t:TJ):TJ:=λσ H out Q=>te σ H λv H1=>∃y,v=.str y/\y.length<=sizeLine/\(out++y).length<=sizeLine/\t σ H1 (out++y) Q
theorem q41{e:Expr}{p:Pos}{rest:List Expr}{te:TE}{t:TJ}(he:QE X e te)(h:QJ X rest t)(hs:evalEach (.FormattedValue e (-1) none p::rest) X.env=eval (.FormattedValue e (-1) none p) X.env::evalEach rest X.env:=by rfl):QJ X (.FormattedValue e (-1) none p::rest) (q7l te t):=⟨λpins s σ H out Q I hh=>by
 rw[hs]
 refine joinParts_cons (FormattedValue_plain (thn (he.u pins s σ H _ I hh) λv s1 ⟨x,H1,I1,r1,q1⟩=>?_))
 obtain⟨y,rfl,h1,h2,h3⟩:=q1
 obtain⟨t',rfl⟩:=r1
 refine formatField_str (λt2 tk=>?_) h1
 exact⟨h2,h.u pins _ σ H1 _ Q (I1.kept (t':=tk) λ_ _ q=>q) h3⟩⟩
theorem q1g{v1 v2:Expr}{rest:List Expr}{t:TJ}{p:Pos}(h:QJ X (v1::v2::rest) t)(hs:evalEach (v1::v2::rest) X.env=eval v1 X.env::eval v2 X.env::evalEach rest X.env:=by rfl):QE X (.JoinedStr (v1::v2::rest) p) (λσ H Q=>t σ H Str.empty Q):=⟨λpins s σ H Q I hh=>JoinedStr_many (by rw[←hs];exact h.u pins s σ H _ Q I hh)⟩
end
section
variable {X:Cx} {EX:St->XK} {K:PySem.W.Frag} {o e e1 e2:Expr} {to te t1 t2:TV} {apos cpos p pos:Pos} {x:Str} {rest:List Expr}
abbrev TVJ:=VSt->Str->(R->Prop)->Prop
def RfJ(K:PySem.W.Frag)(t:TJ)(u:TVJ):Prop:=∀(H0 B H:Hp) (τ:VSt) (σ:St) (out:Str) (Q:VK) (Qd:R->Prop),Same B H->Slots K H0 B H τ σ->u τ out Qd->(∀r v B' H',Stp B H B' H'->RepR K B' H H' r v->Qd r->Q v H')->t σ H out Q
structure VJ(X:Cx)(EX:St->XK)(vs:List Expr)(t:TVJ):Prop where
 u:∃tj,QJ X vs tj/\RfJ X.K tj t
def qut:TVJ:=λ_ out Q=>out.length<=sizeLine/\Q (.val (.str out))
theorem qy0:VJ X EX [] qut:=⟨_,q4z,λH0 B H τ σ out Q Qd s S h k=>⟨h.1,k (.val (.str out)) _ B H (.refl s) (repV rfl) h.2⟩⟩
def qq9(z:Str)(t:TVJ):TVJ:=λτ out Q=>(out++z).length<=sizeLine/\t τ (out++z) Q
theorem quu{z:Str}{j:Nat}{t:TVJ}(h:VJ X EX rest t)(hs:evalEach (.Constant (.str z) j p::rest) X.env=eval (.Constant (.str z) j p) X.env::evalEach rest X.env:=by rfl):VJ X EX (.Constant (.str z) j p::rest) (qq9 z t):=by
 obtain⟨_,a1,a2⟩:=h.u
 exact⟨_,q40 a1 hs,λH0 B H τ σ out Q Qd s S h k=>⟨h.1,a2 H0 B H τ σ _ Q Qd s S h.2 k⟩⟩
def qmb(te:TV)(t:TVJ):TVJ:=λτ out Q=>te τ λr=>∃z,r.d=.str z/\z.length<=sizeLine/\(out++z).length<=sizeLine/\t τ (out++z) Q
theorem qmc{t:TVJ}(he:VE X EX e te)(h:VJ X EX rest t)(hs:evalEach (.FormattedValue e (-1) none p::rest) X.env=eval (.FormattedValue e (-1) none p) X.env::evalEach rest X.env:=by rfl):VJ X EX (.FormattedValue e (-1) none p::rest) (qmb te t):=by
 obtain⟨_,a1,a2⟩:=h.u
 obtain⟨_,b1,b2⟩:=he.u
 exact⟨_,q41 b1 a1 hs,λH0 B H τ σ out Q Qd s S h k=>b2 H0 B H τ σ _ _ s S h (xno λ_ ⟨_,q,_⟩=>by cases q) λr v B1 H1 p1 q1 h1=>by
  obtain⟨z,ez,g1,g2,g3⟩:=h1
  cases q1.pk.scal (z:=.str z) (by rw[ez];rfl)
  exact⟨z,rfl,g1,g2,a2 H0 B1 H1 τ σ _ Q Qd p1.s (S.step p1) g3 λr v B2 H2 p2 q2 h2=>k r v B2 H2 (p1.trans p2) (q2.back p1.h) h2⟩⟩
def quh(t:TVJ):TV:=λτ Q=>t τ Str.empty Q
theorem qul{v1 v2:Expr}{t:TVJ}(h:VJ X EX (v1::v2::rest) t)(hs:evalEach (v1::v2::rest) X.env=eval v1 X.env::eval v2 X.env::evalEach rest X.env:=by rfl):VE X EX (.JoinedStr (v1::v2::rest) p) (quh t):=by
 obtain⟨_,a1,a2⟩:=h.u
 exact⟨_,q1g a1 hs,λH0 B H τ σ Q Qd s S h xc k=>a2 H0 B H τ σ _ Q Qd s S h k⟩
def qkl(to:TV)(tA:TVA):TV:=λτ Q=>to τ λrs=>match rs.d with
|.str a=>tA τ λar=>match ar with
 |.ok [.str b,.int k]=>0<=k/\k<1000/\(b.length==0)=false/\a.length<=sizeLine/\(Txt.splitMax a b k).length<=sizeLine/\Q (.own (.lst ((Txt.splitMax a b k).map D.str)))
 |_=>False
|_=>False
theorem qun{tA:TVA}(ho:VE X EX o to)(h:VA X EX [e1,e2] tA)(hp:([e1,e2]:List Expr).all qaq=true:=by rfl)(hbase:attributeBase o "split" X.env (eval o X.env)=eval o X.env:=by rfl)(hline:(apos.endLine==cpos.line)=true:=by rfl) :
  VE X EX (.Call (.Attribute o "split" apos) [e1,e2] [] cpos) (qkl to tA):=by
 obtain⟨_,o1,o2⟩:=ho.u
 obtain⟨_,a1,a2⟩:=h.u
 exact⟨_,qbm PySem.F.plainAttrs_str PySem.F.slot_str_split PySem.F.type_str_split qtd o1 a1 hp rfl hbase hline,λH0 B H τ σ Q Qd s S h xc k =>
  o2 H0 B H τ σ _ _ s S h (xno λ_ q=>q) λrs vs B1 H1 p1 q1 h1=>by
   split at h1
   ·rename_i a es
    cases q1.pk.scal (z:=.str a) (by rw[es];rfl)
    refine⟨rfl,a2 H0 B1 H1 τ σ _ _ p1.s (S.step p1) h1 (xno λ_ q=>q) λds us B2 H2 p2 r2 h2=>?_⟩
    split at h2
    ·rename_i ar b k' ea
     cases ea
     obtain⟨k0,k1,hb,ha,hz,hq⟩:=h2
     unfold Reps at r2
     obtain⟨v0,vs0,rfl,r0,r2⟩:=r2
     unfold Reps at r2
     obtain⟨v1,vs1,rfl,r1,r2⟩:=r2
     unfold Reps at r2
     subst r2
     unfold Rep at r0 r1
     subst r0 r1
     refine⟨a,b,k',rfl,rfl,k0,k1,hb,ha,hz,λl hl=>k (.own (.lst ((Txt.splitMax a b k').map D.str))) _ B2 _ ((p1.trans p2).trans (.grow p2.s (qav hl _))) ⟨l,rfl,p1.h.free (p2.h.free hl),p2.s.free hl,?_⟩ hq⟩
     exact qc8 (qfp _)
    ·exact h2.elim
   ·exact h1.elim⟩
end
def spN(c:Nat):Nat->List Nat->List (List Nat)
|0,l=>[l]
|k+1,l=>if c∈l then l.takeWhile (·≠c)::spN c k ((l.dropWhile (·≠c)).drop 1) else [l]
theorem qgx(c k:Nat){l:List Nat}(h:c∉l):spN c k l=[l]:=by
 cases k with
|zero=>rfl
|succ k=>unfold spN;rw[if_neg h]
theorem qkf(c k:Nat)(pre post:List Nat)(h:c∉pre):spN c (k+1) (pre++c::post)=pre::spN c k post:=by
 rw[spN,if_pos (List.mem_append_right _ (List.mem_cons_self ..))]
 have h1:∀a∈pre,(decide (a≠c))=true:=λa m=>decide_eq_true λe=>h (e▸m)
 rw[List.takeWhile_append_of_pos h1,List.dropWhile_append_of_pos h1,List.takeWhile_cons_of_neg (by simp),List.dropWhile_cons_of_neg (by simp),List.append_nil]
 rfl
theorem qhv(s:Str)(c n lim:Nat)(hn:n=s.length):∀(l:List Nat) (a:Nat) (st:Array Nat×Nat),l=List.range' a (n+1-a)->a<=n+1->st.2<=a ->
  (forIn l st (StrLaws.occBody s ⟨#[c]⟩ n lim)).run.fst.toList=st.1.toList++((List.range' a (n-a)).filter λi=>s.cps[i]?==some c).take (lim-st.1.size)
|[],a,st,hl,ha,h2=>by
  have e:n+1-a=0:=by simpa using congrArg List.length hl.symm
  have e2:n-a=0:=by lia
  rw[e2]
  simp
|x::l,a,st,hl,ha,h2=>by
  have ea:n+1-a=(n-a)+1:=by
   have:=congrArg List.length hl
   simp at this
   lia
  rw[ea,List.range'_succ] at hl
  injection hl with e1 e2
  subst e1
  rw[List.forIn_cons]
  have el:l=List.range' (x+1) (n+1-(x+1)):=by rw[e2];congr 1;lia
  have one:(⟨#[c]⟩:Str).length=1:=rfl
  by_cases hx:x<n
  ·have er:List.range' x (n-x)=x::List.range' (x+1) (n-(x+1)):=by
    have:n-x=(n-(x+1))+1:=by lia
    rw[this,List.range'_succ]
   have hs:x<s.cps.size:=by show x<s.length;lia
   have sub:subAt s ⟨#[c]⟩ x=(s.cps[x]?==some c):=by
    unfold subAt
    rw[one]
    have:s.cps.extract x (x+1)=#[s.cps[x]]:=by
     apply Array.ext
     ·simp;lia
     ·intro i h1 h2
      have:i=0:=by simp at h2;lia
      subst this
      simp
    rw[this,Array.getElem?_eq_getElem hs]
    apply qbc
    simp
   rw[er,List.filter_cons]
   unfold StrLaws.occBody
   rw[sub,one]
   by_cases hc:(s.cps[x]?==some c)=true
   ·rw[if_pos hc]
    by_cases hl:st.1.size<lim
    ·rw[if_pos ⟨⟨⟨hl,h2⟩,by lia⟩,hc⟩]
     show (forIn l (st.1.push x,x+1) (StrLaws.occBody s ⟨#[c]⟩ n lim)).run.fst.toList=_
     rw[qhv s c n lim hn l (x+1) (st.1.push x,x+1) el (by lia) (Nat.le_refl _)]
     have e3:lim-st.1.size=(lim-(st.1.size+1))+1:=by lia
     rw[e3,List.take_succ_cons]
     simp
    ·rw[if_neg (λz=>hl z.1.1.1)]
     show (forIn l (st.1,st.2) (StrLaws.occBody s ⟨#[c]⟩ n lim)).run.fst.toList=_
     rw[qhv s c n lim hn l (x+1) (st.1,st.2) el (by lia) (by show st.2<=x+1;lia)]
     have e3:lim-st.1.size=0:=by lia
     show st.1.toList++List.take (lim-st.1.size) _=_
     rw[e3,List.take_zero,List.take_zero]
   ·rw[if_neg (λz=>hc z.2),if_neg hc]
    show (forIn l (st.1,st.2) (StrLaws.occBody s ⟨#[c]⟩ n lim)).run.fst.toList=_
    rw[qhv s c n lim hn l (x+1) (st.1,st.2) el (by lia) (by show st.2<=x+1;lia)]
  ·have ex:x=n:=by lia
   have er:List.range' x (n-x)=[]:=by rw[show n-x=0 by lia];rfl
   rw[er]
   unfold StrLaws.occBody
   rw[one,if_neg (λz=>by have:=z.1.2;lia)]
   show (forIn l (st.1,st.2) (StrLaws.occBody s ⟨#[c]⟩ n lim)).run.fst.toList=_
   rw[qhv s c n lim hn l (x+1) (st.1,st.2) el (by lia) (by show st.2<=x+1;lia)]
   rw[show n-(x+1)=0 by lia]
   rfl
theorem q0f(s:Str)(c lim:Nat):occurrences s ⟨#[c]⟩ 0 s.length lim=((List.range' 0 s.length).filter λi=>s.cps[i]?==some c).take lim:=by
 rw[StrLaws.occ_eq,qhv s c s.length lim rfl _ 0 (#[],0) rfl (Nat.zero_le _) (Nat.le_refl _)]
 simp
theorem qhy(s:Str)(c:Nat):∀(m a k:Nat),s.length-a=m->a<=s.length->∀(b:Nat),b<=a->c∉(s.cps.toList.drop b).take (a-b) ->
  (StrLaws.partsFrom s 1 b (((List.range' a m).filter λi=>s.cps[i]?==some c).take k)).map (·.cps.toList)=spN c k (s.cps.toList.drop b)
|m,a,0,hm,ha,b,hb,hf=>by
  have el:s.cps.toList.length=s.length:=rfl
  rw[List.take_zero]
  show [(strSub s b s.length).cps.toList]=[s.cps.toList.drop b]
  rw[qd7,List.take_of_length_le (by rw[List.length_drop,el];exact Nat.le_refl _)]
|0,a,k+1,hm,ha,b,hb,hf=>by
  have e:a=s.length:=by lia
  have el:s.cps.toList.length=s.length:=rfl
  show [(strSub s b s.length).cps.toList]=_
  rw[qd7,qgx]
  ·rw[List.take_of_length_le (by rw[List.length_drop,el];exact Nat.le_refl _)]
  ·rw[e,List.take_of_length_le (by rw[List.length_drop,el];exact Nat.le_refl _)] at hf
   exact hf
|m+1,a,k+1,hm,ha,b,hb,hf=>by
  have hs:a<s.cps.toList.length:=by show a<s.length;lia
  have hs':a<s.cps.size:=hs
  have ed:s.cps.toList.drop a=s.cps.toList[a]::s.cps.toList.drop (a+1):=List.drop_eq_getElem_cons hs
  have eb:s.cps.toList.drop b=(s.cps.toList.drop b).take (a-b)++s.cps.toList.drop a:=by
   have:(s.cps.toList.drop b).drop (a-b)=s.cps.toList.drop a:=by rw[List.drop_drop];congr 1;lia
   rw[←this,List.take_append_drop]
  have eg:s.cps[a]?=some s.cps.toList[a]:=by rw[Array.getElem?_eq_getElem hs'];rfl
  rw[List.range'_succ,List.filter_cons]
  by_cases hc:s.cps.toList[a]=c
  ·rw[if_pos (by rw[eg,hc];simp),List.take_succ_cons]
   show (strSub s b a).cps.toList::(StrLaws.partsFrom s 1 (a+1) _).map (·.cps.toList)=_
   rw[qhy s c m (a+1) k (by lia) (by lia) (a+1) (Nat.le_refl _) (by simp),qd7]
   conv=>rhs;rw[eb,ed,hc,qkf c k _ _ hf]
  ·rw[if_neg (by rw[eg];simpa using hc)]
   refine qhy s c m (a+1) (k+1) (by lia) (by lia) b (by lia) ?_
   have e2:(s.cps.toList.drop b).take (a+1-b)=(s.cps.toList.drop b).take (a-b)++[s.cps.toList[a]]:=by
    rw[show a+1-b=(a-b)+1 by lia,List.take_succ]
    congr 1
    rw[List.getElem?_drop,show b+(a-b)=a by lia,List.getElem?_eq_getElem hs]
    rfl
   rw[e2,List.mem_append]
   rintro (z|z)
   ·exact hf z
   ·exact hc (List.mem_singleton.mp z).symm
theorem qnz(s:Str){c:Nat}(h:c<256)(k:Nat):(Txt.splitMax s ⟨#[c]⟩ (k:Int)).map (·.cps.toList)=spN c k s.cps.toList:=by
 have one:(⟨#[c]⟩:Str).length=1:=rfl
 have lim:limitOf s (k:Int)=k:=by unfold limitOf;rw[if_neg (by lia)];rfl
 unfold Txt.splitMax
 rw[lim]
 by_cases h0:s.length=0
 ·rw[if_pos (by rw[one,h0];rfl)]
  have e:s.cps.toList=[]:=List.eq_nil_of_length_eq_zero h0
  show [s.cps.toList]=_
  rw[e,qgx c k (by simp)]
 ·rw[if_neg (by
   rw[one,qov h]
   have:=qsz s
   simp
   lia),q0f]
  have hp:=qhy s c s.length 0 k (by lia) (Nat.zero_le _) 0 (Nat.le_refl _) (by simp)
  rw[List.drop_zero] at hp
  by_cases he:(((List.range' 0 s.length).filter λi=>s.cps[i]?==some c).take k).isEmpty=true
  ·rw[if_pos he]
   rw[List.isEmpty_iff.mp he] at hp
   rw[←hp]
   show [s.cps.toList]=[(strSub s 0 s.length).cps.toList]
   rw[qd7,List.drop_zero,List.take_of_length_le (show s.cps.toList.length<=s.length-0 from Nat.le_refl _)]
  ·rw[if_neg he,one,StrLaws.partsBetween_eq]
   exact hp
theorem qny(s:Str){c:Nat}(h:c<256)(k:Nat):Txt.splitMax s ⟨#[c]⟩ (k:Int)=(spN c k s.cps.toList).map mkS:=by
 rw[←qnz s h k,List.map_map]
 refine(List.map_id _).symm.trans (List.map_congr_left λz _=>?_)
 exact(qdm z).symm
end L2
namespace L2
open PySem PySem.Spec PyProof.Rows
section
variable {X:Cx} {EX:St->XK} {K:PySem.W.Frag} {B H H0:Hp} {e:Expr} {t:TV} {τ:VSt} {σ:St}
end
end L2
namespace L2
open PySem PySem.Spec PyProof.Rows
section
variable {X:Cx} {EX:St->XK} {K:PySem.W.Frag} {B H B' H' H0 B0 B1 H1:Hp} {st:Stmt} {rest:List Stmt} {t u:TVS} {e a:Expr} {te ta:TV} {tT:TVT} {tA:TVA} {es:List Expr} {pos pos' p p2 apos cpos:Pos} {x y:Str} {τ:VSt} {σ:St} {r:R} {v:V}
def RfAI(K:PySem.W.Frag)(EX:St->XK)(te:TA)(t:TVA)(k j:Nat):Prop:=∀(H0 B H:Hp) (τ:VSt) (σ:St) (Q:List V->Hp->Prop) (Qd:AR->Prop),Same B H->Slots K H0 B H τ σ->(∃c ps,τ[j]?=some (some (R.own (.io c ps))))->t τ Qd->(∀n C B' H',Stp B H B' H'->clsOf K n C->Qd (.exc n)->EX σ (.ref C) none H') ->
 (∀ds vs B' H' ad,Stp B H B' H'->k<=vs.length->σ[j]?=some (some (.ref ad))->Reps K B' ds vs->Qd (.ok ds)->Q (vs.insertIdx k (.ref ad)) H')->te σ H Q
structure VAI(X:Cx)(EX:St->XK)(es:List Expr)(t:TVA)(k j:Nat):Prop where
 u:∃te,QA X es te/\RfAI X.K EX te t k j
end
section
variable {K:PySem.W.Frag} {x qual:Str} {st:Stmt} {f:Addr} {fd:FuncData} {ps:List Str}
theorem qbi{α:Type}{us:List α}{n:Nat}(h:us.length=n+1):∃a t,us=a::t/\t.length=n:=by
 cases us with
|nil=>cases h
|cons a t=>exact⟨a,t,rfl,Nat.succ.inj h⟩
theorem Fun.binds1(F:Fun K x qual st f fd)(hp:ps.length=1)(h:∀(kV doc pm:Value) (an:Option Addr) (cdv ct a0:Value),bindArgs (PySem.W.fnOf x qual (qcx st) (qbq st) (qaf st) .none kV doc pm an cdv ct) ⟨[a0],[]⟩=pure (ps.zip [a0])):Binds K fd ps [] :=
 F.binds λkV doc pm an cdv ct us hl=>by
  obtain⟨a0,t,rfl,h0⟩:=qbi (hl.trans hp)
  cases List.length_eq_zero_iff.mp h0
  exact h kV doc pm an cdv ct a0
theorem Fun.binds2(F:Fun K x qual st f fd)(hp:ps.length=2)(h:∀(kV doc pm:Value) (an:Option Addr) (cdv ct a0 a1:Value),bindArgs (PySem.W.fnOf x qual (qcx st) (qbq st) (qaf st) .none kV doc pm an cdv ct) ⟨[a0,a1],[]⟩=pure (ps.zip [a0,a1])):Binds K fd ps [] :=
 F.binds λkV doc pm an cdv ct us hl=>by
  obtain⟨a0,t,rfl,h0⟩:=qbi (hl.trans hp)
  obtain⟨a1,t,rfl,h1⟩:=qbi h0
  cases List.length_eq_zero_iff.mp h1
  exact h kV doc pm an cdv ct a0 a1
theorem Fun.binds3(F:Fun K x qual st f fd)(hp:ps.length=3)(h:∀(kV doc pm:Value) (an:Option Addr) (cdv ct a0 a1 a2:Value),bindArgs (PySem.W.fnOf x qual (qcx st) (qbq st) (qaf st) .none kV doc pm an cdv ct) ⟨[a0,a1,a2],[]⟩=pure (ps.zip [a0,a1,a2])):Binds K fd ps [] :=
 F.binds λkV doc pm an cdv ct us hl=>by
  obtain⟨a0,t,rfl,h0⟩:=qbi (hl.trans hp)
  obtain⟨a1,t,rfl,h1⟩:=qbi h0
  obtain⟨a2,t,rfl,h2⟩:=qbi h1
  cases List.length_eq_zero_iff.mp h2
  exact h kV doc pm an cdv ct a0 a1 a2
theorem Fun.binds4(F:Fun K x qual st f fd)(hp:ps.length=4)(h:∀(kV doc pm:Value) (an:Option Addr) (cdv ct a0 a1 a2 a3:Value),bindArgs (PySem.W.fnOf x qual (qcx st) (qbq st) (qaf st) .none kV doc pm an cdv ct) ⟨[a0,a1,a2,a3],[]⟩=pure (ps.zip [a0,a1,a2,a3])):Binds K fd ps [] :=
 F.binds λkV doc pm an cdv ct us hl=>by
  obtain⟨a0,t,rfl,h0⟩:=qbi (hl.trans hp)
  obtain⟨a1,t,rfl,h1⟩:=qbi h0
  obtain⟨a2,t,rfl,h2⟩:=qbi h1
  obtain⟨a3,t,rfl,h3⟩:=qbi h2
  cases List.length_eq_zero_iff.mp h3
  exact h kV doc pm an cdv ct a0 a1 a2 a3
theorem Fun.binds5(F:Fun K x qual st f fd)(hp:ps.length=5)(h:∀(kV doc pm:Value) (an:Option Addr) (cdv ct a0 a1 a2 a3 a4:Value),bindArgs (PySem.W.fnOf x qual (qcx st) (qbq st) (qaf st) .none kV doc pm an cdv ct) ⟨[a0,a1,a2,a3,a4],[]⟩=pure (ps.zip [a0,a1,a2,a3,a4])):Binds K fd ps [] :=
 F.binds λkV doc pm an cdv ct us hl=>by
  obtain⟨a0,t,rfl,h0⟩:=qbi (hl.trans hp)
  obtain⟨a1,t,rfl,h1⟩:=qbi h0
  obtain⟨a2,t,rfl,h2⟩:=qbi h1
  obtain⟨a3,t,rfl,h3⟩:=qbi h2
  obtain⟨a4,t,rfl,h4⟩:=qbi h3
  cases List.length_eq_zero_iff.mp h4
  exact h kV doc pm an cdv ct a0 a1 a2 a3 a4
end
end L2
namespace L2
open PySem PySem.Spec PyProof.Rows
section
variable {X:Cx} {EX:St->XK} {a b e:Expr} {es:List Expr} {pos p tp:Pos} {tA:TVA} {te:TV}
end
end L2
namespace L2
open PySem PySem.Spec PyProof.Rows
section
variable {X:Cx} {EX:St->XK} {K:PySem.W.Frag} {B H B' H' H0 B0 B1 H1:Hp} {st:Stmt} {rest:List Stmt} {t u:TVS} {e a:Expr} {te ta tk:TV} {tT:TVT} {tA:TVA} {es:List Expr} {pos pos' p p2 apos cpos:Pos} {x y:Str} {τ:VSt} {σ:St} {r:R} {v:V}
def q6c(K:PySem.W.Frag)(EX:St->XK)(te:TA)(t:TVA)(k j:Nat):Prop:=∀(H0 B H:Hp) (τ:VSt) (σ:St) (Q:List V->Hp->Prop) (Qd:AR->Prop),Same B H->Slots K H0 B H τ σ->(∃ks ps,τ[j]?=some (some (R.own (.dT ks ps))))->t τ Qd->(∀n C B' H',Stp B H B' H'->clsOf K n C->Qd (.exc n)->EX σ (.ref C) none H') ->
 (∀ds vs B' H' ad,Stp B H B' H'->k<=vs.length->σ[j]?=some (some (.ref ad))->Reps K B' ds vs->Qd (.ok ds)->Q (vs.insertIdx k (.ref ad)) H')->te σ H Q
structure VAIT(X:Cx)(EX:St->XK)(es:List Expr)(t:TVA)(k j:Nat):Prop where
 u:∃te,QA X es te/\q6c X.K EX te t k j
end
section
variable {X:Cx} {p kp pos:Pos} {a d:Expr}
end
section
variable {X:Cx} {EX:St->XK} {p kp pos cp:Pos} {a:Expr} {te:TV} {j:Nat}
end
section
variable {prog:Program} {w:World} {A:Around} {E:Value->Shared->Prop} {s:Shared} {d:Addr} {es:Array DictEntry} {ep:Nat}
end
section
variable {X:Cx}
end
section
variable {P:Program} {w:World} {K:PySem.W.Frag} {mg:Str->Option Value} {base h:Heap} {x:Str} {st:Stmt} {k:Nat} {ps:List Str} {sp:Sp}
def qbg(K:PySem.W.Frag)(x:Str)(st:Stmt):Prop:=∃(f:Addr) (fd:FuncData),PySem.W.nsIn K mainGlobals x=some (some (.ref f))/\Fun K x x st f fd
theorem q7t{f:Addr}{oc:Value}{od an:Option Addr}{osl:Array (Option Value)}{kV doc pm cdv ct:Value}(a:PySem.W.nsIn K mainGlobals x=some (some (.ref f)))(l:K.lookup f=some ⟨oc,od,.func (PySem.W.fnOf x x (qcx st) (qbq st) (qaf st) .none kV doc pm an cdv ct),osl⟩)
  (c:PySem.W.codeIn K cdv x=true) (q:PySem.W.keepIn K (.ref f)=true):qbg K x st:=⟨f,_,a,qyb l c q⟩
theorem calD(P:Program)(w:World)(base:Heap)(X:K.In h)(G:h.Ns mainGlobals mg)(D:qbg K x st)(ok:∀ {f:Addr} {fd:FuncData},Fun K x x st f fd->FnOk P w K mg base CX0 k f fd ps sp)(b:∀ {f:Addr} {fd:FuncData},Fun K x x st f fd->Binds K fd ps []):Cal P w K mg base k x ps sp :=
 let ⟨_,_,a,F⟩:=D;.mk (ok F) (PySem.W.mg_of X G a) F.kp (b F)
theorem qrw(P:Program)(w:World)(base:Heap)(X:K.In h)(G:h.Ns mainGlobals mg)(D:qbg K x st)(ok:∀ {f:Addr} {fd:FuncData},Fun K x x st f fd->FnOk P w K mg base (CXR P w) k f fd ps sp)(b:∀ {f:Addr} {fd:FuncData},Fun K x x st f fd->Binds K fd ps []):CalX P w K mg base k x ps sp :=
 let ⟨_,_,a,F⟩:=D;.mk (ok F) (PySem.W.mg_of X G a) F.kp (b F)
end
end L2
namespace L2
open PySem PySem.Spec PyProof.Rows
section
variable {X:Cx}
end
end L2
namespace L2
open PySem PySem.Spec PyProof.Rows
section
variable {X:Cx} {EX:St->XK} {K:PySem.W.Frag} {B B' H H0:Hp} {τ:VSt} {σ:St} {x:Str} {e:Expr} {te:TV} {rest:List Stmt} {u:TVS} {pos pos':Pos}
end
end L2
namespace L2
open PySem PySem.Spec PyProof.Rows
section
variable {X:Cx} {EX:St->XK} {e a o i:Expr} {te ta to ti:TV} {pos pos' p p2 apos cpos:Pos} {x:Str} {f:Expr} {tf:TV}
theorem Reps.erase{K:PySem.W.Frag}{B:Hp}:∀ {ds:List D} {xs:List V} (k:Nat),Reps K B ds xs->Reps K B (ds.eraseIdx k) (xs.eraseIdx k)
|[],xs,k,h=>by
  unfold Reps at h
  subst h
  unfold Reps
  rfl
|d::ds,xs,0,h=>by
  unfold Reps at h
  obtain⟨x,r,rfl,_,h⟩:=h
  exact h
|d::ds,xs,k+1,h=>by
  unfold Reps at h
  obtain⟨x,r,rfl,h1,h⟩:=h
  show Reps K B (d::ds.eraseIdx k) (x::r.eraseIdx k)
  unfold Reps
  exact⟨x,_,rfl,h1,h.erase k⟩
def qxh(i:Nat)(te:TV):TVS:=λDv τ=>ownL τ i λds=>te τ λr=>match r with
|.val (.int k)=>0<=k/\k<ds.length/\k<1000/\Dv.nx (τ.set i (some (.own (.lst (ds.eraseIdx k.toNat)))))
|_=>False
theorem q2d(i:Nat)(h:VE X EX e te)(hN:X.N[i]?=some x:=by rfl)(hv:Vis X.env.scope x:=by first|exact Or.inl rfl|exact Or.inr (Or.inl rfl)|exact Or.inr (Or.inr rfl))(hd:(x==("__debug__" : Str))=false:=by decide)
  (hcd:(x==("__classdict__" : Str))=false:=by decide) (hp:qaq e=true:=by rfl)
  (hbase:attributeBase (.Name x p) "pop" X.env (eval (.Name x p) X.env)=eval (.Name x p) X.env:=by rfl) (hline:(apos.endLine==cpos.line)=true:=by rfl)
  (hs:swapsWith (.Call (.Attribute (.Name x p) "pop" apos) [e] [] cpos) none pos.line X.env=pure false:=by rfl) :
  VS X EX (.Expr (.Call (.Attribute (.Name x p) "pop" apos) [e] [] cpos) pos) (qxh i te) :=
 let ⟨_,a1,a2⟩:=h.u;⟨_,qj7 (qbm PySem.F.plainAttrs_list PySem.F.slot_list_pop PySem.F.type_list_pop qv0 (qv i hN hv hd hcd) (qac a1 qd0 hp) (by simp[hp]) rfl hbase hline) hs,λB0 H0 B H τ σ Dv Dh p S h E=>by
  obtain⟨ds,ad,xs,e1,h,e2,e3,_⟩:=S.ownL h
  refine⟨.ref ad,e2,.inl ⟨rfl,xs,SqL.of e3⟩,a2 H0 B H τ σ _ _ p.s S h (xno λ_ q=>q) λr v B' H' q hr hq=>?_⟩
  split at hq
  ·rename_i k
   obtain⟨k0,k1,k2,hn⟩:=hq
   have ev:v=.int k:=hr.pk.scal (z:=.int k) rfl
   subst ev
   have S2:=S.step q
   obtain⟨a',q1,_,_,xs2,q4,q3⟩:=S2.own i _ e1
   rw[e2] at q1
   cases q1
   have hl:=q3.length
   obtain⟨j,rfl⟩:=Int.eq_ofNat_of_zero_le k0
   have hj:j<xs2.length:=by lia
   refine⟨ad,xs2,j,j,xs2[j],rfl,rfl,q4,by lia,by lia,?_,List.getElem?_eq_getElem hj,?_⟩
   ·rw[seqIndex_of (by lia) (by lia)]
    rfl
   ·obtain⟨p3,S3⟩:=S2.lst (p.trans q) e1 e2 (q3.erase j)
    exact E.nx B' _ _ _ p3 S3 (by rw[Int.toNat_natCast] at hn;exact hn)
  ·exact hq.elim⟩
end
end L2
namespace L2
open PySem PySem.Spec PyProof.Rows
section
variable {X:Cx}
end
end L2
namespace PySem
section
variable {prog:Program} {w:World} {K:Type} [DecidableEq K] {knd:HeapKind prog w K} {A:Around} {E:Value->Shared->Prop} {s:Shared}
end
section
variable {prog:Program} {w:World} {K:Type} [DecidableEq K] (knd:HeapKind prog w K) (d a:Addr)
end
end PySem
namespace L2
open PySem PySem.Spec PyProof.Rows
section
variable {X:Cx} {pins:List (Addr×Obj)} {σ:St} {H:Hp} {s:Shared} {a b:Addr} {u r:Value} {d:V} {A:Around} {E:Value->Shared->Prop}
end
end L2
namespace L2
open PySem PySem.Spec PyProof.Rows
section
variable {X:Cx} {o e f:Expr} {apos cpos:Pos} {td ty tx:TE}
end
section
variable {X:Cx} {EX:St->XK} {K:PySem.W.Frag} {B H B' H' H0 B0 B1 H1:Hp} {st:Stmt} {rest:List Stmt} {t u:TVS} {e f a:Expr} {te ta tk tf:TV} {tT:TVT} {tA:TVA} {es:List Expr} {pos pos' p p2 p3 apos cpos:Pos} {x y:Str} {τ:VSt} {σ:St} {r:R} {v:V}
end
end L2
namespace L2
open PySem PySem.Spec PyProof.Rows
section
variable {prog:Program} {w:World} {A:Around} {E:Value->Shared->Prop} {s:Shared} {env:Env}
variable {nm q:Str} {C N:Addr} {bs bm:List Value} {hdct:Bool} {sn:List Str} {sub:List Value} {ab:Bool} {col:Option Bool} {dd:Option Addr} {k0 k1 k2 k3 k5:Option Value} {newId:String}
theorem ql6{e:Value}{b:Addr}{ob:Obj}{vs:Array Value}{Q:Value->Shared->Prop}(hb:s.heap.get? b=some ob)(hd:ob.data=.fields vs)(h2:vs[2]?=some .none)(h:Q .none s) :
  wpAny (model prog w) A (runValue (.builtin "proto.unchain" ⟨[e,.ref b,.ref b,.bool false],[]⟩)) Q E s:=by
 refine wpAny_runValue (codeAny_builtin (b:=Builtin.«proto.unchain») (entryFor_of_fast (by kernel_rfl)) ?_)
 unfold Builtin.«proto.unchain»
 refine wpAny_bind (wpAny_field hb hd h2 ?_)
 rw[if_pos (by rfl)]
 exact wpAny_pure (M:=model prog w) (E:=λ_ _=>False) (Q:=λfin s'=>match fin with|.done (.ret v)=>Q v s'|_=>False) (a:=Fin.done (.ret .none)) h
def q21(C:Addr)(t b:Addr):Obj:={ cls:=.ref C,data:=.fields #[.ref t,.none,.ref b,.none,.bool true,.none] }
theorem qir{x:Sem Value}{cp:Pos}{kk:Nat}{pos:Pos}{b:Addr}{Q:Flow->Shared->Prop}(hbase:bm.contains (.type "BaseException")=true)(hh:A.handled=some (.ref b))
  (h:wpAny (model prog w) A x (λv s₁=>∃e t ob vs,v=.ref e/\s₁.heap.get? C=some (excClassObj nm q C N bs bm hdct sn sub ab col dd k0 k1 k2 k3 k5 newId) /\
   s₁.heap.get? e=some { cls:=.ref C,data:=.fields #[.ref t,.none,.none,.none,.bool false,.none] }/\b≠e/\s₁.heap.get? b=some ob/\ob.data=.fields vs/\vs[2]?=some .none /\
   ∀h',h'.get? e=some (q21 C t b)->(∀c,c≠e->h'.get? c=s₁.heap.get? c)->h'.objs.size=s₁.heap.objs.size->E (.ref e) { s₁ with heap:=h' }) E s) :
  wpAny (model prog w) A (raiseStmt env (some x) (some (do let v ←eval (.Constant .none kk cp) env;standAt pos;pure v))) Q E s:=by
 have hcB:(Value.ref C::bm).contains (.type "BaseException")=true:=by rw[List.contains_cons,hbase,Bool.or_true]
 unfold raiseStmt
 refine wpAny_bind (wpAny_mono h (λv s₁ h₁=>?_) λ_ _ x=>x)
 obtain⟨e,t,ob,vs,rfl,hC,he,hbe,hb,hd,h2,hE⟩:=h₁
 obtain⟨hp,g,d,tk,os⟩:=s₁
 have he:hp.get? e=some { cls:=.ref C,data:=.fields #[.ref t,.none,.none,.none,.bool false,.none] }:=he
 have hC:hp.get? C=some (excClassObj nm q C N bs bm hdct sn sub ab col dd k0 k1 k2 k3 k5 newId):=hC
 have hb:hp.get? b=some ob:=hb
 have hCe:C≠e:=λz=>by rw[z,he] at hC;cases hC
 have up:∀(h1:Heap) (x:Array Value) (i:Nat) (v:Value),h1.get? e=some { cls:=.ref C,data:=.fields x }->(h1.update e (Obj.mapFields (·.setIfInBounds i v))).get? e=some { cls:=.ref C,data:=.fields (x.setIfInBounds i v) }/\(∀c,c≠e->(h1.update e (Obj.mapFields (·.setIfInBounds i v))).get? c=h1.get? c)/\(h1.update e (Obj.mapFields (·.setIfInBounds i v))).objs.size=h1.objs.size:=λh1 x i v q=>⟨Heap.get?_update_self _ q rfl,λc hc=>Heap.get?_update_other _ _ (Ne.symm hc),Heap.size_after_update ..⟩
 obtain⟨a1,o1,z1⟩:=up hp _ 3 .none he
 obtain⟨a2,o2,z2⟩:=up _ _ 4 (.bool true) a1
 obtain⟨a3,o3,z3⟩:=up _ _ 2 (.ref b) a2
 have hC2:=(o2 C hCe).trans ((o1 C hCe).trans hC)
 repeat (first|with_reducible refine wpAny_loadPart_at he ?_|with_reducible refine wpAny_loadPart_at hC ?_|with_reducible refine wpAny_loadPart_at a2 ?_|with_reducible refine wpAny_loadPart_at hC2 ?_|(with_reducible refine wpAny_isSubtype_exc hC ?_;rw[hcB])|wp_step)
 have hb2:=(o2 b hbe).trans ((o1 b hbe).trans hb)
 unfold raiseNew
 refine wpAny_bind (wpAny_handled ?_)
 rw[hh]
 have hne:(Value.ref b != Value.ref e)=true:=by simpa using hbe
 show wpAny _ _ (if (Value.ref b != Value.ref e)=true then _ else _) _ _ _
 rw[if_pos hne]
 refine wpAny_bind (wpAny_holding (ql6 hb2 hd h2 ?_))
 refine wpAny_bind (wpAny_setField a2 rfl (by simp) ?_)
 refine wpAny_throw ?_
 exact hE _ a3 (λc hc=>(o3 c hc).trans ((o2 c hc).trans (o1 c hc))) (z3.trans (z2.trans z1))
theorem qp5{Bn inN B nid initId:String}{bmN bmB:List Value}{mN:Str->Option Value}{x:Str}{np cpos cp pos:Pos}{kk:Nat}{args:List Expr}{b:Addr}{Q:Flow->Shared->Prop}
  (Fn:ExcBaseFacts Bn newId inN bmN) (hBn:bmB.contains (.type Bn)=true) (F:ExcBaseFacts B nid initId bmB) (hbase:bm.contains (.type "BaseException")=true) (hh:A.handled=some (.ref b)) (hplain:(backTo cpos (starEach args env)).any (·.1)=false) (hni:mN "__init__" = none)
  (h:wpAny (model prog w) A (eval (.Name x np) env) (λf s₁=>f=.ref C/\wpAny (model prog w) A (evalArgs (.ref C) true (backTo cpos (starEach args env)) []) (λa s₂=>a.kw=[]/\a.pos.length<=sizeLine/\s₂.heap.get? C=some (excClassObj nm q C N bs bm hdct sn sub ab col dd k0 k1 k2 k3 k5 newId)/\s₂.heap.Ns N mN/\OwnTail s₂.heap bmB bm /\
    (∃ob vs,s₂.heap.get? b=some ob/\ob.data=.fields vs/\vs[2]?=some .none) /\
    ∀h' h2 e t,Heap.MadeExcOf s₂.heap h' e (.ref C) a.pos->h2.get? e=some (q21 C t b)->(∀c,c≠e->h2.get? c=h'.get? c)->E (.ref e) { s₂ with heap:=h2 }) E s₁) E s) :
  wpAny (model prog w) A (exec (.Raise (some (.Call (.Name x np) args [] cpos)) (some (.Constant .none kk cp)) pos) env) Q E s:=by
 rw[arm_exec_Raise]
 refine wpAny_bind (wpAny_standAt ?_)
 refine qir (C:=C) (nm:=nm) (q:=q) (N:=N) (bs:=bs) (bm:=bm) (hdct:=hdct) (sn:=sn) (sub:=sub) (ab:=ab) (col:=col) (dd:=dd) (k0:=k0) (k1:=k1) (k2:=k2) (k3:=k3) (k5:=k5) (newId:=newId) hbase hh ?_
 refine wpAny_bind (wpAny_mono (wpAny_Call_ofName (wpAny_mono h (λf s₁ h₁=>?_) λ_ _ x=>x)) (λv s₃ h₃=>wpAny_bind (wpAny_standAt (wpAny_pure h₃))) λ_ _ x=>x)
 obtain⟨rfl,h₁⟩:=h₁
 unfold callWith
 refine wpAny_bind (wpAny_holding (wpAny_mono h₁ (λa s₂ h₂=>wpAny_bind (wpAny_standAt ?_)) λ_ _ x=>x))
 cases a with|mk apos akw =>
 cases s₂ with|mk hp g d tk os =>
 obtain⟨hkw,hlen,hC,hn,T,⟨ob,vs,hb,hd,h2⟩,h₂⟩:=h₂
 have hkw:akw=[]:=hkw
 subst hkw
 simp only[hplain]
 refine wpAny_bind (wpAny_keeperOf_exc hC ?_)
 refine wpAny_bind (wpAny_call_exc_subU (hrest:=hlen) Fn hBn F T hC hn hni λh' e hm=>wpAny_bind (wpAny_holding (wpAny_point (wpAny_pure ?_))))
 obtain⟨t,ht,_,_⟩:=hm.there
 have hbe:b≠e:=λz=>by
  have:=hm.new
  rw[←z] at this
  exact absurd (this.symm.trans hb) (by simp)
 exact⟨e,t,ob,vs,rfl,hm.keeps _ _ hC,ht,hbe,hm.keeps _ _ hb,hd,h2,λh3 q1 q2 _=>h₂ h' h3 e t hm q1 q2⟩
end
section
variable {X:Cx} {EX:St->XK} {x y:Str} {c:Value} {C2:Addr} {t:TA} {th:TH} {np yp cpos cp rpos pos:Pos} {kk:Nat} {e1:Expr} {es:List Expr} {rest:List ExceptHandler}
theorem qhi{M:Model}{A:Around}{E:Value->Shared->Prop}{s:Shared}{a T L:Addr}{C fl:Value}{Q:Unit->Shared->Prop}(r:FlT s.heap a C T fl)(k:∀g,Nk [] [T] s.heap g->FlT g a C T (rawInt L)->Q () { s with heap:=g }):wpAny M A (setFlight (.ref a) (some L)) Q E s:=by
 obtain⟨oa,vs,oT,ts,ha,hc,hd,h1,ne,hT,hdT,h3,hb2⟩:=r
 have h3z:=(Array.getElem?_eq_some_iff.mp h3).1
 have oth:∀b,b≠T->(s.heap.update T (Obj.mapFields (·.setIfInBounds 3 (rawInt L)))).get? b=s.heap.get? b:=λb hb=>Heap.get?_update_other _ _ (Ne.symm hb)
 unfold setFlight
 refine wpAny_bind (wpAny_field ha hd h1 ?_)
 rw[if_pos (by simp)]
 exact wpAny_setField hT hdT h3z (k _ ⟨λb o _ nc e=>(oth b λz=>nc (by simp[z])).trans e,λb o mb _ _=>(nomatch mb),λb o e=>qft hT hdT e⟩ ⟨oa,vs,_,_,(oth a (Ne.symm ne)).trans ha,hc,hd,h1,ne,Heap.get?_update_self _ hT (Obj.isFreed_of_fields (Obj.data_mapFields hdT _)),Obj.data_mapFields hdT _,by simp[h3z],hb2⟩)
def q5u(K:PySem.W.Frag)(c:Value)(C2:Addr)(EX:St->XK)(t:TA)(th:TH):TH:=λC D σ H=>∃b,PySem.W.exmOne K C c=some b/\if b=true then C≠oddC/\t σ H λvs H1=>vs.length<=sizeLine/\EX σ (.ref C2) none H1 else th C D σ H
theorem q1j(hm:X.mg x=some c)(hg:Gl X x)(q2:OwnX X.K C2)(hm2:X.mg y=some (.ref C2))(hg2:Gl X y)(hodd:Value.ref C2=oddC)(o:Out X EX)(ha:∀e pn E,QA (X.hand e pn E) (e1::es) t)(hr:QH X rest th)
  (hst:X.stack=X.env::X.outer:=by rfl) (hfr:X.env.frame=some X.env.locals:=by rfl) (hx:X.ex=[]:=by rfl) (hp:(e1::es).all qaq=true:=by rfl) (hdb:(x==("__debug__" : Str))=false:=by decide) (hdb2:(y==("__debug__" : Str))=false:=by decide) :
  QH X (.ExceptHandler (some (.Name x np)) none [.Raise (some (.Call (.Name y yp) (e1::es) [] cpos)) (some (.Constant .none kk cp)) rpos] pos::rest) (q5u X.K c C2 EX t th):=by
 refine⟨λpins s σ H D a C U I fl fa fu ⟨b,hbx,q⟩=>?_⟩
 obtain⟨oa,ha0,hc⟩:=fl.there
 have LT:PySem.W.Looks (model X.prog X.w) s.heap (typeOf (.ref a)) (.ref C):=by
  rw[←hc]
  exact(PySem.W.Looks.ld ha0).andThen .now
 refine wpAny_handleBy_cons (codeAny_handlers_test (qek (X:=X.hand (.ref a) (X.pn++pins) X.xe) (I.hand (E:=X.xe)) hg hm ?_ hdb)) (by intro z;cases z)
 refine(PySem.W.exm_one I.kIn LT hbx).here ?_
 cases b with
|false=>exact hr.u pins s σ H D a C U I fl fa fu q
|true =>
  obtain⟨hno,q⟩:Value.ref C≠oddC/\t σ H λvs H1=>vs.length<=sizeLine/\EX σ (.ref C2) none H1:=q
  refine codeAny_handlers_suite (qcp fl λg nk fl2 _=>?_)
  have I2:Inv X pins σ H { s with heap:=g }:=I.noted (a:=U) (ts:=[]) (λb hb=>by
   have e:b=U:=by simpa using hb
   rw[e]
   exact fu) ⟨λb o _ h2 e=>nk.keep b o (by simp) h2 e,λb o _ h2 e=>⟨o.slots,nk.keep b o (by simp) h2 e⟩,nk.there⟩
  obtain⟨ob,vs,oT,ts,hb1,hcb,hd,h1,ne,hT,hdT,h3,hb2⟩:=fl2
  have h2:vs[2]?=some .none:=hb2.resolve_left hno
  obtain⟨bm,N,nm,qn,bs,hdct,sn,sub,ab,col,dd,k0,k1,k2,k3,k5,mN,hC,hN,hni,T⟩:=qlt I.ok.mod.kin q2
  have st:starEach (e1::es) X.env=(false,eval e1 X.env)::starEach es X.env:=qa9 (all2 hp).1
  have pl:(backTo cpos (starEach es X.env)).any (·.1)=false:=qcj (all2 hp).2
  generalize hE:(notedBy (model X.prog X.w) (X.A.mark (some (.ref a))) X.env λx s₂=>cameBackBy (model X.prog X.w) X.A X.env X.xe x s₂)=E
  have I3:Inv (X.hand (.ref a) (X.pn++pins) E) [(a,ob)] σ H { s with heap:=g }:=I2.hand.pins_of λp hp=>by
   have e:p=(a,ob):=by simpa using hp
   subst e
   exact⟨hb1,fa.1,fa.2.1,fa.2.2.1,λv z=>by rw[hd] at z;cases z⟩
  refine wpAny_execs_cons ?_
  refine qp5 (C:=C2) (nm:=nm) (q:=qn) (N:=N) (bs:=bs) (bm:=bm) (hdct:=hdct) (sn:=sn) (sub:=sub) (ab:=ab) (col:=col) (dd:=dd) (k0:=k0) (k1:=k1) (k2:=k2) (k3:=k3) (k5:=k5)
   PySem.F.excBase_ValueError (by decide) PySem.F.excBase_ValueError (mN:=mN) (T.hasType PySem.F.excBase_ValueError.hasBase) rfl (by rw[st];show (false||(backTo cpos (starEach es X.env)).any (·.1))=false;rw[pl];rfl) hni (qek (X:=X.hand (.ref a) (X.pn++pins) E) I3 hg2 hm2 ⟨rfl,?_⟩ hdb2)
  have run:=(ha (.ref a) (X.pn++pins) E).u cpos [(a,ob)] _ σ H _ I3 q
  rw[st] at run ⊢
  refine Calls.evalArgs_plain (thn run λus s1 ⟨vs1,H1,I4,r,hl,qx⟩=>⟨rfl,by rw[←r.length];exact hl,I4.bk _ _ hC,hN.keeps I4.bk,T.keeps I4.bk,⟨ob,vs,(I4.pin (a,ob) (by simp)).1,hd,h2⟩,λh' h2' e t made he ho=>?_⟩)
  have I5:Inv X pins σ H1 s1:=(I4.pins_of (pins':=[]) (λp hp=>nomatch hp)).unhand I.ok
  have na:H1 e=none:=by
   cases z:H1 e with
  |none=>rfl
  |some u =>
    obtain⟨ob,eo⟩:=(I5.hok e u z).here
    rw[made.new] at eo
    cases eo
  have I6:Inv X pins σ H1 { s1 with heap:=h2' }:=I5.grown λb o eb=>(ho b λz=>by rw[z,made.new] at eb;cases eb).trans (made.keeps b o eb)
  have fe:FpN X pins H1 e:=I5.fpN hx made.new na
  subst hE
  refine qo4 (L:=X.env.locals) (s:={ s1 with heap:=h2' }) (by rw[←hst];exact I6.ok.frames) (by rw[←hst];exact I6.stack) hfr ⟨_,_,he,⟨rfl,rfl⟩,rfl,rfl,.inl hodd⟩ λg2 U2 nk2 sz fl3=>?_
  rw[←hst] at nk2
  have I7:Inv X pins σ H1 { s1 with heap:=g2 }:=I6.noted (a:=e) (ts:=[]) (λb hb=>by
   have e:b=e:=by simpa using hb
   rw[e]
   exact fe) nk2
  have fU:FpN X pins H1 U2:=I6.fpN hx (Heap.get?_none_of_le sz) (I6.hok.fresh sz)
  obtain⟨oa4,vs4,oT4,ts4,b1,b2,b3,b4,b5,b6,b7,b8,b9⟩:=fl3
  unfold cameBackBy
  refine wpAny_bind (wpAny_field b1 b3 b4 ?_)
  rw[if_neg (by simp),hfr]
  refine qhi (s:={ s1 with heap:=g2 }) ⟨oa4,vs4,oT4,ts4,b1,b2,b3,b4,b5,b6,b7,b8,b9⟩ λg3 nk3 fl4=>?_
  have I8:Inv X pins σ H1 { s1 with heap:=g3 }:=I7.noted (a:=U2) (ts:=[]) (λb hb=>by
   have e:b=U2:=by simpa using hb
   rw[e]
   exact fU) ⟨λb o _ h2 e=>nk3.keep b o (by simp) h2 e,λb o _ h2 e=>⟨o.slots,nk3.keep b o (by simp) h2 e⟩,nk3.there⟩
  refine o pins σ H1 _ e C2 I8 ⟨[U2],λb hb=>?_,rfl,_,fl4⟩ qx
  rcases List.mem_cons.mp hb with z|z
  ·rw[z];exact fe
  ·rw[show b=U2 by simpa using z];exact fU
theorem qv8{Ec:XK}(o:Out X λ_=>Ec)(hst:X.stack=X.env::X.outer)(hfr:X.env.frame=some X.env.locals)(hx:X.ex=[])(pins:List (Addr×Obj))(σ:St)(H:Hp)(s:Shared)(e:Value)(s':Shared)(Cc:Addr)(use:Option (Value->Sem Unit))(R:Value->Shared->Prop)(D:Value)(I:Inv X pins σ H s)(fpC:FpOk X pins H Cc)(hn:∃m,s.heap.Ns Cc m)
  (z:CXR X.prog X.w X.stack H s Ec e s'):notedBy (model X.prog X.w) X.A X.env (λe s'=>compPost (model X.prog X.w) X.A X.xe use R D Cc (.error e) s') e s':=by
 obtain⟨m,hn⟩:=hn
 obtain⟨oC,_,_,hC,_⟩:=id hn
 obtain⟨a,C,H',T,rfl,ho,hg,u,hok,fl,sa,sT,na,nT,q⟩:=z
 have I2:Inv X pins σ H' s':=I.call' (ch:=[]) ho (u.mono (λ_ z=>z) λ_ z=>z) hok hg λb hb=>nomatch hb
 have nfr:Cc∉frs X.stack:=λz=>by
  rw[hst] at z
  unfold frs at z
  rw[List.filterMap_cons,hfr] at z
  rcases List.mem_cons.mp z with z|z
  ·exact fpC.2.1 z
  ·exact fpC.2.2.1 z
 have ne:∀b,s.heap.get? b=none->b≠Cc:=λb hb z=>by
  rw[z,hC] at hb
  cases hb
 have hC':s'.heap.get? Cc=some oC:=u.keep Cc oC hC fpC.1 nfr (by simp)
 have H'C:H' Cc=none:=u.free Cc oC hC fpC.1 (by simp)
 have fa:∀b∈[a,T],FpN X pins H' b:=λb hb=>by
  rcases List.mem_cons.mp hb with z|z
  ·rw[z];exact I.fpN hx sa na
  ·rw[show b=T by simpa using z];exact I.fpN hx sT nT
 refine qtf (by rw[←hst];exact I2.ok.frames) (by rw[←hst];exact I2.stack) hfr fl (by simp[rawInt]) λg U nk sz fl2=>?_
 rw[←hst] at nk
 have I3:Inv X pins σ H' { s' with heap:=g }:=I2.noted fa nk
 have fU:FpN X pins H' U:=I2.fpN hx (Heap.get?_none_of_le sz) (I2.hok.fresh sz)
 have nU:U≠Cc:=λz=>by
  have:=Heap.get?_none_of_le sz
  rw[z,hC'] at this
  cases this
 have gC:g.get? Cc=some oC:=nk.keep Cc oC nfr (λz=>by
  rcases List.mem_cons.mp z with z|z
  ·exact ne a sa z.symm
  ·exact ne T sT (show Cc=T by simpa using z).symm) hC'
 refine⟨m,hn.at λo e=>by rw[hC] at e;cases e;exact gC,λh' sb cenv ec=>?_⟩
 have I4:Inv X pins σ H' { s' with heap:=h' }:=I3.turned (t':=s'.toks) (λb o hb e=>(sb.2 b hb).trans e) H'C fpC.2.1 fpC.2.2.2.1 fpC.2.2.2.2.1 fpC.2.2.2.2.2
 obtain⟨oa,vs,oT,ts,b1,b2,b3,b4,b5,b6,b7,b8,b9⟩:=fl2
 have fl3:FlT h' a (.ref C) U (rawInt X.env.locals):=⟨oa,vs,oT,ts,(sb.2 a (ne a sa)).trans b1,b2,b3,b4,b5,(sb.2 U nU).trans b6,b7,b8,b9⟩
 have fin:∀(g3:Heap) (f:Value),Nk [] [U] h' g3->FlT g3 a (.ref C) U f->wpAny (model X.prog X.w) X.A (throw (.ref a):Sem Value) (λ_ _=>False) X.xe { s' with heap:=g3 }:=λg3 f nk3 fl4=>by
  have I5:Inv X pins σ H' { s' with heap:=g3 }:=I4.noted (a:=U) (ts:=[]) (λb hb=>by
   rw[show b=U by simpa using hb]
   exact fU) ⟨λb o _ h2 e=>nk3.keep b o (by simp) h2 e,λb o _ h2 e=>⟨o.slots,nk3.keep b o (by simp) h2 e⟩,nk3.there⟩
  refine wpAny_throw (o pins σ H' _ a C I5 ⟨[U],λb hb=>?_,rfl,_,fl4⟩ q)
  rcases List.mem_cons.mp hb with z|z
  ·rw[z];exact fa a List.mem_cons_self
  ·rw[show b=U by simpa using z];exact fU
 unfold PySem.passOn
 refine wpAny_bind (wpAny_field (s:={ s' with heap:=h' }) ((sb.2 a (ne a sa)).trans b1) b3 b4 ?_)
 rw[if_neg (by simp)]
 refine wpAny_bind ?_
 cases cenv.frame with
|none=>exact qcp (s:={ s' with heap:=h' }) fl3 λg3 nk3 fl4 _=>fin g3 _ nk3 fl4
|some f=>exact qhi (s:={ s' with heap:=h' }) fl3 λg3 nk3 fl4=>fin g3 _ nk3 fl4
theorem q1c{k:Nat}{ps:List Str}{sp:Sp}{p:Pos}{Ec:XK}(C:CalX X.prog X.w X.K X.mg X.base k x ps sp)(hx:qgj (CXR X.prog X.w) X Ec)(hr:Room k X.A)(hg:Gl X x)(ha:QA X (e1::es) t)(hp:(e1::es).all qaq=true:=by rfl)(hdb:(x==("__debug__" : Str))=false:=by decide) :
  QE X (.Call (.Name x p) (e1::es) [] pos) (qua sp [] Ec t):=by
 cases C with
|mk F hm hk hb=>exact⟨qnq F hr hg hm hk hb .nil hx ha.u hdb (qa9 (all2 hp).1) (qcj (all2 hp).2)⟩
theorem qwo{tg iter elt:Expr}{ifs:List Expr}{csc:Scope}{NB M:List Str}{wi:TI}{g:TG}{ti:TF}{te:TE}{Ec:XK}(hi:QI X tg iter wi)(hc:X.calm=true)(S:CompScope X.env.scope X.N NB M csc)
  (hg:∀cl C s₀ H₀ fp pn,QG (cxC X NB csc cl C s₀ H₀ fp pn) tg g) (hf:∀cl C s₀ H₀ fp pn,QF (cxC X NB csc cl C s₀ H₀ fp pn) ifs ti) (o:Out X λ_=>Ec)
  (he:∀cl C s₀ H₀ fp pn E,qgj (CXR X.prog X.w) ((cxC X NB csc cl C s₀ H₀ fp pn).wish E) Ec->QE ((cxC X NB csc cl C s₀ H₀ fp pn).wish E) elt te) (hst:X.stack=X.env::X.outer:=by rfl) (hfr:X.env.frame=some X.env.locals:=by rfl) (hx:X.ex=[]:=by rfl)
  (hs:∀x,foldedSetIterable iter X.env x=pure x:=by intro _;rfl):QC X (.ListComp elt [⟨tg,iter,ifs,0⟩] csc pos) (qq3 wi g ti te M.length) :=
 ⟨qo9 (Z:=λH s e s'=>CXR X.prog X.w X.stack H s Ec e s') hi.u hc S (λcl C s₀ H₀ fp pn=>(hg cl C s₀ H₀ fp pn).u) (λcl C s₀ H₀ fp pn=>(hf cl C s₀ H₀ fp pn).u) (λcl C s₀ H₀ fp pn E h=>(he cl C s₀ H₀ fp pn E λpins σ H s e s' I z=>h pins σ H s e s' I.unwish z).u) (qv8 o hst hfr hx) hs⟩
end
end L2
namespace L2
open PySem PySem.Spec PyProof.Rows
section
variable {X:Cx} {EX:St->XK} {K:PySem.W.Frag} {x y:Str} {np yp cpos cp rpos pos p p2 p3 p4:Pos} {kk:Nat} {e e1:Expr} {es:List Expr} {rest:List ExceptHandler} {tA:TVA} {td:THD} {te:TV}
def canA(K:PySem.W.Frag)(tA:TVA):TA:=λσ H Q=>∃H0 B τ Qd,Same B H/\Slots K H0 B H τ σ/\tA τ Qd/\(∀n C,clsOf K n C->Qd (.exc n)->False)/\∀ds vs B' H',Stp B H B' H'->Reps K B' ds vs->Qd (.ok ds)->Q vs H'
theorem VA.can(h:VA X EX0 es tA):QA X es (canA X.K tA):=let ⟨_,a1,a2⟩:=h.u;⟨λcpos pins s σ H Q I ⟨H0,B,τ,Qd,q1,q2,q3,q4,q5⟩=>a1.u cpos pins s σ H Q I (a2 H0 B H τ σ _ Qd q1 q2 q3 (λn C _ _ _ c z=>(q4 n C c z).elim) q5)⟩
def qpr(y:Str)(yes no:List Str)(tA:TVA)(td:THD):THD:=λn Dv τ=>(n∈yes/\tA τ λa=>match a with
|.ok ds=>ds.length<=sizeLine/\Dv.xc τ y
|  .exc _=>False)\/(n∈no/\td n Dv τ)
theorem q2b{yes no:List Str}(u:qy8 X.K X.mg x yes no)(hg:Gl X x)(uy:XCls X.K X.mg y)(hgy:Gl X y)(hodd:∀C,clsOf X.K y C->Value.ref C=oddC)(hno:∀n∈yes,∀C,clsOf X.K n C->Value.ref C≠oddC)(o:Out X EX)(ha:∀e pn E,VA (X.hand e pn E) EX0 (e1::es) tA)(hr:VH X EX rest td)
  (hst:X.stack=X.env::X.outer:=by rfl) (hfr:X.env.frame=some X.env.locals:=by rfl) (hx:X.ex=[]:=by rfl) (hp:(e1::es).all qaq=true:=by rfl) (hdb:(x==("__debug__" : Str))=false:=by decide) (hdb2:(y==("__debug__" : Str))=false:=by decide) :
  VH X EX (.ExceptHandler (some (.Name x np)) none [.Raise (some (.Call (.Name y yp) (e1::es) [] cpos)) (some (.Constant .none kk cp)) rpos] pos::rest) (qpr y yes no tA td):=by
 obtain⟨c,hm,hy,hn⟩:=u
 obtain⟨C,hm2,hk,q⟩:=uy
 obtain⟨_,a1,a2⟩:=hr.u
 refine⟨_,q1j (t:=canA X.K tA) hm hg q hm2 hgy (hodd C hk) o (λe pn E=>(ha e pn E).can) a1 hst hfr hx hp hdb hdb2,λB0 H0 B H τ σ n C1 Dv Dh p S hc h E=>?_⟩
 rcases h with ⟨h1,h2⟩|⟨h1,h2⟩
 ·exact⟨true,hy n h1 C1 hc,iteT ⟨hno n h1 C1 hc,H0,B,τ,_,p.s,S,h2,λ_ _ _ z=>z,λds vs B1 H1 p1 q1 h1=>⟨by rw[←q1.length];exact h1.1,E.xc B1 H1 τ σ y C (p.trans p1) (S.step p1) hk h1.2⟩⟩⟩
 ·exact⟨false,hn n h1 C1 hc,iteF (a2 B0 H0 B H τ σ n C1 Dv Dh p S hc h2 E)⟩
def qxi(i:Nat)(tk tl te:TV):TVS:=λDv τ=>ownL τ i λds=>te τ λr=>exS τ Dv r <| pubR r λd=>match d with
|.tup [d1,d2]=>tk τ λrk=>match rk.d with
 |.int k=>∃j,ixN ds.length k=some j/\tl (τ.set i (some (.own (.lst (ds.set j d1))))) λrl=>match rl.d with
  |.int l=>∃j2,ixN ds.length l=some j2/\Dv.nx (τ.set i (some (.own (.lst ((ds.set j d1).set j2 d2)))))
  |_=>False
 |_=>False
|_=>False
theorem q2g{ek el:Expr}{tk tl:TV}{kt:Nat}{pt:Pos}(i:Nat)(hc:X.calm=true)(hk:VE X EX0 ek tk)(hl:VE X EX0 el tl)(h:VE X EX e te)(hN:X.N[i]?=some x:=by rfl)(hv:Vis X.env.scope x:=by first|exact Or.inl rfl|exact Or.inr (Or.inl rfl)|exact Or.inr (Or.inr rfl))(hd:(x==("__debug__" : Str))=false:=by decide)
  (hcd:(x==("__classdict__" : Str))=false:=by decide)
  (ha:∀v,assign (.Subscript (.Name x p) ek p2) X.env v=(do
   let ov ←holding [v] (eval (.Name x p) X.env)
   let iv ←holding [v,ov] (eval ek X.env)
   standAt p2
   holding [v,ov,iv] (setItem ov iv v)
   release [v,ov,iv] []):=by intro _;rfl)
  (hb:∀v,assign (.Subscript (.Name x p3) el p4) X.env v=(do
   let ov ←holding [v] (eval (.Name x p3) X.env)
   let iv ←holding [v,ov] (eval el X.env)
   standAt p4
   holding [v,ov,iv] (setItem ov iv v)
   release [v,ov,iv] []):=by intro _;rfl)
  (hs:swapsWithSole [.Tuple [.Subscript (.Name x p) ek p2,.Subscript (.Name x p3) el p4] kt pt] e pos.line X.env=pure false:=by rfl) (hw:swappedStores [.Tuple [.Subscript (.Name x p) ek p2,.Subscript (.Name x p3) el p4] kt pt] e X.env=pure none:=by rfl)
  (h1:(assignEach [.Tuple [.Subscript (.Name x p) ek p2,.Subscript (.Name x p3) el p4] kt pt] X.env).map (·.2)=[assign (.Tuple [.Subscript (.Name x p) ek p2,.Subscript (.Name x p3) el p4] kt pt) X.env]:=by rfl) :
  VS X EX (.Assign [.Tuple [.Subscript (.Name x p) ek p2,.Subscript (.Name x p3) el p4] kt pt] e pos) (qxi i tk tl te) :=
 let ⟨_,a1,a2⟩:=h.u;let ⟨_,b1,b2⟩:=hk.u;let ⟨_,c1,c2⟩:=hl.u
 ⟨_,qtv a1 (qyk (n:=2) hc (qj6 (qts (qv i hN hv hd hcd) b1 set_list ha) (qj6 (qts (qv i hN hv hd hcd) c1 set_list hb) qtt))) hs hw h1,λB0 H0 B H τ σ Dv Dh p S h E=>by
  obtain⟨ds,ad,xs,e1,h,e2,e3,_⟩:=S.ownL h
  refine a2 H0 B H τ σ _ _ p.s S h (E.raised p S) λr v B' H' q hr hq=>?_
  obtain⟨d,B2,q2,_,rp,hn⟩:=pub q hr (hr.okS hq)
  split at hn
  case h_2=>exact hn.elim
  rename_i d1 d2
  unfold Rep at rp
  obtain⟨a,ys,rfl,hta,rs⟩:=rp
  unfold Reps at rs
  obtain⟨v1,r1,rfl,rp1,rs⟩:=rs
  unfold Reps at rs
  obtain⟨v2,r2,rfl,rp2,rs⟩:=rs
  unfold Reps at rs
  subst rs
  refine⟨a,_,rfl,q2.s.sqT hta.sq,rfl,v1,[v2],rfl,?_⟩
  refine⟨.ref ad,e2,b2 H0 B2 H' τ σ _ _ q2.s (S.step q2) hn (xno λ_ q=>q) λrk vk B3 H3 q3 hk hh=>?_⟩
  split at hh
  case h_2=>exact hh.elim
  rename_i k ek
  obtain⟨j,hj,hn⟩:=hh
  have qq:=q2.trans q3
  have S3:=S.step qq
  obtain⟨a',f1,_,_,xs2,f4,f3⟩:=S3.own i _ e1
  rw[e2] at f1
  cases f1
  refine⟨ad,xs2,k,j,rfl,hk.pk.scal (by rw[ek];rfl),f4,by rw[←f3.length];exact hj,?_⟩
  obtain⟨p4,S4⟩:=S3.lst (p.trans qq) e1 e2 (f3.set j (rp1.same q3.b))
  have il:i<τ.length:=(List.getElem?_eq_some_iff.mp e1).1
  have e1':(τ.set i (some (R.own (.lst (ds.set j d1)))))[i]?=some (some (R.own (.lst (ds.set j d1)))):=by rw[List.getElem?_set_self il]
  refine⟨v2,[],rfl,?_⟩
  refine⟨.ref ad,e2,c2 H0 B3 _ _ σ _ _ p4.s S4 hn (xno λ_ q=>q) λrl vl B5 H5 q5 hl hh=>?_⟩
  split at hh
  case h_2=>exact hh.elim
  rename_i l el
  obtain⟨j2,hj2,hn⟩:=hh
  have S5:=S4.step q5
  obtain⟨a',f1,_,_,xs5,f5,f6⟩:=S5.own i _ e1'
  rw[e2] at f1
  cases f1
  refine⟨ad,xs5,l,j2,rfl,hl.pk.scal (by rw[el];rfl),f5,by rw[←f6.length,List.length_set];exact hj2,rfl,?_⟩
  obtain⟨p6,S6⟩:=S5.lst (p4.trans q5) e1' e2 (f6.set j2 ((rp2.same q3.b).same q5.b))
  rw[List.set_set] at S6
  exact E.nx B5 _ _ σ p6 S6 hn⟩
theorem q3p{y:Str}{C0:Addr}(h0:clsOf K y C0)(d:Value.ref C0=oddC):∀C,clsOf K y C->Value.ref C=oddC:=λC h=>by rw[h.inj h0];exact d
theorem q0g{y:Str}{C0:Addr}(h0:clsOf K y C0)(d:Value.ref C0≠oddC):∀n∈[y],∀C,clsOf K n C->Value.ref C≠oddC:=λn hn C h=>by
 cases List.mem_singleton.mp hn
 rw[h.inj h0]
 exact d
end
section
variable {X:Cx} {EX:St->XK} {Ec:XK} {K:PySem.W.Frag} {te:TV} {e:Expr} {es:List Expr} {tA:TVA} {pos p:Pos} {x:Str}
theorem q18{k:Nat}{ps:List Str}{g:DP}(C:CalX X.prog X.w X.K X.mg X.base k x ps (spOf X.K g))(hq:qgj (CXR X.prog X.w) X Ec)(hr:Room k X.A)(hg:Gl X x)(ha:VA X (λ_=>Ec) (e::es) tA)(hp:(e::es).all qaq=true:=by rfl)(hdb:(x==("__debug__" : Str))=false:=by decide) :
  VE X (λ_=>Ec) (.Call (.Name x p) (e::es) [] pos) (qib g tA) :=
 let ⟨_,a1,a2⟩:=ha.u;⟨_,q1c C hq hr hg a1 hp hdb,λH0 B H τ σ Q Qd s S h xc k=>a2 H0 B H τ σ _ _ s S h xc λds vs B1 H1 p q h1 =>
  ⟨ds,B1,Qd,p.s,by rw[List.append_nil];exact q,h1,λn C B' H' hq p2 c=>xc n C B' H' (p.trans p2) c hq,λr v B2 H2 hq p2 q2=>k r v B2 H2 (p.trans p2) (q2.back p.h) hq⟩⟩
def qp8(τ:VSt)(k:Nat)(g:TVG)(te:TV)(Q:R->Prop):List D->List D->Prop
|[],acc=>Q (.own (.lst acc))
|d::ds,acc=>g d (τ++List.replicate k none) λτ2=>(τ2.take τ.length=τ/\τ2.length=τ.length+k)/\te τ2 λr=>exR r Q (pubR r λd'=>acc.length<sizeLine/\qp8 τ k g te Q ds (acc++[d']))
def ql7(vi:TVA)(g:TVG)(te:TV)(k:Nat):TV:=λτ Q=>vi τ λa=>exA a Q λds=>qp8 τ k g te Q ds []
def canX(K:PySem.W.Frag)(Ec:XK)(t:TV):TE:=λσ H Q=>∃H0 B τ Qd,Same B H/\Slots K H0 B H τ σ/\t τ Qd/\(∀n C B' H',Stp B H B' H'->clsOf K n C->Qd (.exc n)->Ec (.ref C) none H')/\∀r v B' H',Stp B H B' H'->RepR K B' H H' r v->Qd r->Q v H'
theorem qw1{wi:TI}{g:TG}{ee:TE}{vi:TVA}{gv:TVG}{k:Nat}(hi:RfI K (λ_=>Ec) wi vi)(hg:RfG K g gv)(he:RfE K (λ_=>Ec) ee te):RfE K (λ_=>Ec) (qq3 wi g fNil ee k) (ql7 vi gv te k):=λH0 B H τ σ Q Qd s S h xc kk =>
 hi H0 B H τ σ _ _ s S h xc λJ ds B1 H1 q ok hw p hp=>by
  have S1:=S.step q
  refine⟨λi m σ' xs H'=>m=ds.length-i/\i<=ds.length/\∃B2 acc,Stp B1 H1 B2 H'/\H' p=some (.lst xs)/\B2 p=none/\Reps K B2 acc xs/\Slots K H0 B2 H' (τ++List.replicate k none) σ' /\
    (∀(j:Nat) (e:D),(τ++List.replicate k none)[j]?=some (some (R.own e))->σ'[j]?≠some (some (.ref p)))/\qp8 τ k gv te Qd (ds.drop i) acc,
   ⟨ds.length,by lia,Nat.zero_le _,B1,[],.grow q.s (qav hp _),qaw,q.s.free hp,.nil,(S1.more k).heap λi d a h1 h2=>?_,λj e h1 h2=>?_,hw⟩,?_⟩
  ·obtain⟨c,q1,_,_,ow⟩:=(S1.more k).own i d h1
   rw[h2] at q1
   cases q1
   exact qar λz=>ow.some (z▸hp)
  ·obtain⟨c,q1,_,_,ow⟩:=(S1.more k).own j e h1
   rw[h2] at q1
   cases q1
   exact ow.some hp
  rintro i m σ2 xs H2 ⟨rfl,hle,B2,acc,p2,hx,hb,rp,S2,fr,w⟩
  by_cases hlt:i<ds.length
  ·have ei:ds[i]?=some ds[i]:=List.getElem?_eq_getElem hlt
   rw[List.drop_eq_getElem_cons hlt] at w
   obtain⟨go,yl⟩:=(ok i B2 H2 p2.b p2.s).1 _ ei
   refine .inr ⟨go,λy H' hy=>?_⟩
   obtain⟨B3,q3,ry⟩:=yl y H' hy
   replace hb:=q3.keep hb (by rw[hx];exact λz=>by cases z) (by rw[hx];exact λ_ z=>by cases z)
   replace hx:=q3.h _ _ hx
   replace rp:=rp.same q3.b
   replace p2:=p2.trans q3
   replace S2:=S2.step q3
   clear q3
   refine hg H0 B3 H' _ σ2 y _ _ _ p2.s S2 ry w λτ3 σ3 S3 kp h3=>?_
   obtain⟨⟨e1,e2⟩,h3⟩:=h3
   obtain⟨S3',ow3⟩:=S3.less e1 e2
   have fr3:∀(j:Nat) (e:D),(τ++List.replicate k none)[j]?=some (some (R.own e))->σ3[j]?≠some (some (.ref p)):=λj e h z=>by
    obtain⟨g1,g2⟩:=kp j e (ow3 j e h)
    rw[g2] at z
    exact fr j e g1 z
   refine he H0 B3 H' τ3 σ3 _ _ p2.s S3 h3 (λn C B' H' q' c z=>xc n C B' H' ((q.trans p2).trans q') c z) λr v B5 H5 q5 hr hq5=>?_
   have hq5:pubR r λd'=>acc.length<sizeLine/\qp8 τ k gv te Qd (ds.drop (i+1)) (acc++[d']):=by
    cases r with
   |exc n=>exact(hr:False).elim
   |val d=>exact hq5
   |own d=>exact hq5
   |peek d=>exact hq5
   obtain⟨d',B6,q6,_,rd,hz,hq6⟩:=pub q5 hr hq5
   have hx6:H5 p=some (.lst xs):=q6.h _ _ hx
   have hb6:B6 p=none:=q6.keep hb (by rw[hx];exact λz=>by cases z) (by rw[hx];exact λ_ z=>by cases z)
   refine⟨hx6,by rw[←rp.length];exact hz,ds.length-(i+1),by lia,rfl,by lia,B6,acc++[d'],(p2.trans q6).upd hp hb6,qaw,hb6,(rp.same q6.b).append (.one rd),(S3'.step q6).heap λj d a h1 h2=>?_,fr3,hq6⟩
   exact qar λz=>fr3 j d h1 (z▸h2)
  ·have ei:ds[i]?=none:=List.getElem?_eq_none (by lia)
   rw[List.drop_eq_nil_of_le (by lia)] at w
   exact .inl ⟨(ok i B2 H2 p2.b p2.s).2 ei,kk (.own (.lst acc)) _ B2 H2 (q.trans p2) ⟨p,rfl,q.h.free hp,hb,xs,hx,rp⟩ w⟩
theorem qxj{tg iter elt:Expr}{csc:Scope}{NB M:List Str}{vi:TVA}{g:TVG}(hi:VI X (λ_=>Ec) tg iter vi)(hc:X.calm=true)(S:CompScope X.env.scope X.N NB M csc)(hg:∀cl C s₀ H₀ fp pn,VG (cxC X NB csc cl C s₀ H₀ fp pn) tg g)(o:Out X λ_=>Ec)
  (he:∀cl C s₀ H₀ fp pn E,qgj (CXR X.prog X.w) ((cxC X NB csc cl C s₀ H₀ fp pn).wish E) Ec->VE ((cxC X NB csc cl C s₀ H₀ fp pn).wish E) (λ_=>Ec) elt te) (hst:X.stack=X.env::X.outer:=by rfl) (hfr:X.env.frame=some X.env.locals:=by rfl) (hx:X.ex=[]:=by rfl)
  (hs:∀x,foldedSetIterable iter X.env x=pure x:=by intro _;rfl):VC X (λ_=>Ec) (.ListComp elt [⟨tg,iter,[],0⟩] csc pos) (ql7 vi g te M.length) :=
 let ⟨_,a1,a2⟩:=hi.u;⟨_,qwo (g:=canG X.K g) (te:=canX X.K Ec te) a1 hc S (λcl C s₀ H₀ fp pn=>(hg cl C s₀ H₀ fp pn).can) (λcl C s₀ H₀ fp pn=>qtu) o
   (λcl C s₀ H₀ fp pn E h=>let ⟨_,c1,c2⟩:=(he cl C s₀ H₀ fp pn E h).u;⟨λpins s σ H Q I ⟨H0,B,τ,Qd,q1,q2,q3,q4,q5⟩=>c1.u pins s σ H Q I (c2 H0 B H τ σ Q Qd q1 q2 q3 q4 q5)⟩) hst hfr hx hs,
  qw1 a2 (λH0 B H τ σ v d Q Qd q1 q2 q3 q4 q5=>⟨H0,B,τ,d,Qd,q1,q2,q3,q4,q5⟩) (λH0 B H τ σ Q Qd q1 q2 q3 q4 q5=>⟨H0,B,τ,Qd,q1,q2,q3,q4,q5⟩)⟩
theorem qr0{α:Type}{f:α->D}{τ:VSt}{k:Nat}{g:TVG}{Q:R->Prop}(n:Str)(h:α->Option D)(xs:List α)(hz:xs.length<=sizeLine)
  (ok:∀x∈xs,∀Y:R->Prop,(∀d,h x=some d->Y (.val d))->(h x=none->Y (.exc n))->g (f x) (τ++List.replicate k none) λτ2=>(τ2.take τ.length=τ/\τ2.length=τ.length+k)/\te τ2 Y)
  (fin:∀ds:List D,xs.map h=ds.map some->Q (.own (.lst ds))) (bad:(∃x∈xs,h x=none)->Q (.exc n)):qp8 τ k g te Q (xs.map f) []:=by
 have key:∀(ys zs:List α) (acc:List D),xs=zs++ys->zs.map h=acc.map some->qp8 τ k g te Q (ys.map f) acc:=by
  intro ys
  induction ys with
 |nil =>
   intro zs acc e1 e2
   rw[List.append_nil] at e1
   exact fin acc (by rw[e1];exact e2)
 |cons y ys ih =>
   intro zs acc e1 e2
   refine ok y (by rw[e1];simp) _ (λd hd=>?_) λhd=>?_
   ·have l:=congrArg List.length e2
    rw[List.length_map,List.length_map] at l
    have l2:=congrArg List.length e1
    rw[List.length_append,List.length_cons] at l2
    exact⟨by lia,ih (zs++[y]) (acc++[d]) (by rw[e1];simp) (by rw[List.map_append,List.map_append,e2];simp[hd])⟩
   ·exact bad ⟨y,by rw[e1];simp,hd⟩
 exact key xs [] [] rfl rfl
end
end L2
set_option maxHeartbeats 4000000
namespace K81
open PySem L2
local macro_rules|`(tactic| simp! only[$xs,*])=>`(tactic| simp only[vIfS,vBl,vOp,vLt,vLe,vGt,vGe,vI2',vI2,vVar,vF1,vLen,q5x,ql9,qi7,vStr,vRet,quj,q5y,vIxR,qaz,vC,vAdd,vSub,vMul,vDiv,vMod,vPow,vEq,vNe,qcn,vSlR,qbp,qeb,vNeg,qib,qaj,qab,vNil,vTup,vLst,vSet,qgu,qia,quk,ownL,qxh,vFor,qiu,q5z,qck,qeo,qkj,isTy,qdr,qe4,vOrT,qui,qit,vOrE,vIfE,vAsg,qa1,qko,qco,qkp,vFrz,qn3,qie,frz,qq8,vAll,qkk,vIsN,qic,qat,dV,scal,qyr,qyq,qtz,qyp,qtq,qtp,qya,qx9,qsn,qx8,qsi,qsh,qol,qsg,qsm,qsl,qom,qsk,qx6,qk9,qx7,qsj,qtb,qo2,qgr,vTry,qpr,ql7,qxi,VEnds.calm,VEnds.wiped,qge,vDIn,qpl,ql8,qn2,ownT,qpm,qif,qug,qw6,qid,vZip,vLtD,quh,qut,qq9,qmb,qkl,vNeD,qkm,qgs,vIn,strsOf,qi6,Option.map_some,List.map_cons,List.map_nil,List.length_cons,List.length_nil,List.cons_append,List.nil_append,List.getElem?_cons_zero,List.getElem?_cons_succ,List.set_cons_zero,List.set_cons_succ,List.replicate_succ,List.replicate_zero,Nat.reduceSub,Nat.reduceAdd,if_true,if_false,ite_true,ite_false,Bool.not_true,Bool.not_false,decide_true,decide_false,eq_int,eq_str,qzf,qrz,qzi,qzk,true_and,and_true,Nat.zero_le,List.take_succ_cons,List.take_zero,reduceIte,Bool.false_eq_true,eq_self,List.length_map,V.int.injEq,V.str.injEq,CDiv,Int.reduceLT,Int.zero_add,and_self,List.cons.injEq,D.scr.injEq,D.int.injEq,D.str.injEq,D.tup.injEq,D.lst.injEq,D.bl.injEq,and_assoc,exists_and_left,exists_eq_left,exists_eq_left',qht,qnc,qw8,qw7,qvk,qzd,qoh,Int.reduceLE,Int.le_refl,qxf,qr9,qza,qvg,Option.some.injEq,$xs,*])
local macro_rules|`(tactic| dsimp! only[$xs,*])=>`(tactic| ((try dsimp only[vIfS,vBl,vOp,vLt,vLe,vGt,vGe,vI2',vI2,vVar,vF1,vLen,q5x,ql9,qi7,vStr,vRet,quj,q5y,vIxR,qaz,vC,vAdd,vSub,vMul,vDiv,vMod,vPow,vEq,vNe,qcn,vSlR,qbp,qeb,vNeg,qib,qaj,qab,vNil,vTup,vLst,vSet,qgu,qia,quk,ownL,qxh,vFor,qiu,q5z,qck,qeo,qkj,isTy,qdr,qe4,vOrT,qui,qit,vOrE,vIfE,vAsg,qa1,qko,qco,qkp,vFrz,qn3,qie,frz,qq8,vAll,qkk,vIsN,qic,qat,dV,scal,qyr,qyq,qtz,qyp,qtq,qtp,qya,qx9,qsn,qx8,qsi,qsh,qol,qsg,qsm,qsl,qom,qsk,qx6,qk9,qx7,qsj,qtb,qo2,qgr,vTry,qpr,ql7,qxi,VEnds.calm,VEnds.wiped,qge,vDIn,qpl,ql8,qn2,ownT,qpm,qif,qug,qw6,qid,vZip,vLtD,quh,qut,qq9,qmb,qkl,vNeD,qkm,qgs,vIn,strsOf,Option.map_some,List.map_cons,List.map_nil,List.length_cons,List.length_nil,List.cons_append,List.nil_append,List.getElem?_cons_zero,List.getElem?_cons_succ,List.set_cons_zero,List.set_cons_succ,List.take_succ_cons,List.take_zero,CDiv,$xs,*]);(try simp! only[$xs,*])))
local macro_rules | `(tactic| rfl')=>`(tactic| dsimp! only [true_and])
local macro_rules | `(tactic| ac_rfl)=>`(tactic| simp! only [true_and])
def NS:Str:="abcdefghijklmnopqrstuvwxyz0123456789"
theorem q6j(c:Nat):(!(Builtin.Str.occurrences NS ⟨#[c]⟩ 0 NS.length 1).isEmpty)=decide (c∈NS.cps.toList):=StrLaws.found_one NS c
theorem qqz:("/" : Str)=⟨#[47]⟩:=by decide +kernel
theorem qv2:(47:Nat)∉NS.cps.toList:=by decide +kernel
def nmL(l:List Nat):Bool:=decide (1<=l.length)&&decide (l.length<=12)&&l.all λc=>decide (c∈NS.cps.toList)
def nmB(z:Str):Bool:=nmL z.cps.toList
def wdB(z:Str):Bool:=decide (z∈[(".": Str),".."])||nmB z
theorem q0d{z:Str}(h:nmB z=true):(47:Nat)∉z.cps.toList:=λm=>by
 unfold nmB nmL at h
 rw[Bool.and_eq_true,List.all_eq_true] at h
 exact qv2 (of_decide_eq_true (h.2 47 m))
theorem qi0{z:Str}(h:nmB z=true):1<=z.length/\z.length<=12:=by
 unfold nmB nmL at h
 rw[Bool.and_eq_true,Bool.and_eq_true] at h
 exact⟨of_decide_eq_true h.1.1,of_decide_eq_true h.1.2⟩
def rt(z:Str):Bool:=z.cps.toList.head?==some 47
def wsW(z:Str):List Str:=(sp 47 (if rt z=true then z.cps.toList.drop 1 else z.cps.toList)).map mkS
def qba(z:Str):Option (Bool×List Str):=if z="/" then some (true,[]) else if (wsW z).length<=40/\(wsW z).all wdB=true then some (rt z,wsW z) else none
theorem qjx{z:Str}(h:nmB z=true):wdB z=true:=by unfold wdB;rw[h,Bool.or_true]
theorem q2q{ws:List Str}(h:ws.all nmB=true):ws.all wdB=true:=List.all_eq_true.mpr λz hz=>qjx (List.all_eq_true.mp h z hz)
def qbl:DP:=λds Q=>∃z,ds=[.str z]/\z.length<=50000/\Q (.val (.bl (nmB z)))
theorem qm4:∀ds Q,qbl ds Q->ds.length=1:=by rintro ds Q ⟨_,rfl,_⟩;rfl
def qdf:DP:=λds Q=>∃z,ds=[.str z]/\z.length<=50000/\Q (.val (.bl (wdB z)))
theorem qm6:∀ds Q,qdf ds Q->ds.length=1:=by rintro ds Q ⟨_,rfl,_⟩;rfl
def qby:DP:=λds Q=>∃z,ds=[.str z]/\z.length<=50000/\(∀r ws,qba z=some (r,ws)->Q (.val (.tup [.bl r,qbz ws])))/\(qba z=none->Q (.exc "NoWay"))
theorem qll:∀ds Q,qby ds Q->ds.length=1:=by rintro ds Q ⟨_,rfl,_⟩;rfl
def qze(ns:List Int)(k:Int):Int:=(ns[k.toNat]?).getD 0
def qa0:DP:=λds Q=>∃ns k,ds=[.scr ns,.int k]/\0<=k/\Q (.val (.int (qze ns k)))
theorem qm3:∀ds Q,qa0 ds Q->ds.length=2:=by rintro ds Q ⟨_,_,rfl,_⟩;rfl
def qap:DP:=λds Q=>∃c t m,ds=[.int c,.int t,.int m]/\0<=t/\0<m/\∀i,0<=i->i<m->(t=0->i=(c%10 ^ 18+1)*48271%99991%m)->Q (.val (.int i))
theorem qs3:∀ds Q,qap ds Q->ds.length=3:=by rintro ds Q ⟨_,_,_,rfl,_⟩;rfl
abbrev En(Q:R->Prop):VEnds:={ nx:=λ_=>Q (.val .non),rt:=Q }
abbrev EnX(Q:R->Prop):VEnds:={ nx:=λ_=>Q (.val .non),rt:=Q,xc:=λ_ n=>Q (.exc n) }
def qbn:DP:=λds Q=>∃c,ds=[.int c]/\∀z:Str,nmB z=true->Q (.val (.str z))
theorem qm8:∀ds Q,qbn ds Q->ds.length=1:=by rintro ds Q ⟨_,rfl,_⟩;rfl
def qf5:DP:=λds Q=>∃(ns:List Int) (a b m:Int),ds=[.scr ns,.int a,.int b,.int m]/\0<=a/\0<=b/\0<=m/\m<=60/\∀cs:List Int,cs.length=m.toNat->Q (.own (.lst (cs.map D.int)))
theorem qs1:∀ds Q,qf5 ds Q->ds.length=4:=by rintro ds Q ⟨_,_,_,_,rfl,_⟩;rfl
def qn1(ws:List Str):List Nat:=ws.flatMap λw=>47::w.cps.toList
theorem qpi:∀(ws:List Str) (w:List Nat),47∉w->(∀z∈ws,(47:Nat)∉z.cps.toList)->sp 47 (w++qn1 ws)=w::ws.map (·.cps.toList)
|[],w,hw,_=>by
  show sp 47 (w++[])=_
  rw[List.append_nil,qh7 47 w hw]
  rfl
|z::ws,w,hw,h=>by
  show sp 47 (w++(47::z.cps.toList++qn1 ws))=_
  rw[List.cons_append,qi5 47 w _ hw,qpi ws _ (h z (List.mem_cons_self ..)) λy hy=>h y (List.mem_cons_of_mem _ hy)]
  rfl
theorem app_list(a b:Str):(a++b).cps.toList=a.cps.toList++b.cps.toList:=by
 show (a.cps++b.cps).toList=_
 rw[Array.toList_append]
theorem qi3:("/" : Str).cps.toList=[47]:=by rw[qqz]
theorem join_list:∀(ws:List Str) (w:Str),(PySem.Str.join "/" (w::ws)).cps.toList=w.cps.toList++qn1 ws
|[],w=>(List.append_nil _).symm
|y::ws,w=>by
  have e:PySem.Str.join "/" (w::y::ws)=w++("/" : Str)++PySem.Str.join "/" (y::ws):=rfl
  rw[e,app_list,app_list,join_list ws y,qi3,List.append_assoc]
  rfl
theorem qei(w:Str)(ws:List Str):(glue "/" (w::ws)).cps.toList=w.cps.toList++qn1 ws:=by
 show (Builtin.Str.glued "/" (w::ws)).cps.toList=_
 rw[StrLaws.glued_eq_join,join_list]
theorem qoa{z:Str}(h:wdB z=true):(47:Nat)∉z.cps.toList:=by
 unfold wdB at h
 rw[Bool.or_eq_true] at h
 rcases h with q|q
 ·have:=of_decide_eq_true q
  rw[List.mem_cons,List.mem_singleton] at this
  rcases this with rfl|rfl
  ·decide +kernel
  ·decide +kernel
 ·exact q0d q
theorem qri{z:Str}(h:wdB z=true):z≠"" := λe=>by subst e;revert h;decide +kernel
theorem qva{z:Str}(h:wdB z=true):∃x xs,z.cps.toList=x::xs/\x≠47:=by
 have hf:=qoa h
 cases hc:z.cps.toList with
|nil=>exact absurd (qdh (by rw[hc];decide +kernel)) (qri h)
|cons x xs=>exact⟨x,xs,rfl,λe=>by rw[hc,e] at hf;exact hf (List.mem_cons_self ..)⟩
theorem qpj(w:Str)(ws:List Str)(h:∀z∈w::ws,wdB z=true):(sp 47 (w.cps.toList++qn1 ws)).map mkS=w::ws:=by
 rw[qpi ws _ (qoa (h w (List.mem_cons_self ..))) λz hz=>qoa (h z (List.mem_cons_of_mem _ hz)),List.map_cons,qdm,List.map_map]
 congr 1
 exact(List.map_congr_left λz _=>qdm z).trans (List.map_id _)
theorem qvc{ws:List Str}(h0:ws≠[])(hl:ws.length<=40)(hw:∀z∈ws,wdB z=true):qba (glue "/" ws)=some (false,ws):=by
 cases ws with
|nil=>exact absurd rfl h0
|cons w ws =>
  obtain⟨x,xs,e1,e2⟩:=qva (hw w (List.mem_cons_self ..))
  have hr:rt (glue "/" (w::ws))=false:=by
   unfold rt
   rw[qei,e1,List.cons_append,List.head?_cons]
   simpa using e2
  have hs:wsW (glue "/" (w::ws))=w::ws:=by
   unfold wsW
   rw[hr,if_neg (by decide),qei]
   exact qpj w ws hw
  unfold qba
  rw[if_neg (λz=>?_),hr,hs,if_pos ⟨hl,List.all_eq_true.mpr hw⟩]
  have hz:=congrArg (λy:Str=>y.cps.toList.head?) z
  simp only[qei,e1,List.cons_append,List.head?_cons,qi3] at hz
  exact e2 (Option.some.inj hz)
theorem qrj{ws:List Str}(hl:ws.length<=40)(hw:∀z∈ws,wdB z=true):qba (("/" : Str)++glue "/" ws)=some (true,ws):=by
 cases ws with
|nil =>
  have:("/" : Str)++glue "/" []="/" := by decide +kernel
  rw[this]
  rfl
|cons w ws =>
  obtain⟨x,xs,e1,e2⟩:=qva (hw w (List.mem_cons_self ..))
  have el:(("/" : Str)++glue "/" (w::ws)).cps.toList=47::(w.cps.toList++qn1 ws):=by
   rw[app_list,qei,qi3]
   rfl
  have hr:rt (("/" : Str)++glue "/" (w::ws))=true:=by
   unfold rt
   rw[el]
   rfl
  have hs:wsW (("/" : Str)++glue "/" (w::ws))=w::ws:=by
   unfold wsW
   rw[hr,if_pos rfl,el]
   exact qpj w ws hw
  unfold qba
  rw[if_neg (λz=>?_),hr,hs,if_pos ⟨hl,List.all_eq_true.mpr hw⟩]
  have hz:=congrArg (λy:Str=>y.cps.toList.length) z
  simp only[el,qi3,e1,List.length_cons,List.cons_append] at hz
  have e3:([]:List Nat).length=0:=rfl
  omega
theorem qy3{z:Str}(h:wdB z=true):z.length<=12:=by
 unfold wdB at h
 rw[Bool.or_eq_true] at h
 rcases h with q|q
 ·have:=of_decide_eq_true q
  rw[List.mem_cons,List.mem_singleton] at this
  rcases this with rfl|rfl
  ·decide +kernel
  ·decide +kernel
 ·exact(qi0 q).2
theorem qpk:∀ {ws:List Str},(∀z∈ws,wdB z=true)->(ws.map (·.length)).sum<=12*ws.length
|[],_=>Nat.le_refl _
|w::ws,h=>by
  have:=qpk λz m=>h z (List.mem_cons_of_mem w m)
  have:=qy3 (h w (List.mem_cons_self ..))
  rw[List.map_cons,List.sum_cons,List.length_cons]
  omega
theorem qfn:("/" : Str).length=1:=by decide +kernel
theorem qm2{ws:List Str}(h:∀z∈ws,wdB z=true):(glue "/" ws).length<=13*ws.length:=by
 have:=qoo "/" ws
 have:=qpk h
 rw[qfn] at *
 omega
theorem q57:wdB "." = true:=by decide +kernel
theorem q2m:wdB ".." = true:=by decide +kernel
def fsB(m:Str):Bool:=decide (m=qa3\/m=qa5)
def gsB(m:Str):Bool:=decide (m=qcl\/m=qa5)
def trB(m:Str):Bool:=decide (m=qdg\/m=qcz\/m=qa3)
def fitB(b:Str×Str):Bool:=decide (b.1=qdg)||(decide (b.1=qcz)&&(qba b.2).isSome)||(decide (b.1=qa3\/b.1=qcl\/b.1=qa5)&&decide (b.2=tEmpty))
def entB(r:Row):Bool:=r.1.all nmB&&fitB r.2
def mkAt(rs:List Row)(w:List Str):Option Str:=(rs.find? λr=>decide (r.1=w)).map (·.2.1)
def stdB(M:List Str->Option Str)(r:Row):Bool:=if r.1=[] then decide (r.2.1=qa5) else (List.range r.1.length).all λk=>(decide (k=0)||((M (r.1.take k)).map fsB).getD false)&&!(decide (M (r.1.take k)=some qa5)&&gsB r.2.1)
def mayB(r:Row)(c:Option Bool):Bool:=if r.1=[] then decide (r.2.1=qa5) else match c with
|none=>false
|some c=>trB r.2.1||!c
def qfm(S:List Str->Option Bool)(r:Row):List Str->Option Bool:=if fsB r.2.1=true then λw=>if w=r.1 then some (decide (r.2.1=qa5)||(S r.1.dropLast).getD false) else S w else S
def qhx:(List Str->Option Bool)->List Row->Bool
|_,[]=>true
|S,r::t=>mayB r (S r.1.dropLast)&&qhx (qfm S r) t
def S0:List Str->Option Bool:=λw=>if w=[] then some false else none
theorem qvl{r:Row}(h:entB r=true):trB r.2.1=!gsB r.2.1:=by
 unfold entB fitB at h
 rw[Bool.and_eq_true] at h
 have h:=h.2
 rw[Bool.or_eq_true,Bool.or_eq_true,Bool.and_eq_true,Bool.and_eq_true] at h
 have key:∀m:Str,(m=qdg\/m=qcz\/m=qa3\/m=qcl\/m=qa5)->trB m=!gsB m:=λm q=>by
  rcases q with rfl|rfl|rfl|rfl|rfl<;>decide +kernel
 refine key _ ?_
 rcases h with (h|h)|h
 ·exact .inl (of_decide_eq_true h)
 ·exact .inr (.inl (of_decide_eq_true h.1))
 ·rcases of_decide_eq_true h.1 with q|q|q
  ·exact .inr (.inr (.inl q))
  ·exact .inr (.inr (.inr (.inl q)))
  ·exact .inr (.inr (.inr (.inr q)))
section
variable {rs:List Row}
theorem qju(so:qbd rs){r:Row}(h:r∈rs):mkAt rs r.1=some r.2.1:=by
 unfold mkAt
 rw[qgv (qi2 so) h]
 rfl
theorem qjv{w:List Str}{m:Str}(h:mkAt rs w=some m):∃r∈rs,r.1=w/\r.2.1=m:=by
 unfold mkAt at h
 obtain⟨r,h1,h2⟩:=Option.map_eq_some_iff.mp h
 exact⟨r,List.mem_of_find?_eq_some h1,of_decide_eq_true (List.find?_some (p:=λr:Row=>decide (r.1=w)) h1),h2⟩
def clB(M:List Str->Option Str)(w:List Str):Bool:=(List.range (w.length+1)).any λk=>decide (M (w.take k)=some qa5)
theorem cl_iff{M:List Str->Option Str}{w:List Str}:clB M w=true↔∃k,k<=w.length/\M (w.take k)=some qa5:=by
 unfold clB
 rw[List.any_eq_true]
 constructor
 ·rintro⟨k,mk,e⟩
  have:=List.mem_range.mp mk
  exact⟨k,by omega,of_decide_eq_true e⟩
 ·rintro⟨k,hk,e⟩
  exact⟨k,List.mem_range.mpr (by omega),decide_eq_true e⟩
structure ShI(M:List Str->Option Str)(ps:List Row)(S:List Str->Option Bool):Prop where
 on:∀w,(w=[]\/∃r∈ps,r.1=w/\fsB r.2.1=true)->S w=some (clB M w)
 off:∀w,¬ (w=[]\/∃r∈ps,r.1=w/\fsB r.2.1=true)->S w=none
theorem qf4{w:List Str}{k:Nat}(h:k<w.length):w.dropLast.take k=w.take k:=by
 rw[List.dropLast_eq_take,List.take_take]
 congr 1
 omega
theorem q6e{M:List Str->Option Str}{w:List Str}(h:w≠[]):clB M w=(decide (M w=some qa5)||clB M w.dropLast):=by
 have l0:=List.length_pos_iff.mpr h
 refine qbc ?_
 rw[Bool.or_eq_true,cl_iff,cl_iff,decide_eq_true_iff]
 constructor
 ·rintro⟨k,hk,e⟩
  by_cases q:k=w.length
  ·rw[q,List.take_length] at e
   exact .inl e
  ·exact .inr ⟨k,by rw[List.length_dropLast];omega,by rw[qf4 (by omega)];exact e⟩
 ·rintro (e|⟨k,hk,e⟩)
  ·exact⟨w.length,Nat.le_refl _,by rw[List.take_length];exact e⟩
  ·rw[List.length_dropLast] at hk
   rw[qf4 (by omega)] at e
   exact⟨k,by omega,e⟩
end
section
variable {rs:List Row}
theorem qgd{M:List Str->Option Str}{r:Row}(h0:r.1≠[]):stdB M r=true↔∀k,k<r.1.length->(0<k->∃m,M (r.1.take k)=some m/\fsB m=true)/\¬ (M (r.1.take k)=some qa5/\gsB r.2.1=true):=by
 unfold stdB
 rw[if_neg h0,List.all_eq_true]
 constructor
 ·intro h k hk
  have:=h k (List.mem_range.mpr hk)
  rw[Bool.and_eq_true,Bool.or_eq_true] at this
  refine⟨λk0=>?_,λ⟨q1,q2⟩=>?_⟩
  ·rcases this.1 with q|q
   ·have:=of_decide_eq_true q
    omega
   ·cases e:M (r.1.take k) with
   |none=>rw[e] at q;cases q
   |some m=>rw[e] at q;exact⟨m,rfl,q⟩
  ·have q:=this.2
   rw[decide_eq_true q1,q2] at q
   cases q
 ·intro h k mk
  obtain⟨h1,h2⟩:=h k (List.mem_range.mp mk)
  rw[Bool.and_eq_true,Bool.or_eq_true]
  constructor
  ·rcases Nat.eq_zero_or_pos k with q|q
   ·exact .inl (decide_eq_true q)
   ·obtain⟨m,e,f⟩:=h1 q
    exact .inr (by rw[e];exact f)
  ·cases e:(decide (M (r.1.take k)=some qa5)&&gsB r.2.1) with
  |false=>rfl
  |true =>
    rw[Bool.and_eq_true] at e
    exact absurd ⟨of_decide_eq_true e.1,e.2⟩ h2
theorem q7m{w:List Str}(h:w≠[]):ltW w.dropLast w=true:=qvx h
theorem ahead(so:qbd rs){ps t:List Row}{r q:Row}(e:rs=ps++r::t)(mq:q∈rs)(l:ltW q.1 r.1=true):q∈ps:=by
 rw[e] at mq so
 rcases List.mem_append.mp mq with m|m
 ·exact m
 ·exfalso
  have so2:=(List.pairwise_append.mp so).2.1
  rcases List.mem_cons.mp m with m|m
  ·rw[m] at l
   have:=qiz l
   rw[l] at this
   cases this
  ·have:=(List.pairwise_cons.mp so2).1 q m
   rw[qiz l] at this
   cases this
theorem q0a(so:qbd rs){ps t:List Row}{r:Row}{S:List Str->Option Bool}(e:rs=ps++r::t)(I:ShI (mkAt rs) ps S)(ih:∀q∈ps,stdB (mkAt rs) q=true)(n0:∀q∈ps,q.1≠[]\/q.1=[])(h0:r.1≠[])(er:entB r=true):mayB r (S r.1.dropLast)=stdB (mkAt rs) r/\(stdB (mkAt rs) r=true->r.1.dropLast=[]\/∃p∈ps,p.1=r.1.dropLast/\fsB p.2.1=true):=by
 have l0:=List.length_pos_iff.mpr h0
 have sub:∀q∈ps,q∈rs:=λq m=>by rw[e];exact List.mem_append_left _ m
 have neg:stdB (mkAt rs) r=true->r.1.dropLast=[]\/∃p∈ps,p.1=r.1.dropLast/\fsB p.2.1=true:=λh=>by
  by_cases z:r.1.dropLast=[]
  ·exact .inl z
  ·have lz:=List.length_pos_iff.mpr z
   rw[List.length_dropLast] at lz
   obtain⟨m,q1,q2⟩:=((qgd h0).mp h (r.1.length-1) (by omega)).1 lz
   rw[←List.dropLast_eq_take] at q1
   obtain⟨p,mp,ep,em⟩:=qjv q1
   exact .inr ⟨p,ahead so e mp (by rw[ep];exact q7m h0),ep,by rw[em];exact q2⟩
 refine⟨?_,neg⟩
 unfold mayB
 rw[if_neg h0]
 by_cases q:r.1.dropLast=[]\/∃p∈ps,p.1=r.1.dropLast/\fsB p.2.1=true
 ·rw[I.on _ q]
  show (trB r.2.1||!clB (mkAt rs) r.1.dropLast)=_
  have em:=qvl er
  refine qbc ?_
  rw[Bool.or_eq_true,qgd h0]
  constructor
  ·intro h k hk
   refine⟨λk0=>?_,λ⟨s1,s2⟩=>?_⟩
   ·rcases q with q|⟨p,mp,ep,fp⟩
    ·have:=congrArg List.length q
     rw[List.length_dropLast,List.length_nil] at this
     omega
    ·have pl:p.1.length=r.1.length-1:=by rw[ep,List.length_dropLast]
     by_cases kk:k=r.1.length-1
     ·refine⟨p.2.1,?_,fp⟩
      rw[kk,←List.dropLast_eq_take,←ep]
      exact qju so (sub p mp)
     ·have p0:p.1≠[]:=List.length_pos_iff.mp (by omega)
      have:=((qgd p0).mp (ih p mp) k (by omega)).1 k0
      rw[ep,qf4 hk] at this
      exact this
   ·have c:clB (mkAt rs) r.1.dropLast=true:=cl_iff.mpr ⟨k,by rw[List.length_dropLast];omega,by rw[qf4 hk];exact s1⟩
    rw[c,em,s2] at h
    rcases h with h|h<;>cases h
  ·intro h
   cases c:clB (mkAt rs) r.1.dropLast with
  |false=>exact .inr rfl
  |true =>
    obtain⟨k,hk,ek⟩:=cl_iff.mp c
    rw[List.length_dropLast] at hk
    rw[qf4 (by omega)] at ek
    have:=(h k (by omega)).2
    refine .inl ?_
    rw[em]
    cases g:gsB r.2.1 with
   |false=>rfl
   |true=>exact absurd ⟨ek,g⟩ this
 ·rw[I.off _ q]
  show false=_
  cases h:stdB (mkAt rs) r with
 |false=>rfl
 |true=>exact absurd (neg h) q
theorem ShI.step(so:qbd rs){ps t:List Row}{r:Row}{S:List Str->Option Bool}(e:rs=ps++r::t)(I:ShI (mkAt rs) ps S)(h0:r.1≠[])(up:r.1.dropLast=[]\/∃p∈ps,p.1=r.1.dropLast/\fsB p.2.1=true):ShI (mkAt rs) (ps++[r]) (qfm S r):=by
 have mr:r∈rs:=by rw[e];simp
 have M:=qju so mr
 unfold qfm
 by_cases f:fsB r.2.1=true
 ·rw[if_pos f]
  refine⟨λw hw=>?_,λw hw=>?_⟩
  ·show (if w=r.1 then _ else _)=_
   by_cases ew:w=r.1
   ·rw[if_pos ew,I.on _ up,ew,q6e h0,M]
    congr 2
    refine qbc ?_
    rw[decide_eq_true_iff,decide_eq_true_iff]
    exact⟨λz=>by rw[z],λz=>Option.some.inj z⟩
   ·rw[if_neg ew]
    refine I.on w (hw.imp id λ⟨q,mq,eq,fq⟩=>?_)
    rcases List.mem_append.mp mq with m|m
    ·exact⟨q,m,eq,fq⟩
    ·rw[List.mem_singleton.mp m] at eq
     exact absurd eq.symm ew
  ·show (if w=r.1 then _ else _)=_
   have ew:w≠r.1:=λz=>hw (.inr ⟨r,by simp,z.symm,f⟩)
   rw[if_neg ew]
   exact I.off w λz=>hw (z.imp id λ⟨q,mq,eq,fq⟩=>⟨q,List.mem_append_left _ mq,eq,fq⟩)
 ·rw[if_neg f]
  have same:∀w,(w=[]\/∃q∈ps++[r],q.1=w/\fsB q.2.1=true)↔(w=[]\/∃q∈ps,q.1=w/\fsB q.2.1=true):=λw=>by
   constructor
   ·refine λz=>z.imp id λ⟨q,mq,eq,fq⟩=>?_
    rcases List.mem_append.mp mq with m|m
    ·exact⟨q,m,eq,fq⟩
    ·rw[List.mem_singleton.mp m] at fq
     exact absurd fq f
   ·exact λz=>z.imp id λ⟨q,mq,eq,fq⟩=>⟨q,List.mem_append_left _ mq,eq,fq⟩
  exact⟨λw hw=>I.on w ((same w).mp hw),λw hw=>I.off w λz=>hw ((same w).mpr z)⟩
theorem qnp(so:qbd rs)(en:∀r∈rs,entB r=true):∀(t ps:List Row) (S:List Str->Option Bool),rs=ps++t->ShI (mkAt rs) ps S->(∀q∈ps,stdB (mkAt rs) q=true)->(∀r∈t,r.1≠[])->qhx S t=t.all (stdB (mkAt rs))
|[],ps,S,_,_,_,_=>rfl
|r::t,ps,S,e,I,ih,n0=>by
  have h0:=n0 r List.mem_cons_self
  obtain⟨m1,m2⟩:=q0a so e I ih (λq _=>(Classical.em _).symm) h0 (en r (by rw[e];simp))
  show (mayB r (S r.1.dropLast)&&qhx (qfm S r) t)=(stdB (mkAt rs) r&&t.all (stdB (mkAt rs)))
  rw[m1]
  cases h:stdB (mkAt rs) r with
 |false=>rfl
 |true =>
   have e2:rs=(ps++[r])++t:=by rw[e];simp
   rw[qnp so en t (ps++[r]) (qfm S r) e2 (I.step so e h0 (m2 h)) (λq mq=>(List.mem_append.mp mq).elim (ih q) λz=>by rw[List.mem_singleton.mp z];exact h) λq mq=>n0 q (List.mem_cons_of_mem _ mq)]
end
theorem qqv{w:List Str}(h:w≠[]):ltW [] w=true:=by
 rcases qs8 (a:=[]) (b:=w) (Ne.symm h) with q|q
 ·exact q
 ·exact absurd (of_decide_eq_true q) (by show ¬ keyW w<[];exact List.not_lt_nil _)
theorem qv9{rs:List Row}(so:qbd rs)(en:∀r∈rs,entB r=true):qhx S0 rs=rs.all (stdB (mkAt rs)):=by
 cases hr:rs with
|nil=>rfl
|cons r t =>
  have so':=so
  rw[hr] at so'
  have so2:=List.pairwise_cons.mp so'
  by_cases h0:r.1=[]
  ·have nt:∀q∈t,q.1≠[]:=λq mq e=>by
    have:=so2.1 q mq
    rw[h0,e] at this
    have t2:=qiz this
    rw[this] at t2
    cases t2
   have M0:mkAt rs []=some r.2.1:=by
    have:=qju so (r:=r) (by rw[hr];simp)
    rw[h0] at this
    exact this
   show (mayB r (S0 r.1.dropLast)&&qhx (qfm S0 r) t)=(stdB (mkAt (r::t)) r&&t.all (stdB (mkAt (r::t))))
   have e1:mayB r (S0 r.1.dropLast)=stdB (mkAt (r::t)) r:=by
    unfold mayB stdB
    rw[if_pos h0,if_pos h0]
   rw[e1]
   cases h:stdB (mkAt (r::t)) r with
  |false=>rfl
  |true =>
    have ms:r.2.1=qa5:=by
     unfold stdB at h
     rw[if_pos h0] at h
     exact of_decide_eq_true h
    have cl0:clB (mkAt rs) []=true:=cl_iff.mpr ⟨0,Nat.le_refl _,by show mkAt rs []=_;rw[M0,ms]⟩
    have fs:fsB r.2.1=true:=by rw[ms];decide +kernel
    have I:ShI (mkAt rs) [r] (qfm S0 r):=by
     unfold qfm
     rw[if_pos fs]
     refine⟨λw hw=>?_,λw hw=>?_⟩
     ·have e0:w=[]:=by
       rcases hw with q|⟨q,mq,eq,_⟩
       ·exact q
       ·rw[List.mem_singleton.mp mq] at eq
        rw[←eq,h0]
      show (if w=r.1 then _ else _)=_
      rw[if_pos (by rw[e0,h0]),e0,cl0,ms]
      rfl
     ·have w0:w≠[]:=λz=>hw (.inl z)
      show (if w=r.1 then _ else _)=_
      rw[if_neg (by rw[h0];exact w0)]
      unfold S0
      rw[if_neg w0]
    rw[Bool.true_and,Bool.true_and]
    rw[hr] at I so en
    exact qnp so en t [r] _ rfl I (λq mq=>by rw[List.mem_singleton.mp mq];exact h) nt
  ·have nt:∀q∈r::t,q.1≠[]:=λq mq e=>by
    rcases List.mem_cons.mp mq with m|m
    ·rw[m] at e;exact h0 e
    ·have:=so2.1 q m
     rw[e] at this
     have t2:=qiz (qqv h0)
     rw[this] at t2
     cases t2
   have M0:mkAt rs []=none:=by
    cases e:mkAt rs [] with
   |none=>rfl
   |some m =>
     obtain⟨q,mq,eq,_⟩:=qjv e
     rw[hr] at mq
     exact absurd eq (nt q mq)
   have I:ShI (mkAt rs) [] S0:=by
    refine⟨λw hw=>?_,λw hw=>?_⟩
    ·have e0:w=[]:=hw.elim id λ⟨q,mq,_⟩=>by cases mq
     rw[e0]
     show some false=some _
     congr 1
     refine(qbc ?_).symm
     rw[cl_iff]
     constructor
     ·rintro⟨k,_,q⟩
      rw[List.take_nil,M0] at q
      cases q
     ·intro q;cases q
    ·unfold S0
     rw[if_neg λz=>hw (.inl z)]
   rw[hr] at I so en
   exact qnp so en (r::t) [] S0 rfl I (λq mq=>by cases mq) nt
def risB:List Row->Bool
|a::b::t=>ltW a.1 b.1&&risB (b::t)
|_=>true
theorem qnr:∀rs:List Row,risB rs=true↔qbd rs
|[]=>⟨λ_=>List.Pairwise.nil,λ_=>rfl⟩
|[a]=>⟨λ_=>List.pairwise_singleton _ _,λ_=>rfl⟩
|a::b::t=>by
  show (ltW a.1 b.1&&risB (b::t))=true↔_
  rw[Bool.and_eq_true,qnr (b::t)]
  constructor
  ·rintro⟨h1,h2⟩
   refine List.pairwise_cons.mpr ⟨λq mq=>?_,h2⟩
   rcases List.mem_cons.mp mq with m|m
   ·rw[m];exact h1
   ·exact qs9 h1 ((List.pairwise_cons.mp h2).1 q m)
  ·intro h
   have:=List.pairwise_cons.mp h
   exact⟨this.1 b List.mem_cons_self,this.2⟩
def areB(rs:List Row):Bool:=risB rs&&rs.all entB
def qiq(rs:List Row):Bool:=areB rs&&qhx S0 rs
def dueB(rs:List Row):Bool:=areB rs&&rs.all (stdB (mkAt rs))
theorem qwa(rs:List Row):qiq rs=dueB rs:=by
 unfold qiq dueB
 cases h:areB rs with
|false=>rfl
|true =>
  unfold areB at h
  rw[Bool.and_eq_true,qnr,List.all_eq_true] at h
  rw[qv9 h.1 h.2]
theorem qch:60000<=sizeLine:=by decide
theorem qb4:1000<=sizeLine:=by decide
def q15(c:Nat)(ws:List Str):List Nat:=ws.flatMap λw=>c::w.cps.toList
theorem q3b(c:Nat):∀(ws:List Str) (w:Str),(PySem.Str.join ⟨#[c]⟩ (w::ws)).cps.toList=w.cps.toList++q15 c ws
|[],w=>(List.append_nil _).symm
|y::ws,w=>by
  have e:PySem.Str.join ⟨#[c]⟩ (w::y::ws)=w++(⟨#[c]⟩:Str)++PySem.Str.join ⟨#[c]⟩ (y::ws):=rfl
  rw[e,app_list,app_list,q3b c ws y,List.append_assoc]
  rfl
theorem q6h(c:Nat)(w:Str)(ws:List Str):(glue ⟨#[c]⟩ (w::ws)).cps.toList=w.cps.toList++q15 c ws:=by
 show (Builtin.Str.glued ⟨#[c]⟩ (w::ws)).cps.toList=_
 rw[StrLaws.glued_eq_join,q3b]
theorem qf7(l:List Nat):(mkS l).cps.toList=l:=by unfold mkS;simp
theorem q3m:("\n" : Str)=⟨#[10]⟩:=by decide +kernel
theorem blank:(" " : Str)=⟨#[32]⟩:=by decide +kernel
theorem qt7(c:Nat):∀(l p:List Nat) (ps:List (List Nat)),sp c l=p::ps->p++ps.flatMap (c::·)=l
|[],p,ps,h=>by
  unfold sp at h
  cases h
  rfl
|x::l,p,ps,h=>by
  unfold sp at h
  obtain⟨q,qs,e⟩:∃q qs,sp c l=q::qs:=by
   cases e:sp c l with
  |nil=>exact absurd e (qq1 c l)
  |cons q qs=>exact⟨q,qs,rfl⟩
  have ih:=qt7 c l q qs e
  rw[e] at h
  by_cases hx:x=c
  ·rw[if_pos hx] at h
   cases h
   rw[hx]
   show c::(q++qs.flatMap (c::·))=_
   rw[ih]
  ·rw[if_neg hx] at h
   cases h
   show x::(q++ps.flatMap (c::·))=_
   rw[ih]
theorem qhk(c:Nat)(l:List Nat):(glue ⟨#[c]⟩ ((sp c l).map mkS)).cps.toList=l:=by
 cases e:sp c l with
|nil=>exact absurd e (qq1 c l)
|cons p ps =>
  rw[List.map_cons,q6h]
  have:=qt7 c l p ps e
  unfold q15
  rw[List.flatMap_map]
  exact this
theorem qt8(c:Nat):∀l:List Nat,(((sp c l).map mkS).map (·.length)).sum+(sp c l).length=l.length+1
|[]=>by simp[sp,qb6]
|x::l=>by
  have ih:=qt8 c l
  unfold sp
  obtain⟨q,qs,e⟩:∃q qs,sp c l=q::qs:=by
   cases e:sp c l with
  |nil=>exact absurd e (qq1 c l)
  |cons q qs=>exact⟨q,qs,rfl⟩
  rw[e] at ih ⊢
  have l1:∀p:List Nat,(mkS p).length=p.length:=λp=>qb6 p
  by_cases hx:x=c
  ·rw[if_pos hx]
   simp only[List.map_cons,List.sum_cons,List.length_cons,l1] at ih ⊢
   have:([]:List Nat).length=0:=rfl
   omega
  ·rw[if_neg hx]
   simp only[List.map_cons,List.sum_cons,List.length_cons,l1] at ih ⊢
   omega
theorem qr2(c:Nat):∀l:List Nat,c∉l\/∃w r,l=w++c::r/\c∉w
|[]=>.inl (by simp)
|x::l=>by
  by_cases hx:x=c
  ·exact .inr ⟨[],l,by rw[hx];rfl,by simp⟩
  ·rcases qr2 c l with h|⟨w,r,e,h⟩
   ·exact .inl (by simp[Ne.symm hx,h])
   ·exact .inr ⟨x::w,r,by rw[e];rfl,by simp[Ne.symm hx,h]⟩
theorem three(l:List Nat):(sp 32 l=[l]/\spN 32 2 l=[l])\/(∃w r,sp 32 l=[w,r]/\spN 32 2 l=[w,r]/\l=w++32::r)\/∃w v r,sp 32 l=w::v::sp 32 r/\spN 32 2 l=[w,v,r]/\l=w++32::(v++32::r):=by
 rcases qr2 32 l with h|⟨w,r,e,h⟩
 ·exact .inl ⟨qh7 32 l h,qgx 32 2 h⟩
 ·rcases qr2 32 r with h2|⟨v,r2,e2,h2⟩
  ·exact .inr (.inl ⟨w,r,by rw[e,qi5 32 w r h,qh7 32 r h2],by rw[e,qkf 32 1 w r h,qgx 32 1 h2],e⟩)
  ·exact .inr (.inr ⟨w,v,r2,by rw[e,qi5 32 w r h,e2,qi5 32 v r2 h2],by rw[e,qkf 32 1 w r h,e2,qkf 32 0 v r2 h2];rfl,by rw[e,e2]⟩)
def shW(w:List Str):Str:=("/" : Str)++glue "/" w
def txM(m:Str):Prop:=m=qdg\/m=qcz
instance (m:Str):Decidable (txM m):=inferInstanceAs (Decidable (_\/_))
def rowT(r:Row):Str:=if txM r.2.1 then r.2.1++(" " : Str)++shW r.1++(" " : Str)++r.2.2 else r.2.1++(" " : Str)++shW r.1
def qcm(t:Str):Option (List Str):=if t="/" then some [] else if rt t=true/\(wsW t).length<=40/\(wsW t).all nmB=true then some (wsW t) else none
def parP(t:Str):Option Row:=match (spN 32 2 t.cps.toList).map mkS with
|[a,b]=>if txM a then none else (qcm b).map λw=>(w,a,tEmpty)
|[a,b,x]=>if txM a then (qcm b).map λw=>(w,a,x) else none
|_=>none
def qbr(t:Str):List Str:=(sp 10 t.cps.toList).map mkS
def seqO{α:Type}:List (Option α)->Option (List α)
|[]=>some []
|none::_=>none
|some a::l=>(seqO l).map (a::·)
theorem qpg{α:Type}:∀rs:List α,seqO (rs.map some)=some rs
|[]=>rfl
|r::rs=>by rw[List.map_cons,seqO,qpg rs];rfl
theorem ql1{α:Type}:∀ {l:List (Option α)},none∈l->seqO l=none
|none::l,_=>rfl
|some a::l,h=>by
  rw[seqO,ql1 ((List.mem_cons.mp h).resolve_left (by simp))]
  rfl
theorem qt5{α:Type}:∀ {l:List (Option α)} {rs:List α},seqO l=some rs->l=rs.map some
|[],rs,h=>by cases h;rfl
|none::l,rs,h=>by cases h
|some a::l,rs,h=>by
  rw[seqO] at h
  obtain⟨q,e,rfl⟩:=Option.map_eq_some_iff.mp h
  rw[qt5 e]
  rfl
def dueT(t:Str):Option (List Row):=if t="" then some [] else (seqO ((qbr t).map parP)).bind λrs=>if qiq rs=true then some rs else none
def lwB(d:Bool)(z:Str):Bool:=if d=true then wdB z else nmB z
def lwW(d:Bool)(t:Str):Option (List Str):=if t="/" then some [] else if (wsW t).length<=40/\(wsW t).all (lwB d)=true then some (wsW t) else none
theorem qo0(t:Str):(lwW true t).isSome=(qba t).isSome:=by
 unfold lwW qba
 by_cases h:t="/"
 ·rw[if_pos h,if_pos h];rfl
 ·rw[if_neg h,if_neg h]
  have e:lwB true=wdB:=by funext z;rfl
  rw[e]
  split<;>rfl
theorem qhs{t:Str}(h:rt t=true):lwW false t=qcm t:=by
 unfold lwW qcm
 by_cases h0:t="/"
 ·rw[if_pos h0,if_pos h0]
 ·rw[if_neg h0,if_neg h0]
  have e:lwB false=nmB:=by funext z;rfl
  rw[e]
  by_cases q:(wsW t).length<=40/\(wsW t).all nmB=true
  ·rw[if_pos q,if_pos ⟨h,q⟩]
  ·rw[if_neg q,if_neg λz=>q z.2]
theorem qpe{t:Str}(h:rt t=false):qcm t=none:=by
 unfold qcm
 rw[if_neg (λe=>by rw[e] at h;exact absurd h (by decide +kernel)),if_neg (λz=>by rw[h] at z;cases z.1)]
theorem qqu{t:Str}{b:Bool}{ws:List Str}(h:qba t=some (b,ws)):qcm t=if b=true/\ws.all nmB=true then some ws else none:=by
 unfold qba at h
 unfold qcm
 by_cases h0:t="/"
 ·rw[if_pos h0] at h ⊢
  cases h
  rfl
 ·rw[if_neg h0] at h ⊢
  split at h
  ·rename_i q
   cases h
   by_cases z:rt t=true/\(wsW t).all nmB=true
   ·rw[if_pos ⟨z.1,q.1,z.2⟩,if_pos z]
   ·rw[if_neg λy=>z ⟨y.1,y.2.2⟩,if_neg z]
  ·cases h
theorem qqt{t:Str}(h:qba t=none):qcm t=none:=by
 unfold qba at h
 unfold qcm
 by_cases h0:t="/"
 ·rw[if_pos h0] at h;cases h
 ·rw[if_neg h0] at h ⊢
  split at h
  ·cases h
  ·rename_i q
   rw[if_neg λy=>q ⟨y.2.1,q2q y.2.2⟩]
theorem qpd{t:Str}{w:List Str}(h:qcm t=some w):w.length<=40/\(∀z∈w,nmB z=true)/\shW w=t:=by
 unfold qcm at h
 split at h
 ·rename_i e
  cases h
  exact⟨Nat.zero_le _,λz m=>(by cases m),by rw[e];decide +kernel⟩
 ·split at h
  ·rename_i q
   cases h
   refine⟨q.2.1,List.all_eq_true.mp q.2.2,qdh ?_⟩
   unfold shW wsW
   rw[if_pos q.1,app_list,qi3,show ("/" : Str)=⟨#[47]⟩ from qqz,qhk]
   have:=q.1
   unfold rt at this
   cases hc:t.cps.toList with
  |nil=>rw[hc] at this;cases this
  |cons x xs =>
    rw[hc] at this
    have hx:x=47:=by simpa using this
    rw[hx]
    rfl
  ·cases h
structure RowP(t:Str)(r:Row):Prop where
 wl:r.1.length<=40
 nm:∀z∈r.1,nmB z=true
 ml:r.2.1.length<=t.length
 tl:r.2.2.length<=t.length
 tx:rowT r=t
theorem RowP.nme{t:Str}{r:Row}(h:RowP t r):("" : Str)∉r.1:=λm=>qri (qjx (h.nm _ m)) rfl
theorem qf9{t:Str}{r:Row}(h:parP t=some r):RowP t r:=by
 unfold parP at h
 have tl:t.cps.toList.length=t.length:=rfl
 rcases three t.cps.toList with ⟨_,e⟩|⟨a,b,_,e,el⟩|⟨a,b,x,_,e,el⟩
 ·rw[e] at h
  cases h
 ·rw[e] at h
  simp only[List.map_cons,List.map_nil] at h
  split at h
  ·cases h
  ·rename_i hx
   obtain⟨w,hw,rfl⟩:=Option.map_eq_some_iff.mp h
   obtain⟨w1,w2,w3⟩:=qpd hw
   rw[el,List.length_append,List.length_cons] at tl
   refine⟨w1,w2,by show (mkS a).length<=_;rw[qb6];omega,by show tEmpty.length<=_;rw[show tEmpty.length=0 by decide +kernel];exact Nat.zero_le _,?_⟩
   unfold rowT
   rw[if_neg hx]
   show mkS a++(" " : Str)++shW w=t
   refine qdh ?_
   rw[w3,app_list,app_list,blank,el,qf7,qf7]
   simp
 ·rw[e] at h
  simp only[List.map_cons,List.map_nil] at h
  split at h
  ·rename_i hx
   obtain⟨w,hw,rfl⟩:=Option.map_eq_some_iff.mp h
   obtain⟨w1,w2,w3⟩:=qpd hw
   rw[el,List.length_append,List.length_cons,List.length_append,List.length_cons] at tl
   refine⟨w1,w2,by show (mkS a).length<=_;rw[qb6];omega,by show (mkS x).length<=_;rw[qb6];omega,?_⟩
   unfold rowT
   rw[if_pos hx]
   show mkS a++(" " : Str)++shW w++(" " : Str)++mkS x=t
   refine qdh ?_
   rw[w3,app_list,app_list,app_list,app_list,blank,el,qf7,qf7,qf7]
   simp
  ·cases h
theorem qgw(t:Str):(qbr t).length<=t.length+1/\(∀z∈qbr t,z.length<=t.length)/\((qbr t).map (·.length)).sum+(qbr t).length=t.length+1/\glue "\n" (qbr t)=t:=by
 unfold qbr
 have el:t.cps.toList.length=t.length:=rfl
 refine⟨by rw[List.length_map,←el];exact qph 10 _,λz m=>?_,?_,qdh ?_⟩
 ·obtain⟨p,mp,rfl⟩:=List.mem_map.mp m
  rw[qb6,←el]
  exact qkg 10 _ p mp
 ·rw[List.length_map,←el]
  exact qt8 10 _
 ·rw[q3m,qhk]
theorem qjl{t:Str}{rs:List Row}(h:dueT t=some rs):(t="" /\ rs=[])\/(t≠"" /\ (qbr t).map parP=rs.map some/\qiq rs=true):=by
 unfold dueT at h
 split at h
 ·cases h;exact .inl ⟨by assumption,rfl⟩
 ·rename_i h0
  obtain⟨q,e,h2⟩:=Option.bind_eq_some_iff.mp h
  split at h2
  ·cases h2
   exact .inr ⟨h0,qt5 e,by assumption⟩
  ·cases h2
theorem qx1{t:Str}{rs:List Row}(h0:t≠"")(h:(qbr t).map parP=rs.map some):dueT t=if qiq rs=true then some rs else none:=by
 unfold dueT
 rw[if_neg h0,h,qpg]
 rfl
theorem qzm{t z:Str}(h0:t≠"")(m:z∈qbr t)(h:parP z=none):dueT t=none:=by
 unfold dueT
 rw[if_neg h0,ql1 (List.mem_map.mpr ⟨z,m,h⟩)]
 rfl
theorem qns{t:Str}{rs:List Row}(h:(qbr t).map parP=rs.map some):rs.length=(qbr t).length/\(∀r∈rs,∃z∈qbr t,parP z=some r)/\rs.map rowT=qbr t:=by
 have hl:rs.length=(qbr t).length:=by
  have:=congrArg List.length h
  rw[List.length_map,List.length_map] at this
  exact this.symm
 have at':∀i (h1:i<rs.length) (h2:i<(qbr t).length),parP (qbr t)[i]=some rs[i]:=λi h1 h2=>by
  have e:=congrArg (λl=>l[i]?) h
  simp only[List.getElem?_map,List.getElem?_eq_getElem h1,List.getElem?_eq_getElem h2,Option.map_some,Option.some.injEq] at e
  exact e
 refine⟨hl,λr mr=>?_,List.ext_getElem (by rw[List.length_map,hl]) λi h1 h2=>?_⟩
 ·obtain⟨i,hi,e⟩:=List.mem_iff_getElem.mp mr
  exact⟨_,List.getElem_mem (by rw[←hl];exact hi),by rw[at' i hi (by rw[←hl];exact hi),e]⟩
 ·rw[List.getElem_map]
  rw[List.length_map] at h1
  exact(qf9 (at' i h1 h2)).tx
structure RowG(r:Row):Prop where
 wl:r.1.length<=100
 zl:∀z∈r.1,z.length<=50000
 tl:r.2.2.length<=50000
def qe8:DP:=λds Q=>∃w,ds=[wayD w]/\Q (.val (wayD w.dropLast))
def qbw:DP:=λds Q=>∃t:Str,ds=[.str t]/\t.length<=50000/\Q (.val (.bl (qba t).isSome))
def qiw:DP:=λds Q=>∃m t:Str,ds=[.str m,.str t]/\t.length<=50000/\Q (.val (.bl (fitB (m,t))))
def qc9:DP:=λds Q=>∃r:Row,ds=[wayD r.1,.str r.2.1,.str r.2.2]/\RowG r/\Q (.val (.bl (entB r)))
def qbu:DP:=λds Q=>∃ts:List Row,ds=[qax ts]/\ts.length<50010/\(∀r∈ts,RowG r)/\Q (.val (.bl (areB ts)))
def optD:Option Bool->D
|none=>.non
|some c=>.bl c
def qcr:DP:=λds Q=>∃(r:Row) (c:Option Bool),ds=[wayD r.1,.str r.2.1,optD c]/\Q (.val (.bl (mayB r c)))
def qdv:DP:=λds Q=>∃ts:List Row,ds=[qax ts]/\ts.length<50010/\(∀r∈ts,RowG r)/\Q (.val (.bl (qiq ts)))
theorem qs0:∀ds Q,qe8 ds Q->ds.length=1:=by rintro ds Q ⟨_,rfl,_⟩;rfl
theorem qhp:∀ds Q,qbw ds Q->ds.length=1:=by rintro ds Q ⟨_,rfl,_⟩;rfl
theorem qvu:∀ds Q,qiw ds Q->ds.length=2:=by rintro ds Q ⟨_,_,rfl,_⟩;rfl
theorem qlg:∀ds Q,qc9 ds Q->ds.length=3:=by rintro ds Q ⟨_,rfl,_⟩;rfl
theorem qho:∀ds Q,qbu ds Q->ds.length=1:=by rintro ds Q ⟨_,rfl,_⟩;rfl
theorem qjp:∀ds Q,qcr ds Q->ds.length=3:=by rintro ds Q ⟨_,_,rfl,_⟩;rfl
theorem qm5:∀ds Q,qdv ds Q->ds.length=1:=by rintro ds Q ⟨_,rfl,_⟩;rfl
theorem qbt{t:TVT}{a u:TVS}{Dv:VEnds}{τ:VSt}(P:Bool->Prop)(ht:∀Y:Bool->Prop,(∀c,P c->Y c)->t τ Y)(ha:P true->a { nx:=u Dv,rt:=Dv.rt,bk:=Dv.bk,ct:=Dv.ct,xc:=Dv.xc,ro:=Dv.ro,rn:=Dv.rn } τ)(hb:P false->u Dv τ):vSeq (vIfS t a qaz) u Dv τ:=qfe (v_if P ht ha hb)
theorem zip_rows(ts us:List Row):zipL (ts.map rowD) (us.map rowD)=(ts.zip us).map λp=>.tup [rowD p.1,rowD p.2]:=by
 unfold zipL
 rw[List.zip_map,List.map_map]
 rfl
theorem qo8(a b:List Str):ordD (.tup (a.map D.str)) (.tup (b.map D.str))=true:=by
 unfold ordD
 induction a generalizing b with
|nil=>unfold qdk;cases b<;>rfl
|cons x a ih =>
  cases b with
 |nil=>unfold qdk;rfl
 |cons y b =>
   rw[List.map_cons,List.map_cons]
   unfold qdk
   rw[ih b]
   rfl
theorem qt2:∀ts:List Row,(ts.zip (ts.drop 1)).all (λp=>ltW p.1.1 p.2.1)=risB ts
|[]=>rfl
|[a]=>rfl
|a::b::t=>by
  have:=qt2 (b::t)
  show (ltW a.1 b.1&&((b::t).zip t).all λp=>ltW p.1.1 p.2.1)=(ltW a.1 b.1&&risB (b::t))
  rw[←this]
  rfl
theorem all_map{α:Type}(xs:List α)(p:α->Bool):(xs.map p).all id=xs.all p:=by rw[List.all_map];rfl
theorem qz4(kds:List (List Str×D))(w:List Str)(d:D)(u:List Str):lkP (insP kds w d) u=if u=w then some d else lkP kds u:=by
 unfold lkP insP
 split
 ·rename_i h
  rw[List.find?_map]
  have e1:((λp:List Str×D=>decide (p.1=u)) ∘ λp:List Str×D=>if p.1=w then (p.1,d) else p)=λp=>decide (p.1=u):=by
   funext q
   show decide ((if q.1=w then (q.1,d) else q).1=u)=decide (q.1=u)
   split<;>rfl
  rw[e1]
  cases hf:kds.find? λp=>decide (p.1=u) with
 |none =>
   have:u≠w:=λe=>by
    obtain⟨p,mp,ep⟩:=List.mem_map.mp h
    exact absurd (decide_eq_true (ep.trans e.symm)) (List.find?_eq_none.mp hf p mp)
   rw[if_neg this]
   rfl
 |some q =>
   have:=of_decide_eq_true (List.find?_some (p:=λp:List Str×D=>decide (p.1=u)) hf)
   show some (if q.1=w then (q.1,d) else q).2=_
   by_cases e:u=w
   ·rw[if_pos e,if_pos (this.trans e)]
   ·rw[if_neg e,if_neg (by rw[this];exact e)]
    rfl
 ·rename_i h
  rw[List.find?_append]
  cases hf:kds.find? λp=>decide (p.1=u) with
 |none =>
   by_cases e:u=w
   ·simp[e]
   ·simp[e,Ne.symm e]
 |some q =>
   have:=of_decide_eq_true (List.find?_some (p:=λp:List Str×D=>decide (p.1=u)) hf)
   have:u≠w:=λe=>h (List.mem_map.mpr ⟨q,List.mem_of_find?_eq_some hf,this.trans e⟩)
   rw[if_neg this]
   rfl
theorem qzw(kds:List (List Str×D))(w:List Str)(d:D):(insP kds w d).length<=kds.length+1:=by
 unfold insP
 split
 ·rw[List.length_map];omega
 ·rw[List.length_append,List.length_singleton];exact Nat.le_refl _
theorem qf8{a:Bool}(h:true=!a):a=false:=by cases a<;>first|rfl|cases h
theorem qe9{a:Bool}(h:false=!a):a=true:=by cases a<;>first|rfl|cases h
theorem qz5{ps:List (List Str×D)}{S:List Str->Option Bool}{r:Row}(L:∀w,lkP ps w=(S w).map D.bl)(f:fsB r.2.1=true){c:Bool}(ec:c=(decide (r.2.1=qa5)||(S r.1.dropLast).getD false))(w:List Str):lkP (insP ps r.1 (.bl c)) w=(qfm S r w).map D.bl:=by
 unfold qfm
 rw[if_pos f,qz4]
 show _=(if w=r.1 then _ else _:Option Bool).map D.bl
 by_cases e:w=r.1
 ·rw[if_pos e,if_pos e,ec]
  rfl
 ·rw[if_neg e,if_neg e,L]
theorem qxw{t:Str}{b:Bool}{ws:List Str}(h:qba t=some (b,ws)):ws.length<=40/\∀z∈ws,wdB z=true:=by
 unfold qba at h
 split at h
 ·cases h;exact⟨Nat.zero_le _,λz m=>by cases m⟩
 ·split at h
  ·rename_i q;cases h;exact⟨q.1,List.all_eq_true.mp q.2⟩
  ·cases h
theorem q1z{w:List Str}(hl:w.length<=40)(hn:∀z∈w,nmB z=true):(shW w).length<=600:=by
 have:=qm2 (λz m=>qjx (hn z m))
 unfold shW
 rw[PySem.Str.length_append,qfn]
 omega
theorem empty_app(z:Str):Str.empty++z=z:=qdh (by rw[app_list];rfl)
theorem RowP.g{t:Str}{r:Row}(h:RowP t r)(ht:t.length<=50000):RowG r:=⟨Nat.le_trans h.wl (by decide),λz m=>Nat.le_trans (qi0 (h.nm z m)).2 (by decide),Nat.le_trans h.tl ht⟩
def qcs:DP:=λds Q=>∃w:List Str,ds=[wayD w]/\w.length<=40/\(∀z∈w,nmB z=true)/\Q (.val (.str (shW w)))
def qdb:DP:=λds Q=>∃t,ds=[.str t]/\t.length<=50000/\(∀w,qcm t=some w->Q (.val (wayD w)))/\(qcm t=none->Q (.exc "NoWay"))
def qcc:DP:=λds Q=>∃t,ds=[.str t]/\t.length<=50000/\(∀w,qcm t=some w->Q (.val (wayD w)))/\(qcm t=none->Q (.exc "NoRow"))
def qb9:DP:=λds Q=>∃t,ds=[.str t]/\t.length<=50000/\(∀r,parP t=some r->Q (.val (rowD r)))/\(parP t=none->Q (.exc "NoRow"))
def qbe:DP:=λds Q=>∃t,ds=[.str t]/\t.length<=50000/\(∀rs,dueT t=some rs->Q (.own (qax rs)))/\(dueT t=none->Q (.exc "NoRow"))
def qbx:DP:=λds Q=>∃(r:Row) (t:Str),ds=[wayD r.1,.str r.2.1,.str r.2.2]/\t.length<=50000/\parP t=some r/\Q (.val (.str t))
def qca:DP:=λds Q=>∃(ts:List Row) (t:Str),ds=[qax ts]/\t.length<=50000/\dueT t=some ts/\Q (.val (.str t))
theorem qjr:∀ds Q,qcs ds Q->ds.length=1:=by rintro ds Q ⟨_,rfl,_⟩;rfl
theorem qli:∀ds Q,qdb ds Q->ds.length=1:=by rintro ds Q ⟨_,rfl,_⟩;rfl
theorem qim:∀ds Q,qcc ds Q->ds.length=1:=by rintro ds Q ⟨_,rfl,_⟩;rfl
theorem qik:∀ds Q,qb9 ds Q->ds.length=1:=by rintro ds Q ⟨_,rfl,_⟩;rfl
theorem qjq:∀ds Q,qbe ds Q->ds.length=1:=by rintro ds Q ⟨_,rfl,_⟩;rfl
theorem qhq:∀ds Q,qbx ds Q->ds.length=3:=by rintro ds Q ⟨_,_,rfl,_⟩;rfl
theorem qil:∀ds Q,qca ds Q->ds.length=1:=by rintro ds Q ⟨_,_,rfl,_⟩;rfl
theorem q3o(c:Nat)(hc:c=10\/c=32):c∉NS.cps.toList:=by
 rcases hc with e|e<;>(subst e;decide +kernel)
theorem q3n{z:Str}(h:nmB z=true){c:Nat}(hc:c=10\/c=32):c∉z.cps.toList:=λm=>by
 unfold nmB nmL at h
 rw[Bool.and_eq_true,List.all_eq_true] at h
 exact q3o c hc (of_decide_eq_true (h.2 c m))
def mk5(m:Str):Prop:=m=qdg\/m=qcz\/m=qa3\/m=qcl\/m=qa5
def TOk(t:Str):Prop:=t.length<=400/\(10:Nat)∉t.cps.toList
def KdOk(m t:Str):Prop:=m=qdg\/(m=qcz/\∃b vs,qba t=some (b,vs))\/((m=qa3\/m=qcl\/m=qa5)/\t=tEmpty)
def qdc:DP:=λds Q=>∃c,ds=[.int c]/\∀t,TOk t->Q (.val (.str t))
def qdw:DP:=λds Q=>∃c,ds=[.int c]/\∀t,TOk t->(∃b vs,qba t=some (b,vs))->Q (.val (.str t))
def qbv:DP:=λds Q=>∃(c:Int) (cl:Bool),ds=[.int c,.bl cl]/\∀m t,TOk t->KdOk m t->(cl=true->m≠qcl/\m≠qa5)->Q (.val (.tup [.str m,.str t]))
theorem qlj:∀ds Q,qdc ds Q->ds.length=1:=by rintro ds Q ⟨_,rfl,_⟩;rfl
theorem qm7:∀ds Q,qdw ds Q->ds.length=1:=by rintro ds Q ⟨_,rfl,_⟩;rfl
theorem qle:∀ds Q,qbv ds Q->ds.length=2:=by rintro ds Q ⟨_,_,rfl,_⟩;rfl
theorem q58{z:Str}(h:wdB z=true):(10:Nat)∉z.cps.toList:=by
 unfold wdB at h
 rw[Bool.or_eq_true] at h
 rcases h with q|q
 ·have:=of_decide_eq_true q
  rw[List.mem_cons,List.mem_singleton] at this
  rcases this with rfl|rfl
  ·decide +kernel
  ·decide +kernel
 ·exact q3n q (.inl rfl)
theorem qzs{ws:List Str}(h:∀z∈ws,wdB z=true):(10:Nat)∉(glue "/" ws).cps.toList:=λm=>by
 cases ws with
|nil =>
  have e:(glue "/" ([]:List Str)).cps.toList=[]:=by decide +kernel
  rw[e] at m
  cases m
|cons w ws =>
  rw[qei] at m
  rcases List.mem_append.mp m with m|m
  ·exact q58 (h w (List.mem_cons_self ..)) m
  ·unfold qn1 at m
   obtain⟨y,my,m⟩:=List.mem_flatMap.mp m
   rcases List.mem_cons.mp m with m|m
   ·cases m
   ·exact q58 (h y (List.mem_cons_of_mem _ my)) m
def PS94:Str:=(" !\"#$&'()*+,-./0123456789:;<=>?@ABCDEFGHIJKLMNOPQRSTUVWXYZ[\\]^_`" : Str)++("abcdefghijklmnopqrstuvwxyz{|}~" : Str)
theorem q60:(10:Nat)∉PS94.cps.toList:=by decide +kernel
theorem qyg:PS94.length=94:=by decide +kernel
theorem q3a:∀(ls:List Nat),(PySem.Str.join (Str.ofString "") (ls.map λc=>(⟨#[c]⟩:Str))).cps.toList=ls
|[]=>by decide +kernel
|[c]=>rfl
|c::d::ls=>by
  have e:PySem.Str.join (Str.ofString "") ((c::d::ls).map λc=>(⟨#[c]⟩:Str))=(⟨#[c]⟩:Str)++(Str.ofString "")++PySem.Str.join (Str.ofString "") ((d::ls).map λc=>(⟨#[c]⟩:Str)):=rfl
  have e0:(Str.ofString "").cps.toList=[]:=by decide +kernel
  rw[e,app_list,app_list,q3a (d::ls),e0]
  rfl
theorem q23(ls:List Nat):(glue (Str.ofString "") (ls.map λc=>(⟨#[c]⟩:Str))).cps.toList=ls:=by
 show (Builtin.Str.glued (Str.ofString "") _).cps.toList=_
 rw[StrLaws.glued_eq_join,q3a]
theorem qlr:∀ {es:List D},(∀e∈es,∃c∈PS94.cps.toList,e=.str ⟨#[c]⟩)->∃ls:List Nat,es=(ls.map λc=>(⟨#[c]⟩:Str)).map D.str/\(∀c∈ls,c∈PS94.cps.toList)/\ls.length=es.length
|[],_=>⟨[],rfl,λc m=>(by cases m),rfl⟩
|e::es,h=>by
  obtain⟨ls,h1,h2,h3⟩:=qlr λx m=>h x (List.mem_cons_of_mem e m)
  obtain⟨c,mc,ec⟩:=h e (List.mem_cons_self ..)
  exact⟨c::ls,by rw[List.map_cons,List.map_cons,←h1,ec],λx m=>(List.mem_cons.mp m).elim (λq=>q▸mc) (h2 x),by rw[List.length_cons,List.length_cons,h3]⟩
theorem qo5:∀ls:List Nat,((ls.map λc=>(⟨#[c]⟩:Str)).map (·.length)).sum=ls.length
|[]=>rfl
|c::ls=>by
  rw[List.map_cons,List.map_cons,List.sum_cons,qo5 ls,List.length_cons]
  show 1+ls.length=_
  omega
def opD(p:List Str×Bool):D:=.tup [wayD p.1,.bl p.2]
theorem qst{rs:List Row}{w:List Str}(h:w∉rs.map (·.1))(m t:Str):insP (rs.map prR) w (.tup [.str m,.str t])=(rs++[(w,m,t)]).map prR:=by
 unfold insP
 rw[q2l,if_neg h,List.map_append]
 rfl
structure RowS(r:Row):Prop where
 wl:r.1.length<=38
 nm:∀z∈r.1,nmB z=true
 ml:r.2.1.length<=6
 tl:r.2.2.length<=400
theorem RowS.nme{r:Row}(h:RowS r):("" : Str)∉r.1:=λm=>qri (qjx (h.nm _ m)) rfl
def entL(t:Str):Option Row:=(parP t).bind λr=>if fitB r.2=true then some r else none
def optR:Option Row->D
|none=>.non
|some r=>rowD r
def qeh(M:List Str->Option Str)(w:List Str)(m:Str):Bool:=if w=[] then decide (m=qa5) else (decide (w.length<=1)||((M w.dropLast).map fsB).getD false)&&(List.range w.length).all λk=>!(decide (M (w.take k)=some qa5)&&gsB m)
def g_row:DP:=λds Q=>∃r:Row,ds=[rowD r]/\r.1.length<=39/\(∀z∈r.1,z.length<=12)/\r.2.1.length<=6/\r.2.2.length<=400/\∀t:Str,t.length<=1000->Q (.val (.str t))
def qdx:DP:=λds Q=>∃(cs:List Int) (s:Int),ds=[.lst (cs.map D.int),.int s]/\0<cs.length/\cs.length<=42/\∀ts:List Row,ts≠[]->ts.length<=43->(∀r∈ts,RowS r)->Q (.own (qax ts))
def qdz:DP:=λds Q=>∃c,ds=[.int c]/\∀t:Str,t.length<=1->Q (.val (.str t))
def qda:DP:=λds Q=>∃(ts:List Row) (kd a b c:Int),ds=[qax ts,.int kd,.int a,.int b,.int c]/\0<=kd/\ts.length<=43/\(∀r∈ts,RowS r)/\0<=a/\a<ts.length/\0<=b/\b<ts.length/\∀t:Str,t.length<=46000->Q (.val (.str t))
def qeu:DP:=λds Q=>∃(ts:List Row) (ns:List Int),ds=[qax ts,.scr ns]/\ts≠[]/\ts.length<=43/\(∀r∈ts,RowS r)/\∀t:Str,t.length<=50000->Q (.val (.str t))
def qcq:DP:=λds Q=>∃(z:Str) (d:Bool),ds=[.str z,.bl d]/\z.length<=50000/\Q (.val (.bl (lwB d z)))
def qcd:DP:=λds Q=>∃(t:Str) (d:Bool),ds=[.str t,.bl d]/\t.length<=50000/\(∀ws,lwW d t=some ws->Q (.val (qbz ws))/\Q (.own (qbz ws)))/\(lwW d t=none->Q (.val .non))
def qf6:DP:=λds Q=>∃t:Str,ds=[.str t]/\t.length<=50000/\Q (.val (optR (entL t)))
def qet:DP:=λds Q=>∃(ps:List (List Str×D)) (w:List Str) (M:List Str->Option Str) (m:Str),ds=[qbf ps,wayD w]/\w.length<=40/\("" : Str)∉w/\(∀u,lkP ps u=(M u).map D.str)/\M w=some m/\Q (.val (.bl (qeh M w m)))
def qqa:DP:=λds Q=>∃t:Str,ds=[.str t]/\t.length<=50000/\(∀rs,dueT t=some rs->Q (.val (qax rs))/\Q (.own (qax rs)))/\(dueT t=none->Q (.val .non))
def qdy:DP:=λds Q=>∃t:Str,ds=[.str t]/\t.length<=50000/\dueT t=none/\Q (.val (.bl true))
def g_same:DP:=λds Q=>∃rs:List Row,ds=[qax rs,qax rs]/\rs.length<=50010/\Q (.val (.bl true))
def qm1:DP:=λds Q=>∃ns,ds=[.scr ns]/\Q (.val (.bl true))
theorem qz3:∀ds Q,g_row ds Q->ds.length=1:=by rintro ds Q ⟨_,rfl,_⟩;rfl
theorem qm9:∀ds Q,qdx ds Q->ds.length=2:=by rintro ds Q ⟨_,_,rfl,_⟩;rfl
theorem qnb:∀ds Q,qdz ds Q->ds.length=1:=by rintro ds Q ⟨_,rfl,_⟩;rfl
theorem qlh:∀ds Q,qda ds Q->ds.length=5:=by rintro ds Q ⟨_,_,_,_,_,rfl,_⟩;rfl
theorem qqf:∀ds Q,qeu ds Q->ds.length=2:=by rintro ds Q ⟨_,_,rfl,_⟩;rfl
theorem qjo:∀ds Q,qcq ds Q->ds.length=2:=by rintro ds Q ⟨_,_,rfl,_⟩;rfl
theorem qlk:∀ds Q,qcd ds Q->ds.length=2:=by rintro ds Q ⟨_,_,rfl,_⟩;rfl
theorem qs2:∀ds Q,qf6 ds Q->ds.length=1:=by rintro ds Q ⟨_,rfl,_⟩;rfl
theorem qqe:∀ds Q,qet ds Q->ds.length=2:=by rintro ds Q ⟨_,_,_,_,rfl,_⟩;rfl
theorem qz1:∀ds Q,qqa ds Q->ds.length=1:=by rintro ds Q ⟨_,rfl,_⟩;rfl
theorem qna:∀ds Q,qdy ds Q->ds.length=1:=by rintro ds Q ⟨_,rfl,_⟩;rfl
theorem qvv:∀ds Q,g_same ds Q->ds.length=2:=by rintro ds Q ⟨_,rfl,_⟩;rfl
theorem qz2:∀ds Q,qm1 ds Q->ds.length=1:=by rintro ds Q ⟨_,rfl,_⟩;rfl
theorem qjn{M:List Str->Option Str}{w:List Str}{m:Str}(h0:w≠[]):qeh M w m=true↔(1<w.length->∃n,M w.dropLast=some n/\fsB n=true)/\∀k,k<w.length->¬ (M (w.take k)=some qa5/\gsB m=true):=by
 unfold qeh
 rw[if_neg h0,Bool.and_eq_true,Bool.or_eq_true,List.all_eq_true]
 refine and_congr ⟨λh l=>?_,λh=>?_⟩ ⟨λh k hk z=>?_,λh k mk=>?_⟩
 ·rcases h with h|h
  ·have:=of_decide_eq_true h
   omega
  ·cases e:M w.dropLast with
  |none=>rw[e] at h;cases h
  |some n=>rw[e] at h;exact⟨n,rfl,h⟩
 ·by_cases l:w.length<=1
  ·exact .inl (decide_eq_true l)
  ·obtain⟨n,e,f⟩:=h (by omega)
   exact .inr (by rw[e];exact f)
 ·have:=h k (List.mem_range.mpr hk)
  rw[decide_eq_true z.1,z.2] at this
  cases this
 ·cases e:(decide (M (w.take k)=some qa5)&&gsB m) with
 |false=>rfl
 |true =>
   rw[Bool.and_eq_true] at e
   exact absurd ⟨of_decide_eq_true e.1,e.2⟩ (h k (List.mem_range.mp mk))
theorem q13{M:List Str->Option Str}{r:Row}(h:stdB M r=true):qeh M r.1 r.2.1=true:=by
 by_cases h0:r.1=[]
 ·unfold stdB at h
  unfold qeh
  rw[if_pos h0] at h ⊢
  exact h
 ·have q:=(qgd h0).mp h
  refine(qjn h0).mpr ⟨λl=>?_,λk hk=>(q k hk).2⟩
  have:=(q (r.1.length-1) (by omega)).1 (by omega)
  rw[←List.dropLast_eq_take] at this
  exact this
theorem qzp{rs:List Row}(h:∀r∈rs,qeh (mkAt rs) r.1 r.2.1=true):∀(n:Nat) (r:Row),r∈rs->r.1.length=n->stdB (mkAt rs) r=true:=by
 intro n
 induction n using Nat.strongRecOn with
|ind n ih =>
  intro r mr hn
  by_cases h0:r.1=[]
  ·have:=h r mr
   unfold qeh at this
   unfold stdB
   rw[if_pos h0] at this ⊢
   exact this
  ·obtain⟨f1,f2⟩:=(qjn h0).mp (h r mr)
   refine(qgd h0).mpr λk hk=>⟨λk0=>?_,f2 k hk⟩
   obtain⟨m,e1,e2⟩:=f1 (by omega)
   by_cases kk:k=r.1.length-1
   ·exact⟨m,by rw[kk,←List.dropLast_eq_take];exact e1,e2⟩
   ·obtain⟨p,mp,ep,_⟩:=qjv e1
    have pl:p.1.length=r.1.length-1:=by rw[ep,List.length_dropLast]
    have p0:p.1≠[]:=List.length_pos_iff.mp (by omega)
    have:=((qgd p0).mp (ih p.1.length (by omega) p mp rfl) k (by omega)).1 k0
    rw[ep,qf4 hk] at this
    exact this
theorem qx2{z:Str}{r:Row}(h:parP z=some r):entB r=fitB r.2:=by
 unfold entB
 rw[List.all_eq_true.mpr (qf9 h).nm,Bool.true_and]
theorem entL_some{z:Str}{r:Row}:entL z=some r↔parP z=some r/\entB r=true:=by
 unfold entL
 rw[Option.bind_eq_some_iff]
 constructor
 ·rintro⟨q,e,h⟩
  split at h
  ·cases h
   exact⟨e,by rw[qx2 e];assumption⟩
  ·cases h
 ·rintro⟨e,h⟩
  exact⟨r,e,by rw[qx2 e] at h;rw[if_pos h]⟩
theorem qsa{t:Str}(h0:t≠""){rs:List Row}:dueT t=some rs↔(qbr t).map entL=rs.map some/\qbd rs/\∀r∈rs,qeh (mkAt rs) r.1 r.2.1=true:=by
 have key:(qbr t).map entL=rs.map some↔(qbr t).map parP=rs.map some/\∀r∈rs,entB r=true:=by
  generalize qbr t=l
  induction l generalizing rs with
 |nil =>
   cases rs with
  |nil=>simp
  |cons r rs=>simp
 |cons z l ih =>
   cases rs with
  |nil=>simp
  |cons r rs =>
    rw[List.map_cons,List.map_cons,List.map_cons,List.cons.injEq,List.cons.injEq,ih,entL_some]
    simp only[List.mem_cons,forall_eq_or_imp]
    constructor
    ·rintro⟨⟨a,b⟩,c,d⟩;exact⟨⟨a,c⟩,b,d⟩
    ·rintro⟨⟨a,c⟩,b,d⟩;exact⟨⟨a,b⟩,c,d⟩
 have pane:qiq rs=true↔qbd rs/\(∀r∈rs,entB r=true)/\∀r∈rs,qeh (mkAt rs) r.1 r.2.1=true:=by
  rw[qwa]
  unfold dueB areB
  rw[Bool.and_eq_true,Bool.and_eq_true,qnr,List.all_eq_true,List.all_eq_true]
  constructor
  ·rintro⟨⟨a,b⟩,c⟩;exact⟨a,b,λr mr=>q13 (c r mr)⟩
  ·rintro⟨a,b,c⟩;exact⟨⟨a,b⟩,λr mr=>qzp c _ r mr rfl⟩
 rw[key]
 constructor
 ·intro h
  rcases qjl h with ⟨e,_⟩|⟨_,e,p⟩
  ·exact absurd e h0
  ·obtain⟨a,b,c⟩:=pane.mp p
   exact⟨⟨e,b⟩,a,c⟩
 ·rintro⟨⟨e,b⟩,a,c⟩
  rw[qx1 h0 e,if_pos (pane.mpr ⟨a,b,c⟩)]
theorem q1w{rs:List Row}{r:Row}(so:qbd rs)(h:∀q,rs.getLast?=some q->ltW q.1 r.1=true):qbd (rs++[r]):=by
 refine List.pairwise_append.mpr ⟨so,List.pairwise_singleton _ _,λa ma b mb=>?_⟩
 rw[List.mem_singleton.mp mb]
 have ne:rs≠[]:=λe=>by rw[e] at ma;cases ma
 obtain⟨l,q,rfl⟩:∃l q,rs=l++[q]:=⟨_,_,(List.dropLast_concat_getLast ne).symm⟩
 have hl:=h q (by simp)
 rcases List.mem_append.mp ma with m|m
 ·exact qs9 ((List.pairwise_append.mp so).2.2 a m _ (List.mem_singleton.mpr rfl)) hl
 ·rw[List.mem_singleton.mp m];exact hl
def prM(r:Row):List Str×D:=(r.1,.str r.2.1)
theorem q3k(rs:List Row)(w:List Str):lkP (rs.map prM) w=(mkAt rs w).map D.str:=by
 unfold lkP mkAt
 rw[List.find?_map,Option.map_map,Option.map_map]
 rfl
def entF(a b:Str)(rest:List Str)(x:Str):Option Row:=(qcm b).bind λw=>if rest=[] then (if a=qa3\/a=qcl\/a=qa5 then some (w,a,tEmpty) else none) else if a=qdg\/(a=qcz/\(qba x).isSome=true) then some (w,a,x) else none
theorem qzn{t:Str}{a b:List Nat}(e:spN 32 2 t.cps.toList=[a,b]):entL t=entF (mkS a) (mkS b) [] tEmpty:=by
 unfold entL parP entF
 rw[e]
 simp only[List.map_cons,List.map_nil]
 generalize mkS a=a
 cases qcm (mkS b) with
|none=>split<;>rfl
|some w =>
  by_cases hm:txM a
  ·rw[if_pos hm]
   show none=(if _ then _ else _:Option Row)
   rw[if_neg]
   rcases hm with q|q<;>(rw[q];decide +kernel)
  ·rw[if_neg hm]
   have n1:a≠qdg:=λq=>hm (.inl q)
   have n2:a≠qcz:=λq=>hm (.inr q)
   show (if fitB (a,tEmpty)=true then some (w,a,tEmpty) else none)=if _ then _ else _
   unfold fitB
   simp[n1,n2]
theorem qsb{t:Str}{a b x:List Nat}(e:spN 32 2 t.cps.toList=[a,b,x]):entL t=entF (mkS a) (mkS b) ((sp 32 x).map mkS) (mkS x):=by
 unfold entL parP entF
 rw[e]
 simp only[List.map_cons,List.map_nil]
 have h0:¬ (sp 32 x).map mkS=[]:=λq=>qq1 32 x (List.map_eq_nil_iff.mp q)
 generalize mkS a=a
 generalize mkS x=x
 cases qcm (mkS b) with
|none=>split<;>rfl
|some w =>
  by_cases hm:txM a
  ·rw[if_pos hm]
   show (if fitB (a,x)=true then some (w,a,x) else none)=if _ then _ else _
   rw[if_neg h0]
   unfold fitB
   rcases hm with q|q
   ·rw[if_pos (by simp[q]),if_pos (.inl q)]
   ·have e1:a≠qdg:=by rw[q];decide +kernel
    have e2:¬ (a=qa3\/a=qcl\/a=qa5):=by rw[q];decide +kernel
    simp[q,e2,show qcz≠qdg by decide +kernel,show ¬ (qcz=qa3\/qcz=qcl\/qcz=qa5) by decide +kernel]
  ·rw[if_neg hm]
   show none=(if _ then _ else _:Option Row)
   rw[if_neg h0,if_neg]
   rintro (q|q)
   ·exact hm (.inl q)
   ·exact hm (.inr q.1)
theorem qzr{i:Nat}{ks:List (List Str)}{ds:List D}{t:TVS}{Dv:VEnds}{τ:VSt}(e:τ[i]?=some (some (.own (.dT ks ds))))(h:t Dv (τ.set i (some (.peek (.dT ks ds))))):qn3 i t Dv τ:=by
 unfold qn3
 rw[e]
 exact h
theorem qoq(ss:List Str)(k:Nat)(z:Str):(ss.take k).map D.str++.str z::(ss.drop k).map D.str=(ss.take k++z::ss.drop k).map D.str:=by rw[List.map_append,List.map_cons]
theorem qsf:∀(ss:List Str) (k:Nat),(ss.map D.str).eraseIdx k=(ss.eraseIdx k).map D.str
|[],_=>rfl
|_::_,0=>rfl
|s::ss,k+1=>by
  show D.str s::(ss.map D.str).eraseIdx k=_
  rw[qsf ss k]
  rfl
theorem qt6(t:Str){p q:Int}(h0:0<=p)(h1:p<=q):(Txt.slice t none (some p)).length+(Txt.slice t (some q) none).length<=t.length:=by
 have e1:(Txt.slice t none (some p)).length=(t.cps.toList.take p.toNat).length:=by
  show (Txt.slice t none (some p)).cps.toList.length=_
  rw[slice_list,show (some p:Option Int)=some ((p.toNat:Nat):Int) by rw[Int.toNat_of_nonneg h0],qhg]
 have e2:(Txt.slice t (some q) none).length=(t.cps.toList.drop q.toNat).length:=by
  show (Txt.slice t (some q) none).cps.toList.length=_
  rw[slice_list,show (some q:Option Int)=some ((q.toNat:Nat):Int) by rw[Int.toNat_of_nonneg (by omega)],qeg]
 have el:t.cps.toList.length=t.length:=rfl
 rw[e1,e2,List.length_take,List.length_drop,el]
 omega
theorem qss{ss:List Str}{k:Nat}{z s:Str}(m:s∈ss.take k++z::ss.drop k):s=z\/s∈ss:=by
 rcases List.mem_append.mp m with m|m
 ·exact .inr (List.mem_of_mem_take m)
 ·exact(List.mem_cons.mp m).imp id List.mem_of_mem_drop
theorem qop(ss:List Str)(k:Nat)(z:Str):(ss.take k++z::ss.drop k).length=ss.length+1:=by
 rw[List.length_append,List.length_cons,List.length_take,List.length_drop]
 omega
theorem qt9{n:Nat}:∀ {ss:List Str},(∀s∈ss,s.length<=n)->(ss.map (·.length)).sum<=n*ss.length
|[],_=>Nat.le_refl _
|s::ss,h=>by
  have:=qt9 λz m=>h z (List.mem_cons_of_mem s m)
  have:=h s (List.mem_cons_self ..)
  rw[List.map_cons,List.sum_cons,List.length_cons,Nat.mul_succ]
  omega
theorem qh9{n:Nat}:∀ {es:List D},(∀e∈es,∃z:Str,z.length<=n/\e=.str z)->∃ss:List Str,es=ss.map D.str/\∀s∈ss,s.length<=n
|[],_=>⟨[],rfl,λs m=>by cases m⟩
|e::es,h=>by
  obtain⟨ss,e1,e2⟩:=qh9 λx m=>h x (List.mem_cons_of_mem e m)
  obtain⟨z,zl,rfl⟩:=h e (List.mem_cons_self ..)
  exact⟨z::ss,by rw[List.map_cons,←e1],λs m=>(List.mem_cons.mp m).elim (λq=>q▸zl) (e2 s)⟩
theorem kd_len{m t:Str}(h:KdOk m t):m.length<=6:=by
 rcases h with q|q|q
 ·rw[q];decide +kernel
 ·rw[q.1];decide +kernel
 ·rcases q.1 with q|q|q<;>(rw[q];decide +kernel)
structure PB(i:Nat)(rs:List Row)(os:List (List Str×Bool)):Prop where
 nd:(rs.map (·.1)).Nodup
 en:∀r∈rs,RowS r
 len:rs.length<=i+1
 oln:os.length<=i+1
 one:os≠[]
 ow:∀p∈os,p.1.length<=38/\∀z∈p.1,nmB z=true
 ze:rs=[]->i=0/\∀p∈os,p.1=[]
theorem PB.start0:PB 0 [] [([],false)]:=⟨List.nodup_nil,λr m=>(by cases m),Nat.zero_le _,Nat.le_refl _,by simp,λp m=>by rw[List.mem_singleton.mp m];exact⟨Nat.zero_le _,λz m=>by cases m⟩,λ_=>⟨rfl,λp m=>by rw[List.mem_singleton.mp m]⟩⟩
theorem PB.start1:PB 0 [([],qa5,tEmpty)] [([],true)]:=⟨by simp,λr m=>by rw[List.mem_singleton.mp m];exact⟨Nat.zero_le _,λz m=>(by cases m),by decide +kernel,by decide +kernel⟩,Nat.le_refl _,Nat.le_refl _,by simp,λp m=>by rw[List.mem_singleton.mp m];exact⟨Nat.zero_le _,λz m=>by cases m⟩,λe=>by cases e⟩
theorem PB.put{i:Nat}{rs:List Row}{os:List (List Str×Bool)}(P:PB i rs os){u:List Str}(hu:u.length<=38/\∀z∈u,nmB z=true){z m t:Str}(hz:nmB z=true)(hl:(u++[z]).length<=38)(nw:u++[z]∉rs.map (·.1))(ht:t.length<=400)(hm:m.length<=6) :
  PB (i+1) (rs++[(u++[z],m,t)]) os/\∀c,PB (i+1) (rs++[(u++[z],m,t)]) (os++[(u++[z],c)]):=by
 have wn:∀y∈u++[z],nmB y=true:=λy my=>(List.mem_append.mp my).elim (hu.2 y) λq=>by rw[List.mem_singleton.mp q];exact hz
 have nd:((rs++[(u++[z],m,t)]).map (·.1)).Nodup:=by
  rw[List.map_append]
  exact List.nodup_append.mpr ⟨P.nd,by simp,λa ma b mb e=>nw (by
   have q:b=u++[z]:=List.mem_singleton.mp mb
   rw[←q,←e]
   exact ma)⟩
 have en:∀r∈rs++[(u++[z],m,t)],RowS r:=λr mr=>(List.mem_append.mp mr).elim (P.en r) λq=>by
  rw[List.mem_singleton.mp q]
  exact⟨hl,wn,hm,ht⟩
 have len:(rs++[(u++[z],m,t)]).length<=i+1+1:=by
  rw[List.length_append,List.length_singleton]
  have:=P.len
  omega
 have oln:=P.oln
 have ze:rs++[(u++[z],m,t)]≠[]:=by simp
 exact⟨⟨nd,en,len,by omega,P.one,P.ow,λe=>absurd e ze⟩,λc=>⟨nd,en,len,by rw[List.length_append,List.length_singleton];omega,by simp,λp mp=>(List.mem_append.mp mp).elim (P.ow p) λq=>by rw[List.mem_singleton.mp q];exact⟨hl,wn⟩,λe=>absurd e ze⟩⟩
theorem PB.stay{i:Nat}{rs:List Row}{os:List (List Str×Bool)}(P:PB i rs os)(h:rs≠[]):PB (i+1) rs os:=⟨P.nd,P.en,Nat.le_succ_of_le P.len,Nat.le_succ_of_le P.oln,P.one,P.ow,λe=>absurd e h⟩
def qg3:TVS:=(vSeq (vIfS (vBl (vOp vLt (vVar 1) (vF1 vLen (vVar 0))))
  (vRet (vOp vIxR (vVar 0) (vVar 1)))
  qaz)
 (vRet (vC (.int 0))))
abbrev qrk:List Str:=["_law_script","_law_k"]
theorem quz:∀ds Q,qa0 ds Q->qg3 (En Q) (qat qrk ds):=by
 rintro ds Q ⟨ns,k,rfl,h0,h⟩
 simp! only[vSeq,qg3]
 split
 ·rename_i c
  obtain⟨v,hv,hv2⟩:=qce (xs:=ns) h0 (of_decide_eq_true c)
  unfold qze at h
  rw[hv2] at h
  exact⟨v,hv,h⟩
 ·rename_i c
  have hn:ns[k.toNat]?=none:=List.getElem?_eq_none (by have:=of_decide_eq_false (Bool.eq_false_iff.mpr c);omega)
  unfold qze at h
  rw[hn] at h
  exact h
def qru:TVS:=(vSeq (vSet 3 (vTup (qab (vC (.int 48271)) (qab (vC (.int 69621)) (qab (vC (.int 16807)) (qab (vC (.int 39373)) (qab (vC (.int 21401)) (qab (vC (.int 60493)) (qab (vC (.int 87721)) (qab (vC (.int 31337)) vNil))))))))))
 (vSeq (vSet 4 (vTup (qab (vC (.int 99991)) (qab (vC (.int 99989)) (qab (vC (.int 99971)) (qab (vC (.int 99961)) (qab (vC (.int 99929)) (qab (vC (.int 99923)) (qab (vC (.int 99907)) (qab (vC (.int 99901)) vNil))))))))))
 (vRet (vOp vMod (vOp vMod (vOp vMul (vOp vAdd (vOp vMod (vVar 0) (vOp vPow (vC (.int 10)) (vC (.int 18)))) (vC (.int 1))) (vOp vIxR (vVar 3) (vOp vMod (vVar 1) (vC (.int 8))))) (vOp vIxR (vVar 4) (vOp vMod (vVar 1) (vC (.int 8))))) (vVar 2)))))
abbrev qy7:List Str:=["_law_cell","_law_turn","_law_many","_law_by","_law_prime"]
def mxA:List Int:=[48271,69621,16807,39373,21401,60493,87721,31337]
def mxB:List Int:=[99991,99989,99971,99961,99929,99923,99907,99901]
theorem q2k:∀ds Q,qap ds Q->qru (En Q) (qat qy7 ds):=by
 rintro ds Q ⟨c,t,m,rfl,h0,hm,h⟩
 refine v_cut (λτ=>τ=[some (.val (.int c)),some (.val (.int t)),some (.val (.int m)),some (.val (.tup (mxA.map D.int))),none]) ?_ λnx hnx=>?now
 case now =>
  rfl'
  exact⟨by decide,hnx _ rfl⟩
 rintro τ rfl
 refine v_cut (λτ=>τ=[some (.val (.int c)),some (.val (.int t)),some (.val (.int m)),some (.val (.tup (mxA.map D.int))),some (.val (.tup (mxB.map D.int)))]) ?_ λnx hnx=>?now
 case now =>
  rfl'
  exact⟨by decide,hnx _ rfl⟩
 rintro τ rfl
 have q0:=Int.emod_nonneg t (show (8:Int)≠0 by decide)
 have q1:=Int.emod_lt_of_pos t (show (0:Int)<8 by decide)
 obtain⟨a,ha,ha2⟩:=qce (xs:=mxA) (k:=t%8) q0 q1
 obtain⟨b,hb,hb2⟩:=qce (xs:=mxB) (k:=t%8) q0 q1
 have ba:∀x∈mxA,0<=x/\x<100000:=by decide
 have bb:∀x∈mxB,0<x:=by decide
 have a1:=ba a (List.mem_of_getElem? ha2)
 have b1:=bb b (List.mem_of_getElem? hb2)
 have hA:∀Y:R->Prop,Y (.val (.int (c%10 ^ Int.toNat 18+1)))->vOp vAdd (vOp vMod (vVar 0) (vOp vPow (vC (.int 10)) (vC (.int 18)))) (vC (.int 1)) [some (.val (.int c)),some (.val (.int t)),some (.val (.int m)),some (.val (.tup (mxA.map D.int))),some (.val (.tup (mxB.map D.int)))] Y:=λY y=>by
  rfl'
  exact⟨⟨by decide,by decide,by decide⟩,by decide,y⟩
 have hB:∀Y:R->Prop,Y (.val (.int a))->vOp vIxR (vVar 3) (vOp vMod (vVar 1) (vC (.int 8))) [some (.val (.int c)),some (.val (.int t)),some (.val (.int m)),some (.val (.tup (mxA.map D.int))),some (.val (.tup (mxB.map D.int)))] Y:=λY y=>by
  rfl'
  exact⟨.int a,by rw[qb5,ha];rfl,y⟩
 have hC:∀Y:R->Prop,Y (.val (.int b))->vOp vIxR (vVar 4) (vOp vMod (vVar 1) (vC (.int 8))) [some (.val (.int c)),some (.val (.int t)),some (.val (.int m)),some (.val (.tup (mxA.map D.int))),some (.val (.tup (mxB.map D.int)))] Y:=λY y=>by
  rfl'
  exact⟨.int b,by rw[qb5,hb];rfl,y⟩
 exact hA _ (hB _ ⟨.inr ⟨by omega,by omega⟩,hC _ ⟨b1,hm,h _ (Int.emod_nonneg _ (by omega)) (Int.emod_lt_of_pos _ hm) λe=>by
  subst e
  have e1:a=48271:=by simpa [mxA] using ha2.symm
  have e2:b=99991:=by simpa [mxB] using hb2.symm
  rw[e1,e2,show Int.toNat 18=18 from rfl]⟩⟩)
def qg9:TVS:=(vSeq (vSet 1 (vC (.str ("abcdefghijklmnopqrstuvwxyz0123456789" : Str))))
 (vSeq (vSet 2 (vOp vAdd (vC (.int 1)) (vOp vMod (vVar 0) (vC (.int 12)))))
 (vSeq (vSet 3 (vOp vMod (vOp vDiv (vVar 0) (vC (.int 12))) (vVar 2)))
 (vSeq (vSet 4 (vOp vDiv (vVar 0) (vC (.int 288))))
 (vSeq (vSet 5 (vC (.str ("" : Str))))
 (vSeq (vFor (qiu (vVar 2)) (qa1 6)
  (vIfS (qe4 (vBl (vOp vEq (vOp vMod (vOp vDiv (vVar 0) (vC (.int 144))) (vC (.int 2))) (vC (.int 0)))) (vBl (vOp vNeD (vVar 6) (vVar 3))))
  (vSet 5 (vOp vAdd (vVar 5) (vOp vIxR (vVar 1) (vOp vMod (vOp vDiv (vVar 0) (vC (.int 10368))) (vC (.int 36))))))
  (vSeq (vSet 5 (vOp vAdd (vVar 5) (vOp vIxR (vVar 1) (vOp vMod (vVar 4) (vC (.int 36))))))
 (vSet 4 (vOp vDiv (vVar 4) (vC (.int 36)))))))
 (vRet (vVar 5))))))))
abbrev qrp:List Str:=["_law_cell","_law_signs","_law_size","_law_spot","_law_mixed_here","_law_name","_law_k"]
theorem q7g(c:Int):∃d,atI NS.cps.toList (c%36)=some d/\d∈NS.cps.toList:=by
 have e:(NS.cps.toList.length:Int)=36:=by decide +kernel
 obtain⟨d,hd,h2⟩:=qce (xs:=NS.cps.toList) (k:=c%36) (Int.emod_nonneg _ (by decide)) (by
  rw[e]
  exact Int.emod_lt_of_pos _ (by decide))
 exact⟨d,hd,List.mem_of_getElem? h2⟩
theorem qu4:∀ds Q,qbn ds Q->qg9 (En Q) (qat qrp ds):=by
 rintro ds Q ⟨c,rfl,h⟩
 simp! only[vSeq,qg9]
 have hm0:0<=c%12:=Int.emod_nonneg _ (by decide)
 have hm1:c%12<12:=Int.emod_lt_of_pos _ (by decide)
 refine⟨by omega,by omega,by omega,qhj (λi τ=>∃(m:Int) (z:Str) (kv:Option R),z.length=i/\(∀y∈z.cps.toList,y∈NS.cps.toList)/\τ=[some (.val (.int c)),some (.val (.str NS)),some (.val (.int (1+c%12))),some (.val (.int (c / 12%(1+c%12)))),some (.val (.int m)),some (.val (.str z)),kv]) ?_ ?_ ?_⟩
 ·exact⟨_,_,_,rfl,by decide +kernel,rfl⟩
 ·rintro i τ hi ⟨m,z,kv,hl,h46,rfl⟩ nx hnx
  simp! only[vSeq,true_and]
  have hz:z.length+1<=sizeLine:=Nat.le_trans (by omega) qb4
  have hs:NS.length<=sizeLine:=by decide +kernel
  have fin:∀k m' kv',NS.length<=sizeLine/\∃v,atI NS.cps.toList (k%36)=some v/\z.length+PySem.Str.length ⟨#[v]⟩<=sizeLine/\nx [some (.val (.int c)),some (.val (.str NS)),some (.val (.int (1+c%12))),some (.val (.int (c / 12%(1+c%12)))),some (.val (.int m')),some (.val (.str (z++⟨#[v]⟩))),kv']:=λk m' kv'=>by
   obtain⟨v,hv,ne⟩:=q7g k
   refine⟨hs,v,hv,hz,hnx _ ⟨m',_,kv',by rw[PySem.Str.length_append,hl];rfl,λy hy=>?_,rfl⟩⟩
   have hy':y∈(z.cps++#[v]).toList:=hy
   simp only[Array.toList_append,List.mem_append,List.mem_singleton] at hy'
   rcases hy' with q|rfl
   ·exact h46 y q
   ·exact ne
  split
  ·split
   ·exact fin _ _ _
   ·exact fin _ _ _
  ·exact fin _ _ _
 ·rintro τ ⟨m,z,kv,hl,h46,rfl⟩
  simp! only[vSeq,true_and]
  refine h z ?_
  unfold nmB nmL
  have e2:z.cps.toList.length=z.length:=rfl
  rw[decide_eq_true (by omega:1<=z.cps.toList.length),decide_eq_true (by omega:z.cps.toList.length<=12),Bool.and_self,Bool.true_and,List.all_eq_true]
  exact λy hy=>decide_eq_true (h46 y hy)
def qmq:TVS:=(vRet (qeo (qiu (vVar 3)) (qa1 4) (λ_ Q=>Q true) (vOp vAdd (qaj qa0 (qab (vVar 0) (qab (vOp vAdd (vVar 1) (vOp vMul (vVar 2) (vVar 4))) vNil))) (vVar 4)) 1))
abbrev qy5:List Str:=["_law_script","_law_first","_law_step","_law_many"]
theorem q2i:∀ds Q,qf5 ds Q->qmq (En Q) (qat qy5 ds):=by
 rintro ds Q ⟨ns,a,b,m,rfl,h0,h1,h2,h3,h⟩
 simp! only[vSeq,qmq]
 refine⟨by omega,by omega,?_⟩
 refine qof (f:=λi:Nat=>D.int (0+i)) (λd=>∃z:Int,d=.int z) (List.range m.toNat) (by rw[List.length_range];exact Nat.le_trans (show _<=1000 by omega) qb4) (λk hk Y N hY=>?_) λes hl he=>?_
 ·simp! only[vSeq,qa0]
  have:=List.mem_range.mp hk
  refine⟨.inr ⟨by omega,by omega⟩,?_,hY _ ⟨_,rfl⟩⟩
  have:=Int.mul_nonneg h1 (Int.natCast_nonneg k)
  omega
 ·obtain⟨cs,rfl⟩:=qor es he
  simp! only[vSeq,true_and]
  rw[List.length_map,List.length_range] at hl
  exact h cs hl
def qg4:TVS:=(vSeq (vIfS (qdr (vBl (qkj .str (vVar 0))))
  (vRet (vC (.bl false)))
  qaz)
 (vSeq (vIfS (qdr (vBl (qic vLe vLe (vC (.int 1)) (vF1 vLen (vVar 0)) (vC (.int 12)))))
  (vRet (vC (.bl false)))
  qaz)
 (vRet (vF1 (vAll λbs=>bs.all id) (qeo (qck (vVar 0)) (qa1 1) (λ_ Q=>Q true) (vOp (vIn id) (vVar 1) (vC (.str ("abcdefghijklmnopqrstuvwxyz0123456789" : Str)))) 1)))))
abbrev qrl:List Str:=["thing"]
theorem qu0:∀ds Q,qbl ds Q->qg4 (En Q) (qat qrl ds):=by
 rintro ds Q ⟨z,rfl,hz,h⟩
 have sz:z.length<=sizeLine:=Nat.le_trans hz (by decide)
 unfold nmB nmL at h
 have el:z.cps.toList.length=z.length:=rfl
 rw[el] at h
 simp! only[vSeq,qg4]
 refine⟨sz,?_⟩
 by_cases h1:1<=z.length
 ·rw[decide_eq_true (by omega:1<=(z.length:Int))]
  refine iteT ?_
  rw[decide_eq_true h1,Bool.true_and] at h
  by_cases h2:z.length<=12
  ·rw[decide_eq_true (by omega:(z.length:Int)<=12)]
   refine iteF ?_
   rw[decide_eq_true h2,Bool.true_and] at h
   refine qc6 (λc=>.bl (decide (c∈NS.cps.toList))) z.cps.toList (Nat.le_trans (Nat.le_of_eq el) sz) (λc _ Y N hY=>?_) ?_
   ·simp! only[vSeq,true_and]
    show Y (.val (.bl (!(Builtin.Str.occurrences NS ⟨#[c]⟩ 0 NS.length 1).isEmpty)))
    rw[q6j]
    exact hY
   ·simp! only[vSeq,true_and]
    refine⟨z.cps.toList.map λc=>decide (c∈NS.cps.toList),?_,?_⟩
    ·rw[List.map_map]
     rfl
    ·rw[List.all_map]
     exact h
  ·rw[decide_eq_false (by omega:¬ (z.length:Int)<=12)]
   rw[decide_eq_false h2,Bool.false_and] at h
   exact iteT h
 ·rw[decide_eq_false (by omega:¬ 1<=(z.length:Int))]
  rw[decide_eq_false h1,Bool.false_and,Bool.false_and] at h
  exact iteF h
def qg5:TVS:=(vRet (vOrE (vOp (vIn id) (vVar 0) (vTup (qab (vC (.str ("." : Str))) (qab (vC (.str (".." : Str))) vNil)))) (qaj qbl (qab (vVar 0) vNil))))
abbrev qrn:List Str:=["text"]
theorem qu2:∀ds Q,qdf ds Q->qg5 (En Q) (qat qrn ds):=by
 rintro ds Q ⟨z,rfl,hz,h⟩
 unfold wdB at h
 simp! only[vSeq,qg5,qbl]
 refine⟨by decide,?_⟩
 show if decide (z∈[(".": Str),".."])=true then _ else _
 by_cases hm:z∈[(".": Str),".."]
 ·rw[decide_eq_true hm] at h ⊢
  exact iteT h
 ·rw[decide_eq_false hm] at h ⊢
  exact iteF ⟨hz,h⟩
def qf3:TVS:=(vSeq (vIfS (vBl (vOp vEq (vVar 0) (vC (.str ("/" : Str)))))
  (vRet (vTup (qab (vC (.bl true)) (qab (vLst vNil) vNil))))
  qaz)
 (vSeq (vSet 1 (qkm (vVar 0) (vC (.str ("/" : Str)))))
 (vSeq (vSet 2 (qgs (vIfE (vBl (vVar 1)) (qcn (vVar 0) (qeb (vC (.int 1))) qbp) (vVar 0)) (vC (.str ("/" : Str)))))
 (vSeq (vIfS (vOrT (vBl (vOp vGt (vF1 vLen (vVar 2)) (vC (.int 40)))) (qdr (vBl (vF1 (vAll λbs=>bs.all id) (qeo (qck (vVar 2)) (qa1 3) (λ_ Q=>Q true) (qaj qdf (qab (vVar 3) vNil)) 1)))))
  (qgr "NoWay" (qab (vVar 0) vNil))
  qaz)
 (vRet (vTup (qab (vVar 1) (qab (vVar 2) vNil))))))))
abbrev qp4:List Str:=["text","rooted","words"]
theorem ifT{c:Prop}[Decidable c]{p q:Prop}(h:c)(hp:p):if c then p else q:=by rw[if_pos h];exact hp
theorem ifF{c:Prop}[Decidable c]{p q:Prop}(h:¬ c)(hq:q):if c then p else q:=by rw[if_neg h];exact hq
theorem qvd(z:Str):(wsW z).length<=z.length+1/\∀w∈wsW z,w.length<=z.length:=by
 have el:z.cps.toList.length=z.length:=rfl
 have key:∀l:List Nat,l.length<=z.length->((sp 47 l).map mkS).length<=z.length+1/\∀w∈(sp 47 l).map mkS,w.length<=z.length:=λl hl=>by
  have:=qph 47 l
  refine⟨by rw[List.length_map];omega,λw hw=>?_⟩
  obtain⟨p,hp,rfl⟩:=List.mem_map.mp hw
  rw[qb6]
  exact Nat.le_trans (qkg 47 l p hp) hl
 unfold wsW
 split
 ·exact key _ (by rw[List.length_drop];omega)
 ·exact key _ (Nat.le_of_eq el)
theorem qrh:∀ds Q,qby ds Q->qf3 (EnX Q) (qat qp4 ds):=by
 rintro ds Q ⟨z,rfl,hz,hy,hn⟩
 have sz:z.length<=sizeLine:=Nat.le_trans hz (by decide)
 have el:z.cps.toList.length=z.length:=rfl
 unfold qba at hy hn
 obtain⟨w1,w2⟩:=qvd z
 refine qfe ?_
 dsimp! only[qf3]
 by_cases h0:z="/"
 ·rw[decide_eq_true h0]
  exact iteT ⟨by decide,hy true [] (by rw[if_pos h0])⟩
 rw[decide_eq_false h0]
 rw[if_neg h0] at hy hn
 refine iteF ?_
 refine qfe ?_
 rfl'
 have hr:Txt.startswith z "/" = rt z:=by rw[qqz,qq2];rfl
 rw[hr]
 have sl:("/" : Str).length=1:=by decide +kernel
 have rest:vSeq
   (vIfS (vOrT (vBl (vOp vGt (vF1 vLen (vVar 2)) (vC (.int 40)))) (qdr (vBl (vF1 (vAll λbs=>bs.all id) (qeo (qck (vVar 2)) (qa1 3) (λ_ Q=>Q true) (qaj qdf (qab (vVar 3) vNil)) 1)))))
    (qgr "NoWay" (qab (vVar 0) vNil)) qaz)
   (vRet (vTup (qab (vVar 1) (qab (vVar 2) vNil)))) (EnX Q) [some (.val (.str z)),some (.val (.bl (rt z))),some (.val (.lst ((wsW z).map D.str)))]:=by
  refine qfe ?_
  rfl'
  have one:1<=sizeLine:=by decide
  by_cases hl:(wsW z).length<=40
  ·rw[decide_eq_false (by omega:¬ 40<((wsW z).length:Int))]
   refine iteF ?_
   refine qc6 (λw=>.bl (wdB w)) (wsW z) (Nat.le_trans hl (by decide)) (λw hw Y N hY=>?_) ?_
   ·simp! only[vSeq,qdf]
    exact⟨Nat.le_trans (w2 w hw) hz,hY⟩
   ·simp! only[vSeq,true_and]
    refine⟨(wsW z).map wdB,by rw[List.map_map];rfl,?_⟩
    rw[List.all_map]
    show if (!(wsW z).all wdB)=true then _ else _
    by_cases ha:(wsW z).all wdB=true
    ·rw[ha]
     refine iteF ⟨by decide,hy _ _ (by rw[if_pos ⟨hl,ha⟩])⟩
    ·rw[Bool.eq_false_iff.mpr ha]
     exact iteT ⟨one,hn (by rw[if_neg (λq=>ha q.2)])⟩
  ·rw[decide_eq_true (by omega:40<((wsW z).length:Int))]
   exact iteT ⟨one,hn (by rw[if_neg (λq=>hl q.1)])⟩
 have hws:(wsW z).length<=sizeLine:=Nat.le_trans w1 (Nat.le_trans (by omega) (show 50001<=sizeLine by decide))
 refine qfe ?_
 rfl'
 by_cases hrt:rt z=true
 ·have e:Txt.split (Txt.slice z (some 1) none) "/" = wsW z:=by
   rw[qqz,qfs _ (by decide),slice_list]
   unfold wsW
   rw[if_pos hrt,show (some 1:Option Int)=some ((1:Nat):Int) from rfl,qeg]
  refine ifT hrt ⟨sz,by rw[sl];rfl,Nat.le_trans (Txt.slice_le z _ _) sz,by rw[e];exact hws,?_⟩
  rw[e]
  exact rest
 ·have e:Txt.split z "/" = wsW z:=by
   rw[qqz,qfs _ (by decide)]
   unfold wsW
   rw[if_neg hrt]
  refine ifF hrt ⟨by rw[sl];rfl,sz,by rw[e];exact hws,?_⟩
  rw[e]
  exact rest
def qmp:TVS:=(vRet (qcn (vVar 0) qbp (qeb (vNeg (vC (.int 1))))))
abbrev qy4:List Str:=["way"]
theorem q2h:∀ds Q,qe8 ds Q->qmp (En Q) (qat qy4 ds):=by
 rintro ds Q ⟨w,rfl,h⟩
 simp! only[vSeq,qmp,wayD]
 rw[qfj]
 exact h
def qd1:TVS:=(vSeq (vTry (qq8 (qib qby (qab (vVar 0) vNil)))
  (quq ["NoWay"] ["NoRow"] (vRet (vC (.bl false))) qur))
 (vRet (vC (.bl true))))
abbrev qjd:List Str:=["text"]
theorem qkt:∀ds Q,qbw ds Q->qd1 (En Q) (qat qjd ds):=by
 rintro ds Q ⟨t,rfl,ht,h⟩
 have lw:∀Y:R->Prop,(∀r ws,qba t=some (r,ws)->Y (.val (.tup [.bl r,qbz ws])))->(qba t=none->Y (.exc "NoWay"))->qby [.str t] Y:=λY y1 y2=>⟨t,rfl,ht,y1,y2⟩
 refine qfe ?_
 dsimp! only[qd1]
 refine lw _ (λr ws e=>?_) λe=>?_
 ·rw[e] at h
  rfl'
  exact h
 ·rw[e] at h
  rfl'
  refine .inl ⟨by decide,?_⟩
  rfl'
  exact h
def qxx:TVS:=(vSeq (vIfS (vBl (vOp vEq (vVar 0) (vC (.str ("file" : Str)))))
  (vRet (vC (.bl true)))
  qaz)
 (vSeq (vIfS (vBl (vOp vEq (vVar 0) (vC (.str ("link" : Str)))))
  (vRet (qaj qbw (qab (vVar 1) vNil)))
  qaz)
 (vRet (qit (vOp (vIn id) (vVar 0) (vC (.kt [("folder" : Str),("gone" : Str),("shut" : Str)]))) (vOp vEq (vVar 1) (vC (.str ("" : Str))))))))
abbrev q2o:List Str:=["mark","text"]
theorem q55:∀ds Q,qiw ds Q->qxx (En Q) (qat q2o ds):=by
 rintro ds Q ⟨m,t,rfl,tl,h⟩
 have lw:∀Y:R->Prop,Y (.val (.bl (qba t).isSome))->qbw [.str t] Y:=λY y=>⟨t,rfl,tl,y⟩
 unfold fitB at h
 refine qbt (λb=>b=decide (m=qdg)) (λY y=>?t1) (λhb=>?y1) λhb=>?n1
 case t1 =>
  rfl'
  exact y _ rfl
 case y1 =>
  rfl'
  rw[show decide ((m,t).1=qdg)=true from hb.symm,Bool.true_or,Bool.true_or] at h
  exact h
 case n1 =>
 rw[show decide ((m,t).1=qdg)=false from hb.symm,Bool.false_or] at h
 refine qbt (λb=>b=decide (m=qcz)) (λY y=>?t2) (λhb=>?y2) λhb=>?n2
 case t2 =>
  rfl'
  exact y _ rfl
 case y2 =>
  have em:=of_decide_eq_true hb.symm
  rw[show decide ((m,t).1=qcz)=true from hb.symm,Bool.true_and,decide_eq_false (show ¬ ((m,t).1=qa3\/(m,t).1=qcl\/(m,t).1=qa5) by show ¬ (m=_\/m=_\/m=_);rw[em];decide +kernel),Bool.false_and,Bool.or_false] at h
  rfl'
  refine lw _ ?_
  rfl'
  exact h
 case n2 =>
  rw[show decide ((m,t).1=qcz)=false from hb.symm,Bool.false_and,Bool.false_or] at h
  rfl'
  by_cases q:m=qa3\/m=qcl\/m=qa5
  ·rw[show decide ((m,t).1=qa3\/(m,t).1=qcl\/(m,t).1=qa5)=true from decide_eq_true q,Bool.true_and] at h
   have hm:m∈[Str.ofString "folder",Str.ofString "gone",Str.ofString "shut"]:=by
    rcases q with e|e|e<;>(rw[e];decide)
   rw[id,if_pos (decide_eq_true hm)]
   exact h
  ·rw[show decide ((m,t).1=qa3\/(m,t).1=qcl\/(m,t).1=qa5)=false from decide_eq_false q,Bool.false_and] at h
   have hm:¬ m∈[Str.ofString "folder",Str.ofString "gone",Str.ofString "shut"]:=λz=>q (by
    simp only[List.mem_cons,List.not_mem_nil,or_false] at z
    exact z)
   rw[id,if_neg (by rw[decide_eq_false hm];decide)]
   exact h
def qfy:TVS:=(vRet (qit (vF1 (vAll λbs=>bs.all id) (qeo (qck (vVar 0)) (qa1 3) (λ_ Q=>Q true) (qaj qbl (qab (vVar 3) vNil)) 1)) (qaj qiw (qab (vVar 1) (qab (vVar 2) vNil)))))
abbrev qpz:List Str:=["way","mark","text"]
theorem qrc:∀ds Q,qc9 ds Q->qfy (En Q) (qat qpz ds):=by
 rintro ds Q ⟨r,rfl,G,h⟩
 have wl:=G.wl
 have ln:∀(z:Str) (Y:R->Prop),z.length<=50000->Y (.val (.bl (nmB z)))->qbl [.str z] Y:=λz Y hz y=>⟨z,rfl,hz,y⟩
 have lf:∀Y:R->Prop,Y (.val (.bl (fitB r.2)))->qiw [.str r.2.1,.str r.2.2] Y:=λY y=>⟨r.2.1,r.2.2,rfl,G.tl,y⟩
 unfold entB at h
 dsimp! only[qfy,wayD]
 refine qc6 (λz=>.bl (nmB z)) r.1 (Nat.le_trans (show _<=60000 by omega) qch) (λz mz Y N hY=>?_) ?_
 ·rfl'
  refine ln z _ (G.zl z mz) ?_
  rfl'
  exact hY
 ·rfl'
  refine⟨r.1.map nmB,by rw[List.map_map];rfl,?_⟩
  rw[all_map]
  cases e:r.1.all nmB with
 |false =>
   rw[e,Bool.false_and] at h
   exact iteF h
 |true =>
   rw[e,Bool.true_and] at h
   refine iteT ?_
   refine lf _ ?_
   rfl'
   exact h
def qfh:TVS:=(vSeq (vSet 1 (vF1 (vAll λbs=>bs.all id) (qeo (vZip (qab (vVar 0) (qab (qcn (vVar 0) (qeb (vC (.int 1))) qbp) vNil))) (qkp 2 (qco (qa1 2) (qco (qa1 3) qko))) (λ_ Q=>Q true) (vOp vLtD (vOp vIxR (vVar 2) (vC (.int 0))) (vOp vIxR (vVar 3) (vC (.int 0)))) 2)))
 (vRet (qit (vVar 1) (vF1 (vAll λbs=>bs.all id) (qeo (qck (vVar 0)) (qkp 3 (qco (qa1 2) (qco (qa1 3) (qco (qa1 4) qko)))) (λ_ Q=>Q true) (qaj qc9 (qab (vVar 2) (qab (vVar 3) (qab (vVar 4) vNil)))) 3)))))
abbrev qjc:List Str:=["entries","rising"]
theorem qks:∀ds Q,qbu ds Q->qfh (En Q) (qat qjc ds):=by
 rintro ds Q ⟨ts,rfl,hlen,hG,h⟩
 have le:∀(r:Row) (Y:R->Prop),r∈ts->Y (.val (.bl (entB r)))->qc9 [wayD r.1,.str r.2.1,.str r.2.2] Y:=λr Y mr y=>⟨r,rfl,hG r mr,y⟩
 unfold areB at h
 refine v_cut (λτ=>τ=[some (.val (qax ts)),some (.val (.bl (risB ts)))]) ?_ λnx hnx=>?now
 case now =>
  dsimp! only[qax]
  rw[show (some 1:Option Int)=some ((1:Nat):Int) from rfl,qeg,zip_rows]
  refine qc6 (λp:Row×Row=>.bl (ltW p.1.1 p.2.1)) (ts.zip (ts.drop 1)) (Nat.le_trans (show _<=60000 by rw[List.length_zip];omega) qch) (λpq mp Y N hY=>?_) ?_
  ·dsimp! only[rowD,wayD]
   refine⟨qo8 pq.1.1 pq.2.1,depW pq.1.1,?_⟩
   rw[show ltD (D.tup (pq.1.1.map D.str)) (D.tup (pq.2.1.map D.str))=ltW pq.1.1 pq.2.1 from qdq pq.1.1 pq.2.1]
   exact hY
  ·rfl'
   refine⟨(ts.zip (ts.drop 1)).map λp=>ltW p.1.1 p.2.1,by rw[List.map_map];rfl,?_⟩
   rw[all_map,qt2]
   exact hnx _ rfl
 rintro τ rfl
 cases e:risB ts with
|false =>
  rw[e,Bool.false_and] at h
  dsimp! only[qax]
  exact h
|true =>
  rw[e,Bool.true_and] at h
  dsimp! only[qax]
  refine qc6 (λr:Row=>.bl (entB r)) ts (Nat.le_trans (show _<=60000 by omega) qch) (λr mr Y N hY=>?_) ?_
  ·dsimp! only[rowD]
   refine le r _ mr ?_
   rfl'
   exact hY
  ·rfl'
   refine⟨ts.map entB,by rw[List.map_map];rfl,?_⟩
   rw[all_map]
   exact h
def qg8:TVS:=(vSeq (vIfS (vBl (vOp vEq (vVar 0) (vTup vNil)))
  (vRet (vOp vEq (vVar 1) (vC (.str ("shut" : Str)))))
  qaz)
 (vSeq (vIfS (vBl (vOp (vIsN id) (vVar 2) (vC .non)))
  (vRet (vC (.bl false)))
  qaz)
 (vRet (vOrE (vOp (vIn id) (vVar 1) (vC (.kt [("file" : Str),("link" : Str),("folder" : Str)]))) (qui (vVar 2))))))
abbrev qmk:List Str:=["way","mark","shut_above"]
theorem qn7:∀ds Q,qcr ds Q->qg8 (En Q) (qat qmk ds):=by
 rintro ds Q ⟨r,c,rfl,h⟩
 unfold mayB at h
 refine qbt (λb=>b=decide (r.1=[])) (λY y=>?t1) (λhb=>?y1) λhb=>?n1
 case t1 =>
  dsimp! only[wayD]
  refine⟨cmpW r.1 [],depW r.1,?_⟩
  rw[show D.tup []=D.tup (([]:List Str).map D.str) from rfl]
  simp only[eqW]
  exact y _ rfl
 case y1 =>
  rw[if_pos (of_decide_eq_true hb.symm)] at h
  rfl'
  exact h
 case n1 =>
  rw[if_neg (of_decide_eq_false hb.symm)] at h
  cases c with
 |none =>
   refine qbt (λb=>b=true) (λY y=>?t2) (λ_=>?y2) λhb=>by cases hb
   case t2 =>
    dsimp! only[optD]
    exact y _ rfl
   case y2 =>
    rfl'
    exact h
 |some c =>
   refine qbt (λb=>b=false) (λY y=>?t3) (λhb=>by cases hb) λ_=>?n3
   case t3 =>
    dsimp! only[optD]
    exact y _ rfl
   case n3 =>
    dsimp! only[optD]
    have h:Q (.val (.bl (trB r.2.1||!c))):=h
    have et:trB r.2.1=decide (r.2.1∈[Str.ofString "file",Str.ofString "link",Str.ofString "folder"]):=by
     unfold trB
     refine decide_eq_decide.mpr ?_
     simp only[List.mem_cons,List.not_mem_nil,or_false]
     try exact Iff.rfl
    rw[et] at h
    rw[id]
    by_cases hm:r.2.1∈[Str.ofString "file",Str.ofString "link",Str.ofString "folder"]
    ·rw[decide_eq_true hm,Bool.true_or] at h
     rw[if_pos (decide_eq_true hm)]
     exact h
    ·rw[decide_eq_false hm,Bool.false_or] at h
     rw[if_neg (by rw[decide_eq_false hm];decide)]
     exact h
theorem qvw(w:List Str):lkP [([],.bl false)] w=(S0 w).map D.bl:=by
 unfold lkP S0
 by_cases e:([]:List Str)=w
 ·rw[List.find?_cons_of_pos (by simpa using e),if_pos e.symm]
  rfl
 ·rw[List.find?_cons_of_neg (by simpa using e),if_neg (Ne.symm e)]
  rfl
def qky:TVS:=(vSeq (vIfS (qdr (vBl (qaj qbu (qab (vVar 0) vNil))))
  (vRet (vC (.bl false)))
  qaz)
 (vSeq (qgu 1 (qpm (vTup vNil) (vC (.bl false))))
 (vSeq (vFor (qck (vVar 0)) (qkp 3 (qco (qa1 2) (qco (qa1 3) (qco (qa1 4) qko))))
  (vSeq (vIfS (qdr (vBl (qaj qcr (qab (vVar 2) (qab (vVar 3) (qab (qpl (vVar 1) (qaj qe8 (qab (vVar 2) vNil))) vNil))))))
  (vRet (vC (.bl false)))
  qaz)
 (vIfS (vBl (vOp (vIn id) (vVar 3) (vTup (qab (vC (.str ("folder" : Str))) (qab (vC (.str ("shut" : Str))) vNil)))))
  (qn2 1 (vVar 2) (vOrE (vOp vEq (vVar 3) (vC (.str ("shut" : Str)))) (qge (vVar 1) (qaj qe8 (qab (vVar 2) vNil)))))
  qaz)))
 (vRet (vC (.bl true))))))
abbrev qrm:List Str:=["entries","shut_under","way","mark","text"]
theorem qu1:∀ds Q,qdv ds Q->qky (En Q) (qat qrm ds):=by
 rintro ds Q ⟨ts,rfl,hlen,hG,h⟩
 have la:∀Y:R->Prop,Y (.val (.bl (areB ts)))->qbu [qax ts] Y:=λY y=>⟨ts,rfl,hlen,hG,y⟩
 have ab:∀(w:List Str) (Y:R->Prop),Y (.val (wayD w.dropLast))->qe8 [wayD w] Y:=λw Y y=>⟨w,rfl,y⟩
 have ms:∀(r:Row) (c:Option Bool) (Y:R->Prop),Y (.val (.bl (mayB r c)))->qcr [wayD r.1,.str r.2.1,optD c] Y:=λr c Y y=>⟨r,c,rfl,y⟩
 unfold qiq at h
 refine qbt (λb=>b=!areB ts) (λY y=>?t1) (λhb=>?y1) λhb=>?n1
 case t1 =>
  rfl'
  refine la _ ?_
  rfl'
  exact y _ rfl
 case y1 =>
  rw[qf8 hb,Bool.false_and] at h
  rfl'
  exact h
 case n1 =>
 have ar:=qe9 hb
 rw[ar,Bool.true_and] at h
 have nme:∀r∈ts,("" : Str)∉r.1:=λr mr m=>by
  unfold areB at ar
  rw[Bool.and_eq_true,List.all_eq_true] at ar
  have:=ar.2 r mr
  unfold entB at this
  rw[Bool.and_eq_true,List.all_eq_true] at this
  exact qri (qjx (this.1 _ m)) rfl
 refine v_cut (λτ=>τ=[some (.val (qax ts)),some (.own (qbf [([],.bl false)])),none,none,none]) ?_ λnx hnx=>?now
 case now =>
  rfl'
  exact⟨[],rfl,by decide,hnx _ rfl⟩
 rintro τ rfl
 refine v_cut (λτ=>qhx S0 ts=true) (λτ q=>?_) λnx hnx=>?nwb
 case nwb =>
  dsimp! only[qax]
  refine qe7 (λi τ=>∃(ps:List (List Str×D)) (S:List Str->Option Bool) (a b c:Option R),(∀w,lkP ps w=(S w).map D.bl)/\ps.length<=i+1/\qhx S0 ts=qhx S (ts.drop i)/\τ=[some (.val (qax ts)),some (.own (qbf ps)),a,b,c]) ⟨_,S0,none,none,none,qvw,Nat.le_refl _,rfl,rfl⟩ ?_ ?_
  ·rintro i r τ hi ⟨ps,S,a,b,c,L,pl,ep,rfl⟩ nx2 hnx2
   have mr:=List.mem_of_getElem? hi
   obtain⟨li,eli⟩:=List.getElem?_eq_some_iff.mp hi
   have ed:ts.drop i=r::ts.drop (i+1):=by rw[List.drop_eq_getElem_cons li,eli]
   rw[ed] at ep
   have ep:qhx S0 ts=(mayB r (S r.1.dropLast)&&qhx (qfm S r) (ts.drop (i+1))):=ep
   have ne:=nme r mr
   have ne0:("" : Str)∉r.1.dropLast:=λm=>ne (List.dropLast_subset _ m)
   have psl:ps.length<sizeLine:=Nat.lt_of_lt_of_le (show _<60000 by omega) qch
   refine⟨rfl,rfl,?_⟩
   show vSeq _ _ _ [some (.val (qax ts)),some (.own (qbf ps)),some (.val (wayD r.1)),some (.val (.str r.2.1)),some (.val (.str r.2.2))]
   refine qbt (λb=>b=!mayB r (S r.1.dropLast)) (λY y=>?t1) (λhb=>?y1) λhb=>?n1
   case t1 =>
    rfl'
    refine ab r.1 _ ?_
    dsimp! only[qbf,wayD]
    refine⟨ne0,?_⟩
    rw[qb2,L]
    have eo:((S r.1.dropLast).map D.bl).getD .non=optD (S r.1.dropLast):=by cases S r.1.dropLast<;>rfl
    rw[eo]
    refine ms r _ _ ?_
    rfl'
    exact y _ rfl
   case y1 =>
    rw[ep,qf8 hb,Bool.false_and] at h
    rfl'
    exact h
   case n1 =>
   have em:=qe9 hb
   rw[em,Bool.true_and] at ep
   refine v_if (λb=>b=fsB r.2.1) (λY y=>?t2) (λhb=>?y2) λhb=>?n2
   case t2 =>
    rfl'
    refine⟨by decide,y _ ?_⟩
    show decide (r.2.1∈[qa3,qa5])=_
    unfold fsB
    exact decide_eq_decide.mpr (by simp)
   case y2 =>
    have fin:∀c,c=(decide (r.2.1=qa5)||(S r.1.dropLast).getD false)->nx2 [some (.val (qax ts)),some (.own (qbf (insP ps r.1 (.bl c)))),some (.val (wayD r.1)),some (.val (.str r.2.1)),some (.val (.str r.2.2))]:=λc ec=>hnx2 _ ⟨_,qfm S r,_,_,_,qz5 L hb.symm ec,by have:=qzw ps r.1 (.bl c);omega,ep,rfl⟩
    dsimp! only[qbf,wayD]
    by_cases hsh:r.2.1=qa5
    ·rw[if_pos (decide_eq_true hsh)]
     refine⟨ne,psl,?_⟩
     rw[qew]
     refine fin true ?_
     rw[decide_eq_true hsh]
     rfl
    ·rw[if_neg (by rw[decide_eq_false hsh];decide)]
     have h0:r.1≠[]:=λe=>by
      unfold mayB at em
      rw[if_pos e] at em
      exact hsh (of_decide_eq_true em)
     obtain⟨c,ec⟩:∃c,S r.1.dropLast=some c:=by
      unfold mayB at em
      rw[if_neg h0] at em
      cases e:S r.1.dropLast with
     |none=>rw[e] at em;cases em
     |some c=>exact⟨c,rfl⟩
     refine ab r.1 _ ?_
     dsimp! only[wayD]
     refine⟨ne0,.bl c,by rw[qb2,L,ec];rfl,?_⟩
     rfl'
     refine⟨ne,psl,?_⟩
     rw[qew]
     refine fin c ?_
     rw[decide_eq_false hsh,ec]
     rfl
   case n2 =>
    have en:qfm S r=S:=by
     unfold qfm
     rw[if_neg (by rw[←hb];decide)]
    rw[en] at ep
    exact hnx2 _ ⟨ps,S,_,_,_,L,by omega,ep,rfl⟩
  ·rintro τ ⟨ps,S,a,b,c,L,pl,ep,rfl⟩
   exact hnx _ (by rw[ep,List.drop_length];rfl)
 rfl'
 rw[q] at h
 exact h
def qe6:TVS:=(vRet (vOp vAdd (vC (.str ("/" : Str))) (qkk (vC (.str ("/" : Str))) (vVar 0))))
abbrev qmm:List Str:=["way"]
theorem qn9:∀ds Q,qcs ds Q->qe6 (En Q) (qat qmm ds):=by
 rintro ds Q ⟨w,rfl,hl,hn,h⟩
 have hw:∀z∈w,wdB z=true:=λz m=>qjx (hn z m)
 have g1:=qm2 hw
 have s1:=qpk hw
 have os:(Str.ofString "/").length=1:=qfn
 dsimp! only[qe6,wayD]
 exact⟨w,.inr rfl,by rw[os];omega,Nat.le_trans (show _<=1000 by rw[os];show 1+(glue "/" w).length<=1000;omega) qb4,h⟩
def qf0:TVS:=(vSeq (vSet 1 (qib qby (qab (vVar 0) vNil)))
 (vSeq (vIfS (vOrT (qdr (vBl (vOp vIxR (vVar 1) (vC (.int 0))))) (qdr (vBl (vF1 (vAll λbs=>bs.all id) (qeo (qck (vOp vIxR (vVar 1) (vC (.int 1)))) (qa1 2) (λ_ Q=>Q true) (qaj qbl (qab (vVar 2) vNil)) 1)))))
  (qgr "NoWay" (qab (vVar 0) vNil))
  qaz)
 (vRet (vF1 qi7 (vOp vIxR (vVar 1) (vC (.int 1)))))))
abbrev qp1:List Str:=["text","found"]
theorem qre:∀ds Q,qdb ds Q->qf0 (EnX Q) (qat qp1 ds):=by
 rintro ds Q ⟨t,rfl,tl,hy,hn⟩
 have lw:∀Y:R->Prop,(∀r ws,qba t=some (r,ws)->Y (.val (.tup [.bl r,qbz ws])))->(qba t=none->Y (.exc "NoWay"))->qby [.str t] Y:=λY y1 y2=>⟨t,rfl,tl,y1,y2⟩
 have ln:∀(z:Str) (Y:R->Prop),wdB z=true->Y (.val (.bl (nmB z)))->qbl [.str z] Y:=λz Y hz y=>⟨z,rfl,Nat.le_trans (qy3 hz) (by decide),y⟩
 refine qfe ?_
 dsimp! only[qf0]
 refine lw _ (λb ws e=>?_) λe=>?_
 ·obtain⟨wl,ww⟩:=qxw e
  rw[qqu e] at hy hn
  rfl'
  cases b with
 |false =>
   refine qbt (λc=>c=true) (λY y=>?t1) (λ_=>?y1) λhb=>by cases hb
   case t1 =>
    dsimp! only[qbz]
    exact y _ rfl
   case y1 =>
    rfl'
    exact⟨by decide,hn rfl⟩
 |true =>
   refine qbt (λc=>c=!ws.all nmB) (λY y=>?t2) (λhb=>?y2) λhb=>?n2
   case t2 =>
    dsimp! only[qbz]
    refine qc6 (λz=>.bl (nmB z)) ws (Nat.le_trans (show _<=1000 by omega) qb4) (λz mz Y N hY=>?_) ?_
    ·rfl'
     refine ln z _ (ww z mz) ?_
     rfl'
     exact hY
    ·rfl'
     refine⟨ws.map nmB,by rw[List.map_map];rfl,?_⟩
     rw[all_map]
     exact y _ rfl
   case y2 =>
    rw[qf8 hb] at hn
    rfl'
    exact⟨by decide,hn rfl⟩
   case n2 =>
    rw[qe9 hb] at hy
    dsimp! only[qbz]
    exact hy ws rfl
 ·rfl'
  exact hn (qqt e)
def qef:TVS:=(vTry (vRet (qib qdb (qab (vVar 0) vNil)))
  (qpr "NoRow" ["NoWay"] ["NoRow"] (qab (vVar 0) vNil) qur))
abbrev qkx:List Str:=["word"]
theorem qmi:∀ds Q,qcc ds Q->qef (EnX Q) (qat qkx ds):=by
 rintro ds Q ⟨t,rfl,tl,hy,hn⟩
 have lr:∀Y:R->Prop,(∀w,qcm t=some w->Y (.val (wayD w)))->(qcm t=none->Y (.exc "NoWay"))->qdb [.str t] Y:=λY y1 y2=>⟨t,rfl,tl,y1,y2⟩
 dsimp! only[qef]
 refine lr _ (λw e=>?_) λe=>?_
 ·rfl'
  exact hy w e
 ·rfl'
  refine .inl ⟨by decide,?_⟩
  rfl'
  exact⟨by decide,hn e⟩
def qed:TVS:=(vSeq (vSet 1 (qkl (vVar 0) (qab (vC (.str (" " : Str))) (qab (vC (.int 2)) vNil))))
 (vSeq (vIfS (vBl (vOp vNeD (vF1 vLen (vVar 1)) (vIfE (vBl (vOp (vIn id) (vOp vIxR (vVar 1) (vC (.int 0))) (vC (.kt [("file" : Str),("link" : Str)])))) (vC (.int 3)) (vC (.int 2)))))
  (qgr "NoRow" (qab (vVar 0) vNil))
  qaz)
 (vRet (vTup (qab (qib qcc (qab (vOp vIxR (vVar 1) (vC (.int 1))) vNil)) (qab (vOp vIxR (vVar 1) (vC (.int 0))) (qab (vIfE (vBl (vOp vEq (vF1 vLen (vVar 1)) (vC (.int 3)))) (vOp vIxR (vVar 1) (vC (.int 2))) (vC (.str ("" : Str)))) vNil)))))))
abbrev qkv:List Str:=["row","words"]
theorem qmg:∀ds Q,qb9 ds Q->qed (EnX Q) (qat qkv ds):=by
 rintro ds Q ⟨t,rfl,tl,hy,hn⟩
 have lr:∀(z:Str) (Y:R->Prop),z.length<=50000->(∀w,qcm z=some w->Y (.val (wayD w)))->(qcm z=none->Y (.exc "NoRow"))->qcc [.str z] Y:=λz Y hz y1 y2=>⟨z,rfl,hz,y1,y2⟩
 have es:Txt.splitMax t (Str.ofString " ") 2=(spN 32 2 t.cps.toList).map mkS:=by
  show Txt.splitMax t " " ((2:Nat):Int)=_
  rw[blank,qny _ (by decide)]
 have b1:(Str.ofString " ").length=1:=by decide +kernel
 have big:=qch
 have tl':t.cps.toList.length=t.length:=rfl
 have hin:∀m:Str,decide (m∈[Str.ofString "file",Str.ofString "link"])=decide (txM m):=λm=>decide_eq_decide.mpr (by simp[txM])
 have s3:(spN 32 2 t.cps.toList).length<=3:=by
  rcases three t.cps.toList with ⟨_,e⟩|⟨a,b,_,e,_⟩|⟨a,b,x,_,e,_⟩<;>(rw[e];simp)
 refine v_cut (λτ=>τ=[some (.val (.str t)),some (.val (.lst (((spN 32 2 t.cps.toList).map mkS).map D.str)))]) ?_ λnx hnx=>?now
 case now =>
  dsimp! only[qed]
  rw[es]
  exact⟨by rw[b1];rfl,by omega,by rw[List.length_map];omega,hnx _ rfl⟩
 rintro τ rfl
 unfold parP at hy hn
 rcases three t.cps.toList with ⟨_,e⟩|⟨a,b,_,e,el⟩|⟨a,b,x,_,e,el⟩
 ·rw[e] at hn ⊢
  refine qbt (λb=>b=true) (λY y=>?t1) (λ_=>?y1) λhb=>by cases hb
  case t1 =>
   dsimp! only[List.map_cons,List.map_nil]
   rw[id,hin]
   by_cases hm:txM (mkS t.cps.toList)
   ·rw[if_pos (decide_eq_true hm)]
    exact y _ rfl
   ·rw[if_neg (by rw[decide_eq_false hm];decide)]
    exact y _ rfl
  case y1 =>
   rfl'
   exact⟨by decide,hn rfl⟩
 ·rw[e] at hy hn ⊢
  simp only[List.map_cons,List.map_nil] at hy hn
  rw[el,List.length_append,List.length_cons] at tl'
  by_cases hm:txM (mkS a)
  ·refine qbt (λb=>b=true) (λY y=>?t1) (λ_=>?y1) λhb=>by cases hb
   case t1 =>
    dsimp! only[List.map_cons,List.map_nil]
    rw[id,hin,if_pos (decide_eq_true hm)]
    exact y _ rfl
   case y1 =>
    rfl'
    exact⟨by decide,hn (by rw[if_pos hm])⟩
  ·rw[if_neg hm] at hy hn
   refine qbt (λb=>b=false) (λY y=>?t1) (λhb=>by cases hb) λ_=>?n1
   case t1 =>
    dsimp! only[List.map_cons,List.map_nil]
    rw[id,hin,if_neg (by rw[decide_eq_false hm];decide)]
    exact y _ rfl
   case n1 =>
    dsimp! only[List.map_cons,List.map_nil]
    refine lr _ _ (by rw[qb6];omega) (λw e=>?_) λe=>?_
    ·rfl'
     exact⟨by decide,hy (w,mkS a,tEmpty) (by rw[e];rfl)⟩
    ·rfl'
     exact hn (by rw[e];rfl)
 ·rw[e] at hy hn ⊢
  simp only[List.map_cons,List.map_nil] at hy hn
  rw[el,List.length_append,List.length_cons,List.length_append,List.length_cons] at tl'
  by_cases hm:txM (mkS a)
  ·rw[if_pos hm] at hy hn
   refine qbt (λb=>b=false) (λY y=>?t1) (λhb=>by cases hb) λ_=>?n1
   case t1 =>
    dsimp! only[List.map_cons,List.map_nil]
    rw[id,hin,if_pos (decide_eq_true hm)]
    exact y _ rfl
   case n1 =>
    dsimp! only[List.map_cons,List.map_nil]
    refine lr _ _ (by rw[qb6];omega) (λw e=>?_) λe=>?_
    ·rfl'
     exact⟨by decide,hy (w,mkS a,mkS x) (by rw[e];rfl)⟩
    ·rfl'
     exact hn (by rw[e];rfl)
  ·refine qbt (λb=>b=true) (λY y=>?t1) (λ_=>?y1) λhb=>by cases hb
   case t1 =>
    dsimp! only[List.map_cons,List.map_nil]
    rw[id,hin,if_neg (by rw[decide_eq_false hm];decide)]
    exact y _ rfl
   case y1 =>
    rfl'
    exact⟨by decide,hn (by rw[if_neg hm])⟩
def qhb:TVS:=(vSeq (vIfS (vBl (vOp vEq (vVar 0) (vC (.str ("" : Str)))))
  (vRet (vLst vNil))
  qaz)
 (vSeq (qgu 1 (ql7 (qck (qgs (vVar 0) (vC (.str ("\n" : Str))))) (qa1 2) (qib qb9 (qab (vVar 2) vNil)) 1))
 (vSeq (vIfS (qdr (vBl (qug qdv 1 vNil)))
  (qgr "NoRow" (qab (vC (.str ("the rows make no pane" : Str))) vNil))
  qaz)
 (quj 1))))
abbrev qml:List Str:=["text","pane"]
theorem qh8(t:Str):Txt.split t (Str.ofString "\n")=qbr t:=by
 show Txt.split t "\n" = _
 rw[q3m,qfs _ (by decide)]
 rfl
theorem qkz:∀ {l:List Str} {ds:List D},l.map (λz=>(parP z).map rowD)=ds.map some->∃rs:List Row,l.map parP=rs.map some/\ds=rs.map rowD
|[],[],_=>⟨[],rfl,rfl⟩
|[],d::ds,h=>by cases h
|z::l,[],h=>by cases h
|z::l,d::ds,h=>by
  rw[List.map_cons,List.map_cons] at h
  obtain⟨h1,h2⟩:=List.cons.inj h
  obtain⟨r,er,ed⟩:=Option.map_eq_some_iff.mp h1
  obtain⟨rs,e1,e2⟩:=qkz h2
  exact⟨r::rs,by rw[List.map_cons,List.map_cons,er,e1],by rw[List.map_cons,ed,e2]⟩
theorem qn8:∀ds Q,qbe ds Q->qhb (EnX Q) (qat qml ds):=by
 rintro ds Q ⟨t,rfl,tl,hy,hn⟩
 obtain⟨l1,l2,l3,l4⟩:=qgw t
 have big:=qch
 have o1:(Str.ofString "\n").length=1:=by decide +kernel
 have lp:∀(ts:List Row) (Y:R->Prop),ts.length<50010->(∀r∈ts,RowG r)->Y (.val (.bl (qiq ts)))->qdv [qax ts] Y:=λts Y h1 h2 y=>⟨ts,rfl,h1,h2,y⟩
 have le:∀(z:Str) (Y:R->Prop),z.length<=50000->(∀r,parP z=some r->Y (.val (rowD r)))->(parP z=none->Y (.exc "NoRow"))->qb9 [.str z] Y:=λz Y hz y1 y2=>⟨z,rfl,hz,y1,y2⟩
 refine qbt (λb=>b=decide (t="")) (λY y=>?t1) (λhb=>?y1) λhb=>?n1
 case t1 =>
  rfl'
  exact y _ rfl
 case y1 =>
  have e:=of_decide_eq_true hb.symm
  rfl'
  exact hy [] (by unfold dueT;rw[if_pos e])
 case n1 =>
 have h0:=of_decide_eq_false hb.symm
 refine v_cut (λτ=>∃rs:List Row,(qbr t).map parP=rs.map some/\τ=[some (.val (.str t)),some (.own (qax rs))]) ?_ λnx hnx=>?now
 case now =>
  rfl'
  rw[qh8]
  refine⟨by rw[o1];rfl,by omega,by omega,?_⟩
  refine qr0 "NoRow" (λz=>(parP z).map rowD) (qbr t) (by omega) (λz mz Y y1 y2=>?_) (λds e=>?_) λ⟨z,mz,e⟩=>?_
  ·rfl'
   refine le z _ (Nat.le_trans (l2 z mz) tl) (λr e=>?_) λe=>?_
   ·rfl'
    exact y1 _ (by rw[e];rfl)
   ·rfl'
    exact y2 (by rw[e];rfl)
  ·obtain⟨rs,e1,rfl⟩:=qkz e
   rfl'
   exact hnx _ ⟨rs,e1,rfl⟩
  ·rfl'
   exact hn (qzm h0 mz (by simpa using e))
 rintro τ ⟨rs,er,rfl⟩
 obtain⟨rl,ro,_⟩:=qns er
 have hg:∀r∈rs,RowG r:=λr mr=>let ⟨z,mz,e⟩:=ro r mr;(qf9 e).g (Nat.le_trans (l2 z mz) tl)
 rw[qx1 h0 er] at hy hn
 refine qbt (λb=>b=!qiq rs) (λY y=>?t2) (λhb=>?y2) λhb=>?n2
 case t2 =>
  dsimp! only[qax]
  refine lp rs _ (by omega) hg ?_
  exact y _ rfl
 case y2 =>
  rw[qf8 hb] at hn
  rfl'
  exact⟨by decide,hn rfl⟩
 case n2 =>
  rw[qe9 hb] at hy
  rfl'
  exact hy rs rfl
def qd2:TVS:=(vSeq (vSet 3 (qaj qcs (qab (vVar 0) vNil)))
 (vRet (vIfE (vBl (vOp (vIn id) (vVar 1) (vC (.kt [("file" : Str),("link" : Str)])))) (quh (qmb (vVar 1) (qq9 (" " : Str) (qmb (vVar 3) (qq9 (" " : Str) (qmb (vVar 2) qut)))))) (quh (qmb (vVar 1) (qq9 (" " : Str) (qmb (vVar 3) qut)))))))
abbrev qje:List Str:=["way","mark","text","shown"]
theorem qku:∀ds Q,qbx ds Q->qd2 (En Q) (qat qje ds):=by
 rintro ds Q ⟨r,t,rfl,tl,e,h⟩
 have P:=qf9 e
 have lw:∀Y:R->Prop,Y (.val (.str (shW r.1)))->qcs [wayD r.1] Y:=λY y=>⟨r.1,rfl,P.wl,P.nm,y⟩
 have h1:=P.ml
 have h2:=q1z P.wl P.nm
 have h3:=P.tl
 have b:(Str.ofString " ").length=1:=by decide +kernel
 have big:150000<=sizeLine:=by decide
 rw[←P.tx] at h
 refine qfe ?_
 dsimp! only[qd2]
 refine lw _ ?_
 rfl'
 unfold rowT at h
 rw[id]
 by_cases hm:txM r.2.1
 ·rw[if_pos (decide_eq_true (show r.2.1∈[Str.ofString "file",Str.ofString "link"] by rcases hm with q|q<;>(rw[q];decide)))]
  rw[if_pos hm] at h
  simp only[empty_app,PySem.Str.length_append,b]
  exact⟨by omega,by omega,by omega,by omega,by omega,by omega,by omega,by omega,by omega,h⟩
 ·rw[if_neg (by rw[decide_eq_false (show ¬ r.2.1∈[Str.ofString "file",Str.ofString "link"] from λq=>hm (by simpa [txM] using q))];decide)]
  rw[if_neg hm] at h
  simp only[empty_app,PySem.Str.length_append,b]
  exact⟨by omega,by omega,by omega,by omega,by omega,by omega,h⟩
def qee:TVS:=(vRet (qkk (vC (.str ("\n" : Str))) (qeo (qck (vVar 0)) (qkp 3 (qco (qa1 1) (qco (qa1 2) (qco (qa1 3) qko)))) (λ_ Q=>Q true) (qaj qbx (qab (vVar 1) (qab (vVar 2) (qab (vVar 3) vNil)))) 3)))
abbrev qkw:List Str:=["pane"]
theorem qmh:∀ds Q,qca ds Q->qee (En Q) (qat qkw ds):=by
 rintro ds Q ⟨ts,t,rfl,tl,hd,h⟩
 obtain⟨l1,l2,l3,l4⟩:=qgw t
 have big:=qch
 have o1:(Str.ofString "\n").length=1:=by decide +kernel
 have facts:ts.length<=50001/\(∀r∈ts,∃z,z.length<=50000/\parP z=some r)/\((ts.map rowT).map (·.length)).sum+ts.length<=50001/\glue "\n" (ts.map rowT)=t:=by
  rcases qjl hd with ⟨e,rfl⟩|⟨_,er,_⟩
  ·exact⟨by decide,λr m=>(by cases m),by decide,by rw[e];decide +kernel⟩
  ·obtain⟨rl,ro,rm⟩:=qns er
   exact⟨by omega,λr mr=>let ⟨z,mz,e⟩:=ro r mr;⟨z,Nat.le_trans (l2 z mz) tl,e⟩,by rw[rm,rl];omega,by rw[rm];exact l4⟩
 obtain⟨f1,f2,f3,f4⟩:=facts
 have ls:∀(r:Row) (Y:R->Prop),r∈ts->Y (.val (.str (rowT r)))->qbx [wayD r.1,.str r.2.1,.str r.2.2] Y:=λr Y mr y=>by
  obtain⟨z,zl,e⟩:=f2 r mr
  exact⟨r,z,rfl,zl,e,by rw[←(qf9 e).tx];exact y⟩
 dsimp! only[qee,qax]
 refine qc6 (λr=>.str (rowT r)) ts (by omega) (λr mr Y N hY=>?_) ?_
 ·dsimp! only[rowD]
  refine ls r _ mr ?_
  rfl'
  exact hY
 ·rfl'
  refine⟨ts.map rowT,.inl (by rw[List.map_map];rfl),by rw[o1,List.length_map];omega,?_⟩
  rw[show glue (Str.ofString "\n") (ts.map rowT)=t from f4]
  exact h
def qf1:TVS:=(vSeq (vSet 1 (vC (.str (" !\"#$&'()*+,-./0123456789:;<=>?@ABCDEFGHIJKLMNOPQRSTUVWXYZ[\\]^_`" : Str))))
 (vSeq (vSet 1 (vOp vAdd (vVar 1) (vC (.str ("abcdefghijklmnopqrstuvwxyz{|}~" : Str)))))
 (vSeq (vSet 2 (qaj qap (qab (vVar 0) (qab (vC (.int 6)) (qab (vC (.int 12)) vNil)))))
 (vSeq (vIfS (vBl (vOp vEq (vVar 2) (vC (.int 11))))
  (vSet 2 (vC (.int 300)))
  qaz)
 (vSeq (vSet 3 (qkk (vC (.str ("" : Str))) (qeo (qiu (vVar 2)) (qa1 4) (λ_ Q=>Q true) (vOp vIxR (vVar 1) (qaj qap (qab (vOp vAdd (vVar 0) (vOp vMul (vC (.int 3)) (vVar 4))) (qab (vC (.int 7)) (qab (vF1 vLen (vVar 1)) vNil))))) 1)))
 (vRet (vOp vAdd (vVar 3) (vOp vIxR (vTup (qab (vC (.str ("" : Str))) (qab (vC (.str (" " : Str))) (qab (vC (.str (" a" : Str))) vNil)))) (qaj qap (qab (vVar 0) (qab (vC (.int 3)) (qab (vC (.int 3)) vNil))))))))))))
abbrev qp2:List Str:=["_law_cell","_law_some","_law_size","_law_text"]
theorem qrf:∀ds Q,qdc ds Q->qf1 (En Q) (qat qp2 ds):=by
 rintro ds Q ⟨c,rfl,h⟩
 have mx:∀(c k n:Int) (Y:R->Prop),0<=k->0<n->(∀i,0<=i->i<n->Y (.val (.int i)))->qap [.int c,.int k,.int n] Y:=λc k n Y hk hn y=>⟨c,k,n,rfl,hk,hn,λi h0 h1 _=>y i h0 h1⟩
 have big:50000<=sizeLine:=by decide
 refine qfe ?_
 dsimp! only[qf1]
 refine v_cut (λτ=>τ=[some (.val (.int c)),some (.val (.str PS94)),none,none]) ?_ λnx hnx=>?now
 case now =>
  rfl'
  exact⟨by decide +kernel,hnx _ rfl⟩
 rintro τ rfl
 refine v_cut (λτ=>∃k:Int,0<=k/\k<12/\τ=[some (.val (.int c)),some (.val (.str PS94)),some (.val (.int k)),none]) ?_ λnx hnx=>?now
 case now =>
  rfl'
  refine mx _ _ _ _ (by decide) (by decide) λk k0 k1=>?_
  rfl'
  exact hnx _ ⟨k,k0,k1,rfl⟩
 rintro τ ⟨k,k0,k1,rfl⟩
 refine v_cut (λτ=>∃k:Int,0<=k/\k<=300/\τ=[some (.val (.int c)),some (.val (.str PS94)),some (.val (.int k)),none]) ?_ λnx hnx=>?now
 case now =>
  rfl'
  split
  ·exact hnx _ ⟨300,by decide,by decide,rfl⟩
  ·exact hnx _ ⟨k,k0,by omega,rfl⟩
 clear k0 k1 k
 rintro τ ⟨k,k0,k1,rfl⟩
 refine v_cut (λτ=>∃z:Str,z.length<=300/\(10:Nat)∉z.cps.toList/\τ=[some (.val (.int c)),some (.val (.str PS94)),some (.val (.int k)),some (.val (.str z))]) ?_ λnx hnx=>?now
 case now =>
  have p94:=qyg
  rfl'
  refine⟨by omega,by omega,?_⟩
  unfold rngL
  refine qjj (λ_ d=>∃c∈PS94.cps.toList,d=.str ⟨#[c]⟩) (λ_=>true) (List.range k.toNat) (by rw[List.length_range];omega) (λx _ Y N y1 _=>?_) λes hl hes=>?_
  ·rfl'
   refine⟨by left;decide,by omega,?_⟩
   refine mx _ _ _ _ (by decide) (by rw[p94];decide) λj j0 j1=>?_
   obtain⟨v,hv,hv2⟩:=qce (xs:=PS94.cps.toList) (k:=j) j0 j1
   rfl'
   exact⟨by omega,v,hv,y1 rfl _ ⟨v,List.mem_of_getElem? hv2,rfl⟩⟩
  ·obtain⟨ls,e1,e2,e3⟩:=qlr (es:=es) λe me=>by
    obtain⟨j,lj,ej⟩:=List.mem_iff_getElem.mp me
    have hj:j<((List.range k.toNat).filter λ_=>true).length:=by rw[←hl];exact lj
    exact hes j _ e (List.getElem?_eq_getElem hj) (by rw[List.getElem?_eq_getElem lj,ej])
   have ell:ls.length<=300:=by
    rw[e3,hl]
    refine Nat.le_trans (List.length_filter_le _ _) ?_
    rw[List.length_range]
    omega
   have o0:(Str.ofString "").length=0:=by decide +kernel
   subst e1
   rfl'
   refine⟨_,.inl rfl,by rw[qo5,o0];omega,hnx _ ⟨_,?_,?_,rfl⟩⟩
   ·show (glue (Str.ofString "") (ls.map λc=>(⟨#[c]⟩:Str))).cps.toList.length<=300
    rw[q23]
    exact ell
   ·rw[q23]
    exact λm=>q60 (e2 10 m)
 rintro τ ⟨z,zl,zn,rfl⟩
 rfl'
 refine⟨by decide,?_⟩
 refine mx _ _ _ _ (by decide) (by decide) λj j0 j1=>?_
 obtain⟨y,hy,hy2⟩:=qce (xs:=[Str.ofString "",Str.ofString " ",Str.ofString " a"]) (k:=j) j0 j1
 have my:=List.mem_of_getElem? hy2
 have ny:(10:Nat)∉y.cps.toList/\y.length<=2:=by
  simp only[List.mem_cons,List.not_mem_nil,or_false] at my
  rcases my with q|q|q<;>(subst q;decide +kernel)
 rfl'
 refine⟨.str y,?_,?_⟩
 ·rw[show [D.str (Str.ofString ""),D.str (Str.ofString " "),D.str (Str.ofString " a")]=[Str.ofString "",Str.ofString " ",Str.ofString " a"].map D.str from rfl,qb5,hy]
  rfl
 ·rfl'
  refine⟨by omega,h _ ⟨by rw[PySem.Str.length_append];omega,λm=>?_⟩⟩
  rw[app_list] at m
  exact(List.mem_append.mp m).elim zn ny.1
def qg7:TVS:=(vSeq (qgu 1 (vLst vNil))
 (vSeq (vFor (qiu (vOp vAdd (vC (.int 1)) (qaj qap (qab (vVar 0) (qab (vC (.int 6)) (qab (vC (.int 5)) vNil)))))) (qa1 2)
  (qia 1 (vOp vIxR (vTup (qab (vC (.str ("." : Str))) (qab (vC (.str (".." : Str))) (qab (qaj qbn (qab (vOp vAdd (vVar 0) (vVar 2)) vNil)) vNil)))) (qaj qap (qab (vOp vAdd (vVar 0) (vVar 2)) (qab (vC (.int 7)) (qab (vC (.int 3)) vNil)))))))
 (vRet (vOp vAdd (vOp vIxR (vTup (qab (vC (.str ("" : Str))) (qab (vC (.str ("/" : Str))) vNil))) (qaj qap (qab (vVar 0) (qab (vC (.int 5)) (qab (vC (.int 2)) vNil))))) (qkk (vC (.str ("/" : Str))) (vVar 1))))))
abbrev qro:List Str:=["_law_cell","_law_words","_law_k"]
theorem qu3:∀ds Q,qdw ds Q->qg7 (En Q) (qat qro ds):=by
 rintro ds Q ⟨c,rfl,h⟩
 have mx:∀(c k n:Int) (Y:R->Prop),0<=k->0<n->(∀i,0<=i->i<n->Y (.val (.int i)))->qap [.int c,.int k,.int n] Y:=λc k n Y hk hn y=>⟨c,k,n,rfl,hk,hn,λi h0 h1 _=>y i h0 h1⟩
 have nb:∀(i:Int) (Y:R->Prop),(∀z:Str,nmB z=true->Y (.val (.str z)))->qbn [.int i] Y:=λi Y y=>⟨i,rfl,y⟩
 refine qfe ?_
 dsimp! only[qg7]
 refine v_cut (λτ=>∃(ws:List Str) (a:Option R),ws≠[]/\ws.length<=5/\(∀z∈ws,wdB z=true)/\τ=[some (.val (.int c)),some (.own (.lst (ws.map D.str))),a]) ?_ λnx hnx=>?now
 case now =>
  rfl'
  refine mx _ _ _ _ (by decide) (by decide) λk k0 k1=>?_
  rfl'
  refine⟨by omega,by omega,qhj (λi τ=>∃(ws:List Str) (a:Option R),ws.length=i/\(∀z∈ws,wdB z=true)/\τ=[some (.val (.int c)),some (.own (.lst (ws.map D.str))),a]) ⟨[],none,rfl,λz m=>(by cases m),rfl⟩ ?_ ?_⟩
  ·rintro i τ hi ⟨ws,a,wl,ww,rfl⟩ nx2 hnx2
   rfl'
   refine nb _ _ λz hz=>?_
   rfl'
   refine⟨by decide,?_⟩
   refine mx _ _ _ _ (by decide) (by decide) λj j0 j1=>?_
   obtain⟨y,hy,hy2⟩:=qce (xs:=[Str.ofString ".",Str.ofString "..",z]) (k:=j) j0 j1
   have wy:wdB y=true:=by
    have my:=List.mem_of_getElem? hy2
    simp only[List.mem_cons,List.not_mem_nil,or_false] at my
    rcases my with q|q|q
    ·rw[q];exact q57
    ·rw[q];exact q2m
    ·rw[q];exact qjx hz
   rfl'
   refine⟨.str y,?_,?_⟩
   ·rw[show [D.str (Str.ofString "."),D.str (Str.ofString ".."),D.str z]=[Str.ofString ".",Str.ofString "..",z].map D.str from rfl,qb5,hy]
    rfl
   ·rfl'
    exact⟨Nat.lt_of_lt_of_le (show _<1000 by omega) qb4,hnx2 _ ⟨ws++[y],_,by rw[List.length_append,wl];rfl,λx mx'=>(List.mem_append.mp mx').elim (ww x) λq=>by rw[List.mem_singleton.mp q];exact wy,by rw[List.map_append]⟩⟩
  ·rintro τ ⟨ws,a,wl,ww,rfl⟩
   exact hnx _ ⟨ws,a,λe=>by rw[e] at wl;have e0:([]:List Str).length=0:=rfl;omega,by omega,ww,rfl⟩
 rintro τ ⟨ws,a,wne,wl,ww,rfl⟩
 have g1:=qm2 ww
 have s1:=qpk ww
 have os:(Str.ofString "/").length=1:=qfn
 rfl'
 refine⟨by decide,?_⟩
 refine mx _ _ _ _ (by decide) (by decide) λj j0 j1=>?_
 obtain⟨y,hy,hy2⟩:=qce (xs:=[Str.ofString "",Str.ofString "/"]) (k:=j) j0 j1
 have my:=List.mem_of_getElem? hy2
 rfl'
 refine⟨.str y,?_,?_⟩
 ·rw[show [D.str (Str.ofString ""),D.str (Str.ofString "/")]=[Str.ofString "",Str.ofString "/"].map D.str from rfl,qb5,hy]
  rfl
 ·rfl'
  have big:50000<=sizeLine:=by decide
  have gn:=qzs ww
  refine⟨ws,.inl rfl,by rw[os];omega,?_⟩
  simp only[List.mem_cons,List.not_mem_nil,or_false] at my
  rcases my with q|q
  ·have e:y++glue (Str.ofString "/") ws=glue "/" ws:=qdh (by rw[app_list,q,show (Str.ofString "").cps.toList=[] by decide +kernel];rfl)
   have o0:y.length=0:=by rw[q];decide +kernel
   rw[e]
   exact⟨by show y.length+(glue "/" ws).length<=sizeLine;omega,h _ ⟨by omega,gn⟩ ⟨_,_,qvc wne (by omega) ww⟩⟩
  ·subst q
   refine⟨by rw[os];show 1+(glue "/" ws).length<=sizeLine;omega,h _ ⟨?_,λm=>?_⟩ ⟨_,_,qrj (by omega) ww⟩⟩
   ·rw[PySem.Str.length_append,os]
    show 1+(glue "/" ws).length<=400
    omega
   ·rw[app_list] at m
    rcases List.mem_append.mp m with m|m
    ·revert m
     decide +kernel
    ·exact gn m
def qfx:TVS:=(vSeq (vSet 2 (vOp vIxR (vTup (qab (vC (.str ("folder" : Str))) (qab (vC (.str ("file" : Str))) (qab (vC (.str ("link" : Str))) (qab (vC (.str ("gone" : Str))) (qab (vC (.str ("shut" : Str))) (qab (vC (.str ("folder" : Str))) vNil))))))) (qaj qap (qab (vVar 0) (qab (vC (.int 2)) (qab (vC (.int 6)) vNil))))))
 (vSeq (vIfS (qe4 (vBl (vVar 1)) (vOrT (vBl (vOp vEq (vVar 2) (vC (.str ("gone" : Str))))) (vBl (vOp vEq (vVar 2) (vC (.str ("shut" : Str)))))))
  (vSet 2 (vC (.str ("folder" : Str))))
  qaz)
 (vSeq (vIfS (vBl (vOp vEq (vVar 2) (vC (.str ("file" : Str)))))
  (vRet (vTup (qab (vVar 2) (qab (qaj qdc (qab (vVar 0) vNil)) vNil))))
  qaz)
 (vSeq (vIfS (vBl (vOp vEq (vVar 2) (vC (.str ("link" : Str)))))
  (vRet (vTup (qab (vVar 2) (qab (qaj qdw (qab (vVar 0) vNil)) vNil))))
  qaz)
 (vRet (vTup (qab (vVar 2) (qab (vC (.str ("" : Str))) vNil))))))))
abbrev qpy:List Str:=["_law_cell","_law_closed","_law_mark"]
theorem qrb:∀ds Q,qbv ds Q->qfx (En Q) (qat qpy ds):=by
 rintro ds Q ⟨c,cl,rfl,h⟩
 have mx:∀(c k n:Int) (Y:R->Prop),0<=k->0<n->(∀i,0<=i->i<n->Y (.val (.int i)))->qap [.int c,.int k,.int n] Y:=λc k n Y hk hn y=>⟨c,k,n,rfl,hk,hn,λi h0 h1 _=>y i h0 h1⟩
 have lsg:∀Y:R->Prop,(∀t,TOk t->Y (.val (.str t)))->qdc [.int c] Y:=λY y=>⟨c,rfl,y⟩
 have llk:∀Y:R->Prop,(∀t,TOk t->(∃b vs,qba t=some (b,vs))->Y (.val (.str t)))->qdw [.int c] Y:=λY y=>⟨c,rfl,y⟩
 refine v_cut (λτ=>∃m:Str,mk5 m/\τ=[some (.val (.int c)),some (.val (.bl cl)),some (.val (.str m))]) ?_ λnx hnx=>?now
 case now =>
  dsimp! only[qfx]
  refine⟨by decide,?_⟩
  refine mx _ _ _ _ (by decide) (by decide) λj j0 j1=>?_
  obtain⟨y,hy,hy2⟩:=qce (xs:=[qa3,qdg,qcz,qcl,qa5,qa3]) (k:=j) j0 j1
  have my:=List.mem_of_getElem? hy2
  rfl'
  refine⟨.str y,?_,hnx _ ⟨y,?_,rfl⟩⟩
  ·rw[show [D.str (Str.ofString "folder"),D.str (Str.ofString "file"),D.str (Str.ofString "link"),D.str (Str.ofString "gone"),D.str (Str.ofString "shut"),D.str (Str.ofString "folder")]=[qa3,qdg,qcz,qcl,qa5,qa3].map D.str from rfl,qb5,hy]
   rfl
  ·simp only[List.mem_cons,List.not_mem_nil,or_false] at my
   unfold mk5
   rcases my with q|q|q|q|q|q<;>simp[q]
 rintro τ ⟨m,hm,rfl⟩
 refine v_cut (λτ=>∃m:Str,mk5 m/\(cl=true->m≠qcl/\m≠qa5)/\τ=[some (.val (.int c)),some (.val (.bl cl)),some (.val (.str m))]) ?_ λnx hnx=>?now
 case now =>
  refine v_if (λb=>b=(cl&&(decide (m=qcl)||decide (m=qa5)))) (λY y=>?t1) (λhb=>?y1) λhb=>?n1
  case t1 =>
   rfl'
   cases cl
   ·exact iteF (y _ rfl)
   ·refine iteT ?_
    by_cases e:m=qcl
    ·rw[if_pos (decide_eq_true e)]
     exact y _ (by rw[decide_eq_true e];rfl)
    ·rw[if_neg (by rw[decide_eq_false e];decide)]
     exact y _ (by rw[decide_eq_false e];rfl)
  case y1 =>
   rfl'
   exact hnx _ ⟨qa3,.inr (.inr (.inl rfl)),λ_=>by decide +kernel,rfl⟩
  case n1 =>
   refine hnx _ ⟨m,hm,λe=>?_,rfl⟩
   rw[e,Bool.true_and,Eq.comm,Bool.or_eq_false_iff] at hb
   exact⟨of_decide_eq_false hb.1,of_decide_eq_false hb.2⟩
 clear hm m
 rintro τ ⟨m,hm,hcl,rfl⟩
 refine qbt (λb=>b=decide (m=qdg)) (λY y=>?t1) (λhb=>?y1) λhb=>?n1
 case t1 =>
  rfl'
  exact y _ rfl
 case y1 =>
  have e:=of_decide_eq_true hb.symm
  rfl'
  refine lsg _ λt ht=>?_
  rfl'
  exact⟨by decide,h m t ht (.inl e) hcl⟩
 case n1 =>
 have n1:=of_decide_eq_false hb.symm
 refine qbt (λb=>b=decide (m=qcz)) (λY y=>?t2) (λhb=>?y2) λhb=>?n2
 case t2 =>
  rfl'
  exact y _ rfl
 case y2 =>
  have e:=of_decide_eq_true hb.symm
  rfl'
  refine llk _ λt ht hw=>?_
  rfl'
  exact⟨by decide,h m t ht (.inr (.inl ⟨e,hw⟩)) hcl⟩
 case n2 =>
  have n2:=of_decide_eq_false hb.symm
  rfl'
  refine⟨by decide,h m tEmpty ⟨by decide +kernel,by decide +kernel⟩ (.inr (.inr ⟨?_,rfl⟩)) hcl⟩
  rcases hm with q|q|q|q|q
  ·exact absurd q n1
  ·exact absurd q n2
  ·exact .inl q
  ·exact .inr (.inl q)
  ·exact .inr (.inr q)
def qzc:TVS:=(vSeq (vSet 1 (vOp vAdd (vOp vIxR (vVar 0) (vC (.int 1))) (vC (.str (" " : Str)))))
 (vSeq (vFor (qck (vOp vIxR (vVar 0) (vC (.int 0)))) (qa1 2)
  (vSet 1 (vOp vAdd (vOp vAdd (vVar 1) (vC (.str ("/" : Str)))) (vVar 2))))
 (vSeq (vIfS (vBl (vOp vEq (vOp vIxR (vVar 0) (vC (.int 0))) (vTup vNil)))
  (vSet 1 (vOp vAdd (vVar 1) (vC (.str ("/" : Str)))))
  qaz)
 (vSeq (vIfS (vOrT (vBl (vOp vEq (vOp vIxR (vVar 0) (vC (.int 1))) (vC (.str ("file" : Str))))) (vBl (vOp vEq (vOp vIxR (vVar 0) (vC (.int 1))) (vC (.str ("link" : Str))))))
  (vRet (vOp vAdd (vOp vAdd (vVar 1) (vC (.str (" " : Str)))) (vOp vIxR (vVar 0) (vC (.int 2)))))
  qaz)
 (vRet (vVar 1))))))
abbrev q6b:List Str:=["_law_entry_here","_law_row_here","_law_name"]
theorem q7q:∀ds Q,g_row ds Q->qzc (En Q) (qat q6b ds):=by
 rintro ds Q ⟨r,rfl,wl,zl,ml,tl,h⟩
 have b1:(Str.ofString " ").length=1:=by decide +kernel
 have b2:(Str.ofString "/").length=1:=by decide +kernel
 have big:=qch
 refine v_cut (λτ=>∃z:Str,z.length<=7/\τ=[some (.val (rowD r)),some (.val (.str z)),none]) ?_ λnx hnx=>?now
 case now =>
  dsimp! only[qzc,rowD]
  exact⟨by rw[b1];omega,hnx _ ⟨_,by rw[PySem.Str.length_append,b1];omega,rfl⟩⟩
 rintro τ ⟨z0,l0,rfl⟩
 refine v_cut (λτ=>∃(z:Str) (a:Option R),z.length<=520/\τ=[some (.val (rowD r)),some (.val (.str z)),a]) ?_ λnx hnx=>?nwa
 case nwa =>
  dsimp! only[rowD,wayD]
  refine qe7 (λi τ=>∃(z:Str) (a:Option R),z.length<=7+13*i/\τ=[some (.val (rowD r)),some (.val (.str z)),a]) ⟨z0,none,l0,rfl⟩ ?_ ?_
  ·rintro i y τ hi ⟨z,a,hl,rfl⟩ nx2 hnx2
   have yl:=zl y (List.mem_of_getElem? hi)
   have li:=(List.getElem?_eq_some_iff.mp hi).1
   rfl'
   exact⟨by rw[b2];omega,by rw[PySem.Str.length_append,b2];omega,hnx2 _ ⟨_,_,by rw[PySem.Str.length_append,PySem.Str.length_append,b2];omega,rfl⟩⟩
  ·rintro τ ⟨z,a,hl,rfl⟩
   exact hnx _ ⟨z,a,by omega,rfl⟩
 rintro τ ⟨z,a,hl,rfl⟩
 refine v_cut (λτ=>∃z:Str,z.length<=521/\τ=[some (.val (rowD r)),some (.val (.str z)),a]) ?_ λnx hnx=>?nwb
 case nwb =>
  refine v_if (λ_=>True) (λY y=>?t1) (λ_=>?y1) λ_=>hnx _ ⟨z,by omega,rfl⟩
  case t1 =>
   dsimp! only[rowD,wayD]
   refine⟨cmpW r.1 [],depW r.1,?_⟩
   exact y _ trivial
  case y1 =>
   rfl'
   exact⟨by rw[b2];omega,hnx _ ⟨_,by rw[PySem.Str.length_append,b2];omega,rfl⟩⟩
 rintro τ ⟨z,hl,rfl⟩
 refine qbt (λ_=>True) (λY y=>?t1) (λ_=>?y1) λ_=>?n1
 case t1 =>
  dsimp! only[rowD]
  split
  ·exact y _ trivial
  ·exact y _ trivial
 case y1 =>
  dsimp! only[rowD]
  exact⟨by rw[b1];omega,by rw[PySem.Str.length_append,b1];omega,h _ (by rw[PySem.Str.length_append,PySem.Str.length_append,b1];omega)⟩
 case n1 =>
  rfl'
  exact h _ (by omega)
def qha:TVS:=(vSeq (qgu 2 ql8)
 (vSeq (qgu 3 (vLst (qab (vTup (qab (vTup vNil) (qab (vOp vEq (vOp vMod (vVar 1) (vC (.int 5))) (vC (.int 1))) vNil))) vNil)))
 (vSeq (vIfS (vBl (vOp vEq (vOp vMod (vVar 1) (vC (.int 5))) (vC (.int 1))))
  (qn2 2 (vTup vNil) (vTup (qab (vC (.str ("shut" : Str))) (qab (vC (.str ("" : Str))) vNil))))
  qaz)
 (vSeq (vFor (qck (vVar 0)) (qa1 4)
  (vSeq (vAsg (vOp vIxR (vVar 3) (qaj qap (qab (vVar 4) (qab (vC (.int 0)) (qab (vF1 vLen (vVar 3)) vNil))))) (qkp 2 (qco (qa1 5) (qco (qa1 6) qko))))
 (vSeq (vIfS (vBl (vOp vEq (qaj qap (qab (vVar 4) (qab (vC (.int 1)) (qab (vC (.int 2)) vNil)))) (vC (.int 0))))
  (vAsg (vOp vIxR (vVar 3) (vNeg (vC (.int 1)))) (qkp 2 (qco (qa1 5) (qco (qa1 6) qko))))
  qaz)
 (vSeq (vSet 7 (vOp vAdd (vVar 5) (vTup (qab (qaj qbn (qab (vOp vDiv (vVar 4) (vC (.int 3))) vNil)) vNil))))
 (vIfS (qe4 (vBl (vDIn (!·) (vVar 7) (vVar 2))) (vBl (vOp vLt (vF1 vLen (vVar 7)) (vC (.int 38)))))
  (vSeq (qn2 2 (vVar 7) (qaj qbv (qab (vVar 4) (qab (vVar 6) vNil))))
 (vIfS (vOrT (vBl (vOp vEq (vOp vIxR (qge (vVar 2) (vVar 7)) (vC (.int 0))) (vC (.str ("folder" : Str))))) (vBl (vOp vEq (vOp vIxR (qge (vVar 2) (vVar 7)) (vC (.int 0))) (vC (.str ("shut" : Str))))))
  (qia 3 (vTup (qab (vVar 7) (qab (vOrE (vVar 6) (vOp vEq (vOp vIxR (qge (vVar 2) (vVar 7)) (vC (.int 0))) (vC (.str ("shut" : Str))))) vNil))))
  qaz))
  qaz)))))
 (vRet (qeo (qck (vF1 qif (vF1 ql9 (vVar 2)))) (qa1 8) (λ_ Q=>Q true) (vTup (qab (vVar 8) (qab (vOp vIxR (qge (vVar 2) (vVar 8)) (vC (.int 0))) (qab (vOp vIxR (qge (vVar 2) (vVar 8)) (vC (.int 1))) vNil)))) 1))))))
abbrev qrq:List Str:=["_law_cells_here","_law_some","_law_things","_law_opens","_law_cell","_law_over","_law_closed","_law_way"]
theorem qu5:∀ds Q,qdx ds Q->qha (En Q) (qat qrq ds):=by
 rintro ds Q ⟨cs,s,rfl,c0,hcs,h⟩
 refine qfe ?_
 dsimp! only[qha]
 refine qfe ?_
 rfl'
 refine⟨by decide,by decide,?_⟩
 refine v_cut (λτ=>∃(rs:List Row) (os:List (List Str×Bool)),PB 0 rs os/\τ=[some (.val (.lst (cs.map D.int))),some (.val (.int s)),some (.own (qbf (rs.map prR))),some (.own (.lst (os.map opD))),none,none,none,none]) ?_ λnx hnx=>?now
 case now =>
  refine v_if (λb=>b=decide (s%5=1)) (λY y=>?t1) (λhb=>?y1) λhb=>?n1
  case t1 =>
   rfl'
   exact y _ rfl
  case y1 =>
   have:=hnx _ ⟨[([],qa5,tEmpty)],[([],true)],PB.start1,rfl⟩
   rfl'
   refine⟨by decide,[],rfl,by decide,by decide,?_⟩
   rw[←hb]
   exact this
  case n1 =>
   have:=hnx _ ⟨[],[([],false)],PB.start0,rfl⟩
   rw[←hb]
   exact this
 rintro τ ⟨rs0,os0,P0,rfl⟩
 refine v_cut (λτ=>∃(rs:List Row) (os:List (List Str×Bool)) (a b c d:Option R),PB cs.length rs os/\τ=[some (.val (.lst (cs.map D.int))),some (.val (.int s)),some (.own (qbf (rs.map prR))),some (.own (.lst (os.map opD))),a,b,c,d]) ?_ λnx hnx=>?nwa
 case nwa =>
  rfl'
  refine qe7 (λi τ=>∃(rs:List Row) (os:List (List Str×Bool)) (a b c d:Option R),PB i rs os/\τ=[some (.val (.lst (cs.map D.int))),some (.val (.int s)),some (.own (qbf (rs.map prR))),some (.own (.lst (os.map opD))),a,b,c,d]) ⟨rs0,os0,none,none,none,none,P0,rfl⟩ ?_ λτ q=>hnx τ q
  rintro i c τ hc ⟨rs,os,k4,k5,k6,k7,P,rfl⟩ nx2 hnx2
  have hi:=(List.getElem?_eq_some_iff.mp hc).1
  have hop:0<os.length:=List.length_pos_iff.mpr P.one
  have ol:=P.oln
  have rl:=P.len
  have mx:∀(k n:Int) (Y:R->Prop),0<=k->0<n->(∀i,0<=i->i<n->Y (.val (.int i)))->qap [.int c,.int k,.int n] Y:=λk n Y hk hn y=>⟨c,k,n,rfl,hk,hn,λi h0 h1 _=>y i h0 h1⟩
  have nb:∀(i:Int) (Y:R->Prop),(∀z:Str,nmB z=true->Y (.val (.str z)))->qbn [.int i] Y:=λi Y y=>⟨i,rfl,y⟩
  have eb:∀(cl:Bool) (Y:R->Prop),(∀m t,t.length<=400->m.length<=6->Y (.val (.tup [.str m,.str t])))->qbv [.int c,.bl cl] Y:=λcl Y y=>⟨c,cl,rfl,λm t h1 h2 _=>y m t h1.1 (kd_len h2)⟩
  refine v_cut (λτ=>∃(u:List Str) (cl:Bool),(u,cl)∈os/\τ=[some (.val (.lst (cs.map D.int))),some (.val (.int s)),some (.own (qbf (rs.map prR))),some (.own (.lst (os.map opD))),some (.val (.int c)),some (.val (wayD u)),some (.val (.bl cl)),k7]) ?_ λnx3 hnx3=>?nwb
  case nwb =>
   rfl'
   refine mx _ _ _ (by decide) (by omega) λk k0 k1=>?_
   obtain⟨p,hp,hp2⟩:=qce (xs:=os) (k:=k) k0 k1
   rfl'
   refine⟨opD p,by rw[qb5,hp];rfl,?_⟩
   dsimp! only[opD]
   exact hnx3 _ ⟨p.1,p.2,List.mem_of_getElem? hp2,rfl⟩
  rintro τ ⟨u,cl,mu,rfl⟩
  refine v_cut (λτ=>∃(u:List Str) (cl:Bool),(u,cl)∈os/\τ=[some (.val (.lst (cs.map D.int))),some (.val (.int s)),some (.own (qbf (rs.map prR))),some (.own (.lst (os.map opD))),some (.val (.int c)),some (.val (wayD u)),some (.val (.bl cl)),k7]) ?_ λnx3 hnx3=>?nwc
  case nwc =>
   rfl'
   refine mx _ _ _ (by decide) (by decide) λk k0 k1=>?_
   rfl'
   split
   ·refine⟨opD (os.getLast P.one),by rw[List.getLast?_map,List.getLast?_eq_some_getLast P.one];rfl,?_⟩
    dsimp! only[opD]
    exact hnx3 _ ⟨_,_,List.getLast_mem P.one,rfl⟩
   ·exact hnx3 _ ⟨u,cl,mu,rfl⟩
  clear mu cl u
  rintro τ ⟨u,cl,mu,rfl⟩
  have hu:u.length<=38/\∀z∈u,nmB z=true:=P.ow _ mu
  have hu1:=hu.1
  refine v_cut (λτ=>∃z:Str,nmB z=true/\τ=[some (.val (.lst (cs.map D.int))),some (.val (.int s)),some (.own (qbf (rs.map prR))),some (.own (.lst (os.map opD))),some (.val (.int c)),some (.val (wayD u)),some (.val (.bl cl)),some (.val (wayD (u++[z])))]) ?_ λnx3 hnx3=>?nwd
  case nwd =>
   dsimp! only[wayD]
   refine nb _ _ λz hz=>?_
   rfl'
   exact⟨by decide,Nat.le_trans (show _<=1000 by omega) qb4,hnx3 _ ⟨z,hz,rfl⟩⟩
  rintro τ ⟨z,hz,rfl⟩
  have put:=λ(m t:Str) (hl:(u++[z]).length<=38) (nw:u++[z]∉rs.map (·.1)) (ht:t.length<=400) (hm:m.length<=6)=>P.put hu hz hl nw ht hm
  have hwe:("" : Str)∉u++[z]:=λm=>by
   rcases List.mem_append.mp m with m|m
   ·exact qri (qjx (hu.2 _ m)) rfl
   ·exact qri (qjx hz) (List.mem_singleton.mp m).symm
  have lk:(lkP (rs.map prR) (u++[z])).isSome=decide (u++[z]∈rs.map (·.1)):=by
   rw[qs5,Option.isSome_map]
   exact(Option.isSome_map ..).symm.trans (qvy rs (u++[z]))
  have stay:¬ (u++[z]∉rs.map (·.1)/\(u++[z]).length<38)->nx2 _:=λq=>hnx2 _ ⟨rs,os,some (.val (.int c)),some (.val (wayD u)),some (.val (.bl cl)),some (.val (wayD (u++[z]))),P.stay λe=>q ⟨by rw[e];simp,by rw[show u=[] from (P.ze e).2 _ mu];simp⟩,rfl⟩
  generalize hw:u++[z]=w at *
  refine v_if (λb=>b=decide (w∉rs.map (·.1)/\w.length<38)) (λY y=>?t1) (λhyes=>?y1) λhno=>stay (of_decide_eq_false hno.symm)
  case t1 =>
   dsimp! only[qbf,wayD]
   refine⟨hwe,?_⟩
   rw[qb2,lk]
   by_cases hm:w∈rs.map (·.1)
   ·rw[decide_eq_true hm]
    exact iteF (y _ (by rw[decide_eq_false λz=>z.1 hm]))
   ·rw[decide_eq_false hm]
    refine iteT (y _ (decide_eq_decide.mpr ⟨λz=>⟨hm,by omega⟩,λz=>by omega⟩))
  case y1 =>
   obtain⟨hnw,h41⟩:=of_decide_eq_true hyes.symm
   have big:(rs.map prR).length<sizeLine:=Nat.lt_of_lt_of_le (show _<1000 by rw[List.length_map];omega) qb4
   refine v_cut (λτ=>∃m t:Str,t.length<=400/\m.length<=6/\τ=[some (.val (.lst (cs.map D.int))),some (.val (.int s)),some (.own (qbf ((rs++[(w,m,t)]).map prR))),some (.own (.lst (os.map opD))),some (.val (.int c)),some (.val (wayD u)),some (.val (.bl cl)),some (.val (wayD w))]) ?_ λnx3 hnx3=>?nwe
   case nwe =>
    dsimp! only[qbf,wayD]
    refine eb cl _ λm t ht hm=>?_
    rfl'
    refine⟨hwe,by simpa using big,?_⟩
    rw[qew,qst hnw]
    exact hnx3 _ ⟨m,t,ht,hm,rfl⟩
   rintro τ ⟨m,t,ht,hm,rfl⟩
   obtain⟨A,A2⟩:=put m t (by omega) hnw ht hm
   have get:lkD (((rs++[(w,m,t)]).map prR).map (·.1)) (((rs++[(w,m,t)]).map prR).map (·.2)) w=some (thD (m,t)):=by
    rw[qb2,qs5]
    have:=qgv A.nd (r:=(w,m,t)) (List.mem_append_right _ (List.mem_singleton.mpr rfl))
    simp only at this
    rw[this]
    rfl
   refine v_if (λ_=>True) (λY y=>?t2) (λ_=>?y2) λ_=>?n2
   case t2 =>
    dsimp! only[qbf,wayD]
    refine⟨hwe,_,get,?_⟩
    dsimp! only[thD]
    split
    ·exact y _ trivial
    ·refine⟨hwe,_,get,?_⟩
     dsimp! only[thD]
     exact y _ trivial
   case y2 =>
    have fin:=λc'=>hnx2 _ ⟨_,_,some (.val (.int c)),some (.val (wayD u)),some (.val (.bl cl)),some (.val (wayD w)),A2 c',rfl⟩
    have em:∀c':Bool,(os++[(w,c')]).map opD=os.map opD++[.tup [wayD w,.bl c']]:=λc'=>by rw[List.map_append];rfl
    simp only[em] at fin
    dsimp! only[qbf,wayD]
    cases cl with
   |true =>
     refine iteT ⟨by decide,Nat.lt_of_lt_of_le (show _<1000 by omega) qb4,?_⟩
     exact fin true
   |false =>
     refine iteF ⟨hwe,_,get,?_⟩
     dsimp! only[thD]
     exact⟨by decide,Nat.lt_of_lt_of_le (show _<1000 by omega) qb4,fin _⟩
   case n2=>exact hnx2 _ ⟨_,_,_,_,_,_,A,rfl⟩
 rintro τ ⟨rs,os,k4,k5,k6,k7,P,rfl⟩
 have rl:=P.len
 have r0:rs≠[]:=λe=>by have:=(P.ze e).1;omega
 dsimp! only[qbf]
 have ek:(((rs.map prR).map (·.1)).map λw=>D.tup (w.map D.str))=(rs.map (·.1)).map wayD:=by
  rw[List.map_map,List.map_map,List.map_map]
  rfl
 refine⟨?_,?_,λds hp hs=>?_⟩
 ·rw[ek]
  exact qq0 P.nd
 ·(first|omega|(simp only[List.length_map];omega))
 ·rw[ek] at hp
  obtain⟨vs,rfl,hv,hso⟩:=qu9 hp hs
  have hvl:vs.length=rs.length:=by rw[hv.length_eq,List.length_map]
  refine qc6 (λw=>rowD (w,lkR rs w)) vs (Nat.le_trans (show _<=1000 by omega) qb4) (λw mw Y N hY=>?_) ?_
  ·have mw':=hv.mem_iff.mp mw
   dsimp! only[wayD]
   have wk:("" : Str)∉w:=by
    obtain⟨r,mr,er⟩:=List.mem_map.mp mw'
    rw[←er]
    exact(P.en r mr).nme
   refine⟨wk,thD (lkR rs w),by rw[qb2];exact qs4 P.nd mw',?_⟩
   dsimp! only[thD]
   refine⟨wk,thD (lkR rs w),by rw[qb2];exact qs4 P.nd mw',?_⟩
   dsimp! only[thD]
   exact⟨by decide,hY⟩
  ·rfl'
   have e:vs.map (λw=>rowD (w,lkR rs w))=(vs.map λw=>(w,lkR rs w)).map rowD:=by rw[List.map_map];rfl
   rw[e]
   obtain⟨p1,p2⟩:=qlx P.nd hv hso
   exact h _ (λe=>r0 (List.eq_nil_of_length_eq_zero (by rw[←p1.length_eq,e];rfl))) (by rw[p1.length_eq];omega) λr mr=>P.en r (p1.mem_iff.mp mr)
def qhd:TVS:=(vSeq (vSet 1 (vC (.str (" !\"#$&'()*+,-./0123456789:;<=>?@ABCDEFGHIJKLMNOPQRSTUVWXYZ[\\]^_`" : Str))))
 (vSeq (vSet 1 (vOp vAdd (vVar 1) (vC (.str ("abcdefghijklmnopqrstuvwxyz{|}~" : Str)))))
 (vSeq (vSet 2 (qaj qap (qab (vVar 0) (qab (vC (.int 0)) (qab (vC (.int 6)) vNil)))))
 (vSeq (vIfS (vBl (vOp vLt (vVar 2) (vC (.int 3))))
  (vRet (vOp vIxR (vTup (qab (vC (.str (" " : Str))) (qab (vC (.str ("/" : Str))) (qab (vC (.str ("\n" : Str))) vNil)))) (vVar 2)))
  qaz)
 (vRet (vOp vIxR (vVar 1) (qaj qap (qab (vVar 0) (qab (vC (.int 1)) (qab (vF1 vLen (vVar 1)) vNil))))))))))
abbrev qrs:List Str:=["_law_cell","_law_some","_law_kind"]
theorem qu7:∀ds Q,qdz ds Q->qhd (En Q) (qat qrs ds):=by
 rintro ds Q ⟨c,rfl,h⟩
 have mx:∀(k n:Int) (Y:R->Prop),0<=k->0<n->(∀i,0<=i->i<n->Y (.val (.int i)))->qap [.int c,.int k,.int n] Y:=λk n Y hk hn y=>⟨c,k,n,rfl,hk,hn,λi h0 h1 _=>y i h0 h1⟩
 refine qfe ?_
 dsimp! only[qhd]
 refine v_cut (λτ=>τ=[some (.val (.int c)),some (.val (.str PS94)),none]) ?_ λnx hnx=>?now
 case now =>
  rfl'
  exact⟨by decide +kernel,hnx _ rfl⟩
 rintro τ rfl
 refine v_cut (λτ=>∃k:Int,0<=k/\τ=[some (.val (.int c)),some (.val (.str PS94)),some (.val (.int k))]) ?_ λnx hnx=>?nwa
 case nwa =>
  rfl'
  refine mx _ _ _ (by decide) (by decide) λk k0 k1=>?_
  rfl'
  exact hnx _ ⟨k,k0,rfl⟩
 rintro τ ⟨k,k0,rfl⟩
 refine qbt (λb=>b=decide (k<3)) (λY y=>?t1) (λhb=>?y1) λ_=>?n1
 case t1 =>
  rfl'
  exact y _ rfl
 case y1 =>
  have k1:=of_decide_eq_true hb.symm
  obtain⟨y,hy,hy2⟩:=qce (xs:=[Str.ofString " ",Str.ofString "/",Str.ofString "\n"]) (k:=k) k0 k1
  have my:=List.mem_of_getElem? hy2
  have ny:y.length<=1:=by
   simp only[List.mem_cons,List.not_mem_nil,or_false] at my
   rcases my with q|q|q<;>(subst q;decide +kernel)
  rfl'
  refine⟨by decide,.str y,?_,h y ny⟩
  rw[show [D.str (Str.ofString " "),D.str (Str.ofString "/"),D.str (Str.ofString "\n")]=[Str.ofString " ",Str.ofString "/",Str.ofString "\n"].map D.str from rfl,qb5,hy]
  rfl
 case n1 =>
  have p94:=qyg
  rfl'
  refine⟨by rw[p94];decide,?_⟩
  refine mx _ _ _ (by decide) (by rw[p94];decide) λj j0 j1=>?_
  obtain⟨v,hv,hv2⟩:=qce (xs:=PS94.cps.toList) (k:=j) j0 j1
  rfl'
  exact⟨by rw[p94];decide,v,hv,h _ (Nat.le_refl _)⟩
def qfz:TVS:=(vSeq (qgu 5 (qeo (qck (vVar 0)) (qa1 8) (λ_ Q=>Q true) (qaj g_row (qab (vVar 8) vNil)) 1))
 (vSeq (vIfS (vBl (vOp vEq (vVar 1) (vC (.int 1))))
  (qxi 5 (vVar 2) (vVar 3) (vTup (qab (vOp vIxR (vVar 5) (vVar 3)) (qab (vOp vIxR (vVar 5) (vVar 2)) vNil))))
  qaz)
 (vSeq (vIfS (vBl (vOp vEq (vVar 1) (vC (.int 2))))
  (qxh 5 (vVar 2))
  qaz)
 (vSeq (vIfS (vBl (vOp vEq (vVar 1) (vC (.int 3))))
  (qid 5 (qab (vVar 3) (qab (vOp vIxR (vVar 5) (vVar 2)) vNil)))
  qaz)
 (vSeq (vIfS (vBl (vOp vEq (vVar 1) (vC (.int 4))))
  (quk 5 (vVar 2) (vOp vAdd (vOp vIxR (vVar 5) (vVar 2)) (vC (.str (" " : Str)))))
  qaz)
 (vSeq (vIfS (vBl (vOp vEq (vVar 1) (vC (.int 5))))
  (vSeq (vSet 6 (vOp vIxR (vTup (qab (vC (.str ("folder" : Str))) (qab (vC (.str ("shut" : Str))) (qab (vC (.str ("gone" : Str))) (qab (vC (.str ("file" : Str))) (qab (vC (.str ("link" : Str))) (qab (vC (.str ("files" : Str))) vNil))))))) (qaj qap (qab (vVar 4) (qab (vC (.int 2)) (qab (vC (.int 6)) vNil))))))
 (quk 5 (vVar 2) (qaj g_row (qab (vTup (qab (vOp vIxR (vOp vIxR (vVar 0) (vVar 2)) (vC (.int 0))) (qab (vVar 6) (qab (vOp vIxR (vOp vIxR (vVar 0) (vVar 2)) (vC (.int 2))) vNil)))) vNil))))
  qaz)
 (vSeq (vIfS (vBl (vOp vEq (vVar 1) (vC (.int 6))))
  (vSeq (vSet 7 (vOp vAdd (vOp vIxR (vOp vIxR (vVar 0) (vVar 2)) (vC (.int 0))) (vTup (qab (qaj qbn (qab (vOp vDiv (vVar 4) (vC (.int 5))) vNil)) vNil))))
 (qid 5 (qab (vOp vAdd (vVar 3) (vC (.int 1))) (qab (qaj g_row (qab (vOp vAdd (vTup (qab (vVar 7) vNil)) (qaj qbv (qab (vVar 4) (qab (vC (.bl false)) vNil)))) vNil)) vNil))))
  qaz)
 (vRet (qkk (vC (.str ("\n" : Str))) (vVar 5))))))))))
abbrev qp0:List Str:=["_law_pane","_law_kind","_law_one","_law_other","_law_cell","_law_rows","_law_mark","_law_way"]
def OR(j:Nat)(kd:Int)(n:Nat)(ss:List Str):Prop:=(∀s∈ss,s.length<=1000+j)/\ss.length<=n+1/\(kd<=j\/ss.length=n)
theorem OR.up{j:Nat}{kd:Int}{n:Nat}{ss:List Str}(h:OR j kd n ss):OR (j+1) kd n ss:=⟨λs m=>Nat.le_succ_of_le (h.1 s m),h.2.1,h.2.2.imp (λz=>by omega) id⟩
theorem qot{n:Nat}{k:Int}(h0:0<=k)(h1:k<n):ixN n k=some k.toNat:=by
 unfold ixN
 first
 |(rw[if_pos ⟨h0,h1⟩];done)
 |(split<;>first|rfl|omega)
theorem qgy{ss:List Str}(j:Nat)(z:Str):(ss.map D.str).set j (.str z)=(ss.set j z).map D.str:=by rw[List.map_set]
theorem qrd:∀ds Q,qda ds Q->qfz (En Q) (qat qp0 ds):=by
 rintro ds Q ⟨ts,kd,a,b,c,rfl,kd0,tl,tS,a0,a1,b0,b1,h⟩
 have lr:∀(r:Row) (Y:R->Prop),r.1.length<=39->(∀z∈r.1,z.length<=12)->r.2.1.length<=6->r.2.2.length<=400->(∀t:Str,t.length<=1000->Y (.val (.str t)))->g_row [rowD r] Y:=λr Y h1 h2 h3 h4 y=>⟨r,rfl,h1,h2,h3,h4,y⟩
 have sr:∀r∈ts,∀Y:R->Prop,(∀t:Str,t.length<=1000->Y (.val (.str t)))->g_row [rowD r] Y:=λr mr Y y=>lr r Y (Nat.le_succ_of_le (tS r mr).wl) (λz m=>(qi0 ((tS r mr).nm z m)).2) (tS r mr).ml (tS r mr).tl y
 have big:=qch
 have bl:(Str.ofString " ").length=1:=by decide +kernel
 have o1:(Str.ofString "\n").length=1:=by decide +kernel
 have mx:∀(k n:Int) (Y:R->Prop),0<=k->0<n->(∀i,0<=i->i<n->Y (.val (.int i)))->qap [.int c,.int k,.int n] Y:=λk n Y hk hn y=>⟨c,k,n,rfl,hk,hn,λi h0 h1 _=>y i h0 h1⟩
 have nb:∀(i:Int) (Y:R->Prop),(∀z:Str,nmB z=true->Y (.val (.str z)))->qbn [.int i] Y:=λi Y y=>⟨i,rfl,y⟩
 have eb:∀(cl:Bool) (Y:R->Prop),(∀m t,t.length<=400->m.length<=6->Y (.val (.tup [.str m,.str t])))->qbv [.int c,.bl cl] Y:=λcl Y y=>⟨c,cl,rfl,λm t h1 h2 _=>y m t h1.1 (kd_len h2)⟩
 obtain⟨ra,hra,hra2⟩:=qce (xs:=ts) (k:=a) a0 a1
 have mra:=List.mem_of_getElem? hra2
 have sra:=tS ra mra
 have ata:atI (ts.map rowD) a=some (rowD ra):=by rw[qb5,hra];rfl
 have get:∀(ss:List Str) (k:Int),0<=k->k<ss.length->∃z∈ss,atI (ss.map D.str) k=some (.str z):=λss k k0 k1=>by
  obtain⟨z,h1,h2⟩:=qce (xs:=ss) (k:=k) k0 k1
  exact⟨z,List.mem_of_getElem? h2,by rw[qb5,h1];rfl⟩
 refine v_cut (λτ=>∃ss:List Str,OR 0 kd ts.length ss/\τ=[some (.val (qax ts)),some (.val (.int kd)),some (.val (.int a)),some (.val (.int b)),some (.val (.int c)),some (.own (.lst (ss.map D.str))),none,none]) ?_ λnx hnx=>?now
 case now =>
  dsimp! only[qfz,qax]
  refine qof (λd=>∃z:Str,z.length<=1000/\d=.str z) ts (by omega) (λr mr Y N hY=>?_) λes hl he=>?_
  ·rfl'
   refine sr r mr _ λt ht=>?_
   rfl'
   exact hY _ ⟨t,ht,rfl⟩
  ·obtain⟨ss,rfl,hs⟩:=qh9 he
   rw[List.length_map] at hl
   rfl'
   exact hnx _ ⟨ss,⟨hs,by omega,.inr hl⟩,rfl⟩
 rintro τ ⟨ss,O,rfl⟩
 refine v_cut (λτ=>∃ss:List Str,OR 1 kd ts.length ss/\τ=[some (.val (qax ts)),some (.val (.int kd)),some (.val (.int a)),some (.val (.int b)),some (.val (.int c)),some (.own (.lst (ss.map D.str))),none,none]) ?_ λnx hnx=>?nwa
 case nwa =>
  refine v_if (λq=>q=decide (kd=1)) (λY y=>?t1) (λhb=>?y1) λ_=>hnx _ ⟨ss,O.up,rfl⟩
  case t1 =>
   rfl'
   exact y _ rfl
  case y1 =>
   have k1:=of_decide_eq_true hb.symm
   have ln:ss.length=ts.length:=O.2.2.resolve_left (by omega)
   obtain⟨za,ma,ea⟩:=get ss a a0 (by omega)
   obtain⟨zb,mb,eb'⟩:=get ss b b0 (by omega)
   dsimp! only[ownL]
   refine⟨.str zb,eb',?_⟩
   rfl'
   refine⟨.str za,ea,?_⟩
   rfl'
   refine⟨by decide,a.toNat,?_,b.toNat,?_,?_⟩
   ·exact qot a0 (by omega)
   ·exact qot b0 (by omega)
   ·rw[qgy,qgy]
    refine hnx _ ⟨_,⟨λs m=>?_,by rw[List.length_set,List.length_set];omega,.inr (by rw[List.length_set,List.length_set];exact ln)⟩,rfl⟩
    rcases List.mem_or_eq_of_mem_set m with m|rfl
    ·rcases List.mem_or_eq_of_mem_set m with m|rfl
     ·exact Nat.le_succ_of_le (O.1 s m)
     ·exact Nat.le_succ_of_le (O.1 _ mb)
    ·exact Nat.le_succ_of_le (O.1 _ ma)
 clear O ss
 rintro τ ⟨ss,O,rfl⟩
 refine v_cut (λτ=>∃ss:List Str,OR 2 kd ts.length ss/\τ=[some (.val (qax ts)),some (.val (.int kd)),some (.val (.int a)),some (.val (.int b)),some (.val (.int c)),some (.own (.lst (ss.map D.str))),none,none]) ?_ λnx hnx=>?nwb
 case nwb =>
  refine v_if (λq=>q=decide (kd=2)) (λY y=>?t1) (λhb=>?y1) λ_=>hnx _ ⟨ss,O.up,rfl⟩
  case t1 =>
   rfl'
   exact y _ rfl
  case y1 =>
   have k1:=of_decide_eq_true hb.symm
   have ln:ss.length=ts.length:=O.2.2.resolve_left (by omega)
   dsimp! only[ownL]
   refine⟨a0,by omega,by omega,?_⟩
   rw[qsf]
   exact hnx _ ⟨_,⟨λs m=>Nat.le_succ_of_le (O.1 s (List.mem_of_mem_eraseIdx m)),by have:=List.length_eraseIdx_le ss a.toNat;omega,.inl (by omega)⟩,rfl⟩
 clear O ss
 rintro τ ⟨ss,O,rfl⟩
 refine v_cut (λτ=>∃ss:List Str,OR 3 kd ts.length ss/\τ=[some (.val (qax ts)),some (.val (.int kd)),some (.val (.int a)),some (.val (.int b)),some (.val (.int c)),some (.own (.lst (ss.map D.str))),none,none]) ?_ λnx hnx=>?nwc
 case nwc =>
  refine v_if (λq=>q=decide (kd=3)) (λY y=>?t1) (λhb=>?y1) λ_=>hnx _ ⟨ss,O.up,rfl⟩
  case t1 =>
   rfl'
   exact y _ rfl
  case y1 =>
   have k1:=of_decide_eq_true hb.symm
   have ln:ss.length=ts.length:=O.2.2.resolve_left (by omega)
   obtain⟨za,ma,ea⟩:=get ss a a0 (by omega)
   dsimp! only[ownL]
   refine⟨.str za,ea,?_⟩
   rfl'
   refine⟨b0,by omega,by omega,by omega,?_⟩
   rw[qoq]
   exact hnx _ ⟨_,⟨λs m=>(qss m).elim (λq=>q▸Nat.le_succ_of_le (O.1 _ ma)) λm=>Nat.le_succ_of_le (O.1 s m),by rw[qop];omega,.inl (by omega)⟩,rfl⟩
 clear O ss
 rintro τ ⟨ss,O,rfl⟩
 refine v_cut (λτ=>∃ss:List Str,OR 4 kd ts.length ss/\τ=[some (.val (qax ts)),some (.val (.int kd)),some (.val (.int a)),some (.val (.int b)),some (.val (.int c)),some (.own (.lst (ss.map D.str))),none,none]) ?_ λnx hnx=>?nwd
 case nwd =>
  refine v_if (λq=>q=decide (kd=4)) (λY y=>?t1) (λhb=>?y1) λ_=>hnx _ ⟨ss,O.up,rfl⟩
  case t1 =>
   rfl'
   exact y _ rfl
  case y1 =>
   have k1:=of_decide_eq_true hb.symm
   have ln:ss.length=ts.length:=O.2.2.resolve_left (by omega)
   obtain⟨za,ma,ea⟩:=get ss a a0 (by omega)
   have zl:=O.1 _ ma
   dsimp! only[ownL]
   refine⟨.str za,ea,?_⟩
   rfl'
   refine⟨by rw[bl];omega,a.toNat,qot a0 (by omega),?_⟩
   rw[qgy]
   refine hnx _ ⟨_,⟨λs m=>?_,by rw[List.length_set];omega,.inr (by rw[List.length_set];exact ln)⟩,rfl⟩
   rcases List.mem_or_eq_of_mem_set m with m|rfl
   ·exact Nat.le_succ_of_le (O.1 s m)
   ·rw[PySem.Str.length_append,bl]
    omega
 clear O ss
 rintro τ ⟨ss,O,rfl⟩
 refine v_cut (λτ=>∃(ss:List Str) (x:Option R),OR 5 kd ts.length ss/\τ=[some (.val (qax ts)),some (.val (.int kd)),some (.val (.int a)),some (.val (.int b)),some (.val (.int c)),some (.own (.lst (ss.map D.str))),x,none]) ?_ λnx hnx=>?nwe
 case nwe =>
  refine v_if (λq=>q=decide (kd=5)) (λY y=>?t1) (λhb=>?y1) λ_=>hnx _ ⟨ss,none,O.up,rfl⟩
  case t1 =>
   rfl'
   exact y _ rfl
  case y1 =>
   have k1:=of_decide_eq_true hb.symm
   have ln:ss.length=ts.length:=O.2.2.resolve_left (by omega)
   refine v_cut (λτ=>∃m:Str,m.length<=6/\τ=[some (.val (qax ts)),some (.val (.int kd)),some (.val (.int a)),some (.val (.int b)),some (.val (.int c)),some (.own (.lst (ss.map D.str))),some (.val (.str m)),none]) ?_ λnx2 hnx2=>?nwf
   case nwf =>
    rfl'
    refine⟨by decide,?_⟩
    refine mx _ _ _ (by decide) (by decide) λj j0 j1=>?_
    obtain⟨y,hy,hy2⟩:=qce (xs:=[qa3,qa5,qcl,qdg,qcz,Str.ofString "files"]) (k:=j) j0 j1
    have my:=List.mem_of_getElem? hy2
    rfl'
    refine⟨.str y,?_,hnx2 _ ⟨y,?_,rfl⟩⟩
    ·rw[show [D.str (Str.ofString "folder"),D.str (Str.ofString "shut"),D.str (Str.ofString "gone"),D.str (Str.ofString "file"),D.str (Str.ofString "link"),D.str (Str.ofString "files")]=[qa3,qa5,qcl,qdg,qcz,Str.ofString "files"].map D.str from rfl,qb5,hy]
     rfl
    ·simp only[List.mem_cons,List.not_mem_nil,or_false] at my
     rcases my with q|q|q|q|q|q<;>(rw[q];decide +kernel)
   rintro τ ⟨m,ml,rfl⟩
   dsimp! only[ownL,qax]
   refine⟨rowD ra,ata,?_⟩
   dsimp! only[rowD]
   refine⟨rowD ra,ata,?_⟩
   dsimp! only[rowD]
   refine⟨by decide,?_⟩
   refine lr (ra.1,m,ra.2.2) _ (Nat.le_succ_of_le sra.wl) (λz m=>(qi0 (sra.nm z m)).2) ml sra.tl λt ht=>?_
   rfl'
   refine⟨a.toNat,qot a0 (by omega),?_⟩
   rw[qgy]
   refine hnx _ ⟨_,_,⟨λs m=>?_,by rw[List.length_set];omega,.inr (by rw[List.length_set];exact ln)⟩,rfl⟩
   rcases List.mem_or_eq_of_mem_set m with m|rfl
   ·exact Nat.le_succ_of_le (O.1 s m)
   ·omega
 clear O ss
 rintro τ ⟨ss,x,O,rfl⟩
 refine v_cut (λτ=>∃(ss:List Str) (x y:Option R),OR 6 kd ts.length ss/\τ=[some (.val (qax ts)),some (.val (.int kd)),some (.val (.int a)),some (.val (.int b)),some (.val (.int c)),some (.own (.lst (ss.map D.str))),x,y]) ?_ λnx hnx=>?nwg
 case nwg =>
  refine v_if (λq=>q=decide (kd=6)) (λY y=>?t1) (λhb=>?y1) λ_=>hnx _ ⟨ss,x,none,O.up,rfl⟩
  case t1 =>
   rfl'
   exact y _ rfl
  case y1 =>
   have k1:=of_decide_eq_true hb.symm
   have ln:ss.length=ts.length:=O.2.2.resolve_left (by omega)
   have wl:=sra.wl
   refine v_cut (λτ=>∃z:Str,nmB z=true/\τ=[some (.val (qax ts)),some (.val (.int kd)),some (.val (.int a)),some (.val (.int b)),some (.val (.int c)),some (.own (.lst (ss.map D.str))),x,some (.val (wayD (ra.1++[z])))]) ?_ λnx2 hnx2=>?nwh
   case nwh =>
    dsimp! only[qax]
    refine⟨rowD ra,ata,?_⟩
    dsimp! only[rowD,wayD]
    refine nb _ _ λz hz=>?_
    rfl'
    exact⟨by decide,Nat.le_trans (show _<=1000 by omega) qb4,hnx2 _ ⟨z,hz,rfl⟩⟩
   rintro τ ⟨z,hz,rfl⟩
   dsimp! only[ownL]
   refine⟨by decide,?_⟩
   refine eb _ _ λm t tl' ml=>?_
   rfl'
   refine⟨by decide,?_⟩
   refine lr (ra.1++[z],m,t) _ (by show (ra.1++[z]).length<=39;rw[List.length_append,List.length_singleton];omega) (λy my=>(List.mem_append.mp my).elim (λq=>(qi0 (sra.nm y q)).2) λq=>by rw[List.mem_singleton.mp q];exact(qi0 hz).2) ml tl' λt' ht=>?_
   rfl'
   refine⟨by omega,by omega,by omega,by omega,?_⟩
   rw[qoq]
   exact hnx _ ⟨_,_,_,⟨λs m=>(qss m).elim (λq=>q▸Nat.le_trans ht (by omega)) λm=>Nat.le_succ_of_le (O.1 s m),by rw[qop];omega,.inl (by omega)⟩,rfl⟩
 clear O ss x
 rintro τ ⟨ss,x,y,O,rfl⟩
 have sm:=qt9 O.1
 have ol:=O.2.1
 have gl:=qoo (Str.ofString "\n") ss
 have cm:1006*ss.length<=1006*44:=Nat.mul_le_mul_left _ (by omega)
 rfl'
 refine⟨ss,.inl rfl,by rw[o1];omega,h _ ?_⟩
 rw[o1] at gl
 omega
def qjf:TVS:=(vSeq (vSet 2 (qaj qap (qab (qaj qa0 (qab (vVar 1) (qab (vC (.int 2)) vNil))) (qab (vC (.int 0)) (qab (vC (.int 10)) vNil)))))
 (vSeq (vSet 3 (qaj qap (qab (qaj qa0 (qab (vVar 1) (qab (vC (.int 3)) vNil))) (qab (vC (.int 0)) (qab (vF1 vLen (vVar 0)) vNil)))))
 (vSeq (vSet 4 (qaj qap (qab (qaj qa0 (qab (vVar 1) (qab (vC (.int 4)) vNil))) (qab (vC (.int 1)) (qab (vF1 vLen (vVar 0)) vNil)))))
 (vSeq (vIfS (qe4 (vBl (vOp vEq (vVar 2) (vC (.int 6)))) (vBl (vOp vEq (qaj qap (qab (qaj qa0 (qab (vVar 1) (qab (vC (.int 5)) vNil))) (qab (vC (.int 3)) (qab (vC (.int 2)) vNil)))) (vC (.int 0)))))
  (vSet 4 (vVar 3))
  qaz)
 (vSeq (vSet 5 (qaj qda (qab (vVar 0) (qab (vVar 2) (qab (vVar 3) (qab (vVar 4) (qab (qaj qa0 (qab (vVar 1) (qab (vC (.int 5)) vNil))) vNil)))))))
 (vSeq (vSet 6 (vOp vMod (qaj qa0 (qab (vVar 1) (qab (vC (.int 4)) vNil))) (vOp vAdd (vF1 vLen (vVar 5)) (vC (.int 1)))))
 (vSeq (vSet 7 (qaj qdz (qab (qaj qa0 (qab (vVar 1) (qab (vC (.int 5)) vNil))) vNil)))
 (vSeq (vIfS (vBl (vOp vEq (vVar 2) (vC (.int 7))))
  (vRet (vOp vAdd (vOp vAdd (qcn (vVar 5) qbp (qeb (vVar 6))) (vVar 7)) (qcn (vVar 5) (qeb (vOp vAdd (vVar 6) (vC (.int 1)))) qbp)))
  qaz)
 (vSeq (vIfS (vBl (vOp vEq (vVar 2) (vC (.int 8))))
  (vRet (vOp vAdd (vOp vAdd (qcn (vVar 5) qbp (qeb (vVar 6))) (vVar 7)) (qcn (vVar 5) (qeb (vVar 6)) qbp)))
  qaz)
 (vSeq (vIfS (vBl (vOp vEq (vVar 2) (vC (.int 9))))
  (vRet (vOp vIxR (vTup (qab (vOp vAdd (vVar 5) (vC (.str ("\n" : Str)))) (qab (vOp vAdd (vC (.str ("\n" : Str))) (vVar 5)) vNil))) (vOp vMod (vVar 6) (vC (.int 2)))))
  qaz)
 (vRet (vVar 5))))))))))))
abbrev qvf:List Str:=["_law_pane","_law_script","_law_kind","_law_one","_law_other","_law_text","_law_place","_law_sign"]
theorem qxv:∀ds Q,qeu ds Q->qjf (En Q) (qat qvf ds):=by
 rintro ds Q ⟨ts,ns,rfl,t0,tl,tS,h⟩
 have l0:=List.length_pos_iff.mpr t0
 have big:=qch
 have o1:(Str.ofString "\n").length=1:=by decide +kernel
 have mx:∀(c k n:Int) (Y:R->Prop),0<=k->0<n->(∀i,0<=i->i<n->Y (.val (.int i)))->qap [.int c,.int k,.int n] Y:=λc k n Y hk hn y=>⟨c,k,n,rfl,hk,hn,λi h0 h1 _=>y i h0 h1⟩
 have ca:∀(k:Int) (Y:R->Prop),0<=k->(∀c,Y (.val (.int c)))->qa0 [.scr ns,.int k] Y:=λk Y hk y=>⟨ns,k,rfl,hk,y _⟩
 have lo:∀(kd a b c:Int) (Y:R->Prop),0<=kd->0<=a->a<ts.length->0<=b->b<ts.length->(∀t:Str,t.length<=46000->Y (.val (.str t)))->qda [qax ts,.int kd,.int a,.int b,.int c] Y:=λkd a b c Y h0 h1 h2 h3 h4 y=>⟨ts,kd,a,b,c,rfl,h0,tl,tS,h1,h2,h3,h4,y⟩
 have sg:∀(c:Int) (Y:R->Prop),(∀t:Str,t.length<=1->Y (.val (.str t)))->qdz [.int c] Y:=λc Y y=>⟨c,rfl,y⟩
 refine v_cut (λτ=>∃kd:Int,0<=kd/\τ=[some (.val (qax ts)),some (.val (.scr ns)),some (.val (.int kd)),none,none,none,none,none]) ?_ λnx hnx=>?now
 case now =>
  dsimp! only[qjf]
  refine ca _ _ (by decide) λc=>?_
  rfl'
  refine mx _ _ _ _ (by decide) (by decide) λk k0 k1=>?_
  rfl'
  exact hnx _ ⟨k,k0,rfl⟩
 rintro τ ⟨kd,kd0,rfl⟩
 refine v_cut (λτ=>∃a:Int,0<=a/\a<ts.length/\τ=[some (.val (qax ts)),some (.val (.scr ns)),some (.val (.int kd)),some (.val (.int a)),none,none,none,none]) ?_ λnx hnx=>?nwa
 case nwa =>
  dsimp! only[qax]
  refine ca _ _ (by decide) λc=>?_
  rfl'
  refine mx _ _ _ _ (by decide) (by omega) λk k0 k1=>?_
  rfl'
  exact hnx _ ⟨k,k0,by omega,rfl⟩
 rintro τ ⟨a,a0,a1,rfl⟩
 refine v_cut (λτ=>∃b:Int,0<=b/\b<ts.length/\τ=[some (.val (qax ts)),some (.val (.scr ns)),some (.val (.int kd)),some (.val (.int a)),some (.val (.int b)),none,none,none]) ?_ λnx hnx=>?nwb
 case nwb =>
  dsimp! only[qax]
  refine ca _ _ (by decide) λc=>?_
  rfl'
  refine mx _ _ _ _ (by decide) (by omega) λk k0 k1=>?_
  rfl'
  exact hnx _ ⟨k,k0,by omega,rfl⟩
 rintro τ ⟨b,b0,b1,rfl⟩
 refine v_cut (λτ=>∃b:Int,0<=b/\b<ts.length/\τ=[some (.val (qax ts)),some (.val (.scr ns)),some (.val (.int kd)),some (.val (.int a)),some (.val (.int b)),none,none,none]) ?_ λnx hnx=>?nwc
 case nwc =>
  refine v_if (λ_=>True) (λY y=>?t1) (λ_=>?y1) λ_=>hnx _ ⟨b,b0,b1,rfl⟩
  case t1 =>
   rfl'
   split
   ·refine ca _ _ (by decide) λc=>?_
    rfl'
    refine mx _ _ _ _ (by decide) (by decide) λk k0 k1=>?_
    rfl'
    exact y _ trivial
   ·exact y _ trivial
  case y1 =>
   rfl'
   exact hnx _ ⟨a,a0,a1,rfl⟩
 clear b0 b1 b
 rintro τ ⟨b,b0,b1,rfl⟩
 refine v_cut (λτ=>∃t:Str,t.length<=46000/\τ=[some (.val (qax ts)),some (.val (.scr ns)),some (.val (.int kd)),some (.val (.int a)),some (.val (.int b)),some (.val (.str t)),none,none]) ?_ λnx hnx=>?nwd
 case nwd =>
  rfl'
  refine ca _ _ (by decide) λc=>?_
  rfl'
  refine lo _ _ _ _ _ kd0 a0 a1 b0 b1 λt ht=>?_
  rfl'
  exact hnx _ ⟨t,ht,rfl⟩
 rintro τ ⟨t,ht,rfl⟩
 refine v_cut (λτ=>∃p:Int,0<=p/\τ=[some (.val (qax ts)),some (.val (.scr ns)),some (.val (.int kd)),some (.val (.int a)),some (.val (.int b)),some (.val (.str t)),some (.val (.int p)),none]) ?_ λnx hnx=>?nwe
 case nwe =>
  rfl'
  refine ca _ _ (by decide) λc=>?_
  rfl'
  refine⟨by omega,by omega,hnx _ ⟨_,Int.emod_nonneg _ (by omega),rfl⟩⟩
 rintro τ ⟨p,p0,rfl⟩
 refine v_cut (λτ=>∃z:Str,z.length<=1/\τ=[some (.val (qax ts)),some (.val (.scr ns)),some (.val (.int kd)),some (.val (.int a)),some (.val (.int b)),some (.val (.str t)),some (.val (.int p)),some (.val (.str z))]) ?_ λnx hnx=>?nwf
 case nwf =>
  rfl'
  refine ca _ _ (by decide) λc=>?_
  rfl'
  refine sg _ _ λz hz=>?_
  rfl'
  exact hnx _ ⟨z,hz,rfl⟩
 rintro τ ⟨z,hz,rfl⟩
 have pt:∀q,p<=q->t.length<=sizeLine/\(Txt.slice t none (some p)).length+z.length<=sizeLine/\t.length<=sizeLine/\(Txt.slice t none (some p)++z).length+(Txt.slice t (some q) none).length<=sizeLine/\Q (.val (.str (Txt.slice t none (some p)++z++Txt.slice t (some q) none))):=λq hq=>by
  have:=qt6 t p0 hq
  rw[PySem.Str.length_append]
  exact⟨by omega,by omega,by omega,by omega,h _ (by rw[PySem.Str.length_append,PySem.Str.length_append];omega)⟩
 refine qbt (λ_=>True) (λY y=>?t1) (λ_=>?y1) λ_=>?n1
 case t1 =>
  rfl'
  exact y _ trivial
 case y1 =>
  rfl'
  exact pt (p+1) (by omega)
 case n1 =>
 refine qbt (λ_=>True) (λY y=>?t2) (λ_=>?y2) λ_=>?n2
 case t2 =>
  rfl'
  exact y _ trivial
 case y2 =>
  rfl'
  exact pt p (Int.le_refl _)
 case n2 =>
 refine qbt (λ_=>True) (λY y=>?t3) (λ_=>?y3) λ_=>?n3
 case t3 =>
  rfl'
  exact y _ trivial
 case y3 =>
  obtain⟨y,hy,hy2⟩:=qce (xs:=[t++Str.ofString "\n",Str.ofString "\n" ++ t]) (k:=p%2) (Int.emod_nonneg _ (by decide)) (Int.emod_lt_of_pos _ (by decide))
  have my:=List.mem_of_getElem? hy2
  have yl:y.length<=50000:=by
   simp only[List.mem_cons,List.not_mem_nil,or_false] at my
   rcases my with q|q<;>(rw[q,PySem.Str.length_append,o1];omega)
  rfl'
  refine⟨by rw[o1];omega,by rw[o1];omega,by decide,.str y,?_,h y yl⟩
  rw[show [D.str (t++Str.ofString "\n"),D.str (Str.ofString "\n" ++ t)]=[t++Str.ofString "\n",Str.ofString "\n" ++ t].map D.str from rfl,qb5,hy]
  rfl
 case n3 =>
  rfl'
  exact h t (by omega)
def qg6:TVS:=(vSeq (vFor (qck (vVar 0)) (qa1 2)
  (vIfS (vBl (vOp (vIn (!·)) (vVar 2) (vC (.str ("0123456789abcdefghijklmnopqrstuvwxyz" : Str)))))
  (vRet (qit (vVar 1) (vOrE (vOp vEq (vVar 0) (vC (.str ("." : Str)))) (vOp vEq (vVar 0) (vC (.str (".." : Str)))))))
  qaz))
 (vRet (qic vLt vLe (vC (.int 0)) (vF1 vLen (vVar 0)) (vC (.int 12)))))
abbrev qmj:List Str:=["_law_word","_law_dots","_law_sign"]
theorem q6k(c:Nat):(!(Builtin.Str.occurrences (Str.ofString "0123456789abcdefghijklmnopqrstuvwxyz") ⟨#[c]⟩ 0 (Str.ofString "0123456789abcdefghijklmnopqrstuvwxyz").length 1).isEmpty)=decide (c∈NS.cps.toList):=(StrLaws.found_one (Str.ofString "0123456789abcdefghijklmnopqrstuvwxyz") c).trans (decide_eq_decide.mpr (show (Str.ofString "0123456789abcdefghijklmnopqrstuvwxyz").cps.toList.Perm NS.cps.toList by decide +kernel).mem_iff)
theorem qn6:∀ds Q,qcq ds Q->qg6 (En Q) (qat qmj ds):=by
 rintro ds Q ⟨z,d,rfl,hz,h⟩
 have sz:z.length<=sizeLine:=Nat.le_trans hz (by decide)
 have el:z.cps.toList.length=z.length:=rfl
 have dots:∀x:Str,x="." \/ x=".." -> ¬ ∀c∈x.cps.toList,c∈NS.cps.toList:=by
  rintro x (rfl|rfl)<;>decide +kernel
 refine v_cut (λτ=>(∀c∈z.cps.toList,c∈NS.cps.toList)/\∃a,τ=[some (.val (.str z)),some (.val (.bl d)),a]) ?_ λnx hnx=>?now
 case now =>
  rfl'
  refine qe7 (λi τ=>(∀c∈z.cps.toList.take i,c∈NS.cps.toList)/\∃a,τ=[some (.val (.str z)),some (.val (.bl d)),a]) ⟨(λc m=>by rw[List.take_zero] at m;cases m),none,rfl⟩ ?_ ?_
  ·rintro i c τ hi ⟨hb,a,rfl⟩ nx2 hnx2
   have mc:=List.mem_of_getElem? hi
   refine v_if (λb=>b=!decide (c∈NS.cps.toList)) (λY y=>?t1) (λhc=>?y1) λhc=>?n1
   case t1 =>
    rfl'
    exact y _ (congrArg _ (q6k c))
   case y1 =>
    have e:nmB z=false:=by
     unfold nmB nmL
     rw[show (z.cps.toList.all λc=>decide (c∈NS.cps.toList))=false from List.all_eq_false.mpr ⟨c,mc,by rw[qf8 hc];decide⟩,Bool.and_false]
    have e2:lwB d z=(d&&(decide (z=".")||decide (z=".."))):=by
     unfold lwB wdB
     rw[e,Bool.or_false]
     cases d with
    |false=>rfl
    |true =>
      rw[if_pos rfl,Bool.true_and,←Bool.decide_or]
      exact decide_eq_decide.mpr (by simp)
    rw[e2] at h
    rfl'
    cases d with
   |false=>exact iteF h
   |true =>
     refine iteT ?_
     rw[Bool.true_and] at h
     by_cases q:z="."
     ·rw[if_pos (decide_eq_true q)]
      rw[decide_eq_true q,Bool.true_or] at h
      exact h
     ·rw[if_neg (by rw[decide_eq_false q];decide)]
      rw[decide_eq_false q,Bool.false_or] at h
      exact h
   case n1 =>
    refine hnx2 _ ⟨λd md=>?_,_,rfl⟩
    rw[List.take_succ,hi] at md
    rcases List.mem_append.mp md with m|m
    ·exact hb d m
    ·rw[List.mem_singleton.mp m]
     exact of_decide_eq_true (qe9 hc)
  ·rintro τ ⟨hb,a,rfl⟩
   rw[List.take_length] at hb
   exact hnx _ ⟨hb,a,rfl⟩
 rintro τ ⟨hb,a,rfl⟩
 have e:lwB d z=(decide (0<z.length)&&decide (z.length<=12)):=by
  have e1:nmB z=(decide (0<z.length)&&decide (z.length<=12)):=by
   unfold nmB nmL
   rw[List.all_eq_true.mpr λc mc=>decide_eq_true (hb c mc),Bool.and_true]
   rfl
  unfold lwB wdB
  rw[e1,decide_eq_false (λq=>dots z (by simpa using q) hb:¬ z∈[(".": Str),".."]),Bool.false_or]
  split<;>rfl
 rw[e] at h
 rfl'
 by_cases h1:0<z.length
 ·rw[decide_eq_true (by omega:0<(z.length:Int))]
  rw[decide_eq_true h1,Bool.true_and] at h
  refine⟨sz,iteT ?_⟩
  rw[show decide ((z.length:Int)<=12)=decide (z.length<=12) from decide_eq_decide.mpr (by omega)]
  exact h
 ·rw[decide_eq_false (by omega:¬ 0<(z.length:Int))]
  rw[decide_eq_false h1,Bool.false_and] at h
  exact⟨sz,iteF h⟩
def qf2:TVS:=(vSeq (vSet 2 (qgs (vVar 0) (vC (.str ("/" : Str)))))
 (vSeq (vIfS (vBl (vOp vEq (vVar 0) (vC (.str ("/" : Str)))))
  (vRet (vLst vNil))
  qaz)
 (vSeq (vIfS (vBl (vOp vEq (qcn (vVar 0) qbp (qeb (vC (.int 1)))) (vC (.str ("/" : Str)))))
  (vSet 2 (qcn (vVar 2) (qeb (vC (.int 1))) qbp))
  qaz)
 (vSeq (vFor (qck (vVar 2)) (qa1 3)
  (vIfS (vOrT (qdr (vBl (qaj qcq (qab (vVar 3) (qab (vVar 1) vNil))))) (vBl (vOp vGt (vF1 vLen (vVar 2)) (vC (.int 40)))))
  (vRet (vC .non))
  qaz))
 (vRet (vVar 2))))))
abbrev qp3:List Str:=["_law_text","_law_dots","_law_words","_law_word"]
theorem qkh(t:Str):Txt.split t (Str.ofString "/")=if rt t=true then mkS []::wsW t else wsW t:=by
 have e:Txt.split t (Str.ofString "/")=(sp 47 t.cps.toList).map mkS:=by
  show Txt.split t "/" = _
  rw[qqz,qfs _ (by decide)]
 rw[e]
 unfold wsW
 by_cases h:rt t=true
 ·rw[if_pos h,if_pos h]
  unfold rt at h
  cases hc:t.cps.toList with
 |nil=>rw[hc] at h;cases h
 |cons x xs =>
   rw[hc] at h
   have hx:x=47:=by simpa using h
   rw[hx,sp,if_pos rfl]
   rfl
 ·rw[if_neg h,if_neg h]
theorem ql3(t:Str):decide (Txt.slice t none (some 1)=Str.ofString "/")=rt t:=by
 have e:(Txt.slice t none (some 1)).cps.toList=t.cps.toList.take 1:=by
  rw[slice_list,show (some 1:Option Int)=some ((1:Nat):Int) from rfl,qhg]
 have e47:(Str.ofString "/").cps.toList=[47]:=qi3
 refine qbc ?_
 rw[decide_eq_true_iff]
 unfold rt
 constructor
 ·intro q
  rw[q,e47] at e
  cases hc:t.cps.toList with
 |nil=>rw[hc] at e;cases e
 |cons x xs=>rw[hc] at e;simp at e;simp[e]
 ·intro q
  refine qdh ?_
  rw[e,e47]
  cases hc:t.cps.toList with
 |nil=>rw[hc] at q;cases q
 |cons x xs=>rw[hc] at q;simp at q;simp[q]
theorem qrg:∀ds Q,qcd ds Q->qf2 (En Q) (qat qp3 ds):=by
 rintro ds Q ⟨t,d,rfl,ht,hy,hn⟩
 have big:=qch
 obtain⟨w1,w2⟩:=qvd t
 have sl:(Str.ofString "/").length=1:=by decide +kernel
 have ln:∀(z:Str) (Y:R->Prop),z.length<=50000->Y (.val (.bl (lwB d z)))->qcq [.str z,.bl d] Y:=λz Y hz y=>⟨z,d,rfl,hz,y⟩
 have sp1:(Txt.split t (Str.ofString "/")).length<=t.length+2:=by
  rw[qkh]
  split
  ·rw[List.length_cons];omega
  ·omega
 refine v_cut (λτ=>τ=[some (.val (.str t)),some (.val (.bl d)),some (.val (qbz (Txt.split t (Str.ofString "/")))),none]) ?_ λnx hnx=>?now
 case now =>
  dsimp! only[qf2]
  exact⟨by rw[sl];rfl,by omega,by omega,hnx _ rfl⟩
 rintro τ rfl
 refine qbt (λb=>b=decide (t="/")) (λY y=>?t1) (λhb=>?y1) λhb=>?n1
 case t1 =>
  rfl'
  exact y _ rfl
 case y1 =>
  rfl'
  exact(hy [] (by unfold lwW;rw[if_pos (of_decide_eq_true hb.symm)])).2
 case n1 =>
 have h0:=of_decide_eq_false hb.symm
 unfold lwW at hy hn
 rw[if_neg h0] at hy hn
 refine v_cut (λτ=>τ=[some (.val (.str t)),some (.val (.bl d)),some (.val (qbz (wsW t))),none]) ?_ λnx hnx=>?nwa
 case nwa =>
  refine v_if (λb=>b=rt t) (λY y=>?t2) (λhb=>?y2) λhb=>?n2
  case t2 =>
   rfl'
   exact⟨by omega,y _ (ql3 t)⟩
  case y2 =>
   rw[qkh,if_pos hb.symm]
   dsimp! only[qbz]
   rw[show (some 1:Option Int)=some ((1:Nat):Int) from rfl,qeg]
   exact hnx _ rfl
  case n2 =>
   rw[qkh,if_neg (by rw[←hb];decide)]
   exact hnx _ rfl
 rintro τ rfl
 refine v_cut (λτ=>((wsW t).length<=40/\(wsW t).all (lwB d)=true)/\∃a,τ=[some (.val (.str t)),some (.val (.bl d)),some (.val (qbz (wsW t))),a]) ?_ λnx hnx=>?nwb
 case nwb =>
  dsimp! only[qbz]
  refine qe7 (λi τ=>(∀z∈(wsW t).take i,lwB d z=true)/\(0<i->(wsW t).length<=40)/\∃a,τ=[some (.val (.str t)),some (.val (.bl d)),some (.val (qbz (wsW t))),a]) ⟨(λc m=>by rw[List.take_zero] at m;cases m),(λz=>absurd z (Nat.lt_irrefl _)),none,rfl⟩ ?_ ?_
  ·rintro i z τ hi ⟨hb,hl,a,rfl⟩ nx2 hnx2
   have mz:=List.mem_of_getElem? hi
   refine v_if (λb=>b=!(lwB d z&&decide ((wsW t).length<=40))) (λY y=>?t3) (λhc=>?y3) λhc=>?n3
   case t3 =>
    dsimp! only[qbz]
    refine ln z _ (Nat.le_trans (w2 z mz) ht) ?_
    rfl'
    cases e:lwB d z with
   |false =>
     rw[e] at y
     exact iteT (y _ rfl)
   |true =>
     rw[e,Bool.true_and] at y
     refine iteF (y _ ?_)
     rw[←decide_not]
     exact decide_eq_decide.mpr (by omega)
   case y3 =>
    rfl'
    refine hn ?_
    rw[if_neg]
    rintro⟨q1,q2⟩
    have:=qf8 hc
    rw[List.all_eq_true.mp q2 z mz,decide_eq_true q1] at this
    cases this
   case n3 =>
    have:=qe9 hc
    rw[Bool.and_eq_true] at this
    refine hnx2 _ ⟨λx mx=>?_,λ_=>of_decide_eq_true this.2,_,rfl⟩
    rw[List.take_succ,hi] at mx
    rcases List.mem_append.mp mx with m|m
    ·exact hb x m
    ·rw[List.mem_singleton.mp m]
     exact this.1
  ·rintro τ ⟨hb,hl,a,rfl⟩
   rw[List.take_length] at hb
   have l0:0<(wsW t).length:=by
    unfold wsW
    rw[List.length_map]
    exact List.length_pos_iff.mpr (qq1 47 _)
   exact hnx _ ⟨⟨hl l0,List.all_eq_true.mpr hb⟩,a,rfl⟩
 rintro τ ⟨q,a,rfl⟩
 rfl'
 exact(hy _ (by rw[if_pos q])).1
def qmr:TVS:=(vSeq (vSet 1 (qgs (vVar 0) (vC (.str (" " : Str)))))
 (vSeq (vIfS (vOrT (vBl (vOp vLt (vF1 vLen (vVar 1)) (vC (.int 2)))) (vOrT (vBl (vOp vNeD (qcn (vOp vIxR (vVar 1) (vC (.int 1))) qbp (qeb (vC (.int 1)))) (vC (.str ("/" : Str))))) (vBl (vOp (vIsN id) (qaj qcd (qab (vOp vIxR (vVar 1) (vC (.int 1))) (qab (vC (.bl false)) vNil))) (vC .non)))))
  (vRet (vC .non))
  qaz)
 (vSeq (vSet 2 (vF1 qi7 (qaj qcd (qab (vOp vIxR (vVar 1) (vC (.int 1))) (qab (vC (.bl false)) vNil)))))
 (vSeq (vSet 3 (qkk (vC (.str (" " : Str))) (qcn (vVar 1) (qeb (vC (.int 2))) qbp)))
 (vSeq (vIfS (qe4 (vBl (vOp vEq (vOp vIxR (vVar 1) (vC (.int 0))) (vC (.str ("file" : Str))))) (vBl (vOp vGt (vF1 vLen (vVar 1)) (vC (.int 2)))))
  (vRet (vTup (qab (vVar 2) (qab (vC (.str ("file" : Str))) (qab (vVar 3) vNil)))))
  qaz)
 (vSeq (vIfS (qe4 (vBl (vOp vEq (vOp vIxR (vVar 1) (vC (.int 0))) (vC (.str ("link" : Str))))) (qe4 (vBl (vOp vGt (vF1 vLen (vVar 1)) (vC (.int 2)))) (vBl (vOp (vIsN (!·)) (qaj qcd (qab (vVar 3) (qab (vC (.bl true)) vNil))) (vC .non)))))
  (vRet (vTup (qab (vVar 2) (qab (vC (.str ("link" : Str))) (qab (vVar 3) vNil)))))
  qaz)
 (vSeq (vIfS (qe4 (vBl (vOp (vIn id) (vOp vIxR (vVar 1) (vC (.int 0))) (vTup (qab (vC (.str ("folder" : Str))) (qab (vC (.str ("gone" : Str))) (qab (vC (.str ("shut" : Str))) vNil)))))) (vBl (vOp vEq (vF1 vLen (vVar 1)) (vC (.int 2)))))
  (vRet (vTup (qab (vVar 2) (qab (vOp vIxR (vVar 1) (vC (.int 0))) (qab (vC (.str ("" : Str))) vNil)))))
  qaz)
 (vRet (vC .non)))))))))
abbrev qy6:List Str:=["_law_row_here","_law_cuts","_law_way","_law_text"]
theorem q2j:∀ds Q,qf6 ds Q->qmr (En Q) (qat qy6 ds):=by
 rintro ds Q ⟨t,rfl,ht,h⟩
 have big:=qch
 have b1:(Str.ofString " ").length=1:=by decide +kernel
 have tl:t.cps.toList.length=t.length:=rfl
 have es:Txt.split t (Str.ofString " ")=(sp 32 t.cps.toList).map mkS:=by
  show Txt.split t " " = _
  rw[blank,qfs _ (by decide)]
 have sn:=qph 32 t.cps.toList
 have lw:∀(z:Str) (d:Bool) (Y:R->Prop),z.length<=50000->(∀ws,lwW d z=some ws->Y (.val (qbz ws))/\Y (.own (qbz ws)))->(lwW d z=none->Y (.val .non))->qcd [.str z,.bl d] Y:=λz d Y hz y1 y2=>⟨z,d,rfl,hz,y1,y2⟩
 refine v_cut (λτ=>τ=[some (.val (.str t)),some (.val (qbz ((sp 32 t.cps.toList).map mkS))),none,none]) ?_ λnx hnx=>?now
 case now =>
  dsimp! only[qmr]
  rw[es]
  exact⟨by rw[b1];rfl,by omega,by rw[List.length_map];omega,hnx _ rfl⟩
 rintro τ rfl
 by_cases hs:∃a b rest x,(sp 32 t.cps.toList).map mkS=a::b::rest/\a.length<=50000/\b.length<=50000/\x.length<=50000/\glue " " rest=x/\(rest.map (·.length)).sum+rest.length<=50001/\entL t=entF a b rest x
 case neg =>
  rcases three t.cps.toList with ⟨e,e2⟩|⟨a,b,e,e2,el⟩|⟨a,b,x,e,e2,el⟩
  ·rw[show entL t=none by unfold entL parP;rw[e2];rfl] at h
   rw[e]
   refine qbt (λb=>b=true) (λY y=>?t1) (λ_=>?y1) λhb=>by cases hb
   case t1 =>
    dsimp! only[qbz]
    exact y _ rfl
   case y1 =>
    rfl'
    exact h
  ·rw[el,List.length_append,List.length_cons] at tl
   exact absurd ⟨mkS a,mkS b,[],tEmpty,by rw[e];rfl,by rw[qb6];omega,by rw[qb6];omega,by decide +kernel,by decide +kernel,by decide,qzn e2⟩ hs
  ·have sm:=qt8 32 x
   rw[el,List.length_append,List.length_cons,List.length_append,List.length_cons] at tl
   exact absurd ⟨mkS a,mkS b,(sp 32 x).map mkS,mkS x,by rw[e];rfl,by rw[qb6];omega,by rw[qb6];omega,by rw[qb6];omega,qdh (by rw[blank,qhk,qf7]),by rw[List.length_map];omega,qsb e2⟩ hs
 case pos =>
 obtain⟨a,b,rest,x,ec,al,bl,xl,eg,sm,ee⟩:=hs
 rw[ec]
 rw[ee] at h
 unfold entF at h
 have n2:decide (((rest.length+1+1:Nat):Int)<2)=false:=decide_eq_false (by omega)
 refine qbt (λq=>q=(qcm b).isNone) (λY y=>?t1) (λhb=>?y1) λhb=>?n1
 case t1 =>
  dsimp! only[qbz,List.map_cons]
  rw[n2,ql3]
  refine iteF ⟨by omega,?_⟩
  cases hr:rt b with
 |false =>
   rw[qpe hr] at y
   exact iteT (y _ rfl)
 |true =>
   refine iteF (lw b false _ bl (λws e=>?_) λe=>?_)
   ·rw[qhs hr] at e
    rw[e] at y
    constructor
    ·dsimp! only[qbz]
     exact y _ rfl
    ·dsimp! only[qbz]
     exact y _ rfl
   ·rw[qhs hr] at e
    rw[e] at y
    rfl'
    exact y _ rfl
 case y1 =>
  rw[show qcm b=none by cases e:qcm b with
  |none=>rfl
  |  some w=>rw[e] at hb;cases hb] at h
  rfl'
  exact h
 case n1 =>
 obtain⟨w,ew⟩:∃w,qcm b=some w:=by
  cases e:qcm b with
 |none=>rw[e] at hb;cases hb
 |some w=>exact⟨w,rfl⟩
 have hr:rt b=true:=by
  cases e:rt b with
 |true=>rfl
 |false=>rw[qpe e] at ew;cases ew
 have ew2:lwW false b=some w:=(qhs hr).trans ew
 rw[ew] at h
 have h:Q (.val (optR (if rest=[] then (if a=qa3\/a=qcl\/a=qa5 then some (w,a,tEmpty) else none) else if a=qdg\/(a=qcz/\(qba x).isSome=true) then some (w,a,x) else none))):=h
 refine v_cut (λτ=>τ=[some (.val (.str t)),some (.val (qbz (a::b::rest))),some (.val (wayD w)),none]) ?_ λnx hnx=>?nwa
 case nwa =>
  dsimp! only[qbz,List.map_cons]
  refine lw b false _ bl (λws e=>?_) λe=>by rw[ew2] at e;cases e
  rw[ew2] at e
  cases e
  constructor
  ·dsimp! only[qbz]
   exact hnx _ rfl
  ·dsimp! only[qbz]
   exact hnx _ rfl
 rintro τ rfl
 refine v_cut (λτ=>τ=[some (.val (.str t)),some (.val (qbz (a::b::rest))),some (.val (wayD w)),some (.val (.str x))]) ?_ λnx hnx=>?nwb
 case nwb =>
  dsimp! only[qbz]
  rw[show (some 2:Option Int)=some ((2:Nat):Int) from rfl,qeg]
  refine⟨rest,.inl rfl,by rw[b1];omega,?_⟩
  rw[show glue (Str.ofString " ") rest=x from eg]
  exact hnx _ rfl
 rintro τ rfl
 have gt:decide (2<((rest.length+1+1:Nat):Int))=decide (rest≠[]):=decide_eq_decide.mpr ⟨λz e=>by rw[e] at z;exact absurd z (by decide),λz=>by have:=List.length_pos_iff.mpr z;omega⟩
 refine qbt (λq=>q=decide (a=qdg/\rest≠[])) (λY y=>?t2) (λhb=>?y2) λhb=>?n2
 case t2 =>
  dsimp! only[qbz,List.map_cons]
  rw[gt]
  by_cases q:a=qdg
  ·rw[if_pos (decide_eq_true q)]
   exact y _ (decide_eq_decide.mpr ⟨λz=>⟨q,z⟩,λz=>z.2⟩)
  ·rw[if_neg (by rw[decide_eq_false q];decide)]
   exact y _ (by rw[decide_eq_false λz=>q z.1])
 case y2 =>
  obtain⟨q1,q2⟩:=of_decide_eq_true hb.symm
  rw[if_neg q2,if_pos (.inl q1),q1] at h
  rfl'
  exact⟨by decide,h⟩
 case n2 =>
 have m1:=of_decide_eq_false hb.symm
 refine qbt (λq=>q=decide ((a=qcz/\(qba x).isSome=true)/\rest≠[])) (λY y=>?t3) (λhb=>?y3) λhb=>?n3
 case t3 =>
  dsimp! only[qbz,List.map_cons]
  rw[gt]
  by_cases q:a=qcz
  ·rw[if_pos (decide_eq_true q)]
   by_cases q2:rest≠[]
   ·rw[if_pos (decide_eq_true q2)]
    refine lw x true _ xl (λws e=>?_) λe=>?_
    ·have e3:(qba x).isSome=true:=by rw[←qo0,e];rfl
     constructor
     ·dsimp! only[qbz]
      exact y _ (by rw[decide_eq_true ⟨⟨q,e3⟩,q2⟩])
     ·dsimp! only[qbz]
      exact y _ (by rw[decide_eq_true ⟨⟨q,e3⟩,q2⟩])
    ·have e3:(qba x).isSome=false:=by rw[←qo0,e];rfl
     rfl'
     exact y _ (by rw[decide_eq_false λz=>by rw[e3] at z;cases z.1.2])
   ·rw[if_neg (by rw[decide_eq_false q2];decide)]
    exact y _ (by rw[decide_eq_false λz=>q2 z.2])
  ·rw[if_neg (by rw[decide_eq_false q];decide)]
   exact y _ (by rw[decide_eq_false λz=>q z.1.1])
 case y3 =>
  obtain⟨q1,q2⟩:=of_decide_eq_true hb.symm
  rw[if_neg q2,if_pos (.inr q1),q1.1] at h
  rfl'
  exact⟨by decide,h⟩
 case n3 =>
 have m2:=of_decide_eq_false hb.symm
 have eqq:decide (((rest.length+1+1:Nat):Int)=2)=decide (rest=[]):=decide_eq_decide.mpr ⟨λz=>List.eq_nil_of_length_eq_zero (by omega),λz=>by rw[z];rfl⟩
 refine qbt (λq=>q=decide ((a=qa3\/a=qcl\/a=qa5)/\rest=[])) (λY y=>?t4) (λhb=>?y4) λhb=>?n4
 case t4 =>
  dsimp! only[qbz,List.map_cons]
  rw[eqq]
  refine⟨by decide,?_⟩
  by_cases q:a=qa3\/a=qcl\/a=qa5
  ·have hm:a∈[Str.ofString "folder",Str.ofString "gone",Str.ofString "shut"]:=by
    rcases q with e|e|e<;>(rw[e];decide)
   rw[id,if_pos (decide_eq_true hm)]
   exact y _ (decide_eq_decide.mpr ⟨λz=>⟨q,z⟩,λz=>z.2⟩)
  ·have hm:¬ a∈[Str.ofString "folder",Str.ofString "gone",Str.ofString "shut"]:=λz=>q (by
    simp only[List.mem_cons,List.not_mem_nil,or_false] at z
    exact z)
   rw[id,if_neg (by rw[decide_eq_false hm];decide)]
   exact y _ (by rw[decide_eq_false λz=>q z.1])
 case y4 =>
  obtain⟨q1,q2⟩:=of_decide_eq_true hb.symm
  rw[if_pos q2,if_pos q1] at h
  dsimp! only[qbz,List.map_cons]
  exact⟨by decide,h⟩
 case n4 =>
  have m3:=of_decide_eq_false hb.symm
  by_cases q:rest=[]
  ·rw[if_pos q,if_neg λz=>m3 ⟨z,q⟩] at h
   rfl'
   exact h
  ·rw[if_neg q,if_neg λz=>z.elim (λz=>m1 ⟨z,q⟩) λz=>m2 ⟨z,q⟩] at h
   rfl'
   exact h
def qob:TVS:=(vSeq (vIfS (vBl (vOp vEq (vVar 1) (vTup vNil)))
  (vRet (vOp vEq (qge (vVar 0) (vVar 1)) (vC (.str ("shut" : Str)))))
  qaz)
 (vSeq (vIfS (qe4 (vBl (vOp vGt (vF1 vLen (vVar 1)) (vC (.int 1)))) (vOrT (vBl (vDIn (!·) (qcn (vVar 1) qbp (qeb (vNeg (vC (.int 1))))) (vVar 0))) (vBl (vOp (vIn (!·)) (qge (vVar 0) (qcn (vVar 1) qbp (qeb (vNeg (vC (.int 1)))))) (vTup (qab (vC (.str ("folder" : Str))) (qab (vC (.str ("shut" : Str))) vNil)))))))
  (vRet (vC (.bl false)))
  qaz)
 (vSeq (vFor (qiu (vF1 vLen (vVar 1))) (qa1 2)
  (vIfS (qe4 (vBl (vDIn id (qcn (vVar 1) qbp (qeb (vVar 2))) (vVar 0))) (qe4 (vBl (vOp vEq (qge (vVar 0) (qcn (vVar 1) qbp (qeb (vVar 2)))) (vC (.str ("shut" : Str))))) (vBl (vOp (vIn id) (qge (vVar 0) (vVar 1)) (vTup (qab (vC (.str ("gone" : Str))) (qab (vC (.str ("shut" : Str))) vNil)))))))
  (vRet (vC (.bl false)))
  qaz))
 (vRet (vC (.bl true))))))
abbrev qve:List Str:=["_law_marks","_law_way","_law_k"]
theorem qxu:∀ds Q,qet ds Q->qob (En Q) (qat qve ds):=by
 rintro ds Q ⟨ps,w,M,m,rfl,wl,wn,L,em,h⟩
 have wk:∀k,("" : Str)∉w.take k:=λk z=>wn (List.mem_of_mem_take z)
 have wd:("" : Str)∉w.dropLast:=λz=>wn (List.dropLast_subset _ z)
 refine qbt (λb=>b=decide (w=[])) (λY y=>?t1) (λhb=>?y1) λhb=>?n1
 case t1 =>
  dsimp! only[wayD]
  refine⟨cmpW w [],depW w,?_⟩
  rw[show D.tup []=D.tup (([]:List Str).map D.str) from rfl]
  simp only[eqW]
  exact y _ rfl
 case y1 =>
  unfold qeh at h
  rw[if_pos (of_decide_eq_true hb.symm)] at h
  dsimp! only[qbf,wayD]
  refine⟨wn,.str m,by rw[qb2,L,em];rfl,?_⟩
  rfl'
  exact h
 case n1 =>
 have h0:=of_decide_eq_false hb.symm
 have yes:((1<w.length->∃n,M w.dropLast=some n/\fsB n=true)/\∀k,k<w.length->¬ (M (w.take k)=some qa5/\gsB m=true))->Q (.val (.bl true)):=λq=>by rw[(qjn h0).mpr q] at h;exact h
 have no:¬ ((1<w.length->∃n,M w.dropLast=some n/\fsB n=true)/\∀k,k<w.length->¬ (M (w.take k)=some qa5/\gsB m=true))->Q (.val (.bl false)):=λq=>by
  rw[show qeh M w m=false by cases e:qeh M w m with
  |false=>rfl
  |  true=>exact absurd ((qjn h0).mp e) q] at h
  exact h
 refine qbt (λb=>b=true↔(1<w.length/\((M w.dropLast).map fsB).getD false=false)) (λY y=>?t2) (λhb=>?y2) λhb=>?n2
 case t2 =>
  dsimp! only[qbf,wayD]
  by_cases l1:1<w.length
  ·rw[if_pos (decide_eq_true (by omega))]
   simp only[qfj]
   refine⟨wd,?_⟩
   rw[qb2,L]
   cases e:M w.dropLast with
  |none =>
    rw[e] at y
    exact iteT (y _ ⟨λ_=>⟨l1,rfl⟩,λ_=>rfl⟩)
  |some n =>
    rw[e] at y
    refine iteF ⟨wd,.str n,rfl,?_⟩
    rfl'
    refine⟨by decide,y _ ?_⟩
    have ef:decide (n∈[Str.ofString "folder",Str.ofString "shut"])=fsB n:=by
     unfold fsB
     exact decide_eq_decide.mpr (by simp)
    rw[ef]
    show (!fsB n)=true↔1<w.length/\fsB n=false
    cases fsB n<;>simp[l1]
  ·rw[if_neg (by rw[decide_eq_false (by omega)];decide)]
   exact y _ ⟨λz=>(by cases z),λz=>absurd z.1 l1⟩
 case y2 =>
  obtain⟨l1,e⟩:=hb.mp rfl
  rfl'
  refine no λz=>?_
  obtain⟨n,e1,e2⟩:=z.1 l1
  rw[e1] at e
  rw[show fsB n=false from e] at e2
  cases e2
 case n2 =>
 have up:1<w.length->∃n,M w.dropLast=some n/\fsB n=true:=λl1=>by
  cases e:M w.dropLast with
 |none=>exact absurd (hb.mpr ⟨l1,by rw[e];rfl⟩) (by decide)
 |some n =>
   cases f:fsB n with
  |true=>exact⟨n,rfl,f⟩
  |false=>exact absurd (hb.mpr ⟨l1,by rw[e];exact f⟩) (by decide)
 refine v_cut (λτ=>∀k,k<w.length->¬ (M (w.take k)=some qa5/\gsB m=true)) ?_ λnx hnx=>?nwa
 case nwa =>
  dsimp! only[wayD]
  refine⟨by omega,by omega,qhj (λi τ=>(∀k,k<i->¬ (M (w.take k)=some qa5/\gsB m=true))/\∃a,τ=[some (.val (qbf ps)),some (.val (wayD w)),a]) ⟨(λk hk=>absurd hk (Nat.not_lt_zero _)),none,rfl⟩ ?_ ?_⟩
  ·rintro i τ hi ⟨hb,a,rfl⟩ nx2 hnx2
   refine v_if (λb=>b=true↔(M (w.take i)=some qa5/\gsB m=true)) (λY y=>?t3) (λhc=>?y3) λhc=>?n3
   case t3 =>
    dsimp! only[qbf,wayD]
    simp only[qhg]
    refine⟨wk i,?_⟩
    rw[qb2,L]
    cases e:M (w.take i) with
   |none =>
     rw[e] at y
     exact iteF (y _ ⟨λz=>(by cases z),λz=>by cases z.1⟩)
   |some n =>
     rw[e] at y
     refine iteT ⟨wk i,.str n,rfl,?_⟩
     rfl'
     by_cases q:n=qa5
     ·rw[if_pos (decide_eq_true q)]
      refine⟨wn,.str m,by rw[qb2,L,em];rfl,?_⟩
      rfl'
      refine⟨by decide,y _ ?_⟩
      have eg:decide (m∈[Str.ofString "gone",Str.ofString "shut"])=gsB m:=by
       unfold gsB
       exact decide_eq_decide.mpr (by simp)
      rw[id,eg,q]
      exact⟨λz=>⟨rfl,z⟩,λz=>z.2⟩
     ·rw[if_neg (by rw[decide_eq_false q];decide)]
      exact y _ ⟨λz=>(by cases z),λz=>absurd (Option.some.inj z.1) q⟩
   case y3 =>
    rfl'
    exact no λz=>z.2 i hi (hc.mp rfl)
   case n3 =>
    refine hnx2 _ ⟨λk hk=>?_,_,rfl⟩
    by_cases q:k<i
    ·exact hb k q
    ·rw[show k=i by omega]
     exact λz=>absurd (hc.mpr z) (by decide)
  ·rintro τ ⟨hb,a,rfl⟩
   exact hnx _ hb
 intro τ q
 rfl'
 exact yes ⟨up,q⟩
def q2s:TVS:=(vSeq (vIfS (vBl (vOp vEq (vVar 0) (vC (.str ("" : Str)))))
  (vRet (vLst vNil))
  qaz)
 (vSeq (vSet 1 (qeo (qck (qgs (vVar 0) (vC (.str ("\n" : Str))))) (qa1 5) (λ_ Q=>Q true) (qaj qf6 (qab (vVar 5) vNil)) 1))
 (vSeq (qgu 2 ql8)
 (vSeq (vFor (qiu (vF1 vLen (vVar 1))) (qa1 3)
  (vSeq (vIfS (vOrT (vBl (vOp (vIsN id) (vOp vIxR (vVar 1) (vVar 3)) (vC .non))) (qe4 (vBl (vOp vGt (vVar 3) (vC (.int 0)))) (qdr (vBl (vOp vLtD (vOp vIxR (vOp vIxR (vVar 1) (vOp vSub (vVar 3) (vC (.int 1)))) (vC (.int 0))) (vOp vIxR (vOp vIxR (vVar 1) (vVar 3)) (vC (.int 0))))))))
  (vRet (vC .non))
  qaz)
 (qn2 2 (vOp vIxR (vOp vIxR (vVar 1) (vVar 3)) (vC (.int 0))) (vOp vIxR (vOp vIxR (vVar 1) (vVar 3)) (vC (.int 1))))))
 (qn3 2 (vSeq (vFor (qie 2) (qa1 4)
  (vIfS (qdr (vBl (qaj qet (qab (vVar 2) (qab (vVar 4) vNil)))))
  (vRet (vC .non))
  qaz))
 (vRet (vVar 1))))))))
abbrev q59:List Str:=["_law_text","_law_entries","_law_marks","_law_k","_law_way"]
theorem q7o:∀ds Q,qqa ds Q->q2s (En Q) (qat q59 ds):=by
 rintro ds Q ⟨t,rfl,tl,hy,hn⟩
 obtain⟨l1,l2,l3,l4⟩:=qgw t
 have big:=qch
 have o1:(Str.ofString "\n").length=1:=by decide +kernel
 have le:∀(z:Str) (Y:R->Prop),z.length<=50000->Y (.val (optR (entL z)))->qf6 [.str z] Y:=λz Y hz y=>⟨z,rfl,hz,y⟩
 refine qbt (λb=>b=decide (t="")) (λY y=>?t1) (λhb=>?y1) λhb=>?n1
 case t1 =>
  rfl'
  exact y _ rfl
 case y1 =>
  have e:=of_decide_eq_true hb.symm
  rfl'
  exact(hy [] (by unfold dueT;rw[if_pos e])).2
 case n1 =>
 have h0:=of_decide_eq_false hb.symm
 have bad:(∀rs:List Row,(qbr t).map entL=rs.map some->qbd rs->¬ ∀r∈rs,qeh (mkAt rs) r.1 r.2.1=true)->Q (.val .non):=λq=>by
  cases e:dueT t with
 |none=>exact hn e
 |some rs =>
   obtain⟨a,b,c⟩:=(qsa h0).mp e
   exact absurd c (q rs a b)
 have el:((qbr t).map entL).length=(qbr t).length:=List.length_map ..
 have rowP:∀r:Row,some r∈(qbr t).map entL->∃z∈qbr t,RowP z r:=λr m=>by
  obtain⟨z,mz,e⟩:=List.mem_map.mp m
  exact⟨z,mz,qf9 (entL_some.mp e).1⟩
 refine v_cut (λτ=>τ=[some (.val (.str t)),some (.val (.lst (((qbr t).map entL).map optR))),none,none,none]) ?_ λnx hnx=>?now
 case now =>
  rfl'
  rw[qh8]
  refine⟨by rw[o1];rfl,by omega,by omega,?_⟩
  refine qc6 (λz=>optR (entL z)) (qbr t) (by omega) (λz mz Y N hY=>?_) ?_
  ·rfl'
   refine le z _ (Nat.le_trans (l2 z mz) tl) ?_
   rfl'
   exact hY
  ·rfl'
   have e:(qbr t).map (λz=>optR (entL z))=((qbr t).map entL).map optR:=by rw[List.map_map];rfl
   rw[e]
   exact hnx _ rfl
 rintro τ rfl
 generalize hes:(qbr t).map entL=es at *
 refine v_cut (λτ=>τ=[some (.val (.str t)),some (.val (.lst (es.map optR))),some (.own (qbf [])),none,none]) ?_ λnx hnx=>?nwa
 case nwa =>
  rfl'
  exact hnx _ rfl
 rintro τ rfl
 refine v_cut (λτ=>∃(rs:List Row) (a:Option R),es=rs.map some/\qbd rs/\τ=[some (.val (.str t)),some (.val (.lst (es.map optR))),some (.own (qbf (rs.map prM))),a,none]) ?_ λnx hnx=>?nwb
 case nwb =>
  rfl'
  refine⟨by omega,by omega,qhj (λi τ=>∃(rs:List Row) (a:Option R),es.take i=rs.map some/\qbd rs/\τ=[some (.val (.str t)),some (.val (.lst (es.map optR))),some (.own (qbf (rs.map prM))),a,none]) ⟨[],none,rfl,List.Pairwise.nil,rfl⟩ ?_ ?_⟩
  ·rintro i τ hi ⟨rs,a,er,so,rfl⟩ nx2 hnx2
   have hr:es[i]?=some es[i]:=List.getElem?_eq_getElem hi
   have rl:rs.length=i:=by
    have:=congrArg List.length er
    rw[List.length_take,List.length_map] at this
    omega
   have at1:atI (es.map optR) (i:Int)=some (optR es[i]):=by
    obtain⟨y,h1,h2⟩:=qce (xs:=es) (k:=(i:Int)) (by omega) (by omega)
    rw[Int.toNat_natCast,hr] at h2
    cases h2
    rw[qb5,h1]
    rfl
   have et:es.take (i+1)=rs.map some++[es[i]]:=by rw[List.take_succ,hr,er];rfl
   have pre:∀rs':List Row,es=rs'.map some->rs=rs'.take i/\some es[i]=(rs'[i]?).map some:=λrs' q=>by
    constructor
    ·have q2:=er
     rw[q,←List.map_take] at q2
     exact(List.map_inj_right (λa b h=>Option.some.inj h)).mp q2.symm
    ·rw[←hr,q,List.getElem?_map]
   cases hei:es[i] with
  |none =>
    rw[hei] at at1
    refine qbt (λb=>b=true) (λY y=>?t0) (λ_=>?y0) λz=>by cases z
    case t0 =>
     have f1:∀Z:Bool->Prop,Z true->vBl (vOp (vIsN id) (vOp vIxR (vVar 1) (vVar 3)) (vC .non)) [some (.val (.str t)),some (.val (.lst (es.map optR))),some (.own (qbf (rs.map prM))),some (.val (.int (0+(i:Int)))),none] Z:=λZ z=>by
      rfl'
      exact⟨.non,at1,by dsimp! only[true_and];exact z⟩
     refine f1 _ ?_
     exact iteT (y _ rfl)
    case y0 =>
    rfl'
    refine bad λrs' q _=>?_
    have:=(pre rs' q).2
    rw[hei] at this
    cases e:rs'[i]? with
   |none=>rw[e] at this;cases this
   |some r=>rw[e] at this;cases this
  |some r =>
    rw[hei] at at1 hr et
    obtain⟨z,mz,P⟩:=rowP r (List.mem_of_getElem? hr)
    refine qbt (λb=>b=true↔∃q,rs.getLast?=some q/\ltW q.1 r.1=false) (λY y=>?t1) (λhc=>?y1) λhc=>?n1
    case t1 =>
     have f1:∀Z:Bool->Prop,Z false->vBl (vOp (vIsN id) (vOp vIxR (vVar 1) (vVar 3)) (vC .non)) [some (.val (.str t)),some (.val (.lst (es.map optR))),some (.own (qbf (rs.map prM))),some (.val (.int (0+(i:Int)))),none] Z:=λZ z=>by
      rfl'
      exact⟨rowD r,at1,by dsimp! only[rowD];exact z⟩
     have f2:∀Z:Bool->Prop,Z (decide (0<i))->vBl (vOp vGt (vVar 3) (vC (.int 0))) [some (.val (.str t)),some (.val (.lst (es.map optR))),some (.own (qbf (rs.map prM))),some (.val (.int (0+(i:Int)))),none] Z:=λZ z=>by
      rfl'
      rw[show decide (0<(i:Int))=decide (0<i) from decide_eq_decide.mpr (by omega)]
      exact z
     refine f1 _ ?_
     refine iteF ?_
     refine f2 _ ?_
     by_cases i0:0<i
     ·rw[decide_eq_true i0]
      obtain⟨l,q,rfl⟩:∃l q,rs=l++[q]:=⟨_,_,(List.dropLast_concat_getLast (List.length_pos_iff.mp (by omega))).symm⟩
      have ll:l.length=i-1:=by rw[List.length_append,List.length_singleton] at rl;omega
      have hq:es[i-1]?=some (some q):=by
       have:=congrArg (λl=>l[i-1]?) er
       simp only[List.getElem?_take,List.getElem?_map] at this
       rw[if_pos (by omega),List.getElem?_append_right (by omega),ll] at this
       simpa using this
      have at0:atI (es.map optR) ((i:Int)-1)=some (rowD q):=by
       obtain⟨y,h1,h2⟩:=qce (xs:=es) (k:=(i:Int)-1) (by omega) (by omega)
       rw[show ((i:Int)-1).toNat=i-1 by omega,hq] at h2
       cases h2
       rw[qb5,h1]
       rfl
      refine iteT ?_
      rfl'
      refine⟨rowD q,at0,?_⟩
      dsimp! only[rowD,wayD]
      refine⟨rowD r,at1,?_⟩
      dsimp! only[rowD,wayD]
      refine⟨qo8 q.1 r.1,depW q.1,?_⟩
      rw[show ltD (D.tup (q.1.map D.str)) (D.tup (r.1.map D.str))=ltW q.1 r.1 from qdq q.1 r.1]
      refine y _ ?_
      have lq:(l++[q]).getLast?=some q:=by simp
      rw[lq]
      constructor
      ·intro z
       exact⟨q,rfl,by cases e:ltW q.1 r.1 with
       |false=>rfl
       |  true=>rw[e] at z;cases z⟩
      ·rintro⟨q',eq',lt⟩
       cases eq'
       rw[lt]
       rfl
     ·rw[decide_eq_false i0]
      have r0:rs=[]:=List.eq_nil_of_length_eq_zero (by omega)
      exact iteF (y _ ⟨(λz=>by cases z),λ⟨_,z,_⟩=>by rw[r0] at z;cases z⟩)
    case y1 =>
     obtain⟨q,eq,lt⟩:=hc.mp rfl
     rfl'
     refine bad λrs' e so'=>?_
     exfalso
     obtain⟨p1,p2⟩:=pre rs' e
     rw[hei] at p2
     have hi':rs'[i]?=some r:=by
      cases e3:rs'[i]? with
     |none=>rw[e3] at p2;cases p2
     |some r'=>rw[e3] at p2;cases p2;rfl
     have mq:q∈rs'.take i:=by rw[←p1];exact List.mem_of_getLast? eq
     have hd:rs'=rs'.take i++r::rs'.drop (i+1):=by
      obtain⟨li,eli⟩:=List.getElem?_eq_some_iff.mp hi'
      rw[←eli,List.getElem_cons_drop,List.take_append_drop]
     rw[hd] at so'
     have:=(List.pairwise_append.mp so').2.2 q mq r (List.mem_cons_self ..)
     rw[lt] at this
     cases this
    case n1 =>
     have so2:qbd (rs++[r]):=q1w so λq eq=>by
      cases e:ltW q.1 r.1 with
     |true=>rfl
     |false=>exact absurd (hc.mpr ⟨q,eq,e⟩) (by decide)
     have nd:=qi2 so2
     have nw:r.1∉(rs.map prM).map (·.1):=λm=>by
      rw[List.map_append] at nd
      have m':r.1∈rs.map (·.1):=by
       rw[List.map_map] at m
       exact m
      exact(List.nodup_append.mp nd).2.2 _ m' _ (List.mem_singleton.mpr rfl) rfl
     have fin:=hnx2 [some (.val (.str t)),some (.val (.lst (es.map optR))),some (.own (qbf ((rs++[r]).map prM))),some (.val (.int (i:Int))),none] ⟨rs++[r],_,by rw[et,List.map_append];rfl,so2,rfl⟩
     rw[show (rs++[r]).map prM=insP (rs.map prM) r.1 (.str r.2.1) by unfold insP;rw[if_neg nw,List.map_append];rfl] at fin
     rw[show qbf (insP (rs.map prM) r.1 (.str r.2.1))=qbf (insP (rs.map prM) r.1 (.str r.2.1)) from rfl,←qew] at fin
     rfl'
     refine⟨rowD r,at1,?_⟩
     dsimp! only[rowD]
     refine⟨rowD r,at1,?_⟩
     dsimp! only[rowD,wayD,qbf]
     refine⟨P.nme,by omega,?_⟩
     exact fin
  ·rintro τ ⟨rs,a,er,so,rfl⟩
   rw[Int.toNat_natCast,List.take_of_length_le (Nat.le_refl _)] at er
   exact hnx _ ⟨rs,a,er,so,rfl⟩
 rintro τ ⟨rs,a,er,so,rfl⟩
 have rP:∀r∈rs,∃z∈qbr t,RowP z r:=λr mr=>rowP r (by rw[er];exact List.mem_map.mpr ⟨r,mr,rfl⟩)
 have lf:∀(r:Row) (Y:R->Prop),r∈rs->Y (.val (.bl (qeh (mkAt rs) r.1 r.2.1)))->qet [qbf (rs.map prM),wayD r.1] Y:=λr Y mr y=>let ⟨z,_,P⟩:=rP r mr;⟨rs.map prM,r.1,mkAt rs,r.2.1,rfl,P.wl,P.nme,q3k rs,qju so mr,y⟩
 refine qzr rfl ?_
 show vSeq _ _ _ [some (.val (.str t)),some (.val (.lst (es.map optR))),some (.peek (qbf (rs.map prM))),a,none]
 refine v_cut (λτ=>(∀r∈rs,qeh (mkAt rs) r.1 r.2.1=true)/\∃b,τ=[some (.val (.str t)),some (.val (.lst (es.map optR))),some (.peek (qbf (rs.map prM))),a,b]) ?_ λnx hnx=>?nwc
 case nwc =>
  have ek:(((rs.map prM).map (·.1)).map λw=>D.tup (w.map D.str))=rs.map λr=>wayD r.1:=by
   rw[List.map_map,List.map_map]
   rfl
  dsimp! only[qbf]
  rw[ek]
  refine qe7 (λi τ=>(∀r∈rs.take i,qeh (mkAt rs) r.1 r.2.1=true)/\∃b,τ=[some (.val (.str t)),some (.val (.lst (es.map optR))),some (.peek (qbf (rs.map prM))),a,b]) ⟨(λc m=>by rw[List.take_zero] at m;cases m),none,rfl⟩ ?_ ?_
  ·rintro i r τ hi ⟨hb,b,rfl⟩ nx2 hnx2
   have mr:=List.mem_of_getElem? hi
   refine v_if (λb=>b=!qeh (mkAt rs) r.1 r.2.1) (λY y=>?t3) (λhc=>?y3) λhc=>?n3
   case t3 =>
    rfl'
    refine lf r _ mr ?_
    rfl'
    exact y _ rfl
   case y3 =>
    rfl'
    refine bad λrs' q _ z=>?_
    have:rs'=rs:=(List.map_inj_right (λa b h=>Option.some.inj h)).mp (q.symm.trans er)
    rw[this] at z
    rw[z r mr] at hc
    cases hc
   case n3 =>
    refine hnx2 _ ⟨λx mx=>?_,_,rfl⟩
    rw[List.take_succ,hi] at mx
    rcases List.mem_append.mp mx with m|m
    ·exact hb x m
    ·rw[List.mem_singleton.mp m]
     exact qe9 hc
  ·rintro τ ⟨hb,b,rfl⟩
   rw[List.take_length] at hb
   exact hnx _ ⟨hb,b,rfl⟩
 rintro τ ⟨al,b,rfl⟩
 have ed:es.map optR=rs.map rowD:=by rw[er,List.map_map];rfl
 rw[ed]
 rfl'
 exact(hy rs ((qsa h0).mpr ⟨hes.trans er,so,al⟩)).1
def qhc:TVS:=(vSeq (vSet 1 (vC (.bl false)))
 (vSeq (vTry (qq8 (qib qbe (qab (vVar 0) vNil)))
  (quq ["NoRow"] ["NoWay"] (vSet 1 (vC (.bl true))) qur))
 (vSeq (vTry (qq8 (qib qbe (qab (vVar 0) vNil)))
  (vhAs 2 ["NoWay","NoRow"] [] (vRet (qit (vVar 1) (qit (vIsX ["NoWay","NoRow"] [] (vVar 2)) (qui (vIsX ["NoWay"] ["NoRow"] (vVar 2)))))) qur))
 (vRet (vC (.bl false))))))
abbrev qrr:List Str:=["_law_text","_law_own","e"]
theorem qu6:∀ds Q,qdy ds Q->qhc (En Q) (qat qrr ds):=by
 rintro ds Q ⟨t,rfl,tl,hd,h⟩
 have lp:∀Y:R->Prop,Y (.exc "NoRow")->qbe [.str t] Y:=λY y=>⟨t,rfl,tl,λrs e=>(by rw[hd] at e;cases e),λ_=>y⟩
 refine v_cut (λτ=>τ=[some (.val (.str t)),some (.val (.bl false)),none]) ?_ λnx hnx=>?now
 case now =>
  dsimp! only[qhc]
  exact hnx _ rfl
 rintro τ rfl
 refine v_cut (λτ=>τ=[some (.val (.str t)),some (.val (.bl true)),none]) ?_ λnx hnx=>?nwa
 case nwa =>
  rfl'
  refine lp _ ?_
  rfl'
  refine .inl ⟨by decide,?_⟩
  rfl'
  exact hnx _ rfl
 rintro τ rfl
 refine qfe ?_
 rfl'
 refine lp _ ?_
 rfl'
 refine .inl ⟨by decide,?_⟩
 rfl'
 refine .inl ⟨by decide,?_⟩
 refine iteT ?_
 refine .inr ⟨by decide,?_⟩
 exact h
def qrv:TVS:=(vSeq (vIfS (vOrT (qdr (vBl (qkj .list (vVar 0)))) (vBl (vOp vNeD (vF1 vLen (vVar 0)) (vF1 vLen (vVar 1)))))
  (vRet (vC (.bl false)))
  qaz)
 (vSeq (vFor (qiu (vF1 vLen (vVar 1))) (qa1 2)
  (vSeq (vSet 3 (vOp vIxR (vVar 0) (vVar 2)))
 (vSeq (vIfS (vOrT (qdr (vBl (qkj .tuple (vVar 3)))) (vOrT (vBl (vOp vNeD (vF1 vLen (vVar 3)) (vC (.int 3)))) (qdr (vBl (qkj .tuple (vOp vIxR (vVar 3) (vC (.int 0))))))))
  (vRet (vC (.bl false)))
  qaz)
 (vIfS (vOrT (qdr (vBl (qkj .str (vOp vIxR (vVar 3) (vC (.int 1)))))) (vOrT (qdr (vBl (qkj .str (vOp vIxR (vVar 3) (vC (.int 2)))))) (vBl (vOp vNeD (vVar 3) (vOp vIxR (vVar 1) (vVar 2))))))
  (vRet (vC (.bl false)))
  qaz))))
 (vRet (vC (.bl true)))))
abbrev q2p:List Str:=["_law_found","_law_due_here","_law_k","_law_row_here"]
theorem q56:∀ds Q,g_same ds Q->qrv (En Q) (qat q2p ds):=by
 rintro ds Q ⟨rs,rfl,hl,h⟩
 have big:=qch
 simp! only[vSeq,qrv,qax]
 refine⟨by omega,by omega,qhj (λi τ=>∃kv rv,τ=[some (.val (.lst (rs.map rowD))),some (.val (.lst (rs.map rowD))),kv,rv]) ⟨none,none,rfl⟩ ?_ ?_⟩
 ·rintro i τ hi ⟨kv,rv,rfl⟩ nx hnx
  simp! only[vSeq,true_and]
  obtain⟨y,hy,_⟩:=qce (xs:=rs) (k:=(i:Int)) (by omega) (by omega)
  have hy2:atI (rs.map rowD) (i:Int)=some (rowD y):=by rw[qb5,hy];rfl
  refine⟨_,hy2,?_⟩
  have e3:decide (((3:Nat):Int)=3)=true:=by decide
  have hy3:atI (rs.map rowD) (i:Int)=some (.tup [.tup (y.1.map D.str),.str y.2.1,.str y.2.2]):=hy2
  simp! only[vSeq,rowD,wayD]
  rw[e3]
  simp! only[vSeq,true_and]
  refine⟨_,hy3,cmpR y y,Nat.le_trans (depR y) (by decide),?_⟩
  simp only[qfk]
  exact hnx _ ⟨_,_,rfl⟩
 ·rintro τ ⟨kv,rv,rfl⟩
  simp! only[vSeq,true_and]
  exact h
def q2t:TVS:=(vSeq (vSet 1 (qaj qa0 (qab (vVar 0) (qab (vC (.int 0)) vNil))))
 (vSeq (vSet 2 (vOp vAdd (vC (.int 1)) (qaj qap (qab (vVar 1) (qab (vC (.int 0)) (qab (vC (.int 10)) vNil))))))
 (vSeq (vIfS (vBl (vOp vEq (qaj qap (qab (vVar 1) (qab (vC (.int 1)) (qab (vC (.int 6)) vNil)))) (vC (.int 0))))
  (vSet 2 (vOp vAdd (vC (.int 1)) (qaj qap (qab (vVar 1) (qab (vC (.int 2)) (qab (vC (.int 41)) vNil))))))
  qaz)
 (vSeq (vSet 3 (qaj qdx (qab (qaj qf5 (qab (vVar 0) (qab (vC (.int 6)) (qab (vC (.int 1)) (qab (vVar 2) vNil))))) (qab (qaj qa0 (qab (vVar 0) (qab (vC (.int 1)) vNil))) vNil))))
 (vSeq (vSet 4 (qaj qeu (qab (vVar 3) (qab (vVar 0) vNil))))
 (vSeq (vSet 5 (qaj qqa (qab (vVar 4) vNil)))
 (vSeq (vIfS (vBl (vOp (vIsN id) (vVar 5) (vC .non)))
  (vRet (qaj qdy (qab (vVar 4) vNil)))
  qaz)
 (vRet (qit (qaj g_same (qab (qaj qbe (qab (vVar 4) vNil)) (qab (vVar 5) vNil))) (vOp vEq (qaj qca (qab (vVar 5) vNil)) (vVar 4)))))))))))
abbrev q6a:List Str:=["_law_script","_law_some","_law_many","_law_pane","_law_text","_law_due_here"]
theorem q7p:∀ds Q,qm1 ds Q->q2t (En Q) (qat q6a ds):=by
 rintro ds Q ⟨ns,rfl,h⟩
 have mx:∀(c k n:Int) (Y:R->Prop),0<=k->0<n->(∀i,0<=i->i<n->Y (.val (.int i)))->qap [.int c,.int k,.int n] Y:=λc k n Y hk hn y=>⟨c,k,n,rfl,hk,hn,λi h0 h1 _=>y i h0 h1⟩
 have ca:∀(k:Int) (Y:R->Prop),0<=k->(∀c,Y (.val (.int c)))->qa0 [.scr ns,.int k] Y:=λk Y hk y=>⟨ns,k,rfl,hk,y _⟩
 refine v_cut (λτ=>∃a:Int,τ=[some (.val (.scr ns)),some (.val (.int a)),none,none,none,none]) ?_ λnx hnx=>?now
 case now =>
  rfl'
  refine ca _ _ (by decide) λc=>?_
  rfl'
  exact hnx _ ⟨c,rfl⟩
 rintro τ ⟨a,rfl⟩
 refine v_cut (λτ=>∃m:Int,0<m/\m<=41/\τ=[some (.val (.scr ns)),some (.val (.int a)),some (.val (.int m)),none,none,none]) ?_ λnx hnx=>?nwa
 case nwa =>
  rfl'
  refine mx _ _ _ _ (by decide) (by decide) λc c0 c1=>?_
  rfl'
  exact hnx _ ⟨1+c,by omega,by omega,rfl⟩
 rintro τ ⟨m,m0,m1,rfl⟩
 refine v_cut (λτ=>∃m:Int,0<m/\m<=41/\τ=[some (.val (.scr ns)),some (.val (.int a)),some (.val (.int m)),none,none,none]) ?_ λnx hnx=>?nwb
 case nwb =>
  rfl'
  refine mx _ _ _ _ (by decide) (by decide) λc c0 c1=>?_
  rfl'
  split
  ·refine mx _ _ _ _ (by decide) (by decide) λc c0 c1=>?_
   rfl'
   exact hnx _ ⟨1+c,by omega,by omega,rfl⟩
  ·exact hnx _ ⟨m,m0,m1,rfl⟩
 clear m0 m1 m
 rintro τ ⟨m,m0,m1,rfl⟩
 refine v_cut (λτ=>∃ts:List Row,ts≠[]/\ts.length<=43/\(∀r∈ts,RowS r)/\τ=[some (.val (.scr ns)),some (.val (.int a)),some (.val (.int m)),some (.val (qax ts)),none,none]) ?_ λnx hnx=>?nwc
 case nwc =>
  have ce:∀Y:R->Prop,(∀cs:List Int,cs.length=m.toNat->Y (.own (.lst (cs.map D.int))))->qf5 [.scr ns,.int 6,.int 1,.int m] Y:=λY y=>⟨ns,6,1,m,rfl,by decide,by decide,by omega,by omega,y⟩
  rfl'
  refine ce _ λcs hcs=>?_
  rfl'
  refine ca _ _ (by decide) λc=>?_
  have pb:∀Y:R->Prop,(∀ts:List Row,ts≠[]->ts.length<=43->(∀r∈ts,RowS r)->Y (.own (qax ts)))->qdx [.lst (cs.map D.int),.int c] Y:=λY y=>⟨cs,c,rfl,by omega,by omega,y⟩
  rfl'
  refine pb _ λts h1 h2 h3=>?_
  rfl'
  exact hnx _ ⟨ts,h1,h2,h3,rfl⟩
 rintro τ ⟨ts,h1,h2,h3,rfl⟩
 refine v_cut (λτ=>∃t:Str,t.length<=50000/\τ=[some (.val (.scr ns)),some (.val (.int a)),some (.val (.int m)),some (.val (qax ts)),some (.val (.str t)),none]) ?_ λnx hnx=>?nwd
 case nwd =>
  have ob:∀Y:R->Prop,(∀t:Str,t.length<=50000->Y (.val (.str t)))->qeu [qax ts,.scr ns] Y:=λY y=>⟨ts,ns,rfl,h1,h2,h3,y⟩
  rfl'
  refine ob _ λt ht=>?_
  rfl'
  exact hnx _ ⟨t,ht,rfl⟩
 rintro τ ⟨t,ht,rfl⟩
 have ld:∀Y:R->Prop,(∀rs,dueT t=some rs->Y (.val (qax rs))/\Y (.own (qax rs)))->(dueT t=none->Y (.val .non))->qqa [.str t] Y:=λY y1 y2=>⟨t,rfl,ht,y1,y2⟩
 cases hd:dueT t with
|none =>
  refine v_cut (λτ=>τ=[some (.val (.scr ns)),some (.val (.int a)),some (.val (.int m)),some (.val (qax ts)),some (.val (.str t)),some (.val .non)]) ?_ λnx hnx=>?nwe
  case nwe =>
   rfl'
   refine ld _ (λrs e=>by rw[hd] at e;cases e) λ_=>?_
   rfl'
   exact hnx _ rfl
  rintro τ rfl
  have lr:∀Y:R->Prop,Y (.val (.bl true))->qdy [.str t] Y:=λY y=>⟨t,rfl,ht,hd,y⟩
  refine qfe ?_
  rfl'
  refine lr _ ?_
  rfl'
  exact h
|some rs =>
  refine v_cut (λτ=>τ=[some (.val (.scr ns)),some (.val (.int a)),some (.val (.int m)),some (.val (qax ts)),some (.val (.str t)),some (.val (qax rs))]) ?_ λnx hnx=>?nwf
  case nwf =>
   rfl'
   refine ld _ (λrs' e=>?_) λe=>by rw[hd] at e;cases e
   rw[hd] at e
   cases e
   constructor
   ·rfl'
    exact hnx _ rfl
   ·rfl'
    exact hnx _ rfl
  rintro τ rfl
  have rl:rs.length<=50001:=by
   rcases qjl hd with ⟨_,rfl⟩|⟨_,er,_⟩
   ·exact Nat.zero_le _
   ·have:=(qns er).1
    have:=(qgw t).1
    omega
  have lp:∀Y:R->Prop,Y (.own (qax rs))->qbe [.str t] Y:=λY y=>⟨t,rfl,ht,λrs' e=>(by rw[hd] at e;cases e;exact y),λe=>(by rw[hd] at e;cases e)⟩
  have lm:∀Y:R->Prop,Y (.val (.bl true))->g_same [qax rs,qax rs] Y:=λY y=>⟨rs,rfl,by omega,y⟩
  have lh:∀Y:R->Prop,Y (.val (.str t))->qca [qax rs] Y:=λY y=>⟨rs,t,rfl,ht,hd,y⟩
  refine qbt (λb=>b=false) (λY y=>?t1) (λhb=>by cases hb) λ_=>?n1
  case t1 =>
   dsimp! only[qax]
   exact y _ rfl
  case n1 =>
   rfl'
   refine lp _ ?_
   rfl'
   refine lm _ ?_
   rfl'
   refine lh _ ?_
   rfl'
   exact h
theorem q3i{K:PySem.W.Frag}{H:Hp}{a:Addr}(ns:List Int)(_:ns.length<=63)(hS:SqL K H a (ns.map V.int)){E:XK}:spOf K qm1 [.ref a] H (λv _=>v=.bl true) E:=qw9 ⟨ns,rfl,rfl⟩ hS
def top(i:Nat):Stmt:=PySem.Challenge.pw_glasslayers_k81_texts_read.main.body.getD i (.Pass ⟨0,0,0,0⟩)
abbrev qfq:Stmt:=top 8
abbrev qnt:Stmt:=top 10
abbrev qfc:Stmt:=top 13
abbrev qh2:Stmt:=top 14
abbrev qe2:Stmt:=top 15
abbrev qe0:Stmt:=top 16
abbrev qd4:Stmt:=top 19
abbrev qt3:Stmt:=top 20
abbrev qey:Stmt:=top 21
abbrev qci:Stmt:=top 22
abbrev qfb:Stmt:=top 25
abbrev qh1:Stmt:=top 26
abbrev qd6:Stmt:=top 29
abbrev qdn:Stmt:=top 30
abbrev qem:Stmt:=top 31
abbrev qel:Stmt:=top 32
abbrev qd5:Stmt:=top 33
abbrev qh0:Stmt:=top 35
abbrev qj8:Stmt:=top 36
abbrev qnv:Stmt:=top 37
abbrev qh4:Stmt:=top 38
abbrev qe1:Stmt:=top 39
abbrev qh3:Stmt:=top 40
abbrev qgb:Stmt:=top 41
abbrev qfr:Stmt:=top 42
abbrev s_row:Stmt:=top 43
abbrev s_same:Stmt:=top 44
abbrev qh6:Stmt:=top 45
abbrev qez:Stmt:=top 46
abbrev qkb:Stmt:=top 47
abbrev qfa:Stmt:=top 48
abbrev qgc:Stmt:=top 49
abbrev qnu:Stmt:=top 50
abbrev qj9:Stmt:=top 51
abbrev qw3:Stmt:=top 52
abbrev qh5:Stmt:=top 53
abbrev qka:Stmt:=top 54
structure Blt(K:PySem.W.Frag)(mg:Str->Option Value)(cGlassError:Addr)(cNoWay:Addr)(cNoPane:Addr)(cNoRow:Addr):Prop where
 GlassError:mg "GlassError" = some (.ref cGlassError)
 k_GlassError:clsOf K "GlassError" cGlassError
 NoWay:mg "NoWay" = some (.ref cNoWay)
 k_NoWay:clsOf K "NoWay" cNoWay
 NoPane:mg "NoPane" = some (.ref cNoPane)
 k_NoPane:clsOf K "NoPane" cNoPane
 NoRow:mg "NoRow" = some (.ref cNoRow)
 k_NoRow:clsOf K "NoRow" cNoRow
 x_NoWay:OwnX K cNoWay
 ek_NoWay:ExcK K cNoWay
 x_NoRow:OwnX K cNoRow
 ek_NoRow:ExcK K cNoRow
 d_NoRow:Value.ref cNoRow=oddC
 d_NoWay:Value.ref cNoWay≠oddC
 m_NoWay_NoWay:PySem.W.exmOne K (.ref cNoWay) (.ref cNoWay)=some true
 m_NoRow_NoWay:PySem.W.exmOne K (.ref cNoRow) (.ref cNoWay)=some false
 m_NoWay_NoRow:PySem.W.exmOne K (.ref cNoWay) (.ref cNoRow)=some false
 m_NoRow_NoRow:PySem.W.exmOne K (.ref cNoRow) (.ref cNoRow)=some true
 m_NoWay_GlassError:PySem.W.exmOne K (.ref cNoWay) (.ref cGlassError)=some true
 m_NoRow_GlassError:PySem.W.exmOne K (.ref cNoRow) (.ref cGlassError)=some true
 i_NoWay_ValueError:PySem.W.kitOne K (.ref cNoWay) (.type "ValueError")=some true
 i_NoRow_ValueError:PySem.W.kitOne K (.ref cNoRow) (.type "ValueError")=some true
 j_NoWay_NoWay_NoPane:PySem.W.kitAny K (.ref cNoWay) [(.ref cNoWay),(.ref cNoPane)]=some true
 j_NoRow_NoWay_NoPane:PySem.W.kitAny K (.ref cNoRow) [(.ref cNoWay),(.ref cNoPane)]=some false
 ValueError:mg "ValueError" = none
 all:mg "all" = none
 isinstance:mg "isinstance" = none
 len:mg "len" = none
 list:mg "list" = none
 range:mg "range" = none
 sorted:mg "sorted" = none
 str:mg "str" = none
 tuple:mg "tuple" = none
 zip:mg "zip" = none
 g_NAME_SIGNS:∃t,mg "NAME_SIGNS" = some (Value.str ("abcdefghijklmnopqrstuvwxyz0123456789" : Str) t)
 g_LONGEST_NAME:∃t,mg "LONGEST_NAME" = some (Value.int 12 t)
 g_MOST_WORDS:∃t,mg "MOST_WORDS" = some (Value.int 40 t)
 g_BARE_MARKS:∃ad,mg "BARE_MARKS" = some (.ref ad)/\SqT K (λ_=>none) ad ([("folder" : Str),("gone" : Str),("shut" : Str)].map V.str)
 g_TREE_MARKS:∃ad,mg "TREE_MARKS" = some (.ref ad)/\SqT K (λ_=>none) ad ([("file" : Str),("link" : Str),("folder" : Str)].map V.str)
 g_TEXT_MARKS:∃ad,mg "TEXT_MARKS" = some (.ref ad)/\SqT K (λ_=>none) ad ([("file" : Str),("link" : Str)].map V.str)
section
variable {P:Program} {w:World} {K:PySem.W.Frag} {mg:Str->Option Value} {base:Heap} {f:Addr} {fd:FuncData} {cGlassError:Addr} {cNoWay:Addr} {cNoPane:Addr} {cNoRow:Addr}
theorem qqw:FnScope ["_law_script","_law_k"] ["_law_script","_law_k"] (qaf qh0):=⟨rfl,rfl,rfl,by decide +kernel,rfl,by decide +kernel,by decide +kernel⟩
theorem sc_mixed:FnScope ["_law_cell","_law_turn","_law_many","_law_by","_law_prime"] ["_law_cell","_law_turn","_law_many"] (qaf qnv):=⟨rfl,rfl,rfl,by decide +kernel,rfl,by decide +kernel,by decide +kernel⟩
theorem sc_name_by:FnScope ["_law_cell","_law_signs","_law_size","_law_spot","_law_mixed_here","_law_name","_law_k"] ["_law_cell"] (qaf qh4):=⟨rfl,rfl,rfl,by decide +kernel,rfl,by decide +kernel,by decide +kernel⟩
theorem sc_signs_by:FnScope ["_law_cell","_law_some","_law_size","_law_text"] ["_law_cell"] (qaf qe1):=⟨rfl,rfl,rfl,by decide +kernel,rfl,by decide +kernel,by decide +kernel⟩
theorem qgo:CompScope (qaf qe1) ["_law_cell","_law_some","_law_size","_law_text"] ["_law_cell","_law_some","_law_size","_law_text","_law_k"] ["_law_k"] ({ kind:=PySem.ScopeKind.function,names:=[ (PySem.Str.ofString ".0",PySem.NameKind.local),(PySem.Str.ofString "_law_k",PySem.NameKind.local),(PySem.Str.ofString "_law_mixed",PySem.NameKind.globalImplicit),(PySem.Str.ofString "len",PySem.NameKind.globalImplicit),(PySem.Str.ofString "_law_cell",PySem.NameKind.free),(PySem.Str.ofString "_law_some",PySem.NameKind.free)],isGenerator:=false,isCoroutine:=false,more:=[]:PySem.Scope }):=⟨rfl,by decide +kernel,by decide +kernel,by decide +kernel,by decide +kernel,rfl,by decide +kernel⟩
theorem sc_link_by:FnScope ["_law_cell","_law_words","_law_k"] ["_law_cell"] (qaf qh3):=⟨rfl,rfl,rfl,by decide +kernel,rfl,by decide +kernel,by decide +kernel⟩
theorem sc_entry_by:FnScope ["_law_cell","_law_closed","_law_mark"] ["_law_cell","_law_closed"] (qaf qgb):=⟨rfl,rfl,rfl,by decide +kernel,rfl,by decide +kernel,by decide +kernel⟩
theorem sc_pane_by:FnScope ["_law_cells_here","_law_some","_law_things","_law_opens","_law_cell","_law_over","_law_closed","_law_way"] ["_law_cells_here","_law_some"] (qaf qfr):=⟨rfl,rfl,rfl,by decide +kernel,rfl,by decide +kernel,by decide +kernel⟩
theorem qhf:CompScope (qaf qfr) ["_law_cells_here","_law_some","_law_things","_law_opens","_law_cell","_law_over","_law_closed","_law_way"] ["_law_cells_here","_law_some","_law_things","_law_opens","_law_cell","_law_over","_law_closed","_law_way'","_law_way"] ["_law_way"] ({ kind:=PySem.ScopeKind.function,names:=[ (PySem.Str.ofString ".0",PySem.NameKind.local),(PySem.Str.ofString "_law_way",PySem.NameKind.local),(PySem.Str.ofString "_law_things",PySem.NameKind.free)],isGenerator:=false,isCoroutine:=false,more:=[]:PySem.Scope }):=⟨rfl,by decide +kernel,by decide +kernel,by decide +kernel,by decide +kernel,rfl,by decide +kernel⟩
theorem qw5:FnScope ["_law_script","_law_first","_law_step","_law_many"] ["_law_script","_law_first","_law_step","_law_many"] (qaf qj8):=⟨rfl,rfl,rfl,by decide +kernel,rfl,by decide +kernel,by decide +kernel⟩
theorem qk7:CompScope (qaf qj8) ["_law_script","_law_first","_law_step","_law_many"] ["_law_script","_law_first","_law_step","_law_many","_law_k"] ["_law_k"] ({ kind:=PySem.ScopeKind.function,names:=[ (PySem.Str.ofString ".0",PySem.NameKind.local),(PySem.Str.ofString "_law_k",PySem.NameKind.local),(PySem.Str.ofString "_law_cell_at",PySem.NameKind.globalImplicit),(PySem.Str.ofString "_law_first",PySem.NameKind.free),(PySem.Str.ofString "_law_script",PySem.NameKind.free),(PySem.Str.ofString "_law_step",PySem.NameKind.free)],isGenerator:=false,isCoroutine:=false,more:=[]:PySem.Scope }):=⟨rfl,by decide +kernel,by decide +kernel,by decide +kernel,by decide +kernel,rfl,by decide +kernel⟩
theorem sc_row:FnScope ["_law_entry_here","_law_row_here","_law_name"] ["_law_entry_here"] (qaf s_row):=⟨rfl,rfl,rfl,by decide +kernel,rfl,by decide +kernel,by decide +kernel⟩
theorem sc_odd_rows:FnScope ["_law_pane","_law_kind","_law_one","_law_other","_law_cell","_law_rows","_law_mark","_law_way"] ["_law_pane","_law_kind","_law_one","_law_other","_law_cell"] (qaf qez):=⟨rfl,rfl,rfl,by decide +kernel,rfl,by decide +kernel,by decide +kernel⟩
theorem qgm:CompScope (qaf qez) ["_law_pane","_law_kind","_law_one","_law_other","_law_cell","_law_rows","_law_mark","_law_way"] ["_law_pane","_law_kind","_law_one","_law_other","_law_cell","_law_rows","_law_mark","_law_way","_law_entry_here"] ["_law_entry_here"] ({ kind:=PySem.ScopeKind.function,names:=[ (PySem.Str.ofString ".0",PySem.NameKind.local),(PySem.Str.ofString "_law_entry_here",PySem.NameKind.local),(PySem.Str.ofString "_law_row",PySem.NameKind.globalImplicit)],isGenerator:=false,isCoroutine:=false,more:=[]:PySem.Scope }):=⟨rfl,by decide +kernel,by decide +kernel,by decide +kernel,by decide +kernel,rfl,by decide +kernel⟩
theorem sc_sign_by:FnScope ["_law_cell","_law_some","_law_kind"] ["_law_cell"] (qaf qh6):=⟨rfl,rfl,rfl,by decide +kernel,rfl,by decide +kernel,by decide +kernel⟩
theorem sc_odd_by:FnScope ["_law_pane","_law_script","_law_kind","_law_one","_law_other","_law_text","_law_place","_law_sign"] ["_law_pane","_law_script"] (qaf qkb):=⟨rfl,rfl,rfl,by decide +kernel,rfl,by decide +kernel,by decide +kernel⟩
theorem sc_l_is_word:FnScope ["_law_word","_law_dots","_law_sign"] ["_law_word","_law_dots"] (qaf qfa):=⟨rfl,rfl,rfl,by decide +kernel,rfl,by decide +kernel,by decide +kernel⟩
theorem sc_words_in:FnScope ["_law_text","_law_dots","_law_words","_law_word"] ["_law_text","_law_dots"] (qaf qgc):=⟨rfl,rfl,rfl,by decide +kernel,rfl,by decide +kernel,by decide +kernel⟩
theorem sc_entry:FnScope ["_law_row_here","_law_cuts","_law_way","_law_text"] ["_law_row_here"] (qaf qnu):=⟨rfl,rfl,rfl,by decide +kernel,rfl,by decide +kernel,by decide +kernel⟩
theorem sc_l_fits:FnScope ["_law_marks","_law_way","_law_k"] ["_law_marks","_law_way"] (qaf qj9):=⟨rfl,rfl,rfl,by decide +kernel,rfl,by decide +kernel,by decide +kernel⟩
theorem sc_due:FnScope ["_law_text","_law_entries","_law_marks","_law_k","_law_way"] ["_law_text"] (qaf qw3):=⟨rfl,rfl,rfl,by decide +kernel,rfl,by decide +kernel,by decide +kernel⟩
theorem qr1:CompScope (qaf qw3) ["_law_text","_law_entries","_law_marks","_law_k","_law_way"] ["_law_text","_law_entries","_law_marks","_law_k","_law_way","_law_row_here"] ["_law_row_here"] ({ kind:=PySem.ScopeKind.function,names:=[ (PySem.Str.ofString ".0",PySem.NameKind.local),(PySem.Str.ofString "_law_row_here",PySem.NameKind.local),(PySem.Str.ofString "_law_entry",PySem.NameKind.globalImplicit)],isGenerator:=false,isCoroutine:=false,more:=[]:PySem.Scope }):=⟨rfl,by decide +kernel,by decide +kernel,by decide +kernel,by decide +kernel,rfl,by decide +kernel⟩
theorem qqx:FnScope ["thing"] ["thing"] (qaf qfq):=⟨rfl,rfl,rfl,by decide +kernel,rfl,by decide +kernel,by decide +kernel⟩
theorem qhe:CompScope (qaf qfq) ["thing"] ["thing","sign"] ["sign"] ({ kind:=PySem.ScopeKind.function,names:=[ (PySem.Str.ofString ".0",PySem.NameKind.local),(PySem.Str.ofString "sign",PySem.NameKind.local),(PySem.Str.ofString "NAME_SIGNS",PySem.NameKind.globalImplicit)],isGenerator:=false,isCoroutine:=false,more:=[]:PySem.Scope }):=⟨rfl,by decide +kernel,by decide +kernel,by decide +kernel,by decide +kernel,rfl,by decide +kernel⟩
theorem qqy:FnScope ["text"] ["text"] (qaf qh2):=⟨rfl,rfl,rfl,by decide +kernel,rfl,by decide +kernel,by decide +kernel⟩
theorem sc_words_of:FnScope ["text","rooted","words"] ["text"] (qaf qe2):=⟨rfl,rfl,rfl,by decide +kernel,rfl,by decide +kernel,by decide +kernel⟩
theorem qgp:CompScope (qaf qe2) ["text","rooted","words"] ["text","rooted","words","word"] ["word"] ({ kind:=PySem.ScopeKind.function,names:=[ (PySem.Str.ofString ".0",PySem.NameKind.local),(PySem.Str.ofString "word",PySem.NameKind.local),(PySem.Str.ofString "is_word",PySem.NameKind.globalImplicit)],isGenerator:=false,isCoroutine:=false,more:=[]:PySem.Scope }):=⟨rfl,by decide +kernel,by decide +kernel,by decide +kernel,by decide +kernel,rfl,by decide +kernel⟩
theorem sc_read_way:FnScope ["text","found"] ["text"] (qaf qe0):=⟨rfl,rfl,rfl,by decide +kernel,rfl,by decide +kernel,by decide +kernel⟩
theorem qgn:CompScope (qaf qe0) ["text","found"] ["text","found","word"] ["word"] ({ kind:=PySem.ScopeKind.function,names:=[ (PySem.Str.ofString ".0",PySem.NameKind.local),(PySem.Str.ofString "word",PySem.NameKind.local),(PySem.Str.ofString "is_name",PySem.NameKind.globalImplicit)],isGenerator:=false,isCoroutine:=false,more:=[]:PySem.Scope }):=⟨rfl,by decide +kernel,by decide +kernel,by decide +kernel,by decide +kernel,rfl,by decide +kernel⟩
theorem qkd:FnScope ["word"] ["word"] (qaf qem):=⟨rfl,rfl,rfl,by decide +kernel,rfl,by decide +kernel,by decide +kernel⟩
theorem sc_read_entry:FnScope ["row","words"] ["row"] (qaf qel):=⟨rfl,rfl,rfl,by decide +kernel,rfl,by decide +kernel,by decide +kernel⟩
theorem qis:FnScope ["text"] ["text"] (qaf qd4):=⟨rfl,rfl,rfl,by decide +kernel,rfl,by decide +kernel,by decide +kernel⟩
theorem q1y:FnScope ["mark","text"] ["mark","text"] (qaf qt3):=⟨rfl,rfl,rfl,by decide +kernel,rfl,by decide +kernel,by decide +kernel⟩
theorem qnw:FnScope ["way","mark","text"] ["way","mark","text"] (qaf qey):=⟨rfl,rfl,rfl,by decide +kernel,rfl,by decide +kernel,by decide +kernel⟩
theorem qgl:CompScope (qaf qey) ["way","mark","text"] ["way","mark","text","name"] ["name"] ({ kind:=PySem.ScopeKind.function,names:=[ (PySem.Str.ofString ".0",PySem.NameKind.local),(PySem.Str.ofString "name",PySem.NameKind.local),(PySem.Str.ofString "is_name",PySem.NameKind.globalImplicit)],isGenerator:=false,isCoroutine:=false,more:=[]:PySem.Scope }):=⟨rfl,by decide +kernel,by decide +kernel,by decide +kernel,by decide +kernel,rfl,by decide +kernel⟩
theorem sc_are_entries:FnScope ["entries","rising"] ["entries"] (qaf qci):=⟨rfl,rfl,rfl,by decide +kernel,rfl,by decide +kernel,by decide +kernel⟩
theorem qde:CompScope (qaf qci) ["entries","rising"] ["entries","rising","one","other"] ["one","other"] ({ kind:=PySem.ScopeKind.function,names:=[ (PySem.Str.ofString ".0",PySem.NameKind.local),(PySem.Str.ofString "one",PySem.NameKind.local),(PySem.Str.ofString "other",PySem.NameKind.local)],isGenerator:=false,isCoroutine:=false,more:=[]:PySem.Scope }):=⟨rfl,by decide +kernel,by decide +kernel,by decide +kernel,by decide +kernel,rfl,by decide +kernel⟩
theorem qcf:CompScope (qaf qci) ["entries","rising"] ["entries","rising","way","mark","text"] ["way","mark","text"] ({ kind:=PySem.ScopeKind.function,names:=[ (PySem.Str.ofString ".0",PySem.NameKind.local),(PySem.Str.ofString "way",PySem.NameKind.local),(PySem.Str.ofString "mark",PySem.NameKind.local),(PySem.Str.ofString "text",PySem.NameKind.local),(PySem.Str.ofString "is_entry",PySem.NameKind.globalImplicit)],isGenerator:=false,isCoroutine:=false,more:=[]:PySem.Scope }):=⟨rfl,by decide +kernel,by decide +kernel,by decide +kernel,by decide +kernel,rfl,by decide +kernel⟩
theorem qlz:FnScope ["way","mark","shut_above"] ["way","mark","shut_above"] (qaf qfb):=⟨rfl,rfl,rfl,by decide +kernel,rfl,by decide +kernel,by decide +kernel⟩
theorem qw4:FnScope ["way"] ["way"] (qaf qnt):=⟨rfl,rfl,rfl,by decide +kernel,rfl,by decide +kernel,by decide +kernel⟩
theorem sc_is_pane:FnScope ["entries","shut_under","way","mark","text"] ["entries"] (qaf qh1):=⟨rfl,rfl,rfl,by decide +kernel,rfl,by decide +kernel,by decide +kernel⟩
theorem sc_read_pane:FnScope ["text","pane"] ["text"] (qaf qd5):=⟨rfl,rfl,rfl,by decide +kernel,rfl,by decide +kernel,by decide +kernel⟩
theorem qfi:CompScope (qaf qd5) ["text","pane"] ["text","pane","row"] ["row"] ({ kind:=PySem.ScopeKind.function,names:=[ (PySem.Str.ofString ".0",PySem.NameKind.local),(PySem.Str.ofString "row",PySem.NameKind.local),(PySem.Str.ofString "read_entry",PySem.NameKind.globalImplicit)],isGenerator:=false,isCoroutine:=false,more:=[]:PySem.Scope }):=⟨rfl,by decide +kernel,by decide +kernel,by decide +kernel,by decide +kernel,rfl,by decide +kernel⟩
theorem sc_refused:FnScope ["_law_text","_law_own","e"] ["_law_text"] (qaf qh5):=⟨rfl,rfl,rfl,by decide +kernel,rfl,by decide +kernel,by decide +kernel⟩
theorem sc_same:FnScope ["_law_found","_law_due_here","_law_k","_law_row_here"] ["_law_found","_law_due_here"] (qaf s_same):=⟨rfl,rfl,rfl,by decide +kernel,rfl,by decide +kernel,by decide +kernel⟩
theorem ql0:FnScope ["way"] ["way"] (qaf qfc):=⟨rfl,rfl,rfl,by decide +kernel,rfl,by decide +kernel,by decide +kernel⟩
theorem sc_shown_entry:FnScope ["way","mark","text","shown"] ["way","mark","text"] (qaf qd6):=⟨rfl,rfl,rfl,by decide +kernel,rfl,by decide +kernel,by decide +kernel⟩
theorem qkc:FnScope ["pane"] ["pane"] (qaf qdn):=⟨rfl,rfl,rfl,by decide +kernel,rfl,by decide +kernel,by decide +kernel⟩
theorem qcu:CompScope (qaf qdn) ["pane"] ["pane","way","mark","text"] ["way","mark","text"] ({ kind:=PySem.ScopeKind.function,names:=[ (PySem.Str.ofString ".0",PySem.NameKind.local),(PySem.Str.ofString "way",PySem.NameKind.local),(PySem.Str.ofString "mark",PySem.NameKind.local),(PySem.Str.ofString "text",PySem.NameKind.local),(PySem.Str.ofString "shown_entry",PySem.NameKind.globalImplicit)],isGenerator:=false,isCoroutine:=false,more:=[]:PySem.Scope }):=⟨rfl,by decide +kernel,by decide +kernel,by decide +kernel,by decide +kernel,rfl,by decide +kernel⟩
theorem sc_law:FnScope ["_law_script","_law_some","_law_many","_law_pane","_law_text","_law_due_here"] ["_law_script"] (qaf qka):=⟨rfl,rfl,rfl,by decide +kernel,rfl,by decide +kernel,by decide +kernel⟩
variable (B:Blt K mg cGlassError cNoWay cNoPane cNoRow) include B
theorem qqi(F:Fun K "_law_cell_at" "_law_cell_at" qh0 f fd) :FnOk P w K mg base CX0 1 f fd ["_law_script","_law_k"] (spOf K qa0) :=
 F.okV qqw qm3 λcdv A outer s H E hr=>⟨qg3,(qaa (qa4 (qal quv (vv 1) (qb3 qbo rfl B.len PyProof.Rows.Boot.«len» (vv 0)))
   (qae (qak (qau qan (vv 0) (vv 1))))
   qai)
  (qae (qak qad))),quz⟩
theorem qv7(F:Fun K "_law_mixed" "_law_mixed" qnv f fd) :FnOk P w K mg base CX0 1 f fd ["_law_cell","_law_turn","_law_many"] (spOf K qap) :=
 F.okV sc_mixed qs3 λcdv A outer s H E hr=>⟨qru,(qaa (qao (i:=3) sc_mixed.nd rfl (Or.inl rfl) (qa2 (vac qad (vac qad (vac qad (vac qad (vac qad (vac qad (vac qad (vac qad qag))))))))))
  (qaa (qao (i:=4) sc_mixed.nd rfl (Or.inl rfl) (qa2 (vac qad (vac qad (vac qad (vac qad (vac qad (vac qad (vac qad (vac qad qag))))))))))
  (qae (qak (qay qdp (qay qdp (qay quw (qay qa6 (qay qdp (vv 0) (qay q52 qad qad)) qad) (qau qan (vv 3) (qay qdp (vv 1) qad))) (qau qan (vv 4) (qay qdp (vv 1) qad))) (vv 2)))))),q2k⟩
theorem qqn(F:Fun K "_law_name_by" "_law_name_by" qh4 f fd) :FnOk P w K mg base CX0 1 f fd ["_law_cell"] (spOf K qbn) :=
 F.okV sc_name_by qm8 λcdv A outer s H E hr=>⟨qg9,(qaa (qao (i:=1) sc_name_by.nd rfl (Or.inl rfl) qah)
  (qaa (qao (i:=2) sc_name_by.nd rfl (Or.inl rfl) (qay qa6 qad (qay qdp (vv 0) qad)))
  (qaa (qao (i:=3) sc_name_by.nd rfl (Or.inl rfl) (qay qdp (qay qii (vv 0) qad) (vv 2)))
  (qaa (qao (i:=4) sc_name_by.nd rfl (Or.inl rfl) (qay qii (vv 0) qad))
  (qaa (qao (i:=5) sc_name_by.nd rfl (Or.inl rfl) qah)
  (qaa (qeq PassesOwn.never rfl (qff rfl B.range (vv 2)) (qas (i:=6) sc_name_by.nd rfl (Or.inl rfl))
   (qae (qa4 (vw_t (qd9 (qal (qa8 hr.units) (qay qdp (qay qii (vv 0) qad) qad) qad) (qdt (qal (qjb hr.units) (vv 6) (vv 3)))))
   (qae (qao (i:=5) sc_name_by.nd rfl (Or.inl rfl) (qay qa6 (vv 5) (qau qan (vv 1) (qay qdp (qay qii (vv 0) qad) qad)))))
   (qaa (qao (i:=5) sc_name_by.nd rfl (Or.inl rfl) (qay qa6 (vv 5) (qau qan (vv 1) (qay qdp (vv 4) qad))))
  (qae (qao (i:=4) sc_name_by.nd rfl (Or.inl rfl) (qay qii (vv 4) qad)))))))
  (qae (qak (vv 5))))))))),qu4⟩
theorem qnk(F:Fun K "_law_signs_by" "_law_signs_by" qe1 f fd)(Cmixed:Cal P w K mg base 1 "_law_mixed" ["_law_cell","_law_turn","_law_many"] (spOf K qap)):FnOk P w K mg base CX0 2 f fd ["_law_cell"] (spOf K qdc) :=
 F.okV sc_signs_by qlj λcdv A outer s H E hr=>⟨qf1,(qaa (qao (i:=1) sc_signs_by.nd rfl (Or.inr rfl) qah)
  (qaa (qao (i:=1) sc_signs_by.nd rfl (Or.inr rfl) (qay qa6 (vv 1) qah))
  (qaa (qao (i:=2) sc_signs_by.nd rfl (Or.inl rfl) (qam Cmixed (hr.mono (by decide)) rfl (vac (vv 0) (vac qad (vac qad qag)))))
  (qaa (qa4 (qal (qa8 hr.units) (vv 2) qad)
   (qae (qao (i:=2) sc_signs_by.nd rfl (Or.inl rfl) qad))
   qai)
  (qaa (qao (i:=3) sc_signs_by.nd rfl (Or.inl rfl) (qgh qah (vc_e (qc0 (M:=["_law_k"]) (qff rfl B.range (vv 2)) rfl qgo (λcl C s2 H2 fp pn=>(qas (i:=4) (qgo).nd rfl (Or.inl rfl))) (λcl C s2 H2 fp pn=>qc2) (λcl C s2 H2 fp pn=>(qau qan (vv 1) (qam Cmixed (hr.mono (by decide)) rfl (vac (qay qa6 (vv 0) (qay quw qad (vv 4))) (vac qad (vac (qb3 qbo rfl B.len PyProof.Rows.Boot.«len» (vv 1)) qag))))))))))
  (qae (qak (qay qa6 (vv 3) (qau qan (qa2 (vac qah (vac qah (vac qah qag)))) (qam Cmixed (hr.mono (by decide)) rfl (vac (vv 0) (vac qad (vac qad qag))))))))))))),qrf⟩
theorem qqm(F:Fun K "_law_link_by" "_law_link_by" qh3 f fd)(Cmixed:Cal P w K mg base 1 "_law_mixed" ["_law_cell","_law_turn","_law_many"] (spOf K qap))(Cname_by:Cal P w K mg base 1 "_law_name_by" ["_law_cell"] (spOf K qbn)):FnOk P w K mg base CX0 2 f fd ["_law_cell"] (spOf K qdw) :=
 F.okV sc_link_by qm7 λcdv A outer s H E hr=>⟨qg7,(qaa (qij (i:=1) sc_link_by.nd rfl (Or.inl rfl) (qi8 qag))
  (qaa (qeq PassesOwn.never rfl (qff rfl B.range (qay qa6 qad (qam Cmixed (hr.mono (by decide)) rfl (vac (vv 0) (vac qad (vac qad qag)))))) (qas (i:=2) sc_link_by.nd rfl (Or.inl rfl))
   (qae (qmd 1 (qau qan (qa2 (vac qah (vac qah (vac (qam Cname_by (hr.mono (by decide)) rfl (vac (qay qa6 (vv 0) (vv 2)) qag)) qag)))) (qam Cmixed (hr.mono (by decide)) rfl (vac (qay qa6 (vv 0) (vv 2)) (vac qad (vac qad qag))))))))
  (qae (qak (qay qa6 (qau qan (qa2 (vac qah (vac qah qag))) (qam Cmixed (hr.mono (by decide)) rfl (vac (vv 0) (vac qad (vac qad qag))))) (qgh qah (vv 1))))))),qu3⟩
theorem qng(F:Fun K "_law_entry_by" "_law_entry_by" qgb f fd)(Cmixed:Cal P w K mg base 1 "_law_mixed" ["_law_cell","_law_turn","_law_many"] (spOf K qap))(Csigns_by:Cal P w K mg base 2 "_law_signs_by" ["_law_cell"] (spOf K qdc))(Clink_by:Cal P w K mg base 2 "_law_link_by" ["_law_cell"] (spOf K qdw)):FnOk P w K mg base CX0 3 f fd ["_law_cell","_law_closed"] (spOf K qbv) :=
 F.okV sc_entry_by qle λcdv A outer s H E hr=>⟨qfx,(qaa (qao (i:=2) sc_entry_by.nd rfl (Or.inl rfl) (qau qan (qa2 (vac qah (vac qah (vac qah (vac qah (vac qah (vac qah qag))))))) (qam Cmixed (hr.mono (by decide)) rfl (vac (vv 0) (vac qad (vac qad qag))))))
  (qaa (qa4 (vw_t (qd9 (qc5 (vv 1)) (qdt (vw_t (qfg (qal (qa8 hr.units) (vv 2) qah) (qea (qal (qa8 hr.units) (vv 2) qah)))))))
   (qae (qao (i:=2) sc_entry_by.nd rfl (Or.inl rfl) qah))
   qai)
  (qaa (qa4 (qal (qa8 hr.units) (vv 2) qah)
   (qae (qak (qa2 (vac (vv 2) (vac (qam Csigns_by (hr.mono (by decide)) rfl (vac (vv 0) qag)) qag)))))
   qai)
  (qaa (qa4 (qal (qa8 hr.units) (vv 2) qah)
   (qae (qak (qa2 (vac (vv 2) (vac (qam Clink_by (hr.mono (by decide)) rfl (vac (vv 0) qag)) qag)))))
   qai)
  (qae (qak (qa2 (vac (vv 2) (vac qah qag))))))))),qrb⟩
theorem qqo(F:Fun K "_law_pane_by" "_law_pane_by" qfr f fd)(Cmixed:Cal P w K mg base 1 "_law_mixed" ["_law_cell","_law_turn","_law_many"] (spOf K qap))(Cname_by:Cal P w K mg base 1 "_law_name_by" ["_law_cell"] (spOf K qbn))(Centry_by:Cal P w K mg base 3 "_law_entry_by" ["_law_cell","_law_closed"] (spOf K qbv)):FnOk P w K mg base CX0 4 f fd ["_law_cells_here","_law_some"] (spOf K qdx) :=
 F.okV sc_pane_by qm9 λcdv A outer s H E hr=>⟨qha,(qaa (qij (i:=2) sc_pane_by.nd rfl (Or.inr rfl) qpo)
  (qaa (qij (i:=3) sc_pane_by.nd rfl (Or.inl rfl) (qi8 (vac (qa2 (vac (qa2 qag) (vac (qdo (qa8 hr.units) (qay qdp (vv 1) qad) qad) qag))) qag)))
  (qaa (qa4 (qal (qa8 hr.units) (qay qdp (vv 1) qad) qad)
   (qae (qkr 2 hr.dict (qa2 qag) (qa2 (vac qah (vac qah qag)))))
   qai)
  (qaa (qeq PassesOwn.never rfl (qdi (vv 0)) (qas (i:=4) sc_pane_by.nd rfl (Or.inl rfl))
   (qaa (qy2 (qau qan (vv 3) (qam Cmixed (hr.mono (by decide)) rfl (vac (vv 4) (vac qad (vac (qb3 qbo rfl B.len PyProof.Rows.Boot.«len» (vv 3)) qag))))) (qja rfl (qbk (qas (i:=5) sc_pane_by.nd rfl (Or.inl rfl)) (qbk (qas (i:=6) sc_pane_by.nd rfl (Or.inl rfl)) qgi))))
  (qaa (qa4 (qal (qa8 hr.units) (qam Cmixed (hr.mono (by decide)) rfl (vac (vv 4) (vac qad (vac qad qag)))) qad)
   (qae (qy2 (qau qan (vv 3) (qpp qad)) (qja rfl (qbk (qas (i:=5) sc_pane_by.nd rfl (Or.inl rfl)) (qbk (qas (i:=6) sc_pane_by.nd rfl (Or.inl rfl)) qgi)))))
   qai)
  (qaa (qao (i:=7) sc_pane_by.nd rfl (Or.inl rfl) (qay qa6 (vv 5) (qa2 (vac (qam Cname_by (hr.mono (by decide)) rfl (vac (qay qii (vv 4) qad) qag)) qag))))
  (qae (qa4 (vw_t (qd9 (qmf hr.dict (vv 7) (vv 2)) (qdt (qal quv (qb3 qbo rfl B.len PyProof.Rows.Boot.«len» (vv 7)) qad))))
   (qaa (qkr 2 hr.dict (vv 7) (qam Centry_by (hr.mono (by decide)) rfl (vac (vv 4) (vac (vv 6) qag))))
  (qae (qa4 (vw_t (qfg (qal (qa8 hr.units) (qau qan (qds hr.dict (vv 2) (vv 7)) qad) qah) (qea (qal (qa8 hr.units) (qau qan (qds hr.dict (vv 2) (vv 7)) qad) qah))))
   (qae (qmd 3 (qa2 (vac (vv 7) (vac (qum (vv 6) (qep (qdo (qa8 hr.units) (qau qan (qds hr.dict (vv 2) (vv 7)) qad) qah))) qag)))))
   qai)))
   qai))))))
  (qae (qak (vc_e (qc0 (M:=["_law_way"]) (qdi (qb3 (qup hr.units) rfl B.sorted PyProof.Rows.Boot.«sorted» (q19 (qxn hr.hd) rfl B.list PyProof.Rows.Boot.«list» (vv 2)))) rfl qhf (λcl C s2 H2 fp pn=>(qas (i:=8) (qhf).nd rfl (Or.inl rfl))) (λcl C s2 H2 fp pn=>qc2) (λcl C s2 H2 fp pn=>(qa2 (vac (vv 8) (vac (qau qan (qds hr.dict (vv 2) (vv 8)) qad) (vac (qau qan (qds hr.dict (vv 2) (vv 8)) qad) qag))))))))))))),qu5⟩
theorem qv5(F:Fun K "_law_cells" "_law_cells" qj8 f fd)(Ccell_at:Cal P w K mg base 1 "_law_cell_at" ["_law_script","_law_k"] (spOf K qa0)):FnOk P w K mg base CX0 2 f fd ["_law_script","_law_first","_law_step","_law_many"] (spOf K qf5) :=
 F.okV qw5 qs1 λcdv A outer s H E hr=>⟨qmq,(qae (qak (vc_e (qc0 (M:=["_law_k"]) (qff rfl B.range (vv 3)) rfl qk7 (λcl C s2 H2 fp pn=>(qas (i:=4) (qk7).nd rfl (Or.inl rfl))) (λcl C s2 H2 fp pn=>qc2) (λcl C s2 H2 fp pn=>(qay qa6 (qam Ccell_at (hr.mono (by decide)) rfl (vac (vv 0) (vac (qay qa6 (vv 1) (qay quw (vv 2) (vv 4))) qag))) (vv 4))))))),q2i⟩
theorem q3s(F:Fun K "_law_row" "_law_row" s_row f fd) :FnOk P w K mg base CX0 1 f fd ["_law_entry_here"] (spOf K g_row) :=
 F.okV sc_row qz3 λcdv A outer s H E hr=>⟨qzc,(qaa (qao (i:=1) sc_row.nd rfl (Or.inl rfl) (qay qa6 (qau qan (vv 0) qad) qah))
  (qaa (qeq PassesOwn.never rfl (qdi (qau qan (vv 0) qad)) (qas (i:=2) sc_row.nd rfl (Or.inl rfl))
   (qae (qao (i:=1) sc_row.nd rfl (Or.inl rfl) (qay qa6 (qay qa6 (vv 1) qah) (vv 2)))))
  (qaa (qa4 (qal (qa8 hr.units) (qau qan (vv 0) qad) (qa2 qag))
   (qae (qao (i:=1) sc_row.nd rfl (Or.inl rfl) (qay qa6 (vv 1) qah)))
   qai)
  (qaa (qa4 (vw_t (qfg (qal (qa8 hr.units) (qau qan (vv 0) qad) qah) (qea (qal (qa8 hr.units) (qau qan (vv 0) qad) qah))))
   (qae (qak (qay qa6 (qay qa6 (vv 1) qah) (qau qan (vv 0) qad))))
   qai)
  (qae (qak (vv 1))))))),q7q⟩
theorem qni(F:Fun K "_law_odd_rows" "_law_odd_rows" qez f fd)(Crow:Cal P w K mg base 1 "_law_row" ["_law_entry_here"] (spOf K g_row))(Cmixed:Cal P w K mg base 1 "_law_mixed" ["_law_cell","_law_turn","_law_many"] (spOf K qap))(Cname_by:Cal P w K mg base 1 "_law_name_by" ["_law_cell"] (spOf K qbn))(Centry_by:Cal P w K mg base 3 "_law_entry_by" ["_law_cell","_law_closed"] (spOf K qbv)):FnOk P w K mg base CX0 4 f fd ["_law_pane","_law_kind","_law_one","_law_other","_law_cell"] (spOf K qda) :=
 F.okV sc_odd_rows qlh λcdv A outer s H E hr=>⟨qfz,(qaa (qpv (i:=5) sc_odd_rows.nd rfl (Or.inl rfl) (qc0 (M:=["_law_entry_here"]) (qdi (vv 0)) rfl qgm (λcl C s2 H2 fp pn=>(qas (i:=8) (qgm).nd rfl (Or.inl rfl))) (λcl C s2 H2 fp pn=>qc2) (λcl C s2 H2 fp pn=>(qam Crow (hr.mono (by decide)) rfl (vac (vv 8) qag)))))
  (qaa (qa4 (qal (qa8 hr.units) (vv 1) qad)
   (qae (q2g 5 rfl (vv 2) (vv 3) (qa2 (vac (qau qan (vv 5) (vv 3)) (vac (qau qan (vv 5) (vv 2)) qag)))))
   qai)
  (qaa (qa4 (qal (qa8 hr.units) (vv 1) qad)
   (qae (q2d 5 (vv 2)))
   qai)
  (qaa (qa4 (qal (qa8 hr.units) (vv 1) qad)
   (qae (qme 5 (vac (vv 3) (vac (qau qan (vv 5) (vv 2)) qag))))
   qai)
  (qaa (qa4 (qal (qa8 hr.units) (vv 1) qad)
   (qae (qux 5 (vv 2) (qay qa6 (qau qan (vv 5) (vv 2)) qah)))
   qai)
  (qaa (qa4 (qal (qa8 hr.units) (vv 1) qad)
   (qaa (qao (i:=6) sc_odd_rows.nd rfl (Or.inl rfl) (qau qan (qa2 (vac qah (vac qah (vac qah (vac qah (vac qah (vac qah qag))))))) (qam Cmixed (hr.mono (by decide)) rfl (vac (vv 4) (vac qad (vac qad qag))))))
  (qae (qux 5 (vv 2) (qam Crow (hr.mono (by decide)) rfl (vac (qa2 (vac (qau qan (qau qan (vv 0) (vv 2)) qad) (vac (vv 6) (vac (qau qan (qau qan (vv 0) (vv 2)) qad) qag)))) qag)))))
   qai)
  (qaa (qa4 (qal (qa8 hr.units) (vv 1) qad)
   (qaa (qao (i:=7) sc_odd_rows.nd rfl (Or.inl rfl) (qay qa6 (qau qan (qau qan (vv 0) (vv 2)) qad) (qa2 (vac (qam Cname_by (hr.mono (by decide)) rfl (vac (qay qii (vv 4) qad) qag)) qag))))
  (qae (qme 5 (vac (qay qa6 (vv 3) qad) (vac (qam Crow (hr.mono (by decide)) rfl (vac (qay qa6 (qa2 (vac (vv 7) qag)) (qam Centry_by (hr.mono (by decide)) rfl (vac (vv 4) (vac qc1 qag)))) qag)) qag)))))
   qai)
  (qae (qak (qgh qah (vv 5))))))))))),qrd⟩
theorem qqq(F:Fun K "_law_sign_by" "_law_sign_by" qh6 f fd)(Cmixed:Cal P w K mg base 1 "_law_mixed" ["_law_cell","_law_turn","_law_many"] (spOf K qap)):FnOk P w K mg base CX0 2 f fd ["_law_cell"] (spOf K qdz) :=
 F.okV sc_sign_by qnb λcdv A outer s H E hr=>⟨qhd,(qaa (qao (i:=1) sc_sign_by.nd rfl (Or.inl rfl) qah)
  (qaa (qao (i:=1) sc_sign_by.nd rfl (Or.inl rfl) (qay qa6 (vv 1) qah))
  (qaa (qao (i:=2) sc_sign_by.nd rfl (Or.inl rfl) (qam Cmixed (hr.mono (by decide)) rfl (vac (vv 0) (vac qad (vac qad qag)))))
  (qaa (qa4 (qal quv (vv 2) qad)
   (qae (qak (qau qan (qa2 (vac qah (vac qah (vac qah qag)))) (vv 2))))
   qai)
  (qae (qak (qau qan (vv 1) (qam Cmixed (hr.mono (by decide)) rfl (vac (vv 0) (vac qad (vac (qb3 qbo rfl B.len PyProof.Rows.Boot.«len» (vv 1)) qag))))))))))),qu7⟩
theorem qti(F:Fun K "_law_odd_by" "_law_odd_by" qkb f fd)(Cmixed:Cal P w K mg base 1 "_law_mixed" ["_law_cell","_law_turn","_law_many"] (spOf K qap))(Ccell_at:Cal P w K mg base 1 "_law_cell_at" ["_law_script","_law_k"] (spOf K qa0))(Codd_rows:Cal P w K mg base 4 "_law_odd_rows" ["_law_pane","_law_kind","_law_one","_law_other","_law_cell"] (spOf K qda))(Csign_by:Cal P w K mg base 2 "_law_sign_by" ["_law_cell"] (spOf K qdz)):FnOk P w K mg base CX0 5 f fd ["_law_pane","_law_script"] (spOf K qeu) :=
 F.okV sc_odd_by qqf λcdv A outer s H E hr=>⟨qjf,(qaa (qao (i:=2) sc_odd_by.nd rfl (Or.inl rfl) (qam Cmixed (hr.mono (by decide)) rfl (vac (qam Ccell_at (hr.mono (by decide)) rfl (vac (vv 1) (vac qad qag))) (vac qad (vac qad qag)))))
  (qaa (qao (i:=3) sc_odd_by.nd rfl (Or.inl rfl) (qam Cmixed (hr.mono (by decide)) rfl (vac (qam Ccell_at (hr.mono (by decide)) rfl (vac (vv 1) (vac qad qag))) (vac qad (vac (qb3 qbo rfl B.len PyProof.Rows.Boot.«len» (vv 0)) qag)))))
  (qaa (qao (i:=4) sc_odd_by.nd rfl (Or.inl rfl) (qam Cmixed (hr.mono (by decide)) rfl (vac (qam Ccell_at (hr.mono (by decide)) rfl (vac (vv 1) (vac qad qag))) (vac qad (vac (qb3 qbo rfl B.len PyProof.Rows.Boot.«len» (vv 0)) qag)))))
  (qaa (qa4 (vw_t (qd9 (qal (qa8 hr.units) (vv 2) qad) (qdt (qal (qa8 hr.units) (qam Cmixed (hr.mono (by decide)) rfl (vac (qam Ccell_at (hr.mono (by decide)) rfl (vac (vv 1) (vac qad qag))) (vac qad (vac qad qag)))) qad))))
   (qae (qao (i:=4) sc_odd_by.nd rfl (Or.inl rfl) (vv 3)))
   qai)
  (qaa (qao (i:=5) sc_odd_by.nd rfl (Or.inl rfl) (qam Codd_rows (hr.mono (by decide)) rfl (vac (vv 0) (vac (vv 2) (vac (vv 3) (vac (vv 4) (vac (qam Ccell_at (hr.mono (by decide)) rfl (vac (vv 1) (vac qad qag))) qag)))))))
  (qaa (qao (i:=6) sc_odd_by.nd rfl (Or.inl rfl) (qay qdp (qam Ccell_at (hr.mono (by decide)) rfl (vac (vv 1) (vac qad qag))) (qay qa6 (qb3 qbo rfl B.len PyProof.Rows.Boot.«len» (vv 5)) qad)))
  (qaa (qao (i:=7) sc_odd_by.nd rfl (Or.inl rfl) (qam Csign_by (hr.mono (by decide)) rfl (vac (qam Ccell_at (hr.mono (by decide)) rfl (vac (vv 1) (vac qad qag))) qag)))
  (qaa (qa4 (qal (qa8 hr.units) (vv 2) qad)
   (qae (qak (qay qa6 (qay qa6 (qbj (vv 5) qb7 (qb8 (vv 6))) (vv 7)) (qbj (vv 5) (qb8 (qay qa6 (vv 6) qad)) qb7))))
   qai)
  (qaa (qa4 (qal (qa8 hr.units) (vv 2) qad)
   (qae (qak (qay qa6 (qay qa6 (qbj (vv 5) qb7 (qb8 (vv 6))) (vv 7)) (qbj (vv 5) (qb8 (vv 6)) qb7))))
   qai)
  (qaa (qa4 (qal (qa8 hr.units) (vv 2) qad)
   (qae (qak (qau qan (qa2 (vac (qay qa6 (vv 5) qah) (vac (qay qa6 qah (vv 5)) qag))) (qay qdp (vv 6) qad))))
   qai)
  (qae (qak (vv 5))))))))))))),qxv⟩
theorem qln(F:Fun K "_law_is_word" "_law_is_word" qfa f fd) :FnOk P w K mg base CX0 1 f fd ["_law_word","_law_dots"] (spOf K qcq) :=
 F.okV sc_l_is_word qjo λcdv A outer s H E hr=>⟨qg6,(qaa (qeq PassesOwn.never rfl (qdi (vv 0)) (qas (i:=2) sc_l_is_word.nd rfl (Or.inl rfl))
   (qae (qa4 (qal qpu (vv 2) qah)
   (qae (qak (qih (vv 1) (qep (qum (qdo (qa8 hr.units) (vv 0) qah) (qep (qdo (qa8 hr.units) (vv 0) qah)))))))
   qai)))
  (qae (qak (qxk quv q2c qad (qb3 qbo rfl B.len PyProof.Rows.Boot.«len» (vv 0)) qad)))),qn6⟩
theorem qnl(F:Fun K "_law_words_in" "_law_words_in" qgc f fd)(Cl_is_word:Cal P w K mg base 1 "_law_is_word" ["_law_word","_law_dots"] (spOf K qcq)):FnOk P w K mg base CX0 2 f fd ["_law_text","_law_dots"] (spOf K qcd) :=
 F.okV sc_words_in qlk λcdv A outer s H E hr=>⟨qf2,(qaa (qao (i:=2) sc_words_in.nd rfl (Or.inl rfl) (qfw (vv 0) qah))
  (qaa (qa4 (qal (qa8 hr.units) (vv 0) qah)
   (qae (qak (qi8 qag)))
   qai)
  (qaa (qa4 (qal (qa8 hr.units) (qbj (vv 0) qb7 (qb8 qad)) qah)
   (qae (qao (i:=2) sc_words_in.nd rfl (Or.inl rfl) (qbj (vv 2) (qb8 qad) qb7)))
   qai)
  (qaa (qeq PassesOwn.never rfl (qdi (vv 2)) (qas (i:=3) sc_words_in.nd rfl (Or.inl rfl))
   (qae (qa4 (vw_t (qfg (qc4 (qc5 (qam Cl_is_word (hr.mono (by decide)) rfl (vac (vv 3) (vac (vv 1) qag))))) (qea (qal qra (qb3 qbo rfl B.len PyProof.Rows.Boot.«len» (vv 2)) qad))))
   (qae (qak qe5))
   qai)))
  (qae (qak (vv 2))))))),qrg⟩
theorem qv6(F:Fun K "_law_entry" "_law_entry" qnu f fd)(Cwords_in:Cal P w K mg base 2 "_law_words_in" ["_law_text","_law_dots"] (spOf K qcd)):FnOk P w K mg base CX0 3 f fd ["_law_row_here"] (spOf K qf6) :=
 F.okV sc_entry qs2 λcdv A outer s H E hr=>⟨qmr,(qaa (qao (i:=1) sc_entry.nd rfl (Or.inl rfl) (qfw (vv 0) qah))
  (qaa (qa4 (vw_t (qfg (qal quv (qb3 qbo rfl B.len PyProof.Rows.Boot.«len» (vv 1)) qad) (qfg (qal (qjb hr.units) (qbj (qau qan (vv 1) qad) qb7 (qb8 qad)) qah) (qea (qal qxq (qam Cwords_in (hr.mono (by decide)) rfl (vac (qau qan (vv 1) qad) (vac qc1 qag))) qe5)))))
   (qae (qak qe5))
   qai)
  (qaa (qao (i:=2) sc_entry.nd rfl (Or.inl rfl) (q19 qpq rfl B.tuple PyProof.Rows.Boot.«tuple» (qam Cwords_in (hr.mono (by decide)) rfl (vac (qau qan (vv 1) qad) (vac qc1 qag)))))
  (qaa (qao (i:=3) sc_entry.nd rfl (Or.inl rfl) (qgh qah (qbj (vv 1) (qb8 qad) qb7)))
  (qaa (qa4 (vw_t (qd9 (qal (qa8 hr.units) (qau qan (vv 1) qad) qah) (qdt (qal qra (qb3 qbo rfl B.len PyProof.Rows.Boot.«len» (vv 1)) qad))))
   (qae (qak (qa2 (vac (vv 2) (vac qah (vac (vv 3) qag))))))
   qai)
  (qaa (qa4 (vw_t (qd9 (qal (qa8 hr.units) (qau qan (vv 1) qad) qah) (qd9 (qal qra (qb3 qbo rfl B.len PyProof.Rows.Boot.«len» (vv 1)) qad) (qdt (qal qxr (qam Cwords_in (hr.mono (by decide)) rfl (vac (vv 3) (vac qc1 qag))) qe5)))))
   (qae (qak (qa2 (vac (vv 2) (vac qah (vac (vv 3) qag))))))
   qai)
  (qaa (qa4 (vw_t (qd9 (qal qkq (qau qan (vv 1) qad) (qa2 (vac qah (vac qah (vac qah qag))))) (qdt (qal (qa8 hr.units) (qb3 qbo rfl B.len PyProof.Rows.Boot.«len» (vv 1)) qad))))
   (qae (qak (qa2 (vac (vv 2) (vac (qau qan (vv 1) qad) (vac qah qag))))))
   qai)
  (qae (qak qe5))))))))),q2j⟩
theorem qth(F:Fun K "_law_fits" "_law_fits" qj9 f fd) :FnOk P w K mg base CX0 1 f fd ["_law_marks","_law_way"] (spOf K qet) :=
 F.okV sc_l_fits qqe λcdv A outer s H E hr=>⟨qob,(qaa (qa4 (qal (qa8 hr.units) (vv 1) (qa2 qag))
   (qae (qak (qdo (qa8 hr.units) (qds hr.dict (vv 0) (vv 1)) qah)))
   qai)
  (qaa (qa4 (vw_t (qd9 (qal qra (qb3 qbo rfl B.len PyProof.Rows.Boot.«len» (vv 1)) qad) (qdt (vw_t (qfg (qmf hr.dict (qbj (vv 1) qb7 (qb8 (qpp qad))) (vv 0)) (qea (qal qpu (qds hr.dict (vv 0) (qbj (vv 1) qb7 (qb8 (qpp qad)))) (qa2 (vac qah (vac qah qag))))))))))
   (qae (qak qc1))
   qai)
  (qaa (qeq PassesOwn.never rfl (qff rfl B.range (qb3 qbo rfl B.len PyProof.Rows.Boot.«len» (vv 1))) (qas (i:=2) sc_l_fits.nd rfl (Or.inl rfl))
   (qae (qa4 (vw_t (qd9 (q54 hr.dict (qbj (vv 1) qb7 (qb8 (vv 2))) (vv 0)) (qd9 (qal (qa8 hr.units) (qds hr.dict (vv 0) (qbj (vv 1) qb7 (qb8 (vv 2)))) qah) (qdt (qal qkq (qds hr.dict (vv 0) (vv 1)) (qa2 (vac qah (vac qah qag))))))))
   (qae (qak qc1))
   qai)))
  (qae (qak qc1))))),qxu⟩
theorem q3q(F:Fun K "_law_due" "_law_due" qw3 f fd)(Centry:Cal P w K mg base 3 "_law_entry" ["_law_row_here"] (spOf K qf6))(Cl_fits:Cal P w K mg base 1 "_law_fits" ["_law_marks","_law_way"] (spOf K qet)):FnOk P w K mg base CX0 4 f fd ["_law_text"] (spOf K qqa) :=
 F.okV sc_due qz1 λcdv A outer s H E hr=>⟨q2s,(qaa (qa4 (qal (qa8 hr.units) (vv 0) qah)
   (qae (qak (qi8 qag)))
   qai)
  (qaa (q2f (i:=1) sc_due.nd rfl (Or.inl rfl) (qc0 (M:=["_law_row_here"]) (qdi (qfw (vv 0) qah)) rfl qr1 (λcl C s2 H2 fp pn=>(qas (i:=5) (qr1).nd rfl (Or.inl rfl))) (λcl C s2 H2 fp pn=>qc2) (λcl C s2 H2 fp pn=>(qam Centry (hr.mono (by decide)) rfl (vac (vv 5) qag)))))
  (qaa (qij (i:=2) sc_due.nd rfl (Or.inl rfl) qpo)
  (qaa (qeq PassesOwn.never rfl (qff rfl B.range (qb3 qbo rfl B.len PyProof.Rows.Boot.«len» (vv 1))) (qas (i:=3) sc_due.nd rfl (Or.inl rfl))
   (qaa (qa4 (vw_t (qfg (qal qxq (qau qan (vv 1) (vv 3)) qe5) (qea (vw_t (qd9 (qal qra (vv 3) qad) (qdt (qc4 (qal (qy1 hr.units) (qau qan (qau qan (vv 1) (qay q53 (vv 3) qad)) qad) (qau qan (qau qan (vv 1) (vv 3)) qad)))))))))
   (qae (qak qe5))
   qai)
  (qae (qkr 2 hr.dict (qau qan (qau qan (vv 1) (vv 3)) qad) (qau qan (qau qan (vv 1) (vv 3)) qad)))))
  (qxs 2 (qaa (qeq PassesOwn.never rfl (qxo 2) (qas (i:=4) sc_due.nd rfl (Or.inl rfl))
   (qae (qa4 (qc4 (qc5 (qam Cl_fits (hr.mono (by decide)) rfl (vac (vv 2) (vac (vv 4) qag)))))
   (qae (qak qe5))
   qai)))
  (qae (qak (vv 1))))))))),q7o⟩
theorem qqj(F:Fun K "is_name" "is_name" qfq f fd) :FnOk P w K mg base CX0 1 f fd ["thing"] (spOf K qbl) :=
 F.okV qqx qm4 λcdv A outer s H E hr=>⟨qg4,(qaa (qa4 (qc4 (qc5 (qgg .str rfl B.isinstance rfl B.str PyProof.Rows.Boot.«str» (vv 0))))
   (qae (qak qc1))
   qai)
  (qaa (qa4 (qc4 (qxt q2c q2c qad (qb3 qbo rfl B.len PyProof.Rows.Boot.«len» (vv 0)) (qkn (z:=(.int 12)) rfl (Classical.choose_spec B.g_LONGEST_NAME) ⟨_,rfl⟩ rfl)))
   (qae (qak qc1))
   qai)
  (qae (qak (qb3 (qi9 rfl) rfl B.all PyProof.Rows.Boot.«all» (vc_e (qc0 (M:=["sign"]) (qdi (vv 0)) rfl qhe (λcl C s2 H2 fp pn=>(qas (i:=1) (qhe).nd rfl (Or.inl rfl))) (λcl C s2 H2 fp pn=>qc2) (λcl C s2 H2 fp pn=>(qdo qkq (vv 1) (qkn (z:=(.str ("abcdefghijklmnopqrstuvwxyz0123456789" : Str))) rfl (Classical.choose_spec B.g_NAME_SIGNS) ⟨_,rfl⟩ rfl)))))))))),qu0⟩
theorem qql(F:Fun K "is_word" "is_word" qh2 f fd)(Cis_name:Cal P w K mg base 1 "is_name" ["thing"] (spOf K qbl)):FnOk P w K mg base CX0 2 f fd ["text"] (spOf K qdf) :=
 F.okV qqy qm6 λcdv A outer s H E hr=>⟨qg5,(qae (qak (qum (qdo qkq (vv 0) (qa2 (vac qah (vac qah qag)))) (qep (qam Cis_name (hr.mono (by decide)) rfl (vac (vv 0) qag)))))),qu2⟩
theorem qnm(F:Fun K "words_of" "words_of" qe2 f fd)(Cis_word:Cal P w K mg base 2 "is_word" ["text"] (spOf K qdf)):FnOk P w K mg base (CXR P w) 3 f fd ["text"] (spOf K qby) :=
 F.okVX sc_words_of qll λcdv A outer s H E hr o=>⟨qf3,(qaa (qa4 (qal (qa8 hr.units) (vv 0) qah)
   (qae (qak (qa2 (vac qc1 (vac (qi8 qag) qag)))))
   qai)
  (qaa (qao (i:=1) sc_words_of.nd rfl (Or.inl rfl) (quo (vv 0) qah))
  (qaa (qao (i:=2) sc_words_of.nd rfl (Or.inl rfl) (qfw (qg0 (qc5 (vv 1)) (qbj (vv 0) (qb8 qad) qb7) (vv 0)) qah))
  (qaa (qa4 (vw_t (qfg (qal qra (qb3 qbo rfl B.len PyProof.Rows.Boot.«len» (vv 2)) (qkn (z:=(.int 40)) rfl (Classical.choose_spec B.g_MOST_WORDS) ⟨_,rfl⟩ rfl)) (qea (qc4 (qc5 (qb3 (qi9 rfl) rfl B.all PyProof.Rows.Boot.«all» (vc_e (qc0 (M:=["word"]) (qdi (vv 2)) rfl qgp (λcl C s2 H2 fp pn=>(qas (i:=3) (qgp).nd rfl (Or.inl rfl))) (λcl C s2 H2 fp pn=>qc2) (λcl C s2 H2 fp pn=>(qam Cis_word (hr.mono (by decide)) rfl (vac (vv 3) qag)))))))))))
   (qae (qg1 ⟨cNoWay,B.NoWay,B.k_NoWay,B.x_NoWay⟩ rfl rfl o (vac (vv 0) qag)))
   qai)
  (qae (qak (qa2 (vac (vv 1) (vac (vv 2) qag))))))))),qrh⟩
theorem qnj(F:Fun K "read_way" "read_way" qe0 f fd)(Cwords_of:CalX P w K mg base 3 "words_of" ["text"] (spOf K qby))(Cis_name:Cal P w K mg base 1 "is_name" ["thing"] (spOf K qbl)):FnOk P w K mg base (CXR P w) 4 f fd ["text"] (spOf K qdb) :=
 F.okVX sc_read_way qli λcdv A outer s H E hr o=>⟨qf0,(qaa (qao (i:=1) sc_read_way.nd rfl (Or.inl rfl) (qgf Cwords_of o (hr.mono (by decide)) rfl (vac (vv 0) qag)))
  (qaa (qa4 (vw_t (qfg (qc4 (qc5 (qau qan (vv 1) qad))) (qea (qc4 (qc5 (qb3 (qi9 rfl) rfl B.all PyProof.Rows.Boot.«all» (vc_e (qc0 (M:=["word"]) (qdi (qau qan (vv 1) qad)) rfl qgn (λcl C s2 H2 fp pn=>(qas (i:=2) (qgn).nd rfl (Or.inl rfl))) (λcl C s2 H2 fp pn=>qc2) (λcl C s2 H2 fp pn=>(qam Cis_name (hr.mono (by decide)) rfl (vac (vv 2) qag)))))))))))
   (qae (qg1 ⟨cNoWay,B.NoWay,B.k_NoWay,B.x_NoWay⟩ rfl rfl o (vac (vv 0) qag)))
   qai)
  (qae (qak (q19 qpq rfl B.tuple PyProof.Rows.Boot.«tuple» (qau qan (vv 1) qad)))))),qre⟩
theorem qj1(F:Fun K "way_in_row" "way_in_row" qem f fd)(Cread_way:CalX P w K mg base 4 "read_way" ["text"] (spOf K qdb)):FnOk P w K mg base (CXR P w) 5 f fd ["word"] (spOf K qcc) :=
 F.okVX qkd qim λcdv A outer s H E hr o=>⟨qef,(qae (qpw (λpn E EX' po1 o1=>(qae (qak (qgf Cread_way o1 (hr.mono (by decide)) rfl (vac (vv 0) qag)))))
   (q2b (yes:=["NoWay"]) (no:=["NoRow"]) ⟨.ref cNoWay,B.NoWay,(qb1 B.k_NoWay B.m_NoWay_NoWay qc3),(qb1 B.k_NoRow B.m_NoRow_NoWay qc3)⟩ rfl ⟨cNoRow,B.NoRow,B.k_NoRow,B.x_NoRow⟩ rfl (q3p B.k_NoRow B.d_NoRow) (q0g B.k_NoWay B.d_NoWay) o (λe pn E=>(vac (vv 0) qag)) qps))),qmi⟩
theorem qjz(F:Fun K "read_entry" "read_entry" qel f fd)(Cway_in_row:CalX P w K mg base 5 "way_in_row" ["word"] (spOf K qcc)):FnOk P w K mg base (CXR P w) 6 f fd ["row"] (spOf K qb9) :=
 F.okVX sc_read_entry qik λcdv A outer s H E hr o=>⟨qed,(qaa (qao (i:=1) sc_read_entry.nd rfl (Or.inl rfl) (qun (vv 0) (vac qah (vac qad qag))))
  (qaa (qa4 (qal (qjb hr.units) (qb3 qbo rfl B.len PyProof.Rows.Boot.«len» (vv 1)) (qg0 (qal qkq (qau qan (vv 1) qad) (qgz rfl (Classical.choose_spec B.g_TEXT_MARKS).1 (Classical.choose_spec B.g_TEXT_MARKS).2)) qad qad))
   (qae (qg1 ⟨cNoRow,B.NoRow,B.k_NoRow,B.x_NoRow⟩ rfl rfl o (vac (vv 0) qag)))
   qai)
  (qae (qak (qa2 (vac (qgf Cway_in_row o (hr.mono (by decide)) rfl (vac (qau qan (vv 1) qad) qag)) (vac (qau qan (vv 1) qad) (vac (qg0 (qal (qa8 hr.units) (qb3 qbo rfl B.len PyProof.Rows.Boot.«len» (vv 1)) qad) (qau qan (vv 1) qad) qah) qag)))))))),qmg⟩
theorem qio(F:Fun K "is_way_text" "is_way_text" qd4 f fd)(Cwords_of:CalX P w K mg base 3 "words_of" ["text"] (spOf K qby)):FnOk P w K mg base CX0 4 f fd ["text"] (spOf K qbw) :=
 F.okV qis qhp λcdv A outer s H E hr=>⟨qd1,(qaa (qpw (λpn E EX' po1 o1=>(qae (qn4 (qgf Cwords_of o1 (hr.mono (by decide)) rfl (vac (vv 0) qag)))))
   (qus (yes:=["NoWay"]) (no:=["NoRow"]) ⟨.ref cNoWay,B.NoWay,(qb1 B.k_NoWay B.m_NoWay_NoWay qc3),(qb1 B.k_NoRow B.m_NoRow_NoWay qc3)⟩ rfl (λe pn E=>(qae (qak qc1))) qps))
  (qae (qak qc1))),qkt⟩
theorem q0i(F:Fun K "fits" "fits" qt3 f fd)(Cis_way_text:Cal P w K mg base 4 "is_way_text" ["text"] (spOf K qbw)):FnOk P w K mg base CX0 5 f fd ["mark","text"] (spOf K qiw) :=
 F.okV q1y qvu λcdv A outer s H E hr=>⟨qxx,(qaa (qa4 (qal (qa8 hr.units) (vv 0) qah)
   (qae (qak qc1))
   qai)
  (qaa (qa4 (qal (qa8 hr.units) (vv 0) qah)
   (qae (qak (qam Cis_way_text (hr.mono (by decide)) rfl (vac (vv 1) qag))))
   qai)
  (qae (qak (qih (qdo qkq (vv 0) (qgz rfl (Classical.choose_spec B.g_BARE_MARKS).1 (Classical.choose_spec B.g_BARE_MARKS).2)) (qep (qdo (qa8 hr.units) (vv 1) qah))))))),q55⟩
theorem qnh(F:Fun K "is_entry" "is_entry" qey f fd)(Cis_name:Cal P w K mg base 1 "is_name" ["thing"] (spOf K qbl))(Cfits:Cal P w K mg base 5 "fits" ["mark","text"] (spOf K qiw)):FnOk P w K mg base CX0 6 f fd ["way","mark","text"] (spOf K qc9) :=
 F.okV qnw qlg λcdv A outer s H E hr=>⟨qfy,(qae (qak (qih (qb3 (qi9 rfl) rfl B.all PyProof.Rows.Boot.«all» (vc_e (qc0 (M:=["name"]) (qdi (vv 0)) rfl qgl (λcl C s2 H2 fp pn=>(qas (i:=3) (qgl).nd rfl (Or.inl rfl))) (λcl C s2 H2 fp pn=>qc2) (λcl C s2 H2 fp pn=>(qam Cis_name (hr.mono (by decide)) rfl (vac (vv 3) qag)))))) (qep (qam Cfits (hr.mono (by decide)) rfl (vac (vv 1) (vac (vv 2) qag))))))),qrc⟩
theorem qin(F:Fun K "are_entries" "are_entries" qci f fd)(Cis_entry:Cal P w K mg base 6 "is_entry" ["way","mark","text"] (spOf K qc9)):FnOk P w K mg base CX0 7 f fd ["entries"] (spOf K qbu) :=
 F.okV sc_are_entries qho λcdv A outer s H E hr=>⟨qfh,(qaa (qao (i:=1) sc_are_entries.nd rfl (Or.inl rfl) (qb3 (qi9 rfl) rfl B.all PyProof.Rows.Boot.«all» (vc_e (qc0 (M:=["one","other"]) (q51 rfl B.zip (vac (vv 0) (vac (qbj (vv 0) (qb8 qad) qb7) qag))) rfl qde (λcl C s2 H2 fp pn=>(qja rfl (qbk (qas (i:=2) (qde).nd rfl (Or.inl rfl)) (qbk (qas (i:=3) (qde).nd rfl (Or.inl rfl)) qgi)))) (λcl C s2 H2 fp pn=>qc2) (λcl C s2 H2 fp pn=>(qdo (qy1 hr.units) (qau qan (vv 2) qad) (qau qan (vv 3) qad)))))))
  (qae (qak (qih (vv 1) (qep (qb3 (qi9 rfl) rfl B.all PyProof.Rows.Boot.«all» (vc_e (qc0 (M:=["way","mark","text"]) (qdi (vv 0)) rfl qcf (λcl C s2 H2 fp pn=>(qja rfl (qbk (qas (i:=2) (qcf).nd rfl (Or.inl rfl)) (qbk (qas (i:=3) (qcf).nd rfl (Or.inl rfl)) (qbk (qas (i:=4) (qcf).nd rfl (Or.inl rfl)) qgi))))) (λcl C s2 H2 fp pn=>qc2) (λcl C s2 H2 fp pn=>(qam Cis_entry (hr.mono (by decide)) rfl (vac (vv 2) (vac (vv 3) (vac (vv 4) qag))))))))))))),qks⟩
theorem qlo(F:Fun K "may_stand" "may_stand" qfb f fd) :FnOk P w K mg base CX0 1 f fd ["way","mark","shut_above"] (spOf K qcr) :=
 F.okV qlz qjp λcdv A outer s H E hr=>⟨qg8,(qaa (qa4 (qal (qa8 hr.units) (vv 0) (qa2 qag))
   (qae (qak (qdo (qa8 hr.units) (vv 1) qah)))
   qai)
  (qaa (qa4 (qal qxq (vv 2) qe5)
   (qae (qak qc1))
   qai)
  (qae (qak (qum (qdo qkq (vv 1) (qgz rfl (Classical.choose_spec B.g_TREE_MARKS).1 (Classical.choose_spec B.g_TREE_MARKS).2)) (qep (qyz (vv 2)))))))),qn7⟩
theorem qv4(F:Fun K "above" "above" qnt f fd) :FnOk P w K mg base CX0 1 f fd ["way"] (spOf K qe8) :=
 F.okV qw4 qs0 λcdv A outer s H E hr=>⟨qmp,(qae (qak (qbj (vv 0) qb7 (qb8 (qpp qad))))),q2h⟩
theorem qqk(F:Fun K "is_pane" "is_pane" qh1 f fd)(Care_entries:Cal P w K mg base 7 "are_entries" ["entries"] (spOf K qbu))(Cmay_stand:Cal P w K mg base 1 "may_stand" ["way","mark","shut_above"] (spOf K qcr))(Cabove:Cal P w K mg base 1 "above" ["way"] (spOf K qe8)):FnOk P w K mg base CX0 8 f fd ["entries"] (spOf K qdv) :=
 F.okV sc_is_pane qm5 λcdv A outer s H E hr=>⟨qky,(qaa (qa4 (qc4 (qc5 (qam Care_entries (hr.mono (by decide)) rfl (vac (vv 0) qag))))
   (qae (qak qc1))
   qai)
  (qaa (qij (i:=1) sc_is_pane.nd rfl (Or.inl rfl) (qxm hr.dict (qa2 qag) qc1))
  (qaa (qeq PassesOwn.never rfl (qdi (vv 0)) (qja rfl (qbk (qas (i:=2) sc_is_pane.nd rfl (Or.inl rfl)) (qbk (qas (i:=3) sc_is_pane.nd rfl (Or.inl rfl)) (qbk (qas (i:=4) sc_is_pane.nd rfl (Or.inl rfl)) qgi))))
   (qaa (qa4 (qc4 (qc5 (qam Cmay_stand (hr.mono (by decide)) rfl (vac (vv 2) (vac (vv 3) (vac (qxl hr.dict (vv 1) (qam Cabove (hr.mono (by decide)) rfl (vac (vv 2) qag))) qag))))))
   (qae (qak qc1))
   qai)
  (qae (qa4 (qal qkq (vv 3) (qa2 (vac qah (vac qah qag))))
   (qae (qkr 1 hr.dict (vv 2) (qum (qdo (qa8 hr.units) (vv 3) qah) (qep (qds hr.dict (vv 1) (qam Cabove (hr.mono (by decide)) rfl (vac (vv 2) qag)))))))
   qai))))
  (qae (qak qc1))))),qu1⟩
theorem qlp(F:Fun K "read_pane" "read_pane" qd5 f fd)(Cread_entry:CalX P w K mg base 6 "read_entry" ["row"] (spOf K qb9))(Cis_pane:Cal P w K mg base 8 "is_pane" ["entries"] (spOf K qdv)):FnOk P w K mg base (CXR P w) 9 f fd ["text"] (spOf K qbe) :=
 F.okVX sc_read_pane qjq λcdv A outer s H E hr o=>⟨qhb,(qaa (qa4 (qal (qa8 hr.units) (vv 0) qah)
   (qae (qak (qi8 qag)))
   qai)
  (qaa (qpv (i:=1) sc_read_pane.nd rfl (Or.inl rfl) (qxj (M:=["row"]) (qdi (qfw (vv 0) qah)) rfl qfi (λcl C s2 H2 fp pn=>(qas (i:=2) (qfi).nd rfl (Or.inl rfl))) o (λcl C s2 H2 fp pn E' hP=>(q18 Cread_entry hP (hr.mono (by decide)) rfl (vac (vv 2) qag)))))
  (qaa (qa4 (qc4 (qc5 (q16 (i:=1) Cis_pane (hr.mono (by decide)) rfl qag)))
   (qae (qg1 ⟨cNoRow,B.NoRow,B.k_NoRow,B.x_NoRow⟩ rfl rfl o (vac qah qag)))
   qai)
  (qae (q2e 1))))),qn8⟩
theorem qqp(F:Fun K "_law_refused" "_law_refused" qh5 f fd)(Cread_pane:CalX P w K mg base 9 "read_pane" ["text"] (spOf K qbe)):FnOk P w K mg base CX0 10 f fd ["_law_text"] (spOf K qdy) :=
 F.okV sc_refused qna λcdv A outer s H E hr=>⟨qhc,(qaa (qao (i:=1) sc_refused.nd rfl (Or.inl rfl) qc1)
  (qaa (qpw (λpn E EX' po1 o1=>(qae (qn4 (qgf Cread_pane o1 (hr.mono (by decide)) rfl (vac (vv 0) qag)))))
   (qus (yes:=["NoRow"]) (no:=["NoWay"]) ⟨.ref cNoRow,B.NoRow,(qb1 B.k_NoRow B.m_NoRow_NoRow qc3),(qb1 B.k_NoWay B.m_NoWay_NoRow qc3)⟩ rfl (λe pn E=>(qae (qao (i:=1) sc_refused.nd rfl (Or.inl rfl) qc1))) qps))
  (qaa (qpw (λpn E EX' po2 o2=>(qae (qn4 (qgf Cread_pane o2 (hr.mono (by decide)) rfl (vac (vv 0) qag)))))
   (q7n (yes:=["NoWay","NoRow"]) (no:=[]) (i:=2) sc_refused.nd rfl rfl ⟨.ref cGlassError,B.GlassError,(qb1 B.k_NoWay B.m_NoWay_GlassError (qb1 B.k_NoRow B.m_NoRow_GlassError qc3)),qc3⟩ rfl (λe pn E=>(qae (qak (qih (vv 1) (qih (q50 (T:="ValueError") (yes:=["NoWay","NoRow"]) (no:=[]) (q2u (qb1 B.k_NoWay B.ek_NoWay (qb1 B.k_NoRow B.ek_NoRow qc3)) qc3) (qb1 B.k_NoWay B.i_NoWay_ValueError (qb1 B.k_NoRow B.i_NoRow_ValueError qc3)) qc3 rfl B.isinstance rfl B.ValueError PyProof.Rows.Boot.«ValueError» (vv 2)) (qep (qyz (q2a (cs:=[cNoWay,cNoPane]) (yes:=["NoWay"]) (no:=["NoRow"]) (q2u (qb1 B.k_NoWay B.ek_NoWay qc3) (qb1 B.k_NoRow B.ek_NoRow qc3)) (qb1 B.k_NoWay B.j_NoWay_NoWay_NoPane qc3) (qb1 B.k_NoRow B.j_NoRow_NoWay_NoPane qc3) (Nat.le_of_ble_eq_true rfl) (qac (qj5 (v:=.ref cNoWay) rfl B.NoWay rfl) (qac (qj5 (v:=.ref cNoPane) rfl B.NoPane rfl) qd0)) (λ_ _ _ h=>h) rfl B.isinstance (vv 2))))))))) qps))
  (qae (qak qc1))))),qu6⟩
theorem q0j(F:Fun K "_law_same" "_law_same" s_same f fd) :FnOk P w K mg base CX0 1 f fd ["_law_found","_law_due_here"] (spOf K g_same) :=
 F.okV sc_same qvv λcdv A outer s H E hr=>⟨qrv,(qaa (qa4 (vw_t (qfg (qc4 (qc5 (qgg .list rfl B.isinstance rfl B.list PyProof.Rows.Boot.«list» (vv 0)))) (qea (qal (qjb hr.units) (qb3 qbo rfl B.len PyProof.Rows.Boot.«len» (vv 0)) (qb3 qbo rfl B.len PyProof.Rows.Boot.«len» (vv 1))))))
   (qae (qak qc1))
   qai)
  (qaa (qeq PassesOwn.never rfl (qff rfl B.range (qb3 qbo rfl B.len PyProof.Rows.Boot.«len» (vv 1))) (qas (i:=2) sc_same.nd rfl (Or.inl rfl))
   (qaa (qao (i:=3) sc_same.nd rfl (Or.inl rfl) (qau qan (vv 0) (vv 2)))
  (qaa (qa4 (vw_t (qfg (qc4 (qc5 (qgg .tuple rfl B.isinstance rfl B.tuple PyProof.Rows.Boot.«tuple» (vv 3)))) (qfg (qal (qjb hr.units) (qb3 qbo rfl B.len PyProof.Rows.Boot.«len» (vv 3)) qad) (qea (qc4 (qc5 (qgg .tuple rfl B.isinstance rfl B.tuple PyProof.Rows.Boot.«tuple» (qau qan (vv 3) qad))))))))
   (qae (qak qc1))
   qai)
  (qae (qa4 (vw_t (qfg (qc4 (qc5 (qgg .str rfl B.isinstance rfl B.str PyProof.Rows.Boot.«str» (qau qan (vv 3) qad)))) (qfg (qc4 (qc5 (qgg .str rfl B.isinstance rfl B.str PyProof.Rows.Boot.«str» (qau qan (vv 3) qad)))) (qea (qal (qjb hr.units) (vv 3) (qau qan (vv 1) (vv 2)))))))
   (qae (qak qc1))
   qai)))))
  (qae (qak qc1)))),q56⟩
theorem qlq(F:Fun K "shown_way" "shown_way" qfc f fd) :FnOk P w K mg base CX0 1 f fd ["way"] (spOf K qcs) :=
 F.okV ql0 qjr λcdv A outer s H E hr=>⟨qe6,(qae (qak (qay qa6 qah (qgh qah (vv 0))))),qn9⟩
theorem qip(F:Fun K "shown_entry" "shown_entry" qd6 f fd)(Cshown_way:Cal P w K mg base 1 "shown_way" ["way"] (spOf K qcs)):FnOk P w K mg base CX0 2 f fd ["way","mark","text"] (spOf K qbx) :=
 F.okV sc_shown_entry qhq λcdv A outer s H E hr=>⟨qd2,(qaa (qao (i:=3) sc_shown_entry.nd rfl (Or.inl rfl) (qam Cshown_way (hr.mono (by decide)) rfl (vac (vv 0) qag)))
  (qae (qak (qg0 (qal qkq (vv 1) (qgz rfl (Classical.choose_spec B.g_TEXT_MARKS).1 (Classical.choose_spec B.g_TEXT_MARKS).2)) (qul (qmc (vv 1) (quu (qmc (vv 3) (quu (qmc (vv 2) qy0)))))) (qul (qmc (vv 1) (quu (qmc (vv 3) qy0)))))))),qku⟩
theorem qj0(F:Fun K "shown_pane" "shown_pane" qdn f fd)(Cshown_entry:Cal P w K mg base 2 "shown_entry" ["way","mark","text"] (spOf K qbx)):FnOk P w K mg base CX0 3 f fd ["pane"] (spOf K qca) :=
 F.okV qkc qil λcdv A outer s H E hr=>⟨qee,(qae (qak (qgh qah (vc_e (qc0 (M:=["way","mark","text"]) (qdi (vv 0)) rfl qcu (λcl C s2 H2 fp pn=>(qja rfl (qbk (qas (i:=1) (qcu).nd rfl (Or.inl rfl)) (qbk (qas (i:=2) (qcu).nd rfl (Or.inl rfl)) (qbk (qas (i:=3) (qcu).nd rfl (Or.inl rfl)) qgi))))) (λcl C s2 H2 fp pn=>qc2) (λcl C s2 H2 fp pn=>(qam Cshown_entry (hr.mono (by decide)) rfl (vac (vv 1) (vac (vv 2) (vac (vv 3) qag)))))))))),qmh⟩
theorem q3r(F:Fun K "law" "law" qka f fd)(Ccell_at:Cal P w K mg base 1 "_law_cell_at" ["_law_script","_law_k"] (spOf K qa0))(Cmixed:Cal P w K mg base 1 "_law_mixed" ["_law_cell","_law_turn","_law_many"] (spOf K qap))(Cpane_by:Cal P w K mg base 4 "_law_pane_by" ["_law_cells_here","_law_some"] (spOf K qdx))(Ccells:Cal P w K mg base 2 "_law_cells" ["_law_script","_law_first","_law_step","_law_many"] (spOf K qf5))(Codd_by:Cal P w K mg base 5 "_law_odd_by" ["_law_pane","_law_script"] (spOf K qeu))(Cdue:Cal P w K mg base 4 "_law_due" ["_law_text"] (spOf K qqa))(Crefused:Cal P w K mg base 10 "_law_refused" ["_law_text"] (spOf K qdy))(Csame:Cal P w K mg base 1 "_law_same" ["_law_found","_law_due_here"] (spOf K g_same))(Cread_pane:CalX P w K mg base 9 "read_pane" ["text"] (spOf K qbe))(Cshown_pane:Cal P w K mg base 3 "shown_pane" ["pane"] (spOf K qca)):FnOk P w K mg base CX0 11 f fd ["_law_script"] (spOf K qm1) :=
 F.okV sc_law qz2 λcdv A outer s H E hr=>⟨q2t,(qaa (qao (i:=1) sc_law.nd rfl (Or.inl rfl) (qam Ccell_at (hr.mono (by decide)) rfl (vac (vv 0) (vac qad qag))))
  (qaa (qao (i:=2) sc_law.nd rfl (Or.inl rfl) (qay qa6 qad (qam Cmixed (hr.mono (by decide)) rfl (vac (vv 1) (vac qad (vac qad qag))))))
  (qaa (qa4 (qal (qa8 hr.units) (qam Cmixed (hr.mono (by decide)) rfl (vac (vv 1) (vac qad (vac qad qag)))) qad)
   (qae (qao (i:=2) sc_law.nd rfl (Or.inl rfl) (qay qa6 qad (qam Cmixed (hr.mono (by decide)) rfl (vac (vv 1) (vac qad (vac qad qag)))))))
   qai)
  (qaa (qao (i:=3) sc_law.nd rfl (Or.inl rfl) (qam Cpane_by (hr.mono (by decide)) rfl (vac (qam Ccells (hr.mono (by decide)) rfl (vac (vv 0) (vac qad (vac qad (vac (vv 2) qag))))) (vac (qam Ccell_at (hr.mono (by decide)) rfl (vac (vv 0) (vac qad qag))) qag))))
  (qaa (qao (i:=4) sc_law.nd rfl (Or.inl rfl) (qam Codd_by (hr.mono (by decide)) rfl (vac (vv 3) (vac (vv 0) qag))))
  (qaa (qao (i:=5) sc_law.nd rfl (Or.inl rfl) (qam Cdue (hr.mono (by decide)) rfl (vac (vv 4) qag)))
  (qaa (qa4 (qal qxq (vv 5) qe5)
   (qae (qak (qam Crefused (hr.mono (by decide)) rfl (vac (vv 4) qag))))
   qai)
  (qae (qak (qih (qam Csame (hr.mono (by decide)) rfl (vac (q17 Cread_pane (hr.mono (by decide)) rfl (vac (vv 4) qag)) (vac (vv 5) qag))) (qep (qdo (qa8 hr.units) (qam Cshown_pane (hr.mono (by decide)) rfl (vac (vv 5) qag)) (vv 4))))))))))))),q7p⟩
end
theorem q7s{l:PySem.W.OpenLaw}{w:World}{K:PySem.W.Frag}{h:Heap}{mg:Str->Option Value}{fa:Addr}(X:K.In h)(G:h.Ns mainGlobals mg)(hfa:mg "law" = some (.ref fa))
  {f37:Addr} {od37 an37:Option Addr} {sl37:Array (Option Value)} {oc37 kV37 dc37 pm37 cd37 ct37:Value}
  {cGlassError:Addr}
  {cNoWay:Addr}
  {cNoPane:Addr}
  {cNoRow:Addr}
  {gt_NAME_SIGNS:Tok}
  {gt_LONGEST_NAME:Tok}
  {gt_MOST_WORDS:Tok}
  {ad_BARE_MARKS:Addr} {ob_BARE_MARKS:Obj} {sn_BARE_MARKS:Nat} {gt_BARE_MARKS0:Tok} {gt_BARE_MARKS1:Tok} {gt_BARE_MARKS2:Tok}
  {ad_TREE_MARKS:Addr} {ob_TREE_MARKS:Obj} {sn_TREE_MARKS:Nat} {gt_TREE_MARKS0:Tok} {gt_TREE_MARKS1:Tok} {gt_TREE_MARKS2:Tok}
  {ad_TEXT_MARKS:Addr} {ob_TEXT_MARKS:Obj} {sn_TEXT_MARKS:Nat} {gt_TEXT_MARKS0:Tok} {gt_TEXT_MARKS1:Tok}
  (d1:qbg K "is_name" qfq)
  (d2:qbg K "above" qnt)
  (d3:qbg K "shown_way" qfc)
  (d4:qbg K "is_word" qh2)
  (d5:qbg K "words_of" qe2)
  (d6:qbg K "read_way" qe0)
  (d7:qbg K "is_way_text" qd4)
  (d8:qbg K "fits" qt3)
  (d9:qbg K "is_entry" qey)
  (d10:qbg K "are_entries" qci)
  (d11:qbg K "may_stand" qfb)
  (d12:qbg K "is_pane" qh1)
  (d13:qbg K "shown_entry" qd6)
  (d14:qbg K "shown_pane" qdn)
  (d15:qbg K "way_in_row" qem)
  (d16:qbg K "read_entry" qel)
  (d17:qbg K "read_pane" qd5)
  (d18:qbg K "_law_cell_at" qh0)
  (d19:qbg K "_law_cells" qj8)
  (d20:qbg K "_law_mixed" qnv)
  (d21:qbg K "_law_name_by" qh4)
  (d22:qbg K "_law_signs_by" qe1)
  (d23:qbg K "_law_link_by" qh3)
  (d24:qbg K "_law_entry_by" qgb)
  (d25:qbg K "_law_pane_by" qfr)
  (d26:qbg K "_law_row" s_row)
  (d27:qbg K "_law_same" s_same)
  (d28:qbg K "_law_sign_by" qh6)
  (d29:qbg K "_law_odd_rows" qez)
  (d30:qbg K "_law_odd_by" qkb)
  (d31:qbg K "_law_is_word" qfa)
  (d32:qbg K "_law_words_in" qgc)
  (d33:qbg K "_law_entry" qnu)
  (d34:qbg K "_law_fits" qj9)
  (d35:qbg K "_law_due" qw3)
  (d36:qbg K "_law_refused" qh5)
  (a37:PySem.W.nsIn K mainGlobals "law" = some (some (.ref f37))) (l37:K.lookup f37=some ⟨oc37,od37,.func (PySem.W.fnOf "law" "law" (qcx qka) (qbq qka) (qaf qka) .none kV37 dc37 pm37 an37 cd37 ct37),sl37⟩) (c37:PySem.W.codeIn K cd37 "law" = true) (k37:PySem.W.keepIn K (.ref f37)=true)
  (q_GlassError:PySem.W.nsIn K mainGlobals "GlassError" = some (some (.ref cGlassError)))
  (q_NoWay:PySem.W.nsIn K mainGlobals "NoWay" = some (some (.ref cNoWay)))
  (q_NoPane:PySem.W.nsIn K mainGlobals "NoPane" = some (some (.ref cNoPane)))
  (q_NoRow:PySem.W.nsIn K mainGlobals "NoRow" = some (some (.ref cNoRow)))
  (x_NoWay:OwnX K cNoWay)
  (ek_NoWay:ExcK K cNoWay)
  (x_NoRow:OwnX K cNoRow)
  (ek_NoRow:ExcK K cNoRow)
  (d_NoRow:Value.ref cNoRow=oddC)
  (d_NoWay:Value.ref cNoWay≠oddC)
  (m_NoWay_NoWay:PySem.W.exmOne K (.ref cNoWay) (.ref cNoWay)=some true)
  (m_NoRow_NoWay:PySem.W.exmOne K (.ref cNoRow) (.ref cNoWay)=some false)
  (m_NoWay_NoRow:PySem.W.exmOne K (.ref cNoWay) (.ref cNoRow)=some false)
  (m_NoRow_NoRow:PySem.W.exmOne K (.ref cNoRow) (.ref cNoRow)=some true)
  (m_NoWay_GlassError:PySem.W.exmOne K (.ref cNoWay) (.ref cGlassError)=some true)
  (m_NoRow_GlassError:PySem.W.exmOne K (.ref cNoRow) (.ref cGlassError)=some true)
  (i_NoWay_ValueError:PySem.W.kitOne K (.ref cNoWay) (.type "ValueError")=some true)
  (i_NoRow_ValueError:PySem.W.kitOne K (.ref cNoRow) (.type "ValueError")=some true)
  (j_NoWay_NoWay_NoPane:PySem.W.kitAny K (.ref cNoWay) [(.ref cNoWay),(.ref cNoPane)]=some true)
  (j_NoRow_NoWay_NoPane:PySem.W.kitAny K (.ref cNoRow) [(.ref cNoWay),(.ref cNoPane)]=some false)
  (g_NAME_SIGNS:PySem.W.nsIn K mainGlobals "NAME_SIGNS" = some (some (.str ("abcdefghijklmnopqrstuvwxyz0123456789" : Str) gt_NAME_SIGNS)))
  (g_LONGEST_NAME:PySem.W.nsIn K mainGlobals "LONGEST_NAME" = some (some (.int 12 gt_LONGEST_NAME)))
  (g_MOST_WORDS:PySem.W.nsIn K mainGlobals "MOST_WORDS" = some (some (.int 40 gt_MOST_WORDS)))
  (g_BARE_MARKS:PySem.W.nsIn K mainGlobals "BARE_MARKS" = some (some (.ref ad_BARE_MARKS)))
  (h_BARE_MARKS:K.lookup ad_BARE_MARKS=some ob_BARE_MARKS)
  (u_BARE_MARKS:ob_BARE_MARKS.cls=.type "tuple")
  (w_BARE_MARKS:ob_BARE_MARKS.data=.seq #[.str ("folder" : Str) gt_BARE_MARKS0,.str ("gone" : Str) gt_BARE_MARKS1,.str ("shut" : Str) gt_BARE_MARKS2] sn_BARE_MARKS)
  (g_TREE_MARKS:PySem.W.nsIn K mainGlobals "TREE_MARKS" = some (some (.ref ad_TREE_MARKS)))
  (h_TREE_MARKS:K.lookup ad_TREE_MARKS=some ob_TREE_MARKS)
  (u_TREE_MARKS:ob_TREE_MARKS.cls=.type "tuple")
  (w_TREE_MARKS:ob_TREE_MARKS.data=.seq #[.str ("file" : Str) gt_TREE_MARKS0,.str ("link" : Str) gt_TREE_MARKS1,.str ("folder" : Str) gt_TREE_MARKS2] sn_TREE_MARKS)
  (g_TEXT_MARKS:PySem.W.nsIn K mainGlobals "TEXT_MARKS" = some (some (.ref ad_TEXT_MARKS)))
  (h_TEXT_MARKS:K.lookup ad_TEXT_MARKS=some ob_TEXT_MARKS)
  (u_TEXT_MARKS:ob_TEXT_MARKS.cls=.type "tuple")
  (w_TEXT_MARKS:ob_TEXT_MARKS.data=.seq #[.str ("file" : Str) gt_TEXT_MARKS0,.str ("link" : Str) gt_TEXT_MARKS1] sn_TEXT_MARKS)
  (z_ValueError:PySem.W.nsIn K mainGlobals "ValueError" = some none)
  (z_all:PySem.W.nsIn K mainGlobals "all" = some none)
  (z_isinstance:PySem.W.nsIn K mainGlobals "isinstance" = some none)
  (z_len:PySem.W.nsIn K mainGlobals "len" = some none)
  (z_list:PySem.W.nsIn K mainGlobals "list" = some none)
  (z_range:PySem.W.nsIn K mainGlobals "range" = some none)
  (z_sorted:PySem.W.nsIn K mainGlobals "sorted" = some none)
  (z_str:PySem.W.nsIn K mainGlobals "str" = some none)
  (z_tuple:PySem.W.nsIn K mainGlobals "tuple" = some none)
  (z_zip:PySem.W.nsIn K mainGlobals "zip" = some none) :
  ∃fd:FuncData,(∀(s:Shared) (v:Value),BindsTo s fd ⟨[v],[]⟩ [("_law_script",v)])/\∀base:Heap,K.In base->base.Ns mainGlobals mg->FnOk l.prog w K mg base CX0 11 fa fd ["_law_script"] (spOf K qm1):=by
 have e:=hfa.symm.trans (PySem.W.mg_of X G a37)
 cases e
 have B:Blt K mg cGlassError cNoWay cNoPane cNoRow:=⟨PySem.W.mg_of X G q_GlassError,q_GlassError,PySem.W.mg_of X G q_NoWay,q_NoWay,PySem.W.mg_of X G q_NoPane,q_NoPane,PySem.W.mg_of X G q_NoRow,q_NoRow,x_NoWay,ek_NoWay,x_NoRow,ek_NoRow,d_NoRow,d_NoWay,m_NoWay_NoWay,m_NoRow_NoWay,m_NoWay_NoRow,m_NoRow_NoRow,m_NoWay_GlassError,m_NoRow_GlassError,i_NoWay_ValueError,i_NoRow_ValueError,j_NoWay_NoWay_NoPane,j_NoRow_NoWay_NoPane,PySem.W.mg_none_of X G z_ValueError,PySem.W.mg_none_of X G z_all,PySem.W.mg_none_of X G z_isinstance,PySem.W.mg_none_of X G z_len,PySem.W.mg_none_of X G z_list,PySem.W.mg_none_of X G z_range,PySem.W.mg_none_of X G z_sorted,PySem.W.mg_none_of X G z_str,PySem.W.mg_none_of X G z_tuple,PySem.W.mg_none_of X G z_zip,⟨_,PySem.W.mg_of X G g_NAME_SIGNS⟩,⟨_,PySem.W.mg_of X G g_LONGEST_NAME⟩,⟨_,PySem.W.mg_of X G g_MOST_WORDS⟩,⟨_,PySem.W.mg_of X G g_BARE_MARKS,.inr ⟨_,_,_,h_BARE_MARKS,u_BARE_MARKS,w_BARE_MARKS,Nat.le_of_ble_eq_true rfl,(.cons ⟨_,rfl⟩ (.cons ⟨_,rfl⟩ (.cons ⟨_,rfl⟩ .nil)))⟩⟩,⟨_,PySem.W.mg_of X G g_TREE_MARKS,.inr ⟨_,_,_,h_TREE_MARKS,u_TREE_MARKS,w_TREE_MARKS,Nat.le_of_ble_eq_true rfl,(.cons ⟨_,rfl⟩ (.cons ⟨_,rfl⟩ (.cons ⟨_,rfl⟩ .nil)))⟩⟩,⟨_,PySem.W.mg_of X G g_TEXT_MARKS,.inr ⟨_,_,_,h_TEXT_MARKS,u_TEXT_MARKS,w_TEXT_MARKS,Nat.le_of_ble_eq_true rfl,(.cons ⟨_,rfl⟩ (.cons ⟨_,rfl⟩ .nil))⟩⟩⟩
 have F37:=qyb (st:=qka) l37 c37 k37
 have b37:=F37.binds1 (ps:=["_law_script"]) rfl λ_ _ _ _ _ _ _=>rfl
 refine⟨PySem.W.fnOf "law" "law" (qcx qka) (qbq qka) (qaf qka) .none kV37 dc37 pm37 an37 cd37 ct37,λs v=>.of_eq rfl,λbase _ _=>?_⟩
 have Ccell_at:=calD l.prog w base X G d18 (λF=>qqi B F) λF=>F.binds2 (ps:=["_law_script","_law_k"]) rfl λ_ _ _ _ _ _ _ _=>rfl
 have Cmixed:=calD l.prog w base X G d20 (λF=>qv7 B F) λF=>F.binds3 (ps:=["_law_cell","_law_turn","_law_many"]) rfl λ_ _ _ _ _ _ _ _ _=>rfl
 have Cname_by:=calD l.prog w base X G d21 (λF=>qqn B F) λF=>F.binds1 (ps:=["_law_cell"]) rfl λ_ _ _ _ _ _ _=>rfl
 have Csigns_by:=calD l.prog w base X G d22 (λF=>qnk B F Cmixed) λF=>F.binds1 (ps:=["_law_cell"]) rfl λ_ _ _ _ _ _ _=>rfl
 have Clink_by:=calD l.prog w base X G d23 (λF=>qqm B F Cmixed Cname_by) λF=>F.binds1 (ps:=["_law_cell"]) rfl λ_ _ _ _ _ _ _=>rfl
 have Centry_by:=calD l.prog w base X G d24 (λF=>qng B F Cmixed Csigns_by Clink_by) λF=>F.binds2 (ps:=["_law_cell","_law_closed"]) rfl λ_ _ _ _ _ _ _ _=>rfl
 have Cpane_by:=calD l.prog w base X G d25 (λF=>qqo B F Cmixed Cname_by Centry_by) λF=>F.binds2 (ps:=["_law_cells_here","_law_some"]) rfl λ_ _ _ _ _ _ _ _=>rfl
 have Ccells:=calD l.prog w base X G d19 (λF=>qv5 B F Ccell_at) λF=>F.binds4 (ps:=["_law_script","_law_first","_law_step","_law_many"]) rfl λ_ _ _ _ _ _ _ _ _ _=>rfl
 have Crow:=calD l.prog w base X G d26 (λF=>q3s B F) λF=>F.binds1 (ps:=["_law_entry_here"]) rfl λ_ _ _ _ _ _ _=>rfl
 have Codd_rows:=calD l.prog w base X G d29 (λF=>qni B F Crow Cmixed Cname_by Centry_by) λF=>F.binds5 (ps:=["_law_pane","_law_kind","_law_one","_law_other","_law_cell"]) rfl λ_ _ _ _ _ _ _ _ _ _ _=>rfl
 have Csign_by:=calD l.prog w base X G d28 (λF=>qqq B F Cmixed) λF=>F.binds1 (ps:=["_law_cell"]) rfl λ_ _ _ _ _ _ _=>rfl
 have Codd_by:=calD l.prog w base X G d30 (λF=>qti B F Cmixed Ccell_at Codd_rows Csign_by) λF=>F.binds2 (ps:=["_law_pane","_law_script"]) rfl λ_ _ _ _ _ _ _ _=>rfl
 have Cl_is_word:=calD l.prog w base X G d31 (λF=>qln B F) λF=>F.binds2 (ps:=["_law_word","_law_dots"]) rfl λ_ _ _ _ _ _ _ _=>rfl
 have Cwords_in:=calD l.prog w base X G d32 (λF=>qnl B F Cl_is_word) λF=>F.binds2 (ps:=["_law_text","_law_dots"]) rfl λ_ _ _ _ _ _ _ _=>rfl
 have Centry:=calD l.prog w base X G d33 (λF=>qv6 B F Cwords_in) λF=>F.binds1 (ps:=["_law_row_here"]) rfl λ_ _ _ _ _ _ _=>rfl
 have Cl_fits:=calD l.prog w base X G d34 (λF=>qth B F) λF=>F.binds2 (ps:=["_law_marks","_law_way"]) rfl λ_ _ _ _ _ _ _ _=>rfl
 have Cdue:=calD l.prog w base X G d35 (λF=>q3q B F Centry Cl_fits) λF=>F.binds1 (ps:=["_law_text"]) rfl λ_ _ _ _ _ _ _=>rfl
 have Cis_name:=calD l.prog w base X G d1 (λF=>qqj B F) λF=>F.binds1 (ps:=["thing"]) rfl λ_ _ _ _ _ _ _=>rfl
 have Cis_word:=calD l.prog w base X G d4 (λF=>qql B F Cis_name) λF=>F.binds1 (ps:=["text"]) rfl λ_ _ _ _ _ _ _=>rfl
 have Cwords_of:=qrw l.prog w base X G d5 (λF=>qnm B F Cis_word) λF=>F.binds1 (ps:=["text"]) rfl λ_ _ _ _ _ _ _=>rfl
 have Cread_way:=qrw l.prog w base X G d6 (λF=>qnj B F Cwords_of Cis_name) λF=>F.binds1 (ps:=["text"]) rfl λ_ _ _ _ _ _ _=>rfl
 have Cway_in_row:=qrw l.prog w base X G d15 (λF=>qj1 B F Cread_way) λF=>F.binds1 (ps:=["word"]) rfl λ_ _ _ _ _ _ _=>rfl
 have Cread_entry:=qrw l.prog w base X G d16 (λF=>qjz B F Cway_in_row) λF=>F.binds1 (ps:=["row"]) rfl λ_ _ _ _ _ _ _=>rfl
 have Cis_way_text:=calD l.prog w base X G d7 (λF=>qio B F Cwords_of) λF=>F.binds1 (ps:=["text"]) rfl λ_ _ _ _ _ _ _=>rfl
 have Cfits:=calD l.prog w base X G d8 (λF=>q0i B F Cis_way_text) λF=>F.binds2 (ps:=["mark","text"]) rfl λ_ _ _ _ _ _ _ _=>rfl
 have Cis_entry:=calD l.prog w base X G d9 (λF=>qnh B F Cis_name Cfits) λF=>F.binds3 (ps:=["way","mark","text"]) rfl λ_ _ _ _ _ _ _ _ _=>rfl
 have Care_entries:=calD l.prog w base X G d10 (λF=>qin B F Cis_entry) λF=>F.binds1 (ps:=["entries"]) rfl λ_ _ _ _ _ _ _=>rfl
 have Cmay_stand:=calD l.prog w base X G d11 (λF=>qlo B F) λF=>F.binds3 (ps:=["way","mark","shut_above"]) rfl λ_ _ _ _ _ _ _ _ _=>rfl
 have Cabove:=calD l.prog w base X G d2 (λF=>qv4 B F) λF=>F.binds1 (ps:=["way"]) rfl λ_ _ _ _ _ _ _=>rfl
 have Cis_pane:=calD l.prog w base X G d12 (λF=>qqk B F Care_entries Cmay_stand Cabove) λF=>F.binds1 (ps:=["entries"]) rfl λ_ _ _ _ _ _ _=>rfl
 have Cread_pane:=qrw l.prog w base X G d17 (λF=>qlp B F Cread_entry Cis_pane) λF=>F.binds1 (ps:=["text"]) rfl λ_ _ _ _ _ _ _=>rfl
 have Crefused:=calD l.prog w base X G d36 (λF=>qqp B F Cread_pane) λF=>F.binds1 (ps:=["_law_text"]) rfl λ_ _ _ _ _ _ _=>rfl
 have Csame:=calD l.prog w base X G d27 (λF=>q0j B F) λF=>F.binds2 (ps:=["_law_found","_law_due_here"]) rfl λ_ _ _ _ _ _ _ _=>rfl
 have Cshown_way:=calD l.prog w base X G d3 (λF=>qlq B F) λF=>F.binds1 (ps:=["way"]) rfl λ_ _ _ _ _ _ _=>rfl
 have Cshown_entry:=calD l.prog w base X G d13 (λF=>qip B F Cshown_way) λF=>F.binds3 (ps:=["way","mark","text"]) rfl λ_ _ _ _ _ _ _ _ _=>rfl
 have Cshown_pane:=calD l.prog w base X G d14 (λF=>qj0 B F Cshown_entry) λF=>F.binds1 (ps:=["pane"]) rfl λ_ _ _ _ _ _ _=>rfl
 exact q3r B F37 Ccell_at Cmixed Cpane_by Ccells Codd_by Cdue Crefused Csame Cread_pane Cshown_pane
theorem walk{l:PySem.W.OpenLaw}{q:Program}{loose:List Str}{XP:(Str->Option Value)->Heap->Prop}{YP:World->Heap->Prop}{d:DefRec}{K:Params->PySem.W.Frag}(hn:l.most=some 63)(hdf:d.params.defaults=[])
  (hY:∀(w:World) (h:Heap),YP w h->(K w.params).In h)
  (F:∀(w:World) (mg:Str->Option Value) (fa:Addr) (h:Heap),(K w.params).In h->h.Ns mainGlobals mg->mg d.name=some (.ref fa) ->
   ∃fd:FuncData,(∀(s:Shared) (u:Value),BindsTo s fd ⟨[u],[]⟩ [("_law_script",u)])/\∀base:Heap,(K w.params).In base->base.Ns mainGlobals mg->FnOk l.prog w (K w.params) mg base CX0 11 fa fd ["_law_script"] (spOf (K w.params) qm1)) :
  PySem.W.WalkO q loose XP YP l.row.toRowW d [] (λf vs=>PySem.call f vs) :=
 L2.q7r (n:=63) (k:=11) (x:="_law_script") (CX:=λ_=>CX0) (sp:=λw=>spOf (K w.params) qm1) hn (by decide) hdf ⟨rfl,by decide,by decide⟩ hY F (λw H a ns hl _ hS=>q3i ns hl hS) λ_ _ _ _ _ z=>z
end K81
local macro_rules|`(tactic| ac_rfl)=>`(tactic| (refine' L2.q7t ?a ?b ?c ?d;(case a=>k_is);(case b=>k_is);(case c=>k_is);(case d=>k_is)))
open PySem PySem.W PyProof.Rows
set_option maxRecDepth 100000 in
set_option maxHeartbeats 0 in
def PySem.W.Fast.tw16463356222611601815 := ()
def PySem.W.Fast.tw1959013262128379125 := ()
def PySem.W.Fast.tw7542382450663373074 := ()
def PySem.W.Fast.tw15032712957850143867 := ()
def PySem.W.Fast.tw4252573349104523982 := ()
def PySem.W.Fast.tw15922131901556176463 := ()
def PySem.W.Fast.tw911337051240620579 := ()
def PySem.W.Fast.tw18272313957715117520 := ()
def PySem.W.Fast.tw407515057115163080 := ()
def PySem.W.Fast.tw8676567396681207807 := ()
def PySem.W.Fast.tw1720177248887633844 := ()
def PySem.W.Fast.tw6258278237279965089 := ()
def PySem.W.Fast.tw10602888373264779506 := ()
def PySem.W.Fast.tw9843237544768570157 := ()
def PySem.W.Fast.tw16998972188726910996 := ()
def PySem.W.Fast.tw7689182220974462411 := ()
def PySem.W.Fast.tw4723856818897841565 := ()
def PySem.W.Fast.tw10776599419868858535 := ()
def PySem.W.Fast.tw3155131587102714801 := ()
def PySem.W.Fast.tw736420676445244062 := ()
def PySem.W.Fast.tw2459497867294355734 := ()
def PySem.W.Fast.tw12003448974100888507 := ()
def PySem.W.Fast.tw6503105341868968540 := ()
def PySem.W.Fast.tw14830902586212198393 := ()
def PySem.W.Fast.tw10455446477270965715 := ()
def PySem.W.Fast.tw6744504363598090173 := ()
def PySem.W.Fast.tw10268100535837272859 := ()
def PySem.W.Fast.tw8446568288215203159 := ()
def PySem.W.Fast.tw5665581269012009168 := ()
def PySem.W.Fast.tw9516023240226068571 := ()
def PySem.W.Fast.tw13552466445184665736 := ()
def PySem.W.Fast.tw8881415226608334042 := ()
def PySem.W.Fast.tw12156734063766696578 := ()
def PySem.W.Fast.tw6438202352085686422 := ()
def PySem.W.Fast.tw14699118626159362533 := ()
def PySem.W.Fast.tw10668540372939980220 := ()
def PySem.W.Fast.tw6182550016371850467 := ()
def PySem.W.Fast.tw6181394748753815980 := ()
def PySem.W.Fast.tw11470750672648211970 := ()
def PySem.W.Fast.tw1343637218769819309 := ()
def PySem.W.Fast.tw17470248908029994891 := ()
def PySem.W.Fast.tw1577746790114595149 := ()
def PySem.W.Fast.tw7795227854758112096 := ()
def PySem.W.Fast.tw18166215493057649054 := ()
def PySem.W.Fast.tw1101984506939817931 := ()
def PySem.W.Fast.tw658800785205857916 := ()
def PySem.W.Fast.tw16958900261028082755 := ()
def PySem.W.Fast.tw11937275996480458454 := ()
def PySem.W.Fast.tw15840213862781154838 := ()
def PySem.W.Fast.tw16849163093250619447 := ()
def PySem.W.Fast.tw11949623819192791200 := ()
def PySem.W.Fast.tw11061557567913228081 := ()
def PySem.W.Fast.tw12543253117204190799 := ()
def PySem.W.Fast.tw13076988939123192821 := ()
def PySem.W.Fast.tw13693771975526039123 := ()
def PySem.W.Fast.tw841074215996627483 := ()
def PySem.W.Fast.tw13494283528085025259 := ()
def PySem.W.Fast.tw2028056306390745170 := ()
def PySem.W.Fast.tw1253831292881980672 := ()
def PySem.W.Fast.tw15558479122741495394 := ()
def PySem.W.Fast.tw13219179910143380112 := ()
def PySem.W.Fast.tw15976139038492988065 := ()
def PySem.W.Fast.tw1090740782790840359 := ()
def PySem.W.Fast.tw7551087916035612375 := ()
def PySem.W.Fast.tw16591606259095470418 := ()
def PySem.W.Fast.tw14286920729941999092 := ()
def PySem.W.Fast.tw6291201737945674255 := ()
def PySem.W.Fast.tw3378759637305004066 := ()
def PySem.W.Fast.tw11726708732856070934 := ()
def PySem.W.Fast.tw17048221815246080547 := ()
def PySem.W.Fast.tw14678900704972599287 := ()
def PySem.W.Fast.tw3033251074526380270 := ()
def PySem.W.Fast.tw16534262115351296287 := ()
def PySem.W.Fast.tw4195678959901000194 := ()
def PySem.W.Fast.tw18423302556048941724 := ()
def PySem.W.Fast.tw16483098087308017539 := ()
def PySem.W.Fast.tw10419215398945027846 := ()
def PySem.W.Fast.tw10198802041880302593 := ()
def PySem.W.Fast.tw12366136993562890780 := ()
def PySem.W.Fast.tw16645061834028669622 := ()
def PySem.W.Fast.tw744570005939762090 := ()
def PySem.W.Fast.tw2975975229235814427 := ()
def PySem.W.Fast.tw16939794177640904231 := ()
def PySem.W.Fast.tw12822154563483163225 := ()
def PySem.W.Fast.tw4287338857121735112 := ()
def PySem.W.Fast.tw7700750028994234586 := ()
def PySem.W.Fast.tw17897038806808033669 := ()
def PySem.W.Fast.tw6562886259560391192 := ()
def PySem.W.Fast.tw17955090969880135728 := ()
def PySem.W.Fast.tw2955037547558337101 := ()
def PySem.W.Fast.tw8676761805885921607 := ()
def PySem.W.Fast.tw5819129620734244122 := ()
def PySem.W.Fast.tw7818064943042045864 := ()
def PySem.W.Fast.tw1962194924488756703 := ()
def PySem.W.Fast.tw13341431684470293914 := ()
def PySem.W.Fast.tw16162619480191145835 := ()
def PySem.W.Fast.tw17979001276810394471 := ()
def PySem.W.Fast.tw18232058226130634031 := ()
def PySem.W.Fast.tw17902283230863257737 := ()
def PySem.W.Fast.tw6539731471960711200 := ()
def PySem.W.Fast.tw4582565471361840028 := ()
def PySem.W.Fast.tw3605065426360412099 := ()
def PySem.W.Fast.tw13264850813070090588 := ()
def PySem.W.Fast.tw1723770473195835296 := ()
def PySem.W.Fast.tw15798865266496427647 := ()
def PySem.W.Fast.tw16413909968260066435 := ()
def PySem.W.Fast.tw16769408597110214702 := ()
def PySem.W.Fast.tw15231988610868653086 := ()
def PySem.W.Fast.tw8581744351084775090 := ()
def PySem.W.Fast.tw9590058794900771564 := ()
def PySem.W.Fast.tw818775940246992515 := ()
def PySem.W.Fast.tw13317642794518929926 := ()
def PySem.W.Fast.tw5613159610362513863 := ()
def PySem.W.Fast.tw14836695929923483432 := ()
def PySem.W.Fast.tw12284614225249469749 := ()
def PySem.W.Fast.tw13198672743886429526 := ()
def PySem.W.Fast.tw15076083035939738268 := ()
def PySem.W.Fast.tw8090853677143126723 := ()
def PySem.W.Fast.tw7153675310505560865 := ()
def PySem.W.Fast.tw54135362418564316 := ()
def PySem.W.Fast.tw2212773686990778845 := ()
def PySem.W.Fast.tw17200907774734961480 := ()
def PySem.W.Fast.tw6594871477985781841 := ()
def PySem.W.Fast.tw11995626072575044702 := ()
def PySem.W.Fast.tw8005817555578829636 := ()
def PySem.W.Fast.tw6051459647580376499 := ()
def PySem.W.Fast.tw11616445699563877558 := ()
def PySem.W.Fast.tw3869055294533382300 := ()
def PySem.W.Fast.tw16932350579825685914 := ()
def PySem.W.Fast.tw1589130461359012321 := ()
def PySem.W.Fast.tw12230596608619033593 := ()
def PySem.W.Fast.tw7368515788596251929 := ()
def PySem.W.Fast.tw1336986603955319224 := ()
def PySem.W.Fast.tw1177274203902346572 := ()
def PySem.W.Fast.tw10845487624806174997 := ()
def PySem.W.Fast.tw6658628691976154646 := ()
def PySem.W.Fast.tw10504954403135989545 := ()
def PySem.W.Fast.tw10157179628732852532 := ()
def PySem.W.Fast.tw16564763752293040944 := ()
def PySem.W.Fast.tw13520935939777428188 := ()
def PySem.W.Fast.tw638523005085398010 := ()
def PySem.W.Fast.tw2412779595233298050 := ()
def PySem.W.Fast.tw10472342782744729424 := ()
def PySem.W.Fast.tw3008816378281403731 := ()
def PySem.W.Fast.tw10969481291718674995 := ()
def PySem.W.Fast.tw14420914751406424021 := ()
def PySem.W.Fast.tw10746353128423524116 := ()
def PySem.W.Fast.tw1810026958060902330 := ()
def PySem.W.Fast.tw5539908890194753196 := ()
def PySem.W.Fast.tw16245969519309258721 := ()
def PySem.W.Fast.tw9204480994089876519 := ()
def PySem.W.Fast.tw16243847768185772222 := ()
def PySem.W.Fast.tw15365496027429618884 := ()
def PySem.W.Fast.tw16772077840528413912 := ()
def PySem.W.Fast.tw17425901046267657935 := ()
def PySem.W.Fast.tw7889912900472700029 := ()
def PySem.W.Fast.tw4564250883638098204 := ()
def PySem.W.Fast.tw4373284310052957888 := ()
def PySem.W.Fast.tw15481757321161128111 := ()
def PySem.W.Fast.tw1002684331170884288 := ()
def PySem.W.Fast.tw2072489796343286506 := ()
def PySem.W.Fast.tw8438498285698214691 := ()
def PySem.W.Fast.tw4078590040599100624 := ()
def PySem.W.Fast.tw6397804205171615203 := ()
def PySem.W.Fast.tw15182634432913347926 := ()
def PySem.W.Fast.tw10410487075427938274 := ()
def PySem.W.Fast.tw4058076572824254234 := ()
def PySem.W.Fast.tw13202749973453094991 := ()
def PySem.W.Fast.tw10977423791318566268 := ()
def PySem.W.Fast.tw14464196982863864905 := ()
def PySem.W.Fast.tw15995485992776069503 := ()
def PySem.W.Fast.tw3936388521752206419 := ()
def PySem.W.Fast.tw11694955836352169753 := ()
def PySem.W.Fast.tw992678972499004356 := ()
def PySem.W.Fast.tw8238481301602599007 := ()
def PySem.W.Fast.tw11917144202579597799 := ()
def PySem.W.Fast.tw8576430452864263965 := ()
def PySem.W.Fast.tw6615970763908129588 := ()
def PySem.W.Fast.tw4878001103555083202 := ()
def PySem.W.Fast.tw14340937780883433349 := ()
def PySem.W.Fast.tw13539619484650506058 := ()
def PySem.W.Fast.tw688158759089139159 := ()
def PySem.W.Fast.tw1958041264504851630 := ()
def PySem.W.Fast.tw11459918232803654166 := ()
def PySem.W.Fast.tw17671306794287459063 := ()
def PySem.W.Fast.tw9122520597000362534 := ()
def PySem.W.Fast.tw1883306020116179863 := ()
def PySem.W.Fast.tw14747307610245930253 := ()
def PySem.W.Fast.tw15275679520056886006 := ()
def PySem.W.Fast.tw8513693738675261986 := ()
def PySem.W.Fast.tw12871605699418414754 := ()
def PySem.W.Fast.tw6029173401274033792 := ()
def PySem.W.Fast.tw4230373372437665868 := ()
def PySem.W.Fast.tw15458998638766403193 := ()
def PySem.W.Fast.tw3774087443323254545 := ()
def PySem.W.Fast.tw1434755673916170546 := ()
def PySem.W.Fast.tw14090979330269801739 := ()
def PySem.W.Fast.tw13164356277325452953 := ()
def PySem.W.Fast.tw6292562168376061021 := ()
def PySem.W.Fast.tw2710280220617091607 := ()
def PySem.W.Fast.tw1779098060544384482 := ()
def PySem.W.Fast.tw16441999458099594763 := ()
def PySem.W.Fast.tw9241031113020727375 := ()
def PySem.W.Fast.tw64806007352592780 := ()
def PySem.W.Fast.tw6040570122185181898 := ()
def PySem.W.Fast.tw17752224470504779147 := ()
def PySem.W.Fast.tw6758220976509209617 := ()
def PySem.W.Fast.tw5893517533625114721 := ()
def PySem.W.Fast.tw13076648983669096933 := ()
def PySem.W.Fast.tw10375822732879919059 := ()
def PySem.W.Fast.tw9584910478372111658 := ()
def PySem.W.Fast.tw9366200883764020187 := ()
def PySem.W.Fast.tw8987825848836961122 := ()
def PySem.W.Fast.tw7725554618554067958 := ()
def PySem.W.Fast.tw7409388202746734004 := ()
def PySem.W.Fast.tw7203260336994295947 := ()
def PySem.W.Fast.tw7016539452104758145 := ()
def PySem.W.Fast.tw5724764008764720569 := ()
def PySem.W.Fast.tw544434242990325449 := ()
def PySem.W.Fast.tw5389135295330335028 := ()
def PySem.W.Fast.tw5308533700208647270 := ()
def PySem.W.Fast.tw5285515788039438065 := ()
def PySem.W.Fast.tw4847594400617613013 := ()
def PySem.W.Fast.tw4697341033823686175 := ()
def PySem.W.Fast.tw4243192976039841403 := ()
def PySem.W.Fast.tw4030115140775449251 := ()
def PySem.W.Fast.tw3308453518243366407 := ()
def PySem.W.Fast.tw3050006318986167324 := ()
def PySem.W.Fast.tw2678857359631950549 := ()
def PySem.W.Fast.tw18402081701727606780 := ()
def PySem.W.Fast.tw18384756656474505160 := ()
def PySem.W.Fast.tw18073052714019477214 := ()
def PySem.W.Fast.tw18055588144136222812 := ()
def PySem.W.Fast.tw18026110537226038668 := ()
def PySem.W.Fast.tw17968868331480694401 := ()
def PySem.W.Fast.tw1782421535358449147 := ()
def PySem.W.Fast.tw17802871402998586345 := ()
def PySem.W.Fast.tw17737835786279462146 := ()
def PySem.W.Fast.tw17448567392273887812 := ()
def PySem.W.Fast.tw17266217195145868562 := ()
def PySem.W.Fast.tw17046188654605801495 := ()
def PySem.W.Fast.tw16721048338025491659 := ()
def PySem.W.Fast.tw16393314079279190882 := ()
def PySem.W.Fast.tw16228997734222060536 := ()
def PySem.W.Fast.tw16093071793506578768 := ()
def PySem.W.Fast.tw15831847681874841078 := ()
def PySem.W.Fast.tw15742052270930571251 := ()
def PySem.W.Fast.tw15532309694911262933 := ()
def PySem.W.Fast.tw15087099002610402283 := ()
def PySem.W.Fast.tw1498162080814696040 := ()
def PySem.W.Fast.tw14944817029512813121 := ()
def PySem.W.Fast.tw14718428816723812545 := ()
def PySem.W.Fast.tw14475208545060053152 := ()
def PySem.W.Fast.tw14353000825473809755 := ()
def PySem.W.Fast.tw14285961607313027863 := ()
def PySem.W.Fast.tw13031055072533667527 := ()
def PySem.W.Fast.tw12990562268554729847 := ()
def PySem.W.Fast.tw12980409918096491940 := ()
def PySem.W.Fast.tw1297768759702407714 := ()
def PySem.W.Fast.tw12954972242774499815 := ()
def PySem.W.Fast.tw12736077521601230602 := ()
def PySem.W.Fast.tw12672542101857224832 := ()
def PySem.W.Fast.tw12671318915797759771 := ()
def PySem.W.Fast.tw12616655282340981441 := ()
def PySem.W.Fast.tw12507987845418161275 := ()
def PySem.W.Fast.tw12447433988583140847 := ()
def PySem.W.Fast.tw12258821993353574909 := ()
def PySem.W.Fast.tw12022453025363848665 := ()
def PySem.W.Fast.tw11971425434650127125 := ()
def PySem.W.Fast.tw11961531238124162016 := ()
def PySem.W.Fast.tw11638639750249776560 := ()
def PySem.W.Fast.tw11467430641827168454 := ()
def PySem.W.Fast.tw1099510810124981525 := ()
def PySem.W.Fast.tw10859972820904700192 := ()
def PySem.W.Fast.tw10766247713188425478 := ()
def PySem.W.Fast.tw1068504272845938917 := ()
def PySem.W.Fast.tw10360965557588458341 := ()
def PySem.W.Fast.tw10203363579300044205 := ()
def PySem.W.Fast.tw10173351746430865267 := ()
def PySem.W.Fast.tw10111089749908844536 := ()
def PySem.W.Fast.tw10075725251103978900 := ()
theorem PySem.Challenge.cw_glasslayers_k81_texts_read_holds : PySem.Challenge.rw_glasslayers_k81_texts_read.Holds := by
 w_on;o_law;k_head;(case hw=>w_witness2)
 k_fill
 refine K81.walk (l:=PySem.Challenge.rw_glasslayers_k81_texts_read) rfl rfl (λw h Y=>PySem.W.kIn_of Y) ?F
 case F =>
  intro w mg fa h KX G hmg
  refine' K81.q7s KX G hmg ?d1 ?d2 ?d3 ?d4 ?d5 ?d6 ?d7 ?d8 ?d9 ?d10 ?d11 ?d12 ?d13 ?d14 ?d15 ?d16 ?d17 ?d18 ?d19 ?d20 ?d21 ?d22 ?d23 ?d24 ?d25 ?d26 ?d27 ?d28 ?d29 ?d30 ?d31 ?d32 ?d33 ?d34 ?d35 ?d36 ?a37 ?l37 ?c37 ?k37 ?q_GlassError ?q_NoWay ?q_NoPane ?q_NoRow ?x_NoWay ?ek_NoWay ?x_NoRow ?ek_NoRow ?d_NoRow ?d_NoWay ?m_NoWay_NoWay ?m_NoRow_NoWay ?m_NoWay_NoRow ?m_NoRow_NoRow ?m_NoWay_GlassError ?m_NoRow_GlassError ?i_NoWay_ValueError ?i_NoRow_ValueError ?j_NoWay_NoWay_NoPane ?j_NoRow_NoWay_NoPane ?g_NAME_SIGNS ?g_LONGEST_NAME ?g_MOST_WORDS ?g_BARE_MARKS ?h_BARE_MARKS ?u_BARE_MARKS ?w_BARE_MARKS ?g_TREE_MARKS ?h_TREE_MARKS ?u_TREE_MARKS ?w_TREE_MARKS ?g_TEXT_MARKS ?h_TEXT_MARKS ?u_TEXT_MARKS ?w_TEXT_MARKS ?z_ValueError ?z_all ?z_isinstance ?z_len ?z_list ?z_range ?z_sorted ?z_str ?z_tuple ?z_zip
  (case d1=>ac_rfl)
  (case d2=>ac_rfl)
  (case d3=>ac_rfl)
  (case d4=>ac_rfl)
  (case d5=>ac_rfl)
  (case d6=>ac_rfl)
  (case d7=>ac_rfl)
  (case d8=>ac_rfl)
  (case d9=>ac_rfl)
  (case d10=>ac_rfl)
  (case d11=>ac_rfl)
  (case d12=>ac_rfl)
  (case d13=>ac_rfl)
  (case d14=>ac_rfl)
  (case d15=>ac_rfl)
  (case d16=>ac_rfl)
  (case d17=>ac_rfl)
  (case d18=>ac_rfl)
  (case d19=>ac_rfl)
  (case d20=>ac_rfl)
  (case d21=>ac_rfl)
  (case d22=>ac_rfl)
  (case d23=>ac_rfl)
  (case d24=>ac_rfl)
  (case d25=>ac_rfl)
  (case d26=>ac_rfl)
  (case d27=>ac_rfl)
  (case d28=>ac_rfl)
  (case d29=>ac_rfl)
  (case d30=>ac_rfl)
  (case d31=>ac_rfl)
  (case d32=>ac_rfl)
  (case d33=>ac_rfl)
  (case d34=>ac_rfl)
  (case d35=>ac_rfl)
  (case d36=>ac_rfl)
  (case a37=>k_is)
  (case l37=>k_is)
  (case c37=>k_is)
  (case k37=>k_is)
  (case q_GlassError=>k_is)
  (case q_NoWay=>k_is)
  (case q_NoPane=>k_is)
  (case q_NoRow=>k_is)
  (case x_NoWay=>(delta L2.OwnX;k_exc))
  (case ek_NoWay=>exact⟨by k_is,by k_is,by k_is,by k_is,by k_is,by k_is⟩)
  (case x_NoRow=>(delta L2.OwnX;k_exc))
  (case ek_NoRow=>exact⟨by k_is,by k_is,by k_is,by k_is,by k_is,by k_is⟩)
  (case d_NoRow=>rfl)
  (case d_NoWay=>(intro z;injection z with z;revert z;decide))
  (case m_NoWay_NoWay=>kts_exm)
  (case m_NoRow_NoWay=>kts_exm)
  (case m_NoWay_NoRow=>kts_exm)
  (case m_NoRow_NoRow=>kts_exm)
  (case m_NoWay_GlassError=>kts_exm)
  (case m_NoRow_GlassError=>kts_exm)
  (case i_NoWay_ValueError=>kit_is)
  (case i_NoRow_ValueError=>kit_is)
  (case j_NoWay_NoWay_NoPane=>kit_is)
  (case j_NoRow_NoWay_NoPane=>kit_is)
  (case g_NAME_SIGNS=>k_is)
  (case g_LONGEST_NAME=>k_is)
  (case g_MOST_WORDS=>k_is)
  (case g_BARE_MARKS=>k_is)
  (case h_BARE_MARKS=>k_is)
  (case u_BARE_MARKS=>rfl)
  (case w_BARE_MARKS=>rfl)
  (case g_TREE_MARKS=>k_is)
  (case h_TREE_MARKS=>k_is)
  (case u_TREE_MARKS=>rfl)
  (case w_TREE_MARKS=>rfl)
  (case g_TEXT_MARKS=>k_is)
  (case h_TEXT_MARKS=>k_is)
  (case u_TEXT_MARKS=>rfl)
  (case w_TEXT_MARKS=>rfl)
  (case z_ValueError=>k_is)
  (case z_all=>k_is)
  (case z_isinstance=>k_is)
  (case z_len=>k_is)
  (case z_list=>k_is)
  (case z_range=>k_is)
  (case z_sorted=>k_is)
  (case z_str=>k_is)
  (case z_tuple=>k_is)
  (case z_zip=>k_is)
