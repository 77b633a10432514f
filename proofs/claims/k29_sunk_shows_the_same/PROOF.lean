import PyProof.Rows.All
import Wide.All
import OpenK.AllK
import Wide.FinOn
import Lean
import PyProof.EqAt
import PyProof.EqKinds
import PyProof.TupleCall
import PySem.Challenge.RW_glasslayers_k29_sunk_shows_the_same
set_option compiler.extract_closed false
set_option Elab.async false
set_option linter.all false
set_option maxRecDepth 100000
namespace L2
open PySem PySem.Spec PyProof.Rows
abbrev Key:=Sum Int Str
def qos:Key->Value->Bool
|.inl k,v=>Value.isInt k v
|.inr x,v=>Value.isStrOf x v
def keyH(w:World):Key->Int
|.inl k=>hashInt k
|.inr x=>hashStr w x
theorem qbh:∀ {k:Key} {v:Value},qos k v=true->(∃i t,k=Sum.inl i/\v=Value.int i t)\/(∃x t,k=Sum.inr x/\v=Value.str x t)
|.inl i,v,h=>by
  obtain⟨t,e⟩:=Value.isInt_shape (k:=i) (v:=v) h
  exact .inl ⟨i,t,rfl,e⟩
|.inr x,v,h=>by
  obtain⟨t,e⟩:=Value.isStrOf_shape (x:=x) (v:=v) h
  exact .inr ⟨x,t,rfl,e⟩
theorem qqt(i:Int)(t:Tok):qos (.inl i) (.int i t)=true:=by simp[qos,Value.isInt]
theorem qqu(x:Str)(t:Tok):qos (.inr x) (.str x t)=true:=by simp[qos,Value.isStrOf]
theorem qzs(a b:Int):decide ((Sum.inl a:Key)=Sum.inl b)=(a==b):=by
 by_cases e:a=b
 ·subst e;simp
 ·have h:¬ (Sum.inl a:Key)=Sum.inl b:=λq=>e (Sum.inl.inj q)
  rw[decide_eq_false h]
  exact(beq_eq_false_iff_ne.mpr e).symm
theorem qzv(a b:Str):decide ((Sum.inr a:Key)=Sum.inr b)=decide (a=b):=by
 by_cases e:a=b
 ·subst e;simp
 ·have h:¬ (Sum.inr a:Key)=Sum.inr b:=λq=>e (Sum.inr.inj q)
  rw[decide_eq_false h,decide_eq_false e]
theorem qzt(a:Int)(b:Str):decide ((Sum.inl a:Key)=Sum.inr b)=false:=decide_eq_false (λq=>nomatch q)
theorem qzu(a:Str)(b:Int):decide ((Sum.inr a:Key)=Sum.inl b)=false:=decide_eq_false (λq=>nomatch q)
def qbi(prog:Program)(w:World):PySem.KeyKind prog w Key where
 is:=qos
 hash:=keyH w
 inj:=λv a b ha hb=>by
  rcases qbh ha with ⟨i,t,rfl,rfl⟩|⟨x,t,rfl,rfl⟩
  ·rcases qbh hb with ⟨j,u,rfl,e⟩|⟨y,u,rfl,e⟩
   ·injection e with e1 _;rw[e1]
   ·exact nomatch e
  ·rcases qbh hb with ⟨j,u,rfl,e⟩|⟨y,u,rfl,e⟩
   ·exact nomatch e
   ·injection e with e1 _;rw[e1]
 byValue:=λk v h=>by
  rcases qbh h with ⟨i,t,rfl,rfl⟩|⟨x,t,rfl,rfl⟩<;>rfl
 pyHash:=λhv h=>by
  rcases qbh hv with ⟨i,t,rfl,rfl⟩|⟨x,t,rfl,rfl⟩
  ·exact wpAny_pyHash_int h
  ·exact wpAny_pyHash_str h
 eqBool:=λhu hv h=>by
  rcases qbh hu with ⟨i,t,rfl,rfl⟩|⟨x,t,rfl,rfl⟩
  ·rcases qbh hv with ⟨j,u,rfl,rfl⟩|⟨y,u,rfl,rfl⟩
   ·rw[qzs] at h;exact wpAny_eqBool_int h
   ·rw[qzt] at h;exact SeqAt.EqAt.int_str i t y u _ _ _ _ h
  ·rcases qbh hv with ⟨j,u,rfl,rfl⟩|⟨y,u,rfl,rfl⟩
   ·rw[qzu] at h;exact SeqAt.EqAt.str_int x t j u _ _ _ _ h
   ·rw[qzv] at h;exact wpAny_eqBool_str h
 «strs»:=λk x t v h=>by
  rcases qbh h with ⟨i,u,rfl,e⟩|⟨y,u,rfl,e⟩
  ·exact nomatch e
  ·injection e with e1 _
   subst e1
   cases v<;>rfl
theorem qmc(prog:Program)(w:World)(i:Int)(t:Tok):(qbi prog w).is (.inl i) (.int i t)=true:=qqt i t
theorem qmd(prog:Program)(w:World)(x:Str)(t:Tok):(qbi prog w).is (.inr x) (.str x t)=true:=qqu x t
end L2
namespace L2
open PySem PySem.Spec PyProof.Rows
inductive V where
|non|bl (b:Bool)|int (i:Int)|str (x:Str)|byt (b:Array UInt8)|flt (b:UInt64)|ref (a:Addr)|ty (n:String)
 deriving DecidableEq
def RelV:V->Value->Prop
|.non,u=>u=Value.none
|.bl b,u=>u=Value.bool b
|.int i,u=>∃t,u=Value.int i t
|.str x,u=>∃t,u=Value.str x t
|.byt b,u=>∃t,u=Value.bytes b t
|.flt b,u=>∃t,u=Value.float b t
|.ref a,u=>u=Value.ref a
|.ty n,u=>u=Value.type n
abbrev Vals:List V->List Value->Prop:=Paired RelV
theorem Vals.length{xs:List V}{us:List Value}(r:Vals xs us):xs.length=us.length:=Paired.length r
theorem Vals.get:∀ {xs:List V} {us:List Value} {i:Nat} {x:V},Vals xs us->xs[i]?=some x->∃u,us[i]?=some u/\RelV x u
|_,_,_,_,.nil,e=>by simp at e
|_,_,0,_,.cons r _,e=>by simp at e;subst e;exact⟨_,rfl,r⟩
|_,_,i+1,x,.cons _ t,e=>by
  obtain⟨u,h1,h2⟩:=Vals.get (i:=i) (x:=x) t (by simpa using e)
  exact⟨u,by simpa using h1,h2⟩
theorem Vals.append:∀ {xs ys:List V} {us ws:List Value},Vals xs us->Vals ys ws->Vals (xs++ys) (us++ws)
|_,_,_,_,.nil,s=>s
|_,_,_,_,.cons r t,s=>.cons r (Vals.append t s)
theorem Vals.take:∀ {xs:List V} {us:List Value} (n:Nat),Vals xs us->Vals (xs.take n) (us.take n)
|_,_,0,_=>.nil
|_,_,_+1,.nil=>.nil
|_,_,n+1,.cons r t=>.cons r (Vals.take n t)
theorem Vals.drop:∀ {xs:List V} {us:List Value} (n:Nat),Vals xs us->Vals (xs.drop n) (us.drop n)
|_,_,0,r=>r
|_,_,_+1,.nil=>.nil
|_,_,n+1,.cons _ t=>Vals.drop n t
theorem Vals.none_of:∀ {xs:List V} {us:List Value} {i:Nat},Vals xs us->xs[i]?=none->us[i]?=none:=λ{xs us i} r e=>by
 have h1:=r.length
 have h2:xs.length<=i:=List.getElem?_eq_none_iff.mp e
 exact List.getElem?_eq_none_iff.mpr (by lia)
def RelO:Option V->Option Value->Prop
|some v,some u=>RelV v u
|none,none=>True
|_,_=>False
def KV{κ:Type}:List (κ×V)->List (κ×Value)->Prop:=Paired λ(p:κ×V) (q:κ×Value)=>p.1=q.1/\RelV p.2 q.2
def kV:Key->V
|.inl i=>.int i
|.inr x=>.str x
inductive HO where
|lst (xs:List V)
|tup (xs:List V)
|dK (kvs:List (Key×V))|dT (kvs:List (List Key×V))
|set (S:Int->Bool) (n:Nat)
|ins (C dx:Addr) (fs:List (Str×V))
|own (x:Addr)
|xd (fs:List (Str×V))
|met (f x:Addr)
|rng (lo hi:Int)
|frz (o:Obj) (u:HO)
|tbl (ps:Array Value)
|ext (φ:Heap->Prop)
abbrev Hp:=Addr->Option HO
def upd(H:Hp)(a:Addr)(o:HO):Hp:=λb=>if b=a then some o else H b
theorem qbp{H:Hp}{a:Addr}{o:HO}:upd H a o a=some o:=by unfold upd;rw[if_pos rfl]
theorem qbd{H:Hp}{a b:Addr}{o:HO}(h:b≠a):upd H a o b=H b:=by unfold upd;rw[if_neg h]
theorem q2g{H:Hp}{a b:Addr}{o u:HO}(h:H a=some o)(h':H b=some u)(d:o≠u):a≠b:=by
 intro e;subst e;rw[h] at h';exact d (Option.some.inj h')
theorem qcu{H:Hp}{a b:Addr}{o:HO}(h:H a=some o)(h':H b=none):a≠b:=by
 intro e;subst e;rw[h] at h';cases h'
section
variable (P:Program) (w:World)
def ObjOk(H:Hp)(h:Heap)(a:Addr):HO->Prop
|.lst xs=>xs.length<=sizeLine/\∃(its:List Value) (n:Nat),Vals xs its/\h.get? a=some { cls:=.type "list",data:=.seq its.toArray n }
|.tup xs=>xs.length<=sizeLine/\∃its:List Value,Vals xs its/\IsTup h a its.toArray
|.dK kvs=>kvs.length<=sizeLine/\(a==sysModules)=false/\∃vs,KV kvs vs/\h.DictOf (qbi P w) a vs
|.dT kvs=>kvs.length<=sizeLine/\(a==sysModules)=false/\∃xs:List (List Key×Addr×Value),
   Paired (λ(p:List Key×V) (q:List Key×Addr×Value)=>p.1=q.1/\H q.2.1=some (.tup (p.1.map kV))/\RelV p.2 q.2.2) kvs xs /\
   ∃o es ep,h.get? a=some o/\o.ExactDict/\o.data=.dict es ep/\es.toList=xs.map (entryOfKey (tupleKind (qbi P w)))/\(xs.map (·.1)).Nodup
|.set S n=>h.SetOf (intKind P w) a S n
|.ins C dx fs=>H dx=some (.own a)/\fs.length<=1000/\dx≠a/\h.get? a=some (PySem.W.instObj C dx) /\
   ∃mA,h.Ns1 dx mA/\(∀f,RelO (fs.lookup f) (mA f))/\PySem.Within mA (fs.map (·.1))
|.own _=>∃o,h.get? a=some o
|.xd fs=>∃mA,h.Ns1 a mA/\∀f,RelO (fs.lookup f) (mA f)
|.rng lo hi=>∃t u v,h.get? a=some { cls:=.type "range",data:=.fields #[.int lo t,.int hi u,.int 1 v] }
|.frz o u=>h.get? a=some o/\ObjOk H h a u
|.tbl ps=>h.get? a=some { cls:=.none,data:=.fields ps }
|.met f x=>h.get? a=some (PySem.W.methodObj (.ref f) (.ref x))
|.ext φ=>φ h/\(∃o,h.get? a=some o)/\∀h1 h2:Heap,φ h1->(∀o,h1.get? a=some o->h2.get? a=some o)->φ h2
def HOk(H:Hp)(h:Heap):Prop:=∀a o,H a=some o->ObjOk P w H h a o
end
section
variable {P:Program} {w:World} {H H':Hp} {h h':Heap} {a:Addr} {o:HO}
theorem ObjOk.lt(x:ObjOk P w H h a o):a<h.objs.size:=by
 cases o with
|lst xs=>obtain⟨_,_,_,_,e⟩:=x;exact Heap.lt_size e
|tup xs=>obtain⟨_,_,_,p⟩:=x;exact p.lt
|dK kvs=>obtain⟨_,_,_,_,o,_,_,e,_⟩:=x;exact Heap.lt_size e
|dT kvs=>obtain⟨_,_,_,_,o,_,_,e,_⟩:=x;exact Heap.lt_size e
|set S n=>obtain⟨o,_,_,_,e,_⟩:=x;exact Heap.lt_size e
|ins C dx fs=>obtain⟨_,_,_,e,_⟩:=x;exact Heap.lt_size e
|own y=>obtain⟨_,e⟩:=x;exact Heap.lt_size e
|xd fs=>obtain⟨_,⟨_,_,_,e,_⟩,_⟩:=x;exact Heap.lt_size e
|rng lo hi=>obtain⟨_,_,_,e⟩:=x;exact Heap.lt_size e
|frz ob u=>obtain⟨e,_⟩:=x;exact Heap.lt_size e
|tbl ps=>exact Heap.lt_size (show h.get? a=some _ from x)
|met f y=>exact Heap.lt_size (show h.get? a=some _ from x)
|ext φ=>obtain⟨_,⟨_,e⟩,_⟩:=x;exact Heap.lt_size e
theorem Paired.mapP{α β:Type}{F G:α->β->Prop}:∀ {l₁:List α} {l₂:List β},Paired F l₁ l₂->(∀a b,F a b->G a b)->Paired G l₁ l₂
|_,_,.nil,_=>.nil
|_,_,.cons r t,f=>.cons (f _ _ r) (Paired.mapP t f)
theorem ObjOk.stay(x:ObjOk P w H h a o)(k:∀b u,(b=a\/H b=some (.own a))->h.get? b=some u->h'.get? b=some u)
  (ho:∀b,H b=some (.own a)->H' b=some (.own a)) (ht:∀b xs,H b=some (.tup xs)->H' b=some (.tup xs)):ObjOk P w H' h' a o:=by
 induction o with
|lst xs=>obtain⟨z,its,n,r,e⟩:=x;exact⟨z,its,n,r,k _ _ (.inl rfl) e⟩
|tup xs=>obtain⟨z,its,r,ob,e,c⟩:=x;exact⟨z,its,r,ob,k _ _ (.inl rfl) e,c⟩
|dK kvs=>obtain⟨z,y,vs,r,ob,es,ep,e,c⟩:=x;exact⟨z,y,vs,r,ob,es,ep,k _ _ (.inl rfl) e,c⟩
|dT kvs =>
  obtain⟨z,y,xs,r,ob,es,ep,e,c⟩:=x
  exact⟨z,y,xs,Paired.mapP r λp q z=>⟨z.1,ht _ _ z.2.1,z.2.2⟩,ob,es,ep,k _ _ (.inl rfl) e,c⟩
|set S n=>obtain⟨ob,es,ep,t,e,c⟩:=x;exact⟨ob,es,ep,t,k _ _ (.inl rfl) e,c⟩
|ins C dx fs =>
  obtain⟨d,z,ne,e,mA,⟨od,es,ep,e2,c⟩,r⟩:=x
  exact⟨ho _ d,z,ne,k _ _ (.inl rfl) e,mA,⟨od,es,ep,k _ _ (.inr d) e2,c⟩,r⟩
|own y=>obtain⟨ob,e⟩:=x;exact⟨ob,k _ _ (.inl rfl) e⟩
|xd fs=>obtain⟨mA,⟨od,es,ep,e,c⟩,r⟩:=x;exact⟨mA,⟨od,es,ep,k _ _ (.inl rfl) e,c⟩,r⟩
|rng lo hi=>obtain⟨t,u,v,e⟩:=x;exact⟨t,u,v,k _ _ (.inl rfl) e⟩
|frz ob u ih=>obtain⟨e,q⟩:=x;exact⟨k _ _ (.inl rfl) e,ih q⟩
|tbl ps =>
  have e:h.get? a=some { cls:=.none,data:=.fields ps }:=x
  show h'.get? a=some { cls:=.none,data:=.fields ps }
  exact k a _ (.inl rfl) e
|met f y =>
  have e:h.get? a=some (PySem.W.methodObj (.ref f) (.ref y)):=x
  show h'.get? a=some (PySem.W.methodObj (.ref f) (.ref y))
  exact k a _ (.inl rfl) e
|ext φ=>obtain⟨p,⟨o,e⟩,st⟩:=x;exact⟨st _ _ p λo q=>k _ _ (.inl rfl) q,⟨o,k _ _ (.inl rfl) e⟩,st⟩
theorem HOk.lt(x:HOk P w H h)(e:H a=some o):a<h.objs.size:=(x a o e).lt
theorem HOk.fresh(x:HOk P w H h)(e:h.objs.size<=a):H a=none:=by
 cases q:H a with
|none=>rfl
|some u=>exact absurd (Nat.lt_of_lt_of_le (x.lt q) e) (Nat.lt_irrefl _)
theorem HOk.kept(x:HOk P w H h)(k:∀b u,h.get? b=some u->h'.get? b=some u):HOk P w H h':=λa o e =>
 (x a o e).stay (λb u _ q=>k b u q) (λ_ q=>q) λ_ _ q=>q
theorem HOk.laid(x:HOk P w H h)(k:∀b u,h.get? b=some u->h'.get? b=some u)(hp:h.objs.size<=a)(new:ObjOk P w (upd H a o) h' a o):HOk P w (upd H a o) h':=λb u e=>by
 have hn:=x.fresh hp
 by_cases hb:b=a
 ·subst hb;rw[qbp] at e;cases e;exact new
 ·rw[qbd hb] at e
  exact(x b u e).stay (λc v _ q=>k c v q) (λc q=>by rw[qbd (qcu q hn)];exact q) λc xs q=>by rw[qbd (qcu q hn)];exact q
end
def Rd(H:Hp)(a:Addr)(u:HO):Prop:=H a=some u\/∃o,H a=some (.frz o u)
theorem Rd.ok{P:Program}{w:World}{H:Hp}{h:Heap}{a:Addr}{u:HO}(r:Rd H a u)(x:HOk P w H h):ObjOk P w H h a u:=by
 rcases r with r|⟨o,r⟩
 ·exact x a u r
 ·obtain⟨_,q⟩:=x a _ r
  exact q
def Mut:Option HO->Prop
|some (.lst _)=>True
|some (.dK _)=>True
|some (.dT _)=>True
|some (.set _ _)=>True
|some (.ins _ _ _)=>True
|some (.ext _)=>True
|_=>False
section
variable {P:Program} {w:World} {H:Hp} {h h':Heap} {x e:Addr} {o':HO}
theorem HOk.write(ok:HOk P w H h)(mu:Mut (H x))(he:e=x\/H e=some (.own x))(k:∀b u,b≠e->h.get? b=some u->h'.get? b=some u)(heo:∃u,h'.get? e=some u)
  (new:ObjOk P w (upd H x o') h' x o'):HOk P w (upd H x o') h':=λb u q=>by
 have nown:∀c y,H c=some (.own y)->c≠x:=λc y r z=>by subst z;rw[r] at mu;exact mu
 have ntup:∀c xs,H c=some (.tup xs)->c≠x:=λc xs r z=>by subst z;rw[r] at mu;exact mu
 by_cases hb:b=x
 ·subst hb;rw[qbp] at q;cases q;exact new
 ·rw[qbd hb] at q
  by_cases hbe:b=e
  ·have q':H b=some (.own x):=by
    rcases he with z|z
    ·exact absurd (hbe.trans z) hb
    ·rw[hbe];exact z
   rw[q] at q';cases q'
   obtain⟨v,hv⟩:=heo
   exact⟨v,by rw[hbe];exact hv⟩
  ·refine(ok b u q).stay (λc v hc r=>k c v ?_ r) (λc r=>by rw[qbd (nown c b r)];exact r) λc xs r=>by rw[qbd (ntup c xs r)];exact r
   rcases hc with rfl|hc
   ·exact hbe
   ·rintro rfl
    rcases he with z|z
    ·exact nown c b hc z
    ·rw[hc] at z;cases z;exact hb rfl
end
structure Un(fs ex:List Addr)(H H':Hp)(h h':Heap):Prop where
 keep:∀b o,h.get? b=some o->H b=none->b∉fs->b∉ex->h'.get? b=some o
 slot:∀b o,h.get? b=some o->H b=none->b∈fs->b∉ex->∃sl,h'.get? b=some { o with slots:=sl }
 free:∀b o,h.get? b=some o->H b=none->b∉ex->H' b=none
 there:∀b o,h.get? b=some o->b∉ex->∃o',h'.get? b=some o'
 tups:∀b xs,H b=some (.tup xs)->H' b=some (.tup xs)
 frzs:∀b o u,H b=some (.frz o u)->H' b=some (.frz o u)
 tbls:∀b ps,H b=some (.tbl ps)->∃more,H' b=some (.tbl (ps++more))
section
variable {fs fs' ex ex':List Addr} {H H1 H2:Hp} {h h1 h2 h':Heap} {a x e:Addr} {o:HO}
theorem Un.any(u:Un fs ex H H1 h h1){b:Addr}{ob:Obj}(q:h.get? b=some ob)(n:H b=none)(hx:b∉ex):∃sl,h1.get? b=some { ob with slots:=sl }:=by
 by_cases hb:b∈fs
 ·exact u.slot b ob q n hb hx
 ·exact⟨ob.slots,u.keep b ob q n hb hx⟩
theorem Un.kept(k:∀b u,h.get? b=some u->h'.get? b=some u):Un fs ex H H h h' :=
 ⟨λb ob q _ _ _=>k b ob q,λb ob q _ _ _=>⟨ob.slots,k b ob q⟩,λ_ _ _ n _=>n,λb ob q _=>⟨ob,k b ob q⟩,λ_ _ q=>q,λ_ _ _ q=>q,λ_ ps q=>⟨#[],by rw[q];simp⟩⟩
theorem Un.refl:Un fs ex H H h h:=Un.kept λ_ _ q=>q
theorem Un.laid(k:∀b u,h.get? b=some u->h'.get? b=some u)(hp:h.objs.size<=a)(hn:H a=none):Un fs ex H (upd H a o) h h' where
 keep:=λb u q _ _ _=>k b u q
 slot:=λb u q _ _ _=>⟨u.slots,k b u q⟩
 free:=λb u q n _=>by rw[qbd (Nat.ne_of_lt (Nat.lt_of_lt_of_le (Heap.lt_size q) hp))];exact n
 there:=λb u q _=>⟨u,k b u q⟩
 tups:=λb xs q=>by rw[qbd (qcu q hn)];exact q
 frzs:=λb u xs q=>by rw[qbd (qcu q hn)];exact q
 tbls:=λb ps q=>⟨#[],by rw[qbd (qcu q hn),q];simp⟩
theorem Un.write(mu:Mut (H x))(he:e=x\/H e=some (.own x))(k:∀b u,b≠e->h.get? b=some u->h'.get? b=some u)(heo:∃u,h'.get? e=some u):Un fs ex H (upd H x o) h h':=by
 have hx:∀b,H b=none->b≠x:=λb n z=>by subst z;rw[n] at mu;exact mu
 have hb:∀b,H b=none->b≠e:=λb n z=>by
  subst z
  rcases he with r|r
  ·exact hx b n r
  ·rw[n] at r;cases r
 have hm:∀b u,H b=some u->¬ Mut (some u)->b≠x:=λb u q nm z=>by subst z;rw[q] at mu;exact nm mu
 refine⟨λb u q n _ _=>k b u (hb b n) q,λb u q n _ _=>⟨u.slots,k b u (hb b n) q⟩,λb u q n _=>by rw[qbd (hx b n)];exact n,λb u q _=>?_,
  λb xs q=>by rw[qbd (hm b _ q λz=>z)];exact q,λb u xs q=>by rw[qbd (hm b _ q λz=>z)];exact q,λb ps q=>⟨#[],by rw[qbd (hm b _ q λz=>z),q];simp⟩⟩
 by_cases hbe:b=e
 ·subst hbe;exact heo
 ·exact⟨u,k b u hbe q⟩
end
def trk(h:Heap)(H:Hp):List Addr:=(List.range h.objs.size).filter λa=>(H a).isSome
def hidT(h:Heap)(H:Hp):Heap:=PySem.W.hideAll h (trk h H)
theorem qqq(h:Heap)(H:Hp):(hidT h H).objs.size=h.objs.size:=PySem.W.hideAll_size _ _
theorem qs6{h:Heap}{H:Hp}{b:Addr}{o:Obj}(e:h.get? b=some o)(n:H b=none):(hidT h H).get? b=some o :=
 PySem.W.hideAll_get _ e λhm=>by
  have q:(H b).isSome=true:=(List.mem_filter.mp hm).2
  rw[n] at q;simp at q
theorem qwt{h:Heap}{H:Hp}{b:Addr}{o:Obj}(e:(hidT h H).get? b=some o):h.get? b=some o/\H b=none:=by
 have e':h.get? b=some o:=PySem.W.of_hideAll (trk h H) e
 refine⟨e',?_⟩
 cases q:H b with
|none=>rfl
|some x =>
  have hm:b∈trk h H:=List.mem_filter.mpr ⟨List.mem_range.mpr (Heap.lt_size e'),by simp[q]⟩
  have z:(hidT h H).get? b=none:=PySem.W.hideAll_none (trk h H) hm
  rw[z] at e;cases e
def qv3(g h:Heap)(L:Addr):List (Addr×Obj):=(List.range h.objs.size).filterMap λa=>if a=L\/(g.get? a).isSome=true then none else (h.get? a).map λo=>(a,o)
def rest(g h:Heap)(L d:Addr):List (Addr×Obj):=(qv3 g h L).filter λp=>decide (p.1≠d)
end L2
namespace L2
open PySem PySem.Spec PyProof.Rows
structure Mod(K:PySem.W.Frag)(mg:Str->Option Value)(base:Heap):Prop where
 kin:K.In base
 glob:base.Ns mainGlobals mg
 blt:∃mb,base.Ns builtinsNs mb/\∀x:Str,x≠"__name__" -> mb x=bootBuiltins x
 nolimit:base.NoLimit
structure Cx where
 prog:Program
 w:World
 K:PySem.W.Frag
 mg:Str->Option Value
 base:Heap
 A:Around
 N:List Str
 s₀:Shared
 H₀:Hp
 env:Env
 outer:List Env
 stack:List Env
 ex:List Addr
 fn:Str->Bool
 calm:Bool
 pn:List (Addr×Obj)
 xe:Value->Shared->Prop
def frs(l:List Env):List Addr:=l.filterMap (·.frame)
abbrev Cx.fs(X:Cx):List Addr:=frs X.outer
def Vis(sc:Scope)(x:Str):Prop:=sc.names.lookup x=some .local\/sc.names.lookup x=some .cell\/sc.names.lookup x=some .free
def Loc(sc:Scope)(x:Str):Prop:=sc.names.lookup x=some .local\/sc.names.lookup x=some .cell
def Look(env:Env)(h:Heap)(m:Str->Option Value)(x:Str)(u:Value):Prop :=
 (env.kindOf x=some .local/\m x=some u)\/((env.kindOf x=some .cell\/env.kindOf x=some .free)/\∃c,env.cells.lookup x=some c/\h.IsCell c (some u))
structure Cx.Ok(X:Cx):Prop where
 mod:Mod X.K X.mg X.base
 kind:X.env.scope.kind=.function
 glob:X.env.globals=mainGlobals
 blt:X.env.builtins=builtinsNs
 above:X.s₀.heap.objs.size<=X.env.locals
 inj:∀x y c,X.env.cells.lookup x=some c->X.env.cells.lookup y=some c->x=y
 has:∀x,(X.env.kindOf x=some .cell\/X.env.kindOf x=some .free)->∃c,X.env.cells.lookup x=some c
 cab:∀x c,X.fn x=true->X.env.cells.lookup x=some c->X.s₀.heap.objs.size<=c
 hd:X.calm=true->X.A.handled=none
 frames:X.A.frames=some X.stack
 stk:X.stack=X.outer\/(X.stack=X.env::X.outer/\X.env.frame=some X.env.locals)
 exf:∀b∈X.ex,b≠X.env.locals/\∀x c,X.env.cells.lookup x=some c->c≠b
 bs:∀b o,X.base.get? b=some o->X.s₀.heap.get? b=some o/\X.H₀ b=none
 bsz:X.base.objs.size<=X.s₀.heap.objs.size
 noex:∀b o,X.base.get? b=some o->b∉X.ex
 exfs:∀b∈X.ex,b∉X.fs
 funs:X.s₀.heap.FunFrames X.base X.outer
 frf:∀b∈X.fs,X.H₀ b=none
structure Inv(X:Cx)(pins:List (Addr×Obj))(σ:List (Option V))(H:Hp)(s:Shared):Prop where
 ok:X.Ok
 os:s.os=X.s₀.os
 bare:AllBare s.gens
 base:Un X.fs X.ex X.H₀ H X.s₀.heap s.heap
 loc:∃m,s.heap.Ns X.env.locals m/\∀(i:Nat) (x:Str) (v:V),X.N[i]?=some x->σ[i]?=some (some v)->Vis X.env.scope x->∃u,RelV v u/\Look X.env s.heap m x u
 cell:∀x c,X.env.cells.lookup x=some c->∃v,s.heap.IsCell c v
 free:H X.env.locals=none
 freeC:∀x c,X.env.cells.lookup x=some c->H c=none
 pin:∀p∈X.pn++pins,s.heap.get? p.1=some p.2/\H p.1=none/\p.1≠X.env.locals/\p.1∉X.fs/\∀v,p.2.data≠.cell v
 hok:HOk X.prog X.w H s.heap
 len:σ.length=X.N.length
section
variable {X:Cx} {pins:List (Addr×Obj)} {σ:List (Option V)} {H H':Hp} {s:Shared} {h':Heap}
theorem Cx.Ok.nofr(ok:X.Ok){b:Addr}{o:Obj}(e:X.base.get? b=some o):b∉X.fs:=λhb=>by
 have:=(ok.funs.mem hb).1
 rw[e] at this;cases this
theorem Inv.bs(I:Inv X pins σ H s):∀b o,X.base.get? b=some o->s.heap.get? b=some o/\H b=none:=λb o e =>
 ⟨I.base.keep b o (I.ok.bs b o e).1 (I.ok.bs b o e).2 (I.ok.nofr e) (I.ok.noex b o e),I.base.free b o (I.ok.bs b o e).1 (I.ok.bs b o e).2 (I.ok.noex b o e)⟩
theorem Inv.bk(I:Inv X pins σ H s):∀b o,X.base.get? b=some o->s.heap.get? b=some o:=λb o e=>(I.bs b o e).1
theorem Inv.mod(I:Inv X pins σ H s):Mod X.K X.mg X.base:=I.ok.mod
theorem Inv.kIn(I:Inv X pins σ H s):X.K.In s.heap:=I.ok.mod.kin.keeps I.bk
theorem Inv.lt(I:Inv X pins σ H s):X.env.locals<s.heap.objs.size:=let ⟨_,hn,_⟩:=I.loc;hn.lt
theorem Inv.sz(I:Inv X pins σ H s):X.s₀.heap.objs.size<=s.heap.objs.size:=Nat.le_trans I.ok.above (Nat.le_of_lt I.lt)
theorem Inv.nofs(I:Inv X pins σ H s){a:Addr}(h:s.heap.objs.size<=a):a∉X.fs:=λhb=>by
 obtain⟨_,o,ho,_⟩:=I.ok.funs.mem hb
 exact absurd (Nat.lt_of_lt_of_le (Heap.lt_size ho) (Nat.le_trans I.sz h)) (Nat.lt_irrefl _)
theorem Inv.cne(I:Inv X pins σ H s):∀x c,X.env.cells.lookup x=some c->c≠X.env.locals:=λx c e z=>by
 obtain⟨v,o,ho,hd⟩:=I.cell x c e
 obtain⟨m,⟨o',es,ep,ho',hd',_⟩,_⟩:=I.loc
 rw[z,ho'] at ho;cases ho;rw[hd'] at hd;cases hd
theorem Inv.funs(I:Inv X pins σ H s):s.heap.FunFrames X.base X.outer:=by
 have all:∀(l:List Env),(∀b∈frs l,b∈X.fs)->X.s₀.heap.FunFrames X.base l->s.heap.FunFrames X.base l:=by
  intro l
  induction l with
 |nil=>intro _ _;trivial
 |cons env r ih =>
   intro hs hl
   obtain⟨hk,⟨L,o,hf,hn,ho,hd⟩,hr⟩:=hl
   have hL:L∈X.fs:=hs L (by unfold frs;rw[List.filterMap_cons,hf];exact List.mem_cons_self)
   obtain⟨sl,e⟩:=I.base.slot L o ho (I.ok.frf L hL) hL λz=>I.ok.exfs L z hL
   exact⟨hk,⟨L,_,hf,hn,e,hd⟩,ih (λb hb=>hs b (by unfold frs;rw[List.filterMap_cons,hf];exact List.mem_cons_of_mem _ hb)) hr⟩
 exact all X.outer (λ_ hb=>hb) I.ok.funs
theorem Inv.stack(I:Inv X pins σ H s):s.heap.FunFrames X.base X.stack:=by
 rcases I.ok.stk with e|⟨e,hf⟩
 ·rw[e];exact I.funs
 ·rw[e]
  obtain⟨m,hn,_⟩:=I.loc
  refine .cons (by rw[I.ok.kind];decide) hf hn ?_ I.funs
  exact Heap.get?_none_of_le (Nat.le_trans I.ok.bsz I.ok.above)
theorem Inv.stkSub(I:Inv X pins σ H s):∀b∈frs X.stack,b∈X.env.locals::X.fs:=λb hb=>by
 rcases I.ok.stk with e|⟨e,hf⟩
 ·rw[e] at hb;exact List.mem_cons_of_mem _ hb
 ·rw[e] at hb
  unfold frs at hb
  rw[List.filterMap_cons,hf] at hb
  exact hb
theorem Inv.stkFree(I:Inv X pins σ H s):∀b∈frs X.stack,H b=none:=λb hb=>by
 rcases List.mem_cons.mp (I.stkSub b hb) with e|hb
 ·rw[e];exact I.free
 ·obtain⟨_,o,ho,_⟩:=I.ok.funs.mem hb
  exact I.base.free b o ho (I.ok.frf b hb) λz=>I.ok.exfs b z hb
theorem Inv.step{g':Array GenState}{t':Nat}{d':Drawn}{ch:List Addr}(I:Inv X pins σ H s)
  (hch:∀b∈ch,(b∈X.ex\/X.s₀.heap.objs.size<=b)/\b≠X.env.locals/\(∀x c,X.env.cells.lookup x=some c->c≠b)/\∀p∈X.pn++pins,p.1≠b)
  (keep:∀b o,b≠X.env.locals->b∉X.fs->b∉ch->s.heap.get? b=some o->H b=none->h'.get? b=some o)
  (slot:∀b o,b≠X.env.locals->b∈X.fs->b∉ch->s.heap.get? b=some o->H b=none->∃sl,h'.get? b=some { o with slots:=sl }) (free:∀b o,b∉ch->s.heap.get? b=some o->H b=none->H' b=none)
  (there:∀b o,b∉ch->s.heap.get? b=some o->∃o',h'.get? b=some o')
  (tups:∀b xs,H b=some (.tup xs)->H' b=some (.tup xs)) (frzs:∀b o u,H b=some (.frz o u)->H' b=some (.frz o u)) (tbls:∀b ps,H b=some (.tbl ps)->∃more,H' b=some (.tbl (ps++more)))
  (ns:∀m,s.heap.Ns X.env.locals m->h'.Ns X.env.locals m) (hok:HOk X.prog X.w H' h') (hg:AllBare g') :
  Inv X pins σ H' { s with heap:=h',gens:=g',drawn:=d',toks:=t' }:=by
 have neL:∀b o,X.s₀.heap.get? b=some o->b≠X.env.locals:=λb o e=>Nat.ne_of_lt (Nat.lt_of_lt_of_le (Heap.lt_size e) I.ok.above)
 have neC:∀b o,X.s₀.heap.get? b=some o->b∉X.ex->b∉ch:=λb o e hx hb=>by
  rcases (hch b hb).1 with z|z
  ·exact hx z
  ·exact absurd (Nat.lt_of_lt_of_le (Heap.lt_size e) z) (Nat.lt_irrefl _)
 have cellK:∀x c,X.env.cells.lookup x=some c->∀v,s.heap.IsCell c v->h'.IsCell c v:=λx c e v ⟨o,ho,hd⟩=>by
  have nch:c∉ch:=λz=>(hch c z).2.2.1 x c e rfl
  by_cases hc:c∈X.fs
  ·obtain⟨sl,q⟩:=slot c o (I.cne x c e) hc nch ho (I.freeC x c e)
   exact⟨_,q,hd⟩
  ·exact⟨o,keep c o (I.cne x c e) hc nch ho (I.freeC x c e),hd⟩
 refine⟨I.ok,I.os,hg,⟨λb o e n hb hx=>?_,λb o e n hb hx=>?_,λb o e n hx=>?_,λb o e hx=>?_,λb xs e=>tups b xs (I.base.tups b xs e),λb o xs e=>frzs b o xs (I.base.frzs b o xs e),λb ps e=>?_⟩,?_,λx c e=>?_,?_,λx c e=>?_,λp hp=>?_,hok,I.len⟩
 ·exact keep b o (neL b o e) hb (neC b o e hx) (I.base.keep b o e n hb hx) (I.base.free b o e n hx)
 ·obtain⟨sl,e1⟩:=I.base.slot b o e n hb hx
  obtain⟨sl',e2⟩:=slot b _ (neL b o e) hb (neC b o e hx) e1 (I.base.free b o e n hx)
  exact⟨sl',e2⟩
 ·obtain⟨o',e1⟩:=I.base.there b o e hx
  exact free b o' (neC b o e hx) e1 (I.base.free b o e n hx)
 ·obtain⟨o',e1⟩:=I.base.there b o e hx
  exact there b o' (neC b o e hx) e1
 ·obtain⟨m1,e1⟩:=I.base.tbls b ps e
  obtain⟨m2,e2⟩:=tbls b _ e1
  exact⟨m1++m2,by rw[e2,Array.append_assoc]⟩
 ·obtain⟨m,hn,hl⟩:=I.loc
  refine⟨m,ns m hn,λi x v e1 e2 e3=>?_⟩
  obtain⟨u,r,l⟩:=hl i x v e1 e2 e3
  refine⟨u,r,?_⟩
  rcases l with l|⟨k,c,e,z⟩
  ·exact .inl l
  ·exact .inr ⟨k,c,e,cellK x c e _ z⟩
 ·obtain⟨v,z⟩:=I.cell x c e
  exact⟨v,cellK x c e v z⟩
 ·obtain⟨m,⟨o,_,_,ho,_⟩,_⟩:=I.loc
  exact free _ o (λz=>(hch _ z).2.1 rfl) ho I.free
 ·obtain⟨v,o,ho,hd⟩:=I.cell x c e
  exact free c o (λz=>(hch c z).2.2.1 x c e rfl) ho (I.freeC x c e)
 ·obtain⟨e,n,ne,nf,d⟩:=I.pin p hp
  have nch:p.1∉ch:=λz=>(hch p.1 z).2.2.2 p hp rfl
  exact⟨keep p.1 p.2 ne nf nch e n,free p.1 p.2 nch e n,ne,nf,d⟩
theorem Inv.un{t':Nat}(I:Inv X pins σ H s)(u:Un X.fs [] H H' s.heap h')(hok:HOk X.prog X.w H' h'):Inv X pins σ H' { s with heap:=h',toks:=t' }:=by
 obtain⟨m,⟨o,es,ep,ho,r⟩,_⟩:=id I.loc
 obtain⟨sl,hL⟩:=u.any ho I.free (by simp)
 exact I.step (g':=s.gens) (d':=s.drawn) (ch:=[]) (λ_ z=>nomatch z) (λb o _ hb _ e n=>u.keep b o e n hb (by simp)) (λb o _ hb _ e n=>u.slot b o e n hb (by simp)) (λb o _ e n=>u.free b o e n (by simp)) (λb o _ e=>u.there b o e (by simp)) u.tups u.frzs u.tbls (λm' hm=>by
  obtain⟨o',es',ep',ho',r'⟩:=hm
  rw[ho] at ho';cases ho'
  exact⟨_,es',ep',hL,r'⟩) hok I.bare
theorem Inv.call{g':Array GenState}{t':Nat}{d':Drawn}{ch:List Addr}(I:Inv X pins σ H s)(u:Un (frs X.stack) ch H H' s.heap h')(hok:HOk X.prog X.w H' h')(hg:AllBare g')
  (hch:∀b∈ch,(b∈X.ex\/X.s₀.heap.objs.size<=b)/\b≠X.env.locals/\(∀x c,X.env.cells.lookup x=some c->c≠b)/\∀p∈X.pn++pins,p.1≠b) :
  Inv X pins σ H' { s with heap:=h',gens:=g',drawn:=d',toks:=t' }:=by
 obtain⟨m,⟨o,es,ep,ho,r⟩,_⟩:=id I.loc
 obtain⟨sl,hL⟩:=u.any ho I.free λz=>(hch _ z).2.1 rfl
 exact I.step (ch:=ch) hch (λb o hL hb hc e n=>u.keep b o e n (λz=>(List.mem_cons.mp (I.stkSub b z)).elim hL hb) hc) (λb o _ _ hc e n=>u.any e n hc) (λb o hc e n=>u.free b o e n hc) (λb o hc e=>u.there b o e hc) u.tups u.frzs u.tbls (λm' hm=>by
  obtain⟨o',es',ep',ho',r'⟩:=hm
  rw[ho] at ho';cases ho'
  exact⟨_,es',ep',hL,r'⟩) hok hg
theorem Inv.turned{t':Nat}{it:Addr}(I:Inv X pins σ H s)(k:∀b o,b≠it->s.heap.get? b=some o->h'.get? b=some o)(hn:H it=none)(hL:it≠X.env.locals)
  (h1:it∈X.ex\/X.s₀.heap.objs.size<=it) (h2:∀x c,X.env.cells.lookup x=some c->c≠it) (h3:∀p∈X.pn++pins,p.1≠it):Inv X pins σ H { s with heap:=h',toks:=t' }:=by
 have nit:∀b u,H b=some u->b≠it:=λb u e z=>by rw[z,hn] at e;cases e
 refine I.step (g':=s.gens) (d':=s.drawn) (ch:=[it]) (λb hb=>?_) (λb o _ _ hc e _=>k b o (λz=>hc (by simp[z])) e) (λb o _ _ hc e _=>⟨o.slots,k b o (λz=>hc (by simp[z])) e⟩) (λ_ _ _ _ n=>n)
  (λb o hc e=>⟨o,k b o (λz=>hc (by simp[z])) e⟩) (λ_ _ e=>e) (λ_ _ _ e=>e) (λb ps e=>⟨#[],by rw[e];simp⟩) (λm hm=>?_) (λb u e=>?_) I.bare
 ·have e:b=it:=by simpa using hb
  subst e
  exact⟨h1,hL,h2,h3⟩
 ·obtain⟨o,es,ep,ho,r⟩:=hm
  exact⟨o,es,ep,k _ o (Ne.symm hL) ho,r⟩
 ·refine(I.hok b u e).stay (λc v hc q=>k c v ?_ q) (λ_ q=>q) λ_ _ q=>q
  rcases hc with z|z
  ·rw[z];exact nit b u e
  ·exact nit c _ z
theorem Inv.tok(I:Inv X pins σ H s)(t:Nat):Inv X pins σ H { s with toks:=t }:=I.un (h':=s.heap) (t':=t) Un.refl I.hok
theorem Inv.kept{t':Nat}(I:Inv X pins σ H s)(k:∀b u,s.heap.get? b=some u->h'.get? b=some u):Inv X pins σ H { s with heap:=h',toks:=t' }:=I.un (Un.kept k) (I.hok.kept k)
theorem Inv.laid{a:Addr}{o:HO}{t':Nat}(I:Inv X pins σ H s)(k:∀b u,s.heap.get? b=some u->h'.get? b=some u)(hp:s.heap.objs.size<=a)(new:ObjOk X.prog X.w (upd H a o) h' a o) :
  Inv X pins σ (upd H a o) { s with heap:=h',toks:=t' }:=I.un (Un.laid k hp (I.hok.fresh hp)) (I.hok.laid k hp new)
theorem Inv.write{x e:Addr}{o:HO}{t':Nat}(I:Inv X pins σ H s)(mu:Mut (H x))(he:e=x\/H e=some (.own x))(k:∀b u,b≠e->s.heap.get? b=some u->h'.get? b=some u)(heo:∃u,h'.get? e=some u)
  (new:ObjOk X.prog X.w (upd H x o) h' x o):Inv X pins σ (upd H x o) { s with heap:=h',toks:=t' }:=I.un (Un.write mu he k heo) (I.hok.write mu he k heo new)
theorem Inv.pins_of{pins':List (Addr×Obj)}(I:Inv X pins σ H s)(h:∀p∈pins',s.heap.get? p.1=some p.2/\H p.1=none/\p.1≠X.env.locals/\p.1∉X.fs/\∀v,p.2.data≠.cell v):Inv X pins' σ H s :=
 ⟨I.ok,I.os,I.bare,I.base,I.loc,I.cell,I.free,I.freeC,λp hp=>(List.mem_append.mp hp).elim (λz=>I.pin p (List.mem_append_left _ z)) (h p),I.hok,I.len⟩
theorem qnt{N:List Str}(hN:N.Nodup){i j:Nat}{x:Str}(a:N[i]?=some x)(b:N[j]?=some x):i=j:=by
 obtain⟨h1,e1⟩:=List.getElem?_eq_some_iff.mp a
 obtain⟨h2,e2⟩:=List.getElem?_eq_some_iff.mp b
 exact(List.getElem_inj hN).mp (e1.trans e2.symm)
theorem qrz{M:Model}{A:Around}{E:Value->Shared->Prop}{i:Nat}{x:Str}{v:V}{u:Value}{Q:Unit->Shared->Prop}(I:Inv X pins σ H s)(hN:X.N.Nodup)(hi:X.N[i]?=some x)(hx:Loc X.env.scope x)(r:RelV v u)
  (h:∀s',Inv X pins (σ.set i (some v)) H s'->(∃a,Heap.SameBut a s.heap s'.heap/\(a=X.env.locals\/X.env.cells.lookup x=some a))->Q () s') (hf:X.fn x=true\/X.env.scope.names.lookup x=some .local:=by first|exact .inl rfl|exact .inr rfl|assumption):wpAny M A (storeName X.env x u) Q E s:=by
 obtain⟨m,hn,hl⟩:=id I.loc
 have hcls:(X.env.scope.kind==.class||(X.env.scope.kind==.module&&X.env.locals != X.env.globals))=false:=by rw[I.ok.kind];rfl
 have hiσ:i<σ.length:=by rw[I.len];exact(List.getElem?_eq_some_iff.mp hi).1
 have cne:=I.cne
 have tracked:∀ {a:Addr} {h':Heap},(∃o,s.heap.get? a=some o/\H a=none)->Heap.SameBut a s.heap h'->HOk X.prog X.w H h':=λ{a h'} ha hs b ob e=>by
  obtain⟨_,_,hfree⟩:=ha
  refine(I.hok b ob e).stay (λc w' hc q=>(hs.2 c ?_).trans q) (λ_ q=>q) λ_ _ q=>q
  rintro rfl
  rcases hc with rfl|hc
  ·rw[hfree] at e;cases e
  ·rw[hfree] at hc;cases hc
 rcases hx with hk|hk
 ·refine wpAny_storeName_local hk hn (λh' hn' hs=>?_) hcls
  obtain⟨oL,_,_,hoL,_⟩:=id hn
  refine h _ ⟨I.ok,I.os,I.bare,⟨λb o e n hb hx=>?_,λb o e n hb hx=>?_,I.base.free,λb o e hx=>?_,I.base.tups,I.base.frzs,I.base.tbls⟩,⟨_,hn',λj y v' e1 e2 e3=>?_⟩,λy c e=>?_,I.free,I.freeC,λp hp=>?_,tracked ⟨oL,hoL,I.free⟩ hs,by simpa using I.len⟩ ⟨_,hs,.inl rfl⟩
  ·exact(hs.2 b (Nat.ne_of_lt (Nat.lt_of_lt_of_le (Heap.lt_size e) I.ok.above))).trans (I.base.keep b o e n hb hx)
  ·obtain⟨sl,e1⟩:=I.base.slot b o e n hb hx
   exact⟨sl,(hs.2 b (Nat.ne_of_lt (Nat.lt_of_lt_of_le (Heap.lt_size e) I.ok.above))).trans e1⟩
  ·obtain⟨o',e1⟩:=I.base.there b o e hx
   exact⟨o',(hs.2 b (Nat.ne_of_lt (Nat.lt_of_lt_of_le (Heap.lt_size e) I.ok.above))).trans e1⟩
  ·by_cases hj:j=i
   ·subst hj
    rw[hi] at e1;cases e1
    rw[List.getElem?_set_self hiσ] at e2
    cases e2
    exact⟨u,r,.inl ⟨hk,by simp⟩⟩
   ·rw[List.getElem?_set_ne (Ne.symm hj)] at e2
    obtain⟨u',r',q⟩:=hl j y v' e1 e2 e3
    refine⟨u',r',?_⟩
    rcases q with ⟨k,e⟩|⟨k,c,e,z⟩
    ·refine .inl ⟨k,?_⟩
     have:y≠x:=λe=>hj (qnt hN e1 (e▸hi))
     simp[this,e]
    ·exact .inr ⟨k,c,e,z.sameBut hs (cne y c e)⟩
  ·obtain⟨w',z⟩:=I.cell y c e
   exact⟨w',z.sameBut hs (cne y c e)⟩
  ·obtain⟨e,n,ne,nf,d⟩:=I.pin p hp
   exact⟨(hs.2 p.1 ne).trans e,n,ne,nf,d⟩
 ·have hfn:X.fn x=true:=by
   rcases hf with z|z
   ·exact z
   ·rw[z] at hk;cases hk
  obtain⟨c,hc⟩:=I.ok.has x (.inl hk)
  obtain⟨w',z⟩:=I.cell x c hc
  refine wpAny_storeName_cell I.ok.kind hk hc z (λh' hc' hs=>?_)
  obtain⟨oc,hoc,hocd⟩:=id z
  refine h { s with heap:=h' } ⟨I.ok,I.os,I.bare,⟨λb o e n hb hx=>?_,λb o e n hb hx=>?_,I.base.free,λb o e hx=>?_,I.base.tups,I.base.frzs,I.base.tbls⟩,⟨m,hn.sameBut hs (Ne.symm (cne x c hc)),λj y v' e1 e2 e3=>?_⟩,λy c' e=>?_,I.free,I.freeC,λp hp=>?_,tracked ⟨oc,hoc,I.freeC x c hc⟩ hs,by simpa using I.len⟩ ⟨c,hs,.inr hc⟩
  ·exact(hs.2 b (Nat.ne_of_lt (Nat.lt_of_lt_of_le (Heap.lt_size e) (I.ok.cab x c hfn hc)))).trans (I.base.keep b o e n hb hx)
  ·obtain⟨sl,e1⟩:=I.base.slot b o e n hb hx
   exact⟨sl,(hs.2 b (Nat.ne_of_lt (Nat.lt_of_lt_of_le (Heap.lt_size e) (I.ok.cab x c hfn hc)))).trans e1⟩
  ·obtain⟨o',e1⟩:=I.base.there b o e hx
   exact⟨o',(hs.2 b (Nat.ne_of_lt (Nat.lt_of_lt_of_le (Heap.lt_size e) (I.ok.cab x c hfn hc)))).trans e1⟩
  ·by_cases hj:j=i
   ·subst hj
    rw[hi] at e1;cases e1
    rw[List.getElem?_set_self hiσ] at e2
    cases e2
    exact⟨u,r,.inr ⟨.inl hk,c,hc,hc'⟩⟩
   ·rw[List.getElem?_set_ne (Ne.symm hj)] at e2
    obtain⟨u',r',q⟩:=hl j y v' e1 e2 e3
    refine⟨u',r',?_⟩
    rcases q with q|⟨k,c',e,z'⟩
    ·exact .inl q
    ·refine .inr ⟨k,c',e,z'.sameBut hs ?_⟩
     rintro rfl
     exact hj (qnt hN e1 (I.ok.inj _ _ _ e hc▸hi))
  ·by_cases hcc:c'=c
   ·subst hcc;exact⟨_,hc'⟩
   ·obtain⟨w2,z2⟩:=I.cell y c' e
    exact⟨w2,z2.sameBut hs hcc⟩
  ·obtain⟨e,n,ne,nf,d⟩:=I.pin p hp
   refine⟨(hs.2 p.1 ?_).trans e,n,ne,nf,d⟩
   intro q
   rw[q,hoc] at e
   have q':oc=p.2:=Option.some.inj e
   exact d w' (by rw[←q'];exact hocd)
theorem qjn{M:Model}{A:Around}{E:Value->Shared->Prop}{i:Nat}{x:Str}{v:V}{u:Value}{Q:Unit->Shared->Prop}(I:Inv X pins σ H s)(hN:X.N.Nodup)(hi:X.N[i]?=some x)(hx:Loc X.env.scope x)(r:RelV v u)
  (h:∀s',Inv X pins (σ.set i (some v)) H s'->Q () s') (hf:X.fn x=true\/X.env.scope.names.lookup x=some .local:=by first|exact .inl rfl|exact .inr rfl|assumption):wpAny M A (storeName X.env x u) Q E s :=
 qrz I hN hi hx r (λs' I' _=>h s' I') hf
theorem Inv.call'{s':Shared}{ch:List Addr}(I:Inv X pins σ H s)(ho:s'.os=s.os)(u:Un (frs X.stack) ch H H' s.heap s'.heap)(hok:HOk X.prog X.w H' s'.heap)(hg:AllBare s'.gens)
  (hch:∀b∈ch,(b∈X.ex\/X.s₀.heap.objs.size<=b)/\b≠X.env.locals/\(∀x c,X.env.cells.lookup x=some c->c≠b)/\∀p∈X.pn++pins,p.1≠b):Inv X pins σ H' s':=by
 obtain⟨h',g',d',t',o'⟩:=s'
 have e:o'=s.os:=ho
 subst e
 exact I.call (g':=g') (t':=t') (d':=d') u hok hg hch
end
abbrev XK:=Value->Option Addr->Hp->Prop
abbrev St:=List (Option V)
abbrev VK:=V->Hp->Prop
abbrev TE:=St->Hp->VK->Prop
abbrev TT:=St->Hp->(Bool->Hp->Prop)->Prop
abbrev TA:=St->Hp->(List V->Hp->Prop)->Prop
structure Ends where
 nx:St->Hp->Prop
 rt:VK
 bk:St->Hp->Prop:=λ_ _=>False
 ct:St->Hp->Prop:=λ_ _=>False
abbrev TS:=Ends->St->Hp->Prop
def EP(X:Cx)(pins:List (Addr×Obj))(σ:St)(Q:VK)(u:Value)(s':Shared):Prop:=∃v H',Inv X pins σ H' s'/\RelV v u/\Q v H'
def TP(X:Cx)(pins:List (Addr×Obj))(σ:St)(Q:Bool->Hp->Prop)(b:Bool)(s':Shared):Prop:=∃H',Inv X pins σ H' s'/\Q b H'
def AP(X:Cx)(pins:List (Addr×Obj))(σ:St)(Q:List V->Hp->Prop)(us:List Value)(s':Shared):Prop:=∃vs H',Inv X pins σ H' s'/\Vals vs us/\Q vs H'
def SP(X:Cx)(pins:List (Addr×Obj))(D:Ends)(f:Flow)(s':Shared):Prop :=
 match f with
|.next=>∃σ' H',Inv X pins σ' H' s'/\D.nx σ' H'
|.brk=>∃σ' H',Inv X pins σ' H' s'/\D.bk σ' H'
|.cont=>∃σ' H',Inv X pins σ' H' s'/\D.ct σ' H'
|.ret u=>∃v σ' H',Inv X pins σ' H' s'/\RelV v u/\D.rt v H'
def PE(X:Cx)(e:Expr)(t:TE):Prop :=
 ∀(pins:List (Addr×Obj)) (s:Shared) (σ:St) (H:Hp) (Q:VK),Inv X pins σ H s->t σ H Q->wpAny (model X.prog X.w) X.A (eval e X.env) (EP X pins σ Q) X.xe s
def PT(X:Cx)(e:Expr)(t:TT):Prop :=
 ∀(pins:List (Addr×Obj)) (s:Shared) (σ:St) (H:Hp) (Q:Bool->Hp->Prop),Inv X pins σ H s->t σ H Q->wpAny (model X.prog X.w) X.A (isTrue e X.env (eval e X.env)) (TP X pins σ Q) X.xe s
def PW(X:Cx)(e:Expr)(t:TT):Prop :=
 ∀(whole:Sem Value) (pins:List (Addr×Obj)) (s:Shared) (σ:St) (H:Hp) (Q:Bool->Hp->Prop),Inv X pins σ H s->t σ H Q->wpAny (model X.prog X.w) X.A (isTrue e X.env whole) (TP X pins σ Q) X.xe s
theorem PW.pt{X:Cx}{e:Expr}{t:TT}(h:PW X e t):PT X e t:=h _
def PA(X:Cx)(es:List Expr)(t:TA):Prop :=
 ∀(pos:Pos) (pins:List (Addr×Obj)) (s:Shared) (σ:St) (H:Hp) (Q:List V->Hp->Prop),Inv X pins σ H s->t σ H Q->wpAny (model X.prog X.w) X.A (spliced (backTo pos (starEach es X.env))) (AP X pins σ Q) X.xe s
def PS(X:Cx)(st:Stmt)(t:TS):Prop :=
 ∀(pins:List (Addr×Obj)) (s:Shared) (σ:St) (H:Hp) (D:Ends),Inv X pins σ H s->t D σ H->wpAny (model X.prog X.w) X.A (exec st X.env) (SP X pins D) X.xe s
def PSs(X:Cx)(st:List Stmt)(t:TS):Prop :=
 ∀(pins:List (Addr×Obj)) (s:Shared) (σ:St) (H:Hp) (D:Ends),Inv X pins σ H s->t D σ H->wpAny (model X.prog X.w) X.A (execs st X.env) (SP X pins D) X.xe s
theorem thn{α:Type}{t:Sem α}{Q Q':α->Shared->Prop}{M:Model}{A:Around}{E:Value->Shared->Prop}{s:Shared}(h:wpAny M A t Q E s)(hQ:∀a s,Q a s->Q' a s):wpAny M A t Q' E s:=wpAny_mono h hQ λ_ _ x=>x
end L2
namespace L2
open PySem PySem.Spec PyProof.Rows
section
variable {X:Cx}
def tVar(i:Nat):TE:=λσ H Q=>∃v,σ[i]?=some (some v)/\Q v H
def tC(v:V):TE:=λ_ H Q=>Q v H
theorem q0p{i:Nat}{x:Str}{pos:Pos}(hN:X.N[i]?=some x)(hv:Vis X.env.scope x)(hd:(x==("__debug__" : Str))=false:=by decide)(hcd:(x==("__classdict__" : Str))=false:=by decide):PE X (.Name x pos) (tVar i):=by
 intro pins s σ H Q I h
 obtain⟨v,e,h⟩:=h
 obtain⟨m,hn,hl⟩:=I.loc
 obtain⟨u,r,l⟩:=hl i x v hN e hv
 have fin:EP X pins σ Q u s:=⟨v,H,I,r,h⟩
 rcases l with ⟨hk,hm⟩|⟨hk,c,hc,hcell⟩
 ·exact wpAny_Name (wpAny_loadName_local I.ok.kind hk hn hm fin) hd
 ·rcases hk with hk|hk
  ·exact wpAny_Name (wpAny_loadName_cell I.ok.kind hk hc hcell fin) hd
  ·exact wpAny_Name (wpAny_loadName_free I.ok.kind hk hc hcell fin hcd) hd
theorem q0i{i j pos}:PE X (.Constant (.int i) j pos) (tC (.int i)):=λ_ _ _ H _ I h=>wpAny_Constant_int ⟨.int i,H,I.tok _,⟨_,rfl⟩,h⟩
theorem q2o{b j pos}:PE X (.Constant (.bool b) j pos) (tC (.bl b)):=λ_ _ _ H _ I h=>Constant_bool ⟨.bl b,H,I,rfl,h⟩
theorem q0k{j pos}:PE X (.Constant .none j pos) (tC .non):=λ_ _ _ H _ I h=>Constant_none ⟨.non,H,I,rfl,h⟩
theorem q0n{x j pos}:PE X (.Constant (.str x) j pos) (tC (.str x)):=λ_ _ _ H _ I h=>Calls.Constant_str ⟨.str x,H,I.tok _,⟨_,rfl⟩,h⟩
def Gl(X:Cx)(x:Str):Prop:=X.env.kindOf x=some .globalImplicit
theorem qwm{E:Value->Shared->Prop}{pins:List (Addr×Obj)}{s:Shared}{σ:St}{H:Hp}{x:Str}{u:Value}{pos:Pos}{Q:Value->Shared->Prop}(I:Inv X pins σ H s)(hg:Gl X x)(hm:X.mg x=some u)(h:Q u s)
  (hd:(x==("__debug__" : Str))=false:=by decide):wpAny (model X.prog X.w) X.A (eval (.Name x pos) X.env) Q E s :=
 Calls.Name_function_global I.ok.kind hg (Calls.loadGlobal_global (by rw[I.ok.glob];exact I.mod.glob.keeps I.bk) hm h) hd
theorem qhd{E:Value->Shared->Prop}{pins:List (Addr×Obj)}{s:Shared}{σ:St}{H:Hp}{x:Str}{u:Value}{pos:Pos}{Q:Value->Shared->Prop}(I:Inv X pins σ H s)(hg:Gl X x)(hm:X.mg x=none)(hv:bootBuiltins x=some u)(h:Q u s)
  (hn:x≠"__name__" := by decide) (hd:(x==("__debug__" : Str))=false:=by decide):wpAny (model X.prog X.w) X.A (eval (.Name x pos) X.env) Q E s:=by
 obtain⟨mb,h1,h2⟩:=I.mod.blt
 exact Calls.Name_function_global I.ok.kind hg (Calls.loadGlobal_builtin (by rw[I.ok.glob];exact I.mod.glob.keeps I.bk) hm (by rw[I.ok.blt];exact h1.keeps I.bk) ((h2 x hn).trans hv) h) hd
theorem qw7{x:Str}{v:V}{u:Value}{pos:Pos}(hg:Gl X x)(hm:X.mg x=none)(hv:bootBuiltins x=some u)(r:RelV v u)(hn:x≠"__name__" := by decide)(hd:(x==("__debug__" : Str))=false:=by decide):PE X (.Name x pos) (tC v) :=
 λ_ _ _ H _ I h=>qhd I hg hm hv ⟨v,H,I,r,h⟩ hn hd
variable {a b:Expr} {ta tb:TE} {pos:Pos}
def PC(X:Cx)(op:CmpOp)(a b:Expr)(t:TE):Prop :=
 ∀(pins:List (Addr×Obj)) (s:Shared) (σ:St) (H:Hp) (Q:VK),Inv X pins σ H s->t σ H Q ->
  wpAny (model X.prog X.w) X.A (eval a X.env) (λv s₁=>wpAny (model X.prog X.w) X.A (eval b X.env) (λu s₂=>wpAny (model X.prog X.w) X.A (compareOp op v u) (EP X pins σ Q) X.xe s₂) X.xe s₁) X.xe s
theorem qns(b:Expr){op:CmpOp}(h:op≠.In)(h2:op≠.NotIn):behindInMarks op b=false:=by
 have e1:(op==CmpOp.In)=false:=by cases op<;>first|rfl|exact absurd rfl h
 have e2:(op==CmpOp.NotIn)=false:=by cases op<;>first|rfl|exact absurd rfl h2
 cases b<;>simp[behindInMarks,e1,e2]
def tB(t:TE):TT:=λσ H Q=>t σ H λx H1=>∃c,x=.bl c/\Q c H1
theorem q0h{op:CmpOp}{t:TE}(h:PC X op a b t)(h1:behindInMarks op b=false:=by first|exact qns _ (by decide) (by decide)|rfl):PE X (.Compare a [op] [b] pos) t:=λpins s σ H Q I hw=>wpAny_Compare1 (h pins s σ H Q I hw) h1
theorem qvk{op:CmpOp}{t:TE}(h:PC X op a b t)(h1:behindInMarks op b=false:=by first|exact qns _ (by decide) (by decide)|rfl):PT X (.Compare a [op] [b] pos) (tB t):=by
 intro pins s σ H Q I hw
 refine wpAny_isTrue_Compare1 (thn (h pins s σ H _ I hw) λv s1 h1=>thn h1 λu s2 h2=>thn h2 λc s3 ⟨x,H1,I1,r1,q1⟩=>?_) h1
 obtain⟨d,rfl,q⟩:=q1
 cases r1
 exact wpAny_truthy_bool ⟨H1,I1,q⟩
theorem q0x{e:Expr}{t:TE}(h:PE X e t)(he:∀whole,isTrue e X.env whole=(do let v ←whole;standAt e.pos;holding [v] (truthy v)):=by intro _;rfl):PT X e (tB t):=by
 intro pins s σ H Q I hw
 refine isTrue_plain (thn (h pins s σ H _ I hw) λv s1 ⟨x,H1,I1,r1,q1⟩=>?_) (he _)
 obtain⟨d,rfl,q⟩:=q1
 cases r1
 exact wpAny_truthy_bool ⟨H1,I1,q⟩
variable {tA tB':TT} {rest:List Expr}
def tAnd(t u:TT):TT:=λσ H Q=>t σ H λc H1=>if c=true then u σ H1 Q else Q false H1
def tOr(t u:TT):TT:=λσ H Q=>t σ H λc H1=>if c=true then Q true H1 else u σ H1 Q
def tNot(t:TT):TT:=λσ H Q=>t σ H λc H1=>Q (!c) H1
theorem qxp(ha:PT X a tA):PW X (.BoolOp .And [a] pos) tA:=by
 intro wh pins s σ H Q I h
 refine isTrue_and (thn (ha pins s σ H Q I h) λc s1 e=>?_)
 cases c with
|true=>exact isTrue_and_nil e
|false=>exact e
theorem q0z(ha:PT X a tA):PW X (.BoolOp .Or [a] pos) tA:=by
 intro wh pins s σ H Q I h
 refine isTrue_or (thn (ha pins s σ H Q I h) λc s1 e=>?_)
 cases c with
|false=>exact isTrue_or_nil e
|true=>exact e
theorem q0y(ha:PT X a tA)(hb:PW X (.BoolOp .And (b::rest) pos) tB'):PW X (.BoolOp .And (a::b::rest) pos) (tAnd tA tB'):=by
 intro wh pins s σ H Q I h
 refine isTrue_and (thn (ha pins s σ H _ I h) λc s1 ⟨H1,I1,q1⟩=>?_)
 cases c with
|true=>exact hb wh pins s1 σ H1 Q I1 q1
|false=>exact⟨H1,I1,q1⟩
theorem q2x(ha:PT X a tA)(hb:PW X (.BoolOp .Or (b::rest) pos) tB'):PW X (.BoolOp .Or (a::b::rest) pos) (tOr tA tB'):=by
 intro wh pins s σ H Q I h
 refine isTrue_or (thn (ha pins s σ H _ I h) λc s1 ⟨H1,I1,q1⟩=>?_)
 cases c with
|true=>exact⟨H1,I1,q1⟩
|false=>exact hb wh pins s1 σ H1 Q I1 q1
theorem q0w(ha:PT X a tA):PT X (.UnaryOp .Not a pos) (tNot tA):=by
 intro pins s σ H Q I h
 exact isTrue_not (ha pins s σ H (λc H1=>Q (!c) H1) I h)
def q1t(ta tb:TE):TE:=λσ H Q=>ta σ H λx H1=>∃c,x=.bl c/\if c=true then tb σ H1 Q else Q (.bl false) H1
def tOrV(ta tb:TE):TE:=λσ H Q=>ta σ H λx H1=>∃c,x=.bl c/\if c=true then Q (.bl true) H1 else tb σ H1 Q
def q1x(ta:TE):TE:=λσ H Q=>ta σ H λx H1=>∃c,x=.bl c/\Q (.bl (!c)) H1
theorem q0m{op}{t:TE}(h:PE X a t):PE X (.BoolOp op [a] pos) t:=λpins s σ H Q I hw=>BoolOp_one (h pins s σ H Q I hw)
theorem q0f(ha:PE X a ta)(hb:PE X (.BoolOp .And (b::rest) pos) tb):PE X (.BoolOp .And (a::b::rest) pos) (q1t ta tb):=by
 intro pins s σ H Q I h
 refine BoolOp_and (thn (ha pins s σ H _ I h) λv s1 ⟨x,H1,I1,r1,q1⟩=>?_)
 obtain⟨c,rfl,q1⟩:=q1
 cases r1
 refine wpAny_truthy_bool ?_
 cases c with
|true=>exact hb pins s1 σ H1 Q I1 q1
|false=>exact⟨.bl false,H1,I1,rfl,q1⟩
theorem q2s(ha:PE X a ta)(hb:PE X (.BoolOp .Or (b::rest) pos) tb):PE X (.BoolOp .Or (a::b::rest) pos) (tOrV ta tb):=by
 intro pins s σ H Q I h
 refine BoolOp_or (thn (ha pins s σ H _ I h) λv s1 ⟨x,H1,I1,r1,q1⟩=>?_)
 obtain⟨c,rfl,q1⟩:=q1
 cases r1
 refine wpAny_truthy_bool ?_
 cases c with
|false=>exact hb pins s1 σ H1 Q I1 q1
|true=>exact⟨.bl true,H1,I1,rfl,q1⟩
theorem q0l(ha:PE X a ta):PE X (.UnaryOp .Not a pos) (q1x ta):=by
 intro pins s σ H Q I h
 refine UnaryOp_ (thn (ha pins s σ H _ I h) λv s1 ⟨x,H1,I1,r1,q1⟩=>?_)
 obtain⟨c,rfl,q1⟩:=q1
 cases r1
 exact not_of (wpAny_truthy_bool ⟨.bl (!c),H1,I1,rfl,q1⟩)
def tIf(t:TT)(ta tb:TE):TE:=λσ H Q=>t σ H λc H1=>if c=true then ta σ H1 Q else tb σ H1 Q
theorem qtt{c:Expr}(hc:PT X c tA)(ha:PE X a ta)(hb:PE X b tb):PE X (.IfExp c a b pos) (tIf tA ta tb):=by
 intro pins s σ H Q I h
 refine wpAny_IfExp (thn (hc pins s σ H _ I h) λd s1 ⟨H1,I1,q1⟩=>?_)
 cases d with
|true=>exact ha pins s1 σ H1 Q I1 q1
|false=>exact hb pins s1 σ H1 Q I1 q1
end
end L2
namespace L2
open PySem PySem.Spec PyProof.Rows
def SqL(K:PySem.W.Frag)(H:Hp)(a:Addr)(xs:List V):Prop :=
 Rd H a (.lst xs) \/
  ∃(o:Obj) (its:Array Value) (n:Nat),K.lookup a=some o/\o.cls=.type "list" /\ o.dict=none/\o.data=.seq its n/\its.size<=sizeLine/\Vals xs its.toList
def SqT(K:PySem.W.Frag)(H:Hp)(a:Addr)(xs:List V):Prop :=
 Rd H a (.tup xs) \/
  ∃(o:Obj) (its:Array Value) (n:Nat),K.lookup a=some o/\o.cls=.type "tuple" /\ o.data=.seq its n/\its.size<=sizeLine/\Vals xs its.toList
def absV:Value->Option V
|.none=>some .non
|.bool b=>some (.bl b)
|.int i _=>some (.int i)
|.str x _=>some (.str x)
|.bytes b _=>some (.byt b)
|.float b _=>some (.flt b)
|.ref a=>some (.ref a)
|.type n=>some (.ty n)
|_=>none
theorem RelV.abs{x:V}{u:Value}(r:RelV x u):absV u=some x:=by
 cases x with
|non=>cases r;rfl
|bl _=>cases r;rfl
|int _=>obtain⟨t,rfl⟩:=r;rfl
|str _=>obtain⟨t,rfl⟩:=r;rfl
|byt _=>obtain⟨t,rfl⟩:=r;rfl
|flt _=>obtain⟨t,rfl⟩:=r;rfl
|ref _=>cases r;rfl
|ty _=>cases r;rfl
theorem RelV.inj{x y:V}{u:Value}(r:RelV x u)(q:RelV y u):x=y:=Option.some.inj (r.abs.symm.trans q.abs)
theorem Vals.inj:∀ {xs ys:List V} {us:List Value},Vals xs us->Vals ys us->xs=ys
|_,_,_,.nil,.nil=>rfl
|_,_,_,.cons r t,.cons r' t'=>by rw[r.inj r',Vals.inj t t']
section
variable {X:Cx} {pins:List (Addr×Obj)} {σ:St} {H:Hp} {s:Shared} {a:Addr} {xs ys:List V}
theorem SqL.of{K:PySem.W.Frag}(h:H a=some (.lst xs)):SqL K H a xs:=.inl (.inl h)
theorem SqT.of{K:PySem.W.Frag}(h:H a=some (.tup xs)):SqT K H a xs:=.inl (.inl h)
theorem Inv.list(I:Inv X pins σ H s)(h:SqL X.K H a xs):∃its:List Value,Vals xs its/\PlainL s.heap a its.toArray/\xs.length<=sizeLine:=by
 rcases h with h|⟨o,its,n,hk,hc,hd,hs,hz,r⟩
 ·obtain⟨z,its,n,r,e⟩:=h.ok I.hok
  exact⟨its,r,⟨_,n,e,rfl,rfl,rfl⟩,z⟩
 ·refine⟨its.toList,r,⟨o,n,I.kIn a o hk,hc,hd,by simpa using hs⟩,?_⟩
  have e:=r.length
  simp only[Array.length_toList] at e
  lia
theorem Inv.tuple(I:Inv X pins σ H s)(h:SqT X.K H a xs):∃its:List Value,Vals xs its/\IsTup s.heap a its.toArray/\xs.length<=sizeLine:=by
 rcases h with h|⟨o,its,n,hk,hc,hs,hz,r⟩
 ·obtain⟨z,its,r,p⟩:=h.ok I.hok
  exact⟨its,r,p,z⟩
 ·refine⟨its.toList,r,⟨o,I.kIn a o hk,hc,n,by simpa using hs⟩,?_⟩
  have e:=r.length
  simp only[Array.length_toList] at e
  lia
theorem Inv.list_inj(I:Inv X pins σ H s)(h:SqL X.K H a xs)(h':SqL X.K H a ys):xs=ys:=by
 obtain⟨its,r,⟨o,n,e,_,_,d⟩,_⟩:=I.list h
 obtain⟨its',r',⟨o',n',e',_,_,d'⟩,_⟩:=I.list h'
 rw[e] at e';cases e'
 rw[d] at d'
 injection d' with d1 _
 have:its=its':=by simpa using congrArg Array.toList d1
 subst this
 exact r.inj r'
theorem Inv.tuple_inj(I:Inv X pins σ H s)(h:SqT X.K H a xs)(h':SqT X.K H a ys):xs=ys:=by
 obtain⟨its,r,⟨o,e,_,n,d⟩,_⟩:=I.tuple h
 obtain⟨its',r',⟨o',e',_,n',d'⟩,_⟩:=I.tuple h'
 rw[e] at e';cases e'
 rw[d] at d'
 injection d' with d1 _
 have:its=its':=by simpa using congrArg Array.toList d1
 subst this
 exact r.inj r'
end
abbrev Cx.wish(X:Cx)(E:Value->Shared->Prop):Cx:={ X with xe:=E }
abbrev Cx.nox(X:Cx):Cx:=X.wish λ_ _=>False
theorem Cx.Ok.wish{X:Cx}(ok:X.Ok)(E:Value->Shared->Prop):(X.wish E).Ok :=
 ⟨ok.mod,ok.kind,ok.glob,ok.blt,ok.above,ok.inj,ok.has,ok.cab,ok.hd,ok.frames,ok.stk,ok.exf,ok.bs,ok.bsz,ok.noex,ok.exfs,ok.funs,ok.frf⟩
theorem Cx.Ok.unwish{X:Cx}{E:Value->Shared->Prop}(ok:(X.wish E).Ok):X.Ok :=
 ⟨ok.mod,ok.kind,ok.glob,ok.blt,ok.above,ok.inj,ok.has,ok.cab,ok.hd,ok.frames,ok.stk,ok.exf,ok.bs,ok.bsz,ok.noex,ok.exfs,ok.funs,ok.frf⟩
section
variable {X:Cx} {pins:List (Addr×Obj)} {σ:St} {H:Hp} {s:Shared} {E:Value->Shared->Prop}
theorem Inv.wish(I:Inv X pins σ H s)(E:Value->Shared->Prop):Inv (X.wish E) pins σ H s:=⟨I.ok.wish E,I.os,I.bare,I.base,I.loc,I.cell,I.free,I.freeC,I.pin,I.hok,I.len⟩
theorem Inv.unwish(I:Inv (X.wish E) pins σ H s):Inv X pins σ H s:=⟨I.ok.unwish,I.os,I.bare,I.base,I.loc,I.cell,I.free,I.freeC,I.pin,I.hok,I.len⟩
theorem SP.unwish{D:Ends}{f:Flow}{s':Shared}(h:SP (X.wish E) pins D f s'):SP X pins D f s':=by
 cases f with
|next=>obtain⟨σ',H',I,q⟩:=h;exact⟨σ',H',I.unwish,q⟩
|brk=>obtain⟨σ',H',I,q⟩:=h;exact⟨σ',H',I.unwish,q⟩
|cont=>obtain⟨σ',H',I,q⟩:=h;exact⟨σ',H',I.unwish,q⟩
|ret u=>obtain⟨v,σ',H',I,r,q⟩:=h;exact⟨v,σ',H',I.unwish,r,q⟩
theorem PSs.nox{st:List Stmt}{t:TS}(h:PSs X.nox st t):PSs X st t:=λpins s σ H D I hw =>
 wpAny_mono (h pins s σ H D (I.wish _) hw) (λ_ _ q=>q.unwish) λ_ _ z=>False.elim z
end
section
variable {X:Cx} {st:Stmt} {rest:List Stmt} {t u:TS} {e:Expr} {te:TE} {pos:Pos}
def q1w:TS:=λD σ H=>D.nx σ H
def tSeq(t u:TS):TS:=λD σ H=>t { D with nx:=u D } σ H
theorem qxl:PSs X [] q1w:=λ_ _ σ H _ I h=>wpAny_execs_nil ⟨σ,H,I,h⟩
theorem qty(h1:PS X st t)(h2:PSs X rest u):PSs X (st::rest) (tSeq t u):=by
 intro pins s σ H D I h
 refine wpAny_execs_cons (thn (h1 pins s σ H { D with nx:=u D } I h) λf s1 q=>?_)
 cases f with
|next =>
  obtain⟨σ',H',I',q⟩:=q
  exact h2 pins s1 σ' H' D I' q
|ret v=>exact q
|brk=>exact q
|cont=>exact q
theorem qxm(h1:PS X st t):PSs X [st] t:=by
 intro pins s σ H D I h
 refine wpAny_execs_cons (thn (h1 pins s σ H D I h) λf s1 q=>?_)
 cases f with
|next=>exact wpAny_execs_nil q
|ret v=>exact q
|brk=>exact q
|cont=>exact q
theorem Inv.quiet{pins:List (Addr×Obj)}{σ:St}{H:Hp}{s:Shared}(I:Inv X pins σ H s):interactive X.env=false:=by simp[interactive,I.ok.kind]
def q1v(te:TE):TS:=λD σ H=>te σ H λ_ H1=>D.nx σ H1
theorem qxk(he:PE X e te)(hs:swapsWith e none pos.line X.env=pure false:=by rfl):PS X (.Expr e pos) (q1v te):=by
 intro pins s σ H D I h
 exact wpAny_Expr_any (thn (he pins s σ H _ I h) λv s1 ⟨x,H1,I1,r1,q1⟩=>⟨σ,H1,I1,q1⟩) I.quiet hs
def tRet(te:TE):TS:=λD σ H=>te σ H D.rt
theorem q0u(he:PE X e te):PS X (.Return (some e) pos) (tRet te):=by
 intro pins s σ H D I h
 exact wpAny_Return_some (thn (he pins s σ H _ I h) λv s1 ⟨x,H1,I1,r1,q1⟩=>⟨x,σ,H1,I1,r1,q1⟩)
def tIfS(c:TT)(t u:TS):TS:=λD σ H=>c σ H λb H1=>if b=true then t D σ H1 else u D σ H1
theorem q2w{c:Expr}{a b:List Stmt}{tc:TT}(hc:PT X c tc)(ha:PSs X a t)(hb:PSs X b u):PS X (.If c a b pos) (tIfS tc t u):=by
 intro pins s σ H D I h
 refine wpAny_If (thn (hc pins s σ H _ I h) λd s1 ⟨H1,I1,q1⟩=>?_)
 cases d with
|true=>exact ha pins s1 σ H1 D I1 q1
|false=>exact hb pins s1 σ H1 D I1 q1
end
abbrev TG:=V->St->Hp->(St->Hp->Prop)->Prop
abbrev TGs:=List V->St->Hp->(St->Hp->Prop)->Prop
def PG(X:Cx)(target:Expr)(t:TG):Prop :=
 ∀(pins:List (Addr×Obj)) (s:Shared) (σ:St) (H:Hp) (v:V) (u:Value) (Q:St->Hp->Prop),Inv X pins σ H s->RelV v u->t v σ H Q ->
  wpAny (model X.prog X.w) X.A (assign target X.env u) (λ_ s'=>∃σ' H',Inv X pins σ' H' s'/\Q σ' H') X.xe s
def PGs(X:Cx)(ts:List Expr)(t:TGs):Prop :=
 ∀(pins:List (Addr×Obj)) (s:Shared) (σ:St) (H:Hp) (vs:List V) (us:List Value) (Q:St->Hp->Prop),Inv X pins σ H s->Vals vs us->t vs σ H Q ->
  wpAny (model X.prog X.w) X.A (assignInOrder ((assignEach ts X.env).map (·.2)) us) (λ_ s'=>∃σ' H',Inv X pins σ' H' s'/\Q σ' H') X.xe s
abbrev TIp:=V->V->Hp->VK->Prop
def PIp(X:Cx)(op:Operator)(t:TIp):Prop :=
 ∀(pins:List (Addr×Obj)) (s:Shared) (σ:St) (H:Hp) (x y:V) (v u:Value) (Q:VK),Inv X pins σ H s->RelV x v->RelV y u->t x y H Q ->
  wpAny (model X.prog X.w) X.A (inplaceOp op v u) (EP X pins σ Q) X.xe s
section
variable {X:Cx} {pos:Pos}
def qoo(i:Nat):TG:=λv σ H Q=>Q (σ.set i (some v)) H
theorem qxd{i:Nat}{x:Str}(hN:X.N.Nodup)(hi:X.N[i]?=some x)(hx:Loc X.env.scope x)(hf:X.fn x=true\/X.env.scope.names.lookup x=some .local:=by first|exact .inl rfl|exact .inr rfl|assumption):PG X (.Name x pos) (qoo i):=by
 intro pins s σ H v u Q I r h
 exact wpAny_assign_Name (qjn I hN hi hx r (λs' I'=>⟨_,H,I',h⟩) hf)
def tAsg(te:TE)(g:TG):TS:=λD σ H=>te σ H λx H1=>g x σ H1 D.nx
theorem q0v{i:Nat}{x:Str}{e:Expr}{te:TE}{pos':Pos}(hN:X.N.Nodup)(hi:X.N[i]?=some x)(hx:Loc X.env.scope x)(he:PE X e te)(hs:swapsWith e (some (.Name x pos')) pos.line X.env=pure false:=by rfl)(hf:X.fn x=true\/X.env.scope.names.lookup x=some .local:=by first|exact .inl rfl|exact .inr rfl|assumption) :
  PS X (.Assign [.Name x pos'] e pos) (tAsg te (qoo i)):=by
 intro pins s σ H D I h
 refine wpAny_Assign_Name (thn (he pins s σ H _ I h) λv s1 ⟨y,H1,I1,r1,q1⟩=>?_) hs
 exact qjn I1 hN hi hx r1 (λs2 I2=>⟨_,H1,I2,q1⟩) hf
def tAug(i:Nat)(te:TE)(ti:TIp):TS:=λD σ H=>∃x,σ[i]?=some (some x)/\te σ H λy H1=>ti x y H1 λz H2=>D.nx (σ.set i (some z)) H2
theorem q0r{i:Nat}{x:Str}{e:Expr}{te:TE}{op:Operator}{ti:TIp}{pos':Pos}(hN:X.N.Nodup)(hi:X.N[i]?=some x)(hx:Loc X.env.scope x)(he:PE X e te)(ho:PIp X op ti)(hf:X.fn x=true\/X.env.scope.names.lookup x=some .local:=by first|exact .inl rfl|exact .inr rfl|assumption) :
  PS X (.AugAssign (.Name x pos') op e pos) (tAug i te ti):=by
 intro pins s σ H D I h
 obtain⟨v,e1,h⟩:=h
 obtain⟨m,hn,hl⟩:=I.loc
 have vis:Vis X.env.scope x:=by rcases hx with k|k;exact .inl k;exact .inr (.inl k)
 obtain⟨u,r,l⟩:=hl i x v hi e1 vis
 refine wpAny_AugAssign_Name ?_
 have go:wpAny (model X.prog X.w) X.A (eval e X.env) (λw s₂=>wpAny (model X.prog X.w) X.A (inplaceOp op u w) (λr s₃=>wpAny (model X.prog X.w) X.A (storeName X.env x r) (λ_=>SP X pins D .next) X.xe s₃) X.xe s₂) X.xe s:=by
  refine thn (he pins s σ H _ I h) λw s1 ⟨y,H1,I1,r1,q1⟩=>?_
  refine thn (ho pins s1 σ H1 v y u w _ I1 r r1 q1) λz s2 ⟨zv,H2,I2,r2,q2⟩=>?_
  exact qjn I2 hN hi hx r2 (λs3 I3=>⟨_,H2,I3,q2⟩) hf
 rcases l with ⟨hk,hm⟩|⟨hk,c,hc,hcell⟩
 ·exact wpAny_loadName_local I.ok.kind hk hn hm go
 ·rcases hk with hk|hk
  ·exact wpAny_loadName_cell I.ok.kind hk hc hcell go
  ·rcases hx with k|k
   ·have:X.env.scope.names.lookup x=some .free:=hk
    rw[k] at this;cases this
   ·have:X.env.scope.names.lookup x=some .free:=hk
    rw[k] at this;cases this
def ipI(f:Int->Int->Int):TIp:=λx y H Q=>∃i j,x=.int i/\y=.int j/\Q (.int (f i j)) H
theorem qzn:PIp X .Sub (ipI λi j=>i-j):=by
 intro pins s σ H x y v u Q I r1 r2 h
 obtain⟨i,j,e1,e2,q⟩:=h
 subst e1;subst e2
 obtain⟨t,rfl⟩:=r1
 obtain⟨t',rfl⟩:=r2
 exact isub_int ⟨.int _,H,I.tok _,⟨_,rfl⟩,q⟩
end
section
variable {X:Cx} {pos:Pos}
def qvv(c:TT)(tb:TS):TS:=λD σ H=>∃W:Nat->St->Hp->Prop,(∃m,W m σ H)/\∀m σ H,W m σ H ->
 c σ H λb H1=>if b=true then ∃N:St->Hp->Prop,(∀σ' H',N σ' H'->∃m',m'<m/\W m' σ' H')/\tb { D with nx:=N,ct:=N,bk:=D.nx } σ H1 else D.nx σ H1
theorem qtx{c:Expr}{body:List Stmt}{tc:TT}{tb:TS}(hp:PassesOwn (model X.prog X.w) X.A X.env X.xe)(hc:PT X c tc)(hb:PSs X body tb):PS X (.While c body [] pos) (qvv tc tb):=by
 intro pins s σ H D I h
 obtain⟨W,⟨m0,w0⟩,turn⟩:=h
 refine wpAny_While (codeAny_whileLoop (λn s'=>∃σ' H',Inv X pins σ' H' s'/\W n σ' H') ?_ m0 ⟨σ,H,I,w0⟩)
 rintro n s1 ⟨σ1,H1,I1,w1⟩
 refine wpAny_passesOwn hp (thn (hc pins s1 σ1 H1 _ I1 (turn n σ1 H1 w1)) λb s2 ⟨H2,I2,q2⟩=>?_)
 cases b with
|true =>
  obtain⟨N,hN,q2⟩:=q2
  rw[if_pos rfl]
  refine wpAny_passesOwn hp (thn (hb pins s2 σ1 H2 _ I2 q2) λf s3 q3=>?_)
  cases f with
 |next =>
   obtain⟨σ3,H3,I3,n3⟩:=q3
   obtain⟨m',hm,w3⟩:=hN σ3 H3 n3
   exact⟨m',hm,σ3,H3,I3,w3⟩
 |cont =>
   obtain⟨σ3,H3,I3,n3⟩:=q3
   obtain⟨m',hm,w3⟩:=hN σ3 H3 n3
   exact⟨m',hm,σ3,H3,I3,w3⟩
 |brk=>exact q3
 |ret v=>exact q3
|false =>
  rw[if_neg Bool.false_ne_true]
  exact wpAny_execs_nil ⟨σ1,H2,I2,q2⟩
end
structure It where
 go:Nat->Hp->Prop
 yld:Nat->Hp->V->Hp->Prop
 stop:Nat->Hp->Prop
def FpOk(X:Cx)(pins:List (Addr×Obj))(H:Hp)(b:Addr):Prop :=
 H b=none/\b≠X.env.locals/\b∉X.fs/\(b∈X.ex\/X.s₀.heap.objs.size<=b)/\(∀x c,X.env.cells.lookup x=some c->c≠b)/\∀p∈X.pn++pins,p.1≠b
theorem Inv.fpOk{X:Cx}{pins:List (Addr×Obj)}{σ:St}{H H':Hp}{s:Shared}{b:Addr}(I:Inv X pins σ H s)(hb:s.heap.objs.size<=b)(hn:H' b=none):FpOk X pins H' b:=by
 refine⟨hn,Nat.ne_of_gt (Nat.lt_of_lt_of_le I.lt hb),I.nofs hb,.inr (Nat.le_trans I.sz hb),λx c e z=>?_,λp hp z=>?_⟩
 ·obtain⟨v,q⟩:=I.cell x c e
  exact absurd (Nat.lt_of_lt_of_le q.lt (by rw[z];exact hb)) (Nat.lt_irrefl _)
 ·exact absurd (Nat.lt_of_lt_of_le (Heap.lt_size (I.pin p hp).1) (by rw[z];exact hb)) (Nat.lt_irrefl _)
structure Turn(P:Program)(w:World)(K:PySem.W.Frag)(tg:Expr)(J:It)(fp:List Addr)(it:Addr)(tn:Nat->Heap->Prop):Prop where
 mem:it∈fp
 obj:∀i h,tn i h->∀b∈fp,∃o,h.get? b=some o/\∀v,o.data≠.cell v
 keep:∀i h h',tn i h->(∀b∈fp,∀o,h.get? b=some o->h'.get? b=some o)->tn i h'
 item:∀(X:Cx),X.prog=P->X.w=w->X.K=K->X.calm=true->∀(i:Nat) (pins:List (Addr×Obj)) (s:Shared) (σ:St) (H:Hp) (E:Value->Shared->Prop),Inv X pins σ H s->(∀b∈fp,FpOk X pins H b)->tn i s.heap->J.go i H ->
  wpAny (model P w) X.A (pyNext (.ref it)) (λr s1=>∃u,r=some u /\
   wpAny (model P w) X.A (letOwnedTupleGo tg (.ref it) u) (λ_ s2=>∃x H',Inv X pins σ H' s2/\RelV x u/\J.yld i H x H'/\tn (i+1) s2.heap/\∀b∈fp,H' b=none) E s1) E s
 done:∀(X:Cx),X.prog=P->X.w=w->X.K=K->X.calm=true->∀(i:Nat) (pins:List (Addr×Obj)) (s:Shared) (σ:St) (H:Hp) (E:Value->Shared->Prop),Inv X pins σ H s->(∀b∈fp,FpOk X pins H b)->tn i s.heap->J.stop i H ->
  wpAny (model P w) X.A (pyNext (.ref it)) (λr s1=>r=none/\Inv X pins σ H s1) E s
 self:∀(A:Around) (i:Nat) (s:Shared) (Q:Value->Shared->Prop) (E:Value->Shared->Prop),tn i s.heap->Q (.ref it) s->wpAny (model P w) A (pyIter (.ref it)) Q E s
abbrev TI:=St->Hp->(It->Hp->Prop)->Prop
def PIE(X:Cx)(pins:List (Addr×Obj))(σ:St)(tg:Expr)(R:It->Hp->Prop)(itv:Value)(s2:Shared):Prop :=
 ∃(it:Addr) (fp:List Addr) (tn:Nat->Heap->Prop) (J:It) (H':Hp),itv=.ref it/\Inv X pins σ H' s2/\Turn X.prog X.w X.K tg J fp it tn/\tn 0 s2.heap/\(∀b∈fp,FpOk X pins H' b)/\R J H'
def PI(X:Cx)(tg iter:Expr)(wi:TI):Prop :=
 ∀(pins:List (Addr×Obj)) (s:Shared) (σ:St) (H:Hp) (R:It->Hp->Prop),Inv X pins σ H s->wi σ H R ->
  wpAny (model X.prog X.w) X.A (eval iter X.env) (λv s1=>wpAny (model X.prog X.w) X.A (pyIter v) (PIE X pins σ tg R) X.xe s1) X.xe s
theorem qqp{M:Model}{A:Around}{E:Value->Shared->Prop}{s:Shared}{tg:Expr}{it:Addr}{u:Value}{o:Obj}{n:String}{vs:Array Value}{Q:Unit->Shared->Prop}(ho:s.heap.get? it=some o)(hc:o.cls=.type n)(hd:o.data=.fields vs)
    (hn:["enumerate","zip","dict_itemiterator","dict_reverseitemiterator","odict_iterator","itertools.zip_longest","itertools.pairwise"].contains n=false) (hQ:Q () s):wpAny M A (letOwnedTupleGo tg (.ref it) u) Q E s:=by
  unfold letOwnedTupleGo
  cases tg<;>first
   |exact wpAny_pure hQ
   |  (cases u<;>first
       |exact wpAny_pure hQ
       |  (refine wpAny_bind (wpAny_load ho ?_)
           rw[hc,hd]
           show wpAny M A (if (["enumerate","zip","dict_itemiterator","dict_reverseitemiterator","odict_iterator","itertools.zip_longest","itertools.pairwise"].contains n&&vs[0]?==some (rawInt _))=true then _ else _) Q E s
           rw[if_neg (by intro h;rw[hn,Bool.false_and] at h;cases h)]
           exact wpAny_pure hQ))
def Itl(K:PySem.W.Frag)(a:Addr):It :=
 ⟨λi H=>∃xs x,SqL K H a xs/\xs[i]?=some x,λi H x H'=>H'=H/\∀xs,SqL K H a xs->xs[i]?=some x,λi H=>∃xs,SqL K H a xs/\xs.length<=i⟩
def Itt(K:PySem.W.Frag)(a:Addr):It :=
 ⟨λi H=>∃xs x,SqT K H a xs/\xs[i]?=some x,λi H x H'=>H'=H/\∀xs,SqT K H a xs->xs[i]?=some x,λi H=>∃xs,SqT K H a xs/\xs.length<=i⟩
def Itr(lo:Int)(n:Nat):It:=⟨λi _=>i<n,λi H x H'=>H'=H/\x=.int (lo+i),λi _=>n<=i⟩
theorem qr4{P:Program}{w:World}{K:PySem.W.Frag}{tg:Expr}(a it:Addr):Turn P w K tg (Itl K a) [it] it (λi h=>h.IsListIter it a i) where
 mem:=by simp
 obj:=λi h st b hb=>by
  have e:b=it:=by simpa using hb
  subst e
  obtain⟨o,e,c,d⟩:=st
  exact⟨o,e,λv z=>by rw[d] at z;cases z⟩
 keep:=λi h h' st k=>st.at λo e=>k it (by simp) o e
 item:=by
  intro X hP hw hK hc i pins s σ H E I hf st hg
  subst hP hw hK
  obtain⟨xs,x,hq,hx⟩:=hg
  obtain⟨its,rv,p,hz⟩:=I.list hq
  obtain⟨u,hu,ru⟩:=rv.get hx
  obtain⟨f0,f1,f2,f3,f4,f5⟩:=hf it (by simp)
  refine wpAny_pyNext_list_item st p.isList (x:=u) (by simpa using hu) λh' st' sb=>?_
  have I1:Inv X pins σ H { s with heap:=h' }:=I.turned (t':=s.toks) (λb o hb e=>(sb.2 b hb).trans e) f0 f1 f3 f4 f5
  obtain⟨o,e,c,d⟩:=id st'
  exact⟨u,rfl,qqp (s:={ s with heap:=h' }) e c d (by decide) ⟨x,H,I1,ru,⟨rfl,λys hy=>by rw[I.list_inj hy hq];exact hx⟩,st',λb hb=>(hf b hb).1⟩⟩
 done:=by
  intro X hP hw hK hc i pins s σ H E I hf st hg
  subst hP hw hK
  obtain⟨xs,hq,hx⟩:=hg
  obtain⟨its,rv,p,hz⟩:=I.list hq
  obtain⟨f0,f1,f2,f3,f4,f5⟩:=hf it (by simp)
  have hl:=rv.length
  exact wpAny_pyNext_list_end (I.ok.hd hc) st p.isList (by simp;lia) λh' eb=>⟨rfl,I.turned (t':=s.toks) (λb o hb e=>eb b o hb e) f0 f1 f3 f4 f5⟩
 self:=λ_ _ _ _ _ st h=>wpAny_pyIter_listiter st h
theorem qpa{P:Program}{w:World}{K:PySem.W.Frag}{tg:Expr}(a it:Addr):Turn P w K tg (Itt K a) [it] it (λi h=>h.IsTupleIter it a i) where
 mem:=by simp
 obj:=λi h st b hb=>by
  have e:b=it:=by simpa using hb
  subst e
  obtain⟨o,e,c,d⟩:=st
  exact⟨o,e,λv z=>by rw[d] at z;cases z⟩
 keep:=λi h h' st k=>st.at λo e=>k it (by simp) o e
 item:=by
  intro X hP hw hK hc i pins s σ H E I hf st hg
  subst hP hw hK
  obtain⟨xs,x,hq,hx⟩:=hg
  obtain⟨its,rv,p,hz⟩:=I.tuple hq
  obtain⟨u,hu,ru⟩:=rv.get hx
  obtain⟨f0,f1,f2,f3,f4,f5⟩:=hf it (by simp)
  refine wpAny_pyNext_tuple_item st (show s.heap.IsTuple a its.toArray from p) (x:=u) (by simpa using hu) λh' st' sb=>?_
  have I1:Inv X pins σ H { s with heap:=h' }:=I.turned (t':=s.toks) (λb o hb e=>(sb.2 b hb).trans e) f0 f1 f3 f4 f5
  obtain⟨o,e,c,d⟩:=id st'
  exact⟨u,rfl,qqp (s:={ s with heap:=h' }) e c d (by decide) ⟨x,H,I1,ru,⟨rfl,λys hy=>by rw[I.tuple_inj hy hq];exact hx⟩,st',λb hb=>(hf b hb).1⟩⟩
 done:=by
  intro X hP hw hK hc i pins s σ H E I hf st hg
  subst hP hw hK
  obtain⟨xs,hq,hx⟩:=hg
  obtain⟨its,rv,p,hz⟩:=I.tuple hq
  obtain⟨f0,f1,f2,f3,f4,f5⟩:=hf it (by simp)
  have hl:=rv.length
  exact wpAny_pyNext_tuple_end (I.ok.hd hc) st (show s.heap.IsTuple a its.toArray from p) (by simp;lia) λh' eb=>⟨rfl,I.turned (t':=s.toks) (λb o hb e=>eb b o hb e) f0 f1 f3 f4 f5⟩
 self:=λ_ _ _ _ _ st h=>wpAny_pyIter_tupleiter st h
theorem qo9{P:Program}{w:World}{K:PySem.W.Frag}{tg:Expr}(it:Addr)(lo:Int)(n:Nat):Turn P w K tg (Itr lo n) [it] it (λi h=>IsRangeIter h it (lo+(i:Nat)*1) ((n:Int)-(i:Nat)) 1) where
 mem:=by simp
 obj:=λi h st b hb=>by
  have e:b=it:=by simpa using hb
  subst e
  exact⟨_,st,λv z=>by
   have z':Data.fields _=Data.cell v:=z
   cases z'⟩
 keep:=λi h h' st k=>k it (by simp) _ st
 item:=by
  intro X hP hw hK hc i pins s σ H E I hf st hg
  subst hP hw hK
  obtain⟨f0,f1,f2,f3,f4,f5⟩:=hf it (by simp)
  have W:=Walks.range (prog:=X.prog) (w:=X.w) (I.ok.hd hc) it lo 1 n
  refine W.item i s _ _ hg st λv h' tk hv st' kk=>?_
  obtain⟨t,rfl⟩:=hv
  have I1:Inv X pins σ H { s with heap:=h',toks:=tk }:=I.turned (λb o hb e=>kk b o (by simpa using hb) e) f0 f1 f3 f4 f5
  refine⟨_,rfl,qqp (s:={ s with heap:=h',toks:=tk }) (n:="range_iterator") st' rfl rfl (by decide) ⟨.int (lo+i),H,I1,⟨t,?_⟩,⟨rfl,rfl⟩,st',λb hb=>(hf b hb).1⟩⟩
  rw[Int.mul_one]
 done:=by
  intro X hP hw hK hc i pins s σ H E I hf st hg
  subst hP hw hK
  obtain⟨f0,f1,f2,f3,f4,f5⟩:=hf it (by simp)
  exact wpAny_pyNext_range_end (I.ok.hd hc) st (by have:n<=i:=hg;lia) λh' eb=>⟨rfl,I.turned (t':=s.toks) (λb o hb e=>eb b o hb e) f0 f1 f3 f4 f5⟩
 self:=λ_ _ _ _ _ st h=>wpAny_pyIter_rangeiter st h
end L2
namespace L2
open PySem PySem.Spec PyProof.Rows
section
variable {X:Cx} {tg:Expr}
theorem qnx{pins:List (Addr×Obj)}{σ:St}{H:Hp}{s:Shared}{R:It->Hp->Prop}{E:Value->Shared->Prop}{lo hi:Int}{t u v:Tok}{tk:Nat}(I:Inv X pins σ H s)(h1:-(2 ^ 62)<=lo)(h2:lo<2 ^ 62)(h3:-(2 ^ 62)<=hi)(h4:hi<2 ^ 62)
  (q:R (Itr lo (hi-lo).toNat) H):wpAny (model X.prog X.w) X.A (pyIter (.ref s.heap.objs.size)) (PIE X pins σ tg R) E { s with heap:=s.heap.push { cls:=.type "range",data:=.fields #[.int lo t,.int hi u,.int 1 v] },toks:=tk }:=by
 refine wpAny_pyIter_range (IsRange.new ..) (small_one h1 h2 h3 h4) ?_
 have I1:Inv X pins σ H { s with heap:=s.heap.push { cls:=.type "range",data:=.fields #[.int lo t,.int hi u,.int 1 v] },toks:=tk }:=I.kept λb o e=>Heap.get?_push_of_some _ e
 refine⟨(s.heap.push { cls:=.type "range",data:=.fields #[.int lo t,.int hi u,.int 1 v] }).objs.size,[(s.heap.push { cls:=.type "range",data:=.fields #[.int lo t,.int hi u,.int 1 v] }).objs.size],_,_,H,rfl,
  I1.kept (t':=tk) λb o e=>Heap.get?_push_of_some _ e,qo9 _ lo (hi-lo).toNat,?_,λb hb=>?_,q⟩
 ·have e1:lo+((0:Nat):Int)*1=lo:=by simp
  have e2:(((hi-lo).toNat:Nat):Int)-((0:Nat):Int)=Builtin.Range.rangeSize lo hi 1:=by rw[rangeSize_one];split<;>lia
  show IsRangeIter _ _ (lo+((0:Nat):Int)*1) ((((hi-lo).toNat:Nat):Int)-((0:Nat):Int)) 1
  rw[e1,e2]
  exact Heap.get?_push_size _ rfl
 ·have e:b=(s.heap.push { cls:=.type "range",data:=.fields #[.int lo t,.int hi u,.int 1 v] }).objs.size:=by simpa using hb
  subst e
  exact I1.fpOk (Nat.le_refl _) (I1.hok.fresh (Nat.le_refl _))
def qwd(ta:TA):TI:=λσ H R=>ta σ H λvs H1=>∃j:Int,vs=[.int j]/\-(2 ^ 62)<=j/\j<2 ^ 62/\R (Itr 0 j.toNat) H1
def qwe(ta:TA):TI:=λσ H R=>ta σ H λvs H1=>∃i j:Int,vs=[.int i,.int j]/\(-(2 ^ 62)<=i/\i<2 ^ 62/\-(2 ^ 62)<=j/\j<2 ^ 62)/\R (Itr i (j-i).toNat) H1
theorem qre{a:Expr}{ta:TA}{p pos:Pos}(hg:Gl X "range")(hm:X.mg "range" = none)(ha:PA X [a] ta)(hs:starEach [a] X.env=[(false,eval a X.env)]:=by rfl):PI X tg (.Call (.Name "range" p) [a] [] pos) (qwd ta):=by
 intro pins s σ H R I h
 refine Call_ (qhd I hg hm boot_range (PyProof.Rows.callWith_type1 (thn (ha pos pins s σ H _ I h) λus s1 ⟨vs,H1,I1,r1,q1⟩=>?_) hs rfl))
 obtain⟨j,e,q1,q2,q⟩:=q1
 subst e
 cases r1 with
|cons r rr =>
  cases rr
  obtain⟨t,rfl⟩:=r
  exact call_range_1 (qnx I1 (by lia) (by lia) q1 q2 (by simpa using q))
theorem qrf{a b:Expr}{ta:TA}{p pos:Pos}(hg:Gl X "range")(hm:X.mg "range" = none)(ha:PA X [a,b] ta)(hs:starEach [a,b] X.env=[(false,eval a X.env),(false,eval b X.env)]:=by rfl)(hs2:starEach [b] X.env=[(false,eval b X.env)]:=by rfl) :
  PI X tg (.Call (.Name "range" p) [a,b] [] pos) (qwe ta):=by
 intro pins s σ H R I h
 refine Call_ (qhd I hg hm boot_range (PyProof.Rows.callWith_type1 (thn (ha pos pins s σ H _ I h) λus s1 ⟨vs,H1,I1,r1,q1⟩=>?_) (by rw[hs,hs2]) (by rw[hs2];rfl)))
 obtain⟨i,j,e,⟨q1,q2,q3,q4⟩,q⟩:=q1
 subst e
 cases r1 with
|cons r rr =>
  cases rr with
 |cons r' rr =>
   cases rr
   obtain⟨t,rfl⟩:=r
   obtain⟨t',rfl⟩:=r'
   exact call_range_2 (qnx I1 q1 q2 q3 q4 q)
def tFor(wi:TI)(g:TG)(tb:TS):TS:=λD σ H=>wi σ H λJ H1=>∃W:Nat->Nat->St->Hp->Prop,(∃m,W 0 m σ H1)/\∀i m σ H,W i m σ H ->
 (J.stop i H/\D.nx σ H)\/(J.go i H/\∃N:St->Hp->Prop,(∀σ' H',N σ' H'->∃m',m'<m/\W (i+1) m' σ' H')/\∀x H',J.yld i H x H'->g x σ H' λσ2 H2=>tb { D with nx:=N,ct:=N,bk:=D.nx } σ2 H2)
def qku(fp:List Addr)(h:Heap):List (Addr×Obj):=fp.filterMap λb=>(h.get? b).map λo=>(b,o)
theorem qfa{fp:List Addr}{h:Heap}{b:Addr}{o:Obj}(hb:b∈fp)(e:h.get? b=some o):(b,o)∈qku fp h:=List.mem_filterMap.mpr ⟨b,hb,by rw[e];rfl⟩
theorem qq8{fp:List Addr}{h:Heap}{p:Addr×Obj}(hp:p∈qku fp h):p.1∈fp/\h.get? p.1=some p.2:=by
 obtain⟨b,hb,e⟩:=List.mem_filterMap.mp hp
 cases q:h.get? b with
|none=>rw[q] at e;cases e
|some o =>
  rw[q] at e
  have e':(b,o)=p:=Option.some.inj e
  subst e'
  exact⟨hb,q⟩
theorem Inv.pinned{pins:List (Addr×Obj)}{σ:St}{H:Hp}{s:Shared}{fp:List Addr}(I:Inv X pins σ H s)(hf:∀b∈fp,FpOk X pins H b)(ho:∀b∈fp,∃o,s.heap.get? b=some o/\∀v,o.data≠.cell v):Inv X (pins++qku fp s.heap) σ H s :=
 I.pins_of λp hp=>(List.mem_append.mp hp).elim (λz=>I.pin p (List.mem_append_right _ z)) λz=>by
  obtain⟨hb,e⟩:=qq8 z
  obtain⟨f0,f1,f2,_⟩:=hf p.1 hb
  obtain⟨o,e',d⟩:=ho p.1 hb
  rw[e] at e';cases e'
  exact⟨e,f0,f1,f2,d⟩
theorem Inv.unpinned{pins pl:List (Addr×Obj)}{σ:St}{H:Hp}{s:Shared}(I:Inv X (pins++pl) σ H s):Inv X pins σ H s:=I.pins_of λp hp=>I.pin p (List.mem_append_right _ (List.mem_append_left _ hp))
theorem q0s{iter:Expr}{body:List Stmt}{wi:TI}{g:TG}{tb:TS}{pos:Pos}(hp:PassesOwn (model X.prog X.w) X.A X.env X.xe)(hc:X.calm=true)(hi:PI X tg iter wi)(hg:PG X tg g)(hb:PSs X body tb)
  (hs:∀x,foldedSetIterable iter X.env x=pure x:=by intro _;rfl):PS X (.For tg iter body [] pos) (tFor wi g tb):=by
 intro pins s σ H D I h
 refine wpAny_For (thn (hi pins s σ H _ I h) λv s1 h1=>thn h1 λitv s2 h2=>?_) hs
 obtain⟨it,fp,tn,J,H2,e,I2,T,st2,f2,W,⟨m0,w0⟩,turn⟩:=h2
 subst e
 have stat:∀ {H':Hp},(∀b∈fp,H' b=none)->∀b∈fp,FpOk X pins H' b:=λhn b hb=>⟨hn b hb,(f2 b hb).2⟩
 refine codeAny_forLoop_any (λn s'=>∃i σ' H',Inv X pins σ' H' s'/\tn i s'.heap/\(∀b∈fp,H' b=none)/\W i n σ' H') ?_ m0 ⟨0,σ,H2,I2,st2,λb hb=>(f2 b hb).1,w0⟩
 rintro n s3 ⟨i,σ3,H3,I3,st3,fr3,w3⟩
 rcases turn i n σ3 H3 w3 with ⟨stop,qn⟩|⟨go,N,hN,step⟩
 ·refine wpAny_passesOwn hp (thn (T.done X rfl rfl rfl hc i pins s3 σ3 H3 X.xe I3 (stat fr3) st3 stop) λr s4 ⟨hr,I4⟩=>?_)
  subst hr
  exact wpAny_execs_nil ⟨σ3,H3,I4,qn⟩
 ·refine wpAny_passesOwn hp (thn (T.item X rfl rfl rfl hc i pins s3 σ3 H3 X.xe I3 (stat fr3) st3 go) λr s4 ⟨u,hr,h4⟩=>?_)
  subst hr
  refine wpAny_passesOwn hp (thn h4 λ_ s5 ⟨x,H5,I5,r5,y5,st5,fr5⟩=>?_)
  have I5':=I5.pinned (stat fr5) (T.obj _ _ st5)
  refine wpAny_passesOwn hp (thn (hg _ s5 σ3 H5 x u _ I5' r5 (step x H5 y5)) λ_ s6 ⟨σ6,H6,I6,q6⟩=>?_)
  refine wpAny_passesOwn hp (thn (hb _ s6 σ6 H6 _ I6 q6) λf s7 q7=>?_)
  have again:∀ {σ7:St} {H7:Hp},Inv X (pins++qku fp s5.heap) σ7 H7 s7->N σ7 H7->∃m,m<n/\∃i σ' H',Inv X pins σ' H' s7/\tn i s7.heap/\(∀b∈fp,H' b=none)/\W i m σ' H':=λ{σ7 H7} I7 n7=>by
   obtain⟨m',hm,w7⟩:=hN σ7 H7 n7
   refine⟨m',hm,i+1,σ7,H7,I7.unpinned,T.keep _ _ _ st5 λb hb o e=>(I7.pin (b,o) (List.mem_append_right _ (List.mem_append_right _ (qfa hb e)))).1,λb hb=>?_,w7⟩
   obtain⟨o,e,d⟩:=T.obj _ _ st5 b hb
   exact(I7.pin (b,o) (List.mem_append_right _ (List.mem_append_right _ (qfa hb e)))).2.1
  cases f with
 |next=>obtain⟨σ7,H7,I7,n7⟩:=q7;exact again I7 n7
 |cont=>obtain⟨σ7,H7,I7,n7⟩:=q7;exact again I7 n7
 |brk=>obtain⟨σ7,H7,I7,q7⟩:=q7;exact⟨σ7,H7,I7.unpinned,q7⟩
 |ret v=>obtain⟨x7,σ7,H7,I7,r7,q7⟩:=q7;exact⟨x7,σ7,H7,I7.unpinned,r7,q7⟩
end
end L2
namespace L2
open PySem PySem.Spec PyProof.Rows
abbrev R2:=V->V->Hp->VK->Prop
def OpR(X:Cx)(f:Value->Value->Sem Value)(r:R2):Prop :=
 ∀(pins:List (Addr×Obj)) (s:Shared) (σ:St) (H:Hp) (x y:V) (v u:Value) (Q:VK),Inv X pins σ H s->RelV x v->RelV y u->r x y H Q ->
  wpAny (model X.prog X.w) X.A (f v u) (EP X pins σ Q) X.xe s
def UnR(X:Cx)(f:Value->Sem Value)(r:V->Hp->VK->Prop):Prop :=
 ∀(pins:List (Addr×Obj)) (s:Shared) (σ:St) (H:Hp) (x:V) (v:Value) (Q:VK),Inv X pins σ H s->RelV x v->r x H Q ->
  wpAny (model X.prog X.w) X.A (f v) (EP X pins σ Q) X.xe s
def CallR(X:Cx)(f:Value)(r:List V->Hp->VK->Prop):Prop :=
 ∀(pins:List (Addr×Obj)) (s:Shared) (σ:St) (H:Hp) (xs:List V) (us:List Value) (Q:VK),Inv X pins σ H s->Vals xs us->r xs H Q ->
  wpAny (model X.prog X.w) X.A (call f us) (EP X pins σ Q) X.xe s
def tOp(r:R2)(ta tb:TE):TE:=λσ H Q=>ta σ H λx H1=>tb σ H1 λy H2=>r x y H2 Q
def tUn(r:V->Hp->VK->Prop)(ta:TE):TE:=λσ H Q=>ta σ H λx H1=>r x H1 Q
def rI(C:Int->Int->Prop)(g:Int->Int->V):R2:=λx y H Q=>∃i j,x=.int i/\y=.int j/\C i j/\Q (g i j) H
def rI0(g:Int->Int->V):R2:=λx y H Q=>∃i j,x=.int i/\y=.int j/\Q (g i j) H
def rU(g:Int->V):V->Hp->VK->Prop:=λx H Q=>∃i,x=.int i/\Q (g i) H
section
variable {X:Cx} {a b c:Expr} {ta tb tc:TE} {pos:Pos}
theorem binT(ha:PE X a ta)(hb:PE X b tb){pins:List (Addr×Obj)}{s:Shared}{σ:St}{H:Hp}{R:V->V->Hp->Prop}(I:Inv X pins σ H s)
  (h:ta σ H λx H1=>tb σ H1 λy H2=>R x y H2) {Q:Value->Shared->Prop} {f:Value->Value->Sem Value}
  (hf:∀v u s2 x y H2,Inv X pins σ H2 s2->RelV x v->RelV y u->R x y H2->wpAny (model X.prog X.w) X.A (f v u) Q X.xe s2) :
  wpAny (model X.prog X.w) X.A (eval a X.env) (λv s₁=>wpAny (model X.prog X.w) X.A (eval b X.env) (λu s₂=>wpAny (model X.prog X.w) X.A (f v u) Q X.xe s₂) X.xe s₁) X.xe s:=by
 refine thn (ha pins s σ H _ I h) λv s1 ⟨x,H1,I1,r1,q1⟩=>?_
 refine thn (hb pins s1 σ H1 _ I1 q1) λu s2 ⟨y,H2,I2,r2,q2⟩=>?_
 exact hf v u s2 x y H2 I2 r1 r2 q2
theorem q2r{op:Operator}{r:R2}(ho:OpR X (binaryOp op) r)(ha:PE X a ta)(hb:PE X b tb):PE X (.BinOp a op b pos) (tOp r ta tb):=by
 intro pins s σ H Q I h
 exact wpAny_BinOp (binT ha hb I h λv u s2 x y H2 I2 rx ry q=>ho pins s2 σ H2 x y v u Q I2 rx ry q)
theorem q2t{op:UnaryOp}{r:V->Hp->VK->Prop}(ho:UnR X (unaryOp op) r)(ha:PE X a ta):PE X (.UnaryOp op a pos) (tUn r ta):=by
 intro pins s σ H Q I h
 exact UnaryOp_ (thn (ha pins s σ H _ I h) λv s1 ⟨x,H1,I1,r1,q1⟩=>ho pins s1 σ H1 x v Q I1 r1 q1)
theorem opI{f:Value->Value->Sem Value}{C:Int->Int->Prop}{g:Int->Int->Int}
  (rule:∀(i j:Int) (t u:Tok) (s:Shared) (Q:Value->Shared->Prop) (E:Value->Shared->Prop),C i j->Q (.int (g i j) s.toks) { s with toks:=s.toks+1 }->wpAny (model X.prog X.w) X.A (f (.int i t) (.int j u)) Q E s) :
  OpR X f (rI C λi j=>.int (g i j)):=by
 intro pins s σ H x y v u Q I rx ry h
 obtain⟨i,j,rfl,rfl,hc,q⟩:=h
 obtain⟨t,rfl⟩:=rx
 obtain⟨t',rfl⟩:=ry
 exact rule i j t t' s _ _ hc ⟨.int (g i j),H,I.tok _,⟨_,rfl⟩,q⟩
theorem opI0{f:Value->Value->Sem Value}{g:Int->Int->Int}
  (rule:∀(i j:Int) (t u:Tok) (s:Shared) (Q:Value->Shared->Prop) (E:Value->Shared->Prop),Q (.int (g i j) s.toks) { s with toks:=s.toks+1 }->wpAny (model X.prog X.w) X.A (f (.int i t) (.int j u)) Q E s) :
  OpR X f (rI0 λi j=>.int (g i j)):=by
 intro pins s σ H x y v u Q I rx ry h
 obtain⟨i,j,rfl,rfl,q⟩:=h
 obtain⟨t,rfl⟩:=rx
 obtain⟨t',rfl⟩:=ry
 exact rule i j t t' s _ _ ⟨.int (g i j),H,I.tok _,⟨_,rfl⟩,q⟩
theorem opB0{f:Value->Value->Sem Value}{g:Int->Int->Bool}
  (rule:∀(i j:Int) (t u:Tok) (s:Shared) (Q:Value->Shared->Prop) (E:Value->Shared->Prop),Q (.bool (g i j)) s->wpAny (model X.prog X.w) X.A (f (.int i t) (.int j u)) Q E s) :
  OpR X f (rI0 λi j=>.bl (g i j)):=by
 intro pins s σ H x y v u Q I rx ry h
 obtain⟨i,j,rfl,rfl,q⟩:=h
 obtain⟨t,rfl⟩:=rx
 obtain⟨t',rfl⟩:=ry
 exact rule i j t t' s _ _ ⟨.bl (g i j),H,I,rfl,q⟩
def CDiv(i j:Int):Prop:=0<j/\j<1073741824
def CPow(i j:Int):Prop:=0<=j/\j<=1000000/\i.natAbs<2 ^ 64
def CMul(i j:Int):Prop:=(-(2 ^ 64)<i/\i<2 ^ 64)\/(-(2 ^ 64)<j/\j<2 ^ 64)
theorem CMul.ok{i j:Int}(h:CMul i j):IntMulOk i j:=by
 rcases h with ⟨h1,h2⟩|⟨h1,h2⟩
 ·exact .of_left (intBits_le_64 h1 h2)
 ·exact .of_right (intBits_le_64 h1 h2)
theorem op_add:OpR X (binaryOp .Add) (rI0 λi j=>.int (i+j)):=opI0 λ_ _ _ _ _ _ _ q=>add_int q
theorem q0c:OpR X (binaryOp .Sub) (rI0 λi j=>.int (i-j)):=opI0 λ_ _ _ _ _ _ _ q=>sub_int q
theorem qz9:OpR X (binaryOp .Mult) (rI CMul λi j=>.int (i*j)):=opI λ_ _ _ _ _ _ _ hc q=>mul_int q hc.ok
theorem qw0:OpR X (binaryOp .FloorDiv) (rI CDiv λi j=>.int (i / j)):=opI λi j _ _ _ _ _ hc q=>by
 have h1:(0:Int)<j:=hc.1
 have h2:j<1073741824:=hc.2
 exact floordiv_int (by lia) (by rw[Int.fdiv_eq_ediv_of_nonneg i (by lia)];exact q) (.inl (PyProof.noPylong_small (by lia)))
theorem qz8:OpR X (binaryOp .Mod) (rI (λ_ j=>0<j) λi j=>.int (i%j)):=opI λi j _ _ _ _ _ hc q=>by
 have h1:(0:Int)<j:=hc
 exact mod_int' (by lia) (by rw[Int.fmod_eq_emod_of_nonneg i (by lia)];exact q)
theorem q0b:OpR X (binaryOp .Pow) (rI CPow λi j=>.int (i ^ j.toNat)):=opI λ_ _ _ _ _ _ _ hc q=>pow_int_small hc.1 hc.2.1 hc.2.2 q
theorem unI{f:Value->Sem Value}{g:Int->Int}
  (rule:∀(i:Int) (t:Tok) (s:Shared) (Q:Value->Shared->Prop) (E:Value->Shared->Prop),Q (.int (g i) s.toks) { s with toks:=s.toks+1 }->wpAny (model X.prog X.w) X.A (f (.int i t)) Q E s) :
  UnR X f (rU λi=>.int (g i)):=by
 intro pins s σ H x v Q I rx h
 obtain⟨i,rfl,q⟩:=h
 obtain⟨t,rfl⟩:=rx
 exact rule i t s _ _ ⟨.int (g i),H,I.tok _,⟨_,rfl⟩,q⟩
theorem q11:UnR X (unaryOp .USub) (rU λi=>.int (-i)):=unI λ_ _ _ _ _ q=>neg_int q
end
def scal:V->V->Bool
|.non,.non=>true|.non,.int _=>true|.int _,.non=>true|.non,.bl _=>true|.bl _,.non=>true|.non,.str _=>true|.str _,.non=>true
|.int _,.int _=>true|.bl _,.bl _=>true|.str _,.str _=>true|.byt _,.byt _=>true
|.int _,.str _=>true|.str _,.int _=>true|.bl _,.str _=>true|.str _,.bl _=>true
|_,_=>false
def rEq:R2:=λx y H Q=>scal x y=true/\Q (.bl (decide (x=y))) H
def rNe:R2:=λx y H Q=>scal x y=true/\Q (.bl (!decide (x=y))) H
theorem qqb{i j:Int}:decide (V.int i=V.int j)=(i==j):=by
 rw[Bool.eq_iff_iff]
 simp
theorem qu3{i j:Bool}:decide (V.bl i=V.bl j)=(i==j):=by
 rw[Bool.eq_iff_iff]
 simp
theorem qqc{i j:Str}:decide (V.str i=V.str j)=(i==j):=by
 rw[Bool.eq_iff_iff]
 simp
theorem qqa{i j:Array UInt8}:decide (V.byt i=V.byt j)=(i.toList==j.toList):=by
 rw[Bool.eq_iff_iff]
 cases i
 cases j
 simp
section
variable {X:Cx} {a b c:Expr} {ta tb tc:TE} {pos:Pos}
theorem qa5{pins:List (Addr×Obj)}{σ:St}{H:Hp}{s:Shared}{Q:VK}{k k':Bool}(I:Inv X pins σ H s)(q:Q (.bl k) H)(e:k=k'):EP X pins σ Q (.bool k') s:=by
 subst e
 exact⟨.bl k,H,I,rfl,q⟩
theorem q2h:OpR X (compareOp .Eq) rEq:=by
 intro pins s σ H x y v u Q I rx ry h
 obtain⟨hs,q⟩:=h
 cases x with
|non =>
  cases rx
  cases y with
 |non=>cases ry;exact PySem.EqNone.eq_none_none (qa5 I q (by simp))
 |bl j=>cases ry;exact PySem.EqNone.eq_none_bool (qa5 I q (by simp))
 |int j=>obtain⟨t',rfl⟩:=ry;exact PySem.EqNone.eq_none_int (qa5 I q (by simp))
 |str j=>obtain⟨t',rfl⟩:=ry;exact PySem.EqNone.eq_none_str (qa5 I q (by simp))
 |_=>exact absurd (show false=true from hs) Bool.false_ne_true
|bl i =>
  cases rx
  cases y with
 |non=>cases ry;exact PySem.EqNone.eq_bool_none (qa5 I q (by simp))
 |bl j=>cases ry;exact eq_bool (qa5 I q qu3)
 |str j=>obtain⟨t',rfl⟩:=ry;exact PySem.EqMixed.eq_bool_str (qa5 I q (by simp))
 |_=>exact absurd (show false=true from hs) Bool.false_ne_true
|int i =>
  obtain⟨t,rfl⟩:=rx
  cases y with
 |non=>cases ry;exact PySem.EqNone.eq_int_none (qa5 I q (by simp))
 |int j=>obtain⟨t',rfl⟩:=ry;exact eq_int (qa5 I q qqb)
 |str j=>obtain⟨t',rfl⟩:=ry;exact PySem.EqMixed.eq_int_str (qa5 I q (by simp))
 |_=>exact absurd (show false=true from hs) Bool.false_ne_true
|str i =>
  obtain⟨t,rfl⟩:=rx
  cases y with
 |non=>cases ry;exact PySem.EqNone.eq_str_none (qa5 I q (by simp))
 |bl j=>cases ry;exact PySem.EqMixed.eq_str_bool (qa5 I q (by simp))
 |int j=>obtain⟨t',rfl⟩:=ry;exact PySem.EqMixed.eq_str_int (qa5 I q (by simp))
 |str j=>obtain⟨t',rfl⟩:=ry;exact eq_str (qa5 I q qqc)
 |_=>exact absurd (show false=true from hs) Bool.false_ne_true
|byt i =>
  obtain⟨t,rfl⟩:=rx
  cases y with
 |byt j=>obtain⟨t',rfl⟩:=ry;exact PySem.W.eq_bytes (qa5 I q qqa)
 |_=>exact absurd (show false=true from hs) Bool.false_ne_true
|_=>cases y<;>exact absurd (show false=true from hs) Bool.false_ne_true
theorem q2l:OpR X (compareOp .NotEq) rNe:=by
 intro pins s σ H x y v u Q I rx ry h
 obtain⟨hs,q⟩:=h
 cases x with
|non =>
  cases rx
  cases y with
 |non=>cases ry;exact PySem.EqNone.ne_none_none (qa5 I q (by simp))
 |bl j=>cases ry;exact PySem.EqNone.ne_none_bool (qa5 I q (by simp))
 |int j=>obtain⟨t',rfl⟩:=ry;exact PySem.EqNone.ne_none_int (qa5 I q (by simp))
 |str j=>obtain⟨t',rfl⟩:=ry;exact PySem.EqNone.ne_none_str (qa5 I q (by simp))
 |_=>exact absurd (show false=true from hs) Bool.false_ne_true
|bl i =>
  cases rx
  cases y with
 |non=>cases ry;exact PySem.EqNone.ne_bool_none (qa5 I q (by simp))
 |bl j=>cases ry;exact ne_bool (qa5 I q (congrArg not qu3))
 |str j=>obtain⟨t',rfl⟩:=ry;exact PySem.EqMixed.ne_bool_str (qa5 I q (by simp))
 |_=>exact absurd (show false=true from hs) Bool.false_ne_true
|int i =>
  obtain⟨t,rfl⟩:=rx
  cases y with
 |non=>cases ry;exact PySem.EqNone.ne_int_none (qa5 I q (by simp))
 |int j=>obtain⟨t',rfl⟩:=ry;exact ne_int (qa5 I q (congrArg not qqb))
 |str j=>obtain⟨t',rfl⟩:=ry;exact PySem.EqMixed.ne_int_str (qa5 I q (by simp))
 |_=>exact absurd (show false=true from hs) Bool.false_ne_true
|str i =>
  obtain⟨t,rfl⟩:=rx
  cases y with
 |non=>cases ry;exact PySem.EqNone.ne_str_none (qa5 I q (by simp))
 |bl j=>cases ry;exact PySem.EqMixed.ne_str_bool (qa5 I q (by simp))
 |int j=>obtain⟨t',rfl⟩:=ry;exact PySem.EqMixed.ne_str_int (qa5 I q (by simp))
 |str j=>obtain⟨t',rfl⟩:=ry;exact ne_str (qa5 I q (congrArg not qqc))
 |_=>exact absurd (show false=true from hs) Bool.false_ne_true
|byt i =>
  obtain⟨t,rfl⟩:=rx
  cases y with
 |byt j=>obtain⟨t',rfl⟩:=ry;exact PySem.W.ne_bytes (qa5 I q (congrArg not qqa))
 |_=>exact absurd (show false=true from hs) Bool.false_ne_true
|_=>cases y<;>exact absurd (show false=true from hs) Bool.false_ne_true
theorem q2k:OpR X (compareOp .Lt) (rI0 λi j=>.bl (decide (i<j))):=opB0 λ_ _ _ _ _ _ _ q=>lt_int q
theorem q2j:OpR X (compareOp .LtE) (rI0 λi j=>.bl (decide (i<=j))):=opB0 λ_ _ _ _ _ _ _ q=>le_int q
theorem q2i:OpR X (compareOp .Gt) (rI0 λi j=>.bl (decide (j<i))):=opB0 λ_ _ _ _ _ _ _ q=>gt_int q
theorem op_in_str:OpR X (compareOp .In) (λx y H Q=>∃i j,x=.str i/\y=.str j/\Q (.bl (!(Builtin.Str.occurrences j i 0 j.length 1).isEmpty)) H):=by
 intro pins s σ H x y v u Q I rx ry h
 obtain⟨i,j,rfl,rfl,q⟩:=h
 obtain⟨t,rfl⟩:=rx
 obtain⟨t',rfl⟩:=ry
 exact in_str (qa5 I q rfl)
theorem qz7:OpR X (compareOp .Is) (λx y H Q=>y=.non/\Q (.bl (decide (x=.non))) H):=by
 intro pins s σ H x y v u Q I rx ry h
 obtain⟨rfl,q⟩:=h
 cases ry
 refine is_none_gen (qa5 I q ?_)
 cases x<;>first
 |(cases rx;rfl)
 |(obtain⟨t,rfl⟩:=rx;rfl)
theorem qw1:OpR X (compareOp .IsNot) (λx y H Q=>y=.non/\Q (.bl (!decide (x=.non))) H):=by
 intro pins s σ H x y v u Q I rx ry h
 obtain⟨rfl,q⟩:=h
 cases ry
 refine isnot_none_gen (qa5 I q ?_)
 cases x<;>first
 |(cases rx;rfl)
 |(obtain⟨t,rfl⟩:=rx;rfl)
theorem OpR.or{f:Value->Value->Sem Value}{r r':R2}(h:OpR X f r)(h':OpR X f r'):OpR X f (λx y H Q=>r x y H Q\/r' x y H Q):=by
 intro pins s σ H x y v u Q I rx ry q
 rcases q with q|q
 ·exact h pins s σ H x y v u Q I rx ry q
 ·exact h' pins s σ H x y v u Q I rx ry q
theorem qw9{op:CmpOp}{r:R2}(ho:OpR X (compareOp op) r)(ha:PE X a ta)(hb:PE X b tb)(hm:behindInMarks op b=false):PE X (.Compare a [op] [b] pos) (tOp r ta tb):=by
 intro pins s σ H Q I h
 exact wpAny_Compare1 (binT ha hb I h λv u s2 x y H2 I2 rx ry q=>ho pins s2 σ H2 x y v u Q I2 rx ry q) hm
def qum(t:TE):TT:=λσ H Q=>t σ H λx H'=>∃k,x=.bl k/\Q k H'
theorem qxn{op:CmpOp}{r:R2}(ho:OpR X (compareOp op) r)(ha:PE X a ta)(hb:PE X b tb)(hm:behindInMarks op b=false):PT X (.Compare a [op] [b] pos) (qum (tOp r ta tb)):=by
 intro pins s σ H Q I h
 refine wpAny_isTrue_Compare1 (thn (ha pins s σ H _ I h) λv s1 ⟨x,H1,I1,r1,q1⟩=>thn (hb pins s1 σ H1 _ I1 q1) λu s2 ⟨y,H2,I2,r2,q2⟩ =>
  thn (ho pins s2 σ H2 x y v u _ I2 r1 r2 q2) λc s3 ⟨z,H3,I3,r3,k,e,q3⟩=>?_) hm
 subst e
 cases r3
 exact wpAny_truthy_bool ⟨H3,I3,q3⟩
def qr2(r r':R2)(ta tb tc:TE):TE:=λσ H Q=>ta σ H λx H1=>tb σ H1 λy H2=>r x y H2 λz H3=>∃k,z=.bl k /\
 (if k=true then tc σ H3 λw' H4=>r' y w' H4 Q else Q (.bl false) H3)
theorem qtz{op op':CmpOp}{r r':R2}(ho:OpR X (compareOp op) r)(ho':OpR X (compareOp op') r')(ha:PE X a ta)(hb:PE X b tb)(hc:PE X c tc)
  (hm:lastMarks [op,op'] [b,c]=false:=by with_unfolding_all rfl):PT X (.Compare a [op,op'] [b,c] pos) (qum (qr2 r r' ta tb tc)):=by
 intro pins s σ H Q I h
 refine isTrue_chain (thn (ha pins s σ H _ I h) λv s1 ⟨x,H1,I1,r1,q1⟩=>test_link (thn (hb pins s1 σ H1 _ I1 q1) λu s2 ⟨y,H2,I2,r2,q2⟩ =>
  thn (ho pins s2 σ H2 x y v u _ I2 r1 r2 q2) λd s3 ⟨z,H3,I3,r3,k,e,q3⟩=>?_)) hm
 subst e
 cases r3
 refine wpAny_truthy_bool ?_
 cases k with
|false =>
  obtain⟨k',e',q'⟩:=q3
  cases e'
  exact ite_ff ⟨H3,I3,q'⟩
|true =>
  refine ite_tt (test_last (thn (hc pins s3 σ H3 _ I3 q3) λw' s4 ⟨z',H4,I4,r4,q4⟩=>thn (ho' pins s4 σ H4 y z' u w' _ I4 r2 r4 q4) λd' s5 ⟨z2,H5,I5,r5,k2,e2,q5⟩=>?_))
  subst e2
  cases r5
  exact wpAny_truthy_bool ⟨H5,I5,q5⟩
theorem qkj:(sizeLine:Nat)<2 ^ 63:=by rw[sizeLine_eq];decide
theorem op_add_str:OpR X (binaryOp .Add) (λx y H Q=>∃i j,x=.str i/\y=.str j/\i.length+j.length<=sizeLine/\Q (.str (i++j)) H):=by
 intro pins s σ H x y v u Q I rx ry h
 obtain⟨i,j,rfl,rfl,hz,q⟩:=h
 obtain⟨t,rfl⟩:=rx
 obtain⟨t',rfl⟩:=ry
 exact add_str (λt' tk=>⟨.str (i++j),H,I.tok _,⟨_,rfl⟩,q⟩) hz
theorem vals1{x:V}{us:List Value}(r:Vals [x] us):∃u,us=[u]/\RelV x u:=by
 cases r with
|cons r1 r2=>cases r2;exact⟨_,rfl,r1⟩
theorem vals2{x y:V}{us:List Value}(r:Vals [x,y] us):∃u w',us=[u,w']/\RelV x u/\RelV y w':=by
 cases r with
|cons r1 r2 =>
  cases r2 with
 |cons r3 r4=>cases r4;exact⟨_,_,rfl,r1,r3⟩
end
end L2
namespace L2
open PySem PySem.Spec PyProof.Rows
structure ObjM(h:Heap)(x dx C:Addr)(mA:Str->Option Value):Prop where
 obj:h.get? x=some (PySem.W.instObj C dx)
 ns:h.Ns1 dx mA
 ne:dx≠x
theorem qq1{h:Heap}{dx:Addr}{mA:Str->Option Value}(n:h.Ns1 dx mA):∃od,h.get? dx=some od/\∀name,PySem.W.lookIn name od=some (mA name):=by
 obtain⟨o,es,ep,ho,hd,hk,_,hm⟩:=n
 refine⟨o,ho,λname=>?_⟩
 have e:=hm name
 unfold nsFind findBy at e
 rw[←Array.find?_toList] at e
 unfold PySem.W.lookIn
 rw[hd]
 dsimp only
 split
 ·rename_i y q
  rw[q] at e
  exact congrArg some e
 ·rename_i q
  rw[q] at e
  have a:es.toList.any (·.refKey)=false:=by
   rw[List.any_eq_false]
   intro y hy
   obtain⟨z,t,hkey⟩:=hk y (Array.mem_toList_iff.mp hy)
   simp[DictEntry.refKey,hkey]
  have a':¬ es.toList.any (·.refKey)=true:=by rw[a];exact Bool.false_ne_true
  rw[if_neg a']
  exact congrArg some e
theorem ObjM.look{h:Heap}{x dx C:Addr}{mA:Str->Option Value}(I:ObjM h x dx C mA):∃od,PySem.W.InstAt h x (PySem.W.instObj C dx) C (some od)/\∀name,PySem.W.lookIn name od=some (mA name) :=
 let ⟨od,ho,hl⟩:=qq1 I.ns
 ⟨od,⟨I.obj,rfl,rfl,ho⟩,hl⟩
section
variable {prog:Program} {w:World} {A:Around} {E:Value->Shared->Prop} {s:Shared} {K:PySem.W.Frag} {x dx C f:Addr} {mA:Str->Option Value} {name:Str} {v:Value}
end
theorem RelO.some_of{v:V}{o:Option Value}(r:RelO (some v) o):∃u,o=some u/\RelV v u:=by
 cases o with
|none=>exact(show False from r).elim
|some u=>exact⟨u,rfl,r⟩
section
variable {P:Program} {w:World} {H H':Hp} {h h':Heap} {a C dx:Addr} {fs fs':List (Str×V)}
theorem qwg(hok:HOk P w H h)(e:H a=some (.ins C dx fs)):∃mA,ObjM h a dx C mA/\(∀f,RelO (fs.lookup f) (mA f))/\PySem.Within mA (fs.map (·.1))/\fs.length<=1000/\H dx=some (.own a):=by
 obtain⟨d,z,ne,ob,mA,n,r,q⟩:=(show ObjOk P w H h a (.ins C dx fs) from hok a _ e)
 exact⟨mA,⟨ob,n,ne⟩,r,q,z,d⟩
end
structure Cls(K:PySem.W.Frag)(C:Addr):Prop where
 pg:PySem.W.plainGet K C Str.empty=true
 hd:PySem.W.hasDictIn K C=true
 po:PySem.W.plainOver K C=true
 sa:PySem.W.findIn K (.ref C) "__setattr__" = some (some (.builtin "object.__setattr__"))
theorem Cls.get{K:PySem.W.Frag}{C:Addr}(c:Cls K C)(f:Str):PySem.W.plainGet K C f=true:=c.pg
structure Con(K:PySem.W.Frag)(C:Addr)(f:Str)(v:V)(u:Value):Prop where
 at_:PySem.W.findIn K (.ref C) f=some (some u)
 rel:RelV v u
 get:PySem.W.specialIn K u "__get__" = some none
 cp:PySem.W.copiedNames.contains f=false
structure Meth(K:PySem.W.Frag)(C:Addr)(m:Str)(f:Addr):Prop where
 at_:PySem.W.findIn K (.ref C) m=some (some (.ref f))
 fn:PySem.W.isFn K (.ref f)=true
 kp:PySem.W.keepIn K (.ref f)=true
section
variable {X:Cx} {pins:List (Addr×Obj)} {σ:St} {H:Hp} {s:Shared} {a C dx:Addr} {fs:List (Str×V)} {f:Str} {v:V} {A:Around} {E:Value->Shared->Prop}
end
section
variable {X:Cx} {o e value:Expr} {f:Str} {pos pos' tpos:Pos} {ta tv:TE}
end
section
variable {X:Cx} {pins:List (Addr×Obj)} {σ:St} {H:Hp} {s:Shared} {A:Around} {E:Value->Shared->Prop} {Q:Value->Shared->Prop} {c:Value} {b:Bool}
inductive TyOf(K:PySem.W.Frag)(H:Hp):V->Value->Prop where
|non:TyOf K H .non (.type "NoneType")
|bl (x:Bool):TyOf K H (.bl x) (.type "bool")
|int (i:Int):TyOf K H (.int i) (.type "int")
|str (x:Str):TyOf K H (.str x) (.type "str")
|flt (x:UInt64):TyOf K H (.flt x) (.type "float")
|lst {a:Addr} {xs:List V} (e:H a=some (.lst xs)):TyOf K H (.ref a) (.type "list")
|frz {a:Addr} {o:Obj} {xs:List V} (e:H a=some (.frz o (.lst xs))):TyOf K H (.ref a) (.type "list")
|tup {a:Addr} {xs:List V} (e:H a=some (.tup xs)):TyOf K H (.ref a) (.type "tuple")
|dK {a:Addr} {kvs:List (Key×V)} (e:H a=some (.dK kvs)):TyOf K H (.ref a) (.type "dict")
|dT {a:Addr} {kvs:List (List Key×V)} (e:H a=some (.dT kvs)):TyOf K H (.ref a) (.type "dict")
|ins {a C dx:Addr} {fs:List (Str×V)} (e:H a=some (.ins C dx fs)) (cl:Cls K C) (ha:PySem.W.findIn K (.ref C) "__class__" = some (some (.builtin "object.__class__")))
   (hn:PySem.W.specialIn K (.builtin "object.__class__") "__get__" = some (some (.builtin "getset_descriptor.__get__"))) (htk:PySem.W.takesIn K (.builtin "object.__class__")=some true)
   (hm:PySem.W.mroIn K C (.type "object")=some true):TyOf K H (.ref a) (.ref C)
theorem qev{x:V}{u t:Value}(I:Inv X pins σ H s)(rx:RelV x u)(ty:TyOf X.K H x t)(e:PySem.W.kitOne X.K t c=some b)(h:∀tk,Q (.bool b) { s with toks:=tk }) :
  wpAny (model X.prog X.w) A (call (.builtin "isinstance") [u,c]) Q E s:=by
 cases ty with
|non=>cases (show u=Value.none from rx);exact PySem.W.kia_one PySem.W.kitx_none I.kIn True.intro e (λz=>nomatch z) h
|bl y=>cases (show u=Value.bool y from rx);exact PySem.W.kia_one PySem.W.kitx_bool I.kIn True.intro e (λz=>nomatch z) h
|int i=>obtain⟨t,q⟩:=(show ∃t,u=Value.int i t from rx);cases q;exact PySem.W.kia_one PySem.W.kitx_int I.kIn True.intro e (λz=>nomatch z) h
|str y=>obtain⟨t,q⟩:=(show ∃t,u=Value.str y t from rx);cases q;exact PySem.W.kia_one PySem.W.kitx_str I.kIn True.intro e (λz=>nomatch z) h
|flt y=>obtain⟨t,q⟩:=(show ∃t,u=Value.float y t from rx);cases q;exact PySem.W.kia_one PySem.W.kitx_float I.kIn True.intro e (λz=>nomatch z) h
|@lst a xs ea =>
  cases (show u=Value.ref a from rx)
  obtain⟨_,_,n,_,h1⟩:=(show ObjOk X.prog X.w H s.heap a (.lst xs) from I.hok a _ ea)
  exact PySem.W.kia_one PySem.W.kitx_list I.kIn ⟨_,h1,rfl⟩ e (λz=>nomatch z) h
|@frz a ob xs ea =>
  cases (show u=Value.ref a from rx)
  obtain⟨_,_,_,n,_,h1⟩:=(show ObjOk X.prog X.w H s.heap a (.frz ob (.lst xs)) from I.hok a _ ea)
  exact PySem.W.kia_one PySem.W.kitx_list I.kIn ⟨_,h1,rfl⟩ e (λz=>nomatch z) h
|@tup a xs ea =>
  cases (show u=Value.ref a from rx)
  obtain⟨_,_,_,p⟩:=(show ObjOk X.prog X.w H s.heap a (.tup xs) from I.hok a _ ea)
  obtain⟨o,h1,h2,_⟩:=p
  exact PySem.W.kia_one PySem.W.kitx_tuple I.kIn ⟨o,h1,h2⟩ e (λz=>nomatch z) h
|@dK a kvs ea =>
  cases (show u=Value.ref a from rx)
  obtain⟨_,_,vs,_,p⟩:=(show ObjOk X.prog X.w H s.heap a (.dK kvs) from I.hok a _ ea)
  obtain⟨o,es,ep,h1,h2,_⟩:=p
  exact PySem.W.kia_one PySem.W.kitx_dict I.kIn ⟨o,h1,h2.1⟩ e (λz=>nomatch z) h
|@dT a kvs ea =>
  cases (show u=Value.ref a from rx)
  obtain⟨_,_,xs,_,o,es,ep,h1,h2,_⟩:=(show ObjOk X.prog X.w H s.heap a (.dT kvs) from I.hok a _ ea)
  exact PySem.W.kia_one PySem.W.kitx_dict I.kIn ⟨o,h1,h2.1⟩ e (λz=>nomatch z) h
|@ins a C dx fs ea cl ha hn htk hm =>
  cases (show u=Value.ref a from rx)
  obtain⟨mA,O,_⟩:=qwg I.hok ea
  obtain⟨od,J,_⟩:=O.look
  exact PySem.W.kia_one (PySem.W.kitx_own (cl.get _) cl.hd ha hn htk hm) I.kIn J e (λz=>nomatch z) h
end
end L2
namespace L2
open PySem PySem.Spec PyProof.Rows
structure Room(k:Nat)(A:Around):Prop where
 hd:A.handled=none
 dp:A.depth+3*k+5<recursionLimit
 un:A.units+16*k+200<cLine
theorem Room.mono{j k:Nat}{A:Around}(r:Room k A)(h:j<=k):Room j A:=⟨r.hd,by have:=r.dp;lia,by have:=r.un;lia⟩
theorem Room.deeper{k:Nat}{A:Around}(r:Room (k+1) A)(env:Env):Room k (A.deeper env) :=
 ⟨r.hd,by have:=r.dp;show A.depth+1+3*k+5<_;lia,by have:=r.un;show A.units+3+16*k+200<_;lia⟩
theorem Room.depth{k:Nat}{A:Around}(r:Room k A):A.depth<recursionLimit:=by have:=r.dp;lia
theorem Room.units{k:Nat}{A:Around}(r:Room k A):A.units+64<cLine:=by have:=r.un;lia
def tNil:TA:=λ_ H Q=>Q [] H
def qul(ta:TE)(tr:TA):TA:=λσ H Q=>ta σ H λx H1=>tr σ H1 λxs H2=>Q (x::xs) H2
section
variable {X:Cx} {e:Expr} {es:List Expr} {te:TE} {t:TA} {pos:Pos}
theorem q0d:PA X [] tNil:=λ_ _ _ _ H Q I h=>Calls.spliced_nil ⟨[],H,I,.nil,h⟩
theorem qw5(ha:PE X e te)(hr:PA X es t)(hs:starEach (e::es) X.env=(false,eval e X.env)::starEach es X.env:=by rfl):PA X (e::es) (qul te t):=by
 intro pos pins s σ H Q I h
 rw[hs]
 show wpAny _ _ (spliced ((false,eval e X.env)::backTo pos (starEach es X.env))) _ _ s
 refine Calls.spliced_cons (thn (ha pins s σ H _ I h) λu s1 ⟨x,H1,I1,r1,q1⟩=>?_)
 exact thn (hr pos pins s1 σ H1 _ I1 q1) λus s2 ⟨xs,H2,I2,r2,q2⟩=>⟨x::xs,H2,I2,.cons r1 r2,q2⟩
def tTup(t:TA):TE:=λσ H Q=>t σ H λxs H1=>xs.length<=sizeLine/\∀p,H1 p=none->Q (.ref p) (upd H1 p (.tup xs))
def tLst(t:TA):TE:=λσ H Q=>t σ H λxs H1=>xs.length<=sizeLine/\∀p,H1 p=none->Q (.ref p) (upd H1 p (.lst xs))
theorem q0o{x1}(h:PA X es t):PE X (.Tuple es x1 pos) (tTup t):=by
 intro pins s σ H Q I hq
 refine wpAny_Tuple_spliced (thn (h pos pins s σ H _ I hq) λus s1 ⟨xs,H1,I1,r,z,q⟩=>⟨by rw[←r.length];exact z,?_⟩)
 have hf:H1 s1.heap.objs.size=none:=I1.hok.fresh (Nat.le_refl _)
 refine⟨.ref s1.heap.objs.size,upd H1 s1.heap.objs.size (.tup xs),I1.laid (t':=s1.toks) (λb u e=>Heap.get?_push_of_some _ e) (Nat.le_refl _) ?_,rfl,q _ hf⟩
 exact⟨z,us,r,⟨_,Heap.get?_push_size _ rfl,rfl,_,rfl⟩⟩
theorem q0j(h:PA X es t):PE X (.List es pos) (tLst t):=by
 intro pins s σ H Q I hq
 refine wpAny_List_spliced (thn (h pos pins s σ H _ I hq) λus s1 ⟨xs,H1,I1,r,z,q⟩=>⟨by rw[←r.length];exact z,?_⟩)
 have hf:H1 s1.heap.objs.size=none:=I1.hok.fresh (Nat.le_refl _)
 refine⟨.ref s1.heap.objs.size,upd H1 s1.heap.objs.size (.lst xs),I1.laid (t':=s1.toks) (λb u e=>Heap.get?_push_of_some _ e) (Nat.le_refl _) ?_,rfl,q _ hf⟩
 exact⟨z,us,0,r,Heap.get?_push_size _ rfl⟩
end
abbrev Sp:=List V->Hp->VK->XK->Prop
abbrev CXT:=List Env->Hp->Shared->XK->Value->Shared->Prop
structure Env0(P:Program)(w:World)(K:PySem.W.Frag)(mg:Str->Option Value)(base:Heap)(A:Around)(outer:List Env)(s:Shared)(H:Hp):Prop where
 frames:A.frames=some outer
 mod:Mod K mg base
 bs:∀b o,base.get? b=some o->s.heap.get? b=some o/\H b=none
 bsz:base.objs.size<=s.heap.objs.size
 funs:s.heap.FunFrames base outer
 frf:∀b∈frs outer,H b=none
 hok:HOk P w H s.heap
 bare:AllBare s.gens
def CE(outer:List Env)(P:Program)(w:World)(H:Hp)(s:Shared)(Q:VK)(u:Value)(s':Shared):Prop :=
 ∃v H',s'.os=s.os/\AllBare s'.gens/\Un (frs outer) [] H H' s.heap s'.heap/\HOk P w H' s'.heap/\RelV v u/\Q v H'
def CR(CX:CXT)(outer:List Env)(P:Program)(w:World)(H:Hp)(s:Shared)(Q:VK)(E:XK)(r:Result)(s':Shared):Prop :=
 match r with
|.ok (.ret u)=>CE outer P w H s Q u s'
|.ok _=>False
|.error e=>CX outer H s E e s'
structure FnOk(P:Program)(w:World)(K:PySem.W.Frag)(mg:Str->Option Value)(base:Heap)(CX:CXT)(k:Nat)(f:Addr)(fd:FuncData)(ps:List Str)(sp:Sp):Prop where
 len:∀vs H Q E,sp vs H Q E->vs.length=ps.length
 run:∀(A:Around) (outer:List Env) (s:Shared) (H:Hp) (args:Args) (us:List Value) (vs:List V) (Q:VK) (E:XK),Room k A->Env0 P w K mg base A outer s H->BindsTo s fd args (ps.zip us)->Vals vs us->sp vs H Q E ->
  codeAny (model P w) A (.call (.ref f) args) (CR CX outer P w H s Q E) s
section
variable {X:Cx} {pins:List (Addr×Obj)} {σ:St} {H:Hp} {s s':Shared}
theorem Inv.env0(I:Inv X pins σ H s):Env0 X.prog X.w X.K X.mg X.base X.A X.stack s H :=
 ⟨I.ok.frames,I.ok.mod,I.bs,Nat.le_trans I.ok.bsz I.sz,I.stack,I.stkFree,I.hok,I.bare⟩
theorem Inv.after{Q:VK}{u:Value}(I:Inv X pins σ H s)(h:CE X.stack X.prog X.w H s Q u s'):EP X pins σ Q u s':=by
 obtain⟨v,H',os,bare,un,hok,r,q⟩:=h
 obtain⟨hh,g,d,t,os'⟩:=s'
 obtain rfl:os'=s.os:=os
 exact⟨v,H',I.call (h':=hh) (g':=g) (d':=d) (t':=t) (ch:=[]) un hok bare (λb z=>absurd z (by simp)),r,q⟩
end
def qyi(sp:Sp)(dvs:List V)(E:XK)(t:TA):TE:=λσ H Q=>t σ H λvs H1=>sp (vs++dvs) H1 Q E
def Binds(K:PySem.W.Frag)(fd:FuncData)(ps:List Str)(ds:List Value):Prop :=
 ∀(s:Shared) (us:List Value),K.In s.heap->(us++ds).length=ps.length->BindsTo s fd ⟨us,[]⟩ (ps.zip (us++ds))
theorem Binds.all{K:PySem.W.Frag}{fd:FuncData}{ps:List Str}(h:∀us:List Value,us.length=ps.length->bindArgs fd ⟨us,[]⟩=pure (ps.zip us)):Binds K fd ps []:=λs us _ hl=>by
 rw[List.append_nil] at hl ⊢
 exact .of_eq (h us hl)
def qpr(CX:CXT)(X:Cx)(E:XK):Prop:=∀(pins:List (Addr×Obj)) (σ:St) (H:Hp) (s:Shared) (e:Value) (s':Shared),Inv X pins σ H s->CX X.stack H s E e s'->X.xe e s'
section
variable {X:Cx} {CX:CXT} {k:Nat} {f C:Addr} {fd:FuncData} {ps:List Str} {sp:Sp} {dvs:List V} {ds:List Value} {E:XK} {x m:Str} {p pos apos:Pos} {e o:Expr} {es:List Expr} {ta:TE} {t:TA}
theorem q1p{pins:List (Addr×Obj)}{σ:St}{H:Hp}{s:Shared}{Q:VK}{us:List Value}{vs:List V}(F:FnOk X.prog X.w X.K X.mg X.base CX k f fd ps sp)(hr:Room k X.A)(hb:Binds X.K fd ps ds)(hd:Vals dvs ds)(hx:qpr CX X E)
  (I:Inv X pins σ H s) (r:Vals vs us) (h:sp (vs++dvs) H Q E):wpAny (model X.prog X.w) X.A (call (.ref f) us) (EP X pins σ Q) X.xe s:=by
 have r2:Vals (vs++dvs) (us++ds):=r.append hd
 have hl:(us++ds).length=ps.length:=by rw[←r2.length];exact F.len _ _ _ _ h
 refine wpAny_call (codeAny_mono (F.run X.A X.stack s H ⟨us,[]⟩ (us++ds) (vs++dvs) Q E hr I.env0 (hb s us I.kIn hl) r2 h) λr s' hq=>?_)
 cases r with
|error e=>exact hx pins σ H s e s' I hq
|ok fl =>
  cases fl with
 |ret u=>exact I.after hq
 |next=>exact False.elim hq
 |brk=>exact False.elim hq
 |cont=>exact False.elim hq
theorem qw8(F:FnOk X.prog X.w X.K X.mg X.base CX k f fd ps sp)(hr:Room k X.A)(hg:Gl X x)(hm:X.mg x=some (.ref f))(hk:PySem.W.keepIn X.K (.ref f)=true)(hb:Binds X.K fd ps ds)(hd:Vals dvs ds)(hx:qpr CX X E)
  (ha:PA X (e::es) t) (hdb:(x==("__debug__" : Str))=false:=by decide) (he:starEach (e::es) X.env=(false,eval e X.env)::starEach es X.env:=by rfl) (hpl:(backTo pos (starEach es X.env)).any (·.1)=false:=by rfl) :
  PE X (.Call (.Name x p) (e::es) [] pos) (qyi sp dvs E t):=by
 intro pins s σ H Q I h
 refine wpAny_Call_Name_kw (qwm I hg hm ?_ hdb)
 refine PySem.W.callWith_K (h₀:=X.base) I.ok.mod.kin hk (thn (ha pos pins s σ H _ I h) λus s1 ⟨vs,H1,I1,r,q⟩=>⟨I1.kIn,?_⟩) he hpl
 exact q1p F hr hb hd hx I1 r q
structure Mk(K:PySem.W.Frag)(C f:Addr):Prop where
 makes:PySem.W.makesIn K C=true
 init:PySem.W.findIn K (.ref C) "__init__" = some (some (.ref f))
 fn:PySem.W.isFn K (.ref f)=true
 kp:PySem.W.keepIn K (.ref C)=true
end
section
variable {X:Cx} {CX:CXT} {k:Nat} {f C:Addr} {fd:FuncData} {ps ks:List Str} {sp:Sp} {E:XK} {x m:Str} {p pos apos kpos:Pos} {e o:Expr} {es:List Expr} {kws:List Keyword} {te ta:TE} {t tk:TA} {nm:Option Str}
structure KBinds(K:PySem.W.Frag)(fd:FuncData)(ps ks:List Str)(g:List Value->List Value->List Value)(gV:List V->List V->List V):Prop where
 to:∀(s:Shared) (us ws:List Value),K.In s.heap->(g us ws).length=ps.length->BindsTo s fd ⟨us,ks.zip ws⟩ (ps.zip (g us ws))
 rel:∀ {vs:List V} {us:List Value} {zs:List V} {ws:List Value},Vals vs us->Vals zs ws->Vals (gV vs zs) (g us ws)
variable {g:List Value->List Value->List Value} {gV:List V->List V->List V}
end
structure FnScope(N P:List Str)(sc:Scope):Prop where
 kind:sc.kind=.function
 co:sc.isCoroutine=false
 gen:sc.isGenerator=false
 nd:N.Nodup
 pre:N.take P.length=P
 par:∀x∈P,sc.names.lookup x=some .local\/sc.names.lookup x=some .cell
 nofree:∀y∈sc.names,y.2≠.free
theorem qj2{kindOf:Str->Option NameKind}{x:Str}:∀ {binds:List (Str×Value)} {m:Str->Option Value},(∀v,(x,v)∉binds)->bindL kindOf binds m x=m x
|[],_,_=>rfl
|(n,v)::r,m,h=>by
  unfold bindL
  rw[qj2 λw hw=>h w (List.mem_cons_of_mem _ hw)]
  split
  ·have:x≠n:=by rintro rfl;exact h v List.mem_cons_self
   simp[this]
  ·rfl
theorem qj0{kindOf:Str->Option NameKind}{x:Str}:∀ {binds:List (Str×Value)} {m:Str->Option Value},(∀v,(x,v)∉binds)->bindC kindOf binds m x=m x
|[],_,_=>rfl
|(n,v)::r,m,h=>by
  unfold bindC
  rw[qj0 λw hw=>h w (List.mem_cons_of_mem _ hw)]
  split
  ·rfl
  ·have:x≠n:=by rintro rfl;exact h v List.mem_cons_self
   simp[this]
theorem qj1{kindOf:Str->Option NameKind}{x:Str}{v:Value}:∀ {P:List Str} {vs:List Value} {i:Nat} {m:Str->Option Value},P.Nodup->P[i]?=some x->vs[i]?=some v->kindOf x=some .local ->
  bindL kindOf (P.zip vs) m x=some v
|[],_,_,_,_,h,_,_=>by simp at h
|_::_,[],_,_,_,_,h,_=>by simp at h
|p::P,w::vs,0,m,nd,h1,h2,hk=>by
  simp at h1 h2;subst h1;subst h2
  show bindL kindOf ((p,w)::P.zip vs) m p=_
  unfold bindL
  rw[qj2 λv hv=>(List.nodup_cons.mp nd).1 (List.of_mem_zip hv).1,if_pos hk]
  simp
|p::P,w::vs,i+1,m,nd,h1,h2,hk=>by
  show bindL kindOf ((p,w)::P.zip vs) m x=_
  unfold bindL
  exact qj1 (i:=i) (List.nodup_cons.mp nd).2 (by simpa using h1) (by simpa using h2) hk
theorem qjz{kindOf:Str->Option NameKind}{x:Str}{v:Value}:∀ {P:List Str} {vs:List Value} {i:Nat} {m:Str->Option Value},P.Nodup->P[i]?=some x->vs[i]?=some v->kindOf x≠some .local ->
  bindC kindOf (P.zip vs) m x=some v
|[],_,_,_,_,h,_,_=>by simp at h
|_::_,[],_,_,_,_,h,_=>by simp at h
|p::P,w::vs,0,m,nd,h1,h2,hk=>by
  simp at h1 h2;subst h1;subst h2
  show bindC kindOf ((p,w)::P.zip vs) m p=_
  unfold bindC
  rw[qj0 λv hv=>(List.nodup_cons.mp nd).1 (List.of_mem_zip hv).1,if_neg hk]
  simp
|p::P,w::vs,i+1,m,nd,h1,h2,hk=>by
  show bindC kindOf ((p,w)::P.zip vs) m x=_
  unfold bindC
  exact qjz (i:=i) (List.nodup_cons.mp nd).2 (by simpa using h1) (by simpa using h2) hk
def start(N:List Str)(vs:List V):St:=vs.map some++List.replicate (N.length-vs.length) none
def cxOf(CX:CXT)(P:Program)(w:World)(K:PySem.W.Frag)(mg:Str->Option Value)(base:Heap)(N:List Str)(qual:Str)(scope:Scope)(f:Addr)(cd:Value)(A:Around)(outer:List Env)(s:Shared)(H:Hp)(E:XK):Cx where
 prog:=P
 w:=w
 K:=K
 mg:=mg
 base:=base
 A:=A.deeper (envOfC qual scope s.heap.objs.size f cd)
 N:=N
 s₀:=s
 H₀:=H
 env:=envOfC qual scope s.heap.objs.size f cd
 outer:=outer
 stack:=envOfC qual scope s.heap.objs.size f cd::outer
 ex:=[]
 calm:=true
 fn:=λ_=>true
 pn:=[]
 xe:=λe s'=>wpAny (model P w) (A.deeper (envOfC qual scope s.heap.objs.size f cd)) (leaving (envOfC qual scope s.heap.objs.size f cd) e) (λ_ s''=>CX outer H s E e s'') (λe' s''=>CX outer H s E e' s'') s'
theorem qna{sc:Scope}{n:Nat}{x:Str}(h:sc.names.lookup x=some .cell):∃c,(cellsFrom n sc.names []).lookup x=some c:=by
 have q:=PySem.W.cellsFrom_some sc.names n [] (.inl h)
 exact Option.isSome_iff_exists.mp q
theorem qqr{CX:CXT}{P:Program}{w:World}{K:PySem.W.Frag}{mg:Str->Option Value}{base:Heap}{N ps:List Str}{qual:Str}{scope:Scope}{f:Addr}{cd:Value}{A:Around}{outer:List Env}{s s1:Shared}{H:Hp}{E:XK}{us:List Value}{vs:List V}
  (S:FnScope N ps scope) (hd:A.handled=none) (e0:Env0 P w K mg base A outer s H) (hl:vs.length=ps.length) (r:Vals vs us)
  (x:InCallC s s.heap.objs.size (bindL (envOfC qual scope s.heap.objs.size f cd).kindOf (ps.zip us) λ_=>none) (cellsFrom (s.heap.objs.size+1) scope.names []) (bindC (envOfC qual scope s.heap.objs.size f cd).kindOf (ps.zip us) λ_=>none) s1) :
  Inv (cxOf CX P w K mg base N qual scope f cd A outer s H E) [] (start N vs) H s1:=by
 have hpl:ps.length<=N.length:=by have:=congrArg List.length S.pre;rw[List.length_take] at this;lia
 obtain⟨h1,tk,rfl,hk⟩:=x.done
 have noA:∀b:Addr,b∉(cxOf CX P w K mg base N qual scope f cd A outer s H E).ex:=λb z=>absurd (show b∈([]:List Addr) from z) (by simp)
 refine⟨⟨e0.mod,S.kind,rfl,rfl,Nat.le_refl _,λy z c h1 h2=>?_,λy hy=>?_,λy c _ h=>?_,λ_=>hd,Around.frames_deeper e0.frames,.inr ⟨rfl,rfl⟩,λb z=>absurd z (noA b),e0.bs,e0.bsz,λb _ _=>noA b,λb z=>absurd z (noA b),e0.funs,e0.frf⟩,
  rfl,e0.bare,Un.kept hk,⟨_,x.toInCall.ns,λi y v h1 h2 h3=>?_⟩,λy c h=>⟨_,x.cell y c h⟩,e0.hok.fresh (Nat.le_refl _),λy c h=>?_,λp hp=>absurd (show p∈([]:List (Addr×Obj)) from hp) (by simp),e0.hok.kept hk,?_⟩
 ·exact name_of_addr x.apart (PySem.mem_of_lookup h1) (PySem.mem_of_lookup h2)
 ·have hy:scope.names.lookup y=some .cell\/scope.names.lookup y=some .free:=hy
  rcases hy with hy|hy
  ·exact qna hy
  ·exact absurd rfl (S.nofree _ (PySem.mem_of_lookup hy))
 ·exact Nat.le_of_lt (x.above y c (PySem.mem_of_lookup h))
 ·have hi:i<vs.length:=by
   unfold start at h2
   by_cases hi:i<vs.length
   ·exact hi
   ·rw[List.getElem?_append_right (by simpa using hi)] at h2
    rw[List.getElem?_replicate] at h2
    split at h2<;>cases h2
  have ha:vs[i]?=some v:=by
   unfold start at h2
   rw[List.getElem?_append_left (by simpa using hi),List.getElem?_map] at h2
   cases e:vs[i]? with
  |none=>rw[e] at h2;cases h2
  |some a=>rw[e] at h2;cases h2;rfl
  obtain⟨u,hu,rv⟩:=r.get ha
  have hp:ps[i]?=some y:=by
   rw[←S.pre,List.getElem?_take_of_lt (by lia)];exact h1
  have ndP:ps.Nodup:=by rw[←S.pre];exact S.nd.sublist (List.take_sublist _ _)
  refine⟨u,rv,?_⟩
  rcases S.par y (List.mem_of_getElem? hp) with k|k
  ·exact .inl ⟨k,qj1 ndP hp hu k⟩
  ·obtain⟨c,e⟩:=qna (n:=s.heap.objs.size+1) k
   refine .inr ⟨.inl k,c,e,?_⟩
   have q:=x.cell y c e
   rw[qjz ndP hp hu (by show scope.names.lookup y≠_;rw[k];decide)] at q
   exact q
 ·exact e0.hok.fresh (Nat.le_of_lt (x.above y c (PySem.mem_of_lookup h)))
 ·unfold start
  show _=N.length
  rw[List.length_append,List.length_map,List.length_replicate]
  lia
theorem q2e{CX:CXT}{P:Program}{w:World}{K:PySem.W.Frag}{mg:Str->Option Value}{base:Heap}{k:Nat}{f:Addr}{name qual:Str}{params:Arguments}{body:List Stmt}{scope:Scope}{dV kV doc pm cdv ct oc:Value}{an od:Option Addr}
  {osl:Array (Option Value)} {N ps:List Str} {sp:Sp} (lk:K.lookup f=some ⟨oc,od,.func (PySem.W.fnOf name qual params body scope dV kV doc pm an cdv ct),osl⟩) (hcd:PySem.W.codeIn K cdv qual=true) (S:FnScope N ps scope)
  (len:∀vs H Q E,sp vs H Q E->vs.length=ps.length)
  (hbody:∀(A:Around) (outer:List Env) (s:Shared) (H:Hp) (vs:List V) (Q:VK) (E:XK),Room k (A.deeper (envOfC qual scope s.heap.objs.size f cdv))->sp vs H Q E ->
   ∃t,PSs (cxOf CX P w K mg base N qual scope f cdv A outer s H E) body t/\t { nx:=λ_ H'=>Q .non H',rt:=Q } (start N vs) H) :
  FnOk P w K mg base CX (k+1) f (PySem.W.fnOf name qual params body scope dV kV doc pm an cdv ct) ps sp:=by
 refine⟨len,λA outer s H args us vs Q E hr e0 hb r hsp=>?_⟩
 have hl:=len _ _ _ _ hsp
 have KX:K.In s.heap:=e0.mod.kin.keeps λb o e=>(e0.bs b o e).1
 have lim:s.heap.NoLimit:=e0.mod.nolimit.keeps λb o e=>(e0.bs b o e).1
 have hkind:∀y∈ps.zip us,scope.names.lookup y.1=some .local\/(scope.names.lookup y.1=some .cell/\((cellsFrom (s.heap.objs.size+1) scope.names []).lookup y.1).isSome=true):=λ⟨n,v⟩ hy=>by
  rcases S.par n (List.of_mem_zip hy).1 with q|q
  ·exact .inl q
  ·exact .inr ⟨q,PySem.W.cellsFrom_some _ _ _ (.inl q)⟩
 refine codeAny_call_function hr.depth (KX _ _ lk) rfl S.co S.gen rfl (PySem.W.codeRec_of KX hcd) (hb _ _ _ _ ?_)
 refine wpAny_newFunctionEnv_cells S.kind hkind λenv he s1 x=>?_
 subst he
 refine⟨lim.keeps x.toInCall.keep,codeAny_func ?_⟩
 obtain⟨t,ht,hq⟩:=hbody A outer s H vs Q E (hr.deeper _) hsp
 have I:Inv (cxOf CX P w K mg base N qual scope f cdv A outer s H E) [] (start N vs) H s1:=qqr S hr.hd e0 hl r x
 refine wpAny_mono (ht [] s1 (start N vs) H _ I hq) (λfl s' hs=>?_) λe s' hs=>hs
 have fin:∀ {σ':St} {H':Hp} {v:V} {u:Value},Inv (cxOf CX P w K mg base N qual scope f cdv A outer s H E) [] σ' H' s'->RelV v u->Q v H'->CE outer P w H s Q u s' :=
  λ{σ' H' v u} J rv q=>⟨v,H',J.os,J.bare,J.base,J.hok,rv,q⟩
 cases fl with
|ret u =>
  obtain⟨v,σ',H',J,rv,q⟩:=hs
  exact fin J rv q
|next =>
  obtain⟨σ',H',J,q⟩:=hs
  exact fin (v:=V.non) (u:=Value.none) J rfl q
|brk =>
  obtain⟨_,_,_,q⟩:=hs
  exact False.elim q
|cont =>
  obtain⟨_,_,_,q⟩:=hs
  exact False.elim q
end L2
namespace L2
open PySem PySem.Spec PyProof.Rows
section
variable {X:Cx} {x:Str} {p pos:Pos} {e:Expr} {es:List Expr} {t:TA} {id T:String} {r:List V->Hp->VK->Prop}
def tCB(r:List V->Hp->VK->Prop)(t:TA):TE:=λσ H Q=>t σ H λvs H1=>r vs H1 Q
theorem qtq(hc:CallR X (.builtin id) r)(hg:Gl X x)(hm:X.mg x=none)(hv:bootBuiltins x=some (.builtin id))(ha:PA X (e::es) t)(hn:x≠"__name__" := by decide)(hdb:(x==("__debug__" : Str))=false:=by decide)
  (he:starEach (e::es) X.env=(false,eval e X.env)::starEach es X.env:=by rfl) (hpl:(backTo pos (starEach es X.env)).any (·.1)=false:=by rfl):PE X (.Call (.Name x p) (e::es) [] pos) (tCB r t):=by
 intro pins s σ H Q I h
 refine wpAny_Call_Name_kw (qhd I hg hm hv ?_ hn hdb)
 exact PyProof.Rows.callWith_builtin1 (thn (ha pos pins s σ H _ I h) λus s1 ⟨vs,H1,I1,r1,q1⟩=>hc pins s1 σ H1 vs us Q I1 r1 q1) he hpl
theorem qrd(hc:CallR X (.type T) r)(hg:Gl X x)(hm:X.mg x=none)(hv:bootBuiltins x=some (.type T))(ha:PA X (e::es) t)(hn:x≠"__name__" := by decide)(hdb:(x==("__debug__" : Str))=false:=by decide)
  (he:starEach (e::es) X.env=(false,eval e X.env)::starEach es X.env:=by rfl) (hpl:(backTo pos (starEach es X.env)).any (·.1)=false:=by rfl):PE X (.Call (.Name x p) (e::es) [] pos) (tCB r t):=by
 intro pins s σ H Q I h
 refine wpAny_Call_Name_kw (qhd I hg hm hv ?_ hn hdb)
 exact PyProof.Rows.callWith_type1 (thn (ha pos pins s σ H _ I h) λus s1 ⟨vs,H1,I1,r1,q1⟩=>hc pins s1 σ H1 vs us Q I1 r1 q1) he hpl
end
end L2
namespace HT
open PySem PyProof.Rows
section
open PySem.SeqAt
open PySem.AutoSeq1 (wpAny_loadPart')
open PySem.MeetsSeq PySem.MeetsSeq2 PySem.MeetsSeq3
end
section
variable {prog:Program} {w:World} {A:Around} {E:Value->Shared->Prop} {s:Shared}
theorem cat_tup{t b:Addr}{vs ws:List Value}{Q:Value->Shared->Prop}(ht:IsTup s.heap t vs.toArray)(hb:IsTup s.heap b ws.toArray)(hv:vs≠[])
  (h1:ws=[]->Q (.ref t) s) (h2:ws≠[]->Q (.ref s.heap.objs.size) { s with heap:=s.heap.push { cls:=.type "tuple",data:=.seq (vs++ws).toArray } })
  (hsz:vs.length+ws.length<=sizeLine):wpAny (model prog w) A (binaryOp .Add (.ref t) (.ref b)) Q E s:=by
 obtain⟨⟨cls,dd,data,sl⟩,ho,hc,n,hd⟩:=id ht
 obtain⟨⟨cls2,dd2,data2,sl2⟩,ho2,hc2,n2,hd2⟩:=id hb
 simp only at hc hd hc2 hd2
 subst hc hd hc2 hd2
 have e:vs.toArray++ws.toArray=(vs++ws).toArray:=by simp
 by_cases hw:ws=[]
 ·exact concat_meets ⟨_,ho,rfl⟩ ⟨_,ho2,rfl⟩ noFill_tuple_add seq_tuple_add PySem.F.slot_tuple_add PySem.F.entry_tuple_add (PySem.F.args_tuple_add_2 _ _)
   (tuple_addW1 t b vs.toArray ws.toArray n n2 dd dd2 sl sl2 (by simpa using hv) (by simp[hw])) ⟨ho,ho2,h1 hw⟩
 ·refine concat_meets ⟨_,ho,rfl⟩ ⟨_,ho2,rfl⟩ noFill_tuple_add seq_tuple_add PySem.F.slot_tuple_add PySem.F.entry_tuple_add (PySem.F.args_tuple_add_2 _ _)
   (tuple_addW2 t b vs.toArray ws.toArray n n2 dd dd2 sl sl2 (by simpa using hv) (by simpa using hw) (by rw[List.size_toArray,List.size_toArray];exact hsz)) ⟨ho,ho2,?_⟩
  rw[e]
  exact h2 hw
def sIx(n d:Nat):Option Int->Nat
|none=>d
|some v=>if v<0 then (v+(n:Int)).toNat else min v.toNat n
theorem sIx_none(n d:Nat):sIx n d none=d:=rfl
theorem sIx_nat(n d k:Nat):sIx n d (some (k:Int))=min k n:=by
 show (if (k:Int)<0 then ((k:Int)+(n:Int)).toNat else min (k:Int).toNat n)=min k n
 rw[if_neg (by lia),Int.toNat_natCast]
theorem sIx_le(n d:Nat)(hd:d<=n)(o:Option Int):sIx n d o<=n:=by
 cases o with
|none=>exact hd
|some v =>
  show (if v<0 then (v+(n:Int)).toNat else min v.toNat n)<=n
  by_cases hv:v<0
  ·rw[if_pos hv];lia
  ·rw[if_neg hv];exact Nat.min_le_right _ _
theorem qp2(v:Int)(n d:Nat):(if v<0 then max (v+(n:Int)) 0 else min v (n:Int))=((sIx n d (some v):Nat):Int):=by
 show (if v<0 then max (v+(n:Int)) 0 else min v (n:Int))=(((if v<0 then (v+(n:Int)).toNat else min v.toNat n):Nat):Int)
 by_cases hv:v<0
 ·simp only[if_pos hv];lia
 ·simp only[if_neg hv];lia
theorem qoh(lo hi:Option Int)(n:Nat):Builtin.Slice.sliceAdjust lo hi 1 (n:Int)=(((sIx n 0 lo:Nat):Int),((sIx n n hi:Nat):Int)):=by
 have h1:¬ ((1:Int)<0):=by lia
 unfold Builtin.Slice.sliceAdjust
 simp only[h1,if_false]
 refine Prod.ext ?_ ?_
 ·cases lo with
 |none=>rfl
 |some v=>exact qp2 v n 0
 ·cases hi with
 |none=>rfl
 |some v=>exact qp2 v n n
theorem qo2(i j:Nat):Builtin.Slice.slicePlaces (i:Int) (j:Int) 1=j-i:=by
 unfold Builtin.Slice.slicePlaces
 have h1:(1:Int)>0:=by lia
 simp only[h1,if_true,Int.ediv_one]
 split<;>lia
theorem qim{v:Value}{o:Option Int}{Q:Option Int->Shared->Prop}(p:IsPart v o)(h:Q o s):wpAny (model prog w) A (Builtin.Slice.slicePartIndex v) Q E s:=by
 cases p with
|none=>exact slicePart_none h
|int i t=>exact slicePart_int h
theorem qep{sl:Addr}{vl vu:Value}{lo hi:Option Int}{n:Nat}{Q:Int×Int×Nat->Shared->Prop}(hs:s.heap.IsSliceOf sl vl vu .none)(pl:IsPart vl lo)(pu:IsPart vu hi)
  (h:Q (((sIx n 0 lo:Nat):Int),1,sIx n n hi-sIx n 0 lo) s):wpAny (model prog w) A (Builtin.Slice.sliceApplied (.ref sl) (pure (n:Int))) Q E s:=by
 obtain⟨os,hos,hcs,hds⟩:=id hs
 unfold Builtin.Slice.sliceApplied Builtin.Slice.sliceFields
 refine wpAny_bind (wpAny_bind (wpAny_field hos hds (x:=vl) rfl (wpAny_bind (wpAny_field hos hds (x:=vu) rfl (wpAny_bind (wpAny_field hos hds (x:=.none) rfl (wpAny_pure ?_)))))))
 refine wpAny_bind (slicePart_none ?_)
 show wpAny _ _ (if ((1:Int)==0)=true then _ else _) _ _ s
 rw[if_neg (by decide)]
 refine wpAny_bind (qim pl (wpAny_bind (qim pu (wpAny_bind (wpAny_pure ?_)))))
 show wpAny _ _ (match Builtin.Slice.sliceAdjust lo hi 1 (n:Int) with|(lo,hi)=>pure (lo,(1:Int),Builtin.Slice.slicePlaces lo hi 1)) _ _ s
 rw[qoh lo hi n]
 show wpAny _ _ (pure (((sIx n 0 lo:Nat):Int),(1:Int),Builtin.Slice.slicePlaces ((sIx n 0 lo:Nat):Int) ((sIx n n hi:Nat):Int) 1)) _ _ s
 rw[qo2]
 exact wpAny_pure h
theorem qtw(xs:Array Value)(i k:Nat):((List.range k).filterMap λ(m:Nat)=>xs[((i:Int)+(m:Int)*1).toNat]?).toArray=((xs.toList.drop i).take k).toArray:=by
 have e:(λ(m:Nat)=>xs[((i:Int)+(m:Int)*1).toNat]?)=λm=>xs[i+m]?:=by
  funext m
  have:((i:Int)+(m:Int)*1).toNat=i+m:=by lia
  rw[this]
 rw[e]
 have:=pick_run xs i k
 rw[List.filterMap_map] at this
 have e2:((λx=>xs[x]?) ∘ λx=>i+x)=λm=>xs[i+m]?:=rfl
 rw[e2] at this
 rw[this]
theorem getItem_tuple_cut{t sl:Addr}{items:Array Value}{vl vu:Value}{lo hi:Option Int}{Q:Value->Shared->Prop}(ht:IsTup s.heap t items)(hs:s.heap.IsSliceOf sl vl vu .none)(pl:IsPart vl lo)(pu:IsPart vu hi)
  (hw:¬ (sIx items.size 0 lo=0/\sIx items.size items.size hi=items.size))
  (h:Q (.ref s.heap.objs.size) { s with heap:=s.heap.push { cls:=.type "tuple",data:=.seq ((items.toList.drop (sIx items.size 0 lo)).take (sIx items.size items.size hi-sIx items.size 0 lo)).toArray } })
  (hsz:items.size<=sizeLine):wpAny (model prog w) A (getItem (.ref t) (.ref sl)) Q E s:=by
 have htake:sizeOk (.seq ((items.toList.drop (sIx items.size 0 lo)).take (sIx items.size items.size hi-sIx items.size 0 lo)).toArray):=by
  show ((items.toList.drop (sIx items.size 0 lo)).take (sIx items.size items.size hi-sIx items.size 0 lo)).toArray.size<=sizeLine
  rw[List.size_toArray,List.length_take,List.length_drop,Array.length_toList]
  lia
 have hj:sIx items.size items.size hi<=items.size:=sIx_le _ _ (Nat.le_refl _) hi
 obtain⟨os,hos,hcs,hds⟩:=id hs
 have hTs:s.TypeIs (.ref sl) "slice" := ⟨os,hos,hcs⟩
 unfold getItem
 try with_reducible refine wpAny_holding ?_
 first|refine wpAny_bind (wpAny_pure ?_)|skip
 refine wpAny_bind (wpAny_sequenceKey ht.typeIs (by decide) ?_)
 refine wpAny_bind (wpAny_callSpecial?_slot (name:=Str.ofString "__getitem__") ht.typeIs PyProof.Rows.slot_tuple_getitem
  (wpAny_call_entry PyProof.Rows.slot_tuple_getitem ht.typeIs entry_tuple_getitem ?_ (args_tuple_getitem _ _)))
 show wpAny _ _ (Builtin.Tuple.tupleItemsOf (.ref t) >>= _) _ _ s
 refine wpAny_bind (tupleItemsOf_ ht ?_)
 refine wpAny_bind (wpAny_typeOf hTs ?_)
 rw[if_pos (by decide)]
 refine wpAny_bind (qep hs pl pu ?_)
 have hno:¬ ((((sIx items.size 0 lo:Nat):Int)==0&&(1:Int)==1&&(sIx items.size items.size hi-sIx items.size 0 lo)==items.size)=true):=by
  intro q
  rw[Bool.and_eq_true,Bool.and_eq_true] at q
  have q1:((sIx items.size 0 lo:Nat):Int)=0:=eq_of_beq q.1.1
  have q2:sIx items.size items.size hi-sIx items.size 0 lo=items.size:=eq_of_beq q.2
  exact hw ⟨by lia,by lia⟩
 show wpAny _ _ (if (((sIx items.size 0 lo:Nat):Int)==0&&(1:Int)==1&&(sIx items.size items.size hi-sIx items.size 0 lo)==items.size)=true then _ else _) _ _ s
 rw[if_neg hno,qtw]
 first
 |exact wpAny_bind (m:=Builtin.Tuple.tupleExact _) (wpAny_newObj_type (wpAny_pure ⟨_,rfl,wpAny_pure h⟩) htake)
 |exact wpAny_bind (m:=Builtin.Tuple.tupleExact _) (wpAny_newObj_type (wpAny_bind (wpAny_pure (wpAny_pure ⟨_,rfl,wpAny_pure h⟩))) htake)
 |exact wpAny_bind (wpAny_bind (m:=Builtin.Tuple.tupleExact _) (wpAny_newObj_type (wpAny_pure (wpAny_pure ⟨_,rfl,wpAny_pure h⟩)) htake))
 |exact wpAny_bind (wpAny_bind (m:=Builtin.Tuple.tupleExact _) (wpAny_newObj_type (wpAny_pure ⟨_,rfl,wpAny_pure h⟩) htake))
end
end HT
namespace L2
open PySem PySem.Spec PyProof.Rows
abbrev TO:=St->Hp->(Option Int->Hp->Prop)->Prop
def PO(X:Cx)(e:Option Expr)(t:TO):Prop :=
 ∀(pins:List (Addr×Obj)) (s:Shared) (σ:St) (H:Hp) (Q:Option Int->Hp->Prop),Inv X pins σ H s->t σ H Q ->
  wpAny (model X.prog X.w) X.A (evalPart e X.env) (λu s'=>∃o H',Inv X pins σ H' s'/\IsPart u o/\Q o H') X.xe s
def qr3:TO:=λ_ H Q=>Q none H
def q1y(t:TE):TO:=λσ H Q=>t σ H λx H1=>∃i,x=.int i/\Q (some i) H1
section
variable {X:Cx} {e:Expr} {te:TE} {lo hi:Option Expr} {tl th:TO} {pos p2:Pos}
theorem qxh:PO X none qr3:=by
 intro pins s σ H Q I h
 rw[evalPart_none]
 exact wpAny_pure ⟨none,H,I,.none,h⟩
theorem qxi(h:PE X e te):PO X (some e) (q1y te):=by
 intro pins s σ H Q I hw
 rw[evalPart_some]
 refine thn (h pins s σ H _ I hw) λu s1 ⟨x,H1,I1,r1,q1⟩=>?_
 obtain⟨i,rfl,q⟩:=q1
 obtain⟨t,rfl⟩:=r1
 exact⟨some i,H1,I1,.int i t,q⟩
def SlR(X:Cx)(r:V->Option Int->Option Int->Hp->VK->Prop):Prop :=
 ∀(pins:List (Addr×Obj)) (s:Shared) (σ:St) (H:Hp) (x:V) (v vl vu:Value) (lo hi:Option Int) (sl:Addr) (Q:VK),Inv X pins σ H s->RelV x v->s.heap.IsSliceOf sl vl vu .none->IsPart vl lo->IsPart vu hi->r x lo hi H Q ->
  ∃T id,typeLookup (.type T) "__getitem__" = pure (some (.builtin id))/\s.TypeIs v T/\wpAny (model X.prog X.w) X.A (getItem v (.ref sl)) (EP X pins σ Q) X.xe s
theorem SlR.or{r r':V->Option Int->Option Int->Hp->VK->Prop}(h:SlR X r)(h':SlR X r'):SlR X (λx lo hi H Q=>r x lo hi H Q\/r' x lo hi H Q):=by
 intro pins s σ H x v vl vu lo hi sl Q I rx hs pl pu q
 rcases q with q|q
 ·exact h pins s σ H x v vl vu lo hi sl Q I rx hs pl pu q
 ·exact h' pins s σ H x v vl vu lo hi sl Q I rx hs pl pu q
def tSl(r:V->Option Int->Option Int->Hp->VK->Prop)(te:TE)(tl th:TO):TE:=λσ H Q=>te σ H λx H1=>tl σ H1 λl H2=>th σ H2 λu H3=>r x l u H3 Q
theorem qtu{r:V->Option Int->Option Int->Hp->VK->Prop}(hr:SlR X r)(he:PE X e te)(hl:PO X lo tl)(hu:PO X hi th):PE X (.Subscript e (.Slice lo hi none p2) pos) (tSl r te tl th):=by
 intro pins s σ H Q I h
 refine Subscript_ (thn (he pins s σ H _ I h) λv s1 ⟨x,H1,I1,r1,q1⟩=>?_)
 refine wpAny_Slice (thn (hl pins s1 σ H1 _ I1 q1) λvl s2 ⟨l,H2,I2,pl,q2⟩=>thn (hu pins s2 σ H2 _ I2 q2) λvu s3 ⟨u,H3,I3,pu,q3⟩=>?_)
 rw[evalPart_none]
 refine wpAny_pure ?_
 have I4:Inv X pins σ H3 { s3 with heap:=s3.heap.push { cls:=.type "slice",data:=.fields #[vl,vu,.none] } }:=I3.kept (t':=s3.toks) λb ob q=>Heap.get?_push_of_some _ q
 obtain⟨T,id,hT,ht,hg⟩:=hr pins { s3 with heap:=s3.heap.push { cls:=.type "slice",data:=.fields #[vl,vu,.none] } } σ H3 x v vl vu l u s3.heap.objs.size Q I4 r1 (Heap.IsSliceOf.new ..) pl pu q3
 show wpAny (model X.prog X.w) X.A (subscriptTail e (.Slice lo hi none p2) v (.ref s3.heap.objs.size)) (EP X pins σ Q) X.xe { s3 with heap:=s3.heap.push { cls:=.type "slice",data:=.fields #[vl,vu,.none] } }
 exact tail_any (ops:=[.ref s3.heap.objs.size,v]) ht hT hg (by with_unfolding_all rfl)
def cutV(xs:List V)(lo hi:Option Int):List V:=(xs.drop (HT.sIx xs.length 0 lo)).take (HT.sIx xs.length xs.length hi-HT.sIx xs.length 0 lo)
theorem qg3(xs:List V)(lo hi:Option Int):(cutV xs lo hi).length<=xs.length:=by
 unfold cutV
 rw[List.length_take,List.length_drop]
 lia
def rSlT(K:PySem.W.Frag):V->Option Int->Option Int->Hp->VK->Prop:=λx lo hi H Q=>∃a xs,x=.ref a/\SqT K H a xs /\
 ¬ (HT.sIx xs.length 0 lo=0/\HT.sIx xs.length xs.length hi=xs.length)/\∀p,H p=none->Q (.ref p) (upd H p (.tup (cutV xs lo hi)))
theorem q1s:SlR X (rSlT X.K):=by
 intro pins s σ H x v vl vu lo hi sl Q I rx hs pl pu h
 obtain⟨a,xs,rfl,hx,hw,q⟩:=h
 cases rx
 obtain⟨its,r,ht,hz⟩:=I.tuple hx
 have hlen:its.toArray.size=xs.length:=by rw[List.size_toArray];exact r.length.symm
 refine⟨"tuple",_,PyProof.Rows.slot_tuple_getitem.lookup,ht.typeIs,?_⟩
 refine HT.getItem_tuple_cut ht hs pl pu (by rw[hlen];exact hw) ?_ (by rw[hlen];exact hz)
 rw[hlen]
 refine⟨.ref s.heap.objs.size,_,I.laid (t':=s.toks) (o:=.tup (cutV xs lo hi)) (λb ob q=>Heap.get?_push_of_some _ q) (Nat.le_refl _) ?_,rfl,q _ (I.hok.fresh (Nat.le_refl _))⟩
 exact⟨Nat.le_trans (qg3 xs lo hi) hz,_,(r.drop (HT.sIx xs.length 0 lo)).take (HT.sIx xs.length xs.length hi-HT.sIx xs.length 0 lo),IsTup.new _ _⟩
def q27(K:PySem.W.Frag):R2:=λx y H Q=>∃a b xs ys,x=.ref a/\y=.ref b/\SqT K H a xs/\SqT K H b ys/\xs≠[]/\xs.length+ys.length<=sizeLine /\
 (ys=[]->Q (.ref a) H)/\(ys≠[]->∀p,H p=none->Q (.ref p) (upd H p (.tup (xs++ys))))
theorem Vals.nil_iff{xs:List V}{us:List Value}(r:Vals xs us):us=[]↔xs=[]:=by
 cases r with
|nil=>simp
|cons _ _=>simp
theorem qwz:OpR X (binaryOp .Add) (q27 X.K):=by
 intro pins s σ H x y v u Q I rx ry h
 obtain⟨a,b,xs,ys,rfl,rfl,ha,hb,hx,hz,q1,q2⟩:=h
 cases rx
 cases ry
 obtain⟨its,r1,p1,_⟩:=I.tuple ha
 obtain⟨its2,r2,p2,_⟩:=I.tuple hb
 refine HT.cat_tup p1 p2 (λz=>hx (r1.nil_iff.mp z)) (λz=>⟨.ref a,H,I,rfl,q1 (r2.nil_iff.mp z)⟩) (λz=>?_) (by rw[←r1.length,←r2.length];exact hz)
 refine⟨.ref s.heap.objs.size,_,I.laid (t':=s.toks) (o:=.tup (xs++ys)) (λb ob q=>Heap.get?_push_of_some _ q) (Nat.le_refl _) ?_,rfl,q2 (λw=>z (r2.nil_iff.mpr w)) _ (I.hok.fresh (Nat.le_refl _))⟩
 exact⟨by rw[List.length_append];exact hz,_,r1.append r2,IsTup.new _ _⟩
end
end L2
namespace L2
open PySem PySem.Spec PyProof.Rows
def ixN(n:Nat)(i:Int):Option Nat:=if 0<=i then (if i<n then some i.toNat else none) else if -(n:Int)<=i then some (i+n).toNat else none
def atI{α:Type}(xs:List α)(i:Int):Option α:=(ixN xs.length i).bind λj=>xs[j]?
theorem qwh{n:Nat}{i:Int}{j:Nat}(h:ixN n i=some j):seqIndex? i n=some j/\j<n/\-(n:Int)<=i/\i<n:=by
 unfold ixN at h
 by_cases h0:0<=i
 ·rw[if_pos h0] at h
  by_cases h1:i<n
  ·rw[if_pos h1] at h
   have e:i.toNat=j:=Option.some.inj h
   exact⟨by rw[seqIndex_of h0 h1,e],by lia,by lia,h1⟩
  ·rw[if_neg h1] at h;cases h
 ·rw[if_neg h0] at h
  by_cases h1:-(n:Int)<=i
  ·rw[if_pos h1] at h
   have e:(i+n).toNat=j:=Option.some.inj h
   exact⟨by rw[seqIndex_neg (by lia) h1,e],by lia,h1,by lia⟩
  ·rw[if_neg h1] at h;cases h
theorem qli{α:Type}{xs:List α}{i:Int}{v:α}(h:atI xs i=some v):∃j,seqIndex? i xs.length=some j/\xs[j]?=some v/\j<xs.length/\-(xs.length:Int)<=i/\i<xs.length:=by
 unfold atI at h
 cases e:ixN xs.length i with
|none=>rw[e] at h;cases h
|some j =>
  rw[e] at h
  obtain⟨h1,h2,h3,h4⟩:=qwh e
  exact⟨j,h1,h,h2,h3,h4⟩
theorem qv4{α:Type}{xs:List α}{j:Nat}{v:α}(h:xs[j]?=some v):atI xs (j:Int)=some v:=by
 have hj:j<xs.length:=(List.getElem?_eq_some_iff.mp h).1
 have e:ixN xs.length (j:Int)=some j:=by
  unfold ixN
  rw[if_pos (by lia),if_pos (by lia)];simp
 unfold atI;rw[e];exact h
def qlg(b:Expr):Prop:=∀o i,subscripted b false o i=operate [o,i] (getItem o i)
def IxR(X:Cx)(r:R2):Prop :=
 ∀(value slice:Expr) (pins:List (Addr×Obj)) (s:Shared) (σ:St) (H:Hp) (x y:V) (v u:Value) (Q:VK),Inv X pins σ H s->RelV x v->RelV y u->r x y H Q ->
  subscripted slice false v u=operate [v,u] (getItem v u)->wpAny (model X.prog X.w) X.A (subscriptTail value slice v u) (EP X pins σ Q) X.xe s
def MtR(X:Cx)(id:String)(r:V->List V->Hp->VK->Prop):Prop :=
 ∀(pins:List (Addr×Obj)) (s:Shared) (σ:St) (H:Hp) (x:V) (xs:List V) (v:Value) (us:List Value) (Q:VK),Inv X pins σ H s->RelV x v->Vals xs us->r x xs H Q ->
  wpAny (model X.prog X.w) X.A (call (.builtin id) (v::us)) (EP X pins σ Q) X.xe s
section
variable {X:Cx} {a b:Expr} {ta tb:TE} {pos:Pos}
theorem IxR.or{r r':R2}(h:IxR X r)(h':IxR X r'):IxR X (λx y H Q=>r x y H Q\/r' x y H Q):=by
 intro value slice pins s σ H x y v u Q I rx ry q hs
 rcases q with q|q
 ·exact h value slice pins s σ H x y v u Q I rx ry q hs
 ·exact h' value slice pins s σ H x y v u Q I rx ry q hs
theorem MtR.or{id:String}{r r':V->List V->Hp->VK->Prop}(h:MtR X id r)(h':MtR X id r'):MtR X id (λx xs H Q=>r x xs H Q\/r' x xs H Q):=by
 intro pins s σ H x xs v us Q I rx rs q
 rcases q with q|q
 ·exact h pins s σ H x xs v us Q I rx rs q
 ·exact h' pins s σ H x xs v us Q I rx rs q
theorem q2q{r:R2}(hr:IxR X r)(ha:PE X a ta)(hb:PE X b tb)(hs:qlg b):PE X (.Subscript a b pos) (tOp r ta tb):=by
 intro pins s σ H Q I h
 exact Subscript_ (binT ha hb I h λv u s2 x y H2 I2 rx ry q=>hr a b pins s2 σ H2 x y v u Q I2 rx ry q (hs _ _))
def rIxL(K:PySem.W.Frag):R2:=λx y H Q=>∃p xs i v,x=.ref p/\y=.int i/\SqL K H p xs/\atI xs i=some v/\Q v H
def rIxT(K:PySem.W.Frag):R2:=λx y H Q=>∃p xs i v,x=.ref p/\y=.int i/\SqT K H p xs/\atI xs i=some v/\Q v H
def rIxS:R2:=λx y H Q=>∃z i c,x=.str z/\y=.int i/\z.length<=sizeLine/\atI z.cps.toList i=some c/\Q (.str ⟨#[c]⟩) H
theorem qwi:IxR X (rIxL X.K):=by
 intro value slice pins s σ H x y v u Q I rx ry h hs
 obtain⟨p,xs,i,z,rfl,rfl,hq,he,q⟩:=h
 cases rx
 obtain⟨t,rfl⟩:=ry
 obtain⟨its,r,pl,hz⟩:=I.list hq
 obtain⟨j,h1,h2,h3,h4,h5⟩:=qli he
 obtain⟨w,ew,rw'⟩:=r.get h2
 have hl:=r.length
 have hn:=qkj
 have fin:EP X pins σ Q w s:=⟨z,H,I,rw',q⟩
 by_cases h0:0<=i
 ·have hj:i.toNat=j:=by
   rw[seqIndex_of h0 h5] at h1
   exact Option.some.inj h1
  exact item_listR pl.isList h0 (by lia) (by rw[hj];simpa using ew) fin hs
 ·have hj:(i+(its.toArray.size:Int)).toNat=j:=by
   rw[seqIndex_neg (by lia) h4] at h1
   rw[List.size_toArray,←hl]
   exact Option.some.inj h1
  exact subscriptTail_builtinR (x:=w) pl.isList.typeIs slot_list_getitem.lookup
   (wpAny_getItem_list_neg (Q:=λr s'=>r=w/\EP X pins σ Q r s') pl.isList (by lia) (by rw[List.size_toArray]<;>lia) (by lia) (by rw[hj];simpa using ew) ⟨rfl,fin⟩) hs
theorem ix_tup:IxR X (rIxT X.K):=by
 intro value slice pins s σ H x y v u Q I rx ry h hs
 obtain⟨p,xs,i,z,rfl,rfl,hq,he,q⟩:=h
 cases rx
 obtain⟨t,rfl⟩:=ry
 obtain⟨its,r,pl,hz⟩:=I.tuple hq
 obtain⟨j,h1,h2,h3,h4,h5⟩:=qli he
 obtain⟨w,ew,rw'⟩:=r.get h2
 have hl:=r.length
 have hn:=qkj
 have fin:EP X pins σ Q w s:=⟨z,H,I,rw',q⟩
 exact subscriptTail_builtinR (x:=w) pl.typeIs slot_tuple_getitem.lookup
  (getItem_tuple (j:=j) (Q:=λr s'=>r=w/\EP X pins σ Q r s') pl (by lia) (by lia) (by rw[List.size_toArray,←hl];exact h1) (by simpa using ew) ⟨rfl,fin⟩) hs
theorem ix_str:IxR X rIxS:=by
 intro value slice pins s σ H x y v u Q I rx ry h hs
 obtain⟨z,i,c,rfl,rfl,hz,he,q⟩:=h
 obtain⟨t,rfl⟩:=rx
 obtain⟨t',rfl⟩:=ry
 obtain⟨j,h1,h2,h3,h4,h5⟩:=qli he
 have hl:z.cps.toList.length=z.length:=by simp[Str.length]
 rw[hl] at h1 h4 h5
 have hn:=qkj
 exact tail_any (typeIs_str s z t) slot_str_getitem.lookup (getItem_str (c:=c) (by
  have e1:decide (i < -(2 ^ 63:Int))=false:=decide_eq_false (by lia)
  have e2:decide (i≥2 ^ 63)=false:=decide_eq_false (by lia)
  rw[e1,e2,Bool.or_false]) (by rw[h1];simpa using h2) ⟨.str ⟨#[c]⟩,H,I.tok _,⟨_,rfl⟩,q⟩) hs
theorem qk0(lo hi:Option Int)(n:Nat):(sliceBounds lo hi none n).1=((HT.sIx n 0 lo:Nat):Int)/\(sliceBounds lo hi none n).2.1=((HT.sIx n n hi:Nat):Int)/\(sliceBounds lo hi none n).2.2=1:=by
 refine⟨?_,?_,rfl⟩
 ·cases lo with
 |none=>simp[sliceBounds,HT.sIx]
 |some i =>
   simp only[sliceBounds,HT.sIx,Option.getD_none,show (1:Int)>0 by decide,if_true]
   by_cases h:i<0
   ·simp only[h,if_true]<;>lia
   ·simp only[h,if_false]<;>lia
 ·cases hi with
 |none=>simp[sliceBounds,HT.sIx]
 |some i =>
   simp only[sliceBounds,HT.sIx,Option.getD_none,show (1:Int)>0 by decide,if_true]
   by_cases h:i<0
   ·simp only[h,if_true]<;>lia
   ·simp only[h,if_false]<;>lia
theorem qjm(its:List Value)(lo hi:Option Int):slicePick its.toArray lo hi none=((its.drop (HT.sIx its.length 0 lo)).take (HT.sIx its.length its.length hi-HT.sIx its.length 0 lo)).toArray:=by
 obtain⟨h1,h2,h3⟩:=qk0 lo hi its.toArray.size
 unfold slicePick
 rw[h1,h2,h3]
 simp only[sliceRange_one,pick_run,List.size_toArray]<;>rfl
def rSlL(K:PySem.W.Frag):V->Option Int->Option Int->Hp->VK->Prop:=λx lo hi H Q=>∃a xs,x=.ref a/\SqL K H a xs/\∀p,H p=none->Q (.ref p) (upd H p (.lst (cutV xs lo hi)))
theorem qyc:SlR X (rSlL X.K):=by
 intro pins s σ H x v vl vu lo hi sl Q I rx hs pl pu h
 obtain⟨a,xs,rfl,hx,q⟩:=h
 cases rx
 obtain⟨its,r,ht,hz⟩:=I.list hx
 have hlen:=r.length
 refine⟨"list",_,slot_list_getitem.lookup,ht.isList.typeIs,?_⟩
 refine wpAny_getItem_list_slice ht.isList hs pl pu .none (by simp) ?_ (by rw[List.size_toArray]<;>lia)
 rw[qjm,←hlen]
 refine⟨.ref s.heap.objs.size,_,I.laid (t':=s.toks) (o:=.lst (cutV xs lo hi)) (λb ob q=>Heap.get?_push_of_some _ q) (Nat.le_refl _) ?_,rfl,q _ (I.hok.fresh (Nat.le_refl _))⟩
 exact⟨Nat.le_trans (qg3 xs lo hi) hz,_,0,(r.drop (HT.sIx xs.length 0 lo)).take (HT.sIx xs.length xs.length hi-HT.sIx xs.length 0 lo),Heap.get?_push_size _ rfl⟩
def qgj:V->Bool
|.non=>true
|.bl _=>true
|.int _=>true
|.str _=>true
|_=>false
def eqV:V->V->Bool
|.non,.non=>true
|.bl a,.bl b=>a==b
|.bl a,.int b=>(if a then 1 else 0)==b
|.int a,.bl b=>a==(if b then 1 else 0)
|.int a,.int b=>a==b
|.str a,.str b=>a==b
|_,_=>false
theorem qu4{A:Around}{s:Shared}{y x:V}{u v:Value}(ry:RelV y u)(rx:RelV x v)(fy:qgj y=true)(fx:qgj x=true):SeqAt.EqAt A s u v (eqV y x):=by
 cases y with
|non =>
  cases ry
  cases x with
 |non=>cases rx;exact SeqAt.EqAt.same _
 |bl b=>cases rx;exact SeqAt.EqAt.none_bool b
 |int b=>obtain⟨t,rfl⟩:=rx;exact SeqAt.EqAt.none_int b t
 |str b=>obtain⟨t,rfl⟩:=rx;exact SeqAt.EqAt.none_str b t
 |_=>exact absurd (show false=true from fx) Bool.false_ne_true
|bl a =>
  cases ry
  cases x with
 |non=>cases rx;exact SeqAt.EqAt.bool_none a
 |bl b=>cases rx;exact SeqAt.EqAt.bool_bool a b
 |int b=>obtain⟨t,rfl⟩:=rx;exact SeqAt.EqAt.bool_int a b t
 |str b=>obtain⟨t,rfl⟩:=rx;exact SeqAt.EqAt.bool_str a b t
 |_=>exact absurd (show false=true from fx) Bool.false_ne_true
|int a =>
  obtain⟨t',rfl⟩:=ry
  cases x with
 |non=>cases rx;exact SeqAt.EqAt.int_none a t'
 |bl b=>cases rx;exact SeqAt.EqAt.int_bool a t' b
 |int b=>obtain⟨t,rfl⟩:=rx;exact SeqAt.EqAt.int_int a t' b t
 |str b=>obtain⟨t,rfl⟩:=rx;exact SeqAt.EqAt.int_str a t' b t
 |_=>exact absurd (show false=true from fx) Bool.false_ne_true
|str a =>
  obtain⟨t',rfl⟩:=ry
  cases x with
 |non=>cases rx;exact SeqAt.EqAt.str_none a t'
 |bl b=>cases rx;exact SeqAt.EqAt.str_bool a t' b
 |int b=>obtain⟨t,rfl⟩:=rx;exact SeqAt.EqAt.str_int a t' b t
 |str b=>obtain⟨t,rfl⟩:=rx;exact SeqAt.EqAt.str_str a t' b t
 |_=>exact absurd (show false=true from fx) Bool.false_ne_true
|_=>exact absurd (show false=true from fy) Bool.false_ne_true
def eqU(x:V)(u:Value):Bool:=match u with
|.none=>eqV .non x
|.bool b=>eqV (.bl b) x
|.int i _=>eqV (.int i) x
|.str z _=>eqV (.str z) x
|_=>false
theorem qu6{x y:V}{u:Value}(r:RelV y u)(f:qgj y=true):eqU x u=eqV y x:=by
 cases y with
|non=>cases r;rfl
|bl b=>cases r;rfl
|int i=>obtain⟨t,rfl⟩:=r;rfl
|str z=>obtain⟨t,rfl⟩:=r;rfl
|_=>exact absurd (show false=true from f) Bool.false_ne_true
theorem qlh{x:V}:∀ {xs:List V} {us:List Value},Vals xs us->xs.all qgj=true->us.any (eqU x)=xs.any λy=>eqV y x
|_,_,.nil,_=>rfl
|y::xs,u::us,.cons r t,f=>by
  rw[List.all_cons,Bool.and_eq_true] at f
  rw[List.any_cons,List.any_cons,qu6 r f.1,qlh t f.2]
theorem qjc{A:Around}{s:Shared}{x:V}{v:Value}(rx:RelV x v)(fx:qgj x=true):∀ {xs:List V} {us:List Value},Vals xs us->xs.all qgj=true->∀u∈us,SeqAt.EqAt A s u v (eqU x u)
|_,_,.nil,_=>λu hu=>by cases hu
|y::xs,u::us,.cons r t,f=>λu' hu=>by
  rw[List.all_cons,Bool.and_eq_true] at f
  rcases List.mem_cons.mp hu with rfl|hu
  ·rw[qu6 r f.1];exact qu4 r rx f.1 fx
  ·exact qjc rx fx t f.2 u' hu
def inV(x:V)(xs:List V):Bool:=xs.any λy=>eqV y x
def rIn(K:PySem.W.Frag)(neg:Bool):R2:=λx y H Q=>∃p xs,y=.ref p/\(SqL K H p xs\/SqT K H p xs)/\qgj x=true/\xs.all qgj=true/\Q (.bl (if neg then !inV x xs else inV x xs)) H
theorem qrb:OpR X (compareOp .In) (rIn X.K false):=by
 intro pins s σ H x y v u Q I rx ry h
 obtain⟨p,xs,rfl,hq,fx,fs,q⟩:=h
 cases ry
 rcases hq with hq|hq
 ·obtain⟨its,r,pl,hz⟩:=I.list hq
  refine SeqAt.in_listAt (eqU x) pl.isList (λw hw=>qjc rx fx r fs w (by simpa using hw)) ⟨.bl _,H,I,rfl,?_⟩
  rw[show its.toArray.any (eqU x)=its.any (eqU x) by simp,qlh r fs]
  exact q
 ·obtain⟨its,r,pl,hz⟩:=I.tuple hq
  refine SeqAt.in_tupleAt (eqU x) pl (λw hw=>qjc rx fx r fs w (by simpa using hw)) ⟨.bl _,H,I,rfl,?_⟩
  rw[show its.toArray.any (eqU x)=its.any (eqU x) by simp,qlh r fs]
  exact q
theorem qj3:CallR X (.builtin "len") (λxs H Q=>∃p ys,xs=[.ref p]/\(SqL X.K H p ys\/SqT X.K H p ys)/\Q (.int ys.length) H):=by
 intro pins s σ H xs us Q I r h
 obtain⟨p,ys,rfl,hq,q⟩:=h
 obtain⟨u,rfl,rx⟩:=vals1 r
 cases rx
 have hn:=qkj
 rcases hq with hq|hq
 ·obtain⟨its,r',pl,hz⟩:=I.list hq
  have hlen:=r'.length
  exact Calls.call_len_list pl.isList (by simp only[List.size_toArray]<;>lia) ⟨.int ys.length,H,I.tok _,⟨s.toks+1,by rw[List.size_toArray,hlen]⟩,q⟩
 ·obtain⟨its,r',pl,hz⟩:=I.tuple hq
  have hlen:=r'.length
  exact len_tuple pl (by simp only[List.size_toArray]<;>lia) ⟨.int ys.length,H,I.tok _,⟨s.toks+1,by rw[List.size_toArray,hlen]⟩,q⟩
theorem call_len_str:CallR X (.builtin "len") (λxs H Q=>∃z,xs=[.str z]/\z.length<=sizeLine/\Q (.int z.length) H):=by
 intro pins s σ H xs us Q I r h
 obtain⟨z,rfl,hz,q⟩:=h
 obtain⟨u,rfl,t,rfl⟩:=vals1 r
 have hn:=qkj
 exact len_str (by lia) ⟨.int z.length,H,I.tok _,⟨_,rfl⟩,q⟩
theorem CallR.or{f:Value}{r r':List V->Hp->VK->Prop}(h:CallR X f r)(h':CallR X f r'):CallR X f (λxs H Q=>r xs H Q\/r' xs H Q):=by
 intro pins s σ H xs us Q I rs q
 rcases q with q|q
 ·exact h pins s σ H xs us Q I rs q
 ·exact h' pins s σ H xs us Q I rs q
theorem qj5:CallR X (.type "list") (λxs H Q=>∃p ys,xs=[.ref p]/\(SqL X.K H p ys\/SqT X.K H p ys)/\∀l,H l=none->Q (.ref l) (upd H l (.lst ys))):=by
 intro pins s σ H xs us Q I r h
 obtain⟨p,ys,rfl,hq,q⟩:=h
 obtain⟨u,rfl,rx⟩:=vals1 r
 cases rx
 have fin:∀(its:List Value),Vals ys its->ys.length<=sizeLine->∀(h':Heap) (c':Nat),(∀b o',s.heap.get? b=some o'->h'.get? b=some o') ->
   h'.get? s.heap.objs.size=some { cls:=.type "list",dict:=none,data:=.seq its.toArray c',slots:=#[] }->EP X pins σ Q (.ref s.heap.objs.size) { s with heap:=h' }:=λits r' hz h' c' kp e =>
  ⟨.ref s.heap.objs.size,_,I.laid (t':=s.toks) kp (Nat.le_refl _) (show ObjOk X.prog X.w _ h' _ (.lst ys) from ⟨hz,its,c',r',e⟩),rfl,q _ (I.hok.fresh (Nat.le_refl _))⟩
 rcases hq with hq|hq
 ·obtain⟨its,r',pl,hz⟩:=I.list hq
  have hlen:=r'.length
  obtain⟨o,ho,hc,n,hd⟩:=pl.isList
  exact call_list_seq p (.inl rfl) ho hc hd (λh' c' kp e=>fin its r' hz h' c' kp e) (by simp only[List.size_toArray]<;>lia)
 ·obtain⟨its,r',pl,hz⟩:=I.tuple hq
  have hlen:=r'.length
  obtain⟨o,ho,hc,n,hd⟩:=pl
  exact call_list_seq p (.inr rfl) ho hc hd (λh' c' kp e=>fin its r' hz h' c' kp e) (by simp only[List.size_toArray]<;>lia)
def tyV(K:PySem.W.Frag)(T:String)(x:V)(H:Hp):Prop:=match x with
|.str _=>T="str"
|.int _=>T="int"
|.ref p=>(T="list" /\ ∃xs,SqL K H p xs)\/(T="tuple" /\ ∃o,K.lookup p=some o/\o.cls=.type "tuple" /\ o.dict=none) \/
   (T="dict" /\ ((∃kvs,H p=some (.dK kvs))\/∃kvs,H p=some (.dT kvs)))\/(T="set" /\ ∃S n,H p=some (.set S n))
|_=>False
theorem q10{pins:List (Addr×Obj)}{σ:St}{H:Hp}{s:Shared}{T:String}{x:V}{v:Value}(I:Inv X pins σ H s)(r:RelV x v)(ty:tyV X.K T x H) :
  s.TypeIs v T/\∀a,v=.ref a->∃ob,s.heap.get? a=some ob/\ob.dict=none:=by
 cases x with
|str z =>
  obtain⟨t,rfl⟩:=r
  cases (show T="str" from ty)
  exact⟨typeIs_str s z t,λ_ e=>nomatch e⟩
|int i =>
  obtain⟨t,rfl⟩:=r
  cases (show T="int" from ty)
  exact⟨typeIs_int s i t,λ_ e=>nomatch e⟩
|ref p =>
  cases r
  rcases ty with ⟨rfl,xs,hq⟩|⟨rfl,o,hk,hc,hd⟩|⟨rfl,hk⟩|⟨rfl,S,n,hk⟩
  ·obtain⟨its,_,pl,_⟩:=I.list hq
   refine⟨pl.isList.typeIs,λa e=>?_⟩
   cases e
   obtain⟨o,n,e,c,hd,_⟩:=pl
   exact⟨o,e,hd⟩
  ·refine⟨⟨o,I.kIn p o hk,hc⟩,λa e=>?_⟩
   cases e
   exact⟨o,I.kIn _ o hk,hd⟩
  ·have z:∃o,s.heap.get? p=some o/\o.ExactDict:=by
    rcases hk with ⟨kvs,hk⟩|⟨kvs,hk⟩
    ·obtain⟨_,_,_,_,o,_,_,e,ex,_⟩:=I.hok p _ hk
     exact⟨o,e,ex⟩
    ·obtain⟨_,_,_,_,o,_,_,e,ex,_⟩:=I.hok p _ hk
     exact⟨o,e,ex⟩
   obtain⟨o,e,ex⟩:=z
   refine⟨⟨o,e,ex.1⟩,λa e2=>?_⟩
   cases e2
   exact⟨o,e,ex.2.1⟩
  ·obtain⟨o,_,_,_,e,ex,_⟩:=I.hok p _ hk
   refine⟨⟨o,e,ex.1⟩,λa e2=>?_⟩
   cases e2
   exact⟨o,e,ex.2.1⟩
|_=>exact False.elim ty
def tBM(K:PySem.W.Frag)(T:String)(r:V->List V->Hp->VK->Prop)(to:TE)(t:TA):TE:=λσ H Q=>to σ H λx H1=>tyV K T x H1/\t σ H1 λxs H2=>r x xs H2 Q
variable {o e:Expr} {es:List Expr} {to:TE} {t:TA} {name:Str} {apos cpos:Pos} {T id:String} {r:V->List V->Hp->VK->Prop}
theorem q2p(pa:PlainAttrs T)(slot:Slot T name id)(hty:typeOf (.builtin id)=pure (.type "method_descriptor"))(hm:MtR X id r)(ho:PE X o to)(ha:PA X (e::es) t)
  (hbase:attributeBase o name X.env (eval o X.env)=eval o X.env:=by rfl)
  (hfew:((backTo cpos (starEach (e::es) X.env)).all (λx=>!x.1)&&(backToKw cpos (keywordEach [] X.env)).all (λx=>x.1.isSome)
   && decide ((e::es).length+([]:List Keyword).length+(if ([]:List Keyword).isEmpty then 0 else 1)<30))=true:=by rfl)
  (hline:(apos.endLine==cpos.line)=true:=by rfl) (hs:starEach (e::es) X.env=(false,eval e X.env)::starEach es X.env:=by rfl) (hplain:(backTo cpos (starEach es X.env)).any (·.1)=false:=by rfl) :
  PE X (.Call (.Attribute o name apos) (e::es) [] cpos) (tBM X.K T r to t):=by
 intro pins s σ H Q I h
 refine wpAny_Call_method_late hbase hfew hline rfl (thn (ho pins s σ H _ I h) λv s1 ⟨x,H1,I1,r1,ty,q1⟩=>?_)
 obtain⟨h1,h2⟩:=q10 I1 r1 ty
 refine⟨T,id,pa,slot,hty,h1,h2,?_⟩
 have hA:=ha cpos pins s1 σ H1 _ I1 q1
 rw[hs] at hA ⊢
 refine Calls.callWith_builtin (by show (false||(backTo cpos (starEach es X.env)).any (·.1))=false;rw[hplain]<;>rfl) (Calls.evalArgs_plain ?_)
 exact thn hA λus s2 ⟨vs,H2,I2,r2,q2⟩=>hm pins s2 σ H2 x vs v us Q I2 r1 r2 q2
end
end L2
namespace L2
open PySem PySem.Spec PyProof.Rows
def MtM(X:Cx)(id:String)(r:V->List V->Hp->VK->Prop):Prop :=
 ∀(pins:List (Addr×Obj)) (s:Shared) (σ:St) (H:Hp) (x:V) (xs:List V) (v:Value) (us:List Value) (Q:VK),Inv X pins σ H s->RelV x v->Vals xs us->r x xs H Q ->
  wpAny (model X.prog X.w) X.A (call (.builtin id) (v::us)) (EP X pins σ Q) X.xe s
theorem Vals.one:∀ {x:V} {us:List Value},Vals [x] us->∃u,us=[u]/\RelV x u
|_,_,.cons r .nil=>⟨_,rfl,r⟩
theorem Vals.rep{xs:List V}{us:List Value}(h:Vals xs us):∀k:Nat,Vals (List.replicate k xs).flatten (List.replicate k us).flatten
|0=>.nil
|k+1=>by
  rw[List.replicate_succ,List.replicate_succ,List.flatten_cons,List.flatten_cons]
  exact Vals.append h (Vals.rep h k)
section
variable {X:Cx} {pins:List (Addr×Obj)} {σ:St} {H:Hp} {s:Shared} {l b:Addr} {xs ys zs:List V}
theorem Inv.lset{its its':List Value}{n:Nat}{f:Array Value->Array Value}{t':Nat}(I:Inv X pins σ H s)(hH:H l=some (.lst xs))
  (e:s.heap.get? l=some { cls:=.type "list",data:=.seq its.toArray n }) (hf:f its.toArray=its'.toArray) (hv:Vals ys its') (hz:ys.length<=sizeLine) :
  Inv X pins σ (upd H l (.lst ys)) { s with heap:=s.heap.update l (Obj.mapSeq f),toks:=t' }:=by
 have q:=PySem.IsL.update e f
 rw[hf] at q
 refine I.write (x:=l) (e:=l) (by rw[hH];exact trivial) (.inl rfl) (λb' u hb hu=>(Heap.get?_update_other s.heap (Obj.mapSeq f) (Ne.symm hb)).trans hu) ⟨_,q⟩ ?_
 exact⟨hz,its',_,hv,q⟩
theorem Inv.lnew{its:List Value}{t':Nat}(I:Inv X pins σ H s)(hv:Vals ys its)(hz:ys.length<=sizeLine) :
  Inv X pins σ (upd H s.heap.objs.size (.lst ys)) { s with heap:=s.heap.push { cls:=.type "list",data:=.seq its.toArray },toks:=t' } :=
 I.laid (λ_ _ q=>Heap.get?_push_of_some _ q) (Nat.le_refl _) ⟨hz,its,0,hv,Heap.get?_push_size _ rfl⟩
theorem Inv.fresh(I:Inv X pins σ H s):H s.heap.objs.size=none:=I.hok.fresh (Nat.le_refl _)
theorem Inv.lstM(I:Inv X pins σ H s)(hH:H l=some (.lst xs)):xs.length<=sizeLine/\∃(its:List Value) (n:Nat),Vals xs its/\xs.length=its.length/\s.heap.get? l=some { cls:=.type "list",data:=.seq its.toArray n }:=by
 obtain⟨z,its,n,r,e⟩:=I.hok l _ hH
 exact⟨z,its,n,r,r.length,e⟩
end
section
variable {X:Cx}
def qx5:V->List V->Hp->VK->Prop:=λx vs H Q=>∃l xs y,x=.ref l/\vs=[y]/\H l=some (.lst xs)/\xs.length<sizeLine/\Q .non (upd H l (.lst (xs++[y])))
theorem qkm:MtM X "list.append" qx5:=by
 intro pins s σ H x vs v us Q I rx rv h
 obtain⟨l,xs,y,rfl,rfl,hH,hz,q⟩:=h
 cases rx
 obtain⟨u,rfl,ru⟩:=rv.one
 obtain⟨z,its,n,r,hl,e⟩:=I.lstM hH
 refine call_meets F.slot_list_append ⟨_,e,rfl⟩ F.entry_list_append (F.args_list_append_2 _ _) (PySem.list_append l its.toArray n u (by rw[List.size_toArray];lia)) ⟨e,?_⟩
 refine⟨.non,_,I.lset (its':=its++[u]) hH e (by simp) (r.append (.cons ru .nil)) ?_,rfl,q⟩
 rw[List.length_append,List.length_singleton]
 lia
def rCat:R2:=λx y H Q=>∃l b xs zs,x=.ref l/\y=.ref b/\H l=some (.lst xs)/\H b=some (.lst zs)/\xs.length+zs.length<=sizeLine/\∀p,H p=none->Q (.ref p) (upd H p (.lst (xs++zs)))
theorem qz5:OpR X (binaryOp .Add) rCat:=by
 intro pins s σ H x y v u Q I rx ry h
 obtain⟨l,b,xs,zs,rfl,rfl,hH,hB,hz,q⟩:=h
 cases rx
 cases ry
 obtain⟨z,its,n,r,hl,e⟩:=I.lstM hH
 obtain⟨z2,its2,n2,r2,hl2,e2⟩:=I.lstM hB
 refine PySem.P.add_list e e2 ?_ (by rw[List.size_toArray,List.size_toArray];lia)
 have ea:its.toArray++its2.toArray=(its++its2).toArray:=by simp
 rw[ea]
 exact⟨.ref _,_,I.lnew (t':=s.toks) (r.append r2) (by rw[List.length_append];lia),rfl,q _ I.fresh⟩
end
section
variable {prog:Program} {w:World} {A:Around} {E:Value->Shared->Prop} {s:Shared}
end
section
variable {X:Cx}
end
end L2
namespace L2
open PySem PySem.Spec PyProof.Rows
section
variable {κ:Type} [DecidableEq κ]
def valV(kvs:List (κ×V))(k:κ):Option V:=(kvs.find? λkv=>decide (kv.1=k)).map (·.2)
def putK(kvs:List (κ×V))(k:κ)(v:V):List (κ×V) :=
 if (kvs.any λkv=>decide (kv.1=k))=true then kvs.map (λkv=>if kv.1=k then (kv.1,v) else kv) else kvs++[(k,v)]
theorem qfw{p:κ×V}{r:List (κ×V)}{k:κ}(e:p.1=k):valV (p::r) k=some p.2:=by simp[valV,List.find?_cons,e]
theorem qfv{p:κ×V}{r:List (κ×V)}{k:κ}(e:¬ p.1=k):valV (p::r) k=valV r k:=by simp[valV,List.find?_cons,e]
theorem qn7(k:κ):∀kvs:List (κ×V),(kvs.any λkv=>decide (kv.1=k))=(valV kvs k).isSome
|[]=>rfl
|p::r=>by
  rw[List.any_cons]
  by_cases e:p.1=k
  ·simp only[qfw e,decide_eq_true e,Bool.true_or,Option.isSome_some]
  ·rw[qfv e,decide_eq_false e,Bool.false_or];exact qn7 k r
theorem qhg(kvs:List (κ×V))(k:κ)(v:V):(putK kvs k v).length<=kvs.length+1:=by
 unfold putK
 split
 ·rw[List.length_map];lia
 ·rw[List.length_append,List.length_cons,List.length_nil];lia
theorem RelO.isSome_eq{o:Option V}{u:Option Value}(r:RelO o u):o.isSome=u.isSome:=by
 cases o with
|none=>cases u with
 |none=>rfl
 |some _=>exact(show False from r).elim
|some _=>cases u with
 |none=>exact(show False from r).elim
 |some _=>rfl
theorem RelO.getD{o:Option V}{u:Option Value}{d:V}{d':Value}(r:RelO o u)(rd:RelV d d'):RelV (o.getD d) (u.getD d'):=by
 cases o with
|none=>cases u with
 |none=>exact rd
 |some _=>exact(show False from r).elim
|some _=>cases u with
 |none=>exact(show False from r).elim
 |some _=>exact r
theorem KV.val{kvs:List (κ×V)}{vs:List (κ×Value)}(r:KV kvs vs)(k:κ):RelO (valV kvs k) (valueAt vs k):=by
 unfold KV at r
 induction r with
|nil=>exact True.intro
|@cons p q ps qs h t ih =>
  obtain⟨h1,h2⟩:=h
  by_cases e:p.1=k
  ·have e':q.1=k:=h1.symm.trans e
   have b:valueAt (q::qs) k=some q.2:=by simp[valueAt,List.find?_cons,e']
   rw[qfw e,b];exact h2
  ·have e':¬ q.1=k:=λz=>e (h1.trans z)
   have b:valueAt (q::qs) k=valueAt qs k:=by simp[valueAt,List.find?_cons,e']
   rw[qfv e,b];exact ih
theorem KV.any{kvs:List (κ×V)}{vs:List (κ×Value)}(r:KV kvs vs)(k:κ):(kvs.any λkv=>decide (kv.1=k))=vs.any λkv=>decide (kv.1=k):=by
 unfold KV at r
 induction r with
|nil=>rfl
|cons h t ih=>rw[List.any_cons,List.any_cons,ih,h.1]
theorem KV.repl{kvs:List (κ×V)}{vs:List (κ×Value)}(r:KV kvs vs)(k:κ){y:V}{u:Value}(ry:RelV y u) :
  KV (kvs.map λkv=>if kv.1=k then (kv.1,y) else kv) (vs.map λkv=>if kv.1=k then (kv.1,u) else kv):=by
 unfold KV at r ⊢
 induction r with
|nil=>exact .nil
|@cons p q ps qs h t ih =>
  rw[List.map_cons,List.map_cons]
  refine .cons ?_ ih
  obtain⟨h1,h2⟩:=h
  by_cases e:p.1=k
  ·rw[if_pos e,if_pos (h1.symm.trans e)];exact⟨h1,ry⟩
  ·rw[if_neg e,if_neg (λz=>e (h1.trans z))];exact⟨h1,h2⟩
theorem KV.put{kvs:List (κ×V)}{vs:List (κ×Value)}(r:KV kvs vs)(k:κ){y:V}{u:Value}(ry:RelV y u):KV (putK kvs k y) (stored vs k u):=by
 unfold putK stored
 rw[r.any k]
 by_cases e:(vs.any λkv=>decide (kv.1=k))=true
 ·rw[if_pos e,if_pos e];exact r.repl k ry
 ·rw[if_neg e,if_neg e];exact Paired.snoc r ⟨rfl,ry⟩
theorem KV.length{kvs:List (κ×V)}{vs:List (κ×Value)}(r:KV kvs vs):kvs.length=vs.length:=Paired.length r
end
theorem qor{P:Program}{w:World}{k:Key}{u:Value}(r:RelV (kV k) u):(qbi P w).is k u=true:=by
 cases k with
|inl i=>obtain⟨t,e⟩:=(show ∃t,u=Value.int i t from r);subst e;exact qmc P w i t
|inr x=>obtain⟨t,e⟩:=(show ∃t,u=Value.str x t from r);subst e;exact qmd P w x t
theorem qkb{P:Program}{w:World}:∀ {ks:List Key} {us:List Value},Vals (ks.map kV) us->ItemsAre (qbi P w) ks us
|[],_,r=>by rw[List.map_nil] at r;cases r;exact .nil
|k::ks,_,r=>by
  rw[List.map_cons] at r
  cases r with
 |cons h t=>exact .cons (qor h) (qkb t)
abbrev KT(H:Hp):List (List Key×V)->List (List Key×Addr×Value)->Prop:=Paired λp q=>p.1=q.1/\H q.2.1=some (.tup (p.1.map kV))/\RelV p.2 q.2.2
theorem KT.val{H:Hp}{kvs:List (List Key×V)}{xs:List (List Key×Addr×Value)}(r:KT H kvs xs)(k:List Key):RelO (valV kvs k) ((atKey xs k).map (·.2)):=by
 induction r with
|nil=>exact True.intro
|@cons p q ps qs h t ih =>
  obtain⟨h1,_,h2⟩:=h
  by_cases e:p.1=k
  ·have e':q.1=k:=h1.symm.trans e
   have b:atKey (q::qs) k=some q.2:=by simp[atKey,List.find?_cons,e']
   rw[qfw e,b];exact h2
  ·have e':¬ q.1=k:=λz=>e (h1.trans z)
   have b:atKey (q::qs) k=atKey qs k:=by simp[atKey,List.find?_cons,e']
   rw[qfv e,b];exact ih
theorem KT.repl{H:Hp}{kvs:List (List Key×V)}{xs:List (List Key×Addr×Value)}(r:KT H kvs xs)(k:List Key){y:V}{u:Value}(ry:RelV y u) :
  KT H (kvs.map λkv=>if kv.1=k then (kv.1,y) else kv) (xs.map (putAt k u)):=by
 induction r with
|nil=>exact .nil
|@cons p q ps qs h t ih =>
  rw[List.map_cons,List.map_cons]
  refine .cons ?_ ih
  obtain⟨h1,h2,h3⟩:=h
  unfold putAt
  by_cases e:p.1=k
  ·rw[if_pos e,if_pos (h1.symm.trans e)];exact⟨h1,h2,ry⟩
  ·rw[if_neg e,if_neg (λz=>e (h1.trans z))];exact⟨h1,h2,h3⟩
theorem KT.put{H:Hp}{kvs:List (List Key×V)}{xs:List (List Key×Addr×Value)}(r:KT H kvs xs)(k:List Key){b:Addr}{y:V}{u:Value}(hb:H b=some (.tup (k.map kV)))(ry:RelV y u) :
  KT H (putK kvs k y) (storedH xs k b u):=by
 have e:(kvs.any λkv=>decide (kv.1=k))=(atKey xs k).isSome:=by
  rw[qn7,(r.val k).isSome_eq,Option.isSome_map]
 unfold putK storedH
 rw[e]
 by_cases q:(atKey xs k).isSome=true
 ·rw[if_pos q,if_pos q];exact r.repl k ry
 ·rw[if_neg q,if_neg q];exact Paired.snoc r ⟨rfl,hb,ry⟩
theorem KT.keeps{H H':Hp}{kvs:List (List Key×V)}{xs:List (List Key×Addr×Value)}(r:KT H kvs xs)(ht:∀b ys,H b=some (.tup ys)->H' b=some (.tup ys)):KT H' kvs xs :=
 Paired.mapP r λ_ _ z=>⟨z.1,ht _ _ z.2.1,z.2.2⟩
section
variable {P:Program} {w:World} {H:Hp} {h:Heap} {a:Addr}
theorem q1g{u:HO}(ok:HOk P w H h)(e:Rd H a u):ObjOk P w H h a u:=e.ok ok
theorem qlr{kvs:List (Key×V)}(ok:HOk P w H h)(e:Rd H a (.dK kvs)):kvs.length<=sizeLine/\(a==sysModules)=false/\∃vs,KV kvs vs/\h.DictOf (qbi P w) a vs :=
 show ObjOk P w H h a (.dK kvs) from q1g ok e
theorem q2c{kvs:List (Key×V)}(ok:HOk P w H h)(e:H a=some (.dK kvs)):kvs.length<=sizeLine/\(a==sysModules)=false/\∃vs,KV kvs vs/\h.DictOf (qbi P w) a vs:=qlr ok (.inl e)
theorem qhc{ks:List Key}(ok:HOk P w H h)(e:H a=some (.tup (ks.map kV))):(tupleKind (qbi P w)).is h ks a:=by
 obtain⟨_,its,r,o,h1,h2,n,h3⟩:=(show ObjOk P w H h a (.tup (ks.map kV)) from ok a _ e)
 exact⟨o,its.toArray,n,h1,h2,h3,by simpa using qkb r⟩
theorem qi1{kvs:List (List Key×V)}(ok:HOk P w H h)(e:Rd H a (.dT kvs)):kvs.length<=sizeLine/\(a==sysModules)=false /\
  ∃xs,KT H kvs xs/\h.DictOfH (tupleKind (qbi P w)) a xs:=by
 obtain⟨z,y,xs,r,o,es,ep,h1,h2,h3,h4,h5⟩:=(show ObjOk P w H h a (.dT kvs) from q1g ok e)
 refine⟨z,y,xs,r,o,es,ep,h1,h2,h3,h4,λx hx=>?_,h5⟩
 have all:∀ {l:List (List Key×V)} {m:List (List Key×Addr×Value)},KT H l m->∀x∈m,(tupleKind (qbi P w)).is h x.1 x.2.1:=by
  intro l m q
  induction q with
 |nil=>intro x hx;exact nomatch hx
 |@cons p q ps qs hq t ih =>
   intro x hx
   rcases List.mem_cons.mp hx with e|hx
   ·subst e
    exact qhc ok (by rw[←hq.1];exact hq.2.1)
   ·exact ih x hx
 exact all r x hx
theorem q2d{kvs:List (List Key×V)}(ok:HOk P w H h)(e:H a=some (.dT kvs)):kvs.length<=sizeLine/\(a==sysModules)=false /\
  ∃xs,KT H kvs xs/\h.DictOfH (tupleKind (qbi P w)) a xs:=qi1 ok (.inl e)
end
def DGet(H:Hp)(a:Addr)(y:V)(r:Option V):Prop :=
 (∃kvs k,Rd H a (.dK kvs)/\y=kV k/\r=valV kvs k)\/∃kvs k b,Rd H a (.dT kvs)/\y=.ref b/\H b=some (.tup (k.map kV))/\r=valV kvs k
def DPut(H:Hp)(a:Addr)(y v:V)(H':Hp):Prop :=
 (∃kvs k,H a=some (.dK kvs)/\y=kV k/\kvs.length<sizeLine/\H'=upd H a (.dK (putK kvs k v))) \/
 ∃kvs k b,H a=some (.dT kvs)/\y=.ref b/\H b=some (.tup (k.map kV))/\kvs.length<sizeLine/\H'=upd H a (.dT (putK kvs k v))
theorem DGet.k{H:Hp}{a:Addr}{kvs:List (Key×V)}{k:Key}(e:H a=some (.dK kvs)):DGet H a (kV k) (valV kvs k):=.inl ⟨kvs,k,.inl e,rfl,rfl⟩
theorem DPut.t{H:Hp}{a b:Addr}{kvs:List (List Key×V)}{k:List Key}{v:V}(e:H a=some (.dT kvs))(eb:H b=some (.tup (k.map kV)))(hl:kvs.length<sizeLine) :
  DPut H a (.ref b) v (upd H a (.dT (putK kvs k v))):=.inr ⟨kvs,k,b,e,rfl,eb,hl,rfl⟩
section
variable {X:Cx} {pins:List (Addr×Obj)} {σ:St} {H:Hp} {s:Shared} {a:Addr} {y v:V} {u r:Value} {o:Option V} {A:Around} {E:Value->Shared->Prop}
theorem Inv.big(I:Inv X pins σ H s):sysModules<s.heap.objs.size:=by
 have h:mainGlobals<s.heap.objs.size:=(I.mod.glob.keeps I.bk).lt
 exact Nat.lt_trans (by decide) h
theorem qp7{Q:Value->Shared->Prop}(hu:A.units+1<cLine)(I:Inv X pins σ H s)(g:DGet H a y (some v))(ry:RelV y u)(h:∀w' s',Inv X pins σ H s'->RelV v w'->Q w' s') :
  wpAny (model X.prog X.w) A (getItem (.ref a) u) Q E s:=by
 rcases g with ⟨kvs,k,e,ey,l⟩|⟨kvs,k,b,e,ey,eb,l⟩
 ·subst ey
  obtain⟨z,hd,vs,rel,dd⟩:=qlr I.hok e
  obtain⟨w',hw,rw'⟩:=RelO.some_of (v:=v) (o:=valueAt vs k) (by rw[l];exact rel.val k)
  exact wpAny_getItem_of (qor ry) dd.mapOf hw (h w' _ (I.tok _) rw')
 ·subst ey
  cases (show u=Value.ref b from ry)
  obtain⟨z,hd,xs,rel,dd⟩:=qi1 I.hok e
  obtain⟨w',hw,rw'⟩:=RelO.some_of (v:=v) (o:=(atKey xs k).map (·.2)) (by rw[l];exact rel.val k)
  obtain⟨p,hp,hp2⟩:=Option.map_eq_some_iff.mp hw
  refine wpAny_getItem_heap (tupleKind_room_in1 hu) (qhc I.hok eb) dd hp ?_
  rw[hp2]
  exact h w' _ (I.tok _) rw'
theorem d_in{Q:Value->Shared->Prop}(hu:A.units+1<cLine)(I:Inv X pins σ H s)(g:DGet H a y o)(ry:RelV y u)(h:∀s',Inv X pins σ H s'->Q (.bool o.isSome) s') :
  wpAny (model X.prog X.w) A (compareOp .In u (.ref a)) Q E s:=by
 rcases g with ⟨kvs,k,e,ey,l⟩|⟨kvs,k,b,e,ey,eb,l⟩
 ·subst ey
  obtain⟨z,hd,vs,rel,dd⟩:=qlr I.hok e
  refine wpAny_in_of (qor ry) hd dd.mapOf ?_
  rw[←(rel.val k).isSome_eq,←l]
  exact h _ (I.tok _)
 ·subst ey
  cases (show u=Value.ref b from ry)
  obtain⟨z,hd,xs,rel,dd⟩:=qi1 I.hok e
  refine wpAny_in_heap (tupleKind_room_in1 hu) (qhc I.hok eb) hd dd ?_
  have q:=(rel.val k).isSome_eq
  rw[Option.isSome_map] at q
  rw[←q,←l]
  exact h _ (I.tok _)
theorem qv7{Q:Value->Shared->Prop}(hu:A.units+1<cLine)(I:Inv X pins σ H s)(g:DGet H a y o)(ry:RelV y u)(h:∀s',Inv X pins σ H s'->Q (.bool (!o.isSome)) s') :
  wpAny (model X.prog X.w) A (compareOp .NotIn u (.ref a)) Q E s:=by
 rcases g with ⟨kvs,k,e,ey,l⟩|⟨kvs,k,b,e,ey,eb,l⟩
 ·subst ey
  obtain⟨z,hd,vs,rel,dd⟩:=qlr I.hok e
  refine wpAny_notIn_of (qor ry) hd dd.mapOf ?_
  rw[←(rel.val k).isSome_eq,←l]
  exact h _ (I.tok _)
 ·subst ey
  cases (show u=Value.ref b from ry)
  obtain⟨z,hd,xs,rel,dd⟩:=qi1 I.hok e
  refine wpAny_notIn_heap (tupleKind_room_in1 hu) (qhc I.hok eb) hd dd ?_
  have q:=(rel.val k).isSome_eq
  rw[Option.isSome_map] at q
  rw[←q,←l]
  exact h _ (I.tok _)
theorem qp9{h':Heap}{t':Nat}{ob:HO}(I:Inv X pins σ H s)(mu:Mut (H a))(hs:Heap.SameBut a s.heap h')(he:∃q,h'.get? a=some q)(new:ObjOk X.prog X.w (upd H a ob) h' a ob) :
  Inv X pins σ (upd H a ob) { s with heap:=h',toks:=t' } :=
 I.write (x:=a) (e:=a) mu (.inl rfl) (λb q hb z=>(hs.2 b hb).trans z) he new
theorem qzf{P:Program}{w:World}{H':Hp}{h':Heap}{kvs:List (Key×V)}{vs:List (Key×Value)}(z:kvs.length<=sizeLine)(hd:(a==sysModules)=false)(rel:KV kvs vs)(dd:h'.DictOf (qbi P w) a vs) :
  ObjOk P w H' h' a (.dK kvs):=⟨z,hd,vs,rel,dd⟩
theorem qp8{H':Hp}{Q:Unit->Shared->Prop}(hu:A.units+1<cLine)(I:Inv X pins σ H s)(g:DPut H a y v H')(ry:RelV y u)(rv:RelV v r)(h:∀s',Inv X pins σ H' s'->Q () s') :
  wpAny (model X.prog X.w) A (setItem (.ref a) u r) Q E s:=by
 rcases g with ⟨kvs,k,e,ey,l,eH⟩|⟨kvs,k,b,e,ey,eb,l,eH⟩
 ·subst ey eH
  obtain⟨z,hd,vs,rel,dd⟩:=q2c I.hok e
  have hz:vs.length<=sizeLine:=by rw[←rel.length];exact z
  have hl:(putK kvs k v).length<=sizeLine:=by have:=qhg kvs k v;lia
  refine wpAny_setItem_pairs (hsz:=hz) (qor ry) dd λh' dd' hs=>h _ ?_
  have he:∃q,h'.get? a=some q:=let ⟨q,_,_,hq,_⟩:=dd';⟨q,hq⟩
  exact qp9 I (by rw[e];exact True.intro) hs he (qzf hl hd (rel.put k rv) dd')
 ·subst ey eH
  cases (show u=Value.ref b from ry)
  obtain⟨z,hd,xs,rel,dd⟩:=q2d I.hok e
  have hz:xs.length<=sizeLine:=by rw[←Paired.length rel];exact z
  have hl:(putK kvs k v).length<=sizeLine:=by have:=qhg kvs k v;lia
  refine wpAny_setItem_heap (hsz:=hz) (tupleKind_room_in1 hu) (qhc I.hok eb) dd λh' dd' hs=>h _ ?_
  obtain⟨q,es,ep,hq,h2,h3,h4,_,h5⟩:=dd'
  refine qp9 I (by rw[e];exact True.intro) hs ⟨q,hq⟩ ⟨hl,hd,_,(rel.put k eb rv).keeps λc ys ec=>?_,q,es,ep,hq,h2,h3,h4,h5⟩
  rw[qbd (q2g ec e (λz=>nomatch z))]
  exact ec
end
section
variable {X:Cx} {pins:List (Addr×Obj)} {σ:St} {H:Hp} {s:Shared} {a:Addr} {kvs:List (Key×V)} {k:Key} {u:Value} {A:Around} {E:Value->Shared->Prop}
end
def NoSl(i:Expr):Prop:=∀ov iv,subscripted i false ov iv=operate [ov,iv] (getItem ov iv)
theorem qyg{prog:Program}{w:World}{A:Around}{E:Value->Shared->Prop}{s:Shared}{env:Env}{value slice:Expr}{pos:Pos}{T id:String}{Q:Value->Shared->Prop}
  (hl:typeLookup (.type T) "__getitem__" = pure (some (.builtin id))) (hs:NoSl slice)
  (h:wpAny (model prog w) A (eval value env) (λo s₁=>wpAny (model prog w) A (eval slice env) (λi s₂=>s₂.TypeIs o T/\wpAny (model prog w) A (getItem o i) Q E s₂) E s₁) E s) :
  wpAny (model prog w) A (eval (.Subscript value slice pos) env) Q E s:=by
 refine Subscript_ (wpAny_mono h (λo s₁ h₁=>wpAny_mono h₁ (λi s₂ h₂=>?_) λ_ _ x=>x) λ_ _ x=>x)
 obtain⟨hT,h₂⟩:=h₂
 unfold subscriptTail
 refine wpAny_bind ?_
 rw[getitemInPython_of_ne hT.not_modules]
 refine wpAny_bind (wpAny_specialOf hT hl ?_)
 have fin:wpAny (model prog w) A (subscripted slice false o i) (λr s₃=>wpAny (model prog w) A (letTemporaryGo value o r >>= λ_=>pure r) Q E s₃) E s₂:=by
  rw[hs o i]
  exact wpAny_operating (wpAny_mono h₂ (λr s₃ h₃=>wpAny_bind (wpAny_letTemporaryGo (wpAny_pure h₃))) λ_ _ x=>x)
 first
 |exact wpAny_pure (wpAny_bind fin)
 |exact wpAny_bind (wpAny_pure (wpAny_bind fin))
 |exact wpAny_bind fin
theorem qlq{X:Cx}{pins:List (Addr×Obj)}{σ:St}{H:Hp}{s:Shared}{a:Addr}{y:V}{o:Option V}(I:Inv X pins σ H s)(g:DGet H a y o):s.TypeIs (.ref a) "dict" := by
 rcases g with ⟨kvs,k,e,_,_⟩|⟨kvs,k,b,e,_,_,_⟩
 ·obtain⟨_,_,vs,_,dd⟩:=qlr I.hok e
  exact dd.typeIs
 ·obtain⟨_,_,xs,_,dd⟩:=qi1 I.hok e
  exact dd.typeIs
def q1u(td ty:TE):TE:=λσ H Q=>td σ H λx H1=>ty σ H1 λy H2=>∃a v,x=.ref a/\DGet H2 a y (some v)/\Q v H2
def tDIn(ty td:TE):TE:=λσ H Q=>ty σ H λy H1=>td σ H1 λx H2=>∃a o,x=.ref a/\DGet H2 a y o/\Q (.bl o.isSome) H2
def qmw(ty td:TE):TE:=λσ H Q=>ty σ H λy H1=>td σ H1 λx H2=>∃a o,x=.ref a/\DGet H2 a y o/\Q (.bl (!o.isSome)) H2
def q1q(td ty tv:TE):TS:=λD σ H=>tv σ H λv H1=>td σ H1 λx H2=>ty σ H2 λy H3=>∃a H4,x=.ref a/\DPut H3 a y v H4/\D.nx σ H4
section
variable {X:Cx} {o i e value:Expr} {pos pos' tpos:Pos} {td ty tv:TE}
theorem qxa(hu:X.A.units+1<cLine)(ho:PE X o td)(hi:PE X i ty)(hs:NoSl i):PE X (.Subscript o i pos) (q1u td ty):=by
 intro pins s σ H Q I h
 refine qyg PySem.F.slot_dict_getitem.lookup hs (thn (ho pins s σ H _ I h) λu s1 ⟨x,H1,I1,rx,q1⟩=>thn (hi pins s1 σ H1 _ I1 q1) λiv s2 ⟨y,H2,I2,ry,a,v,ex,g,q2⟩=>?_)
 subst ex
 obtain rfl:u=Value.ref a:=rx
 exact⟨qlq I2 g,qp7 hu I2 g ry λw' s3 I3 rw'=>⟨v,H2,I3,rw',q2⟩⟩
theorem q0e(hu:X.A.units+1<cLine)(hi:PE X i ty)(ho:PE X o td):PC X .In i o (tDIn ty td):=by
 intro pins s σ H Q I h
 refine thn (hi pins s σ H _ I h) λiv s1 ⟨y,H1,I1,ry,q1⟩=>thn (ho pins s1 σ H1 _ I1 q1) λu s2 ⟨x,H2,I2,rx,a,ov,ex,g,q2⟩=>?_
 subst ex
 obtain rfl:u=Value.ref a:=rx
 exact d_in hu I2 g ry λs3 I3=>⟨.bl ov.isSome,H2,I3,rfl,q2⟩
theorem qkt(hu:X.A.units+1<cLine)(hi:PE X i ty)(ho:PE X o td):PC X .NotIn i o (qmw ty td):=by
 intro pins s σ H Q I h
 refine thn (hi pins s σ H _ I h) λiv s1 ⟨y,H1,I1,ry,q1⟩=>thn (ho pins s1 σ H1 _ I1 q1) λu s2 ⟨x,H2,I2,rx,a,ov,ex,g,q2⟩=>?_
 subst ex
 obtain rfl:u=Value.ref a:=rx
 exact qv7 hu I2 g ry λs3 I3=>⟨.bl (!ov.isSome),H2,I3,rfl,q2⟩
theorem qxj(hu:X.A.units+1<cLine)(ho:PE X o td)(hi:PE X i ty)(hv:PE X value tv)(hs:swapsWith value (some (.Subscript o i pos')) pos.line X.env=pure false) :
  PS X (.Assign [.Subscript o i pos'] value pos) (q1q td ty tv):=by
 intro pins s σ H D I h
 refine wpAny_Assign_Subscript (thn (hv pins s σ H _ I h) λr s1 ⟨v,H1,I1,rv,q1⟩=>thn (ho pins s1 σ H1 _ I1 q1) λu s2 ⟨x,H2,I2,rx,q2⟩=>thn (hi pins s2 σ H2 _ I2 q2) λiv s3 ⟨y,H3,I3,ry,a,H4,ex,g,q3⟩=>?_) hs
 subst ex
 obtain rfl:u=Value.ref a:=rx
 exact qp8 hu I3 g ry rv λs4 I4=>⟨σ,H4,I4,q3⟩
end
theorem qs3{P:Program}{w:World}{H:Hp}(h:Heap)(hb:sysModules<h.objs.size):ObjOk P w H (h.push { cls:=.type "dict",data:=.dict #[] }) h.objs.size (.dT []) :=
 ⟨Nat.zero_le _,beq_eq_false_iff_ne.mpr (Ne.symm (Nat.ne_of_lt hb)),[],.nil,_,#[],0,Heap.get?_push_size _ rfl,⟨rfl,rfl,rfl⟩,rfl,rfl,List.nodup_nil⟩
def qvu:TE:=λ_ H Q=>∀p,H p=none->Q (.ref p) (upd H p (.dT []))
section
variable {X:Cx} {pos:Pos}
theorem qts:PE X (.Dict [] [] pos) qvu:=λpins s σ H Q I h =>
 wpAny_Dict_empty ⟨.ref s.heap.objs.size,_,I.laid (a:=s.heap.objs.size) (o:=.dT []) (t':=s.toks) (λ_ _ q=>Heap.get?_push_of_some _ q) (Nat.le_refl _) (qs3 s.heap I.big),rfl,h _ (I.hok.fresh (Nat.le_refl _))⟩
end
structure M1(X:Cx)(o:Expr)(m:Str)(apos:Pos)(e:Expr)(cpos:Pos):Prop where
 base:attributeBase o m X.env (eval o X.env)=eval o X.env
 few:((backTo cpos (starEach [e] X.env)).all (λx=>!x.1)&&(backToKw cpos (keywordEach [] X.env)).all (λx=>x.1.isSome)
  && decide (([e]:List Expr).length+([]:List Keyword).length+(if ([]:List Keyword).isEmpty then 0 else 1)<30))=true
 line:(apos.endLine==cpos.line)=true
 trees:backTo cpos (starEach [e] X.env)=[(false,eval e X.env)]
structure M2(X:Cx)(o:Expr)(m:Str)(apos:Pos)(e f:Expr)(cpos:Pos):Prop where
 base:attributeBase o m X.env (eval o X.env)=eval o X.env
 few:((backTo cpos (starEach [e,f] X.env)).all (λx=>!x.1)&&(backToKw cpos (keywordEach [] X.env)).all (λx=>x.1.isSome)
  && decide (([e,f]:List Expr).length+([]:List Keyword).length+(if ([]:List Keyword).isEmpty then 0 else 1)<30))=true
 line:(apos.endLine==cpos.line)=true
 trees:backTo cpos (starEach [e,f] X.env)=[(false,eval e X.env),(false,eval f X.env)]
def IsD(H:Hp)(a:Addr):Prop:=(∃kvs,Rd H a (.dK kvs))\/∃kvs,Rd H a (.dT kvs)
theorem qzo{X:Cx}{pins:List (Addr×Obj)}{σ:St}{H:Hp}{s:Shared}{a:Addr}(I:Inv X pins σ H s)(d:IsD H a) :
  s.TypeIs (.ref a) "dict" /\ (∀b,Value.ref a=.ref b->∃ob,s.heap.get? b=some ob/\ob.dict=none)/\(a==sysModules)=false:=by
 rcases d with ⟨kvs,e⟩|⟨kvs,e⟩
 ·obtain⟨_,hd,vs,_,dd⟩:=qlr I.hok e
  refine⟨dd.typeIs,λb q=>?_,hd⟩
  cases q
  obtain⟨ob,_,_,h1,h2,_⟩:=dd
  exact⟨ob,h1,h2.2.1⟩
 ·obtain⟨_,hd,xs,_,dd⟩:=qi1 I.hok e
  refine⟨dd.typeIs,λb q=>?_,hd⟩
  cases q
  obtain⟨ob,_,_,h1,h2,_⟩:=dd
  exact⟨ob,h1,h2.2.1⟩
section
variable {X:Cx} {pins:List (Addr×Obj)} {σ:St} {H:Hp} {s:Shared} {a:Addr} {y d:V} {u r:Value} {o:Option V} {A:Around} {E:Value->Shared->Prop}
theorem qzb{Q:Value->Shared->Prop}(hu:A.units+1<cLine)(I:Inv X pins σ H s)(g:DGet H a y o)(ry:RelV y u)(h:∀w' s',Inv X pins σ H s'->RelV (o.getD .non) w'->Q w' s') :
  wpAny (model X.prog X.w) A (call (.builtin "dict.get") [.ref a,u]) Q E s:=by
 rcases g with ⟨kvs,k,e,ey,l⟩|⟨kvs,k,b,e,ey,eb,l⟩
 ·subst ey
  obtain⟨z,hd,vs,rel,dd⟩:=qlr I.hok e
  refine call_meetsIn PySem.F.slot_dict_get dd.typeIs PySem.F.entry_dict_get (PySem.F.args_dict_get_2 _ _) (meets_dict_get (qbi X.prog X.w) a (qor ry) hd) ⟨_,dd.mapOf,h _ _ (I.tok _) ?_⟩
  rw[l]
  exact(rel.val k).getD rfl
 ·subst ey
  cases (show u=Value.ref b from ry)
  obtain⟨z,hd,xs,rel,dd⟩:=qi1 I.hok e
  refine call_meetsIn PySem.F.slot_dict_get dd.typeIs PySem.F.entry_dict_get (PySem.F.args_dict_get_2 _ _) (meetsH_dict_get (tupleKind (qbi X.prog X.w)) a b hd) ⟨tupleKind_room_in1 hu,k,xs,qhc I.hok eb,dd,h _ _ (I.tok _) ?_⟩
  rw[l]
  exact(rel.val k).getD rfl
end
def qvt(td ty:TE):TE:=λσ H Q=>td σ H λx H1=>∃a,x=.ref a/\IsD H1 a/\ty σ H1 λy H2=>∃o,DGet H2 a y o/\Q (o.getD .non) H2
section
variable {X:Cx} {o e f:Expr} {apos cpos:Pos} {td ty tx:TE}
theorem qtr(hu:X.A.units+1<cLine)(ho:PE X o td)(he:PE X e ty)(m:M1 X o "get" apos e cpos):PE X (.Call (.Attribute o "get" apos) [e] [] cpos) (qvt td ty):=by
 intro pins s σ H Q I h
 refine wpAny_Call_method m.base m.few m.line PySem.F.plainAttrs_dict PySem.F.slot_dict_get PySem.F.type_dict_get (thn (ho pins s σ H _ I h) λu s1 ⟨x,H1,I1,rx,a,ex,d,q1⟩=>?_)
 subst ex
 obtain rfl:u=Value.ref a:=rx
 obtain⟨t1,t2,_⟩:=qzo I1 d
 refine⟨t1,t2,?_⟩
 rw[m.trees]
 refine Calls.callWith_builtin rfl (Calls.evalArgs_plain (Calls.spliced_cons (thn (he pins s1 σ H1 _ I1 q1) λiv s2 ⟨y,H2,I2,ry,ov,g,q2⟩=>Calls.spliced_nil ?_)))
 exact qzb hu I2 g ry λw' s3 I3 rw'=>⟨_,H2,I3,rw',q2⟩
end
section
variable {X:Cx} {pins:List (Addr×Obj)} {σ:St} {H:Hp} {s:Shared} {a:Addr} {kvs:List (Key×V)} {A:Around} {E:Value->Shared->Prop}
end
section
variable {X:Cx} {pins:List (Addr×Obj)} {σ:St} {H:Hp} {s:Shared} {a:Addr} {y:V} {u:Value} {A:Around} {E:Value->Shared->Prop}
end
end L2
namespace Att
open PySem PySem.W PySem.Calls PyProof.Rows
theorem qha{P:Params}{h:Heap}:∀(ns:List Int) (vs:List Value),WellAll P h vs (ns.map WData.int)->IntsAre vs ns:=by
 intro ns
 induction ns with
|nil =>
  intro vs w
  rw[List.map_nil] at w
  cases w
  exact .nil
|cons n ns ih =>
  intro vs w
  rw[List.map_cons] at w
  cases w with
 |cons a b =>
   cases a
   exact .cons _ _ (ih _ b)
theorem qrs{l:OpenLaw}{n:Nat}(hn:l.most=some n){P:Params}{h:Heap}{args:List WData}{vals:List Value}
  (hpre:l.row.toRowW.claim.pre args=true) (hwl:WellAll P h vals args) :
  ∃a vs ns,vals=[Value.ref a]/\args=[WData.list (ns.map WData.int)]/\h.get? a=some { cls:=.type "list",data:=.seq vs.toArray }/\IntsAre vs ns/\ns.length<=n:=by
 have hsh:WShape.hasAll [] args [.list .int]=true:=(pre_splitW hpre).1
 have hc:l.pre.holds [] { args:=args }=true:=(pre_splitW hpre).2
 obtain⟨d,r,rfl,h1,h2⟩:=hasAllW_cons hsh
 obtain rfl:=hasAllW_nil h2
 obtain⟨xs,rfl,h3⟩:=hasW_list h1
 obtain⟨ns,rfl⟩:=items_int h3
 have hlen:ns.length<=n:=by
  unfold OpenLaw.pre at hc
  have h4:(WTm.not (.lt (.lit (.int (n:Int))) (.len (.arg 0)))).holds [] { args:=[.list (ns.map .int)] }=true:=by
   have h4:=(holds_andW hc).1
   rw[hn] at h4
   exact h4
  have h5:=condW_of h4 (w_not (w_lt w_lit (w_len_list (w_arg rfl))))
  rw[List.length_map] at h5
  refine Nat.le_of_not_lt λq=>?_
  have q':(n:Int)<((ns.length:Nat):Int):=by lia
  first
  |(rw[decide_eq_true q'] at h5;exact absurd h5 (by decide))
  |(simp at h5;lia)
 cases hwl with
|cons w1 w2 =>
  cases w2
  cases w1 with
 |list ho hall=>exact⟨_,_,ns,rfl,rfl,ho,qha ns _ hall,hlen⟩
theorem qrg(l:OpenLaw)(args:List WData):l.row.toRowW.claim.post args (.bool true) args=true :=
 postW_of (r:=l.row.toRowW) (X:=(true==true))
  (show WShape.has [] (.bool true) .bool=true by first|rfl|decide|simp[WShape.has,WShape.arms,WShape.armsAll])
  (show (WTm.eq .res (.lit (.bool true))).value [] { args:=args,res:=some (.bool true),after:=args }=some (.bool (true==true)) from w_eq_bool (w_res rfl) w_lit) rfl
theorem attach_call{l:OpenLaw}{n:Nat}{q:Program}{loose:List Str}{XP:(Str->Option Value)->Heap->Prop}{YP:World->Heap->Prop}{d:DefRec}
  (hn:l.most=some n) (hdf:d.params.defaults=[])
  (call:∀(w:World) (s₀ s₁:Shared) (mg mb:Str->Option Value) (fa:Addr) (o:Obj) (pm cd doc:Value) (a:Addr) (vs:List Value) (ns:List Int),
   Ground q loose [] XP w s₀ mg mb s₁.heap->YP w s₁.heap ->
   s₁.heap.get? fa=some o->o.data=.func (docDef d.name d.params d.body d.scope pm cd doc)->s₁.heap.CodeRec cd d.name->mg d.name=some (.ref fa) ->
   s₁.heap.get? a=some { cls:=.type "list",data:=.seq vs.toArray }->IntsAre vs ns->ns.length<=n->s₁.gens=#[] ->
   codeAny (model l.prog w) callerA (.call (.ref fa) ⟨[.ref a],[]⟩) (λr s'=>r=.ok (.ret (.bool true))/\OldK s₁.heap s'.heap/\s'.os=s₁.os/\AllBare s'.gens) s₁) :
  WalkO q loose XP YP l.row.toRowW d [] (λf vs=>PySem.call f vs):=by
 intro w s₀ s₁ mg mb G Y fa o pm cd doc dV kV ho hd hcd hD hmg hg args vals as hpre hlay hrd hwl hlo
 obtain rfl:dV=.none:=Dflts.none hD hdf
 obtain rfl:kV=.none:=Dflts.noKw hD
 obtain⟨a,vs,ns,rfl,rfl,hobj,hints,hlen⟩:=qrs hn hpre hwl
 refine enter_call (codeAny_mono (call w s₀ s₁ mg mb fa o pm cd doc a vs ns G Y ho (fd_plain hd) hcd hmg hobj hints hlen hg) λr s' hq=>?_)
 obtain⟨rfl,h2,h3,h4⟩:=hq
 exact⟨.inl ⟨.bool true,.bool true,[],rfl,λ_=>rfl,.bool true,qrg l _,λ_=>⟨List.Pairwise.nil,λ_ hm=>(nomatch hm)⟩⟩,h2,h3,h4⟩
section
variable {prog:Program} {w:World} {A:Around} {E:Value->Shared->Prop} {s:Shared} {K:Frag}
end
end Att
namespace L2
open PySem PySem.Spec PyProof.Rows
theorem qk6:∀ {vs:List Value} {ns:List Int},IntsAre vs ns->Vals (ns.map V.int) vs
|_,_,.nil=>.nil
|_,_,.cons n t h=>.cons ⟨t,rfl⟩ (qk6 h)
def Only(H:Hp):Prop:=∀b,H b=none\/∃o xs,H b=some (.frz o (.lst xs))
theorem qte{P:Program}{w:World}{K:PySem.W.Frag}{mg mb:Str->Option Value}{CX:CXT}{k:Nat}{fa a:Addr}{fd:FuncData}{x:Str}{sp:Sp}{s₁:Shared}{vs:List Value}{ns:List Int}
  (KX:K.In s₁.heap) (hns:s₁.heap.Ns mainGlobals mg) (hb:s₁.heap.Ns builtinsNs mb) (hbb:∀x:Str,x≠"__name__" -> mb x=bootBuiltins x) (hlim:s₁.heap.NoLimit) (hg:s₁.gens=#[])
  (ha:s₁.heap.get? a=some { cls:=.type "list",data:=.seq vs.toArray }) (hi:IntsAre vs ns) (hl:ns.length<=sizeLine) (hr:Room k callerA)
  (F:∀base:Heap,K.In base->base.Ns mainGlobals mg->FnOk P w K mg base CX k fa fd [x] sp) (hbind:∀(s:Shared) (u:Value),BindsTo s fd ⟨[u],[]⟩ [(x,u)])
  (hsp:∀H:Hp,Only H->SqL K H a (ns.map V.int)->sp [.ref a] H (λv _=>v=.bl true) λ_ _ _=>False)
  (hCX:∀H e s',CX [] H s₁ (λ_ _ _=>False) e s'->False) :
  codeAny (model P w) callerA (.call (.ref fa) ⟨[.ref a],[]⟩) (λr s'=>r=.ok (.ret (.bool true))/\OldK s₁.heap s'.heap/\s'.os=s₁.os/\AllBare s'.gens) s₁:=by
 have rv:=qk6 hi
 have lenV:=hi.length
 have core:∀H:Hp,Only H->SqL K H a (ns.map V.int)->HOk P w H s₁.heap->(∀b,H b≠none->b=a)->(H a≠none->K.lookup a=none) ->
   codeAny (model P w) callerA (.call (.ref fa) ⟨[.ref a],[]⟩) (λr s'=>r=.ok (.ret (.bool true))/\OldK s₁.heap s'.heap/\s'.os=s₁.os/\AllBare s'.gens) s₁:=by
  intro H hO hS hok hA hK
  have base_of:∀ {b:Addr} {o:Obj},s₁.heap.get? b=some o->H b=none->(hidT s₁.heap H).get? b=some o:=λe n=>qs6 e n
  have noA:∀ {b:Addr} {o:Obj} {es:Array DictEntry} {ep:Nat},s₁.heap.get? b=some o->o.data=.dict es ep->H b=none:=λ{b o es ep} e d=>by
   cases q:H b with
  |none=>rfl
  |some u =>
    have e':b=a:=hA b (by rw[q];simp)
    subst e'
    rw[ha] at e;cases e
    have d':Data.seq vs.toArray _=Data.dict es ep:=d
    cases d'
  have nsK:∀ {b:Addr} {m:Str->Option Value},s₁.heap.Ns b m->(hidT s₁.heap H).Ns b m:=λ{b m} ⟨o,es,ep,e,d,r⟩=>⟨o,es,ep,base_of e (noA e d),d,r⟩
  have hKb:K.In (hidT s₁.heap H):=λb o e=>base_of (KX b o e) (by
   cases q:H b with
  |none=>rfl
  |some u =>
    have e':b=a:=hA b (by rw[q];simp)
    subst e'
    rw[hK (by rw[q];simp)] at e;cases e)
  have hM:Mod K mg (hidT s₁.heap H):=⟨hKb,nsK hns,⟨mb,nsK hb,hbb⟩,let ⟨mc,h1,h2⟩:=hlim;⟨mc,nsK h1,h2⟩⟩
  have e0:Env0 P w K mg (hidT s₁.heap H) callerA [] s₁ H:=⟨rfl,hM,λb o e=>qwt e,Nat.le_of_eq (qqq _ _),trivial,λb hb=>absurd (show b∈([]:List Addr) from hb) (by simp),hok,.of_eq hg⟩
  refine codeAny_mono ((F _ hKb (nsK hns)).run callerA [] s₁ H ⟨[.ref a],[]⟩ [.ref a] [.ref a] _ _ hr e0 (hbind s₁ (.ref a)) (.cons rfl .nil) (hsp H hO hS)) λr s' h=>?_
  cases r with
 |error e=>exact(hCX H e s' h).elim
 |ok fl =>
   cases fl with
  |next=>exact False.elim h
  |brk=>exact False.elim h
  |cont=>exact False.elim h
  |ret u =>
    obtain⟨v,H',os,bare,un,hok',r',q⟩:=h
    have q':v=.bl true:=q
    subst q'
    obtain rfl:u=Value.bool true:=r'
    refine⟨rfl,OldK.of_keep λb o e=>?_,os,bare⟩
    cases q:H b with
   |none=>exact un.keep b o e q (by intro z;exact absurd (show b∈([]:List Addr) from z) (by simp)) (by simp)
   |some u =>
     rcases hO b with z|⟨ob,xs,z⟩
     ·rw[q] at z;cases z
     ·have z2:=un.frzs b ob _ z
      obtain⟨e1,_⟩:=hok b _ z
      obtain⟨e2,_⟩:=hok' b _ z2
      rw[e] at e1;cases e1
      exact e2
 cases hk:K.lookup a with
|some o =>
  have e:=KX a o hk
  rw[ha] at e
  cases e
  refine core (λ_=>none) (λ_=>.inl rfl) (.inr ⟨_,vs.toArray,_,hk,rfl,rfl,rfl,by rw[List.size_toArray,lenV];exact hl,by simpa using rv⟩) (λb u z=>by have z':(none:Option HO)=some u:=z;cases z') (λb z=>absurd rfl z) λz=>absurd rfl z
|none =>
  refine core (λb=>if b=a then some (.frz { cls:=.type "list",data:=.seq vs.toArray } (.lst (ns.map V.int))) else none) (λb=>?_) (.inl (.inr ⟨{ cls:=.type "list",data:=.seq vs.toArray },if_pos rfl⟩)) (λb u z=>?_) (λb z=>?_) λ_=>hk
  ·by_cases hb:b=a
   ·exact .inr ⟨_,_,if_pos hb⟩
   ·exact .inl (if_neg hb)
  ·by_cases hb:b=a
   ·have z':=(if_pos hb).symm.trans z
    cases z'
    subst hb
    exact⟨ha,by rw[List.length_map];exact hl,vs,_,rv,ha⟩
   ·have z':=(if_neg hb).symm.trans z
    cases z'
  ·by_cases hb:b=a
   ·exact hb
   ·exact absurd (if_neg hb) z
end L2
namespace L2
open PySem PySem.Spec PyProof.Rows
theorem q3g{l:PySem.W.OpenLaw}{n k:Nat}{q:Program}{loose:List Str}{XP:(Str->Option Value)->Heap->Prop}{YP:World->Heap->Prop}{d:DefRec}{K:Params->PySem.W.Frag}{CX:World->CXT}{sp:World->Sp}{x:Str}
  (hn:l.most=some n) (hn2:n<=sizeLine) (hdf:d.params.defaults=[]) (hr:Room k callerA)
  (hY:∀(w:World) (h:Heap),YP w h->(K w.params).In h)
  (F:∀(w:World) (mg:Str->Option Value) (fa:Addr) (h:Heap),(K w.params).In h->h.Ns mainGlobals mg->mg d.name=some (.ref fa) ->
   ∃fd:FuncData,(∀(s:Shared) (u:Value),BindsTo s fd ⟨[u],[]⟩ [(x,u)]) /\
    ∀base:Heap,(K w.params).In base->base.Ns mainGlobals mg->FnOk l.prog w (K w.params) mg base (CX w) k fa fd [x] (sp w))
  (hsp:∀(w:World) (H:Hp) (a:Addr) (ns:List Int),ns.length<=n->Only H->SqL (K w.params) H a (ns.map V.int)->sp w [.ref a] H (λv _=>v=.bl true) λ_ _ _=>False)
  (hCX:∀(w:World) (H:Hp) (s:Shared) (e:Value) (s':Shared),CX w [] H s (λ_ _ _=>False) e s'->False) :
  PySem.W.WalkO q loose XP YP l.row.toRowW d [] (λf vs=>PySem.call f vs):=by
 refine Att.attach_call hn hdf λw s₀ s₁ mg mb fa o pm cd doc a vs ns G Y ho hd hcd hmg hobj hints hlen hg=>?_
 have KX:=hY w _ Y
 obtain⟨fd,hb,hF⟩:=F w mg fa _ KX G.T.g hmg
 exact qte KX G.T.g G.T.b G.T.builtins G.T.nolimit hg hobj hints (Nat.le_trans hlen hn2) hr hF hb (λH hO hS=>hsp w H a ns hlen hO hS) λH e s'=>hCX w H s₁ e s'
end L2
namespace L2
open PySem PySem.Spec PyProof.Rows
def qaw(s:Stmt):Arguments:=match s with
|.FunctionDef _ a _ _ _ _ _ _ _ _=>a
|_=>{ posonlyargs:=[],args:=[],vararg:=none,kwonlyargs:=[],kw_defaults:=[],kwarg:=none,defaults:=[] }
def qav(s:Stmt):List Stmt:=match s with
|.FunctionDef _ _ b _ _ _ _ _ _ _=>b
|_=>[]
def qae(s:Stmt):Scope:=match s with
|.FunctionDef _ _ _ _ _ _ sc _ _ _=>sc
|_=>{ kind:=.function,names:=[],isGenerator:=false,isCoroutine:=false }
abbrev CX0:CXT:=λ_ _ _ _ _ _=>False
abbrev E0:XK:=λ_ _ _=>False
theorem q2n{X:Cx}:qpr CX0 X E0:=λ_ _ _ _ _ _ _ h=>h.elim
structure Fun(K:PySem.W.Frag)(x qual:Str)(st:Stmt)(f:Addr)(fd:FuncData):Prop where
 ex:∃(oc:Value) (od:Option Addr) (kV doc pm:Value) (an:Option Addr) (cdv ct:Value) (osl:Array (Option Value)),
  fd=PySem.W.fnOf x qual (qaw st) (qav st) (qae st) .none kV doc pm an cdv ct/\K.lookup f=some ⟨oc,od,.func fd,osl⟩/\PySem.W.codeIn K cdv qual=true
 kp:PySem.W.keepIn K (.ref f)=true
section
variable {P:Program} {w:World} {K:PySem.W.Frag} {mg:Str->Option Value} {base:Heap}
theorem Fun.ok{x qual:Str}{st:Stmt}{f:Addr}{fd:FuncData}{N ps:List Str}{k:Nat}{sp:Sp}(F:Fun K x qual st f fd)(S:FnScope N ps (qae st))(len:∀vs H Q E,sp vs H Q E->vs.length=ps.length)
  (hbody:∀(cdv:Value) (A:Around) (outer:List Env) (s:Shared) (H:Hp) (vs:List V) (Q:VK) (E:XK),Room k (A.deeper (envOfC qual (qae st) s.heap.objs.size f cdv))->sp vs H Q E ->
   ∃t,PSs (cxOf CX0 P w K mg base N qual (qae st) f cdv A outer s H E).nox (qav st) t/\t { nx:=λ_ H'=>Q .non H',rt:=Q } (start N vs) H):FnOk P w K mg base CX0 (k+1) f fd ps sp:=by
 obtain⟨oc,od,kV,doc,pm,an,cdv,ct,osl,rfl,lk,hcd⟩:=F.ex
 refine q2e lk hcd S len λA outer s H vs Q E hr hsp=>?_
 obtain⟨t,h,q⟩:=hbody cdv A outer s H vs Q E hr hsp
 exact⟨t,h.nox,q⟩
theorem Fun.binds{x qual:Str}{st:Stmt}{f:Addr}{fd:FuncData}{ps:List Str}(F:Fun K x qual st f fd)
  (h:∀(kV doc pm:Value) (an:Option Addr) (cdv ct:Value) (us:List Value),us.length=ps.length->bindArgs (PySem.W.fnOf x qual (qaw st) (qav st) (qae st) .none kV doc pm an cdv ct) ⟨us,[]⟩=pure (ps.zip us)):Binds K fd ps []:=by
 obtain⟨oc,od,kV,doc,pm,an,cdv,ct,osl,rfl,lk,hcd⟩:=F.ex
 exact .all (h kV doc pm an cdv ct)
theorem qbo{x qual:Str}{st:Stmt}{f:Addr}{oc:Value}{od an:Option Addr}{osl:Array (Option Value)}{kV doc pm cdv ct:Value}(l:K.lookup f=some ⟨oc,od,.func (PySem.W.fnOf x qual (qaw st) (qav st) (qae st) .none kV doc pm an cdv ct),osl⟩)
  (c:PySem.W.codeIn K cdv qual=true) (k:PySem.W.keepIn K (.ref f)=true):Fun K x qual st f (PySem.W.fnOf x qual (qaw st) (qav st) (qae st) .none kV doc pm an cdv ct):=⟨⟨oc,od,kV,doc,pm,an,cdv,ct,osl,rfl,l,c⟩,k⟩
end
section
variable {X:Cx}
end
theorem iteF{A B:Prop}(h:B):if false=true then A else B:=by
 rw[if_neg Bool.false_ne_true]
 exact h
theorem iteT{A B:Prop}(h:A):if true=true then A else B:=by
 rw[if_pos rfl]
 exact h
def Same(H H':Hp):Prop:=∀b o,H b=some o->H' b=some o
theorem Same.refl(H:Hp):Same H H:=λ_ _ h=>h
theorem Same.trans{H H1 H2:Hp}(a:Same H H1)(b:Same H1 H2):Same H H2:=λc o h=>b c o (a c o h)
theorem Same.free{H H':Hp}(e:Same H H'){l:Addr}(h:H' l=Option.none):H l=Option.none:=by
 cases q:H l with
|none=>rfl
|some o =>
  rw[e l o q] at h
  cases h
theorem Same.seq{K:PySem.W.Frag}{H H':Hp}{a:Addr}{xs:List V}(e:Same H H')(h:SqL K H a xs):SqL K H' a xs:=by
 rcases h with (h|⟨o,h⟩)|h
 ·exact .inl (.inl (e _ _ h))
 ·exact .inl (.inr ⟨o,e _ _ h⟩)
 ·exact .inr h
end L2
namespace L2
open PySem PySem.Spec PyProof.Rows
theorem qba:1000<=sizeLine:=by decide
theorem qax{H:Hp}{l:Addr}(h:H l=none)(o:HO):Same H (upd H l o):=λb u e=>by
 rw[qbd (qcu e h)]
 exact e
theorem Same.put{H H':Hp}{p:Addr}{o:HO}(e:Same H H')(h:H p=none):Same H (upd H' p o):=λb u q=>by
 rw[qbd (qcu q h)]
 exact e b u q
theorem qcd{α:Type}{xs:List α}{k:Int}(h0:0<=k)(h1:k<(xs.length:Int)):∃v,atI xs k=some v/\xs[k.toNat]?=some v:=by
 have hk:k.toNat<xs.length:=by lia
 have e:xs[k.toNat]?=some xs[k.toNat]:=List.getElem?_eq_getElem hk
 refine⟨xs[k.toNat],?_,e⟩
 have:=qv4 e
 rw[Int.toNat_of_nonneg h0] at this
 exact this
theorem qy4{α β:Type}{f:α->β}{xs:List α}{k:Int}{v:α}(h:atI xs k=some v):atI (xs.map f) k=some (f v):=by
 unfold atI at h ⊢
 rw[List.length_map]
 cases e:ixN xs.length k with
|none =>
  rw[e] at h
  cases h
|some j =>
  rw[e] at h
  have h':xs[j]?=some v:=h
  show (xs.map f)[j]?=some (f v)
  rw[List.getElem?_map,h']
  rfl
def cutL{α:Type}(xs:List α)(lo hi:Option Int):List α:=(xs.drop (HT.sIx xs.length 0 lo)).take (HT.sIx xs.length xs.length hi-HT.sIx xs.length 0 lo)
theorem qs2{α:Type}(f:α->V)(xs:List α)(lo hi:Option Int):cutV (xs.map f) lo hi=(cutL xs lo hi).map f:=by
 unfold cutV cutL
 rw[List.length_map,List.map_take,List.map_drop]
theorem qg2{α:Type}(xs:List α):cutL xs none (some (-1))=xs.dropLast:=by
 unfold cutL
 rw[HT.sIx_none]
 show (xs.drop 0).take ((if (-1:Int)<0 then ((-1:Int)+(xs.length:Int)).toNat else min (-1:Int).toNat xs.length)-0)=xs.dropLast
 rw[if_pos (by decide),List.drop_zero,List.dropLast_eq_take]
 congr 1
 lia
theorem qdj{α:Type}(xs:List α)(k:Nat):cutL xs none (some (k:Int))=xs.take k:=by
 unfold cutL
 rw[HT.sIx_none,HT.sIx_nat,List.drop_zero,Nat.sub_zero]
 by_cases h:k<=xs.length
 ·rw[Nat.min_eq_left h]
 ·rw[Nat.min_eq_right (by lia),List.take_length,List.take_of_length_le (by lia)]
theorem qg1{α:Type}(xs:List α)(k:Nat):cutL xs (some (k:Int)) none=xs.drop k:=by
 unfold cutL
 rw[HT.sIx_none,HT.sIx_nat]
 by_cases h:k<=xs.length
 ·rw[Nat.min_eq_left h,List.take_of_length_le (by rw[List.length_drop];lia)]
 ·rw[Nat.min_eq_right (by lia),List.drop_length,List.drop_of_length_le (by lia),List.take_nil]
def Its(z:Str):It:=⟨λi _=>i<z.cps.size,λi H x H'=>H'=H/\∃c,z.cps[i]?=some c/\x=.str ⟨#[c]⟩,λi _=>z.cps.size<=i⟩
theorem qo8{P:Program}{w:World}{K:PySem.W.Frag}{tg:Expr}(it:Addr)(z:Str)(t:Tok):Turn P w K tg (Its z) [it] it (λi h=>h.IsStrIter it "str_ascii_iterator" z t i) where
 mem:=by simp
 obj:=λi h st b hb=>by
  have e:b=it:=by simpa using hb
  subst e
  obtain⟨o,e,c,d⟩:=st
  exact⟨o,e,λv z=>by rw[d] at z;cases z⟩
 keep:=λi h h' st k=>by
  obtain⟨o,e,r⟩:=st
  exact⟨o,k it (by simp) o e,r⟩
 item:=by
  intro X hP hw hK hc i pins s σ H E I hf st hg
  subst hP hw hK
  obtain⟨f0,f1,f2,f3,f4,f5⟩:=hf it (by simp)
  have hx:z.cps[i]?=some z.cps[i]:=Array.getElem?_eq_getElem hg
  refine wpAny_pyNext_ascii_item st hx λh' st' sb=>?_
  have I1:Inv X pins σ H { s with heap:=h',toks:=s.toks+1 }:=I.turned (λb o hb e=>(sb.2 b hb).trans e) f0 f1 f3 f4 f5
  obtain⟨o,e,c,d⟩:=id st'
  exact⟨_,rfl,qqp (s:={ s with heap:=h',toks:=s.toks+1 }) e c d (by decide) ⟨.str ⟨#[z.cps[i]]⟩,H,I1,⟨_,rfl⟩,⟨rfl,_,hx,rfl⟩,st',λb hb=>(hf b hb).1⟩⟩
 done:=by
  intro X hP hw hK hc i pins s σ H E I hf st hg
  subst hP hw hK
  obtain⟨f0,f1,f2,f3,f4,f5⟩:=hf it (by simp)
  exact wpAny_pyNext_ascii_end (I.ok.hd hc) st (Array.getElem?_eq_none hg) λh' eb=>⟨rfl,I.turned (t':=s.toks) (λb o hb e=>eb b o hb e) f0 f1 f3 f4 f5⟩
 self:=λ_ _ _ _ _ st h=>wpAny_pyIter_striter_ascii st h
theorem qr5{P:Program}{w:World}{K:PySem.W.Frag}{tg:Expr}(it:Addr)(z:Str)(t:Tok):Turn P w K tg (Its z) [it] it (λi h=>h.IsStrIter it "str_iterator" z t i) where
 mem:=by simp
 obj:=λi h st b hb=>by
  have e:b=it:=by simpa using hb
  subst e
  obtain⟨o,e,c,d⟩:=st
  exact⟨o,e,λv z=>by rw[d] at z;cases z⟩
 keep:=λi h h' st k=>by
  obtain⟨o,e,r⟩:=st
  exact⟨o,k it (by simp) o e,r⟩
 item:=by
  intro X hP hw hK hc i pins s σ H E I hf st hg
  subst hP hw hK
  obtain⟨f0,f1,f2,f3,f4,f5⟩:=hf it (by simp)
  have hx:z.cps[i]?=some z.cps[i]:=Array.getElem?_eq_getElem hg
  refine wpAny_pyNext_wide_item st hx λh' st' sb=>?_
  have I1:Inv X pins σ H { s with heap:=h',toks:=s.toks+1 }:=I.turned (λb o hb e=>(sb.2 b hb).trans e) f0 f1 f3 f4 f5
  obtain⟨o,e,c,d⟩:=id st'
  exact⟨_,rfl,qqp (s:={ s with heap:=h',toks:=s.toks+1 }) e c d (by decide) ⟨.str ⟨#[z.cps[i]]⟩,H,I1,⟨_,rfl⟩,⟨rfl,_,hx,rfl⟩,st',λb hb=>(hf b hb).1⟩⟩
 done:=by
  intro X hP hw hK hc i pins s σ H E I hf st hg
  subst hP hw hK
  obtain⟨f0,f1,f2,f3,f4,f5⟩:=hf it (by simp)
  exact wpAny_pyNext_wide_end (I.ok.hd hc) st (Array.getElem?_eq_none hg) λh' eb=>⟨rfl,I.turned (t':=s.toks) (λb o hb e=>eb b o hb e) f0 f1 f3 f4 f5⟩
 self:=λ_ _ _ _ _ st h=>wpAny_pyIter_striter_wide st h
section
variable {X:Cx} {tg:Expr}
end
def qa3:Expr->Bool
|.Starred ..=>false
|_=>true
theorem qbn{e:Expr}{es:List Expr}{env:Env}(h:qa3 e=true):starEach (e::es) env=(false,eval e env)::starEach es env:=by
 cases e<;>first|rfl|(exact absurd h Bool.false_ne_true)
theorem qfn{env:Env}:∀ {es:List Expr},es.all qa3=true->starEach es env=es.map λe=>(false,eval e env)
|[],_=>rfl
|e::es,h=>by
  rw[List.all_cons,Bool.and_eq_true] at h
  rw[qbn h.1,qfn h.2,List.map_cons]
theorem qfs{es:List Expr}{env:Env}{pos:Pos}(h:es.all qa3=true):(backTo pos (starEach es env)).any (·.1)=false:=by
 rw[qfn h]
 unfold backTo
 rw[List.map_map,List.any_eq_false]
 intro p hp
 obtain⟨e,_,rfl⟩:=List.mem_map.mp hp
 exact Bool.false_ne_true
theorem quk{es:List Expr}{env:Env}{pos:Pos}(h:es.all qa3=true):(backTo pos (starEach es env)).all (λx=>!x.1)=true:=by
 rw[qfn h]
 unfold backTo
 rw[List.map_map,List.all_eq_true]
 intro p hp
 obtain⟨e,_,rfl⟩:=List.mem_map.mp hp
 rfl
section
variable {X:Cx} {x:Str} {p pos:Pos} {e:Expr} {es:List Expr} {te:TE} {t:TA} {id T:String} {r:List V->Hp->VK->Prop}
theorem pac(ha:PE X e te)(hr:PA X es t)(hs:qa3 e=true:=by rfl):PA X (e::es) (qul te t):=qw5 ha hr (qbn hs)
theorem all2{e:Expr}{es:List Expr}(h:(e::es).all qa3=true):qa3 e=true/\es.all qa3=true:=by
 rw[List.all_cons,Bool.and_eq_true] at h
 exact h
theorem pcb(hc:CallR X (.builtin id) r)(hg:Gl X x)(hm:X.mg x=none)(hv:bootBuiltins x=some (.builtin id))(ha:PA X (e::es) t)(hp:(e::es).all qa3=true:=by rfl)(hn:x≠"__name__" := by decide)(hdb:(x==("__debug__" : Str))=false:=by decide) :
  PE X (.Call (.Name x p) (e::es) [] pos) (tCB r t):=qtq hc hg hm hv ha hn hdb (qbn (all2 hp).1) (qfs (all2 hp).2)
theorem pct(hc:CallR X (.type T) r)(hg:Gl X x)(hm:X.mg x=none)(hv:bootBuiltins x=some (.type T))(ha:PA X (e::es) t)(hp:(e::es).all qa3=true:=by rfl)(hn:x≠"__name__" := by decide)(hdb:(x==("__debug__" : Str))=false:=by decide) :
  PE X (.Call (.Name x p) (e::es) [] pos) (tCB r t):=qrd hc hg hm hv ha hn hdb (qbn (all2 hp).1) (qfs (all2 hp).2)
theorem pbm{o:Expr}{to:TE}{name:Str}{apos cpos:Pos}{r:V->List V->Hp->VK->Prop}(pa:PlainAttrs T)(slot:Slot T name id)(hty:typeOf (.builtin id)=pure (.type "method_descriptor"))(hm:MtR X id r)(ho:PE X o to)(ha:PA X (e::es) t)
  (hp:(e::es).all qa3=true:=by rfl) (hfew:decide ((e::es).length<30)=true:=by rfl) (hbase:attributeBase o name X.env (eval o X.env)=eval o X.env:=by rfl) (hline:(apos.endLine==cpos.line)=true:=by rfl) :
  PE X (.Call (.Attribute o name apos) (e::es) [] cpos) (tBM X.K T r to t):=by
 refine q2p pa slot hty hm ho ha hbase ?_ hline (qbn (all2 hp).1) (qfs (all2 hp).2)
 rw[quk hp]
 exact hfew
theorem q2u{tg a:Expr}{ta:TA}(hg:Gl X "range")(hm:X.mg "range" = none)(ha:PA X [a] ta)(hp:qa3 a=true:=by rfl):PI X tg (.Call (.Name "range" p) [a] [] pos) (qwd ta):=qre hg hm ha (qbn hp)
theorem q2v{tg a b:Expr}{ta:TA}(hg:Gl X "range")(hm:X.mg "range" = none)(ha:PA X [a,b] ta)(hp:qa3 a=true:=by rfl)(hp2:qa3 b=true:=by rfl):PI X tg (.Call (.Name "range" p) [a,b] [] pos) (qwe ta) :=
 qrf hg hm ha (by rw[qbn hp,qbn hp2];rfl) (qbn hp2)
end
inductive Cal(P:Program)(w:World)(K:PySem.W.Frag)(mg:Str->Option Value)(base:Heap)(k:Nat)(x:Str)(ps:List Str)(sp:Sp):Prop where
|mk {f:Addr} {fd:FuncData} (F:FnOk P w K mg base CX0 k f fd ps sp) (hm:mg x=some (.ref f)) (hk:PySem.W.keepIn K (.ref f)=true) (hb:Binds K fd ps [])
section
variable {X:Cx} {k:Nat} {ps:List Str} {sp:Sp} {x:Str} {p pos:Pos} {e:Expr} {es:List Expr} {t:TA}
theorem q0g(C:Cal X.prog X.w X.K X.mg X.base k x ps sp)(hr:Room k X.A)(hg:Gl X x)(ha:PA X (e::es) t)(hp:(e::es).all qa3=true:=by rfl)(hdb:(x==("__debug__" : Str))=false:=by decide):PE X (.Call (.Name x p) (e::es) [] pos) (qyi sp [] E0 t):=by
 cases C with
|mk F hm hk hb=>exact qw8 F hr hg hm hk hb .nil q2n ha hdb (qbn (all2 hp).1) (qfs (all2 hp).2)
end
section
variable {X:Cx}
end
theorem qtc{K:PySem.W.Frag}{T:String}:PySem.W.kitOne K (.type T) (.type T)=some true:=by
 unfold PySem.W.kitOne
 rw[if_pos (by simp)]
section
variable {X:Cx}
theorem qmv:∀ {ys:List Str} {us:List Value},Vals (ys.map V.str) us->∃l:List (Str×Tok),us=strValues l/\l.map (·.1)=ys
|[],_,r=>by
  cases r
  exact⟨[],rfl,rfl⟩
|y::ys,_,r=>by
  rw[List.map_cons] at r
  cases r with
 |cons r1 r2 =>
   obtain⟨t,e⟩:=r1
   subst e
   obtain⟨l,e1,e2⟩:=qmv r2
   subst e1
   exact⟨(y,t)::l,rfl,by rw[List.map_cons,e2]⟩
abbrev glue(sep:Str)(ys:List Str):Str:=Txt.join sep ys
theorem qws:MtM X "str.join" (λx vs H Q=>∃(sep:Str) (l:Addr) (ys:List Str),x=.str sep/\vs=[.ref l]/\SqL X.K H l (ys.map V.str)/\(ys.map (·.length)).sum+ys.length*sep.length<=16777216/\Q (.str (glue sep ys)) H):=by
 intro pins s σ H x vs v us Q I rx rv h
 obtain⟨sep,l,ys,rfl,rfl,hq,hz,q⟩:=h
 obtain⟨t,rfl⟩:=rx
 obtain⟨u,rfl,ru⟩:=rv.one
 cases ru
 obtain⟨its,r,pl,_⟩:=I.list hq
 obtain⟨ts,e1,e2⟩:=qmv r
 subst e1
 refine SC.join pl.isList e2 ?_ λt' k=>⟨.str (glue sep ys),H,I.tok k,⟨t',rfl⟩,q⟩
 unfold JoinOk
 rw[StrLaws.joinTotal]
 have:Builtin.Str.tooLong ((ys.map (·.length)).sum+ys.length*sep.length)=false:=by
  unfold Builtin.Str.tooLong
  rw[sizeLine_eq]
  exact decide_eq_false (by lia)
 rw[this]
 rfl
theorem part_of{v:Value}{o:Option Int}(p:IsPart v o):∃l:Option (Int×Tok),v=partValue l/\l.map (·.1)=o:=by
 cases p with
|none=>exact⟨none,rfl,rfl⟩
|int i t=>exact⟨some (i,t),rfl,rfl⟩
theorem sl_str:SlR X (λx lo hi H Q=>∃z,x=.str z/\z.length<=sizeLine/\Q (.str (Txt.slice z lo hi)) H):=by
 intro pins s σ H x v vl vu lo hi sl Q I rx hs pl pu h
 obtain⟨z,rfl,hz,q⟩:=h
 obtain⟨t,rfl⟩:=rx
 obtain⟨l,e1,e2⟩:=part_of pl
 obtain⟨u,e3,e4⟩:=part_of pu
 subst e1 e2 e3 e4
 refine⟨"str",_,F.slot_str_getitem.lookup,typeIs_str _ _ _,?_⟩
 refine wpAny_getItem_str_slice (l:=l) (u:=u) (st:=none) hs rfl ?_
 exact post_val_or_str ⟨Nat.le_trans (Txt.slice_le z _ _) hz,λt' k=>⟨.str (Txt.slice z (l.map (·.1)) (u.map (·.1))),H,I.tok k,⟨t',rfl⟩,q⟩⟩
end
end L2
namespace HT
open PySem PyProof.Rows
section
variable {prog:Program} {w:World} {A:Around} {E:Value->Shared->Prop} {s:Shared}
theorem getItem_tuple_whole{t sl:Addr}{items:Array Value}{vl vu:Value}{lo hi:Option Int}{Q:Value->Shared->Prop}(ht:IsTup s.heap t items)(hs:s.heap.IsSliceOf sl vl vu .none)(pl:IsPart vl lo)(pu:IsPart vu hi)
  (hw:sIx items.size 0 lo=0/\sIx items.size items.size hi=items.size) (h:Q (.ref t) s):wpAny (model prog w) A (getItem (.ref t) (.ref sl)) Q E s:=by
 obtain⟨os,hos,hcs,hds⟩:=id hs
 have hTs:s.TypeIs (.ref sl) "slice" := ⟨os,hos,hcs⟩
 unfold getItem
 try with_reducible refine wpAny_holding ?_
 first|refine wpAny_bind (wpAny_pure ?_)|skip
 refine wpAny_bind (wpAny_sequenceKey ht.typeIs (by decide) ?_)
 refine wpAny_bind (wpAny_callSpecial?_slot (name:=Str.ofString "__getitem__") ht.typeIs PyProof.Rows.slot_tuple_getitem
  (wpAny_call_entry PyProof.Rows.slot_tuple_getitem ht.typeIs entry_tuple_getitem ?_ (args_tuple_getitem _ _)))
 show wpAny _ _ (Builtin.Tuple.tupleItemsOf (.ref t) >>= _) _ _ s
 refine wpAny_bind (tupleItemsOf_ ht ?_)
 refine wpAny_bind (wpAny_typeOf hTs ?_)
 rw[if_pos (by decide)]
 refine wpAny_bind (qep hs pl pu ?_)
 have hyes:(((sIx items.size 0 lo:Nat):Int)==0&&(1:Int)==1&&(sIx items.size items.size hi-sIx items.size 0 lo)==items.size)=true:=by
  rw[hw.1,hw.2]
  simp
 show wpAny _ _ (if (((sIx items.size 0 lo:Nat):Int)==0&&(1:Int)==1&&(sIx items.size items.size hi-sIx items.size 0 lo)==items.size)=true then _ else _) _ _ s
 rw[if_pos hyes]
 refine wpAny_bind (m:=Builtin.Tuple.tupleIsExact _) ?_
 unfold Builtin.Tuple.tupleIsExact
 refine wpAny_bind (wpAny_typeOf ht.typeIs (wpAny_pure ?_))
 rw[if_pos (by decide)]
 exact wpAny_bind (wpAny_rule (wpAny_pure ⟨_,rfl,wpAny_pure h⟩))
end
end HT
namespace L2
open PySem PySem.Spec PyProof.Rows
section
variable {X:Cx}
end
theorem qdv{env:Env}{x:Str}{k:NameKind}:∀ {names:List (Str×NameKind)},
  (names.map λ(n,k)=>if (k==NameKind.free&&env.scope.kind==.function&&env.kindOf n==some .cell) then (n,NameKind.cell) else (n,k)).lookup x=some k->names.lookup x=some k\/(names.lookup x=some .free/\k=.cell)
|[],h=>by simp at h
|(n,k0)::r,h=>by
  have ih:=@qdv env x k r
  rw[List.map_cons] at h
  have h:List.lookup x ((if (k0==NameKind.free&&env.scope.kind==.function&&env.kindOf n==some .cell)=true then (n,NameKind.cell) else (n,k0))::_)=some k:=h
  by_cases hc:(k0==NameKind.free&&env.scope.kind==.function&&env.kindOf n==some .cell)=true
  ·rw[if_pos hc,List.lookup_cons] at h
   rw[List.lookup_cons]
   cases hx:x==n with
  |true =>
    rw[hx] at h
    have e:NameKind.cell=k:=Option.some.inj h
    subst e
    have e0:k0=.free:=by
     rw[Bool.and_eq_true,Bool.and_eq_true] at hc
     exact eq_of_beq hc.1.1
    subst e0
    exact .inr ⟨rfl,rfl⟩
  |false =>
    rw[hx] at h
    exact ih h
  ·rw[if_neg hc,List.lookup_cons] at h
   rw[List.lookup_cons]
   cases hx:x==n with
  |true =>
    rw[hx] at h
    exact .inl h
  |false =>
    rw[hx] at h
    exact ih h
theorem qc5{csc:Scope}{env:Env}{x:Str}{k:NameKind}(h:(relabel csc env).names.lookup x=some k):csc.names.lookup x=some k\/(csc.names.lookup x=some .free/\k=.cell):=qdv h
theorem qol{csc:Scope}{env:Env}(h:∀y∈csc.names,y.2=.free->∃c,env.cells.lookup y.1=some c) :
  ∃cl,closureFor csc env=pure cl/\(∀x c,cl.lookup x=some c->env.cells.lookup x=some c)/\∀y∈csc.names,y.2=.free->∃c,cl.lookup y.1=some c:=by
 have key:∀(body:Str×NameKind->List (Str×Addr)->Sem (ForInStep (List (Str×Addr)))),
   (∀n k acc,body (n,k) acc=if (k==.free)=true then (cellOf env n >>= λc=>pure (ForInStep.yield ((n,c)::acc))) else pure (ForInStep.yield acc)) ->
   ∀(l:List (Str×NameKind)) (acc:List (Str×Addr)),(∀y∈l,y.2=.free->∃c,env.cells.lookup y.1=some c)->(∀x c,acc.lookup x=some c->env.cells.lookup x=some c) ->
   ∃cl,(forIn l acc body:Sem (List (Str×Addr)))=pure cl/\(∀x c,cl.lookup x=some c->env.cells.lookup x=some c)/\(∀y∈l,y.2=.free->∃c,cl.lookup y.1=some c)/\∀x c,acc.lookup x=some c->∃c',cl.lookup x=some c':=by
  intro body hb l
  induction l with
 |nil =>
   intro acc _ ha
   exact⟨acc,rfl,ha,λy hy=>(nomatch hy),λx c e=>⟨c,e⟩⟩
 |cons p r ih =>
   intro acc hl ha
   obtain⟨n,k⟩:=p
   have hr:∀y∈r,y.2=.free->∃c,env.cells.lookup y.1=some c:=λy hy=>hl y (List.mem_cons_of_mem _ hy)
   by_cases hk:k=.free
   ·subst hk
    obtain⟨c,hc⟩:=hl (n,.free) List.mem_cons_self rfl
    have ha':∀x d,((n,c)::acc).lookup x=some d->env.cells.lookup x=some d:=λx d e=>by
     rw[List.lookup_cons] at e
     cases hx:x==n with
    |true =>
      rw[hx] at e
      have e1:c=d:=Option.some.inj e
      subst e1
      rw[eq_of_beq hx]
      exact hc
    |false =>
      rw[hx] at e
      exact ha x d e
    obtain⟨cl,e1,e2,e3,e4⟩:=ih ((n,c)::acc) hr ha'
    refine⟨cl,?_,e2,λy hy hf=>?_,λx d e=>?_⟩
    ·rw[List.forIn_cons,hb,if_pos (by rfl)]
     have ec:cellOf env n=pure c:=by
      unfold cellOf
      rw[hc]
     rw[ec]
     exact e1
    ·rcases List.mem_cons.mp hy with e|hy
     ·subst e
      exact e4 n c (by rw[List.lookup_cons,beq_self_eq_true])
     ·exact e3 y hy hf
    ·cases hx:x==n with
    |true=>exact e4 x c (by rw[List.lookup_cons,hx])
    |false=>exact e4 x d (by rw[List.lookup_cons,hx];exact e)
   ·obtain⟨cl,e1,e2,e3,e4⟩:=ih acc hr ha
    refine⟨cl,?_,e2,λy hy hf=>?_,e4⟩
    ·have hk':(k==NameKind.free)=false:=by simpa using hk
     rw[List.forIn_cons,hb,hk',if_neg Bool.false_ne_true]
     exact e1
    ·rcases List.mem_cons.mp hy with e|hy
     ·subst e
      exact absurd hf hk
     ·exact e3 y hy hf
 obtain⟨cl,e1,e2,e3,_⟩:=key (λp acc=>if (p.2==.free)=true then (cellOf env p.1 >>= λc=>pure (ForInStep.yield ((p.1,c)::acc))) else pure (ForInStep.yield acc)) (λn k acc=>rfl) csc.names [] h (λx c e=>by simp at e)
 refine⟨cl,?_,e2,e3⟩
 have e4:closureFor csc env=(forIn csc.names [] (λp acc=>if (p.2==.free)=true then (cellOf env p.1 >>= λc=>pure (ForInStep.yield ((p.1,c)::acc))) else pure (ForInStep.yield acc)) >>= λcs=>pure cs):=rfl
 rw[e4,e1]
 rfl
structure CompScope(sc:Scope)(N NB M:List Str)(csc:Scope):Prop where
 kind:csc.kind=.function
 nocell:∀y∈csc.names,y.2≠.cell
 locs:∀y∈csc.names,y.2=.local->csc.names.lookup y.1=some .local
 free:∀y∈csc.names,y.2=.free->sc.names.lookup y.1=some .cell\/sc.names.lookup y.1=some .free
 nd:NB.Nodup
 len:NB.length=N.length+M.length
 old:∀p∈N.zip NB,csc.names.lookup p.2≠some .local/\(csc.names.lookup p.2=none\/p.1=p.2)
theorem CompScope.at{sc:Scope}{N NB M:List Str}{csc:Scope}(S:CompScope sc N NB M csc){i:Nat}{x:Str}(e:NB[i]?=some x)(hi:i<N.length):csc.names.lookup x≠some .local/\(csc.names.lookup x≠none->N[i]?=some x):=by
 have e1:N[i]?=some N[i]:=List.getElem?_eq_getElem hi
 have hm:(N[i],x)∈N.zip NB:=by
  apply List.mem_of_getElem? (i:=i)
  rw[List.getElem?_zip_eq_some]
  exact⟨e1,e⟩
 obtain⟨h1,h2⟩:=S.old _ hm
 refine⟨h1,λhn=>?_⟩
 rcases h2 with h2|h2
 ·exact absurd h2 hn
 ·rw[e1]
  exact congrArg some h2
def cxC(X:Cx)(NB:List Str)(csc:Scope)(cl:List (Str×Addr))(C:Addr)(s₀:Shared)(H₀:Hp)(fp:List Addr)(pn:List (Addr×Obj)):Cx where
 prog:=X.prog
 w:=X.w
 K:=X.K
 mg:=X.mg
 base:=X.base
 A:=X.A
 N:=NB
 s₀:=s₀
 H₀:=H₀
 env:=compEnvC csc cl C X.env
 outer:=X.stack
 stack:=X.stack
 ex:=fp
 fn:=λ_=>false
 calm:=X.calm
 pn:=pn
 xe:=λ_ _=>False
section
variable {X:Cx} {pins:List (Addr×Obj)} {σ:St} {H₀:Hp} {s₀:Shared} {NB M:List Str} {csc:Scope} {cl:List (Str×Addr)} {fp:List Addr}
theorem qom{h₁:Heap}{tk:Nat}{m:Str->Option Value}(S:CompScope X.env.scope X.N NB M csc)(I:Inv X pins σ H₀ s₀)(hf:∀b∈fp,FpOk X pins H₀ b)(hlt:∀b∈fp,b<s₀.heap.objs.size)
  (c1:∀x c,cl.lookup x=some c->X.env.cells.lookup x=some c) (c2:∀y∈csc.names,y.2=.free->∃c,cl.lookup y.1=some c)
  (hn:h₁.Ns s₀.heap.objs.size m) (hk:∀b o,s₀.heap.get? b=some o->h₁.get? b=some o) :
  Inv (cxC X NB csc cl s₀.heap.objs.size s₀ H₀ fp (X.pn++pins)) [] (σ++List.replicate M.length none) H₀ { s₀ with heap:=h₁,toks:=tk }:=by
 have kindB:∀x,((relabel csc X.env).names.lookup x=some .cell\/(relabel csc X.env).names.lookup x=some .free)->csc.names.lookup x=some .free:=λx hx=>by
  rcases hx with hx|hx
  ·rcases qc5 hx with z|⟨z,_⟩
   ·exact absurd rfl (S.nocell _ (PySem.mem_of_lookup z))
   ·exact z
  ·rcases qc5 hx with z|⟨z,_⟩
   ·exact z
   ·exact z
 have hasC:∀x,csc.names.lookup x=some .free->∃c,cl.lookup x=some c:=λx hx=>c2 (x,.free) (PySem.mem_of_lookup hx) rfl
 refine⟨⟨I.ok.mod,S.kind,I.ok.glob,I.ok.blt,Nat.le_refl _,λx y c h1 h2=>I.ok.inj x y c (c1 x c h1) (c1 y c h2),λx hx=>hasC x (kindB x hx),λx c h _=>absurd h Bool.false_ne_true,I.ok.hd,I.ok.frames,.inl rfl,
   λb hb=>⟨Nat.ne_of_lt (hlt b hb),λx c e=>(hf b hb).2.2.2.2.1 x c (c1 x c e)⟩,I.bs,Nat.le_trans I.ok.bsz I.sz,λb o e hb=>?_,λb hb z=>?_,I.stack,I.stkFree⟩,
  rfl,I.bare,Un.kept hk,⟨m,hn,λi x v e1 e2 e3=>?_⟩,λx c e=>?_,I.fresh,λx c e=>I.freeC x c (c1 x c e),λp hp=>?_,I.hok.kept hk,?_⟩
 ·rcases (hf b hb).2.2.2.1 with z|z
  ·exact I.ok.noex b o e z
  ·exact absurd (Nat.lt_of_lt_of_le (Heap.lt_size e) (Nat.le_trans I.ok.bsz z)) (Nat.lt_irrefl _)
 ·rcases List.mem_cons.mp (I.stkSub b z) with e|e
  ·exact(hf b hb).2.1 e
  ·exact(hf b hb).2.2.1 e
 ·have hlen:=I.len
  have hi:i<X.N.length:=by
   apply Classical.byContradiction
   intro hi
   rw[List.getElem?_append_right (by lia),List.getElem?_replicate] at e2
   split at e2<;>cases e2
  have e2':σ[i]?=some (some v):=by
   rw[List.getElem?_append_left (by lia)] at e2
   exact e2
  obtain⟨nl,hN⟩:=S.at e1 hi
  have hfree:csc.names.lookup x=some .free:=by
   rcases e3 with z|z
   ·rcases qc5 (show (relabel csc X.env).names.lookup x=some .local from z) with q|⟨_,q⟩
    ·exact absurd q nl
    ·cases q
   ·exact kindB x z
  have hN':=hN (by rw[hfree];intro z;cases z)
  have ok:=S.free (x,.free) (PySem.mem_of_lookup hfree) rfl
  obtain⟨m',hn',hl⟩:=I.loc
  obtain⟨u,r,l⟩:=hl i x v hN' e2' (.inr ok)
  rcases l with ⟨k,_⟩|⟨_,c,hc,hcell⟩
  ·have k':X.env.scope.names.lookup x=some .local:=k
   rcases ok with z|z
   ·rw[show X.env.scope.names.lookup x=some .cell from z] at k'
    cases k'
   ·rw[show X.env.scope.names.lookup x=some .free from z] at k'
    cases k'
  ·obtain⟨c',hc'⟩:=hasC x hfree
   have ec:c'=c:=by
    have:=c1 x c' hc'
    rw[hc] at this
    exact(Option.some.inj this).symm
   subst ec
   obtain⟨o,ho,hd⟩:=hcell
   refine⟨u,r,.inr ⟨?_,c',hc',o,hk _ _ ho,hd⟩⟩
   rcases e3 with z|z
   ·rcases qc5 (show (relabel csc X.env).names.lookup x=some .local from z) with q|⟨_,q⟩
    ·exact absurd q nl
    ·cases q
   ·exact z
 ·obtain⟨v,o,ho,hd⟩:=I.cell x c (c1 x c e)
  exact⟨v,o,hk _ _ ho,hd⟩
 ·have hp':p∈(X.pn++pins)++[]:=hp
  rw[List.append_nil] at hp'
  obtain⟨e,n,ne,nf,d⟩:=I.pin p hp'
  exact⟨hk _ _ e,n,Nat.ne_of_lt (Heap.lt_size e),λz=>(List.mem_cons.mp (I.stkSub _ z)).elim ne nf,d⟩
 ·rw[List.length_append,List.length_replicate,I.len]
  exact S.len.symm
theorem qsy{τ:St}{H:Hp}{s:Shared}{pins':List (Addr×Obj)}(I:Inv X pins σ H₀ s₀)(hf:∀b∈fp,FpOk X pins H₀ b)(B:Inv (cxC X NB csc cl s₀.heap.objs.size s₀ H₀ fp (X.pn++pins)) pins' τ H s) :
  Inv X pins σ H s/\FpOk X pins H s₀.heap.objs.size :=
 ⟨I.call' (ch:=fp) B.os B.base B.hok B.bare λb hb=>⟨(hf b hb).2.2.2.1,(hf b hb).2.1,(hf b hb).2.2.2.2.1,(hf b hb).2.2.2.2.2⟩,I.fpOk (Nat.le_refl _) B.free⟩
end
theorem qfe{prog:Program}{w:World}{A:Around}{R:Result->Shared->Prop}{s:Shared}{elt target iter:Expr}{ifs:List Expr}{scope:Scope}{pos:Pos}{it acc:Value}{env:Env}(I:Nat->Shared->Prop)
  (turn:∀n s,I n s->wpAny (model prog w) A (pyNext it) (λr s₁=>match r with
  |none=>R (.ok .next) s₁
  |  some v=>wpAny (model prog w) A (letOwnedTupleGo target it v) (λ_ s₁'=>wpAny (model prog w) A (assign target env v) (λ_ s₂ =>
     wpAny (model prog w) A (forIn ifs true λc r=>if r=true then do let ok ←isTrue c env (eval c env);pure (ForInStep.yield ok) else pure (ForInStep.yield r)) (λok s₃ =>
      if ok=true then wpAny (model prog w) A (eval elt env) (λx s₄ =>
       wpAny (model prog w) A (call (.builtin "list.append") [acc,x]) (λ_ s₅=>∃m,m<n/\I m s₅) (notedBy (model prog w) A env λe s'=>R (.error e) s') s₄) (notedBy (model prog w) A env λe s'=>R (.error e) s') s₃
      else ∃m,m<n/\I m s₃) (notedBy (model prog w) A env λe s'=>R (.error e) s') s₂) (notedBy (model prog w) A env λe s'=>R (.error e) s') s₁') (notedBy (model prog w) A env λe s'=>R (.error e) s') s₁)
    (notedBy (model prog w) A env λe s'=>R (.error e) s') s)
  (n:Nat) (h:I n s):codeAny (model prog w) A (.compLoop (.ListComp elt [⟨target,iter,ifs,0⟩] scope pos) 0 it acc env) R s:=by
 refine codeAny_loop rfl I (λn s hI=>?_) n h
 show wpAny _ A ((compTurn (.ListComp elt [⟨target,iter,ifs,0⟩] scope pos) 0 it acc env).onRaise (λx=>do noteFrame x env;theTreesLotGoes x)) _ _ s
 refine wpAny_noted ?_
 rw[compTurn_list]
 refine wpAny_bind (wpAny_standAt (wpAny_bind (wpAny_mono (turn n s hI) (λr s₁ h₁=>?_) λ_ _ h'=>h')))
 cases r with
|none=>exact wpAny_pure h₁
|some v =>
  refine wpAny_bind (wpAny_mono h₁ (λ_ s₁' h₁'=>?_) λ_ _ h'=>h')
  refine wpAny_bind (wpAny_mono h₁' (λ_ s₂ h₂=>wpAny_bind (wpAny_mono h₂ (λok s₃ h₃=>?_) λ_ _ h'=>h')) λ_ _ h'=>h')
  cases ok with
 |false=>exact wpAny_pure ⟨rfl,h₃⟩
 |true =>
   exact wpAny_bind (wpAny_bind (wpAny_mono h₃ (λx s₄ h₄=>wpAny_bind (wpAny_mono h₄ (λ_ s₅ h₅=>wpAny_pure (wpAny_pure ⟨rfl,h₅⟩)) λ_ _ h'=>h')) λ_ _ h'=>h'))
abbrev TF:=St->Hp->(Hp->Prop)->(Hp->Prop)->Prop
def PF(X:Cx)(ifs:List Expr)(t:TF):Prop :=
 ∀(pins:List (Addr×Obj)) (s:Shared) (σ:St) (H:Hp) (Y N:Hp->Prop),Inv X pins σ H s->t σ H Y N ->
  wpAny (model X.prog X.w) X.A (forIn ifs true λc r=>if r=true then do let ok ←isTrue c X.env (eval c X.env);pure (ForInStep.yield ok) else pure (ForInStep.yield r)) (λb s'=>∃H',Inv X pins σ H' s'/\if b=true then Y H' else N H') X.xe s
def fNil:TF:=λ_ H Y _=>Y H
theorem qxg{X:Cx}:PF X [] fNil:=λ_ _ _ H _ _ I h=>wpAny_tests_nil ⟨H,I,iteT h⟩
def qyj(wi:TI)(g:TG)(ti:TF)(te:TE)(k:Nat):TE:=λσ H Q=>wi σ H λJ H1=>∀p,H1 p=none->∃W:Nat->Nat->St->List V->Hp->Prop,(∃m,W 0 m (σ++List.replicate k none) [] (upd H1 p (.lst [])))/\∀i m τ xs H,W i m τ xs H ->
 (J.stop i H/\Q (.ref p) H)\/(J.go i H/\∀x H',J.yld i H x H'->g x τ H' λτ2 H2=>ti τ2 H2 (λH3=>te τ2 H3 λv H4=>H4 p=some (.lst xs)/\xs.length<sizeLine/\∃m',m'<m/\W (i+1) m' τ2 (xs++[v]) (upd H4 p (.lst (xs++[v]))))
  (λH3=>∃m',m'<m/\W (i+1) m' τ2 xs H3))
def PCp(X:Cx)(e:Expr)(t:TE):Prop:=∃elt tg iter ifs csc pos,e=.ListComp elt [⟨tg,iter,ifs,0⟩] csc pos /\
 ∀(ppos:Pos) (use:Option (Value->Sem Unit)) (R:Value->Shared->Prop) (pins:List (Addr×Obj)) (s:Shared) (σ:St) (H:Hp) (Q:VK),Inv X pins σ H s->t σ H Q ->
  (∀(D C:Addr) (s':Shared) (H':Hp),Inv X pins σ H' s'->FpOk X pins H' C->(∃m,s'.heap.Ns C m)->Q (.ref D) H'->compPost (model X.prog X.w) X.A X.xe use R (.ref D) C (.ok .next) s') ->
  wpAny (model X.prog X.w) X.A (comprehension (.ListComp elt [⟨tg,iter,ifs,0⟩] csc pos) csc X.env ppos (newList []) false (eval iter X.env) use) R X.xe s
section
variable {X:Cx}
theorem qw6{tg iter elt:Expr}{ifs:List Expr}{csc:Scope}{pos:Pos}{NB M:List Str}{wi:TI}{g:TG}{ti:TF}{te:TE}(hi:PI X tg iter wi)(hc:X.calm=true)(S:CompScope X.env.scope X.N NB M csc)
  (hg:∀cl C s₀ H₀ fp pn,PG (cxC X NB csc cl C s₀ H₀ fp pn) tg g) (hf:∀cl C s₀ H₀ fp pn,PF (cxC X NB csc cl C s₀ H₀ fp pn) ifs ti) (he:∀cl C s₀ H₀ fp pn,PE (cxC X NB csc cl C s₀ H₀ fp pn) elt te)
  (hs:∀x,foldedSetIterable iter X.env x=pure x:=by intro _;rfl):PCp X (.ListComp elt [⟨tg,iter,ifs,0⟩] csc pos) (qyj wi g ti te M.length):=by
 refine⟨elt,tg,iter,ifs,csc,pos,rfl,λppos use R pins s σ H Q I h fin=>?_⟩
 have hcell:∀y∈csc.names,y.2=.free->∃c,X.env.cells.lookup y.1=some c:=λy hy hfr=>I.ok.has y.1 (S.free y hy hfr)
 obtain⟨cl,hcl,c1,c2⟩:=qol hcell
 refine wpAny_comprehension_free rfl hs hcl S.kind S.locs ?_
 refine thn (hi pins s σ H _ I h) λv s1 h1=>thn h1 λitv s2 h2=>?_
 obtain⟨it,fp,tn,J,H2,e,I2,T,st2,f2,h2⟩:=h2
 subst e
 have hlt2:∀b∈fp,b<s2.heap.objs.size:=λb hb=>let ⟨_,e,_⟩:=T.obj _ _ st2 b hb;Heap.lt_size e
 refine wpAny_newObj_type (wpAny_newFunctionEnv S.nocell (by intro y hy;simp at hy) (λh₁ hns₁ hsb₁=>?_) S.kind)
 dsimp only at hns₁ hsb₁ ⊢
 have I0:Inv X pins σ (upd H2 s2.heap.objs.size (.lst [])) { s2 with heap:=s2.heap.push { cls:=.type "list",dict:=none,data:=.seq ([]:List Value).toArray } }:=I2.lnew (its:=[]) (t':=s2.toks) .nil (Nat.zero_le _)
 generalize hs0:({ s2 with heap:=s2.heap.push { cls:=.type "list",dict:=none,data:=.seq ([]:List Value).toArray } }:Shared)=s₀ at I0
 have hh:s2.heap.push { cls:=.type "list",dict:=none,data:=.seq ([]:List Value).toArray }=s₀.heap:=by rw[←hs0]
 rw[hh] at hns₁ hsb₁ ⊢
 have hsz:s2.heap.objs.size<s₀.heap.objs.size:=by rw[←hh,Heap.size_push];exact Nat.lt_succ_self _
 have hDn:H2 s2.heap.objs.size=none:=I2.fresh
 have f0:∀b∈fp,FpOk X pins (upd H2 s2.heap.objs.size (.lst [])) b:=λb hb=>⟨by rw[qbd (Nat.ne_of_lt (hlt2 b hb))];exact(f2 b hb).1,(f2 b hb).2⟩
 have hlt:∀b∈fp,b<s₀.heap.objs.size:=λb hb=>Nat.lt_trans (hlt2 b hb) hsz
 have hk:∀b o,s₀.heap.get? b=some o->h₁.get? b=some o:=λb o e=>hsb₁.extBut b o (Nat.ne_of_lt (Heap.lt_size e)) (Heap.get?_push_of_some _ e)
 have hk2:∀b o,s2.heap.get? b=some o->h₁.get? b=some o:=λb o e=>hk b o (by rw[←hh];exact Heap.get?_push_of_some _ e)
 have st1:tn 0 h₁:=T.keep _ _ _ st2 λb _ o e=>hk2 b o e
 obtain⟨W,⟨m0,w0⟩,turn⟩:=h2 s2.heap.objs.size hDn
 have loop:∀s₃:Shared,s₃={ s₀ with heap:=h₁,toks:=s2.toks+([]:List (Str×Value)).length } ->
   codeAny (model X.prog X.w) X.A (.compLoop (.ListComp elt [⟨tg,iter,ifs,0⟩] csc pos) 0 (.ref it) (.ref s2.heap.objs.size) (compEnvC csc cl s₀.heap.objs.size X.env))
    (compPost (model X.prog X.w) X.A X.xe use R (.ref s2.heap.objs.size) s₀.heap.objs.size) s₃:=by
  rintro s₃ rfl
  have B0:=qom (cl:=cl) (tk:=s2.toks+([]:List (Str×Value)).length) S I0 f0 hlt c1 c2 hns₁ hk
  have fpB:∀ {H':Hp},(∀b∈fp,H' b=none)->∀b∈fp,FpOk (cxC X NB csc cl s₀.heap.objs.size s₀ (upd H2 s2.heap.objs.size (.lst [])) fp (X.pn++pins)) [] H' b:=λ{H'} hn b hb =>
   ⟨hn b hb,Nat.ne_of_lt (hlt b hb),B0.ok.exfs b hb,.inl hb,λx c e=>(f0 b hb).2.2.2.2.1 x c (c1 x c e),λp hp=>(f0 b hb).2.2.2.2.2 p (by
    have hp':p∈(X.pn++pins)++[]:=hp
    rw[List.append_nil] at hp'
    exact hp')⟩
  refine qfe (λn s'=>∃i τ xs H',Inv (cxC X NB csc cl s₀.heap.objs.size s₀ (upd H2 s2.heap.objs.size (.lst [])) fp (X.pn++pins)) [] τ H' s'/\tn i s'.heap/\(∀b∈fp,H' b=none)/\W i n τ xs H') ?_ m0
   ⟨0,_,[],_,B0,st1,λb hb=>(f0 b hb).1,w0⟩
  rintro n s3 ⟨i,τ,xs,H3,I3,st3,fr3,w3⟩
  rcases turn i n τ xs H3 w3 with ⟨stop,q⟩|⟨go,step⟩
  ·refine thn (T.done (cxC X NB csc cl s₀.heap.objs.size s₀ (upd H2 s2.heap.objs.size (.lst [])) fp (X.pn++pins)) rfl rfl rfl hc i [] s3 τ H3 _ I3 (fpB fr3) st3 stop) λr s4 ⟨hr,I4⟩=>?_
   subst hr
   obtain⟨IX,fpC⟩:=qsy I0 f0 I4
   exact fin _ _ s4 H3 IX fpC (let ⟨m,hn,_⟩:=I4.loc;⟨m,hn⟩) q
  ·refine thn (T.item (cxC X NB csc cl s₀.heap.objs.size s₀ (upd H2 s2.heap.objs.size (.lst [])) fp (X.pn++pins)) rfl rfl rfl hc i [] s3 τ H3 _ I3 (fpB fr3) st3 go) λr s4 ⟨u,hr,h4⟩=>?_
   subst hr
   refine thn h4 λ_ s5 ⟨x,H5,I5,r5,y5,st5,fr5⟩=>?_
   have I5':=I5.pinned (fpB fr5) (T.obj _ _ st5)
   refine wpAny_mono (hg _ _ _ _ _ _ _ s5 τ H5 x u _ I5' r5 (step x H5 y5)) (λ_ s6 ⟨τ6,H6,I6,q6⟩=>?_) λ_ _ z=>False.elim z
   refine wpAny_mono (hf _ _ _ _ _ _ _ s6 τ6 H6 _ _ I6 q6) (λb s7 ⟨H7,I7,q7⟩=>?_) λ_ _ z=>False.elim z
   have again:∀ {τ7:St} {H7:Hp} {s7:Shared} {ys:List V},Inv (cxC X NB csc cl s₀.heap.objs.size s₀ (upd H2 s2.heap.objs.size (.lst [])) fp (X.pn++pins)) ([]++qku fp s5.heap) τ7 H7 s7->(∃m',m'<n/\W (i+1) m' τ7 ys H7) ->
     ∃m,m<n/\∃i τ xs H',Inv (cxC X NB csc cl s₀.heap.objs.size s₀ (upd H2 s2.heap.objs.size (.lst [])) fp (X.pn++pins)) [] τ H' s7/\tn i s7.heap/\(∀b∈fp,H' b=none)/\W i m τ xs H':=λ{τ7 H7 s7 ys} I7 w7=>by
    obtain⟨m',hm,w7⟩:=w7
    refine⟨m',hm,i+1,τ7,ys,H7,I7.unpinned,T.keep _ _ _ st5 λb hb o e=>(I7.pin (b,o) (List.mem_append_right _ (List.mem_append_right _ (qfa hb e)))).1,λb hb=>?_,w7⟩
    obtain⟨o,e,d⟩:=T.obj _ _ st5 b hb
    exact(I7.pin (b,o) (List.mem_append_right _ (List.mem_append_right _ (qfa hb e)))).2.1
   cases b with
  |false=>exact again I7 q7
  |true =>
    have q7':te τ6 H7 _:=q7
    refine wpAny_mono (he _ _ _ _ _ _ _ s7 τ6 H7 _ I7 q7') (λy s8 ⟨v8,H8,I8,r8,hl8,hz8,w8⟩=>?_) λ_ _ z=>False.elim z
    refine wpAny_mono (qkm (X:=(cxC X NB csc cl s₀.heap.objs.size s₀ (upd H2 s2.heap.objs.size (.lst [])) fp (X.pn++pins))) _ s8 τ6 H8 (.ref s2.heap.objs.size) [v8] (.ref s2.heap.objs.size) [y] (λ_ H9=>H9=upd H8 s2.heap.objs.size (.lst (xs++[v8]))) I8 rfl (.cons r8 .nil) ⟨_,xs,v8,rfl,rfl,hl8,hz8,rfl⟩) (λ_ s9 ⟨_,H9,I9,_,e9⟩=>?_) λ_ _ z=>False.elim z
    subst e9
    exact again I9 w8
 exact codeAny_compStart_list (loop _ (by rw[←hs0])) (T.self _ _ _ _ _ st1 (loop _ (by rw[←hs0])))
theorem PCp.pe{e:Expr}{t:TE}(h:PCp X e t):PE X e t:=by
 obtain⟨elt,tg,iter,ifs,csc,pos,rfl,h⟩:=h
 intro pins s σ H Q I hw
 rw[eval_ListComp]
 refine h _ none (EP X pins σ Q) pins s σ H Q I hw λD C s' H' IX fpC ⟨m,hn⟩ q=>⟨m,hn,λh' hs=>?_⟩
 exact⟨.ref D,H',IX.turned (t':=s'.toks) (λb o hb e=>(hs.2 b hb).trans e) fpC.1 fpC.2.1 fpC.2.2.2.1 fpC.2.2.2.2.1 fpC.2.2.2.2.2,rfl,q⟩
end
end L2
namespace L2
open PySem PySem.Spec PyProof.Rows
structure QE(X:Cx)(e:Expr)(t:TE):Prop where
 u:PE X e t
structure QT(X:Cx)(e:Expr)(t:TT):Prop where
 u:PT X e t
structure QW(X:Cx)(e:Expr)(t:TT):Prop where
 u:PW X e t
structure QA(X:Cx)(es:List Expr)(t:TA):Prop where
 u:PA X es t
structure QS(X:Cx)(st:Stmt)(t:TS):Prop where
 u:PS X st t
structure QSs(X:Cx)(st:List Stmt)(t:TS):Prop where
 u:PSs X st t
structure QI(X:Cx)(tg iter:Expr)(t:TI):Prop where
 u:PI X tg iter t
structure QG(X:Cx)(tg:Expr)(t:TG):Prop where
 u:PG X tg t
structure QGs(X:Cx)(ts:List Expr)(t:TGs):Prop where
 u:PGs X ts t
structure QO(X:Cx)(e:Option Expr)(t:TO):Prop where
 u:PO X e t
structure QF(X:Cx)(ifs:List Expr)(t:TF):Prop where
 u:PF X ifs t
structure QC(X:Cx)(e:Expr)(t:TE):Prop where
 u:PCp X e t
section
variable {X:Cx} {st:Stmt} {rest:List Stmt} {t u:TS} {a b c e o i:Expr} {ta tb tc te to ti:TE} {es:List Expr} {tA:TA} {tT tU:TT} {pos pos' p p2 apos cpos:Pos} {x name:Str} {n:Nat}
theorem qx1:QSs X [] q1w:=⟨qxl⟩
theorem qx2(h:QS X st t):QSs X [st] t:=⟨qxm h.u⟩
theorem qt5(h:QS X st t)(r:QSs X rest u):QSs X (st::rest) (tSeq t u):=⟨qty h.u r.u⟩
theorem qx0(h:QE X e te)(hs:swapsWith e none pos.line X.env=pure false:=by rfl):QS X (.Expr e pos) (q1v te):=⟨qxk h.u hs⟩
theorem qvm(h:QE X e te):QS X (.Return (some e) pos) (tRet te):=⟨q0u h.u⟩
theorem q25{a b:List Stmt}(hc:QT X c tT)(ha:QSs X a t)(hb:QSs X b u):QS X (.If c a b pos) (tIfS tT t u):=⟨q2w hc.u ha.u hb.u⟩
theorem qvn{i:Nat}(hN:X.N.Nodup)(hi:X.N[i]?=some x)(hx:Loc X.env.scope x)(h:QE X e te)(hs:swapsWith e (some (.Name x pos')) pos.line X.env=pure false:=by rfl)
  (hf:X.fn x=true\/X.env.scope.names.lookup x=some .local:=by first|exact .inl rfl|exact .inr rfl|assumption):QS X (.Assign [.Name x pos'] e pos) (tAsg te (qoo i)):=⟨q0v hN hi hx h.u hs hf⟩
theorem q1a{tg iter:Expr}{body:List Stmt}{wi:TI}{g:TG}(hp:PassesOwn (model X.prog X.w) X.A X.env X.xe)(hc:X.calm=true)(hi:QI X tg iter wi)(hg:QG X tg g)(hb:QSs X body t)
  (hs:∀x,foldedSetIterable iter X.env x=pure x:=by intro _;rfl):QS X (.For tg iter body [] pos) (tFor wi g t):=⟨q0s hp hc hi.u hg.u hb.u hs⟩
theorem qt4{body:List Stmt}(hp:PassesOwn (model X.prog X.w) X.A X.env X.xe)(hc:QT X c tT)(hb:QSs X body t):QS X (.While c body [] pos) (qvv tT t):=⟨qtx hp hc.u hb.u⟩
theorem q01{k:Int}{j:Nat}:QE X (.Constant (.int k) j pos) (tC (.int k)):=⟨q0i⟩
theorem q2y{k:Bool}{j:Nat}:QE X (.Constant (.bool k) j pos) (tC (.bl k)):=⟨q2o⟩
theorem q03{j:Nat}:QE X (.Constant .none j pos) (tC .non):=⟨q0k⟩
theorem q06{z:Str}{j:Nat}:QE X (.Constant (.str z) j pos) (tC (.str z)):=⟨q0n⟩
theorem qv(i:Nat)(hN:X.N[i]?=some x:=by rfl)(hv:Vis X.env.scope x:=by first|exact Or.inl rfl|exact Or.inr (Or.inl rfl)|exact Or.inr (Or.inr rfl))(hd:(x==("__debug__" : Str))=false:=by decide)
  (hcd:(x==("__classdict__" : Str))=false:=by decide):QE X (.Name x pos) (tVar i):=⟨q0p hN hv hd hcd⟩
theorem qxr{v:V}{w:Value}(hg:Gl X x)(hm:X.mg x=none)(hv:bootBuiltins x=some w)(r:RelV v w)(hn:x≠"__name__" := by decide)(hd:(x==("__debug__" : Str))=false:=by decide):QE X (.Name x pos) (tC v):=⟨qw7 hg hm hv r hn hd⟩
theorem q20{op:Operator}{r:R2}(ho:OpR X (binaryOp op) r)(ha:QE X a ta)(hb:QE X b tb):QE X (.BinOp a op b pos) (tOp r ta tb):=⟨q2r ho ha.u hb.u⟩
theorem q22{op:UnaryOp}{r:V->Hp->VK->Prop}(ho:UnR X (unaryOp op) r)(ha:QE X a ta):QE X (.UnaryOp op a pos) (tUn r ta):=⟨q2t ho ha.u⟩
theorem qxs{op:CmpOp}{r:R2}(ho:OpR X (compareOp op) r)(ha:QE X a ta)(hb:QE X b tb)(hm:behindInMarks op b=false):QE X (.Compare a [op] [b] pos) (tOp r ta tb):=⟨qw9 ho ha.u hb.u hm⟩
theorem q05{op:BoolOp}(h:QE X a ta):QE X (.BoolOp op [a] pos) ta:=⟨q0m h.u⟩
theorem q00(ha:QE X a ta)(hb:QE X (.BoolOp .And (b::es) pos) tb):QE X (.BoolOp .And (a::b::es) pos) (q1t ta tb):=⟨q0f ha.u hb.u⟩
theorem q21(ha:QE X a ta)(hb:QE X (.BoolOp .Or (b::es) pos) tb):QE X (.BoolOp .Or (a::b::es) pos) (tOrV ta tb):=⟨q2s ha.u hb.u⟩
theorem q04(ha:QE X a ta):QE X (.UnaryOp .Not a pos) (q1x ta):=⟨q0l ha.u⟩
theorem qt2(hc:QT X c tT)(ha:QE X a ta)(hb:QE X b tb):QE X (.IfExp c a b pos) (tIf tT ta tb):=⟨qtt hc.u ha.u hb.u⟩
theorem q07{k:Nat}(h:QA X es tA):QE X (.Tuple es k pos) (tTup tA):=⟨q0o h.u⟩
theorem q02(h:QA X es tA):QE X (.List es pos) (tLst tA):=⟨q0j h.u⟩
theorem qt3{lo hi:Option Expr}{tl th:TO}{r:V->Option Int->Option Int->Hp->VK->Prop}(hr:SlR X r)(he:QE X e te)(hl:QO X lo tl)(hu:QO X hi th):QE X (.Subscript e (.Slice lo hi none p2) pos) (tSl r te tl th):=⟨qtu hr he.u hl.u hu.u⟩
theorem q2z{r:R2}(hr:IxR X r)(ha:QE X a ta)(hb:QE X b tb)(hs:qlg b):QE X (.Subscript a b pos) (tOp r ta tb):=⟨q2q hr ha.u hb.u hs⟩
theorem qxx:QO X none qr3:=⟨qxh⟩
theorem qxy(h:QE X e te):QO X (some e) (q1y te):=⟨qxi h.u⟩
theorem qgh:QA X [] tNil:=⟨q0d⟩
theorem qac(ha:QE X e te)(hr:QA X es tA)(hs:qa3 e=true:=by rfl):QA X (e::es) (qul te tA):=⟨pac ha.u hr.u hs⟩
theorem qvl{k:Nat}{ps:List Str}{sp:Sp}(C:Cal X.prog X.w X.K X.mg X.base k x ps sp)(hr:Room k X.A)(hg:Gl X x)(ha:QA X (e::es) tA)(hp:(e::es).all qa3=true:=by rfl)(hdb:(x==("__debug__" : Str))=false:=by decide) :
  QE X (.Call (.Name x p) (e::es) [] pos) (qyi sp [] E0 tA):=⟨q0g C hr hg ha.u hp hdb⟩
theorem qcb{id:String}{r:List V->Hp->VK->Prop}(hc:CallR X (.builtin id) r)(hg:Gl X x)(hm:X.mg x=none)(hv:bootBuiltins x=some (.builtin id))(ha:QA X (e::es) tA)(hp:(e::es).all qa3=true:=by rfl)(hn:x≠"__name__" := by decide)
  (hdb:(x==("__debug__" : Str))=false:=by decide):QE X (.Call (.Name x p) (e::es) [] pos) (tCB r tA):=⟨pcb hc hg hm hv ha.u hp hn hdb⟩
theorem qct{T:String}{r:List V->Hp->VK->Prop}(hc:CallR X (.type T) r)(hg:Gl X x)(hm:X.mg x=none)(hv:bootBuiltins x=some (.type T))(ha:QA X (e::es) tA)(hp:(e::es).all qa3=true:=by rfl)(hn:x≠"__name__" := by decide)
  (hdb:(x==("__debug__" : Str))=false:=by decide):QE X (.Call (.Name x p) (e::es) [] pos) (tCB r tA):=⟨pct hc hg hm hv ha.u hp hn hdb⟩
theorem qbm{T id:String}{r:V->List V->Hp->VK->Prop}(pa:PlainAttrs T)(slot:Slot T name id)(hty:typeOf (.builtin id)=pure (.type "method_descriptor"))(hm:MtR X id r)(ho:QE X o to)(ha:QA X (e::es) tA)(hp:(e::es).all qa3=true:=by rfl)
  (hfew:decide ((e::es).length<30)=true:=by rfl) (hbase:attributeBase o name X.env (eval o X.env)=eval o X.env:=by rfl) (hline:(apos.endLine==cpos.line)=true:=by rfl) :
  QE X (.Call (.Attribute o name apos) (e::es) [] cpos) (tBM X.K T r to tA):=⟨pbm pa slot hty hm ho.u ha.u hp hfew hbase hline⟩
theorem qx3{op:CmpOp}{r:R2}(ho:OpR X (compareOp op) r)(ha:QE X a ta)(hb:QE X b tb)(hm:behindInMarks op b=false):QT X (.Compare a [op] [b] pos) (qum (tOp r ta tb)):=⟨qxn ho ha.u hb.u hm⟩
theorem qt7{op op':CmpOp}{r r':R2}(ho:OpR X (compareOp op) r)(ho':OpR X (compareOp op') r')(ha:QE X a ta)(hb:QE X b tb)(hc:QE X c tc)(hm:lastMarks [op,op'] [b,c]=false:=by with_unfolding_all rfl) :
  QT X (.Compare a [op,op'] [b,c] pos) (qum (qr2 r r' ta tb tc)):=⟨qtz ho ho' ha.u hb.u hc.u hm⟩
theorem q1c(h:QT X a tT):QT X (.UnaryOp .Not a pos) (tNot tT):=⟨q0w h.u⟩
theorem q1d(h:QE X e te)(he:∀whole,isTrue e X.env whole=(do let v ←whole;standAt e.pos;holding [v] (truthy v)):=by intro _;rfl):QT X e (tB te):=⟨q0x h.u he⟩
theorem qx4(h:QT X a tT):QW X (.BoolOp .And [a] pos) tT:=⟨qxp h.u⟩
theorem q1f(h:QT X a tT):QW X (.BoolOp .Or [a] pos) tT:=⟨q0z h.u⟩
theorem q1e(ha:QT X a tT)(hb:QW X (.BoolOp .And (b::es) pos) tU):QW X (.BoolOp .And (a::b::es) pos) (tAnd tT tU):=⟨q0y ha.u hb.u⟩
theorem q26(ha:QT X a tT)(hb:QW X (.BoolOp .Or (b::es) pos) tU):QW X (.BoolOp .Or (a::b::es) pos) (tOr tT tU):=⟨q2x ha.u hb.u⟩
theorem qw_t(h:QW X e tT):QT X e tT:=⟨h.u.pt⟩
theorem q23{tg:Expr}(hg:Gl X "range")(hm:X.mg "range" = none)(ha:QA X [a] tA)(hp:qa3 a=true:=by rfl):QI X tg (.Call (.Name "range" p) [a] [] pos) (qwd tA):=⟨q2u hg hm ha.u hp⟩
theorem q24{tg:Expr}(hg:Gl X "range")(hm:X.mg "range" = none)(ha:QA X [a,b] tA)(hp:qa3 a=true:=by rfl)(hp2:qa3 b=true:=by rfl):QI X tg (.Call (.Name "range" p) [a,b] [] pos) (qwe tA):=⟨q2v hg hm ha.u hp hp2⟩
theorem qxv{i:Nat}(hN:X.N.Nodup)(hi:X.N[i]?=some x)(hx:Loc X.env.scope x)(hf:X.fn x=true\/X.env.scope.names.lookup x=some .local:=by first|exact .inl rfl|exact .inr rfl|assumption):QG X (.Name x pos) (qoo i):=⟨qxd hN hi hx hf⟩
theorem qxw:QF X [] fNil:=⟨qxg⟩
theorem qxq{tg iter elt:Expr}{ifs:List Expr}{csc:Scope}{NB M:List Str}{wi:TI}{g:TG}{ti:TF}(hi:QI X tg iter wi)(hc:X.calm=true)(S:CompScope X.env.scope X.N NB M csc)
  (hg:∀cl C s₀ H₀ fp pn,QG (cxC X NB csc cl C s₀ H₀ fp pn) tg g) (hf:∀cl C s₀ H₀ fp pn,QF (cxC X NB csc cl C s₀ H₀ fp pn) ifs ti) (he:∀cl C s₀ H₀ fp pn,QE (cxC X NB csc cl C s₀ H₀ fp pn) elt te)
  (hs:∀x,foldedSetIterable iter X.env x=pure x:=by intro _;rfl):QC X (.ListComp elt [⟨tg,iter,ifs,0⟩] csc pos) (qyj wi g ti te M.length) :=
 ⟨qw6 hi.u hc S (λcl C s₀ H₀ fp pn=>(hg cl C s₀ H₀ fp pn).u) (λcl C s₀ H₀ fp pn=>(hf cl C s₀ H₀ fp pn).u) (λcl C s₀ H₀ fp pn=>(he cl C s₀ H₀ fp pn).u) hs⟩
theorem qc_e(h:QC X e te):QE X e te:=⟨h.u.pe⟩
end
theorem Fun.okQ{P:Program}{w:World}{K:PySem.W.Frag}{mg:Str->Option Value}{base:Heap}{x qual:Str}{st:Stmt}{f:Addr}{fd:FuncData}{N ps:List Str}{k:Nat}{sp:Sp}(F:Fun K x qual st f fd)(S:FnScope N ps (qae st))(len:∀vs H Q E,sp vs H Q E->vs.length=ps.length)
  (hbody:∀(cdv:Value) (A:Around) (outer:List Env) (s:Shared) (H:Hp) (vs:List V) (Q:VK) (E:XK),Room k (A.deeper (envOfC qual (qae st) s.heap.objs.size f cdv))->sp vs H Q E ->
   ∃t,QSs (cxOf CX0 P w K mg base N qual (qae st) f cdv A outer s H E).nox (qav st) t/\t { nx:=λ_ H'=>Q .non H',rt:=Q } (start N vs) H):FnOk P w K mg base CX0 (k+1) f fd ps sp :=
 F.ok S len λcdv A outer s H vs Q E hr hsp=>let ⟨t,h,q⟩:=hbody cdv A outer s H vs Q E hr hsp;⟨t,h.u,q⟩
end L2
namespace L2
open PySem PySem.Spec PyProof.Rows
def FlT(h:Heap)(a:Addr)(C:Value)(T:Addr)(fl:Value):Prop :=
 ∃oa vs oT ts,h.get? a=some oa/\(oa.cls=C/\oa.dict=none)/\oa.data=.fields vs/\vs[1]?=some (.ref T)/\T≠a/\h.get? T=some oT/\oT.data=.fields ts/\ts[3]?=some fl
structure Nk(fs ch:List Addr)(h g:Heap):Prop where
 keep:∀b o,b∉fs->b∉ch->h.get? b=some o->g.get? b=some o
 slot:∀b o,b∈fs->b∉ch->h.get? b=some o->∃sl,g.get? b=some { o with slots:=sl }
 there:∀b o,h.get? b=some o->∃u,g.get? b=some u
section
variable {M:Model} {A:Around} {E:Value->Shared->Prop} {s:Shared} {base:Heap} {env:Env} {outer:List Env} {L a T:Addr} {C:Value}
end
section
variable {X:Cx} {pins:List (Addr×Obj)} {σ:St} {H:Hp} {s:Shared} {a:Addr} {ts:List Addr} {C:Addr}
def FpN(X:Cx)(pins:List (Addr×Obj))(H:Hp)(b:Addr):Prop :=
 H b=none/\b≠X.env.locals/\b∉X.fs/\X.s₀.heap.get? b=none/\(∀x c,X.env.cells.lookup x=some c->c≠b)/\∀p∈X.pn++pins,p.1≠b
end
def CXR(P:Program)(w:World):CXT:=λouter H s E e s'=>∃a C H' T,e=.ref a/\s'.os=s.os/\AllBare s'.gens/\Un (frs outer) [] H H' s.heap s'.heap/\HOk P w H' s'.heap/\FlT s'.heap a (.ref C) T .none /\
 s.heap.get? a=none/\s.heap.get? T=none/\H' a=none/\H' T=none/\E (.ref C) none H'
section
variable {P:Program} {w:World} {K:PySem.W.Frag} {mg:Str->Option Value} {base:Heap}
end
inductive CalX(P:Program)(w:World)(K:PySem.W.Frag)(mg:Str->Option Value)(base:Heap)(k:Nat)(x:Str)(ps:List Str)(sp:Sp):Prop where
|mk {f:Addr} {fd:FuncData} (F:FnOk P w K mg base (CXR P w) k f fd ps sp) (hm:mg x=some (.ref f)) (hk:PySem.W.keepIn K (.ref f)=true) (hb:Binds K fd ps [])
section
variable {X:Cx} {k:Nat} {ps:List Str} {sp:Sp} {x:Str} {p pos:Pos} {e:Expr} {es:List Expr} {t:TA} {EX:St->XK}
end
abbrev bmV:List Value:=[.type "ValueError",.type "Exception",.type "BaseException",.type "object"]
abbrev OwnX(K:PySem.W.Frag)(C:Addr):Prop:=PySem.W.excIn K C bmV "ValueError.__new__" = true
section
variable {X:Cx} {pins:List (Addr×Obj)} {σ:St} {H:Hp} {s:Shared}
end
section
variable {X:Cx} {pins pins':List (Addr×Obj)} {σ:St} {H:Hp} {s:Shared} {E:Value->Shared->Prop} {e:Value}
end
abbrev TH:=Value->TS
def PH(X:Cx)(hs:List ExceptHandler)(th:TH):Prop :=
 ∀(pins:List (Addr×Obj)) (s:Shared) (σ:St) (H:Hp) (D:Ends) (a C U:Addr),Inv X pins σ H s->FlT s.heap a (.ref C) U .none->FpN X pins H a->FpN X pins H U->th (.ref C) D σ H ->
  wpAny (model X.prog X.w) X.A (handleBy (.ref a) X.env hs) (SP X pins D) X.xe s
structure QH(X:Cx)(hs:List ExceptHandler)(th:TH):Prop where
 u:PH X hs th
section
variable {X:Cx} {x:Str} {c:Value} {t:TS} {th:TH} {np pos:Pos} {b0:Stmt} {suite body:List Stmt} {rest:List ExceptHandler}
end
def excO(a C:Addr):HO:=.ext λh=>∃o,h.get? a=some o/\(o.cls=.ref C/\o.dict=none)/\PySem.W.notCls o=true
section
variable {X:Cx} {pins:List (Addr×Obj)} {σ:St} {H:Hp} {s:Shared} {a C:Addr}
end
section
variable {X:Cx} {x n:Str} {i:Nat} {c:Value} {t:TS} {th:TH} {np pos:Pos} {b0:Stmt} {suite body:List Stmt} {rest:List ExceptHandler}
end
open PySem.W
structure ExcK(K:Frag)(C:Addr):Prop where
 ga:findIn K (.ref C) "__getattribute__" = some (some (.builtin "BaseException.__getattribute__"))
 gn:findIn K (.ref C) "__getattr__" = some none
 gc:findIn K (.ref C) "__class__" = some (some (.builtin "object.__class__"))
 mo:mroIn K C (.type "object")=some true
 mb:mroIn K C (.type "BaseException")=some true
 hd:hasDictIn K C=true
section
variable {prog:Program} {w:World} {A:Around} {E:Value->Shared->Prop} {h:Heap} {g:Array GenState} {d:Drawn} {t:Nat} {os:OsState} {K:Frag} {a C:Addr} {o:Obj}
end
section
variable {X:Cx}
end
structure RoomH(k:Nat)(A:Around):Prop where
 dp:A.depth+3*k+5<recursionLimit
 un:A.units+16*k+200<cLine
structure FnOkH(P:Program)(w:World)(K:Frag)(mg:Str->Option Value)(base:Heap)(CX:CXT)(k:Nat)(f:Addr)(fd:FuncData)(ps:List Str)(sp:Sp):Prop where
 len:∀vs H Q E,sp vs H Q E->vs.length=ps.length
 run:∀(A:Around) (outer:List Env) (s:Shared) (H:Hp) (args:Args) (us:List Value) (vs:List V) (Q:VK) (E:XK),RoomH k A->Env0 P w K mg base A outer s H->BindsTo s fd args (ps.zip us)->Vals vs us->sp vs H Q E ->
  codeAny (model P w) A (.call (.ref f) args) (CR CX outer P w H s Q E) s
section
variable {P:Program} {w:World} {K:Frag} {mg:Str->Option Value} {base:Heap} {CX:CXT} {k:Nat} {f:Addr}
end
inductive CalH(P:Program)(w:World)(K:Frag)(mg:Str->Option Value)(base:Heap)(k:Nat)(x:Str)(ps:List Str)(sp:Sp):Prop where
|mk {f:Addr} {fd:FuncData} (F:FnOkH P w K mg base CX0 k f fd ps sp) (hm:mg x=some (.ref f)) (hk:keepIn K (.ref f)=true) (hb:Binds K fd ps [])
section
variable {X:Cx} {k:Nat} {ps:List Str} {sp:Sp} {x:Str} {p pos:Pos} {e:Expr} {es:List Expr} {t:TA}
end
end L2
namespace L2
open PySem PySem.Spec PyProof.Rows
section
variable {X:Cx} {o i e f value a b:Expr} {pos pos' tpos apos cpos:Pos} {td ty tv tx:TE}
theorem qxt(hu:X.A.units+1<cLine)(ho:QE X o td)(hi:QE X i ty)(hs:NoSl i:=by exact λ_ _=>rfl):QE X (.Subscript o i pos) (q1u td ty):=⟨qxa hu ho.u hi.u hs⟩
theorem qrh(hu:X.A.units+1<cLine)(hi:QE X i ty)(ho:QE X o td)(hm:behindInMarks .NotIn o=false:=by with_unfolding_all rfl):QE X (.Compare i [.NotIn] [o] pos) (qmw ty td):=⟨q0h (qkt hu hi.u ho.u) hm⟩
theorem q1b(hu:X.A.units+1<cLine)(hi:QE X i ty)(ho:QE X o td)(hm:behindInMarks .In o=false:=by with_unfolding_all rfl):QT X (.Compare i [.In] [o] pos) (tB (tDIn ty td)):=⟨qvk (q0e hu hi.u ho.u) hm⟩
theorem qri(hu:X.A.units+1<cLine)(hi:QE X i ty)(ho:QE X o td)(hm:behindInMarks .NotIn o=false:=by with_unfolding_all rfl):QT X (.Compare i [.NotIn] [o] pos) (tB (qmw ty td)):=⟨qvk (qkt hu hi.u ho.u) hm⟩
theorem qxz(hu:X.A.units+1<cLine)(ho:QE X o td)(hi:QE X i ty)(hv:QE X value tv)(hs:swapsWith value (some (.Subscript o i pos')) pos.line X.env=pure false:=by rfl) :
  QS X (.Assign [.Subscript o i pos'] value pos) (q1q td ty tv):=⟨qxj hu ho.u hi.u hv.u hs⟩
theorem qt1:QE X (.Dict [] [] pos) qvu:=⟨qts⟩
theorem qt0(hu:X.A.units+1<cLine)(ho:QE X o td)(he:QE X e ty)(m:M1 X o "get" apos e cpos):QE X (.Call (.Attribute o "get" apos) [e] [] cpos) (qvt td ty):=⟨qtr hu ho.u he.u m⟩
end
end L2
namespace L2
open PySem PySem.Spec PyProof.Rows
inductive D where
|non
|bl (b:Bool)
|int (i:Int)
|str (x:Str)
|tup (xs:List D)
|lst (xs:List D)
|dT (ks:List (List Str)) (ds:List D)
|dK (ks:List Str) (ds:List D)
|scr (ns:List Int)
|kt (ss:List Str)
|exc (n:Str)
|io (c:Addr) (ds:List D)
|ioT (c:Addr) (ks:List (List Str)) (ds:List D)
def clsOf(K:PySem.W.Frag)(n:Str)(C:Addr):Prop:=PySem.W.nsIn K mainGlobals n=some (some (.ref C))
def wK(ws:List Str):List Key:=ws.map Sum.inr
def TupAt(K:PySem.W.Frag)(H:Hp)(a:Addr)(ds:List D)(xs:List V):Prop:=H a=some (.tup xs)\/(SqT K (λ_=>none) a xs/\ds=[.str "folder",.str ""])
mutual
def Rep(K:PySem.W.Frag)(H:Hp):D->V->Prop
|.non,v=>v=.non
|.bl b,v=>v=.bl b
|.int i,v=>v=.int i
|.str x,v=>v=.str x
|.tup ds,v=>∃a xs,v=.ref a/\TupAt K H a ds xs/\Reps K H ds xs
|.lst ds,v=>∃a xs,v=.ref a/\H a=some (.lst xs)/\Reps K H ds xs
|.dT ks ds,v=>∃a kvs,v=.ref a/\Rd H a (.dT kvs)/\kvs.map (·.1)=ks.map wK/\Reps K H ds (kvs.map (·.2))
|.dK ks ds,v=>∃a kvs,v=.ref a/\H a=some (.dK kvs)/\kvs.map (·.1)=ks.map Sum.inr/\Reps K H ds (kvs.map (·.2))
|.scr ns,v=>∃a,v=.ref a/\SqL K H a (ns.map V.int)
|.kt ss,v=>∃a,v=.ref a/\SqT K (λ_=>none) a (ss.map V.str)
|.exc n,v=>∃a C,v=.ref a/\H a=some (excO a C)/\clsOf K n C
|.io c ds,v=>∃xs,v=.ref c/\H c=some (.lst xs)/\Reps K H ds xs
|.ioT c ks ds,v=>∃kvs,v=.ref c/\H c=some (.dT kvs)/\kvs.map (·.1)=ks.map wK/\Reps K H ds (kvs.map (·.2))
def Reps(K:PySem.W.Frag)(H:Hp):List D->List V->Prop
|[],xs=>xs=[]
|d::ds,xs=>∃x r,xs=x::r/\Rep K H d x/\Reps K H ds r
end
noncomputable def eqD(d e:D):Bool:=@decide (d=e) (Classical.propDecidable _)
noncomputable def eqDs(d e:List D):Bool:=@decide (d=e) (Classical.propDecidable _)
theorem eqD_iff{d e:D}:eqD d e=true↔d=e:=@decide_eq_true_iff _ (Classical.propDecidable _)
theorem eqDs_iff{d e:List D}:eqDs d e=true↔d=e:=@decide_eq_true_iff _ (Classical.propDecidable _)
theorem qu5{d e:D}(h:eqD d e=true):d=e:=eqD_iff.mp h
theorem qwa{d e:List D}(h:eqDs d e=true):d=e:=eqDs_iff.mp h
theorem qe6(d:D):eqD d d=true:=eqD_iff.mpr rfl
theorem qqi(d:List D):eqDs d d=true:=eqDs_iff.mpr rfl
theorem qce{a b:Bool}(h:a=true↔b=true):a=b:=by cases a<;>cases b<;>simp_all
theorem qqh(ds es:List D):eqD (.tup ds) (.tup es)=eqDs ds es:=qce (by rw[eqD_iff,eqDs_iff];exact⟨λh=>D.tup.inj h,λh=>h▸rfl⟩)
theorem qqg(ds es:List D):eqD (.lst ds) (.lst es)=eqDs ds es:=qce (by rw[eqD_iff,eqDs_iff];exact⟨λh=>D.lst.inj h,λh=>h▸rfl⟩)
def dV:D->Option V
|.non=>some .non
|.bl b=>some (.bl b)
|.int i=>some (.int i)
|.str x=>some (.str x)
|_=>none
theorem qza{d e:D}{v:V}(h:dV d=some v)(h':dV e=some v):d=e:=by
 cases d<;>cases e<;>simp_all [dV]<;>(subst h;simp_all)
theorem qi2{d e:D}{v z:V}(h:dV d=some v)(h':dV e=some z):eqD d e=decide (v=z):=qce (by
 rw[eqD_iff,decide_eq_true_iff]
 exact⟨λq=>by subst q;exact Option.some.inj (h.symm.trans h'),λq=>by subst q;exact qza h h'⟩)
mutual
def cmpD:D->D->Bool
|.tup a,.tup b=>qcf a b
|.lst a,.lst b=>qcf a b
|.non,.non=>true|.non,.int _=>true|.int _,.non=>true|.non,.bl _=>true|.bl _,.non=>true|.non,.str _=>true|.str _,.non=>true
|.int _,.int _=>true|.bl _,.bl _=>true|.str _,.str _=>true|.int _,.str _=>true|.str _,.int _=>true|.bl _,.str _=>true|.str _,.bl _=>true
|_,_=>false
def qcf:List D->List D->Bool
|x::xs,y::ys=>cmpD x y&&qcf xs ys
|_,_=>true
end
mutual
def depD:D->Nat
|.tup a=>qb3 a+1
|.lst a=>qb3 a+1
|_=>0
def qb3:List D->Nat
|[]=>0
|x::xs=>max (depD x) (qb3 xs)
end
theorem Same.emp(H:Hp):Same (λ_=>none) H:=λ_ _ h=>by cases h
theorem Same.sqT{K:PySem.W.Frag}{H H':Hp}(sm:Same H H'){a:Addr}{xs:List V}(h:SqT K H a xs):SqT K H' a xs:=by
 rcases h with (h|⟨o,h⟩)|h
 ·exact .inl (.inl (sm _ _ h))
 ·exact .inl (.inr ⟨o,sm _ _ h⟩)
 ·exact .inr h
theorem TupAt.sq{K:PySem.W.Frag}{H:Hp}{a:Addr}{ds:List D}{xs:List V}(h:TupAt K H a ds xs):SqT K H a xs:=h.elim SqT.of λq=>(Same.emp H).sqT q.1
theorem TupAt.same{K:PySem.W.Frag}{H H':Hp}{a:Addr}{ds:List D}{xs:List V}(h:TupAt K H a ds xs)(sm:Same H H'):TupAt K H' a ds xs:=h.elim (λq=>.inl (sm _ _ q)) .inr
section
variable {X:Cx} {pins:List (Addr×Obj)} {σ:St} {H:Hp} {s:Shared}
mutual
theorem Rep.inj(I:Inv X pins σ H s):∀ {d e:D} {v:V},Rep X.K H d v->Rep X.K H e v->cmpD d e=true->d=e
|.non,e,v,h,h',hc=>by
  unfold Rep at h
  subst h
  cases e<;>unfold Rep at h'<;>first|rfl|(obtain⟨_,_,z,_⟩:=h';cases z;done)|(obtain⟨_,z,_⟩:=h';cases z;done)|(cases h';done)
|.bl i,e,v,h,h',hc=>by
  unfold Rep at h
  subst h
  cases e<;>unfold Rep at h'<;>first|rfl|(obtain⟨_,_,z,_⟩:=h';cases z;done)|(obtain⟨_,z,_⟩:=h';cases z;done)|(cases h';rfl)|(cases h';done)
|.int i,e,v,h,h',hc=>by
  unfold Rep at h
  subst h
  cases e<;>unfold Rep at h'<;>first|rfl|(obtain⟨_,_,z,_⟩:=h';cases z;done)|(obtain⟨_,z,_⟩:=h';cases z;done)|(cases h';rfl)|(cases h';done)
|.str i,e,v,h,h',hc=>by
  unfold Rep at h
  subst h
  cases e<;>unfold Rep at h'<;>first|rfl|(obtain⟨_,_,z,_⟩:=h';cases z;done)|(obtain⟨_,z,_⟩:=h';cases z;done)|(cases h';rfl)|(cases h';done)
|.tup ds,e,v,h,h',hc=>by
  cases e with
 |tup es =>
   unfold Rep at h h'
   obtain⟨a,xs,rfl,ha,hr⟩:=h
   obtain⟨b,ys,z,hb,hs⟩:=h'
   cases z
   cases I.tuple_inj ha.sq hb.sq
   unfold cmpD at hc
   rw[Reps.inj I hr hs hc]
 |_=>unfold cmpD at hc;cases hc
|.lst ds,e,v,h,h',hc=>by
  cases e with
 |lst es =>
   unfold Rep at h h'
   obtain⟨a,xs,rfl,ha,hr⟩:=h
   obtain⟨b,ys,z,hb,hs⟩:=h'
   cases z
   rw[ha] at hb
   cases hb
   unfold cmpD at hc
   rw[Reps.inj I hr hs hc]
 |_=>unfold cmpD at hc;cases hc
|.dT _ _,e,_,_,_,h=>by cases e<;>(unfold cmpD at h;cases h)
|.dK _ _,e,_,_,_,h=>by cases e<;>(unfold cmpD at h;cases h)
|.scr _,e,_,_,_,h=>by cases e<;>(unfold cmpD at h;cases h)
|.kt _,e,_,_,_,h=>by cases e<;>(unfold cmpD at h;cases h)
|.exc _,e,_,_,_,h=>by cases e<;>(unfold cmpD at h;cases h)
|.io _ _,e,_,_,_,h=>by cases e<;>(unfold cmpD at h;cases h)
|.ioT _ _ _,e,_,_,_,h=>by cases e<;>(unfold cmpD at h;cases h)
theorem Reps.inj(I:Inv X pins σ H s):∀ {ds es:List D} {xs:List V},Reps X.K H ds xs->Reps X.K H es xs->qcf ds es=true->ds=es
|[],es,xs,h,h',_=>by
  unfold Reps at h
  subst h
  cases es with
 |nil=>rfl
 |cons e es=>unfold Reps at h';obtain⟨_,_,z,_⟩:=h';cases z
|d::ds,es,xs,h,h',hc=>by
  unfold Reps at h
  obtain⟨x,r,rfl,h1,h2⟩:=h
  cases es with
 |nil=>unfold Reps at h';cases h'
 |cons e es =>
   unfold Reps at h'
   obtain⟨x',r',z,h3,h4⟩:=h'
   cases z
   unfold qcf at hc
   rw[Bool.and_eq_true] at hc
   rw[Rep.inj I h1 h3 hc.1,Reps.inj I h2 h4 hc.2]
end
end
mutual
theorem Rep.same{K:PySem.W.Frag}{H H':Hp}(sm:Same H H'):∀ {d:D} {v:V},Rep K H d v->Rep K H' d v
|.non,_,h=>h
|.bl _,_,h=>h
|.int _,_,h=>h
|.str _,_,h=>h
|.tup _,_,h=>by
  unfold Rep at h ⊢
  obtain⟨a,xs,e,ha,r⟩:=h
  exact⟨a,xs,e,ha.same sm,Reps.same sm r⟩
|.lst _,_,h=>by
  unfold Rep at h ⊢
  obtain⟨a,xs,e,ha,r⟩:=h
  exact⟨a,xs,e,sm _ _ ha,Reps.same sm r⟩
|.dT _ _,_,h=>by
  unfold Rep at h ⊢
  obtain⟨a,xs,e,ha,k,r⟩:=h
  exact⟨a,xs,e,ha.elim (λq=>.inl (sm _ _ q)) λ⟨o,q⟩=>.inr ⟨o,sm _ _ q⟩,k,Reps.same sm r⟩
|.dK _ _,_,h=>by
  unfold Rep at h ⊢
  obtain⟨a,xs,e,ha,k,r⟩:=h
  exact⟨a,xs,e,sm _ _ ha,k,Reps.same sm r⟩
|.scr _,_,h=>by
  unfold Rep at h ⊢
  obtain⟨a,e,ha⟩:=h
  exact⟨a,e,sm.seq ha⟩
|.kt _,_,h=>h
|.exc _,_,h=>by
  unfold Rep at h ⊢
  obtain⟨a,C,e,ha,hc⟩:=h
  exact⟨a,C,e,sm _ _ ha,hc⟩
|.io _ _,_,h=>by
  unfold Rep at h ⊢
  obtain⟨xs,e,ha,r⟩:=h
  exact⟨xs,e,sm _ _ ha,Reps.same sm r⟩
|.ioT _ _ _,_,h=>by
  unfold Rep at h ⊢
  obtain⟨kvs,e,ha,k,r⟩:=h
  exact⟨kvs,e,sm _ _ ha,k,Reps.same sm r⟩
theorem Reps.same{K:PySem.W.Frag}{H H':Hp}(sm:Same H H'):∀ {ds:List D} {xs:List V},Reps K H ds xs->Reps K H' ds xs
|[],_,h=>h
|_::_,_,h=>by
  unfold Reps at h ⊢
  obtain⟨x,r,e,h1,h2⟩:=h
  exact⟨x,r,e,Rep.same sm h1,Reps.same sm h2⟩
end
theorem Reps.length{K:PySem.W.Frag}{H:Hp}:∀ {ds:List D} {xs:List V},Reps K H ds xs->ds.length=xs.length
|[],xs,h=>by unfold Reps at h;rw[h];rfl
|d::ds,xs,h=>by
  unfold Reps at h
  obtain⟨x,r,rfl,h1,h2⟩:=h
  rw[List.length_cons,List.length_cons,Reps.length h2]
theorem Reps.at{K:PySem.W.Frag}{H:Hp}:∀ {ds:List D} {xs:List V} {j:Nat} {d:D},Reps K H ds xs->ds[j]?=some d->∃x,xs[j]?=some x/\Rep K H d x
|[],xs,j,d,h,e=>by simp at e
|d0::ds,xs,0,d,h,e=>by
  unfold Reps at h
  obtain⟨x,r,rfl,h1,h2⟩:=h
  have e':d0=d:=by simpa using e
  subst e'
  exact⟨x,rfl,h1⟩
|d0::ds,xs,j+1,d,h,e=>by
  unfold Reps at h
  obtain⟨x,r,rfl,h1,h2⟩:=h
  obtain⟨y,h3,h4⟩:=Reps.at (j:=j) (d:=d) h2 (by simpa using e)
  exact⟨y,by simpa using h3,h4⟩
theorem qe7:∀(ds es:List D),((List.range (min ds.length es.length)).all (λj=>eqD (ds.getD j .non) (es.getD j .non))&&ds.length==es.length)=eqDs ds es:=by
 intro ds es
 cases h:eqDs ds es with
|true =>
  have e:=qwa h
  subst e
  rw[Bool.and_eq_true]
  refine⟨?_,by simp⟩
  rw[List.all_eq_true]
  intro j _
  exact qe6 _
|false =>
  apply Classical.byContradiction
  intro hn
  have ht:=eq_true_of_ne_false hn
  rw[Bool.and_eq_true,List.all_eq_true] at ht
  obtain⟨h1,h2⟩:=ht
  have hl:ds.length=es.length:=by simpa using h2
  have e:ds=es:=by
   apply List.ext_getElem hl
   intro i hi1 hi2
   have:=qu5 (h1 i (by rw[List.mem_range];lia))
   simpa [List.getD_eq_getElem?_getD,hi1,hi2] using this
  rw[e,qqi] at h
  cases h
theorem qnb:∀ {ds es:List D} {j:Nat} {d e:D},qcf ds es=true->ds[j]?=some d->es[j]?=some e->cmpD d e=true
|[],_,j,d,e,_,h,_=>by simp at h
|_::_,[],j,d,e,_,_,h=>by simp at h
|d0::ds,e0::es,0,d,e,h,h1,h2=>by
  unfold qcf at h
  rw[Bool.and_eq_true] at h
  have q1:d0=d:=by simpa using h1
  have q2:e0=e:=by simpa using h2
  subst q1 q2
  exact h.1
|d0::ds,e0::es,j+1,d,e,h,h1,h2=>by
  unfold qcf at h
  rw[Bool.and_eq_true] at h
  exact qnb (j:=j) h.2 (by simpa using h1) (by simpa using h2)
theorem qnf:∀ {ds:List D} {j:Nat} {d:D},ds[j]?=some d->depD d<=qb3 ds
|[],j,d,h=>by simp at h
|d0::ds,0,d,h=>by
  have q:d0=d:=by simpa using h
  subst q
  unfold qb3
  exact Nat.le_max_left _ _
|d0::ds,j+1,d,h=>by
  have:=qnf (j:=j) (d:=d) (ds:=ds) (by simpa using h)
  unfold qb3
  exact Nat.le_trans this (Nat.le_max_right _ _)
section
variable {X:Cx} {pins:List (Addr×Obj)} {σ:St} {H:Hp} {s:Shared}
theorem qfb{d:D}{v:V}(h:Rep X.K H d v){z:V}(e:dV d=some z):v=z:=by
 cases d<;>first|(unfold Rep at h;subst h;exact Option.some.inj e)|(cases e;done)
theorem qmu{d e:D}(h:cmpD d e=true)(h0:∀ds,d≠.tup ds)(h1:∀ds,d≠.lst ds):∃v z,dV d=some v/\dV e=some z/\scal v z=true:=by
 cases d<;>cases e<;>first|exact⟨_,_,rfl,rfl,rfl⟩|exact absurd rfl (h0 _)|exact absurd rfl (h1 _)|(unfold cmpD at h;cases h;done)
theorem ql0{d:D}{v:V}(h:dV d=some v):qgj v=true:=by
 cases d<;>first|(cases h;rfl)|(cases h;done)
theorem qs4{v z:V}(h:scal v z=true)(hv:qgj v=true):eqV v z=decide (v=z):=by
 cases v<;>cases z<;>first|(cases h;done)|(cases hv;done)|rfl|(simp[eqV];done)|(unfold eqV;exact qce (by simp))
theorem qhb{A':Around}{ds es:List D}{xs ys:List V}{its its2:List Value}(r1:Reps X.K H ds xs)(r2:Reps X.K H es ys)(v1:Vals xs its)(v2:Vals ys its2)(hc:qcf ds es=true)
  (ih:∀d∈ds,∀(e:D) (v z:V) (u w:Value),Rep X.K H d v->Rep X.K H e z->RelV v u->RelV z w->cmpD d e=true->SeqAt.EqAt A' s u w (eqD d e)) :
  ∀j (h1:j<its.toArray.size) (h2:j<its2.toArray.size),SeqAt.EqAt A' s its.toArray[j] its2.toArray[j] (eqD (ds.getD j .non) (es.getD j .non)):=λj h1 h2=>by
 have l1:j<ds.length:=by rw[r1.length,v1.length];simpa using h1
 have l2:j<es.length:=by rw[r2.length,v2.length];simpa using h2
 have q1:ds[j]?=some ds[j]:=List.getElem?_eq_getElem l1
 have q2:es[j]?=some es[j]:=List.getElem?_eq_getElem l2
 obtain⟨x,hx,rx⟩:=r1.at q1
 obtain⟨y,hy,ry⟩:=r2.at q2
 obtain⟨ux,hux,rux⟩:=v1.get hx
 obtain⟨uy,huy,ruy⟩:=v2.get hy
 have e1:its.toArray[j]=ux:=by
  have:its[j]?=some its.toArray[j]:=by simp
  rw[hux] at this
  exact(Option.some.inj this).symm
 have e2:its2.toArray[j]=uy:=by
  have:its2[j]?=some its2.toArray[j]:=by simp
  rw[huy] at this
  exact(Option.some.inj this).symm
 have e3:ds.getD j .non=ds[j]:=by simp[List.getD_eq_getElem?_getD,l1]
 have e4:es.getD j .non=es[j]:=by simp[List.getD_eq_getElem?_getD,l2]
 rw[e1,e2,e3,e4]
 exact ih ds[j] (List.getElem_mem l1) es[j] x y ux uy rx ry rux ruy (qnb hc q1 q2)
theorem qvp{A:Around}(I:Inv X pins σ H s){a b:Addr}{ds es:List D}{xs ys:List V}(ha:SqT X.K H a xs)(hb:SqT X.K H b ys)(r1:Reps X.K H ds xs)(r2:Reps X.K H es ys)(hc:qcf ds es=true)(hu:A.units<cLine)
  (ih:∀d∈ds,∀(e:D) (v z:V) (u w:Value),Rep X.K H d v->Rep X.K H e z->RelV v u->RelV z w->cmpD d e=true->SeqAt.EqAt A.in1 s u w (eqD d e)):SeqAt.RcAt A s (.ref a) (.ref b) (eqD (.tup ds) (.tup es)):=by
 obtain⟨its,v1,p1,_⟩:=I.tuple ha
 obtain⟨its2,v2,p2,_⟩:=I.tuple hb
 have:=SeqAt.RcAt.tuples (A:=A) (s:=s) (e:=λj=>eqD (ds.getD j .non) (es.getD j .non)) (show s.heap.IsTuple a its.toArray from p1) (show s.heap.IsTuple b its2.toArray from p2) hu (qhb r1 r2 v1 v2 hc ih)
 rw[List.size_toArray,List.size_toArray,←v1.length,←v2.length,←r1.length,←r2.length,qe7] at this
 rw[qqh]
 exact this
theorem qvo{A:Around}(I:Inv X pins σ H s){a b:Addr}{ds es:List D}{xs ys:List V}(ha:H a=some (.lst xs))(hb:H b=some (.lst ys))(r1:Reps X.K H ds xs)(r2:Reps X.K H es ys)(hc:qcf ds es=true)(hu:A.units<cLine)
  (ih:∀d∈ds,∀(e:D) (v z:V) (u w:Value),Rep X.K H d v->Rep X.K H e z->RelV v u->RelV z w->cmpD d e=true->SeqAt.EqAt A.in1 s u w (eqD d e)):SeqAt.RcAt A s (.ref a) (.ref b) (eqD (.lst ds) (.lst es)):=by
 obtain⟨its,v1,p1,_⟩:=I.list (SqL.of ha)
 obtain⟨its2,v2,p2,_⟩:=I.list (SqL.of hb)
 have er:=qe7 ds es
 rw[qqg]
 by_cases hl:ds.length=es.length
 ·have hz:its.toArray.size=its2.toArray.size:=by rw[List.size_toArray,List.size_toArray,←v1.length,←v2.length,←r1.length,←r2.length,hl]
  have:=SeqAt.RcAt.lists (A:=A) (s:=s) (e:=λj=>eqD (ds.getD j .non) (es.getD j .non)) p1.isList p2.isList hz hu (qhb r1 r2 v1 v2 hc ih)
  rw[List.size_toArray,←v1.length,←r1.length] at this
  rw[←hl,Nat.min_self] at er
  have e2:(ds.length==ds.length)=true:=by simp
  rw[e2,Bool.and_true] at er
  rw[er] at this
  exact this
 ·have e2:(ds.length==es.length)=false:=by simpa using hl
  rw[e2,Bool.and_false] at er
  rw[←er]
  refine SeqAt.RcAt.lists_lengths p1.isList p2.isList ?_ hu
  rw[List.size_toArray,List.size_toArray,←v1.length,←v2.length,←r1.length,←r2.length]
  simpa using hl
theorem qc3{ds:List D}{d:D}(h:d∈ds):depD d<=qb3 ds:=by
 obtain⟨j,hj⟩:=List.mem_iff_getElem?.mp h
 exact qnf hj
theorem qgf(I:Inv X pins σ H s):∀(n:Nat) (A:Around) (d e:D) (v z:V) (u w:Value),sizeOf d<=n->Rep X.K H d v->Rep X.K H e z->RelV v u->RelV z w->cmpD d e=true->A.units+depD d<cLine->SeqAt.EqAt A s u w (eqD d e)
|0,_,d,_,_,_,_,_,hn,_,_,_,_,_,_=>by cases d<;>simp at hn
|n+1,A,d,e,v,z,u,w,hn,hd,he,ru,rw',hc,hu=>by
  have un:A.in1.units=A.units+1:=rfl
  cases d with
 |tup ds =>
   cases e with
  |tup es =>
    have hd':=hd
    have he':=he
    unfold Rep at hd he
    obtain⟨a,xs,rfl,ha,r1⟩:=hd
    obtain⟨b,ys,rfl,hb,r2⟩:=he
    cases ru
    cases rw'
    unfold depD at hu
    by_cases hab:a=b
    ·subst hab
     rw[Rep.inj I hd' he' hc,qe6]
     exact SeqAt.EqAt.same _
    ·unfold cmpD at hc
     refine SeqAt.EqAt.of_refs hab (qvp I ha.sq hb.sq r1 r2 hc (by lia) λd hd e v z u w h1 h2 h3 h4 h5=>qgf I n A.in1 d e v z u w ?_ h1 h2 h3 h4 h5 ?_)
     ·have:=List.sizeOf_lt_of_mem hd
      simp at hn
      lia
     ·have:=qc3 hd
      lia
  |_=>unfold cmpD at hc;cases hc
 |lst ds =>
   cases e with
  |lst es =>
    have hd':=hd
    have he':=he
    unfold Rep at hd he
    obtain⟨a,xs,rfl,ha,r1⟩:=hd
    obtain⟨b,ys,rfl,hb,r2⟩:=he
    cases ru
    cases rw'
    unfold depD at hu
    by_cases hab:a=b
    ·subst hab
     rw[Rep.inj I hd' he' hc,qe6]
     exact SeqAt.EqAt.same _
    ·unfold cmpD at hc
     refine SeqAt.EqAt.of_refs hab (qvo I ha hb r1 r2 hc (by lia) λd hd e v z u w h1 h2 h3 h4 h5=>qgf I n A.in1 d e v z u w ?_ h1 h2 h3 h4 h5 ?_)
     ·have:=List.sizeOf_lt_of_mem hd
      simp at hn
      lia
     ·have:=qc3 hd
      lia
  |_=>unfold cmpD at hc;cases hc
 |_ =>
   obtain⟨v',z',q1,q2,q3⟩:=qmu hc (λ_ h=>by cases h) (λ_ h=>by cases h)
   have e1:=qfb hd q1
   have e2:=qfb he q2
   subst e1 e2
   rw[qi2 q1 q2,←qs4 q3 (ql0 q1)]
   exact qu4 ru rw' (ql0 q1) (ql0 q2)
def rEqD(K:PySem.W.Frag)(g:Bool->Bool):R2:=λx y H Q=>∃d e,Rep K H d x/\Rep K H e y/\cmpD d e=true/\depD d<=50/\Q (.bl (g (eqD d e))) H
theorem qz6(hu:X.A.units+60<cLine):OpR X (compareOp .Eq) (rEqD X.K id):=by
 intro pins s σ H x y v u Q I rx ry h
 obtain⟨d,e,hd,he,hc,hn,q⟩:=h
 have fin:EP X pins σ Q (.bool (eqD d e)) s:=⟨.bl (eqD d e),H,I,rfl,q⟩
 have un:X.A.in1.units=X.A.units+1:=rfl
 cases d with
|tup ds =>
  cases e with
 |tup es =>
   unfold Rep at hd he
   obtain⟨a,xs,rfl,ha,r1⟩:=hd
   obtain⟨b,ys,rfl,hb,r2⟩:=he
   cases rx
   cases ry
   unfold cmpD at hc
   unfold depD at hn
   exact qvp I ha.sq hb.sq r1 r2 hc (by lia) (λd hd e v z u w h1 h2 h3 h4 h5=>qgf I _ X.A.in1 d e v z u w (Nat.le_refl _) h1 h2 h3 h4 h5 (by have:=qc3 hd;lia)) _ _ _ _ fin
 |_=>unfold cmpD at hc;cases hc
|lst ds =>
  cases e with
 |lst es =>
   unfold Rep at hd he
   obtain⟨a,xs,rfl,ha,r1⟩:=hd
   obtain⟨b,ys,rfl,hb,r2⟩:=he
   cases rx
   cases ry
   unfold cmpD at hc
   unfold depD at hn
   exact qvo I ha hb r1 r2 hc (by lia) (λd hd e v z u w h1 h2 h3 h4 h5=>qgf I _ X.A.in1 d e v z u w (Nat.le_refl _) h1 h2 h3 h4 h5 (by have:=qc3 hd;lia)) _ _ _ _ fin
 |_=>unfold cmpD at hc;cases hc
|_ =>
  obtain⟨v',z',q1,q2,q3⟩:=qmu hc (λ_ h=>by cases h) (λ_ h=>by cases h)
  have e1:=qfb hd q1
  have e2:=qfb he q2
  subst e1 e2
  have q':Q (.bl (eqD _ _)) H:=q
  rw[qi2 q1 q2] at q'
  exact q2h pins s σ H _ _ v u Q I rx ry ⟨q3,q'⟩
end
end L2
namespace L2
open PySem PySem.Spec PyProof.Rows
inductive R where
|val (d:D)
|own (d:D)
|peek (d:D)
|exc (n:Str)
def R.d:R->D
|.val d=>d
|.own d=>d
|.peek d=>d
|.exc _=>.scr []
abbrev VSt:=List (Option R)
def ioA:D->Option Addr
|.io c _=>some c
|.ioT c _ _=>some c
|_=>none
def OwnAt(K:PySem.W.Frag)(B H:Hp)(d:D)(a:Addr):Prop:=match d with
|.lst ds=>∃xs,H a=some (.lst xs)/\Reps K B ds xs
|.dT ks ds=>∃kvs,H a=some (.dT kvs)/\kvs.map (·.1)=ks.map wK/\Reps K B ds (kvs.map (·.2))
|.dK ks ds=>∃kvs,H a=some (.dK kvs)/\kvs.map (·.1)=ks.map Sum.inr/\Reps K B ds (kvs.map (·.2))
|.io c ds=>∃xs,H a=some (.lst xs)/\a=c/\Reps K B ds xs
|.ioT c ks ds=>∃kvs,H a=some (.dT kvs)/\a=c/\kvs.map (·.1)=ks.map wK/\Reps K B ds (kvs.map (·.2))
|_=>False
def Pk(K:PySem.W.Frag)(B H:Hp)(r:R)(v:V):Prop:=match r with
|.val d=>Rep K B d v
|.own d=>∃a,v=.ref a/\B a=none/\OwnAt K B H d a
|.peek d=>∃a,v=.ref a/\B a=none/\OwnAt K B H d a
|.exc _=>False
def RepR(K:PySem.W.Frag)(B H0 H:Hp)(r:R)(v:V):Prop:=match r with
|.val d=>Rep K B d v
|.own d=>∃a,v=.ref a/\H0 a=none/\B a=none/\OwnAt K B H d a
|.peek d=>∃a,v=.ref a/\B a=none/\OwnAt K B H d a
|.exc _=>False
structure Stp(B H B' H':Hp):Prop where
 b:Same B B'
 h:Same H H'
 s:Same B' H'
 d:∀a,B' a≠none->B a≠none\/H a=none\/∃xs,H a=some (.tup xs)
theorem Stp.refl{B H:Hp}(s:Same B H):Stp B H B H:=⟨Same.refl _,Same.refl _,s,λ_ h=>.inl h⟩
theorem Stp.trans{B H B1 H1 B2 H2:Hp}(p:Stp B H B1 H1)(q:Stp B1 H1 B2 H2):Stp B H B2 H2 :=
 ⟨p.b.trans q.b,p.h.trans q.h,q.s,λa h=>by
  rcases q.d a h with z|z|⟨xs,z⟩
  ·exact p.d a z
  ·exact .inr (.inl (p.h.free z))
  ·cases e:H a with
  |none=>exact .inr (.inl rfl)
  |some o =>
    rw[p.h _ _ e] at z
    exact .inr (.inr ⟨xs,z⟩)⟩
theorem Stp.keep{B H B' H':Hp}(p:Stp B H B' H'){a:Addr}(hb:B a=none)(hh:H a≠none)(nt:∀xs,H a≠some (.tup xs)):B' a=none:=by
 cases e:B' a with
|none=>rfl
|some o =>
  rcases p.d a (by rw[e];exact λz=>by cases z) with z|z|⟨xs,z⟩
  ·exact absurd hb z
  ·exact absurd z hh
  ·exact absurd z (nt xs)
theorem Stp.grow{B H H':Hp}(s:Same B H)(h:Same H H'):Stp B H B H':=⟨Same.refl _,h,s.trans h,λ_ z=>.inl z⟩
theorem Stp.new{B H:Hp}{p:Addr}{o:HO}(s:Same B H)(hp:H p=none):Stp B H (upd B p o) (upd H p o) :=
 ⟨qax (s.free hp) o,qax hp o,λb u e=>by
  unfold upd at e ⊢
  by_cases z:b=p
  ·rw[if_pos z] at e ⊢
   exact e
  ·rw[if_neg z] at e ⊢
   exact s _ _ e,λa h=>by
  by_cases z:a=p
  ·exact .inr (.inl (z▸hp))
  ·rw[qbd z] at h
   exact .inl h⟩
section
variable {K:PySem.W.Frag} {B H B' H' H0:Hp} {d:D} {a:Addr} {r:R} {v:V}
theorem OwnAt.some(h:OwnAt K B H d a):H a≠none:=by
 unfold OwnAt at h
 split at h
 ·obtain⟨xs,e,_⟩:=h;rw[e];exact λz=>by cases z
 ·obtain⟨xs,e,_⟩:=h;rw[e];exact λz=>by cases z
 ·obtain⟨xs,e,_⟩:=h;rw[e];exact λz=>by cases z
 ·obtain⟨xs,e,_⟩:=h;rw[e];exact λz=>by cases z
 ·obtain⟨xs,e,_⟩:=h;rw[e];exact λz=>by cases z
 ·exact h.elim
theorem OwnAt.nt(h:OwnAt K B H d a):∀xs,H a≠Option.some (.tup xs):=by
 intro ys
 unfold OwnAt at h
 split at h
 ·obtain⟨xs,e,_⟩:=h;rw[e];exact λz=>by cases z
 ·obtain⟨xs,e,_⟩:=h;rw[e];exact λz=>by cases z
 ·obtain⟨xs,e,_⟩:=h;rw[e];exact λz=>by cases z
 ·obtain⟨xs,e,_⟩:=h;rw[e];exact λz=>by cases z
 ·obtain⟨xs,e,_⟩:=h;rw[e];exact λz=>by cases z
 ·exact h.elim
theorem OwnAt.step(h:OwnAt K B H d a)(b:Same B B')(e:H' a=H a):OwnAt K B' H' d a:=by
 unfold OwnAt at h ⊢
 split at h
 ·obtain⟨xs,q,r⟩:=h;exact⟨xs,by rw[e,q],r.same b⟩
 ·obtain⟨xs,q,k,r⟩:=h;exact⟨xs,by rw[e,q],k,r.same b⟩
 ·obtain⟨xs,q,k,r⟩:=h;exact⟨xs,by rw[e,q],k,r.same b⟩
 ·obtain⟨xs,q,k,r⟩:=h;exact⟨xs,by rw[e,q],k,r.same b⟩
 ·obtain⟨xs,q,z,k,r⟩:=h;exact⟨xs,by rw[e,q],z,k,r.same b⟩
 ·exact h.elim
theorem Same.at{a:Addr}(h:Same H H')(n:H a≠none):H' a=H a:=by
 cases e:H a with
|none=>exact absurd e n
|some o=>exact h _ _ e
theorem Pk.step(h:Pk K B H r v)(p:Stp B H B' H'):Pk K B' H' r v:=by
 cases r with
|val d=>exact Rep.same p.b h
|own d =>
  obtain⟨a,e,q,o⟩:=h
  exact⟨a,e,p.keep q o.some o.nt,o.step p.b (p.h.at o.some)⟩
|peek d =>
  obtain⟨a,e,q,o⟩:=h
  exact⟨a,e,p.keep q o.some o.nt,o.step p.b (p.h.at o.some)⟩
|exc n=>exact h.elim
theorem RepR.pk(h:RepR K B H0 H r v):Pk K B H r v:=by
 cases r with
|val d=>exact h
|own d =>
  obtain⟨a,e,_,q,o⟩:=h
  exact⟨a,e,q,o⟩
|peek d=>exact h
|exc n=>exact h
theorem OwnAt.rep(s:Same B H)(h:OwnAt K B H d a):Rep K H d (.ref a):=by
 unfold OwnAt at h
 split at h
 ·obtain⟨xs,q,r⟩:=h;unfold Rep;exact⟨a,xs,rfl,q,r.same s⟩
 ·obtain⟨xs,q,k,r⟩:=h;unfold Rep;exact⟨a,xs,rfl,.inl q,k,r.same s⟩
 ·obtain⟨xs,q,k,r⟩:=h;unfold Rep;exact⟨a,xs,rfl,q,k,r.same s⟩
 ·obtain⟨xs,q,rfl,r⟩:=h;unfold Rep;exact⟨xs,rfl,q,r.same s⟩
 ·obtain⟨xs,q,rfl,k,r⟩:=h;unfold Rep;exact⟨xs,rfl,q,k,r.same s⟩
 ·exact h.elim
theorem Pk.rep(s:Same B H)(h:Pk K B H r v):Rep K H r.d v:=by
 cases r with
|val d=>exact Rep.same s h
|own d =>
  obtain⟨a,rfl,_,o⟩:=h
  exact o.rep s
|peek d =>
  obtain⟨a,rfl,_,o⟩:=h
  exact o.rep s
|exc n=>exact h.elim
theorem OwnAt.pub(h:OwnAt K B H d a)(hb:B a=none):∃o,H a=Option.some o/\Rep K (upd B a o) d (.ref a):=by
 unfold OwnAt at h
 split at h
 ·obtain⟨xs,q,r⟩:=h
  refine⟨_,q,?_⟩
  unfold Rep
  exact⟨a,xs,rfl,qbp,r.same (qax hb _)⟩
 ·obtain⟨xs,q,k,r⟩:=h
  refine⟨_,q,?_⟩
  unfold Rep
  exact⟨a,xs,rfl,.inl qbp,k,r.same (qax hb _)⟩
 ·obtain⟨xs,q,k,r⟩:=h
  refine⟨_,q,?_⟩
  unfold Rep
  exact⟨a,xs,rfl,qbp,k,r.same (qax hb _)⟩
 ·obtain⟨xs,q,rfl,r⟩:=h
  refine⟨_,q,?_⟩
  unfold Rep
  exact⟨xs,rfl,qbp,r.same (qax hb _)⟩
 ·obtain⟨xs,q,rfl,k,r⟩:=h
  refine⟨_,q,?_⟩
  unfold Rep
  exact⟨xs,rfl,qbp,k,r.same (qax hb _)⟩
 ·exact h.elim
theorem qkv{o:HO}(s:Same B H)(e:H a=Option.some o):Same (upd B a o) H:=λb u q=>by
 unfold upd at q
 by_cases z:b=a
 ·rw[if_pos z] at q
  rw[z,e]
  exact q
 ·rw[if_neg z] at q
  exact s _ _ q
def pubR:R->(D->Prop)->Prop
|.val d,Q=>Q d
|.own d,Q=>Q d
|.peek _,_=>False
|.exc _,_=>False
def exR:R->(R->Prop)->Prop->Prop
|.exc n,Q,_=>Q (.exc n)
|.val _,_,k=>k
|.own _,_,k=>k
|.peek _,_,k=>k
theorem pub{Q:D->Prop}(p:Stp B H B' H')(h:RepR K B' H H' r v)(q:pubR r Q):∃d B2,Stp B H B2 H'/\Same B' B2/\Rep K B2 d v/\Q d:=by
 cases r with
|val d=>exact⟨d,B',p,Same.refl _,h,q⟩
|own d =>
  obtain⟨a,rfl,h0,hb,o⟩:=h
  obtain⟨u,e,rp⟩:=o.pub hb
  refine⟨d,upd B' a u,⟨p.b.trans (qax hb _),p.h,qkv p.s e,λc z=>?_⟩,qax hb _,rp,q⟩
  by_cases w:c=a
  ·exact .inr (.inl (w▸h0))
  ·rw[qbd w] at z
   exact p.d c z
|peek d=>exact q.elim
|exc n=>exact q.elim
def FzAt(K:PySem.W.Frag)(B:Hp)(d:D)(v:V):Prop:=∃a ks ds kvs o,d=.dT ks ds/\v=.ref a/\B a=some (.frz o (.dT kvs))/\kvs.map (·.1)=ks.map wK/\Reps K B ds (kvs.map (·.2))
theorem FzAt.same(h:FzAt K B d v)(s:Same B B'):FzAt K B' d v:=by
 obtain⟨a,ks,ds,kvs,o,e1,e2,e3,e4,e5⟩:=h
 exact⟨a,ks,ds,kvs,o,e1,e2,s _ _ e3,e4,e5.same s⟩
theorem FzAt.rep(h:FzAt K B d v):Rep K B d v:=by
 obtain⟨a,ks,ds,kvs,o,rfl,e2,e3,e4,e5⟩:=h
 unfold Rep
 exact⟨a,kvs,e2,.inr ⟨o,e3⟩,e4,e5⟩
structure Slots(K:PySem.W.Frag)(H0 B H:Hp)(τ:VSt)(σ:St):Prop where
 len:σ.length=τ.length
 val:∀(i:Nat) (d:D),τ[i]?=some (some (R.val d))->∃v,σ[i]?=some (some v)/\Rep K B d v
 fz:∀(i:Nat) (d:D),τ[i]?=some (some (R.peek d))->∃v,σ[i]?=some (some v)/\FzAt K B d v
 own:∀(i:Nat) (d:D),τ[i]?=some (some (R.own d))->∃a,σ[i]?=some (some (.ref a))/\H0 a=none/\B a=none/\OwnAt K B H d a
 sep:∀(i j:Nat) (d e:D) (a:Addr),τ[i]?=some (some (R.own d))->τ[j]?=some (some (R.own e))->σ[i]?=some (some (.ref a))->σ[j]?=some (some (.ref a))->i=j
variable {τ:VSt} {σ:St}
theorem Slots.step(S:Slots K H0 B H τ σ)(p:Stp B H B' H'):Slots K H0 B' H' τ σ where
 len:=S.len
 val:=λi d e=>let ⟨v,q,r⟩:=S.val i d e;⟨v,q,r.same p.b⟩
 fz:=λi d e=>let ⟨v,q,r⟩:=S.fz i d e;⟨v,q,r.same p.b⟩
 own:=λi d e=>let ⟨a,q,h0,hb,o⟩:=S.own i d e;⟨a,q,h0,p.keep hb o.some o.nt,o.step p.b (p.h.at o.some)⟩
 sep:=S.sep
theorem qb1{α:Type}{xs:List α}{i j:Nat}{x y:α}(h:(xs.set i x)[j]?=some y):(i=j/\x=y/\i<xs.length)\/(i≠j/\xs[j]?=some y):=by
 by_cases e:i=j
 ·subst e
  by_cases l:i<xs.length
  ·rw[List.getElem?_set_self l] at h
   exact .inl ⟨rfl,Option.some.inj h,l⟩
  ·rw[List.getElem?_eq_none (by rw[List.length_set];lia)] at h
   cases h
 ·rw[List.getElem?_set_ne e] at h
  exact .inr ⟨e,h⟩
theorem Slots.setVal(S:Slots K H0 B H τ σ)(i:Nat)(h:Rep K B d v):Slots K H0 B H (τ.set i (some (.val d))) (σ.set i (some v)) where
 len:=by rw[List.length_set,List.length_set,S.len]
 val:=λj e q=>by
  rcases qb1 q with ⟨rfl,z,l⟩|⟨n,q⟩
  ·cases z
   exact⟨v,List.getElem?_set_self (by rw[S.len];exact l),h⟩
  ·obtain⟨w,q,r⟩:=S.val j e q
   exact⟨w,by rw[List.getElem?_set_ne n];exact q,r⟩
 fz:=λj e q=>by
  rcases qb1 q with ⟨rfl,z,l⟩|⟨n,q⟩
  ·cases z
  ·obtain⟨w,q,r⟩:=S.fz j e q
   exact⟨w,by rw[List.getElem?_set_ne n];exact q,r⟩
 own:=λj e q=>by
  rcases qb1 q with ⟨rfl,z,l⟩|⟨n,q⟩
  ·cases z
  ·obtain⟨w,q,r⟩:=S.own j e q
   exact⟨w,by rw[List.getElem?_set_ne n];exact q,r⟩
 sep:=λj k e f c q1 q2 q3 q4=>by
  rcases qb1 q1 with ⟨rfl,z,l⟩|⟨n,q1⟩
  ·cases z
  rcases qb1 q2 with ⟨rfl,z,l⟩|⟨n2,q2⟩
  ·cases z
  rw[List.getElem?_set_ne n] at q3
  rw[List.getElem?_set_ne n2] at q4
  exact S.sep j k e f c q1 q2 q3 q4
theorem Slots.setOwn(S:Slots K H0 B H τ σ)(i:Nat)(h0:H0 a=none)(hb:B a=none)(o:OwnAt K B H d a)(nw:∀(j:Nat) (e:D),τ[j]?=some (some (.own e))->σ[j]?≠some (some (.ref a))) :
  Slots K H0 B H (τ.set i (some (.own d))) (σ.set i (some (.ref a))) where
 len:=by rw[List.length_set,List.length_set,S.len]
 val:=λj e q=>by
  rcases qb1 q with ⟨rfl,z,l⟩|⟨n,q⟩
  ·cases z
  ·obtain⟨w,q,r⟩:=S.val j e q
   exact⟨w,by rw[List.getElem?_set_ne n];exact q,r⟩
 fz:=λj e q=>by
  rcases qb1 q with ⟨rfl,z,l⟩|⟨n,q⟩
  ·cases z
  ·obtain⟨w,q,r⟩:=S.fz j e q
   exact⟨w,by rw[List.getElem?_set_ne n];exact q,r⟩
 own:=λj e q=>by
  rcases qb1 q with ⟨rfl,z,l⟩|⟨n,q⟩
  ·cases z
   exact⟨a,List.getElem?_set_self (by rw[S.len];exact l),h0,hb,o⟩
  ·obtain⟨w,q,r⟩:=S.own j e q
   exact⟨w,by rw[List.getElem?_set_ne n];exact q,r⟩
 sep:=λj k e f c q1 q2 q3 q4=>by
  rcases qb1 q1 with ⟨rfl,z,l⟩|⟨n,q1⟩
  ·rcases qb1 q2 with ⟨rfl,z,l2⟩|⟨n2,q2⟩
   ·rfl
   ·rw[List.getElem?_set_self (by rw[S.len];exact l)] at q3
    cases q3
    rw[List.getElem?_set_ne n2] at q4
    exact absurd q4 (nw k f q2)
  ·rcases qb1 q2 with ⟨rfl,z,l2⟩|⟨n2,q2⟩
   ·rw[List.getElem?_set_self (by rw[S.len];exact l2)] at q4
    cases q4
    rw[List.getElem?_set_ne n] at q3
    exact absurd q3 (nw j e q1)
   ·rw[List.getElem?_set_ne n] at q3
    rw[List.getElem?_set_ne n2] at q4
    exact S.sep j k e f c q1 q2 q3 q4
theorem Slots.upd(S:Slots K H0 B H τ σ){i:Nat}{e:D}{o:HO}(hi:τ[i]?=some (some (.own e)))(ha:σ[i]?=some (some (.ref a)))(n:OwnAt K B (upd H a o) d a) :
  Slots K H0 B (upd H a o) (τ.set i (some (.own d))) σ where
 len:=by rw[List.length_set,S.len]
 val:=λj f q=>by
  rcases qb1 q with ⟨rfl,z,l⟩|⟨n,q⟩
  ·cases z
  ·exact S.val j f q
 fz:=λj f q=>by
  rcases qb1 q with ⟨rfl,z,l⟩|⟨n,q⟩
  ·cases z
  ·exact S.fz j f q
 own:=λj f q=>by
  rcases qb1 q with ⟨rfl,z,l⟩|⟨ne,q⟩
  ·cases z
   obtain⟨c,q1,h0,hb,_⟩:=S.own i e hi
   rw[ha] at q1
   cases q1
   exact⟨a,ha,h0,hb,n⟩
  ·obtain⟨c,q1,h0,hb,w⟩:=S.own j f q
   refine⟨c,q1,h0,hb,w.step (Same.refl _) (qbd λz=>?_)⟩
   subst z
   exact ne (S.sep i j e f c hi q ha q1)
 sep:=λj k e' f c q1 q2 q3 q4=>by
  have hj:∃e',τ[j]?=some (some (.own e')):=by
   rcases qb1 q1 with ⟨rfl,z,l⟩|⟨_,q⟩
   ·exact⟨e,hi⟩
   ·exact⟨_,q⟩
  have hk:∃e',τ[k]?=some (some (.own e')):=by
   rcases qb1 q2 with ⟨rfl,z,l⟩|⟨_,q⟩
   ·exact⟨e,hi⟩
   ·exact⟨_,q⟩
  obtain⟨_,hj⟩:=hj
  obtain⟨_,hk⟩:=hk
  exact S.sep j k _ _ c hj hk q3 q4
theorem Stp.upd(p:Stp B H B' H'){o:HO}(h0:H a=none)(hb:B' a=none):Stp B H B' (L2.upd H' a o) :=
 ⟨p.b,p.h.put h0,λb u q=>by
  rw[qbd (λz=>by rw[z,hb] at q;cases q)]
  exact p.s _ _ q,p.d⟩
def frz(i:Nat)(τ:VSt):VSt:=match τ[i]? with
|some (some (.own d))=>τ.set i (some (.val d))
|_=>τ
end
end L2
namespace L2
open PySem PySem.Spec PyProof.Rows
abbrev TV:=VSt->(R->Prop)->Prop
abbrev TVT:=VSt->(Bool->Prop)->Prop
inductive AR where
|ok (ds:List D)
|exc (n:Str)
abbrev TVA:=VSt->(AR->Prop)->Prop
abbrev TVG:=D->VSt->(VSt->Prop)->Prop
structure VEnds where
 nx:VSt->Prop
 rt:R->Prop
 bk:VSt->Prop:=λ_=>False
 ct:VSt->Prop:=λ_=>False
 xc:VSt->Str->Prop:=λ_ _=>False
 ro:VSt->R->Prop:=λ_ _=>False
abbrev TVS:=VEnds->VSt->Prop
section
variable (K:PySem.W.Frag) (EX:St->XK)
def RfE(te:TE)(t:TV):Prop:=∀(H0 B H:Hp) (τ:VSt) (σ:St) (Q:VK) (Qd:R->Prop),Same B H->Slots K H0 B H τ σ->t τ Qd->(∀n C B' H',Stp B H B' H'->clsOf K n C->Qd (.exc n)->EX σ (.ref C) none H')->(∀r v B' H',Stp B H B' H'->RepR K B' H H' r v->Qd r->Q v H')->te σ H Q
def RfT(te:TT)(t:TVT):Prop:=∀(H0 B H:Hp) (τ:VSt) (σ:St) (Q:Bool->Hp->Prop) (Qd:Bool->Prop),Same B H->Slots K H0 B H τ σ->t τ Qd->(∀b B' H',Stp B H B' H'->Qd b->Q b H')->te σ H Q
def RfA(te:TA)(t:TVA):Prop:=∀(H0 B H:Hp) (τ:VSt) (σ:St) (Q:List V->Hp->Prop) (Qd:AR->Prop),Same B H->Slots K H0 B H τ σ->t τ Qd->(∀n C B' H',Stp B H B' H'->clsOf K n C->Qd (.exc n)->EX σ (.ref C) none H')->(∀ds vs B' H',Stp B H B' H'->Reps K B' ds vs->Qd (.ok ds)->Q vs H')->te σ H Q
def RfO(r:R2)(rd:R->R->(R->Prop)->Prop):Prop:=∀(B H:Hp) (x y:V) (rx ry:R) (Q:VK) (Qd:R->Prop),Same B H->Pk K B H rx x->Pk K B H ry y->rd rx ry Qd->(∀r v B' H',Stp B H B' H'->RepR K B' H H' r v->Qd r->Q v H')->r x y H Q
def RfC(r:List V->Hp->VK->Prop)(rd:R->(R->Prop)->Prop):Prop:=∀(B H:Hp) (x:V) (rx:R) (Q:VK) (Qd:R->Prop),Same B H->Pk K B H rx x->rd rx Qd->(∀r v B' H',Stp B H B' H'->RepR K B' H H' r v->Qd r->Q v H')->r [x] H Q
def Kp(τ:VSt)(σ:St)(τ':VSt)(σ':St):Prop:=∀(j:Nat) (e:D),τ'[j]?=some (some (R.own e))->τ[j]?=some (some (R.own e))/\σ'[j]?=σ[j]?
def RfG(g:TG)(t:TVG):Prop:=∀(H0 B H:Hp) (τ:VSt) (σ:St) (x:V) (d:D) (Q:St->Hp->Prop) (Qd:VSt->Prop),Same B H->Slots K H0 B H τ σ->Rep K B d x->t d τ Qd->(∀τ' σ',Slots K H0 B H τ' σ'->Kp τ σ τ' σ'->Qd τ'->Q σ' H)->g x σ H Q
def RfGs(g:TGs)(t:List D->VSt->(VSt->Prop)->Prop):Prop:=∀(H0 B H:Hp) (τ:VSt) (σ:St) (xs:List V) (ds:List D) (Q:St->Hp->Prop) (Qd:VSt->Prop),Same B H->Slots K H0 B H τ σ->Reps K B ds xs->t ds τ Qd->(∀τ' σ',Slots K H0 B H τ' σ'->Kp τ σ τ' σ'->Qd τ'->Q σ' H)->g xs σ H Q
def ItOk(B:Hp)(J:It)(ds:List D):Prop:=∀(i:Nat) (B2 H:Hp),Same B B2->Same B2 H->(∀d,ds[i]?=some d->J.go i H/\∀x H',J.yld i H x H'->∃B3,Stp B2 H B3 H'/\Rep K B3 d x)/\(ds[i]?=none->J.stop i H)
def RfI(wi:TI)(vi:TVA):Prop:=∀(H0 B H:Hp) (τ:VSt) (σ:St) (Q:It->Hp->Prop) (Qd:AR->Prop),Same B H->Slots K H0 B H τ σ->vi τ Qd->(∀n C B' H',Stp B H B' H'->clsOf K n C->Qd (.exc n)->EX σ (.ref C) none H')->(∀J ds B' H',Stp B H B' H'->ItOk K B' J ds->Qd (.ok ds)->Q J H')->wi σ H Q
def RfF(ti:TF)(t:TVT):Prop:=∀(H0 B H:Hp) (τ:VSt) (σ:St) (Y N:Hp->Prop) (Qd:Bool->Prop),Same B H->Slots K H0 B H τ σ->t τ Qd->(∀b B' H',Stp B H B' H'->Qd b->if b=true then Y H' else N H')->ti σ H Y N
structure EndsOk(B0 H0:Hp)(Dv:VEnds)(Dh:Ends):Prop where
 nx:∀B H τ σ,Stp B0 H0 B H->Slots K H0 B H τ σ->Dv.nx τ->Dh.nx σ H
 rt:∀r v B H,Stp B0 H0 B H->RepR K B H0 H r v->Dv.rt r->Dh.rt v H
 bk:∀B H τ σ,Stp B0 H0 B H->Slots K H0 B H τ σ->Dv.bk τ->Dh.bk σ H
 ct:∀B H τ σ,Stp B0 H0 B H->Slots K H0 B H τ σ->Dv.ct τ->Dh.ct σ H
 xc:∀B H τ σ n C,Stp B0 H0 B H->Slots K H0 B H τ σ->clsOf K n C->Dv.xc τ n->EX σ (.ref C) none H
 ro:∀r v B H τ σ,Stp B0 H0 B H->Slots K H0 B H τ σ->RepR K B H0 H r v->(∀(d e:D) (i:Nat) (c:Addr),r=R.own d->τ[i]?=some (some (R.own e))->ioA e=some c->v≠.ref c)->Dv.ro τ r->Dh.rt v H
def RfS(ts:TS)(t:TVS):Prop:=∀(B0 H0 B H:Hp) (τ:VSt) (σ:St) (Dv:VEnds) (Dh:Ends),Stp B0 H0 B H->Slots K H0 B H τ σ->t Dv τ->EndsOk K EX B0 H0 Dv Dh->ts Dh σ H
end
section
structure VE(X:Cx)(EX:St->XK)(e:Expr)(t:TV):Prop where
 u:∃te,QE X e te/\RfE X.K EX te t
structure VC(X:Cx)(EX:St->XK)(e:Expr)(t:TV):Prop where
 u:∃te,QC X e te/\RfE X.K EX te t
structure VT(X:Cx)(EX:St->XK)(e:Expr)(t:TVT):Prop where
 u:∃te,QT X e te/\RfT X.K te t
structure VW(X:Cx)(EX:St->XK)(e:Expr)(t:TVT):Prop where
 u:∃te,QW X e te/\RfT X.K te t
structure VA(X:Cx)(EX:St->XK)(es:List Expr)(t:TVA):Prop where
 u:∃te,QA X es te/\RfA X.K EX te t
structure VI(X:Cx)(EX:St->XK)(tg e:Expr)(t:TVA):Prop where
 u:∃wi,QI X tg e wi/\RfI X.K EX wi t
structure VFs(X:Cx)(EX:St->XK)(ifs:List Expr)(t:TVT):Prop where
 u:∃ti,QF X ifs ti/\RfF X.K ti t
structure VS(X:Cx)(EX:St->XK)(st:Stmt)(t:TVS):Prop where
 u:∃ts,QS X st ts/\RfS X.K EX ts t
structure VSs(X:Cx)(EX:St->XK)(st:List Stmt)(t:TVS):Prop where
 u:∃ts,QSs X st ts/\RfS X.K EX ts t
end
section
variable (X:Cx)
structure VO(f:Value->Value->Sem Value)(rd:R->R->(R->Prop)->Prop):Prop where
 u:∃r,OpR X f r/\RfO X.K r rd
structure VX(rd:R->R->(R->Prop)->Prop):Prop where
 u:∃r,IxR X r/\RfO X.K r rd
structure VF(f:Value)(rd:R->(R->Prop)->Prop):Prop where
 u:∃r,CallR X f r/\RfC X.K r rd
structure VG(tg:Expr)(t:TVG):Prop where
 u:∃g,QG X tg g/\RfG X.K g t
structure VGs(ts:List Expr)(t:List D->VSt->(VSt->Prop)->Prop):Prop where
 u:∃g,QGs X ts g/\RfGs X.K g t
end
section
variable {X:Cx} {EX:St->XK} {K:PySem.W.Frag} {a b c e o i:Expr} {es:List Expr} {pos pos' p p2 apos cpos:Pos} {x:Str} {ta tb tc te:TV} {tA:TVA} {tT tU:TVT} {B H B' H' H0 H1 H2:Hp} {r:R} {v:V}
theorem RepR.back(h:RepR K B H1 H2 r v)(s:Same H H1):RepR K B H H2 r v:=by
 cases r with
|val d=>exact h
|own d =>
  obtain⟨a,e,h0,q⟩:=h
  exact⟨a,e,s.free h0,q⟩
|peek d=>exact h
|exc n=>exact h
theorem Pk.scal{z:V}(h:Pk K B H r v)(e:dV r.d=some z):v=z:=by
 cases r with
|val d =>
  have e':dV d=some z:=e
  have h':Rep K B d v:=h
  cases d<;>first|(unfold Rep at h';subst h';exact Option.some.inj e')|(cases e';done)
|own d =>
  obtain⟨a,_,_,q⟩:=h
  have e':dV d=some z:=e
  cases d<;>first|(cases e';done)|exact q.elim
|peek d =>
  obtain⟨a,_,_,q⟩:=h
  have e':dV d=some z:=e
  cases d<;>first|(cases e';done)|exact q.elim
|exc n=>exact h.elim
theorem Pk.tup{ds:List D}(h:Pk K B H r v)(e:r.d=.tup ds):∃a xs,v=.ref a/\TupAt K B a ds xs/\Reps K B ds xs:=by
 cases r with
|val d =>
  cases (show d=_ from e)
  have h':Rep K B (.tup ds) v:=h
  unfold Rep at h'
  exact h'
|own d=>cases (show d=_ from e);obtain⟨_,_,_,q⟩:=h;exact q.elim
|peek d=>cases (show d=_ from e);obtain⟨_,_,_,q⟩:=h;exact q.elim
|exc n=>exact h.elim
theorem Pk.lst{ds:List D}(s:Same B H)(h:Pk K B H r v)(e:r.d=.lst ds):∃a xs,v=.ref a/\H a=some (.lst xs)/\Reps K B ds xs:=by
 cases r with
|val d =>
  cases (show d=_ from e)
  have h':Rep K B (.lst ds) v:=h
  unfold Rep at h'
  obtain⟨a,xs,rfl,q,rp⟩:=h'
  exact⟨a,xs,rfl,s _ _ q,rp⟩
|own d=>cases (show d=_ from e);obtain⟨a,rfl,_,xs,q,rp⟩:=h;exact⟨a,xs,rfl,q,rp⟩
|peek d=>cases (show d=_ from e);obtain⟨a,rfl,_,xs,q,rp⟩:=h;exact⟨a,xs,rfl,q,rp⟩
|exc n=>exact h.elim
theorem Pk.scr{ns:List Int}(s:Same B H)(h:Pk K B H r v)(e:r.d=.scr ns):∃a,v=.ref a/\SqL K H a (ns.map V.int):=by
 cases r with
|val d =>
  cases (show d=_ from e)
  have h':Rep K B (.scr ns) v:=h
  unfold Rep at h'
  obtain⟨a,rfl,q⟩:=h'
  exact⟨a,rfl,s.seq q⟩
|own d=>cases (show d=_ from e);obtain⟨_,_,_,q⟩:=h;exact q.elim
|peek d=>cases (show d=_ from e);obtain⟨_,_,_,q⟩:=h;exact q.elim
|exc n=>exact h.elim
theorem qig{d:D}{z:V}(e:dV d=some z):Rep K B d z:=by
 cases d<;>first|(cases e;done)|(unfold Rep;exact(Option.some.inj e).symm)
theorem repV{d:D}{z:V}(e:dV d=some z):RepR K B H0 H (.val d) z:=qig e
theorem xst{B1:Hp}{σ:St}{P:Str->Prop}(x:∀n C B' H',Stp B H B' H'->clsOf K n C->P n->EX σ (.ref C) none H')(p:Stp B H B1 H1):∀n C B' H',Stp B1 H1 B' H'->clsOf K n C->P n->EX σ (.ref C) none H':=λn C B' H' q c h=>x n C B' H' (p.trans q) c h
theorem xno{σ:St}{P:Str->Prop}(h:∀n,¬ P n):∀n C B' H',Stp B H B' H'->clsOf K n C->P n->EX σ (.ref C) none H':=λn _ _ _ _ _ q=>absurd q (h n)
def vVar(i:Nat):TV:=λτ Q=>match τ[i]? with
|some (some (.val d))=>Q (.val d)
|some (some (.own d))=>Q (.peek d)
|some (some (.peek d))=>Q (.val d)
|_=>False
theorem q1m{i:Nat}:RfE K EX (tVar i) (vVar i):=λH0 B H τ σ Q Qd s S h _ k=>by
 unfold vVar at h
 split at h
 ·rename_i d e
  obtain⟨v,q,rp⟩:=S.val i d e
  exact⟨v,q,k (.val d) v B H (.refl s) rp h⟩
 ·rename_i d e
  obtain⟨a,q,_,hb,ow⟩:=S.own i d e
  exact⟨.ref a,q,k (.peek d) (.ref a) B H (.refl s) ⟨a,rfl,hb,ow⟩ h⟩
 ·rename_i d e
  obtain⟨v,q,rp⟩:=S.fz i d e
  exact⟨v,q,k (.val d) v B H (.refl s) rp.rep h⟩
 ·exact h.elim
theorem vv(i:Nat)(hN:X.N[i]?=some x:=by rfl)(hv:Vis X.env.scope x:=by first|exact Or.inl rfl|exact Or.inr (Or.inl rfl)|exact Or.inr (Or.inr rfl))(hd:(x==("__debug__" : Str))=false:=by decide)
  (hcd:(x==("__classdict__" : Str))=false:=by decide):VE X EX (.Name x pos) (vVar i):=⟨_,qv i hN hv hd hcd,q1m⟩
def vC(d:D):TV:=λ_ Q=>Q (.val d)
theorem rf_c{d:D}{z:V}(e:dV d=some z):RfE K EX (tC z) (vC d):=λ_ B H _ _ _ _ s _ h _ k=>k (.val d) z B H (.refl s) (qig e) h
theorem qaa{k:Int}{j:Nat}:VE X EX (.Constant (.int k) j pos) (vC (.int k)):=⟨_,q01,rf_c rfl⟩
theorem qf9{k:Bool}{j:Nat}:VE X EX (.Constant (.bool k) j pos) (vC (.bl k)):=⟨_,q2y,rf_c rfl⟩
theorem qec{j:Nat}:VE X EX (.Constant .none j pos) (vC .non):=⟨_,q03,rf_c rfl⟩
theorem qak{z:Str}{j:Nat}:VE X EX (.Constant (.str z) j pos) (vC (.str z)):=⟨_,q06,rf_c rfl⟩
theorem RepR.ok{Q:R->Prop}{k:Prop}(h:RepR K B H0 H r v)(q:exR r Q k):k:=by
 cases r with
|exc n=>exact h.elim
|val d=>exact q
|own d=>exact q
|peek d=>exact q
def vOp(rd:R->R->(R->Prop)->Prop)(ta tb:TV):TV:=λτ Q=>ta τ λrx=>exR rx Q (tb τ λry=>exR ry Q (rd rx ry Q))
theorem qub{rr:R2}{rd:R->R->(R->Prop)->Prop}{ea eb:TE}(hr:RfO K rr rd)(ha:RfE K EX ea ta)(hb:RfE K EX eb tb):RfE K EX (tOp rr ea eb) (vOp rd ta tb):=λH0 B H τ σ Q Qd s S h xc k =>
 ha H0 B H τ σ _ _ s S h xc λrx x B1 H1 p1 q1 h1=>hb H0 B1 H1 τ σ _ _ p1.s (S.step p1) (q1.ok h1) (xst xc p1) λry y B2 H2 p2 q2 h2 =>
  hr B2 H2 x y rx ry _ _ p2.s (q1.pk.step p2) q2.pk (q2.ok h2) λr v B3 H3 p3 q3 h3=>k r v B3 H3 (p1.trans (p2.trans p3)) (q3.back (p1.trans p2).h) h3
theorem qau{op:Operator}{rd:R->R->(R->Prop)->Prop}(hr:VO X (binaryOp op) rd)(ha:VE X EX a ta)(hb:VE X EX b tb):VE X EX (.BinOp a op b pos) (vOp rd ta tb) :=
 let ⟨_,h1,h2⟩:=hr.u;let ⟨_,a1,a2⟩:=ha.u;let ⟨_,b1,b2⟩:=hb.u;⟨_,q20 h1 a1 b1,qub h2 a2 b2⟩
theorem qhp{op:CmpOp}{rd:R->R->(R->Prop)->Prop}(hr:VO X (compareOp op) rd)(ha:VE X EX a ta)(hb:VE X EX b tb)(hm:behindInMarks op b=false:=by with_unfolding_all rfl):VE X EX (.Compare a [op] [b] pos) (vOp rd ta tb) :=
 let ⟨_,h1,h2⟩:=hr.u;let ⟨_,a1,a2⟩:=ha.u;let ⟨_,b1,b2⟩:=hb.u;⟨_,qxs h1 a1 b1 hm,qub h2 a2 b2⟩
theorem qat{rd:R->R->(R->Prop)->Prop}(hr:VX X rd)(ha:VE X EX a ta)(hb:VE X EX b tb)(hs:qlg b:=by exact λ_ _=>rfl):VE X EX (.Subscript a b pos) (vOp rd ta tb) :=
 let ⟨_,h1,h2⟩:=hr.u;let ⟨_,a1,a2⟩:=ha.u;let ⟨_,b1,b2⟩:=hb.u;⟨_,q2z h1 a1 b1 hs,qub h2 a2 b2⟩
def vBl(t:TV):TVT:=λτ Q=>t τ λr=>match r.d with
|.bl b=>Q b
|_=>False
theorem qrn{ea:TE}(ha:RfE K EX ea ta):RfT K (tB ea) (vBl ta):=λH0 B H τ σ Q Qd s S h k=>ha H0 B H τ σ _ _ s S h (xno λ_ q=>q) λr v B' H' p q h1=>by
 split at h1
 ·rename_i bb e
  exact⟨bb,q.pk.scal (by rw[e];rfl),k bb B' H' p h1⟩
 ·exact h1.elim
theorem qcq(ha:VE X EX e ta)(he:∀whole,isTrue e X.env whole=(do let v ←whole;standAt e.pos;holding [v] (truthy v)):=by intro _;rfl):VT X EX e (vBl ta) :=
 let ⟨_,a1,a2⟩:=ha.u;⟨_,q1d a1 he,qrn a2⟩
theorem qao{op:CmpOp}{rd:R->R->(R->Prop)->Prop}(hr:VO X (compareOp op) rd)(ha:VE X EX a ta)(hb:VE X EX b tb)(hm:behindInMarks op b=false:=by with_unfolding_all rfl):VT X EX (.Compare a [op] [b] pos) (vBl (vOp rd ta tb)) :=
 let ⟨_,h1,h2⟩:=hr.u;let ⟨_,a1,a2⟩:=ha.u;let ⟨_,b1,b2⟩:=hb.u;⟨_,qx3 h1 a1 b1 hm,qrn (qub h2 a2 b2)⟩
def qds(t u:TVT):TVT:=λτ Q=>t τ λc=>if c=true then u τ Q else Q false
def vOrT(t u:TVT):TVT:=λτ Q=>t τ λc=>if c=true then Q true else u τ Q
def qff(t:TVT):TVT:=λτ Q=>t τ λc=>Q (!c)
theorem q1k{e1:TT}(h1:RfT K e1 tT):RfT K (tNot e1) (qff tT):=λH0 B H τ σ Q Qd s S h k=>h1 H0 B H τ σ _ _ s S h λb B' H' p q=>k _ B' H' p q
theorem q1h{e1 e2:TT}(h1:RfT K e1 tT)(h2:RfT K e2 tU):RfT K (tAnd e1 e2) (qds tT tU):=λH0 B H τ σ Q Qd s S h k=>h1 H0 B H τ σ _ _ s S h λb B' H' p q=>by
 cases b with
|true=>exact iteT (h2 H0 B' H' τ σ _ _ p.s (S.step p) (by rw[if_pos rfl] at q;exact q) λb2 B2 H2 p2 q2=>k b2 B2 H2 (p.trans p2) q2)
|false=>exact iteF (k false B' H' p (by rw[if_neg Bool.false_ne_true] at q;exact q))
theorem q28{e1 e2:TT}(h1:RfT K e1 tT)(h2:RfT K e2 tU):RfT K (tOr e1 e2) (vOrT tT tU):=λH0 B H τ σ Q Qd s S h k=>h1 H0 B H τ σ _ _ s S h λb B' H' p q=>by
 cases b with
|true=>exact iteT (k true B' H' p (by rw[if_pos rfl] at q;exact q))
|false=>exact iteF (h2 H0 B' H' τ σ _ _ p.s (S.step p) (by rw[if_neg Bool.false_ne_true] at q;exact q) λb2 B2 H2 p2 q2=>k b2 B2 H2 (p.trans p2) q2)
theorem qe4(h:VT X EX a tT):VT X EX (.UnaryOp .Not a pos) (qff tT):=let ⟨_,a1,a2⟩:=h.u;⟨_,q1c a1,q1k a2⟩
theorem qbx(h:VT X EX a tT):VW X EX (.BoolOp .And [a] pos) tT:=let ⟨_,a1,a2⟩:=h.u;⟨_,qx4 a1,a2⟩
theorem qe5(h:VT X EX a tT):VW X EX (.BoolOp .Or [a] pos) tT:=let ⟨_,a1,a2⟩:=h.u;⟨_,q1f a1,a2⟩
theorem qc9(ha:VT X EX a tT)(hb:VW X EX (.BoolOp .And (b::es) pos) tU):VW X EX (.BoolOp .And (a::b::es) pos) (qds tT tU):=let ⟨_,a1,a2⟩:=ha.u;let ⟨_,b1,b2⟩:=hb.u;⟨_,q1e a1 b1,q1h a2 b2⟩
theorem qfh(ha:VT X EX a tT)(hb:VW X EX (.BoolOp .Or (b::es) pos) tU):VW X EX (.BoolOp .Or (a::b::es) pos) (vOrT tT tU):=let ⟨_,a1,a2⟩:=ha.u;let ⟨_,b1,b2⟩:=hb.u;⟨_,q26 a1 b1,q28 a2 b2⟩
theorem vw_t(h:VW X EX e tT):VT X EX e tT:=let ⟨_,a1,a2⟩:=h.u;⟨_,qw_t a1,a2⟩
def qk3(ta tb:TV):TV:=λτ Q=>ta τ λr=>match r.d with
|.bl c=>if c=true then tb τ Q else Q (.val (.bl false))
|_=>False
def vOrE(ta tb:TV):TV:=λτ Q=>ta τ λr=>match r.d with
|.bl c=>if c=true then Q (.val (.bl true)) else tb τ Q
|_=>False
def qr7(ta:TV):TV:=λτ Q=>ta τ λr=>match r.d with
|.bl c=>Q (.val (.bl (!c)))
|_=>False
theorem qse{op:BoolOp}(h:VE X EX a ta):VE X EX (.BoolOp op [a] pos) ta:=let ⟨_,a1,a2⟩:=h.u;⟨_,q05 a1,a2⟩
theorem qn8(ha:VE X EX a ta)(hb:VE X EX (.BoolOp .And (b::es) pos) tb):VE X EX (.BoolOp .And (a::b::es) pos) (qk3 ta tb) :=
 let ⟨_,a1,a2⟩:=ha.u;let ⟨_,b1,b2⟩:=hb.u;⟨_,q00 a1 b1,λH0 B H τ σ Q Qd s S h xc k=>a2 H0 B H τ σ _ _ s S h (xno λ_ q=>q) λr v B' H' p q h1=>by
  split at h1
  ·rename_i c e
   refine⟨c,q.pk.scal (by rw[e];rfl),?_⟩
   cases c with
  |true=>exact iteT (b2 H0 B' H' τ σ _ _ p.s (S.step p) (by rw[if_pos rfl] at h1;exact h1) (xst xc p) λr2 v2 B2 H2 p2 q2 h2=>k r2 v2 B2 H2 (p.trans p2) (q2.back p.h) h2)
  |false=>exact iteF (k (.val (.bl false)) _ B' H' p (repV (d:=.bl false) rfl) (by rw[if_neg Bool.false_ne_true] at h1;exact h1))
  ·exact h1.elim⟩
theorem q3d(ha:VE X EX a ta)(hb:VE X EX (.BoolOp .Or (b::es) pos) tb):VE X EX (.BoolOp .Or (a::b::es) pos) (vOrE ta tb) :=
 let ⟨_,a1,a2⟩:=ha.u;let ⟨_,b1,b2⟩:=hb.u;⟨_,q21 a1 b1,λH0 B H τ σ Q Qd s S h xc k=>a2 H0 B H τ σ _ _ s S h (xno λ_ q=>q) λr v B' H' p q h1=>by
  split at h1
  ·rename_i c e
   refine⟨c,q.pk.scal (by rw[e];rfl),?_⟩
   cases c with
  |true=>exact iteT (k (.val (.bl true)) _ B' H' p (repV (d:=.bl true) rfl) (by rw[if_pos rfl] at h1;exact h1))
  |false=>exact iteF (b2 H0 B' H' τ σ _ _ p.s (S.step p) (by rw[if_neg Bool.false_ne_true] at h1;exact h1) (xst xc p) λr2 v2 B2 H2 p2 q2 h2=>k r2 v2 B2 H2 (p.trans p2) (q2.back p.h) h2)
  ·exact h1.elim⟩
theorem q12(ha:VE X EX a ta):VE X EX (.UnaryOp .Not a pos) (qr7 ta) :=
 let ⟨_,a1,a2⟩:=ha.u;⟨_,q04 a1,λH0 B H τ σ Q Qd s S h xc k=>a2 H0 B H τ σ _ _ s S h (xno λ_ q=>q) λr v B' H' p q h1=>by
  split at h1
  ·rename_i c e
   exact⟨c,q.pk.scal (by rw[e];rfl),k (.val (.bl (!c))) _ B' H' p (repV (d:=.bl (!c)) rfl) h1⟩
  ·exact h1.elim⟩
def vIfE(tT:TVT)(ta tb:TV):TV:=λτ Q=>tT τ λc=>if c=true then ta τ Q else tb τ Q
theorem quo(hc:VT X EX c tT)(ha:VE X EX a ta)(hb:VE X EX b tb):VE X EX (.IfExp c a b pos) (vIfE tT ta tb) :=
 let ⟨_,c1,c2⟩:=hc.u;let ⟨_,a1,a2⟩:=ha.u;let ⟨_,b1,b2⟩:=hb.u;⟨_,qt2 c1 a1 b1,λH0 B H τ σ Q Qd s S h xc k=>c2 H0 B H τ σ _ _ s S h λcb B' H' p q=>by
  cases cb with
 |true=>exact iteT (a2 H0 B' H' τ σ _ _ p.s (S.step p) (by rw[if_pos rfl] at q;exact q) (xst xc p) λr2 v2 B2 H2 p2 q2 h2=>k r2 v2 B2 H2 (p.trans p2) (q2.back p.h) h2)
 |  false=>exact iteF (b2 H0 B' H' τ σ _ _ p.s (S.step p) (by rw[if_neg Bool.false_ne_true] at q;exact q) (xst xc p) λr2 v2 B2 H2 p2 q2 h2=>k r2 v2 B2 H2 (p.trans p2) (q2.back p.h) h2)⟩
def exA:AR->(R->Prop)->(List D->Prop)->Prop
|.ok ds,_,k=>k ds
|.exc n,Q,_=>Q (.exc n)
def vNil:TVA:=λ_ Q=>Q (.ok [])
def qwq(d:D):AR->AR
|.ok ds=>.ok (d::ds)
|.exc n=>.exc n
def excA:R->(AR->Prop)->Prop->Prop
|.exc n,Q,_=>Q (.exc n)
|.val _,_,k=>k
|.own _,_,k=>k
|.peek _,_,k=>k
theorem RepR.okA{Q:AR->Prop}{k:Prop}(h:RepR K B H0 H r v)(q:excA r Q k):k:=by
 cases r with
|exc n=>exact h.elim
|val d=>exact q
|own d=>exact q
|peek d=>exact q
def qad(te:TV)(tA:TVA):TVA:=λτ Q=>te τ λr=>excA r Q (pubR r λd=>tA τ λa=>Q (qwq d a))
theorem qah:VA X EX [] vNil:=⟨_,qgh,λ_ B H _ _ _ _ s _ h _ k=>k [] [] B H (.refl s) (by unfold Reps;rfl) h⟩
theorem vac(ha:VE X EX e te)(hr:VA X EX es tA)(hs:qa3 e=true:=by rfl):VA X EX (e::es) (qad te tA) :=
 let ⟨_,a1,a2⟩:=ha.u;let ⟨_,b1,b2⟩:=hr.u;⟨_,qac a1 b1 hs,λH0 B H τ σ Q Qd s S h xc k=>a2 H0 B H τ σ _ _ s S h xc λr v B1 H1 p q h1=>by
  obtain⟨d,B2,p2,_,rp,h2⟩:=pub p q (q.okA h1)
  exact b2 H0 B2 H1 τ σ _ _ p2.s (S.step p2) h2 (xst xc p2) λds vs B3 H3 p3 q3 h3=>k (d::ds) (v::vs) B3 H3 (p2.trans p3) (by unfold Reps;exact⟨v,vs,rfl,rp.same p3.b,q3⟩) h3⟩
def vTup(tA:TVA):TV:=λτ Q=>tA τ λa=>exA a Q λds=>ds.length<=sizeLine/\Q (.val (.tup ds))
def vLst(tA:TVA):TV:=λτ Q=>tA τ λa=>exA a Q λds=>ds.length<=sizeLine/\Q (.own (.lst ds))
theorem qjk{ds:List D}{xs:List V}{q:Addr}(h:Reps K B ds xs)(hb:B q=none):Rep K (upd B q (.tup xs)) (.tup ds) (.ref q):=by
 unfold Rep
 exact⟨q,xs,rfl,.inl qbp,h.same (qax hb _)⟩
theorem qbz{ds:List D}{xs:List V}{q:Addr}(h:Reps K B ds xs):OwnAt K B (upd H q (.lst xs)) (.lst ds) q:=⟨xs,qbp,h⟩
theorem qa4{k:Nat}(h:VA X EX es tA):VE X EX (.Tuple es k pos) (vTup tA) :=
 let ⟨_,a1,a2⟩:=h.u;⟨_,q07 a1,λH0 B H τ σ Q Qd s S h xc k=>a2 H0 B H τ σ _ _ s S h xc λds vs B1 H1 p q h1 =>
  ⟨by rw[←q.length];exact h1.1,λad had=>k (.val (.tup ds)) _ (upd B1 ad (.tup vs)) _ (p.trans (.new p.s had)) (qjk q (p.s.free had)) h1.2⟩⟩
theorem qiq(h:VA X EX es tA):VE X EX (.List es pos) (vLst tA) :=
 let ⟨_,a1,a2⟩:=h.u;⟨_,q02 a1,λH0 B H τ σ Q Qd s S h xc k=>a2 H0 B H τ σ _ _ s S h xc λds vs B1 H1 p q h1 =>
  ⟨by rw[←q.length];exact h1.1,λad had=>k (.own (.lst ds)) _ B1 _ (p.trans (.grow p.s (qax had _))) ⟨ad,rfl,p.h.free had,p.s.free had,qbz q⟩ h1.2⟩⟩
abbrev DP:=List D->(R->Prop)->Prop
def spOf(K:PySem.W.Frag)(g:DP):Sp:=λvs H Q E=>∃ds B Qd,Same B H/\Reps K B ds vs/\g ds Qd/\(∀n C B' H',Qd (.exc n)->Stp B H B' H'->clsOf K n C->E (.ref C) none H')/\∀r v B' H',Qd r->Stp B H B' H'->RepR K B' H H' r v->Q v H'
def qyk(g:DP)(tA:TVA):TV:=λτ Q=>tA τ λa=>exA a Q λds=>g ds Q
def qan(g:DP)(tA:TVA):TV:=λτ Q=>tA τ λa=>exA a Q λds=>g ds λr=>exR r (λ_=>False) (Q r)
theorem qar{k:Nat}{ps:List Str}{g:DP}(C:Cal X.prog X.w X.K X.mg X.base k x ps (spOf X.K g))(hr:Room k X.A)(hg:Gl X x)(ha:VA X EX (e::es) tA)(hp:(e::es).all qa3=true:=by rfl)(hdb:(x==("__debug__" : Str))=false:=by decide) :
  VE X EX (.Call (.Name x p) (e::es) [] pos) (qan g tA) :=
 let ⟨_,a1,a2⟩:=ha.u;⟨_,qvl C hr hg a1 hp hdb,λH0 B H τ σ Q Qd s S h xc k=>a2 H0 B H τ σ _ _ s S h xc λds vs B1 H1 p q h1 =>
  ⟨ds,B1,_,p.s,by rw[List.append_nil];exact q,h1,λn C B' H' hq _ _=>hq.elim,λr v B2 H2 hq p2 q2=>k r v B2 H2 (p.trans p2) (q2.back p.h) (q2.ok hq)⟩⟩
def vF1(rd:R->(R->Prop)->Prop)(te:TV):TV:=λτ Q=>te τ λr=>exR r Q (rd r Q)
theorem q1i{rr:List V->Hp->VK->Prop}{rd:R->(R->Prop)->Prop}{ea:TE}(hr:RfC K rr rd)(ha:RfE K EX ea te):RfE K EX (tCB rr (qul ea tNil)) (vF1 rd te):=λH0 B H τ σ Q Qd s S h xc k =>
 ha H0 B H τ σ _ _ s S h xc λrx x B1 H1 p1 q1 h1=>hr B1 H1 x rx _ _ p1.s q1.pk (q1.ok h1) λr v B2 H2 p2 q2 h2=>k r v B2 H2 (p1.trans p2) (q2.back p1.h) h2
theorem qc0{id:String}{rd:R->(R->Prop)->Prop}(hc:VF X (.builtin id) rd)(hg:Gl X x)(hm:X.mg x=none)(hv:bootBuiltins x=some (.builtin id))(ha:VE X EX e te)(hp:qa3 e=true:=by rfl)(hn:x≠"__name__" := by decide)
  (hdb:(x==("__debug__" : Str))=false:=by decide):VE X EX (.Call (.Name x p) [e] [] pos) (vF1 rd te) :=
 let ⟨_,c1,c2⟩:=hc.u;let ⟨_,a1,a2⟩:=ha.u;⟨_,qcb c1 hg hm hv (qac a1 qgh hp) (by simp[hp]) hn hdb,q1i c2 a2⟩
theorem qm0{T:String}{rd:R->(R->Prop)->Prop}(hc:VF X (.type T) rd)(hg:Gl X x)(hm:X.mg x=none)(hv:bootBuiltins x=some (.type T))(ha:VE X EX e te)(hp:qa3 e=true:=by rfl)(hn:x≠"__name__" := by decide)
  (hdb:(x==("__debug__" : Str))=false:=by decide):VE X EX (.Call (.Name x p) [e] [] pos) (vF1 rd te) :=
 let ⟨_,c1,c2⟩:=hc.u;let ⟨_,a1,a2⟩:=ha.u;⟨_,qct c1 hg hm hv (qac a1 qgh hp) (by simp[hp]) hn hdb,q1i c2 a2⟩
end
end L2
namespace L2
open PySem PySem.Spec PyProof.Rows
section
variable {X:Cx} {EX:St->XK} {K:PySem.W.Frag} {B H B' H' H0:Hp}
theorem op_catP:OpR X (binaryOp .Add) (λx y H Q=>∃a b xs ys,x=.ref a/\y=.ref b/\SqT X.K H a xs/\SqT X.K H b ys/\xs.length+ys.length<=sizeLine/\(xs=[]->Q (.ref b) H)/\(xs≠[]->ys=[]->Q (.ref a) H) /\
  (xs≠[]->ys≠[]->∀p,H p=none->Q (.ref p) (upd H p (.tup (xs++ys))))):=by
 intro pins s σ H x y v u Q I rx ry h
 obtain⟨a,b,xs,ys,rfl,rfl,ha,hb,hz,q1,q2,q3⟩:=h
 by_cases hx:xs=[]
 ·subst hx
  cases rx
  cases ry
  obtain⟨its,r1,p1,_⟩:=I.tuple ha
  obtain⟨its2,r2,p2,_⟩:=I.tuple hb
  obtain⟨⟨cls,dd,data,sl⟩,ho,hc,n,hd⟩:=id p1
  obtain⟨⟨cls2,dd2,data2,sl2⟩,ho2,hc2,n2,hd2⟩:=id p2
  simp only at hc hd hc2 hd2
  subst hc hd hc2 hd2
  have e1:its=[]:=r1.nil_iff.mpr rfl
  exact concat_meets ⟨_,ho,rfl⟩ ⟨_,ho2,rfl⟩ noFill_tuple_add seq_tuple_add PySem.F.slot_tuple_add PySem.F.entry_tuple_add (PySem.F.args_tuple_add_2 _ _)
   (tuple_addW0 a b its.toArray its2.toArray n n2 dd dd2 sl sl2 (by simp[e1])) ⟨ho,ho2,⟨.ref b,H,I,rfl,q1 rfl⟩⟩
 ·exact qwz pins s σ H (.ref a) (.ref b) v u Q I rx ry ⟨a,b,xs,ys,rfl,rfl,ha,hb,hx,hz,λe=>q2 hx e,λe p hp=>q3 hx e p hp⟩
theorem sl_tupP:SlR X (λx lo hi H Q=>∃a xs,x=.ref a/\SqT X.K H a xs/\((HT.sIx xs.length 0 lo=0/\HT.sIx xs.length xs.length hi=xs.length)->Q (.ref a) H) /\
  (¬ (HT.sIx xs.length 0 lo=0/\HT.sIx xs.length xs.length hi=xs.length)->∀p,H p=none->Q (.ref p) (upd H p (.tup (cutV xs lo hi))))):=by
 intro pins s σ H x v vl vu lo hi sl Q I rx hs pl pu h
 obtain⟨a,xs,rfl,hx,q1,q2⟩:=h
 by_cases hw:HT.sIx xs.length 0 lo=0/\HT.sIx xs.length xs.length hi=xs.length
 ·cases rx
  obtain⟨its,r,ht,hz⟩:=I.tuple hx
  have hlen:its.toArray.size=xs.length:=by rw[List.size_toArray];exact r.length.symm
  refine⟨"tuple",_,PyProof.Rows.slot_tuple_getitem.lookup,ht.typeIs,?_⟩
  exact HT.getItem_tuple_whole ht hs pl pu (by rw[hlen];exact hw) ⟨.ref a,H,I,rfl,q1 hw⟩
 ·exact q1s pins s σ H (.ref a) v vl vu lo hi sl Q I rx hs pl pu ⟨a,xs,rfl,hx,hw,q2 hw⟩
theorem Reps.append{ds es:List D}{xs ys:List V}(h1:Reps K B ds xs)(h2:Reps K B es ys):Reps K B (ds++es) (xs++ys):=by
 induction ds generalizing xs with
|nil=>unfold Reps at h1;subst h1;exact h2
|cons d ds ih =>
  unfold Reps at h1
  obtain⟨x,r,rfl,q1,q2⟩:=h1
  show Reps K B (d::(ds++es)) (x::(r++ys))
  unfold Reps
  exact⟨x,r++ys,rfl,q1,ih q2⟩
theorem Reps.nil:Reps K B [] []:=by unfold Reps;rfl
theorem Reps.cons{d:D}{ds:List D}{x:V}{xs:List V}(h1:Rep K B d x)(h2:Reps K B ds xs):Reps K B (d::ds) (x::xs):=by unfold Reps;exact⟨x,xs,rfl,h1,h2⟩
theorem Reps.one{d:D}{x:V}(h:Rep K B d x):Reps K B [d] [x]:=.cons h .nil
theorem Reps.drop:∀(n:Nat) {ds:List D} {xs:List V},Reps K B ds xs->Reps K B (ds.drop n) (xs.drop n)
|0,_,_,h=>h
|n+1,[],_,h=>by unfold Reps at h;subst h;exact .nil
|n+1,d::ds,_,h=>by
  unfold Reps at h
  obtain⟨x,r,rfl,q1,q2⟩:=h
  exact Reps.drop n q2
theorem Reps.take:∀(n:Nat) {ds:List D} {xs:List V},Reps K B ds xs->Reps K B (ds.take n) (xs.take n)
|0,_,_,_=>.nil
|n+1,[],_,h=>by unfold Reps at h;subst h;exact .nil
|n+1,d::ds,_,h=>by
  unfold Reps at h
  obtain⟨x,r,rfl,q1,q2⟩:=h
  exact .cons q1 (Reps.take n q2)
theorem Reps.cut{ds:List D}{xs:List V}(lo hi:Option Int)(h:Reps K B ds xs):Reps K B (cutL ds lo hi) (cutV xs lo hi):=by
 unfold cutL cutV
 rw[h.length]
 exact(h.drop _).take _
theorem Reps.ints(ns:List Int):Reps K B (ns.map D.int) (ns.map V.int):=by
 induction ns with
|nil=>exact .nil
|cons n ns ih=>exact .cons (qig (d:=.int n) rfl) ih
theorem Reps.strs:∀ {ss:List Str} {xs:List V},Reps K B (ss.map D.str) xs->xs=ss.map V.str
|[],_,h=>by unfold Reps at h;exact h
|s::ss,_,h=>by
  have h':Reps K B (.str s::ss.map D.str) _:=h
  unfold Reps at h'
  obtain⟨x,r,rfl,q1,q2⟩:=h'
  unfold Rep at q1
  rw[q1,Reps.strs q2]
  rfl
theorem Reps.atI{ds:List D}{xs:List V}{i:Int}{d:D}(h:Reps K B ds xs)(e:L2.atI ds i=some d):∃x,L2.atI xs i=some x/\Rep K B d x:=by
 unfold L2.atI at e ⊢
 rw[←h.length]
 cases q:ixN ds.length i with
|none=>rw[q] at e;cases e
|some j =>
  rw[q] at e
  exact h.at e
def vAdd(rx ry:R)(Q:R->Prop):Prop:=match rx.d,ry.d with
|.int i,.int j=>Q (.val (.int (i+j)))
|.str a,.str b=>a.length+b.length<=sizeLine/\Q (.val (.str (a++b)))
|.tup a,.tup b=>a.length+b.length<=sizeLine/\Q (.val (.tup (a++b)))
|.lst a,.lst b=>a.length+b.length<=sizeLine/\Q (.own (.lst (a++b)))
|_,_=>False
theorem qaz:VO X (binaryOp .Add) vAdd:=by
 refine⟨_,op_add.or (op_add_str.or (op_catP.or qz5)),λB H x y rx ry Q Qd s px py h k=>?_⟩
 unfold vAdd at h
 split at h
 ·rename_i i j e1 e2
  exact .inl ⟨i,j,px.scal (by rw[e1];rfl),py.scal (by rw[e2];rfl),k _ _ B H (.refl s) (repV rfl) h⟩
 ·rename_i i j e1 e2
  exact .inr (.inl ⟨i,j,px.scal (by rw[e1];rfl),py.scal (by rw[e2];rfl),h.1,k _ _ B H (.refl s) (repV rfl) h.2⟩)
 ·rename_i ds es e1 e2
  obtain⟨a,xs,rfl,h1,r1⟩:=px.tup e1
  obtain⟨b,ys,rfl,h2,r2⟩:=py.tup e2
  refine .inr (.inr (.inl ⟨a,b,xs,ys,rfl,rfl,s.sqT h1.sq,s.sqT h2.sq,by rw[←r1.length,←r2.length];exact h.1,λz=>?_,λ_ z=>?_,λ_ _ p hp=>?_⟩))
  ·refine k _ _ B H (.refl s) ?_ h.2
   show Rep X.K B (.tup (ds++es)) _
   have e:ds=[]:=List.eq_nil_of_length_eq_zero (by rw[r1.length,z];rfl)
   unfold Rep
   exact⟨b,ys,rfl,by rw[e];exact h2,by rw[e];exact r2⟩
  ·refine k _ _ B H (.refl s) ?_ h.2
   show Rep X.K B (.tup (ds++es)) _
   have e:es=[]:=List.eq_nil_of_length_eq_zero (by rw[r2.length,z];rfl)
   unfold Rep
   exact⟨a,xs,rfl,by rw[e,List.append_nil];exact h1,by rw[e,List.append_nil];exact r1⟩
  ·exact k (.val (.tup (ds++es))) _ (upd B p (.tup (xs++ys))) _ (.new s hp) (qjk (r1.append r2) (s.free hp)) h.2
 ·rename_i ds es e1 e2
  obtain⟨a,xs,rfl,h1,r1⟩:=px.lst s e1
  obtain⟨b,ys,rfl,h2,r2⟩:=py.lst s e2
  exact .inr (.inr (.inr ⟨a,b,xs,ys,rfl,rfl,h1,h2,by rw[←r1.length,←r2.length];exact h.1,λp hp=>k (.own (.lst (ds++es))) _ B _ (.grow s (qax hp _)) ⟨p,rfl,hp,s.free hp,qbz (r1.append r2)⟩ h.2⟩))
 ·exact h.elim
def vI2(C:Int->Int->Prop)(f:Int->Int->D)(rx ry:R)(Q:R->Prop):Prop:=match rx.d,ry.d with
|.int i,.int j=>C i j/\Q (.val (f i j))
|_,_=>False
def vI2'(f:Int->Int->D)(rx ry:R)(Q:R->Prop):Prop:=match rx.d,ry.d with
|.int i,.int j=>Q (.val (f i j))
|_,_=>False
theorem qup{g:Value->Value->Sem Value}{C:Int->Int->Prop}{f:Int->Int->D}{f':Int->Int->V}(hf:∀i j,dV (f i j)=some (f' i j))(h:OpR X g (rI C f')):VO X g (vI2 C f):=by
 refine⟨_,h,λB H x y rx ry Q Qd s px py h k=>?_⟩
 unfold vI2 at h
 split at h
 ·rename_i i j e1 e2
  exact⟨i,j,px.scal (by rw[e1];rfl),py.scal (by rw[e2];rfl),h.1,k _ _ B H (.refl s) (repV (hf i j)) h.2⟩
 ·exact h.elim
theorem qoa{g:Value->Value->Sem Value}{f:Int->Int->D}{f':Int->Int->V}(hf:∀i j,dV (f i j)=some (f' i j))(h:OpR X g (rI0 f')):VO X g (vI2' f):=by
 refine⟨_,h,λB H x y rx ry Q Qd s px py h k=>?_⟩
 unfold vI2' at h
 split at h
 ·rename_i i j e1 e2
  exact⟨i,j,px.scal (by rw[e1];rfl),py.scal (by rw[e2];rfl),k _ _ B H (.refl s) (repV (hf i j)) h⟩
 ·exact h.elim
abbrev vSub:=vI2' λi j=>.int (i-j)
abbrev vMul:=vI2 CMul λi j=>.int (i*j)
abbrev vDiv:=vI2 CDiv λi j=>.int (i / j)
abbrev vMod:=vI2 (λ_ j=>0<j) λi j=>.int (i%j)
abbrev vPow:=vI2 CPow λi j=>.int (i ^ j.toNat)
abbrev vLt:=vI2' λi j=>.bl (decide (i<j))
abbrev vLe:=vI2' λi j=>.bl (decide (i<=j))
abbrev vGt:=vI2' λi j=>.bl (decide (j<i))
abbrev vGe:=vI2' λi j=>.bl (decide (j<=i))
theorem qsi:VO X (binaryOp .Sub) vSub:=qoa (λ_ _=>rfl) q0c
theorem qir:VO X (binaryOp .Mult) vMul:=qup (λ_ _=>rfl) qz9
theorem qgi:VO X (binaryOp .FloorDiv) vDiv:=qup (λ_ _=>rfl) qw0
theorem qcp:VO X (binaryOp .Mod) vMod:=qup (λ_ _=>rfl) qz8
theorem qvy:VO X (binaryOp .Pow) vPow:=qup (λ_ _=>rfl) q0b
theorem qsh:VO X (compareOp .Lt) vLt:=qoa (λ_ _=>rfl) q2k
theorem q3e:VO X (compareOp .LtE) vLe:=qoa (λ_ _=>rfl) q2j
theorem qpe:VO X (compareOp .Gt) vGt:=qoa (λ_ _=>rfl) q2i
def vEq(rx ry:R)(Q:R->Prop):Prop:=cmpD rx.d ry.d=true/\depD rx.d<=50/\Q (.val (.bl (eqD rx.d ry.d)))
theorem qco(hu:X.A.units+64<cLine):VO X (compareOp .Eq) vEq :=
 ⟨_,qz6 (by lia),λB H x y rx ry Q Qd s px py h k=>⟨rx.d,ry.d,px.rep s,py.rep s,h.1,h.2.1,k _ _ B H (.refl s) (repV rfl) h.2.2⟩⟩
def vNe(rx ry:R)(Q:R->Prop):Prop:=match dV rx.d,dV ry.d with
|some u,some w=>scal u w=true/\Q (.val (.bl (!decide (u=w))))
|_,_=>False
def vSlR(rx:R)(lo hi:Option Int)(Q:R->Prop):Prop:=match rx.d with
|.str z=>z.length<=sizeLine/\Q (.val (.str (Txt.slice z lo hi)))
|.tup ds=>Q (.val (.tup (cutL ds lo hi)))
|.lst ds=>Q (.own (.lst (cutL ds lo hi)))
|.scr ns=>Q (.own (.lst ((cutL ns lo hi).map D.int)))
|_=>False
abbrev TVO:=VSt->(Option Int->Prop)->Prop
def qbv:TVO:=λ_ Q=>Q none
def qcz(te:TV):TVO:=λτ Q=>te τ λr=>match r.d with
|.int i=>Q (some i)
|_=>False
def RfOp(K:PySem.W.Frag)(to:TO)(t:TVO):Prop:=∀(H0 B H:Hp) (τ:VSt) (σ:St) (Q:Option Int->Hp->Prop) (Qd:Option Int->Prop),Same B H->Slots K H0 B H τ σ->t τ Qd->(∀o B' H',Stp B H B' H'->Qd o->Q o H')->to σ H Q
structure VPt(X:Cx)(EX:St->XK)(e:Option Expr)(t:TVO):Prop where
 u:∃to,QO X e to/\RfOp X.K to t
variable {e:Expr} {te ta:TV} {es:List Expr} {lo hi:Option Expr} {tl th:TVO} {pos p p2 apos cpos:Pos} {x:Str}
theorem qc1:VPt X EX none qbv:=⟨_,qxx,λ_ B H _ _ _ _ s _ h k=>k _ B H (.refl s) h⟩
theorem qa9(h:VE X EX e te):VPt X EX (some e) (qcz te):=let ⟨_,a1,a2⟩:=h.u;⟨_,qxy a1,λH0 B H τ σ Q Qd s S h k=>a2 H0 B H τ σ _ _ s S h (xno λ_ q=>q) λr v B' H' p q h1=>by
  split at h1
  ·rename_i i e
   exact⟨i,q.pk.scal (by rw[e];rfl),k _ B' H' p h1⟩
  ·exact h1.elim⟩
def qcn(te:TV)(tl th:TVO):TV:=λτ Q=>te τ λr=>exR r Q (tl τ λl=>th τ λu=>vSlR r l u Q)
theorem qbq(he:VE X EX e te)(hl:VPt X EX lo tl)(hh:VPt X EX hi th):VE X EX (.Subscript e (.Slice lo hi none p2) pos) (qcn te tl th) :=
 let ⟨_,a1,a2⟩:=he.u;let ⟨_,b1,b2⟩:=hl.u;let ⟨_,c1,c2⟩:=hh.u;⟨_,qt3 (sl_str.or (sl_tupP.or qyc)) a1 b1 c1,λH0 B H τ σ Q Qd s S h xc k =>
  a2 H0 B H τ σ _ _ s S h xc λr v B1 H1 p1 q1 h1=>b2 H0 B1 H1 τ σ _ _ p1.s (S.step p1) (q1.ok h1) λl B2 H2 p2 h2=>c2 H0 B2 H2 τ σ _ _ p2.s (S.step (p1.trans p2)) h2 λu B3 H3 p3 h3=>by
   have p12:=p1.trans p2
   have pp:=p12.trans p3
   have pk:=(q1.pk.step p2).step p3
   unfold vSlR at h3
   split at h3
   ·rename_i z ez
    cases pk.scal (z:=.str z) (by rw[ez];rfl)
    exact .inl ⟨z,rfl,h3.1,k _ _ B3 H3 pp (repV rfl) h3.2⟩
   ·rename_i ds ed
    obtain⟨a,xs,rfl,h1,r1⟩:=pk.tup ed
    refine .inr (.inl ⟨a,xs,rfl,p3.s.sqT h1.sq,λw=>?_,λw p hp=>?_⟩)
    ·refine k _ _ B3 H3 pp ?_ h3
     show Rep X.K B3 (.tup (cutL ds l u)) _
     unfold Rep
     have hc:cutL ds l u=ds:=by
      unfold cutL
      rw[r1.length,w.1,w.2,List.drop_zero,Nat.sub_zero,←r1.length,List.take_length]
     rw[hc]
     exact⟨a,xs,rfl,h1,r1⟩
    ·exact k (.val (.tup (cutL ds l u))) _ (upd B3 p (.tup (cutV xs l u))) _ (pp.trans (.new p3.s hp)) (qjk (r1.cut l u) (p3.s.free hp)) h3
   ·rename_i ds ed
    obtain⟨a,xs,rfl,h1,r1⟩:=pk.lst p3.s ed
    exact .inr (.inr ⟨a,xs,rfl,SqL.of h1,λp hp=>k (.own _) _ B3 _ (pp.trans (.grow p3.s (qax hp _))) ⟨p,rfl,pp.h.free hp,p3.s.free hp,qbz (r1.cut l u)⟩ h3⟩)
   ·rename_i ns en
    obtain⟨a,rfl,h1⟩:=pk.scr p3.s en
    refine .inr (.inr ⟨a,_,rfl,h1,λp hp=>k (.own _) _ B3 _ (pp.trans (.grow p3.s (qax hp _))) ⟨p,rfl,pp.h.free hp,p3.s.free hp,?_⟩ h3⟩)
    rw[qs2]
    exact qbz (.ints _)
   ·exact h3.elim⟩
def vIxR(rx ry:R)(Q:R->Prop):Prop:=match rx.d,ry.d with
|.str z,.int i=>z.length<=sizeLine/\∃c,atI z.cps.toList i=some c/\Q (.val (.str ⟨#[c]⟩))
|.tup ds,.int i=>∃d,atI ds i=some d/\Q (.val d)
|.lst ds,.int i=>∃d,atI ds i=some d/\Q (.val d)
|.scr ns,.int i=>∃n,atI ns i=some n/\Q (.val (.int n))
|_,_=>False
theorem qaj:VX X vIxR:=by
 refine⟨_,ix_str.or (ix_tup.or qwi),λB H x y rx ry Q Qd s px py h k=>?_⟩
 unfold vIxR at h
 split at h
 ·rename_i z i e1 e2
  obtain⟨hz,c,hc,q⟩:=h
  exact .inl ⟨z,i,c,px.scal (by rw[e1];rfl),py.scal (by rw[e2];rfl),hz,hc,k _ _ B H (.refl s) (repV rfl) q⟩
 ·rename_i ds i e1 e2
  obtain⟨d,hd,q⟩:=h
  obtain⟨a,xs,rfl,h1,r1⟩:=px.tup e1
  obtain⟨w,hw,rw'⟩:=r1.atI hd
  exact .inr (.inl ⟨a,xs,i,w,rfl,py.scal (by rw[e2];rfl),s.sqT h1.sq,hw,k (.val d) _ B H (.refl s) rw' q⟩)
 ·rename_i ds i e1 e2
  obtain⟨d,hd,q⟩:=h
  obtain⟨a,xs,rfl,h1,r1⟩:=px.lst s e1
  obtain⟨w,hw,rw'⟩:=r1.atI hd
  exact .inr (.inr ⟨a,xs,i,w,rfl,py.scal (by rw[e2];rfl),SqL.of h1,hw,k (.val d) _ B H (.refl s) rw' q⟩)
 ·rename_i ns i e1 e2
  obtain⟨n,hn,q⟩:=h
  obtain⟨a,rfl,h1⟩:=px.scr s e1
  exact .inr (.inr ⟨a,_,i,_,rfl,py.scal (by rw[e2];rfl),h1,qy4 hn,k _ _ B H (.refl s) (repV rfl) q⟩)
 ·exact h.elim
def vLen(rx:R)(Q:R->Prop):Prop:=match rx.d with
|.str z=>z.length<=sizeLine/\Q (.val (.int z.length))
|.tup ds=>Q (.val (.int ds.length))
|.lst ds=>Q (.val (.int ds.length))
|.scr ns=>Q (.val (.int ns.length))
|_=>False
theorem qbw:VF X (.builtin "len") vLen:=by
 refine⟨_,call_len_str.or qj3,λB H x rx Q Qd s px h k=>?_⟩
 unfold vLen at h
 split at h
 ·rename_i z e1
  exact .inl ⟨z,by rw[px.scal (z:=.str z) (by rw[e1];rfl)],h.1,k _ _ B H (.refl s) (repV rfl) h.2⟩
 ·rename_i ds e1
  obtain⟨a,xs,rfl,h1,r1⟩:=px.tup e1
  exact .inr ⟨a,xs,rfl,.inr (s.sqT h1.sq),k _ _ B H (.refl s) (repV rfl) (by rw[r1.length] at h;exact h)⟩
 ·rename_i ds e1
  obtain⟨a,xs,rfl,h1,r1⟩:=px.lst s e1
  exact .inr ⟨a,xs,rfl,.inl (SqL.of h1),k _ _ B H (.refl s) (repV rfl) (by rw[r1.length] at h;exact h)⟩
 ·rename_i ns e1
  obtain⟨a,rfl,h1⟩:=px.scr s e1
  exact .inr ⟨a,_,rfl,.inl h1,k (.val (.int ns.length)) _ B H (.refl s) (by rw[List.length_map];exact repV rfl) h⟩
 ·exact h.elim
def qk4(rx:R)(Q:R->Prop):Prop:=match rx.d with
|.tup ds=>Q (.own (.lst ds))
|.lst ds=>Q (.own (.lst ds))
|.scr ns=>Q (.own (.lst (ns.map D.int)))
|_=>False
theorem qm1:VF X (.type "list") qk4:=by
 refine⟨_,qj5,λB H x rx Q Qd s px h k=>?_⟩
 unfold qk4 at h
 split at h
 ·rename_i ds e1
  obtain⟨a,xs,rfl,h1,r1⟩:=px.tup e1
  exact⟨a,xs,rfl,.inr (s.sqT h1.sq),λp hp=>k (.own _) _ B _ (.grow s (qax hp _)) ⟨p,rfl,hp,s.free hp,qbz r1⟩ h⟩
 ·rename_i ds e1
  obtain⟨a,xs,rfl,h1,r1⟩:=px.lst s e1
  exact⟨a,xs,rfl,.inl (SqL.of h1),λp hp=>k (.own _) _ B _ (.grow s (qax hp _)) ⟨p,rfl,hp,s.free hp,qbz r1⟩ h⟩
 ·rename_i ns e1
  obtain⟨a,rfl,h1⟩:=px.scr s e1
  exact⟨a,_,rfl,.inl h1,λp hp=>k (.own _) _ B _ (.grow s (qax hp _)) ⟨p,rfl,hp,s.free hp,qbz (.ints ns)⟩ h⟩
 ·exact h.elim
def qsa(rx:R)(Q:R->Prop):Prop:=match rx.d with
|.tup ds=>Q (.val (.tup ds))
|.lst ds=>Q (.val (.tup ds))
|_=>False
def vStr(rx:R)(Q:R->Prop):Prop:=match rx.d with
|.int i=>i.natAbs.log2<1920/\Q (.val (.str (toString i)))
|_=>False
def vAll(g:List Bool->Bool)(rx:R)(Q:R->Prop):Prop:=∃bs:List Bool,rx.d=.lst (bs.map D.bl)/\Q (.val (.bl (g bs)))
inductive Ty5 where
|str|tuple|list|int|bool
def Ty5.nm:Ty5->String
|.str=>"str"|.tuple=>"tuple"|.list=>"list"|.int=>"int"|.bool=>"bool"
def isTy:Ty5->D->Option Bool
|_,.non=>some false
|c,.bl _=>some (match c with|.bool=>true|.int=>true|_=>false)
|c,.int _=>some (match c with|.int=>true|_=>false)
|c,.str _=>some (match c with|.str=>true|_=>false)
|c,.tup _=>some (match c with|.tuple=>true|_=>false)
|c,.lst _=>some (match c with|.list=>true|_=>false)
|_,_=>none
def nmTy:D->String
|.non=>"NoneType"|.bl _=>"bool"|.int _=>"int"|.str _=>"str"|.tup _=>"tuple"|_=>"list"
theorem qtb{d:D}{c:Ty5}{b:Bool}(h:isTy c d=some b):PySem.W.kitOne K (.type (nmTy d)) (.type c.nm)=some b:=by
 cases d<;>cases c<;>first|(cases h;with_unfolding_all rfl;done)|(cases h;exact qtc;done)|(cases h;done)
theorem qs9{pins:List (Addr×Obj)}{s:Shared}{σ:St}{H:Hp}{v:V}{u:Value}{d:D}{c:Ty5}{b:Bool}{A:Around}{Q:Value->Shared->Prop}{E:Value->Shared->Prop}(I:Inv X pins σ H s)(rx:RelV v u)(h:Rep X.K H d v)(e:isTy c d=some b)
  (q:∀tk,Q (.bool b) { s with toks:=tk }):wpAny (model X.prog X.w) A (call (.builtin "isinstance") [u,.type c.nm]) Q E s:=by
 have kt:=qtb (K:=X.K) e
 cases d with
|non=>unfold Rep at h;subst h;exact qev I rx .non kt q
|bl b=>unfold Rep at h;subst h;exact qev I rx (.bl _) kt q
|int b=>unfold Rep at h;subst h;exact qev I rx (.int _) kt q
|str b=>unfold Rep at h;subst h;exact qev I rx (.str _) kt q
|tup ds =>
  unfold Rep at h
  obtain⟨a,xs,rfl,ha,_⟩:=h
  cases (show u=Value.ref a from rx)
  obtain⟨its,_,⟨o,h1,h2,_⟩,_⟩:=I.tuple ha.sq
  exact PySem.W.kia_one PySem.W.kitx_tuple I.kIn ⟨o,h1,h2⟩ kt (λz=>nomatch z) q
|lst ds =>
  unfold Rep at h
  obtain⟨a,xs,rfl,ha,_⟩:=h
  exact qev I rx (.lst ha) kt q
|dT _ _=>cases e
|dK _ _=>cases e
|scr _=>cases e
|kt _=>cases e
|exc _=>cases e
|io _ _=>cases e
|ioT _ _ _=>cases e
theorem qsx(c:Ty5):CallR X (.builtin "isinstance") (λxs H Q=>∃x d b,xs=[x,.ty c.nm]/\Rep X.K H d x/\isTy c d=some b/\Q (.bl b) H):=by
 intro pins s σ H xs us Q I r h
 obtain⟨x,d,b,rfl,ty,e,q⟩:=h
 obtain⟨u,v,rfl,ru,rv⟩:=vals2 r
 cases (show v=Value.type c.nm from rv)
 exact qs9 I ru ty e λtk=>⟨.bl b,H,I.tok tk,rfl,q⟩
def qft(c:Ty5)(ta:TV):TV:=λτ Q=>ta τ λr=>exR r (λ_=>False) <| match isTy c r.d with
|some b=>Q (.val (.bl b))
|none=>False
theorem qd0{a:Expr}{pb:Pos}{y:Str}(c:Ty5)(hg:Gl X "isinstance")(hm:X.mg "isinstance" = none)(hgy:Gl X y)(hmy:X.mg y=none)(hby:bootBuiltins y=some (.type c.nm))(ha:VE X EX a ta)(hp:qa3 a=true:=by rfl)(hny:y≠"__name__" := by decide)(hdy:(y==("__debug__" : Str))=false:=by decide) :
  VE X EX (.Call (.Name "isinstance" p) [a,.Name y pb] [] pos) (qft c ta) :=
 let ⟨_,a1,a2⟩:=ha.u;⟨_,qcb (qsx c) hg hm PyProof.Rows.Boot.«isinstance» (qac a1 (qac (qxr (v:=.ty c.nm) hgy hmy hby rfl hny hdy) qgh rfl) hp) (by rw[List.all_cons,hp];rfl),λH0 B H τ σ Q Qd s S h xc k=>a2 H0 B H τ σ _ _ s S h (xno λ_ q=>q) λr v B1 H1 p1 q1 h1=>by
   have h1:=q1.ok h1
   split at h1
   ·rename_i b eb
    exact⟨v,r.d,b,rfl,q1.pk.rep p1.s,eb,k _ _ B1 H1 p1 (repV rfl) h1⟩
   ·exact h1.elim⟩
end
end L2
namespace L2
open PySem PySem.Spec PyProof.Rows
section
variable {X:Cx} {EX:St->XK} {K:PySem.W.Frag} {B H B' H' H0 B0 B1 H1:Hp} {st:Stmt} {rest:List Stmt} {t u:TVS} {e a c o:Expr} {te ta:TV} {tT:TVT} {tA:TVA} {es:List Expr} {pos pos' p p2 apos cpos:Pos} {x:Str} {τ:VSt} {σ:St}
theorem Stp.base(p:Stp B0 H0 B1 H1)(q:Stp B1 H0 B' H'):Stp B0 H0 B' H':=⟨p.b.trans q.b,q.h,q.s,λa h=>(q.d a h).elim (p.d a) .inr⟩
theorem Stp.here(p:Stp B0 H0 B1 H1):Stp B1 H0 B1 H1:=⟨Same.refl _,p.h,p.s,λ_ h=>.inl h⟩
theorem EndsOk.base{Dv:VEnds}{Dh:Ends}(E:EndsOk K EX B0 H0 Dv Dh)(p:Stp B0 H0 B1 H1):EndsOk K EX B1 H0 Dv Dh :=
 ⟨λB H τ σ q=>E.nx B H τ σ (p.base q),λr v B H q=>E.rt r v B H (p.base q),λB H τ σ q=>E.bk B H τ σ (p.base q),λB H τ σ q=>E.ct B H τ σ (p.base q),λB H τ σ n C q=>E.xc B H τ σ n C (p.base q),λr v B H τ σ q=>E.ro r v B H τ σ (p.base q)⟩
def exS(τ:VSt)(Dv:VEnds):R->Prop->Prop
|.exc n,_=>Dv.xc τ n
|.val _,k=>k
|.own _,k=>k
|.peek _,k=>k
theorem RepR.okS{r:R}{v:V}{τ:VSt}{Dv:VEnds}{k:Prop}(h:RepR K B H0 H r v)(q:exS τ Dv r k):k:=by
 cases r with
|exc n=>exact h.elim
|val d=>exact q
|own d=>exact q
|peek d=>exact q
theorem EndsOk.raised{Dv:VEnds}{Dh:Ends}(E:EndsOk K EX B0 H0 Dv Dh)(p:Stp B0 H0 B H)(S:Slots K H0 B H τ σ):∀n C B' H',Stp B H B' H'->clsOf K n C->Dv.xc τ n->EX σ (.ref C) none H':=λn C B' H' q c h=>E.xc B' H' τ σ n C (p.trans q) (S.step q) c h
def qbb:TVS:=λDv τ=>Dv.nx τ
def vSeq(t u:TVS):TVS:=λDv τ=>t { Dv with nx:=u Dv } τ
theorem qas:VSs X EX [] qbb:=⟨_,qx1,λB0 H0 B H τ σ Dv Dh p S h E=>E.nx B H τ σ p S h⟩
theorem qaf(h:VS X EX st t):VSs X EX [st] t:=let ⟨_,a1,a2⟩:=h.u;⟨_,qx2 a1,a2⟩
theorem qab(h:VS X EX st t)(r:VSs X EX rest u):VSs X EX (st::rest) (vSeq t u) :=
 let ⟨_,a1,a2⟩:=h.u;let ⟨_,b1,b2⟩:=r.u;⟨_,qt5 a1 b1,λB0 H0 B H τ σ Dv Dh p S h E=>a2 B0 H0 B H τ σ _ _ p S h ⟨λB H τ σ p S h=>b2 B0 H0 B H τ σ _ _ p S h E,E.rt,E.bk,E.ct,E.xc,E.ro⟩⟩
def vFrz(i:Nat)(t:TVS):TVS:=λDv τ=>t Dv (frz i τ)
def vIfS(c:TVT)(t u:TVS):TVS:=λDv τ=>c τ λb=>if b=true then t Dv τ else u Dv τ
theorem qbc{sa sb:List Stmt}(hc:VT X EX c tT)(ha:VSs X EX sa t)(hb:VSs X EX sb u):VS X EX (.If c sa sb pos) (vIfS tT t u) :=
 let ⟨_,c1,c2⟩:=hc.u;let ⟨_,a1,a2⟩:=ha.u;let ⟨_,b1,b2⟩:=hb.u;⟨_,q25 c1 a1 b1,λB0 H0 B H τ σ Dv Dh p S h E=>c2 H0 B H τ σ _ _ p.s S h λcb B' H' q hq=>by
  cases cb with
 |true=>exact iteT (a2 B0 H0 B' H' τ σ _ _ (p.trans q |> λz=>⟨z.b,z.h,z.s,z.d⟩) (S.step q) (by rw[if_pos rfl] at hq;exact hq) E)
 |  false=>exact iteF (b2 B0 H0 B' H' τ σ _ _ (p.trans q) (S.step q) (by rw[if_neg Bool.false_ne_true] at hq;exact hq) E)⟩
def vRet(te:TV):TVS:=λDv τ=>te τ λr=>exS τ Dv r (pubR r λ_=>Dv.rt r)
theorem qay(h:VE X EX e te):VS X EX (.Return (some e) pos) (vRet te) :=
 let ⟨_,a1,a2⟩:=h.u;⟨_,qvm a1,λB0 H0 B H τ σ Dv Dh p S h E=>a2 H0 B H τ σ _ _ p.s S h (E.raised p S) λr v B' H' q hr hq=>by
  cases r with
 |val d=>exact E.rt (.val d) v B' H' (p.trans q) hr hq
 |own d=>exact E.rt (.own d) v B' H' (p.trans q) (hr.back p.h) hq
 |peek d=>exact hq.elim
 |  exc n=>exact hr.elim⟩
def qmz(i:Nat):TVS:=λDv τ=>match τ[i]? with
|some (some (.own d))=>Dv.rt (.own d)
|some (some (.val d))=>Dv.rt (.val d)
|_=>False
theorem qsj(i:Nat)(hN:X.N[i]?=some x:=by rfl)(hv:Vis X.env.scope x:=by first|exact Or.inl rfl|exact Or.inr (Or.inl rfl)|exact Or.inr (Or.inr rfl))(hd:(x==("__debug__" : Str))=false:=by decide)
  (hcd:(x==("__classdict__" : Str))=false:=by decide):VS X EX (.Return (some (.Name x pos')) pos) (qmz i) :=
 ⟨_,qvm (qv i hN hv hd hcd),λB0 H0 B H τ σ Dv Dh p S h E=>by
  unfold qmz at h
  split at h
  ·rename_i d e
   obtain⟨a,q,h0,hb,ow⟩:=S.own i d e
   exact⟨.ref a,q,E.rt (.own d) _ B H p ⟨a,rfl,h0,hb,ow⟩ h⟩
  ·rename_i d e
   obtain⟨v,q,rp⟩:=S.val i d e
   exact⟨v,q,E.rt (.val d) _ B H p rp h⟩
  ·exact h.elim⟩
def qym:TVS:=λDv _=>Dv.rt (.val .non)
def qyl(te:TV):TVS:=λDv τ=>te τ λr=>exS τ Dv r (Dv.nx τ)
def vSet(i:Nat)(te:TV):TVS:=λDv τ=>te τ λr=>exS τ Dv r (pubR r λd=>Dv.nx (τ.set i (some (.val d))))
theorem q1l{i:Nat}{ee:TE}(h:RfE K EX ee te):RfS K EX (tAsg ee (qoo i)) (vSet i te):=λB0 H0 B H τ σ Dv Dh p S hh E=>h H0 B H τ σ _ _ p.s S hh (E.raised p S) λr v B' H' q hr hq=>by
 obtain⟨d,B2,q2,_,rp,hd⟩:=pub q hr (hr.okS hq)
 exact E.nx B2 H' _ _ (p.trans q2) ((S.step q2).setVal i rp) hd
def qfg(i:Nat)(te:TV):TVS:=λDv τ=>te τ λr=>exS τ Dv r (pubR r λ_=>Dv.nx (τ.set i (some r)))
theorem qx9{i:Nat}{ee:TE}(h:RfE K EX ee te):RfS K EX (tAsg ee (qoo i)) (qfg i te):=λB0 H0 B H τ σ Dv Dh p S hh E=>h H0 B H τ σ _ _ p.s S hh (E.raised p S) λr v B' H' q hr hq=>by
 cases r with
|val d=>exact E.nx B' H' _ _ (p.trans q) ((S.step q).setVal i hr) hq
|own d =>
  obtain⟨a,rfl,h0,hb,ow⟩:=hr
  refine E.nx B' H' _ _ (p.trans q) ((S.step q).setOwn i (p.h.free h0) hb ow λj e he z=>?_) hq
  obtain⟨c,qc,_,_,oc⟩:=S.own j e he
  rw[z] at qc
  cases qc
  exact oc.some h0
|peek d=>exact hq.elim
|exc n=>exact hr.elim
theorem qal{i:Nat}(hN:X.N.Nodup)(hi:X.N[i]?=some x)(hx:Loc X.env.scope x)(h:VE X EX e te)(hs:swapsWith e (some (.Name x pos')) pos.line X.env=pure false:=by rfl)
  (hf:X.fn x=true\/X.env.scope.names.lookup x=some .local:=by first|exact .inl rfl|exact .inr rfl|assumption):VS X EX (.Assign [.Name x pos'] e pos) (vSet i te):=let ⟨_,a1,a2⟩:=h.u;⟨_,qvn hN hi hx a1 hs hf,q1l a2⟩
theorem qdr{i:Nat}(hN:X.N.Nodup)(hi:X.N[i]?=some x)(hx:Loc X.env.scope x)(h:VE X EX e te)(hs:swapsWith e (some (.Name x pos')) pos.line X.env=pure false:=by rfl)
  (hf:X.fn x=true\/X.env.scope.names.lookup x=some .local:=by first|exact .inl rfl|exact .inr rfl|assumption):VS X EX (.Assign [.Name x pos'] e pos) (qfg i te):=let ⟨_,a1,a2⟩:=h.u;⟨_,qvn hN hi hx a1 hs hf,qx9 a2⟩
def qbj(i:Nat):TVG:=λd τ Q=>Q (τ.set i (some (.val d)))
theorem qzx{i:Nat}{d:D}{v:V}:Kp τ σ (τ.set i (some (.val d))) (σ.set i (some v)):=λj e h=>by
 rcases qb1 h with ⟨rfl,z,l⟩|⟨n,h⟩
 ·cases z
 ·exact⟨h,List.getElem?_set_ne n⟩
theorem qa7{i:Nat}(hN:X.N.Nodup)(hi:X.N[i]?=some x)(hx:Loc X.env.scope x)(hf:X.fn x=true\/X.env.scope.names.lookup x=some .local:=by first|exact .inl rfl|exact .inr rfl|assumption):VG X (.Name x pos) (qbj i) :=
 ⟨_,qxv hN hi hx hf,λH0 B H τ σ v d Q Qd s S rp h k=>k _ _ (S.setVal i rp) qzx h⟩
def qyp:List D->VSt->(VSt->Prop)->Prop:=λds τ Q=>ds=[]/\Q τ
def qsg(g:TVG)(gs:List D->VSt->(VSt->Prop)->Prop):List D->VSt->(VSt->Prop)->Prop:=λds τ Q=>match ds with
|d::r=>g d τ λτ'=>gs r τ' Q
|[]=>False
def qyq(n:Nat)(gs:List D->VSt->(VSt->Prop)->Prop):TVG:=λd τ Q=>match d with
|.tup ds=>ds.length=n/\gs ds τ Q
|_=>False
def vAsg(te:TV)(g:TVG):TVS:=λDv τ=>te τ λr=>exS τ Dv r (pubR r λd=>g d τ Dv.nx)
end
section
variable {X:Cx} {tg l e:Expr}
def iAny(K:PySem.W.Frag)(tl:TE):TI:=λσ H R=>tl σ H λx H1=>(∃a,x=.ref a/\(∃xs,SqL K H1 a xs)/\R (Itl K a) H1)\/(∃a,x=.ref a/\(∃xs,SqT K H1 a xs)/\R (Itt K a) H1)\/∃z,x=.str z/\R (Its z) H1
theorem q0q{tl:TE}(hl:PE X l tl):PI X tg l (iAny X.K tl):=by
 intro pins s σ H R I h
 refine thn (hl pins s σ H _ I h) λv s1 ⟨x,H1,I1,r1,q1⟩=>?_
 rcases q1 with ⟨a,rfl,⟨xs,hq⟩,q⟩|⟨a,rfl,⟨xs,hq⟩,q⟩|⟨z,rfl,q⟩
 ·cases r1
  obtain⟨its,rv,pl,hz⟩:=I1.list hq
  refine wpAny_pyIter_list pl.isList ⟨s1.heap.objs.size,[s1.heap.objs.size],_,_,H1,rfl,I1.kept (t':=s1.toks) λb o e=>Heap.get?_push_of_some _ e,qr4 a _,⟨_,Heap.get?_push_size _ rfl,rfl,rfl⟩,λb hb=>?_,q⟩
  cases (by simpa using hb:b=s1.heap.objs.size)
  exact I1.fpOk (Nat.le_refl _) (I1.hok.fresh (Nat.le_refl _))
 ·cases r1
  obtain⟨its,rv,pl,hz⟩:=I1.tuple hq
  refine wpAny_pyIter_tuple (show s1.heap.IsTuple a its.toArray from pl) ⟨s1.heap.objs.size,[s1.heap.objs.size],_,_,H1,rfl,I1.kept (t':=s1.toks) λb o e=>Heap.get?_push_of_some _ e,qpa a _,⟨_,Heap.get?_push_size _ rfl,rfl,rfl⟩,λb hb=>?_,q⟩
  cases (by simpa using hb:b=s1.heap.objs.size)
  exact I1.fpOk (Nat.le_refl _) (I1.hok.fresh (Nat.le_refl _))
 ·obtain⟨t,rfl⟩:=r1
  have fp:∀b∈[s1.heap.objs.size],FpOk X pins H1 b:=λb hb=>by
   cases (by simpa using hb:b=s1.heap.objs.size)
   exact I1.fpOk (Nat.le_refl _) (I1.hok.fresh (Nat.le_refl _))
  cases ha:z.cps.all (·<128)
  ·exact wpAny_pyIter_wide ha ⟨s1.heap.objs.size,[s1.heap.objs.size],_,_,H1,rfl,I1.kept (t':=s1.toks) λb o e=>Heap.get?_push_of_some _ e,qr5 _ z t,⟨_,Heap.get?_push_size _ rfl,rfl,rfl⟩,fp,q⟩
  ·exact wpAny_pyIter_ascii ha ⟨s1.heap.objs.size,[s1.heap.objs.size],_,_,H1,rfl,I1.kept (t':=s1.toks) λb o e=>Heap.get?_push_of_some _ e,qo8 _ z t,⟨_,Heap.get?_push_size _ rfl,rfl,rfl⟩,fp,q⟩
theorem q08{tl:TE}(h:QE X e tl):QI X tg e (iAny X.K tl):=⟨q0q h.u⟩
end
section
variable {X:Cx} {EX:St->XK} {K:PySem.W.Frag} {B H B' H' H0 B0 B1 H1:Hp} {st:Stmt} {rest:List Stmt} {t u:TVS} {e a c o:Expr} {te ta:TV} {tT:TVT} {tA:TVA} {es:List Expr} {pos pos' p p2 apos cpos:Pos} {x:Str} {τ:VSt} {σ:St}
def qcm(te:TV):TVA:=λτ Q=>te τ λr=>excA r Q <| pubR r λd=>match d with
|.lst ds=>Q (.ok ds)
|.tup ds=>Q (.ok ds)
|.scr ns=>Q (.ok (ns.map D.int))
|.str z=>Q (.ok (z.cps.toList.map λc=>.str ⟨#[c]⟩))
|_=>False
theorem qnk{ad:Addr}{ds:List D}{xs:List V}(h:SqL K B ad xs)(r:Reps K B ds xs):ItOk K B (Itl K ad) ds:=λi B2 H sb s2=>by
 have s:=sb.trans s2
 refine⟨λd e=>?_,λe=>⟨xs,s.seq h,by rw[←r.length];exact List.getElem?_eq_none_iff.mp e⟩⟩
 obtain⟨w,hw,rw'⟩:=r.at e
 refine⟨⟨xs,w,s.seq h,hw⟩,λy H' q=>⟨B2,by rw[q.1];exact .refl s2,?_⟩⟩
 have:=q.2 xs (s.seq h)
 rw[hw] at this
 cases this
 exact rw'.same sb
theorem qzq{ad:Addr}{ds:List D}{xs:List V}(h:SqT K B ad xs)(r:Reps K B ds xs):ItOk K B (Itt K ad) ds:=λi B2 H sb s2=>by
 have s:=sb.trans s2
 refine⟨λd e=>?_,λe=>⟨xs,s.sqT h,by rw[←r.length];exact List.getElem?_eq_none_iff.mp e⟩⟩
 obtain⟨w,hw,rw'⟩:=r.at e
 refine⟨⟨xs,w,s.sqT h,hw⟩,λy H' q=>⟨B2,by rw[q.1];exact .refl s2,?_⟩⟩
 have:=q.2 xs (s.sqT h)
 rw[hw] at this
 cases this
 exact rw'.same sb
theorem qzp(z:Str):ItOk K B (Its z) (z.cps.toList.map λc=>.str ⟨#[c]⟩):=λi B2 H sb s2=>by
 have s:=sb.trans s2
 refine⟨λd e=>?_,λe=>?_⟩
 ·rw[List.getElem?_map] at e
  cases hc:z.cps.toList[i]? with
 |none=>rw[hc] at e;cases e
 |some ch =>
   rw[hc] at e
   cases e
   have hc':z.cps[i]?=some ch:=by simpa using hc
   refine⟨?_,λy H' q=>⟨B2,by rw[q.1];exact .refl s2,?_⟩⟩
   ·show i<z.cps.size
    exact(Array.getElem?_eq_some_iff.mp hc').1
   ·obtain⟨c2,h2,rfl⟩:=q.2
    rw[hc'] at h2
    cases h2
    exact qig (d:=.str ⟨#[ch]⟩) rfl
 ·show z.cps.size<=i
  have:=List.getElem?_eq_none_iff.mp e
  simpa using this
theorem qdq{tg:Expr}(h:VE X EX e te):VI X EX tg e (qcm te) :=
 let ⟨_,a1,a2⟩:=h.u;⟨_,q08 a1,λH0 B H τ σ Q Qd s S h xc k=>a2 H0 B H τ σ _ _ s S h xc λr v B' H' q hr hq=>by
  obtain⟨d,B2,q2,_,rp,hd⟩:=pub q hr (hr.okA hq)
  split at hd
  ·unfold Rep at rp
   obtain⟨ad,xs,rfl,ha,r1⟩:=rp
   exact .inl ⟨ad,rfl,⟨xs,SqL.of (q2.s _ _ ha)⟩,k _ _ B2 H' q2 (qnk (SqL.of ha) r1) hd⟩
  ·unfold Rep at rp
   obtain⟨ad,xs,rfl,ha,r1⟩:=rp
   exact .inr (.inl ⟨ad,rfl,⟨xs,q2.s.sqT ha.sq⟩,k _ _ B2 H' q2 (qzq ha.sq r1) hd⟩)
  ·unfold Rep at rp
   obtain⟨ad,rfl,ha⟩:=rp
   exact .inl ⟨ad,rfl,⟨_,q2.s.seq ha⟩,k _ _ B2 H' q2 (qnk ha (.ints _)) hd⟩
  ·rename_i z
   unfold Rep at rp
   exact .inr (.inr ⟨z,rp,k _ _ B2 H' q2 (qzp z) hd⟩)
  ·exact hd.elim⟩
def rngL(lo:Int)(n:Nat):List D:=(List.range n).map λ(i:Nat)=>.int (lo+i)
theorem qvb(lo:Int)(n:Nat):ItOk K B (Itr lo n) (rngL lo n):=λi B2 H sb s2=>by
 unfold rngL
 refine⟨λd e=>?_,λe=>?_⟩
 ·rw[List.getElem?_map] at e
  by_cases hi:i<n
  ·rw[List.getElem?_range hi] at e
   cases e
   exact⟨hi,λy H' q=>⟨B2,by rw[q.1];exact .refl s2,by rw[q.2];exact qig (d:=.int (lo+(i:Nat))) rfl⟩⟩
  ·rw[List.getElem?_eq_none (by rw[List.length_range];lia)] at e
   cases e
 ·have:=List.getElem?_eq_none_iff.mp e
  rw[List.length_map,List.length_range] at this
  exact this
def qgk(te:TV):TVA:=λτ Q=>te τ λr=>match r.d with
|.int j=>-(2 ^ 62)<=j/\j<2 ^ 62/\Q (.ok (rngL 0 j.toNat))
|_=>False
theorem qe1{tg:Expr}(hg:Gl X "range")(hm:X.mg "range" = none)(h:VE X EX a ta)(hp:qa3 a=true:=by rfl):VI X EX tg (.Call (.Name "range" p) [a] [] pos) (qgk ta) :=
 let ⟨_,a1,a2⟩:=h.u;⟨_,q23 hg hm (qac a1 qgh hp) hp,λH0 B H τ σ Q Qd s S h xc k=>a2 H0 B H τ σ _ _ s S h (xno λ_ q=>q) λr v B' H' q hr hq=>by
  split at hq
  ·rename_i j ej
   exact⟨j,by rw[hr.pk.scal (z:=.int j) (by rw[ej];rfl)],hq.1,hq.2.1,k _ _ B' H' q (qvb 0 j.toNat) hq.2.2⟩
  ·exact hq.elim⟩
def qr9(ta tb:TV):TVA:=λτ Q=>ta τ λrx=>exR rx (λ_=>False) <| tb τ λry=>match rx.d,ry.d with
|.int i,.int j=>(-(2 ^ 62)<=i/\i<2 ^ 62/\-(2 ^ 62)<=j/\j<2 ^ 62)/\Q (.ok (rngL i (j-i).toNat))
|_,_=>False
theorem qyr{tg b:Expr}{tb:TV}(hg:Gl X "range")(hm:X.mg "range" = none)(h:VE X EX a ta)(hb:VE X EX b tb)(hp:qa3 a=true:=by rfl)(hp2:qa3 b=true:=by rfl):VI X EX tg (.Call (.Name "range" p) [a,b] [] pos) (qr9 ta tb) :=
 let ⟨_,a1,a2⟩:=h.u;let ⟨_,b1,b2⟩:=hb.u;⟨_,q24 hg hm (qac a1 (qac b1 qgh hp2) hp) hp hp2,λH0 B H τ σ Q Qd s S h xc k=>a2 H0 B H τ σ _ _ s S h (xno λ_ q=>q) λr v B' H' q hr hq=>b2 H0 B' H' τ σ _ _ q.s (S.step q) (hr.ok hq) (xno λ_ q=>by revert q;cases r.d<;>exact λz=>z) λr2 v2 B2 H2 q2 hr2 hq2=>by
  split at hq2
  ·rename_i i j ei ej
   exact⟨i,j,by rw[hr.pk.scal (z:=.int i) (by rw[ei];rfl),hr2.pk.scal (z:=.int j) (by rw[ej];rfl)],hq2.1,k _ _ B2 H2 (q.trans q2) (qvb i (j-i).toNat) hq2.2⟩
  ·exact hq2.elim⟩
def forW(g:TVG)(tb:TVS)(Dv:VEnds):List D->VSt->Prop
|[],τ=>Dv.nx τ
|d::ds,τ=>g d τ λτ'=>tb { Dv with nx:=forW g tb Dv ds,ct:=forW g tb Dv ds,bk:=Dv.nx } τ'
def exI(τ:VSt)(Dv:VEnds):AR->(List D->Prop)->Prop
|.ok ds,k=>k ds
|.exc n,_=>Dv.xc τ n
def vFor(vi:TVA)(g:TVG)(tb:TVS):TVS:=λDv τ=>vi τ λa=>exI τ Dv a λds=>forW g tb Dv ds τ
theorem q1j{wi:TI}{g:TG}{tb:TS}{vi:TVA}{gv:TVG}{bv:TVS}(hi:RfI K EX wi vi)(hg:RfG K g gv)(hb:RfS K EX tb bv):RfS K EX (tFor wi g tb) (vFor vi gv bv):=λB0 H0 B H τ σ Dv Dh p S h E =>
 hi H0 B H τ σ _ _ p.s S h (E.raised p S) λJ ds B1 H1 q ok hw=>by
  have pq:=p.trans q
  have E1:=E.base pq
  refine⟨λi m σ H=>m=ds.length-i/\i<=ds.length/\∃B2 τ,Stp B1 H0 B2 H/\Slots K H0 B2 H τ σ/\forW gv bv Dv (ds.drop i) τ,⟨ds.length,by lia,Nat.zero_le _,B1,τ,pq.here,S.step q,hw⟩,?_⟩
  rintro i m σ2 H2 ⟨rfl,hi,B2,τ2,p2,S2,w⟩
  by_cases hlt:i<ds.length
  ·have ei:ds[i]?=some ds[i]:=List.getElem?_eq_getElem hlt
   rw[List.drop_eq_getElem_cons hlt] at w
   obtain⟨go,yl⟩:=(ok i B2 H2 p2.b p2.s).1 _ ei
   refine .inr ⟨go,λσ' H'=>∃B2 τ,Stp B1 H0 B2 H'/\Slots K H0 B2 H' τ σ'/\forW gv bv Dv (ds.drop (i+1)) τ,λσ' H' ⟨B3,τ3,a1,a2,a3⟩=>⟨ds.length-(i+1),by lia,rfl,by lia,B3,τ3,a1,a2,a3⟩,λy H' hy=>?_⟩
   obtain⟨B3,q3,rp⟩:=yl y H' hy
   refine hg H0 B3 H' τ2 σ2 y _ _ _ q3.s (S2.step q3) rp w λτ' σ' S' _ h'=>?_
   exact hb B1 H0 B3 H' τ' σ' _ _ (p2.trans q3) S' h' ⟨λB H τ σ a1 a2 a3=>⟨B,τ,a1,a2,a3⟩,E1.rt,λB H τ σ a1 a2 a3=>E1.nx B H τ σ a1 a2 a3,λB H τ σ a1 a2 a3=>⟨B,τ,a1,a2,a3⟩,E1.xc,E1.ro⟩
  ·have ei:ds[i]?=none:=List.getElem?_eq_none (by lia)
   rw[List.drop_eq_nil_of_le (by lia)] at w
   exact .inl ⟨(ok i B2 H2 p2.b p2.s).2 ei,E1.nx B2 H2 τ2 σ2 p2 S2 w⟩
theorem qdc{tg iter:Expr}{body:List Stmt}{vi:TVA}{g:TVG}(hp:PassesOwn (model X.prog X.w) X.A X.env X.xe)(hc:X.calm=true)(hi:VI X EX tg iter vi)(hg:VG X tg g)(hb:VSs X EX body t)
  (hs:∀x,foldedSetIterable iter X.env x=pure x:=by intro _;rfl):VS X EX (.For tg iter body [] pos) (vFor vi g t) :=
 let ⟨_,a1,a2⟩:=hi.u;let ⟨_,b1,b2⟩:=hg.u;let ⟨_,c1,c2⟩:=hb.u;⟨_,q1a hp hc a1 b1 c1 hs,q1j a2 b2 c2⟩
def qvx(c:TVT)(tb:TVS):TVS:=λDv τ=>∃W:Nat->VSt->Prop,(∃m,W m τ)/\∀m τ,W m τ->c τ λb=>if b=true then tb { Dv with nx:=λτ'=>∃m',m'<m/\W m' τ',ct:=λτ'=>∃m',m'<m/\W m' τ',bk:=Dv.nx } τ else Dv.nx τ
theorem qus{body:List Stmt}(hp:PassesOwn (model X.prog X.w) X.A X.env X.xe)(hc:VT X EX c tT)(hb:VSs X EX body t):VS X EX (.While c body [] pos) (qvx tT t) :=
 let ⟨_,a1,a2⟩:=hc.u;let ⟨_,b1,b2⟩:=hb.u;⟨_,qt4 hp a1 b1,λB0 H0 B H τ σ Dv Dh p S h E=>by
  obtain⟨W,⟨m0,w0⟩,turn⟩:=h
  refine⟨λm σ H=>∃B2 τ,Stp B0 H0 B2 H/\Slots X.K H0 B2 H τ σ/\W m τ,⟨m0,B,τ,p,S,w0⟩,?_⟩
  rintro m σ2 H2 ⟨B2,τ2,p2,S2,w⟩
  refine a2 H0 B2 H2 τ2 σ2 _ _ p2.s S2 (turn m τ2 w) λb B3 H3 q hq=>?_
  cases b with
 |true =>
   refine iteT ⟨λσ' H'=>∃m',m'<m/\∃B2 τ,Stp B0 H0 B2 H'/\Slots X.K H0 B2 H' τ σ'/\W m' τ,λσ' H' z=>z,?_⟩
   rw[if_pos rfl] at hq
   exact b2 B0 H0 B3 H3 τ2 σ2 _ _ (p2.trans q) (S2.step q) hq ⟨λB H τ σ a1 a2 ⟨m',l,a3⟩=>⟨m',l,B,τ,a1,a2,a3⟩,E.rt,λB H τ σ a1 a2 a3=>E.nx B H τ σ a1 a2 a3,λB H τ σ a1 a2 ⟨m',l,a3⟩=>⟨m',l,B,τ,a1,a2,a3⟩,E.xc,E.ro⟩
 |false =>
   rw[if_neg Bool.false_ne_true] at hq
   exact iteF (E.nx B3 H3 τ2 σ2 (p2.trans q) (S2.step q) hq)⟩
theorem qe0:VFs X EX [] (λ_ Q=>Q true):=⟨_,qxw,λH0 B H τ σ Y N Qd s S h k=>by have:=k true B H (.refl s) h;rw[if_pos rfl] at this;exact this⟩
def qgy(τ:VSt)(k:Nat)(g:TVG)(ti:TVT)(te:TV)(Q:R->Prop):List D->List D->Prop
|[],acc=>Q (.own (.lst acc))
|d::ds,acc=>g d (τ++List.replicate k none) λτ2=>(τ2.take τ.length=τ/\τ2.length=τ.length+k)/\ti τ2 λb=>if b=true then te τ2 λr=>pubR r λd'=>acc.length<sizeLine/\qgy τ k g ti te Q ds (acc++[d']) else qgy τ k g ti te Q ds acc
def qf6(vi:TVA)(g:TVG)(ti:TVT)(te:TV)(k:Nat):TV:=λτ Q=>vi τ λa=>exA a Q λds=>qgy τ k g ti te Q ds []
theorem Slots.more(S:Slots K H0 B H τ σ)(k:Nat):Slots K H0 B H (τ++List.replicate k none) (σ++List.replicate k none):=by
 have get:∀(i:Nat) (r:R),(τ++List.replicate k none)[i]?=some (some r)->τ[i]?=some (some r)/\(σ++List.replicate k (none:Option V))[i]?=σ[i]?:=λi r h=>by
  by_cases l:i<τ.length
  ·rw[List.getElem?_append_left l] at h
   exact⟨h,List.getElem?_append_left (by rw[S.len];exact l)⟩
  ·rw[List.getElem?_append_right (by lia)] at h
   by_cases l2:i-τ.length<k
   ·rw[List.getElem?_replicate_of_lt l2] at h;cases h
   ·rw[List.getElem?_eq_none (by rw[List.length_replicate];lia)] at h;cases h
 refine⟨by rw[List.length_append,List.length_append,S.len,List.length_replicate,List.length_replicate],λi d h=>?_,λi d h=>?_,λi d h=>?_,λi j d e a h1 h2 h3 h4=>?_⟩
 ·obtain⟨g1,g2⟩:=get i _ h
  rw[g2]
  exact S.val i d g1
 ·obtain⟨g1,g2⟩:=get i _ h
  rw[g2]
  exact S.fz i d g1
 ·obtain⟨g1,g2⟩:=get i _ h
  rw[g2]
  exact S.own i d g1
 ·obtain⟨g1,g2⟩:=get i _ h1
  obtain⟨g3,g4⟩:=get j _ h2
  rw[g2] at h3
  rw[g4] at h4
  exact S.sep i j d e a g1 g3 h3 h4
theorem Slots.less{τ2:VSt}{k:Nat}(S:Slots K H0 B H τ2 σ)(h1:τ2.take τ.length=τ)(h2:τ2.length=τ.length+k):Slots K H0 B H (τ++List.replicate k none) σ/\∀(j:Nat) (e:D),(τ++List.replicate k none)[j]?=some (some (R.own e))->τ2[j]?=some (some (R.own e)):=by
 have get:∀(i:Nat) (r:R),(τ++List.replicate k none)[i]?=some (some r)->τ2[i]?=some (some r):=λi r h=>by
  by_cases l:i<τ.length
  ·rw[List.getElem?_append_left l,←h1,List.getElem?_take_of_lt l] at h
   exact h
  ·rw[List.getElem?_append_right (by lia)] at h
   by_cases l2:i-τ.length<k
   ·rw[List.getElem?_replicate_of_lt l2] at h;cases h
   ·rw[List.getElem?_eq_none (by rw[List.length_replicate];lia)] at h;cases h
 exact⟨⟨by rw[S.len,h2,List.length_append,List.length_replicate],λi d h=>S.val i d (get i _ h),λi d h=>S.fz i d (get i _ h),λi d h=>S.own i d (get i _ h),λi j d e a q1 q2=>S.sep i j d e a (get i _ q1) (get j _ q2)⟩,λj e=>get j _⟩
theorem Slots.heap(S:Slots K H0 B H τ σ)(h:∀(i:Nat) (d:D) (a:Addr),τ[i]?=some (some (R.own d))->σ[i]?=some (some (.ref a))->H' a=H a):Slots K H0 B H' τ σ :=
 ⟨S.len,S.val,S.fz,λi d e=>let ⟨a,q1,q2,q3,q4⟩:=S.own i d e;⟨a,q1,q2,q3,q4.step (Same.refl _) (h i d a e q1)⟩,S.sep⟩
abbrev EX0:St->XK:=λ_ _ _ _=>False
theorem qx8{wi:TI}{g:TG}{ti:TF}{ee:TE}{vi:TVA}{gv:TVG}{tv:TVT}{k:Nat}(hi:RfI K EX wi vi)(hg:RfG K g gv)(hf:RfF K ti tv)(he:RfE K EX0 ee te):RfE K EX (qyj wi g ti ee k) (qf6 vi gv tv te k):=λH0 B H τ σ Q Qd s S h xc kk =>
 hi H0 B H τ σ _ _ s S h xc λJ ds B1 H1 q ok hw p hp=>by
  have S1:=S.step q
  refine⟨λi m σ' xs H'=>m=ds.length-i/\i<=ds.length/\∃B2 acc,Stp B1 H1 B2 H'/\H' p=some (.lst xs)/\B2 p=none/\Reps K B2 acc xs/\Slots K H0 B2 H' (τ++List.replicate k none) σ' /\
    (∀(j:Nat) (e:D),(τ++List.replicate k none)[j]?=some (some (R.own e))->σ'[j]?≠some (some (.ref p)))/\qgy τ k gv tv te Qd (ds.drop i) acc,
   ⟨ds.length,by lia,Nat.zero_le _,B1,[],.grow q.s (qax hp _),qbp,q.s.free hp,.nil,(S1.more k).heap λi d a h1 h2=>?_,λj e h1 h2=>?_,hw⟩,?_⟩
  ·obtain⟨c,q1,_,_,ow⟩:=(S1.more k).own i d h1
   rw[h2] at q1
   cases q1
   exact qbd λz=>ow.some (z▸hp)
  ·obtain⟨c,q1,_,_,ow⟩:=(S1.more k).own j e h1
   rw[h2] at q1
   cases q1
   exact ow.some hp
  rintro i m σ2 xs H2 ⟨rfl,hle,B2,acc,p2,hx,hb,rp,S2,fr,w⟩
  by_cases hlt:i<ds.length
  ·have ei:ds[i]?=some ds[i]:=List.getElem?_eq_getElem hlt
   rw[List.drop_eq_getElem_cons hlt] at w
   obtain⟨go,yl⟩:=(ok i B2 H2 p2.b p2.s).1 _ ei
   refine .inr ⟨go,λy H' hy=>?_⟩
   obtain⟨B3,q3,ry⟩:=yl y H' hy
   replace hb:=q3.keep hb (by rw[hx];exact λz=>by cases z) (by rw[hx];exact λ_ z=>by cases z)
   replace hx:=q3.h _ _ hx
   replace rp:=rp.same q3.b
   replace p2:=p2.trans q3
   replace S2:=S2.step q3
   clear q3
   refine hg H0 B3 H' _ σ2 y _ _ _ p2.s S2 ry w λτ3 σ3 S3 kp h3=>?_
   obtain⟨⟨e1,e2⟩,h3⟩:=h3
   obtain⟨S3',ow3⟩:=S3.less e1 e2
   have fr3:∀(j:Nat) (e:D),(τ++List.replicate k none)[j]?=some (some (R.own e))->σ3[j]?≠some (some (.ref p)):=λj e h z=>by
    obtain⟨g1,g2⟩:=kp j e (ow3 j e h)
    rw[g2] at z
    exact fr j e g1 z
   refine hf H0 B3 H' τ3 σ3 _ _ _ p2.s S3 h3 λb B4 H4 q4 hq4=>?_
   have hx4:H4 p=some (.lst xs):=q4.h _ _ hx
   have hb4:B4 p=none:=q4.keep hb (by rw[hx];exact λz=>by cases z) (by rw[hx];exact λ_ z=>by cases z)
   cases b with
  |false =>
    rw[if_neg Bool.false_ne_true] at hq4 ⊢
    exact⟨ds.length-(i+1),by lia,rfl,by lia,B4,acc,p2.trans q4,hx4,hb4,rp.same q4.b,S3'.step q4,fr3,hq4⟩
  |true =>
    rw[if_pos rfl] at hq4 ⊢
    refine he H0 B4 H4 τ3 σ3 _ _ q4.s (S3.step q4) hq4 (xno λ_ q=>q) λr v B5 H5 q5 hr hq5=>?_
    obtain⟨d',B6,q6,_,rd,hz,hq6⟩:=pub q5 hr hq5
    have hx6:H5 p=some (.lst xs):=q6.h _ _ hx4
    have hb6:B6 p=none:=q6.keep hb4 (by rw[hx4];exact λz=>by cases z) (by rw[hx4];exact λ_ z=>by cases z)
    have qq:=q4.trans q6
    refine⟨hx6,by rw[←rp.length];exact hz,ds.length-(i+1),by lia,rfl,by lia,B6,acc++[d'],(p2.trans qq).upd hp hb6,qbp,hb6,(rp.same qq.b).append (.one rd),(S3'.step qq).heap λj d a h1 h2=>?_,fr3,hq6⟩
    exact qbd λz=>fr3 j d h1 (z▸h2)
  ·have ei:ds[i]?=none:=List.getElem?_eq_none (by lia)
   rw[List.drop_eq_nil_of_le (by lia)] at w
   exact .inl ⟨(ok i B2 H2 p2.b p2.s).2 ei,kk (.own (.lst acc)) _ B2 H2 (q.trans p2) ⟨p,rfl,q.h.free hp,hb,xs,hx,rp⟩ w⟩
def canE(K:PySem.W.Frag)(t:TV):TE:=λσ H Q=>∃H0 B τ Qd,Same B H/\Slots K H0 B H τ σ/\t τ Qd/\(∀n C B' H',Stp B H B' H'->clsOf K n C->Qd (.exc n)->EX0 σ (.ref C) none H')/\∀r v B' H',Stp B H B' H'->RepR K B' H H' r v->Qd r->Q v H'
def canG(K:PySem.W.Frag)(g:TVG):TG:=λv σ H Q=>∃H0 B τ d Qd,Same B H/\Slots K H0 B H τ σ/\Rep K B d v/\g d τ Qd/\∀τ' σ',Slots K H0 B H τ' σ'->Kp τ σ τ' σ'->Qd τ'->Q σ' H
def canF(K:PySem.W.Frag)(t:TVT):TF:=λσ H Y N=>∃H0 B τ Qd,Same B H/\Slots K H0 B H τ σ/\t τ Qd/\∀b B' H',Stp B H B' H'->Qd b->if b=true then Y H' else N H'
theorem VE.can(h:VE X EX0 e te):QE X e (canE X.K te):=let ⟨_,a1,a2⟩:=h.u;⟨λpins s σ H Q I ⟨H0,B,τ,Qd,q1,q2,q3,q4,q5⟩=>a1.u pins s σ H Q I (a2 H0 B H τ σ Q Qd q1 q2 q3 q4 q5)⟩
theorem VG.can{g:TVG}(h:VG X e g):QG X e (canG X.K g):=let ⟨_,a1,a2⟩:=h.u;⟨λpins s σ H v u Q I r ⟨H0,B,τ,d,Qd,q1,q2,q3,q4,q5⟩=>a1.u pins s σ H v u Q I r (a2 H0 B H τ σ v d Q Qd q1 q2 q3 q4 q5)⟩
theorem VFs.can(h:VFs X EX es tT):QF X es (canF X.K tT):=let ⟨_,a1,a2⟩:=h.u;⟨λpins s σ H Y N I ⟨H0,B,τ,Qd,q1,q2,q3,q4⟩=>a1.u pins s σ H Y N I (a2 H0 B H τ σ Y N Qd q1 q2 q3 q4)⟩
theorem qez{tg iter elt:Expr}{ifs:List Expr}{csc:Scope}{NB M:List Str}{vi:TVA}{g:TVG}{ti:TVT}(hi:VI X EX tg iter vi)(hc:X.calm=true)(S:CompScope X.env.scope X.N NB M csc)
  (hg:∀cl C s₀ H₀ fp pn,VG (cxC X NB csc cl C s₀ H₀ fp pn) tg g) (hf:∀cl C s₀ H₀ fp pn,VFs (cxC X NB csc cl C s₀ H₀ fp pn) EX0 ifs ti)
  (he:∀cl C s₀ H₀ fp pn,VE (cxC X NB csc cl C s₀ H₀ fp pn) EX0 elt te) (hs:∀x,foldedSetIterable iter X.env x=pure x:=by intro _;rfl):VC X EX (.ListComp elt [⟨tg,iter,ifs,0⟩] csc pos) (qf6 vi g ti te M.length) :=
 let ⟨_,a1,a2⟩:=hi.u;⟨_,qxq (g:=canG X.K g) (ti:=canF X.K ti) (te:=canE X.K te) a1 hc S (λcl C s₀ H₀ fp pn=>(hg cl C s₀ H₀ fp pn).can) (λcl C s₀ H₀ fp pn=>(hf cl C s₀ H₀ fp pn).can) (λcl C s₀ H₀ fp pn=>(he cl C s₀ H₀ fp pn).can) hs,
  qx8 a2 (λH0 B H τ σ v d Q Qd q1 q2 q3 q4 q5=>⟨H0,B,τ,d,Qd,q1,q2,q3,q4,q5⟩) (λH0 B H τ σ Y N Qd q1 q2 q3 q4=>⟨H0,B,τ,Qd,q1,q2,q3,q4⟩) (λH0 B H τ σ Q Qd q1 q2 q3 q4 q5=>⟨H0,B,τ,Qd,q1,q2,q3,q4,q5⟩)⟩
theorem vc_e(h:VC X EX e te):VE X EX e te:=let ⟨_,a1,a2⟩:=h.u;⟨_,qc_e a1,a2⟩
def ownL(τ:VSt)(i:Nat)(Q:List D->Prop):Prop:=match τ[i]? with
|some (some (.own (.lst ds)))=>Q ds
|_=>False
theorem qw3{i:Nat}{Q:List D->Prop}(h:ownL τ i Q):∃ds,τ[i]?=some (some (.own (.lst ds)))/\Q ds:=by
 unfold ownL at h
 split at h
 ·exact⟨_,by assumption,h⟩
 ·exact h.elim
theorem Slots.lst{i:Nat}{ds es:List D}{ad:Addr}{ys:List V}(S:Slots K H0 B H τ σ)(p:Stp B0 H0 B H)(hi:τ[i]?=some (some (.own (.lst ds))))(ha:σ[i]?=some (some (.ref ad)))(r:Reps K B es ys) :
  Stp B0 H0 B (L2.upd H ad (.lst ys))/\Slots K H0 B (L2.upd H ad (.lst ys)) (τ.set i (some (.own (.lst es)))) σ:=by
 obtain⟨c,q,h0,hb,_⟩:=S.own i _ hi
 rw[ha] at q
 cases q
 exact⟨p.upd h0 hb,S.upd hi ha (qbz r)⟩
theorem Slots.ownL{i:Nat}{Q:List D->Prop}(S:Slots K H0 B H τ σ)(h:L2.ownL τ i Q):∃ds ad xs,τ[i]?=some (some (.own (.lst ds)))/\Q ds/\σ[i]?=some (some (.ref ad))/\H ad=some (.lst xs)/\Reps K B ds xs:=by
 obtain⟨ds,e,q⟩:=qw3 h
 obtain⟨a,q1,_,_,xs,q2,q3⟩:=S.own i _ e
 exact⟨ds,a,xs,e,q,q1,q2,q3⟩
def qek(i:Nat)(te:TV):TVS:=λDv τ=>ownL τ i λds=>te τ λr=>exS τ Dv r (pubR r λd=>ds.length<sizeLine/\Dv.nx (τ.set i (some (.own (.lst (ds++[d]))))))
theorem qe3(i:Nat)(h:VE X EX e te)(hN:X.N[i]?=some x:=by rfl)(hv:Vis X.env.scope x:=by first|exact Or.inl rfl|exact Or.inr (Or.inl rfl)|exact Or.inr (Or.inr rfl))(hd:(x==("__debug__" : Str))=false:=by decide)
  (hcd:(x==("__classdict__" : Str))=false:=by decide) (hp:qa3 e=true:=by rfl)
  (hbase:attributeBase (.Name x p) "append" X.env (eval (.Name x p) X.env)=eval (.Name x p) X.env:=by rfl) (hline:(apos.endLine==cpos.line)=true:=by rfl)
  (hs:swapsWith (.Call (.Attribute (.Name x p) "append" apos) [e] [] cpos) none pos.line X.env=pure false:=by rfl) :
  VS X EX (.Expr (.Call (.Attribute (.Name x p) "append" apos) [e] [] cpos) pos) (qek i te) :=
 let ⟨_,a1,a2⟩:=h.u;⟨_,qx0 (qbm PySem.F.plainAttrs_list PySem.F.slot_list_append PySem.F.type_list_append qkm (qv i hN hv hd hcd) (qac a1 qgh hp) (by simp[hp]) rfl hbase hline) hs,λB0 H0 B H τ σ Dv Dh p S h E=>by
  obtain⟨ds,ad,xs,e1,h,e2,e3,_⟩:=S.ownL h
  refine⟨.ref ad,e2,.inl ⟨rfl,xs,SqL.of e3⟩,a2 H0 B H τ σ _ _ p.s S h (E.raised p S) λr v B' H' q hr hq=>?_⟩
  obtain⟨d,B2,q2,_,rp,hz,hn⟩:=pub q hr (hr.okS hq)
  have S2:=S.step q2
  obtain⟨a',q1,_,_,xs2,q4,q3⟩:=S2.own i _ e1
  rw[e2] at q1
  cases q1
  refine⟨ad,xs2,v,rfl,rfl,q4,by rw[←q3.length];exact hz,?_⟩
  obtain⟨p3,S3⟩:=S2.lst (p.trans q2) e1 e2 (q3.append (.one rp))
  exact E.nx B2 _ _ σ p3 S3 hn⟩
def qa8(N:List Str)(ds:List D):VSt:=ds.map (λd=>some (R.val d))++List.replicate (N.length-ds.length) none
theorem qih:∀ {ds:List D} {vs:List V},Reps K B ds vs->Slots K H0 B H (ds.map λd=>some (R.val d)) (vs.map some)
|[],_,h=>by
  unfold Reps at h
  subst h
  exact⟨rfl,λi d e=>by simp at e,λi d e=>by simp at e,λi d e=>by simp at e,λi j d e a h=>by simp at h⟩
|d::ds,_,h=>by
  unfold Reps at h
  obtain⟨v,vs,rfl,h1,h2⟩:=h
  have S:=qih h2
  refine⟨by have:=S.len;simp at this ⊢;exact this,λi f e=>?_,λi f e=>?_,λi f e=>?_,λi j f g ad e=>?_⟩
  ·cases i with
  |zero=>simp at e;subst e;exact⟨v,rfl,h1⟩
  |succ i=>simpa using S.val i f (by simpa using e)
  ·cases i with
  |zero=>simp at e
  |succ i=>simpa using S.fz i f (by simpa using e)
  ·cases i with
  |zero=>simp at e
  |succ i=>simpa using S.own i f (by simpa using e)
  ·cases i with
  |zero=>simp at e
  |succ i =>
    simp at e
theorem Fun.okV{P:Program}{w:World}{mg:Str->Option Value}{base:Heap}{x qual:Str}{st:Stmt}{f:Addr}{fd:FuncData}{N ps:List Str}{k:Nat}{g:DP}(F:Fun K x qual st f fd)(S:FnScope N ps (qae st))(len:∀ds Q,g ds Q->ds.length=ps.length)
  (hbody:∀(cdv:Value) (A:Around) (outer:List Env) (s:Shared) (H:Hp) (E:XK),Room k (A.deeper (envOfC qual (qae st) s.heap.objs.size f cdv)) ->
   ∃t,VSs (cxOf CX0 P w K mg base N qual (qae st) f cdv A outer s H E).nox EX0 (qav st) t/\∀ds Q,g ds Q->t { nx:=λ_=>Q (.val .non),rt:=Q } (qa8 N ds)):FnOk P w K mg base CX0 (k+1) f fd ps (spOf K g):=by
 refine F.okQ S (λvs H Q E h=>?_) (λcdv A outer s H vs Q E hr h=>?_)
 ·obtain⟨ds,B,Qd,_,rp,hg,_,_⟩:=h
  rw[←rp.length]
  exact len ds Qd hg
 ·obtain⟨ds,B,Qd,sm,rp,hg,_,kk⟩:=h
  obtain⟨t,⟨ts,q1,q2⟩,ht⟩:=hbody cdv A outer s H E hr
  refine⟨ts,q1,q2 B H B H (qa8 N ds) (start N vs) _ _ (.refl sm) ?_ (ht ds Qd hg) ⟨λB' H' τ σ p S h=>kk (.val .non) .non B' H' h p (repV rfl),λr v B' H' p hr h=>kk r v B' H' h p hr,λ_ _ _ _ _ _ h=>h.elim,λ_ _ _ _ _ _ h=>h.elim,λ_ _ _ _ _ _ _ _ _ h=>h.elim,λ_ _ _ _ _ _ _ _ _ _ h=>h.elim⟩⟩
  unfold qa8 start
  rw[rp.length]
  exact(qih rp).more _
end
end L2
namespace L2
open PySem PySem.Spec PyProof.Rows
section
variable {X:Cx} {EX:St->XK} {K:PySem.W.Frag} {e a b c o:Expr} {te ta tb tc to:TV} {pos p apos cpos:Pos} {x:Str}
def vNeg(ta:TV):TV:=λτ Q=>ta τ λr=>match r.d with
|.int i=>Q (.val (.int (-i)))
|_=>False
theorem qsd(ha:VE X EX a ta):VE X EX (.UnaryOp .USub a pos) (vNeg ta) :=
 let ⟨_,a1,a2⟩:=ha.u;⟨_,q22 q11 a1,λH0 B H τ σ Q Qd s S h xc k=>a2 H0 B H τ σ _ _ s S h (xno λ_ q=>q) λr v B' H' p q h1=>by
  split at h1
  ·rename_i i e
   exact⟨i,q.pk.scal (by rw[e];rfl),k (.val (.int (-i))) _ B' H' p (repV rfl) h1⟩
  ·exact h1.elim⟩
def vIsN(g:Bool->Bool)(rx ry:R)(Q:R->Prop):Prop:=match ry.d with
|.non=>Q (.val (.bl (g (match rx.d with|.non=>true|_=>false))))
|_=>False
theorem qvj{B H:Hp}{r:R}{v:V}(h:Pk K B H r v):decide (v=.non)=(match r.d with|.non=>true|_=>false):=by
 have key:∀d,Rep K B d v->decide (v=.non)=(match d with|.non=>true|_=>false):=λd h=>by
  cases d<;>unfold Rep at h<;>first|(subst h;rfl)|(obtain⟨_,_,rfl,_⟩:=h;rfl)|(obtain⟨_,rfl,_⟩:=h;rfl)
 have key2:∀d,(∃a,v=.ref a/\B a=none/\OwnAt K B H d a)->decide (v=.non)=(match d with|.non=>true|_=>false):=λd ⟨a,e,_,ow⟩=>by
  subst e
  cases d<;>first|rfl|exact ow.elim
 cases r with
|val d=>exact key d h
|own d=>exact key2 d h
|peek d=>exact key2 d h
|exc n=>exact h.elim
theorem qpg:VO X (compareOp .Is) (vIsN id):=by
 refine⟨_,qz7,λB H x y rx ry Q Qd s px py h k=>?_⟩
 unfold vIsN at h
 split at h
 ·rename_i e
  refine⟨py.scal (by rw[e];rfl),?_⟩
  rw[qvj px]
  exact k _ _ B H (.refl s) (repV rfl) h
 ·exact h.elim
theorem quq:VO X (compareOp .IsNot) (vIsN (!·)):=by
 refine⟨_,qw1,λB H x y rx ry Q Qd s px py h k=>?_⟩
 unfold vIsN at h
 split at h
 ·rename_i e
  refine⟨py.scal (by rw[e];rfl),?_⟩
  rw[qvj px]
  exact k _ _ B H (.refl s) (repV rfl) h
 ·exact h.elim
def qio(rd rd':R->R->(R->Prop)->Prop)(ta tb tc:TV):TV:=λτ Q=>ta τ λrx=>exR rx (λ_=>False) <| tb τ λry=>exR ry (λ_=>False) <| rd rx ry λrz=>match rz.d with
|.bl k=>if k=true then tc τ λrw=>exR rw (λ_=>False) (rd' ry rw Q) else Q (.val (.bl false))
|_=>False
theorem qtm:MtM X "str.join" (λx vs H Q=>∃(sep:Str) (l:Addr) (ys:List Str),x=.str sep/\vs=[.ref l]/\SqT X.K H l (ys.map V.str)/\(ys.map (·.length)).sum+ys.length*sep.length<=16777216/\Q (.str (glue sep ys)) H):=by
 intro pins s σ H x vs v us Q I rx rv h
 obtain⟨sep,l,ys,rfl,rfl,hq,hz,q⟩:=h
 obtain⟨t,rfl⟩:=rx
 obtain⟨u,rfl,ru⟩:=rv.one
 cases ru
 obtain⟨its,r,pl,_⟩:=I.tuple hq
 obtain⟨ts,rfl,rfl⟩:=qmv r
 have fit:Builtin.Str.tooLong ((ts.map (·.1)).toArray.foldl (·+·.length+sep.length) 0)=false:=by
  rw[StrLaws.joinTotal]
  unfold Builtin.Str.tooLong
  rw[sizeLine_eq]
  exact decide_eq_false (by lia)
 exact call_meets F.slot_str_join (typeIs_str _ _ _) F.entry_str_join (F.args_str_join_2 _ _) (meets_str_join_tuple sep t l ts fit) ⟨(let ⟨o,h1,h2,n,h3⟩:=pl;⟨o,n,h1,h2,h3⟩),post_join ts ⟨joinFit_length fit,λt' k=>⟨.str (glue sep (ts.map (·.1))),H,I.tok k,⟨t',rfl⟩,q⟩⟩⟩
def qr6(to te:TV):TV:=λτ Q=>to τ λrs=>match rs.d with
|.str sep=>te τ λrl=>∃ys:List Str,(rl.d=.lst (ys.map D.str)\/rl.d=.tup (ys.map D.str))/\(ys.map (·.length)).sum+ys.length*sep.length<=16777216/\Q (.val (.str (glue sep ys)))
|_=>False
theorem qyn(ho:VE X EX o to)(h:VE X EX e te)(hp:qa3 e=true:=by rfl)
  (hbase:attributeBase o "join" X.env (eval o X.env)=eval o X.env:=by rfl) (hline:(apos.endLine==cpos.line)=true:=by rfl):VE X EX (.Call (.Attribute o "join" apos) [e] [] cpos) (qr6 to te) :=
 let ⟨_,o1,o2⟩:=ho.u;let ⟨_,a1,a2⟩:=h.u;⟨_,qbm PySem.F.plainAttrs_str PySem.F.slot_str_join PySem.F.type_str_join (MtR.or qws qtm) o1 (qac a1 qgh hp) (by simp[hp]) rfl hbase hline,λH0 B H τ σ Q Qd s S h xc k =>
  o2 H0 B H τ σ _ _ s S h (xno λ_ q=>q) λrs vs B1 H1 p1 q1 h1=>by
   split at h1
   ·rename_i sep es
    cases q1.pk.scal (z:=.str sep) (by rw[es];rfl)
    refine⟨rfl,a2 H0 B1 H1 τ σ _ _ p1.s (S.step p1) h1 (xno λ_ ⟨_,q,_⟩=>by rcases q with q|q<;>cases q) λrl vl B2 H2 p2 q2 h2=>?_⟩
    obtain⟨ys,el,hz,hq⟩:=h2
    rcases el with el|el
    ·obtain⟨ad,xs,rfl,hx,rx⟩:=q2.pk.lst p2.s el
     exact .inl ⟨sep,ad,ys,rfl,rfl,SqL.of (by rw[hx,rx.strs]),hz,k _ _ B2 H2 (p1.trans p2) (repV rfl) hq⟩
    ·obtain⟨ad,xs,rfl,hx,rx⟩:=q2.pk.tup el
     cases rx.strs
     exact .inr ⟨sep,ad,ys,rfl,rfl,p2.s.sqT hx.sq,hz,k _ _ B2 H2 (p1.trans p2) (repV rfl) hq⟩
   ·exact h1.elim⟩
theorem qua{r r':R2}{rd rd':R->R->(R->Prop)->Prop}{ea eb ec:TE}(hr:RfO K r rd)(hr':RfO K r' rd')(ha:RfE K EX ea ta)(hb:RfE K EX eb tb)(hc:RfE K EX ec tc):RfE K EX (qr2 r r' ea eb ec) (qio rd rd' ta tb tc):=λH0 B H τ σ Q Qd s S h xc k =>
 ha H0 B H τ σ _ _ s S h (xno λ_ q=>q) λrx x B1 H1 p1 q1 h1=>hb H0 B1 H1 τ σ _ _ p1.s (S.step p1) (q1.ok h1) (xno λ_ q=>q) λry y B2 H2 p2 q2 h2 =>
  hr B2 H2 x y rx ry _ _ p2.s (q1.pk.step p2) q2.pk (q2.ok h2) λrz z B3 H3 p3 q3 h3=>by
   split at h3
   ·rename_i kk ek
    refine⟨kk,q3.pk.scal (by rw[ek];rfl),?_⟩
    have p13:=p1.trans (p2.trans p3)
    cases kk with
   |true =>
     rw[if_pos rfl] at h3 ⊢
     exact hc H0 B3 H3 τ σ _ _ p3.s (S.step p13) h3 (xno λ_ q=>q) λrw' w B4 H4 p4 q4 h4=>hr' B4 H4 y w ry rw' _ _ p4.s ((q2.pk.step p3).step p4) q4.pk (q4.ok h4) λr v B5 H5 p5 q5 h5=>k r v B5 H5 (p13.trans (p4.trans p5)) (q5.back (p13.trans p4).h) h5
   |false =>
     rw[if_neg Bool.false_ne_true] at h3 ⊢
     exact k (.val (.bl false)) _ B3 H3 p13 (repV rfl) h3
   ·exact h3.elim
theorem qut{op op':CmpOp}{rd rd':R->R->(R->Prop)->Prop}(hr:VO X (compareOp op) rd)(hr':VO X (compareOp op') rd')(ha:VE X EX a ta)(hb:VE X EX b tb)(hc:VE X EX c tc)(hm:lastMarks [op,op'] [b,c]=false:=by with_unfolding_all rfl) :
  VT X EX (.Compare a [op,op'] [b,c] pos) (vBl (qio rd rd' ta tb tc)) :=
 let ⟨_,r1,r2⟩:=hr.u;let ⟨_,s1,s2⟩:=hr'.u;let ⟨_,a1,a2⟩:=ha.u;let ⟨_,b1,b2⟩:=hb.u;let ⟨_,c1,c2⟩:=hc.u;⟨_,qt7 r1 s1 a1 b1 c1 hm,qrn (qua r2 s2 a2 b2 c2)⟩
def strsOf:List D->Option (List Str)
|[]=>some []
|.str s::ds=>(strsOf ds).map (s::·)
|_::_=>none
theorem qf5(ss:List Str):strsOf (ss.map D.str)=some ss:=by
 induction ss with
|nil=>rfl
|cons s ss ih=>rw[List.map_cons,strsOf,ih];rfl
theorem qho:∀ {ds:List D} {ss:List Str},strsOf ds=some ss->ds=ss.map D.str
|[],ss,h=>by cases h;rfl
|d::ds,ss,h=>by
  cases d<;>first|(unfold strsOf at h;cases h;done)|skip
  rename_i s
  unfold strsOf at h
  cases q:strsOf ds with
 |none=>rw[q] at h;cases h
 |some r =>
   rw[q] at h
   cases h
   rw[qho q]
   rfl
def vIn(g:Bool->Bool)(rx ry:R)(Q:R->Prop):Prop:=match rx.d,ry.d with
|.str x,.str y=>Q (.val (.bl (g (!(Builtin.Str.occurrences y x 0 y.length 1).isEmpty))))
|.str x,.tup ds=>∃ss,strsOf ds=some ss/\Q (.val (.bl (g (decide (x∈ss)))))
|.str x,.lst ds=>∃ss,strsOf ds=some ss/\Q (.val (.bl (g (decide (x∈ss)))))
|.str x,.kt ss=>Q (.val (.bl (g (decide (x∈ss)))))
|_,_=>False
theorem qgn(x:Str):∀(ss:List Str),inV (.str x) (ss.map V.str)=decide (x∈ss)
|[]=>rfl
|y::ss=>by
  have:=qgn x ss
  unfold inV at this ⊢
  rw[List.map_cons,List.any_cons,this]
  apply qce
  rw[Bool.or_eq_true,decide_eq_true_iff,decide_eq_true_iff,List.mem_cons]
  rw[show eqV (V.str y) (V.str x)=(y==x) from rfl,beq_iff_eq]
  exact⟨λh=>h.imp Eq.symm id,λh=>h.imp Eq.symm id⟩
theorem qg8(ss:List Str):(ss.map V.str).all qgj=true:=by rw[List.all_map];simp[qgj]
theorem Pk.kt{B H:Hp}{r:R}{v:V}{ss:List Str}(h:Pk K B H r v)(e:r.d=.kt ss):∃a,v=.ref a/\SqT K (λ_=>none) a (ss.map V.str):=by
 cases r with
|val d =>
  cases (show d=_ from e)
  have h':Rep K B (.kt ss) v:=h
  unfold Rep at h'
  exact h'
|own d=>cases (show d=_ from e);obtain⟨_,_,_,q⟩:=h;exact q.elim
|peek d=>cases (show d=_ from e);obtain⟨_,_,_,q⟩:=h;exact q.elim
|exc n=>exact h.elim
theorem qpf:VO X (compareOp .In) (vIn id):=by
 refine⟨_,op_in_str.or qrb,λB H x y rx ry Q Qd s px py h k=>?_⟩
 unfold vIn at h
 split at h
 ·rename_i u w e1 e2
  exact .inl ⟨u,w,px.scal (by rw[e1];rfl),py.scal (by rw[e2];rfl),k _ _ B H (.refl s) (repV rfl) h⟩
 ·rename_i u ds e1 e2
  obtain⟨ss,hs,q⟩:=h
  cases qho hs
  cases px.scal (z:=.str u) (by rw[e1];rfl)
  obtain⟨a,xs,rfl,h1,r1⟩:=py.tup e2
  cases r1.strs
  have q':Qd (.val (.bl (decide (u∈ss)))):=q
  rw[←qgn] at q'
  exact .inr ⟨a,_,rfl,.inr (s.sqT h1.sq),rfl,qg8 ss,k _ _ B H (.refl s) (repV rfl) q'⟩
 ·rename_i u ds e1 e2
  obtain⟨ss,hs,q⟩:=h
  cases qho hs
  cases px.scal (z:=.str u) (by rw[e1];rfl)
  obtain⟨a,xs,rfl,h1,r1⟩:=py.lst s e2
  cases r1.strs
  have q':Qd (.val (.bl (decide (u∈ss)))):=q
  rw[←qgn] at q'
  exact .inr ⟨a,_,rfl,.inl (SqL.of h1),rfl,qg8 ss,k _ _ B H (.refl s) (repV rfl) q'⟩
 ·rename_i u ss e1 e2
  cases px.scal (z:=.str u) (by rw[e1];rfl)
  obtain⟨a,rfl,h1⟩:=py.kt e2
  have q':Qd (.val (.bl (decide (u∈ss)))):=h
  rw[←qgn] at q'
  exact .inr ⟨a,_,rfl,.inr ((Same.emp H).sqT h1),rfl,qg8 ss,k _ _ B H (.refl s) (repV rfl) q'⟩
 ·exact h.elim
end
end L2
namespace L2
open PySem PySem.Spec PyProof.Rows
theorem v_cut{t u:TVS}{Dv:VEnds}{τ:VSt}(Pv:VSt->Prop)(rest:∀τ,Pv τ->u Dv τ)(now:∀nx:VSt->Prop,(∀τ,Pv τ->nx τ)->t { nx:=nx,rt:=Dv.rt,bk:=Dv.bk,ct:=Dv.ct,xc:=Dv.xc,ro:=Dv.ro } τ):vSeq t u Dv τ:=now (u Dv) rest
section
variable {g:TVG} {tb:TVS} {Dv:VEnds} {τ:VSt}
theorem qwb{ds:List D}(Pv:Nat->VSt->Prop)(h0:Pv 0 τ)(hn:∀(i:Nat) (d:D) (τ:VSt),ds[i]?=some d->Pv i τ->∀nx:VSt->Prop,(∀τ',Pv (i+1) τ'->nx τ')->g d τ λτ'=>tb { nx:=nx,rt:=Dv.rt,bk:=Dv.nx,ct:=nx,xc:=Dv.xc,ro:=Dv.ro } τ')
  (he:∀τ,Pv ds.length τ->Dv.nx τ):forW g tb Dv ds τ:=by
 have key:∀(n i:Nat) (τ:VSt),ds.length-i=n->i<=ds.length->Pv i τ->forW g tb Dv (ds.drop i) τ:=λn=>by
  induction n with
 |zero =>
   intro i τ h1 h2 h3
   have e:i=ds.length:=by lia
   subst e
   rw[List.drop_length]
   exact he τ h3
 |succ n ih =>
   intro i τ h1 h2 h3
   have l:i<ds.length:=by lia
   rw[List.drop_eq_getElem_cons l]
   exact hn i ds[i] τ (List.getElem?_eq_getElem l) h3 _ λτ' h=>ih (i+1) τ' (by lia) (by lia) h
 have:=key ds.length 0 τ (by lia) (Nat.zero_le _) h0
 rw[List.drop_zero] at this
 exact this
theorem qdz{α:Type}{f:α->D}{xs:List α}(Pv:Nat->VSt->Prop)(h0:Pv 0 τ)(hn:∀(i:Nat) (x:α) (τ:VSt),xs[i]?=some x->Pv i τ->∀nx:VSt->Prop,(∀τ',Pv (i+1) τ'->nx τ')->g (f x) τ λτ'=>tb { nx:=nx,rt:=Dv.rt,bk:=Dv.nx,ct:=nx,xc:=Dv.xc,ro:=Dv.ro } τ')
  (he:∀τ,Pv xs.length τ->Dv.nx τ):forW g tb Dv (xs.map f) τ:=by
 refine qwb Pv h0 (λi d τ e=>?_) (by rw[List.length_map];exact he)
 rw[List.getElem?_map] at e
 cases q:xs[i]? with
|none=>rw[q] at e;cases e
|some x =>
  rw[q] at e
  cases e
  exact hn i x τ q
theorem qfk{lo:Int}{n:Nat}(Pv:Nat->VSt->Prop)(h0:Pv 0 τ)(hn:∀(i:Nat) (τ:VSt),i<n->Pv i τ->∀nx:VSt->Prop,(∀τ',Pv (i+1) τ'->nx τ')->g (.int (lo+i)) τ λτ'=>tb { nx:=nx,rt:=Dv.rt,bk:=Dv.nx,ct:=nx,xc:=Dv.xc,ro:=Dv.ro } τ')
  (he:∀τ,Pv n τ->Dv.nx τ):forW g tb Dv (rngL lo n) τ:=by
 unfold rngL
 refine qdz Pv h0 (λi x τ e=>?_) (by rw[List.length_range];exact he)
 by_cases l:i<n
 ·rw[List.getElem?_range l] at e
  cases e
  exact hn i τ l
 ·rw[List.getElem?_eq_none (by rw[List.length_range];lia)] at e
  cases e
end
theorem qh6{α:Type}(xs:List α):xs.filter (λ_=>true)=xs:=List.filter_eq_self.mpr λ_ _=>rfl
section
variable {α:Type} {f:α->D} {τ:VSt} {k:Nat} {g:TVG} {ti:TVT} {te:TV} {Q:R->Prop}
theorem qnd(P:α->D->Prop)(p:α->Bool)(xs:List α)(hz:xs.length<=sizeLine)
  (ok:∀x∈xs,∀(Y:R->Prop) (N:Prop),(p x=true->∀d,P x d->Y (.val d))->(p x=false->N)->g (f x) (τ++List.replicate k none) λτ2=>(τ2.take τ.length=τ/\τ2.length=τ.length+k)/\ti τ2 λb=>if b=true then te τ2 Y else N)
  (fin:∀es:List D,es.length=(xs.filter p).length->(∀(j:Nat) (x:α) (e:D),(xs.filter p)[j]?=some x->es[j]?=some e->P x e)->Q (.own (.lst es))):qgy τ k g ti te Q (xs.map f) []:=by
 have key:∀(ys zs:List α) (acc:List D),xs=zs++ys->acc.length=(zs.filter p).length->(∀(j:Nat) (x:α) (e:D),(zs.filter p)[j]?=some x->acc[j]?=some e->P x e)->qgy τ k g ti te Q (ys.map f) acc:=by
  intro ys
  induction ys with
 |nil =>
   intro zs acc e h1 h2
   rw[List.append_nil] at e
   subst e
   exact fin acc h1 h2
 |cons y ys ih =>
   intro zs acc e h1 h2
   have hl:acc.length<sizeLine:=by
    have h3:=List.length_filter_le p zs
    have h4:xs.length=zs.length+(ys.length+1):=by rw[e,List.length_append,List.length_cons]
    lia
   refine ok y (by rw[e];simp) _ _ (λhp d hd=>⟨hl,ih (zs++[y]) (acc++[d]) (by rw[e];simp) ?_ λj x e' q1 q2=>?_⟩) (λhp=>ih (zs++[y]) acc (by rw[e];simp) ?_ λj x e' q1 q2=>?_)
   ·rw[List.filter_append,List.length_append,List.length_append,h1]
    simp[hp]
   ·rw[List.filter_append] at q1
    have ef:[y].filter p=[y]:=by simp[hp]
    rw[ef] at q1
    by_cases l:j<(zs.filter p).length
    ·rw[List.getElem?_append_left l] at q1
     rw[List.getElem?_append_left (by lia)] at q2
     exact h2 j x e' q1 q2
    ·rw[List.getElem?_append_right (by lia)] at q1
     rw[List.getElem?_append_right (by lia)] at q2
     have ej:j-(zs.filter p).length=0:=by
      have:=(List.getElem?_eq_some_iff.mp q1).1
      simp at this
      lia
     rw[ej] at q1
     rw[h1,ej] at q2
     cases q1
     cases q2
     exact hd
   ·rw[List.filter_append,List.length_append,h1]
    simp[hp]
   ·rw[List.filter_append] at q1
    have ef:[y].filter p=[]:=by simp[hp]
    rw[ef,List.append_nil] at q1
    exact h2 j x e' q1 q2
 exact key xs [] [] rfl rfl (λj x e q=>by simp at q)
theorem qlo(h:α->D)(p:α->Bool)(xs:List α)(hz:xs.length<=sizeLine)
  (ok:∀x∈xs,∀(Y:R->Prop) (N:Prop),(p x=true->Y (.val (h x)))->(p x=false->N)->g (f x) (τ++List.replicate k none) λτ2=>(τ2.take τ.length=τ/\τ2.length=τ.length+k)/\ti τ2 λb=>if b=true then te τ2 Y else N)
  (fin:Q (.own (.lst ((xs.filter p).map h)))):qgy τ k g ti te Q (xs.map f) []:=by
 refine qnd (λx d=>d=h x) p xs hz (λx hx Y N h1 h2=>ok x hx Y N (λz=>h1 z _ rfl) h2) λes hl he=>?_
 have:es=(xs.filter p).map h:=List.ext_getElem (by rw[hl,List.length_map]) λj h1 h2=>by
  rw[List.length_map] at h2
  rw[List.getElem_map]
  exact he j _ _ (List.getElem?_eq_getElem h2) (List.getElem?_eq_getElem h1)
 rw[this]
 exact fin
theorem qiy(h:α->D)(xs:List α)(hz:xs.length<=sizeLine)
  (ok:∀x∈xs,∀(Y:R->Prop) (N:Prop),Y (.val (h x))->g (f x) (τ++List.replicate k none) λτ2=>(τ2.take τ.length=τ/\τ2.length=τ.length+k)/\ti τ2 λb=>if b=true then te τ2 Y else N)
  (fin:Q (.own (.lst (xs.map h)))):qgy τ k g ti te Q (xs.map f) []:=by
 refine qlo h (λ_=>true) xs hz (λx hx Y N h1 _=>ok x hx Y N (h1 rfl)) ?_
 rw[qh6]
 exact fin
end
def wayD(ws:List Str):D:=.tup (ws.map D.str)
theorem qnc:∀(ss ts:List Str),qcf (ss.map D.str) (ts.map D.str)=true
|[],_=>by unfold qcf;rfl
|_::_,[]=>by unfold qcf;rfl
|s::ss,t::ts=>by
  show qcf (.str s::ss.map D.str) (.str t::ts.map D.str)=true
  unfold qcf
  rw[qnc ss ts]
  rfl
theorem qi0:∀(ss:List Str),qb3 (ss.map D.str)=0
|[]=>rfl
|s::ss=>by
  show qb3 (.str s::ss.map D.str)=0
  unfold qb3
  rw[qi0 ss]
  rfl
theorem qmb{ss ts:List Str}(h:ss.map D.str=ts.map D.str):ss=ts:=by
 induction ss generalizing ts with
|nil=>cases ts with
 |nil=>rfl
 |cons t ts=>cases h
|cons s ss ih=>cases ts with
 |nil=>cases h
 |cons t ts =>
   injection h with h1 h2
   injection h1 with h1
   rw[h1,ih h2]
theorem eq_int(i j:Int):eqD (.int i) (.int j)=decide (i=j):=qce (by
 rw[eqD_iff,decide_eq_true_iff]
 exact⟨λh=>D.int.inj h,λh=>h▸rfl⟩)
theorem eq_str(i j:Str):eqD (.str i) (.str j)=decide (i=j):=qce (by
 rw[eqD_iff,decide_eq_true_iff]
 exact⟨λh=>D.str.inj h,λh=>h▸rfl⟩)
theorem qp3(i j:Int):cmpD (.int i) (.int j)=true:=rfl
theorem qln(i j:Str):cmpD (.str i) (.str j)=true:=rfl
theorem qqd(i:Int):depD (.int i)=0:=rfl
theorem qqe(i:Str):depD (.str i)=0:=rfl
theorem qb2{α β:Type}(f:α->β)(xs:List α)(k:Int):atI (xs.map f) k=(atI xs k).map f:=by
 unfold atI
 rw[List.length_map]
 cases ixN xs.length k with
|none=>rfl
|some j=>simp
theorem qiz{α β:Type}(f:α->β)(xs:List α)(lo hi:Option Int):cutL (xs.map f) lo hi=(cutL xs lo hi).map f:=by
 unfold cutL
 rw[List.length_map,List.map_take,List.map_drop]
theorem quj{K:PySem.W.Frag}{H:Hp}{a:Addr}{ns:List Int}{g:DP}(h:g [.scr ns] (λr=>r=.val (.bl true)))(hS:SqL K H a (ns.map V.int)){E:XK}:spOf K g [.ref a] H (λv _=>v=.bl true) E :=
 ⟨[.scr ns],H,_,Same.refl H,.one (by unfold Rep;exact⟨a,rfl,hS⟩),h,(λn C B' H' e _ _=>by cases e),λr v B' H' e p rr=>by
  subst e
  have rr':Rep K B' (.bl true) v:=rr
  unfold Rep at rr'
  exact rr'⟩
theorem qfl(ss ts:List Str):(ss.map D.str=ts.map D.str)=(ss=ts):=propext ⟨qmb,λh=>h▸rfl⟩
theorem qhh(ss ts:List Int):(ss.map D.int=ts.map D.int)=(ss=ts):=propext ⟨λh=>by
 induction ss generalizing ts with
|nil=>cases ts with
 |nil=>rfl
 |cons t ts=>cases h
|cons s ss ih=>cases ts with
 |nil=>cases h
 |cons t ts =>
   injection h with h1 h2
   injection h1 with h1
   rw[h1,ih _ h2],λh=>h▸rfl⟩
theorem qnp{α:Type}(f:α->D)(xs:List α)(x:α):xs.map f++[f x]=(xs++[x]).map f:=by rw[List.map_append];rfl
theorem qn2(xs:List Str)(x:Str):xs.map D.str++[.str x]=(xs++[x]).map D.str:=qnp _ xs x
theorem qn1(xs:List Int)(x:Int):xs.map D.int++[.int x]=(xs++[x]).map D.int:=qnp _ xs x
theorem qp0(xs ys:List Str):xs.map D.str++ys.map D.str=(xs++ys).map D.str:=(List.map_append ..).symm
theorem qng(xs:List Str):(xs.map D.str).dropLast=xs.dropLast.map D.str:=by
 rw[←qg2,←qg2,qiz]
theorem qmn(d:D)(Q:D->Prop):pubR (.val d) Q=Q d:=rfl
theorem qmm(d:D)(Q:D->Prop):pubR (.own d) Q=Q d:=rfl
theorem qn6(k:Nat)(xs:List Str):(xs.map D.str).take k=(xs.take k).map D.str:=(List.map_take ..).symm
theorem qj8(k:Nat)(xs:List Str):(xs.map D.str).drop k=(xs.drop k).map D.str:=(List.map_drop ..).symm
theorem qpx{α:Type}(xs:List α)(n:Nat):atI xs (no_index (OfNat.ofNat n:Int))=xs[n]?:=by
 show atI xs (n:Int)=xs[n]?
 unfold atI ixN
 rw[if_pos (by lia)]
 by_cases h:(n:Int)<xs.length
 ·rw[if_pos h]
  simp
 ·rw[if_neg h]
  simp
  lia
theorem qm8{α:Type}(xs:List α):atI xs (-1)=xs.getLast?:=by
 unfold atI ixN
 rw[if_neg (by decide)]
 cases xs with
|nil=>rfl
|cons x xs =>
  rw[if_pos (by rw[List.length_cons];lia)]
  rw[List.getLast?_eq_getElem?]
  show (x::xs)[(-1+((x::xs).length:Int)).toNat]?=_
  congr 1
  lia
theorem qqn(d:D)(Q:R->Prop)(k:Prop):exR (.val d) Q k=k:=rfl
theorem qqm(d:D)(Q:R->Prop)(k:Prop):exR (.own d) Q k=k:=rfl
theorem qlz(d:D)(Q:R->Prop)(k:Prop):exR (.peek d) Q k=k:=rfl
theorem qql(n:Str)(Q:R->Prop)(k:Prop):exR (.exc n) Q k=Q (.exc n):=rfl
theorem qlu(d:D)(Q:AR->Prop)(k:Prop):excA (.val d) Q k=k:=rfl
theorem qlt(d:D)(Q:AR->Prop)(k:Prop):excA (.own d) Q k=k:=rfl
theorem qi3(d:D)(Q:AR->Prop)(k:Prop):excA (.peek d) Q k=k:=rfl
theorem qls(n:Str)(Q:AR->Prop)(k:Prop):excA (.exc n) Q k=Q (.exc n):=rfl
theorem qly(τ:VSt)(Dv:VEnds)(d:D)(k:Prop):exS τ Dv (.val d) k=k:=rfl
theorem qlx(τ:VSt)(Dv:VEnds)(d:D)(k:Prop):exS τ Dv (.own d) k=k:=rfl
theorem qi4(τ:VSt)(Dv:VEnds)(d:D)(k:Prop):exS τ Dv (.peek d) k=k:=rfl
theorem qlw(τ:VSt)(Dv:VEnds)(n:Str)(k:Prop):exS τ Dv (.exc n) k=Dv.xc τ n:=rfl
theorem qqj(ds:List D)(Q:R->Prop)(k:List D->Prop):exA (.ok ds) Q k=k ds:=rfl
theorem qg7(n:Str)(Q:R->Prop)(k:List D->Prop):exA (.exc n) Q k=Q (.exc n):=rfl
theorem qqk(τ:VSt)(Dv:VEnds)(ds:List D)(k:List D->Prop):exI τ Dv (.ok ds) k=k ds:=rfl
theorem qlv(τ:VSt)(Dv:VEnds)(n:Str)(k:List D->Prop):exI τ Dv (.exc n) k=Dv.xc τ n:=rfl
theorem qme(d:D)(ds:List D):qwq d (.ok ds)=.ok (d::ds):=rfl
theorem qjd(d:D)(n:Str):qwq d (.exc n)=.exc n:=rfl
theorem qrl(d:D):(R.val d).d=d:=rfl
theorem qrk(d:D):(R.own d).d=d:=rfl
theorem qmp(d:D):(R.peek d).d=d:=rfl
theorem qrj(n:Str):(R.exc n).d=.scr []:=rfl
theorem qgl{t u:TVS}{Dv:VEnds}{τ:VSt}(h:t { nx:=u Dv,rt:=Dv.rt,bk:=Dv.bk,ct:=Dv.ct,xc:=Dv.xc,ro:=Dv.ro } τ):vSeq t u Dv τ:=h
end L2
namespace L2
open PySem PySem.Spec PyProof.Rows
def lkD:List (List Str)->List D->List Str->Option D
|k::ks,d::ds,w=>if k=w then some d else lkD ks ds w
|_,_,_=>none
def lkK:List Str->List D->Str->Option D
|k::ks,d::ds,w=>if k=w then some d else lkK ks ds w
|_,_,_=>none
def rpD:List (List Str)->List D->List Str->D->List D
|k::ks,e::ds,w,d=>(if k=w then d else e)::rpD ks ds w d
|_,_,_,_=>[]
def putD(ks:List (List Str))(ds:List D)(w:List Str)(d:D):D:=if w∈ks then .dT ks (rpD ks ds w d) else .dT (ks++[w]) (ds++[d])
theorem qhq{a b:List Str}(h:wK a=wK b):a=b:=by
 unfold wK at h
 induction a generalizing b with
|nil=>cases b with
 |nil=>rfl
 |cons _ _=>cases h
|cons x a ih=>cases b with
 |nil=>cases h
 |cons y b =>
   injection h with h1 h2
   injection h1 with h1
   rw[h1,ih h2]
theorem qm2(w:List Str):(wK w).map kV=w.map V.str:=by
 unfold wK
 rw[List.map_map]
 rfl
section
variable {K:PySem.W.Frag} {B H:Hp} {d:D} {r:R} {v:V}
theorem DGet.tR{H:Hp}{a b:Addr}{kvs:List (List Key×V)}{k:List Key}(e:Rd H a (.dT kvs))(eb:H b=some (.tup (k.map kV))):DGet H a (.ref b) (valV kvs k):=.inr ⟨kvs,k,b,e,rfl,eb,rfl⟩
theorem Pk.dT{ks:List (List Str)}{ds:List D}(s:Same B H)(h:Pk K B H r v)(e:r.d=.dT ks ds):∃a kvs,v=.ref a/\Rd H a (.dT kvs)/\kvs.map (·.1)=ks.map wK/\Reps K B ds (kvs.map (·.2)):=by
 cases r with
|val d =>
  cases (show d=_ from e)
  have h':Rep K B (.dT ks ds) v:=h
  unfold Rep at h'
  obtain⟨a,xs,rfl,q,k,rp⟩:=h'
  exact⟨a,xs,rfl,q.elim (λq=>.inl (s _ _ q)) λ⟨o,q⟩=>.inr ⟨o,s _ _ q⟩,k,rp⟩
|own d=>cases (show d=_ from e);obtain⟨a,rfl,_,xs,q,k,rp⟩:=h;exact⟨a,xs,rfl,.inl q,k,rp⟩
|peek d=>cases (show d=_ from e);obtain⟨a,rfl,_,xs,q,k,rp⟩:=h;exact⟨a,xs,rfl,.inl q,k,rp⟩
|exc n=>exact h.elim
theorem Pk.dK{ks:List Str}{ds:List D}(s:Same B H)(h:Pk K B H r v)(e:r.d=.dK ks ds):∃a kvs,v=.ref a/\H a=some (.dK kvs)/\kvs.map (·.1)=ks.map Sum.inr/\Reps K B ds (kvs.map (·.2)):=by
 cases r with
|val d =>
  cases (show d=_ from e)
  have h':Rep K B (.dK ks ds) v:=h
  unfold Rep at h'
  obtain⟨a,xs,rfl,q,k,rp⟩:=h'
  exact⟨a,xs,rfl,s _ _ q,k,rp⟩
|own d=>cases (show d=_ from e);obtain⟨a,rfl,_,xs,q,k,rp⟩:=h;exact⟨a,xs,rfl,q,k,rp⟩
|peek d=>cases (show d=_ from e);obtain⟨a,rfl,_,xs,q,k,rp⟩:=h;exact⟨a,xs,rfl,q,k,rp⟩
|exc n=>exact h.elim
theorem qv6{w:List Str}(t:w.map D.str=[.str "folder",.str ""]):w=(["folder",""]:List Str):=by
 cases w with
|nil=>cases t
|cons x w =>
  cases w with
 |nil=>cases t
 |cons y w =>
   cases w with
  |nil =>
    simp only[List.map_cons,List.map_nil,List.cons.injEq,D.str.injEq,and_true] at t
    rw[t.1,t.2]
  |cons z w=>cases t
theorem Pk.wayN{w:List Str}(h:Pk K B H r v)(e:r.d=.tup (w.map D.str))(n:w≠(["folder",""]:List Str)):∃a,v=.ref a/\B a=some (.tup (w.map V.str)):=by
 obtain⟨a,xs,rfl,t,rp⟩:=h.tup e
 refine⟨a,rfl,?_⟩
 rw[←rp.strs]
 rcases t with t|⟨_,t⟩
 ·exact t
 ·exact absurd (qv6 t) n
theorem Pk.way{w:List Str}(h:Pk K B H r v)(e:r.d=.tup (w.map D.str))(n:("" : Str)∉w):∃a,v=.ref a/\B a=some (.tup (w.map V.str)):=h.wayN e λq=>n (by rw[q];simp)
theorem qnm:∀ {ks:List (List Str)} {ds:List D} {kvs:List (List Key×V)} (w:List Str),kvs.map (·.1)=ks.map wK->Reps K B ds (kvs.map (·.2))->(lkD ks ds w=none/\valV kvs (wK w)=none)\/∃d v,lkD ks ds w=some d/\valV kvs (wK w)=some v/\Rep K B d v
|[],ds,kvs,w,h1,h2=>by
  have e:kvs=[]:=by simpa using h1
  subst e
  exact .inl ⟨by unfold lkD;rfl,rfl⟩
|k::ks,ds,[],w,h1,h2=>by cases h1
|k::ks,[],p::kvs,w,h1,h2=>by
  unfold Reps at h2
  cases h2
|k::ks,d::ds,p::kvs,w,h1,h2=>by
  injection h1 with e1 e2
  have e1:p.1=wK k:=e1
  unfold Reps at h2
  obtain⟨x,r,q,r1,r2⟩:=h2
  injection q with q1 q2
  subst q1 q2
  unfold lkD
  by_cases e:k=w
  ·rw[if_pos e,qfw (by rw[e1,e])]
   exact .inr ⟨d,p.2,rfl,rfl,r1⟩
  ·rw[if_neg e,qfv (λz=>e (qhq (e1.symm.trans z)))]
   exact qnm w e2 r2
theorem qja:∀ {ks:List Str} {ds:List D} {kvs:List (Key×V)} (w:Str),kvs.map (·.1)=ks.map Sum.inr->Reps K B ds (kvs.map (·.2))->(lkK ks ds w=none/\valV kvs (Sum.inr w)=none)\/∃d v,lkK ks ds w=some d/\valV kvs (Sum.inr w)=some v/\Rep K B d v
|[],ds,kvs,w,h1,h2=>by
  have e:kvs=[]:=by simpa using h1
  subst e
  exact .inl ⟨by unfold lkK;rfl,rfl⟩
|k::ks,ds,[],w,h1,h2=>by cases h1
|k::ks,[],p::kvs,w,h1,h2=>by
  unfold Reps at h2
  cases h2
|k::ks,d::ds,p::kvs,w,h1,h2=>by
  injection h1 with e1 e2
  have e1:p.1=Sum.inr k:=e1
  unfold Reps at h2
  obtain⟨x,r,q,r1,r2⟩:=h2
  injection q with q1 q2
  subst q1 q2
  unfold lkK
  by_cases e:k=w
  ·rw[if_pos e,qfw (by rw[e1,e])]
   exact .inr ⟨d,p.2,rfl,rfl,r1⟩
  ·rw[if_neg e,qfv (λz=>e (Sum.inr.inj (e1.symm.trans z)))]
   exact qja w e2 r2
theorem qxo{ks:List (List Str)}{ds:List D}{kvs:List (List Key×V)}(w:List Str){d:D}{v:V}(h1:kvs.map (·.1)=ks.map wK)(h2:Reps K B ds (kvs.map (·.2)))(hd:Rep K B d v) :
  ∃ks' ds',putD ks ds w d=.dT ks' ds'/\(putK kvs (wK w) v).map (·.1)=ks'.map wK/\Reps K B ds' ((putK kvs (wK w) v).map (·.2)):=by
 have hany:(kvs.any λkv=>decide (kv.1=wK w))=decide (w∈ks):=by
  apply qce
  rw[List.any_eq_true,decide_eq_true_iff]
  constructor
  ·rintro⟨p,hp,e⟩
   have:p.1∈kvs.map (·.1):=List.mem_map_of_mem hp
   rw[h1,of_decide_eq_true e] at this
   obtain⟨k,hk,ek⟩:=List.mem_map.mp this
   rw[←qhq ek]
   exact hk
  ·intro hw
   have:wK w∈kvs.map (·.1):=by rw[h1];exact List.mem_map_of_mem hw
   obtain⟨p,hp,e⟩:=List.mem_map.mp this
   exact⟨p,hp,decide_eq_true e⟩
 unfold putD putK
 rw[hany]
 by_cases hw:w∈ks
 ·rw[if_pos hw,if_pos (decide_eq_true hw)]
  refine⟨ks,_,rfl,?_,?_⟩
  ·rw[←h1,List.map_map]
   refine List.map_congr_left λp _=>?_
   show (if p.1=wK w then (p.1,v) else p).1=p.1
   split<;>rfl
  ·clear hany hw
   induction kvs generalizing ks ds with
  |nil =>
    have e:ks=[]:=by simpa using h1.symm
    subst e
    unfold rpD
    exact .nil
  |cons p kvs ih =>
    cases ks with
   |nil=>cases h1
   |cons k ks =>
     cases ds with
    |nil=>unfold Reps at h2;cases h2
    |cons e ds =>
      injection h1 with e1 e2
      have e1:p.1=wK k:=e1
      unfold Reps at h2
      obtain⟨x,r,q,r1,r2⟩:=h2
      injection q with q1 q2
      subst q1 q2
      unfold rpD
      refine .cons ?_ (ih e2 r2)
      by_cases ek:k=w
      ·rw[if_pos ek]
       show Rep K B d (if p.1=wK w then (p.1,v) else p).2
       rw[if_pos (by rw[e1,ek])]
       exact hd
      ·rw[if_neg ek]
       show Rep K B e (if p.1=wK w then (p.1,v) else p).2
       rw[if_neg (λz=>ek (qhq (e1.symm.trans z)))]
       exact r1
 ·rw[if_neg hw,if_neg (by simpa using hw)]
  refine⟨_,_,rfl,?_,?_⟩
  ·rw[List.map_append,List.map_append,h1]
   rfl
  ·rw[List.map_append]
   exact h2.append (.one hd)
end
section
variable {X:Cx} {EX:St->XK} {e a o i:Expr} {te ta to ti:TV} {pos pos' p p2 apos cpos:Pos} {x:Str} {f:Expr} {tf:TV}
def qf7(to ti:TV):TV:=λτ Q=>to τ λrx=>exR rx (λ_=>False) <| ti τ λry=>match rx.d,ry.d with
|.dT ks ds,.tup es=>∃w d,es=w.map D.str/\("" : Str)∉w/\lkD ks ds w=some d/\Q (.val d)
|.dK ks ds,.str z=>∃d,lkK ks ds z=some d/\Q (.val d)
|_,_=>False
theorem qem(hu:X.A.units+64<cLine)(ho:VE X EX o to)(hi:VE X EX i ti)(hs:NoSl i:=by exact λ_ _=>rfl):VE X EX (.Subscript o i pos) (qf7 to ti) :=
 let ⟨_,a1,a2⟩:=ho.u;let ⟨_,b1,b2⟩:=hi.u;⟨_,qxt (by lia) a1 b1 hs,λH0 B H τ σ Q Qd s S h xc k=>a2 H0 B H τ σ _ _ s S h (xno λ_ q=>q) λrx x B1 H1 p1 q1 h1=>b2 H0 B1 H1 τ σ _ _ p1.s (S.step p1) (q1.ok h1) (xno λ_ q=>by revert q;cases rx.d<;>exact λz=>z) λry y B2 H2 p2 q2 h2=>by
  have px:=q1.pk.step p2
  split at h2
  ·rename_i ks ds es e1 e2
   obtain⟨w,d,rfl,hn,hl,hq⟩:=h2
   obtain⟨ad,kvs,rfl,hd,hk,hr⟩:=px.dT p2.s e1
   obtain⟨b,rfl,hb⟩:=q2.pk.way e2 hn
   rcases qnm w hk hr with ⟨z,_⟩|⟨d',v,z,hv,rp⟩
   ·rw[z] at hl;cases hl
   ·rw[z] at hl;cases hl
    exact⟨ad,v,rfl,hv▸DGet.tR hd (by rw[qm2];exact p2.s _ _ hb),k (.val d) _ B2 H2 (p1.trans p2) rp hq⟩
  ·rename_i ks ds z e1 e2
   obtain⟨d,hl,hq⟩:=h2
   obtain⟨ad,kvs,rfl,hd,hk,hr⟩:=px.dK p2.s e1
   cases q2.pk.scal (z:=.str z) (by rw[e2];rfl)
   rcases qja z hk hr with ⟨w,_⟩|⟨d',v,w,hv,rp⟩
   ·rw[w] at hl;cases hl
   ·rw[w] at hl;cases hl
    exact⟨ad,v,rfl,hv▸DGet.k (k:=Sum.inr z) hd,k (.val d) _ B2 H2 (p1.trans p2) rp hq⟩
  ·exact h2.elim⟩
def vDIn(g:Bool->Bool)(ti to:TV):TV:=λτ Q=>ti τ λry=>exR ry (λ_=>False) <| to τ λrx=>match rx.d,ry.d with
|.dT ks ds,.tup es=>∃w,es=w.map D.str/\("" : Str)∉w/\Q (.val (.bl (g (lkD ks ds w).isSome)))
|.dK ks ds,.str z=>Q (.val (.bl (g (lkK ks ds z).isSome)))
|_,_=>False
theorem qq0{K:PySem.W.Frag}{B:Hp}{ks:List (List Str)}{ds:List D}{kvs:List (List Key×V)}(w:List Str)(h1:kvs.map (·.1)=ks.map wK)(h2:Reps K B ds (kvs.map (·.2))):(valV kvs (wK w)).isSome=(lkD ks ds w).isSome:=by
 rcases qnm w h1 h2 with ⟨z,y⟩|⟨d',v,z,y,_⟩<;>rw[z,y]<;>rfl
theorem qov{K:PySem.W.Frag}{B:Hp}{ks:List Str}{ds:List D}{kvs:List (Key×V)}(w:Str)(h1:kvs.map (·.1)=ks.map Sum.inr)(h2:Reps K B ds (kvs.map (·.2))):(valV kvs (Sum.inr w)).isSome=(lkK ks ds w).isSome:=by
 rcases qja w h1 h2 with ⟨z,y⟩|⟨d',v,z,y,_⟩<;>rw[z,y]<;>rfl
theorem qro{K:PySem.W.Frag}{eo ei:TE}(g:Bool->Bool)(ho:RfE K EX eo to)(hi:RfE K EX ei ti):RfE K EX (λσ H Q=>ei σ H λy H1=>eo σ H1 λx H2=>∃a o,x=.ref a/\DGet H2 a y o/\Q (.bl (g o.isSome)) H2) (vDIn g ti to):=λH0 B H τ σ Q Qd s S h xc k =>
 hi H0 B H τ σ _ _ s S h (xno λ_ q=>q) λry y B1 H1 p1 q1 h1=>ho H0 B1 H1 τ σ _ _ p1.s (S.step p1) (q1.ok h1) (xno λ_ q=>q) λrx x B2 H2 p2 q2 h2=>by
  have py:=q1.pk.step p2
  split at h2
  ·rename_i ks ds es e1 e2
   obtain⟨w,rfl,hn,hq⟩:=h2
   obtain⟨ad,kvs,rfl,hd,hk,hr⟩:=q2.pk.dT p2.s e1
   obtain⟨b,rfl,hb⟩:=py.way e2 hn
   refine⟨ad,_,rfl,DGet.tR (k:=wK w) hd (by rw[qm2];exact p2.s _ _ hb),?_⟩
   rw[qq0 w hk hr]
   exact k _ _ B2 H2 (p1.trans p2) (repV rfl) hq
  ·rename_i ks ds z e1 e2
   obtain⟨ad,kvs,rfl,hd,hk,hr⟩:=q2.pk.dK p2.s e1
   cases py.scal (z:=.str z) (by rw[e2];rfl)
   refine⟨ad,_,rfl,DGet.k (k:=Sum.inr z) hd,?_⟩
   rw[qov z hk hr]
   exact k _ _ B2 H2 (p1.trans p2) (repV rfl) h2
  ·exact h2.elim
theorem qsc(hu:X.A.units+64<cLine)(hi:VE X EX i ti)(ho:VE X EX o to)(hm:behindInMarks .NotIn o=false:=by with_unfolding_all rfl):VE X EX (.Compare i [.NotIn] [o] pos) (vDIn (!·) ti to) :=
 let ⟨_,a1,a2⟩:=ho.u;let ⟨_,b1,b2⟩:=hi.u;⟨_,qrh (by lia) b1 a1 hm,qro (!·) a2 b2⟩
theorem qoc(hu:X.A.units+64<cLine)(hi:VE X EX i ti)(ho:VE X EX o to)(hm:behindInMarks .In o=false:=by with_unfolding_all rfl):VT X EX (.Compare i [.In] [o] pos) (vBl (vDIn id ti to)) :=
 let ⟨_,a1,a2⟩:=ho.u;let ⟨_,b1,b2⟩:=hi.u;⟨_,q1b (by lia) b1 a1 hm,qrn (qro id a2 b2)⟩
theorem qk7(hu:X.A.units+64<cLine)(hi:VE X EX i ti)(ho:VE X EX o to)(hm:behindInMarks .NotIn o=false:=by with_unfolding_all rfl):VT X EX (.Compare i [.NotIn] [o] pos) (vBl (vDIn (!·) ti to)) :=
 let ⟨_,a1,a2⟩:=ho.u;let ⟨_,b1,b2⟩:=hi.u;⟨_,qri (by lia) b1 a1 hm,qrn (qro (!·) a2 b2)⟩
def qip(to ti:TV):TV:=λτ Q=>to τ λrx=>match rx.d with
|.dT ks ds=>ti τ λry=>∃w,ry.d=.tup (w.map D.str)/\("" : Str)∉w/\Q (.val ((lkD ks ds w).getD .non))
|.dK ks ds=>ti τ λry=>∃z,ry.d=.str z/\Q (.val ((lkK ks ds z).getD .non))
|_=>False
theorem qn9(hu:X.A.units+64<cLine)(ho:VE X EX o to)(hi:VE X EX e ti)(m:M1 X o "get" apos e cpos:=by exact⟨rfl,rfl,rfl,rfl⟩):VE X EX (.Call (.Attribute o "get" apos) [e] [] cpos) (qip to ti) :=
 let ⟨_,a1,a2⟩:=ho.u;let ⟨_,b1,b2⟩:=hi.u;⟨_,qt0 (by lia) a1 b1 m,λH0 B H τ σ Q Qd s S h xc k=>a2 H0 B H τ σ _ _ s S h (xno λ_ q=>q) λrx x B1 H1 p1 q1 h1=>by
  split at h1
  ·rename_i ks ds e1
   obtain⟨ad,kvs,rfl,hd,_,_⟩:=q1.pk.dT p1.s e1
   refine⟨ad,rfl,.inr ⟨kvs,hd⟩,b2 H0 B1 H1 τ σ _ _ p1.s (S.step p1) h1 (xno λ_ ⟨_,q,_⟩=>by cases q) λry y B2 H2 p2 q2 h2=>?_⟩
   obtain⟨w,e2,hn,hq⟩:=h2
   obtain⟨ad',kvs',ea,hd',hk,hr⟩:=(q1.pk.step p2).dT p2.s e1
   cases ea
   obtain⟨b,rfl,hb⟩:=q2.pk.way e2 hn
   refine⟨_,DGet.tR (k:=wK w) hd' (by rw[qm2];exact p2.s _ _ hb),?_⟩
   rcases qnm w hk hr with ⟨z,y⟩|⟨d',v,z,y,rp⟩
   ·rw[y];rw[z] at hq
    exact k (.val .non) _ B2 H2 (p1.trans p2) (repV rfl) hq
   ·rw[y];rw[z] at hq
    exact k (.val d') _ B2 H2 (p1.trans p2) rp hq
  ·rename_i ks ds e1
   obtain⟨ad,kvs,rfl,hd,_,_⟩:=q1.pk.dK p1.s e1
   refine⟨ad,rfl,.inl ⟨kvs,.inl hd⟩,b2 H0 B1 H1 τ σ _ _ p1.s (S.step p1) h1 (xno λ_ ⟨_,q,_⟩=>by cases q) λry y B2 H2 p2 q2 h2=>?_⟩
   obtain⟨w,e2,hq⟩:=h2
   obtain⟨ad',kvs',ea,hd',hk,hr⟩:=(q1.pk.step p2).dK p2.s e1
   cases ea
   cases q2.pk.scal (z:=.str w) (by rw[e2];rfl)
   refine⟨_,DGet.k (k:=Sum.inr w) hd',?_⟩
   rcases qja w hk hr with ⟨z,y⟩|⟨d',v,z,y,rp⟩
   ·rw[y];rw[z] at hq
    exact k (.val .non) _ B2 H2 (p1.trans p2) (repV rfl) hq
   ·rw[y];rw[z] at hq
    exact k (.val d') _ B2 H2 (p1.trans p2) rp hq
  ·exact h1.elim⟩
def qfj:TV:=λ_ Q=>Q (.own (.dT [] []))
theorem qfd:VE X EX (.Dict [] [] pos) qfj:=⟨_,qt1,λ_ B H _ _ _ _ s _ h _ k p hp=>k (.own (.dT [] [])) _ B _ (.grow s (qax hp _)) ⟨p,rfl,hp,s.free hp,[],qbp,rfl,.nil⟩ h⟩
def ownT(τ:VSt)(i:Nat)(Q:List (List Str)->List D->Prop):Prop:=match τ[i]? with
|some (some (.own (.dT ks ds)))=>Q ks ds
|_=>False
theorem qw4{τ:VSt}{i:Nat}{Q:List (List Str)->List D->Prop}(h:ownT τ i Q):∃ks ds,τ[i]?=some (some (.own (.dT ks ds)))/\Q ks ds:=by
 unfold ownT at h
 split at h
 ·exact⟨_,_,by assumption,h⟩
 ·exact h.elim
def qf8(i:Nat)(tk te:TV):TVS:=λDv τ=>ownT τ i λks ds=>te τ λr=>exS τ Dv r <| pubR r λd=>tk τ λrk=>match rk.d with
|.tup es=>∃w,es=w.map D.str/\("" : Str)∉w/\ks.length<sizeLine/\Dv.nx (τ.set i (some (.own (putD ks ds w d))))
|_=>False
theorem qen{ek:Expr}{tk:TV}(i:Nat)(hu:X.A.units+64<cLine)(hk:VE X EX ek tk)(h:VE X EX e te)(hN:X.N[i]?=some x:=by rfl)(hv:Vis X.env.scope x:=by first|exact Or.inl rfl|exact Or.inr (Or.inl rfl)|exact Or.inr (Or.inr rfl))(hd:(x==("__debug__" : Str))=false:=by decide)
  (hcd:(x==("__classdict__" : Str))=false:=by decide) (hs:swapsWith e (some (.Subscript (.Name x p) ek p2)) pos.line X.env=pure false:=by rfl):VS X EX (.Assign [.Subscript (.Name x p) ek p2] e pos) (qf8 i tk te) :=
 let ⟨_,a1,a2⟩:=h.u;let ⟨_,b1,b2⟩:=hk.u;⟨_,qxz (by lia) (qv i hN hv hd hcd) b1 a1 hs,λB0 H0 B H τ σ Dv Dh p S h E=>by
  obtain⟨ks,ds,e1,h⟩:=qw4 h
  obtain⟨ad,e2,_,_,_⟩:=S.own i _ e1
  refine a2 H0 B H τ σ _ _ p.s S h (E.raised p S) λr v B' H' q hr hq=>?_
  obtain⟨d,B2,q2,_,rp,hn⟩:=pub q hr (hr.okS hq)
  refine⟨.ref ad,e2,b2 H0 B2 H' τ σ _ _ q2.s (S.step q2) hn (xno λ_ q=>q) λrk vk B3 H3 q3 hk hh=>?_⟩
  split at hh
  ·rename_i es ek
   obtain⟨w,rfl,hne,hz,hn⟩:=hh
   obtain⟨b,rfl,hb⟩:=hk.pk.way ek hne
   have qq:=q2.trans q3
   have S3:=S.step qq
   obtain⟨a',f1,h0,hbb,kvs,f4,f5,f6⟩:=S3.own i _ e1
   rw[e2] at f1
   cases f1
   have hl:kvs.length<sizeLine:=by
    have:kvs.length=ks.length:=by simpa using congrArg List.length f5
    lia
   refine⟨ad,_,rfl,DPut.t (k:=wK w) f4 (by rw[qm2];exact q3.s _ _ hb) hl,?_⟩
   obtain⟨ks',ds',ep,g1,g2⟩:=qxo w f5 f6 (rp.same q3.b)
   rw[ep] at hn
   exact E.nx B3 _ _ σ ((p.trans qq).upd h0 hbb) (S3.upd (d:=.dT ks' ds') e1 e2 ⟨_,qbp,g1,g2⟩) hn
  ·exact hh.elim⟩
end
def qap(kds:List (List Str×D)):D:=.dT (kds.map (·.1)) (kds.map (·.2))
def lkP(kds:List (List Str×D))(w:List Str):Option D:=(kds.find? λp=>decide (p.1=w)).map (·.2)
def insP(kds:List (List Str×D))(w:List Str)(d:D):List (List Str×D):=if w∈kds.map (·.1) then kds.map (λp=>if p.1=w then (p.1,d) else p) else kds++[(w,d)]
theorem qbr(kds:List (List Str×D))(w:List Str):lkD (kds.map (·.1)) (kds.map (·.2)) w=lkP kds w:=by
 induction kds with
|nil=>unfold lkP;simp[lkD]
|cons p kds ih =>
  rw[List.map_cons,List.map_cons]
  unfold lkD
  unfold lkP at ih ⊢
  by_cases e:p.1=w
  ·rw[if_pos e,List.find?_cons,decide_eq_true e]
   rfl
  ·rw[if_neg e,ih,List.find?_cons,decide_eq_false e]
theorem qb8(kds:List (List Str×D))(w:List Str)(d:D):putD (kds.map (·.1)) (kds.map (·.2)) w d=qap (insP kds w d):=by
 unfold putD insP qap
 by_cases h:w∈kds.map (·.1)
 ·rw[if_pos h,if_pos h]
  congr 1
  ·rw[List.map_map]
   refine(List.map_congr_left λp _=>?_).symm
   show (if p.1=w then (p.1,d) else p).1=p.1
   split<;>rfl
  ·clear h
   induction kds with
  |nil=>rfl
  |cons p kds ih =>
    rw[List.map_cons,List.map_cons,List.map_cons,List.map_cons]
    unfold rpD
    rw[ih]
    congr 1
    split<;>rfl
 ·rw[if_neg h,if_neg h,List.map_append,List.map_append]
  rfl
end L2
namespace PySem
open PySem Calls PyProof.Rows PyProof.V PySem.Spec
def RawD(h:Heap)(d:Addr)(es:Array DictEntry)(ep:Nat):Prop:=∃o,h.get? d=some o/\o.ExactDict/\o.data=.dict es ep
section
variable {prog:Program} {w:World} {A:Around} {E:Value->Shared->Prop} {s:Shared} {d it:Addr} {es:Array DictEntry} {ep i:Nat}
theorem RawD.typeIs(x:RawD s.heap d es ep):s.TypeIs (.ref d) "dict" := let ⟨o,h1,h2,_⟩:=x;⟨o,h1,h2.1⟩
theorem RawD.keep{h h':Heap}(x:RawD h d es ep)(k:∀o,h.get? d=some o->h'.get? d=some o):RawD h' d es ep:=let ⟨o,h1,r⟩:=x;⟨o,k o h1,r⟩
theorem qt9{Q:Value->Shared->Prop}(no:(d==sysModules)=false)(x:RawD s.heap d es ep)
  (fin:Q (.ref s.heap.objs.size) { s with heap:=s.heap.push { cls:=.type "dict_keyiterator",data:=.fields #[.ref d,.int 0 0,.int es.size 0,.int ep 0] } }):wpAny (model prog w) A (pyIter (.ref d)) Q E s:=by
 have T:=x.typeIs
 obtain⟨o,h1,_,h2⟩:=x
 refine wpAny_pyIter_slot T F.slot_dict_iter (wpAny_call_entry F.slot_dict_iter T F.entry_dict_iter ?_ (F.args_dict_iter_1 _))
 unfold Builtin.«dict.__iter__» Builtin.Dict.dictSlotNone
 refine wpAny_bind (wpAny_bind (wpAny_notOrdered_dict T (show wpAny _ _ (pure (Value.ref d)) _ _ s from wpAny_pure ?_)))
 show wpAny _ _ (Builtin.Dict.showsAll d >>= λ_=>_) _ _ s
 unfold Builtin.Dict.showsAll
 rw[no,if_neg Bool.false_ne_true]
 refine wpAny_bind (wpAny_pure (wpAny_bind (wpAny_dictEntries h1 h2 (wpAny_bind (wpAny_dictEpoch h1 h2 (wpAny_bind (wpAny_newObj_type (wpAny_pure ⟨_,rfl,"dict_keyiterator",_,⟨_,Heap.get?_push_size _ rfl,rfl⟩,F.slot_dict_keyiterator_next.lookup,?_⟩))))))))
 simpa [rawInt] using fin
theorem qe8{Q:String->Shared->Prop}(h:s.TypeIs (.ref it) "dict_keyiterator")(q:Q "dict_keyiterator" s):wpAny (model prog w) A (typeNameOfWhole (.ref it)) Q E s:=wpAny_typeNameOfWhole_keyiter h q
theorem qt8{Q:Option Value->Shared->Prop}{ky:Value}(K:s.heap.IsKeyIter it d i es.size ep)(x:RawD s.heap d es ep)(hk:es[i]?.map (·.key)=some ky)
  (fin:∀h',h'.IsKeyIter it d (i+1) es.size ep->Heap.SameBut it s.heap h'->Q (some ky) { s with heap:=h' }):wpAny (model prog w) A (pyNext (.ref it)) Q E s:=by
 have T:=K.typeIs
 obtain⟨oi,g1,g2,g3⟩:=K
 obtain⟨o,h1,_,h2⟩:=x
 have lt:i<es.size:=by
  apply Classical.byContradiction
  intro z
  rw[Array.getElem?_eq_none (by lia)] at hk
  cases hk
 have ek:es[i].key=ky:=by
  rw[Array.getElem?_eq_getElem lt] at hk
  exact Option.some.inj hk
 have no:Builtin.Dict_items.ownsTuple "dict_keyiterator" = false:=by decide
 unfold pyNext
 refine wpAny_bind (wpAny_attempt (wpAny_callSpecial?_slot (name:=Str.ofString "__next__") T F.slot_dict_keyiterator_next (wpAny_call_entry F.slot_dict_keyiterator_next T F.entry_dict_keyiterator_next (wpAny_bind (wpAny_pure (wpAny_bind (wpAny_bind ?_)))) (F.args_dict_keyiterator_next_1 _))))
 refine wpAny_bind (qe8 T (wpAny_pure (wpAny_bind (wpAny_fieldsOf g1 g3 ?_))))
 simp only[no,Bool.false_eq_true,if_false]
 show wpAny _ _ (ite ((Value.ref d==Value.none)=true) _ _) _ _ s
 rw[if_neg (show ¬ (Value.ref d==Value.none)=true from λz=>by cases z)]
 refine wpAny_bind (wpAny_pure (wpAny_bind (wpAny_dictEntries h1 h2 ?_)))
 rw[if_neg (λz=>by simp at z)]
 refine wpAny_bind (wpAny_pure (wpAny_bind (wpAny_dictEpoch h1 h2 ?_)))
 rw[if_neg (λz=>by simp at z)]
 refine wpAny_pure ?_
 simp only[show ¬ (i:Int)<0 from by lia,if_false,Int.toNat_natCast,Array.getElem?_eq_getElem lt]
 refine wpAny_bind (wpAny_bind (qe8 T (wpAny_pure (wpAny_bind (wpAny_isOneOf_keyiter T ?_)))))
 show wpAny _ _ (setField (.ref it) 1 (rawInt ((i:Int)+1)) >>= λ_=>_) _ _ s
 have K2:(s.heap.update it (Obj.mapFields (·.setIfInBounds 1 (rawInt ((i:Int)+1))))).IsKeyIter it d (i+1) es.size ep:=⟨_,Heap.get?_update_self _ g1 (Obj.isFreed_of_fields (Obj.data_mapFields g3 _)),(Obj.cls_mapFields ..).trans g2,by
  rw[Obj.data_mapFields g3]
  simp[rawInt]⟩
 refine wpAny_bind (wpAny_setField g1 g3 (by simp) (wpAny_bind (wpAny_holding (wpAny_bind (wpAny_isOneOf_keyiter (s:={ s with heap:=s.heap.update it (Obj.mapFields (·.setIfInBounds 1 (rawInt ((i:Int)+1)))) }) K2.typeIs ?_)))))
 show wpAny _ _ (pure (es[i].key)) _ _ _
 rw[ek]
 exact wpAny_pure (wpAny_pure ⟨_,rfl,wpAny_pure (fin _ K2 (Heap.SameBut.update ..))⟩)
theorem qx6{Q:Option Value->Shared->Prop}(hh:A.handled=none)(K:s.heap.IsKeyIter it d i es.size ep)(x:RawD s.heap d es ep)(ge:es.size<=i)(fin:∀h',Heap.ExtBut it s.heap h'->Q none { s with heap:=h' }) :
  wpAny (model prog w) A (pyNext (.ref it)) Q E s:=by
 have T:=K.typeIs
 obtain⟨oi,g1,g2,g3⟩:=K
 obtain⟨o,h1,_,h2⟩:=x
 have no:Builtin.Dict_items.ownsTuple "dict_keyiterator" = false:=by decide
 unfold pyNext
 refine wpAny_bind (wpAny_attempt (wpAny_callSpecial?_slot (name:=Str.ofString "__next__") T F.slot_dict_keyiterator_next (wpAny_call_entry F.slot_dict_keyiterator_next T F.entry_dict_keyiterator_next (wpAny_bind (wpAny_pure (wpAny_bind (wpAny_bind ?_)))) (F.args_dict_keyiterator_next_1 _))))
 refine wpAny_bind (qe8 T (wpAny_pure (wpAny_bind (wpAny_fieldsOf g1 g3 ?_))))
 simp only[no,Bool.false_eq_true,if_false]
 show wpAny _ _ (ite ((Value.ref d==Value.none)=true) _ _) _ _ s
 rw[if_neg (show ¬ (Value.ref d==Value.none)=true from λz=>by cases z)]
 refine wpAny_bind (wpAny_pure (wpAny_bind (wpAny_dictEntries h1 h2 ?_)))
 rw[if_neg (λz=>by simp at z)]
 refine wpAny_bind (wpAny_pure (wpAny_bind (wpAny_dictEpoch h1 h2 ?_)))
 rw[if_neg (λz=>by simp at z)]
 refine wpAny_pure ?_
 simp only[show ¬ (i:Int)<0 from by lia,if_false,Int.toNat_natCast,Array.getElem?_eq_none ge]
 refine wpAny_bind (wpAny_bind (qe8 T (wpAny_pure ?_)))
 show wpAny _ _ (setField (.ref it) 0 .none >>= λ_=>_) _ _ s
 refine wpAny_bind (wpAny_setField g1 g3 (by simp) ?_)
 show wpAny _ _ (newExc (.type "StopIteration") [] >>= λ_=>_) _ _ _
 refine wpAny_bind ?_
 simp only[newExc,newTuple]
 refine wpAny_bind (wpAny_newObj_type (wpAny_bind (m:=firstArgMember _ _) (wpAny_of_eq (a:=Value.none) (by first|rfl|(simp only[firstArgMember];rfl)) (wpAny_newObj_type ?_ (by size_fits)))) (by size_fits))
 simp only[raiseNew]
 refine(wpAny_bind (wpAny_handled ?_))
 rw[(show A.in1.handled=none from hh)]
 refine(wpAny_bind (wpAny_pure (wpAny_throw ?_)))
 exact wpAny_bind (wpAny_isInstance (T:="StopIteration") (b:=true) ⟨_,Heap.get?_push_size _ rfl,rfl⟩ isSubtype_stop (wpAny_pure (fin _ (((Heap.SameBut.update ..).extBut.push _).push _))))
theorem qsq(hh:A.handled=none)(I d:Addr)(ne:d≠I)(es:Array DictEntry)(ep:Nat) :
  Walks prog w A I [I,d] [I] es.size (λi v=>es[i]?.map (·.key)=some v) (λi h=>h.IsKeyIter I d i es.size ep/\RawD h d es ep) where
 sub:=λb hb=>by
  cases List.mem_singleton.mp hb
  exact List.mem_cons_self ..
 frame:=λ_ _ _ st k=>⟨st.1.at λo e=>k I (List.mem_cons_self ..) o e,st.2.keep λo e=>k d (by simp) o e⟩
 item:=λi s Q E lt st fin=>by
  have e:es[i]?.map (·.key)=some es[i].key:=by rw[Array.getElem?_eq_getElem lt];rfl
  exact qt8 st.1 st.2 e λh' K' sb=>fin _ h' s.toks e ⟨K',st.2.keep λo z=>sb.extBut d o ne z⟩ λb o nb z=>sb.extBut b o (λy=>nb (by simp[y])) z
 done:=λs Q E st fin=>qx6 hh st.1 st.2 (Nat.le_refl _) λh' x=>fin h' s.toks λb o nb z=>x b o (λy=>nb (by simp[y])) z
 self:=λ_ _ _ _ st q=>wpAny_pyIter_keyiter st.1 q
theorem qye(no:(d==sysModules)=false):PySem.W.KdlSrc prog w "dict" d d es.size (λi v=>es[i]?.map (·.key)=some v) (λh=>RawD h d es ep) where
 type:=λ_ x=>x.typeIs
 there:=λ_ x=>let ⟨_,e,_⟩:=x;⟨Heap.lt_size e,Heap.lt_size e⟩
 keep:=λ_ _ x k=>x.keep λo e=>k d (.inl rfl) o e
 notList:=by decide
 notTuple:=by decide
 hint:=λ_ _ _ _ x q=>PySem.W.kdl_hint_dict x.typeIs q
 iter:=λ_ _ hh x=>⟨_,_,(λ_ _ q=>qt9 no x q),qsq hh _ d (let ⟨_,e,_⟩:=x;Nat.ne_of_lt (Heap.lt_size e)) es ep,⟨⟨_,Heap.get?_push_size _ rfl,rfl,rfl⟩,x.keep λ_ e=>Heap.get?_push_of_some _ e⟩⟩
end
end PySem
namespace L2
open PySem PySem.Spec PyProof.Rows
section
variable {X:Cx}
theorem qfq{α β:Type}{F:α->β->Prop}:∀ {l:List α} {m:List β} {i:Nat} {b:β},Paired F l m->m[i]?=some b->∃a,l[i]?=some a/\F a b
|_,_,_,_,.nil,e=>by simp at e
|_,_,0,_,.cons h _,e=>by
  have e':=Option.some.inj e
  subst e'
  exact⟨_,rfl,h⟩
|_,_,i+1,b,.cons _ t,e=>by
  obtain⟨a,h1,h2⟩:=qfq (i:=i) (b:=b) t (by simpa using e)
  exact⟨a,by simpa using h1,h2⟩
theorem qzg{P:Program}{w:World}{H:Hp}{h:Heap}{a:Addr}{kvs:List (List Key×V)}(ok:HOk P w H h)(e:Rd H a (.dT kvs)):kvs.length<=sizeLine/\(a==sysModules)=false/\∃es ep,RawD h a es ep/\es.size=kvs.length /\
  ∀(i:Nat) (u:Value),es[i]?.map (·.key)=some u->∃(b:Addr) (k:List Key),u=.ref b/\kvs[i]?.map (·.1)=some k/\H b=some (.tup (k.map kV)):=by
 obtain⟨z,y,xs,r,o,es,ep,h1,h2,h3,h4,_⟩:=qi1 ok e
 have hl:es.size=xs.length:=by rw[←Array.length_toList,h4,List.length_map]
 refine⟨z,y,es,ep,⟨o,h1,h2,h3⟩,by rw[hl,←Paired.length r],λi u q=>?_⟩
 have ei:es[i]?=(xs[i]?).map (entryOfKey (tupleKind (qbi P w))):=by rw[←Array.getElem?_toList,h4,List.getElem?_map]
 rw[ei] at q
 cases hx:xs[i]? with
|none=>rw[hx] at q;cases q
|some p =>
  rw[hx] at q
  have eu:Value.ref p.2.1=u:=Option.some.inj q
  obtain⟨kv,hkv,e1,e2,_⟩:=qfq r hx
  exact⟨p.2.1,kv.1,eu.symm,by rw[hkv];rfl,by rw[e1] at e2 ⊢;exact e2⟩
theorem qj4(hh:X.A.handled=none):CallR X (.type "list") (λxs H Q=>∃a kvs,xs=[.ref a]/\Rd H a (.dT kvs)/\∀(l:Addr) (bs:List Addr),H l=none->bs.length=kvs.length ->
  (∀(i:Nat) (b:Addr),bs[i]?=some b->∃k,kvs[i]?.map (·.1)=some k/\H b=some (.tup (k.map kV)))->Q (.ref l) (upd H l (.lst (bs.map V.ref)))):=by
 intro pins s σ H xs us Q I r h
 obtain⟨a,kvs,rfl,e,q⟩:=h
 obtain⟨u,rfl,ru⟩:=vals1 r
 cases ru
 obtain⟨z,no,es,ep,raw,hs,hk⟩:=qzg I.hok e
 refine PySem.W.kdl_call (qye (ep:=ep) (es:=es) no) hh raw (by rw[hs];exact z) λh' tk acc c keep new its=>?_
 have refs:∀vs:List Value,(∀v∈vs,∃b,v=Value.ref b)->∃bs:List Addr,vs=bs.map Value.ref:=λvs=>by
  induction vs with
 |nil=>exact λ_=>⟨[],rfl⟩
 |cons v vs ih =>
   intro hv
   obtain⟨b,rfl⟩:=hv v (List.mem_cons_self ..)
   obtain⟨bs,rfl⟩:=ih λy hy=>hv y (List.mem_cons_of_mem _ hy)
   exact⟨b::bs,rfl⟩
 obtain⟨hsz,hP⟩:=its
 obtain⟨bs,hbs⟩:=refs acc.toList λv hv=>by
  obtain⟨j,hj⟩:=List.mem_iff_getElem?.mp hv
  obtain⟨b,k,eb,_⟩:=hk j v (hP j v (by simpa using hj))
  exact⟨b,eb⟩
 have hacc:acc=(bs.map Value.ref).toArray:=by rw[←hbs]
 have hlen:bs.length=kvs.length:=by
  have:acc.size=bs.length:=by rw[hacc];simp
  lia
 have rel:∀bs:List Addr,Vals (bs.map V.ref) (bs.map Value.ref):=λbs=>by
  induction bs with
 |nil=>exact .nil
 |cons b bs ih=>exact .cons rfl ih
 refine⟨.ref s.heap.objs.size,upd H s.heap.objs.size (.lst (bs.map V.ref)),I.laid (t':=tk) keep (Nat.le_refl _) ⟨by rw[List.length_map];lia,bs.map Value.ref,c,rel bs,by rw[←hacc];exact new⟩,rfl,q _ bs (I.hok.fresh (Nat.le_refl _)) hlen λi b hb=>?_⟩
 obtain⟨b',k,eb,h1,h2⟩:=hk i (.ref b) (hP i (.ref b) (by rw[hacc];simp[hb]))
 cases eb
 exact⟨k,h1,h2⟩
end
section
variable {X:Cx} {K:PySem.W.Frag} {B H:Hp}
theorem Stp.tups(s:Same B H)(bs:List Addr)(h:∀b∈bs,∃xs,H b=some (.tup xs)):Stp B H (λa=>if a∈bs then H a else B a) H:=by
 refine⟨λa o e=>?_,Same.refl _,λa o e=>?_,λa z=>?_⟩
 ·show (if a∈bs then H a else B a)=some o
  split
  ·exact s _ _ e
  ·exact e
 ·have e':(if a∈bs then H a else B a)=some o:=e
  split at e'
  ·exact e'
  ·exact s _ _ e'
 ·by_cases q:a∈bs
  ·exact .inr (.inr (h a q))
  ·have z':(if a∈bs then H a else B a)≠none:=z
   rw[if_neg q] at z'
   exact .inl z'
theorem qfr:∀ {ks:List (List Str)} {bs:List Addr},bs.length=ks.length->(∀(i:Nat) (b:Addr) (k:List Str),bs[i]?=some b->ks[i]?=some k->B b=some (.tup (k.map V.str)))->Reps K B (ks.map λw=>.tup (w.map D.str)) (bs.map V.ref)
|[],[],_,_=>.nil
|[],_::_,h,_=>by simp at h
|_::_,[],h,_=>by simp at h
|k::ks,b::bs,h,q=>by
  refine .cons ?_ (qfr (by simpa using h) λi b' k' h1 h2=>q (i+1) b' k' (by simpa using h1) (by simpa using h2))
  unfold Rep
  exact⟨b,_,rfl,.inl (q 0 b k rfl rfl),by
   have:∀ss:List Str,Reps K B (ss.map D.str) (ss.map V.str):=λss=>by
    induction ss with
   |nil=>exact .nil
   |cons s ss ih=>exact .cons (qig (d:=.str s) rfl) ih
   exact this k⟩
def qfu(rx:R)(Q:R->Prop):Prop:=match rx.d with
|.dT ks _=>Q (.own (.lst (ks.map λw=>.tup (w.map D.str))))
|_=>False
theorem qgq(hh:X.A.handled=none):VF X (.type "list") qfu:=by
 refine⟨_,qj4 hh,λB H x rx Q Qd s px h k=>?_⟩
 unfold qfu at h
 split at h
 ·rename_i ks ds e1
  obtain⟨ad,kvs,rfl,hd,hk,hr⟩:=px.dT s e1
  refine⟨ad,kvs,rfl,hd,λl bs hl hlen hb=>?_⟩
  have hkl:ks.length=kvs.length:=by simpa using (congrArg List.length hk).symm
  have key:∀(i:Nat) (b:Addr) (k:List Str),bs[i]?=some b->ks[i]?=some k->H b=some (.tup (k.map V.str)):=λi b k h1 h2=>by
   obtain⟨k',h3,h4⟩:=hb i b h1
   have e:(kvs.map (·.1))[i]?=(ks.map wK)[i]?:=by rw[hk]
   rw[List.getElem?_map,List.getElem?_map,h3,h2] at e
   cases e
   rw[qm2] at h4
   exact h4
  have T:=Stp.tups s bs λb hm=>by
   obtain⟨i,hi⟩:=List.mem_iff_getElem?.mp hm
   obtain⟨k',_,h4⟩:=hb i b hi
   exact⟨_,h4⟩
  have hlB:(λa=>if a∈bs then H a else B a) l=none:=by
   show (if l∈bs then H l else B l)=none
   split
   ·exact hl
   ·exact s.free hl
  refine k (.own _) _ _ _ (T.trans (.grow T.s (qax hl (.lst (bs.map V.ref))))) ⟨l,rfl,hl,hlB,qbz (qfr (by lia) λi b w h1 h2=>?_)⟩ h
  show (if b∈bs then H b else B b)=_
  rw[if_pos (List.mem_of_getElem? h1)]
  exact key i b w h1 h2
 ·exact h.elim
end
end L2
namespace L2
open PySem PySem.Spec PyProof.Rows
section
variable {X:Cx} {EX:St->XK} {K:PySem.W.Frag} {B H B' H' H0 B0:Hp} {e a:Expr} {es:List Expr} {te ta:TV} {tA:TVA} {pos p np cpos:Pos} {x:Str} {t:TVS} {τ:VSt} {σ:St}
def qr8(n:Str)(tA:TVA):TVS:=λDv τ=>tA τ λa=>exI τ Dv a λds=>ds.length<=sizeLine/\Dv.xc τ n
abbrev THD:=Str->TVS
def RfH(K:PySem.W.Frag)(EX:St->XK)(th:TH)(td:THD):Prop:=∀(B0 H0 B H:Hp) (τ:VSt) (σ:St) (n:Str) (C:Addr) (Dv:VEnds) (Dh:Ends),Stp B0 H0 B H->Slots K H0 B H τ σ->clsOf K n C->td n Dv τ->EndsOk K EX B0 H0 Dv Dh->th (.ref C) Dh σ H
structure VH(X:Cx)(EX:St->XK)(hs:List ExceptHandler)(td:THD):Prop where
 u:∃th,QH X hs th/\RfH X.K EX th td
def vTry(t:TVS)(td:THD):TVS:=λDv τ=>t { nx:=Dv.nx,rt:=Dv.rt,bk:=Dv.bk,ct:=Dv.ct,xc:=λτ' n=>td n Dv τ' } τ
def VEnds.calm(Dv:VEnds):VEnds:={ nx:=Dv.nx,rt:=Dv.rt,bk:=Dv.bk,ct:=Dv.ct }
def VEnds.wiped(Dv:VEnds):VEnds:={ nx:=λτ=>Dv.nx (List.replicate τ.length none),rt:=Dv.rt,bk:=λτ=>Dv.bk (List.replicate τ.length none),ct:=λτ=>Dv.ct (List.replicate τ.length none) }
end
end L2
namespace L2
open PySem PySem.Spec PyProof.Rows Builtin.Str
section
variable {X:Cx}
end
section
variable {X:Cx} {EX:St->XK} {o e:Expr} {to te:TV} {apos cpos:Pos}
end
def sp(c:Nat):List Nat->List (List Nat)
|[]=>[[]]
|x::xs=>if x=c then []::sp c xs else match sp c xs with
 |[]=>[[x]]
 |p::ps=>(x::p)::ps
theorem qya(a b:Nat):sliceRange a b 1=List.range' a (b-a):=by
 unfold sliceRange
 have e:(if (1:Int)>0 then (if (a:Int)<b then ((b:Int)-a+1-1) / 1 else 0) else (if (a:Int)>b then ((a:Int)-b-1-1) / (-1) else 0)).toNat=b-a:=by
  rw[if_pos (by decide)]
  split
  ·rw[Int.ediv_one];lia
  ·lia
 show (List.range _).map _=_
 rw[e,List.range'_eq_map_range]
 refine List.map_congr_left λk _=>?_
 lia
theorem qwf(l u:Option Int)(n:Nat):strSliceIndices l u 1 n=List.range' (HT.sIx n 0 l) (HT.sIx n n u-HT.sIx n 0 l):=by
 rw[←qya]
 unfold strSliceIndices
 have c:∀(v:Int),max 0 (min (if v<0 then v+(n:Int) else v) n)=((HT.sIx n 0 (some v):Nat):Int):=λv=>by
  show _=(((if v<0 then (v+(n:Int)).toNat else min v.toNat n):Nat):Int)
  split<;>lia
 have c2:∀(v:Int),HT.sIx n n (some v)=HT.sIx n 0 (some v):=λ_=>rfl
 have go:∀(a b:Int) (x y:Nat),a=x->b=y->sliceRange a b 1=sliceRange x y 1:=λa b x y h1 h2=>by rw[h1,h2]
 cases l with
|none =>
  cases u with
 |none=>exact go _ _ _ _ rfl rfl
 |some v=>exact go _ _ _ _ rfl (by rw[c2,←c v];rfl)
|some v =>
  cases u with
 |none=>exact go _ _ _ _ (by rw[←c v];rfl) rfl
 |some w=>exact go _ _ _ _ (by rw[←c v];rfl) (by rw[c2,←c w];rfl)
theorem qnh(xs:Array Nat):∀(m a:Nat),a+m<=xs.size->(List.range' a m).filterMap (xs[·]?)=(xs.toList.drop a).take m
|0,a,_=>by simp
|m+1,a,h=>by
  have hs:a<xs.toList.length:=by show a<xs.size;lia
  rw[List.range'_succ,List.filterMap_cons,Array.getElem?_eq_getElem (show a<xs.size by lia)]
  show xs[a]::_=_
  rw[qnh xs m (a+1) (by lia),List.drop_eq_getElem_cons hs,List.take_succ_cons]
  rfl
theorem slice_list(z:Str)(l u:Option Int):(Txt.slice z l u).cps.toList=cutL z.cps.toList l u:=by
 unfold Txt.slice cutL
 have el:z.cps.toList.length=z.length:=rfl
 have h1:=HT.sIx_le z.length 0 (Nat.zero_le _) l
 have h2:=HT.sIx_le z.length z.length (Nat.le_refl _) u
 rw[qwf,el]
 by_cases h:HT.sIx z.length z.length u-HT.sIx z.length 0 l=z.length
 ·rw[if_pos (by simpa using h),h]
  have e0:HT.sIx z.length 0 l=0:=by lia
  rw[e0,List.drop_zero,List.take_of_length_le (Nat.le_of_eq el)]
 ·rw[if_neg (by simpa using h)]
  show List.filterMap _ _=_
  by_cases hz:HT.sIx z.length 0 l<=HT.sIx z.length z.length u
  ·exact qnh z.cps _ _ (by show _<=z.length;lia)
  ·rw[show HT.sIx z.length z.length u-HT.sIx z.length 0 l=0 by lia]
   simp
def mkS(l:List Nat):Str:=⟨l.toArray⟩
theorem qnq(z:Str):mkS z.cps.toList=z:=by unfold mkS;simp
theorem qr0{a b:Str}(h:a.cps.toList=b.cps.toList):a=b:=by rw[←qnq a,←qnq b,h]
end L2
namespace L2
open PySem PySem.Spec PyProof.Rows
section
variable {X:Cx} {EX:St->XK} {K:PySem.W.Frag} {o e:Expr} {to te:TV} {apos cpos:Pos} {τ:VSt} {σ:St} {B H H0:Hp}
end
end L2
namespace L2
open PySem PySem.W PyProof.Rows
section
variable {α β:Type}
def kRun(lt:Nat->Nat->Bool):KasT α->α
|.ret a=>a
|.ask i j k=>kRun lt (k (lt i j))
def kOk(n:Nat)(lt:Nat->Nat->Bool):KasT α->Prop
|.ret _=>True
|.ask i j k=>i<n/\j<n/\kOk n lt (k (lt i j))
theorem qcj(lt:Nat->Nat->Bool)(f:α->KasT β):∀t:KasT α,kRun lt (t.bind f)=kRun lt (f (kRun lt t))
|.ret _=>rfl
|.ask i j k=>qcj lt f (k (lt i j))
theorem qdd{n:Nat}{lt:Nat->Nat->Bool}{f:α->KasT β}:∀ {t:KasT α},kOk n lt t->kOk n lt (f (kRun lt t))->kOk n lt (t.bind f)
|.ret _,_,h=>h
|.ask i j k,⟨a,b,c⟩,h=>⟨a,b,qdd c h⟩
theorem qes{lt:Nat->Nat->Bool}{i j:Nat}{b:Bool}{k:Bool->KasT α}(e:lt i j=b):kRun lt (.ask i j k)=kRun lt (k b):=by
 show kRun lt (k (lt i j))=_
 rw[e]
theorem qgb{n:Nat}{lt:Nat->Nat->Bool}{i j:Nat}{b:Bool}{k:Bool->KasT α}(hi:i<n)(hj:j<n)(e:lt i j=b)(h:kOk n lt (k b)):kOk n lt (.ask i j k):=⟨hi,hj,by rw[e];exact h⟩
theorem qqs{cmp:Nat->Nat->(Bool->Shared->Prop)->Shared->Prop}{n:Nat}{lt:Nat->Nat->Bool}{P:Shared->Prop}{Q:α->Shared->Prop}(hc:∀i j C s,i<n->j<n->P s->(∀s',P s'->C (lt i j) s')->cmp i j C s) :
  ∀(t:KasT α) (s:Shared),kOk n lt t->P s->(∀s',P s'->Q (kRun lt t) s')->t.kasWp cmp Q s
|.ret _,s,_,hp,hq=>hq s hp
|.ask i j k,s,⟨hi,hj,hk⟩,hp,hq=>hc i j _ s hi hj hp λs' hp'=>qqs hc (k (lt i j)) s' hk hp' hq
end
structure LtOk(n:Nat)(lt:Nat->Nat->Bool):Prop where
 tr:∀a b c,a<n->b<n->c<n->lt a b=true->lt b c=true->lt a c=true
 as:∀a b,a<n->b<n->lt a b=true->lt b a=false
 tot:∀a b,a<n->b<n->a≠b->lt a b=true\/lt b a=true
section
variable {n:Nat} {lt:Nat->Nat->Bool} {p:Array Nat}
structure PermOk(n:Nat)(p:Array Nat):Prop where
 sz:p.size=n
 lt:∀i,i<n->p.getD i 0<n
 inj:∀i j,i<n->j<n->p.getD i 0=p.getD j 0->i=j
theorem qda(p:Array Nat)(i:Nat):p.getD i 0=(p[i]?).getD 0:=by
 by_cases h:i<p.size
 ·simp[Array.getD,h]
 ·simp[Array.getD,h]
theorem PermOk.of(hp:p.Perm (List.range n).toArray):PermOk n p where
 sz:=by rw[hp.size_eq];simp
 lt:=λi hi=>by
  have hs:p.size=n:=by rw[hp.size_eq];simp
  have hm:p[i]'(by lia)∈p:=Array.getElem_mem _
  have:p[i]'(by lia)∈(List.range n).toArray:=hp.mem_iff.mp hm
  rw[qda,Array.getElem?_eq_getElem (by lia)]
  simpa using this
 inj:=λi j hi hj e=>by
  have hs:p.size=n:=by rw[hp.size_eq];simp
  have nd:p.toList.Nodup:=by
   have:=hp.toList
   rw[this.nodup_iff]
   simp[List.nodup_range]
  rw[qda,qda,Array.getElem?_eq_getElem (by lia),Array.getElem?_eq_getElem (by lia)] at e
  have e':p.toList[i]'(by simp;lia)=p.toList[j]'(by simp;lia):=by simpa using e
  exact(List.getElem_inj nd).mp e'
def SPr(lt:Nat->Nat->Bool)(p:Array Nat)(k:Nat):Prop:=∀i j,i<j->j<k->lt (p.getD i 0) (p.getD j 0)=true
def DPr(lt:Nat->Nat->Bool)(p:Array Nat)(k:Nat):Prop:=∀i j,i<j->j<k->lt (p.getD j 0) (p.getD i 0)=true
theorem SPr.snoc(L:LtOk n lt)(P:PermOk n p){k:Nat}(h:SPr lt p k)(hk:k<n)(h1:1<=k)(e:lt (p.getD k 0) (p.getD (k-1) 0)=false):SPr lt p (k+1):=λi j hi hj=>by
 have l1:lt (p.getD (k-1) 0) (p.getD k 0)=true:=by
  rcases L.tot _ _ (P.lt (k-1) (by lia)) (P.lt k hk) (λz=>by have:=P.inj _ _ (by lia) hk z;lia) with q|q
  ·exact q
  ·rw[e] at q;cases q
 by_cases hjk:j=k
 ·subst hjk
  by_cases hik:i=j-1
  ·rw[hik];exact l1
  ·exact L.tr _ _ _ (P.lt i (by lia)) (P.lt (j-1) (by lia)) (P.lt j hk) (h i (j-1) (by lia) (by lia)) l1
 ·exact h i j hi (by lia)
theorem DPr.snoc(L:LtOk n lt)(P:PermOk n p){k:Nat}(h:DPr lt p k)(hk:k<n)(h1:1<=k)(e:lt (p.getD k 0) (p.getD (k-1) 0)=true):DPr lt p (k+1):=λi j hi hj=>by
 by_cases hjk:j=k
 ·subst hjk
  by_cases hik:i=j-1
  ·rw[hik];exact e
  ·exact L.tr _ _ _ (P.lt j hk) (P.lt (j-1) (by lia)) (P.lt i (by lia)) e (h i (j-1) (by lia) (by lia))
 ·exact h i j hi (by lia)
theorem qpw(L:LtOk n lt)(P:PermOk n p):∀(f m:Nat),1<=m->m+f<=n->SPr lt p m->kOk n lt (kas_asc p f m)/\∃m',kRun lt (kas_asc p f m)=m'/\m<=m'/\m'<=m+f/\SPr lt p m'/\(m'=m+f\/lt (p.getD m' 0) (p.getD (m' - 1) 0)=true)
|0,m,h1,hf,hs=>⟨trivial,m,rfl,Nat.le_refl _,Nat.le_refl _,hs,.inl rfl⟩
|f+1,m,h1,hf,hs=>by
  cases e:lt (p.getD m 0) (p.getD (m-1) 0) with
 |true =>
   refine⟨qgb (P.lt m (by lia)) (P.lt (m-1) (by lia)) e ?_,m,(qes e).trans ?_,Nat.le_refl _,by lia,hs,.inr e⟩
   ·trivial
   ·rfl
 |false =>
   obtain⟨a,m',r,b,c,d,g⟩:=qpw L P f (m+1) (by lia) (by lia) (hs.snoc L P (by lia) h1 e)
   refine⟨qgb (P.lt m (by lia)) (P.lt (m-1) (by lia)) e a,m',(qes e).trans r,by lia,by lia,d,?_⟩
   rcases g with g|g
   ·left;lia
   ·exact .inr g
theorem qqf(L:LtOk n lt)(P:PermOk n p):∀(f m:Nat),1<=m->m+f<=n->DPr lt p m->kOk n lt (kas_desc f p m 0)/\∃m',kRun lt (kas_desc f p m 0)=(p,m',0)/\m<=m'/\m'<=m+f/\DPr lt p m'
|0,m,h1,hf,hs=>⟨trivial,m,rfl,Nat.le_refl _,Nat.le_refl _,hs⟩
|f+1,m,h1,hf,hs=>by
  cases e:lt (p.getD m 0) (p.getD (m-1) 0) with
 |true =>
   obtain⟨a,m',b,c,d,g⟩:=qqf L P f (m+1) (by lia) (by lia) (hs.snoc L P (by lia) h1 e)
   exact⟨qgb (P.lt m (by lia)) (P.lt (m-1) (by lia)) e a,m',(qes e).trans b,by lia,by lia,g⟩
 |false =>
   have l1:lt (p.getD (m-1) 0) (p.getD m 0)=true:=by
    rcases L.tot _ _ (P.lt (m-1) (by lia)) (P.lt m (by lia)) (λz=>by have:=P.inj _ _ (by lia) (by lia) z;lia) with q|q
    ·exact q
    ·rw[e] at q;cases q
   exact⟨qgb (P.lt m (by lia)) (P.lt (m-1) (by lia)) e (qgb (P.lt (m-1) (by lia)) (P.lt m (by lia)) l1 trivial),m,(qes e).trans ((qes l1).trans rfl),Nat.le_refl _,by lia,hs⟩
theorem qhi{j:Nat}(hj:j<=p.size)(k:Nat):(kas_rev p 0 j).getD k 0=if k<j then p.getD (j-1-k) 0 else p.getD k 0:=by
 rw[qda,kas_rev,getElem?_mirror_all hj k]
 by_cases h:k<j
 ·rw[if_pos ⟨Nat.zero_le _,h⟩,if_pos h,qda,Nat.zero_add]
 ·rw[if_neg (λz=>h z.2),if_neg h,qda]
theorem qx7{j:Nat}(hj:j<=p.size)(h:DPr lt p j):SPr lt (kas_rev p 0 j) j:=λa b hab hb=>by
 rw[qhi hj,qhi hj,if_pos (by lia),if_pos hb]
 exact h (j-1-b) (j-1-a) (by lia) (by lia)
theorem qun(L:LtOk n lt)(hp:p.Perm (List.range n).toArray){m:Nat}(h1:1<=m)(hm:m<=n)(h:DPr lt p m):kOk n lt (kas_tail3 m n p)/\∃k q,kRun lt (kas_tail3 m n p)=(k,q)/\1<=k/\k<=n/\q.Perm p/\SPr lt q k:=by
 have hq:(kas_rev p 0 m).Perm p:=mirror_perm _ _ _ _
 have P:=PermOk.of (hq.trans hp)
 obtain⟨a,k,r,b,c,d,_⟩:=qpw L P (n-m) m h1 (by lia) (qx7 (by rw[(PermOk.of hp).sz];exact hm) h)
 refine⟨qdd a trivial,k,kas_rev p 0 m,?_,by lia,by lia,hq,d⟩
 unfold kas_tail3
 rw[qcj,r]
 rfl
theorem qlp(L:LtOk n lt)(hp:p.Perm (List.range n).toArray){m:Nat}(hm:m+1<=n)(h:DPr lt p (m+1)):kOk n lt (kas_descPart m n p)/\∃k q,kRun lt (kas_descPart m n p)=(k,q)/\1<=k/\k<=n/\q.Perm p/\SPr lt q k:=by
 have P:=PermOk.of hp
 obtain⟨a,m',r,b,c,d⟩:=qqf L P (n-(m+1)) (m+1) (by lia) (by lia) h
 obtain⟨a2,k,q,r2,e⟩:=qun L hp (m:=m') (by lia) (by lia) d
 refine⟨qdd a ?_,k,q,?_,e⟩
 ·rw[r]
  exact a2
 ·unfold kas_descPart
  rw[qcj,r]
  exact r2
theorem qs0(L:LtOk n lt)(hp:p.Perm (List.range n).toArray)(h1:1<=n):kOk n lt (kas_count n p)/\∃m q,kRun lt (kas_count n p)=(m,q)/\1<=m/\m<=n/\q.Perm p/\SPr lt q m:=by
 have P:=PermOk.of hp
 obtain⟨a,m,r,b,c,d,g⟩:=qpw L P (n-1) 1 (Nat.le_refl _) (by lia) (λi j hi hj=>by lia)
 by_cases hn:m=n
 ·refine⟨qdd a ?_,m,p,?_,b,by lia,.refl _,d⟩
  ·rw[r,if_pos (by simp[hn])]
   trivial
  ·unfold kas_count
   rw[qcj,r,if_pos (by simp[hn])]
   rfl
 ·have ne:¬ (m==n)=true:=by simp[hn]
  by_cases hm:m>1
  ·have e:lt (p.getD 0 0) (p.getD (m-1) 0)=true:=d 0 (m-1) (by lia) (by lia)
   refine⟨qdd a ?_,m,p,?_,b,by lia,.refl _,d⟩
   ·rw[r,if_neg ne,if_pos hm]
    exact qgb (P.lt 0 (by lia)) (P.lt (m-1) (by lia)) e trivial
   ·unfold kas_count
    rw[qcj,r,if_neg ne,if_pos hm,qes e]
    rfl
  ·have hm1:m=1:=by lia
   have e:lt (p.getD 1 0) (p.getD 0 0)=true:=by
    rcases g with g|g
    ·exact absurd (by lia) hn
    ·rw[hm1] at g;exact g
   have D2:DPr lt p (m+1):=λi j hi hj=>by
    have:i=0:=by lia
    have:j=1:=by lia
    subst_vars
    exact e
   obtain⟨a2,k,q,r2,e2⟩:=qlp L hp (m:=m) (by lia) D2
   refine⟨qdd a ?_,k,q,?_,e2⟩
   ·rw[r,if_neg ne,if_neg hm]
    exact a2
   ·unfold kas_count
    rw[qcj,r,if_neg ne,if_neg hm]
    exact r2
theorem qji(L:LtOk n lt)(P:PermOk n p){k:Nat}(hk:k<n):∀(f l r:Nat),l<=r->r<=k->r-l<=f->SPr lt p k->(∀i,i<l->lt (p.getD i 0) (p.getD k 0)=true)->(∀i,r<=i->i<k->lt (p.getD k 0) (p.getD i 0)=true) ->
  kOk n lt (kas_place p k f l r)/\∃l',kRun lt (kas_place p k f l r)=l'/\l'<=k/\(∀i,i<l'->lt (p.getD i 0) (p.getD k 0)=true)/\(∀i,l'<=i->i<k->lt (p.getD k 0) (p.getD i 0)=true)
|0,l,r,hlr,hrk,hf,hs,h1,h2=>by
  have:l=r:=by lia
  subst this
  exact⟨trivial,l,rfl,hrk,h1,h2⟩
|f+1,l,r,hlr,hrk,hf,hs,h1,h2=>by
  unfold kas_place
  by_cases hge:l≥r
  ·have:l=r:=by lia
   subst this
   rw[if_pos hge]
   exact⟨trivial,l,rfl,hrk,h1,h2⟩
  ·rw[if_neg hge]
   have hmk:(l+r) / 2<k:=by lia
   cases e:lt (p.getD k 0) (p.getD ((l+r) / 2) 0) with
  |true =>
    obtain⟨a,l',q,b,c,d⟩:=qji L P hk f l ((l+r) / 2) (by lia) (by lia) (by lia) hs h1 (λi hi hik=>by
     by_cases z:i=(l+r) / 2
     ·rw[z];exact e
     ·exact L.tr _ _ _ (P.lt k hk) (P.lt _ (by lia)) (P.lt i (by lia)) e (hs ((l+r) / 2) i (by lia) hik))
    exact⟨qgb (P.lt k hk) (P.lt _ (by lia)) e a,l',(qes e).trans q,b,c,d⟩
  |false =>
    have l1:lt (p.getD ((l+r) / 2) 0) (p.getD k 0)=true:=by
     rcases L.tot _ _ (P.lt ((l+r) / 2) (by lia)) (P.lt k hk) (λz=>by have:=P.inj _ _ (by lia) hk z;lia) with q|q
     ·exact q
     ·rw[e] at q;cases q
    obtain⟨a,l',q,b,c,d⟩:=qji L P hk f ((l+r) / 2+1) r (by lia) hrk (by lia) hs (λi hi=>by
     by_cases z:i=(l+r) / 2
     ·rw[z];exact l1
     ·exact L.tr _ _ _ (P.lt i (by lia)) (P.lt ((l+r) / 2) (by lia)) (P.lt k hk) (hs i ((l+r) / 2) (by lia) hmk) l1) h2
    exact⟨qgb (P.lt k hk) (P.lt _ (by lia)) e a,l',(qes e).trans q,b,c,d⟩
theorem qll{src d:Nat}(hs:src<p.size)(hd:d<=src)(k:Nat):(bubble p src d).getD k 0=if k=src-d then p.getD src 0 else if src-d<k/\k<=src then p.getD (k-1) 0 else p.getD k 0:=by
 rw[qda,getElem?_bubble hs d hd k]
 by_cases h1:k=src-d
 ·rw[if_pos h1,if_pos h1,qda]
 ·rw[if_neg h1,if_neg h1]
  by_cases h2:src-d<k/\k<=src
  ·rw[if_pos h2,if_pos h2,qda]
  ·rw[if_neg h2,if_neg h2,qda]
theorem qu1(L:LtOk n lt):∀(f k:Nat) (p:Array Nat),p.Perm (List.range n).toArray->1<=k->k+f<=n->SPr lt p k->kOk n lt (kas_bin f p k)/\∃q,kRun lt (kas_bin f p k)=q/\q.Perm p/\SPr lt q (k+f)
|0,k,p,hp,h1,hf,hs=>⟨trivial,p,rfl,.refl _,hs⟩
|f+1,k,p,hp,h1,hf,hs=>by
  have P:=PermOk.of hp
  obtain⟨a,l,r,b,c,d⟩:=qji L P (k:=k) (by lia) k 0 k (Nat.zero_le _) (Nat.le_refl _) (by lia) hs (λi hi=>by lia) (λi hi hk=>by lia)
  have hq:(bubble p k (k-l)).Perm p:=bubble_perm _ _ _
  have G:=qll (p:=p) (src:=k) (d:=k-l) (by rw[P.sz];lia) (by lia)
  have hs2:SPr lt (bubble p k (k-l)) (k+1):=λi j hi hj=>by
   rw[G i,G j]
   have ekl:k-(k-l)=l:=by lia
   rw[ekl]
   by_cases i1:i=l
   ·rw[if_pos i1,if_neg (by lia),if_pos (by lia)]
    exact d (j-1) (by lia) (by lia)
   ·rw[if_neg i1]
    by_cases j1:j=l
    ·rw[if_pos j1,if_neg (by lia)]
     exact c i (by lia)
    ·rw[if_neg j1]
     by_cases i2:l<i
     ·rw[if_pos (by lia),if_pos (by lia)]
      exact hs (i-1) (j-1) (by lia) (by lia)
     ·rw[if_neg (by lia)]
      by_cases j2:l<j
      ·rw[if_pos (by lia)]
       exact hs i (j-1) (by lia) (by lia)
      ·rw[if_neg (by lia)]
       exact hs i j hi (by lia)
  obtain⟨a2,q,r2,e1,e2⟩:=qu1 L f (k+1) _ (hq.trans hp) (by lia) (by lia) hs2
  refine⟨qdd a (by rw[r];exact a2),q,?_,e1.trans hq,by rw[show k+(f+1)=k+1+f by lia];exact e2⟩
  unfold kas_bin
  rw[qcj,r]
  exact r2
theorem qyd(L:LtOk n lt)(h1:1<=n):kOk n lt (kas_sort n)/\∃q,kRun lt (kas_sort n)=q/\q.Perm (List.range n).toArray/\SPr lt q n:=by
 obtain⟨a,m,q,r,b,c,d,e⟩:=qs0 L (.refl _) h1
 by_cases hm:m<n
 ·obtain⟨a2,q2,r2,e1,e2⟩:=qu1 L (n-max m 1) (max m 1) q d (by lia) (by lia) (by rw[Nat.max_eq_left b];exact e)
  refine⟨qdd a ?_,q2,?_,e1.trans d,?_⟩
  ·rw[r,if_pos hm]
   exact a2
  ·unfold kas_sort
   rw[qcj,r,if_pos hm]
   exact r2
  ·rw[show max m 1+(n-max m 1)=n by lia] at e2
   exact e2
 ·have:m=n:=by lia
  subst this
  refine⟨qdd a ?_,q,?_,d,e⟩
  ·rw[r,if_neg hm]
   trivial
  ·unfold kas_sort
   rw[qcj,r,if_neg hm]
   rfl
end
end L2
namespace L2
open PySem PySem.Spec PyProof.Rows PySem.W
def LtA(A:Around)(s:Shared)(x y:Value)(c:Bool):Prop:=∀(prog:Program) (w:World) (E:Value->Shared->Prop) (Q:Value->Shared->Prop),Q (.bool c) s->wpAny (model prog w) A (richCompare .Lt x y) Q E s
def LtC(A:Around)(s:Shared)(p q:Addr)(c:Bool):Prop:=∀(prog:Program) (w:World) (E:Value->Shared->Prop) (Q:Value->Shared->Prop),Q (.bool c) s->wpAny (model prog w) A (call (.builtin "tuple.__lt__") [.ref p,.ref q]) Q E s
def lexV(e l:Nat->Bool)(z:Bool):Nat->Nat->Bool
|0,_=>z
|k+1,i=>if e i=true then lexV e l z k (i+1) else l i
theorem qvw(p q:Addr)(us ws:Array Value)(m k:Nat)(dp dq:Option Addr)(sp sq:Array (Option Value))(e c:Nat->Bool) :
  Meets (Builtin.«tuple.__lt__» ⟨[.ref p,.ref q],[]⟩)
   (λA R s=>s.heap.get? p=some { cls:=.type "tuple",dict:=dp,data:=.seq us m,slots:=sp }/\s.heap.get? q=some { cls:=.type "tuple",dict:=dq,data:=.seq ws k,slots:=sq } /\
    (∀j (h1:j<us.size) (h2:j<ws.size),SeqAt.EqAt A.in1 s us[j] ws[j] (e j))/\(∀j (h1:j<us.size) (h2:j<ws.size),e j=false->LtA A.in1 s us[j] ws[j] (c j)) /\
    R (.ok (.ret (.bool (lexV e c (decide (us.size<ws.size)) (min us.size ws.size) 0)))) s) :=
 .of_wp λprog w A R s h=>by
  obtain⟨h1,g1,d1,t1,o1⟩:=s
  obtain⟨hl,hb,he,hc,hR0⟩:=h
  have f2:=AutoSeq1.sub_tuple_tuple
  have hZ:(us.toList.zip ws.toList).length=min us.size ws.size:=by simp
  wp_walk using wpAny_loadPart' hl,wpAny_loadPart' hb,wpAny_forIn_list _ (λrest b s'=>b.1=none/\s'=⟨h1,g1,d1,t1,o1⟩/\∃i k,i+k=min us.size ws.size/\rest=(us.toList.zip ws.toList).drop i /\
   R (.ok (.ret (.bool (lexV e c (decide (us.size<ws.size)) k i)))) ⟨h1,g1,d1,t1,o1⟩) _
  case turn =>
   rintro⟨y,x⟩ rest b s' ⟨hb',rfl,i,k,hik,hz,hR⟩
   have hm:i<(us.toList.zip ws.toList).length:=by
    apply Nat.lt_of_not_le
    intro z
    rw[List.drop_of_length_le z] at hz
    cases hz
   have l1:i<us.size:=by lia
   have l2:i<ws.size:=by lia
   rw[List.drop_eq_getElem_cons hm] at hz
   injection hz with hyx hrest
   obtain rfl:y=us[i]:=by simpa using congrArg Prod.fst hyx
   obtain rfl:x=ws[i]:=by simpa using congrArg Prod.snd hyx
   obtain⟨k,rfl⟩:∃k',k=k'+1:=⟨k-1,by lia⟩
   have hR':R (.ok (.ret (.bool (if e i=true then lexV e c (decide (us.size<ws.size)) k (i+1) else c i)))) ⟨h1,g1,d1,t1,o1⟩:=hR
   refine wpAny_bind (he i l1 l2 prog w _ _ ?_)
   cases hy:e i with
  |true =>
    rw[hy,if_pos rfl] at hR'
    wp_walk
    exact⟨rfl,rfl,i+1,k,by lia,hrest,hR'⟩
  |false =>
    rw[hy,if_neg (by decide)] at hR'
    simp only[Bool.not_false,if_true]
    refine wpAny_bind (wpAny_rule (wpAny_bind (hc i l1 l2 hy prog w _ _ ?_)))
    wp_walk
    exact⟨_,rfl,hR'⟩
  case fin =>
   rintro⟨b1,b2⟩ s' ⟨hb',rfl,i,k,hik,hz,hR⟩
   simp only at hb'
   subst hb'
   have hk:k=0:=by
    rcases Nat.lt_or_ge i (us.toList.zip ws.toList).length with z|z
    ·rw[List.drop_eq_getElem_cons z] at hz;cases hz
    ·lia
   subst hk
   wp_walk
   exact⟨_,rfl,by simpa [Builtin.Tuple.tupleCompareSizes,lexV] using hR⟩
  case h =>
   exact⟨rfl,rfl,0,_,Nat.zero_add _,rfl,hR0⟩
section
variable {A:Around} {s:Shared} {p q:Addr} {us ws:Array Value} {e c:Nat->Bool}
theorem LtA.tups(hp:s.heap.IsTuple p us)(hq:s.heap.IsTuple q ws)(hu:A.units<cLine)(he:∀j (h1:j<us.size) (h2:j<ws.size),SeqAt.EqAt A.in1 s us[j] ws[j] (e j))
  (hc:∀j (h1:j<us.size) (h2:j<ws.size),e j=false->LtA A.in1 s us[j] ws[j] (c j)):LtA A s (.ref p) (.ref q) (lexV e c (decide (us.size<ws.size)) (min us.size ws.size) 0)/\LtC A s p q (lexV e c (decide (us.size<ws.size)) (min us.size ws.size) 0):=by
 obtain⟨⟨cl1,dp,da1,sp⟩,o1,z1,m,y1⟩:=id hp
 obtain⟨⟨cl2,dq,da2,sq⟩,o2,z2,k,y2⟩:=id hq
 cases z1;cases y1;cases z2;cases y2
 refine⟨λprog w E Q h=>?_,λprog w E Q h=>call_meets F.slot_tuple_lt ⟨_,o1,rfl⟩ F.entry_tuple_lt (F.args_tuple_lt_2 _ _) (qvw p q us ws m k dp dq sp sq e c) ⟨o1,o2,he,hc,h⟩⟩
 exact richCompare_meets_room (op:=.Lt) ⟨_,o1,rfl⟩ ⟨_,o2,rfl⟩ F.slot_tuple_lt F.entry_tuple_lt (F.args_tuple_lt_2 _ _) (qvw p q us ws m k dp dq sp sq e c) ⟨o1,o2,he,hc,(λx=>nomatch x),h⟩ hu
theorem LtA.strs{a b:Str}{t u:Tok}:LtA A s (.str a t) (.str b u) (decide (a.cps.toList<b.cps.toList)):=λprog w E Q h=>by
 refine wpAny_richCompare_same_or (typeIs_str s a t) (typeIs_str s b u) slot_str_lt (call_str_lt (Q:=λv s'=>v≠.notImplemented/\Q v s') ⟨(λx=>nomatch x),h⟩) (.inl rfl)
end
mutual
noncomputable def ltD:D->D->Bool
|.str a,.str b=>decide (a.cps.toList<b.cps.toList)
|.tup ds,.tup es=>ltDs ds es
|_,_=>false
noncomputable def ltDs:List D->List D->Bool
|[],[]=>false
|[],_::_=>true
|_::_,[]=>false
|d::ds,e::es=>if eqD d e=true then ltDs ds es else ltD d e
end
mutual
def ordD:D->D->Bool
|.str _,.str _=>true
|.tup ds,.tup es=>qei ds es
|_,_=>false
def qei:List D->List D->Bool
|d::ds,e::es=>ordD d e&&qei ds es
|_,_=>true
end
mutual
theorem qrc:∀(d e:D),ordD d e=true->cmpD d e=true
|.str _,e,h=>by
  cases e<;>first|rfl|(unfold ordD at h;cases h)
|.tup ds,e,h=>by
  cases e<;>first|(unfold ordD at h;cases h;done)|skip
  rename_i es
  unfold ordD at h
  unfold cmpD
  exact qjh ds es h
|.non,e,h=>by unfold ordD at h;cases h
|.bl _,e,h=>by unfold ordD at h;cases h
|.int _,e,h=>by unfold ordD at h;cases h
|.lst _,e,h=>by unfold ordD at h;cases h
|.dT _ _,e,h=>by unfold ordD at h;cases h
|.dK _ _,e,h=>by unfold ordD at h;cases h
|.scr _,e,h=>by unfold ordD at h;cases h
|.kt _,e,h=>by unfold ordD at h;cases h
|.exc _,e,h=>by unfold ordD at h;cases h
theorem qjh:∀(ds es:List D),qei ds es=true->qcf ds es=true
|[],_,_=>by unfold qcf;rfl
|_::_,[],_=>by unfold qcf;rfl
|d::ds,e::es,h=>by
  unfold qei at h
  rw[Bool.and_eq_true] at h
  unfold qcf
  rw[qrc d e h.1,qjh ds es h.2]
  rfl
end
theorem qnv:∀ {ds es:List D} {j:Nat} {d e:D},qei ds es=true->ds[j]?=some d->es[j]?=some e->ordD d e=true
|[],_,j,_,_,_,q,_=>by simp at q
|_::_,[],j,_,_,_,_,q=>by simp at q
|d::ds,e::es,0,_,_,h,q1,q2=>by
  unfold qei at h
  rw[Bool.and_eq_true] at h
  simp at q1 q2
  rw[←q1,←q2]
  exact h.1
|d::ds,e::es,j+1,_,_,h,q1,q2=>by
  unfold qei at h
  rw[Bool.and_eq_true] at h
  exact qnv h.2 (by simpa using q1) (by simpa using q2)
theorem qic(e l:Nat->Bool)(z:Bool):∀k i,lexV e l z k (i+1)=lexV (λj=>e (j+1)) (λj=>l (j+1)) z k i
|0,_=>rfl
|k+1,i=>by
  show (if e (i+1)=true then lexV e l z k (i+1+1) else l (i+1))=if e (i+1)=true then lexV (λj=>e (j+1)) (λj=>l (j+1)) z k (i+1) else l (i+1)
  rw[qic e l z k (i+1)]
theorem qve:∀ds es:List D,lexV (λj=>eqD (ds.getD j .non) (es.getD j .non)) (λj=>ltD (ds.getD j .non) (es.getD j .non)) (decide (ds.length<es.length)) (min ds.length es.length) 0=ltDs ds es
|[],[]=>by unfold ltDs;rfl
|[],_::_=>by unfold ltDs;simp[lexV]
|_::_,[]=>by unfold ltDs;simp[lexV]
|d::ds,e::es=>by
  have ih:=qve ds es
  rw[List.length_cons,List.length_cons,Nat.add_min_add_right]
  show (if eqD d e=true then lexV _ _ _ (min ds.length es.length) (0+1) else ltD d e)=_
  rw[qic]
  unfold ltDs
  have ed:decide (ds.length+1<es.length+1)=decide (ds.length<es.length):=decide_eq_decide.mpr (by lia)
  rw[ed]
  have h2:lexV (λj=>eqD ((d::ds).getD (j+1) .non) ((e::es).getD (j+1) .non)) (λj=>ltD ((d::ds).getD (j+1) .non) ((e::es).getD (j+1) .non)) (decide (ds.length<es.length)) (min ds.length es.length) 0=ltDs ds es:=ih
  rw[h2]
section
variable {X:Cx} {pins:List (Addr×Obj)} {σ:St} {H:Hp} {s:Shared}
theorem qvg{A:Around}(I:Inv X pins σ H s){a b:Addr}{ds es:List D}{xs ys:List V}(ha:SqT X.K H a xs)(hb:SqT X.K H b ys)(r1:Reps X.K H ds xs)(r2:Reps X.K H es ys)(ho:qei ds es=true)(hu:A.units+qb3 ds+1<cLine)
  (ih:∀d∈ds,∀(e:D) (v z:V) (u w:Value),Rep X.K H d v->Rep X.K H e z->RelV v u->RelV z w->ordD d e=true->LtA A.in1 s u w (ltD d e)):LtA A s (.ref a) (.ref b) (ltDs ds es)/\LtC A s a b (ltDs ds es):=by
 obtain⟨its,v1,p1,_⟩:=I.tuple ha
 obtain⟨its2,v2,p2,_⟩:=I.tuple hb
 have hc:=qjh ds es ho
 have ihe:∀d∈ds,∀(e:D) (v z:V) (u w:Value),Rep X.K H d v->Rep X.K H e z->RelV v u->RelV z w->cmpD d e=true->SeqAt.EqAt A.in1 s u w (eqD d e):=λd hd e v z u w h1 h2 h3 h4 h5 =>
  qgf I _ A.in1 d e v z u w (Nat.le_refl _) h1 h2 h3 h4 h5 (by have:=qc3 hd;have un:A.in1.units=A.units+1:=rfl;lia)
 have:=LtA.tups (A:=A) (s:=s) (e:=λj=>eqD (ds.getD j .non) (es.getD j .non)) (c:=λj=>ltD (ds.getD j .non) (es.getD j .non)) (show s.heap.IsTuple a its.toArray from p1) (show s.heap.IsTuple b its2.toArray from p2) (by lia) (qhb r1 r2 v1 v2 hc ihe) ?_
 ·rw[List.size_toArray,List.size_toArray,←v1.length,←v2.length,←r1.length,←r2.length,qve] at this
  exact this
 ·intro j h1 h2 _
  have l1:j<ds.length:=by rw[r1.length,v1.length];simpa using h1
  have l2:j<es.length:=by rw[r2.length,v2.length];simpa using h2
  obtain⟨x,qx,rx⟩:=r1.at (List.getElem?_eq_getElem l1)
  obtain⟨y,qy,ry⟩:=r2.at (List.getElem?_eq_getElem l2)
  obtain⟨ux,e1,rux⟩:=v1.get qx
  obtain⟨uy,e2,ruy⟩:=v2.get qy
  have e1':its.toArray[j]=ux:=by
   have z:its[j]?=some its.toArray[j]:=by simp
   rw[e1] at z
   exact(Option.some.inj z).symm
  have e2':its2.toArray[j]=uy:=by
   have z:its2[j]?=some its2.toArray[j]:=by simp
   rw[e2] at z
   exact(Option.some.inj z).symm
  have e3:ds.getD j .non=ds[j]:=by simp[List.getD_eq_getElem?_getD,l1]
  have e4:es.getD j .non=es[j]:=by simp[List.getD_eq_getElem?_getD,l2]
  rw[e1',e2',e3,e4]
  exact ih ds[j] (List.getElem_mem l1) es[j] x y ux uy rx ry rux ruy (qnv ho (List.getElem?_eq_getElem l1) (List.getElem?_eq_getElem l2))
theorem qq3(I:Inv X pins σ H s):∀(n:Nat) (A:Around) (d e:D) (v z:V) (u w:Value),sizeOf d<=n->Rep X.K H d v->Rep X.K H e z->RelV v u->RelV z w->ordD d e=true->A.units+depD d<cLine->LtA A s u w (ltD d e)
|0,_,d,_,_,_,_,_,hn,_,_,_,_,_,_=>by cases d<;>simp at hn
|n+1,A,d,e,v,z,u,w,hn,hd,he,ru,rw',ho,hu=>by
  have un:A.in1.units=A.units+1:=rfl
  cases d with
 |str a =>
   cases e with
  |str b =>
    unfold Rep at hd he
    subst hd he
    obtain⟨t1,rfl⟩:=ru
    obtain⟨t2,rfl⟩:=rw'
    unfold ltD
    exact LtA.strs
  |_=>unfold ordD at ho;cases ho
 |tup ds =>
   cases e with
  |tup es =>
    unfold Rep at hd he
    obtain⟨a,xs,rfl,ha,r1⟩:=hd
    obtain⟨b,ys,rfl,hb,r2⟩:=he
    cases ru
    cases rw'
    unfold ordD at ho
    unfold ltD
    unfold depD at hu
    refine(qvg I ha.sq hb.sq r1 r2 ho (by lia) λd hd e v z u w h1 h2 h3 h4 h5=>qq3 I n A.in1 d e v z u w ?_ h1 h2 h3 h4 h5 ?_).1
    ·have:=List.sizeOf_lt_of_mem hd
     simp at hn
     lia
    ·have:=qc3 hd
     lia
  |_=>unfold ordD at ho;cases ho
 |_=>unfold ordD at ho;cases ho
end
end L2
namespace L2
open PySem PySem.Spec PyProof.Rows PySem.W
section
variable {X:Cx} {pins:List (Addr×Obj)} {σ:St} {H:Hp} {s:Shared} {E:Value->Shared->Prop}
theorem qml(I:Inv X pins σ H s){A:Around}(c:Bool){d e:D}{v z:V}{u w:Value}{Q:Bool->Shared->Prop}(hd:Rep X.K H d v)(he:Rep X.K H e z)(ru:RelV v u)(rw':RelV z w)(ho:ordD d e=true)(hu:A.units+depD d+1<cLine)(h:Q (ltD d e) s) :
  wpAny (model X.prog X.w) A (oneLt' c u w) Q E s:=by
 have L:=qq3 I _ A d e v z u w (Nat.le_refl _) hd he ru rw' ho (by lia)
 cases c with
|false=>exact kat_one u w (L X.prog X.w E (PySem.W.BoolBack Q) h)
|true =>
  cases d with
 |str a =>
   cases e with
  |str b =>
    unfold Rep at hd he
    subst hd he
    obtain⟨t1,rfl⟩:=ru
    obtain⟨t2,rfl⟩:=rw'
    unfold ltD at h
    exact oneLt_str h
  |_=>unfold ordD at ho;cases ho
 |tup ds =>
   cases e with
  |tup es =>
    unfold Rep at hd he
    obtain⟨a,xs,rfl,ha,r1⟩:=hd
    obtain⟨b,ys,rfl,hb,r2⟩:=he
    cases ru
    cases rw'
    unfold ordD at ho
    unfold ltD at h
    unfold depD at hu
    have C:=(qvg (A:=A) I ha.sq hb.sq r1 r2 ho (by lia) λd hd e v z u w h1 h2 h3 h4 h5=>qq3 I _ A.in1 d e v z u w (Nat.le_refl _) h1 h2 h3 h4 h5 (by have:=qc3 hd;have un:A.in1.units=A.units+1:=rfl;lia)).2
    obtain⟨its,_,pl,_⟩:=I.tuple ha.sq
    rw[oneLt'_eq]
    simp only[if_true]
    refine wpAny_bind (wpAny_cRoomFor (by lia) (wpAny_bind (wpAny_callSpecialIfBound?_slot pl.typeIs F.slot_tuple_lt (C X.prog X.w _ _ ?_))))
    exact wpAny_truthy_bool h
  |_=>unfold ordD at ho;cases ho
 |_=>unfold ordD at ho;cases ho
theorem qz0(I:Inv X pins σ H s){A:Around}{b z:Bool}{Q:Bool->Shared->Prop}:∀(ds es:List D) (xs ys:List V) (us ws:List Value) (i:Nat),Reps X.K H ds xs->Reps X.K H es ys->Vals xs us->Vals ys ws->qei ds es=true->A.units+qb3 ds+1<cLine->decide (ds.length<es.length)=z->Q (ltDs ds es) s ->
  KatLex X.prog X.w A b z Q (us.zip ws) i s
|[],es,xs,ys,us,ws,i,r1,r2,v1,v2,ho,hu,hz,h=>by
  have e1:=r1.length
  have e2:=v1.length
  have:us=[]:=List.length_eq_zero_iff.mp (by rw[←e2,←e1];rfl)
  subst this
  rw[List.zip_nil_left]
  refine kat_nil ?_
  cases es with
 |nil=>unfold ltDs at h;rw[←hz];exact h
 |cons e es=>unfold ltDs at h;rw[←hz];simpa using h
|d::ds,[],xs,ys,us,ws,i,r1,r2,v1,v2,ho,hu,hz,h=>by
  have e1:=r2.length
  have e2:=v2.length
  have:ws=[]:=List.length_eq_zero_iff.mp (by rw[←e2,←e1];rfl)
  subst this
  rw[List.zip_nil_right]
  refine kat_nil ?_
  unfold ltDs at h
  rw[←hz]
  simpa using h
|d::ds,e::es,xs,ys,us,ws,i,r1,r2,v1,v2,ho,hu,hz,h=>by
  unfold Reps at r1 r2
  obtain⟨x,xs,rfl,rx,r1⟩:=r1
  obtain⟨y,ys,rfl,ry,r2⟩:=r2
  cases v1 with
 |cons ru v1 =>
  cases v2 with
 |cons rw' v2 =>
  rename_i u us w ws
  unfold qei at ho
  rw[Bool.and_eq_true] at ho
  have hd1:depD d<=qb3 (d::ds):=qc3 (List.mem_cons_self ..)
  have hd2:qb3 ds<=qb3 (d::ds):=by show _<=max (depD d) (qb3 ds);lia
  show KatLex X.prog X.w A b z Q ((u,w)::us.zip ws) i s
  refine kat_cons (qgf I _ A d e x y u w (Nat.le_refl _) rx ry ru rw' (qrc d e ho.1) (by lia) X.prog X.w _ _ ?_)
  unfold ltDs at h
  cases he:eqD d e with
 |true =>
   rw[he,if_pos rfl] at h
   refine kat_yes (qz0 I ds es xs ys us ws (i+1) r1 r2 v1 v2 ho.2 (by lia) ?_ h)
   rw[←hz,List.length_cons,List.length_cons]
   exact decide_eq_decide.mpr (by lia)
 |false =>
   rw[he,if_neg (by decide)] at h
   exact kat_no (qml I _ rx ry ru rw' ho.1 (by lia) h)
theorem qwj(I:Inv X pins σ H s){A:Around}(κ:SortKind){ds es:List D}{v z:V}{u w:Value}{Q:Bool->Shared->Prop}(hd:Rep X.K H (.tup ds) v)(he:Rep X.K H (.tup es) z)(ru:RelV v u)(rw':RelV z w)(ho:qei ds es=true)(hu:A.units+qb3 ds+2<cLine)(h:Q (ltDs ds es) s) :
  wpAny (model X.prog X.w) A (keyLt' κ u w) Q E s:=by
 have hl:ltD (.tup ds) (.tup es)=ltDs ds es:=by unfold ltD;rfl
 have ho':ordD (.tup ds) (.tup es)=true:=by unfold ordD;exact ho
 have hdp:depD (.tup ds)=qb3 ds+1:=by unfold depD;rfl
 have one:∀c,wpAny (model X.prog X.w) A (oneLt' c u w) Q E s:=λc=>qml I c hd he ru rw' ho' (by lia) (by rw[hl];exact h)
 cases κ with
|general=>exact one false
|oneType=>exact one true
|tuples b =>
  unfold Rep at hd he
  obtain⟨a,xs,rfl,ha,r1⟩:=hd
  obtain⟨c,ys,rfl,hb,r2⟩:=he
  cases ru
  cases rw'
  obtain⟨its,v1,p1,_⟩:=I.tuple ha.sq
  obtain⟨its2,v2,p2,_⟩:=I.tuple hb.sq
  obtain⟨o1,q1,_,n1,y1⟩:=id p1
  obtain⟨o2,q2,_,n2,y2⟩:=id p2
  refine kat_lt q1 y1 q2 y2 ?_
  refine qz0 I ds es xs ys _ _ 0 r1 r2 v1 v2 ho (by lia) ?_ h
  rw[r1.length,r2.length,v1.length,v2.length]
  simp
end
end L2
namespace L2
open PySem PySem.Spec PyProof.Rows PySem.W
section
variable {M:Model} {A:Around} {E:Value->Shared->Prop} {s:Shared}
theorem qjb{α β:Type}{f:α->Sem β}{P:β->Prop}:∀(l:List α) {Q:List β->Shared->Prop},(∀v∈l,∀(Q':β->Shared->Prop),(∀r,P r->Q' r s)->wpAny M A (f v) Q' E s)->(∀rs,(∀r∈rs,P r)->Q rs s)->wpAny M A (l.mapM f) Q E s
|[],_,_,h=>by rw[List.mapM_nil];exact wpAny_pure (h [] (by simp))
|x::l,Q,hf,h=>by
  rw[List.mapM_cons]
  refine wpAny_bind (hf x (List.mem_cons_self ..) _ λr hr=>wpAny_bind (qjb l (λv hv=>hf v (List.mem_cons_of_mem _ hv)) λrs hrs=>wpAny_pure (h _ λy hy=>?_)))
  rcases List.mem_cons.mp hy with rfl|hy
  ·exact hr
  ·exact hrs y hy
def TyOk(h:Heap)(u:Value):Prop:=∃T,∀M:Model,Looks M h (typeOf u) T
theorem qhj{vs:Array Value}{Q:Option Value->Shared->Prop}(ht:∀u∈vs.toList,TyOk s.heap u)(h:∀r,Q r s):wpAny M A (oneTypeOnly' vs) Q E s:=by
 rw[oneTypeOnly'_eq]
 obtain⟨vs⟩:=vs
 rw[List.mapM_toArray,map_eq_pure_bind]
 refine wpAny_bind (wpAny_bind (qjb (P:=λ_=>True) vs (λv hv Q' hq=>?_) λrs _=>wpAny_pure ?_))
 ·obtain⟨T,hT⟩:=ht v hv
  exact(hT M).here (hq T trivial)
 ·cases rs.toArray[0]? with
 |none=>exact wpAny_pure (h _)
 |some t=>exact wpAny_pure (h _)
theorem kind_any{vs:List Value}{Q:SortKind->Shared->Prop}(ht:∀v∈vs,∃(a:Addr) (o:Obj) (us:Array Value) (n:Nat),v=.ref a/\s.heap.get? a=some o/\o.cls=.type "tuple" /\ o.data=.seq us n/\∀f,us[0]?=some f->TyOk s.heap f)(h:∀κ,Q κ s):wpAny M A (keyKind' vs.toArray) Q E s:=by
 have tr:∀(a:Addr) (o:Obj),s.heap.get? a=some o->∀M:Model,Looks M s.heap (typeOf (.ref a)) o.cls:=λa o ho M=>(Looks.ld ho).andThen .now
 rw[keyKind'_eq,List.mapM_toArray,map_eq_pure_bind]
 refine wpAny_bind (wpAny_bind (qjb (P:=λr=>∀f,r=some f->TyOk s.heap f) vs (λv hv Q' hq=>?_) λrs hrs=>wpAny_pure ?_))
 ·obtain⟨a,o,us,n,rfl,ho,hc,hd,hf⟩:=ht v hv
  rw[kas_first_eq]
  refine wpAny_bind ((tr a o ho M).here ?_)
  rw[hc,if_neg (by simp)]
  exact wpAny_bind (listItems_at ho hd (wpAny_pure (hq _ λf e=>hf f e)))
 ·split
  ·refine wpAny_bind (wpAny_rule (wpAny_bind (qhj (λu hu=>?_) λr=>wpAny_pure (h _))))
   have hu':u∈rs.filterMap id:=by simpa using hu
   obtain⟨r,hr,e⟩:=List.mem_filterMap.mp hu'
   exact hrs r hr u e
  ·split
   ·exact wpAny_pure (h _)
   ·refine wpAny_bind (qhj (λu hu=>?_) λr=>?_)
    ·obtain⟨a,o,us,n,rfl,ho,_⟩:=ht u hu
     exact⟨o.cls,tr a o ho⟩
    ·split<;>exact wpAny_pure (h _)
end
section
variable {K:PySem.W.Frag} {H:Hp}
theorem Reps.pick{ds:List D}{xs:List V}(r:Reps K H ds xs):∀l:List Nat,(∀i∈l,i<ds.length)->Reps K H (l.map λi=>ds.getD i .non) (l.map λi=>xs.getD i .non)
|[],_=>.nil
|i::l,h=>by
  have hi:=h i (List.mem_cons_self ..)
  obtain⟨x,hx,rx⟩:=r.at (List.getElem?_eq_getElem hi)
  refine .cons ?_ (r.pick l λj hj=>h j (List.mem_cons_of_mem _ hj))
  have e1:ds.getD i .non=ds[i]:=by simp[List.getD_eq_getElem?_getD,hi]
  have e2:xs.getD i .non=x:=by simp[List.getD_eq_getElem?_getD,hx]
  show Rep K H (ds.getD i .non) (xs.getD i .non)
  rw[e1,e2]
  exact rx
theorem Vals.pick{xs:List V}{us:List Value}(r:Vals xs us):∀l:List Nat,(∀i∈l,i<xs.length)->Vals (l.map λi=>xs.getD i .non) (l.map λi=>us.getD i Value.none)
|[],_=>.nil
|i::l,h=>by
  have hi:=h i (List.mem_cons_self ..)
  obtain⟨u,hu,ru⟩:=r.get (List.getElem?_eq_getElem hi)
  refine .cons ?_ (Vals.pick r l λj hj=>h j (List.mem_cons_of_mem _ hj))
  have e1:xs.getD i .non=xs[i]:=by simp[List.getD_eq_getElem?_getD,hi]
  have e2:us.getD i Value.none=u:=by simp[List.getD_eq_getElem?_getD,hu]
  show RelV (xs.getD i .non) (us.getD i Value.none)
  rw[e1,e2]
  exact ru
end
def qzw:D->Bool
|.str _=>true
|.tup _=>true
|_=>false
structure SortD(ds:List D):Prop where
 tup:(∀d∈ds,∃es,d=.tup es/\qb3 es<=20/\∀x,es[0]?=some x->qzw x=true)\/∀d∈ds,∃z,d=.str z
 ord:∀d∈ds,∀e∈ds,ordD d e=true
 tr:∀a∈ds,∀b∈ds,∀c∈ds,ltD a b=true->ltD b c=true->ltD a c=true
 as:∀a∈ds,∀b∈ds,ltD a b=true->ltD b a=false
 tot:∀a∈ds,∀b∈ds,a≠b->ltD a b=true\/ltD b a=true
 nd:ds.Nodup
theorem getD_mem{ds:List D}{i:Nat}(h:i<ds.length):ds.getD i .non∈ds:=by
 have e1:ds.getD i .non=ds[i]:=by simp[List.getD_eq_getElem?_getD,h]
 rw[e1]
 exact List.getElem_mem h
theorem SortD.ltOk{ds:List D}(S:SortD ds):LtOk ds.length λi j=>ltD (ds.getD i .non) (ds.getD j .non) where
 tr:=λa b c ha hb hc=>S.tr _ (getD_mem ha) _ (getD_mem hb) _ (getD_mem hc)
 as:=λa b ha hb=>S.as _ (getD_mem ha) _ (getD_mem hb)
 tot:=λa b ha hb ne=>S.tot _ (getD_mem ha) _ (getD_mem hb) λe=>ne (by
  have e1:ds.getD a .non=ds[a]:=by simp[List.getD_eq_getElem?_getD,ha]
  have e2:ds.getD b .non=ds[b]:=by simp[List.getD_eq_getElem?_getD,hb]
  rw[e1,e2] at e
  exact(List.getElem_inj S.nd).mp e)
end L2
namespace L2
open PySem PySem.Spec PyProof.Rows PySem.W
theorem range_getD(vs:List Value):((List.range vs.length).map λi=>vs.getD i Value.none)=vs:=by
 apply List.ext_getElem
 ·simp
 ·intro i h1 h2
  simp[List.getD_eq_getElem?_getD,h2]
section
variable {X:Cx} {pins:List (Addr×Obj)} {σ:St} {H:Hp} {s:Shared} {E:Value->Shared->Prop}
theorem q29(I:Inv X pins σ H s){A:Around}{ds:List D}{xs:List V}{vs:List Value}(r:Reps X.K H ds xs)(v:Vals xs vs)(S:SortD ds)(h2:2<=vs.length)(h64:vs.length<64)(hu:A.units+30<cLine)(κ:SortKind)(hκ:(∀d∈ds,∃z,d=.str z)->2<=ds.length->κ=oneType'){Q:SortSt->Shared->Prop}
  (h:∀(st:SortSt) (q:Array Nat),q.Perm (List.range ds.length).toArray->SPr (λi j=>ltD (ds.getD i .non) (ds.getD j .non)) q ds.length->(arrOf st).map (·.2)=List.toArray (q.toList.map λi=>vs.getD i Value.none)->failedOf st=none->Q st s) :
  wpAny (model X.prog X.w) A ((sortRuns').run (SortSt.mk' κ (vs.toArray.zip vs.toArray) #[] 7 none)) (λr s'=>Q r.2 s') E s:=by
 have hl:ds.length=vs.length:=r.length.trans v.length
 obtain⟨ok,q,hq,hp,hs⟩:=qyd S.ltOk (by lia)
 refine kat_run (ks:=vs) (vs:=vs) (G:=λp s'=>p=q/\s'=s) rfl h2 h64 (λp st s' hz ha hf hg=>?_) ?_
 ·obtain⟨rfl,rfl⟩:=hg
  exact h st p hp hs (kat_snds rfl ha) hf
 ·rw[←hl]
  refine qqs (n:=ds.length) (lt:=λi j=>ltD (ds.getD i .non) (ds.getD j .non)) (P:=λs'=>s'=s) (λi j C s' hi hj hs' hC=>?_) _ s ok rfl λs' hs'=>⟨hq,hs'⟩
  subst hs'
  obtain⟨x,hx,rx⟩:=r.at (List.getElem?_eq_getElem hi)
  obtain⟨y,hy,ry⟩:=r.at (List.getElem?_eq_getElem hj)
  obtain⟨u,eu,ru⟩:=v.get hx
  obtain⟨w,ew,rw'⟩:=v.get hy
  have e1:ds.getD i .non=ds[i]:=by simp[List.getD_eq_getElem?_getD,hi]
  have e2:ds.getD j .non=ds[j]:=by simp[List.getD_eq_getElem?_getD,hj]
  have e3:vs.getD i Value.none=u:=by simp[List.getD_eq_getElem?_getD,eu]
  have e4:vs.getD j Value.none=w:=by simp[List.getD_eq_getElem?_getD,ew]
  have m1:ds[i]∈ds:=List.getElem_mem hi
  have m2:ds[j]∈ds:=List.getElem_mem hj
  have ho:=S.ord _ m1 _ m2
  have hC':=hC s' rfl
  rw[e1,e2] at hC'
  show wpAny (model X.prog X.w) A (keyLt' κ (vs.getD i Value.none) (vs.getD j Value.none)) C (λ_ _=>False) s'
  rw[e3,e4]
  rcases S.tup with T|T
  ·obtain⟨es,ee,he,_⟩:=T _ m1
   obtain⟨fs,ef,_,_⟩:=T _ m2
   rw[ee,ef] at hC'
   rw[ee,ef] at ho
   rw[ee] at rx
   rw[ef] at ry
   have hlt:ltD (.tup es) (.tup fs)=ltDs es fs:=by unfold ltD;rfl
   have hoo:qei es fs=true:=by unfold ordD at ho;exact ho
   rw[hlt] at hC'
   exact qwj I κ rx ry ru rw' hoo (by lia) hC'
  ·rw[hκ T (by lia),keyLt'_oneType]
   exact qml I true rx ry ru rw' ho (by obtain⟨z,ez⟩:=T _ m1;rw[ez];unfold depD;lia) hC'
theorem qq2{A:Around}{a:Addr}{n:Nat}{ds:List D}{xs:List V}{vs:List Value}{P:Fin->Shared->Prop}(ho:s.heap.get? a=some (seqObj "list" vs.toArray n))
  (I:∀h',(∀b o,b≠a->s.heap.get? b=some o->h'.get? b=some o)->Inv X pins σ H { s with heap:=h' }) (r:Reps X.K H ds xs) (v:Vals xs vs) (S:SortD ds) (h64:vs.length<64) (hu:A.units+30<cLine)
  (h:∀(q:List Nat) (h':Heap) (m:Nat),q.Perm (List.range ds.length)->q.Pairwise (λi j=>ltD (ds.getD i .non) (ds.getD j .non)=true)->(∀b o,b≠a->s.heap.get? b=some o->h'.get? b=some o)->h'.get? a=some (seqObj "list" (q.map λi=>vs.getD i Value.none).toArray m) ->
   P (.done (.ret .none)) { s with heap:=h' }):wpAny (model X.prog X.w) A (Builtin.«list.sort» ⟨[.ref a],[]⟩) P E s:=by
 have hl:ds.length=vs.length:=r.length.trans v.length
 have small:∀k,k<64->k<=sizeLine:=λk hk=>Nat.le_trans (Nat.le_of_lt hk) (by decide)
 rw[list_sort_plain]
 have ha:a<s.heap.objs.size:=Heap.lt_size ho
 have hz:vs.toArray.size<=sizeLine:=by rw[List.size_toArray];exact small _ h64
 refine wpAny_bind (listItems_at ho rfl (wpAny_bind (listUpdate_at ho rfl ?_ hz (Nat.zero_le _))))
 generalize e1:s.heap.update a (Obj.mapSeq λ_=>#[])=h1
 obtain⟨m1,ho1⟩:∃m1,h1.get? a=some (seqObj "list" #[] m1):=⟨_,by rw[←e1];exact get?_update_seq ho (λ_=>#[])⟩
 have k1:∀b o,b≠a->s.heap.get? b=some o->h1.get? b=some o:=λb o hb hq=>by
  rw[←e1,Heap.get?_update_ne _ _ _ _ hb]
  exact hq
 refine wpAny_bind (seqEpoch_at (s:={ s with heap:=h1 }) ho1 rfl (wpAny_bind (wpAny_newTuple ?_ (small _ h64))))
 generalize e2:h1.push { cls:=.type "tuple",data:=.seq vs.toArray }=h2
 have k2:∀b o,h1.get? b=some o->h2.get? b=some o:=λb o hq=>by rw[←e2];exact Heap.get?_push_of_some _ hq
 refine wpAny_bind (wpAny_newList ?_ (Nat.zero_le _))
 generalize e3:Heap.push _ _=h3
 have k3:∀b o,h2.get? b=some o->h3.get? b=some o:=λb o hq=>by rw[←e3];exact Heap.get?_push_of_some _ hq
 have ho3:h3.get? a=some (seqObj "list" #[] m1):=k3 _ _ (k2 _ _ ho1)
 have kk:∀b o,b≠a->s.heap.get? b=some o->h3.get? b=some o:=λb o hb hq=>k3 _ _ (k2 _ _ (k1 b o hb hq))
 have I3:Inv X pins σ H { s with heap:=h3 }:=I h3 kk
 refine wpAny_holding ?_
 show wpAny (model X.prog X.w) A _ P E { s with heap:=h3 }
 have fin:∀(q:List Nat) (out:Array Value),q.Perm (List.range ds.length)->q.Pairwise (λi j=>ltD (ds.getD i .non) (ds.getD j .non)=true)->out=(q.map λi=>vs.getD i Value.none).toArray ->
   P (.done (.ret .none)) { s with heap:=h3.update a (Obj.mapSeq λ_=>out) }:=λq out hq hp e=>by
  subst e
  refine h q _ _ hq hp (λb o hb hs=>?_) (get?_update_seq ho3 (λ_=>_))
  rw[Heap.get?_update_ne _ _ _ _ hb]
  exact kk b o hb hs
 dsimp only
 by_cases h2':vs.toArray.size<2
 ·rw[if_pos h2']
  refine wpAny_bind (wpAny_pure ?_)
  rw[if_pos h2',StateT.run_pure]
  refine wpAny_bind (wpAny_pure ?_)
  dsimp only
  refine wpAny_bind (seqEpoch_at (s:={ s with heap:=h3 }) ho3 rfl (wpAny_bind (listUpdate_at (s:={ s with heap:=h3 }) ho3 rfl ?_ (Nat.zero_le _) ?_)))
  ·simp only[bne_self_eq_false,Bool.false_eq_true,if_false]
   refine wpAny_pure (fin (List.range ds.length) _ (List.Perm.refl _) ?_ ?_)
   ·rw[List.size_toArray] at h2'
    rw[List.pairwise_iff_getElem]
    intro i j hi hj hij
    simp at hi hj
    lia
   ·apply Array.toList_inj.mp
    show (Array.map (λx:Value×Value=>x.2) (vs.toArray.zip vs.toArray)).toList=_
    rw[hl,range_getD]
    simp only[Array.toList_map,Array.toList_zip]
    exact List.map_snd_zip (Nat.le_refl _)
  ·show (Array.map (λx:Value×Value=>x.2) (vs.toArray.zip vs.toArray)).size<=_
   simp
   have:=small _ h64
   lia
 ·rw[if_neg h2']
  have h2v:2<=vs.length:=by rw[List.size_toArray] at h2';lia
  have kind:∀Q:SortKind->Shared->Prop,(∀κ,((∀d∈ds,∃z,d=.str z)->2<=ds.length->κ=oneType')->Q κ { s with heap:=h3 })->wpAny (model X.prog X.w) A (keyKind' vs.toArray) Q E { s with heap:=h3 }:=λQ hQ=>by
   rcases S.tup with T|T
   case inr =>
    refine kas_kind (T:=.type "str") (s:={ s with heap:=h3 }) h2v (λu hu=>?_) (by decide) (by decide) (hQ _ λ_ _=>rfl)
    obtain⟨i,hi,rfl⟩:=List.mem_iff_getElem.mp hu
    have hi2:i<ds.length:=by lia
    obtain⟨x,hx,rx⟩:=r.at (List.getElem?_eq_getElem hi2)
    obtain⟨u',eu,ru⟩:=v.get hx
    rw[List.getElem?_eq_getElem hi] at eu
    cases eu
    obtain⟨z,ez⟩:=T _ (List.getElem_mem hi2)
    rw[ez] at rx
    unfold Rep at rx
    subst rx
    obtain⟨t,et⟩:=ru
    rw[et]
    exact .now
   refine kind_any (s:={ s with heap:=h3 }) (λu hu=>?_) λκ=>hQ κ λhstr hlen=>?b
   case b =>
    have m0:ds[0]'(by lia)∈ds:=List.getElem_mem _
    obtain⟨es,ee,_⟩:=T _ m0
    obtain⟨z,ez⟩:=hstr _ m0
    rw[ee] at ez
    cases ez
   obtain⟨i,hi,rfl⟩:=List.mem_iff_getElem.mp hu
   have hi2:i<ds.length:=by lia
   obtain⟨x,hx,rx⟩:=r.at (List.getElem?_eq_getElem hi2)
   obtain⟨u',eu,ru⟩:=v.get hx
   rw[List.getElem?_eq_getElem hi] at eu
   cases eu
   obtain⟨es,ee,he,hk⟩:=T _ (List.getElem_mem hi2)
   rw[ee] at rx
   unfold Rep at rx
   obtain⟨b,ys,rfl,hb,r1⟩:=rx
   obtain⟨its,v1,p1,_⟩:=I3.tuple hb.sq
   obtain⟨o1,q1,c1,n1,y1⟩:=id p1
   refine⟨b,o1,its.toArray,n1,ru,q1,c1,y1,λf hf=>?_⟩
   have hf':its[0]?=some f:=by simpa using hf
   have h0:0<es.length:=by
    rw[r1.length,v1.length]
    exact(List.getElem?_eq_some_iff.mp hf').1
   obtain⟨y,hy,ry⟩:=r1.at (List.getElem?_eq_getElem h0)
   obtain⟨f',ef,rf⟩:=v1.get hy
   rw[hf'] at ef
   cases ef
   have hkey:=hk _ (List.getElem?_eq_getElem h0)
   generalize es[0]=d0 at hkey ry
   cases d0 with
  |str z =>
    unfold Rep at ry
    subst ry
    obtain⟨t,rfl⟩:=rf
    exact⟨.type "str",λM=>.now⟩
  |tup gs =>
    unfold Rep at ry
    obtain⟨c,zs,rfl,hc,_⟩:=ry
    cases rf
    obtain⟨its3,_,p3,_⟩:=I3.tuple hc.sq
    obtain⟨o3,q3,_⟩:=id p3
    exact⟨o3.cls,λM=>(Looks.ld q3).andThen .now⟩
  |_=>cases hkey
  refine wpAny_bind (kind _ λκ hκ=>?_)
  ·rw[if_neg h2']
   refine wpAny_bind (wpAny_mono (q29 I3 r v S h2v h64 hu κ hκ (Q:=λst s'=>s'={ s with heap:=h3 }/\∃q:Array Nat,q.Perm (List.range ds.length).toArray/\SPr (λi j=>ltD (ds.getD i .non) (ds.getD j .non)) q ds.length/\(arrOf st).map (·.2)=List.toArray (q.toList.map λi=>vs.getD i Value.none)/\failedOf st=none)
    λst q a1 a2 a3 a4=>⟨rfl,q,a1,a2,a3,a4⟩) ?_ λ_ _ z=>z)
   rintro⟨⟨⟩,st⟩ s' ⟨rfl,q,a1,a2,a3,a4⟩
   have hql:q.toList.length=ds.length:=by
    have:=a1.size_eq
    simpa using this
   dsimp only
   refine wpAny_bind (seqEpoch_at (s:={ s with heap:=h3 }) ho3 rfl (wpAny_bind (listUpdate_at (s:={ s with heap:=h3 }) ho3 rfl ?_ (Nat.zero_le _) ?_)))
   ·rw[a4]
    simp only[bne_self_eq_false,Bool.false_eq_true,if_false]
    refine wpAny_pure (fin q.toList _ ?_ ?_ a3)
    ·have:=a1.toList
     simpa using this
    ·rw[List.pairwise_iff_getElem]
     intro i j hi hj hij
     have:=a2 i j hij (by lia)
     have g1:q.getD i 0=q.toList[i]:=by rw[qda];simp[Array.getElem?_eq_getElem (show i<q.size by simpa using hi)]
     have g2:q.getD j 0=q.toList[j]:=by rw[qda];simp[Array.getElem?_eq_getElem (show j<q.size by simpa using hj)]
     rw[g1,g2] at this
     exact this
   ·show ((arrOf st).map (·.2)).size<=_
    rw[a3]
    simp
    have:=small _ h64
    have:q.size=ds.length:=by simpa using hql
    lia
theorem qlm(hu:X.A.units+60<cLine):CallR X (.builtin "sorted") (λxs H Q=>∃p ys ds,xs=[.ref p]/\SqL X.K H p ys/\Reps X.K H ds ys/\SortD ds/\ds.length<64/\∀l (q:List Nat),H l=none->q.Perm (List.range ds.length)->q.Pairwise (λi j=>ltD (ds.getD i .non) (ds.getD j .non)=true)->Q (.ref l) (upd H l (.lst (q.map λi=>ys.getD i .non)))):=by
 intro pins s σ H xs us Q I rx h
 obtain⟨p,ys,ds,rfl,hp,r,S,h64,hq⟩:=h
 obtain⟨u,rfl,ru⟩:=vals1 rx
 cases ru
 obtain⟨its,v,pl,hz⟩:=I.list hp
 have hl:ds.length=its.length:=r.length.trans v.length
 refine Calls.call_function_entry kind_sorted plain_sorted entry_sorted (args_sorted1 _) ?_
 unfold Builtin.«sorted»
 refine wpAny_bind (m:=checkCount "sorted" 1 1 _) (wpAny_pure ?_)
 have hz':its.length<=sizeLine:=by rw[←v.length];exact hz
 refine wpAny_bind (collect_list pl.isList (wpAny_bind (wpAny_newList ?_ hz')) hz')
 generalize e1:(s.heap.push (seqObj "list" #[] 0)).update s.heap.objs.size _=h1
 have n1:h1.objs.size=s.heap.objs.size+1:=by rw[←e1,Heap.size_update,size_push']
 have k1:∀b o,s.heap.get? b=some o->h1.get? b=some o:=λb o q=>by
  have lt:b<s.heap.objs.size:=Heap.lt_size q
  rw[←e1,Heap.get?_update_ne _ _ _ _ (Nat.ne_of_lt lt)]
  exact Heap.get?_push_of_some _ q
 generalize e2:Heap.push _ _=h2
 have hD:h2.get? h1.objs.size=some (seqObj "list" its.toArray 0):=by rw[←e2];exact Heap.get?_push_size _ rfl
 have k2:∀b o,s.heap.get? b=some o->h2.get? b=some o:=λb o q=>by rw[←e2];exact Heap.get?_push_of_some _ (k1 b o q)
 have un:X.A.in1.units=X.A.units+1:=rfl
 have un2:X.A.in1.in1.units=X.A.units+2:=rfl
 show wpAny (model X.prog X.w) X.A.in1 (do let _ ←holding [Value.ref h1.objs.size] (call (.builtin "list.sort") [.ref h1.objs.size]);ret (.ref h1.objs.size)) _ X.xe { s with heap:=h2 }
 refine wpAny_bind (wpAny_holding (wpAny_call_entry (s:={ s with heap:=h2 }) slot_list_sort ⟨_,hD,rfl⟩ entry_list_sort ?_ (args_list_sort _)))
 refine qq2 (s:={ s with heap:=h2 }) (H:=H) (σ:=σ) (pins:=pins) (X:=X) hD (λh' kp=>?_) r v S (by lia) (by lia) λq h' m hqp hqs kp he=>⟨_,rfl,?_⟩
 ·refine I.kept (t':=s.toks) λb o e=>?_
  refine kp b o (λz=>?_) (k2 b o e)
  have lt:b<s.heap.objs.size:=Heap.lt_size e
  rw[z,n1] at lt
  exact Nat.not_succ_le_self _ (Nat.le_of_lt lt)
 ·refine wpAny_pure ⟨_,rfl,.ref h1.objs.size,upd H h1.objs.size (.lst (q.map λi=>ys.getD i .non)),?_,rfl,hq _ q (I.hok.fresh (by lia)) hqp hqs⟩
  have hqm:∀i∈q,i<ys.length:=λi hi=>by
   have:=hqp.mem_iff.mp hi
   rw[←r.length]
   simpa using this
  refine I.laid (t':=s.toks) (λb o e=>?_) (by lia) ⟨?_,_,m,v.pick q hqm,he⟩
  ·refine kp b o (λz=>?_) (k2 b o e)
   have lt:b<s.heap.objs.size:=Heap.lt_size e
   rw[z,n1] at lt
   exact Nat.not_succ_le_self _ (Nat.le_of_lt lt)
  ·have:=hqp.length_eq
   rw[List.length_map,this,List.length_range]
   have:=r.length
   lia
end
end L2
namespace L2
open PySem PySem.Spec PyProof.Rows
section
variable {X:Cx} {EX:St->XK} {K:PySem.W.Frag} {B H H0:Hp} {e:Expr} {es:List Expr} {tA:TVA} {x y:Str} {p pos:Pos}
def qel(rx:R)(Q:R->Prop):Prop:=match rx.d with
|.lst ds=>SortD ds/\ds.length<64/\∀ds',ds'.Perm ds->ds'.Pairwise (λa b=>ltD a b=true)->Q (.own (.lst ds'))
|_=>False
theorem qfx(hu64:X.A.units+64<cLine):VF X (.builtin "sorted") qel:=by
 have hu:X.A.units+60<cLine:=by lia
 refine⟨_,qlm hu,λB H x rx Q Qd s px h k=>?_⟩
 unfold qel at h
 split at h
 ·rename_i ds e1
  obtain⟨hS,hl,hq⟩:=h
  obtain⟨a,xs,rfl,h1,r1⟩:=px.lst s e1
  refine⟨a,xs,ds,rfl,SqL.of h1,r1.same s,hS,hl,λl q hn hp hs=>?_⟩
  have hm:∀i∈q,i<ds.length:=λi hi=>by simpa using hp.mem_iff.mp hi
  have hr:((List.range ds.length).map λi=>ds.getD i .non)=ds:=by
   apply List.ext_getElem
   ·simp
   ·intro i h1 h2
    simp[List.getD_eq_getElem?_getD,h2]
  refine k (.own (.lst (q.map λi=>ds.getD i .non))) _ B _ (.grow s (qax hn _)) ⟨l,rfl,hn,s.free hn,qbz (r1.pick q hm)⟩ (hq _ ?_ ?_)
  ·have:=hp.map λi=>ds.getD i .non
   rw[hr] at this
   exact this
  ·rw[List.pairwise_map]
   exact hs
 ·exact h.elim
def qrr(r:R)(Q:R->Prop):Prop:=match r with
|.val d=>match dV d with
 |some _=>Q (.val d)
 |none=>False
|_=>False
def qmy(g:DP)(i:Nat)(tA:TVA):TV:=λτ Q=>match τ[i]? with
|some (some (.own d))=>tA τ λa=>exA a (λ_=>False) λds=>g (d::ds) λr=>qrr r Q
|_=>False
theorem qsb{k:Nat}{ps:List Str}{g:DP}{i:Nat}{p2:Pos}(C:Cal X.prog X.w X.K X.mg X.base k x ps (spOf X.K g))(hr:Room k X.A)(hg:Gl X x)(ha:VA X EX es tA)(hN:X.N[i]?=some y:=by rfl)(hv:Vis X.env.scope y:=by first|exact Or.inl rfl|exact Or.inr (Or.inl rfl)|exact Or.inr (Or.inr rfl))
  (hd:(y==("__debug__" : Str))=false:=by decide) (hcd:(y==("__classdict__" : Str))=false:=by decide) (hp:(Expr.Name y p2::es).all qa3=true:=by rfl) (hdb:(x==("__debug__" : Str))=false:=by decide) :
  VE X EX (.Call (.Name x p) (.Name y p2::es) [] pos) (qmy g i tA) :=
 let ⟨_,a1,a2⟩:=ha.u;⟨_,qvl C hr hg (qac (qv i hN hv hd hcd) a1 rfl) hp hdb,λH0 B H τ σ Q Qd s S h xc kk=>by
  unfold qmy at h
  split at h
  ·rename_i d e1
   obtain⟨ad,e2,_,hb,ow⟩:=S.own i d e1
   refine⟨.ref ad,e2,a2 H0 B H τ σ _ _ s S h (xno λ_ q=>q) λds vs B1 H1 p1 q1 h1=>?_⟩
   have ow1:OwnAt X.K B1 H1 d ad:=ow.step p1.b (p1.h.at ow.some)
   have hb1:B1 ad=none:=p1.keep hb ow.some ow.nt
   obtain⟨o,eo,rp⟩:=ow1.pub hb1
   refine⟨d::ds,upd B1 ad o,_,qkv p1.s eo,?_,h1,λn C B' H' hq _ _=>?_,λr v B2 H2 hq p2 q2=>?_⟩
   ·rw[List.append_nil]
    exact .cons rp (q1.same (qax hb1 _))
   ·exact(show False from hq).elim
   ·unfold qrr at hq
    split at hq
    ·rename_i d'
     split at hq
     ·rename_i z ez
      have:=(show Pk X.K B2 H2 (.val d') v from q2).scal ez
      subst this
      exact kk (.val d') _ B1 H2 (p1.trans (.grow p1.s p2.h)) (repV ez) hq
     ·exact hq.elim
    ·exact hq.elim
  ·exact h.elim⟩
end
def keyW(w:List Str):List (List Nat):=w.map (·.cps.toList)
theorem qnl:∀ {a b:List Str},keyW a=keyW b->a=b
|[],[],_=>rfl
|[],_::_,h=>by cases h
|_::_,[],h=>by cases h
|x::a,y::b,h=>by
  injection h with h1 h2
  rw[qr0 h1,qnl h2]
theorem qnn:∀a b:List Str,ltDs (a.map D.str) (b.map D.str)=decide (keyW a<keyW b)
|[],[]=>by unfold ltDs;simp[keyW]
|[],y::b=>by
  show ltDs [] (.str y::b.map D.str)=_
  unfold ltDs
  simp[keyW]
|x::a,[]=>by
  show ltDs (.str x::a.map D.str) []=_
  unfold ltDs
  simp[keyW]
|x::a,y::b=>by
  show ltDs (.str x::a.map D.str) (.str y::b.map D.str)=decide (x.cps.toList::keyW a<y.cps.toList::keyW b)
  unfold ltDs
  rw[qnn a b]
  by_cases e:x=y
  ·subst e
   rw[if_pos (qe6 _)]
   exact decide_eq_decide.mpr (by rw[List.cons_lt_cons_iff];simp[List.lt_irrefl])
  ·rw[if_neg (λz=>e (D.str.inj (qu5 z)))]
   unfold ltD
   refine decide_eq_decide.mpr ?_
   rw[List.cons_lt_cons_iff]
   constructor
   ·exact .inl
   ·rintro (z|⟨z,_⟩)
    ·exact z
    ·exact absurd (qr0 z) e
theorem qwl{a b c:List (List Nat)}(h1:a<b)(h2:b<c):a<c:=List.lt_trans h1 h2
theorem qwk{a b:List (List Nat)}(h1:a<b):¬ b<a:=λh2=>List.lt_irrefl a (List.lt_trans h1 h2)
theorem qta(a b:List (List Nat))(h:a≠b):a<b\/b<a:=by
 by_cases h1:a<b
 ·exact .inl h1
 ·by_cases h2:b<a
  ·exact .inr h2
  ·exact absurd (List.le_antisymm (List.not_lt.mp h2) (List.not_lt.mp h1)) h
def ltW(a b:List Str):Bool:=decide (keyW a<keyW b)
theorem qeh(a b:List Str):ltD (wayD a) (wayD b)=ltW a b:=by
 show ltD (.tup (a.map D.str)) (.tup (b.map D.str))=_
 unfold ltD
 exact qnn a b
theorem qq5{a b c:List Str}(h1:ltW a b=true)(h2:ltW b c=true):ltW a c=true:=decide_eq_true (qwl (of_decide_eq_true h1) (of_decide_eq_true h2))
theorem qid{a b:List Str}(h1:ltW a b=true):ltW b a=false:=decide_eq_false (qwk (of_decide_eq_true h1))
theorem qma{a b:List Str}(h:a≠b):ltW a b=true\/ltW b a=true:=(qta _ _ λe=>h (qnl e)).imp decide_eq_true decide_eq_true
theorem qnw:∀a b:List Str,qei (a.map D.str) (b.map D.str)=true
|[],_=>by
  show qei [] _=true
  unfold qei
  rfl
|_::_,[]=>by
  show qei (_::_) []=true
  unfold qei
  rfl
|x::a,y::b=>by
  show qei (.str x::a.map D.str) (.str y::b.map D.str)=true
  unfold qei
  rw[qnw a b]
  unfold ordD
  rfl
theorem qv9(a:List Str):qb3 (a.map D.str)=0:=by
 induction a with
|nil=>rfl
|cons x a ih =>
  show max (depD (.str x)) (qb3 (a.map D.str))=0
  rw[ih]
  rfl
theorem qod{a b:List Str}(h:wayD a=wayD b):a=b:=by
 have h':a.map D.str=b.map D.str:=D.tup.inj h
 exact(qfl _ _).mp h'
theorem qeb{ws:List (List Str)}(nd:ws.Nodup):SortD (ws.map wayD) where
 tup:=.inl λd hd=>by
  obtain⟨w,_,rfl⟩:=List.mem_map.mp hd
  refine⟨w.map D.str,rfl,by rw[qv9];lia,λx hx=>?_⟩
  rw[List.getElem?_map] at hx
  obtain⟨z,_,rfl⟩:=Option.map_eq_some_iff.mp hx
  rfl
 ord:=λd hd e he=>by
  obtain⟨a,_,rfl⟩:=List.mem_map.mp hd
  obtain⟨b,_,rfl⟩:=List.mem_map.mp he
  show ordD (.tup _) (.tup _)=true
  unfold ordD
  exact qnw a b
 tr:=λd hd e he f hf=>by
  obtain⟨a,_,rfl⟩:=List.mem_map.mp hd
  obtain⟨b,_,rfl⟩:=List.mem_map.mp he
  obtain⟨c,_,rfl⟩:=List.mem_map.mp hf
  rw[qeh,qeh,qeh]
  exact qq5
 as:=λd hd e he=>by
  obtain⟨a,_,rfl⟩:=List.mem_map.mp hd
  obtain⟨b,_,rfl⟩:=List.mem_map.mp he
  rw[qeh,qeh]
  exact qid
 tot:=λd hd e he ne=>by
  obtain⟨a,_,rfl⟩:=List.mem_map.mp hd
  obtain⟨b,_,rfl⟩:=List.mem_map.mp he
  rw[qeh,qeh]
  exact qma λz=>ne (by rw[z])
 nd:=by
  rw[List.nodup_iff_pairwise_ne] at nd ⊢
  rw[List.pairwise_map]
  exact nd.imp λh z=>h (qod z)
theorem qin{α:Type}{lt:α->α->Bool}(as:∀a b,lt a b=true->lt b a=false):∀ {xs ys:List α},xs.Perm ys->xs.Pairwise (λa b=>lt a b=true)->ys.Pairwise (λa b=>lt a b=true)->xs=ys
|[],ys,hp,_,_=>(List.nil_perm.mp hp).symm▸rfl
|x::xs,[],hp,_,_=>by cases hp.length_eq
|x::xs,y::ys,hp,hx,hy=>by
  rw[List.pairwise_cons] at hx hy
  have e:x=y:=by
   have m1:x∈y::ys:=hp.mem_iff.mp (List.mem_cons_self ..)
   have m2:y∈x::xs:=hp.mem_iff.mpr (List.mem_cons_self ..)
   rcases List.mem_cons.mp m1 with z|z
   ·exact z
   rcases List.mem_cons.mp m2 with w|w
   ·exact w.symm
   have l1:=hx.1 y w
   have l2:=hy.1 x z
   rw[as _ _ l1] at l2
   cases l2
  subst e
  rw[qin as (List.perm_cons x |>.mp hp) hx.2 hy.2]
end L2
namespace L2
open PySem PySem.Spec PyProof.Rows
section
variable {X:Cx} {pos:Pos} {k v:Expr} {tk tv:TE}
end
section
variable {X:Cx} {EX:St->XK} {pos:Pos} {k v:Expr} {tk tv:TV}
end
end L2
namespace L2
open PySem PySem.Spec PyProof.Rows
theorem Room.dict{k:Nat}{A:Around}(r:Room k A):A.units+64<cLine:=by
 have:=r.un
 lia
end L2
namespace L2
open PySem PySem.Spec PyProof.Rows
section
variable {X:Cx} {EX:St->XK} {a:Expr} {ta:TV} {p pos:Pos}
end
end L2
namespace L2
open PySem PySem.Spec PyProof.Rows
theorem eqW(a b:List Str):eqD (.tup (a.map D.str)) (.tup (b.map D.str))=decide (a=b):=qce (by
  rw[eqD_iff,decide_eq_true_eq]
  exact⟨λz=>qod z,λz=>by rw[z]⟩)
theorem cmpW(a b:List Str):cmpD (.tup (a.map D.str)) (.tup (b.map D.str))=true:=by
 unfold cmpD
 exact qnc _ _
theorem depW(a:List Str):depD (.tup (a.map D.str))<=50:=by
 unfold depD
 rw[qi0]
 decide
def unW:D->List Str
|.tup es=>(strsOf es).getD []
|_=>[]
theorem qmx(w:List Str):unW (wayD w)=w:=by
 show (strsOf (w.map D.str)).getD []=w
 rw[qf5]
 rfl
theorem qfy{ds:List D}{ws:List (List Str)}(hp:ds.Perm (ws.map wayD))(hs:ds.Pairwise (λa b=>ltD a b=true)):∃vs:List (List Str),ds=vs.map wayD/\vs.Perm ws/\vs.Pairwise (λa b=>ltW a b=true):=by
 have e:ds=(ds.map unW).map wayD:=by
  rw[List.map_map]
  refine(List.map_id _).symm.trans (List.map_congr_left λd hd=>?_)
  obtain⟨w,_,rfl⟩:=List.mem_map.mp (hp.mem_iff.mp hd)
  show wayD w=wayD (unW (wayD w))
  rw[qmx]
 refine⟨ds.map unW,e,?_,?_⟩
 ·have:=hp.map unW
  rw[List.map_map] at this
  exact this.trans (List.Perm.of_eq ((List.map_congr_left λw _=>qmx w).trans (List.map_id _)))
 ·rw[e,List.pairwise_map] at hs
  exact hs.imp λh=>by rw[←qeh];exact h
abbrev Row:=List Str×Str×Str
def rowD(r:Row):D:=.tup [wayD r.1,.str r.2.1,.str r.2.2]
def unR:D->Row
|.tup [w,.str m,.str t]=>(unW w,m,t)
|_=>([],"","")
theorem qjq(r:Row):unR (rowD r)=r:=by
 show (unW (wayD r.1),r.2.1,r.2.2)=r
 rw[qmx]
theorem qud{a b:Row}(h:rowD a=rowD b):a=b:=by rw[←qjq a,←qjq b,h]
theorem cmpR(a b:Row):cmpD (rowD a) (rowD b)=true:=by
 show cmpD (.tup [.tup (a.1.map D.str),.str a.2.1,.str a.2.2]) (.tup [.tup (b.1.map D.str),.str b.2.1,.str b.2.2])=true
 have h:=cmpW a.1 b.1
 unfold cmpD at h ⊢
 simp only[qcf,cmpD,h,qln,Bool.and_self,Bool.true_and]
theorem qv8(a:Row):depD (rowD a)=1+0\/depD (rowD a)<=20:=by
 right
 show depD (.tup [.tup (a.1.map D.str),.str a.2.1,.str a.2.2])<=20
 unfold depD
 simp only[qb3,depD,qi0]
 decide
theorem depR(a:Row):depD (rowD a)<=20:=by
 rcases qv8 a with h|h
 ·lia
 ·exact h
theorem eqR(a b:Row):eqD (rowD a) (rowD b)=decide (a=b):=qce (by
  rw[eqD_iff,decide_eq_true_eq]
  exact⟨qud,λz=>by rw[z]⟩)
theorem qko{rs:List Row}(nd:(rs.map (·.1)).Nodup){a b:Row}(ha:a∈rs)(hb:b∈rs)(h:a.1=b.1):a=b:=by
 induction rs with
|nil=>cases ha
|cons r rs ih =>
  rw[List.map_cons,List.nodup_cons] at nd
  rcases List.mem_cons.mp ha with ea|ha2
  ·rcases List.mem_cons.mp hb with eb|hb2
   ·rw[ea,eb]
   ·exact absurd (show r.1∈rs.map (·.1) from List.mem_map.mpr ⟨b,hb2,by rw[←h,ea]⟩) nd.1
  ·rcases List.mem_cons.mp hb with eb|hb2
   ·exact absurd (show r.1∈rs.map (·.1) from List.mem_map.mpr ⟨a,ha2,by rw[h,eb]⟩) nd.1
   ·exact ih nd.2 ha2 hb2
abbrev qbg(rs:List Row):Prop:=rs.Pairwise (λa b=>ltW a.1 b.1=true)
theorem qa0{rs:List Row}(h:qbg rs):(rs.map (·.1)).Nodup:=by
 rw[List.nodup_iff_pairwise_ne,List.pairwise_map]
 exact h.imp λ{a b} q z=>by
  rw[z] at q
  have:=qid q
  rw[q] at this
  cases this
theorem qhl{rs ts:List Row}(hp:rs.Perm ts)(h1:qbg rs)(h2:qbg ts):rs=ts:=qin (lt:=λa b:Row=>ltW a.1 b.1) (λ_ _=>qid) hp h1 h2
def qag(rs:List Row):D:=.lst (rs.map rowD)
theorem qy9:∀rs ts:List Row,qcf (rs.map rowD) (ts.map rowD)=true
|[],_=>by cases ‹List Row›<;>rfl
|_::_,[]=>rfl
|a::rs,b::ts=>by
  show qcf (rowD a::rs.map rowD) (rowD b::ts.map rowD)=true
  unfold qcf
  rw[cmpR,qy9 rs ts]
  rfl
theorem qy8(rs ts:List Row):cmpD (qag rs) (qag ts)=true:=by
 show cmpD (.lst _) (.lst _)=true
 unfold cmpD
 exact qy9 rs ts
theorem qze:∀rs:List Row,qb3 (rs.map rowD)<=20
|[]=>by
  show qb3 []<=20
  unfold qb3
  lia
|a::rs=>by
  show qb3 (rowD a::rs.map rowD)<=20
  unfold qb3
  have:=depR a
  have:=qze rs
  lia
theorem qzd(rs:List Row):depD (qag rs)<=21:=by
 show depD (.lst _)<=21
 unfold depD
 have:=qze rs
 lia
theorem que{rs ts:List Row}(h:rs.map rowD=ts.map rowD):rs=ts:=by
 have:=congrArg (List.map unR) h
 rw[List.map_map,List.map_map] at this
 exact((List.map_id _).symm.trans (List.map_congr_left λr _=>(qjq r).symm)).trans (this.trans ((List.map_congr_left λr _=>qjq r).trans (List.map_id _)))
theorem eqRL(rs ts:List Row):eqD (qag rs) (qag ts)=decide (rs=ts):=qce (by
  rw[eqD_iff,decide_eq_true_eq]
  exact⟨λz=>que (D.lst.inj z),λz=>by rw[z]⟩)
section
variable {X:Cx} {pins:List (Addr×Obj)} {σ:St} {H:Hp} {s:Shared}
theorem q1o{A:Around}(I:Inv X pins σ H s){a b:Addr}{ds es:List D}{xs ys:List V}(ha:SqT X.K H a xs)(hb:SqT X.K H b ys)(r1:Reps X.K H ds xs)(r2:Reps X.K H es ys)(hc:qcf ds es=true)(hu:A.units<cLine)
  (ih:∀d∈ds,∀(e:D) (v z:V) (u w:Value),Rep X.K H d v->Rep X.K H e z->RelV v u->RelV z w->cmpD d e=true->SeqAt.EqAt A.in1 s u w (eqD d e)):SeqAt.RcNeAt A s (.ref a) (.ref b) (!eqD (.tup ds) (.tup es)):=by
 obtain⟨its,v1,p1,_⟩:=I.tuple ha
 obtain⟨its2,v2,p2,_⟩:=I.tuple hb
 have:=SeqAt.RcNeAt.tuples (A:=A) (s:=s) (e:=λj=>eqD (ds.getD j .non) (es.getD j .non)) (show s.heap.IsTuple a its.toArray from p1) (show s.heap.IsTuple b its2.toArray from p2) hu (qhb r1 r2 v1 v2 hc ih)
 rw[List.size_toArray,List.size_toArray,←v1.length,←v2.length,←r1.length,←r2.length,qe7] at this
 rw[qqh]
 exact this
theorem q1n{A:Around}(I:Inv X pins σ H s){a b:Addr}{ds es:List D}{xs ys:List V}(ha:H a=some (.lst xs))(hb:H b=some (.lst ys))(r1:Reps X.K H ds xs)(r2:Reps X.K H es ys)(hc:qcf ds es=true)(hu:A.units<cLine)
  (ih:∀d∈ds,∀(e:D) (v z:V) (u w:Value),Rep X.K H d v->Rep X.K H e z->RelV v u->RelV z w->cmpD d e=true->SeqAt.EqAt A.in1 s u w (eqD d e)):SeqAt.RcNeAt A s (.ref a) (.ref b) (!eqD (.lst ds) (.lst es)):=by
 obtain⟨its,v1,p1,_⟩:=I.list (SqL.of ha)
 obtain⟨its2,v2,p2,_⟩:=I.list (SqL.of hb)
 have er:=qe7 ds es
 rw[qqg]
 by_cases hl:ds.length=es.length
 ·have hz:its.toArray.size=its2.toArray.size:=by rw[List.size_toArray,List.size_toArray,←v1.length,←v2.length,←r1.length,←r2.length,hl]
  have:=SeqAt.RcNeAt.lists (A:=A) (s:=s) (e:=λj=>eqD (ds.getD j .non) (es.getD j .non)) p1.isList p2.isList hz hu (qhb r1 r2 v1 v2 hc ih)
  rw[List.size_toArray,←v1.length,←r1.length] at this
  rw[←hl,Nat.min_self] at er
  have e2:(ds.length==ds.length)=true:=by simp
  rw[e2,Bool.and_true] at er
  rw[er] at this
  exact this
 ·have e2:(ds.length==es.length)=false:=by simpa using hl
  rw[e2,Bool.and_false] at er
  rw[←er]
  refine SeqAt.RcNeAt.lists_lengths p1.isList p2.isList ?_ hu
  rw[List.size_toArray,List.size_toArray,←v1.length,←v2.length,←r1.length,←r2.length]
  simpa using hl
theorem q0a(hu:X.A.units+60<cLine):OpR X (compareOp .NotEq) (rEqD X.K not):=by
 intro pins s σ H x y v u Q I rx ry h
 obtain⟨d,e,hd,he,hc,hn,q⟩:=h
 have fin:EP X pins σ Q (.bool (!eqD d e)) s:=⟨.bl (!eqD d e),H,I,rfl,q⟩
 have un:X.A.in1.units=X.A.units+1:=rfl
 cases d with
|tup ds =>
  cases e with
 |tup es =>
   unfold Rep at hd he
   obtain⟨a,xs,rfl,ha,r1⟩:=hd
   obtain⟨b,ys,rfl,hb,r2⟩:=he
   cases rx
   cases ry
   unfold cmpD at hc
   unfold depD at hn
   exact q1o I ha.sq hb.sq r1 r2 hc (by lia) (λd hd e v z u w h1 h2 h3 h4 h5=>qgf I _ X.A.in1 d e v z u w (Nat.le_refl _) h1 h2 h3 h4 h5 (by have:=qc3 hd;lia)) _ _ _ _ fin
 |_=>unfold cmpD at hc;cases hc
|lst ds =>
  cases e with
 |lst es =>
   unfold Rep at hd he
   obtain⟨a,xs,rfl,ha,r1⟩:=hd
   obtain⟨b,ys,rfl,hb,r2⟩:=he
   cases rx
   cases ry
   unfold cmpD at hc
   unfold depD at hn
   exact q1n I ha hb r1 r2 hc (by lia) (λd hd e v z u w h1 h2 h3 h4 h5=>qgf I _ X.A.in1 d e v z u w (Nat.le_refl _) h1 h2 h3 h4 h5 (by have:=qc3 hd;lia)) _ _ _ _ fin
 |_=>unfold cmpD at hc;cases hc
|_ =>
  obtain⟨v',z',q1,q2,q3⟩:=qmu hc (λ_ h=>by cases h) (λ_ h=>by cases h)
  have e1:=qfb hd q1
  have e2:=qfb he q2
  subst e1 e2
  have q':Q (.bl (!eqD _ _)) H:=q
  rw[qi2 q1 q2] at q'
  exact q2l pins s σ H _ _ v u Q I rx ry ⟨q3,q'⟩
def vNeD(rx ry:R)(Q:R->Prop):Prop:=cmpD rx.d ry.d=true/\depD rx.d<=50/\Q (.val (.bl (!eqD rx.d ry.d)))
theorem qe2(hu:X.A.units+64<cLine):VO X (compareOp .NotEq) vNeD :=
 ⟨_,q0a (by lia),λB H x y rx ry Q Qd s px py h k=>⟨rx.d,ry.d,px.rep s,py.rep s,h.1,h.2.1,k _ _ B H (.refl s) (repV rfl) h.2.2⟩⟩
end
def qer{α:Type}(xs:List α)(lo hi st:Option Int):List α:=(sliceRange (sliceBounds lo hi st xs.length).1 (sliceBounds lo hi st xs.length).2.1 (sliceBounds lo hi st xs.length).2.2).filterMap (xs[·]?)
theorem qxf{xs:List V}{us:List Value}(r:Vals xs us):∀l:List Nat,Vals (l.filterMap (xs[·]?)) (l.filterMap (us[·]?))
|[]=>.nil
|i::l=>by
  cases e:xs[i]? with
 |none =>
   rw[List.filterMap_cons_none (by exact e),List.filterMap_cons_none (by exact r.none_of e)]
   exact qxf r l
 |some x =>
   obtain⟨u,hu,ru⟩:=r.get e
   rw[List.filterMap_cons_some (by exact e),List.filterMap_cons_some (by exact hu)]
   exact .cons ru (qxf r l)
theorem qry{α β:Type}(f:α->β)(xs:List α)(lo hi st:Option Int):qer (xs.map f) lo hi st=(qer xs lo hi st).map f:=by
 unfold qer
 rw[List.length_map,List.map_filterMap]
 congr 1
 funext i
 rw[List.getElem?_map]
theorem qmo(xs:List α)(lo hi st:Option Int):(sliceRange (sliceBounds lo hi st xs.length).1 (sliceBounds lo hi st xs.length).2.1 (sliceBounds lo hi st xs.length).2.2).length<=xs.length:=by
 refine sliceRange_length_le _ _ _ _ (λh=>?_) (λh=>?_)
 ·unfold sliceBounds at h ⊢
  simp only at h ⊢
  cases lo<;>cases hi<;>simp only[h,if_true]<;>lia
 ·unfold sliceBounds at h ⊢
  simp only at h ⊢
  cases lo<;>cases hi<;>simp only[h,if_false]<;>lia
theorem qrx{α:Type}(xs:List α)(lo hi st:Option Int):(qer xs lo hi st).length<=xs.length:=Nat.le_trans (List.length_filterMap_le _ _) (qmo xs lo hi st)
section
variable {X:Cx} {pos p2:Pos} {e st:Expr} {te:TE} {lo hi:Option Expr} {tl th ts:TO}
def q1z(K:PySem.W.Frag)(te:TE)(tl th ts:TO):TE:=λσ H Q=>te σ H λx H1=>tl σ H1 λl H2=>th σ H2 λu H3=>ts σ H3 λt H4=>∃a xs,x=.ref a/\SqL K H4 a xs/\t≠some 0/\∀p,H4 p=none->Q (.ref p) (upd H4 p (.lst (qer xs l u t)))
theorem qxc(he:PE X e te)(hl:PO X lo tl)(hu:PO X hi th)(ht:PO X (some st) ts):PE X (.Subscript e (.Slice lo hi (some st) p2) pos) (q1z X.K te tl th ts):=by
 intro pins s σ H Q I h
 refine Subscript_ (thn (he pins s σ H _ I h) λv s1 ⟨x,H1,I1,r1,q1⟩=>?_)
 refine wpAny_Slice (thn (hl pins s1 σ H1 _ I1 q1) λvl s2 ⟨l,H2,I2,pl,q2⟩=>thn (hu pins s2 σ H2 _ I2 q2) λvu s3 ⟨u,H3,I3,pu,q3⟩=>thn (ht pins s3 σ H3 _ I3 q3) λvt s4 ⟨t,H4,I4,pt,q4⟩=>?_)
 obtain⟨a,xs,rfl,hx,h0,q⟩:=q4
 cases r1
 have I5:Inv X pins σ H4 { s4 with heap:=s4.heap.push { cls:=.type "slice",data:=.fields #[vl,vu,vt] } }:=I4.kept (t':=s4.toks) λb ob q=>Heap.get?_push_of_some _ q
 obtain⟨its,r,hL,hz⟩:=I5.list hx
 have hlen:=r.length
 show wpAny (model X.prog X.w) X.A (subscriptTail e (.Slice lo hi (some st) p2) (.ref a) (.ref s4.heap.objs.size)) (EP X pins σ Q) X.xe { s4 with heap:=s4.heap.push { cls:=.type "slice",data:=.fields #[vl,vu,vt] } }
 refine tail_any (ops:=[.ref a,.ref s4.heap.objs.size]) hL.isList.typeIs slot_list_getitem.lookup ?_ (by with_unfolding_all rfl)
 refine wpAny_getItem_list_slice hL.isList (Heap.IsSliceOf.new ..) pl pu pt h0 ?_ (by rw[List.size_toArray]<;>lia)
 have ep:slicePick its.toArray l u t=(qer its l u t).toArray:=by
  unfold slicePick qer
  simp
 rw[ep]
 refine⟨.ref _,_,I5.laid (t':=s4.toks) (o:=.lst (qer xs l u t)) (λb ob q=>Heap.get?_push_of_some _ q) (Nat.le_refl _) ?_,rfl,q _ (I5.hok.fresh (Nat.le_refl _))⟩
 refine⟨Nat.le_trans (qrx xs l u t) hz,(qer its l u t),0,?_,?_⟩
 ·unfold qer
  rw[←hlen]
  exact qxf r _
 ·exact Heap.get?_push_size _ rfl
theorem qxu(he:QE X e te)(hl:QO X lo tl)(hu:QO X hi th)(ht:QO X (some st) ts):QE X (.Subscript e (.Slice lo hi (some st) p2) pos) (q1z X.K te tl th ts):=⟨qxc he.u hl.u hu.u ht.u⟩
end
section
variable {X:Cx} {EX:St->XK} {pos p2:Pos} {e st:Expr} {te:TV} {lo hi:Option Expr} {tl th ts:TVO} {K:PySem.W.Frag} {B:Hp}
theorem qxe{ds:List D}{xs:List V}(r:Reps K B ds xs):∀l:List Nat,Reps K B (l.filterMap (ds[·]?)) (l.filterMap (xs[·]?))
|[]=>.nil
|i::l=>by
  cases e:ds[i]? with
 |none =>
   have e2:xs[i]?=none:=List.getElem?_eq_none (by rw[←r.length];exact List.getElem?_eq_none_iff.mp e)
   rw[List.filterMap_cons_none (by exact e),List.filterMap_cons_none (by exact e2)]
   exact qxe r l
 |some x =>
   obtain⟨u,hu,ru⟩:=r.at e
   rw[List.filterMap_cons_some (by exact e),List.filterMap_cons_some (by exact hu)]
   exact .cons ru (qxe r l)
def vStR(rx:R)(lo hi st:Option Int)(Q:R->Prop):Prop:=match rx.d with
|.lst ds=>st≠some 0/\Q (.own (.lst (qer ds lo hi st)))
|.scr ns=>st≠some 0/\Q (.own (.lst ((qer ns lo hi st).map D.int)))
|_=>False
def qpd(te:TV)(tl th ts:TVO):TV:=λτ Q=>te τ λr=>exR r Q (tl τ λl=>th τ λu=>ts τ λt=>vStR r l u t Q)
theorem qsf(he:VE X EX e te)(hl:VPt X EX lo tl)(hh:VPt X EX hi th)(ht:VPt X EX (some st) ts):VE X EX (.Subscript e (.Slice lo hi (some st) p2) pos) (qpd te tl th ts) :=
 let ⟨_,a1,a2⟩:=he.u;let ⟨_,b1,b2⟩:=hl.u;let ⟨_,c1,c2⟩:=hh.u;let ⟨_,d1,d2⟩:=ht.u;⟨_,qxu a1 b1 c1 d1,λH0 B H τ σ Q Qd s S h xc k =>
  a2 H0 B H τ σ _ _ s S h xc λr v B1 H1 p1 q1 h1=>b2 H0 B1 H1 τ σ _ _ p1.s (S.step p1) (q1.ok h1) λl B2 H2 p2 h2=>c2 H0 B2 H2 τ σ _ _ p2.s (S.step (p1.trans p2)) h2 λu B3 H3 p3 h3=>d2 H0 B3 H3 τ σ _ _ p3.s (S.step ((p1.trans p2).trans p3)) h3 λt B4 H4 p4 h4=>by
   have pp:=((p1.trans p2).trans p3).trans p4
   have pk:=((q1.pk.step p2).step p3).step p4
   unfold vStR at h4
   split at h4
   ·rename_i ds ed
    obtain⟨a,xs,rfl,h1,r1⟩:=pk.lst p4.s ed
    refine⟨a,xs,rfl,SqL.of h1,h4.1,λp hp=>k (.own (.lst (qer ds l u t))) _ B4 _ (pp.trans (.grow p4.s (qax hp _))) ⟨p,rfl,pp.h.free hp,p4.s.free hp,qbz ?_⟩ h4.2⟩
    unfold qer
    rw[←r1.length]
    exact qxe r1 _
   ·rename_i ns en
    obtain⟨a,rfl,h1⟩:=pk.scr p4.s en
    refine⟨a,_,rfl,h1,h4.1,λp hp=>k (.own (.lst ((qer ns l u t).map D.int))) _ B4 _ (pp.trans (.grow p4.s (qax hp _))) ⟨p,rfl,pp.h.free hp,p4.s.free hp,?_⟩ h4.2⟩
    rw[qry]
    exact qbz (.ints _)
   ·exact h4.elim⟩
end
end L2
namespace L2
section
variable {α:Type} [DecidableEq α]
end
section
variable {α β:Type} [DecidableEq α]
end
end L2
namespace L2
open PySem
abbrev qaq:Str:="folder"
abbrev qa2:Str:="shut"
abbrev qa6:Str:="gone"
abbrev qc6:Str:="file"
abbrev qdm:Str:="link"
abbrev qdb:Str:=""
theorem mne:qa2≠qaq/\qa6≠qaq/\qc6≠qaq/\qdm≠qaq/\qa6≠qa2/\qc6≠qa2/\qdm≠qa2/\qc6≠qa6/\qdm≠qa6/\qdm≠qc6:=by decide +kernel
theorem qwo(l:List (List Nat))(x:List Nat):l<l++[x]:=by
 induction l with
|nil=>exact List.nil_lt_cons _ _
|cons y l ih=>exact List.cons_lt_cons_iff.mpr (.inr ⟨rfl,ih⟩)
theorem qno{w:List Str}(h:w≠[]):ltW w.dropLast w=true:=by
 refine decide_eq_true ?_
 conv=>rhs;rw[←List.dropLast_concat_getLast h]
 unfold keyW
 rw[List.map_append]
 exact qwo _ _
def inR(p:List Row)(w:List Str):Bool:=decide (w∈p.map (·.1))
def qbu(p:List Row)(w:List Str):Option Str:=(p.find? λr=>decide (r.1=w)).map (·.2.1)
def qci:Option Str->Bool
|none=>false
|some m=>!decide (m=qaq)
def qbt(p:List Row)(w:List Str):Bool:=(List.range w.length).any λk=>qci (qbu p (w.take k))
theorem qd1{β:Type}{f g:β->Bool}:∀ {l:List β},(∀x∈l,f x=g x)->l.any f=l.any g
|[],_=>rfl
|x::l,h=>by rw[List.any_cons,List.any_cons,h x (List.mem_cons_self ..),qd1 λy hy=>h y (List.mem_cons_of_mem _ hy)]
theorem qop(p:List Row){w:List Str}(h:w≠[]):qbt p w=(qbt p w.dropLast||qci (qbu p w.dropLast)):=by
 have hl:w.length=w.dropLast.length+1:=by
  rw[List.length_dropLast]
  have:=List.length_pos_iff.mpr h
  lia
 unfold qbt
 rw[hl,List.range_succ,List.any_append]
 congr 1
 ·refine qd1 λk hk=>?_
  have hk:=List.mem_range.mp hk
  rw[List.dropLast_eq_take,List.take_take,Nat.min_eq_left (by lia)]
 ·rw[List.any_cons,List.any_nil,Bool.or_false,List.dropLast_eq_take,List.length_take,Nat.min_eq_left (by lia)]
theorem qgo(p:List Row)(w:List Str):(qbu p w).isSome=inR p w:=by
 unfold qbu inR
 rw[Option.isSome_map]
 by_cases h:w∈p.map (·.1)
 ·rw[decide_eq_true h,List.find?_isSome]
  obtain⟨r,mr,er⟩:=List.mem_map.mp h
  exact⟨r,mr,decide_eq_true er⟩
 ·rw[decide_eq_false h,Bool.eq_false_iff]
  intro q
  rw[List.find?_isSome] at q
  obtain⟨r,mr,er⟩:=q
  exact h (List.mem_map.mpr ⟨r,mr,of_decide_eq_true er⟩)
theorem qd5{p:List Row}(nd:(p.map (·.1)).Nodup){r:Row}(h:r∈p):qbu p r.1=some r.2.1:=by
 unfold qbu
 cases e:p.find? λq=>decide (q.1=r.1) with
|none=>exact absurd (decide_eq_true rfl) (List.find?_eq_none.mp e r h)
|some q =>
  have h1:=List.mem_of_find?_eq_some e
  have h2:q.1=r.1:=of_decide_eq_true (p:=q.1=r.1) (by simpa using List.find?_some e)
  rw[qko nd h1 h h2]
  rfl
theorem qd6{p:List Row}{w:List Str}(h:inR p w=false):qbu p w=none:=by
 rw[←qgo] at h
 exact Option.not_isSome_iff_eq_none.mp (by rw[h];exact Bool.false_ne_true)
structure TreeOk(tr:List Row):Prop where
 so:qbg tr
 cl:∀r∈tr,r.1≠[]/\(r.1.dropLast=[]\/r.1.dropLast∈tr.map (·.1))
structure PaneOk(p:List Row):Prop where
 so:qbg p
 cl:∀r∈p,r.1=[]\/r.1.dropLast=[]\/∃q∈p,q.1=r.1.dropLast/\q.2.1≠qa6
 mr:∀r∈p,(r.2.1=qc6\/r.2.1=qdm)\/(r.2.1=qaq/\r.2.2=qdb)\/r.2.1=qa2\/r.2.1=qa6
 rt:∀r∈p,r.1=[]->r.2.1=qa2
def hidW(p tr:List Row):List (List Str):=(tr.filter λr=>qbt p r.1).map (·.1)
structure Clo(tr:List Row):Prop where
 so:qbg tr
 cl:∀r∈tr,r.1=[]\/r.1.dropLast=[]\/r.1.dropLast∈tr.map (·.1)
theorem qgp{rs:List Row}(nd:(rs.map (·.1)).Nodup){i:Nat}{r:Row}(hr:rs[i]?=some r):r.1∉(rs.take i).map (·.1):=λm=>by
 obtain⟨hi,er⟩:=List.getElem?_eq_some_iff.mp hr
 obtain⟨q,mq,eq⟩:=List.mem_map.mp m
 rw[List.nodup_iff_pairwise_ne,List.pairwise_map,List.pairwise_iff_getElem] at nd
 obtain⟨j,hj,ej⟩:=List.mem_iff_getElem.mp mq
 have hj':j<i:=by rw[List.length_take] at hj;lia
 have:=nd j i (by lia) hi hj'
 rw[List.getElem_take] at ej
 rw[ej,er] at this
 exact this eq
def qa1(p tr:List Row):List Row:=tr.filter λr=>!inR p r.1&&!qbt p r.1
def qil(r:Row):Row:=if r.2.1=qa2 then (r.1,qaq,qdb) else r
def putR(p:List Row):List Row:=(p.filter λr=>!decide (r.1=[])&&!decide (r.2.1=qa6)).map qil
theorem qhn(r:Row):(qil r).1=r.1:=by
 unfold qil
 split<;>rfl
theorem qjj(p:List Row):(putR p).map (·.1)=(p.filter λr=>!decide (r.1=[])&&!decide (r.2.1=qa6)).map (·.1):=by
 unfold putR
 rw[List.map_map]
 exact List.map_congr_left λr _=>qhn r
theorem qqv{p tr:List Row}(hp:(p.map (·.1)).Nodup)(ht:(tr.map (·.1)).Nodup):((qa1 p tr++putR p).map (·.1)).Nodup:=by
 rw[List.map_append,qjj,List.nodup_append]
 refine⟨ht.sublist ((List.filter_sublist).map _),hp.sublist ((List.filter_sublist).map _),λx hx y hy e=>?_⟩
 subst e
 obtain⟨r,mr,rfl⟩:=List.mem_map.mp hx
 obtain⟨q,mq,eq⟩:=List.mem_map.mp hy
 have h1:=(List.mem_filter.mp mr).2
 have h2:inR p r.1=true:=decide_eq_true (List.mem_map.mpr ⟨q,(List.mem_filter.mp mq).1,eq⟩)
 rw[h2] at h1
 cases h1
theorem qkd{p tr ts:List Row}(P:PaneOk p)(T:TreeOk tr)(hp:ts.Perm (qa1 p tr++putR p))(hs:qbg ts):TreeOk ts:=by
 refine⟨hs,λr hr=>?_⟩
 have mem:∀w,w∈ts.map (·.1)↔w∈(qa1 p tr).map (·.1)\/w∈(putR p).map (·.1):=λw=>by
  rw[(hp.map (·.1)).mem_iff,List.map_append,List.mem_append]
 have ndp:=qa0 P.so
 rcases List.mem_append.mp (hp.mem_iff.mp hr) with h|h
 ·obtain⟨mr,hb⟩:=List.mem_filter.mp h
  obtain⟨h0,hc⟩:=T.cl r mr
  refine⟨h0,?_⟩
  rcases hc with hc|hc
  ·exact .inl hc
  right
  rw[mem]
  have hb':inR p r.1=false/\qbt p r.1=false:=by simpa using hb
  have hs2:=qop p h0
  rw[hb'.2] at hs2
  have hs3:qbt p r.1.dropLast=false/\qci (qbu p r.1.dropLast)=false:=by simpa using hs2.symm
  by_cases hin:inR p r.1.dropLast=true
  ·right
   rw[qjj]
   obtain⟨q,mq,eq⟩:=List.mem_map.mp (of_decide_eq_true hin)
   refine List.mem_map.mpr ⟨q,List.mem_filter.mpr ⟨mq,?_⟩,eq⟩
   have e1:q.2.1=qaq:=by
    have:=hs3.2
    rw[←eq,qd5 ndp mq] at this
    simpa [qci] using this
   have e2:q.1≠[]:=λz=>by
    have:=P.rt q mq z
    rw[e1] at this
    exact mne.1 this.symm
   rw[decide_eq_false e2,e1,decide_eq_false (Ne.symm mne.2.1)]
   rfl
  ·left
   rw[Bool.not_eq_true] at hin
   obtain⟨q,mq,eq⟩:=List.mem_map.mp hc
   refine List.mem_map.mpr ⟨q,List.mem_filter.mpr ⟨mq,?_⟩,eq⟩
   rw[eq,hin,hs3.1]
   rfl
 ·unfold putR at h
  obtain⟨q,mq,rfl⟩:=List.mem_map.mp h
  rw[qhn]
  obtain⟨mq,hb⟩:=List.mem_filter.mp mq
  have hb':q.1≠[]/\q.2.1≠qa6:=by simpa using hb
  refine⟨hb'.1,?_⟩
  rcases P.cl q mq with c|c|⟨o,mo,eo,go⟩
  ·exact absurd c hb'.1
  ·exact .inl c
  ·by_cases c:q.1.dropLast=[]
   ·exact .inl c
   right
   rw[mem]
   right
   rw[qjj]
   refine List.mem_map.mpr ⟨o,List.mem_filter.mpr ⟨mo,?_⟩,eo⟩
   rw[decide_eq_false (by rw[eo];exact c),decide_eq_false go]
   rfl
theorem qtd(p tr:List Row):(qa1 p tr++putR p).length<=tr.length+(p.filter λr=>!decide (r.1=[])).length:=by
 unfold qa1 putR
 rw[List.length_append,List.length_map]
 have h1:=List.length_filter_le (λr:Row=>!inR p r.1&&!qbt p r.1) tr
 have h2:(p.filter λr=>!decide (r.1=[])&&!decide (r.2.1=qa6)).length<=(p.filter λr=>!decide (r.1=[])).length:=by
  have:(p.filter λr=>!decide (r.1=[])&&!decide (r.2.1=qa6))=(p.filter λr=>!decide (r.1=[])).filter λr=>!decide (r.2.1=qa6):=by
   rw[List.filter_filter]
   congr 1
   funext r
   exact Bool.and_comm _ _
  rw[this]
  exact List.length_filter_le _ _
 lia
def qbs(p:List Row):List Row:=(p.filter λr=>decide (r.2.1=qc6)||decide (r.2.1=qdm)||(!decide (r.2.1=qa6)&&!decide (r.1=[]))).map λr=>if r.2.1=qc6\/r.2.1=qdm then r else (r.1,qaq,qdb)
theorem qqw{p:List Row}(P:PaneOk p):qbs p=putR p:=by
 unfold qbs putR
 have e:(p.filter λr=>decide (r.2.1=qc6)||decide (r.2.1=qdm)||(!decide (r.2.1=qa6)&&!decide (r.1=[])))=p.filter λr=>!decide (r.1=[])&&!decide (r.2.1=qa6):=by
  refine List.filter_congr λr hr=>?_
  by_cases h0:r.1=[]
  ·have:=P.rt r hr h0
   rw[this,decide_eq_true h0,decide_eq_false (Ne.symm mne.2.2.2.2.2.1),decide_eq_false (Ne.symm mne.2.2.2.2.2.2.1)]
   simp
  ·rw[decide_eq_false h0]
   have m:=P.mr r hr
   rcases m with (m|m)|⟨m,_⟩|m|m
   ·rw[m,decide_eq_false mne.2.2.2.2.2.2.2.1];simp
   ·rw[m,decide_eq_false mne.2.2.2.2.2.2.2.2.1];simp
   ·rw[m,decide_eq_false (Ne.symm mne.2.1)];simp
   ·rw[m,decide_eq_false (Ne.symm mne.2.2.2.2.1)];simp
   ·rw[m,decide_eq_false (Ne.symm mne.2.2.2.2.2.2.2.1),decide_eq_false (Ne.symm mne.2.2.2.2.2.2.2.2.1)];simp
 rw[e]
 refine List.map_congr_left λr hr=>?_
 have hb:=(List.mem_filter.mp hr).2
 have mr:=(List.mem_filter.mp hr).1
 have hb':r.1≠[]/\r.2.1≠qa6:=by simpa using hb
 unfold qil
 rcases P.mr r mr with m|⟨m,t⟩|m|m
 ·rw[if_pos m,if_neg]
  rcases m with m|m
  ·rw[m];exact mne.2.2.2.2.2.1
  ·rw[m];exact mne.2.2.2.2.2.2.1
 ·rw[if_neg (by rw[m];exact λz=>z.elim (λz=>mne.2.2.1 z.symm) λz=>mne.2.2.2.1 z.symm),if_neg (by rw[m];exact Ne.symm mne.1),←m,←t]
 ·rw[if_neg (by rw[m];exact λz=>z.elim (λz=>mne.2.2.2.2.2.1 z.symm) λz=>mne.2.2.2.2.2.2.1 z.symm),if_pos m]
 ·exact absurd m hb'.2
def thD:Str×Str->D:=λt=>.tup [.str t.1,.str t.2]
def WyOk(w:List Str):Prop:=w.length<=20/\∀z∈w,1<=z.length/\z.length<=12
def Wy14(w:List Str):Prop:=w.length<=14/\∀z∈w,1<=z.length/\z.length<=12
theorem Wy14.ok{w:List Str}(h:Wy14 w):WyOk w:=⟨by have:=h.1;lia,h.2⟩
theorem WyOk.ne{w:List Str}(h:WyOk w):("" : Str)∉w:=λm=>by
 have:=(h.2 _ m).1
 have e:("" : Str).length=0:=by decide +kernel
 lia
theorem WyOk.take{w:List Str}(h:WyOk w)(k:Nat):WyOk (w.take k):=⟨by rw[List.length_take];have:=h.1;lia,λz m=>h.2 z (List.mem_of_mem_take m)⟩
theorem WyOk.drop{w:List Str}(h:WyOk w):WyOk w.dropLast:=by rw[List.dropLast_eq_take];exact h.take _
def prR(r:Row):List Str×D:=(r.1,thD r.2)
theorem qkk(rs:List Row)(w:List Str):lkP (rs.map prR) w=(rs.find? λr=>decide (r.1=w)).map λr=>thD r.2:=by
 unfold lkP
 rw[List.find?_map,Option.map_map]
 rfl
def prM(r:Row):List Str×D:=(r.1,.str r.2.1)
theorem qvf(rs:List Row)(w:List Str):lkP (rs.map prM) w=(qbu rs w).map D.str:=by
 unfold lkP qbu
 rw[List.find?_map,Option.map_map,Option.map_map]
 rfl
theorem qhr(rs:List Row):(rs.map prR).map (·.1)=rs.map (·.1):=by rw[List.map_map];rfl
theorem qyw(rs:List Row):(rs.map prM).map (·.1)=rs.map (·.1):=by rw[List.map_map];rfl
def qc8(rs:List Row)(w:List Str):Bool:=(List.range w.length).any λk=>decide (qbu rs (w.take k)=some qa2)
noncomputable def qrv(rs:List Row):List Row:=open Classical in if h:∃ts:List Row,ts.Perm rs/\qbg ts then Classical.choose h else rs
theorem qn3{ts rs:List Row}(hp:ts.Perm rs)(hs:qbg ts):qrv rs=ts:=by
 have h:∃ts:List Row,ts.Perm rs/\qbg ts:=⟨ts,hp,hs⟩
 unfold qrv
 rw[dif_pos h]
 exact qhl ((Classical.choose_spec h).1.trans hp.symm) (Classical.choose_spec h).2 hs
noncomputable def qck(p tr:List Row):List Row:=qrv (qa1 p tr++putR p)
def bulk(p:List Row):Nat:=(p.filter λr=>!decide (r.1=[])).length
def mkOk(r:Row):Prop:=(r.2.1=qc6\/r.2.1=qdm)\/(r.2.1=qaq/\r.2.2=qdb)\/r.2.1=qa2\/r.2.1=qa6
def FS(m:Str):Prop:=m=qaq\/m=qa2
theorem FS.live{m:Str}(h:FS m):m≠qa6:=by
 rcases h with rfl|rfl
 ·exact Ne.symm mne.2.1
 ·exact Ne.symm mne.2.2.2.2.1
def FolIn(rs:List Row)(f:List Str):Prop:=Wy14 f/\(f=[]\/∃q∈rs,q.1=f/\FS q.2.1)
def qv2(rs:List Row)(r:Row):Prop:=(r.1=[]/\r.2.1=qa2)\/(r.1≠[]/\Wy14 r.1/\FolIn rs r.1.dropLast/\mkOk r)
structure PInv(i:Nat)(rs:List Row)(fs:List (List Str)):Prop where
 nd:(rs.map (·.1)).Nodup
 row:∀r∈rs,qv2 rs r
 blk:bulk rs<=i
 len:rs.length<=i+1
 ne:fs≠[]
 fol:∀f∈fs,FolIn rs f
 fln:fs.length<=i+1
 nu:∀r∈rs,r.2.1=qa6\/r.2.1=qa2->qbt rs r.1=false
theorem anc{rs:List Row}(row:∀r∈rs,qv2 rs r):∀(n:Nat) (f:List Str),f.length=n->FolIn rs f->∀k,0<k->k<=f.length->∃q∈rs,q.1=f.take k/\FS q.2.1
|0,f,hn,_,k,h0,hk=>by lia
|n+1,f,hn,hf,k,h0,hk=>by
  have fne:f≠[]:=λz=>by rw[z] at hn;cases hn
  obtain⟨q,mq,eq,fq⟩:=hf.2.resolve_left fne
  rcases Nat.lt_or_ge k f.length with h|h
  ·rcases row q mq with c|⟨_,_,c,_⟩
   ·exact absurd (eq▸c.1) fne
   ·rw[eq] at c
    have hl:f.dropLast.length=n:=by rw[List.length_dropLast];lia
    obtain⟨o,mo,eo,fo⟩:=anc row n f.dropLast hl c k h0 (by lia)
    refine⟨o,mo,?_,fo⟩
    rw[eo,List.dropLast_eq_take,List.take_take,Nat.min_eq_left (by lia)]
  ·have:k=f.length:=by lia
   rw[this,List.take_length]
   exact⟨q,mq,eq,fq⟩
theorem qs7{rs:List Row}(nd:(rs.map (·.1)).Nodup){w:List Str}(h:∀k,0<k->k<w.length->∃q∈rs,q.1=w.take k/\FS q.2.1)(rt:∀r∈rs,r.1=[]->r.2.1=qa2):qbt rs w=qc8 rs w:=by
 unfold qbt qc8
 refine qd1 λk hk=>?_
 have hk:=List.mem_range.mp hk
 have key:∀q∈rs,q.1=w.take k->FS q.2.1->qci (qbu rs (w.take k))=decide (qbu rs (w.take k)=some qa2):=λq mq eq fq=>by
  rw[←eq,qd5 nd mq]
  rcases fq with e|e
  ·rw[e,decide_eq_false (λz=>mne.1 (Option.some.inj z).symm)];simp[qci]
  ·rw[e,decide_eq_true rfl];simp[qci,mne.1]
 by_cases h0:k=0
 ·subst h0
  rw[List.take_zero] at key ⊢
  by_cases hi:inR rs []=true
  ·obtain⟨q,mq,eq⟩:=List.mem_map.mp (of_decide_eq_true hi)
   exact key q mq eq (.inr (rt q mq eq))
  ·rw[Bool.not_eq_true] at hi
   rw[qd6 hi]
   rfl
 ·obtain⟨q,mq,eq,fq⟩:=h k (by lia) hk
  exact key q mq eq fq
theorem qie{rs:List Row}{r:Row}{w:List Str}(h:r.1≠w):qbu (rs++[r]) w=qbu rs w:=by
 unfold qbu
 rw[List.find?_append]
 have:[r].find? (λq=>decide (q.1=w))=none:=by simp[h]
 rw[this,Option.or_none]
theorem qh9{rs:List Row}{r:Row}{w:List Str}(h:∀k,k<w.length->r.1≠w.take k):qbt (rs++[r]) w=qbt rs w:=by
 unfold qbt
 exact qd1 λk hk=>by rw[qie (h k (List.mem_range.mp hk))]
theorem Wy14.nil:Wy14 []:=⟨Nat.zero_le _,λ_ h=>by cases h⟩
theorem PInv.start{rs:List Row}(h:rs=[]\/rs=[([],qa2,qdb)]):PInv 0 rs [[]]:=by
 rcases h with rfl|rfl
 ·exact⟨List.nodup_nil,(λ_ h=>by cases h),Nat.le_refl _,Nat.zero_le _,by simp,λf hf=>by rw[List.mem_singleton.mp hf];exact⟨.nil,.inl rfl⟩,Nat.le_refl _,(λ_ h=>by cases h)⟩
 ·exact⟨by simp,λr hr=>by rw[List.mem_singleton.mp hr];exact .inl ⟨rfl,rfl⟩,Nat.le_refl _,Nat.le_refl _,by simp,λf hf=>by rw[List.mem_singleton.mp hf];exact⟨.nil,.inl rfl⟩,Nat.le_refl _,λr hr _=>by rw[List.mem_singleton.mp hr];rfl⟩
theorem FolIn.more{rs:List Row}{f:List Str}(h:FolIn rs f)(r:Row):FolIn (rs++[r]) f:=⟨h.1,h.2.imp id λ⟨q,mq,e,g⟩=>⟨q,List.mem_append_left _ mq,e,g⟩⟩
theorem PInv.stay{i:Nat}{rs:List Row}{fs:List (List Str)}(P:PInv i rs fs):PInv (i+1) rs fs:=⟨P.nd,P.row,Nat.le_succ_of_le P.blk,Nat.le_succ_of_le P.len,P.ne,P.fol,Nat.le_succ_of_le P.fln,P.nu⟩
theorem PInv.put{i:Nat}{rs:List Row}{fs:List (List Str)}(P:PInv i rs fs){f:List Str}(hf:f∈fs){z:Str}{m t:Str}(hm:mkOk (f++[z],m,t))(hw:Wy14 (f++[z]))(nw:f++[z]∉rs.map (·.1))(hsh:m=qa6\/m=qa2->qc8 rs (f++[z])=false):PInv (i+1) (rs++[(f++[z],m,t)]) fs/\(FS m->PInv (i+1) (rs++[(f++[z],m,t)]) (fs++[f++[z]])):=by
 have A:PInv (i+1) (rs++[(f++[z],m,t)]) fs:=by
  refine⟨?_,λr hr=>?_,?_,?_,P.ne,λg hg=>(P.fol g hg).more _,Nat.le_succ_of_le P.fln,λr hr hm2=>?_⟩
  ·rw[List.map_append,List.nodup_append]
   refine⟨P.nd,by simp,λa ha b hb e=>?_⟩
   have:b=f++[z]:=by simpa using hb
   rw[e,this] at ha
   exact nw ha
  ·rcases List.mem_append.mp hr with q|q
   ·rcases P.row r q with h|⟨h1,h2,h3,h4⟩
    ·exact .inl h
    ·exact .inr ⟨h1,h2,h3.more _,h4⟩
   ·rw[List.mem_singleton.mp q]
    refine .inr ⟨by simp,hw,?_,hm⟩
    show FolIn _ (f++[z]).dropLast
    rw[List.dropLast_concat]
    exact(P.fol f hf).more _
  ·have:=P.blk
   unfold bulk at this ⊢
   rw[List.filter_append,List.length_append]
   have:=List.length_filter_le (λr:Row=>!decide (r.1=[])) [(f++[z],m,t)]
   rw[List.length_singleton] at this
   lia
  ·have:=P.len
   rw[List.length_append,List.length_singleton]
   lia
  ·rcases List.mem_append.mp hr with q|q
   ·have old:=P.nu r q hm2
    rw[qh9 (λk hk e=>?_)]
    ·exact old
    ·have e':f++[z]=r.1.take k:=e
     rcases P.row r q with c|⟨_,_,c,_⟩
     ·rw[c.1] at hk
      cases hk
     ·have k0:0<k:=by
       rcases Nat.eq_zero_or_pos k with z0|z0
       ·rw[z0,List.take_zero] at e'
        exact absurd e' (by simp)
       ·exact z0
      obtain⟨o,mo,eo,_⟩:=anc P.row _ r.1.dropLast rfl c k k0 (by rw[List.length_dropLast];lia)
      refine nw (List.mem_map.mpr ⟨o,mo,?_⟩)
      rw[eo,e',List.dropLast_eq_take,List.take_take,Nat.min_eq_left (by lia)]
   ·have er:=List.mem_singleton.mp q
    subst er
    show qbt (rs++[(f++[z],m,t)]) (f++[z])=false
    rw[qh9 (λk hk e=>?_)]
    ·rw[qs7 P.nd (λk k0 k1=>?_) λr hr h0=>?_]
     ·exact hsh hm2
     ·rw[List.length_append,List.length_singleton] at k1
      obtain⟨o,mo,eo,fo⟩:=anc P.row _ f rfl (P.fol f hf) k k0 (by lia)
      exact⟨o,mo,by rw[eo,List.take_append_of_le_length (by lia)],fo⟩
     ·rcases P.row r hr with c|c
      ·exact c.2
      ·exact absurd h0 c.1
    ·have:=congrArg List.length (show f++[z]=(f++[z]).take k from e)
     rw[List.length_take] at this
     lia
 refine⟨A,λhg=>⟨A.nd,A.row,A.blk,A.len,by simp,λg hg2=>?_,?_,?_⟩⟩
 ·rcases List.mem_append.mp hg2 with q|q
  ·exact A.fol g q
  ·rw[List.mem_singleton.mp q]
   exact⟨hw,.inr ⟨(f++[z],m,t),by simp,rfl,hg⟩⟩
 ·have:=P.fln
  rw[List.length_append,List.length_singleton]
  lia
 ·exact A.nu
theorem PInv.pane{i:Nat}{rs ts:List Row}{fs:List (List Str)}(P:PInv i rs fs)(hp:ts.Perm rs)(hs:qbg ts):PaneOk ts/\(∀r∈ts,Wy14 r.1)/\bulk ts<=i/\ts.length<=i+1/\∀r∈ts,r.2.1=qa6\/r.2.1=qa2->qbt ts r.1=false:=by
 have mem:∀r,r∈ts->qv2 rs r:=λr hr=>P.row r (hp.mem_iff.mp hr)
 refine⟨⟨hs,λr hr=>?_,λr hr=>?_,λr hr h0=>?_⟩,λr hr=>?_,?_,?_,λr hr hm=>?_⟩
 ·rcases mem r hr with h|⟨h1,_,h3,_⟩
  ·exact .inl h.1
  ·rcases h3.2 with h|⟨q,mq,e,g⟩
   ·exact .inr (.inl h)
   ·exact .inr (.inr ⟨q,hp.mem_iff.mpr mq,e,g.live⟩)
 ·rcases mem r hr with h|⟨_,_,_,h4⟩
  ·exact .inr (.inr (.inl h.2))
  ·exact h4
 ·rcases mem r hr with h|⟨h1,_⟩
  ·exact h.2
  ·exact absurd h0 h1
 ·rcases mem r hr with h|⟨_,h2,_⟩
  ·rw[h.1];exact .nil
  ·exact h2
 ·have:=P.blk
  unfold bulk at this ⊢
  rw[(hp.filter _).length_eq]
  exact this
 ·rw[hp.length_eq]
  exact P.len
 ·have nt:=qa0 hs
  have:∀w,qbu ts w=qbu rs w:=λw=>by
   by_cases h:inR ts w=true
   ·obtain⟨q,mq,e⟩:=List.mem_map.mp (of_decide_eq_true h)
    rw[←e,qd5 nt mq,qd5 P.nd (hp.mem_iff.mp mq)]
   ·have h2:inR rs w=false:=by
     rw[Bool.not_eq_true] at h
     refine decide_eq_false λm=>of_decide_eq_false h ?_
     exact((hp.map (·.1)).mem_iff).mpr m
    rw[Bool.not_eq_true] at h
    rw[qd6 h,qd6 h2]
  have e:qbt ts r.1=qbt rs r.1:=qd1 λk _=>by rw[this]
  rw[e]
  exact P.nu r (hp.mem_iff.mp hr) hm
def lkR(rs:List Row)(w:List Str):Str×Str:=((rs.find? λr=>decide (r.1=w)).map (·.2)).getD (qdb,qdb)
theorem qgm{rs:List Row}(nd:(rs.map (·.1)).Nodup){r:Row}(h:r∈rs):(rs.find? λq=>decide (q.1=r.1))=some r:=by
 cases e:rs.find? λq=>decide (q.1=r.1) with
|none=>exact absurd (decide_eq_true rfl) (List.find?_eq_none.mp e r h)
|some q =>
  have h1:=List.mem_of_find?_eq_some e
  have h2:q.1=r.1:=of_decide_eq_true (p:=q.1=r.1) (by simpa using List.find?_some e)
  rw[qko nd h1 h h2]
theorem qdy{rs:List Row}(nd:(rs.map (·.1)).Nodup){vs:List (List Str)}(hv:vs.Perm (rs.map (·.1)))(hs:vs.Pairwise (λa b=>ltW a b=true)):(vs.map λw=>(w,lkR rs w)).Perm rs/\qbg (vs.map λw=>(w,lkR rs w)):=by
 constructor
 ·refine(hv.map _).trans (List.Perm.of_eq ?_)
  rw[List.map_map]
  refine(List.map_congr_left λr hr=>?_).trans (List.map_id _)
  show (r.1,lkR rs r.1)=r
  unfold lkR
  rw[qgm nd hr]
  rfl
 ·show List.Pairwise _ (List.map _ _)
  rw[List.pairwise_map]
  exact hs
theorem qi9{rs:List Row}(nd:(rs.map (·.1)).Nodup){w:List Str}(h:w∈rs.map (·.1)):lkP (rs.map prR) w=some (thD (lkR rs w)):=by
 obtain⟨r,mr,rfl⟩:=List.mem_map.mp h
 rw[qkk]
 unfold lkR
 rw[qgm nd mr]
 rfl
def s6(u:Nat):Nat:=u%99991%9+(u+96542*1)%99991%9+(u+96542*2)%99991%9+(u+96542*3)%99991%9+(u+96542*4)%99991%9+(u+96542*5)%99991%9
end L2
namespace L2
open PySem PySem.Spec PyProof.Rows
section
variable {K:PySem.W.Frag} {B:Hp} {ad:Addr}
end
section
variable {X:Cx} {EX:St->XK} {pos p:Pos} {x y:Str} {es:List Expr} {tA:TVA}
end
end L2
namespace L2
open PySem PySem.Spec PyProof.Rows
def rowAt(p:List Row)(w:List Str):Option (Str×Str):=(p.find? λr=>decide (r.1=w)).map (·.2)
theorem qtl(p:List Row)(w:List Str):qbu p w=(rowAt p w).map (·.1):=by
 unfold qbu rowAt
 rw[Option.map_map]
 rfl
theorem qdn{p:List Row}(nd:(p.map (·.1)).Nodup){w:List Str}{x:Str×Str}:rowAt p w=some x↔(w,x)∈p:=by
 unfold rowAt
 constructor
 ·intro h
  obtain⟨r,e,rfl⟩:=Option.map_eq_some_iff.mp h
  have h1:=List.mem_of_find?_eq_some e
  have h2:r.1=w:=of_decide_eq_true (p:=r.1=w) (by simpa using List.find?_some e)
  rw[←h2]
  exact h1
 ·intro h
  have:=qgm nd h
  rw[this]
  rfl
theorem rowAt_none{p:List Row}{w:List Str}:rowAt p w=none↔w∉p.map (·.1):=by
 unfold rowAt
 rw[Option.map_eq_none_iff,List.find?_eq_none]
 constructor
 ·intro h m
  obtain⟨r,mr,e⟩:=List.mem_map.mp m
  exact h r mr (decide_eq_true e)
 ·intro h r mr e
  exact h (List.mem_map.mpr ⟨r,mr,of_decide_eq_true e⟩)
theorem qw2{β:Type}{a b:Option β}(h:∀x,a=some x↔b=some x):a=b:=by
 cases a with
|none =>
  cases b with
 |none=>rfl
 |some y=>exact absurd ((h y).mpr rfl) (by simp)
|some x=>exact((h x).mp rfl).symm
theorem qms{p q:List Row}(h1:qbg p)(h2:qbg q)(h:∀w,rowAt p w=rowAt q w):p=q:=by
 have n1:=qa0 h1
 have n2:=qa0 h2
 have nn:∀ {p:List Row},(p.map (·.1)).Nodup->p.Nodup:=λ{p} n=>by
  rw[List.nodup_iff_pairwise_ne,List.pairwise_map] at n
  rw[List.nodup_iff_pairwise_ne]
  exact n.imp λa e=>a (by rw[e])
 refine qhl ((List.perm_ext_iff_of_nodup (nn n1) (nn n2)).mpr λr=>?_) h1 h2
 rw[show r=(r.1,r.2) from rfl,←qdn n1,←qdn n2,h]
theorem q2f:qci (some qa2)=true:=by simp[qci,mne.1]
structure PaneC(p:List Row):Prop where
 so:qbg p
 cl:∀r∈p,r.1=[]\/r.1.dropLast=[]\/∃q∈p,q.1=r.1.dropLast/\q.2.1≠qa6
section
variable {α:Type} {f:α->D} {τ:VSt} {k:Nat} {g:TVG} {ti:TVT} {te:TV} {Q:R->Prop}
theorem qp5(P:α->D->Prop)(p:α->Bool)(xs:List α)(hz:xs.length<=sizeLine)
  (ok:∀x∈xs,∀(Y:R->Prop) (N:Prop),(p x=true->∀d,P x d->Y (.own d))->(p x=false->N)->g (f x) (τ++List.replicate k none) λτ2=>(τ2.take τ.length=τ/\τ2.length=τ.length+k)/\ti τ2 λb=>if b=true then te τ2 Y else N)
  (fin:∀es:List D,es.length=(xs.filter p).length->(∀(j:Nat) (x:α) (e:D),(xs.filter p)[j]?=some x->es[j]?=some e->P x e)->Q (.own (.lst es))):qgy τ k g ti te Q (xs.map f) []:=by
 have key:∀(ys zs:List α) (acc:List D),xs=zs++ys->acc.length=(zs.filter p).length->(∀(j:Nat) (x:α) (e:D),(zs.filter p)[j]?=some x->acc[j]?=some e->P x e)->qgy τ k g ti te Q (ys.map f) acc:=by
  intro ys
  induction ys with
 |nil =>
   intro zs acc e h1 h2
   rw[List.append_nil] at e
   subst e
   exact fin acc h1 h2
 |cons y ys ih =>
   intro zs acc e h1 h2
   have hl:acc.length<sizeLine:=by
    have h3:=List.length_filter_le p zs
    have h4:xs.length=zs.length+(ys.length+1):=by rw[e,List.length_append,List.length_cons]
    lia
   refine ok y (by rw[e];simp) _ _ (λhp d hd=>⟨hl,ih (zs++[y]) (acc++[d]) (by rw[e];simp) ?_ λj x e' q1 q2=>?_⟩) (λhp=>ih (zs++[y]) acc (by rw[e];simp) ?_ λj x e' q1 q2=>?_)
   ·rw[List.filter_append,List.length_append,List.length_append,h1]
    simp[hp]
   ·rw[List.filter_append] at q1
    have ef:[y].filter p=[y]:=by simp[hp]
    rw[ef] at q1
    by_cases l:j<(zs.filter p).length
    ·rw[List.getElem?_append_left l] at q1
     rw[List.getElem?_append_left (by lia)] at q2
     exact h2 j x e' q1 q2
    ·rw[List.getElem?_append_right (by lia)] at q1
     rw[List.getElem?_append_right (by lia)] at q2
     have ej:j-(zs.filter p).length=0:=by
      have:=(List.getElem?_eq_some_iff.mp q1).1
      simp at this
      lia
     rw[ej] at q1
     rw[h1,ej] at q2
     cases q1
     cases q2
     exact hd
   ·rw[List.filter_append,List.length_append,h1]
    simp[hp]
   ·rw[List.filter_append] at q1
    have ef:[y].filter p=[]:=by simp[hp]
    rw[ef,List.append_nil] at q1
    exact h2 j x e' q1 q2
 exact key xs [] [] rfl rfl (λj x e q=>by simp at q)
theorem qj6(h:α->D)(xs:List α)(hz:xs.length<=sizeLine)
  (ok:∀x∈xs,∀(Y:R->Prop) (N:Prop),Y (.own (h x))->g (f x) (τ++List.replicate k none) λτ2=>(τ2.take τ.length=τ/\τ2.length=τ.length+k)/\ti τ2 λb=>if b=true then te τ2 Y else N)
  (fin:Q (.own (.lst (xs.map h)))):qgy τ k g ti te Q (xs.map f) []:=by
 refine qp5 (λx d=>d=h x) (λ_=>true) xs hz (λx hx Y N h1 _=>ok x hx Y N (h1 rfl _ rfl)) λes hl he=>?_
 rw[qh6] at hl he
 have:es=xs.map h:=List.ext_getElem (by rw[hl,List.length_map]) λj h1 h2=>by
  rw[List.length_map] at h2
  rw[List.getElem_map]
  exact he j _ _ (List.getElem?_eq_getElem h2) (List.getElem?_eq_getElem h1)
 rw[this]
 exact fin
end
def qai(ps:List (List Row)):D:=.lst (ps.map qag)
theorem qy7:∀ps qs:List (List Row),qcf (ps.map qag) (qs.map qag)=true
|[],_=>by cases ‹List (List Row)›<;>rfl
|_::_,[]=>rfl
|a::ps,b::qs=>by
  show qcf (qag a::ps.map qag) (qag b::qs.map qag)=true
  unfold qcf
  rw[qy8,qy7 ps qs]
  rfl
theorem q2a(ps qs:List (List Row)):cmpD (qai ps) (qai qs)=true:=by
 show cmpD (.lst _) (.lst _)=true
 unfold cmpD
 exact qy7 ps qs
theorem qzc:∀ps:List (List Row),qb3 (ps.map qag)<=21
|[]=>by
  show qb3 []<=21
  unfold qb3
  lia
|a::ps=>by
  show qb3 (qag a::ps.map qag)<=21
  unfold qb3
  have:=qzd a
  have:=qzc ps
  lia
theorem q2b(ps:List (List Row)):depD (qai ps)<=50:=by
 show depD (.lst _)<=50
 unfold depD
 have:=qzc ps
 lia
theorem qva(r:Row):∀ts:List Row,qbg ts->r.1∉ts.map (·.1)->∃us:List Row,us.Perm (r::ts)/\qbg us
|[],_,_=>⟨[r],.refl _,List.pairwise_singleton _ _⟩
|t::ts,h,hn=>by
  have h':=List.pairwise_cons.mp h
  rw[List.map_cons,List.mem_cons,not_or] at hn
  rcases qma hn.1 with q|q
  ·refine⟨r::t::ts,.refl _,List.pairwise_cons.mpr ⟨λx hx=>?_,h⟩⟩
   rcases List.mem_cons.mp hx with e|hx
   ·rw[e];exact q
   ·exact qq5 q (h'.1 x hx)
  ·obtain⟨us,p1,p2⟩:=qva r ts h'.2 hn.2
   refine⟨t::us,(p1.cons t).trans (.swap r t ts),List.pairwise_cons.mpr ⟨λx hx=>?_,p2⟩⟩
   rcases List.mem_cons.mp (p1.mem_iff.mp hx) with e|hx
   ·rw[e];exact q
   ·exact h'.1 x hx
theorem qrw:∀rs:List Row,(rs.map (·.1)).Nodup->∃ts:List Row,ts.Perm rs/\qbg ts
|[],_=>⟨[],.nil,.nil⟩
|r::rs,h=>by
  rw[List.map_cons,List.nodup_cons] at h
  obtain⟨ts,p1,p2⟩:=qrw rs h.2
  obtain⟨us,q1,q2⟩:=qva r ts p2 λm=>h.1 (((p1.map (·.1)).mem_iff).mp m)
  exact⟨us,q1.trans (p1.cons r),q2⟩
theorem quh{rs:List Row}(h:(rs.map (·.1)).Nodup):(qrv rs).Perm rs/\qbg (qrv rs):=by
 obtain⟨ts,p1,p2⟩:=qrw rs h
 rw[qn3 p1 p2]
 exact⟨p1,p2⟩
theorem qi5{p tr:List Row}(P:PaneOk p)(T:TreeOk tr):TreeOk (qck p tr)/\(qck p tr).Perm (qa1 p tr++putR p) :=
 let ⟨p1,p2⟩:=quh (qqv (qa0 P.so) (qa0 T.so))
 ⟨qkd P T p1 p2,p1⟩
def s5(u:Nat):Nat:=u%99991%8+(u+96542*1)%99991%8+(u+96542*2)%99991%8+(u+96542*3)%99991%8+(u+96542*4)%99991%8
theorem v_if{t:TVT}{a b:TVS}{Dv:VEnds}{τ:VSt}(P:Bool->Prop)(ht:∀Y:Bool->Prop,(∀c,P c->Y c)->t τ Y)(ha:P true->a Dv τ)(hb:P false->b Dv τ):vIfS t a b Dv τ :=
 ht _ λc hc=>by
  cases c with
 |true=>exact iteT (ha hc)
 |false=>exact iteF (hb hc)
end L2
namespace L2
open PySem PySem.Spec PyProof.Rows
section
variable {X:Cx} {pins:List (Addr×Obj)} {σ:St} {H:Hp} {s:Shared} {h':Heap}
end
section
variable {X:Cx} {elts:List Expr} {kk:Nat} {tp p pos:Pos}
end
section
variable {X:Cx} {EX:St->XK} {elts:List Expr} {kk:Nat} {tp p pos:Pos} {K:PySem.W.Frag} {B:Hp} {a:Expr} {ta:TV}
end
end L2
namespace L2
open PySem PySem.Spec PyProof.Rows
section
variable {prog:Program} {w:World} {A:Around}
end
section
variable {X:Cx} {p kp pos:Pos} {a d:Expr}
end
section
variable {X:Cx} {EX:St->XK} {p kp pos cp:Pos} {a:Expr} {te:TV} {j:Nat}
end
end L2
namespace L2
open PySem PySem.Spec PyProof.Rows
section
variable {X:Cx} {EX:St->XK} {pos pos' p apos cpos:Pos} {x y:Str} {e:Expr}
end
end L2
namespace L2
open PySem PySem.Spec PyProof.Rows
section
variable {X:Cx} {pins:List (Addr×Obj)} {σ:St} {H:Hp} {s:Shared} {tg:Expr}
theorem Inv.frzD{a:Addr}{kvs:List (List Key×V)}(I:Inv X pins σ H s)(e:H a=some (.dT kvs)):∃o,Inv X pins σ (upd H a (.frz o (.dT kvs))) s:=by
 have ok:ObjOk X.prog X.w H s.heap a (.dT kvs):=I.hok a _ e
 obtain⟨_,_,_,_,o,es,ep,h1,_⟩:=id ok
 have nt:∀c xs,H c=some (.tup xs)->c≠a:=λc xs q z=>by rw[z,e] at q;cases q
 have no:∀c,H c=some (.own a)->c≠a:=λc q z=>by rw[z,e] at q;cases q
 refine⟨o,I.write (x:=a) (e:=a) (t':=s.toks) (h':=s.heap) (by rw[e];exact trivial) (.inl rfl) (λ_ _ _ q=>q) ⟨o,h1⟩ ⟨h1,ok.stay (λ_ _ _ q=>q) (λc q=>by rw[qbd (no c q)];exact q) λc xs q=>by rw[qbd (nt c xs q)];exact q⟩⟩
def q3b(i:Nat)(t:TS):TS:=λD σ H=>∃a kvs,σ[i]?=some (some (.ref a))/\H a=some (.dT kvs)/\∀o,t D σ (upd H a (.frz o (.dT kvs)))
theorem qt6{ss:List Stmt}{t:TS}(i:Nat)(h:QSs X ss t):QSs X ss (q3b i t):=⟨λpins s σ H D I ⟨a,kvs,_,e2,k⟩=>by
 obtain⟨o,I2⟩:=Inv.frzD I e2
 exact h.u pins s σ _ D I2 (k o)⟩
end
section
variable {X:Cx} {EX:St->XK} {K:PySem.W.Frag} {B H:Hp} {tg:Expr} {x:Str} {pos:Pos} {rest:List Stmt} {t:TVS}
def qjr(i:Nat)(t:TVS):TVS:=λDv τ=>match τ[i]? with
|some (some (.own (.dT ks ds)))=>t Dv (τ.set i (some (.peek (.dT ks ds))))
|_=>False
theorem qob(i:Nat)(h:VSs X EX rest t):VSs X EX rest (qjr i t) :=
 let ⟨_,a1,a2⟩:=h.u;⟨_,qt6 i a1,λB0 H0 B H τ σ Dv Dh p S h E=>by
  unfold qjr at h
  split at h
  ·rename_i ks ds e
   obtain⟨a,q,h0,hb,kvs,e1,e2,e3⟩:=S.own i _ e
   refine⟨a,kvs,q,e1,λo=>?_⟩
   have sb:=qax hb (HO.frz o (.dT kvs))
   refine a2 B0 H0 (upd B a (.frz o (.dT kvs))) _ _ σ _ _ ⟨p.b.trans sb,p.h.put h0,λc u q=>?_,λc z=>?_⟩ ⟨by rw[List.length_set,S.len],λj f q'=>?_,λj f q'=>?_,λj f q'=>?_,λj k f g c q1 q2 q3 q4=>?_⟩ h E
   ·by_cases z:c=a
    ·subst z
     rw[qbp] at q ⊢
     exact q
    ·rw[qbd z] at q ⊢
     exact p.s _ _ q
   ·by_cases w:c=a
    ·exact .inr (.inl (w▸h0))
    ·rw[qbd w] at z
     exact p.d c z
   ·rcases qb1 q' with ⟨rfl,z,l⟩|⟨n,q'⟩
    ·cases z
    ·obtain⟨w,q1,r⟩:=S.val j f q'
     exact⟨w,q1,r.same sb⟩
   ·rcases qb1 q' with ⟨rfl,z,l⟩|⟨n,q'⟩
    ·cases z
     exact⟨_,q,a,ks,ds,kvs,o,rfl,rfl,qbp,e2,e3.same sb⟩
    ·obtain⟨w,q1,r⟩:=S.fz j f q'
     exact⟨w,q1,r.same sb⟩
   ·rcases qb1 q' with ⟨rfl,z,l⟩|⟨n,q'⟩
    ·cases z
    ·obtain⟨c,q1,h0',hb',w⟩:=S.own j f q'
     have ne:c≠a:=λz=>by subst z;exact n (S.sep i j _ f c e q' q q1)
     exact⟨c,q1,h0',by rw[qbd ne];exact hb',w.step sb (qbd ne)⟩
   ·rcases qb1 q1 with ⟨rfl,z,l⟩|⟨n,q1⟩
    ·cases z
    rcases qb1 q2 with ⟨rfl,z,l⟩|⟨n2,q2⟩
    ·cases z
    exact S.sep j k f g c q1 q2 q3 q4
  ·exact h.elim⟩
end
end L2
namespace L2
open PySem PySem.Spec PyProof.Rows
section
variable {X:Cx}
theorem q09{i:Nat}{x:Str}{e:Expr}{te:TE}{op:Operator}{ti:TIp}{pos pos':Pos}(hN:X.N.Nodup)(hi:X.N[i]?=some x)(hx:Loc X.env.scope x)(he:QE X e te)(ho:PIp X op ti)(hf:X.fn x=true\/X.env.scope.names.lookup x=some .local):QS X (.AugAssign (.Name x pos') op e pos) (tAug i te ti):=⟨q0r hN hi hx he.u ho hf⟩
end
section
variable {X:Cx} {EX:St->XK} {pos pos' p apos cpos:Pos} {x:Str} {e:Expr} {es:List Expr} {te:TV} {tA:TVA} {K:PySem.W.Frag} {B B' H H0:Hp} {τ:VSt} {σ:St}
end
end L2
namespace L2
open PySem PySem.Spec PyProof.Rows
section
variable {X:Cx} {pins:List (Addr×Obj)} {σ:St} {H:Hp} {s:Shared} {st:Stmt} {rest:List Stmt}
end
section
variable {X:Cx} {EX:St->XK} {K:PySem.W.Frag} {B B' H H0:Hp} {τ:VSt} {σ:St} {x:Str} {e:Expr} {te:TV} {rest:List Stmt} {u:TVS} {pos pos':Pos}
end
end L2
namespace L2
open PySem PySem.Spec PyProof.Rows
section
variable {X:Cx} {EX:St->XK} {pos p cpos:Pos} {x y:Str} {e:Expr} {es:List Expr} {tA:TVA} {K:PySem.W.Frag} {B B' H H0:Hp} {τ:VSt} {σ:St}
end
end L2
namespace L2
open PySem PySem.Spec PyProof.Rows
section
variable {X:Cx} {elts:List Expr} {kk:Nat} {tp p pos:Pos}
end
section
variable {X:Cx} {EX:St->XK} {elts:List Expr} {kk:Nat} {tp p pos:Pos} {K:PySem.W.Frag} {B:Hp} {a b:Expr} {ta tb:TV}
end
section
variable {X:Cx} {EX:St->XK}
end
end L2
namespace L2
open PySem PySem.Spec PyProof.Rows Builtin.Str
section
variable {X:Cx}
abbrev TJ:=St->Hp->Str->VK->Prop
structure QJ(X:Cx)(vs:List Expr)(t:TJ):Prop where
 u:∀(pins:List (Addr×Obj)) (s:Shared) (σ:St) (H:Hp) (out:Str) (Q:VK),Inv X pins σ H s->t σ H out Q->wpAny (model X.prog X.w) X.A (joinParts out (evalEach vs X.env)) (EP X pins σ Q) X.xe s
end
section
variable {X:Cx} {EX:St->XK} {K:PySem.W.Frag} {o e e1 e2:Expr} {to te t1 t2:TV} {apos cpos p pos:Pos} {x:Str} {rest:List Expr}
abbrev TVJ:=VSt->Str->(R->Prop)->Prop
def RfJ(K:PySem.W.Frag)(t:TJ)(u:TVJ):Prop:=∀(H0 B H:Hp) (τ:VSt) (σ:St) (out:Str) (Q:VK) (Qd:R->Prop),Same B H->Slots K H0 B H τ σ->u τ out Qd->(∀r v B' H',Stp B H B' H'->RepR K B' H H' r v->Qd r->Q v H')->t σ H out Q
structure VJ(X:Cx)(EX:St->XK)(vs:List Expr)(t:TVJ):Prop where
 u:∃tj,QJ X vs tj/\RfJ X.K tj t
def qk5:TVS:=λ_ _=>False
theorem qur{st:Stmt}:VS X EX st qk5:=⟨_,(⟨λ_ _ _ _ _ _ h=>h.elim⟩:QS X st λ_ _ _=>False),λ_ _ _ _ _ _ _ _ _ _ h _=>h⟩
end
end L2
namespace L2
open PySem PySem.Spec PyProof.Rows
section
variable {X:Cx} {EX:St->XK} {K:PySem.W.Frag} {B H H0:Hp} {e:Expr} {t:TV} {τ:VSt} {σ:St}
end
end L2
namespace L2
open PySem PySem.Spec PyProof.Rows
section
variable {X:Cx} {EX:St->XK} {K:PySem.W.Frag} {B H B' H' H0 B0 B1 H1:Hp} {st:Stmt} {rest:List Stmt} {t u:TVS} {e a:Expr} {te ta:TV} {tT:TVT} {tA:TVA} {es:List Expr} {pos pos' p p2 apos cpos:Pos} {x y:Str} {τ:VSt} {σ:St} {r:R} {v:V}
def RfAI(K:PySem.W.Frag)(EX:St->XK)(te:TA)(t:TVA)(k j:Nat):Prop:=∀(H0 B H:Hp) (τ:VSt) (σ:St) (Q:List V->Hp->Prop) (Qd:AR->Prop),Same B H->Slots K H0 B H τ σ->(∃c ps,τ[j]?=some (some (R.own (.io c ps))))->t τ Qd->(∀n C B' H',Stp B H B' H'->clsOf K n C->Qd (.exc n)->EX σ (.ref C) none H') ->
 (∀ds vs B' H' ad,Stp B H B' H'->k<=vs.length->σ[j]?=some (some (.ref ad))->Reps K B' ds vs->Qd (.ok ds)->Q (vs.insertIdx k (.ref ad)) H')->te σ H Q
structure VAI(X:Cx)(EX:St->XK)(es:List Expr)(t:TVA)(k j:Nat):Prop where
 u:∃te,QA X es te/\RfAI X.K EX te t k j
end
section
variable {K:PySem.W.Frag} {x qual:Str} {st:Stmt} {f:Addr} {fd:FuncData} {ps:List Str}
theorem qc4{α:Type}{us:List α}{n:Nat}(h:us.length=n+1):∃a t,us=a::t/\t.length=n:=by
 cases us with
|nil=>cases h
|cons a t=>exact⟨a,t,rfl,Nat.succ.inj h⟩
theorem Fun.binds1(F:Fun K x qual st f fd)(hp:ps.length=1)(h:∀(kV doc pm:Value) (an:Option Addr) (cdv ct a0:Value),bindArgs (PySem.W.fnOf x qual (qaw st) (qav st) (qae st) .none kV doc pm an cdv ct) ⟨[a0],[]⟩=pure (ps.zip [a0])):Binds K fd ps [] :=
 F.binds λkV doc pm an cdv ct us hl=>by
  obtain⟨a0,t,rfl,h0⟩:=qc4 (hl.trans hp)
  cases List.length_eq_zero_iff.mp h0
  exact h kV doc pm an cdv ct a0
theorem Fun.binds2(F:Fun K x qual st f fd)(hp:ps.length=2)(h:∀(kV doc pm:Value) (an:Option Addr) (cdv ct a0 a1:Value),bindArgs (PySem.W.fnOf x qual (qaw st) (qav st) (qae st) .none kV doc pm an cdv ct) ⟨[a0,a1],[]⟩=pure (ps.zip [a0,a1])):Binds K fd ps [] :=
 F.binds λkV doc pm an cdv ct us hl=>by
  obtain⟨a0,t,rfl,h0⟩:=qc4 (hl.trans hp)
  obtain⟨a1,t,rfl,h1⟩:=qc4 h0
  cases List.length_eq_zero_iff.mp h1
  exact h kV doc pm an cdv ct a0 a1
theorem Fun.binds3(F:Fun K x qual st f fd)(hp:ps.length=3)(h:∀(kV doc pm:Value) (an:Option Addr) (cdv ct a0 a1 a2:Value),bindArgs (PySem.W.fnOf x qual (qaw st) (qav st) (qae st) .none kV doc pm an cdv ct) ⟨[a0,a1,a2],[]⟩=pure (ps.zip [a0,a1,a2])):Binds K fd ps [] :=
 F.binds λkV doc pm an cdv ct us hl=>by
  obtain⟨a0,t,rfl,h0⟩:=qc4 (hl.trans hp)
  obtain⟨a1,t,rfl,h1⟩:=qc4 h0
  obtain⟨a2,t,rfl,h2⟩:=qc4 h1
  cases List.length_eq_zero_iff.mp h2
  exact h kV doc pm an cdv ct a0 a1 a2
theorem Fun.binds4(F:Fun K x qual st f fd)(hp:ps.length=4)(h:∀(kV doc pm:Value) (an:Option Addr) (cdv ct a0 a1 a2 a3:Value),bindArgs (PySem.W.fnOf x qual (qaw st) (qav st) (qae st) .none kV doc pm an cdv ct) ⟨[a0,a1,a2,a3],[]⟩=pure (ps.zip [a0,a1,a2,a3])):Binds K fd ps [] :=
 F.binds λkV doc pm an cdv ct us hl=>by
  obtain⟨a0,t,rfl,h0⟩:=qc4 (hl.trans hp)
  obtain⟨a1,t,rfl,h1⟩:=qc4 h0
  obtain⟨a2,t,rfl,h2⟩:=qc4 h1
  obtain⟨a3,t,rfl,h3⟩:=qc4 h2
  cases List.length_eq_zero_iff.mp h3
  exact h kV doc pm an cdv ct a0 a1 a2 a3
end
theorem WyOk.ok{w:List Str}(h:WyOk w):WyOk w:=h
end L2
namespace L2
open PySem PySem.Spec PyProof.Rows
section
variable {X:Cx} {EX:St->XK} {a b e:Expr} {es:List Expr} {pos p tp:Pos} {tA:TVA} {te:TV}
end
end L2
namespace L2
open PySem PySem.Spec PyProof.Rows
section
variable {X:Cx} {EX:St->XK} {K:PySem.W.Frag} {B H B' H' H0 B0 B1 H1:Hp} {st:Stmt} {rest:List Stmt} {t u:TVS} {e a:Expr} {te ta tk:TV} {tT:TVT} {tA:TVA} {es:List Expr} {pos pos' p p2 apos cpos:Pos} {x y:Str} {τ:VSt} {σ:St} {r:R} {v:V}
def q19(K:PySem.W.Frag)(EX:St->XK)(te:TA)(t:TVA)(k j:Nat):Prop:=∀(H0 B H:Hp) (τ:VSt) (σ:St) (Q:List V->Hp->Prop) (Qd:AR->Prop),Same B H->Slots K H0 B H τ σ->(∃ks ps,τ[j]?=some (some (R.own (.dT ks ps))))->t τ Qd->(∀n C B' H',Stp B H B' H'->clsOf K n C->Qd (.exc n)->EX σ (.ref C) none H') ->
 (∀ds vs B' H' ad,Stp B H B' H'->k<=vs.length->σ[j]?=some (some (.ref ad))->Reps K B' ds vs->Qd (.ok ds)->Q (vs.insertIdx k (.ref ad)) H')->te σ H Q
structure VAIT(X:Cx)(EX:St->XK)(es:List Expr)(t:TVA)(k j:Nat):Prop where
 u:∃te,QA X es te/\q19 X.K EX te t k j
end
section
variable {X:Cx} {p kp pos:Pos} {a d:Expr}
end
section
variable {X:Cx} {EX:St->XK} {p kp pos cp:Pos} {a:Expr} {te:TV} {j:Nat}
end
section
variable {prog:Program} {w:World} {A:Around} {E:Value->Shared->Prop} {s:Shared} {d:Addr} {es:Array DictEntry} {ep:Nat}
end
section
variable {X:Cx}
end
section
variable {P:Program} {w:World} {K:PySem.W.Frag} {mg:Str->Option Value} {base h:Heap} {x:Str} {st:Stmt} {k:Nat} {ps:List Str} {sp:Sp}
end
end L2
namespace L2
open PySem PySem.Spec PyProof.Rows
section
variable {X:Cx}
end
end L2
namespace L2
open PySem PySem.Spec PyProof.Rows
section
variable {X:Cx} {EX:St->XK} {K:PySem.W.Frag} {B B' H H0:Hp} {τ:VSt} {σ:St} {x:Str} {e:Expr} {te:TV} {rest:List Stmt} {u:TVS} {pos pos':Pos}
end
end L2
namespace L2
open PySem PySem.Spec PyProof.Rows
section
variable {X:Cx} {EX:St->XK} {e a o i:Expr} {te ta to ti:TV} {pos pos' p p2 apos cpos:Pos} {x:Str} {f:Expr} {tf:TV}
end
end L2
namespace L2
open PySem PySem.Spec PyProof.Rows
section
variable {X:Cx}
end
end L2
namespace PySem
section
variable {prog:Program} {w:World} {K:Type} [DecidableEq K] {knd:HeapKind prog w K} {A:Around} {E:Value->Shared->Prop} {s:Shared}
end
section
variable {prog:Program} {w:World} {K:Type} [DecidableEq K] (knd:HeapKind prog w K) (d a:Addr)
end
end PySem
namespace L2
open PySem PySem.Spec PyProof.Rows
section
variable {X:Cx} {pins:List (Addr×Obj)} {σ:St} {H:Hp} {s:Shared} {a b:Addr} {u r:Value} {d:V} {A:Around} {E:Value->Shared->Prop}
end
end L2
namespace L2
open PySem PySem.Spec PyProof.Rows
section
variable {X:Cx} {o e f:Expr} {apos cpos:Pos} {td ty tx:TE}
end
section
variable {X:Cx} {EX:St->XK} {K:PySem.W.Frag} {B H B' H' H0 B0 B1 H1:Hp} {st:Stmt} {rest:List Stmt} {t u:TVS} {e f a:Expr} {te ta tk tf:TV} {tT:TVT} {tA:TVA} {es:List Expr} {pos pos' p p2 p3 apos cpos:Pos} {x y:Str} {τ:VSt} {σ:St} {r:R} {v:V}
end
end L2
namespace PySem
namespace SetTable
def stp5:Nat->Nat->Nat
|0,x=>x
|n+1,x=>stp5 n (x*5+1)
theorem qjo:∀(n m x:Nat),stp5 (n+m) x=stp5 m (stp5 n x)
|0,m,x=>by rw[Nat.zero_add];rfl
|n+1,m,x=>by
  rw[show n+1+m=(n+m)+1 by lia]
  show stp5 (n+m) (x*5+1)=stp5 m (stp5 n (x*5+1))
  exact qjo n m _
theorem qn5:∀k:Nat,∃c:Nat,∀x,stp5 (2 ^ k) x=x+2 ^ k*(2*c+1)*(4*x+1)
|0=>⟨0,λx=>by show x*5+1=_;simp;lia⟩
|k+1=>by
  obtain⟨c,h⟩:=qn5 k
  refine⟨c+2 ^ k*(2*c+1)*(2*c+1),λx=>?_⟩
  rw[show 2 ^ (k+1)=2 ^ k+2 ^ k by rw[Nat.pow_succ];lia,qjo,h x,h]
  generalize 2 ^ k=P
  generalize hS:P*(2*c+1)=S
  have e:(P+P)*(2*(c+S*(2*c+1))+1)=S*(2+4*S):=by
   rw[←hS]
   simp only[Nat.mul_add,Nat.add_mul,Nat.mul_one,Nat.one_mul,Nat.mul_assoc,Nat.mul_left_comm,Nat.mul_comm]
   lia
  rw[e]
  simp only[Nat.mul_add,Nat.add_mul,Nat.mul_one,Nat.one_mul,Nat.mul_assoc,Nat.mul_left_comm,Nat.mul_comm]
  lia
theorem qn4:∀(k x q:Nat),∃n,n<2 ^ k/\stp5 n x%2 ^ k=q%2 ^ k
|0,x,q=>⟨0,by decide,by rw[Nat.pow_zero,Nat.mod_one,Nat.mod_one]⟩
|k+1,x,q=>by
  obtain⟨n,hn,e⟩:=qn4 k x q
  obtain⟨c,hc⟩:=qn5 k
  have hp:0<2 ^ k:=Nat.pow_pos (by decide)
  have e2:2 ^ (k+1)=2 ^ k*2:=Nat.pow_succ ..
  generalize hy:stp5 n x=y at e
  by_cases z:y%(2 ^ k*2)=q%(2 ^ k*2)
  ·exact⟨n,by rw[e2];lia,by rw[e2,hy];exact z⟩
  ·refine⟨n+2 ^ k,by rw[e2];lia,?_⟩
   rw[e2,qjo,hy,hc y]
   have e3:y+2 ^ k*(2*c+1)*(4*y+1)=(y+2 ^ k)+2 ^ k*2*(c*(4*y+1)+2*y):=by
    simp only[Nat.mul_add,Nat.add_mul,Nat.mul_one,Nat.one_mul,Nat.mul_assoc,Nat.mul_left_comm,Nat.mul_comm]
    lia
   rw[e3,Nat.add_mul_mod_self_left]
   rw[Nat.mod_mul,Nat.mod_mul,e] at z
   rw[Nat.mod_mul,Nat.mod_mul,Nat.add_mod_right,Nat.add_div_right _ hp,e]
   have a:=Nat.mod_lt (y / 2 ^ k) (show 2>0 by decide)
   have b:=Nat.mod_lt (q / 2 ^ k) (show 2>0 by decide)
   have n1:y / 2 ^ k%2≠q / 2 ^ k%2:=λw=>z (by rw[w])
   have:(y / 2 ^ k+1)%2=q / 2 ^ k%2:=by lia
   rw[this]
def stM(m:Nat):Nat->Nat->Nat
|0,x=>x
|n+1,x=>stM m n ((x*5+1)%m)
theorem qvs(m:Nat):∀(n x:Nat),stM m n (x%m)=stp5 n x%m
|0,x=>rfl
|n+1,x=>by
  show stM m n ((x%m*5+1)%m)=stp5 n (x*5+1)%m
  rw[←qvs m n (x*5+1)]
  congr 1
  rw[Nat.add_mod,Nat.mul_mod,Nat.mod_mod,←Nat.mul_mod,←Nat.add_mod]
theorem qyf{k x q:Nat}(hx:x<2 ^ k)(hq:q<2 ^ k):∃n,n<2 ^ k/\stM (2 ^ k) n x=q:=by
 obtain⟨n,hn,e⟩:=qn4 k x q
 refine⟨n,hn,?_⟩
 have:=qvs (2 ^ k) n x
 rw[Nat.mod_eq_of_lt hx] at this
 rw[this,e,Nat.mod_eq_of_lt hq]
def qeg(mask:Nat):Nat->Nat×Nat->Nat×Nat
|0,p=>p
|n+1,p=>qeg mask n (leap mask p.1 p.2)
theorem qke(mask:Nat):∀(n m:Nat) (p:Nat×Nat),qeg mask (n+m) p=qeg mask m (qeg mask n p)
|0,m,p=>by rw[Nat.zero_add];rfl
|n+1,m,p=>by
  rw[show n+1+m=(n+m)+1 by lia]
  exact qke mask n m _
theorem qia(mask:Nat):∀(n:Nat) (p:Nat×Nat),(qeg mask n p).2=p.2 / 32 ^ n
|0,p=>by simp[qeg]
|n+1,p=>by
  show (qeg mask n (leap mask p.1 p.2)).2=_
  rw[qia mask n]
  show p.2 / 32 / 32 ^ n=_
  rw[Nat.div_div_eq_div_mul,Nat.pow_succ,Nat.mul_comm]
theorem qkf{mask:Nat}:∀(n:Nat) {p:Nat×Nat},p.1<=mask->(qeg mask n p).1<=mask
|0,p,h=>h
|n+1,p,h=>qkf n (Nat.le_of_lt_succ (Nat.mod_lt _ (Nat.succ_pos _)))
theorem qib(mask:Nat):∀(n i:Nat),qeg mask n (i,0)=(stM (mask+1) n i,0)
|0,i=>rfl
|n+1,i=>by
  show qeg mask n (leap mask i 0)=_
  have:leap mask i 0=((i*5+1)%(mask+1),0):=by unfold leap;rfl
  rw[this,qib mask n]
  rfl
theorem qlk(h:Int):bits h<2 ^ 64:=by
 unfold bits
 have h0:=Int.emod_nonneg h (show (2 ^ 64:Int)≠0 by decide)
 have h1:=Int.emod_lt_of_pos h (show (0:Int)<2 ^ 64 by decide)
 have e:((2 ^ 64:Nat):Int)=2 ^ 64:=by decide
 lia
theorem qhe{mask k i per q:Nat}(hm:mask+1=2 ^ k)(hi:i<=mask)(hp:per<2 ^ 64)(hq:q<=mask):∃n,n<mask+14/\(qeg mask n (i,per)).1=q:=by
 have h13:(qeg mask 13 (i,per)).2=0:=by
  rw[qia]
  exact Nat.div_eq_of_lt (Nat.lt_of_lt_of_le hp (by decide))
 have l13:(qeg mask 13 (i,per)).1<=mask:=qkf 13 hi
 obtain⟨n,hn,e⟩:=qyf (k:=k) (x:=(qeg mask 13 (i,per)).1) (q:=q) (by lia) (by lia)
 refine⟨13+n,by lia,?_⟩
 rw[qke,show qeg mask 13 (i,per)=((qeg mask 13 (i,per)).1,0) from Prod.ext rfl h13,qib,hm]
 exact e
end SetTable
end PySem
namespace PySem
namespace SetTable
theorem sub_len{α:Type}[DecidableEq α]:∀ {l l':List α},l.Nodup->(∀x∈l,x∈l')->l.length<=l'.length
|[],_,_,_=>Nat.zero_le _
|a::l,l',nd,h=>by
  have n:=List.nodup_cons.mp nd
  have ha:=h a List.mem_cons_self
  have:=sub_len (l:=l) (l':=l'.erase a) n.2 λx m=>(List.mem_erase_of_ne (λe=>n.1 (by rw[←e];exact m))).mpr (h x (List.mem_cons_of_mem _ m))
  rw[List.length_erase_of_mem ha] at this
  have:=List.length_pos_of_mem ha
  rw[List.length_cons]
  lia
def Inc(xs:Array Nat):Prop:=∀i j (hi:i<xs.size) (hj:j<xs.size),i<j->xs[i]<xs[j]
theorem Inc.inj{xs:Array Nat}(h:Inc xs){i j:Nat}(hi:i<xs.size)(hj:j<xs.size)(e:xs[i]=xs[j]):i=j:=by
 rcases Nat.lt_trichotomy i j with l|l|l
 ·have:=h i j hi hj l;lia
 ·exact l
 ·have:=h j i hj hi l;lia
theorem qiw{xs:Array Nat}(h:Inc xs)(j:Nat):∀(fuel lo hi:Nat),hi-lo<=fuel->lo<=hi->hi<=xs.size->(∀i (l:i<xs.size),i<lo->xs[i]<j)->(∀i (l:i<xs.size),hi<=i->j<=xs[i]) ->
  below.go xs j fuel lo hi<=xs.size/\(∀i (l:i<xs.size),i<below.go xs j fuel lo hi->xs[i]<j)/\(∀i (l:i<xs.size),below.go xs j fuel lo hi<=i->j<=xs[i])
|0,lo,hi,h1,h2,h3,h4,h5=>by
  have:lo=hi:=by lia
  subst this
  exact⟨h3,h4,h5⟩
|fuel+1,lo,hi,h1,h2,h3,h4,h5=>by
  unfold below.go
  by_cases l:lo<hi
  ·rw[if_pos l]
   have ml:(lo+hi) / 2<xs.size:=by lia
   have eg:xs.getD ((lo+hi) / 2) j=xs[(lo+hi) / 2]:=by simp[ml]
   simp only[eg]
   by_cases c:xs[(lo+hi) / 2]<j
   ·rw[if_pos c]
    refine qiw h j fuel _ hi (by lia) (by lia) h3 (λi li hl=>?_) h5
    rcases Nat.lt_or_ge i ((lo+hi) / 2) with z|z
    ·have:=h i _ li ml z;lia
    ·have:i=(lo+hi) / 2:=by lia
     subst this
     exact c
   ·rw[if_neg c]
    refine qiw h j fuel lo _ (by lia) (by lia) (by lia) h4 (λi li hl=>?_)
    rcases Nat.lt_or_ge ((lo+hi) / 2) i with z|z
    ·have:=h _ i ml li z;lia
    ·have:i=(lo+hi) / 2:=by lia
     subst this
     lia
  ·rw[if_neg l]
   have:lo=hi:=by lia
   subst this
   exact⟨h3,h4,h5⟩
theorem qh3{xs:Array Nat}(h:Inc xs)(j:Nat):below xs j<=xs.size/\(∀i (l:i<xs.size),i<below xs j->xs[i]<j)/\(∀i (l:i<xs.size),below xs j<=i->j<=xs[i]) :=
 qiw h j xs.size 0 xs.size (by lia) (Nat.zero_le _) (Nat.le_refl _) (λi _ z=>absurd z (Nat.not_lt_zero _)) (λi l z=>absurd l (by lia))
structure TOk(t:SetTable)(n:Nat):Prop where
 mk2:∃k,t.mask+1=2 ^ k
 big:7<=t.mask
 few:t.mask<=8191
 sz:t.place.size=n
 so:Inc t.place
 lo:∀j∈t.place.toList,j<=t.mask
 nd:t.dummies=#[]
 fl:n<=t.mask
section
variable {t:SetTable} {n:Nat}
theorem TOk.slot(T:TOk t n)(j:Nat):(j∉t.place.toList/\t.slot j=.empty)\/∃i,t.place[i]?=some j/\i<n/\t.slot j=.live i:=by
 obtain⟨b1,b2,b3⟩:=qh3 T.so j
 have dm:has t.dummies j=false:=by rw[T.nd];rfl
 unfold SetTable.slot
 simp only[dm]
 by_cases m:j∈t.place.toList
 ·obtain⟨i,hi,e⟩:=List.mem_iff_getElem.mp m
  have hi':i<t.place.size:=by simpa using hi
  have e':t.place[i]=j:=by simpa using e
  have eb:below t.place j=i:=by
   rcases Nat.lt_trichotomy (below t.place j) i with l|l|l
   ·have h1:=b3 (below t.place j) (by lia) (Nat.le_refl _)
    have h2:=T.so _ i (by lia) hi' l
    lia
   ·exact l
   ·have:=b2 i hi' l
    lia
  right
  refine⟨i,by rw[Array.getElem?_eq_getElem hi',e'],by rw[←T.sz];exact hi',?_⟩
  rw[eb,Array.getElem?_eq_getElem hi',e']
  simp
 ·left
  refine⟨m,?_⟩
  have:¬ (t.place[below t.place j]?==some j)=true:=λz=>by
   have z:t.place[below t.place j]?=some j:=by simpa using z
   obtain⟨hl,e⟩:=Array.getElem?_eq_some_iff.mp z
   exact m (by rw[←e];simp)
  rw[if_neg this,if_neg (by decide)]
theorem TOk.room(T:TOk t n):∃q,q<=t.mask/\t.slot q=.empty:=by
 apply Classical.byContradiction
 intro no
 have all:∀q∈List.range (t.mask+1),q∈t.place.toList:=λq m=>by
  have:=List.mem_range.mp m
  rcases T.slot q with ⟨_,e⟩|⟨i,e,_⟩
  ·exact absurd ⟨q,by lia,e⟩ no
  ·obtain⟨hl,e⟩:=Array.getElem?_eq_some_iff.mp e
   rw[←e];simp
 have:=sub_len List.nodup_range all
 rw[List.length_range] at this
 have e:t.place.toList.length=n:=by simpa using T.sz
 have:=T.fl
 lia
def advs(t:SetTable):Nat->Probe->Probe
|0,p=>p
|n+1,p=>advs t n (t.advance p)
theorem qed(t:SetTable):∀(n m:Nat) (p:Probe),advs t (n+m) p=advs t m (advs t n p)
|0,m,p=>by rw[Nat.zero_add];rfl
|n+1,m,p=>by
  rw[show n+1+m=(n+m)+1 by lia]
  exact qed t n m _
def qdt(mask:Nat)(x:Nat×Nat):Probe:={ j:=x.1,more:=runEnd mask x.1-x.1,i:=x.1,perturb:=x.2,dummy:=none }
theorem qiu(t:SetTable):∀(k:Nat) (p:Probe),p.more=k->advs t k p={ p with j:=p.j+k,more:=0 }
|0,p,h=>by
  show p=_
  cases p
  simp only at h
  subst h
  rfl
|k+1,p,h=>by
  show advs t k (t.advance p)=_
  have e:t.advance p={ p with j:=p.j+1,more:=p.more-1 }:=by
   unfold advance
   rw[if_pos (by lia)]
  rw[e,qiu t k _ (by show p.more-1=k;lia)]
  show ({ p with j:=p.j+1+k,more:=0 }:Probe)={ p with j:=p.j+(k+1),more:=0 }
  rw[show p.j+1+k=p.j+(k+1) by lia]
theorem qpv(t:SetTable)(x:Nat×Nat):∃n,n<=10/\advs t n (qdt t.mask x)=qdt t.mask (leap t.mask x.1 x.2):=by
 refine⟨(runEnd t.mask x.1-x.1)+1,?_,?_⟩
 ·unfold runEnd
  split<;>lia
 ·rw[qed,qiu t (runEnd t.mask x.1-x.1) (qdt t.mask x) rfl]
  simp only[advs]
  unfold advance
  rw[if_neg (by show ¬ (0>0);decide)]
  rfl
theorem qh0(t:SetTable):∀(m:Nat) (x:Nat×Nat),∃n,n<=10*m/\advs t n (qdt t.mask x)=qdt t.mask (qeg t.mask m x)
|0,x=>⟨0,Nat.le_refl _,rfl⟩
|m+1,x=>by
  obtain⟨a,ha,ea⟩:=qpv t x
  obtain⟨b,hb,eb⟩:=qh0 t m (leap t.mask x.1 x.2)
  exact⟨a+b,by lia,by rw[qed,ea,eb];rfl⟩
def Far(t:SetTable)(n:Nat)(p:Probe):Prop:=p.dummy=none/\p.j+p.more<=t.mask/\t.slot (advs t n p).j=.empty
theorem qex{mask i:Nat}(h:i<=mask):runEnd mask i<=mask/\i<=runEnd mask i:=by
 unfold runEnd
 split<;>lia
theorem TOk.far(T:TOk t n)(h:Int):∃k,k<10*turns t.mask/\Far t k (t.probeStart h):=by
 obtain⟨q,hq,eq⟩:=T.room
 obtain⟨k,hk⟩:=T.mk2
 have hi:bits h%(t.mask+1)<=t.mask:=Nat.le_of_lt_succ (Nat.mod_lt _ (Nat.succ_pos _))
 obtain⟨m,hm,em⟩:=qhe hk hi (qlk h) hq
 obtain⟨a,ha,ea⟩:=qh0 t m (bits h%(t.mask+1),bits h)
 have e0:t.probeStart h=qdt t.mask (bits h%(t.mask+1),bits h):=rfl
 refine⟨a,?_,rfl,?_,?_⟩
 ·show a<10*(t.mask+15)
  lia
 ·rw[e0]
  have:=qex hi
  show bits h%(t.mask+1)+(runEnd t.mask (bits h%(t.mask+1))-bits h%(t.mask+1))<=t.mask
  lia
 ·rw[e0,ea]
  show t.slot (qeg t.mask m (bits h%(t.mask+1),bits h)).1=.empty
  rw[em]
  exact eq
theorem qpt(t:SetTable){p:Probe}(h:p.j+p.more<=t.mask):(t.advance p).j+(t.advance p).more<=t.mask/\(t.advance p).dummy=p.dummy:=by
 unfold advance
 split
 ·exact⟨by show p.j+1+(p.more-1)<=t.mask;lia,rfl⟩
 ·have hi:(leap t.mask p.i p.perturb).1<=t.mask:=Nat.le_of_lt_succ (Nat.mod_lt _ (Nat.succ_pos _))
  have:=qex hi
  refine⟨?_,rfl⟩
  show (leap t.mask p.i p.perturb).1+(runEnd t.mask (leap t.mask p.i p.perturb).1-(leap t.mask p.i p.perturb).1)<=t.mask
  lia
theorem TOk.met(T:TOk t n){hashAt:Nat->Int}{h:Int}:∀(fuel k:Nat) (p:Probe),k<fuel->Far t k p ->
  (∃j,probe.go t hashAt h fuel p=some (.empty j none)/\j<=t.mask/\j∉t.place.toList) \/
  ∃j i next k',probe.go t hashAt h fuel p=some (.candidate j i next)/\t.slot j=.live i/\i<n/\hashAt i=h/\k'<k/\Far t k' next
|0,k,p,hk,_=>by lia
|fuel+1,k,p,hk,⟨d,low,far⟩=>by
  unfold probe.go
  rcases T.slot p.j with ⟨m,e⟩|⟨i,e1,hi,e2⟩
  ·rw[e,d]
   exact .inl ⟨p.j,rfl,by lia,m⟩
  ·rw[e2]
   cases k with
  |zero =>
    have far:t.slot p.j=.empty:=far
    rw[e2] at far
    cases far
  |succ k =>
    obtain⟨l1,l2⟩:=qpt t low
    have far':Far t k (t.advance p):=⟨by rw[l2,d],l1,far⟩
    simp only
    by_cases c:(hashAt i==h)=true
    ·rw[if_pos c]
     exact .inr ⟨p.j,i,t.advance p,k,rfl,e2,hi,by simpa using c,by lia,far'⟩
    ·rw[if_neg c]
     rcases T.met fuel k _ (by lia) far' with z|⟨j,i',nx,k',z1,z2,z3,z4,z5,z6⟩
     ·exact .inl z
     ·exact .inr ⟨j,i',nx,k',z1,z2,z3,z4,by lia,z6⟩
end
end SetTable
end PySem
namespace PySem
namespace SetTable
theorem inc_iff{xs:Array Nat}:Inc xs↔xs.toList.Pairwise (·<·):=by
 rw[List.pairwise_iff_getElem]
 constructor
 ·intro h i j hi hj l
  have:=h i j (by simpa using hi) (by simpa using hj) l
  simpa using this
 ·intro h i j hi hj l
  have:=h i j (by simpa using hi) (by simpa using hj) l
  simpa using this
theorem TOk.put{t:SetTable}{n j:Nat}(T:TOk t n)(hj:j<=t.mask)(nw:j∉t.place.toList)(hl:n+1<=t.mask):TOk (t.put j).1 (n+1)/\(t.put j).2<=n/\(t.put j).1.mask=t.mask:=by
 obtain⟨b1,b2,b3⟩:=qh3 T.so j
 have dm:has t.dummies j=false:=by rw[T.nd];rfl
 have ep:(t.put j).1.place=insertAt t.place (below t.place j) j:=rfl
 have ed:(t.put j).1.dummies=t.dummies:=by
  show (if has t.dummies j=true then _ else _)=_
  rw[dm]
  rfl
 have el:=toList_insertAt t.place (below t.place j) j
 have pm:=insertAt_perm t.place (below t.place j) j
 have sz:=pm.length_eq
 rw[Array.toList_push,List.length_append] at sz
 simp only[Array.length_toList,List.length_singleton] at sz
 refine⟨⟨T.mk2,T.big,T.few,by rw[ep,sz,T.sz],?_,λx m=>?_,by rw[ed];exact T.nd,hl⟩,by show below t.place j<=n;rw[←T.sz];exact b1,rfl⟩
 ·rw[ep,inc_iff,el]
  have P:=inc_iff.mp T.so
  rw[←List.take_append_drop (below t.place j) t.place.toList] at P
  have P:=List.pairwise_append.mp P
  have lo:∀a∈t.place.toList.take (below t.place j),a<j:=λa ma=>by
   obtain⟨i,hi,e⟩:=List.mem_iff_getElem.mp ma
   rw[List.length_take] at hi
   rw[List.getElem_take] at e
   have hi2:i<t.place.size:=by have:=hi;simp only[Array.length_toList] at this;lia
   have:=b2 i hi2 (by lia)
   rw[←e]
   simpa using this
  have hi:∀a∈t.place.toList.drop (below t.place j),j<a:=λa ma=>by
   obtain⟨i,hi,e⟩:=List.mem_iff_getElem.mp ma
   rw[List.length_drop] at hi
   rw[List.getElem_drop] at e
   have hi2:below t.place j+i<t.place.size:=by have:=hi;simp only[Array.length_toList] at this;lia
   have:=b3 _ hi2 (by lia)
   have h2:j<=a:=by rw[←e];simpa using this
   have h3:j≠a:=λz=>nw (by rw[z];exact List.mem_of_mem_drop ma)
   lia
  refine List.pairwise_append.mpr ⟨P.1,List.pairwise_cons.mpr ⟨hi,P.2.1⟩,λa ma b mb=>?_⟩
  rcases List.mem_cons.mp mb with e|m
  ·rw[e];exact lo a ma
  ·exact P.2.2 a ma b m
 ·rw[ep] at m
  have:=pm.mem_iff.mp m
  rw[Array.toList_push] at this
  rcases List.mem_append.mp this with m|m
  ·exact T.lo x m
  ·rw[List.mem_singleton.mp m];exact hj
def occ(mask:Nat)(owner:Array (Option Nat)):List Nat:=(List.range (mask+1)).filterMap λj=>owner.getD j none
structure OwnOk(mask:Nat)(owner:Array (Option Nat))(k:Nat):Prop where
 sz:owner.size=mask+1
 pm:(occ mask owner).Perm (List.range k)
theorem qdu{α β:Type}{f g:α->Option β}:∀ {l:List α},(∀x∈l,f x=g x)->l.filterMap f=l.filterMap g
|[],_=>rfl
|a::l,h=>by rw[List.filterMap_cons,List.filterMap_cons,h a List.mem_cons_self,qdu λx m=>h x (List.mem_cons_of_mem _ m)]
theorem qu8{α β:Type}(f:α->Option β):∀ {l:List α},(∀x∈l,(f x).isSome=true)->(l.filterMap f).length=l.length
|[],_=>rfl
|a::l,h=>by
  have ha:=h a List.mem_cons_self
  obtain⟨b,hb⟩:=Option.isSome_iff_exists.mp ha
  rw[List.filterMap_cons,hb]
  simp only[List.length_cons]
  rw[qu8 f λx m=>h x (List.mem_cons_of_mem _ m)]
theorem OwnOk.gap{mask:Nat}{owner:Array (Option Nat)}{k:Nat}(h:OwnOk mask owner k)(hk:k<=mask):∃q,q<=mask/\owner.getD q (some 0)=none:=by
 apply Classical.byContradiction
 intro no
 have all:∀q∈List.range (mask+1),(owner.getD q none).isSome=true:=λq m=>by
  have hq:=List.mem_range.mp m
  have e1:owner.getD q (some 0)=owner[q]'(by rw[h.sz];exact hq):=by simp[h.sz,hq]
  have e2:owner.getD q none=owner[q]'(by rw[h.sz];exact hq):=by simp[h.sz,hq]
  rw[e2]
  cases e:owner[q]'(by rw[h.sz];exact hq) with
 |some x=>rfl
 |none=>exact absurd ⟨q,by lia,e1.trans e⟩ no
 have:=qu8 _ all
 have l:=h.pm.length_eq
 unfold occ at l
 rw[this,List.length_range,List.length_range] at l
 lia
theorem ql1{mask:Nat}{owner:Array (Option Nat)}{q:Nat}(hq:owner.getD q (some 0)=none):∀(fuel m i per:Nat),i<=mask->(qeg mask m (i,per)).1=q->m<fuel->∃j,layClean.free mask owner fuel i per=some j/\j<=mask/\owner.getD j (some 0)=none
|0,m,i,per,_,_,h=>by lia
|fuel+1,m,i,per,hi,e,hm=>by
  have re:=qex hi
  unfold layClean.free
  cases hf:(List.range (runEnd mask i+1-i)).find? λk=>(owner.getD (i+k) (some 0)).isNone with
 |some k =>
   have h1:=List.find?_some hf
   have h2:=List.mem_range.mp (List.mem_of_find?_eq_some hf)
   exact⟨i+k,rfl,by lia,by simpa using h1⟩
 |none =>
   have h0:=List.find?_eq_none.mp hf 0 (List.mem_range.mpr (by lia))
   cases m with
  |zero =>
    have e:i=q:=e
    rw[Nat.add_zero,e,hq] at h0
    exact absurd rfl h0
  |succ m =>
    exact ql1 hq fuel m _ _ (Nat.le_of_lt_succ (Nat.mod_lt _ (Nat.succ_pos _))) e (by lia)
theorem OwnOk.put{mask:Nat}{owner:Array (Option Nat)}{k j:Nat}(h:OwnOk mask owner k)(hj:j<=mask)(e:owner.getD j (some 0)=none):OwnOk mask (owner.setIfInBounds j (some k)) (k+1):=by
 have js:j<owner.size:=by rw[h.sz];lia
 have e2:owner.getD j none=none:=by simpa [js] using e
 have mj:j∈List.range (mask+1):=List.mem_range.mpr (by lia)
 refine⟨by rw[Array.size_setIfInBounds];exact h.sz,?_⟩
 have p:=List.perm_cons_erase mj
 have same:∀x∈(List.range (mask+1)).erase j,(owner.setIfInBounds j (some k)).getD x none=owner.getD x none:=λx m=>by
  have ne:x≠j:=λz=>by
   rw[z] at m
   exact absurd m (List.Nodup.not_mem_erase List.nodup_range)
  have xs:x<owner.size:=by
   have:=List.mem_range.mp (List.mem_of_mem_erase m)
   rw[h.sz];exact this
  simp[Array.getElem_setIfInBounds,xs,Ne.symm ne]
 have o1:(occ mask owner).Perm (((List.range (mask+1)).erase j).filterMap λx=>owner.getD x none):=by
  have:=p.filterMap λx=>owner.getD x none
  rw[List.filterMap_cons,e2] at this
  exact this
 have o2:(occ mask (owner.setIfInBounds j (some k))).Perm (k::((List.range (mask+1)).erase j).filterMap λx=>owner.getD x none):=by
  have:=p.filterMap λx=>(owner.setIfInBounds j (some k)).getD x none
  rw[List.filterMap_cons,show (owner.setIfInBounds j (some k)).getD j none=some k by simp[js]] at this
  rw[qdu same] at this
  exact this
 refine o2.trans ((List.Perm.cons k (o1.symm.trans h.pm)).trans ?_)
 rw[List.range_succ]
 exact(List.perm_append_singleton k (List.range k)).symm
theorem qvd{mask m:Nat}(hm:mask+1=2 ^ m):∀(hs:List Int) (owner:Array (Option Nat)) (k:Nat),OwnOk mask owner k->k+hs.length<=mask+1 ->
  ∃o',hs.foldl (λ(acc:Option (Array (Option Nat)×Nat)) h=>do
   let (owner,k) ←acc
   let j ←layClean.free mask owner (turns mask) (bits h%(mask+1)) (bits h)
   pure (owner.setIfInBounds j (some k),k+1)) (some (owner,k))=some (o',k+hs.length)/\OwnOk mask o' (k+hs.length)
|[],owner,k,h,_=>⟨owner,rfl,h⟩
|x::hs,owner,k,h,hl=>by
  rw[List.length_cons] at hl
  obtain⟨q,hq,eq⟩:=h.gap (by lia)
  have hi:bits x%(mask+1)<=mask:=Nat.le_of_lt_succ (Nat.mod_lt _ (Nat.succ_pos _))
  obtain⟨n,hn,en⟩:=qhe hm hi (qlk x) hq
  obtain⟨j,f1,f2,f3⟩:=ql1 (mask:=mask) eq (turns mask) n _ _ hi en (by show n<mask+15;lia)
  obtain⟨o',g1,g2⟩:=qvd hm hs (owner.setIfInBounds j (some k)) (k+1) (h.put f2 f3) (by lia)
  refine⟨o',?_,by rw[List.length_cons,show k+(hs.length+1)=k+1+hs.length by lia];exact g2⟩
  rw[List.foldl_cons,List.length_cons,show k+(hs.length+1)=k+1+hs.length by lia,←g1]
  congr 1
  show (layClean.free mask owner (turns mask) (bits x%(mask+1)) (bits x)).bind _=_
  rw[f1]
  rfl
theorem qi5{mask m:Nat}(hm:mask+1=2 ^ m)(big:7<=mask)(few:mask<=8191)(finger moves:Nat)(led plain:Bool)(hashes:Array Int)(hl:hashes.size<=mask) :
  ∃t order,laid mask finger moves led plain hashes=some (t,order)/\TOk t hashes.size/\t.mask=mask/\t.led=led/\t.plain=plain/\order.toList.Perm (List.range hashes.size):=by
 have start:OwnOk mask (Array.replicate (mask+1) none) 0:=by
  refine⟨Array.size_replicate,?_⟩
  unfold occ
  rw[List.filterMap_eq_nil_iff.mpr λj m=>?_]
  ·exact List.Perm.refl _
  ·have:=List.mem_range.mp m
   simp[this]
 obtain⟨o',f1,O⟩:=qvd hm hashes.toList _ 0 start (by simp only[Array.length_toList];lia)
 rw[Nat.zero_add,Array.length_toList] at f1 O
 have lc:layClean mask hashes=some o':=by
  unfold layClean
  rw[←Array.foldl_toList,f1]
  rfl
 have e1:((List.range (mask+1)).filterMap λj=>(o'.getD j none).map (j,·)).map (·.1)=(List.range (mask+1)).filter λj=>(o'.getD j none).isSome:=by
  rw[List.map_filterMap,←List.filterMap_eq_filter]
  refine qdu λj _=>?_
  cases e:o'.getD j none<;>simp[Option.guard,e]
 have e2:((List.range (mask+1)).filterMap λj=>(o'.getD j none).map (j,·)).map (·.2)=occ mask o':=by
  unfold occ
  rw[List.map_filterMap]
  refine qdu λj _=>?_
  cases o'.getD j none<;>rfl
 have len:((List.range (mask+1)).filterMap λj=>(o'.getD j none).map (j,·)).length=hashes.size:=by
  have:=O.pm.length_eq
  rw[←e2,List.length_map,List.length_range] at this
  exact this
 refine⟨_,_,by unfold laid;rw[lc];rfl,⟨⟨m,hm⟩,big,few,?_,?_,?_,rfl,hl⟩,rfl,rfl,rfl,?_⟩
 ·simp only[List.size_toArray,List.length_map]
  exact len
 ·rw[inc_iff]
  show List.Pairwise _ (List.map _ _)
  rw[e1]
  exact List.pairwise_lt_range.sublist List.filter_sublist
 ·intro j mj
  have mj:j∈List.map (·.1) ((List.range (mask+1)).filterMap λj=>(o'.getD j none).map (j,·)):=mj
  rw[e1] at mj
  have:=List.mem_range.mp (List.mem_filter.mp mj).1
  show j<=mask
  lia
 ·show (List.map _ _).Perm _
  rw[e2]
  exact O.pm
theorem qm7(n:Nat):∀(fuel k:Nat),n<8*2 ^ (k+fuel)->∃m,sizeAbove.go n fuel (8*2 ^ k)=8*2 ^ m/\n<8*2 ^ m/\(8*2 ^ m<=8*2 ^ k\/8*2 ^ m<=2*n)
|0,k,h=>⟨k,rfl,h,.inl (Nat.le_refl _)⟩
|fuel+1,k,h=>by
  unfold sizeAbove.go
  by_cases c:8*2 ^ k<=n
  ·rw[if_pos c]
   have e:8*2 ^ k*2=8*2 ^ (k+1):=by rw[Nat.pow_succ];lia
   rw[e]
   obtain⟨m,h1,h2,h3⟩:=qm7 n fuel (k+1) (by rw[show k+1+fuel=k+(fuel+1) by lia];exact h)
   refine⟨m,h1,h2,?_⟩
   rcases h3 with z|z
   ·exact .inr (by lia)
   ·exact .inr z
  ·rw[if_neg c]
   exact⟨k,rfl,by lia,.inl (Nat.le_refl _)⟩
theorem qsv{n:Nat}(h:n<=4095):∃m,sizeAbove n=2 ^ m/\n<sizeAbove n/\8<=sizeAbove n/\sizeAbove n<=8192:=by
 have h8:n<8*2 ^ (0+64):=Nat.lt_of_le_of_lt h (by decide)
 obtain⟨m,h1,h2,h3⟩:=qm7 n 64 0 h8
 have e:sizeAbove n=8*2 ^ m:=h1
 have p:0<2 ^ m:=Nat.pow_pos (by decide)
 refine⟨m+3,by rw[e,Nat.pow_add];lia,by rw[e];exact h2,by rw[e];lia,?_⟩
 rw[e]
 rcases h3 with z|z
 ·simp at z ⊢;lia
 ·lia
theorem qif{α:Type}{es:Array α}{order:Array Nat}(h:order.toList.Perm (List.range es.size)):(order.filterMap (es[·]?)).toList.Perm es.toList:=by
 rw[Array.toList_filterMap]
 have:=h.filterMap λi=>es[i]?
 rw[filterMap_getElem?_range es] at this
 exact this
end SetTable
end PySem
namespace PySem
namespace SetTable
section
variable {t:SetTable} {n:Nat}
theorem qfo(t:SetTable)(n:Nat)(p:Probe):advs t (n+1) p=t.advance (advs t n p):=by rw[qed];rfl
theorem qit(t:SetTable){p:Probe}(h:p.j+p.more<=t.mask):∀n,(advs t n p).j+(advs t n p).more<=t.mask/\(advs t n p).dummy=p.dummy
|0=>⟨h,rfl⟩
|n+1=>by
  obtain⟨a,b⟩:=qit t h n
  obtain⟨c,d⟩:=qpt t a
  rw[qfo]
  exact⟨c,d.trans b⟩
theorem qsw{t t':SetTable}(h:t.mask=t'.mask)(p:Probe):t.advance p=t'.advance p:=by
 unfold advance
 rw[h]
theorem qjw{t t':SetTable}(h:t.mask=t'.mask):∀(n:Nat) (p:Probe),advs t n p=advs t' n p
|0,p=>rfl
|n+1,p=>by
  show advs t n (t.advance p)=advs t' n (t'.advance p)
  rw[qsw h,qjw h n]
theorem qo6{t t':SetTable}(h:t.mask=t'.mask)(x:Int):t.probeStart x=t'.probeStart x:=by
 unfold probeStart
 rw[h]
theorem qk1(t:SetTable)(h:Int):(t.probeStart h).j+(t.probeStart h).more<=t.mask/\(t.probeStart h).dummy=none:=by
 have hi:bits h%(t.mask+1)<=t.mask:=Nat.le_of_lt_succ (Nat.mod_lt _ (Nat.succ_pos _))
 have:=qex hi
 refine⟨?_,rfl⟩
 show bits h%(t.mask+1)+(runEnd t.mask (bits h%(t.mask+1))-bits h%(t.mask+1))<=t.mask
 lia
def at_(t:SetTable)(h:Int)(n:Nat):Nat:=(advs t n (t.probeStart h)).j
theorem qet{t t':SetTable}(e:t.mask=t'.mask)(h:Int)(n:Nat):at_ t h n=at_ t' h n:=by
 unfold at_
 rw[qo6 e,qjw e]
def Reach(t:SetTable)(h:Int)(j:Nat):Prop:=∃n,at_ t h n=j/\∀m,m<n->at_ t h m∈t.place.toList
theorem TOk.met2(T:TOk t n){hashAt:Nat->Int}{h:Int}:∀(fuel c e:Nat),c<=e->e-c<fuel->t.slot (at_ t h e)=.empty ->
    ∃N,c<=N/\N<=e/\(∀m,c<=m->m<N->∃i,t.slot (at_ t h m)=.live i/\hashAt i≠h) /\
      ((probe.go t hashAt h fuel (advs t c (t.probeStart h))=some (.empty (at_ t h N) none)/\at_ t h N<=t.mask/\at_ t h N∉t.place.toList) \/
       ∃i,probe.go t hashAt h fuel (advs t c (t.probeStart h))=some (.candidate (at_ t h N) i (advs t (N+1) (t.probeStart h)))/\t.slot (at_ t h N)=.live i/\i<n/\hashAt i=h/\N<e)
 |0,c,e,h1,h2,h3=>by lia
 |fuel+1,c,e,h1,h2,h3=>by
    obtain⟨s1,s2⟩:=qk1 t h
    obtain⟨l1,l2⟩:=qit t s1 c
    unfold probe.go
    rcases T.slot (at_ t h c) with ⟨m,e1⟩|⟨i,e1,hi,e2⟩
    · refine⟨c,Nat.le_refl _,h1,λm a b=>by lia,.inl ⟨?_,?_,m⟩⟩
      · have e1:t.slot (advs t c (t.probeStart h)).j=.empty:=e1
        rw[e1,l2,s2]
        rfl
      · show (advs t c (t.probeStart h)).j<=t.mask
        lia
    · have ne:c≠e:=λz=>by
        rw[←z,e2] at h3
        cases h3
      have e3:t.slot (advs t c (t.probeStart h)).j=.live i:=e2
      rw[e3]
      simp only
      by_cases q:(hashAt i==h)=true
      · rw[if_pos q]
        exact⟨c,Nat.le_refl _,h1,λm a b=>by lia,.inr ⟨i,by rw[qfo];rfl,e2,hi,by simpa using q,by lia⟩⟩
      · rw[if_neg q,←qfo]
        obtain⟨N,a1,a2,a3,a4⟩:=T.met2 fuel (c+1) e (by lia) (by lia) h3
        refine⟨N,by lia,a2,λm b1 b2=>?_,a4⟩
        rcases Nat.lt_or_ge c m with z|z
        · exact a3 m z b2
        · have:m=c:=by lia
          subst this
          exact⟨i,e2,by simpa using q⟩
theorem TOk.stop(T:TOk t n)(h:Int):∃e,e<10*turns t.mask/\t.slot (at_ t h e)=.empty:=by
 obtain⟨k,hk,_,_,f⟩:=T.far h
 exact⟨k,hk,f⟩
structure TOkH(t:SetTable)(hs:List Int):Prop where
 ok:TOk t hs.length
 rc:∀i (hi:i<hs.length),∃j,t.place[i]?=some j/\Reach t hs[i] j
theorem TOk.live{i j:Nat}(T:TOk t n)(e:t.place[i]?=some j):t.slot j=.live i:=by
 obtain⟨li,ei⟩:=Array.getElem?_eq_some_iff.mp e
 rcases T.slot j with ⟨m,_⟩|⟨i',e1,_,e2⟩
 ·exact absurd (by rw[←ei];simp) m
 ·obtain⟨li',ei'⟩:=Array.getElem?_eq_some_iff.mp e1
  rw[e2,T.so.inj li' li (ei'.trans ei.symm)]
theorem TOkH.seen{hs:List Int}(T:TOkH t hs){h:Int}{N:Nat}(e:at_ t h N∉t.place.toList){i:Nat}(hi:i<hs.length)(hh:hs[i]=h):∃m,m<N/\t.slot (at_ t h m)=.live i:=by
 obtain⟨j,e1,k,e2,e3⟩:=T.rc i hi
 rw[hh] at e2 e3
 refine⟨k,?_,by rw[e2];exact T.ok.live e1⟩
 rcases Nat.lt_trichotomy k N with l|l|l
 ·exact l
 ·exfalso
  rw[←l,e2] at e
  obtain⟨li,ei⟩:=Array.getElem?_eq_some_iff.mp e1
  exact e (by rw[←ei];simp)
 ·exact absurd (e3 N l) e
theorem TOkH.put{hs:List Int}(T:TOkH t hs){h:Int}{N:Nat}(lo:at_ t h N<=t.mask)(e:at_ t h N∉t.place.toList)(pa:∀m,m<N->at_ t h m∈t.place.toList)(hl:hs.length+1<=t.mask) :
  TOkH (t.put (at_ t h N)).1 (hs.take (t.put (at_ t h N)).2++h::hs.drop (t.put (at_ t h N)).2)/\(t.put (at_ t h N)).2<=hs.length/\(t.put (at_ t h N)).1.mask=t.mask:=by
 obtain⟨k1,k2,k3⟩:=T.ok.put lo e hl
 generalize hj:at_ t h N=j at *
 have ep:(t.put j).1.place=insertAt t.place (t.put j).2 j:=rfl
 have el:=toList_insertAt t.place (t.put j).2 j
 have sz:(hs.take (t.put j).2++h::hs.drop (t.put j).2).length=hs.length+1:=by
  rw[List.length_append,List.length_cons,List.length_take,List.length_drop]
  lia
 have pl:t.place.toList.length=hs.length:=by have:=T.ok.sz;simpa using this
 have sub:∀x,x∈t.place.toList->x∈(t.put j).1.place.toList:=λx m=>by
  rw[ep,el]
  have m2:=m
  rw[←List.take_append_drop (t.put j).2 t.place.toList] at m2
  rcases List.mem_append.mp m2 with z|z
  ·exact List.mem_append_left _ z
  ·exact List.mem_append_right _ (List.mem_cons_of_mem _ z)
 have up:∀ {x:Int} {y:Nat},Reach t x y->Reach (t.put j).1 x y:=λ⟨n,a,b⟩=>⟨n,by rw[qet k3];exact a,λm l=>by rw[qet k3];exact sub _ (b m l)⟩
 refine⟨⟨by rw[sz];exact k1,λi hi=>?_⟩,k2,k3⟩
 have ea:(t.put j).1.place[i]?=(t.place.toList.take (t.put j).2++j::t.place.toList.drop (t.put j).2)[i]?:=by
  rw[←el,←ep,Array.getElem?_toList]
 rw[ea]
 have tl:(t.place.toList.take (t.put j).2).length=(t.put j).2:=by rw[List.length_take];lia
 have th:(hs.take (t.put j).2).length=(t.put j).2:=by rw[List.length_take];lia
 rcases Nat.lt_trichotomy i (t.put j).2 with l|l|l
 ·obtain⟨y,y1,y2⟩:=T.rc i (by lia)
  refine⟨y,?_,?_⟩
  ·rw[List.getElem?_append_left (by lia),List.getElem?_take_of_lt l,Array.getElem?_toList]
   exact y1
  ·rw[List.getElem_append_left (by lia),List.getElem_take]
   exact up y2
 ·subst l
  refine⟨j,?_,?_⟩
  ·rw[List.getElem?_append_right (by lia),tl,Nat.sub_self]
   rfl
  ·rw[List.getElem_append_right (by lia)]
   simp only[th,Nat.sub_self,List.getElem_cons_zero]
   exact⟨N,by rw[qet k3];exact hj,λm lm=>by rw[qet k3];exact sub _ (pa m lm)⟩
 ·obtain⟨y,y1,y2⟩:=T.rc (i-1) (by lia)
  refine⟨y,?_,?_⟩
  ·rw[List.getElem?_append_right (by lia),tl,show i-(t.put j).2=(i-(t.put j).2-1)+1 by lia,List.getElem?_cons_succ,List.getElem?_drop,Array.getElem?_toList,show (t.put j).2+(i-(t.put j).2-1)=i-1 by lia]
   exact y1
  ·have eq:(hs.take (t.put j).2++h::hs.drop (t.put j).2)[i]?=hs[i-1]?:=by
    rw[List.getElem?_append_right (by lia),th,show i-(t.put j).2=(i-(t.put j).2-1)+1 by lia,List.getElem?_cons_succ,List.getElem?_drop,show (t.put j).2+(i-(t.put j).2-1)=i-1 by lia]
   rw[List.getElem?_eq_getElem hi,List.getElem?_eq_getElem (show i-1<hs.length by lia)] at eq
   rw[Option.some.inj eq]
   exact up y2
end
end SetTable
end PySem
namespace PySem
namespace SetTable
theorem qpu(t:SetTable):∀(m:Nat) (p:Probe),m<=p.more->advs t m p={ p with j:=p.j+m,more:=p.more-m }
|0,p,_=>by cases p;rfl
|m+1,p,h=>by
  rw[qfo,qpu t m p (by lia)]
  unfold advance
  rw[if_pos (by show p.more-m>0;lia)]
  show ({ p with j:=p.j+m+1,more:=p.more-m-1 }:Probe)={ p with j:=p.j+(m+1),more:=p.more-(m+1) }
  rw[show p.j+m+1=p.j+(m+1) by lia,show p.more-m-1=p.more-(m+1) by lia]
theorem qoi(t:SetTable)(x:Nat×Nat):advs t ((runEnd t.mask x.1-x.1)+1) (qdt t.mask x)=qdt t.mask (leap t.mask x.1 x.2):=by
 rw[qed,qiu t (runEnd t.mask x.1-x.1) (qdt t.mask x) rfl]
 simp only[advs]
 unfold advance
 rw[if_neg (by show ¬ (0>0);decide)]
 rfl
theorem qon{P:Nat->Bool}{L k:Nat}(h:(List.range L).find? P=some k):∀m,m<k->P m=false:=λm hm=>by
 have:=(List.find?_range_eq_some.mp h).2.2 m hm
 simpa using this
theorem qka{t:SetTable}{owner:Array (Option Nat)}{j:Nat}:∀(fuel i per:Nat),i<=t.mask->layClean.free t.mask owner fuel i per=some j->∃n,(advs t n (qdt t.mask (i,per))).j=j/\∀m,m<n->(owner.getD (advs t m (qdt t.mask (i,per))).j (some 0)).isSome=true
|0,i,per,_,h=>by unfold layClean.free at h;cases h
|fuel+1,i,per,hi,h=>by
  have re:=qex hi
  have pos:∀m,m<=runEnd t.mask i-i->(advs t m (qdt t.mask (i,per))).j=i+m:=λm hm=>by rw[qpu t m _ hm];rfl
  unfold layClean.free at h
  cases hf:(List.range (runEnd t.mask i+1-i)).find? λk=>(owner.getD (i+k) (some 0)).isNone with
 |some k =>
   rw[hf] at h
   have h2:=List.mem_range.mp (List.mem_of_find?_eq_some hf)
   refine⟨k,by rw[pos k (by lia)];exact Option.some.inj h,λm hm=>?_⟩
   rw[pos m (by lia)]
   have:=qon hf m hm
   cases e:owner.getD (i+m) (some 0) with
  |some x=>rfl
  |none=>rw[e] at this;cases this
 |none =>
   rw[hf] at h
   obtain⟨n,n1,n2⟩:=qka fuel _ _ (Nat.le_of_lt_succ (Nat.mod_lt _ (Nat.succ_pos _))) h
   have lp:=qoi t (i,per)
   refine⟨(runEnd t.mask i-i)+1+n,by rw[qed,lp];exact n1,λm hm=>?_⟩
   rcases Nat.lt_or_ge m ((runEnd t.mask i-i)+1) with l|l
   ·rw[pos m (by lia)]
    have:=List.find?_eq_none.mp hf m (List.mem_range.mpr (by lia))
    cases e:owner.getD (i+m) (some 0) with
   |some x=>rfl
   |none=>rw[e] at this;exact absurd rfl this
   ·have:=n2 (m-((runEnd t.mask i-i)+1)) (by lia)
    rw[show qdt t.mask ((i*5+1+per / 32)%t.mask.succ,per / 32)=advs t (runEnd t.mask i-i+1) (qdt t.mask (i,per)) from lp.symm,←qed,show (runEnd t.mask i-i)+1+(m-((runEnd t.mask i-i)+1))=m by lia] at this
    exact this
def qps(t:SetTable)(owner:Array (Option Nat))(h:Int)(j:Nat):Prop:=∃n,at_ t h n=j/\∀m,m<n->(owner.getD (at_ t h m) (some 0)).isSome=true
theorem qn0{owner:Array (Option Nat)}{j k x:Nat}(d:Option Nat)(hj:j<owner.size)(hx:x<owner.size):(owner.setIfInBounds j (some k)).getD x d=if x=j then some k else owner.getD x d:=by
 by_cases e:x=j
 ·subst e
  simp[hj]
 ·rw[if_neg e]
  simp[Array.getElem_setIfInBounds,hx,Ne.symm e]
theorem qy3(t:SetTable)(h:Int)(m:Nat):at_ t h m<=t.mask:=by
 have:=(qit t (qk1 t h).1 m).1
 unfold at_
 lia
structure OwnR(t:SetTable)(owner:Array (Option Nat))(hs:List Int):Prop where
 ok:OwnOk t.mask owner hs.length
 pa:∀j q,j<=t.mask->owner.getD j none=some q->∃h,hs[q]?=some h/\qps t owner h j
theorem OwnR.put{t:SetTable}{owner:Array (Option Nat)}{hs:List Int}(R:OwnR t owner hs){x:Int}{j:Nat}(hj:j<=t.mask)(e:owner.getD j (some 0)=none)(p:qps t owner x j):OwnR t (owner.setIfInBounds j (some hs.length)) (hs++[x]):=by
 have js:j<owner.size:=by rw[R.ok.sz];lia
 have up:∀ {h:Int} {y:Nat},qps t owner h y->qps t (owner.setIfInBounds j (some hs.length)) h y:=λ{h y} ⟨n,a,b⟩=>⟨n,a,λm l=>by
  have ms:at_ t h m<owner.size:=by have:=qy3 t h m;rw[R.ok.sz];lia
  rw[qn0 (some 0) js ms]
  by_cases z:at_ t h m=j
  ·rw[if_pos z];rfl
  ·rw[if_neg z];exact b m l⟩
 refine⟨by rw[List.length_append,List.length_singleton];exact R.ok.put hj e,λy q hy ey=>?_⟩
 have ys:y<owner.size:=by rw[R.ok.sz];lia
 rw[qn0 none js ys] at ey
 by_cases z:y=j
 ·rw[if_pos z] at ey
  cases ey
  exact⟨x,by simp,by rw[z];exact up p⟩
 ·rw[if_neg z] at ey
  obtain⟨h,h1,h2⟩:=R.pa y q hy ey
  exact⟨h,by rw[List.getElem?_append_left (List.getElem?_eq_some_iff.mp h1).1];exact h1,up h2⟩
theorem qqx{t:SetTable}{m:Nat}(hm:t.mask+1=2 ^ m):∀(ys hs:List Int) (owner:Array (Option Nat)),OwnR t owner hs->hs.length+ys.length<=t.mask+1 ->
  ∃o',ys.foldl (λ(acc:Option (Array (Option Nat)×Nat)) h=>do
   let (owner,k) ←acc
   let j ←layClean.free t.mask owner (turns t.mask) (bits h%(t.mask+1)) (bits h)
   pure (owner.setIfInBounds j (some k),k+1)) (some (owner,hs.length))=some (o',hs.length+ys.length)/\OwnR t o' (hs++ys)
|[],hs,owner,R,_=>⟨owner,rfl,by rw[List.append_nil];exact R⟩
|x::ys,hs,owner,R,hl=>by
  rw[List.length_cons] at hl
  obtain⟨q,hq,eq⟩:=R.ok.gap (by lia)
  have hi:bits x%(t.mask+1)<=t.mask:=Nat.le_of_lt_succ (Nat.mod_lt _ (Nat.succ_pos _))
  obtain⟨n,hn,en⟩:=qhe hm hi (qlk x) hq
  obtain⟨j,f1,f2,f3⟩:=ql1 (mask:=t.mask) eq (turns t.mask) n _ _ hi en (by show n<t.mask+15;lia)
  have pth:qps t owner x j:=qka (turns t.mask) _ _ hi f1
  obtain⟨o',g1,g2⟩:=qqx hm ys (hs++[x]) (owner.setIfInBounds j (some hs.length)) (R.put f2 f3 pth) (by rw[List.length_append,List.length_singleton];lia)
  rw[List.length_append,List.length_singleton] at g1
  refine⟨o',?_,by rw[List.append_assoc] at g2;exact g2⟩
  rw[List.foldl_cons,List.length_cons,show hs.length+(ys.length+1)=hs.length+1+ys.length by lia,←g1]
  congr 1
  show (layClean.free t.mask owner (turns t.mask) (bits x%(t.mask+1)) (bits x)).bind _=_
  rw[f1]
  rfl
theorem qvc{mask m:Nat}(hm:mask+1=2 ^ m)(big:7<=mask)(few:mask<=8191)(finger moves:Nat)(led plain:Bool)(hashes:Array Int)(hl:hashes.size<=mask) :
  ∃t order,laid mask finger moves led plain hashes=some (t,order)/\TOkH t (order.toList.map λq=>hashes.getD q 0)/\t.mask=mask/\t.led=led/\t.plain=plain/\order.toList.Perm (List.range hashes.size):=by
 obtain⟨t,order,l1,T,l2,l3,l4,pm⟩:=qi5 hm big few finger moves led plain hashes hl
 subst l2
 refine⟨t,order,l1,⟨by rw[List.length_map,pm.length_eq,List.length_range];exact T,λi hi=>?_⟩,rfl,l3,l4,pm⟩
 have start:OwnR t (Array.replicate (t.mask+1) none) []:=by
  refine⟨⟨Array.size_replicate,?_⟩,λj q hj e=>?_⟩
  ·unfold occ
   rw[List.filterMap_eq_nil_iff.mpr λj m=>?_]
   ·exact List.Perm.refl _
   ·have:=List.mem_range.mp m
    simp[this]
  ·have:j<t.mask+1:=by lia
   simp[this] at e
 obtain⟨o',f1,O⟩:=qqx hm hashes.toList [] _ start (by simp only[Array.length_toList,List.length_nil];lia)
 rw[List.nil_append] at O
 have lc:layClean t.mask hashes=some o':=by
  unfold layClean
  rw[←Array.foldl_toList,show (0:Nat)=([]:List Int).length from rfl,f1]
  rfl
 have l1':=l1
 unfold laid at l1'
 rw[lc] at l1'
 have l1':some (_,_)=some (t,order):=l1'
 have e1:((List.range (t.mask+1)).filterMap λj=>(o'.getD j none).map (j,·)).map (·.1)=t.place.toList:=by
  have:=congrArg (λz:Option (SetTable×Array Nat)=>(z.map (·.1.place.toList)).getD []) l1'
  simpa using this
 have e2:((List.range (t.mask+1)).filterMap λj=>(o'.getD j none).map (j,·)).map (·.2)=order.toList:=by
  have:=congrArg (λz:Option (SetTable×Array Nat)=>(z.map (·.2.toList)).getD []) l1'
  simpa using this
 generalize hlv:((List.range (t.mask+1)).filterMap λj=>(o'.getD j none).map (j,·))=live at e1 e2
 have mem:∀j q,(j,q)∈live↔j<=t.mask/\o'.getD j none=some q:=λj q=>by
  rw[←hlv,List.mem_filterMap]
  constructor
  ·rintro⟨x,mx,ex⟩
   obtain⟨y,ey,e⟩:=Option.map_eq_some_iff.mp ex
   cases e
   exact⟨by have:=List.mem_range.mp mx;lia,ey⟩
  ·rintro⟨h1,h2⟩
   exact⟨j,List.mem_range.mpr (by lia),by rw[h2];rfl⟩
 have il:i<live.length:=by rw[List.length_map,←e2,List.length_map] at hi;exact hi
 have m0:(live[i].1,live[i].2)∈live:=List.getElem_mem il
 obtain⟨k1,k2⟩:=(mem _ _).mp m0
 obtain⟨h,h1,n,h2,h3⟩:=O.pa _ _ k1 k2
 have eo:(order.toList.map λq=>hashes.getD q 0)[i]=h:=by
  have q1:(order.toList.map λq=>hashes.getD q 0)[i]?=some h:=by
   rw[←e2,List.map_map,List.getElem?_map,List.getElem?_eq_getElem il]
   show some (hashes.getD live[i].2 0)=some h
   rw[Array.getElem?_toList] at h1
   obtain⟨z1,z2⟩:=Array.getElem?_eq_some_iff.mp h1
   simp[z1,z2]
  rw[List.getElem?_eq_getElem hi] at q1
  exact Option.some.inj q1
 refine⟨live[i].1,?_,?_⟩
 ·rw[←Array.getElem?_toList,←e1,List.getElem?_map,List.getElem?_eq_getElem il]
  rfl
 ·rw[eo]
  refine⟨n,h2,λm hm'=>?_⟩
  have hp:=h3 m hm'
  have le:=qy3 t h m
  have ps:at_ t h m<o'.size:=by rw[O.ok.sz];lia
  rw[←e1]
  cases e:o'.getD (at_ t h m) none with
 |some q=>exact List.mem_map.mpr ⟨(at_ t h m,q),(mem _ _).mpr ⟨le,e⟩,rfl⟩
 |none =>
   have e3:o'.getD (at_ t h m) (some 0)=o'.getD (at_ t h m) none:=by simp[ps]
   rw[e3,e] at hp
   cases hp
end SetTable
end PySem
namespace PySem
open SetTable
section
variable {prog:Program} {w:World} {K:Type} [DecidableEq K] {knd:KeyKind prog w K} {A:Around} {E:Value->Shared->Prop} {s:Shared} {a b:Addr}
structure SetAt(knd:KeyKind prog w K)(h:Heap)(a:Addr)(o:Obj)(es:Array (Int×Value))(ep:Nat)(t:SetTable)(ks:List (List K×Addr)):Prop where
 ho:h.get? a=some o
 ex:o.ExactSet
 hd:o.data=.set es ep t
 ok:TOkH t (ks.map λp=>tupleKeyHash knd p.1)
 pl:t.plain=true->∀p∈ks,p.1=[]
 es:es.toList=ks.map λp=>(tupleKeyHash knd p.1,Value.ref p.2)
 is:∀p∈ks,IsTupleKey knd h p.1 p.2
 nd:(ks.map (·.1)).Nodup
variable {o:Obj} {es:Array (Int×Value)} {ep:Nat} {t:SetTable} {ks:List (List K×Addr)}
theorem SetAt.size(S:SetAt knd s.heap a o es ep t ks):es.size=ks.length:=by
 have:=congrArg List.length S.es
 rw[List.length_map] at this
 simpa using this
theorem SetAt.tok(S:SetAt knd s.heap a o es ep t ks):TOk t ks.length:=by
 have:=S.ok.ok
 rw[List.length_map] at this
 exact this
theorem SetAt.fits(S:SetAt knd s.heap a o es ep t ks):t.fits es.size=true:=by
 have T:=S.tok
 unfold SetTable.fits SetTable.fill
 rw[S.size,T.sz,T.nd]
 have:=T.fl
 simp[this]
theorem SetAt.odd(S:SetAt knd s.heap a o es ep t ks):t.gaveWay=false:=by
 obtain⟨k,hk⟩:=S.tok.mk2
 have big:=S.tok.big
 unfold SetTable.gaveWay
 have:k≠0:=λz=>by rw[z] at hk;simp at hk;lia
 obtain⟨j,rfl⟩:=Nat.exists_eq_succ_of_ne_zero this
 rw[Nat.pow_succ] at hk
 have:t.mask%2=1:=by lia
 rw[this]
 rfl
theorem SetAt.entry(S:SetAt knd s.heap a o es ep t ks){i:Nat}(hi:i<ks.length):es[i]?=some (tupleKeyHash knd ks[i].1,Value.ref ks[i].2):=by
 rw[←Array.getElem?_toList,S.es,List.getElem?_map,List.getElem?_eq_getElem hi]
 rfl
theorem qny(hu:(tupleKind knd).room A)(S:SetAt knd s.heap a o es ep t ks){k:List K}(hk:IsTupleKey knd s.heap k b){Q:SetFound->Shared->Prop}
  (quiet:∀(E:Value->Shared->Prop) (stored:List Value) (R:Bool->Shared->Prop),(∀v∈stored,∃p∈ks,v=.ref p.2)->R false s->wpAny (model prog w) A (searchCouldBeSeen (.ref b) stored) R E s)
  (there:k∈ks.map (·.1)->Q (.there none) s) (free:k∉ks.map (·.1)->∀N,at_ t (tupleKeyHash knd k) N<=t.mask->at_ t (tupleKeyHash knd k) N∉t.place.toList->(∀m,m<N->at_ t (tupleKeyHash knd k) m∈t.place.toList)->Q (.free (at_ t (tupleKeyHash knd k) N) false) s)
  {e:Nat} (he:e<10*turns t.mask) (hs:t.slot (at_ t (tupleKeyHash knd k) e)=.empty):∀(fuel c:Nat) (stand:Option Probe),stand.getD (t.probeStart (tupleKeyHash knd k))=advs t c (t.probeStart (tupleKeyHash knd k))->c<=e->e-c<fuel ->
   (∀m,m<c->∃i,∃hi:i<ks.length,t.slot (at_ t (tupleKeyHash knd k) m)=.live i/\ks[i].1≠k) ->
   wpAny (model prog w) A (setSearchFrom a (.ref b) (tupleKeyHash knd k) true fuel stand) Q E s
|0,c,stand,_,_,h,_=>by lia
|fuel+1,c,stand,est,hc,hf,rej=>by
  have T:=S.tok
  unfold setSearchFrom
  refine wpAny_bind (wpAny_setState_of S.ho S.hd S.fits ?_)
  dsimp only
  rw[S.odd]
  simp only[Bool.false_eq_true,↓reduceIte]
  rw[est]
  generalize hp:SetTable.probe t _ _ _=met
  have hp:probe.go t (λi=>(es[i]?.map (·.1)).getD 0) (tupleKeyHash knd k) (10*turns t.mask) (advs t c (t.probeStart (tupleKeyHash knd k)))=met:=hp
  obtain⟨N,n1,n2,n3,n4⟩:=T.met2 (hashAt:=λi=>(es[i]?.map (·.1)).getD 0) (h:=tupleKeyHash knd k) (10*turns t.mask) c e hc (by lia) hs
  have hashEq:∀i (hi:i<ks.length),(es[i]?.map (·.1)).getD 0=tupleKeyHash knd ks[i].1:=λi hi=>by rw[S.entry hi];rfl
  have rej2:∀m,m<N->∃i,∃hi:i<ks.length,t.slot (at_ t (tupleKeyHash knd k) m)=.live i/\ks[i].1≠k:=λm hm=>by
   rcases Nat.lt_or_ge m c with l|l
   ·exact rej m l
   ·obtain⟨i,s1,s2⟩:=n3 m l hm
    have hi:i<ks.length:=by
     rcases T.slot (at_ t (tupleKeyHash knd k) m) with ⟨_,z⟩|⟨i',_,z1,z2⟩
     ·rw[z] at s1;cases s1
     ·rw[z2] at s1;cases s1;exact z1
    exact⟨i,hi,s1,λz=>s2 (by rw[hashEq i hi,z])⟩
  rcases n4 with ⟨g1,g2,g3⟩|⟨i,g1,g2,g3,g4,g5⟩
  ·rw[g1] at hp
   subst hp
   dsimp only
   have nk:k∉ks.map (·.1):=λmk=>by
    obtain⟨p,mp,ep⟩:=List.mem_map.mp mk
    obtain⟨i,hi,ei⟩:=List.mem_iff_getElem.mp mp
    have hh:(ks.map λp=>tupleKeyHash knd p.1)[i]'(by rw[List.length_map];exact hi)=tupleKeyHash knd k:=by rw[List.getElem_map,ei,ep]
    obtain⟨m,m1,m2⟩:=S.ok.seen g3 (by rw[List.length_map];exact hi) hh
    obtain⟨i',hi',m3,m4⟩:=rej2 m m1
    rw[m2] at m3
    cases m3
    exact m4 (by rw[ei,ep])
   have pa:∀m,m<N->at_ t (tupleKeyHash knd k) m∈t.place.toList:=λm hm=>by
    obtain⟨i,hi,m3,_⟩:=rej2 m hm
    rcases T.slot (at_ t (tupleKeyHash knd k) m) with ⟨_,z⟩|⟨i',z1,_,_⟩
    ·rw[z] at m3;cases m3
    ·obtain⟨li,ei⟩:=Array.getElem?_eq_some_iff.mp z1
     rw[←ei];simp
   exact wpAny_pure (free nk N g2 g3 pa)
  ·rw[g1] at hp
   subst hp
   dsimp only
   have mi:ks[i]∈ks:=List.getElem_mem g3
   have again:ks[i].1≠k->wpAny (model prog w) A (setSearchFrom a (.ref b) (tupleKeyHash knd k) true fuel (some (advs t (N+1) (t.probeStart (tupleKeyHash knd k))))) Q E s:=λnk=>qny hu S hk quiet there free he hs fuel (N+1) _ rfl (by lia) (by lia) λm hm=>by
    rcases Nat.lt_or_ge m N with l|l
    ·exact rej2 m l
    ·have:m=N:=by lia
     subst this
     exact⟨i,g3,g2,nk⟩
   have sm:t.sameMemory t.moves t.mask=some true:=by unfold SetTable.sameMemory;simp
   have isS:∀x:Addr,isSame (.ref x) (.ref x)=pure true:=λx=>by simp[isSame]
   have mem:∀v∈(es.filter λx=>x.1==tupleKeyHash knd k).toList.map (·.2),∃p∈ks,v=.ref p.2:=λv mv=>by
    obtain⟨x,mx,rfl⟩:=List.mem_map.mp mv
    rw[Array.toList_filter] at mx
    have mx:=(List.mem_filter.mp mx).1
    rw[S.es] at mx
    obtain⟨p,mp,rfl⟩:=List.mem_map.mp mx
    exact⟨p,mp,rfl⟩
   split
   rotate_left
   rotate_left
   ·refine wpAny_bind (quiet E _ _ mem ?_)
    simp only[Bool.false_eq_true,↓reduceIte]
    rw[S.entry g3]
    dsimp only
    refine wpAny_bind (wpAny_holding ((tupleKind knd).eqBool hu (S.is _ mi) hk ?_))
    refine wpAny_bind (wpAny_setState_of S.ho S.hd S.fits ?_)
    dsimp only
    by_cases q:ks[i].1=k
    ·rw[decide_eq_true q]
     simp only[Bool.and_self,↓reduceIte]
     exact wpAny_pure (there (by rw[←q];exact List.mem_map.mpr ⟨_,mi,rfl⟩))
    ·rw[decide_eq_false q]
     simp only[Bool.and_false,Bool.false_eq_true,↓reduceIte]
     rw[sm]
     dsimp only
     simp only[↓reduceIte]
     rw[g2]
     dsimp only
     rw[S.entry g3]
     dsimp only
     rw[isS]
     refine wpAny_bind (wpAny_bind (wpAny_pure (wpAny_pure ?_)))
     simp only[↓reduceIte]
     exact again q
   ·rw[S.entry g3]
    dsimp only
    refine wpAny_bind (wpAny_holding ((tupleKind knd).eqBool hu (S.is _ mi) hk ?_))
    refine wpAny_bind (wpAny_setState_of S.ho S.hd S.fits ?_)
    dsimp only
    by_cases q:ks[i].1=k
    ·rw[decide_eq_true q]
     simp only[Bool.and_self,↓reduceIte]
     exact wpAny_pure (there (by rw[←q];exact List.mem_map.mpr ⟨_,mi,rfl⟩))
    ·rw[decide_eq_false q]
     simp only[Bool.and_false,Bool.false_eq_true,↓reduceIte]
     rw[sm]
     dsimp only
     simp only[↓reduceIte]
     rw[g2]
     dsimp only
     rw[S.entry g3]
     dsimp only
     rw[isS]
     refine wpAny_bind (wpAny_bind (wpAny_pure (wpAny_pure ?_)))
     simp only[↓reduceIte]
     exact again q
end
end PySem
namespace PySem
open SetTable
section
variable {prog:Program} {w:World} {K:Type} [DecidableEq K] {knd:KeyKind prog w K} {A:Around} {E:Value->Shared->Prop} {s:Shared} {a b:Addr}
variable {o:Obj} {es:Array (Int×Value)} {ep:Nat} {t:SetTable} {ks:List (List K×Addr)}
theorem qd4{h h':Heap}{k:List K}(x:IsTupleKey knd h k b)(ho:h.get? a=some o)(hd:o.data=.set es ep t)(hs:Heap.SameBut a h h'):IsTupleKey knd h' k b:=by
 obtain⟨o2,items,n,g1,g2,g3,g4⟩:=x
 have ne:b≠a:=λz=>by
  rw[z,ho] at g1
  cases g1
  rw[hd] at g3
  cases g3
 exact⟨o2,items,n,(hs.2 b ne).trans g1,g2,g3,g4⟩
theorem SetAt.store(S:SetAt knd s.heap a o es ep t ks){es':Array (Int×Value)}{t':SetTable}{ks':List (List K×Addr)}(pm:ks'.Perm ks\/∃k c,IsTupleKey knd s.heap k c/\k∉ks.map (·.1)/\ks'.Perm (ks++[(k,c)]))(ok:TOkH t' (ks'.map λp=>tupleKeyHash knd p.1))(pl:t'.plain=true->∀p∈ks',p.1=[])
  (ee:es'.toList=ks'.map λp=>(tupleKeyHash knd p.1,Value.ref p.2)):SetAt knd (s.heap.update a (Obj.putSet es' t')) a { o with data:=.set es' (ep+1) t' } es' (ep+1) t' ks':=by
 have hg:(s.heap.update a (Obj.putSet es' t')).get? a=some { o with data:=.set es' (ep+1) t' }:=by
  have:=Heap.get?_update_self (Obj.putSet es' t') S.ho (by rw[putSet_of es' t' S.hd];rfl)
  rw[putSet_of es' t' S.hd] at this;exact this
 have sb:=Heap.SameBut.update s.heap a (Obj.putSet es' t')
 refine⟨hg,S.ex,rfl,ok,pl,ee,λp mp=>?_,?_⟩
 ·rcases pm with q|⟨k,c,h1,_,q⟩
  ·exact qd4 (S.is p (q.mem_iff.mp mp)) S.ho S.hd sb
  ·rcases List.mem_append.mp (q.mem_iff.mp mp) with m|m
   ·exact qd4 (S.is p m) S.ho S.hd sb
   ·rw[List.mem_singleton.mp m]
    exact qd4 h1 S.ho S.hd sb
 ·rcases pm with q|⟨k,c,_,nk,q⟩
  ·exact(q.map (·.1)).nodup_iff.mpr S.nd
  ·refine(q.map (·.1)).nodup_iff.mpr ?_
   rw[List.map_append]
   exact List.nodup_append.mpr ⟨S.nd,by simp,λx mx y my e=>nk (by
    have z:y=k:=List.mem_singleton.mp my
    rw[←z,←e]
    exact mx)⟩
theorem qrm(S:SetAt knd s.heap a o es ep t ks){wanted:Nat}(hw:ks.length<=wanted)(h4:wanted<=4095){Q:Unit->Shared->Prop}
  (h:∀h' o' es' ep' t' ks',Heap.SameBut a s.heap h'->SetAt knd h' a o' es' ep' t' ks'->ks'.Perm ks->t'.led=t.led->wanted<=t'.mask->Q () { s with heap:=h' }):wpAny (model prog w) A (setRelay a wanted) Q E s:=by
 obtain⟨m,m1,m2,m3,m4⟩:=qsv h4
 have pw:sizeAbove wanted-1+1=2 ^ m:=by lia
 have sz:(es.map (·.1)).size=ks.length:=by rw[Array.size_map,S.size]
 obtain⟨t',order,l1,T,l2,l3,l4,pm⟩:=qvc pw (by lia) (by lia) t.finger (t.movedTo (sizeAbove wanted-1)) t.led t.plain (es.map (·.1)) (by rw[sz];lia)
 rw[sz] at pm
 have pm2:order.toList.Perm (List.range es.size):=by rw[S.size];exact pm
 have op:=qif pm2
 have oz:(order.filterMap (es[·]?)).size=es.size:=by
  rw[←Array.length_toList,op.length_eq,Array.length_toList]
 unfold setRelay
 refine wpAny_bind (wpAny_setState_of S.ho S.hd S.fits ?_)
 dsimp only
 rw[if_neg (by rw[sizeLine_eq];lia)]
 rw[show t.relaid (es.map (·.1)) wanted=some (t',order) from l1]
 refine wpAny_bind ?_
 refine(show wpAny (model prog w) A (if ((order.filterMap (es[·]?)).size != es.size)=true then _ else pure (order.filterMap (es[·]?),t')) _ E s from ?_)
 rw[if_neg (by rw[oz];simp)]
 refine wpAny_pure ?_
 dsimp only
 refine wpAny_storeSet_of S.ho S.hd ?_ (by rw[oz,S.size,sizeLine_eq];lia)
 have kp:(order.toList.filterMap (ks[·]?)).Perm ks:=by
  have:=pm.filterMap λi=>ks[i]?
  rw[List.filterMap_getElem?_range_length ks] at this
  exact this
 refine h _ _ _ _ _ (order.toList.filterMap (ks[·]?)) (Heap.SameBut.update ..) (S.store (.inl kp) ?_ (λz p mp=>S.pl (by rw[←l4];exact z) p (kp.mem_iff.mp mp)) ?_) kp l3 (by rw[l2];lia)
 ·have e:(order.toList.map λq=>(es.map (·.1)).getD q 0)=(order.toList.filterMap (ks[·]?)).map λp=>tupleKeyHash knd p.1:=by
   rw[List.map_filterMap,←List.filterMap_eq_map]
   refine qdu λq mq=>?_
   have hq:=List.mem_range.mp (pm.mem_iff.mp mq)
   rw[List.getElem?_eq_getElem hq]
   have:=S.entry hq
   obtain⟨z1,z2⟩:=Array.getElem?_eq_some_iff.mp this
   simp[z1,z2]
  rw[←e]
  exact T
 ·rw[Array.toList_filterMap,List.map_filterMap]
  refine qdu λq mq=>?_
  have hq:=List.mem_range.mp (pm.mem_iff.mp mq)
  rw[List.getElem?_eq_getElem hq,S.entry hq]
  rfl
theorem ins_map{α β:Type}(f:α->β)(l:List α)(p:Nat)(x:α):(l.take p++x::l.drop p).map f=(l.map f).take p++f x::(l.map f).drop p:=by
 rw[List.map_append,List.map_cons,List.map_take,List.map_drop]
theorem qy2(hu:(tupleKind knd).room A)(S:SetAt knd s.heap a o es ep t ks)(lo:5*ks.length<3*t.mask)(hn:ks.length<900){k:List K}(hk:IsTupleKey knd s.heap k b)
  (quiet:∀(E:Value->Shared->Prop) (stored:List Value) (R:Bool->Shared->Prop),(∀v∈stored,∃p∈ks,v=.ref p.2)->R false s->wpAny (model prog w) A (searchCouldBeSeen (.ref b) stored) R E s)
  (hbv:∀(E:Value->Shared->Prop) (R:Bool->Shared->Prop),(∀c,(c=true->k=[])->R c s)->wpAny (model prog w) A (hashByValue 8 (.ref b)) R E s)
  {Q:Bool->Shared->Prop} (old:k∈ks.map (·.1)->Q false s)
  (new:k∉ks.map (·.1)->∀h' o' es' ep' t' ks',Heap.SameBut a s.heap h'->SetAt knd h' a o' es' ep' t' ks'->ks'.Perm (ks++[(k,b)])->t'.led=t.led->5*ks'.length<3*t'.mask->Q true { s with heap:=h' }) :
  wpAny (model prog w) A (setAddHashed a (.ref b) (tupleKeyHash knd k)) Q E s:=by
 have T:=S.tok
 have few:=T.few
 have big:=T.big
 obtain⟨e,he,hs⟩:=T.stop (tupleKeyHash knd k)
 unfold setAddHashed setAddHashedIn
 refine wpAny_holding (wpAny_bind (wpAny_setState_of S.ho S.hd S.fits ?_))
 dsimp only
 rw[show byScan (.ref b) es=false from rfl]
 simp only[Bool.false_eq_true,↓reduceIte]
 refine wpAny_bind ?_
 unfold setSearch
 refine qny hu S hk quiet (λmk=>?_) (λnk N g1 g2 g3=>?_) he hs 100000 0 none rfl (Nat.zero_le _) (by unfold turns at he;lia) (λm hm=>absurd hm (Nat.not_lt_zero _))
 ·dsimp only
  exact wpAny_pure (old mk)
 ·dsimp only
  refine wpAny_bind (wpAny_setState_of S.ho S.hd S.fits ?_)
  dsimp only
  have hl:(ks.map λp=>tupleKeyHash knd p.1).length=ks.length:=List.length_map ..
  obtain⟨P,p1,p2⟩:=S.ok.put g1 g2 g3 (by rw[hl];lia)
  rw[hl] at p1
  generalize hj:at_ t (tupleKeyHash knd k) N=j at *
  have eflags:(t.put j).1.led=t.led/\(t.put j).1.plain=t.plain:=⟨rfl,rfl⟩
  rw[show (tupleKeyHash knd k)=(λp:List K×Addr=>tupleKeyHash knd p.1) (k,b) from rfl,←ins_map] at P
  have kp:(ks.take (t.put j).2++(k,b)::ks.drop (t.put j).2).Perm (ks++[(k,b)]):=by
   refine List.perm_middle.trans ?_
   rw[List.take_append_drop]
   exact(List.perm_append_singleton (k,b) ks).symm
  have kl:(ks.take (t.put j).2++(k,b)::ks.drop (t.put j).2).length=ks.length+1:=by rw[kp.length_eq,List.length_append,List.length_singleton]
  have ee:(SetTable.insertAt es (t.put j).2 (tupleKeyHash knd k,Value.ref b)).toList=(ks.take (t.put j).2++(k,b)::ks.drop (t.put j).2).map λp=>(tupleKeyHash knd p.1,Value.ref p.2):=by
   rw[toList_insertAt,S.es,ins_map]
  have ez:(SetTable.insertAt es (t.put j).2 (tupleKeyHash knd k,Value.ref b)).size=ks.length+1:=by
   rw[←Array.length_toList,ee,List.length_map,kl]
  have tail:∀t':SetTable,t'.mask=(t.put j).1.mask->t'.place=(t.put j).1.place->t'.dummies=(t.put j).1.dummies->t'.led=t.led->(t'.plain=true->t.plain=true/\k=[])->wpAny (model prog w) A (do
    storeSet a (SetTable.insertAt es (t.put j).2 (tupleKeyHash knd k,Value.ref b)) t'
    if (!false&&t'.tooFull)=true then do
      setRelay a (SetTable.grown (es.size+1))
      pure true
     else pure true) Q E s:=λt' q1 q2 q3 q4 q5=>by
   have P':TOkH t' ((ks.take (t.put j).2++(k,b)::ks.drop (t.put j).2).map λp=>tupleKeyHash knd p.1):=by
    obtain⟨O,rc⟩:=P
    refine⟨⟨by rw[q1];exact O.mk2,by rw[q1];exact O.big,by rw[q1];exact O.few,by rw[q2];exact O.sz,by rw[q2];exact O.so,by rw[q2,q1];exact O.lo,by rw[q3];exact O.nd,by rw[q1];exact O.fl⟩,λi hi=>?_⟩
    obtain⟨y,y1,n,y2,y3⟩:=rc i hi
    exact⟨y,by rw[q2];exact y1,n,by rw[qet q1];exact y2,λm hm=>by rw[qet q1,q2];exact y3 m hm⟩
   have st:=S.store (es':=SetTable.insertAt es (t.put j).2 (tupleKeyHash knd k,Value.ref b)) (t':=t') (.inr ⟨k,b,hk,nk,kp⟩) P' (λz p mp=>by
    obtain⟨z1,z2⟩:=q5 z
    rcases List.mem_append.mp (kp.mem_iff.mp mp) with m|m
    ·exact S.pl z1 p m
    ·rw[List.mem_singleton.mp m];exact z2) ee
   refine wpAny_bind (wpAny_storeSet_of S.ho S.hd ?_ (by rw[ez,sizeLine_eq];lia))
   have fillE:t'.fill=ks.length+1:=by
    unfold SetTable.fill
    rw[q2,q3,P.ok.sz,P.ok.nd,List.length_map,kl]
    rfl
   by_cases tf:t'.tooFull=true
   ·rw[tf]
    simp only[Bool.not_false,Bool.and_self,↓reduceIte]
    have gr:SetTable.grown (es.size+1)=(ks.length+1)*4:=by
     unfold SetTable.grown
     rw[S.size,if_neg (by lia)]
    rw[gr]
    refine wpAny_bind (qrm (s:={ s with heap:=s.heap.update a (Obj.putSet (SetTable.insertAt es (t.put j).2 (tupleKeyHash knd k,Value.ref b)) t') }) st (by rw[kl];lia) (by lia) λh' o' es' ep' t2 ks2 sb S2 pm le mk=>wpAny_pure ?_)
    refine new nk h' o' es' ep' t2 ks2 ((Heap.SameBut.update ..).trans sb) S2 (pm.trans kp) (le.trans q4) ?_
    rw[pm.length_eq,kl]
    lia
   ·rw[Bool.not_eq_true] at tf
    rw[tf]
    simp only[Bool.and_false,Bool.false_eq_true,↓reduceIte]
    refine wpAny_pure (new nk _ _ _ _ _ _ (Heap.SameBut.update ..) st kp q4 ?_)
    unfold SetTable.tooFull at tf
    rw[fillE] at tf
    have:=of_decide_eq_false tf
    rw[kl]
    lia
  split
  ·rename_i pt
   refine wpAny_bind (hbv E _ λc hc=>?_)
   cases c with
  |true =>
    simp only[↓reduceIte]
    exact tail _ rfl rfl rfl rfl λz=>⟨pt,hc rfl⟩
  |false =>
    simp only[Bool.false_eq_true,↓reduceIte]
    exact tail { (t.put j).1 with plain:=false } rfl rfl rfl rfl λz=>by cases z
  ·rename_i pf
   refine wpAny_bind (wpAny_pure ?_)
   simp only[↓reduceIte]
   exact tail _ rfl rfl rfl rfl λz=>absurd z pf
theorem qp1{k:List K}{Q:Bool->Shared->Prop}(hk:IsTupleKey knd s.heap k b)(h:Q false s):wpAny (model prog w) A (ofAClassStatement 8 (.ref b)) Q E s:=by
 have hT:=hk.typeIs
 obtain⟨o2,items,n,ho,_,hd,hi⟩:=hk
 unfold ofAClassStatement
 refine wpAny_bind (wpAny_typeOf hT ?_)
 dsimp only
 refine wpAny_bind (wpAny_pure ?_)
 simp only[Bool.not_true,Bool.false_eq_true,if_false]
 refine wpAny_bind (wpAny_seqItems ho hd ?_)
 dsimp only
 refine wpAny_bind ?_
 rw[←Array.forIn_toList]
 refine wpAny_forIn_list _ (λrest r s'=>r.1=none/\s'=s/\∀v∈rest,carriedByValue v=true) _ ?_ ?_ _ _ ⟨rfl,rfl,hi.byValue⟩
 ·rintro v rest r s' ⟨hr,rfl,hall⟩
  have:ofAClassStatement 7 v=pure false:=by
   have:=hall v List.mem_cons_self
   cases v<;>first|(cases this;done)|rfl
  rw[this]
  refine wpAny_bind (wpAny_pure ?_)
  simp only[Bool.false_eq_true,if_false]
  exact wpAny_pure ⟨rfl,rfl,λu hu'=>hall u (List.mem_cons_of_mem _ hu')⟩
 ·rintro⟨r1,r2⟩ s' ⟨hr,rfl,_⟩
  simp only at hr
  subst hr
  exact wpAny_pure h
theorem qvq{k:List K}(hk:IsTupleKey knd s.heap k b)(is:∀p∈ks,IsTupleKey knd s.heap p.1 p.2)(E:Value->Shared->Prop)(stored:List Value)(R:Bool->Shared->Prop)(hm:∀v∈stored,∃p∈ks,v=.ref p.2)(h:R false s):wpAny (model prog w) A (searchCouldBeSeen (.ref b) stored) R E s:=by
 unfold searchCouldBeSeen
 refine wpAny_bind ?_
 refine wpAny_forIn_list _ (λrest r s'=>r.1=none/\s'=s/\∀v∈rest,∃p∈ks,v=.ref p.2) _ ?_ ?_ _ _ ⟨rfl,rfl,hm⟩
 ·rintro v rest r s' ⟨hr,rfl,hall⟩
  obtain⟨p,mp,rfl⟩:=hall v List.mem_cons_self
  have hp:=is p mp
  have nx:∀u∈rest,∃p∈ks,u=.ref p.2:=λu hu'=>hall u (List.mem_cons_of_mem _ hu')
  dsimp only
  split
  ·exact wpAny_pure ⟨rfl,rfl,nx⟩
  ·refine wpAny_bind (wpAny_eqIsQuiet_tuple hk ?_)
   simp only[Bool.not_true,Bool.false_eq_true,if_false]
   refine wpAny_bind (wpAny_eqIsQuiet_tuple hp ?_)
   simp only[Bool.not_true,Bool.false_eq_true,if_false]
   refine wpAny_bind (qp1 hk ?_)
   simp only[Bool.false_eq_true,if_false]
   refine wpAny_bind (qp1 hp ?_)
   simp only[Bool.false_eq_true,if_false]
   exact wpAny_pure ⟨rfl,rfl,nx⟩
 ·rintro⟨r1,r2⟩ s' ⟨hr,rfl,_⟩
  simp only at hr
  subst hr
  exact wpAny_pure h
end
end PySem
namespace PySem
open SetTable
section
variable {prog:Program} {w:World} {K:Type} [DecidableEq K] {knd:KeyKind prog w K} {A:Around} {E:Value->Shared->Prop} {s:Shared} {a b:Addr}
variable {o:Obj} {es:Array (Int×Value)} {ep:Nat} {t:SetTable} {ks:List (List K×Addr)}
theorem qzk{k:List K}(hk:IsTupleKey knd s.heap k b)(hstr:∀x∈k,∀v,knd.is x v=true->∀n,hashByValue n v=pure false)(E:Value->Shared->Prop)(R:Bool->Shared->Prop)(h:∀c,(c=true->k=[])->R c s):wpAny (model prog w) A (hashByValue 8 (.ref b)) R E s:=by
 have hT:=hk.typeIs
 obtain⟨o2,items,n,ho,_,hd,hi⟩:=hk
 unfold hashByValue
 refine wpAny_bind (wpAny_specialOf hT F.slot_tuple_hash.lookup ?_)
 refine wpAny_bind (wpAny_seqItems ho hd ?_)
 refine wpAny_bind ?_
 show wpAny _ _ (forIn items _ _) _ _ s
 rw[←Array.forIn_toList]
 generalize items.toList=l at hi
 cases hi with
|nil =>
  rw[List.forIn_nil]
  exact wpAny_pure (wpAny_pure (h true λ_=>rfl))
|cons h1 h2 =>
  rename_i k v ks' vs
  rw[List.forIn_cons,hstr k List.mem_cons_self v h1 7]
  refine wpAny_bind (wpAny_bind (wpAny_pure ?_))
  simp only[Bool.not_false,if_true]
  refine wpAny_pure ?_
  dsimp only
  exact wpAny_pure (wpAny_pure (h false λz=>by cases z))
theorem qni(led:Bool):TOkH (SetTable.fresh 0 0 led) []:=by
 refine⟨⟨⟨3,rfl⟩,show 7<=7 by decide,show 7<=8191 by decide,rfl,(λi j hi=>absurd hi (Nat.not_lt_zero _)),(λj m=>by cases m),rfl,Nat.zero_le _⟩,λi hi=>absurd hi (Nat.not_lt_zero _)⟩
theorem qrp(S:SetAt knd s.heap a o es ep t ks){more:Nat}(hn:ks.length+more<=2000){Q:Unit->Shared->Prop}(h0:5*(ks.length+more)<3*t.mask->Q () s)
  (h:∀h' o' es' ep' t' ks',Heap.SameBut a s.heap h'->SetAt knd h' a o' es' ep' t' ks'->ks'.Perm ks->t'.led=t.led->5*(ks.length+more)<3*t'.mask->Q () { s with heap:=h' }):wpAny (model prog w) A (setRoomFor a more) Q E s:=by
 have T:=S.tok
 have fl:t.fill=ks.length:=by unfold SetTable.fill;rw[T.sz,T.nd];rfl
 unfold setRoomFor
 refine wpAny_bind (wpAny_setState_of S.ho S.hd S.fits ?_)
 dsimp only
 unfold SetTable.roomFor
 rw[fl,T.sz]
 by_cases c:(ks.length+more)*5≥t.mask*3
 ·rw[if_pos c]
  dsimp only
  have big:=T.big
  refine qrm S (by lia) (by lia) λh' o' es' ep' t' ks' sb S' pm le mk=>h h' o' es' ep' t' ks' sb S' pm le (by lia)
 ·rw[if_neg c]
  dsimp only
  exact wpAny_pure (h0 (by lia))
end
end PySem
namespace PySem
open SetTable
theorem sub_dict_set:isSubtype (.type "dict") (.type "set")=pure false:=by rw[isSubtype_type];kernel_rfl
theorem qjp:isSubtype (.type "dict") (.type "frozenset")=pure false:=by rw[isSubtype_type];kernel_rfl
section
variable {prog:Program} {w:World} {K:Type} [DecidableEq K] {knd:KeyKind prog w K} {A:Around} {E:Value->Shared->Prop} {s:Shared} {a b d:Addr}
variable {o:Obj} {es:Array (Int×Value)} {ep:Nat} {t:SetTable} {ks:List (List K×Addr)} {xs:List (List K×Addr×Value)}
theorem qmh{Q:Bool->Shared->Prop}(hT:s.TypeIs (.ref d) "dict")(h:Q false s):wpAny (model prog w) A (Builtin.Frozenset.isAnySet (.ref d)) Q E s:=by
 unfold Builtin.Frozenset.isAnySet orM
 refine wpAny_bind (wpAny_isInstance hT sub_dict_set ?_)
 show wpAny _ _ (isInstance (.ref d) (.type "frozenset")) _ _ s
 exact wpAny_isInstance hT qjp h
theorem qzi(id:String)(hu:(tupleKind knd).room A)(S:SetAt knd s.heap a o es ep t [])(D:s.heap.DictOfH (tupleKind knd) d xs)(nd:(d==sysModules)=false)(hx:xs.length<=800)(hstr:∀x∈xs,∀y∈x.1,∀v,knd.is y v=true->∀n,hashByValue n v=pure false){Q:Unit->Shared->Prop}
  (h:∀h' o' es' ep' t' ks',Heap.SameBut a s.heap h'->SetAt knd h' a o' es' ep' t' ks'->ks'.Perm (xs.map λx=>(x.1,x.2.1))->t'.led=t.led->5*ks'.length<3*t'.mask->Q () { s with heap:=h' }):wpAny (model prog w) A (Builtin.Frozenset.updateFrom id a (.ref d)) Q E s:=by
 have hT:=D.typeIs
 obtain⟨od,ed,epd,d1,d2,d3,d4,d5,d6⟩:=D
 have esz:=size_of_entries d4
 have ne:d≠a:=λz=>by
  rw[z,S.ho] at d1
  cases d1
  rw[S.hd] at d3
  cases d3
 unfold Builtin.Frozenset.updateFrom
 refine wpAny_bind (qmh hT ?_)
 simp only[Bool.false_eq_true,if_false]
 refine wpAny_bind (wpAny_typeOf hT ?_)
 rw[if_pos (by rfl)]
 refine wpAny_bind (wpAny_rule ?_)
 refine wpAny_bind (wpAny_pure ?_)
 rw[nd]
 simp only[Bool.false_eq_true,if_false]
 refine wpAny_bind (wpAny_dictEpoch d1 d3 ?_)
 refine wpAny_bind (wpAny_dictEntries d1 d3 ?_)
 have go:∀(h0:Heap) (o0:Obj) (es0:Array (Int×Value)) (ep0:Nat) (t0:SetTable),Heap.SameBut a s.heap h0->SetAt knd h0 a o0 es0 ep0 t0 []->t0.led=t.led->0<t0.mask->wpAny (model prog w) A (do
    let ent ←dictEntries d
    for i in [0:ent.size] do
     let some e:=(←dictEntries d)[i]?|unsupported "internal:set-from-dict"
     let _ ←holding [e.key] (setAddHashed a e.key e.hash)
     if (←dictEpoch d) != epd then unsupported s!"{id}:changed-during-callback"
    return ()) Q E { s with heap:=h0 }:=λh0 o0 es0 ep0 t0 sb0 S0 le0 mk0=>by
  have dd0:h0.get? d=some od:=(sb0.2 d ne).trans d1
  refine wpAny_bind (wpAny_dictEntries (s:={ s with heap:=h0 }) dd0 d3 ?_)
  refine wpAny_bind ?_
  rw[Std.Legacy.Range.forIn_eq_forIn_range']
  simp only[Std.Legacy.Range.size,Nat.sub_zero,Nat.add_sub_cancel,Nat.div_one]
  refine wpAny_forIn_list _ (λrest _ s'=>∃i h' o' es' ep' t' ks',rest=List.range' i (ed.size-i)/\i<=ed.size/\s'={ s with heap:=h' }/\Heap.SameBut a s.heap h'/\SetAt knd h' a o' es' ep' t' ks'/\ks'.Perm ((xs.take i).map λx=>(x.1,x.2.1))/\t'.led=t.led/\5*ks'.length<3*t'.mask) _ ?_ ?_ _ _ ⟨0,h0,o0,es0,ep0,t0,[],rfl,Nat.zero_le _,rfl,sb0,S0,List.Perm.refl _,le0,by simp;lia⟩
  ·rintro i0 rest r s' ⟨i,h',o',es',ep',t',ks',er,hi,rfl,sb,S',pm,le,lo⟩
   have il:i<ed.size:=by
    rcases Nat.lt_or_ge i ed.size with z|z
    ·exact z
    ·rw[Nat.sub_eq_zero_of_le z] at er;cases er
   rw[show ed.size-i=(ed.size-(i+1))+1 by lia,List.range'_succ] at er
   obtain⟨rfl,er⟩:=List.cons.inj er
   have dd:h'.get? d=some od:=(sb.2 d ne).trans d1
   have xl:i0<xs.length:=by lia
   refine wpAny_bind (wpAny_dictEntries (s:={ s with heap:=h' }) dd d3 ?_)
   rw[entry_at d4 i0,List.getElem?_eq_getElem xl]
   simp only[Option.map_some,entryOfKey]
   have kl:=pm.length_eq
   rw[List.length_map,List.length_take] at kl
   have hkey:IsTupleKey knd h' xs[i0].1 xs[i0].2.1:=qd4 (d5 xs[i0] (List.getElem_mem xl)) S.ho S.hd sb
   have nk0:xs[i0].1∉ks'.map (·.1):=λmk=>by
    obtain⟨p,mp,ep⟩:=List.mem_map.mp mk
    obtain⟨x,mx,ex⟩:=List.mem_map.mp (pm.mem_iff.mp mp)
    obtain⟨q,hq,eq⟩:=List.mem_iff_getElem.mp mx
    rw[List.length_take] at hq
    rw[List.getElem_take] at eq
    have e1:x.1=xs[i0].1:=by rw[←ep,←ex]
    have N:=List.pairwise_iff_getElem.mp d6
    have:=N q i0 (by rw[List.length_map];lia) (by rw[List.length_map];lia) (by lia)
    rw[List.getElem_map,List.getElem_map,eq] at this
    exact this e1
   refine wpAny_bind (wpAny_holding ?_)
   refine qy2 (s:={ s with heap:=h' }) hu S' lo (by lia) hkey (qvq hkey S'.is) (qzk hkey (hstr _ (List.getElem_mem xl))) (λmk=>absurd mk nk0) λ_ h2 o2 es2 ep2 t2 ks2 sb2 S2 pm2 le2 lo2=>?_
   have dd2:h2.get? d=some od:=(sb2.2 d ne).trans dd
   refine wpAny_bind (wpAny_dictEpoch (s:={ s with heap:=h2 }) dd2 d3 ?_)
   rw[if_neg (by simp)]
   refine wpAny_pure ⟨i0+1,h2,o2,es2,ep2,t2,ks2,er,by lia,rfl,sb.trans sb2,S2,?_,le2.trans le,lo2⟩
   rw[List.take_succ,List.getElem?_eq_getElem xl,List.map_append]
   exact pm2.trans (pm.append_right _)
  ·rintro r s' ⟨i,h',o',es',ep',t',ks',er,hi,rfl,sb,S',pm,le,lo⟩
   have:i=xs.length:=by
    have:=congrArg List.length er
    rw[List.length_range',List.length_nil] at this
    lia
   subst this
   rw[List.take_length] at pm
   exact wpAny_pure (h h' o' es' ep' t' ks' sb S' pm le lo)
 refine wpAny_bind (qrp S (by simp only[List.length_nil];lia) (λ_=>?_) λh' o' es' ep' t' ks' sb S' pm le lo=>?_)
 ·have:=go s.heap o es ep t (Heap.SameBut.refl ..) S rfl (by have:=S.tok.big;lia)
  exact this
 ·cases List.Perm.eq_nil pm
  exact go h' o' es' ep' t' sb S' le (by have:=(SetAt.tok (s:={ s with heap:=h' }) S').big;lia)
end
end PySem
namespace PySem
open SetTable
theorem sub_set_set:isSubtype (.type "set") (.type "set")=pure true:=by rw[isSubtype_type];kernel_rfl
section
variable {prog:Program} {w:World} {K:Type} [DecidableEq K] {knd:KeyKind prog w K} {A:Around} {E:Value->Shared->Prop} {s:Shared} {a b d r:Addr}
variable {o oa:Obj} {es ea:Array (Int×Value)} {ep epa:Nat} {t ta:SetTable} {ks ka:List (List K×Addr)}
theorem SetAt.typeIs(S:SetAt knd s.heap a o es ep t ks):s.TypeIs (.ref a) "set" := ⟨o,S.ho,S.ex.1⟩
theorem SetAt.but{h h':Heap}(S:SetAt knd h a o es ep t ks)(so:SetAt knd h r oa ea epa ta ka)(ne:a≠r)(sb:Heap.SameBut r h h'):SetAt knd h' a o es ep t ks :=
 ⟨(sb.2 a ne).trans S.ho,S.ex,S.hd,S.ok,S.pl,S.es,λp mp=>qd4 (S.is p mp) so.ho so.hd sb,S.nd⟩
theorem SetAt.store2(S:SetAt knd s.heap a o es ep t ks){es':Array (Int×Value)}{t':SetTable}{ks':List (List K×Addr)}(is:∀p∈ks',IsTupleKey knd s.heap p.1 p.2)(nd:(ks'.map (·.1)).Nodup)(ok:TOkH t' (ks'.map λp=>tupleKeyHash knd p.1))(pl:t'.plain=true->∀p∈ks',p.1=[])
  (ee:es'.toList=ks'.map λp=>(tupleKeyHash knd p.1,Value.ref p.2)):SetAt knd (s.heap.update a (Obj.putSet es' t')) a { o with data:=.set es' (ep+1) t' } es' (ep+1) t' ks':=by
 have hg:(s.heap.update a (Obj.putSet es' t')).get? a=some { o with data:=.set es' (ep+1) t' }:=by
  have:=Heap.get?_update_self (Obj.putSet es' t') S.ho (by rw[putSet_of es' t' S.hd];rfl)
  rw[putSet_of es' t' S.hd] at this;exact this
 have sb:=Heap.SameBut.update s.heap a (Obj.putSet es' t')
 exact⟨hg,S.ex,rfl,ok,pl,ee,λp mp=>qd4 (is p mp) S.ho S.hd sb,nd⟩
theorem TOkH.flags{t t':SetTable}{hs:List Int}(h:TOkH t hs)(q1:t'.mask=t.mask)(q2:t'.place=t.place)(q3:t'.dummies=t.dummies):TOkH t' hs:=by
 obtain⟨O,rc⟩:=h
 refine⟨⟨by rw[q1];exact O.mk2,by rw[q1];exact O.big,by rw[q1];exact O.few,by rw[q2];exact O.sz,by rw[q2];exact O.so,by rw[q2,q1];exact O.lo,by rw[q3];exact O.nd,by rw[q1];exact O.fl⟩,λi hi=>?_⟩
 obtain⟨y,y1,n,y2,y3⟩:=rc i hi
 exact⟨y,by rw[q2];exact y1,n,by rw[qet q1];exact y2,λm hm=>by rw[qet q1,q2];exact y3 m hm⟩
theorem qu2(R:SetAt knd s.heap r o es ep t [])(S:SetAt knd s.heap a oa ea epa ta ka)(ne:a≠r)(hn:ka.length<=1900)(lo:5*ka.length<3*ta.mask){each:Sem Unit}{Q:Unit->Shared->Prop}(h0:ka=[]->Q () s)
  (h:∀h' o' es' ep' t' ks',Heap.SameBut r s.heap h'->SetAt knd h' r o' es' ep' t' ks'->ks'.Perm ka->t'.led=(t.led&&ta.led)->5*ks'.length<3*t'.mask->Q () { s with heap:=h' }):wpAny (model prog w) A (setMerge r a each) Q E s:=by
 unfold setMerge
 rw[if_neg (by simpa using Ne.symm ne)]
 refine wpAny_bind (wpAny_setState_of S.ho S.hd S.fits ?_)
 dsimp only
 by_cases em:ka=[]
 ·have:ea.isEmpty=true:=by
   have:=S.size
   rw[em] at this
   simpa [Array.isEmpty] using this
  rw[if_pos this]
  exact wpAny_pure (h0 em)
 ·have ne2:¬ ea.isEmpty=true:=λz=>em (List.length_eq_zero_iff.mp (by
   have:=S.size
   have z:ea.size=0:=by simpa [Array.isEmpty] using z
   lia))
  rw[if_neg ne2]
  have sz:=S.size
  refine wpAny_bind (wpAny_mono (qrp (Q:=λ_ s1=>∃h1 o1 es1 ep1 t1,s1={ s with heap:=h1 }/\Heap.SameBut r s.heap h1/\SetAt knd h1 r o1 es1 ep1 t1 []/\t1.led=t.led/\5*ka.length<3*t1.mask) R (more:=ea.size) (by simp only[List.length_nil];lia) (λlo1=>⟨s.heap,o,es,ep,t,rfl,Heap.SameBut.refl ..,R,rfl,by simp only[List.length_nil] at lo1;lia⟩) λh1 o1 es1 ep1 t1 ks1 sb R1 pm le lo1=>by
   cases List.Perm.eq_nil pm
   exact⟨h1,o1,es1,ep1,t1,rfl,sb,R1,le,by simp only[List.length_nil] at lo1;lia⟩) ?_ λ_ _ z=>z)
  rintro _ s1 ⟨h1,o1,es1,ep1,t1,rfl,sb,R1,le,lo1⟩
  have S1:SetAt knd h1 a oa ea epa ta ka:=S.but R ne sb
  have T1:=SetAt.tok (s:={ s with heap:=h1 }) R1
  refine wpAny_bind (wpAny_setState_of (s:={ s with heap:=h1 }) R1.ho R1.hd (SetAt.fits (s:={ s with heap:=h1 }) R1) ?_)
  dsimp only
  have fl:t1.fill=0:=by unfold SetTable.fill;rw[T1.sz,T1.nd];rfl
  unfold SetTable.road
  rw[fl]
  simp only[bne_self_eq_false,Bool.false_eq_true,if_false]
  by_cases c:(t1.mask==ta.mask&&ta.dummies.isEmpty)=true
  ·rw[if_pos c]
   dsimp only
   refine wpAny_storeSet_of (s:={ s with heap:=h1 }) R1.ho R1.hd ?_ (by rw[sz,sizeLine_eq];lia)
   refine h _ _ _ _ _ ka (sb.trans (Heap.SameBut.update ..)) (SetAt.store2 (s:={ s with heap:=h1 }) R1 S1.is S1.nd (TOkH.flags S.ok rfl rfl rfl) (λz p mp=>S.pl (by simp only[Bool.and_eq_true] at z;exact z.2) p mp) S.es) (List.Perm.refl _) (by show (t1.led&&ta.led)=_;rw[le]) lo
  ·rw[if_neg c]
   dsimp only
   obtain⟨m,hm⟩:=T1.mk2
   have szm:(ea.map (·.1)).size=ka.length:=by rw[Array.size_map,sz]
   obtain⟨t',order,l1,T,l2,l3,l4,pm⟩:=qvc hm T1.big T1.few t1.finger t1.moves (t1.led&&ta.led) (t1.plain&&ta.plain) (ea.map (·.1)) (by rw[szm];lia)
   rw[szm] at pm
   have pm2:order.toList.Perm (List.range ea.size):=by rw[sz];exact pm
   have op:=qif pm2
   have oz:(order.filterMap (ea[·]?)).size=ea.size:=by rw[←Array.length_toList,op.length_eq,Array.length_toList]
   rw[l1]
   refine wpAny_bind ?_
   refine(show wpAny (model prog w) A (if ((order.filterMap (ea[·]?)).size != ea.size)=true then _ else pure (order.filterMap (ea[·]?),t')) _ E { s with heap:=h1 } from ?_)
   rw[if_neg (by rw[oz];simp)]
   refine wpAny_pure ?_
   dsimp only
   refine wpAny_storeSet_of (s:={ s with heap:=h1 }) R1.ho R1.hd ?_ (by rw[oz,sz,sizeLine_eq];lia)
   have kp:(order.toList.filterMap (ka[·]?)).Perm ka:=by
    have:=pm.filterMap λi=>ka[i]?
    rw[List.filterMap_getElem?_range_length ka] at this
    exact this
   refine h _ _ _ _ _ (order.toList.filterMap (ka[·]?)) (sb.trans (Heap.SameBut.update ..)) (SetAt.store2 (s:={ s with heap:=h1 }) R1 (λp mp=>S1.is p (kp.mem_iff.mp mp)) ((kp.map (·.1)).nodup_iff.mpr S1.nd) ?_ (λz p mp=>S.pl (by rw[l4] at z;simp only[Bool.and_eq_true] at z;exact z.2) p (kp.mem_iff.mp mp)) ?_) kp (by rw[l3,le]) (by rw[kp.length_eq,l2];exact lo1)
   ·have e:(order.toList.map λq=>(ea.map (·.1)).getD q 0)=(order.toList.filterMap (ka[·]?)).map λp=>tupleKeyHash knd p.1:=by
     rw[List.map_filterMap,←List.filterMap_eq_map]
     refine qdu λq mq=>?_
     have hq:=List.mem_range.mp (pm.mem_iff.mp mq)
     rw[List.getElem?_eq_getElem hq]
     have:=S.entry hq
     obtain⟨z1,z2⟩:=Array.getElem?_eq_some_iff.mp this
     simp[z1,z2]
    rw[←e]
    exact T
   ·rw[Array.toList_filterMap,List.map_filterMap]
    refine qdu λq mq=>?_
    have hq:=List.mem_range.mp (pm.mem_iff.mp mq)
    rw[List.getElem?_eq_getElem hq,S.entry hq]
    rfl
end
end PySem
namespace PySem
open SetTable Sem
section
variable {prog:Program} {w:World} {K:Type} [DecidableEq K] {knd:KeyKind prog w K} {A:Around} {E:Value->Shared->Prop} {s:Shared} {a b d r:Addr}
variable {o:Obj} {es:Array (Int×Value)} {ep:Nat} {t:SetTable} {ks:List (List K×Addr)}
theorem qlb{src:Source}{n:Nat}{Q:Nat->Shared->Prop}(hn:n≠0)(h:∀i dr,i<n->Q i { s with drawn:=dr }):wpAny (model prog w) A (choose src n) Q E s:=λΓ p hΓ=>by
 unfold choose
 rw[wp_choose]
 exact⟨hn,h _ _ (Nat.mod_lt _ (Nat.pos_of_ne_zero hn))⟩
theorem qh5{α:Type}{l:List α}{i:Nat}{x:α}(h:l[i]?=some x):(x::l.eraseIdx i).Perm l:=by
 obtain⟨li,e⟩:=List.getElem?_eq_some_iff.mp h
 rw[List.eraseIdx_eq_take_drop_succ]
 refine List.perm_middle.symm.trans (List.Perm.of_eq ?_)
 conv=>rhs;rw[←List.take_append_drop i l,List.drop_eq_getElem_cons li,e]
theorem qg4{α:Type}:∀(n:Nat) (xs:List α) (s:Shared) (Q:List α->Shared->Prop),xs.length=n->(∀l dr,l.Perm xs->Q l { s with drawn:=dr })->wpAny (model prog w) A (drawOrder n xs) Q E s
|0,xs,s,Q,hl,h=>by
  cases List.length_eq_zero_iff.mp hl
  unfold drawOrder
  exact wpAny_pure (h [] s.drawn (List.Perm.refl _))
|n+1,[],s,Q,hl,h=>by cases hl
|n+1,x::xs,s,Q,hl,h=>by
  unfold drawOrder
  refine wpAny_bind (qlb (by rw[hl];lia) λi dr hi=>?_)
  rw[List.getElem?_eq_getElem hi]
  dsimp only
  refine wpAny_bind (qg4 n _ _ _ (by rw[List.length_eraseIdx,if_pos hi,hl];rfl) λl dr2 hp=>?_)
  exact wpAny_pure (h _ dr2 ((hp.cons _).trans (qh5 (List.getElem?_eq_getElem hi))))
theorem qhk{α:Type}(next:Nat->Nat):∀(fuel k:Nat) (left:List α) (out:Array α),left.length=fuel->(pickOrder.go next fuel k left out).toList.Perm (out.toList++left)
|0,k,left,out,h=>by
  cases List.length_eq_zero_iff.mp h
  unfold pickOrder.go
  rw[List.append_nil]
|fuel+1,k,left,out,h=>by
  unfold pickOrder.go
  have hi:next k%left.length<left.length:=Nat.mod_lt _ (by lia)
  rw[List.getElem?_eq_getElem hi]
  dsimp only
  refine(qhk next fuel (k+1) _ _ (by rw[List.length_eraseIdx,if_pos hi,h];rfl)).trans ?_
  rw[Array.toList_push,List.append_assoc]
  exact List.Perm.append_left _ (qh5 (List.getElem?_eq_getElem hi))
theorem qvz(S:SetAt knd s.heap a o es ep t ks){Q:Array (Int×Value)->Shared->Prop}(h:∀l dr,l.toList.Perm es.toList->Q l { s with drawn:=dr }):wpAny (model prog w) A (setWalk a) Q E s:=by
 unfold setWalk
 refine wpAny_bind (wpAny_setState_of S.ho S.hd S.fits ?_)
 dsimp only
 unfold setsByText
 refine wpAny_bind (wpAny_bind (wpAny_askSetting (wpAny_pure ?_)))
 split
 ·refine wpAny_bind (wpAny_askSetting (wpAny_pure ?_))
  refine h _ s.drawn ?_
  unfold pickOrder
  have:=qhk ((model prog w).w.params.setOrder a ep) es.size 0 es.toList #[] (by simp)
  simpa using this
 ·split
  ·refine wpAny_bind (qg4 _ _ _ _ (by simp) λl dr hp=>wpAny_pure (h _ dr ?_))
   exact hp
  ·rename_i nd
   have nd:¬ ((!t.plain&&decide (es.size>1))=true):=nd
   have few:es.size<=1:=by
    rcases Nat.lt_or_ge 1 es.size with z|z
    ·exfalso
     have pt:t.plain=true:=by
      cases e:t.plain with
     |true=>rfl
     |false=>exact absurd (by rw[e,decide_eq_true z];rfl) nd
     have sz:=S.size
     have k0:=S.pl pt ks[0] (List.getElem_mem (by lia))
     have k1:=S.pl pt ks[1] (List.getElem_mem (by lia))
     have N:=List.pairwise_iff_getElem.mp S.nd
     have:=N 0 1 (by rw[List.length_map];lia) (by rw[List.length_map];lia) (by decide)
     rw[List.getElem_map,List.getElem_map,k0,k1] at this
     exact this rfl
    ·exact z
   refine wpAny_bind (show wpAny (model prog w) A (if (!t.led&&decide (es.size>1))=true then _ else Pure.pure ()) _ E s from ?_)
   rw[if_neg (by rw[decide_eq_false (by lia),Bool.and_false];decide)]
   exact wpAny_pure (wpAny_pure (h es s.drawn (List.Perm.refl _)))
end
end PySem
namespace PySem
open SetTable
section
variable {prog:Program} {w:World} {K:Type} [DecidableEq K] {knd:KeyKind prog w K} {A:Around} {E:Value->Shared->Prop} {s:Shared} {a b d r:Addr}
variable {o oa:Obj} {es ea:Array (Int×Value)} {ep epa:Nat} {t ta:SetTable} {ks ka:List (List K×Addr)}
theorem qz2(S:SetAt knd s.heap a oa ea epa ta ka)(h1:1<ea.size){others:List Addr}{Q:Bool->Shared->Prop}(h:Q false s):wpAny (model prog w) A (setsQuiet (a::others)) Q E s:=by
 have sz:=S.size
 obtain⟨p,rest,e⟩:∃p rest,ka=p::rest:=by
  cases ka with
 |nil=>rw[sz] at h1;cases h1
 |cons p rest=>exact⟨p,rest,rfl⟩
 have hk:=S.is p (by rw[e];exact List.mem_cons_self)
 have hT:=hk.typeIs
 unfold setsQuiet
 refine wpAny_bind ?_
 rw[List.forIn_cons]
 refine wpAny_bind (wpAny_bind (wpAny_setEntries_of S.ho S.hd S.fits ?_))
 refine wpAny_bind ?_
 rw[←Array.forIn_toList,S.es,e,List.map_cons,List.forIn_cons]
 refine wpAny_bind ?_
 dsimp only
 refine wpAny_bind (wpAny_specialOf hT F.slot_tuple_eq.lookup ?_)
 rw[if_pos (by decide)]
 exact wpAny_pure (wpAny_pure (wpAny_pure (wpAny_pure (wpAny_pure h))))
theorem qyv(S:SetAt knd s.heap a oa ea epa ta ka){others:List Addr}{fi:Option Addr}{Q:Array (Int×Value)->Shared->Prop}(h:∀l dr,l.toList.Perm ea.toList->Q l { s with drawn:=dr }):wpAny (model prog w) A (setWalkUnseen a others fi) Q E s:=by
 unfold setWalkUnseen
 refine wpAny_bind (wpAny_setState_of S.ho S.hd S.fits ?_)
 dsimp only
 unfold setsByText
 refine wpAny_bind (wpAny_bind (wpAny_askSetting (wpAny_pure ?_)))
 split
 ·exact qvz S h
 ·rename_i c
  have h1:1<ea.size:=by
   rcases Nat.lt_or_ge 1 ea.size with z|z
   ·exact z
   ·exact absurd (by rw[decide_eq_true z,Bool.or_true]) c
  refine wpAny_bind (qz2 S h1 ?_)
  simp only[Bool.not_false,if_true]
  exact qvz S h
theorem qwp(hu:(tupleKind knd).room A)(R:SetAt knd s.heap r o es ep t ks)(r0:ks≠[])(S:SetAt knd s.heap a oa ea epa ta ka)(ne:a≠r)(hn:ks.length+ka.length<=800)(hstr:∀p∈ka,∀y∈p.1,∀v,knd.is y v=true->∀n,hashByValue n v=pure false){each:Sem Unit}
  (he:∀(s1:Shared) (Q1:Unit->Shared->Prop),SetAt knd s1.heap a oa ea epa ta ka->Q1 () s1->wpAny (model prog w) A each Q1 E s1) {Q:Unit->Shared->Prop}
  (h:∀h' dr o' es' ep' t' ks',Heap.SameBut r s.heap h'->SetAt knd h' r o' es' ep' t' ks'->(∀k,k∈ks'.map (·.1)↔k∈ks.map (·.1)\/k∈ka.map (·.1))->(ks'.length<=ks.length+ka.length/\∀p∈ks',p∈ks\/p∈ka)->t'.led=t.led->Q () { s with heap:=h',drawn:=dr }):wpAny (model prog w) A (setMerge r a each) Q E s:=by
 have sz:=S.size
 unfold setMerge
 rw[if_neg (by simpa using Ne.symm ne)]
 refine wpAny_bind (wpAny_setState_of S.ho S.hd S.fits ?_)
 dsimp only
 split
 ·rename_i em
  have em:ea.size=0:=by simpa [Array.isEmpty] using em
  have ke:ka=[]:=List.length_eq_zero_iff.mp (by lia)
  exact wpAny_pure (h s.heap s.drawn o es ep t ks (Heap.SameBut.refl ..) R (λk=>by rw[ke];simp) ⟨by lia,λp m=>.inl m⟩ rfl)
 ·refine wpAny_bind (wpAny_mono (qrp (Q:=λ_ s1=>∃h1 o1 es1 ep1 t1 ks1,s1={ s with heap:=h1 }/\Heap.SameBut r s.heap h1/\SetAt knd h1 r o1 es1 ep1 t1 ks1/\ks1.Perm ks/\t1.led=t.led/\5*ks.length<3*t1.mask) R (more:=ea.size) (by lia) (λlo1=>⟨s.heap,o,es,ep,t,ks,rfl,Heap.SameBut.refl ..,R,List.Perm.refl _,rfl,by lia⟩) λh1 o1 es1 ep1 t1 ks1 sb R1 pm le lo1=>⟨h1,o1,es1,ep1,t1,ks1,rfl,sb,R1,pm,le,by lia⟩) ?_ λ_ _ z=>z)
  rintro _ s1 ⟨h1,o1,es1,ep1,t1,ks1,rfl,sb,R1,pm,le,lo1⟩
  have S1:SetAt knd h1 a oa ea epa ta ka:=S.but R ne sb
  have T1:=SetAt.tok (s:={ s with heap:=h1 }) R1
  have kl:=pm.length_eq
  have k0:=List.length_pos_iff.mpr r0
  refine wpAny_bind (wpAny_setState_of (s:={ s with heap:=h1 }) R1.ho R1.hd (SetAt.fits (s:={ s with heap:=h1 }) R1) ?_)
  dsimp only
  have fl:t1.fill=ks1.length:=by unfold SetTable.fill;rw[T1.sz,T1.nd];rfl
  unfold SetTable.road
  rw[fl,if_pos (by simp;intro z;rw[z] at kl;simp at kl;lia)]
  dsimp only
  refine wpAny_bind (qyv (s:={ s with heap:=h1 }) S1 λl dr lp=>?_)
  refine wpAny_bind ?_
  rw[←Array.forIn_toList]
  refine wpAny_forIn_list _ (λrest _ s'=>∃don h' dr' o' es' ep' t' ks',l.toList=don++rest/\s'={ s with heap:=h',drawn:=dr' }/\Heap.SameBut r s.heap h'/\SetAt knd h' r o' es' ep' t' ks'/\(∀k,k∈ks'.map (·.1)↔k∈ks.map (·.1)\/∃p∈ka,p.1=k/\(tupleKeyHash knd p.1,Value.ref p.2)∈don)/\(ks'.length<=ks.length+don.length/\∀p∈ks',p∈ks\/p∈ka)/\t'.led=t.led/\5*ks'.length<3*t'.mask) _ ?_ ?_ _ _ ⟨[],h1,dr,o1,es1,ep1,t1,ks1,rfl,rfl,sb,R1,λk=>by rw[(pm.map (·.1)).mem_iff];simp,⟨by simp;lia,λp m=>.inl (pm.mem_iff.mp m)⟩,le,by lia⟩
  ·rintro x rest u s' ⟨don,h',dr',o',es',ep',t',ks',el,rfl,sb',R',iff',⟨len',sub'⟩,le',lo'⟩
   have mx:x∈ea.toList:=lp.mem_iff.mp (by rw[el];simp)
   rw[S.es] at mx
   obtain⟨p,mp,rfl⟩:=List.mem_map.mp mx
   have S':SetAt knd h' a oa ea epa ta ka:=S.but R ne sb'
   have hk:=S'.is p mp
   have dl:don.length+rest.length+1=ka.length:=by
    have:=lp.length_eq
    rw[el,S.es,List.length_map,List.length_append,List.length_cons] at this
    lia
   have more:∀k,(∃q∈ka,q.1=k/\(tupleKeyHash knd q.1,Value.ref q.2)∈don++[(tupleKeyHash knd p.1,Value.ref p.2)])↔(∃q∈ka,q.1=k/\(tupleKeyHash knd q.1,Value.ref q.2)∈don)\/k=p.1:=λk=>by
    constructor
    ·rintro⟨q,mq,eq,m⟩
     rcases List.mem_append.mp m with m|m
     ·exact .inl ⟨q,mq,eq,m⟩
     ·have:=List.mem_singleton.mp m
      have e2:q.2=p.2:=by
       exact Value.ref.inj (Prod.mk.inj this).2
      have:=S'.is q mq
      rw[e2] at this
      exact .inr (by rw[←eq];exact(tupleKind knd).inj this hk)
    ·rintro (⟨q,mq,eq,m⟩|e)
     ·exact⟨q,mq,eq,List.mem_append_left _ m⟩
     ·exact⟨p,mp,e.symm,List.mem_append_right _ (List.mem_singleton.mpr rfl)⟩
   have tail:∀(h2:Heap) (o2:Obj) (es2:Array (Int×Value)) (ep2:Nat) (t2:SetTable) (ks2:List (List K×Addr)),Heap.SameBut r s.heap h2->SetAt knd h2 r o2 es2 ep2 t2 ks2->(∀k,k∈ks2.map (·.1)↔k∈ks'.map (·.1)\/k=p.1)->(ks2.length<=ks'.length+1/\∀q∈ks2,q∈ks'\/q=p)->t2.led=t.led->5*ks2.length<3*t2.mask->∃don h' dr2 o' es' ep' t' ks',l.toList=don++rest/\({ s with heap:=h2,drawn:=dr' }:Shared)={ s with heap:=h',drawn:=dr2 }/\Heap.SameBut r s.heap h'/\SetAt knd h' r o' es' ep' t' ks'/\(∀k,k∈ks'.map (·.1)↔k∈ks.map (·.1)\/∃p∈ka,p.1=k/\(tupleKeyHash knd p.1,Value.ref p.2)∈don)/\(ks'.length<=ks.length+don.length/\∀p∈ks',p∈ks\/p∈ka)/\t'.led=t.led/\5*ks'.length<3*t'.mask:=λh2 o2 es2 ep2 t2 ks2 sb2 R2 i2 l2 le2 lo2=>⟨don++[(tupleKeyHash knd p.1,Value.ref p.2)],h2,dr',o2,es2,ep2,t2,ks2,by rw[el];simp,rfl,sb2,R2,λk=>by rw[i2,iff',more,or_assoc],⟨by rw[List.length_append,List.length_singleton];lia,λq m=>(l2.2 q m).elim (sub' q) λe=>.inr (by rw[e];exact mp)⟩,le2,lo2⟩
   refine wpAny_bind (wpAny_holding ?_)
   refine qy2 (s:={ s with heap:=h',drawn:=dr' }) hu R' lo' (by lia) hk (qvq hk R'.is) (qzk hk (hstr p mp)) (λmk=>?_) λnk h2 o2 es2 ep2 t2 ks2 sb2 R2 pm2 le2 lo2=>?_
   ·refine wpAny_bind (he _ _ S' ?_)
    refine wpAny_bind (wpAny_setState_of (s:={ s with heap:=h',drawn:=dr' }) S'.ho S'.hd (SetAt.fits (s:={ s with heap:=h',drawn:=dr' }) S') ?_)
    rw[if_neg (by simp)]
    exact wpAny_pure (tail h' o' es' ep' t' ks' sb' R' (λk=>⟨.inl,λz=>z.elim id λe=>by rw[e];exact mk⟩) ⟨by lia,λq m=>.inl m⟩ le' lo')
   ·have S2:SetAt knd h2 a oa ea epa ta ka:=S'.but R' ne sb2
    refine wpAny_bind (he _ _ S2 ?_)
    refine wpAny_bind (wpAny_setState_of (s:={ s with heap:=h2,drawn:=dr' }) S2.ho S2.hd (SetAt.fits (s:={ s with heap:=h2,drawn:=dr' }) S2) ?_)
    rw[if_neg (by simp)]
    exact wpAny_pure (tail h2 o2 es2 ep2 t2 ks2 (sb'.trans sb2) R2 (λk=>by rw[(pm2.map (·.1)).mem_iff,List.map_append,List.mem_append];simp) ⟨by rw[pm2.length_eq,List.length_append,List.length_singleton];exact Nat.le_refl _,λq m=>by
     rcases List.mem_append.mp (pm2.mem_iff.mp m) with z|z
     ·exact .inl z
     ·exact .inr (List.mem_singleton.mp z)⟩ (le2.trans le') lo2)
  ·rintro u s' ⟨don,h',dr',o',es',ep',t',ks',el,rfl,sb',R',iff',⟨len',sub'⟩,le',lo'⟩
   rw[List.append_nil] at el
   refine wpAny_pure (h h' dr' o' es' ep' t' ks' sb' R' (λk=>?_) ⟨?_,sub'⟩ le')
   ·rw[iff']
    refine or_congr Iff.rfl ⟨λ⟨p,mp,ep,_⟩=>List.mem_map.mpr ⟨p,mp,ep⟩,λm=>?_⟩
    obtain⟨p,mp,ep⟩:=List.mem_map.mp m
    exact⟨p,mp,ep,by rw[←el];exact lp.mem_iff.mpr (by rw[S.es];exact List.mem_map.mpr ⟨p,mp,rfl⟩)⟩
   ·have:=lp.length_eq
    rw[el,S.es,List.length_map] at this
    lia
end
end PySem
namespace PySem
open SetTable
section
variable {prog:Program} {w:World} {K:Type} [DecidableEq K] {knd:KeyKind prog w K} {A:Around} {E:Value->Shared->Prop} {s:Shared} {a b d r:Addr}
variable {o oa:Obj} {es ea:Array (Int×Value)} {ep epa:Nat} {t ta:SetTable} {ks ka:List (List K×Addr)}
def qcl(prog:Program)(w:World):Bool:=!((model prog w).w.params.followText "set-order")
def newS(l:Bool):Obj:={ cls:=.type "set",dict:=none,data:=.set #[] 0 (.fresh 0 0 l) }
theorem qtn{Q:Value->Shared->Prop}(h:SetAt knd (s.heap.push (newS (qcl prog w))) s.heap.objs.size (newS (qcl prog w)) #[] 0 (.fresh 0 0 (qcl prog w)) []->Q (.ref s.heap.objs.size) { s with heap:=s.heap.push (newS (qcl prog w)) }):wpAny (model prog w) A (newSet (.type "set")) Q E s:=by
 unfold newSet setsByText
 refine wpAny_bind (wpAny_bind (wpAny_askSetting (wpAny_pure ?_)))
 dsimp only
 simp only[newObj]
 refine wpAny_bind (wpAny_alloc (wpAny_pure (h ⟨Heap.get?_push_size _ rfl,⟨rfl,rfl,rfl⟩,rfl,qni _,λ_ p mp=>(by cases mp),rfl,λp mp=>(by cases mp),List.nodup_nil⟩)))
theorem ql3{Q:Bool->Shared->Prop}(hT:s.TypeIs (.ref a) "set")(h:Q true s):wpAny (model prog w) A (Builtin.Frozenset.isAnySet (.ref a)) Q E s:=by
 unfold Builtin.Frozenset.isAnySet orM
 refine wpAny_bind (wpAny_isInstance hT sub_set_set ?_)
 exact wpAny_pure h
theorem qy6{Q:Value->Shared->Prop}(hT:s.TypeIs (.ref a) "set")(h:Q (.type "set") s):wpAny (model prog w) A (Builtin.Frozenset.baseOf a) Q E s:=by
 unfold Builtin.Frozenset.baseOf
 refine wpAny_bind (wpAny_isInstance hT sub_set_set ?_)
 exact wpAny_pure h
theorem qdw{h:Heap}{x:Obj}{b:Addr}{o:Obj}(e:h.get? b=some o):(h.push x).get? b=some o:=by
 exact Heap.get?_push_of_some x e
theorem SetAt.push(S:SetAt knd s.heap a o es ep t ks)(x:Obj):SetAt knd (s.heap.push x) a o es ep t ks :=
 ⟨qdw S.ho,S.ex,S.hd,S.ok,S.pl,S.es,λp mp=>by
  obtain⟨o2,items,n,g1,g⟩:=S.is p mp
  exact⟨o2,items,n,qdw g1,g⟩,S.nd⟩
theorem fresh_ne{h:Heap}{b:Addr}{o:Obj}(e:h.get? b=some o):b≠h.objs.size:=Nat.ne_of_lt (Heap.lt_size e)
theorem qsz(S:SetAt knd s.heap a oa ea epa ta ka)(hn:ka.length<=1900)(lo:5*ka.length<3*ta.mask){Q:Value->Shared->Prop}
  (h:∀h' o' es' ep' t' ks',Heap.SameBut s.heap.objs.size (s.heap.push (newS (qcl prog w))) h'->SetAt knd h' s.heap.objs.size o' es' ep' t' ks'->SetAt knd h' a oa ea epa ta ka->ks'.Perm ka->t'.led=(qcl prog w&&ta.led)\/t'.led=qcl prog w->5*ks'.length<3*t'.mask->Q (.ref s.heap.objs.size) { s with heap:=h' }):wpAny (model prog w) A (Builtin.Frozenset.copyOf a) Q E s:=by
 unfold Builtin.Frozenset.copyOf
 refine wpAny_bind (qy6 S.typeIs ?_)
 refine wpAny_bind (qtn (knd:=knd) λN=>?_)
 refine wpAny_bind (wpAny_pure ?_)
 have S1:=S.push (newS (qcl prog w))
 have ne:=fresh_ne S.ho
 refine wpAny_bind (qu2 (s:={ s with heap:=s.heap.push (newS (qcl prog w)) }) N S1 ne hn lo (λe=>wpAny_pure ?_) λh' o' es' ep' t' ks' sb R pm le lo'=>wpAny_pure ?_)
 ·exact h _ _ _ _ _ [] (Heap.SameBut.refl ..) N S1 (by rw[e]) (.inr rfl) (by show 5*0<3*7;decide)
 ·exact h h' o' es' ep' t' ks' sb R (S1.but N ne sb) pm (.inl le) lo'
end
end PySem
namespace PySem
open SetTable
section
variable {prog:Program} {w:World} {K:Type} [DecidableEq K] {knd:KeyKind prog w K} {A:Around} {E:Value->Shared->Prop} {s:Shared} {a b d r:Addr}
variable {o oa ob:Obj} {es ea eb:Array (Int×Value)} {ep epa epb:Nat} {t ta tb:SetTable} {ks ka kb:List (List K×Addr)}
theorem SetAt.ext{x:Obj}{h':Heap}(S:SetAt knd s.heap a o es ep t ks)(sb:Heap.SameBut s.heap.objs.size (s.heap.push x) h'):SetAt knd h' a o es ep t ks :=
 ⟨(sb.2 a (fresh_ne S.ho)).trans (qdw S.ho),S.ex,S.hd,S.ok,S.pl,S.es,λp mp=>by
  obtain⟨o2,items,n,g1,g⟩:=S.is p mp
  exact⟨o2,items,n,(sb.2 _ (fresh_ne g1)).trans (qdw g1),g⟩,S.nd⟩
theorem or_T(hu:(tupleKind knd).room A)(Sa:SetAt knd s.heap a oa ea epa ta ka)(Sb:SetAt knd s.heap b ob eb epb tb kb)(ab:a≠b)(lo:5*ka.length<3*ta.mask)(lob:5*kb.length<3*tb.mask)(la:ta.led=qcl prog w)(lb:tb.led=qcl prog w)(hn:ka.length+kb.length<=800)(hstr:∀p∈kb,∀y∈p.1,∀v,knd.is y v=true->∀n,hashByValue n v=pure false){Q:Fin->Shared->Prop}
  (h:∀h' dr o' es' ep' t' ks',Heap.SameBut s.heap.objs.size (s.heap.push (newS (qcl prog w))) h'->SetAt knd h' s.heap.objs.size o' es' ep' t' ks'->(∀k,k∈ks'.map (·.1)↔k∈ka.map (·.1)\/k∈kb.map (·.1))->(ks'.length<=ka.length+kb.length/\∀p∈ks',p∈ka\/p∈kb)->t'.led=qcl prog w->wpAny (model prog w) A (ret (.ref s.heap.objs.size)) Q E { s with heap:=h',drawn:=dr }):wpAny (model prog w) A (Builtin.«frozenset.__or__» ⟨[.ref a,.ref b],[]⟩) Q E s:=by
 refine wpAny_bind (wpAny_bind (wpAny_pure (wpAny_pure ?_)))
 dsimp only
 refine wpAny_bind ?_
 unfold andM
 refine wpAny_bind (ql3 Sa.typeIs ?_)
 refine(ql3 Sb.typeIs ?_)
 simp only[Bool.not_true,Bool.false_eq_true,if_false]
 refine wpAny_bind (wpAny_pure ?_)
 refine wpAny_bind ?_
 refine wpAny_bind (qsz Sa (by lia) lo λh' o' es' ep' t' ks' sb R Sa' pm le lo'=>?_)
 dsimp only
 rw[if_pos (by simpa using Ne.symm ab)]
 refine wpAny_bind (wpAny_pure ?_)
 have Sb':SetAt knd h' b ob eb epb tb kb:=Sb.ext sb
 have br:b≠s.heap.objs.size:=fresh_ne Sb.ho
 have kl:=pm.length_eq
 have le':t'.led=qcl prog w:=by
  rcases le with z|z
  ·rw[z,la,Bool.and_self]
  ·exact z
 have same:∀(s1:Shared) (Q1:Unit->Shared->Prop) (id:String),SetAt knd s1.heap b ob eb epb tb kb->Q1 () s1->wpAny (model prog w) A (Builtin.Frozenset.unchanged id b epb) Q1 E s1:=λs1 Q1 id S1 q=>by
  unfold Builtin.Frozenset.unchanged
  refine wpAny_bind (wpAny_setEpoch_of S1.ho S1.hd S1.fits ?_)
  rw[if_neg (by simp)]
  exact wpAny_pure q
 refine wpAny_bind (wpAny_holding ?_)
 unfold Builtin.Frozenset.updateFrom
 refine wpAny_bind (ql3 (s:={ s with heap:=h' }) (SetAt.typeIs (s:={ s with heap:=h' }) Sb') ?_)
 simp only[if_true]
 refine wpAny_bind (wpAny_pure ?_)
 unfold Builtin.Frozenset.merge
 refine wpAny_bind (wpAny_setEpoch_of (s:={ s with heap:=h' }) Sb'.ho Sb'.hd (SetAt.fits (s:={ s with heap:=h' }) Sb') ?_)
 by_cases e0:ks'=[]
 ·subst e0
  have ka0:ka=[]:=List.length_eq_zero_iff.mp kl.symm
  refine qu2 (s:={ s with heap:=h' }) R Sb' br (by lia) lob (λz=>wpAny_pure ?_) λh2 o2 es2 ep2 t2 ks2 sb2 R2 pm2 le2 lo2=>wpAny_pure ?_
  ·exact h h' s.drawn o' es' ep' t' [] sb R (λk=>by rw[ka0,z];simp) ⟨by simp,λp m=>(by cases m)⟩ le'
  ·exact h h2 s.drawn o2 es2 ep2 t2 ks2 (sb.trans sb2) R2 (λk=>by rw[(pm2.map (·.1)).mem_iff,ka0];simp) ⟨by rw[pm2.length_eq];lia,λp m=>.inr (pm2.mem_iff.mp m)⟩ (by rw[le2,le',lb,Bool.and_self])
 ·refine qwp (s:={ s with heap:=h' }) hu R e0 Sb' br (by lia) hstr (λs1 Q1 S1 q=>same s1 Q1 _ S1 q) λh2 dr2 o2 es2 ep2 t2 ks2 sb2 R2 iff2 len2 le2=>wpAny_pure ?_
  exact h h2 dr2 o2 es2 ep2 t2 ks2 (sb.trans sb2) R2 (λk=>by rw[iff2,(pm.map (·.1)).mem_iff]) ⟨by lia,λp m=>(len2.2 p m).imp pm.mem_iff.mp id⟩ (le2.trans le')
end
end PySem
namespace PySem
open SetTable
section
variable {prog:Program} {w:World} {K:Type} [DecidableEq K] {knd:KeyKind prog w K} {A:Around} {E:Value->Shared->Prop} {s:Shared} {a b d r:Addr}
variable {o:Obj} {es:Array (Int×Value)} {ep:Nat} {t:SetTable} {xs:List (List K×Addr×Value)}
theorem qq7{n:Nat}{Q:String->Shared->Prop}(hT:s.TypeIs (.ref a) "set")(h:∀z,Q z s):wpAny (model prog w) A (typeNameOfCut n (.ref a)) Q E s:=by
 unfold typeNameOfCut shownTypeOf
 refine wpAny_bind (wpAny_bind (wpAny_typeOf hT ?_))
 simp only[show (Value.type "set"==Value.type "builtin_function_or_method")=false by decide,Bool.false_eq_true,if_false]
 refine wpAny_pure ?_
 rw[show typeNameCut n (.type "set")=typeName (.type "set") from rfl]
 unfold typeName
 exact wpAny_pure (h _)
theorem qzm(hu:(tupleKind knd).room A)(S:SetAt knd s.heap a o es ep t [])(D:s.heap.DictOfH (tupleKind knd) d xs)(nd:(d==sysModules)=false)(hx:xs.length<=800)(hstr:∀x∈xs,∀y∈x.1,∀v,knd.is y v=true->∀n,hashByValue n v=pure false){Q:Fin->Shared->Prop}
  (h:∀h' o' es' ep' t' ks',Heap.SameBut a s.heap h'->SetAt knd h' a o' es' ep' t' ks'->ks'.Perm (xs.map λx=>(x.1,x.2.1))->t'.led=t.led->5*ks'.length<3*t'.mask->wpAny (model prog w) A (ret .none) Q E { s with heap:=h' }):wpAny (model prog w) A (Builtin.«set.__init__» ⟨[.ref a,.ref d],[]⟩) Q E s:=by
 have T:=S.tok
 have fl:t.fill=0:=by unfold SetTable.fill;rw[T.sz,T.nd];rfl
 unfold Builtin.«set.__init__»
 refine wpAny_bind (show wpAny (model prog w) A (noKeywords "set" ⟨[.ref a,.ref d],[]⟩) _ E s from wpAny_pure ?_)
 dsimp only
 refine wpAny_bind ?_
 refine qq7 S.typeIs λz=>?_
 refine wpAny_bind (show wpAny (model prog w) A (checkCount z 0 1 1) _ E s from wpAny_pure ?_)
 refine wpAny_bind (wpAny_pure ?_)
 unfold setUsed
 refine wpAny_bind (wpAny_bind (wpAny_setState_of S.ho S.hd S.fits (wpAny_pure ?_)))
 dsimp only
 rw[fl]
 simp only[bne_self_eq_false,Bool.false_eq_true,if_false]
 exact wpAny_bind (qzi "set.__init__" hu S D nd hx hstr λh' o' es' ep' t' ks' sb S' pm le lo=>h h' o' es' ep' t' ks' sb S' pm le lo)
end
end PySem
namespace PySem
open SetTable
section
variable {prog:Program} {w:World} {K:Type} [DecidableEq K] {knd:KeyKind prog w K} {A:Around} {E:Value->Shared->Prop} {s:Shared} {a b d r:Addr} {xs:List (List K×Addr×Value)}
theorem qix(a:Value){Q₁:Value->Shared->Prop}(h:Q₁ (.ref s.heap.objs.size) { s with heap:=s.heap.push (newS (qcl prog w)) }) :
  codeAny (model prog w) A (.call (.builtin "set.__new__") ⟨[.type "set",a],[]⟩) (wants Q₁ E) s:=by
 refine codeAny_of_tree ?_
 show wpAny _ A.in1 (do checkBuiltinCall "set.__new__" ⟨[.type "set",a],[]⟩;again (.builtin "set.__new__" ⟨[.type "set",a],[]⟩)) _ _ s
 refine wpAny_bind (wpAny_of_eq (F.newCall_set_1 a) (wpAny_pure ⟨plainId_quiet F.plain_set_new _,codeAny_builtin F.entry_set_new ?_⟩))
 rw[Around.under_plainId F.plain_set_new _]
 unfold Builtin.«set.__new__» Builtin.Frozenset.newClass
 have hsub:=sub_set_self
 obtain⟨hp,g,d,tk,os⟩:=s
 dsimp only
 wp_walk
 refine wpAny_askSetting (wpAny_pure ?_)
 dsimp only
 simp only[newObj]
 refine wpAny_bind (wpAny_alloc (wpAny_pure ?_))
 exact wpAny_pure h
set_option maxRecDepth 100000 in
set_option maxHeartbeats 3200000 in
theorem qoj(hu:A.units+60<cLine)(D:s.heap.DictOfH (tupleKind knd) d xs)(nd:(d==sysModules)=false)(hx:xs.length<=800)(hstr:∀x∈xs,∀y∈x.1,∀v,knd.is y v=true->∀n,hashByValue n v=pure false){Q:Value->Shared->Prop}
  (h:∀h' o' es' ep' t' ks',Heap.SameBut s.heap.objs.size (s.heap.push (newS (qcl prog w))) h'->SetAt knd h' s.heap.objs.size o' es' ep' t' ks'->ks'.Perm (xs.map λx=>(x.1,x.2.1))->t'.led=qcl prog w->5*ks'.length<3*t'.mask->Q (.ref s.heap.objs.size) { s with heap:=h' }):wpAny (model prog w) A (call (.type "set") [.ref d]) Q E s:=by
 obtain⟨c,tl,hmro⟩:=F.called_set.mro
 have hmade:=F.called_set.made
 have hsub:=F.called_set.sub
 refine wpAny_call (codeAny_of_tree ?_)
 show wpAny _ _ (callAny (.type "set") _) _ _ _
 refine wpAny_pure ⟨Code.quiet_builtin _ (by decide +kernel),codeAny_builtin F.entry_type_call ?_⟩
 rw[Around.under_plain (weight_type_call_type "set" [.ref d] []) rfl]
 have h1:=F.called_set.notType
 have h2:=F.called_set.canCreate
 have hct:=F.typeCall_set_1 (.ref d)
 repeat (any_goals (first|assumption|wp_step))
 refine codeAny_mono (qix (.ref d) (E:=E) (Q₁:=λobj s₁=>∃led:Bool,led=qcl prog w/\obj=.ref s.heap.objs.size/\s₁={ s with heap:=s.heap.push (newS led) }) ⟨_,rfl,rfl,rfl⟩) λr s₁ hr=>?_
 cases r with
|error e=>exact hr
|ok fl =>
  cases fl with
 |ret obj =>
   obtain⟨led,hled,rfl,rfl⟩:=hr
   have hS:(s.heap.push (newS led)).get? s.heap.objs.size=some (newS led):=Heap.get?_push_size _ rfl
   have hT:Shared.TypeIs { s with heap:=s.heap.push (newS led) } (.ref s.heap.objs.size) "set" := ⟨_,hS,rfl⟩
   have hli:=F.called_set.init.lookup
   have hbi:=F.called_set.init.bind (.ref s.heap.objs.size)
   repeat (any_goals (first|assumption|wp_step))
   refine codeAny_mono (codeAny_call_builtin (R:=wants (λr s₂=>r=.none/\∃h' o' es' ep' t' ks',s₂={ s with heap:=h' }/\Heap.SameBut s.heap.objs.size (s.heap.push (newS led)) h'/\SetAt knd h' s.heap.objs.size o' es' ep' t' ks'/\ks'.Perm (xs.map λx=>(x.1,x.2.1))/\t'.led=led/\5*ks'.length<3*t'.mask) E) F.called_set.init.plain F.entry_set_init (check_set_init_1 hT ?_)) λr₂ s₂ hr₂=>?_
   ·have N:SetAt knd (s.heap.push (newS led)) s.heap.objs.size (newS led) #[] 0 (.fresh 0 0 led) []:=⟨hS,⟨rfl,rfl,rfl⟩,rfl,qni _,λ_ p mp=>(by cases mp),rfl,λp mp=>(by cases mp),List.nodup_nil⟩
    have D':(s.heap.push (newS led)).DictOfH (tupleKind knd) d xs:=by
     obtain⟨od,ed,epd,d1,d2,d3,d4,d5,d6⟩:=D
     refine⟨od,ed,epd,qdw d1,d2,d3,d4,λx mx=>?_,d6⟩
     obtain⟨o2,items,n,g1,g⟩:=d5 x mx
     exact⟨o2,items,n,qdw g1,g⟩
    exact qzm (s:={ s with heap:=s.heap.push (newS led) }) (show A.in1.in1.units<cLine by simp only[Around.in1];lia) N D' nd hx hstr λh' o' es' ep' t' ks' sb S' pm le lo=>wpAny_pure ⟨rfl,h',o',es',ep',t',ks',rfl,sb,S',pm,le,lo⟩
   ·cases r₂ with
   |error e=>exact hr₂
   |ok fl₂ =>
     cases fl₂ with
    |ret r =>
      obtain⟨rfl,h',o',es',ep',t',ks',rfl,sb,S',pm,le,lo⟩:=hr₂
      repeat (any_goals (first|assumption|wp_step))
      subst hled
      exact h h' o' es' ep' t' ks' sb S' pm le lo
    |_=>exact hr₂.elim
 |_=>exact hr.elim
end
end PySem
namespace PySem
open SetTable
theorem fills_set_or:fillsNumberSlot (.type "set") "or" = pure true:=by kernel_rfl
theorem qj9:entryFor table "set.__or__" = some Builtin.«frozenset.__or__»:=entryFor_alias (id':="frozenset.__or__") (by kernel_rfl) rfl (by decide +kernel) (by kernel_rfl)
section
variable {prog:Program} {w:World} {K:Type} [DecidableEq K] {knd:KeyKind prog w K} {A:Around} {E:Value->Shared->Prop} {s:Shared} {a b d r:Addr}
variable {o oa ob:Obj} {es ea eb:Array (Int×Value)} {ep epa epb:Nat} {t ta tb:SetTable} {ks ka kb:List (List K×Addr)}
theorem qv5(hu:A.units+60<cLine)(Sa:SetAt knd s.heap a oa ea epa ta ka)(Sb:SetAt knd s.heap b ob eb epb tb kb)(ab:a≠b)(lo:5*ka.length<3*ta.mask)(lob:5*kb.length<3*tb.mask)(la:ta.led=qcl prog w)(lb:tb.led=qcl prog w)(hn:ka.length+kb.length<=800)(hstr:∀p∈kb,∀y∈p.1,∀v,knd.is y v=true->∀n,hashByValue n v=pure false){Q:Value->Shared->Prop}
  (h:∀h' dr o' es' ep' t' ks',Heap.SameBut s.heap.objs.size (s.heap.push (newS (qcl prog w))) h'->SetAt knd h' s.heap.objs.size o' es' ep' t' ks'->(∀k,k∈ks'.map (·.1)↔k∈ka.map (·.1)\/k∈kb.map (·.1))->(ks'.length<=ka.length+kb.length/\∀p∈ks',p∈ka\/p∈kb)->t'.led=qcl prog w->Q (.ref s.heap.objs.size) { s with heap:=h',drawn:=dr }):wpAny (model prog w) A (binaryOp .BitOr (.ref a) (.ref b)) Q E s:=by
 refine wpAny_binaryOp_same Sa.typeIs Sb.typeIs fills_set_or F.slot_set_or (wpAny_call_entry F.slot_set_or Sa.typeIs qj9 ?_ (F.args_set_or_2 _ _))
 refine or_T (show A.in1.units<cLine by simp only[Around.in1];lia) Sa Sb ab lo lob la lb hn hstr λh' dr o' es' ep' t' ks' sb S' iff' len' le'=>?_
 exact wpAny_pure ⟨_,rfl,λz=>(by cases z),h h' dr o' es' ep' t' ks' sb S' iff' len' le'⟩
end
end PySem
namespace PySem
open SetTable Sem
theorem slot_seti_next:Slot "set_iterator" "__next__" "set_iterator.__next__" :=
 .of (owner:="set_iterator") (n:="__next__") (by rw[typeLookup_type,builtinLookup_eq_fast];kernel_rfl) (by decide +kernel) (by decide +kernel) (by decide +kernel)
  (by first|exact .inl (by decide +kernel)|exact .inr (by decide +kernel)) (by rw[isSubtype_type];kernel_rfl)
theorem qcg:entryFor table "set_iterator.__next__" = some Builtin.«set_iterator.__next__»:=entryFor_of_tree (by kernel_rfl)
theorem qc2(a:Value):argsOk "set_iterator.__next__" ⟨[a],[]⟩:=by
 unfold argsOk;kernel_rfl
theorem qfi:Slot "set_iterator" "__iter__" "set_iterator.__iter__" :=
 .of (owner:="set_iterator") (n:="__iter__") (by rw[typeLookup_type,builtinLookup_eq_fast];kernel_rfl) (by decide +kernel) (by decide +kernel) (by decide +kernel)
  (by first|exact .inl (by decide +kernel)|exact .inr (by decide +kernel)) (by rw[isSubtype_type];kernel_rfl)
theorem qg6:entryFor table "set_iterator.__iter__" = some Builtin.«dict_keyiterator.__iter__»:=entryFor_alias (id':="dict_keyiterator.__iter__") (by kernel_rfl) rfl (by decide +kernel) (by kernel_rfl)
theorem qhs(a:Value):argsOk "set_iterator.__iter__" ⟨[a],[]⟩:=by
 unfold argsOk;kernel_rfl
theorem qg5:entryFor table "set.__iter__" = some Builtin.«frozenset.__iter__»:=entryFor_alias (id':="frozenset.__iter__") (by kernel_rfl) rfl (by decide +kernel) (by kernel_rfl)
def RawS(h:Heap)(a:Addr)(es:Array (Int×Value))(ep:Nat)(t:SetTable):Prop:=∃o,h.get? a=some o/\o.data=.set es ep t/\t.fits es.size=true
def SetIt(h:Heap)(I:Addr)(fst:Value)(i:Nat)(a:Addr)(n ep:Nat):Prop:=∃o,h.get? I=some o/\o.cls=.type "set_iterator" /\ o.data=.fields #[fst,.int i 0,.ref a,.int n 0,.int ep 0]
section
variable {prog:Program} {w:World} {A:Around} {E:Value->Shared->Prop} {s:Shared} {a b d r I T:Addr}
variable {o:Obj} {es:Array (Int×Value)} {ep i n:Nat} {t:SetTable} {fst:Value}
theorem RawS.keep{h h':Heap}(x:RawS h a es ep t)(k:∀o,h.get? a=some o->h'.get? a=some o):RawS h' a es ep t:=let ⟨o,h1,r⟩:=x;⟨o,k o h1,r⟩
theorem SetIt.keep{h h':Heap}(x:SetIt h I fst i a n ep)(k:∀o,h.get? I=some o->h'.get? I=some o):SetIt h' I fst i a n ep:=let ⟨o,h1,r⟩:=x;⟨o,k o h1,r⟩
theorem SetIt.typeIs(x:SetIt s.heap I fst i a n ep):s.TypeIs (.ref I) "set_iterator" := let ⟨o,h1,h2,_⟩:=x;⟨o,h1,h2⟩
theorem qkx{Q:Value->Shared->Prop}(x:SetIt s.heap I fst i a n ep)(h:Q (.ref I) s):wpAny (model prog w) A (pyIter (.ref I)) Q E s:=by
 refine wpAny_pyIter_slot x.typeIs qfi (wpAny_call_entry qfi x.typeIs qg6 ?_ (qhs _))
 show wpAny _ _ (ret (.ref I)) _ _ s
 exact wpAny_pure ⟨_,rfl,"set_iterator",_,x.typeIs,slot_seti_next.lookup,h⟩
section
variable {Q:Option Value->Shared->Prop}
theorem qru{f f':Nat}{v:Value}(x:SetIt s.heap I (rawInt f) i a es.size ep)(S:RawS s.heap a es ep t)
  (nx:∀(A:Around) (Q:Option (Value×Nat)->Shared->Prop) (E:Value->Shared->Prop),Q (some (v,f')) s->wpAny (model prog w) A (setNext a f i ep) Q E s)
  (fin:∀h',SetIt h' I (rawInt f') (i+1) a es.size ep->Heap.SameBut I s.heap h'->Q (some v) { s with heap:=h' }):wpAny (model prog w) A (pyNext (.ref I)) Q E s:=by
 have T:=x.typeIs
 obtain⟨oi,g1,g2,g3⟩:=x
 obtain⟨o,h1,h2,h3⟩:=S
 unfold pyNext
 refine wpAny_bind (wpAny_attempt (wpAny_callSpecial?_slot (name:=Str.ofString "__next__") T slot_seti_next (wpAny_call_entry slot_seti_next T qcg (wpAny_bind (wpAny_pure (wpAny_bind (wpAny_fieldsOf g1 g3 ?_)))) (qc2 _))))
 dsimp only[rawInt]
 unfold setEntries
 refine wpAny_bind (wpAny_bind (wpAny_setState_of h1 h2 h3 (wpAny_pure ?_)))
 dsimp only
 rw[if_neg (by simp)]
 simp only[Int.toNat_natCast]
 refine wpAny_bind (nx _ _ _ ?_)
 dsimp only
 refine wpAny_bind (wpAny_setField g1 g3 (by simp) ?_)
 have g1':=Heap.get?_update_self (Obj.mapFields (·.setIfInBounds 0 (rawInt f'))) g1 (Obj.isFreed_of_fields (Obj.data_mapFields g3 _))
 have g3':=Obj.data_mapFields g3 (·.setIfInBounds 0 (rawInt f'))
 refine wpAny_bind (wpAny_setField g1' g3' (by simp) ?_)
 refine wpAny_pure ⟨_,rfl,wpAny_pure (fin _ ⟨_,Heap.get?_update_self _ g1' (Obj.isFreed_of_fields (Obj.data_mapFields g3' _)),?_,?_⟩ ?_)⟩
 ·rw[Obj.cls_mapFields,Obj.cls_mapFields]
  exact g2
 ·rw[Obj.data_mapFields g3']
  simp[rawInt]
 ·exact(Heap.SameBut.update ..).trans (Heap.SameBut.update ..)
theorem qug{f:Nat}(hh:A.handled=none)(x:SetIt s.heap I (rawInt f) i a es.size ep)(S:RawS s.heap a es ep t)
  (nx:∀(A:Around) (Q:Option (Value×Nat)->Shared->Prop) (E:Value->Shared->Prop),Q none s->wpAny (model prog w) A (setNext a f i ep) Q E s)
  (fin:∀h',Heap.ExtBut I s.heap h'->Q none { s with heap:=h' }):wpAny (model prog w) A (pyNext (.ref I)) Q E s:=by
 have T:=x.typeIs
 obtain⟨oi,g1,g2,g3⟩:=x
 obtain⟨o,h1,h2,h3⟩:=S
 unfold pyNext
 refine wpAny_bind (wpAny_attempt (wpAny_callSpecial?_slot (name:=Str.ofString "__next__") T slot_seti_next (wpAny_call_entry slot_seti_next T qcg (wpAny_bind (wpAny_pure (wpAny_bind (wpAny_fieldsOf g1 g3 ?_)))) (qc2 _))))
 dsimp only[rawInt]
 unfold setEntries
 refine wpAny_bind (wpAny_bind (wpAny_setState_of h1 h2 h3 (wpAny_pure ?_)))
 dsimp only
 rw[if_neg (by simp)]
 simp only[Int.toNat_natCast]
 refine wpAny_bind (nx _ _ _ ?_)
 dsimp only
 refine wpAny_bind (wpAny_setField g1 g3 (by simp) ?_)
 show wpAny _ _ (newExc (.type "StopIteration") [] >>= λ_=>_) _ _ _
 refine wpAny_bind ?_
 simp only[newExc,newTuple]
 refine wpAny_bind (wpAny_newObj_type (wpAny_bind (m:=firstArgMember _ _) (wpAny_of_eq (a:=Value.none) (by first|rfl|(simp only[firstArgMember];rfl)) (wpAny_newObj_type ?_ (by size_fits)))) (by size_fits))
 simp only[raiseNew]
 refine(wpAny_bind (wpAny_handled ?_))
 rw[(show A.in1.handled=none from hh)]
 refine(wpAny_bind (wpAny_pure (wpAny_throw ?_)))
 exact wpAny_bind (wpAny_isInstance (T:="StopIteration") (b:=true) ⟨_,Heap.get?_push_size _ rfl,rfl⟩ isSubtype_stop (wpAny_pure (fin _ (((Heap.SameBut.update ..).extBut.push _).push _))))
theorem qpk(hh:A.handled=none)(I a:Addr)(ne:a≠I)(es:Array (Int×Value))(ep:Nat)(t:SetTable)(f:Nat->Nat)(l:List Value)(hl:l.length=es.size)
  (nx:∀(i:Nat) (v:Value),l[i]?=some v->∀(s:Shared) (A:Around) (Q:Option (Value×Nat)->Shared->Prop) (E:Value->Shared->Prop),RawS s.heap a es ep t->Q (some (v,f (i+1))) s->wpAny (model prog w) A (setNext a (f i) i ep) Q E s)
  (nd:∀(s:Shared) (A:Around) (Q:Option (Value×Nat)->Shared->Prop) (E:Value->Shared->Prop),RawS s.heap a es ep t->Q none s->wpAny (model prog w) A (setNext a (f es.size) es.size ep) Q E s) :
  Walks prog w A I [I,a] [I] es.size (λi v=>l[i]?=some v) (λi h=>SetIt h I (rawInt (f i)) i a es.size ep/\RawS h a es ep t) where
 sub:=λb hb=>by
  cases List.mem_singleton.mp hb
  exact List.mem_cons_self ..
 frame:=λ_ _ _ st k=>⟨st.1.keep λo e=>k I (List.mem_cons_self ..) o e,st.2.keep λo e=>k a (by simp) o e⟩
 item:=λi s Q E lt st fin=>by
  have e:l[i]?=some l[i]:=List.getElem?_eq_getElem (by lia)
  exact qru (es:=es) st.1 st.2 (λA Q E q=>nx i _ e s A Q E st.2 q) λh' K' sb=>fin _ h' s.toks e ⟨K',st.2.keep λo z=>sb.extBut a o ne z⟩ λb o nb z=>sb.extBut b o (λy=>nb (by simp[y])) z
 done:=λs Q E st fin=>qug (es:=es) hh st.1 st.2 (λA Q E q=>nd s A Q E st.2 q) λh' x=>fin h' s.toks λb o nb z=>x b o (λy=>nb (by simp[y])) z
 self:=λ_ _ _ _ st q=>qkx st.1 q
end
end
end PySem
namespace PySem
open SetTable Sem
def SeqAt0(h:Heap)(T:Addr)(vs:List Value):Prop:=∃o n,h.get? T=some o/\o.data=.seq vs.toArray n
section
variable {prog:Program} {w:World} {A:Around} {E:Value->Shared->Prop} {s:Shared} {a b d r I T:Addr}
variable {o:Obj} {es:Array (Int×Value)} {ep i n:Nat} {t:SetTable} {fst:Value} {ps:List Nat} {Q:Option Value->Shared->Prop}
theorem SeqAt0.keep{h h':Heap}{vs:List Value}(x:SeqAt0 h T vs)(k:∀o,h.get? T=some o->h'.get? T=some o):SeqAt0 h' T vs:=let ⟨o,n,h1,r⟩:=x;⟨o,n,k o h1,r⟩
def qew(ps:List Nat):List Value:=ps.map λ(i:Nat)=>rawInt i
theorem qo5{j:Nat}{v:Value}(x:SetIt s.heap I (.ref T) i a es.size ep)(S:RawS s.heap a es ep t)(P:SeqAt0 s.heap T (qew ps))(hj:ps[i]?=some j)(hv:es[j]?.map (·.2)=some v)
  (fin:∀h',SetIt h' I (.ref T) (i+1) a es.size ep->Heap.SameBut I s.heap h'->Q (some v) { s with heap:=h' }):wpAny (model prog w) A (pyNext (.ref I)) Q E s:=by
 have TT:=x.typeIs
 obtain⟨oi,g1,g2,g3⟩:=x
 obtain⟨o,h1,h2,h3⟩:=S
 obtain⟨ot,nt,t1,t2⟩:=P
 unfold pyNext
 refine wpAny_bind (wpAny_attempt (wpAny_callSpecial?_slot (name:=Str.ofString "__next__") TT slot_seti_next (wpAny_call_entry slot_seti_next TT qcg (wpAny_bind (wpAny_pure (wpAny_bind (wpAny_fieldsOf g1 g3 ?_)))) (qc2 _))))
 dsimp only[rawInt]
 unfold setEntries
 refine wpAny_bind (wpAny_bind (wpAny_setState_of h1 h2 h3 (wpAny_pure ?_)))
 dsimp only
 rw[if_neg (by simp)]
 simp only[Int.toNat_natCast]
 unfold seqItems?
 refine wpAny_bind (wpAny_bind (wpAny_load t1 ?_))
 rw[t2]
 refine wpAny_pure ?_
 dsimp only
 have ep':(qew ps).toArray[i]?=some (rawInt j):=by
  rw[List.getElem?_toArray]
  unfold qew
  rw[List.getElem?_map,hj]
  rfl
 rw[ep']
 dsimp only[rawInt]
 simp only[Int.toNat_natCast]
 unfold setNextDrawn
 refine wpAny_bind (wpAny_bind (wpAny_setState_of h1 h2 h3 ?_))
 dsimp only
 rw[if_neg (by simp)]
 obtain⟨p,e1,e2⟩:=Option.map_eq_some_iff.mp hv
 refine wpAny_bind (wpAny_pure ?_)
 rw[e1]
 dsimp only
 refine wpAny_pure ?_
 refine wpAny_bind (wpAny_setField g1 g3 (by simp) ?_)
 rw[e2]
 refine wpAny_pure ⟨_,rfl,wpAny_pure (fin _ ⟨_,Heap.get?_update_self _ g1 (Obj.isFreed_of_fields (Obj.data_mapFields g3 _)),?_,?_⟩ ?_)⟩
 ·rw[Obj.cls_mapFields]
  exact g2
 ·rw[Obj.data_mapFields g3]
  simp[rawInt]
 ·exact(Heap.SameBut.update ..)
theorem qrt(hh:A.handled=none)(x:SetIt s.heap I (.ref T) i a es.size ep)(S:RawS s.heap a es ep t)(P:SeqAt0 s.heap T (qew ps))(hj:ps[i]?=none)
  (fin:∀h',Heap.ExtBut I s.heap h'->Q none { s with heap:=h' }):wpAny (model prog w) A (pyNext (.ref I)) Q E s:=by
 have TT:=x.typeIs
 obtain⟨oi,g1,g2,g3⟩:=x
 obtain⟨o,h1,h2,h3⟩:=S
 obtain⟨ot,nt,t1,t2⟩:=P
 unfold pyNext
 refine wpAny_bind (wpAny_attempt (wpAny_callSpecial?_slot (name:=Str.ofString "__next__") TT slot_seti_next (wpAny_call_entry slot_seti_next TT qcg (wpAny_bind (wpAny_pure (wpAny_bind (wpAny_fieldsOf g1 g3 ?_)))) (qc2 _))))
 dsimp only[rawInt]
 unfold setEntries
 refine wpAny_bind (wpAny_bind (wpAny_setState_of h1 h2 h3 (wpAny_pure ?_)))
 dsimp only
 rw[if_neg (by simp)]
 simp only[Int.toNat_natCast]
 unfold seqItems?
 refine wpAny_bind (wpAny_bind (wpAny_load t1 ?_))
 rw[t2]
 refine wpAny_pure ?_
 dsimp only
 have ep':(qew ps).toArray[i]?=none:=by
  rw[List.getElem?_toArray]
  unfold qew
  rw[List.getElem?_map,hj]
  rfl
 rw[ep']
 dsimp only
 refine wpAny_bind (wpAny_setField g1 g3 (by simp) ?_)
 have g1':=Heap.get?_update_self (Obj.mapFields (·.setIfInBounds 0 (rawInt 0))) g1 (Obj.isFreed_of_fields (Obj.data_mapFields g3 _))
 have g3':=Obj.data_mapFields g3 (·.setIfInBounds 0 (rawInt 0))
 refine wpAny_bind (wpAny_setField g1' g3' (by simp) ?_)
 show wpAny _ _ (newExc (.type "StopIteration") [] >>= λ_=>_) _ _ _
 refine wpAny_bind ?_
 simp only[newExc,newTuple]
 refine wpAny_bind (wpAny_newObj_type (wpAny_bind (m:=firstArgMember _ _) (wpAny_of_eq (a:=Value.none) (by first|rfl|(simp only[firstArgMember];rfl)) (wpAny_newObj_type ?_ (by size_fits)))) (by size_fits))
 simp only[raiseNew]
 refine(wpAny_bind (wpAny_handled ?_))
 rw[(show A.in1.handled=none from hh)]
 refine(wpAny_bind (wpAny_pure (wpAny_throw ?_)))
 exact wpAny_bind (wpAny_isInstance (T:="StopIteration") (b:=true) ⟨_,Heap.get?_push_size _ rfl,rfl⟩ isSubtype_stop (wpAny_pure (fin _ ((((Heap.SameBut.update ..).trans (Heap.SameBut.update ..)).extBut.push _).push _))))
theorem qm6(hh:A.handled=none)(I a T:Addr)(ne:a≠I)(nT:T≠I)(es:Array (Int×Value))(ep:Nat)(t:SetTable)(ps:List Nat)(l:List Value)(hl:ps.length=es.size)
  (hv:∀(i j:Nat),ps[i]?=some j->∃v,l[i]?=some v/\es[j]?.map (·.2)=some v) :
  Walks prog w A I [I,a,T] [I] es.size (λi v=>l[i]?=some v) (λi h=>SetIt h I (.ref T) i a es.size ep/\RawS h a es ep t/\SeqAt0 h T (qew ps)) where
 sub:=λb hb=>by
  cases List.mem_singleton.mp hb
  exact List.mem_cons_self ..
 frame:=λ_ _ _ st k=>⟨st.1.keep λo e=>k I (List.mem_cons_self ..) o e,st.2.1.keep λo e=>k a (by simp) o e,st.2.2.keep λo e=>k T (by simp) o e⟩
 item:=λi s Q E lt st fin=>by
  have e:ps[i]?=some ps[i]:=List.getElem?_eq_getElem (by lia)
  obtain⟨v,e1,e2⟩:=hv i _ e
  exact qo5 (es:=es) st.1 st.2.1 st.2.2 e e2 λh' K' sb=>fin _ h' s.toks e1 ⟨K',st.2.1.keep λo z=>sb.extBut a o ne z,st.2.2.keep λo z=>sb.extBut T o nT z⟩ λb o nb z=>sb.extBut b o (λy=>nb (by simp[y])) z
 done:=λs Q E st fin=>qrt (es:=es) hh st.1 st.2.1 st.2.2 (List.getElem?_eq_none (by lia)) λh' x=>fin h' s.toks λb o nb z=>x b o (λy=>nb (by simp[y])) z
 self:=λ_ _ _ _ st q=>qkx st.1 q
end
end PySem
namespace PySem
open SetTable Sem
section
variable {prog:Program} {w:World} {K:Type} [DecidableEq K] {knd:KeyKind prog w K} {A:Around} {E:Value->Shared->Prop} {s:Shared} {a b d r:Addr}
variable {o:Obj} {es:Array (Int×Value)} {ep:Nat} {t:SetTable} {ks:List (List K×Addr)}
theorem SetAt.raw(S:SetAt knd s.heap a o es ep t ks):RawS s.heap a es ep t:=⟨o,S.ho,S.hd,S.fits⟩
theorem SetAt.few(S:SetAt knd s.heap a o es ep t ks)(nd:¬ ((!t.plain&&decide (es.size>1))=true)):es.size<=1:=by
 rcases Nat.lt_or_ge 1 es.size with z|z
 ·exfalso
  have pt:t.plain=true:=by
   cases e:t.plain with
  |true=>rfl
  |false=>exact absurd (by rw[e,decide_eq_true z];rfl) nd
  have sz:=S.size
  have k0:=S.pl pt ks[0] (List.getElem_mem (by lia))
  have k1:=S.pl pt ks[1] (List.getElem_mem (by lia))
  have N:=List.pairwise_iff_getElem.mp S.nd
  have:=N 0 1 (by rw[List.length_map];lia) (by rw[List.length_map];lia) (by decide)
  rw[List.getElem_map,List.getElem_map,k0,k1] at this
  exact this rfl
 ·exact z
theorem qkn{Q:Option (Value×Nat)->Shared->Prop}{f i:Nat}(bt:(model prog w).w.params.followText "set-order" = true)(S:RawS s.heap a es ep t)(q:Q ((((pickOrder ((model prog w).w.params.setOrder a ep) es).toList.map (·.2))[i]?).map λv=>(v,f)) s):wpAny (model prog w) A (setNext a f i ep) Q E s:=by
 obtain⟨o,h1,h2,h3⟩:=S
 unfold setNext
 refine wpAny_bind (wpAny_setState_of h1 h2 h3 ?_)
 dsimp only
 unfold setsByText
 refine wpAny_bind (wpAny_bind (wpAny_askSetting (wpAny_pure ?_)))
 rw[bt]
 simp only[if_true]
 rw[if_neg (by simp)]
 unfold setWalk
 refine wpAny_bind (wpAny_bind (wpAny_setState_of h1 h2 h3 ?_))
 dsimp only
 unfold setsByText
 refine wpAny_bind (wpAny_bind (wpAny_askSetting (wpAny_pure ?_)))
 rw[bt]
 simp only[if_true]
 refine wpAny_bind (wpAny_askSetting (wpAny_pure (wpAny_pure ?_)))
 rw[List.getElem?_map,Array.getElem?_toList] at q
 cases e:(pickOrder ((model prog w).w.params.setOrder a ep) es)[i]? with
|none=>rw[e] at q;exact q
|some x=>rw[e] at q;exact q
theorem qnr{Q:Option (Value×Nat)->Shared->Prop}{f i:Nat}(bt:(model prog w).w.params.followText "set-order" = false)(S:RawS s.heap a es ep t)(nd:¬ ((!t.plain&&decide (es.size>1))=true))(led:t.led=true) (q:Q (match es[SetTable.below t.place f]?,t.place[SetTable.below t.place f]? with
 |some (_,x),some j=>some (x,j+1)
 |  _,_=>none) s):wpAny (model prog w) A (setNext a f i ep) Q E s:=by
 obtain⟨o,h1,h2,h3⟩:=S
 unfold setNext
 refine wpAny_bind (wpAny_setState_of h1 h2 h3 ?_)
 dsimp only
 unfold setsByText
 refine wpAny_bind (wpAny_bind (wpAny_askSetting (wpAny_pure ?_)))
 rw[bt]
 simp only[Bool.false_eq_true,if_false]
 split
 ·rename_i z
  exact absurd z nd
 refine wpAny_bind (show wpAny (model prog w) A (if (!t.led&&!es.isEmpty)=true then _ else Pure.pure ()) _ E s from ?_)
 rw[led]
 simp only[Bool.not_true,Bool.false_and,Bool.false_eq_true,if_false]
 refine wpAny_pure (wpAny_pure ?_)
 exact q
end
end PySem
namespace PySem
open SetTable Sem
section
variable {prog:Program} {w:World} {K:Type} [DecidableEq K] {knd:KeyKind prog w K} {A:Around} {E:Value->Shared->Prop} {s:Shared} {a b d r:Addr}
variable {o:Obj} {es:Array (Int×Value)} {ep:Nat} {t:SetTable} {ks:List (List K×Addr)}
theorem qzr(hh:A.handled=none)(S:SetAt knd s.heap a o es ep t ks)(led:t.led=qcl prog w)(hz:ks.length<=800){Q:Value->Shared->Prop}
  (h:∀(I:Addr) (h':Heap) dr (l:List Value) (fp:List Addr) (St:Nat->Heap->Prop),l.Perm (es.toList.map (·.2))->(∀b o,s.heap.get? b=some o->h'.get? b=some o)->(∀b∈fp,b=a\/s.heap.objs.size<=b)->s.heap.objs.size<=I ->
   Walks prog w A I fp [I] es.size (λi v=>l[i]?=some v) St->St 0 h'->Q (.ref I) { s with heap:=h',drawn:=dr }):wpAny (model prog w) A (pyIter (.ref a)) Q E s:=by
 have hT:=S.typeIs
 have sz:=S.size
 have lt:a<s.heap.objs.size:=Heap.lt_size S.ho
 refine wpAny_pyIter_slot hT F.slot_set_iter (wpAny_call_entry F.slot_set_iter hT qg5 ?_ (F.args_set_iter_1 _))
 unfold Builtin.«frozenset.__iter__»
 refine wpAny_bind (wpAny_bind (wpAny_pure (wpAny_pure ?_)))
 dsimp only
 unfold Builtin.Frozenset.sizeOf setEntries
 refine wpAny_bind (wpAny_bind (wpAny_bind (wpAny_setState_of S.ho S.hd S.fits (wpAny_pure (wpAny_pure ?_)))))
 dsimp only
 unfold setDrawn
 refine wpAny_bind (wpAny_bind (wpAny_setState_of S.ho S.hd S.fits ?_))
 dsimp only
 unfold setsByText
 refine wpAny_bind (wpAny_bind (wpAny_askSetting (wpAny_pure (wpAny_pure ?_))))
 have slow:∀(f:Nat->Nat) (l:List Value),f 0=0->l.Perm (es.toList.map (·.2)) ->
   (∀(i:Nat) (v:Value),l[i]?=some v->∀(s:Shared) (A:Around) (Q:Option (Value×Nat)->Shared->Prop) (E:Value->Shared->Prop),RawS s.heap a es ep t->Q (some (v,f (i+1))) s->wpAny (model prog w) A (setNext a (f i) i ep) Q E s) ->
   (∀(s:Shared) (A:Around) (Q:Option (Value×Nat)->Shared->Prop) (E:Value->Shared->Prop),RawS s.heap a es ep t->Q none s->wpAny (model prog w) A (setNext a (f es.size) es.size ep) Q E s) ->
   Q (.ref s.heap.objs.size) { s with heap:=s.heap.push { cls:=.type "set_iterator",data:=.fields #[rawInt 0,.int 0 0,.ref a,.int es.size 0,.int ep 0] } }:=λf l f0 hp nx nd=>by
  have hl:l.length=es.size:=by rw[hp.length_eq];simp
  refine h s.heap.objs.size _ s.drawn l _ _ hp (λb o e=>Heap.get?_push_of_some _ e) (λb hb=>?_) (Nat.le_refl _) (qpk hh s.heap.objs.size a (Nat.ne_of_lt lt) es ep t f l hl nx nd) ⟨⟨_,Heap.get?_push_size _ rfl,rfl,?_⟩,S.raw.keep λo e=>Heap.get?_push_of_some _ e⟩
  ·rcases List.mem_cons.mp hb with z|z
   ·exact .inr (by rw[z];exact Nat.le_refl _)
   ·exact .inl (List.mem_singleton.mp z)
  ·rw[f0]
   rfl
 cases bt:(model prog w).w.params.followText "set-order" with
|true =>
  simp only[Bool.not_true,Bool.false_and,Bool.false_eq_true,if_false]
  refine wpAny_bind (wpAny_pure ?_)
  unfold setEpoch
  refine wpAny_bind (wpAny_bind (wpAny_setState_of S.ho S.hd S.fits (wpAny_pure ?_)))
  dsimp only
  refine wpAny_bind (wpAny_newObj_type (wpAny_pure ⟨_,rfl,"set_iterator",_,⟨_,Heap.get?_push_size _ rfl,rfl⟩,slot_seti_next.lookup,?_⟩))
  have hp:((pickOrder ((model prog w).w.params.setOrder a ep) es).toList.map (·.2)).Perm (es.toList.map (·.2)):=by
   refine List.Perm.map _ ?_
   unfold pickOrder
   have:=qhk ((model prog w).w.params.setOrder a ep) es.size 0 es.toList #[] (by simp)
   simpa using this
  refine slow (λ_=>0) _ rfl hp (λi v e s A Q E R q=>qkn bt R ?_) λs A Q E R q=>qkn bt R ?_
  ·rw[e]
   exact q
  ·rw[List.getElem?_eq_none (by rw[hp.length_eq];simp)]
   exact q
|false =>
  have led':t.led=true:=by
   rw[led]
   unfold qcl
   rw[bt]
   rfl
  by_cases dn:(!t.plain&&decide (es.size>1))=true
  ·rw[if_pos (by rw[Bool.not_false,Bool.true_and];exact dn)]
   refine wpAny_bind (qg4 _ _ _ _ (by simp) λps dr hp=>?_)
   have hpl:ps.length=es.size:=by rw[hp.length_eq];simp
   refine wpAny_bind (wpAny_newTuple ?_ (by rw[List.length_map,hpl,sz];exact Nat.le_trans hz (by decide)))
   generalize eh:Heap.push _ _=h1
   have e1:h1.get? s.heap.objs.size=some { cls:=.type "tuple",data:=.seq (qew ps).toArray }:=by
    rw[←eh]
    exact Heap.get?_push_size _ rfl
   have k1:∀b o,s.heap.get? b=some o->h1.get? b=some o:=λb o e=>by
    rw[←eh]
    exact Heap.get?_push_of_some _ e
   have n1:h1.objs.size=s.heap.objs.size+1:=by rw[←eh,PyProof.Rows.size_push']
   unfold setEpoch
   refine wpAny_bind (wpAny_bind (wpAny_setState_of (s:={ s with heap:=h1,drawn:=dr }) (k1 _ _ S.ho) S.hd S.fits (wpAny_pure ?_)))
   dsimp only
   refine wpAny_bind (wpAny_newObj_type (wpAny_pure ⟨_,rfl,"set_iterator",_,⟨_,Heap.get?_push_size _ rfl,rfl⟩,slot_seti_next.lookup,?_⟩))
   have pr:∀j,j∈ps↔j<es.size:=λj=>by rw[hp.mem_iff];simp
   refine h h1.objs.size _ dr (ps.map λj=>(es.toList.map (·.2)).getD j Value.none) _ _ ?_ (λb o e=>Heap.get?_push_of_some _ (k1 b o e)) (λb hb=>?_) (by lia) (qm6 hh h1.objs.size a s.heap.objs.size (by lia) (by lia) es ep t ps _ hpl λi j e=>?_) ⟨⟨_,Heap.get?_push_size _ rfl,rfl,rfl⟩,S.raw.keep λo e=>Heap.get?_push_of_some _ (k1 _ o e),⟨_,_,Heap.get?_push_of_some _ e1,rfl⟩⟩
   ·have:=hp.map λj=>(es.toList.map (·.2)).getD j Value.none
    refine this.trans (List.Perm.of_eq ?_)
    apply List.ext_getElem
    ·simp
    ·intro i h1 h2
     have h2':i<es.size:=by simpa using h2
     simp[List.getD_eq_getElem?_getD,h2']
   ·rcases List.mem_cons.mp hb with z|z
    ·exact .inr (by lia)
    rcases List.mem_cons.mp z with z|z
    ·exact .inl z
    ·exact .inr (by rw[List.mem_singleton.mp z];exact Nat.le_refl _)
   ·have lj:j<es.size:=(pr j).mp (List.mem_of_getElem? e)
    refine⟨_,by rw[List.getElem?_map,e];rfl,?_⟩
    simp[List.getD_eq_getElem?_getD,lj]
  ·rw[if_neg (by rw[Bool.not_false,Bool.true_and];exact dn)]
   refine wpAny_bind (wpAny_pure ?_)
   unfold setEpoch
   refine wpAny_bind (wpAny_bind (wpAny_setState_of S.ho S.hd S.fits (wpAny_pure ?_)))
   dsimp only
   refine wpAny_bind (wpAny_newObj_type (wpAny_pure ⟨_,rfl,"set_iterator",_,⟨_,Heap.get?_push_size _ rfl,rfl⟩,slot_seti_next.lookup,?_⟩))
   have few:=S.few dn
   have ps:t.place.size=es.size:=by rw[S.tok.sz,sz]
   refine slow (λi=>if i=0 then 0 else (t.place.getD 0 0)+1) _ rfl (List.Perm.refl _) (λi v e s A Q E R q=>qnr bt R dn led' ?_) λs A Q E R q=>qnr bt R dn led' ?_
   ·have li:i<es.size:=by
     have:=(List.getElem?_eq_some_iff.mp e).1
     simpa using this
    have i0:i=0:=by lia
    subst i0
    have e1:es.size=1:=by lia
    have p1:t.place.size=1:=by lia
    obtain⟨pl,ep⟩:∃p,t.place=#[p]:=Array.size_eq_one_iff.mp p1
    obtain⟨x,ex⟩:∃x,es=#[x]:=Array.size_eq_one_iff.mp e1
    subst ex
    rw[ep] at q ⊢
    have ev:x.2=v:=by simpa using e
    rw[←ev] at q
    exact q
   ·rcases Nat.eq_zero_or_pos es.size with z|z
    ·have e0:es=#[]:=Array.size_eq_zero_iff.mp z
     have p0:t.place=#[]:=Array.size_eq_zero_iff.mp (by lia)
     subst e0
     rw[p0]
     exact q
    ·have e1:es.size=1:=by lia
     obtain⟨pl,ep⟩:∃p,t.place=#[p]:=Array.size_eq_one_iff.mp (by lia)
     obtain⟨x,ex⟩:∃x,es=#[x]:=Array.size_eq_one_iff.mp e1
     subst ex
     rw[ep]
     have:SetTable.below #[pl] (pl+1)=1:=by
      unfold SetTable.below
      simp[SetTable.below.go]
     show Q (match #[x][SetTable.below #[pl] (pl+1)]?,#[pl][SetTable.below #[pl] (pl+1)]? with
     |some (_,x),some j=>some (x,j+1)
     |  _,_=>none) s
     rw[this]
     exact q
end
end PySem
namespace PySem
open SetTable Sem Calls PyProof.Rows PyProof.V PySem.Spec
section
variable {prog:Program} {w:World} {K:Type} [DecidableEq K] {knd:KeyKind prog w K} {A:Around} {E:Value->Shared->Prop} {s:Shared} {a b d r:Addr}
variable {o:Obj} {es:Array (Int×Value)} {ep:Nat} {t:SetTable} {ks:List (List K×Addr)}
theorem qs8{Q:Bool->Shared->Prop}(hT:s.TypeIs (.ref r) "set")(h:Q false s):wpAny (model prog w) A (Builtin.List.listLengthHint (.ref r)) Q E s:=by
 unfold Builtin.List.listLengthHint
 refine wpAny_bind (wpAny_specialOf hT PySem.F.slot_set_len.lookup ?_)
 generalize hid:("set.__len__" : String)=id0
 wp_delta
 rw[show splitId id0=some ("set","__len__") from by subst hid;decide +kernel]
 subst hid
 refine wpAny_bind (wpAny_isInstance (T:="set") (b:=true) hT (by rw[isSubtype_type];kernel_rfl) ?_)
 refine wpAny_ite_split (λhab=>absurd hab (by decide)) (λ_=>?_)
 refine wpAny_ite_split (λ_=>?_) (λhab=>absurd (by decide +kernel) hab)
 refine wpAny_bind (wpAny_typeOf hT ?_)
 exact wpAny_pure h
theorem qoq{l:List Value}{acc:Array Value}{n:Nat}(h:ItemsOf (λi v=>l[i]?=some v) acc n)(hl:l.length=n):acc.toList=l:=by
 apply List.ext_getElem
 ·rw[Array.length_toList,h.1,hl]
 ·intro i h1 h2
  have:l[i]?=some acc[i]:=h.2 i acc[i] (by simp at h1;simp[h1])
  rw[List.getElem?_eq_getElem h2] at this
  simpa using (Option.some.inj this).symm
theorem qs5{R:Result->Shared->Prop}(hh:A.handled=none)(S:SetAt knd s.heap a o es ep t ks)(led:t.led=qcl prog w)(hz:ks.length<=800)(L:Addr)(hLa:L≠a)(res:Value)(c₀:Nat)(hS:s.heap.get? L=some { cls:=.type "list",data:=.seq #[] c₀ })
  (hR:∀h' tk dr acc' c',(∀b o,b≠L->s.heap.get? b=some o->h'.get? b=some o)->h'.get? L=some { cls:=.type "list",dict:=none,data:=.seq acc' c',slots:=#[] }->acc'.toList.Perm (es.toList.map (·.2))->R (.ok (.ret res)) { s with heap:=h',toks:=tk,drawn:=dr }) :
  wpAny (model prog w) A.in1 (Builtin.List.listExtendWith (.ref L) (.ref a) res)
   (λfin s'=>match fin with|.done f=>R (.ok f) s'|.again c'=>c'.quiet=true/\codeAny (model prog w) A c' R s') (λe s'=>R (.error e) s') s:=by
 have lt:L<s.heap.objs.size:=Heap.lt_size hS
 have sz:=S.size
 unfold Builtin.List.listExtendWith
 refine wpAny_bind (wpAny_typeOf (T:="set") S.typeIs ?_)
 have h1:Builtin.List.listSameRef (.ref L) (.ref a)=false:=by simp[Builtin.List.listSameRef,hLa]
 have h2:(Value.type "set"==Value.type "list")=false:=by decide
 have h3:(Value.type "set"==Value.type "tuple")=false:=by decide
 simp only[h1,h2,h3,Bool.or_false,Bool.false_eq_true,if_false]
 refine wpAny_bind (qzr (A:=A.in1) hh S led hz λI h' dr l fp St hp k fpa hI W st=>?_)
 have hl:l.length=es.size:=by rw[hp.length_eq];simp
 have hSf:L∉fp:=λz=>by
  rcases fpa L z with y|y
  ·exact hLa y
  ·lia
 have key:∀(h:Heap) (c₁ tk:Nat),St 0 h->(∀b o,b≠L->s.heap.get? b=some o->h.get? b=some o) ->
   h.get? L=some { cls:=.type "list",data:=.seq #[] c₁ }->codeAny (model prog w) A (.builtin "list.extend.loop" ⟨[.ref L,.ref I,res],[]⟩) R { s with heap:=h,toks:=tk,drawn:=dr }:=by
  intro h c₁ tk hst hk hS₁
  refine codeAny_extend_loopS W.toS (by rw[sz];exact Nat.le_trans hz (by decide)) L hSf res es.size 0 _ #[] c₁ rfl (Nat.zero_le _) hst hS₁ (ItemsOf.nil _) λs' acc' c' hm hS' hacc=>?_
  rw[Moved.eq_with hm]
  refine hR s'.heap s'.toks dr acc' c' (λb o hb e=>hm.heap b o (λhmem=>?_) (hk b o hb e)) hS' (by rw[qoq hacc hl];exact hp)
  rcases List.mem_cons.mp hmem with e'|hmem
  ·exact hb e'
  ·have:=Heap.lt_size e
   rw[List.mem_singleton.mp hmem] at this
   lia
 have hS₁:=k _ _ hS
 have hT1:Shared.TypeIs { s with heap:=h',drawn:=dr } (.ref a) "set" := by
  obtain⟨o1,q1,q2⟩:=S.typeIs
  exact⟨o1,k _ _ q1,q2⟩
 refine wpAny_bind (wpAny_holding (qs8 (s:={ s with heap:=h',drawn:=dr }) hT1 ?_))
 refine wpAny_ite_split (λ_=>?_) (λ_=>wpAny_pure ⟨plainId_quiet PySem.F.plain_extend_loop _,key _ c₀ _ st (λb o _ e=>k _ _ e) hS₁⟩)
 refine wpAny_bind (wpAny_rule ?_)
 refine wpAny_bind ?_
 show wpAny _ _ (updateSeq L (·.push .none) >>= λ_=>updateSeq L (·.pop)) _ _ _
 refine wpAny_bind (wpAny_updateSeq (s:={ s with heap:=h',drawn:=dr }) hS₁ rfl ?_)
 have hS₂:=Heap.get?_update_self (Obj.mapSeq (·.push Value.none)) hS₁ rfl
 refine wpAny_updateSeq (hz:=by seq_fits) hS₂ rfl ?_
 have hS₃:=Heap.get?_update_self (Obj.mapSeq (·.pop)) hS₂ rfl
 refine wpAny_pure ⟨plainId_quiet PySem.F.plain_extend_loop _,key _ _ _ ?_ (λb o hb e=>?_) hS₃⟩
 ·refine W.frame 0 _ _ st λb hb o e=>?_
  have hbS:b≠L:=λh=>hSf (h▸hb)
  exact(Heap.get?_update_other _ _ (Ne.symm hbS)).trans ((Heap.get?_update_other _ _ (Ne.symm hbS)).trans e)
 ·exact(Heap.get?_update_other _ _ (Ne.symm hb)).trans ((Heap.get?_update_other _ _ (Ne.symm hb)).trans (k _ _ e))
theorem qp4{R:List Value->Shared->Prop}(hh:A.handled=none)(S:SetAt knd s.heap a o es ep t ks)(led:t.led=qcl prog w)(hz:ks.length<=800)
  (h:∀(h':Heap) (tk:Nat) dr (acc:Array Value),(∀b o,s.heap.get? b=some o->h'.get? b=some o)->acc.toList.Perm (es.toList.map (·.2))->R acc.toList { s with heap:=h',toks:=tk,drawn:=dr }) :
  wpAny (model prog w) A (collect (.ref a)) R E s:=by
 have lt:a<s.heap.objs.size:=Heap.lt_size S.ho
 unfold collect
 refine wpAny_bind (wpAny_runValue (codeAny_builtin entry_proto_collect' ?_))
 rw[Around.under_plainId PySem.F.plain_proto_collect _]
 show wpAny _ A.in1 (newList [] >>= λl=>again (.builtin "list.__iadd__" ⟨[l,.ref a],[]⟩)) _ _ s
 refine wpAny_bind (wpAny_newObj_type ?_)
 refine wpAny_pure ⟨plainId_quiet PySem.F.plain_list_iadd _,codeAny_builtin entry_list_iadd' ?_⟩
 rw[Around.under_plainId PySem.F.plain_list_iadd _]
 have hS₁:(s.heap.push { cls:=.type "list",data:=.seq ([]:List Value).toArray }).get? s.heap.objs.size=some { cls:=.type "list",data:=.seq #[] }:=Heap.get?_push_size _ rfl
 show wpAny _ A.in1 (Builtin.List.listExtendWith (.ref s.heap.objs.size) (.ref a) (.ref s.heap.objs.size)) _ _ _
 have key:=qs5 (A:=A) (s:={ s with heap:=s.heap.push { cls:=.type "list",data:=.seq ([]:List Value).toArray } })
  (R:=λ(q:Result) (s':Shared)=>∃(h':Heap) (tk:Nat) (dr:_) (acc':Array Value) (c':Nat),q=.ok (.ret (.ref s.heap.objs.size))/\s'={ s with heap:=h',toks:=tk,drawn:=dr } /\
   (∀b o,s.heap.get? b=some o->h'.get? b=some o)/\h'.get? s.heap.objs.size=some { cls:=.type "list",dict:=none,data:=.seq acc' c',slots:=#[] }/\acc'.toList.Perm (es.toList.map (·.2)))
  hh (S.push _) led hz s.heap.objs.size (Nat.ne_of_gt lt) (.ref s.heap.objs.size) 0 hS₁
  (λh' tk dr acc' c' hk hS' hacc=>⟨h',tk,dr,acc',c',rfl,rfl,λb o e=>hk b o (Nat.ne_of_lt (Heap.lt_size e)) (Heap.get?_push_of_some _ e),hS',hacc⟩)
 refine wpAny_mono key (λfin s' x=>?_) λe s' x=>?_
 ·cases fin with
 |done f =>
   obtain⟨h',tk,dr,acc',c',e,rfl,hk,hS',hacc⟩:=x
   cases e
   show wpAny _ A (load s.heap.objs.size >>= _) _ _ _
   refine wpAny_bind (wpAny_load hS' ?_)
   exact wpAny_pure (h h' tk dr acc' hk hacc)
 |again c₁ =>
   refine⟨x.1,codeAny_mono x.2 λq s₂ y=>?_⟩
   obtain⟨h',tk,dr,acc',c',rfl,rfl,hk,hS',hacc⟩:=y
   show wpAny _ A (load s.heap.objs.size >>= _) _ _ _
   refine wpAny_bind (wpAny_load hS' ?_)
   exact wpAny_pure (h h' tk dr acc' hk hacc)
 ·obtain⟨_,_,_,_,_,e',_⟩:=x
  cases e'
end
end PySem
namespace L2
open PySem PySem.Spec PyProof.Rows
theorem qtv{α β:Type}(f:α->β){l m:List β}(h:l.Perm m):∀k:List α,m=k.map f->∃k':List α,k'.Perm k/\l=k'.map f:=by
 induction h with
|nil=>exact λk e=>⟨k,List.Perm.refl _,e⟩
|cons x p ih =>
  intro k e
  cases k with
 |nil=>cases e
 |cons y k =>
   rw[List.map_cons] at e
   obtain⟨k',p',e'⟩:=ih k (List.cons.inj e).2
   exact⟨y::k',p'.cons _,by rw[List.map_cons,←e',(List.cons.inj e).1]⟩
|swap x y l =>
  intro k e
  match k,e with
 |a::b::k,e =>
   have e1:x=f a:=(List.cons.inj e).1
   have e2:y=f b:=(List.cons.inj (List.cons.inj e).2).1
   have e3:l=k.map f:=(List.cons.inj (List.cons.inj e).2).2
   exact⟨b::a::k,.swap ..,by rw[e1,e2,e3];rfl⟩
|trans p q ih1 ih2 =>
  intro k e
  obtain⟨k1,p1,e1⟩:=ih2 k e
  obtain⟨k2,p2,e2⟩:=ih1 k1 e1
  exact⟨k2,p2.trans p1,e2⟩
theorem qss:∀kp:List (List Key×Addr),(∀p∈kp,∃w,p.1=wK w)->∃ws:List (List Str),kp.map (·.1)=ws.map wK
|[],_=>⟨[],rfl⟩
|p::kp,h=>by
  obtain⟨w,e⟩:=h p (List.mem_cons_self ..)
  obtain⟨ws,es⟩:=qss kp λq hq=>h q (List.mem_cons_of_mem _ hq)
  exact⟨w::ws,by rw[List.map_cons,List.map_cons,e,es]⟩
section
variable {X:Cx} {pins:List (Addr×Obj)} {σ:St} {H:Hp} {s:Shared} {E:Value->Shared->Prop} {a b:Addr} {kvs lvs:List (List Key×V)} {ks ls:List (List Str)}
theorem Inv.drawn(I:Inv X pins σ H s)(d:_):Inv X pins σ H { s with drawn:=d }:=⟨I.ok,I.os,I.bare,I.base,I.loc,I.cell,I.free,I.freeC,I.pin,I.hok,I.len⟩
theorem qnj(w:List Str):∀y∈wK w,∀v,(qbi X.prog X.w).is y v=true->∀n,hashByValue n v=pure false:=λy hy v hv n=>by
 obtain⟨z,_,rfl⟩:=List.mem_map.mp hy
 rcases qbh (k:=Sum.inr z) hv with ⟨i,t,e,_⟩|⟨x,t,_,rfl⟩
 ·cases e
 ·cases n<;>rfl
theorem qzh(I:Inv X pins σ H s)(hu:X.A.units+60<cLine)(e:Rd H a (.dT kvs))(hk:kvs.map (·.1)=ks.map wK)(hl:ks.length<=800){Q:Value->Shared->Prop}
  (h:∀h' o' es' ep' t' kk,(∀b o,s.heap.get? b=some o->h'.get? b=some o)->SetAt (qbi X.prog X.w) h' s.heap.objs.size o' es' ep' t' kk->(∀p∈kk,∃w∈ks,p.1=wK w/\H p.2=some (.tup (w.map V.str)))->(∀w∈ks,wK w∈kk.map (·.1))->kk.length=ks.length ->
   t'.led=qcl X.prog X.w->5*kk.length<3*t'.mask->Q (.ref s.heap.objs.size) { s with heap:=h' }):wpAny (model X.prog X.w) X.A (call (.type "set") [.ref a]) Q E s:=by
 obtain⟨z,no,xs,kt,D⟩:=qi1 I.hok e
 have len:xs.length=ks.length:=by
  rw[←Paired.length kt]
  simpa using congrArg List.length hk
 have at_:∀x∈xs,∃w∈ks,x.1=wK w/\H x.2.1=some (.tup (w.map V.str)):=λx hx=>by
  obtain⟨i,hi⟩:=List.mem_iff_getElem?.mp hx
  obtain⟨kv,hkv,e1,e2,_⟩:=qfq kt hi
  have e3:(kvs.map (·.1))[i]?=(ks.map wK)[i]?:=by rw[hk]
  rw[List.getElem?_map,hkv,List.getElem?_map] at e3
  obtain⟨w,ew,e4⟩:=Option.map_eq_some_iff.mp e3.symm
  have e5:wK w=kv.1:=e4
  refine⟨w,List.mem_of_getElem? ew,by rw[←e1,e5],?_⟩
  rw[e2,←e5,qm2]
 refine qoj hu D no (by lia) (λx hx=>?_) λh' o' es' ep' t' kk sb S pm le lo=>?_
 ·obtain⟨w,_,e1,_⟩:=at_ x hx
  rw[e1]
  exact qnj w
 ·refine h h' o' es' ep' t' kk (λb o eb=>(sb.2 b (fresh_ne eb)).trans (qdw eb)) S (λp hp=>?_) (λw hw=>?_) (by rw[pm.length_eq,List.length_map,len]) le lo
  ·obtain⟨x,hx,rfl⟩:=List.mem_map.mp (pm.mem_iff.mp hp)
   exact at_ x hx
  ·rw[(pm.map (·.1)).mem_iff,List.map_map]
   have:wK w∈kvs.map (·.1):=by rw[hk];exact List.mem_map.mpr ⟨w,hw,rfl⟩
   obtain⟨kv,hkv,e1⟩:=List.mem_map.mp this
   obtain⟨i,hi⟩:=List.mem_iff_getElem?.mp hkv
   have li:=(List.getElem?_eq_some_iff.mp hi).1
   have lx:i<xs.length:=by rw[←Paired.length kt];exact li
   obtain⟨kv',hkv',e2,_⟩:=qfq kt (List.getElem?_eq_getElem lx)
   rw[hi] at hkv'
   cases hkv'
   exact List.mem_map.mpr ⟨xs[i],List.getElem_mem lx,by rw[←e1];exact e2.symm⟩
theorem qzz{i:Nat}{x:Str}{pos:Pos}{v:V}{Q:Value->Shared->Prop}(I:Inv X pins σ H s)(e:σ[i]?=some (some v))(h:∀u,RelV v u->Q u s)(hN:X.N[i]?=some x)(hv:Vis X.env.scope x)(hd:(x==("__debug__" : Str))=false:=by decide)(hcd:(x==("__classdict__" : Str))=false:=by decide) :
  wpAny (model X.prog X.w) X.A (eval (.Name x pos) X.env) Q E s:=by
 obtain⟨m,hn,hl⟩:=I.loc
 obtain⟨u,r,l⟩:=hl i x v hN e hv
 have fin:=h u r
 rcases l with ⟨hk,hm⟩|⟨hk,c,hc,hcell⟩
 ·exact wpAny_Name (wpAny_loadName_local I.ok.kind hk hn hm fin) hd
 ·rcases hk with hk|hk
  ·exact wpAny_Name (wpAny_loadName_cell I.ok.kind hk hc hcell fin) hd
  ·exact wpAny_Name (wpAny_loadName_free I.ok.kind hk hc hcell fin hcd) hd
theorem qvr{e:Expr}{pos:Pos}(he:qa3 e=true){Q:List Value->Shared->Prop}{M:Model}{A:Around}{env:Env}(h:wpAny M A (eval e env) (λu s1=>Q [u] s1) E s):wpAny M A (spliced (backTo pos (starEach [e] env))) Q E s:=by
 rw[qbn he]
 show wpAny _ _ (spliced ((false,eval e env)::backTo pos (starEach [] env))) _ _ s
 exact Calls.spliced_cons (thn h λu s1 q=>Calls.spliced_nil q)
theorem qu7{i:Nat}{x:Str}{p p2 pos:Pos}(I:Inv X pins σ H s)(hu:X.A.units+60<cLine)(hg:Gl X "set")(hm:X.mg "set" = none)(hb:bootBuiltins "set" = some (.type "set"))(ei:σ[i]?=some (some (.ref a)))(hN:X.N[i]?=some x)(hv:Vis X.env.scope x)
  (hd:(x==("__debug__" : Str))=false) (hcd:(x==("__classdict__" : Str))=false) (e:Rd H a (.dT kvs)) (hk:kvs.map (·.1)=ks.map wK) (hl:ks.length<=800) {Q:Value->Shared->Prop}
  (h:∀h' o' es' ep' t' kk,(∀b o,s.heap.get? b=some o->h'.get? b=some o)->SetAt (qbi X.prog X.w) h' s.heap.objs.size o' es' ep' t' kk->(∀p∈kk,∃w∈ks,p.1=wK w/\H p.2=some (.tup (w.map V.str)))->(∀w∈ks,wK w∈kk.map (·.1))->kk.length=ks.length ->
   t'.led=qcl X.prog X.w->5*kk.length<3*t'.mask->Q (.ref s.heap.objs.size) { s with heap:=h' }):wpAny (model X.prog X.w) X.A (eval (.Call (.Name "set" p) [.Name x p2] [] pos) X.env) Q E s:=by
 refine wpAny_Call_Name_kw (qhd I hg hm hb ?_)
 refine PyProof.Rows.callWith_type1 (qvr rfl (qzz I ei (λu r=>?_) hN hv hd hcd)) (qbn rfl) rfl
 cases r
 exact qzh I hu e hk hl h
end
end L2
namespace L2
open PySem PySem.Spec PyProof.Rows
def q3c(i j:Nat):TE:=λσ H Q=>∃x y kvs lvs,∃ks ls:List (List Str),σ[i]?=some (some (.ref x))/\σ[j]?=some (some (.ref y))/\Rd H x (.dT kvs)/\Rd H y (.dT lvs)/\kvs.map (·.1)=ks.map wK/\lvs.map (·.1)=ls.map wK/\ks.length+ls.length<=60 /\
 ∀(l:Addr) (bs:List Addr) (ws:List (List Str)),H l=none->bs.length=ws.length->(∀(m:Nat) (b:Addr) (w:List Str),bs[m]?=some b->ws[m]?=some w->H b=some (.tup (w.map V.str)))->(∀w,w∈ws↔w∈ks\/w∈ls)->ws.Pairwise (λv w=>ltW v w=true) ->
  Q (.ref l) (upd H l (.lst (bs.map V.ref)))
section
variable {X:Cx} {pins:List (Addr×Obj)} {σ:St} {H:Hp} {s:Shared} {E:Value->Shared->Prop} {a b:Addr} {ks ls:List (List Str)}
theorem qui(I:Inv X pins σ H s)(hu:X.A.units+60<cLine)(hh:X.A.handled=none){o:Obj}{es:Array (Int×Value)}{ep:Nat}{t:SetTable}{kk:List (List Key×Addr)}(S:SetAt (qbi X.prog X.w) s.heap a o es ep t kk)(led:t.led=qcl X.prog X.w)(hz:kk.length<=60)
  (hp:∀p∈kk,∃w,p.1=wK w/\H p.2=some (.tup (w.map V.str))) {Q:VK}
  (h:∀(l:Addr) (bs:List Addr) (ws:List (List Str)),H l=none->bs.length=ws.length->(∀(m:Nat) (b:Addr) (w:List Str),bs[m]?=some b->ws[m]?=some w->H b=some (.tup (w.map V.str)))->(∀w,w∈ws↔wK w∈kk.map (·.1))->ws.Pairwise (λv w=>ltW v w=true)->Q (.ref l) (upd H l (.lst (bs.map V.ref)))) :
  wpAny (model X.prog X.w) X.A (call (.builtin "sorted") [.ref a]) (EP X pins σ Q) E s:=by
 have un:X.A.in1.units=X.A.units+1:=rfl
 have un2:X.A.in1.in1.units=X.A.units+2:=rfl
 refine Calls.call_function_entry kind_sorted plain_sorted entry_sorted (args_sorted1 _) ?_
 unfold Builtin.«sorted»
 refine wpAny_bind (m:=checkCount "sorted" 1 1 _) (wpAny_pure ?_)
 refine wpAny_bind (qp4 (A:=X.A.in1) hh S led (by lia) λh1 tk dr acc k1 ap=>?_)
 rw[S.es,List.map_map] at ap
 obtain⟨kp,pk,ea⟩:=qtv (λp:List Key×Addr=>Value.ref p.2) ap kk (by rfl)
 obtain⟨ws,ew⟩:=qss kp λp m=>by
  obtain⟨w,e,_⟩:=hp p (pk.mem_iff.mp m)
  exact⟨w,e⟩
 have lw:kp.length=ws.length:=by simpa using congrArg List.length ew
 have lz:acc.toList.length<=sizeLine:=by
  rw[ea,List.length_map,pk.length_eq]
  exact Nat.le_trans hz (by decide)
 have ndw:ws.Nodup:=by
  have n1:(kp.map (·.1)).Nodup:=((pk.map (·.1)).nodup_iff).mpr S.nd
  rw[ew] at n1
  rw[List.nodup_iff_pairwise_ne,List.pairwise_map] at n1
  rw[List.nodup_iff_pairwise_ne]
  exact n1.imp λz e=>z (by rw[e])
 have key:∀(m:Nat) (b:Addr) (w:List Str),(kp.map (·.2))[m]?=some b->ws[m]?=some w->H b=some (.tup (w.map V.str)):=λm b w e1 e2=>by
  rw[List.getElem?_map] at e1
  obtain⟨p,e3,e4⟩:=Option.map_eq_some_iff.mp e1
  obtain⟨w',e5,e6⟩:=hp p (pk.mem_iff.mp (List.mem_of_getElem? e3))
  have e7:(kp.map (·.1))[m]?=(ws.map wK)[m]?:=by rw[ew]
  rw[List.getElem?_map,e3,List.getElem?_map,e2] at e7
  have e8:p.1=wK w:=Option.some.inj e7
  rw[←e4,e6,qhq (e5.symm.trans e8)]
 have rp:Reps X.K H (ws.map λw=>.tup (w.map D.str)) ((kp.map (·.2)).map V.ref):=qfr (B:=H) (by rw[List.length_map];exact lw) key
 have rel:∀bs:List Addr,Vals (bs.map V.ref) (bs.map Value.ref):=λbs=>by
  induction bs with
 |nil=>exact .nil
 |cons b bs ih=>exact .cons rfl ih
 have ev:acc.toList=(kp.map (·.2)).map Value.ref:=by rw[ea,List.map_map];rfl
 have I1:Inv X pins σ H { s with heap:=h1,toks:=tk,drawn:=dr }:=(I.kept (t':=tk) k1).drawn dr
 have v:Vals ((kp.map (·.2)).map V.ref) acc.toList:=by rw[ev];exact rel _
 generalize hbs:kp.map (·.2)=bs at key rp v
 have lb:bs.length=ws.length:=by rw[←hbs,List.length_map];exact lw
 have la:acc.toList.length=bs.length:=by rw[ev,hbs,List.length_map]
 refine wpAny_bind (wpAny_newList ?_ lz)
 generalize e2:Heap.push _ _=h2
 have hD:h2.get? h1.objs.size=some (seqObj "list" acc.toList.toArray 0):=by rw[←e2];exact Heap.get?_push_size _ rfl
 have k2:∀b o,h1.get? b=some o->h2.get? b=some o:=λb o q=>by rw[←e2];exact Heap.get?_push_of_some _ q
 show wpAny (model X.prog X.w) X.A.in1 (do let _ ←holding [Value.ref h1.objs.size] (call (.builtin "list.sort") [.ref h1.objs.size]);ret (.ref h1.objs.size)) _ E { s with heap:=h2,toks:=tk,drawn:=dr }
 refine wpAny_bind (wpAny_holding (wpAny_call_entry (s:={ s with heap:=h2,toks:=tk,drawn:=dr }) slot_list_sort ⟨_,hD,rfl⟩ entry_list_sort ?_ (args_list_sort _)))
 refine qq2 (s:={ s with heap:=h2,toks:=tk,drawn:=dr }) (H:=H) (σ:=σ) (pins:=pins) (X:=X) (ds:=ws.map wayD) hD (λh' kp=>?_) rp v (qeb ndw) (by have:=pk.length_eq;lia) (by lia) λq h' m hqp hqs kp' he=>⟨_,rfl,?_⟩
 ·exact I1.kept (t':=tk) λb o e=>kp b o (Nat.ne_of_lt (Heap.lt_size e)) (k2 b o e)
 ·have hql:q.length=ws.length:=by
   have:=hqp.length_eq
   simpa using this
  have hqm:∀i∈q,i<ws.length:=λi hi=>by simpa using hqp.mem_iff.mp hi
  have e1:(q.map λi=>(bs.map V.ref).getD i .non)=(q.map λi=>bs.getD i 0).map V.ref:=by
   rw[List.map_map]
   refine List.map_congr_left λi hi=>?_
   have:=hqm i hi
   simp[List.getD_eq_getElem?_getD,show i<bs.length by lia]
  have hr:((List.range ws.length).map λi=>ws.getD i [])=ws:=by
   apply List.ext_getElem
   ·simp
   ·intro i h1 h2
    simp[List.getD_eq_getElem?_getD,h2]
  have hw:(q.map λi=>ws.getD i []).Perm ws:=by
   have:=hqp.map λi=>ws.getD i []
   rw[List.length_map,hr] at this
   exact this
  refine wpAny_pure ⟨_,rfl,.ref h1.objs.size,upd H h1.objs.size (.lst ((q.map λi=>bs.getD i 0).map V.ref)),?_,rfl,h _ _ (q.map λi=>ws.getD i []) (I1.hok.fresh (Nat.le_refl _)) (by simp) (λm b w e3 e4=>?_) (λw=>?_) ?_⟩
  ·have I3:Inv X pins σ (upd H h1.objs.size (.lst ((q.map λi=>bs.getD i 0).map V.ref))) { s with heap:=h',toks:=tk,drawn:=dr }:=by
    refine Inv.laid (t':=tk) I1 (λb o e=>kp' b o (Nat.ne_of_lt (Heap.lt_size e)) (k2 b o e)) (Nat.le_refl _) ⟨?_,_,m,?_,he⟩
    ·rw[List.length_map,List.length_map,hql,←lb,←la]
     exact lz
    ·rw[←e1]
     exact v.pick q λi hi=>by rw[List.length_map,lb];exact hqm i hi
   exact I3
  ·rw[List.getElem?_map] at e3 e4
   obtain⟨i,hi,e5⟩:=Option.map_eq_some_iff.mp e3
   rw[hi] at e4
   have e6:ws.getD i []=w:=Option.some.inj e4
   have li:=hqm i (List.mem_of_getElem? hi)
   refine key i b w ?_ ?_
   ·rw[←e5]
    simp[List.getD_eq_getElem?_getD,show i<bs.length by lia]
   ·rw[←e6]
    simp[List.getD_eq_getElem?_getD,li]
  ·rw[hw.mem_iff,←(pk.map (·.1)).mem_iff,ew]
   exact⟨λm=>List.mem_map.mpr ⟨w,m,rfl⟩,λm=>by
    obtain⟨w',m',e'⟩:=List.mem_map.mp m
    rw[←qhq e']
    exact m'⟩
  ·have st:(q.map λi=>(ws.map wayD).getD i .non)=(q.map λi=>ws.getD i []).map wayD:=by
    rw[List.map_map]
    refine List.map_congr_left λi hi=>?_
    have:=hqm i hi
    simp[List.getD_eq_getElem?_getD,this]
   have ss:((q.map λi=>ws.getD i []).map wayD).Pairwise (λa b=>ltD a b=true):=by
    rw[←st,List.pairwise_map]
    exact hqs
   rw[List.pairwise_map] at ss
   exact ss.imp λz=>by rw[qeh] at z;exact z
end
end L2
namespace L2
open PySem PySem.Spec PyProof.Rows
section
variable {X:Cx} {EX:St->XK} {x y:Str} {i j:Nat} {p1 p2 p3 p4 p5 p6 p7 p8 p9:Pos}
theorem qxb(hu64:X.A.units+64<cLine)(hh:X.A.handled=none)(hg:Gl X "sorted")(hm:X.mg "sorted" = none)(hb:bootBuiltins "sorted" = some (.builtin "sorted"))(hgS:Gl X "set")(hmS:X.mg "set" = none)(hbS:bootBuiltins "set" = some (.type "set"))
  (hN:X.N[i]?=some x) (hv:Vis X.env.scope x) (hN2:X.N[j]?=some y) (hv2:Vis X.env.scope y) (hd:(x==("__debug__" : Str))=false) (hcd:(x==("__classdict__" : Str))=false) (hd2:(y==("__debug__" : Str))=false) (hcd2:(y==("__classdict__" : Str))=false) :
  PE X (.Call (.Name "sorted" p1) [.BinOp (.Call (.Name "set" p2) [.Name x p3] [] p4) .BitOr (.Call (.Name "set" p5) [.Name y p6] [] p7) p8] [] p9) (q3c i j):=by
 intro pins s σ H Q I h
 have hu:X.A.units+60<cLine:=by lia
 obtain⟨ax,ay,kvs,lvs,ks,ls,ei,ej,dx,dy,hk,hl,few,hq⟩:=h
 refine wpAny_Call_Name_kw (qhd I hg hm hb ?_)
 refine PyProof.Rows.callWith_builtin1 (qvr rfl ?_) (qbn rfl) rfl
 refine wpAny_BinOp (qu7 I hu hgS hmS hbS ei hN hv hd hcd dx hk (by lia) λh1 o1 es1 ep1 t1 kk1 k1 S1 sub1 all1 len1 led1 lo1=>?_)
 have I1:Inv X pins σ H { s with heap:=h1 }:=I.kept (t':=s.toks) k1
 refine qu7 I1 hu hgS hmS hbS ej hN2 hv2 hd2 hcd2 dy hl (by lia) λh2 o2 es2 ep2 t2 kk2 k2 S2 sub2 all2 len2 led2 lo2=>?_
 have I2:Inv X pins σ H { s with heap:=h2 }:=I1.kept (t':=s.toks) k2
 have S1':SetAt (qbi X.prog X.w) h2 s.heap.objs.size o1 es1 ep1 t1 kk1:=⟨k2 _ _ S1.ho,S1.ex,S1.hd,S1.ok,S1.pl,S1.es,λp mp=>by
  obtain⟨w,_,e1,e2⟩:=sub1 p mp
  rw[e1]
  exact qhc I2.hok (by rw[qm2];exact e2),S1.nd⟩
 have ne:s.heap.objs.size≠h1.objs.size:=Nat.ne_of_lt (Heap.lt_size S1.ho)
 refine qv5 (s:={ s with heap:=h2 }) hu S1' S2 ne lo1 lo2 led1 led2 (by lia) (λp mp=>?_) λh3 dr o3 es3 ep3 t3 kk3 sb S3 iff3 ⟨len3,sub3⟩ led3=>?_
 ·obtain⟨w,_,e1,_⟩:=sub2 p mp
  rw[e1]
  exact qnj w
 have k3:∀b o,h2.get? b=some o->h3.get? b=some o:=λb o e=>(sb.2 b (fresh_ne e)).trans (qdw e)
 have I3:Inv X pins σ H { s with heap:=h3,drawn:=dr }:=(I2.kept (t':=s.toks) k3).drawn dr
 refine qui I3 hu hh S3 led3 (by lia) (λp mp=>?_) λl bs ws hl' lb key iff' st=>hq l bs ws hl' lb key (λw=>?_) st
 ·rcases sub3 p mp with m|m
  ·obtain⟨w,_,e1,e2⟩:=sub1 p m
   exact⟨w,e1,e2⟩
  ·obtain⟨w,_,e1,e2⟩:=sub2 p m
   exact⟨w,e1,e2⟩
 ·rw[iff',iff3]
  refine or_congr ⟨λm=>?_,all1 w⟩ ⟨λm=>?_,all2 w⟩
  ·obtain⟨p,mp,e⟩:=List.mem_map.mp m
   obtain⟨w',m',e1,_⟩:=sub1 p mp
   rw[qhq (e.symm.trans e1)]
   exact m'
  ·obtain⟨p,mp,e⟩:=List.mem_map.mp m
   obtain⟨w',m',e1,_⟩:=sub2 p mp
   rw[qhq (e.symm.trans e1)]
   exact m'
def qpc(i j:Nat):TV:=λτ Q=>match τ[i]?,τ[j]? with
|some (some (.val (.dT ks _))),some (some (.val (.dT ls _)))=>ks.length+ls.length<=60/\∀ws:List (List Str),(∀w,w∈ws↔w∈ks\/w∈ls)->ws.Pairwise (λv w=>ltW v w=true)->Q (.own (.lst (ws.map wayD)))
|_,_=>False
theorem qyo(hu64:X.A.units+64<cLine)(hh:X.A.handled=none)(hg:Gl X "sorted")(hm:X.mg "sorted" = none)(hgS:Gl X "set")(hmS:X.mg "set" = none)
  (hN:X.N[i]?=some x:=by rfl) (hN2:X.N[j]?=some y:=by rfl) (hv:Vis X.env.scope x:=by first|exact Or.inl rfl|exact Or.inr (Or.inl rfl)|exact Or.inr (Or.inr rfl)) (hv2:Vis X.env.scope y:=by first|exact Or.inl rfl|exact Or.inr (Or.inl rfl)|exact Or.inr (Or.inr rfl))
  (hb:bootBuiltins "sorted" = some (.builtin "sorted"):=by exact PyProof.Rows.Boot.«sorted») (hbS:bootBuiltins "set" = some (.type "set"):=by exact PyProof.Rows.Boot.«set»)
  (hd:(x==("__debug__" : Str))=false:=by decide) (hcd:(x==("__classdict__" : Str))=false:=by decide) (hd2:(y==("__debug__" : Str))=false:=by decide) (hcd2:(y==("__classdict__" : Str))=false:=by decide) :
  VE X EX (.Call (.Name "sorted" p1) [.BinOp (.Call (.Name "set" p2) [.Name x p3] [] p4) .BitOr (.Call (.Name "set" p5) [.Name y p6] [] p7) p8] [] p9) (qpc i j):=by
 refine⟨_,⟨qxb hu64 hh hg hm hb hgS hmS hbS hN hv hN2 hv2 hd hcd hd2 hcd2⟩,λH0 B H τ σ Q Qd s S h _ k=>?_⟩
 unfold qpc at h
 split at h
 ·rename_i ks ds ls es e1 e2
  obtain⟨few,h⟩:=h
  obtain⟨v1,f1,r1⟩:=S.val i _ e1
  obtain⟨v2,f2,r2⟩:=S.val j _ e2
  have q1:Pk X.K B H (.val (.dT ks ds)) v1:=r1
  have q2:Pk X.K B H (.val (.dT ls es)) v2:=r2
  obtain⟨a1,kvs,rfl,d1,k1,_⟩:=q1.dT s rfl
  obtain⟨a2,lvs,rfl,d2,k2,_⟩:=q2.dT s rfl
  refine⟨a1,a2,kvs,lvs,ks,ls,f1,f2,d1,d2,k1,k2,few,λl bs ws hl hlen key iff' st=>?_⟩
  have T:=Stp.tups s bs λb hm=>by
   obtain⟨m,hm⟩:=List.mem_iff_getElem?.mp hm
   have lm:=(List.getElem?_eq_some_iff.mp hm).1
   exact⟨_,key m b _ hm (List.getElem?_eq_getElem (by lia))⟩
  have hlB:(λa=>if a∈bs then H a else B a) l=none:=by
   show (if l∈bs then H l else B l)=none
   split
   ·exact hl
   ·exact s.free hl
  refine k (.own (.lst (ws.map wayD))) _ _ _ (T.trans (.grow T.s (qax hl (.lst (bs.map V.ref))))) ⟨l,rfl,hl,hlB,qbz (qfr hlen λm b w h1 h2=>?_)⟩ (h ws iff' st)
  show (if b∈bs then H b else B b)=_
  rw[if_pos (List.mem_of_getElem? h1)]
  exact key m b w h1 h2
 ·exact h.elim
end
end L2
namespace PySem
open Calls PyProof.Rows PyProof.V PySem.Spec
section
variable {prog:Program} {w:World} {A:Around} {E:Value->Shared->Prop} {s:Shared} {R:Result->Shared->Prop} {I:Addr} {fp wr:List Addr} {n:Nat} {P:Nat->Value->Prop} {St:Nat->Heap->Prop} {s0:Shared}
end
end PySem
namespace L2
open PySem PySem.Spec PyProof.Rows
theorem qq4(a:List Str):ltW a a=false:=by
 cases h:ltW a a with
|false=>rfl
|true=>exact(qid h).symm.trans h |>.symm▸rfl
section
variable {X:Cx} {EX:St->XK} {K:PySem.W.Frag} {B H:Hp}
end
end L2
namespace PySem
open Calls PyProof.Rows PyProof.V PySem.Spec
section
variable {prog:Program} {w:World} {A:Around} {E:Value->Shared->Prop} {s:Shared} {a b:Addr}
end
end PySem
namespace L2
open PySem PySem.Spec PyProof.Rows
section
variable {X:Cx} {EX:St->XK}
end
end L2
namespace L2
open PySem PySem.Spec PyProof.Rows
section
variable {X:Cx} {EX:St->XK} {K:PySem.W.Frag} {e:Expr} {es:List Expr} {te:TV} {tA:TVA} {x:Str} {p pos:Pos}
def RfAN(K:PySem.W.Frag)(EX:St->XK)(te:TA)(t:TVA)(k:Nat):Prop:=∀(H0 B H:Hp) (τ:VSt) (σ:St) (Q:List V->Hp->Prop) (Qd:AR->Prop),Same B H->Slots K H0 B H τ σ->t τ Qd->(∀n C B' H',Stp B H B' H'->clsOf K n C->Qd (.exc n)->EX σ (.ref C) none H') ->
 (∀ds vs B' H' c,Stp B H B' H'->k<=vs.length->H c=none->B' c=none->H' c=some (.lst [])->Reps K B' ds vs->Qd (.ok ds)->Q (vs.insertIdx k (.ref c)) H')->te σ H Q
structure VAN(X:Cx)(EX:St->XK)(es:List Expr)(t:TVA)(k:Nat):Prop where
 u:∃te,QA X es te/\RfAN X.K EX te t k
end
end L2
namespace L2
open PySem PySem.Spec PyProof.Rows
section
variable {X:Cx} {EX:St->XK} {pins:List (Addr×Obj)} {σ:St} {H:Hp} {s:Shared}
end
end L2
namespace L2
open PySem PySem.Spec PyProof.Rows
section
variable {X:Cx} {EX:St->XK} {pos pos':Pos} {x:Str} {e:Expr} {te:TV}
def qpb(i:Nat)(te:TV):TVS:=λDv τ=>match τ[i]? with
|some (some (.val (.int n)))=>te τ λr=>match r with
 |.val (.int m)=>Dv.nx (τ.set i (some (.val (.int (n-m)))))
 |_=>False
|_=>False
theorem qys{i:Nat}(hN:X.N.Nodup)(hi:X.N[i]?=some x)(hx:Loc X.env.scope x)(h:VE X EX e te)(hf:X.fn x=true\/X.env.scope.names.lookup x=some .local:=by first|exact .inl rfl|exact .inr rfl|assumption):VS X EX (.AugAssign (.Name x pos') .Sub e pos) (qpb i te) :=
 let ⟨_,a1,a2⟩:=h.u;⟨_,q09 hN hi hx a1 qzn hf,λB0 H0 B H τ σ Dv Dh p S h E=>by
  unfold qpb at h
  split at h
  ·rename_i n en
   obtain⟨v,q,r⟩:=S.val i _ en
   unfold Rep at r
   subst r
   refine⟨_,q,a2 H0 B H τ σ _ _ p.s S h (xno λ_ q=>q) λr v B' H' q' hr hq=>?_⟩
   split at hq
   ·rename_i m
    have hr':Rep X.K B' (.int m) v:=hr
    unfold Rep at hr'
    subst hr'
    exact⟨n,m,rfl,rfl,E.nx B' H' _ _ (p.trans q') ((S.step q').setVal i (by unfold Rep;rfl)) hq⟩
   ·exact hq.elim
  ·exact h.elim⟩
end
end L2
set_option maxHeartbeats 4000000
namespace K29
open PySem L2
local macro_rules|`(tactic| simp! only[$xs,*])=>`(tactic| simp only[vSeq,vIfS,vBl,vOp,vLt,vLe,vGt,vGe,vI2',vI2,vVar,vF1,vLen,qk4,qfu,qsa,vStr,vRet,qmz,qym,vIxR,qbb,vC,vAdd,vSub,vMul,vDiv,vMod,vPow,vEq,vNe,qcn,vSlR,qbv,qcz,vNeg,qyk,qan,qad,vNil,vTup,vLst,vSet,qfg,qek,ownL,qpb,qpc,vFor,qgk,qr9,qcm,qf6,qft,isTy,qff,qds,vOrT,qr7,qk3,vOrE,vIfE,vAsg,qbj,qyp,qsg,qyq,vFrz,qjr,frz,qyl,vAll,qr6,vIsN,qio,qa8,dV,scal,qrl,qrk,qmp,qrj,qmn,qmm,qqn,qqm,qlz,qql,qlu,qlt,qi3,qls,qly,qlx,qi4,qlw,qqj,qg7,qqk,qlv,qme,qjd,qr8,vTry,VEnds.calm,VEnds.wiped,qf7,vDIn,qip,qfj,qf8,ownT,qel,qmy,qrr,qk5,qpd,vStR,vNeD,vIn,strsOf,qf5,Option.map_some,List.map_cons,List.map_nil,List.length_cons,List.length_nil,List.cons_append,List.nil_append,List.getElem?_cons_zero,List.getElem?_cons_succ,List.set_cons_zero,List.set_cons_succ,List.replicate_succ,List.replicate_zero,Nat.reduceSub,Nat.reduceAdd,if_true,if_false,ite_true,ite_false,Bool.not_true,Bool.not_false,decide_true,decide_false,eq_int,eq_str,qp3,qln,qqd,qqe,true_and,and_true,Nat.zero_le,List.take_succ_cons,List.take_zero,reduceIte,Bool.false_eq_true,eq_self,List.length_map,V.int.injEq,V.str.injEq,CDiv,Int.reduceLT,Int.zero_add,and_self,List.cons.injEq,D.scr.injEq,D.int.injEq,D.str.injEq,D.tup.injEq,D.lst.injEq,D.bl.injEq,and_assoc,exists_and_left,exists_eq_left,exists_eq_left',qfl,qhh,qn2,qn1,qng,qp0,qiz,Int.reduceLE,Int.le_refl,qn6,qj8,qpx,qm8,Option.some.injEq,$xs,*])
local macro_rules|`(tactic| dsimp! only[$xs,*])=>`(tactic| ((try dsimp only[vIfS,vBl,vOp,vLt,vLe,vGt,vGe,vI2',vI2,vVar,vF1,vLen,qk4,qfu,qsa,vStr,vRet,qmz,qym,vIxR,qbb,vC,vAdd,vSub,vMul,vDiv,vMod,vPow,vEq,vNe,qcn,vSlR,qbv,qcz,vNeg,qyk,qan,qad,vNil,vTup,vLst,vSet,qfg,qek,ownL,qpb,qpc,vFor,qgk,qr9,qcm,qf6,qft,isTy,qff,qds,vOrT,qr7,qk3,vOrE,vIfE,vAsg,qbj,qyp,qsg,qyq,vFrz,qjr,frz,qyl,vAll,qr6,vIsN,qio,qa8,dV,scal,qrl,qrk,qmp,qrj,qmn,qmm,qqn,qqm,qlz,qql,qlu,qlt,qi3,qls,qly,qlx,qi4,qlw,qqj,qg7,qqk,qlv,qme,qjd,qr8,vTry,VEnds.calm,VEnds.wiped,qf7,vDIn,qip,qfj,qf8,ownT,qel,qmy,qrr,qk5,qpd,vStR,vNeD,vIn,strsOf,Option.map_some,List.map_cons,List.map_nil,List.length_cons,List.length_nil,List.cons_append,List.nil_append,List.getElem?_cons_zero,List.getElem?_cons_succ,List.set_cons_zero,List.set_cons_succ,List.take_succ_cons,List.take_zero,CDiv,$xs,*]);(try simp only[vIfS,vBl,vOp,vLt,vLe,vGt,vGe,vI2',vI2,vVar,vF1,vLen,qk4,qfu,qsa,vStr,vRet,qmz,qym,vIxR,qbb,vC,vAdd,vSub,vMul,vDiv,vMod,vPow,vEq,vNe,qcn,vSlR,qbv,qcz,vNeg,qyk,qan,qad,vNil,vTup,vLst,vSet,qfg,qek,ownL,qpb,qpc,vFor,qgk,qr9,qcm,qf6,qft,isTy,qff,qds,vOrT,qr7,qk3,vOrE,vIfE,vAsg,qbj,qyp,qsg,qyq,vFrz,qjr,frz,qyl,vAll,qr6,vIsN,qio,qa8,dV,scal,qrl,qrk,qmp,qrj,qmn,qmm,qqn,qqm,qlz,qql,qlu,qlt,qi3,qls,qly,qlx,qi4,qlw,qqj,qg7,qqk,qlv,qme,qjd,qr8,vTry,VEnds.calm,VEnds.wiped,qf7,vDIn,qip,qfj,qf8,ownT,qel,qmy,qrr,qk5,qpd,vStR,vNeD,vIn,strsOf,qf5,Option.map_some,List.map_cons,List.map_nil,List.length_cons,List.length_nil,List.cons_append,List.nil_append,List.getElem?_cons_zero,List.getElem?_cons_succ,List.set_cons_zero,List.set_cons_succ,List.replicate_succ,List.replicate_zero,Nat.reduceSub,Nat.reduceAdd,if_true,if_false,ite_true,ite_false,Bool.not_true,Bool.not_false,decide_true,decide_false,eq_int,eq_str,qp3,qln,qqd,qqe,true_and,and_true,Nat.zero_le,List.take_succ_cons,List.take_zero,reduceIte,Bool.false_eq_true,eq_self,List.length_map,V.int.injEq,V.str.injEq,CDiv,Int.reduceLT,Int.zero_add,and_self,List.cons.injEq,D.scr.injEq,D.int.injEq,D.str.injEq,D.tup.injEq,D.lst.injEq,D.bl.injEq,and_assoc,exists_and_left,exists_eq_left,exists_eq_left',qfl,qhh,qn2,qn1,qng,qp0,qiz,Int.reduceLE,Int.le_refl,qn6,qj8,qpx,qm8,Option.some.injEq,$xs,*])))
local macro_rules | `(tactic| rfl')=>`(tactic| dsimp! only [true_and])
local macro_rules | `(tactic| ac_rfl)=>`(tactic| simp! only [true_and])
def NS:Str:="abcdefghijklmnopqrstuvwxyz0123456789"
def qok(ns:List Int)(k:Int):Int:=(ns[k.toNat]?).getD 0
def qbk:DP:=λds Q=>∃ns k,ds=[.scr ns,.int k]/\0<=k/\Q (.val (.int (qok ns k)))
theorem ql4:∀ds Q,qbk ds Q->ds.length=2:=by rintro ds Q ⟨_,_,rfl,_⟩;rfl
def qam:DP:=λds Q=>∃c t m,ds=[.int c,.int t,.int m]/\0<=t/\0<m/\∀i,0<=i->i<m->(t=0->i=(c%10 ^ 18+1)*48271%99991%m)->Q (.val (.int i))
theorem qqz:∀ds Q,qam ds Q->ds.length=3:=by rintro ds Q ⟨_,_,_,rfl,_⟩;rfl
def qbl:DP:=λds Q=>∃c v,ds=[.int c,.int v]/\0<=c/\c<10 ^ 19/\0<=v/\∀z:Str,1<=z.length->z.length<=12->Q (.val (.str z))
theorem ql6:∀ds Q,qbl ds Q->ds.length=2:=by rintro ds Q ⟨_,_,rfl,_⟩;rfl
abbrev En(Q:R->Prop):VEnds:={ nx:=λ_=>Q (.val .non),rt:=Q }
def qdg:DP:=λds Q=>∃c,ds=[.int c]/\∀t:Str,Q (.val (.str t))
theorem qki:∀ds Q,qdg ds Q->ds.length=1:=by rintro ds Q ⟨_,rfl,_⟩;rfl
def PS94:Str:=(" !\"#$&'()*+,-./0123456789:;<=>?@ABCDEFGHIJKLMNOPQRSTUVWXYZ[\\]^_`" : Str)++("abcdefghijklmnopqrstuvwxyz{|}~" : Str)
theorem q0t:PS94.length=94:=by decide +kernel
theorem qks:∀ {es:List D},(∀e∈es,∃c∈PS94.cps.toList,e=.str ⟨#[c]⟩)->∃ls:List Nat,es=(ls.map λc=>(⟨#[c]⟩:Str)).map D.str/\(∀c∈ls,c∈PS94.cps.toList)/\ls.length=es.length
|[],_=>⟨[],rfl,λc m=>(by cases m),rfl⟩
|e::es,h=>by
  obtain⟨ls,h1,h2,h3⟩:=qks λx m=>h x (List.mem_cons_of_mem e m)
  obtain⟨c,mc,ec⟩:=h e (List.mem_cons_self ..)
  exact⟨c::ls,by rw[List.map_cons,List.map_cons,←h1,ec],λx m=>(List.mem_cons.mp m).elim (λq=>q▸mc) (h2 x),by rw[List.length_cons,List.length_cons,h3]⟩
theorem qnu:∀ls:List Nat,((ls.map λc=>(⟨#[c]⟩:Str)).map (·.length)).sum=ls.length
|[]=>rfl
|c::ls=>by
  rw[List.map_cons,List.map_cons,List.sum_cons,qnu ls,List.length_cons]
  show 1+ls.length=_
  omega
def qch:DP:=λds Q=>∃m c s v,ds=[.str m,.int c,.int s,.int v]/\0<=s/\s<10 ^ 19/\0<v/\∀z:Str,(m≠qc6->m≠qdm->z=qdb)->Q (.val (.str z))
theorem ql8:∀ds Q,qch ds Q->ds.length=4:=by rintro ds Q ⟨_,_,_,_,rfl,_⟩;rfl
theorem qbf:10000<=sizeLine:=by decide
def qbe:DP:=λds Q=>∃rs w,ds=[qap (rs.map prR),wayD w]/\("" : Str)∉w/\w.length<=1000/\Q (.val (.bl (qc8 rs w)))
def PFS(p:List Row):Prop:=∀r∈p,r.1=[]\/r.1.dropLast=[]\/∃q∈p,q.1=r.1.dropLast/\FS q.2.1
theorem qzl{p:List Row}{w:List Str}(h:qbt p w=false):qc8 p w=false:=by
 unfold qbt at h
 unfold qc8
 rw[List.any_eq_false] at h ⊢
 intro k hk q
 have e:=of_decide_eq_true q
 have:=h k hk
 rw[e] at this
 exact this (by decide +kernel)
structure SPn(n:Nat)(p:List Row):Prop where
 ok:PaneOk p
 fs:PFS p
 nm:∀r∈p,Wy14 r.1
 ns:∀r∈p,r.2.1=qa2->qc8 p r.1=false
 len:p.length<=n
def NoRt(rs:List Row):Prop:=∀r∈rs,r.1≠[]
theorem qk2{n:Nat}{p:List Row}(h:PaneOk p/\(∀r∈p,Wy14 r.1)/\bulk p<=n/\p.length<=n+1/\∀r∈p,r.2.1=qa6\/r.2.1=qa2->qbt p r.1=false)(nr:NoRt p):TreeOk p:=⟨h.1.so,λr hr=>⟨nr r hr,(h.1.cl r hr).elim (λz=>absurd z (nr r hr)) λz=>z.imp id λ⟨q,mq,e,_⟩=>List.mem_map.mpr ⟨q,mq,e⟩⟩⟩
def qdk:DP:=λds Q=>∃(cs:List Int) (s:Int),ds=[.lst (cs.map D.int),.int s]/\cs.length<=60/\0<=s/\s<10 ^ 19/\∀p,SPn (cs.length+1) p->Q (.own (qag p))
def qd3:DP:=λds Q=>∃(cs:List Int) (s:Int),ds=[.lst (cs.map D.int),.int s]/\cs.length<=60/\0<=s/\s<10 ^ 19/\∀p,TreeOk p->p.length<=cs.length+1->(∀r∈p,Wy14 r.1)->Q (.own (qag p))
theorem qhv:∀ds Q,qbe ds Q->ds.length=2:=by rintro ds Q ⟨_,_,rfl,_⟩;rfl
theorem ql7:∀ds Q,qdk ds Q->ds.length=2:=by rintro ds Q ⟨_,_,rfl,_⟩;rfl
theorem ql9:∀ds Q,qd3 ds Q->ds.length=2:=by rintro ds Q ⟨_,_,rfl,_⟩;rfl
theorem qqo{i:Nat}{ks:List (List Str)}{ds:List D}{t:TVS}{Dv:VEnds}{τ:VSt}(e:τ[i]?=some (some (.own (.dT ks ds))))(h:t Dv (τ.set i (some (.peek (.dT ks ds))))):qjr i t Dv τ:=by
 unfold qjr
 rw[e]
 exact h
theorem qhz{t:TVT}{a u:TVS}{Dv:VEnds}{τ:VSt}(P:Bool->Prop)(ht:∀Y:Bool->Prop,(∀c,P c->Y c)->t τ Y)(ha:P true->a { nx:=u Dv,rt:=Dv.rt,bk:=Dv.bk,ct:=Dv.ct,xc:=Dv.xc,ro:=Dv.ro } τ)(hb:P false->u Dv τ):vSeq (vIfS t a qbb) u Dv τ:=qgl (v_if P ht ha hb)
theorem qzj{α β:Type}{f:α->Option β}:∀ {l:List α} {i:Nat} {x:α} {y:β},l[i]?=some x->(∀k z,k<i->l[k]?=some z->f z=none)->f x=some y->l.findSome? f=some y
|[],_,_,_,h,_,_=>by simp at h
|a::l,0,x,y,h,_,hx=>by
  have e:a=x:=Option.some.inj (by simpa using h)
  rw[List.findSome?_cons,e,hx]
|a::l,i+1,x,y,h,hb,hx=>by
  rw[List.findSome?_cons,hb 0 a (Nat.succ_pos _) rfl]
  exact qzj (l:=l) (i:=i) (by simpa using h) (λk z hk hz=>hb (k+1) z (Nat.succ_lt_succ hk) (by simpa using hz)) hx
instance (m:Str):Decidable (FS m):=inferInstanceAs (Decidable (_\/_))
def rowF(p:List Row)(w:List Str):Option Row:=p.find? λr=>decide (r.1=w)
def prW(r:Row):List Str×D:=(r.1,rowD r)
theorem qsr(p:List Row):(p.map prW).map (·.1)=p.map (·.1):=by rw[List.map_map];rfl
def byD(p:List Row):D:=qap (p.map prW)
theorem qz1(p:List Row)(w:List Str):lkP (p.map prW) w=(rowF p w).map rowD:=by
 unfold lkP rowF
 rw[List.find?_map,Option.map_map]
 rfl
theorem qdx{p:List Row}{w:List Str}{r:Row}(h:rowF p w=some r):r∈p/\r.1=w:=⟨List.mem_of_find?_eq_some h,by simpa using List.find?_some h⟩
theorem qjl{p:List Row}(nd:(p.map (·.1)).Nodup){r:Row}(h:r∈p):rowF p r.1=some r:=qgm nd h
theorem rowF_none{p:List Row}{w:List Str}:rowF p w=none↔w∉p.map (·.1):=by
 unfold rowF
 rw[List.find?_eq_none]
 constructor
 ·intro h m
  obtain⟨r,mr,e⟩:=List.mem_map.mp m
  exact h r mr (decide_eq_true e)
 ·intro h r mr z
  exact h (List.mem_map.mpr ⟨r,mr,of_decide_eq_true z⟩)
def qeo(w:List Str):List (List Str):=(List.range (w.length-1)).map λk=>w.take (k+1)
def qmq(w:List Str):List (List Str):=[]::qeo w
theorem qyb(w:List Str){k:Nat}(h:k<w.length):(qmq w)[k]?=some (w.take k):=by
 cases k with
|zero=>rfl
|succ k =>
  show (qeo w)[k]?=_
  unfold qeo
  rw[List.getElem?_map,List.getElem?_range (by lia)]
  rfl
theorem quc{w v:List Str}{k:Nat}(h:(qmq w)[k]?=some v):v=w.take k/\(k<w.length\/w=[]):=by
 cases k with
|zero =>
  cases (show []=v from Option.some.inj h)
  refine⟨rfl,?_⟩
  cases w with
 |nil=>exact .inr rfl
 |cons a w=>exact .inl (Nat.succ_pos _)
|succ k =>
  have h':(qeo w)[k]?=some v:=h
  unfold qeo at h'
  rw[List.getElem?_map] at h'
  obtain⟨j,hj,e⟩:=Option.map_eq_some_iff.mp h'
  have lj:=(List.getElem?_eq_some_iff.mp hj).1
  rw[List.length_range] at lj
  rw[List.getElem?_range lj] at hj
  cases hj
  exact⟨e.symm,.inl (by lia)⟩
def qey(p:List Row)(v:List Str):Option Row:=(rowF p v).bind λq=>if q.2.1=qa2 then some q else none
theorem shutAt_some{p:List Row}{v:List Str}{q:Row}:qey p v=some q↔rowF p v=some q/\q.2.1=qa2:=by
 unfold qey
 cases h:rowF p v with
|none=>simp
|some x =>
  simp only[Option.bind_some]
  by_cases z:x.2.1=qa2
  ·rw[if_pos z]
   constructor
   ·intro e
    cases e
    exact⟨rfl,z⟩
   ·intro e
    exact e.1
  ·rw[if_neg z]
   constructor
   ·intro e
    cases e
   ·intro e
    cases e.1
    exact absurd e.2 z
def qeq(r:Row)(p:List Row):Option Row:=if r.2.1=qa6 then none else (qmq r.1).findSome? (qey p)
def optD(o:Option Row):D:=(o.map rowD).getD .non
def qdl(u l:List Row)(w:List Str):Option (Row×Row) :=
 match rowF u w,rowF l w with
|some a,some b=>if a=b\/(FS a.2.1/\FS b.2.1) then none else some (a,b)
|none,some b=>(qeq b u).map λa=>(a,b)
|some a,none=>(qeq a l).map λb=>(a,b)
|none,none=>none
def pairD(o:Option (Row×Row)):D:=(o.map λp=>D.tup [rowD p.1,rowD p.2]).getD .non
structure MPn(p:List Row):Prop where
 so:qbg p
 nm:∀r∈p,Wy14 r.1
 ns:∀r∈p,r.2.1=qa2->qc8 p r.1=false
 len:p.length<=30
theorem MPn.nd{p:List Row}(h:MPn p):(p.map (·.1)).Nodup:=qa0 h.so
def MeetIs(u l:List Row)(o:Option (Row×Row)):Prop :=
 (o=none/\∀w,w∈u.map (·.1)\/w∈l.map (·.1)->qdl u l w=none)\/∃w,(w∈u.map (·.1)\/w∈l.map (·.1))/\o.isSome=true/\qdl u l w=o/\∀v,v∈u.map (·.1)\/v∈l.map (·.1)->ltW v w=true->qdl u l v=none
theorem MeetIs.one{u l:List Row}{o o':Option (Row×Row)}(h:MeetIs u l o)(h':MeetIs u l o'):o=o':=by
 rcases h with ⟨e,h⟩|⟨w,mw,so,hw,h⟩
 ·rcases h' with ⟨e',_⟩|⟨w',mw',so',hw',_⟩
  ·rw[e,e']
  ·rw[h w' mw'] at hw'
   rw[←hw'] at so'
   cases so'
 ·rcases h' with ⟨e',h'⟩|⟨w',mw',so',hw',h'⟩
  ·rw[h' w mw] at hw
   rw[←hw] at so
   cases so
  ·by_cases e:w=w'
   ·rw[←hw,←hw',e]
   ·rcases qma e with z|z
    ·rw[h' w mw z] at hw
     rw[←hw] at so
     cases so
    ·rw[h w' mw' z] at hw'
     rw[←hw'] at so'
     cases so'
theorem qwc{u l:List Row}{w:List Str}{p:Row×Row}(h:qdl u l w=some p):w∈u.map (·.1)\/w∈l.map (·.1):=by
 unfold qdl at h
 cases e1:rowF u w with
|some a=>exact .inl (by obtain⟨x,y⟩:=qdx e1;exact List.mem_map.mpr ⟨a,x,y⟩)
|none =>
  cases e2:rowF l w with
 |some b=>exact .inr (by obtain⟨x,y⟩:=qdx e2;exact List.mem_map.mpr ⟨b,x,y⟩)
 |none=>rw[e1,e2] at h;cases h
def qf2:DP:=λds Q=>∃w,ds=[wayD w]/\w.length<=1000/\Q (.own (.lst ((qeo w).map wayD)))
def qef:DP:=λds Q=>∃p:List Row,ds=[qag p]/\(p.map (·.1)).Nodup/\(∀r∈p,Wy14 r.1)/\p.length<=1000/\Q (.own (byD p))
def qd2:DP:=λds Q=>∃u l:List Row,ds=[byD u,byD l]/\u.length+l.length<=60/\∀ws:List (List Str),(∀w,w∈ws↔w∈u.map (·.1)\/w∈l.map (·.1))->ws.Pairwise (λv w=>ltW v w=true)->Q (.own (.lst (ws.map wayD)))
def qby:DP:=λds Q=>∃a b:Row,ds=[rowD a,rowD b]/\Q (.val (.bl (decide (FS a.2.1/\FS b.2.1))))
def qb4:DP:=λds Q=>∃(r:Row) (p:List Row),ds=[rowD r,byD p]/\Wy14 r.1/\Q (.val (optD (qeq r p)))
def qb6:DP:=λds Q=>∃(u l:List Row) (w:List Str),ds=[byD u,byD l,wayD w]/\(∀r∈u,Wy14 r.1)/\(∀r∈l,Wy14 r.1)/\(w∈u.map (·.1)\/w∈l.map (·.1))/\Q (.val (pairD (qdl u l w)))
def qh8:DP:=λds Q=>∃u l:List Row,ds=[qag u,qag l]/\MPn u/\MPn l/\∀o,MeetIs u l o->Q (.val (pairD o))
theorem qqy:∀ds Q,qf2 ds Q->ds.length=1:=by rintro ds Q ⟨_,rfl,_⟩;rfl
theorem qot:∀ds Q,qef ds Q->ds.length=1:=by rintro ds Q ⟨_,rfl,_⟩;rfl
theorem ql5:∀ds Q,qd2 ds Q->ds.length=2:=by rintro ds Q ⟨_,_,rfl,_⟩;rfl
theorem qhf:∀ds Q,qby ds Q->ds.length=2:=by rintro ds Q ⟨_,_,rfl,_⟩;rfl
theorem qi8:∀ds Q,qb4 ds Q->ds.length=2:=by rintro ds Q ⟨_,_,rfl,_⟩;rfl
theorem qht:∀ds Q,qb6 ds Q->ds.length=3:=by rintro ds Q ⟨_,_,_,rfl,_⟩;rfl
theorem qtg:∀ds Q,qh8 ds Q->ds.length=2:=by rintro ds Q ⟨_,_,rfl,_⟩;rfl
def qlc(m:Str):Prop:=m=qc6\/m=qdm\/m=qaq\/m=qa2\/m=qa6
def qcr:DP:=λds Q=>∃(r:Row) (t:Int),ds=[rowD r,.int t]/\0<=t/\qlc r.2.1/\∀m:Str,qlc m->(r.1=[]->m=r.2.1)->Q (.val (.str m))
def qcs:DP:=λds Q=>∃(n:Nat) (p:List Row) (b:Int),ds=[qag p,.int b]/\n<=60/\SPn n p/\∀q,SPn n q->Q (.own (qag q))
theorem qi6:∀ds Q,qcr ds Q->ds.length=2:=by rintro ds Q ⟨_,_,rfl,_⟩;rfl
theorem qi7:∀ds Q,qcs ds Q->ds.length=2:=by rintro ds Q ⟨_,_,_,rfl,_⟩;rfl
theorem qtk{w:List Str}{k:Nat}(h:k<w.length):ltW (w.take k) w=true:=by
 have go:∀n,∀v:List Str,v.length=k+1+n->ltW (v.take k) v=true:=λn=>by
  induction n with
 |zero =>
   intro v hv
   have ne:v≠[]:=λz=>by rw[z] at hv;simp at hv
   have:=qno ne
   rw[List.dropLast_eq_take,show v.length-1=k by lia] at this
   exact this
 |succ n ih =>
   intro v hv
   have ne:v≠[]:=λz=>by rw[z] at hv;simp at hv
   have h1:=ih v.dropLast (by rw[List.length_dropLast];lia)
   have h2:=qno ne
   rw[List.dropLast_eq_take,List.take_take,Nat.min_eq_left (by lia),←List.dropLast_eq_take] at h1
   exact qq5 h1 h2
 exact go (w.length-(k+1)) w (by lia)
theorem qky{ks:List Row}{r:Row}{w:List Str}(h:ltW w r.1=true\/w=r.1):qc8 (ks++[r]) w=qc8 ks w:=by
 unfold qc8
 refine qd1 λk hk=>?_
 have lk:=List.mem_range.mp hk
 rw[qie]
 intro e
 have:=qtk lk
 rw[←e] at this
 rcases h with h|h
 ·rw[qid h] at this
  cases this
 ·rw[h,qq4] at this
  cases this
structure NKept(ws:List (List Str))(ks:List Row):Prop where
 sub:(ks.map (·.1)).Sublist ws
 ns:∀r∈ks,r.2.1=qa2->qc8 ks r.1=false
 fs:PFS ks
 mr:∀r∈ks,mkOk r
 rt:∀r∈ks,r.1=[]->r.2.1=qa2
theorem NKept.stay{ws:List (List Str)}{ks:List Row}(h:NKept ws ks)(w:List Str):NKept (ws++[w]) ks:=⟨h.sub.trans (List.sublist_append_left _ _),h.ns,h.fs,h.mr,h.rt⟩
theorem NKept.put{ws:List (List Str)}{ks:List Row}(h:NKept ws ks){r:Row}(hl:∀w∈ws,ltW w r.1=true)(hs:r.2.1=qa2->qc8 ks r.1=false)(hf:r.1.dropLast=[]\/∃q∈ks,q.1=r.1.dropLast/\FS q.2.1)(hm:mkOk r)(hr:r.1=[]->r.2.1=qa2):NKept (ws++[r.1]) (ks++[r]):=by
 refine⟨?_,λq hq=>?_,λq hq=>?_,λq hq=>?_,λq hq=>?_⟩
 ·rw[List.map_append]
  exact h.sub.append (.refl _)
 ·rcases List.mem_append.mp hq with hq|hq
  ·intro z
   rw[qky (.inl (hl _ (h.sub.mem (List.mem_map.mpr ⟨q,hq,rfl⟩))))]
   exact h.ns q hq z
  ·rw[List.mem_singleton.mp hq]
   intro z
   rw[qky (.inr rfl)]
   exact hs z
 ·rcases List.mem_append.mp hq with hq|hq
  ·exact(h.fs q hq).imp id λz=>z.imp id λ⟨x,mx,e⟩=>⟨x,List.mem_append_left _ mx,e⟩
  ·rw[List.mem_singleton.mp hq]
   exact .inr (hf.imp id λ⟨x,mx,e⟩=>⟨x,List.mem_append_left _ mx,e⟩)
 ·rcases List.mem_append.mp hq with hq|hq
  ·exact h.mr q hq
  ·rw[List.mem_singleton.mp hq];exact hm
 ·rcases List.mem_append.mp hq with hq|hq
  ·exact h.rt q hq
  ·rw[List.mem_singleton.mp hq];exact hr
theorem qvh{r:Row}(h:mkOk r):qlc r.2.1:=by
 rcases h with (h|h)|h|h|h
 ·exact .inl h
 ·exact .inr (.inl h)
 ·exact .inr (.inr (.inl h.1))
 ·exact .inr (.inr (.inr (.inl h)))
 ·exact .inr (.inr (.inr (.inr h)))
def NmOk(rs:List Row):Prop:=∀r∈rs,WyOk r.1
def qh7:DP:=λds Q=>∃p tr:List Row,ds=[qag p,qag tr]/\PaneOk p/\NmOk p/\p.length<=250/\TreeOk tr/\NmOk tr/\tr.length+bulk p<=63/\(TreeOk (qck p tr)->NmOk (qck p tr)->(qck p tr).length<=tr.length+bulk p->Q (.own (qag (qck p tr))))
theorem qtf:∀ds Q,qh7 ds Q->ds.length=2:=by rintro ds Q ⟨_,_,rfl,_⟩;rfl
def g_same:DP:=λds Q=>∃rs:List Row,ds=[qag rs,qag rs]/\rs.length<=1000/\Q (.val (.bl true))
theorem qth:∀ds Q,g_same ds Q->ds.length=2:=by rintro ds Q ⟨_,rfl,_⟩;rfl
def LA(p t:List Row)(w:List Str):Option (Str×Str):=match rowAt p w with
|some x=>if x.1=qa6 then none else if x.1=qa2 then some (qaq,qdb) else some x
|none=>if qbt p w=true then none else rowAt t w
theorem qf3{p t:List Row}(P:PaneOk p)(T:TreeOk t){w:List Str}(hw:w≠[]):rowAt (qck p t) w=LA p t w:=by
 obtain⟨T2,pm⟩:=qi5 P T
 have ndp:=qa0 P.so
 have ndt:=qa0 T.so
 refine qw2 λx=>?_
 rw[qdn (qa0 T2.so),pm.mem_iff,List.mem_append]
 unfold LA
 constructor
 ·rintro (m|m)
  ·obtain⟨m1,m2⟩:=List.mem_filter.mp m
   rw[Bool.and_eq_true] at m2
   have np:w∉p.map (·.1):=λz=>by
    have:=m2.1
    unfold inR at this
    rw[decide_eq_true (show (w,x).1∈p.map (·.1) from z)] at this
    cases this
   have nh:qbt p w=false:=by simpa using m2.2
   rw[rowAt_none.mpr np]
   show (if qbt p w=true then none else rowAt t w)=some x
   rw[nh,if_neg Bool.false_ne_true]
   exact(qdn ndt).mpr m1
  ·unfold putR at m
   obtain⟨r,mr,e⟩:=List.mem_map.mp m
   obtain⟨mr1,mr2⟩:=List.mem_filter.mp mr
   rw[Bool.and_eq_true] at mr2
   have ng:r.2.1≠qa6:=by simpa using mr2.2
   have e1:r.1=w:=by rw[←qhn r,e]
   have hr:rowAt p w=some r.2:=(qdn ndp).mpr (e1▸mr1)
   rw[hr]
   show (if r.2.1=qa6 then none else if r.2.1=qa2 then some (qaq,qdb) else some r.2)=some x
   rw[if_neg ng]
   unfold qil at e
   by_cases s:r.2.1=qa2
   ·rw[if_pos s] at e ⊢
    cases e
    rfl
   ·rw[if_neg s] at e ⊢
    rw[e]
 ·intro h
  cases hp:rowAt p w with
 |none =>
   rw[hp] at h
   have h':(if qbt p w=true then none else rowAt t w)=some x:=h
   by_cases hb:qbt p w=true
   ·rw[if_pos hb] at h';cases h'
   ·rw[if_neg hb] at h'
    refine .inl (List.mem_filter.mpr ⟨(qdn ndt).mp h',?_⟩)
    unfold inR
    rw[decide_eq_false (rowAt_none.mp hp),Bool.eq_false_iff.mpr hb]
    rfl
 |some y =>
   rw[hp] at h
   have h':(if y.1=qa6 then none else if y.1=qa2 then some (qaq,qdb) else some y)=some x:=h
   by_cases g:y.1=qa6
   ·rw[if_pos g] at h';cases h'
   ·rw[if_neg g] at h'
    refine .inr (List.mem_map.mpr ⟨(w,y),List.mem_filter.mpr ⟨(qdn ndp).mp hp,by simp[hw,g]⟩,?_⟩)
    unfold qil
    by_cases s:y.1=qa2
    ·rw[if_pos s] at h' ⊢
     cases h'
     rfl
    ·rw[if_neg s] at h' ⊢
     cases h'
     rfl
theorem qkc{p t:List Row}(P:PaneOk p)(T:TreeOk t):rowAt (qck p t) []=none:=by
 obtain⟨T2,_⟩:=qi5 P T
 rw[rowAt_none]
 intro m
 obtain⟨r,mr,e⟩:=List.mem_map.mp m
 exact(T2.cl r mr).1 e
theorem qmr(p:List Row)(w:List Str):rowAt p w=(rowF p w).map (·.2):=rfl
def shT(x:Str×Str):Option (Str×Str):=if x.1=qa6 then none else if x.1=qa2 then some (qaq,qdb) else some x
theorem qf0{p t:List Row}{w:List Str}{r:Row}(h:rowF p w=some r):LA p t w=shT r.2:=by
 unfold LA
 rw[qmr,h]
 rfl
theorem qfz{p t:List Row}{w:List Str}(h:rowF p w=none):LA p t w=if qbt p w=true then none else rowAt t w:=by
 unfold LA
 rw[qmr,h]
 rfl
theorem qu9{p:List Row}(F:PFS p):∀(n:Nat) (r:Row),r∈p->r.1.length=n->∀k,0<k->k<n->∃q∈p,q.1=r.1.take k/\FS q.2.1
|0,_,_,_,k,_,hk=>absurd hk (Nat.not_lt_zero _)
|n+1,r,mr,hl,k,k0,kn=>by
  rcases F r mr with z|z|⟨q,mq,eq,fq⟩
  ·rw[z] at hl
   cases hl
  ·have:=congrArg List.length z
   rw[List.length_dropLast,hl,List.length_nil] at this
   lia
  ·have lq:q.1.length=n:=by rw[eq,List.length_dropLast,hl];rfl
   by_cases e:k=n
   ·exact⟨q,mq,by rw[eq,List.dropLast_eq_take,hl,e];rfl,fq⟩
   ·obtain⟨x,mx,ex,fx⟩:=qu9 F n q mq lq k k0 (by lia)
    exact⟨x,mx,by rw[ex,eq,List.dropLast_eq_take,List.take_take,Nat.min_eq_left (by lia)],fx⟩
theorem quiet{p q:List Row}(F:PFS p)(K:PaneOk q){a:Row}(ma:a∈p)(ga:a.2.1≠qa6)(so:qeq a q=none)(mm:∀x∈p,∀y∈q,x.1=y.1->FS x.2.1->FS y.2.1):qbt q a.1=false:=by
 have nd:=qa0 K.so
 unfold qbt
 rw[List.any_eq_false]
 intro k hk hh
 have lk:=List.mem_range.mp hk
 rw[qtl,qmr] at hh
 cases e:rowF q (a.1.take k) with
|none=>rw[e] at hh;cases hh
|some y =>
  obtain⟨my,ey⟩:=qdx e
  rw[e] at hh
  by_cases z:y.2.1=qa2
  ·have sa:qey q (a.1.take k)=some y:=shutAt_some.mpr ⟨e,z⟩
   unfold qeq at so
   rw[if_neg ga,List.findSome?_eq_none_iff] at so
   have:=so _ (List.mem_of_getElem? (qyb a.1 lk))
   rw[sa] at this
   cases this
  ·have k0:0<k:=by
    rcases Nat.eq_zero_or_pos k with q0|q0
    ·rw[q0,List.take_zero] at ey
     exact absurd (K.rt y my ey) z
    ·exact q0
   obtain⟨x,mx,ex,fx⟩:=qu9 F _ a ma rfl k k0 lk
   rcases mm x mx y my (by rw[ex,ey]) fx with f|f
   ·have hh':qci (some y.2.1)=true:=hh
    rw[f] at hh'
    revert hh'
    decide +kernel
   ·exact z f
theorem q1r{a:Row}(h:mkOk a)(f:FS a.2.1):shT a.2=some (qaq,qdb):=by
 unfold shT
 rw[if_neg f.live]
 by_cases z:a.2.1=qa2
 ·rw[if_pos z]
 ·rw[if_neg z]
  have fo:a.2.1=qaq:=f.resolve_right z
  rcases h with (h|h)|h|h|h
  ·rw[fo] at h;exact absurd h.symm mne.2.2.1
  ·rw[fo] at h;exact absurd h.symm mne.2.2.2.1
  ·rw[←h.2,←fo]
  ·exact absurd h z
  ·exact absurd h f.live
theorem qyh{n m:Nat}{u l t:List Row}(U:SPn n u)(L:SPn m l)(T:TreeOk t)(no:∀w,qdl u l w=none){w:List Str}(hw:w≠[]):LA u (qck l t) w=LA l (qck u t) w:=by
 have ndu:=qa0 U.ok.so
 have ndl:=qa0 L.ok.so
 have both:∀v a b,rowF u v=some a->rowF l v=some b->a=b\/(FS a.2.1/\FS b.2.1):=λv a b h1 h2=>by
  have:=no v
  unfold qdl at this
  rw[h1,h2] at this
  dsimp only at this
  by_cases z:a=b\/(FS a.2.1/\FS b.2.1)
  ·exact z
  ·rw[if_neg z] at this
   cases this
 have m1:∀x∈u,∀y∈l,x.1=y.1->FS x.2.1->FS y.2.1:=λx mx y my e f=>by
  rcases both x.1 x y (qjl ndu mx) (by rw[e];exact qjl ndl my) with z|z
  ·rw[←z];exact f
  ·exact z.2
 have m2:∀x∈l,∀y∈u,x.1=y.1->FS x.2.1->FS y.2.1:=λx mx y my e f=>by
  rcases both x.1 y x (by rw[e];exact qjl ndu my) (qjl ndl mx) with z|z
  ·rw[z];exact f
  ·exact z.1
 cases e1:rowF u w with
|some a =>
  obtain⟨ma,ea⟩:=qdx e1
  cases e2:rowF l w with
 |some b =>
   obtain⟨mb,eb⟩:=qdx e2
   rw[qf0 e1,qf0 e2]
   rcases both w a b e1 e2 with z|z
   ·rw[z]
   ·rw[q1r (U.ok.mr a ma) z.1,q1r (L.ok.mr b mb) z.2]
 |none =>
   rw[qf0 e1,qfz e2,qf3 U.ok T hw,qf0 e1]
   by_cases g:a.2.1=qa6
   ·have:shT a.2=none:=if_pos g
    rw[this]
    split<;>rfl
   ·have so:qeq a l=none:=by
     have:=no w
     unfold qdl at this
     rw[e1,e2] at this
     dsimp only at this
     simpa using this
    have:=quiet U.fs L.ok ma g so m1
    rw[ea] at this
    rw[this]
    exact(if_neg Bool.false_ne_true).symm
|none =>
  cases e2:rowF l w with
 |some b =>
   obtain⟨mb,eb⟩:=qdx e2
   rw[qfz e1,qf3 L.ok T hw,qf0 e2,qf0 e2]
   by_cases g:b.2.1=qa6
   ·have:shT b.2=none:=if_pos g
    rw[this]
    split<;>rfl
   ·have so:qeq b u=none:=by
     have:=no w
     unfold qdl at this
     rw[e1,e2] at this
     dsimp only at this
     simpa using this
    have:=quiet L.fs U.ok mb g so m2
    rw[eb] at this
    rw[this]
    exact if_neg Bool.false_ne_true
 |none =>
   rw[qfz e1,qfz e2,qf3 L.ok T hw,qf3 U.ok T hw,qfz e1,qfz e2]
   by_cases h1:qbt u w=true
   ·rw[if_pos h1,if_pos h1]
    split<;>rfl
   ·rw[if_neg h1,if_neg h1]
theorem swap{n m:Nat}{u l t:List Row}(U:SPn n u)(L:SPn m l)(T:TreeOk t)(no:∀w,qdl u l w=none):qck u (qck l t)=qck l (qck u t):=by
 obtain⟨T1,_⟩:=L2.qi5 L.ok T
 obtain⟨T2,_⟩:=L2.qi5 U.ok T
 obtain⟨T3,_⟩:=L2.qi5 U.ok T1
 obtain⟨T4,_⟩:=L2.qi5 L.ok T2
 refine qms T3.so T4.so λw=>?_
 by_cases hw:w=[]
 ·rw[hw,qkc U.ok T1,qkc L.ok T2]
 ·rw[qf3 U.ok T1 hw,qf3 L.ok T2 hw]
  exact qyh U L T no hw
theorem qq6{u l:List Row}(h:MeetIs u l none):∀w,qdl u l w=none:=λw=>by
 rcases h with ⟨_,h⟩|⟨_,_,z,_⟩
 ·cases e:qdl u l w with
 |none=>rfl
 |some p =>
   rw[h w (qwc e)] at e
   cases e
 ·cases z
theorem SPn.mp{n:Nat}{p:List Row}(P:SPn n p)(hn:n<=30):MPn p:=⟨P.ok.so,P.nm,P.ns,Nat.le_trans P.len hn⟩
noncomputable def qcy(t:List Row)(ps:List (List Row)):List Row:=ps.foldl (λt p=>qck p t) t
theorem qc7(t:List Row)(ps qs:List (List Row)):qcy t (ps++qs)=qcy (qcy t ps) qs:=List.foldl_append
theorem qnz{t:List Row}(T:TreeOk t):∀ {ps:List (List Row)},(∀p∈ps,PaneOk p)->TreeOk (qcy t ps)
|[],_=>T
|p::ps,h=>qnz (t:=qck p t) (L2.qi5 (h p (List.mem_cons_self ..)) T).1 λq hq=>h q (List.mem_cons_of_mem _ hq)
theorem qkz{n:Nat}{x:List Row}(X:SPn n x):∀(bs:List (List Row)) (t:List Row),TreeOk t->(∀b∈bs,SPn n b/\MeetIs x b none)->qcy t (x::bs)=qcy t (bs++[x])
|[],t,_,_=>rfl
|b::bs,t,T,h=>by
  obtain⟨B,mb⟩:=h b (List.mem_cons_self ..)
  show qcy (qck b (qck x t)) bs=qcy (qck b t) (bs++[x])
  rw[←swap X B T (qq6 mb)]
  exact qkz X bs (qck b t) (L2.qi5 B.ok T).1 λc hc=>h c (List.mem_cons_of_mem _ hc)
def osR(ps:List (List Row))(k:Nat):List (List Row):=ps.take k++ps.drop (k+1)
def mov(ps:List (List Row))(k a:Nat):List (List Row):=(osR ps k).take a++[ps.getD k []]++(osR ps k).drop a
def qga(ps:List (List Row))(k a:Nat)(o:Option (Row×Row)):Prop:=a<=k/\(∀j,a<=j->j<k->MeetIs (ps.getD k []) (ps.getD j []) none)/\((a=0/\o=none)\/(0<a/\o.isSome=true/\MeetIs (ps.getD k []) (ps.getD (a-1) []) o))
theorem q2m{ps:List (List Row)}{k j:Nat}(hk:k<ps.length)(hj:j<k):(osR ps k)[j]?=some (ps.getD j []):=by
 unfold osR
 rw[List.getElem?_append_left (by rw[List.length_take];lia),List.getElem?_take_of_lt hj,List.getD_eq_getElem?_getD,List.getElem?_eq_getElem (by lia)]
 rfl
theorem qvi{ps:List (List Row)}{k:Nat}(hk:k<ps.length):(osR ps k).length+1=ps.length:=by
 unfold osR
 rw[List.length_append,List.length_take,List.length_drop]
 lia
theorem qkl{ps:List (List Row)}{k a:Nat}(hk:k<ps.length)(ha:a<=k):mov ps k a=ps.take a++[ps.getD k []]++(ps.take k).drop a++ps.drop (k+1):=by
 have lt:(ps.take k).length=k:=by rw[List.length_take];lia
 have e1:(osR ps k).take a=ps.take a:=by
  unfold osR
  rw[List.take_append_of_le_length (by lia),List.take_take,Nat.min_eq_left ha]
 have e2:(osR ps k).drop a=(ps.take k).drop a++ps.drop (k+1):=by
  unfold osR
  rw[List.drop_append_of_le_length (by lia)]
 unfold mov
 rw[e1,e2,List.append_assoc,List.append_assoc,List.append_assoc]
theorem quw{ps:List (List Row)}{k a:Nat}(hk:k<ps.length)(ha:a<=k):ps=ps.take a++((ps.take k).drop a++[ps.getD k []])++ps.drop (k+1):=by
 have h1:ps.take k++[ps.getD k []]=ps.take (k+1):=by
  rw[List.take_succ,List.getD_eq_getElem?_getD,List.getElem?_eq_getElem hk]
  rfl
 have h2:ps.take a++(ps.take k).drop a=ps.take k:=by
  conv=>rhs;rw[←List.take_append_drop a (ps.take k)]
  rw[List.take_take,Nat.min_eq_left ha]
 rw[←List.append_assoc,h2,h1,List.take_append_drop]
theorem qmf{ps:List (List Row)}{k a:Nat}(hk:k<ps.length):(mov ps k a).length=ps.length:=by
 have:=qvi hk
 unfold mov
 rw[List.length_append,List.length_append,List.length_take,List.length_drop,List.length_singleton]
 lia
theorem qmg{ps:List (List Row)}{k a:Nat}(hk:k<ps.length){p:List Row}(h:p∈mov ps k a):p∈ps:=by
 have go:p∈osR ps k->p∈ps:=λz=>by
  rcases List.mem_append.mp z with z|z
  ·exact List.mem_of_mem_take z
  ·exact List.mem_of_mem_drop z
 rcases List.mem_append.mp h with z|z
 ·rcases List.mem_append.mp z with z|z
  ·exact go (List.mem_of_mem_take z)
  ·rw[List.mem_singleton.mp z,List.getD_eq_getElem?_getD,List.getElem?_eq_getElem hk]
   exact List.getElem_mem hk
 ·exact go (List.mem_of_mem_drop z)
theorem qr1{n:Nat}{ps:List (List Row)}{k a:Nat}{o:Option (Row×Row)}(hk:k<ps.length)(P:∀p∈ps,SPn n p)(S:qga ps k a o){t:List Row}(T:TreeOk t):qcy t (mov ps k a)=qcy t ps:=by
 obtain⟨ha,hm,_⟩:=S
 have mk:ps.getD k []∈ps:=by
  rw[List.getD_eq_getElem?_getD,List.getElem?_eq_getElem hk]
  exact List.getElem_mem hk
 rw[qkl hk ha]
 conv=>rhs;rw[quw hk ha]
 have T1:TreeOk (qcy t (ps.take a)):=qnz T λp hp=>(P p (List.mem_of_mem_take hp)).ok
 rw[List.append_assoc,List.append_assoc,qc7,←List.append_assoc,qc7,List.append_assoc,qc7 t,qc7 (qcy t (ps.take a)) ((ps.take k).drop a++[ps.getD k []])]
 congr 1
 refine qkz (n:=n) (P _ mk) _ _ T1 λb hb=>?_
 have hb':b∈(ps.take k).drop a:=hb
 obtain⟨j,hj⟩:=List.mem_iff_getElem?.mp hb'
 rw[List.getElem?_drop] at hj
 have lj:=(List.getElem?_eq_some_iff.mp hj).1
 rw[List.length_take] at lj
 rw[List.getElem?_take_of_lt (by lia)] at hj
 have e:ps.getD (a+j) []=b:=by
  rw[List.getD_eq_getElem?_getD,hj]
  rfl
 exact⟨P b (List.mem_of_getElem? hj),by rw[←e];exact hm (a+j) (by lia) (by lia)⟩
theorem qz3{ps:List (List Row)}{k a:Nat}(hk:k<ps.length)(ha:a<=k):(mov ps k a).getD a []=ps.getD k []:=by
 have l1:(ps.take a).length=a:=by rw[List.length_take];lia
 rw[qkl hk ha,List.append_assoc,List.append_assoc,List.getD_eq_getElem?_getD,List.getElem?_append_right (by lia),l1,Nat.sub_self]
 rfl
theorem qwr{ps:List (List Row)}{k a j:Nat}(hk:k<ps.length)(ha:a<=k)(hj:j<a):(mov ps k a).getD j []=ps.getD j []:=by
 have l1:(ps.take a).length=a:=by rw[List.length_take];lia
 rw[qkl hk ha,List.append_assoc,List.append_assoc,List.getD_eq_getElem?_getD,List.getElem?_append_left (by lia),List.getElem?_take_of_lt hj,List.getD_eq_getElem?_getD]
theorem qo7{ps:List (List Row)}{k a b:Nat}{o o':Option (Row×Row)}(hk:k<ps.length)(S:qga ps k a o)(S':qga (mov ps k a) a b o'):b=a/\mov (mov ps k a) a b=mov ps k a:=by
 obtain⟨ha,_,hs⟩:=S
 obtain⟨hb,hm,_⟩:=S'
 have e:b=a:=by
  rcases Nat.lt_or_ge b a with z|z
  ·exfalso
   rcases hs with ⟨q,_⟩|⟨q,so,m⟩
   ·lia
   ·have:=hm (a-1) (by lia) (by lia)
    rw[qz3 hk ha,qwr hk ha (by lia)] at this
    have:=this.one m
    rw[←this] at so
    cases so
  ·lia
 subst e
 refine⟨rfl,?_⟩
 have lm:(mov ps k b).length=ps.length:=qmf hk
 rw[qkl (by lia) (Nat.le_refl _)]
 have e2:((mov ps k b).take b).drop b=[]:=List.drop_eq_nil_of_le (by rw[List.length_take];lia)
 rw[e2,List.append_nil]
 have:=quw (ps:=mov ps k b) (k:=b) (a:=b) (by lia) (Nat.le_refl _)
 rw[e2,List.nil_append] at this
 exact this.symm
def qde:DP:=λds Q=>∃(ps:List (List Row)) (k:Nat),ds=[qai ps,.int k]/\k<ps.length/\ps.length<=100/\Q (.val (qag (ps.getD k [])))
def qe9:DP:=λds Q=>∃ps:List (List Row),ds=[qai ps]/\ps.length<=100/\Q (.own (qai ps))
def qgg:DP:=λds Q=>∃(ps:List (List Row)) (k:Nat),ds=[qai ps,.int k]/\k<ps.length/\ps.length<=50/\(∀p∈ps,MPn p)/\∀a o,qga ps k a o->Q (.val (.tup [qai (mov ps k a),.int a,pairD o]))
theorem qkg:∀ds Q,qde ds Q->ds.length=2:=by rintro ds Q ⟨_,_,rfl,_⟩;rfl
theorem qou:∀ds Q,qe9 ds Q->ds.length=1:=by rintro ds Q ⟨_,rfl,_⟩;rfl
theorem qtj:∀ds Q,qgg ds Q->ds.length=2:=by rintro ds Q ⟨_,_,rfl,_⟩;rfl
def PsOk(ps:List (List Row)):Prop:=∀p∈ps,SPn 10 p
def qdf:DP:=λds Q=>∃(ns:List Int) (s:Int) (m:Nat),ds=[.scr ns,.int s,.int m]/\0<=s/\s<10 ^ 18/\m<=5/\∀ps:List (List Row),ps.length=m->PsOk ps->Q (.own (qai ps))
def qg9:DP:=λds Q=>∃(ps:List (List Row)) (t:List Row),ds=[qai ps,qag t]/\ps.length<=5/\PsOk ps/\TreeOk t/\NmOk t/\t.length<=13/\Q (.val (qag (qcy t ps)))
def qb7:DP:=λds Q=>∃(ps:List (List Row)) (k a:Nat),ds=[qai (mov ps k a),qai ps,.int a,.int k]/\k<ps.length/\a<=k/\ps.length<=5/\PsOk ps/\Q (.val (.bl true))
def ql2:DP:=λds Q=>∃ns,ds=[.scr ns]/\Q (.val (.bl true))
theorem qkh:∀ds Q,qdf ds Q->ds.length=3:=by rintro ds Q ⟨_,_,_,rfl,_⟩;rfl
theorem qti:∀ds Q,qg9 ds Q->ds.length=2:=by rintro ds Q ⟨_,_,rfl,_⟩;rfl
theorem qhu:∀ds Q,qb7 ds Q->ds.length=4:=by rintro ds Q ⟨_,_,_,rfl,_⟩;rfl
theorem qwn:∀ds Q,ql2 ds Q->ds.length=1:=by rintro ds Q ⟨_,rfl,_⟩;rfl
theorem qs1{α:Type}(xs:List α){a k:Nat}(h:a<=k)(hk:k<=xs.length):cutL xs (some (a:Int)) (some (k:Int))=(xs.take k).drop a:=by
 unfold cutL
 rw[HT.sIx_nat,HT.sIx_nat,Nat.min_eq_left hk,Nat.min_eq_left (by lia),List.drop_take]
theorem q3a(ns:List Int)(j:Nat)(hj:j<=5):(qer ns (some (2+(j:Int))) (some 47) (some 5)).length<=9:=by
 unfold qer
 refine Nat.le_trans (List.length_filterMap_le _ _) ?_
 unfold sliceRange sliceBounds
 simp only[List.length_map,List.length_range,Option.getD_some,show (5:Int)>0 from by decide,if_true,show ¬ (2+(j:Int)<0) from by omega,show ¬ ((47:Int)<0) from by omega,if_false]
 split<;>omega
def qgr:TVS:=(vSeq (vIfS (vBl (vOp vLt (vVar 1) (vF1 vLen (vVar 0))))
  (vRet (vOp vIxR (vVar 0) (vVar 1)))
  qbb)
 (vRet (vC (.int 0))))
abbrev qpl:List Str:=["_law_script","_law_k"]
theorem qsk:∀ds Q,qbk ds Q->qgr (En Q) (qa8 qpl ds):=by
 rintro ds Q ⟨ns,k,rfl,h0,h⟩
 simp! only[qgr]
 split
 ·rename_i c
  obtain⟨v,hv,hv2⟩:=qcd (xs:=ns) h0 (of_decide_eq_true c)
  unfold qok at h
  rw[hv2] at h
  exact⟨v,hv,h⟩
 ·rename_i c
  have hn:ns[k.toNat]?=none:=List.getElem?_eq_none (by have:=of_decide_eq_false (Bool.eq_false_iff.mpr c);omega)
  unfold qok at h
  rw[hn] at h
  exact h
def qpy:TVS:=(vSeq (vSet 3 (vTup (qad (vC (.int 48271)) (qad (vC (.int 69621)) (qad (vC (.int 16807)) (qad (vC (.int 39373)) (qad (vC (.int 21401)) (qad (vC (.int 60493)) (qad (vC (.int 87721)) (qad (vC (.int 31337)) vNil))))))))))
 (vSeq (vSet 4 (vTup (qad (vC (.int 99991)) (qad (vC (.int 99989)) (qad (vC (.int 99971)) (qad (vC (.int 99961)) (qad (vC (.int 99929)) (qad (vC (.int 99923)) (qad (vC (.int 99907)) (qad (vC (.int 99901)) vNil))))))))))
 (vRet (vOp vMod (vOp vMod (vOp vMul (vOp vAdd (vOp vMod (vVar 0) (vOp vPow (vC (.int 10)) (vC (.int 18)))) (vC (.int 1))) (vOp vIxR (vVar 3) (vOp vMod (vVar 1) (vC (.int 8))))) (vOp vIxR (vVar 4) (vOp vMod (vVar 1) (vC (.int 8))))) (vVar 2)))))
abbrev qv1:List Str:=["_law_cell","_law_turn","_law_many","_law_by","_law_prime"]
def mxA:List Int:=[48271,69621,16807,39373,21401,60493,87721,31337]
def mxB:List Int:=[99991,99989,99971,99961,99929,99923,99907,99901]
theorem qyu:∀ds Q,qam ds Q->qpy (En Q) (qa8 qv1 ds):=by
 rintro ds Q ⟨c,t,m,rfl,h0,hm,h⟩
 refine v_cut (λτ=>τ=[some (.val (.int c)),some (.val (.int t)),some (.val (.int m)),some (.val (.tup (mxA.map D.int))),none]) ?_ λnx hnx=>?now
 case now =>
  rfl'
  exact⟨by decide,hnx _ rfl⟩
 rintro τ rfl
 refine v_cut (λτ=>τ=[some (.val (.int c)),some (.val (.int t)),some (.val (.int m)),some (.val (.tup (mxA.map D.int))),some (.val (.tup (mxB.map D.int)))]) ?_ λnx hnx=>?now
 case now =>
  rfl'
  exact⟨by decide,hnx _ rfl⟩
 rintro τ rfl
 have q0:=Int.emod_nonneg t (show (8:Int)≠0 by decide)
 have q1:=Int.emod_lt_of_pos t (show (0:Int)<8 by decide)
 obtain⟨a,ha,ha2⟩:=qcd (xs:=mxA) (k:=t%8) q0 q1
 obtain⟨b,hb,hb2⟩:=qcd (xs:=mxB) (k:=t%8) q0 q1
 have ba:∀x∈mxA,0<=x/\x<100000:=by decide
 have bb:∀x∈mxB,0<x:=by decide
 have a1:=ba a (List.mem_of_getElem? ha2)
 have b1:=bb b (List.mem_of_getElem? hb2)
 have hA:∀Y:R->Prop,Y (.val (.int (c%10 ^ Int.toNat 18+1)))->vOp vAdd (vOp vMod (vVar 0) (vOp vPow (vC (.int 10)) (vC (.int 18)))) (vC (.int 1)) [some (.val (.int c)),some (.val (.int t)),some (.val (.int m)),some (.val (.tup (mxA.map D.int))),some (.val (.tup (mxB.map D.int)))] Y:=λY y=>by
  rfl'
  exact⟨⟨by decide,by decide,by decide⟩,by decide,y⟩
 have hB:∀Y:R->Prop,Y (.val (.int a))->vOp vIxR (vVar 3) (vOp vMod (vVar 1) (vC (.int 8))) [some (.val (.int c)),some (.val (.int t)),some (.val (.int m)),some (.val (.tup (mxA.map D.int))),some (.val (.tup (mxB.map D.int)))] Y:=λY y=>by
  rfl'
  exact⟨.int a,by rw[qb2,ha];rfl,y⟩
 have hC:∀Y:R->Prop,Y (.val (.int b))->vOp vIxR (vVar 4) (vOp vMod (vVar 1) (vC (.int 8))) [some (.val (.int c)),some (.val (.int t)),some (.val (.int m)),some (.val (.tup (mxA.map D.int))),some (.val (.tup (mxB.map D.int)))] Y:=λY y=>by
  rfl'
  exact⟨.int b,by rw[qb2,hb];rfl,y⟩
 exact hA _ (hB _ ⟨.inr ⟨by omega,by omega⟩,hC _ ⟨b1,hm,h _ (Int.emod_nonneg _ (by omega)) (Int.emod_lt_of_pos _ hm) λe=>by
  subst e
  have e1:a=48271:=by simpa [mxA] using ha2.symm
  have e2:b=99991:=by simpa [mxB] using hb2.symm
  rw[e1,e2,show Int.toNat 18=18 from rfl]⟩⟩)
def qjx:TVS:=(vSeq (vSet 2 (vC (.str ("abcdefghijklmnopqrstuvwxyz0123456789" : Str))))
 (vSeq (vSet 3 (vOp vAdd (vC (.int 1)) (vOp vMod (vVar 0) (vC (.int 12)))))
 (vSeq (vSet 4 (vOp vMod (vOp vDiv (vVar 0) (vC (.int 12))) (vVar 3)))
 (vSeq (vSet 5 (vC (.str ("" : Str))))
 (vSeq (vFor (qgk (vVar 3)) (qbj 6)
  (vSeq (vSet 7 (vOp vAdd (vOp vDiv (vVar 0) (vC (.int 5184))) (vOp vMul (vVar 6) (vOp vMod (vOp vDiv (vVar 0) (vC (.int 144))) (vC (.int 36))))))
 (vSeq (vIfS (vBl (vOp vEq (vVar 6) (vVar 4)))
  (vSet 7 (vOp vAdd (vVar 7) (vVar 1)))
  qbb)
 (vSet 5 (vOp vAdd (vVar 5) (vOp vIxR (vVar 2) (vOp vMod (vVar 7) (vC (.int 36)))))))))
 (vSeq (vIfS (qds (vBl (vOp vEq (vOp vMod (vOp vDiv (vVar 0) (vC (.int 3))) (vC (.int 2))) (vC (.int 1)))) (vBl (vOp vEq (vOp vMod (vVar 1) (vC (.int 5))) (vC (.int 4)))))
  (vSet 5 (qcn (vVar 5) qbv (qcz (vOp vAdd (vC (.int 1)) (vOp vMod (vVar 1) (vVar 3))))))
  qbb)
 (vRet (vVar 5))))))))
abbrev qpn:List Str:=["_law_stem","_law_v","_law_signs","_law_size","_law_spot","_law_name","_law_k","_law_turn"]
theorem qsm:∀ds Q,qbl ds Q->qjx (En Q) (qa8 qpn ds):=by
 rintro ds Q ⟨c,v,rfl,hc,hc2,hv,h⟩
 have hm0:0<=c%12:=Int.emod_nonneg _ (by decide)
 have hm1:c%12<12:=Int.emod_lt_of_pos _ (by decide)
 have eN:(NS.cps.toList.length:Int)=36:=by decide +kernel
 have lN:NS.length<=sizeLine:=by decide +kernel
 refine v_cut (λτ=>τ=[some (.val (.int c)),some (.val (.int v)),some (.val (.str NS)),none,none,none,none,none]) ?_ λnx hnx=>?now
 case now =>
  rfl'
  exact hnx _ rfl
 rintro τ rfl
 refine v_cut (λτ=>τ=[some (.val (.int c)),some (.val (.int v)),some (.val (.str NS)),some (.val (.int (1+c%12))),none,none,none,none]) ?_ λnx hnx=>?now
 case now =>
  rfl'
  exact hnx _ rfl
 rintro τ rfl
 generalize hn:1+c%12=n
 have n1:1<=n:=by omega
 have n2:n<=12:=by omega
 refine v_cut (λτ=>∃sp:Int,τ=[some (.val (.int c)),some (.val (.int v)),some (.val (.str NS)),some (.val (.int n)),some (.val (.int sp)),none,none,none]) ?_ λnx hnx=>?now
 case now =>
  rfl'
  exact⟨by omega,hnx _ ⟨_,rfl⟩⟩
 rintro τ ⟨sp,rfl⟩
 refine v_cut (λτ=>τ=[some (.val (.int c)),some (.val (.int v)),some (.val (.str NS)),some (.val (.int n)),some (.val (.int sp)),some (.val (.str "")),none,none]) ?_ λnx hnx=>?now
 case now =>
  rfl'
  exact hnx _ rfl
 rintro τ rfl
 refine v_cut (λτ=>∃(z:Str) (a b:Option R),1<=z.length/\z.length<=12/\τ=[some (.val (.int c)),some (.val (.int v)),some (.val (.str NS)),some (.val (.int n)),some (.val (.int sp)),some (.val (.str z)),a,b]) ?_ λnx hnx=>?now
 case now =>
  rfl'
  refine⟨by omega,by omega,qfk (λi τ=>∃(z:Str) (a b:Option R),z.length=i/\τ=[some (.val (.int c)),some (.val (.int v)),some (.val (.str NS)),some (.val (.int n)),some (.val (.int sp)),some (.val (.str z)),a,b]) ⟨"",none,none,by decide +kernel,rfl⟩ ?_ ?_⟩
  ·rintro i τ hi ⟨z,a,b,hl,rfl⟩ nx2 hnx2
   refine v_cut (λτ=>∃t:Int,τ=[some (.val (.int c)),some (.val (.int v)),some (.val (.str NS)),some (.val (.int n)),some (.val (.int sp)),some (.val (.str z)),some (.val (.int i)),some (.val (.int t))]) ?_ λnx3 hnx3=>?now
   case now =>
    rfl'
    have k0:=Int.emod_nonneg (c / 144) (show (36:Int)≠0 by decide)
    have k1:=Int.emod_lt_of_pos (c / 144) (show (0:Int)<36 by decide)
    exact⟨.inr ⟨by omega,by omega⟩,hnx3 _ ⟨_,rfl⟩⟩
   rintro τ ⟨t,rfl⟩
   refine v_cut (λτ=>∃t:Int,τ=[some (.val (.int c)),some (.val (.int v)),some (.val (.str NS)),some (.val (.int n)),some (.val (.int sp)),some (.val (.str z)),some (.val (.int i)),some (.val (.int t))]) ?_ λnx3 hnx3=>?now
   case now =>
    rfl'
    split
    ·exact hnx3 _ ⟨_,rfl⟩
    ·exact hnx3 _ ⟨_,rfl⟩
   clear t
   rintro τ ⟨t,rfl⟩
   rfl'
   obtain⟨d,hd,_⟩:=qcd (xs:=NS.cps.toList) (k:=t%36) (Int.emod_nonneg _ (by decide)) (by rw[eN];exact Int.emod_lt_of_pos _ (by decide))
   exact⟨lN,d,hd,Nat.le_trans (show z.length+1<=1000 by omega) qba,hnx2 _ ⟨_,_,_,by rw[PySem.Str.length_append,hl];rfl,rfl⟩⟩
  ·rintro τ ⟨z,a,b,hl,rfl⟩
   exact hnx _ ⟨z,a,b,by omega,by omega,rfl⟩
 rintro τ ⟨z,a,b,z0,z1,rfl⟩
 refine v_cut (λτ=>∃(z:Str),1<=z.length/\z.length<=12/\τ=[some (.val (.int c)),some (.val (.int v)),some (.val (.str NS)),some (.val (.int n)),some (.val (.int sp)),some (.val (.str z)),a,b]) ?_ λnx hnx=>?now
 case now =>
  rfl'
  have sz:z.length<=sizeLine:=Nat.le_trans (by omega) qba
  have v0:=Int.emod_nonneg v (show n≠0 by omega)
  split
  ·split
   ·refine⟨by omega,sz,hnx _ ⟨_,?_,?_,rfl⟩⟩
    ·obtain⟨k,hk⟩:∃k:Nat,1+v%n=(k:Int):=⟨(1+v%n).toNat,by omega⟩
     rw[hk]
     show 1<=(Txt.slice z none (some (k:Int))).cps.toList.length
     have el:z.cps.toList.length=z.length:=rfl
     rw[slice_list,qdj,List.length_take]
     omega
    ·exact Nat.le_trans (Txt.slice_le z _ _) (by omega)
   ·exact hnx _ ⟨z,z0,z1,rfl⟩
  ·exact hnx _ ⟨z,z0,z1,rfl⟩
 clear z0 z1 z
 rintro τ ⟨z,z0,z1,rfl⟩
 rfl'
 exact h z z0 z1
def qf1:TVS:=(vSeq (vSet 1 (vC (.str (" !\"#$&'()*+,-./0123456789:;<=>?@ABCDEFGHIJKLMNOPQRSTUVWXYZ[\\]^_`" : Str))))
 (vSeq (vSet 1 (vOp vAdd (vVar 1) (vC (.str ("abcdefghijklmnopqrstuvwxyz{|}~" : Str)))))
 (vSeq (vSet 2 (qan qam (qad (vVar 0) (qad (vC (.int 6)) (qad (vC (.int 9)) vNil)))))
 (vSeq (vIfS (vBl (vOp vEq (vVar 2) (vC (.int 8))))
  (vSet 2 (vC (.int 60)))
  qbb)
 (vRet (qr6 (vC (.str ("" : Str))) (qf6 (qgk (vVar 2)) (qbj 3) (λ_ Q=>Q true) (vOp vIxR (vVar 1) (qan qam (qad (vOp vAdd (vVar 0) (vOp vMul (vVar 3) (vVar 3))) (qad (vC (.int 7)) (qad (vF1 vLen (vVar 1)) vNil))))) 1)))))))
abbrev qog:List Str:=["_law_cell","_law_some","_law_size"]
theorem qpj:∀ds Q,qdg ds Q->qf1 (En Q) (qa8 qog ds):=by
 rintro ds Q ⟨c,rfl,h⟩
 have mx:∀(c k n:Int) (Y:R->Prop),0<=k->0<n->(∀i,0<=i->i<n->Y (.val (.int i)))->qam [.int c,.int k,.int n] Y:=λc k n Y hk hn y=>⟨c,k,n,rfl,hk,hn,λi h0 h1 _=>y i h0 h1⟩
 have big:5000<=sizeLine:=by decide
 refine qgl ?_
 dsimp! only[qf1]
 refine v_cut (λτ=>τ=[some (.val (.int c)),some (.val (.str PS94)),none]) ?_ λnx hnx=>?now
 case now =>
  rfl'
  exact⟨by decide +kernel,hnx _ rfl⟩
 rintro τ rfl
 refine v_cut (λτ=>∃k:Int,0<=k/\k<9/\τ=[some (.val (.int c)),some (.val (.str PS94)),some (.val (.int k))]) ?_ λnx hnx=>?now
 case now =>
  rfl'
  refine mx _ _ _ _ (by decide) (by decide) λk k0 k1=>?_
  rfl'
  exact hnx _ ⟨k,k0,k1,rfl⟩
 rintro τ ⟨k,k0,k1,rfl⟩
 refine v_cut (λτ=>∃k:Int,0<=k/\k<=60/\τ=[some (.val (.int c)),some (.val (.str PS94)),some (.val (.int k))]) ?_ λnx hnx=>?now
 case now =>
  rfl'
  split
  ·exact hnx _ ⟨60,by decide,by decide,rfl⟩
  ·exact hnx _ ⟨k,k0,by omega,rfl⟩
 clear k0 k1 k
 rintro τ ⟨k,k0,k1,rfl⟩
 have p94:=q0t
 ac_rfl
 refine⟨by omega,by omega,?_⟩
 unfold rngL
 refine qnd (λ_ d=>∃c∈PS94.cps.toList,d=.str ⟨#[c]⟩) (λ_=>true) (List.range k.toNat) (by rw[List.length_range];omega) (λx mx' Y N y1 _=>?_) λes hl hes=>?_
 ·have lx:=List.mem_range.mp mx'
  rfl'
  refine⟨by left;omega,by omega,?_⟩
  refine mx _ _ _ _ (by decide) (by rw[p94];decide) λj j0 j1=>?_
  obtain⟨v,hv,hv2⟩:=qcd (xs:=PS94.cps.toList) (k:=j) j0 j1
  rfl'
  exact⟨by omega,v,hv,y1 rfl _ ⟨v,List.mem_of_getElem? hv2,rfl⟩⟩
 ·obtain⟨ls,e1,e2,e3⟩:=qks (es:=es) λe me=>by
   obtain⟨j,lj,ej⟩:=List.mem_iff_getElem.mp me
   have hj:j<((List.range k.toNat).filter λ_=>true).length:=by rw[←hl];exact lj
   exact hes j _ e (List.getElem?_eq_getElem hj) (by rw[List.getElem?_eq_getElem lj,ej])
  have ell:ls.length<=300:=by
   rw[e3,hl]
   refine Nat.le_trans (List.length_filter_le _ _) ?_
   rw[List.length_range]
   omega
  have o0:(Str.ofString "").length=0:=by decide +kernel
  subst e1
  ac_rfl
  exact⟨_,.inl rfl,by rw[qnu,o0];omega,h _⟩
def qjy:TVS:=(vSeq (vIfS (vBl (vOp vEq (vVar 0) (vC (.str ("file" : Str)))))
  (vRet (vOp vIxR (vTup (qad (vC (.str ("" : Str))) (qad (vC (.str ("as it was" : Str))) (qad (qan qdg (qad (vVar 1) vNil)) vNil)))) (qan qam (qad (vVar 1) (qad (vC (.int 5)) (qad (vC (.int 3)) vNil))))))
  qbb)
 (vSeq (vIfS (vBl (vOp vNeD (vVar 0) (vC (.str ("link" : Str)))))
  (vRet (vC (.str ("" : Str))))
  qbb)
 (vSeq (vSet 4 (qan qbl (qad (vVar 2) (qad (qan qam (qad (vVar 1) (qad (vC (.int 5)) (qad (vVar 3) vNil)))) vNil))))
 (vSeq (vSet 5 (qan qbl (qad (vVar 2) (qad (qan qam (qad (vVar 1) (qad (vC (.int 6)) (qad (vVar 3) vNil)))) vNil))))
 (vSeq (vSet 6 (vTup (qad (vC (.str ("/" : Str))) (qad (vOp vAdd (vC (.str ("/" : Str))) (vVar 4)) (qad (vVar 4) (qad (vOp vAdd (vC (.str ("../" : Str))) (vVar 4)) (qad (vOp vAdd (vOp vAdd (vOp vAdd (vC (.str ("./" : Str))) (vVar 4)) (vC (.str ("/" : Str)))) (vVar 5)) (qad (vOp vAdd (vOp vAdd (vC (.str ("/" : Str))) (vVar 4)) (vC (.str ("/.." : Str)))) (qad (vC (.str (".." : Str))) (qad (vC (.str ("." : Str))) vNil))))))))))
 (vRet (vOp vIxR (vVar 6) (qan qam (qad (vVar 1) (qad (vC (.int 7)) (qad (vC (.int 8)) vNil)))))))))))
abbrev qpp:List Str:=["_law_mark","_law_cell","_law_stem","_law_wide","_law_name","_law_more","_law_some"]
theorem qso:∀ds Q,qch ds Q->qjy (En Q) (qa8 qpp ds):=by
 rintro ds Q ⟨m,c,s,v,rfl,h0,h1,hv,h⟩
 have mx:∀(k n:Int) (Y:R->Prop),0<=k->0<n->(∀i,0<=i->i<n->Y (.val (.int i)))->qam [.int c,.int k,.int n] Y:=λk n Y hk hn y=>⟨c,k,n,rfl,hk,hn,λi i0 i1 _=>y i i0 i1⟩
 have nb:∀(i:Int) (Y:R->Prop),0<=i->(∀z:Str,1<=z.length->z.length<=12->Y (.val (.str z)))->qbl [.int s,.int i] Y:=λi Y hi y=>⟨s,i,rfl,h0,h1,hi,y⟩
 refine v_cut (λτ=>m≠qc6/\τ=[some (.val (.str m)),some (.val (.int c)),some (.val (.int s)),some (.val (.int v)),none,none,none]) ?_ λnx hnx=>?now
 case now =>
  rfl'
  by_cases m1:m=qc6
  ·have h':∀z:Str,Q (.val (.str z)):=λz=>h z λq=>absurd m1 q
   rw[decide_eq_true m1]
   have sg:∀Y:R->Prop,(∀t:Str,Y (.val (.str t)))->qdg [.int c] Y:=λY y=>⟨c,rfl,y⟩
   refine iteT (sg _ λt=>?_)
   rfl'
   refine⟨by decide,mx _ _ _ (by decide) (by decide) λi h0 h1=>?_⟩
   rfl'
   have e:[D.str (Str.ofString ""),D.str (Str.ofString "as it was"),D.str t]=[Str.ofString "",Str.ofString "as it was",t].map D.str:=rfl
   obtain⟨y,hy,_⟩:=qcd (xs:=[Str.ofString "",Str.ofString "as it was",t]) (k:=i) h0 h1
   exact⟨.str y,by rw[e,qb2,hy];rfl,h' y⟩
  ·rw[decide_eq_false m1]
   exact iteF (hnx _ ⟨m1,rfl⟩)
 rintro τ ⟨m1,rfl⟩
 refine v_cut (λτ=>m=qdm/\τ=[some (.val (.str m)),some (.val (.int c)),some (.val (.int s)),some (.val (.int v)),none,none,none]) ?_ λnx hnx=>?now
 case now =>
  rfl'
  by_cases m2:m=qdm
  ·rw[decide_eq_true m2]
   exact iteF (hnx _ ⟨m2,rfl⟩)
  ·rw[decide_eq_false m2]
   exact iteT (h _ λ_ _=>rfl)
 rintro τ ⟨m2,rfl⟩
 have h':∀z:Str,Q (.val (.str z)):=λz=>h z λ_ q=>absurd m2 q
 refine v_cut (λτ=>∃z:Str,z.length<=12/\τ=[some (.val (.str m)),some (.val (.int c)),some (.val (.int s)),some (.val (.int v)),some (.val (.str z)),none,none]) ?_ λnx hnx=>?now
 case now =>
  rfl'
  refine mx _ _ _ (by decide) hv λi i0 i1=>?_
  rfl'
  refine nb _ _ i0 λz _ z1=>?_
  rfl'
  exact hnx _ ⟨z,z1,rfl⟩
 rintro τ ⟨z,z1,rfl⟩
 refine v_cut (λτ=>∃y:Str,y.length<=12/\τ=[some (.val (.str m)),some (.val (.int c)),some (.val (.int s)),some (.val (.int v)),some (.val (.str z)),some (.val (.str y)),none]) ?_ λnx hnx=>?now
 case now =>
  rfl'
  refine mx _ _ _ (by decide) hv λi i0 i1=>?_
  rfl'
  refine nb _ _ i0 λz _ z1=>?_
  rfl'
  exact hnx _ ⟨z,z1,rfl⟩
 rintro τ ⟨y,y1,rfl⟩
 refine v_cut (λτ=>τ=[some (.val (.str m)),some (.val (.int c)),some (.val (.int s)),some (.val (.int v)),some (.val (.str z)),some (.val (.str y)),some (.val (.tup ([Str.ofString "/",Str.ofString "/" ++ z,z,Str.ofString "../" ++ z,Str.ofString "./" ++ z++Str.ofString "/" ++ y,Str.ofString "/" ++ z++Str.ofString "/..",Str.ofString "..",Str.ofString "."].map D.str)))]) ?_ λnx hnx=>?now
 case now =>
  rfl'
  have e1:(Str.ofString "/").length=1:=by decide +kernel
  have e2:(Str.ofString "../").length=3:=by decide +kernel
  have e3:(Str.ofString "./").length=2:=by decide +kernel
  have e4:(Str.ofString "/..").length=3:=by decide +kernel
  refine⟨Nat.le_trans (by omega) qba,Nat.le_trans (by omega) qba,Nat.le_trans (by omega) qba,Nat.le_trans (by rw[PySem.Str.length_append];omega) qba,Nat.le_trans (by rw[PySem.Str.length_append,PySem.Str.length_append];omega) qba,Nat.le_trans (by omega) qba,Nat.le_trans (by rw[PySem.Str.length_append];omega) qba,by decide,hnx _ rfl⟩
 rintro τ rfl
 rfl'
 refine mx _ _ _ (by decide) (by decide) λj j0 j1=>?_
 rfl'
 obtain⟨x,hx,_⟩:=qcd (xs:=[Str.ofString "/",Str.ofString "/" ++ z,z,Str.ofString "../" ++ z,Str.ofString "./" ++ z++Str.ofString "/" ++ y,Str.ofString "/" ++ z++Str.ofString "/..",Str.ofString "..",Str.ofString "."]) (k:=j) j0 j1
 have hx2:atI ([Str.ofString "/",Str.ofString "/" ++ z,z,Str.ofString "../" ++ z,Str.ofString "./" ++ z++Str.ofString "/" ++ y,Str.ofString "/" ++ z++Str.ofString "/..",Str.ofString "..",Str.ofString "."].map D.str) j=some (.str x):=by rw[qb2,hx];rfl
 exact⟨.str x,hx2,h' x⟩
def qeu:TVS:=(vSeq (vFor (qgk (vF1 vLen (vVar 1))) (qbj 2)
  (vIfS (qds (vBl (vDIn id (qcn (vVar 1) qbv (qcz (vVar 2))) (vVar 0))) (vBl (vOp vEq (vOp vIxR (qf7 (vVar 0) (qcn (vVar 1) qbv (qcz (vVar 2)))) (vC (.int 0))) (vC (.str ("shut" : Str))))))
  (vRet (vC (.bl true)))
  qbb))
 (vRet (vC (.bl false))))
abbrev qjv:List Str:=["_law_things","_law_way","_law_k"]
theorem qla:∀ds Q,qbe ds Q->qeu (En Q) (qa8 qjv ds):=by
 rintro ds Q ⟨rs,w,rfl,hw,hl,h⟩
 simp! only[qeu,wayD]
 have tk:∀k:Nat,("" : Str)∉w.take k:=λk m=>hw (List.mem_of_mem_take m)
 refine⟨by omega,by omega,qfk (λi τ=>(∀k,k<i->qbu rs (w.take k)≠some qa2)/\∃kv,τ=[some (.val (qap (rs.map prR))),some (.val (wayD w)),kv]) ⟨λk hk=>absurd hk (Nat.not_lt_zero _),none,rfl⟩ ?_ ?_⟩
 ·rintro i τ hi ⟨hb,kv,rfl⟩ nx hnx
  have hd:∀Y:R->Prop,Y (.val (.bl (qbu rs (w.take i)).isSome))->True:=λ_ _=>trivial
  have mk:qbu rs (w.take i)=(rs.find? λr=>decide (r.1=w.take i)).map (·.2.1):=rfl
  have lk:=qkk rs (w.take i)
  have e0:qc8 rs w=true->Q (.val (.bl true)):=λz=>by rw[z] at h;exact h
  have hit:qbu rs (w.take i)=some qa2->Q (.val (.bl true)):=λz=>e0 (List.any_eq_true.mpr ⟨i,List.mem_range.mpr hi,decide_eq_true z⟩)
  have go:qbu rs (w.take i)≠some qa2->∀kv,nx [some (.val (qap (rs.map prR))),some (.val (wayD w)),kv]:=λz kv=>hnx _ ⟨λk hk=>by
   rcases Nat.lt_or_ge k i with q|q
   ·exact hb k q
   ·have:k=i:=by omega
    rw[this];exact z,kv,rfl⟩
  dsimp! only[qap,wayD]
  simp only[qdj]
  refine⟨tk i,?_⟩
  rw[qbr,lk]
  cases e:rs.find? λr=>decide (r.1=w.take i) with
 |none =>
   rw[e] at mk
   refine iteF ?_
   exact go (by rw[mk];exact λz=>by cases z) _
 |some r =>
   rw[e] at mk
   refine iteT ⟨tk i,thD r.2,rfl,?_⟩
   dsimp! only[thD]
   by_cases q:r.2.1=qa2
   ·rw[decide_eq_true q]
    exact iteT (hit (by rw[mk,←q];rfl))
   ·rw[decide_eq_false q]
    exact iteF (go (by rw[mk];exact λz=>q (Option.some.inj z)) _)
 ·rintro τ ⟨hb,kv,rfl⟩
  ac_rfl
  have e:qc8 rs w=false:=by
   unfold qc8
   rw[List.any_eq_false]
   exact λk hk z=>hb k (List.mem_range.mp hk) (of_decide_eq_true z)
  rw[e] at h
  exact h
def qgv:TVS:=(vSeq (vSet 2 (vOp vAdd (vC (.int 2)) (vOp vMod (vOp vDiv (vVar 1) (vC (.int 5))) (vC (.int 7)))))
 (vSeq (qfg 3 qfj)
 (vSeq (qfg 4 (vLst (qad (vTup vNil) vNil)))
 (vSeq (vIfS (qds (vBl (vOp vGt (vF1 vLen (vVar 0)) (vC (.int 2)))) (vBl (vOp vEq (qan qam (qad (vOp vIxR (vVar 0) (vC (.int 0))) (qad (vC (.int 4)) (qad (vC (.int 6)) vNil)))) (vC (.int 0)))))
  (qf8 3 (vTup vNil) (vTup (qad (vC (.str ("shut" : Str))) (qad (vC (.str ("" : Str))) vNil))))
  qbb)
 (vSeq (vFor (qcm (vVar 0)) (qbj 5)
  (vSeq (vSet 6 (vOp vIxR (vVar 4) (qan qam (qad (vVar 5) (qad (vC (.int 0)) (qad (vF1 vLen (vVar 4)) vNil))))))
 (vSeq (vIfS (vBl (vOp vEq (qan qam (qad (vVar 5) (qad (vC (.int 3)) (qad (vC (.int 3)) vNil)))) (vC (.int 0))))
  (vSet 6 (vOp vIxR (vVar 4) (vNeg (vC (.int 1)))))
  qbb)
 (vSeq (vSet 7 (vOp vAdd (vVar 6) (vTup (qad (qan qbl (qad (vVar 1) (qad (qan qam (qad (vVar 5) (qad (vC (.int 1)) (qad (vVar 2) vNil)))) vNil))) vNil))))
 (vIfS (qds (vBl (vDIn (!·) (vVar 7) (vVar 3))) (vBl (vOp vLt (vF1 vLen (vVar 7)) (vC (.int 15)))))
  (vSeq (vSet 8 (vOp vIxR (vTup (qad (vC (.str ("folder" : Str))) (qad (vC (.str ("shut" : Str))) (qad (vC (.str ("file" : Str))) (qad (vC (.str ("folder" : Str))) (qad (vC (.str ("gone" : Str))) (qad (vC (.str ("link" : Str))) (qad (vC (.str ("folder" : Str))) vNil)))))))) (qan qam (qad (vVar 5) (qad (vC (.int 2)) (qad (vC (.int 7)) vNil))))))
 (vSeq (vIfS (qds (vBl (qmy qbe 3 (qad (vVar 7) vNil))) (vBl (vOp (vIn id) (vVar 8) (vTup (qad (vC (.str ("gone" : Str))) (qad (vC (.str ("shut" : Str))) vNil))))))
  (vSet 8 (vC (.str ("folder" : Str))))
  qbb)
 (vSeq (qf8 3 (vVar 7) (vTup (qad (vVar 8) (qad (qan qch (qad (vVar 8) (qad (vVar 5) (qad (vVar 1) (qad (vVar 2) vNil))))) vNil))))
 (vIfS (vBl (vOp (vIn id) (vVar 8) (vTup (qad (vC (.str ("folder" : Str))) (qad (vC (.str ("shut" : Str))) vNil)))))
  (qek 4 (vVar 7))
  qbb))))
  qbb)))))
 (vRet (qf6 (qcm (vF1 qel (vF1 qfu (vVar 3)))) (qbj 9) (λ_ Q=>Q true) (vOp vAdd (vTup (qad (vVar 9) vNil)) (qf7 (vVar 3) (vVar 9))) 1)))))))
abbrev qpo:List Str:=["_law_cells","_law_stem","_law_wide","_law_things","_law_folders","_law_cell","_law_over","_law_way","_law_mark"]
theorem qsn:∀ds Q,qdk ds Q->qgv (En Q) (qa8 qpo ds):=by
 rintro ds Q ⟨cs,st,rfl,hcs,h0,h1,h⟩
 refine qgl ?_
 dsimp! only[qgv]
 have w0:=Int.emod_nonneg (st / 5) (show (7:Int)≠0 by decide)
 generalize hwd:2+st / 5%7=wide
 have w1:0<wide:=by omega
 refine qgl ?_
 rfl'
 refine qgl ?_
 rfl'
 refine⟨by decide,?_⟩
 refine v_cut (λτ=>∃rs:List Row,(rs=[]\/rs=[([],qa2,qdb)])/\τ=[some (.val (.lst (cs.map D.int))),some (.val (.int st)),some (.val (.int wide)),some (.own (qap (rs.map prR))),some (.own (.lst ([([]:List Str)].map wayD))),none,none,none,none]) ?_ λnx2 hnx2=>?now
 case now =>
  dsimp! only[qam]
  have none':=hnx2 _ ⟨[],.inl rfl,rfl⟩
  split
  ·rename_i h2
   have h2':2<cs.length:=by have:=of_decide_eq_true h2;omega
   refine⟨.int cs[0],by rw[List.getElem?_map,List.getElem?_eq_getElem (by omega)];rfl,cs[0],rfl,λi i0 i1 _=>?_⟩
   split
   ·exact⟨by decide,[],rfl,by simp,by decide,hnx2 _ ⟨[([],qa2,qdb)],.inr rfl,rfl⟩⟩
   ·exact none'
  ·exact none'
 rintro τ ⟨rs0,hrs0,rfl⟩
 refine qgl ?_
 rfl'
 refine qdz (λi τ=>∃(rs:List Row) (fs:List (List Str)) (a b c d:Option R),PInv i rs fs /\
  τ=[some (.val (.lst (cs.map D.int))),some (.val (.int st)),some (.val (.int wide)),some (.own (qap (rs.map prR))),some (.own (.lst (fs.map wayD))),a,b,c,d]) ⟨rs0,[[]],none,none,none,none,.start hrs0,rfl⟩ ?_ ?_
 ·rintro i c τ hc ⟨rs,fs,k5,k6,k7,k8,PI,rfl⟩ nx hnx
  have hi:=(List.getElem?_eq_some_iff.mp hc).1
  have hfp:0<fs.length:=List.length_pos_iff.mpr PI.ne
  have hfl:=PI.fln
  have hrl:=PI.len
  refine v_cut (λτ=>∃f,f∈fs/\τ=[some (.val (.lst (cs.map D.int))),some (.val (.int st)),some (.val (.int wide)),some (.own (qap (rs.map prR))),some (.own (.lst (fs.map wayD))),some (.val (.int c)),some (.val (wayD f)),k7,k8]) ?_ λnx2 hnx2=>?now
  case now =>
   dsimp! only[qam]
   refine⟨by omega,λk k0 k1 _=>?_⟩
   obtain⟨f,hf,hf2⟩:=qcd (xs:=fs) (k:=k) k0 k1
   exact⟨wayD f,by rw[qb2,hf];rfl,hnx2 _ ⟨f,List.mem_of_getElem? hf2,rfl⟩⟩
  rintro τ ⟨f,mf,rfl⟩
  refine v_cut (λτ=>∃f,f∈fs/\τ=[some (.val (.lst (cs.map D.int))),some (.val (.int st)),some (.val (.int wide)),some (.own (qap (rs.map prR))),some (.own (.lst (fs.map wayD))),some (.val (.int c)),some (.val (wayD f)),k7,k8]) ?_ λnx2 hnx2=>?now
  case now =>
   dsimp! only[qam]
   refine λk k0 k1 _=>?_
   split
   ·exact⟨wayD (fs.getLast PI.ne),by rw[List.getLast?_map,List.getLast?_eq_some_getLast PI.ne];rfl,hnx2 _ ⟨_,List.getLast_mem PI.ne,rfl⟩⟩
   ·exact hnx2 _ ⟨f,mf,rfl⟩
  clear mf f
  rintro τ ⟨f,mf,rfl⟩
  have hf14:=(PI.fol f mf).1
  refine v_cut (λτ=>∃z:Str,1<=z.length/\z.length<=12/\τ=[some (.val (.lst (cs.map D.int))),some (.val (.int st)),some (.val (.int wide)),some (.own (qap (rs.map prR))),some (.own (.lst (fs.map wayD))),some (.val (.int c)),some (.val (wayD f)),some (.val (wayD (f++[z]))),k8]) ?_ λnx2 hnx2=>?now
  case now =>
   dsimp! only[qam,qbl,wayD]
   have:=hf14.1
   exact⟨w1,λk k0 k1 _=>⟨h0,h1,k0,λz z1 z2=>⟨by decide,Nat.le_trans (show _<=1000 by omega) qba,hnx2 _ ⟨z,z1,z2,rfl⟩⟩⟩⟩
  rintro τ ⟨z,z1,z2,rfl⟩
  have hfz:(∀y∈f++[z],1<=y.length/\y.length<=12):=λy hy=>by
   rcases List.mem_append.mp hy with m|m
   ·exact hf14.2 y m
   ·rw[List.mem_singleton.mp m];exact⟨z1,z2⟩
  have hwy:WyOk (f++[z]):=⟨by have:=hf14.1;rw[List.length_append,List.length_singleton];omega,hfz⟩
  have lk:(lkP (rs.map prR) (f++[z])).isSome=decide (f++[z]∈rs.map (·.1)):=by
   rw[qkk,Option.isSome_map]
   exact(Option.isSome_map ..).symm.trans (qgo rs (f++[z]))
  have stay:=hnx _ ⟨rs,fs,some (.val (.int c)),some (.val (wayD f)),some (.val (wayD (f++[z]))),k8,PI.stay,rfl⟩
  have put:=λ(m t:Str) (hm:mkOk (f++[z],m,t)) (hw:Wy14 (f++[z])) (nw:f++[z]∉rs.map (·.1)) (hs:m=qa6\/m=qa2->qc8 rs (f++[z])=false)=>PI.put mf hm hw nw hs
  generalize hw:f++[z]=w at *
  refine v_if (λb=>b=true->w∉rs.map (·.1)/\w.length<15) (λY y=>?test) (λhyes=>?yes) λ_=>stay
  case test =>
   dsimp! only[qap,wayD]
   refine⟨hwy.ne,?_⟩
   rw[qbr,lk]
   by_cases hm:w∈rs.map (·.1)
   ·rw[decide_eq_true hm]
    exact iteF (y _ λz=>by cases z)
   ·rw[decide_eq_false hm]
    exact iteT (y _ λz=>⟨hm,by have:=of_decide_eq_true z;omega⟩)
  case yes =>
    obtain⟨hm,h15'⟩:=hyes rfl
    have w14:Wy14 w:=⟨by omega,hfz⟩
    refine v_cut (λτ=>∃m:Str,(m=qaq\/m=qa2\/m=qc6\/m=qa6\/m=qdm)/\τ=[some (.val (.lst (cs.map D.int))),some (.val (.int st)),some (.val (.int wide)),some (.own (qap (rs.map prR))),some (.own (.lst (fs.map wayD))),some (.val (.int c)),some (.val (wayD f)),some (.val (wayD w)),some (.val (.str m))]) ?_ λnx2 hnx2=>?now
    case now =>
     dsimp! only[qam]
     refine⟨by decide,λk k0 k1 _=>?_⟩
     have e:[D.str (Str.ofString "folder"),D.str (Str.ofString "shut"),D.str (Str.ofString "file"),D.str (Str.ofString "folder"),D.str (Str.ofString "gone"),D.str (Str.ofString "link"),D.str (Str.ofString "folder")]=[qaq,qa2,qc6,qaq,qa6,qdm,qaq].map D.str:=rfl
     obtain⟨y,hy,hy2⟩:=qcd (xs:=[qaq,qa2,qc6,qaq,qa6,qdm,qaq]) (k:=k) k0 k1
     have my:y=qaq\/y=qa2\/y=qc6\/y=qa6\/y=qdm:=by
      have:=List.mem_of_getElem? hy2
      simp only[List.mem_cons,List.not_mem_nil,or_false] at this
      rcases this with q|q|q|q|q|q|q<;>simp[q]
     exact⟨.str y,by rw[e,qb2,hy];rfl,hnx2 _ ⟨y,my,rfl⟩⟩
    rintro τ ⟨m0,hm0,rfl⟩
    refine v_cut (λτ=>∃m:Str,(m=qaq\/m=qa2\/m=qc6\/m=qa6\/m=qdm)/\(m=qa6\/m=qa2->qc8 rs w=false)/\τ=[some (.val (.lst (cs.map D.int))),some (.val (.int st)),some (.val (.int wide)),some (.own (qap (rs.map prR))),some (.own (.lst (fs.map wayD))),some (.val (.int c)),some (.val (wayD f)),some (.val (wayD w)),some (.val (.str m))]) ?_ λnx2 hnx2=>?now
    case now =>
     have us:∀Y:R->Prop,Y (.val (.bl (qc8 rs w)))->qbe [qap (rs.map prR),wayD w] Y:=λY y=>⟨rs,w,rfl,hwy.ne,by omega,y⟩
     rfl'
     refine us _ ?_
     rfl'
     cases hs:qc8 rs w with
    |false=>exact iteF (hnx2 _ ⟨m0,hm0,λ_=>hs,rfl⟩)
    |true =>
      refine iteT ⟨by decide,?_⟩
      by_cases q:m0∈[qa6,qa2]
      ·rw[decide_eq_true q]
       exact hnx2 _ ⟨qaq,.inl rfl,λz=>z.elim (λz=>absurd z.symm mne.2.1) λz=>absurd z.symm mne.1,rfl⟩
      ·rw[decide_eq_false q]
       exact hnx2 _ ⟨m0,hm0,λz=>absurd (by rcases z with z|z<;>simp[z]) q,rfl⟩
    rintro τ ⟨m,hm1,hsh,rfl⟩
    refine v_cut (λτ=>∃t:Str,mkOk (w,m,t)/\τ=[some (.val (.lst (cs.map D.int))),some (.val (.int st)),some (.val (.int wide)),some (.own (qap ((rs++[(w,m,t)]).map prR))),some (.own (.lst (fs.map wayD))),some (.val (.int c)),some (.val (wayD f)),some (.val (wayD w)),some (.val (.str m))]) ?_ λnx2 hnx2=>?now
    case now =>
     dsimp! only[qch,qap,wayD]
     refine⟨h0,h1,w1,λt ht=>⟨by decide,hwy.ne,?_,?_⟩⟩
     ·exact Nat.lt_of_lt_of_le (show _<1000 by omega) qba
     ·rw[qb8]
      refine hnx2 _ ⟨t,?_,?_⟩
      ·rcases hm1 with q|q|q|q|q
       ·exact .inr (.inl ⟨q,ht (by rw[q];exact Ne.symm mne.2.2.1) (by rw[q];exact Ne.symm mne.2.2.2.1)⟩)
       ·exact .inr (.inr (.inl q))
       ·exact .inl (.inl q)
       ·exact .inr (.inr (.inr q))
       ·exact .inl (.inr q)
      ·have e:insP (rs.map prR) w (.tup [.str m,.str t])=(rs++[(w,m,t)]).map prR:=by
        unfold insP
        rw[qhr,if_neg hm,List.map_append]
        rfl
       rw[e]
       rfl
    rintro τ ⟨t,hmk,rfl⟩
    obtain⟨A,A2⟩:=put m t hmk w14 hm hsh
    rfl'
    refine⟨by decide,?_⟩
    by_cases q:m∈[qaq,qa2]
    ·rw[decide_eq_true q]
     have fsm:FS m:=by simpa [FS] using q
     refine⟨Nat.lt_of_lt_of_le (show _<1000 by omega) qba,hnx _ ⟨rs++[(w,m,t)],fs++[w],some (.val (.int c)),some (.val (wayD f)),some (.val (wayD w)),some (.val (.str m)),A2 fsm,?_⟩⟩
     rw[List.map_append (f:=wayD)]
     rfl
    ·rw[decide_eq_false q]
     exact hnx _ ⟨rs++[(w,m,t)],fs,_,_,_,_,A,rfl⟩
 ·rintro τ ⟨rs,fs,k5,k6,k7,k8,PI,rfl⟩
  have hlen:=PI.len
  simp! only[qap]
  have ek:(((rs.map prR).map (·.1)).map λw=>D.tup (w.map D.str))=(rs.map (·.1)).map wayD:=by
   rw[List.map_map,List.map_map,List.map_map]
   rfl
  refine⟨?_,?_,λds hp hs=>?_⟩
  ·rw[ek]
   exact qeb PI.nd
  ·(first|omega|(simp only[List.length_map];omega))
  ·rw[ek] at hp
   obtain⟨vs,rfl,hv,hso⟩:=qfy hp hs
   have hvl:vs.length=rs.length:=by rw[hv.length_eq,List.length_map]
   refine qiy (λw=>rowD (w,lkR rs w)) vs (Nat.le_trans (show _<=1000 by omega) qba) (λw mw Y N hY=>?_) ?_
   ·have mw':=hv.mem_iff.mp mw
    simp! only[wayD]
    have wk:("" : Str)∉w:=by
     obtain⟨r,mr,er⟩:=List.mem_map.mp mw'
     rcases PI.row r mr with q|q
     ·rw[←er,q.1];simp
     ·rw[←er];exact q.2.1.ok.ne
    exact⟨by decide,wk,thD (lkR rs w),by rw[qbr];exact qi9 PI.nd mw',by show 3<=sizeLine;decide,hY⟩
   ·ac_rfl
    have e:vs.map (λw=>rowD (w,lkR rs w))=(vs.map λw=>(w,lkR rs w)).map rowD:=by rw[List.map_map];rfl
    rw[e]
    obtain⟨p1,p2⟩:=qdy PI.nd hv hso
    obtain⟨a1,a2,a3,a4,a5⟩:=PI.pane p1 p2
    refine h _ ⟨a1,λr hr=>?_,a2,λr hr z=>?_,by omega⟩
    ·rcases PI.row r (p1.mem_iff.mp hr) with z|⟨_,_,⟨_,z⟩,_⟩
     ·exact .inl z.1
     ·exact .inr (z.imp id λ⟨q,mq,x⟩=>⟨q,p1.mem_iff.mpr mq,x⟩)
    ·exact qzl (a5 r hr (.inr z))
def qgx:TVS:=(vSeq (vSet 2 (vOp vAdd (vC (.int 2)) (vOp vMod (vOp vDiv (vVar 1) (vC (.int 5))) (vC (.int 7)))))
 (vSeq (qfg 3 qfj)
 (vSeq (qfg 4 (vLst (qad (vTup vNil) vNil)))
 (vSeq (vFor (qcm (vVar 0)) (qbj 5)
  (vSeq (vSet 6 (vOp vIxR (vVar 4) (qan qam (qad (vVar 5) (qad (vC (.int 0)) (qad (vF1 vLen (vVar 4)) vNil))))))
 (vSeq (vIfS (vBl (vOp vEq (qan qam (qad (vVar 5) (qad (vC (.int 3)) (qad (vC (.int 3)) vNil)))) (vC (.int 0))))
  (vSet 6 (vOp vIxR (vVar 4) (vNeg (vC (.int 1)))))
  qbb)
 (vSeq (vSet 7 (vOp vAdd (vVar 6) (vTup (qad (qan qbl (qad (vVar 1) (qad (qan qam (qad (vVar 5) (qad (vC (.int 1)) (qad (vVar 2) vNil)))) vNil))) vNil))))
 (vIfS (qds (vBl (vDIn (!·) (vVar 7) (vVar 3))) (vBl (vOp vLt (vF1 vLen (vVar 7)) (vC (.int 15)))))
  (vSeq (vSet 8 (vOp vIxR (vTup (qad (vC (.str ("folder" : Str))) (qad (vC (.str ("file" : Str))) (qad (vC (.str ("folder" : Str))) (qad (vC (.str ("link" : Str))) vNil))))) (qan qam (qad (vVar 5) (qad (vC (.int 2)) (qad (vC (.int 4)) vNil))))))
 (vSeq (qf8 3 (vVar 7) (vTup (qad (vVar 8) (qad (qan qch (qad (vVar 8) (qad (vVar 5) (qad (vVar 1) (qad (vVar 2) vNil))))) vNil))))
 (vIfS (vBl (vOp vEq (vVar 8) (vC (.str ("folder" : Str)))))
  (qek 4 (vVar 7))
  qbb)))
  qbb)))))
 (vRet (qf6 (qcm (vF1 qel (vF1 qfu (vVar 3)))) (qbj 9) (λ_ Q=>Q true) (vOp vAdd (vTup (qad (vVar 9) vNil)) (qf7 (vVar 3) (vVar 9))) 1))))))
abbrev qpq:List Str:=["_law_cells","_law_stem","_law_wide","_law_things","_law_folders","_law_cell","_law_over","_law_way","_law_mark"]
theorem qsp:∀ds Q,qd3 ds Q->qgx (En Q) (qa8 qpq ds):=by
 rintro ds Q ⟨cs,st,rfl,hcs,h0,h1,h⟩
 refine qgl ?_
 dsimp! only[qgx]
 have w0:=Int.emod_nonneg (st / 5) (show (7:Int)≠0 by decide)
 generalize hwd:2+st / 5%7=wide
 have w1:0<wide:=by omega
 refine qgl ?_
 rfl'
 refine qgl ?_
 rfl'
 refine⟨by decide,?_⟩
 refine qgl ?_
 rfl'
 refine qdz (λi τ=>∃(rs:List Row) (fs:List (List Str)) (a b c d:Option R),(PInv i rs fs/\NoRt rs) /\
  τ=[some (.val (.lst (cs.map D.int))),some (.val (.int st)),some (.val (.int wide)),some (.own (qap (rs.map prR))),some (.own (.lst (fs.map wayD))),a,b,c,d]) ⟨[],[[]],none,none,none,none,⟨.start (.inl rfl),λr hr=>by cases hr⟩,rfl⟩ ?_ ?_
 ·rintro i c τ hc ⟨rs,fs,k5,k6,k7,k8,⟨PI,NR⟩,rfl⟩ nx hnx
  have hi:=(List.getElem?_eq_some_iff.mp hc).1
  have hfp:0<fs.length:=List.length_pos_iff.mpr PI.ne
  have hfl:=PI.fln
  have hrl:=PI.len
  refine v_cut (λτ=>∃f,f∈fs/\τ=[some (.val (.lst (cs.map D.int))),some (.val (.int st)),some (.val (.int wide)),some (.own (qap (rs.map prR))),some (.own (.lst (fs.map wayD))),some (.val (.int c)),some (.val (wayD f)),k7,k8]) ?_ λnx2 hnx2=>?now
  case now =>
   dsimp! only[qam]
   refine⟨by omega,λk k0 k1 _=>?_⟩
   obtain⟨f,hf,hf2⟩:=qcd (xs:=fs) (k:=k) k0 k1
   exact⟨wayD f,by rw[qb2,hf];rfl,hnx2 _ ⟨f,List.mem_of_getElem? hf2,rfl⟩⟩
  rintro τ ⟨f,mf,rfl⟩
  refine v_cut (λτ=>∃f,f∈fs/\τ=[some (.val (.lst (cs.map D.int))),some (.val (.int st)),some (.val (.int wide)),some (.own (qap (rs.map prR))),some (.own (.lst (fs.map wayD))),some (.val (.int c)),some (.val (wayD f)),k7,k8]) ?_ λnx2 hnx2=>?now
  case now =>
   dsimp! only[qam]
   refine λk k0 k1 _=>?_
   split
   ·exact⟨wayD (fs.getLast PI.ne),by rw[List.getLast?_map,List.getLast?_eq_some_getLast PI.ne];rfl,hnx2 _ ⟨_,List.getLast_mem PI.ne,rfl⟩⟩
   ·exact hnx2 _ ⟨f,mf,rfl⟩
  clear mf f
  rintro τ ⟨f,mf,rfl⟩
  have hf14:=(PI.fol f mf).1
  refine v_cut (λτ=>∃z:Str,1<=z.length/\z.length<=12/\τ=[some (.val (.lst (cs.map D.int))),some (.val (.int st)),some (.val (.int wide)),some (.own (qap (rs.map prR))),some (.own (.lst (fs.map wayD))),some (.val (.int c)),some (.val (wayD f)),some (.val (wayD (f++[z]))),k8]) ?_ λnx2 hnx2=>?now
  case now =>
   dsimp! only[qam,qbl,wayD]
   have:=hf14.1
   exact⟨w1,λk k0 k1 _=>⟨h0,h1,k0,λz z1 z2=>⟨by decide,Nat.le_trans (show _<=1000 by omega) qba,hnx2 _ ⟨z,z1,z2,rfl⟩⟩⟩⟩
  rintro τ ⟨z,z1,z2,rfl⟩
  have hfz:(∀y∈f++[z],1<=y.length/\y.length<=12):=λy hy=>by
   rcases List.mem_append.mp hy with m|m
   ·exact hf14.2 y m
   ·rw[List.mem_singleton.mp m];exact⟨z1,z2⟩
  have hwy:WyOk (f++[z]):=⟨by have:=hf14.1;rw[List.length_append,List.length_singleton];omega,hfz⟩
  have lk:(lkP (rs.map prR) (f++[z])).isSome=decide (f++[z]∈rs.map (·.1)):=by
   rw[qkk,Option.isSome_map]
   exact(Option.isSome_map ..).symm.trans (qgo rs (f++[z]))
  have stay:=hnx _ ⟨rs,fs,some (.val (.int c)),some (.val (wayD f)),some (.val (wayD (f++[z]))),k8,⟨PI.stay,NR⟩,rfl⟩
  have put:=λ(m t:Str) (hm:mkOk (f++[z],m,t)) (hw:Wy14 (f++[z])) (nw:f++[z]∉rs.map (·.1)) (hs:m=qa6\/m=qa2->qc8 rs (f++[z])=false)=>PI.put mf hm hw nw hs
  generalize hw:f++[z]=w at *
  refine v_if (λb=>b=true->w∉rs.map (·.1)/\w.length<15) (λY y=>?test) (λhyes=>?yes) λ_=>stay
  case test =>
   dsimp! only[qap,wayD]
   refine⟨hwy.ne,?_⟩
   rw[qbr,lk]
   by_cases hm:w∈rs.map (·.1)
   ·rw[decide_eq_true hm]
    exact iteF (y _ λz=>by cases z)
   ·rw[decide_eq_false hm]
    exact iteT (y _ λz=>⟨hm,by have:=of_decide_eq_true z;omega⟩)
  case yes =>
    obtain⟨hm,h15'⟩:=hyes rfl
    have w14:Wy14 w:=⟨by omega,hfz⟩
    refine v_cut (λτ=>∃m:Str,(m=qaq\/m=qc6\/m=qdm)/\τ=[some (.val (.lst (cs.map D.int))),some (.val (.int st)),some (.val (.int wide)),some (.own (qap (rs.map prR))),some (.own (.lst (fs.map wayD))),some (.val (.int c)),some (.val (wayD f)),some (.val (wayD w)),some (.val (.str m))]) ?_ λnx2 hnx2=>?now
    case now =>
     dsimp! only[qam]
     refine⟨by decide,λk k0 k1 _=>?_⟩
     have e:[D.str (Str.ofString "folder"),D.str (Str.ofString "file"),D.str (Str.ofString "folder"),D.str (Str.ofString "link")]=[qaq,qc6,qaq,qdm].map D.str:=rfl
     obtain⟨y,hy,hy2⟩:=qcd (xs:=[qaq,qc6,qaq,qdm]) (k:=k) k0 k1
     have my:y=qaq\/y=qc6\/y=qdm:=by
      have:=List.mem_of_getElem? hy2
      simp only[List.mem_cons,List.not_mem_nil,or_false] at this
      rcases this with q|q|q|q<;>simp[q]
     exact⟨.str y,by rw[e,qb2,hy];rfl,hnx2 _ ⟨y,my,rfl⟩⟩
    rintro τ ⟨m,hm1,rfl⟩
    have hsh:m=qa6\/m=qa2->qc8 rs w=false:=λz=>by
     rcases hm1 with q|q|q<;>rw[q] at z
     ·rcases z with z|z
      ·exact absurd z.symm mne.2.1
      ·exact absurd z.symm mne.1
     ·rcases z with z|z
      ·exact absurd z mne.2.2.2.2.2.2.2.1
      ·exact absurd z mne.2.2.2.2.2.1
     ·rcases z with z|z
      ·exact absurd z mne.2.2.2.2.2.2.2.2.1
      ·exact absurd z mne.2.2.2.2.2.2.1
    refine v_cut (λτ=>∃t:Str,mkOk (w,m,t)/\τ=[some (.val (.lst (cs.map D.int))),some (.val (.int st)),some (.val (.int wide)),some (.own (qap ((rs++[(w,m,t)]).map prR))),some (.own (.lst (fs.map wayD))),some (.val (.int c)),some (.val (wayD f)),some (.val (wayD w)),some (.val (.str m))]) ?_ λnx2 hnx2=>?now
    case now =>
     dsimp! only[qch,qap,wayD]
     refine⟨h0,h1,w1,λt ht=>⟨by decide,hwy.ne,?_,?_⟩⟩
     ·exact Nat.lt_of_lt_of_le (show _<1000 by omega) qba
     ·rw[qb8]
      refine hnx2 _ ⟨t,?_,?_⟩
      ·rcases hm1 with q|q|q
       ·exact .inr (.inl ⟨q,ht (by rw[q];exact Ne.symm mne.2.2.1) (by rw[q];exact Ne.symm mne.2.2.2.1)⟩)
       ·exact .inl (.inl q)
       ·exact .inl (.inr q)
      ·have e:insP (rs.map prR) w (.tup [.str m,.str t])=(rs++[(w,m,t)]).map prR:=by
        unfold insP
        rw[qhr,if_neg hm,List.map_append]
        rfl
       rw[e]
       rfl
    rintro τ ⟨t,hmk,rfl⟩
    obtain⟨A,A2⟩:=put m t hmk w14 hm hsh
    have NR2:NoRt (rs++[(w,m,t)]):=λr hr=>by
     rcases List.mem_append.mp hr with hr|hr
     ·exact NR r hr
     ·rw[List.mem_singleton.mp hr]
      exact λz=>by
       have z':w=[]:=z
       rw[←hw] at z'
       simp at z'
    rfl'
    by_cases q:m=qaq
    ·rw[decide_eq_true q]
     refine iteT ⟨Nat.lt_of_lt_of_le (show _<1000 by omega) qba,hnx _ ⟨rs++[(w,m,t)],fs++[w],some (.val (.int c)),some (.val (wayD f)),some (.val (wayD w)),some (.val (.str m)),⟨A2 (.inl q),NR2⟩,?_⟩⟩
     rw[List.map_append (f:=wayD)]
     rfl
    ·rw[decide_eq_false q]
     exact iteF (hnx _ ⟨rs++[(w,m,t)],fs,_,_,_,_,⟨A,NR2⟩,rfl⟩)
 ·rintro τ ⟨rs,fs,k5,k6,k7,k8,⟨PI,NR⟩,rfl⟩
  have hlen:=PI.len
  simp! only[qap]
  have ek:(((rs.map prR).map (·.1)).map λw=>D.tup (w.map D.str))=(rs.map (·.1)).map wayD:=by
   rw[List.map_map,List.map_map,List.map_map]
   rfl
  refine⟨?_,?_,λds hp hs=>?_⟩
  ·rw[ek]
   exact qeb PI.nd
  ·(first|omega|(simp only[List.length_map];omega))
  ·rw[ek] at hp
   obtain⟨vs,rfl,hv,hso⟩:=qfy hp hs
   have hvl:vs.length=rs.length:=by rw[hv.length_eq,List.length_map]
   refine qiy (λw=>rowD (w,lkR rs w)) vs (Nat.le_trans (show _<=1000 by omega) qba) (λw mw Y N hY=>?_) ?_
   ·have mw':=hv.mem_iff.mp mw
    simp! only[wayD]
    have wk:("" : Str)∉w:=by
     obtain⟨r,mr,er⟩:=List.mem_map.mp mw'
     rcases PI.row r mr with q|q
     ·rw[←er,q.1];simp
     ·rw[←er];exact q.2.1.ok.ne
    exact⟨by decide,wk,thD (lkR rs w),by rw[qbr];exact qi9 PI.nd mw',by show 3<=sizeLine;decide,hY⟩
   ·ac_rfl
    have e:vs.map (λw=>rowD (w,lkR rs w))=(vs.map λw=>(w,lkR rs w)).map rowD:=by rw[List.map_map];rfl
    rw[e]
    obtain⟨p1,p2⟩:=qdy PI.nd hv hso
    exact h _ (qk2 (PI.pane p1 p2) λr hr=>NR r (p1.mem_iff.mp hr)) (by rw[p1.length_eq];exact Nat.le_trans PI.len (by omega)) (λr hr=>(PI.pane p1 p2).2.1 r hr)
def qlj:TVS:=(vRet (qf6 (qr9 (vC (.int 1)) (vF1 vLen (vVar 0))) (qbj 1) (λ_ Q=>Q true) (qcn (vVar 0) qbv (qcz (vVar 1))) 1))
abbrev qv0:List Str:=["way"]
theorem qyt:∀ds Q,qf2 ds Q->qlj (En Q) (qa8 qv0 ds):=by
 rintro ds Q ⟨w,rfl,hl,h⟩
 have s1000:=qbf
 simp! only[qlj,wayD]
 have e:rngL 1 ((w.length:Int)-1).toNat=(List.range (w.length-1)).map λ(k:Nat)=>D.int (1+(k:Int)):=by
  unfold rngL
  rw[show ((w.length:Int)-1).toNat=w.length-1 by lia]
 rw[e]
 refine⟨by decide,by decide,by lia,by lia,?_⟩
 refine L2.qiy (λk=>wayD (w.take (k+1))) (List.range (w.length-1)) (by rw[List.length_range];lia) (λk mk Y N hY=>?_) ?_
 ·ac_rfl
  rw[show (1:Int)+(k:Int)=((k+1:Nat):Int) by lia]
  simp only[qdj]
  exact hY
 ·ac_rfl
  have:(List.range (w.length-1)).map (λk=>wayD (w.take (k+1)))=(qeo w).map wayD:=by
   unfold qeo
   rw[List.map_map]
   rfl
  rw[this]
  exact h
def qm9:TVS:=(vSeq (qfg 1 qfj)
 (vSeq (vFor (qcm (vVar 0)) (qbj 2)
  (qf8 1 (vOp vIxR (vVar 2) (vC (.int 0))) (vVar 2)))
 (qmz 1)))
abbrev qst:List Str:=["entries","found","entry"]
theorem quu:∀ds Q,qef ds Q->qm9 (En Q) (qa8 qst ds):=by
 rintro ds Q ⟨p,rfl,nd,nm,hl,h⟩
 have s1000:=qbf
 refine v_cut (λτ=>τ=[some (.val (qag p)),some (.own (byD [])),none]) ?_ λnx hnx=>?now
 case now =>
  rfl'
  exact hnx _ rfl
 rintro τ rfl
 refine v_cut (λτ=>∃x,τ=[some (.val (qag p)),some (.own (byD p)),x]) ?_ λnx hnx=>?now
 case now =>
  dsimp! only[qag]
  refine qdz (λi τ=>∃x,τ=[some (.val (qag p)),some (.own (byD (p.take i))),x]) ⟨none,rfl⟩ ?_ ?_
  ·rintro i r τ hr ⟨x,rfl⟩ nx2 hnx2
   have mr:=List.mem_of_getElem? hr
   have et:p.take (i+1)=p.take i++[r]:=by rw[List.take_succ,hr];rfl
   have tl:(p.take i).length<=1000:=by rw[List.length_take];lia
   dsimp! only[rowD,byD,qap,wayD]
   refine⟨(nm r mr).ok.ne,by lia,?_⟩
   rw[qb8]
   have e:insP ((p.take i).map prW) r.1 (rowD r)=(p.take (i+1)).map prW:=by
    unfold insP
    have nk:r.1∉((p.take i).map prW).map (·.1):=by
     rw[qsr]
     exact qgp nd hr
    rw[if_neg nk,et,List.map_append]
    rfl
   have e':insP ((p.take i).map prW) r.1 (.tup [.tup (r.1.map D.str),.str r.2.1,.str r.2.2])=(p.take (i+1)).map prW:=e
   rw[e']
   exact hnx2 _ ⟨_,rfl⟩
  ·rintro τ ⟨x,rfl⟩
   rw[List.take_length]
   exact hnx _ ⟨x,rfl⟩
 rintro τ ⟨x,rfl⟩
 ac_rfl
 exact h
def qgs:TVS:=(vRet (qpc 0 1))
abbrev qpm:List Str:=["one","other"]
theorem qsl:∀ds Q,qd2 ds Q->qgs (En Q) (qa8 qpm ds):=by
 rintro ds Q ⟨u,l,rfl,hl,h⟩
 simp! only[qgs,byD,qap]
 simp only[qsr]
 refine⟨hl,λws h1 h2=>?_⟩
 exact h ws h1 h2
def qee:TVS:=(vRet (qk3 (vOp (vIn id) (vOp vIxR (vVar 0) (vC (.int 1))) (vTup (qad (vC (.str ("folder" : Str))) (qad (vC (.str ("shut" : Str))) vNil)))) (vOp (vIn id) (vOp vIxR (vVar 1) (vC (.int 1))) (vTup (qad (vC (.str ("folder" : Str))) (qad (vC (.str ("shut" : Str))) vNil))))))
abbrev qis:List Str:=["one","other"]
theorem qjs:∀ds Q,qby ds Q->qee (En Q) (qa8 qis ds):=by
 rintro ds Q ⟨a,b,rfl,h⟩
 have fs:∀m:Str,decide (m∈[Str.ofString "folder",Str.ofString "shut"])=decide (FS m):=λm=>by
  apply decide_eq_decide.mpr
  simp only[List.mem_cons,List.not_mem_nil,or_false]
  exact Iff.rfl
 simp! only[qee,rowD]
 refine⟨by decide,?_⟩
 rw[fs a.2.1]
 by_cases ha:FS a.2.1
 ·rw[decide_eq_true ha]
  refine iteT ⟨by decide,?_⟩
  rw[fs b.2.1]
  have e:decide (FS a.2.1/\FS b.2.1)=decide (FS b.2.1):=decide_eq_decide.mpr ⟨λz=>z.2,λz=>⟨ha,z⟩⟩
  rw[e] at h
  exact h
 ·rw[decide_eq_false ha]
  have e:decide (FS a.2.1/\FS b.2.1)=false:=decide_eq_false λz=>ha z.1
  rw[e] at h
  exact iteF h
def qgw:TVS:=(vSeq (vIfS (vBl (vOp vEq (vOp vIxR (vVar 0) (vC (.int 1))) (vC (.str ("gone" : Str)))))
  (vRet (vC .non))
  qbb)
 (vSeq (vFor (qcm (vOp vAdd (vLst (qad (vTup vNil) vNil)) (qan qf2 (qad (vOp vIxR (vVar 0) (vC (.int 0))) vNil)))) (qbj 2)
  (vIfS (qds (vBl (vDIn id (vVar 2) (vVar 1))) (vBl (vOp vEq (vOp vIxR (qf7 (vVar 1) (vVar 2)) (vC (.int 1))) (vC (.str ("shut" : Str))))))
  (vRet (qf7 (vVar 1) (vVar 2)))
  qbb))
 (vRet (vC .non))))
abbrev qlf:List Str:=["entry","pane","way"]
theorem qm5:∀ds Q,qb4 ds Q->qgw (En Q) (qa8 qlf ds):=by
 rintro ds Q ⟨r,p,rfl,w14,h⟩
 have s1000:=qbf
 have wl:=w14.1
 refine qhz (λb=>b=decide (r.2.1=qa6)) (λY y=>?test) (λhb=>?yes) λhb=>?rest
 case test =>
  dsimp! only[rowD]
  exact y _ rfl
 case yes =>
  have e:qeq r p=none:=by
   unfold qeq
   rw[if_pos (of_decide_eq_true hb.symm)]
  rw[e] at h
  ac_rfl
  exact h
 have ng:r.2.1≠qa6:=of_decide_eq_false hb.symm
 have es:qeq r p=(qmq r.1).findSome? (qey p):=by
  unfold qeq
  rw[if_neg ng]
 refine v_cut (λτ=>(∀v∈qmq r.1,qey p v=none)/\∃x,τ=[some (.val (rowD r)),some (.val (byD p)),x]) ?_ λnx hnx=>?now
 case now =>
  have ld:∀Y:R->Prop,Y (.own (.lst ((qeo r.1).map wayD)))->qf2 [wayD r.1] Y:=λY y=>⟨r.1,rfl,by lia,y⟩
  dsimp! only[rowD,wayD]
  refine⟨by decide,ld _ ?_⟩
  rfl'
  have e1:D.tup []::(qeo r.1).map wayD=(qmq r.1).map wayD:=rfl
  have ll:(qeo r.1).length<=14:=by
   unfold qeo
   rw[List.length_map,List.length_range]
   lia
  rw[e1]
  refine⟨by lia,qdz (λi τ=>(∀k v,k<i->(qmq r.1)[k]?=some v->qey p v=none)/\∃x,τ=[some (.val (rowD r)),some (.val (byD p)),x]) ⟨λk v hk=>absurd hk (Nat.not_lt_zero _),none,rfl⟩ ?_ ?_⟩
  ·rintro i v τ hv ⟨hb,x,rfl⟩ nx2 hnx2
   obtain⟨ev,_⟩:=quc hv
   have wk:("" : Str)∉v:=by rw[ev];exact λm=>w14.ok.ne (List.mem_of_mem_take m)
   have go:qey p v=none->∀x,nx2 [some (.val (rowD r)),some (.val (byD p)),x]:=λz x=>hnx2 _ ⟨λk v' hk hv'=>by
    rcases Nat.lt_or_ge k i with q|q
    ·exact hb k v' q hv'
    ·have:k=i:=by lia
     rw[this,hv] at hv'
     cases hv'
     exact z,x,rfl⟩
   have lk:=qz1 p v
   dsimp! only[byD,qap,wayD]
   refine⟨wk,?_⟩
   rw[qbr,lk]
   cases e:rowF p v with
  |none=>exact iteF (go (by unfold qey;rw[e];rfl) _)
  |some q =>
    refine iteT ⟨wk,rowD q,rfl,?_⟩
    dsimp! only[rowD]
    by_cases z:q.2.1=qa2
    ·rw[decide_eq_true z]
     refine iteT ?_
     have sa:qey p v=some q:=shutAt_some.mpr ⟨e,z⟩
     have:qeq r p=some q:=by rw[es];exact qzj hv hb sa
     rw[this] at h
     exact⟨wk,h⟩
    ·rw[decide_eq_false z]
     exact iteF (go (by unfold qey;rw[e];exact if_neg z) _)
  ·rintro τ ⟨hb,x,rfl⟩
   exact hnx _ ⟨λv mv=>by
    obtain⟨k,hk⟩:=List.mem_iff_getElem?.mp mv
    exact hb k v (List.getElem?_eq_some_iff.mp hk).1 hk,x,rfl⟩
 rintro τ ⟨hn,x,rfl⟩
 have e:qeq r p=none:=by
  rw[es,List.findSome?_eq_none_iff]
  exact hn
 rw[e] at h
 ac_rfl
 exact h
def qgc:TVS:=(vSeq (vSet 3 (qip (vVar 0) (vVar 2)))
 (vSeq (vSet 4 (qip (vVar 1) (vVar 2)))
 (vSeq (vIfS (vBl (vOp (vIsN id) (vVar 3) (vC .non)))
  (vSet 3 (qan qb4 (qad (vVar 4) (qad (vVar 0) vNil))))
  (vIfS (vBl (vOp (vIsN id) (vVar 4) (vC .non)))
  (vSet 4 (qan qb4 (qad (vVar 3) (qad (vVar 1) vNil))))
  (vIfS (vOrT (vBl (vOp vEq (vVar 3) (vVar 4))) (vBl (qan qby (qad (vVar 3) (qad (vVar 4) vNil)))))
  (vRet (vC .non))
  qbb)))
 (vRet (vIfE (vOrT (vBl (vOp (vIsN id) (vVar 3) (vC .non))) (vBl (vOp (vIsN id) (vVar 4) (vC .non)))) (vC .non) (vTup (qad (vVar 3) (qad (vVar 4) vNil))))))))
abbrev qjt:List Str:=["upper","lower","way","one","other"]
theorem qk8:∀ds Q,qb6 ds Q->qgc (En Q) (qa8 qjt ds):=by
 rintro ds Q ⟨u,l,w,rfl,nu,nl,mw,h⟩
 have s1000:=qbf
 have w14:Wy14 w:=by
  rcases mw with m|m
  ·obtain⟨r,mr,e⟩:=List.mem_map.mp m
   rw[←e];exact nu r mr
  ·obtain⟨r,mr,e⟩:=List.mem_map.mp m
   rw[←e];exact nl r mr
 have lk:∀p:List Row,lkD ((p.map prW).map (·.1)) ((p.map prW).map (·.2)) w=(rowF p w).map rowD:=λp=>by rw[qbr,qz1]
 refine v_cut (λτ=>τ=[some (.val (byD u)),some (.val (byD l)),some (.val (wayD w)),some (.val (optD (rowF u w))),none]) ?_ λnx hnx=>?now
 case now =>
  dsimp! only[byD,qap,wayD]
  refine⟨w14.ok.ne,?_⟩
  rw[lk]
  exact hnx _ rfl
 rintro τ rfl
 refine v_cut (λτ=>τ=[some (.val (byD u)),some (.val (byD l)),some (.val (wayD w)),some (.val (optD (rowF u w))),some (.val (optD (rowF l w)))]) ?_ λnx hnx=>?now
 case now =>
  dsimp! only[byD,qap,wayD]
  refine⟨w14.ok.ne,?_⟩
  rw[lk]
  exact hnx _ rfl
 rintro τ rfl
 have fin:∀a b:Option Row,qdl u l w=(a.bind λa=>b.map λb=>(a,b))->vRet (vIfE (vOrT (vBl (vOp (vIsN id) (vVar 3) (vC .non))) (vBl (vOp (vIsN id) (vVar 4) (vC .non)))) (vC .non) (vTup (qad (vVar 3) (qad (vVar 4) vNil)))) (En Q) [some (.val (byD u)),some (.val (byD l)),some (.val (wayD w)),some (.val (optD a)),some (.val (optD b))]:=λa b e=>by
  rw[e] at h
  cases a with
 |none =>
   dsimp! only[optD]
   exact h
 |some a =>
   cases b with
  |none =>
    dsimp! only[optD,rowD]
    exact h
  |some b =>
    dsimp! only[optD,rowD]
    exact⟨by decide,h⟩
 have so:∀(r:Row) (p:List Row) (Y:R->Prop),Wy14 r.1->Y (.val (optD (qeq r p)))->qb4 [rowD r,byD p] Y:=λr p Y w y=>⟨r,p,rfl,w,y⟩
 refine v_cut (λτ=>∃a b,qdl u l w=(a.bind λa=>b.map λb=>(a,b))/\τ=[some (.val (byD u)),some (.val (byD l)),some (.val (wayD w)),some (.val (optD a)),some (.val (optD b))]) ?_ λnx hnx=>?now
 case now =>
  cases e1:rowF u w with
 |none =>
   cases e2:rowF l w with
  |none =>
    exfalso
    rcases mw with m|m
    ·exact rowF_none.mp e1 m
    ·exact rowF_none.mp e2 m
  |some b =>
    obtain⟨mb,eb⟩:=qdx e2
    have eo:optD (some b)=rowD b:=rfl
    dsimp! only[show optD none=D.non from rfl]
    rw[eo]
    refine iteT (so b u _ (nl b mb) ?_)
    rfl'
    refine hnx _ ⟨qeq b u,some b,?_,rfl⟩
    unfold qdl
    rw[e1,e2]
    dsimp only
    cases qeq b u<;>rfl
 |some a =>
   obtain⟨ma,ea⟩:=qdx e1
   have eo:optD (some a)=rowD a:=rfl
   cases e2:rowF l w with
  |none =>
    dsimp! only[show optD none=D.non from rfl]
    rw[eo]
    refine iteF (iteT (so a l _ (nu a ma) ?_))
    rfl'
    refine hnx _ ⟨some a,qeq a l,?_,rfl⟩
    unfold qdl
    rw[e1,e2]
    dsimp only
    cases qeq a l<;>rfl
  |some b =>
    have eob:optD (some b)=rowD b:=rfl
    have af:∀Y:R->Prop,Y (.val (.bl (decide (FS a.2.1/\FS b.2.1))))->qby [rowD a,rowD b] Y:=λY y=>⟨a,b,rfl,y⟩
    have hr:qdl u l w=if a=b\/(FS a.2.1/\FS b.2.1) then none else some (a,b):=by
     unfold qdl
     rw[e1,e2]
    rfl'
    rw[eo,eob]
    refine iteF (iteF ⟨cmpR a b,Nat.le_trans (depR a) (by decide),?_⟩)
    rw[eqR]
    by_cases z:a=b
    ·rw[decide_eq_true z]
     rw[if_pos (.inl z)] at hr
     rw[hr] at h
     exact iteT h
    ·rw[decide_eq_false z]
     refine iteF (af _ ?_)
     rfl'
     by_cases y:FS a.2.1/\FS b.2.1
     ·rw[decide_eq_true y]
      rw[if_pos (.inr y)] at hr
      rw[hr] at h
      exact iteT h
     ·rw[decide_eq_false y]
      rw[if_neg (λq=>q.elim z y)] at hr
      exact iteF (hnx _ ⟨some a,some b,hr,rfl⟩)
 rintro τ ⟨a,b,e,rfl⟩
 exact fin a b e
def quy:TVS:=(vSeq (qfg 2 (qan qef (qad (vVar 0) vNil)))
 (vSeq (qfg 3 (qan qef (qad (vVar 1) vNil)))
 (qjr 3 (qjr 2 (vSeq (vFor (qcm (qan qd2 (qad (vVar 2) (qad (vVar 3) vNil)))) (qbj 4)
  (vSeq (vSet 5 (qan qb6 (qad (vVar 2) (qad (vVar 3) (qad (vVar 4) vNil)))))
 (vIfS (vBl (vOp (vIsN (!·)) (vVar 5) (vC .non)))
  (vRet (vVar 5))
  qbb)))
 (vRet (vC .non)))))))
abbrev qyy:List Str:=["upper","lower","uppers","lowers","way","pair"]
theorem q14:∀ds Q,qh8 ds Q->quy (En Q) (qa8 qyy ds):=by
 rintro ds Q ⟨u,l,rfl,U,L,h⟩
 have s1000:=qbf
 have ul:=U.len
 have ll:=L.len
 have bw:∀(p:List Row) (Y:R->Prop),MPn p->Y (.own (byD p))->qef [qag p] Y:=λp Y P y=>⟨p,rfl,P.nd,P.nm,by have:=P.len;lia,y⟩
 refine v_cut (λτ=>τ=[some (.val (qag u)),some (.val (qag l)),some (.own (byD u)),none,none,none]) ?_ λnx hnx=>?now
 case now =>
  rfl'
  refine bw u _ U ?_
  rfl'
  exact hnx _ rfl
 rintro τ rfl
 refine v_cut (λτ=>τ=[some (.val (qag u)),some (.val (qag l)),some (.own (byD u)),some (.own (byD l)),none,none]) ?_ λnx hnx=>?now
 case now =>
  rfl'
  refine bw l _ L ?_
  rfl'
  exact hnx _ rfl
 rintro τ rfl
 refine qqo (i:=3) rfl (qqo (i:=2) rfl ?_)
 show vSeq _ _ _ [some (.val (qag u)),some (.val (qag l)),some (.peek (byD u)),some (.peek (byD l)),none,none]
 refine v_cut (λτ=>(∀w,w∈u.map (·.1)\/w∈l.map (·.1)->qdl u l w=none)/\∃x y,τ=[some (.val (qag u)),some (.val (qag l)),some (.peek (byD u)),some (.peek (byD l)),x,y]) ?_ λnx hnx=>?now
 case now =>
  have ko:∀Y:R->Prop,(∀ws:List (List Str),(∀w,w∈ws↔w∈u.map (·.1)\/w∈l.map (·.1))->ws.Pairwise (λv w=>ltW v w=true)->Y (.own (.lst (ws.map wayD))))->qd2 [byD u,byD l] Y:=λY y=>⟨u,l,rfl,by lia,y⟩
  rfl'
  refine ko _ λws hi hs=>?_
  rfl'
  refine qdz (λi τ=>(∀k w,k<i->ws[k]?=some w->qdl u l w=none)/\∃x y,τ=[some (.val (qag u)),some (.val (qag l)),some (.peek (byD u)),some (.peek (byD l)),x,y]) ⟨λk v hk=>absurd hk (Nat.not_lt_zero _),none,none,rfl⟩ ?_ ?_
  ·rintro i w τ hw ⟨hb,x,y,rfl⟩ nx2 hnx2
   have mw:=(hi w).mp (List.mem_of_getElem? hw)
   have ha:∀Y:R->Prop,Y (.val (pairD (qdl u l w)))->qb6 [byD u,byD l,wayD w] Y:=λY y=>⟨u,l,w,rfl,U.nm,L.nm,mw,y⟩
   rfl'
   refine qgl ?_
   rfl'
   refine ha _ ?_
   rfl'
   cases e:qdl u l w with
  |none =>
    refine iteF (hnx2 _ ⟨λk v hk hv=>?_,_,_,rfl⟩)
    rcases Nat.lt_or_ge k i with q|q
    ·exact hb k v q hv
    ·have:k=i:=by lia
     rw[this,hw] at hv
     cases hv
     exact e
  |some p =>
    refine iteT ?_
    have:=h (some p) (.inr ⟨w,mw,rfl,e,λv mv lv=>?_⟩)
    ·exact this
    ·obtain⟨k,hk⟩:=List.mem_iff_getElem?.mp ((hi v).mpr mv)
     rcases Nat.lt_or_ge k i with q|q
     ·exact hb k v q hk
     ·exfalso
      have li:=(List.getElem?_eq_some_iff.mp hw)
      have lk:=(List.getElem?_eq_some_iff.mp hk)
      rcases Nat.lt_or_ge i k with q2|q2
      ·have:=List.pairwise_iff_getElem.mp hs i k li.1 lk.1 q2
       rw[li.2,lk.2] at this
       rw[qid this] at lv
       cases lv
      ·have:k=i:=by lia
       subst this
       rw[hw] at hk
       cases hk
       rw[qq4] at lv
       cases lv
  ·rintro τ ⟨hb,x,y,rfl⟩
   refine hnx _ ⟨λw mw=>?_,x,y,rfl⟩
   obtain⟨k,hk⟩:=List.mem_iff_getElem?.mp ((hi w).mpr mw)
   exact hb k w (List.getElem?_eq_some_iff.mp hk).1 hk
 rintro τ ⟨hn,x,y,rfl⟩
 ac_rfl
 exact h none (.inl ⟨rfl,hn⟩)
def qgt:TVS:=(vSeq (vIfS (vOrT (vBl (vOp vEq (vOp vIxR (vVar 0) (vC (.int 0))) (vTup vNil))) (vBl (vOp vEq (vVar 1) (vC (.int 5)))))
  (vRet (vOp vIxR (vVar 0) (vC (.int 1))))
  qbb)
 (vSeq (vIfS (qds (vBl (vOp vEq (vVar 1) (vC (.int 1)))) (vBl (vOp vEq (vOp vIxR (vVar 0) (vC (.int 1))) (vC (.str ("folder" : Str))))))
  (vRet (vC (.str ("shut" : Str))))
  qbb)
 (vSeq (vIfS (qds (vBl (vOp vEq (vVar 1) (vC (.int 1)))) (vBl (vOp vEq (vOp vIxR (vVar 0) (vC (.int 1))) (vC (.str ("shut" : Str))))))
  (vRet (vC (.str ("folder" : Str))))
  qbb)
 (vSeq (vIfS (vBl (vOp vGt (vVar 1) (vC (.int 1))))
  (vRet (vOp vIxR (vTup (qad (vC (.str ("file" : Str))) (qad (vC (.str ("gone" : Str))) (qad (vC (.str ("folder" : Str))) vNil)))) (vOp vMod (vVar 1) (vC (.int 3)))))
  qbb)
 (vRet (vOp vIxR (vVar 0) (vC (.int 1))))))))
abbrev qld:List Str:=["_law_row","_law_turn"]
theorem qm3:∀ds Q,qcr ds Q->qgt (En Q) (qa8 qld ds):=by
 rintro ds Q ⟨r,t,rfl,t0,hr,h⟩
 have s1000:=qbf
 refine qhz (λc=>c=false->r.1≠[]) (λY y=>?test1) (λ_=>?yes1) λhn=>?rest1
 case test1 =>
  dsimp! only[rowD,wayD]
  refine⟨cmpW _ [],depW _,?_⟩
  have e0:eqD (D.tup (List.map D.str r.1)) (D.tup [])=decide (r.1=[]):=eqW r.1 []
  rw[e0]
  by_cases z:r.1=[]
  ·rw[decide_eq_true z]
   exact iteT (y _ λq=>by cases q)
  ·rw[decide_eq_false z]
   exact iteF (y _ λ_=>z)
 case yes1 =>
  simp! only[rowD]
  exact h _ hr λ_=>rfl
 have hn:=hn rfl
 refine qhz (λ_=>True) (λY y=>?test2) (λ_=>?yes2) λ_=>?rest2
 case test2 =>
  dsimp! only[rowD]
  split
  ·exact y _ trivial
  ·exact y _ trivial
 case yes2 =>
  ac_rfl
  exact h _ (.inr (.inr (.inr (.inl rfl)))) λz=>absurd z hn
 refine qhz (λ_=>True) (λY y=>?test3) (λ_=>?yes3) λ_=>?rest3
 case test3 =>
  dsimp! only[rowD]
  split
  ·exact y _ trivial
  ·exact y _ trivial
 case yes3 =>
  ac_rfl
  exact h _ (.inr (.inr (.inl rfl))) λz=>absurd z hn
 refine qhz (λ_=>True) (λY y=>?test4) (λ_=>?yes4) λ_=>?rest4
 case test4 =>
  rfl'
  exact y _ trivial
 case yes4 =>
  have e:[D.str (Str.ofString "file"),D.str (Str.ofString "gone"),D.str (Str.ofString "folder")]=[qc6,qa6,qaq].map D.str:=rfl
  obtain⟨z,z1,z2⟩:=qcd (xs:=[qc6,qa6,qaq]) (k:=t%3) (Int.emod_nonneg _ (by decide)) (Int.emod_lt_of_pos _ (by decide))
  have mz:qlc z:=by
   have:=List.mem_of_getElem? z2
   simp only[List.mem_cons,List.not_mem_nil,or_false] at this
   rcases this with q|q|q
   ·exact .inl q
   ·exact .inr (.inr (.inr (.inr q)))
   ·exact .inr (.inr (.inl q))
  ac_rfl
  exact⟨by decide,.str z,by rw[e,qb2,z1];rfl,h _ mz λz=>absurd z hn⟩
 simp! only[rowD]
 exact h _ hr λ_=>rfl
def qgu:TVS:=(vSeq (vSet 2 (qan qam (qad (vVar 1) (qad (vC (.int 0)) (qad (vOp vAdd (vF1 vLen (vVar 0)) (vC (.int 1))) vNil)))))
 (vSeq (vSet 3 (qan qam (qad (vVar 1) (qad (vC (.int 1)) (qad (vC (.int 6)) vNil)))))
 (vSeq (vSet 4 (vOp vAdd (vC (.int 3)) (vOp vMul (vC (.int 97)) (qan qam (qad (vVar 1) (qad (vC (.int 4)) (qad (vC (.int 3)) vNil)))))))
 (vSeq (qfg 5 qfj)
 (vSeq (vFor (qgk (vF1 vLen (vVar 0))) (qbj 6)
  (vSeq (vSet 7 (qcn (vOp vIxR (vOp vIxR (vVar 0) (vVar 6)) (vC (.int 0))) qbv (qcz (vNeg (vC (.int 1))))))
 (vSeq (vSet 8 (vOp vEq (vOp vMod (vOp vSub (vVar 6) (vVar 2)) (vVar 4)) (vC (.int 0))))
 (vSeq (vSet 9 (vOp vIxR (vOp vIxR (vVar 0) (vVar 6)) (vC (.int 1))))
 (vSeq (vIfS (vBl (vVar 8))
  (vSet 9 (qan qcr (qad (vOp vIxR (vVar 0) (vVar 6)) (qad (vVar 3) vNil))))
  qbb)
 (vSeq (vIfS (qds (vBl (vOp (vIn id) (vVar 9) (vTup (qad (vC (.str ("gone" : Str))) (qad (vC (.str ("shut" : Str))) vNil))))) (vBl (qmy qbe 5 (qad (vOp vIxR (vOp vIxR (vVar 0) (vVar 6)) (vC (.int 0))) vNil))))
  (vSet 9 (vC (.str ("folder" : Str))))
  qbb)
 (vSeq (vSet 10 (vOp vIxR (vOp vIxR (vVar 0) (vVar 6)) (vC (.int 2))))
 (vSeq (vIfS (vBl (vOp vNeD (vVar 9) (vOp vIxR (vOp vIxR (vVar 0) (vVar 6)) (vC (.int 1)))))
  (vSet 10 (vC (.str ("" : Str))))
  qbb)
 (vSeq (vIfS (qds (vBl (vVar 8)) (vBl (vOp vEq (vVar 9) (vC (.str ("file" : Str))))))
  (vSet 10 (vC (.str ("turned" : Str))))
  qbb)
 (vSeq (vSet 11 (vOrE (vOp vGt (vVar 3) (vC (.int 0))) (qr7 (vVar 8))))
 (vIfS (qds (vBl (vVar 11)) (vOrT (vBl (vOp vEq (vVar 7) (vTup vNil))) (qds (vBl (vDIn id (vVar 7) (vVar 5))) (vBl (vOp (vIn id) (vOp vIxR (qf7 (vVar 5) (vVar 7)) (vC (.int 0))) (vTup (qad (vC (.str ("folder" : Str))) (qad (vC (.str ("shut" : Str))) vNil))))))))
  (qf8 5 (vOp vIxR (vOp vIxR (vVar 0) (vVar 6)) (vC (.int 0))) (vTup (qad (vVar 9) (qad (vVar 10) vNil))))
  qbb)))))))))))
 (vRet (qf6 (qcm (vF1 qel (vF1 qfu (vVar 5)))) (qbj 12) (λ_ Q=>Q true) (vOp vAdd (vTup (qad (vVar 12) vNil)) (qf7 (vVar 5) (vVar 12))) 1)))))))
abbrev qle:List Str:=["_law_rows","_law_cell","_law_spot","_law_turn","_law_every","_law_things","_law_k","_law_over","_law_hit","_law_mark","_law_text","_law_stays"]
theorem qm4:∀ds Q,qcs ds Q->qgu (En Q) (qa8 qle ds):=by
 rintro ds Q ⟨n,p,b',rfl,hn,P,h⟩
 have s1000:=qbf
 have pl:p.length<=60:=Nat.le_trans P.len hn
 have mx:∀(k m:Int) (Y:R->Prop),0<=k->0<m->(∀i,0<=i->i<m->Y (.val (.int i)))->qam [.int b',.int k,.int m] Y:=λk m Y hk hm y=>⟨b',k,m,rfl,hk,hm,λi h0 h1 _=>y i h0 h1⟩
 refine v_cut (λτ=>∃sp:Int,τ=[some (.val (qag p)),some (.val (.int b')),some (.val (.int sp)),none,none,none,none,none,none,none,none,none]) ?_ λnx hnx=>?now
 case now =>
  dsimp! only[qag]
  refine mx _ _ _ (by decide) (by lia) λi _ _=>?_
  rfl'
  exact hnx _ ⟨_,rfl⟩
 rintro τ ⟨sp,rfl⟩
 refine v_cut (λτ=>∃tn:Int,0<=tn/\τ=[some (.val (qag p)),some (.val (.int b')),some (.val (.int sp)),some (.val (.int tn)),none,none,none,none,none,none,none,none]) ?_ λnx hnx=>?now
 case now =>
  rfl'
  refine mx _ _ _ (by decide) (by decide) λi i0 _=>?_
  rfl'
  exact hnx _ ⟨_,i0,rfl⟩
 rintro τ ⟨tn,t0,rfl⟩
 refine v_cut (λτ=>∃ev:Int,(3<=ev/\ev<=300)/\τ=[some (.val (qag p)),some (.val (.int b')),some (.val (.int sp)),some (.val (.int tn)),some (.val (.int ev)),none,none,none,none,none,none,none]) ?_ λnx hnx=>?now
 case now =>
  rfl'
  refine mx _ _ _ (by decide) (by decide) λi i0 i1=>?_
  rfl'
  exact⟨.inl ⟨by decide,by decide⟩,hnx _ ⟨_,⟨by lia,by lia⟩,rfl⟩⟩
 rintro τ ⟨ev,⟨e3,e300⟩,rfl⟩
 refine v_cut (λτ=>τ=[some (.val (qag p)),some (.val (.int b')),some (.val (.int sp)),some (.val (.int tn)),some (.val (.int ev)),some (.own (qap (([]:List Row).map prR))),none,none,none,none,none,none]) ?_ λnx hnx=>?now
 case now =>
  rfl'
  exact hnx _ rfl
 rintro τ rfl
 refine v_cut (λτ=>∃(ks:List Row) (a b c d e f:Option R),NKept (p.map (·.1)) ks/\τ=[some (.val (qag p)),some (.val (.int b')),some (.val (.int sp)),some (.val (.int tn)),some (.val (.int ev)),some (.own (qap (ks.map prR))),a,b,c,d,e,f]) ?_ λnx hnx=>?now
 case now =>
  dsimp! only[qag]
  refine⟨by lia,by lia,qfk (λi τ=>∃(ks:List Row) (a b c d e f:Option R),NKept ((p.take i).map (·.1)) ks/\τ=[some (.val (qag p)),some (.val (.int b')),some (.val (.int sp)),some (.val (.int tn)),some (.val (.int ev)),some (.own (qap (ks.map prR))),a,b,c,d,e,f]) ⟨[],none,none,none,none,none,none,⟨by simp,(λr hr=>by cases hr),(λr hr=>by cases hr),(λr hr=>by cases hr),(λr hr=>by cases hr)⟩,rfl⟩ ?_ ?_⟩
  ·rintro i τ hi ⟨ks,a,b,c,d,e,f,KI,rfl⟩ nx2 hnx2
   obtain⟨r,hr1,hr2⟩:=qcd (xs:=p) (k:=(i:Int)) (by lia) (by lia)
   have hr:p[i]?=some r:=by simpa using hr2
   have hy:atI (p.map rowD) (i:Int)=some (rowD r):=by rw[qb2,hr1];rfl
   have mr:=List.mem_of_getElem? hr
   have et:(p.take (i+1)).map (·.1)=(p.take i).map (·.1)++[r.1]:=by rw[List.take_succ,hr,List.map_append];rfl
   have w14:=P.nm r mr
   have wy:=w14.ok
   have mkr:mkOk r:=P.ok.mr r mr
   have kl:ks.length<=60:=by
    have:=KI.sub.length_le
    rw[List.length_map,List.length_map,List.length_take] at this
    lia
   have lt:∀w∈(p.take i).map (·.1),ltW w r.1=true:=λw mw=>by
    obtain⟨q,mq,e⟩:=List.mem_map.mp mw
    obtain⟨k,hk⟩:=List.mem_iff_getElem?.mp mq
    have lk:=(List.getElem?_eq_some_iff.mp hk).1
    rw[List.length_take] at lk
    rw[List.getElem?_take_of_lt (by lia)] at hk
    have h1:=List.getElem?_eq_some_iff.mp hk
    have h2:=List.getElem?_eq_some_iff.mp hr
    have:=List.pairwise_iff_getElem.mp P.ok.so k i h1.1 h2.1 (by lia)
    rw[h1.2,h2.2] at this
    rw[←e]
    exact this
   have nk:r.1∉ks.map (·.1):=λz=>by
    have:=lt r.1 (KI.sub.mem z)
    rw[qq4] at this
    cases this
   have ks0:∀a b c d e f,nx2 [some (.val (qag p)),some (.val (.int b')),some (.val (.int sp)),some (.val (.int tn)),some (.val (.int ev)),some (.own (qap (ks.map prR))),a,b,c,d,e,f]:=λa b c d e f=>hnx2 _ ⟨ks,a,b,c,d,e,f,by rw[et];exact KI.stay _,rfl⟩
   refine v_cut (λτ=>τ=[some (.val (qag p)),some (.val (.int b')),some (.val (.int sp)),some (.val (.int tn)),some (.val (.int ev)),some (.own (qap (ks.map prR))),some (.val (.int i)),some (.val (wayD r.1.dropLast)),c,d,e,f]) ?_ λnx3 hnx3=>?now
   case now =>
    dsimp! only[qag]
    refine⟨_,hy,?_⟩
    dsimp! only[rowD,wayD,qg2]
    exact hnx3 _ rfl
   rintro τ rfl
   refine v_cut (λτ=>∃hit:Bool,τ=[some (.val (qag p)),some (.val (.int b')),some (.val (.int sp)),some (.val (.int tn)),some (.val (.int ev)),some (.own (qap (ks.map prR))),some (.val (.int i)),some (.val (wayD r.1.dropLast)),some (.val (.bl hit)),d,e,f]) ?_ λnx3 hnx3=>?now
   case now =>
    rfl'
    exact⟨by lia,hnx3 _ ⟨_,rfl⟩⟩
   rintro τ ⟨hit,rfl⟩
   refine v_cut (λτ=>τ=[some (.val (qag p)),some (.val (.int b')),some (.val (.int sp)),some (.val (.int tn)),some (.val (.int ev)),some (.own (qap (ks.map prR))),some (.val (.int i)),some (.val (wayD r.1.dropLast)),some (.val (.bl hit)),some (.val (.str r.2.1)),e,f]) ?_ λnx3 hnx3=>?now
   case now =>
    dsimp! only[qag]
    refine⟨_,hy,?_⟩
    dsimp! only[rowD]
    exact hnx3 _ rfl
   rintro τ rfl
   refine v_cut (λτ=>∃m:Str,(qlc m/\(r.1=[]->m=r.2.1))/\τ=[some (.val (qag p)),some (.val (.int b')),some (.val (.int sp)),some (.val (.int tn)),some (.val (.int ev)),some (.own (qap (ks.map prR))),some (.val (.int i)),some (.val (wayD r.1.dropLast)),some (.val (.bl hit)),some (.val (.str m)),e,f]) ?_ λnx3 hnx3=>?now
   case now =>
    have nr:∀Y:R->Prop,(∀m:Str,qlc m->(r.1=[]->m=r.2.1)->Y (.val (.str m)))->qcr [rowD r,.int tn] Y:=λY y=>⟨r,tn,rfl,t0,qvh mkr,y⟩
    dsimp! only[qag]
    cases hit with
   |true =>
     refine iteT ⟨_,hy,nr _ λm m1 m2=>?_⟩
     rfl'
     exact hnx3 _ ⟨m,⟨m1,m2⟩,rfl⟩
   |false=>exact iteF (hnx3 _ ⟨r.2.1,⟨qvh mkr,λ_=>rfl⟩,rfl⟩)
   rintro τ ⟨m0,⟨ms0,mr0⟩,rfl⟩
   refine v_cut (λτ=>∃m:Str,((m=qa2->qc8 ks r.1=false)/\qlc m/\(r.1=[]->m=r.2.1))/\τ=[some (.val (qag p)),some (.val (.int b')),some (.val (.int sp)),some (.val (.int tn)),some (.val (.int ev)),some (.own (qap (ks.map prR))),some (.val (.int i)),some (.val (wayD r.1.dropLast)),some (.val (.bl hit)),some (.val (.str m)),e,f]) ?_ λnx3 hnx3=>?now
   case now =>
    have us:∀Y:R->Prop,Y (.val (.bl (qc8 ks r.1)))->qbe [qap (ks.map prR),wayD r.1] Y:=λY y=>⟨ks,r.1,rfl,wy.ne,by have:=wy.1;lia,y⟩
    dsimp! only[qag]
    refine⟨by decide,?_⟩
    by_cases q:m0∈[qa6,qa2]
    ·simp only[show decide (m0∈[Str.ofString "gone",Str.ofString "shut"])=true from decide_eq_true q]
     refine iteT ⟨_,hy,?_⟩
     dsimp! only[rowD]
     refine us _ ?_
     rfl'
     cases hs:qc8 ks r.1 with
    |false=>exact iteF (hnx3 _ ⟨m0,⟨λ_=>hs,ms0,mr0⟩,rfl⟩)
    |true=>exact iteT (hnx3 _ ⟨qaq,⟨λz=>absurd z.symm mne.1,.inr (.inr (.inl rfl)),λz=>by rw[z] at hs;cases hs⟩,rfl⟩)
    ·simp only[show decide (m0∈[Str.ofString "gone",Str.ofString "shut"])=false from decide_eq_false q]
     exact iteF (hnx3 _ ⟨m0,⟨λz=>absurd (by simp[z]) q,ms0,mr0⟩,rfl⟩)
   clear ms0 mr0 m0
   rintro τ ⟨m,⟨hm,ms,mrt⟩,rfl⟩
   refine v_cut (λτ=>τ=[some (.val (qag p)),some (.val (.int b')),some (.val (.int sp)),some (.val (.int tn)),some (.val (.int ev)),some (.own (qap (ks.map prR))),some (.val (.int i)),some (.val (wayD r.1.dropLast)),some (.val (.bl hit)),some (.val (.str m)),some (.val (.str r.2.2)),f]) ?_ λnx3 hnx3=>?now
   case now =>
    dsimp! only[qag]
    refine⟨_,hy,?_⟩
    dsimp! only[rowD]
    exact hnx3 _ rfl
   rintro τ rfl
   refine v_cut (λτ=>∃t:Str,mkOk (r.1,m,t)/\τ=[some (.val (qag p)),some (.val (.int b')),some (.val (.int sp)),some (.val (.int tn)),some (.val (.int ev)),some (.own (qap (ks.map prR))),some (.val (.int i)),some (.val (wayD r.1.dropLast)),some (.val (.bl hit)),some (.val (.str m)),some (.val (.str t)),f]) ?_ λnx3 hnx3=>?now
   case now =>
    dsimp! only[qag]
    refine⟨_,hy,?_⟩
    dsimp! only[rowD]
    by_cases em:m=r.2.1
    ·rw[decide_eq_true em]
     refine iteF (hnx3 _ ⟨_,?_,rfl⟩)
     rw[em]
     exact mkr
    ·rw[decide_eq_false em]
     refine iteT (hnx3 _ ⟨_,?_,rfl⟩)
     rcases ms with q|q|q|q|q
     ·exact .inl (.inl q)
     ·exact .inl (.inr q)
     ·exact .inr (.inl ⟨q,rfl⟩)
     ·exact .inr (.inr (.inl q))
     ·exact .inr (.inr (.inr q))
   rintro τ ⟨t0',mt0,rfl⟩
   refine v_cut (λτ=>∃t:Str,mkOk (r.1,m,t)/\τ=[some (.val (qag p)),some (.val (.int b')),some (.val (.int sp)),some (.val (.int tn)),some (.val (.int ev)),some (.own (qap (ks.map prR))),some (.val (.int i)),some (.val (wayD r.1.dropLast)),some (.val (.bl hit)),some (.val (.str m)),some (.val (.str t)),f]) ?_ λnx3 hnx3=>?now
   case now =>
    rfl'
    split
    ·by_cases em:m=qc6
     ·rw[decide_eq_true em]
      exact iteT (hnx3 _ ⟨_,.inl (.inl em),rfl⟩)
     ·rw[decide_eq_false em]
      exact iteF (hnx3 _ ⟨_,mt0,rfl⟩)
    ·exact hnx3 _ ⟨_,mt0,rfl⟩
   clear mt0 t0'
   rintro τ ⟨t,mkt,rfl⟩
   refine v_cut (λτ=>∃st:Bool,τ=[some (.val (qag p)),some (.val (.int b')),some (.val (.int sp)),some (.val (.int tn)),some (.val (.int ev)),some (.own (qap (ks.map prR))),some (.val (.int i)),some (.val (wayD r.1.dropLast)),some (.val (.bl hit)),some (.val (.str m)),some (.val (.str t)),some (.val (.bl st))]) ?_ λnx3 hnx3=>?now
   case now =>
    rfl'
    split
    ·exact hnx3 _ ⟨_,rfl⟩
    ·exact hnx3 _ ⟨_,rfl⟩
   rintro τ ⟨st,rfl⟩
   refine v_if (λc=>c=true->r.1.dropLast=[]\/∃q∈ks,q.1=r.1.dropLast/\FS q.2.1) (λY y=>?test) (λhc=>?yes) λ_=>ks0 _ _ _ _ _ _
   case test =>
    have lk:lkD ((ks.map prR).map (·.1)) ((ks.map prR).map (·.2)) r.1.dropLast=(ks.find? λq=>decide (q.1=r.1.dropLast)).map λq=>thD q.2:=by rw[qbr,qkk]
    dsimp! only[qap,wayD]
    cases st with
   |false=>exact iteF (y _ λz=>by cases z)
   |true =>
     refine iteT ⟨cmpW _ [],depW _,?_⟩
     have e0:eqD (D.tup (List.map D.str r.1.dropLast)) (D.tup [])=decide (r.1.dropLast=[]):=eqW r.1.dropLast []
     rw[e0]
     by_cases z:r.1.dropLast=[]
     ·rw[decide_eq_true z]
      exact iteT (y _ λ_=>.inl z)
     ·rw[decide_eq_false z]
      refine iteF ⟨wy.drop.ne,?_⟩
      rw[lk]
      cases hk:ks.find? λq=>decide (q.1=r.1.dropLast) with
     |none=>exact iteF (y _ λz=>by cases z)
     |some x =>
       refine iteT ⟨wy.drop.ne,thD x.2,rfl,?_⟩
       dsimp! only[thD]
       refine⟨by decide,y _ λz=>.inr ⟨x,List.mem_of_find?_eq_some hk,by simpa using List.find?_some hk,?_⟩⟩
       have z':=of_decide_eq_true (show decide (x.2.1∈[Str.ofString "folder",Str.ofString "shut"])=true from z)
       simp only[List.mem_cons,List.not_mem_nil,or_false] at z'
       exact z'
   case yes =>
    dsimp! only[qag,qap]
    refine⟨by decide,_,hy,?_⟩
    dsimp! only[rowD,wayD]
    refine⟨wy.ne,by lia,?_⟩
    rw[qb8]
    have e':insP (ks.map prR) r.1 (.tup [.str m,.str t])=(ks++[(r.1,m,t)]).map prR:=by
     unfold insP
     rw[qhr,if_neg nk,List.map_append]
     rfl
    rw[e']
    exact hnx2 _ ⟨ks++[(r.1,m,t)],_,_,_,_,_,_,by rw[et];exact KI.put (r:=(r.1,m,t)) lt hm (hc rfl) mkt (λz=>(mrt z).trans (P.ok.rt r mr z)),rfl⟩
  ·rintro τ ⟨ks,a,b,c,d,e,f,KI,rfl⟩
   rw[Int.toNat_natCast,List.take_length] at KI
   exact hnx _ ⟨ks,a,b,c,d,e,f,KI,rfl⟩
 rintro τ ⟨ks,a,b,c,d,e,f,KI,rfl⟩
 have nd:(ks.map (·.1)).Nodup:=(qa0 P.ok.so).sublist KI.sub
 have nm:∀r∈ks,Wy14 r.1:=λr hr=>by
  obtain⟨q,mq,e⟩:=List.mem_map.mp (KI.sub.mem (List.mem_map.mpr ⟨r,hr,rfl⟩))
  rw[←e];exact P.nm q mq
 have kl:ks.length<=n:=by
  have:=KI.sub.length_le
  rw[List.length_map,List.length_map] at this
  exact Nat.le_trans this P.len
 simp! only[qap]
 have ek:(((ks.map prR).map (·.1)).map λw=>D.tup (w.map D.str))=(ks.map (·.1)).map wayD:=by
  rw[List.map_map,List.map_map,List.map_map]
  rfl
 rw[ek]
 refine⟨qeb nd,by first|omega|(simp only[List.length_map];omega),λds' hp hs=>?_⟩
 obtain⟨vs,rfl,hv,hso⟩:=qfy hp hs
 have hvl:vs.length=ks.length:=by rw[hv.length_eq,List.length_map]
 refine L2.qiy (λw=>rowD (w,lkR ks w)) vs (by lia) (λw mw Y N hY=>?_) ?_
 ·have mw':=hv.mem_iff.mp mw
  simp! only[wayD]
  have wk:("" : Str)∉w:=by
   obtain⟨r,mr,er⟩:=List.mem_map.mp mw'
   rw[←er];exact(nm r mr).ok.ne
  exact⟨by decide,wk,thD (lkR ks w),by rw[qbr];exact qi9 nd mw',by show 3<=sizeLine;decide,hY⟩
 ·ac_rfl
  have e:vs.map (λw=>rowD (w,lkR ks w))=(vs.map λw=>(w,lkR ks w)).map rowD:=by rw[List.map_map];rfl
  rw[e]
  obtain⟨p1,p2⟩:=qdy nd hv hso
  generalize vs.map (λw=>(w,lkR ks w))=qs at p1 p2
  have pf:PFS qs:=λr hr=>(KI.fs r (p1.mem_iff.mp hr)).imp id λz=>z.imp id λ⟨x,mx,e⟩=>⟨x,p1.mem_iff.mpr mx,e⟩
  refine h _ ⟨⟨p2,λr hr=>(pf r hr).imp id λz=>z.imp id λ⟨x,mx,e,f⟩=>⟨x,mx,e,f.live⟩,λr hr=>KI.mr r (p1.mem_iff.mp hr),λr hr=>KI.rt r (p1.mem_iff.mp hr)⟩,pf,λr hr=>nm r (p1.mem_iff.mp hr),λr hr z=>?_,by rw[p1.length_eq];exact kl⟩
  have:=KI.ns r (p1.mem_iff.mp hr) z
  have ms:∀v,qbu qs v=qbu ks v:=λv=>by
   cases q:inR ks v with
  |false =>
    rw[qd6 q]
    refine qd6 ?_
    unfold inR at q ⊢
    rw[decide_eq_false_iff_not] at q ⊢
    rw[(p1.map (·.1)).mem_iff]
    exact q
  |true =>
    obtain⟨x,mx,ex⟩:=List.mem_map.mp (of_decide_eq_true q)
    rw[←ex,qd5 nd mx,qd5 (((p1.map (·.1)).nodup_iff).mpr nd) (p1.mem_iff.mpr mx)]
  unfold qc8 at this ⊢
  simp only[ms]
  exact this
def qh1:TVS:=(vSeq (vIfS (qff (vBl (qio vLe vLt (vC (.int 0)) (vVar 1) (vF1 vLen (vVar 0)))))
  qk5
  qbb)
 (vRet (vOp vIxR (vVar 0) (vVar 1))))
abbrev qoe:List Str:=["panes","k"]
theorem qph:∀ds Q,qde ds Q->qh1 (En Q) (qa8 qoe ds):=by
 rintro ds Q ⟨ps,k,rfl,hk,hl,h⟩
 have s1000:=qbf
 refine qhz (λc=>c=false) (λY y=>?test) (λhc=>by cases hc) λ_=>?rest
 case test =>
  dsimp! only[qai]
  rw[decide_eq_true (by lia)]
  exact iteT (y _ (by rw[decide_eq_true (by lia)];rfl))
 simp! only[qai]
 refine⟨qag (ps.getD k []),?_,h⟩
 obtain⟨p,h1,h2⟩:=qcd (xs:=ps) (k:=(k:Int)) (by lia) (by lia)
 have h2':ps[k]?=some p:=by simpa using h2
 rw[qb2,h1,List.getD_eq_getElem?_getD,h2']
 rfl
def qiv:TVS:=(vRet (qf6 (qcm (vVar 0)) (qbj 1) (λ_ Q=>Q true) (vF1 qk4 (vVar 1)) 1))
abbrev qsu:List Str:=["panes"]
theorem quv:∀ds Q,qe9 ds Q->qiv (En Q) (qa8 qsu ds):=by
 rintro ds Q ⟨ps,rfl,hl,h⟩
 have s1000:=qbf
 simp! only[qiv,qai]
 refine qj6 qag ps (by lia) (λp mp Y N hY=>?_) ?_
 ·simp! only[qag]
  exact hY
 ·ac_rfl
  exact h
def qu0:TVS:=(vSeq (vSet 2 (vF1 qk4 (qan qde (qad (vVar 0) (qad (vVar 1) vNil)))))
 (vSeq (vSet 3 (qan qe9 (qad (vOp vAdd (qcn (vVar 0) qbv (qcz (vVar 1))) (qcn (vVar 0) (qcz (vOp vAdd (vVar 1) (vC (.int 1)))) qbv)) vNil)))
 (vSeq (vSet 4 (vVar 1))
 (vSeq (vSet 5 (vC .non))
 (vSeq (qvx (qds (vBl (vOp vGt (vVar 4) (vC (.int 0)))) (vBl (vOp (vIsN id) (vVar 5) (vC .non))))
  (vSeq (vSet 5 (qan qh8 (qad (vVar 2) (qad (vOp vIxR (vVar 3) (vOp vSub (vVar 4) (vC (.int 1)))) vNil))))
 (vIfS (vBl (vOp (vIsN id) (vVar 5) (vC .non)))
  (qpb 4 (vC (.int 1)))
  qbb)))
 (vRet (vTup (qad (vOp vAdd (vOp vAdd (qcn (vVar 3) qbv (qcz (vVar 4))) (vLst (qad (vVar 2) vNil))) (qcn (vVar 3) (qcz (vVar 4)) qbv)) (qad (vVar 4) (qad (vVar 5) vNil))))))))))
abbrev qy1:List Str:=["panes","k","pane","others","number","pair"]
theorem q17:∀ds Q,qgg ds Q->qu0 (En Q) (qa8 qy1 ds):=by
 rintro ds Q ⟨ps,k,rfl,hk,hl,P,h⟩
 have s1000:=qbf
 have mk:ps.getD k []∈ps:=by
  rw[List.getD_eq_getElem?_getD,List.getElem?_eq_getElem hk]
  exact List.getElem_mem hk
 have ol:=qvi hk
 refine v_cut (λτ=>τ=[some (.val (qai ps)),some (.val (.int k)),some (.val (qag (ps.getD k []))),none,none,none]) ?_ λnx hnx=>?now
 case now =>
  have nb:∀Y:R->Prop,Y (.val (qag (ps.getD k [])))->qde [qai ps,.int k] Y:=λY y=>⟨ps,k,rfl,hk,by lia,y⟩
  rfl'
  refine nb _ ?_
  dsimp! only[qag]
  exact hnx _ rfl
 rintro τ rfl
 generalize hp:ps.getD k []=pk at *
 refine v_cut (λτ=>τ=[some (.val (qai ps)),some (.val (.int k)),some (.val (qag pk)),some (.val (qai (osR ps k))),none,none]) ?_ λnx hnx=>?now
 case now =>
  have cp:∀Y:R->Prop,Y (.own (qai (osR ps k)))->qe9 [qai (osR ps k)] Y:=λY y=>⟨osR ps k,rfl,by lia,y⟩
  dsimp! only[qai]
  rw[show (k:Int)+1=((k+1:Nat):Int) by lia,qdj,qg1,←List.map_append]
  refine⟨by rw[List.length_take,List.length_drop];lia,cp _ ?_⟩
  dsimp! only[qai]
  exact hnx _ rfl
 rintro τ rfl
 refine v_cut (λτ=>τ=[some (.val (qai ps)),some (.val (.int k)),some (.val (qag pk)),some (.val (qai (osR ps k))),some (.val (.int k)),none]) ?_ λnx hnx=>?now
 case now =>
  rfl'
  exact hnx _ rfl
 rintro τ rfl
 refine v_cut (λτ=>τ=[some (.val (qai ps)),some (.val (.int k)),some (.val (qag pk)),some (.val (qai (osR ps k))),some (.val (.int k)),some (.val (pairD none))]) ?_ λnx hnx=>?now
 case now =>
  rfl'
  exact hnx _ rfl
 rintro τ rfl
 refine v_cut (λτ=>∃(a:Nat) (o:Option (Row×Row)),qga ps k a o/\τ=[some (.val (qai ps)),some (.val (.int k)),some (.val (qag pk)),some (.val (qai (osR ps k))),some (.val (.int a)),some (.val (pairD o))]) ?_ λnx hnx=>?now
 case now =>
  refine⟨λm τ=>∃(a:Nat) (o:Option (Row×Row)),(m=2*a+(if o.isSome then 0 else 1)/\a<=k/\(∀j,a<=j->j<k->MeetIs pk (ps.getD j []) none)/\(o=none\/(0<a/\o.isSome=true/\MeetIs pk (ps.getD (a-1) []) o)))/\τ=[some (.val (qai ps)),some (.val (.int k)),some (.val (qag pk)),some (.val (qai (osR ps k))),some (.val (.int a)),some (.val (pairD o))],⟨_,k,none,⟨rfl,Nat.le_refl _,λj h1 h2=>absurd h2 (by lia),.inl rfl⟩,rfl⟩,?_⟩
  rintro m τ ⟨a,o,⟨em,ak,hn,ho⟩,rfl⟩
  cases o with
 |some p =>
   rcases ho with z|⟨a0,so,mp⟩
   ·cases z
   rfl'
   rw[decide_eq_true (by lia)]
   refine iteT (iteF ?_)
   exact hnx _ ⟨a,some p,⟨ak,by rw[hp];exact hn,.inr ⟨a0,rfl,by rw[hp];exact mp⟩⟩,rfl⟩
 |none =>
   rfl'
   by_cases a0:0<a
   ·rw[decide_eq_true (by lia)]
    refine iteT (iteT ?_)
    have la:a-1<k:=by lia
    have oa:=q2m hk la
    obtain⟨b,b1,b2⟩:=qcd (xs:=osR ps k) (k:=((a-1:Nat):Int)) (by lia) (by have:=(List.getElem?_eq_some_iff.mp oa).1;lia)
    have b2':(osR ps k)[a-1]?=some b:=by simpa using b2
    rw[oa] at b2'
    have eb:ps.getD (a-1) []=b:=Option.some.inj b2'
    have mb:b∈ps:=by
     rw[←eb,List.getD_eq_getElem?_getD,List.getElem?_eq_getElem (by lia)]
     exact List.getElem_mem _
    have mt:∀Y:R->Prop,(∀o,MeetIs pk b o->Y (.val (pairD o)))->qh8 [qag pk,qag b] Y:=λY y=>⟨pk,b,rfl,P pk mk,P b mb,y⟩
    have hb:atI ((osR ps k).map qag) ((a:Int)-1)=some (qag b):=by rw[show (a:Int)-1=((a-1:Nat):Int) by lia,qb2,b1];rfl
    refine qgl ?_
    dsimp! only[qai]
    refine⟨_,hb,mt _ λo ho=>?_⟩
    rfl'
    cases o with
   |none =>
     refine iteT ?_
     refine⟨2*(a-1)+1,by rw[em];show _<2*a+1;lia,a-1,none,rfl,by lia,λj h1 h2=>?_,.inl rfl,?_⟩
     ·by_cases e:j=a-1
      ·rw[e,eb]
       exact ho
      ·exact hn j (by lia) h2
     ·rw[show (a:Int)-1=((a-1:Nat):Int) by lia]
      exact⟨rfl,rfl⟩
   |some p =>
     refine iteF ?_
     exact⟨2*a,by rw[em];show _<2*a+1;lia,a,some p,rfl,ak,hn,.inr ⟨a0,rfl,by rw[eb];exact ho⟩,rfl,rfl⟩
   ·rw[decide_eq_false (by lia)]
    refine iteF ?_
    exact hnx _ ⟨a,none,⟨ak,by rw[hp];exact hn,.inl ⟨by lia,rfl⟩⟩,rfl⟩
 rintro τ ⟨a,o,S,rfl⟩
 have al:=S.1
 simp! only[qai]
 rw[qdj,qg1]
 refine⟨by decide,by rw[List.length_take];lia,by rw[List.length_append,List.length_map,List.length_take,List.length_drop,List.length_singleton];lia,by decide,?_⟩
 have e:(D.lst (((osR ps k).take a).map qag++[qag pk]++((osR ps k).drop a).map qag))=qai (mov ps k a):=by
  unfold qai mov
  rw[List.map_append,List.map_append,hp]
  rfl
 rw[e]
 exact h a o S
def qux:TVS:=(vSeq (qfg 2 qfj)
 (vSeq (vFor (qcm (vVar 0)) (qbj 3)
  (qf8 2 (vOp vIxR (vVar 3) (vC (.int 0))) (vOp vIxR (vVar 3) (vC (.int 1)))))
 (vSeq (qfg 4 qfj)
 (vSeq (vFor (qcm (vVar 1)) (qbj 3)
  (vSeq (vSet 5 (vDIn (!·) (vOp vIxR (vVar 3) (vC (.int 0))) (vVar 2)))
 (vSeq (vFor (qgk (vF1 vLen (vOp vIxR (vVar 3) (vC (.int 0))))) (qbj 6)
  (vIfS (qds (vBl (vDIn id (qcn (vOp vIxR (vVar 3) (vC (.int 0))) qbv (qcz (vVar 6))) (vVar 2))) (vBl (vOp vNeD (qf7 (vVar 2) (qcn (vOp vIxR (vVar 3) (vC (.int 0))) qbv (qcz (vVar 6)))) (vC (.str ("folder" : Str))))))
  (vSet 5 (vC (.bl false)))
  qbb))
 (vIfS (vBl (vVar 5))
  (qf8 4 (vOp vIxR (vVar 3) (vC (.int 0))) (vTup (qad (vOp vIxR (vVar 3) (vC (.int 1))) (qad (vOp vIxR (vVar 3) (vC (.int 2))) vNil))))
  qbb))))
 (vSeq (vFor (qcm (vVar 0)) (qbj 3)
  (vIfS (vOrT (vBl (vOp vEq (vOp vIxR (vVar 3) (vC (.int 1))) (vC (.str ("file" : Str))))) (vBl (vOp vEq (vOp vIxR (vVar 3) (vC (.int 1))) (vC (.str ("link" : Str))))))
  (qf8 4 (vOp vIxR (vVar 3) (vC (.int 0))) (vTup (qad (vOp vIxR (vVar 3) (vC (.int 1))) (qad (vOp vIxR (vVar 3) (vC (.int 2))) vNil))))
  (vIfS (qds (vBl (vOp vNeD (vOp vIxR (vVar 3) (vC (.int 1))) (vC (.str ("gone" : Str))))) (vBl (vOp vNeD (vOp vIxR (vVar 3) (vC (.int 0))) (vTup vNil))))
  (qf8 4 (vOp vIxR (vVar 3) (vC (.int 0))) (vTup (qad (vC (.str ("folder" : Str))) (qad (vC (.str ("" : Str))) vNil))))
  qbb)))
 (vRet (qf6 (qcm (vF1 qel (vF1 qfu (vVar 4)))) (qbj 7) (λ_ Q=>Q true) (vOp vAdd (vTup (qad (vVar 7) vNil)) (qf7 (vVar 4) (vVar 7))) 1)))))))
abbrev qyx:List Str:=["_law_pane","_law_tree","_law_marks","_law_row","_law_shown","_law_kept","_law_k"]
theorem q13:∀ds Q,qh7 ds Q->qux (En Q) (qa8 qyx ds):=by
 rintro ds Q ⟨p,tr,rfl,P,pn,pl,T,tn,hl,h⟩
 have big:1000<sizeLine:=by decide
 have ndp:=qa0 P.so
 have ndt:=qa0 T.so
 have nd:=qqv ndp ndt
 have ll:(qa1 p tr++putR p).length<=tr.length+bulk p:=qtd p tr
 refine v_cut (λτ=>τ=[some (.val (qag p)),some (.val (qag tr)),some (.own (qap [])),none,none,none,none]) ?_ λnx hnx=>?now
 case now =>
  rfl'
  exact hnx _ rfl
 rintro τ rfl
 refine v_cut (λτ=>∃a,τ=[some (.val (qag p)),some (.val (qag tr)),some (.own (qap (p.map prM))),a,none,none,none]) ?_ λnx hnx=>?now
 case now =>
  dsimp! only[qag]
  refine qdz (λi τ=>∃a,τ=[some (.val (qag p)),some (.val (qag tr)),some (.own (qap ((p.take i).map prM))),a,none,none,none]) ⟨none,rfl⟩ ?_ ?_
  ·rintro i r τ hr ⟨a,rfl⟩ nx2 hnx2
   have mr:=List.mem_of_getElem? hr
   have hi:=(List.getElem?_eq_some_iff.mp hr).1
   simp! only[rowD,qap,wayD]
   refine⟨(pn r mr).ok.ne,?_,?_⟩
   ·rw[List.length_take]
    omega
   ·rw[qb8]
    have ni:¬ r.1∈((p.take i).map prM).map (·.1):=by
     rw[qyw]
     exact qgp ndp hr
    have e:insP ((p.take i).map prM) r.1 (.str r.2.1)=(p.take (i+1)).map prM:=by
     unfold insP
     rw[if_neg ni,List.take_succ,hr,List.map_append]
     rfl
    rw[e]
    exact hnx2 _ ⟨some (.val (rowD r)),rfl⟩
  ·rintro τ ⟨a,rfl⟩
   rw[List.take_length]
   exact hnx _ ⟨a,rfl⟩
 rintro τ ⟨a,rfl⟩
 refine v_cut (λτ=>τ=[some (.val (qag p)),some (.val (qag tr)),some (.own (qap (p.map prM))),a,some (.own (qap [])),none,none]) ?_ λnx hnx=>?now
 case now =>
  rfl'
  exact hnx _ rfl
 rintro τ rfl
 refine v_cut (λτ=>∃a b c,τ=[some (.val (qag p)),some (.val (qag tr)),some (.own (qap (p.map prM))),a,some (.own (qap ((qa1 p tr).map prR))),b,c]) ?_ λnx hnx=>?now
 case now =>
  dsimp! only[qag]
  refine qdz (λi τ=>∃a b c,τ=[some (.val (qag p)),some (.val (qag tr)),some (.own (qap (p.map prM))),a,some (.own (qap ((qa1 p (tr.take i)).map prR))),b,c]) ⟨a,none,none,rfl⟩ ?_ ?_
  ·rintro i r τ hr ⟨a,b,c,rfl⟩ nx2 hnx2
   have mr:=List.mem_of_getElem? hr
   have hi:=(List.getElem?_eq_some_iff.mp hr).1
   have wy:=(tn r mr).ok
   have wl:=wy.1
   have et:tr.take (i+1)=tr.take i++[r]:=by rw[List.take_succ,hr];rfl
   have al:(qa1 p (tr.take i)).length<=700:=by
    have:=List.length_filter_le (λr:Row=>!inR p r.1&&!qbt p r.1) (tr.take i)
    rw[List.length_take] at this
    have e:qa1 p (tr.take i)=(tr.take i).filter λr:Row=>!inR p r.1&&!qbt p r.1:=rfl
    rw[e]
    omega
   refine v_cut (λτ=>τ=[some (.val (qag p)),some (.val (qag tr)),some (.own (qap (p.map prM))),some (.val (rowD r)),some (.own (qap ((qa1 p (tr.take i)).map prR))),some (.val (.bl (!inR p r.1))),c]) ?_ λnx3 hnx3=>?now
   case now =>
    dsimp! only[rowD,qap,wayD]
    have l1:(lkD ((p.map prM).map (·.1)) ((p.map prM).map (·.2)) r.1).isSome=inR p r.1:=by
     rw[qbr,qvf,Option.isSome_map,qgo]
    rw[l1]
    exact⟨wy.ne,hnx3 _ rfl⟩
   rintro τ rfl
   refine v_cut (λτ=>∃c,τ=[some (.val (qag p)),some (.val (qag tr)),some (.own (qap (p.map prM))),some (.val (rowD r)),some (.own (qap ((qa1 p (tr.take i)).map prR))),some (.val (.bl (!inR p r.1&&!qbt p r.1))),c]) ?_ λnx3 hnx3=>?now
   case now =>
    dsimp! only[rowD,wayD]
    refine⟨by omega,by omega,qfk (λk τ=>∃c,τ=[some (.val (qag p)),some (.val (qag tr)),some (.own (qap (p.map prM))),some (.val (rowD r)),some (.own (qap ((qa1 p (tr.take i)).map prR))),some (.val (.bl (!inR p r.1&&!((List.range k).any λj=>qci (qbu p (r.1.take j)))))),c]) ⟨c,?_⟩ ?_ ?_⟩
    ·rw[List.range_zero,List.any_nil,Bool.not_false,Bool.and_true]
     rfl
    ·rintro k τ hk ⟨c,rfl⟩ nx4 hnx4
     have es:((List.range (k+1)).any λj=>qci (qbu p (r.1.take j)))=(((List.range k).any λj=>qci (qbu p (r.1.take j)))||qci (qbu p (r.1.take k))):=by
      rw[List.range_succ,List.any_append,List.any_cons,List.any_nil,Bool.or_false]
     have tk:("" : Str)∉r.1.take k:=λm=>wy.ne (List.mem_of_mem_take m)
     have no:qci (qbu p (r.1.take k))=false->∀c,nx4 [some (.val (qag p)),some (.val (qag tr)),some (.own (qap (p.map prM))),some (.val (rowD r)),some (.own (qap ((qa1 p (tr.take i)).map prR))),some (.val (.bl (!inR p r.1&&!((List.range k).any λj=>qci (qbu p (r.1.take j)))))),c]:=λq c=>hnx4 _ ⟨c,by rw[es,q,Bool.or_false]⟩
     have yes:qci (qbu p (r.1.take k))=true->∀c,nx4 [some (.val (qag p)),some (.val (qag tr)),some (.own (qap (p.map prM))),some (.val (rowD r)),some (.own (qap ((qa1 p (tr.take i)).map prR))),some (.val (.bl false)),c]:=λq c=>hnx4 _ ⟨c,by rw[es,q,Bool.or_true,Bool.not_true,Bool.and_false]⟩
     dsimp! only[rowD,qap,wayD]
     simp only[qdj]
     refine⟨tk,?_⟩
     rw[qbr,qvf]
     cases e:qbu p (r.1.take k) with
    |none =>
      refine iteF ?_
      exact no (by rw[e];rfl) _
    |some m =>
      refine iteT ⟨tk,.str m,rfl,?_⟩
      rfl'
      by_cases q:m=qaq
      ·rw[decide_eq_true q]
       exact iteF (no (by rw[e,q];simp[qci]) _)
      ·rw[decide_eq_false q]
       exact iteT (yes (by rw[e];simp[qci,q]) _)
    ·rintro τ ⟨c,rfl⟩
     exact hnx3 _ ⟨c,rfl⟩
   rintro τ ⟨c,rfl⟩
   dsimp! only[rowD,wayD]
   cases q:(!inR p r.1&&!qbt p r.1) with
  |false =>
    refine iteF (hnx2 _ ⟨some (.val (rowD r)),some (.val (.bl false)),c,?_⟩)
    have:qa1 p (tr.take (i+1))=qa1 p (tr.take i):=by
     unfold qa1
     rw[et,List.filter_append,List.filter_cons_of_neg (by rw[q];exact Bool.false_ne_true),List.filter_nil,List.append_nil]
    rw[this]
    rfl
  |true =>
    refine iteT ?_
    dsimp! only[qap,wayD]
    refine⟨by decide,wy.ne,by omega,?_⟩
    rw[qb8]
    have this:qa1 p (tr.take (i+1))=qa1 p (tr.take i)++[r]:=by
     unfold qa1
     rw[et,List.filter_append,List.filter_cons_of_pos (by rw[q]),List.filter_nil]
    have ins:insP ((qa1 p (tr.take i)).map prR) r.1 (.tup [.str r.2.1,.str r.2.2])=(qa1 p (tr.take (i+1))).map prR:=by
     unfold insP
     rw[qhr,if_neg,this,List.map_append]
     ·rfl
     ·intro m
      obtain⟨o,mo,eo⟩:=List.mem_map.mp m
      exact qgp ndt hr (List.mem_map.mpr ⟨o,(List.mem_filter.mp mo).1,eo⟩)
    rw[ins]
    exact hnx2 _ ⟨some (.val (rowD r)),some (.val (.bl true)),c,rfl⟩
  ·rintro τ ⟨a,b,c,rfl⟩
   rw[List.take_length]
   exact hnx _ ⟨a,b,c,rfl⟩
 clear a
 rintro τ ⟨a,b,c,rfl⟩
 refine v_cut (λτ=>∃a,τ=[some (.val (qag p)),some (.val (qag tr)),some (.own (qap (p.map prM))),a,some (.own (qap ((qa1 p tr++putR p).map prR))),b,c]) ?_ λnx hnx=>?now
 case now =>
  dsimp! only[qag]
  refine qdz (λi τ=>∃a,τ=[some (.val (qag p)),some (.val (qag tr)),some (.own (qap (p.map prM))),a,some (.own (qap ((qa1 p tr++qbs (p.take i)).map prR))),b,c]) ⟨a,?_⟩ ?_ ?_
  ·show _=[_,_,_,_,some (R.own (qap ((qa1 p tr++[]).map prR))),_,_]
   rw[List.append_nil]
   rfl
  ·rintro i r τ hr ⟨a,rfl⟩ nx2 hnx2
   have mr:=List.mem_of_getElem? hr
   have hi:=(List.getElem?_eq_some_iff.mp hr).1
   have wy:=(pn r mr).ok
   have et:p.take (i+1)=p.take i++[r]:=by rw[List.take_succ,hr];rfl
   have al:(qa1 p tr++qbs (p.take i)).length<=950:=by
    have h1:=List.length_filter_le (λr:Row=>!inR p r.1&&!qbt p r.1) tr
    have h2:(qbs (p.take i)).length<=(p.take i).length:=by
     unfold qbs
     rw[List.length_map]
     exact List.length_filter_le _ _
    rw[List.length_take] at h2
    have e:qa1 p tr=tr.filter λr:Row=>!inR p r.1&&!qbt p r.1:=rfl
    rw[List.length_append,e]
    omega
   have nin:r.1∉(qa1 p tr++qbs (p.take i)).map (·.1):=λm=>by
    rw[List.map_append] at m
    rcases List.mem_append.mp m with m|m
    ·obtain⟨o,mo,eo⟩:=List.mem_map.mp m
     have:=(List.mem_filter.mp mo).2
     have i1:inR p o.1=true:=decide_eq_true (List.mem_map.mpr ⟨r,mr,eo.symm⟩)
     rw[i1] at this
     cases this
    ·obtain⟨o,mo,eo⟩:=List.mem_map.mp m
     unfold qbs at mo
     obtain⟨o2,mo2,rfl⟩:=List.mem_map.mp mo
     have e2:o2.1=r.1:=by
      rw[←eo]
      split<;>rfl
     exact qgp ndp hr (List.mem_map.mpr ⟨o2,(List.mem_filter.mp mo2).1,e2⟩)
   have step:qbs (p.take (i+1))=qbs (p.take i)++qbs [r]:=by
    unfold qbs
    rw[et,List.filter_append,List.map_append]
   have ins:∀x:Str×Str,insP ((qa1 p tr++qbs (p.take i)).map prR) r.1 (thD x)=(qa1 p tr++(qbs (p.take i)++[(r.1,x)])).map prR:=λx=>by
    unfold insP
    rw[qhr,if_neg nin,←List.append_assoc,List.map_append (l₂:=[(r.1,x)])]
    rfl
   have put:∀x:Str×Str,qbs [r]=[(r.1,x)]->("" : Str)∉r.1/\(qa1 p tr++qbs (p.take i)).length<sizeLine/\nx2 [some (.val (qag p)),some (.val (qag tr)),some (.own (qap (p.map prM))),some (.val (rowD r)),some (.own (qap (insP ((qa1 p tr++qbs (p.take i)).map prR) r.1 (thD x)))),b,c]:=λx e=>⟨wy.ne,by omega,by
    rw[ins]
    exact hnx2 _ ⟨some (.val (rowD r)),by rw[step,e]⟩⟩
   have skip:qbs [r]=[]->nx2 [some (.val (qag p)),some (.val (qag tr)),some (.own (qap (p.map prM))),some (.val (rowD r)),some (.own (qap ((qa1 p tr++qbs (p.take i)).map prR))),b,c]:=λe=>hnx2 _ ⟨some (.val (rowD r)),by rw[step,e,List.append_nil]⟩
   have e0:eqD (.tup (r.1.map D.str)) (.tup [])=decide (r.1=[]):=eqW r.1 []
   dsimp! only[rowD,wayD,qap]
   rw[qb8,qb8]
   by_cases m1:r.2.1=qc6
   ·rw[decide_eq_true m1]
    exact iteT ⟨by decide,put r.2 (by simp[qbs,m1])⟩
   rw[decide_eq_false m1]
   refine iteF ?_
   by_cases m2:r.2.1=qdm
   ·rw[decide_eq_true m2]
    exact iteT ⟨by decide,put r.2 (by simp[qbs,m2])⟩
   rw[decide_eq_false m2]
   refine iteF ?_
   by_cases m3:r.2.1=qa6
   ·rw[decide_eq_true m3]
    exact iteF (skip (by simp only[qbs,List.filter_cons,List.filter_nil,decide_eq_false m1,decide_eq_false m2,decide_eq_true m3];rfl))
   rw[decide_eq_false m3]
   refine iteT ⟨cmpW _ [],depW _,?_⟩
   rw[e0]
   by_cases h0:r.1=[]
   ·rw[decide_eq_true h0]
    exact iteF (skip (by simp only[qbs,List.filter_cons,List.filter_nil,decide_eq_false m1,decide_eq_false m2,decide_eq_false m3,decide_eq_true h0];rfl))
   rw[decide_eq_false h0]
   refine iteT ⟨by decide,put (qaq,qdb) ?_⟩
   simp only[qbs,List.filter_cons,List.filter_nil,decide_eq_false m1,decide_eq_false m2,decide_eq_false m3,decide_eq_false h0]
   simp[m1,m2]
  ·rintro τ ⟨a,rfl⟩
   rw[List.take_length,qqw P]
   exact hnx _ ⟨a,rfl⟩
 clear a
 rintro τ ⟨a,rfl⟩
 generalize hL:qa1 p tr++putR p=L at *
 have wk:∀w∈L.map (·.1),("" : Str)∉w:=λw mw=>by
  obtain⟨r,mr,rfl⟩:=List.mem_map.mp mw
  rw[←hL] at mr
  rcases List.mem_append.mp mr with q|q
  ·exact(tn r (List.mem_filter.mp q).1).ok.ne
  ·unfold putR at q
   obtain⟨o,mo,rfl⟩:=List.mem_map.mp q
   rw[qhn]
   exact(pn o (List.mem_filter.mp mo).1).ok.ne
 dsimp! only[qap]
 have ek:(((L.map prR).map (·.1)).map λw=>D.tup (w.map D.str))=(L.map (·.1)).map wayD:=by
  rw[List.map_map,List.map_map,List.map_map]
  rfl
 refine⟨?_,?_,λds hp hs=>?_⟩
 ·rw[ek]
  exact qeb nd
 ·(first|omega|(simp only[List.length_map];omega))
 ·rw[ek] at hp
  obtain⟨vs,rfl,hv,hso⟩:=qfy hp hs
  have hvl:vs.length=L.length:=by rw[hv.length_eq,List.length_map]
  refine qiy (λw=>rowD (w,lkR L w)) vs (Nat.le_trans (show _<=1000 by omega) qba) (λw mw Y N hY=>?_) ?_
  ·have mw':=hv.mem_iff.mp mw
   dsimp! only[wayD]
   exact⟨by decide,wk w mw',thD (lkR L w),by rw[qbr];exact qi9 nd mw',by show 3<=sizeLine;decide,hY⟩
  ·rfl'
   have e:vs.map (λw=>rowD (w,lkR L w))=(vs.map λw=>(w,lkR L w)).map rowD:=by rw[List.map_map];rfl
   rw[e]
   obtain⟨p1,p2⟩:=qdy nd hv hso
   have el:qck p tr=vs.map λw=>(w,lkR L w):=by
    unfold qck
    rw[hL]
    exact qn3 p1 p2
   have p3:(qck p tr).Perm (qa1 p tr++putR p):=by rw[el,hL];exact p1
   have p4:qbg (qck p tr):=by rw[el];exact p2
   rw[←el]
   refine h (qkd P T p3 p4) (λr hr=>?_) (by rw[p3.length_eq,hL];exact ll)
   rcases List.mem_append.mp (p3.mem_iff.mp hr) with q|q
   ·exact tn r (List.mem_filter.mp q).1
   ·unfold putR at q
    obtain⟨o,mo,rfl⟩:=List.mem_map.mp q
    rw[qhn]
    exact pn o (List.mem_filter.mp mo).1
def qpz:TVS:=(vSeq (vIfS (vOrT (qff (vBl (qft .list (vVar 0)))) (vBl (vOp vNeD (vF1 vLen (vVar 0)) (vF1 vLen (vVar 1)))))
  (vRet (vC (.bl false)))
  qbb)
 (vSeq (vFor (qgk (vF1 vLen (vVar 1))) (qbj 2)
  (vSeq (vSet 3 (vOp vIxR (vVar 0) (vVar 2)))
 (vSeq (vIfS (vOrT (qff (vBl (qft .tuple (vVar 3)))) (vOrT (vBl (vOp vNeD (vF1 vLen (vVar 3)) (vC (.int 3)))) (qff (vBl (qft .tuple (vOp vIxR (vVar 3) (vC (.int 0))))))))
  (vRet (vC (.bl false)))
  qbb)
 (vIfS (vOrT (qff (vBl (qft .str (vOp vIxR (vVar 3) (vC (.int 1)))))) (vOrT (qff (vBl (qft .str (vOp vIxR (vVar 3) (vC (.int 2)))))) (vBl (vOp vNeD (vVar 3) (vOp vIxR (vVar 1) (vVar 2))))))
  (vRet (vC (.bl false)))
  qbb))))
 (vRet (vC (.bl true)))))
abbrev qyz:List Str:=["_law_found","_law_due","_law_k","_law_row"]
theorem q15:∀ds Q,g_same ds Q->qpz (En Q) (qa8 qyz ds):=by
 rintro ds Q ⟨rs,rfl,hl,h⟩
 simp! only[qpz,qag]
 refine⟨by omega,by omega,qfk (λi τ=>∃kv rv,τ=[some (.val (.lst (rs.map rowD))),some (.val (.lst (rs.map rowD))),kv,rv]) ⟨none,none,rfl⟩ ?_ ?_⟩
 ·rintro i τ hi ⟨kv,rv,rfl⟩ nx hnx
  ac_rfl
  obtain⟨y,hy,_⟩:=qcd (xs:=rs) (k:=(i:Int)) (by omega) (by omega)
  have hy2:atI (rs.map rowD) (i:Int)=some (rowD y):=by rw[qb2,hy];rfl
  refine⟨_,hy2,?_⟩
  have e3:decide (((3:Nat):Int)=3)=true:=by decide
  have hy3:atI (rs.map rowD) (i:Int)=some (.tup [.tup (y.1.map D.str),.str y.2.1,.str y.2.2]):=hy2
  simp! only[rowD,wayD]
  rw[e3]
  ac_rfl
  refine⟨_,hy3,cmpR y y,Nat.le_trans (depR y) (by decide),?_⟩
  simp only[qe6]
  exact hnx _ ⟨_,_,rfl⟩
 ·rintro τ ⟨kv,rv,rfl⟩
  ac_rfl
  exact h
def qh2:TVS:=(vSeq (qfg 3 (vLst vNil))
 (vSeq (vFor (qgk (vVar 2)) (qbj 4)
  (vSeq (vSet 5 (qan qbk (qad (vVar 0) (qad (vOp vAdd (vC (.int 3)) (vVar 4)) vNil))))
 (vIfS (qds (vBl (vOp vGt (vVar 4) (vC (.int 0)))) (vBl (vOp vEq (vOp vMod (vOp vDiv (vVar 1) (vC (.int 7))) (vC (.int 2))) (vC (.int 1)))))
  (qek 3 (qan qcs (qad (vOp vIxR (vVar 3) (vOp vSub (vVar 4) (vC (.int 1)))) (qad (vVar 5) vNil))))
  (vIfS (vBl (vOp vEq (qan qam (qad (vVar 5) (qad (vC (.int 6)) (qad (vC (.int 3)) vNil)))) (vC (.int 0))))
  (qek 3 (qan qdk (qad (qpd (vVar 0) (qcz (vOp vAdd (vC (.int 2)) (vVar 4))) (qcz (vC (.int 47))) (qcz (vC (.int 5)))) (qad (vVar 1) vNil))))
  (qek 3 (qan qdk (qad (qpd (vVar 0) (qcz (vOp vAdd (vC (.int 2)) (vVar 4))) (qcz (vC (.int 47))) (qcz (vC (.int 5)))) (qad (vOp vAdd (vVar 1) (vOp vMul (vC (.int 5184)) (vOp vAdd (vOp vMul (vC (.int 7)) (vVar 4)) (vC (.int 7))))) vNil))))))))
 (qmz 3)))
abbrev qof:List Str:=["_law_script","_law_stem","_law_many","_law_panes","_law_j","_law_cell"]
theorem qpi:∀ds Q,qdf ds Q->qh2 (En Q) (qa8 qof ds):=by
 rintro ds Q ⟨ns,st,m,rfl,h0,h1,hm,h⟩
 have s1000:=qbf
 refine v_cut (λτ=>τ=[some (.val (.scr ns)),some (.val (.int st)),some (.val (.int m)),some (.own (qai [])),none,none]) ?_ λnx hnx=>?now
 case now =>
  rfl'
  exact hnx _ rfl
 rintro τ rfl
 refine v_cut (λτ=>∃(ps:List (List Row)) (x y:Option R),(ps.length=m/\PsOk ps)/\τ=[some (.val (.scr ns)),some (.val (.int st)),some (.val (.int m)),some (.own (qai ps)),x,y]) ?_ λnx hnx=>?now
 case now =>
  rfl'
  refine⟨by lia,by lia,qfk (λi τ=>∃(ps:List (List Row)) (x y:Option R),(ps.length=i/\PsOk ps)/\τ=[some (.val (.scr ns)),some (.val (.int st)),some (.val (.int m)),some (.own (qai ps)),x,y]) ⟨[],none,none,⟨rfl,λp hp=>by cases hp⟩,rfl⟩ ?_ ?_⟩
  ·rintro i τ hi ⟨ps,x,y,⟨pl,P⟩,rfl⟩ nx2 hnx2
   refine v_cut (λτ=>∃c:Int,τ=[some (.val (.scr ns)),some (.val (.int st)),some (.val (.int m)),some (.own (qai ps)),some (.val (.int i)),some (.val (.int c))]) ?_ λnx3 hnx3=>?now
   case now =>
    dsimp! only[qbk]
    exact⟨by lia,hnx3 _ ⟨_,rfl⟩⟩
   rintro τ ⟨c,rfl⟩
   have put:∀p,SPn 10 p->∀x y,nx2 [some (.val (.scr ns)),some (.val (.int st)),some (.val (.int m)),some (.own (qai (ps++[p]))),x,y]:=λp hp x y=>hnx2 _ ⟨ps++[p],x,y,⟨by rw[List.length_append,pl];rfl,λq hq=>by
    rcases List.mem_append.mp hq with z|z
    ·exact P q z
    ·rw[List.mem_singleton.mp z];exact hp⟩,rfl⟩
   have ea:∀p,(qai (ps++[p]))=.lst (ps.map qag++[qag p]):=λp=>by unfold qai;rw[List.map_append];rfl
   have pb:∀(s:Int) (Y:R->Prop),0<=s->s<10 ^ 19->(∀p,SPn 10 p->Y (.own (qag p)))->qdk [.lst ((qer ns (some (2+(i:Int))) (some 47) (some 5)).map D.int),.int s] Y:=λs Y s0 s1 y=>by
    have:=q3a ns i (by lia)
    exact⟨_,s,rfl,by lia,s0,s1,λp hp=>y p ⟨hp.ok,hp.fs,hp.nm,hp.ns,Nat.le_trans hp.len (by lia)⟩⟩
   refine v_if (λb=>b=true->0<i) (λY y=>?test) (λhy=>?yes) λ_=>?no
   case test =>
    rfl'
    by_cases i0:0<i
    ·rw[decide_eq_true (by lia)]
     exact iteT (y _ λ_=>i0)
    ·rw[decide_eq_false (by lia)]
     exact iteF (y _ λz=>by cases z)
   case yes =>
    have i0:=hy rfl
    obtain⟨b,b1,b2⟩:=qcd (xs:=ps) (k:=((i-1:Nat):Int)) (by lia) (by lia)
    have mb:=List.mem_of_getElem? b2
    have hb:atI (ps.map qag) ((i:Int)-1)=some (qag b):=by rw[show (i:Int)-1=((i-1:Nat):Int) by lia,qb2,b1];rfl
    have np:∀Y:R->Prop,(∀q,SPn 10 q->Y (.own (qag q)))->qcs [qag b,.int c] Y:=λY z=>⟨10,b,c,rfl,by decide,P b mb,z⟩
    dsimp! only[qai]
    refine⟨_,hb,np _ λq hq=>?_⟩
    rfl'
    have:=put q hq
    rw[ea] at this
    exact⟨by lia,this _ _⟩
   case no =>
    have mx:∀(k n:Int) (Y:R->Prop),0<=k->0<n->(∀i,0<=i->i<n->Y (.val (.int i)))->qam [.int c,.int k,.int n] Y:=λk n Y hk hn y=>⟨c,k,n,rfl,hk,hn,λi h0 h1 _=>y i h0 h1⟩
    refine v_if (λ_=>True) (λY y=>?test2) (λ_=>?yes2) λ_=>?no2
    case test2 =>
     rfl'
     refine mx _ _ _ (by decide) (by decide) λ_ _ _=>?_
     rfl'
     exact y _ trivial
    case yes2 =>
     dsimp! only[qai]
     refine⟨by decide,pb _ _ h0 (Int.lt_trans h1 (by decide)) λq hq=>?_⟩
     rfl'
     have:=put q hq
     rw[ea] at this
     exact⟨by lia,this _ _⟩
    case no2 =>
     dsimp! only[qai]
     refine⟨by decide,.inl ⟨by decide,by decide⟩,.inl ⟨by decide,by decide⟩,pb _ _ (by lia) (by lia) λq hq=>?_⟩
     rfl'
     have:=put q hq
     rw[ea] at this
     exact⟨by lia,this _ _⟩
  ·rintro τ ⟨ps,x,y,⟨pl,P⟩,rfl⟩
   exact hnx _ ⟨ps,x,y,⟨by rw[pl];lia,P⟩,rfl⟩
 rintro τ ⟨ps,x,y,⟨pl,P⟩,rfl⟩
 ac_rfl
 exact h ps pl P
def quz:TVS:=(vSeq (vFor (qcm (vVar 0)) (qbj 2)
  (vSet 1 (qan qh7 (qad (vVar 2) (qad (vVar 1) vNil)))))
 (vRet (vVar 1)))
abbrev qy0:List Str:=["_law_panes","_law_tree","_law_pane"]
theorem q16:∀ds Q,qg9 ds Q->quz (En Q) (qa8 qy0 ds):=by
 rintro ds Q ⟨ps,t,rfl,pl,P,T,tn,tl,h⟩
 have s1000:=qbf
 refine v_cut (λτ=>∃x,τ=[some (.val (qai ps)),some (.val (qag (qcy t ps))),x]) ?_ λnx hnx=>?now
 case now =>
  dsimp! only[qai]
  refine qdz (λi τ=>∃x,(TreeOk (qcy t (ps.take i))/\NmOk (qcy t (ps.take i))/\(qcy t (ps.take i)).length<=13+10*i)/\τ=[some (.val (qai ps)),some (.val (qag (qcy t (ps.take i)))),x]) ⟨none,⟨T,tn,by show t.length<=_;lia⟩,rfl⟩ ?_ ?_
  ·rintro i q τ hq ⟨x,⟨T1,n1,l1⟩,rfl⟩ nx2 hnx2
   have Q1:=P q (List.mem_of_getElem? hq)
   have li:=(List.getElem?_eq_some_iff.mp hq).1
   have bl:bulk q<=10:=Nat.le_trans (List.length_filter_le _ _) Q1.len
   have et:qcy t (ps.take (i+1))=qck q (qcy t (ps.take i)):=by
    rw[show ps.take (i+1)=ps.take i++[q] by rw[List.take_succ,hq];rfl,qc7]
    rfl
   have ld:∀Y:R->Prop,(TreeOk (qck q (qcy t (ps.take i)))->NmOk (qck q (qcy t (ps.take i)))->(qck q (qcy t (ps.take i))).length<=(qcy t (ps.take i)).length+bulk q->Y (.own (qag (qck q (qcy t (ps.take i))))))->qh7 [qag q,qag (qcy t (ps.take i))] Y:=λY y=>⟨q,_,rfl,Q1.ok,λr hr=>(Q1.nm r hr).ok,by have:=Q1.len;lia,T1,n1,by lia,y⟩
   rfl'
   refine ld _ λt1 t2 t3=>?_
   rfl'
   refine hnx2 _ ⟨some (.val (qag q)),?_,?_⟩
   ·rw[et]
    exact⟨t1,t2,by lia⟩
   ·rw[et]
  ·rintro τ ⟨x,_,rfl⟩
   rw[List.take_length]
   exact hnx _ ⟨x,rfl⟩
 rintro τ ⟨x,rfl⟩
 ac_rfl
 exact h
def qgd:TVS:=(vSeq (vIfS (vOrT (qff (vBl (qft .list (vVar 0)))) (vBl (vOp vNeD (vF1 vLen (vVar 0)) (vF1 vLen (vVar 1)))))
  (vRet (vC (.bl false)))
  qbb)
 (vSeq (vSet 4 (vOp vAdd (vOp vAdd (vOp vAdd (qcn (vVar 1) qbv (qcz (vVar 2))) (vLst (qad (vOp vIxR (vVar 1) (vVar 3)) vNil))) (qcn (vVar 1) (qcz (vVar 2)) (qcz (vVar 3)))) (qcn (vVar 1) (qcz (vOp vAdd (vVar 3) (vC (.int 1)))) qbv)))
 (vSeq (vFor (qgk (vF1 vLen (vVar 4))) (qbj 5)
  (vIfS (qff (vBl (qan g_same (qad (vOp vIxR (vVar 0) (vVar 5)) (qad (vOp vIxR (vVar 4) (vVar 5)) vNil)))))
  (vRet (vC (.bl false)))
  qbb))
 (vRet (vC (.bl true))))))
abbrev qju:List Str:=["_law_given","_law_panes","_law_at","_law_k","_law_due","_law_j"]
theorem qk9:∀ds Q,qb7 ds Q->qgd (En Q) (qa8 qju ds):=by
 rintro ds Q ⟨ps,k,a,rfl,hk,ha,pl,P,h⟩
 have s1000:=qbf
 have ml:(mov ps k a).length=ps.length:=qmf hk
 refine qhz (λc=>c=false) (λY y=>?test) (λhc=>by cases hc) λ_=>?rest
 case test =>
  dsimp! only[qai]
  exact y _ (by rw[ml,decide_eq_true rfl];rfl)
 refine v_cut (λτ=>τ=[some (.val (qai (mov ps k a))),some (.val (qai ps)),some (.val (.int a)),some (.val (.int k)),some (.val (qai (mov ps k a))),none]) ?_ λnx hnx=>?now
 case now =>
  obtain⟨b,b1,b2⟩:=qcd (xs:=ps) (k:=(k:Int)) (by lia) (by lia)
  have b2':ps[k]?=some b:=by simpa using b2
  have eb:ps.getD k []=b:=by rw[List.getD_eq_getElem?_getD,b2'];rfl
  have hb:atI (ps.map qag) (k:Int)=some (qag b):=by rw[qb2,b1];rfl
  have em:=qkl hk ha
  dsimp! only[qai]
  rw[show (k:Int)+1=((k+1:Nat):Int) by lia,qdj,qg1,qs1 ps ha (by lia)]
  refine⟨_,hb,by decide,by rw[List.length_take];lia,?_,?_,?_⟩
  ·simp only[List.length_append,List.length_map,List.length_take,List.length_drop,List.length_singleton]
   lia
  ·simp only[List.length_append,List.length_map,List.length_take,List.length_drop,List.length_singleton]
   lia
  ·have e:(D.lst ((ps.take a).map qag++[qag b]++((ps.take k).drop a).map qag++(ps.drop (k+1)).map qag))=.lst ((mov ps k a).map qag):=by
    rw[em,eb,List.map_append,List.map_append,List.map_append]
    rfl
   rw[e]
   exact hnx _ rfl
 rintro τ rfl
 refine v_cut (λτ=>∃x,τ=[some (.val (qai (mov ps k a))),some (.val (qai ps)),some (.val (.int a)),some (.val (.int k)),some (.val (qai (mov ps k a))),x]) ?_ λnx hnx=>?now
 case now =>
  dsimp! only[qai]
  refine⟨by lia,by lia,qfk (λi τ=>∃x,τ=[some (.val (qai (mov ps k a))),some (.val (qai ps)),some (.val (.int a)),some (.val (.int k)),some (.val (qai (mov ps k a))),x]) ⟨none,rfl⟩ ?_ ?_⟩
  ·rintro i τ hi ⟨x,rfl⟩ nx2 hnx2
   obtain⟨b,b1,b2⟩:=qcd (xs:=mov ps k a) (k:=(i:Int)) (by lia) (by lia)
   have mb:=qmg hk (List.mem_of_getElem? b2)
   have hb:atI ((mov ps k a).map qag) (i:Int)=some (qag b):=by rw[qb2,b1];rfl
   have sm:∀Y:R->Prop,Y (.val (.bl true))->g_same [qag b,qag b] Y:=λY y=>⟨b,rfl,by have:=(P b mb).len;lia,y⟩
   dsimp! only[qai]
   refine⟨_,hb,_,hb,sm _ ?_⟩
   rfl'
   exact hnx2 _ ⟨_,rfl⟩
  ·rintro τ ⟨x,rfl⟩
   exact hnx _ ⟨x,rfl⟩
 rintro τ ⟨x,rfl⟩
 ac_rfl
 exact h
def qy5:TVS:=(vSeq (vSet 1 (vOp vMod (qan qbk (qad (vVar 0) (qad (vC (.int 0)) vNil))) (vOp vPow (vC (.int 10)) (vC (.int 18)))))
 (vSeq (vSet 2 (qan qdf (qad (vVar 0) (qad (vVar 1) (qad (vOp vAdd (vC (.int 1)) (qan qam (qad (qan qbk (qad (vVar 0) (qad (vC (.int 1)) vNil))) (qad (vC (.int 3)) (qad (vC (.int 5)) vNil))))) vNil)))))
 (vSeq (vSet 3 (vOp vMod (vOp vDiv (qan qbk (qad (vVar 0) (qad (vC (.int 1)) vNil))) (vC (.int 5))) (vF1 vLen (vVar 2))))
 (vSeq (vSet 4 (qan qd3 (qad (qcn (vVar 0) (qcz (vC (.int 6))) (qcz (vC (.int 18)))) (qad (vVar 1) vNil))))
 (vSeq (vSet 5 (qan qgg (qad (qf6 (qcm (vVar 2)) (qbj 8) (λ_ Q=>Q true) (vF1 qk4 (vVar 8)) 1) (qad (vVar 3) vNil))))
 (vSeq (vIfS (vOrT (qff (vBl (qft .tuple (vVar 5)))) (vOrT (vBl (vOp vNeD (vF1 vLen (vVar 5)) (vC (.int 3)))) (vOrT (qff (vBl (qft .int (vOp vIxR (vVar 5) (vC (.int 1)))))) (vBl (qft .bool (vOp vIxR (vVar 5) (vC (.int 1))))))))
  (vRet (vC (.bl false)))
  qbb)
 (vSeq (vSet 6 (vOp vIxR (vVar 5) (vC (.int 1))))
 (vSeq (vIfS (vOrT (vBl (vOp vLt (vVar 6) (vC (.int 0)))) (vOrT (vBl (vOp vGt (vVar 6) (vVar 3))) (qff (vBl (qan qb7 (qad (vOp vIxR (vVar 5) (vC (.int 0))) (qad (vVar 2) (qad (vVar 6) (qad (vVar 3) vNil)))))))))
  (vRet (vC (.bl false)))
  qbb)
 (vSeq (vIfS (vBl (vOp vNeD (qan qg9 (qad (vOp vIxR (vVar 5) (vC (.int 0))) (qad (vVar 4) vNil))) (qan qg9 (qad (vVar 2) (qad (vVar 4) vNil)))))
  (vRet (vC (.bl false)))
  qbb)
 (vSeq (vSet 7 (qan qgg (qad (vOp vIxR (vVar 5) (vC (.int 0))) (qad (vVar 6) vNil))))
 (vRet (qk3 (qft .tuple (vVar 7)) (qk3 (vOp vEq (vF1 vLen (vVar 7)) (vC (.int 3))) (qk3 (vOp vEq (vOp vIxR (vVar 7) (vC (.int 1))) (vVar 6)) (vOp vEq (vOp vIxR (vVar 7) (vC (.int 0))) (vOp vIxR (vVar 5) (vC (.int 0))))))))))))))))))
abbrev q18:List Str:=["_law_script","_law_stem","_law_panes","_law_k","_law_tree","_law_given","_law_at","_law_again"]
theorem q3f:∀ds Q,ql2 ds Q->qy5 (En Q) (qa8 q18 ds):=by
 rintro ds Q ⟨ns,rfl,h⟩
 have s1000:=qbf
 refine v_cut (λτ=>∃st:Int,(0<=st/\st<10 ^ 18)/\τ=[some (.val (.scr ns)),some (.val (.int st)),none,none,none,none,none,none]) ?_ λnx hnx=>?now
 case now =>
  dsimp! only[qbk]
  exact⟨⟨by decide,by decide,by decide⟩,by decide,hnx _ ⟨_,⟨Int.emod_nonneg _ (show (10 ^ Int.toNat 18:Int)≠0 by decide),Int.emod_lt_of_pos _ (show (0:Int)<10 ^ Int.toNat 18 by decide)⟩,rfl⟩⟩
 rintro τ ⟨st,⟨s0,s1⟩,rfl⟩
 refine v_cut (λτ=>∃ps:List (List Row),(0<ps.length/\ps.length<=5/\PsOk ps)/\τ=[some (.val (.scr ns)),some (.val (.int st)),some (.val (qai ps)),none,none,none,none,none]) ?_ λnx hnx=>?now
 case now =>
  have mx:∀(c k n:Int) (Y:R->Prop),0<=k->0<n->(∀i,0<=i->i<n->Y (.val (.int i)))->qam [.int c,.int k,.int n] Y:=λc k n Y hk hn y=>⟨c,k,n,rfl,hk,hn,λi h0 h1 _=>y i h0 h1⟩
  dsimp! only[qbk]
  refine mx _ _ _ _ (by decide) (by decide) λi i0 i1=>?_
  have pb:∀Y:R->Prop,(∀ps:List (List Row),ps.length=(1+i).toNat->PsOk ps->Y (.own (qai ps)))->qdf [.scr ns,.int st,.int (1+i)] Y:=λY y=>⟨ns,st,(1+i).toNat,by rw[Int.toNat_of_nonneg (by lia)],s0,s1,by lia,y⟩
  rfl'
  refine pb _ λps pl P=>?_
  rfl'
  exact hnx _ ⟨ps,⟨by lia,by lia,P⟩,rfl⟩
 rintro τ ⟨ps,⟨p0,p5,P⟩,rfl⟩
 refine v_cut (λτ=>∃k:Nat,k<ps.length/\τ=[some (.val (.scr ns)),some (.val (.int st)),some (.val (qai ps)),some (.val (.int k)),none,none,none,none]) ?_ λnx hnx=>?now
 case now =>
  dsimp! only[qbk,qai]
  refine⟨by lia,?_⟩
  have q0:=Int.emod_nonneg (qok ns 1 / 5) (show (ps.length:Int)≠0 by lia)
  have q1:=Int.emod_lt_of_pos (qok ns 1 / 5) (show (0:Int)<ps.length by lia)
  refine hnx _ ⟨(qok ns 1 / 5%(ps.length:Int)).toNat,by lia,?_⟩
  rw[Int.toNat_of_nonneg q0]
  rfl
 rintro τ ⟨k,hk,rfl⟩
 refine v_cut (λτ=>∃t:List Row,(TreeOk t/\NmOk t/\t.length<=13)/\τ=[some (.val (.scr ns)),some (.val (.int st)),some (.val (qai ps)),some (.val (.int k)),some (.val (qag t)),none,none,none]) ?_ λnx hnx=>?now
 case now =>
  have c12:(cutL ns (some 6) (some 18)).length<=12:=by
   show (cutL ns (some ((6:Nat):Int)) (some ((18:Nat):Int))).length<=12
   unfold cutL
   rw[HT.sIx_nat,HT.sIx_nat,List.length_take,List.length_drop]
   lia
  have tb:∀Y:R->Prop,(∀p,TreeOk p->NmOk p->p.length<=13->Y (.own (qag p)))->qd3 [.lst ((cutL ns (some 6) (some 18)).map D.int),.int st] Y:=λY y=>⟨_,st,rfl,by lia,s0,Int.lt_trans s1 (by decide),λp h1 h2 h3=>y p h1 (λr hr=>(h3 r hr).ok) (by lia)⟩
  rfl'
  refine tb _ λp h1 h2 h3=>?_
  rfl'
  exact hnx _ ⟨p,⟨h1,h2,h3⟩,rfl⟩
 rintro τ ⟨t,⟨T,tn,tl⟩,rfl⟩
 have MP:∀p∈ps,MPn p:=λp hp=>(P p hp).mp (by decide)
 refine v_cut (λτ=>∃(a:Nat) (o:Option (Row×Row)),qga ps k a o/\τ=[some (.val (.scr ns)),some (.val (.int st)),some (.val (qai ps)),some (.val (.int k)),some (.val (qag t)),some (.val (.tup [qai (mov ps k a),.int a,pairD o])),none,none]) ?_ λnx hnx=>?now
 case now =>
  have sk:∀Y:R->Prop,(∀a o,qga ps k a o->Y (.val (.tup [qai (mov ps k a),.int a,pairD o])))->qgg [qai ps,.int k] Y:=λY y=>⟨ps,k,rfl,hk,by lia,MP,y⟩
  dsimp! only[qai]
  refine qj6 qag ps (by lia) (λp mp Y N hY=>?_) ?_
  ·dsimp! only[qag]
   exact hY
  ·rfl'
   refine sk _ λa o S=>?_
   rfl'
   exact hnx _ ⟨a,o,S,rfl⟩
 rintro τ ⟨a,o,S,rfl⟩
 have ha:=S.1
 have ml:(mov ps k a).length=ps.length:=qmf hk
 have PM:PsOk (mov ps k a):=λp hp=>P p (qmg hk hp)
 refine qhz (λc=>c=false) (λY y=>?test) (λhc=>by cases hc) λ_=>?rest
 case test =>
  rfl'
  exact y _ rfl
 refine v_cut (λτ=>τ=[some (.val (.scr ns)),some (.val (.int st)),some (.val (qai ps)),some (.val (.int k)),some (.val (qag t)),some (.val (.tup [qai (mov ps k a),.int a,pairD o])),some (.val (.int a)),none]) ?_ λnx hnx=>?now
 case now =>
  rfl'
  exact hnx _ rfl
 rintro τ rfl
 refine qhz (λc=>c=false) (λY y=>?test2) (λhc=>by cases hc) λ_=>?rest2
 case test2 =>
  have ok:∀Y:R->Prop,Y (.val (.bl true))->qb7 [qai (mov ps k a),qai ps,.int a,.int k] Y:=λY y=>⟨ps,k,a,rfl,hk,ha,p5,P,y⟩
  rfl'
  rw[decide_eq_false (show ¬ ((a:Int)<0) by lia),decide_eq_false (show ¬ ((k:Int)<(a:Int)) by lia)]
  refine iteF (iteF (ok _ ?_))
  rfl'
  exact y _ rfl
 refine qhz (λc=>c=false) (λY y=>?test3) (λhc=>by cases hc) λ_=>?rest3
 case test3 =>
  have se:∀(qs:List (List Row)) (Y:R->Prop),qs.length<=5->PsOk qs->Y (.val (qag (qcy t qs)))->qg9 [qai qs,qag t] Y:=λqs Y ql q y=>⟨qs,t,rfl,ql,q,T,tn,tl,y⟩
  rfl'
  refine se _ _ (by lia) PM ?_
  rfl'
  refine se _ _ p5 P ?_
  rfl'
  rw[qr1 hk P S T,eqRL,decide_eq_true rfl]
  exact⟨qy8 _ _,Nat.le_trans (qzd _) (by decide),y _ rfl⟩
 refine v_cut (λτ=>∃o',τ=[some (.val (.scr ns)),some (.val (.int st)),some (.val (qai ps)),some (.val (.int k)),some (.val (qag t)),some (.val (.tup [qai (mov ps k a),.int a,pairD o])),some (.val (.int a)),some (.val (.tup [qai (mov ps k a),.int a,pairD o']))]) ?_ λnx hnx=>?now
 case now =>
  have sk:∀Y:R->Prop,(∀b o',qga (mov ps k a) a b o'->Y (.val (.tup [qai (mov (mov ps k a) a b),.int b,pairD o'])))->qgg [qai (mov ps k a),.int a] Y:=λY y=>⟨mov ps k a,a,rfl,by lia,by lia,λp hp=>MP p (qmg hk hp),y⟩
  rfl'
  refine sk _ λb o' S'=>?_
  obtain⟨e1,e2⟩:=qo7 hk S S'
  rw[e2,e1]
  rfl'
  exact hnx _ ⟨o',rfl⟩
 rintro τ ⟨o',rfl⟩
 ac_rfl
 rw[qe6]
 exact iteT ⟨q2a _ _,q2b _,h⟩
theorem qzy{K:PySem.W.Frag}{H:Hp}{a:Addr}(ns:List Int)(_:ns.length<=63)(hS:SqL K H a (ns.map V.int)){E:XK}:spOf K ql2 [.ref a] H (λv _=>v=.bl true) E:=quj ⟨ns,rfl,rfl⟩ hS
def top(i:Nat):Stmt:=PySem.Challenge.pw_glasslayers_k29_sunk_shows_the_same.main.body.getD i (.Pass ⟨0,0,0,0⟩)
abbrev qfm:Stmt:=top 4
abbrev qfc:Stmt:=top 6
abbrev qdh:Stmt:=top 8
abbrev qej:Stmt:=top 9
abbrev qd8:Stmt:=top 11
abbrev qb0:Stmt:=top 13
abbrev qcw:Stmt:=top 14
abbrev qb9:Stmt:=top 15
abbrev qii:Stmt:=top 16
abbrev qik:Stmt:=top 17
abbrev qd7:Stmt:=top 19
abbrev qf4:Stmt:=top 20
abbrev qd9:Stmt:=top 21
abbrev qcx:Stmt:=top 22
abbrev qea:Stmt:=top 23
abbrev qdp:Stmt:=top 24
abbrev qcc:Stmt:=top 25
abbrev qdo:Stmt:=top 26
abbrev qcv:Stmt:=top 27
abbrev qb5:Stmt:=top 28
abbrev qhm:Stmt:=top 29
abbrev s_same:Stmt:=top 30
abbrev qdi:Stmt:=top 31
abbrev qij:Stmt:=top 32
abbrev qca:Stmt:=top 33
abbrev qhx:Stmt:=top 34
structure Blt(K:PySem.W.Frag)(mg:Str->Option Value)(cNoPane:Addr):Prop where
 NoPane:mg "NoPane" = some (.ref cNoPane)
 k_NoPane:clsOf K "NoPane" cNoPane
 x_NoPane:OwnX K cNoPane
 bool:mg "bool" = none
 int:mg "int" = none
 isinstance:mg "isinstance" = none
 len:mg "len" = none
 list:mg "list" = none
 range:mg "range" = none
 set:mg "set" = none
 sorted:mg "sorted" = none
 str:mg "str" = none
 tuple:mg "tuple" = none
section
variable {P:Program} {w:World} {K:PySem.W.Frag} {mg:Str->Option Value} {base:Heap} {f:Addr} {fd:FuncData} {cNoPane:Addr}
theorem qo3:FnScope ["_law_script","_law_k"] ["_law_script","_law_k"] (qae qd7):=⟨rfl,rfl,rfl,by decide +kernel,rfl,by decide +kernel,by decide +kernel⟩
theorem qow(F:Fun K "_law_cell_at" "_law_cell_at" qd7 f fd)(B:Blt K mg cNoPane):FnOk P w K mg base CX0 1 f fd ["_law_script","_law_k"] (spOf K qbk) :=
 F.okV qo3 ql4 λcdv A outer s H E hr=>⟨qgr,(qab (qbc (qao qsh (vv 1) (qc0 qbw rfl B.len PyProof.Rows.Boot.«len» (vv 0)))
   (qaf (qay (qat qaj (vv 0) (vv 1))))
   qas)
  (qaf (qay qaa))),qsk⟩
theorem sc_mixed:FnScope ["_law_cell","_law_turn","_law_many","_law_by","_law_prime"] ["_law_cell","_law_turn","_law_many"] (qae qf4):=⟨rfl,rfl,rfl,by decide +kernel,rfl,by decide +kernel,by decide +kernel⟩
theorem qtp(F:Fun K "_law_mixed" "_law_mixed" qf4 f fd)(B:Blt K mg cNoPane):FnOk P w K mg base CX0 1 f fd ["_law_cell","_law_turn","_law_many"] (spOf K qam) :=
 F.okV sc_mixed qqz λcdv A outer s H E hr=>⟨qpy,(qab (qal (i:=3) sc_mixed.nd rfl (Or.inl rfl) (qa4 (vac qaa (vac qaa (vac qaa (vac qaa (vac qaa (vac qaa (vac qaa (vac qaa qah))))))))))
  (qab (qal (i:=4) sc_mixed.nd rfl (Or.inl rfl) (qa4 (vac qaa (vac qaa (vac qaa (vac qaa (vac qaa (vac qaa (vac qaa (vac qaa qah))))))))))
  (qaf (qay (qau qcp (qau qcp (qau qir (qau qaz (qau qcp (vv 0) (qau qvy qaa qaa)) qaa) (qat qaj (vv 3) (qau qcp (vv 1) qaa))) (qat qaj (vv 4) (qau qcp (vv 1) qaa))) (vv 2)))))),qyu⟩
theorem qkw:FnScope ["_law_row","_law_turn"] ["_law_row","_law_turn"] (qae qcv):=⟨rfl,rfl,rfl,by decide +kernel,rfl,by decide +kernel,by decide +kernel⟩
theorem qkp(F:Fun K "_law_near_mark" "_law_near_mark" qcv f fd)(B:Blt K mg cNoPane):FnOk P w K mg base CX0 1 f fd ["_law_row","_law_turn"] (spOf K qcr) :=
 F.okV qkw qi6 λcdv A outer s H E hr=>⟨qgt,(qab (qbc (vw_t (qfh (qao (qco hr.units) (qat qaj (vv 0) qaa) (qa4 qah)) (qe5 (qao (qco hr.units) (vv 1) qaa))))
   (qaf (qay (qat qaj (vv 0) qaa)))
   qas)
  (qab (qbc (vw_t (qc9 (qao (qco hr.units) (vv 1) qaa) (qbx (qao (qco hr.units) (qat qaj (vv 0) qaa) qak))))
   (qaf (qay qak))
   qas)
  (qab (qbc (vw_t (qc9 (qao (qco hr.units) (vv 1) qaa) (qbx (qao (qco hr.units) (qat qaj (vv 0) qaa) qak))))
   (qaf (qay qak))
   qas)
  (qab (qbc (qao qpe (vv 1) qaa)
   (qaf (qay (qat qaj (qa4 (vac qak (vac qak (vac qak qah)))) (qau qcp (vv 1) qaa))))
   qas)
  (qaf (qay (qat qaj (vv 0) qaa))))))),qm3⟩
theorem sc_under_shut:FnScope ["_law_things","_law_way","_law_k"] ["_law_things","_law_way"] (qae qcc):=⟨rfl,rfl,rfl,by decide +kernel,rfl,by decide +kernel,by decide +kernel⟩
theorem qjg(F:Fun K "_law_under_shut" "_law_under_shut" qcc f fd)(B:Blt K mg cNoPane):FnOk P w K mg base CX0 1 f fd ["_law_things","_law_way"] (spOf K qbe) :=
 F.okV sc_under_shut qhv λcdv A outer s H E hr=>⟨qeu,(qab (qdc PassesOwn.never rfl (qe1 rfl B.range (qc0 qbw rfl B.len PyProof.Rows.Boot.«len» (vv 1))) (qa7 (i:=2) sc_under_shut.nd rfl (Or.inl rfl))
   (qaf (qbc (vw_t (qc9 (qoc hr.dict (qbq (vv 1) qc1 (qa9 (vv 2))) (vv 0)) (qbx (qao (qco hr.units) (qat qaj (qem hr.dict (vv 0) (qbq (vv 1) qc1 (qa9 (vv 2)))) qaa) qak))))
   (qaf (qay qf9))
   qas)))
  (qaf (qay qf9))),qla⟩
theorem sc_near_pane:FnScope ["_law_rows","_law_cell","_law_spot","_law_turn","_law_every","_law_things","_law_k","_law_over","_law_hit","_law_mark","_law_text","_law_stays"] ["_law_rows","_law_cell"] (qae qb5):=⟨rfl,rfl,rfl,by decide +kernel,rfl,by decide +kernel,by decide +kernel⟩
theorem qfp:CompScope (qae qb5) ["_law_rows","_law_cell","_law_spot","_law_turn","_law_every","_law_things","_law_k","_law_over","_law_hit","_law_mark","_law_text","_law_stays"] ["_law_rows","_law_cell","_law_spot","_law_turn","_law_every","_law_things","_law_k","_law_over","_law_hit","_law_mark","_law_text","_law_stays","_law_way"] ["_law_way"] ({ kind:=PySem.ScopeKind.function,names:=[ (PySem.Str.ofString ".0",PySem.NameKind.local),(PySem.Str.ofString "_law_way",PySem.NameKind.local),(PySem.Str.ofString "_law_things",PySem.NameKind.free)],isGenerator:=false,isCoroutine:=false,more:=[]:PySem.Scope }):=⟨rfl,by decide +kernel,by decide +kernel,by decide +kernel,by decide +kernel,rfl,by decide +kernel⟩
theorem qkq(F:Fun K "_law_near_pane" "_law_near_pane" qb5 f fd)(B:Blt K mg cNoPane)(Cmixed:Cal P w K mg base 1 "_law_mixed" ["_law_cell","_law_turn","_law_many"] (spOf K qam))(Cnear_mark:Cal P w K mg base 1 "_law_near_mark" ["_law_row","_law_turn"] (spOf K qcr))(Cunder_shut:Cal P w K mg base 1 "_law_under_shut" ["_law_things","_law_way"] (spOf K qbe)):FnOk P w K mg base CX0 2 f fd ["_law_rows","_law_cell"] (spOf K qcs) :=
 F.okV sc_near_pane qi7 λcdv A outer s H E hr=>⟨qgu,(qab (qal (i:=2) sc_near_pane.nd rfl (Or.inl rfl) (qar Cmixed (hr.mono (by decide)) rfl (vac (vv 1) (vac qaa (vac (qau qaz (qc0 qbw rfl B.len PyProof.Rows.Boot.«len» (vv 0)) qaa) qah)))))
  (qab (qal (i:=3) sc_near_pane.nd rfl (Or.inl rfl) (qar Cmixed (hr.mono (by decide)) rfl (vac (vv 1) (vac qaa (vac qaa qah)))))
  (qab (qal (i:=4) sc_near_pane.nd rfl (Or.inl rfl) (qau qaz qaa (qau qir qaa (qar Cmixed (hr.mono (by decide)) rfl (vac (vv 1) (vac qaa (vac qaa qah)))))))
  (qab (qdr (i:=5) sc_near_pane.nd rfl (Or.inr rfl) qfd)
  (qab (qdc PassesOwn.never rfl (qe1 rfl B.range (qc0 qbw rfl B.len PyProof.Rows.Boot.«len» (vv 0))) (qa7 (i:=6) sc_near_pane.nd rfl (Or.inl rfl))
   (qab (qal (i:=7) sc_near_pane.nd rfl (Or.inl rfl) (qbq (qat qaj (qat qaj (vv 0) (vv 6)) qaa) qc1 (qa9 (qsd qaa))))
  (qab (qal (i:=8) sc_near_pane.nd rfl (Or.inl rfl) (qhp (qco hr.units) (qau qcp (qau qsi (vv 6) (vv 2)) (vv 4)) qaa))
  (qab (qal (i:=9) sc_near_pane.nd rfl (Or.inl rfl) (qat qaj (qat qaj (vv 0) (vv 6)) qaa))
  (qab (qbc (qcq (vv 8))
   (qaf (qal (i:=9) sc_near_pane.nd rfl (Or.inl rfl) (qar Cnear_mark (hr.mono (by decide)) rfl (vac (qat qaj (vv 0) (vv 6)) (vac (vv 3) qah)))))
   qas)
  (qab (qbc (vw_t (qc9 (qao qpf (vv 9) (qa4 (vac qak (vac qak qah)))) (qbx (qcq (qsb (i:=5) Cunder_shut (hr.mono (by decide)) rfl (vac (qat qaj (qat qaj (vv 0) (vv 6)) qaa) qah))))))
   (qaf (qal (i:=9) sc_near_pane.nd rfl (Or.inl rfl) qak))
   qas)
  (qab (qal (i:=10) sc_near_pane.nd rfl (Or.inl rfl) (qat qaj (qat qaj (vv 0) (vv 6)) qaa))
  (qab (qbc (qao (qe2 hr.units) (vv 9) (qat qaj (qat qaj (vv 0) (vv 6)) qaa))
   (qaf (qal (i:=10) sc_near_pane.nd rfl (Or.inl rfl) qak))
   qas)
  (qab (qbc (vw_t (qc9 (qcq (vv 8)) (qbx (qao (qco hr.units) (vv 9) qak))))
   (qaf (qal (i:=10) sc_near_pane.nd rfl (Or.inl rfl) qak))
   qas)
  (qab (qal (i:=11) sc_near_pane.nd rfl (Or.inl rfl) (q3d (qhp qpe (vv 3) qaa) (qse (q12 (vv 8)))))
  (qaf (qbc (vw_t (qc9 (qcq (vv 11)) (qbx (vw_t (qfh (qao (qco hr.units) (vv 7) (qa4 qah)) (qe5 (vw_t (qc9 (qoc hr.dict (vv 7) (vv 5)) (qbx (qao qpf (qat qaj (qem hr.dict (vv 5) (vv 7)) qaa) (qa4 (vac qak (vac qak qah)))))))))))))
   (qaf (qen 5 hr.dict (qat qaj (qat qaj (vv 0) (vv 6)) qaa) (qa4 (vac (vv 9) (vac (vv 10) qah)))))
   qas))))))))))))
  (qaf (qay (vc_e (qez (M:=["_law_way"]) (qdq (qc0 (qfx hr.units) rfl B.sorted PyProof.Rows.Boot.«sorted» (qm0 (qgq hr.hd) rfl B.list PyProof.Rows.Boot.«list» (vv 5)))) rfl qfp (λcl C s2 H2 fp pn=>(qa7 (i:=12) (qfp).nd rfl (Or.inl rfl))) (λcl C s2 H2 fp pn=>qe0) (λcl C s2 H2 fp pn=>(qau qaz (qa4 (vac (vv 12) qah)) (qem hr.dict (vv 5) (vv 12))))))))))))),qm4⟩
theorem sc_name_by:FnScope ["_law_stem","_law_v","_law_signs","_law_size","_law_spot","_law_name","_law_k","_law_turn"] ["_law_stem","_law_v"] (qae qd9):=⟨rfl,rfl,rfl,by decide +kernel,rfl,by decide +kernel,by decide +kernel⟩
theorem qoy(F:Fun K "_law_name_by" "_law_name_by" qd9 f fd)(B:Blt K mg cNoPane):FnOk P w K mg base CX0 1 f fd ["_law_stem","_law_v"] (spOf K qbl) :=
 F.okV sc_name_by ql6 λcdv A outer s H E hr=>⟨qjx,(qab (qal (i:=2) sc_name_by.nd rfl (Or.inl rfl) qak)
  (qab (qal (i:=3) sc_name_by.nd rfl (Or.inl rfl) (qau qaz qaa (qau qcp (vv 0) qaa)))
  (qab (qal (i:=4) sc_name_by.nd rfl (Or.inl rfl) (qau qcp (qau qgi (vv 0) qaa) (vv 3)))
  (qab (qal (i:=5) sc_name_by.nd rfl (Or.inl rfl) qak)
  (qab (qdc PassesOwn.never rfl (qe1 rfl B.range (vv 3)) (qa7 (i:=6) sc_name_by.nd rfl (Or.inl rfl))
   (qab (qal (i:=7) sc_name_by.nd rfl (Or.inl rfl) (qau qaz (qau qgi (vv 0) qaa) (qau qir (vv 6) (qau qcp (qau qgi (vv 0) qaa) qaa))))
  (qab (qbc (qao (qco hr.units) (vv 6) (vv 4))
   (qaf (qal (i:=7) sc_name_by.nd rfl (Or.inl rfl) (qau qaz (vv 7) (vv 1))))
   qas)
  (qaf (qal (i:=5) sc_name_by.nd rfl (Or.inl rfl) (qau qaz (vv 5) (qat qaj (vv 2) (qau qcp (vv 7) qaa))))))))
  (qab (qbc (vw_t (qc9 (qao (qco hr.units) (qau qcp (qau qgi (vv 0) qaa) qaa) qaa) (qbx (qao (qco hr.units) (qau qcp (vv 1) qaa) qaa))))
   (qaf (qal (i:=5) sc_name_by.nd rfl (Or.inl rfl) (qbq (vv 5) qc1 (qa9 (qau qaz qaa (qau qcp (vv 1) (vv 3)))))))
   qas)
  (qaf (qay (vv 5))))))))),qsm⟩
theorem sc_signs_by:FnScope ["_law_cell","_law_some","_law_size"] ["_law_cell"] (qae qcx):=⟨rfl,rfl,rfl,by decide +kernel,rfl,by decide +kernel,by decide +kernel⟩
theorem qge:CompScope (qae qcx) ["_law_cell","_law_some","_law_size"] ["_law_cell","_law_some","_law_size","_law_k"] ["_law_k"] ({ kind:=PySem.ScopeKind.function,names:=[ (PySem.Str.ofString ".0",PySem.NameKind.local),(PySem.Str.ofString "_law_k",PySem.NameKind.local),(PySem.Str.ofString "_law_mixed",PySem.NameKind.globalImplicit),(PySem.Str.ofString "len",PySem.NameKind.globalImplicit),(PySem.Str.ofString "_law_cell",PySem.NameKind.free),(PySem.Str.ofString "_law_some",PySem.NameKind.free)],isGenerator:=false,isCoroutine:=false,more:=[]:PySem.Scope }):=⟨rfl,by decide +kernel,by decide +kernel,by decide +kernel,by decide +kernel,rfl,by decide +kernel⟩
theorem qmk(F:Fun K "_law_signs_by" "_law_signs_by" qcx f fd)(B:Blt K mg cNoPane)(Cmixed:Cal P w K mg base 1 "_law_mixed" ["_law_cell","_law_turn","_law_many"] (spOf K qam)):FnOk P w K mg base CX0 2 f fd ["_law_cell"] (spOf K qdg) :=
 F.okV sc_signs_by qki λcdv A outer s H E hr=>⟨qf1,(qab (qal (i:=1) sc_signs_by.nd rfl (Or.inr rfl) qak)
  (qab (qal (i:=1) sc_signs_by.nd rfl (Or.inr rfl) (qau qaz (vv 1) qak))
  (qab (qal (i:=2) sc_signs_by.nd rfl (Or.inl rfl) (qar Cmixed (hr.mono (by decide)) rfl (vac (vv 0) (vac qaa (vac qaa qah)))))
  (qab (qbc (qao (qco hr.units) (vv 2) qaa)
   (qaf (qal (i:=2) sc_signs_by.nd rfl (Or.inl rfl) qaa))
   qas)
  (qaf (qay (qyn qak (vc_e (qez (M:=["_law_k"]) (qe1 rfl B.range (vv 2)) rfl qge (λcl C s2 H2 fp pn=>(qa7 (i:=3) (qge).nd rfl (Or.inl rfl))) (λcl C s2 H2 fp pn=>qe0) (λcl C s2 H2 fp pn=>(qat qaj (vv 1) (qar Cmixed (hr.mono (by decide)) rfl (vac (qau qaz (vv 0) (qau qir (vv 3) (vv 3))) (vac qaa (vac (qc0 qbw rfl B.len PyProof.Rows.Boot.«len» (vv 1)) qah))))))))))))))),qpj⟩
theorem sc_text_by:FnScope ["_law_mark","_law_cell","_law_stem","_law_wide","_law_name","_law_more","_law_some"] ["_law_mark","_law_cell","_law_stem","_law_wide"] (qae qea):=⟨rfl,rfl,rfl,by decide +kernel,rfl,by decide +kernel,by decide +kernel⟩
theorem qo0(F:Fun K "_law_text_by" "_law_text_by" qea f fd)(B:Blt K mg cNoPane)(Csigns_by:Cal P w K mg base 2 "_law_signs_by" ["_law_cell"] (spOf K qdg))(Cmixed:Cal P w K mg base 1 "_law_mixed" ["_law_cell","_law_turn","_law_many"] (spOf K qam))(Cname_by:Cal P w K mg base 1 "_law_name_by" ["_law_stem","_law_v"] (spOf K qbl)):FnOk P w K mg base CX0 3 f fd ["_law_mark","_law_cell","_law_stem","_law_wide"] (spOf K qch) :=
 F.okV sc_text_by ql8 λcdv A outer s H E hr=>⟨qjy,(qab (qbc (qao (qco hr.units) (vv 0) qak)
   (qaf (qay (qat qaj (qa4 (vac qak (vac qak (vac (qar Csigns_by (hr.mono (by decide)) rfl (vac (vv 1) qah)) qah)))) (qar Cmixed (hr.mono (by decide)) rfl (vac (vv 1) (vac qaa (vac qaa qah)))))))
   qas)
  (qab (qbc (qao (qe2 hr.units) (vv 0) qak)
   (qaf (qay qak))
   qas)
  (qab (qal (i:=4) sc_text_by.nd rfl (Or.inl rfl) (qar Cname_by (hr.mono (by decide)) rfl (vac (vv 2) (vac (qar Cmixed (hr.mono (by decide)) rfl (vac (vv 1) (vac qaa (vac (vv 3) qah)))) qah))))
  (qab (qal (i:=5) sc_text_by.nd rfl (Or.inl rfl) (qar Cname_by (hr.mono (by decide)) rfl (vac (vv 2) (vac (qar Cmixed (hr.mono (by decide)) rfl (vac (vv 1) (vac qaa (vac (vv 3) qah)))) qah))))
  (qab (qal (i:=6) sc_text_by.nd rfl (Or.inl rfl) (qa4 (vac qak (vac (qau qaz qak (vv 4)) (vac (vv 4) (vac (qau qaz qak (vv 4)) (vac (qau qaz (qau qaz (qau qaz qak (vv 4)) qak) (vv 5)) (vac (qau qaz (qau qaz qak (vv 4)) qak) (vac qak (vac qak qah))))))))))
  (qaf (qay (qat qaj (vv 6) (qar Cmixed (hr.mono (by decide)) rfl (vac (vv 1) (vac qaa (vac qaa qah)))))))))))),qso⟩
theorem sc_pane_by:FnScope ["_law_cells","_law_stem","_law_wide","_law_things","_law_folders","_law_cell","_law_over","_law_way","_law_mark"] ["_law_cells","_law_stem"] (qae qdo):=⟨rfl,rfl,rfl,by decide +kernel,rfl,by decide +kernel,by decide +kernel⟩
theorem qgz:CompScope (qae qdo) ["_law_cells","_law_stem","_law_wide","_law_things","_law_folders","_law_cell","_law_over","_law_way","_law_mark"] ["_law_cells","_law_stem","_law_wide","_law_things","_law_folders","_law_cell","_law_over","_law_way'","_law_mark","_law_way"] ["_law_way"] ({ kind:=PySem.ScopeKind.function,names:=[ (PySem.Str.ofString ".0",PySem.NameKind.local),(PySem.Str.ofString "_law_way",PySem.NameKind.local),(PySem.Str.ofString "_law_things",PySem.NameKind.free)],isGenerator:=false,isCoroutine:=false,more:=[]:PySem.Scope }):=⟨rfl,by decide +kernel,by decide +kernel,by decide +kernel,by decide +kernel,rfl,by decide +kernel⟩
theorem qoz(F:Fun K "_law_pane_by" "_law_pane_by" qdo f fd)(B:Blt K mg cNoPane)(Cmixed:Cal P w K mg base 1 "_law_mixed" ["_law_cell","_law_turn","_law_many"] (spOf K qam))(Cname_by:Cal P w K mg base 1 "_law_name_by" ["_law_stem","_law_v"] (spOf K qbl))(Cunder_shut:Cal P w K mg base 1 "_law_under_shut" ["_law_things","_law_way"] (spOf K qbe))(Ctext_by:Cal P w K mg base 3 "_law_text_by" ["_law_mark","_law_cell","_law_stem","_law_wide"] (spOf K qch)):FnOk P w K mg base CX0 4 f fd ["_law_cells","_law_stem"] (spOf K qdk) :=
 F.okV sc_pane_by ql7 λcdv A outer s H E hr=>⟨qgv,(qab (qal (i:=2) sc_pane_by.nd rfl (Or.inl rfl) (qau qaz qaa (qau qcp (qau qgi (vv 1) qaa) qaa)))
  (qab (qdr (i:=3) sc_pane_by.nd rfl (Or.inr rfl) qfd)
  (qab (qdr (i:=4) sc_pane_by.nd rfl (Or.inl rfl) (qiq (vac (qa4 qah) qah)))
  (qab (qbc (vw_t (qc9 (qao qpe (qc0 qbw rfl B.len PyProof.Rows.Boot.«len» (vv 0)) qaa) (qbx (qao (qco hr.units) (qar Cmixed (hr.mono (by decide)) rfl (vac (qat qaj (vv 0) qaa) (vac qaa (vac qaa qah)))) qaa))))
   (qaf (qen 3 hr.dict (qa4 qah) (qa4 (vac qak (vac qak qah)))))
   qas)
  (qab (qdc PassesOwn.never rfl (qdq (vv 0)) (qa7 (i:=5) sc_pane_by.nd rfl (Or.inl rfl))
   (qab (qal (i:=6) sc_pane_by.nd rfl (Or.inl rfl) (qat qaj (vv 4) (qar Cmixed (hr.mono (by decide)) rfl (vac (vv 5) (vac qaa (vac (qc0 qbw rfl B.len PyProof.Rows.Boot.«len» (vv 4)) qah))))))
  (qab (qbc (qao (qco hr.units) (qar Cmixed (hr.mono (by decide)) rfl (vac (vv 5) (vac qaa (vac qaa qah)))) qaa)
   (qaf (qal (i:=6) sc_pane_by.nd rfl (Or.inl rfl) (qat qaj (vv 4) (qsd qaa))))
   qas)
  (qab (qal (i:=7) sc_pane_by.nd rfl (Or.inl rfl) (qau qaz (vv 6) (qa4 (vac (qar Cname_by (hr.mono (by decide)) rfl (vac (vv 1) (vac (qar Cmixed (hr.mono (by decide)) rfl (vac (vv 5) (vac qaa (vac (vv 2) qah)))) qah))) qah))))
  (qaf (qbc (vw_t (qc9 (qk7 hr.dict (vv 7) (vv 3)) (qbx (qao qsh (qc0 qbw rfl B.len PyProof.Rows.Boot.«len» (vv 7)) qaa))))
   (qab (qal (i:=8) sc_pane_by.nd rfl (Or.inl rfl) (qat qaj (qa4 (vac qak (vac qak (vac qak (vac qak (vac qak (vac qak (vac qak qah)))))))) (qar Cmixed (hr.mono (by decide)) rfl (vac (vv 5) (vac qaa (vac qaa qah))))))
  (qab (qbc (vw_t (qc9 (qcq (qsb (i:=3) Cunder_shut (hr.mono (by decide)) rfl (vac (vv 7) qah))) (qbx (qao qpf (vv 8) (qa4 (vac qak (vac qak qah)))))))
   (qaf (qal (i:=8) sc_pane_by.nd rfl (Or.inl rfl) qak))
   qas)
  (qab (qen 3 hr.dict (vv 7) (qa4 (vac (vv 8) (vac (qar Ctext_by (hr.mono (by decide)) rfl (vac (vv 8) (vac (vv 5) (vac (vv 1) (vac (vv 2) qah))))) qah))))
  (qaf (qbc (qao qpf (vv 8) (qa4 (vac qak (vac qak qah))))
   (qaf (qe3 4 (vv 7)))
   qas)))))
   qas))))))
  (qaf (qay (vc_e (qez (M:=["_law_way"]) (qdq (qc0 (qfx hr.units) rfl B.sorted PyProof.Rows.Boot.«sorted» (qm0 (qgq hr.hd) rfl B.list PyProof.Rows.Boot.«list» (vv 3)))) rfl qgz (λcl C s2 H2 fp pn=>(qa7 (i:=9) (qgz).nd rfl (Or.inl rfl))) (λcl C s2 H2 fp pn=>qe0) (λcl C s2 H2 fp pn=>(qau qaz (qa4 (vac (vv 9) qah)) (qem hr.dict (vv 3) (vv 9))))))))))))),qsn⟩
theorem sc_panes_by:FnScope ["_law_script","_law_stem","_law_many","_law_panes","_law_j","_law_cell"] ["_law_script","_law_stem","_law_many"] (qae qdi):=⟨rfl,rfl,rfl,by decide +kernel,rfl,by decide +kernel,by decide +kernel⟩
theorem qmj(F:Fun K "_law_panes_by" "_law_panes_by" qdi f fd)(B:Blt K mg cNoPane)(Ccell_at:Cal P w K mg base 1 "_law_cell_at" ["_law_script","_law_k"] (spOf K qbk))(Cnear_pane:Cal P w K mg base 2 "_law_near_pane" ["_law_rows","_law_cell"] (spOf K qcs))(Cmixed:Cal P w K mg base 1 "_law_mixed" ["_law_cell","_law_turn","_law_many"] (spOf K qam))(Cpane_by:Cal P w K mg base 4 "_law_pane_by" ["_law_cells","_law_stem"] (spOf K qdk)):FnOk P w K mg base CX0 5 f fd ["_law_script","_law_stem","_law_many"] (spOf K qdf) :=
 F.okV sc_panes_by qkh λcdv A outer s H E hr=>⟨qh2,(qab (qdr (i:=3) sc_panes_by.nd rfl (Or.inl rfl) (qiq qah))
  (qab (qdc PassesOwn.never rfl (qe1 rfl B.range (vv 2)) (qa7 (i:=4) sc_panes_by.nd rfl (Or.inl rfl))
   (qab (qal (i:=5) sc_panes_by.nd rfl (Or.inl rfl) (qar Ccell_at (hr.mono (by decide)) rfl (vac (vv 0) (vac (qau qaz qaa (vv 4)) qah))))
  (qaf (qbc (vw_t (qc9 (qao qpe (vv 4) qaa) (qbx (qao (qco hr.units) (qau qcp (qau qgi (vv 1) qaa) qaa) qaa))))
   (qaf (qe3 3 (qar Cnear_pane (hr.mono (by decide)) rfl (vac (qat qaj (vv 3) (qau qsi (vv 4) qaa)) (vac (vv 5) qah)))))
   (qaf (qbc (qao (qco hr.units) (qar Cmixed (hr.mono (by decide)) rfl (vac (vv 5) (vac qaa (vac qaa qah)))) qaa)
   (qaf (qe3 3 (qar Cpane_by (hr.mono (by decide)) rfl (vac (qsf (vv 0) (qa9 (qau qaz qaa (vv 4))) (qa9 qaa) (qa9 qaa)) (vac (vv 1) qah)))))
   (qaf (qe3 3 (qar Cpane_by (hr.mono (by decide)) rfl (vac (qsf (vv 0) (qa9 (qau qaz qaa (vv 4))) (qa9 qaa) (qa9 qaa)) (vac (qau qaz (vv 1) (qau qir qaa (qau qaz (qau qir qaa (vv 4)) qaa))) qah)))))))))))
  (qaf (qsj 3)))),qpi⟩
theorem sc_tree_by:FnScope ["_law_cells","_law_stem","_law_wide","_law_things","_law_folders","_law_cell","_law_over","_law_way","_law_mark"] ["_law_cells","_law_stem"] (qae qdp):=⟨rfl,rfl,rfl,by decide +kernel,rfl,by decide +kernel,by decide +kernel⟩
theorem qg0:CompScope (qae qdp) ["_law_cells","_law_stem","_law_wide","_law_things","_law_folders","_law_cell","_law_over","_law_way","_law_mark"] ["_law_cells","_law_stem","_law_wide","_law_things","_law_folders","_law_cell","_law_over","_law_way'","_law_mark","_law_way"] ["_law_way"] ({ kind:=PySem.ScopeKind.function,names:=[ (PySem.Str.ofString ".0",PySem.NameKind.local),(PySem.Str.ofString "_law_way",PySem.NameKind.local),(PySem.Str.ofString "_law_things",PySem.NameKind.free)],isGenerator:=false,isCoroutine:=false,more:=[]:PySem.Scope }):=⟨rfl,by decide +kernel,by decide +kernel,by decide +kernel,by decide +kernel,rfl,by decide +kernel⟩
theorem qo1(F:Fun K "_law_tree_by" "_law_tree_by" qdp f fd)(B:Blt K mg cNoPane)(Cmixed:Cal P w K mg base 1 "_law_mixed" ["_law_cell","_law_turn","_law_many"] (spOf K qam))(Cname_by:Cal P w K mg base 1 "_law_name_by" ["_law_stem","_law_v"] (spOf K qbl))(Ctext_by:Cal P w K mg base 3 "_law_text_by" ["_law_mark","_law_cell","_law_stem","_law_wide"] (spOf K qch)):FnOk P w K mg base CX0 4 f fd ["_law_cells","_law_stem"] (spOf K qd3) :=
 F.okV sc_tree_by ql9 λcdv A outer s H E hr=>⟨qgx,(qab (qal (i:=2) sc_tree_by.nd rfl (Or.inl rfl) (qau qaz qaa (qau qcp (qau qgi (vv 1) qaa) qaa)))
  (qab (qdr (i:=3) sc_tree_by.nd rfl (Or.inr rfl) qfd)
  (qab (qdr (i:=4) sc_tree_by.nd rfl (Or.inl rfl) (qiq (vac (qa4 qah) qah)))
  (qab (qdc PassesOwn.never rfl (qdq (vv 0)) (qa7 (i:=5) sc_tree_by.nd rfl (Or.inl rfl))
   (qab (qal (i:=6) sc_tree_by.nd rfl (Or.inl rfl) (qat qaj (vv 4) (qar Cmixed (hr.mono (by decide)) rfl (vac (vv 5) (vac qaa (vac (qc0 qbw rfl B.len PyProof.Rows.Boot.«len» (vv 4)) qah))))))
  (qab (qbc (qao (qco hr.units) (qar Cmixed (hr.mono (by decide)) rfl (vac (vv 5) (vac qaa (vac qaa qah)))) qaa)
   (qaf (qal (i:=6) sc_tree_by.nd rfl (Or.inl rfl) (qat qaj (vv 4) (qsd qaa))))
   qas)
  (qab (qal (i:=7) sc_tree_by.nd rfl (Or.inl rfl) (qau qaz (vv 6) (qa4 (vac (qar Cname_by (hr.mono (by decide)) rfl (vac (vv 1) (vac (qar Cmixed (hr.mono (by decide)) rfl (vac (vv 5) (vac qaa (vac (vv 2) qah)))) qah))) qah))))
  (qaf (qbc (vw_t (qc9 (qk7 hr.dict (vv 7) (vv 3)) (qbx (qao qsh (qc0 qbw rfl B.len PyProof.Rows.Boot.«len» (vv 7)) qaa))))
   (qab (qal (i:=8) sc_tree_by.nd rfl (Or.inl rfl) (qat qaj (qa4 (vac qak (vac qak (vac qak (vac qak qah))))) (qar Cmixed (hr.mono (by decide)) rfl (vac (vv 5) (vac qaa (vac qaa qah))))))
  (qab (qen 3 hr.dict (vv 7) (qa4 (vac (vv 8) (vac (qar Ctext_by (hr.mono (by decide)) rfl (vac (vv 8) (vac (vv 5) (vac (vv 1) (vac (vv 2) qah))))) qah))))
  (qaf (qbc (qao (qco hr.units) (vv 8) qak)
   (qaf (qe3 4 (vv 7)))
   qas))))
   qas))))))
  (qaf (qay (vc_e (qez (M:=["_law_way"]) (qdq (qc0 (qfx hr.units) rfl B.sorted PyProof.Rows.Boot.«sorted» (qm0 (qgq hr.hd) rfl B.list PyProof.Rows.Boot.«list» (vv 3)))) rfl qg0 (λcl C s2 H2 fp pn=>(qa7 (i:=9) (qg0).nd rfl (Or.inl rfl))) (λcl C s2 H2 fp pn=>qe0) (λcl C s2 H2 fp pn=>(qau qaz (qa4 (vac (vv 9) qah)) (qem hr.dict (vv 3) (vv 9)))))))))))),qsp⟩
theorem qmt:FnScope ["panes","k"] ["panes","k"] (qae qdh):=⟨rfl,rfl,rfl,by decide +kernel,rfl,by decide +kernel,by decide +kernel⟩
theorem qmi(F:Fun K "numbered" "numbered" qdh f fd)(B:Blt K mg cNoPane):FnOk P w K mg base CX0 1 f fd ["panes","k"] (spOf K qde) :=
 F.okV qmt qkg λcdv A outer s H E hr=>⟨qh1,(qab (qbc (qe4 (qut q3e qsh qaa (vv 1) (qc0 qbw rfl B.len PyProof.Rows.Boot.«len» (vv 0))))
   (qaf qur)
   qas)
  (qaf (qay (qat qaj (vv 0) (vv 1))))),qph⟩
theorem qrq:FnScope ["panes"] ["panes"] (qae qej):=⟨rfl,rfl,rfl,by decide +kernel,rfl,by decide +kernel,by decide +kernel⟩
theorem qh4:CompScope (qae qej) ["panes"] ["panes","pane"] ["pane"] ({ kind:=PySem.ScopeKind.function,names:=[ (PySem.Str.ofString ".0",PySem.NameKind.local),(PySem.Str.ofString "pane",PySem.NameKind.local),(PySem.Str.ofString "list",PySem.NameKind.globalImplicit)],isGenerator:=false,isCoroutine:=false,more:=[]:PySem.Scope }):=⟨rfl,by decide +kernel,by decide +kernel,by decide +kernel,by decide +kernel,rfl,by decide +kernel⟩
theorem qra(F:Fun K "copies" "copies" qej f fd)(B:Blt K mg cNoPane):FnOk P w K mg base CX0 1 f fd ["panes"] (spOf K qe9) :=
 F.okV qrq qou λcdv A outer s H E hr=>⟨qiv,(qaf (qay (vc_e (qez (M:=["pane"]) (qdq (vv 0)) rfl qh4 (λcl C s2 H2 fp pn=>(qa7 (i:=1) (qh4).nd rfl (Or.inl rfl))) (λcl C s2 H2 fp pn=>qe0) (λcl C s2 H2 fp pn=>(qm0 qm1 rfl B.list PyProof.Rows.Boot.«list» (vv 1))))))),quv⟩
theorem sc_by_way:FnScope ["entries","found","entry"] ["entries"] (qae qfc):=⟨rfl,rfl,rfl,by decide +kernel,rfl,by decide +kernel,by decide +kernel⟩
theorem qq9(F:Fun K "by_way" "by_way" qfc f fd)(B:Blt K mg cNoPane):FnOk P w K mg base CX0 1 f fd ["entries"] (spOf K qef) :=
 F.okV sc_by_way qot λcdv A outer s H E hr=>⟨qm9,(qab (qdr (i:=1) sc_by_way.nd rfl (Or.inl rfl) qfd)
  (qab (qdc PassesOwn.never rfl (qdq (vv 0)) (qa7 (i:=2) sc_by_way.nd rfl (Or.inl rfl))
   (qaf (qen 1 hr.dict (qat qaj (vv 2) qaa) (vv 2))))
  (qaf (qsj 1)))),quu⟩
theorem qo4:FnScope ["one","other"] ["one","other"] (qae qd8):=⟨rfl,rfl,rfl,by decide +kernel,rfl,by decide +kernel,by decide +kernel⟩
theorem qox(F:Fun K "keys_of" "keys_of" qd8 f fd)(B:Blt K mg cNoPane):FnOk P w K mg base CX0 1 f fd ["one","other"] (spOf K qd2) :=
 F.okV qo4 ql5 λcdv A outer s H E hr=>⟨qgs,(qaf (qay (qyo (i:=0) (j:=1) hr.units hr.hd rfl B.sorted rfl B.set))),qsl⟩
theorem quf:FnScope ["way"] ["way"] (qae qfm):=⟨rfl,rfl,rfl,by decide +kernel,rfl,by decide +kernel,by decide +kernel⟩
theorem qj7:CompScope (qae qfm) ["way"] ["way","count"] ["count"] ({ kind:=PySem.ScopeKind.function,names:=[ (PySem.Str.ofString ".0",PySem.NameKind.local),(PySem.Str.ofString "count",PySem.NameKind.local),(PySem.Str.ofString "way",PySem.NameKind.free)],isGenerator:=false,isCoroutine:=false,more:=[]:PySem.Scope }):=⟨rfl,by decide +kernel,by decide +kernel,by decide +kernel,by decide +kernel,rfl,by decide +kernel⟩
theorem qto(F:Fun K "leads" "leads" qfm f fd)(B:Blt K mg cNoPane):FnOk P w K mg base CX0 1 f fd ["way"] (spOf K qf2) :=
 F.okV quf qqy λcdv A outer s H E hr=>⟨qlj,(qaf (qay (vc_e (qez (M:=["count"]) (qyr rfl B.range qaa (qc0 qbw rfl B.len PyProof.Rows.Boot.«len» (vv 0))) rfl qj7 (λcl C s2 H2 fp pn=>(qa7 (i:=1) (qj7).nd rfl (Or.inl rfl))) (λcl C s2 H2 fp pn=>qe0) (λcl C s2 H2 fp pn=>(qbq (vv 0) qc1 (qa9 (vv 1)))))))),qyt⟩
theorem sc_shut_over:FnScope ["entry","pane","way"] ["entry","pane"] (qae qcw):=⟨rfl,rfl,rfl,by decide +kernel,rfl,by decide +kernel,by decide +kernel⟩
theorem qkr(F:Fun K "shut_over" "shut_over" qcw f fd)(B:Blt K mg cNoPane)(Cleads:Cal P w K mg base 1 "leads" ["way"] (spOf K qf2)):FnOk P w K mg base CX0 2 f fd ["entry","pane"] (spOf K qb4) :=
 F.okV sc_shut_over qi8 λcdv A outer s H E hr=>⟨qgw,(qab (qbc (qao (qco hr.units) (qat qaj (vv 0) qaa) qak)
   (qaf (qay qec))
   qas)
  (qab (qdc PassesOwn.never rfl (qdq (qau qaz (qiq (vac (qa4 qah) qah)) (qar Cleads (hr.mono (by decide)) rfl (vac (qat qaj (vv 0) qaa) qah)))) (qa7 (i:=2) sc_shut_over.nd rfl (Or.inl rfl))
   (qaf (qbc (vw_t (qc9 (qoc hr.dict (vv 2) (vv 1)) (qbx (qao (qco hr.units) (qat qaj (qem hr.dict (vv 1) (vv 2)) qaa) qak))))
   (qaf (qay (qem hr.dict (vv 1) (vv 2))))
   qas)))
  (qaf (qay qec)))),qm5⟩
theorem qhy:FnScope ["one","other"] ["one","other"] (qae qb0):=⟨rfl,rfl,rfl,by decide +kernel,rfl,by decide +kernel,by decide +kernel⟩
theorem qhw(F:Fun K "are_folders" "are_folders" qb0 f fd)(B:Blt K mg cNoPane):FnOk P w K mg base CX0 1 f fd ["one","other"] (spOf K qby) :=
 F.okV qhy qhf λcdv A outer s H E hr=>⟨qee,(qaf (qay (qn8 (qhp qpf (qat qaj (vv 0) qaa) (qa4 (vac qak (vac qak qah)))) (qse (qhp qpf (qat qaj (vv 1) qaa) (qa4 (vac qak (vac qak qah)))))))),qjs⟩
theorem sc_hanging_at:FnScope ["upper","lower","way","one","other"] ["upper","lower","way"] (qae qb9):=⟨rfl,rfl,rfl,by decide +kernel,rfl,by decide +kernel,by decide +kernel⟩
theorem qje(F:Fun K "hanging_at" "hanging_at" qb9 f fd)(B:Blt K mg cNoPane)(Cshut_over:Cal P w K mg base 2 "shut_over" ["entry","pane"] (spOf K qb4))(Care_folders:Cal P w K mg base 1 "are_folders" ["one","other"] (spOf K qby)):FnOk P w K mg base CX0 3 f fd ["upper","lower","way"] (spOf K qb6) :=
 F.okV sc_hanging_at qht λcdv A outer s H E hr=>⟨qgc,(qab (qal (i:=3) sc_hanging_at.nd rfl (Or.inl rfl) (qn9 hr.dict (vv 0) (vv 2)))
  (qab (qal (i:=4) sc_hanging_at.nd rfl (Or.inl rfl) (qn9 hr.dict (vv 1) (vv 2)))
  (qab (qbc (qao qpg (vv 3) qec)
   (qaf (qal (i:=3) sc_hanging_at.nd rfl (Or.inl rfl) (qar Cshut_over (hr.mono (by decide)) rfl (vac (vv 4) (vac (vv 0) qah)))))
   (qaf (qbc (qao qpg (vv 4) qec)
   (qaf (qal (i:=4) sc_hanging_at.nd rfl (Or.inl rfl) (qar Cshut_over (hr.mono (by decide)) rfl (vac (vv 3) (vac (vv 1) qah)))))
   (qaf (qbc (vw_t (qfh (qao (qco hr.units) (vv 3) (vv 4)) (qe5 (qcq (qar Care_folders (hr.mono (by decide)) rfl (vac (vv 3) (vac (vv 4) qah)))))))
   (qaf (qay qec))
   qas)))))
  (qaf (qay (quo (vw_t (qfh (qao qpg (vv 3) qec) (qe5 (qao qpg (vv 4) qec)))) qec (qa4 (vac (vv 3) (vac (vv 4) qah))))))))),qk8⟩
theorem sc_meet:FnScope ["upper","lower","uppers","lowers","way","pair"] ["upper","lower"] (qae qii):=⟨rfl,rfl,rfl,by decide +kernel,rfl,by decide +kernel,by decide +kernel⟩
theorem qwv(F:Fun K "meet" "meet" qii f fd)(B:Blt K mg cNoPane)(Cby_way:Cal P w K mg base 1 "by_way" ["entries"] (spOf K qef))(Ckeys_of:Cal P w K mg base 1 "keys_of" ["one","other"] (spOf K qd2))(Changing_at:Cal P w K mg base 3 "hanging_at" ["upper","lower","way"] (spOf K qb6)):FnOk P w K mg base CX0 4 f fd ["upper","lower"] (spOf K qh8) :=
 F.okV sc_meet qtg λcdv A outer s H E hr=>⟨quy,(qab (qdr (i:=2) sc_meet.nd rfl (Or.inl rfl) (qar Cby_way (hr.mono (by decide)) rfl (vac (vv 0) qah)))
  (qab (qdr (i:=3) sc_meet.nd rfl (Or.inl rfl) (qar Cby_way (hr.mono (by decide)) rfl (vac (vv 1) qah)))
  (qob 3 (qob 2 (qab (qdc PassesOwn.never rfl (qdq (qar Ckeys_of (hr.mono (by decide)) rfl (vac (vv 2) (vac (vv 3) qah)))) (qa7 (i:=4) sc_meet.nd rfl (Or.inl rfl))
   (qab (qal (i:=5) sc_meet.nd rfl (Or.inl rfl) (qar Changing_at (hr.mono (by decide)) rfl (vac (vv 2) (vac (vv 3) (vac (vv 4) qah)))))
  (qaf (qbc (qao quq (vv 5) qec)
   (qaf (qay (vv 5)))
   qas))))
  (qaf (qay qec))))))),q14⟩
theorem sc_sunk:FnScope ["panes","k","pane","others","number","pair"] ["panes","k"] (qae qik):=⟨rfl,rfl,rfl,by decide +kernel,rfl,by decide +kernel,by decide +kernel⟩
theorem qwy(F:Fun K "sunk" "sunk" qik f fd)(B:Blt K mg cNoPane)(Cnumbered:Cal P w K mg base 1 "numbered" ["panes","k"] (spOf K qde))(Ccopies:Cal P w K mg base 1 "copies" ["panes"] (spOf K qe9))(Cmeet:Cal P w K mg base 4 "meet" ["upper","lower"] (spOf K qh8)):FnOk P w K mg base CX0 5 f fd ["panes","k"] (spOf K qgg) :=
 F.okV sc_sunk qtj λcdv A outer s H E hr=>⟨qu0,(qab (qal (i:=2) sc_sunk.nd rfl (Or.inl rfl) (qm0 qm1 rfl B.list PyProof.Rows.Boot.«list» (qar Cnumbered (hr.mono (by decide)) rfl (vac (vv 0) (vac (vv 1) qah)))))
  (qab (qal (i:=3) sc_sunk.nd rfl (Or.inl rfl) (qar Ccopies (hr.mono (by decide)) rfl (vac (qau qaz (qbq (vv 0) qc1 (qa9 (vv 1))) (qbq (vv 0) (qa9 (qau qaz (vv 1) qaa)) qc1)) qah)))
  (qab (qal (i:=4) sc_sunk.nd rfl (Or.inl rfl) (vv 1))
  (qab (qal (i:=5) sc_sunk.nd rfl (Or.inl rfl) qec)
  (qab (qus PassesOwn.never (vw_t (qc9 (qao qpe (vv 4) qaa) (qbx (qao qpg (vv 5) qec))))
   (qab (qal (i:=5) sc_sunk.nd rfl (Or.inl rfl) (qar Cmeet (hr.mono (by decide)) rfl (vac (vv 2) (vac (qat qaj (vv 3) (qau qsi (vv 4) qaa)) qah))))
  (qaf (qbc (qao qpg (vv 5) qec)
   (qaf (qys (i:=4) sc_sunk.nd rfl (Or.inl rfl) qaa))
   qas))))
  (qaf (qay (qa4 (vac (qau qaz (qau qaz (qbq (vv 3) qc1 (qa9 (vv 4))) (qiq (vac (vv 2) qah))) (qbq (vv 3) (qa9 (vv 4)) qc1)) (vac (vv 4) (vac (vv 5) qah))))))))))),q17⟩
theorem sc_same:FnScope ["_law_found","_law_due","_law_k","_law_row"] ["_law_found","_law_due"] (qae s_same):=⟨rfl,rfl,rfl,by decide +kernel,rfl,by decide +kernel,by decide +kernel⟩
theorem qww(F:Fun K "_law_same" "_law_same" s_same f fd)(B:Blt K mg cNoPane):FnOk P w K mg base CX0 1 f fd ["_law_found","_law_due"] (spOf K g_same) :=
 F.okV sc_same qth λcdv A outer s H E hr=>⟨qpz,(qab (qbc (vw_t (qfh (qe4 (qcq (qd0 .list rfl B.isinstance rfl B.list PyProof.Rows.Boot.«list» (vv 0)))) (qe5 (qao (qe2 hr.units) (qc0 qbw rfl B.len PyProof.Rows.Boot.«len» (vv 0)) (qc0 qbw rfl B.len PyProof.Rows.Boot.«len» (vv 1))))))
   (qaf (qay qf9))
   qas)
  (qab (qdc PassesOwn.never rfl (qe1 rfl B.range (qc0 qbw rfl B.len PyProof.Rows.Boot.«len» (vv 1))) (qa7 (i:=2) sc_same.nd rfl (Or.inl rfl))
   (qab (qal (i:=3) sc_same.nd rfl (Or.inl rfl) (qat qaj (vv 0) (vv 2)))
  (qab (qbc (vw_t (qfh (qe4 (qcq (qd0 .tuple rfl B.isinstance rfl B.tuple PyProof.Rows.Boot.«tuple» (vv 3)))) (qfh (qao (qe2 hr.units) (qc0 qbw rfl B.len PyProof.Rows.Boot.«len» (vv 3)) qaa) (qe5 (qe4 (qcq (qd0 .tuple rfl B.isinstance rfl B.tuple PyProof.Rows.Boot.«tuple» (qat qaj (vv 3) qaa))))))))
   (qaf (qay qf9))
   qas)
  (qaf (qbc (vw_t (qfh (qe4 (qcq (qd0 .str rfl B.isinstance rfl B.str PyProof.Rows.Boot.«str» (qat qaj (vv 3) qaa)))) (qfh (qe4 (qcq (qd0 .str rfl B.isinstance rfl B.str PyProof.Rows.Boot.«str» (qat qaj (vv 3) qaa)))) (qe5 (qao (qe2 hr.units) (vv 3) (qat qaj (vv 1) (vv 2)))))))
   (qaf (qay qf9))
   qas)))))
  (qaf (qay qf9)))),q15⟩
theorem sc_order_kept:FnScope ["_law_given","_law_panes","_law_at","_law_k","_law_due","_law_j"] ["_law_given","_law_panes","_law_at","_law_k"] (qae qca):=⟨rfl,rfl,rfl,by decide +kernel,rfl,by decide +kernel,by decide +kernel⟩
theorem qjf(F:Fun K "_law_order_kept" "_law_order_kept" qca f fd)(B:Blt K mg cNoPane)(Csame:Cal P w K mg base 1 "_law_same" ["_law_found","_law_due"] (spOf K g_same)):FnOk P w K mg base CX0 2 f fd ["_law_given","_law_panes","_law_at","_law_k"] (spOf K qb7) :=
 F.okV sc_order_kept qhu λcdv A outer s H E hr=>⟨qgd,(qab (qbc (vw_t (qfh (qe4 (qcq (qd0 .list rfl B.isinstance rfl B.list PyProof.Rows.Boot.«list» (vv 0)))) (qe5 (qao (qe2 hr.units) (qc0 qbw rfl B.len PyProof.Rows.Boot.«len» (vv 0)) (qc0 qbw rfl B.len PyProof.Rows.Boot.«len» (vv 1))))))
   (qaf (qay qf9))
   qas)
  (qab (qal (i:=4) sc_order_kept.nd rfl (Or.inl rfl) (qau qaz (qau qaz (qau qaz (qbq (vv 1) qc1 (qa9 (vv 2))) (qiq (vac (qat qaj (vv 1) (vv 3)) qah))) (qbq (vv 1) (qa9 (vv 2)) (qa9 (vv 3)))) (qbq (vv 1) (qa9 (qau qaz (vv 3) qaa)) qc1)))
  (qab (qdc PassesOwn.never rfl (qe1 rfl B.range (qc0 qbw rfl B.len PyProof.Rows.Boot.«len» (vv 4))) (qa7 (i:=5) sc_order_kept.nd rfl (Or.inl rfl))
   (qaf (qbc (qe4 (qcq (qar Csame (hr.mono (by decide)) rfl (vac (qat qaj (vv 0) (vv 5)) (vac (qat qaj (vv 4) (vv 5)) qah)))))
   (qaf (qay qf9))
   qas)))
  (qaf (qay qf9))))),qk9⟩
theorem sc_laid:FnScope ["_law_pane","_law_tree","_law_marks","_law_row","_law_shown","_law_kept","_law_k"] ["_law_pane","_law_tree"] (qae qhm):=⟨rfl,rfl,rfl,by decide +kernel,rfl,by decide +kernel,by decide +kernel⟩
theorem qne:CompScope (qae qhm) ["_law_pane","_law_tree","_law_marks","_law_row","_law_shown","_law_kept","_law_k"] ["_law_pane","_law_tree","_law_marks","_law_row","_law_shown","_law_kept","_law_k","_law_way"] ["_law_way"] ({ kind:=PySem.ScopeKind.function,names:=[ (PySem.Str.ofString ".0",PySem.NameKind.local),(PySem.Str.ofString "_law_way",PySem.NameKind.local),(PySem.Str.ofString "_law_shown",PySem.NameKind.free)],isGenerator:=false,isCoroutine:=false,more:=[]:PySem.Scope }):=⟨rfl,by decide +kernel,by decide +kernel,by decide +kernel,by decide +kernel,rfl,by decide +kernel⟩
theorem qwu(F:Fun K "_law_laid" "_law_laid" qhm f fd)(B:Blt K mg cNoPane):FnOk P w K mg base CX0 1 f fd ["_law_pane","_law_tree"] (spOf K qh7) :=
 F.okV sc_laid qtf λcdv A outer s H E hr=>⟨qux,(qab (qdr (i:=2) sc_laid.nd rfl (Or.inl rfl) qfd)
  (qab (qdc PassesOwn.never rfl (qdq (vv 0)) (qa7 (i:=3) sc_laid.nd rfl (Or.inl rfl))
   (qaf (qen 2 hr.dict (qat qaj (vv 3) qaa) (qat qaj (vv 3) qaa))))
  (qab (qdr (i:=4) sc_laid.nd rfl (Or.inr rfl) qfd)
  (qab (qdc PassesOwn.never rfl (qdq (vv 1)) (qa7 (i:=3) sc_laid.nd rfl (Or.inl rfl))
   (qab (qal (i:=5) sc_laid.nd rfl (Or.inl rfl) (qsc hr.dict (qat qaj (vv 3) qaa) (vv 2)))
  (qab (qdc PassesOwn.never rfl (qe1 rfl B.range (qc0 qbw rfl B.len PyProof.Rows.Boot.«len» (qat qaj (vv 3) qaa))) (qa7 (i:=6) sc_laid.nd rfl (Or.inl rfl))
   (qaf (qbc (vw_t (qc9 (qoc hr.dict (qbq (qat qaj (vv 3) qaa) qc1 (qa9 (vv 6))) (vv 2)) (qbx (qao (qe2 hr.units) (qem hr.dict (vv 2) (qbq (qat qaj (vv 3) qaa) qc1 (qa9 (vv 6)))) qak))))
   (qaf (qal (i:=5) sc_laid.nd rfl (Or.inl rfl) qf9))
   qas)))
  (qaf (qbc (qcq (vv 5))
   (qaf (qen 4 hr.dict (qat qaj (vv 3) qaa) (qa4 (vac (qat qaj (vv 3) qaa) (vac (qat qaj (vv 3) qaa) qah)))))
   qas)))))
  (qab (qdc PassesOwn.never rfl (qdq (vv 0)) (qa7 (i:=3) sc_laid.nd rfl (Or.inl rfl))
   (qaf (qbc (vw_t (qfh (qao (qco hr.units) (qat qaj (vv 3) qaa) qak) (qe5 (qao (qco hr.units) (qat qaj (vv 3) qaa) qak))))
   (qaf (qen 4 hr.dict (qat qaj (vv 3) qaa) (qa4 (vac (qat qaj (vv 3) qaa) (vac (qat qaj (vv 3) qaa) qah)))))
   (qaf (qbc (vw_t (qc9 (qao (qe2 hr.units) (qat qaj (vv 3) qaa) qak) (qbx (qao (qe2 hr.units) (qat qaj (vv 3) qaa) (qa4 qah)))))
   (qaf (qen 4 hr.dict (qat qaj (vv 3) qaa) (qa4 (vac qak (vac qak qah)))))
   qas)))))
  (qaf (qay (vc_e (qez (M:=["_law_way"]) (qdq (qc0 (qfx hr.units) rfl B.sorted PyProof.Rows.Boot.«sorted» (qm0 (qgq hr.hd) rfl B.list PyProof.Rows.Boot.«list» (vv 4)))) rfl qne (λcl C s2 H2 fp pn=>(qa7 (i:=7) (qne).nd rfl (Or.inl rfl))) (λcl C s2 H2 fp pn=>qe0) (λcl C s2 H2 fp pn=>(qau qaz (qa4 (vac (vv 7) qah)) (qem hr.dict (vv 4) (vv 7))))))))))))),q13⟩
theorem sc_seen:FnScope ["_law_panes","_law_tree","_law_pane"] ["_law_panes","_law_tree"] (qae qij):=⟨rfl,rfl,rfl,by decide +kernel,rfl,by decide +kernel,by decide +kernel⟩
theorem qwx(F:Fun K "_law_seen" "_law_seen" qij f fd)(B:Blt K mg cNoPane)(Claid:Cal P w K mg base 1 "_law_laid" ["_law_pane","_law_tree"] (spOf K qh7)):FnOk P w K mg base CX0 2 f fd ["_law_panes","_law_tree"] (spOf K qg9) :=
 F.okV sc_seen qti λcdv A outer s H E hr=>⟨quz,(qab (qdc PassesOwn.never rfl (qdq (vv 0)) (qa7 (i:=2) sc_seen.nd rfl (Or.inl rfl))
   (qaf (qal (i:=1) sc_seen.nd rfl (Or.inl rfl) (qar Claid (hr.mono (by decide)) rfl (vac (vv 2) (vac (vv 1) qah))))))
  (qaf (qay (vv 1)))),q16⟩
theorem sc_law:FnScope ["_law_script","_law_stem","_law_panes","_law_k","_law_tree","_law_given","_law_at","_law_again"] ["_law_script"] (qae qhx):=⟨rfl,rfl,rfl,by decide +kernel,rfl,by decide +kernel,by decide +kernel⟩
theorem qp6:CompScope (qae qhx) ["_law_script","_law_stem","_law_panes","_law_k","_law_tree","_law_given","_law_at","_law_again"] ["_law_script","_law_stem","_law_panes","_law_k","_law_tree","_law_given","_law_at","_law_again","_law_pane"] ["_law_pane"] ({ kind:=PySem.ScopeKind.function,names:=[ (PySem.Str.ofString ".0",PySem.NameKind.local),(PySem.Str.ofString "_law_pane",PySem.NameKind.local),(PySem.Str.ofString "list",PySem.NameKind.globalImplicit)],isGenerator:=false,isCoroutine:=false,more:=[]:PySem.Scope }):=⟨rfl,by decide +kernel,by decide +kernel,by decide +kernel,by decide +kernel,rfl,by decide +kernel⟩
theorem qz4(F:Fun K "law" "law" qhx f fd)(B:Blt K mg cNoPane)(Ccell_at:Cal P w K mg base 1 "_law_cell_at" ["_law_script","_law_k"] (spOf K qbk))(Cpanes_by:Cal P w K mg base 5 "_law_panes_by" ["_law_script","_law_stem","_law_many"] (spOf K qdf))(Cmixed:Cal P w K mg base 1 "_law_mixed" ["_law_cell","_law_turn","_law_many"] (spOf K qam))(Ctree_by:Cal P w K mg base 4 "_law_tree_by" ["_law_cells","_law_stem"] (spOf K qd3))(Csunk:Cal P w K mg base 5 "sunk" ["panes","k"] (spOf K qgg))(Corder_kept:Cal P w K mg base 2 "_law_order_kept" ["_law_given","_law_panes","_law_at","_law_k"] (spOf K qb7))(Cseen:Cal P w K mg base 2 "_law_seen" ["_law_panes","_law_tree"] (spOf K qg9)):FnOk P w K mg base CX0 6 f fd ["_law_script"] (spOf K ql2) :=
 F.okV sc_law qwn λcdv A outer s H E hr=>⟨qy5,(qab (qal (i:=1) sc_law.nd rfl (Or.inl rfl) (qau qcp (qar Ccell_at (hr.mono (by decide)) rfl (vac (vv 0) (vac qaa qah))) (qau qvy qaa qaa)))
  (qab (qal (i:=2) sc_law.nd rfl (Or.inl rfl) (qar Cpanes_by (hr.mono (by decide)) rfl (vac (vv 0) (vac (vv 1) (vac (qau qaz qaa (qar Cmixed (hr.mono (by decide)) rfl (vac (qar Ccell_at (hr.mono (by decide)) rfl (vac (vv 0) (vac qaa qah))) (vac qaa (vac qaa qah))))) qah)))))
  (qab (qal (i:=3) sc_law.nd rfl (Or.inl rfl) (qau qcp (qau qgi (qar Ccell_at (hr.mono (by decide)) rfl (vac (vv 0) (vac qaa qah))) qaa) (qc0 qbw rfl B.len PyProof.Rows.Boot.«len» (vv 2))))
  (qab (qal (i:=4) sc_law.nd rfl (Or.inl rfl) (qar Ctree_by (hr.mono (by decide)) rfl (vac (qbq (vv 0) (qa9 qaa) (qa9 qaa)) (vac (vv 1) qah))))
  (qab (qal (i:=5) sc_law.nd rfl (Or.inl rfl) (qar Csunk (hr.mono (by decide)) rfl (vac (vc_e (qez (M:=["_law_pane"]) (qdq (vv 2)) rfl qp6 (λcl C s2 H2 fp pn=>(qa7 (i:=8) (qp6).nd rfl (Or.inl rfl))) (λcl C s2 H2 fp pn=>qe0) (λcl C s2 H2 fp pn=>(qm0 qm1 rfl B.list PyProof.Rows.Boot.«list» (vv 8))))) (vac (vv 3) qah))))
  (qab (qbc (vw_t (qfh (qe4 (qcq (qd0 .tuple rfl B.isinstance rfl B.tuple PyProof.Rows.Boot.«tuple» (vv 5)))) (qfh (qao (qe2 hr.units) (qc0 qbw rfl B.len PyProof.Rows.Boot.«len» (vv 5)) qaa) (qfh (qe4 (qcq (qd0 .int rfl B.isinstance rfl B.int PyProof.Rows.Boot.«int» (qat qaj (vv 5) qaa)))) (qe5 (qcq (qd0 .bool rfl B.isinstance rfl B.bool PyProof.Rows.Boot.«bool» (qat qaj (vv 5) qaa))))))))
   (qaf (qay qf9))
   qas)
  (qab (qal (i:=6) sc_law.nd rfl (Or.inl rfl) (qat qaj (vv 5) qaa))
  (qab (qbc (vw_t (qfh (qao qsh (vv 6) qaa) (qfh (qao qpe (vv 6) (vv 3)) (qe5 (qe4 (qcq (qar Corder_kept (hr.mono (by decide)) rfl (vac (qat qaj (vv 5) qaa) (vac (vv 2) (vac (vv 6) (vac (vv 3) qah)))))))))))
   (qaf (qay qf9))
   qas)
  (qab (qbc (qao (qe2 hr.units) (qar Cseen (hr.mono (by decide)) rfl (vac (qat qaj (vv 5) qaa) (vac (vv 4) qah))) (qar Cseen (hr.mono (by decide)) rfl (vac (vv 2) (vac (vv 4) qah))))
   (qaf (qay qf9))
   qas)
  (qab (qal (i:=7) sc_law.nd rfl (Or.inl rfl) (qar Csunk (hr.mono (by decide)) rfl (vac (qat qaj (vv 5) qaa) (vac (vv 6) qah))))
  (qaf (qay (qn8 (qd0 .tuple rfl B.isinstance rfl B.tuple PyProof.Rows.Boot.«tuple» (vv 7)) (qn8 (qhp (qco hr.units) (qc0 qbw rfl B.len PyProof.Rows.Boot.«len» (vv 7)) qaa) (qn8 (qhp (qco hr.units) (qat qaj (vv 7) qaa) (vv 6)) (qse (qhp (qco hr.units) (qat qaj (vv 7) qaa) (qat qaj (vv 5) qaa)))))))))))))))))),q3f⟩
end
theorem q3h{l:PySem.W.OpenLaw}{w:World}{K:PySem.W.Frag}{h:Heap}{mg:Str->Option Value}{fa:Addr}(X:K.In h)(G:h.Ns mainGlobals mg)(hfa:mg "law" = some (.ref fa))
  {f1:Addr} {od1 an1:Option Addr} {sl1:Array (Option Value)} {oc1 kV1 dc1 pm1 cd1 ct1:Value}
  {f2:Addr} {od2 an2:Option Addr} {sl2:Array (Option Value)} {oc2 kV2 dc2 pm2 cd2 ct2:Value}
  {f3:Addr} {od3 an3:Option Addr} {sl3:Array (Option Value)} {oc3 kV3 dc3 pm3 cd3 ct3:Value}
  {f4:Addr} {od4 an4:Option Addr} {sl4:Array (Option Value)} {oc4 kV4 dc4 pm4 cd4 ct4:Value}
  {f5:Addr} {od5 an5:Option Addr} {sl5:Array (Option Value)} {oc5 kV5 dc5 pm5 cd5 ct5:Value}
  {f6:Addr} {od6 an6:Option Addr} {sl6:Array (Option Value)} {oc6 kV6 dc6 pm6 cd6 ct6:Value}
  {f7:Addr} {od7 an7:Option Addr} {sl7:Array (Option Value)} {oc7 kV7 dc7 pm7 cd7 ct7:Value}
  {f8:Addr} {od8 an8:Option Addr} {sl8:Array (Option Value)} {oc8 kV8 dc8 pm8 cd8 ct8:Value}
  {f9:Addr} {od9 an9:Option Addr} {sl9:Array (Option Value)} {oc9 kV9 dc9 pm9 cd9 ct9:Value}
  {f10:Addr} {od10 an10:Option Addr} {sl10:Array (Option Value)} {oc10 kV10 dc10 pm10 cd10 ct10:Value}
  {f11:Addr} {od11 an11:Option Addr} {sl11:Array (Option Value)} {oc11 kV11 dc11 pm11 cd11 ct11:Value}
  {f12:Addr} {od12 an12:Option Addr} {sl12:Array (Option Value)} {oc12 kV12 dc12 pm12 cd12 ct12:Value}
  {f13:Addr} {od13 an13:Option Addr} {sl13:Array (Option Value)} {oc13 kV13 dc13 pm13 cd13 ct13:Value}
  {f14:Addr} {od14 an14:Option Addr} {sl14:Array (Option Value)} {oc14 kV14 dc14 pm14 cd14 ct14:Value}
  {f15:Addr} {od15 an15:Option Addr} {sl15:Array (Option Value)} {oc15 kV15 dc15 pm15 cd15 ct15:Value}
  {f16:Addr} {od16 an16:Option Addr} {sl16:Array (Option Value)} {oc16 kV16 dc16 pm16 cd16 ct16:Value}
  {f17:Addr} {od17 an17:Option Addr} {sl17:Array (Option Value)} {oc17 kV17 dc17 pm17 cd17 ct17:Value}
  {f18:Addr} {od18 an18:Option Addr} {sl18:Array (Option Value)} {oc18 kV18 dc18 pm18 cd18 ct18:Value}
  {f19:Addr} {od19 an19:Option Addr} {sl19:Array (Option Value)} {oc19 kV19 dc19 pm19 cd19 ct19:Value}
  {f20:Addr} {od20 an20:Option Addr} {sl20:Array (Option Value)} {oc20 kV20 dc20 pm20 cd20 ct20:Value}
  {f21:Addr} {od21 an21:Option Addr} {sl21:Array (Option Value)} {oc21 kV21 dc21 pm21 cd21 ct21:Value}
  {f22:Addr} {od22 an22:Option Addr} {sl22:Array (Option Value)} {oc22 kV22 dc22 pm22 cd22 ct22:Value}
  {f23:Addr} {od23 an23:Option Addr} {sl23:Array (Option Value)} {oc23 kV23 dc23 pm23 cd23 ct23:Value}
  {f24:Addr} {od24 an24:Option Addr} {sl24:Array (Option Value)} {oc24 kV24 dc24 pm24 cd24 ct24:Value}
  {f25:Addr} {od25 an25:Option Addr} {sl25:Array (Option Value)} {oc25 kV25 dc25 pm25 cd25 ct25:Value}
  {f26:Addr} {od26 an26:Option Addr} {sl26:Array (Option Value)} {oc26 kV26 dc26 pm26 cd26 ct26:Value}
  {cNoPane:Addr}
  (a1:PySem.W.nsIn K mainGlobals "leads" = some (some (.ref f1))) (l1:K.lookup f1=some ⟨oc1,od1,.func (PySem.W.fnOf "leads" "leads" (qaw qfm) (qav qfm) (qae qfm) .none kV1 dc1 pm1 an1 cd1 ct1),sl1⟩) (c1:PySem.W.codeIn K cd1 "leads" = true) (k1:PySem.W.keepIn K (.ref f1)=true)
  (a2:PySem.W.nsIn K mainGlobals "by_way" = some (some (.ref f2))) (l2:K.lookup f2=some ⟨oc2,od2,.func (PySem.W.fnOf "by_way" "by_way" (qaw qfc) (qav qfc) (qae qfc) .none kV2 dc2 pm2 an2 cd2 ct2),sl2⟩) (c2:PySem.W.codeIn K cd2 "by_way" = true) (k2:PySem.W.keepIn K (.ref f2)=true)
  (a3:PySem.W.nsIn K mainGlobals "numbered" = some (some (.ref f3))) (l3:K.lookup f3=some ⟨oc3,od3,.func (PySem.W.fnOf "numbered" "numbered" (qaw qdh) (qav qdh) (qae qdh) .none kV3 dc3 pm3 an3 cd3 ct3),sl3⟩) (c3:PySem.W.codeIn K cd3 "numbered" = true) (k3:PySem.W.keepIn K (.ref f3)=true)
  (a4:PySem.W.nsIn K mainGlobals "copies" = some (some (.ref f4))) (l4:K.lookup f4=some ⟨oc4,od4,.func (PySem.W.fnOf "copies" "copies" (qaw qej) (qav qej) (qae qej) .none kV4 dc4 pm4 an4 cd4 ct4),sl4⟩) (c4:PySem.W.codeIn K cd4 "copies" = true) (k4:PySem.W.keepIn K (.ref f4)=true)
  (a5:PySem.W.nsIn K mainGlobals "keys_of" = some (some (.ref f5))) (l5:K.lookup f5=some ⟨oc5,od5,.func (PySem.W.fnOf "keys_of" "keys_of" (qaw qd8) (qav qd8) (qae qd8) .none kV5 dc5 pm5 an5 cd5 ct5),sl5⟩) (c5:PySem.W.codeIn K cd5 "keys_of" = true) (k5:PySem.W.keepIn K (.ref f5)=true)
  (a6:PySem.W.nsIn K mainGlobals "are_folders" = some (some (.ref f6))) (l6:K.lookup f6=some ⟨oc6,od6,.func (PySem.W.fnOf "are_folders" "are_folders" (qaw qb0) (qav qb0) (qae qb0) .none kV6 dc6 pm6 an6 cd6 ct6),sl6⟩) (c6:PySem.W.codeIn K cd6 "are_folders" = true) (k6:PySem.W.keepIn K (.ref f6)=true)
  (a7:PySem.W.nsIn K mainGlobals "shut_over" = some (some (.ref f7))) (l7:K.lookup f7=some ⟨oc7,od7,.func (PySem.W.fnOf "shut_over" "shut_over" (qaw qcw) (qav qcw) (qae qcw) .none kV7 dc7 pm7 an7 cd7 ct7),sl7⟩) (c7:PySem.W.codeIn K cd7 "shut_over" = true) (k7:PySem.W.keepIn K (.ref f7)=true)
  (a8:PySem.W.nsIn K mainGlobals "hanging_at" = some (some (.ref f8))) (l8:K.lookup f8=some ⟨oc8,od8,.func (PySem.W.fnOf "hanging_at" "hanging_at" (qaw qb9) (qav qb9) (qae qb9) .none kV8 dc8 pm8 an8 cd8 ct8),sl8⟩) (c8:PySem.W.codeIn K cd8 "hanging_at" = true) (k8:PySem.W.keepIn K (.ref f8)=true)
  (a9:PySem.W.nsIn K mainGlobals "meet" = some (some (.ref f9))) (l9:K.lookup f9=some ⟨oc9,od9,.func (PySem.W.fnOf "meet" "meet" (qaw qii) (qav qii) (qae qii) .none kV9 dc9 pm9 an9 cd9 ct9),sl9⟩) (c9:PySem.W.codeIn K cd9 "meet" = true) (k9:PySem.W.keepIn K (.ref f9)=true)
  (a10:PySem.W.nsIn K mainGlobals "sunk" = some (some (.ref f10))) (l10:K.lookup f10=some ⟨oc10,od10,.func (PySem.W.fnOf "sunk" "sunk" (qaw qik) (qav qik) (qae qik) .none kV10 dc10 pm10 an10 cd10 ct10),sl10⟩) (c10:PySem.W.codeIn K cd10 "sunk" = true) (k10:PySem.W.keepIn K (.ref f10)=true)
  (a11:PySem.W.nsIn K mainGlobals "_law_cell_at" = some (some (.ref f11))) (l11:K.lookup f11=some ⟨oc11,od11,.func (PySem.W.fnOf "_law_cell_at" "_law_cell_at" (qaw qd7) (qav qd7) (qae qd7) .none kV11 dc11 pm11 an11 cd11 ct11),sl11⟩) (c11:PySem.W.codeIn K cd11 "_law_cell_at" = true) (k11:PySem.W.keepIn K (.ref f11)=true)
  (a12:PySem.W.nsIn K mainGlobals "_law_mixed" = some (some (.ref f12))) (l12:K.lookup f12=some ⟨oc12,od12,.func (PySem.W.fnOf "_law_mixed" "_law_mixed" (qaw qf4) (qav qf4) (qae qf4) .none kV12 dc12 pm12 an12 cd12 ct12),sl12⟩) (c12:PySem.W.codeIn K cd12 "_law_mixed" = true) (k12:PySem.W.keepIn K (.ref f12)=true)
  (a13:PySem.W.nsIn K mainGlobals "_law_name_by" = some (some (.ref f13))) (l13:K.lookup f13=some ⟨oc13,od13,.func (PySem.W.fnOf "_law_name_by" "_law_name_by" (qaw qd9) (qav qd9) (qae qd9) .none kV13 dc13 pm13 an13 cd13 ct13),sl13⟩) (c13:PySem.W.codeIn K cd13 "_law_name_by" = true) (k13:PySem.W.keepIn K (.ref f13)=true)
  (a14:PySem.W.nsIn K mainGlobals "_law_signs_by" = some (some (.ref f14))) (l14:K.lookup f14=some ⟨oc14,od14,.func (PySem.W.fnOf "_law_signs_by" "_law_signs_by" (qaw qcx) (qav qcx) (qae qcx) .none kV14 dc14 pm14 an14 cd14 ct14),sl14⟩) (c14:PySem.W.codeIn K cd14 "_law_signs_by" = true) (k14:PySem.W.keepIn K (.ref f14)=true)
  (a15:PySem.W.nsIn K mainGlobals "_law_text_by" = some (some (.ref f15))) (l15:K.lookup f15=some ⟨oc15,od15,.func (PySem.W.fnOf "_law_text_by" "_law_text_by" (qaw qea) (qav qea) (qae qea) .none kV15 dc15 pm15 an15 cd15 ct15),sl15⟩) (c15:PySem.W.codeIn K cd15 "_law_text_by" = true) (k15:PySem.W.keepIn K (.ref f15)=true)
  (a16:PySem.W.nsIn K mainGlobals "_law_tree_by" = some (some (.ref f16))) (l16:K.lookup f16=some ⟨oc16,od16,.func (PySem.W.fnOf "_law_tree_by" "_law_tree_by" (qaw qdp) (qav qdp) (qae qdp) .none kV16 dc16 pm16 an16 cd16 ct16),sl16⟩) (c16:PySem.W.codeIn K cd16 "_law_tree_by" = true) (k16:PySem.W.keepIn K (.ref f16)=true)
  (a17:PySem.W.nsIn K mainGlobals "_law_under_shut" = some (some (.ref f17))) (l17:K.lookup f17=some ⟨oc17,od17,.func (PySem.W.fnOf "_law_under_shut" "_law_under_shut" (qaw qcc) (qav qcc) (qae qcc) .none kV17 dc17 pm17 an17 cd17 ct17),sl17⟩) (c17:PySem.W.codeIn K cd17 "_law_under_shut" = true) (k17:PySem.W.keepIn K (.ref f17)=true)
  (a18:PySem.W.nsIn K mainGlobals "_law_pane_by" = some (some (.ref f18))) (l18:K.lookup f18=some ⟨oc18,od18,.func (PySem.W.fnOf "_law_pane_by" "_law_pane_by" (qaw qdo) (qav qdo) (qae qdo) .none kV18 dc18 pm18 an18 cd18 ct18),sl18⟩) (c18:PySem.W.codeIn K cd18 "_law_pane_by" = true) (k18:PySem.W.keepIn K (.ref f18)=true)
  (a19:PySem.W.nsIn K mainGlobals "_law_near_mark" = some (some (.ref f19))) (l19:K.lookup f19=some ⟨oc19,od19,.func (PySem.W.fnOf "_law_near_mark" "_law_near_mark" (qaw qcv) (qav qcv) (qae qcv) .none kV19 dc19 pm19 an19 cd19 ct19),sl19⟩) (c19:PySem.W.codeIn K cd19 "_law_near_mark" = true) (k19:PySem.W.keepIn K (.ref f19)=true)
  (a20:PySem.W.nsIn K mainGlobals "_law_near_pane" = some (some (.ref f20))) (l20:K.lookup f20=some ⟨oc20,od20,.func (PySem.W.fnOf "_law_near_pane" "_law_near_pane" (qaw qb5) (qav qb5) (qae qb5) .none kV20 dc20 pm20 an20 cd20 ct20),sl20⟩) (c20:PySem.W.codeIn K cd20 "_law_near_pane" = true) (k20:PySem.W.keepIn K (.ref f20)=true)
  (a21:PySem.W.nsIn K mainGlobals "_law_laid" = some (some (.ref f21))) (l21:K.lookup f21=some ⟨oc21,od21,.func (PySem.W.fnOf "_law_laid" "_law_laid" (qaw qhm) (qav qhm) (qae qhm) .none kV21 dc21 pm21 an21 cd21 ct21),sl21⟩) (c21:PySem.W.codeIn K cd21 "_law_laid" = true) (k21:PySem.W.keepIn K (.ref f21)=true)
  (a22:PySem.W.nsIn K mainGlobals "_law_same" = some (some (.ref f22))) (l22:K.lookup f22=some ⟨oc22,od22,.func (PySem.W.fnOf "_law_same" "_law_same" (qaw s_same) (qav s_same) (qae s_same) .none kV22 dc22 pm22 an22 cd22 ct22),sl22⟩) (c22:PySem.W.codeIn K cd22 "_law_same" = true) (k22:PySem.W.keepIn K (.ref f22)=true)
  (a23:PySem.W.nsIn K mainGlobals "_law_panes_by" = some (some (.ref f23))) (l23:K.lookup f23=some ⟨oc23,od23,.func (PySem.W.fnOf "_law_panes_by" "_law_panes_by" (qaw qdi) (qav qdi) (qae qdi) .none kV23 dc23 pm23 an23 cd23 ct23),sl23⟩) (c23:PySem.W.codeIn K cd23 "_law_panes_by" = true) (k23:PySem.W.keepIn K (.ref f23)=true)
  (a24:PySem.W.nsIn K mainGlobals "_law_seen" = some (some (.ref f24))) (l24:K.lookup f24=some ⟨oc24,od24,.func (PySem.W.fnOf "_law_seen" "_law_seen" (qaw qij) (qav qij) (qae qij) .none kV24 dc24 pm24 an24 cd24 ct24),sl24⟩) (c24:PySem.W.codeIn K cd24 "_law_seen" = true) (k24:PySem.W.keepIn K (.ref f24)=true)
  (a25:PySem.W.nsIn K mainGlobals "_law_order_kept" = some (some (.ref f25))) (l25:K.lookup f25=some ⟨oc25,od25,.func (PySem.W.fnOf "_law_order_kept" "_law_order_kept" (qaw qca) (qav qca) (qae qca) .none kV25 dc25 pm25 an25 cd25 ct25),sl25⟩) (c25:PySem.W.codeIn K cd25 "_law_order_kept" = true) (k25:PySem.W.keepIn K (.ref f25)=true)
  (a26:PySem.W.nsIn K mainGlobals "law" = some (some (.ref f26))) (l26:K.lookup f26=some ⟨oc26,od26,.func (PySem.W.fnOf "law" "law" (qaw qhx) (qav qhx) (qae qhx) .none kV26 dc26 pm26 an26 cd26 ct26),sl26⟩) (c26:PySem.W.codeIn K cd26 "law" = true) (k26:PySem.W.keepIn K (.ref f26)=true)
  (q_NoPane:PySem.W.nsIn K mainGlobals "NoPane" = some (some (.ref cNoPane)))
  (x_NoPane:OwnX K cNoPane)
  (z_bool:PySem.W.nsIn K mainGlobals "bool" = some none)
  (z_int:PySem.W.nsIn K mainGlobals "int" = some none)
  (z_isinstance:PySem.W.nsIn K mainGlobals "isinstance" = some none)
  (z_len:PySem.W.nsIn K mainGlobals "len" = some none)
  (z_list:PySem.W.nsIn K mainGlobals "list" = some none)
  (z_range:PySem.W.nsIn K mainGlobals "range" = some none)
  (z_set:PySem.W.nsIn K mainGlobals "set" = some none)
  (z_sorted:PySem.W.nsIn K mainGlobals "sorted" = some none)
  (z_str:PySem.W.nsIn K mainGlobals "str" = some none)
  (z_tuple:PySem.W.nsIn K mainGlobals "tuple" = some none) :
  ∃fd:FuncData,(∀(s:Shared) (v:Value),BindsTo s fd ⟨[v],[]⟩ [("_law_script",v)])/\∀base:Heap,K.In base->base.Ns mainGlobals mg->FnOk l.prog w K mg base CX0 6 fa fd ["_law_script"] (spOf K ql2):=by
 have e:=hfa.symm.trans (PySem.W.mg_of X G a26)
 cases e
 have B:Blt K mg cNoPane:=⟨PySem.W.mg_of X G q_NoPane,q_NoPane,x_NoPane,PySem.W.mg_none_of X G z_bool,PySem.W.mg_none_of X G z_int,PySem.W.mg_none_of X G z_isinstance,PySem.W.mg_none_of X G z_len,PySem.W.mg_none_of X G z_list,PySem.W.mg_none_of X G z_range,PySem.W.mg_none_of X G z_set,PySem.W.mg_none_of X G z_sorted,PySem.W.mg_none_of X G z_str,PySem.W.mg_none_of X G z_tuple⟩
 have F1:=qbo (st:=qfm) l1 c1 k1
 have b1:=F1.binds1 (ps:=["way"]) rfl λ_ _ _ _ _ _ _=>rfl
 have F2:=qbo (st:=qfc) l2 c2 k2
 have b2:=F2.binds1 (ps:=["entries"]) rfl λ_ _ _ _ _ _ _=>rfl
 have F3:=qbo (st:=qdh) l3 c3 k3
 have b3:=F3.binds2 (ps:=["panes","k"]) rfl λ_ _ _ _ _ _ _ _=>rfl
 have F4:=qbo (st:=qej) l4 c4 k4
 have b4:=F4.binds1 (ps:=["panes"]) rfl λ_ _ _ _ _ _ _=>rfl
 have F5:=qbo (st:=qd8) l5 c5 k5
 have b5:=F5.binds2 (ps:=["one","other"]) rfl λ_ _ _ _ _ _ _ _=>rfl
 have F6:=qbo (st:=qb0) l6 c6 k6
 have b6:=F6.binds2 (ps:=["one","other"]) rfl λ_ _ _ _ _ _ _ _=>rfl
 have F7:=qbo (st:=qcw) l7 c7 k7
 have b7:=F7.binds2 (ps:=["entry","pane"]) rfl λ_ _ _ _ _ _ _ _=>rfl
 have F8:=qbo (st:=qb9) l8 c8 k8
 have b8:=F8.binds3 (ps:=["upper","lower","way"]) rfl λ_ _ _ _ _ _ _ _ _=>rfl
 have F9:=qbo (st:=qii) l9 c9 k9
 have b9:=F9.binds2 (ps:=["upper","lower"]) rfl λ_ _ _ _ _ _ _ _=>rfl
 have F10:=qbo (st:=qik) l10 c10 k10
 have b10:=F10.binds2 (ps:=["panes","k"]) rfl λ_ _ _ _ _ _ _ _=>rfl
 have F11:=qbo (st:=qd7) l11 c11 k11
 have b11:=F11.binds2 (ps:=["_law_script","_law_k"]) rfl λ_ _ _ _ _ _ _ _=>rfl
 have F12:=qbo (st:=qf4) l12 c12 k12
 have b12:=F12.binds3 (ps:=["_law_cell","_law_turn","_law_many"]) rfl λ_ _ _ _ _ _ _ _ _=>rfl
 have F13:=qbo (st:=qd9) l13 c13 k13
 have b13:=F13.binds2 (ps:=["_law_stem","_law_v"]) rfl λ_ _ _ _ _ _ _ _=>rfl
 have F14:=qbo (st:=qcx) l14 c14 k14
 have b14:=F14.binds1 (ps:=["_law_cell"]) rfl λ_ _ _ _ _ _ _=>rfl
 have F15:=qbo (st:=qea) l15 c15 k15
 have b15:=F15.binds4 (ps:=["_law_mark","_law_cell","_law_stem","_law_wide"]) rfl λ_ _ _ _ _ _ _ _ _ _=>rfl
 have F16:=qbo (st:=qdp) l16 c16 k16
 have b16:=F16.binds2 (ps:=["_law_cells","_law_stem"]) rfl λ_ _ _ _ _ _ _ _=>rfl
 have F17:=qbo (st:=qcc) l17 c17 k17
 have b17:=F17.binds2 (ps:=["_law_things","_law_way"]) rfl λ_ _ _ _ _ _ _ _=>rfl
 have F18:=qbo (st:=qdo) l18 c18 k18
 have b18:=F18.binds2 (ps:=["_law_cells","_law_stem"]) rfl λ_ _ _ _ _ _ _ _=>rfl
 have F19:=qbo (st:=qcv) l19 c19 k19
 have b19:=F19.binds2 (ps:=["_law_row","_law_turn"]) rfl λ_ _ _ _ _ _ _ _=>rfl
 have F20:=qbo (st:=qb5) l20 c20 k20
 have b20:=F20.binds2 (ps:=["_law_rows","_law_cell"]) rfl λ_ _ _ _ _ _ _ _=>rfl
 have F21:=qbo (st:=qhm) l21 c21 k21
 have b21:=F21.binds2 (ps:=["_law_pane","_law_tree"]) rfl λ_ _ _ _ _ _ _ _=>rfl
 have F22:=qbo (st:=s_same) l22 c22 k22
 have b22:=F22.binds2 (ps:=["_law_found","_law_due"]) rfl λ_ _ _ _ _ _ _ _=>rfl
 have F23:=qbo (st:=qdi) l23 c23 k23
 have b23:=F23.binds3 (ps:=["_law_script","_law_stem","_law_many"]) rfl λ_ _ _ _ _ _ _ _ _=>rfl
 have F24:=qbo (st:=qij) l24 c24 k24
 have b24:=F24.binds2 (ps:=["_law_panes","_law_tree"]) rfl λ_ _ _ _ _ _ _ _=>rfl
 have F25:=qbo (st:=qca) l25 c25 k25
 have b25:=F25.binds4 (ps:=["_law_given","_law_panes","_law_at","_law_k"]) rfl λ_ _ _ _ _ _ _ _ _ _=>rfl
 have F26:=qbo (st:=qhx) l26 c26 k26
 have b26:=F26.binds1 (ps:=["_law_script"]) rfl λ_ _ _ _ _ _ _=>rfl
 refine⟨PySem.W.fnOf "law" "law" (qaw qhx) (qav qhx) (qae qhx) .none kV26 dc26 pm26 an26 cd26 ct26,λs v=>.of_eq rfl,λbase _ _=>?_⟩
 have Ccell_at:=Cal.mk (qow (P:=l.prog) (w:=w) (mg:=mg) (base:=base) F11 B) (PySem.W.mg_of X G a11) k11 b11
 have Cmixed:=Cal.mk (qtp (P:=l.prog) (w:=w) (mg:=mg) (base:=base) F12 B) (PySem.W.mg_of X G a12) k12 b12
 have Cnear_mark:=Cal.mk (qkp (P:=l.prog) (w:=w) (mg:=mg) (base:=base) F19 B) (PySem.W.mg_of X G a19) k19 b19
 have Cunder_shut:=Cal.mk (qjg (P:=l.prog) (w:=w) (mg:=mg) (base:=base) F17 B) (PySem.W.mg_of X G a17) k17 b17
 have Cnear_pane:=Cal.mk (qkq (P:=l.prog) (w:=w) (mg:=mg) (base:=base) F20 B Cmixed Cnear_mark Cunder_shut) (PySem.W.mg_of X G a20) k20 b20
 have Cname_by:=Cal.mk (qoy (P:=l.prog) (w:=w) (mg:=mg) (base:=base) F13 B) (PySem.W.mg_of X G a13) k13 b13
 have Csigns_by:=Cal.mk (qmk (P:=l.prog) (w:=w) (mg:=mg) (base:=base) F14 B Cmixed) (PySem.W.mg_of X G a14) k14 b14
 have Ctext_by:=Cal.mk (qo0 (P:=l.prog) (w:=w) (mg:=mg) (base:=base) F15 B Csigns_by Cmixed Cname_by) (PySem.W.mg_of X G a15) k15 b15
 have Cpane_by:=Cal.mk (qoz (P:=l.prog) (w:=w) (mg:=mg) (base:=base) F18 B Cmixed Cname_by Cunder_shut Ctext_by) (PySem.W.mg_of X G a18) k18 b18
 have Cpanes_by:=Cal.mk (qmj (P:=l.prog) (w:=w) (mg:=mg) (base:=base) F23 B Ccell_at Cnear_pane Cmixed Cpane_by) (PySem.W.mg_of X G a23) k23 b23
 have Ctree_by:=Cal.mk (qo1 (P:=l.prog) (w:=w) (mg:=mg) (base:=base) F16 B Cmixed Cname_by Ctext_by) (PySem.W.mg_of X G a16) k16 b16
 have Cnumbered:=Cal.mk (qmi (P:=l.prog) (w:=w) (mg:=mg) (base:=base) F3 B) (PySem.W.mg_of X G a3) k3 b3
 have Ccopies:=Cal.mk (qra (P:=l.prog) (w:=w) (mg:=mg) (base:=base) F4 B) (PySem.W.mg_of X G a4) k4 b4
 have Cby_way:=Cal.mk (qq9 (P:=l.prog) (w:=w) (mg:=mg) (base:=base) F2 B) (PySem.W.mg_of X G a2) k2 b2
 have Ckeys_of:=Cal.mk (qox (P:=l.prog) (w:=w) (mg:=mg) (base:=base) F5 B) (PySem.W.mg_of X G a5) k5 b5
 have Cleads:=Cal.mk (qto (P:=l.prog) (w:=w) (mg:=mg) (base:=base) F1 B) (PySem.W.mg_of X G a1) k1 b1
 have Cshut_over:=Cal.mk (qkr (P:=l.prog) (w:=w) (mg:=mg) (base:=base) F7 B Cleads) (PySem.W.mg_of X G a7) k7 b7
 have Care_folders:=Cal.mk (qhw (P:=l.prog) (w:=w) (mg:=mg) (base:=base) F6 B) (PySem.W.mg_of X G a6) k6 b6
 have Changing_at:=Cal.mk (qje (P:=l.prog) (w:=w) (mg:=mg) (base:=base) F8 B Cshut_over Care_folders) (PySem.W.mg_of X G a8) k8 b8
 have Cmeet:=Cal.mk (qwv (P:=l.prog) (w:=w) (mg:=mg) (base:=base) F9 B Cby_way Ckeys_of Changing_at) (PySem.W.mg_of X G a9) k9 b9
 have Csunk:=Cal.mk (qwy (P:=l.prog) (w:=w) (mg:=mg) (base:=base) F10 B Cnumbered Ccopies Cmeet) (PySem.W.mg_of X G a10) k10 b10
 have Csame:=Cal.mk (qww (P:=l.prog) (w:=w) (mg:=mg) (base:=base) F22 B) (PySem.W.mg_of X G a22) k22 b22
 have Corder_kept:=Cal.mk (qjf (P:=l.prog) (w:=w) (mg:=mg) (base:=base) F25 B Csame) (PySem.W.mg_of X G a25) k25 b25
 have Claid:=Cal.mk (qwu (P:=l.prog) (w:=w) (mg:=mg) (base:=base) F21 B) (PySem.W.mg_of X G a21) k21 b21
 have Cseen:=Cal.mk (qwx (P:=l.prog) (w:=w) (mg:=mg) (base:=base) F24 B Claid) (PySem.W.mg_of X G a24) k24 b24
 exact qz4 F26 B Ccell_at Cpanes_by Cmixed Ctree_by Csunk Corder_kept Cseen
theorem walk{l:PySem.W.OpenLaw}{q:Program}{loose:List Str}{XP:(Str->Option Value)->Heap->Prop}{YP:World->Heap->Prop}{d:DefRec}{K:Params->PySem.W.Frag}(hn:l.most=some 63)(hdf:d.params.defaults=[])
  (hY:∀(w:World) (h:Heap),YP w h->(K w.params).In h)
  (F:∀(w:World) (mg:Str->Option Value) (fa:Addr) (h:Heap),(K w.params).In h->h.Ns mainGlobals mg->mg d.name=some (.ref fa) ->
   ∃fd:FuncData,(∀(s:Shared) (u:Value),BindsTo s fd ⟨[u],[]⟩ [("_law_script",u)])/\∀base:Heap,(K w.params).In base->base.Ns mainGlobals mg->FnOk l.prog w (K w.params) mg base CX0 6 fa fd ["_law_script"] (spOf (K w.params) ql2)) :
  PySem.W.WalkO q loose XP YP l.row.toRowW d [] (λf vs=>PySem.call f vs) :=
 L2.q3g (n:=63) (k:=6) (x:="_law_script") (CX:=λ_=>CX0) (sp:=λw=>spOf (K w.params) ql2) hn (by decide) hdf ⟨rfl,by decide,by decide⟩ hY F (λw H a ns hl _ hS=>qzy ns hl hS) λ_ _ _ _ _ z=>z
end K29
open PySem PySem.W PyProof.Rows
set_option maxRecDepth 100000 in
set_option maxHeartbeats 0 in
def PySem.W.Fast.tw9956091609242223853 := ()
def PySem.W.Fast.tw9934982789198675501 := ()
def PySem.W.Fast.tw9818174682488736613 := ()
def PySem.W.Fast.tw9764154366753283556 := ()
def PySem.W.Fast.tw9576117717027981438 := ()
def PySem.W.Fast.tw9551698989868679170 := ()
def PySem.W.Fast.tw9549084973698118908 := ()
def PySem.W.Fast.tw9324633540876766813 := ()
def PySem.W.Fast.tw9246504636153082025 := ()
def PySem.W.Fast.tw9239418297418862155 := ()
def PySem.W.Fast.tw9199229307883706372 := ()
def PySem.W.Fast.tw9118114891970205941 := ()
def PySem.W.Fast.tw9051454344962190981 := ()
def PySem.W.Fast.tw8999576654592340186 := ()
def PySem.W.Fast.tw8993138694568310950 := ()
def PySem.W.Fast.tw8777075621365806607 := ()
def PySem.W.Fast.tw8581000447653591563 := ()
def PySem.W.Fast.tw8188442313553780405 := ()
def PySem.W.Fast.tw808316300764332136 := ()
def PySem.W.Fast.tw8059090422416186807 := ()
def PySem.W.Fast.tw8010406208620426068 := ()
def PySem.W.Fast.tw7951777548721255245 := ()
def PySem.W.Fast.tw7944169512494174840 := ()
def PySem.W.Fast.tw7917495338152675467 := ()
def PySem.W.Fast.tw7820340902126768866 := ()
def PySem.W.Fast.tw7812751915911171458 := ()
def PySem.W.Fast.tw7687975341133687476 := ()
def PySem.W.Fast.tw7545988641330478164 := ()
def PySem.W.Fast.tw7511319861720003983 := ()
def PySem.W.Fast.tw7332887138106553077 := ()
def PySem.W.Fast.tw7300786886106841050 := ()
def PySem.W.Fast.tw7247278407060758784 := ()
def PySem.W.Fast.tw7243904246920027019 := ()
def PySem.W.Fast.tw7236781611984419797 := ()
def PySem.W.Fast.tw7116076036646192163 := ()
def PySem.W.Fast.tw7033927012094839331 := ()
def PySem.W.Fast.tw7000691864395910920 := ()
def PySem.W.Fast.tw6980763999428276408 := ()
def PySem.W.Fast.tw6795782160521662236 := ()
def PySem.W.Fast.tw6762867319171806782 := ()
def PySem.W.Fast.tw663808206458499637 := ()
def PySem.W.Fast.tw6608601639139588673 := ()
def PySem.W.Fast.tw6579222236791154366 := ()
def PySem.W.Fast.tw6363175175155451624 := ()
def PySem.W.Fast.tw6339924476739462552 := ()
def PySem.W.Fast.tw630117582653174405 := ()
def PySem.W.Fast.tw6257174004746533169 := ()
def PySem.W.Fast.tw6226370150790202782 := ()
def PySem.W.Fast.tw6211175679812523082 := ()
def PySem.W.Fast.tw6081069039921489349 := ()
def PySem.W.Fast.tw6078971893782953903 := ()
def PySem.W.Fast.tw6004731684886191720 := ()
def PySem.W.Fast.tw5902754938284781912 := ()
def PySem.W.Fast.tw5847038120066986953 := ()
def PySem.W.Fast.tw5836921421357417030 := ()
def PySem.W.Fast.tw5735134359989587416 := ()
def PySem.W.Fast.tw5646802906861190616 := ()
def PySem.W.Fast.tw5635707201399295398 := ()
def PySem.W.Fast.tw5371563760517744932 := ()
def PySem.W.Fast.tw5301464552728276265 := ()
def PySem.W.Fast.tw5285061292392726765 := ()
def PySem.W.Fast.tw5200386211558591094 := ()
def PySem.W.Fast.tw5093163792046552394 := ()
def PySem.W.Fast.tw4811495612323480116 := ()
def PySem.W.Fast.tw4623191570368899387 := ()
def PySem.W.Fast.tw461587411546521389 := ()
def PySem.W.Fast.tw4578289713765724864 := ()
def PySem.W.Fast.tw447863234733869136 := ()
def PySem.W.Fast.tw433852396085731920 := ()
def PySem.W.Fast.tw4270405377583225183 := ()
def PySem.W.Fast.tw4227767584551776405 := ()
def PySem.W.Fast.tw4107583346366594906 := ()
def PySem.W.Fast.tw4056933190483370113 := ()
def PySem.W.Fast.tw4052741045216333746 := ()
def PySem.W.Fast.tw3863880589396749515 := ()
def PySem.W.Fast.tw3779188425294296761 := ()
def PySem.W.Fast.tw3633454719890053299 := ()
def PySem.W.Fast.tw3621349633441991963 := ()
def PySem.W.Fast.tw3555337023425385546 := ()
def PySem.W.Fast.tw354124665998255131 := ()
def PySem.W.Fast.tw3073209931886177841 := ()
def PySem.W.Fast.tw3001441465556039718 := ()
def PySem.W.Fast.tw2950890751671580611 := ()
def PySem.W.Fast.tw294177374039909252 := ()
def PySem.W.Fast.tw2913508278112527759 := ()
def PySem.W.Fast.tw281202771425305341 := ()
def PySem.W.Fast.tw2733870413280866096 := ()
def PySem.W.Fast.tw2703538461793335717 := ()
def PySem.W.Fast.tw2554697540197169624 := ()
def PySem.W.Fast.tw246152912658571436 := ()
def PySem.W.Fast.tw2355610054322608895 := ()
def PySem.W.Fast.tw2340076304911265299 := ()
def PySem.W.Fast.tw2265551843434755295 := ()
def PySem.W.Fast.tw2262051214518206122 := ()
def PySem.W.Fast.tw2238461002836847590 := ()
def PySem.W.Fast.tw2148319656775711884 := ()
def PySem.W.Fast.tw2093477668479710596 := ()
def PySem.W.Fast.tw1979318578860499454 := ()
def PySem.W.Fast.tw1976150573095859495 := ()
def PySem.W.Fast.tw1940750188873146629 := ()
def PySem.W.Fast.tw18432969637813614603 := ()
def PySem.W.Fast.tw18240618384173036165 := ()
def PySem.W.Fast.tw1805825853613472421 := ()
def PySem.W.Fast.tw177273445899051911 := ()
def PySem.W.Fast.tw17577635930714550294 := ()
def PySem.W.Fast.tw17267794943738696962 := ()
def PySem.W.Fast.tw17262557072817089787 := ()
def PySem.W.Fast.tw17225137348152671217 := ()
def PySem.W.Fast.tw17172976267977464111 := ()
def PySem.W.Fast.tw17036964117455802897 := ()
def PySem.W.Fast.tw16836350426773816598 := ()
def PySem.W.Fast.tw16692875241304843916 := ()
def PySem.W.Fast.tw16654032531224824673 := ()
def PySem.W.Fast.tw16565271770794968733 := ()
def PySem.W.Fast.tw16558141231047389083 := ()
def PySem.W.Fast.tw16473882432107800464 := ()
def PySem.W.Fast.tw16424575939754705698 := ()
def PySem.W.Fast.tw16403674649493402557 := ()
def PySem.W.Fast.tw16385921363696554610 := ()
def PySem.W.Fast.tw16376325692567912544 := ()
def PySem.W.Fast.tw16346278989899012301 := ()
def PySem.W.Fast.tw16344381150694666735 := ()
def PySem.W.Fast.tw16084792127806699607 := ()
def PySem.W.Fast.tw16058378699572703069 := ()
def PySem.W.Fast.tw16049362554607060651 := ()
def PySem.W.Fast.tw16038613994588341652 := ()
def PySem.W.Fast.tw15495314548828353499 := ()
def PySem.W.Fast.tw15359688868708412702 := ()
def PySem.W.Fast.tw15233182232263775267 := ()
def PySem.W.Fast.tw15210661838353121704 := ()
def PySem.W.Fast.tw15174111910491496669 := ()
def PySem.W.Fast.tw15102033033485587416 := ()
def PySem.W.Fast.tw15027875723585004070 := ()
def PySem.W.Fast.tw149555044878094220 := ()
def PySem.W.Fast.tw1483505018376695864 := ()
def PySem.W.Fast.tw14691293298405605180 := ()
def PySem.W.Fast.tw14628044473333761519 := ()
def PySem.W.Fast.tw14625111075231773161 := ()
def PySem.W.Fast.tw14619014771404829728 := ()
def PySem.W.Fast.tw14584759487496910155 := ()
def PySem.W.Fast.tw14431333019366047671 := ()
def PySem.W.Fast.tw14410547152927072405 := ()
def PySem.W.Fast.tw14295831623668703712 := ()
def PySem.W.Fast.tw14091403245672320668 := ()
def PySem.W.Fast.tw1405540218959325579 := ()
def PySem.W.Fast.tw1403660672074813690 := ()
def PySem.W.Fast.tw13958075531647186499 := ()
def PySem.W.Fast.tw13934286657747475805 := ()
def PySem.W.Fast.tw13796397330031104282 := ()
def PySem.W.Fast.tw13639389136184355885 := ()
def PySem.W.Fast.tw13480768375240126789 := ()
def PySem.W.Fast.tw13447426386402301660 := ()
def PySem.W.Fast.tw13396017757834644016 := ()
def PySem.W.Fast.tw13033127202331583649 := ()
def PySem.W.Fast.tw129722750761338806 := ()
def PySem.W.Fast.tw12822423590974038482 := ()
def PySem.W.Fast.tw12605418977736785630 := ()
def PySem.W.Fast.tw12589352060857408541 := ()
def PySem.W.Fast.tw12580613709048208768 := ()
def PySem.W.Fast.tw12413800565751539152 := ()
def PySem.W.Fast.tw1234309645195203791 := ()
def PySem.W.Fast.tw12261058637101440170 := ()
def PySem.W.Fast.tw12046330101840271968 := ()
def PySem.W.Fast.tw11893232112210172424 := ()
def PySem.W.Fast.tw11858228171657755834 := ()
def PySem.W.Fast.tw1182494690771193761 := ()
def PySem.W.Fast.tw11704954124055823900 := ()
def PySem.W.Fast.tw11544490571145010705 := ()
def PySem.W.Fast.tw11501345307241542222 := ()
def PySem.W.Fast.tw11459228254030622867 := ()
def PySem.W.Fast.tw11320939834333822474 := ()
def PySem.W.Fast.tw1129532890812512593 := ()
def PySem.W.Fast.tw1122702768263707418 := ()
def PySem.W.Fast.tw11063508675338887163 := ()
def PySem.W.Fast.tw11049550425934667573 := ()
def PySem.W.Fast.tw11041199616263864569 := ()
def PySem.W.Fast.tw10993661476441978587 := ()
def PySem.W.Fast.tw10990186845109506024 := ()
def PySem.W.Fast.tw10963203078583961553 := ()
def PySem.W.Fast.tw10953234712845094247 := ()
def PySem.W.Fast.tw1073663804519968830 := ()
def PySem.W.Fast.tw10263507921400997407 := ()
def PySem.W.Fast.tw10224055103770549989 := ()
def PySem.W.Fast.tw10206869581606529151 := ()
def PySem.W.Fast.tw10102305510368327156 := ()
def PySem.W.Fast.tw1005075703833923743 := ()
def PySem.W.Fast.tw10020170644949311831 := ()
theorem PySem.Challenge.cw_glasslayers_k29_sunk_shows_the_same_holds : PySem.Challenge.rw_glasslayers_k29_sunk_shows_the_same.Holds := by
 w_on;o_law;k_head;(case hw=>w_witness2)
 k_fill
 refine K29.walk (l:=PySem.Challenge.rw_glasslayers_k29_sunk_shows_the_same) rfl rfl (λw h Y=>PySem.W.kIn_of Y) ?F
 case F =>
  intro w mg fa h KX G hmg
  refine' K29.q3h KX G hmg ?a1 ?l1 ?c1 ?k1 ?a2 ?l2 ?c2 ?k2 ?a3 ?l3 ?c3 ?k3 ?a4 ?l4 ?c4 ?k4 ?a5 ?l5 ?c5 ?k5 ?a6 ?l6 ?c6 ?k6 ?a7 ?l7 ?c7 ?k7 ?a8 ?l8 ?c8 ?k8 ?a9 ?l9 ?c9 ?k9 ?a10 ?l10 ?c10 ?k10 ?a11 ?l11 ?c11 ?k11 ?a12 ?l12 ?c12 ?k12 ?a13 ?l13 ?c13 ?k13 ?a14 ?l14 ?c14 ?k14 ?a15 ?l15 ?c15 ?k15 ?a16 ?l16 ?c16 ?k16 ?a17 ?l17 ?c17 ?k17 ?a18 ?l18 ?c18 ?k18 ?a19 ?l19 ?c19 ?k19 ?a20 ?l20 ?c20 ?k20 ?a21 ?l21 ?c21 ?k21 ?a22 ?l22 ?c22 ?k22 ?a23 ?l23 ?c23 ?k23 ?a24 ?l24 ?c24 ?k24 ?a25 ?l25 ?c25 ?k25 ?a26 ?l26 ?c26 ?k26 ?q_NoPane ?x_NoPane ?z_bool ?z_int ?z_isinstance ?z_len ?z_list ?z_range ?z_set ?z_sorted ?z_str ?z_tuple
  (case a1=>k_is)
  (case l1=>k_is)
  (case c1=>k_is)
  (case k1=>k_is)
  (case a2=>k_is)
  (case l2=>k_is)
  (case c2=>k_is)
  (case k2=>k_is)
  (case a3=>k_is)
  (case l3=>k_is)
  (case c3=>k_is)
  (case k3=>k_is)
  (case a4=>k_is)
  (case l4=>k_is)
  (case c4=>k_is)
  (case k4=>k_is)
  (case a5=>k_is)
  (case l5=>k_is)
  (case c5=>k_is)
  (case k5=>k_is)
  (case a6=>k_is)
  (case l6=>k_is)
  (case c6=>k_is)
  (case k6=>k_is)
  (case a7=>k_is)
  (case l7=>k_is)
  (case c7=>k_is)
  (case k7=>k_is)
  (case a8=>k_is)
  (case l8=>k_is)
  (case c8=>k_is)
  (case k8=>k_is)
  (case a9=>k_is)
  (case l9=>k_is)
  (case c9=>k_is)
  (case k9=>k_is)
  (case a10=>k_is)
  (case l10=>k_is)
  (case c10=>k_is)
  (case k10=>k_is)
  (case a11=>k_is)
  (case l11=>k_is)
  (case c11=>k_is)
  (case k11=>k_is)
  (case a12=>k_is)
  (case l12=>k_is)
  (case c12=>k_is)
  (case k12=>k_is)
  (case a13=>k_is)
  (case l13=>k_is)
  (case c13=>k_is)
  (case k13=>k_is)
  (case a14=>k_is)
  (case l14=>k_is)
  (case c14=>k_is)
  (case k14=>k_is)
  (case a15=>k_is)
  (case l15=>k_is)
  (case c15=>k_is)
  (case k15=>k_is)
  (case a16=>k_is)
  (case l16=>k_is)
  (case c16=>k_is)
  (case k16=>k_is)
  (case a17=>k_is)
  (case l17=>k_is)
  (case c17=>k_is)
  (case k17=>k_is)
  (case a18=>k_is)
  (case l18=>k_is)
  (case c18=>k_is)
  (case k18=>k_is)
  (case a19=>k_is)
  (case l19=>k_is)
  (case c19=>k_is)
  (case k19=>k_is)
  (case a20=>k_is)
  (case l20=>k_is)
  (case c20=>k_is)
  (case k20=>k_is)
  (case a21=>k_is)
  (case l21=>k_is)
  (case c21=>k_is)
  (case k21=>k_is)
  (case a22=>k_is)
  (case l22=>k_is)
  (case c22=>k_is)
  (case k22=>k_is)
  (case a23=>k_is)
  (case l23=>k_is)
  (case c23=>k_is)
  (case k23=>k_is)
  (case a24=>k_is)
  (case l24=>k_is)
  (case c24=>k_is)
  (case k24=>k_is)
  (case a25=>k_is)
  (case l25=>k_is)
  (case c25=>k_is)
  (case k25=>k_is)
  (case a26=>k_is)
  (case l26=>k_is)
  (case c26=>k_is)
  (case k26=>k_is)
  (case q_NoPane=>k_is)
  (case x_NoPane=>(delta L2.OwnX;k_exc))
  (case z_bool=>k_is)
  (case z_int=>k_is)
  (case z_isinstance=>k_is)
  (case z_len=>k_is)
  (case z_list=>k_is)
  (case z_range=>k_is)
  (case z_set=>k_is)
  (case z_sorted=>k_is)
  (case z_str=>k_is)
  (case z_tuple=>k_is)
