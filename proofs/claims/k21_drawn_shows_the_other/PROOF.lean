import PyProof.Rows.All
import Wide.All
import OpenK.AllK
import Wide.FinOn
import Lean
import PyProof.EqAt
import PyProof.EqKinds
import PyProof.TupleCall
import PySem.Challenge.RW_glasslayers_k21_drawn_shows_the_other
set_option compiler.extract_closed false
set_option Elab.async false
set_option linter.all false
set_option maxRecDepth 100000
namespace L2
open PySem PySem.Spec PyProof.Rows
abbrev Key:=Sum Int Str
def qog:Key->Value->Bool
|.inl k,v=>Value.isInt k v
|.inr x,v=>Value.isStrOf x v
def keyH(w:World):Key->Int
|.inl k=>hashInt k
|.inr x=>hashStr w x
theorem qbd:∀ {k:Key} {v:Value},qog k v=true->(∃i t,k=Sum.inl i/\v=Value.int i t)\/(∃x t,k=Sum.inr x/\v=Value.str x t)
|.inl i,v,h=>by
  obtain⟨t,e⟩:=Value.isInt_shape (k:=i) (v:=v) h
  exact .inl ⟨i,t,rfl,e⟩
|.inr x,v,h=>by
  obtain⟨t,e⟩:=Value.isStrOf_shape (x:=x) (v:=v) h
  exact .inr ⟨x,t,rfl,e⟩
theorem qqn(i:Int)(t:Tok):qog (.inl i) (.int i t)=true:=by simp[qog,Value.isInt]
theorem qqo(x:Str)(t:Tok):qog (.inr x) (.str x t)=true:=by simp[qog,Value.isStrOf]
theorem qzg(a b:Int):decide ((Sum.inl a:Key)=Sum.inl b)=(a==b):=by
 by_cases e:a=b
 ·subst e;simp
 ·have h:¬ (Sum.inl a:Key)=Sum.inl b:=λq=>e (Sum.inl.inj q)
  rw[decide_eq_false h]
  exact(beq_eq_false_iff_ne.mpr e).symm
theorem qzj(a b:Str):decide ((Sum.inr a:Key)=Sum.inr b)=decide (a=b):=by
 by_cases e:a=b
 ·subst e;simp
 ·have h:¬ (Sum.inr a:Key)=Sum.inr b:=λq=>e (Sum.inr.inj q)
  rw[decide_eq_false h,decide_eq_false e]
theorem qzh(a:Int)(b:Str):decide ((Sum.inl a:Key)=Sum.inr b)=false:=decide_eq_false (λq=>nomatch q)
theorem qzi(a:Str)(b:Int):decide ((Sum.inr a:Key)=Sum.inl b)=false:=decide_eq_false (λq=>nomatch q)
def qa7(prog:Program)(w:World):PySem.KeyKind prog w Key where
 is:=qog
 hash:=keyH w
 inj:=λv a b ha hb=>by
  rcases qbd ha with ⟨i,t,rfl,rfl⟩|⟨x,t,rfl,rfl⟩
  ·rcases qbd hb with ⟨j,u,rfl,e⟩|⟨y,u,rfl,e⟩
   ·injection e with e1 _;rw[e1]
   ·exact nomatch e
  ·rcases qbd hb with ⟨j,u,rfl,e⟩|⟨y,u,rfl,e⟩
   ·exact nomatch e
   ·injection e with e1 _;rw[e1]
 byValue:=λk v h=>by
  rcases qbd h with ⟨i,t,rfl,rfl⟩|⟨x,t,rfl,rfl⟩<;>rfl
 pyHash:=λhv h=>by
  rcases qbd hv with ⟨i,t,rfl,rfl⟩|⟨x,t,rfl,rfl⟩
  ·exact wpAny_pyHash_int h
  ·exact wpAny_pyHash_str h
 eqBool:=λhu hv h=>by
  rcases qbd hu with ⟨i,t,rfl,rfl⟩|⟨x,t,rfl,rfl⟩
  ·rcases qbd hv with ⟨j,u,rfl,rfl⟩|⟨y,u,rfl,rfl⟩
   ·rw[qzg] at h;exact wpAny_eqBool_int h
   ·rw[qzh] at h;exact SeqAt.EqAt.int_str i t y u _ _ _ _ h
  ·rcases qbd hv with ⟨j,u,rfl,rfl⟩|⟨y,u,rfl,rfl⟩
   ·rw[qzi] at h;exact SeqAt.EqAt.str_int x t j u _ _ _ _ h
   ·rw[qzj] at h;exact wpAny_eqBool_str h
 «strs»:=λk x t v h=>by
  rcases qbd h with ⟨i,u,rfl,e⟩|⟨y,u,rfl,e⟩
  ·exact nomatch e
  ·injection e with e1 _
   subst e1
   cases v<;>rfl
theorem qlx(prog:Program)(w:World)(i:Int)(t:Tok):(qa7 prog w).is (.inl i) (.int i t)=true:=qqn i t
theorem qly(prog:Program)(w:World)(x:Str)(t:Tok):(qa7 prog w).is (.inr x) (.str x t)=true:=qqo x t
end L2
namespace L2
open PySem PySem.Spec PyProof.Rows
inductive V where
|non|bl (b:Bool)|int (i:Int)|str (x:Str)|byt (b:Array UInt8)|flt (b:UInt64)|ref (a:Addr)|ty (n:String)
 deriving DecidableEq
def RelV:V->Value->Prop
|.non,u=>u=Value.none
|.bl b,u=>u=Value.bool b
|.int i,u=>∃t,u=Value.int i t
|.str x,u=>∃t,u=Value.str x t
|.byt b,u=>∃t,u=Value.bytes b t
|.flt b,u=>∃t,u=Value.float b t
|.ref a,u=>u=Value.ref a
|.ty n,u=>u=Value.type n
abbrev Vals:List V->List Value->Prop:=Paired RelV
theorem Vals.length{xs:List V}{us:List Value}(r:Vals xs us):xs.length=us.length:=Paired.length r
theorem Vals.get:∀ {xs:List V} {us:List Value} {i:Nat} {x:V},Vals xs us->xs[i]?=some x->∃u,us[i]?=some u/\RelV x u
|_,_,_,_,.nil,e=>by simp at e
|_,_,0,_,.cons r _,e=>by simp at e;subst e;exact⟨_,rfl,r⟩
|_,_,i+1,x,.cons _ t,e=>by
  obtain⟨u,h1,h2⟩:=Vals.get (i:=i) (x:=x) t (by simpa using e)
  exact⟨u,by simpa using h1,h2⟩
theorem Vals.append:∀ {xs ys:List V} {us ws:List Value},Vals xs us->Vals ys ws->Vals (xs++ys) (us++ws)
|_,_,_,_,.nil,s=>s
|_,_,_,_,.cons r t,s=>.cons r (Vals.append t s)
theorem Vals.take:∀ {xs:List V} {us:List Value} (n:Nat),Vals xs us->Vals (xs.take n) (us.take n)
|_,_,0,_=>.nil
|_,_,_+1,.nil=>.nil
|_,_,n+1,.cons r t=>.cons r (Vals.take n t)
theorem Vals.drop:∀ {xs:List V} {us:List Value} (n:Nat),Vals xs us->Vals (xs.drop n) (us.drop n)
|_,_,0,r=>r
|_,_,_+1,.nil=>.nil
|_,_,n+1,.cons _ t=>Vals.drop n t
theorem Vals.none_of:∀ {xs:List V} {us:List Value} {i:Nat},Vals xs us->xs[i]?=none->us[i]?=none:=λ{xs us i} r e=>by
 have h1:=r.length
 have h2:xs.length<=i:=List.getElem?_eq_none_iff.mp e
 exact List.getElem?_eq_none_iff.mpr (by lia)
def RelO:Option V->Option Value->Prop
|some v,some u=>RelV v u
|none,none=>True
|_,_=>False
def KV{κ:Type}:List (κ×V)->List (κ×Value)->Prop:=Paired λ(p:κ×V) (q:κ×Value)=>p.1=q.1/\RelV p.2 q.2
def kV:Key->V
|.inl i=>.int i
|.inr x=>.str x
inductive HO where
|lst (xs:List V)
|tup (xs:List V)
|dK (kvs:List (Key×V))|dT (kvs:List (List Key×V))
|set (S:Int->Bool) (n:Nat)
|ins (C dx:Addr) (fs:List (Str×V))
|own (x:Addr)
|xd (fs:List (Str×V))
|met (f x:Addr)
|rng (lo hi:Int)
|frz (o:Obj) (u:HO)
|tbl (ps:Array Value)
|ext (φ:Heap->Prop)
abbrev Hp:=Addr->Option HO
def upd(H:Hp)(a:Addr)(o:HO):Hp:=λb=>if b=a then some o else H b
theorem qa8{H:Hp}{a:Addr}{o:HO}:upd H a o a=some o:=by unfold upd;rw[if_pos rfl]
theorem qa5{H:Hp}{a b:Addr}{o:HO}(h:b≠a):upd H a o b=H b:=by unfold upd;rw[if_neg h]
theorem q14{H:Hp}{a b:Addr}{o u:HO}(h:H a=some o)(h':H b=some u)(d:o≠u):a≠b:=by
 intro e;subst e;rw[h] at h';exact d (Option.some.inj h')
theorem qb8{H:Hp}{a b:Addr}{o:HO}(h:H a=some o)(h':H b=none):a≠b:=by
 intro e;subst e;rw[h] at h';cases h'
section
variable (P:Program) (w:World)
def ObjOk(H:Hp)(h:Heap)(a:Addr):HO->Prop
|.lst xs=>xs.length<=sizeLine/\∃(its:List Value) (n:Nat),Vals xs its/\h.get? a=some { cls:=.type "list",data:=.seq its.toArray n }
|.tup xs=>xs.length<=sizeLine/\∃its:List Value,Vals xs its/\IsTup h a its.toArray
|.dK kvs=>kvs.length<=sizeLine/\(a==sysModules)=false/\∃vs,KV kvs vs/\h.DictOf (qa7 P w) a vs
|.dT kvs=>kvs.length<=sizeLine/\(a==sysModules)=false/\∃xs:List (List Key×Addr×Value),
   Paired (λ(p:List Key×V) (q:List Key×Addr×Value)=>p.1=q.1/\H q.2.1=some (.tup (p.1.map kV))/\RelV p.2 q.2.2) kvs xs /\
   ∃o es ep,h.get? a=some o/\o.ExactDict/\o.data=.dict es ep/\es.toList=xs.map (entryOfKey (tupleKind (qa7 P w)))/\(xs.map (·.1)).Nodup
|.set S n=>h.SetOf (intKind P w) a S n
|.ins C dx fs=>H dx=some (.own a)/\fs.length<=1000/\dx≠a/\h.get? a=some (PySem.W.instObj C dx) /\
   ∃mA,h.Ns1 dx mA/\(∀f,RelO (fs.lookup f) (mA f))/\PySem.Within mA (fs.map (·.1))
|.own _=>∃o,h.get? a=some o
|.xd fs=>∃mA,h.Ns1 a mA/\∀f,RelO (fs.lookup f) (mA f)
|.rng lo hi=>∃t u v,h.get? a=some { cls:=.type "range",data:=.fields #[.int lo t,.int hi u,.int 1 v] }
|.frz o u=>h.get? a=some o/\ObjOk H h a u
|.tbl ps=>h.get? a=some { cls:=.none,data:=.fields ps }
|.met f x=>h.get? a=some (PySem.W.methodObj (.ref f) (.ref x))
|.ext φ=>φ h/\(∃o,h.get? a=some o)/\∀h1 h2:Heap,φ h1->(∀o,h1.get? a=some o->h2.get? a=some o)->φ h2
def HOk(H:Hp)(h:Heap):Prop:=∀a o,H a=some o->ObjOk P w H h a o
end
section
variable {P:Program} {w:World} {H H':Hp} {h h':Heap} {a:Addr} {o:HO}
theorem ObjOk.lt(x:ObjOk P w H h a o):a<h.objs.size:=by
 cases o with
|lst xs=>obtain⟨_,_,_,_,e⟩:=x;exact Heap.lt_size e
|tup xs=>obtain⟨_,_,_,p⟩:=x;exact p.lt
|dK kvs=>obtain⟨_,_,_,_,o,_,_,e,_⟩:=x;exact Heap.lt_size e
|dT kvs=>obtain⟨_,_,_,_,o,_,_,e,_⟩:=x;exact Heap.lt_size e
|set S n=>obtain⟨o,_,_,_,e,_⟩:=x;exact Heap.lt_size e
|ins C dx fs=>obtain⟨_,_,_,e,_⟩:=x;exact Heap.lt_size e
|own y=>obtain⟨_,e⟩:=x;exact Heap.lt_size e
|xd fs=>obtain⟨_,⟨_,_,_,e,_⟩,_⟩:=x;exact Heap.lt_size e
|rng lo hi=>obtain⟨_,_,_,e⟩:=x;exact Heap.lt_size e
|frz ob u=>obtain⟨e,_⟩:=x;exact Heap.lt_size e
|tbl ps=>exact Heap.lt_size (show h.get? a=some _ from x)
|met f y=>exact Heap.lt_size (show h.get? a=some _ from x)
|ext φ=>obtain⟨_,⟨_,e⟩,_⟩:=x;exact Heap.lt_size e
theorem Paired.mapP{α β:Type}{F G:α->β->Prop}:∀ {l₁:List α} {l₂:List β},Paired F l₁ l₂->(∀a b,F a b->G a b)->Paired G l₁ l₂
|_,_,.nil,_=>.nil
|_,_,.cons r t,f=>.cons (f _ _ r) (Paired.mapP t f)
theorem ObjOk.stay(x:ObjOk P w H h a o)(k:∀b u,(b=a\/H b=some (.own a))->h.get? b=some u->h'.get? b=some u)
  (ho:∀b,H b=some (.own a)->H' b=some (.own a)) (ht:∀b xs,H b=some (.tup xs)->H' b=some (.tup xs)):ObjOk P w H' h' a o:=by
 induction o with
|lst xs=>obtain⟨z,its,n,r,e⟩:=x;exact⟨z,its,n,r,k _ _ (.inl rfl) e⟩
|tup xs=>obtain⟨z,its,r,ob,e,c⟩:=x;exact⟨z,its,r,ob,k _ _ (.inl rfl) e,c⟩
|dK kvs=>obtain⟨z,y,vs,r,ob,es,ep,e,c⟩:=x;exact⟨z,y,vs,r,ob,es,ep,k _ _ (.inl rfl) e,c⟩
|dT kvs =>
  obtain⟨z,y,xs,r,ob,es,ep,e,c⟩:=x
  exact⟨z,y,xs,Paired.mapP r λp q z=>⟨z.1,ht _ _ z.2.1,z.2.2⟩,ob,es,ep,k _ _ (.inl rfl) e,c⟩
|set S n=>obtain⟨ob,es,ep,t,e,c⟩:=x;exact⟨ob,es,ep,t,k _ _ (.inl rfl) e,c⟩
|ins C dx fs =>
  obtain⟨d,z,ne,e,mA,⟨od,es,ep,e2,c⟩,r⟩:=x
  exact⟨ho _ d,z,ne,k _ _ (.inl rfl) e,mA,⟨od,es,ep,k _ _ (.inr d) e2,c⟩,r⟩
|own y=>obtain⟨ob,e⟩:=x;exact⟨ob,k _ _ (.inl rfl) e⟩
|xd fs=>obtain⟨mA,⟨od,es,ep,e,c⟩,r⟩:=x;exact⟨mA,⟨od,es,ep,k _ _ (.inl rfl) e,c⟩,r⟩
|rng lo hi=>obtain⟨t,u,v,e⟩:=x;exact⟨t,u,v,k _ _ (.inl rfl) e⟩
|frz ob u ih=>obtain⟨e,q⟩:=x;exact⟨k _ _ (.inl rfl) e,ih q⟩
|tbl ps =>
  have e:h.get? a=some { cls:=.none,data:=.fields ps }:=x
  show h'.get? a=some { cls:=.none,data:=.fields ps }
  exact k a _ (.inl rfl) e
|met f y =>
  have e:h.get? a=some (PySem.W.methodObj (.ref f) (.ref y)):=x
  show h'.get? a=some (PySem.W.methodObj (.ref f) (.ref y))
  exact k a _ (.inl rfl) e
|ext φ=>obtain⟨p,⟨o,e⟩,st⟩:=x;exact⟨st _ _ p λo q=>k _ _ (.inl rfl) q,⟨o,k _ _ (.inl rfl) e⟩,st⟩
theorem HOk.lt(x:HOk P w H h)(e:H a=some o):a<h.objs.size:=(x a o e).lt
theorem HOk.fresh(x:HOk P w H h)(e:h.objs.size<=a):H a=none:=by
 cases q:H a with
|none=>rfl
|some u=>exact absurd (Nat.lt_of_lt_of_le (x.lt q) e) (Nat.lt_irrefl _)
theorem HOk.kept(x:HOk P w H h)(k:∀b u,h.get? b=some u->h'.get? b=some u):HOk P w H h':=λa o e =>
 (x a o e).stay (λb u _ q=>k b u q) (λ_ q=>q) λ_ _ q=>q
theorem HOk.laid(x:HOk P w H h)(k:∀b u,h.get? b=some u->h'.get? b=some u)(hp:h.objs.size<=a)(new:ObjOk P w (upd H a o) h' a o):HOk P w (upd H a o) h':=λb u e=>by
 have hn:=x.fresh hp
 by_cases hb:b=a
 ·subst hb;rw[qa8] at e;cases e;exact new
 ·rw[qa5 hb] at e
  exact(x b u e).stay (λc v _ q=>k c v q) (λc q=>by rw[qa5 (qb8 q hn)];exact q) λc xs q=>by rw[qa5 (qb8 q hn)];exact q
end
def Rd(H:Hp)(a:Addr)(u:HO):Prop:=H a=some u\/∃o,H a=some (.frz o u)
theorem Rd.ok{P:Program}{w:World}{H:Hp}{h:Heap}{a:Addr}{u:HO}(r:Rd H a u)(x:HOk P w H h):ObjOk P w H h a u:=by
 rcases r with r|⟨o,r⟩
 ·exact x a u r
 ·obtain⟨_,q⟩:=x a _ r
  exact q
def Mut:Option HO->Prop
|some (.lst _)=>True
|some (.dK _)=>True
|some (.dT _)=>True
|some (.set _ _)=>True
|some (.ins _ _ _)=>True
|some (.ext _)=>True
|_=>False
section
variable {P:Program} {w:World} {H:Hp} {h h':Heap} {x e:Addr} {o':HO}
theorem HOk.write(ok:HOk P w H h)(mu:Mut (H x))(he:e=x\/H e=some (.own x))(k:∀b u,b≠e->h.get? b=some u->h'.get? b=some u)(heo:∃u,h'.get? e=some u)
  (new:ObjOk P w (upd H x o') h' x o'):HOk P w (upd H x o') h':=λb u q=>by
 have nown:∀c y,H c=some (.own y)->c≠x:=λc y r z=>by subst z;rw[r] at mu;exact mu
 have ntup:∀c xs,H c=some (.tup xs)->c≠x:=λc xs r z=>by subst z;rw[r] at mu;exact mu
 by_cases hb:b=x
 ·subst hb;rw[qa8] at q;cases q;exact new
 ·rw[qa5 hb] at q
  by_cases hbe:b=e
  ·have q':H b=some (.own x):=by
    rcases he with z|z
    ·exact absurd (hbe.trans z) hb
    ·rw[hbe];exact z
   rw[q] at q';cases q'
   obtain⟨v,hv⟩:=heo
   exact⟨v,by rw[hbe];exact hv⟩
  ·refine(ok b u q).stay (λc v hc r=>k c v ?_ r) (λc r=>by rw[qa5 (nown c b r)];exact r) λc xs r=>by rw[qa5 (ntup c xs r)];exact r
   rcases hc with rfl|hc
   ·exact hbe
   ·rintro rfl
    rcases he with z|z
    ·exact nown c b hc z
    ·rw[hc] at z;cases z;exact hb rfl
end
structure Un(fs ex:List Addr)(H H':Hp)(h h':Heap):Prop where
 keep:∀b o,h.get? b=some o->H b=none->b∉fs->b∉ex->h'.get? b=some o
 slot:∀b o,h.get? b=some o->H b=none->b∈fs->b∉ex->∃sl,h'.get? b=some { o with slots:=sl }
 free:∀b o,h.get? b=some o->H b=none->b∉ex->H' b=none
 there:∀b o,h.get? b=some o->b∉ex->∃o',h'.get? b=some o'
 tups:∀b xs,H b=some (.tup xs)->H' b=some (.tup xs)
 frzs:∀b o u,H b=some (.frz o u)->H' b=some (.frz o u)
 tbls:∀b ps,H b=some (.tbl ps)->∃more,H' b=some (.tbl (ps++more))
section
variable {fs fs' ex ex':List Addr} {H H1 H2:Hp} {h h1 h2 h':Heap} {a x e:Addr} {o:HO}
theorem Un.any(u:Un fs ex H H1 h h1){b:Addr}{ob:Obj}(q:h.get? b=some ob)(n:H b=none)(hx:b∉ex):∃sl,h1.get? b=some { ob with slots:=sl }:=by
 by_cases hb:b∈fs
 ·exact u.slot b ob q n hb hx
 ·exact⟨ob.slots,u.keep b ob q n hb hx⟩
theorem Un.kept(k:∀b u,h.get? b=some u->h'.get? b=some u):Un fs ex H H h h' :=
 ⟨λb ob q _ _ _=>k b ob q,λb ob q _ _ _=>⟨ob.slots,k b ob q⟩,λ_ _ _ n _=>n,λb ob q _=>⟨ob,k b ob q⟩,λ_ _ q=>q,λ_ _ _ q=>q,λ_ ps q=>⟨#[],by rw[q];simp⟩⟩
theorem Un.refl:Un fs ex H H h h:=Un.kept λ_ _ q=>q
theorem Un.laid(k:∀b u,h.get? b=some u->h'.get? b=some u)(hp:h.objs.size<=a)(hn:H a=none):Un fs ex H (upd H a o) h h' where
 keep:=λb u q _ _ _=>k b u q
 slot:=λb u q _ _ _=>⟨u.slots,k b u q⟩
 free:=λb u q n _=>by rw[qa5 (Nat.ne_of_lt (Nat.lt_of_lt_of_le (Heap.lt_size q) hp))];exact n
 there:=λb u q _=>⟨u,k b u q⟩
 tups:=λb xs q=>by rw[qa5 (qb8 q hn)];exact q
 frzs:=λb u xs q=>by rw[qa5 (qb8 q hn)];exact q
 tbls:=λb ps q=>⟨#[],by rw[qa5 (qb8 q hn),q];simp⟩
theorem Un.write(mu:Mut (H x))(he:e=x\/H e=some (.own x))(k:∀b u,b≠e->h.get? b=some u->h'.get? b=some u)(heo:∃u,h'.get? e=some u):Un fs ex H (upd H x o) h h':=by
 have hx:∀b,H b=none->b≠x:=λb n z=>by subst z;rw[n] at mu;exact mu
 have hb:∀b,H b=none->b≠e:=λb n z=>by
  subst z
  rcases he with r|r
  ·exact hx b n r
  ·rw[n] at r;cases r
 have hm:∀b u,H b=some u->¬ Mut (some u)->b≠x:=λb u q nm z=>by subst z;rw[q] at mu;exact nm mu
 refine⟨λb u q n _ _=>k b u (hb b n) q,λb u q n _ _=>⟨u.slots,k b u (hb b n) q⟩,λb u q n _=>by rw[qa5 (hx b n)];exact n,λb u q _=>?_,
  λb xs q=>by rw[qa5 (hm b _ q λz=>z)];exact q,λb u xs q=>by rw[qa5 (hm b _ q λz=>z)];exact q,λb ps q=>⟨#[],by rw[qa5 (hm b _ q λz=>z),q];simp⟩⟩
 by_cases hbe:b=e
 ·subst hbe;exact heo
 ·exact⟨u,k b u hbe q⟩
end
def trk(h:Heap)(H:Hp):List Addr:=(List.range h.objs.size).filter λa=>(H a).isSome
def hidT(h:Heap)(H:Hp):Heap:=PySem.W.hideAll h (trk h H)
theorem qqg(h:Heap)(H:Hp):(hidT h H).objs.size=h.objs.size:=PySem.W.hideAll_size _ _
theorem qs1{h:Heap}{H:Hp}{b:Addr}{o:Obj}(e:h.get? b=some o)(n:H b=none):(hidT h H).get? b=some o :=
 PySem.W.hideAll_get _ e λhm=>by
  have q:(H b).isSome=true:=(List.mem_filter.mp hm).2
  rw[n] at q;simp at q
theorem qww{h:Heap}{H:Hp}{b:Addr}{o:Obj}(e:(hidT h H).get? b=some o):h.get? b=some o/\H b=none:=by
 have e':h.get? b=some o:=PySem.W.of_hideAll (trk h H) e
 refine⟨e',?_⟩
 cases q:H b with
|none=>rfl
|some x =>
  have hm:b∈trk h H:=List.mem_filter.mpr ⟨List.mem_range.mpr (Heap.lt_size e'),by simp[q]⟩
  have z:(hidT h H).get? b=none:=PySem.W.hideAll_none (trk h H) hm
  rw[z] at e;cases e
def qv1(g h:Heap)(L:Addr):List (Addr×Obj):=(List.range h.objs.size).filterMap λa=>if a=L\/(g.get? a).isSome=true then none else (h.get? a).map λo=>(a,o)
def rest(g h:Heap)(L d:Addr):List (Addr×Obj):=(qv1 g h L).filter λp=>decide (p.1≠d)
end L2
namespace L2
open PySem PySem.Spec PyProof.Rows
structure Mod(K:PySem.W.Frag)(mg:Str->Option Value)(base:Heap):Prop where
 kin:K.In base
 glob:base.Ns mainGlobals mg
 blt:∃mb,base.Ns builtinsNs mb/\∀x:Str,x≠"__name__" -> mb x=bootBuiltins x
 nolimit:base.NoLimit
structure Cx where
 prog:Program
 w:World
 K:PySem.W.Frag
 mg:Str->Option Value
 base:Heap
 A:Around
 N:List Str
 s₀:Shared
 H₀:Hp
 env:Env
 outer:List Env
 stack:List Env
 ex:List Addr
 fn:Str->Bool
 calm:Bool
 pn:List (Addr×Obj)
 xe:Value->Shared->Prop
def frs(l:List Env):List Addr:=l.filterMap (·.frame)
abbrev Cx.fs(X:Cx):List Addr:=frs X.outer
def Vis(sc:Scope)(x:Str):Prop:=sc.names.lookup x=some .local\/sc.names.lookup x=some .cell\/sc.names.lookup x=some .free
def Loc(sc:Scope)(x:Str):Prop:=sc.names.lookup x=some .local\/sc.names.lookup x=some .cell
def Look(env:Env)(h:Heap)(m:Str->Option Value)(x:Str)(u:Value):Prop :=
 (env.kindOf x=some .local/\m x=some u)\/((env.kindOf x=some .cell\/env.kindOf x=some .free)/\∃c,env.cells.lookup x=some c/\h.IsCell c (some u))
structure Cx.Ok(X:Cx):Prop where
 mod:Mod X.K X.mg X.base
 kind:X.env.scope.kind=.function
 glob:X.env.globals=mainGlobals
 blt:X.env.builtins=builtinsNs
 above:X.s₀.heap.objs.size<=X.env.locals
 inj:∀x y c,X.env.cells.lookup x=some c->X.env.cells.lookup y=some c->x=y
 has:∀x,(X.env.kindOf x=some .cell\/X.env.kindOf x=some .free)->∃c,X.env.cells.lookup x=some c
 cab:∀x c,X.fn x=true->X.env.cells.lookup x=some c->X.s₀.heap.objs.size<=c
 hd:X.calm=true->X.A.handled=none
 frames:X.A.frames=some X.stack
 stk:X.stack=X.outer\/(X.stack=X.env::X.outer/\X.env.frame=some X.env.locals)
 exf:∀b∈X.ex,b≠X.env.locals/\∀x c,X.env.cells.lookup x=some c->c≠b
 bs:∀b o,X.base.get? b=some o->X.s₀.heap.get? b=some o/\X.H₀ b=none
 bsz:X.base.objs.size<=X.s₀.heap.objs.size
 noex:∀b o,X.base.get? b=some o->b∉X.ex
 exfs:∀b∈X.ex,b∉X.fs
 funs:X.s₀.heap.FunFrames X.base X.outer
 frf:∀b∈X.fs,X.H₀ b=none
structure Inv(X:Cx)(pins:List (Addr×Obj))(σ:List (Option V))(H:Hp)(s:Shared):Prop where
 ok:X.Ok
 os:s.os=X.s₀.os
 bare:AllBare s.gens
 base:Un X.fs X.ex X.H₀ H X.s₀.heap s.heap
 loc:∃m,s.heap.Ns X.env.locals m/\∀(i:Nat) (x:Str) (v:V),X.N[i]?=some x->σ[i]?=some (some v)->Vis X.env.scope x->∃u,RelV v u/\Look X.env s.heap m x u
 cell:∀x c,X.env.cells.lookup x=some c->∃v,s.heap.IsCell c v
 free:H X.env.locals=none
 freeC:∀x c,X.env.cells.lookup x=some c->H c=none
 pin:∀p∈X.pn++pins,s.heap.get? p.1=some p.2/\H p.1=none/\p.1≠X.env.locals/\p.1∉X.fs/\∀v,p.2.data≠.cell v
 hok:HOk X.prog X.w H s.heap
 len:σ.length=X.N.length
section
variable {X:Cx} {pins:List (Addr×Obj)} {σ:List (Option V)} {H H':Hp} {s:Shared} {h':Heap}
theorem Cx.Ok.nofr(ok:X.Ok){b:Addr}{o:Obj}(e:X.base.get? b=some o):b∉X.fs:=λhb=>by
 have:=(ok.funs.mem hb).1
 rw[e] at this;cases this
theorem Inv.bs(I:Inv X pins σ H s):∀b o,X.base.get? b=some o->s.heap.get? b=some o/\H b=none:=λb o e =>
 ⟨I.base.keep b o (I.ok.bs b o e).1 (I.ok.bs b o e).2 (I.ok.nofr e) (I.ok.noex b o e),I.base.free b o (I.ok.bs b o e).1 (I.ok.bs b o e).2 (I.ok.noex b o e)⟩
theorem Inv.bk(I:Inv X pins σ H s):∀b o,X.base.get? b=some o->s.heap.get? b=some o:=λb o e=>(I.bs b o e).1
theorem Inv.mod(I:Inv X pins σ H s):Mod X.K X.mg X.base:=I.ok.mod
theorem Inv.kIn(I:Inv X pins σ H s):X.K.In s.heap:=I.ok.mod.kin.keeps I.bk
theorem Inv.lt(I:Inv X pins σ H s):X.env.locals<s.heap.objs.size:=let ⟨_,hn,_⟩:=I.loc;hn.lt
theorem Inv.sz(I:Inv X pins σ H s):X.s₀.heap.objs.size<=s.heap.objs.size:=Nat.le_trans I.ok.above (Nat.le_of_lt I.lt)
theorem Inv.nofs(I:Inv X pins σ H s){a:Addr}(h:s.heap.objs.size<=a):a∉X.fs:=λhb=>by
 obtain⟨_,o,ho,_⟩:=I.ok.funs.mem hb
 exact absurd (Nat.lt_of_lt_of_le (Heap.lt_size ho) (Nat.le_trans I.sz h)) (Nat.lt_irrefl _)
theorem Inv.cne(I:Inv X pins σ H s):∀x c,X.env.cells.lookup x=some c->c≠X.env.locals:=λx c e z=>by
 obtain⟨v,o,ho,hd⟩:=I.cell x c e
 obtain⟨m,⟨o',es,ep,ho',hd',_⟩,_⟩:=I.loc
 rw[z,ho'] at ho;cases ho;rw[hd'] at hd;cases hd
theorem Inv.funs(I:Inv X pins σ H s):s.heap.FunFrames X.base X.outer:=by
 have all:∀(l:List Env),(∀b∈frs l,b∈X.fs)->X.s₀.heap.FunFrames X.base l->s.heap.FunFrames X.base l:=by
  intro l
  induction l with
 |nil=>intro _ _;trivial
 |cons env r ih =>
   intro hs hl
   obtain⟨hk,⟨L,o,hf,hn,ho,hd⟩,hr⟩:=hl
   have hL:L∈X.fs:=hs L (by unfold frs;rw[List.filterMap_cons,hf];exact List.mem_cons_self)
   obtain⟨sl,e⟩:=I.base.slot L o ho (I.ok.frf L hL) hL λz=>I.ok.exfs L z hL
   exact⟨hk,⟨L,_,hf,hn,e,hd⟩,ih (λb hb=>hs b (by unfold frs;rw[List.filterMap_cons,hf];exact List.mem_cons_of_mem _ hb)) hr⟩
 exact all X.outer (λ_ hb=>hb) I.ok.funs
theorem Inv.stack(I:Inv X pins σ H s):s.heap.FunFrames X.base X.stack:=by
 rcases I.ok.stk with e|⟨e,hf⟩
 ·rw[e];exact I.funs
 ·rw[e]
  obtain⟨m,hn,_⟩:=I.loc
  refine .cons (by rw[I.ok.kind];decide) hf hn ?_ I.funs
  exact Heap.get?_none_of_le (Nat.le_trans I.ok.bsz I.ok.above)
theorem Inv.stkSub(I:Inv X pins σ H s):∀b∈frs X.stack,b∈X.env.locals::X.fs:=λb hb=>by
 rcases I.ok.stk with e|⟨e,hf⟩
 ·rw[e] at hb;exact List.mem_cons_of_mem _ hb
 ·rw[e] at hb
  unfold frs at hb
  rw[List.filterMap_cons,hf] at hb
  exact hb
theorem Inv.stkFree(I:Inv X pins σ H s):∀b∈frs X.stack,H b=none:=λb hb=>by
 rcases List.mem_cons.mp (I.stkSub b hb) with e|hb
 ·rw[e];exact I.free
 ·obtain⟨_,o,ho,_⟩:=I.ok.funs.mem hb
  exact I.base.free b o ho (I.ok.frf b hb) λz=>I.ok.exfs b z hb
theorem Inv.step{g':Array GenState}{t':Nat}{d':Drawn}{ch:List Addr}(I:Inv X pins σ H s)
  (hch:∀b∈ch,(b∈X.ex\/X.s₀.heap.objs.size<=b)/\b≠X.env.locals/\(∀x c,X.env.cells.lookup x=some c->c≠b)/\∀p∈X.pn++pins,p.1≠b)
  (keep:∀b o,b≠X.env.locals->b∉X.fs->b∉ch->s.heap.get? b=some o->H b=none->h'.get? b=some o)
  (slot:∀b o,b≠X.env.locals->b∈X.fs->b∉ch->s.heap.get? b=some o->H b=none->∃sl,h'.get? b=some { o with slots:=sl }) (free:∀b o,b∉ch->s.heap.get? b=some o->H b=none->H' b=none)
  (there:∀b o,b∉ch->s.heap.get? b=some o->∃o',h'.get? b=some o')
  (tups:∀b xs,H b=some (.tup xs)->H' b=some (.tup xs)) (frzs:∀b o u,H b=some (.frz o u)->H' b=some (.frz o u)) (tbls:∀b ps,H b=some (.tbl ps)->∃more,H' b=some (.tbl (ps++more)))
  (ns:∀m,s.heap.Ns X.env.locals m->h'.Ns X.env.locals m) (hok:HOk X.prog X.w H' h') (hg:AllBare g') :
  Inv X pins σ H' { s with heap:=h',gens:=g',drawn:=d',toks:=t' }:=by
 have neL:∀b o,X.s₀.heap.get? b=some o->b≠X.env.locals:=λb o e=>Nat.ne_of_lt (Nat.lt_of_lt_of_le (Heap.lt_size e) I.ok.above)
 have neC:∀b o,X.s₀.heap.get? b=some o->b∉X.ex->b∉ch:=λb o e hx hb=>by
  rcases (hch b hb).1 with z|z
  ·exact hx z
  ·exact absurd (Nat.lt_of_lt_of_le (Heap.lt_size e) z) (Nat.lt_irrefl _)
 have cellK:∀x c,X.env.cells.lookup x=some c->∀v,s.heap.IsCell c v->h'.IsCell c v:=λx c e v ⟨o,ho,hd⟩=>by
  have nch:c∉ch:=λz=>(hch c z).2.2.1 x c e rfl
  by_cases hc:c∈X.fs
  ·obtain⟨sl,q⟩:=slot c o (I.cne x c e) hc nch ho (I.freeC x c e)
   exact⟨_,q,hd⟩
  ·exact⟨o,keep c o (I.cne x c e) hc nch ho (I.freeC x c e),hd⟩
 refine⟨I.ok,I.os,hg,⟨λb o e n hb hx=>?_,λb o e n hb hx=>?_,λb o e n hx=>?_,λb o e hx=>?_,λb xs e=>tups b xs (I.base.tups b xs e),λb o xs e=>frzs b o xs (I.base.frzs b o xs e),λb ps e=>?_⟩,?_,λx c e=>?_,?_,λx c e=>?_,λp hp=>?_,hok,I.len⟩
 ·exact keep b o (neL b o e) hb (neC b o e hx) (I.base.keep b o e n hb hx) (I.base.free b o e n hx)
 ·obtain⟨sl,e1⟩:=I.base.slot b o e n hb hx
  obtain⟨sl',e2⟩:=slot b _ (neL b o e) hb (neC b o e hx) e1 (I.base.free b o e n hx)
  exact⟨sl',e2⟩
 ·obtain⟨o',e1⟩:=I.base.there b o e hx
  exact free b o' (neC b o e hx) e1 (I.base.free b o e n hx)
 ·obtain⟨o',e1⟩:=I.base.there b o e hx
  exact there b o' (neC b o e hx) e1
 ·obtain⟨m1,e1⟩:=I.base.tbls b ps e
  obtain⟨m2,e2⟩:=tbls b _ e1
  exact⟨m1++m2,by rw[e2,Array.append_assoc]⟩
 ·obtain⟨m,hn,hl⟩:=I.loc
  refine⟨m,ns m hn,λi x v e1 e2 e3=>?_⟩
  obtain⟨u,r,l⟩:=hl i x v e1 e2 e3
  refine⟨u,r,?_⟩
  rcases l with l|⟨k,c,e,z⟩
  ·exact .inl l
  ·exact .inr ⟨k,c,e,cellK x c e _ z⟩
 ·obtain⟨v,z⟩:=I.cell x c e
  exact⟨v,cellK x c e v z⟩
 ·obtain⟨m,⟨o,_,_,ho,_⟩,_⟩:=I.loc
  exact free _ o (λz=>(hch _ z).2.1 rfl) ho I.free
 ·obtain⟨v,o,ho,hd⟩:=I.cell x c e
  exact free c o (λz=>(hch c z).2.2.1 x c e rfl) ho (I.freeC x c e)
 ·obtain⟨e,n,ne,nf,d⟩:=I.pin p hp
  have nch:p.1∉ch:=λz=>(hch p.1 z).2.2.2 p hp rfl
  exact⟨keep p.1 p.2 ne nf nch e n,free p.1 p.2 nch e n,ne,nf,d⟩
theorem Inv.un{t':Nat}(I:Inv X pins σ H s)(u:Un X.fs [] H H' s.heap h')(hok:HOk X.prog X.w H' h'):Inv X pins σ H' { s with heap:=h',toks:=t' }:=by
 obtain⟨m,⟨o,es,ep,ho,r⟩,_⟩:=id I.loc
 obtain⟨sl,hL⟩:=u.any ho I.free (by simp)
 exact I.step (g':=s.gens) (d':=s.drawn) (ch:=[]) (λ_ z=>nomatch z) (λb o _ hb _ e n=>u.keep b o e n hb (by simp)) (λb o _ hb _ e n=>u.slot b o e n hb (by simp)) (λb o _ e n=>u.free b o e n (by simp)) (λb o _ e=>u.there b o e (by simp)) u.tups u.frzs u.tbls (λm' hm=>by
  obtain⟨o',es',ep',ho',r'⟩:=hm
  rw[ho] at ho';cases ho'
  exact⟨_,es',ep',hL,r'⟩) hok I.bare
theorem Inv.call{g':Array GenState}{t':Nat}{d':Drawn}{ch:List Addr}(I:Inv X pins σ H s)(u:Un (frs X.stack) ch H H' s.heap h')(hok:HOk X.prog X.w H' h')(hg:AllBare g')
  (hch:∀b∈ch,(b∈X.ex\/X.s₀.heap.objs.size<=b)/\b≠X.env.locals/\(∀x c,X.env.cells.lookup x=some c->c≠b)/\∀p∈X.pn++pins,p.1≠b) :
  Inv X pins σ H' { s with heap:=h',gens:=g',drawn:=d',toks:=t' }:=by
 obtain⟨m,⟨o,es,ep,ho,r⟩,_⟩:=id I.loc
 obtain⟨sl,hL⟩:=u.any ho I.free λz=>(hch _ z).2.1 rfl
 exact I.step (ch:=ch) hch (λb o hL hb hc e n=>u.keep b o e n (λz=>(List.mem_cons.mp (I.stkSub b z)).elim hL hb) hc) (λb o _ _ hc e n=>u.any e n hc) (λb o hc e n=>u.free b o e n hc) (λb o hc e=>u.there b o e hc) u.tups u.frzs u.tbls (λm' hm=>by
  obtain⟨o',es',ep',ho',r'⟩:=hm
  rw[ho] at ho';cases ho'
  exact⟨_,es',ep',hL,r'⟩) hok hg
theorem Inv.turned{t':Nat}{it:Addr}(I:Inv X pins σ H s)(k:∀b o,b≠it->s.heap.get? b=some o->h'.get? b=some o)(hn:H it=none)(hL:it≠X.env.locals)
  (h1:it∈X.ex\/X.s₀.heap.objs.size<=it) (h2:∀x c,X.env.cells.lookup x=some c->c≠it) (h3:∀p∈X.pn++pins,p.1≠it):Inv X pins σ H { s with heap:=h',toks:=t' }:=by
 have nit:∀b u,H b=some u->b≠it:=λb u e z=>by rw[z,hn] at e;cases e
 refine I.step (g':=s.gens) (d':=s.drawn) (ch:=[it]) (λb hb=>?_) (λb o _ _ hc e _=>k b o (λz=>hc (by simp[z])) e) (λb o _ _ hc e _=>⟨o.slots,k b o (λz=>hc (by simp[z])) e⟩) (λ_ _ _ _ n=>n)
  (λb o hc e=>⟨o,k b o (λz=>hc (by simp[z])) e⟩) (λ_ _ e=>e) (λ_ _ _ e=>e) (λb ps e=>⟨#[],by rw[e];simp⟩) (λm hm=>?_) (λb u e=>?_) I.bare
 ·have e:b=it:=by simpa using hb
  subst e
  exact⟨h1,hL,h2,h3⟩
 ·obtain⟨o,es,ep,ho,r⟩:=hm
  exact⟨o,es,ep,k _ o (Ne.symm hL) ho,r⟩
 ·refine(I.hok b u e).stay (λc v hc q=>k c v ?_ q) (λ_ q=>q) λ_ _ q=>q
  rcases hc with z|z
  ·rw[z];exact nit b u e
  ·exact nit c _ z
theorem Inv.tok(I:Inv X pins σ H s)(t:Nat):Inv X pins σ H { s with toks:=t }:=I.un (h':=s.heap) (t':=t) Un.refl I.hok
theorem Inv.kept{t':Nat}(I:Inv X pins σ H s)(k:∀b u,s.heap.get? b=some u->h'.get? b=some u):Inv X pins σ H { s with heap:=h',toks:=t' }:=I.un (Un.kept k) (I.hok.kept k)
theorem Inv.laid{a:Addr}{o:HO}{t':Nat}(I:Inv X pins σ H s)(k:∀b u,s.heap.get? b=some u->h'.get? b=some u)(hp:s.heap.objs.size<=a)(new:ObjOk X.prog X.w (upd H a o) h' a o) :
  Inv X pins σ (upd H a o) { s with heap:=h',toks:=t' }:=I.un (Un.laid k hp (I.hok.fresh hp)) (I.hok.laid k hp new)
theorem Inv.write{x e:Addr}{o:HO}{t':Nat}(I:Inv X pins σ H s)(mu:Mut (H x))(he:e=x\/H e=some (.own x))(k:∀b u,b≠e->s.heap.get? b=some u->h'.get? b=some u)(heo:∃u,h'.get? e=some u)
  (new:ObjOk X.prog X.w (upd H x o) h' x o):Inv X pins σ (upd H x o) { s with heap:=h',toks:=t' }:=I.un (Un.write mu he k heo) (I.hok.write mu he k heo new)
theorem Inv.pins_of{pins':List (Addr×Obj)}(I:Inv X pins σ H s)(h:∀p∈pins',s.heap.get? p.1=some p.2/\H p.1=none/\p.1≠X.env.locals/\p.1∉X.fs/\∀v,p.2.data≠.cell v):Inv X pins' σ H s :=
 ⟨I.ok,I.os,I.bare,I.base,I.loc,I.cell,I.free,I.freeC,λp hp=>(List.mem_append.mp hp).elim (λz=>I.pin p (List.mem_append_left _ z)) (h p),I.hok,I.len⟩
theorem qni{N:List Str}(hN:N.Nodup){i j:Nat}{x:Str}(a:N[i]?=some x)(b:N[j]?=some x):i=j:=by
 obtain⟨h1,e1⟩:=List.getElem?_eq_some_iff.mp a
 obtain⟨h2,e2⟩:=List.getElem?_eq_some_iff.mp b
 exact(List.getElem_inj hN).mp (e1.trans e2.symm)
theorem qru{M:Model}{A:Around}{E:Value->Shared->Prop}{i:Nat}{x:Str}{v:V}{u:Value}{Q:Unit->Shared->Prop}(I:Inv X pins σ H s)(hN:X.N.Nodup)(hi:X.N[i]?=some x)(hx:Loc X.env.scope x)(r:RelV v u)
  (h:∀s',Inv X pins (σ.set i (some v)) H s'->(∃a,Heap.SameBut a s.heap s'.heap/\(a=X.env.locals\/X.env.cells.lookup x=some a))->Q () s') (hf:X.fn x=true\/X.env.scope.names.lookup x=some .local:=by first|exact .inl rfl|exact .inr rfl|assumption):wpAny M A (storeName X.env x u) Q E s:=by
 obtain⟨m,hn,hl⟩:=id I.loc
 have hcls:(X.env.scope.kind==.class||(X.env.scope.kind==.module&&X.env.locals != X.env.globals))=false:=by rw[I.ok.kind];rfl
 have hiσ:i<σ.length:=by rw[I.len];exact(List.getElem?_eq_some_iff.mp hi).1
 have cne:=I.cne
 have tracked:∀ {a:Addr} {h':Heap},(∃o,s.heap.get? a=some o/\H a=none)->Heap.SameBut a s.heap h'->HOk X.prog X.w H h':=λ{a h'} ha hs b ob e=>by
  obtain⟨_,_,hfree⟩:=ha
  refine(I.hok b ob e).stay (λc w' hc q=>(hs.2 c ?_).trans q) (λ_ q=>q) λ_ _ q=>q
  rintro rfl
  rcases hc with rfl|hc
  ·rw[hfree] at e;cases e
  ·rw[hfree] at hc;cases hc
 rcases hx with hk|hk
 ·refine wpAny_storeName_local hk hn (λh' hn' hs=>?_) hcls
  obtain⟨oL,_,_,hoL,_⟩:=id hn
  refine h _ ⟨I.ok,I.os,I.bare,⟨λb o e n hb hx=>?_,λb o e n hb hx=>?_,I.base.free,λb o e hx=>?_,I.base.tups,I.base.frzs,I.base.tbls⟩,⟨_,hn',λj y v' e1 e2 e3=>?_⟩,λy c e=>?_,I.free,I.freeC,λp hp=>?_,tracked ⟨oL,hoL,I.free⟩ hs,by simpa using I.len⟩ ⟨_,hs,.inl rfl⟩
  ·exact(hs.2 b (Nat.ne_of_lt (Nat.lt_of_lt_of_le (Heap.lt_size e) I.ok.above))).trans (I.base.keep b o e n hb hx)
  ·obtain⟨sl,e1⟩:=I.base.slot b o e n hb hx
   exact⟨sl,(hs.2 b (Nat.ne_of_lt (Nat.lt_of_lt_of_le (Heap.lt_size e) I.ok.above))).trans e1⟩
  ·obtain⟨o',e1⟩:=I.base.there b o e hx
   exact⟨o',(hs.2 b (Nat.ne_of_lt (Nat.lt_of_lt_of_le (Heap.lt_size e) I.ok.above))).trans e1⟩
  ·by_cases hj:j=i
   ·subst hj
    rw[hi] at e1;cases e1
    rw[List.getElem?_set_self hiσ] at e2
    cases e2
    exact⟨u,r,.inl ⟨hk,by simp⟩⟩
   ·rw[List.getElem?_set_ne (Ne.symm hj)] at e2
    obtain⟨u',r',q⟩:=hl j y v' e1 e2 e3
    refine⟨u',r',?_⟩
    rcases q with ⟨k,e⟩|⟨k,c,e,z⟩
    ·refine .inl ⟨k,?_⟩
     have:y≠x:=λe=>hj (qni hN e1 (e▸hi))
     simp[this,e]
    ·exact .inr ⟨k,c,e,z.sameBut hs (cne y c e)⟩
  ·obtain⟨w',z⟩:=I.cell y c e
   exact⟨w',z.sameBut hs (cne y c e)⟩
  ·obtain⟨e,n,ne,nf,d⟩:=I.pin p hp
   exact⟨(hs.2 p.1 ne).trans e,n,ne,nf,d⟩
 ·have hfn:X.fn x=true:=by
   rcases hf with z|z
   ·exact z
   ·rw[z] at hk;cases hk
  obtain⟨c,hc⟩:=I.ok.has x (.inl hk)
  obtain⟨w',z⟩:=I.cell x c hc
  refine wpAny_storeName_cell I.ok.kind hk hc z (λh' hc' hs=>?_)
  obtain⟨oc,hoc,hocd⟩:=id z
  refine h { s with heap:=h' } ⟨I.ok,I.os,I.bare,⟨λb o e n hb hx=>?_,λb o e n hb hx=>?_,I.base.free,λb o e hx=>?_,I.base.tups,I.base.frzs,I.base.tbls⟩,⟨m,hn.sameBut hs (Ne.symm (cne x c hc)),λj y v' e1 e2 e3=>?_⟩,λy c' e=>?_,I.free,I.freeC,λp hp=>?_,tracked ⟨oc,hoc,I.freeC x c hc⟩ hs,by simpa using I.len⟩ ⟨c,hs,.inr hc⟩
  ·exact(hs.2 b (Nat.ne_of_lt (Nat.lt_of_lt_of_le (Heap.lt_size e) (I.ok.cab x c hfn hc)))).trans (I.base.keep b o e n hb hx)
  ·obtain⟨sl,e1⟩:=I.base.slot b o e n hb hx
   exact⟨sl,(hs.2 b (Nat.ne_of_lt (Nat.lt_of_lt_of_le (Heap.lt_size e) (I.ok.cab x c hfn hc)))).trans e1⟩
  ·obtain⟨o',e1⟩:=I.base.there b o e hx
   exact⟨o',(hs.2 b (Nat.ne_of_lt (Nat.lt_of_lt_of_le (Heap.lt_size e) (I.ok.cab x c hfn hc)))).trans e1⟩
  ·by_cases hj:j=i
   ·subst hj
    rw[hi] at e1;cases e1
    rw[List.getElem?_set_self hiσ] at e2
    cases e2
    exact⟨u,r,.inr ⟨.inl hk,c,hc,hc'⟩⟩
   ·rw[List.getElem?_set_ne (Ne.symm hj)] at e2
    obtain⟨u',r',q⟩:=hl j y v' e1 e2 e3
    refine⟨u',r',?_⟩
    rcases q with q|⟨k,c',e,z'⟩
    ·exact .inl q
    ·refine .inr ⟨k,c',e,z'.sameBut hs ?_⟩
     rintro rfl
     exact hj (qni hN e1 (I.ok.inj _ _ _ e hc▸hi))
  ·by_cases hcc:c'=c
   ·subst hcc;exact⟨_,hc'⟩
   ·obtain⟨w2,z2⟩:=I.cell y c' e
    exact⟨w2,z2.sameBut hs hcc⟩
  ·obtain⟨e,n,ne,nf,d⟩:=I.pin p hp
   refine⟨(hs.2 p.1 ?_).trans e,n,ne,nf,d⟩
   intro q
   rw[q,hoc] at e
   have q':oc=p.2:=Option.some.inj e
   exact d w' (by rw[←q'];exact hocd)
theorem qns{M:Model}{A:Around}{E:Value->Shared->Prop}{i:Nat}{x:Str}{v:V}{u:Value}{Q:Unit->Shared->Prop}(I:Inv X pins σ H s)(hN:X.N.Nodup)(hi:X.N[i]?=some x)(hx:Loc X.env.scope x)(r:RelV v u)
  (h:∀s',Inv X pins (σ.set i (some v)) H s'->Q () s') (hf:X.fn x=true\/X.env.scope.names.lookup x=some .local:=by first|exact .inl rfl|exact .inr rfl|assumption):wpAny M A (storeName X.env x u) Q E s :=
 qru I hN hi hx r (λs' I' _=>h s' I') hf
theorem Inv.call'{s':Shared}{ch:List Addr}(I:Inv X pins σ H s)(ho:s'.os=s.os)(u:Un (frs X.stack) ch H H' s.heap s'.heap)(hok:HOk X.prog X.w H' s'.heap)(hg:AllBare s'.gens)
  (hch:∀b∈ch,(b∈X.ex\/X.s₀.heap.objs.size<=b)/\b≠X.env.locals/\(∀x c,X.env.cells.lookup x=some c->c≠b)/\∀p∈X.pn++pins,p.1≠b):Inv X pins σ H' s':=by
 obtain⟨h',g',d',t',o'⟩:=s'
 have e:o'=s.os:=ho
 subst e
 exact I.call (g':=g') (t':=t') (d':=d') u hok hg hch
end
abbrev XK:=Value->Option Addr->Hp->Prop
abbrev St:=List (Option V)
abbrev VK:=V->Hp->Prop
abbrev TE:=St->Hp->VK->Prop
abbrev TT:=St->Hp->(Bool->Hp->Prop)->Prop
abbrev TA:=St->Hp->(List V->Hp->Prop)->Prop
structure Ends where
 nx:St->Hp->Prop
 rt:VK
 bk:St->Hp->Prop:=λ_ _=>False
 ct:St->Hp->Prop:=λ_ _=>False
abbrev TS:=Ends->St->Hp->Prop
def EP(X:Cx)(pins:List (Addr×Obj))(σ:St)(Q:VK)(u:Value)(s':Shared):Prop:=∃v H',Inv X pins σ H' s'/\RelV v u/\Q v H'
def TP(X:Cx)(pins:List (Addr×Obj))(σ:St)(Q:Bool->Hp->Prop)(b:Bool)(s':Shared):Prop:=∃H',Inv X pins σ H' s'/\Q b H'
def AP(X:Cx)(pins:List (Addr×Obj))(σ:St)(Q:List V->Hp->Prop)(us:List Value)(s':Shared):Prop:=∃vs H',Inv X pins σ H' s'/\Vals vs us/\Q vs H'
def SP(X:Cx)(pins:List (Addr×Obj))(D:Ends)(f:Flow)(s':Shared):Prop :=
 match f with
|.next=>∃σ' H',Inv X pins σ' H' s'/\D.nx σ' H'
|.brk=>∃σ' H',Inv X pins σ' H' s'/\D.bk σ' H'
|.cont=>∃σ' H',Inv X pins σ' H' s'/\D.ct σ' H'
|.ret u=>∃v σ' H',Inv X pins σ' H' s'/\RelV v u/\D.rt v H'
def PE(X:Cx)(e:Expr)(t:TE):Prop :=
 ∀(pins:List (Addr×Obj)) (s:Shared) (σ:St) (H:Hp) (Q:VK),Inv X pins σ H s->t σ H Q->wpAny (model X.prog X.w) X.A (eval e X.env) (EP X pins σ Q) X.xe s
def PT(X:Cx)(e:Expr)(t:TT):Prop :=
 ∀(pins:List (Addr×Obj)) (s:Shared) (σ:St) (H:Hp) (Q:Bool->Hp->Prop),Inv X pins σ H s->t σ H Q->wpAny (model X.prog X.w) X.A (isTrue e X.env (eval e X.env)) (TP X pins σ Q) X.xe s
def PW(X:Cx)(e:Expr)(t:TT):Prop :=
 ∀(whole:Sem Value) (pins:List (Addr×Obj)) (s:Shared) (σ:St) (H:Hp) (Q:Bool->Hp->Prop),Inv X pins σ H s->t σ H Q->wpAny (model X.prog X.w) X.A (isTrue e X.env whole) (TP X pins σ Q) X.xe s
theorem PW.pt{X:Cx}{e:Expr}{t:TT}(h:PW X e t):PT X e t:=h _
def PA(X:Cx)(es:List Expr)(t:TA):Prop :=
 ∀(pos:Pos) (pins:List (Addr×Obj)) (s:Shared) (σ:St) (H:Hp) (Q:List V->Hp->Prop),Inv X pins σ H s->t σ H Q->wpAny (model X.prog X.w) X.A (spliced (backTo pos (starEach es X.env))) (AP X pins σ Q) X.xe s
def PS(X:Cx)(st:Stmt)(t:TS):Prop :=
 ∀(pins:List (Addr×Obj)) (s:Shared) (σ:St) (H:Hp) (D:Ends),Inv X pins σ H s->t D σ H->wpAny (model X.prog X.w) X.A (exec st X.env) (SP X pins D) X.xe s
def PSs(X:Cx)(st:List Stmt)(t:TS):Prop :=
 ∀(pins:List (Addr×Obj)) (s:Shared) (σ:St) (H:Hp) (D:Ends),Inv X pins σ H s->t D σ H->wpAny (model X.prog X.w) X.A (execs st X.env) (SP X pins D) X.xe s
theorem thn{α:Type}{t:Sem α}{Q Q':α->Shared->Prop}{M:Model}{A:Around}{E:Value->Shared->Prop}{s:Shared}(h:wpAny M A t Q E s)(hQ:∀a s,Q a s->Q' a s):wpAny M A t Q' E s:=wpAny_mono h hQ λ_ _ x=>x
end L2
namespace L2
open PySem PySem.Spec PyProof.Rows
section
variable {X:Cx}
def tVar(i:Nat):TE:=λσ H Q=>∃v,σ[i]?=some (some v)/\Q v H
def tC(v:V):TE:=λ_ H Q=>Q v H
theorem q0a{i:Nat}{x:Str}{pos:Pos}(hN:X.N[i]?=some x)(hv:Vis X.env.scope x)(hd:(x==("__debug__" : Str))=false:=by decide)(hcd:(x==("__classdict__" : Str))=false:=by decide):PE X (.Name x pos) (tVar i):=by
 intro pins s σ H Q I h
 obtain⟨v,e,h⟩:=h
 obtain⟨m,hn,hl⟩:=I.loc
 obtain⟨u,r,l⟩:=hl i x v hN e hv
 have fin:EP X pins σ Q u s:=⟨v,H,I,r,h⟩
 rcases l with ⟨hk,hm⟩|⟨hk,c,hc,hcell⟩
 ·exact wpAny_Name (wpAny_loadName_local I.ok.kind hk hn hm fin) hd
 ·rcases hk with hk|hk
  ·exact wpAny_Name (wpAny_loadName_cell I.ok.kind hk hc hcell fin) hd
  ·exact wpAny_Name (wpAny_loadName_free I.ok.kind hk hc hcell fin hcd) hd
theorem qz5{i j pos}:PE X (.Constant (.int i) j pos) (tC (.int i)):=λ_ _ _ H _ I h=>wpAny_Constant_int ⟨.int i,H,I.tok _,⟨_,rfl⟩,h⟩
theorem q2a{b j pos}:PE X (.Constant (.bool b) j pos) (tC (.bl b)):=λ_ _ _ H _ I h=>Constant_bool ⟨.bl b,H,I,rfl,h⟩
theorem qz8{x j pos}:PE X (.Constant (.str x) j pos) (tC (.str x)):=λ_ _ _ H _ I h=>Calls.Constant_str ⟨.str x,H,I.tok _,⟨_,rfl⟩,h⟩
def Gl(X:Cx)(x:Str):Prop:=X.env.kindOf x=some .globalImplicit
theorem qwp{E:Value->Shared->Prop}{pins:List (Addr×Obj)}{s:Shared}{σ:St}{H:Hp}{x:Str}{u:Value}{pos:Pos}{Q:Value->Shared->Prop}(I:Inv X pins σ H s)(hg:Gl X x)(hm:X.mg x=some u)(h:Q u s)
  (hd:(x==("__debug__" : Str))=false:=by decide):wpAny (model X.prog X.w) X.A (eval (.Name x pos) X.env) Q E s :=
 Calls.Name_function_global I.ok.kind hg (Calls.loadGlobal_global (by rw[I.ok.glob];exact I.mod.glob.keeps I.bk) hm h) hd
theorem qhu{E:Value->Shared->Prop}{pins:List (Addr×Obj)}{s:Shared}{σ:St}{H:Hp}{x:Str}{u:Value}{pos:Pos}{Q:Value->Shared->Prop}(I:Inv X pins σ H s)(hg:Gl X x)(hm:X.mg x=none)(hv:bootBuiltins x=some u)(h:Q u s)
  (hn:x≠"__name__" := by decide) (hd:(x==("__debug__" : Str))=false:=by decide):wpAny (model X.prog X.w) X.A (eval (.Name x pos) X.env) Q E s:=by
 obtain⟨mb,h1,h2⟩:=I.mod.blt
 exact Calls.Name_function_global I.ok.kind hg (Calls.loadGlobal_builtin (by rw[I.ok.glob];exact I.mod.glob.keeps I.bk) hm (by rw[I.ok.blt];exact h1.keeps I.bk) ((h2 x hn).trans hv) h) hd
theorem qw6{x:Str}{v:V}{u:Value}{pos:Pos}(hg:Gl X x)(hm:X.mg x=none)(hv:bootBuiltins x=some u)(r:RelV v u)(hn:x≠"__name__" := by decide)(hd:(x==("__debug__" : Str))=false:=by decide):PE X (.Name x pos) (tC v) :=
 λ_ _ _ H _ I h=>qhu I hg hm hv ⟨v,H,I,r,h⟩ hn hd
variable {a b:Expr} {ta tb:TE} {pos:Pos}
def PC(X:Cx)(op:CmpOp)(a b:Expr)(t:TE):Prop :=
 ∀(pins:List (Addr×Obj)) (s:Shared) (σ:St) (H:Hp) (Q:VK),Inv X pins σ H s->t σ H Q ->
  wpAny (model X.prog X.w) X.A (eval a X.env) (λv s₁=>wpAny (model X.prog X.w) X.A (eval b X.env) (λu s₂=>wpAny (model X.prog X.w) X.A (compareOp op v u) (EP X pins σ Q) X.xe s₂) X.xe s₁) X.xe s
theorem qnh(b:Expr){op:CmpOp}(h:op≠.In)(h2:op≠.NotIn):behindInMarks op b=false:=by
 have e1:(op==CmpOp.In)=false:=by cases op<;>first|rfl|exact absurd rfl h
 have e2:(op==CmpOp.NotIn)=false:=by cases op<;>first|rfl|exact absurd rfl h2
 cases b<;>simp[behindInMarks,e1,e2]
def tB(t:TE):TT:=λσ H Q=>t σ H λx H1=>∃c,x=.bl c/\Q c H1
theorem qz4{op:CmpOp}{t:TE}(h:PC X op a b t)(h1:behindInMarks op b=false:=by first|exact qnh _ (by decide) (by decide)|rfl):PE X (.Compare a [op] [b] pos) t:=λpins s σ H Q I hw=>wpAny_Compare1 (h pins s σ H Q I hw) h1
theorem qvd{op:CmpOp}{t:TE}(h:PC X op a b t)(h1:behindInMarks op b=false:=by first|exact qnh _ (by decide) (by decide)|rfl):PT X (.Compare a [op] [b] pos) (tB t):=by
 intro pins s σ H Q I hw
 refine wpAny_isTrue_Compare1 (thn (h pins s σ H _ I hw) λv s1 h1=>thn h1 λu s2 h2=>thn h2 λc s3 ⟨x,H1,I1,r1,q1⟩=>?_) h1
 obtain⟨d,rfl,q⟩:=q1
 cases r1
 exact wpAny_truthy_bool ⟨H1,I1,q⟩
theorem q0h{e:Expr}{t:TE}(h:PE X e t)(he:∀whole,isTrue e X.env whole=(do let v ←whole;standAt e.pos;holding [v] (truthy v)):=by intro _;rfl):PT X e (tB t):=by
 intro pins s σ H Q I hw
 refine isTrue_plain (thn (h pins s σ H _ I hw) λv s1 ⟨x,H1,I1,r1,q1⟩=>?_) (he _)
 obtain⟨d,rfl,q⟩:=q1
 cases r1
 exact wpAny_truthy_bool ⟨H1,I1,q⟩
variable {tA tB':TT} {rest:List Expr}
def tAnd(t u:TT):TT:=λσ H Q=>t σ H λc H1=>if c=true then u σ H1 Q else Q false H1
def tOr(t u:TT):TT:=λσ H Q=>t σ H λc H1=>if c=true then Q true H1 else u σ H1 Q
def tNot(t:TT):TT:=λσ H Q=>t σ H λc H1=>Q (!c) H1
theorem qxq(ha:PT X a tA):PW X (.BoolOp .And [a] pos) tA:=by
 intro wh pins s σ H Q I h
 refine isTrue_and (thn (ha pins s σ H Q I h) λc s1 e=>?_)
 cases c with
|true=>exact isTrue_and_nil e
|false=>exact e
theorem q0j(ha:PT X a tA):PW X (.BoolOp .Or [a] pos) tA:=by
 intro wh pins s σ H Q I h
 refine isTrue_or (thn (ha pins s σ H Q I h) λc s1 e=>?_)
 cases c with
|false=>exact isTrue_or_nil e
|true=>exact e
theorem q0i(ha:PT X a tA)(hb:PW X (.BoolOp .And (b::rest) pos) tB'):PW X (.BoolOp .And (a::b::rest) pos) (tAnd tA tB'):=by
 intro wh pins s σ H Q I h
 refine isTrue_and (thn (ha pins s σ H _ I h) λc s1 ⟨H1,I1,q1⟩=>?_)
 cases c with
|true=>exact hb wh pins s1 σ H1 Q I1 q1
|false=>exact⟨H1,I1,q1⟩
theorem q2h(ha:PT X a tA)(hb:PW X (.BoolOp .Or (b::rest) pos) tB'):PW X (.BoolOp .Or (a::b::rest) pos) (tOr tA tB'):=by
 intro wh pins s σ H Q I h
 refine isTrue_or (thn (ha pins s σ H _ I h) λc s1 ⟨H1,I1,q1⟩=>?_)
 cases c with
|true=>exact⟨H1,I1,q1⟩
|false=>exact hb wh pins s1 σ H1 Q I1 q1
theorem q0g(ha:PT X a tA):PT X (.UnaryOp .Not a pos) (tNot tA):=by
 intro pins s σ H Q I h
 exact isTrue_not (ha pins s σ H (λc H1=>Q (!c) H1) I h)
def q08(ta tb:TE):TE:=λσ H Q=>ta σ H λx H1=>∃c,x=.bl c/\if c=true then tb σ H1 Q else Q (.bl false) H1
theorem qz7{op}{t:TE}(h:PE X a t):PE X (.BoolOp op [a] pos) t:=λpins s σ H Q I hw=>BoolOp_one (h pins s σ H Q I hw)
theorem qz2(ha:PE X a ta)(hb:PE X (.BoolOp .And (b::rest) pos) tb):PE X (.BoolOp .And (a::b::rest) pos) (q08 ta tb):=by
 intro pins s σ H Q I h
 refine BoolOp_and (thn (ha pins s σ H _ I h) λv s1 ⟨x,H1,I1,r1,q1⟩=>?_)
 obtain⟨c,rfl,q1⟩:=q1
 cases r1
 refine wpAny_truthy_bool ?_
 cases c with
|true=>exact hb pins s1 σ H1 Q I1 q1
|false=>exact⟨.bl false,H1,I1,rfl,q1⟩
def tIf(t:TT)(ta tb:TE):TE:=λσ H Q=>t σ H λc H1=>if c=true then ta σ H1 Q else tb σ H1 Q
theorem qtn{c:Expr}(hc:PT X c tA)(ha:PE X a ta)(hb:PE X b tb):PE X (.IfExp c a b pos) (tIf tA ta tb):=by
 intro pins s σ H Q I h
 refine wpAny_IfExp (thn (hc pins s σ H _ I h) λd s1 ⟨H1,I1,q1⟩=>?_)
 cases d with
|true=>exact ha pins s1 σ H1 Q I1 q1
|false=>exact hb pins s1 σ H1 Q I1 q1
end
end L2
namespace L2
open PySem PySem.Spec PyProof.Rows
def SqL(K:PySem.W.Frag)(H:Hp)(a:Addr)(xs:List V):Prop :=
 Rd H a (.lst xs) \/
  ∃(o:Obj) (its:Array Value) (n:Nat),K.lookup a=some o/\o.cls=.type "list" /\ o.dict=none/\o.data=.seq its n/\its.size<=sizeLine/\Vals xs its.toList
def SqT(K:PySem.W.Frag)(H:Hp)(a:Addr)(xs:List V):Prop :=
 Rd H a (.tup xs) \/
  ∃(o:Obj) (its:Array Value) (n:Nat),K.lookup a=some o/\o.cls=.type "tuple" /\ o.data=.seq its n/\its.size<=sizeLine/\Vals xs its.toList
def absV:Value->Option V
|.none=>some .non
|.bool b=>some (.bl b)
|.int i _=>some (.int i)
|.str x _=>some (.str x)
|.bytes b _=>some (.byt b)
|.float b _=>some (.flt b)
|.ref a=>some (.ref a)
|.type n=>some (.ty n)
|_=>none
theorem RelV.abs{x:V}{u:Value}(r:RelV x u):absV u=some x:=by
 cases x with
|non=>cases r;rfl
|bl _=>cases r;rfl
|int _=>obtain⟨t,rfl⟩:=r;rfl
|str _=>obtain⟨t,rfl⟩:=r;rfl
|byt _=>obtain⟨t,rfl⟩:=r;rfl
|flt _=>obtain⟨t,rfl⟩:=r;rfl
|ref _=>cases r;rfl
|ty _=>cases r;rfl
theorem RelV.inj{x y:V}{u:Value}(r:RelV x u)(q:RelV y u):x=y:=Option.some.inj (r.abs.symm.trans q.abs)
theorem Vals.inj:∀ {xs ys:List V} {us:List Value},Vals xs us->Vals ys us->xs=ys
|_,_,_,.nil,.nil=>rfl
|_,_,_,.cons r t,.cons r' t'=>by rw[r.inj r',Vals.inj t t']
section
variable {X:Cx} {pins:List (Addr×Obj)} {σ:St} {H:Hp} {s:Shared} {a:Addr} {xs ys:List V}
theorem SqL.of{K:PySem.W.Frag}(h:H a=some (.lst xs)):SqL K H a xs:=.inl (.inl h)
theorem SqT.of{K:PySem.W.Frag}(h:H a=some (.tup xs)):SqT K H a xs:=.inl (.inl h)
theorem Inv.list(I:Inv X pins σ H s)(h:SqL X.K H a xs):∃its:List Value,Vals xs its/\PlainL s.heap a its.toArray/\xs.length<=sizeLine:=by
 rcases h with h|⟨o,its,n,hk,hc,hd,hs,hz,r⟩
 ·obtain⟨z,its,n,r,e⟩:=h.ok I.hok
  exact⟨its,r,⟨_,n,e,rfl,rfl,rfl⟩,z⟩
 ·refine⟨its.toList,r,⟨o,n,I.kIn a o hk,hc,hd,by simpa using hs⟩,?_⟩
  have e:=r.length
  simp only[Array.length_toList] at e
  lia
theorem Inv.tuple(I:Inv X pins σ H s)(h:SqT X.K H a xs):∃its:List Value,Vals xs its/\IsTup s.heap a its.toArray/\xs.length<=sizeLine:=by
 rcases h with h|⟨o,its,n,hk,hc,hs,hz,r⟩
 ·obtain⟨z,its,r,p⟩:=h.ok I.hok
  exact⟨its,r,p,z⟩
 ·refine⟨its.toList,r,⟨o,I.kIn a o hk,hc,n,by simpa using hs⟩,?_⟩
  have e:=r.length
  simp only[Array.length_toList] at e
  lia
theorem Inv.list_inj(I:Inv X pins σ H s)(h:SqL X.K H a xs)(h':SqL X.K H a ys):xs=ys:=by
 obtain⟨its,r,⟨o,n,e,_,_,d⟩,_⟩:=I.list h
 obtain⟨its',r',⟨o',n',e',_,_,d'⟩,_⟩:=I.list h'
 rw[e] at e';cases e'
 rw[d] at d'
 injection d' with d1 _
 have:its=its':=by simpa using congrArg Array.toList d1
 subst this
 exact r.inj r'
theorem Inv.tuple_inj(I:Inv X pins σ H s)(h:SqT X.K H a xs)(h':SqT X.K H a ys):xs=ys:=by
 obtain⟨its,r,⟨o,e,_,n,d⟩,_⟩:=I.tuple h
 obtain⟨its',r',⟨o',e',_,n',d'⟩,_⟩:=I.tuple h'
 rw[e] at e';cases e'
 rw[d] at d'
 injection d' with d1 _
 have:its=its':=by simpa using congrArg Array.toList d1
 subst this
 exact r.inj r'
end
abbrev Cx.wish(X:Cx)(E:Value->Shared->Prop):Cx:={ X with xe:=E }
abbrev Cx.nox(X:Cx):Cx:=X.wish λ_ _=>False
theorem Cx.Ok.wish{X:Cx}(ok:X.Ok)(E:Value->Shared->Prop):(X.wish E).Ok :=
 ⟨ok.mod,ok.kind,ok.glob,ok.blt,ok.above,ok.inj,ok.has,ok.cab,ok.hd,ok.frames,ok.stk,ok.exf,ok.bs,ok.bsz,ok.noex,ok.exfs,ok.funs,ok.frf⟩
theorem Cx.Ok.unwish{X:Cx}{E:Value->Shared->Prop}(ok:(X.wish E).Ok):X.Ok :=
 ⟨ok.mod,ok.kind,ok.glob,ok.blt,ok.above,ok.inj,ok.has,ok.cab,ok.hd,ok.frames,ok.stk,ok.exf,ok.bs,ok.bsz,ok.noex,ok.exfs,ok.funs,ok.frf⟩
section
variable {X:Cx} {pins:List (Addr×Obj)} {σ:St} {H:Hp} {s:Shared} {E:Value->Shared->Prop}
theorem Inv.wish(I:Inv X pins σ H s)(E:Value->Shared->Prop):Inv (X.wish E) pins σ H s:=⟨I.ok.wish E,I.os,I.bare,I.base,I.loc,I.cell,I.free,I.freeC,I.pin,I.hok,I.len⟩
theorem Inv.unwish(I:Inv (X.wish E) pins σ H s):Inv X pins σ H s:=⟨I.ok.unwish,I.os,I.bare,I.base,I.loc,I.cell,I.free,I.freeC,I.pin,I.hok,I.len⟩
theorem SP.unwish{D:Ends}{f:Flow}{s':Shared}(h:SP (X.wish E) pins D f s'):SP X pins D f s':=by
 cases f with
|next=>obtain⟨σ',H',I,q⟩:=h;exact⟨σ',H',I.unwish,q⟩
|brk=>obtain⟨σ',H',I,q⟩:=h;exact⟨σ',H',I.unwish,q⟩
|cont=>obtain⟨σ',H',I,q⟩:=h;exact⟨σ',H',I.unwish,q⟩
|ret u=>obtain⟨v,σ',H',I,r,q⟩:=h;exact⟨v,σ',H',I.unwish,r,q⟩
theorem PSs.nox{st:List Stmt}{t:TS}(h:PSs X.nox st t):PSs X st t:=λpins s σ H D I hw =>
 wpAny_mono (h pins s σ H D (I.wish _) hw) (λ_ _ q=>q.unwish) λ_ _ z=>False.elim z
end
section
variable {X:Cx} {st:Stmt} {rest:List Stmt} {t u:TS} {e:Expr} {te:TE} {pos:Pos}
def q1d:TS:=λD σ H=>D.nx σ H
def tSeq(t u:TS):TS:=λD σ H=>t { D with nx:=u D } σ H
theorem qxk:PSs X [] q1d:=λ_ _ σ H _ I h=>wpAny_execs_nil ⟨σ,H,I,h⟩
theorem qts(h1:PS X st t)(h2:PSs X rest u):PSs X (st::rest) (tSeq t u):=by
 intro pins s σ H D I h
 refine wpAny_execs_cons (thn (h1 pins s σ H { D with nx:=u D } I h) λf s1 q=>?_)
 cases f with
|next =>
  obtain⟨σ',H',I',q⟩:=q
  exact h2 pins s1 σ' H' D I' q
|ret v=>exact q
|brk=>exact q
|cont=>exact q
theorem qxl(h1:PS X st t):PSs X [st] t:=by
 intro pins s σ H D I h
 refine wpAny_execs_cons (thn (h1 pins s σ H D I h) λf s1 q=>?_)
 cases f with
|next=>exact wpAny_execs_nil q
|ret v=>exact q
|brk=>exact q
|cont=>exact q
theorem Inv.quiet{pins:List (Addr×Obj)}{σ:St}{H:Hp}{s:Shared}(I:Inv X pins σ H s):interactive X.env=false:=by simp[interactive,I.ok.kind]
def q1b(te:TE):TS:=λD σ H=>te σ H λ_ H1=>D.nx σ H1
theorem qxj(he:PE X e te)(hs:swapsWith e none pos.line X.env=pure false:=by rfl):PS X (.Expr e pos) (q1b te):=by
 intro pins s σ H D I h
 exact wpAny_Expr_any (thn (he pins s σ H _ I h) λv s1 ⟨x,H1,I1,r1,q1⟩=>⟨σ,H1,I1,q1⟩) I.quiet hs
def tRet(te:TE):TS:=λD σ H=>te σ H D.rt
theorem q0e(he:PE X e te):PS X (.Return (some e) pos) (tRet te):=by
 intro pins s σ H D I h
 exact wpAny_Return_some (thn (he pins s σ H _ I h) λv s1 ⟨x,H1,I1,r1,q1⟩=>⟨x,σ,H1,I1,r1,q1⟩)
def tIfS(c:TT)(t u:TS):TS:=λD σ H=>c σ H λb H1=>if b=true then t D σ H1 else u D σ H1
theorem q2g{c:Expr}{a b:List Stmt}{tc:TT}(hc:PT X c tc)(ha:PSs X a t)(hb:PSs X b u):PS X (.If c a b pos) (tIfS tc t u):=by
 intro pins s σ H D I h
 refine wpAny_If (thn (hc pins s σ H _ I h) λd s1 ⟨H1,I1,q1⟩=>?_)
 cases d with
|true=>exact ha pins s1 σ H1 D I1 q1
|false=>exact hb pins s1 σ H1 D I1 q1
end
abbrev TG:=V->St->Hp->(St->Hp->Prop)->Prop
abbrev TGs:=List V->St->Hp->(St->Hp->Prop)->Prop
def PG(X:Cx)(target:Expr)(t:TG):Prop :=
 ∀(pins:List (Addr×Obj)) (s:Shared) (σ:St) (H:Hp) (v:V) (u:Value) (Q:St->Hp->Prop),Inv X pins σ H s->RelV v u->t v σ H Q ->
  wpAny (model X.prog X.w) X.A (assign target X.env u) (λ_ s'=>∃σ' H',Inv X pins σ' H' s'/\Q σ' H') X.xe s
def PGs(X:Cx)(ts:List Expr)(t:TGs):Prop :=
 ∀(pins:List (Addr×Obj)) (s:Shared) (σ:St) (H:Hp) (vs:List V) (us:List Value) (Q:St->Hp->Prop),Inv X pins σ H s->Vals vs us->t vs σ H Q ->
  wpAny (model X.prog X.w) X.A (assignInOrder ((assignEach ts X.env).map (·.2)) us) (λ_ s'=>∃σ' H',Inv X pins σ' H' s'/\Q σ' H') X.xe s
section
variable {X:Cx} {pos:Pos}
def qod(i:Nat):TG:=λv σ H Q=>Q (σ.set i (some v)) H
theorem qxc{i:Nat}{x:Str}(hN:X.N.Nodup)(hi:X.N[i]?=some x)(hx:Loc X.env.scope x)(hf:X.fn x=true\/X.env.scope.names.lookup x=some .local:=by first|exact .inl rfl|exact .inr rfl|assumption):PG X (.Name x pos) (qod i):=by
 intro pins s σ H v u Q I r h
 exact wpAny_assign_Name (qns I hN hi hx r (λs' I'=>⟨_,H,I',h⟩) hf)
def tAsg(te:TE)(g:TG):TS:=λD σ H=>te σ H λx H1=>g x σ H1 D.nx
theorem q0f{i:Nat}{x:Str}{e:Expr}{te:TE}{pos':Pos}(hN:X.N.Nodup)(hi:X.N[i]?=some x)(hx:Loc X.env.scope x)(he:PE X e te)(hs:swapsWith e (some (.Name x pos')) pos.line X.env=pure false:=by rfl)(hf:X.fn x=true\/X.env.scope.names.lookup x=some .local:=by first|exact .inl rfl|exact .inr rfl|assumption) :
  PS X (.Assign [.Name x pos'] e pos) (tAsg te (qod i)):=by
 intro pins s σ H D I h
 refine wpAny_Assign_Name (thn (he pins s σ H _ I h) λv s1 ⟨y,H1,I1,r1,q1⟩=>?_) hs
 exact qns I1 hN hi hx r1 (λs2 I2=>⟨_,H1,I2,q1⟩) hf
end
section
variable {X:Cx} {pos:Pos}
end
structure It where
 go:Nat->Hp->Prop
 yld:Nat->Hp->V->Hp->Prop
 stop:Nat->Hp->Prop
def FpOk(X:Cx)(pins:List (Addr×Obj))(H:Hp)(b:Addr):Prop :=
 H b=none/\b≠X.env.locals/\b∉X.fs/\(b∈X.ex\/X.s₀.heap.objs.size<=b)/\(∀x c,X.env.cells.lookup x=some c->c≠b)/\∀p∈X.pn++pins,p.1≠b
theorem Inv.fpOk{X:Cx}{pins:List (Addr×Obj)}{σ:St}{H H':Hp}{s:Shared}{b:Addr}(I:Inv X pins σ H s)(hb:s.heap.objs.size<=b)(hn:H' b=none):FpOk X pins H' b:=by
 refine⟨hn,Nat.ne_of_gt (Nat.lt_of_lt_of_le I.lt hb),I.nofs hb,.inr (Nat.le_trans I.sz hb),λx c e z=>?_,λp hp z=>?_⟩
 ·obtain⟨v,q⟩:=I.cell x c e
  exact absurd (Nat.lt_of_lt_of_le q.lt (by rw[z];exact hb)) (Nat.lt_irrefl _)
 ·exact absurd (Nat.lt_of_lt_of_le (Heap.lt_size (I.pin p hp).1) (by rw[z];exact hb)) (Nat.lt_irrefl _)
structure Turn(P:Program)(w:World)(K:PySem.W.Frag)(tg:Expr)(J:It)(fp:List Addr)(it:Addr)(tn:Nat->Heap->Prop):Prop where
 mem:it∈fp
 obj:∀i h,tn i h->∀b∈fp,∃o,h.get? b=some o/\∀v,o.data≠.cell v
 keep:∀i h h',tn i h->(∀b∈fp,∀o,h.get? b=some o->h'.get? b=some o)->tn i h'
 item:∀(X:Cx),X.prog=P->X.w=w->X.K=K->X.calm=true->∀(i:Nat) (pins:List (Addr×Obj)) (s:Shared) (σ:St) (H:Hp) (E:Value->Shared->Prop),Inv X pins σ H s->(∀b∈fp,FpOk X pins H b)->tn i s.heap->J.go i H ->
  wpAny (model P w) X.A (pyNext (.ref it)) (λr s1=>∃u,r=some u /\
   wpAny (model P w) X.A (letOwnedTupleGo tg (.ref it) u) (λ_ s2=>∃x H',Inv X pins σ H' s2/\RelV x u/\J.yld i H x H'/\tn (i+1) s2.heap/\∀b∈fp,H' b=none) E s1) E s
 done:∀(X:Cx),X.prog=P->X.w=w->X.K=K->X.calm=true->∀(i:Nat) (pins:List (Addr×Obj)) (s:Shared) (σ:St) (H:Hp) (E:Value->Shared->Prop),Inv X pins σ H s->(∀b∈fp,FpOk X pins H b)->tn i s.heap->J.stop i H ->
  wpAny (model P w) X.A (pyNext (.ref it)) (λr s1=>r=none/\Inv X pins σ H s1) E s
 self:∀(A:Around) (i:Nat) (s:Shared) (Q:Value->Shared->Prop) (E:Value->Shared->Prop),tn i s.heap->Q (.ref it) s->wpAny (model P w) A (pyIter (.ref it)) Q E s
abbrev TI:=St->Hp->(It->Hp->Prop)->Prop
def PIE(X:Cx)(pins:List (Addr×Obj))(σ:St)(tg:Expr)(R:It->Hp->Prop)(itv:Value)(s2:Shared):Prop :=
 ∃(it:Addr) (fp:List Addr) (tn:Nat->Heap->Prop) (J:It) (H':Hp),itv=.ref it/\Inv X pins σ H' s2/\Turn X.prog X.w X.K tg J fp it tn/\tn 0 s2.heap/\(∀b∈fp,FpOk X pins H' b)/\R J H'
def PI(X:Cx)(tg iter:Expr)(wi:TI):Prop :=
 ∀(pins:List (Addr×Obj)) (s:Shared) (σ:St) (H:Hp) (R:It->Hp->Prop),Inv X pins σ H s->wi σ H R ->
  wpAny (model X.prog X.w) X.A (eval iter X.env) (λv s1=>wpAny (model X.prog X.w) X.A (pyIter v) (PIE X pins σ tg R) X.xe s1) X.xe s
theorem qqe{M:Model}{A:Around}{E:Value->Shared->Prop}{s:Shared}{tg:Expr}{it:Addr}{u:Value}{o:Obj}{n:String}{vs:Array Value}{Q:Unit->Shared->Prop}(ho:s.heap.get? it=some o)(hc:o.cls=.type n)(hd:o.data=.fields vs)
    (hn:["enumerate","zip","dict_itemiterator","dict_reverseitemiterator","odict_iterator","itertools.zip_longest","itertools.pairwise"].contains n=false) (hQ:Q () s):wpAny M A (letOwnedTupleGo tg (.ref it) u) Q E s:=by
  unfold letOwnedTupleGo
  cases tg<;>first
   |exact wpAny_pure hQ
   |  (cases u<;>first
       |exact wpAny_pure hQ
       |  (refine wpAny_bind (wpAny_load ho ?_)
           rw[hc,hd]
           show wpAny M A (if (["enumerate","zip","dict_itemiterator","dict_reverseitemiterator","odict_iterator","itertools.zip_longest","itertools.pairwise"].contains n&&vs[0]?==some (rawInt _))=true then _ else _) Q E s
           rw[if_neg (by intro h;rw[hn,Bool.false_and] at h;cases h)]
           exact wpAny_pure hQ))
def Itl(K:PySem.W.Frag)(a:Addr):It :=
 ⟨λi H=>∃xs x,SqL K H a xs/\xs[i]?=some x,λi H x H'=>H'=H/\∀xs,SqL K H a xs->xs[i]?=some x,λi H=>∃xs,SqL K H a xs/\xs.length<=i⟩
def Itt(K:PySem.W.Frag)(a:Addr):It :=
 ⟨λi H=>∃xs x,SqT K H a xs/\xs[i]?=some x,λi H x H'=>H'=H/\∀xs,SqT K H a xs->xs[i]?=some x,λi H=>∃xs,SqT K H a xs/\xs.length<=i⟩
def Itr(lo:Int)(n:Nat):It:=⟨λi _=>i<n,λi H x H'=>H'=H/\x=.int (lo+i),λi _=>n<=i⟩
theorem qrw{P:Program}{w:World}{K:PySem.W.Frag}{tg:Expr}(a it:Addr):Turn P w K tg (Itl K a) [it] it (λi h=>h.IsListIter it a i) where
 mem:=by simp
 obj:=λi h st b hb=>by
  have e:b=it:=by simpa using hb
  subst e
  obtain⟨o,e,c,d⟩:=st
  exact⟨o,e,λv z=>by rw[d] at z;cases z⟩
 keep:=λi h h' st k=>st.at λo e=>k it (by simp) o e
 item:=by
  intro X hP hw hK hc i pins s σ H E I hf st hg
  subst hP hw hK
  obtain⟨xs,x,hq,hx⟩:=hg
  obtain⟨its,rv,p,hz⟩:=I.list hq
  obtain⟨u,hu,ru⟩:=rv.get hx
  obtain⟨f0,f1,f2,f3,f4,f5⟩:=hf it (by simp)
  refine wpAny_pyNext_list_item st p.isList (x:=u) (by simpa using hu) λh' st' sb=>?_
  have I1:Inv X pins σ H { s with heap:=h' }:=I.turned (t':=s.toks) (λb o hb e=>(sb.2 b hb).trans e) f0 f1 f3 f4 f5
  obtain⟨o,e,c,d⟩:=id st'
  exact⟨u,rfl,qqe (s:={ s with heap:=h' }) e c d (by decide) ⟨x,H,I1,ru,⟨rfl,λys hy=>by rw[I.list_inj hy hq];exact hx⟩,st',λb hb=>(hf b hb).1⟩⟩
 done:=by
  intro X hP hw hK hc i pins s σ H E I hf st hg
  subst hP hw hK
  obtain⟨xs,hq,hx⟩:=hg
  obtain⟨its,rv,p,hz⟩:=I.list hq
  obtain⟨f0,f1,f2,f3,f4,f5⟩:=hf it (by simp)
  have hl:=rv.length
  exact wpAny_pyNext_list_end (I.ok.hd hc) st p.isList (by simp;lia) λh' eb=>⟨rfl,I.turned (t':=s.toks) (λb o hb e=>eb b o hb e) f0 f1 f3 f4 f5⟩
 self:=λ_ _ _ _ _ st h=>wpAny_pyIter_listiter st h
theorem qo0{P:Program}{w:World}{K:PySem.W.Frag}{tg:Expr}(a it:Addr):Turn P w K tg (Itt K a) [it] it (λi h=>h.IsTupleIter it a i) where
 mem:=by simp
 obj:=λi h st b hb=>by
  have e:b=it:=by simpa using hb
  subst e
  obtain⟨o,e,c,d⟩:=st
  exact⟨o,e,λv z=>by rw[d] at z;cases z⟩
 keep:=λi h h' st k=>st.at λo e=>k it (by simp) o e
 item:=by
  intro X hP hw hK hc i pins s σ H E I hf st hg
  subst hP hw hK
  obtain⟨xs,x,hq,hx⟩:=hg
  obtain⟨its,rv,p,hz⟩:=I.tuple hq
  obtain⟨u,hu,ru⟩:=rv.get hx
  obtain⟨f0,f1,f2,f3,f4,f5⟩:=hf it (by simp)
  refine wpAny_pyNext_tuple_item st (show s.heap.IsTuple a its.toArray from p) (x:=u) (by simpa using hu) λh' st' sb=>?_
  have I1:Inv X pins σ H { s with heap:=h' }:=I.turned (t':=s.toks) (λb o hb e=>(sb.2 b hb).trans e) f0 f1 f3 f4 f5
  obtain⟨o,e,c,d⟩:=id st'
  exact⟨u,rfl,qqe (s:={ s with heap:=h' }) e c d (by decide) ⟨x,H,I1,ru,⟨rfl,λys hy=>by rw[I.tuple_inj hy hq];exact hx⟩,st',λb hb=>(hf b hb).1⟩⟩
 done:=by
  intro X hP hw hK hc i pins s σ H E I hf st hg
  subst hP hw hK
  obtain⟨xs,hq,hx⟩:=hg
  obtain⟨its,rv,p,hz⟩:=I.tuple hq
  obtain⟨f0,f1,f2,f3,f4,f5⟩:=hf it (by simp)
  have hl:=rv.length
  exact wpAny_pyNext_tuple_end (I.ok.hd hc) st (show s.heap.IsTuple a its.toArray from p) (by simp;lia) λh' eb=>⟨rfl,I.turned (t':=s.toks) (λb o hb e=>eb b o hb e) f0 f1 f3 f4 f5⟩
 self:=λ_ _ _ _ _ st h=>wpAny_pyIter_tupleiter st h
theorem qoz{P:Program}{w:World}{K:PySem.W.Frag}{tg:Expr}(it:Addr)(lo:Int)(n:Nat):Turn P w K tg (Itr lo n) [it] it (λi h=>IsRangeIter h it (lo+(i:Nat)*1) ((n:Int)-(i:Nat)) 1) where
 mem:=by simp
 obj:=λi h st b hb=>by
  have e:b=it:=by simpa using hb
  subst e
  exact⟨_,st,λv z=>by
   have z':Data.fields _=Data.cell v:=z
   cases z'⟩
 keep:=λi h h' st k=>k it (by simp) _ st
 item:=by
  intro X hP hw hK hc i pins s σ H E I hf st hg
  subst hP hw hK
  obtain⟨f0,f1,f2,f3,f4,f5⟩:=hf it (by simp)
  have W:=Walks.range (prog:=X.prog) (w:=X.w) (I.ok.hd hc) it lo 1 n
  refine W.item i s _ _ hg st λv h' tk hv st' kk=>?_
  obtain⟨t,rfl⟩:=hv
  have I1:Inv X pins σ H { s with heap:=h',toks:=tk }:=I.turned (λb o hb e=>kk b o (by simpa using hb) e) f0 f1 f3 f4 f5
  refine⟨_,rfl,qqe (s:={ s with heap:=h',toks:=tk }) (n:="range_iterator") st' rfl rfl (by decide) ⟨.int (lo+i),H,I1,⟨t,?_⟩,⟨rfl,rfl⟩,st',λb hb=>(hf b hb).1⟩⟩
  rw[Int.mul_one]
 done:=by
  intro X hP hw hK hc i pins s σ H E I hf st hg
  subst hP hw hK
  obtain⟨f0,f1,f2,f3,f4,f5⟩:=hf it (by simp)
  exact wpAny_pyNext_range_end (I.ok.hd hc) st (by have:n<=i:=hg;lia) λh' eb=>⟨rfl,I.turned (t':=s.toks) (λb o hb e=>eb b o hb e) f0 f1 f3 f4 f5⟩
 self:=λ_ _ _ _ _ st h=>wpAny_pyIter_rangeiter st h
end L2
namespace L2
open PySem PySem.Spec PyProof.Rows
section
variable {X:Cx} {tg:Expr}
theorem qtz{pins:List (Addr×Obj)}{σ:St}{H:Hp}{s:Shared}{R:It->Hp->Prop}{E:Value->Shared->Prop}{lo hi:Int}{t u v:Tok}{tk:Nat}(I:Inv X pins σ H s)(h1:-(2 ^ 62)<=lo)(h2:lo<2 ^ 62)(h3:-(2 ^ 62)<=hi)(h4:hi<2 ^ 62)
  (q:R (Itr lo (hi-lo).toNat) H):wpAny (model X.prog X.w) X.A (pyIter (.ref s.heap.objs.size)) (PIE X pins σ tg R) E { s with heap:=s.heap.push { cls:=.type "range",data:=.fields #[.int lo t,.int hi u,.int 1 v] },toks:=tk }:=by
 refine wpAny_pyIter_range (IsRange.new ..) (small_one h1 h2 h3 h4) ?_
 have I1:Inv X pins σ H { s with heap:=s.heap.push { cls:=.type "range",data:=.fields #[.int lo t,.int hi u,.int 1 v] },toks:=tk }:=I.kept λb o e=>Heap.get?_push_of_some _ e
 refine⟨(s.heap.push { cls:=.type "range",data:=.fields #[.int lo t,.int hi u,.int 1 v] }).objs.size,[(s.heap.push { cls:=.type "range",data:=.fields #[.int lo t,.int hi u,.int 1 v] }).objs.size],_,_,H,rfl,
  I1.kept (t':=tk) λb o e=>Heap.get?_push_of_some _ e,qoz _ lo (hi-lo).toNat,?_,λb hb=>?_,q⟩
 ·have e1:lo+((0:Nat):Int)*1=lo:=by simp
  have e2:(((hi-lo).toNat:Nat):Int)-((0:Nat):Int)=Builtin.Range.rangeSize lo hi 1:=by rw[rangeSize_one];split<;>lia
  show IsRangeIter _ _ (lo+((0:Nat):Int)*1) ((((hi-lo).toNat:Nat):Int)-((0:Nat):Int)) 1
  rw[e1,e2]
  exact Heap.get?_push_size _ rfl
 ·have e:b=(s.heap.push { cls:=.type "range",data:=.fields #[.int lo t,.int hi u,.int 1 v] }).objs.size:=by simpa using hb
  subst e
  exact I1.fpOk (Nat.le_refl _) (I1.hok.fresh (Nat.le_refl _))
def qwg(ta:TA):TI:=λσ H R=>ta σ H λvs H1=>∃j:Int,vs=[.int j]/\-(2 ^ 62)<=j/\j<2 ^ 62/\R (Itr 0 j.toNat) H1
theorem qrb{a:Expr}{ta:TA}{p pos:Pos}(hg:Gl X "range")(hm:X.mg "range" = none)(ha:PA X [a] ta)(hs:starEach [a] X.env=[(false,eval a X.env)]:=by rfl):PI X tg (.Call (.Name "range" p) [a] [] pos) (qwg ta):=by
 intro pins s σ H R I h
 refine Call_ (qhu I hg hm boot_range (PyProof.Rows.callWith_type1 (thn (ha pos pins s σ H _ I h) λus s1 ⟨vs,H1,I1,r1,q1⟩=>?_) hs rfl))
 obtain⟨j,e,q1,q2,q⟩:=q1
 subst e
 cases r1 with
|cons r rr =>
  cases rr
  obtain⟨t,rfl⟩:=r
  exact call_range_1 (qtz I1 (by lia) (by lia) q1 q2 (by simpa using q))
def tFor(wi:TI)(g:TG)(tb:TS):TS:=λD σ H=>wi σ H λJ H1=>∃W:Nat->Nat->St->Hp->Prop,(∃m,W 0 m σ H1)/\∀i m σ H,W i m σ H ->
 (J.stop i H/\D.nx σ H)\/(J.go i H/\∃N:St->Hp->Prop,(∀σ' H',N σ' H'->∃m',m'<m/\W (i+1) m' σ' H')/\∀x H',J.yld i H x H'->g x σ H' λσ2 H2=>tb { D with nx:=N,ct:=N,bk:=D.nx } σ2 H2)
def qki(fp:List Addr)(h:Heap):List (Addr×Obj):=fp.filterMap λb=>(h.get? b).map λo=>(b,o)
theorem qem{fp:List Addr}{h:Heap}{b:Addr}{o:Obj}(hb:b∈fp)(e:h.get? b=some o):(b,o)∈qki fp h:=List.mem_filterMap.mpr ⟨b,hb,by rw[e];rfl⟩
theorem qq6{fp:List Addr}{h:Heap}{p:Addr×Obj}(hp:p∈qki fp h):p.1∈fp/\h.get? p.1=some p.2:=by
 obtain⟨b,hb,e⟩:=List.mem_filterMap.mp hp
 cases q:h.get? b with
|none=>rw[q] at e;cases e
|some o =>
  rw[q] at e
  have e':(b,o)=p:=Option.some.inj e
  subst e'
  exact⟨hb,q⟩
theorem Inv.pinned{pins:List (Addr×Obj)}{σ:St}{H:Hp}{s:Shared}{fp:List Addr}(I:Inv X pins σ H s)(hf:∀b∈fp,FpOk X pins H b)(ho:∀b∈fp,∃o,s.heap.get? b=some o/\∀v,o.data≠.cell v):Inv X (pins++qki fp s.heap) σ H s :=
 I.pins_of λp hp=>(List.mem_append.mp hp).elim (λz=>I.pin p (List.mem_append_right _ z)) λz=>by
  obtain⟨hb,e⟩:=qq6 z
  obtain⟨f0,f1,f2,_⟩:=hf p.1 hb
  obtain⟨o,e',d⟩:=ho p.1 hb
  rw[e] at e';cases e'
  exact⟨e,f0,f1,f2,d⟩
theorem Inv.unpinned{pins pl:List (Addr×Obj)}{σ:St}{H:Hp}{s:Shared}(I:Inv X (pins++pl) σ H s):Inv X pins σ H s:=I.pins_of λp hp=>I.pin p (List.mem_append_right _ (List.mem_append_left _ hp))
theorem q0c{iter:Expr}{body:List Stmt}{wi:TI}{g:TG}{tb:TS}{pos:Pos}(hp:PassesOwn (model X.prog X.w) X.A X.env X.xe)(hc:X.calm=true)(hi:PI X tg iter wi)(hg:PG X tg g)(hb:PSs X body tb)
  (hs:∀x,foldedSetIterable iter X.env x=pure x:=by intro _;rfl):PS X (.For tg iter body [] pos) (tFor wi g tb):=by
 intro pins s σ H D I h
 refine wpAny_For (thn (hi pins s σ H _ I h) λv s1 h1=>thn h1 λitv s2 h2=>?_) hs
 obtain⟨it,fp,tn,J,H2,e,I2,T,st2,f2,W,⟨m0,w0⟩,turn⟩:=h2
 subst e
 have stat:∀ {H':Hp},(∀b∈fp,H' b=none)->∀b∈fp,FpOk X pins H' b:=λhn b hb=>⟨hn b hb,(f2 b hb).2⟩
 refine codeAny_forLoop_any (λn s'=>∃i σ' H',Inv X pins σ' H' s'/\tn i s'.heap/\(∀b∈fp,H' b=none)/\W i n σ' H') ?_ m0 ⟨0,σ,H2,I2,st2,λb hb=>(f2 b hb).1,w0⟩
 rintro n s3 ⟨i,σ3,H3,I3,st3,fr3,w3⟩
 rcases turn i n σ3 H3 w3 with ⟨stop,qn⟩|⟨go,N,hN,step⟩
 ·refine wpAny_passesOwn hp (thn (T.done X rfl rfl rfl hc i pins s3 σ3 H3 X.xe I3 (stat fr3) st3 stop) λr s4 ⟨hr,I4⟩=>?_)
  subst hr
  exact wpAny_execs_nil ⟨σ3,H3,I4,qn⟩
 ·refine wpAny_passesOwn hp (thn (T.item X rfl rfl rfl hc i pins s3 σ3 H3 X.xe I3 (stat fr3) st3 go) λr s4 ⟨u,hr,h4⟩=>?_)
  subst hr
  refine wpAny_passesOwn hp (thn h4 λ_ s5 ⟨x,H5,I5,r5,y5,st5,fr5⟩=>?_)
  have I5':=I5.pinned (stat fr5) (T.obj _ _ st5)
  refine wpAny_passesOwn hp (thn (hg _ s5 σ3 H5 x u _ I5' r5 (step x H5 y5)) λ_ s6 ⟨σ6,H6,I6,q6⟩=>?_)
  refine wpAny_passesOwn hp (thn (hb _ s6 σ6 H6 _ I6 q6) λf s7 q7=>?_)
  have again:∀ {σ7:St} {H7:Hp},Inv X (pins++qki fp s5.heap) σ7 H7 s7->N σ7 H7->∃m,m<n/\∃i σ' H',Inv X pins σ' H' s7/\tn i s7.heap/\(∀b∈fp,H' b=none)/\W i m σ' H':=λ{σ7 H7} I7 n7=>by
   obtain⟨m',hm,w7⟩:=hN σ7 H7 n7
   refine⟨m',hm,i+1,σ7,H7,I7.unpinned,T.keep _ _ _ st5 λb hb o e=>(I7.pin (b,o) (List.mem_append_right _ (List.mem_append_right _ (qem hb e)))).1,λb hb=>?_,w7⟩
   obtain⟨o,e,d⟩:=T.obj _ _ st5 b hb
   exact(I7.pin (b,o) (List.mem_append_right _ (List.mem_append_right _ (qem hb e)))).2.1
  cases f with
 |next=>obtain⟨σ7,H7,I7,n7⟩:=q7;exact again I7 n7
 |cont=>obtain⟨σ7,H7,I7,n7⟩:=q7;exact again I7 n7
 |brk=>obtain⟨σ7,H7,I7,q7⟩:=q7;exact⟨σ7,H7,I7.unpinned,q7⟩
 |ret v=>obtain⟨x7,σ7,H7,I7,r7,q7⟩:=q7;exact⟨x7,σ7,H7,I7.unpinned,r7,q7⟩
end
end L2
namespace L2
open PySem PySem.Spec PyProof.Rows
abbrev R2:=V->V->Hp->VK->Prop
def OpR(X:Cx)(f:Value->Value->Sem Value)(r:R2):Prop :=
 ∀(pins:List (Addr×Obj)) (s:Shared) (σ:St) (H:Hp) (x y:V) (v u:Value) (Q:VK),Inv X pins σ H s->RelV x v->RelV y u->r x y H Q ->
  wpAny (model X.prog X.w) X.A (f v u) (EP X pins σ Q) X.xe s
def UnR(X:Cx)(f:Value->Sem Value)(r:V->Hp->VK->Prop):Prop :=
 ∀(pins:List (Addr×Obj)) (s:Shared) (σ:St) (H:Hp) (x:V) (v:Value) (Q:VK),Inv X pins σ H s->RelV x v->r x H Q ->
  wpAny (model X.prog X.w) X.A (f v) (EP X pins σ Q) X.xe s
def CallR(X:Cx)(f:Value)(r:List V->Hp->VK->Prop):Prop :=
 ∀(pins:List (Addr×Obj)) (s:Shared) (σ:St) (H:Hp) (xs:List V) (us:List Value) (Q:VK),Inv X pins σ H s->Vals xs us->r xs H Q ->
  wpAny (model X.prog X.w) X.A (call f us) (EP X pins σ Q) X.xe s
def tOp(r:R2)(ta tb:TE):TE:=λσ H Q=>ta σ H λx H1=>tb σ H1 λy H2=>r x y H2 Q
def tUn(r:V->Hp->VK->Prop)(ta:TE):TE:=λσ H Q=>ta σ H λx H1=>r x H1 Q
def rI(C:Int->Int->Prop)(g:Int->Int->V):R2:=λx y H Q=>∃i j,x=.int i/\y=.int j/\C i j/\Q (g i j) H
def rI0(g:Int->Int->V):R2:=λx y H Q=>∃i j,x=.int i/\y=.int j/\Q (g i j) H
def rU(g:Int->V):V->Hp->VK->Prop:=λx H Q=>∃i,x=.int i/\Q (g i) H
section
variable {X:Cx} {a b c:Expr} {ta tb tc:TE} {pos:Pos}
theorem binT(ha:PE X a ta)(hb:PE X b tb){pins:List (Addr×Obj)}{s:Shared}{σ:St}{H:Hp}{R:V->V->Hp->Prop}(I:Inv X pins σ H s)
  (h:ta σ H λx H1=>tb σ H1 λy H2=>R x y H2) {Q:Value->Shared->Prop} {f:Value->Value->Sem Value}
  (hf:∀v u s2 x y H2,Inv X pins σ H2 s2->RelV x v->RelV y u->R x y H2->wpAny (model X.prog X.w) X.A (f v u) Q X.xe s2) :
  wpAny (model X.prog X.w) X.A (eval a X.env) (λv s₁=>wpAny (model X.prog X.w) X.A (eval b X.env) (λu s₂=>wpAny (model X.prog X.w) X.A (f v u) Q X.xe s₂) X.xe s₁) X.xe s:=by
 refine thn (ha pins s σ H _ I h) λv s1 ⟨x,H1,I1,r1,q1⟩=>?_
 refine thn (hb pins s1 σ H1 _ I1 q1) λu s2 ⟨y,H2,I2,r2,q2⟩=>?_
 exact hf v u s2 x y H2 I2 r1 r2 q2
theorem q2d{op:Operator}{r:R2}(ho:OpR X (binaryOp op) r)(ha:PE X a ta)(hb:PE X b tb):PE X (.BinOp a op b pos) (tOp r ta tb):=by
 intro pins s σ H Q I h
 exact wpAny_BinOp (binT ha hb I h λv u s2 x y H2 I2 rx ry q=>ho pins s2 σ H2 x y v u Q I2 rx ry q)
theorem q2e{op:UnaryOp}{r:V->Hp->VK->Prop}(ho:UnR X (unaryOp op) r)(ha:PE X a ta):PE X (.UnaryOp op a pos) (tUn r ta):=by
 intro pins s σ H Q I h
 exact UnaryOp_ (thn (ha pins s σ H _ I h) λv s1 ⟨x,H1,I1,r1,q1⟩=>ho pins s1 σ H1 x v Q I1 r1 q1)
theorem opI{f:Value->Value->Sem Value}{C:Int->Int->Prop}{g:Int->Int->Int}
  (rule:∀(i j:Int) (t u:Tok) (s:Shared) (Q:Value->Shared->Prop) (E:Value->Shared->Prop),C i j->Q (.int (g i j) s.toks) { s with toks:=s.toks+1 }->wpAny (model X.prog X.w) X.A (f (.int i t) (.int j u)) Q E s) :
  OpR X f (rI C λi j=>.int (g i j)):=by
 intro pins s σ H x y v u Q I rx ry h
 obtain⟨i,j,rfl,rfl,hc,q⟩:=h
 obtain⟨t,rfl⟩:=rx
 obtain⟨t',rfl⟩:=ry
 exact rule i j t t' s _ _ hc ⟨.int (g i j),H,I.tok _,⟨_,rfl⟩,q⟩
theorem opI0{f:Value->Value->Sem Value}{g:Int->Int->Int}
  (rule:∀(i j:Int) (t u:Tok) (s:Shared) (Q:Value->Shared->Prop) (E:Value->Shared->Prop),Q (.int (g i j) s.toks) { s with toks:=s.toks+1 }->wpAny (model X.prog X.w) X.A (f (.int i t) (.int j u)) Q E s) :
  OpR X f (rI0 λi j=>.int (g i j)):=by
 intro pins s σ H x y v u Q I rx ry h
 obtain⟨i,j,rfl,rfl,q⟩:=h
 obtain⟨t,rfl⟩:=rx
 obtain⟨t',rfl⟩:=ry
 exact rule i j t t' s _ _ ⟨.int (g i j),H,I.tok _,⟨_,rfl⟩,q⟩
theorem opB0{f:Value->Value->Sem Value}{g:Int->Int->Bool}
  (rule:∀(i j:Int) (t u:Tok) (s:Shared) (Q:Value->Shared->Prop) (E:Value->Shared->Prop),Q (.bool (g i j)) s->wpAny (model X.prog X.w) X.A (f (.int i t) (.int j u)) Q E s) :
  OpR X f (rI0 λi j=>.bl (g i j)):=by
 intro pins s σ H x y v u Q I rx ry h
 obtain⟨i,j,rfl,rfl,q⟩:=h
 obtain⟨t,rfl⟩:=rx
 obtain⟨t',rfl⟩:=ry
 exact rule i j t t' s _ _ ⟨.bl (g i j),H,I,rfl,q⟩
def CDiv(i j:Int):Prop:=0<j/\j<1073741824
def CPow(i j:Int):Prop:=0<=j/\j<=1000000/\i.natAbs<2 ^ 64
def CMul(i j:Int):Prop:=(-(2 ^ 64)<i/\i<2 ^ 64)\/(-(2 ^ 64)<j/\j<2 ^ 64)
theorem CMul.ok{i j:Int}(h:CMul i j):IntMulOk i j:=by
 rcases h with ⟨h1,h2⟩|⟨h1,h2⟩
 ·exact .of_left (intBits_le_64 h1 h2)
 ·exact .of_right (intBits_le_64 h1 h2)
theorem op_add:OpR X (binaryOp .Add) (rI0 λi j=>.int (i+j)):=opI0 λ_ _ _ _ _ _ _ q=>add_int q
theorem qzz:OpR X (binaryOp .Sub) (rI0 λi j=>.int (i-j)):=opI0 λ_ _ _ _ _ _ _ q=>sub_int q
theorem qzw:OpR X (binaryOp .Mult) (rI CMul λi j=>.int (i*j)):=opI λ_ _ _ _ _ _ _ hc q=>mul_int q hc.ok
theorem qw1:OpR X (binaryOp .FloorDiv) (rI CDiv λi j=>.int (i / j)):=opI λi j _ _ _ _ _ hc q=>by
 have h1:(0:Int)<j:=hc.1
 have h2:j<1073741824:=hc.2
 exact floordiv_int (by lia) (by rw[Int.fdiv_eq_ediv_of_nonneg i (by lia)];exact q) (.inl (PyProof.noPylong_small (by lia)))
theorem qzv:OpR X (binaryOp .Mod) (rI (λ_ j=>0<j) λi j=>.int (i%j)):=opI λi j _ _ _ _ _ hc q=>by
 have h1:(0:Int)<j:=hc
 exact mod_int' (by lia) (by rw[Int.fmod_eq_emod_of_nonneg i (by lia)];exact q)
theorem qzy:OpR X (binaryOp .Pow) (rI CPow λi j=>.int (i ^ j.toNat)):=opI λ_ _ _ _ _ _ _ hc q=>pow_int_small hc.1 hc.2.1 hc.2.2 q
theorem unI{f:Value->Sem Value}{g:Int->Int}
  (rule:∀(i:Int) (t:Tok) (s:Shared) (Q:Value->Shared->Prop) (E:Value->Shared->Prop),Q (.int (g i) s.toks) { s with toks:=s.toks+1 }->wpAny (model X.prog X.w) X.A (f (.int i t)) Q E s) :
  UnR X f (rU λi=>.int (g i)):=by
 intro pins s σ H x v Q I rx h
 obtain⟨i,rfl,q⟩:=h
 obtain⟨t,rfl⟩:=rx
 exact rule i t s _ _ ⟨.int (g i),H,I.tok _,⟨_,rfl⟩,q⟩
theorem q1i:UnR X (unaryOp .USub) (rU λi=>.int (-i)):=unI λ_ _ _ _ _ q=>neg_int q
end
def scal:V->V->Bool
|.non,.non=>true|.non,.int _=>true|.int _,.non=>true|.non,.bl _=>true|.bl _,.non=>true|.non,.str _=>true|.str _,.non=>true
|.int _,.int _=>true|.bl _,.bl _=>true|.str _,.str _=>true|.byt _,.byt _=>true
|.int _,.str _=>true|.str _,.int _=>true|.bl _,.str _=>true|.str _,.bl _=>true
|_,_=>false
def rEq:R2:=λx y H Q=>scal x y=true/\Q (.bl (decide (x=y))) H
def rNe:R2:=λx y H Q=>scal x y=true/\Q (.bl (!decide (x=y))) H
theorem qpw{i j:Int}:decide (V.int i=V.int j)=(i==j):=by
 rw[Bool.eq_iff_iff]
 simp
theorem qur{i j:Bool}:decide (V.bl i=V.bl j)=(i==j):=by
 rw[Bool.eq_iff_iff]
 simp
theorem qpx{i j:Str}:decide (V.str i=V.str j)=(i==j):=by
 rw[Bool.eq_iff_iff]
 simp
theorem qpv{i j:Array UInt8}:decide (V.byt i=V.byt j)=(i.toList==j.toList):=by
 rw[Bool.eq_iff_iff]
 cases i
 cases j
 simp
section
variable {X:Cx} {a b c:Expr} {ta tb tc:TE} {pos:Pos}
theorem qa9{pins:List (Addr×Obj)}{σ:St}{H:Hp}{s:Shared}{Q:VK}{k k':Bool}(I:Inv X pins σ H s)(q:Q (.bl k) H)(e:k=k'):EP X pins σ Q (.bool k') s:=by
 subst e
 exact⟨.bl k,H,I,rfl,q⟩
theorem q15:OpR X (compareOp .Eq) rEq:=by
 intro pins s σ H x y v u Q I rx ry h
 obtain⟨hs,q⟩:=h
 cases x with
|non =>
  cases rx
  cases y with
 |non=>cases ry;exact PySem.EqNone.eq_none_none (qa9 I q (by simp))
 |bl j=>cases ry;exact PySem.EqNone.eq_none_bool (qa9 I q (by simp))
 |int j=>obtain⟨t',rfl⟩:=ry;exact PySem.EqNone.eq_none_int (qa9 I q (by simp))
 |str j=>obtain⟨t',rfl⟩:=ry;exact PySem.EqNone.eq_none_str (qa9 I q (by simp))
 |_=>exact absurd (show false=true from hs) Bool.false_ne_true
|bl i =>
  cases rx
  cases y with
 |non=>cases ry;exact PySem.EqNone.eq_bool_none (qa9 I q (by simp))
 |bl j=>cases ry;exact eq_bool (qa9 I q qur)
 |str j=>obtain⟨t',rfl⟩:=ry;exact PySem.EqMixed.eq_bool_str (qa9 I q (by simp))
 |_=>exact absurd (show false=true from hs) Bool.false_ne_true
|int i =>
  obtain⟨t,rfl⟩:=rx
  cases y with
 |non=>cases ry;exact PySem.EqNone.eq_int_none (qa9 I q (by simp))
 |int j=>obtain⟨t',rfl⟩:=ry;exact eq_int (qa9 I q qpw)
 |str j=>obtain⟨t',rfl⟩:=ry;exact PySem.EqMixed.eq_int_str (qa9 I q (by simp))
 |_=>exact absurd (show false=true from hs) Bool.false_ne_true
|str i =>
  obtain⟨t,rfl⟩:=rx
  cases y with
 |non=>cases ry;exact PySem.EqNone.eq_str_none (qa9 I q (by simp))
 |bl j=>cases ry;exact PySem.EqMixed.eq_str_bool (qa9 I q (by simp))
 |int j=>obtain⟨t',rfl⟩:=ry;exact PySem.EqMixed.eq_str_int (qa9 I q (by simp))
 |str j=>obtain⟨t',rfl⟩:=ry;exact eq_str (qa9 I q qpx)
 |_=>exact absurd (show false=true from hs) Bool.false_ne_true
|byt i =>
  obtain⟨t,rfl⟩:=rx
  cases y with
 |byt j=>obtain⟨t',rfl⟩:=ry;exact PySem.W.eq_bytes (qa9 I q qpv)
 |_=>exact absurd (show false=true from hs) Bool.false_ne_true
|_=>cases y<;>exact absurd (show false=true from hs) Bool.false_ne_true
theorem q18:OpR X (compareOp .NotEq) rNe:=by
 intro pins s σ H x y v u Q I rx ry h
 obtain⟨hs,q⟩:=h
 cases x with
|non =>
  cases rx
  cases y with
 |non=>cases ry;exact PySem.EqNone.ne_none_none (qa9 I q (by simp))
 |bl j=>cases ry;exact PySem.EqNone.ne_none_bool (qa9 I q (by simp))
 |int j=>obtain⟨t',rfl⟩:=ry;exact PySem.EqNone.ne_none_int (qa9 I q (by simp))
 |str j=>obtain⟨t',rfl⟩:=ry;exact PySem.EqNone.ne_none_str (qa9 I q (by simp))
 |_=>exact absurd (show false=true from hs) Bool.false_ne_true
|bl i =>
  cases rx
  cases y with
 |non=>cases ry;exact PySem.EqNone.ne_bool_none (qa9 I q (by simp))
 |bl j=>cases ry;exact ne_bool (qa9 I q (congrArg not qur))
 |str j=>obtain⟨t',rfl⟩:=ry;exact PySem.EqMixed.ne_bool_str (qa9 I q (by simp))
 |_=>exact absurd (show false=true from hs) Bool.false_ne_true
|int i =>
  obtain⟨t,rfl⟩:=rx
  cases y with
 |non=>cases ry;exact PySem.EqNone.ne_int_none (qa9 I q (by simp))
 |int j=>obtain⟨t',rfl⟩:=ry;exact ne_int (qa9 I q (congrArg not qpw))
 |str j=>obtain⟨t',rfl⟩:=ry;exact PySem.EqMixed.ne_int_str (qa9 I q (by simp))
 |_=>exact absurd (show false=true from hs) Bool.false_ne_true
|str i =>
  obtain⟨t,rfl⟩:=rx
  cases y with
 |non=>cases ry;exact PySem.EqNone.ne_str_none (qa9 I q (by simp))
 |bl j=>cases ry;exact PySem.EqMixed.ne_str_bool (qa9 I q (by simp))
 |int j=>obtain⟨t',rfl⟩:=ry;exact PySem.EqMixed.ne_str_int (qa9 I q (by simp))
 |str j=>obtain⟨t',rfl⟩:=ry;exact ne_str (qa9 I q (congrArg not qpx))
 |_=>exact absurd (show false=true from hs) Bool.false_ne_true
|byt i =>
  obtain⟨t,rfl⟩:=rx
  cases y with
 |byt j=>obtain⟨t',rfl⟩:=ry;exact PySem.W.ne_bytes (qa9 I q (congrArg not qpv))
 |_=>exact absurd (show false=true from hs) Bool.false_ne_true
|_=>cases y<;>exact absurd (show false=true from hs) Bool.false_ne_true
theorem q17:OpR X (compareOp .Lt) (rI0 λi j=>.bl (decide (i<j))):=opB0 λ_ _ _ _ _ _ _ q=>lt_int q
theorem q16:OpR X (compareOp .Gt) (rI0 λi j=>.bl (decide (j<i))):=opB0 λ_ _ _ _ _ _ _ q=>gt_int q
theorem op_in_str:OpR X (compareOp .In) (λx y H Q=>∃i j,x=.str i/\y=.str j/\Q (.bl (!(Builtin.Str.occurrences j i 0 j.length 1).isEmpty)) H):=by
 intro pins s σ H x y v u Q I rx ry h
 obtain⟨i,j,rfl,rfl,q⟩:=h
 obtain⟨t,rfl⟩:=rx
 obtain⟨t',rfl⟩:=ry
 exact in_str (qa9 I q rfl)
theorem op_notin_str:OpR X (compareOp .NotIn) (λx y H Q=>∃i j,x=.str i/\y=.str j/\Q (.bl (!(!(Builtin.Str.occurrences j i 0 j.length 1).isEmpty))) H):=by
 intro pins s σ H x y v u Q I rx ry h
 obtain⟨i,j,rfl,rfl,q⟩:=h
 obtain⟨t,rfl⟩:=rx
 obtain⟨t',rfl⟩:=ry
 exact notIn_str (qa9 I q rfl)
theorem OpR.or{f:Value->Value->Sem Value}{r r':R2}(h:OpR X f r)(h':OpR X f r'):OpR X f (λx y H Q=>r x y H Q\/r' x y H Q):=by
 intro pins s σ H x y v u Q I rx ry q
 rcases q with q|q
 ·exact h pins s σ H x y v u Q I rx ry q
 ·exact h' pins s σ H x y v u Q I rx ry q
theorem qw8{op:CmpOp}{r:R2}(ho:OpR X (compareOp op) r)(ha:PE X a ta)(hb:PE X b tb)(hm:behindInMarks op b=false):PE X (.Compare a [op] [b] pos) (tOp r ta tb):=by
 intro pins s σ H Q I h
 exact wpAny_Compare1 (binT ha hb I h λv u s2 x y H2 I2 rx ry q=>ho pins s2 σ H2 x y v u Q I2 rx ry q) hm
def q1g(t:TE):TT:=λσ H Q=>t σ H λx H'=>∃k,x=.bl k/\Q k H'
theorem qxm{op:CmpOp}{r:R2}(ho:OpR X (compareOp op) r)(ha:PE X a ta)(hb:PE X b tb)(hm:behindInMarks op b=false):PT X (.Compare a [op] [b] pos) (q1g (tOp r ta tb)):=by
 intro pins s σ H Q I h
 refine wpAny_isTrue_Compare1 (thn (ha pins s σ H _ I h) λv s1 ⟨x,H1,I1,r1,q1⟩=>thn (hb pins s1 σ H1 _ I1 q1) λu s2 ⟨y,H2,I2,r2,q2⟩ =>
  thn (ho pins s2 σ H2 x y v u _ I2 r1 r2 q2) λc s3 ⟨z,H3,I3,r3,k,e,q3⟩=>?_) hm
 subst e
 cases r3
 exact wpAny_truthy_bool ⟨H3,I3,q3⟩
theorem qj9:(sizeLine:Nat)<2 ^ 63:=by rw[sizeLine_eq];decide
theorem op_add_str:OpR X (binaryOp .Add) (λx y H Q=>∃i j,x=.str i/\y=.str j/\i.length+j.length<=sizeLine/\Q (.str (i++j)) H):=by
 intro pins s σ H x y v u Q I rx ry h
 obtain⟨i,j,rfl,rfl,hz,q⟩:=h
 obtain⟨t,rfl⟩:=rx
 obtain⟨t',rfl⟩:=ry
 exact add_str (λt' tk=>⟨.str (i++j),H,I.tok _,⟨_,rfl⟩,q⟩) hz
theorem vals1{x:V}{us:List Value}(r:Vals [x] us):∃u,us=[u]/\RelV x u:=by
 cases r with
|cons r1 r2=>cases r2;exact⟨_,rfl,r1⟩
theorem vals2{x y:V}{us:List Value}(r:Vals [x,y] us):∃u w',us=[u,w']/\RelV x u/\RelV y w':=by
 cases r with
|cons r1 r2 =>
  cases r2 with
 |cons r3 r4=>cases r4;exact⟨_,_,rfl,r1,r3⟩
end
end L2
namespace L2
open PySem PySem.Spec PyProof.Rows
structure ObjM(h:Heap)(x dx C:Addr)(mA:Str->Option Value):Prop where
 obj:h.get? x=some (PySem.W.instObj C dx)
 ns:h.Ns1 dx mA
 ne:dx≠x
theorem qqx{h:Heap}{dx:Addr}{mA:Str->Option Value}(n:h.Ns1 dx mA):∃od,h.get? dx=some od/\∀name,PySem.W.lookIn name od=some (mA name):=by
 obtain⟨o,es,ep,ho,hd,hk,_,hm⟩:=n
 refine⟨o,ho,λname=>?_⟩
 have e:=hm name
 unfold nsFind findBy at e
 rw[←Array.find?_toList] at e
 unfold PySem.W.lookIn
 rw[hd]
 dsimp only
 split
 ·rename_i y q
  rw[q] at e
  exact congrArg some e
 ·rename_i q
  rw[q] at e
  have a:es.toList.any (·.refKey)=false:=by
   rw[List.any_eq_false]
   intro y hy
   obtain⟨z,t,hkey⟩:=hk y (Array.mem_toList_iff.mp hy)
   simp[DictEntry.refKey,hkey]
  have a':¬ es.toList.any (·.refKey)=true:=by rw[a];exact Bool.false_ne_true
  rw[if_neg a']
  exact congrArg some e
theorem ObjM.look{h:Heap}{x dx C:Addr}{mA:Str->Option Value}(I:ObjM h x dx C mA):∃od,PySem.W.InstAt h x (PySem.W.instObj C dx) C (some od)/\∀name,PySem.W.lookIn name od=some (mA name) :=
 let ⟨od,ho,hl⟩:=qqx I.ns
 ⟨od,⟨I.obj,rfl,rfl,ho⟩,hl⟩
section
variable {prog:Program} {w:World} {A:Around} {E:Value->Shared->Prop} {s:Shared} {K:PySem.W.Frag} {x dx C f:Addr} {mA:Str->Option Value} {name:Str} {v:Value}
end
theorem RelO.some_of{v:V}{o:Option Value}(r:RelO (some v) o):∃u,o=some u/\RelV v u:=by
 cases o with
|none=>exact(show False from r).elim
|some u=>exact⟨u,rfl,r⟩
section
variable {P:Program} {w:World} {H H':Hp} {h h':Heap} {a C dx:Addr} {fs fs':List (Str×V)}
theorem qwi(hok:HOk P w H h)(e:H a=some (.ins C dx fs)):∃mA,ObjM h a dx C mA/\(∀f,RelO (fs.lookup f) (mA f))/\PySem.Within mA (fs.map (·.1))/\fs.length<=1000/\H dx=some (.own a):=by
 obtain⟨d,z,ne,ob,mA,n,r,q⟩:=(show ObjOk P w H h a (.ins C dx fs) from hok a _ e)
 exact⟨mA,⟨ob,n,ne⟩,r,q,z,d⟩
end
structure Cls(K:PySem.W.Frag)(C:Addr):Prop where
 pg:PySem.W.plainGet K C Str.empty=true
 hd:PySem.W.hasDictIn K C=true
 po:PySem.W.plainOver K C=true
 sa:PySem.W.findIn K (.ref C) "__setattr__" = some (some (.builtin "object.__setattr__"))
theorem Cls.get{K:PySem.W.Frag}{C:Addr}(c:Cls K C)(f:Str):PySem.W.plainGet K C f=true:=c.pg
structure Con(K:PySem.W.Frag)(C:Addr)(f:Str)(v:V)(u:Value):Prop where
 at_:PySem.W.findIn K (.ref C) f=some (some u)
 rel:RelV v u
 get:PySem.W.specialIn K u "__get__" = some none
 cp:PySem.W.copiedNames.contains f=false
structure Meth(K:PySem.W.Frag)(C:Addr)(m:Str)(f:Addr):Prop where
 at_:PySem.W.findIn K (.ref C) m=some (some (.ref f))
 fn:PySem.W.isFn K (.ref f)=true
 kp:PySem.W.keepIn K (.ref f)=true
section
variable {X:Cx} {pins:List (Addr×Obj)} {σ:St} {H:Hp} {s:Shared} {a C dx:Addr} {fs:List (Str×V)} {f:Str} {v:V} {A:Around} {E:Value->Shared->Prop}
end
section
variable {X:Cx} {o e value:Expr} {f:Str} {pos pos' tpos:Pos} {ta tv:TE}
end
section
variable {X:Cx} {pins:List (Addr×Obj)} {σ:St} {H:Hp} {s:Shared} {A:Around} {E:Value->Shared->Prop} {Q:Value->Shared->Prop} {c:Value} {b:Bool}
inductive TyOf(K:PySem.W.Frag)(H:Hp):V->Value->Prop where
|non:TyOf K H .non (.type "NoneType")
|bl (x:Bool):TyOf K H (.bl x) (.type "bool")
|int (i:Int):TyOf K H (.int i) (.type "int")
|str (x:Str):TyOf K H (.str x) (.type "str")
|flt (x:UInt64):TyOf K H (.flt x) (.type "float")
|lst {a:Addr} {xs:List V} (e:H a=some (.lst xs)):TyOf K H (.ref a) (.type "list")
|frz {a:Addr} {o:Obj} {xs:List V} (e:H a=some (.frz o (.lst xs))):TyOf K H (.ref a) (.type "list")
|tup {a:Addr} {xs:List V} (e:H a=some (.tup xs)):TyOf K H (.ref a) (.type "tuple")
|dK {a:Addr} {kvs:List (Key×V)} (e:H a=some (.dK kvs)):TyOf K H (.ref a) (.type "dict")
|dT {a:Addr} {kvs:List (List Key×V)} (e:H a=some (.dT kvs)):TyOf K H (.ref a) (.type "dict")
|ins {a C dx:Addr} {fs:List (Str×V)} (e:H a=some (.ins C dx fs)) (cl:Cls K C) (ha:PySem.W.findIn K (.ref C) "__class__" = some (some (.builtin "object.__class__")))
   (hn:PySem.W.specialIn K (.builtin "object.__class__") "__get__" = some (some (.builtin "getset_descriptor.__get__"))) (htk:PySem.W.takesIn K (.builtin "object.__class__")=some true)
   (hm:PySem.W.mroIn K C (.type "object")=some true):TyOf K H (.ref a) (.ref C)
theorem qd3{x:V}{u t:Value}(I:Inv X pins σ H s)(rx:RelV x u)(ty:TyOf X.K H x t)(e:PySem.W.kitOne X.K t c=some b)(h:∀tk,Q (.bool b) { s with toks:=tk }) :
  wpAny (model X.prog X.w) A (call (.builtin "isinstance") [u,c]) Q E s:=by
 cases ty with
|non=>cases (show u=Value.none from rx);exact PySem.W.kia_one PySem.W.kitx_none I.kIn True.intro e (λz=>nomatch z) h
|bl y=>cases (show u=Value.bool y from rx);exact PySem.W.kia_one PySem.W.kitx_bool I.kIn True.intro e (λz=>nomatch z) h
|int i=>obtain⟨t,q⟩:=(show ∃t,u=Value.int i t from rx);cases q;exact PySem.W.kia_one PySem.W.kitx_int I.kIn True.intro e (λz=>nomatch z) h
|str y=>obtain⟨t,q⟩:=(show ∃t,u=Value.str y t from rx);cases q;exact PySem.W.kia_one PySem.W.kitx_str I.kIn True.intro e (λz=>nomatch z) h
|flt y=>obtain⟨t,q⟩:=(show ∃t,u=Value.float y t from rx);cases q;exact PySem.W.kia_one PySem.W.kitx_float I.kIn True.intro e (λz=>nomatch z) h
|@lst a xs ea =>
  cases (show u=Value.ref a from rx)
  obtain⟨_,_,n,_,h1⟩:=(show ObjOk X.prog X.w H s.heap a (.lst xs) from I.hok a _ ea)
  exact PySem.W.kia_one PySem.W.kitx_list I.kIn ⟨_,h1,rfl⟩ e (λz=>nomatch z) h
|@frz a ob xs ea =>
  cases (show u=Value.ref a from rx)
  obtain⟨_,_,_,n,_,h1⟩:=(show ObjOk X.prog X.w H s.heap a (.frz ob (.lst xs)) from I.hok a _ ea)
  exact PySem.W.kia_one PySem.W.kitx_list I.kIn ⟨_,h1,rfl⟩ e (λz=>nomatch z) h
|@tup a xs ea =>
  cases (show u=Value.ref a from rx)
  obtain⟨_,_,_,p⟩:=(show ObjOk X.prog X.w H s.heap a (.tup xs) from I.hok a _ ea)
  obtain⟨o,h1,h2,_⟩:=p
  exact PySem.W.kia_one PySem.W.kitx_tuple I.kIn ⟨o,h1,h2⟩ e (λz=>nomatch z) h
|@dK a kvs ea =>
  cases (show u=Value.ref a from rx)
  obtain⟨_,_,vs,_,p⟩:=(show ObjOk X.prog X.w H s.heap a (.dK kvs) from I.hok a _ ea)
  obtain⟨o,es,ep,h1,h2,_⟩:=p
  exact PySem.W.kia_one PySem.W.kitx_dict I.kIn ⟨o,h1,h2.1⟩ e (λz=>nomatch z) h
|@dT a kvs ea =>
  cases (show u=Value.ref a from rx)
  obtain⟨_,_,xs,_,o,es,ep,h1,h2,_⟩:=(show ObjOk X.prog X.w H s.heap a (.dT kvs) from I.hok a _ ea)
  exact PySem.W.kia_one PySem.W.kitx_dict I.kIn ⟨o,h1,h2.1⟩ e (λz=>nomatch z) h
|@ins a C dx fs ea cl ha hn htk hm =>
  cases (show u=Value.ref a from rx)
  obtain⟨mA,O,_⟩:=qwi I.hok ea
  obtain⟨od,J,_⟩:=O.look
  exact PySem.W.kia_one (PySem.W.kitx_own (cl.get _) cl.hd ha hn htk hm) I.kIn J e (λz=>nomatch z) h
end
end L2
namespace L2
open PySem PySem.Spec PyProof.Rows
structure Room(k:Nat)(A:Around):Prop where
 hd:A.handled=none
 dp:A.depth+3*k+5<recursionLimit
 un:A.units+16*k+200<cLine
theorem Room.mono{j k:Nat}{A:Around}(r:Room k A)(h:j<=k):Room j A:=⟨r.hd,by have:=r.dp;lia,by have:=r.un;lia⟩
theorem Room.deeper{k:Nat}{A:Around}(r:Room (k+1) A)(env:Env):Room k (A.deeper env) :=
 ⟨r.hd,by have:=r.dp;show A.depth+1+3*k+5<_;lia,by have:=r.un;show A.units+3+16*k+200<_;lia⟩
theorem Room.depth{k:Nat}{A:Around}(r:Room k A):A.depth<recursionLimit:=by have:=r.dp;lia
theorem Room.units{k:Nat}{A:Around}(r:Room k A):A.units+64<cLine:=by have:=r.un;lia
def tNil:TA:=λ_ H Q=>Q [] H
def que(ta:TE)(tr:TA):TA:=λσ H Q=>ta σ H λx H1=>tr σ H1 λxs H2=>Q (x::xs) H2
section
variable {X:Cx} {e:Expr} {es:List Expr} {te:TE} {t:TA} {pos:Pos}
theorem qz0:PA X [] tNil:=λ_ _ _ _ H Q I h=>Calls.spliced_nil ⟨[],H,I,.nil,h⟩
theorem qw4(ha:PE X e te)(hr:PA X es t)(hs:starEach (e::es) X.env=(false,eval e X.env)::starEach es X.env:=by rfl):PA X (e::es) (que te t):=by
 intro pos pins s σ H Q I h
 rw[hs]
 show wpAny _ _ (spliced ((false,eval e X.env)::backTo pos (starEach es X.env))) _ _ s
 refine Calls.spliced_cons (thn (ha pins s σ H _ I h) λu s1 ⟨x,H1,I1,r1,q1⟩=>?_)
 exact thn (hr pos pins s1 σ H1 _ I1 q1) λus s2 ⟨xs,H2,I2,r2,q2⟩=>⟨x::xs,H2,I2,.cons r1 r2,q2⟩
def tTup(t:TA):TE:=λσ H Q=>t σ H λxs H1=>xs.length<=sizeLine/\∀p,H1 p=none->Q (.ref p) (upd H1 p (.tup xs))
def tLst(t:TA):TE:=λσ H Q=>t σ H λxs H1=>xs.length<=sizeLine/\∀p,H1 p=none->Q (.ref p) (upd H1 p (.lst xs))
theorem qz9{x1}(h:PA X es t):PE X (.Tuple es x1 pos) (tTup t):=by
 intro pins s σ H Q I hq
 refine wpAny_Tuple_spliced (thn (h pos pins s σ H _ I hq) λus s1 ⟨xs,H1,I1,r,z,q⟩=>⟨by rw[←r.length];exact z,?_⟩)
 have hf:H1 s1.heap.objs.size=none:=I1.hok.fresh (Nat.le_refl _)
 refine⟨.ref s1.heap.objs.size,upd H1 s1.heap.objs.size (.tup xs),I1.laid (t':=s1.toks) (λb u e=>Heap.get?_push_of_some _ e) (Nat.le_refl _) ?_,rfl,q _ hf⟩
 exact⟨z,us,r,⟨_,Heap.get?_push_size _ rfl,rfl,_,rfl⟩⟩
theorem qz6(h:PA X es t):PE X (.List es pos) (tLst t):=by
 intro pins s σ H Q I hq
 refine wpAny_List_spliced (thn (h pos pins s σ H _ I hq) λus s1 ⟨xs,H1,I1,r,z,q⟩=>⟨by rw[←r.length];exact z,?_⟩)
 have hf:H1 s1.heap.objs.size=none:=I1.hok.fresh (Nat.le_refl _)
 refine⟨.ref s1.heap.objs.size,upd H1 s1.heap.objs.size (.lst xs),I1.laid (t':=s1.toks) (λb u e=>Heap.get?_push_of_some _ e) (Nat.le_refl _) ?_,rfl,q _ hf⟩
 exact⟨z,us,0,r,Heap.get?_push_size _ rfl⟩
end
abbrev Sp:=List V->Hp->VK->XK->Prop
abbrev CXT:=List Env->Hp->Shared->XK->Value->Shared->Prop
structure Env0(P:Program)(w:World)(K:PySem.W.Frag)(mg:Str->Option Value)(base:Heap)(A:Around)(outer:List Env)(s:Shared)(H:Hp):Prop where
 frames:A.frames=some outer
 mod:Mod K mg base
 bs:∀b o,base.get? b=some o->s.heap.get? b=some o/\H b=none
 bsz:base.objs.size<=s.heap.objs.size
 funs:s.heap.FunFrames base outer
 frf:∀b∈frs outer,H b=none
 hok:HOk P w H s.heap
 bare:AllBare s.gens
def CE(outer:List Env)(P:Program)(w:World)(H:Hp)(s:Shared)(Q:VK)(u:Value)(s':Shared):Prop :=
 ∃v H',s'.os=s.os/\AllBare s'.gens/\Un (frs outer) [] H H' s.heap s'.heap/\HOk P w H' s'.heap/\RelV v u/\Q v H'
def CR(CX:CXT)(outer:List Env)(P:Program)(w:World)(H:Hp)(s:Shared)(Q:VK)(E:XK)(r:Result)(s':Shared):Prop :=
 match r with
|.ok (.ret u)=>CE outer P w H s Q u s'
|.ok _=>False
|.error e=>CX outer H s E e s'
structure FnOk(P:Program)(w:World)(K:PySem.W.Frag)(mg:Str->Option Value)(base:Heap)(CX:CXT)(k:Nat)(f:Addr)(fd:FuncData)(ps:List Str)(sp:Sp):Prop where
 len:∀vs H Q E,sp vs H Q E->vs.length=ps.length
 run:∀(A:Around) (outer:List Env) (s:Shared) (H:Hp) (args:Args) (us:List Value) (vs:List V) (Q:VK) (E:XK),Room k A->Env0 P w K mg base A outer s H->BindsTo s fd args (ps.zip us)->Vals vs us->sp vs H Q E ->
  codeAny (model P w) A (.call (.ref f) args) (CR CX outer P w H s Q E) s
section
variable {X:Cx} {pins:List (Addr×Obj)} {σ:St} {H:Hp} {s s':Shared}
theorem Inv.env0(I:Inv X pins σ H s):Env0 X.prog X.w X.K X.mg X.base X.A X.stack s H :=
 ⟨I.ok.frames,I.ok.mod,I.bs,Nat.le_trans I.ok.bsz I.sz,I.stack,I.stkFree,I.hok,I.bare⟩
theorem Inv.after{Q:VK}{u:Value}(I:Inv X pins σ H s)(h:CE X.stack X.prog X.w H s Q u s'):EP X pins σ Q u s':=by
 obtain⟨v,H',os,bare,un,hok,r,q⟩:=h
 obtain⟨hh,g,d,t,os'⟩:=s'
 obtain rfl:os'=s.os:=os
 exact⟨v,H',I.call (h':=hh) (g':=g) (d':=d) (t':=t) (ch:=[]) un hok bare (λb z=>absurd z (by simp)),r,q⟩
end
def qyk(sp:Sp)(dvs:List V)(E:XK)(t:TA):TE:=λσ H Q=>t σ H λvs H1=>sp (vs++dvs) H1 Q E
def Binds(K:PySem.W.Frag)(fd:FuncData)(ps:List Str)(ds:List Value):Prop :=
 ∀(s:Shared) (us:List Value),K.In s.heap->(us++ds).length=ps.length->BindsTo s fd ⟨us,[]⟩ (ps.zip (us++ds))
theorem Binds.all{K:PySem.W.Frag}{fd:FuncData}{ps:List Str}(h:∀us:List Value,us.length=ps.length->bindArgs fd ⟨us,[]⟩=pure (ps.zip us)):Binds K fd ps []:=λs us _ hl=>by
 rw[List.append_nil] at hl ⊢
 exact .of_eq (h us hl)
def qpg(CX:CXT)(X:Cx)(E:XK):Prop:=∀(pins:List (Addr×Obj)) (σ:St) (H:Hp) (s:Shared) (e:Value) (s':Shared),Inv X pins σ H s->CX X.stack H s E e s'->X.xe e s'
section
variable {X:Cx} {CX:CXT} {k:Nat} {f C:Addr} {fd:FuncData} {ps:List Str} {sp:Sp} {dvs:List V} {ds:List Value} {E:XK} {x m:Str} {p pos apos:Pos} {e o:Expr} {es:List Expr} {ta:TE} {t:TA}
theorem q04{pins:List (Addr×Obj)}{σ:St}{H:Hp}{s:Shared}{Q:VK}{us:List Value}{vs:List V}(F:FnOk X.prog X.w X.K X.mg X.base CX k f fd ps sp)(hr:Room k X.A)(hb:Binds X.K fd ps ds)(hd:Vals dvs ds)(hx:qpg CX X E)
  (I:Inv X pins σ H s) (r:Vals vs us) (h:sp (vs++dvs) H Q E):wpAny (model X.prog X.w) X.A (call (.ref f) us) (EP X pins σ Q) X.xe s:=by
 have r2:Vals (vs++dvs) (us++ds):=r.append hd
 have hl:(us++ds).length=ps.length:=by rw[←r2.length];exact F.len _ _ _ _ h
 refine wpAny_call (codeAny_mono (F.run X.A X.stack s H ⟨us,[]⟩ (us++ds) (vs++dvs) Q E hr I.env0 (hb s us I.kIn hl) r2 h) λr s' hq=>?_)
 cases r with
|error e=>exact hx pins σ H s e s' I hq
|ok fl =>
  cases fl with
 |ret u=>exact I.after hq
 |next=>exact False.elim hq
 |brk=>exact False.elim hq
 |cont=>exact False.elim hq
theorem qw7(F:FnOk X.prog X.w X.K X.mg X.base CX k f fd ps sp)(hr:Room k X.A)(hg:Gl X x)(hm:X.mg x=some (.ref f))(hk:PySem.W.keepIn X.K (.ref f)=true)(hb:Binds X.K fd ps ds)(hd:Vals dvs ds)(hx:qpg CX X E)
  (ha:PA X (e::es) t) (hdb:(x==("__debug__" : Str))=false:=by decide) (he:starEach (e::es) X.env=(false,eval e X.env)::starEach es X.env:=by rfl) (hpl:(backTo pos (starEach es X.env)).any (·.1)=false:=by rfl) :
  PE X (.Call (.Name x p) (e::es) [] pos) (qyk sp dvs E t):=by
 intro pins s σ H Q I h
 refine wpAny_Call_Name_kw (qwp I hg hm ?_ hdb)
 refine PySem.W.callWith_K (h₀:=X.base) I.ok.mod.kin hk (thn (ha pos pins s σ H _ I h) λus s1 ⟨vs,H1,I1,r,q⟩=>⟨I1.kIn,?_⟩) he hpl
 exact q04 F hr hb hd hx I1 r q
structure Mk(K:PySem.W.Frag)(C f:Addr):Prop where
 makes:PySem.W.makesIn K C=true
 init:PySem.W.findIn K (.ref C) "__init__" = some (some (.ref f))
 fn:PySem.W.isFn K (.ref f)=true
 kp:PySem.W.keepIn K (.ref C)=true
end
section
variable {X:Cx} {CX:CXT} {k:Nat} {f C:Addr} {fd:FuncData} {ps ks:List Str} {sp:Sp} {E:XK} {x m:Str} {p pos apos kpos:Pos} {e o:Expr} {es:List Expr} {kws:List Keyword} {te ta:TE} {t tk:TA} {nm:Option Str}
structure KBinds(K:PySem.W.Frag)(fd:FuncData)(ps ks:List Str)(g:List Value->List Value->List Value)(gV:List V->List V->List V):Prop where
 to:∀(s:Shared) (us ws:List Value),K.In s.heap->(g us ws).length=ps.length->BindsTo s fd ⟨us,ks.zip ws⟩ (ps.zip (g us ws))
 rel:∀ {vs:List V} {us:List Value} {zs:List V} {ws:List Value},Vals vs us->Vals zs ws->Vals (gV vs zs) (g us ws)
variable {g:List Value->List Value->List Value} {gV:List V->List V->List V}
end
structure FnScope(N P:List Str)(sc:Scope):Prop where
 kind:sc.kind=.function
 co:sc.isCoroutine=false
 gen:sc.isGenerator=false
 nd:N.Nodup
 pre:N.take P.length=P
 par:∀x∈P,sc.names.lookup x=some .local\/sc.names.lookup x=some .cell
 nofree:∀y∈sc.names,y.2≠.free
theorem qjn{kindOf:Str->Option NameKind}{x:Str}:∀ {binds:List (Str×Value)} {m:Str->Option Value},(∀v,(x,v)∉binds)->bindL kindOf binds m x=m x
|[],_,_=>rfl
|(n,v)::r,m,h=>by
  unfold bindL
  rw[qjn λw hw=>h w (List.mem_cons_of_mem _ hw)]
  split
  ·have:x≠n:=by rintro rfl;exact h v List.mem_cons_self
   simp[this]
  ·rfl
theorem qjl{kindOf:Str->Option NameKind}{x:Str}:∀ {binds:List (Str×Value)} {m:Str->Option Value},(∀v,(x,v)∉binds)->bindC kindOf binds m x=m x
|[],_,_=>rfl
|(n,v)::r,m,h=>by
  unfold bindC
  rw[qjl λw hw=>h w (List.mem_cons_of_mem _ hw)]
  split
  ·rfl
  ·have:x≠n:=by rintro rfl;exact h v List.mem_cons_self
   simp[this]
theorem qjm{kindOf:Str->Option NameKind}{x:Str}{v:Value}:∀ {P:List Str} {vs:List Value} {i:Nat} {m:Str->Option Value},P.Nodup->P[i]?=some x->vs[i]?=some v->kindOf x=some .local ->
  bindL kindOf (P.zip vs) m x=some v
|[],_,_,_,_,h,_,_=>by simp at h
|_::_,[],_,_,_,_,h,_=>by simp at h
|p::P,w::vs,0,m,nd,h1,h2,hk=>by
  simp at h1 h2;subst h1;subst h2
  show bindL kindOf ((p,w)::P.zip vs) m p=_
  unfold bindL
  rw[qjn λv hv=>(List.nodup_cons.mp nd).1 (List.of_mem_zip hv).1,if_pos hk]
  simp
|p::P,w::vs,i+1,m,nd,h1,h2,hk=>by
  show bindL kindOf ((p,w)::P.zip vs) m x=_
  unfold bindL
  exact qjm (i:=i) (List.nodup_cons.mp nd).2 (by simpa using h1) (by simpa using h2) hk
theorem qjk{kindOf:Str->Option NameKind}{x:Str}{v:Value}:∀ {P:List Str} {vs:List Value} {i:Nat} {m:Str->Option Value},P.Nodup->P[i]?=some x->vs[i]?=some v->kindOf x≠some .local ->
  bindC kindOf (P.zip vs) m x=some v
|[],_,_,_,_,h,_,_=>by simp at h
|_::_,[],_,_,_,_,h,_=>by simp at h
|p::P,w::vs,0,m,nd,h1,h2,hk=>by
  simp at h1 h2;subst h1;subst h2
  show bindC kindOf ((p,w)::P.zip vs) m p=_
  unfold bindC
  rw[qjl λv hv=>(List.nodup_cons.mp nd).1 (List.of_mem_zip hv).1,if_neg hk]
  simp
|p::P,w::vs,i+1,m,nd,h1,h2,hk=>by
  show bindC kindOf ((p,w)::P.zip vs) m x=_
  unfold bindC
  exact qjk (i:=i) (List.nodup_cons.mp nd).2 (by simpa using h1) (by simpa using h2) hk
def start(N:List Str)(vs:List V):St:=vs.map some++List.replicate (N.length-vs.length) none
def cxOf(CX:CXT)(P:Program)(w:World)(K:PySem.W.Frag)(mg:Str->Option Value)(base:Heap)(N:List Str)(qual:Str)(scope:Scope)(f:Addr)(cd:Value)(A:Around)(outer:List Env)(s:Shared)(H:Hp)(E:XK):Cx where
 prog:=P
 w:=w
 K:=K
 mg:=mg
 base:=base
 A:=A.deeper (envOfC qual scope s.heap.objs.size f cd)
 N:=N
 s₀:=s
 H₀:=H
 env:=envOfC qual scope s.heap.objs.size f cd
 outer:=outer
 stack:=envOfC qual scope s.heap.objs.size f cd::outer
 ex:=[]
 calm:=true
 fn:=λ_=>true
 pn:=[]
 xe:=λe s'=>wpAny (model P w) (A.deeper (envOfC qual scope s.heap.objs.size f cd)) (leaving (envOfC qual scope s.heap.objs.size f cd) e) (λ_ s''=>CX outer H s E e s'') (λe' s''=>CX outer H s E e' s'') s'
theorem qmm{sc:Scope}{n:Nat}{x:Str}(h:sc.names.lookup x=some .cell):∃c,(cellsFrom n sc.names []).lookup x=some c:=by
 have q:=PySem.W.cellsFrom_some sc.names n [] (.inl h)
 exact Option.isSome_iff_exists.mp q
theorem qqk{CX:CXT}{P:Program}{w:World}{K:PySem.W.Frag}{mg:Str->Option Value}{base:Heap}{N ps:List Str}{qual:Str}{scope:Scope}{f:Addr}{cd:Value}{A:Around}{outer:List Env}{s s1:Shared}{H:Hp}{E:XK}{us:List Value}{vs:List V}
  (S:FnScope N ps scope) (hd:A.handled=none) (e0:Env0 P w K mg base A outer s H) (hl:vs.length=ps.length) (r:Vals vs us)
  (x:InCallC s s.heap.objs.size (bindL (envOfC qual scope s.heap.objs.size f cd).kindOf (ps.zip us) λ_=>none) (cellsFrom (s.heap.objs.size+1) scope.names []) (bindC (envOfC qual scope s.heap.objs.size f cd).kindOf (ps.zip us) λ_=>none) s1) :
  Inv (cxOf CX P w K mg base N qual scope f cd A outer s H E) [] (start N vs) H s1:=by
 have hpl:ps.length<=N.length:=by have:=congrArg List.length S.pre;rw[List.length_take] at this;lia
 obtain⟨h1,tk,rfl,hk⟩:=x.done
 have noA:∀b:Addr,b∉(cxOf CX P w K mg base N qual scope f cd A outer s H E).ex:=λb z=>absurd (show b∈([]:List Addr) from z) (by simp)
 refine⟨⟨e0.mod,S.kind,rfl,rfl,Nat.le_refl _,λy z c h1 h2=>?_,λy hy=>?_,λy c _ h=>?_,λ_=>hd,Around.frames_deeper e0.frames,.inr ⟨rfl,rfl⟩,λb z=>absurd z (noA b),e0.bs,e0.bsz,λb _ _=>noA b,λb z=>absurd z (noA b),e0.funs,e0.frf⟩,
  rfl,e0.bare,Un.kept hk,⟨_,x.toInCall.ns,λi y v h1 h2 h3=>?_⟩,λy c h=>⟨_,x.cell y c h⟩,e0.hok.fresh (Nat.le_refl _),λy c h=>?_,λp hp=>absurd (show p∈([]:List (Addr×Obj)) from hp) (by simp),e0.hok.kept hk,?_⟩
 ·exact name_of_addr x.apart (PySem.mem_of_lookup h1) (PySem.mem_of_lookup h2)
 ·have hy:scope.names.lookup y=some .cell\/scope.names.lookup y=some .free:=hy
  rcases hy with hy|hy
  ·exact qmm hy
  ·exact absurd rfl (S.nofree _ (PySem.mem_of_lookup hy))
 ·exact Nat.le_of_lt (x.above y c (PySem.mem_of_lookup h))
 ·have hi:i<vs.length:=by
   unfold start at h2
   by_cases hi:i<vs.length
   ·exact hi
   ·rw[List.getElem?_append_right (by simpa using hi)] at h2
    rw[List.getElem?_replicate] at h2
    split at h2<;>cases h2
  have ha:vs[i]?=some v:=by
   unfold start at h2
   rw[List.getElem?_append_left (by simpa using hi),List.getElem?_map] at h2
   cases e:vs[i]? with
  |none=>rw[e] at h2;cases h2
  |some a=>rw[e] at h2;cases h2;rfl
  obtain⟨u,hu,rv⟩:=r.get ha
  have hp:ps[i]?=some y:=by
   rw[←S.pre,List.getElem?_take_of_lt (by lia)];exact h1
  have ndP:ps.Nodup:=by rw[←S.pre];exact S.nd.sublist (List.take_sublist _ _)
  refine⟨u,rv,?_⟩
  rcases S.par y (List.mem_of_getElem? hp) with k|k
  ·exact .inl ⟨k,qjm ndP hp hu k⟩
  ·obtain⟨c,e⟩:=qmm (n:=s.heap.objs.size+1) k
   refine .inr ⟨.inl k,c,e,?_⟩
   have q:=x.cell y c e
   rw[qjk ndP hp hu (by show scope.names.lookup y≠_;rw[k];decide)] at q
   exact q
 ·exact e0.hok.fresh (Nat.le_of_lt (x.above y c (PySem.mem_of_lookup h)))
 ·unfold start
  show _=N.length
  rw[List.length_append,List.length_map,List.length_replicate]
  lia
theorem q13{CX:CXT}{P:Program}{w:World}{K:PySem.W.Frag}{mg:Str->Option Value}{base:Heap}{k:Nat}{f:Addr}{name qual:Str}{params:Arguments}{body:List Stmt}{scope:Scope}{dV kV doc pm cdv ct oc:Value}{an od:Option Addr}
  {osl:Array (Option Value)} {N ps:List Str} {sp:Sp} (lk:K.lookup f=some ⟨oc,od,.func (PySem.W.fnOf name qual params body scope dV kV doc pm an cdv ct),osl⟩) (hcd:PySem.W.codeIn K cdv qual=true) (S:FnScope N ps scope)
  (len:∀vs H Q E,sp vs H Q E->vs.length=ps.length)
  (hbody:∀(A:Around) (outer:List Env) (s:Shared) (H:Hp) (vs:List V) (Q:VK) (E:XK),Room k (A.deeper (envOfC qual scope s.heap.objs.size f cdv))->sp vs H Q E ->
   ∃t,PSs (cxOf CX P w K mg base N qual scope f cdv A outer s H E) body t/\t { nx:=λ_ H'=>Q .non H',rt:=Q } (start N vs) H) :
  FnOk P w K mg base CX (k+1) f (PySem.W.fnOf name qual params body scope dV kV doc pm an cdv ct) ps sp:=by
 refine⟨len,λA outer s H args us vs Q E hr e0 hb r hsp=>?_⟩
 have hl:=len _ _ _ _ hsp
 have KX:K.In s.heap:=e0.mod.kin.keeps λb o e=>(e0.bs b o e).1
 have lim:s.heap.NoLimit:=e0.mod.nolimit.keeps λb o e=>(e0.bs b o e).1
 have hkind:∀y∈ps.zip us,scope.names.lookup y.1=some .local\/(scope.names.lookup y.1=some .cell/\((cellsFrom (s.heap.objs.size+1) scope.names []).lookup y.1).isSome=true):=λ⟨n,v⟩ hy=>by
  rcases S.par n (List.of_mem_zip hy).1 with q|q
  ·exact .inl q
  ·exact .inr ⟨q,PySem.W.cellsFrom_some _ _ _ (.inl q)⟩
 refine codeAny_call_function hr.depth (KX _ _ lk) rfl S.co S.gen rfl (PySem.W.codeRec_of KX hcd) (hb _ _ _ _ ?_)
 refine wpAny_newFunctionEnv_cells S.kind hkind λenv he s1 x=>?_
 subst he
 refine⟨lim.keeps x.toInCall.keep,codeAny_func ?_⟩
 obtain⟨t,ht,hq⟩:=hbody A outer s H vs Q E (hr.deeper _) hsp
 have I:Inv (cxOf CX P w K mg base N qual scope f cdv A outer s H E) [] (start N vs) H s1:=qqk S hr.hd e0 hl r x
 refine wpAny_mono (ht [] s1 (start N vs) H _ I hq) (λfl s' hs=>?_) λe s' hs=>hs
 have fin:∀ {σ':St} {H':Hp} {v:V} {u:Value},Inv (cxOf CX P w K mg base N qual scope f cdv A outer s H E) [] σ' H' s'->RelV v u->Q v H'->CE outer P w H s Q u s' :=
  λ{σ' H' v u} J rv q=>⟨v,H',J.os,J.bare,J.base,J.hok,rv,q⟩
 cases fl with
|ret u =>
  obtain⟨v,σ',H',J,rv,q⟩:=hs
  exact fin J rv q
|next =>
  obtain⟨σ',H',J,q⟩:=hs
  exact fin (v:=V.non) (u:=Value.none) J rfl q
|brk =>
  obtain⟨_,_,_,q⟩:=hs
  exact False.elim q
|cont =>
  obtain⟨_,_,_,q⟩:=hs
  exact False.elim q
end L2
namespace L2
open PySem PySem.Spec PyProof.Rows
section
variable {X:Cx} {x:Str} {p pos:Pos} {e:Expr} {es:List Expr} {t:TA} {id T:String} {r:List V->Hp->VK->Prop}
def tCB(r:List V->Hp->VK->Prop)(t:TA):TE:=λσ H Q=>t σ H λvs H1=>r vs H1 Q
theorem qti(hc:CallR X (.builtin id) r)(hg:Gl X x)(hm:X.mg x=none)(hv:bootBuiltins x=some (.builtin id))(ha:PA X (e::es) t)(hn:x≠"__name__" := by decide)(hdb:(x==("__debug__" : Str))=false:=by decide)
  (he:starEach (e::es) X.env=(false,eval e X.env)::starEach es X.env:=by rfl) (hpl:(backTo pos (starEach es X.env)).any (·.1)=false:=by rfl):PE X (.Call (.Name x p) (e::es) [] pos) (tCB r t):=by
 intro pins s σ H Q I h
 refine wpAny_Call_Name_kw (qhu I hg hm hv ?_ hn hdb)
 exact PyProof.Rows.callWith_builtin1 (thn (ha pos pins s σ H _ I h) λus s1 ⟨vs,H1,I1,r1,q1⟩=>hc pins s1 σ H1 vs us Q I1 r1 q1) he hpl
theorem qra(hc:CallR X (.type T) r)(hg:Gl X x)(hm:X.mg x=none)(hv:bootBuiltins x=some (.type T))(ha:PA X (e::es) t)(hn:x≠"__name__" := by decide)(hdb:(x==("__debug__" : Str))=false:=by decide)
  (he:starEach (e::es) X.env=(false,eval e X.env)::starEach es X.env:=by rfl) (hpl:(backTo pos (starEach es X.env)).any (·.1)=false:=by rfl):PE X (.Call (.Name x p) (e::es) [] pos) (tCB r t):=by
 intro pins s σ H Q I h
 refine wpAny_Call_Name_kw (qhu I hg hm hv ?_ hn hdb)
 exact PyProof.Rows.callWith_type1 (thn (ha pos pins s σ H _ I h) λus s1 ⟨vs,H1,I1,r1,q1⟩=>hc pins s1 σ H1 vs us Q I1 r1 q1) he hpl
end
end L2
namespace HT
open PySem PyProof.Rows
section
open PySem.SeqAt
open PySem.AutoSeq1 (wpAny_loadPart')
open PySem.MeetsSeq PySem.MeetsSeq2 PySem.MeetsSeq3
end
section
variable {prog:Program} {w:World} {A:Around} {E:Value->Shared->Prop} {s:Shared}
theorem cat_tup{t b:Addr}{vs ws:List Value}{Q:Value->Shared->Prop}(ht:IsTup s.heap t vs.toArray)(hb:IsTup s.heap b ws.toArray)(hv:vs≠[])
  (h1:ws=[]->Q (.ref t) s) (h2:ws≠[]->Q (.ref s.heap.objs.size) { s with heap:=s.heap.push { cls:=.type "tuple",data:=.seq (vs++ws).toArray } })
  (hsz:vs.length+ws.length<=sizeLine):wpAny (model prog w) A (binaryOp .Add (.ref t) (.ref b)) Q E s:=by
 obtain⟨⟨cls,dd,data,sl⟩,ho,hc,n,hd⟩:=id ht
 obtain⟨⟨cls2,dd2,data2,sl2⟩,ho2,hc2,n2,hd2⟩:=id hb
 simp only at hc hd hc2 hd2
 subst hc hd hc2 hd2
 have e:vs.toArray++ws.toArray=(vs++ws).toArray:=by simp
 by_cases hw:ws=[]
 ·exact concat_meets ⟨_,ho,rfl⟩ ⟨_,ho2,rfl⟩ noFill_tuple_add seq_tuple_add PySem.F.slot_tuple_add PySem.F.entry_tuple_add (PySem.F.args_tuple_add_2 _ _)
   (tuple_addW1 t b vs.toArray ws.toArray n n2 dd dd2 sl sl2 (by simpa using hv) (by simp[hw])) ⟨ho,ho2,h1 hw⟩
 ·refine concat_meets ⟨_,ho,rfl⟩ ⟨_,ho2,rfl⟩ noFill_tuple_add seq_tuple_add PySem.F.slot_tuple_add PySem.F.entry_tuple_add (PySem.F.args_tuple_add_2 _ _)
   (tuple_addW2 t b vs.toArray ws.toArray n n2 dd dd2 sl sl2 (by simpa using hv) (by simpa using hw) (by rw[List.size_toArray,List.size_toArray];exact hsz)) ⟨ho,ho2,?_⟩
  rw[e]
  exact h2 hw
def sIx(n d:Nat):Option Int->Nat
|none=>d
|some v=>if v<0 then (v+(n:Int)).toNat else min v.toNat n
theorem sIx_none(n d:Nat):sIx n d none=d:=rfl
theorem sIx_nat(n d k:Nat):sIx n d (some (k:Int))=min k n:=by
 show (if (k:Int)<0 then ((k:Int)+(n:Int)).toNat else min (k:Int).toNat n)=min k n
 rw[if_neg (by lia),Int.toNat_natCast]
theorem sIx_le(n d:Nat)(hd:d<=n)(o:Option Int):sIx n d o<=n:=by
 cases o with
|none=>exact hd
|some v =>
  show (if v<0 then (v+(n:Int)).toNat else min v.toNat n)<=n
  by_cases hv:v<0
  ·rw[if_pos hv];lia
  ·rw[if_neg hv];exact Nat.min_le_right _ _
theorem qpp(v:Int)(n d:Nat):(if v<0 then max (v+(n:Int)) 0 else min v (n:Int))=((sIx n d (some v):Nat):Int):=by
 show (if v<0 then max (v+(n:Int)) 0 else min v (n:Int))=(((if v<0 then (v+(n:Int)).toNat else min v.toNat n):Nat):Int)
 by_cases hv:v<0
 ·simp only[if_pos hv];lia
 ·simp only[if_neg hv];lia
theorem qn3(lo hi:Option Int)(n:Nat):Builtin.Slice.sliceAdjust lo hi 1 (n:Int)=(((sIx n 0 lo:Nat):Int),((sIx n n hi:Nat):Int)):=by
 have h1:¬ ((1:Int)<0):=by lia
 unfold Builtin.Slice.sliceAdjust
 simp only[h1,if_false]
 refine Prod.ext ?_ ?_
 ·cases lo with
 |none=>rfl
 |some v=>exact qpp v n 0
 ·cases hi with
 |none=>rfl
 |some v=>exact qpp v n n
theorem qos(i j:Nat):Builtin.Slice.slicePlaces (i:Int) (j:Int) 1=j-i:=by
 unfold Builtin.Slice.slicePlaces
 have h1:(1:Int)>0:=by lia
 simp only[h1,if_true,Int.ediv_one]
 split<;>lia
theorem qh1{v:Value}{o:Option Int}{Q:Option Int->Shared->Prop}(p:IsPart v o)(h:Q o s):wpAny (model prog w) A (Builtin.Slice.slicePartIndex v) Q E s:=by
 cases p with
|none=>exact slicePart_none h
|int i t=>exact slicePart_int h
theorem qdv{sl:Addr}{vl vu:Value}{lo hi:Option Int}{n:Nat}{Q:Int×Int×Nat->Shared->Prop}(hs:s.heap.IsSliceOf sl vl vu .none)(pl:IsPart vl lo)(pu:IsPart vu hi)
  (h:Q (((sIx n 0 lo:Nat):Int),1,sIx n n hi-sIx n 0 lo) s):wpAny (model prog w) A (Builtin.Slice.sliceApplied (.ref sl) (pure (n:Int))) Q E s:=by
 obtain⟨os,hos,hcs,hds⟩:=id hs
 unfold Builtin.Slice.sliceApplied Builtin.Slice.sliceFields
 refine wpAny_bind (wpAny_bind (wpAny_field hos hds (x:=vl) rfl (wpAny_bind (wpAny_field hos hds (x:=vu) rfl (wpAny_bind (wpAny_field hos hds (x:=.none) rfl (wpAny_pure ?_)))))))
 refine wpAny_bind (slicePart_none ?_)
 show wpAny _ _ (if ((1:Int)==0)=true then _ else _) _ _ s
 rw[if_neg (by decide)]
 refine wpAny_bind (qh1 pl (wpAny_bind (qh1 pu (wpAny_bind (wpAny_pure ?_)))))
 show wpAny _ _ (match Builtin.Slice.sliceAdjust lo hi 1 (n:Int) with|(lo,hi)=>pure (lo,(1:Int),Builtin.Slice.slicePlaces lo hi 1)) _ _ s
 rw[qn3 lo hi n]
 show wpAny _ _ (pure (((sIx n 0 lo:Nat):Int),(1:Int),Builtin.Slice.slicePlaces ((sIx n 0 lo:Nat):Int) ((sIx n n hi:Nat):Int) 1)) _ _ s
 rw[qos]
 exact wpAny_pure h
theorem qtr(xs:Array Value)(i k:Nat):((List.range k).filterMap λ(m:Nat)=>xs[((i:Int)+(m:Int)*1).toNat]?).toArray=((xs.toList.drop i).take k).toArray:=by
 have e:(λ(m:Nat)=>xs[((i:Int)+(m:Int)*1).toNat]?)=λm=>xs[i+m]?:=by
  funext m
  have:((i:Int)+(m:Int)*1).toNat=i+m:=by lia
  rw[this]
 rw[e]
 have:=pick_run xs i k
 rw[List.filterMap_map] at this
 have e2:((λx=>xs[x]?) ∘ λx=>i+x)=λm=>xs[i+m]?:=rfl
 rw[e2] at this
 rw[this]
theorem getItem_tuple_cut{t sl:Addr}{items:Array Value}{vl vu:Value}{lo hi:Option Int}{Q:Value->Shared->Prop}(ht:IsTup s.heap t items)(hs:s.heap.IsSliceOf sl vl vu .none)(pl:IsPart vl lo)(pu:IsPart vu hi)
  (hw:¬ (sIx items.size 0 lo=0/\sIx items.size items.size hi=items.size))
  (h:Q (.ref s.heap.objs.size) { s with heap:=s.heap.push { cls:=.type "tuple",data:=.seq ((items.toList.drop (sIx items.size 0 lo)).take (sIx items.size items.size hi-sIx items.size 0 lo)).toArray } })
  (hsz:items.size<=sizeLine):wpAny (model prog w) A (getItem (.ref t) (.ref sl)) Q E s:=by
 have htake:sizeOk (.seq ((items.toList.drop (sIx items.size 0 lo)).take (sIx items.size items.size hi-sIx items.size 0 lo)).toArray):=by
  show ((items.toList.drop (sIx items.size 0 lo)).take (sIx items.size items.size hi-sIx items.size 0 lo)).toArray.size<=sizeLine
  rw[List.size_toArray,List.length_take,List.length_drop,Array.length_toList]
  lia
 have hj:sIx items.size items.size hi<=items.size:=sIx_le _ _ (Nat.le_refl _) hi
 obtain⟨os,hos,hcs,hds⟩:=id hs
 have hTs:s.TypeIs (.ref sl) "slice" := ⟨os,hos,hcs⟩
 unfold getItem
 try with_reducible refine wpAny_holding ?_
 first|refine wpAny_bind (wpAny_pure ?_)|skip
 refine wpAny_bind (wpAny_sequenceKey ht.typeIs (by decide) ?_)
 refine wpAny_bind (wpAny_callSpecial?_slot (name:=Str.ofString "__getitem__") ht.typeIs PyProof.Rows.slot_tuple_getitem
  (wpAny_call_entry PyProof.Rows.slot_tuple_getitem ht.typeIs entry_tuple_getitem ?_ (args_tuple_getitem _ _)))
 show wpAny _ _ (Builtin.Tuple.tupleItemsOf (.ref t) >>= _) _ _ s
 refine wpAny_bind (tupleItemsOf_ ht ?_)
 refine wpAny_bind (wpAny_typeOf hTs ?_)
 rw[if_pos (by decide)]
 refine wpAny_bind (qdv hs pl pu ?_)
 have hno:¬ ((((sIx items.size 0 lo:Nat):Int)==0&&(1:Int)==1&&(sIx items.size items.size hi-sIx items.size 0 lo)==items.size)=true):=by
  intro q
  rw[Bool.and_eq_true,Bool.and_eq_true] at q
  have q1:((sIx items.size 0 lo:Nat):Int)=0:=eq_of_beq q.1.1
  have q2:sIx items.size items.size hi-sIx items.size 0 lo=items.size:=eq_of_beq q.2
  exact hw ⟨by lia,by lia⟩
 show wpAny _ _ (if (((sIx items.size 0 lo:Nat):Int)==0&&(1:Int)==1&&(sIx items.size items.size hi-sIx items.size 0 lo)==items.size)=true then _ else _) _ _ s
 rw[if_neg hno,qtr]
 first
 |exact wpAny_bind (m:=Builtin.Tuple.tupleExact _) (wpAny_newObj_type (wpAny_pure ⟨_,rfl,wpAny_pure h⟩) htake)
 |exact wpAny_bind (m:=Builtin.Tuple.tupleExact _) (wpAny_newObj_type (wpAny_bind (wpAny_pure (wpAny_pure ⟨_,rfl,wpAny_pure h⟩))) htake)
 |exact wpAny_bind (wpAny_bind (m:=Builtin.Tuple.tupleExact _) (wpAny_newObj_type (wpAny_pure (wpAny_pure ⟨_,rfl,wpAny_pure h⟩)) htake))
 |exact wpAny_bind (wpAny_bind (m:=Builtin.Tuple.tupleExact _) (wpAny_newObj_type (wpAny_pure ⟨_,rfl,wpAny_pure h⟩) htake))
end
end HT
namespace L2
open PySem PySem.Spec PyProof.Rows
abbrev TO:=St->Hp->(Option Int->Hp->Prop)->Prop
def PO(X:Cx)(e:Option Expr)(t:TO):Prop :=
 ∀(pins:List (Addr×Obj)) (s:Shared) (σ:St) (H:Hp) (Q:Option Int->Hp->Prop),Inv X pins σ H s->t σ H Q ->
  wpAny (model X.prog X.w) X.A (evalPart e X.env) (λu s'=>∃o H',Inv X pins σ H' s'/\IsPart u o/\Q o H') X.xe s
def qrv:TO:=λ_ H Q=>Q none H
def q1e(t:TE):TO:=λσ H Q=>t σ H λx H1=>∃i,x=.int i/\Q (some i) H1
section
variable {X:Cx} {e:Expr} {te:TE} {lo hi:Option Expr} {tl th:TO} {pos p2:Pos}
theorem qxg:PO X none qrv:=by
 intro pins s σ H Q I h
 rw[evalPart_none]
 exact wpAny_pure ⟨none,H,I,.none,h⟩
theorem qxh(h:PE X e te):PO X (some e) (q1e te):=by
 intro pins s σ H Q I hw
 rw[evalPart_some]
 refine thn (h pins s σ H _ I hw) λu s1 ⟨x,H1,I1,r1,q1⟩=>?_
 obtain⟨i,rfl,q⟩:=q1
 obtain⟨t,rfl⟩:=r1
 exact⟨some i,H1,I1,.int i t,q⟩
def SlR(X:Cx)(r:V->Option Int->Option Int->Hp->VK->Prop):Prop :=
 ∀(pins:List (Addr×Obj)) (s:Shared) (σ:St) (H:Hp) (x:V) (v vl vu:Value) (lo hi:Option Int) (sl:Addr) (Q:VK),Inv X pins σ H s->RelV x v->s.heap.IsSliceOf sl vl vu .none->IsPart vl lo->IsPart vu hi->r x lo hi H Q ->
  ∃T id,typeLookup (.type T) "__getitem__" = pure (some (.builtin id))/\s.TypeIs v T/\wpAny (model X.prog X.w) X.A (getItem v (.ref sl)) (EP X pins σ Q) X.xe s
theorem SlR.or{r r':V->Option Int->Option Int->Hp->VK->Prop}(h:SlR X r)(h':SlR X r'):SlR X (λx lo hi H Q=>r x lo hi H Q\/r' x lo hi H Q):=by
 intro pins s σ H x v vl vu lo hi sl Q I rx hs pl pu q
 rcases q with q|q
 ·exact h pins s σ H x v vl vu lo hi sl Q I rx hs pl pu q
 ·exact h' pins s σ H x v vl vu lo hi sl Q I rx hs pl pu q
def tSl(r:V->Option Int->Option Int->Hp->VK->Prop)(te:TE)(tl th:TO):TE:=λσ H Q=>te σ H λx H1=>tl σ H1 λl H2=>th σ H2 λu H3=>r x l u H3 Q
theorem qtp{r:V->Option Int->Option Int->Hp->VK->Prop}(hr:SlR X r)(he:PE X e te)(hl:PO X lo tl)(hu:PO X hi th):PE X (.Subscript e (.Slice lo hi none p2) pos) (tSl r te tl th):=by
 intro pins s σ H Q I h
 refine Subscript_ (thn (he pins s σ H _ I h) λv s1 ⟨x,H1,I1,r1,q1⟩=>?_)
 refine wpAny_Slice (thn (hl pins s1 σ H1 _ I1 q1) λvl s2 ⟨l,H2,I2,pl,q2⟩=>thn (hu pins s2 σ H2 _ I2 q2) λvu s3 ⟨u,H3,I3,pu,q3⟩=>?_)
 rw[evalPart_none]
 refine wpAny_pure ?_
 have I4:Inv X pins σ H3 { s3 with heap:=s3.heap.push { cls:=.type "slice",data:=.fields #[vl,vu,.none] } }:=I3.kept (t':=s3.toks) λb ob q=>Heap.get?_push_of_some _ q
 obtain⟨T,id,hT,ht,hg⟩:=hr pins { s3 with heap:=s3.heap.push { cls:=.type "slice",data:=.fields #[vl,vu,.none] } } σ H3 x v vl vu l u s3.heap.objs.size Q I4 r1 (Heap.IsSliceOf.new ..) pl pu q3
 show wpAny (model X.prog X.w) X.A (subscriptTail e (.Slice lo hi none p2) v (.ref s3.heap.objs.size)) (EP X pins σ Q) X.xe { s3 with heap:=s3.heap.push { cls:=.type "slice",data:=.fields #[vl,vu,.none] } }
 exact tail_any (ops:=[.ref s3.heap.objs.size,v]) ht hT hg (by with_unfolding_all rfl)
def cutV(xs:List V)(lo hi:Option Int):List V:=(xs.drop (HT.sIx xs.length 0 lo)).take (HT.sIx xs.length xs.length hi-HT.sIx xs.length 0 lo)
theorem qgf(xs:List V)(lo hi:Option Int):(cutV xs lo hi).length<=xs.length:=by
 unfold cutV
 rw[List.length_take,List.length_drop]
 lia
def rSlT(K:PySem.W.Frag):V->Option Int->Option Int->Hp->VK->Prop:=λx lo hi H Q=>∃a xs,x=.ref a/\SqT K H a xs /\
 ¬ (HT.sIx xs.length 0 lo=0/\HT.sIx xs.length xs.length hi=xs.length)/\∀p,H p=none->Q (.ref p) (upd H p (.tup (cutV xs lo hi)))
theorem q07:SlR X (rSlT X.K):=by
 intro pins s σ H x v vl vu lo hi sl Q I rx hs pl pu h
 obtain⟨a,xs,rfl,hx,hw,q⟩:=h
 cases rx
 obtain⟨its,r,ht,hz⟩:=I.tuple hx
 have hlen:its.toArray.size=xs.length:=by rw[List.size_toArray];exact r.length.symm
 refine⟨"tuple",_,PyProof.Rows.slot_tuple_getitem.lookup,ht.typeIs,?_⟩
 refine HT.getItem_tuple_cut ht hs pl pu (by rw[hlen];exact hw) ?_ (by rw[hlen];exact hz)
 rw[hlen]
 refine⟨.ref s.heap.objs.size,_,I.laid (t':=s.toks) (o:=.tup (cutV xs lo hi)) (λb ob q=>Heap.get?_push_of_some _ q) (Nat.le_refl _) ?_,rfl,q _ (I.hok.fresh (Nat.le_refl _))⟩
 exact⟨Nat.le_trans (qgf xs lo hi) hz,_,(r.drop (HT.sIx xs.length 0 lo)).take (HT.sIx xs.length xs.length hi-HT.sIx xs.length 0 lo),IsTup.new _ _⟩
def q2p(K:PySem.W.Frag):R2:=λx y H Q=>∃a b xs ys,x=.ref a/\y=.ref b/\SqT K H a xs/\SqT K H b ys/\xs≠[]/\xs.length+ys.length<=sizeLine /\
 (ys=[]->Q (.ref a) H)/\(ys≠[]->∀p,H p=none->Q (.ref p) (upd H p (.tup (xs++ys))))
theorem Vals.nil_iff{xs:List V}{us:List Value}(r:Vals xs us):us=[]↔xs=[]:=by
 cases r with
|nil=>simp
|cons _ _=>simp
theorem qw0:OpR X (binaryOp .Add) (q2p X.K):=by
 intro pins s σ H x y v u Q I rx ry h
 obtain⟨a,b,xs,ys,rfl,rfl,ha,hb,hx,hz,q1,q2⟩:=h
 cases rx
 cases ry
 obtain⟨its,r1,p1,_⟩:=I.tuple ha
 obtain⟨its2,r2,p2,_⟩:=I.tuple hb
 refine HT.cat_tup p1 p2 (λz=>hx (r1.nil_iff.mp z)) (λz=>⟨.ref a,H,I,rfl,q1 (r2.nil_iff.mp z)⟩) (λz=>?_) (by rw[←r1.length,←r2.length];exact hz)
 refine⟨.ref s.heap.objs.size,_,I.laid (t':=s.toks) (o:=.tup (xs++ys)) (λb ob q=>Heap.get?_push_of_some _ q) (Nat.le_refl _) ?_,rfl,q2 (λw=>z (r2.nil_iff.mpr w)) _ (I.hok.fresh (Nat.le_refl _))⟩
 exact⟨by rw[List.length_append];exact hz,_,r1.append r2,IsTup.new _ _⟩
end
end L2
namespace L2
open PySem PySem.Spec PyProof.Rows
def ixN(n:Nat)(i:Int):Option Nat:=if 0<=i then (if i<n then some i.toNat else none) else if -(n:Int)<=i then some (i+n).toNat else none
def atI{α:Type}(xs:List α)(i:Int):Option α:=(ixN xs.length i).bind λj=>xs[j]?
theorem qwj{n:Nat}{i:Int}{j:Nat}(h:ixN n i=some j):seqIndex? i n=some j/\j<n/\-(n:Int)<=i/\i<n:=by
 unfold ixN at h
 by_cases h0:0<=i
 ·rw[if_pos h0] at h
  by_cases h1:i<n
  ·rw[if_pos h1] at h
   have e:i.toNat=j:=Option.some.inj h
   exact⟨by rw[seqIndex_of h0 h1,e],by lia,by lia,h1⟩
  ·rw[if_neg h1] at h;cases h
 ·rw[if_neg h0] at h
  by_cases h1:-(n:Int)<=i
  ·rw[if_pos h1] at h
   have e:(i+n).toNat=j:=Option.some.inj h
   exact⟨by rw[seqIndex_neg (by lia) h1,e],by lia,h1,by lia⟩
  ·rw[if_neg h1] at h;cases h
theorem qk6{α:Type}{xs:List α}{i:Int}{v:α}(h:atI xs i=some v):∃j,seqIndex? i xs.length=some j/\xs[j]?=some v/\j<xs.length/\-(xs.length:Int)<=i/\i<xs.length:=by
 unfold atI at h
 cases e:ixN xs.length i with
|none=>rw[e] at h;cases h
|some j =>
  rw[e] at h
  obtain⟨h1,h2,h3,h4⟩:=qwj e
  exact⟨j,h1,h,h2,h3,h4⟩
theorem qk7{α:Type}{xs:List α}{j:Nat}{v:α}(h:xs[j]?=some v):atI xs (j:Int)=some v:=by
 have hj:j<xs.length:=(List.getElem?_eq_some_iff.mp h).1
 have e:ixN xs.length (j:Int)=some j:=by
  unfold ixN
  rw[if_pos (by lia),if_pos (by lia)];simp
 unfold atI;rw[e];exact h
def qk5(b:Expr):Prop:=∀o i,subscripted b false o i=operate [o,i] (getItem o i)
def IxR(X:Cx)(r:R2):Prop :=
 ∀(value slice:Expr) (pins:List (Addr×Obj)) (s:Shared) (σ:St) (H:Hp) (x y:V) (v u:Value) (Q:VK),Inv X pins σ H s->RelV x v->RelV y u->r x y H Q ->
  subscripted slice false v u=operate [v,u] (getItem v u)->wpAny (model X.prog X.w) X.A (subscriptTail value slice v u) (EP X pins σ Q) X.xe s
def MtR(X:Cx)(id:String)(r:V->List V->Hp->VK->Prop):Prop :=
 ∀(pins:List (Addr×Obj)) (s:Shared) (σ:St) (H:Hp) (x:V) (xs:List V) (v:Value) (us:List Value) (Q:VK),Inv X pins σ H s->RelV x v->Vals xs us->r x xs H Q ->
  wpAny (model X.prog X.w) X.A (call (.builtin id) (v::us)) (EP X pins σ Q) X.xe s
section
variable {X:Cx} {a b:Expr} {ta tb:TE} {pos:Pos}
theorem IxR.or{r r':R2}(h:IxR X r)(h':IxR X r'):IxR X (λx y H Q=>r x y H Q\/r' x y H Q):=by
 intro value slice pins s σ H x y v u Q I rx ry q hs
 rcases q with q|q
 ·exact h value slice pins s σ H x y v u Q I rx ry q hs
 ·exact h' value slice pins s σ H x y v u Q I rx ry q hs
theorem MtR.or{id:String}{r r':V->List V->Hp->VK->Prop}(h:MtR X id r)(h':MtR X id r'):MtR X id (λx xs H Q=>r x xs H Q\/r' x xs H Q):=by
 intro pins s σ H x xs v us Q I rx rs q
 rcases q with q|q
 ·exact h pins s σ H x xs v us Q I rx rs q
 ·exact h' pins s σ H x xs v us Q I rx rs q
theorem q2c{r:R2}(hr:IxR X r)(ha:PE X a ta)(hb:PE X b tb)(hs:qk5 b):PE X (.Subscript a b pos) (tOp r ta tb):=by
 intro pins s σ H Q I h
 exact Subscript_ (binT ha hb I h λv u s2 x y H2 I2 rx ry q=>hr a b pins s2 σ H2 x y v u Q I2 rx ry q (hs _ _))
def rIxL(K:PySem.W.Frag):R2:=λx y H Q=>∃p xs i v,x=.ref p/\y=.int i/\SqL K H p xs/\atI xs i=some v/\Q v H
def rIxT(K:PySem.W.Frag):R2:=λx y H Q=>∃p xs i v,x=.ref p/\y=.int i/\SqT K H p xs/\atI xs i=some v/\Q v H
def rIxS:R2:=λx y H Q=>∃z i c,x=.str z/\y=.int i/\z.length<=sizeLine/\atI z.cps.toList i=some c/\Q (.str ⟨#[c]⟩) H
theorem qwk:IxR X (rIxL X.K):=by
 intro value slice pins s σ H x y v u Q I rx ry h hs
 obtain⟨p,xs,i,z,rfl,rfl,hq,he,q⟩:=h
 cases rx
 obtain⟨t,rfl⟩:=ry
 obtain⟨its,r,pl,hz⟩:=I.list hq
 obtain⟨j,h1,h2,h3,h4,h5⟩:=qk6 he
 obtain⟨w,ew,rw'⟩:=r.get h2
 have hl:=r.length
 have hn:=qj9
 have fin:EP X pins σ Q w s:=⟨z,H,I,rw',q⟩
 by_cases h0:0<=i
 ·have hj:i.toNat=j:=by
   rw[seqIndex_of h0 h5] at h1
   exact Option.some.inj h1
  exact item_listR pl.isList h0 (by lia) (by rw[hj];simpa using ew) fin hs
 ·have hj:(i+(its.toArray.size:Int)).toNat=j:=by
   rw[seqIndex_neg (by lia) h4] at h1
   rw[List.size_toArray,←hl]
   exact Option.some.inj h1
  exact subscriptTail_builtinR (x:=w) pl.isList.typeIs slot_list_getitem.lookup
   (wpAny_getItem_list_neg (Q:=λr s'=>r=w/\EP X pins σ Q r s') pl.isList (by lia) (by rw[List.size_toArray]<;>lia) (by lia) (by rw[hj];simpa using ew) ⟨rfl,fin⟩) hs
theorem ix_tup:IxR X (rIxT X.K):=by
 intro value slice pins s σ H x y v u Q I rx ry h hs
 obtain⟨p,xs,i,z,rfl,rfl,hq,he,q⟩:=h
 cases rx
 obtain⟨t,rfl⟩:=ry
 obtain⟨its,r,pl,hz⟩:=I.tuple hq
 obtain⟨j,h1,h2,h3,h4,h5⟩:=qk6 he
 obtain⟨w,ew,rw'⟩:=r.get h2
 have hl:=r.length
 have hn:=qj9
 have fin:EP X pins σ Q w s:=⟨z,H,I,rw',q⟩
 exact subscriptTail_builtinR (x:=w) pl.typeIs slot_tuple_getitem.lookup
  (getItem_tuple (j:=j) (Q:=λr s'=>r=w/\EP X pins σ Q r s') pl (by lia) (by lia) (by rw[List.size_toArray,←hl];exact h1) (by simpa using ew) ⟨rfl,fin⟩) hs
theorem ix_str:IxR X rIxS:=by
 intro value slice pins s σ H x y v u Q I rx ry h hs
 obtain⟨z,i,c,rfl,rfl,hz,he,q⟩:=h
 obtain⟨t,rfl⟩:=rx
 obtain⟨t',rfl⟩:=ry
 obtain⟨j,h1,h2,h3,h4,h5⟩:=qk6 he
 have hl:z.cps.toList.length=z.length:=by simp[Str.length]
 rw[hl] at h1 h4 h5
 have hn:=qj9
 exact tail_any (typeIs_str s z t) slot_str_getitem.lookup (getItem_str (c:=c) (by
  have e1:decide (i < -(2 ^ 63:Int))=false:=decide_eq_false (by lia)
  have e2:decide (i≥2 ^ 63)=false:=decide_eq_false (by lia)
  rw[e1,e2,Bool.or_false]) (by rw[h1];simpa using h2) ⟨.str ⟨#[c]⟩,H,I.tok _,⟨_,rfl⟩,q⟩) hs
theorem qko(lo hi:Option Int)(n:Nat):(sliceBounds lo hi none n).1=((HT.sIx n 0 lo:Nat):Int)/\(sliceBounds lo hi none n).2.1=((HT.sIx n n hi:Nat):Int)/\(sliceBounds lo hi none n).2.2=1:=by
 refine⟨?_,?_,rfl⟩
 ·cases lo with
 |none=>simp[sliceBounds,HT.sIx]
 |some i =>
   simp only[sliceBounds,HT.sIx,Option.getD_none,show (1:Int)>0 by decide,if_true]
   by_cases h:i<0
   ·simp only[h,if_true]<;>lia
   ·simp only[h,if_false]<;>lia
 ·cases hi with
 |none=>simp[sliceBounds,HT.sIx]
 |some i =>
   simp only[sliceBounds,HT.sIx,Option.getD_none,show (1:Int)>0 by decide,if_true]
   by_cases h:i<0
   ·simp only[h,if_true]<;>lia
   ·simp only[h,if_false]<;>lia
theorem qi2(its:List Value)(lo hi:Option Int):slicePick its.toArray lo hi none=((its.drop (HT.sIx its.length 0 lo)).take (HT.sIx its.length its.length hi-HT.sIx its.length 0 lo)).toArray:=by
 obtain⟨h1,h2,h3⟩:=qko lo hi its.toArray.size
 unfold slicePick
 rw[h1,h2,h3]
 simp only[sliceRange_one,pick_run,List.size_toArray]<;>rfl
def rSlL(K:PySem.W.Frag):V->Option Int->Option Int->Hp->VK->Prop:=λx lo hi H Q=>∃a xs,x=.ref a/\SqL K H a xs/\∀p,H p=none->Q (.ref p) (upd H p (.lst (cutV xs lo hi)))
theorem qyf:SlR X (rSlL X.K):=by
 intro pins s σ H x v vl vu lo hi sl Q I rx hs pl pu h
 obtain⟨a,xs,rfl,hx,q⟩:=h
 cases rx
 obtain⟨its,r,ht,hz⟩:=I.list hx
 have hlen:=r.length
 refine⟨"list",_,slot_list_getitem.lookup,ht.isList.typeIs,?_⟩
 refine wpAny_getItem_list_slice ht.isList hs pl pu .none (by simp) ?_ (by rw[List.size_toArray]<;>lia)
 rw[qi2,←hlen]
 refine⟨.ref s.heap.objs.size,_,I.laid (t':=s.toks) (o:=.lst (cutV xs lo hi)) (λb ob q=>Heap.get?_push_of_some _ q) (Nat.le_refl _) ?_,rfl,q _ (I.hok.fresh (Nat.le_refl _))⟩
 exact⟨Nat.le_trans (qgf xs lo hi) hz,_,0,(r.drop (HT.sIx xs.length 0 lo)).take (HT.sIx xs.length xs.length hi-HT.sIx xs.length 0 lo),Heap.get?_push_size _ rfl⟩
def qf2:V->Bool
|.non=>true
|.bl _=>true
|.int _=>true
|.str _=>true
|_=>false
def eqV:V->V->Bool
|.non,.non=>true
|.bl a,.bl b=>a==b
|.bl a,.int b=>(if a then 1 else 0)==b
|.int a,.bl b=>a==(if b then 1 else 0)
|.int a,.int b=>a==b
|.str a,.str b=>a==b
|_,_=>false
theorem qut{A:Around}{s:Shared}{y x:V}{u v:Value}(ry:RelV y u)(rx:RelV x v)(fy:qf2 y=true)(fx:qf2 x=true):SeqAt.EqAt A s u v (eqV y x):=by
 cases y with
|non =>
  cases ry
  cases x with
 |non=>cases rx;exact SeqAt.EqAt.same _
 |bl b=>cases rx;exact SeqAt.EqAt.none_bool b
 |int b=>obtain⟨t,rfl⟩:=rx;exact SeqAt.EqAt.none_int b t
 |str b=>obtain⟨t,rfl⟩:=rx;exact SeqAt.EqAt.none_str b t
 |_=>exact absurd (show false=true from fx) Bool.false_ne_true
|bl a =>
  cases ry
  cases x with
 |non=>cases rx;exact SeqAt.EqAt.bool_none a
 |bl b=>cases rx;exact SeqAt.EqAt.bool_bool a b
 |int b=>obtain⟨t,rfl⟩:=rx;exact SeqAt.EqAt.bool_int a b t
 |str b=>obtain⟨t,rfl⟩:=rx;exact SeqAt.EqAt.bool_str a b t
 |_=>exact absurd (show false=true from fx) Bool.false_ne_true
|int a =>
  obtain⟨t',rfl⟩:=ry
  cases x with
 |non=>cases rx;exact SeqAt.EqAt.int_none a t'
 |bl b=>cases rx;exact SeqAt.EqAt.int_bool a t' b
 |int b=>obtain⟨t,rfl⟩:=rx;exact SeqAt.EqAt.int_int a t' b t
 |str b=>obtain⟨t,rfl⟩:=rx;exact SeqAt.EqAt.int_str a t' b t
 |_=>exact absurd (show false=true from fx) Bool.false_ne_true
|str a =>
  obtain⟨t',rfl⟩:=ry
  cases x with
 |non=>cases rx;exact SeqAt.EqAt.str_none a t'
 |bl b=>cases rx;exact SeqAt.EqAt.str_bool a t' b
 |int b=>obtain⟨t,rfl⟩:=rx;exact SeqAt.EqAt.str_int a t' b t
 |str b=>obtain⟨t,rfl⟩:=rx;exact SeqAt.EqAt.str_str a t' b t
 |_=>exact absurd (show false=true from fx) Bool.false_ne_true
|_=>exact absurd (show false=true from fy) Bool.false_ne_true
def eqU(x:V)(u:Value):Bool:=match u with
|.none=>eqV .non x
|.bool b=>eqV (.bl b) x
|.int i _=>eqV (.int i) x
|.str z _=>eqV (.str z) x
|_=>false
theorem quv{x y:V}{u:Value}(r:RelV y u)(f:qf2 y=true):eqU x u=eqV y x:=by
 cases y with
|non=>cases r;rfl
|bl b=>cases r;rfl
|int i=>obtain⟨t,rfl⟩:=r;rfl
|str z=>obtain⟨t,rfl⟩:=r;rfl
|_=>exact absurd (show false=true from f) Bool.false_ne_true
theorem qf5{x:V}:∀ {xs:List V} {us:List Value},Vals xs us->xs.all qf2=true->us.any (eqU x)=xs.any λy=>eqV y x
|_,_,.nil,_=>rfl
|y::xs,u::us,.cons r t,f=>by
  rw[List.all_cons,Bool.and_eq_true] at f
  rw[List.any_cons,List.any_cons,quv r f.1,qf5 t f.2]
theorem qe9{A:Around}{s:Shared}{x:V}{v:Value}(rx:RelV x v)(fx:qf2 x=true):∀ {xs:List V} {us:List Value},Vals xs us->xs.all qf2=true->∀u∈us,SeqAt.EqAt A s u v (eqU x u)
|_,_,.nil,_=>λu hu=>by cases hu
|y::xs,u::us,.cons r t,f=>λu' hu=>by
  rw[List.all_cons,Bool.and_eq_true] at f
  rcases List.mem_cons.mp hu with rfl|hu
  ·rw[quv r f.1];exact qut r rx f.1 fx
  ·exact qe9 rx fx t f.2 u' hu
def inV(x:V)(xs:List V):Bool:=xs.any λy=>eqV y x
def rIn(K:PySem.W.Frag)(neg:Bool):R2:=λx y H Q=>∃p xs,y=.ref p/\(SqL K H p xs\/SqT K H p xs)/\qf2 x=true/\xs.all qf2=true/\Q (.bl (if neg then !inV x xs else inV x xs)) H
theorem qq7:OpR X (compareOp .In) (rIn X.K false):=by
 intro pins s σ H x y v u Q I rx ry h
 obtain⟨p,xs,rfl,hq,fx,fs,q⟩:=h
 cases ry
 rcases hq with hq|hq
 ·obtain⟨its,r,pl,hz⟩:=I.list hq
  refine SeqAt.in_listAt (eqU x) pl.isList (λw hw=>qe9 rx fx r fs w (by simpa using hw)) ⟨.bl _,H,I,rfl,?_⟩
  rw[show its.toArray.any (eqU x)=its.any (eqU x) by simp,qf5 r fs]
  exact q
 ·obtain⟨its,r,pl,hz⟩:=I.tuple hq
  refine SeqAt.in_tupleAt (eqU x) pl (λw hw=>qe9 rx fx r fs w (by simpa using hw)) ⟨.bl _,H,I,rfl,?_⟩
  rw[show its.toArray.any (eqU x)=its.any (eqU x) by simp,qf5 r fs]
  exact q
theorem qkf:OpR X (compareOp .NotIn) (rIn X.K true):=by
 intro pins s σ H x y v u Q I rx ry h
 obtain⟨p,xs,rfl,hq,fx,fs,q⟩:=h
 cases ry
 rcases hq with hq|hq
 ·obtain⟨its,r,pl,hz⟩:=I.list hq
  refine SeqAt.notIn_listAt (eqU x) pl.isList (λw hw=>qe9 rx fx r fs w (by simpa using hw)) ⟨.bl _,H,I,rfl,?_⟩
  rw[show its.toArray.any (eqU x)=its.any (eqU x) by simp,qf5 r fs]
  exact q
 ·obtain⟨its,r,pl,hz⟩:=I.tuple hq
  refine SeqAt.notIn_tupleAt (eqU x) pl (λw hw=>qe9 rx fx r fs w (by simpa using hw)) ⟨.bl _,H,I,rfl,?_⟩
  rw[show its.toArray.any (eqU x)=its.any (eqU x) by simp,qf5 r fs]
  exact q
theorem qjo:CallR X (.builtin "len") (λxs H Q=>∃p ys,xs=[.ref p]/\(SqL X.K H p ys\/SqT X.K H p ys)/\Q (.int ys.length) H):=by
 intro pins s σ H xs us Q I r h
 obtain⟨p,ys,rfl,hq,q⟩:=h
 obtain⟨u,rfl,rx⟩:=vals1 r
 cases rx
 have hn:=qj9
 rcases hq with hq|hq
 ·obtain⟨its,r',pl,hz⟩:=I.list hq
  have hlen:=r'.length
  exact Calls.call_len_list pl.isList (by simp only[List.size_toArray]<;>lia) ⟨.int ys.length,H,I.tok _,⟨s.toks+1,by rw[List.size_toArray,hlen]⟩,q⟩
 ·obtain⟨its,r',pl,hz⟩:=I.tuple hq
  have hlen:=r'.length
  exact len_tuple pl (by simp only[List.size_toArray]<;>lia) ⟨.int ys.length,H,I.tok _,⟨s.toks+1,by rw[List.size_toArray,hlen]⟩,q⟩
theorem call_len_str:CallR X (.builtin "len") (λxs H Q=>∃z,xs=[.str z]/\z.length<=sizeLine/\Q (.int z.length) H):=by
 intro pins s σ H xs us Q I r h
 obtain⟨z,rfl,hz,q⟩:=h
 obtain⟨u,rfl,t,rfl⟩:=vals1 r
 have hn:=qj9
 exact len_str (by lia) ⟨.int z.length,H,I.tok _,⟨_,rfl⟩,q⟩
theorem CallR.or{f:Value}{r r':List V->Hp->VK->Prop}(h:CallR X f r)(h':CallR X f r'):CallR X f (λxs H Q=>r xs H Q\/r' xs H Q):=by
 intro pins s σ H xs us Q I rs q
 rcases q with q|q
 ·exact h pins s σ H xs us Q I rs q
 ·exact h' pins s σ H xs us Q I rs q
theorem qjq:CallR X (.type "list") (λxs H Q=>∃p ys,xs=[.ref p]/\(SqL X.K H p ys\/SqT X.K H p ys)/\∀l,H l=none->Q (.ref l) (upd H l (.lst ys))):=by
 intro pins s σ H xs us Q I r h
 obtain⟨p,ys,rfl,hq,q⟩:=h
 obtain⟨u,rfl,rx⟩:=vals1 r
 cases rx
 have fin:∀(its:List Value),Vals ys its->ys.length<=sizeLine->∀(h':Heap) (c':Nat),(∀b o',s.heap.get? b=some o'->h'.get? b=some o') ->
   h'.get? s.heap.objs.size=some { cls:=.type "list",dict:=none,data:=.seq its.toArray c',slots:=#[] }->EP X pins σ Q (.ref s.heap.objs.size) { s with heap:=h' }:=λits r' hz h' c' kp e =>
  ⟨.ref s.heap.objs.size,_,I.laid (t':=s.toks) kp (Nat.le_refl _) (show ObjOk X.prog X.w _ h' _ (.lst ys) from ⟨hz,its,c',r',e⟩),rfl,q _ (I.hok.fresh (Nat.le_refl _))⟩
 rcases hq with hq|hq
 ·obtain⟨its,r',pl,hz⟩:=I.list hq
  have hlen:=r'.length
  obtain⟨o,ho,hc,n,hd⟩:=pl.isList
  exact call_list_seq p (.inl rfl) ho hc hd (λh' c' kp e=>fin its r' hz h' c' kp e) (by simp only[List.size_toArray]<;>lia)
 ·obtain⟨its,r',pl,hz⟩:=I.tuple hq
  have hlen:=r'.length
  obtain⟨o,ho,hc,n,hd⟩:=pl
  exact call_list_seq p (.inr rfl) ho hc hd (λh' c' kp e=>fin its r' hz h' c' kp e) (by simp only[List.size_toArray]<;>lia)
def tyV(K:PySem.W.Frag)(T:String)(x:V)(H:Hp):Prop:=match x with
|.str _=>T="str"
|.int _=>T="int"
|.ref p=>(T="list" /\ ∃xs,SqL K H p xs)\/(T="tuple" /\ ∃o,K.lookup p=some o/\o.cls=.type "tuple" /\ o.dict=none) \/
   (T="dict" /\ ((∃kvs,H p=some (.dK kvs))\/∃kvs,H p=some (.dT kvs)))\/(T="set" /\ ∃S n,H p=some (.set S n))
|_=>False
theorem q1h{pins:List (Addr×Obj)}{σ:St}{H:Hp}{s:Shared}{T:String}{x:V}{v:Value}(I:Inv X pins σ H s)(r:RelV x v)(ty:tyV X.K T x H) :
  s.TypeIs v T/\∀a,v=.ref a->∃ob,s.heap.get? a=some ob/\ob.dict=none:=by
 cases x with
|str z =>
  obtain⟨t,rfl⟩:=r
  cases (show T="str" from ty)
  exact⟨typeIs_str s z t,λ_ e=>nomatch e⟩
|int i =>
  obtain⟨t,rfl⟩:=r
  cases (show T="int" from ty)
  exact⟨typeIs_int s i t,λ_ e=>nomatch e⟩
|ref p =>
  cases r
  rcases ty with ⟨rfl,xs,hq⟩|⟨rfl,o,hk,hc,hd⟩|⟨rfl,hk⟩|⟨rfl,S,n,hk⟩
  ·obtain⟨its,_,pl,_⟩:=I.list hq
   refine⟨pl.isList.typeIs,λa e=>?_⟩
   cases e
   obtain⟨o,n,e,c,hd,_⟩:=pl
   exact⟨o,e,hd⟩
  ·refine⟨⟨o,I.kIn p o hk,hc⟩,λa e=>?_⟩
   cases e
   exact⟨o,I.kIn _ o hk,hd⟩
  ·have z:∃o,s.heap.get? p=some o/\o.ExactDict:=by
    rcases hk with ⟨kvs,hk⟩|⟨kvs,hk⟩
    ·obtain⟨_,_,_,_,o,_,_,e,ex,_⟩:=I.hok p _ hk
     exact⟨o,e,ex⟩
    ·obtain⟨_,_,_,_,o,_,_,e,ex,_⟩:=I.hok p _ hk
     exact⟨o,e,ex⟩
   obtain⟨o,e,ex⟩:=z
   refine⟨⟨o,e,ex.1⟩,λa e2=>?_⟩
   cases e2
   exact⟨o,e,ex.2.1⟩
  ·obtain⟨o,_,_,_,e,ex,_⟩:=I.hok p _ hk
   refine⟨⟨o,e,ex.1⟩,λa e2=>?_⟩
   cases e2
   exact⟨o,e,ex.2.1⟩
|_=>exact False.elim ty
def tBM(K:PySem.W.Frag)(T:String)(r:V->List V->Hp->VK->Prop)(to:TE)(t:TA):TE:=λσ H Q=>to σ H λx H1=>tyV K T x H1/\t σ H1 λxs H2=>r x xs H2 Q
variable {o e:Expr} {es:List Expr} {to:TE} {t:TA} {name:Str} {apos cpos:Pos} {T id:String} {r:V->List V->Hp->VK->Prop}
theorem q2b(pa:PlainAttrs T)(slot:Slot T name id)(hty:typeOf (.builtin id)=pure (.type "method_descriptor"))(hm:MtR X id r)(ho:PE X o to)(ha:PA X (e::es) t)
  (hbase:attributeBase o name X.env (eval o X.env)=eval o X.env:=by rfl)
  (hfew:((backTo cpos (starEach (e::es) X.env)).all (λx=>!x.1)&&(backToKw cpos (keywordEach [] X.env)).all (λx=>x.1.isSome)
   && decide ((e::es).length+([]:List Keyword).length+(if ([]:List Keyword).isEmpty then 0 else 1)<30))=true:=by rfl)
  (hline:(apos.endLine==cpos.line)=true:=by rfl) (hs:starEach (e::es) X.env=(false,eval e X.env)::starEach es X.env:=by rfl) (hplain:(backTo cpos (starEach es X.env)).any (·.1)=false:=by rfl) :
  PE X (.Call (.Attribute o name apos) (e::es) [] cpos) (tBM X.K T r to t):=by
 intro pins s σ H Q I h
 refine wpAny_Call_method_late hbase hfew hline rfl (thn (ho pins s σ H _ I h) λv s1 ⟨x,H1,I1,r1,ty,q1⟩=>?_)
 obtain⟨h1,h2⟩:=q1h I1 r1 ty
 refine⟨T,id,pa,slot,hty,h1,h2,?_⟩
 have hA:=ha cpos pins s1 σ H1 _ I1 q1
 rw[hs] at hA ⊢
 refine Calls.callWith_builtin (by show (false||(backTo cpos (starEach es X.env)).any (·.1))=false;rw[hplain]<;>rfl) (Calls.evalArgs_plain ?_)
 exact thn hA λus s2 ⟨vs,H2,I2,r2,q2⟩=>hm pins s2 σ H2 x vs v us Q I2 r1 r2 q2
end
end L2
namespace L2
open PySem PySem.Spec PyProof.Rows
def MtM(X:Cx)(id:String)(r:V->List V->Hp->VK->Prop):Prop :=
 ∀(pins:List (Addr×Obj)) (s:Shared) (σ:St) (H:Hp) (x:V) (xs:List V) (v:Value) (us:List Value) (Q:VK),Inv X pins σ H s->RelV x v->Vals xs us->r x xs H Q ->
  wpAny (model X.prog X.w) X.A (call (.builtin id) (v::us)) (EP X pins σ Q) X.xe s
theorem Vals.one:∀ {x:V} {us:List Value},Vals [x] us->∃u,us=[u]/\RelV x u
|_,_,.cons r .nil=>⟨_,rfl,r⟩
theorem Vals.rep{xs:List V}{us:List Value}(h:Vals xs us):∀k:Nat,Vals (List.replicate k xs).flatten (List.replicate k us).flatten
|0=>.nil
|k+1=>by
  rw[List.replicate_succ,List.replicate_succ,List.flatten_cons,List.flatten_cons]
  exact Vals.append h (Vals.rep h k)
section
variable {X:Cx} {pins:List (Addr×Obj)} {σ:St} {H:Hp} {s:Shared} {l b:Addr} {xs ys zs:List V}
theorem Inv.lset{its its':List Value}{n:Nat}{f:Array Value->Array Value}{t':Nat}(I:Inv X pins σ H s)(hH:H l=some (.lst xs))
  (e:s.heap.get? l=some { cls:=.type "list",data:=.seq its.toArray n }) (hf:f its.toArray=its'.toArray) (hv:Vals ys its') (hz:ys.length<=sizeLine) :
  Inv X pins σ (upd H l (.lst ys)) { s with heap:=s.heap.update l (Obj.mapSeq f),toks:=t' }:=by
 have q:=PySem.IsL.update e f
 rw[hf] at q
 refine I.write (x:=l) (e:=l) (by rw[hH];exact trivial) (.inl rfl) (λb' u hb hu=>(Heap.get?_update_other s.heap (Obj.mapSeq f) (Ne.symm hb)).trans hu) ⟨_,q⟩ ?_
 exact⟨hz,its',_,hv,q⟩
theorem Inv.lnew{its:List Value}{t':Nat}(I:Inv X pins σ H s)(hv:Vals ys its)(hz:ys.length<=sizeLine) :
  Inv X pins σ (upd H s.heap.objs.size (.lst ys)) { s with heap:=s.heap.push { cls:=.type "list",data:=.seq its.toArray },toks:=t' } :=
 I.laid (λ_ _ q=>Heap.get?_push_of_some _ q) (Nat.le_refl _) ⟨hz,its,0,hv,Heap.get?_push_size _ rfl⟩
theorem Inv.fresh(I:Inv X pins σ H s):H s.heap.objs.size=none:=I.hok.fresh (Nat.le_refl _)
theorem Inv.lstM(I:Inv X pins σ H s)(hH:H l=some (.lst xs)):xs.length<=sizeLine/\∃(its:List Value) (n:Nat),Vals xs its/\xs.length=its.length/\s.heap.get? l=some { cls:=.type "list",data:=.seq its.toArray n }:=by
 obtain⟨z,its,n,r,e⟩:=I.hok l _ hH
 exact⟨z,its,n,r,r.length,e⟩
theorem qtg{n:Nat}(h:n<=sizeLine):Builtin.List.listTooLong n=false:=by
 unfold Builtin.List.listTooLong
 exact decide_eq_false (by lia)
end
section
variable {X:Cx}
def qx5:V->List V->Hp->VK->Prop:=λx vs H Q=>∃l xs y,x=.ref l/\vs=[y]/\H l=some (.lst xs)/\xs.length<sizeLine/\Q .non (upd H l (.lst (xs++[y])))
theorem qgv:MtM X "list.append" qx5:=by
 intro pins s σ H x vs v us Q I rx rv h
 obtain⟨l,xs,y,rfl,rfl,hH,hz,q⟩:=h
 cases rx
 obtain⟨u,rfl,ru⟩:=rv.one
 obtain⟨z,its,n,r,hl,e⟩:=I.lstM hH
 refine call_meets F.slot_list_append ⟨_,e,rfl⟩ F.entry_list_append (F.args_list_append_2 _ _) (PySem.list_append l its.toArray n u (by rw[List.size_toArray];lia)) ⟨e,?_⟩
 refine⟨.non,_,I.lset (its':=its++[u]) hH e (by simp) (r.append (.cons ru .nil)) ?_,rfl,q⟩
 rw[List.length_append,List.length_singleton]
 lia
def qx6:V->List V->Hp->VK->Prop:=λx vs H Q=>∃l b xs zs,x=.ref l/\vs=[.ref b]/\H l=some (.lst xs)/\H b=some (.lst zs)/\xs.length+zs.length<=sizeLine/\Q .non (upd H l (.lst (xs++zs)))
theorem qq3:MtM X "list.extend" qx6:=by
 intro pins s σ H x vs v us Q I rx rv h
 obtain⟨l,b,xs,zs,rfl,rfl,hH,hB,hz,q⟩:=h
 cases rx
 obtain⟨u,rfl,ru⟩:=rv.one
 cases ru
 obtain⟨z,its,n,r,hl,e⟩:=I.lstM hH
 obtain⟨z2,its2,n2,r2,hl2,e2⟩:=I.lstM hB
 have hsz:its.toArray.size+its2.toArray.size<=sizeLine:=by rw[List.size_toArray,List.size_toArray];lia
 have hlong:¬ (!its.toArray.isEmpty&&Builtin.List.listTooLong (its.toArray.size+its2.toArray.size))=true:=by
  rw[qtg hsz,Bool.and_false]
  exact Bool.false_ne_true
 refine call_meets F.slot_list_extend ⟨_,e,rfl⟩ F.entry_list_extend (F.args_list_extend_2 _ _)
  (AutoSeq1.list_extend_list_list_0 l its.toArray n b its2.toArray n2 hlong (by rw[List.size_toArray];lia) (by lia)) ⟨e,e2,?_⟩
 refine⟨.non,_,I.lset (its':=its++its2) hH e (by simp) (r.append r2) ?_,rfl,q⟩
 rw[List.length_append]
 lia
def rCat:R2:=λx y H Q=>∃l b xs zs,x=.ref l/\y=.ref b/\H l=some (.lst xs)/\H b=some (.lst zs)/\xs.length+zs.length<=sizeLine/\∀p,H p=none->Q (.ref p) (upd H p (.lst (xs++zs)))
theorem qzs:OpR X (binaryOp .Add) rCat:=by
 intro pins s σ H x y v u Q I rx ry h
 obtain⟨l,b,xs,zs,rfl,rfl,hH,hB,hz,q⟩:=h
 cases rx
 cases ry
 obtain⟨z,its,n,r,hl,e⟩:=I.lstM hH
 obtain⟨z2,its2,n2,r2,hl2,e2⟩:=I.lstM hB
 refine PySem.P.add_list e e2 ?_ (by rw[List.size_toArray,List.size_toArray];lia)
 have ea:its.toArray++its2.toArray=(its++its2).toArray:=by simp
 rw[ea]
 exact⟨.ref _,_,I.lnew (t':=s.toks) (r.append r2) (by rw[List.length_append];lia),rfl,q _ I.fresh⟩
end
section
variable {prog:Program} {w:World} {A:Around} {E:Value->Shared->Prop} {s:Shared}
end
section
variable {X:Cx}
end
end L2
namespace L2
open PySem PySem.Spec PyProof.Rows
section
variable {κ:Type} [DecidableEq κ]
def valV(kvs:List (κ×V))(k:κ):Option V:=(kvs.find? λkv=>decide (kv.1=k)).map (·.2)
def putK(kvs:List (κ×V))(k:κ)(v:V):List (κ×V) :=
 if (kvs.any λkv=>decide (kv.1=k))=true then kvs.map (λkv=>if kv.1=k then (kv.1,v) else kv) else kvs++[(k,v)]
theorem qep{p:κ×V}{r:List (κ×V)}{k:κ}(e:p.1=k):valV (p::r) k=some p.2:=by simp[valV,List.find?_cons,e]
theorem qds{p:κ×V}{r:List (κ×V)}{k:κ}(e:¬ p.1=k):valV (p::r) k=valV r k:=by simp[valV,List.find?_cons,e]
theorem qnw(k:κ):∀kvs:List (κ×V),(kvs.any λkv=>decide (kv.1=k))=(valV kvs k).isSome
|[]=>rfl
|p::r=>by
  rw[List.any_cons]
  by_cases e:p.1=k
  ·simp only[qep e,decide_eq_true e,Bool.true_or,Option.isSome_some]
  ·rw[qds e,decide_eq_false e,Bool.false_or];exact qnw k r
theorem qgq(kvs:List (κ×V))(k:κ)(v:V):(putK kvs k v).length<=kvs.length+1:=by
 unfold putK
 split
 ·rw[List.length_map];lia
 ·rw[List.length_append,List.length_cons,List.length_nil];lia
theorem RelO.isSome_eq{o:Option V}{u:Option Value}(r:RelO o u):o.isSome=u.isSome:=by
 cases o with
|none=>cases u with
 |none=>rfl
 |some _=>exact(show False from r).elim
|some _=>cases u with
 |none=>exact(show False from r).elim
 |some _=>rfl
theorem RelO.getD{o:Option V}{u:Option Value}{d:V}{d':Value}(r:RelO o u)(rd:RelV d d'):RelV (o.getD d) (u.getD d'):=by
 cases o with
|none=>cases u with
 |none=>exact rd
 |some _=>exact(show False from r).elim
|some _=>cases u with
 |none=>exact(show False from r).elim
 |some _=>exact r
theorem KV.val{kvs:List (κ×V)}{vs:List (κ×Value)}(r:KV kvs vs)(k:κ):RelO (valV kvs k) (valueAt vs k):=by
 unfold KV at r
 induction r with
|nil=>exact True.intro
|@cons p q ps qs h t ih =>
  obtain⟨h1,h2⟩:=h
  by_cases e:p.1=k
  ·have e':q.1=k:=h1.symm.trans e
   have b:valueAt (q::qs) k=some q.2:=by simp[valueAt,List.find?_cons,e']
   rw[qep e,b];exact h2
  ·have e':¬ q.1=k:=λz=>e (h1.trans z)
   have b:valueAt (q::qs) k=valueAt qs k:=by simp[valueAt,List.find?_cons,e']
   rw[qds e,b];exact ih
theorem KV.any{kvs:List (κ×V)}{vs:List (κ×Value)}(r:KV kvs vs)(k:κ):(kvs.any λkv=>decide (kv.1=k))=vs.any λkv=>decide (kv.1=k):=by
 unfold KV at r
 induction r with
|nil=>rfl
|cons h t ih=>rw[List.any_cons,List.any_cons,ih,h.1]
theorem KV.repl{kvs:List (κ×V)}{vs:List (κ×Value)}(r:KV kvs vs)(k:κ){y:V}{u:Value}(ry:RelV y u) :
  KV (kvs.map λkv=>if kv.1=k then (kv.1,y) else kv) (vs.map λkv=>if kv.1=k then (kv.1,u) else kv):=by
 unfold KV at r ⊢
 induction r with
|nil=>exact .nil
|@cons p q ps qs h t ih =>
  rw[List.map_cons,List.map_cons]
  refine .cons ?_ ih
  obtain⟨h1,h2⟩:=h
  by_cases e:p.1=k
  ·rw[if_pos e,if_pos (h1.symm.trans e)];exact⟨h1,ry⟩
  ·rw[if_neg e,if_neg (λz=>e (h1.trans z))];exact⟨h1,h2⟩
theorem KV.put{kvs:List (κ×V)}{vs:List (κ×Value)}(r:KV kvs vs)(k:κ){y:V}{u:Value}(ry:RelV y u):KV (putK kvs k y) (stored vs k u):=by
 unfold putK stored
 rw[r.any k]
 by_cases e:(vs.any λkv=>decide (kv.1=k))=true
 ·rw[if_pos e,if_pos e];exact r.repl k ry
 ·rw[if_neg e,if_neg e];exact Paired.snoc r ⟨rfl,ry⟩
theorem KV.keys{kvs:List (κ×V)}{vs:List (κ×Value)}(r:KV kvs vs):kvs.map (·.1)=vs.map (·.1):=by
 unfold KV at r
 induction r with
|nil=>rfl
|cons h t ih=>rw[List.map_cons,List.map_cons,ih,h.1]
theorem KV.length{kvs:List (κ×V)}{vs:List (κ×Value)}(r:KV kvs vs):kvs.length=vs.length:=Paired.length r
end
theorem qj2{P:Program}{w:World}{k:Key}{u:Value}(r:RelV (kV k) u):(qa7 P w).is k u=true:=by
 cases k with
|inl i=>obtain⟨t,e⟩:=(show ∃t,u=Value.int i t from r);subst e;exact qlx P w i t
|inr x=>obtain⟨t,e⟩:=(show ∃t,u=Value.str x t from r);subst e;exact qly P w x t
theorem qj1{P:Program}{w:World}:∀ {ks:List Key} {us:List Value},Vals (ks.map kV) us->ItemsAre (qa7 P w) ks us
|[],_,r=>by rw[List.map_nil] at r;cases r;exact .nil
|k::ks,_,r=>by
  rw[List.map_cons] at r
  cases r with
 |cons h t=>exact .cons (qj2 h) (qj1 t)
abbrev KT(H:Hp):List (List Key×V)->List (List Key×Addr×Value)->Prop:=Paired λp q=>p.1=q.1/\H q.2.1=some (.tup (p.1.map kV))/\RelV p.2 q.2.2
theorem KT.val{H:Hp}{kvs:List (List Key×V)}{xs:List (List Key×Addr×Value)}(r:KT H kvs xs)(k:List Key):RelO (valV kvs k) ((atKey xs k).map (·.2)):=by
 induction r with
|nil=>exact True.intro
|@cons p q ps qs h t ih =>
  obtain⟨h1,_,h2⟩:=h
  by_cases e:p.1=k
  ·have e':q.1=k:=h1.symm.trans e
   have b:atKey (q::qs) k=some q.2:=by simp[atKey,List.find?_cons,e']
   rw[qep e,b];exact h2
  ·have e':¬ q.1=k:=λz=>e (h1.trans z)
   have b:atKey (q::qs) k=atKey qs k:=by simp[atKey,List.find?_cons,e']
   rw[qds e,b];exact ih
theorem KT.repl{H:Hp}{kvs:List (List Key×V)}{xs:List (List Key×Addr×Value)}(r:KT H kvs xs)(k:List Key){y:V}{u:Value}(ry:RelV y u) :
  KT H (kvs.map λkv=>if kv.1=k then (kv.1,y) else kv) (xs.map (putAt k u)):=by
 induction r with
|nil=>exact .nil
|@cons p q ps qs h t ih =>
  rw[List.map_cons,List.map_cons]
  refine .cons ?_ ih
  obtain⟨h1,h2,h3⟩:=h
  unfold putAt
  by_cases e:p.1=k
  ·rw[if_pos e,if_pos (h1.symm.trans e)];exact⟨h1,h2,ry⟩
  ·rw[if_neg e,if_neg (λz=>e (h1.trans z))];exact⟨h1,h2,h3⟩
theorem KT.put{H:Hp}{kvs:List (List Key×V)}{xs:List (List Key×Addr×Value)}(r:KT H kvs xs)(k:List Key){b:Addr}{y:V}{u:Value}(hb:H b=some (.tup (k.map kV)))(ry:RelV y u) :
  KT H (putK kvs k y) (storedH xs k b u):=by
 have e:(kvs.any λkv=>decide (kv.1=k))=(atKey xs k).isSome:=by
  rw[qnw,(r.val k).isSome_eq,Option.isSome_map]
 unfold putK storedH
 rw[e]
 by_cases q:(atKey xs k).isSome=true
 ·rw[if_pos q,if_pos q];exact r.repl k ry
 ·rw[if_neg q,if_neg q];exact Paired.snoc r ⟨rfl,hb,ry⟩
theorem KT.keeps{H H':Hp}{kvs:List (List Key×V)}{xs:List (List Key×Addr×Value)}(r:KT H kvs xs)(ht:∀b ys,H b=some (.tup ys)->H' b=some (.tup ys)):KT H' kvs xs :=
 Paired.mapP r λ_ _ z=>⟨z.1,ht _ _ z.2.1,z.2.2⟩
section
variable {P:Program} {w:World} {H:Hp} {h:Heap} {a:Addr}
theorem q0v{u:HO}(ok:HOk P w H h)(e:Rd H a u):ObjOk P w H h a u:=e.ok ok
theorem qid{kvs:List (Key×V)}(ok:HOk P w H h)(e:Rd H a (.dK kvs)):kvs.length<=sizeLine/\(a==sysModules)=false/\∃vs,KV kvs vs/\h.DictOf (qa7 P w) a vs :=
 show ObjOk P w H h a (.dK kvs) from q0v ok e
theorem qy6{kvs:List (Key×V)}(ok:HOk P w H h)(e:H a=some (.dK kvs)):kvs.length<=sizeLine/\(a==sysModules)=false/\∃vs,KV kvs vs/\h.DictOf (qa7 P w) a vs:=qid ok (.inl e)
theorem qgm{ks:List Key}(ok:HOk P w H h)(e:H a=some (.tup (ks.map kV))):(tupleKind (qa7 P w)).is h ks a:=by
 obtain⟨_,its,r,o,h1,h2,n,h3⟩:=(show ObjOk P w H h a (.tup (ks.map kV)) from ok a _ e)
 exact⟨o,its.toArray,n,h1,h2,h3,by simpa using qj1 r⟩
theorem qie{kvs:List (List Key×V)}(ok:HOk P w H h)(e:Rd H a (.dT kvs)):kvs.length<=sizeLine/\(a==sysModules)=false /\
  ∃xs,KT H kvs xs/\h.DictOfH (tupleKind (qa7 P w)) a xs:=by
 obtain⟨z,y,xs,r,o,es,ep,h1,h2,h3,h4,h5⟩:=(show ObjOk P w H h a (.dT kvs) from q0v ok e)
 refine⟨z,y,xs,r,o,es,ep,h1,h2,h3,h4,λx hx=>?_,h5⟩
 have all:∀ {l:List (List Key×V)} {m:List (List Key×Addr×Value)},KT H l m->∀x∈m,(tupleKind (qa7 P w)).is h x.1 x.2.1:=by
  intro l m q
  induction q with
 |nil=>intro x hx;exact nomatch hx
 |@cons p q ps qs hq t ih =>
   intro x hx
   rcases List.mem_cons.mp hx with e|hx
   ·subst e
    exact qgm ok (by rw[←hq.1];exact hq.2.1)
   ·exact ih x hx
 exact all r x hx
theorem q11{kvs:List (List Key×V)}(ok:HOk P w H h)(e:H a=some (.dT kvs)):kvs.length<=sizeLine/\(a==sysModules)=false /\
  ∃xs,KT H kvs xs/\h.DictOfH (tupleKind (qa7 P w)) a xs:=qie ok (.inl e)
end
def DGet(H:Hp)(a:Addr)(y:V)(r:Option V):Prop :=
 (∃kvs k,Rd H a (.dK kvs)/\y=kV k/\r=valV kvs k)\/∃kvs k b,Rd H a (.dT kvs)/\y=.ref b/\H b=some (.tup (k.map kV))/\r=valV kvs k
def DPut(H:Hp)(a:Addr)(y v:V)(H':Hp):Prop :=
 (∃kvs k,H a=some (.dK kvs)/\y=kV k/\kvs.length<sizeLine/\H'=upd H a (.dK (putK kvs k v))) \/
 ∃kvs k b,H a=some (.dT kvs)/\y=.ref b/\H b=some (.tup (k.map kV))/\kvs.length<sizeLine/\H'=upd H a (.dT (putK kvs k v))
theorem DGet.k{H:Hp}{a:Addr}{kvs:List (Key×V)}{k:Key}(e:H a=some (.dK kvs)):DGet H a (kV k) (valV kvs k):=.inl ⟨kvs,k,.inl e,rfl,rfl⟩
theorem DPut.t{H:Hp}{a b:Addr}{kvs:List (List Key×V)}{k:List Key}{v:V}(e:H a=some (.dT kvs))(eb:H b=some (.tup (k.map kV)))(hl:kvs.length<sizeLine) :
  DPut H a (.ref b) v (upd H a (.dT (putK kvs k v))):=.inr ⟨kvs,k,b,e,rfl,eb,hl,rfl⟩
section
variable {X:Cx} {pins:List (Addr×Obj)} {σ:St} {H:Hp} {s:Shared} {a:Addr} {y v:V} {u r:Value} {o:Option V} {A:Around} {E:Value->Shared->Prop}
theorem Inv.big(I:Inv X pins σ H s):sysModules<s.heap.objs.size:=by
 have h:mainGlobals<s.heap.objs.size:=(I.mod.glob.keeps I.bk).lt
 exact Nat.lt_trans (by decide) h
theorem qpt{Q:Value->Shared->Prop}(hu:A.units+1<cLine)(I:Inv X pins σ H s)(g:DGet H a y (some v))(ry:RelV y u)(h:∀w' s',Inv X pins σ H s'->RelV v w'->Q w' s') :
  wpAny (model X.prog X.w) A (getItem (.ref a) u) Q E s:=by
 rcases g with ⟨kvs,k,e,ey,l⟩|⟨kvs,k,b,e,ey,eb,l⟩
 ·subst ey
  obtain⟨z,hd,vs,rel,dd⟩:=qid I.hok e
  obtain⟨w',hw,rw'⟩:=RelO.some_of (v:=v) (o:=valueAt vs k) (by rw[l];exact rel.val k)
  exact wpAny_getItem_of (qj2 ry) dd.mapOf hw (h w' _ (I.tok _) rw')
 ·subst ey
  cases (show u=Value.ref b from ry)
  obtain⟨z,hd,xs,rel,dd⟩:=qie I.hok e
  obtain⟨w',hw,rw'⟩:=RelO.some_of (v:=v) (o:=(atKey xs k).map (·.2)) (by rw[l];exact rel.val k)
  obtain⟨p,hp,hp2⟩:=Option.map_eq_some_iff.mp hw
  refine wpAny_getItem_heap (tupleKind_room_in1 hu) (qgm I.hok eb) dd hp ?_
  rw[hp2]
  exact h w' _ (I.tok _) rw'
theorem d_in{Q:Value->Shared->Prop}(hu:A.units+1<cLine)(I:Inv X pins σ H s)(g:DGet H a y o)(ry:RelV y u)(h:∀s',Inv X pins σ H s'->Q (.bool o.isSome) s') :
  wpAny (model X.prog X.w) A (compareOp .In u (.ref a)) Q E s:=by
 rcases g with ⟨kvs,k,e,ey,l⟩|⟨kvs,k,b,e,ey,eb,l⟩
 ·subst ey
  obtain⟨z,hd,vs,rel,dd⟩:=qid I.hok e
  refine wpAny_in_of (qj2 ry) hd dd.mapOf ?_
  rw[←(rel.val k).isSome_eq,←l]
  exact h _ (I.tok _)
 ·subst ey
  cases (show u=Value.ref b from ry)
  obtain⟨z,hd,xs,rel,dd⟩:=qie I.hok e
  refine wpAny_in_heap (tupleKind_room_in1 hu) (qgm I.hok eb) hd dd ?_
  have q:=(rel.val k).isSome_eq
  rw[Option.isSome_map] at q
  rw[←q,←l]
  exact h _ (I.tok _)
theorem qv7{Q:Value->Shared->Prop}(hu:A.units+1<cLine)(I:Inv X pins σ H s)(g:DGet H a y o)(ry:RelV y u)(h:∀s',Inv X pins σ H s'->Q (.bool (!o.isSome)) s') :
  wpAny (model X.prog X.w) A (compareOp .NotIn u (.ref a)) Q E s:=by
 rcases g with ⟨kvs,k,e,ey,l⟩|⟨kvs,k,b,e,ey,eb,l⟩
 ·subst ey
  obtain⟨z,hd,vs,rel,dd⟩:=qid I.hok e
  refine wpAny_notIn_of (qj2 ry) hd dd.mapOf ?_
  rw[←(rel.val k).isSome_eq,←l]
  exact h _ (I.tok _)
 ·subst ey
  cases (show u=Value.ref b from ry)
  obtain⟨z,hd,xs,rel,dd⟩:=qie I.hok e
  refine wpAny_notIn_heap (tupleKind_room_in1 hu) (qgm I.hok eb) hd dd ?_
  have q:=(rel.val k).isSome_eq
  rw[Option.isSome_map] at q
  rw[←q,←l]
  exact h _ (I.tok _)
theorem qlc{h':Heap}{t':Nat}{ob:HO}(I:Inv X pins σ H s)(mu:Mut (H a))(hs:Heap.SameBut a s.heap h')(he:∃q,h'.get? a=some q)(new:ObjOk X.prog X.w (upd H a ob) h' a ob) :
  Inv X pins σ (upd H a ob) { s with heap:=h',toks:=t' } :=
 I.write (x:=a) (e:=a) mu (.inl rfl) (λb q hb z=>(hs.2 b hb).trans z) he new
theorem qus{P:Program}{w:World}{H':Hp}{h':Heap}{kvs:List (Key×V)}{vs:List (Key×Value)}(z:kvs.length<=sizeLine)(hd:(a==sysModules)=false)(rel:KV kvs vs)(dd:h'.DictOf (qa7 P w) a vs) :
  ObjOk P w H' h' a (.dK kvs):=⟨z,hd,vs,rel,dd⟩
theorem qpu{H':Hp}{Q:Unit->Shared->Prop}(hu:A.units+1<cLine)(I:Inv X pins σ H s)(g:DPut H a y v H')(ry:RelV y u)(rv:RelV v r)(h:∀s',Inv X pins σ H' s'->Q () s') :
  wpAny (model X.prog X.w) A (setItem (.ref a) u r) Q E s:=by
 rcases g with ⟨kvs,k,e,ey,l,eH⟩|⟨kvs,k,b,e,ey,eb,l,eH⟩
 ·subst ey eH
  obtain⟨z,hd,vs,rel,dd⟩:=qy6 I.hok e
  have hz:vs.length<=sizeLine:=by rw[←rel.length];exact z
  have hl:(putK kvs k v).length<=sizeLine:=by have:=qgq kvs k v;lia
  refine wpAny_setItem_pairs (hsz:=hz) (qj2 ry) dd λh' dd' hs=>h _ ?_
  have he:∃q,h'.get? a=some q:=let ⟨q,_,_,hq,_⟩:=dd';⟨q,hq⟩
  exact qlc I (by rw[e];exact True.intro) hs he (qus hl hd (rel.put k rv) dd')
 ·subst ey eH
  cases (show u=Value.ref b from ry)
  obtain⟨z,hd,xs,rel,dd⟩:=q11 I.hok e
  have hz:xs.length<=sizeLine:=by rw[←Paired.length rel];exact z
  have hl:(putK kvs k v).length<=sizeLine:=by have:=qgq kvs k v;lia
  refine wpAny_setItem_heap (hsz:=hz) (tupleKind_room_in1 hu) (qgm I.hok eb) dd λh' dd' hs=>h _ ?_
  obtain⟨q,es,ep,hq,h2,h3,h4,_,h5⟩:=dd'
  refine qlc I (by rw[e];exact True.intro) hs ⟨q,hq⟩ ⟨hl,hd,_,(rel.put k eb rv).keeps λc ys ec=>?_,q,es,ep,hq,h2,h3,h4,h5⟩
  rw[qa5 (q14 ec e (λz=>nomatch z))]
  exact ec
end
section
variable {X:Cx} {pins:List (Addr×Obj)} {σ:St} {H:Hp} {s:Shared} {a:Addr} {kvs:List (Key×V)} {k:Key} {u:Value} {A:Around} {E:Value->Shared->Prop}
end
def NoSl(i:Expr):Prop:=∀ov iv,subscripted i false ov iv=operate [ov,iv] (getItem ov iv)
theorem qyj{prog:Program}{w:World}{A:Around}{E:Value->Shared->Prop}{s:Shared}{env:Env}{value slice:Expr}{pos:Pos}{T id:String}{Q:Value->Shared->Prop}
  (hl:typeLookup (.type T) "__getitem__" = pure (some (.builtin id))) (hs:NoSl slice)
  (h:wpAny (model prog w) A (eval value env) (λo s₁=>wpAny (model prog w) A (eval slice env) (λi s₂=>s₂.TypeIs o T/\wpAny (model prog w) A (getItem o i) Q E s₂) E s₁) E s) :
  wpAny (model prog w) A (eval (.Subscript value slice pos) env) Q E s:=by
 refine Subscript_ (wpAny_mono h (λo s₁ h₁=>wpAny_mono h₁ (λi s₂ h₂=>?_) λ_ _ x=>x) λ_ _ x=>x)
 obtain⟨hT,h₂⟩:=h₂
 unfold subscriptTail
 refine wpAny_bind ?_
 rw[getitemInPython_of_ne hT.not_modules]
 refine wpAny_bind (wpAny_specialOf hT hl ?_)
 have fin:wpAny (model prog w) A (subscripted slice false o i) (λr s₃=>wpAny (model prog w) A (letTemporaryGo value o r >>= λ_=>pure r) Q E s₃) E s₂:=by
  rw[hs o i]
  exact wpAny_operating (wpAny_mono h₂ (λr s₃ h₃=>wpAny_bind (wpAny_letTemporaryGo (wpAny_pure h₃))) λ_ _ x=>x)
 first
 |exact wpAny_pure (wpAny_bind fin)
 |exact wpAny_bind (wpAny_pure (wpAny_bind fin))
 |exact wpAny_bind fin
theorem qle{X:Cx}{pins:List (Addr×Obj)}{σ:St}{H:Hp}{s:Shared}{a:Addr}{y:V}{o:Option V}(I:Inv X pins σ H s)(g:DGet H a y o):s.TypeIs (.ref a) "dict" := by
 rcases g with ⟨kvs,k,e,_,_⟩|⟨kvs,k,b,e,_,_,_⟩
 ·obtain⟨_,_,vs,_,dd⟩:=qid I.hok e
  exact dd.typeIs
 ·obtain⟨_,_,xs,_,dd⟩:=qie I.hok e
  exact dd.typeIs
def q09(td ty:TE):TE:=λσ H Q=>td σ H λx H1=>ty σ H1 λy H2=>∃a v,x=.ref a/\DGet H2 a y (some v)/\Q v H2
def tDIn(ty td:TE):TE:=λσ H Q=>ty σ H λy H1=>td σ H1 λx H2=>∃a o,x=.ref a/\DGet H2 a y o/\Q (.bl o.isSome) H2
def qmc(ty td:TE):TE:=λσ H Q=>ty σ H λy H1=>td σ H1 λx H2=>∃a o,x=.ref a/\DGet H2 a y o/\Q (.bl (!o.isSome)) H2
def q06(td ty tv:TE):TS:=λD σ H=>tv σ H λv H1=>td σ H1 λx H2=>ty σ H2 λy H3=>∃a H4,x=.ref a/\DPut H3 a y v H4/\D.nx σ H4
section
variable {X:Cx} {o i e value:Expr} {pos pos' tpos:Pos} {td ty tv:TE}
theorem qw9(hu:X.A.units+1<cLine)(ho:PE X o td)(hi:PE X i ty)(hs:NoSl i):PE X (.Subscript o i pos) (q09 td ty):=by
 intro pins s σ H Q I h
 refine qyj PySem.F.slot_dict_getitem.lookup hs (thn (ho pins s σ H _ I h) λu s1 ⟨x,H1,I1,rx,q1⟩=>thn (hi pins s1 σ H1 _ I1 q1) λiv s2 ⟨y,H2,I2,ry,a,v,ex,g,q2⟩=>?_)
 subst ex
 obtain rfl:u=Value.ref a:=rx
 exact⟨qle I2 g,qpt hu I2 g ry λw' s3 I3 rw'=>⟨v,H2,I3,rw',q2⟩⟩
theorem qz1(hu:X.A.units+1<cLine)(hi:PE X i ty)(ho:PE X o td):PC X .In i o (tDIn ty td):=by
 intro pins s σ H Q I h
 refine thn (hi pins s σ H _ I h) λiv s1 ⟨y,H1,I1,ry,q1⟩=>thn (ho pins s1 σ H1 _ I1 q1) λu s2 ⟨x,H2,I2,rx,a,ov,ex,g,q2⟩=>?_
 subst ex
 obtain rfl:u=Value.ref a:=rx
 exact d_in hu I2 g ry λs3 I3=>⟨.bl ov.isSome,H2,I3,rfl,q2⟩
theorem qkh(hu:X.A.units+1<cLine)(hi:PE X i ty)(ho:PE X o td):PC X .NotIn i o (qmc ty td):=by
 intro pins s σ H Q I h
 refine thn (hi pins s σ H _ I h) λiv s1 ⟨y,H1,I1,ry,q1⟩=>thn (ho pins s1 σ H1 _ I1 q1) λu s2 ⟨x,H2,I2,rx,a,ov,ex,g,q2⟩=>?_
 subst ex
 obtain rfl:u=Value.ref a:=rx
 exact qv7 hu I2 g ry λs3 I3=>⟨.bl (!ov.isSome),H2,I3,rfl,q2⟩
theorem qxi(hu:X.A.units+1<cLine)(ho:PE X o td)(hi:PE X i ty)(hv:PE X value tv)(hs:swapsWith value (some (.Subscript o i pos')) pos.line X.env=pure false) :
  PS X (.Assign [.Subscript o i pos'] value pos) (q06 td ty tv):=by
 intro pins s σ H D I h
 refine wpAny_Assign_Subscript (thn (hv pins s σ H _ I h) λr s1 ⟨v,H1,I1,rv,q1⟩=>thn (ho pins s1 σ H1 _ I1 q1) λu s2 ⟨x,H2,I2,rx,q2⟩=>thn (hi pins s2 σ H2 _ I2 q2) λiv s3 ⟨y,H3,I3,ry,a,H4,ex,g,q3⟩=>?_) hs
 subst ex
 obtain rfl:u=Value.ref a:=rx
 exact qpu hu I3 g ry rv λs4 I4=>⟨σ,H4,I4,q3⟩
end
theorem qsw{P:Program}{w:World}{H:Hp}(h:Heap)(hb:sysModules<h.objs.size):ObjOk P w H (h.push { cls:=.type "dict",data:=.dict #[] }) h.objs.size (.dK []) :=
 ⟨Nat.zero_le _,beq_eq_false_iff_ne.mpr (Ne.symm (Nat.ne_of_lt hb)),[],.nil,Heap.DictOf.new h⟩
theorem qsy{P:Program}{w:World}{H:Hp}(h:Heap)(hb:sysModules<h.objs.size):ObjOk P w H (h.push { cls:=.type "dict",data:=.dict #[] }) h.objs.size (.dT []) :=
 ⟨Nat.zero_le _,beq_eq_false_iff_ne.mpr (Ne.symm (Nat.ne_of_lt hb)),[],.nil,_,#[],0,Heap.get?_push_size _ rfl,⟨rfl,rfl,rfl⟩,rfl,rfl,List.nodup_nil⟩
def qvp:TE:=λ_ H Q=>∀p,H p=none->Q (.ref p) (upd H p (.dK []))
def qvq:TE:=λ_ H Q=>∀p,H p=none->Q (.ref p) (upd H p (.dT []))
section
variable {X:Cx} {pos:Pos}
theorem qtl:PE X (.Dict [] [] pos) qvp:=λpins s σ H Q I h =>
 wpAny_Dict_empty ⟨.ref s.heap.objs.size,_,I.laid (a:=s.heap.objs.size) (o:=.dK []) (t':=s.toks) (λ_ _ q=>Heap.get?_push_of_some _ q) (Nat.le_refl _) (qsw s.heap I.big),rfl,h _ (I.hok.fresh (Nat.le_refl _))⟩
theorem qtm:PE X (.Dict [] [] pos) qvq:=λpins s σ H Q I h =>
 wpAny_Dict_empty ⟨.ref s.heap.objs.size,_,I.laid (a:=s.heap.objs.size) (o:=.dT []) (t':=s.toks) (λ_ _ q=>Heap.get?_push_of_some _ q) (Nat.le_refl _) (qsy s.heap I.big),rfl,h _ (I.hok.fresh (Nat.le_refl _))⟩
end
structure M1(X:Cx)(o:Expr)(m:Str)(apos:Pos)(e:Expr)(cpos:Pos):Prop where
 base:attributeBase o m X.env (eval o X.env)=eval o X.env
 few:((backTo cpos (starEach [e] X.env)).all (λx=>!x.1)&&(backToKw cpos (keywordEach [] X.env)).all (λx=>x.1.isSome)
  && decide (([e]:List Expr).length+([]:List Keyword).length+(if ([]:List Keyword).isEmpty then 0 else 1)<30))=true
 line:(apos.endLine==cpos.line)=true
 trees:backTo cpos (starEach [e] X.env)=[(false,eval e X.env)]
structure M2(X:Cx)(o:Expr)(m:Str)(apos:Pos)(e f:Expr)(cpos:Pos):Prop where
 base:attributeBase o m X.env (eval o X.env)=eval o X.env
 few:((backTo cpos (starEach [e,f] X.env)).all (λx=>!x.1)&&(backToKw cpos (keywordEach [] X.env)).all (λx=>x.1.isSome)
  && decide (([e,f]:List Expr).length+([]:List Keyword).length+(if ([]:List Keyword).isEmpty then 0 else 1)<30))=true
 line:(apos.endLine==cpos.line)=true
 trees:backTo cpos (starEach [e,f] X.env)=[(false,eval e X.env),(false,eval f X.env)]
def IsD(H:Hp)(a:Addr):Prop:=(∃kvs,Rd H a (.dK kvs))\/∃kvs,Rd H a (.dT kvs)
theorem qql{X:Cx}{pins:List (Addr×Obj)}{σ:St}{H:Hp}{s:Shared}{a:Addr}(I:Inv X pins σ H s)(d:IsD H a) :
  s.TypeIs (.ref a) "dict" /\ (∀b,Value.ref a=.ref b->∃ob,s.heap.get? b=some ob/\ob.dict=none)/\(a==sysModules)=false:=by
 rcases d with ⟨kvs,e⟩|⟨kvs,e⟩
 ·obtain⟨_,hd,vs,_,dd⟩:=qid I.hok e
  refine⟨dd.typeIs,λb q=>?_,hd⟩
  cases q
  obtain⟨ob,_,_,h1,h2,_⟩:=dd
  exact⟨ob,h1,h2.2.1⟩
 ·obtain⟨_,hd,xs,_,dd⟩:=qie I.hok e
  refine⟨dd.typeIs,λb q=>?_,hd⟩
  cases q
  obtain⟨ob,_,_,h1,h2,_⟩:=dd
  exact⟨ob,h1,h2.2.1⟩
section
variable {X:Cx} {pins:List (Addr×Obj)} {σ:St} {H:Hp} {s:Shared} {a:Addr} {y d:V} {u r:Value} {o:Option V} {A:Around} {E:Value->Shared->Prop}
theorem qy3{Q:Value->Shared->Prop}(hu:A.units+1<cLine)(I:Inv X pins σ H s)(g:DGet H a y o)(ry:RelV y u)(h:∀w' s',Inv X pins σ H s'->RelV (o.getD .non) w'->Q w' s') :
  wpAny (model X.prog X.w) A (call (.builtin "dict.get") [.ref a,u]) Q E s:=by
 rcases g with ⟨kvs,k,e,ey,l⟩|⟨kvs,k,b,e,ey,eb,l⟩
 ·subst ey
  obtain⟨z,hd,vs,rel,dd⟩:=qid I.hok e
  refine call_meetsIn PySem.F.slot_dict_get dd.typeIs PySem.F.entry_dict_get (PySem.F.args_dict_get_2 _ _) (meets_dict_get (qa7 X.prog X.w) a (qj2 ry) hd) ⟨_,dd.mapOf,h _ _ (I.tok _) ?_⟩
  rw[l]
  exact(rel.val k).getD rfl
 ·subst ey
  cases (show u=Value.ref b from ry)
  obtain⟨z,hd,xs,rel,dd⟩:=qie I.hok e
  refine call_meetsIn PySem.F.slot_dict_get dd.typeIs PySem.F.entry_dict_get (PySem.F.args_dict_get_2 _ _) (meetsH_dict_get (tupleKind (qa7 X.prog X.w)) a b hd) ⟨tupleKind_room_in1 hu,k,xs,qgm I.hok eb,dd,h _ _ (I.tok _) ?_⟩
  rw[l]
  exact(rel.val k).getD rfl
theorem qy4{Q:Value->Shared->Prop}(hu:A.units+1<cLine)(I:Inv X pins σ H s)(g:DGet H a y o)(ry:RelV y u)(rd:RelV d r)(h:∀w' s',Inv X pins σ H s'->RelV (o.getD d) w'->Q w' s') :
  wpAny (model X.prog X.w) A (call (.builtin "dict.get") [.ref a,u,r]) Q E s:=by
 rcases g with ⟨kvs,k,e,ey,l⟩|⟨kvs,k,b,e,ey,eb,l⟩
 ·subst ey
  obtain⟨z,hd,vs,rel,dd⟩:=qid I.hok e
  refine call_meetsIn PySem.F.slot_dict_get dd.typeIs PySem.F.entry_dict_get (PySem.F.args_dict_get_3 _ _ _) (meets_dict_get_default (qa7 X.prog X.w) a (qj2 ry) hd r) ⟨_,dd.mapOf,h _ _ (I.tok _) ?_⟩
  rw[l]
  exact(rel.val k).getD rd
 ·subst ey
  cases (show u=Value.ref b from ry)
  obtain⟨z,hd,xs,rel,dd⟩:=qie I.hok e
  refine call_meetsIn PySem.F.slot_dict_get dd.typeIs PySem.F.entry_dict_get (PySem.F.args_dict_get_3 _ _ _) (meetsH_dict_get_default (tupleKind (qa7 X.prog X.w)) a b hd r) ⟨tupleKind_room_in1 hu,k,xs,qgm I.hok eb,dd,h _ _ (I.tok _) ?_⟩
  rw[l]
  exact(rel.val k).getD rd
end
def qvn(td ty:TE):TE:=λσ H Q=>td σ H λx H1=>∃a,x=.ref a/\IsD H1 a/\ty σ H1 λy H2=>∃o,DGet H2 a y o/\Q (o.getD .non) H2
def qvo(td ty tx:TE):TE:=λσ H Q=>td σ H λx H1=>∃a,x=.ref a/\IsD H1 a/\ty σ H1 λy H2=>tx σ H2 λz H3=>∃o,DGet H3 a y o/\Q (o.getD z) H3
section
variable {X:Cx} {o e f:Expr} {apos cpos:Pos} {td ty tx:TE}
theorem qtj(hu:X.A.units+1<cLine)(ho:PE X o td)(he:PE X e ty)(m:M1 X o "get" apos e cpos):PE X (.Call (.Attribute o "get" apos) [e] [] cpos) (qvn td ty):=by
 intro pins s σ H Q I h
 refine wpAny_Call_method m.base m.few m.line PySem.F.plainAttrs_dict PySem.F.slot_dict_get PySem.F.type_dict_get (thn (ho pins s σ H _ I h) λu s1 ⟨x,H1,I1,rx,a,ex,d,q1⟩=>?_)
 subst ex
 obtain rfl:u=Value.ref a:=rx
 obtain⟨t1,t2,_⟩:=qql I1 d
 refine⟨t1,t2,?_⟩
 rw[m.trees]
 refine Calls.callWith_builtin rfl (Calls.evalArgs_plain (Calls.spliced_cons (thn (he pins s1 σ H1 _ I1 q1) λiv s2 ⟨y,H2,I2,ry,ov,g,q2⟩=>Calls.spliced_nil ?_)))
 exact qy3 hu I2 g ry λw' s3 I3 rw'=>⟨_,H2,I3,rw',q2⟩
theorem qtk(hu:X.A.units+1<cLine)(ho:PE X o td)(he:PE X e ty)(hf:PE X f tx)(m:M2 X o "get" apos e f cpos):PE X (.Call (.Attribute o "get" apos) [e,f] [] cpos) (qvo td ty tx):=by
 intro pins s σ H Q I h
 refine wpAny_Call_method m.base m.few m.line PySem.F.plainAttrs_dict PySem.F.slot_dict_get PySem.F.type_dict_get (thn (ho pins s σ H _ I h) λu s1 ⟨x,H1,I1,rx,a,ex,d,q1⟩=>?_)
 subst ex
 obtain rfl:u=Value.ref a:=rx
 obtain⟨t1,t2,_⟩:=qql I1 d
 refine⟨t1,t2,?_⟩
 rw[m.trees]
 refine Calls.callWith_builtin rfl (Calls.evalArgs_plain (Calls.spliced_cons (thn (he pins s1 σ H1 _ I1 q1) λiv s2 ⟨y,H2,I2,ry,q2⟩ =>
  Calls.spliced_cons (thn (hf pins s2 σ H2 _ I2 q2) λfv s3 ⟨z,H3,I3,rz,ov,g,q3⟩=>Calls.spliced_nil ?_))))
 exact qy4 hu I3 g ry rz λw' s4 I4 rw'=>⟨_,H3,I4,rw',q3⟩
end
section
variable {X:Cx} {pins:List (Addr×Obj)} {σ:St} {H:Hp} {s:Shared} {a:Addr} {kvs:List (Key×V)} {A:Around} {E:Value->Shared->Prop}
end
section
variable {X:Cx} {pins:List (Addr×Obj)} {σ:St} {H:Hp} {s:Shared} {a:Addr} {y:V} {u:Value} {A:Around} {E:Value->Shared->Prop}
end
end L2
namespace Att
open PySem PySem.W PySem.Calls PyProof.Rows
theorem qgk{P:Params}{h:Heap}:∀(ns:List Int) (vs:List Value),WellAll P h vs (ns.map WData.int)->IntsAre vs ns:=by
 intro ns
 induction ns with
|nil =>
  intro vs w
  rw[List.map_nil] at w
  cases w
  exact .nil
|cons n ns ih =>
  intro vs w
  rw[List.map_cons] at w
  cases w with
 |cons a b =>
   cases a
   exact .cons _ _ (ih _ b)
theorem qrn{l:OpenLaw}{n:Nat}(hn:l.most=some n){P:Params}{h:Heap}{args:List WData}{vals:List Value}
  (hpre:l.row.toRowW.claim.pre args=true) (hwl:WellAll P h vals args) :
  ∃a vs ns,vals=[Value.ref a]/\args=[WData.list (ns.map WData.int)]/\h.get? a=some { cls:=.type "list",data:=.seq vs.toArray }/\IntsAre vs ns/\ns.length<=n:=by
 have hsh:WShape.hasAll [] args [.list .int]=true:=(pre_splitW hpre).1
 have hc:l.pre.holds [] { args:=args }=true:=(pre_splitW hpre).2
 obtain⟨d,r,rfl,h1,h2⟩:=hasAllW_cons hsh
 obtain rfl:=hasAllW_nil h2
 obtain⟨xs,rfl,h3⟩:=hasW_list h1
 obtain⟨ns,rfl⟩:=items_int h3
 have hlen:ns.length<=n:=by
  unfold OpenLaw.pre at hc
  have h4:(WTm.not (.lt (.lit (.int (n:Int))) (.len (.arg 0)))).holds [] { args:=[.list (ns.map .int)] }=true:=by
   have h4:=(holds_andW hc).1
   rw[hn] at h4
   exact h4
  have h5:=condW_of h4 (w_not (w_lt w_lit (w_len_list (w_arg rfl))))
  rw[List.length_map] at h5
  refine Nat.le_of_not_lt λq=>?_
  have q':(n:Int)<((ns.length:Nat):Int):=by lia
  first
  |(rw[decide_eq_true q'] at h5;exact absurd h5 (by decide))
  |(simp at h5;lia)
 cases hwl with
|cons w1 w2 =>
  cases w2
  cases w1 with
 |list ho hall=>exact⟨_,_,ns,rfl,rfl,ho,qgk ns _ hall,hlen⟩
theorem qrc(l:OpenLaw)(args:List WData):l.row.toRowW.claim.post args (.bool true) args=true :=
 postW_of (r:=l.row.toRowW) (X:=(true==true))
  (show WShape.has [] (.bool true) .bool=true by first|rfl|decide|simp[WShape.has,WShape.arms,WShape.armsAll])
  (show (WTm.eq .res (.lit (.bool true))).value [] { args:=args,res:=some (.bool true),after:=args }=some (.bool (true==true)) from w_eq_bool (w_res rfl) w_lit) rfl
theorem attach_call{l:OpenLaw}{n:Nat}{q:Program}{loose:List Str}{XP:(Str->Option Value)->Heap->Prop}{YP:World->Heap->Prop}{d:DefRec}
  (hn:l.most=some n) (hdf:d.params.defaults=[])
  (call:∀(w:World) (s₀ s₁:Shared) (mg mb:Str->Option Value) (fa:Addr) (o:Obj) (pm cd doc:Value) (a:Addr) (vs:List Value) (ns:List Int),
   Ground q loose [] XP w s₀ mg mb s₁.heap->YP w s₁.heap ->
   s₁.heap.get? fa=some o->o.data=.func (docDef d.name d.params d.body d.scope pm cd doc)->s₁.heap.CodeRec cd d.name->mg d.name=some (.ref fa) ->
   s₁.heap.get? a=some { cls:=.type "list",data:=.seq vs.toArray }->IntsAre vs ns->ns.length<=n->s₁.gens=#[] ->
   codeAny (model l.prog w) callerA (.call (.ref fa) ⟨[.ref a],[]⟩) (λr s'=>r=.ok (.ret (.bool true))/\OldK s₁.heap s'.heap/\s'.os=s₁.os/\AllBare s'.gens) s₁) :
  WalkO q loose XP YP l.row.toRowW d [] (λf vs=>PySem.call f vs):=by
 intro w s₀ s₁ mg mb G Y fa o pm cd doc dV kV ho hd hcd hD hmg hg args vals as hpre hlay hrd hwl hlo
 obtain rfl:dV=.none:=Dflts.none hD hdf
 obtain rfl:kV=.none:=Dflts.noKw hD
 obtain⟨a,vs,ns,rfl,rfl,hobj,hints,hlen⟩:=qrn hn hpre hwl
 refine enter_call (codeAny_mono (call w s₀ s₁ mg mb fa o pm cd doc a vs ns G Y ho (fd_plain hd) hcd hmg hobj hints hlen hg) λr s' hq=>?_)
 obtain⟨rfl,h2,h3,h4⟩:=hq
 exact⟨.inl ⟨.bool true,.bool true,[],rfl,λ_=>rfl,.bool true,qrc l _,λ_=>⟨List.Pairwise.nil,λ_ hm=>(nomatch hm)⟩⟩,h2,h3,h4⟩
section
variable {prog:Program} {w:World} {A:Around} {E:Value->Shared->Prop} {s:Shared} {K:Frag}
end
end Att
namespace L2
open PySem PySem.Spec PyProof.Rows
theorem qkx:∀ {vs:List Value} {ns:List Int},IntsAre vs ns->Vals (ns.map V.int) vs
|_,_,.nil=>.nil
|_,_,.cons n t h=>.cons ⟨t,rfl⟩ (qkx h)
def Only(H:Hp):Prop:=∀b,H b=none\/∃o xs,H b=some (.frz o (.lst xs))
theorem qta{P:Program}{w:World}{K:PySem.W.Frag}{mg mb:Str->Option Value}{CX:CXT}{k:Nat}{fa a:Addr}{fd:FuncData}{x:Str}{sp:Sp}{s₁:Shared}{vs:List Value}{ns:List Int}
  (KX:K.In s₁.heap) (hns:s₁.heap.Ns mainGlobals mg) (hb:s₁.heap.Ns builtinsNs mb) (hbb:∀x:Str,x≠"__name__" -> mb x=bootBuiltins x) (hlim:s₁.heap.NoLimit) (hg:s₁.gens=#[])
  (ha:s₁.heap.get? a=some { cls:=.type "list",data:=.seq vs.toArray }) (hi:IntsAre vs ns) (hl:ns.length<=sizeLine) (hr:Room k callerA)
  (F:∀base:Heap,K.In base->base.Ns mainGlobals mg->FnOk P w K mg base CX k fa fd [x] sp) (hbind:∀(s:Shared) (u:Value),BindsTo s fd ⟨[u],[]⟩ [(x,u)])
  (hsp:∀H:Hp,Only H->SqL K H a (ns.map V.int)->sp [.ref a] H (λv _=>v=.bl true) λ_ _ _=>False)
  (hCX:∀H e s',CX [] H s₁ (λ_ _ _=>False) e s'->False) :
  codeAny (model P w) callerA (.call (.ref fa) ⟨[.ref a],[]⟩) (λr s'=>r=.ok (.ret (.bool true))/\OldK s₁.heap s'.heap/\s'.os=s₁.os/\AllBare s'.gens) s₁:=by
 have rv:=qkx hi
 have lenV:=hi.length
 have core:∀H:Hp,Only H->SqL K H a (ns.map V.int)->HOk P w H s₁.heap->(∀b,H b≠none->b=a)->(H a≠none->K.lookup a=none) ->
   codeAny (model P w) callerA (.call (.ref fa) ⟨[.ref a],[]⟩) (λr s'=>r=.ok (.ret (.bool true))/\OldK s₁.heap s'.heap/\s'.os=s₁.os/\AllBare s'.gens) s₁:=by
  intro H hO hS hok hA hK
  have base_of:∀ {b:Addr} {o:Obj},s₁.heap.get? b=some o->H b=none->(hidT s₁.heap H).get? b=some o:=λe n=>qs1 e n
  have noA:∀ {b:Addr} {o:Obj} {es:Array DictEntry} {ep:Nat},s₁.heap.get? b=some o->o.data=.dict es ep->H b=none:=λ{b o es ep} e d=>by
   cases q:H b with
  |none=>rfl
  |some u =>
    have e':b=a:=hA b (by rw[q];simp)
    subst e'
    rw[ha] at e;cases e
    have d':Data.seq vs.toArray _=Data.dict es ep:=d
    cases d'
  have nsK:∀ {b:Addr} {m:Str->Option Value},s₁.heap.Ns b m->(hidT s₁.heap H).Ns b m:=λ{b m} ⟨o,es,ep,e,d,r⟩=>⟨o,es,ep,base_of e (noA e d),d,r⟩
  have hKb:K.In (hidT s₁.heap H):=λb o e=>base_of (KX b o e) (by
   cases q:H b with
  |none=>rfl
  |some u =>
    have e':b=a:=hA b (by rw[q];simp)
    subst e'
    rw[hK (by rw[q];simp)] at e;cases e)
  have hM:Mod K mg (hidT s₁.heap H):=⟨hKb,nsK hns,⟨mb,nsK hb,hbb⟩,let ⟨mc,h1,h2⟩:=hlim;⟨mc,nsK h1,h2⟩⟩
  have e0:Env0 P w K mg (hidT s₁.heap H) callerA [] s₁ H:=⟨rfl,hM,λb o e=>qww e,Nat.le_of_eq (qqg _ _),trivial,λb hb=>absurd (show b∈([]:List Addr) from hb) (by simp),hok,.of_eq hg⟩
  refine codeAny_mono ((F _ hKb (nsK hns)).run callerA [] s₁ H ⟨[.ref a],[]⟩ [.ref a] [.ref a] _ _ hr e0 (hbind s₁ (.ref a)) (.cons rfl .nil) (hsp H hO hS)) λr s' h=>?_
  cases r with
 |error e=>exact(hCX H e s' h).elim
 |ok fl =>
   cases fl with
  |next=>exact False.elim h
  |brk=>exact False.elim h
  |cont=>exact False.elim h
  |ret u =>
    obtain⟨v,H',os,bare,un,hok',r',q⟩:=h
    have q':v=.bl true:=q
    subst q'
    obtain rfl:u=Value.bool true:=r'
    refine⟨rfl,OldK.of_keep λb o e=>?_,os,bare⟩
    cases q:H b with
   |none=>exact un.keep b o e q (by intro z;exact absurd (show b∈([]:List Addr) from z) (by simp)) (by simp)
   |some u =>
     rcases hO b with z|⟨ob,xs,z⟩
     ·rw[q] at z;cases z
     ·have z2:=un.frzs b ob _ z
      obtain⟨e1,_⟩:=hok b _ z
      obtain⟨e2,_⟩:=hok' b _ z2
      rw[e] at e1;cases e1
      exact e2
 cases hk:K.lookup a with
|some o =>
  have e:=KX a o hk
  rw[ha] at e
  cases e
  refine core (λ_=>none) (λ_=>.inl rfl) (.inr ⟨_,vs.toArray,_,hk,rfl,rfl,rfl,by rw[List.size_toArray,lenV];exact hl,by simpa using rv⟩) (λb u z=>by have z':(none:Option HO)=some u:=z;cases z') (λb z=>absurd rfl z) λz=>absurd rfl z
|none =>
  refine core (λb=>if b=a then some (.frz { cls:=.type "list",data:=.seq vs.toArray } (.lst (ns.map V.int))) else none) (λb=>?_) (.inl (.inr ⟨{ cls:=.type "list",data:=.seq vs.toArray },if_pos rfl⟩)) (λb u z=>?_) (λb z=>?_) λ_=>hk
  ·by_cases hb:b=a
   ·exact .inr ⟨_,_,if_pos hb⟩
   ·exact .inl (if_neg hb)
  ·by_cases hb:b=a
   ·have z':=(if_pos hb).symm.trans z
    cases z'
    subst hb
    exact⟨ha,by rw[List.length_map];exact hl,vs,_,rv,ha⟩
   ·have z':=(if_neg hb).symm.trans z
    cases z'
  ·by_cases hb:b=a
   ·exact hb
   ·exact absurd (if_neg hb) z
end L2
namespace L2
open PySem PySem.Spec PyProof.Rows
theorem q2u{l:PySem.W.OpenLaw}{n k:Nat}{q:Program}{loose:List Str}{XP:(Str->Option Value)->Heap->Prop}{YP:World->Heap->Prop}{d:DefRec}{K:Params->PySem.W.Frag}{CX:World->CXT}{sp:World->Sp}{x:Str}
  (hn:l.most=some n) (hn2:n<=sizeLine) (hdf:d.params.defaults=[]) (hr:Room k callerA)
  (hY:∀(w:World) (h:Heap),YP w h->(K w.params).In h)
  (F:∀(w:World) (mg:Str->Option Value) (fa:Addr) (h:Heap),(K w.params).In h->h.Ns mainGlobals mg->mg d.name=some (.ref fa) ->
   ∃fd:FuncData,(∀(s:Shared) (u:Value),BindsTo s fd ⟨[u],[]⟩ [(x,u)]) /\
    ∀base:Heap,(K w.params).In base->base.Ns mainGlobals mg->FnOk l.prog w (K w.params) mg base (CX w) k fa fd [x] (sp w))
  (hsp:∀(w:World) (H:Hp) (a:Addr) (ns:List Int),ns.length<=n->Only H->SqL (K w.params) H a (ns.map V.int)->sp w [.ref a] H (λv _=>v=.bl true) λ_ _ _=>False)
  (hCX:∀(w:World) (H:Hp) (s:Shared) (e:Value) (s':Shared),CX w [] H s (λ_ _ _=>False) e s'->False) :
  PySem.W.WalkO q loose XP YP l.row.toRowW d [] (λf vs=>PySem.call f vs):=by
 refine Att.attach_call hn hdf λw s₀ s₁ mg mb fa o pm cd doc a vs ns G Y ho hd hcd hmg hobj hints hlen hg=>?_
 have KX:=hY w _ Y
 obtain⟨fd,hb,hF⟩:=F w mg fa _ KX G.T.g hmg
 exact qta KX G.T.g G.T.b G.T.builtins G.T.nolimit hg hobj hints (Nat.le_trans hlen hn2) hr hF hb (λH hO hS=>hsp w H a ns hlen hO hS) λH e s'=>hCX w H s₁ e s'
end L2
namespace L2
open PySem PySem.Spec PyProof.Rows
def qcw(s:Stmt):Arguments:=match s with
|.FunctionDef _ a _ _ _ _ _ _ _ _=>a
|_=>{ posonlyargs:=[],args:=[],vararg:=none,kwonlyargs:=[],kw_defaults:=[],kwarg:=none,defaults:=[] }
def qbx(s:Stmt):List Stmt:=match s with
|.FunctionDef _ _ b _ _ _ _ _ _ _=>b
|_=>[]
def qai(s:Stmt):Scope:=match s with
|.FunctionDef _ _ _ _ _ _ sc _ _ _=>sc
|_=>{ kind:=.function,names:=[],isGenerator:=false,isCoroutine:=false }
abbrev CX0:CXT:=λ_ _ _ _ _ _=>False
abbrev E0:XK:=λ_ _ _=>False
theorem q19{X:Cx}:qpg CX0 X E0:=λ_ _ _ _ _ _ _ h=>h.elim
structure Fun(K:PySem.W.Frag)(x qual:Str)(st:Stmt)(f:Addr)(fd:FuncData):Prop where
 ex:∃(oc:Value) (od:Option Addr) (kV doc pm:Value) (an:Option Addr) (cdv ct:Value) (osl:Array (Option Value)),
  fd=PySem.W.fnOf x qual (qcw st) (qbx st) (qai st) .none kV doc pm an cdv ct/\K.lookup f=some ⟨oc,od,.func fd,osl⟩/\PySem.W.codeIn K cdv qual=true
 kp:PySem.W.keepIn K (.ref f)=true
section
variable {P:Program} {w:World} {K:PySem.W.Frag} {mg:Str->Option Value} {base:Heap}
theorem Fun.ok{x qual:Str}{st:Stmt}{f:Addr}{fd:FuncData}{N ps:List Str}{k:Nat}{sp:Sp}(F:Fun K x qual st f fd)(S:FnScope N ps (qai st))(len:∀vs H Q E,sp vs H Q E->vs.length=ps.length)
  (hbody:∀(cdv:Value) (A:Around) (outer:List Env) (s:Shared) (H:Hp) (vs:List V) (Q:VK) (E:XK),Room k (A.deeper (envOfC qual (qai st) s.heap.objs.size f cdv))->sp vs H Q E ->
   ∃t,PSs (cxOf CX0 P w K mg base N qual (qai st) f cdv A outer s H E).nox (qbx st) t/\t { nx:=λ_ H'=>Q .non H',rt:=Q } (start N vs) H):FnOk P w K mg base CX0 (k+1) f fd ps sp:=by
 obtain⟨oc,od,kV,doc,pm,an,cdv,ct,osl,rfl,lk,hcd⟩:=F.ex
 refine q13 lk hcd S len λA outer s H vs Q E hr hsp=>?_
 obtain⟨t,h,q⟩:=hbody cdv A outer s H vs Q E hr hsp
 exact⟨t,h.nox,q⟩
theorem Fun.binds{x qual:Str}{st:Stmt}{f:Addr}{fd:FuncData}{ps:List Str}(F:Fun K x qual st f fd)
  (h:∀(kV doc pm:Value) (an:Option Addr) (cdv ct:Value) (us:List Value),us.length=ps.length->bindArgs (PySem.W.fnOf x qual (qcw st) (qbx st) (qai st) .none kV doc pm an cdv ct) ⟨us,[]⟩=pure (ps.zip us)):Binds K fd ps []:=by
 obtain⟨oc,od,kV,doc,pm,an,cdv,ct,osl,rfl,lk,hcd⟩:=F.ex
 exact .all (h kV doc pm an cdv ct)
theorem qu2{x qual:Str}{st:Stmt}{f:Addr}{oc:Value}{od an:Option Addr}{osl:Array (Option Value)}{kV doc pm cdv ct:Value}(l:K.lookup f=some ⟨oc,od,.func (PySem.W.fnOf x qual (qcw st) (qbx st) (qai st) .none kV doc pm an cdv ct),osl⟩)
  (c:PySem.W.codeIn K cdv qual=true) (k:PySem.W.keepIn K (.ref f)=true):Fun K x qual st f (PySem.W.fnOf x qual (qcw st) (qbx st) (qai st) .none kV doc pm an cdv ct):=⟨⟨oc,od,kV,doc,pm,an,cdv,ct,osl,rfl,l,c⟩,k⟩
end
section
variable {X:Cx}
end
theorem iteF{A B:Prop}(h:B):if false=true then A else B:=by
 rw[if_neg Bool.false_ne_true]
 exact h
theorem iteT{A B:Prop}(h:A):if true=true then A else B:=by
 rw[if_pos rfl]
 exact h
def Same(H H':Hp):Prop:=∀b o,H b=some o->H' b=some o
theorem Same.refl(H:Hp):Same H H:=λ_ _ h=>h
theorem Same.trans{H H1 H2:Hp}(a:Same H H1)(b:Same H1 H2):Same H H2:=λc o h=>b c o (a c o h)
theorem Same.free{H H':Hp}(e:Same H H'){l:Addr}(h:H' l=Option.none):H l=Option.none:=by
 cases q:H l with
|none=>rfl
|some o =>
  rw[e l o q] at h
  cases h
theorem Same.seq{K:PySem.W.Frag}{H H':Hp}{a:Addr}{xs:List V}(e:Same H H')(h:SqL K H a xs):SqL K H' a xs:=by
 rcases h with (h|⟨o,h⟩)|h
 ·exact .inl (.inl (e _ _ h))
 ·exact .inl (.inr ⟨o,e _ _ h⟩)
 ·exact .inr h
end L2
namespace L2
open PySem PySem.Spec PyProof.Rows
theorem qa6:1000<=sizeLine:=by decide
theorem qau{H:Hp}{l:Addr}(h:H l=none)(o:HO):Same H (upd H l o):=λb u e=>by
 rw[qa5 (qb8 e h)]
 exact e
theorem Same.put{H H':Hp}{p:Addr}{o:HO}(e:Same H H')(h:H p=none):Same H (upd H' p o):=λb u q=>by
 rw[qa5 (qb8 q h)]
 exact e b u q
theorem qdu{α:Type}{xs:List α}{k:Int}(h0:0<=k)(h1:k<(xs.length:Int)):∃v,atI xs k=some v/\xs[k.toNat]?=some v:=by
 have hk:k.toNat<xs.length:=by lia
 have e:xs[k.toNat]?=some xs[k.toNat]:=List.getElem?_eq_getElem hk
 refine⟨xs[k.toNat],?_,e⟩
 have:=qk7 e
 rw[Int.toNat_of_nonneg h0] at this
 exact this
theorem qyx{α β:Type}{f:α->β}{xs:List α}{k:Int}{v:α}(h:atI xs k=some v):atI (xs.map f) k=some (f v):=by
 unfold atI at h ⊢
 rw[List.length_map]
 cases e:ixN xs.length k with
|none =>
  rw[e] at h
  cases h
|some j =>
  rw[e] at h
  have h':xs[j]?=some v:=h
  show (xs.map f)[j]?=some (f v)
  rw[List.getElem?_map,h']
  rfl
def cutL{α:Type}(xs:List α)(lo hi:Option Int):List α:=(xs.drop (HT.sIx xs.length 0 lo)).take (HT.sIx xs.length xs.length hi-HT.sIx xs.length 0 lo)
theorem qsv{α:Type}(f:α->V)(xs:List α)(lo hi:Option Int):cutV (xs.map f) lo hi=(cutL xs lo hi).map f:=by
 unfold cutV cutL
 rw[List.length_map,List.map_take,List.map_drop]
theorem qge{α:Type}(xs:List α):cutL xs none (some (-1))=xs.dropLast:=by
 unfold cutL
 rw[HT.sIx_none]
 show (xs.drop 0).take ((if (-1:Int)<0 then ((-1:Int)+(xs.length:Int)).toNat else min (-1:Int).toNat xs.length)-0)=xs.dropLast
 rw[if_pos (by decide),List.drop_zero,List.dropLast_eq_take]
 congr 1
 lia
theorem qe7{α:Type}(xs:List α)(k:Nat):cutL xs none (some (k:Int))=xs.take k:=by
 unfold cutL
 rw[HT.sIx_none,HT.sIx_nat,List.drop_zero,Nat.sub_zero]
 by_cases h:k<=xs.length
 ·rw[Nat.min_eq_left h]
 ·rw[Nat.min_eq_right (by lia),List.take_length,List.take_of_length_le (by lia)]
theorem qps{α:Type}(xs:List α)(k:Nat):cutL xs (some (k:Int)) none=xs.drop k:=by
 unfold cutL
 rw[HT.sIx_none,HT.sIx_nat]
 by_cases h:k<=xs.length
 ·rw[Nat.min_eq_left h,List.take_of_length_le (by rw[List.length_drop];lia)]
 ·rw[Nat.min_eq_right (by lia),List.drop_length,List.drop_of_length_le (by lia),List.take_nil]
def Its(z:Str):It:=⟨λi _=>i<z.cps.size,λi H x H'=>H'=H/\∃c,z.cps[i]?=some c/\x=.str ⟨#[c]⟩,λi _=>z.cps.size<=i⟩
theorem qoy{P:Program}{w:World}{K:PySem.W.Frag}{tg:Expr}(it:Addr)(z:Str)(t:Tok):Turn P w K tg (Its z) [it] it (λi h=>h.IsStrIter it "str_ascii_iterator" z t i) where
 mem:=by simp
 obj:=λi h st b hb=>by
  have e:b=it:=by simpa using hb
  subst e
  obtain⟨o,e,c,d⟩:=st
  exact⟨o,e,λv z=>by rw[d] at z;cases z⟩
 keep:=λi h h' st k=>by
  obtain⟨o,e,r⟩:=st
  exact⟨o,k it (by simp) o e,r⟩
 item:=by
  intro X hP hw hK hc i pins s σ H E I hf st hg
  subst hP hw hK
  obtain⟨f0,f1,f2,f3,f4,f5⟩:=hf it (by simp)
  have hx:z.cps[i]?=some z.cps[i]:=Array.getElem?_eq_getElem hg
  refine wpAny_pyNext_ascii_item st hx λh' st' sb=>?_
  have I1:Inv X pins σ H { s with heap:=h',toks:=s.toks+1 }:=I.turned (λb o hb e=>(sb.2 b hb).trans e) f0 f1 f3 f4 f5
  obtain⟨o,e,c,d⟩:=id st'
  exact⟨_,rfl,qqe (s:={ s with heap:=h',toks:=s.toks+1 }) e c d (by decide) ⟨.str ⟨#[z.cps[i]]⟩,H,I1,⟨_,rfl⟩,⟨rfl,_,hx,rfl⟩,st',λb hb=>(hf b hb).1⟩⟩
 done:=by
  intro X hP hw hK hc i pins s σ H E I hf st hg
  subst hP hw hK
  obtain⟨f0,f1,f2,f3,f4,f5⟩:=hf it (by simp)
  exact wpAny_pyNext_ascii_end (I.ok.hd hc) st (Array.getElem?_eq_none hg) λh' eb=>⟨rfl,I.turned (t':=s.toks) (λb o hb e=>eb b o hb e) f0 f1 f3 f4 f5⟩
 self:=λ_ _ _ _ _ st h=>wpAny_pyIter_striter_ascii st h
theorem qrx{P:Program}{w:World}{K:PySem.W.Frag}{tg:Expr}(it:Addr)(z:Str)(t:Tok):Turn P w K tg (Its z) [it] it (λi h=>h.IsStrIter it "str_iterator" z t i) where
 mem:=by simp
 obj:=λi h st b hb=>by
  have e:b=it:=by simpa using hb
  subst e
  obtain⟨o,e,c,d⟩:=st
  exact⟨o,e,λv z=>by rw[d] at z;cases z⟩
 keep:=λi h h' st k=>by
  obtain⟨o,e,r⟩:=st
  exact⟨o,k it (by simp) o e,r⟩
 item:=by
  intro X hP hw hK hc i pins s σ H E I hf st hg
  subst hP hw hK
  obtain⟨f0,f1,f2,f3,f4,f5⟩:=hf it (by simp)
  have hx:z.cps[i]?=some z.cps[i]:=Array.getElem?_eq_getElem hg
  refine wpAny_pyNext_wide_item st hx λh' st' sb=>?_
  have I1:Inv X pins σ H { s with heap:=h',toks:=s.toks+1 }:=I.turned (λb o hb e=>(sb.2 b hb).trans e) f0 f1 f3 f4 f5
  obtain⟨o,e,c,d⟩:=id st'
  exact⟨_,rfl,qqe (s:={ s with heap:=h',toks:=s.toks+1 }) e c d (by decide) ⟨.str ⟨#[z.cps[i]]⟩,H,I1,⟨_,rfl⟩,⟨rfl,_,hx,rfl⟩,st',λb hb=>(hf b hb).1⟩⟩
 done:=by
  intro X hP hw hK hc i pins s σ H E I hf st hg
  subst hP hw hK
  obtain⟨f0,f1,f2,f3,f4,f5⟩:=hf it (by simp)
  exact wpAny_pyNext_wide_end (I.ok.hd hc) st (Array.getElem?_eq_none hg) λh' eb=>⟨rfl,I.turned (t':=s.toks) (λb o hb e=>eb b o hb e) f0 f1 f3 f4 f5⟩
 self:=λ_ _ _ _ _ st h=>wpAny_pyIter_striter_wide st h
section
variable {X:Cx} {tg:Expr}
end
def qa2:Expr->Bool
|.Starred ..=>false
|_=>true
theorem qbs{e:Expr}{es:List Expr}{env:Env}(h:qa2 e=true):starEach (e::es) env=(false,eval e env)::starEach es env:=by
 cases e<;>first|rfl|(exact absurd h Bool.false_ne_true)
theorem qey{env:Env}:∀ {es:List Expr},es.all qa2=true->starEach es env=es.map λe=>(false,eval e env)
|[],_=>rfl
|e::es,h=>by
  rw[List.all_cons,Bool.and_eq_true] at h
  rw[qbs h.1,qey h.2,List.map_cons]
theorem qff{es:List Expr}{env:Env}{pos:Pos}(h:es.all qa2=true):(backTo pos (starEach es env)).any (·.1)=false:=by
 rw[qey h]
 unfold backTo
 rw[List.map_map,List.any_eq_false]
 intro p hp
 obtain⟨e,_,rfl⟩:=List.mem_map.mp hp
 exact Bool.false_ne_true
theorem quc{es:List Expr}{env:Env}{pos:Pos}(h:es.all qa2=true):(backTo pos (starEach es env)).all (λx=>!x.1)=true:=by
 rw[qey h]
 unfold backTo
 rw[List.map_map,List.all_eq_true]
 intro p hp
 obtain⟨e,_,rfl⟩:=List.mem_map.mp hp
 rfl
section
variable {X:Cx} {x:Str} {p pos:Pos} {e:Expr} {es:List Expr} {te:TE} {t:TA} {id T:String} {r:List V->Hp->VK->Prop}
theorem pac(ha:PE X e te)(hr:PA X es t)(hs:qa2 e=true:=by rfl):PA X (e::es) (que te t):=qw4 ha hr (qbs hs)
theorem all2{e:Expr}{es:List Expr}(h:(e::es).all qa2=true):qa2 e=true/\es.all qa2=true:=by
 rw[List.all_cons,Bool.and_eq_true] at h
 exact h
theorem pcb(hc:CallR X (.builtin id) r)(hg:Gl X x)(hm:X.mg x=none)(hv:bootBuiltins x=some (.builtin id))(ha:PA X (e::es) t)(hp:(e::es).all qa2=true:=by rfl)(hn:x≠"__name__" := by decide)(hdb:(x==("__debug__" : Str))=false:=by decide) :
  PE X (.Call (.Name x p) (e::es) [] pos) (tCB r t):=qti hc hg hm hv ha hn hdb (qbs (all2 hp).1) (qff (all2 hp).2)
theorem pct(hc:CallR X (.type T) r)(hg:Gl X x)(hm:X.mg x=none)(hv:bootBuiltins x=some (.type T))(ha:PA X (e::es) t)(hp:(e::es).all qa2=true:=by rfl)(hn:x≠"__name__" := by decide)(hdb:(x==("__debug__" : Str))=false:=by decide) :
  PE X (.Call (.Name x p) (e::es) [] pos) (tCB r t):=qra hc hg hm hv ha hn hdb (qbs (all2 hp).1) (qff (all2 hp).2)
theorem pbm{o:Expr}{to:TE}{name:Str}{apos cpos:Pos}{r:V->List V->Hp->VK->Prop}(pa:PlainAttrs T)(slot:Slot T name id)(hty:typeOf (.builtin id)=pure (.type "method_descriptor"))(hm:MtR X id r)(ho:PE X o to)(ha:PA X (e::es) t)
  (hp:(e::es).all qa2=true:=by rfl) (hfew:decide ((e::es).length<30)=true:=by rfl) (hbase:attributeBase o name X.env (eval o X.env)=eval o X.env:=by rfl) (hline:(apos.endLine==cpos.line)=true:=by rfl) :
  PE X (.Call (.Attribute o name apos) (e::es) [] cpos) (tBM X.K T r to t):=by
 refine q2b pa slot hty hm ho ha hbase ?_ hline (qbs (all2 hp).1) (qff (all2 hp).2)
 rw[quc hp]
 exact hfew
theorem q2f{tg a:Expr}{ta:TA}(hg:Gl X "range")(hm:X.mg "range" = none)(ha:PA X [a] ta)(hp:qa2 a=true:=by rfl):PI X tg (.Call (.Name "range" p) [a] [] pos) (qwg ta):=qrb hg hm ha (qbs hp)
end
inductive Cal(P:Program)(w:World)(K:PySem.W.Frag)(mg:Str->Option Value)(base:Heap)(k:Nat)(x:Str)(ps:List Str)(sp:Sp):Prop where
|mk {f:Addr} {fd:FuncData} (F:FnOk P w K mg base CX0 k f fd ps sp) (hm:mg x=some (.ref f)) (hk:PySem.W.keepIn K (.ref f)=true) (hb:Binds K fd ps [])
section
variable {X:Cx} {k:Nat} {ps:List Str} {sp:Sp} {x:Str} {p pos:Pos} {e:Expr} {es:List Expr} {t:TA}
theorem qz3(C:Cal X.prog X.w X.K X.mg X.base k x ps sp)(hr:Room k X.A)(hg:Gl X x)(ha:PA X (e::es) t)(hp:(e::es).all qa2=true:=by rfl)(hdb:(x==("__debug__" : Str))=false:=by decide):PE X (.Call (.Name x p) (e::es) [] pos) (qyk sp [] E0 t):=by
 cases C with
|mk F hm hk hb=>exact qw7 F hr hg hm hk hb .nil q19 ha hdb (qbs (all2 hp).1) (qff (all2 hp).2)
end
section
variable {X:Cx}
end
theorem qs8{K:PySem.W.Frag}{T:String}:PySem.W.kitOne K (.type T) (.type T)=some true:=by
 unfold PySem.W.kitOne
 rw[if_pos (by simp)]
section
variable {X:Cx}
theorem qmb:∀ {ys:List Str} {us:List Value},Vals (ys.map V.str) us->∃l:List (Str×Tok),us=strValues l/\l.map (·.1)=ys
|[],_,r=>by
  cases r
  exact⟨[],rfl,rfl⟩
|y::ys,_,r=>by
  rw[List.map_cons] at r
  cases r with
 |cons r1 r2 =>
   obtain⟨t,e⟩:=r1
   subst e
   obtain⟨l,e1,e2⟩:=qmb r2
   subst e1
   exact⟨(y,t)::l,rfl,by rw[List.map_cons,e2]⟩
abbrev glue(sep:Str)(ys:List Str):Str:=Txt.join sep ys
theorem qwv:MtM X "str.join" (λx vs H Q=>∃(sep:Str) (l:Addr) (ys:List Str),x=.str sep/\vs=[.ref l]/\SqL X.K H l (ys.map V.str)/\(ys.map (·.length)).sum+ys.length*sep.length<=16777216/\Q (.str (glue sep ys)) H):=by
 intro pins s σ H x vs v us Q I rx rv h
 obtain⟨sep,l,ys,rfl,rfl,hq,hz,q⟩:=h
 obtain⟨t,rfl⟩:=rx
 obtain⟨u,rfl,ru⟩:=rv.one
 cases ru
 obtain⟨its,r,pl,_⟩:=I.list hq
 obtain⟨ts,e1,e2⟩:=qmb r
 subst e1
 refine SC.join pl.isList e2 ?_ λt' k=>⟨.str (glue sep ys),H,I.tok k,⟨t',rfl⟩,q⟩
 unfold JoinOk
 rw[StrLaws.joinTotal]
 have:Builtin.Str.tooLong ((ys.map (·.length)).sum+ys.length*sep.length)=false:=by
  unfold Builtin.Str.tooLong
  rw[sizeLine_eq]
  exact decide_eq_false (by lia)
 rw[this]
 rfl
theorem part_of{v:Value}{o:Option Int}(p:IsPart v o):∃l:Option (Int×Tok),v=partValue l/\l.map (·.1)=o:=by
 cases p with
|none=>exact⟨none,rfl,rfl⟩
|int i t=>exact⟨some (i,t),rfl,rfl⟩
theorem sl_str:SlR X (λx lo hi H Q=>∃z,x=.str z/\z.length<=sizeLine/\Q (.str (Txt.slice z lo hi)) H):=by
 intro pins s σ H x v vl vu lo hi sl Q I rx hs pl pu h
 obtain⟨z,rfl,hz,q⟩:=h
 obtain⟨t,rfl⟩:=rx
 obtain⟨l,e1,e2⟩:=part_of pl
 obtain⟨u,e3,e4⟩:=part_of pu
 subst e1 e2 e3 e4
 refine⟨"str",_,F.slot_str_getitem.lookup,typeIs_str _ _ _,?_⟩
 refine wpAny_getItem_str_slice (l:=l) (u:=u) (st:=none) hs rfl ?_
 exact post_val_or_str ⟨Nat.le_trans (Txt.slice_le z _ _) hz,λt' k=>⟨.str (Txt.slice z (l.map (·.1)) (u.map (·.1))),H,I.tok k,⟨t',rfl⟩,q⟩⟩
end
end L2
namespace HT
open PySem PyProof.Rows
section
variable {prog:Program} {w:World} {A:Around} {E:Value->Shared->Prop} {s:Shared}
theorem getItem_tuple_whole{t sl:Addr}{items:Array Value}{vl vu:Value}{lo hi:Option Int}{Q:Value->Shared->Prop}(ht:IsTup s.heap t items)(hs:s.heap.IsSliceOf sl vl vu .none)(pl:IsPart vl lo)(pu:IsPart vu hi)
  (hw:sIx items.size 0 lo=0/\sIx items.size items.size hi=items.size) (h:Q (.ref t) s):wpAny (model prog w) A (getItem (.ref t) (.ref sl)) Q E s:=by
 obtain⟨os,hos,hcs,hds⟩:=id hs
 have hTs:s.TypeIs (.ref sl) "slice" := ⟨os,hos,hcs⟩
 unfold getItem
 try with_reducible refine wpAny_holding ?_
 first|refine wpAny_bind (wpAny_pure ?_)|skip
 refine wpAny_bind (wpAny_sequenceKey ht.typeIs (by decide) ?_)
 refine wpAny_bind (wpAny_callSpecial?_slot (name:=Str.ofString "__getitem__") ht.typeIs PyProof.Rows.slot_tuple_getitem
  (wpAny_call_entry PyProof.Rows.slot_tuple_getitem ht.typeIs entry_tuple_getitem ?_ (args_tuple_getitem _ _)))
 show wpAny _ _ (Builtin.Tuple.tupleItemsOf (.ref t) >>= _) _ _ s
 refine wpAny_bind (tupleItemsOf_ ht ?_)
 refine wpAny_bind (wpAny_typeOf hTs ?_)
 rw[if_pos (by decide)]
 refine wpAny_bind (qdv hs pl pu ?_)
 have hyes:(((sIx items.size 0 lo:Nat):Int)==0&&(1:Int)==1&&(sIx items.size items.size hi-sIx items.size 0 lo)==items.size)=true:=by
  rw[hw.1,hw.2]
  simp
 show wpAny _ _ (if (((sIx items.size 0 lo:Nat):Int)==0&&(1:Int)==1&&(sIx items.size items.size hi-sIx items.size 0 lo)==items.size)=true then _ else _) _ _ s
 rw[if_pos hyes]
 refine wpAny_bind (m:=Builtin.Tuple.tupleIsExact _) ?_
 unfold Builtin.Tuple.tupleIsExact
 refine wpAny_bind (wpAny_typeOf ht.typeIs (wpAny_pure ?_))
 rw[if_pos (by decide)]
 exact wpAny_bind (wpAny_rule (wpAny_pure ⟨_,rfl,wpAny_pure h⟩))
end
end HT
namespace L2
open PySem PySem.Spec PyProof.Rows
section
variable {X:Cx}
end
theorem qc7{env:Env}{x:Str}{k:NameKind}:∀ {names:List (Str×NameKind)},
  (names.map λ(n,k)=>if (k==NameKind.free&&env.scope.kind==.function&&env.kindOf n==some .cell) then (n,NameKind.cell) else (n,k)).lookup x=some k->names.lookup x=some k\/(names.lookup x=some .free/\k=.cell)
|[],h=>by simp at h
|(n,k0)::r,h=>by
  have ih:=@qc7 env x k r
  rw[List.map_cons] at h
  have h:List.lookup x ((if (k0==NameKind.free&&env.scope.kind==.function&&env.kindOf n==some .cell)=true then (n,NameKind.cell) else (n,k0))::_)=some k:=h
  by_cases hc:(k0==NameKind.free&&env.scope.kind==.function&&env.kindOf n==some .cell)=true
  ·rw[if_pos hc,List.lookup_cons] at h
   rw[List.lookup_cons]
   cases hx:x==n with
  |true =>
    rw[hx] at h
    have e:NameKind.cell=k:=Option.some.inj h
    subst e
    have e0:k0=.free:=by
     rw[Bool.and_eq_true,Bool.and_eq_true] at hc
     exact eq_of_beq hc.1.1
    subst e0
    exact .inr ⟨rfl,rfl⟩
  |false =>
    rw[hx] at h
    exact ih h
  ·rw[if_neg hc,List.lookup_cons] at h
   rw[List.lookup_cons]
   cases hx:x==n with
  |true =>
    rw[hx] at h
    exact .inl h
  |false =>
    rw[hx] at h
    exact ih h
theorem qcg{csc:Scope}{env:Env}{x:Str}{k:NameKind}(h:(relabel csc env).names.lookup x=some k):csc.names.lookup x=some k\/(csc.names.lookup x=some .free/\k=.cell):=qc7 h
theorem qn7{csc:Scope}{env:Env}(h:∀y∈csc.names,y.2=.free->∃c,env.cells.lookup y.1=some c) :
  ∃cl,closureFor csc env=pure cl/\(∀x c,cl.lookup x=some c->env.cells.lookup x=some c)/\∀y∈csc.names,y.2=.free->∃c,cl.lookup y.1=some c:=by
 have key:∀(body:Str×NameKind->List (Str×Addr)->Sem (ForInStep (List (Str×Addr)))),
   (∀n k acc,body (n,k) acc=if (k==.free)=true then (cellOf env n >>= λc=>pure (ForInStep.yield ((n,c)::acc))) else pure (ForInStep.yield acc)) ->
   ∀(l:List (Str×NameKind)) (acc:List (Str×Addr)),(∀y∈l,y.2=.free->∃c,env.cells.lookup y.1=some c)->(∀x c,acc.lookup x=some c->env.cells.lookup x=some c) ->
   ∃cl,(forIn l acc body:Sem (List (Str×Addr)))=pure cl/\(∀x c,cl.lookup x=some c->env.cells.lookup x=some c)/\(∀y∈l,y.2=.free->∃c,cl.lookup y.1=some c)/\∀x c,acc.lookup x=some c->∃c',cl.lookup x=some c':=by
  intro body hb l
  induction l with
 |nil =>
   intro acc _ ha
   exact⟨acc,rfl,ha,λy hy=>(nomatch hy),λx c e=>⟨c,e⟩⟩
 |cons p r ih =>
   intro acc hl ha
   obtain⟨n,k⟩:=p
   have hr:∀y∈r,y.2=.free->∃c,env.cells.lookup y.1=some c:=λy hy=>hl y (List.mem_cons_of_mem _ hy)
   by_cases hk:k=.free
   ·subst hk
    obtain⟨c,hc⟩:=hl (n,.free) List.mem_cons_self rfl
    have ha':∀x d,((n,c)::acc).lookup x=some d->env.cells.lookup x=some d:=λx d e=>by
     rw[List.lookup_cons] at e
     cases hx:x==n with
    |true =>
      rw[hx] at e
      have e1:c=d:=Option.some.inj e
      subst e1
      rw[eq_of_beq hx]
      exact hc
    |false =>
      rw[hx] at e
      exact ha x d e
    obtain⟨cl,e1,e2,e3,e4⟩:=ih ((n,c)::acc) hr ha'
    refine⟨cl,?_,e2,λy hy hf=>?_,λx d e=>?_⟩
    ·rw[List.forIn_cons,hb,if_pos (by rfl)]
     have ec:cellOf env n=pure c:=by
      unfold cellOf
      rw[hc]
     rw[ec]
     exact e1
    ·rcases List.mem_cons.mp hy with e|hy
     ·subst e
      exact e4 n c (by rw[List.lookup_cons,beq_self_eq_true])
     ·exact e3 y hy hf
    ·cases hx:x==n with
    |true=>exact e4 x c (by rw[List.lookup_cons,hx])
    |false=>exact e4 x d (by rw[List.lookup_cons,hx];exact e)
   ·obtain⟨cl,e1,e2,e3,e4⟩:=ih acc hr ha
    refine⟨cl,?_,e2,λy hy hf=>?_,e4⟩
    ·have hk':(k==NameKind.free)=false:=by simpa using hk
     rw[List.forIn_cons,hb,hk',if_neg Bool.false_ne_true]
     exact e1
    ·rcases List.mem_cons.mp hy with e|hy
     ·subst e
      exact absurd hf hk
     ·exact e3 y hy hf
 obtain⟨cl,e1,e2,e3,_⟩:=key (λp acc=>if (p.2==.free)=true then (cellOf env p.1 >>= λc=>pure (ForInStep.yield ((p.1,c)::acc))) else pure (ForInStep.yield acc)) (λn k acc=>rfl) csc.names [] h (λx c e=>by simp at e)
 refine⟨cl,?_,e2,e3⟩
 have e4:closureFor csc env=(forIn csc.names [] (λp acc=>if (p.2==.free)=true then (cellOf env p.1 >>= λc=>pure (ForInStep.yield ((p.1,c)::acc))) else pure (ForInStep.yield acc)) >>= λcs=>pure cs):=rfl
 rw[e4,e1]
 rfl
structure CompScope(sc:Scope)(N NB M:List Str)(csc:Scope):Prop where
 kind:csc.kind=.function
 nocell:∀y∈csc.names,y.2≠.cell
 locs:∀y∈csc.names,y.2=.local->csc.names.lookup y.1=some .local
 free:∀y∈csc.names,y.2=.free->sc.names.lookup y.1=some .cell\/sc.names.lookup y.1=some .free
 nd:NB.Nodup
 len:NB.length=N.length+M.length
 old:∀p∈N.zip NB,csc.names.lookup p.2≠some .local/\(csc.names.lookup p.2=none\/p.1=p.2)
theorem CompScope.at{sc:Scope}{N NB M:List Str}{csc:Scope}(S:CompScope sc N NB M csc){i:Nat}{x:Str}(e:NB[i]?=some x)(hi:i<N.length):csc.names.lookup x≠some .local/\(csc.names.lookup x≠none->N[i]?=some x):=by
 have e1:N[i]?=some N[i]:=List.getElem?_eq_getElem hi
 have hm:(N[i],x)∈N.zip NB:=by
  apply List.mem_of_getElem? (i:=i)
  rw[List.getElem?_zip_eq_some]
  exact⟨e1,e⟩
 obtain⟨h1,h2⟩:=S.old _ hm
 refine⟨h1,λhn=>?_⟩
 rcases h2 with h2|h2
 ·exact absurd h2 hn
 ·rw[e1]
  exact congrArg some h2
def cxC(X:Cx)(NB:List Str)(csc:Scope)(cl:List (Str×Addr))(C:Addr)(s₀:Shared)(H₀:Hp)(fp:List Addr)(pn:List (Addr×Obj)):Cx where
 prog:=X.prog
 w:=X.w
 K:=X.K
 mg:=X.mg
 base:=X.base
 A:=X.A
 N:=NB
 s₀:=s₀
 H₀:=H₀
 env:=compEnvC csc cl C X.env
 outer:=X.stack
 stack:=X.stack
 ex:=fp
 fn:=λ_=>false
 calm:=X.calm
 pn:=pn
 xe:=λ_ _=>False
section
variable {X:Cx} {pins:List (Addr×Obj)} {σ:St} {H₀:Hp} {s₀:Shared} {NB M:List Str} {csc:Scope} {cl:List (Str×Addr)} {fp:List Addr}
theorem qn8{h₁:Heap}{tk:Nat}{m:Str->Option Value}(S:CompScope X.env.scope X.N NB M csc)(I:Inv X pins σ H₀ s₀)(hf:∀b∈fp,FpOk X pins H₀ b)(hlt:∀b∈fp,b<s₀.heap.objs.size)
  (c1:∀x c,cl.lookup x=some c->X.env.cells.lookup x=some c) (c2:∀y∈csc.names,y.2=.free->∃c,cl.lookup y.1=some c)
  (hn:h₁.Ns s₀.heap.objs.size m) (hk:∀b o,s₀.heap.get? b=some o->h₁.get? b=some o) :
  Inv (cxC X NB csc cl s₀.heap.objs.size s₀ H₀ fp (X.pn++pins)) [] (σ++List.replicate M.length none) H₀ { s₀ with heap:=h₁,toks:=tk }:=by
 have kindB:∀x,((relabel csc X.env).names.lookup x=some .cell\/(relabel csc X.env).names.lookup x=some .free)->csc.names.lookup x=some .free:=λx hx=>by
  rcases hx with hx|hx
  ·rcases qcg hx with z|⟨z,_⟩
   ·exact absurd rfl (S.nocell _ (PySem.mem_of_lookup z))
   ·exact z
  ·rcases qcg hx with z|⟨z,_⟩
   ·exact z
   ·exact z
 have hasC:∀x,csc.names.lookup x=some .free->∃c,cl.lookup x=some c:=λx hx=>c2 (x,.free) (PySem.mem_of_lookup hx) rfl
 refine⟨⟨I.ok.mod,S.kind,I.ok.glob,I.ok.blt,Nat.le_refl _,λx y c h1 h2=>I.ok.inj x y c (c1 x c h1) (c1 y c h2),λx hx=>hasC x (kindB x hx),λx c h _=>absurd h Bool.false_ne_true,I.ok.hd,I.ok.frames,.inl rfl,
   λb hb=>⟨Nat.ne_of_lt (hlt b hb),λx c e=>(hf b hb).2.2.2.2.1 x c (c1 x c e)⟩,I.bs,Nat.le_trans I.ok.bsz I.sz,λb o e hb=>?_,λb hb z=>?_,I.stack,I.stkFree⟩,
  rfl,I.bare,Un.kept hk,⟨m,hn,λi x v e1 e2 e3=>?_⟩,λx c e=>?_,I.fresh,λx c e=>I.freeC x c (c1 x c e),λp hp=>?_,I.hok.kept hk,?_⟩
 ·rcases (hf b hb).2.2.2.1 with z|z
  ·exact I.ok.noex b o e z
  ·exact absurd (Nat.lt_of_lt_of_le (Heap.lt_size e) (Nat.le_trans I.ok.bsz z)) (Nat.lt_irrefl _)
 ·rcases List.mem_cons.mp (I.stkSub b z) with e|e
  ·exact(hf b hb).2.1 e
  ·exact(hf b hb).2.2.1 e
 ·have hlen:=I.len
  have hi:i<X.N.length:=by
   apply Classical.byContradiction
   intro hi
   rw[List.getElem?_append_right (by lia),List.getElem?_replicate] at e2
   split at e2<;>cases e2
  have e2':σ[i]?=some (some v):=by
   rw[List.getElem?_append_left (by lia)] at e2
   exact e2
  obtain⟨nl,hN⟩:=S.at e1 hi
  have hfree:csc.names.lookup x=some .free:=by
   rcases e3 with z|z
   ·rcases qcg (show (relabel csc X.env).names.lookup x=some .local from z) with q|⟨_,q⟩
    ·exact absurd q nl
    ·cases q
   ·exact kindB x z
  have hN':=hN (by rw[hfree];intro z;cases z)
  have ok:=S.free (x,.free) (PySem.mem_of_lookup hfree) rfl
  obtain⟨m',hn',hl⟩:=I.loc
  obtain⟨u,r,l⟩:=hl i x v hN' e2' (.inr ok)
  rcases l with ⟨k,_⟩|⟨_,c,hc,hcell⟩
  ·have k':X.env.scope.names.lookup x=some .local:=k
   rcases ok with z|z
   ·rw[show X.env.scope.names.lookup x=some .cell from z] at k'
    cases k'
   ·rw[show X.env.scope.names.lookup x=some .free from z] at k'
    cases k'
  ·obtain⟨c',hc'⟩:=hasC x hfree
   have ec:c'=c:=by
    have:=c1 x c' hc'
    rw[hc] at this
    exact(Option.some.inj this).symm
   subst ec
   obtain⟨o,ho,hd⟩:=hcell
   refine⟨u,r,.inr ⟨?_,c',hc',o,hk _ _ ho,hd⟩⟩
   rcases e3 with z|z
   ·rcases qcg (show (relabel csc X.env).names.lookup x=some .local from z) with q|⟨_,q⟩
    ·exact absurd q nl
    ·cases q
   ·exact z
 ·obtain⟨v,o,ho,hd⟩:=I.cell x c (c1 x c e)
  exact⟨v,o,hk _ _ ho,hd⟩
 ·have hp':p∈(X.pn++pins)++[]:=hp
  rw[List.append_nil] at hp'
  obtain⟨e,n,ne,nf,d⟩:=I.pin p hp'
  exact⟨hk _ _ e,n,Nat.ne_of_lt (Heap.lt_size e),λz=>(List.mem_cons.mp (I.stkSub _ z)).elim ne nf,d⟩
 ·rw[List.length_append,List.length_replicate,I.len]
  exact S.len.symm
theorem qss{τ:St}{H:Hp}{s:Shared}{pins':List (Addr×Obj)}(I:Inv X pins σ H₀ s₀)(hf:∀b∈fp,FpOk X pins H₀ b)(B:Inv (cxC X NB csc cl s₀.heap.objs.size s₀ H₀ fp (X.pn++pins)) pins' τ H s) :
  Inv X pins σ H s/\FpOk X pins H s₀.heap.objs.size :=
 ⟨I.call' (ch:=fp) B.os B.base B.hok B.bare λb hb=>⟨(hf b hb).2.2.2.1,(hf b hb).2.1,(hf b hb).2.2.2.2.1,(hf b hb).2.2.2.2.2⟩,I.fpOk (Nat.le_refl _) B.free⟩
end
theorem qeq{prog:Program}{w:World}{A:Around}{R:Result->Shared->Prop}{s:Shared}{elt target iter:Expr}{ifs:List Expr}{scope:Scope}{pos:Pos}{it acc:Value}{env:Env}(I:Nat->Shared->Prop)
  (turn:∀n s,I n s->wpAny (model prog w) A (pyNext it) (λr s₁=>match r with
  |none=>R (.ok .next) s₁
  |  some v=>wpAny (model prog w) A (letOwnedTupleGo target it v) (λ_ s₁'=>wpAny (model prog w) A (assign target env v) (λ_ s₂ =>
     wpAny (model prog w) A (forIn ifs true λc r=>if r=true then do let ok ←isTrue c env (eval c env);pure (ForInStep.yield ok) else pure (ForInStep.yield r)) (λok s₃ =>
      if ok=true then wpAny (model prog w) A (eval elt env) (λx s₄ =>
       wpAny (model prog w) A (call (.builtin "list.append") [acc,x]) (λ_ s₅=>∃m,m<n/\I m s₅) (notedBy (model prog w) A env λe s'=>R (.error e) s') s₄) (notedBy (model prog w) A env λe s'=>R (.error e) s') s₃
      else ∃m,m<n/\I m s₃) (notedBy (model prog w) A env λe s'=>R (.error e) s') s₂) (notedBy (model prog w) A env λe s'=>R (.error e) s') s₁') (notedBy (model prog w) A env λe s'=>R (.error e) s') s₁)
    (notedBy (model prog w) A env λe s'=>R (.error e) s') s)
  (n:Nat) (h:I n s):codeAny (model prog w) A (.compLoop (.ListComp elt [⟨target,iter,ifs,0⟩] scope pos) 0 it acc env) R s:=by
 refine codeAny_loop rfl I (λn s hI=>?_) n h
 show wpAny _ A ((compTurn (.ListComp elt [⟨target,iter,ifs,0⟩] scope pos) 0 it acc env).onRaise (λx=>do noteFrame x env;theTreesLotGoes x)) _ _ s
 refine wpAny_noted ?_
 rw[compTurn_list]
 refine wpAny_bind (wpAny_standAt (wpAny_bind (wpAny_mono (turn n s hI) (λr s₁ h₁=>?_) λ_ _ h'=>h')))
 cases r with
|none=>exact wpAny_pure h₁
|some v =>
  refine wpAny_bind (wpAny_mono h₁ (λ_ s₁' h₁'=>?_) λ_ _ h'=>h')
  refine wpAny_bind (wpAny_mono h₁' (λ_ s₂ h₂=>wpAny_bind (wpAny_mono h₂ (λok s₃ h₃=>?_) λ_ _ h'=>h')) λ_ _ h'=>h')
  cases ok with
 |false=>exact wpAny_pure ⟨rfl,h₃⟩
 |true =>
   exact wpAny_bind (wpAny_bind (wpAny_mono h₃ (λx s₄ h₄=>wpAny_bind (wpAny_mono h₄ (λ_ s₅ h₅=>wpAny_pure (wpAny_pure ⟨rfl,h₅⟩)) λ_ _ h'=>h')) λ_ _ h'=>h'))
abbrev TF:=St->Hp->(Hp->Prop)->(Hp->Prop)->Prop
def PF(X:Cx)(ifs:List Expr)(t:TF):Prop :=
 ∀(pins:List (Addr×Obj)) (s:Shared) (σ:St) (H:Hp) (Y N:Hp->Prop),Inv X pins σ H s->t σ H Y N ->
  wpAny (model X.prog X.w) X.A (forIn ifs true λc r=>if r=true then do let ok ←isTrue c X.env (eval c X.env);pure (ForInStep.yield ok) else pure (ForInStep.yield r)) (λb s'=>∃H',Inv X pins σ H' s'/\if b=true then Y H' else N H') X.xe s
def fNil:TF:=λ_ H Y _=>Y H
theorem qxf{X:Cx}:PF X [] fNil:=λ_ _ _ H _ _ I h=>wpAny_tests_nil ⟨H,I,iteT h⟩
def qyl(wi:TI)(g:TG)(ti:TF)(te:TE)(k:Nat):TE:=λσ H Q=>wi σ H λJ H1=>∀p,H1 p=none->∃W:Nat->Nat->St->List V->Hp->Prop,(∃m,W 0 m (σ++List.replicate k none) [] (upd H1 p (.lst [])))/\∀i m τ xs H,W i m τ xs H ->
 (J.stop i H/\Q (.ref p) H)\/(J.go i H/\∀x H',J.yld i H x H'->g x τ H' λτ2 H2=>ti τ2 H2 (λH3=>te τ2 H3 λv H4=>H4 p=some (.lst xs)/\xs.length<sizeLine/\∃m',m'<m/\W (i+1) m' τ2 (xs++[v]) (upd H4 p (.lst (xs++[v]))))
  (λH3=>∃m',m'<m/\W (i+1) m' τ2 xs H3))
def PCp(X:Cx)(e:Expr)(t:TE):Prop:=∃elt tg iter ifs csc pos,e=.ListComp elt [⟨tg,iter,ifs,0⟩] csc pos /\
 ∀(ppos:Pos) (use:Option (Value->Sem Unit)) (R:Value->Shared->Prop) (pins:List (Addr×Obj)) (s:Shared) (σ:St) (H:Hp) (Q:VK),Inv X pins σ H s->t σ H Q ->
  (∀(D C:Addr) (s':Shared) (H':Hp),Inv X pins σ H' s'->FpOk X pins H' C->(∃m,s'.heap.Ns C m)->Q (.ref D) H'->compPost (model X.prog X.w) X.A X.xe use R (.ref D) C (.ok .next) s') ->
  wpAny (model X.prog X.w) X.A (comprehension (.ListComp elt [⟨tg,iter,ifs,0⟩] csc pos) csc X.env ppos (newList []) false (eval iter X.env) use) R X.xe s
section
variable {X:Cx}
theorem qw5{tg iter elt:Expr}{ifs:List Expr}{csc:Scope}{pos:Pos}{NB M:List Str}{wi:TI}{g:TG}{ti:TF}{te:TE}(hi:PI X tg iter wi)(hc:X.calm=true)(S:CompScope X.env.scope X.N NB M csc)
  (hg:∀cl C s₀ H₀ fp pn,PG (cxC X NB csc cl C s₀ H₀ fp pn) tg g) (hf:∀cl C s₀ H₀ fp pn,PF (cxC X NB csc cl C s₀ H₀ fp pn) ifs ti) (he:∀cl C s₀ H₀ fp pn,PE (cxC X NB csc cl C s₀ H₀ fp pn) elt te)
  (hs:∀x,foldedSetIterable iter X.env x=pure x:=by intro _;rfl):PCp X (.ListComp elt [⟨tg,iter,ifs,0⟩] csc pos) (qyl wi g ti te M.length):=by
 refine⟨elt,tg,iter,ifs,csc,pos,rfl,λppos use R pins s σ H Q I h fin=>?_⟩
 have hcell:∀y∈csc.names,y.2=.free->∃c,X.env.cells.lookup y.1=some c:=λy hy hfr=>I.ok.has y.1 (S.free y hy hfr)
 obtain⟨cl,hcl,c1,c2⟩:=qn7 hcell
 refine wpAny_comprehension_free rfl hs hcl S.kind S.locs ?_
 refine thn (hi pins s σ H _ I h) λv s1 h1=>thn h1 λitv s2 h2=>?_
 obtain⟨it,fp,tn,J,H2,e,I2,T,st2,f2,h2⟩:=h2
 subst e
 have hlt2:∀b∈fp,b<s2.heap.objs.size:=λb hb=>let ⟨_,e,_⟩:=T.obj _ _ st2 b hb;Heap.lt_size e
 refine wpAny_newObj_type (wpAny_newFunctionEnv S.nocell (by intro y hy;simp at hy) (λh₁ hns₁ hsb₁=>?_) S.kind)
 dsimp only at hns₁ hsb₁ ⊢
 have I0:Inv X pins σ (upd H2 s2.heap.objs.size (.lst [])) { s2 with heap:=s2.heap.push { cls:=.type "list",dict:=none,data:=.seq ([]:List Value).toArray } }:=I2.lnew (its:=[]) (t':=s2.toks) .nil (Nat.zero_le _)
 generalize hs0:({ s2 with heap:=s2.heap.push { cls:=.type "list",dict:=none,data:=.seq ([]:List Value).toArray } }:Shared)=s₀ at I0
 have hh:s2.heap.push { cls:=.type "list",dict:=none,data:=.seq ([]:List Value).toArray }=s₀.heap:=by rw[←hs0]
 rw[hh] at hns₁ hsb₁ ⊢
 have hsz:s2.heap.objs.size<s₀.heap.objs.size:=by rw[←hh,Heap.size_push];exact Nat.lt_succ_self _
 have hDn:H2 s2.heap.objs.size=none:=I2.fresh
 have f0:∀b∈fp,FpOk X pins (upd H2 s2.heap.objs.size (.lst [])) b:=λb hb=>⟨by rw[qa5 (Nat.ne_of_lt (hlt2 b hb))];exact(f2 b hb).1,(f2 b hb).2⟩
 have hlt:∀b∈fp,b<s₀.heap.objs.size:=λb hb=>Nat.lt_trans (hlt2 b hb) hsz
 have hk:∀b o,s₀.heap.get? b=some o->h₁.get? b=some o:=λb o e=>hsb₁.extBut b o (Nat.ne_of_lt (Heap.lt_size e)) (Heap.get?_push_of_some _ e)
 have hk2:∀b o,s2.heap.get? b=some o->h₁.get? b=some o:=λb o e=>hk b o (by rw[←hh];exact Heap.get?_push_of_some _ e)
 have st1:tn 0 h₁:=T.keep _ _ _ st2 λb _ o e=>hk2 b o e
 obtain⟨W,⟨m0,w0⟩,turn⟩:=h2 s2.heap.objs.size hDn
 have loop:∀s₃:Shared,s₃={ s₀ with heap:=h₁,toks:=s2.toks+([]:List (Str×Value)).length } ->
   codeAny (model X.prog X.w) X.A (.compLoop (.ListComp elt [⟨tg,iter,ifs,0⟩] csc pos) 0 (.ref it) (.ref s2.heap.objs.size) (compEnvC csc cl s₀.heap.objs.size X.env))
    (compPost (model X.prog X.w) X.A X.xe use R (.ref s2.heap.objs.size) s₀.heap.objs.size) s₃:=by
  rintro s₃ rfl
  have B0:=qn8 (cl:=cl) (tk:=s2.toks+([]:List (Str×Value)).length) S I0 f0 hlt c1 c2 hns₁ hk
  have fpB:∀ {H':Hp},(∀b∈fp,H' b=none)->∀b∈fp,FpOk (cxC X NB csc cl s₀.heap.objs.size s₀ (upd H2 s2.heap.objs.size (.lst [])) fp (X.pn++pins)) [] H' b:=λ{H'} hn b hb =>
   ⟨hn b hb,Nat.ne_of_lt (hlt b hb),B0.ok.exfs b hb,.inl hb,λx c e=>(f0 b hb).2.2.2.2.1 x c (c1 x c e),λp hp=>(f0 b hb).2.2.2.2.2 p (by
    have hp':p∈(X.pn++pins)++[]:=hp
    rw[List.append_nil] at hp'
    exact hp')⟩
  refine qeq (λn s'=>∃i τ xs H',Inv (cxC X NB csc cl s₀.heap.objs.size s₀ (upd H2 s2.heap.objs.size (.lst [])) fp (X.pn++pins)) [] τ H' s'/\tn i s'.heap/\(∀b∈fp,H' b=none)/\W i n τ xs H') ?_ m0
   ⟨0,_,[],_,B0,st1,λb hb=>(f0 b hb).1,w0⟩
  rintro n s3 ⟨i,τ,xs,H3,I3,st3,fr3,w3⟩
  rcases turn i n τ xs H3 w3 with ⟨stop,q⟩|⟨go,step⟩
  ·refine thn (T.done (cxC X NB csc cl s₀.heap.objs.size s₀ (upd H2 s2.heap.objs.size (.lst [])) fp (X.pn++pins)) rfl rfl rfl hc i [] s3 τ H3 _ I3 (fpB fr3) st3 stop) λr s4 ⟨hr,I4⟩=>?_
   subst hr
   obtain⟨IX,fpC⟩:=qss I0 f0 I4
   exact fin _ _ s4 H3 IX fpC (let ⟨m,hn,_⟩:=I4.loc;⟨m,hn⟩) q
  ·refine thn (T.item (cxC X NB csc cl s₀.heap.objs.size s₀ (upd H2 s2.heap.objs.size (.lst [])) fp (X.pn++pins)) rfl rfl rfl hc i [] s3 τ H3 _ I3 (fpB fr3) st3 go) λr s4 ⟨u,hr,h4⟩=>?_
   subst hr
   refine thn h4 λ_ s5 ⟨x,H5,I5,r5,y5,st5,fr5⟩=>?_
   have I5':=I5.pinned (fpB fr5) (T.obj _ _ st5)
   refine wpAny_mono (hg _ _ _ _ _ _ _ s5 τ H5 x u _ I5' r5 (step x H5 y5)) (λ_ s6 ⟨τ6,H6,I6,q6⟩=>?_) λ_ _ z=>False.elim z
   refine wpAny_mono (hf _ _ _ _ _ _ _ s6 τ6 H6 _ _ I6 q6) (λb s7 ⟨H7,I7,q7⟩=>?_) λ_ _ z=>False.elim z
   have again:∀ {τ7:St} {H7:Hp} {s7:Shared} {ys:List V},Inv (cxC X NB csc cl s₀.heap.objs.size s₀ (upd H2 s2.heap.objs.size (.lst [])) fp (X.pn++pins)) ([]++qki fp s5.heap) τ7 H7 s7->(∃m',m'<n/\W (i+1) m' τ7 ys H7) ->
     ∃m,m<n/\∃i τ xs H',Inv (cxC X NB csc cl s₀.heap.objs.size s₀ (upd H2 s2.heap.objs.size (.lst [])) fp (X.pn++pins)) [] τ H' s7/\tn i s7.heap/\(∀b∈fp,H' b=none)/\W i m τ xs H':=λ{τ7 H7 s7 ys} I7 w7=>by
    obtain⟨m',hm,w7⟩:=w7
    refine⟨m',hm,i+1,τ7,ys,H7,I7.unpinned,T.keep _ _ _ st5 λb hb o e=>(I7.pin (b,o) (List.mem_append_right _ (List.mem_append_right _ (qem hb e)))).1,λb hb=>?_,w7⟩
    obtain⟨o,e,d⟩:=T.obj _ _ st5 b hb
    exact(I7.pin (b,o) (List.mem_append_right _ (List.mem_append_right _ (qem hb e)))).2.1
   cases b with
  |false=>exact again I7 q7
  |true =>
    have q7':te τ6 H7 _:=q7
    refine wpAny_mono (he _ _ _ _ _ _ _ s7 τ6 H7 _ I7 q7') (λy s8 ⟨v8,H8,I8,r8,hl8,hz8,w8⟩=>?_) λ_ _ z=>False.elim z
    refine wpAny_mono (qgv (X:=(cxC X NB csc cl s₀.heap.objs.size s₀ (upd H2 s2.heap.objs.size (.lst [])) fp (X.pn++pins))) _ s8 τ6 H8 (.ref s2.heap.objs.size) [v8] (.ref s2.heap.objs.size) [y] (λ_ H9=>H9=upd H8 s2.heap.objs.size (.lst (xs++[v8]))) I8 rfl (.cons r8 .nil) ⟨_,xs,v8,rfl,rfl,hl8,hz8,rfl⟩) (λ_ s9 ⟨_,H9,I9,_,e9⟩=>?_) λ_ _ z=>False.elim z
    subst e9
    exact again I9 w8
 exact codeAny_compStart_list (loop _ (by rw[←hs0])) (T.self _ _ _ _ _ st1 (loop _ (by rw[←hs0])))
theorem PCp.pe{e:Expr}{t:TE}(h:PCp X e t):PE X e t:=by
 obtain⟨elt,tg,iter,ifs,csc,pos,rfl,h⟩:=h
 intro pins s σ H Q I hw
 rw[eval_ListComp]
 refine h _ none (EP X pins σ Q) pins s σ H Q I hw λD C s' H' IX fpC ⟨m,hn⟩ q=>⟨m,hn,λh' hs=>?_⟩
 exact⟨.ref D,H',IX.turned (t':=s'.toks) (λb o hb e=>(hs.2 b hb).trans e) fpC.1 fpC.2.1 fpC.2.2.2.1 fpC.2.2.2.2.1 fpC.2.2.2.2.2,rfl,q⟩
end
end L2
namespace L2
open PySem PySem.Spec PyProof.Rows
structure QE(X:Cx)(e:Expr)(t:TE):Prop where
 u:PE X e t
structure QT(X:Cx)(e:Expr)(t:TT):Prop where
 u:PT X e t
structure QW(X:Cx)(e:Expr)(t:TT):Prop where
 u:PW X e t
structure QA(X:Cx)(es:List Expr)(t:TA):Prop where
 u:PA X es t
structure QS(X:Cx)(st:Stmt)(t:TS):Prop where
 u:PS X st t
structure QSs(X:Cx)(st:List Stmt)(t:TS):Prop where
 u:PSs X st t
structure QI(X:Cx)(tg iter:Expr)(t:TI):Prop where
 u:PI X tg iter t
structure QG(X:Cx)(tg:Expr)(t:TG):Prop where
 u:PG X tg t
structure QGs(X:Cx)(ts:List Expr)(t:TGs):Prop where
 u:PGs X ts t
structure QO(X:Cx)(e:Option Expr)(t:TO):Prop where
 u:PO X e t
structure QF(X:Cx)(ifs:List Expr)(t:TF):Prop where
 u:PF X ifs t
structure QC(X:Cx)(e:Expr)(t:TE):Prop where
 u:PCp X e t
section
variable {X:Cx} {st:Stmt} {rest:List Stmt} {t u:TS} {a b c e o i:Expr} {ta tb tc te to ti:TE} {es:List Expr} {tA:TA} {tT tU:TT} {pos pos' p p2 apos cpos:Pos} {x name:Str} {n:Nat}
theorem qx1:QSs X [] q1d:=⟨qxk⟩
theorem qix(h:QS X st t):QSs X [st] t:=⟨qxl h.u⟩
theorem qiw(h:QS X st t)(r:QSs X rest u):QSs X (st::rest) (tSeq t u):=⟨qts h.u r.u⟩
theorem ql4(h:QE X e te)(hs:swapsWith e none pos.line X.env=pure false:=by rfl):QS X (.Expr e pos) (q1b te):=⟨qxj h.u hs⟩
theorem qkk(h:QE X e te):QS X (.Return (some e) pos) (tRet te):=⟨q0e h.u⟩
theorem q2n{a b:List Stmt}(hc:QT X c tT)(ha:QSs X a t)(hb:QSs X b u):QS X (.If c a b pos) (tIfS tT t u):=⟨q2g hc.u ha.u hb.u⟩
theorem qrh{i:Nat}(hN:X.N.Nodup)(hi:X.N[i]?=some x)(hx:Loc X.env.scope x)(h:QE X e te)(hs:swapsWith e (some (.Name x pos')) pos.line X.env=pure false:=by rfl)
  (hf:X.fn x=true\/X.env.scope.names.lookup x=some .local:=by first|exact .inl rfl|exact .inr rfl|assumption):QS X (.Assign [.Name x pos'] e pos) (tAsg te (qod i)):=⟨q0f hN hi hx h.u hs hf⟩
theorem qvf{tg iter:Expr}{body:List Stmt}{wi:TI}{g:TG}(hp:PassesOwn (model X.prog X.w) X.A X.env X.xe)(hc:X.calm=true)(hi:QI X tg iter wi)(hg:QG X tg g)(hb:QSs X body t)
  (hs:∀x,foldedSetIterable iter X.env x=pure x:=by intro _;rfl):QS X (.For tg iter body [] pos) (tFor wi g t):=⟨q0c hp hc hi.u hg.u hb.u hs⟩
theorem q0l{k:Int}{j:Nat}:QE X (.Constant (.int k) j pos) (tC (.int k)):=⟨qz5⟩
theorem q2i{k:Bool}{j:Nat}:QE X (.Constant (.bool k) j pos) (tC (.bl k)):=⟨q2a⟩
theorem q0n{z:Str}{j:Nat}:QE X (.Constant (.str z) j pos) (tC (.str z)):=⟨qz8⟩
theorem qv(i:Nat)(hN:X.N[i]?=some x:=by rfl)(hv:Vis X.env.scope x:=by first|exact Or.inl rfl|exact Or.inr (Or.inl rfl)|exact Or.inr (Or.inr rfl))(hd:(x==("__debug__" : Str))=false:=by decide)
  (hcd:(x==("__classdict__" : Str))=false:=by decide):QE X (.Name x pos) (tVar i):=⟨q0a hN hv hd hcd⟩
theorem qxs{v:V}{w:Value}(hg:Gl X x)(hm:X.mg x=none)(hv:bootBuiltins x=some w)(r:RelV v w)(hn:x≠"__name__" := by decide)(hd:(x==("__debug__" : Str))=false:=by decide):QE X (.Name x pos) (tC v):=⟨qw6 hg hm hv r hn hd⟩
theorem q2k{op:Operator}{r:R2}(ho:OpR X (binaryOp op) r)(ha:QE X a ta)(hb:QE X b tb):QE X (.BinOp a op b pos) (tOp r ta tb):=⟨q2d ho ha.u hb.u⟩
theorem q2l{op:UnaryOp}{r:V->Hp->VK->Prop}(ho:UnR X (unaryOp op) r)(ha:QE X a ta):QE X (.UnaryOp op a pos) (tUn r ta):=⟨q2e ho ha.u⟩
theorem qxt{op:CmpOp}{r:R2}(ho:OpR X (compareOp op) r)(ha:QE X a ta)(hb:QE X b tb)(hm:behindInMarks op b=false):QE X (.Compare a [op] [b] pos) (tOp r ta tb):=⟨qw8 ho ha.u hb.u hm⟩
theorem q0m{op:BoolOp}(h:QE X a ta):QE X (.BoolOp op [a] pos) ta:=⟨qz7 h.u⟩
theorem q0k(ha:QE X a ta)(hb:QE X (.BoolOp .And (b::es) pos) tb):QE X (.BoolOp .And (a::b::es) pos) (q08 ta tb):=⟨qz2 ha.u hb.u⟩
theorem qnn(hc:QT X c tT)(ha:QE X a ta)(hb:QE X b tb):QE X (.IfExp c a b pos) (tIf tT ta tb):=⟨qtn hc.u ha.u hb.u⟩
theorem q0o{k:Nat}(h:QA X es tA):QE X (.Tuple es k pos) (tTup tA):=⟨qz9 h.u⟩
theorem qve(h:QA X es tA):QE X (.List es pos) (tLst tA):=⟨qz6 h.u⟩
theorem qty{lo hi:Option Expr}{tl th:TO}{r:V->Option Int->Option Int->Hp->VK->Prop}(hr:SlR X r)(he:QE X e te)(hl:QO X lo tl)(hu:QO X hi th):QE X (.Subscript e (.Slice lo hi none p2) pos) (tSl r te tl th):=⟨qtp hr he.u hl.u hu.u⟩
theorem q2j{r:R2}(hr:IxR X r)(ha:QE X a ta)(hb:QE X b tb)(hs:qk5 b):QE X (.Subscript a b pos) (tOp r ta tb):=⟨q2c hr ha.u hb.u hs⟩
theorem qxy:QO X none qrv:=⟨qxg⟩
theorem qxz(h:QE X e te):QO X (some e) (q1e te):=⟨qxh h.u⟩
theorem qd9:QA X [] tNil:=⟨qz0⟩
theorem qac(ha:QE X e te)(hr:QA X es tA)(hs:qa2 e=true:=by rfl):QA X (e::es) (que te tA):=⟨pac ha.u hr.u hs⟩
theorem qnm{k:Nat}{ps:List Str}{sp:Sp}(C:Cal X.prog X.w X.K X.mg X.base k x ps sp)(hr:Room k X.A)(hg:Gl X x)(ha:QA X (e::es) tA)(hp:(e::es).all qa2=true:=by rfl)(hdb:(x==("__debug__" : Str))=false:=by decide) :
  QE X (.Call (.Name x p) (e::es) [] pos) (qyk sp [] E0 tA):=⟨qz3 C hr hg ha.u hp hdb⟩
theorem qcb{id:String}{r:List V->Hp->VK->Prop}(hc:CallR X (.builtin id) r)(hg:Gl X x)(hm:X.mg x=none)(hv:bootBuiltins x=some (.builtin id))(ha:QA X (e::es) tA)(hp:(e::es).all qa2=true:=by rfl)(hn:x≠"__name__" := by decide)
  (hdb:(x==("__debug__" : Str))=false:=by decide):QE X (.Call (.Name x p) (e::es) [] pos) (tCB r tA):=⟨pcb hc hg hm hv ha.u hp hn hdb⟩
theorem qct{T:String}{r:List V->Hp->VK->Prop}(hc:CallR X (.type T) r)(hg:Gl X x)(hm:X.mg x=none)(hv:bootBuiltins x=some (.type T))(ha:QA X (e::es) tA)(hp:(e::es).all qa2=true:=by rfl)(hn:x≠"__name__" := by decide)
  (hdb:(x==("__debug__" : Str))=false:=by decide):QE X (.Call (.Name x p) (e::es) [] pos) (tCB r tA):=⟨pct hc hg hm hv ha.u hp hn hdb⟩
theorem qbm{T id:String}{r:V->List V->Hp->VK->Prop}(pa:PlainAttrs T)(slot:Slot T name id)(hty:typeOf (.builtin id)=pure (.type "method_descriptor"))(hm:MtR X id r)(ho:QE X o to)(ha:QA X (e::es) tA)(hp:(e::es).all qa2=true:=by rfl)
  (hfew:decide ((e::es).length<30)=true:=by rfl) (hbase:attributeBase o name X.env (eval o X.env)=eval o X.env:=by rfl) (hline:(apos.endLine==cpos.line)=true:=by rfl) :
  QE X (.Call (.Attribute o name apos) (e::es) [] cpos) (tBM X.K T r to tA):=⟨pbm pa slot hty hm ho.u ha.u hp hfew hbase hline⟩
theorem qx2{op:CmpOp}{r:R2}(ho:OpR X (compareOp op) r)(ha:QE X a ta)(hb:QE X b tb)(hm:behindInMarks op b=false):QT X (.Compare a [op] [b] pos) (q1g (tOp r ta tb)):=⟨qxm ho ha.u hb.u hm⟩
theorem q0r(h:QT X a tT):QT X (.UnaryOp .Not a pos) (tNot tT):=⟨q0g h.u⟩
theorem q0s(h:QE X e te)(he:∀whole,isTrue e X.env whole=(do let v ←whole;standAt e.pos;holding [v] (truthy v)):=by intro _;rfl):QT X e (tB te):=⟨q0h h.u he⟩
theorem qx4(h:QT X a tT):QW X (.BoolOp .And [a] pos) tT:=⟨qxq h.u⟩
theorem q0u(h:QT X a tT):QW X (.BoolOp .Or [a] pos) tT:=⟨q0j h.u⟩
theorem q0t(ha:QT X a tT)(hb:QW X (.BoolOp .And (b::es) pos) tU):QW X (.BoolOp .And (a::b::es) pos) (tAnd tT tU):=⟨q0i ha.u hb.u⟩
theorem q2o(ha:QT X a tT)(hb:QW X (.BoolOp .Or (b::es) pos) tU):QW X (.BoolOp .Or (a::b::es) pos) (tOr tT tU):=⟨q2h ha.u hb.u⟩
theorem qw_t(h:QW X e tT):QT X e tT:=⟨h.u.pt⟩
theorem q2m{tg:Expr}(hg:Gl X "range")(hm:X.mg "range" = none)(ha:QA X [a] tA)(hp:qa2 a=true:=by rfl):QI X tg (.Call (.Name "range" p) [a] [] pos) (qwg tA):=⟨q2f hg hm ha.u hp⟩
theorem qrg{i:Nat}(hN:X.N.Nodup)(hi:X.N[i]?=some x)(hx:Loc X.env.scope x)(hf:X.fn x=true\/X.env.scope.names.lookup x=some .local:=by first|exact .inl rfl|exact .inr rfl|assumption):QG X (.Name x pos) (qod i):=⟨qxc hN hi hx hf⟩
theorem qxx:QF X [] fNil:=⟨qxf⟩
theorem qxr{tg iter elt:Expr}{ifs:List Expr}{csc:Scope}{NB M:List Str}{wi:TI}{g:TG}{ti:TF}(hi:QI X tg iter wi)(hc:X.calm=true)(S:CompScope X.env.scope X.N NB M csc)
  (hg:∀cl C s₀ H₀ fp pn,QG (cxC X NB csc cl C s₀ H₀ fp pn) tg g) (hf:∀cl C s₀ H₀ fp pn,QF (cxC X NB csc cl C s₀ H₀ fp pn) ifs ti) (he:∀cl C s₀ H₀ fp pn,QE (cxC X NB csc cl C s₀ H₀ fp pn) elt te)
  (hs:∀x,foldedSetIterable iter X.env x=pure x:=by intro _;rfl):QC X (.ListComp elt [⟨tg,iter,ifs,0⟩] csc pos) (qyl wi g ti te M.length) :=
 ⟨qw5 hi.u hc S (λcl C s₀ H₀ fp pn=>(hg cl C s₀ H₀ fp pn).u) (λcl C s₀ H₀ fp pn=>(hf cl C s₀ H₀ fp pn).u) (λcl C s₀ H₀ fp pn=>(he cl C s₀ H₀ fp pn).u) hs⟩
theorem qc_e(h:QC X e te):QE X e te:=⟨h.u.pe⟩
end
theorem Fun.okQ{P:Program}{w:World}{K:PySem.W.Frag}{mg:Str->Option Value}{base:Heap}{x qual:Str}{st:Stmt}{f:Addr}{fd:FuncData}{N ps:List Str}{k:Nat}{sp:Sp}(F:Fun K x qual st f fd)(S:FnScope N ps (qai st))(len:∀vs H Q E,sp vs H Q E->vs.length=ps.length)
  (hbody:∀(cdv:Value) (A:Around) (outer:List Env) (s:Shared) (H:Hp) (vs:List V) (Q:VK) (E:XK),Room k (A.deeper (envOfC qual (qai st) s.heap.objs.size f cdv))->sp vs H Q E ->
   ∃t,QSs (cxOf CX0 P w K mg base N qual (qai st) f cdv A outer s H E).nox (qbx st) t/\t { nx:=λ_ H'=>Q .non H',rt:=Q } (start N vs) H):FnOk P w K mg base CX0 (k+1) f fd ps sp :=
 F.ok S len λcdv A outer s H vs Q E hr hsp=>let ⟨t,h,q⟩:=hbody cdv A outer s H vs Q E hr hsp;⟨t,h.u,q⟩
end L2
namespace L2
open PySem PySem.Spec PyProof.Rows
def FlT(h:Heap)(a:Addr)(C:Value)(T:Addr)(fl:Value):Prop :=
 ∃oa vs oT ts,h.get? a=some oa/\(oa.cls=C/\oa.dict=none)/\oa.data=.fields vs/\vs[1]?=some (.ref T)/\T≠a/\h.get? T=some oT/\oT.data=.fields ts/\ts[3]?=some fl
structure Nk(fs ch:List Addr)(h g:Heap):Prop where
 keep:∀b o,b∉fs->b∉ch->h.get? b=some o->g.get? b=some o
 slot:∀b o,b∈fs->b∉ch->h.get? b=some o->∃sl,g.get? b=some { o with slots:=sl }
 there:∀b o,h.get? b=some o->∃u,g.get? b=some u
section
variable {M:Model} {A:Around} {E:Value->Shared->Prop} {s:Shared} {base:Heap} {env:Env} {outer:List Env} {L a T:Addr} {C:Value}
end
section
variable {X:Cx} {pins:List (Addr×Obj)} {σ:St} {H:Hp} {s:Shared} {a:Addr} {ts:List Addr} {C:Addr}
def FpN(X:Cx)(pins:List (Addr×Obj))(H:Hp)(b:Addr):Prop :=
 H b=none/\b≠X.env.locals/\b∉X.fs/\X.s₀.heap.get? b=none/\(∀x c,X.env.cells.lookup x=some c->c≠b)/\∀p∈X.pn++pins,p.1≠b
end
def CXR(P:Program)(w:World):CXT:=λouter H s E e s'=>∃a C H' T,e=.ref a/\s'.os=s.os/\AllBare s'.gens/\Un (frs outer) [] H H' s.heap s'.heap/\HOk P w H' s'.heap/\FlT s'.heap a (.ref C) T .none /\
 s.heap.get? a=none/\s.heap.get? T=none/\H' a=none/\H' T=none/\E (.ref C) none H'
section
variable {P:Program} {w:World} {K:PySem.W.Frag} {mg:Str->Option Value} {base:Heap}
end
inductive CalX(P:Program)(w:World)(K:PySem.W.Frag)(mg:Str->Option Value)(base:Heap)(k:Nat)(x:Str)(ps:List Str)(sp:Sp):Prop where
|mk {f:Addr} {fd:FuncData} (F:FnOk P w K mg base (CXR P w) k f fd ps sp) (hm:mg x=some (.ref f)) (hk:PySem.W.keepIn K (.ref f)=true) (hb:Binds K fd ps [])
section
variable {X:Cx} {k:Nat} {ps:List Str} {sp:Sp} {x:Str} {p pos:Pos} {e:Expr} {es:List Expr} {t:TA} {EX:St->XK}
end
section
variable {X:Cx} {pins:List (Addr×Obj)} {σ:St} {H:Hp} {s:Shared}
end
section
variable {X:Cx} {pins pins':List (Addr×Obj)} {σ:St} {H:Hp} {s:Shared} {E:Value->Shared->Prop} {e:Value}
end
abbrev TH:=Value->TS
def PH(X:Cx)(hs:List ExceptHandler)(th:TH):Prop :=
 ∀(pins:List (Addr×Obj)) (s:Shared) (σ:St) (H:Hp) (D:Ends) (a C U:Addr),Inv X pins σ H s->FlT s.heap a (.ref C) U .none->FpN X pins H a->FpN X pins H U->th (.ref C) D σ H ->
  wpAny (model X.prog X.w) X.A (handleBy (.ref a) X.env hs) (SP X pins D) X.xe s
structure QH(X:Cx)(hs:List ExceptHandler)(th:TH):Prop where
 u:PH X hs th
section
variable {X:Cx} {x:Str} {c:Value} {t:TS} {th:TH} {np pos:Pos} {b0:Stmt} {suite body:List Stmt} {rest:List ExceptHandler}
end
def excO(a C:Addr):HO:=.ext λh=>∃o,h.get? a=some o/\(o.cls=.ref C/\o.dict=none)/\PySem.W.notCls o=true
section
variable {X:Cx} {pins:List (Addr×Obj)} {σ:St} {H:Hp} {s:Shared} {a C:Addr}
end
section
variable {X:Cx} {x n:Str} {i:Nat} {c:Value} {t:TS} {th:TH} {np pos:Pos} {b0:Stmt} {suite body:List Stmt} {rest:List ExceptHandler}
end
open PySem.W
structure ExcK(K:Frag)(C:Addr):Prop where
 ga:findIn K (.ref C) "__getattribute__" = some (some (.builtin "BaseException.__getattribute__"))
 gn:findIn K (.ref C) "__getattr__" = some none
 gc:findIn K (.ref C) "__class__" = some (some (.builtin "object.__class__"))
 mo:mroIn K C (.type "object")=some true
 mb:mroIn K C (.type "BaseException")=some true
 hd:hasDictIn K C=true
section
variable {prog:Program} {w:World} {A:Around} {E:Value->Shared->Prop} {h:Heap} {g:Array GenState} {d:Drawn} {t:Nat} {os:OsState} {K:Frag} {a C:Addr} {o:Obj}
end
section
variable {X:Cx}
end
structure RoomH(k:Nat)(A:Around):Prop where
 dp:A.depth+3*k+5<recursionLimit
 un:A.units+16*k+200<cLine
structure FnOkH(P:Program)(w:World)(K:Frag)(mg:Str->Option Value)(base:Heap)(CX:CXT)(k:Nat)(f:Addr)(fd:FuncData)(ps:List Str)(sp:Sp):Prop where
 len:∀vs H Q E,sp vs H Q E->vs.length=ps.length
 run:∀(A:Around) (outer:List Env) (s:Shared) (H:Hp) (args:Args) (us:List Value) (vs:List V) (Q:VK) (E:XK),RoomH k A->Env0 P w K mg base A outer s H->BindsTo s fd args (ps.zip us)->Vals vs us->sp vs H Q E ->
  codeAny (model P w) A (.call (.ref f) args) (CR CX outer P w H s Q E) s
section
variable {P:Program} {w:World} {K:Frag} {mg:Str->Option Value} {base:Heap} {CX:CXT} {k:Nat} {f:Addr}
end
inductive CalH(P:Program)(w:World)(K:Frag)(mg:Str->Option Value)(base:Heap)(k:Nat)(x:Str)(ps:List Str)(sp:Sp):Prop where
|mk {f:Addr} {fd:FuncData} (F:FnOkH P w K mg base CX0 k f fd ps sp) (hm:mg x=some (.ref f)) (hk:keepIn K (.ref f)=true) (hb:Binds K fd ps [])
section
variable {X:Cx} {k:Nat} {ps:List Str} {sp:Sp} {x:Str} {p pos:Pos} {e:Expr} {es:List Expr} {t:TA}
end
end L2
namespace L2
open PySem PySem.Spec PyProof.Rows
section
variable {X:Cx} {o i e f value a b:Expr} {pos pos' tpos apos cpos:Pos} {td ty tv tx:TE}
theorem qxu(hu:X.A.units+1<cLine)(ho:QE X o td)(hi:QE X i ty)(hs:NoSl i:=by exact λ_ _=>rfl):QE X (.Subscript o i pos) (q09 td ty):=⟨qw9 hu ho.u hi.u hs⟩
theorem qrf(hu:X.A.units+1<cLine)(hi:QE X i ty)(ho:QE X o td)(hm:behindInMarks .NotIn o=false:=by with_unfolding_all rfl):QE X (.Compare i [.NotIn] [o] pos) (qmc ty td):=⟨qz4 (qkh hu hi.u ho.u) hm⟩
theorem q0q(hu:X.A.units+1<cLine)(hi:QE X i ty)(ho:QE X o td)(hm:behindInMarks .In o=false:=by with_unfolding_all rfl):QT X (.Compare i [.In] [o] pos) (tB (tDIn ty td)):=⟨qvd (qz1 hu hi.u ho.u) hm⟩
theorem qri(hu:X.A.units+1<cLine)(hi:QE X i ty)(ho:QE X o td)(hm:behindInMarks .NotIn o=false:=by with_unfolding_all rfl):QT X (.Compare i [.NotIn] [o] pos) (tB (qmc ty td)):=⟨qvd (qkh hu hi.u ho.u) hm⟩
theorem qx0(hu:X.A.units+1<cLine)(ho:QE X o td)(hi:QE X i ty)(hv:QE X value tv)(hs:swapsWith value (some (.Subscript o i pos')) pos.line X.env=pure false:=by rfl) :
  QS X (.Assign [.Subscript o i pos'] value pos) (q06 td ty tv):=⟨qxi hu ho.u hi.u hv.u hs⟩
theorem qtx:QE X (.Dict [] [] pos) qvq:=⟨qtm⟩
theorem qtw:QE X (.Dict [] [] pos) qvp:=⟨qtl⟩
theorem qtu(hu:X.A.units+1<cLine)(ho:QE X o td)(he:QE X e ty)(m:M1 X o "get" apos e cpos):QE X (.Call (.Attribute o "get" apos) [e] [] cpos) (qvn td ty):=⟨qtj hu ho.u he.u m⟩
theorem qtv(hu:X.A.units+1<cLine)(ho:QE X o td)(he:QE X e ty)(hf:QE X f tx)(m:M2 X o "get" apos e f cpos):QE X (.Call (.Attribute o "get" apos) [e,f] [] cpos) (qvo td ty tx):=⟨qtk hu ho.u he.u hf.u m⟩
end
end L2
namespace L2
open PySem PySem.Spec PyProof.Rows
inductive D where
|non
|bl (b:Bool)
|int (i:Int)
|str (x:Str)
|tup (xs:List D)
|lst (xs:List D)
|dT (ks:List (List Str)) (ds:List D)
|dK (ks:List Str) (ds:List D)
|scr (ns:List Int)
|kt (ss:List Str)
|exc (n:Str)
|io (c:Addr) (ds:List D)
|ioT (c:Addr) (ks:List (List Str)) (ds:List D)
def clsOf(K:PySem.W.Frag)(n:Str)(C:Addr):Prop:=PySem.W.nsIn K mainGlobals n=some (some (.ref C))
def wK(ws:List Str):List Key:=ws.map Sum.inr
def TupAt(K:PySem.W.Frag)(H:Hp)(a:Addr)(ds:List D)(xs:List V):Prop:=H a=some (.tup xs)\/(SqT K (λ_=>none) a xs/\ds=[.str "folder",.str ""])
mutual
def Rep(K:PySem.W.Frag)(H:Hp):D->V->Prop
|.non,v=>v=.non
|.bl b,v=>v=.bl b
|.int i,v=>v=.int i
|.str x,v=>v=.str x
|.tup ds,v=>∃a xs,v=.ref a/\TupAt K H a ds xs/\Reps K H ds xs
|.lst ds,v=>∃a xs,v=.ref a/\H a=some (.lst xs)/\Reps K H ds xs
|.dT ks ds,v=>∃a kvs,v=.ref a/\Rd H a (.dT kvs)/\kvs.map (·.1)=ks.map wK/\Reps K H ds (kvs.map (·.2))
|.dK ks ds,v=>∃a kvs,v=.ref a/\H a=some (.dK kvs)/\kvs.map (·.1)=ks.map Sum.inr/\Reps K H ds (kvs.map (·.2))
|.scr ns,v=>∃a,v=.ref a/\SqL K H a (ns.map V.int)
|.kt ss,v=>∃a,v=.ref a/\SqT K (λ_=>none) a (ss.map V.str)
|.exc n,v=>∃a C,v=.ref a/\H a=some (excO a C)/\clsOf K n C
|.io c ds,v=>∃xs,v=.ref c/\H c=some (.lst xs)/\Reps K H ds xs
|.ioT c ks ds,v=>∃kvs,v=.ref c/\H c=some (.dT kvs)/\kvs.map (·.1)=ks.map wK/\Reps K H ds (kvs.map (·.2))
def Reps(K:PySem.W.Frag)(H:Hp):List D->List V->Prop
|[],xs=>xs=[]
|d::ds,xs=>∃x r,xs=x::r/\Rep K H d x/\Reps K H ds r
end
noncomputable def eqD(d e:D):Bool:=@decide (d=e) (Classical.propDecidable _)
noncomputable def eqDs(d e:List D):Bool:=@decide (d=e) (Classical.propDecidable _)
theorem eqD_iff{d e:D}:eqD d e=true↔d=e:=@decide_eq_true_iff _ (Classical.propDecidable _)
theorem eqDs_iff{d e:List D}:eqDs d e=true↔d=e:=@decide_eq_true_iff _ (Classical.propDecidable _)
theorem quu{d e:D}(h:eqD d e=true):d=e:=eqD_iff.mp h
theorem qwc{d e:List D}(h:eqDs d e=true):d=e:=eqDs_iff.mp h
theorem qcp(d:D):eqD d d=true:=eqD_iff.mpr rfl
theorem qp4(d:List D):eqDs d d=true:=eqDs_iff.mpr rfl
theorem qcd{a b:Bool}(h:a=true↔b=true):a=b:=by cases a<;>cases b<;>simp_all
theorem qp3(ds es:List D):eqD (.tup ds) (.tup es)=eqDs ds es:=qcd (by rw[eqD_iff,eqDs_iff];exact⟨λh=>D.tup.inj h,λh=>h▸rfl⟩)
theorem qp2(ds es:List D):eqD (.lst ds) (.lst es)=eqDs ds es:=qcd (by rw[eqD_iff,eqDs_iff];exact⟨λh=>D.lst.inj h,λh=>h▸rfl⟩)
def dV:D->Option V
|.non=>some .non
|.bl b=>some (.bl b)
|.int i=>some (.int i)
|.str x=>some (.str x)
|_=>none
theorem qy2{d e:D}{v:V}(h:dV d=some v)(h':dV e=some v):d=e:=by
 cases d<;>cases e<;>simp_all [dV]<;>(subst h;simp_all)
theorem qif{d e:D}{v z:V}(h:dV d=some v)(h':dV e=some z):eqD d e=decide (v=z):=qcd (by
 rw[eqD_iff,decide_eq_true_iff]
 exact⟨λq=>by subst q;exact Option.some.inj (h.symm.trans h'),λq=>by subst q;exact qy2 h h'⟩)
mutual
def cmpD:D->D->Bool
|.tup a,.tup b=>qci a b
|.lst a,.lst b=>qci a b
|.non,.non=>true|.non,.int _=>true|.int _,.non=>true|.non,.bl _=>true|.bl _,.non=>true|.non,.str _=>true|.str _,.non=>true
|.int _,.int _=>true|.bl _,.bl _=>true|.str _,.str _=>true|.int _,.str _=>true|.str _,.int _=>true|.bl _,.str _=>true|.str _,.bl _=>true
|_,_=>false
def qci:List D->List D->Bool
|x::xs,y::ys=>cmpD x y&&qci xs ys
|_,_=>true
end
mutual
def depD:D->Nat
|.tup a=>qb4 a+1
|.lst a=>qb4 a+1
|_=>0
def qb4:List D->Nat
|[]=>0
|x::xs=>max (depD x) (qb4 xs)
end
theorem Same.emp(H:Hp):Same (λ_=>none) H:=λ_ _ h=>by cases h
theorem Same.sqT{K:PySem.W.Frag}{H H':Hp}(sm:Same H H'){a:Addr}{xs:List V}(h:SqT K H a xs):SqT K H' a xs:=by
 rcases h with (h|⟨o,h⟩)|h
 ·exact .inl (.inl (sm _ _ h))
 ·exact .inl (.inr ⟨o,sm _ _ h⟩)
 ·exact .inr h
theorem TupAt.sq{K:PySem.W.Frag}{H:Hp}{a:Addr}{ds:List D}{xs:List V}(h:TupAt K H a ds xs):SqT K H a xs:=h.elim SqT.of λq=>(Same.emp H).sqT q.1
theorem TupAt.same{K:PySem.W.Frag}{H H':Hp}{a:Addr}{ds:List D}{xs:List V}(h:TupAt K H a ds xs)(sm:Same H H'):TupAt K H' a ds xs:=h.elim (λq=>.inl (sm _ _ q)) .inr
section
variable {X:Cx} {pins:List (Addr×Obj)} {σ:St} {H:Hp} {s:Shared}
mutual
theorem Rep.inj(I:Inv X pins σ H s):∀ {d e:D} {v:V},Rep X.K H d v->Rep X.K H e v->cmpD d e=true->d=e
|.non,e,v,h,h',hc=>by
  unfold Rep at h
  subst h
  cases e<;>unfold Rep at h'<;>first|rfl|(obtain⟨_,_,z,_⟩:=h';cases z;done)|(obtain⟨_,z,_⟩:=h';cases z;done)|(cases h';done)
|.bl i,e,v,h,h',hc=>by
  unfold Rep at h
  subst h
  cases e<;>unfold Rep at h'<;>first|rfl|(obtain⟨_,_,z,_⟩:=h';cases z;done)|(obtain⟨_,z,_⟩:=h';cases z;done)|(cases h';rfl)|(cases h';done)
|.int i,e,v,h,h',hc=>by
  unfold Rep at h
  subst h
  cases e<;>unfold Rep at h'<;>first|rfl|(obtain⟨_,_,z,_⟩:=h';cases z;done)|(obtain⟨_,z,_⟩:=h';cases z;done)|(cases h';rfl)|(cases h';done)
|.str i,e,v,h,h',hc=>by
  unfold Rep at h
  subst h
  cases e<;>unfold Rep at h'<;>first|rfl|(obtain⟨_,_,z,_⟩:=h';cases z;done)|(obtain⟨_,z,_⟩:=h';cases z;done)|(cases h';rfl)|(cases h';done)
|.tup ds,e,v,h,h',hc=>by
  cases e with
 |tup es =>
   unfold Rep at h h'
   obtain⟨a,xs,rfl,ha,hr⟩:=h
   obtain⟨b,ys,z,hb,hs⟩:=h'
   cases z
   cases I.tuple_inj ha.sq hb.sq
   unfold cmpD at hc
   rw[Reps.inj I hr hs hc]
 |_=>unfold cmpD at hc;cases hc
|.lst ds,e,v,h,h',hc=>by
  cases e with
 |lst es =>
   unfold Rep at h h'
   obtain⟨a,xs,rfl,ha,hr⟩:=h
   obtain⟨b,ys,z,hb,hs⟩:=h'
   cases z
   rw[ha] at hb
   cases hb
   unfold cmpD at hc
   rw[Reps.inj I hr hs hc]
 |_=>unfold cmpD at hc;cases hc
|.dT _ _,e,_,_,_,h=>by cases e<;>(unfold cmpD at h;cases h)
|.dK _ _,e,_,_,_,h=>by cases e<;>(unfold cmpD at h;cases h)
|.scr _,e,_,_,_,h=>by cases e<;>(unfold cmpD at h;cases h)
|.kt _,e,_,_,_,h=>by cases e<;>(unfold cmpD at h;cases h)
|.exc _,e,_,_,_,h=>by cases e<;>(unfold cmpD at h;cases h)
|.io _ _,e,_,_,_,h=>by cases e<;>(unfold cmpD at h;cases h)
|.ioT _ _ _,e,_,_,_,h=>by cases e<;>(unfold cmpD at h;cases h)
theorem Reps.inj(I:Inv X pins σ H s):∀ {ds es:List D} {xs:List V},Reps X.K H ds xs->Reps X.K H es xs->qci ds es=true->ds=es
|[],es,xs,h,h',_=>by
  unfold Reps at h
  subst h
  cases es with
 |nil=>rfl
 |cons e es=>unfold Reps at h';obtain⟨_,_,z,_⟩:=h';cases z
|d::ds,es,xs,h,h',hc=>by
  unfold Reps at h
  obtain⟨x,r,rfl,h1,h2⟩:=h
  cases es with
 |nil=>unfold Reps at h';cases h'
 |cons e es =>
   unfold Reps at h'
   obtain⟨x',r',z,h3,h4⟩:=h'
   cases z
   unfold qci at hc
   rw[Bool.and_eq_true] at hc
   rw[Rep.inj I h1 h3 hc.1,Reps.inj I h2 h4 hc.2]
end
end
mutual
theorem Rep.same{K:PySem.W.Frag}{H H':Hp}(sm:Same H H'):∀ {d:D} {v:V},Rep K H d v->Rep K H' d v
|.non,_,h=>h
|.bl _,_,h=>h
|.int _,_,h=>h
|.str _,_,h=>h
|.tup _,_,h=>by
  unfold Rep at h ⊢
  obtain⟨a,xs,e,ha,r⟩:=h
  exact⟨a,xs,e,ha.same sm,Reps.same sm r⟩
|.lst _,_,h=>by
  unfold Rep at h ⊢
  obtain⟨a,xs,e,ha,r⟩:=h
  exact⟨a,xs,e,sm _ _ ha,Reps.same sm r⟩
|.dT _ _,_,h=>by
  unfold Rep at h ⊢
  obtain⟨a,xs,e,ha,k,r⟩:=h
  exact⟨a,xs,e,ha.elim (λq=>.inl (sm _ _ q)) λ⟨o,q⟩=>.inr ⟨o,sm _ _ q⟩,k,Reps.same sm r⟩
|.dK _ _,_,h=>by
  unfold Rep at h ⊢
  obtain⟨a,xs,e,ha,k,r⟩:=h
  exact⟨a,xs,e,sm _ _ ha,k,Reps.same sm r⟩
|.scr _,_,h=>by
  unfold Rep at h ⊢
  obtain⟨a,e,ha⟩:=h
  exact⟨a,e,sm.seq ha⟩
|.kt _,_,h=>h
|.exc _,_,h=>by
  unfold Rep at h ⊢
  obtain⟨a,C,e,ha,hc⟩:=h
  exact⟨a,C,e,sm _ _ ha,hc⟩
|.io _ _,_,h=>by
  unfold Rep at h ⊢
  obtain⟨xs,e,ha,r⟩:=h
  exact⟨xs,e,sm _ _ ha,Reps.same sm r⟩
|.ioT _ _ _,_,h=>by
  unfold Rep at h ⊢
  obtain⟨kvs,e,ha,k,r⟩:=h
  exact⟨kvs,e,sm _ _ ha,k,Reps.same sm r⟩
theorem Reps.same{K:PySem.W.Frag}{H H':Hp}(sm:Same H H'):∀ {ds:List D} {xs:List V},Reps K H ds xs->Reps K H' ds xs
|[],_,h=>h
|_::_,_,h=>by
  unfold Reps at h ⊢
  obtain⟨x,r,e,h1,h2⟩:=h
  exact⟨x,r,e,Rep.same sm h1,Reps.same sm h2⟩
end
theorem Reps.length{K:PySem.W.Frag}{H:Hp}:∀ {ds:List D} {xs:List V},Reps K H ds xs->ds.length=xs.length
|[],xs,h=>by unfold Reps at h;rw[h];rfl
|d::ds,xs,h=>by
  unfold Reps at h
  obtain⟨x,r,rfl,h1,h2⟩:=h
  rw[List.length_cons,List.length_cons,Reps.length h2]
theorem Reps.at{K:PySem.W.Frag}{H:Hp}:∀ {ds:List D} {xs:List V} {j:Nat} {d:D},Reps K H ds xs->ds[j]?=some d->∃x,xs[j]?=some x/\Rep K H d x
|[],xs,j,d,h,e=>by simp at e
|d0::ds,xs,0,d,h,e=>by
  unfold Reps at h
  obtain⟨x,r,rfl,h1,h2⟩:=h
  have e':d0=d:=by simpa using e
  subst e'
  exact⟨x,rfl,h1⟩
|d0::ds,xs,j+1,d,h,e=>by
  unfold Reps at h
  obtain⟨x,r,rfl,h1,h2⟩:=h
  obtain⟨y,h3,h4⟩:=Reps.at (j:=j) (d:=d) h2 (by simpa using e)
  exact⟨y,by simpa using h3,h4⟩
theorem qej:∀(ds es:List D),((List.range (min ds.length es.length)).all (λj=>eqD (ds.getD j .non) (es.getD j .non))&&ds.length==es.length)=eqDs ds es:=by
 intro ds es
 cases h:eqDs ds es with
|true =>
  have e:=qwc h
  subst e
  rw[Bool.and_eq_true]
  refine⟨?_,by simp⟩
  rw[List.all_eq_true]
  intro j _
  exact qcp _
|false =>
  apply Classical.byContradiction
  intro hn
  have ht:=eq_true_of_ne_false hn
  rw[Bool.and_eq_true,List.all_eq_true] at ht
  obtain⟨h1,h2⟩:=ht
  have hl:ds.length=es.length:=by simpa using h2
  have e:ds=es:=by
   apply List.ext_getElem hl
   intro i hi1 hi2
   have:=quu (h1 i (by rw[List.mem_range];lia))
   simpa [List.getD_eq_getElem?_getD,hi1,hi2] using this
  rw[e,qp4] at h
  cases h
theorem qmo:∀ {ds es:List D} {j:Nat} {d e:D},qci ds es=true->ds[j]?=some d->es[j]?=some e->cmpD d e=true
|[],_,j,d,e,_,h,_=>by simp at h
|_::_,[],j,d,e,_,_,h=>by simp at h
|d0::ds,e0::es,0,d,e,h,h1,h2=>by
  unfold qci at h
  rw[Bool.and_eq_true] at h
  have q1:d0=d:=by simpa using h1
  have q2:e0=e:=by simpa using h2
  subst q1 q2
  exact h.1
|d0::ds,e0::es,j+1,d,e,h,h1,h2=>by
  unfold qci at h
  rw[Bool.and_eq_true] at h
  exact qmo (j:=j) h.2 (by simpa using h1) (by simpa using h2)
theorem qmu:∀ {ds:List D} {j:Nat} {d:D},ds[j]?=some d->depD d<=qb4 ds
|[],j,d,h=>by simp at h
|d0::ds,0,d,h=>by
  have q:d0=d:=by simpa using h
  subst q
  unfold qb4
  exact Nat.le_max_left _ _
|d0::ds,j+1,d,h=>by
  have:=qmu (j:=j) (d:=d) (ds:=ds) (by simpa using h)
  unfold qb4
  exact Nat.le_trans this (Nat.le_max_right _ _)
section
variable {X:Cx} {pins:List (Addr×Obj)} {σ:St} {H:Hp} {s:Shared}
theorem qen{d:D}{v:V}(h:Rep X.K H d v){z:V}(e:dV d=some z):v=z:=by
 cases d<;>first|(unfold Rep at h;subst h;exact Option.some.inj e)|(cases e;done)
theorem ql8{d e:D}(h:cmpD d e=true)(h0:∀ds,d≠.tup ds)(h1:∀ds,d≠.lst ds):∃v z,dV d=some v/\dV e=some z/\scal v z=true:=by
 cases d<;>cases e<;>first|exact⟨_,_,rfl,rfl,rfl⟩|exact absurd rfl (h0 _)|exact absurd rfl (h1 _)|(unfold cmpD at h;cases h;done)
theorem qlf{d:D}{v:V}(h:dV d=some v):qf2 v=true:=by
 cases d<;>first|(cases h;rfl)|(cases h;done)
theorem qsz{v z:V}(h:scal v z=true)(hv:qf2 v=true):eqV v z=decide (v=z):=by
 cases v<;>cases z<;>first|(cases h;done)|(cases hv;done)|rfl|(simp[eqV];done)|(unfold eqV;exact qcd (by simp))
theorem qgl{A':Around}{ds es:List D}{xs ys:List V}{its its2:List Value}(r1:Reps X.K H ds xs)(r2:Reps X.K H es ys)(v1:Vals xs its)(v2:Vals ys its2)(hc:qci ds es=true)
  (ih:∀d∈ds,∀(e:D) (v z:V) (u w:Value),Rep X.K H d v->Rep X.K H e z->RelV v u->RelV z w->cmpD d e=true->SeqAt.EqAt A' s u w (eqD d e)) :
  ∀j (h1:j<its.toArray.size) (h2:j<its2.toArray.size),SeqAt.EqAt A' s its.toArray[j] its2.toArray[j] (eqD (ds.getD j .non) (es.getD j .non)):=λj h1 h2=>by
 have l1:j<ds.length:=by rw[r1.length,v1.length];simpa using h1
 have l2:j<es.length:=by rw[r2.length,v2.length];simpa using h2
 have q1:ds[j]?=some ds[j]:=List.getElem?_eq_getElem l1
 have q2:es[j]?=some es[j]:=List.getElem?_eq_getElem l2
 obtain⟨x,hx,rx⟩:=r1.at q1
 obtain⟨y,hy,ry⟩:=r2.at q2
 obtain⟨ux,hux,rux⟩:=v1.get hx
 obtain⟨uy,huy,ruy⟩:=v2.get hy
 have e1:its.toArray[j]=ux:=by
  have:its[j]?=some its.toArray[j]:=by simp
  rw[hux] at this
  exact(Option.some.inj this).symm
 have e2:its2.toArray[j]=uy:=by
  have:its2[j]?=some its2.toArray[j]:=by simp
  rw[huy] at this
  exact(Option.some.inj this).symm
 have e3:ds.getD j .non=ds[j]:=by simp[List.getD_eq_getElem?_getD,l1]
 have e4:es.getD j .non=es[j]:=by simp[List.getD_eq_getElem?_getD,l2]
 rw[e1,e2,e3,e4]
 exact ih ds[j] (List.getElem_mem l1) es[j] x y ux uy rx ry rux ruy (qmo hc q1 q2)
theorem qvh{A:Around}(I:Inv X pins σ H s){a b:Addr}{ds es:List D}{xs ys:List V}(ha:SqT X.K H a xs)(hb:SqT X.K H b ys)(r1:Reps X.K H ds xs)(r2:Reps X.K H es ys)(hc:qci ds es=true)(hu:A.units<cLine)
  (ih:∀d∈ds,∀(e:D) (v z:V) (u w:Value),Rep X.K H d v->Rep X.K H e z->RelV v u->RelV z w->cmpD d e=true->SeqAt.EqAt A.in1 s u w (eqD d e)):SeqAt.RcAt A s (.ref a) (.ref b) (eqD (.tup ds) (.tup es)):=by
 obtain⟨its,v1,p1,_⟩:=I.tuple ha
 obtain⟨its2,v2,p2,_⟩:=I.tuple hb
 have:=SeqAt.RcAt.tuples (A:=A) (s:=s) (e:=λj=>eqD (ds.getD j .non) (es.getD j .non)) (show s.heap.IsTuple a its.toArray from p1) (show s.heap.IsTuple b its2.toArray from p2) hu (qgl r1 r2 v1 v2 hc ih)
 rw[List.size_toArray,List.size_toArray,←v1.length,←v2.length,←r1.length,←r2.length,qej] at this
 rw[qp3]
 exact this
theorem qvg{A:Around}(I:Inv X pins σ H s){a b:Addr}{ds es:List D}{xs ys:List V}(ha:H a=some (.lst xs))(hb:H b=some (.lst ys))(r1:Reps X.K H ds xs)(r2:Reps X.K H es ys)(hc:qci ds es=true)(hu:A.units<cLine)
  (ih:∀d∈ds,∀(e:D) (v z:V) (u w:Value),Rep X.K H d v->Rep X.K H e z->RelV v u->RelV z w->cmpD d e=true->SeqAt.EqAt A.in1 s u w (eqD d e)):SeqAt.RcAt A s (.ref a) (.ref b) (eqD (.lst ds) (.lst es)):=by
 obtain⟨its,v1,p1,_⟩:=I.list (SqL.of ha)
 obtain⟨its2,v2,p2,_⟩:=I.list (SqL.of hb)
 have er:=qej ds es
 rw[qp2]
 by_cases hl:ds.length=es.length
 ·have hz:its.toArray.size=its2.toArray.size:=by rw[List.size_toArray,List.size_toArray,←v1.length,←v2.length,←r1.length,←r2.length,hl]
  have:=SeqAt.RcAt.lists (A:=A) (s:=s) (e:=λj=>eqD (ds.getD j .non) (es.getD j .non)) p1.isList p2.isList hz hu (qgl r1 r2 v1 v2 hc ih)
  rw[List.size_toArray,←v1.length,←r1.length] at this
  rw[←hl,Nat.min_self] at er
  have e2:(ds.length==ds.length)=true:=by simp
  rw[e2,Bool.and_true] at er
  rw[er] at this
  exact this
 ·have e2:(ds.length==es.length)=false:=by simpa using hl
  rw[e2,Bool.and_false] at er
  rw[←er]
  refine SeqAt.RcAt.lists_lengths p1.isList p2.isList ?_ hu
  rw[List.size_toArray,List.size_toArray,←v1.length,←v2.length,←r1.length,←r2.length]
  simpa using hl
theorem qce{ds:List D}{d:D}(h:d∈ds):depD d<=qb4 ds:=by
 obtain⟨j,hj⟩:=List.mem_iff_getElem?.mp h
 exact qmu hj
theorem qfy(I:Inv X pins σ H s):∀(n:Nat) (A:Around) (d e:D) (v z:V) (u w:Value),sizeOf d<=n->Rep X.K H d v->Rep X.K H e z->RelV v u->RelV z w->cmpD d e=true->A.units+depD d<cLine->SeqAt.EqAt A s u w (eqD d e)
|0,_,d,_,_,_,_,_,hn,_,_,_,_,_,_=>by cases d<;>simp at hn
|n+1,A,d,e,v,z,u,w,hn,hd,he,ru,rw',hc,hu=>by
  have un:A.in1.units=A.units+1:=rfl
  cases d with
 |tup ds =>
   cases e with
  |tup es =>
    have hd':=hd
    have he':=he
    unfold Rep at hd he
    obtain⟨a,xs,rfl,ha,r1⟩:=hd
    obtain⟨b,ys,rfl,hb,r2⟩:=he
    cases ru
    cases rw'
    unfold depD at hu
    by_cases hab:a=b
    ·subst hab
     rw[Rep.inj I hd' he' hc,qcp]
     exact SeqAt.EqAt.same _
    ·unfold cmpD at hc
     refine SeqAt.EqAt.of_refs hab (qvh I ha.sq hb.sq r1 r2 hc (by lia) λd hd e v z u w h1 h2 h3 h4 h5=>qfy I n A.in1 d e v z u w ?_ h1 h2 h3 h4 h5 ?_)
     ·have:=List.sizeOf_lt_of_mem hd
      simp at hn
      lia
     ·have:=qce hd
      lia
  |_=>unfold cmpD at hc;cases hc
 |lst ds =>
   cases e with
  |lst es =>
    have hd':=hd
    have he':=he
    unfold Rep at hd he
    obtain⟨a,xs,rfl,ha,r1⟩:=hd
    obtain⟨b,ys,rfl,hb,r2⟩:=he
    cases ru
    cases rw'
    unfold depD at hu
    by_cases hab:a=b
    ·subst hab
     rw[Rep.inj I hd' he' hc,qcp]
     exact SeqAt.EqAt.same _
    ·unfold cmpD at hc
     refine SeqAt.EqAt.of_refs hab (qvg I ha hb r1 r2 hc (by lia) λd hd e v z u w h1 h2 h3 h4 h5=>qfy I n A.in1 d e v z u w ?_ h1 h2 h3 h4 h5 ?_)
     ·have:=List.sizeOf_lt_of_mem hd
      simp at hn
      lia
     ·have:=qce hd
      lia
  |_=>unfold cmpD at hc;cases hc
 |_ =>
   obtain⟨v',z',q1,q2,q3⟩:=ql8 hc (λ_ h=>by cases h) (λ_ h=>by cases h)
   have e1:=qen hd q1
   have e2:=qen he q2
   subst e1 e2
   rw[qif q1 q2,←qsz q3 (qlf q1)]
   exact qut ru rw' (qlf q1) (qlf q2)
def rEqD(K:PySem.W.Frag)(g:Bool->Bool):R2:=λx y H Q=>∃d e,Rep K H d x/\Rep K H e y/\cmpD d e=true/\depD d<=50/\Q (.bl (g (eqD d e))) H
theorem qzt(hu:X.A.units+60<cLine):OpR X (compareOp .Eq) (rEqD X.K id):=by
 intro pins s σ H x y v u Q I rx ry h
 obtain⟨d,e,hd,he,hc,hn,q⟩:=h
 have fin:EP X pins σ Q (.bool (eqD d e)) s:=⟨.bl (eqD d e),H,I,rfl,q⟩
 have un:X.A.in1.units=X.A.units+1:=rfl
 cases d with
|tup ds =>
  cases e with
 |tup es =>
   unfold Rep at hd he
   obtain⟨a,xs,rfl,ha,r1⟩:=hd
   obtain⟨b,ys,rfl,hb,r2⟩:=he
   cases rx
   cases ry
   unfold cmpD at hc
   unfold depD at hn
   exact qvh I ha.sq hb.sq r1 r2 hc (by lia) (λd hd e v z u w h1 h2 h3 h4 h5=>qfy I _ X.A.in1 d e v z u w (Nat.le_refl _) h1 h2 h3 h4 h5 (by have:=qce hd;lia)) _ _ _ _ fin
 |_=>unfold cmpD at hc;cases hc
|lst ds =>
  cases e with
 |lst es =>
   unfold Rep at hd he
   obtain⟨a,xs,rfl,ha,r1⟩:=hd
   obtain⟨b,ys,rfl,hb,r2⟩:=he
   cases rx
   cases ry
   unfold cmpD at hc
   unfold depD at hn
   exact qvg I ha hb r1 r2 hc (by lia) (λd hd e v z u w h1 h2 h3 h4 h5=>qfy I _ X.A.in1 d e v z u w (Nat.le_refl _) h1 h2 h3 h4 h5 (by have:=qce hd;lia)) _ _ _ _ fin
 |_=>unfold cmpD at hc;cases hc
|_ =>
  obtain⟨v',z',q1,q2,q3⟩:=ql8 hc (λ_ h=>by cases h) (λ_ h=>by cases h)
  have e1:=qen hd q1
  have e2:=qen he q2
  subst e1 e2
  have q':Q (.bl (eqD _ _)) H:=q
  rw[qif q1 q2] at q'
  exact q15 pins s σ H _ _ v u Q I rx ry ⟨q3,q'⟩
end
end L2
namespace L2
open PySem PySem.Spec PyProof.Rows
inductive R where
|val (d:D)
|own (d:D)
|peek (d:D)
|exc (n:Str)
def R.d:R->D
|.val d=>d
|.own d=>d
|.peek d=>d
|.exc _=>.scr []
abbrev VSt:=List (Option R)
def ioA:D->Option Addr
|.io c _=>some c
|.ioT c _ _=>some c
|_=>none
def OwnAt(K:PySem.W.Frag)(B H:Hp)(d:D)(a:Addr):Prop:=match d with
|.lst ds=>∃xs,H a=some (.lst xs)/\Reps K B ds xs
|.dT ks ds=>∃kvs,H a=some (.dT kvs)/\kvs.map (·.1)=ks.map wK/\Reps K B ds (kvs.map (·.2))
|.dK ks ds=>∃kvs,H a=some (.dK kvs)/\kvs.map (·.1)=ks.map Sum.inr/\Reps K B ds (kvs.map (·.2))
|.io c ds=>∃xs,H a=some (.lst xs)/\a=c/\Reps K B ds xs
|.ioT c ks ds=>∃kvs,H a=some (.dT kvs)/\a=c/\kvs.map (·.1)=ks.map wK/\Reps K B ds (kvs.map (·.2))
|_=>False
def Pk(K:PySem.W.Frag)(B H:Hp)(r:R)(v:V):Prop:=match r with
|.val d=>Rep K B d v
|.own d=>∃a,v=.ref a/\B a=none/\OwnAt K B H d a
|.peek d=>∃a,v=.ref a/\B a=none/\OwnAt K B H d a
|.exc _=>False
def RepR(K:PySem.W.Frag)(B H0 H:Hp)(r:R)(v:V):Prop:=match r with
|.val d=>Rep K B d v
|.own d=>∃a,v=.ref a/\H0 a=none/\B a=none/\OwnAt K B H d a
|.peek d=>∃a,v=.ref a/\B a=none/\OwnAt K B H d a
|.exc _=>False
structure Stp(B H B' H':Hp):Prop where
 b:Same B B'
 h:Same H H'
 s:Same B' H'
 d:∀a,B' a≠none->B a≠none\/H a=none\/∃xs,H a=some (.tup xs)
theorem Stp.refl{B H:Hp}(s:Same B H):Stp B H B H:=⟨Same.refl _,Same.refl _,s,λ_ h=>.inl h⟩
theorem Stp.trans{B H B1 H1 B2 H2:Hp}(p:Stp B H B1 H1)(q:Stp B1 H1 B2 H2):Stp B H B2 H2 :=
 ⟨p.b.trans q.b,p.h.trans q.h,q.s,λa h=>by
  rcases q.d a h with z|z|⟨xs,z⟩
  ·exact p.d a z
  ·exact .inr (.inl (p.h.free z))
  ·cases e:H a with
  |none=>exact .inr (.inl rfl)
  |some o =>
    rw[p.h _ _ e] at z
    exact .inr (.inr ⟨xs,z⟩)⟩
theorem Stp.keep{B H B' H':Hp}(p:Stp B H B' H'){a:Addr}(hb:B a=none)(hh:H a≠none)(nt:∀xs,H a≠some (.tup xs)):B' a=none:=by
 cases e:B' a with
|none=>rfl
|some o =>
  rcases p.d a (by rw[e];exact λz=>by cases z) with z|z|⟨xs,z⟩
  ·exact absurd hb z
  ·exact absurd z hh
  ·exact absurd z (nt xs)
theorem Stp.grow{B H H':Hp}(s:Same B H)(h:Same H H'):Stp B H B H':=⟨Same.refl _,h,s.trans h,λ_ z=>.inl z⟩
theorem Stp.new{B H:Hp}{p:Addr}{o:HO}(s:Same B H)(hp:H p=none):Stp B H (upd B p o) (upd H p o) :=
 ⟨qau (s.free hp) o,qau hp o,λb u e=>by
  unfold upd at e ⊢
  by_cases z:b=p
  ·rw[if_pos z] at e ⊢
   exact e
  ·rw[if_neg z] at e ⊢
   exact s _ _ e,λa h=>by
  by_cases z:a=p
  ·exact .inr (.inl (z▸hp))
  ·rw[qa5 z] at h
   exact .inl h⟩
section
variable {K:PySem.W.Frag} {B H B' H' H0:Hp} {d:D} {a:Addr} {r:R} {v:V}
theorem OwnAt.some(h:OwnAt K B H d a):H a≠none:=by
 unfold OwnAt at h
 split at h
 ·obtain⟨xs,e,_⟩:=h;rw[e];exact λz=>by cases z
 ·obtain⟨xs,e,_⟩:=h;rw[e];exact λz=>by cases z
 ·obtain⟨xs,e,_⟩:=h;rw[e];exact λz=>by cases z
 ·obtain⟨xs,e,_⟩:=h;rw[e];exact λz=>by cases z
 ·obtain⟨xs,e,_⟩:=h;rw[e];exact λz=>by cases z
 ·exact h.elim
theorem OwnAt.nt(h:OwnAt K B H d a):∀xs,H a≠Option.some (.tup xs):=by
 intro ys
 unfold OwnAt at h
 split at h
 ·obtain⟨xs,e,_⟩:=h;rw[e];exact λz=>by cases z
 ·obtain⟨xs,e,_⟩:=h;rw[e];exact λz=>by cases z
 ·obtain⟨xs,e,_⟩:=h;rw[e];exact λz=>by cases z
 ·obtain⟨xs,e,_⟩:=h;rw[e];exact λz=>by cases z
 ·obtain⟨xs,e,_⟩:=h;rw[e];exact λz=>by cases z
 ·exact h.elim
theorem OwnAt.step(h:OwnAt K B H d a)(b:Same B B')(e:H' a=H a):OwnAt K B' H' d a:=by
 unfold OwnAt at h ⊢
 split at h
 ·obtain⟨xs,q,r⟩:=h;exact⟨xs,by rw[e,q],r.same b⟩
 ·obtain⟨xs,q,k,r⟩:=h;exact⟨xs,by rw[e,q],k,r.same b⟩
 ·obtain⟨xs,q,k,r⟩:=h;exact⟨xs,by rw[e,q],k,r.same b⟩
 ·obtain⟨xs,q,k,r⟩:=h;exact⟨xs,by rw[e,q],k,r.same b⟩
 ·obtain⟨xs,q,z,k,r⟩:=h;exact⟨xs,by rw[e,q],z,k,r.same b⟩
 ·exact h.elim
theorem Same.at{a:Addr}(h:Same H H')(n:H a≠none):H' a=H a:=by
 cases e:H a with
|none=>exact absurd e n
|some o=>exact h _ _ e
theorem Pk.step(h:Pk K B H r v)(p:Stp B H B' H'):Pk K B' H' r v:=by
 cases r with
|val d=>exact Rep.same p.b h
|own d =>
  obtain⟨a,e,q,o⟩:=h
  exact⟨a,e,p.keep q o.some o.nt,o.step p.b (p.h.at o.some)⟩
|peek d =>
  obtain⟨a,e,q,o⟩:=h
  exact⟨a,e,p.keep q o.some o.nt,o.step p.b (p.h.at o.some)⟩
|exc n=>exact h.elim
theorem RepR.pk(h:RepR K B H0 H r v):Pk K B H r v:=by
 cases r with
|val d=>exact h
|own d =>
  obtain⟨a,e,_,q,o⟩:=h
  exact⟨a,e,q,o⟩
|peek d=>exact h
|exc n=>exact h
theorem OwnAt.rep(s:Same B H)(h:OwnAt K B H d a):Rep K H d (.ref a):=by
 unfold OwnAt at h
 split at h
 ·obtain⟨xs,q,r⟩:=h;unfold Rep;exact⟨a,xs,rfl,q,r.same s⟩
 ·obtain⟨xs,q,k,r⟩:=h;unfold Rep;exact⟨a,xs,rfl,.inl q,k,r.same s⟩
 ·obtain⟨xs,q,k,r⟩:=h;unfold Rep;exact⟨a,xs,rfl,q,k,r.same s⟩
 ·obtain⟨xs,q,rfl,r⟩:=h;unfold Rep;exact⟨xs,rfl,q,r.same s⟩
 ·obtain⟨xs,q,rfl,k,r⟩:=h;unfold Rep;exact⟨xs,rfl,q,k,r.same s⟩
 ·exact h.elim
theorem Pk.rep(s:Same B H)(h:Pk K B H r v):Rep K H r.d v:=by
 cases r with
|val d=>exact Rep.same s h
|own d =>
  obtain⟨a,rfl,_,o⟩:=h
  exact o.rep s
|peek d =>
  obtain⟨a,rfl,_,o⟩:=h
  exact o.rep s
|exc n=>exact h.elim
theorem OwnAt.pub(h:OwnAt K B H d a)(hb:B a=none):∃o,H a=Option.some o/\Rep K (upd B a o) d (.ref a):=by
 unfold OwnAt at h
 split at h
 ·obtain⟨xs,q,r⟩:=h
  refine⟨_,q,?_⟩
  unfold Rep
  exact⟨a,xs,rfl,qa8,r.same (qau hb _)⟩
 ·obtain⟨xs,q,k,r⟩:=h
  refine⟨_,q,?_⟩
  unfold Rep
  exact⟨a,xs,rfl,.inl qa8,k,r.same (qau hb _)⟩
 ·obtain⟨xs,q,k,r⟩:=h
  refine⟨_,q,?_⟩
  unfold Rep
  exact⟨a,xs,rfl,qa8,k,r.same (qau hb _)⟩
 ·obtain⟨xs,q,rfl,r⟩:=h
  refine⟨_,q,?_⟩
  unfold Rep
  exact⟨xs,rfl,qa8,r.same (qau hb _)⟩
 ·obtain⟨xs,q,rfl,k,r⟩:=h
  refine⟨_,q,?_⟩
  unfold Rep
  exact⟨xs,rfl,qa8,k,r.same (qau hb _)⟩
 ·exact h.elim
theorem qg6{o:HO}(s:Same B H)(e:H a=Option.some o):Same (upd B a o) H:=λb u q=>by
 unfold upd at q
 by_cases z:b=a
 ·rw[if_pos z] at q
  rw[z,e]
  exact q
 ·rw[if_neg z] at q
  exact s _ _ q
def pubR:R->(D->Prop)->Prop
|.val d,Q=>Q d
|.own d,Q=>Q d
|.peek _,_=>False
|.exc _,_=>False
def exR:R->(R->Prop)->Prop->Prop
|.exc n,Q,_=>Q (.exc n)
|.val _,_,k=>k
|.own _,_,k=>k
|.peek _,_,k=>k
theorem pub{Q:D->Prop}(p:Stp B H B' H')(h:RepR K B' H H' r v)(q:pubR r Q):∃d B2,Stp B H B2 H'/\Same B' B2/\Rep K B2 d v/\Q d:=by
 cases r with
|val d=>exact⟨d,B',p,Same.refl _,h,q⟩
|own d =>
  obtain⟨a,rfl,h0,hb,o⟩:=h
  obtain⟨u,e,rp⟩:=o.pub hb
  refine⟨d,upd B' a u,⟨p.b.trans (qau hb _),p.h,qg6 p.s e,λc z=>?_⟩,qau hb _,rp,q⟩
  by_cases w:c=a
  ·exact .inr (.inl (w▸h0))
  ·rw[qa5 w] at z
   exact p.d c z
|peek d=>exact q.elim
|exc n=>exact q.elim
def FzD(K:PySem.W.Frag)(B:Hp)(d:D)(v:V):Prop:=∃a ks ds kvs o,d=.dT ks ds/\v=.ref a/\B a=some (.frz o (.dT kvs))/\kvs.map (·.1)=ks.map wK/\Reps K B ds (kvs.map (·.2))
mutual
def NewD(H0 B:Hp):D->V->Prop
|.lst ds,v=>∃a xs,v=.ref a/\B a=some (.lst xs)/\H0 a=none/\NewDs H0 B ds xs
|_,_=>True
def NewDs(H0 B:Hp):List D->List V->Prop
|d::ds,x::xs=>NewD H0 B d x/\NewDs H0 B ds xs
|_,_=>True
end
mutual
theorem NewD.same{H0 B B':Hp}(s:Same B B'):∀(d:D) (v:V),NewD H0 B d v->NewD H0 B' d v
|.lst ds,v,h=>by
  unfold NewD at h ⊢
  obtain⟨a,xs,e1,e2,e3,e4⟩:=h
  exact⟨a,xs,e1,s _ _ e2,e3,NewDs.same s ds xs e4⟩
|.non,_,_|.bl _,_,_|.int _,_,_|.str _,_,_|.tup _,_,_|.dT ..,_,_|.dK ..,_,_|.scr _,_,_|.kt _,_,_|.exc _,_,_|.io ..,_,_|.ioT ..,_,_=>by unfold NewD;trivial
theorem NewDs.same{H0 B B':Hp}(s:Same B B'):∀(ds:List D) (xs:List V),NewDs H0 B ds xs->NewDs H0 B' ds xs
|d::ds,x::xs,h=>by
  unfold NewDs at h ⊢
  exact⟨NewD.same s d x h.1,NewDs.same s ds xs h.2⟩
|[],_,_=>by unfold NewDs;trivial
|_::_,[],_=>by unfold NewDs;trivial
end
def q12(ds:List D):Prop:=∀d∈ds,match d with
|.lst _=>False
|_=>True
def NewR(H0 B:Hp)(d:D)(v:V):Prop:=match d with
|.tup ds=>q12 ds\/∃a xs,v=.ref a/\B a=some (.tup xs)/\NewDs H0 B ds xs
|_=>NewD H0 B d v
def FzAt(K:PySem.W.Frag)(H0 B:Hp)(d:D)(v:V):Prop:=FzD K B d v\/∃ds,d=.lst ds/\Rep K B d v/\NewD H0 B d v
theorem FzAt.same{H0:Hp}(h:FzAt K H0 B d v)(s:Same B B'):FzAt K H0 B' d v:=by
 rcases h with ⟨a,ks,ds,kvs,o,e1,e2,e3,e4,e5⟩|⟨ds,e,r,n⟩
 ·exact .inl ⟨a,ks,ds,kvs,o,e1,e2,s _ _ e3,e4,e5.same s⟩
 ·exact .inr ⟨ds,e,r.same s,NewD.same s _ _ n⟩
theorem FzAt.rep{H0:Hp}(h:FzAt K H0 B d v):Rep K B d v:=by
 rcases h with ⟨a,ks,ds,kvs,o,rfl,e2,e3,e4,e5⟩|⟨ds,e,r,n⟩
 ·unfold Rep
  exact⟨a,kvs,e2,.inr ⟨o,e3⟩,e4,e5⟩
 ·exact r
structure Slots(K:PySem.W.Frag)(H0 B H:Hp)(τ:VSt)(σ:St):Prop where
 len:σ.length=τ.length
 val:∀(i:Nat) (d:D),τ[i]?=some (some (R.val d))->∃v,σ[i]?=some (some v)/\Rep K B d v
 fz:∀(i:Nat) (d:D),τ[i]?=some (some (R.peek d))->∃v,σ[i]?=some (some v)/\FzAt K H0 B d v
 own:∀(i:Nat) (d:D),τ[i]?=some (some (R.own d))->∃a,σ[i]?=some (some (.ref a))/\H0 a=none/\B a=none/\OwnAt K B H d a
 sep:∀(i j:Nat) (d e:D) (a:Addr),τ[i]?=some (some (R.own d))->τ[j]?=some (some (R.own e))->σ[i]?=some (some (.ref a))->σ[j]?=some (some (.ref a))->i=j
variable {τ:VSt} {σ:St}
theorem Slots.step(S:Slots K H0 B H τ σ)(p:Stp B H B' H'):Slots K H0 B' H' τ σ where
 len:=S.len
 val:=λi d e=>let ⟨v,q,r⟩:=S.val i d e;⟨v,q,r.same p.b⟩
 fz:=λi d e=>let ⟨v,q,r⟩:=S.fz i d e;⟨v,q,r.same p.b⟩
 own:=λi d e=>let ⟨a,q,h0,hb,o⟩:=S.own i d e;⟨a,q,h0,p.keep hb o.some o.nt,o.step p.b (p.h.at o.some)⟩
 sep:=S.sep
theorem qbq{α:Type}{xs:List α}{i j:Nat}{x y:α}(h:(xs.set i x)[j]?=some y):(i=j/\x=y/\i<xs.length)\/(i≠j/\xs[j]?=some y):=by
 by_cases e:i=j
 ·subst e
  by_cases l:i<xs.length
  ·rw[List.getElem?_set_self l] at h
   exact .inl ⟨rfl,Option.some.inj h,l⟩
  ·rw[List.getElem?_eq_none (by rw[List.length_set];lia)] at h
   cases h
 ·rw[List.getElem?_set_ne e] at h
  exact .inr ⟨e,h⟩
theorem Slots.setVal(S:Slots K H0 B H τ σ)(i:Nat)(h:Rep K B d v):Slots K H0 B H (τ.set i (some (.val d))) (σ.set i (some v)) where
 len:=by rw[List.length_set,List.length_set,S.len]
 val:=λj e q=>by
  rcases qbq q with ⟨rfl,z,l⟩|⟨n,q⟩
  ·cases z
   exact⟨v,List.getElem?_set_self (by rw[S.len];exact l),h⟩
  ·obtain⟨w,q,r⟩:=S.val j e q
   exact⟨w,by rw[List.getElem?_set_ne n];exact q,r⟩
 fz:=λj e q=>by
  rcases qbq q with ⟨rfl,z,l⟩|⟨n,q⟩
  ·cases z
  ·obtain⟨w,q,r⟩:=S.fz j e q
   exact⟨w,by rw[List.getElem?_set_ne n];exact q,r⟩
 own:=λj e q=>by
  rcases qbq q with ⟨rfl,z,l⟩|⟨n,q⟩
  ·cases z
  ·obtain⟨w,q,r⟩:=S.own j e q
   exact⟨w,by rw[List.getElem?_set_ne n];exact q,r⟩
 sep:=λj k e f c q1 q2 q3 q4=>by
  rcases qbq q1 with ⟨rfl,z,l⟩|⟨n,q1⟩
  ·cases z
  rcases qbq q2 with ⟨rfl,z,l⟩|⟨n2,q2⟩
  ·cases z
  rw[List.getElem?_set_ne n] at q3
  rw[List.getElem?_set_ne n2] at q4
  exact S.sep j k e f c q1 q2 q3 q4
theorem Slots.setNone(S:Slots K H0 B H τ σ)(i:Nat)(w:Option V):Slots K H0 B H (τ.set i none) (σ.set i w) where
 len:=by rw[List.length_set,List.length_set,S.len]
 val:=λj e q=>by
  rcases qbq q with ⟨rfl,z,l⟩|⟨n,q⟩
  ·cases z
  ·obtain⟨w,q,r⟩:=S.val j e q
   exact⟨w,by rw[List.getElem?_set_ne n];exact q,r⟩
 fz:=λj e q=>by
  rcases qbq q with ⟨rfl,z,l⟩|⟨n,q⟩
  ·cases z
  ·obtain⟨w,q,r⟩:=S.fz j e q
   exact⟨w,by rw[List.getElem?_set_ne n];exact q,r⟩
 own:=λj e q=>by
  rcases qbq q with ⟨rfl,z,l⟩|⟨n,q⟩
  ·cases z
  ·obtain⟨w,q,r⟩:=S.own j e q
   exact⟨w,by rw[List.getElem?_set_ne n];exact q,r⟩
 sep:=λj k e f c q1 q2 q3 q4=>by
  rcases qbq q1 with ⟨rfl,z,l⟩|⟨n,q1⟩
  ·cases z
  rcases qbq q2 with ⟨rfl,z,l⟩|⟨n2,q2⟩
  ·cases z
  rw[List.getElem?_set_ne n] at q3
  rw[List.getElem?_set_ne n2] at q4
  exact S.sep j k e f c q1 q2 q3 q4
theorem Slots.setOwn(S:Slots K H0 B H τ σ)(i:Nat)(h0:H0 a=none)(hb:B a=none)(o:OwnAt K B H d a)(nw:∀(j:Nat) (e:D),τ[j]?=some (some (.own e))->σ[j]?≠some (some (.ref a))) :
  Slots K H0 B H (τ.set i (some (.own d))) (σ.set i (some (.ref a))) where
 len:=by rw[List.length_set,List.length_set,S.len]
 val:=λj e q=>by
  rcases qbq q with ⟨rfl,z,l⟩|⟨n,q⟩
  ·cases z
  ·obtain⟨w,q,r⟩:=S.val j e q
   exact⟨w,by rw[List.getElem?_set_ne n];exact q,r⟩
 fz:=λj e q=>by
  rcases qbq q with ⟨rfl,z,l⟩|⟨n,q⟩
  ·cases z
  ·obtain⟨w,q,r⟩:=S.fz j e q
   exact⟨w,by rw[List.getElem?_set_ne n];exact q,r⟩
 own:=λj e q=>by
  rcases qbq q with ⟨rfl,z,l⟩|⟨n,q⟩
  ·cases z
   exact⟨a,List.getElem?_set_self (by rw[S.len];exact l),h0,hb,o⟩
  ·obtain⟨w,q,r⟩:=S.own j e q
   exact⟨w,by rw[List.getElem?_set_ne n];exact q,r⟩
 sep:=λj k e f c q1 q2 q3 q4=>by
  rcases qbq q1 with ⟨rfl,z,l⟩|⟨n,q1⟩
  ·rcases qbq q2 with ⟨rfl,z,l2⟩|⟨n2,q2⟩
   ·rfl
   ·rw[List.getElem?_set_self (by rw[S.len];exact l)] at q3
    cases q3
    rw[List.getElem?_set_ne n2] at q4
    exact absurd q4 (nw k f q2)
  ·rcases qbq q2 with ⟨rfl,z,l2⟩|⟨n2,q2⟩
   ·rw[List.getElem?_set_self (by rw[S.len];exact l2)] at q4
    cases q4
    rw[List.getElem?_set_ne n] at q3
    exact absurd q3 (nw j e q1)
   ·rw[List.getElem?_set_ne n] at q3
    rw[List.getElem?_set_ne n2] at q4
    exact S.sep j k e f c q1 q2 q3 q4
theorem Slots.upd(S:Slots K H0 B H τ σ){i:Nat}{e:D}{o:HO}(hi:τ[i]?=some (some (.own e)))(ha:σ[i]?=some (some (.ref a)))(n:OwnAt K B (upd H a o) d a) :
  Slots K H0 B (upd H a o) (τ.set i (some (.own d))) σ where
 len:=by rw[List.length_set,S.len]
 val:=λj f q=>by
  rcases qbq q with ⟨rfl,z,l⟩|⟨n,q⟩
  ·cases z
  ·exact S.val j f q
 fz:=λj f q=>by
  rcases qbq q with ⟨rfl,z,l⟩|⟨n,q⟩
  ·cases z
  ·exact S.fz j f q
 own:=λj f q=>by
  rcases qbq q with ⟨rfl,z,l⟩|⟨ne,q⟩
  ·cases z
   obtain⟨c,q1,h0,hb,_⟩:=S.own i e hi
   rw[ha] at q1
   cases q1
   exact⟨a,ha,h0,hb,n⟩
  ·obtain⟨c,q1,h0,hb,w⟩:=S.own j f q
   refine⟨c,q1,h0,hb,w.step (Same.refl _) (qa5 λz=>?_)⟩
   subst z
   exact ne (S.sep i j e f c hi q ha q1)
 sep:=λj k e' f c q1 q2 q3 q4=>by
  have hj:∃e',τ[j]?=some (some (.own e')):=by
   rcases qbq q1 with ⟨rfl,z,l⟩|⟨_,q⟩
   ·exact⟨e,hi⟩
   ·exact⟨_,q⟩
  have hk:∃e',τ[k]?=some (some (.own e')):=by
   rcases qbq q2 with ⟨rfl,z,l⟩|⟨_,q⟩
   ·exact⟨e,hi⟩
   ·exact⟨_,q⟩
  obtain⟨_,hj⟩:=hj
  obtain⟨_,hk⟩:=hk
  exact S.sep j k _ _ c hj hk q3 q4
theorem Stp.upd(p:Stp B H B' H'){o:HO}(h0:H a=none)(hb:B' a=none):Stp B H B' (L2.upd H' a o) :=
 ⟨p.b,p.h.put h0,λb u q=>by
  rw[qa5 (λz=>by rw[z,hb] at q;cases q)]
  exact p.s _ _ q,p.d⟩
def frz(i:Nat)(τ:VSt):VSt:=match τ[i]? with
|some (some (.own d))=>τ.set i (some (.val d))
|_=>τ
end
end L2
namespace L2
open PySem PySem.Spec PyProof.Rows
abbrev TV:=VSt->(R->Prop)->Prop
abbrev TVT:=VSt->(Bool->Prop)->Prop
inductive AR where
|ok (ds:List D)
|exc (n:Str)
abbrev TVA:=VSt->(AR->Prop)->Prop
abbrev TVG:=D->VSt->(VSt->Prop)->Prop
structure VEnds where
 nx:VSt->Prop
 rt:R->Prop
 bk:VSt->Prop:=λ_=>False
 ct:VSt->Prop:=λ_=>False
 xc:VSt->Str->Prop:=λ_ _=>False
 ro:VSt->R->Prop:=λ_ _=>False
 rn:D->Prop:=λ_=>False
abbrev TVS:=VEnds->VSt->Prop
section
variable (K:PySem.W.Frag) (EX:St->XK)
def RfE(te:TE)(t:TV):Prop:=∀(H0 B H:Hp) (τ:VSt) (σ:St) (Q:VK) (Qd:R->Prop),Same B H->Slots K H0 B H τ σ->t τ Qd->(∀n C B' H',Stp B H B' H'->clsOf K n C->Qd (.exc n)->EX σ (.ref C) none H')->(∀r v B' H',Stp B H B' H'->RepR K B' H H' r v->Qd r->Q v H')->te σ H Q
def RfT(te:TT)(t:TVT):Prop:=∀(H0 B H:Hp) (τ:VSt) (σ:St) (Q:Bool->Hp->Prop) (Qd:Bool->Prop),Same B H->Slots K H0 B H τ σ->t τ Qd->(∀b B' H',Stp B H B' H'->Qd b->Q b H')->te σ H Q
def RfA(te:TA)(t:TVA):Prop:=∀(H0 B H:Hp) (τ:VSt) (σ:St) (Q:List V->Hp->Prop) (Qd:AR->Prop),Same B H->Slots K H0 B H τ σ->t τ Qd->(∀n C B' H',Stp B H B' H'->clsOf K n C->Qd (.exc n)->EX σ (.ref C) none H')->(∀ds vs B' H',Stp B H B' H'->Reps K B' ds vs->Qd (.ok ds)->Q vs H')->te σ H Q
def RfO(r:R2)(rd:R->R->(R->Prop)->Prop):Prop:=∀(B H:Hp) (x y:V) (rx ry:R) (Q:VK) (Qd:R->Prop),Same B H->Pk K B H rx x->Pk K B H ry y->rd rx ry Qd->(∀r v B' H',Stp B H B' H'->RepR K B' H H' r v->Qd r->Q v H')->r x y H Q
def RfC(r:List V->Hp->VK->Prop)(rd:R->(R->Prop)->Prop):Prop:=∀(B H:Hp) (x:V) (rx:R) (Q:VK) (Qd:R->Prop),Same B H->Pk K B H rx x->rd rx Qd->(∀r v B' H',Stp B H B' H'->RepR K B' H H' r v->Qd r->Q v H')->r [x] H Q
def Kp(τ:VSt)(σ:St)(τ':VSt)(σ':St):Prop:=∀(j:Nat) (e:D),τ'[j]?=some (some (R.own e))->τ[j]?=some (some (R.own e))/\σ'[j]?=σ[j]?
def RfG(g:TG)(t:TVG):Prop:=∀(H0 B H:Hp) (τ:VSt) (σ:St) (x:V) (d:D) (Q:St->Hp->Prop) (Qd:VSt->Prop),Same B H->Slots K H0 B H τ σ->Rep K B d x->t d τ Qd->(∀τ' σ',Slots K H0 B H τ' σ'->Kp τ σ τ' σ'->Qd τ'->Q σ' H)->g x σ H Q
def RfGs(g:TGs)(t:List D->VSt->(VSt->Prop)->Prop):Prop:=∀(H0 B H:Hp) (τ:VSt) (σ:St) (xs:List V) (ds:List D) (Q:St->Hp->Prop) (Qd:VSt->Prop),Same B H->Slots K H0 B H τ σ->Reps K B ds xs->t ds τ Qd->(∀τ' σ',Slots K H0 B H τ' σ'->Kp τ σ τ' σ'->Qd τ'->Q σ' H)->g xs σ H Q
def ItOk(B:Hp)(J:It)(ds:List D):Prop:=∀(i:Nat) (B2 H:Hp),Same B B2->Same B2 H->(∀d,ds[i]?=some d->J.go i H/\∀x H',J.yld i H x H'->∃B3,Stp B2 H B3 H'/\Rep K B3 d x)/\(ds[i]?=none->J.stop i H)
def RfI(wi:TI)(vi:TVA):Prop:=∀(H0 B H:Hp) (τ:VSt) (σ:St) (Q:It->Hp->Prop) (Qd:AR->Prop),Same B H->Slots K H0 B H τ σ->vi τ Qd->(∀n C B' H',Stp B H B' H'->clsOf K n C->Qd (.exc n)->EX σ (.ref C) none H')->(∀J ds B' H',Stp B H B' H'->ItOk K B' J ds->Qd (.ok ds)->Q J H')->wi σ H Q
def RfF(ti:TF)(t:TVT):Prop:=∀(H0 B H:Hp) (τ:VSt) (σ:St) (Y N:Hp->Prop) (Qd:Bool->Prop),Same B H->Slots K H0 B H τ σ->t τ Qd->(∀b B' H',Stp B H B' H'->Qd b->if b=true then Y H' else N H')->ti σ H Y N
structure EndsOk(B0 H0:Hp)(Dv:VEnds)(Dh:Ends):Prop where
 nx:∀B H τ σ,Stp B0 H0 B H->Slots K H0 B H τ σ->Dv.nx τ->Dh.nx σ H
 rt:∀r v B H,Stp B0 H0 B H->RepR K B H0 H r v->Dv.rt r->Dh.rt v H
 bk:∀B H τ σ,Stp B0 H0 B H->Slots K H0 B H τ σ->Dv.bk τ->Dh.bk σ H
 ct:∀B H τ σ,Stp B0 H0 B H->Slots K H0 B H τ σ->Dv.ct τ->Dh.ct σ H
 xc:∀B H τ σ n C,Stp B0 H0 B H->Slots K H0 B H τ σ->clsOf K n C->Dv.xc τ n->EX σ (.ref C) none H
 ro:∀r v B H τ σ,Stp B0 H0 B H->Slots K H0 B H τ σ->RepR K B H0 H r v->(∀(d e:D) (i:Nat) (c:Addr),r=R.own d->τ[i]?=some (some (R.own e))->ioA e=some c->v≠.ref c)->Dv.ro τ r->Dh.rt v H
 rn:∀d v B H,Stp B0 H0 B H->Rep K B d v->NewR H0 B d v->Dv.rn d->Dh.rt v H
def RfS(ts:TS)(t:TVS):Prop:=∀(B0 H0 B H:Hp) (τ:VSt) (σ:St) (Dv:VEnds) (Dh:Ends),Stp B0 H0 B H->Slots K H0 B H τ σ->t Dv τ->EndsOk K EX B0 H0 Dv Dh->ts Dh σ H
end
section
structure VE(X:Cx)(EX:St->XK)(e:Expr)(t:TV):Prop where
 u:∃te,QE X e te/\RfE X.K EX te t
structure VC(X:Cx)(EX:St->XK)(e:Expr)(t:TV):Prop where
 u:∃te,QC X e te/\RfE X.K EX te t
structure VT(X:Cx)(EX:St->XK)(e:Expr)(t:TVT):Prop where
 u:∃te,QT X e te/\RfT X.K te t
structure VW(X:Cx)(EX:St->XK)(e:Expr)(t:TVT):Prop where
 u:∃te,QW X e te/\RfT X.K te t
structure VA(X:Cx)(EX:St->XK)(es:List Expr)(t:TVA):Prop where
 u:∃te,QA X es te/\RfA X.K EX te t
structure VI(X:Cx)(EX:St->XK)(tg e:Expr)(t:TVA):Prop where
 u:∃wi,QI X tg e wi/\RfI X.K EX wi t
structure VFs(X:Cx)(EX:St->XK)(ifs:List Expr)(t:TVT):Prop where
 u:∃ti,QF X ifs ti/\RfF X.K ti t
structure VS(X:Cx)(EX:St->XK)(st:Stmt)(t:TVS):Prop where
 u:∃ts,QS X st ts/\RfS X.K EX ts t
structure VSs(X:Cx)(EX:St->XK)(st:List Stmt)(t:TVS):Prop where
 u:∃ts,QSs X st ts/\RfS X.K EX ts t
end
section
variable (X:Cx)
structure VO(f:Value->Value->Sem Value)(rd:R->R->(R->Prop)->Prop):Prop where
 u:∃r,OpR X f r/\RfO X.K r rd
structure VX(rd:R->R->(R->Prop)->Prop):Prop where
 u:∃r,IxR X r/\RfO X.K r rd
structure VF(f:Value)(rd:R->(R->Prop)->Prop):Prop where
 u:∃r,CallR X f r/\RfC X.K r rd
structure VG(tg:Expr)(t:TVG):Prop where
 u:∃g,QG X tg g/\RfG X.K g t
structure VGs(ts:List Expr)(t:List D->VSt->(VSt->Prop)->Prop):Prop where
 u:∃g,QGs X ts g/\RfGs X.K g t
end
section
variable {X:Cx} {EX:St->XK} {K:PySem.W.Frag} {a b c e o i:Expr} {es:List Expr} {pos pos' p p2 apos cpos:Pos} {x:Str} {ta tb tc te:TV} {tA:TVA} {tT tU:TVT} {B H B' H' H0 H1 H2:Hp} {r:R} {v:V}
theorem RepR.back(h:RepR K B H1 H2 r v)(s:Same H H1):RepR K B H H2 r v:=by
 cases r with
|val d=>exact h
|own d =>
  obtain⟨a,e,h0,q⟩:=h
  exact⟨a,e,s.free h0,q⟩
|peek d=>exact h
|exc n=>exact h
theorem Pk.scal{z:V}(h:Pk K B H r v)(e:dV r.d=some z):v=z:=by
 cases r with
|val d =>
  have e':dV d=some z:=e
  have h':Rep K B d v:=h
  cases d<;>first|(unfold Rep at h';subst h';exact Option.some.inj e')|(cases e';done)
|own d =>
  obtain⟨a,_,_,q⟩:=h
  have e':dV d=some z:=e
  cases d<;>first|(cases e';done)|exact q.elim
|peek d =>
  obtain⟨a,_,_,q⟩:=h
  have e':dV d=some z:=e
  cases d<;>first|(cases e';done)|exact q.elim
|exc n=>exact h.elim
theorem Pk.tup{ds:List D}(h:Pk K B H r v)(e:r.d=.tup ds):∃a xs,v=.ref a/\TupAt K B a ds xs/\Reps K B ds xs:=by
 cases r with
|val d =>
  cases (show d=_ from e)
  have h':Rep K B (.tup ds) v:=h
  unfold Rep at h'
  exact h'
|own d=>cases (show d=_ from e);obtain⟨_,_,_,q⟩:=h;exact q.elim
|peek d=>cases (show d=_ from e);obtain⟨_,_,_,q⟩:=h;exact q.elim
|exc n=>exact h.elim
theorem Pk.lst{ds:List D}(s:Same B H)(h:Pk K B H r v)(e:r.d=.lst ds):∃a xs,v=.ref a/\H a=some (.lst xs)/\Reps K B ds xs:=by
 cases r with
|val d =>
  cases (show d=_ from e)
  have h':Rep K B (.lst ds) v:=h
  unfold Rep at h'
  obtain⟨a,xs,rfl,q,rp⟩:=h'
  exact⟨a,xs,rfl,s _ _ q,rp⟩
|own d=>cases (show d=_ from e);obtain⟨a,rfl,_,xs,q,rp⟩:=h;exact⟨a,xs,rfl,q,rp⟩
|peek d=>cases (show d=_ from e);obtain⟨a,rfl,_,xs,q,rp⟩:=h;exact⟨a,xs,rfl,q,rp⟩
|exc n=>exact h.elim
theorem Pk.scr{ns:List Int}(s:Same B H)(h:Pk K B H r v)(e:r.d=.scr ns):∃a,v=.ref a/\SqL K H a (ns.map V.int):=by
 cases r with
|val d =>
  cases (show d=_ from e)
  have h':Rep K B (.scr ns) v:=h
  unfold Rep at h'
  obtain⟨a,rfl,q⟩:=h'
  exact⟨a,rfl,s.seq q⟩
|own d=>cases (show d=_ from e);obtain⟨_,_,_,q⟩:=h;exact q.elim
|peek d=>cases (show d=_ from e);obtain⟨_,_,_,q⟩:=h;exact q.elim
|exc n=>exact h.elim
theorem qgy{d:D}{z:V}(e:dV d=some z):Rep K B d z:=by
 cases d<;>first|(cases e;done)|(unfold Rep;exact(Option.some.inj e).symm)
theorem repV{d:D}{z:V}(e:dV d=some z):RepR K B H0 H (.val d) z:=qgy e
theorem xst{B1:Hp}{σ:St}{P:Str->Prop}(x:∀n C B' H',Stp B H B' H'->clsOf K n C->P n->EX σ (.ref C) none H')(p:Stp B H B1 H1):∀n C B' H',Stp B1 H1 B' H'->clsOf K n C->P n->EX σ (.ref C) none H':=λn C B' H' q c h=>x n C B' H' (p.trans q) c h
theorem xno{σ:St}{P:Str->Prop}(h:∀n,¬ P n):∀n C B' H',Stp B H B' H'->clsOf K n C->P n->EX σ (.ref C) none H':=λn _ _ _ _ _ q=>absurd q (h n)
def vVar(i:Nat):TV:=λτ Q=>match τ[i]? with
|some (some (.val d))=>Q (.val d)
|some (some (.own d))=>Q (.peek d)
|some (some (.peek d))=>Q (.val d)
|_=>False
theorem q01{i:Nat}:RfE K EX (tVar i) (vVar i):=λH0 B H τ σ Q Qd s S h _ k=>by
 unfold vVar at h
 split at h
 ·rename_i d e
  obtain⟨v,q,rp⟩:=S.val i d e
  exact⟨v,q,k (.val d) v B H (.refl s) rp h⟩
 ·rename_i d e
  obtain⟨a,q,_,hb,ow⟩:=S.own i d e
  exact⟨.ref a,q,k (.peek d) (.ref a) B H (.refl s) ⟨a,rfl,hb,ow⟩ h⟩
 ·rename_i d e
  obtain⟨v,q,rp⟩:=S.fz i d e
  exact⟨v,q,k (.val d) v B H (.refl s) rp.rep h⟩
 ·exact h.elim
theorem vv(i:Nat)(hN:X.N[i]?=some x:=by rfl)(hv:Vis X.env.scope x:=by first|exact Or.inl rfl|exact Or.inr (Or.inl rfl)|exact Or.inr (Or.inr rfl))(hd:(x==("__debug__" : Str))=false:=by decide)
  (hcd:(x==("__classdict__" : Str))=false:=by decide):VE X EX (.Name x pos) (vVar i):=⟨_,qv i hN hv hd hcd,q01⟩
def vC(d:D):TV:=λ_ Q=>Q (.val d)
theorem rf_c{d:D}{z:V}(e:dV d=some z):RfE K EX (tC z) (vC d):=λ_ B H _ _ _ _ s _ h _ k=>k (.val d) z B H (.refl s) (qgy e) h
theorem qaa{k:Int}{j:Nat}:VE X EX (.Constant (.int k) j pos) (vC (.int k)):=⟨_,q0l,rf_c rfl⟩
theorem qdi{k:Bool}{j:Nat}:VE X EX (.Constant (.bool k) j pos) (vC (.bl k)):=⟨_,q2i,rf_c rfl⟩
theorem qal{z:Str}{j:Nat}:VE X EX (.Constant (.str z) j pos) (vC (.str z)):=⟨_,q0n,rf_c rfl⟩
theorem RepR.ok{Q:R->Prop}{k:Prop}(h:RepR K B H0 H r v)(q:exR r Q k):k:=by
 cases r with
|exc n=>exact h.elim
|val d=>exact q
|own d=>exact q
|peek d=>exact q
def vOp(rd:R->R->(R->Prop)->Prop)(ta tb:TV):TV:=λτ Q=>ta τ λrx=>exR rx Q (tb τ λry=>exR ry Q (rd rx ry Q))
theorem qt3{rr:R2}{rd:R->R->(R->Prop)->Prop}{ea eb:TE}(hr:RfO K rr rd)(ha:RfE K EX ea ta)(hb:RfE K EX eb tb):RfE K EX (tOp rr ea eb) (vOp rd ta tb):=λH0 B H τ σ Q Qd s S h xc k =>
 ha H0 B H τ σ _ _ s S h xc λrx x B1 H1 p1 q1 h1=>hb H0 B1 H1 τ σ _ _ p1.s (S.step p1) (q1.ok h1) (xst xc p1) λry y B2 H2 p2 q2 h2 =>
  hr B2 H2 x y rx ry _ _ p2.s (q1.pk.step p2) q2.pk (q2.ok h2) λr v B3 H3 p3 q3 h3=>k r v B3 H3 (p1.trans (p2.trans p3)) (q3.back (p1.trans p2).h) h3
theorem qa4{op:Operator}{rd:R->R->(R->Prop)->Prop}(hr:VO X (binaryOp op) rd)(ha:VE X EX a ta)(hb:VE X EX b tb):VE X EX (.BinOp a op b pos) (vOp rd ta tb) :=
 let ⟨_,h1,h2⟩:=hr.u;let ⟨_,a1,a2⟩:=ha.u;let ⟨_,b1,b2⟩:=hb.u;⟨_,q2k h1 a1 b1,qt3 h2 a2 b2⟩
theorem qh3{op:CmpOp}{rd:R->R->(R->Prop)->Prop}(hr:VO X (compareOp op) rd)(ha:VE X EX a ta)(hb:VE X EX b tb)(hm:behindInMarks op b=false:=by with_unfolding_all rfl):VE X EX (.Compare a [op] [b] pos) (vOp rd ta tb) :=
 let ⟨_,h1,h2⟩:=hr.u;let ⟨_,a1,a2⟩:=ha.u;let ⟨_,b1,b2⟩:=hb.u;⟨_,qxt h1 a1 b1 hm,qt3 h2 a2 b2⟩
theorem qao{rd:R->R->(R->Prop)->Prop}(hr:VX X rd)(ha:VE X EX a ta)(hb:VE X EX b tb)(hs:qk5 b:=by exact λ_ _=>rfl):VE X EX (.Subscript a b pos) (vOp rd ta tb) :=
 let ⟨_,h1,h2⟩:=hr.u;let ⟨_,a1,a2⟩:=ha.u;let ⟨_,b1,b2⟩:=hb.u;⟨_,q2j h1 a1 b1 hs,qt3 h2 a2 b2⟩
def vBl(t:TV):TVT:=λτ Q=>t τ λr=>match r.d with
|.bl b=>Q b
|_=>False
theorem qt2{ea:TE}(ha:RfE K EX ea ta):RfT K (tB ea) (vBl ta):=λH0 B H τ σ Q Qd s S h k=>ha H0 B H τ σ _ _ s S h (xno λ_ q=>q) λr v B' H' p q h1=>by
 split at h1
 ·rename_i bb e
  exact⟨bb,q.pk.scal (by rw[e];rfl),k bb B' H' p h1⟩
 ·exact h1.elim
theorem qb3(ha:VE X EX e ta)(he:∀whole,isTrue e X.env whole=(do let v ←whole;standAt e.pos;holding [v] (truthy v)):=by intro _;rfl):VT X EX e (vBl ta) :=
 let ⟨_,a1,a2⟩:=ha.u;⟨_,q0s a1 he,qt2 a2⟩
theorem qaw{op:CmpOp}{rd:R->R->(R->Prop)->Prop}(hr:VO X (compareOp op) rd)(ha:VE X EX a ta)(hb:VE X EX b tb)(hm:behindInMarks op b=false:=by with_unfolding_all rfl):VT X EX (.Compare a [op] [b] pos) (vBl (vOp rd ta tb)) :=
 let ⟨_,h1,h2⟩:=hr.u;let ⟨_,a1,a2⟩:=ha.u;let ⟨_,b1,b2⟩:=hb.u;⟨_,qx2 h1 a1 b1 hm,qt2 (qt3 h2 a2 b2)⟩
def qez(t u:TVT):TVT:=λτ Q=>t τ λc=>if c=true then u τ Q else Q false
def vOrT(t u:TVT):TVT:=λτ Q=>t τ λc=>if c=true then Q true else u τ Q
def qda(t:TVT):TVT:=λτ Q=>t τ λc=>Q (!c)
theorem q0z{e1:TT}(h1:RfT K e1 tT):RfT K (tNot e1) (qda tT):=λH0 B H τ σ Q Qd s S h k=>h1 H0 B H τ σ _ _ s S h λb B' H' p q=>k _ B' H' p q
theorem q0w{e1 e2:TT}(h1:RfT K e1 tT)(h2:RfT K e2 tU):RfT K (tAnd e1 e2) (qez tT tU):=λH0 B H τ σ Q Qd s S h k=>h1 H0 B H τ σ _ _ s S h λb B' H' p q=>by
 cases b with
|true=>exact iteT (h2 H0 B' H' τ σ _ _ p.s (S.step p) (by rw[if_pos rfl] at q;exact q) λb2 B2 H2 p2 q2=>k b2 B2 H2 (p.trans p2) q2)
|false=>exact iteF (k false B' H' p (by rw[if_neg Bool.false_ne_true] at q;exact q))
theorem q2q{e1 e2:TT}(h1:RfT K e1 tT)(h2:RfT K e2 tU):RfT K (tOr e1 e2) (vOrT tT tU):=λH0 B H τ σ Q Qd s S h k=>h1 H0 B H τ σ _ _ s S h λb B' H' p q=>by
 cases b with
|true=>exact iteT (k true B' H' p (by rw[if_pos rfl] at q;exact q))
|false=>exact iteF (h2 H0 B' H' τ σ _ _ p.s (S.step p) (by rw[if_neg Bool.false_ne_true] at q;exact q) λb2 B2 H2 p2 q2=>k b2 B2 H2 (p.trans p2) q2)
theorem qcl(h:VT X EX a tT):VT X EX (.UnaryOp .Not a pos) (qda tT):=let ⟨_,a1,a2⟩:=h.u;⟨_,q0r a1,q0z a2⟩
theorem qc1(h:VT X EX a tT):VW X EX (.BoolOp .And [a] pos) tT:=let ⟨_,a1,a2⟩:=h.u;⟨_,qx4 a1,a2⟩
theorem qfj(h:VT X EX a tT):VW X EX (.BoolOp .Or [a] pos) tT:=let ⟨_,a1,a2⟩:=h.u;⟨_,q0u a1,a2⟩
theorem qei(ha:VT X EX a tT)(hb:VW X EX (.BoolOp .And (b::es) pos) tU):VW X EX (.BoolOp .And (a::b::es) pos) (qez tT tU):=let ⟨_,a1,a2⟩:=ha.u;let ⟨_,b1,b2⟩:=hb.u;⟨_,q0t a1 b1,q0w a2 b2⟩
theorem qf3(ha:VT X EX a tT)(hb:VW X EX (.BoolOp .Or (b::es) pos) tU):VW X EX (.BoolOp .Or (a::b::es) pos) (vOrT tT tU):=let ⟨_,a1,a2⟩:=ha.u;let ⟨_,b1,b2⟩:=hb.u;⟨_,q2o a1 b1,q2q a2 b2⟩
theorem vw_t(h:VW X EX e tT):VT X EX e tT:=let ⟨_,a1,a2⟩:=h.u;⟨_,qw_t a1,a2⟩
def qme(ta tb:TV):TV:=λτ Q=>ta τ λr=>match r.d with
|.bl c=>if c=true then tb τ Q else Q (.val (.bl false))
|_=>False
def vOrE(ta tb:TV):TV:=λτ Q=>ta τ λr=>match r.d with
|.bl c=>if c=true then Q (.val (.bl true)) else tb τ Q
|_=>False
def q1l(ta:TV):TV:=λτ Q=>ta τ λr=>match r.d with
|.bl c=>Q (.val (.bl (!c)))
|_=>False
theorem qr5{op:BoolOp}(h:VE X EX a ta):VE X EX (.BoolOp op [a] pos) ta:=let ⟨_,a1,a2⟩:=h.u;⟨_,q0m a1,a2⟩
theorem qnx(ha:VE X EX a ta)(hb:VE X EX (.BoolOp .And (b::es) pos) tb):VE X EX (.BoolOp .And (a::b::es) pos) (qme ta tb) :=
 let ⟨_,a1,a2⟩:=ha.u;let ⟨_,b1,b2⟩:=hb.u;⟨_,q0k a1 b1,λH0 B H τ σ Q Qd s S h xc k=>a2 H0 B H τ σ _ _ s S h (xno λ_ q=>q) λr v B' H' p q h1=>by
  split at h1
  ·rename_i c e
   refine⟨c,q.pk.scal (by rw[e];rfl),?_⟩
   cases c with
  |true=>exact iteT (b2 H0 B' H' τ σ _ _ p.s (S.step p) (by rw[if_pos rfl] at h1;exact h1) (xst xc p) λr2 v2 B2 H2 p2 q2 h2=>k r2 v2 B2 H2 (p.trans p2) (q2.back p.h) h2)
  |false=>exact iteF (k (.val (.bl false)) _ B' H' p (repV (d:=.bl false) rfl) (by rw[if_neg Bool.false_ne_true] at h1;exact h1))
  ·exact h1.elim⟩
def vIfE(tT:TVT)(ta tb:TV):TV:=λτ Q=>tT τ λc=>if c=true then ta τ Q else tb τ Q
theorem quj(hc:VT X EX c tT)(ha:VE X EX a ta)(hb:VE X EX b tb):VE X EX (.IfExp c a b pos) (vIfE tT ta tb) :=
 let ⟨_,c1,c2⟩:=hc.u;let ⟨_,a1,a2⟩:=ha.u;let ⟨_,b1,b2⟩:=hb.u;⟨_,qnn c1 a1 b1,λH0 B H τ σ Q Qd s S h xc k=>c2 H0 B H τ σ _ _ s S h λcb B' H' p q=>by
  cases cb with
 |true=>exact iteT (a2 H0 B' H' τ σ _ _ p.s (S.step p) (by rw[if_pos rfl] at q;exact q) (xst xc p) λr2 v2 B2 H2 p2 q2 h2=>k r2 v2 B2 H2 (p.trans p2) (q2.back p.h) h2)
 |  false=>exact iteF (b2 H0 B' H' τ σ _ _ p.s (S.step p) (by rw[if_neg Bool.false_ne_true] at q;exact q) (xst xc p) λr2 v2 B2 H2 p2 q2 h2=>k r2 v2 B2 H2 (p.trans p2) (q2.back p.h) h2)⟩
def exA:AR->(R->Prop)->(List D->Prop)->Prop
|.ok ds,_,k=>k ds
|.exc n,Q,_=>Q (.exc n)
def vNil:TVA:=λ_ Q=>Q (.ok [])
def qwu(d:D):AR->AR
|.ok ds=>.ok (d::ds)
|.exc n=>.exc n
def excA:R->(AR->Prop)->Prop->Prop
|.exc n,Q,_=>Q (.exc n)
|.val _,_,k=>k
|.own _,_,k=>k
|.peek _,_,k=>k
theorem RepR.okA{Q:AR->Prop}{k:Prop}(h:RepR K B H0 H r v)(q:excA r Q k):k:=by
 cases r with
|exc n=>exact h.elim
|val d=>exact q
|own d=>exact q
|peek d=>exact q
def qad(te:TV)(tA:TVA):TVA:=λτ Q=>te τ λr=>excA r Q (pubR r λd=>tA τ λa=>Q (qwu d a))
theorem qaf:VA X EX [] vNil:=⟨_,qd9,λ_ B H _ _ _ _ s _ h _ k=>k [] [] B H (.refl s) (by unfold Reps;rfl) h⟩
theorem vac(ha:VE X EX e te)(hr:VA X EX es tA)(hs:qa2 e=true:=by rfl):VA X EX (e::es) (qad te tA) :=
 let ⟨_,a1,a2⟩:=ha.u;let ⟨_,b1,b2⟩:=hr.u;⟨_,qac a1 b1 hs,λH0 B H τ σ Q Qd s S h xc k=>a2 H0 B H τ σ _ _ s S h xc λr v B1 H1 p q h1=>by
  obtain⟨d,B2,p2,_,rp,h2⟩:=pub p q (q.okA h1)
  exact b2 H0 B2 H1 τ σ _ _ p2.s (S.step p2) h2 (xst xc p2) λds vs B3 H3 p3 q3 h3=>k (d::ds) (v::vs) B3 H3 (p2.trans p3) (by unfold Reps;exact⟨v,vs,rfl,rp.same p3.b,q3⟩) h3⟩
def vTup(tA:TVA):TV:=λτ Q=>tA τ λa=>exA a Q λds=>ds.length<=sizeLine/\Q (.val (.tup ds))
def vLst(tA:TVA):TV:=λτ Q=>tA τ λa=>exA a Q λds=>ds.length<=sizeLine/\Q (.own (.lst ds))
theorem qiz{ds:List D}{xs:List V}{q:Addr}(h:Reps K B ds xs)(hb:B q=none):Rep K (upd B q (.tup xs)) (.tup ds) (.ref q):=by
 unfold Rep
 exact⟨q,xs,rfl,.inl qa8,h.same (qau hb _)⟩
theorem qbp{ds:List D}{xs:List V}{q:Addr}(h:Reps K B ds xs):OwnAt K B (upd H q (.lst xs)) (.lst ds) q:=⟨xs,qa8,h⟩
theorem qa3{k:Nat}(h:VA X EX es tA):VE X EX (.Tuple es k pos) (vTup tA) :=
 let ⟨_,a1,a2⟩:=h.u;⟨_,q0o a1,λH0 B H τ σ Q Qd s S h xc k=>a2 H0 B H τ σ _ _ s S h xc λds vs B1 H1 p q h1 =>
  ⟨by rw[←q.length];exact h1.1,λad had=>k (.val (.tup ds)) _ (upd B1 ad (.tup vs)) _ (p.trans (.new p.s had)) (qiz q (p.s.free had)) h1.2⟩⟩
theorem qck(h:VA X EX es tA):VE X EX (.List es pos) (vLst tA) :=
 let ⟨_,a1,a2⟩:=h.u;⟨_,qve a1,λH0 B H τ σ Q Qd s S h xc k=>a2 H0 B H τ σ _ _ s S h xc λds vs B1 H1 p q h1 =>
  ⟨by rw[←q.length];exact h1.1,λad had=>k (.own (.lst ds)) _ B1 _ (p.trans (.grow p.s (qau had _))) ⟨ad,rfl,p.h.free had,p.s.free had,qbp q⟩ h1.2⟩⟩
abbrev DP:=List D->(R->Prop)->Prop
def spOf(K:PySem.W.Frag)(g:DP):Sp:=λvs H Q E=>∃ds B Qd,Same B H/\Reps K B ds vs/\g ds Qd/\(∀n C B' H',Qd (.exc n)->Stp B H B' H'->clsOf K n C->E (.ref C) none H')/\∀r v B' H',Qd r->Stp B H B' H'->RepR K B' H H' r v->Q v H'
def q1j(g:DP)(tA:TVA):TV:=λτ Q=>tA τ λa=>exA a Q λds=>g ds Q
def qan(g:DP)(tA:TVA):TV:=λτ Q=>tA τ λa=>exA a Q λds=>g ds λr=>exR r (λ_=>False) (Q r)
theorem qas{k:Nat}{ps:List Str}{g:DP}(C:Cal X.prog X.w X.K X.mg X.base k x ps (spOf X.K g))(hr:Room k X.A)(hg:Gl X x)(ha:VA X EX (e::es) tA)(hp:(e::es).all qa2=true:=by rfl)(hdb:(x==("__debug__" : Str))=false:=by decide) :
  VE X EX (.Call (.Name x p) (e::es) [] pos) (qan g tA) :=
 let ⟨_,a1,a2⟩:=ha.u;⟨_,qnm C hr hg a1 hp hdb,λH0 B H τ σ Q Qd s S h xc k=>a2 H0 B H τ σ _ _ s S h xc λds vs B1 H1 p q h1 =>
  ⟨ds,B1,_,p.s,by rw[List.append_nil];exact q,h1,λn C B' H' hq _ _=>hq.elim,λr v B2 H2 hq p2 q2=>k r v B2 H2 (p.trans p2) (q2.back p.h) (q2.ok hq)⟩⟩
def vF1(rd:R->(R->Prop)->Prop)(te:TV):TV:=λτ Q=>te τ λr=>exR r Q (rd r Q)
theorem q0x{rr:List V->Hp->VK->Prop}{rd:R->(R->Prop)->Prop}{ea:TE}(hr:RfC K rr rd)(ha:RfE K EX ea te):RfE K EX (tCB rr (que ea tNil)) (vF1 rd te):=λH0 B H τ σ Q Qd s S h xc k =>
 ha H0 B H τ σ _ _ s S h xc λrx x B1 H1 p1 q1 h1=>hr B1 H1 x rx _ _ p1.s q1.pk (q1.ok h1) λr v B2 H2 p2 q2 h2=>k r v B2 H2 (p1.trans p2) (q2.back p1.h) h2
theorem qcr{id:String}{rd:R->(R->Prop)->Prop}(hc:VF X (.builtin id) rd)(hg:Gl X x)(hm:X.mg x=none)(hv:bootBuiltins x=some (.builtin id))(ha:VE X EX e te)(hp:qa2 e=true:=by rfl)(hn:x≠"__name__" := by decide)
  (hdb:(x==("__debug__" : Str))=false:=by decide):VE X EX (.Call (.Name x p) [e] [] pos) (vF1 rd te) :=
 let ⟨_,c1,c2⟩:=hc.u;let ⟨_,a1,a2⟩:=ha.u;⟨_,qcb c1 hg hm hv (qac a1 qd9 hp) (by simp[hp]) hn hdb,q0x c2 a2⟩
theorem qhm{T:String}{rd:R->(R->Prop)->Prop}(hc:VF X (.type T) rd)(hg:Gl X x)(hm:X.mg x=none)(hv:bootBuiltins x=some (.type T))(ha:VE X EX e te)(hp:qa2 e=true:=by rfl)(hn:x≠"__name__" := by decide)
  (hdb:(x==("__debug__" : Str))=false:=by decide):VE X EX (.Call (.Name x p) [e] [] pos) (vF1 rd te) :=
 let ⟨_,c1,c2⟩:=hc.u;let ⟨_,a1,a2⟩:=ha.u;⟨_,qct c1 hg hm hv (qac a1 qd9 hp) (by simp[hp]) hn hdb,q0x c2 a2⟩
end
end L2
namespace L2
open PySem PySem.Spec PyProof.Rows
section
variable {X:Cx} {EX:St->XK} {K:PySem.W.Frag} {B H B' H' H0:Hp}
theorem op_catP:OpR X (binaryOp .Add) (λx y H Q=>∃a b xs ys,x=.ref a/\y=.ref b/\SqT X.K H a xs/\SqT X.K H b ys/\xs.length+ys.length<=sizeLine/\(xs=[]->Q (.ref b) H)/\(xs≠[]->ys=[]->Q (.ref a) H) /\
  (xs≠[]->ys≠[]->∀p,H p=none->Q (.ref p) (upd H p (.tup (xs++ys))))):=by
 intro pins s σ H x y v u Q I rx ry h
 obtain⟨a,b,xs,ys,rfl,rfl,ha,hb,hz,q1,q2,q3⟩:=h
 by_cases hx:xs=[]
 ·subst hx
  cases rx
  cases ry
  obtain⟨its,r1,p1,_⟩:=I.tuple ha
  obtain⟨its2,r2,p2,_⟩:=I.tuple hb
  obtain⟨⟨cls,dd,data,sl⟩,ho,hc,n,hd⟩:=id p1
  obtain⟨⟨cls2,dd2,data2,sl2⟩,ho2,hc2,n2,hd2⟩:=id p2
  simp only at hc hd hc2 hd2
  subst hc hd hc2 hd2
  have e1:its=[]:=r1.nil_iff.mpr rfl
  exact concat_meets ⟨_,ho,rfl⟩ ⟨_,ho2,rfl⟩ noFill_tuple_add seq_tuple_add PySem.F.slot_tuple_add PySem.F.entry_tuple_add (PySem.F.args_tuple_add_2 _ _)
   (tuple_addW0 a b its.toArray its2.toArray n n2 dd dd2 sl sl2 (by simp[e1])) ⟨ho,ho2,⟨.ref b,H,I,rfl,q1 rfl⟩⟩
 ·exact qw0 pins s σ H (.ref a) (.ref b) v u Q I rx ry ⟨a,b,xs,ys,rfl,rfl,ha,hb,hx,hz,λe=>q2 hx e,λe p hp=>q3 hx e p hp⟩
theorem sl_tupP:SlR X (λx lo hi H Q=>∃a xs,x=.ref a/\SqT X.K H a xs/\((HT.sIx xs.length 0 lo=0/\HT.sIx xs.length xs.length hi=xs.length)->Q (.ref a) H) /\
  (¬ (HT.sIx xs.length 0 lo=0/\HT.sIx xs.length xs.length hi=xs.length)->∀p,H p=none->Q (.ref p) (upd H p (.tup (cutV xs lo hi))))):=by
 intro pins s σ H x v vl vu lo hi sl Q I rx hs pl pu h
 obtain⟨a,xs,rfl,hx,q1,q2⟩:=h
 by_cases hw:HT.sIx xs.length 0 lo=0/\HT.sIx xs.length xs.length hi=xs.length
 ·cases rx
  obtain⟨its,r,ht,hz⟩:=I.tuple hx
  have hlen:its.toArray.size=xs.length:=by rw[List.size_toArray];exact r.length.symm
  refine⟨"tuple",_,PyProof.Rows.slot_tuple_getitem.lookup,ht.typeIs,?_⟩
  exact HT.getItem_tuple_whole ht hs pl pu (by rw[hlen];exact hw) ⟨.ref a,H,I,rfl,q1 hw⟩
 ·exact q07 pins s σ H (.ref a) v vl vu lo hi sl Q I rx hs pl pu ⟨a,xs,rfl,hx,hw,q2 hw⟩
theorem Reps.append{ds es:List D}{xs ys:List V}(h1:Reps K B ds xs)(h2:Reps K B es ys):Reps K B (ds++es) (xs++ys):=by
 induction ds generalizing xs with
|nil=>unfold Reps at h1;subst h1;exact h2
|cons d ds ih =>
  unfold Reps at h1
  obtain⟨x,r,rfl,q1,q2⟩:=h1
  show Reps K B (d::(ds++es)) (x::(r++ys))
  unfold Reps
  exact⟨x,r++ys,rfl,q1,ih q2⟩
theorem Reps.nil:Reps K B [] []:=by unfold Reps;rfl
theorem Reps.cons{d:D}{ds:List D}{x:V}{xs:List V}(h1:Rep K B d x)(h2:Reps K B ds xs):Reps K B (d::ds) (x::xs):=by unfold Reps;exact⟨x,xs,rfl,h1,h2⟩
theorem Reps.one{d:D}{x:V}(h:Rep K B d x):Reps K B [d] [x]:=.cons h .nil
theorem Reps.drop:∀(n:Nat) {ds:List D} {xs:List V},Reps K B ds xs->Reps K B (ds.drop n) (xs.drop n)
|0,_,_,h=>h
|n+1,[],_,h=>by unfold Reps at h;subst h;exact .nil
|n+1,d::ds,_,h=>by
  unfold Reps at h
  obtain⟨x,r,rfl,q1,q2⟩:=h
  exact Reps.drop n q2
theorem Reps.take:∀(n:Nat) {ds:List D} {xs:List V},Reps K B ds xs->Reps K B (ds.take n) (xs.take n)
|0,_,_,_=>.nil
|n+1,[],_,h=>by unfold Reps at h;subst h;exact .nil
|n+1,d::ds,_,h=>by
  unfold Reps at h
  obtain⟨x,r,rfl,q1,q2⟩:=h
  exact .cons q1 (Reps.take n q2)
theorem Reps.cut{ds:List D}{xs:List V}(lo hi:Option Int)(h:Reps K B ds xs):Reps K B (cutL ds lo hi) (cutV xs lo hi):=by
 unfold cutL cutV
 rw[h.length]
 exact(h.drop _).take _
theorem Reps.ints(ns:List Int):Reps K B (ns.map D.int) (ns.map V.int):=by
 induction ns with
|nil=>exact .nil
|cons n ns ih=>exact .cons (qgy (d:=.int n) rfl) ih
theorem Reps.strs:∀ {ss:List Str} {xs:List V},Reps K B (ss.map D.str) xs->xs=ss.map V.str
|[],_,h=>by unfold Reps at h;exact h
|s::ss,_,h=>by
  have h':Reps K B (.str s::ss.map D.str) _:=h
  unfold Reps at h'
  obtain⟨x,r,rfl,q1,q2⟩:=h'
  unfold Rep at q1
  rw[q1,Reps.strs q2]
  rfl
theorem Reps.atI{ds:List D}{xs:List V}{i:Int}{d:D}(h:Reps K B ds xs)(e:L2.atI ds i=some d):∃x,L2.atI xs i=some x/\Rep K B d x:=by
 unfold L2.atI at e ⊢
 rw[←h.length]
 cases q:ixN ds.length i with
|none=>rw[q] at e;cases e
|some j =>
  rw[q] at e
  exact h.at e
def vAdd(rx ry:R)(Q:R->Prop):Prop:=match rx.d,ry.d with
|.int i,.int j=>Q (.val (.int (i+j)))
|.str a,.str b=>a.length+b.length<=sizeLine/\Q (.val (.str (a++b)))
|.tup a,.tup b=>a.length+b.length<=sizeLine/\Q (.val (.tup (a++b)))
|.lst a,.lst b=>a.length+b.length<=sizeLine/\Q (.own (.lst (a++b)))
|_,_=>False
theorem qbj:VO X (binaryOp .Add) vAdd:=by
 refine⟨_,op_add.or (op_add_str.or (op_catP.or qzs)),λB H x y rx ry Q Qd s px py h k=>?_⟩
 unfold vAdd at h
 split at h
 ·rename_i i j e1 e2
  exact .inl ⟨i,j,px.scal (by rw[e1];rfl),py.scal (by rw[e2];rfl),k _ _ B H (.refl s) (repV rfl) h⟩
 ·rename_i i j e1 e2
  exact .inr (.inl ⟨i,j,px.scal (by rw[e1];rfl),py.scal (by rw[e2];rfl),h.1,k _ _ B H (.refl s) (repV rfl) h.2⟩)
 ·rename_i ds es e1 e2
  obtain⟨a,xs,rfl,h1,r1⟩:=px.tup e1
  obtain⟨b,ys,rfl,h2,r2⟩:=py.tup e2
  refine .inr (.inr (.inl ⟨a,b,xs,ys,rfl,rfl,s.sqT h1.sq,s.sqT h2.sq,by rw[←r1.length,←r2.length];exact h.1,λz=>?_,λ_ z=>?_,λ_ _ p hp=>?_⟩))
  ·refine k _ _ B H (.refl s) ?_ h.2
   show Rep X.K B (.tup (ds++es)) _
   have e:ds=[]:=List.eq_nil_of_length_eq_zero (by rw[r1.length,z];rfl)
   unfold Rep
   exact⟨b,ys,rfl,by rw[e];exact h2,by rw[e];exact r2⟩
  ·refine k _ _ B H (.refl s) ?_ h.2
   show Rep X.K B (.tup (ds++es)) _
   have e:es=[]:=List.eq_nil_of_length_eq_zero (by rw[r2.length,z];rfl)
   unfold Rep
   exact⟨a,xs,rfl,by rw[e,List.append_nil];exact h1,by rw[e,List.append_nil];exact r1⟩
  ·exact k (.val (.tup (ds++es))) _ (upd B p (.tup (xs++ys))) _ (.new s hp) (qiz (r1.append r2) (s.free hp)) h.2
 ·rename_i ds es e1 e2
  obtain⟨a,xs,rfl,h1,r1⟩:=px.lst s e1
  obtain⟨b,ys,rfl,h2,r2⟩:=py.lst s e2
  exact .inr (.inr (.inr ⟨a,b,xs,ys,rfl,rfl,h1,h2,by rw[←r1.length,←r2.length];exact h.1,λp hp=>k (.own (.lst (ds++es))) _ B _ (.grow s (qau hp _)) ⟨p,rfl,hp,s.free hp,qbp (r1.append r2)⟩ h.2⟩))
 ·exact h.elim
def vI2(C:Int->Int->Prop)(f:Int->Int->D)(rx ry:R)(Q:R->Prop):Prop:=match rx.d,ry.d with
|.int i,.int j=>C i j/\Q (.val (f i j))
|_,_=>False
def vI2'(f:Int->Int->D)(rx ry:R)(Q:R->Prop):Prop:=match rx.d,ry.d with
|.int i,.int j=>Q (.val (f i j))
|_,_=>False
theorem qul{g:Value->Value->Sem Value}{C:Int->Int->Prop}{f:Int->Int->D}{f':Int->Int->V}(hf:∀i j,dV (f i j)=some (f' i j))(h:OpR X g (rI C f')):VO X g (vI2 C f):=by
 refine⟨_,h,λB H x y rx ry Q Qd s px py h k=>?_⟩
 unfold vI2 at h
 split at h
 ·rename_i i j e1 e2
  exact⟨i,j,px.scal (by rw[e1];rfl),py.scal (by rw[e2];rfl),h.1,k _ _ B H (.refl s) (repV (hf i j)) h.2⟩
 ·exact h.elim
theorem qr6{g:Value->Value->Sem Value}{f:Int->Int->D}{f':Int->Int->V}(hf:∀i j,dV (f i j)=some (f' i j))(h:OpR X g (rI0 f')):VO X g (vI2' f):=by
 refine⟨_,h,λB H x y rx ry Q Qd s px py h k=>?_⟩
 unfold vI2' at h
 split at h
 ·rename_i i j e1 e2
  exact⟨i,j,px.scal (by rw[e1];rfl),py.scal (by rw[e2];rfl),k _ _ B H (.refl s) (repV (hf i j)) h⟩
 ·exact h.elim
abbrev vSub:=vI2' λi j=>.int (i-j)
abbrev vMul:=vI2 CMul λi j=>.int (i*j)
abbrev vDiv:=vI2 CDiv λi j=>.int (i / j)
abbrev vMod:=vI2 (λ_ j=>0<j) λi j=>.int (i%j)
abbrev vPow:=vI2 CPow λi j=>.int (i ^ j.toNat)
abbrev vLt:=vI2' λi j=>.bl (decide (i<j))
abbrev vLe:=vI2' λi j=>.bl (decide (i<=j))
abbrev vGt:=vI2' λi j=>.bl (decide (j<i))
abbrev vGe:=vI2' λi j=>.bl (decide (j<=i))
theorem q1s:VO X (binaryOp .Sub) vSub:=qr6 (λ_ _=>rfl) qzz
theorem qr7:VO X (binaryOp .Mult) vMul:=qul (λ_ _=>rfl) qzw
theorem qh4:VO X (binaryOp .FloorDiv) vDiv:=qul (λ_ _=>rfl) qw1
theorem qc0:VO X (binaryOp .Mod) vMod:=qul (λ_ _=>rfl) qzv
theorem qvw:VO X (binaryOp .Pow) vPow:=qul (λ_ _=>rfl) qzy
theorem qo4:VO X (compareOp .Lt) vLt:=qr6 (λ_ _=>rfl) q17
theorem q1q:VO X (compareOp .Gt) vGt:=qr6 (λ_ _=>rfl) q16
def vEq(rx ry:R)(Q:R->Prop):Prop:=cmpD rx.d ry.d=true/\depD rx.d<=50/\Q (.val (.bl (eqD rx.d ry.d)))
theorem qc5(hu:X.A.units+64<cLine):VO X (compareOp .Eq) vEq :=
 ⟨_,qzt (by lia),λB H x y rx ry Q Qd s px py h k=>⟨rx.d,ry.d,px.rep s,py.rep s,h.1,h.2.1,k _ _ B H (.refl s) (repV rfl) h.2.2⟩⟩
def vNe(rx ry:R)(Q:R->Prop):Prop:=match dV rx.d,dV ry.d with
|some u,some w=>scal u w=true/\Q (.val (.bl (!decide (u=w))))
|_,_=>False
def vSlR(rx:R)(lo hi:Option Int)(Q:R->Prop):Prop:=match rx.d with
|.str z=>z.length<=sizeLine/\Q (.val (.str (Txt.slice z lo hi)))
|.tup ds=>Q (.val (.tup (cutL ds lo hi)))
|.lst ds=>Q (.own (.lst (cutL ds lo hi)))
|.scr ns=>Q (.own (.lst ((cutL ns lo hi).map D.int)))
|_=>False
abbrev TVO:=VSt->(Option Int->Prop)->Prop
def qca:TVO:=λ_ Q=>Q none
def qc4(te:TV):TVO:=λτ Q=>te τ λr=>match r.d with
|.int i=>Q (some i)
|_=>False
def RfOp(K:PySem.W.Frag)(to:TO)(t:TVO):Prop:=∀(H0 B H:Hp) (τ:VSt) (σ:St) (Q:Option Int->Hp->Prop) (Qd:Option Int->Prop),Same B H->Slots K H0 B H τ σ->t τ Qd->(∀o B' H',Stp B H B' H'->Qd o->Q o H')->to σ H Q
structure VPt(X:Cx)(EX:St->XK)(e:Option Expr)(t:TVO):Prop where
 u:∃to,QO X e to/\RfOp X.K to t
variable {e:Expr} {te ta:TV} {es:List Expr} {lo hi:Option Expr} {tl th:TVO} {pos p p2 apos cpos:Pos} {x:Str}
theorem qdb:VPt X EX none qca:=⟨_,qxy,λ_ B H _ _ _ _ s _ h k=>k _ B H (.refl s) h⟩
theorem qbi(h:VE X EX e te):VPt X EX (some e) (qc4 te):=let ⟨_,a1,a2⟩:=h.u;⟨_,qxz a1,λH0 B H τ σ Q Qd s S h k=>a2 H0 B H τ σ _ _ s S h (xno λ_ q=>q) λr v B' H' p q h1=>by
  split at h1
  ·rename_i i e
   exact⟨i,q.pk.scal (by rw[e];rfl),k _ B' H' p h1⟩
  ·exact h1.elim⟩
def qdh(te:TV)(tl th:TVO):TV:=λτ Q=>te τ λr=>exR r Q (tl τ λl=>th τ λu=>vSlR r l u Q)
theorem qch(he:VE X EX e te)(hl:VPt X EX lo tl)(hh:VPt X EX hi th):VE X EX (.Subscript e (.Slice lo hi none p2) pos) (qdh te tl th) :=
 let ⟨_,a1,a2⟩:=he.u;let ⟨_,b1,b2⟩:=hl.u;let ⟨_,c1,c2⟩:=hh.u;⟨_,qty (sl_str.or (sl_tupP.or qyf)) a1 b1 c1,λH0 B H τ σ Q Qd s S h xc k =>
  a2 H0 B H τ σ _ _ s S h xc λr v B1 H1 p1 q1 h1=>b2 H0 B1 H1 τ σ _ _ p1.s (S.step p1) (q1.ok h1) λl B2 H2 p2 h2=>c2 H0 B2 H2 τ σ _ _ p2.s (S.step (p1.trans p2)) h2 λu B3 H3 p3 h3=>by
   have p12:=p1.trans p2
   have pp:=p12.trans p3
   have pk:=(q1.pk.step p2).step p3
   unfold vSlR at h3
   split at h3
   ·rename_i z ez
    cases pk.scal (z:=.str z) (by rw[ez];rfl)
    exact .inl ⟨z,rfl,h3.1,k _ _ B3 H3 pp (repV rfl) h3.2⟩
   ·rename_i ds ed
    obtain⟨a,xs,rfl,h1,r1⟩:=pk.tup ed
    refine .inr (.inl ⟨a,xs,rfl,p3.s.sqT h1.sq,λw=>?_,λw p hp=>?_⟩)
    ·refine k _ _ B3 H3 pp ?_ h3
     show Rep X.K B3 (.tup (cutL ds l u)) _
     unfold Rep
     have hc:cutL ds l u=ds:=by
      unfold cutL
      rw[r1.length,w.1,w.2,List.drop_zero,Nat.sub_zero,←r1.length,List.take_length]
     rw[hc]
     exact⟨a,xs,rfl,h1,r1⟩
    ·exact k (.val (.tup (cutL ds l u))) _ (upd B3 p (.tup (cutV xs l u))) _ (pp.trans (.new p3.s hp)) (qiz (r1.cut l u) (p3.s.free hp)) h3
   ·rename_i ds ed
    obtain⟨a,xs,rfl,h1,r1⟩:=pk.lst p3.s ed
    exact .inr (.inr ⟨a,xs,rfl,SqL.of h1,λp hp=>k (.own _) _ B3 _ (pp.trans (.grow p3.s (qau hp _))) ⟨p,rfl,pp.h.free hp,p3.s.free hp,qbp (r1.cut l u)⟩ h3⟩)
   ·rename_i ns en
    obtain⟨a,rfl,h1⟩:=pk.scr p3.s en
    refine .inr (.inr ⟨a,_,rfl,h1,λp hp=>k (.own _) _ B3 _ (pp.trans (.grow p3.s (qau hp _))) ⟨p,rfl,pp.h.free hp,p3.s.free hp,?_⟩ h3⟩)
    rw[qsv]
    exact qbp (.ints _)
   ·exact h3.elim⟩
def vIxR(rx ry:R)(Q:R->Prop):Prop:=match rx.d,ry.d with
|.str z,.int i=>z.length<=sizeLine/\∃c,atI z.cps.toList i=some c/\Q (.val (.str ⟨#[c]⟩))
|.tup ds,.int i=>∃d,atI ds i=some d/\Q (.val d)
|.lst ds,.int i=>∃d,atI ds i=some d/\Q (.val d)
|.scr ns,.int i=>∃n,atI ns i=some n/\Q (.val (.int n))
|_,_=>False
theorem qaj:VX X vIxR:=by
 refine⟨_,ix_str.or (ix_tup.or qwk),λB H x y rx ry Q Qd s px py h k=>?_⟩
 unfold vIxR at h
 split at h
 ·rename_i z i e1 e2
  obtain⟨hz,c,hc,q⟩:=h
  exact .inl ⟨z,i,c,px.scal (by rw[e1];rfl),py.scal (by rw[e2];rfl),hz,hc,k _ _ B H (.refl s) (repV rfl) q⟩
 ·rename_i ds i e1 e2
  obtain⟨d,hd,q⟩:=h
  obtain⟨a,xs,rfl,h1,r1⟩:=px.tup e1
  obtain⟨w,hw,rw'⟩:=r1.atI hd
  exact .inr (.inl ⟨a,xs,i,w,rfl,py.scal (by rw[e2];rfl),s.sqT h1.sq,hw,k (.val d) _ B H (.refl s) rw' q⟩)
 ·rename_i ds i e1 e2
  obtain⟨d,hd,q⟩:=h
  obtain⟨a,xs,rfl,h1,r1⟩:=px.lst s e1
  obtain⟨w,hw,rw'⟩:=r1.atI hd
  exact .inr (.inr ⟨a,xs,i,w,rfl,py.scal (by rw[e2];rfl),SqL.of h1,hw,k (.val d) _ B H (.refl s) rw' q⟩)
 ·rename_i ns i e1 e2
  obtain⟨n,hn,q⟩:=h
  obtain⟨a,rfl,h1⟩:=px.scr s e1
  exact .inr (.inr ⟨a,_,i,_,rfl,py.scal (by rw[e2];rfl),h1,qyx hn,k _ _ B H (.refl s) (repV rfl) q⟩)
 ·exact h.elim
def vLen(rx:R)(Q:R->Prop):Prop:=match rx.d with
|.str z=>z.length<=sizeLine/\Q (.val (.int z.length))
|.tup ds=>Q (.val (.int ds.length))
|.lst ds=>Q (.val (.int ds.length))
|.scr ns=>Q (.val (.int ns.length))
|_=>False
theorem qbt:VF X (.builtin "len") vLen:=by
 refine⟨_,call_len_str.or qjo,λB H x rx Q Qd s px h k=>?_⟩
 unfold vLen at h
 split at h
 ·rename_i z e1
  exact .inl ⟨z,by rw[px.scal (z:=.str z) (by rw[e1];rfl)],h.1,k _ _ B H (.refl s) (repV rfl) h.2⟩
 ·rename_i ds e1
  obtain⟨a,xs,rfl,h1,r1⟩:=px.tup e1
  exact .inr ⟨a,xs,rfl,.inr (s.sqT h1.sq),k _ _ B H (.refl s) (repV rfl) (by rw[r1.length] at h;exact h)⟩
 ·rename_i ds e1
  obtain⟨a,xs,rfl,h1,r1⟩:=px.lst s e1
  exact .inr ⟨a,xs,rfl,.inl (SqL.of h1),k _ _ B H (.refl s) (repV rfl) (by rw[r1.length] at h;exact h)⟩
 ·rename_i ns e1
  obtain⟨a,rfl,h1⟩:=px.scr s e1
  exact .inr ⟨a,_,rfl,.inl h1,k (.val (.int ns.length)) _ B H (.refl s) (by rw[List.length_map];exact repV rfl) h⟩
 ·exact h.elim
def qha(rx:R)(Q:R->Prop):Prop:=match rx.d with
|.tup ds=>Q (.own (.lst ds))
|.lst ds=>Q (.own (.lst ds))
|.scr ns=>Q (.own (.lst (ns.map D.int)))
|_=>False
theorem qe2:VF X (.type "list") qha:=by
 refine⟨_,qjq,λB H x rx Q Qd s px h k=>?_⟩
 unfold qha at h
 split at h
 ·rename_i ds e1
  obtain⟨a,xs,rfl,h1,r1⟩:=px.tup e1
  exact⟨a,xs,rfl,.inr (s.sqT h1.sq),λp hp=>k (.own _) _ B _ (.grow s (qau hp _)) ⟨p,rfl,hp,s.free hp,qbp r1⟩ h⟩
 ·rename_i ds e1
  obtain⟨a,xs,rfl,h1,r1⟩:=px.lst s e1
  exact⟨a,xs,rfl,.inl (SqL.of h1),λp hp=>k (.own _) _ B _ (.grow s (qau hp _)) ⟨p,rfl,hp,s.free hp,qbp r1⟩ h⟩
 ·rename_i ns e1
  obtain⟨a,rfl,h1⟩:=px.scr s e1
  exact⟨a,_,rfl,.inl h1,λp hp=>k (.own _) _ B _ (.grow s (qau hp _)) ⟨p,rfl,hp,s.free hp,qbp (.ints ns)⟩ h⟩
 ·exact h.elim
def qvt(rx:R)(Q:R->Prop):Prop:=match rx.d with
|.tup ds=>Q (.val (.tup ds))
|.lst ds=>Q (.val (.tup ds))
|_=>False
def vStr(rx:R)(Q:R->Prop):Prop:=match rx.d with
|.int i=>i.natAbs.log2<1920/\Q (.val (.str (toString i)))
|_=>False
def vAll(g:List Bool->Bool)(rx:R)(Q:R->Prop):Prop:=∃bs:List Bool,rx.d=.lst (bs.map D.bl)/\Q (.val (.bl (g bs)))
inductive Ty5 where
|str|tuple|list|int|bool
def Ty5.nm:Ty5->String
|.str=>"str"|.tuple=>"tuple"|.list=>"list"|.int=>"int"|.bool=>"bool"
def isTy:Ty5->D->Option Bool
|_,.non=>some false
|c,.bl _=>some (match c with|.bool=>true|.int=>true|_=>false)
|c,.int _=>some (match c with|.int=>true|_=>false)
|c,.str _=>some (match c with|.str=>true|_=>false)
|c,.tup _=>some (match c with|.tuple=>true|_=>false)
|c,.lst _=>some (match c with|.list=>true|_=>false)
|_,_=>none
def nmTy:D->String
|.non=>"NoneType"|.bl _=>"bool"|.int _=>"int"|.str _=>"str"|.tup _=>"tuple"|_=>"list"
theorem qs7{d:D}{c:Ty5}{b:Bool}(h:isTy c d=some b):PySem.W.kitOne K (.type (nmTy d)) (.type c.nm)=some b:=by
 cases d<;>cases c<;>first|(cases h;with_unfolding_all rfl;done)|(cases h;exact qs8;done)|(cases h;done)
theorem qs4{pins:List (Addr×Obj)}{s:Shared}{σ:St}{H:Hp}{v:V}{u:Value}{d:D}{c:Ty5}{b:Bool}{A:Around}{Q:Value->Shared->Prop}{E:Value->Shared->Prop}(I:Inv X pins σ H s)(rx:RelV v u)(h:Rep X.K H d v)(e:isTy c d=some b)
  (q:∀tk,Q (.bool b) { s with toks:=tk }):wpAny (model X.prog X.w) A (call (.builtin "isinstance") [u,.type c.nm]) Q E s:=by
 have kt:=qs7 (K:=X.K) e
 cases d with
|non=>unfold Rep at h;subst h;exact qd3 I rx .non kt q
|bl b=>unfold Rep at h;subst h;exact qd3 I rx (.bl _) kt q
|int b=>unfold Rep at h;subst h;exact qd3 I rx (.int _) kt q
|str b=>unfold Rep at h;subst h;exact qd3 I rx (.str _) kt q
|tup ds =>
  unfold Rep at h
  obtain⟨a,xs,rfl,ha,_⟩:=h
  cases (show u=Value.ref a from rx)
  obtain⟨its,_,⟨o,h1,h2,_⟩,_⟩:=I.tuple ha.sq
  exact PySem.W.kia_one PySem.W.kitx_tuple I.kIn ⟨o,h1,h2⟩ kt (λz=>nomatch z) q
|lst ds =>
  unfold Rep at h
  obtain⟨a,xs,rfl,ha,_⟩:=h
  exact qd3 I rx (.lst ha) kt q
|dT _ _=>cases e
|dK _ _=>cases e
|scr _=>cases e
|kt _=>cases e
|exc _=>cases e
|io _ _=>cases e
|ioT _ _ _=>cases e
theorem qsq(c:Ty5):CallR X (.builtin "isinstance") (λxs H Q=>∃x d b,xs=[x,.ty c.nm]/\Rep X.K H d x/\isTy c d=some b/\Q (.bl b) H):=by
 intro pins s σ H xs us Q I r h
 obtain⟨x,d,b,rfl,ty,e,q⟩:=h
 obtain⟨u,v,rfl,ru,rv⟩:=vals2 r
 cases (show v=Value.type c.nm from rv)
 exact qs4 I ru ty e λtk=>⟨.bl b,H,I.tok tk,rfl,q⟩
def qfg(c:Ty5)(ta:TV):TV:=λτ Q=>ta τ λr=>exR r (λ_=>False) <| match isTy c r.d with
|some b=>Q (.val (.bl b))
|none=>False
theorem qcz{a:Expr}{pb:Pos}{y:Str}(c:Ty5)(hg:Gl X "isinstance")(hm:X.mg "isinstance" = none)(hgy:Gl X y)(hmy:X.mg y=none)(hby:bootBuiltins y=some (.type c.nm))(ha:VE X EX a ta)(hp:qa2 a=true:=by rfl)(hny:y≠"__name__" := by decide)(hdy:(y==("__debug__" : Str))=false:=by decide) :
  VE X EX (.Call (.Name "isinstance" p) [a,.Name y pb] [] pos) (qfg c ta) :=
 let ⟨_,a1,a2⟩:=ha.u;⟨_,qcb (qsq c) hg hm PyProof.Rows.Boot.«isinstance» (qac a1 (qac (qxs (v:=.ty c.nm) hgy hmy hby rfl hny hdy) qd9 rfl) hp) (by rw[List.all_cons,hp];rfl),λH0 B H τ σ Q Qd s S h xc k=>a2 H0 B H τ σ _ _ s S h (xno λ_ q=>q) λr v B1 H1 p1 q1 h1=>by
   have h1:=q1.ok h1
   split at h1
   ·rename_i b eb
    exact⟨v,r.d,b,rfl,q1.pk.rep p1.s,eb,k _ _ B1 H1 p1 (repV rfl) h1⟩
   ·exact h1.elim⟩
end
end L2
namespace L2
open PySem PySem.Spec PyProof.Rows
section
variable {X:Cx} {EX:St->XK} {K:PySem.W.Frag} {B H B' H' H0 B0 B1 H1:Hp} {st:Stmt} {rest:List Stmt} {t u:TVS} {e a c o:Expr} {te ta:TV} {tT:TVT} {tA:TVA} {es:List Expr} {pos pos' p p2 apos cpos:Pos} {x:Str} {τ:VSt} {σ:St}
theorem Stp.base(p:Stp B0 H0 B1 H1)(q:Stp B1 H0 B' H'):Stp B0 H0 B' H':=⟨p.b.trans q.b,q.h,q.s,λa h=>(q.d a h).elim (p.d a) .inr⟩
theorem Stp.here(p:Stp B0 H0 B1 H1):Stp B1 H0 B1 H1:=⟨Same.refl _,p.h,p.s,λ_ h=>.inl h⟩
theorem EndsOk.base{Dv:VEnds}{Dh:Ends}(E:EndsOk K EX B0 H0 Dv Dh)(p:Stp B0 H0 B1 H1):EndsOk K EX B1 H0 Dv Dh :=
 ⟨λB H τ σ q=>E.nx B H τ σ (p.base q),λr v B H q=>E.rt r v B H (p.base q),λB H τ σ q=>E.bk B H τ σ (p.base q),λB H τ σ q=>E.ct B H τ σ (p.base q),λB H τ σ n C q=>E.xc B H τ σ n C (p.base q),λr v B H τ σ q=>E.ro r v B H τ σ (p.base q),λd v B H q=>E.rn d v B H (p.base q)⟩
def exS(τ:VSt)(Dv:VEnds):R->Prop->Prop
|.exc n,_=>Dv.xc τ n
|.val _,k=>k
|.own _,k=>k
|.peek _,k=>k
theorem RepR.okS{r:R}{v:V}{τ:VSt}{Dv:VEnds}{k:Prop}(h:RepR K B H0 H r v)(q:exS τ Dv r k):k:=by
 cases r with
|exc n=>exact h.elim
|val d=>exact q
|own d=>exact q
|peek d=>exact q
theorem EndsOk.raised{Dv:VEnds}{Dh:Ends}(E:EndsOk K EX B0 H0 Dv Dh)(p:Stp B0 H0 B H)(S:Slots K H0 B H τ σ):∀n C B' H',Stp B H B' H'->clsOf K n C->Dv.xc τ n->EX σ (.ref C) none H':=λn C B' H' q c h=>E.xc B' H' τ σ n C (p.trans q) (S.step q) c h
def qbc:TVS:=λDv τ=>Dv.nx τ
def vSeq(t u:TVS):TVS:=λDv τ=>t { Dv with nx:=u Dv } τ
theorem qam:VSs X EX [] qbc:=⟨_,qx1,λB0 H0 B H τ σ Dv Dh p S h E=>E.nx B H τ σ p S h⟩
theorem qah(h:VS X EX st t):VSs X EX [st] t:=let ⟨_,a1,a2⟩:=h.u;⟨_,qix a1,a2⟩
theorem qab(h:VS X EX st t)(r:VSs X EX rest u):VSs X EX (st::rest) (vSeq t u) :=
 let ⟨_,a1,a2⟩:=h.u;let ⟨_,b1,b2⟩:=r.u;⟨_,qiw a1 b1,λB0 H0 B H τ σ Dv Dh p S h E=>a2 B0 H0 B H τ σ _ _ p S h ⟨λB H τ σ p S h=>b2 B0 H0 B H τ σ _ _ p S h E,E.rt,E.bk,E.ct,E.xc,E.ro,E.rn⟩⟩
def vFrz(i:Nat)(t:TVS):TVS:=λDv τ=>t Dv (frz i τ)
def vIfS(c:TVT)(t u:TVS):TVS:=λDv τ=>c τ λb=>if b=true then t Dv τ else u Dv τ
theorem qbf{sa sb:List Stmt}(hc:VT X EX c tT)(ha:VSs X EX sa t)(hb:VSs X EX sb u):VS X EX (.If c sa sb pos) (vIfS tT t u) :=
 let ⟨_,c1,c2⟩:=hc.u;let ⟨_,a1,a2⟩:=ha.u;let ⟨_,b1,b2⟩:=hb.u;⟨_,q2n c1 a1 b1,λB0 H0 B H τ σ Dv Dh p S h E=>c2 H0 B H τ σ _ _ p.s S h λcb B' H' q hq=>by
  cases cb with
 |true=>exact iteT (a2 B0 H0 B' H' τ σ _ _ (p.trans q |> λz=>⟨z.b,z.h,z.s,z.d⟩) (S.step q) (by rw[if_pos rfl] at hq;exact hq) E)
 |  false=>exact iteF (b2 B0 H0 B' H' τ σ _ _ (p.trans q) (S.step q) (by rw[if_neg Bool.false_ne_true] at hq;exact hq) E)⟩
def vRet(te:TV):TVS:=λDv τ=>te τ λr=>exS τ Dv r (pubR r λ_=>Dv.rt r)
theorem qax(h:VE X EX e te):VS X EX (.Return (some e) pos) (vRet te) :=
 let ⟨_,a1,a2⟩:=h.u;⟨_,qkk a1,λB0 H0 B H τ σ Dv Dh p S h E=>a2 H0 B H τ σ _ _ p.s S h (E.raised p S) λr v B' H' q hr hq=>by
  cases r with
 |val d=>exact E.rt (.val d) v B' H' (p.trans q) hr hq
 |own d=>exact E.rt (.own d) v B' H' (p.trans q) (hr.back p.h) hq
 |peek d=>exact hq.elim
 |  exc n=>exact hr.elim⟩
def qrz(i:Nat):TVS:=λDv τ=>match τ[i]? with
|some (some (.own d))=>Dv.rt (.own d)
|some (some (.val d))=>Dv.rt (.val d)
|_=>False
theorem qyp(i:Nat)(hN:X.N[i]?=some x:=by rfl)(hv:Vis X.env.scope x:=by first|exact Or.inl rfl|exact Or.inr (Or.inl rfl)|exact Or.inr (Or.inr rfl))(hd:(x==("__debug__" : Str))=false:=by decide)
  (hcd:(x==("__classdict__" : Str))=false:=by decide):VS X EX (.Return (some (.Name x pos')) pos) (qrz i) :=
 ⟨_,qkk (qv i hN hv hd hcd),λB0 H0 B H τ σ Dv Dh p S h E=>by
  unfold qrz at h
  split at h
  ·rename_i d e
   obtain⟨a,q,h0,hb,ow⟩:=S.own i d e
   exact⟨.ref a,q,E.rt (.own d) _ B H p ⟨a,rfl,h0,hb,ow⟩ h⟩
  ·rename_i d e
   obtain⟨v,q,rp⟩:=S.val i d e
   exact⟨v,q,E.rt (.val d) _ B H p rp h⟩
  ·exact h.elim⟩
def q1m:TVS:=λDv _=>Dv.rt (.val .non)
def q1k(te:TV):TVS:=λDv τ=>te τ λr=>exS τ Dv r (Dv.nx τ)
def vSet(i:Nat)(te:TV):TVS:=λDv τ=>te τ λr=>exS τ Dv r (pubR r λd=>Dv.nx (τ.set i (some (.val d))))
theorem q00{i:Nat}{ee:TE}(h:RfE K EX ee te):RfS K EX (tAsg ee (qod i)) (vSet i te):=λB0 H0 B H τ σ Dv Dh p S hh E=>h H0 B H τ σ _ _ p.s S hh (E.raised p S) λr v B' H' q hr hq=>by
 obtain⟨d,B2,q2,_,rp,hd⟩:=pub q hr (hr.okS hq)
 exact E.nx B2 H' _ _ (p.trans q2) ((S.step q2).setVal i rp) hd
def qfu(i:Nat)(te:TV):TVS:=λDv τ=>te τ λr=>exS τ Dv r (pubR r λ_=>Dv.nx (τ.set i (some r)))
theorem qyb{i:Nat}{ee:TE}(h:RfE K EX ee te):RfS K EX (tAsg ee (qod i)) (qfu i te):=λB0 H0 B H τ σ Dv Dh p S hh E=>h H0 B H τ σ _ _ p.s S hh (E.raised p S) λr v B' H' q hr hq=>by
 cases r with
|val d=>exact E.nx B' H' _ _ (p.trans q) ((S.step q).setVal i hr) hq
|own d =>
  obtain⟨a,rfl,h0,hb,ow⟩:=hr
  refine E.nx B' H' _ _ (p.trans q) ((S.step q).setOwn i (p.h.free h0) hb ow λj e he z=>?_) hq
  obtain⟨c,qc,_,_,oc⟩:=S.own j e he
  rw[z] at qc
  cases qc
  exact oc.some h0
|peek d=>exact hq.elim
|exc n=>exact hr.elim
theorem qav{i:Nat}(hN:X.N.Nodup)(hi:X.N[i]?=some x)(hx:Loc X.env.scope x)(h:VE X EX e te)(hs:swapsWith e (some (.Name x pos')) pos.line X.env=pure false:=by rfl)
  (hf:X.fn x=true\/X.env.scope.names.lookup x=some .local:=by first|exact .inl rfl|exact .inr rfl|assumption):VS X EX (.Assign [.Name x pos'] e pos) (vSet i te):=let ⟨_,a1,a2⟩:=h.u;⟨_,qrh hN hi hx a1 hs hf,q00 a2⟩
theorem qdt{i:Nat}(hN:X.N.Nodup)(hi:X.N[i]?=some x)(hx:Loc X.env.scope x)(h:VE X EX e te)(hs:swapsWith e (some (.Name x pos')) pos.line X.env=pure false:=by rfl)
  (hf:X.fn x=true\/X.env.scope.names.lookup x=some .local:=by first|exact .inl rfl|exact .inr rfl|assumption):VS X EX (.Assign [.Name x pos'] e pos) (qfu i te):=let ⟨_,a1,a2⟩:=h.u;⟨_,qrh hN hi hx a1 hs hf,qyb a2⟩
def qbu(i:Nat):TVG:=λd τ Q=>Q (τ.set i (some (.val d)))
theorem qzl{i:Nat}{d:D}{v:V}:Kp τ σ (τ.set i (some (.val d))) (σ.set i (some v)):=λj e h=>by
 rcases qbq h with ⟨rfl,z,l⟩|⟨n,h⟩
 ·cases z
 ·exact⟨h,List.getElem?_set_ne n⟩
theorem qbo{i:Nat}(hN:X.N.Nodup)(hi:X.N[i]?=some x)(hx:Loc X.env.scope x)(hf:X.fn x=true\/X.env.scope.names.lookup x=some .local:=by first|exact .inl rfl|exact .inr rfl|assumption):VG X (.Name x pos) (qbu i) :=
 ⟨_,qrg hN hi hx hf,λH0 B H τ σ v d Q Qd s S rp h k=>k _ _ (S.setVal i rp) qzl h⟩
def q1o:List D->VSt->(VSt->Prop)->Prop:=λds τ Q=>ds=[]/\Q τ
def qvv(g:TVG)(gs:List D->VSt->(VSt->Prop)->Prop):List D->VSt->(VSt->Prop)->Prop:=λds τ Q=>match ds with
|d::r=>g d τ λτ'=>gs r τ' Q
|[]=>False
def q1p(n:Nat)(gs:List D->VSt->(VSt->Prop)->Prop):TVG:=λd τ Q=>match d with
|.tup ds=>ds.length=n/\gs ds τ Q
|_=>False
def vAsg(te:TV)(g:TVG):TVS:=λDv τ=>te τ λr=>exS τ Dv r (pubR r λd=>g d τ Dv.nx)
end
section
variable {X:Cx} {tg l e:Expr}
def iAny(K:PySem.W.Frag)(tl:TE):TI:=λσ H R=>tl σ H λx H1=>(∃a,x=.ref a/\(∃xs,SqL K H1 a xs)/\R (Itl K a) H1)\/(∃a,x=.ref a/\(∃xs,SqT K H1 a xs)/\R (Itt K a) H1)\/∃z,x=.str z/\R (Its z) H1
theorem q0b{tl:TE}(hl:PE X l tl):PI X tg l (iAny X.K tl):=by
 intro pins s σ H R I h
 refine thn (hl pins s σ H _ I h) λv s1 ⟨x,H1,I1,r1,q1⟩=>?_
 rcases q1 with ⟨a,rfl,⟨xs,hq⟩,q⟩|⟨a,rfl,⟨xs,hq⟩,q⟩|⟨z,rfl,q⟩
 ·cases r1
  obtain⟨its,rv,pl,hz⟩:=I1.list hq
  refine wpAny_pyIter_list pl.isList ⟨s1.heap.objs.size,[s1.heap.objs.size],_,_,H1,rfl,I1.kept (t':=s1.toks) λb o e=>Heap.get?_push_of_some _ e,qrw a _,⟨_,Heap.get?_push_size _ rfl,rfl,rfl⟩,λb hb=>?_,q⟩
  cases (by simpa using hb:b=s1.heap.objs.size)
  exact I1.fpOk (Nat.le_refl _) (I1.hok.fresh (Nat.le_refl _))
 ·cases r1
  obtain⟨its,rv,pl,hz⟩:=I1.tuple hq
  refine wpAny_pyIter_tuple (show s1.heap.IsTuple a its.toArray from pl) ⟨s1.heap.objs.size,[s1.heap.objs.size],_,_,H1,rfl,I1.kept (t':=s1.toks) λb o e=>Heap.get?_push_of_some _ e,qo0 a _,⟨_,Heap.get?_push_size _ rfl,rfl,rfl⟩,λb hb=>?_,q⟩
  cases (by simpa using hb:b=s1.heap.objs.size)
  exact I1.fpOk (Nat.le_refl _) (I1.hok.fresh (Nat.le_refl _))
 ·obtain⟨t,rfl⟩:=r1
  have fp:∀b∈[s1.heap.objs.size],FpOk X pins H1 b:=λb hb=>by
   cases (by simpa using hb:b=s1.heap.objs.size)
   exact I1.fpOk (Nat.le_refl _) (I1.hok.fresh (Nat.le_refl _))
  cases ha:z.cps.all (·<128)
  ·exact wpAny_pyIter_wide ha ⟨s1.heap.objs.size,[s1.heap.objs.size],_,_,H1,rfl,I1.kept (t':=s1.toks) λb o e=>Heap.get?_push_of_some _ e,qrx _ z t,⟨_,Heap.get?_push_size _ rfl,rfl,rfl⟩,fp,q⟩
  ·exact wpAny_pyIter_ascii ha ⟨s1.heap.objs.size,[s1.heap.objs.size],_,_,H1,rfl,I1.kept (t':=s1.toks) λb o e=>Heap.get?_push_of_some _ e,qoy _ z t,⟨_,Heap.get?_push_size _ rfl,rfl,rfl⟩,fp,q⟩
theorem q0p{tl:TE}(h:QE X e tl):QI X tg e (iAny X.K tl):=⟨q0b h.u⟩
end
section
variable {X:Cx} {EX:St->XK} {K:PySem.W.Frag} {B H B' H' H0 B0 B1 H1:Hp} {st:Stmt} {rest:List Stmt} {t u:TVS} {e a c o:Expr} {te ta:TV} {tT:TVT} {tA:TVA} {es:List Expr} {pos pos' p p2 apos cpos:Pos} {x:Str} {τ:VSt} {σ:St}
def qc9(te:TV):TVA:=λτ Q=>te τ λr=>excA r Q <| pubR r λd=>match d with
|.lst ds=>Q (.ok ds)
|.tup ds=>Q (.ok ds)
|.scr ns=>Q (.ok (ns.map D.int))
|.str z=>Q (.ok (z.cps.toList.map λc=>.str ⟨#[c]⟩))
|_=>False
theorem qm3{ad:Addr}{ds:List D}{xs:List V}(h:SqL K B ad xs)(r:Reps K B ds xs):ItOk K B (Itl K ad) ds:=λi B2 H sb s2=>by
 have s:=sb.trans s2
 refine⟨λd e=>?_,λe=>⟨xs,s.seq h,by rw[←r.length];exact List.getElem?_eq_none_iff.mp e⟩⟩
 obtain⟨w,hw,rw'⟩:=r.at e
 refine⟨⟨xs,w,s.seq h,hw⟩,λy H' q=>⟨B2,by rw[q.1];exact .refl s2,?_⟩⟩
 have:=q.2 xs (s.seq h)
 rw[hw] at this
 cases this
 exact rw'.same sb
theorem qze{ad:Addr}{ds:List D}{xs:List V}(h:SqT K B ad xs)(r:Reps K B ds xs):ItOk K B (Itt K ad) ds:=λi B2 H sb s2=>by
 have s:=sb.trans s2
 refine⟨λd e=>?_,λe=>⟨xs,s.sqT h,by rw[←r.length];exact List.getElem?_eq_none_iff.mp e⟩⟩
 obtain⟨w,hw,rw'⟩:=r.at e
 refine⟨⟨xs,w,s.sqT h,hw⟩,λy H' q=>⟨B2,by rw[q.1];exact .refl s2,?_⟩⟩
 have:=q.2 xs (s.sqT h)
 rw[hw] at this
 cases this
 exact rw'.same sb
theorem qzd(z:Str):ItOk K B (Its z) (z.cps.toList.map λc=>.str ⟨#[c]⟩):=λi B2 H sb s2=>by
 have s:=sb.trans s2
 refine⟨λd e=>?_,λe=>?_⟩
 ·rw[List.getElem?_map] at e
  cases hc:z.cps.toList[i]? with
 |none=>rw[hc] at e;cases e
 |some ch =>
   rw[hc] at e
   cases e
   have hc':z.cps[i]?=some ch:=by simpa using hc
   refine⟨?_,λy H' q=>⟨B2,by rw[q.1];exact .refl s2,?_⟩⟩
   ·show i<z.cps.size
    exact(Array.getElem?_eq_some_iff.mp hc').1
   ·obtain⟨c2,h2,rfl⟩:=q.2
    rw[hc'] at h2
    cases h2
    exact qgy (d:=.str ⟨#[ch]⟩) rfl
 ·show z.cps.size<=i
  have:=List.getElem?_eq_none_iff.mp e
  simpa using this
theorem qeg{tg:Expr}(h:VE X EX e te):VI X EX tg e (qc9 te) :=
 let ⟨_,a1,a2⟩:=h.u;⟨_,q0p a1,λH0 B H τ σ Q Qd s S h xc k=>a2 H0 B H τ σ _ _ s S h xc λr v B' H' q hr hq=>by
  obtain⟨d,B2,q2,_,rp,hd⟩:=pub q hr (hr.okA hq)
  split at hd
  ·unfold Rep at rp
   obtain⟨ad,xs,rfl,ha,r1⟩:=rp
   exact .inl ⟨ad,rfl,⟨xs,SqL.of (q2.s _ _ ha)⟩,k _ _ B2 H' q2 (qm3 (SqL.of ha) r1) hd⟩
  ·unfold Rep at rp
   obtain⟨ad,xs,rfl,ha,r1⟩:=rp
   exact .inr (.inl ⟨ad,rfl,⟨xs,q2.s.sqT ha.sq⟩,k _ _ B2 H' q2 (qze ha.sq r1) hd⟩)
  ·unfold Rep at rp
   obtain⟨ad,rfl,ha⟩:=rp
   exact .inl ⟨ad,rfl,⟨_,q2.s.seq ha⟩,k _ _ B2 H' q2 (qm3 ha (.ints _)) hd⟩
  ·rename_i z
   unfold Rep at rp
   exact .inr (.inr ⟨z,rp,k _ _ B2 H' q2 (qzd z) hd⟩)
  ·exact hd.elim⟩
def rngL(lo:Int)(n:Nat):List D:=(List.range n).map λ(i:Nat)=>.int (lo+i)
theorem qzc(lo:Int)(n:Nat):ItOk K B (Itr lo n) (rngL lo n):=λi B2 H sb s2=>by
 unfold rngL
 refine⟨λd e=>?_,λe=>?_⟩
 ·rw[List.getElem?_map] at e
  by_cases hi:i<n
  ·rw[List.getElem?_range hi] at e
   cases e
   exact⟨hi,λy H' q=>⟨B2,by rw[q.1];exact .refl s2,by rw[q.2];exact qgy (d:=.int (lo+(i:Nat))) rfl⟩⟩
  ·rw[List.getElem?_eq_none (by rw[List.length_range];lia)] at e
   cases e
 ·have:=List.getElem?_eq_none_iff.mp e
  rw[List.length_map,List.length_range] at this
  exact this
def qhk(te:TV):TVA:=λτ Q=>te τ λr=>match r.d with
|.int j=>-(2 ^ 62)<=j/\j<2 ^ 62/\Q (.ok (rngL 0 j.toNat))
|_=>False
theorem qe3{tg:Expr}(hg:Gl X "range")(hm:X.mg "range" = none)(h:VE X EX a ta)(hp:qa2 a=true:=by rfl):VI X EX tg (.Call (.Name "range" p) [a] [] pos) (qhk ta) :=
 let ⟨_,a1,a2⟩:=h.u;⟨_,q2m hg hm (qac a1 qd9 hp) hp,λH0 B H τ σ Q Qd s S h xc k=>a2 H0 B H τ σ _ _ s S h (xno λ_ q=>q) λr v B' H' q hr hq=>by
  split at hq
  ·rename_i j ej
   exact⟨j,by rw[hr.pk.scal (z:=.int j) (by rw[ej];rfl)],hq.1,hq.2.1,k _ _ B' H' q (qzc 0 j.toNat) hq.2.2⟩
  ·exact hq.elim⟩
def q1n(ta tb:TV):TVA:=λτ Q=>ta τ λrx=>exR rx (λ_=>False) <| tb τ λry=>match rx.d,ry.d with
|.int i,.int j=>(-(2 ^ 62)<=i/\i<2 ^ 62/\-(2 ^ 62)<=j/\j<2 ^ 62)/\Q (.ok (rngL i (j-i).toNat))
|_,_=>False
def forW(g:TVG)(tb:TVS)(Dv:VEnds):List D->VSt->Prop
|[],τ=>Dv.nx τ
|d::ds,τ=>g d τ λτ'=>tb { Dv with nx:=forW g tb Dv ds,ct:=forW g tb Dv ds,bk:=Dv.nx } τ'
def exI(τ:VSt)(Dv:VEnds):AR->(List D->Prop)->Prop
|.ok ds,k=>k ds
|.exc n,_=>Dv.xc τ n
def vFor(vi:TVA)(g:TVG)(tb:TVS):TVS:=λDv τ=>vi τ λa=>exI τ Dv a λds=>forW g tb Dv ds τ
theorem q0y{wi:TI}{g:TG}{tb:TS}{vi:TVA}{gv:TVG}{bv:TVS}(hi:RfI K EX wi vi)(hg:RfG K g gv)(hb:RfS K EX tb bv):RfS K EX (tFor wi g tb) (vFor vi gv bv):=λB0 H0 B H τ σ Dv Dh p S h E =>
 hi H0 B H τ σ _ _ p.s S h (E.raised p S) λJ ds B1 H1 q ok hw=>by
  have pq:=p.trans q
  have E1:=E.base pq
  refine⟨λi m σ H=>m=ds.length-i/\i<=ds.length/\∃B2 τ,Stp B1 H0 B2 H/\Slots K H0 B2 H τ σ/\forW gv bv Dv (ds.drop i) τ,⟨ds.length,by lia,Nat.zero_le _,B1,τ,pq.here,S.step q,hw⟩,?_⟩
  rintro i m σ2 H2 ⟨rfl,hi,B2,τ2,p2,S2,w⟩
  by_cases hlt:i<ds.length
  ·have ei:ds[i]?=some ds[i]:=List.getElem?_eq_getElem hlt
   rw[List.drop_eq_getElem_cons hlt] at w
   obtain⟨go,yl⟩:=(ok i B2 H2 p2.b p2.s).1 _ ei
   refine .inr ⟨go,λσ' H'=>∃B2 τ,Stp B1 H0 B2 H'/\Slots K H0 B2 H' τ σ'/\forW gv bv Dv (ds.drop (i+1)) τ,λσ' H' ⟨B3,τ3,a1,a2,a3⟩=>⟨ds.length-(i+1),by lia,rfl,by lia,B3,τ3,a1,a2,a3⟩,λy H' hy=>?_⟩
   obtain⟨B3,q3,rp⟩:=yl y H' hy
   refine hg H0 B3 H' τ2 σ2 y _ _ _ q3.s (S2.step q3) rp w λτ' σ' S' _ h'=>?_
   exact hb B1 H0 B3 H' τ' σ' _ _ (p2.trans q3) S' h' ⟨λB H τ σ a1 a2 a3=>⟨B,τ,a1,a2,a3⟩,E1.rt,λB H τ σ a1 a2 a3=>E1.nx B H τ σ a1 a2 a3,λB H τ σ a1 a2 a3=>⟨B,τ,a1,a2,a3⟩,E1.xc,E1.ro,E1.rn⟩
  ·have ei:ds[i]?=none:=List.getElem?_eq_none (by lia)
   rw[List.drop_eq_nil_of_le (by lia)] at w
   exact .inl ⟨(ok i B2 H2 p2.b p2.s).2 ei,E1.nx B2 H2 τ2 σ2 p2 S2 w⟩
theorem qdk{tg iter:Expr}{body:List Stmt}{vi:TVA}{g:TVG}(hp:PassesOwn (model X.prog X.w) X.A X.env X.xe)(hc:X.calm=true)(hi:VI X EX tg iter vi)(hg:VG X tg g)(hb:VSs X EX body t)
  (hs:∀x,foldedSetIterable iter X.env x=pure x:=by intro _;rfl):VS X EX (.For tg iter body [] pos) (vFor vi g t) :=
 let ⟨_,a1,a2⟩:=hi.u;let ⟨_,b1,b2⟩:=hg.u;let ⟨_,c1,c2⟩:=hb.u;⟨_,qvf hp hc a1 b1 c1 hs,q0y a2 b2 c2⟩
theorem qi9:VFs X EX [] (λ_ Q=>Q true):=⟨_,qxx,λH0 B H τ σ Y N Qd s S h k=>by have:=k true B H (.refl s) h;rw[if_pos rfl] at this;exact this⟩
def qjs(τ:VSt)(k:Nat)(g:TVG)(ti:TVT)(te:TV)(Q:R->Prop):List D->List D->Prop
|[],acc=>Q (.own (.lst acc))
|d::ds,acc=>g d (τ++List.replicate k none) λτ2=>(τ2.take τ.length=τ/\τ2.length=τ.length+k)/\ti τ2 λb=>if b=true then te τ2 λr=>pubR r λd'=>acc.length<sizeLine/\qjs τ k g ti te Q ds (acc++[d']) else qjs τ k g ti te Q ds acc
def qks(vi:TVA)(g:TVG)(ti:TVT)(te:TV)(k:Nat):TV:=λτ Q=>vi τ λa=>exA a Q λds=>qjs τ k g ti te Q ds []
theorem Slots.more(S:Slots K H0 B H τ σ)(k:Nat):Slots K H0 B H (τ++List.replicate k none) (σ++List.replicate k none):=by
 have get:∀(i:Nat) (r:R),(τ++List.replicate k none)[i]?=some (some r)->τ[i]?=some (some r)/\(σ++List.replicate k (none:Option V))[i]?=σ[i]?:=λi r h=>by
  by_cases l:i<τ.length
  ·rw[List.getElem?_append_left l] at h
   exact⟨h,List.getElem?_append_left (by rw[S.len];exact l)⟩
  ·rw[List.getElem?_append_right (by lia)] at h
   by_cases l2:i-τ.length<k
   ·rw[List.getElem?_replicate_of_lt l2] at h;cases h
   ·rw[List.getElem?_eq_none (by rw[List.length_replicate];lia)] at h;cases h
 refine⟨by rw[List.length_append,List.length_append,S.len,List.length_replicate,List.length_replicate],λi d h=>?_,λi d h=>?_,λi d h=>?_,λi j d e a h1 h2 h3 h4=>?_⟩
 ·obtain⟨g1,g2⟩:=get i _ h
  rw[g2]
  exact S.val i d g1
 ·obtain⟨g1,g2⟩:=get i _ h
  rw[g2]
  exact S.fz i d g1
 ·obtain⟨g1,g2⟩:=get i _ h
  rw[g2]
  exact S.own i d g1
 ·obtain⟨g1,g2⟩:=get i _ h1
  obtain⟨g3,g4⟩:=get j _ h2
  rw[g2] at h3
  rw[g4] at h4
  exact S.sep i j d e a g1 g3 h3 h4
theorem Slots.less{τ2:VSt}{k:Nat}(S:Slots K H0 B H τ2 σ)(h1:τ2.take τ.length=τ)(h2:τ2.length=τ.length+k):Slots K H0 B H (τ++List.replicate k none) σ/\∀(j:Nat) (e:D),(τ++List.replicate k none)[j]?=some (some (R.own e))->τ2[j]?=some (some (R.own e)):=by
 have get:∀(i:Nat) (r:R),(τ++List.replicate k none)[i]?=some (some r)->τ2[i]?=some (some r):=λi r h=>by
  by_cases l:i<τ.length
  ·rw[List.getElem?_append_left l,←h1,List.getElem?_take_of_lt l] at h
   exact h
  ·rw[List.getElem?_append_right (by lia)] at h
   by_cases l2:i-τ.length<k
   ·rw[List.getElem?_replicate_of_lt l2] at h;cases h
   ·rw[List.getElem?_eq_none (by rw[List.length_replicate];lia)] at h;cases h
 exact⟨⟨by rw[S.len,h2,List.length_append,List.length_replicate],λi d h=>S.val i d (get i _ h),λi d h=>S.fz i d (get i _ h),λi d h=>S.own i d (get i _ h),λi j d e a q1 q2=>S.sep i j d e a (get i _ q1) (get j _ q2)⟩,λj e=>get j _⟩
theorem Slots.heap(S:Slots K H0 B H τ σ)(h:∀(i:Nat) (d:D) (a:Addr),τ[i]?=some (some (R.own d))->σ[i]?=some (some (.ref a))->H' a=H a):Slots K H0 B H' τ σ :=
 ⟨S.len,S.val,S.fz,λi d e=>let ⟨a,q1,q2,q3,q4⟩:=S.own i d e;⟨a,q1,q2,q3,q4.step (Same.refl _) (h i d a e q1)⟩,S.sep⟩
abbrev EX0:St->XK:=λ_ _ _ _=>False
theorem qya{wi:TI}{g:TG}{ti:TF}{ee:TE}{vi:TVA}{gv:TVG}{tv:TVT}{k:Nat}(hi:RfI K EX wi vi)(hg:RfG K g gv)(hf:RfF K ti tv)(he:RfE K EX0 ee te):RfE K EX (qyl wi g ti ee k) (qks vi gv tv te k):=λH0 B H τ σ Q Qd s S h xc kk =>
 hi H0 B H τ σ _ _ s S h xc λJ ds B1 H1 q ok hw p hp=>by
  have S1:=S.step q
  refine⟨λi m σ' xs H'=>m=ds.length-i/\i<=ds.length/\∃B2 acc,Stp B1 H1 B2 H'/\H' p=some (.lst xs)/\B2 p=none/\Reps K B2 acc xs/\Slots K H0 B2 H' (τ++List.replicate k none) σ' /\
    (∀(j:Nat) (e:D),(τ++List.replicate k none)[j]?=some (some (R.own e))->σ'[j]?≠some (some (.ref p)))/\qjs τ k gv tv te Qd (ds.drop i) acc,
   ⟨ds.length,by lia,Nat.zero_le _,B1,[],.grow q.s (qau hp _),qa8,q.s.free hp,.nil,(S1.more k).heap λi d a h1 h2=>?_,λj e h1 h2=>?_,hw⟩,?_⟩
  ·obtain⟨c,q1,_,_,ow⟩:=(S1.more k).own i d h1
   rw[h2] at q1
   cases q1
   exact qa5 λz=>ow.some (z▸hp)
  ·obtain⟨c,q1,_,_,ow⟩:=(S1.more k).own j e h1
   rw[h2] at q1
   cases q1
   exact ow.some hp
  rintro i m σ2 xs H2 ⟨rfl,hle,B2,acc,p2,hx,hb,rp,S2,fr,w⟩
  by_cases hlt:i<ds.length
  ·have ei:ds[i]?=some ds[i]:=List.getElem?_eq_getElem hlt
   rw[List.drop_eq_getElem_cons hlt] at w
   obtain⟨go,yl⟩:=(ok i B2 H2 p2.b p2.s).1 _ ei
   refine .inr ⟨go,λy H' hy=>?_⟩
   obtain⟨B3,q3,ry⟩:=yl y H' hy
   replace hb:=q3.keep hb (by rw[hx];exact λz=>by cases z) (by rw[hx];exact λ_ z=>by cases z)
   replace hx:=q3.h _ _ hx
   replace rp:=rp.same q3.b
   replace p2:=p2.trans q3
   replace S2:=S2.step q3
   clear q3
   refine hg H0 B3 H' _ σ2 y _ _ _ p2.s S2 ry w λτ3 σ3 S3 kp h3=>?_
   obtain⟨⟨e1,e2⟩,h3⟩:=h3
   obtain⟨S3',ow3⟩:=S3.less e1 e2
   have fr3:∀(j:Nat) (e:D),(τ++List.replicate k none)[j]?=some (some (R.own e))->σ3[j]?≠some (some (.ref p)):=λj e h z=>by
    obtain⟨g1,g2⟩:=kp j e (ow3 j e h)
    rw[g2] at z
    exact fr j e g1 z
   refine hf H0 B3 H' τ3 σ3 _ _ _ p2.s S3 h3 λb B4 H4 q4 hq4=>?_
   have hx4:H4 p=some (.lst xs):=q4.h _ _ hx
   have hb4:B4 p=none:=q4.keep hb (by rw[hx];exact λz=>by cases z) (by rw[hx];exact λ_ z=>by cases z)
   cases b with
  |false =>
    rw[if_neg Bool.false_ne_true] at hq4 ⊢
    exact⟨ds.length-(i+1),by lia,rfl,by lia,B4,acc,p2.trans q4,hx4,hb4,rp.same q4.b,S3'.step q4,fr3,hq4⟩
  |true =>
    rw[if_pos rfl] at hq4 ⊢
    refine he H0 B4 H4 τ3 σ3 _ _ q4.s (S3.step q4) hq4 (xno λ_ q=>q) λr v B5 H5 q5 hr hq5=>?_
    obtain⟨d',B6,q6,_,rd,hz,hq6⟩:=pub q5 hr hq5
    have hx6:H5 p=some (.lst xs):=q6.h _ _ hx4
    have hb6:B6 p=none:=q6.keep hb4 (by rw[hx4];exact λz=>by cases z) (by rw[hx4];exact λ_ z=>by cases z)
    have qq:=q4.trans q6
    refine⟨hx6,by rw[←rp.length];exact hz,ds.length-(i+1),by lia,rfl,by lia,B6,acc++[d'],(p2.trans qq).upd hp hb6,qa8,hb6,(rp.same qq.b).append (.one rd),(S3'.step qq).heap λj d a h1 h2=>?_,fr3,hq6⟩
    exact qa5 λz=>fr3 j d h1 (z▸h2)
  ·have ei:ds[i]?=none:=List.getElem?_eq_none (by lia)
   rw[List.drop_eq_nil_of_le (by lia)] at w
   exact .inl ⟨(ok i B2 H2 p2.b p2.s).2 ei,kk (.own (.lst acc)) _ B2 H2 (q.trans p2) ⟨p,rfl,q.h.free hp,hb,xs,hx,rp⟩ w⟩
def canE(K:PySem.W.Frag)(t:TV):TE:=λσ H Q=>∃H0 B τ Qd,Same B H/\Slots K H0 B H τ σ/\t τ Qd/\(∀n C B' H',Stp B H B' H'->clsOf K n C->Qd (.exc n)->EX0 σ (.ref C) none H')/\∀r v B' H',Stp B H B' H'->RepR K B' H H' r v->Qd r->Q v H'
def canG(K:PySem.W.Frag)(g:TVG):TG:=λv σ H Q=>∃H0 B τ d Qd,Same B H/\Slots K H0 B H τ σ/\Rep K B d v/\g d τ Qd/\∀τ' σ',Slots K H0 B H τ' σ'->Kp τ σ τ' σ'->Qd τ'->Q σ' H
def canF(K:PySem.W.Frag)(t:TVT):TF:=λσ H Y N=>∃H0 B τ Qd,Same B H/\Slots K H0 B H τ σ/\t τ Qd/\∀b B' H',Stp B H B' H'->Qd b->if b=true then Y H' else N H'
theorem VE.can(h:VE X EX0 e te):QE X e (canE X.K te):=let ⟨_,a1,a2⟩:=h.u;⟨λpins s σ H Q I ⟨H0,B,τ,Qd,q1,q2,q3,q4,q5⟩=>a1.u pins s σ H Q I (a2 H0 B H τ σ Q Qd q1 q2 q3 q4 q5)⟩
theorem VG.can{g:TVG}(h:VG X e g):QG X e (canG X.K g):=let ⟨_,a1,a2⟩:=h.u;⟨λpins s σ H v u Q I r ⟨H0,B,τ,d,Qd,q1,q2,q3,q4,q5⟩=>a1.u pins s σ H v u Q I r (a2 H0 B H τ σ v d Q Qd q1 q2 q3 q4 q5)⟩
theorem VFs.can(h:VFs X EX es tT):QF X es (canF X.K tT):=let ⟨_,a1,a2⟩:=h.u;⟨λpins s σ H Y N I ⟨H0,B,τ,Qd,q1,q2,q3,q4⟩=>a1.u pins s σ H Y N I (a2 H0 B H τ σ Y N Qd q1 q2 q3 q4)⟩
theorem qi7{tg iter elt:Expr}{ifs:List Expr}{csc:Scope}{NB M:List Str}{vi:TVA}{g:TVG}{ti:TVT}(hi:VI X EX tg iter vi)(hc:X.calm=true)(S:CompScope X.env.scope X.N NB M csc)
  (hg:∀cl C s₀ H₀ fp pn,VG (cxC X NB csc cl C s₀ H₀ fp pn) tg g) (hf:∀cl C s₀ H₀ fp pn,VFs (cxC X NB csc cl C s₀ H₀ fp pn) EX0 ifs ti)
  (he:∀cl C s₀ H₀ fp pn,VE (cxC X NB csc cl C s₀ H₀ fp pn) EX0 elt te) (hs:∀x,foldedSetIterable iter X.env x=pure x:=by intro _;rfl):VC X EX (.ListComp elt [⟨tg,iter,ifs,0⟩] csc pos) (qks vi g ti te M.length) :=
 let ⟨_,a1,a2⟩:=hi.u;⟨_,qxr (g:=canG X.K g) (ti:=canF X.K ti) (te:=canE X.K te) a1 hc S (λcl C s₀ H₀ fp pn=>(hg cl C s₀ H₀ fp pn).can) (λcl C s₀ H₀ fp pn=>(hf cl C s₀ H₀ fp pn).can) (λcl C s₀ H₀ fp pn=>(he cl C s₀ H₀ fp pn).can) hs,
  qya a2 (λH0 B H τ σ v d Q Qd q1 q2 q3 q4 q5=>⟨H0,B,τ,d,Qd,q1,q2,q3,q4,q5⟩) (λH0 B H τ σ Y N Qd q1 q2 q3 q4=>⟨H0,B,τ,Qd,q1,q2,q3,q4⟩) (λH0 B H τ σ Q Qd q1 q2 q3 q4 q5=>⟨H0,B,τ,Qd,q1,q2,q3,q4,q5⟩)⟩
theorem vc_e(h:VC X EX e te):VE X EX e te:=let ⟨_,a1,a2⟩:=h.u;⟨_,qc_e a1,a2⟩
def ownL(τ:VSt)(i:Nat)(Q:List D->Prop):Prop:=match τ[i]? with
|some (some (.own (.lst ds)))=>Q ds
|_=>False
theorem qw2{i:Nat}{Q:List D->Prop}(h:ownL τ i Q):∃ds,τ[i]?=some (some (.own (.lst ds)))/\Q ds:=by
 unfold ownL at h
 split at h
 ·exact⟨_,by assumption,h⟩
 ·exact h.elim
theorem Slots.lst{i:Nat}{ds es:List D}{ad:Addr}{ys:List V}(S:Slots K H0 B H τ σ)(p:Stp B0 H0 B H)(hi:τ[i]?=some (some (.own (.lst ds))))(ha:σ[i]?=some (some (.ref ad)))(r:Reps K B es ys) :
  Stp B0 H0 B (L2.upd H ad (.lst ys))/\Slots K H0 B (L2.upd H ad (.lst ys)) (τ.set i (some (.own (.lst es)))) σ:=by
 obtain⟨c,q,h0,hb,_⟩:=S.own i _ hi
 rw[ha] at q
 cases q
 exact⟨p.upd h0 hb,S.upd hi ha (qbp r)⟩
theorem Slots.ownL{i:Nat}{Q:List D->Prop}(S:Slots K H0 B H τ σ)(h:L2.ownL τ i Q):∃ds ad xs,τ[i]?=some (some (.own (.lst ds)))/\Q ds/\σ[i]?=some (some (.ref ad))/\H ad=some (.lst xs)/\Reps K B ds xs:=by
 obtain⟨ds,e,q⟩:=qw2 h
 obtain⟨a,q1,_,_,xs,q2,q3⟩:=S.own i _ e
 exact⟨ds,a,xs,e,q,q1,q2,q3⟩
def qft(i:Nat)(te:TV):TVS:=λDv τ=>ownL τ i λds=>te τ λr=>exS τ Dv r (pubR r λd=>ds.length<sizeLine/\Dv.nx (τ.set i (some (.own (.lst (ds++[d]))))))
theorem qhe(i:Nat)(h:VE X EX e te)(hN:X.N[i]?=some x:=by rfl)(hv:Vis X.env.scope x:=by first|exact Or.inl rfl|exact Or.inr (Or.inl rfl)|exact Or.inr (Or.inr rfl))(hd:(x==("__debug__" : Str))=false:=by decide)
  (hcd:(x==("__classdict__" : Str))=false:=by decide) (hp:qa2 e=true:=by rfl)
  (hbase:attributeBase (.Name x p) "append" X.env (eval (.Name x p) X.env)=eval (.Name x p) X.env:=by rfl) (hline:(apos.endLine==cpos.line)=true:=by rfl)
  (hs:swapsWith (.Call (.Attribute (.Name x p) "append" apos) [e] [] cpos) none pos.line X.env=pure false:=by rfl) :
  VS X EX (.Expr (.Call (.Attribute (.Name x p) "append" apos) [e] [] cpos) pos) (qft i te) :=
 let ⟨_,a1,a2⟩:=h.u;⟨_,ql4 (qbm PySem.F.plainAttrs_list PySem.F.slot_list_append PySem.F.type_list_append qgv (qv i hN hv hd hcd) (qac a1 qd9 hp) (by simp[hp]) rfl hbase hline) hs,λB0 H0 B H τ σ Dv Dh p S h E=>by
  obtain⟨ds,ad,xs,e1,h,e2,e3,_⟩:=S.ownL h
  refine⟨.ref ad,e2,.inl ⟨rfl,xs,SqL.of e3⟩,a2 H0 B H τ σ _ _ p.s S h (E.raised p S) λr v B' H' q hr hq=>?_⟩
  obtain⟨d,B2,q2,_,rp,hz,hn⟩:=pub q hr (hr.okS hq)
  have S2:=S.step q2
  obtain⟨a',q1,_,_,xs2,q4,q3⟩:=S2.own i _ e1
  rw[e2] at q1
  cases q1
  refine⟨ad,xs2,v,rfl,rfl,q4,by rw[←q3.length];exact hz,?_⟩
  obtain⟨p3,S3⟩:=S2.lst (p.trans q2) e1 e2 (q3.append (.one rp))
  exact E.nx B2 _ _ σ p3 S3 hn⟩
def qbg(N:List Str)(ds:List D):VSt:=ds.map (λd=>some (R.val d))++List.replicate (N.length-ds.length) none
theorem qhz:∀ {ds:List D} {vs:List V},Reps K B ds vs->Slots K H0 B H (ds.map λd=>some (R.val d)) (vs.map some)
|[],_,h=>by
  unfold Reps at h
  subst h
  exact⟨rfl,λi d e=>by simp at e,λi d e=>by simp at e,λi d e=>by simp at e,λi j d e a h=>by simp at h⟩
|d::ds,_,h=>by
  unfold Reps at h
  obtain⟨v,vs,rfl,h1,h2⟩:=h
  have S:=qhz h2
  refine⟨by have:=S.len;simp at this ⊢;exact this,λi f e=>?_,λi f e=>?_,λi f e=>?_,λi j f g ad e=>?_⟩
  ·cases i with
  |zero=>simp at e;subst e;exact⟨v,rfl,h1⟩
  |succ i=>simpa using S.val i f (by simpa using e)
  ·cases i with
  |zero=>simp at e
  |succ i=>simpa using S.fz i f (by simpa using e)
  ·cases i with
  |zero=>simp at e
  |succ i=>simpa using S.own i f (by simpa using e)
  ·cases i with
  |zero=>simp at e
  |succ i =>
    simp at e
theorem Fun.okV{P:Program}{w:World}{mg:Str->Option Value}{base:Heap}{x qual:Str}{st:Stmt}{f:Addr}{fd:FuncData}{N ps:List Str}{k:Nat}{g:DP}(F:Fun K x qual st f fd)(S:FnScope N ps (qai st))(len:∀ds Q,g ds Q->ds.length=ps.length)
  (hbody:∀(cdv:Value) (A:Around) (outer:List Env) (s:Shared) (H:Hp) (E:XK),Room k (A.deeper (envOfC qual (qai st) s.heap.objs.size f cdv)) ->
   ∃t,VSs (cxOf CX0 P w K mg base N qual (qai st) f cdv A outer s H E).nox EX0 (qbx st) t/\∀ds Q,g ds Q->t { nx:=λ_=>Q (.val .non),rt:=Q } (qbg N ds)):FnOk P w K mg base CX0 (k+1) f fd ps (spOf K g):=by
 refine F.okQ S (λvs H Q E h=>?_) (λcdv A outer s H vs Q E hr h=>?_)
 ·obtain⟨ds,B,Qd,_,rp,hg,_,_⟩:=h
  rw[←rp.length]
  exact len ds Qd hg
 ·obtain⟨ds,B,Qd,sm,rp,hg,_,kk⟩:=h
  obtain⟨t,⟨ts,q1,q2⟩,ht⟩:=hbody cdv A outer s H E hr
  refine⟨ts,q1,q2 B H B H (qbg N ds) (start N vs) _ _ (.refl sm) ?_ (ht ds Qd hg) ⟨λB' H' τ σ p S h=>kk (.val .non) .non B' H' h p (repV rfl),λr v B' H' p hr h=>kk r v B' H' h p hr,λ_ _ _ _ _ _ h=>h.elim,λ_ _ _ _ _ _ h=>h.elim,λ_ _ _ _ _ _ _ _ _ h=>h.elim,λ_ _ _ _ _ _ _ _ _ _ h=>h.elim,λ_ _ _ _ _ _ _ h=>h.elim⟩⟩
  unfold qbg start
  rw[rp.length]
  exact(qhz rp).more _
end
end L2
namespace L2
open PySem PySem.Spec PyProof.Rows
section
variable {X:Cx} {EX:St->XK} {K:PySem.W.Frag} {e a b c o:Expr} {te ta tb tc to:TV} {pos p apos cpos:Pos} {x:Str}
def vNeg(ta:TV):TV:=λτ Q=>ta τ λr=>match r.d with
|.int i=>Q (.val (.int (-i)))
|_=>False
theorem qr4(ha:VE X EX a ta):VE X EX (.UnaryOp .USub a pos) (vNeg ta) :=
 let ⟨_,a1,a2⟩:=ha.u;⟨_,q2l q1i a1,λH0 B H τ σ Q Qd s S h xc k=>a2 H0 B H τ σ _ _ s S h (xno λ_ q=>q) λr v B' H' p q h1=>by
  split at h1
  ·rename_i i e
   exact⟨i,q.pk.scal (by rw[e];rfl),k (.val (.int (-i))) _ B' H' p (repV rfl) h1⟩
  ·exact h1.elim⟩
def vIsN(g:Bool->Bool)(rx ry:R)(Q:R->Prop):Prop:=match ry.d with
|.non=>Q (.val (.bl (g (match rx.d with|.non=>true|_=>false))))
|_=>False
theorem qtf:MtM X "str.join" (λx vs H Q=>∃(sep:Str) (l:Addr) (ys:List Str),x=.str sep/\vs=[.ref l]/\SqT X.K H l (ys.map V.str)/\(ys.map (·.length)).sum+ys.length*sep.length<=16777216/\Q (.str (glue sep ys)) H):=by
 intro pins s σ H x vs v us Q I rx rv h
 obtain⟨sep,l,ys,rfl,rfl,hq,hz,q⟩:=h
 obtain⟨t,rfl⟩:=rx
 obtain⟨u,rfl,ru⟩:=rv.one
 cases ru
 obtain⟨its,r,pl,_⟩:=I.tuple hq
 obtain⟨ts,rfl,rfl⟩:=qmb r
 have fit:Builtin.Str.tooLong ((ts.map (·.1)).toArray.foldl (·+·.length+sep.length) 0)=false:=by
  rw[StrLaws.joinTotal]
  unfold Builtin.Str.tooLong
  rw[sizeLine_eq]
  exact decide_eq_false (by lia)
 exact call_meets F.slot_str_join (typeIs_str _ _ _) F.entry_str_join (F.args_str_join_2 _ _) (meets_str_join_tuple sep t l ts fit) ⟨(let ⟨o,h1,h2,n,h3⟩:=pl;⟨o,n,h1,h2,h3⟩),post_join ts ⟨joinFit_length fit,λt' k=>⟨.str (glue sep (ts.map (·.1))),H,I.tok k,⟨t',rfl⟩,q⟩⟩⟩
def qui(to te:TV):TV:=λτ Q=>to τ λrs=>match rs.d with
|.str sep=>te τ λrl=>∃ys:List Str,(rl.d=.lst (ys.map D.str)\/rl.d=.tup (ys.map D.str))/\(ys.map (·.length)).sum+ys.length*sep.length<=16777216/\Q (.val (.str (glue sep ys)))
|_=>False
theorem qyn(ho:VE X EX o to)(h:VE X EX e te)(hp:qa2 e=true:=by rfl)
  (hbase:attributeBase o "join" X.env (eval o X.env)=eval o X.env:=by rfl) (hline:(apos.endLine==cpos.line)=true:=by rfl):VE X EX (.Call (.Attribute o "join" apos) [e] [] cpos) (qui to te) :=
 let ⟨_,o1,o2⟩:=ho.u;let ⟨_,a1,a2⟩:=h.u;⟨_,qbm PySem.F.plainAttrs_str PySem.F.slot_str_join PySem.F.type_str_join (MtR.or qwv qtf) o1 (qac a1 qd9 hp) (by simp[hp]) rfl hbase hline,λH0 B H τ σ Q Qd s S h xc k =>
  o2 H0 B H τ σ _ _ s S h (xno λ_ q=>q) λrs vs B1 H1 p1 q1 h1=>by
   split at h1
   ·rename_i sep es
    cases q1.pk.scal (z:=.str sep) (by rw[es];rfl)
    refine⟨rfl,a2 H0 B1 H1 τ σ _ _ p1.s (S.step p1) h1 (xno λ_ ⟨_,q,_⟩=>by rcases q with q|q<;>cases q) λrl vl B2 H2 p2 q2 h2=>?_⟩
    obtain⟨ys,el,hz,hq⟩:=h2
    rcases el with el|el
    ·obtain⟨ad,xs,rfl,hx,rx⟩:=q2.pk.lst p2.s el
     exact .inl ⟨sep,ad,ys,rfl,rfl,SqL.of (by rw[hx,rx.strs]),hz,k _ _ B2 H2 (p1.trans p2) (repV rfl) hq⟩
    ·obtain⟨ad,xs,rfl,hx,rx⟩:=q2.pk.tup el
     cases rx.strs
     exact .inr ⟨sep,ad,ys,rfl,rfl,p2.s.sqT hx.sq,hz,k _ _ B2 H2 (p1.trans p2) (repV rfl) hq⟩
   ·exact h1.elim⟩
def strsOf:List D->Option (List Str)
|[]=>some []
|.str s::ds=>(strsOf ds).map (s::·)
|_::_=>none
theorem qh2(ss:List Str):strsOf (ss.map D.str)=some ss:=by
 induction ss with
|nil=>rfl
|cons s ss ih=>rw[List.map_cons,strsOf,ih];rfl
theorem qef:∀ {ds:List D} {ss:List Str},strsOf ds=some ss->ds=ss.map D.str
|[],ss,h=>by cases h;rfl
|d::ds,ss,h=>by
  cases d<;>first|(unfold strsOf at h;cases h;done)|skip
  rename_i s
  unfold strsOf at h
  cases q:strsOf ds with
 |none=>rw[q] at h;cases h
 |some r =>
   rw[q] at h
   cases h
   rw[qef q]
   rfl
def vIn(g:Bool->Bool)(rx ry:R)(Q:R->Prop):Prop:=match rx.d,ry.d with
|.str x,.str y=>Q (.val (.bl (g (!(Builtin.Str.occurrences y x 0 y.length 1).isEmpty))))
|.str x,.tup ds=>∃ss,strsOf ds=some ss/\Q (.val (.bl (g (decide (x∈ss)))))
|.str x,.lst ds=>∃ss,strsOf ds=some ss/\Q (.val (.bl (g (decide (x∈ss)))))
|.str x,.kt ss=>Q (.val (.bl (g (decide (x∈ss)))))
|_,_=>False
theorem qdm(x:Str):∀(ss:List Str),inV (.str x) (ss.map V.str)=decide (x∈ss)
|[]=>rfl
|y::ss=>by
  have:=qdm x ss
  unfold inV at this ⊢
  rw[List.map_cons,List.any_cons,this]
  apply qcd
  rw[Bool.or_eq_true,decide_eq_true_iff,decide_eq_true_iff,List.mem_cons]
  rw[show eqV (V.str y) (V.str x)=(y==x) from rfl,beq_iff_eq]
  exact⟨λh=>h.imp Eq.symm id,λh=>h.imp Eq.symm id⟩
theorem qdd(ss:List Str):(ss.map V.str).all qf2=true:=by rw[List.all_map];simp[qf2]
theorem Pk.kt{B H:Hp}{r:R}{v:V}{ss:List Str}(h:Pk K B H r v)(e:r.d=.kt ss):∃a,v=.ref a/\SqT K (λ_=>none) a (ss.map V.str):=by
 cases r with
|val d =>
  cases (show d=_ from e)
  have h':Rep K B (.kt ss) v:=h
  unfold Rep at h'
  exact h'
|own d=>cases (show d=_ from e);obtain⟨_,_,_,q⟩:=h;exact q.elim
|peek d=>cases (show d=_ from e);obtain⟨_,_,_,q⟩:=h;exact q.elim
|exc n=>exact h.elim
theorem qyo:VO X (compareOp .In) (vIn id):=by
 refine⟨_,op_in_str.or qq7,λB H x y rx ry Q Qd s px py h k=>?_⟩
 unfold vIn at h
 split at h
 ·rename_i u w e1 e2
  exact .inl ⟨u,w,px.scal (by rw[e1];rfl),py.scal (by rw[e2];rfl),k _ _ B H (.refl s) (repV rfl) h⟩
 ·rename_i u ds e1 e2
  obtain⟨ss,hs,q⟩:=h
  cases qef hs
  cases px.scal (z:=.str u) (by rw[e1];rfl)
  obtain⟨a,xs,rfl,h1,r1⟩:=py.tup e2
  cases r1.strs
  have q':Qd (.val (.bl (decide (u∈ss)))):=q
  rw[←qdm] at q'
  exact .inr ⟨a,_,rfl,.inr (s.sqT h1.sq),rfl,qdd ss,k _ _ B H (.refl s) (repV rfl) q'⟩
 ·rename_i u ds e1 e2
  obtain⟨ss,hs,q⟩:=h
  cases qef hs
  cases px.scal (z:=.str u) (by rw[e1];rfl)
  obtain⟨a,xs,rfl,h1,r1⟩:=py.lst s e2
  cases r1.strs
  have q':Qd (.val (.bl (decide (u∈ss)))):=q
  rw[←qdm] at q'
  exact .inr ⟨a,_,rfl,.inl (SqL.of h1),rfl,qdd ss,k _ _ B H (.refl s) (repV rfl) q'⟩
 ·rename_i u ss e1 e2
  cases px.scal (z:=.str u) (by rw[e1];rfl)
  obtain⟨a,rfl,h1⟩:=py.kt e2
  have q':Qd (.val (.bl (decide (u∈ss)))):=h
  rw[←qdm] at q'
  exact .inr ⟨a,_,rfl,.inr ((Same.emp H).sqT h1),rfl,qdd ss,k _ _ B H (.refl s) (repV rfl) q'⟩
 ·exact h.elim
theorem qja:VO X (compareOp .NotIn) (vIn (!·)):=by
 refine⟨_,op_notin_str.or qkf,λB H x y rx ry Q Qd s px py h k=>?_⟩
 unfold vIn at h
 split at h
 ·rename_i u w e1 e2
  exact .inl ⟨u,w,px.scal (by rw[e1];rfl),py.scal (by rw[e2];rfl),k _ _ B H (.refl s) (repV rfl) h⟩
 ·rename_i u ds e1 e2
  obtain⟨ss,hs,q⟩:=h
  cases qef hs
  cases px.scal (z:=.str u) (by rw[e1];rfl)
  obtain⟨a,xs,rfl,h1,r1⟩:=py.tup e2
  cases r1.strs
  have q':Qd (.val (.bl (!decide (u∈ss)))):=q
  rw[←qdm] at q'
  exact .inr ⟨a,_,rfl,.inr (s.sqT h1.sq),rfl,qdd ss,k _ _ B H (.refl s) (repV rfl) q'⟩
 ·rename_i u ds e1 e2
  obtain⟨ss,hs,q⟩:=h
  cases qef hs
  cases px.scal (z:=.str u) (by rw[e1];rfl)
  obtain⟨a,xs,rfl,h1,r1⟩:=py.lst s e2
  cases r1.strs
  have q':Qd (.val (.bl (!decide (u∈ss)))):=q
  rw[←qdm] at q'
  exact .inr ⟨a,_,rfl,.inl (SqL.of h1),rfl,qdd ss,k _ _ B H (.refl s) (repV rfl) q'⟩
 ·rename_i u ss e1 e2
  cases px.scal (z:=.str u) (by rw[e1];rfl)
  obtain⟨a,rfl,h1⟩:=py.kt e2
  have q':Qd (.val (.bl (!decide (u∈ss)))):=h
  rw[←qdm] at q'
  exact .inr ⟨a,_,rfl,.inr ((Same.emp H).sqT h1),rfl,qdd ss,k _ _ B H (.refl s) (repV rfl) q'⟩
 ·exact h.elim
end
end L2
namespace L2
open PySem PySem.Spec PyProof.Rows
theorem v_cut{t u:TVS}{Dv:VEnds}{τ:VSt}(Pv:VSt->Prop)(rest:∀τ,Pv τ->u Dv τ)(now:∀nx:VSt->Prop,(∀τ,Pv τ->nx τ)->t { nx:=nx,rt:=Dv.rt,bk:=Dv.bk,ct:=Dv.ct,xc:=Dv.xc,ro:=Dv.ro,rn:=Dv.rn } τ):vSeq t u Dv τ:=now (u Dv) rest
section
variable {g:TVG} {tb:TVS} {Dv:VEnds} {τ:VSt}
theorem qwd{ds:List D}(Pv:Nat->VSt->Prop)(h0:Pv 0 τ)(hn:∀(i:Nat) (d:D) (τ:VSt),ds[i]?=some d->Pv i τ->∀nx:VSt->Prop,(∀τ',Pv (i+1) τ'->nx τ')->g d τ λτ'=>tb { nx:=nx,rt:=Dv.rt,bk:=Dv.nx,ct:=nx,xc:=Dv.xc,ro:=Dv.ro,rn:=Dv.rn } τ')
  (he:∀τ,Pv ds.length τ->Dv.nx τ):forW g tb Dv ds τ:=by
 have key:∀(n i:Nat) (τ:VSt),ds.length-i=n->i<=ds.length->Pv i τ->forW g tb Dv (ds.drop i) τ:=λn=>by
  induction n with
 |zero =>
   intro i τ h1 h2 h3
   have e:i=ds.length:=by lia
   subst e
   rw[List.drop_length]
   exact he τ h3
 |succ n ih =>
   intro i τ h1 h2 h3
   have l:i<ds.length:=by lia
   rw[List.drop_eq_getElem_cons l]
   exact hn i ds[i] τ (List.getElem?_eq_getElem l) h3 _ λτ' h=>ih (i+1) τ' (by lia) (by lia) h
 have:=key ds.length 0 τ (by lia) (Nat.zero_le _) h0
 rw[List.drop_zero] at this
 exact this
theorem qd1{α:Type}{f:α->D}{xs:List α}(Pv:Nat->VSt->Prop)(h0:Pv 0 τ)(hn:∀(i:Nat) (x:α) (τ:VSt),xs[i]?=some x->Pv i τ->∀nx:VSt->Prop,(∀τ',Pv (i+1) τ'->nx τ')->g (f x) τ λτ'=>tb { nx:=nx,rt:=Dv.rt,bk:=Dv.nx,ct:=nx,xc:=Dv.xc,ro:=Dv.ro,rn:=Dv.rn } τ')
  (he:∀τ,Pv xs.length τ->Dv.nx τ):forW g tb Dv (xs.map f) τ:=by
 refine qwd Pv h0 (λi d τ e=>?_) (by rw[List.length_map];exact he)
 rw[List.getElem?_map] at e
 cases q:xs[i]? with
|none=>rw[q] at e;cases e
|some x =>
  rw[q] at e
  cases e
  exact hn i x τ q
theorem qfn{lo:Int}{n:Nat}(Pv:Nat->VSt->Prop)(h0:Pv 0 τ)(hn:∀(i:Nat) (τ:VSt),i<n->Pv i τ->∀nx:VSt->Prop,(∀τ',Pv (i+1) τ'->nx τ')->g (.int (lo+i)) τ λτ'=>tb { nx:=nx,rt:=Dv.rt,bk:=Dv.nx,ct:=nx,xc:=Dv.xc,ro:=Dv.ro,rn:=Dv.rn } τ')
  (he:∀τ,Pv n τ->Dv.nx τ):forW g tb Dv (rngL lo n) τ:=by
 unfold rngL
 refine qd1 Pv h0 (λi x τ e=>?_) (by rw[List.length_range];exact he)
 by_cases l:i<n
 ·rw[List.getElem?_range l] at e
  cases e
  exact hn i τ l
 ·rw[List.getElem?_eq_none (by rw[List.length_range];lia)] at e
  cases e
end
theorem qob{α:Type}(xs:List α):xs.filter (λ_=>true)=xs:=List.filter_eq_self.mpr λ_ _=>rfl
section
variable {α:Type} {f:α->D} {τ:VSt} {k:Nat} {g:TVG} {ti:TVT} {te:TV} {Q:R->Prop}
theorem qmq(P:α->D->Prop)(p:α->Bool)(xs:List α)(hz:xs.length<=sizeLine)
  (ok:∀x∈xs,∀(Y:R->Prop) (N:Prop),(p x=true->∀d,P x d->Y (.val d))->(p x=false->N)->g (f x) (τ++List.replicate k none) λτ2=>(τ2.take τ.length=τ/\τ2.length=τ.length+k)/\ti τ2 λb=>if b=true then te τ2 Y else N)
  (fin:∀es:List D,es.length=(xs.filter p).length->(∀(j:Nat) (x:α) (e:D),(xs.filter p)[j]?=some x->es[j]?=some e->P x e)->Q (.own (.lst es))):qjs τ k g ti te Q (xs.map f) []:=by
 have key:∀(ys zs:List α) (acc:List D),xs=zs++ys->acc.length=(zs.filter p).length->(∀(j:Nat) (x:α) (e:D),(zs.filter p)[j]?=some x->acc[j]?=some e->P x e)->qjs τ k g ti te Q (ys.map f) acc:=by
  intro ys
  induction ys with
 |nil =>
   intro zs acc e h1 h2
   rw[List.append_nil] at e
   subst e
   exact fin acc h1 h2
 |cons y ys ih =>
   intro zs acc e h1 h2
   have hl:acc.length<sizeLine:=by
    have h3:=List.length_filter_le p zs
    have h4:xs.length=zs.length+(ys.length+1):=by rw[e,List.length_append,List.length_cons]
    lia
   refine ok y (by rw[e];simp) _ _ (λhp d hd=>⟨hl,ih (zs++[y]) (acc++[d]) (by rw[e];simp) ?_ λj x e' q1 q2=>?_⟩) (λhp=>ih (zs++[y]) acc (by rw[e];simp) ?_ λj x e' q1 q2=>?_)
   ·rw[List.filter_append,List.length_append,List.length_append,h1]
    simp[hp]
   ·rw[List.filter_append] at q1
    have ef:[y].filter p=[y]:=by simp[hp]
    rw[ef] at q1
    by_cases l:j<(zs.filter p).length
    ·rw[List.getElem?_append_left l] at q1
     rw[List.getElem?_append_left (by lia)] at q2
     exact h2 j x e' q1 q2
    ·rw[List.getElem?_append_right (by lia)] at q1
     rw[List.getElem?_append_right (by lia)] at q2
     have ej:j-(zs.filter p).length=0:=by
      have:=(List.getElem?_eq_some_iff.mp q1).1
      simp at this
      lia
     rw[ej] at q1
     rw[h1,ej] at q2
     cases q1
     cases q2
     exact hd
   ·rw[List.filter_append,List.length_append,h1]
    simp[hp]
   ·rw[List.filter_append] at q1
    have ef:[y].filter p=[]:=by simp[hp]
    rw[ef,List.append_nil] at q1
    exact h2 j x e' q1 q2
 exact key xs [] [] rfl rfl (λj x e q=>by simp at q)
theorem qlb(h:α->D)(p:α->Bool)(xs:List α)(hz:xs.length<=sizeLine)
  (ok:∀x∈xs,∀(Y:R->Prop) (N:Prop),(p x=true->Y (.val (h x)))->(p x=false->N)->g (f x) (τ++List.replicate k none) λτ2=>(τ2.take τ.length=τ/\τ2.length=τ.length+k)/\ti τ2 λb=>if b=true then te τ2 Y else N)
  (fin:Q (.own (.lst ((xs.filter p).map h)))):qjs τ k g ti te Q (xs.map f) []:=by
 refine qmq (λx d=>d=h x) p xs hz (λx hx Y N h1 h2=>ok x hx Y N (λz=>h1 z _ rfl) h2) λes hl he=>?_
 have:es=(xs.filter p).map h:=List.ext_getElem (by rw[hl,List.length_map]) λj h1 h2=>by
  rw[List.length_map] at h2
  rw[List.getElem_map]
  exact he j _ _ (List.getElem?_eq_getElem h2) (List.getElem?_eq_getElem h1)
 rw[this]
 exact fin
theorem qia(h:α->D)(xs:List α)(hz:xs.length<=sizeLine)
  (ok:∀x∈xs,∀(Y:R->Prop) (N:Prop),Y (.val (h x))->g (f x) (τ++List.replicate k none) λτ2=>(τ2.take τ.length=τ/\τ2.length=τ.length+k)/\ti τ2 λb=>if b=true then te τ2 Y else N)
  (fin:Q (.own (.lst (xs.map h)))):qjs τ k g ti te Q (xs.map f) []:=by
 refine qlb h (λ_=>true) xs hz (λx hx Y N h1 _=>ok x hx Y N (h1 rfl)) ?_
 rw[qob]
 exact fin
end
def wayD(ws:List Str):D:=.tup (ws.map D.str)
theorem qmp:∀(ss ts:List Str),qci (ss.map D.str) (ts.map D.str)=true
|[],_=>by unfold qci;rfl
|_::_,[]=>by unfold qci;rfl
|s::ss,t::ts=>by
  show qci (.str s::ss.map D.str) (.str t::ts.map D.str)=true
  unfold qci
  rw[qmp ss ts]
  rfl
theorem qic:∀(ss:List Str),qb4 (ss.map D.str)=0
|[]=>rfl
|s::ss=>by
  show qb4 (.str s::ss.map D.str)=0
  unfold qb4
  rw[qic ss]
  rfl
theorem qlw{ss ts:List Str}(h:ss.map D.str=ts.map D.str):ss=ts:=by
 induction ss generalizing ts with
|nil=>cases ts with
 |nil=>rfl
 |cons t ts=>cases h
|cons s ss ih=>cases ts with
 |nil=>cases h
 |cons t ts =>
   injection h with h1 h2
   injection h1 with h1
   rw[h1,ih h2]
theorem eq_int(i j:Int):eqD (.int i) (.int j)=decide (i=j):=qcd (by
 rw[eqD_iff,decide_eq_true_iff]
 exact⟨λh=>D.int.inj h,λh=>h▸rfl⟩)
theorem eq_str(i j:Str):eqD (.str i) (.str j)=decide (i=j):=qcd (by
 rw[eqD_iff,decide_eq_true_iff]
 exact⟨λh=>D.str.inj h,λh=>h▸rfl⟩)
theorem qv5(i j:Int):cmpD (.int i) (.int j)=true:=rfl
theorem qpq(i j:Str):cmpD (.str i) (.str j)=true:=rfl
theorem qv8(i:Int):depD (.int i)=0:=rfl
theorem qwa(i:Str):depD (.str i)=0:=rfl
theorem qcv{α β:Type}(f:α->β)(xs:List α)(k:Int):atI (xs.map f) k=(atI xs k).map f:=by
 unfold atI
 rw[List.length_map]
 cases ixN xs.length k with
|none=>rfl
|some j=>simp
theorem qmt{α β:Type}(f:α->β)(xs:List α)(lo hi:Option Int):cutL (xs.map f) lo hi=(cutL xs lo hi).map f:=by
 unfold cutL
 rw[List.length_map,List.map_take,List.map_drop]
theorem qub{K:PySem.W.Frag}{H:Hp}{a:Addr}{ns:List Int}{g:DP}(h:g [.scr ns] (λr=>r=.val (.bl true)))(hS:SqL K H a (ns.map V.int)){E:XK}:spOf K g [.ref a] H (λv _=>v=.bl true) E :=
 ⟨[.scr ns],H,_,Same.refl H,.one (by unfold Rep;exact⟨a,rfl,hS⟩),h,(λn C B' H' e _ _=>by cases e),λr v B' H' e p rr=>by
  subst e
  have rr':Rep K B' (.bl true) v:=rr
  unfold Rep at rr'
  exact rr'⟩
theorem qgt(ss ts:List Str):(ss.map D.str=ts.map D.str)=(ss=ts):=propext ⟨qlw,λh=>h▸rfl⟩
theorem qlv(ss ts:List Int):(ss.map D.int=ts.map D.int)=(ss=ts):=propext ⟨λh=>by
 induction ss generalizing ts with
|nil=>cases ts with
 |nil=>rfl
 |cons t ts=>cases h
|cons s ss ih=>cases ts with
 |nil=>cases h
 |cons t ts =>
   injection h with h1 h2
   injection h1 with h1
   rw[h1,ih _ h2],λh=>h▸rfl⟩
theorem qnc{α:Type}(f:α->D)(xs:List α)(x:α):xs.map f++[f x]=(xs++[x]).map f:=by rw[List.map_append];rfl
theorem qt8(xs:List Str)(x:Str):xs.map D.str++[.str x]=(xs++[x]).map D.str:=qnc _ xs x
theorem qt7(xs:List Int)(x:Int):xs.map D.int++[.int x]=(xs++[x]).map D.int:=qnc _ xs x
theorem qv4(xs ys:List Str):xs.map D.str++ys.map D.str=(xs++ys).map D.str:=(List.map_append ..).symm
theorem qsx(xs:List Str):(xs.map D.str).dropLast=xs.dropLast.map D.str:=by
 rw[←qge,←qge,qmt]
theorem qre(d:D)(Q:D->Prop):pubR (.val d) Q=Q d:=rfl
theorem qrd(d:D)(Q:D->Prop):pubR (.own d) Q=Q d:=rfl
theorem qug(k:Nat)(xs:List Str):(xs.map D.str).take k=(xs.take k).map D.str:=(List.map_take ..).symm
theorem qp1(k:Nat)(xs:List Str):(xs.map D.str).drop k=(xs.drop k).map D.str:=(List.map_drop ..).symm
theorem qv2{α:Type}(xs:List α)(n:Nat):atI xs (no_index (OfNat.ofNat n:Int))=xs[n]?:=by
 show atI xs (n:Int)=xs[n]?
 unfold atI ixN
 rw[if_pos (by lia)]
 by_cases h:(n:Int)<xs.length
 ·rw[if_pos h]
  simp
 ·rw[if_neg h]
  simp
  lia
theorem qsp{α:Type}(xs:List α):atI xs (-1)=xs.getLast?:=by
 unfold atI ixN
 rw[if_neg (by decide)]
 cases xs with
|nil=>rfl
|cons x xs =>
  rw[if_pos (by rw[List.length_cons];lia)]
  rw[List.getLast?_eq_getElem?]
  show (x::xs)[(-1+((x::xs).length:Int)).toNat]?=_
  congr 1
  lia
theorem qu0(d:D)(Q:R->Prop)(k:Prop):exR (.val d) Q k=k:=rfl
theorem quz(d:D)(Q:R->Prop)(k:Prop):exR (.own d) Q k=k:=rfl
theorem qqd(d:D)(Q:R->Prop)(k:Prop):exR (.peek d) Q k=k:=rfl
theorem quy(n:Str)(Q:R->Prop)(k:Prop):exR (.exc n) Q k=Q (.exc n):=rfl
theorem qp8(d:D)(Q:AR->Prop)(k:Prop):excA (.val d) Q k=k:=rfl
theorem qp7(d:D)(Q:AR->Prop)(k:Prop):excA (.own d) Q k=k:=rfl
theorem qmw(d:D)(Q:AR->Prop)(k:Prop):excA (.peek d) Q k=k:=rfl
theorem qp6(n:Str)(Q:AR->Prop)(k:Prop):excA (.exc n) Q k=Q (.exc n):=rfl
theorem qqc(τ:VSt)(Dv:VEnds)(d:D)(k:Prop):exS τ Dv (.val d) k=k:=rfl
theorem qqb(τ:VSt)(Dv:VEnds)(d:D)(k:Prop):exS τ Dv (.own d) k=k:=rfl
theorem qmx(τ:VSt)(Dv:VEnds)(d:D)(k:Prop):exS τ Dv (.peek d) k=k:=rfl
theorem qqa(τ:VSt)(Dv:VEnds)(n:Str)(k:Prop):exS τ Dv (.exc n) k=Dv.xc τ n:=rfl
theorem quw(ds:List D)(Q:R->Prop)(k:List D->Prop):exA (.ok ds) Q k=k ds:=rfl
theorem qjy(n:Str)(Q:R->Prop)(k:List D->Prop):exA (.exc n) Q k=Q (.exc n):=rfl
theorem qux(τ:VSt)(Dv:VEnds)(ds:List D)(k:List D->Prop):exI τ Dv (.ok ds) k=k ds:=rfl
theorem qp9(τ:VSt)(Dv:VEnds)(n:Str)(k:List D->Prop):exI τ Dv (.exc n) k=Dv.xc τ n:=rfl
theorem qq2(d:D)(ds:List D):qwu d (.ok ds)=.ok (d::ds):=rfl
theorem qne(d:D)(n:Str):qwu d (.exc n)=.exc n:=rfl
theorem qvk(d:D):(R.val d).d=d:=rfl
theorem qvj(d:D):(R.own d).d=d:=rfl
theorem qrj(d:D):(R.peek d).d=d:=rfl
theorem qvi(n:Str):(R.exc n).d=.scr []:=rfl
theorem qhl{t u:TVS}{Dv:VEnds}{τ:VSt}(h:t { nx:=u Dv,rt:=Dv.rt,bk:=Dv.bk,ct:=Dv.ct,xc:=Dv.xc,ro:=Dv.ro,rn:=Dv.rn } τ):vSeq t u Dv τ:=h
end L2
namespace L2
open PySem PySem.Spec PyProof.Rows
def lkD:List (List Str)->List D->List Str->Option D
|k::ks,d::ds,w=>if k=w then some d else lkD ks ds w
|_,_,_=>none
def lkK:List Str->List D->Str->Option D
|k::ks,d::ds,w=>if k=w then some d else lkK ks ds w
|_,_,_=>none
def rpD:List (List Str)->List D->List Str->D->List D
|k::ks,e::ds,w,d=>(if k=w then d else e)::rpD ks ds w d
|_,_,_,_=>[]
def putD(ks:List (List Str))(ds:List D)(w:List Str)(d:D):D:=if w∈ks then .dT ks (rpD ks ds w d) else .dT (ks++[w]) (ds++[d])
theorem qsa{a b:List Str}(h:wK a=wK b):a=b:=by
 unfold wK at h
 induction a generalizing b with
|nil=>cases b with
 |nil=>rfl
 |cons _ _=>cases h
|cons x a ih=>cases b with
 |nil=>cases h
 |cons y b =>
   injection h with h1 h2
   injection h1 with h1
   rw[h1,ih h2]
theorem qsb(w:List Str):(wK w).map kV=w.map V.str:=by
 unfold wK
 rw[List.map_map]
 rfl
section
variable {K:PySem.W.Frag} {B H:Hp} {d:D} {r:R} {v:V}
theorem DGet.tR{H:Hp}{a b:Addr}{kvs:List (List Key×V)}{k:List Key}(e:Rd H a (.dT kvs))(eb:H b=some (.tup (k.map kV))):DGet H a (.ref b) (valV kvs k):=.inr ⟨kvs,k,b,e,rfl,eb,rfl⟩
theorem Pk.dT{ks:List (List Str)}{ds:List D}(s:Same B H)(h:Pk K B H r v)(e:r.d=.dT ks ds):∃a kvs,v=.ref a/\Rd H a (.dT kvs)/\kvs.map (·.1)=ks.map wK/\Reps K B ds (kvs.map (·.2)):=by
 cases r with
|val d =>
  cases (show d=_ from e)
  have h':Rep K B (.dT ks ds) v:=h
  unfold Rep at h'
  obtain⟨a,xs,rfl,q,k,rp⟩:=h'
  exact⟨a,xs,rfl,q.elim (λq=>.inl (s _ _ q)) λ⟨o,q⟩=>.inr ⟨o,s _ _ q⟩,k,rp⟩
|own d=>cases (show d=_ from e);obtain⟨a,rfl,_,xs,q,k,rp⟩:=h;exact⟨a,xs,rfl,.inl q,k,rp⟩
|peek d=>cases (show d=_ from e);obtain⟨a,rfl,_,xs,q,k,rp⟩:=h;exact⟨a,xs,rfl,.inl q,k,rp⟩
|exc n=>exact h.elim
theorem Pk.dK{ks:List Str}{ds:List D}(s:Same B H)(h:Pk K B H r v)(e:r.d=.dK ks ds):∃a kvs,v=.ref a/\H a=some (.dK kvs)/\kvs.map (·.1)=ks.map Sum.inr/\Reps K B ds (kvs.map (·.2)):=by
 cases r with
|val d =>
  cases (show d=_ from e)
  have h':Rep K B (.dK ks ds) v:=h
  unfold Rep at h'
  obtain⟨a,xs,rfl,q,k,rp⟩:=h'
  exact⟨a,xs,rfl,s _ _ q,k,rp⟩
|own d=>cases (show d=_ from e);obtain⟨a,rfl,_,xs,q,k,rp⟩:=h;exact⟨a,xs,rfl,q,k,rp⟩
|peek d=>cases (show d=_ from e);obtain⟨a,rfl,_,xs,q,k,rp⟩:=h;exact⟨a,xs,rfl,q,k,rp⟩
|exc n=>exact h.elim
theorem qv6{w:List Str}(t:w.map D.str=[.str "folder",.str ""]):w=(["folder",""]:List Str):=by
 cases w with
|nil=>cases t
|cons x w =>
  cases w with
 |nil=>cases t
 |cons y w =>
   cases w with
  |nil =>
    simp only[List.map_cons,List.map_nil,List.cons.injEq,D.str.injEq,and_true] at t
    rw[t.1,t.2]
  |cons z w=>cases t
theorem Pk.wayN{w:List Str}(h:Pk K B H r v)(e:r.d=.tup (w.map D.str))(n:w≠(["folder",""]:List Str)):∃a,v=.ref a/\B a=some (.tup (w.map V.str)):=by
 obtain⟨a,xs,rfl,t,rp⟩:=h.tup e
 refine⟨a,rfl,?_⟩
 rw[←rp.strs]
 rcases t with t|⟨_,t⟩
 ·exact t
 ·exact absurd (qv6 t) n
theorem Pk.way{w:List Str}(h:Pk K B H r v)(e:r.d=.tup (w.map D.str))(n:("" : Str)∉w):∃a,v=.ref a/\B a=some (.tup (w.map V.str)):=h.wayN e λq=>n (by rw[q];simp)
theorem qm8:∀ {ks:List (List Str)} {ds:List D} {kvs:List (List Key×V)} (w:List Str),kvs.map (·.1)=ks.map wK->Reps K B ds (kvs.map (·.2))->(lkD ks ds w=none/\valV kvs (wK w)=none)\/∃d v,lkD ks ds w=some d/\valV kvs (wK w)=some v/\Rep K B d v
|[],ds,kvs,w,h1,h2=>by
  have e:kvs=[]:=by simpa using h1
  subst e
  exact .inl ⟨by unfold lkD;rfl,rfl⟩
|k::ks,ds,[],w,h1,h2=>by cases h1
|k::ks,[],p::kvs,w,h1,h2=>by
  unfold Reps at h2
  cases h2
|k::ks,d::ds,p::kvs,w,h1,h2=>by
  injection h1 with e1 e2
  have e1:p.1=wK k:=e1
  unfold Reps at h2
  obtain⟨x,r,q,r1,r2⟩:=h2
  injection q with q1 q2
  subst q1 q2
  unfold lkD
  by_cases e:k=w
  ·rw[if_pos e,qep (by rw[e1,e])]
   exact .inr ⟨d,p.2,rfl,rfl,r1⟩
  ·rw[if_neg e,qds (λz=>e (qsa (e1.symm.trans z)))]
   exact qm8 w e2 r2
theorem qgr:∀ {ks:List Str} {ds:List D} {kvs:List (Key×V)} (w:Str),kvs.map (·.1)=ks.map Sum.inr->Reps K B ds (kvs.map (·.2))->(lkK ks ds w=none/\valV kvs (Sum.inr w)=none)\/∃d v,lkK ks ds w=some d/\valV kvs (Sum.inr w)=some v/\Rep K B d v
|[],ds,kvs,w,h1,h2=>by
  have e:kvs=[]:=by simpa using h1
  subst e
  exact .inl ⟨by unfold lkK;rfl,rfl⟩
|k::ks,ds,[],w,h1,h2=>by cases h1
|k::ks,[],p::kvs,w,h1,h2=>by
  unfold Reps at h2
  cases h2
|k::ks,d::ds,p::kvs,w,h1,h2=>by
  injection h1 with e1 e2
  have e1:p.1=Sum.inr k:=e1
  unfold Reps at h2
  obtain⟨x,r,q,r1,r2⟩:=h2
  injection q with q1 q2
  subst q1 q2
  unfold lkK
  by_cases e:k=w
  ·rw[if_pos e,qep (by rw[e1,e])]
   exact .inr ⟨d,p.2,rfl,rfl,r1⟩
  ·rw[if_neg e,qds (λz=>e (Sum.inr.inj (e1.symm.trans z)))]
   exact qgr w e2 r2
theorem qxp{ks:List (List Str)}{ds:List D}{kvs:List (List Key×V)}(w:List Str){d:D}{v:V}(h1:kvs.map (·.1)=ks.map wK)(h2:Reps K B ds (kvs.map (·.2)))(hd:Rep K B d v) :
  ∃ks' ds',putD ks ds w d=.dT ks' ds'/\(putK kvs (wK w) v).map (·.1)=ks'.map wK/\Reps K B ds' ((putK kvs (wK w) v).map (·.2)):=by
 have hany:(kvs.any λkv=>decide (kv.1=wK w))=decide (w∈ks):=by
  apply qcd
  rw[List.any_eq_true,decide_eq_true_iff]
  constructor
  ·rintro⟨p,hp,e⟩
   have:p.1∈kvs.map (·.1):=List.mem_map_of_mem hp
   rw[h1,of_decide_eq_true e] at this
   obtain⟨k,hk,ek⟩:=List.mem_map.mp this
   rw[←qsa ek]
   exact hk
  ·intro hw
   have:wK w∈kvs.map (·.1):=by rw[h1];exact List.mem_map_of_mem hw
   obtain⟨p,hp,e⟩:=List.mem_map.mp this
   exact⟨p,hp,decide_eq_true e⟩
 unfold putD putK
 rw[hany]
 by_cases hw:w∈ks
 ·rw[if_pos hw,if_pos (decide_eq_true hw)]
  refine⟨ks,_,rfl,?_,?_⟩
  ·rw[←h1,List.map_map]
   refine List.map_congr_left λp _=>?_
   show (if p.1=wK w then (p.1,v) else p).1=p.1
   split<;>rfl
  ·clear hany hw
   induction kvs generalizing ks ds with
  |nil =>
    have e:ks=[]:=by simpa using h1.symm
    subst e
    unfold rpD
    exact .nil
  |cons p kvs ih =>
    cases ks with
   |nil=>cases h1
   |cons k ks =>
     cases ds with
    |nil=>unfold Reps at h2;cases h2
    |cons e ds =>
      injection h1 with e1 e2
      have e1:p.1=wK k:=e1
      unfold Reps at h2
      obtain⟨x,r,q,r1,r2⟩:=h2
      injection q with q1 q2
      subst q1 q2
      unfold rpD
      refine .cons ?_ (ih e2 r2)
      by_cases ek:k=w
      ·rw[if_pos ek]
       show Rep K B d (if p.1=wK w then (p.1,v) else p).2
       rw[if_pos (by rw[e1,ek])]
       exact hd
      ·rw[if_neg ek]
       show Rep K B e (if p.1=wK w then (p.1,v) else p).2
       rw[if_neg (λz=>ek (qsa (e1.symm.trans z)))]
       exact r1
 ·rw[if_neg hw,if_neg (by simpa using hw)]
  refine⟨_,_,rfl,?_,?_⟩
  ·rw[List.map_append,List.map_append,h1]
   rfl
  ·rw[List.map_append]
   exact h2.append (.one hd)
end
section
variable {X:Cx} {EX:St->XK} {e a o i:Expr} {te ta to ti:TV} {pos pos' p p2 apos cpos:Pos} {x:Str} {f:Expr} {tf:TV}
def qkt(to ti:TV):TV:=λτ Q=>to τ λrx=>exR rx (λ_=>False) <| ti τ λry=>match rx.d,ry.d with
|.dT ks ds,.tup es=>∃w d,es=w.map D.str/\("" : Str)∉w/\lkD ks ds w=some d/\Q (.val d)
|.dK ks ds,.str z=>∃d,lkK ks ds z=some d/\Q (.val d)
|_,_=>False
theorem qhc(hu:X.A.units+64<cLine)(ho:VE X EX o to)(hi:VE X EX i ti)(hs:NoSl i:=by exact λ_ _=>rfl):VE X EX (.Subscript o i pos) (qkt to ti) :=
 let ⟨_,a1,a2⟩:=ho.u;let ⟨_,b1,b2⟩:=hi.u;⟨_,qxu (by lia) a1 b1 hs,λH0 B H τ σ Q Qd s S h xc k=>a2 H0 B H τ σ _ _ s S h (xno λ_ q=>q) λrx x B1 H1 p1 q1 h1=>b2 H0 B1 H1 τ σ _ _ p1.s (S.step p1) (q1.ok h1) (xno λ_ q=>by revert q;cases rx.d<;>exact λz=>z) λry y B2 H2 p2 q2 h2=>by
  have px:=q1.pk.step p2
  split at h2
  ·rename_i ks ds es e1 e2
   obtain⟨w,d,rfl,hn,hl,hq⟩:=h2
   obtain⟨ad,kvs,rfl,hd,hk,hr⟩:=px.dT p2.s e1
   obtain⟨b,rfl,hb⟩:=q2.pk.way e2 hn
   rcases qm8 w hk hr with ⟨z,_⟩|⟨d',v,z,hv,rp⟩
   ·rw[z] at hl;cases hl
   ·rw[z] at hl;cases hl
    exact⟨ad,v,rfl,hv▸DGet.tR hd (by rw[qsb];exact p2.s _ _ hb),k (.val d) _ B2 H2 (p1.trans p2) rp hq⟩
  ·rename_i ks ds z e1 e2
   obtain⟨d,hl,hq⟩:=h2
   obtain⟨ad,kvs,rfl,hd,hk,hr⟩:=px.dK p2.s e1
   cases q2.pk.scal (z:=.str z) (by rw[e2];rfl)
   rcases qgr z hk hr with ⟨w,_⟩|⟨d',v,w,hv,rp⟩
   ·rw[w] at hl;cases hl
   ·rw[w] at hl;cases hl
    exact⟨ad,v,rfl,hv▸DGet.k (k:=Sum.inr z) hd,k (.val d) _ B2 H2 (p1.trans p2) rp hq⟩
  ·exact h2.elim⟩
def vDIn(g:Bool->Bool)(ti to:TV):TV:=λτ Q=>ti τ λry=>exR ry (λ_=>False) <| to τ λrx=>match rx.d,ry.d with
|.dT ks ds,.tup es=>∃w,es=w.map D.str/\("" : Str)∉w/\Q (.val (.bl (g (lkD ks ds w).isSome)))
|.dK ks ds,.str z=>Q (.val (.bl (g (lkK ks ds z).isSome)))
|_,_=>False
theorem qqw{K:PySem.W.Frag}{B:Hp}{ks:List (List Str)}{ds:List D}{kvs:List (List Key×V)}(w:List Str)(h1:kvs.map (·.1)=ks.map wK)(h2:Reps K B ds (kvs.map (·.2))):(valV kvs (wK w)).isSome=(lkD ks ds w).isSome:=by
 rcases qm8 w h1 h2 with ⟨z,y⟩|⟨d',v,z,y,_⟩<;>rw[z,y]<;>rfl
theorem qoh{K:PySem.W.Frag}{B:Hp}{ks:List Str}{ds:List D}{kvs:List (Key×V)}(w:Str)(h1:kvs.map (·.1)=ks.map Sum.inr)(h2:Reps K B ds (kvs.map (·.2))):(valV kvs (Sum.inr w)).isSome=(lkK ks ds w).isSome:=by
 rcases qgr w h1 h2 with ⟨z,y⟩|⟨d',v,z,y,_⟩<;>rw[z,y]<;>rfl
theorem qrk{K:PySem.W.Frag}{eo ei:TE}(g:Bool->Bool)(ho:RfE K EX eo to)(hi:RfE K EX ei ti):RfE K EX (λσ H Q=>ei σ H λy H1=>eo σ H1 λx H2=>∃a o,x=.ref a/\DGet H2 a y o/\Q (.bl (g o.isSome)) H2) (vDIn g ti to):=λH0 B H τ σ Q Qd s S h xc k =>
 hi H0 B H τ σ _ _ s S h (xno λ_ q=>q) λry y B1 H1 p1 q1 h1=>ho H0 B1 H1 τ σ _ _ p1.s (S.step p1) (q1.ok h1) (xno λ_ q=>q) λrx x B2 H2 p2 q2 h2=>by
  have py:=q1.pk.step p2
  split at h2
  ·rename_i ks ds es e1 e2
   obtain⟨w,rfl,hn,hq⟩:=h2
   obtain⟨ad,kvs,rfl,hd,hk,hr⟩:=q2.pk.dT p2.s e1
   obtain⟨b,rfl,hb⟩:=py.way e2 hn
   refine⟨ad,_,rfl,DGet.tR (k:=wK w) hd (by rw[qsb];exact p2.s _ _ hb),?_⟩
   rw[qqw w hk hr]
   exact k _ _ B2 H2 (p1.trans p2) (repV rfl) hq
  ·rename_i ks ds z e1 e2
   obtain⟨ad,kvs,rfl,hd,hk,hr⟩:=q2.pk.dK p2.s e1
   cases py.scal (z:=.str z) (by rw[e2];rfl)
   refine⟨ad,_,rfl,DGet.k (k:=Sum.inr z) hd,?_⟩
   rw[qoh z hk hr]
   exact k _ _ B2 H2 (p1.trans p2) (repV rfl) h2
  ·exact h2.elim
theorem qr3(hu:X.A.units+64<cLine)(hi:VE X EX i ti)(ho:VE X EX o to)(hm:behindInMarks .NotIn o=false:=by with_unfolding_all rfl):VE X EX (.Compare i [.NotIn] [o] pos) (vDIn (!·) ti to) :=
 let ⟨_,a1,a2⟩:=ho.u;let ⟨_,b1,b2⟩:=hi.u;⟨_,qrf (by lia) b1 a1 hm,qrk (!·) a2 b2⟩
theorem qvx(hu:X.A.units+64<cLine)(hi:VE X EX i ti)(ho:VE X EX o to)(hm:behindInMarks .In o=false:=by with_unfolding_all rfl):VT X EX (.Compare i [.In] [o] pos) (vBl (vDIn id ti to)) :=
 let ⟨_,a1,a2⟩:=ho.u;let ⟨_,b1,b2⟩:=hi.u;⟨_,q0q (by lia) b1 a1 hm,qt2 (qrk id a2 b2)⟩
theorem qky(hu:X.A.units+64<cLine)(hi:VE X EX i ti)(ho:VE X EX o to)(hm:behindInMarks .NotIn o=false:=by with_unfolding_all rfl):VT X EX (.Compare i [.NotIn] [o] pos) (vBl (vDIn (!·) ti to)) :=
 let ⟨_,a1,a2⟩:=ho.u;let ⟨_,b1,b2⟩:=hi.u;⟨_,qri (by lia) b1 a1 hm,qt2 (qrk (!·) a2 b2)⟩
def qku(to ti:TV):TV:=λτ Q=>to τ λrx=>match rx.d with
|.dT ks ds=>ti τ λry=>∃w,ry.d=.tup (w.map D.str)/\("" : Str)∉w/\Q (.val ((lkD ks ds w).getD .non))
|.dK ks ds=>ti τ λry=>∃z,ry.d=.str z/\Q (.val ((lkK ks ds z).getD .non))
|_=>False
theorem qny(hu:X.A.units+64<cLine)(ho:VE X EX o to)(hi:VE X EX e ti)(m:M1 X o "get" apos e cpos:=by exact⟨rfl,rfl,rfl,rfl⟩):VE X EX (.Call (.Attribute o "get" apos) [e] [] cpos) (qku to ti) :=
 let ⟨_,a1,a2⟩:=ho.u;let ⟨_,b1,b2⟩:=hi.u;⟨_,qtu (by lia) a1 b1 m,λH0 B H τ σ Q Qd s S h xc k=>a2 H0 B H τ σ _ _ s S h (xno λ_ q=>q) λrx x B1 H1 p1 q1 h1=>by
  split at h1
  ·rename_i ks ds e1
   obtain⟨ad,kvs,rfl,hd,_,_⟩:=q1.pk.dT p1.s e1
   refine⟨ad,rfl,.inr ⟨kvs,hd⟩,b2 H0 B1 H1 τ σ _ _ p1.s (S.step p1) h1 (xno λ_ ⟨_,q,_⟩=>by cases q) λry y B2 H2 p2 q2 h2=>?_⟩
   obtain⟨w,e2,hn,hq⟩:=h2
   obtain⟨ad',kvs',ea,hd',hk,hr⟩:=(q1.pk.step p2).dT p2.s e1
   cases ea
   obtain⟨b,rfl,hb⟩:=q2.pk.way e2 hn
   refine⟨_,DGet.tR (k:=wK w) hd' (by rw[qsb];exact p2.s _ _ hb),?_⟩
   rcases qm8 w hk hr with ⟨z,y⟩|⟨d',v,z,y,rp⟩
   ·rw[y];rw[z] at hq
    exact k (.val .non) _ B2 H2 (p1.trans p2) (repV rfl) hq
   ·rw[y];rw[z] at hq
    exact k (.val d') _ B2 H2 (p1.trans p2) rp hq
  ·rename_i ks ds e1
   obtain⟨ad,kvs,rfl,hd,_,_⟩:=q1.pk.dK p1.s e1
   refine⟨ad,rfl,.inl ⟨kvs,.inl hd⟩,b2 H0 B1 H1 τ σ _ _ p1.s (S.step p1) h1 (xno λ_ ⟨_,q,_⟩=>by cases q) λry y B2 H2 p2 q2 h2=>?_⟩
   obtain⟨w,e2,hq⟩:=h2
   obtain⟨ad',kvs',ea,hd',hk,hr⟩:=(q1.pk.step p2).dK p2.s e1
   cases ea
   cases q2.pk.scal (z:=.str w) (by rw[e2];rfl)
   refine⟨_,DGet.k (k:=Sum.inr w) hd',?_⟩
   rcases qgr w hk hr with ⟨z,y⟩|⟨d',v,z,y,rp⟩
   ·rw[y];rw[z] at hq
    exact k (.val .non) _ B2 H2 (p1.trans p2) (repV rfl) hq
   ·rw[y];rw[z] at hq
    exact k (.val d') _ B2 H2 (p1.trans p2) rp hq
  ·exact h1.elim⟩
def qf0:TV:=λ_ Q=>Q (.own (.dT [] []))
theorem qfi:VE X EX (.Dict [] [] pos) qf0:=⟨_,qtx,λ_ B H _ _ _ _ s _ h _ k p hp=>k (.own (.dT [] [])) _ B _ (.grow s (qau hp _)) ⟨p,rfl,hp,s.free hp,[],qa8,rfl,.nil⟩ h⟩
def ownT(τ:VSt)(i:Nat)(Q:List (List Str)->List D->Prop):Prop:=match τ[i]? with
|some (some (.own (.dT ks ds)))=>Q ks ds
|_=>False
theorem qw3{τ:VSt}{i:Nat}{Q:List (List Str)->List D->Prop}(h:ownT τ i Q):∃ks ds,τ[i]?=some (some (.own (.dT ks ds)))/\Q ks ds:=by
 unfold ownT at h
 split at h
 ·exact⟨_,_,by assumption,h⟩
 ·exact h.elim
def qg9(i:Nat)(tk te:TV):TVS:=λDv τ=>ownT τ i λks ds=>te τ λr=>exS τ Dv r <| pubR r λd=>tk τ λrk=>match rk.d with
|.tup es=>∃w,es=w.map D.str/\("" : Str)∉w/\ks.length<sizeLine/\Dv.nx (τ.set i (some (.own (putD ks ds w d))))
|_=>False
theorem qeh{ek:Expr}{tk:TV}(i:Nat)(hu:X.A.units+64<cLine)(hk:VE X EX ek tk)(h:VE X EX e te)(hN:X.N[i]?=some x:=by rfl)(hv:Vis X.env.scope x:=by first|exact Or.inl rfl|exact Or.inr (Or.inl rfl)|exact Or.inr (Or.inr rfl))(hd:(x==("__debug__" : Str))=false:=by decide)
  (hcd:(x==("__classdict__" : Str))=false:=by decide) (hs:swapsWith e (some (.Subscript (.Name x p) ek p2)) pos.line X.env=pure false:=by rfl):VS X EX (.Assign [.Subscript (.Name x p) ek p2] e pos) (qg9 i tk te) :=
 let ⟨_,a1,a2⟩:=h.u;let ⟨_,b1,b2⟩:=hk.u;⟨_,qx0 (by lia) (qv i hN hv hd hcd) b1 a1 hs,λB0 H0 B H τ σ Dv Dh p S h E=>by
  obtain⟨ks,ds,e1,h⟩:=qw3 h
  obtain⟨ad,e2,_,_,_⟩:=S.own i _ e1
  refine a2 H0 B H τ σ _ _ p.s S h (E.raised p S) λr v B' H' q hr hq=>?_
  obtain⟨d,B2,q2,_,rp,hn⟩:=pub q hr (hr.okS hq)
  refine⟨.ref ad,e2,b2 H0 B2 H' τ σ _ _ q2.s (S.step q2) hn (xno λ_ q=>q) λrk vk B3 H3 q3 hk hh=>?_⟩
  split at hh
  ·rename_i es ek
   obtain⟨w,rfl,hne,hz,hn⟩:=hh
   obtain⟨b,rfl,hb⟩:=hk.pk.way ek hne
   have qq:=q2.trans q3
   have S3:=S.step qq
   obtain⟨a',f1,h0,hbb,kvs,f4,f5,f6⟩:=S3.own i _ e1
   rw[e2] at f1
   cases f1
   have hl:kvs.length<sizeLine:=by
    have:kvs.length=ks.length:=by simpa using congrArg List.length f5
    lia
   refine⟨ad,_,rfl,DPut.t (k:=wK w) f4 (by rw[qsb];exact q3.s _ _ hb) hl,?_⟩
   obtain⟨ks',ds',ep,g1,g2⟩:=qxp w f5 f6 (rp.same q3.b)
   rw[ep] at hn
   exact E.nx B3 _ _ σ ((p.trans qq).upd h0 hbb) (S3.upd (d:=.dT ks' ds') e1 e2 ⟨_,qa8,g1,g2⟩) hn
  ·exact hh.elim⟩
end
def qap(kds:List (List Str×D)):D:=.dT (kds.map (·.1)) (kds.map (·.2))
def lkP(kds:List (List Str×D))(w:List Str):Option D:=(kds.find? λp=>decide (p.1=w)).map (·.2)
def insP(kds:List (List Str×D))(w:List Str)(d:D):List (List Str×D):=if w∈kds.map (·.1) then kds.map (λp=>if p.1=w then (p.1,d) else p) else kds++[(w,d)]
theorem qbr(kds:List (List Str×D))(w:List Str):lkD (kds.map (·.1)) (kds.map (·.2)) w=lkP kds w:=by
 induction kds with
|nil=>unfold lkP;simp[lkD]
|cons p kds ih =>
  rw[List.map_cons,List.map_cons]
  unfold lkD
  unfold lkP at ih ⊢
  by_cases e:p.1=w
  ·rw[if_pos e,List.find?_cons,decide_eq_true e]
   rfl
  ·rw[if_neg e,ih,List.find?_cons,decide_eq_false e]
theorem qb9(kds:List (List Str×D))(w:List Str)(d:D):putD (kds.map (·.1)) (kds.map (·.2)) w d=qap (insP kds w d):=by
 unfold putD insP qap
 by_cases h:w∈kds.map (·.1)
 ·rw[if_pos h,if_pos h]
  congr 1
  ·rw[List.map_map]
   refine(List.map_congr_left λp _=>?_).symm
   show (if p.1=w then (p.1,d) else p).1=p.1
   split<;>rfl
  ·clear h
   induction kds with
  |nil=>rfl
  |cons p kds ih =>
    rw[List.map_cons,List.map_cons,List.map_cons,List.map_cons]
    unfold rpD
    rw[ih]
    congr 1
    split<;>rfl
 ·rw[if_neg h,if_neg h,List.map_append,List.map_append]
  rfl
end L2
namespace PySem
open PySem Calls PyProof.Rows PyProof.V PySem.Spec
def RawD(h:Heap)(d:Addr)(es:Array DictEntry)(ep:Nat):Prop:=∃o,h.get? d=some o/\o.ExactDict/\o.data=.dict es ep
section
variable {prog:Program} {w:World} {A:Around} {E:Value->Shared->Prop} {s:Shared} {d it:Addr} {es:Array DictEntry} {ep i:Nat}
theorem RawD.typeIs(x:RawD s.heap d es ep):s.TypeIs (.ref d) "dict" := let ⟨o,h1,h2,_⟩:=x;⟨o,h1,h2.1⟩
theorem RawD.keep{h h':Heap}(x:RawD h d es ep)(k:∀o,h.get? d=some o->h'.get? d=some o):RawD h' d es ep:=let ⟨o,h1,r⟩:=x;⟨o,k o h1,r⟩
theorem qt1{Q:Value->Shared->Prop}(no:(d==sysModules)=false)(x:RawD s.heap d es ep)
  (fin:Q (.ref s.heap.objs.size) { s with heap:=s.heap.push { cls:=.type "dict_keyiterator",data:=.fields #[.ref d,.int 0 0,.int es.size 0,.int ep 0] } }):wpAny (model prog w) A (pyIter (.ref d)) Q E s:=by
 have T:=x.typeIs
 obtain⟨o,h1,_,h2⟩:=x
 refine wpAny_pyIter_slot T F.slot_dict_iter (wpAny_call_entry F.slot_dict_iter T F.entry_dict_iter ?_ (F.args_dict_iter_1 _))
 unfold Builtin.«dict.__iter__» Builtin.Dict.dictSlotNone
 refine wpAny_bind (wpAny_bind (wpAny_notOrdered_dict T (show wpAny _ _ (pure (Value.ref d)) _ _ s from wpAny_pure ?_)))
 show wpAny _ _ (Builtin.Dict.showsAll d >>= λ_=>_) _ _ s
 unfold Builtin.Dict.showsAll
 rw[no,if_neg Bool.false_ne_true]
 refine wpAny_bind (wpAny_pure (wpAny_bind (wpAny_dictEntries h1 h2 (wpAny_bind (wpAny_dictEpoch h1 h2 (wpAny_bind (wpAny_newObj_type (wpAny_pure ⟨_,rfl,"dict_keyiterator",_,⟨_,Heap.get?_push_size _ rfl,rfl⟩,F.slot_dict_keyiterator_next.lookup,?_⟩))))))))
 simpa [rawInt] using fin
theorem qek{Q:String->Shared->Prop}(h:s.TypeIs (.ref it) "dict_keyiterator")(q:Q "dict_keyiterator" s):wpAny (model prog w) A (typeNameOfWhole (.ref it)) Q E s:=wpAny_typeNameOfWhole_keyiter h q
theorem qt0{Q:Option Value->Shared->Prop}{ky:Value}(K:s.heap.IsKeyIter it d i es.size ep)(x:RawD s.heap d es ep)(hk:es[i]?.map (·.key)=some ky)
  (fin:∀h',h'.IsKeyIter it d (i+1) es.size ep->Heap.SameBut it s.heap h'->Q (some ky) { s with heap:=h' }):wpAny (model prog w) A (pyNext (.ref it)) Q E s:=by
 have T:=K.typeIs
 obtain⟨oi,g1,g2,g3⟩:=K
 obtain⟨o,h1,_,h2⟩:=x
 have lt:i<es.size:=by
  apply Classical.byContradiction
  intro z
  rw[Array.getElem?_eq_none (by lia)] at hk
  cases hk
 have ek:es[i].key=ky:=by
  rw[Array.getElem?_eq_getElem lt] at hk
  exact Option.some.inj hk
 have no:Builtin.Dict_items.ownsTuple "dict_keyiterator" = false:=by decide
 unfold pyNext
 refine wpAny_bind (wpAny_attempt (wpAny_callSpecial?_slot (name:=Str.ofString "__next__") T F.slot_dict_keyiterator_next (wpAny_call_entry F.slot_dict_keyiterator_next T F.entry_dict_keyiterator_next (wpAny_bind (wpAny_pure (wpAny_bind (wpAny_bind ?_)))) (F.args_dict_keyiterator_next_1 _))))
 refine wpAny_bind (qek T (wpAny_pure (wpAny_bind (wpAny_fieldsOf g1 g3 ?_))))
 simp only[no,Bool.false_eq_true,if_false]
 show wpAny _ _ (ite ((Value.ref d==Value.none)=true) _ _) _ _ s
 rw[if_neg (show ¬ (Value.ref d==Value.none)=true from λz=>by cases z)]
 refine wpAny_bind (wpAny_pure (wpAny_bind (wpAny_dictEntries h1 h2 ?_)))
 rw[if_neg (λz=>by simp at z)]
 refine wpAny_bind (wpAny_pure (wpAny_bind (wpAny_dictEpoch h1 h2 ?_)))
 rw[if_neg (λz=>by simp at z)]
 refine wpAny_pure ?_
 simp only[show ¬ (i:Int)<0 from by lia,if_false,Int.toNat_natCast,Array.getElem?_eq_getElem lt]
 refine wpAny_bind (wpAny_bind (qek T (wpAny_pure (wpAny_bind (wpAny_isOneOf_keyiter T ?_)))))
 show wpAny _ _ (setField (.ref it) 1 (rawInt ((i:Int)+1)) >>= λ_=>_) _ _ s
 have K2:(s.heap.update it (Obj.mapFields (·.setIfInBounds 1 (rawInt ((i:Int)+1))))).IsKeyIter it d (i+1) es.size ep:=⟨_,Heap.get?_update_self _ g1 (Obj.isFreed_of_fields (Obj.data_mapFields g3 _)),(Obj.cls_mapFields ..).trans g2,by
  rw[Obj.data_mapFields g3]
  simp[rawInt]⟩
 refine wpAny_bind (wpAny_setField g1 g3 (by simp) (wpAny_bind (wpAny_holding (wpAny_bind (wpAny_isOneOf_keyiter (s:={ s with heap:=s.heap.update it (Obj.mapFields (·.setIfInBounds 1 (rawInt ((i:Int)+1)))) }) K2.typeIs ?_)))))
 show wpAny _ _ (pure (es[i].key)) _ _ _
 rw[ek]
 exact wpAny_pure (wpAny_pure ⟨_,rfl,wpAny_pure (fin _ K2 (Heap.SameBut.update ..))⟩)
theorem qx7{Q:Option Value->Shared->Prop}(hh:A.handled=none)(K:s.heap.IsKeyIter it d i es.size ep)(x:RawD s.heap d es ep)(ge:es.size<=i)(fin:∀h',Heap.ExtBut it s.heap h'->Q none { s with heap:=h' }) :
  wpAny (model prog w) A (pyNext (.ref it)) Q E s:=by
 have T:=K.typeIs
 obtain⟨oi,g1,g2,g3⟩:=K
 obtain⟨o,h1,_,h2⟩:=x
 have no:Builtin.Dict_items.ownsTuple "dict_keyiterator" = false:=by decide
 unfold pyNext
 refine wpAny_bind (wpAny_attempt (wpAny_callSpecial?_slot (name:=Str.ofString "__next__") T F.slot_dict_keyiterator_next (wpAny_call_entry F.slot_dict_keyiterator_next T F.entry_dict_keyiterator_next (wpAny_bind (wpAny_pure (wpAny_bind (wpAny_bind ?_)))) (F.args_dict_keyiterator_next_1 _))))
 refine wpAny_bind (qek T (wpAny_pure (wpAny_bind (wpAny_fieldsOf g1 g3 ?_))))
 simp only[no,Bool.false_eq_true,if_false]
 show wpAny _ _ (ite ((Value.ref d==Value.none)=true) _ _) _ _ s
 rw[if_neg (show ¬ (Value.ref d==Value.none)=true from λz=>by cases z)]
 refine wpAny_bind (wpAny_pure (wpAny_bind (wpAny_dictEntries h1 h2 ?_)))
 rw[if_neg (λz=>by simp at z)]
 refine wpAny_bind (wpAny_pure (wpAny_bind (wpAny_dictEpoch h1 h2 ?_)))
 rw[if_neg (λz=>by simp at z)]
 refine wpAny_pure ?_
 simp only[show ¬ (i:Int)<0 from by lia,if_false,Int.toNat_natCast,Array.getElem?_eq_none ge]
 refine wpAny_bind (wpAny_bind (qek T (wpAny_pure ?_)))
 show wpAny _ _ (setField (.ref it) 0 .none >>= λ_=>_) _ _ s
 refine wpAny_bind (wpAny_setField g1 g3 (by simp) ?_)
 show wpAny _ _ (newExc (.type "StopIteration") [] >>= λ_=>_) _ _ _
 refine wpAny_bind ?_
 simp only[newExc,newTuple]
 refine wpAny_bind (wpAny_newObj_type (wpAny_bind (m:=firstArgMember _ _) (wpAny_of_eq (a:=Value.none) (by first|rfl|(simp only[firstArgMember];rfl)) (wpAny_newObj_type ?_ (by size_fits)))) (by size_fits))
 simp only[raiseNew]
 refine(wpAny_bind (wpAny_handled ?_))
 rw[(show A.in1.handled=none from hh)]
 refine(wpAny_bind (wpAny_pure (wpAny_throw ?_)))
 exact wpAny_bind (wpAny_isInstance (T:="StopIteration") (b:=true) ⟨_,Heap.get?_push_size _ rfl,rfl⟩ isSubtype_stop (wpAny_pure (fin _ (((Heap.SameBut.update ..).extBut.push _).push _))))
theorem qsj(hh:A.handled=none)(I d:Addr)(ne:d≠I)(es:Array DictEntry)(ep:Nat) :
  Walks prog w A I [I,d] [I] es.size (λi v=>es[i]?.map (·.key)=some v) (λi h=>h.IsKeyIter I d i es.size ep/\RawD h d es ep) where
 sub:=λb hb=>by
  cases List.mem_singleton.mp hb
  exact List.mem_cons_self ..
 frame:=λ_ _ _ st k=>⟨st.1.at λo e=>k I (List.mem_cons_self ..) o e,st.2.keep λo e=>k d (by simp) o e⟩
 item:=λi s Q E lt st fin=>by
  have e:es[i]?.map (·.key)=some es[i].key:=by rw[Array.getElem?_eq_getElem lt];rfl
  exact qt0 st.1 st.2 e λh' K' sb=>fin _ h' s.toks e ⟨K',st.2.keep λo z=>sb.extBut d o ne z⟩ λb o nb z=>sb.extBut b o (λy=>nb (by simp[y])) z
 done:=λs Q E st fin=>qx7 hh st.1 st.2 (Nat.le_refl _) λh' x=>fin h' s.toks λb o nb z=>x b o (λy=>nb (by simp[y])) z
 self:=λ_ _ _ _ st q=>wpAny_pyIter_keyiter st.1 q
theorem qyh(no:(d==sysModules)=false):PySem.W.KdlSrc prog w "dict" d d es.size (λi v=>es[i]?.map (·.key)=some v) (λh=>RawD h d es ep) where
 type:=λ_ x=>x.typeIs
 there:=λ_ x=>let ⟨_,e,_⟩:=x;⟨Heap.lt_size e,Heap.lt_size e⟩
 keep:=λ_ _ x k=>x.keep λo e=>k d (.inl rfl) o e
 notList:=by decide
 notTuple:=by decide
 hint:=λ_ _ _ _ x q=>PySem.W.kdl_hint_dict x.typeIs q
 iter:=λ_ _ hh x=>⟨_,_,(λ_ _ q=>qt1 no x q),qsj hh _ d (let ⟨_,e,_⟩:=x;Nat.ne_of_lt (Heap.lt_size e)) es ep,⟨⟨_,Heap.get?_push_size _ rfl,rfl,rfl⟩,x.keep λ_ e=>Heap.get?_push_of_some _ e⟩⟩
end
end PySem
namespace L2
open PySem PySem.Spec PyProof.Rows
section
variable {X:Cx}
theorem qkg{α β:Type}{F:α->β->Prop}:∀ {l:List α} {m:List β} {i:Nat} {b:β},Paired F l m->m[i]?=some b->∃a,l[i]?=some a/\F a b
|_,_,_,_,.nil,e=>by simp at e
|_,_,0,_,.cons h _,e=>by
  have e':=Option.some.inj e
  subst e'
  exact⟨_,rfl,h⟩
|_,_,i+1,b,.cons _ t,e=>by
  obtain⟨a,h1,h2⟩:=qkg (i:=i) (b:=b) t (by simpa using e)
  exact⟨a,by simpa using h1,h2⟩
theorem qy7{P:Program}{w:World}{H:Hp}{h:Heap}{a:Addr}{kvs:List (List Key×V)}(ok:HOk P w H h)(e:Rd H a (.dT kvs)):kvs.length<=sizeLine/\(a==sysModules)=false/\∃es ep,RawD h a es ep/\es.size=kvs.length /\
  ∀(i:Nat) (u:Value),es[i]?.map (·.key)=some u->∃(b:Addr) (k:List Key),u=.ref b/\kvs[i]?.map (·.1)=some k/\H b=some (.tup (k.map kV)):=by
 obtain⟨z,y,xs,r,o,es,ep,h1,h2,h3,h4,_⟩:=qie ok e
 have hl:es.size=xs.length:=by rw[←Array.length_toList,h4,List.length_map]
 refine⟨z,y,es,ep,⟨o,h1,h2,h3⟩,by rw[hl,←Paired.length r],λi u q=>?_⟩
 have ei:es[i]?=(xs[i]?).map (entryOfKey (tupleKind (qa7 P w))):=by rw[←Array.getElem?_toList,h4,List.getElem?_map]
 rw[ei] at q
 cases hx:xs[i]? with
|none=>rw[hx] at q;cases q
|some p =>
  rw[hx] at q
  have eu:Value.ref p.2.1=u:=Option.some.inj q
  obtain⟨kv,hkv,e1,e2,_⟩:=qkg r hx
  exact⟨p.2.1,kv.1,eu.symm,by rw[hkv];rfl,by rw[e1] at e2 ⊢;exact e2⟩
theorem qjp(hh:X.A.handled=none):CallR X (.type "list") (λxs H Q=>∃a kvs,xs=[.ref a]/\Rd H a (.dT kvs)/\∀(l:Addr) (bs:List Addr),H l=none->bs.length=kvs.length ->
  (∀(i:Nat) (b:Addr),bs[i]?=some b->∃k,kvs[i]?.map (·.1)=some k/\H b=some (.tup (k.map kV)))->Q (.ref l) (upd H l (.lst (bs.map V.ref)))):=by
 intro pins s σ H xs us Q I r h
 obtain⟨a,kvs,rfl,e,q⟩:=h
 obtain⟨u,rfl,ru⟩:=vals1 r
 cases ru
 obtain⟨z,no,es,ep,raw,hs,hk⟩:=qy7 I.hok e
 refine PySem.W.kdl_call (qyh (ep:=ep) (es:=es) no) hh raw (by rw[hs];exact z) λh' tk acc c keep new its=>?_
 have refs:∀vs:List Value,(∀v∈vs,∃b,v=Value.ref b)->∃bs:List Addr,vs=bs.map Value.ref:=λvs=>by
  induction vs with
 |nil=>exact λ_=>⟨[],rfl⟩
 |cons v vs ih =>
   intro hv
   obtain⟨b,rfl⟩:=hv v (List.mem_cons_self ..)
   obtain⟨bs,rfl⟩:=ih λy hy=>hv y (List.mem_cons_of_mem _ hy)
   exact⟨b::bs,rfl⟩
 obtain⟨hsz,hP⟩:=its
 obtain⟨bs,hbs⟩:=refs acc.toList λv hv=>by
  obtain⟨j,hj⟩:=List.mem_iff_getElem?.mp hv
  obtain⟨b,k,eb,_⟩:=hk j v (hP j v (by simpa using hj))
  exact⟨b,eb⟩
 have hacc:acc=(bs.map Value.ref).toArray:=by rw[←hbs]
 have hlen:bs.length=kvs.length:=by
  have:acc.size=bs.length:=by rw[hacc];simp
  lia
 have rel:∀bs:List Addr,Vals (bs.map V.ref) (bs.map Value.ref):=λbs=>by
  induction bs with
 |nil=>exact .nil
 |cons b bs ih=>exact .cons rfl ih
 refine⟨.ref s.heap.objs.size,upd H s.heap.objs.size (.lst (bs.map V.ref)),I.laid (t':=tk) keep (Nat.le_refl _) ⟨by rw[List.length_map];lia,bs.map Value.ref,c,rel bs,by rw[←hacc];exact new⟩,rfl,q _ bs (I.hok.fresh (Nat.le_refl _)) hlen λi b hb=>?_⟩
 obtain⟨b',k,eb,h1,h2⟩:=hk i (.ref b) (hP i (.ref b) (by rw[hacc];simp[hb]))
 cases eb
 exact⟨k,h1,h2⟩
end
section
variable {X:Cx} {K:PySem.W.Frag} {B H:Hp}
theorem Stp.tups(s:Same B H)(bs:List Addr)(h:∀b∈bs,∃xs,H b=some (.tup xs)):Stp B H (λa=>if a∈bs then H a else B a) H:=by
 refine⟨λa o e=>?_,Same.refl _,λa o e=>?_,λa z=>?_⟩
 ·show (if a∈bs then H a else B a)=some o
  split
  ·exact s _ _ e
  ·exact e
 ·have e':(if a∈bs then H a else B a)=some o:=e
  split at e'
  ·exact e'
  ·exact s _ _ e'
 ·by_cases q:a∈bs
  ·exact .inr (.inr (h a q))
  ·have z':(if a∈bs then H a else B a)≠none:=z
   rw[if_neg q] at z'
   exact .inl z'
theorem qkl:∀ {ks:List (List Str)} {bs:List Addr},bs.length=ks.length->(∀(i:Nat) (b:Addr) (k:List Str),bs[i]?=some b->ks[i]?=some k->B b=some (.tup (k.map V.str)))->Reps K B (ks.map λw=>.tup (w.map D.str)) (bs.map V.ref)
|[],[],_,_=>.nil
|[],_::_,h,_=>by simp at h
|_::_,[],h,_=>by simp at h
|k::ks,b::bs,h,q=>by
  refine .cons ?_ (qkl (by simpa using h) λi b' k' h1 h2=>q (i+1) b' k' (by simpa using h1) (by simpa using h2))
  unfold Rep
  exact⟨b,_,rfl,.inl (q 0 b k rfl rfl),by
   have:∀ss:List Str,Reps K B (ss.map D.str) (ss.map V.str):=λss=>by
    induction ss with
   |nil=>exact .nil
   |cons s ss ih=>exact .cons (qgy (d:=.str s) rfl) ih
   exact this k⟩
def qhb(rx:R)(Q:R->Prop):Prop:=match rx.d with
|.dT ks _=>Q (.own (.lst (ks.map λw=>.tup (w.map D.str))))
|_=>False
theorem qi8(hh:X.A.handled=none):VF X (.type "list") qhb:=by
 refine⟨_,qjp hh,λB H x rx Q Qd s px h k=>?_⟩
 unfold qhb at h
 split at h
 ·rename_i ks ds e1
  obtain⟨ad,kvs,rfl,hd,hk,hr⟩:=px.dT s e1
  refine⟨ad,kvs,rfl,hd,λl bs hl hlen hb=>?_⟩
  have hkl:ks.length=kvs.length:=by simpa using (congrArg List.length hk).symm
  have key:∀(i:Nat) (b:Addr) (k:List Str),bs[i]?=some b->ks[i]?=some k->H b=some (.tup (k.map V.str)):=λi b k h1 h2=>by
   obtain⟨k',h3,h4⟩:=hb i b h1
   have e:(kvs.map (·.1))[i]?=(ks.map wK)[i]?:=by rw[hk]
   rw[List.getElem?_map,List.getElem?_map,h3,h2] at e
   cases e
   rw[qsb] at h4
   exact h4
  have T:=Stp.tups s bs λb hm=>by
   obtain⟨i,hi⟩:=List.mem_iff_getElem?.mp hm
   obtain⟨k',_,h4⟩:=hb i b hi
   exact⟨_,h4⟩
  have hlB:(λa=>if a∈bs then H a else B a) l=none:=by
   show (if l∈bs then H l else B l)=none
   split
   ·exact hl
   ·exact s.free hl
  refine k (.own _) _ _ _ (T.trans (.grow T.s (qau hl (.lst (bs.map V.ref))))) ⟨l,rfl,hl,hlB,qbp (qkl (by lia) λi b w h1 h2=>?_)⟩ h
  show (if b∈bs then H b else B b)=_
  rw[if_pos (List.mem_of_getElem? h1)]
  exact key i b w h1 h2
 ·exact h.elim
end
end L2
namespace L2
open PySem PySem.Spec PyProof.Rows
section
variable {X:Cx} {EX:St->XK} {K:PySem.W.Frag} {B H B' H' H0 B0:Hp} {e a:Expr} {es:List Expr} {te ta:TV} {tA:TVA} {pos p np cpos:Pos} {x:Str} {t:TVS} {τ:VSt} {σ:St}
def qvs(n:Str)(tA:TVA):TVS:=λDv τ=>tA τ λa=>exI τ Dv a λds=>ds.length<=sizeLine/\Dv.xc τ n
abbrev THD:=Str->TVS
def RfH(K:PySem.W.Frag)(EX:St->XK)(th:TH)(td:THD):Prop:=∀(B0 H0 B H:Hp) (τ:VSt) (σ:St) (n:Str) (C:Addr) (Dv:VEnds) (Dh:Ends),Stp B0 H0 B H->Slots K H0 B H τ σ->clsOf K n C->td n Dv τ->EndsOk K EX B0 H0 Dv Dh->th (.ref C) Dh σ H
structure VH(X:Cx)(EX:St->XK)(hs:List ExceptHandler)(td:THD):Prop where
 u:∃th,QH X hs th/\RfH X.K EX th td
def vTry(t:TVS)(td:THD):TVS:=λDv τ=>t { nx:=Dv.nx,rt:=Dv.rt,bk:=Dv.bk,ct:=Dv.ct,xc:=λτ' n=>td n Dv τ',rn:=Dv.rn } τ
def VEnds.calm(Dv:VEnds):VEnds:={ nx:=Dv.nx,rt:=Dv.rt,bk:=Dv.bk,ct:=Dv.ct }
def VEnds.wiped(Dv:VEnds):VEnds:={ nx:=λτ=>Dv.nx (List.replicate τ.length none),rt:=Dv.rt,bk:=λτ=>Dv.bk (List.replicate τ.length none),ct:=λτ=>Dv.ct (List.replicate τ.length none) }
end
end L2
namespace L2
open PySem PySem.Spec PyProof.Rows Builtin.Str
section
variable {X:Cx}
end
section
variable {X:Cx} {EX:St->XK} {o e:Expr} {to te:TV} {apos cpos:Pos}
theorem qgz{K:PySem.W.Frag}{B:Hp}:∀ss:List Str,Reps K B (ss.map D.str) (ss.map V.str)
|[]=>.nil
|s::ss=>.cons (qgy (d:=.str s) rfl) (qgz ss)
end
def sp(c:Nat):List Nat->List (List Nat)
|[]=>[[]]
|x::xs=>if x=c then []::sp c xs else match sp c xs with
 |[]=>[[x]]
 |p::ps=>(x::p)::ps
theorem qyc(a b:Nat):sliceRange a b 1=List.range' a (b-a):=by
 unfold sliceRange
 have e:(if (1:Int)>0 then (if (a:Int)<b then ((b:Int)-a+1-1) / 1 else 0) else (if (a:Int)>b then ((a:Int)-b-1-1) / (-1) else 0)).toNat=b-a:=by
  rw[if_pos (by decide)]
  split
  ·rw[Int.ediv_one];lia
  ·lia
 show (List.range _).map _=_
 rw[e,List.range'_eq_map_range]
 refine List.map_congr_left λk _=>?_
 lia
theorem qwh(l u:Option Int)(n:Nat):strSliceIndices l u 1 n=List.range' (HT.sIx n 0 l) (HT.sIx n n u-HT.sIx n 0 l):=by
 rw[←qyc]
 unfold strSliceIndices
 have c:∀(v:Int),max 0 (min (if v<0 then v+(n:Int) else v) n)=((HT.sIx n 0 (some v):Nat):Int):=λv=>by
  show _=(((if v<0 then (v+(n:Int)).toNat else min v.toNat n):Nat):Int)
  split<;>lia
 have c2:∀(v:Int),HT.sIx n n (some v)=HT.sIx n 0 (some v):=λ_=>rfl
 have go:∀(a b:Int) (x y:Nat),a=x->b=y->sliceRange a b 1=sliceRange x y 1:=λa b x y h1 h2=>by rw[h1,h2]
 cases l with
|none =>
  cases u with
 |none=>exact go _ _ _ _ rfl rfl
 |some v=>exact go _ _ _ _ rfl (by rw[c2,←c v];rfl)
|some v =>
  cases u with
 |none=>exact go _ _ _ _ (by rw[←c v];rfl) rfl
 |some w=>exact go _ _ _ _ (by rw[←c v];rfl) (by rw[c2,←c w];rfl)
theorem qmy(xs:Array Nat):∀(m a:Nat),a+m<=xs.size->(List.range' a m).filterMap (xs[·]?)=(xs.toList.drop a).take m
|0,a,_=>by simp
|m+1,a,h=>by
  have hs:a<xs.toList.length:=by show a<xs.size;lia
  rw[List.range'_succ,List.filterMap_cons,Array.getElem?_eq_getElem (show a<xs.size by lia)]
  show xs[a]::_=_
  rw[qmy xs m (a+1) (by lia),List.drop_eq_getElem_cons hs,List.take_succ_cons]
  rfl
theorem slice_list(z:Str)(l u:Option Int):(Txt.slice z l u).cps.toList=cutL z.cps.toList l u:=by
 unfold Txt.slice cutL
 have el:z.cps.toList.length=z.length:=rfl
 have h1:=HT.sIx_le z.length 0 (Nat.zero_le _) l
 have h2:=HT.sIx_le z.length z.length (Nat.le_refl _) u
 rw[qwh,el]
 by_cases h:HT.sIx z.length z.length u-HT.sIx z.length 0 l=z.length
 ·rw[if_pos (by simpa using h),h]
  have e0:HT.sIx z.length 0 l=0:=by lia
  rw[e0,List.drop_zero,List.take_of_length_le (Nat.le_of_eq el)]
 ·rw[if_neg (by simpa using h)]
  show List.filterMap _ _=_
  by_cases hz:HT.sIx z.length 0 l<=HT.sIx z.length z.length u
  ·exact qmy z.cps _ _ (by show _<=z.length;lia)
  ·rw[show HT.sIx z.length z.length u-HT.sIx z.length 0 l=0 by lia]
   simp
def mkS(l:List Nat):Str:=⟨l.toArray⟩
theorem qnd(z:Str):mkS z.cps.toList=z:=by unfold mkS;simp
theorem qma{a b:Str}(h:a.cps.toList=b.cps.toList):a=b:=by rw[←qnd a,←qnd b,h]
end L2
namespace L2
open PySem PySem.Spec PyProof.Rows
section
variable {X:Cx} {EX:St->XK} {K:PySem.W.Frag} {o e:Expr} {to te:TV} {apos cpos:Pos} {τ:VSt} {σ:St} {B H H0:Hp}
end
end L2
namespace L2
open PySem PySem.W PyProof.Rows
section
variable {α β:Type}
def kRun(lt:Nat->Nat->Bool):KasT α->α
|.ret a=>a
|.ask i j k=>kRun lt (k (lt i j))
def kOk(n:Nat)(lt:Nat->Nat->Bool):KasT α->Prop
|.ret _=>True
|.ask i j k=>i<n/\j<n/\kOk n lt (k (lt i j))
theorem qb0(lt:Nat->Nat->Bool)(f:α->KasT β):∀t:KasT α,kRun lt (t.bind f)=kRun lt (f (kRun lt t))
|.ret _=>rfl
|.ask i j k=>qb0 lt f (k (lt i j))
theorem qcq{n:Nat}{lt:Nat->Nat->Bool}{f:α->KasT β}:∀ {t:KasT α},kOk n lt t->kOk n lt (f (kRun lt t))->kOk n lt (t.bind f)
|.ret _,_,h=>h
|.ask i j k,⟨a,b,c⟩,h=>⟨a,b,qcq c h⟩
theorem qdx{lt:Nat->Nat->Bool}{i j:Nat}{b:Bool}{k:Bool->KasT α}(e:lt i j=b):kRun lt (.ask i j k)=kRun lt (k b):=by
 show kRun lt (k (lt i j))=_
 rw[e]
theorem qfv{n:Nat}{lt:Nat->Nat->Bool}{i j:Nat}{b:Bool}{k:Bool->KasT α}(hi:i<n)(hj:j<n)(e:lt i j=b)(h:kOk n lt (k b)):kOk n lt (.ask i j k):=⟨hi,hj,by rw[e];exact h⟩
theorem qqm{cmp:Nat->Nat->(Bool->Shared->Prop)->Shared->Prop}{n:Nat}{lt:Nat->Nat->Bool}{P:Shared->Prop}{Q:α->Shared->Prop}(hc:∀i j C s,i<n->j<n->P s->(∀s',P s'->C (lt i j) s')->cmp i j C s) :
  ∀(t:KasT α) (s:Shared),kOk n lt t->P s->(∀s',P s'->Q (kRun lt t) s')->t.kasWp cmp Q s
|.ret _,s,_,hp,hq=>hq s hp
|.ask i j k,s,⟨hi,hj,hk⟩,hp,hq=>hc i j _ s hi hj hp λs' hp'=>qqm hc (k (lt i j)) s' hk hp' hq
end
structure LtOk(n:Nat)(lt:Nat->Nat->Bool):Prop where
 tr:∀a b c,a<n->b<n->c<n->lt a b=true->lt b c=true->lt a c=true
 as:∀a b,a<n->b<n->lt a b=true->lt b a=false
 tot:∀a b,a<n->b<n->a≠b->lt a b=true\/lt b a=true
section
variable {n:Nat} {lt:Nat->Nat->Bool} {p:Array Nat}
structure PermOk(n:Nat)(p:Array Nat):Prop where
 sz:p.size=n
 lt:∀i,i<n->p.getD i 0<n
 inj:∀i j,i<n->j<n->p.getD i 0=p.getD j 0->i=j
theorem qcm(p:Array Nat)(i:Nat):p.getD i 0=(p[i]?).getD 0:=by
 by_cases h:i<p.size
 ·simp[Array.getD,h]
 ·simp[Array.getD,h]
theorem PermOk.of(hp:p.Perm (List.range n).toArray):PermOk n p where
 sz:=by rw[hp.size_eq];simp
 lt:=λi hi=>by
  have hs:p.size=n:=by rw[hp.size_eq];simp
  have hm:p[i]'(by lia)∈p:=Array.getElem_mem _
  have:p[i]'(by lia)∈(List.range n).toArray:=hp.mem_iff.mp hm
  rw[qcm,Array.getElem?_eq_getElem (by lia)]
  simpa using this
 inj:=λi j hi hj e=>by
  have hs:p.size=n:=by rw[hp.size_eq];simp
  have nd:p.toList.Nodup:=by
   have:=hp.toList
   rw[this.nodup_iff]
   simp[List.nodup_range]
  rw[qcm,qcm,Array.getElem?_eq_getElem (by lia),Array.getElem?_eq_getElem (by lia)] at e
  have e':p.toList[i]'(by simp;lia)=p.toList[j]'(by simp;lia):=by simpa using e
  exact(List.getElem_inj nd).mp e'
def SPr(lt:Nat->Nat->Bool)(p:Array Nat)(k:Nat):Prop:=∀i j,i<j->j<k->lt (p.getD i 0) (p.getD j 0)=true
def DPr(lt:Nat->Nat->Bool)(p:Array Nat)(k:Nat):Prop:=∀i j,i<j->j<k->lt (p.getD j 0) (p.getD i 0)=true
theorem SPr.snoc(L:LtOk n lt)(P:PermOk n p){k:Nat}(h:SPr lt p k)(hk:k<n)(h1:1<=k)(e:lt (p.getD k 0) (p.getD (k-1) 0)=false):SPr lt p (k+1):=λi j hi hj=>by
 have l1:lt (p.getD (k-1) 0) (p.getD k 0)=true:=by
  rcases L.tot _ _ (P.lt (k-1) (by lia)) (P.lt k hk) (λz=>by have:=P.inj _ _ (by lia) hk z;lia) with q|q
  ·exact q
  ·rw[e] at q;cases q
 by_cases hjk:j=k
 ·subst hjk
  by_cases hik:i=j-1
  ·rw[hik];exact l1
  ·exact L.tr _ _ _ (P.lt i (by lia)) (P.lt (j-1) (by lia)) (P.lt j hk) (h i (j-1) (by lia) (by lia)) l1
 ·exact h i j hi (by lia)
theorem DPr.snoc(L:LtOk n lt)(P:PermOk n p){k:Nat}(h:DPr lt p k)(hk:k<n)(h1:1<=k)(e:lt (p.getD k 0) (p.getD (k-1) 0)=true):DPr lt p (k+1):=λi j hi hj=>by
 by_cases hjk:j=k
 ·subst hjk
  by_cases hik:i=j-1
  ·rw[hik];exact e
  ·exact L.tr _ _ _ (P.lt j hk) (P.lt (j-1) (by lia)) (P.lt i (by lia)) e (h i (j-1) (by lia) (by lia))
 ·exact h i j hi (by lia)
theorem qpl(L:LtOk n lt)(P:PermOk n p):∀(f m:Nat),1<=m->m+f<=n->SPr lt p m->kOk n lt (kas_asc p f m)/\∃m',kRun lt (kas_asc p f m)=m'/\m<=m'/\m'<=m+f/\SPr lt p m'/\(m'=m+f\/lt (p.getD m' 0) (p.getD (m' - 1) 0)=true)
|0,m,h1,hf,hs=>⟨trivial,m,rfl,Nat.le_refl _,Nat.le_refl _,hs,.inl rfl⟩
|f+1,m,h1,hf,hs=>by
  cases e:lt (p.getD m 0) (p.getD (m-1) 0) with
 |true =>
   refine⟨qfv (P.lt m (by lia)) (P.lt (m-1) (by lia)) e ?_,m,(qdx e).trans ?_,Nat.le_refl _,by lia,hs,.inr e⟩
   ·trivial
   ·rfl
 |false =>
   obtain⟨a,m',r,b,c,d,g⟩:=qpl L P f (m+1) (by lia) (by lia) (hs.snoc L P (by lia) h1 e)
   refine⟨qfv (P.lt m (by lia)) (P.lt (m-1) (by lia)) e a,m',(qdx e).trans r,by lia,by lia,d,?_⟩
   rcases g with g|g
   ·left;lia
   ·exact .inr g
theorem qpy(L:LtOk n lt)(P:PermOk n p):∀(f m:Nat),1<=m->m+f<=n->DPr lt p m->kOk n lt (kas_desc f p m 0)/\∃m',kRun lt (kas_desc f p m 0)=(p,m',0)/\m<=m'/\m'<=m+f/\DPr lt p m'
|0,m,h1,hf,hs=>⟨trivial,m,rfl,Nat.le_refl _,Nat.le_refl _,hs⟩
|f+1,m,h1,hf,hs=>by
  cases e:lt (p.getD m 0) (p.getD (m-1) 0) with
 |true =>
   obtain⟨a,m',b,c,d,g⟩:=qpy L P f (m+1) (by lia) (by lia) (hs.snoc L P (by lia) h1 e)
   exact⟨qfv (P.lt m (by lia)) (P.lt (m-1) (by lia)) e a,m',(qdx e).trans b,by lia,by lia,g⟩
 |false =>
   have l1:lt (p.getD (m-1) 0) (p.getD m 0)=true:=by
    rcases L.tot _ _ (P.lt (m-1) (by lia)) (P.lt m (by lia)) (λz=>by have:=P.inj _ _ (by lia) (by lia) z;lia) with q|q
    ·exact q
    ·rw[e] at q;cases q
   exact⟨qfv (P.lt m (by lia)) (P.lt (m-1) (by lia)) e (qfv (P.lt (m-1) (by lia)) (P.lt m (by lia)) l1 trivial),m,(qdx e).trans ((qdx l1).trans rfl),Nat.le_refl _,by lia,hs⟩
theorem qgu{j:Nat}(hj:j<=p.size)(k:Nat):(kas_rev p 0 j).getD k 0=if k<j then p.getD (j-1-k) 0 else p.getD k 0:=by
 rw[qcm,kas_rev,getElem?_mirror_all hj k]
 by_cases h:k<j
 ·rw[if_pos ⟨Nat.zero_le _,h⟩,if_pos h,qcm,Nat.zero_add]
 ·rw[if_neg (λz=>h z.2),if_neg h,qcm]
theorem qx9{j:Nat}(hj:j<=p.size)(h:DPr lt p j):SPr lt (kas_rev p 0 j) j:=λa b hab hb=>by
 rw[qgu hj,qgu hj,if_pos (by lia),if_pos hb]
 exact h (j-1-b) (j-1-a) (by lia) (by lia)
theorem quf(L:LtOk n lt)(hp:p.Perm (List.range n).toArray){m:Nat}(h1:1<=m)(hm:m<=n)(h:DPr lt p m):kOk n lt (kas_tail3 m n p)/\∃k q,kRun lt (kas_tail3 m n p)=(k,q)/\1<=k/\k<=n/\q.Perm p/\SPr lt q k:=by
 have hq:(kas_rev p 0 m).Perm p:=mirror_perm _ _ _ _
 have P:=PermOk.of (hq.trans hp)
 obtain⟨a,k,r,b,c,d,_⟩:=qpl L P (n-m) m h1 (by lia) (qx9 (by rw[(PermOk.of hp).sz];exact hm) h)
 refine⟨qcq a trivial,k,kas_rev p 0 m,?_,by lia,by lia,hq,d⟩
 unfold kas_tail3
 rw[qb0,r]
 rfl
theorem qld(L:LtOk n lt)(hp:p.Perm (List.range n).toArray){m:Nat}(hm:m+1<=n)(h:DPr lt p (m+1)):kOk n lt (kas_descPart m n p)/\∃k q,kRun lt (kas_descPart m n p)=(k,q)/\1<=k/\k<=n/\q.Perm p/\SPr lt q k:=by
 have P:=PermOk.of hp
 obtain⟨a,m',r,b,c,d⟩:=qpy L P (n-(m+1)) (m+1) (by lia) (by lia) h
 obtain⟨a2,k,q,r2,e⟩:=quf L hp (m:=m') (by lia) (by lia) d
 refine⟨qcq a ?_,k,q,?_,e⟩
 ·rw[r]
  exact a2
 ·unfold kas_descPart
  rw[qb0,r]
  exact r2
theorem qsu(L:LtOk n lt)(hp:p.Perm (List.range n).toArray)(h1:1<=n):kOk n lt (kas_count n p)/\∃m q,kRun lt (kas_count n p)=(m,q)/\1<=m/\m<=n/\q.Perm p/\SPr lt q m:=by
 have P:=PermOk.of hp
 obtain⟨a,m,r,b,c,d,g⟩:=qpl L P (n-1) 1 (Nat.le_refl _) (by lia) (λi j hi hj=>by lia)
 by_cases hn:m=n
 ·refine⟨qcq a ?_,m,p,?_,b,by lia,.refl _,d⟩
  ·rw[r,if_pos (by simp[hn])]
   trivial
  ·unfold kas_count
   rw[qb0,r,if_pos (by simp[hn])]
   rfl
 ·have ne:¬ (m==n)=true:=by simp[hn]
  by_cases hm:m>1
  ·have e:lt (p.getD 0 0) (p.getD (m-1) 0)=true:=d 0 (m-1) (by lia) (by lia)
   refine⟨qcq a ?_,m,p,?_,b,by lia,.refl _,d⟩
   ·rw[r,if_neg ne,if_pos hm]
    exact qfv (P.lt 0 (by lia)) (P.lt (m-1) (by lia)) e trivial
   ·unfold kas_count
    rw[qb0,r,if_neg ne,if_pos hm,qdx e]
    rfl
  ·have hm1:m=1:=by lia
   have e:lt (p.getD 1 0) (p.getD 0 0)=true:=by
    rcases g with g|g
    ·exact absurd (by lia) hn
    ·rw[hm1] at g;exact g
   have D2:DPr lt p (m+1):=λi j hi hj=>by
    have:i=0:=by lia
    have:j=1:=by lia
    subst_vars
    exact e
   obtain⟨a2,k,q,r2,e2⟩:=qld L hp (m:=m) (by lia) D2
   refine⟨qcq a ?_,k,q,?_,e2⟩
   ·rw[r,if_neg ne,if_neg hm]
    exact a2
   ·unfold kas_count
    rw[qb0,r,if_neg ne,if_neg hm]
    exact r2
theorem qit(L:LtOk n lt)(P:PermOk n p){k:Nat}(hk:k<n):∀(f l r:Nat),l<=r->r<=k->r-l<=f->SPr lt p k->(∀i,i<l->lt (p.getD i 0) (p.getD k 0)=true)->(∀i,r<=i->i<k->lt (p.getD k 0) (p.getD i 0)=true) ->
  kOk n lt (kas_place p k f l r)/\∃l',kRun lt (kas_place p k f l r)=l'/\l'<=k/\(∀i,i<l'->lt (p.getD i 0) (p.getD k 0)=true)/\(∀i,l'<=i->i<k->lt (p.getD k 0) (p.getD i 0)=true)
|0,l,r,hlr,hrk,hf,hs,h1,h2=>by
  have:l=r:=by lia
  subst this
  exact⟨trivial,l,rfl,hrk,h1,h2⟩
|f+1,l,r,hlr,hrk,hf,hs,h1,h2=>by
  unfold kas_place
  by_cases hge:l≥r
  ·have:l=r:=by lia
   subst this
   rw[if_pos hge]
   exact⟨trivial,l,rfl,hrk,h1,h2⟩
  ·rw[if_neg hge]
   have hmk:(l+r) / 2<k:=by lia
   cases e:lt (p.getD k 0) (p.getD ((l+r) / 2) 0) with
  |true =>
    obtain⟨a,l',q,b,c,d⟩:=qit L P hk f l ((l+r) / 2) (by lia) (by lia) (by lia) hs h1 (λi hi hik=>by
     by_cases z:i=(l+r) / 2
     ·rw[z];exact e
     ·exact L.tr _ _ _ (P.lt k hk) (P.lt _ (by lia)) (P.lt i (by lia)) e (hs ((l+r) / 2) i (by lia) hik))
    exact⟨qfv (P.lt k hk) (P.lt _ (by lia)) e a,l',(qdx e).trans q,b,c,d⟩
  |false =>
    have l1:lt (p.getD ((l+r) / 2) 0) (p.getD k 0)=true:=by
     rcases L.tot _ _ (P.lt ((l+r) / 2) (by lia)) (P.lt k hk) (λz=>by have:=P.inj _ _ (by lia) hk z;lia) with q|q
     ·exact q
     ·rw[e] at q;cases q
    obtain⟨a,l',q,b,c,d⟩:=qit L P hk f ((l+r) / 2+1) r (by lia) hrk (by lia) hs (λi hi=>by
     by_cases z:i=(l+r) / 2
     ·rw[z];exact l1
     ·exact L.tr _ _ _ (P.lt i (by lia)) (P.lt ((l+r) / 2) (by lia)) (P.lt k hk) (hs i ((l+r) / 2) (by lia) hmk) l1) h2
    exact⟨qfv (P.lt k hk) (P.lt _ (by lia)) e a,l',(qdx e).trans q,b,c,d⟩
theorem qk9{src d:Nat}(hs:src<p.size)(hd:d<=src)(k:Nat):(bubble p src d).getD k 0=if k=src-d then p.getD src 0 else if src-d<k/\k<=src then p.getD (k-1) 0 else p.getD k 0:=by
 rw[qcm,getElem?_bubble hs d hd k]
 by_cases h1:k=src-d
 ·rw[if_pos h1,if_pos h1,qcm]
 ·rw[if_neg h1,if_neg h1]
  by_cases h2:src-d<k/\k<=src
  ·rw[if_pos h2,if_pos h2,qcm]
  ·rw[if_neg h2,if_neg h2,qcm]
theorem qup(L:LtOk n lt):∀(f k:Nat) (p:Array Nat),p.Perm (List.range n).toArray->1<=k->k+f<=n->SPr lt p k->kOk n lt (kas_bin f p k)/\∃q,kRun lt (kas_bin f p k)=q/\q.Perm p/\SPr lt q (k+f)
|0,k,p,hp,h1,hf,hs=>⟨trivial,p,rfl,.refl _,hs⟩
|f+1,k,p,hp,h1,hf,hs=>by
  have P:=PermOk.of hp
  obtain⟨a,l,r,b,c,d⟩:=qit L P (k:=k) (by lia) k 0 k (Nat.zero_le _) (Nat.le_refl _) (by lia) hs (λi hi=>by lia) (λi hi hk=>by lia)
  have hq:(bubble p k (k-l)).Perm p:=bubble_perm _ _ _
  have G:=qk9 (p:=p) (src:=k) (d:=k-l) (by rw[P.sz];lia) (by lia)
  have hs2:SPr lt (bubble p k (k-l)) (k+1):=λi j hi hj=>by
   rw[G i,G j]
   have ekl:k-(k-l)=l:=by lia
   rw[ekl]
   by_cases i1:i=l
   ·rw[if_pos i1,if_neg (by lia),if_pos (by lia)]
    exact d (j-1) (by lia) (by lia)
   ·rw[if_neg i1]
    by_cases j1:j=l
    ·rw[if_pos j1,if_neg (by lia)]
     exact c i (by lia)
    ·rw[if_neg j1]
     by_cases i2:l<i
     ·rw[if_pos (by lia),if_pos (by lia)]
      exact hs (i-1) (j-1) (by lia) (by lia)
     ·rw[if_neg (by lia)]
      by_cases j2:l<j
      ·rw[if_pos (by lia)]
       exact hs i (j-1) (by lia) (by lia)
      ·rw[if_neg (by lia)]
       exact hs i j hi (by lia)
  obtain⟨a2,q,r2,e1,e2⟩:=qup L f (k+1) _ (hq.trans hp) (by lia) (by lia) hs2
  refine⟨qcq a (by rw[r];exact a2),q,?_,e1.trans hq,by rw[show k+(f+1)=k+1+f by lia];exact e2⟩
  unfold kas_bin
  rw[qb0,r]
  exact r2
theorem qyg(L:LtOk n lt)(h1:1<=n):kOk n lt (kas_sort n)/\∃q,kRun lt (kas_sort n)=q/\q.Perm (List.range n).toArray/\SPr lt q n:=by
 obtain⟨a,m,q,r,b,c,d,e⟩:=qsu L (.refl _) h1
 by_cases hm:m<n
 ·obtain⟨a2,q2,r2,e1,e2⟩:=qup L (n-max m 1) (max m 1) q d (by lia) (by lia) (by rw[Nat.max_eq_left b];exact e)
  refine⟨qcq a ?_,q2,?_,e1.trans d,?_⟩
  ·rw[r,if_pos hm]
   exact a2
  ·unfold kas_sort
   rw[qb0,r,if_pos hm]
   exact r2
  ·rw[show max m 1+(n-max m 1)=n by lia] at e2
   exact e2
 ·have:m=n:=by lia
  subst this
  refine⟨qcq a ?_,q,?_,d,e⟩
  ·rw[r,if_neg hm]
   trivial
  ·unfold kas_sort
   rw[qb0,r,if_neg hm]
   rfl
end
end L2
namespace L2
open PySem PySem.Spec PyProof.Rows PySem.W
def LtA(A:Around)(s:Shared)(x y:Value)(c:Bool):Prop:=∀(prog:Program) (w:World) (E:Value->Shared->Prop) (Q:Value->Shared->Prop),Q (.bool c) s->wpAny (model prog w) A (richCompare .Lt x y) Q E s
def LtC(A:Around)(s:Shared)(p q:Addr)(c:Bool):Prop:=∀(prog:Program) (w:World) (E:Value->Shared->Prop) (Q:Value->Shared->Prop),Q (.bool c) s->wpAny (model prog w) A (call (.builtin "tuple.__lt__") [.ref p,.ref q]) Q E s
def lexV(e l:Nat->Bool)(z:Bool):Nat->Nat->Bool
|0,_=>z
|k+1,i=>if e i=true then lexV e l z k (i+1) else l i
theorem qvr(p q:Addr)(us ws:Array Value)(m k:Nat)(dp dq:Option Addr)(sp sq:Array (Option Value))(e c:Nat->Bool) :
  Meets (Builtin.«tuple.__lt__» ⟨[.ref p,.ref q],[]⟩)
   (λA R s=>s.heap.get? p=some { cls:=.type "tuple",dict:=dp,data:=.seq us m,slots:=sp }/\s.heap.get? q=some { cls:=.type "tuple",dict:=dq,data:=.seq ws k,slots:=sq } /\
    (∀j (h1:j<us.size) (h2:j<ws.size),SeqAt.EqAt A.in1 s us[j] ws[j] (e j))/\(∀j (h1:j<us.size) (h2:j<ws.size),e j=false->LtA A.in1 s us[j] ws[j] (c j)) /\
    R (.ok (.ret (.bool (lexV e c (decide (us.size<ws.size)) (min us.size ws.size) 0)))) s) :=
 .of_wp λprog w A R s h=>by
  obtain⟨h1,g1,d1,t1,o1⟩:=s
  obtain⟨hl,hb,he,hc,hR0⟩:=h
  have f2:=AutoSeq1.sub_tuple_tuple
  have hZ:(us.toList.zip ws.toList).length=min us.size ws.size:=by simp
  wp_walk using wpAny_loadPart' hl,wpAny_loadPart' hb,wpAny_forIn_list _ (λrest b s'=>b.1=none/\s'=⟨h1,g1,d1,t1,o1⟩/\∃i k,i+k=min us.size ws.size/\rest=(us.toList.zip ws.toList).drop i /\
   R (.ok (.ret (.bool (lexV e c (decide (us.size<ws.size)) k i)))) ⟨h1,g1,d1,t1,o1⟩) _
  case turn =>
   rintro⟨y,x⟩ rest b s' ⟨hb',rfl,i,k,hik,hz,hR⟩
   have hm:i<(us.toList.zip ws.toList).length:=by
    apply Nat.lt_of_not_le
    intro z
    rw[List.drop_of_length_le z] at hz
    cases hz
   have l1:i<us.size:=by lia
   have l2:i<ws.size:=by lia
   rw[List.drop_eq_getElem_cons hm] at hz
   injection hz with hyx hrest
   obtain rfl:y=us[i]:=by simpa using congrArg Prod.fst hyx
   obtain rfl:x=ws[i]:=by simpa using congrArg Prod.snd hyx
   obtain⟨k,rfl⟩:∃k',k=k'+1:=⟨k-1,by lia⟩
   have hR':R (.ok (.ret (.bool (if e i=true then lexV e c (decide (us.size<ws.size)) k (i+1) else c i)))) ⟨h1,g1,d1,t1,o1⟩:=hR
   refine wpAny_bind (he i l1 l2 prog w _ _ ?_)
   cases hy:e i with
  |true =>
    rw[hy,if_pos rfl] at hR'
    wp_walk
    exact⟨rfl,rfl,i+1,k,by lia,hrest,hR'⟩
  |false =>
    rw[hy,if_neg (by decide)] at hR'
    simp only[Bool.not_false,if_true]
    refine wpAny_bind (wpAny_rule (wpAny_bind (hc i l1 l2 hy prog w _ _ ?_)))
    wp_walk
    exact⟨_,rfl,hR'⟩
  case fin =>
   rintro⟨b1,b2⟩ s' ⟨hb',rfl,i,k,hik,hz,hR⟩
   simp only at hb'
   subst hb'
   have hk:k=0:=by
    rcases Nat.lt_or_ge i (us.toList.zip ws.toList).length with z|z
    ·rw[List.drop_eq_getElem_cons z] at hz;cases hz
    ·lia
   subst hk
   wp_walk
   exact⟨_,rfl,by simpa [Builtin.Tuple.tupleCompareSizes,lexV] using hR⟩
  case h =>
   exact⟨rfl,rfl,0,_,Nat.zero_add _,rfl,hR0⟩
section
variable {A:Around} {s:Shared} {p q:Addr} {us ws:Array Value} {e c:Nat->Bool}
theorem LtA.tups(hp:s.heap.IsTuple p us)(hq:s.heap.IsTuple q ws)(hu:A.units<cLine)(he:∀j (h1:j<us.size) (h2:j<ws.size),SeqAt.EqAt A.in1 s us[j] ws[j] (e j))
  (hc:∀j (h1:j<us.size) (h2:j<ws.size),e j=false->LtA A.in1 s us[j] ws[j] (c j)):LtA A s (.ref p) (.ref q) (lexV e c (decide (us.size<ws.size)) (min us.size ws.size) 0)/\LtC A s p q (lexV e c (decide (us.size<ws.size)) (min us.size ws.size) 0):=by
 obtain⟨⟨cl1,dp,da1,sp⟩,o1,z1,m,y1⟩:=id hp
 obtain⟨⟨cl2,dq,da2,sq⟩,o2,z2,k,y2⟩:=id hq
 cases z1;cases y1;cases z2;cases y2
 refine⟨λprog w E Q h=>?_,λprog w E Q h=>call_meets F.slot_tuple_lt ⟨_,o1,rfl⟩ F.entry_tuple_lt (F.args_tuple_lt_2 _ _) (qvr p q us ws m k dp dq sp sq e c) ⟨o1,o2,he,hc,h⟩⟩
 exact richCompare_meets_room (op:=.Lt) ⟨_,o1,rfl⟩ ⟨_,o2,rfl⟩ F.slot_tuple_lt F.entry_tuple_lt (F.args_tuple_lt_2 _ _) (qvr p q us ws m k dp dq sp sq e c) ⟨o1,o2,he,hc,(λx=>nomatch x),h⟩ hu
theorem LtA.strs{a b:Str}{t u:Tok}:LtA A s (.str a t) (.str b u) (decide (a.cps.toList<b.cps.toList)):=λprog w E Q h=>by
 refine wpAny_richCompare_same_or (typeIs_str s a t) (typeIs_str s b u) slot_str_lt (call_str_lt (Q:=λv s'=>v≠.notImplemented/\Q v s') ⟨(λx=>nomatch x),h⟩) (.inl rfl)
end
mutual
noncomputable def ltD:D->D->Bool
|.str a,.str b=>decide (a.cps.toList<b.cps.toList)
|.tup ds,.tup es=>ltDs ds es
|_,_=>false
noncomputable def ltDs:List D->List D->Bool
|[],[]=>false
|[],_::_=>true
|_::_,[]=>false
|d::ds,e::es=>if eqD d e=true then ltDs ds es else ltD d e
end
mutual
def ordD:D->D->Bool
|.str _,.str _=>true
|.tup ds,.tup es=>qdp ds es
|_,_=>false
def qdp:List D->List D->Bool
|d::ds,e::es=>ordD d e&&qdp ds es
|_,_=>true
end
mutual
theorem qq9:∀(d e:D),ordD d e=true->cmpD d e=true
|.str _,e,h=>by
  cases e<;>first|rfl|(unfold ordD at h;cases h)
|.tup ds,e,h=>by
  cases e<;>first|(unfold ordD at h;cases h;done)|skip
  rename_i es
  unfold ordD at h
  unfold cmpD
  exact qis ds es h
|.non,e,h=>by unfold ordD at h;cases h
|.bl _,e,h=>by unfold ordD at h;cases h
|.int _,e,h=>by unfold ordD at h;cases h
|.lst _,e,h=>by unfold ordD at h;cases h
|.dT _ _,e,h=>by unfold ordD at h;cases h
|.dK _ _,e,h=>by unfold ordD at h;cases h
|.scr _,e,h=>by unfold ordD at h;cases h
|.kt _,e,h=>by unfold ordD at h;cases h
|.exc _,e,h=>by unfold ordD at h;cases h
theorem qis:∀(ds es:List D),qdp ds es=true->qci ds es=true
|[],_,_=>by unfold qci;rfl
|_::_,[],_=>by unfold qci;rfl
|d::ds,e::es,h=>by
  unfold qdp at h
  rw[Bool.and_eq_true] at h
  unfold qci
  rw[qq9 d e h.1,qis ds es h.2]
  rfl
end
theorem qnk:∀ {ds es:List D} {j:Nat} {d e:D},qdp ds es=true->ds[j]?=some d->es[j]?=some e->ordD d e=true
|[],_,j,_,_,_,q,_=>by simp at q
|_::_,[],j,_,_,_,_,q=>by simp at q
|d::ds,e::es,0,_,_,h,q1,q2=>by
  unfold qdp at h
  rw[Bool.and_eq_true] at h
  simp at q1 q2
  rw[←q1,←q2]
  exact h.1
|d::ds,e::es,j+1,_,_,h,q1,q2=>by
  unfold qdp at h
  rw[Bool.and_eq_true] at h
  exact qnk h.2 (by simpa using q1) (by simpa using q2)
theorem qhx(e l:Nat->Bool)(z:Bool):∀k i,lexV e l z k (i+1)=lexV (λj=>e (j+1)) (λj=>l (j+1)) z k i
|0,_=>rfl
|k+1,i=>by
  show (if e (i+1)=true then lexV e l z k (i+1+1) else l (i+1))=if e (i+1)=true then lexV (λj=>e (j+1)) (λj=>l (j+1)) z k (i+1) else l (i+1)
  rw[qhx e l z k (i+1)]
theorem qu5:∀ds es:List D,lexV (λj=>eqD (ds.getD j .non) (es.getD j .non)) (λj=>ltD (ds.getD j .non) (es.getD j .non)) (decide (ds.length<es.length)) (min ds.length es.length) 0=ltDs ds es
|[],[]=>by unfold ltDs;rfl
|[],_::_=>by unfold ltDs;simp[lexV]
|_::_,[]=>by unfold ltDs;simp[lexV]
|d::ds,e::es=>by
  have ih:=qu5 ds es
  rw[List.length_cons,List.length_cons,Nat.add_min_add_right]
  show (if eqD d e=true then lexV _ _ _ (min ds.length es.length) (0+1) else ltD d e)=_
  rw[qhx]
  unfold ltDs
  have ed:decide (ds.length+1<es.length+1)=decide (ds.length<es.length):=decide_eq_decide.mpr (by lia)
  rw[ed]
  have h2:lexV (λj=>eqD ((d::ds).getD (j+1) .non) ((e::es).getD (j+1) .non)) (λj=>ltD ((d::ds).getD (j+1) .non) ((e::es).getD (j+1) .non)) (decide (ds.length<es.length)) (min ds.length es.length) 0=ltDs ds es:=ih
  rw[h2]
section
variable {X:Cx} {pins:List (Addr×Obj)} {σ:St} {H:Hp} {s:Shared}
theorem qvb{A:Around}(I:Inv X pins σ H s){a b:Addr}{ds es:List D}{xs ys:List V}(ha:SqT X.K H a xs)(hb:SqT X.K H b ys)(r1:Reps X.K H ds xs)(r2:Reps X.K H es ys)(ho:qdp ds es=true)(hu:A.units+qb4 ds+1<cLine)
  (ih:∀d∈ds,∀(e:D) (v z:V) (u w:Value),Rep X.K H d v->Rep X.K H e z->RelV v u->RelV z w->ordD d e=true->LtA A.in1 s u w (ltD d e)):LtA A s (.ref a) (.ref b) (ltDs ds es)/\LtC A s a b (ltDs ds es):=by
 obtain⟨its,v1,p1,_⟩:=I.tuple ha
 obtain⟨its2,v2,p2,_⟩:=I.tuple hb
 have hc:=qis ds es ho
 have ihe:∀d∈ds,∀(e:D) (v z:V) (u w:Value),Rep X.K H d v->Rep X.K H e z->RelV v u->RelV z w->cmpD d e=true->SeqAt.EqAt A.in1 s u w (eqD d e):=λd hd e v z u w h1 h2 h3 h4 h5 =>
  qfy I _ A.in1 d e v z u w (Nat.le_refl _) h1 h2 h3 h4 h5 (by have:=qce hd;have un:A.in1.units=A.units+1:=rfl;lia)
 have:=LtA.tups (A:=A) (s:=s) (e:=λj=>eqD (ds.getD j .non) (es.getD j .non)) (c:=λj=>ltD (ds.getD j .non) (es.getD j .non)) (show s.heap.IsTuple a its.toArray from p1) (show s.heap.IsTuple b its2.toArray from p2) (by lia) (qgl r1 r2 v1 v2 hc ihe) ?_
 ·rw[List.size_toArray,List.size_toArray,←v1.length,←v2.length,←r1.length,←r2.length,qu5] at this
  exact this
 ·intro j h1 h2 _
  have l1:j<ds.length:=by rw[r1.length,v1.length];simpa using h1
  have l2:j<es.length:=by rw[r2.length,v2.length];simpa using h2
  obtain⟨x,qx,rx⟩:=r1.at (List.getElem?_eq_getElem l1)
  obtain⟨y,qy,ry⟩:=r2.at (List.getElem?_eq_getElem l2)
  obtain⟨ux,e1,rux⟩:=v1.get qx
  obtain⟨uy,e2,ruy⟩:=v2.get qy
  have e1':its.toArray[j]=ux:=by
   have z:its[j]?=some its.toArray[j]:=by simp
   rw[e1] at z
   exact(Option.some.inj z).symm
  have e2':its2.toArray[j]=uy:=by
   have z:its2[j]?=some its2.toArray[j]:=by simp
   rw[e2] at z
   exact(Option.some.inj z).symm
  have e3:ds.getD j .non=ds[j]:=by simp[List.getD_eq_getElem?_getD,l1]
  have e4:es.getD j .non=es[j]:=by simp[List.getD_eq_getElem?_getD,l2]
  rw[e1',e2',e3,e4]
  exact ih ds[j] (List.getElem_mem l1) es[j] x y ux uy rx ry rux ruy (qnk ho (List.getElem?_eq_getElem l1) (List.getElem?_eq_getElem l2))
theorem qm9(I:Inv X pins σ H s):∀(n:Nat) (A:Around) (d e:D) (v z:V) (u w:Value),sizeOf d<=n->Rep X.K H d v->Rep X.K H e z->RelV v u->RelV z w->ordD d e=true->A.units+depD d<cLine->LtA A s u w (ltD d e)
|0,_,d,_,_,_,_,_,hn,_,_,_,_,_,_=>by cases d<;>simp at hn
|n+1,A,d,e,v,z,u,w,hn,hd,he,ru,rw',ho,hu=>by
  have un:A.in1.units=A.units+1:=rfl
  cases d with
 |str a =>
   cases e with
  |str b =>
    unfold Rep at hd he
    subst hd he
    obtain⟨t1,rfl⟩:=ru
    obtain⟨t2,rfl⟩:=rw'
    unfold ltD
    exact LtA.strs
  |_=>unfold ordD at ho;cases ho
 |tup ds =>
   cases e with
  |tup es =>
    unfold Rep at hd he
    obtain⟨a,xs,rfl,ha,r1⟩:=hd
    obtain⟨b,ys,rfl,hb,r2⟩:=he
    cases ru
    cases rw'
    unfold ordD at ho
    unfold ltD
    unfold depD at hu
    refine(qvb I ha.sq hb.sq r1 r2 ho (by lia) λd hd e v z u w h1 h2 h3 h4 h5=>qm9 I n A.in1 d e v z u w ?_ h1 h2 h3 h4 h5 ?_).1
    ·have:=List.sizeOf_lt_of_mem hd
     simp at hn
     lia
    ·have:=qce hd
     lia
  |_=>unfold ordD at ho;cases ho
 |_=>unfold ordD at ho;cases ho
end
end L2
namespace L2
open PySem PySem.Spec PyProof.Rows PySem.W
section
variable {X:Cx} {pins:List (Addr×Obj)} {σ:St} {H:Hp} {s:Shared} {E:Value->Shared->Prop}
theorem ql3(I:Inv X pins σ H s){A:Around}(c:Bool){d e:D}{v z:V}{u w:Value}{Q:Bool->Shared->Prop}(hd:Rep X.K H d v)(he:Rep X.K H e z)(ru:RelV v u)(rw':RelV z w)(ho:ordD d e=true)(hu:A.units+depD d+1<cLine)(h:Q (ltD d e) s) :
  wpAny (model X.prog X.w) A (oneLt' c u w) Q E s:=by
 have L:=qm9 I _ A d e v z u w (Nat.le_refl _) hd he ru rw' ho (by lia)
 cases c with
|false=>exact kat_one u w (L X.prog X.w E (PySem.W.BoolBack Q) h)
|true =>
  cases d with
 |str a =>
   cases e with
  |str b =>
    unfold Rep at hd he
    subst hd he
    obtain⟨t1,rfl⟩:=ru
    obtain⟨t2,rfl⟩:=rw'
    unfold ltD at h
    exact oneLt_str h
  |_=>unfold ordD at ho;cases ho
 |tup ds =>
   cases e with
  |tup es =>
    unfold Rep at hd he
    obtain⟨a,xs,rfl,ha,r1⟩:=hd
    obtain⟨b,ys,rfl,hb,r2⟩:=he
    cases ru
    cases rw'
    unfold ordD at ho
    unfold ltD at h
    unfold depD at hu
    have C:=(qvb (A:=A) I ha.sq hb.sq r1 r2 ho (by lia) λd hd e v z u w h1 h2 h3 h4 h5=>qm9 I _ A.in1 d e v z u w (Nat.le_refl _) h1 h2 h3 h4 h5 (by have:=qce hd;have un:A.in1.units=A.units+1:=rfl;lia)).2
    obtain⟨its,_,pl,_⟩:=I.tuple ha.sq
    rw[oneLt'_eq]
    simp only[if_true]
    refine wpAny_bind (wpAny_cRoomFor (by lia) (wpAny_bind (wpAny_callSpecialIfBound?_slot pl.typeIs F.slot_tuple_lt (C X.prog X.w _ _ ?_))))
    exact wpAny_truthy_bool h
  |_=>unfold ordD at ho;cases ho
 |_=>unfold ordD at ho;cases ho
theorem qzo(I:Inv X pins σ H s){A:Around}{b z:Bool}{Q:Bool->Shared->Prop}:∀(ds es:List D) (xs ys:List V) (us ws:List Value) (i:Nat),Reps X.K H ds xs->Reps X.K H es ys->Vals xs us->Vals ys ws->qdp ds es=true->A.units+qb4 ds+1<cLine->decide (ds.length<es.length)=z->Q (ltDs ds es) s ->
  KatLex X.prog X.w A b z Q (us.zip ws) i s
|[],es,xs,ys,us,ws,i,r1,r2,v1,v2,ho,hu,hz,h=>by
  have e1:=r1.length
  have e2:=v1.length
  have:us=[]:=List.length_eq_zero_iff.mp (by rw[←e2,←e1];rfl)
  subst this
  rw[List.zip_nil_left]
  refine kat_nil ?_
  cases es with
 |nil=>unfold ltDs at h;rw[←hz];exact h
 |cons e es=>unfold ltDs at h;rw[←hz];simpa using h
|d::ds,[],xs,ys,us,ws,i,r1,r2,v1,v2,ho,hu,hz,h=>by
  have e1:=r2.length
  have e2:=v2.length
  have:ws=[]:=List.length_eq_zero_iff.mp (by rw[←e2,←e1];rfl)
  subst this
  rw[List.zip_nil_right]
  refine kat_nil ?_
  unfold ltDs at h
  rw[←hz]
  simpa using h
|d::ds,e::es,xs,ys,us,ws,i,r1,r2,v1,v2,ho,hu,hz,h=>by
  unfold Reps at r1 r2
  obtain⟨x,xs,rfl,rx,r1⟩:=r1
  obtain⟨y,ys,rfl,ry,r2⟩:=r2
  cases v1 with
 |cons ru v1 =>
  cases v2 with
 |cons rw' v2 =>
  rename_i u us w ws
  unfold qdp at ho
  rw[Bool.and_eq_true] at ho
  have hd1:depD d<=qb4 (d::ds):=qce (List.mem_cons_self ..)
  have hd2:qb4 ds<=qb4 (d::ds):=by show _<=max (depD d) (qb4 ds);lia
  show KatLex X.prog X.w A b z Q ((u,w)::us.zip ws) i s
  refine kat_cons (qfy I _ A d e x y u w (Nat.le_refl _) rx ry ru rw' (qq9 d e ho.1) (by lia) X.prog X.w _ _ ?_)
  unfold ltDs at h
  cases he:eqD d e with
 |true =>
   rw[he,if_pos rfl] at h
   refine kat_yes (qzo I ds es xs ys us ws (i+1) r1 r2 v1 v2 ho.2 (by lia) ?_ h)
   rw[←hz,List.length_cons,List.length_cons]
   exact decide_eq_decide.mpr (by lia)
 |false =>
   rw[he,if_neg (by decide)] at h
   exact kat_no (ql3 I _ rx ry ru rw' ho.1 (by lia) h)
theorem qwl(I:Inv X pins σ H s){A:Around}(κ:SortKind){ds es:List D}{v z:V}{u w:Value}{Q:Bool->Shared->Prop}(hd:Rep X.K H (.tup ds) v)(he:Rep X.K H (.tup es) z)(ru:RelV v u)(rw':RelV z w)(ho:qdp ds es=true)(hu:A.units+qb4 ds+2<cLine)(h:Q (ltDs ds es) s) :
  wpAny (model X.prog X.w) A (keyLt' κ u w) Q E s:=by
 have hl:ltD (.tup ds) (.tup es)=ltDs ds es:=by unfold ltD;rfl
 have ho':ordD (.tup ds) (.tup es)=true:=by unfold ordD;exact ho
 have hdp:depD (.tup ds)=qb4 ds+1:=by unfold depD;rfl
 have one:∀c,wpAny (model X.prog X.w) A (oneLt' c u w) Q E s:=λc=>ql3 I c hd he ru rw' ho' (by lia) (by rw[hl];exact h)
 cases κ with
|general=>exact one false
|oneType=>exact one true
|tuples b =>
  unfold Rep at hd he
  obtain⟨a,xs,rfl,ha,r1⟩:=hd
  obtain⟨c,ys,rfl,hb,r2⟩:=he
  cases ru
  cases rw'
  obtain⟨its,v1,p1,_⟩:=I.tuple ha.sq
  obtain⟨its2,v2,p2,_⟩:=I.tuple hb.sq
  obtain⟨o1,q1,_,n1,y1⟩:=id p1
  obtain⟨o2,q2,_,n2,y2⟩:=id p2
  refine kat_lt q1 y1 q2 y2 ?_
  refine qzo I ds es xs ys _ _ 0 r1 r2 v1 v2 ho (by lia) ?_ h
  rw[r1.length,r2.length,v1.length,v2.length]
  simp
end
end L2
namespace L2
open PySem PySem.Spec PyProof.Rows PySem.W
section
variable {M:Model} {A:Around} {E:Value->Shared->Prop} {s:Shared}
theorem qim{α β:Type}{f:α->Sem β}{P:β->Prop}:∀(l:List α) {Q:List β->Shared->Prop},(∀v∈l,∀(Q':β->Shared->Prop),(∀r,P r->Q' r s)->wpAny M A (f v) Q' E s)->(∀rs,(∀r∈rs,P r)->Q rs s)->wpAny M A (l.mapM f) Q E s
|[],_,_,h=>by rw[List.mapM_nil];exact wpAny_pure (h [] (by simp))
|x::l,Q,hf,h=>by
  rw[List.mapM_cons]
  refine wpAny_bind (hf x (List.mem_cons_self ..) _ λr hr=>wpAny_bind (qim l (λv hv=>hf v (List.mem_cons_of_mem _ hv)) λrs hrs=>wpAny_pure (h _ λy hy=>?_)))
  rcases List.mem_cons.mp hy with rfl|hy
  ·exact hr
  ·exact hrs y hy
def TyOk(h:Heap)(u:Value):Prop:=∃T,∀M:Model,Looks M h (typeOf u) T
theorem qgw{vs:Array Value}{Q:Option Value->Shared->Prop}(ht:∀u∈vs.toList,TyOk s.heap u)(h:∀r,Q r s):wpAny M A (oneTypeOnly' vs) Q E s:=by
 rw[oneTypeOnly'_eq]
 obtain⟨vs⟩:=vs
 rw[List.mapM_toArray,map_eq_pure_bind]
 refine wpAny_bind (wpAny_bind (qim (P:=λ_=>True) vs (λv hv Q' hq=>?_) λrs _=>wpAny_pure ?_))
 ·obtain⟨T,hT⟩:=ht v hv
  exact(hT M).here (hq T trivial)
 ·cases rs.toArray[0]? with
 |none=>exact wpAny_pure (h _)
 |some t=>exact wpAny_pure (h _)
theorem kind_any{vs:List Value}{Q:SortKind->Shared->Prop}(ht:∀v∈vs,∃(a:Addr) (o:Obj) (us:Array Value) (n:Nat),v=.ref a/\s.heap.get? a=some o/\o.cls=.type "tuple" /\ o.data=.seq us n/\∀f,us[0]?=some f->TyOk s.heap f)(h:∀κ,Q κ s):wpAny M A (keyKind' vs.toArray) Q E s:=by
 have tr:∀(a:Addr) (o:Obj),s.heap.get? a=some o->∀M:Model,Looks M s.heap (typeOf (.ref a)) o.cls:=λa o ho M=>(Looks.ld ho).andThen .now
 rw[keyKind'_eq,List.mapM_toArray,map_eq_pure_bind]
 refine wpAny_bind (wpAny_bind (qim (P:=λr=>∀f,r=some f->TyOk s.heap f) vs (λv hv Q' hq=>?_) λrs hrs=>wpAny_pure ?_))
 ·obtain⟨a,o,us,n,rfl,ho,hc,hd,hf⟩:=ht v hv
  rw[kas_first_eq]
  refine wpAny_bind ((tr a o ho M).here ?_)
  rw[hc,if_neg (by simp)]
  exact wpAny_bind (listItems_at ho hd (wpAny_pure (hq _ λf e=>hf f e)))
 ·split
  ·refine wpAny_bind (wpAny_rule (wpAny_bind (qgw (λu hu=>?_) λr=>wpAny_pure (h _))))
   have hu':u∈rs.filterMap id:=by simpa using hu
   obtain⟨r,hr,e⟩:=List.mem_filterMap.mp hu'
   exact hrs r hr u e
  ·split
   ·exact wpAny_pure (h _)
   ·refine wpAny_bind (qgw (λu hu=>?_) λr=>?_)
    ·obtain⟨a,o,us,n,rfl,ho,_⟩:=ht u hu
     exact⟨o.cls,tr a o ho⟩
    ·split<;>exact wpAny_pure (h _)
end
section
variable {K:PySem.W.Frag} {H:Hp}
theorem Reps.pick{ds:List D}{xs:List V}(r:Reps K H ds xs):∀l:List Nat,(∀i∈l,i<ds.length)->Reps K H (l.map λi=>ds.getD i .non) (l.map λi=>xs.getD i .non)
|[],_=>.nil
|i::l,h=>by
  have hi:=h i (List.mem_cons_self ..)
  obtain⟨x,hx,rx⟩:=r.at (List.getElem?_eq_getElem hi)
  refine .cons ?_ (r.pick l λj hj=>h j (List.mem_cons_of_mem _ hj))
  have e1:ds.getD i .non=ds[i]:=by simp[List.getD_eq_getElem?_getD,hi]
  have e2:xs.getD i .non=x:=by simp[List.getD_eq_getElem?_getD,hx]
  show Rep K H (ds.getD i .non) (xs.getD i .non)
  rw[e1,e2]
  exact rx
theorem Vals.pick{xs:List V}{us:List Value}(r:Vals xs us):∀l:List Nat,(∀i∈l,i<xs.length)->Vals (l.map λi=>xs.getD i .non) (l.map λi=>us.getD i Value.none)
|[],_=>.nil
|i::l,h=>by
  have hi:=h i (List.mem_cons_self ..)
  obtain⟨u,hu,ru⟩:=r.get (List.getElem?_eq_getElem hi)
  refine .cons ?_ (Vals.pick r l λj hj=>h j (List.mem_cons_of_mem _ hj))
  have e1:xs.getD i .non=xs[i]:=by simp[List.getD_eq_getElem?_getD,hi]
  have e2:us.getD i Value.none=u:=by simp[List.getD_eq_getElem?_getD,hu]
  show RelV (xs.getD i .non) (us.getD i Value.none)
  rw[e1,e2]
  exact ru
end
def qzk:D->Bool
|.str _=>true
|.tup _=>true
|_=>false
structure SortD(ds:List D):Prop where
 tup:(∀d∈ds,∃es,d=.tup es/\qb4 es<=20/\∀x,es[0]?=some x->qzk x=true)\/∀d∈ds,∃z,d=.str z
 ord:∀d∈ds,∀e∈ds,ordD d e=true
 tr:∀a∈ds,∀b∈ds,∀c∈ds,ltD a b=true->ltD b c=true->ltD a c=true
 as:∀a∈ds,∀b∈ds,ltD a b=true->ltD b a=false
 tot:∀a∈ds,∀b∈ds,a≠b->ltD a b=true\/ltD b a=true
 nd:ds.Nodup
theorem getD_mem{ds:List D}{i:Nat}(h:i<ds.length):ds.getD i .non∈ds:=by
 have e1:ds.getD i .non=ds[i]:=by simp[List.getD_eq_getElem?_getD,h]
 rw[e1]
 exact List.getElem_mem h
theorem SortD.ltOk{ds:List D}(S:SortD ds):LtOk ds.length λi j=>ltD (ds.getD i .non) (ds.getD j .non) where
 tr:=λa b c ha hb hc=>S.tr _ (getD_mem ha) _ (getD_mem hb) _ (getD_mem hc)
 as:=λa b ha hb=>S.as _ (getD_mem ha) _ (getD_mem hb)
 tot:=λa b ha hb ne=>S.tot _ (getD_mem ha) _ (getD_mem hb) λe=>ne (by
  have e1:ds.getD a .non=ds[a]:=by simp[List.getD_eq_getElem?_getD,ha]
  have e2:ds.getD b .non=ds[b]:=by simp[List.getD_eq_getElem?_getD,hb]
  rw[e1,e2] at e
  exact(List.getElem_inj S.nd).mp e)
end L2
namespace L2
open PySem PySem.Spec PyProof.Rows PySem.W
theorem range_getD(vs:List Value):((List.range vs.length).map λi=>vs.getD i Value.none)=vs:=by
 apply List.ext_getElem
 ·simp
 ·intro i h1 h2
  simp[List.getD_eq_getElem?_getD,h2]
section
variable {X:Cx} {pins:List (Addr×Obj)} {σ:St} {H:Hp} {s:Shared} {E:Value->Shared->Prop}
theorem q2r(I:Inv X pins σ H s){A:Around}{ds:List D}{xs:List V}{vs:List Value}(r:Reps X.K H ds xs)(v:Vals xs vs)(S:SortD ds)(h2:2<=vs.length)(h64:vs.length<64)(hu:A.units+30<cLine)(κ:SortKind)(hκ:(∀d∈ds,∃z,d=.str z)->2<=ds.length->κ=oneType'){Q:SortSt->Shared->Prop}
  (h:∀(st:SortSt) (q:Array Nat),q.Perm (List.range ds.length).toArray->SPr (λi j=>ltD (ds.getD i .non) (ds.getD j .non)) q ds.length->(arrOf st).map (·.2)=List.toArray (q.toList.map λi=>vs.getD i Value.none)->failedOf st=none->Q st s) :
  wpAny (model X.prog X.w) A ((sortRuns').run (SortSt.mk' κ (vs.toArray.zip vs.toArray) #[] 7 none)) (λr s'=>Q r.2 s') E s:=by
 have hl:ds.length=vs.length:=r.length.trans v.length
 obtain⟨ok,q,hq,hp,hs⟩:=qyg S.ltOk (by lia)
 refine kat_run (ks:=vs) (vs:=vs) (G:=λp s'=>p=q/\s'=s) rfl h2 h64 (λp st s' hz ha hf hg=>?_) ?_
 ·obtain⟨rfl,rfl⟩:=hg
  exact h st p hp hs (kat_snds rfl ha) hf
 ·rw[←hl]
  refine qqm (n:=ds.length) (lt:=λi j=>ltD (ds.getD i .non) (ds.getD j .non)) (P:=λs'=>s'=s) (λi j C s' hi hj hs' hC=>?_) _ s ok rfl λs' hs'=>⟨hq,hs'⟩
  subst hs'
  obtain⟨x,hx,rx⟩:=r.at (List.getElem?_eq_getElem hi)
  obtain⟨y,hy,ry⟩:=r.at (List.getElem?_eq_getElem hj)
  obtain⟨u,eu,ru⟩:=v.get hx
  obtain⟨w,ew,rw'⟩:=v.get hy
  have e1:ds.getD i .non=ds[i]:=by simp[List.getD_eq_getElem?_getD,hi]
  have e2:ds.getD j .non=ds[j]:=by simp[List.getD_eq_getElem?_getD,hj]
  have e3:vs.getD i Value.none=u:=by simp[List.getD_eq_getElem?_getD,eu]
  have e4:vs.getD j Value.none=w:=by simp[List.getD_eq_getElem?_getD,ew]
  have m1:ds[i]∈ds:=List.getElem_mem hi
  have m2:ds[j]∈ds:=List.getElem_mem hj
  have ho:=S.ord _ m1 _ m2
  have hC':=hC s' rfl
  rw[e1,e2] at hC'
  show wpAny (model X.prog X.w) A (keyLt' κ (vs.getD i Value.none) (vs.getD j Value.none)) C (λ_ _=>False) s'
  rw[e3,e4]
  rcases S.tup with T|T
  ·obtain⟨es,ee,he,_⟩:=T _ m1
   obtain⟨fs,ef,_,_⟩:=T _ m2
   rw[ee,ef] at hC'
   rw[ee,ef] at ho
   rw[ee] at rx
   rw[ef] at ry
   have hlt:ltD (.tup es) (.tup fs)=ltDs es fs:=by unfold ltD;rfl
   have hoo:qdp es fs=true:=by unfold ordD at ho;exact ho
   rw[hlt] at hC'
   exact qwl I κ rx ry ru rw' hoo (by lia) hC'
  ·rw[hκ T (by lia),keyLt'_oneType]
   exact ql3 I true rx ry ru rw' ho (by obtain⟨z,ez⟩:=T _ m1;rw[ez];unfold depD;lia) hC'
theorem qqy{A:Around}{a:Addr}{n:Nat}{ds:List D}{xs:List V}{vs:List Value}{P:Fin->Shared->Prop}(ho:s.heap.get? a=some (seqObj "list" vs.toArray n))
  (I:∀h',(∀b o,b≠a->s.heap.get? b=some o->h'.get? b=some o)->Inv X pins σ H { s with heap:=h' }) (r:Reps X.K H ds xs) (v:Vals xs vs) (S:SortD ds) (h64:vs.length<64) (hu:A.units+30<cLine)
  (h:∀(q:List Nat) (h':Heap) (m:Nat),q.Perm (List.range ds.length)->q.Pairwise (λi j=>ltD (ds.getD i .non) (ds.getD j .non)=true)->(∀b o,b≠a->s.heap.get? b=some o->h'.get? b=some o)->h'.get? a=some (seqObj "list" (q.map λi=>vs.getD i Value.none).toArray m) ->
   P (.done (.ret .none)) { s with heap:=h' }):wpAny (model X.prog X.w) A (Builtin.«list.sort» ⟨[.ref a],[]⟩) P E s:=by
 have hl:ds.length=vs.length:=r.length.trans v.length
 have small:∀k,k<64->k<=sizeLine:=λk hk=>Nat.le_trans (Nat.le_of_lt hk) (by decide)
 rw[list_sort_plain]
 have ha:a<s.heap.objs.size:=Heap.lt_size ho
 have hz:vs.toArray.size<=sizeLine:=by rw[List.size_toArray];exact small _ h64
 refine wpAny_bind (listItems_at ho rfl (wpAny_bind (listUpdate_at ho rfl ?_ hz (Nat.zero_le _))))
 generalize e1:s.heap.update a (Obj.mapSeq λ_=>#[])=h1
 obtain⟨m1,ho1⟩:∃m1,h1.get? a=some (seqObj "list" #[] m1):=⟨_,by rw[←e1];exact get?_update_seq ho (λ_=>#[])⟩
 have k1:∀b o,b≠a->s.heap.get? b=some o->h1.get? b=some o:=λb o hb hq=>by
  rw[←e1,Heap.get?_update_ne _ _ _ _ hb]
  exact hq
 refine wpAny_bind (seqEpoch_at (s:={ s with heap:=h1 }) ho1 rfl (wpAny_bind (wpAny_newTuple ?_ (small _ h64))))
 generalize e2:h1.push { cls:=.type "tuple",data:=.seq vs.toArray }=h2
 have k2:∀b o,h1.get? b=some o->h2.get? b=some o:=λb o hq=>by rw[←e2];exact Heap.get?_push_of_some _ hq
 refine wpAny_bind (wpAny_newList ?_ (Nat.zero_le _))
 generalize e3:Heap.push _ _=h3
 have k3:∀b o,h2.get? b=some o->h3.get? b=some o:=λb o hq=>by rw[←e3];exact Heap.get?_push_of_some _ hq
 have ho3:h3.get? a=some (seqObj "list" #[] m1):=k3 _ _ (k2 _ _ ho1)
 have kk:∀b o,b≠a->s.heap.get? b=some o->h3.get? b=some o:=λb o hb hq=>k3 _ _ (k2 _ _ (k1 b o hb hq))
 have I3:Inv X pins σ H { s with heap:=h3 }:=I h3 kk
 refine wpAny_holding ?_
 show wpAny (model X.prog X.w) A _ P E { s with heap:=h3 }
 have fin:∀(q:List Nat) (out:Array Value),q.Perm (List.range ds.length)->q.Pairwise (λi j=>ltD (ds.getD i .non) (ds.getD j .non)=true)->out=(q.map λi=>vs.getD i Value.none).toArray ->
   P (.done (.ret .none)) { s with heap:=h3.update a (Obj.mapSeq λ_=>out) }:=λq out hq hp e=>by
  subst e
  refine h q _ _ hq hp (λb o hb hs=>?_) (get?_update_seq ho3 (λ_=>_))
  rw[Heap.get?_update_ne _ _ _ _ hb]
  exact kk b o hb hs
 dsimp only
 by_cases h2':vs.toArray.size<2
 ·rw[if_pos h2']
  refine wpAny_bind (wpAny_pure ?_)
  rw[if_pos h2',StateT.run_pure]
  refine wpAny_bind (wpAny_pure ?_)
  dsimp only
  refine wpAny_bind (seqEpoch_at (s:={ s with heap:=h3 }) ho3 rfl (wpAny_bind (listUpdate_at (s:={ s with heap:=h3 }) ho3 rfl ?_ (Nat.zero_le _) ?_)))
  ·simp only[bne_self_eq_false,Bool.false_eq_true,if_false]
   refine wpAny_pure (fin (List.range ds.length) _ (List.Perm.refl _) ?_ ?_)
   ·rw[List.size_toArray] at h2'
    rw[List.pairwise_iff_getElem]
    intro i j hi hj hij
    simp at hi hj
    lia
   ·apply Array.toList_inj.mp
    show (Array.map (λx:Value×Value=>x.2) (vs.toArray.zip vs.toArray)).toList=_
    rw[hl,range_getD]
    simp only[Array.toList_map,Array.toList_zip]
    exact List.map_snd_zip (Nat.le_refl _)
  ·show (Array.map (λx:Value×Value=>x.2) (vs.toArray.zip vs.toArray)).size<=_
   simp
   have:=small _ h64
   lia
 ·rw[if_neg h2']
  have h2v:2<=vs.length:=by rw[List.size_toArray] at h2';lia
  have kind:∀Q:SortKind->Shared->Prop,(∀κ,((∀d∈ds,∃z,d=.str z)->2<=ds.length->κ=oneType')->Q κ { s with heap:=h3 })->wpAny (model X.prog X.w) A (keyKind' vs.toArray) Q E { s with heap:=h3 }:=λQ hQ=>by
   rcases S.tup with T|T
   case inr =>
    refine kas_kind (T:=.type "str") (s:={ s with heap:=h3 }) h2v (λu hu=>?_) (by decide) (by decide) (hQ _ λ_ _=>rfl)
    obtain⟨i,hi,rfl⟩:=List.mem_iff_getElem.mp hu
    have hi2:i<ds.length:=by lia
    obtain⟨x,hx,rx⟩:=r.at (List.getElem?_eq_getElem hi2)
    obtain⟨u',eu,ru⟩:=v.get hx
    rw[List.getElem?_eq_getElem hi] at eu
    cases eu
    obtain⟨z,ez⟩:=T _ (List.getElem_mem hi2)
    rw[ez] at rx
    unfold Rep at rx
    subst rx
    obtain⟨t,et⟩:=ru
    rw[et]
    exact .now
   refine kind_any (s:={ s with heap:=h3 }) (λu hu=>?_) λκ=>hQ κ λhstr hlen=>?b
   case b =>
    have m0:ds[0]'(by lia)∈ds:=List.getElem_mem _
    obtain⟨es,ee,_⟩:=T _ m0
    obtain⟨z,ez⟩:=hstr _ m0
    rw[ee] at ez
    cases ez
   obtain⟨i,hi,rfl⟩:=List.mem_iff_getElem.mp hu
   have hi2:i<ds.length:=by lia
   obtain⟨x,hx,rx⟩:=r.at (List.getElem?_eq_getElem hi2)
   obtain⟨u',eu,ru⟩:=v.get hx
   rw[List.getElem?_eq_getElem hi] at eu
   cases eu
   obtain⟨es,ee,he,hk⟩:=T _ (List.getElem_mem hi2)
   rw[ee] at rx
   unfold Rep at rx
   obtain⟨b,ys,rfl,hb,r1⟩:=rx
   obtain⟨its,v1,p1,_⟩:=I3.tuple hb.sq
   obtain⟨o1,q1,c1,n1,y1⟩:=id p1
   refine⟨b,o1,its.toArray,n1,ru,q1,c1,y1,λf hf=>?_⟩
   have hf':its[0]?=some f:=by simpa using hf
   have h0:0<es.length:=by
    rw[r1.length,v1.length]
    exact(List.getElem?_eq_some_iff.mp hf').1
   obtain⟨y,hy,ry⟩:=r1.at (List.getElem?_eq_getElem h0)
   obtain⟨f',ef,rf⟩:=v1.get hy
   rw[hf'] at ef
   cases ef
   have hkey:=hk _ (List.getElem?_eq_getElem h0)
   generalize es[0]=d0 at hkey ry
   cases d0 with
  |str z =>
    unfold Rep at ry
    subst ry
    obtain⟨t,rfl⟩:=rf
    exact⟨.type "str",λM=>.now⟩
  |tup gs =>
    unfold Rep at ry
    obtain⟨c,zs,rfl,hc,_⟩:=ry
    cases rf
    obtain⟨its3,_,p3,_⟩:=I3.tuple hc.sq
    obtain⟨o3,q3,_⟩:=id p3
    exact⟨o3.cls,λM=>(Looks.ld q3).andThen .now⟩
  |_=>cases hkey
  refine wpAny_bind (kind _ λκ hκ=>?_)
  ·rw[if_neg h2']
   refine wpAny_bind (wpAny_mono (q2r I3 r v S h2v h64 hu κ hκ (Q:=λst s'=>s'={ s with heap:=h3 }/\∃q:Array Nat,q.Perm (List.range ds.length).toArray/\SPr (λi j=>ltD (ds.getD i .non) (ds.getD j .non)) q ds.length/\(arrOf st).map (·.2)=List.toArray (q.toList.map λi=>vs.getD i Value.none)/\failedOf st=none)
    λst q a1 a2 a3 a4=>⟨rfl,q,a1,a2,a3,a4⟩) ?_ λ_ _ z=>z)
   rintro⟨⟨⟩,st⟩ s' ⟨rfl,q,a1,a2,a3,a4⟩
   have hql:q.toList.length=ds.length:=by
    have:=a1.size_eq
    simpa using this
   dsimp only
   refine wpAny_bind (seqEpoch_at (s:={ s with heap:=h3 }) ho3 rfl (wpAny_bind (listUpdate_at (s:={ s with heap:=h3 }) ho3 rfl ?_ (Nat.zero_le _) ?_)))
   ·rw[a4]
    simp only[bne_self_eq_false,Bool.false_eq_true,if_false]
    refine wpAny_pure (fin q.toList _ ?_ ?_ a3)
    ·have:=a1.toList
     simpa using this
    ·rw[List.pairwise_iff_getElem]
     intro i j hi hj hij
     have:=a2 i j hij (by lia)
     have g1:q.getD i 0=q.toList[i]:=by rw[qcm];simp[Array.getElem?_eq_getElem (show i<q.size by simpa using hi)]
     have g2:q.getD j 0=q.toList[j]:=by rw[qcm];simp[Array.getElem?_eq_getElem (show j<q.size by simpa using hj)]
     rw[g1,g2] at this
     exact this
   ·show ((arrOf st).map (·.2)).size<=_
    rw[a3]
    simp
    have:=small _ h64
    have:q.size=ds.length:=by simpa using hql
    lia
theorem qla(hu:X.A.units+60<cLine):CallR X (.builtin "sorted") (λxs H Q=>∃p ys ds,xs=[.ref p]/\SqL X.K H p ys/\Reps X.K H ds ys/\SortD ds/\ds.length<64/\∀l (q:List Nat),H l=none->q.Perm (List.range ds.length)->q.Pairwise (λi j=>ltD (ds.getD i .non) (ds.getD j .non)=true)->Q (.ref l) (upd H l (.lst (q.map λi=>ys.getD i .non)))):=by
 intro pins s σ H xs us Q I rx h
 obtain⟨p,ys,ds,rfl,hp,r,S,h64,hq⟩:=h
 obtain⟨u,rfl,ru⟩:=vals1 rx
 cases ru
 obtain⟨its,v,pl,hz⟩:=I.list hp
 have hl:ds.length=its.length:=r.length.trans v.length
 refine Calls.call_function_entry kind_sorted plain_sorted entry_sorted (args_sorted1 _) ?_
 unfold Builtin.«sorted»
 refine wpAny_bind (m:=checkCount "sorted" 1 1 _) (wpAny_pure ?_)
 have hz':its.length<=sizeLine:=by rw[←v.length];exact hz
 refine wpAny_bind (collect_list pl.isList (wpAny_bind (wpAny_newList ?_ hz')) hz')
 generalize e1:(s.heap.push (seqObj "list" #[] 0)).update s.heap.objs.size _=h1
 have n1:h1.objs.size=s.heap.objs.size+1:=by rw[←e1,Heap.size_update,size_push']
 have k1:∀b o,s.heap.get? b=some o->h1.get? b=some o:=λb o q=>by
  have lt:b<s.heap.objs.size:=Heap.lt_size q
  rw[←e1,Heap.get?_update_ne _ _ _ _ (Nat.ne_of_lt lt)]
  exact Heap.get?_push_of_some _ q
 generalize e2:Heap.push _ _=h2
 have hD:h2.get? h1.objs.size=some (seqObj "list" its.toArray 0):=by rw[←e2];exact Heap.get?_push_size _ rfl
 have k2:∀b o,s.heap.get? b=some o->h2.get? b=some o:=λb o q=>by rw[←e2];exact Heap.get?_push_of_some _ (k1 b o q)
 have un:X.A.in1.units=X.A.units+1:=rfl
 have un2:X.A.in1.in1.units=X.A.units+2:=rfl
 show wpAny (model X.prog X.w) X.A.in1 (do let _ ←holding [Value.ref h1.objs.size] (call (.builtin "list.sort") [.ref h1.objs.size]);ret (.ref h1.objs.size)) _ X.xe { s with heap:=h2 }
 refine wpAny_bind (wpAny_holding (wpAny_call_entry (s:={ s with heap:=h2 }) slot_list_sort ⟨_,hD,rfl⟩ entry_list_sort ?_ (args_list_sort _)))
 refine qqy (s:={ s with heap:=h2 }) (H:=H) (σ:=σ) (pins:=pins) (X:=X) hD (λh' kp=>?_) r v S (by lia) (by lia) λq h' m hqp hqs kp he=>⟨_,rfl,?_⟩
 ·refine I.kept (t':=s.toks) λb o e=>?_
  refine kp b o (λz=>?_) (k2 b o e)
  have lt:b<s.heap.objs.size:=Heap.lt_size e
  rw[z,n1] at lt
  exact Nat.not_succ_le_self _ (Nat.le_of_lt lt)
 ·refine wpAny_pure ⟨_,rfl,.ref h1.objs.size,upd H h1.objs.size (.lst (q.map λi=>ys.getD i .non)),?_,rfl,hq _ q (I.hok.fresh (by lia)) hqp hqs⟩
  have hqm:∀i∈q,i<ys.length:=λi hi=>by
   have:=hqp.mem_iff.mp hi
   rw[←r.length]
   simpa using this
  refine I.laid (t':=s.toks) (λb o e=>?_) (by lia) ⟨?_,_,m,v.pick q hqm,he⟩
  ·refine kp b o (λz=>?_) (k2 b o e)
   have lt:b<s.heap.objs.size:=Heap.lt_size e
   rw[z,n1] at lt
   exact Nat.not_succ_le_self _ (Nat.le_of_lt lt)
  ·have:=hqp.length_eq
   rw[List.length_map,this,List.length_range]
   have:=r.length
   lia
end
end L2
namespace L2
open PySem PySem.Spec PyProof.Rows
section
variable {X:Cx} {EX:St->XK} {K:PySem.W.Frag} {B H H0:Hp} {e:Expr} {es:List Expr} {tA:TVA} {x y:Str} {p pos:Pos}
def qe0(rx:R)(Q:R->Prop):Prop:=match rx.d with
|.lst ds=>SortD ds/\ds.length<64/\∀ds',ds'.Perm ds->ds'.Pairwise (λa b=>ltD a b=true)->Q (.own (.lst ds'))
|_=>False
theorem qhd(hu64:X.A.units+64<cLine):VF X (.builtin "sorted") qe0:=by
 have hu:X.A.units+60<cLine:=by lia
 refine⟨_,qla hu,λB H x rx Q Qd s px h k=>?_⟩
 unfold qe0 at h
 split at h
 ·rename_i ds e1
  obtain⟨hS,hl,hq⟩:=h
  obtain⟨a,xs,rfl,h1,r1⟩:=px.lst s e1
  refine⟨a,xs,ds,rfl,SqL.of h1,r1.same s,hS,hl,λl q hn hp hs=>?_⟩
  have hm:∀i∈q,i<ds.length:=λi hi=>by simpa using hp.mem_iff.mp hi
  have hr:((List.range ds.length).map λi=>ds.getD i .non)=ds:=by
   apply List.ext_getElem
   ·simp
   ·intro i h1 h2
    simp[List.getD_eq_getElem?_getD,h2]
  refine k (.own (.lst (q.map λi=>ds.getD i .non))) _ B _ (.grow s (qau hn _)) ⟨l,rfl,hn,s.free hn,qbp (r1.pick q hm)⟩ (hq _ ?_ ?_)
  ·have:=hp.map λi=>ds.getD i .non
   rw[hr] at this
   exact this
  ·rw[List.pairwise_map]
   exact hs
 ·exact h.elim
def qt5(r:R)(Q:R->Prop):Prop:=match r with
|.val d=>match dV d with
 |some _=>Q (.val d)
 |none=>False
|_=>False
def qo1(g:DP)(i:Nat)(tA:TVA):TV:=λτ Q=>match τ[i]? with
|some (some (.own d))=>tA τ λa=>exA a (λ_=>False) λds=>g (d::ds) λr=>qt5 r Q
|_=>False
theorem qr1{k:Nat}{ps:List Str}{g:DP}{i:Nat}{p2:Pos}(C:Cal X.prog X.w X.K X.mg X.base k x ps (spOf X.K g))(hr:Room k X.A)(hg:Gl X x)(ha:VA X EX es tA)(hN:X.N[i]?=some y:=by rfl)(hv:Vis X.env.scope y:=by first|exact Or.inl rfl|exact Or.inr (Or.inl rfl)|exact Or.inr (Or.inr rfl))
  (hd:(y==("__debug__" : Str))=false:=by decide) (hcd:(y==("__classdict__" : Str))=false:=by decide) (hp:(Expr.Name y p2::es).all qa2=true:=by rfl) (hdb:(x==("__debug__" : Str))=false:=by decide) :
  VE X EX (.Call (.Name x p) (.Name y p2::es) [] pos) (qo1 g i tA) :=
 let ⟨_,a1,a2⟩:=ha.u;⟨_,qnm C hr hg (qac (qv i hN hv hd hcd) a1 rfl) hp hdb,λH0 B H τ σ Q Qd s S h xc kk=>by
  unfold qo1 at h
  split at h
  ·rename_i d e1
   obtain⟨ad,e2,_,hb,ow⟩:=S.own i d e1
   refine⟨.ref ad,e2,a2 H0 B H τ σ _ _ s S h (xno λ_ q=>q) λds vs B1 H1 p1 q1 h1=>?_⟩
   have ow1:OwnAt X.K B1 H1 d ad:=ow.step p1.b (p1.h.at ow.some)
   have hb1:B1 ad=none:=p1.keep hb ow.some ow.nt
   obtain⟨o,eo,rp⟩:=ow1.pub hb1
   refine⟨d::ds,upd B1 ad o,_,qg6 p1.s eo,?_,h1,λn C B' H' hq _ _=>?_,λr v B2 H2 hq p2 q2=>?_⟩
   ·rw[List.append_nil]
    exact .cons rp (q1.same (qau hb1 _))
   ·exact(show False from hq).elim
   ·unfold qt5 at hq
    split at hq
    ·rename_i d'
     split at hq
     ·rename_i z ez
      have:=(show Pk X.K B2 H2 (.val d') v from q2).scal ez
      subst this
      exact kk (.val d') _ B1 H2 (p1.trans (.grow p1.s p2.h)) (repV ez) hq
     ·exact hq.elim
    ·exact hq.elim
  ·exact h.elim⟩
end
def keyW(w:List Str):List (List Nat):=w.map (·.cps.toList)
theorem qm4:∀ {a b:List Str},keyW a=keyW b->a=b
|[],[],_=>rfl
|[],_::_,h=>by cases h
|_::_,[],h=>by cases h
|x::a,y::b,h=>by
  injection h with h1 h2
  rw[qma h1,qm4 h2]
theorem qna:∀a b:List Str,ltDs (a.map D.str) (b.map D.str)=decide (keyW a<keyW b)
|[],[]=>by unfold ltDs;simp[keyW]
|[],y::b=>by
  show ltDs [] (.str y::b.map D.str)=_
  unfold ltDs
  simp[keyW]
|x::a,[]=>by
  show ltDs (.str x::a.map D.str) []=_
  unfold ltDs
  simp[keyW]
|x::a,y::b=>by
  show ltDs (.str x::a.map D.str) (.str y::b.map D.str)=decide (x.cps.toList::keyW a<y.cps.toList::keyW b)
  unfold ltDs
  rw[qna a b]
  by_cases e:x=y
  ·subst e
   rw[if_pos (qcp _)]
   exact decide_eq_decide.mpr (by rw[List.cons_lt_cons_iff];simp[List.lt_irrefl])
  ·rw[if_neg (λz=>e (D.str.inj (quu z)))]
   unfold ltD
   refine decide_eq_decide.mpr ?_
   rw[List.cons_lt_cons_iff]
   constructor
   ·exact .inl
   ·rintro (z|⟨z,_⟩)
    ·exact z
    ·exact absurd (qma z) e
theorem qwn{a b c:List (List Nat)}(h1:a<b)(h2:b<c):a<c:=List.lt_trans h1 h2
theorem qwm{a b:List (List Nat)}(h1:a<b):¬ b<a:=λh2=>List.lt_irrefl a (List.lt_trans h1 h2)
theorem qs5(a b:List (List Nat))(h:a≠b):a<b\/b<a:=by
 by_cases h1:a<b
 ·exact .inl h1
 ·by_cases h2:b<a
  ·exact .inr h2
  ·exact absurd (List.le_antisymm (List.not_lt.mp h2) (List.not_lt.mp h1)) h
def ltW(a b:List Str):Bool:=decide (keyW a<keyW b)
theorem qdo(a b:List Str):ltD (wayD a) (wayD b)=ltW a b:=by
 show ltD (.tup (a.map D.str)) (.tup (b.map D.str))=_
 unfold ltD
 exact qna a b
theorem qu9{a b c:List Str}(h1:ltW a b=true)(h2:ltW b c=true):ltW a c=true:=decide_eq_true (qwn (of_decide_eq_true h1) (of_decide_eq_true h2))
theorem qgs{a b:List Str}(h1:ltW a b=true):ltW b a=false:=decide_eq_false (qwm (of_decide_eq_true h1))
theorem qq0{a b:List Str}(h:a≠b):ltW a b=true\/ltW b a=true:=(qs5 _ _ λe=>h (qm4 e)).imp decide_eq_true decide_eq_true
theorem qir:∀a b:List Str,qdp (a.map D.str) (b.map D.str)=true
|[],_=>by
  show qdp [] _=true
  unfold qdp
  rfl
|_::_,[]=>by
  show qdp (_::_) []=true
  unfold qdp
  rfl
|x::a,y::b=>by
  show qdp (.str x::a.map D.str) (.str y::b.map D.str)=true
  unfold qdp
  rw[qir a b]
  unfold ordD
  rfl
theorem qwb(a:List Str):qb4 (a.map D.str)=0:=by
 induction a with
|nil=>rfl
|cons x a ih =>
  show max (depD (.str x)) (qb4 (a.map D.str))=0
  rw[ih]
  rfl
theorem qn0{a b:List Str}(h:wayD a=wayD b):a=b:=by
 have h':a.map D.str=b.map D.str:=D.tup.inj h
 exact(qgt _ _).mp h'
theorem qfr{ws:List (List Str)}(nd:ws.Nodup):SortD (ws.map wayD) where
 tup:=.inl λd hd=>by
  obtain⟨w,_,rfl⟩:=List.mem_map.mp hd
  refine⟨w.map D.str,rfl,by rw[qwb];lia,λx hx=>?_⟩
  rw[List.getElem?_map] at hx
  obtain⟨z,_,rfl⟩:=Option.map_eq_some_iff.mp hx
  rfl
 ord:=λd hd e he=>by
  obtain⟨a,_,rfl⟩:=List.mem_map.mp hd
  obtain⟨b,_,rfl⟩:=List.mem_map.mp he
  show ordD (.tup _) (.tup _)=true
  unfold ordD
  exact qir a b
 tr:=λd hd e he f hf=>by
  obtain⟨a,_,rfl⟩:=List.mem_map.mp hd
  obtain⟨b,_,rfl⟩:=List.mem_map.mp he
  obtain⟨c,_,rfl⟩:=List.mem_map.mp hf
  rw[qdo,qdo,qdo]
  exact qu9
 as:=λd hd e he=>by
  obtain⟨a,_,rfl⟩:=List.mem_map.mp hd
  obtain⟨b,_,rfl⟩:=List.mem_map.mp he
  rw[qdo,qdo]
  exact qgs
 tot:=λd hd e he ne=>by
  obtain⟨a,_,rfl⟩:=List.mem_map.mp hd
  obtain⟨b,_,rfl⟩:=List.mem_map.mp he
  rw[qdo,qdo]
  exact qq0 λz=>ne (by rw[z])
 nd:=by
  rw[List.nodup_iff_pairwise_ne] at nd ⊢
  rw[List.pairwise_map]
  exact nd.imp λh z=>h (qn0 z)
def ltS(a b:Str):Bool:=decide (a.cps.toList<b.cps.toList)
theorem qd6(a b:Str):ltD (.str a) (.str b)=ltS a b:=by unfold ltD;rfl
theorem qu7{a b c:Str}(h1:ltS a b=true)(h2:ltS b c=true):ltS a c=true:=decide_eq_true (List.lt_trans (of_decide_eq_true h1) (of_decide_eq_true h2))
theorem qnb{a b:Str}(h1:ltS a b=true):ltS b a=false:=decide_eq_false λh2=>List.lt_irrefl _ (List.lt_trans (of_decide_eq_true h1) h2)
theorem qqz{a b:Str}(h:a≠b):ltS a b=true\/ltS b a=true:=by
 by_cases h1:a.cps.toList<b.cps.toList
 ·exact .inl (decide_eq_true h1)
 ·by_cases h2:b.cps.toList<a.cps.toList
  ·exact .inr (decide_eq_true h2)
  ·exact absurd (qma (List.le_antisymm (List.not_lt.mp h2) (List.not_lt.mp h1))) h
theorem qow{zs:List Str}(nd:zs.Nodup):SortD (zs.map D.str) where
 tup:=.inr λd hd=>by
  obtain⟨z,_,rfl⟩:=List.mem_map.mp hd
  exact⟨z,rfl⟩
 ord:=λd hd e he=>by
  obtain⟨a,_,rfl⟩:=List.mem_map.mp hd
  obtain⟨b,_,rfl⟩:=List.mem_map.mp he
  unfold ordD
  rfl
 tr:=λd hd e he f hf=>by
  obtain⟨a,_,rfl⟩:=List.mem_map.mp hd
  obtain⟨b,_,rfl⟩:=List.mem_map.mp he
  obtain⟨c,_,rfl⟩:=List.mem_map.mp hf
  rw[qd6,qd6,qd6]
  exact qu7
 as:=λd hd e he=>by
  obtain⟨a,_,rfl⟩:=List.mem_map.mp hd
  obtain⟨b,_,rfl⟩:=List.mem_map.mp he
  rw[qd6,qd6]
  exact qnb
 tot:=λd hd e he ne=>by
  obtain⟨a,_,rfl⟩:=List.mem_map.mp hd
  obtain⟨b,_,rfl⟩:=List.mem_map.mp he
  rw[qd6,qd6]
  exact qqz λz=>ne (by rw[z])
 nd:=by
  rw[List.nodup_iff_pairwise_ne] at nd ⊢
  rw[List.pairwise_map]
  exact nd.imp λh z=>h (D.str.inj z)
theorem qfs{α:Type}{lt:α->α->Bool}(as:∀a b,lt a b=true->lt b a=false):∀ {xs ys:List α},xs.Perm ys->xs.Pairwise (λa b=>lt a b=true)->ys.Pairwise (λa b=>lt a b=true)->xs=ys
|[],ys,hp,_,_=>(List.nil_perm.mp hp).symm▸rfl
|x::xs,[],hp,_,_=>by cases hp.length_eq
|x::xs,y::ys,hp,hx,hy=>by
  rw[List.pairwise_cons] at hx hy
  have e:x=y:=by
   have m1:x∈y::ys:=hp.mem_iff.mp (List.mem_cons_self ..)
   have m2:y∈x::xs:=hp.mem_iff.mpr (List.mem_cons_self ..)
   rcases List.mem_cons.mp m1 with z|z
   ·exact z
   rcases List.mem_cons.mp m2 with w|w
   ·exact w.symm
   have l1:=hx.1 y w
   have l2:=hy.1 x z
   rw[as _ _ l1] at l2
   cases l2
  subst e
  rw[qfs as (List.perm_cons x |>.mp hp) hx.2 hy.2]
end L2
namespace L2
open PySem PySem.Spec PyProof.Rows
section
variable {X:Cx} {pos:Pos} {k v:Expr} {tk tv:TE}
end
section
variable {X:Cx} {EX:St->XK} {pos:Pos} {k v:Expr} {tk tv:TV}
end
end L2
namespace L2
open PySem PySem.Spec PyProof.Rows
theorem Room.dict{k:Nat}{A:Around}(r:Room k A):A.units+64<cLine:=by
 have:=r.un
 lia
end L2
namespace L2
open PySem PySem.Spec PyProof.Rows
section
variable {X:Cx} {EX:St->XK} {a:Expr} {ta:TV} {p pos:Pos}
end
end L2
namespace L2
open PySem PySem.Spec PyProof.Rows
theorem eqW(a b:List Str):eqD (.tup (a.map D.str)) (.tup (b.map D.str))=decide (a=b):=qcd (by
  rw[eqD_iff,decide_eq_true_eq]
  exact⟨λz=>qn0 z,λz=>by rw[z]⟩)
theorem cmpW(a b:List Str):cmpD (.tup (a.map D.str)) (.tup (b.map D.str))=true:=by
 unfold cmpD
 exact qmp _ _
theorem depW(a:List Str):depD (.tup (a.map D.str))<=50:=by
 unfold depD
 rw[qic]
 decide
def unW:D->List Str
|.tup es=>(strsOf es).getD []
|_=>[]
theorem qmd(w:List Str):unW (wayD w)=w:=by
 show (strsOf (w.map D.str)).getD []=w
 rw[qh2]
 rfl
theorem qhf{ds:List D}{ws:List (List Str)}(hp:ds.Perm (ws.map wayD))(hs:ds.Pairwise (λa b=>ltD a b=true)):∃vs:List (List Str),ds=vs.map wayD/\vs.Perm ws/\vs.Pairwise (λa b=>ltW a b=true):=by
 have e:ds=(ds.map unW).map wayD:=by
  rw[List.map_map]
  refine(List.map_id _).symm.trans (List.map_congr_left λd hd=>?_)
  obtain⟨w,_,rfl⟩:=List.mem_map.mp (hp.mem_iff.mp hd)
  show wayD w=wayD (unW (wayD w))
  rw[qmd]
 refine⟨ds.map unW,e,?_,?_⟩
 ·have:=hp.map unW
  rw[List.map_map] at this
  exact this.trans (List.Perm.of_eq ((List.map_congr_left λw _=>qmd w).trans (List.map_id _)))
 ·rw[e,List.pairwise_map] at hs
  exact hs.imp λh=>by rw[←qdo];exact h
abbrev Row:=List Str×Str×Str
def rowD(r:Row):D:=.tup [wayD r.1,.str r.2.1,.str r.2.2]
def unR:D->Row
|.tup [w,.str m,.str t]=>(unW w,m,t)
|_=>([],"","")
theorem qry(r:Row):unR (rowD r)=r:=by
 show (unW (wayD r.1),r.2.1,r.2.2)=r
 rw[qmd]
theorem cmpR(a b:Row):cmpD (rowD a) (rowD b)=true:=by
 show cmpD (.tup [.tup (a.1.map D.str),.str a.2.1,.str a.2.2]) (.tup [.tup (b.1.map D.str),.str b.2.1,.str b.2.2])=true
 have h:=cmpW a.1 b.1
 unfold cmpD at h ⊢
 simp only[qci,cmpD,h,qpq,Bool.and_self,Bool.true_and]
theorem qv9(a:Row):depD (rowD a)=1+0\/depD (rowD a)<=20:=by
 right
 show depD (.tup [.tup (a.1.map D.str),.str a.2.1,.str a.2.2])<=20
 unfold depD
 simp only[qb4,depD,qic]
 decide
theorem depR(a:Row):depD (rowD a)<=20:=by
 rcases qv9 a with h|h
 ·lia
 ·exact h
theorem qkb{rs:List Row}(nd:(rs.map (·.1)).Nodup){a b:Row}(ha:a∈rs)(hb:b∈rs)(h:a.1=b.1):a=b:=by
 induction rs with
|nil=>cases ha
|cons r rs ih =>
  rw[List.map_cons,List.nodup_cons] at nd
  rcases List.mem_cons.mp ha with ea|ha2
  ·rcases List.mem_cons.mp hb with eb|hb2
   ·rw[ea,eb]
   ·exact absurd (show r.1∈rs.map (·.1) from List.mem_map.mpr ⟨b,hb2,by rw[←h,ea]⟩) nd.1
  ·rcases List.mem_cons.mp hb with eb|hb2
   ·exact absurd (show r.1∈rs.map (·.1) from List.mem_map.mpr ⟨a,ha2,by rw[h,eb]⟩) nd.1
   ·exact ih nd.2 ha2 hb2
abbrev qat(rs:List Row):Prop:=rs.Pairwise (λa b=>ltW a.1 b.1=true)
theorem qak{rs:List Row}(h:qat rs):(rs.map (·.1)).Nodup:=by
 rw[List.nodup_iff_pairwise_ne,List.pairwise_map]
 exact h.imp λ{a b} q z=>by
  rw[z] at q
  have:=qgs q
  rw[q] at this
  cases this
theorem qg1{rs ts:List Row}(hp:rs.Perm ts)(h1:qat rs)(h2:qat ts):rs=ts:=qfs (lt:=λa b:Row=>ltW a.1 b.1) (λ_ _=>qgs) hp h1 h2
def qae(rs:List Row):D:=.lst (rs.map rowD)
theorem qy1:∀rs ts:List Row,qci (rs.map rowD) (ts.map rowD)=true
|[],_=>by cases ‹List Row›<;>rfl
|_::_,[]=>rfl
|a::rs,b::ts=>by
  show qci (rowD a::rs.map rowD) (rowD b::ts.map rowD)=true
  unfold qci
  rw[cmpR,qy1 rs ts]
  rfl
theorem qjr(rs ts:List Row):cmpD (qae rs) (qae ts)=true:=by
 show cmpD (.lst _) (.lst _)=true
 unfold cmpD
 exact qy1 rs ts
theorem qy5:∀rs:List Row,qb4 (rs.map rowD)<=20
|[]=>by
  show qb4 []<=20
  unfold qb4
  lia
|a::rs=>by
  show qb4 (rowD a::rs.map rowD)<=20
  unfold qb4
  have:=depR a
  have:=qy5 rs
  lia
theorem qju(rs:List Row):depD (qae rs)<=21:=by
 show depD (.lst _)<=21
 unfold depD
 have:=qy5 rs
 lia
theorem qt4{rs ts:List Row}(h:rs.map rowD=ts.map rowD):rs=ts:=by
 have:=congrArg (List.map unR) h
 rw[List.map_map,List.map_map] at this
 exact((List.map_id _).symm.trans (List.map_congr_left λr _=>(qry r).symm)).trans (this.trans ((List.map_congr_left λr _=>qry r).trans (List.map_id _)))
theorem eqRL(rs ts:List Row):eqD (qae rs) (qae ts)=decide (rs=ts):=qcd (by
  rw[eqD_iff,decide_eq_true_eq]
  exact⟨λz=>qt4 (D.lst.inj z),λz=>by rw[z]⟩)
section
variable {X:Cx} {pins:List (Addr×Obj)} {σ:St} {H:Hp} {s:Shared}
theorem q03{A:Around}(I:Inv X pins σ H s){a b:Addr}{ds es:List D}{xs ys:List V}(ha:SqT X.K H a xs)(hb:SqT X.K H b ys)(r1:Reps X.K H ds xs)(r2:Reps X.K H es ys)(hc:qci ds es=true)(hu:A.units<cLine)
  (ih:∀d∈ds,∀(e:D) (v z:V) (u w:Value),Rep X.K H d v->Rep X.K H e z->RelV v u->RelV z w->cmpD d e=true->SeqAt.EqAt A.in1 s u w (eqD d e)):SeqAt.RcNeAt A s (.ref a) (.ref b) (!eqD (.tup ds) (.tup es)):=by
 obtain⟨its,v1,p1,_⟩:=I.tuple ha
 obtain⟨its2,v2,p2,_⟩:=I.tuple hb
 have:=SeqAt.RcNeAt.tuples (A:=A) (s:=s) (e:=λj=>eqD (ds.getD j .non) (es.getD j .non)) (show s.heap.IsTuple a its.toArray from p1) (show s.heap.IsTuple b its2.toArray from p2) hu (qgl r1 r2 v1 v2 hc ih)
 rw[List.size_toArray,List.size_toArray,←v1.length,←v2.length,←r1.length,←r2.length,qej] at this
 rw[qp3]
 exact this
theorem q02{A:Around}(I:Inv X pins σ H s){a b:Addr}{ds es:List D}{xs ys:List V}(ha:H a=some (.lst xs))(hb:H b=some (.lst ys))(r1:Reps X.K H ds xs)(r2:Reps X.K H es ys)(hc:qci ds es=true)(hu:A.units<cLine)
  (ih:∀d∈ds,∀(e:D) (v z:V) (u w:Value),Rep X.K H d v->Rep X.K H e z->RelV v u->RelV z w->cmpD d e=true->SeqAt.EqAt A.in1 s u w (eqD d e)):SeqAt.RcNeAt A s (.ref a) (.ref b) (!eqD (.lst ds) (.lst es)):=by
 obtain⟨its,v1,p1,_⟩:=I.list (SqL.of ha)
 obtain⟨its2,v2,p2,_⟩:=I.list (SqL.of hb)
 have er:=qej ds es
 rw[qp2]
 by_cases hl:ds.length=es.length
 ·have hz:its.toArray.size=its2.toArray.size:=by rw[List.size_toArray,List.size_toArray,←v1.length,←v2.length,←r1.length,←r2.length,hl]
  have:=SeqAt.RcNeAt.lists (A:=A) (s:=s) (e:=λj=>eqD (ds.getD j .non) (es.getD j .non)) p1.isList p2.isList hz hu (qgl r1 r2 v1 v2 hc ih)
  rw[List.size_toArray,←v1.length,←r1.length] at this
  rw[←hl,Nat.min_self] at er
  have e2:(ds.length==ds.length)=true:=by simp
  rw[e2,Bool.and_true] at er
  rw[er] at this
  exact this
 ·have e2:(ds.length==es.length)=false:=by simpa using hl
  rw[e2,Bool.and_false] at er
  rw[←er]
  refine SeqAt.RcNeAt.lists_lengths p1.isList p2.isList ?_ hu
  rw[List.size_toArray,List.size_toArray,←v1.length,←v2.length,←r1.length,←r2.length]
  simpa using hl
theorem qzx(hu:X.A.units+60<cLine):OpR X (compareOp .NotEq) (rEqD X.K not):=by
 intro pins s σ H x y v u Q I rx ry h
 obtain⟨d,e,hd,he,hc,hn,q⟩:=h
 have fin:EP X pins σ Q (.bool (!eqD d e)) s:=⟨.bl (!eqD d e),H,I,rfl,q⟩
 have un:X.A.in1.units=X.A.units+1:=rfl
 cases d with
|tup ds =>
  cases e with
 |tup es =>
   unfold Rep at hd he
   obtain⟨a,xs,rfl,ha,r1⟩:=hd
   obtain⟨b,ys,rfl,hb,r2⟩:=he
   cases rx
   cases ry
   unfold cmpD at hc
   unfold depD at hn
   exact q03 I ha.sq hb.sq r1 r2 hc (by lia) (λd hd e v z u w h1 h2 h3 h4 h5=>qfy I _ X.A.in1 d e v z u w (Nat.le_refl _) h1 h2 h3 h4 h5 (by have:=qce hd;lia)) _ _ _ _ fin
 |_=>unfold cmpD at hc;cases hc
|lst ds =>
  cases e with
 |lst es =>
   unfold Rep at hd he
   obtain⟨a,xs,rfl,ha,r1⟩:=hd
   obtain⟨b,ys,rfl,hb,r2⟩:=he
   cases rx
   cases ry
   unfold cmpD at hc
   unfold depD at hn
   exact q02 I ha hb r1 r2 hc (by lia) (λd hd e v z u w h1 h2 h3 h4 h5=>qfy I _ X.A.in1 d e v z u w (Nat.le_refl _) h1 h2 h3 h4 h5 (by have:=qce hd;lia)) _ _ _ _ fin
 |_=>unfold cmpD at hc;cases hc
|_ =>
  obtain⟨v',z',q1,q2,q3⟩:=ql8 hc (λ_ h=>by cases h) (λ_ h=>by cases h)
  have e1:=qen hd q1
  have e2:=qen he q2
  subst e1 e2
  have q':Q (.bl (!eqD _ _)) H:=q
  rw[qif q1 q2] at q'
  exact q18 pins s σ H _ _ v u Q I rx ry ⟨q3,q'⟩
def vNeD(rx ry:R)(Q:R->Prop):Prop:=cmpD rx.d ry.d=true/\depD rx.d<=50/\Q (.val (.bl (!eqD rx.d ry.d)))
theorem qdj(hu:X.A.units+64<cLine):VO X (compareOp .NotEq) vNeD :=
 ⟨_,qzx (by lia),λB H x y rx ry Q Qd s px py h k=>⟨rx.d,ry.d,px.rep s,py.rep s,h.1,h.2.1,k _ _ B H (.refl s) (repV rfl) h.2.2⟩⟩
end
def qdr{α:Type}(xs:List α)(lo hi st:Option Int):List α:=(sliceRange (sliceBounds lo hi st xs.length).1 (sliceBounds lo hi st xs.length).2.1 (sliceBounds lo hi st xs.length).2.2).filterMap (xs[·]?)
theorem qxe{xs:List V}{us:List Value}(r:Vals xs us):∀l:List Nat,Vals (l.filterMap (xs[·]?)) (l.filterMap (us[·]?))
|[]=>.nil
|i::l=>by
  cases e:xs[i]? with
 |none =>
   rw[List.filterMap_cons_none (by exact e),List.filterMap_cons_none (by exact r.none_of e)]
   exact qxe r l
 |some x =>
   obtain⟨u,hu,ru⟩:=r.get e
   rw[List.filterMap_cons_some (by exact e),List.filterMap_cons_some (by exact hu)]
   exact .cons ru (qxe r l)
theorem qrt{α β:Type}(f:α->β)(xs:List α)(lo hi st:Option Int):qdr (xs.map f) lo hi st=(qdr xs lo hi st).map f:=by
 unfold qdr
 rw[List.length_map,List.map_filterMap]
 congr 1
 funext i
 rw[List.getElem?_map]
theorem ql5(xs:List α)(lo hi st:Option Int):(sliceRange (sliceBounds lo hi st xs.length).1 (sliceBounds lo hi st xs.length).2.1 (sliceBounds lo hi st xs.length).2.2).length<=xs.length:=by
 refine sliceRange_length_le _ _ _ _ (λh=>?_) (λh=>?_)
 ·unfold sliceBounds at h ⊢
  simp only at h ⊢
  cases lo<;>cases hi<;>simp only[h,if_true]<;>lia
 ·unfold sliceBounds at h ⊢
  simp only at h ⊢
  cases lo<;>cases hi<;>simp only[h,if_false]<;>lia
theorem qrs{α:Type}(xs:List α)(lo hi st:Option Int):(qdr xs lo hi st).length<=xs.length:=Nat.le_trans (List.length_filterMap_le _ _) (ql5 xs lo hi st)
section
variable {X:Cx} {pos p2:Pos} {e st:Expr} {te:TE} {lo hi:Option Expr} {tl th ts:TO}
def q1f(K:PySem.W.Frag)(te:TE)(tl th ts:TO):TE:=λσ H Q=>te σ H λx H1=>tl σ H1 λl H2=>th σ H2 λu H3=>ts σ H3 λt H4=>∃a xs,x=.ref a/\SqL K H4 a xs/\t≠some 0/\∀p,H4 p=none->Q (.ref p) (upd H4 p (.lst (qdr xs l u t)))
theorem qxb(he:PE X e te)(hl:PO X lo tl)(hu:PO X hi th)(ht:PO X (some st) ts):PE X (.Subscript e (.Slice lo hi (some st) p2) pos) (q1f X.K te tl th ts):=by
 intro pins s σ H Q I h
 refine Subscript_ (thn (he pins s σ H _ I h) λv s1 ⟨x,H1,I1,r1,q1⟩=>?_)
 refine wpAny_Slice (thn (hl pins s1 σ H1 _ I1 q1) λvl s2 ⟨l,H2,I2,pl,q2⟩=>thn (hu pins s2 σ H2 _ I2 q2) λvu s3 ⟨u,H3,I3,pu,q3⟩=>thn (ht pins s3 σ H3 _ I3 q3) λvt s4 ⟨t,H4,I4,pt,q4⟩=>?_)
 obtain⟨a,xs,rfl,hx,h0,q⟩:=q4
 cases r1
 have I5:Inv X pins σ H4 { s4 with heap:=s4.heap.push { cls:=.type "slice",data:=.fields #[vl,vu,vt] } }:=I4.kept (t':=s4.toks) λb ob q=>Heap.get?_push_of_some _ q
 obtain⟨its,r,hL,hz⟩:=I5.list hx
 have hlen:=r.length
 show wpAny (model X.prog X.w) X.A (subscriptTail e (.Slice lo hi (some st) p2) (.ref a) (.ref s4.heap.objs.size)) (EP X pins σ Q) X.xe { s4 with heap:=s4.heap.push { cls:=.type "slice",data:=.fields #[vl,vu,vt] } }
 refine tail_any (ops:=[.ref a,.ref s4.heap.objs.size]) hL.isList.typeIs slot_list_getitem.lookup ?_ (by with_unfolding_all rfl)
 refine wpAny_getItem_list_slice hL.isList (Heap.IsSliceOf.new ..) pl pu pt h0 ?_ (by rw[List.size_toArray]<;>lia)
 have ep:slicePick its.toArray l u t=(qdr its l u t).toArray:=by
  unfold slicePick qdr
  simp
 rw[ep]
 refine⟨.ref _,_,I5.laid (t':=s4.toks) (o:=.lst (qdr xs l u t)) (λb ob q=>Heap.get?_push_of_some _ q) (Nat.le_refl _) ?_,rfl,q _ (I5.hok.fresh (Nat.le_refl _))⟩
 refine⟨Nat.le_trans (qrs xs l u t) hz,(qdr its l u t),0,?_,?_⟩
 ·unfold qdr
  rw[←hlen]
  exact qxe r _
 ·exact Heap.get?_push_size _ rfl
theorem qxw(he:QE X e te)(hl:QO X lo tl)(hu:QO X hi th)(ht:QO X (some st) ts):QE X (.Subscript e (.Slice lo hi (some st) p2) pos) (q1f X.K te tl th ts):=⟨qxb he.u hl.u hu.u ht.u⟩
end
section
variable {X:Cx} {EX:St->XK} {pos p2:Pos} {e st:Expr} {te:TV} {lo hi:Option Expr} {tl th ts:TVO} {K:PySem.W.Frag} {B:Hp}
theorem qxd{ds:List D}{xs:List V}(r:Reps K B ds xs):∀l:List Nat,Reps K B (l.filterMap (ds[·]?)) (l.filterMap (xs[·]?))
|[]=>.nil
|i::l=>by
  cases e:ds[i]? with
 |none =>
   have e2:xs[i]?=none:=List.getElem?_eq_none (by rw[←r.length];exact List.getElem?_eq_none_iff.mp e)
   rw[List.filterMap_cons_none (by exact e),List.filterMap_cons_none (by exact e2)]
   exact qxd r l
 |some x =>
   obtain⟨u,hu,ru⟩:=r.at e
   rw[List.filterMap_cons_some (by exact e),List.filterMap_cons_some (by exact hu)]
   exact .cons ru (qxd r l)
def vStR(rx:R)(lo hi st:Option Int)(Q:R->Prop):Prop:=match rx.d with
|.lst ds=>st≠some 0/\Q (.own (.lst (qdr ds lo hi st)))
|.scr ns=>st≠some 0/\Q (.own (.lst ((qdr ns lo hi st).map D.int)))
|_=>False
def qo3(te:TV)(tl th ts:TVO):TV:=λτ Q=>te τ λr=>exR r Q (tl τ λl=>th τ λu=>ts τ λt=>vStR r l u t Q)
theorem qmf(he:VE X EX e te)(hl:VPt X EX lo tl)(hh:VPt X EX hi th)(ht:VPt X EX (some st) ts):VE X EX (.Subscript e (.Slice lo hi (some st) p2) pos) (qo3 te tl th ts) :=
 let ⟨_,a1,a2⟩:=he.u;let ⟨_,b1,b2⟩:=hl.u;let ⟨_,c1,c2⟩:=hh.u;let ⟨_,d1,d2⟩:=ht.u;⟨_,qxw a1 b1 c1 d1,λH0 B H τ σ Q Qd s S h xc k =>
  a2 H0 B H τ σ _ _ s S h xc λr v B1 H1 p1 q1 h1=>b2 H0 B1 H1 τ σ _ _ p1.s (S.step p1) (q1.ok h1) λl B2 H2 p2 h2=>c2 H0 B2 H2 τ σ _ _ p2.s (S.step (p1.trans p2)) h2 λu B3 H3 p3 h3=>d2 H0 B3 H3 τ σ _ _ p3.s (S.step ((p1.trans p2).trans p3)) h3 λt B4 H4 p4 h4=>by
   have pp:=((p1.trans p2).trans p3).trans p4
   have pk:=((q1.pk.step p2).step p3).step p4
   unfold vStR at h4
   split at h4
   ·rename_i ds ed
    obtain⟨a,xs,rfl,h1,r1⟩:=pk.lst p4.s ed
    refine⟨a,xs,rfl,SqL.of h1,h4.1,λp hp=>k (.own (.lst (qdr ds l u t))) _ B4 _ (pp.trans (.grow p4.s (qau hp _))) ⟨p,rfl,pp.h.free hp,p4.s.free hp,qbp ?_⟩ h4.2⟩
    unfold qdr
    rw[←r1.length]
    exact qxd r1 _
   ·rename_i ns en
    obtain⟨a,rfl,h1⟩:=pk.scr p4.s en
    refine⟨a,_,rfl,h1,h4.1,λp hp=>k (.own (.lst ((qdr ns l u t).map D.int))) _ B4 _ (pp.trans (.grow p4.s (qau hp _))) ⟨p,rfl,pp.h.free hp,p4.s.free hp,?_⟩ h4.2⟩
    rw[qrt]
    exact qbp (.ints _)
   ·exact h4.elim⟩
end
end L2
namespace L2
section
variable {α:Type} [DecidableEq α]
end
section
variable {α β:Type} [DecidableEq α]
end
end L2
namespace L2
open PySem
abbrev qag:Str:="folder"
abbrev qar:Str:="shut"
abbrev qay:Str:="gone"
abbrev qb6:Str:="file"
abbrev qb7:Str:="link"
abbrev qaz:Str:=""
theorem mne:qar≠qag/\qay≠qag/\qb6≠qag/\qb7≠qag/\qay≠qar/\qb6≠qar/\qb7≠qar/\qb6≠qay/\qb7≠qay/\qb7≠qb6:=by decide +kernel
theorem qws(l:List (List Nat))(x:List Nat):l<l++[x]:=by
 induction l with
|nil=>exact List.nil_lt_cons _ _
|cons y l ih=>exact List.cons_lt_cons_iff.mpr (.inr ⟨rfl,ih⟩)
theorem qte{w:List Str}(h:w≠[]):ltW w.dropLast w=true:=by
 refine decide_eq_true ?_
 conv=>rhs;rw[←List.dropLast_concat_getLast h]
 unfold keyW
 rw[List.map_append]
 exact qws _ _
def inR(p:List Row)(w:List Str):Bool:=decide (w∈p.map (·.1))
def qbn(p:List Row)(w:List Str):Option Str:=(p.find? λr=>decide (r.1=w)).map (·.2.1)
def qco:Option Str->Bool
|none=>false
|some m=>!decide (m=qag)
def qbh(p:List Row)(w:List Str):Bool:=(List.range w.length).any λk=>qco (qbn p (w.take k))
theorem qdc{β:Type}{f g:β->Bool}:∀ {l:List β},(∀x∈l,f x=g x)->l.any f=l.any g
|[],_=>rfl
|x::l,h=>by rw[List.any_cons,List.any_cons,h x (List.mem_cons_self ..),qdc λy hy=>h y (List.mem_cons_of_mem _ hy)]
theorem qoe(p:List Row){w:List Str}(h:w≠[]):qbh p w=(qbh p w.dropLast||qco (qbn p w.dropLast)):=by
 have hl:w.length=w.dropLast.length+1:=by
  rw[List.length_dropLast]
  have:=List.length_pos_iff.mpr h
  lia
 unfold qbh
 rw[hl,List.range_succ,List.any_append]
 congr 1
 ·refine qdc λk hk=>?_
  have hk:=List.mem_range.mp hk
  rw[List.dropLast_eq_take,List.take_take,Nat.min_eq_left (by lia)]
 ·rw[List.any_cons,List.any_nil,Bool.or_false,List.dropLast_eq_take,List.length_take,Nat.min_eq_left (by lia)]
theorem qf4(p:List Row)(w:List Str):(qbn p w).isSome=inR p w:=by
 unfold qbn inR
 rw[Option.isSome_map]
 by_cases h:w∈p.map (·.1)
 ·rw[decide_eq_true h,List.find?_isSome]
  obtain⟨r,mr,er⟩:=List.mem_map.mp h
  exact⟨r,mr,decide_eq_true er⟩
 ·rw[decide_eq_false h,Bool.eq_false_iff]
  intro q
  rw[List.find?_isSome] at q
  obtain⟨r,mr,er⟩:=q
  exact h (List.mem_map.mpr ⟨r,mr,of_decide_eq_true er⟩)
theorem qd7{p:List Row}(nd:(p.map (·.1)).Nodup){r:Row}(h:r∈p):qbn p r.1=some r.2.1:=by
 unfold qbn
 cases e:p.find? λq=>decide (q.1=r.1) with
|none=>exact absurd (decide_eq_true rfl) (List.find?_eq_none.mp e r h)
|some q =>
  have h1:=List.mem_of_find?_eq_some e
  have h2:q.1=r.1:=of_decide_eq_true (p:=q.1=r.1) (by simpa using List.find?_some e)
  rw[qkb nd h1 h h2]
  rfl
theorem qfo{p:List Row}{w:List Str}(h:inR p w=false):qbn p w=none:=by
 rw[←qf4] at h
 exact Option.not_isSome_iff_eq_none.mp (by rw[h];exact Bool.false_ne_true)
structure TreeOk(tr:List Row):Prop where
 so:qat tr
 cl:∀r∈tr,r.1≠[]/\(r.1.dropLast=[]\/r.1.dropLast∈tr.map (·.1))
structure PaneOk(p:List Row):Prop where
 so:qat p
 cl:∀r∈p,r.1=[]\/r.1.dropLast=[]\/∃q∈p,q.1=r.1.dropLast/\q.2.1≠qay
 mr:∀r∈p,(r.2.1=qb6\/r.2.1=qb7)\/(r.2.1=qag/\r.2.2=qaz)\/r.2.1=qar\/r.2.1=qay
 rt:∀r∈p,r.1=[]->r.2.1=qar
def hidW(p tr:List Row):List (List Str):=(tr.filter λr=>qbh p r.1).map (·.1)
structure Clo(tr:List Row):Prop where
 so:qat tr
 cl:∀r∈tr,r.1=[]\/r.1.dropLast=[]\/r.1.dropLast∈tr.map (·.1)
theorem qi5{rs:List Row}(nd:(rs.map (·.1)).Nodup){i:Nat}{r:Row}(hr:rs[i]?=some r):r.1∉(rs.take i).map (·.1):=λm=>by
 obtain⟨hi,er⟩:=List.getElem?_eq_some_iff.mp hr
 obtain⟨q,mq,eq⟩:=List.mem_map.mp m
 rw[List.nodup_iff_pairwise_ne,List.pairwise_map,List.pairwise_iff_getElem] at nd
 obtain⟨j,hj,ej⟩:=List.mem_iff_getElem.mp mq
 have hj':j<i:=by rw[List.length_take] at hj;lia
 have:=nd j i (by lia) hi hj'
 rw[List.getElem_take] at ej
 rw[ej,er] at this
 exact this eq
def qa0(p tr:List Row):List Row:=tr.filter λr=>!inR p r.1&&!qbh p r.1
def qg7(r:Row):Row:=if r.2.1=qar then (r.1,qag,qaz) else r
def putR(p:List Row):List Row:=(p.filter λr=>!decide (r.1=[])&&!decide (r.2.1=qay)).map qg7
theorem qfq(r:Row):(qg7 r).1=r.1:=by
 unfold qg7
 split<;>rfl
theorem qiv(p:List Row):(putR p).map (·.1)=(p.filter λr=>!decide (r.1=[])&&!decide (r.2.1=qay)).map (·.1):=by
 unfold putR
 rw[List.map_map]
 exact List.map_congr_left λr _=>qfq r
theorem qqs{p tr:List Row}(hp:(p.map (·.1)).Nodup)(ht:(tr.map (·.1)).Nodup):((qa0 p tr++putR p).map (·.1)).Nodup:=by
 rw[List.map_append,qiv,List.nodup_append]
 refine⟨ht.sublist ((List.filter_sublist).map _),hp.sublist ((List.filter_sublist).map _),λx hx y hy e=>?_⟩
 subst e
 obtain⟨r,mr,rfl⟩:=List.mem_map.mp hx
 obtain⟨q,mq,eq⟩:=List.mem_map.mp hy
 have h1:=(List.mem_filter.mp mr).2
 have h2:inR p r.1=true:=decide_eq_true (List.mem_map.mpr ⟨q,(List.mem_filter.mp mq).1,eq⟩)
 rw[h2] at h1
 cases h1
theorem qj4{p tr ts:List Row}(P:PaneOk p)(T:TreeOk tr)(hp:ts.Perm (qa0 p tr++putR p))(hs:qat ts):TreeOk ts:=by
 refine⟨hs,λr hr=>?_⟩
 have mem:∀w,w∈ts.map (·.1)↔w∈(qa0 p tr).map (·.1)\/w∈(putR p).map (·.1):=λw=>by
  rw[(hp.map (·.1)).mem_iff,List.map_append,List.mem_append]
 have ndp:=qak P.so
 rcases List.mem_append.mp (hp.mem_iff.mp hr) with h|h
 ·obtain⟨mr,hb⟩:=List.mem_filter.mp h
  obtain⟨h0,hc⟩:=T.cl r mr
  refine⟨h0,?_⟩
  rcases hc with hc|hc
  ·exact .inl hc
  right
  rw[mem]
  have hb':inR p r.1=false/\qbh p r.1=false:=by simpa using hb
  have hs2:=qoe p h0
  rw[hb'.2] at hs2
  have hs3:qbh p r.1.dropLast=false/\qco (qbn p r.1.dropLast)=false:=by simpa using hs2.symm
  by_cases hin:inR p r.1.dropLast=true
  ·right
   rw[qiv]
   obtain⟨q,mq,eq⟩:=List.mem_map.mp (of_decide_eq_true hin)
   refine List.mem_map.mpr ⟨q,List.mem_filter.mpr ⟨mq,?_⟩,eq⟩
   have e1:q.2.1=qag:=by
    have:=hs3.2
    rw[←eq,qd7 ndp mq] at this
    simpa [qco] using this
   have e2:q.1≠[]:=λz=>by
    have:=P.rt q mq z
    rw[e1] at this
    exact mne.1 this.symm
   rw[decide_eq_false e2,e1,decide_eq_false (Ne.symm mne.2.1)]
   rfl
  ·left
   rw[Bool.not_eq_true] at hin
   obtain⟨q,mq,eq⟩:=List.mem_map.mp hc
   refine List.mem_map.mpr ⟨q,List.mem_filter.mpr ⟨mq,?_⟩,eq⟩
   rw[eq,hin,hs3.1]
   rfl
 ·unfold putR at h
  obtain⟨q,mq,rfl⟩:=List.mem_map.mp h
  rw[qfq]
  obtain⟨mq,hb⟩:=List.mem_filter.mp mq
  have hb':q.1≠[]/\q.2.1≠qay:=by simpa using hb
  refine⟨hb'.1,?_⟩
  rcases P.cl q mq with c|c|⟨o,mo,eo,go⟩
  ·exact absurd c hb'.1
  ·exact .inl c
  ·by_cases c:q.1.dropLast=[]
   ·exact .inl c
   right
   rw[mem]
   right
   rw[qiv]
   refine List.mem_map.mpr ⟨o,List.mem_filter.mpr ⟨mo,?_⟩,eo⟩
   rw[decide_eq_false (by rw[eo];exact c),decide_eq_false go]
   rfl
theorem qs9(p tr:List Row):(qa0 p tr++putR p).length<=tr.length+(p.filter λr=>!decide (r.1=[])).length:=by
 unfold qa0 putR
 rw[List.length_append,List.length_map]
 have h1:=List.length_filter_le (λr:Row=>!inR p r.1&&!qbh p r.1) tr
 have h2:(p.filter λr=>!decide (r.1=[])&&!decide (r.2.1=qay)).length<=(p.filter λr=>!decide (r.1=[])).length:=by
  have:(p.filter λr=>!decide (r.1=[])&&!decide (r.2.1=qay))=(p.filter λr=>!decide (r.1=[])).filter λr=>!decide (r.2.1=qay):=by
   rw[List.filter_filter]
   congr 1
   funext r
   exact Bool.and_comm _ _
  rw[this]
  exact List.length_filter_le _ _
 lia
def qbk(p:List Row):List Row:=(p.filter λr=>decide (r.2.1=qb6)||decide (r.2.1=qb7)||(!decide (r.2.1=qay)&&!decide (r.1=[]))).map λr=>if r.2.1=qb6\/r.2.1=qb7 then r else (r.1,qag,qaz)
theorem qqt{p:List Row}(P:PaneOk p):qbk p=putR p:=by
 unfold qbk putR
 have e:(p.filter λr=>decide (r.2.1=qb6)||decide (r.2.1=qb7)||(!decide (r.2.1=qay)&&!decide (r.1=[])))=p.filter λr=>!decide (r.1=[])&&!decide (r.2.1=qay):=by
  refine List.filter_congr λr hr=>?_
  by_cases h0:r.1=[]
  ·have:=P.rt r hr h0
   rw[this,decide_eq_true h0,decide_eq_false (Ne.symm mne.2.2.2.2.2.1),decide_eq_false (Ne.symm mne.2.2.2.2.2.2.1)]
   simp
  ·rw[decide_eq_false h0]
   have m:=P.mr r hr
   rcases m with (m|m)|⟨m,_⟩|m|m
   ·rw[m,decide_eq_false mne.2.2.2.2.2.2.2.1];simp
   ·rw[m,decide_eq_false mne.2.2.2.2.2.2.2.2.1];simp
   ·rw[m,decide_eq_false (Ne.symm mne.2.1)];simp
   ·rw[m,decide_eq_false (Ne.symm mne.2.2.2.2.1)];simp
   ·rw[m,decide_eq_false (Ne.symm mne.2.2.2.2.2.2.2.1),decide_eq_false (Ne.symm mne.2.2.2.2.2.2.2.2.1)];simp
 rw[e]
 refine List.map_congr_left λr hr=>?_
 have hb:=(List.mem_filter.mp hr).2
 have mr:=(List.mem_filter.mp hr).1
 have hb':r.1≠[]/\r.2.1≠qay:=by simpa using hb
 unfold qg7
 rcases P.mr r mr with m|⟨m,t⟩|m|m
 ·rw[if_pos m,if_neg]
  rcases m with m|m
  ·rw[m];exact mne.2.2.2.2.2.1
  ·rw[m];exact mne.2.2.2.2.2.2.1
 ·rw[if_neg (by rw[m];exact λz=>z.elim (λz=>mne.2.2.1 z.symm) λz=>mne.2.2.2.1 z.symm),if_neg (by rw[m];exact Ne.symm mne.1),←m,←t]
 ·rw[if_neg (by rw[m];exact λz=>z.elim (λz=>mne.2.2.2.2.2.1 z.symm) λz=>mne.2.2.2.2.2.2.1 z.symm),if_pos m]
 ·exact absurd m hb'.2
def thD:Str×Str->D:=λt=>.tup [.str t.1,.str t.2]
def WyOk(w:List Str):Prop:=w.length<=20/\∀z∈w,1<=z.length/\z.length<=12
def Wy14(w:List Str):Prop:=w.length<=14/\∀z∈w,1<=z.length/\z.length<=12
theorem Wy14.ok{w:List Str}(h:Wy14 w):WyOk w:=⟨by have:=h.1;lia,h.2⟩
theorem WyOk.ne{w:List Str}(h:WyOk w):("" : Str)∉w:=λm=>by
 have:=(h.2 _ m).1
 have e:("" : Str).length=0:=by decide +kernel
 lia
def prR(r:Row):List Str×D:=(r.1,thD r.2)
theorem qm7(rs:List Row)(w:List Str):lkP (rs.map prR) w=(rs.find? λr=>decide (r.1=w)).map λr=>thD r.2:=by
 unfold lkP
 rw[List.find?_map,Option.map_map]
 rfl
def prM(r:Row):List Str×D:=(r.1,.str r.2.1)
theorem qm6(rs:List Row)(w:List Str):lkP (rs.map prM) w=(qbn rs w).map D.str:=by
 unfold lkP qbn
 rw[List.find?_map,Option.map_map,Option.map_map]
 rfl
theorem qjc(rs:List Row):(rs.map prR).map (·.1)=rs.map (·.1):=by rw[List.map_map];rfl
theorem qsk(rs:List Row):(rs.map prM).map (·.1)=rs.map (·.1):=by rw[List.map_map];rfl
def qer(rs:List Row)(w:List Str):Bool:=(List.range w.length).any λk=>decide (qbn rs (w.take k)=some qar)
noncomputable def qrq(rs:List Row):List Row:=open Classical in if h:∃ts:List Row,ts.Perm rs/\qat ts then Classical.choose h else rs
theorem qnq{ts rs:List Row}(hp:ts.Perm rs)(hs:qat ts):qrq rs=ts:=by
 have h:∃ts:List Row,ts.Perm rs/\qat ts:=⟨ts,hp,hs⟩
 unfold qrq
 rw[dif_pos h]
 exact qg1 ((Classical.choose_spec h).1.trans hp.symm) (Classical.choose_spec h).2 hs
noncomputable def qd5(p tr:List Row):List Row:=qrq (qa0 p tr++putR p)
def bulk(p:List Row):Nat:=(p.filter λr=>!decide (r.1=[])).length
def mkOk(r:Row):Prop:=(r.2.1=qb6\/r.2.1=qb7)\/(r.2.1=qag/\r.2.2=qaz)\/r.2.1=qar\/r.2.1=qay
def FS(m:Str):Prop:=m=qag\/m=qar
theorem FS.live{m:Str}(h:FS m):m≠qay:=by
 rcases h with rfl|rfl
 ·exact Ne.symm mne.2.1
 ·exact Ne.symm mne.2.2.2.2.1
def FolIn(rs:List Row)(f:List Str):Prop:=Wy14 f/\(f=[]\/∃q∈rs,q.1=f/\FS q.2.1)
def qv0(rs:List Row)(r:Row):Prop:=(r.1=[]/\r.2.1=qar)\/(r.1≠[]/\Wy14 r.1/\FolIn rs r.1.dropLast/\mkOk r)
structure PInv(i:Nat)(rs:List Row)(fs:List (List Str)):Prop where
 nd:(rs.map (·.1)).Nodup
 row:∀r∈rs,qv0 rs r
 blk:bulk rs<=i
 len:rs.length<=i+1
 ne:fs≠[]
 fol:∀f∈fs,FolIn rs f
 fln:fs.length<=i+1
 nu:∀r∈rs,r.2.1=qay\/r.2.1=qar->qbh rs r.1=false
theorem anc{rs:List Row}(row:∀r∈rs,qv0 rs r):∀(n:Nat) (f:List Str),f.length=n->FolIn rs f->∀k,0<k->k<=f.length->∃q∈rs,q.1=f.take k/\FS q.2.1
|0,f,hn,_,k,h0,hk=>by lia
|n+1,f,hn,hf,k,h0,hk=>by
  have fne:f≠[]:=λz=>by rw[z] at hn;cases hn
  obtain⟨q,mq,eq,fq⟩:=hf.2.resolve_left fne
  rcases Nat.lt_or_ge k f.length with h|h
  ·rcases row q mq with c|⟨_,_,c,_⟩
   ·exact absurd (eq▸c.1) fne
   ·rw[eq] at c
    have hl:f.dropLast.length=n:=by rw[List.length_dropLast];lia
    obtain⟨o,mo,eo,fo⟩:=anc row n f.dropLast hl c k h0 (by lia)
    refine⟨o,mo,?_,fo⟩
    rw[eo,List.dropLast_eq_take,List.take_take,Nat.min_eq_left (by lia)]
  ·have:k=f.length:=by lia
   rw[this,List.take_length]
   exact⟨q,mq,eq,fq⟩
theorem qs2{rs:List Row}(nd:(rs.map (·.1)).Nodup){w:List Str}(h:∀k,0<k->k<w.length->∃q∈rs,q.1=w.take k/\FS q.2.1)(rt:∀r∈rs,r.1=[]->r.2.1=qar):qbh rs w=qer rs w:=by
 unfold qbh qer
 refine qdc λk hk=>?_
 have hk:=List.mem_range.mp hk
 have key:∀q∈rs,q.1=w.take k->FS q.2.1->qco (qbn rs (w.take k))=decide (qbn rs (w.take k)=some qar):=λq mq eq fq=>by
  rw[←eq,qd7 nd mq]
  rcases fq with e|e
  ·rw[e,decide_eq_false (λz=>mne.1 (Option.some.inj z).symm)];simp[qco]
  ·rw[e,decide_eq_true rfl];simp[qco,mne.1]
 by_cases h0:k=0
 ·subst h0
  rw[List.take_zero] at key ⊢
  by_cases hi:inR rs []=true
  ·obtain⟨q,mq,eq⟩:=List.mem_map.mp (of_decide_eq_true hi)
   exact key q mq eq (.inr (rt q mq eq))
  ·rw[Bool.not_eq_true] at hi
   rw[qfo hi]
   rfl
 ·obtain⟨q,mq,eq,fq⟩:=h k (by lia) hk
  exact key q mq eq fq
theorem qoi{rs:List Row}{r:Row}{w:List Str}(h:r.1≠w):qbn (rs++[r]) w=qbn rs w:=by
 unfold qbn
 rw[List.find?_append]
 have:[r].find? (λq=>decide (q.1=w))=none:=by simp[h]
 rw[this,Option.or_none]
theorem qht{rs:List Row}{r:Row}{w:List Str}(h:∀k,k<w.length->r.1≠w.take k):qbh (rs++[r]) w=qbh rs w:=by
 unfold qbh
 exact qdc λk hk=>by rw[qoi (h k (List.mem_range.mp hk))]
theorem Wy14.nil:Wy14 []:=⟨Nat.zero_le _,λ_ h=>by cases h⟩
theorem PInv.start{rs:List Row}(h:rs=[]\/rs=[([],qar,qaz)]):PInv 0 rs [[]]:=by
 rcases h with rfl|rfl
 ·exact⟨List.nodup_nil,(λ_ h=>by cases h),Nat.le_refl _,Nat.zero_le _,by simp,λf hf=>by rw[List.mem_singleton.mp hf];exact⟨.nil,.inl rfl⟩,Nat.le_refl _,(λ_ h=>by cases h)⟩
 ·exact⟨by simp,λr hr=>by rw[List.mem_singleton.mp hr];exact .inl ⟨rfl,rfl⟩,Nat.le_refl _,Nat.le_refl _,by simp,λf hf=>by rw[List.mem_singleton.mp hf];exact⟨.nil,.inl rfl⟩,Nat.le_refl _,λr hr _=>by rw[List.mem_singleton.mp hr];rfl⟩
theorem FolIn.more{rs:List Row}{f:List Str}(h:FolIn rs f)(r:Row):FolIn (rs++[r]) f:=⟨h.1,h.2.imp id λ⟨q,mq,e,g⟩=>⟨q,List.mem_append_left _ mq,e,g⟩⟩
theorem PInv.stay{i:Nat}{rs:List Row}{fs:List (List Str)}(P:PInv i rs fs):PInv (i+1) rs fs:=⟨P.nd,P.row,Nat.le_succ_of_le P.blk,Nat.le_succ_of_le P.len,P.ne,P.fol,Nat.le_succ_of_le P.fln,P.nu⟩
theorem PInv.put{i:Nat}{rs:List Row}{fs:List (List Str)}(P:PInv i rs fs){f:List Str}(hf:f∈fs){z:Str}{m t:Str}(hm:mkOk (f++[z],m,t))(hw:Wy14 (f++[z]))(nw:f++[z]∉rs.map (·.1))(hsh:m=qay\/m=qar->qer rs (f++[z])=false):PInv (i+1) (rs++[(f++[z],m,t)]) fs/\(FS m->PInv (i+1) (rs++[(f++[z],m,t)]) (fs++[f++[z]])):=by
 have A:PInv (i+1) (rs++[(f++[z],m,t)]) fs:=by
  refine⟨?_,λr hr=>?_,?_,?_,P.ne,λg hg=>(P.fol g hg).more _,Nat.le_succ_of_le P.fln,λr hr hm2=>?_⟩
  ·rw[List.map_append,List.nodup_append]
   refine⟨P.nd,by simp,λa ha b hb e=>?_⟩
   have:b=f++[z]:=by simpa using hb
   rw[e,this] at ha
   exact nw ha
  ·rcases List.mem_append.mp hr with q|q
   ·rcases P.row r q with h|⟨h1,h2,h3,h4⟩
    ·exact .inl h
    ·exact .inr ⟨h1,h2,h3.more _,h4⟩
   ·rw[List.mem_singleton.mp q]
    refine .inr ⟨by simp,hw,?_,hm⟩
    show FolIn _ (f++[z]).dropLast
    rw[List.dropLast_concat]
    exact(P.fol f hf).more _
  ·have:=P.blk
   unfold bulk at this ⊢
   rw[List.filter_append,List.length_append]
   have:=List.length_filter_le (λr:Row=>!decide (r.1=[])) [(f++[z],m,t)]
   rw[List.length_singleton] at this
   lia
  ·have:=P.len
   rw[List.length_append,List.length_singleton]
   lia
  ·rcases List.mem_append.mp hr with q|q
   ·have old:=P.nu r q hm2
    rw[qht (λk hk e=>?_)]
    ·exact old
    ·have e':f++[z]=r.1.take k:=e
     rcases P.row r q with c|⟨_,_,c,_⟩
     ·rw[c.1] at hk
      cases hk
     ·have k0:0<k:=by
       rcases Nat.eq_zero_or_pos k with z0|z0
       ·rw[z0,List.take_zero] at e'
        exact absurd e' (by simp)
       ·exact z0
      obtain⟨o,mo,eo,_⟩:=anc P.row _ r.1.dropLast rfl c k k0 (by rw[List.length_dropLast];lia)
      refine nw (List.mem_map.mpr ⟨o,mo,?_⟩)
      rw[eo,e',List.dropLast_eq_take,List.take_take,Nat.min_eq_left (by lia)]
   ·have er:=List.mem_singleton.mp q
    subst er
    show qbh (rs++[(f++[z],m,t)]) (f++[z])=false
    rw[qht (λk hk e=>?_)]
    ·rw[qs2 P.nd (λk k0 k1=>?_) λr hr h0=>?_]
     ·exact hsh hm2
     ·rw[List.length_append,List.length_singleton] at k1
      obtain⟨o,mo,eo,fo⟩:=anc P.row _ f rfl (P.fol f hf) k k0 (by lia)
      exact⟨o,mo,by rw[eo,List.take_append_of_le_length (by lia)],fo⟩
     ·rcases P.row r hr with c|c
      ·exact c.2
      ·exact absurd h0 c.1
    ·have:=congrArg List.length (show f++[z]=(f++[z]).take k from e)
     rw[List.length_take] at this
     lia
 refine⟨A,λhg=>⟨A.nd,A.row,A.blk,A.len,by simp,λg hg2=>?_,?_,?_⟩⟩
 ·rcases List.mem_append.mp hg2 with q|q
  ·exact A.fol g q
  ·rw[List.mem_singleton.mp q]
   exact⟨hw,.inr ⟨(f++[z],m,t),by simp,rfl,hg⟩⟩
 ·have:=P.fln
  rw[List.length_append,List.length_singleton]
  lia
 ·exact A.nu
theorem PInv.pane{i:Nat}{rs ts:List Row}{fs:List (List Str)}(P:PInv i rs fs)(hp:ts.Perm rs)(hs:qat ts):PaneOk ts/\(∀r∈ts,Wy14 r.1)/\bulk ts<=i/\ts.length<=i+1/\∀r∈ts,r.2.1=qay\/r.2.1=qar->qbh ts r.1=false:=by
 have mem:∀r,r∈ts->qv0 rs r:=λr hr=>P.row r (hp.mem_iff.mp hr)
 refine⟨⟨hs,λr hr=>?_,λr hr=>?_,λr hr h0=>?_⟩,λr hr=>?_,?_,?_,λr hr hm=>?_⟩
 ·rcases mem r hr with h|⟨h1,_,h3,_⟩
  ·exact .inl h.1
  ·rcases h3.2 with h|⟨q,mq,e,g⟩
   ·exact .inr (.inl h)
   ·exact .inr (.inr ⟨q,hp.mem_iff.mpr mq,e,g.live⟩)
 ·rcases mem r hr with h|⟨_,_,_,h4⟩
  ·exact .inr (.inr (.inl h.2))
  ·exact h4
 ·rcases mem r hr with h|⟨h1,_⟩
  ·exact h.2
  ·exact absurd h0 h1
 ·rcases mem r hr with h|⟨_,h2,_⟩
  ·rw[h.1];exact .nil
  ·exact h2
 ·have:=P.blk
  unfold bulk at this ⊢
  rw[(hp.filter _).length_eq]
  exact this
 ·rw[hp.length_eq]
  exact P.len
 ·have nt:=qak hs
  have:∀w,qbn ts w=qbn rs w:=λw=>by
   by_cases h:inR ts w=true
   ·obtain⟨q,mq,e⟩:=List.mem_map.mp (of_decide_eq_true h)
    rw[←e,qd7 nt mq,qd7 P.nd (hp.mem_iff.mp mq)]
   ·have h2:inR rs w=false:=by
     rw[Bool.not_eq_true] at h
     refine decide_eq_false λm=>of_decide_eq_false h ?_
     exact((hp.map (·.1)).mem_iff).mpr m
    rw[Bool.not_eq_true] at h
    rw[qfo h,qfo h2]
  have e:qbh ts r.1=qbh rs r.1:=qdc λk _=>by rw[this]
  rw[e]
  exact P.nu r (hp.mem_iff.mp hr) hm
def lkR(rs:List Row)(w:List Str):Str×Str:=((rs.find? λr=>decide (r.1=w)).map (·.2)).getD (qaz,qaz)
theorem qig{rs:List Row}(nd:(rs.map (·.1)).Nodup){r:Row}(h:r∈rs):(rs.find? λq=>decide (q.1=r.1))=some r:=by
 cases e:rs.find? λq=>decide (q.1=r.1) with
|none=>exact absurd (decide_eq_true rfl) (List.find?_eq_none.mp e r h)
|some q =>
  have h1:=List.mem_of_find?_eq_some e
  have h2:q.1=r.1:=of_decide_eq_true (p:=q.1=r.1) (by simpa using List.find?_some e)
  rw[qkb nd h1 h h2]
theorem qea{rs:List Row}(nd:(rs.map (·.1)).Nodup){vs:List (List Str)}(hv:vs.Perm (rs.map (·.1)))(hs:vs.Pairwise (λa b=>ltW a b=true)):(vs.map λw=>(w,lkR rs w)).Perm rs/\qat (vs.map λw=>(w,lkR rs w)):=by
 constructor
 ·refine(hv.map _).trans (List.Perm.of_eq ?_)
  rw[List.map_map]
  refine(List.map_congr_left λr hr=>?_).trans (List.map_id _)
  show (r.1,lkR rs r.1)=r
  unfold lkR
  rw[qig nd hr]
  rfl
 ·show List.Pairwise _ (List.map _ _)
  rw[List.pairwise_map]
  exact hs
theorem qlt{rs:List Row}(nd:(rs.map (·.1)).Nodup){w:List Str}(h:w∈rs.map (·.1)):lkP (rs.map prR) w=some (thD (lkR rs w)):=by
 obtain⟨r,mr,rfl⟩:=List.mem_map.mp h
 rw[qm7]
 unfold lkR
 rw[qig nd mr]
 rfl
def s6(u:Nat):Nat:=u%99991%9+(u+96542*1)%99991%9+(u+96542*2)%99991%9+(u+96542*3)%99991%9+(u+96542*4)%99991%9+(u+96542*5)%99991%9
end L2
namespace L2
open PySem PySem.Spec PyProof.Rows
mutual
def tupO:D->Bool
|.non=>true
|.bl _=>true
|.int _=>true
|.str _=>true
|.tup ds=>qes ds
|_=>false
def qes:List D->Bool
|[]=>true
|d::ds=>tupO d&&qes ds
end
def dele(B:Hp)(ad:Addr):Hp:=λa=>if a=ad then none else B a
section
variable {K:PySem.W.Frag} {B:Hp} {ad:Addr}
theorem qib{a:Addr}(h:a≠ad):dele B ad a=B a:=if_neg h
mutual
theorem Rep.less(hl:∀xs,B ad≠some (.tup xs)):∀(d:D) (v:V),tupO d=true->Rep K B d v->Rep K (dele B ad) d v
|.non,v,_,r=>by unfold Rep at r ⊢;exact r
|.bl _,v,_,r=>by unfold Rep at r ⊢;exact r
|.int _,v,_,r=>by unfold Rep at r ⊢;exact r
|.str _,v,_,r=>by unfold Rep at r ⊢;exact r
|.tup ds,v,h,r=>by
  unfold Rep at r ⊢
  unfold tupO at h
  obtain⟨a,xs,e,t,rs⟩:=r
  refine⟨a,xs,e,?_,Reps.less hl ds xs h rs⟩
  rcases t with t|t
  ·left
   rw[qib (show a≠ad from λz=>hl xs (by rw[←z];exact t))]
   exact t
  ·exact .inr t
|.lst _,_,h,_=>by unfold tupO at h;cases h
|.dT _ _,_,h,_=>by unfold tupO at h;cases h
|.dK _ _,_,h,_=>by unfold tupO at h;cases h
|.scr _,_,h,_=>by unfold tupO at h;cases h
|.kt _,_,h,_=>by unfold tupO at h;cases h
|.exc _,_,h,_=>by unfold tupO at h;cases h
theorem Reps.less(hl:∀xs,B ad≠some (.tup xs)):∀(ds:List D) (vs:List V),qes ds=true->Reps K B ds vs->Reps K (dele B ad) ds vs
|[],vs,_,r=>by unfold Reps at r ⊢;exact r
|d::ds,vs,h,r=>by
  unfold Reps at r ⊢
  unfold qes at h
  rw[Bool.and_eq_true] at h
  obtain⟨x,xs,e,r1,r2⟩:=r
  exact⟨x,xs,e,Rep.less hl d x h.1 r1,Reps.less hl ds xs h.2 r2⟩
end
end
def tupR(r:R)(Q:R->Prop):Prop:=match r with
|.val d=>tupO d=true/\Q (.val d)
|.own (.lst ds)=>qes ds=true/\Q (.own (.lst ds))
|_=>False
def qo2(g:DP)(i:Nat)(tA:TVA):TV:=λτ Q=>match τ[i]? with
|some (some (.own d))=>tA τ λa=>exA a (λ_=>False) λds=>g (d::ds) λr=>tupR r Q
|_=>False
section
variable {X:Cx} {EX:St->XK} {pos p:Pos} {x y:Str} {es:List Expr} {tA:TVA}
theorem qr2{k:Nat}{ps:List Str}{g:DP}{i:Nat}{p2:Pos}(C:Cal X.prog X.w X.K X.mg X.base k x ps (spOf X.K g))(hr:Room k X.A)(hg:Gl X x)(ha:VA X EX es tA)(hN:X.N[i]?=some y:=by rfl)(hv:Vis X.env.scope y:=by first|exact Or.inl rfl|exact Or.inr (Or.inl rfl)|exact Or.inr (Or.inr rfl))
  (hd:(y==("__debug__" : Str))=false:=by decide) (hcd:(y==("__classdict__" : Str))=false:=by decide) (hp:(Expr.Name y p2::es).all qa2=true:=by rfl) (hdb:(x==("__debug__" : Str))=false:=by decide) :
  VE X EX (.Call (.Name x p) (.Name y p2::es) [] pos) (qo2 g i tA) :=
 let ⟨_,a1,a2⟩:=ha.u;⟨_,qnm C hr hg (qac (qv i hN hv hd hcd) a1 rfl) hp hdb,λH0 B H τ σ Q Qd s S h xc kk=>by
  unfold qo2 at h
  split at h
  ·rename_i d e1
   obtain⟨ad,e2,_,hb,ow⟩:=S.own i d e1
   refine⟨.ref ad,e2,a2 H0 B H τ σ _ _ s S h (xno λ_ q=>q) λds vs B1 H1 p1 q1 h1=>?_⟩
   have ow1:OwnAt X.K B1 H1 d ad:=ow.step p1.b (p1.h.at ow.some)
   have hb1:B1 ad=none:=p1.keep hb ow.some ow.nt
   obtain⟨o,eo,rp⟩:=ow1.pub hb1
   refine⟨d::ds,upd B1 ad o,_,qg6 p1.s eo,?_,h1,λn C B' H' hq _ _=>?_,λr v B2 H2 hq p2 q2=>?_⟩
   ·rw[List.append_nil]
    exact .cons rp (q1.same (qau hb1 _))
   ·exact(show False from hq).elim
   ·have hB2:B2 ad=some o:=p2.b _ _ qa8
    have nt:∀xs,B2 ad≠some (.tup xs):=λxs z=>by
     rw[hB2] at z
     cases z
     exact ow1.nt xs eo
    have st:Stp B H (dele B2 ad) H2:=by
     refine⟨λa ob e=>?_,p1.h.trans p2.h,λa ob e=>?_,λa hne=>?_⟩
     ·have na:a≠ad:=λz=>by rw[z,hb] at e;cases e
      rw[qib na]
      exact p2.b _ _ (by rw[qa5 na];exact p1.b _ _ e)
     ·by_cases na:a=ad
      ·unfold dele at e
       rw[if_pos na] at e
       cases e
      ·rw[qib na] at e
       exact p2.s _ _ e
     ·by_cases na:a=ad
      ·unfold dele at hne
       rw[if_pos na] at hne
       exact absurd rfl hne
      ·rw[qib na] at hne
       rcases p2.d a hne with z|z|⟨xs,z⟩
       ·rw[qa5 na] at z
        exact p1.d a z
       ·exact .inr (.inl (p1.h.free z))
       ·cases e:H a with
       |none=>exact .inr (.inl rfl)
       |some ob =>
         rw[p1.h _ _ e] at z
         exact .inr (.inr ⟨xs,z⟩)
    unfold tupR at hq
    split at hq
    ·rename_i d'
     exact kk (.val d') _ (dele B2 ad) H2 st (Rep.less nt d' v hq.1 q2) hq.2
    ·rename_i es'
     obtain⟨a',e',f1,f2,xs,f3,f4⟩:=q2
     refine kk (.own (.lst es')) _ (dele B2 ad) H2 st ⟨a',e',p1.h.free f1,?_,xs,f3,Reps.less nt es' xs hq.1 f4⟩ hq.2
     unfold dele
     split
     ·rfl
     ·exact f2
    ·exact hq.elim
  ·exact h.elim⟩
end
end L2
namespace L2
open PySem PySem.Spec PyProof.Rows
def rowAt(p:List Row)(w:List Str):Option (Str×Str):=(p.find? λr=>decide (r.1=w)).map (·.2)
theorem qe8(p:List Row)(w:List Str):qbn p w=(rowAt p w).map (·.1):=by
 unfold qbn rowAt
 rw[Option.map_map]
 rfl
theorem qbb{p:List Row}(nd:(p.map (·.1)).Nodup){w:List Str}{x:Str×Str}:rowAt p w=some x↔(w,x)∈p:=by
 unfold rowAt
 constructor
 ·intro h
  obtain⟨r,e,rfl⟩:=Option.map_eq_some_iff.mp h
  have h1:=List.mem_of_find?_eq_some e
  have h2:r.1=w:=of_decide_eq_true (p:=r.1=w) (by simpa using List.find?_some e)
  rw[←h2]
  exact h1
 ·intro h
  have:=qig nd h
  rw[this]
  rfl
theorem rowAt_none{p:List Row}{w:List Str}:rowAt p w=none↔w∉p.map (·.1):=by
 unfold rowAt
 rw[Option.map_eq_none_iff,List.find?_eq_none]
 constructor
 ·intro h m
  obtain⟨r,mr,e⟩:=List.mem_map.mp m
  exact h r mr (decide_eq_true e)
 ·intro h r mr e
  exact h (List.mem_map.mpr ⟨r,mr,of_decide_eq_true e⟩)
theorem qq8{β:Type}{a b:Option β}(h:∀x,a=some x↔b=some x):a=b:=by
 cases a with
|none =>
  cases b with
 |none=>rfl
 |some y=>exact absurd ((h y).mpr rfl) (by simp)
|some x=>exact((h x).mp rfl).symm
theorem ql6{p q:List Row}(h1:qat p)(h2:qat q)(h:∀w,rowAt p w=rowAt q w):p=q:=by
 have n1:=qak h1
 have n2:=qak h2
 have nn:∀ {p:List Row},(p.map (·.1)).Nodup->p.Nodup:=λ{p} n=>by
  rw[List.nodup_iff_pairwise_ne,List.pairwise_map] at n
  rw[List.nodup_iff_pairwise_ne]
  exact n.imp λa e=>a (by rw[e])
 refine qg1 ((List.perm_ext_iff_of_nodup (nn n1) (nn n2)).mpr λr=>?_) h1 h2
 rw[show r=(r.1,r.2) from rfl,←qbb n1,←qbb n2,h]
structure PaneC(p:List Row):Prop where
 so:qat p
 cl:∀r∈p,r.1=[]\/r.1.dropLast=[]\/∃q∈p,q.1=r.1.dropLast/\q.2.1≠qay
section
variable {α:Type} {f:α->D} {τ:VSt} {k:Nat} {g:TVG} {ti:TVT} {te:TV} {Q:R->Prop}
end
theorem qkr:∀ss:List Str,qes (ss.map D.str)=true
|[]=>by
  show qes []=true
  unfold qes
  rfl
|x::ss=>by
  show qes (.str x::ss.map D.str)=true
  unfold qes tupO
  rw[qkr ss]
  rfl
theorem quh(r:Row):tupO (rowD r)=true:=by
 show tupO (.tup [.tup (r.1.map D.str),.str r.2.1,.str r.2.2])=true
 simp only[tupO,qes,qkr,Bool.and_self]
theorem qkq:∀rs:List Row,qes (rs.map rowD)=true
|[]=>by
  show qes []=true
  unfold qes
  rfl
|r::rs=>by
  show qes (rowD r::rs.map rowD)=true
  unfold qes
  rw[quh,qkq rs]
  rfl
theorem qu3(r:Row):∀ts:List Row,qat ts->r.1∉ts.map (·.1)->∃us:List Row,us.Perm (r::ts)/\qat us
|[],_,_=>⟨[r],.refl _,List.pairwise_singleton _ _⟩
|t::ts,h,hn=>by
  have h':=List.pairwise_cons.mp h
  rw[List.map_cons,List.mem_cons,not_or] at hn
  rcases qq0 hn.1 with q|q
  ·refine⟨r::t::ts,.refl _,List.pairwise_cons.mpr ⟨λx hx=>?_,h⟩⟩
   rcases List.mem_cons.mp hx with e|hx
   ·rw[e];exact q
   ·exact qu9 q (h'.1 x hx)
  ·obtain⟨us,p1,p2⟩:=qu3 r ts h'.2 hn.2
   refine⟨t::us,(p1.cons t).trans (.swap r t ts),List.pairwise_cons.mpr ⟨λx hx=>?_,p2⟩⟩
   rcases List.mem_cons.mp (p1.mem_iff.mp hx) with e|hx
   ·rw[e];exact q
   ·exact h'.1 x hx
theorem qrr:∀rs:List Row,(rs.map (·.1)).Nodup->∃ts:List Row,ts.Perm rs/\qat ts
|[],_=>⟨[],.nil,.nil⟩
|r::rs,h=>by
  rw[List.map_cons,List.nodup_cons] at h
  obtain⟨ts,p1,p2⟩:=qrr rs h.2
  obtain⟨us,q1,q2⟩:=qu3 r ts p2 λm=>h.1 (((p1.map (·.1)).mem_iff).mp m)
  exact⟨us,q1.trans (p1.cons r),q2⟩
theorem qt9{rs:List Row}(h:(rs.map (·.1)).Nodup):(qrq rs).Perm rs/\qat (qrq rs):=by
 obtain⟨ts,p1,p2⟩:=qrr rs h
 rw[qnq p1 p2]
 exact⟨p1,p2⟩
theorem qgn{p tr:List Row}(P:PaneOk p)(T:TreeOk tr):TreeOk (qd5 p tr)/\(qd5 p tr).Perm (qa0 p tr++putR p) :=
 let ⟨p1,p2⟩:=qt9 (qqs (qak P.so) (qak T.so))
 ⟨qj4 P T p1 p2,p1⟩
def s5(u:Nat):Nat:=u%99991%8+(u+96542*1)%99991%8+(u+96542*2)%99991%8+(u+96542*3)%99991%8+(u+96542*4)%99991%8
theorem v_if{t:TVT}{a b:TVS}{Dv:VEnds}{τ:VSt}(P:Bool->Prop)(ht:∀Y:Bool->Prop,(∀c,P c->Y c)->t τ Y)(ha:P true->a Dv τ)(hb:P false->b Dv τ):vIfS t a b Dv τ :=
 ht _ λc hc=>by
  cases c with
 |true=>exact iteT (ha hc)
 |false=>exact iteF (hb hc)
end L2
namespace L2
open PySem PySem.Spec PyProof.Rows
section
variable {X:Cx} {pins:List (Addr×Obj)} {σ:St} {H:Hp} {s:Shared} {h':Heap}
end
section
variable {X:Cx} {elts:List Expr} {kk:Nat} {tp p pos:Pos}
end
section
variable {X:Cx} {EX:St->XK} {elts:List Expr} {kk:Nat} {tp p pos:Pos} {K:PySem.W.Frag} {B:Hp} {a:Expr} {ta:TV}
end
end L2
namespace L2
open PySem PySem.Spec PyProof.Rows
section
variable {prog:Program} {w:World} {A:Around}
end
section
variable {X:Cx} {p kp pos:Pos} {a d:Expr}
end
section
variable {X:Cx} {EX:St->XK} {p kp pos cp:Pos} {a:Expr} {te:TV} {j:Nat}
end
end L2
namespace L2
open PySem PySem.Spec PyProof.Rows
section
variable {X:Cx} {EX:St->XK} {pos pos' p apos cpos:Pos} {x y:Str} {e:Expr}
end
end L2
namespace L2
open PySem PySem.Spec PyProof.Rows
section
variable {X:Cx} {pins:List (Addr×Obj)} {σ:St} {H:Hp} {s:Shared} {tg:Expr}
end
section
variable {X:Cx} {EX:St->XK} {K:PySem.W.Frag} {B H:Hp} {tg:Expr} {x:Str} {pos:Pos} {rest:List Stmt} {t:TVS}
end
end L2
namespace L2
open PySem PySem.Spec PyProof.Rows
section
variable {X:Cx}
end
section
variable {X:Cx} {EX:St->XK} {pos pos' p apos cpos:Pos} {x:Str} {e:Expr} {es:List Expr} {te:TV} {tA:TVA} {K:PySem.W.Frag} {B B' H H0:Hp} {τ:VSt} {σ:St}
end
end L2
namespace L2
open PySem PySem.Spec PyProof.Rows
section
variable {X:Cx} {pins:List (Addr×Obj)} {σ:St} {H:Hp} {s:Shared} {st:Stmt} {rest:List Stmt}
end
section
variable {X:Cx} {EX:St->XK} {K:PySem.W.Frag} {B B' H H0:Hp} {τ:VSt} {σ:St} {x:Str} {e:Expr} {te:TV} {rest:List Stmt} {u:TVS} {pos pos':Pos}
end
end L2
namespace L2
open PySem PySem.Spec PyProof.Rows
section
variable {X:Cx} {EX:St->XK} {pos p cpos:Pos} {x y:Str} {e:Expr} {es:List Expr} {tA:TVA} {K:PySem.W.Frag} {B B' H H0:Hp} {τ:VSt} {σ:St}
end
end L2
namespace L2
open PySem PySem.Spec PyProof.Rows
section
variable {X:Cx} {elts:List Expr} {kk:Nat} {tp p pos:Pos}
end
section
variable {X:Cx} {EX:St->XK} {elts:List Expr} {kk:Nat} {tp p pos:Pos} {K:PySem.W.Frag} {B:Hp} {a b:Expr} {ta tb:TV}
end
section
variable {X:Cx} {EX:St->XK}
def rLtD(K:PySem.W.Frag):R2:=λx y H Q=>∃d e,Rep K H d x/\Rep K H e y/\ordD d e=true/\depD d<=50/\Q (.bl (ltD d e)) H
theorem qzu(hu:X.A.units+60<cLine):OpR X (compareOp .Lt) (rLtD X.K):=by
 intro pins s σ H x y v u Q I rx ry h
 obtain⟨d,e,hd,he,hc,hn,q⟩:=h
 exact qm9 I _ X.A d e x y v u (Nat.le_refl _) hd he rx ry hc (by lia) X.prog X.w X.xe _ ⟨.bl (ltD d e),H,I,rfl,q⟩
def vLtD(rx ry:R)(Q:R->Prop):Prop:=ordD rx.d ry.d=true/\depD rx.d<=50/\Q (.val (.bl (ltD rx.d ry.d)))
theorem q1r(hu:X.A.units+64<cLine):VO X (compareOp .Lt) vLtD:=⟨_,qzu (by lia),λB H x y rx ry Q Qd s px py h k=>⟨rx.d,ry.d,px.rep s,py.rep s,h.1,h.2.1,k (.val (.bl (ltD rx.d ry.d))) _ B H (.refl s) (repV rfl) h.2.2⟩⟩
end
end L2
namespace L2
open PySem PySem.Spec PyProof.Rows Builtin.Str
section
variable {X:Cx}
abbrev TJ:=St->Hp->Str->VK->Prop
structure QJ(X:Cx)(vs:List Expr)(t:TJ):Prop where
 u:∀(pins:List (Addr×Obj)) (s:Shared) (σ:St) (H:Hp) (out:Str) (Q:VK),Inv X pins σ H s->t σ H out Q->wpAny (model X.prog X.w) X.A (joinParts out (evalEach vs X.env)) (EP X pins σ Q) X.xe s
end
section
variable {X:Cx} {EX:St->XK} {K:PySem.W.Frag} {o e e1 e2:Expr} {to te t1 t2:TV} {apos cpos p pos:Pos} {x:Str} {rest:List Expr}
abbrev TVJ:=VSt->Str->(R->Prop)->Prop
def RfJ(K:PySem.W.Frag)(t:TJ)(u:TVJ):Prop:=∀(H0 B H:Hp) (τ:VSt) (σ:St) (out:Str) (Q:VK) (Qd:R->Prop),Same B H->Slots K H0 B H τ σ->u τ out Qd->(∀r v B' H',Stp B H B' H'->RepR K B' H H' r v->Qd r->Q v H')->t σ H out Q
structure VJ(X:Cx)(EX:St->XK)(vs:List Expr)(t:TVJ):Prop where
 u:∃tj,QJ X vs tj/\RfJ X.K tj t
end
end L2
namespace L2
open PySem PySem.Spec PyProof.Rows
section
variable {X:Cx} {EX:St->XK} {K:PySem.W.Frag} {B H H0:Hp} {e:Expr} {t:TV} {τ:VSt} {σ:St}
end
end L2
namespace L2
open PySem PySem.Spec PyProof.Rows
section
variable {X:Cx} {EX:St->XK} {K:PySem.W.Frag} {B H B' H' H0 B0 B1 H1:Hp} {st:Stmt} {rest:List Stmt} {t u:TVS} {e a:Expr} {te ta:TV} {tT:TVT} {tA:TVA} {es:List Expr} {pos pos' p p2 apos cpos:Pos} {x y:Str} {τ:VSt} {σ:St} {r:R} {v:V}
def RfAI(K:PySem.W.Frag)(EX:St->XK)(te:TA)(t:TVA)(k j:Nat):Prop:=∀(H0 B H:Hp) (τ:VSt) (σ:St) (Q:List V->Hp->Prop) (Qd:AR->Prop),Same B H->Slots K H0 B H τ σ->(∃c ps,τ[j]?=some (some (R.own (.io c ps))))->t τ Qd->(∀n C B' H',Stp B H B' H'->clsOf K n C->Qd (.exc n)->EX σ (.ref C) none H') ->
 (∀ds vs B' H' ad,Stp B H B' H'->k<=vs.length->σ[j]?=some (some (.ref ad))->Reps K B' ds vs->Qd (.ok ds)->Q (vs.insertIdx k (.ref ad)) H')->te σ H Q
structure VAI(X:Cx)(EX:St->XK)(es:List Expr)(t:TVA)(k j:Nat):Prop where
 u:∃te,QA X es te/\RfAI X.K EX te t k j
theorem Slots.consV{d:D}(S:Slots K H0 B H τ σ)(h:Rep K B d v):Slots K H0 B H (some (.val d)::τ) (some v::σ):=by
 refine⟨by have:=S.len;simp[this],λi f e=>?_,λi f e=>?_,λi f e=>?_,λi j f g ad e1 e2 e3 e4=>?_⟩
 ·cases i with
 |zero=>simp at e;subst e;exact⟨v,rfl,h⟩
 |succ i=>simpa using S.val i f (by simpa using e)
 ·cases i with
 |zero=>simp at e
 |succ i=>simpa using S.fz i f (by simpa using e)
 ·cases i with
 |zero=>simp at e
 |succ i=>simpa using S.own i f (by simpa using e)
 ·cases i with
 |zero=>simp at e1
 |succ i =>
   cases j with
  |zero=>simp at e2
  |succ j =>
    rw[S.sep i j f g ad (by simpa using e1) (by simpa using e2) (by simpa using e3) (by simpa using e4)]
end
section
variable {K:PySem.W.Frag} {x qual:Str} {st:Stmt} {f:Addr} {fd:FuncData} {ps:List Str}
theorem qcf{α:Type}{us:List α}{n:Nat}(h:us.length=n+1):∃a t,us=a::t/\t.length=n:=by
 cases us with
|nil=>cases h
|cons a t=>exact⟨a,t,rfl,Nat.succ.inj h⟩
theorem Fun.binds1(F:Fun K x qual st f fd)(hp:ps.length=1)(h:∀(kV doc pm:Value) (an:Option Addr) (cdv ct a0:Value),bindArgs (PySem.W.fnOf x qual (qcw st) (qbx st) (qai st) .none kV doc pm an cdv ct) ⟨[a0],[]⟩=pure (ps.zip [a0])):Binds K fd ps [] :=
 F.binds λkV doc pm an cdv ct us hl=>by
  obtain⟨a0,t,rfl,h0⟩:=qcf (hl.trans hp)
  cases List.length_eq_zero_iff.mp h0
  exact h kV doc pm an cdv ct a0
theorem Fun.binds2(F:Fun K x qual st f fd)(hp:ps.length=2)(h:∀(kV doc pm:Value) (an:Option Addr) (cdv ct a0 a1:Value),bindArgs (PySem.W.fnOf x qual (qcw st) (qbx st) (qai st) .none kV doc pm an cdv ct) ⟨[a0,a1],[]⟩=pure (ps.zip [a0,a1])):Binds K fd ps [] :=
 F.binds λkV doc pm an cdv ct us hl=>by
  obtain⟨a0,t,rfl,h0⟩:=qcf (hl.trans hp)
  obtain⟨a1,t,rfl,h1⟩:=qcf h0
  cases List.length_eq_zero_iff.mp h1
  exact h kV doc pm an cdv ct a0 a1
theorem Fun.binds3(F:Fun K x qual st f fd)(hp:ps.length=3)(h:∀(kV doc pm:Value) (an:Option Addr) (cdv ct a0 a1 a2:Value),bindArgs (PySem.W.fnOf x qual (qcw st) (qbx st) (qai st) .none kV doc pm an cdv ct) ⟨[a0,a1,a2],[]⟩=pure (ps.zip [a0,a1,a2])):Binds K fd ps [] :=
 F.binds λkV doc pm an cdv ct us hl=>by
  obtain⟨a0,t,rfl,h0⟩:=qcf (hl.trans hp)
  obtain⟨a1,t,rfl,h1⟩:=qcf h0
  obtain⟨a2,t,rfl,h2⟩:=qcf h1
  cases List.length_eq_zero_iff.mp h2
  exact h kV doc pm an cdv ct a0 a1 a2
theorem Fun.binds4(F:Fun K x qual st f fd)(hp:ps.length=4)(h:∀(kV doc pm:Value) (an:Option Addr) (cdv ct a0 a1 a2 a3:Value),bindArgs (PySem.W.fnOf x qual (qcw st) (qbx st) (qai st) .none kV doc pm an cdv ct) ⟨[a0,a1,a2,a3],[]⟩=pure (ps.zip [a0,a1,a2,a3])):Binds K fd ps [] :=
 F.binds λkV doc pm an cdv ct us hl=>by
  obtain⟨a0,t,rfl,h0⟩:=qcf (hl.trans hp)
  obtain⟨a1,t,rfl,h1⟩:=qcf h0
  obtain⟨a2,t,rfl,h2⟩:=qcf h1
  obtain⟨a3,t,rfl,h3⟩:=qcf h2
  cases List.length_eq_zero_iff.mp h3
  exact h kV doc pm an cdv ct a0 a1 a2 a3
end
theorem WyOk.ok{w:List Str}(h:WyOk w):WyOk w:=h
end L2
namespace L2
open PySem PySem.Spec PyProof.Rows
section
variable {X:Cx} {EX:St->XK} {a b e:Expr} {es:List Expr} {pos p tp:Pos} {tA:TVA} {te:TV}
end
end L2
namespace L2
open PySem PySem.Spec PyProof.Rows
section
variable {X:Cx} {EX:St->XK} {K:PySem.W.Frag} {B H B' H' H0 B0 B1 H1:Hp} {st:Stmt} {rest:List Stmt} {t u:TVS} {e a:Expr} {te ta tk:TV} {tT:TVT} {tA:TVA} {es:List Expr} {pos pos' p p2 apos cpos:Pos} {x y:Str} {τ:VSt} {σ:St} {r:R} {v:V}
def q1z(K:PySem.W.Frag)(EX:St->XK)(te:TA)(t:TVA)(k j:Nat):Prop:=∀(H0 B H:Hp) (τ:VSt) (σ:St) (Q:List V->Hp->Prop) (Qd:AR->Prop),Same B H->Slots K H0 B H τ σ->(∃ks ps,τ[j]?=some (some (R.own (.dT ks ps))))->t τ Qd->(∀n C B' H',Stp B H B' H'->clsOf K n C->Qd (.exc n)->EX σ (.ref C) none H') ->
 (∀ds vs B' H' ad,Stp B H B' H'->k<=vs.length->σ[j]?=some (some (.ref ad))->Reps K B' ds vs->Qd (.ok ds)->Q (vs.insertIdx k (.ref ad)) H')->te σ H Q
structure VAIT(X:Cx)(EX:St->XK)(es:List Expr)(t:TVA)(k j:Nat):Prop where
 u:∃te,QA X es te/\q1z X.K EX te t k j
end
section
variable {X:Cx} {p kp pos:Pos} {a d:Expr}
end
section
variable {X:Cx} {EX:St->XK} {p kp pos cp:Pos} {a:Expr} {te:TV} {j:Nat}
end
section
variable {prog:Program} {w:World} {A:Around} {E:Value->Shared->Prop} {s:Shared} {d:Addr} {es:Array DictEntry} {ep:Nat}
end
section
variable {X:Cx}
end
section
variable {P:Program} {w:World} {K:PySem.W.Frag} {mg:Str->Option Value} {base h:Heap} {x:Str} {st:Stmt} {k:Nat} {ps:List Str} {sp:Sp}
def qc2(K:PySem.W.Frag)(x:Str)(st:Stmt):Prop:=∃(f:Addr) (fd:FuncData),PySem.W.nsIn K mainGlobals x=some (some (.ref f))/\Fun K x x st f fd
theorem q2w{f:Addr}{oc:Value}{od an:Option Addr}{osl:Array (Option Value)}{kV doc pm cdv ct:Value}(a:PySem.W.nsIn K mainGlobals x=some (some (.ref f)))(l:K.lookup f=some ⟨oc,od,.func (PySem.W.fnOf x x (qcw st) (qbx st) (qai st) .none kV doc pm an cdv ct),osl⟩)
  (c:PySem.W.codeIn K cdv x=true) (q:PySem.W.keepIn K (.ref f)=true):qc2 K x st:=⟨f,_,a,qu2 l c q⟩
theorem calD(P:Program)(w:World)(base:Heap)(X:K.In h)(G:h.Ns mainGlobals mg)(D:qc2 K x st)(ok:∀ {f:Addr} {fd:FuncData},Fun K x x st f fd->FnOk P w K mg base CX0 k f fd ps sp)(b:∀ {f:Addr} {fd:FuncData},Fun K x x st f fd->Binds K fd ps []):Cal P w K mg base k x ps sp :=
 let ⟨_,_,a,F⟩:=D;.mk (ok F) (PySem.W.mg_of X G a) F.kp (b F)
end
end L2
namespace L2
open PySem PySem.Spec PyProof.Rows
section
variable {X:Cx}
end
end L2
namespace L2
open PySem PySem.Spec PyProof.Rows
section
variable {X:Cx} {EX:St->XK} {K:PySem.W.Frag} {B B' H H0:Hp} {τ:VSt} {σ:St} {x:Str} {e:Expr} {te:TV} {rest:List Stmt} {u:TVS} {pos pos':Pos}
end
end L2
namespace L2
open PySem PySem.Spec PyProof.Rows
section
variable {X:Cx} {EX:St->XK} {e a o i:Expr} {te ta to ti:TV} {pos pos' p p2 apos cpos:Pos} {x:Str} {f:Expr} {tf:TV}
end
end L2
namespace L2
open PySem PySem.Spec PyProof.Rows
section
variable {X:Cx}
end
end L2
namespace PySem
section
variable {prog:Program} {w:World} {K:Type} [DecidableEq K] {knd:HeapKind prog w K} {A:Around} {E:Value->Shared->Prop} {s:Shared}
end
section
variable {prog:Program} {w:World} {K:Type} [DecidableEq K] (knd:HeapKind prog w K) (d a:Addr)
end
end PySem
namespace L2
open PySem PySem.Spec PyProof.Rows
section
variable {X:Cx} {pins:List (Addr×Obj)} {σ:St} {H:Hp} {s:Shared} {a b:Addr} {u r:Value} {d:V} {A:Around} {E:Value->Shared->Prop}
end
end L2
namespace L2
open PySem PySem.Spec PyProof.Rows
section
variable {X:Cx} {o e f:Expr} {apos cpos:Pos} {td ty tx:TE}
end
section
variable {X:Cx} {EX:St->XK} {K:PySem.W.Frag} {B H B' H' H0 B0 B1 H1:Hp} {st:Stmt} {rest:List Stmt} {t u:TVS} {e f a:Expr} {te ta tk tf:TV} {tT:TVT} {tA:TVA} {es:List Expr} {pos pos' p p2 p3 apos cpos:Pos} {x y:Str} {τ:VSt} {σ:St} {r:R} {v:V}
end
end L2
namespace PySem
namespace SetTable
def stp5:Nat->Nat->Nat
|0,x=>x
|n+1,x=>stp5 n (x*5+1)
theorem qi3:∀(n m x:Nat),stp5 (n+m) x=stp5 m (stp5 n x)
|0,m,x=>by rw[Nat.zero_add];rfl
|n+1,m,x=>by
  rw[show n+1+m=(n+m)+1 by lia]
  show stp5 (n+m) (x*5+1)=stp5 m (stp5 n (x*5+1))
  exact qi3 n m _
theorem qnu:∀k:Nat,∃c:Nat,∀x,stp5 (2 ^ k) x=x+2 ^ k*(2*c+1)*(4*x+1)
|0=>⟨0,λx=>by show x*5+1=_;simp;lia⟩
|k+1=>by
  obtain⟨c,h⟩:=qnu k
  refine⟨c+2 ^ k*(2*c+1)*(2*c+1),λx=>?_⟩
  rw[show 2 ^ (k+1)=2 ^ k+2 ^ k by rw[Nat.pow_succ];lia,qi3,h x,h]
  generalize 2 ^ k=P
  generalize hS:P*(2*c+1)=S
  have e:(P+P)*(2*(c+S*(2*c+1))+1)=S*(2+4*S):=by
   rw[←hS]
   simp only[Nat.mul_add,Nat.add_mul,Nat.mul_one,Nat.one_mul,Nat.mul_assoc,Nat.mul_left_comm,Nat.mul_comm]
   lia
  rw[e]
  simp only[Nat.mul_add,Nat.add_mul,Nat.mul_one,Nat.one_mul,Nat.mul_assoc,Nat.mul_left_comm,Nat.mul_comm]
  lia
theorem qnt:∀(k x q:Nat),∃n,n<2 ^ k/\stp5 n x%2 ^ k=q%2 ^ k
|0,x,q=>⟨0,by decide,by rw[Nat.pow_zero,Nat.mod_one,Nat.mod_one]⟩
|k+1,x,q=>by
  obtain⟨n,hn,e⟩:=qnt k x q
  obtain⟨c,hc⟩:=qnu k
  have hp:0<2 ^ k:=Nat.pow_pos (by decide)
  have e2:2 ^ (k+1)=2 ^ k*2:=Nat.pow_succ ..
  generalize hy:stp5 n x=y at e
  by_cases z:y%(2 ^ k*2)=q%(2 ^ k*2)
  ·exact⟨n,by rw[e2];lia,by rw[e2,hy];exact z⟩
  ·refine⟨n+2 ^ k,by rw[e2];lia,?_⟩
   rw[e2,qi3,hy,hc y]
   have e3:y+2 ^ k*(2*c+1)*(4*y+1)=(y+2 ^ k)+2 ^ k*2*(c*(4*y+1)+2*y):=by
    simp only[Nat.mul_add,Nat.add_mul,Nat.mul_one,Nat.one_mul,Nat.mul_assoc,Nat.mul_left_comm,Nat.mul_comm]
    lia
   rw[e3,Nat.add_mul_mod_self_left]
   rw[Nat.mod_mul,Nat.mod_mul,e] at z
   rw[Nat.mod_mul,Nat.mod_mul,Nat.add_mod_right,Nat.add_div_right _ hp,e]
   have a:=Nat.mod_lt (y / 2 ^ k) (show 2>0 by decide)
   have b:=Nat.mod_lt (q / 2 ^ k) (show 2>0 by decide)
   have n1:y / 2 ^ k%2≠q / 2 ^ k%2:=λw=>z (by rw[w])
   have:(y / 2 ^ k+1)%2=q / 2 ^ k%2:=by lia
   rw[this]
def stM(m:Nat):Nat->Nat->Nat
|0,x=>x
|n+1,x=>stM m n ((x*5+1)%m)
theorem qvm(m:Nat):∀(n x:Nat),stM m n (x%m)=stp5 n x%m
|0,x=>rfl
|n+1,x=>by
  show stM m n ((x%m*5+1)%m)=stp5 n (x*5+1)%m
  rw[←qvm m n (x*5+1)]
  congr 1
  rw[Nat.add_mod,Nat.mul_mod,Nat.mod_mod,←Nat.mul_mod,←Nat.add_mod]
theorem qyi{k x q:Nat}(hx:x<2 ^ k)(hq:q<2 ^ k):∃n,n<2 ^ k/\stM (2 ^ k) n x=q:=by
 obtain⟨n,hn,e⟩:=qnt k x q
 refine⟨n,hn,?_⟩
 have:=qvm (2 ^ k) n x
 rw[Nat.mod_eq_of_lt hx] at this
 rw[this,e,Nat.mod_eq_of_lt hq]
def qdn(mask:Nat):Nat->Nat×Nat->Nat×Nat
|0,p=>p
|n+1,p=>qdn mask n (leap mask p.1 p.2)
theorem qj5(mask:Nat):∀(n m:Nat) (p:Nat×Nat),qdn mask (n+m) p=qdn mask m (qdn mask n p)
|0,m,p=>by rw[Nat.zero_add];rfl
|n+1,m,p=>by
  rw[show n+1+m=(n+m)+1 by lia]
  exact qj5 mask n m _
theorem qhv(mask:Nat):∀(n:Nat) (p:Nat×Nat),(qdn mask n p).2=p.2 / 32 ^ n
|0,p=>by simp[qdn]
|n+1,p=>by
  show (qdn mask n (leap mask p.1 p.2)).2=_
  rw[qhv mask n]
  show p.2 / 32 / 32 ^ n=_
  rw[Nat.div_div_eq_div_mul,Nat.pow_succ,Nat.mul_comm]
theorem qj6{mask:Nat}:∀(n:Nat) {p:Nat×Nat},p.1<=mask->(qdn mask n p).1<=mask
|0,p,h=>h
|n+1,p,h=>qj6 n (Nat.le_of_lt_succ (Nat.mod_lt _ (Nat.succ_pos _)))
theorem qhw(mask:Nat):∀(n i:Nat),qdn mask n (i,0)=(stM (mask+1) n i,0)
|0,i=>rfl
|n+1,i=>by
  show qdn mask n (leap mask i 0)=_
  have:leap mask i 0=((i*5+1)%(mask+1),0):=by unfold leap;rfl
  rw[this,qhw mask n]
  rfl
theorem qk8(h:Int):bits h<2 ^ 64:=by
 unfold bits
 have h0:=Int.emod_nonneg h (show (2 ^ 64:Int)≠0 by decide)
 have h1:=Int.emod_lt_of_pos h (show (0:Int)<2 ^ 64 by decide)
 have e:((2 ^ 64:Nat):Int)=2 ^ 64:=by decide
 lia
theorem qgo{mask k i per q:Nat}(hm:mask+1=2 ^ k)(hi:i<=mask)(hp:per<2 ^ 64)(hq:q<=mask):∃n,n<mask+14/\(qdn mask n (i,per)).1=q:=by
 have h13:(qdn mask 13 (i,per)).2=0:=by
  rw[qhv]
  exact Nat.div_eq_of_lt (Nat.lt_of_lt_of_le hp (by decide))
 have l13:(qdn mask 13 (i,per)).1<=mask:=qj6 13 hi
 obtain⟨n,hn,e⟩:=qyi (k:=k) (x:=(qdn mask 13 (i,per)).1) (q:=q) (by lia) (by lia)
 refine⟨13+n,by lia,?_⟩
 rw[qj5,show qdn mask 13 (i,per)=((qdn mask 13 (i,per)).1,0) from Prod.ext rfl h13,qhw,hm]
 exact e
end SetTable
end PySem
namespace PySem
namespace SetTable
theorem sub_len{α:Type}[DecidableEq α]:∀ {l l':List α},l.Nodup->(∀x∈l,x∈l')->l.length<=l'.length
|[],_,_,_=>Nat.zero_le _
|a::l,l',nd,h=>by
  have n:=List.nodup_cons.mp nd
  have ha:=h a List.mem_cons_self
  have:=sub_len (l:=l) (l':=l'.erase a) n.2 λx m=>(List.mem_erase_of_ne (λe=>n.1 (by rw[←e];exact m))).mpr (h x (List.mem_cons_of_mem _ m))
  rw[List.length_erase_of_mem ha] at this
  have:=List.length_pos_of_mem ha
  rw[List.length_cons]
  lia
def Inc(xs:Array Nat):Prop:=∀i j (hi:i<xs.size) (hj:j<xs.size),i<j->xs[i]<xs[j]
theorem qh8{xs:Array Nat}(h:Inc xs)(j:Nat):∀(fuel lo hi:Nat),hi-lo<=fuel->lo<=hi->hi<=xs.size->(∀i (l:i<xs.size),i<lo->xs[i]<j)->(∀i (l:i<xs.size),hi<=i->j<=xs[i]) ->
  below.go xs j fuel lo hi<=xs.size/\(∀i (l:i<xs.size),i<below.go xs j fuel lo hi->xs[i]<j)/\(∀i (l:i<xs.size),below.go xs j fuel lo hi<=i->j<=xs[i])
|0,lo,hi,h1,h2,h3,h4,h5=>by
  have:lo=hi:=by lia
  subst this
  exact⟨h3,h4,h5⟩
|fuel+1,lo,hi,h1,h2,h3,h4,h5=>by
  unfold below.go
  by_cases l:lo<hi
  ·rw[if_pos l]
   have ml:(lo+hi) / 2<xs.size:=by lia
   have eg:xs.getD ((lo+hi) / 2) j=xs[(lo+hi) / 2]:=by simp[ml]
   simp only[eg]
   by_cases c:xs[(lo+hi) / 2]<j
   ·rw[if_pos c]
    refine qh8 h j fuel _ hi (by lia) (by lia) h3 (λi li hl=>?_) h5
    rcases Nat.lt_or_ge i ((lo+hi) / 2) with z|z
    ·have:=h i _ li ml z;lia
    ·have:i=(lo+hi) / 2:=by lia
     subst this
     exact c
   ·rw[if_neg c]
    refine qh8 h j fuel lo _ (by lia) (by lia) (by lia) h4 (λi li hl=>?_)
    rcases Nat.lt_or_ge ((lo+hi) / 2) i with z|z
    ·have:=h _ i ml li z;lia
    ·have:i=(lo+hi) / 2:=by lia
     subst this
     lia
  ·rw[if_neg l]
   have:lo=hi:=by lia
   subst this
   exact⟨h3,h4,h5⟩
theorem qhq{xs:Array Nat}(h:Inc xs)(j:Nat):below xs j<=xs.size/\(∀i (l:i<xs.size),i<below xs j->xs[i]<j)/\(∀i (l:i<xs.size),below xs j<=i->j<=xs[i]) :=
 qh8 h j xs.size 0 xs.size (by lia) (Nat.zero_le _) (Nat.le_refl _) (λi _ z=>absurd z (Nat.not_lt_zero _)) (λi l z=>absurd l (by lia))
structure TOk(t:SetTable)(n:Nat):Prop where
 mk2:∃k,t.mask+1=2 ^ k
 big:7<=t.mask
 few:t.mask<=8191
 sz:t.place.size=n
 so:Inc t.place
 lo:∀j∈t.place.toList,j<=t.mask
 nd:t.dummies=#[]
 fl:n<=t.mask
section
variable {t:SetTable} {n:Nat}
theorem TOk.slot(T:TOk t n)(j:Nat):(j∉t.place.toList/\t.slot j=.empty)\/∃i,t.place[i]?=some j/\i<n/\t.slot j=.live i:=by
 obtain⟨b1,b2,b3⟩:=qhq T.so j
 have dm:has t.dummies j=false:=by rw[T.nd];rfl
 unfold SetTable.slot
 simp only[dm]
 by_cases m:j∈t.place.toList
 ·obtain⟨i,hi,e⟩:=List.mem_iff_getElem.mp m
  have hi':i<t.place.size:=by simpa using hi
  have e':t.place[i]=j:=by simpa using e
  have eb:below t.place j=i:=by
   rcases Nat.lt_trichotomy (below t.place j) i with l|l|l
   ·have h1:=b3 (below t.place j) (by lia) (Nat.le_refl _)
    have h2:=T.so _ i (by lia) hi' l
    lia
   ·exact l
   ·have:=b2 i hi' l
    lia
  right
  refine⟨i,by rw[Array.getElem?_eq_getElem hi',e'],by rw[←T.sz];exact hi',?_⟩
  rw[eb,Array.getElem?_eq_getElem hi',e']
  simp
 ·left
  refine⟨m,?_⟩
  have:¬ (t.place[below t.place j]?==some j)=true:=λz=>by
   have z:t.place[below t.place j]?=some j:=by simpa using z
   obtain⟨hl,e⟩:=Array.getElem?_eq_some_iff.mp z
   exact m (by rw[←e];simp)
  rw[if_neg this,if_neg (by decide)]
theorem TOk.room(T:TOk t n):∃q,q<=t.mask/\t.slot q=.empty:=by
 apply Classical.byContradiction
 intro no
 have all:∀q∈List.range (t.mask+1),q∈t.place.toList:=λq m=>by
  have:=List.mem_range.mp m
  rcases T.slot q with ⟨_,e⟩|⟨i,e,_⟩
  ·exact absurd ⟨q,by lia,e⟩ no
  ·obtain⟨hl,e⟩:=Array.getElem?_eq_some_iff.mp e
   rw[←e];simp
 have:=sub_len List.nodup_range all
 rw[List.length_range] at this
 have e:t.place.toList.length=n:=by simpa using T.sz
 have:=T.fl
 lia
def advs(t:SetTable):Nat->Probe->Probe
|0,p=>p
|n+1,p=>advs t n (t.advance p)
theorem qdl(t:SetTable):∀(n m:Nat) (p:Probe),advs t (n+m) p=advs t m (advs t n p)
|0,m,p=>by rw[Nat.zero_add];rfl
|n+1,m,p=>by
  rw[show n+1+m=(n+m)+1 by lia]
  exact qdl t n m _
def qc6(mask:Nat)(x:Nat×Nat):Probe:={ j:=x.1,more:=runEnd mask x.1-x.1,i:=x.1,perturb:=x.2,dummy:=none }
theorem qh7(t:SetTable):∀(k:Nat) (p:Probe),p.more=k->advs t k p={ p with j:=p.j+k,more:=0 }
|0,p,h=>by
  show p=_
  cases p
  simp only at h
  subst h
  rfl
|k+1,p,h=>by
  show advs t k (t.advance p)=_
  have e:t.advance p={ p with j:=p.j+1,more:=p.more-1 }:=by
   unfold advance
   rw[if_pos (by lia)]
  rw[e,qh7 t k _ (by show p.more-1=k;lia)]
  show ({ p with j:=p.j+1+k,more:=0 }:Probe)={ p with j:=p.j+(k+1),more:=0 }
  rw[show p.j+1+k=p.j+(k+1) by lia]
theorem qpk(t:SetTable)(x:Nat×Nat):∃n,n<=10/\advs t n (qc6 t.mask x)=qc6 t.mask (leap t.mask x.1 x.2):=by
 refine⟨(runEnd t.mask x.1-x.1)+1,?_,?_⟩
 ·unfold runEnd
  split<;>lia
 ·rw[qdl,qh7 t (runEnd t.mask x.1-x.1) (qc6 t.mask x) rfl]
  simp only[advs]
  unfold advance
  rw[if_neg (by show ¬ (0>0);decide)]
  rfl
theorem qho(t:SetTable):∀(m:Nat) (x:Nat×Nat),∃n,n<=10*m/\advs t n (qc6 t.mask x)=qc6 t.mask (qdn t.mask m x)
|0,x=>⟨0,Nat.le_refl _,rfl⟩
|m+1,x=>by
  obtain⟨a,ha,ea⟩:=qpk t x
  obtain⟨b,hb,eb⟩:=qho t m (leap t.mask x.1 x.2)
  exact⟨a+b,by lia,by rw[qdl,ea,eb];rfl⟩
def Far(t:SetTable)(n:Nat)(p:Probe):Prop:=p.dummy=none/\p.j+p.more<=t.mask/\t.slot (advs t n p).j=.empty
theorem qeb{mask i:Nat}(h:i<=mask):runEnd mask i<=mask/\i<=runEnd mask i:=by
 unfold runEnd
 split<;>lia
theorem TOk.far(T:TOk t n)(h:Int):∃k,k<10*turns t.mask/\Far t k (t.probeStart h):=by
 obtain⟨q,hq,eq⟩:=T.room
 obtain⟨k,hk⟩:=T.mk2
 have hi:bits h%(t.mask+1)<=t.mask:=Nat.le_of_lt_succ (Nat.mod_lt _ (Nat.succ_pos _))
 obtain⟨m,hm,em⟩:=qgo hk hi (qk8 h) hq
 obtain⟨a,ha,ea⟩:=qho t m (bits h%(t.mask+1),bits h)
 have e0:t.probeStart h=qc6 t.mask (bits h%(t.mask+1),bits h):=rfl
 refine⟨a,?_,rfl,?_,?_⟩
 ·show a<10*(t.mask+15)
  lia
 ·rw[e0]
  have:=qeb hi
  show bits h%(t.mask+1)+(runEnd t.mask (bits h%(t.mask+1))-bits h%(t.mask+1))<=t.mask
  lia
 ·rw[e0,ea]
  show t.slot (qdn t.mask m (bits h%(t.mask+1),bits h)).1=.empty
  rw[em]
  exact eq
theorem qpi(t:SetTable){p:Probe}(h:p.j+p.more<=t.mask):(t.advance p).j+(t.advance p).more<=t.mask/\(t.advance p).dummy=p.dummy:=by
 unfold advance
 split
 ·exact⟨by show p.j+1+(p.more-1)<=t.mask;lia,rfl⟩
 ·have hi:(leap t.mask p.i p.perturb).1<=t.mask:=Nat.le_of_lt_succ (Nat.mod_lt _ (Nat.succ_pos _))
  have:=qeb hi
  refine⟨?_,rfl⟩
  show (leap t.mask p.i p.perturb).1+(runEnd t.mask (leap t.mask p.i p.perturb).1-(leap t.mask p.i p.perturb).1)<=t.mask
  lia
theorem TOk.met(T:TOk t n){hashAt:Nat->Int}{h:Int}:∀(fuel k:Nat) (p:Probe),k<fuel->Far t k p ->
  (∃j,probe.go t hashAt h fuel p=some (.empty j none)/\j<=t.mask/\j∉t.place.toList) \/
  ∃j i next k',probe.go t hashAt h fuel p=some (.candidate j i next)/\t.slot j=.live i/\i<n/\hashAt i=h/\k'<k/\Far t k' next
|0,k,p,hk,_=>by lia
|fuel+1,k,p,hk,⟨d,low,far⟩=>by
  unfold probe.go
  rcases T.slot p.j with ⟨m,e⟩|⟨i,e1,hi,e2⟩
  ·rw[e,d]
   exact .inl ⟨p.j,rfl,by lia,m⟩
  ·rw[e2]
   cases k with
  |zero =>
    have far:t.slot p.j=.empty:=far
    rw[e2] at far
    cases far
  |succ k =>
    obtain⟨l1,l2⟩:=qpi t low
    have far':Far t k (t.advance p):=⟨by rw[l2,d],l1,far⟩
    simp only
    by_cases c:(hashAt i==h)=true
    ·rw[if_pos c]
     exact .inr ⟨p.j,i,t.advance p,k,rfl,e2,hi,by simpa using c,by lia,far'⟩
    ·rw[if_neg c]
     rcases T.met fuel k _ (by lia) far' with z|⟨j,i',nx,k',z1,z2,z3,z4,z5,z6⟩
     ·exact .inl z
     ·exact .inr ⟨j,i',nx,k',z1,z2,z3,z4,by lia,z6⟩
end
end SetTable
end PySem
namespace PySem
namespace SetTable
theorem inc_iff{xs:Array Nat}:Inc xs↔xs.toList.Pairwise (·<·):=by
 rw[List.pairwise_iff_getElem]
 constructor
 ·intro h i j hi hj l
  have:=h i j (by simpa using hi) (by simpa using hj) l
  simpa using this
 ·intro h i j hi hj l
  have:=h i j (by simpa using hi) (by simpa using hj) l
  simpa using this
theorem TOk.put{t:SetTable}{n j:Nat}(T:TOk t n)(hj:j<=t.mask)(nw:j∉t.place.toList)(hl:n+1<=t.mask):TOk (t.put j).1 (n+1)/\(t.put j).2<=n/\(t.put j).1.mask=t.mask:=by
 obtain⟨b1,b2,b3⟩:=qhq T.so j
 have dm:has t.dummies j=false:=by rw[T.nd];rfl
 have ep:(t.put j).1.place=insertAt t.place (below t.place j) j:=rfl
 have ed:(t.put j).1.dummies=t.dummies:=by
  show (if has t.dummies j=true then _ else _)=_
  rw[dm]
  rfl
 have el:=toList_insertAt t.place (below t.place j) j
 have pm:=insertAt_perm t.place (below t.place j) j
 have sz:=pm.length_eq
 rw[Array.toList_push,List.length_append] at sz
 simp only[Array.length_toList,List.length_singleton] at sz
 refine⟨⟨T.mk2,T.big,T.few,by rw[ep,sz,T.sz],?_,λx m=>?_,by rw[ed];exact T.nd,hl⟩,by show below t.place j<=n;rw[←T.sz];exact b1,rfl⟩
 ·rw[ep,inc_iff,el]
  have P:=inc_iff.mp T.so
  rw[←List.take_append_drop (below t.place j) t.place.toList] at P
  have P:=List.pairwise_append.mp P
  have lo:∀a∈t.place.toList.take (below t.place j),a<j:=λa ma=>by
   obtain⟨i,hi,e⟩:=List.mem_iff_getElem.mp ma
   rw[List.length_take] at hi
   rw[List.getElem_take] at e
   have hi2:i<t.place.size:=by have:=hi;simp only[Array.length_toList] at this;lia
   have:=b2 i hi2 (by lia)
   rw[←e]
   simpa using this
  have hi:∀a∈t.place.toList.drop (below t.place j),j<a:=λa ma=>by
   obtain⟨i,hi,e⟩:=List.mem_iff_getElem.mp ma
   rw[List.length_drop] at hi
   rw[List.getElem_drop] at e
   have hi2:below t.place j+i<t.place.size:=by have:=hi;simp only[Array.length_toList] at this;lia
   have:=b3 _ hi2 (by lia)
   have h2:j<=a:=by rw[←e];simpa using this
   have h3:j≠a:=λz=>nw (by rw[z];exact List.mem_of_mem_drop ma)
   lia
  refine List.pairwise_append.mpr ⟨P.1,List.pairwise_cons.mpr ⟨hi,P.2.1⟩,λa ma b mb=>?_⟩
  rcases List.mem_cons.mp mb with e|m
  ·rw[e];exact lo a ma
  ·exact P.2.2 a ma b m
 ·rw[ep] at m
  have:=pm.mem_iff.mp m
  rw[Array.toList_push] at this
  rcases List.mem_append.mp this with m|m
  ·exact T.lo x m
  ·rw[List.mem_singleton.mp m];exact hj
def occ(mask:Nat)(owner:Array (Option Nat)):List Nat:=(List.range (mask+1)).filterMap λj=>owner.getD j none
structure OwnOk(mask:Nat)(owner:Array (Option Nat))(k:Nat):Prop where
 sz:owner.size=mask+1
 pm:(occ mask owner).Perm (List.range k)
theorem qel{α β:Type}{f g:α->Option β}:∀ {l:List α},(∀x∈l,f x=g x)->l.filterMap f=l.filterMap g
|[],_=>rfl
|a::l,h=>by rw[List.filterMap_cons,List.filterMap_cons,h a List.mem_cons_self,qel λx m=>h x (List.mem_cons_of_mem _ m)]
theorem qu1{α β:Type}(f:α->Option β):∀ {l:List α},(∀x∈l,(f x).isSome=true)->(l.filterMap f).length=l.length
|[],_=>rfl
|a::l,h=>by
  have ha:=h a List.mem_cons_self
  obtain⟨b,hb⟩:=Option.isSome_iff_exists.mp ha
  rw[List.filterMap_cons,hb]
  simp only[List.length_cons]
  rw[qu1 f λx m=>h x (List.mem_cons_of_mem _ m)]
theorem OwnOk.gap{mask:Nat}{owner:Array (Option Nat)}{k:Nat}(h:OwnOk mask owner k)(hk:k<=mask):∃q,q<=mask/\owner.getD q (some 0)=none:=by
 apply Classical.byContradiction
 intro no
 have all:∀q∈List.range (mask+1),(owner.getD q none).isSome=true:=λq m=>by
  have hq:=List.mem_range.mp m
  have e1:owner.getD q (some 0)=owner[q]'(by rw[h.sz];exact hq):=by simp[h.sz,hq]
  have e2:owner.getD q none=owner[q]'(by rw[h.sz];exact hq):=by simp[h.sz,hq]
  rw[e2]
  cases e:owner[q]'(by rw[h.sz];exact hq) with
 |some x=>rfl
 |none=>exact absurd ⟨q,by lia,e1.trans e⟩ no
 have:=qu1 _ all
 have l:=h.pm.length_eq
 unfold occ at l
 rw[this,List.length_range,List.length_range] at l
 lia
theorem qlg{mask:Nat}{owner:Array (Option Nat)}{q:Nat}(hq:owner.getD q (some 0)=none):∀(fuel m i per:Nat),i<=mask->(qdn mask m (i,per)).1=q->m<fuel->∃j,layClean.free mask owner fuel i per=some j/\j<=mask/\owner.getD j (some 0)=none
|0,m,i,per,_,_,h=>by lia
|fuel+1,m,i,per,hi,e,hm=>by
  have re:=qeb hi
  unfold layClean.free
  cases hf:(List.range (runEnd mask i+1-i)).find? λk=>(owner.getD (i+k) (some 0)).isNone with
 |some k =>
   have h1:=List.find?_some hf
   have h2:=List.mem_range.mp (List.mem_of_find?_eq_some hf)
   exact⟨i+k,rfl,by lia,by simpa using h1⟩
 |none =>
   have h0:=List.find?_eq_none.mp hf 0 (List.mem_range.mpr (by lia))
   cases m with
  |zero =>
    have e:i=q:=e
    rw[Nat.add_zero,e,hq] at h0
    exact absurd rfl h0
  |succ m =>
    exact qlg hq fuel m _ _ (Nat.le_of_lt_succ (Nat.mod_lt _ (Nat.succ_pos _))) e (by lia)
theorem OwnOk.put{mask:Nat}{owner:Array (Option Nat)}{k j:Nat}(h:OwnOk mask owner k)(hj:j<=mask)(e:owner.getD j (some 0)=none):OwnOk mask (owner.setIfInBounds j (some k)) (k+1):=by
 have js:j<owner.size:=by rw[h.sz];lia
 have e2:owner.getD j none=none:=by simpa [js] using e
 have mj:j∈List.range (mask+1):=List.mem_range.mpr (by lia)
 refine⟨by rw[Array.size_setIfInBounds];exact h.sz,?_⟩
 have p:=List.perm_cons_erase mj
 have same:∀x∈(List.range (mask+1)).erase j,(owner.setIfInBounds j (some k)).getD x none=owner.getD x none:=λx m=>by
  have ne:x≠j:=λz=>by
   rw[z] at m
   exact absurd m (List.Nodup.not_mem_erase List.nodup_range)
  have xs:x<owner.size:=by
   have:=List.mem_range.mp (List.mem_of_mem_erase m)
   rw[h.sz];exact this
  simp[Array.getElem_setIfInBounds,xs,Ne.symm ne]
 have o1:(occ mask owner).Perm (((List.range (mask+1)).erase j).filterMap λx=>owner.getD x none):=by
  have:=p.filterMap λx=>owner.getD x none
  rw[List.filterMap_cons,e2] at this
  exact this
 have o2:(occ mask (owner.setIfInBounds j (some k))).Perm (k::((List.range (mask+1)).erase j).filterMap λx=>owner.getD x none):=by
  have:=p.filterMap λx=>(owner.setIfInBounds j (some k)).getD x none
  rw[List.filterMap_cons,show (owner.setIfInBounds j (some k)).getD j none=some k by simp[js]] at this
  rw[qel same] at this
  exact this
 refine o2.trans ((List.Perm.cons k (o1.symm.trans h.pm)).trans ?_)
 rw[List.range_succ]
 exact(List.perm_append_singleton k (List.range k)).symm
theorem qu4{mask m:Nat}(hm:mask+1=2 ^ m):∀(hs:List Int) (owner:Array (Option Nat)) (k:Nat),OwnOk mask owner k->k+hs.length<=mask+1 ->
  ∃o',hs.foldl (λ(acc:Option (Array (Option Nat)×Nat)) h=>do
   let (owner,k) ←acc
   let j ←layClean.free mask owner (turns mask) (bits h%(mask+1)) (bits h)
   pure (owner.setIfInBounds j (some k),k+1)) (some (owner,k))=some (o',k+hs.length)/\OwnOk mask o' (k+hs.length)
|[],owner,k,h,_=>⟨owner,rfl,h⟩
|x::hs,owner,k,h,hl=>by
  rw[List.length_cons] at hl
  obtain⟨q,hq,eq⟩:=h.gap (by lia)
  have hi:bits x%(mask+1)<=mask:=Nat.le_of_lt_succ (Nat.mod_lt _ (Nat.succ_pos _))
  obtain⟨n,hn,en⟩:=qgo hm hi (qk8 x) hq
  obtain⟨j,f1,f2,f3⟩:=qlg (mask:=mask) eq (turns mask) n _ _ hi en (by show n<mask+15;lia)
  obtain⟨o',g1,g2⟩:=qu4 hm hs (owner.setIfInBounds j (some k)) (k+1) (h.put f2 f3) (by lia)
  refine⟨o',?_,by rw[List.length_cons,show k+(hs.length+1)=k+1+hs.length by lia];exact g2⟩
  rw[List.foldl_cons,List.length_cons,show k+(hs.length+1)=k+1+hs.length by lia,←g1]
  congr 1
  show (layClean.free mask owner (turns mask) (bits x%(mask+1)) (bits x)).bind _=_
  rw[f1]
  rfl
theorem qgn{mask m:Nat}(hm:mask+1=2 ^ m)(big:7<=mask)(few:mask<=8191)(finger moves:Nat)(led plain:Bool)(hashes:Array Int)(hl:hashes.size<=mask) :
  ∃t order,laid mask finger moves led plain hashes=some (t,order)/\TOk t hashes.size/\t.mask=mask/\t.led=led/\t.plain=plain/\order.toList.Perm (List.range hashes.size):=by
 have start:OwnOk mask (Array.replicate (mask+1) none) 0:=by
  refine⟨Array.size_replicate,?_⟩
  unfold occ
  rw[List.filterMap_eq_nil_iff.mpr λj m=>?_]
  ·exact List.Perm.refl _
  ·have:=List.mem_range.mp m
   simp[this]
 obtain⟨o',f1,O⟩:=qu4 hm hashes.toList _ 0 start (by simp only[Array.length_toList];lia)
 rw[Nat.zero_add,Array.length_toList] at f1 O
 have lc:layClean mask hashes=some o':=by
  unfold layClean
  rw[←Array.foldl_toList,f1]
  rfl
 have e1:((List.range (mask+1)).filterMap λj=>(o'.getD j none).map (j,·)).map (·.1)=(List.range (mask+1)).filter λj=>(o'.getD j none).isSome:=by
  rw[List.map_filterMap,←List.filterMap_eq_filter]
  refine qel λj _=>?_
  cases e:o'.getD j none<;>simp[Option.guard,e]
 have e2:((List.range (mask+1)).filterMap λj=>(o'.getD j none).map (j,·)).map (·.2)=occ mask o':=by
  unfold occ
  rw[List.map_filterMap]
  refine qel λj _=>?_
  cases o'.getD j none<;>rfl
 have len:((List.range (mask+1)).filterMap λj=>(o'.getD j none).map (j,·)).length=hashes.size:=by
  have:=O.pm.length_eq
  rw[←e2,List.length_map,List.length_range] at this
  exact this
 refine⟨_,_,by unfold laid;rw[lc];rfl,⟨⟨m,hm⟩,big,few,?_,?_,?_,rfl,hl⟩,rfl,rfl,rfl,?_⟩
 ·simp only[List.size_toArray,List.length_map]
  exact len
 ·rw[inc_iff]
  show List.Pairwise _ (List.map _ _)
  rw[e1]
  exact List.pairwise_lt_range.sublist List.filter_sublist
 ·intro j mj
  have mj:j∈List.map (·.1) ((List.range (mask+1)).filterMap λj=>(o'.getD j none).map (j,·)):=mj
  rw[e1] at mj
  have:=List.mem_range.mp (List.mem_filter.mp mj).1
  show j<=mask
  lia
 ·show (List.map _ _).Perm _
  rw[e2]
  exact O.pm
theorem qmk(n:Nat):∀(fuel k:Nat),n<8*2 ^ (k+fuel)->∃m,sizeAbove.go n fuel (8*2 ^ k)=8*2 ^ m/\n<8*2 ^ m/\(8*2 ^ m<=8*2 ^ k\/8*2 ^ m<=2*n)
|0,k,h=>⟨k,rfl,h,.inl (Nat.le_refl _)⟩
|fuel+1,k,h=>by
  unfold sizeAbove.go
  by_cases c:8*2 ^ k<=n
  ·rw[if_pos c]
   have e:8*2 ^ k*2=8*2 ^ (k+1):=by rw[Nat.pow_succ];lia
   rw[e]
   obtain⟨m,h1,h2,h3⟩:=qmk n fuel (k+1) (by rw[show k+1+fuel=k+(fuel+1) by lia];exact h)
   refine⟨m,h1,h2,?_⟩
   rcases h3 with z|z
   ·exact .inr (by lia)
   ·exact .inr z
  ·rw[if_neg c]
   exact⟨k,rfl,by lia,.inl (Nat.le_refl _)⟩
theorem qml{n:Nat}(h:n<=4095):∃m,sizeAbove n=2 ^ m/\n<sizeAbove n/\8<=sizeAbove n/\sizeAbove n<=8192:=by
 have h8:n<8*2 ^ (0+64):=Nat.lt_of_le_of_lt h (by decide)
 obtain⟨m,h1,h2,h3⟩:=qmk n 64 0 h8
 have e:sizeAbove n=8*2 ^ m:=h1
 have p:0<2 ^ m:=Nat.pow_pos (by decide)
 refine⟨m+3,by rw[e,Nat.pow_add];lia,by rw[e];exact h2,by rw[e];lia,?_⟩
 rw[e]
 rcases h3 with z|z
 ·simp at z ⊢;lia
 ·lia
theorem qor{α:Type}{es:Array α}{order:Array Nat}(h:order.toList.Perm (List.range es.size)):(order.filterMap (es[·]?)).toList.Perm es.toList:=by
 rw[Array.toList_filterMap]
 have:=h.filterMap λi=>es[i]?
 rw[filterMap_getElem?_range es] at this
 exact this
end SetTable
end PySem
namespace PySem
namespace SetTable
section
variable {t:SetTable} {n:Nat}
theorem qe5(t:SetTable)(n:Nat)(p:Probe):advs t (n+1) p=t.advance (advs t n p):=by rw[qdl];rfl
theorem qh6(t:SetTable){p:Probe}(h:p.j+p.more<=t.mask):∀n,(advs t n p).j+(advs t n p).more<=t.mask/\(advs t n p).dummy=p.dummy
|0=>⟨h,rfl⟩
|n+1=>by
  obtain⟨a,b⟩:=qh6 t h n
  obtain⟨c,d⟩:=qpi t a
  rw[qe5]
  exact⟨c,d.trans b⟩
theorem qsn{t t':SetTable}(h:t.mask=t'.mask)(p:Probe):t.advance p=t'.advance p:=by
 unfold advance
 rw[h]
theorem qjg{t t':SetTable}(h:t.mask=t'.mask):∀(n:Nat) (p:Probe),advs t n p=advs t' n p
|0,p=>rfl
|n+1,p=>by
  show advs t n (t.advance p)=advs t' n (t'.advance p)
  rw[qsn h,qjg h n]
theorem qox{t t':SetTable}(h:t.mask=t'.mask)(x:Int):t.probeStart x=t'.probeStart x:=by
 unfold probeStart
 rw[h]
theorem qkp(t:SetTable)(h:Int):(t.probeStart h).j+(t.probeStart h).more<=t.mask/\(t.probeStart h).dummy=none:=by
 have hi:bits h%(t.mask+1)<=t.mask:=Nat.le_of_lt_succ (Nat.mod_lt _ (Nat.succ_pos _))
 have:=qeb hi
 refine⟨?_,rfl⟩
 show bits h%(t.mask+1)+(runEnd t.mask (bits h%(t.mask+1))-bits h%(t.mask+1))<=t.mask
 lia
def at_(t:SetTable)(h:Int)(n:Nat):Nat:=(advs t n (t.probeStart h)).j
theorem qfl{t t':SetTable}(e:t.mask=t'.mask)(h:Int)(n:Nat):at_ t h n=at_ t' h n:=by
 unfold at_
 rw[qox e,qjg e]
def Reach(t:SetTable)(h:Int)(j:Nat):Prop:=∃n,at_ t h n=j/\∀m,m<n->at_ t h m∈t.place.toList
theorem TOk.met2(T:TOk t n){hashAt:Nat->Int}{h:Int}:∀(fuel c e:Nat),c<=e->e-c<fuel->t.slot (at_ t h e)=.empty ->
    ∃N,c<=N/\N<=e/\(∀m,c<=m->m<N->∃i,t.slot (at_ t h m)=.live i/\hashAt i≠h) /\
      ((probe.go t hashAt h fuel (advs t c (t.probeStart h))=some (.empty (at_ t h N) none)/\at_ t h N<=t.mask/\at_ t h N∉t.place.toList) \/
       ∃i,probe.go t hashAt h fuel (advs t c (t.probeStart h))=some (.candidate (at_ t h N) i (advs t (N+1) (t.probeStart h)))/\t.slot (at_ t h N)=.live i/\i<n/\hashAt i=h/\N<e)
 |0,c,e,h1,h2,h3=>by lia
 |fuel+1,c,e,h1,h2,h3=>by
    obtain⟨s1,s2⟩:=qkp t h
    obtain⟨l1,l2⟩:=qh6 t s1 c
    unfold probe.go
    rcases T.slot (at_ t h c) with ⟨m,e1⟩|⟨i,e1,hi,e2⟩
    · refine⟨c,Nat.le_refl _,h1,λm a b=>by lia,.inl ⟨?_,?_,m⟩⟩
      · have e1:t.slot (advs t c (t.probeStart h)).j=.empty:=e1
        rw[e1,l2,s2]
        rfl
      · show (advs t c (t.probeStart h)).j<=t.mask
        lia
    · have ne:c≠e:=λz=>by
        rw[←z,e2] at h3
        cases h3
      have e3:t.slot (advs t c (t.probeStart h)).j=.live i:=e2
      rw[e3]
      simp only
      by_cases q:(hashAt i==h)=true
      · rw[if_pos q]
        exact⟨c,Nat.le_refl _,h1,λm a b=>by lia,.inr ⟨i,by rw[qe5];rfl,e2,hi,by simpa using q,by lia⟩⟩
      · rw[if_neg q,←qe5]
        obtain⟨N,a1,a2,a3,a4⟩:=T.met2 fuel (c+1) e (by lia) (by lia) h3
        refine⟨N,by lia,a2,λm b1 b2=>?_,a4⟩
        rcases Nat.lt_or_ge c m with z|z
        · exact a3 m z b2
        · have:m=c:=by lia
          subst this
          exact⟨i,e2,by simpa using q⟩
theorem TOk.stop(T:TOk t n)(h:Int):∃e,e<10*turns t.mask/\t.slot (at_ t h e)=.empty:=by
 obtain⟨k,hk,_,_,f⟩:=T.far h
 exact⟨k,hk,f⟩
structure TOkH(t:SetTable)(hs:List Int):Prop where
 ok:TOk t hs.length
 rc:∀i (hi:i<hs.length),∃j,t.place[i]?=some j/\Reach t hs[i] j
theorem TOkH.put{hs:List Int}(T:TOkH t hs){h:Int}{N:Nat}(lo:at_ t h N<=t.mask)(e:at_ t h N∉t.place.toList)(pa:∀m,m<N->at_ t h m∈t.place.toList)(hl:hs.length+1<=t.mask) :
  TOkH (t.put (at_ t h N)).1 (hs.take (t.put (at_ t h N)).2++h::hs.drop (t.put (at_ t h N)).2)/\(t.put (at_ t h N)).2<=hs.length/\(t.put (at_ t h N)).1.mask=t.mask:=by
 obtain⟨k1,k2,k3⟩:=T.ok.put lo e hl
 generalize hj:at_ t h N=j at *
 have ep:(t.put j).1.place=insertAt t.place (t.put j).2 j:=rfl
 have el:=toList_insertAt t.place (t.put j).2 j
 have sz:(hs.take (t.put j).2++h::hs.drop (t.put j).2).length=hs.length+1:=by
  rw[List.length_append,List.length_cons,List.length_take,List.length_drop]
  lia
 have pl:t.place.toList.length=hs.length:=by have:=T.ok.sz;simpa using this
 have sub:∀x,x∈t.place.toList->x∈(t.put j).1.place.toList:=λx m=>by
  rw[ep,el]
  have m2:=m
  rw[←List.take_append_drop (t.put j).2 t.place.toList] at m2
  rcases List.mem_append.mp m2 with z|z
  ·exact List.mem_append_left _ z
  ·exact List.mem_append_right _ (List.mem_cons_of_mem _ z)
 have up:∀ {x:Int} {y:Nat},Reach t x y->Reach (t.put j).1 x y:=λ⟨n,a,b⟩=>⟨n,by rw[qfl k3];exact a,λm l=>by rw[qfl k3];exact sub _ (b m l)⟩
 refine⟨⟨by rw[sz];exact k1,λi hi=>?_⟩,k2,k3⟩
 have ea:(t.put j).1.place[i]?=(t.place.toList.take (t.put j).2++j::t.place.toList.drop (t.put j).2)[i]?:=by
  rw[←el,←ep,Array.getElem?_toList]
 rw[ea]
 have tl:(t.place.toList.take (t.put j).2).length=(t.put j).2:=by rw[List.length_take];lia
 have th:(hs.take (t.put j).2).length=(t.put j).2:=by rw[List.length_take];lia
 rcases Nat.lt_trichotomy i (t.put j).2 with l|l|l
 ·obtain⟨y,y1,y2⟩:=T.rc i (by lia)
  refine⟨y,?_,?_⟩
  ·rw[List.getElem?_append_left (by lia),List.getElem?_take_of_lt l,Array.getElem?_toList]
   exact y1
  ·rw[List.getElem_append_left (by lia),List.getElem_take]
   exact up y2
 ·subst l
  refine⟨j,?_,?_⟩
  ·rw[List.getElem?_append_right (by lia),tl,Nat.sub_self]
   rfl
  ·rw[List.getElem_append_right (by lia)]
   simp only[th,Nat.sub_self,List.getElem_cons_zero]
   exact⟨N,by rw[qfl k3];exact hj,λm lm=>by rw[qfl k3];exact sub _ (pa m lm)⟩
 ·obtain⟨y,y1,y2⟩:=T.rc (i-1) (by lia)
  refine⟨y,?_,?_⟩
  ·rw[List.getElem?_append_right (by lia),tl,show i-(t.put j).2=(i-(t.put j).2-1)+1 by lia,List.getElem?_cons_succ,List.getElem?_drop,Array.getElem?_toList,show (t.put j).2+(i-(t.put j).2-1)=i-1 by lia]
   exact y1
  ·have eq:(hs.take (t.put j).2++h::hs.drop (t.put j).2)[i]?=hs[i-1]?:=by
    rw[List.getElem?_append_right (by lia),th,show i-(t.put j).2=(i-(t.put j).2-1)+1 by lia,List.getElem?_cons_succ,List.getElem?_drop,show (t.put j).2+(i-(t.put j).2-1)=i-1 by lia]
   rw[List.getElem?_eq_getElem hi,List.getElem?_eq_getElem (show i-1<hs.length by lia)] at eq
   rw[Option.some.inj eq]
   exact up y2
end
end SetTable
end PySem
namespace PySem
namespace SetTable
theorem qpj(t:SetTable):∀(m:Nat) (p:Probe),m<=p.more->advs t m p={ p with j:=p.j+m,more:=p.more-m }
|0,p,_=>by cases p;rfl
|m+1,p,h=>by
  rw[qe5,qpj t m p (by lia)]
  unfold advance
  rw[if_pos (by show p.more-m>0;lia)]
  show ({ p with j:=p.j+m+1,more:=p.more-m-1 }:Probe)={ p with j:=p.j+(m+1),more:=p.more-(m+1) }
  rw[show p.j+m+1=p.j+(m+1) by lia,show p.more-m-1=p.more-(m+1) by lia]
theorem qn4(t:SetTable)(x:Nat×Nat):advs t ((runEnd t.mask x.1-x.1)+1) (qc6 t.mask x)=qc6 t.mask (leap t.mask x.1 x.2):=by
 rw[qdl,qh7 t (runEnd t.mask x.1-x.1) (qc6 t.mask x) rfl]
 simp only[advs]
 unfold advance
 rw[if_neg (by show ¬ (0>0);decide)]
 rfl
theorem qoc{P:Nat->Bool}{L k:Nat}(h:(List.range L).find? P=some k):∀m,m<k->P m=false:=λm hm=>by
 have:=(List.find?_range_eq_some.mp h).2.2 m hm
 simpa using this
theorem qjz{t:SetTable}{owner:Array (Option Nat)}{j:Nat}:∀(fuel i per:Nat),i<=t.mask->layClean.free t.mask owner fuel i per=some j->∃n,(advs t n (qc6 t.mask (i,per))).j=j/\∀m,m<n->(owner.getD (advs t m (qc6 t.mask (i,per))).j (some 0)).isSome=true
|0,i,per,_,h=>by unfold layClean.free at h;cases h
|fuel+1,i,per,hi,h=>by
  have re:=qeb hi
  have pos:∀m,m<=runEnd t.mask i-i->(advs t m (qc6 t.mask (i,per))).j=i+m:=λm hm=>by rw[qpj t m _ hm];rfl
  unfold layClean.free at h
  cases hf:(List.range (runEnd t.mask i+1-i)).find? λk=>(owner.getD (i+k) (some 0)).isNone with
 |some k =>
   rw[hf] at h
   have h2:=List.mem_range.mp (List.mem_of_find?_eq_some hf)
   refine⟨k,by rw[pos k (by lia)];exact Option.some.inj h,λm hm=>?_⟩
   rw[pos m (by lia)]
   have:=qoc hf m hm
   cases e:owner.getD (i+m) (some 0) with
  |some x=>rfl
  |none=>rw[e] at this;cases this
 |none =>
   rw[hf] at h
   obtain⟨n,n1,n2⟩:=qjz fuel _ _ (Nat.le_of_lt_succ (Nat.mod_lt _ (Nat.succ_pos _))) h
   have lp:=qn4 t (i,per)
   refine⟨(runEnd t.mask i-i)+1+n,by rw[qdl,lp];exact n1,λm hm=>?_⟩
   rcases Nat.lt_or_ge m ((runEnd t.mask i-i)+1) with l|l
   ·rw[pos m (by lia)]
    have:=List.find?_eq_none.mp hf m (List.mem_range.mpr (by lia))
    cases e:owner.getD (i+m) (some 0) with
   |some x=>rfl
   |none=>rw[e] at this;exact absurd rfl this
   ·have:=n2 (m-((runEnd t.mask i-i)+1)) (by lia)
    rw[show qc6 t.mask ((i*5+1+per / 32)%t.mask.succ,per / 32)=advs t (runEnd t.mask i-i+1) (qc6 t.mask (i,per)) from lp.symm,←qdl,show (runEnd t.mask i-i)+1+(m-((runEnd t.mask i-i)+1))=m by lia] at this
    exact this
def qph(t:SetTable)(owner:Array (Option Nat))(h:Int)(j:Nat):Prop:=∃n,at_ t h n=j/\∀m,m<n->(owner.getD (at_ t h m) (some 0)).isSome=true
theorem qnp{owner:Array (Option Nat)}{j k x:Nat}(d:Option Nat)(hj:j<owner.size)(hx:x<owner.size):(owner.setIfInBounds j (some k)).getD x d=if x=j then some k else owner.getD x d:=by
 by_cases e:x=j
 ·subst e
  simp[hj]
 ·rw[if_neg e]
  simp[Array.getElem_setIfInBounds,hx,Ne.symm e]
theorem qyw(t:SetTable)(h:Int)(m:Nat):at_ t h m<=t.mask:=by
 have:=(qh6 t (qkp t h).1 m).1
 unfold at_
 lia
structure OwnR(t:SetTable)(owner:Array (Option Nat))(hs:List Int):Prop where
 ok:OwnOk t.mask owner hs.length
 pa:∀j q,j<=t.mask->owner.getD j none=some q->∃h,hs[q]?=some h/\qph t owner h j
theorem OwnR.put{t:SetTable}{owner:Array (Option Nat)}{hs:List Int}(R:OwnR t owner hs){x:Int}{j:Nat}(hj:j<=t.mask)(e:owner.getD j (some 0)=none)(p:qph t owner x j):OwnR t (owner.setIfInBounds j (some hs.length)) (hs++[x]):=by
 have js:j<owner.size:=by rw[R.ok.sz];lia
 have up:∀ {h:Int} {y:Nat},qph t owner h y->qph t (owner.setIfInBounds j (some hs.length)) h y:=λ{h y} ⟨n,a,b⟩=>⟨n,a,λm l=>by
  have ms:at_ t h m<owner.size:=by have:=qyw t h m;rw[R.ok.sz];lia
  rw[qnp (some 0) js ms]
  by_cases z:at_ t h m=j
  ·rw[if_pos z];rfl
  ·rw[if_neg z];exact b m l⟩
 refine⟨by rw[List.length_append,List.length_singleton];exact R.ok.put hj e,λy q hy ey=>?_⟩
 have ys:y<owner.size:=by rw[R.ok.sz];lia
 rw[qnp none js ys] at ey
 by_cases z:y=j
 ·rw[if_pos z] at ey
  cases ey
  exact⟨x,by simp,by rw[z];exact up p⟩
 ·rw[if_neg z] at ey
  obtain⟨h,h1,h2⟩:=R.pa y q hy ey
  exact⟨h,by rw[List.getElem?_append_left (List.getElem?_eq_some_iff.mp h1).1];exact h1,up h2⟩
theorem qqu{t:SetTable}{m:Nat}(hm:t.mask+1=2 ^ m):∀(ys hs:List Int) (owner:Array (Option Nat)),OwnR t owner hs->hs.length+ys.length<=t.mask+1 ->
  ∃o',ys.foldl (λ(acc:Option (Array (Option Nat)×Nat)) h=>do
   let (owner,k) ←acc
   let j ←layClean.free t.mask owner (turns t.mask) (bits h%(t.mask+1)) (bits h)
   pure (owner.setIfInBounds j (some k),k+1)) (some (owner,hs.length))=some (o',hs.length+ys.length)/\OwnR t o' (hs++ys)
|[],hs,owner,R,_=>⟨owner,rfl,by rw[List.append_nil];exact R⟩
|x::ys,hs,owner,R,hl=>by
  rw[List.length_cons] at hl
  obtain⟨q,hq,eq⟩:=R.ok.gap (by lia)
  have hi:bits x%(t.mask+1)<=t.mask:=Nat.le_of_lt_succ (Nat.mod_lt _ (Nat.succ_pos _))
  obtain⟨n,hn,en⟩:=qgo hm hi (qk8 x) hq
  obtain⟨j,f1,f2,f3⟩:=qlg (mask:=t.mask) eq (turns t.mask) n _ _ hi en (by show n<t.mask+15;lia)
  have pth:qph t owner x j:=qjz (turns t.mask) _ _ hi f1
  obtain⟨o',g1,g2⟩:=qqu hm ys (hs++[x]) (owner.setIfInBounds j (some hs.length)) (R.put f2 f3 pth) (by rw[List.length_append,List.length_singleton];lia)
  rw[List.length_append,List.length_singleton] at g1
  refine⟨o',?_,by rw[List.append_assoc] at g2;exact g2⟩
  rw[List.foldl_cons,List.length_cons,show hs.length+(ys.length+1)=hs.length+1+ys.length by lia,←g1]
  congr 1
  show (layClean.free t.mask owner (turns t.mask) (bits x%(t.mask+1)) (bits x)).bind _=_
  rw[f1]
  rfl
theorem qqq{mask m:Nat}(hm:mask+1=2 ^ m)(big:7<=mask)(few:mask<=8191)(finger moves:Nat)(led plain:Bool)(hashes:Array Int)(hl:hashes.size<=mask) :
  ∃t order,laid mask finger moves led plain hashes=some (t,order)/\TOkH t (order.toList.map λq=>hashes.getD q 0)/\t.mask=mask/\t.led=led/\t.plain=plain/\order.toList.Perm (List.range hashes.size):=by
 obtain⟨t,order,l1,T,l2,l3,l4,pm⟩:=qgn hm big few finger moves led plain hashes hl
 subst l2
 refine⟨t,order,l1,⟨by rw[List.length_map,pm.length_eq,List.length_range];exact T,λi hi=>?_⟩,rfl,l3,l4,pm⟩
 have start:OwnR t (Array.replicate (t.mask+1) none) []:=by
  refine⟨⟨Array.size_replicate,?_⟩,λj q hj e=>?_⟩
  ·unfold occ
   rw[List.filterMap_eq_nil_iff.mpr λj m=>?_]
   ·exact List.Perm.refl _
   ·have:=List.mem_range.mp m
    simp[this]
  ·have:j<t.mask+1:=by lia
   simp[this] at e
 obtain⟨o',f1,O⟩:=qqu hm hashes.toList [] _ start (by simp only[Array.length_toList,List.length_nil];lia)
 rw[List.nil_append] at O
 have lc:layClean t.mask hashes=some o':=by
  unfold layClean
  rw[←Array.foldl_toList,show (0:Nat)=([]:List Int).length from rfl,f1]
  rfl
 have l1':=l1
 unfold laid at l1'
 rw[lc] at l1'
 have l1':some (_,_)=some (t,order):=l1'
 have e1:((List.range (t.mask+1)).filterMap λj=>(o'.getD j none).map (j,·)).map (·.1)=t.place.toList:=by
  have:=congrArg (λz:Option (SetTable×Array Nat)=>(z.map (·.1.place.toList)).getD []) l1'
  simpa using this
 have e2:((List.range (t.mask+1)).filterMap λj=>(o'.getD j none).map (j,·)).map (·.2)=order.toList:=by
  have:=congrArg (λz:Option (SetTable×Array Nat)=>(z.map (·.2.toList)).getD []) l1'
  simpa using this
 generalize hlv:((List.range (t.mask+1)).filterMap λj=>(o'.getD j none).map (j,·))=live at e1 e2
 have mem:∀j q,(j,q)∈live↔j<=t.mask/\o'.getD j none=some q:=λj q=>by
  rw[←hlv,List.mem_filterMap]
  constructor
  ·rintro⟨x,mx,ex⟩
   obtain⟨y,ey,e⟩:=Option.map_eq_some_iff.mp ex
   cases e
   exact⟨by have:=List.mem_range.mp mx;lia,ey⟩
  ·rintro⟨h1,h2⟩
   exact⟨j,List.mem_range.mpr (by lia),by rw[h2];rfl⟩
 have il:i<live.length:=by rw[List.length_map,←e2,List.length_map] at hi;exact hi
 have m0:(live[i].1,live[i].2)∈live:=List.getElem_mem il
 obtain⟨k1,k2⟩:=(mem _ _).mp m0
 obtain⟨h,h1,n,h2,h3⟩:=O.pa _ _ k1 k2
 have eo:(order.toList.map λq=>hashes.getD q 0)[i]=h:=by
  have q1:(order.toList.map λq=>hashes.getD q 0)[i]?=some h:=by
   rw[←e2,List.map_map,List.getElem?_map,List.getElem?_eq_getElem il]
   show some (hashes.getD live[i].2 0)=some h
   rw[Array.getElem?_toList] at h1
   obtain⟨z1,z2⟩:=Array.getElem?_eq_some_iff.mp h1
   simp[z1,z2]
  rw[List.getElem?_eq_getElem hi] at q1
  exact Option.some.inj q1
 refine⟨live[i].1,?_,?_⟩
 ·rw[←Array.getElem?_toList,←e1,List.getElem?_map,List.getElem?_eq_getElem il]
  rfl
 ·rw[eo]
  refine⟨n,h2,λm hm'=>?_⟩
  have hp:=h3 m hm'
  have le:=qyw t h m
  have ps:at_ t h m<o'.size:=by rw[O.ok.sz];lia
  rw[←e1]
  cases e:o'.getD (at_ t h m) none with
 |some q=>exact List.mem_map.mpr ⟨(at_ t h m,q),(mem _ _).mpr ⟨le,e⟩,rfl⟩
 |none =>
   have e3:o'.getD (at_ t h m) (some 0)=o'.getD (at_ t h m) none:=by simp[ps]
   rw[e3,e] at hp
   cases hp
end SetTable
end PySem
namespace PySem
open SetTable
section
variable {prog:Program} {w:World} {K:Type} [DecidableEq K] {knd:KeyKind prog w K} {A:Around} {E:Value->Shared->Prop} {s:Shared} {a b:Addr}
structure SetAt(knd:KeyKind prog w K)(h:Heap)(a:Addr)(o:Obj)(es:Array (Int×Value))(ep:Nat)(t:SetTable)(ks:List (List K×Addr)):Prop where
 ho:h.get? a=some o
 ex:o.ExactSet
 hd:o.data=.set es ep t
 ok:TOkH t (ks.map λp=>tupleKeyHash knd p.1)
 pl:t.plain=true->∀p∈ks,p.1=[]
 es:es.toList=ks.map λp=>(tupleKeyHash knd p.1,Value.ref p.2)
 is:∀p∈ks,IsTupleKey knd h p.1 p.2
 nd:(ks.map (·.1)).Nodup
variable {o:Obj} {es:Array (Int×Value)} {ep:Nat} {t:SetTable} {ks:List (List K×Addr)}
end
end PySem
namespace PySem
open SetTable
section
variable {prog:Program} {w:World} {K:Type} [DecidableEq K] {knd:KeyKind prog w K} {A:Around} {E:Value->Shared->Prop} {s:Shared} {a b:Addr}
variable {o:Obj} {es:Array (Int×Value)} {ep:Nat} {t:SetTable} {ks:List (List K×Addr)}
end
end PySem
namespace PySem
open SetTable
section
variable {prog:Program} {w:World} {K:Type} [DecidableEq K] {knd:KeyKind prog w K} {A:Around} {E:Value->Shared->Prop} {s:Shared} {a b:Addr}
variable {o:Obj} {es:Array (Int×Value)} {ep:Nat} {t:SetTable} {ks:List (List K×Addr)}
theorem qmz(led:Bool):TOkH (SetTable.fresh 0 0 led) []:=by
 refine⟨⟨⟨3,rfl⟩,show 7<=7 by decide,show 7<=8191 by decide,rfl,(λi j hi=>absurd hi (Nat.not_lt_zero _)),(λj m=>by cases m),rfl,Nat.zero_le _⟩,λi hi=>absurd hi (Nat.not_lt_zero _)⟩
end
end PySem
namespace PySem
open SetTable
theorem sub_dict_set:isSubtype (.type "dict") (.type "set")=pure false:=by rw[isSubtype_type];kernel_rfl
theorem qi4:isSubtype (.type "dict") (.type "frozenset")=pure false:=by rw[isSubtype_type];kernel_rfl
section
variable {prog:Program} {w:World} {K:Type} [DecidableEq K] {knd:KeyKind prog w K} {A:Around} {E:Value->Shared->Prop} {s:Shared} {a b d:Addr}
variable {o:Obj} {es:Array (Int×Value)} {ep:Nat} {t:SetTable} {ks:List (List K×Addr)} {xs:List (List K×Addr×Value)}
theorem qlz{Q:Bool->Shared->Prop}(hT:s.TypeIs (.ref d) "dict")(h:Q false s):wpAny (model prog w) A (Builtin.Frozenset.isAnySet (.ref d)) Q E s:=by
 unfold Builtin.Frozenset.isAnySet orM
 refine wpAny_bind (wpAny_isInstance hT sub_dict_set ?_)
 show wpAny _ _ (isInstance (.ref d) (.type "frozenset")) _ _ s
 exact wpAny_isInstance hT qi4 h
end
end PySem
namespace PySem
open SetTable
theorem sub_set_set:isSubtype (.type "set") (.type "set")=pure true:=by rw[isSubtype_type];kernel_rfl
section
variable {prog:Program} {w:World} {K:Type} [DecidableEq K] {knd:KeyKind prog w K} {A:Around} {E:Value->Shared->Prop} {s:Shared} {a b d r:Addr}
variable {o oa:Obj} {es ea:Array (Int×Value)} {ep epa:Nat} {t ta:SetTable} {ks ka:List (List K×Addr)}
end
end PySem
namespace PySem
open SetTable Sem
section
variable {prog:Program} {w:World} {K:Type} [DecidableEq K] {knd:KeyKind prog w K} {A:Around} {E:Value->Shared->Prop} {s:Shared} {a b d r:Addr}
variable {o:Obj} {es:Array (Int×Value)} {ep:Nat} {t:SetTable} {ks:List (List K×Addr)}
theorem qk2{src:Source}{n:Nat}{Q:Nat->Shared->Prop}(hn:n≠0)(h:∀i dr,i<n->Q i { s with drawn:=dr }):wpAny (model prog w) A (choose src n) Q E s:=λΓ p hΓ=>by
 unfold choose
 rw[wp_choose]
 exact⟨hn,h _ _ (Nat.mod_lt _ (Nat.pos_of_ne_zero hn))⟩
theorem qhs{α:Type}{l:List α}{i:Nat}{x:α}(h:l[i]?=some x):(x::l.eraseIdx i).Perm l:=by
 obtain⟨li,e⟩:=List.getElem?_eq_some_iff.mp h
 rw[List.eraseIdx_eq_take_drop_succ]
 refine List.perm_middle.symm.trans (List.Perm.of_eq ?_)
 conv=>rhs;rw[←List.take_append_drop i l,List.drop_eq_getElem_cons li,e]
theorem qgg{α:Type}:∀(n:Nat) (xs:List α) (s:Shared) (Q:List α->Shared->Prop),xs.length=n->(∀l dr,l.Perm xs->Q l { s with drawn:=dr })->wpAny (model prog w) A (drawOrder n xs) Q E s
|0,xs,s,Q,hl,h=>by
  cases List.length_eq_zero_iff.mp hl
  unfold drawOrder
  exact wpAny_pure (h [] s.drawn (List.Perm.refl _))
|n+1,[],s,Q,hl,h=>by cases hl
|n+1,x::xs,s,Q,hl,h=>by
  unfold drawOrder
  refine wpAny_bind (qk2 (by rw[hl];lia) λi dr hi=>?_)
  rw[List.getElem?_eq_getElem hi]
  dsimp only
  refine wpAny_bind (qgg n _ _ _ (by rw[List.length_eraseIdx,if_pos hi,hl];rfl) λl dr2 hp=>?_)
  exact wpAny_pure (h _ dr2 ((hp.cons _).trans (qhs (List.getElem?_eq_getElem hi))))
theorem qgx{α:Type}(next:Nat->Nat):∀(fuel k:Nat) (left:List α) (out:Array α),left.length=fuel->(pickOrder.go next fuel k left out).toList.Perm (out.toList++left)
|0,k,left,out,h=>by
  cases List.length_eq_zero_iff.mp h
  unfold pickOrder.go
  rw[List.append_nil]
|fuel+1,k,left,out,h=>by
  unfold pickOrder.go
  have hi:next k%left.length<left.length:=Nat.mod_lt _ (by lia)
  rw[List.getElem?_eq_getElem hi]
  dsimp only
  refine(qgx next fuel (k+1) _ _ (by rw[List.length_eraseIdx,if_pos hi,h];rfl)).trans ?_
  rw[Array.toList_push,List.append_assoc]
  exact List.Perm.append_left _ (qhs (List.getElem?_eq_getElem hi))
end
end PySem
namespace PySem
open SetTable
section
variable {prog:Program} {w:World} {K:Type} [DecidableEq K] {knd:KeyKind prog w K} {A:Around} {E:Value->Shared->Prop} {s:Shared} {a b d r:Addr}
variable {o oa:Obj} {es ea:Array (Int×Value)} {ep epa:Nat} {t ta:SetTable} {ks ka:List (List K×Addr)}
end
end PySem
namespace PySem
open SetTable
section
variable {prog:Program} {w:World} {K:Type} [DecidableEq K] {knd:KeyKind prog w K} {A:Around} {E:Value->Shared->Prop} {s:Shared} {a b d r:Addr}
variable {o oa:Obj} {es ea:Array (Int×Value)} {ep epa:Nat} {t ta:SetTable} {ks ka:List (List K×Addr)}
def qb1(prog:Program)(w:World):Bool:=!((model prog w).w.params.followText "set-order")
def newS(l:Bool):Obj:={ cls:=.type "set",dict:=none,data:=.set #[] 0 (.fresh 0 0 l) }
theorem qll{Q:Bool->Shared->Prop}(hT:s.TypeIs (.ref a) "set")(h:Q true s):wpAny (model prog w) A (Builtin.Frozenset.isAnySet (.ref a)) Q E s:=by
 unfold Builtin.Frozenset.isAnySet orM
 refine wpAny_bind (wpAny_isInstance hT sub_set_set ?_)
 exact wpAny_pure h
theorem qy0{Q:Value->Shared->Prop}(hT:s.TypeIs (.ref a) "set")(h:Q (.type "set") s):wpAny (model prog w) A (Builtin.Frozenset.baseOf a) Q E s:=by
 unfold Builtin.Frozenset.baseOf
 refine wpAny_bind (wpAny_isInstance hT sub_set_set ?_)
 exact wpAny_pure h
theorem qfa{h:Heap}{x:Obj}{b:Addr}{o:Obj}(e:h.get? b=some o):(h.push x).get? b=some o:=by
 exact Heap.get?_push_of_some x e
theorem fresh_ne{h:Heap}{b:Addr}{o:Obj}(e:h.get? b=some o):b≠h.objs.size:=Nat.ne_of_lt (Heap.lt_size e)
end
end PySem
namespace PySem
open SetTable
section
variable {prog:Program} {w:World} {K:Type} [DecidableEq K] {knd:KeyKind prog w K} {A:Around} {E:Value->Shared->Prop} {s:Shared} {a b d r:Addr}
variable {o oa ob:Obj} {es ea eb:Array (Int×Value)} {ep epa epb:Nat} {t ta tb:SetTable} {ks ka kb:List (List K×Addr)}
end
end PySem
namespace PySem
open SetTable
section
variable {prog:Program} {w:World} {K:Type} [DecidableEq K] {knd:KeyKind prog w K} {A:Around} {E:Value->Shared->Prop} {s:Shared} {a b d r:Addr}
variable {o:Obj} {es:Array (Int×Value)} {ep:Nat} {t:SetTable} {xs:List (List K×Addr×Value)}
theorem qq4{n:Nat}{Q:String->Shared->Prop}(hT:s.TypeIs (.ref a) "set")(h:∀z,Q z s):wpAny (model prog w) A (typeNameOfCut n (.ref a)) Q E s:=by
 unfold typeNameOfCut shownTypeOf
 refine wpAny_bind (wpAny_bind (wpAny_typeOf hT ?_))
 simp only[show (Value.type "set"==Value.type "builtin_function_or_method")=false by decide,Bool.false_eq_true,if_false]
 refine wpAny_pure ?_
 rw[show typeNameCut n (.type "set")=typeName (.type "set") from rfl]
 unfold typeName
 exact wpAny_pure (h _)
end
end PySem
namespace PySem
open SetTable
section
variable {prog:Program} {w:World} {K:Type} [DecidableEq K] {knd:KeyKind prog w K} {A:Around} {E:Value->Shared->Prop} {s:Shared} {a b d r:Addr} {xs:List (List K×Addr×Value)}
theorem qh9(a:Value){Q₁:Value->Shared->Prop}(h:Q₁ (.ref s.heap.objs.size) { s with heap:=s.heap.push (newS (qb1 prog w)) }) :
  codeAny (model prog w) A (.call (.builtin "set.__new__") ⟨[.type "set",a],[]⟩) (wants Q₁ E) s:=by
 refine codeAny_of_tree ?_
 show wpAny _ A.in1 (do checkBuiltinCall "set.__new__" ⟨[.type "set",a],[]⟩;again (.builtin "set.__new__" ⟨[.type "set",a],[]⟩)) _ _ s
 refine wpAny_bind (wpAny_of_eq (F.newCall_set_1 a) (wpAny_pure ⟨plainId_quiet F.plain_set_new _,codeAny_builtin F.entry_set_new ?_⟩))
 rw[Around.under_plainId F.plain_set_new _]
 unfold Builtin.«set.__new__» Builtin.Frozenset.newClass
 have hsub:=sub_set_self
 obtain⟨hp,g,d,tk,os⟩:=s
 dsimp only
 wp_walk
 refine wpAny_askSetting (wpAny_pure ?_)
 dsimp only
 simp only[newObj]
 refine wpAny_bind (wpAny_alloc (wpAny_pure ?_))
 exact wpAny_pure h
end
end PySem
namespace PySem
open SetTable
theorem fills_set_or:fillsNumberSlot (.type "set") "or" = pure true:=by kernel_rfl
theorem qjx:entryFor table "set.__or__" = some Builtin.«frozenset.__or__»:=entryFor_alias (id':="frozenset.__or__") (by kernel_rfl) rfl (by decide +kernel) (by kernel_rfl)
section
variable {prog:Program} {w:World} {K:Type} [DecidableEq K] {knd:KeyKind prog w K} {A:Around} {E:Value->Shared->Prop} {s:Shared} {a b d r:Addr}
variable {o oa ob:Obj} {es ea eb:Array (Int×Value)} {ep epa epb:Nat} {t ta tb:SetTable} {ks ka kb:List (List K×Addr)}
end
end PySem
namespace PySem
open SetTable Sem
theorem slot_seti_next:Slot "set_iterator" "__next__" "set_iterator.__next__" :=
 .of (owner:="set_iterator") (n:="__next__") (by rw[typeLookup_type,builtinLookup_eq_fast];kernel_rfl) (by decide +kernel) (by decide +kernel) (by decide +kernel)
  (by first|exact .inl (by decide +kernel)|exact .inr (by decide +kernel)) (by rw[isSubtype_type];kernel_rfl)
theorem qby:entryFor table "set_iterator.__next__" = some Builtin.«set_iterator.__next__»:=entryFor_of_tree (by kernel_rfl)
theorem qcc(a:Value):argsOk "set_iterator.__next__" ⟨[a],[]⟩:=by
 unfold argsOk;kernel_rfl
theorem qeu:Slot "set_iterator" "__iter__" "set_iterator.__iter__" :=
 .of (owner:="set_iterator") (n:="__iter__") (by rw[typeLookup_type,builtinLookup_eq_fast];kernel_rfl) (by decide +kernel) (by decide +kernel) (by decide +kernel)
  (by first|exact .inl (by decide +kernel)|exact .inr (by decide +kernel)) (by rw[isSubtype_type];kernel_rfl)
theorem qgi:entryFor table "set_iterator.__iter__" = some Builtin.«dict_keyiterator.__iter__»:=entryFor_alias (id':="dict_keyiterator.__iter__") (by kernel_rfl) rfl (by decide +kernel) (by kernel_rfl)
theorem qhg(a:Value):argsOk "set_iterator.__iter__" ⟨[a],[]⟩:=by
 unfold argsOk;kernel_rfl
theorem qgh:entryFor table "set.__iter__" = some Builtin.«frozenset.__iter__»:=entryFor_alias (id':="frozenset.__iter__") (by kernel_rfl) rfl (by decide +kernel) (by kernel_rfl)
def RawS(h:Heap)(a:Addr)(es:Array (Int×Value))(ep:Nat)(t:SetTable):Prop:=∃o,h.get? a=some o/\o.data=.set es ep t/\t.fits es.size=true
def SetIt(h:Heap)(I:Addr)(fst:Value)(i:Nat)(a:Addr)(n ep:Nat):Prop:=∃o,h.get? I=some o/\o.cls=.type "set_iterator" /\ o.data=.fields #[fst,.int i 0,.ref a,.int n 0,.int ep 0]
section
variable {prog:Program} {w:World} {A:Around} {E:Value->Shared->Prop} {s:Shared} {a b d r I T:Addr}
variable {o:Obj} {es:Array (Int×Value)} {ep i n:Nat} {t:SetTable} {fst:Value}
theorem RawS.keep{h h':Heap}(x:RawS h a es ep t)(k:∀o,h.get? a=some o->h'.get? a=some o):RawS h' a es ep t:=let ⟨o,h1,r⟩:=x;⟨o,k o h1,r⟩
theorem SetIt.keep{h h':Heap}(x:SetIt h I fst i a n ep)(k:∀o,h.get? I=some o->h'.get? I=some o):SetIt h' I fst i a n ep:=let ⟨o,h1,r⟩:=x;⟨o,k o h1,r⟩
theorem SetIt.typeIs(x:SetIt s.heap I fst i a n ep):s.TypeIs (.ref I) "set_iterator" := let ⟨o,h1,h2,_⟩:=x;⟨o,h1,h2⟩
theorem qkn{Q:Value->Shared->Prop}(x:SetIt s.heap I fst i a n ep)(h:Q (.ref I) s):wpAny (model prog w) A (pyIter (.ref I)) Q E s:=by
 refine wpAny_pyIter_slot x.typeIs qeu (wpAny_call_entry qeu x.typeIs qgi ?_ (qhg _))
 show wpAny _ _ (ret (.ref I)) _ _ s
 exact wpAny_pure ⟨_,rfl,"set_iterator",_,x.typeIs,slot_seti_next.lookup,h⟩
section
variable {Q:Option Value->Shared->Prop}
theorem qrp{f f':Nat}{v:Value}(x:SetIt s.heap I (rawInt f) i a es.size ep)(S:RawS s.heap a es ep t)
  (nx:∀(A:Around) (Q:Option (Value×Nat)->Shared->Prop) (E:Value->Shared->Prop),Q (some (v,f')) s->wpAny (model prog w) A (setNext a f i ep) Q E s)
  (fin:∀h',SetIt h' I (rawInt f') (i+1) a es.size ep->Heap.SameBut I s.heap h'->Q (some v) { s with heap:=h' }):wpAny (model prog w) A (pyNext (.ref I)) Q E s:=by
 have T:=x.typeIs
 obtain⟨oi,g1,g2,g3⟩:=x
 obtain⟨o,h1,h2,h3⟩:=S
 unfold pyNext
 refine wpAny_bind (wpAny_attempt (wpAny_callSpecial?_slot (name:=Str.ofString "__next__") T slot_seti_next (wpAny_call_entry slot_seti_next T qby (wpAny_bind (wpAny_pure (wpAny_bind (wpAny_fieldsOf g1 g3 ?_)))) (qcc _))))
 dsimp only[rawInt]
 unfold setEntries
 refine wpAny_bind (wpAny_bind (wpAny_setState_of h1 h2 h3 (wpAny_pure ?_)))
 dsimp only
 rw[if_neg (by simp)]
 simp only[Int.toNat_natCast]
 refine wpAny_bind (nx _ _ _ ?_)
 dsimp only
 refine wpAny_bind (wpAny_setField g1 g3 (by simp) ?_)
 have g1':=Heap.get?_update_self (Obj.mapFields (·.setIfInBounds 0 (rawInt f'))) g1 (Obj.isFreed_of_fields (Obj.data_mapFields g3 _))
 have g3':=Obj.data_mapFields g3 (·.setIfInBounds 0 (rawInt f'))
 refine wpAny_bind (wpAny_setField g1' g3' (by simp) ?_)
 refine wpAny_pure ⟨_,rfl,wpAny_pure (fin _ ⟨_,Heap.get?_update_self _ g1' (Obj.isFreed_of_fields (Obj.data_mapFields g3' _)),?_,?_⟩ ?_)⟩
 ·rw[Obj.cls_mapFields,Obj.cls_mapFields]
  exact g2
 ·rw[Obj.data_mapFields g3']
  simp[rawInt]
 ·exact(Heap.SameBut.update ..).trans (Heap.SameBut.update ..)
theorem qt6{f:Nat}(hh:A.handled=none)(x:SetIt s.heap I (rawInt f) i a es.size ep)(S:RawS s.heap a es ep t)
  (nx:∀(A:Around) (Q:Option (Value×Nat)->Shared->Prop) (E:Value->Shared->Prop),Q none s->wpAny (model prog w) A (setNext a f i ep) Q E s)
  (fin:∀h',Heap.ExtBut I s.heap h'->Q none { s with heap:=h' }):wpAny (model prog w) A (pyNext (.ref I)) Q E s:=by
 have T:=x.typeIs
 obtain⟨oi,g1,g2,g3⟩:=x
 obtain⟨o,h1,h2,h3⟩:=S
 unfold pyNext
 refine wpAny_bind (wpAny_attempt (wpAny_callSpecial?_slot (name:=Str.ofString "__next__") T slot_seti_next (wpAny_call_entry slot_seti_next T qby (wpAny_bind (wpAny_pure (wpAny_bind (wpAny_fieldsOf g1 g3 ?_)))) (qcc _))))
 dsimp only[rawInt]
 unfold setEntries
 refine wpAny_bind (wpAny_bind (wpAny_setState_of h1 h2 h3 (wpAny_pure ?_)))
 dsimp only
 rw[if_neg (by simp)]
 simp only[Int.toNat_natCast]
 refine wpAny_bind (nx _ _ _ ?_)
 dsimp only
 refine wpAny_bind (wpAny_setField g1 g3 (by simp) ?_)
 show wpAny _ _ (newExc (.type "StopIteration") [] >>= λ_=>_) _ _ _
 refine wpAny_bind ?_
 simp only[newExc,newTuple]
 refine wpAny_bind (wpAny_newObj_type (wpAny_bind (m:=firstArgMember _ _) (wpAny_of_eq (a:=Value.none) (by first|rfl|(simp only[firstArgMember];rfl)) (wpAny_newObj_type ?_ (by size_fits)))) (by size_fits))
 simp only[raiseNew]
 refine(wpAny_bind (wpAny_handled ?_))
 rw[(show A.in1.handled=none from hh)]
 refine(wpAny_bind (wpAny_pure (wpAny_throw ?_)))
 exact wpAny_bind (wpAny_isInstance (T:="StopIteration") (b:=true) ⟨_,Heap.get?_push_size _ rfl,rfl⟩ isSubtype_stop (wpAny_pure (fin _ (((Heap.SameBut.update ..).extBut.push _).push _))))
theorem qo7(hh:A.handled=none)(I a:Addr)(ne:a≠I)(es:Array (Int×Value))(ep:Nat)(t:SetTable)(f:Nat->Nat)(l:List Value)(hl:l.length=es.size)
  (nx:∀(i:Nat) (v:Value),l[i]?=some v->∀(s:Shared) (A:Around) (Q:Option (Value×Nat)->Shared->Prop) (E:Value->Shared->Prop),RawS s.heap a es ep t->Q (some (v,f (i+1))) s->wpAny (model prog w) A (setNext a (f i) i ep) Q E s)
  (nd:∀(s:Shared) (A:Around) (Q:Option (Value×Nat)->Shared->Prop) (E:Value->Shared->Prop),RawS s.heap a es ep t->Q none s->wpAny (model prog w) A (setNext a (f es.size) es.size ep) Q E s) :
  Walks prog w A I [I,a] [I] es.size (λi v=>l[i]?=some v) (λi h=>SetIt h I (rawInt (f i)) i a es.size ep/\RawS h a es ep t) where
 sub:=λb hb=>by
  cases List.mem_singleton.mp hb
  exact List.mem_cons_self ..
 frame:=λ_ _ _ st k=>⟨st.1.keep λo e=>k I (List.mem_cons_self ..) o e,st.2.keep λo e=>k a (by simp) o e⟩
 item:=λi s Q E lt st fin=>by
  have e:l[i]?=some l[i]:=List.getElem?_eq_getElem (by lia)
  exact qrp (es:=es) st.1 st.2 (λA Q E q=>nx i _ e s A Q E st.2 q) λh' K' sb=>fin _ h' s.toks e ⟨K',st.2.keep λo z=>sb.extBut a o ne z⟩ λb o nb z=>sb.extBut b o (λy=>nb (by simp[y])) z
 done:=λs Q E st fin=>qt6 (es:=es) hh st.1 st.2 (λA Q E q=>nd s A Q E st.2 q) λh' x=>fin h' s.toks λb o nb z=>x b o (λy=>nb (by simp[y])) z
 self:=λ_ _ _ _ st q=>qkn st.1 q
end
end
end PySem
namespace PySem
open SetTable Sem
def SeqAt0(h:Heap)(T:Addr)(vs:List Value):Prop:=∃o n,h.get? T=some o/\o.data=.seq vs.toArray n
section
variable {prog:Program} {w:World} {A:Around} {E:Value->Shared->Prop} {s:Shared} {a b d r I T:Addr}
variable {o:Obj} {es:Array (Int×Value)} {ep i n:Nat} {t:SetTable} {fst:Value} {ps:List Nat} {Q:Option Value->Shared->Prop}
theorem SeqAt0.keep{h h':Heap}{vs:List Value}(x:SeqAt0 h T vs)(k:∀o,h.get? T=some o->h'.get? T=some o):SeqAt0 h' T vs:=let ⟨o,n,h1,r⟩:=x;⟨o,n,k o h1,r⟩
def qd8(ps:List Nat):List Value:=ps.map λ(i:Nat)=>rawInt i
theorem qov{j:Nat}{v:Value}(x:SetIt s.heap I (.ref T) i a es.size ep)(S:RawS s.heap a es ep t)(P:SeqAt0 s.heap T (qd8 ps))(hj:ps[i]?=some j)(hv:es[j]?.map (·.2)=some v)
  (fin:∀h',SetIt h' I (.ref T) (i+1) a es.size ep->Heap.SameBut I s.heap h'->Q (some v) { s with heap:=h' }):wpAny (model prog w) A (pyNext (.ref I)) Q E s:=by
 have TT:=x.typeIs
 obtain⟨oi,g1,g2,g3⟩:=x
 obtain⟨o,h1,h2,h3⟩:=S
 obtain⟨ot,nt,t1,t2⟩:=P
 unfold pyNext
 refine wpAny_bind (wpAny_attempt (wpAny_callSpecial?_slot (name:=Str.ofString "__next__") TT slot_seti_next (wpAny_call_entry slot_seti_next TT qby (wpAny_bind (wpAny_pure (wpAny_bind (wpAny_fieldsOf g1 g3 ?_)))) (qcc _))))
 dsimp only[rawInt]
 unfold setEntries
 refine wpAny_bind (wpAny_bind (wpAny_setState_of h1 h2 h3 (wpAny_pure ?_)))
 dsimp only
 rw[if_neg (by simp)]
 simp only[Int.toNat_natCast]
 unfold seqItems?
 refine wpAny_bind (wpAny_bind (wpAny_load t1 ?_))
 rw[t2]
 refine wpAny_pure ?_
 dsimp only
 have ep':(qd8 ps).toArray[i]?=some (rawInt j):=by
  rw[List.getElem?_toArray]
  unfold qd8
  rw[List.getElem?_map,hj]
  rfl
 rw[ep']
 dsimp only[rawInt]
 simp only[Int.toNat_natCast]
 unfold setNextDrawn
 refine wpAny_bind (wpAny_bind (wpAny_setState_of h1 h2 h3 ?_))
 dsimp only
 rw[if_neg (by simp)]
 obtain⟨p,e1,e2⟩:=Option.map_eq_some_iff.mp hv
 refine wpAny_bind (wpAny_pure ?_)
 rw[e1]
 dsimp only
 refine wpAny_pure ?_
 refine wpAny_bind (wpAny_setField g1 g3 (by simp) ?_)
 rw[e2]
 refine wpAny_pure ⟨_,rfl,wpAny_pure (fin _ ⟨_,Heap.get?_update_self _ g1 (Obj.isFreed_of_fields (Obj.data_mapFields g3 _)),?_,?_⟩ ?_)⟩
 ·rw[Obj.cls_mapFields]
  exact g2
 ·rw[Obj.data_mapFields g3]
  simp[rawInt]
 ·exact(Heap.SameBut.update ..)
theorem qro(hh:A.handled=none)(x:SetIt s.heap I (.ref T) i a es.size ep)(S:RawS s.heap a es ep t)(P:SeqAt0 s.heap T (qd8 ps))(hj:ps[i]?=none)
  (fin:∀h',Heap.ExtBut I s.heap h'->Q none { s with heap:=h' }):wpAny (model prog w) A (pyNext (.ref I)) Q E s:=by
 have TT:=x.typeIs
 obtain⟨oi,g1,g2,g3⟩:=x
 obtain⟨o,h1,h2,h3⟩:=S
 obtain⟨ot,nt,t1,t2⟩:=P
 unfold pyNext
 refine wpAny_bind (wpAny_attempt (wpAny_callSpecial?_slot (name:=Str.ofString "__next__") TT slot_seti_next (wpAny_call_entry slot_seti_next TT qby (wpAny_bind (wpAny_pure (wpAny_bind (wpAny_fieldsOf g1 g3 ?_)))) (qcc _))))
 dsimp only[rawInt]
 unfold setEntries
 refine wpAny_bind (wpAny_bind (wpAny_setState_of h1 h2 h3 (wpAny_pure ?_)))
 dsimp only
 rw[if_neg (by simp)]
 simp only[Int.toNat_natCast]
 unfold seqItems?
 refine wpAny_bind (wpAny_bind (wpAny_load t1 ?_))
 rw[t2]
 refine wpAny_pure ?_
 dsimp only
 have ep':(qd8 ps).toArray[i]?=none:=by
  rw[List.getElem?_toArray]
  unfold qd8
  rw[List.getElem?_map,hj]
  rfl
 rw[ep']
 dsimp only
 refine wpAny_bind (wpAny_setField g1 g3 (by simp) ?_)
 have g1':=Heap.get?_update_self (Obj.mapFields (·.setIfInBounds 0 (rawInt 0))) g1 (Obj.isFreed_of_fields (Obj.data_mapFields g3 _))
 have g3':=Obj.data_mapFields g3 (·.setIfInBounds 0 (rawInt 0))
 refine wpAny_bind (wpAny_setField g1' g3' (by simp) ?_)
 show wpAny _ _ (newExc (.type "StopIteration") [] >>= λ_=>_) _ _ _
 refine wpAny_bind ?_
 simp only[newExc,newTuple]
 refine wpAny_bind (wpAny_newObj_type (wpAny_bind (m:=firstArgMember _ _) (wpAny_of_eq (a:=Value.none) (by first|rfl|(simp only[firstArgMember];rfl)) (wpAny_newObj_type ?_ (by size_fits)))) (by size_fits))
 simp only[raiseNew]
 refine(wpAny_bind (wpAny_handled ?_))
 rw[(show A.in1.handled=none from hh)]
 refine(wpAny_bind (wpAny_pure (wpAny_throw ?_)))
 exact wpAny_bind (wpAny_isInstance (T:="StopIteration") (b:=true) ⟨_,Heap.get?_push_size _ rfl,rfl⟩ isSubtype_stop (wpAny_pure (fin _ ((((Heap.SameBut.update ..).trans (Heap.SameBut.update ..)).extBut.push _).push _))))
theorem qmj(hh:A.handled=none)(I a T:Addr)(ne:a≠I)(nT:T≠I)(es:Array (Int×Value))(ep:Nat)(t:SetTable)(ps:List Nat)(l:List Value)(hl:ps.length=es.size)
  (hv:∀(i j:Nat),ps[i]?=some j->∃v,l[i]?=some v/\es[j]?.map (·.2)=some v) :
  Walks prog w A I [I,a,T] [I] es.size (λi v=>l[i]?=some v) (λi h=>SetIt h I (.ref T) i a es.size ep/\RawS h a es ep t/\SeqAt0 h T (qd8 ps)) where
 sub:=λb hb=>by
  cases List.mem_singleton.mp hb
  exact List.mem_cons_self ..
 frame:=λ_ _ _ st k=>⟨st.1.keep λo e=>k I (List.mem_cons_self ..) o e,st.2.1.keep λo e=>k a (by simp) o e,st.2.2.keep λo e=>k T (by simp) o e⟩
 item:=λi s Q E lt st fin=>by
  have e:ps[i]?=some ps[i]:=List.getElem?_eq_getElem (by lia)
  obtain⟨v,e1,e2⟩:=hv i _ e
  exact qov (es:=es) st.1 st.2.1 st.2.2 e e2 λh' K' sb=>fin _ h' s.toks e1 ⟨K',st.2.1.keep λo z=>sb.extBut a o ne z,st.2.2.keep λo z=>sb.extBut T o nT z⟩ λb o nb z=>sb.extBut b o (λy=>nb (by simp[y])) z
 done:=λs Q E st fin=>qro (es:=es) hh st.1 st.2.1 st.2.2 (List.getElem?_eq_none (by lia)) λh' x=>fin h' s.toks λb o nb z=>x b o (λy=>nb (by simp[y])) z
 self:=λ_ _ _ _ st q=>qkn st.1 q
end
end PySem
namespace PySem
open SetTable Sem
section
variable {prog:Program} {w:World} {K:Type} [DecidableEq K] {knd:KeyKind prog w K} {A:Around} {E:Value->Shared->Prop} {s:Shared} {a b d r:Addr}
variable {o:Obj} {es:Array (Int×Value)} {ep:Nat} {t:SetTable} {ks:List (List K×Addr)}
theorem qka{Q:Option (Value×Nat)->Shared->Prop}{f i:Nat}(bt:(model prog w).w.params.followText "set-order" = true)(S:RawS s.heap a es ep t)(q:Q ((((pickOrder ((model prog w).w.params.setOrder a ep) es).toList.map (·.2))[i]?).map λv=>(v,f)) s):wpAny (model prog w) A (setNext a f i ep) Q E s:=by
 obtain⟨o,h1,h2,h3⟩:=S
 unfold setNext
 refine wpAny_bind (wpAny_setState_of h1 h2 h3 ?_)
 dsimp only
 unfold setsByText
 refine wpAny_bind (wpAny_bind (wpAny_askSetting (wpAny_pure ?_)))
 rw[bt]
 simp only[if_true]
 rw[if_neg (by simp)]
 unfold setWalk
 refine wpAny_bind (wpAny_bind (wpAny_setState_of h1 h2 h3 ?_))
 dsimp only
 unfold setsByText
 refine wpAny_bind (wpAny_bind (wpAny_askSetting (wpAny_pure ?_)))
 rw[bt]
 simp only[if_true]
 refine wpAny_bind (wpAny_askSetting (wpAny_pure (wpAny_pure ?_)))
 rw[List.getElem?_map,Array.getElem?_toList] at q
 cases e:(pickOrder ((model prog w).w.params.setOrder a ep) es)[i]? with
|none=>rw[e] at q;exact q
|some x=>rw[e] at q;exact q
theorem qng{Q:Option (Value×Nat)->Shared->Prop}{f i:Nat}(bt:(model prog w).w.params.followText "set-order" = false)(S:RawS s.heap a es ep t)(nd:¬ ((!t.plain&&decide (es.size>1))=true))(led:t.led=true) (q:Q (match es[SetTable.below t.place f]?,t.place[SetTable.below t.place f]? with
 |some (_,x),some j=>some (x,j+1)
 |  _,_=>none) s):wpAny (model prog w) A (setNext a f i ep) Q E s:=by
 obtain⟨o,h1,h2,h3⟩:=S
 unfold setNext
 refine wpAny_bind (wpAny_setState_of h1 h2 h3 ?_)
 dsimp only
 unfold setsByText
 refine wpAny_bind (wpAny_bind (wpAny_askSetting (wpAny_pure ?_)))
 rw[bt]
 simp only[Bool.false_eq_true,if_false]
 split
 ·rename_i z
  exact absurd z nd
 refine wpAny_bind (show wpAny (model prog w) A (if (!t.led&&!es.isEmpty)=true then _ else Pure.pure ()) _ E s from ?_)
 rw[led]
 simp only[Bool.not_true,Bool.false_and,Bool.false_eq_true,if_false]
 refine wpAny_pure (wpAny_pure ?_)
 exact q
end
end PySem
namespace PySem
open SetTable Sem
section
variable {prog:Program} {w:World} {K:Type} [DecidableEq K] {knd:KeyKind prog w K} {A:Around} {E:Value->Shared->Prop} {s:Shared} {a b d r:Addr}
variable {o:Obj} {es:Array (Int×Value)} {ep:Nat} {t:SetTable} {ks:List (List K×Addr)}
end
end PySem
namespace PySem
open SetTable Sem Calls PyProof.Rows PyProof.V PySem.Spec
section
variable {prog:Program} {w:World} {K:Type} [DecidableEq K] {knd:KeyKind prog w K} {A:Around} {E:Value->Shared->Prop} {s:Shared} {a b d r:Addr}
variable {o:Obj} {es:Array (Int×Value)} {ep:Nat} {t:SetTable} {ks:List (List K×Addr)}
theorem qs3{Q:Bool->Shared->Prop}(hT:s.TypeIs (.ref r) "set")(h:Q false s):wpAny (model prog w) A (Builtin.List.listLengthHint (.ref r)) Q E s:=by
 unfold Builtin.List.listLengthHint
 refine wpAny_bind (wpAny_specialOf hT PySem.F.slot_set_len.lookup ?_)
 generalize hid:("set.__len__" : String)=id0
 wp_delta
 rw[show splitId id0=some ("set","__len__") from by subst hid;decide +kernel]
 subst hid
 refine wpAny_bind (wpAny_isInstance (T:="set") (b:=true) hT (by rw[isSubtype_type];kernel_rfl) ?_)
 refine wpAny_ite_split (λhab=>absurd hab (by decide)) (λ_=>?_)
 refine wpAny_ite_split (λ_=>?_) (λhab=>absurd (by decide +kernel) hab)
 refine wpAny_bind (wpAny_typeOf hT ?_)
 exact wpAny_pure h
theorem qof{l:List Value}{acc:Array Value}{n:Nat}(h:ItemsOf (λi v=>l[i]?=some v) acc n)(hl:l.length=n):acc.toList=l:=by
 apply List.ext_getElem
 ·rw[Array.length_toList,h.1,hl]
 ·intro i h1 h2
  have:l[i]?=some acc[i]:=h.2 i acc[i] (by simp at h1;simp[h1])
  rw[List.getElem?_eq_getElem h2] at this
  simpa using (Option.some.inj this).symm
end
end PySem
namespace L2
open PySem PySem.Spec PyProof.Rows
theorem qtq{α β:Type}(f:α->β){l m:List β}(h:l.Perm m):∀k:List α,m=k.map f->∃k':List α,k'.Perm k/\l=k'.map f:=by
 induction h with
|nil=>exact λk e=>⟨k,List.Perm.refl _,e⟩
|cons x p ih =>
  intro k e
  cases k with
 |nil=>cases e
 |cons y k =>
   rw[List.map_cons] at e
   obtain⟨k',p',e'⟩:=ih k (List.cons.inj e).2
   exact⟨y::k',p'.cons _,by rw[List.map_cons,←e',(List.cons.inj e).1]⟩
|swap x y l =>
  intro k e
  match k,e with
 |a::b::k,e =>
   have e1:x=f a:=(List.cons.inj e).1
   have e2:y=f b:=(List.cons.inj (List.cons.inj e).2).1
   have e3:l=k.map f:=(List.cons.inj (List.cons.inj e).2).2
   exact⟨b::a::k,.swap ..,by rw[e1,e2,e3];rfl⟩
|trans p q ih1 ih2 =>
  intro k e
  obtain⟨k1,p1,e1⟩:=ih2 k e
  obtain⟨k2,p2,e2⟩:=ih1 k1 e1
  exact⟨k2,p2.trans p1,e2⟩
section
variable {X:Cx} {pins:List (Addr×Obj)} {σ:St} {H:Hp} {s:Shared} {E:Value->Shared->Prop} {a b:Addr} {kvs lvs:List (List Key×V)} {ks ls:List (List Str)}
theorem Inv.drawn(I:Inv X pins σ H s)(d:_):Inv X pins σ H { s with drawn:=d }:=⟨I.ok,I.os,I.bare,I.base,I.loc,I.cell,I.free,I.freeC,I.pin,I.hok,I.len⟩
theorem qzn{i:Nat}{x:Str}{pos:Pos}{v:V}{Q:Value->Shared->Prop}(I:Inv X pins σ H s)(e:σ[i]?=some (some v))(h:∀u,RelV v u->Q u s)(hN:X.N[i]?=some x)(hv:Vis X.env.scope x)(hd:(x==("__debug__" : Str))=false:=by decide)(hcd:(x==("__classdict__" : Str))=false:=by decide) :
  wpAny (model X.prog X.w) X.A (eval (.Name x pos) X.env) Q E s:=by
 obtain⟨m,hn,hl⟩:=I.loc
 obtain⟨u,r,l⟩:=hl i x v hN e hv
 have fin:=h u r
 rcases l with ⟨hk,hm⟩|⟨hk,c,hc,hcell⟩
 ·exact wpAny_Name (wpAny_loadName_local I.ok.kind hk hn hm fin) hd
 ·rcases hk with hk|hk
  ·exact wpAny_Name (wpAny_loadName_cell I.ok.kind hk hc hcell fin) hd
  ·exact wpAny_Name (wpAny_loadName_free I.ok.kind hk hc hcell fin hcd) hd
theorem qvl{e:Expr}{pos:Pos}(he:qa2 e=true){Q:List Value->Shared->Prop}{M:Model}{A:Around}{env:Env}(h:wpAny M A (eval e env) (λu s1=>Q [u] s1) E s):wpAny M A (spliced (backTo pos (starEach [e] env))) Q E s:=by
 rw[qbs he]
 show wpAny _ _ (spliced ((false,eval e env)::backTo pos (starEach [] env))) _ _ s
 exact Calls.spliced_cons (thn h λu s1 q=>Calls.spliced_nil q)
end
end L2
namespace L2
open PySem PySem.Spec PyProof.Rows
abbrev TVN:=VSt->(D->Prop)->Prop
section
variable {X:Cx} {EX:St->XK} {K:PySem.W.Frag} {a b c e o i:Expr} {es:List Expr} {pos pos' p p2 apos cpos:Pos} {x y:Str} {te:TV} {tA:TVA} {t t':TVN} {B H B' H' H0 H1 H2 B0:Hp} {τ:VSt} {σ:St}
def RfEN(K:PySem.W.Frag)(te:TE)(t:TVN):Prop:=∀(H0 B H:Hp) (τ:VSt) (σ:St) (Q:VK) (Qd:D->Prop),Same B H->Same H0 H->Slots K H0 B H τ σ->t τ Qd->(∀d v B' H',Stp B H B' H'->Rep K B' d v->NewR H0 B' d v->Qd d->Q v H')->te σ H Q
structure VEN(X:Cx)(e:Expr)(t:TVN):Prop where
 u:∃te,QE X e te/\RfEN X.K te t
end
end L2
namespace L2
open PySem PySem.Spec PyProof.Rows
section
variable {X:Cx} {EX:St->XK} {K:PySem.W.Frag} {B H B' H' H0 H1 H2 B0 B1:Hp} {τ:VSt} {σ:St} {x:Str}
def plainS(τ:VSt):Prop:=(τ.all λo=>match o with
|some (.val _)=>true
|none=>true
|  _=>false)=true
theorem Slots.plain(S:Slots K H0 B H τ σ)(h:plainS τ):Slots K H1 B H2 τ σ :=
 have no:∀(i:Nat) (r:R),τ[i]?=some (some r)->(match r with|.val _=>true|_=>false)=true:=λi r e=>by
  have:=List.all_eq_true.mp h _ (List.mem_of_getElem? e)
  cases r<;>first|rfl|exact this
 ⟨S.len,S.val,λi d e=>(Bool.false_ne_true (no i _ e)).elim,λi d e=>(Bool.false_ne_true (no i _ e)).elim,λi j d e a q=>(Bool.false_ne_true (no i _ q)).elim⟩
end
end L2
namespace PySem
open SetTable
section
variable {prog:Program} {w:World} {A:Around} {E:Value->Shared->Prop} {s:Shared} {a b:Addr}
def hX(prog:Program)(w:World)(x:Str):Int:=(L2.qa7 prog w).hash (Sum.inr x)
def enX(prog:Program)(w:World)(p:Str×Tok):Int×Value:=(hX prog w p.1,.str p.1 p.2)
structure SetTx(prog:Program)(w:World)(h:Heap)(a:Addr)(o:Obj)(es:Array (Int×Value))(ep:Nat)(t:SetTable)(ks:List (Str×Tok)):Prop where
 ho:h.get? a=some o
 ex:o.ExactSet
 hd:o.data=.set es ep t
 ok:TOkH t (ks.map λp=>hX prog w p.1)
 pl:t.plain=true->ks=[]
 es:es.toList=ks.map (enX prog w)
 nd:(ks.map (·.1)).Nodup
variable {o:Obj} {es:Array (Int×Value)} {ep:Nat} {t:SetTable} {ks:List (Str×Tok)}
theorem SetTx.size(S:SetTx prog w s.heap a o es ep t ks):es.size=ks.length:=by
 have:=congrArg List.length S.es
 rw[List.length_map] at this
 simpa using this
theorem SetTx.tok(S:SetTx prog w s.heap a o es ep t ks):TOk t ks.length:=by
 have:=S.ok.ok
 rw[List.length_map] at this
 exact this
theorem SetTx.fits(S:SetTx prog w s.heap a o es ep t ks):t.fits es.size=true:=by
 have T:=S.tok
 unfold SetTable.fits SetTable.fill
 rw[S.size,T.sz,T.nd]
 have:=T.fl
 simp[this]
theorem SetTx.entry(S:SetTx prog w s.heap a o es ep t ks){i:Nat}(hi:i<ks.length):es[i]?=some (enX prog w ks[i]):=by
 rw[←Array.getElem?_toList,S.es,List.getElem?_map,List.getElem?_eq_getElem hi]
 rfl
theorem SetTx.scan(S:SetTx prog w s.heap a o es ep t ks)(hn:ks.length<900)(x:Str)(tk:Tok):byScan (.str x tk) es=true:=by
 have sz:=S.size
 have h1:(es.all λe=>e.2.scannable)=true:=by
  rw[←Array.all_toList,S.es,List.all_eq_true]
  intro v mv
  obtain⟨p,_,rfl⟩:=List.mem_map.mp mv
  rfl
 unfold byScan
 rw[h1,decide_eq_true (show es.size<scanBound by unfold scanBound;lia)]
 rfl
theorem SetTx.strs(S:SetTx prog w s.heap a o es ep t ks):(es.all λe=>isExactStrKey e.2)=true:=by
 rw[←Array.all_toList,S.es,List.all_eq_true]
 intro v mv
 obtain⟨p,_,rfl⟩:=List.mem_map.mp mv
 rfl
theorem SetTx.store(S:SetTx prog w s.heap a o es ep t ks){es':Array (Int×Value)}{t':SetTable}{ks':List (Str×Tok)}(nd:(ks'.map (·.1)).Nodup)(ok:TOkH t' (ks'.map λp=>hX prog w p.1))(pl:t'.plain=true->ks'=[])
  (ee:es'.toList=ks'.map (enX prog w)):SetTx prog w (s.heap.update a (Obj.putSet es' t')) a { o with data:=.set es' (ep+1) t' } es' (ep+1) t' ks':=by
 have hg:(s.heap.update a (Obj.putSet es' t')).get? a=some { o with data:=.set es' (ep+1) t' }:=by
  have:=Heap.get?_update_self (Obj.putSet es' t') S.ho (by rw[putSet_of es' t' S.hd];rfl)
  rw[putSet_of es' t' S.hd] at this;exact this
 exact⟨hg,S.ex,rfl,ok,pl,ee,nd⟩
theorem qiy{es:Array (Int×Value)}{ks:List (Str×Tok)}(se:es.toList=ks.map (enX prog w)){order:Array Nat}(pm:order.toList.Perm (List.range ks.length)) :
  (order.toList.filterMap (ks[·]?)).Perm ks/\(order.toList.map λq=>(es.map (·.1)).getD q 0)=(order.toList.filterMap (ks[·]?)).map (λp=>hX prog w p.1)/\(order.filterMap (es[·]?)).toList=(order.toList.filterMap (ks[·]?)).map (enX prog w)/\(order.filterMap (es[·]?)).size=es.size:=by
 have sz:es.size=ks.length:=by
  have:=congrArg List.length se
  rw[List.length_map] at this
  simpa using this
 have en:∀i (hi:i<ks.length),es[i]?=some (enX prog w ks[i]):=λi hi=>by
  rw[←Array.getElem?_toList,se,List.getElem?_map,List.getElem?_eq_getElem hi]
  rfl
 have pm2:order.toList.Perm (List.range es.size):=by rw[sz];exact pm
 refine⟨?_,?_,?_,?_⟩
 ·have:=pm.filterMap λi=>ks[i]?
  rw[List.filterMap_getElem?_range_length ks] at this
  exact this
 ·rw[List.map_filterMap,←List.filterMap_eq_map]
  refine qel λq mq=>?_
  have hq:=List.mem_range.mp (pm.mem_iff.mp mq)
  rw[List.getElem?_eq_getElem hq]
  have:=en q hq
  obtain⟨z1,z2⟩:=Array.getElem?_eq_some_iff.mp this
  simp[z1,z2,enX]
 ·rw[Array.toList_filterMap,List.map_filterMap]
  refine qel λq mq=>?_
  have hq:=List.mem_range.mp (pm.mem_iff.mp mq)
  rw[List.getElem?_eq_getElem hq,en q hq]
  rfl
 ·rw[←Array.length_toList,(qor pm2).length_eq,Array.length_toList]
theorem TOkH.flagsX{t t':SetTable}{hs:List Int}(h:TOkH t hs)(q1:t'.mask=t.mask)(q2:t'.place=t.place)(q3:t'.dummies=t.dummies):TOkH t' hs:=by
 obtain⟨O,rc⟩:=h
 refine⟨⟨by rw[q1];exact O.mk2,by rw[q1];exact O.big,by rw[q1];exact O.few,by rw[q2];exact O.sz,by rw[q2];exact O.so,by rw[q2,q1];exact O.lo,by rw[q3];exact O.nd,by rw[q1];exact O.fl⟩,λi hi=>?_⟩
 obtain⟨y,y1,n,y2,y3⟩:=rc i hi
 exact⟨y,by rw[q2];exact y1,n,by rw[qfl q1];exact y2,λm hm=>by rw[qfl q1,q2];exact y3 m hm⟩
theorem TOk.freeX{t:SetTable}{n:Nat}(T:TOk t n)(h:Int):∃N,t.freeSlot h=some (at_ t h N,false)/\at_ t h N<=t.mask/\at_ t h N∉t.place.toList/\∀m,m<N->at_ t h m∈t.place.toList:=by
 obtain⟨e,he,hs⟩:=T.stop h
 obtain⟨N,n1,n2,n3,n4⟩:=T.met2 (hashAt:=λ_=>h+1) (h:=h) (10*turns t.mask) 0 e (Nat.zero_le _) (by lia) hs
 rcases n4 with ⟨g1,g2,g3⟩|⟨i,_,_,_,g4,_⟩
 ·refine⟨N,?_,g2,g3,λm hm=>?_⟩
  ·unfold SetTable.freeSlot
   rw[show t.probe (λ_=>h+1) h (t.probeStart h)=some (.empty (at_ t h N) none) from g1]
   rfl
  ·obtain⟨i,m3,_⟩:=n3 m (Nat.zero_le _) hm
   rcases T.slot (at_ t h m) with ⟨_,z⟩|⟨i',z1,_,_⟩
   ·rw[z] at m3;cases m3
   ·obtain⟨li,ei⟩:=Array.getElem?_eq_some_iff.mp z1
    rw[←ei];simp
 ·exact absurd g4 (by lia)
theorem qm2{α β:Type}(f:α->β)(l:List α)(p:Nat)(x:α):(l.take p++x::l.drop p).map f=(l.map f).take p++f x::(l.map f).drop p:=by
 rw[List.map_append,List.map_cons,List.map_take,List.map_drop]
theorem qyv(S:SetTx prog w s.heap a o es ep t ks)(lo:5*ks.length<3*t.mask)(hn:ks.length<900)(x:Str)(tk:Tok)
  {Q:Bool->Shared->Prop} (old:x∈ks.map (·.1)->Q false s)
  (new:x∉ks.map (·.1)->∀h' o' es' ep' t' ks',Heap.SameBut a s.heap h'->SetTx prog w h' a o' es' ep' t' ks'->ks'.Perm (ks++[(x,tk)])->t'.led=t.led->5*ks'.length<3*t'.mask->Q true { s with heap:=h' }) :
  wpAny (model prog w) A (setAddHashed a (.str x tk) (hX prog w x)) Q E s:=by
 have T:=S.tok
 have few:=T.few
 have big:=T.big
 have sz:=S.size
 unfold setAddHashed setAddHashedIn
 refine wpAny_holding (wpAny_bind (wpAny_setState_of S.ho S.hd S.fits ?_))
 dsimp only
 rw[S.scan hn x tk]
 simp only[↓reduceIte]
 refine wpAny_bind ?_
 unfold setAddByScan
 refine wpAny_bind (wpAny_rule ?_)
 refine wpAny_bind ?_
 unfold setScan
 simp only[S.strs,↓reduceIte]
 unfold setScanStrs
 cases hf:es.findIdx? (·.2.isStr x) with
|some i =>
  obtain⟨hi,hp,_⟩:=Array.findIdx?_eq_some_iff_getElem.mp hf
  have il:i<ks.length:=by rw[←sz];exact hi
  have en:=S.entry il
  have ee:es[i]=enX prog w ks[i]:=by
   obtain⟨z1,z2⟩:=Array.getElem?_eq_some_iff.mp en
   exact z2
  rw[ee] at hp
  have ek:ks[i].1=x:=by simpa [enX,Value.isStr] using hp
  dsimp only
  rw[en]
  dsimp only[enX]
  refine wpAny_bind (wpAny_setEpoch_of S.ho S.hd S.fits ?_)
  refine wpAny_bind ((L2.qa7 prog w).eqBool (L2.qly prog w ks[i].1 ks[i].2) (L2.qly prog w x tk) ?_)
  rw[decide_eq_true (by rw[ek])]
  simp only[Bool.and_self,↓reduceIte]
  refine wpAny_pure (wpAny_pure (wpAny_pure ?_))
  exact old (by rw[←ek];exact List.mem_map_of_mem (List.getElem_mem il))
|none =>
  have nk:x∉ks.map (·.1):=λm=>by
   obtain⟨p,mp,ep⟩:=List.mem_map.mp m
   obtain⟨i,hi,ei⟩:=List.mem_iff_getElem.mp mp
   have:=Array.findIdx?_eq_none_iff.mp hf (enX prog w p) (by rw[←Array.mem_toList_iff,S.es];exact List.mem_map_of_mem mp)
   simp[enX,Value.isStr,ep] at this
  obtain⟨N,f1,f2,f3,f4⟩:=TOk.freeX T (hX prog w x)
  have hl:(ks.map λp=>hX prog w p.1).length=ks.length:=List.length_map ..
  obtain⟨P,p1,p2⟩:=S.ok.put f2 f3 f4 (by rw[hl];lia)
  rw[hl] at p1
  generalize hj:at_ t (hX prog w x) N=j at *
  rw[show hX prog w x=(λp:Str×Tok=>hX prog w p.1) (x,tk) from rfl,←qm2] at P
  have kp:(ks.take (t.put j).2++(x,tk)::ks.drop (t.put j).2).Perm (ks++[(x,tk)]):=by
   refine List.perm_middle.trans ?_
   rw[List.take_append_drop]
   exact(List.perm_append_singleton (x,tk) ks).symm
  have kl:(ks.take (t.put j).2++(x,tk)::ks.drop (t.put j).2).length=ks.length+1:=by rw[kp.length_eq,List.length_append,List.length_singleton]
  have ee:(SetTable.insertAt es (t.put j).2 (hX prog w x,Value.str x tk)).toList=(ks.take (t.put j).2++(x,tk)::ks.drop (t.put j).2).map (enX prog w):=by
   rw[toList_insertAt,S.es,qm2]
   rfl
  have ez:(SetTable.insertAt es (t.put j).2 (hX prog w x,Value.str x tk)).size=ks.length+1:=by
   rw[←Array.length_toList,ee,List.length_map,kl]
  have nd2:((ks.take (t.put j).2++(x,tk)::ks.drop (t.put j).2).map (·.1)).Nodup:=by
   refine(kp.map (·.1)).nodup_iff.mpr ?_
   rw[List.map_append]
   exact List.nodup_append.mpr ⟨S.nd,by simp,λy my z mz e=>nk (by
    have q:z=x:=List.mem_singleton.mp mz
    rw[←q,←e]
    exact my)⟩
  have pfit:(t.put j).1.fits (SetTable.insertAt es (t.put j).2 (hX prog w x,Value.str x tk)).size=true:=by
   have O:=P.ok
   rw[List.length_map,kl] at O
   unfold SetTable.fits SetTable.fill
   rw[ez,O.sz,O.nd]
   have:=O.fl
   simp[this]
  have ly:layNew t es (hX prog w x) (Value.str x tk)=(SetTable.insertAt es (t.put j).2 (hX prog w x,Value.str x tk),(t.put j).1,false,false):=by
   unfold layNew
   rw[f1]
   dsimp only
   unfold SetTable.orStandIn
   rw[pfit]
   rfl
  generalize SetTable.insertAt es (t.put j).2 (hX prog w x,Value.str x tk)=es1 at ee ez ly pfit
  generalize ks.take (t.put j).2++(x,tk)::ks.drop (t.put j).2=ks1 at P kp kl ee nd2
  have em:(t.put j).1.led=t.led:=rfl
  generalize (t.put j).1=t1 at P p2 ly pfit em
  refine wpAny_pure ?_
  dsimp only
  rw[ly]
  dsimp only
  refine wpAny_bind (wpAny_pure ?_)
  have fin:∀t2:SetTable,t2.mask=t1.mask->t2.place=t1.place->t2.dummies=t1.dummies->t2.led=t.led->t2.plain=false->wpAny (model prog w) A (storeSet a es1 t2) (λ_ s1=>(t2.tooFull=false->Q true s1)/\(t2.tooFull=true->∃es3 t3,relayAll t2 es1 (grown es1.size)=(es3,t3,false)/\wpAny (model prog w) A (storeSet a es3 t3) (λ_ s2=>Q true s2) E s1)) E s:=λt2 q1 q2 q3 q4 q5=>by
   have P':TOkH t2 (ks1.map λp=>hX prog w p.1):=TOkH.flagsX P q1 q2 q3
   have st:=S.store (es':=es1) (t':=t2) nd2 P' (λz=>by rw[q5] at z;cases z) ee
   refine wpAny_storeSet_of S.ho S.hd ?_ (by rw[ez,sizeLine_eq];lia)
   have fillE:t2.fill=ks.length+1:=by
    unfold SetTable.fill
    rw[q2,q3,P.ok.sz,P.ok.nd,List.length_map,kl]
    rfl
   refine⟨λtf=>?_,λtf=>?_⟩
   ·refine new nk _ _ _ _ _ _ (Heap.SameBut.update ..) st kp q4 ?_
    unfold SetTable.tooFull at tf
    rw[fillE] at tf
    have:=of_decide_eq_false tf
    rw[kl]
    lia
   ·have gr:SetTable.grown es1.size=(ks.length+1)*4:=by
     unfold SetTable.grown
     rw[ez,if_neg (by lia)]
    obtain⟨m,m1,m2,m3,m4⟩:=qml (show (ks.length+1)*4<=4095 by lia)
    have pw:sizeAbove ((ks.length+1)*4)-1+1=2 ^ m:=by lia
    have szm:(es1.map (·.1)).size=ks1.length:=by rw[Array.size_map,ez,kl]
    obtain⟨t3,order,l1,T3,l2,l3,l4,pm⟩:=qqq pw (by lia) (by lia) t2.finger (t2.movedTo (sizeAbove ((ks.length+1)*4)-1)) t2.led t2.plain (es1.map (·.1)) (by rw[szm,kl];lia)
    rw[szm] at pm
    obtain⟨r1,r2,r3,r4⟩:=qiy (prog:=prog) (w:=w) ee pm
    rw[r2] at T3
    have k3:(order.toList.filterMap (ks1[·]?)).length=ks1.length:=r1.length_eq
    have cov:coversAll order es1.size=true:=by
     unfold coversAll
     rw[List.isPerm_iff,ez,←kl]
     exact pm
    have fit3:t3.fits (order.filterMap (es1[·]?)).size=true:=by
     have O:=T3.ok
     rw[List.length_map,k3] at O
     unfold SetTable.fits SetTable.fill
     rw[r4,ez,←kl,O.sz,O.nd]
     have:=O.fl
     simp[this]
    refine⟨order.filterMap (es1[·]?),t3,?_,?_⟩
    ·unfold relayAll
     rw[gr,show t2.relaid (es1.map (·.1)) ((ks.length+1)*4)=some (t3,order) from l1]
     dsimp only
     rw[cov,fit3]
     rfl
    ·refine wpAny_storeSet_of (s:={ s with heap:=s.heap.update a (Obj.putSet es1 t2) }) st.ho st.hd ?_ (by rw[r4,ez,sizeLine_eq];lia)
     refine new nk _ _ _ _ _ _ ((Heap.SameBut.update ..).trans (Heap.SameBut.update ..)) (SetTx.store (s:={ s with heap:=s.heap.update a (Obj.putSet es1 t2) }) st ((r1.map (·.1)).nodup_iff.mpr nd2) T3 (λz=>by rw[l4,q5] at z;cases z) r3) (r1.trans kp) (l3.trans q4) ?_
     rw[k3,kl,l2]
     lia
  have use:∀(t2:SetTable) (K:Sem (Option Bool)) (Y:Option Bool->Shared->Prop),t2.mask=t1.mask->t2.place=t1.place->t2.dummies=t1.dummies->t2.led=t.led->t2.plain=false->(∀s',Q true s'->Y (some true) s') ->
    (∀s' es3 t3,relayAll t2 es1 (grown es1.size)=(es3,t3,false)->wpAny (model prog w) A (storeSet a es3 t3 >>= λ_=>pure (some true)) Y E s'->wpAny (model prog w) A K Y E s') ->
    wpAny (model prog w) A (storeSet a es1 t2 >>= λ_=>if (!false&&t2.tooFull)=true then K else pure (some true)) Y E s:=λt2 K Y q1 q2 q3 q4 q5 hy hK=>by
   refine wpAny_bind (wpAny_mono (fin t2 q1 q2 q3 q4 q5) (λ_ s1 hs=>?_) λ_ _ z=>z)
   cases tf:t2.tooFull with
  |false =>
    simp only[Bool.and_false,Bool.false_eq_true,↓reduceIte]
    exact wpAny_pure (hy _ (hs.1 tf))
  |true =>
    simp only[Bool.not_false,Bool.and_self,↓reduceIte]
    obtain⟨es3,t3,e3,w3⟩:=hs.2 tf
    exact hK _ _ _ e3 (wpAny_bind (wpAny_mono w3 (λ_ s2 q=>wpAny_pure (hy _ q)) λ_ _ z=>z))
  have hbv:hashByValue 8 (Value.str x tk)=pure false:=rfl
  split
  ·rw[hbv]
   refine wpAny_bind (wpAny_pure ?_)
   simp only[Bool.false_eq_true,↓reduceIte]
   refine use { t1 with plain:=false } _ _ rfl rfl rfl em rfl (λs' q=>wpAny_pure q) λs' es3 t3 e3 hw=>?_
   rw[e3]
   exact wpAny_bind (wpAny_pure hw)
  ·rename_i pf
   refine wpAny_bind (wpAny_pure ?_)
   simp only[↓reduceIte]
   refine use t1 _ _ rfl rfl rfl em (by simpa using pf) (λs' q=>wpAny_pure q) λs' es3 t3 e3 hw=>?_
   rw[e3]
   exact wpAny_bind (wpAny_pure hw)
end
end PySem
namespace PySem
open SetTable Sem
section
variable {prog:Program} {w:World} {A:Around} {E:Value->Shared->Prop} {s:Shared} {a b d r:Addr}
variable {o oa:Obj} {es ea:Array (Int×Value)} {ep epa:Nat} {t ta:SetTable} {ks ka:List (Str×Tok)}
theorem qx8(S:SetTx prog w s.heap a o es ep t ks){wanted:Nat}(hw:ks.length<=wanted)(h4:wanted<=4095){Q:Unit->Shared->Prop}
  (h:∀h' o' es' ep' t' ks',Heap.SameBut a s.heap h'->SetTx prog w h' a o' es' ep' t' ks'->ks'.Perm ks->t'.led=t.led->wanted<=t'.mask->Q () { s with heap:=h' }):wpAny (model prog w) A (setRelay a wanted) Q E s:=by
 obtain⟨m,m1,m2,m3,m4⟩:=qml h4
 have pw:sizeAbove wanted-1+1=2 ^ m:=by lia
 have sz:(es.map (·.1)).size=ks.length:=by rw[Array.size_map,S.size]
 obtain⟨t',order,l1,T,l2,l3,l4,pm⟩:=qqq pw (by lia) (by lia) t.finger (t.movedTo (sizeAbove wanted-1)) t.led t.plain (es.map (·.1)) (by rw[sz];lia)
 rw[sz] at pm
 obtain⟨r1,r2,r3,r4⟩:=qiy (prog:=prog) (w:=w) S.es pm
 rw[r2] at T
 unfold setRelay
 refine wpAny_bind (wpAny_setState_of S.ho S.hd S.fits ?_)
 dsimp only
 rw[if_neg (by rw[sizeLine_eq];lia)]
 rw[show t.relaid (es.map (·.1)) wanted=some (t',order) from l1]
 refine wpAny_bind ?_
 refine(show wpAny (model prog w) A (if ((order.filterMap (es[·]?)).size != es.size)=true then _ else Pure.pure (order.filterMap (es[·]?),t')) _ E s from ?_)
 rw[if_neg (by rw[r4];simp)]
 refine wpAny_pure ?_
 dsimp only
 refine wpAny_storeSet_of S.ho S.hd ?_ (by rw[r4,S.size,sizeLine_eq];lia)
 refine h _ _ _ _ _ _ (Heap.SameBut.update ..) (S.store ((r1.map (·.1)).nodup_iff.mpr S.nd) T (λz=>?_) r3) r1 l3 (by rw[l2];lia)
 have k0:=S.pl (by rw[←l4];exact z)
 rw[k0] at r1 ⊢
 exact List.Perm.eq_nil r1
theorem qrl(S:SetTx prog w s.heap a o es ep t ks){more:Nat}(hn:ks.length+more<=2000){Q:Unit->Shared->Prop}(h0:5*(ks.length+more)<3*t.mask->Q () s)
  (h:∀h' o' es' ep' t' ks',Heap.SameBut a s.heap h'->SetTx prog w h' a o' es' ep' t' ks'->ks'.Perm ks->t'.led=t.led->5*(ks.length+more)<3*t'.mask->Q () { s with heap:=h' }):wpAny (model prog w) A (setRoomFor a more) Q E s:=by
 have T:=S.tok
 have fl:t.fill=ks.length:=by unfold SetTable.fill;rw[T.sz,T.nd];rfl
 unfold setRoomFor
 refine wpAny_bind (wpAny_setState_of S.ho S.hd S.fits ?_)
 dsimp only
 unfold SetTable.roomFor
 rw[fl,T.sz]
 by_cases c:(ks.length+more)*5≥t.mask*3
 ·rw[if_pos c]
  dsimp only
  have big:=T.big
  refine qx8 S (by lia) (by lia) λh' o' es' ep' t' ks' sb S' pm le mk=>h h' o' es' ep' t' ks' sb S' pm le (by lia)
 ·rw[if_neg c]
  dsimp only
  exact wpAny_pure (h0 (by lia))
theorem SetTx.typeIs(S:SetTx prog w s.heap a o es ep t ks):s.TypeIs (.ref a) "set" := ⟨o,S.ho,S.ex.1⟩
theorem SetTx.but{h h':Heap}(S:SetTx prog w h a o es ep t ks)(ne:a≠r)(sb:Heap.SameBut r h h'):SetTx prog w h' a o es ep t ks :=
 ⟨(sb.2 a ne).trans S.ho,S.ex,S.hd,S.ok,S.pl,S.es,S.nd⟩
theorem SetTx.keep{h h':Heap}(S:SetTx prog w h a o es ep t ks)(k:h.get? a=some o->h'.get? a=some o):SetTx prog w h' a o es ep t ks:=⟨k S.ho,S.ex,S.hd,S.ok,S.pl,S.es,S.nd⟩
theorem quq(R:SetTx prog w s.heap r o es ep t [])(S:SetTx prog w s.heap a oa ea epa ta ka)(ne:a≠r)(hn:ka.length<=1900)(lo:5*ka.length<3*ta.mask){each:Sem Unit}{Q:Unit->Shared->Prop}(h0:ka=[]->Q () s)
  (h:∀h' o' es' ep' t' ks',Heap.SameBut r s.heap h'->SetTx prog w h' r o' es' ep' t' ks'->ks'.Perm ka->t'.led=(t.led&&ta.led)->5*ks'.length<3*t'.mask->Q () { s with heap:=h' }):wpAny (model prog w) A (setMerge r a each) Q E s:=by
 unfold setMerge
 rw[if_neg (by simpa using Ne.symm ne)]
 refine wpAny_bind (wpAny_setState_of S.ho S.hd S.fits ?_)
 dsimp only
 by_cases em:ka=[]
 ·have:ea.isEmpty=true:=by
   have:=S.size
   rw[em] at this
   simpa [Array.isEmpty] using this
  rw[if_pos this]
  exact wpAny_pure (h0 em)
 ·have ne2:¬ ea.isEmpty=true:=λz=>em (List.length_eq_zero_iff.mp (by
   have:=S.size
   have z:ea.size=0:=by simpa [Array.isEmpty] using z
   lia))
  rw[if_neg ne2]
  have sz:=S.size
  refine wpAny_bind (wpAny_mono (qrl (Q:=λ_ s1=>∃h1 o1 es1 ep1 t1,s1={ s with heap:=h1 }/\Heap.SameBut r s.heap h1/\SetTx prog w h1 r o1 es1 ep1 t1 []/\t1.led=t.led/\5*ka.length<3*t1.mask) R (more:=ea.size) (by simp only[List.length_nil];lia) (λlo1=>⟨s.heap,o,es,ep,t,rfl,Heap.SameBut.refl ..,R,rfl,by simp only[List.length_nil] at lo1;lia⟩) λh1 o1 es1 ep1 t1 ks1 sb R1 pm le lo1=>by
   cases List.Perm.eq_nil pm
   exact⟨h1,o1,es1,ep1,t1,rfl,sb,R1,le,by simp only[List.length_nil] at lo1;lia⟩) ?_ λ_ _ z=>z)
  rintro _ s1 ⟨h1,o1,es1,ep1,t1,rfl,sb,R1,le,lo1⟩
  have S1:SetTx prog w h1 a oa ea epa ta ka:=S.but ne sb
  have T1:=SetTx.tok (s:={ s with heap:=h1 }) R1
  refine wpAny_bind (wpAny_setState_of (s:={ s with heap:=h1 }) R1.ho R1.hd (SetTx.fits (s:={ s with heap:=h1 }) R1) ?_)
  dsimp only
  have fl:t1.fill=0:=by unfold SetTable.fill;rw[T1.sz,T1.nd];rfl
  unfold SetTable.road
  rw[fl]
  simp only[bne_self_eq_false,Bool.false_eq_true,if_false]
  by_cases c:(t1.mask==ta.mask&&ta.dummies.isEmpty)=true
  ·rw[if_pos c]
   dsimp only
   refine wpAny_storeSet_of (s:={ s with heap:=h1 }) R1.ho R1.hd ?_ (by rw[sz,sizeLine_eq];lia)
   refine h _ _ _ _ _ ka (sb.trans (Heap.SameBut.update ..)) (SetTx.store (s:={ s with heap:=h1 }) R1 S1.nd (TOkH.flagsX S.ok rfl rfl rfl) (λz=>S.pl (by simp only[Bool.and_eq_true] at z;exact z.2)) S.es) (List.Perm.refl _) (by show (t1.led&&ta.led)=_;rw[le]) lo
  ·rw[if_neg c]
   dsimp only
   obtain⟨m,hm⟩:=T1.mk2
   have szm:(ea.map (·.1)).size=ka.length:=by rw[Array.size_map,sz]
   obtain⟨t',order,l1,T,l2,l3,l4,pm⟩:=qqq hm T1.big T1.few t1.finger t1.moves (t1.led&&ta.led) (t1.plain&&ta.plain) (ea.map (·.1)) (by rw[szm];lia)
   rw[szm] at pm
   obtain⟨r1,r2,r3,r4⟩:=qiy (prog:=prog) (w:=w) S.es pm
   rw[r2] at T
   rw[l1]
   refine wpAny_bind ?_
   refine(show wpAny (model prog w) A (if ((order.filterMap (ea[·]?)).size != ea.size)=true then _ else Pure.pure (order.filterMap (ea[·]?),t')) _ E { s with heap:=h1 } from ?_)
   rw[if_neg (by rw[r4];simp)]
   refine wpAny_pure ?_
   dsimp only
   refine wpAny_storeSet_of (s:={ s with heap:=h1 }) R1.ho R1.hd ?_ (by rw[r4,sz,sizeLine_eq];lia)
   refine h _ _ _ _ _ _ (sb.trans (Heap.SameBut.update ..)) (SetTx.store (s:={ s with heap:=h1 }) R1 ((r1.map (·.1)).nodup_iff.mpr S1.nd) T (λz=>?_) r3) r1 (by rw[l3,le]) (by rw[r1.length_eq,l2];exact lo1)
   have k0:=S.pl (by rw[l4] at z;simp only[Bool.and_eq_true] at z;exact z.2)
   exact absurd k0 em
theorem SetTx.few(S:SetTx prog w s.heap a o es ep t ks)(nd:¬ ((!t.plain&&decide (es.size>1))=true)):es.size<=1:=by
 rcases Nat.lt_or_ge 1 es.size with z|z
 ·exfalso
  have pt:t.plain=true:=by
   cases e:t.plain with
  |true=>rfl
  |false=>exact absurd (by rw[e,decide_eq_true z];rfl) nd
  have sz:=S.size
  rw[S.pl pt] at sz
  simp only[List.length_nil] at sz
  lia
 ·exact z
theorem q1w(S:SetTx prog w s.heap a o es ep t ks){Q:Array (Int×Value)->Shared->Prop}(h:∀l dr,l.toList.Perm es.toList->Q l { s with drawn:=dr }):wpAny (model prog w) A (setWalk a) Q E s:=by
 unfold setWalk
 refine wpAny_bind (wpAny_setState_of S.ho S.hd S.fits ?_)
 dsimp only
 unfold setsByText
 refine wpAny_bind (wpAny_bind (wpAny_askSetting (wpAny_pure ?_)))
 split
 ·refine wpAny_bind (wpAny_askSetting (wpAny_pure ?_))
  refine h _ s.drawn ?_
  unfold pickOrder
  have:=qgx ((model prog w).w.params.setOrder a ep) es.size 0 es.toList #[] (by simp)
  simpa using this
 ·split
  ·refine wpAny_bind (qgg _ _ _ _ (by simp) λl dr hp=>wpAny_pure (h _ dr ?_))
   exact hp
  ·rename_i nd
   have few:es.size<=1:=S.few nd
   refine wpAny_bind (show wpAny (model prog w) A (if (!t.led&&decide (es.size>1))=true then _ else Pure.pure ()) _ E s from ?_)
   rw[if_neg (by rw[decide_eq_false (by lia),Bool.and_false];decide)]
   exact wpAny_pure (wpAny_pure (h es s.drawn (List.Perm.refl _)))
end
end PySem
namespace PySem
open SetTable
section
variable {prog:Program} {w:World} {A:Around} {E:Value->Shared->Prop} {s:Shared} {a b d r:Addr}
variable {o oa:Obj} {es ea:Array (Int×Value)} {ep epa:Nat} {t ta:SetTable} {ks ka:List (Str×Tok)} {xs:List (Str×Tok)}
def DictTx(prog:Program)(w:World)(h:Heap)(d:Addr)(xs:List (Str×Tok)):Prop:=∃od ed epd,h.get? d=some od/\od.cls=.type "dict" /\ od.data=.dict ed epd/\ed.toList.map (λe=>(e.hash,e.key))=xs.map (enX prog w)/\(xs.map (·.1)).Nodup
theorem DictTx.typeIs(D:DictTx prog w s.heap d xs):s.TypeIs (.ref d) "dict" := let ⟨od,_,_,h1,h2,_⟩:=D;⟨od,h1,h2⟩
theorem DictTx.keep{h h':Heap}(D:DictTx prog w h d xs)(k:∀o,h.get? d=some o->h'.get? d=some o):DictTx prog w h' d xs:=let ⟨od,ed,epd,h1,r⟩:=D;⟨od,ed,epd,k _ h1,r⟩
theorem qy8(id:String)(S:SetTx prog w s.heap a o es ep t [])(D:DictTx prog w s.heap d xs)(nd:(d==sysModules)=false)(hx:xs.length<=800){Q:Unit->Shared->Prop}
  (h:∀h' o' es' ep' t' ks',Heap.SameBut a s.heap h'->SetTx prog w h' a o' es' ep' t' ks'->ks'.Perm xs->t'.led=t.led->5*ks'.length<3*t'.mask->Q () { s with heap:=h' }):wpAny (model prog w) A (Builtin.Frozenset.updateFrom id a (.ref d)) Q E s:=by
 have hT:=D.typeIs
 obtain⟨od,ed,epd,d1,d2,d3,d4,d6⟩:=D
 have esz:ed.size=xs.length:=by
  have:=congrArg List.length d4
  rw[List.length_map,List.length_map] at this
  simpa using this
 have ne:d≠a:=λz=>by
  rw[z,S.ho] at d1
  cases d1
  rw[S.hd] at d3
  cases d3
 have entry:∀i (hi:i<xs.length),∃e,ed[i]?=some e/\e.hash=hX prog w xs[i].1/\e.key=.str xs[i].1 xs[i].2:=λi hi=>by
  have e1:(ed.toList.map λe=>(e.hash,e.key))[i]?=(xs.map (enX prog w))[i]?:=by rw[d4]
  rw[List.getElem?_map,List.getElem?_map,List.getElem?_eq_getElem hi,Array.getElem?_toList] at e1
  obtain⟨e,e2,e3⟩:=Option.map_eq_some_iff.mp e1
  have e4:(e.hash,e.key)=enX prog w xs[i]:=e3
  exact⟨e,e2,congrArg Prod.fst e4,congrArg Prod.snd e4⟩
 unfold Builtin.Frozenset.updateFrom
 refine wpAny_bind (qlz hT ?_)
 simp only[Bool.false_eq_true,if_false]
 refine wpAny_bind (wpAny_typeOf hT ?_)
 rw[if_pos (by rfl)]
 refine wpAny_bind (wpAny_rule ?_)
 refine wpAny_bind (wpAny_pure ?_)
 rw[nd]
 simp only[Bool.false_eq_true,if_false]
 refine wpAny_bind (wpAny_dictEpoch d1 d3 ?_)
 refine wpAny_bind (wpAny_dictEntries d1 d3 ?_)
 have go:∀(h0:Heap) (o0:Obj) (es0:Array (Int×Value)) (ep0:Nat) (t0:SetTable),Heap.SameBut a s.heap h0->SetTx prog w h0 a o0 es0 ep0 t0 []->t0.led=t.led->0<t0.mask->wpAny (model prog w) A (do
    let ent ←dictEntries d
    for i in [0:ent.size] do
     let some e:=(←dictEntries d)[i]?|unsupported "internal:set-from-dict"
     let _ ←holding [e.key] (setAddHashed a e.key e.hash)
     if (←dictEpoch d) != epd then unsupported s!"{id}:changed-during-callback"
    return ()) Q E { s with heap:=h0 }:=λh0 o0 es0 ep0 t0 sb0 S0 le0 mk0=>by
  have dd0:h0.get? d=some od:=(sb0.2 d ne).trans d1
  refine wpAny_bind (wpAny_dictEntries (s:={ s with heap:=h0 }) dd0 d3 ?_)
  refine wpAny_bind ?_
  rw[Std.Legacy.Range.forIn_eq_forIn_range']
  simp only[Std.Legacy.Range.size,Nat.sub_zero,Nat.add_sub_cancel,Nat.div_one]
  refine wpAny_forIn_list _ (λrest _ s'=>∃i h' o' es' ep' t' ks',rest=List.range' i (ed.size-i)/\i<=ed.size/\s'={ s with heap:=h' }/\Heap.SameBut a s.heap h'/\SetTx prog w h' a o' es' ep' t' ks'/\ks'.Perm (xs.take i)/\t'.led=t.led/\5*ks'.length<3*t'.mask) _ ?_ ?_ _ _ ⟨0,h0,o0,es0,ep0,t0,[],rfl,Nat.zero_le _,rfl,sb0,S0,List.Perm.refl _,le0,by simp;lia⟩
  ·rintro i0 rest r s' ⟨i,h',o',es',ep',t',ks',er,hi,rfl,sb,S',pm,le,lo⟩
   have il:i<ed.size:=by
    rcases Nat.lt_or_ge i ed.size with z|z
    ·exact z
    ·rw[Nat.sub_eq_zero_of_le z] at er;cases er
   rw[show ed.size-i=(ed.size-(i+1))+1 by lia,List.range'_succ] at er
   obtain⟨rfl,er⟩:=List.cons.inj er
   have dd:h'.get? d=some od:=(sb.2 d ne).trans d1
   have xl:i0<xs.length:=by lia
   obtain⟨e,e1,e2,e3⟩:=entry i0 xl
   refine wpAny_bind (wpAny_dictEntries (s:={ s with heap:=h' }) dd d3 ?_)
   rw[e1]
   dsimp only
   rw[e2,e3]
   have kl:=pm.length_eq
   rw[List.length_take] at kl
   have nk0:xs[i0].1∉ks'.map (·.1):=λmk=>by
    obtain⟨p,mp,ep⟩:=List.mem_map.mp mk
    obtain⟨q,hq,eq⟩:=List.mem_iff_getElem.mp (pm.mem_iff.mp mp)
    rw[List.length_take] at hq
    rw[List.getElem_take] at eq
    have N:=List.pairwise_iff_getElem.mp d6
    have:=N q i0 (by rw[List.length_map];lia) (by rw[List.length_map];lia) (by lia)
    rw[List.getElem_map,List.getElem_map,eq] at this
    exact this ep
   refine wpAny_bind (wpAny_holding ?_)
   refine qyv (s:={ s with heap:=h' }) S' lo (by lia) _ _ (λmk=>absurd mk nk0) λ_ h2 o2 es2 ep2 t2 ks2 sb2 S2 pm2 le2 lo2=>?_
   have dd2:h2.get? d=some od:=(sb2.2 d ne).trans dd
   refine wpAny_bind (wpAny_dictEpoch (s:={ s with heap:=h2 }) dd2 d3 ?_)
   rw[if_neg (by simp)]
   refine wpAny_pure ⟨i0+1,h2,o2,es2,ep2,t2,ks2,er,by lia,rfl,sb.trans sb2,S2,?_,le2.trans le,lo2⟩
   rw[List.take_succ,List.getElem?_eq_getElem xl]
   exact pm2.trans (pm.append_right _)
  ·rintro r s' ⟨i,h',o',es',ep',t',ks',er,hi,rfl,sb,S',pm,le,lo⟩
   have:i=xs.length:=by
    have:=congrArg List.length er
    rw[List.length_range',List.length_nil] at this
    lia
   subst this
   rw[List.take_length] at pm
   exact wpAny_pure (h h' o' es' ep' t' ks' sb S' pm le lo)
 refine wpAny_bind (qrl S (by simp only[List.length_nil];lia) (λ_=>?_) λh' o' es' ep' t' ks' sb S' pm le lo=>?_)
 ·have:=go s.heap o es ep t (Heap.SameBut.refl ..) S rfl (by have:=S.tok.big;lia)
  exact this
 ·cases List.Perm.eq_nil pm
  exact go h' o' es' ep' t' sb S' le (by have:=(SetTx.tok (s:={ s with heap:=h' }) S').big;lia)
theorem qx3(S:SetTx prog w s.heap a oa ea epa ta ka)(R:SetTx prog w s.heap r o es ep t ks){Q:Bool->Shared->Prop}(h:Q true s):wpAny (model prog w) A (setsQuiet [a,r]) Q E s:=by
 unfold setsQuiet
 refine wpAny_bind ?_
 refine wpAny_forIn_list _ (λrest q s'=>q.1=none/\s'=s/\∀b∈rest,∃ob eb epb tb kb,SetTx prog w s.heap b ob eb epb tb kb) _ ?_ ?_ _ _ ⟨rfl,rfl,λb mb=>?_⟩
 ·rintro b rest q s' ⟨hq,rfl,hall⟩
  obtain⟨ob,eb,epb,tb,kb,B⟩:=hall b List.mem_cons_self
  refine wpAny_bind (wpAny_setEntries_of B.ho B.hd B.fits ?_)
  refine wpAny_bind ?_
  rw[←Array.forIn_toList,B.es]
  refine wpAny_forIn_list _ (λrest q s1=>q.1=none/\s1=s'/\∀v∈rest,∃p,v=enX prog w p) _ ?_ ?_ _ _ ⟨rfl,rfl,λv mv=>by
   obtain⟨p,_,rfl⟩:=List.mem_map.mp mv
   exact⟨p,rfl⟩⟩
  ·rintro v rest2 q2 s2 ⟨hq2,rfl,hall2⟩
   obtain⟨p,rfl⟩:=hall2 v List.mem_cons_self
   exact wpAny_pure ⟨rfl,rfl,λu mu=>hall2 u (List.mem_cons_of_mem _ mu)⟩
  ·rintro⟨q1,q2⟩ s2 ⟨hq2,rfl,_⟩
   simp only at hq2
   subst hq2
   exact wpAny_pure ⟨rfl,rfl,λu mu=>hall u (List.mem_cons_of_mem _ mu)⟩
 ·rintro⟨q1,q2⟩ s' ⟨hq,rfl,_⟩
  simp only at hq
  subst hq
  exact wpAny_pure h
 ·rcases List.mem_cons.mp mb with e|mb
  ·exact⟨_,_,_,_,_,by rw[e];exact S⟩
  ·rw[List.mem_singleton.mp mb]
   exact⟨_,_,_,_,_,R⟩
theorem qyr(S:SetTx prog w s.heap a oa ea epa ta ka)(R:SetTx prog w s.heap r o es ep t ks)(r0:ks≠[])(hl:t.led=ta.led){Q:Array (Int×Value)->Shared->Prop}(h:∀l dr,l.toList.Perm ea.toList->Q l { s with drawn:=dr }):wpAny (model prog w) A (setWalkUnseen a [r] (some r)) Q E s:=by
 unfold setWalkUnseen
 refine wpAny_bind (wpAny_setState_of S.ho S.hd S.fits ?_)
 dsimp only
 unfold setsByText
 refine wpAny_bind (wpAny_bind (wpAny_askSetting (wpAny_pure ?_)))
 split
 ·exact q1w S h
 ·refine wpAny_bind (qx3 S R ?_)
  simp only[Bool.not_true,Bool.false_eq_true,if_false]
  refine wpAny_bind (wpAny_rule ?_)
  refine wpAny_bind (wpAny_setState_of R.ho R.hd R.fits ?_)
  dsimp only
  have pf:t.plain=false:=by
   cases e:t.plain with
  |false=>rfl
  |true=>exact absurd (R.pl e) r0
  rw[hl,pf]
  rw[if_neg (by simp)]
  exact wpAny_pure (h ea s.drawn (List.Perm.refl _))
theorem qwt(hled:t.led=ta.led)(R:SetTx prog w s.heap r o es ep t ks)(r0:ks≠[])(S:SetTx prog w s.heap a oa ea epa ta ka)(ne:a≠r)(hn:ks.length+ka.length<=800){each:Sem Unit}
  (he:∀(s1:Shared) (Q1:Unit->Shared->Prop),SetTx prog w s1.heap a oa ea epa ta ka->Q1 () s1->wpAny (model prog w) A each Q1 E s1) {Q:Unit->Shared->Prop}
  (h:∀h' dr o' es' ep' t' ks',Heap.SameBut r s.heap h'->SetTx prog w h' r o' es' ep' t' ks'->(∀k,k∈ks'.map (·.1)↔k∈ks.map (·.1)\/k∈ka.map (·.1))->(ks'.length<=ks.length+ka.length/\∀p∈ks',p∈ks\/p∈ka)->t'.led=t.led->Q () { s with heap:=h',drawn:=dr }):wpAny (model prog w) A (setMerge r a each) Q E s:=by
 have sz:=S.size
 unfold setMerge
 rw[if_neg (by simpa using Ne.symm ne)]
 refine wpAny_bind (wpAny_setState_of S.ho S.hd S.fits ?_)
 dsimp only
 split
 ·rename_i em
  have em:ea.size=0:=by simpa [Array.isEmpty] using em
  have ke:ka=[]:=List.length_eq_zero_iff.mp (by lia)
  exact wpAny_pure (h s.heap s.drawn o es ep t ks (Heap.SameBut.refl ..) R (λk=>by rw[ke];simp) ⟨by lia,λp m=>.inl m⟩ rfl)
 ·refine wpAny_bind (wpAny_mono (qrl (Q:=λ_ s1=>∃h1 o1 es1 ep1 t1 ks1,s1={ s with heap:=h1 }/\Heap.SameBut r s.heap h1/\SetTx prog w h1 r o1 es1 ep1 t1 ks1/\ks1.Perm ks/\t1.led=t.led/\5*ks.length<3*t1.mask) R (more:=ea.size) (by lia) (λlo1=>⟨s.heap,o,es,ep,t,ks,rfl,Heap.SameBut.refl ..,R,List.Perm.refl _,rfl,by lia⟩) λh1 o1 es1 ep1 t1 ks1 sb R1 pm le lo1=>⟨h1,o1,es1,ep1,t1,ks1,rfl,sb,R1,pm,le,by lia⟩) ?_ λ_ _ z=>z)
  rintro _ s1 ⟨h1,o1,es1,ep1,t1,ks1,rfl,sb,R1,pm,le,lo1⟩
  have S1:SetTx prog w h1 a oa ea epa ta ka:=S.but ne sb
  have T1:=SetTx.tok (s:={ s with heap:=h1 }) R1
  have kl:=pm.length_eq
  have k0:=List.length_pos_iff.mpr r0
  refine wpAny_bind (wpAny_setState_of (s:={ s with heap:=h1 }) R1.ho R1.hd (SetTx.fits (s:={ s with heap:=h1 }) R1) ?_)
  dsimp only
  have fl:t1.fill=ks1.length:=by unfold SetTable.fill;rw[T1.sz,T1.nd];rfl
  unfold SetTable.road
  rw[fl,if_pos (by simp;intro z;rw[z] at kl;simp at kl;lia)]
  dsimp only
  refine wpAny_bind (qyr (s:={ s with heap:=h1 }) S1 R1 (λz=>by rw[z] at kl;simp at kl;lia) (le.trans hled) λl dr lp=>?_)
  refine wpAny_bind ?_
  rw[←Array.forIn_toList]
  refine wpAny_forIn_list _ (λrest _ s'=>∃don h' dr' o' es' ep' t' ks',l.toList=don++rest/\s'={ s with heap:=h',drawn:=dr' }/\Heap.SameBut r s.heap h'/\SetTx prog w h' r o' es' ep' t' ks'/\(∀k,k∈ks'.map (·.1)↔k∈ks.map (·.1)\/∃p∈ka,p.1=k/\enX prog w p∈don)/\(ks'.length<=ks.length+don.length/\∀p∈ks',p∈ks\/p∈ka)/\t'.led=t.led/\5*ks'.length<3*t'.mask) _ ?_ ?_ _ _ ⟨[],h1,dr,o1,es1,ep1,t1,ks1,rfl,rfl,sb,R1,λk=>by rw[(pm.map (·.1)).mem_iff];simp,⟨by simp;lia,λp m=>.inl (pm.mem_iff.mp m)⟩,le,by lia⟩
  ·rintro x rest u s' ⟨don,h',dr',o',es',ep',t',ks',el,rfl,sb',R',iff',⟨len',sub'⟩,le',lo'⟩
   have mx:x∈ea.toList:=lp.mem_iff.mp (by rw[el];simp)
   rw[S.es] at mx
   obtain⟨p,mp,rfl⟩:=List.mem_map.mp mx
   have S':SetTx prog w h' a oa ea epa ta ka:=S.but ne sb'
   have dl:don.length+rest.length+1=ka.length:=by
    have:=lp.length_eq
    rw[el,S.es,List.length_map,List.length_append,List.length_cons] at this
    lia
   have more:∀k,(∃q∈ka,q.1=k/\enX prog w q∈don++[enX prog w p])↔(∃q∈ka,q.1=k/\enX prog w q∈don)\/k=p.1:=λk=>by
    constructor
    ·rintro⟨q,mq,eq,m⟩
     rcases List.mem_append.mp m with m|m
     ·exact .inl ⟨q,mq,eq,m⟩
     ·have:=List.mem_singleton.mp m
      have e2:q.1=p.1:=(Value.str.inj (Prod.mk.inj this).2).1
      exact .inr (by rw[←eq];exact e2)
    ·rintro (⟨q,mq,eq,m⟩|e)
     ·exact⟨q,mq,eq,List.mem_append_left _ m⟩
     ·exact⟨p,mp,e.symm,List.mem_append_right _ (List.mem_singleton.mpr rfl)⟩
   have tail:∀(h2:Heap) (o2:Obj) (es2:Array (Int×Value)) (ep2:Nat) (t2:SetTable) (ks2:List (Str×Tok)),Heap.SameBut r s.heap h2->SetTx prog w h2 r o2 es2 ep2 t2 ks2->(∀k,k∈ks2.map (·.1)↔k∈ks'.map (·.1)\/k=p.1)->(ks2.length<=ks'.length+1/\∀q∈ks2,q∈ks'\/q=p)->t2.led=t.led->5*ks2.length<3*t2.mask->∃don h' dr2 o' es' ep' t' ks',l.toList=don++rest/\({ s with heap:=h2,drawn:=dr' }:Shared)={ s with heap:=h',drawn:=dr2 }/\Heap.SameBut r s.heap h'/\SetTx prog w h' r o' es' ep' t' ks'/\(∀k,k∈ks'.map (·.1)↔k∈ks.map (·.1)\/∃p∈ka,p.1=k/\enX prog w p∈don)/\(ks'.length<=ks.length+don.length/\∀p∈ks',p∈ks\/p∈ka)/\t'.led=t.led/\5*ks'.length<3*t'.mask:=λh2 o2 es2 ep2 t2 ks2 sb2 R2 i2 l2 le2 lo2=>⟨don++[enX prog w p],h2,dr',o2,es2,ep2,t2,ks2,by rw[el];simp,rfl,sb2,R2,λk=>by rw[i2,iff',more,or_assoc],⟨by rw[List.length_append,List.length_singleton];lia,λq m=>(l2.2 q m).elim (sub' q) λe=>.inr (by rw[e];exact mp)⟩,le2,lo2⟩
   refine wpAny_bind (wpAny_holding ?_)
   refine qyv (s:={ s with heap:=h',drawn:=dr' }) R' lo' (by lia) p.1 p.2 (λmk=>?_) λnk h2 o2 es2 ep2 t2 ks2 sb2 R2 pm2 le2 lo2=>?_
   ·refine wpAny_bind (he _ _ S' ?_)
    refine wpAny_bind (wpAny_setState_of (s:={ s with heap:=h',drawn:=dr' }) S'.ho S'.hd (SetTx.fits (s:={ s with heap:=h',drawn:=dr' }) S') ?_)
    rw[if_neg (by simp)]
    exact wpAny_pure (tail h' o' es' ep' t' ks' sb' R' (λk=>⟨.inl,λz=>z.elim id λe=>by rw[e];exact mk⟩) ⟨by lia,λq m=>.inl m⟩ le' lo')
   ·have S2:SetTx prog w h2 a oa ea epa ta ka:=S'.but ne sb2
    refine wpAny_bind (he _ _ S2 ?_)
    refine wpAny_bind (wpAny_setState_of (s:={ s with heap:=h2,drawn:=dr' }) S2.ho S2.hd (SetTx.fits (s:={ s with heap:=h2,drawn:=dr' }) S2) ?_)
    rw[if_neg (by simp)]
    exact wpAny_pure (tail h2 o2 es2 ep2 t2 ks2 (sb'.trans sb2) R2 (λk=>by rw[(pm2.map (·.1)).mem_iff,List.map_append,List.mem_append];simp) ⟨by rw[pm2.length_eq,List.length_append,List.length_singleton];exact Nat.le_refl _,λq m=>by
     rcases List.mem_append.mp (pm2.mem_iff.mp m) with z|z
     ·exact .inl z
     ·exact .inr (List.mem_singleton.mp z)⟩ (le2.trans le') lo2)
  ·rintro u s' ⟨don,h',dr',o',es',ep',t',ks',el,rfl,sb',R',iff',⟨len',sub'⟩,le',lo'⟩
   rw[List.append_nil] at el
   refine wpAny_pure (h h' dr' o' es' ep' t' ks' sb' R' (λk=>?_) ⟨?_,sub'⟩ le')
   ·rw[iff']
    refine or_congr Iff.rfl ⟨λ⟨p,mp,ep,_⟩=>List.mem_map.mpr ⟨p,mp,ep⟩,λm=>?_⟩
    obtain⟨p,mp,ep⟩:=List.mem_map.mp m
    exact⟨p,mp,ep,by rw[←el];exact lp.mem_iff.mpr (by rw[S.es];exact List.mem_map.mpr ⟨p,mp,rfl⟩)⟩
   ·have:=lp.length_eq
    rw[el,S.es,List.length_map] at this
    lia
end
end PySem
namespace PySem
open SetTable
section
variable {prog:Program} {w:World} {A:Around} {E:Value->Shared->Prop} {s:Shared} {a b d r:Addr}
variable {o oa ob:Obj} {es ea eb:Array (Int×Value)} {ep epa epb:Nat} {t ta tb:SetTable} {ks ka kb xs:List (Str×Tok)}
theorem SetTx.push(S:SetTx prog w s.heap a o es ep t ks)(x:Obj):SetTx prog w (s.heap.push x) a o es ep t ks:=S.keep qfa
theorem SetTx.ext{x:Obj}{h':Heap}(S:SetTx prog w s.heap a o es ep t ks)(sb:Heap.SameBut s.heap.objs.size (s.heap.push x) h'):SetTx prog w h' a o es ep t ks:=S.keep λe=>(sb.2 a (fresh_ne e)).trans (qfa e)
theorem qq5{Q:Value->Shared->Prop}(h:SetTx prog w (s.heap.push (newS (qb1 prog w))) s.heap.objs.size (newS (qb1 prog w)) #[] 0 (.fresh 0 0 (qb1 prog w)) []->Q (.ref s.heap.objs.size) { s with heap:=s.heap.push (newS (qb1 prog w)) }):wpAny (model prog w) A (newSet (.type "set")) Q E s:=by
 unfold newSet setsByText
 refine wpAny_bind (wpAny_bind (wpAny_askSetting (wpAny_pure ?_)))
 dsimp only
 simp only[newObj]
 refine wpAny_bind (wpAny_alloc (wpAny_pure (h ⟨Heap.get?_push_size _ rfl,⟨rfl,rfl,rfl⟩,rfl,qmz _,λ_=>rfl,rfl,List.nodup_nil⟩)))
theorem qst(S:SetTx prog w s.heap a oa ea epa ta ka)(hn:ka.length<=1900)(lo:5*ka.length<3*ta.mask){Q:Value->Shared->Prop}
  (h:∀h' o' es' ep' t' ks',Heap.SameBut s.heap.objs.size (s.heap.push (newS (qb1 prog w))) h'->SetTx prog w h' s.heap.objs.size o' es' ep' t' ks'->SetTx prog w h' a oa ea epa ta ka->ks'.Perm ka->t'.led=(qb1 prog w&&ta.led)\/t'.led=qb1 prog w->5*ks'.length<3*t'.mask->Q (.ref s.heap.objs.size) { s with heap:=h' }):wpAny (model prog w) A (Builtin.Frozenset.copyOf a) Q E s:=by
 unfold Builtin.Frozenset.copyOf
 refine wpAny_bind (qy0 S.typeIs ?_)
 refine wpAny_bind (qq5 λN=>?_)
 refine wpAny_bind (wpAny_pure ?_)
 have S1:=S.push (newS (qb1 prog w))
 have ne:=fresh_ne S.ho
 refine wpAny_bind (quq (s:={ s with heap:=s.heap.push (newS (qb1 prog w)) }) N S1 ne hn lo (λe=>wpAny_pure ?_) λh' o' es' ep' t' ks' sb R pm le lo'=>wpAny_pure ?_)
 ·exact h _ _ _ _ _ [] (Heap.SameBut.refl ..) N S1 (by rw[e]) (.inr rfl) (by show 5*0<3*7;decide)
 ·exact h h' o' es' ep' t' ks' sb R (S1.but ne sb) pm (.inl le) lo'
theorem or_X(Sa:SetTx prog w s.heap a oa ea epa ta ka)(Sb:SetTx prog w s.heap b ob eb epb tb kb)(ab:a≠b)(lo:5*ka.length<3*ta.mask)(lob:5*kb.length<3*tb.mask)(la:ta.led=qb1 prog w)(lb:tb.led=qb1 prog w)(hn:ka.length+kb.length<=800){Q:Fin->Shared->Prop}
  (h:∀h' dr o' es' ep' t' ks',Heap.SameBut s.heap.objs.size (s.heap.push (newS (qb1 prog w))) h'->SetTx prog w h' s.heap.objs.size o' es' ep' t' ks'->(∀k,k∈ks'.map (·.1)↔k∈ka.map (·.1)\/k∈kb.map (·.1))->(ks'.length<=ka.length+kb.length/\∀p∈ks',p∈ka\/p∈kb)->t'.led=qb1 prog w->wpAny (model prog w) A (ret (.ref s.heap.objs.size)) Q E { s with heap:=h',drawn:=dr }):wpAny (model prog w) A (Builtin.«frozenset.__or__» ⟨[.ref a,.ref b],[]⟩) Q E s:=by
 refine wpAny_bind (wpAny_bind (wpAny_pure (wpAny_pure ?_)))
 dsimp only
 refine wpAny_bind ?_
 unfold andM
 refine wpAny_bind (qll Sa.typeIs ?_)
 refine(qll Sb.typeIs ?_)
 simp only[Bool.not_true,Bool.false_eq_true,if_false]
 refine wpAny_bind (wpAny_pure ?_)
 refine wpAny_bind ?_
 refine wpAny_bind (qst Sa (by lia) lo λh' o' es' ep' t' ks' sb R Sa' pm le lo'=>?_)
 dsimp only
 rw[if_pos (by simpa using Ne.symm ab)]
 refine wpAny_bind (wpAny_pure ?_)
 have Sb':SetTx prog w h' b ob eb epb tb kb:=Sb.ext sb
 have br:b≠s.heap.objs.size:=fresh_ne Sb.ho
 have kl:=pm.length_eq
 have le':t'.led=qb1 prog w:=by
  rcases le with z|z
  ·rw[z,la,Bool.and_self]
  ·exact z
 have same:∀(s1:Shared) (Q1:Unit->Shared->Prop) (id:String),SetTx prog w s1.heap b ob eb epb tb kb->Q1 () s1->wpAny (model prog w) A (Builtin.Frozenset.unchanged id b epb) Q1 E s1:=λs1 Q1 id S1 q=>by
  unfold Builtin.Frozenset.unchanged
  refine wpAny_bind (wpAny_setEpoch_of S1.ho S1.hd S1.fits ?_)
  rw[if_neg (by simp)]
  exact wpAny_pure q
 refine wpAny_bind (wpAny_holding ?_)
 unfold Builtin.Frozenset.updateFrom
 refine wpAny_bind (qll (s:={ s with heap:=h' }) (SetTx.typeIs (s:={ s with heap:=h' }) Sb') ?_)
 simp only[if_true]
 refine wpAny_bind (wpAny_pure ?_)
 unfold Builtin.Frozenset.merge
 refine wpAny_bind (wpAny_setEpoch_of (s:={ s with heap:=h' }) Sb'.ho Sb'.hd (SetTx.fits (s:={ s with heap:=h' }) Sb') ?_)
 by_cases e0:ks'=[]
 ·subst e0
  have ka0:ka=[]:=List.length_eq_zero_iff.mp kl.symm
  refine quq (s:={ s with heap:=h' }) R Sb' br (by lia) lob (λz=>wpAny_pure ?_) λh2 o2 es2 ep2 t2 ks2 sb2 R2 pm2 le2 lo2=>wpAny_pure ?_
  ·exact h h' s.drawn o' es' ep' t' [] sb R (λk=>by rw[ka0,z];simp) ⟨by simp,λp m=>(by cases m)⟩ le'
  ·exact h h2 s.drawn o2 es2 ep2 t2 ks2 (sb.trans sb2) R2 (λk=>by rw[(pm2.map (·.1)).mem_iff,ka0];simp) ⟨by rw[pm2.length_eq];lia,λp m=>.inr (pm2.mem_iff.mp m)⟩ (by rw[le2,le',lb,Bool.and_self])
 ·refine qwt (s:={ s with heap:=h' }) (le'.trans lb.symm) R e0 Sb' br (by lia) (λs1 Q1 S1 q=>same s1 Q1 _ S1 q) λh2 dr2 o2 es2 ep2 t2 ks2 sb2 R2 iff2 len2 le2=>wpAny_pure ?_
  exact h h2 dr2 o2 es2 ep2 t2 ks2 (sb.trans sb2) R2 (λk=>by rw[iff2,(pm.map (·.1)).mem_iff]) ⟨by lia,λp m=>(len2.2 p m).imp pm.mem_iff.mp id⟩ (le2.trans le')
theorem qzb(S:SetTx prog w s.heap a o es ep t [])(D:DictTx prog w s.heap d xs)(nd:(d==sysModules)=false)(hx:xs.length<=800){Q:Fin->Shared->Prop}
  (h:∀h' o' es' ep' t' ks',Heap.SameBut a s.heap h'->SetTx prog w h' a o' es' ep' t' ks'->ks'.Perm xs->t'.led=t.led->5*ks'.length<3*t'.mask->wpAny (model prog w) A (ret .none) Q E { s with heap:=h' }):wpAny (model prog w) A (Builtin.«set.__init__» ⟨[.ref a,.ref d],[]⟩) Q E s:=by
 have T:=S.tok
 have fl:t.fill=0:=by unfold SetTable.fill;rw[T.sz,T.nd];rfl
 unfold Builtin.«set.__init__»
 refine wpAny_bind (show wpAny (model prog w) A (noKeywords "set" ⟨[.ref a,.ref d],[]⟩) _ E s from wpAny_pure ?_)
 dsimp only
 refine wpAny_bind ?_
 refine qq4 S.typeIs λz=>?_
 refine wpAny_bind (show wpAny (model prog w) A (checkCount z 0 1 1) _ E s from wpAny_pure ?_)
 refine wpAny_bind (wpAny_pure ?_)
 unfold setUsed
 refine wpAny_bind (wpAny_bind (wpAny_setState_of S.ho S.hd S.fits (wpAny_pure ?_)))
 dsimp only
 rw[fl]
 simp only[bne_self_eq_false,Bool.false_eq_true,if_false]
 exact wpAny_bind (qy8 "set.__init__" S D nd hx λh' o' es' ep' t' ks' sb S' pm le lo=>h h' o' es' ep' t' ks' sb S' pm le lo)
set_option maxRecDepth 100000 in
set_option maxHeartbeats 3200000 in
theorem qn5(hu:A.units+60<cLine)(D:DictTx prog w s.heap d xs)(nd:(d==sysModules)=false)(hx:xs.length<=800){Q:Value->Shared->Prop}
  (h:∀h' o' es' ep' t' ks',Heap.SameBut s.heap.objs.size (s.heap.push (newS (qb1 prog w))) h'->SetTx prog w h' s.heap.objs.size o' es' ep' t' ks'->ks'.Perm xs->t'.led=qb1 prog w->5*ks'.length<3*t'.mask->Q (.ref s.heap.objs.size) { s with heap:=h' }):wpAny (model prog w) A (call (.type "set") [.ref d]) Q E s:=by
 obtain⟨c,tl,hmro⟩:=F.called_set.mro
 have hmade:=F.called_set.made
 have hsub:=F.called_set.sub
 refine wpAny_call (codeAny_of_tree ?_)
 show wpAny _ _ (callAny (.type "set") _) _ _ _
 refine wpAny_pure ⟨Code.quiet_builtin _ (by decide +kernel),codeAny_builtin F.entry_type_call ?_⟩
 rw[Around.under_plain (weight_type_call_type "set" [.ref d] []) rfl]
 have h1:=F.called_set.notType
 have h2:=F.called_set.canCreate
 have hct:=F.typeCall_set_1 (.ref d)
 repeat (any_goals (first|assumption|wp_step))
 refine codeAny_mono (qh9 (.ref d) (E:=E) (Q₁:=λobj s₁=>∃led:Bool,led=qb1 prog w/\obj=.ref s.heap.objs.size/\s₁={ s with heap:=s.heap.push (newS led) }) ⟨_,rfl,rfl,rfl⟩) λr s₁ hr=>?_
 cases r with
|error e=>exact hr
|ok fl =>
  cases fl with
 |ret obj =>
   obtain⟨led,hled,rfl,rfl⟩:=hr
   have hS:(s.heap.push (newS led)).get? s.heap.objs.size=some (newS led):=Heap.get?_push_size _ rfl
   have hT:Shared.TypeIs { s with heap:=s.heap.push (newS led) } (.ref s.heap.objs.size) "set" := ⟨_,hS,rfl⟩
   have hli:=F.called_set.init.lookup
   have hbi:=F.called_set.init.bind (.ref s.heap.objs.size)
   repeat (any_goals (first|assumption|wp_step))
   refine codeAny_mono (codeAny_call_builtin (R:=wants (λr s₂=>r=.none/\∃h' o' es' ep' t' ks',s₂={ s with heap:=h' }/\Heap.SameBut s.heap.objs.size (s.heap.push (newS led)) h'/\SetTx prog w h' s.heap.objs.size o' es' ep' t' ks'/\ks'.Perm xs/\t'.led=led/\5*ks'.length<3*t'.mask) E) F.called_set.init.plain F.entry_set_init (check_set_init_1 hT ?_)) λr₂ s₂ hr₂=>?_
   ·have N:SetTx prog w (s.heap.push (newS led)) s.heap.objs.size (newS led) #[] 0 (.fresh 0 0 led) []:=⟨hS,⟨rfl,rfl,rfl⟩,rfl,qmz _,λ_=>rfl,rfl,List.nodup_nil⟩
    have D':DictTx prog w (s.heap.push (newS led)) d xs:=D.keep λo e=>qfa e
    exact qzb (s:={ s with heap:=s.heap.push (newS led) }) N D' nd hx λh' o' es' ep' t' ks' sb S' pm le lo=>wpAny_pure ⟨rfl,h',o',es',ep',t',ks',rfl,sb,S',pm,le,lo⟩
   ·cases r₂ with
   |error e=>exact hr₂
   |ok fl₂ =>
     cases fl₂ with
    |ret r =>
      obtain⟨rfl,h',o',es',ep',t',ks',rfl,sb,S',pm,le,lo⟩:=hr₂
      repeat (any_goals (first|assumption|wp_step))
      subst hled
      exact h h' o' es' ep' t' ks' sb S' pm le lo
    |_=>exact hr₂.elim
 |_=>exact hr.elim
theorem qv3(hu:A.units+60<cLine)(Sa:SetTx prog w s.heap a oa ea epa ta ka)(Sb:SetTx prog w s.heap b ob eb epb tb kb)(ab:a≠b)(lo:5*ka.length<3*ta.mask)(lob:5*kb.length<3*tb.mask)(la:ta.led=qb1 prog w)(lb:tb.led=qb1 prog w)(hn:ka.length+kb.length<=800){Q:Value->Shared->Prop}
  (h:∀h' dr o' es' ep' t' ks',Heap.SameBut s.heap.objs.size (s.heap.push (newS (qb1 prog w))) h'->SetTx prog w h' s.heap.objs.size o' es' ep' t' ks'->(∀k,k∈ks'.map (·.1)↔k∈ka.map (·.1)\/k∈kb.map (·.1))->(ks'.length<=ka.length+kb.length/\∀p∈ks',p∈ka\/p∈kb)->t'.led=qb1 prog w->Q (.ref s.heap.objs.size) { s with heap:=h',drawn:=dr }):wpAny (model prog w) A (binaryOp .BitOr (.ref a) (.ref b)) Q E s:=by
 refine wpAny_binaryOp_same Sa.typeIs Sb.typeIs fills_set_or F.slot_set_or (wpAny_call_entry F.slot_set_or Sa.typeIs qjx ?_ (F.args_set_or_2 _ _))
 refine or_X Sa Sb ab lo lob la lb hn λh' dr o' es' ep' t' ks' sb S' iff' len' le'=>?_
 exact wpAny_pure ⟨_,rfl,λz=>(by cases z),h h' dr o' es' ep' t' ks' sb S' iff' len' le'⟩
end
end PySem
namespace PySem
section
open SetTable Sem
variable {prog:Program} {w:World} {A:Around} {E:Value->Shared->Prop} {s:Shared} {a b d r:Addr}
variable {o:Obj} {es:Array (Int×Value)} {ep:Nat} {t:SetTable} {ks:List (Str×Tok)}
theorem SetTx.raw(S:SetTx prog w s.heap a o es ep t ks):RawS s.heap a es ep t:=⟨o,S.ho,S.hd,S.fits⟩
theorem qzf(hh:A.handled=none)(S:SetTx prog w s.heap a o es ep t ks)(led:t.led=qb1 prog w)(hz:ks.length<=800){Q:Value->Shared->Prop}
  (h:∀(I:Addr) (h':Heap) dr (l:List Value) (fp:List Addr) (St:Nat->Heap->Prop),l.Perm (es.toList.map (·.2))->(∀b o,s.heap.get? b=some o->h'.get? b=some o)->(∀b∈fp,b=a\/s.heap.objs.size<=b)->s.heap.objs.size<=I ->
   Walks prog w A I fp [I] es.size (λi v=>l[i]?=some v) St->St 0 h'->Q (.ref I) { s with heap:=h',drawn:=dr }):wpAny (model prog w) A (pyIter (.ref a)) Q E s:=by
 have hT:=S.typeIs
 have sz:=S.size
 have lt:a<s.heap.objs.size:=Heap.lt_size S.ho
 refine wpAny_pyIter_slot hT F.slot_set_iter (wpAny_call_entry F.slot_set_iter hT qgh ?_ (F.args_set_iter_1 _))
 unfold Builtin.«frozenset.__iter__»
 refine wpAny_bind (wpAny_bind (wpAny_pure (wpAny_pure ?_)))
 dsimp only
 unfold Builtin.Frozenset.sizeOf setEntries
 refine wpAny_bind (wpAny_bind (wpAny_bind (wpAny_setState_of S.ho S.hd S.fits (wpAny_pure (wpAny_pure ?_)))))
 dsimp only
 unfold setDrawn
 refine wpAny_bind (wpAny_bind (wpAny_setState_of S.ho S.hd S.fits ?_))
 dsimp only
 unfold setsByText
 refine wpAny_bind (wpAny_bind (wpAny_askSetting (wpAny_pure (wpAny_pure ?_))))
 have slow:∀(f:Nat->Nat) (l:List Value),f 0=0->l.Perm (es.toList.map (·.2)) ->
   (∀(i:Nat) (v:Value),l[i]?=some v->∀(s:Shared) (A:Around) (Q:Option (Value×Nat)->Shared->Prop) (E:Value->Shared->Prop),RawS s.heap a es ep t->Q (some (v,f (i+1))) s->wpAny (model prog w) A (setNext a (f i) i ep) Q E s) ->
   (∀(s:Shared) (A:Around) (Q:Option (Value×Nat)->Shared->Prop) (E:Value->Shared->Prop),RawS s.heap a es ep t->Q none s->wpAny (model prog w) A (setNext a (f es.size) es.size ep) Q E s) ->
   Q (.ref s.heap.objs.size) { s with heap:=s.heap.push { cls:=.type "set_iterator",data:=.fields #[rawInt 0,.int 0 0,.ref a,.int es.size 0,.int ep 0] } }:=λf l f0 hp nx nd=>by
  have hl:l.length=es.size:=by rw[hp.length_eq];simp
  refine h s.heap.objs.size _ s.drawn l _ _ hp (λb o e=>Heap.get?_push_of_some _ e) (λb hb=>?_) (Nat.le_refl _) (qo7 hh s.heap.objs.size a (Nat.ne_of_lt lt) es ep t f l hl nx nd) ⟨⟨_,Heap.get?_push_size _ rfl,rfl,?_⟩,S.raw.keep λo e=>Heap.get?_push_of_some _ e⟩
  ·rcases List.mem_cons.mp hb with z|z
   ·exact .inr (by rw[z];exact Nat.le_refl _)
   ·exact .inl (List.mem_singleton.mp z)
  ·rw[f0]
   rfl
 cases bt:(model prog w).w.params.followText "set-order" with
|true =>
  simp only[Bool.not_true,Bool.false_and,Bool.false_eq_true,if_false]
  refine wpAny_bind (wpAny_pure ?_)
  unfold setEpoch
  refine wpAny_bind (wpAny_bind (wpAny_setState_of S.ho S.hd S.fits (wpAny_pure ?_)))
  dsimp only
  refine wpAny_bind (wpAny_newObj_type (wpAny_pure ⟨_,rfl,"set_iterator",_,⟨_,Heap.get?_push_size _ rfl,rfl⟩,slot_seti_next.lookup,?_⟩))
  have hp:((pickOrder ((model prog w).w.params.setOrder a ep) es).toList.map (·.2)).Perm (es.toList.map (·.2)):=by
   refine List.Perm.map _ ?_
   unfold pickOrder
   have:=qgx ((model prog w).w.params.setOrder a ep) es.size 0 es.toList #[] (by simp)
   simpa using this
  refine slow (λ_=>0) _ rfl hp (λi v e s A Q E R q=>qka bt R ?_) λs A Q E R q=>qka bt R ?_
  ·rw[e]
   exact q
  ·rw[List.getElem?_eq_none (by rw[hp.length_eq];simp)]
   exact q
|false =>
  have led':t.led=true:=by
   rw[led]
   unfold qb1
   rw[bt]
   rfl
  by_cases dn:(!t.plain&&decide (es.size>1))=true
  ·rw[if_pos (by rw[Bool.not_false,Bool.true_and];exact dn)]
   refine wpAny_bind (qgg _ _ _ _ (by simp) λps dr hp=>?_)
   have hpl:ps.length=es.size:=by rw[hp.length_eq];simp
   refine wpAny_bind (wpAny_newTuple ?_ (by rw[List.length_map,hpl,sz];exact Nat.le_trans hz (by decide)))
   generalize eh:Heap.push _ _=h1
   have e1:h1.get? s.heap.objs.size=some { cls:=.type "tuple",data:=.seq (qd8 ps).toArray }:=by
    rw[←eh]
    exact Heap.get?_push_size _ rfl
   have k1:∀b o,s.heap.get? b=some o->h1.get? b=some o:=λb o e=>by
    rw[←eh]
    exact Heap.get?_push_of_some _ e
   have n1:h1.objs.size=s.heap.objs.size+1:=by rw[←eh,PyProof.Rows.size_push']
   unfold setEpoch
   refine wpAny_bind (wpAny_bind (wpAny_setState_of (s:={ s with heap:=h1,drawn:=dr }) (k1 _ _ S.ho) S.hd S.fits (wpAny_pure ?_)))
   dsimp only
   refine wpAny_bind (wpAny_newObj_type (wpAny_pure ⟨_,rfl,"set_iterator",_,⟨_,Heap.get?_push_size _ rfl,rfl⟩,slot_seti_next.lookup,?_⟩))
   have pr:∀j,j∈ps↔j<es.size:=λj=>by rw[hp.mem_iff];simp
   refine h h1.objs.size _ dr (ps.map λj=>(es.toList.map (·.2)).getD j Value.none) _ _ ?_ (λb o e=>Heap.get?_push_of_some _ (k1 b o e)) (λb hb=>?_) (by lia) (qmj hh h1.objs.size a s.heap.objs.size (by lia) (by lia) es ep t ps _ hpl λi j e=>?_) ⟨⟨_,Heap.get?_push_size _ rfl,rfl,rfl⟩,S.raw.keep λo e=>Heap.get?_push_of_some _ (k1 _ o e),⟨_,_,Heap.get?_push_of_some _ e1,rfl⟩⟩
   ·have:=hp.map λj=>(es.toList.map (·.2)).getD j Value.none
    refine this.trans (List.Perm.of_eq ?_)
    apply List.ext_getElem
    ·simp
    ·intro i h1 h2
     have h2':i<es.size:=by simpa using h2
     simp[List.getD_eq_getElem?_getD,h2']
   ·rcases List.mem_cons.mp hb with z|z
    ·exact .inr (by lia)
    rcases List.mem_cons.mp z with z|z
    ·exact .inl z
    ·exact .inr (by rw[List.mem_singleton.mp z];exact Nat.le_refl _)
   ·have lj:j<es.size:=(pr j).mp (List.mem_of_getElem? e)
    refine⟨_,by rw[List.getElem?_map,e];rfl,?_⟩
    simp[List.getD_eq_getElem?_getD,lj]
  ·rw[if_neg (by rw[Bool.not_false,Bool.true_and];exact dn)]
   refine wpAny_bind (wpAny_pure ?_)
   unfold setEpoch
   refine wpAny_bind (wpAny_bind (wpAny_setState_of S.ho S.hd S.fits (wpAny_pure ?_)))
   dsimp only
   refine wpAny_bind (wpAny_newObj_type (wpAny_pure ⟨_,rfl,"set_iterator",_,⟨_,Heap.get?_push_size _ rfl,rfl⟩,slot_seti_next.lookup,?_⟩))
   have few:=S.few dn
   have ps:t.place.size=es.size:=by rw[S.tok.sz,sz]
   refine slow (λi=>if i=0 then 0 else (t.place.getD 0 0)+1) _ rfl (List.Perm.refl _) (λi v e s A Q E R q=>qng bt R dn led' ?_) λs A Q E R q=>qng bt R dn led' ?_
   ·have li:i<es.size:=by
     have:=(List.getElem?_eq_some_iff.mp e).1
     simpa using this
    have i0:i=0:=by lia
    subst i0
    have e1:es.size=1:=by lia
    have p1:t.place.size=1:=by lia
    obtain⟨pl,ep⟩:∃p,t.place=#[p]:=Array.size_eq_one_iff.mp p1
    obtain⟨x,ex⟩:∃x,es=#[x]:=Array.size_eq_one_iff.mp e1
    subst ex
    rw[ep] at q ⊢
    have ev:x.2=v:=by simpa using e
    rw[←ev] at q
    exact q
   ·rcases Nat.eq_zero_or_pos es.size with z|z
    ·have e0:es=#[]:=Array.size_eq_zero_iff.mp z
     have p0:t.place=#[]:=Array.size_eq_zero_iff.mp (by lia)
     subst e0
     rw[p0]
     exact q
    ·have e1:es.size=1:=by lia
     obtain⟨pl,ep⟩:∃p,t.place=#[p]:=Array.size_eq_one_iff.mp (by lia)
     obtain⟨x,ex⟩:∃x,es=#[x]:=Array.size_eq_one_iff.mp e1
     subst ex
     rw[ep]
     have:SetTable.below #[pl] (pl+1)=1:=by
      unfold SetTable.below
      simp[SetTable.below.go]
     show Q (match #[x][SetTable.below #[pl] (pl+1)]?,#[pl][SetTable.below #[pl] (pl+1)]? with
     |some (_,x),some j=>some (x,j+1)
     |  _,_=>none) s
     rw[this]
     exact q
end
section
open SetTable Sem Calls PyProof.Rows PyProof.V PySem.Spec
variable {prog:Program} {w:World} {A:Around} {E:Value->Shared->Prop} {s:Shared} {a b d r:Addr}
variable {o:Obj} {es:Array (Int×Value)} {ep:Nat} {t:SetTable} {ks:List (Str×Tok)}
theorem qs0{R:Result->Shared->Prop}(hh:A.handled=none)(S:SetTx prog w s.heap a o es ep t ks)(led:t.led=qb1 prog w)(hz:ks.length<=800)(L:Addr)(hLa:L≠a)(res:Value)(c₀:Nat)(hS:s.heap.get? L=some { cls:=.type "list",data:=.seq #[] c₀ })
  (hR:∀h' tk dr acc' c',(∀b o,b≠L->s.heap.get? b=some o->h'.get? b=some o)->h'.get? L=some { cls:=.type "list",dict:=none,data:=.seq acc' c',slots:=#[] }->acc'.toList.Perm (es.toList.map (·.2))->R (.ok (.ret res)) { s with heap:=h',toks:=tk,drawn:=dr }) :
  wpAny (model prog w) A.in1 (Builtin.List.listExtendWith (.ref L) (.ref a) res)
   (λfin s'=>match fin with|.done f=>R (.ok f) s'|.again c'=>c'.quiet=true/\codeAny (model prog w) A c' R s') (λe s'=>R (.error e) s') s:=by
 have lt:L<s.heap.objs.size:=Heap.lt_size hS
 have sz:=S.size
 unfold Builtin.List.listExtendWith
 refine wpAny_bind (wpAny_typeOf (T:="set") S.typeIs ?_)
 have h1:Builtin.List.listSameRef (.ref L) (.ref a)=false:=by simp[Builtin.List.listSameRef,hLa]
 have h2:(Value.type "set"==Value.type "list")=false:=by decide
 have h3:(Value.type "set"==Value.type "tuple")=false:=by decide
 simp only[h1,h2,h3,Bool.or_false,Bool.false_eq_true,if_false]
 refine wpAny_bind (qzf (A:=A.in1) hh S led hz λI h' dr l fp St hp k fpa hI W st=>?_)
 have hl:l.length=es.size:=by rw[hp.length_eq];simp
 have hSf:L∉fp:=λz=>by
  rcases fpa L z with y|y
  ·exact hLa y
  ·lia
 have key:∀(h:Heap) (c₁ tk:Nat),St 0 h->(∀b o,b≠L->s.heap.get? b=some o->h.get? b=some o) ->
   h.get? L=some { cls:=.type "list",data:=.seq #[] c₁ }->codeAny (model prog w) A (.builtin "list.extend.loop" ⟨[.ref L,.ref I,res],[]⟩) R { s with heap:=h,toks:=tk,drawn:=dr }:=by
  intro h c₁ tk hst hk hS₁
  refine codeAny_extend_loopS W.toS (by rw[sz];exact Nat.le_trans hz (by decide)) L hSf res es.size 0 _ #[] c₁ rfl (Nat.zero_le _) hst hS₁ (ItemsOf.nil _) λs' acc' c' hm hS' hacc=>?_
  rw[Moved.eq_with hm]
  refine hR s'.heap s'.toks dr acc' c' (λb o hb e=>hm.heap b o (λhmem=>?_) (hk b o hb e)) hS' (by rw[qof hacc hl];exact hp)
  rcases List.mem_cons.mp hmem with e'|hmem
  ·exact hb e'
  ·have:=Heap.lt_size e
   rw[List.mem_singleton.mp hmem] at this
   lia
 have hS₁:=k _ _ hS
 have hT1:Shared.TypeIs { s with heap:=h',drawn:=dr } (.ref a) "set" := by
  obtain⟨o1,q1,q2⟩:=S.typeIs
  exact⟨o1,k _ _ q1,q2⟩
 refine wpAny_bind (wpAny_holding (qs3 (s:={ s with heap:=h',drawn:=dr }) hT1 ?_))
 refine wpAny_ite_split (λ_=>?_) (λ_=>wpAny_pure ⟨plainId_quiet PySem.F.plain_extend_loop _,key _ c₀ _ st (λb o _ e=>k _ _ e) hS₁⟩)
 refine wpAny_bind (wpAny_rule ?_)
 refine wpAny_bind ?_
 show wpAny _ _ (updateSeq L (·.push .none) >>= λ_=>updateSeq L (·.pop)) _ _ _
 refine wpAny_bind (wpAny_updateSeq (s:={ s with heap:=h',drawn:=dr }) hS₁ rfl ?_)
 have hS₂:=Heap.get?_update_self (Obj.mapSeq (·.push Value.none)) hS₁ rfl
 refine wpAny_updateSeq (hz:=by seq_fits) hS₂ rfl ?_
 have hS₃:=Heap.get?_update_self (Obj.mapSeq (·.pop)) hS₂ rfl
 refine wpAny_pure ⟨plainId_quiet PySem.F.plain_extend_loop _,key _ _ _ ?_ (λb o hb e=>?_) hS₃⟩
 ·refine W.frame 0 _ _ st λb hb o e=>?_
  have hbS:b≠L:=λh=>hSf (h▸hb)
  exact(Heap.get?_update_other _ _ (Ne.symm hbS)).trans ((Heap.get?_update_other _ _ (Ne.symm hbS)).trans e)
 ·exact(Heap.get?_update_other _ _ (Ne.symm hb)).trans ((Heap.get?_update_other _ _ (Ne.symm hb)).trans (k _ _ e))
theorem qpr{R:List Value->Shared->Prop}(hh:A.handled=none)(S:SetTx prog w s.heap a o es ep t ks)(led:t.led=qb1 prog w)(hz:ks.length<=800)
  (h:∀(h':Heap) (tk:Nat) dr (acc:Array Value),(∀b o,s.heap.get? b=some o->h'.get? b=some o)->acc.toList.Perm (es.toList.map (·.2))->R acc.toList { s with heap:=h',toks:=tk,drawn:=dr }) :
  wpAny (model prog w) A (collect (.ref a)) R E s:=by
 have lt:a<s.heap.objs.size:=Heap.lt_size S.ho
 unfold collect
 refine wpAny_bind (wpAny_runValue (codeAny_builtin entry_proto_collect' ?_))
 rw[Around.under_plainId PySem.F.plain_proto_collect _]
 show wpAny _ A.in1 (newList [] >>= λl=>again (.builtin "list.__iadd__" ⟨[l,.ref a],[]⟩)) _ _ s
 refine wpAny_bind (wpAny_newObj_type ?_)
 refine wpAny_pure ⟨plainId_quiet PySem.F.plain_list_iadd _,codeAny_builtin entry_list_iadd' ?_⟩
 rw[Around.under_plainId PySem.F.plain_list_iadd _]
 have hS₁:(s.heap.push { cls:=.type "list",data:=.seq ([]:List Value).toArray }).get? s.heap.objs.size=some { cls:=.type "list",data:=.seq #[] }:=Heap.get?_push_size _ rfl
 show wpAny _ A.in1 (Builtin.List.listExtendWith (.ref s.heap.objs.size) (.ref a) (.ref s.heap.objs.size)) _ _ _
 have key:=qs0 (A:=A) (s:={ s with heap:=s.heap.push { cls:=.type "list",data:=.seq ([]:List Value).toArray } })
  (R:=λ(q:Result) (s':Shared)=>∃(h':Heap) (tk:Nat) (dr:_) (acc':Array Value) (c':Nat),q=.ok (.ret (.ref s.heap.objs.size))/\s'={ s with heap:=h',toks:=tk,drawn:=dr } /\
   (∀b o,s.heap.get? b=some o->h'.get? b=some o)/\h'.get? s.heap.objs.size=some { cls:=.type "list",dict:=none,data:=.seq acc' c',slots:=#[] }/\acc'.toList.Perm (es.toList.map (·.2)))
  hh (S.push _) led hz s.heap.objs.size (Nat.ne_of_gt lt) (.ref s.heap.objs.size) 0 hS₁
  (λh' tk dr acc' c' hk hS' hacc=>⟨h',tk,dr,acc',c',rfl,rfl,λb o e=>hk b o (Nat.ne_of_lt (Heap.lt_size e)) (Heap.get?_push_of_some _ e),hS',hacc⟩)
 refine wpAny_mono key (λfin s' x=>?_) λe s' x=>?_
 ·cases fin with
 |done f =>
   obtain⟨h',tk,dr,acc',c',e,rfl,hk,hS',hacc⟩:=x
   cases e
   show wpAny _ A (load s.heap.objs.size >>= _) _ _ _
   refine wpAny_bind (wpAny_load hS' ?_)
   exact wpAny_pure (h h' tk dr acc' hk hacc)
 |again c₁ =>
   refine⟨x.1,codeAny_mono x.2 λq s₂ y=>?_⟩
   obtain⟨h',tk,dr,acc',c',rfl,rfl,hk,hS',hacc⟩:=y
   show wpAny _ A (load s.heap.objs.size >>= _) _ _ _
   refine wpAny_bind (wpAny_load hS' ?_)
   exact wpAny_pure (h h' tk dr acc' hk hacc)
 ·obtain⟨_,_,_,_,_,e',_⟩:=x
  cases e'
end
end PySem
namespace L2
open PySem PySem.Spec PyProof.Rows
theorem qjv{P:Program}{w:World}:∀ {es:List DictEntry} {kvs:List (Key×Value)} {ks:List Str},Pairs (qa7 P w) es kvs->(∀e∈es,∃k,(qa7 P w).is k e.key=true/\e.hash=(qa7 P w).hash k)->kvs.map (·.1)=ks.map Sum.inr->∃xs:List (Str×Tok),xs.map (·.1)=ks/\es.map (λe=>(e.hash,e.key))=xs.map (enX P w)
|_,_,[],.nil,_,_=>⟨[],rfl,rfl⟩
|_,_,k::ks,.nil,_,e=>by cases e
|_,_,[],.cons ..,_,e=>by cases e
|e::es,kv::kvs,k::ks,.cons h1 h2 h3,hk,he=>by
  rw[List.map_cons,List.map_cons] at he
  obtain⟨e1,e2⟩:=List.cons.inj he
  obtain⟨xs,x1,x2⟩:=qjv h3 (λy my=>hk y (List.mem_cons_of_mem _ my)) e2
  rw[e1] at h1
  obtain⟨k',g1,g2⟩:=hk e List.mem_cons_self
  have ek:=(qa7 P w).inj _ _ _ g1 h1
  rcases qbd (k:=Sum.inr k) h1 with ⟨i,t,z,_⟩|⟨x,t,z,ev⟩
  ·cases z
  ·cases z
   refine⟨(k,t)::xs,by rw[List.map_cons,x1],?_⟩
   rw[List.map_cons,List.map_cons,x2,g2,ek,ev]
   rfl
theorem qpz{P:Program}{w:World}{h:Heap}{a:Addr}{vs:List (Key×Value)}{ks:List Str}(D:h.DictOf (qa7 P w) a vs)(hk:vs.map (·.1)=ks.map Sum.inr):∃xs:List (Str×Tok),xs.map (·.1)=ks/\DictTx P w h a xs:=by
 obtain⟨o,es,ep,d1,d2,d3,d4,d5,d6⟩:=D
 obtain⟨xs,x1,x2⟩:=qjv d5 (λe me=>d4 e (by simpa using me)) hk
 refine⟨xs,x1,o,es,ep,d1,d2.1,d3,x2,?_⟩
 rw[x1]
 rw[hk] at d6
 rw[List.nodup_iff_pairwise_ne,List.pairwise_map] at d6
 rw[List.nodup_iff_pairwise_ne]
 exact d6.imp λz e=>z (by rw[e])
section
variable {X:Cx} {pins:List (Addr×Obj)} {σ:St} {H:Hp} {s:Shared} {E:Value->Shared->Prop} {a b:Addr} {kvs lvs:List (Key×V)} {ks ls:List Str}
theorem qp5{i:Nat}{x:Str}{p p2 pos:Pos}(I:Inv X pins σ H s)(hu:X.A.units+60<cLine)(hg:Gl X "set")(hm:X.mg "set" = none)(hb:bootBuiltins "set" = some (.type "set"))(ei:σ[i]?=some (some (.ref a)))(hN:X.N[i]?=some x)(hv:Vis X.env.scope x)
  (hd:(x==("__debug__" : Str))=false) (hcd:(x==("__classdict__" : Str))=false) (e:Rd H a (.dK kvs)) (hk:kvs.map (·.1)=ks.map Sum.inr) (hl:ks.length<=800) {Q:Value->Shared->Prop}
  (h:∀h' o' es' ep' t' kk,(∀b o,s.heap.get? b=some o->h'.get? b=some o)->SetTx X.prog X.w h' s.heap.objs.size o' es' ep' t' kk->(kk.map (·.1)).Perm ks->t'.led=qb1 X.prog X.w->5*kk.length<3*t'.mask->Q (.ref s.heap.objs.size) { s with heap:=h' }):wpAny (model X.prog X.w) X.A (eval (.Call (.Name "set" p) [.Name x p2] [] pos) X.env) Q E s:=by
 refine wpAny_Call_Name_kw (qhu I hg hm hb ?_)
 refine PyProof.Rows.callWith_type1 (qvl rfl (qzn I ei (λu r=>?_) hN hv hd hcd)) (qbs rfl) rfl
 cases r
 obtain⟨z,no,vs,kv,D⟩:=qid I.hok e
 obtain⟨xs,x1,DX⟩:=qpz D (by rw[←kv.keys];exact hk)
 have xl:xs.length=ks.length:=by rw[←x1,List.length_map]
 exact qn5 hu DX no (by lia) λh' o' es' ep' t' kk sb S pm le lo=>h h' o' es' ep' t' kk (λb o eb=>(sb.2 b (fresh_ne eb)).trans (qfa eb)) S (by rw[←x1];exact pm.map _) le lo
theorem qua(I:Inv X pins σ H s)(hu:X.A.units+60<cLine)(hh:X.A.handled=none){o:Obj}{es:Array (Int×Value)}{ep:Nat}{t:SetTable}{kk:List (Str×Tok)}(S:SetTx X.prog X.w s.heap a o es ep t kk)(led:t.led=qb1 X.prog X.w)(hz:kk.length<=60){Q:VK}
  (h:∀(l:Addr) (ws:List Str),H l=none->(∀w,w∈ws↔w∈kk.map (·.1))->ws.Pairwise (λv w=>ltS v w=true)->Q (.ref l) (upd H l (.lst (ws.map V.str)))) :
  wpAny (model X.prog X.w) X.A (call (.builtin "sorted") [.ref a]) (EP X pins σ Q) E s:=by
 have un:X.A.in1.units=X.A.units+1:=rfl
 have un2:X.A.in1.in1.units=X.A.units+2:=rfl
 refine Calls.call_function_entry kind_sorted plain_sorted entry_sorted (args_sorted1 _) ?_
 unfold Builtin.«sorted»
 refine wpAny_bind (m:=checkCount "sorted" 1 1 _) (wpAny_pure ?_)
 refine wpAny_bind (qpr (A:=X.A.in1) hh S led (by lia) λh1 tk dr acc k1 ap=>?_)
 rw[S.es,List.map_map] at ap
 obtain⟨kp,pk,ea⟩:=qtq (λp:Str×Tok=>Value.str p.1 p.2) ap kk (by rfl)
 have lz:acc.toList.length<=sizeLine:=by
  rw[ea,List.length_map,pk.length_eq]
  exact Nat.le_trans hz (by decide)
 obtain⟨ws,ew⟩:∃ws,ws=kp.map (·.1):=⟨_,rfl⟩
 have lw:kp.length=ws.length:=by rw[ew,List.length_map]
 have ndw:ws.Nodup:=by rw[ew];exact((pk.map (·.1)).nodup_iff).mpr S.nd
 have rp:Reps X.K H (ws.map D.str) (ws.map V.str):=qgz ws
 have I1:Inv X pins σ H { s with heap:=h1,toks:=tk,drawn:=dr }:=(I.kept (t':=tk) k1).drawn dr
 have v:Vals (ws.map V.str) acc.toList:=by
  rw[ea,ew]
  clear ea ew lw pk rp ndw
  induction kp with
 |nil=>exact .nil
 |cons p kp ih=>exact .cons ⟨_,rfl⟩ ih
 have la:acc.toList.length=ws.length:=by rw[ea,List.length_map,lw]
 refine wpAny_bind (wpAny_newList ?_ lz)
 generalize e2:Heap.push _ _=h2
 have hD:h2.get? h1.objs.size=some (seqObj "list" acc.toList.toArray 0):=by rw[←e2];exact Heap.get?_push_size _ rfl
 have k2:∀b o,h1.get? b=some o->h2.get? b=some o:=λb o q=>by rw[←e2];exact Heap.get?_push_of_some _ q
 show wpAny (model X.prog X.w) X.A.in1 (do let _ ←holding [Value.ref h1.objs.size] (call (.builtin "list.sort") [.ref h1.objs.size]);ret (.ref h1.objs.size)) _ E { s with heap:=h2,toks:=tk,drawn:=dr }
 refine wpAny_bind (wpAny_holding (wpAny_call_entry (s:={ s with heap:=h2,toks:=tk,drawn:=dr }) slot_list_sort ⟨_,hD,rfl⟩ entry_list_sort ?_ (args_list_sort _)))
 refine qqy (s:={ s with heap:=h2,toks:=tk,drawn:=dr }) (H:=H) (σ:=σ) (pins:=pins) (X:=X) (ds:=ws.map D.str) hD (λh' kp=>?_) rp v (qow ndw) (by have:=pk.length_eq;lia) (by lia) λq h' m hqp hqs kp' he=>⟨_,rfl,?_⟩
 ·exact I1.kept (t':=tk) λb o e=>kp b o (Nat.ne_of_lt (Heap.lt_size e)) (k2 b o e)
 ·have hql:q.length=ws.length:=by
   have:=hqp.length_eq
   simpa using this
  have hqm:∀i∈q,i<ws.length:=λi hi=>by simpa using hqp.mem_iff.mp hi
  have e1:(q.map λi=>(ws.map V.str).getD i .non)=(q.map λi=>ws.getD i "").map V.str:=by
   rw[List.map_map]
   refine List.map_congr_left λi hi=>?_
   have:=hqm i hi
   simp[List.getD_eq_getElem?_getD,this]
  have hr:((List.range ws.length).map λi=>ws.getD i "")=ws:=by
   apply List.ext_getElem
   ·simp
   ·intro i h1 h2
    simp[List.getD_eq_getElem?_getD,h2]
  have hw:(q.map λi=>ws.getD i "").Perm ws:=by
   have:=hqp.map λi=>ws.getD i ""
   rw[List.length_map,hr] at this
   exact this
  refine wpAny_pure ⟨_,rfl,.ref h1.objs.size,upd H h1.objs.size (.lst ((q.map λi=>ws.getD i "").map V.str)),?_,rfl,h _ (q.map λi=>ws.getD i "") (I1.hok.fresh (Nat.le_refl _)) (λw=>?_) ?_⟩
  ·have I3:Inv X pins σ (upd H h1.objs.size (.lst ((q.map λi=>ws.getD i "").map V.str))) { s with heap:=h',toks:=tk,drawn:=dr }:=by
    refine Inv.laid (t':=tk) I1 (λb o e=>kp' b o (Nat.ne_of_lt (Heap.lt_size e)) (k2 b o e)) (Nat.le_refl _) ⟨?_,_,m,?_,he⟩
    ·rw[List.length_map,List.length_map,hql,←la]
     exact lz
    ·rw[←e1]
     exact v.pick q λi hi=>by rw[List.length_map];exact hqm i hi
   exact I3
  ·rw[hw.mem_iff,ew,(pk.map (·.1)).mem_iff]
  ·have st:(q.map λi=>(ws.map D.str).getD i .non)=(q.map λi=>ws.getD i "").map D.str:=by
    rw[List.map_map]
    refine List.map_congr_left λi hi=>?_
    have:=hqm i hi
    simp[List.getD_eq_getElem?_getD,this]
   have ss:((q.map λi=>ws.getD i "").map D.str).Pairwise (λa b=>ltD a b=true):=by
    rw[←st,List.pairwise_map]
    exact hqs
   rw[List.pairwise_map] at ss
   exact ss.imp λz=>by rw[qd6] at z;exact z
end
end L2
namespace L2
open PySem PySem.Spec PyProof.Rows
def q1c(i j:Nat):TE:=λσ H Q=>∃x y kvs lvs,∃ks ls:List Str,σ[i]?=some (some (.ref x))/\σ[j]?=some (some (.ref y))/\Rd H x (.dK kvs)/\Rd H y (.dK lvs)/\kvs.map (·.1)=ks.map Sum.inr/\lvs.map (·.1)=ls.map Sum.inr/\ks.length+ls.length<=60 /\
 ∀(l:Addr) (ws:List Str),H l=none->(∀w,w∈ws↔w∈ks\/w∈ls)->ws.Pairwise (λv w=>ltS v w=true)->Q (.ref l) (upd H l (.lst (ws.map V.str)))
section
variable {X:Cx} {EX:St->XK} {x y:Str} {i j:Nat} {p1 p2 p3 p4 p5 p6 p7 p8 p9:Pos}
theorem qto(hu64:X.A.units+64<cLine)(hh:X.A.handled=none)(hg:Gl X "sorted")(hm:X.mg "sorted" = none)(hb:bootBuiltins "sorted" = some (.builtin "sorted"))(hgS:Gl X "set")(hmS:X.mg "set" = none)(hbS:bootBuiltins "set" = some (.type "set"))
  (hN:X.N[i]?=some x) (hv:Vis X.env.scope x) (hN2:X.N[j]?=some y) (hv2:Vis X.env.scope y) (hd:(x==("__debug__" : Str))=false) (hcd:(x==("__classdict__" : Str))=false) (hd2:(y==("__debug__" : Str))=false) (hcd2:(y==("__classdict__" : Str))=false) :
  PE X (.Call (.Name "sorted" p1) [.BinOp (.Call (.Name "set" p2) [.Name x p3] [] p4) .BitOr (.Call (.Name "set" p5) [.Name y p6] [] p7) p8] [] p9) (q1c i j):=by
 intro pins s σ H Q I h
 have hu:X.A.units+60<cLine:=by lia
 obtain⟨ax,ay,kvs,lvs,ks,ls,ei,ej,dx,dy,hk,hl,few,hq⟩:=h
 refine wpAny_Call_Name_kw (qhu I hg hm hb ?_)
 refine PyProof.Rows.callWith_builtin1 (qvl rfl ?_) (qbs rfl) rfl
 refine wpAny_BinOp (qp5 I hu hgS hmS hbS ei hN hv hd hcd dx hk (by lia) λh1 o1 es1 ep1 t1 kk1 k1 S1 pm1 led1 lo1=>?_)
 have I1:Inv X pins σ H { s with heap:=h1 }:=I.kept (t':=s.toks) k1
 refine qp5 I1 hu hgS hmS hbS ej hN2 hv2 hd2 hcd2 dy hl (by lia) λh2 o2 es2 ep2 t2 kk2 k2 S2 pm2 led2 lo2=>?_
 have I2:Inv X pins σ H { s with heap:=h2 }:=I1.kept (t':=s.toks) k2
 have l1:kk1.length=ks.length:=by rw[←pm1.length_eq,List.length_map]
 have l2:kk2.length=ls.length:=by rw[←pm2.length_eq,List.length_map]
 have ne:s.heap.objs.size≠h1.objs.size:=Nat.ne_of_lt (Heap.lt_size S1.ho)
 refine qv3 (s:={ s with heap:=h2 }) hu (S1.keep (k2 _ _)) S2 ne lo1 lo2 led1 led2 (by lia) λh3 dr o3 es3 ep3 t3 kk3 sb S3 iff3 ⟨len3,sub3⟩ led3=>?_
 have k3:∀b o,h2.get? b=some o->h3.get? b=some o:=λb o e=>(sb.2 b (fresh_ne e)).trans (qfa e)
 have I3:Inv X pins σ H { s with heap:=h3,drawn:=dr }:=(I2.kept (t':=s.toks) k3).drawn dr
 refine qua I3 hu hh S3 led3 (by lia) λl ws hl' iff' st=>hq l ws hl' (λw=>?_) st
 rw[iff',iff3,pm1.mem_iff,pm2.mem_iff]
def qkw(i j:Nat):TV:=λτ Q=>match τ[i]?,τ[j]? with
|some (some (.val (.dK ks _))),some (some (.val (.dK ls _)))=>ks.length+ls.length<=60/\∀ws:List Str,(∀w,w∈ws↔w∈ks\/w∈ls)->ws.Pairwise (λv w=>ltS v w=true)->Q (.own (.lst (ws.map D.str)))
|_,_=>False
theorem quk(hu64:X.A.units+64<cLine)(hh:X.A.handled=none)(hg:Gl X "sorted")(hm:X.mg "sorted" = none)(hgS:Gl X "set")(hmS:X.mg "set" = none)
  (hN:X.N[i]?=some x:=by rfl) (hN2:X.N[j]?=some y:=by rfl) (hv:Vis X.env.scope x:=by first|exact Or.inl rfl|exact Or.inr (Or.inl rfl)|exact Or.inr (Or.inr rfl)) (hv2:Vis X.env.scope y:=by first|exact Or.inl rfl|exact Or.inr (Or.inl rfl)|exact Or.inr (Or.inr rfl))
  (hb:bootBuiltins "sorted" = some (.builtin "sorted"):=by exact PyProof.Rows.Boot.«sorted») (hbS:bootBuiltins "set" = some (.type "set"):=by exact PyProof.Rows.Boot.«set»)
  (hd:(x==("__debug__" : Str))=false:=by decide) (hcd:(x==("__classdict__" : Str))=false:=by decide) (hd2:(y==("__debug__" : Str))=false:=by decide) (hcd2:(y==("__classdict__" : Str))=false:=by decide) :
  VE X EX (.Call (.Name "sorted" p1) [.BinOp (.Call (.Name "set" p2) [.Name x p3] [] p4) .BitOr (.Call (.Name "set" p5) [.Name y p6] [] p7) p8] [] p9) (qkw i j):=by
 refine⟨_,⟨qto hu64 hh hg hm hb hgS hmS hbS hN hv hN2 hv2 hd hcd hd2 hcd2⟩,λH0 B H τ σ Q Qd s S h _ k=>?_⟩
 unfold qkw at h
 split at h
 ·rename_i ks ds ls es e1 e2
  obtain⟨few,h⟩:=h
  obtain⟨v1,f1,r1⟩:=S.val i _ e1
  obtain⟨v2,f2,r2⟩:=S.val j _ e2
  have q1:Pk X.K B H (.val (.dK ks ds)) v1:=r1
  have q2:Pk X.K B H (.val (.dK ls es)) v2:=r2
  obtain⟨a1,kvs,rfl,d1,k1,_⟩:=q1.dK s rfl
  obtain⟨a2,lvs,rfl,d2,k2,_⟩:=q2.dK s rfl
  refine⟨a1,a2,kvs,lvs,ks,ls,f1,f2,.inl d1,.inl d2,k1,k2,few,λl ws hl iff' st=>?_⟩
  refine k (.own (.lst (ws.map D.str))) _ _ _ (.grow s (qau hl (.lst (ws.map V.str)))) ⟨l,rfl,hl,s.free hl,qbp (qgz ws)⟩ (h ws iff' st)
 ·exact h.elim
end
end L2
namespace PySem
section
variable {prog:Program} {w:World} {K:Type} [DecidableEq K] {knd:KeyKind prog w K} {A:Around} {E:Value->Shared->Prop} {s:Shared}
theorem qsl{d:Addr}{xs:List (K×Value)}{k:K}{key v:Value}{Q:Value->Shared->Prop}(hkey:knd.is k key=true)(hm:s.heap.DictOf knd d xs)
  (h1:∀u,valueAt xs k=some u->Q u { s with toks:=s.toks+1 })
  (h2:valueAt xs k=none->∀h',h'.DictOf knd d (xs++[(k,v)])->Heap.SameBut d s.heap h'->Q v { s with heap:=h',toks:=s.toks+1 })
  (hsz:xs.length<=sizeLine):wpAny (model prog w) A (dictSetDefault d key v) Q E s:=by
 have hm0:=hm
 obtain⟨o,es,ep,ho,hc,hd,hk,hp,hn⟩:=hm
 have hl:es.size=xs.length:=by
  have:∀ {es:List DictEntry} {xs:List (K×Value)},Pairs knd es xs->es.length=xs.length:=λh=>by
   induction h with
  |nil=>rfl
  |cons _ _ _ ih=>rw[List.length_cons,List.length_cons,ih]
  rw[←this hp,Array.length_toList]
 unfold dictSetDefault
 try with_reducible refine wpAny_holding ?_
 refine wpAny_bind (knd.pyHash hkey ?_)
 refine wpAny_bind (wpAny_dictFind_of (s:={ s with toks:=s.toks+1 }) hkey ho hd hk ?_)
 cases hi:es.findIdx? λe=>knd.is k e.key with
|some i =>
  have hi':(es.toList.findIdx? λe=>knd.is k e.key)=some i:=by rw[←hi];obtain⟨l⟩:=es;simp
  obtain⟨e,e1,e2,e3⟩:=hp.at hi'
  refine wpAny_bind (wpAny_dictEntries (s:={ s with toks:=s.toks+1 }) ho hd ?_)
  rw[←Array.getElem?_toList,e1]
  exact wpAny_bind (wpAny_rule (wpAny_pure (h1 e.val e3)))
|none =>
  have hi':(es.toList.findIdx? λe=>knd.is k e.key)=none:=by rw[←hi];obtain⟨l⟩:=es;simp
  have hv:valueAt xs k=none:=by
   rw[←hp.find k]
   have:(es.toList.find? λe=>knd.is k e.key)=none:=by
    rw[List.find?_eq_none]
    intro e me
    have:=List.findIdx?_eq_none_iff.mp hi' e me
    simpa using this
   rw[this]
   rfl
  have hnk:k∉xs.map (·.1):=λm=>by
   obtain⟨kv,mk,e⟩:=List.mem_map.mp m
   unfold valueAt at hv
   rw[Option.map_eq_none_iff,List.find?_eq_none] at hv
   exact hv kv mk (decide_eq_true e)
  refine wpAny_bind (wpAny_rule (wpAny_bind (wpAny_updateDictKeys (hz:=by lia) (s:={ s with toks:=s.toks+1 }) ho hd (wpAny_pure (h2 hv _ ⟨_,_,ep+1,Heap.get?_update_self _ ho (Obj.isFreed_of_dict (Obj.data_mapDictKeys hd _)),
   hc.mapDictKeys _,Obj.data_mapDictKeys hd _,hk.push hkey _,?_,?_⟩ (Heap.SameBut.update ..))))))
  ·rw[Array.toList_push]
   exact hp.append hkey _ _
  ·rw[List.map_append]
   exact List.nodup_append.mpr ⟨hn,by simp,λx mx y my e=>hnk (by rw[←(show y=k from List.mem_singleton.mp my),←e];exact mx)⟩
theorem qq1(d:Addr)(key:Value)(hd:(d==sysModules)=false)(dflt:Value) :
  MeetsIn prog w (Builtin.«dict.setdefault» ⟨[.ref d,key,dflt],[]⟩) (λ_ R s=>∃k xs,knd.is k key=true/\s.heap.DictOf knd d xs/\xs.length<=sizeLine /\
   (∀u,valueAt xs k=some u->R (.ok (.ret u)) { s with toks:=s.toks+1 }) /\
   (valueAt xs k=none->∀h',h'.DictOf knd d (xs++[(k,dflt)])->Heap.SameBut d s.heap h'->R (.ok (.ret dflt)) { s with heap:=h',toks:=s.toks+1 })) :=
 .of_wp λA R s ⟨k,xs,hkey,hm,hz,h1,h2⟩=>by
  unfold Builtin.«dict.setdefault»
  refine wpAny_bind ?_
  unfold Builtin.Dict.keyAndDefault
  refine wpAny_bind (wpAny_notOrdered_dict hm.typeIs ?_)
  show wpAny _ _ (pure (d,key,some dflt)) _ _ s
  refine wpAny_pure ?_
  show wpAny _ _ (if (d==sysModules)=true then _ else (dictSetDefault d key dflt >>= _)) _ _ s
  rw[if_neg (by rw[hd];exact Bool.false_ne_true)]
  exact wpAny_bind (qsl hkey hm (λv hv=>wpAny_pure ⟨v,rfl,h1 v hv⟩) (λhn h' hm' hs'=>wpAny_pure ⟨dflt,rfl,h2 hn h' hm' hs'⟩) hz)
end
end PySem
namespace L2
open PySem PySem.Spec PyProof.Rows
section
variable {X:Cx} {pins:List (Addr×Obj)} {σ:St} {H:Hp} {s:Shared} {a b:Addr} {u r:Value} {d:V} {A:Around} {E:Value->Shared->Prop}
theorem q10{kvs:List (Key×V)}{k:Key}{Q:Value->Shared->Prop}(I:Inv X pins σ H s)(e:H a=some (.dK kvs))(hl:kvs.length<sizeLine)(ry:RelV (kV k) u)(rd:RelV d r)
  (h1:∀v w' s',valV kvs k=some v->Inv X pins σ H s'->RelV v w'->Q w' s') (h2:∀s',valV kvs k=none->Inv X pins σ (upd H a (.dK (kvs++[(k,d)]))) s'->Q r s') :
  wpAny (model X.prog X.w) A (call (.builtin "dict.setdefault") [.ref a,u,r]) Q E s:=by
 obtain⟨z,hd,vs,rel,dd⟩:=qy6 I.hok e
 have hz:vs.length<=sizeLine:=by rw[←rel.length];exact z
 refine call_meetsIn PySem.F.slot_dict_setdefault dd.typeIs PySem.F.entry_dict_setdefault (PySem.F.args_dict_setdefault_3 _ _ _) (qq1 (knd:=qa7 X.prog X.w) a u hd r) ⟨k,vs,qj2 ry,dd,hz,λw' hw=>?_,λhn h' dd' hs=>h2 _ ?_ ?_⟩
 ·have:=rel.val k
  rw[hw] at this
  cases hv:valV kvs k with
 |none=>rw[hv] at this;exact this.elim
 |some v=>rw[hv] at this;exact h1 v w' _ hv (I.tok _) this
 ·have:=rel.val k
  rw[hn] at this
  cases hv:valV kvs k with
 |none=>rfl
 |some v=>rw[hv] at this;exact this.elim
 ·have he:∃q,h'.get? a=some q:=let ⟨q,_,_,hq,_⟩:=dd';⟨q,hq⟩
  exact qlc I (by rw[e];exact True.intro) hs he (qus (by rw[List.length_append,List.length_singleton];exact hl) hd (Paired.snoc rel ⟨rfl,rd⟩) dd')
end
def q1a(td ty tx:TE):TE:=λσ H Q=>td σ H λx H1=>∃a,x=.ref a/\IsD H1 a/\ty σ H1 λy H2=>tx σ H2 λz H3=>∃kvs k,H3 a=some (.dK kvs)/\y=kV k/\kvs.length<sizeLine /\
 (∀v,valV kvs k=some v->Q v H3)/\(valV kvs k=none->Q z (upd H3 a (.dK (kvs++[(k,z)]))))
section
variable {X:Cx} {o e f:Expr} {apos cpos:Pos} {td ty tx:TE}
theorem qxa(ho:PE X o td)(he:PE X e ty)(hf:PE X f tx)(m:M2 X o "setdefault" apos e f cpos):PE X (.Call (.Attribute o "setdefault" apos) [e,f] [] cpos) (q1a td ty tx):=by
 intro pins s σ H Q I h
 refine wpAny_Call_method m.base m.few m.line PySem.F.plainAttrs_dict PySem.F.slot_dict_setdefault PySem.F.type_dict_setdefault (thn (ho pins s σ H _ I h) λu s1 ⟨x,H1,I1,rx,a,ex,d,q1⟩=>?_)
 subst ex
 obtain rfl:u=Value.ref a:=rx
 obtain⟨t1,t2,_⟩:=qql I1 d
 refine⟨t1,t2,?_⟩
 rw[m.trees]
 refine Calls.callWith_builtin rfl (Calls.evalArgs_plain (Calls.spliced_cons (thn (he pins s1 σ H1 _ I1 q1) λiv s2 ⟨y,H2,I2,ry,q2⟩ =>
  Calls.spliced_cons (thn (hf pins s2 σ H2 _ I2 q2) λfv s3 ⟨z,H3,I3,rz,kvs,k,ea,ey,hl,g1,g2⟩=>Calls.spliced_nil ?_))))
 subst ey
 exact q10 I3 ea hl ry rz (λv w' s4 hv I4 rw'=>⟨v,H3,I4,rw',g1 v hv⟩) λs4 hn I4=>⟨z,_,I4,rz,g2 hn⟩
theorem qxv(ho:QE X o td)(he:QE X e ty)(hf:QE X f tx)(m:M2 X o "setdefault" apos e f cpos):QE X (.Call (.Attribute o "setdefault" apos) [e,f] [] cpos) (q1a td ty tx):=⟨qxa ho.u he.u hf.u m⟩
end
def putH(acc:List (Str×List D))(z:Str)(e:D):List (Str×List D):=if z∈acc.map (·.1) then acc.map (λp=>if p.1=z then (p.1,p.2++[e]) else p) else acc++[(z,[e])]
def qcn(key:D->Str)(es:List D):List (Str×List D):=es.foldl (λacc e=>putH acc (key e) e) []
def qj0(key:D->Str)(es:List D):D:=.dK ((qcn key es).map (·.1)) ((qcn key es).map λp=>.lst p.2)
structure HpInv(K:PySem.W.Frag)(H0 B H:Hp)(a:Addr)(acc:List (Str×Addr×List D)):Prop where
 da:H a=some (.dK (acc.map λp=>(Sum.inr p.1,V.ref p.2.1)))
 a0:H0 a=none
 ab:B a=none
 kn:(acc.map (·.1)).Nodup
 an:(acc.map (·.2.1)).Nodup
 li:∀p∈acc,H0 p.2.1=none/\B p.2.1=none/\p.2.1≠a/\OwnAt K B H (.lst p.2.2) p.2.1
section
variable {K:PySem.W.Frag} {H0 B H B' H' B0:Hp} {a:Addr} {acc:List (Str×Addr×List D)}
theorem HpInv.step(I:HpInv K H0 B H a acc)(p:Stp B H B' H'):HpInv K H0 B' H' a acc :=
 ⟨p.h _ _ I.da,I.a0,p.keep I.ab (by rw[I.da];simp) (by intro xs z;rw[I.da] at z;cases z),I.kn,I.an,λq m=>by
  obtain⟨h1,h2,h3,h4⟩:=I.li q m
  exact⟨h1,p.keep h2 h4.some h4.nt,h3,h4.step p.b (p.h.at h4.some)⟩⟩
theorem qr0{z:Str}:∀ {acc:List (Str×Addr×List D)},(acc.map (·.1)).Nodup->∀p∈acc,p.1=z->valV (acc.map λp=>((Sum.inr p.1:Key),V.ref p.2.1)) (Sum.inr z)=some (.ref p.2.1)
|q::acc,nd,p,m,e=>by
  rw[List.map_cons] at nd ⊢
  have nd':=List.nodup_cons.mp nd
  rcases List.mem_cons.mp m with rfl|m
  ·exact qep (by rw[e])
  ·rw[qds λc=>nd'.1 (by
    have c:q.1=z:=Sum.inr.inj c
    rw[c,←e]
    exact List.mem_map_of_mem m)]
   exact qr0 nd'.2 p m e
theorem qvu{z:Str}:∀ {acc:List (Str×Addr×List D)},z∉acc.map (·.1)->valV (acc.map λp=>((Sum.inr p.1:Key),V.ref p.2.1)) (Sum.inr z)=none
|[],_=>rfl
|q::acc,h=>by
  rw[List.map_cons] at h ⊢
  rw[qds λc=>h (by
   have c:q.1=z:=Sum.inr.inj c
   rw[c]
   exact List.mem_cons_self)]
  exact qvu λm=>h (List.mem_cons_of_mem _ m)
end
end L2
namespace L2
open PySem PySem.Spec PyProof.Rows
section
variable {K:PySem.W.Frag} {H0 B H B' H' B0:Hp} {a:Addr} {acc:List (Str×Addr×List D)}
theorem qnf{α β:Type}{f:α->β}:∀ {l:List α},(l.map f).Nodup->∀ {x y:α},x∈l->y∈l->f x=f y->x=y
|q::l,nd,x,y,mx,my,e=>by
  rw[List.map_cons] at nd
  have nd':=List.nodup_cons.mp nd
  rcases List.mem_cons.mp mx with rfl|mx
  ·rcases List.mem_cons.mp my with rfl|my
   ·rfl
   ·exact absurd (by rw[e];exact List.mem_map_of_mem my) nd'.1
  ·rcases List.mem_cons.mp my with q|my
   ·exact absurd (by rw[←q,←e];exact List.mem_map_of_mem mx) nd'.1
   ·exact qnf nd'.2 mx my e
def appA(z:Str)(e:D)(q:Str×Addr×List D):Str×Addr×List D:=if q.1=z then (q.1,q.2.1,q.2.2++[e]) else q
theorem qjh(z:Str)(e:D)(q:Str×Addr×List D):(appA z e q).1=q.1/\(appA z e q).2.1=q.2.1:=by
 unfold appA
 split<;>exact⟨rfl,rfl⟩
theorem HpInv.app(I:HpInv K H0 B H a acc){p:Str×Addr×List D}(mp:p∈acc){e:D}{y:V}(r:Rep K B e y){xs:List V}(hx:H p.2.1=some (.lst xs)):HpInv K H0 B (upd H p.2.1 (.lst (xs++[y]))) a (acc.map (appA p.1 e)):=by
 obtain⟨_,_,pa,po⟩:=I.li p mp
 refine⟨?_,I.a0,I.ab,?_,?_,λq' m'=>?_⟩
 ·rw[qa5 (Ne.symm pa),I.da,List.map_map]
  congr 2
  refine List.map_congr_left λq _=>?_
  show (Sum.inr q.1,V.ref q.2.1)=(Sum.inr (appA p.1 e q).1,V.ref (appA p.1 e q).2.1)
  rw[(qjh p.1 e q).1,(qjh p.1 e q).2]
 ·rw[List.map_map,show (acc.map ((·.1) ∘ appA p.1 e))=acc.map (·.1) from List.map_congr_left λq _=>(qjh p.1 e q).1]
  exact I.kn
 ·rw[List.map_map,show (acc.map ((·.2.1) ∘ appA p.1 e))=acc.map (·.2.1) from List.map_congr_left λq _=>(qjh p.1 e q).2]
  exact I.an
 ·obtain⟨q,mq,rfl⟩:=List.mem_map.mp m'
  obtain⟨h1,h2,h3,h4⟩:=I.li q mq
  rw[(qjh p.1 e q).2]
  refine⟨h1,h2,h3,?_⟩
  by_cases c:q.1=p.1
  ·have:q=p:=qnf I.kn mq mp c
   subst this
   unfold appA
   rw[if_pos rfl]
   obtain⟨xs',e1,e2⟩:=po
   rw[hx] at e1
   cases e1
   exact⟨xs++[y],qa8,e2.append (by unfold Reps;exact⟨y,[],rfl,r,by unfold Reps;rfl⟩)⟩
  ·unfold appA
   rw[if_neg c]
   exact h4.step (Same.refl _) (qa5 λz=>c (by rw[qnf I.an mq mp z]))
theorem HpInv.new(I:HpInv K H0 B H a acc)(s0:Same H0 H)(sb:Same B H){z:Str}(nz:z∉acc.map (·.1)){l:Addr}(hl:H l=none){e:D}{y:V}(r:Rep K B e y) :
  HpInv K H0 B (upd (upd (upd H l (.lst [])) a (.dK ((acc.map λp=>((Sum.inr p.1:Key),V.ref p.2.1))++[(Sum.inr z,V.ref l)]))) l (.lst ([]++[y]))) a (acc++[(z,l,[e])]):=by
 have la:l≠a:=λc=>by rw[c,I.da] at hl;cases hl
 refine⟨?_,I.a0,I.ab,?_,?_,λq m=>?_⟩
 ·rw[qa5 (Ne.symm la),qa8,List.map_append]
  rfl
 ·rw[List.map_append]
  exact List.nodup_append.mpr ⟨I.kn,by simp,λx mx w mw e=>nz (by rw[←(show w=z from List.mem_singleton.mp mw),←e];exact mx)⟩
 ·rw[List.map_append]
  refine List.nodup_append.mpr ⟨I.an,by simp,λx mx w mw e=>?_⟩
  obtain⟨q,mq,rfl⟩:=List.mem_map.mp mx
  have:w=l:=List.mem_singleton.mp mw
  exact(I.li q mq).2.2.2.some (by rw[e,this];exact hl)
 ·rcases List.mem_append.mp m with m|m
  ·obtain⟨h1,h2,h3,h4⟩:=I.li q m
   have ql:q.2.1≠l:=λc=>h4.some (by rw[c];exact hl)
   exact⟨h1,h2,h3,h4.step (Same.refl _) (by rw[qa5 ql,qa5 h3,qa5 ql])⟩
  ·rw[List.mem_singleton.mp m]
   exact⟨s0.free hl,sb.free hl,la,[y],qa8,by unfold Reps;exact⟨y,[],rfl,r,by unfold Reps;rfl⟩⟩
theorem qxo{z:Str}{e:D}(h:z∈acc.map (·.1)):(acc.map (appA z e)).map (λp=>(p.1,p.2.2))=putH (acc.map λp=>(p.1,p.2.2)) z e:=by
 unfold putH
 rw[if_pos (by rw[List.map_map];exact h),List.map_map,List.map_map]
 refine List.map_congr_left λq _=>?_
 show ((appA z e q).1,(appA z e q).2.2)=if q.1=z then (q.1,q.2.2++[e]) else (q.1,q.2.2)
 unfold appA
 split<;>rfl
theorem qxn{z:Str}{l:Addr}{e:D}(h:z∉acc.map (·.1)):(acc++[(z,l,[e])]).map (λp=>(p.1,p.2.2))=putH (acc.map λp=>(p.1,p.2.2)) z e:=by
 unfold putH
 rw[if_neg (by rw[List.map_map];exact h),List.map_append]
 rfl
theorem HpInv.pub(I:HpInv K H0 B H a acc)(p:Stp B0 H0 B H):∃B2,Stp B0 H0 B2 H/\Rep K B2 (.dK (acc.map (·.1)) (acc.map λq=>.lst q.2.2)) (.ref a):=by
 let ls:=a::acc.map (·.2.1)
 have bn:∀x∈ls,B x=none/\H0 x=none/\H x≠none:=λx mx=>by
  rcases List.mem_cons.mp mx with rfl|mx
  ·exact⟨I.ab,I.a0,by rw[I.da];simp⟩
  ·obtain⟨q,mq,rfl⟩:=List.mem_map.mp mx
   obtain⟨h1,h2,_,h4⟩:=I.li q mq
   exact⟨h2,h1,h4.some⟩
 have s2:Same B λx=>if x∈ls then H x else B x:=λx o e=>by
  show (if x∈ls then H x else B x)=_
  rw[if_neg λm=>by rw[(bn x m).1] at e;cases e]
  exact e
 refine⟨λx=>if x∈ls then H x else B x,⟨p.b.trans s2,p.h,λx o e=>?_,λx h=>?_⟩,?_⟩
 ·have e:(if x∈ls then H x else B x)=some o:=e
  split at e
  ·exact e
  ·exact p.s _ _ e
 ·by_cases m:x∈ls
  ·exact .inr (.inl (bn x m).2.1)
  ·refine p.d x ?_
   rw[if_neg m] at h
   exact h
 ·unfold Rep
  refine⟨a,acc.map λp=>((Sum.inr p.1:Key),V.ref p.2.1),rfl,?_,?_,?_⟩
  ·show (if a∈ls then H a else B a)=_
   rw[if_pos List.mem_cons_self]
   exact I.da
  ·rw[List.map_map,List.map_map]
   rfl
  ·rw[List.map_map]
   have all:∀ {l:List (Str×Addr×List D)},(∀q∈l,q∈acc)->Reps K (λx=>if x∈ls then H x else B x) (l.map λq=>D.lst q.2.2) (l.map ((·.2) ∘ λq=>((Sum.inr q.1:Key),V.ref q.2.1))):=λ{l} h=>by
    induction l with
   |nil=>unfold Reps;rfl
   |cons q l ih =>
     rw[List.map_cons,List.map_cons]
     unfold Reps
     refine⟨_,_,rfl,?_,ih λx m=>h x (List.mem_cons_of_mem _ m)⟩
     obtain⟨_,_,_,xs,e1,e2⟩:=I.li q (h q List.mem_cons_self)
     unfold Rep
     refine⟨q.2.1,xs,rfl,?_,e2.same s2⟩
     show (if q.2.1∈ls then H q.2.1 else B q.2.1)=_
     rw[if_pos (List.mem_cons_of_mem _ (List.mem_map_of_mem (h q List.mem_cons_self)))]
     exact e1
   exact all λq m=>m
end
def qnv(k l:Nat)(vi:TVA)(tk:TV):TVS:=λDv τ=>(plainS τ/\k<τ.length/\l<τ.length/\k≠l)/\vi (τ.set k none) λa=>match a with
|.ok es=>es.length<sizeLine/\∃key:D->Str,(∀e∈es,tk ((τ.set k none).set l (some (.val e))) λr=>r=.val (.str (key e)))/\Dv.rt (.val (qj0 key es))
|.exc _=>False
theorem qkj{τ:VSt}(h:plainS τ)(i:Nat){o:Option R}(ho:o=none\/∃d,o=some (.val d)):plainS (τ.set i o):=by
 unfold plainS at h ⊢
 rw[List.all_eq_true] at h ⊢
 intro x m
 rcases List.mem_or_eq_of_mem_set m with m|rfl
 ·exact h x m
 ·rcases ho with rfl|⟨d,rfl⟩<;>rfl
theorem qdg(key:D->Str)(es:List D){i:Nat}(hi:i<es.length):qcn key (es.take (i+1))=putH (qcn key (es.take i)) (key es[i]) es[i]:=by
 unfold qcn
 rw[List.take_succ,List.getElem?_eq_getElem hi,List.foldl_append]
 rfl
theorem qtt(acc:List (Str×List D))(z:Str)(e:D):(putH acc z e).length<=acc.length+1:=by
 unfold putH
 split
 ·rw[List.length_map];lia
 ·rw[List.length_append];exact Nat.le_refl _
theorem qgj(key:D->Str)(es:List D):∀i,i<=es.length->(qcn key (es.take i)).length<=i
|0,_=>Nat.le_refl _
|i+1,h=>by
  rw[qdg key es h]
  have:=qgj key es i (by lia)
  have:=qtt (qcn key (es.take i)) (key es[i]) es[i]
  lia
theorem qm0(key:D->Str)(es:List D):∀i,i<=es.length->∀p∈qcn key (es.take i),p.2.length<=i
|0,_,p,m=>by cases m
|i+1,h,p,m=>by
  rw[qdg key es h] at m
  have ih:=qm0 key es i (by lia)
  unfold putH at m
  split at m
  ·obtain⟨q,mq,rfl⟩:=List.mem_map.mp m
   have:=ih q mq
   split
   ·show (q.2++[es[i]]).length<=i+1
    rw[List.length_append]
    exact Nat.add_le_add_right this 1
   ·lia
  ·rcases List.mem_append.mp m with m|m
   ·have:=ih p m
    lia
   ·rw[List.mem_singleton.mp m]
    show 1<=i+1
    lia
section
variable {X:Cx} {EX:St->XK} {x y:Str} {k l:Nat} {vi:TVA} {tk:TV} {iter ek:Expr} {p1 p2 p3 p4 p5 p6 p7 q1 q2 q3 q4 a1 a2 c1 c2:Pos}
theorem qr9(hp:PassesOwn (model X.prog X.w) X.A X.env X.xe)(hc:X.calm=true)(hN:X.N.Nodup)(hk:X.N[k]?=some x)(hl:X.N[l]?=some y)(hx:Loc X.env.scope x)(hy:Loc X.env.scope y)(hi:VI X EX (.Name y p3) iter vi)(hkey:VE X EX ek tk)
  (hs:∀z,foldedSetIterable iter X.env z=pure z:=by intro _;rfl) (hpe:qa2 ek=true:=by rfl)
  (hf:X.fn x=true\/X.env.scope.names.lookup x=some .local:=by first|exact .inl rfl|exact .inr rfl|assumption) (hf2:X.fn y=true\/X.env.scope.names.lookup y=some .local:=by first|exact .inl rfl|exact .inr rfl|assumption)
  (hv:Vis X.env.scope x:=by first|exact Or.inl rfl|exact Or.inr (Or.inl rfl)|exact Or.inr (Or.inr rfl)) (hv2:Vis X.env.scope y:=by first|exact Or.inl rfl|exact Or.inr (Or.inl rfl)|exact Or.inr (Or.inr rfl))
  (hd:(x==("__debug__" : Str))=false:=by decide) (hcd:(x==("__classdict__" : Str))=false:=by decide) (hd2:(y==("__debug__" : Str))=false:=by decide) (hcd2:(y==("__classdict__" : Str))=false:=by decide)
  (m:M2 X (.Name x p4) "setdefault" a1 ek (.List [] p5) c1:=by exact⟨rfl,rfl,rfl,rfl⟩) (hs1:swapsWith (.Dict [] [] p2) (some (.Name x p1)) q1.line X.env=pure false:=by rfl)
  (hbase:attributeBase (.Call (.Attribute (.Name x p4) "setdefault" a1) [ek,.List [] p5] [] c1) "append" X.env (eval (.Call (.Attribute (.Name x p4) "setdefault" a1) [ek,.List [] p5] [] c1) X.env)=eval (.Call (.Attribute (.Name x p4) "setdefault" a1) [ek,.List [] p5] [] c1) X.env:=by rfl)
  (hline:(a2.endLine==c2.line)=true:=by rfl) (hs2:swapsWith (.Call (.Attribute (.Call (.Attribute (.Name x p4) "setdefault" a1) [ek,.List [] p5] [] c1) "append" a2) [.Name y p6] [] c2) none q2.line X.env=pure false:=by rfl) :
  VSs X EX (.Assign [.Name x p1] (.Dict [] [] p2) q1::.For (.Name y p3) iter [.Expr (.Call (.Attribute (.Call (.Attribute (.Name x p4) "setdefault" a1) [ek,.List [] p5] [] c1) "append" a2) [.Name y p6] [] c2) q2] [] q3::.Return (some (.Name x p7)) q4::[]) (qnv k l vi tk) :=
 let ⟨_,i1,i2⟩:=hi.u;let ⟨_,e1,e2⟩:=hkey.u
 ⟨_,qiw (qrh hN hk hx qtw hs1 hf) (qiw (qvf hp hc i1 (qrg hN hl hy hf2) (qix (ql4 (qbm PySem.F.plainAttrs_list PySem.F.slot_list_append PySem.F.type_list_append qgv (qxv (qv k hk hv hd hcd) e1 (qve qd9) m) (qac (qv l hl hv2 hd2 hcd2) qd9 rfl) rfl rfl hbase hline) hs2)) hs) (qix (qkk (qv k hk hv hd hcd)))),λB0 H0 B H τ σ Dv Dh p S h E=>by
  obtain⟨⟨pl,lk,ll,nkl⟩,h⟩:=h
  intro a ha
  have ha0:=p.h.free ha
  have hab:=p.s.free ha
  have p1:Stp B0 H0 B (upd H a (.dK [])):=p.upd ha0 hab
  have pk:plainS (τ.set k none):=qkj pl k (.inl rfl)
  have S1:Slots X.K H0 B (upd H a (.dK [])) (τ.set k none) (σ.set k (some (.ref a))):=(S.plain pl).setNone k _
  have I0:HpInv X.K H0 B (upd H a (.dK [])) a []:=⟨qa8,ha0,hab,List.nodup_nil,List.nodup_nil,λq m=>by cases m⟩
  refine i2 H0 B _ (τ.set k none) (σ.set k (some (.ref a))) _ _ p1.s S1 h (λ_ _ _ _ _ _ z=>z.elim) λJ es B' H' q ok hq=>?_
  obtain⟨hlen,key,hky,hrt⟩:=hq
  obtain⟨o,ho⟩:∃o,(τ.set k none)[l]?=some o:=⟨_,List.getElem?_eq_getElem (by rw[List.length_set];exact ll)⟩
  have po:o=none\/∃d,o=some (.val d):=by
   have:=List.all_eq_true.mp pk o (List.mem_of_getElem? ho)
   cases o with
  |none=>exact .inl rfl
  |some r =>
    cases r with
   |val d=>exact .inr ⟨d,rfl⟩
   |_=>cases this
  have so:(τ.set k none).set l o=τ.set k none:=by
   obtain⟨z1,z2⟩:=List.getElem?_eq_some_iff.mp ho
   rw[←z2]
   exact List.set_getElem_self z1
  have sk:(σ.set k (some (V.ref a)))[k]?=some (some (.ref a)):=List.getElem?_set_self (by rw[S.len];exact lk)
  refine⟨λi m σ2 H2=>m=es.length-i/\i<=es.length/\∃B2 o acc,Stp B0 H0 B2 H2/\Same B' B2/\(o=none\/∃d,o=some (.val d))/\Slots X.K H0 B2 H2 ((τ.set k none).set l o) σ2/\σ2[k]?=some (some (.ref a))/\HpInv X.K H0 B2 H2 a acc/\acc.map (λp=>(p.1,p.2.2))=qcn key (es.take i),
   ⟨es.length,by lia,Nat.zero_le _,B',o,[],p1.trans q,Same.refl _,po,by rw[so];exact S1.step q,sk,I0.step q,rfl⟩,?_⟩
  rintro i m σ2 H2 ⟨rfl,hi,B2,o2,acc,p2,sB,po2,S2,sk2,I2,ea⟩
  by_cases hlt:i<es.length
  ·have ei:es[i]?=some es[i]:=List.getElem?_eq_getElem hlt
   obtain⟨go,yl⟩:=(ok i B2 H2 sB p2.s).1 _ ei
   refine .inr ⟨go,λσ3 H3=>∃B2 o acc,Stp B0 H0 B2 H3/\Same B' B2/\(o=none\/∃d,o=some (.val d))/\Slots X.K H0 B2 H3 ((τ.set k none).set l o) σ3/\σ3[k]?=some (some (.ref a))/\HpInv X.K H0 B2 H3 a acc/\acc.map (λp=>(p.1,p.2.2))=qcn key (es.take (i+1)),
    λσ3 H3 z=>⟨es.length-(i+1),by lia,rfl,by lia,z⟩,λyv H3 hy=>?_⟩
   obtain⟨B3,q3,rp⟩:=yl yv H3 hy
   have S3:=(S2.step q3).setVal l rp
   rw[List.set_set] at S3
   have sk3:(σ2.set l (some yv))[k]?=some (some (.ref a)):=by rw[List.getElem?_set_ne (Ne.symm nkl)];exact sk2
   have I3:=I2.step q3
   have pl3:plainS ((τ.set k none).set l (some (.val es[i]))):=qkj pk l (.inr ⟨_,rfl⟩)
   have sl3:(σ2.set l (some yv))[l]?=some (some yv):=List.getElem?_set_self (by
    have:=S2.len
    rw[List.length_set,List.length_set] at this
    lia)
   refine⟨.ref a,sk3,a,rfl,.inl ⟨_,.inl I3.da⟩,e2 H0 B3 H3 _ _ _ _ q3.s S3 (hky es[i] (List.getElem_mem hlt)) (λ_ _ _ _ _ _ z=>by cases z) λr v B4 H4 q4 hr hq=>?_⟩
   subst hq
   have ev:v=V.str (key es[i]):=by
    have hr':Rep X.K B4 (.str (key es[i])) v:=hr
    unfold Rep at hr'
    exact hr'
   subst ev
   refine⟨Nat.zero_le _,λlp hlp=>?_⟩
   have I4:=I3.step q4
   have p4:=(p2.trans q3).trans q4
   have sB4:Same B' B4:=(sB.trans q3.b).trans q4.b
   have rp4:Rep X.K B4 es[i] yv:=rp.same q4.b
   have alp:a≠lp:=λz=>by
    have:=I4.da
    rw[z,hlp] at this
    cases this
   have g:Stp B4 H4 B4 (upd H4 lp (.lst [])):=.grow q4.s (qau hlp _)
   have len1:acc.length<=i:=by
    have:=qgj key es i hi
    rw[←ea,List.length_map] at this
    exact this
   refine⟨_,Sum.inr (key es[i]),(by rw[qa5 alp];exact I4.da),rfl,by rw[List.length_map];lia,λv' hv'=>?_,λhv'=>?_⟩
   ·by_cases mz:key es[i]∈acc.map (·.1)
    ·obtain⟨q,mq,eq⟩:=List.mem_map.mp mz
     rw[qr0 I4.kn q mq eq] at hv'
     cases hv'
     have I5:=I4.step g
     obtain⟨n1,n2,n3,xs,x1,x2⟩:=I5.li q mq
     have xl:xs.length<=i:=by
      rw[←x2.length]
      exact qm0 key es i hi (q.1,q.2.2) (by rw[←ea];exact List.mem_map.mpr ⟨q,mq,rfl⟩)
     refine⟨.inl ⟨rfl,xs,.inl (.inl x1)⟩,yv,sl3,q.2.1,xs,yv,rfl,rfl,x1,by lia,?_⟩
     refine⟨B4,some (.val es[i]),acc.map (appA q.1 es[i]),(p4.trans g).upd n1 n2,sB4,.inr ⟨_,rfl⟩,(S3.step q4).plain pl3,sk3,I5.app mq rp4 x1,?_⟩
     rw[qxo (by rw[eq];exact mz),qdg key es hlt,←ea,eq]
    ·rw[qvu mz] at hv'
     cases hv'
   ·have mz:key es[i]∉acc.map (·.1):=λmz=>by
     obtain⟨q,mq,eq⟩:=List.mem_map.mp mz
     rw[qr0 I4.kn q mq eq] at hv'
     cases hv'
    have l0:=p4.h.free hlp
    have lb:=q4.s.free hlp
    have xl:(upd (upd H4 lp (.lst [])) a (.dK ((acc.map λp=>((Sum.inr p.1:Key),V.ref p.2.1))++[(Sum.inr (key es[i]),V.ref lp)]))) lp=some (.lst []):=by rw[qa5 (Ne.symm alp),qa8]
    refine⟨.inl ⟨rfl,[],.inl (.inl xl)⟩,yv,sl3,lp,[],yv,rfl,rfl,xl,by have:1000<=sizeLine:=qa6;show 0<sizeLine;lia,?_⟩
    refine⟨B4,some (.val es[i]),acc++[(key es[i],lp,[es[i]])],(((p4.trans g).upd I4.a0 I4.ab).upd l0 lb),sB4,.inr ⟨_,rfl⟩,(S3.step q4).plain pl3,sk3,I4.new p4.h q4.s mz hlp rp4,?_⟩
    rw[qxn mz,qdg key es hlt,←ea]
  ·have ei:es[i]?=none:=List.getElem?_eq_none (by lia)
   have:i=es.length:=by lia
   subst this
   refine .inl ⟨(ok _ B2 H2 sB p2.s).2 ei,.ref a,sk2,?_⟩
   obtain⟨B5,p5,r5⟩:=I2.pub p2
   refine E.rt (.val (qj0 key es)) (.ref a) B5 H2 p5 (show Rep X.K B5 (qj0 key es) (.ref a) from ?_) hrt
   rw[List.take_length] at ea
   unfold qj0
   rw[←ea,List.map_map,List.map_map]
   exact r5⟩
end
end L2
namespace L2
open PySem PySem.Spec PyProof.Rows
section
variable {X:Cx} {EX:St->XK} {o e f:Expr} {to ti tf te:TV} {apos cpos pos p:Pos} {x:Str}
def qkv(to ti tf:TV):TV:=λτ Q=>to τ λrx=>match rx.d with
|.dK ks ds=>ti τ λry=>∃z,ry.d=.str z/\tf τ λrf=>exR rf (λ_=>False) <| match lkK ks ds z with
 |some d=>Q (.val d)
 |none=>Q rf
|_=>False
theorem qnz(hu:X.A.units+64<cLine)(ho:VE X EX o to)(hi:VE X EX e ti)(hf:VE X EX f tf)(m:M2 X o "get" apos e f cpos:=by exact⟨rfl,rfl,rfl,rfl⟩):VE X EX (.Call (.Attribute o "get" apos) [e,f] [] cpos) (qkv to ti tf) :=
 let ⟨_,a1,a2⟩:=ho.u;let ⟨_,b1,b2⟩:=hi.u;let ⟨_,c1,c2⟩:=hf.u;⟨_,qtv (by lia) a1 b1 c1 m,λH0 B H τ σ Q Qd s S h xc k=>a2 H0 B H τ σ _ _ s S h (xno λ_ q=>q) λrx x B1 H1 p1 q1 h1=>by
  split at h1
  ·rename_i ks ds e1
   obtain⟨ad,kvs,rfl,hd,_,_⟩:=q1.pk.dK p1.s e1
   refine⟨ad,rfl,.inl ⟨kvs,.inl hd⟩,b2 H0 B1 H1 τ σ _ _ p1.s (S.step p1) h1 (xno λ_ ⟨_,q,_⟩=>by cases q) λry y B2 H2 p2 q2 h2=>?_⟩
   obtain⟨w,e2,h2⟩:=h2
   cases q2.pk.scal (z:=.str w) (by rw[e2];rfl)
   refine c2 H0 B2 H2 τ σ _ _ p2.s (S.step (p1.trans p2)) h2 (xno λ_ q=>q) λrf v B3 H3 p3 q3 h3=>?_
   have hq:=q3.ok h3
   obtain⟨ad',kvs',ea,hd',hk,hr⟩:=(q1.pk.step (p2.trans p3)).dK p3.s e1
   cases ea
   refine⟨_,DGet.k (k:=Sum.inr w) hd',?_⟩
   rcases qgr w hk hr with ⟨z,y⟩|⟨d',v',z,y,rp⟩
   ·rw[y];rw[z] at hq
    exact k rf _ B3 H3 ((p1.trans p2).trans p3) (q3.back (p1.h.trans p2.h)) hq
   ·rw[y];rw[z] at hq
    exact k (.val d') _ B3 H3 ((p1.trans p2).trans p3) rp hq
  ·exact h1.elim⟩
def qi6(i:Nat)(te:TV):TVS:=λDv τ=>ownL τ i λds=>te τ λr=>exS τ Dv r (match r.d with
|.lst es=>ds.length+es.length<=sizeLine/\Dv.nx (τ.set i (some (.own (.lst (ds++es)))))
|  _=>False)
theorem qr8(i:Nat)(h:VE X EX e te)(hN:X.N[i]?=some x:=by rfl)(hv:Vis X.env.scope x:=by first|exact Or.inl rfl|exact Or.inr (Or.inl rfl)|exact Or.inr (Or.inr rfl))(hd:(x==("__debug__" : Str))=false:=by decide)
  (hcd:(x==("__classdict__" : Str))=false:=by decide) (hp:qa2 e=true:=by rfl)
  (hbase:attributeBase (.Name x p) "extend" X.env (eval (.Name x p) X.env)=eval (.Name x p) X.env:=by rfl) (hline:(apos.endLine==cpos.line)=true:=by rfl)
  (hs:swapsWith (.Call (.Attribute (.Name x p) "extend" apos) [e] [] cpos) none pos.line X.env=pure false:=by rfl) :
  VS X EX (.Expr (.Call (.Attribute (.Name x p) "extend" apos) [e] [] cpos) pos) (qi6 i te) :=
 let ⟨_,a1,a2⟩:=h.u;⟨_,ql4 (qbm PySem.F.plainAttrs_list PySem.F.slot_list_extend PySem.F.type_list_extend qq3 (qv i hN hv hd hcd) (qac a1 qd9 hp) (by simp[hp]) rfl hbase hline) hs,λB0 H0 B H τ σ Dv Dh p S h E=>by
  obtain⟨ds,ad,xs,e1,h,e2,e3,_⟩:=S.ownL h
  refine⟨.ref ad,e2,.inl ⟨rfl,xs,SqL.of e3⟩,a2 H0 B H τ σ _ _ p.s S h (E.raised p S) λr v B' H' q hr hq=>?_⟩
  have hq:=hr.okS hq
  split at hq
  ·rename_i es ee
   have S2:=S.step q
   obtain⟨a',q1,_,_,xs2,q4,q3⟩:=S2.own i _ e1
   rw[e2] at q1
   cases q1
   obtain⟨b,zs,rfl,hb,rz⟩:=hr.pk.lst q.s ee
   refine⟨ad,b,xs2,zs,rfl,rfl,q4,hb,by rw[←q3.length,←rz.length];exact hq.1,?_⟩
   obtain⟨p3,S3⟩:=S2.lst (p.trans q) e1 e2 (q3.append rz)
   exact E.nx B' _ _ σ p3 S3 hq.2
  ·exact hq.elim⟩
end
end L2
namespace L2
open PySem PySem.Spec PyProof.Rows
theorem FnOk.none{P:Program}{w:World}{K:PySem.W.Frag}{mg:Str->Option Value}{base:Heap}{CX:CXT}{k:Nat}{f:Addr}{fd:FuncData}{ps:List Str}{g:DP}(h:∀ds Q,¬ g ds Q):FnOk P w K mg base CX k f fd ps (spOf K g) :=
 ⟨λ_ _ _ _ ⟨ds,_,Qd,_,_,hg,_⟩=>(h ds Qd hg).elim,λ_ _ _ _ _ _ _ _ _ _ _ _ _ ⟨ds,_,Qd,_,_,hg,_⟩=>(h ds Qd hg).elim⟩
end L2
namespace L2
open PySem
theorem qva(x:List Nat)(t:List (List Nat)):∀l:List (List Nat),l<l++x::t
|[]=>List.nil_lt_cons _ _
|y::l=>List.cons_lt_cons_iff.mpr (.inr ⟨rfl,qva x t l⟩)
theorem qlu{v w:List Str}(h:v <+: w)(ne:v.length<w.length):ltW v w=true:=by
 obtain⟨t,rfl⟩:=h
 cases t with
|nil=>simp at ne
|cons z t =>
  refine decide_eq_true ?_
  unfold keyW
  rw[List.map_append]
  exact qva _ _ _
theorem qu8{y z:Str}(h:ltS y z=true)(s t:List Str):∀b:List Str,ltW (b++y::s) (b++z::t)=true
|[]=>decide_eq_true (List.cons_lt_cons_iff.mpr (.inl (of_decide_eq_true h)))
|x::b=>decide_eq_true (List.cons_lt_cons_iff.mpr (.inr ⟨rfl,of_decide_eq_true (qu8 h s t b)⟩))
def nmAt(d:Nat)(r:Row):Str:=r.1.getD d ""
def grp(d:Nat)(z:Str)(rs:List Row):List Row:=rs.filter λr=>decide (nmAt d r=z)
theorem grp_mem{d:Nat}{z:Str}{rs:List Row}{r:Row}:r∈grp d z rs↔r∈rs/\nmAt d r=z:=by
 unfold grp
 rw[List.mem_filter,decide_eq_true_iff]
theorem qqj(z:Str):∀ws:List Str,ws.Pairwise (λa b=>ltS a b=true)->∃us:List Str,(∀w,w∈us↔w=z\/w∈ws)/\us.Pairwise (λa b=>ltS a b=true)
|[],_=>⟨[z],λw=>by simp,List.pairwise_singleton _ _⟩
|t::ts,h=>by
  have h':=List.pairwise_cons.mp h
  by_cases e:z=t
  ·exact⟨t::ts,λw=>by rw[e];simp,h⟩
  ·rcases qqz e with q|q
   ·refine⟨z::t::ts,λw=>List.mem_cons,List.pairwise_cons.mpr ⟨λx hx=>?_,h⟩⟩
    rcases List.mem_cons.mp hx with e|hx
    ·rw[e];exact q
    ·exact qu7 q (h'.1 x hx)
   ·obtain⟨us,p1,p2⟩:=qqj z ts h'.2
    refine⟨t::us,λw=>?_,List.pairwise_cons.mpr ⟨λx hx=>?_,p2⟩⟩
    ·rw[List.mem_cons,p1,List.mem_cons]
     constructor
     ·rintro (a|a|a)
      ·exact .inr (.inl a)
      ·exact .inl a
      ·exact .inr (.inr a)
     ·rintro (a|a|a)
      ·exact .inr (.inl a)
      ·exact .inl a
      ·exact .inr (.inr a)
    ·rcases (p1 x).mp hx with e|hx
     ·rw[e];exact q
     ·exact h'.1 x hx
theorem qij:∀l:List Str,∃ws:List Str,(∀w,w∈ws↔w∈l)/\ws.Pairwise (λa b=>ltS a b=true)
|[]=>⟨[],λw=>Iff.rfl,.nil⟩
|z::l=>by
  obtain⟨ws,p1,p2⟩:=qij l
  obtain⟨us,q1,q2⟩:=qqj z ws p2
  exact⟨us,λw=>by rw[q1,p1,List.mem_cons],q2⟩
theorem qud:∀ {u v:List Str},u.Pairwise (λa b=>ltS a b=true)->v.Pairwise (λa b=>ltS a b=true)->(∀w,w∈u↔w∈v)->u=v:=λ{u v} hu hv h=>by
 have nn:∀ {u:List Str},u.Pairwise (λa b=>ltS a b=true)->u.Nodup:=λh=>by
  rw[List.nodup_iff_pairwise_ne]
  exact h.imp λ{a b} q e=>by
   rw[e] at q
   exact absurd q (by rw[qnb q];decide)
 exact qfs (lt:=ltS) (λ_ _=>qnb) ((List.perm_ext_iff_of_nodup (nn hu) (nn hv)).mpr h) hu hv
noncomputable def qc3(d:Nat)(one other:List Row):List Str:=Classical.choose (qij (one.map (nmAt d)++other.map (nmAt d)))
theorem keysR_mem{d:Nat}{one other:List Row}{z:Str}:z∈qc3 d one other↔z∈one.map (nmAt d)\/z∈other.map (nmAt d):=by
 unfold qc3
 rw[(Classical.choose_spec (qij (one.map (nmAt d)++other.map (nmAt d)))).1 z,List.mem_append]
theorem qii(d:Nat)(one other:List Row):(qc3 d one other).Pairwise (λa b=>ltS a b=true):=(Classical.choose_spec (qij (one.map (nmAt d)++other.map (nmAt d)))).2
theorem qs6{d:Nat}{one other:List Row}{ws:List Str}(h:∀w,w∈ws↔w∈one.map (nmAt d)\/w∈other.map (nmAt d))(so:ws.Pairwise (λa b=>ltS a b=true)):ws=qc3 d one other :=
 qud so (qii d one other) λw=>by rw[h,keysR_mem]
def isF(rs:List Row):Bool:=match rs with
|[]=>false
|r::_=>decide (r.2.1=qag)
def qf1(a b:List Row):List Row:=if b.length<a.length then b else a
noncomputable def qdw:Nat->List Row->List Row->List Row
|0,_,_=>[]
|m+1,one,other=>if one=other then [] else match other with
 |[]=>[((one.headD ([],qaz,qaz)).1,qay,qaz)]
 |o::os=>if (isF one&&isF (o::os))=true then qf1 (o::(qc3 o.1.length one.tail os).flatMap λz=>qdw m (grp o.1.length z one.tail) (grp o.1.length z os)) ((o.1,qar,qaz)::os) else o::os
noncomputable def qb2(m d:Nat)(one other:List Row):List Row:=(qc3 d one other).flatMap λz=>qdw m (grp d z one) (grp d z other)
noncomputable def qd0(m:Nat)(one other:List Row):List Row:=if one=other then [] else qf1 (qb2 m 0 one other) (([],qar,qaz)::other)
structure Cl(b:List Str)(rs:List Row):Prop where
 so:qat rs
 un:∀r∈rs,b <+: r.1/\b.length<r.1.length
 cl:∀r∈rs,r.1.dropLast=b\/∃q∈rs,q.1=r.1.dropLast/\q.2.1=qag
 ki:∀r∈rs,(r.2.1=qb6\/r.2.1=qb7)\/(r.2.1=qag/\r.2.2=qaz)
structure HeapC(v:List Str)(mt:Str×Str)(tl:List Row):Prop where
 so:qat ((v,mt)::tl)
 ki:(mt.1=qb6\/mt.1=qb7)\/(mt.1=qag/\mt.2=qaz)
 cl:Cl v tl
 no:mt.1≠qag->tl=[]
def HeapOk(v:List Str)(rs:List Row):Prop:=rs=[]\/∃mt tl,rs=(v,mt)::tl/\HeapC v mt tl
theorem qvc{b w:List Str}(h:b <+: w)(hl:b.length<w.length):∃t,w=b++w.getD b.length ""::t:=by
 obtain⟨t,rfl⟩:=h
 cases t with
|nil=>simp at hl
|cons z t=>exact⟨t,by simp⟩
theorem pre_take{v w:List Str}(h:v <+: w):w.take v.length=v:=by
 obtain⟨t,rfl⟩:=h
 exact List.take_left
theorem Cl.up{b:List Str}{rs:List Row}(C:Cl b rs){r:Row}(hr:r∈rs):∀(n k:Nat),r.1.length-k=n->b.length<k->k<=r.1.length->∃q∈rs,q.1=r.1.take k/\(k<r.1.length->q.2.1=qag)
|0,k,e,h1,h2=>⟨r,hr,by rw[List.take_of_length_le (by lia)],λz=>by lia⟩
|n+1,k,e,h1,h2=>by
  obtain⟨q,mq,eq,_⟩:=C.up hr n (k+1) (by lia) (by lia) (by lia)
  have ed:q.1.dropLast=r.1.take k:=by
   rw[eq,List.dropLast_eq_take,List.length_take,List.take_take]
   congr 1
   lia
  rcases C.cl q mq with z|⟨p,mp,ep,fp⟩
  ·rw[ed] at z
   have:=congrArg List.length z
   rw[List.length_take] at this
   lia
  ·exact⟨p,mp,by rw[ep,ed],λ_=>fp⟩
theorem Cl.name{b:List Str}{rs:List Row}(C:Cl b rs){r:Row}(hr:r∈rs):∃t,r.1=b++nmAt b.length r::t:=qvc (C.un r hr).1 (C.un r hr).2
theorem qwe{b:List Str}{rs:List Row}(C:Cl b rs){z:Str}{r:Row}(hr:r∈rs):nmAt b.length r=z↔b++[z] <+: r.1:=by
 obtain⟨t,e⟩:=C.name hr
 constructor
 ·intro h
  rw[e,h]
  exact⟨t,by simp⟩
 ·rintro⟨t',e'⟩
  unfold nmAt
  rw[←e']
  simp
theorem qzr{rs:List Row}(so:qat rs){r q:Row}(hr:r∈rs)(hq:q∈rs)(e:r.1=q.1):r=q:=qnf (qak so) hr hq e
theorem Cl.grp{b:List Str}{rs:List Row}(C:Cl b rs)(z:Str):HeapOk (b++[z]) (L2.grp b.length z rs):=by
 have so:qat (L2.grp b.length z rs):=C.so.sublist List.filter_sublist
 cases hg:L2.grp b.length z rs with
|nil=>exact .inl rfl
|cons h tl =>
  rw[hg] at so
  have mem:∀r,r∈h::tl↔r∈rs/\b++[z] <+: r.1:=λr=>by
   rw[←hg,grp_mem]
   exact and_congr_right λhr=>qwe C hr
  have so':=List.pairwise_cons.mp so
  obtain⟨hh,hp⟩:=(mem h).mp List.mem_cons_self
  have lb:(b++[z]).length=b.length+1:=by simp
  obtain⟨q,mq,eq,fq⟩:=C.up hh _ (b.length+1) rfl (by lia) (by have:=hp.length_le;lia)
  have eq':q.1=b++[z]:=by rw[eq,←lb];exact pre_take hp
  have mq':q∈h::tl:=(mem q).mpr ⟨mq,by rw[eq'];exact List.prefix_refl _⟩
  have eh:h.1=b++[z]:=by
   rcases List.mem_cons.mp mq' with rfl|m
   ·exact eq'
   ·have h1:=so'.1 q m
    by_cases c:h.1=b++[z]
    ·exact c
    ·have hl:(b++[z]).length<h.1.length:=by
      rcases Nat.lt_or_ge (b++[z]).length h.1.length with y|y
      ·exact y
      ·exact absurd (hp.eq_of_length_le y).symm c
     have h2:=qlu hp hl
     rw[eq'] at h1
     rw[qgs h1] at h2
     cases h2
  have nh:∀r∈tl,b++[z] <+: r.1/\(b++[z]).length<r.1.length:=λr m=>by
   obtain⟨_,p⟩:=(mem r).mp (List.mem_cons_of_mem _ m)
   refine⟨p,?_⟩
   rcases Nat.lt_or_ge (b++[z]).length r.1.length with y|y
   ·exact y
   ·have e:b++[z]=r.1:=p.eq_of_length_le y
    have:=so'.1 r m
    rw[eh,e] at this
    exact absurd this (by rw[qgs this];decide)
  obtain⟨hw,mt⟩:=h
  cases eh
  refine .inr ⟨mt,tl,rfl,so,C.ki _ hh,⟨so'.2,nh,λr m=>?_,λr m=>C.ki r ((mem r).mp (List.mem_cons_of_mem _ m)).1⟩,λnf=>?_⟩
  ·have mr:=((mem r).mp (List.mem_cons_of_mem _ m)).1
   obtain⟨p1,p2⟩:=nh r m
   rcases C.cl r mr with e|⟨q,mq,eq,fq⟩
   ·have:=congrArg List.length e
    rw[List.length_dropLast] at this
    lia
   ·by_cases c:r.1.dropLast=b++[z]
    ·exact .inl c
    ·have pq:b++[z] <+: q.1:=by
      rw[eq,List.dropLast_eq_take]
      exact List.prefix_take_iff.mpr ⟨p1,by lia⟩
     rcases List.mem_cons.mp ((mem q).mpr ⟨mq,pq⟩) with e|m'
     ·exact absurd (by rw[←eq,e];rfl) c
     ·exact .inr ⟨q,m',eq,fq⟩
  ·cases tl with
  |nil=>rfl
  |cons r tl =>
    obtain⟨p1,p2⟩:=nh r List.mem_cons_self
    have mr:=((mem r).mp (List.mem_cons_of_mem _ List.mem_cons_self)).1
    obtain⟨q,mq,eq,fq⟩:=C.up mr _ (b.length+1) rfl (by lia) (by lia)
    have e:q.1=b++[z]:=by rw[eq,←lb];exact pre_take p1
    have:=qzr C.so mq hh e
    rw[this] at fq
    exact absurd (fq (by lia)) nf
end L2
namespace L2
open PySem
def LA(p t:List Row)(w:List Str):Option (Str×Str):=match rowAt p w with
|some x=>if x.1=qay then none else if x.1=qar then some (qag,qaz) else some x
|none=>if qbh p w=true then none else rowAt t w
def rwOk(r:Row):Prop:=(r.2.1=qb6\/r.2.1=qb7)\/((r.2.1=qag\/r.2.1=qar\/r.2.1=qay)/\r.2.2=qaz)
structure Drawn(b:List Str)(one other p:List Row):Prop where
 so:qat p
 un:∀r∈p,b <+: r.1/\b.length<r.1.length
 cl:∀r∈p,r.1.dropLast=b\/∃q∈p,q.1=r.1.dropLast/\FS q.2.1
 ki:∀r∈p,rwOk r
 nb:∀r∈p,(r.2.1=qay\/r.2.1=qar)->∀q∈p,q.1 <+: r.1->q.1≠r.1->q.2.1=qag
 at_:∀w,b <+: w->b.length<w.length->LA p one w=rowAt other w
structure HDrawn(v:List Str)(one other p:List Row):Prop where
 so:qat p
 un:∀r∈p,v <+: r.1
 cl:∀r∈p,r.1=v\/∃q∈p,q.1=r.1.dropLast/\FS q.2.1
 ki:∀r∈p,rwOk r
 nb:∀r∈p,(r.2.1=qay\/r.2.1=qar)->∀q∈p,q.1 <+: r.1->q.1≠r.1->q.2.1=qag
 at_:∀w,v <+: w->LA p one w=rowAt other w
theorem qg0{p q:List Row}{w:List Str}(h:∀r,r.1=w->(r∈p↔r∈q))(np:(p.map (·.1)).Nodup)(nq:(q.map (·.1)).Nodup):rowAt p w=rowAt q w :=
 qq8 λx=>by rw[qbb np,qbb nq];exact h (w,x) rfl
theorem qc8{p:List Row}{w:List Str}(h:∀r∈p,r.1≠w):rowAt p w=none:=rowAt_none.mpr λm=>by
 obtain⟨r,mr,e⟩:=List.mem_map.mp m
 exact h r mr e
theorem qsm{p q t u:List Row}{w:List Str}(h1:∀k,k<=w.length->rowAt p (w.take k)=rowAt q (w.take k))(h2:rowAt t w=rowAt u w):LA p t w=LA q u w:=by
 have e:qbh p w=qbh q w:=by
  unfold qbh
  refine qdc λk hk=>?_
  rw[qe8,qe8,h1 k (by have:=List.mem_range.mp hk;lia)]
 have e1:=h1 w.length (Nat.le_refl _)
 rw[List.take_length] at e1
 unfold LA
 rw[e1,e,h2]
theorem qlj{p:List Row}(nd:(p.map (·.1)).Nodup){w:List Str}:qbh p w=true↔∃q∈p,q.1 <+: w/\q.1.length<w.length/\q.2.1≠qag:=by
 unfold qbh
 rw[List.any_eq_true]
 constructor
 ·rintro⟨k,hk,h⟩
  have hk:=List.mem_range.mp hk
  rw[qe8] at h
  cases e:rowAt p (w.take k) with
 |none=>rw[e] at h;cases h
 |some x =>
   rw[e] at h
   have h:(!decide (x.1=qag))=true:=h
   refine⟨(w.take k,x),(qbb nd).mp e,List.take_prefix _ _,?_,by simpa using h⟩
   show (w.take k).length<w.length
   rw[List.length_take]
   lia
 ·rintro⟨q,mq,pq,lq,nq⟩
  refine⟨q.1.length,List.mem_range.mpr lq,?_⟩
  rw[qe8,pre_take pq,(qbb nd).mpr (show (q.1,q.2)∈p from mq)]
  show (!decide (q.2.1=qag))=true
  rw[decide_eq_false nq]
  rfl
theorem qe4{p t:List Row}(nd:(p.map (·.1)).Nodup){r:Row}(hr:r∈p):LA p t r.1=if r.2.1=qay then none else if r.2.1=qar then some (qag,qaz) else some r.2:=by
 unfold LA
 rw[(qbb nd).mpr (show (r.1,r.2)∈p from hr)]
theorem qhn{p t:List Row}(nd:(p.map (·.1)).Nodup){w:List Str}(nw:∀r∈p,r.1≠w)(h:∃q∈p,q.1 <+: w/\q.1.length<w.length/\q.2.1≠qag):LA p t w=none:=by
 unfold LA
 rw[qc8 nw]
 show (if qbh p w=true then none else rowAt t w)=none
 rw[if_pos ((qlj nd).mpr h)]
theorem qfk{p t:List Row}(nd:(p.map (·.1)).Nodup){w:List Str}(nw:∀r∈p,r.1≠w)(h:¬ ∃q∈p,q.1 <+: w/\q.1.length<w.length/\q.2.1≠qag):LA p t w=rowAt t w:=by
 unfold LA
 rw[qc8 nw]
 show (if qbh p w=true then none else rowAt t w)=_
 rw[if_neg λz=>h ((qlj nd).mp z)]
theorem qfb{p:List Row}(nd:(p.map (·.1)).Nodup){r:Row}(hr:r∈p):rowAt p r.1=some r.2:=(qbb nd).mpr (show (r.1,r.2)∈p from hr)
theorem qmr{v:List Str}{one:List Row}{mt:Str×Str}{tl:List Row}{hd:Str}(H:HeapC v mt tl)(hm:hd=mt.1\/(hd=qar/\mt.1=qag))(none1:∀w,v <+: w->(∀r∈(v,mt)::tl,r.1≠w)->(∃q∈(v,hd,mt.2)::tl,q.1 <+: w/\q.1.length<w.length/\q.2.1≠qag)\/rowAt one w=none):HDrawn v one ((v,mt)::tl) ((v,hd,mt.2)::tl):=by
 have so':=List.pairwise_cons.mp H.so
 have so:qat ((v,hd,mt.2)::tl):=List.pairwise_cons.mpr so'
 have nd:=qak so
 have nd0:=qak H.so
 have tn:∀r∈tl,r.2.1≠qay/\r.2.1≠qar:=λr m=>by
  obtain⟨n1,n2,n3,n4,n5,n6,n7,n8,n9,_⟩:=mne
  rcases H.cl.ki r m with (q|q)|⟨q,_⟩
  ·rw[q];exact⟨n8,n6⟩
  ·rw[q];exact⟨n9,n7⟩
  ·rw[q];exact⟨λz=>n2 z.symm,λz=>n1 z.symm⟩
 have hn:mt.1≠qay/\mt.1≠qar:=by
  obtain⟨n1,n2,n3,n4,n5,n6,n7,n8,n9,_⟩:=mne
  rcases H.ki with (q|q)|⟨q,_⟩
  ·rw[q];exact⟨n8,n6⟩
  ·rw[q];exact⟨n9,n7⟩
  ·rw[q];exact⟨λz=>n2 z.symm,λz=>n1 z.symm⟩
 have hf:tl≠[]->FS hd:=λz=>by
  have f:mt.1=qag:=by
   by_cases c:mt.1=qag
   ·exact c
   ·exact absurd (H.no c) z
  rcases hm with e|⟨e,_⟩
  ·exact .inl (e.trans f)
  ·exact .inr e
 refine⟨so,λr m=>?_,λr m=>?_,λr m=>?_,λr m hs q mq pq nq=>?_,λw pw=>?_⟩
 ·rcases List.mem_cons.mp m with e|m
  ·rw[e];exact List.prefix_refl _
  ·exact(H.cl.un r m).1
 ·rcases List.mem_cons.mp m with e|m
  ·exact .inl (by rw[e])
  ·rcases H.cl.cl r m with e|⟨q,mq,eq,fq⟩
   ·exact .inr ⟨_,List.mem_cons_self,e.symm,hf (by rintro rfl;cases m)⟩
   ·exact .inr ⟨q,List.mem_cons_of_mem _ mq,eq,.inl fq⟩
 ·rcases List.mem_cons.mp m with e|m
  ·rw[e]
   rcases hm with e|⟨e,f⟩
   ·rcases H.ki with q|⟨q,t⟩
    ·exact .inl (by rw[e];exact q)
    ·exact .inr ⟨.inl (e.trans q),t⟩
   ·refine .inr ⟨.inr (.inl e),?_⟩
    rcases H.ki with q|⟨q,t⟩
    ·rw[f] at q
     rcases q with q|q
     ·exact absurd q.symm mne.2.2.1
     ·exact absurd q.symm mne.2.2.2.1
    ·exact t
  ·rcases H.cl.ki r m with q|⟨q,t⟩
   ·exact .inl q
   ·exact .inr ⟨.inl q,t⟩
 ·rcases List.mem_cons.mp m with e|m
  ·rcases List.mem_cons.mp mq with e'|mq
   ·exact absurd (by rw[e,e']) nq
   ·have h1:=(H.cl.un q mq).2
    have h2:=pq.length_le
    rw[e] at h2
    have h2:q.1.length<=v.length:=h2
    lia
  ·exact absurd hs λz=>z.elim (tn r m).1 (tn r m).2
 ·by_cases c:∃r∈(v,mt)::tl,r.1=w
  ·obtain⟨r,mr,rfl⟩:=c
   rw[qfb nd0 mr]
   rcases List.mem_cons.mp mr with e|mr
   ·rw[e]
    have:=qe4 (t:=one) nd (r:=(v,hd,mt.2)) List.mem_cons_self
    refine this.trans ?_
    show (if hd=qay then none else if hd=qar then some (qag,qaz) else some (hd,mt.2))=some mt
    rcases hm with e|⟨e,f⟩
    ·rw[e,if_neg hn.1,if_neg hn.2]
    ·rw[e,if_neg λz=>mne.2.2.2.2.1 z.symm,if_pos rfl]
     rcases H.ki with q|⟨q,t⟩
     ·rw[f] at q
      rcases q with q|q
      ·exact absurd q.symm mne.2.2.1
      ·exact absurd q.symm mne.2.2.2.1
     ·rw[←q,←t]
   ·rw[qe4 nd (List.mem_cons_of_mem _ mr),if_neg (tn r mr).1,if_neg (tn r mr).2]
  ·have c':∀r∈(v,mt)::tl,r.1≠w:=λr m e=>c ⟨r,m,e⟩
   have c2:∀r∈(v,hd,mt.2)::tl,r.1≠w:=λr m e=>by
    rcases List.mem_cons.mp m with z|m
    ·exact c' _ List.mem_cons_self (by rw[z] at e;exact e)
    ·exact c' r (List.mem_cons_of_mem _ m) e
   rw[qc8 c']
   rcases none1 w pw c' with h|h
   ·exact qhn nd c2 h
   ·by_cases hh:∃q∈(v,hd,mt.2)::tl,q.1 <+: w/\q.1.length<w.length/\q.2.1≠qag
    ·exact qhn nd c2 hh
    ·rw[qfk nd c2 hh]
     exact h
end L2
namespace L2
open PySem
theorem qo8(t:List Row)(w:List Str):LA [] t w=rowAt t w:=by
 refine qfk (by simp) (λr m=>by cases m) ?_
 rintro⟨q,m,_⟩
 cases m
theorem qvy{v:List Str}{mt:Str×Str}{p one t:List Row}{x:Row}(nd:(((v,mt)::p).map (·.1)).Nodup)(hf:mt.1=qag)(nx:x.1=v)(e1:one=x::t){w:List Str}(hw:w≠v):LA ((v,mt)::p) one w=LA p t w:=by
 have nd':(p.map (·.1)).Nodup:=(List.nodup_cons.mp nd).2
 have er:rowAt one w=rowAt t w:=by
  rw[e1]
  unfold rowAt
  rw[List.find?_cons_of_neg (by simpa using λz:x.1=w=>hw (by rw[←z,nx]))]
 by_cases c:∃r∈p,r.1=w
 ·obtain⟨r,mr,rfl⟩:=c
  rw[qe4 nd (List.mem_cons_of_mem _ mr),qe4 nd' mr]
 ·have c':∀r∈p,r.1≠w:=λr m e=>c ⟨r,m,e⟩
  have c2:∀r∈(v,mt)::p,r.1≠w:=λr m e=>by
   rcases List.mem_cons.mp m with z|m
   ·rw[z] at e;exact hw e.symm
   ·exact c' r m e
  by_cases h:∃q∈p,q.1 <+: w/\q.1.length<w.length/\q.2.1≠qag
  ·rw[qhn nd' c' h]
   obtain⟨q,mq,z⟩:=h
   exact qhn nd c2 ⟨q,List.mem_cons_of_mem _ mq,z⟩
  ·rw[qfk nd' c' h,qfk nd c2 ?_,er]
   rintro⟨q,mq,z1,z2,z3⟩
   rcases List.mem_cons.mp mq with e|mq
   ·rw[e] at z3;exact z3 hf
   ·exact h ⟨q,mq,z1,z2,z3⟩
theorem isF_iff{v:List Str}{mt:Str×Str}{tl:List Row}:isF ((v,mt)::tl)=true↔mt.1=qag:=decide_eq_true_iff
theorem qnl{v w:List Str}(h:v <+: w)(ne:w≠v):v.length<w.length:=by
 rcases Nat.lt_or_ge v.length w.length with y|y
 ·exact y
 ·exact absurd (h.eq_of_length_le y).symm ne
theorem qmn{P:List Row->Prop}{a b:List Row}(ha:P a)(hb:P b):P (qf1 a b):=by
 unfold qf1
 split
 ·exact hb
 ·exact ha
theorem qqf{m:Nat}{v:List Str}{one other:List Row}(O:HeapOk v one)(P:HeapOk v other)(ih:∀mt1 t1 mt2 t2,one=(v,mt1)::t1->other=(v,mt2)::t2->Drawn v t1 t2 (qb2 m v.length t1 t2)):HDrawn v one other (qdw (m+1) one other):=by
 unfold qdw
 by_cases eo:one=other
 ·rw[if_pos eo,eo]
  refine⟨.nil,(λr z=>by cases z),(λr z=>by cases z),(λr z=>by cases z),(λr z=>by cases z),λw _=>qo8 _ w⟩
 ·rw[if_neg eo]
  rcases P with rfl|⟨mt,tl,rfl,H⟩
  ·rcases O with rfl|⟨mt,tl,rfl,H⟩
   ·exact absurd rfl eo
   ·dsimp only[List.headD_cons]
    have so:qat [((v,qay,qaz):Row)]:=List.pairwise_singleton _ _
    refine⟨so,λr z=>?_,λr z=>?_,λr z=>?_,λr z _ q mq _ nq=>?_,λw pw=>?_⟩
    ·rw[List.mem_singleton.mp z];exact List.prefix_refl _
    ·exact .inl (by rw[List.mem_singleton.mp z])
    ·rw[List.mem_singleton.mp z];exact .inr ⟨.inr (.inr rfl),rfl⟩
    ·exact absurd (by rw[List.mem_singleton.mp mq,List.mem_singleton.mp z]) nq
    ·by_cases e:w=v
     ·rw[e]
      exact(qe4 (qak so) (r:=(v,qay,qaz)) List.mem_cons_self).trans (if_pos rfl)
     ·exact qhn (qak so) (λr z=>by rw[List.mem_singleton.mp z];exact λq=>e q.symm) ⟨_,List.mem_cons_self,pw,qnl pw e,mne.2.1⟩
  ·dsimp only
   by_cases bf:(isF one&&isF ((v,mt)::tl))=true
   ·rw[if_pos bf]
    obtain⟨b1,b2⟩:=Bool.and_eq_true_iff.mp bf
    have f2:=isF_iff.mp b2
    rcases O with rfl|⟨mt1,t1,rfl,H1⟩
    ·cases b1
    have D:=ih mt1 t1 mt tl rfl rfl
    have te:mt.2=qaz:=by
     rcases H.ki with (q|q)|⟨_,q⟩
     ·rw[f2] at q;exact absurd q.symm mne.2.2.1
     ·rw[f2] at q;exact absurd q.symm mne.2.2.2.1
     ·exact q
    refine qmn ?_ ?_
    ·show HDrawn v ((v,mt1)::t1) ((v,mt)::tl) ((v,mt)::qb2 m v.length t1 tl)
     have so:qat ((v,mt)::qb2 m v.length t1 tl):=List.pairwise_cons.mpr ⟨λr mr=>qlu (D.un r mr).1 (D.un r mr).2,D.so⟩
     have nd:=qak so
     refine⟨so,λr z=>?_,λr z=>?_,λr z=>?_,λr z hs q mq pq nq=>?_,λw pw=>?_⟩
     ·rcases List.mem_cons.mp z with e|z
      ·rw[e];exact List.prefix_refl _
      ·exact(D.un r z).1
     ·rcases List.mem_cons.mp z with e|z
      ·exact .inl (by rw[e])
      ·rcases D.cl r z with e|⟨q,mq,h⟩
       ·exact .inr ⟨_,List.mem_cons_self,e.symm,.inl f2⟩
       ·exact .inr ⟨q,List.mem_cons_of_mem _ mq,h⟩
     ·rcases List.mem_cons.mp z with e|z
      ·rw[e];exact .inr ⟨.inl f2,te⟩
      ·exact D.ki r z
     ·rcases List.mem_cons.mp z with e|z
      ·rw[e] at hs
       have hs:mt.1=qay\/mt.1=qar:=hs
       rw[f2] at hs
       rcases hs with q|q
       ·exact absurd q.symm mne.2.1
       ·exact absurd q.symm mne.1
      ·rcases List.mem_cons.mp mq with e|mq
       ·rw[e];exact f2
       ·exact D.nb r z hs q mq pq nq
     ·by_cases e:w=v
      ·rw[e,qfb (qak H.so) (r:=(v,mt)) List.mem_cons_self]
       refine(qe4 nd (r:=(v,mt)) List.mem_cons_self).trans ?_
       show (if mt.1=qay then none else if mt.1=qar then some (qag,qaz) else some mt)=some mt
       rw[if_neg (by rw[f2];exact λz=>mne.2.1 z.symm),if_neg (by rw[f2];exact λz=>mne.1 z.symm)]
      ·rw[qvy nd f2 (x:=(v,mt1)) rfl rfl e,D.at_ w pw (qnl pw e)]
       unfold rowAt
       rw[List.find?_cons_of_neg (by simpa using λz:v=w=>e z.symm)]
    ·have:=qmr (one:=(v,mt1)::t1) (hd:=qar) H (.inr ⟨rfl,f2⟩) λw pw nw=>.inl ⟨_,List.mem_cons_self,pw,qnl pw λz=>nw _ List.mem_cons_self z.symm,mne.1⟩
     rw[te] at this
     exact this
   ·rw[if_neg bf]
    refine qmr (hd:=mt.1) H (.inl rfl) λw pw nw=>?_
    have wv:w≠v:=λz=>nw _ List.mem_cons_self z.symm
    by_cases f2:mt.1=qag
    ·refine .inr ?_
     rcases O with rfl|⟨mt1,t1,rfl,H1⟩
     ·rfl
     ·have nf:mt1.1≠qag:=λf1=>bf (Bool.and_eq_true_iff.mpr ⟨isF_iff.mpr f1,isF_iff.mpr f2⟩)
      rw[H1.no nf]
      exact qc8 λr z=>by rw[List.mem_singleton.mp z];exact λq=>wv q.symm
    ·exact .inl ⟨_,List.mem_cons_self,pw,qnl pw wv,f2⟩
theorem qiu{b w:List Str}{y:Str}(h:b++[y] <+: w):w.getD b.length "" = y:=by
 obtain⟨t,rfl⟩:=h
 simp
theorem qhy{b:List Str}{one other:List Row}(O:Cl b one)(P:Cl b other){f:Str->List Row}(h:∀z,HDrawn (b++[z]) (grp b.length z one) (grp b.length z other) (f z)):Drawn b one other ((qc3 b.length one other).flatMap f):=by
 have nm:∀z,∀r∈f z,r.1.getD b.length "" = z:=λz r m=>qiu ((h z).un r m)
 have so:qat ((qc3 b.length one other).flatMap f):=by
  show ((qc3 b.length one other).flatMap f).Pairwise _
  rw[List.pairwise_flatMap]
  refine⟨λz _=>(h z).so,(qii b.length one other).imp λ{y z} lt r mr s ms=>?_⟩
  obtain⟨t1,e1⟩:=(h y).un r mr
  obtain⟨t2,e2⟩:=(h z).un s ms
  rw[←e1,←e2,List.append_assoc,List.append_assoc]
  exact qu8 lt t1 t2 b
 have nd:=qak so
 have mem:∀ {r:Row},r∈(qc3 b.length one other).flatMap f->∃z∈qc3 b.length one other,r∈f z:=λm=>List.mem_flatMap.mp m
 refine⟨so,λr m=>?_,λr m=>?_,λr m=>?_,λr m hs q mq pq nq=>?_,λw pw lw=>?_⟩
 ·obtain⟨z,_,mr⟩:=mem m
  have p:=(h z).un r mr
  refine⟨(List.prefix_append b [z]).trans p,?_⟩
  have:=p.length_le
  rw[List.length_append] at this
  exact this
 ·obtain⟨z,mz,mr⟩:=mem m
  rcases (h z).cl r mr with e|⟨q,mq,e⟩
  ·exact .inl (by rw[e,List.dropLast_concat])
  ·exact .inr ⟨q,List.mem_flatMap.mpr ⟨z,mz,mq⟩,e⟩
 ·obtain⟨z,_,mr⟩:=mem m
  exact(h z).ki r mr
 ·obtain⟨z,_,mr⟩:=mem m
  obtain⟨y,_,mq'⟩:=mem mq
  have e1:=qiu (((h y).un q mq').trans pq)
  rw[nm z r mr] at e1
  subst e1
  exact(h z).nb r mr hs q mq' pq nq
 ·obtain⟨t,ew⟩:=qvc pw lw
  generalize hz:w.getD b.length "" = z at ew
  have gone:∀ {rs:List Row},Cl b rs->rowAt (grp b.length z rs) w=rowAt rs w:=λ{rs} C=>qg0 (λr e=>by
   rw[grp_mem]
   exact⟨λq=>q.1,λq=>⟨q,by unfold nmAt;rw[e];exact hz⟩⟩) (qak (C.so.sublist List.filter_sublist)) (qak C.so)
  by_cases mz:z∈qc3 b.length one other
  ·rw[←gone P,←(h z).at_ w (by rw[ew];exact⟨t,by simp⟩)]
   refine qsm (λk hk=>qg0 (λr e=>⟨λm=>?_,λm=>List.mem_flatMap.mpr ⟨z,mz,m⟩⟩) nd (qak (h z).so)) (gone O).symm
   obtain⟨y,_,mr⟩:=mem m
   have p:=(h y).un r mr
   rw[e] at p
   have:=qiu (p.trans (List.take_prefix _ _))
   rw[hz] at this
   rw[this]
   exact mr
  ·have no:∀ {rs:List Row},(∀r∈rs,nmAt b.length r≠z)->rowAt rs w=none:=λhr=>qc8 λr m e=>hr r m (by unfold nmAt;rw[e];exact hz)
   have n1:∀r∈one,nmAt b.length r≠z:=λr m e=>mz (keysR_mem.mpr (.inl (List.mem_map.mpr ⟨r,m,e⟩)))
   have n2:∀r∈other,nmAt b.length r≠z:=λr m e=>mz (keysR_mem.mpr (.inr (List.mem_map.mpr ⟨r,m,e⟩)))
   have np:∀r∈(qc3 b.length one other).flatMap f,¬ r.1 <+: w:=λr m p=>by
    obtain⟨y,my,mr⟩:=mem m
    have:=qiu (((h y).un r mr).trans p)
    rw[hz] at this
    exact mz (by rw[this];exact my)
   rw[qfk nd (λr m e=>np r m (by rw[e];exact List.prefix_refl _)) (λ⟨q,mq,pq,_⟩=>np q mq pq),no n1,no n2]
theorem qjw:∀(m:Nat) (b:List Str) (one other:List Row),Cl b one->Cl b other->(∀r∈one,r.1.length<=b.length+m)->(∀r∈other,r.1.length<=b.length+m)->Drawn b one other (qb2 m b.length one other)
|0,b,one,other,O,P,h1,h2=>by
  have e:∀ {rs:List Row},Cl b rs->(∀r∈rs,r.1.length<=b.length+0)->rs=[]:=λ{rs} C h=>by
   cases rs with
  |nil=>rfl
  |cons r rs =>
    have:=(C.un r List.mem_cons_self).2
    have:=h r List.mem_cons_self
    lia
  rw[e O h1,e P h2]
  exact qhy (f:=λz=>qdw 0 (grp b.length z []) (grp b.length z [])) ⟨.nil,(λr z=>by cases z),(λr z=>by cases z),(λr z=>by cases z)⟩ ⟨.nil,(λr z=>by cases z),(λr z=>by cases z),(λr z=>by cases z)⟩ λz=>⟨.nil,(λr z=>by cases z),(λr z=>by cases z),(λr z=>by cases z),(λr z=>by cases z),λw _=>qo8 _ w⟩
|m+1,b,one,other,O,P,h1,h2=>by
  refine qhy O P λz=>qqf (O.grp z) (P.grp z) λmt1 t1 mt2 t2 e1 e2=>?_
  have up:∀ {rs:List Row} {mt:Str×Str} {t:List Row},(∀r∈rs,r.1.length<=b.length+(m+1))->grp b.length z rs=(b++[z],mt)::t->∀r∈t,r.1.length<=(b++[z]).length+m:=λh e r mr=>by
   have:=h r (grp_mem.mp (by rw[e];exact List.mem_cons_of_mem _ mr)).1
   rw[List.length_append,List.length_singleton]
   lia
  have cl:∀ {rs:List Row} {mt:Str×Str} {t:List Row},Cl b rs->grp b.length z rs=(b++[z],mt)::t->Cl (b++[z]) t:=λC e=>by
   rcases C.grp z with q|⟨_,_,q,H⟩
   ·rw[q] at e;cases e
   ·rw[e] at q
    cases q
    exact H.cl
  exact qjw m (b++[z]) t1 t2 (cl O e1) (cl P e2) (up h1 e1) (up h2 e2)
theorem qqr{p t:List Row}(P:PaneOk p)(T:TreeOk t){w:List Str}(hw:w≠[]):rowAt (qd5 p t) w=LA p t w:=by
 obtain⟨T2,pm⟩:=qgn P T
 have ndp:=qak P.so
 have ndt:=qak T.so
 refine qq8 λx=>?_
 rw[qbb (qak T2.so),pm.mem_iff,List.mem_append]
 unfold LA
 constructor
 ·rintro (m|m)
  ·obtain⟨m1,m2⟩:=List.mem_filter.mp m
   rw[Bool.and_eq_true] at m2
   have np:w∉p.map (·.1):=λz=>by
    have:=m2.1
    unfold inR at this
    rw[decide_eq_true (show (w,x).1∈p.map (·.1) from z)] at this
    cases this
   have nh:qbh p w=false:=by simpa using m2.2
   rw[rowAt_none.mpr np]
   show (if qbh p w=true then none else rowAt t w)=some x
   rw[nh,if_neg Bool.false_ne_true]
   exact(qbb ndt).mpr m1
  ·unfold putR at m
   obtain⟨r,mr,e⟩:=List.mem_map.mp m
   obtain⟨mr1,mr2⟩:=List.mem_filter.mp mr
   rw[Bool.and_eq_true] at mr2
   have ng:r.2.1≠qay:=by simpa using mr2.2
   have e1:r.1=w:=by rw[←qfq r,e]
   have hr:rowAt p w=some r.2:=(qbb ndp).mpr (e1▸mr1)
   rw[hr]
   show (if r.2.1=qay then none else if r.2.1=qar then some (qag,qaz) else some r.2)=some x
   rw[if_neg ng]
   unfold qg7 at e
   by_cases s:r.2.1=qar
   ·rw[if_pos s] at e ⊢
    cases e
    rfl
   ·rw[if_neg s] at e ⊢
    rw[e]
 ·intro h
  cases hp:rowAt p w with
 |none =>
   rw[hp] at h
   have h':(if qbh p w=true then none else rowAt t w)=some x:=h
   by_cases hb:qbh p w=true
   ·rw[if_pos hb] at h';cases h'
   ·rw[if_neg hb] at h'
    refine .inl (List.mem_filter.mpr ⟨(qbb ndt).mp h',?_⟩)
    unfold inR
    rw[decide_eq_false (rowAt_none.mp hp),Bool.eq_false_iff.mpr hb]
    rfl
 |some y =>
   rw[hp] at h
   have h':(if y.1=qay then none else if y.1=qar then some (qag,qaz) else some y)=some x:=h
   by_cases g:y.1=qay
   ·rw[if_pos g] at h';cases h'
   ·rw[if_neg g] at h'
    refine .inr (List.mem_map.mpr ⟨(w,y),List.mem_filter.mpr ⟨(qbb ndp).mp hp,by simp[hw,g]⟩,?_⟩)
    unfold qg7
    by_cases s:y.1=qar
    ·rw[if_pos s] at h' ⊢
     cases h'
     rfl
    ·rw[if_neg s] at h' ⊢
     cases h'
     rfl
structure Shows(one other p:List Row):Prop where
 ok:PaneOk p
 ki:∀r∈p,rwOk r
 cl:∀r∈p,r.1=[]\/r.1.dropLast=[]\/∃q∈p,q.1=r.1.dropLast/\FS q.2.1
 nb:∀r∈p,(r.2.1=qay\/r.2.1=qar)->∀q∈p,q.1 <+: r.1->q.1≠r.1->q.2.1=qag
 eq:qd5 p one=other
theorem q05{r:Row}(h:rwOk r):(r.2.1=qb6\/r.2.1=qb7)\/(r.2.1=qag/\r.2.2=qaz)\/r.2.1=qar\/r.2.1=qay:=by
 rcases h with q|⟨q|q|q,t⟩
 ·exact .inl q
 ·exact .inr (.inl ⟨q,t⟩)
 ·exact .inr (.inr (.inl q))
 ·exact .inr (.inr (.inr q))
theorem qy9{m:Str}(h:FS m):m≠qay:=by
 rcases h with q|q
 ·rw[q];exact λz=>mne.2.1 z.symm
 ·rw[q];exact λz=>mne.2.2.2.2.1 z.symm
theorem Cl.tree{rs:List Row}(C:Cl [] rs):TreeOk rs:=⟨C.so,λr m=>⟨λe=>by have:=(C.un r m).2;rw[e] at this;simp at this,by
 rcases C.cl r m with e|⟨q,mq,eq,_⟩
 ·exact .inl e
 ·exact .inr (List.mem_map.mpr ⟨q,mq,eq⟩)⟩⟩
theorem qi1{one other p:List Row}(O:Cl [] one)(P:Cl [] other)(ok:PaneOk p)(h:∀w,w≠[]->LA p one w=rowAt other w):qd5 p one=other:=by
 have T:=O.tree
 obtain⟨T2,_⟩:=qgn ok T
 refine ql6 T2.so P.so λw=>?_
 by_cases e:w=[]
 ·rw[e,qc8 λr m=>(T2.cl r m).1,qc8 λr m=>(P.tree.cl r m).1]
 ·rw[qqr ok T e,h w e]
theorem qoa{m:Nat}{one other:List Row}(O:Cl [] one)(P:Cl [] other)(h1:∀r∈one,r.1.length<=m)(h2:∀r∈other,r.1.length<=m):Shows one other (qd0 m one other):=by
 unfold qd0
 by_cases e:one=other
 ·rw[if_pos e]
  have ok:PaneOk []:=⟨.nil,(λr z=>by cases z),(λr z=>by cases z),(λr z=>by cases z)⟩
  exact⟨ok,(λr z=>by cases z),(λr z=>by cases z),(λr z=>by cases z),qi1 O P ok λw _=>by rw[qo8,e]⟩
 ·rw[if_neg e]
  refine qmn ?_ ?_
  ·have D:=qjw m [] one other O P (λr z=>by have:=h1 r z;simpa using this) (λr z=>by have:=h2 r z;simpa using this)
   have D:Drawn [] one other (qb2 m 0 one other):=D
   have ok:PaneOk (qb2 m 0 one other):=⟨D.so,λr z=>(D.cl r z).elim (λq=>.inr (.inl q)) λ⟨q,mq,eq,f⟩=>.inr (.inr ⟨q,mq,eq,qy9 f⟩),λr z=>q05 (D.ki r z),λr z q=>by
    have:=(D.un r z).2
    rw[q] at this
    simp at this⟩
   exact⟨ok,D.ki,λr z=>.inr (D.cl r z),D.nb,qi1 O P ok λw hw=>D.at_ w List.nil_prefix (by have:=List.length_pos_iff.mpr hw;simpa using this)⟩
  ·have so:qat (([],qar,qaz)::other):=List.pairwise_cons.mpr ⟨λr z=>qlu List.nil_prefix (P.un r z).2,P.so⟩
   have nd:=qak so
   have tn:∀r∈other,r.2.1≠qay/\r.2.1≠qar:=λr z=>by
    obtain⟨n1,n2,n3,n4,n5,n6,n7,n8,n9,_⟩:=mne
    rcases P.ki r z with (q|q)|⟨q,_⟩
    ·rw[q];exact⟨n8,n6⟩
    ·rw[q];exact⟨n9,n7⟩
    ·rw[q];exact⟨λz=>n2 z.symm,λz=>n1 z.symm⟩
   have ki:∀r∈(([],qar,qaz)::other:List Row),rwOk r:=λr z=>by
    rcases List.mem_cons.mp z with q|z
    ·rw[q];exact .inr ⟨.inr (.inl rfl),rfl⟩
    ·rcases P.ki r z with q|⟨q,t⟩
     ·exact .inl q
     ·exact .inr ⟨.inl q,t⟩
   have cl:∀r∈(([],qar,qaz)::other:List Row),r.1=[]\/r.1.dropLast=[]\/∃q∈(([],qar,qaz)::other:List Row),q.1=r.1.dropLast/\FS q.2.1:=λr z=>by
    rcases List.mem_cons.mp z with q|z
    ·exact .inl (by rw[q])
    ·rcases P.cl r z with q|⟨q,mq,eq,f⟩
     ·exact .inr (.inl q)
     ·exact .inr (.inr ⟨q,List.mem_cons_of_mem _ mq,eq,.inl f⟩)
   have ok:PaneOk (([],qar,qaz)::other):=⟨so,λr z=>(cl r z).imp id λq=>q.imp id λ⟨q,mq,eq,f⟩=>⟨q,mq,eq,qy9 f⟩,λr z=>q05 (ki r z),λr z q=>by
    rcases List.mem_cons.mp z with w|z
    ·rw[w]
    ·have:=(P.un r z).2
     rw[q] at this
     simp at this⟩
   refine⟨ok,ki,cl,λr z hs q mq pq nq=>?_,qi1 O P ok λw hw=>?_⟩
   ·rcases List.mem_cons.mp z with e|z
    ·rw[e] at pq nq
     exact absurd (List.prefix_nil.mp pq) nq
    ·exact absurd hs λy=>y.elim (tn r z).1 (tn r z).2
   ·by_cases c:∃r∈other,r.1=w
    ·obtain⟨r,mr,rfl⟩:=c
     rw[qe4 nd (List.mem_cons_of_mem _ mr),if_neg (tn r mr).1,if_neg (tn r mr).2,qfb (qak P.so) mr]
    ·have c':∀r∈other,r.1≠w:=λr z e=>c ⟨r,z,e⟩
     rw[qc8 c']
     exact qhn nd (λr z e=>by
      rcases List.mem_cons.mp z with q|z
      ·rw[q] at e;exact hw e.symm
      ·exact c' r z e) ⟨_,List.mem_cons_self,List.nil_prefix,List.length_pos_iff.mpr hw,mne.1⟩
end L2
namespace L2
open PySem PySem.Spec PyProof.Rows
def qg8(K:PySem.W.Frag):Sp:=λvs H Q _=>∃a b B ds es,vs=[.ref a,.ref b]/\a≠b/\Same B H/\B a=none/\B b=none/\OwnAt K B H (.lst ds) a/\OwnAt K B H (.lst es) b /\
 ∀B' H',Stp B H B' H'->B' (if es.length<ds.length then b else a)=none->Q (.ref (if es.length<ds.length then b else a)) H'
theorem ql9{K:PySem.W.Frag}:∀vs H Q E,qg8 K vs H Q E->vs.length=2:=by
 rintro vs H Q E ⟨a,b,B,ds,es,rfl,_⟩
 rfl
section
variable {X:Cx} {EX:St->XK} {c:Expr} {tt:TVT} {x y:Str} {p1 p2 p3 q:Pos}
theorem qn6{vs:List V}{H:Hp}{Q:VK}{E:XK}(hc:VT X EX c tt)(hx:X.N[0]?=some x)(hy:X.N[1]?=some y)(hN:X.N.length=2)(htt:∀(ds es:List D) (Y:Bool->Prop),Y (decide (es.length<ds.length))->tt [some (.val (.lst ds)),some (.val (.lst es))] Y)(h:qg8 X.K vs H Q E)
  (hv:Vis X.env.scope x:=by first|exact Or.inl rfl|exact Or.inr (Or.inl rfl)|exact Or.inr (Or.inr rfl)) (hv2:Vis X.env.scope y:=by first|exact Or.inl rfl|exact Or.inr (Or.inl rfl)|exact Or.inr (Or.inr rfl))
  (hd:(x==("__debug__" : Str))=false:=by decide) (hcd:(x==("__classdict__" : Str))=false:=by decide) (hd2:(y==("__debug__" : Str))=false:=by decide) (hcd2:(y==("__classdict__" : Str))=false:=by decide) :
  ∃t,QSs X [.Return (some (.IfExp c (.Name y p1) (.Name x p2) p3)) q] t/\t { nx:=λ_ H'=>Q .non H',rt:=Q } (start X.N vs) H:=by
 obtain⟨tc,c1,c2⟩:=hc.u
 obtain⟨a,b,B,ds,es,rfl,ab,sB,ha,hb,oa,ob,k⟩:=h
 refine⟨_,qix (qkk (qnn c1 (qv 1 hy hv2 hd2 hcd2) (qv 0 hx hv hd hcd))),?_⟩
 have e0:start X.N [V.ref a,V.ref b]=[some (.ref a),some (.ref b)]:=by unfold start;rw[hN];rfl
 rw[e0]
 obtain⟨xs,xa,ra⟩:=oa
 obtain⟨ys,yb,rb⟩:=ob
 let B1:Hp:=λz=>if z=a then H a else if z=b then H b else B z
 have s1:Same B B1:=λz o e=>by
  show (if z=a then H a else if z=b then H b else B z)=some o
  rw[if_neg (λw=>by rw[w,ha] at e;cases e),if_neg (λw=>by rw[w,hb] at e;cases e)]
  exact e
 have s2:Same B1 H:=λz o e=>by
  have e:(if z=a then H a else if z=b then H b else B z)=some o:=e
  split at e
  ·rename_i w;rw[w];exact e
  ·split at e
   ·rename_i w;rw[w];exact e
   ·exact sB _ _ e
 have r1:Rep X.K B1 (.lst ds) (.ref a):=by
  unfold Rep
  exact⟨a,xs,rfl,by show (if a=a then H a else _)=_;rw[if_pos rfl];exact xa,ra.same s1⟩
 have r2:Rep X.K B1 (.lst es) (.ref b):=by
  unfold Rep
  exact⟨b,ys,rfl,by show (if b=a then H a else if b=b then H b else B b)=_;rw[if_neg (Ne.symm ab),if_pos rfl];exact yb,rb.same s1⟩
 have S:Slots X.K H B1 H [some (.val (.lst ds)),some (.val (.lst es))] [some (.ref a),some (.ref b)]:=by
  have z0:Slots X.K H B1 H [] []:=⟨rfl,λi d e=>by simp at e,λi d e=>by simp at e,λi d e=>by simp at e,λi j d e a q=>by simp at q⟩
  exact(z0.consV r2).consV r1
 refine c2 H B1 H _ _ _ _ s2 S (htt ds es _ rfl) λbb B2 H2 st e=>?_
 let B3:Hp:=λz=>if z=a\/z=b then none else B2 z
 have st3:Stp B H B3 H2:=by
  refine⟨λz o e=>?_,st.h,λz o e=>?_,λz e=>?_⟩
  ·show (if z=a\/z=b then none else B2 z)=some o
   rw[if_neg λw=>by
    rcases w with w|w
    ·rw[w,ha] at e;cases e
    ·rw[w,hb] at e;cases e]
   exact st.b _ _ (s1 _ _ e)
  ·have e:(if z=a\/z=b then none else B2 z)=some o:=e
   split at e
   ·cases e
   ·exact st.s _ _ e
  ·have e:(if z=a\/z=b then none else B2 z)≠none:=e
   split at e
   ·exact absurd rfl e
   ·rename_i nw
    rcases st.d z e with w|w
    ·refine .inl ?_
     have w:(if z=a then H a else if z=b then H b else B z)≠none:=w
     rw[if_neg λy=>nw (.inl y),if_neg λy=>nw (.inr y)] at w
     exact w
    ·exact .inr w
 have b3:∀z,z=a\/z=b->B3 z=none:=λz w=>if_pos w
 subst e
 by_cases l:es.length<ds.length
 ·have:=k B3 H2 st3 (b3 _ (by rw[if_pos l];exact .inr rfl))
  rw[if_pos l] at this
  rw[decide_eq_true l]
  exact⟨.ref b,rfl,this⟩
 ·have:=k B3 H2 st3 (b3 _ (by rw[if_neg l];exact .inl rfl))
  rw[if_neg l] at this
  rw[decide_eq_false l]
  exact⟨.ref a,rfl,this⟩
def qfh(t1 t2:TV):TVS:=λDv τ=>t1 τ λr1=>match r1 with
|.own (.lst ds)=>t2 τ λr2=>match r2 with
 |.own (.lst es)=>Dv.rt (.own (.lst (if es.length<ds.length then es else ds)))
 |_=>False
|_=>False
theorem qmg{k:Nat}{ps:List Str}{f:Str}{e1 e2:Expr}{t1 t2:TV}{p pos:Pos}(C:Cal X.prog X.w X.K X.mg X.base k f ps (qg8 X.K))(hr:Room k X.A)(hg:Gl X f)(h1:VE X EX e1 t1)(h2:VE X EX e2 t2)(hp:[e1,e2].all qa2=true:=by rfl)(hp1:qa2 e1=true:=by rfl)(hp2:qa2 e2=true:=by rfl)(hdb:(f==("__debug__" : Str))=false:=by decide) :
  VS X EX (.Return (some (.Call (.Name f p) [e1,e2] [] pos)) q) (qfh t1 t2) :=
 let ⟨_,a1,a2⟩:=h1.u;let ⟨_,b1,b2⟩:=h2.u;⟨_,qkk (qnm C hr hg (qac a1 (qac b1 qd9 hp2) hp1) hp hdb),λB0 H0 B H τ σ Dv Dh p S h E=>a2 H0 B H τ σ _ _ p.s S h (xno λ_ z=>z) λr1 v1 B1 H1 q1 hr1 h=>by
  split at h
  ·rename_i ds
   refine b2 H0 B1 H1 τ σ _ _ q1.s (S.step q1) h (xno λ_ z=>z) λr2 v2 B2 H2 q2 hr2 h=>?_
   split at h
   ·rename_i es
    obtain⟨a,rfl,a0,ab,oa⟩:=hr1
    obtain⟨b,rfl,b0,bb,ob⟩:=hr2
    have oa2:=oa.step q2.b (q2.h.at oa.some)
    have ab2:=q2.keep ab oa.some oa.nt
    have ne:a≠b:=λz=>oa.some (by rw[z];exact b0)
    have pp:=(p.trans q1).trans q2
    refine⟨a,b,B2,ds,es,rfl,ne,q2.s,ab2,bb,oa2,ob,λB' H' st hn=>?_⟩
    have a00:=p.h.free a0
    have b00:=(p.trans q1).h.free b0
    refine E.rt (.own (.lst (if es.length<ds.length then es else ds))) _ B' H' (pp.trans st) ?_ h
    by_cases l:es.length<ds.length
    ·rw[if_pos l] at hn ⊢
     rw[if_pos l]
     exact⟨b,rfl,b00,hn,ob.step st.b (st.h.at ob.some)⟩
    ·rw[if_neg l] at hn ⊢
     rw[if_neg l]
     exact⟨a,rfl,a00,hn,oa2.step st.b (st.h.at oa2.some)⟩
   ·exact h.elim
  ·exact h.elim⟩
end
end L2
namespace L2
open PySem
def qd4(d:Nat):D->Str
|.tup (.tup ws::_)=>match ws[d]? with
 |some (.str z)=>z
 |_=>""
|_=>""
theorem qqp(d:Nat)(r:Row):qd4 d (rowD r)=nmAt d r:=by
 show (match (r.1.map D.str)[d]? with
 |some (.str z)=>z
 |  _=>"")=r.1.getD d ""
 rw[List.getElem?_map,List.getD_eq_getElem?_getD]
 cases r.1[d]?<;>rfl
def hpD(d:Nat)(rs:List Row):D:=qj0 (qd4 d) (rs.map rowD)
def hpK(d:Nat)(rs:List Row):List Str:=(qcn (qd4 d) (rs.map rowD)).map (·.1)
def hpV(d:Nat)(rs:List Row):List D:=(qcn (qd4 d) (rs.map rowD)).map λp=>.lst p.2
theorem qm1(d:Nat)(rs:List Row):hpD d rs=.dK (hpK d rs) (hpV d rs):=rfl
theorem qih(d:Nat)(z:Str)(a b:List Row):grp d z (a++b)=grp d z a++grp d z b:=List.filter_append ..
theorem qqi(d:Nat)(rs:List Row):∀i,i<=rs.length->((qcn (qd4 d) ((rs.map rowD).take i)).map (·.1)).Nodup/\(∀z,z∈(qcn (qd4 d) ((rs.map rowD).take i)).map (·.1)↔z∈(rs.take i).map (nmAt d))/\∀p∈qcn (qd4 d) ((rs.map rowD).take i),p.2=(grp d p.1 (rs.take i)).map rowD
|0,_=>⟨List.nodup_nil,λz=>Iff.rfl,λp m=>by cases m⟩
|i+1,h=>by
  obtain⟨a,b,c⟩:=qqi d rs i (by lia)
  have hl:i<(rs.map rowD).length:=by rw[List.length_map];lia
  rw[qdg (qd4 d) (rs.map rowD) hl,List.getElem_map,qqp]
  generalize qcn (qd4 d) ((rs.map rowD).take i)=hp at a b c
  have et:rs.take (i+1)=rs.take i++[rs[i]]:=by rw[List.take_succ,List.getElem?_eq_getElem (by lia)];rfl
  rw[et]
  generalize rs.take i=ts at b c
  generalize rs[i]=r
  have g1:∀z,grp d z [r]=if nmAt d r=z then [r] else []:=λz=>by
   unfold grp
   by_cases e:nmAt d r=z
   ·rw[List.filter_cons_of_pos (by simpa using e),if_pos e]
    rfl
   ·rw[List.filter_cons_of_neg (by simpa using e),if_neg e]
    rfl
  unfold putH
  by_cases m:nmAt d r∈hp.map (·.1)
  ·rw[if_pos m]
   have ek:(hp.map (λp=>if p.1=nmAt d r then (p.1,p.2++[rowD r]) else p)).map (·.1)=hp.map (·.1):=by
    rw[List.map_map]
    refine List.map_congr_left λp _=>?_
    show (if p.1=nmAt d r then (p.1,p.2++[rowD r]) else p).1=p.1
    split<;>rfl
   rw[ek]
   refine⟨a,λz=>?_,λp mp=>?_⟩
   ·rw[b,List.map_append,List.mem_append]
    exact⟨.inl,λq=>q.elim id λq=>by rw[List.mem_singleton.mp q];exact(b _).mp m⟩
   ·obtain⟨q,mq,rfl⟩:=List.mem_map.mp mp
    by_cases e:q.1=nmAt d r
    ·rw[if_pos e]
     show q.2++[rowD r]=(grp d q.1 (ts++[r])).map rowD
     rw[c q mq,qih,g1,if_pos e.symm,List.map_append]
     rfl
    ·rw[if_neg e,c q mq,qih,g1,if_neg λz=>e z.symm,List.append_nil]
  ·rw[if_neg m]
   refine⟨?_,λz=>?_,λp mp=>?_⟩
   ·rw[List.map_append]
    exact List.nodup_append.mpr ⟨a,by simp,λx mx y my e=>m (by rw[←(show y=nmAt d r from List.mem_singleton.mp my),←e];exact mx)⟩
   ·rw[List.map_append,List.mem_append,b,List.map_append,List.mem_append]
    rfl
   ·rcases List.mem_append.mp mp with q|q
    ·have ne:¬ nmAt d r=p.1:=λz=>m (by rw[z];exact List.mem_map_of_mem q)
     rw[c p q,qih,g1,if_neg ne,List.append_nil]
    ·rw[List.mem_singleton.mp q]
     show [rowD r]=(grp d (nmAt d r) (ts++[r])).map rowD
     have g0:grp d (nmAt d r) ts=[]:=by
      unfold grp
      rw[List.filter_eq_nil_iff]
      intro x mx e
      exact m ((b _).mpr (List.mem_map.mpr ⟨x,mx,of_decide_eq_true e⟩))
     rw[qih,g1,if_pos rfl,g0]
     rfl
theorem hpK_mem{d:Nat}{rs:List Row}{z:Str}:z∈hpK d rs↔z∈rs.map (nmAt d):=by
 have:=(qqi d rs rs.length (Nat.le_refl _)).2.1 z
 rw[List.take_of_length_le (by rw[List.length_map];exact Nat.le_refl _),List.take_length] at this
 exact this
theorem qqh(d:Nat)(rs:List Row):(hpK d rs).length<=rs.length:=by
 have:=qgj (qd4 d) (rs.map rowD) rs.length (by rw[List.length_map];exact Nat.le_refl _)
 rw[List.take_of_length_le (by rw[List.length_map];exact Nat.le_refl _)] at this
 unfold hpK
 rw[List.length_map]
 exact this
theorem qu6{z:Str}:∀ {hp:List (Str×List D)},(hp.map (·.1)).Nodup->∀p∈hp,p.1=z->lkK (hp.map (·.1)) (hp.map λp=>D.lst p.2) z=some (.lst p.2)
|q::hp,nd,p,m,e=>by
  rw[List.map_cons] at nd
  have nd':=List.nodup_cons.mp nd
  show (if q.1=z then some (D.lst q.2) else lkK (hp.map (·.1)) (hp.map λp=>D.lst p.2) z)=_
  rcases List.mem_cons.mp m with rfl|m
  ·rw[if_pos e]
  ·rw[if_neg λc=>nd'.1 (by rw[c,←e];exact List.mem_map_of_mem m)]
   exact qu6 nd'.2 p m e
theorem qm5{z:Str}:∀ {hp:List (Str×List D)},z∉hp.map (·.1)->lkK (hp.map (·.1)) (hp.map λp=>D.lst p.2) z=none
|[],_=>rfl
|q::hp,h=>by
  rw[List.map_cons] at h
  show (if q.1=z then some (D.lst q.2) else lkK (hp.map (·.1)) (hp.map λp=>D.lst p.2) z)=_
  rw[if_neg λc=>h (by rw[c];exact List.mem_cons_self)]
  exact qm5 λm=>h (List.mem_cons_of_mem _ m)
theorem qwf(d:Nat)(rs:List Row)(z:Str):(lkK (hpK d rs) (hpV d rs) z=some (qae (grp d z rs)))\/(lkK (hpK d rs) (hpV d rs) z=none/\grp d z rs=[]):=by
 obtain⟨a,b,c⟩:=qqi d rs rs.length (Nat.le_refl _)
 rw[List.take_of_length_le (by rw[List.length_map];exact Nat.le_refl _)] at a b c
 rw[List.take_length] at c
 by_cases m:z∈hpK d rs
 ·obtain⟨p,mp,e⟩:=List.mem_map.mp m
  refine .inl ?_
  rw[show lkK (hpK d rs) (hpV d rs) z=some (.lst p.2) from qu6 a p mp e,c p mp,e]
  rfl
 ·refine .inr ⟨qm5 m,?_⟩
  unfold grp
  rw[List.filter_eq_nil_iff]
  intro x mx e
  exact m (hpK_mem.mpr (List.mem_map.mpr ⟨x,mx,of_decide_eq_true e⟩))
theorem qjt(m:Nat)(one other:List Row):(qdw m one other).length<=one.length+other.length:=by
 cases m with
|zero=>exact Nat.zero_le _
|succ m =>
  unfold qdw
  split
  ·exact Nat.zero_le _
  ·rename_i ne
   cases other with
  |nil =>
    cases one with
   |nil=>exact absurd rfl ne
   |cons r one=>show 1<=(r::one).length+0;rw[List.length_cons];lia
  |cons o os =>
    dsimp only
    split
    ·unfold qf1
     split
     ·rw[List.length_cons,List.length_cons];lia
     ·rename_i l
      rw[List.length_cons] at l ⊢
      rw[List.length_cons] at l
      rw[List.length_cons]
      lia
    ·lia
theorem qj3(d:Nat)(one other:List Row):(qc3 d one other).length<=one.length+other.length:=by
 have nd:(qc3 d one other).Nodup:=by
  rw[List.nodup_iff_pairwise_ne]
  exact(qii d one other).imp λ{x y} q e=>by
   rw[e] at q
   exact absurd q (by rw[qnb q];decide)
 have:=List.Nodup.length_le_of_subset nd (λz mz=>List.mem_append.mpr (keysR_mem.mp mz))
 rw[List.length_append,List.length_map,List.length_map] at this
 exact this
theorem qn9(m d:Nat){one other:List Row}(h:one.length+other.length<=60):(qb2 m d one other).length<=3600:=by
 have all:∀ks:List Str,(ks.flatMap λz=>qdw m (grp d z one) (grp d z other)).length<=60*ks.length:=λks=>by
  induction ks with
 |nil=>exact Nat.zero_le _
 |cons z ks ih =>
   have g1:(grp d z one).length<=one.length:=List.length_filter_le ..
   have g2:(grp d z other).length<=other.length:=List.length_filter_le ..
   have:=qjt m (grp d z one) (grp d z other)
   rw[List.flatMap_cons,List.length_append,List.length_cons]
   lia
 have:=all (qc3 d one other)
 have:=qj3 d one other
 unfold qb2
 lia
theorem qhr:∀(m:Nat) (one other:List Row),∀r∈qdw m one other,r.1∈one.map (·.1)\/r.1∈other.map (·.1)
|0,_,_,r,h=>by cases h
|m+1,one,other,r,h=>by
  unfold qdw at h
  split at h
  ·cases h
  ·rename_i ne
   cases other with
  |nil =>
    cases one with
   |nil=>exact absurd rfl ne
   |cons x one =>
     rw[List.mem_singleton.mp h]
     exact .inl List.mem_cons_self
  |cons o os =>
    dsimp only at h
    have copy:∀ {q:Row},q∈o::os->q.1∈one.map (·.1)\/q.1∈(o::os).map (·.1):=λm=>.inr (List.mem_map_of_mem m)
    split at h
    ·unfold qf1 at h
     split at h
     ·rcases List.mem_cons.mp h with e|h
      ·rw[e];exact .inr List.mem_cons_self
      ·exact copy (List.mem_cons_of_mem _ h)
     ·rcases List.mem_cons.mp h with e|h
      ·rw[e];exact copy List.mem_cons_self
      ·obtain⟨z,_,hz⟩:=List.mem_flatMap.mp h
       have sub:∀ {rs:List Row} {w:List Str},w∈(grp o.1.length z rs).map (·.1)->w∈rs.map (·.1):=λq=>by
        obtain⟨x,mx,e⟩:=List.mem_map.mp q
        exact List.mem_map.mpr ⟨x,(grp_mem.mp mx).1,e⟩
       rcases qhr m _ _ r hz with q|q
       ·refine .inl ?_
        obtain⟨x,mx,e⟩:=List.mem_map.mp (sub q)
        exact List.mem_map.mpr ⟨x,List.mem_of_mem_tail mx,e⟩
       ·exact .inr (List.mem_cons_of_mem _ (sub q))
    ·exact copy h
theorem qp0{m:Nat}{one other:List Row}{r:Row}(h:r∈qd0 m one other):r.1=[]\/r.1∈one.map (·.1)\/r.1∈other.map (·.1):=by
 unfold qd0 at h
 split at h
 ·cases h
 ·unfold qf1 at h
  split at h
  ·rcases List.mem_cons.mp h with e|h
   ·exact .inl (by rw[e])
   ·exact .inr (.inr (List.mem_map_of_mem h))
  ·obtain⟨z,_,hz⟩:=List.mem_flatMap.mp h
   have sub:∀ {rs:List Row} {w:List Str},w∈(grp 0 z rs).map (·.1)->w∈rs.map (·.1):=λq=>by
    obtain⟨x,mx,e⟩:=List.mem_map.mp q
    exact List.mem_map.mpr ⟨x,(grp_mem.mp mx).1,e⟩
   exact .inr ((qhr m _ _ r hz).imp sub sub)
theorem qmv(m:Nat)(one other:List Row):(qd0 m one other).length<=other.length+1:=by
 unfold qd0
 split
 ·exact Nat.zero_le _
 ·unfold qf1
  split
  ·exact Nat.le_refl _
  ·rename_i l
   rw[List.length_cons] at l
   lia
end L2
namespace L2
open PySem
theorem qwo{p t:List Row}(P:PaneOk p)(fs:∀r∈p,r.1=[]\/r.1.dropLast=[]\/∃q∈p,q.1=r.1.dropLast/\FS q.2.1)(T:Cl [] t):Cl [] (qd5 p t):=by
 obtain⟨T2,pm⟩:=qgn P T.tree
 have ndp:=qak P.so
 have ndl:=qak T2.so
 obtain⟨n1,n2,n3,n4,n5,n6,n7,n8,n9,_⟩:=mne
 have up:∀ {v:List Str} {x:Str×Str},v≠[]->LA p t v=some x->x.1=qag->∃q∈qd5 p t,q.1=v/\q.2.1=qag:=λ{v x} hv e f=>⟨(v,x),(qbb ndl).mp (by rw[qqr P T.tree hv,e]),rfl,f⟩
 refine⟨T2.so,λr m=>⟨List.nil_prefix,List.length_pos_iff.mpr (T2.cl r m).1⟩,λr m=>?_,λr m=>?_⟩
 ·rcases List.mem_append.mp (pm.mem_iff.mp m) with m|m
  ·obtain⟨mt,h⟩:=List.mem_filter.mp m
   rw[Bool.and_eq_true] at h
   have nh:qbh p r.1=false:=by simpa using h.2
   have r0:=(T.tree.cl r mt).1
   by_cases e:r.1.dropLast=[]
   ·exact .inl e
   ·have lt:r.1.dropLast.length<r.1.length:=by
     rw[List.length_dropLast]
     have:=List.length_pos_iff.mpr r0
     lia
    have pre:r.1.dropLast <+: r.1:=List.dropLast_prefix _
    have nohid:¬ ∃q∈p,q.1 <+: r.1/\q.1.length<r.1.length/\q.2.1≠qag:=λz=>by
     rw[(qlj ndp).mpr z] at nh
     cases nh
    by_cases c:∃q∈p,q.1=r.1.dropLast
    ·obtain⟨q,mq,eq⟩:=c
     have f:q.2.1=qag:=by
      by_cases f:q.2.1=qag
      ·exact f
      ·exact absurd ⟨q,mq,by rw[eq];exact pre,by rw[eq];exact lt,f⟩ nohid
     refine .inr (up e ?_ f)
     rw[←eq,qe4 ndp mq,f,if_neg λz=>n2 z.symm,if_neg λz=>n1 z.symm]
    ·rcases T.cl r mt with z|⟨q,mq,eq,f⟩
     ·exact absurd z e
     ·refine .inr (up (x:=q.2) e ?_ f)
      rw[qfk ndp (λx mx z=>c ⟨x,mx,z⟩) λ⟨x,mx,a,b,d⟩=>nohid ⟨x,mx,a.trans pre,by lia,d⟩,←eq,qfb (qak T.so) mq]
  ·unfold putR at m
   obtain⟨r0,m0,rfl⟩:=List.mem_map.mp m
   obtain⟨mp,h⟩:=List.mem_filter.mp m0
   rw[qfq]
   rcases fs r0 mp with z|z|⟨q,mq,eq,f⟩
   ·rw[Bool.and_eq_true] at h
    have:=h.1
    rw[decide_eq_true z] at this
    cases this
   ·exact .inl z
   ·by_cases e:r0.1.dropLast=[]
    ·exact .inl e
    ·refine .inr (up (x:=(qag,if q.2.1=qar then qaz else q.2.2)) e ?_ rfl)
     rw[←eq,qe4 ndp mq]
     rcases f with f|f
     ·rw[f,if_neg λz=>n2 z.symm,if_neg λz=>n1 z.symm,if_neg λz=>n1 z.symm,←f]
     ·rw[f,if_neg λz=>n5 z.symm,if_pos rfl,if_pos rfl]
 ·rcases List.mem_append.mp (pm.mem_iff.mp m) with m|m
  ·exact T.ki r (List.mem_filter.mp m).1
  ·unfold putR at m
   obtain⟨r0,m0,rfl⟩:=List.mem_map.mp m
   obtain⟨mp,h⟩:=List.mem_filter.mp m0
   rw[Bool.and_eq_true] at h
   have ng:r0.2.1≠qay:=by simpa using h.2
   unfold qg7
   by_cases s:r0.2.1=qar
   ·rw[if_pos s]
    exact .inr ⟨rfl,rfl⟩
   ·rw[if_neg s]
    rcases P.mr r0 mp with q|q|q|q
    ·exact .inl q
    ·exact .inr q
    ·exact absurd q s
    ·exact absurd q ng
end L2
set_option maxHeartbeats 4000000
namespace K21
open PySem L2
local macro_rules|`(tactic| simp! only[$xs,*])=>`(tactic| simp only[qfh,qnv,qkw,qkv,qi6,vIfS,vBl,vOp,vLt,vLe,vGt,vGe,vI2',vI2,vVar,vF1,vLen,qha,qhb,qvt,vStr,vRet,qrz,q1m,vIxR,qbc,vC,vAdd,vSub,vMul,vDiv,vMod,vPow,vEq,vNe,qdh,vSlR,qca,qc4,vNeg,q1j,qan,qad,vNil,vTup,vLst,vSet,qfu,qft,ownL,vFor,qhk,q1n,qc9,qks,qfg,isTy,qda,qez,vOrT,q1l,qme,vOrE,vIfE,vAsg,qbu,q1o,qvv,q1p,vFrz,frz,q1k,vAll,qui,vIsN,qbg,dV,scal,qvk,qvj,qrj,qvi,qre,qrd,qu0,quz,qqd,quy,qp8,qp7,qmw,qp6,qqc,qqb,qmx,qqa,quw,qjy,qux,qp9,qq2,qne,qvs,vTry,VEnds.calm,VEnds.wiped,qkt,vDIn,qku,qf0,qg9,ownT,qe0,qo1,qt5,qo2,tupR,vLtD,qo3,vStR,vNeD,vIn,strsOf,qh2,Option.map_some,List.map_cons,List.map_nil,List.length_cons,List.length_nil,List.cons_append,List.nil_append,List.getElem?_cons_zero,List.getElem?_cons_succ,List.set_cons_zero,List.set_cons_succ,List.replicate_succ,List.replicate_zero,Nat.reduceSub,Nat.reduceAdd,if_true,if_false,ite_true,ite_false,Bool.not_true,Bool.not_false,decide_true,decide_false,eq_int,eq_str,qv5,qpq,qv8,qwa,true_and,and_true,Nat.zero_le,List.take_succ_cons,List.take_zero,reduceIte,Bool.false_eq_true,eq_self,List.length_map,V.int.injEq,V.str.injEq,CDiv,Int.reduceLT,Int.zero_add,and_self,List.cons.injEq,D.scr.injEq,D.int.injEq,D.str.injEq,D.tup.injEq,D.lst.injEq,D.bl.injEq,and_assoc,exists_and_left,exists_eq_left,exists_eq_left',qgt,qlv,qt8,qt7,qsx,qv4,qmt,Int.reduceLE,Int.le_refl,qug,qp1,qv2,qsp,Option.some.injEq,$xs,*])
local macro_rules|`(tactic| dsimp! only[$xs,*])=>`(tactic| ((try dsimp only[qfh,qnv,qkw,qkv,qi6,vIfS,vBl,vOp,vLt,vLe,vGt,vGe,vI2',vI2,vVar,vF1,vLen,qha,qhb,qvt,vStr,vRet,qrz,q1m,vIxR,qbc,vC,vAdd,vSub,vMul,vDiv,vMod,vPow,vEq,vNe,qdh,vSlR,qca,qc4,vNeg,q1j,qan,qad,vNil,vTup,vLst,vSet,qfu,qft,ownL,vFor,qhk,q1n,qc9,qks,qfg,isTy,qda,qez,vOrT,q1l,qme,vOrE,vIfE,vAsg,qbu,q1o,qvv,q1p,vFrz,frz,q1k,vAll,qui,vIsN,qbg,dV,scal,qvk,qvj,qrj,qvi,qre,qrd,qu0,quz,qqd,quy,qp8,qp7,qmw,qp6,qqc,qqb,qmx,qqa,quw,qjy,qux,qp9,qq2,qne,qvs,vTry,VEnds.calm,VEnds.wiped,qkt,vDIn,qku,qf0,qg9,ownT,qe0,qo1,qt5,qo2,tupR,vLtD,qo3,vStR,vNeD,vIn,strsOf,Option.map_some,List.map_cons,List.map_nil,List.length_cons,List.length_nil,List.cons_append,List.nil_append,List.getElem?_cons_zero,List.getElem?_cons_succ,List.set_cons_zero,List.set_cons_succ,List.take_succ_cons,List.take_zero,CDiv,$xs,*]);(try simp! only[$xs,*])))
local macro_rules | `(tactic| rfl')=>`(tactic| dsimp! only [true_and])
local macro_rules | `(tactic| ac_rfl)=>`(tactic| simp! only [true_and])
def NS:Str:="abcdefghijklmnopqrstuvwxyz0123456789"
def qsr(ns:List Int)(k:Int):Int:=(ns[k.toNat]?).getD 0
def qcj:DP:=λds Q=>∃ns k,ds=[.scr ns,.int k]/\0<=k/\Q (.val (.int (qsr ns k)))
theorem qlm:∀ds Q,qcj ds Q->ds.length=2:=by rintro ds Q ⟨_,_,rfl,_⟩;rfl
def qaq:DP:=λds Q=>∃c t m,ds=[.int c,.int t,.int m]/\0<=t/\0<m/\∀i,0<=i->i<m->(t=0->i=(c%10 ^ 18+1)*48271%99991%m)->Q (.val (.int i))
theorem qqv:∀ds Q,qaq ds Q->ds.length=3:=by rintro ds Q ⟨_,_,_,rfl,_⟩;rfl
def qbe:DP:=λds Q=>∃c v,ds=[.int c,.int v]/\0<=c/\c<10 ^ 19/\0<=v/\∀z:Str,1<=z.length->z.length<=12->Q (.val (.str z))
theorem qlp:∀ds Q,qbe ds Q->ds.length=2:=by rintro ds Q ⟨_,_,rfl,_⟩;rfl
abbrev En(Q:R->Prop):VEnds:={ nx:=λ_=>Q (.val .non),rt:=Q }
def qcu:DP:=λds Q=>∃c,ds=[.int c]/\∀t:Str,Q (.val (.str t))
theorem qj8:∀ds Q,qcu ds Q->ds.length=1:=by rintro ds Q ⟨_,rfl,_⟩;rfl
def PS94:Str:=(" !\"#$&'()*+,-./0123456789:;<=>?@ABCDEFGHIJKLMNOPQRSTUVWXYZ[\\]^_`" : Str)++("abcdefghijklmnopqrstuvwxyz{|}~" : Str)
theorem q0d:PS94.length=94:=by decide +kernel
theorem qke:∀ {es:List D},(∀e∈es,∃c∈PS94.cps.toList,e=.str ⟨#[c]⟩)->∃ls:List Nat,es=(ls.map λc=>(⟨#[c]⟩:Str)).map D.str/\(∀c∈ls,c∈PS94.cps.toList)/\ls.length=es.length
|[],_=>⟨[],rfl,λc m=>(by cases m),rfl⟩
|e::es,h=>by
  obtain⟨ls,h1,h2,h3⟩:=qke λx m=>h x (List.mem_cons_of_mem e m)
  obtain⟨c,mc,ec⟩:=h e (List.mem_cons_self ..)
  exact⟨c::ls,by rw[List.map_cons,List.map_cons,←h1,ec],λx m=>(List.mem_cons.mp m).elim (λq=>q▸mc) (h2 x),by rw[List.length_cons,List.length_cons,h3]⟩
theorem qnj:∀ls:List Nat,((ls.map λc=>(⟨#[c]⟩:Str)).map (·.length)).sum=ls.length
|[]=>rfl
|c::ls=>by
  rw[List.map_cons,List.map_cons,List.sum_cons,qnj ls,List.length_cons]
  show 1+ls.length=_
  omega
def qbz:DP:=λds Q=>∃m c s v,ds=[.str m,.int c,.int s,.int v]/\0<=s/\s<10 ^ 19/\0<v/\∀z:Str,(m≠qb6->m≠qb7->z=qaz)->Q (.val (.str z))
theorem qlr:∀ds Q,qbz ds Q->ds.length=4:=by rintro ds Q ⟨_,_,_,_,rfl,_⟩;rfl
def qbw:DP:=λds Q=>∃rs w,ds=[qap (rs.map prR),wayD w]/\("" : Str)∉w/\w.length<=1000/\Q (.val (.bl (qer rs w)))
def PFS(p:List Row):Prop:=∀r∈p,r.1=[]\/r.1.dropLast=[]\/∃q∈p,q.1=r.1.dropLast/\FS q.2.1
theorem qza{p:List Row}{w:List Str}(h:qbh p w=false):qer p w=false:=by
 unfold qbh at h
 unfold qer
 rw[List.any_eq_false] at h ⊢
 intro k hk q
 have e:=of_decide_eq_true q
 have:=h k hk
 rw[e] at this
 exact this (by decide +kernel)
structure SPn(n:Nat)(p:List Row):Prop where
 ok:PaneOk p
 fs:PFS p
 nm:∀r∈p,Wy14 r.1
 ns:∀r∈p,r.2.1=qar->qer p r.1=false
 len:p.length<=n
def TrK(rs:List Row):Prop:=∀r∈rs,r.1≠[]/\((r.2.1=qb6\/r.2.1=qb7)\/(r.2.1=qag/\r.2.2=qaz))
theorem qym{i:Nat}{p rs:List Row}{fs:List (List Str)}(P:PInv i rs fs)(K:TrK rs)(hp:p.Perm rs)(so:qat p):Cl [] p:=by
 refine⟨so,λr m=>⟨List.nil_prefix,List.length_pos_iff.mpr (K r (hp.mem_iff.mp m)).1⟩,λr m=>?_,λr m=>(K r (hp.mem_iff.mp m)).2⟩
 have mr:=hp.mem_iff.mp m
 rcases P.row r mr with q|⟨_,_,f,_⟩
 ·exact absurd q.1 (K r mr).1
 ·rcases f.2 with e|⟨q,mq,e,fq⟩
  ·exact .inl e
  ·refine .inr ⟨q,hp.mem_iff.mpr mq,e,?_⟩
   rcases fq with z|z
   ·exact z
   ·obtain⟨n1,n2,n3,n4,n5,n6,n7,n8,n9,_⟩:=mne
    rcases (K q mq).2 with (y|y)|⟨y,_⟩
    ·rw[y] at z;exact absurd z n6
    ·rw[y] at z;exact absurd z n7
    ·exact y
def qdf:DP:=λds Q=>∃(cs:List Int) (s:Int),ds=[.lst (cs.map D.int),.int s]/\cs.length<=60/\0<=s/\s<10 ^ 19/\∀p,SPn (cs.length+1) p->Q (.own (qae p))
def qcy:DP:=λds Q=>∃(cs:List Int) (s:Int),ds=[.lst (cs.map D.int),.int s]/\cs.length<=60/\0<=s/\s<10 ^ 19/\∀p,Cl [] p->p.length<=cs.length+1->(∀r∈p,Wy14 r.1)->Q (.own (qae p))
theorem qhj:∀ds Q,qbw ds Q->ds.length=2:=by rintro ds Q ⟨_,_,rfl,_⟩;rfl
theorem qlq:∀ds Q,qdf ds Q->ds.length=2:=by rintro ds Q ⟨_,_,rfl,_⟩;rfl
theorem qls:∀ds Q,qcy ds Q->ds.length=2:=by rintro ds Q ⟨_,_,rfl,_⟩;rfl
def NmOk(rs:List Row):Prop:=∀r∈rs,WyOk r.1
def qfz:DP:=λds Q=>∃p tr:List Row,ds=[qae p,qae tr]/\PaneOk p/\NmOk p/\p.length<=250/\TreeOk tr/\NmOk tr/\tr.length+bulk p<=63/\(TreeOk (qd5 p tr)->NmOk (qd5 p tr)->(qd5 p tr).length<=tr.length+bulk p->Q (.own (qae (qd5 p tr))))
theorem qtc:∀ds Q,qfz ds Q->ds.length=2:=by rintro ds Q ⟨_,_,rfl,_⟩;rfl
def g_same:DP:=λds Q=>∃rs:List Row,ds=[qae rs,qae rs]/\rs.length<=1000/\Q (.val (.bl true))
theorem qtd:∀ds Q,g_same ds Q->ds.length=2:=by rintro ds Q ⟨_,rfl,_⟩;rfl
theorem qe1{t:TVT}{a u:TVS}{Dv:VEnds}{τ:VSt}(P:Bool->Prop)(ht:∀Y:Bool->Prop,(∀c,P c->Y c)->t τ Y)(ha:P true->a { nx:=u Dv,rt:=Dv.rt,bk:=Dv.bk,ct:=Dv.ct,xc:=Dv.xc,ro:=Dv.ro,rn:=Dv.rn } τ)(hb:P false->u Dv τ):vSeq (vIfS t a qbc) u Dv τ:=qhl (v_if P ht ha hb)
structure GoodP(p:List Row):Prop where
 ok:PaneOk p
 ki:∀r∈p,rwOk r
 cl:∀r∈p,r.1=[]\/r.1.dropLast=[]\/∃q∈p,q.1=r.1.dropLast/\FS q.2.1
 nb:∀r∈p,(r.2.1=qay\/r.2.1=qar)->∀q∈p,q.1 <+: r.1->q.1≠r.1->q.2.1=qag
 nm:NmOk p
 len:p.length<=100
theorem qso{p:List Row}(so:qat p){k:Nat}{r q:Row}(hr:p[k]?=some r)(hq:q∈p)(h:ltW q.1 r.1=true):q∈p.take k:=by
 obtain⟨j,hj,ej⟩:=List.mem_iff_getElem.mp hq
 obtain⟨hk,ek⟩:=List.getElem?_eq_some_iff.mp hr
 rcases Nat.lt_or_ge j k with l|l
 ·rw[←ej]
  exact List.mem_iff_getElem.mpr ⟨j,by rw[List.length_take];omega,by rw[List.getElem_take]⟩
 ·exfalso
  rcases Nat.lt_or_ge k j with l2|l2
  ·have:=List.pairwise_iff_getElem.mp so k j hk hj l2
   rw[ek,ej] at this
   rw[qgs this] at h
   cases h
  ·have:j=k:=by omega
   subst this
   rw[←ej,ek] at h
   exact absurd h (by rw[qgs h];decide)
theorem qoj{p:List Row}(so:qat p){k:Nat}{q:Row}(hq:q∈p.take k):qbn (p.take k) q.1=some q.2.1:=qd7 (qak (so.sublist (List.take_sublist ..))) hq
def qcs:DP:=λds Q=>∃(p:List Row) (k:Nat) (r:Row),ds=[qap ((p.take k).map prM),rowD r]/\p[k]?=some r/\GoodP p/\Q (.val (.bl true))
def qb5:DP:=λds Q=>∃p:List Row,ds=[qae p]/\GoodP p/\Q (.val (.bl true))
theorem qj7:∀ds Q,qcs ds Q->ds.length=2:=by rintro ds Q ⟨_,_,_,rfl,_⟩;rfl
theorem qik:∀ds Q,qb5 ds Q->ds.length=1:=by rintro ds Q ⟨_,rfl,_⟩;rfl
def qbl:DP:=λds Q=>∃(rs:List Row) (d:Nat),ds=[qae rs,.int d]/\(∀r∈rs,d<r.1.length)/\rs.length<=1000/\Q (.val (hpD d rs))
def qde:DP:=λds Q=>∃(d:Nat) (one other:List Row),ds=[hpD d one,hpD d other]/\one.length+other.length<=60/\Q (.own (.lst ((qc3 d one other).map D.str)))
def qbv:DP:=λds Q=>∃rs:List Row,ds=[qae rs]/\Q (.val (.bl (isF rs)))
def qcx:DP:=λds Q=>∃a b:List Row,ds=[qae a,qae b]/\Q (.val (qae (qf1 a b)))
def qba(m:Nat):DP:=λds Q=>∃(v:List Str) (one other:List Row),ds=[qae one,qae other]/\0<m/\HeapOk v one/\HeapOk v other/\one.length+other.length<=60/\(∀r∈one,r.1.length<v.length+m)/\(∀r∈other,r.1.length<v.length+m)/\Q (.own (qae (qdw m one other)))/\Q (.val (qae (qdw m one other)))
def qa1(m:Nat):DP:=λds Q=>∃(b:List Str) (one other:List Row),ds=[qae one,qae other,.int b.length]/\Cl b one/\Cl b other/\one.length+other.length<=60/\(∀r∈one,r.1.length<=b.length+m)/\(∀r∈other,r.1.length<=b.length+m)/\Q (.own (qae (qb2 m b.length one other)))
theorem qhi:∀ds Q,qbl ds Q->ds.length=2:=by rintro ds Q ⟨_,_,rfl,_⟩;rfl
theorem qlo:∀ds Q,qde ds Q->ds.length=2:=by rintro ds Q ⟨_,_,_,rfl,_⟩;rfl
theorem qil:∀ds Q,qbv ds Q->ds.length=1:=by rintro ds Q ⟨_,rfl,_⟩;rfl
theorem qln:∀ds Q,qcx ds Q->ds.length=2:=by rintro ds Q ⟨_,_,rfl,_⟩;rfl
theorem qhh(m:Nat):∀ds Q,qba m ds Q->ds.length=2:=by rintro ds Q ⟨_,_,_,rfl,_⟩;rfl
theorem qgp(m:Nat):∀ds Q,qa1 m ds Q->ds.length=3:=by rintro ds Q ⟨_,_,_,rfl,_⟩;rfl
theorem qin:∀ds Q,¬ qba 0 ds Q:=by
 rintro ds Q ⟨_,_,_,_,h,_⟩
 exact absurd h (by decide)
theorem qlk(ds es:List D)(Y:Bool->Prop)(y:Y (decide (es.length<ds.length))):(vBl (vOp vLt (vF1 vLen (vVar 1)) (vF1 vLen (vVar 0)))) [some (.val (.lst ds)),some (.val (.lst es))] Y:=by
 rfl'
 rw[show decide ((es.length:Int)<ds.length)=decide (es.length<ds.length) from decide_eq_decide.mpr Int.ofNat_lt]
 exact y
structure TreeC(t:List Row):Prop where
 cl:Cl [] t
 nm:NmOk t
def qd2:DP:=λds Q=>∃one other:List Row,ds=[qae one,qae other]/\Cl [] one/\Cl [] other/\(one=other\/one.length+other.length<=60)/\(∀r∈one,r.1.length<=20)/\(∀r∈other,r.1.length<=20)/\Q (.own (qae (qd0 20 one other)))
def qli:DP:=λds Q=>∃one other:List Row,ds=[qae one,qae other]/\TreeC one/\TreeC other/\one.length+other.length<=55/\Q (.val (.bl true))
def qlh:DP:=λds Q=>∃ns,ds=[.scr ns]/\Q (.val (.bl true))
theorem qtb:∀ds Q,qd2 ds Q->ds.length=2:=by rintro ds Q ⟨_,_,rfl,_⟩;rfl
theorem qwr:∀ds Q,qli ds Q->ds.length=2:=by rintro ds Q ⟨_,_,rfl,_⟩;rfl
theorem qwq:∀ds Q,qlh ds Q->ds.length=1:=by rintro ds Q ⟨_,rfl,_⟩;rfl
theorem qum:WyOk []:=⟨Nat.zero_le _,λz m=>by cases m⟩
theorem TreeC.good{one other:List Row}(A:TreeC one)(B:TreeC other)(hl:one.length+other.length<=55):GoodP (qd0 20 one other)/\qd5 (qd0 20 one other) one=other:=by
 have S:=qoa (m:=20) A.cl B.cl (λr m=>(A.nm r m).1) (λr m=>(B.nm r m).1)
 refine⟨⟨S.ok,S.ki,S.cl,S.nb,λr m=>?_,?_⟩,S.eq⟩
 ·rcases qp0 m with e|e|e
  ·rw[e];exact qum
  ·obtain⟨q,mq,eq⟩:=List.mem_map.mp e
   rw[←eq];exact A.nm q mq
  ·obtain⟨q,mq,eq⟩:=List.mem_map.mp e
   rw[←eq];exact B.nm q mq
 ·have:=qmv 20 one other
  omega
theorem qpo(p:List Row):bulk p<=p.length:=List.length_filter_le ..
theorem qnr(ns:List Int)(a:Nat)(ha:a=2\/a=3):(qdr ns (some (a:Int)) (some ((a+32:Nat):Int)) (some 2)).length<=16:=by
 unfold qdr
 refine Nat.le_trans (List.length_filterMap_le _ _) ?_
 unfold sliceRange sliceBounds
 simp only[List.length_map,List.length_range,Option.getD_some,show (2:Int)>0 from by decide,if_true,show ¬ ((a:Int)<0) from by omega,show ¬ (((a+32:Nat):Int)<0) from by omega,if_false]
 split<;>omega
def qf6:TVS:=(vSeq (vIfS (vBl (vOp vLt (vVar 1) (vF1 vLen (vVar 0))))
  (vRet (vOp vIxR (vVar 0) (vVar 1)))
  qbc)
 (vRet (vC (.int 0))))
abbrev qo9:List Str:=["_law_script","_law_k"]
theorem qsc:∀ds Q,qcj ds Q->qf6 (En Q) (qbg qo9 ds):=by
 rintro ds Q ⟨ns,k,rfl,h0,h⟩
 simp! only[vSeq,qf6]
 split
 ·rename_i c
  obtain⟨v,hv,hv2⟩:=qdu (xs:=ns) h0 (of_decide_eq_true c)
  unfold qsr at h
  rw[hv2] at h
  exact⟨v,hv,h⟩
 ·rename_i c
  have hn:ns[k.toNat]?=none:=List.getElem?_eq_none (by have:=of_decide_eq_false (Bool.eq_false_iff.mpr c);omega)
  unfold qsr at h
  rw[hn] at h
  exact h
def qpm:TVS:=(vSeq (vSet 3 (vTup (qad (vC (.int 48271)) (qad (vC (.int 69621)) (qad (vC (.int 16807)) (qad (vC (.int 39373)) (qad (vC (.int 21401)) (qad (vC (.int 60493)) (qad (vC (.int 87721)) (qad (vC (.int 31337)) vNil))))))))))
 (vSeq (vSet 4 (vTup (qad (vC (.int 99991)) (qad (vC (.int 99989)) (qad (vC (.int 99971)) (qad (vC (.int 99961)) (qad (vC (.int 99929)) (qad (vC (.int 99923)) (qad (vC (.int 99907)) (qad (vC (.int 99901)) vNil))))))))))
 (vRet (vOp vMod (vOp vMod (vOp vMul (vOp vAdd (vOp vMod (vVar 0) (vOp vPow (vC (.int 10)) (vC (.int 18)))) (vC (.int 1))) (vOp vIxR (vVar 3) (vOp vMod (vVar 1) (vC (.int 8))))) (vOp vIxR (vVar 4) (vOp vMod (vVar 1) (vC (.int 8))))) (vVar 2)))))
abbrev qvz:List Str:=["_law_cell","_law_turn","_law_many","_law_by","_law_prime"]
def mxA:List Int:=[48271,69621,16807,39373,21401,60493,87721,31337]
def mxB:List Int:=[99991,99989,99971,99961,99929,99923,99907,99901]
theorem qyq:∀ds Q,qaq ds Q->qpm (En Q) (qbg qvz ds):=by
 rintro ds Q ⟨c,t,m,rfl,h0,hm,h⟩
 refine v_cut (λτ=>τ=[some (.val (.int c)),some (.val (.int t)),some (.val (.int m)),some (.val (.tup (mxA.map D.int))),none]) ?_ λnx hnx=>?now
 case now =>
  rfl'
  exact⟨by decide,hnx _ rfl⟩
 rintro τ rfl
 refine v_cut (λτ=>τ=[some (.val (.int c)),some (.val (.int t)),some (.val (.int m)),some (.val (.tup (mxA.map D.int))),some (.val (.tup (mxB.map D.int)))]) ?_ λnx hnx=>?now
 case now =>
  rfl'
  exact⟨by decide,hnx _ rfl⟩
 rintro τ rfl
 have q0:=Int.emod_nonneg t (show (8:Int)≠0 by decide)
 have q1:=Int.emod_lt_of_pos t (show (0:Int)<8 by decide)
 obtain⟨a,ha,ha2⟩:=qdu (xs:=mxA) (k:=t%8) q0 q1
 obtain⟨b,hb,hb2⟩:=qdu (xs:=mxB) (k:=t%8) q0 q1
 have ba:∀x∈mxA,0<=x/\x<100000:=by decide
 have bb:∀x∈mxB,0<x:=by decide
 have a1:=ba a (List.mem_of_getElem? ha2)
 have b1:=bb b (List.mem_of_getElem? hb2)
 have hA:∀Y:R->Prop,Y (.val (.int (c%10 ^ Int.toNat 18+1)))->vOp vAdd (vOp vMod (vVar 0) (vOp vPow (vC (.int 10)) (vC (.int 18)))) (vC (.int 1)) [some (.val (.int c)),some (.val (.int t)),some (.val (.int m)),some (.val (.tup (mxA.map D.int))),some (.val (.tup (mxB.map D.int)))] Y:=λY y=>by
  rfl'
  exact⟨⟨by decide,by decide,by decide⟩,by decide,y⟩
 have hB:∀Y:R->Prop,Y (.val (.int a))->vOp vIxR (vVar 3) (vOp vMod (vVar 1) (vC (.int 8))) [some (.val (.int c)),some (.val (.int t)),some (.val (.int m)),some (.val (.tup (mxA.map D.int))),some (.val (.tup (mxB.map D.int)))] Y:=λY y=>by
  rfl'
  exact⟨.int a,by rw[qcv,ha];rfl,y⟩
 have hC:∀Y:R->Prop,Y (.val (.int b))->vOp vIxR (vVar 4) (vOp vMod (vVar 1) (vC (.int 8))) [some (.val (.int c)),some (.val (.int t)),some (.val (.int m)),some (.val (.tup (mxA.map D.int))),some (.val (.tup (mxB.map D.int)))] Y:=λY y=>by
  rfl'
  exact⟨.int b,by rw[qcv,hb];rfl,y⟩
 exact hA _ (hB _ ⟨.inr ⟨by omega,by omega⟩,hC _ ⟨b1,hm,h _ (Int.emod_nonneg _ (by omega)) (Int.emod_lt_of_pos _ hm) λe=>by
  subst e
  have e1:a=48271:=by simpa [mxA] using ha2.symm
  have e2:b=99991:=by simpa [mxB] using hb2.symm
  rw[e1,e2,show Int.toNat 18=18 from rfl]⟩⟩)
def qji:TVS:=(vSeq (vSet 2 (vC (.str ("abcdefghijklmnopqrstuvwxyz0123456789" : Str))))
 (vSeq (vSet 3 (vOp vAdd (vC (.int 1)) (vOp vMod (vVar 0) (vC (.int 12)))))
 (vSeq (vSet 4 (vOp vMod (vOp vDiv (vVar 0) (vC (.int 12))) (vVar 3)))
 (vSeq (vSet 5 (vC (.str ("" : Str))))
 (vSeq (vFor (qhk (vVar 3)) (qbu 6)
  (vSeq (vSet 7 (vOp vAdd (vOp vDiv (vVar 0) (vC (.int 5184))) (vOp vMul (vVar 6) (vOp vMod (vOp vDiv (vVar 0) (vC (.int 144))) (vC (.int 36))))))
 (vSeq (vIfS (vBl (vOp vEq (vVar 6) (vVar 4)))
  (vSet 7 (vOp vAdd (vVar 7) (vVar 1)))
  qbc)
 (vSet 5 (vOp vAdd (vVar 5) (vOp vIxR (vVar 2) (vOp vMod (vVar 7) (vC (.int 36)))))))))
 (vSeq (vIfS (qez (vBl (vOp vEq (vOp vMod (vOp vDiv (vVar 0) (vC (.int 3))) (vC (.int 2))) (vC (.int 1)))) (vBl (vOp vEq (vOp vMod (vVar 1) (vC (.int 5))) (vC (.int 4)))))
  (vSet 5 (qdh (vVar 5) qca (qc4 (vOp vAdd (vC (.int 1)) (vOp vMod (vVar 1) (vVar 3))))))
  qbc)
 (vRet (vVar 5))))))))
abbrev qpc:List Str:=["_law_stem","_law_v","_law_signs","_law_size","_law_spot","_law_name","_law_k","_law_turn"]
theorem qsf:∀ds Q,qbe ds Q->qji (En Q) (qbg qpc ds):=by
 rintro ds Q ⟨c,v,rfl,hc,hc2,hv,h⟩
 have hm0:0<=c%12:=Int.emod_nonneg _ (by decide)
 have hm1:c%12<12:=Int.emod_lt_of_pos _ (by decide)
 have eN:(NS.cps.toList.length:Int)=36:=by decide +kernel
 have lN:NS.length<=sizeLine:=by decide +kernel
 refine v_cut (λτ=>τ=[some (.val (.int c)),some (.val (.int v)),some (.val (.str NS)),none,none,none,none,none]) ?_ λnx hnx=>?now
 case now =>
  rfl'
  exact hnx _ rfl
 rintro τ rfl
 refine v_cut (λτ=>τ=[some (.val (.int c)),some (.val (.int v)),some (.val (.str NS)),some (.val (.int (1+c%12))),none,none,none,none]) ?_ λnx hnx=>?now
 case now =>
  rfl'
  exact hnx _ rfl
 rintro τ rfl
 generalize hn:1+c%12=n
 have n1:1<=n:=by omega
 have n2:n<=12:=by omega
 refine v_cut (λτ=>∃sp:Int,τ=[some (.val (.int c)),some (.val (.int v)),some (.val (.str NS)),some (.val (.int n)),some (.val (.int sp)),none,none,none]) ?_ λnx hnx=>?now
 case now =>
  rfl'
  exact⟨by omega,hnx _ ⟨_,rfl⟩⟩
 rintro τ ⟨sp,rfl⟩
 refine v_cut (λτ=>τ=[some (.val (.int c)),some (.val (.int v)),some (.val (.str NS)),some (.val (.int n)),some (.val (.int sp)),some (.val (.str "")),none,none]) ?_ λnx hnx=>?now
 case now =>
  rfl'
  exact hnx _ rfl
 rintro τ rfl
 refine v_cut (λτ=>∃(z:Str) (a b:Option R),1<=z.length/\z.length<=12/\τ=[some (.val (.int c)),some (.val (.int v)),some (.val (.str NS)),some (.val (.int n)),some (.val (.int sp)),some (.val (.str z)),a,b]) ?_ λnx hnx=>?now
 case now =>
  rfl'
  refine⟨by omega,by omega,qfn (λi τ=>∃(z:Str) (a b:Option R),z.length=i/\τ=[some (.val (.int c)),some (.val (.int v)),some (.val (.str NS)),some (.val (.int n)),some (.val (.int sp)),some (.val (.str z)),a,b]) ⟨"",none,none,by decide +kernel,rfl⟩ ?_ ?_⟩
  ·rintro i τ hi ⟨z,a,b,hl,rfl⟩ nx2 hnx2
   refine v_cut (λτ=>∃t:Int,τ=[some (.val (.int c)),some (.val (.int v)),some (.val (.str NS)),some (.val (.int n)),some (.val (.int sp)),some (.val (.str z)),some (.val (.int i)),some (.val (.int t))]) ?_ λnx3 hnx3=>?now
   case now =>
    rfl'
    have k0:=Int.emod_nonneg (c / 144) (show (36:Int)≠0 by decide)
    have k1:=Int.emod_lt_of_pos (c / 144) (show (0:Int)<36 by decide)
    exact⟨.inr ⟨by omega,by omega⟩,hnx3 _ ⟨_,rfl⟩⟩
   rintro τ ⟨t,rfl⟩
   refine v_cut (λτ=>∃t:Int,τ=[some (.val (.int c)),some (.val (.int v)),some (.val (.str NS)),some (.val (.int n)),some (.val (.int sp)),some (.val (.str z)),some (.val (.int i)),some (.val (.int t))]) ?_ λnx3 hnx3=>?now
   case now =>
    rfl'
    split
    ·exact hnx3 _ ⟨_,rfl⟩
    ·exact hnx3 _ ⟨_,rfl⟩
   clear t
   rintro τ ⟨t,rfl⟩
   rfl'
   obtain⟨d,hd,_⟩:=qdu (xs:=NS.cps.toList) (k:=t%36) (Int.emod_nonneg _ (by decide)) (by rw[eN];exact Int.emod_lt_of_pos _ (by decide))
   exact⟨lN,d,hd,Nat.le_trans (show z.length+1<=1000 by omega) qa6,hnx2 _ ⟨_,_,_,by rw[PySem.Str.length_append,hl];rfl,rfl⟩⟩
  ·rintro τ ⟨z,a,b,hl,rfl⟩
   exact hnx _ ⟨z,a,b,by omega,by omega,rfl⟩
 rintro τ ⟨z,a,b,z0,z1,rfl⟩
 refine v_cut (λτ=>∃(z:Str),1<=z.length/\z.length<=12/\τ=[some (.val (.int c)),some (.val (.int v)),some (.val (.str NS)),some (.val (.int n)),some (.val (.int sp)),some (.val (.str z)),a,b]) ?_ λnx hnx=>?now
 case now =>
  rfl'
  have sz:z.length<=sizeLine:=Nat.le_trans (by omega) qa6
  have v0:=Int.emod_nonneg v (show n≠0 by omega)
  split
  ·split
   ·refine⟨by omega,sz,hnx _ ⟨_,?_,?_,rfl⟩⟩
    ·obtain⟨k,hk⟩:∃k:Nat,1+v%n=(k:Int):=⟨(1+v%n).toNat,by omega⟩
     rw[hk]
     show 1<=(Txt.slice z none (some (k:Int))).cps.toList.length
     have el:z.cps.toList.length=z.length:=rfl
     rw[slice_list,qe7,List.length_take]
     omega
    ·exact Nat.le_trans (Txt.slice_le z _ _) (by omega)
   ·exact hnx _ ⟨z,z0,z1,rfl⟩
  ·exact hnx _ ⟨z,z0,z1,rfl⟩
 clear z0 z1 z
 rintro τ ⟨z,z0,z1,rfl⟩
 rfl'
 exact h z z0 z1
def qfm:TVS:=(vSeq (vSet 1 (vC (.str (" !\"#$&'()*+,-./0123456789:;<=>?@ABCDEFGHIJKLMNOPQRSTUVWXYZ[\\]^_`" : Str))))
 (vSeq (vSet 1 (vOp vAdd (vVar 1) (vC (.str ("abcdefghijklmnopqrstuvwxyz{|}~" : Str)))))
 (vSeq (vSet 2 (qan qaq (qad (vVar 0) (qad (vC (.int 6)) (qad (vC (.int 9)) vNil)))))
 (vSeq (vIfS (vBl (vOp vEq (vVar 2) (vC (.int 8))))
  (vSet 2 (vC (.int 60)))
  qbc)
 (vRet (qui (vC (.str ("" : Str))) (qks (qhk (vVar 2)) (qbu 3) (λ_ Q=>Q true) (vOp vIxR (vVar 1) (qan qaq (qad (vOp vAdd (vVar 0) (vOp vMul (vVar 3) (vVar 3))) (qad (vC (.int 7)) (qad (vF1 vLen (vVar 1)) vNil))))) 1)))))))
abbrev qn2:List Str:=["_law_cell","_law_some","_law_size"]
theorem qo6:∀ds Q,qcu ds Q->qfm (En Q) (qbg qn2 ds):=by
 rintro ds Q ⟨c,rfl,h⟩
 have mx:∀(c k n:Int) (Y:R->Prop),0<=k->0<n->(∀i,0<=i->i<n->Y (.val (.int i)))->qaq [.int c,.int k,.int n] Y:=λc k n Y hk hn y=>⟨c,k,n,rfl,hk,hn,λi h0 h1 _=>y i h0 h1⟩
 have big:5000<=sizeLine:=by decide
 refine qhl ?_
 dsimp! only[qfm]
 refine v_cut (λτ=>τ=[some (.val (.int c)),some (.val (.str PS94)),none]) ?_ λnx hnx=>?now
 case now =>
  rfl'
  exact⟨by decide +kernel,hnx _ rfl⟩
 rintro τ rfl
 refine v_cut (λτ=>∃k:Int,0<=k/\k<9/\τ=[some (.val (.int c)),some (.val (.str PS94)),some (.val (.int k))]) ?_ λnx hnx=>?now
 case now =>
  rfl'
  refine mx _ _ _ _ (by decide) (by decide) λk k0 k1=>?_
  rfl'
  exact hnx _ ⟨k,k0,k1,rfl⟩
 rintro τ ⟨k,k0,k1,rfl⟩
 refine v_cut (λτ=>∃k:Int,0<=k/\k<=60/\τ=[some (.val (.int c)),some (.val (.str PS94)),some (.val (.int k))]) ?_ λnx hnx=>?now
 case now =>
  rfl'
  split
  ·exact hnx _ ⟨60,by decide,by decide,rfl⟩
  ·exact hnx _ ⟨k,k0,by omega,rfl⟩
 clear k0 k1 k
 rintro τ ⟨k,k0,k1,rfl⟩
 have p94:=q0d
 simp! only[vSeq,true_and]
 refine⟨by omega,by omega,?_⟩
 unfold rngL
 refine qmq (λ_ d=>∃c∈PS94.cps.toList,d=.str ⟨#[c]⟩) (λ_=>true) (List.range k.toNat) (by rw[List.length_range];omega) (λx mx' Y N y1 _=>?_) λes hl hes=>?_
 ·have lx:=List.mem_range.mp mx'
  rfl'
  refine⟨by left;omega,by omega,?_⟩
  refine mx _ _ _ _ (by decide) (by rw[p94];decide) λj j0 j1=>?_
  obtain⟨v,hv,hv2⟩:=qdu (xs:=PS94.cps.toList) (k:=j) j0 j1
  rfl'
  exact⟨by omega,v,hv,y1 rfl _ ⟨v,List.mem_of_getElem? hv2,rfl⟩⟩
 ·obtain⟨ls,e1,e2,e3⟩:=qke (es:=es) λe me=>by
   obtain⟨j,lj,ej⟩:=List.mem_iff_getElem.mp me
   have hj:j<((List.range k.toNat).filter λ_=>true).length:=by rw[←hl];exact lj
   exact hes j _ e (List.getElem?_eq_getElem hj) (by rw[List.getElem?_eq_getElem lj,ej])
  have ell:ls.length<=300:=by
   rw[e3,hl]
   refine Nat.le_trans (List.length_filter_le _ _) ?_
   rw[List.length_range]
   omega
  have o0:(Str.ofString "").length=0:=by decide +kernel
  subst e1
  simp! only[vSeq,true_and]
  exact⟨_,.inl rfl,by rw[qnj,o0];omega,h _⟩
def qjj:TVS:=(vSeq (vIfS (vBl (vOp vEq (vVar 0) (vC (.str ("file" : Str)))))
  (vRet (vOp vIxR (vTup (qad (vC (.str ("" : Str))) (qad (vC (.str ("as it was" : Str))) (qad (qan qcu (qad (vVar 1) vNil)) vNil)))) (qan qaq (qad (vVar 1) (qad (vC (.int 5)) (qad (vC (.int 3)) vNil))))))
  qbc)
 (vSeq (vIfS (vBl (vOp vNeD (vVar 0) (vC (.str ("link" : Str)))))
  (vRet (vC (.str ("" : Str))))
  qbc)
 (vSeq (vSet 4 (qan qbe (qad (vVar 2) (qad (qan qaq (qad (vVar 1) (qad (vC (.int 5)) (qad (vVar 3) vNil)))) vNil))))
 (vSeq (vSet 5 (qan qbe (qad (vVar 2) (qad (qan qaq (qad (vVar 1) (qad (vC (.int 6)) (qad (vVar 3) vNil)))) vNil))))
 (vSeq (vSet 6 (vTup (qad (vC (.str ("/" : Str))) (qad (vOp vAdd (vC (.str ("/" : Str))) (vVar 4)) (qad (vVar 4) (qad (vOp vAdd (vC (.str ("../" : Str))) (vVar 4)) (qad (vOp vAdd (vOp vAdd (vOp vAdd (vC (.str ("./" : Str))) (vVar 4)) (vC (.str ("/" : Str)))) (vVar 5)) (qad (vOp vAdd (vOp vAdd (vC (.str ("/" : Str))) (vVar 4)) (vC (.str ("/.." : Str)))) (qad (vC (.str (".." : Str))) (qad (vC (.str ("." : Str))) vNil))))))))))
 (vRet (vOp vIxR (vVar 6) (qan qaq (qad (vVar 1) (qad (vC (.int 7)) (qad (vC (.int 8)) vNil)))))))))))
abbrev qpe:List Str:=["_law_mark","_law_cell","_law_stem","_law_wide","_law_name","_law_more","_law_some"]
theorem qsh:∀ds Q,qbz ds Q->qjj (En Q) (qbg qpe ds):=by
 rintro ds Q ⟨m,c,s,v,rfl,h0,h1,hv,h⟩
 have mx:∀(k n:Int) (Y:R->Prop),0<=k->0<n->(∀i,0<=i->i<n->Y (.val (.int i)))->qaq [.int c,.int k,.int n] Y:=λk n Y hk hn y=>⟨c,k,n,rfl,hk,hn,λi i0 i1 _=>y i i0 i1⟩
 have nb:∀(i:Int) (Y:R->Prop),0<=i->(∀z:Str,1<=z.length->z.length<=12->Y (.val (.str z)))->qbe [.int s,.int i] Y:=λi Y hi y=>⟨s,i,rfl,h0,h1,hi,y⟩
 refine v_cut (λτ=>m≠qb6/\τ=[some (.val (.str m)),some (.val (.int c)),some (.val (.int s)),some (.val (.int v)),none,none,none]) ?_ λnx hnx=>?now
 case now =>
  rfl'
  by_cases m1:m=qb6
  ·have h':∀z:Str,Q (.val (.str z)):=λz=>h z λq=>absurd m1 q
   rw[decide_eq_true m1]
   have sg:∀Y:R->Prop,(∀t:Str,Y (.val (.str t)))->qcu [.int c] Y:=λY y=>⟨c,rfl,y⟩
   refine iteT (sg _ λt=>?_)
   rfl'
   refine⟨by decide,mx _ _ _ (by decide) (by decide) λi h0 h1=>?_⟩
   rfl'
   have e:[D.str (Str.ofString ""),D.str (Str.ofString "as it was"),D.str t]=[Str.ofString "",Str.ofString "as it was",t].map D.str:=rfl
   obtain⟨y,hy,_⟩:=qdu (xs:=[Str.ofString "",Str.ofString "as it was",t]) (k:=i) h0 h1
   exact⟨.str y,by rw[e,qcv,hy];rfl,h' y⟩
  ·rw[decide_eq_false m1]
   exact iteF (hnx _ ⟨m1,rfl⟩)
 rintro τ ⟨m1,rfl⟩
 refine v_cut (λτ=>m=qb7/\τ=[some (.val (.str m)),some (.val (.int c)),some (.val (.int s)),some (.val (.int v)),none,none,none]) ?_ λnx hnx=>?now
 case now =>
  rfl'
  by_cases m2:m=qb7
  ·rw[decide_eq_true m2]
   exact iteF (hnx _ ⟨m2,rfl⟩)
  ·rw[decide_eq_false m2]
   exact iteT (h _ λ_ _=>rfl)
 rintro τ ⟨m2,rfl⟩
 have h':∀z:Str,Q (.val (.str z)):=λz=>h z λ_ q=>absurd m2 q
 refine v_cut (λτ=>∃z:Str,z.length<=12/\τ=[some (.val (.str m)),some (.val (.int c)),some (.val (.int s)),some (.val (.int v)),some (.val (.str z)),none,none]) ?_ λnx hnx=>?now
 case now =>
  rfl'
  refine mx _ _ _ (by decide) hv λi i0 i1=>?_
  rfl'
  refine nb _ _ i0 λz _ z1=>?_
  rfl'
  exact hnx _ ⟨z,z1,rfl⟩
 rintro τ ⟨z,z1,rfl⟩
 refine v_cut (λτ=>∃y:Str,y.length<=12/\τ=[some (.val (.str m)),some (.val (.int c)),some (.val (.int s)),some (.val (.int v)),some (.val (.str z)),some (.val (.str y)),none]) ?_ λnx hnx=>?now
 case now =>
  rfl'
  refine mx _ _ _ (by decide) hv λi i0 i1=>?_
  rfl'
  refine nb _ _ i0 λz _ z1=>?_
  rfl'
  exact hnx _ ⟨z,z1,rfl⟩
 rintro τ ⟨y,y1,rfl⟩
 refine v_cut (λτ=>τ=[some (.val (.str m)),some (.val (.int c)),some (.val (.int s)),some (.val (.int v)),some (.val (.str z)),some (.val (.str y)),some (.val (.tup ([Str.ofString "/",Str.ofString "/" ++ z,z,Str.ofString "../" ++ z,Str.ofString "./" ++ z++Str.ofString "/" ++ y,Str.ofString "/" ++ z++Str.ofString "/..",Str.ofString "..",Str.ofString "."].map D.str)))]) ?_ λnx hnx=>?now
 case now =>
  rfl'
  have e1:(Str.ofString "/").length=1:=by decide +kernel
  have e2:(Str.ofString "../").length=3:=by decide +kernel
  have e3:(Str.ofString "./").length=2:=by decide +kernel
  have e4:(Str.ofString "/..").length=3:=by decide +kernel
  refine⟨Nat.le_trans (by omega) qa6,Nat.le_trans (by omega) qa6,Nat.le_trans (by omega) qa6,Nat.le_trans (by rw[PySem.Str.length_append];omega) qa6,Nat.le_trans (by rw[PySem.Str.length_append,PySem.Str.length_append];omega) qa6,Nat.le_trans (by omega) qa6,Nat.le_trans (by rw[PySem.Str.length_append];omega) qa6,by decide,hnx _ rfl⟩
 rintro τ rfl
 rfl'
 refine mx _ _ _ (by decide) (by decide) λj j0 j1=>?_
 rfl'
 obtain⟨x,hx,_⟩:=qdu (xs:=[Str.ofString "/",Str.ofString "/" ++ z,z,Str.ofString "../" ++ z,Str.ofString "./" ++ z++Str.ofString "/" ++ y,Str.ofString "/" ++ z++Str.ofString "/..",Str.ofString "..",Str.ofString "."]) (k:=j) j0 j1
 have hx2:atI ([Str.ofString "/",Str.ofString "/" ++ z,z,Str.ofString "../" ++ z,Str.ofString "./" ++ z++Str.ofString "/" ++ y,Str.ofString "/" ++ z++Str.ofString "/..",Str.ofString "..",Str.ofString "."].map D.str) j=some (.str x):=by rw[qcv,hx];rfl
 exact⟨.str x,hx2,h' x⟩
def qdz:TVS:=(vSeq (vFor (qhk (vF1 vLen (vVar 1))) (qbu 2)
  (vIfS (qez (vBl (vDIn id (qdh (vVar 1) qca (qc4 (vVar 2))) (vVar 0))) (vBl (vOp vEq (vOp vIxR (qkt (vVar 0) (qdh (vVar 1) qca (qc4 (vVar 2)))) (vC (.int 0))) (vC (.str ("shut" : Str))))))
  (vRet (vC (.bl true)))
  qbc))
 (vRet (vC (.bl false))))
abbrev qjf:List Str:=["_law_things","_law_way","_law_k"]
theorem qk1:∀ds Q,qbw ds Q->qdz (En Q) (qbg qjf ds):=by
 rintro ds Q ⟨rs,w,rfl,hw,hl,h⟩
 simp! only[vSeq,qdz,wayD]
 have tk:∀k:Nat,("" : Str)∉w.take k:=λk m=>hw (List.mem_of_mem_take m)
 refine⟨by omega,by omega,qfn (λi τ=>(∀k,k<i->qbn rs (w.take k)≠some qar)/\∃kv,τ=[some (.val (qap (rs.map prR))),some (.val (wayD w)),kv]) ⟨λk hk=>absurd hk (Nat.not_lt_zero _),none,rfl⟩ ?_ ?_⟩
 ·rintro i τ hi ⟨hb,kv,rfl⟩ nx hnx
  have hd:∀Y:R->Prop,Y (.val (.bl (qbn rs (w.take i)).isSome))->True:=λ_ _=>trivial
  have mk:qbn rs (w.take i)=(rs.find? λr=>decide (r.1=w.take i)).map (·.2.1):=rfl
  have lk:=qm7 rs (w.take i)
  have e0:qer rs w=true->Q (.val (.bl true)):=λz=>by rw[z] at h;exact h
  have hit:qbn rs (w.take i)=some qar->Q (.val (.bl true)):=λz=>e0 (List.any_eq_true.mpr ⟨i,List.mem_range.mpr hi,decide_eq_true z⟩)
  have go:qbn rs (w.take i)≠some qar->∀kv,nx [some (.val (qap (rs.map prR))),some (.val (wayD w)),kv]:=λz kv=>hnx _ ⟨λk hk=>by
   rcases Nat.lt_or_ge k i with q|q
   ·exact hb k q
   ·have:k=i:=by omega
    rw[this];exact z,kv,rfl⟩
  dsimp! only[qap,wayD]
  simp only[qe7]
  refine⟨tk i,?_⟩
  rw[qbr,lk]
  cases e:rs.find? λr=>decide (r.1=w.take i) with
 |none =>
   rw[e] at mk
   refine iteF ?_
   exact go (by rw[mk];exact λz=>by cases z) _
 |some r =>
   rw[e] at mk
   refine iteT ⟨tk i,thD r.2,rfl,?_⟩
   dsimp! only[thD]
   by_cases q:r.2.1=qar
   ·rw[decide_eq_true q]
    exact iteT (hit (by rw[mk,←q];rfl))
   ·rw[decide_eq_false q]
    exact iteF (go (by rw[mk];exact λz=>q (Option.some.inj z)) _)
 ·rintro τ ⟨hb,kv,rfl⟩
  simp! only[vSeq,true_and]
  have e:qer rs w=false:=by
   unfold qer
   rw[List.any_eq_false]
   exact λk hk z=>hb k (List.mem_range.mp hk) (of_decide_eq_true z)
  rw[e] at h
  exact h
def qga:TVS:=(vSeq (vSet 2 (vOp vAdd (vC (.int 2)) (vOp vMod (vOp vDiv (vVar 1) (vC (.int 5))) (vC (.int 7)))))
 (vSeq (qfu 3 qf0)
 (vSeq (qfu 4 (vLst (qad (vTup vNil) vNil)))
 (vSeq (vIfS (qez (vBl (vOp vGt (vF1 vLen (vVar 0)) (vC (.int 2)))) (vBl (vOp vEq (qan qaq (qad (vOp vIxR (vVar 0) (vC (.int 0))) (qad (vC (.int 4)) (qad (vC (.int 6)) vNil)))) (vC (.int 0)))))
  (qg9 3 (vTup vNil) (vTup (qad (vC (.str ("shut" : Str))) (qad (vC (.str ("" : Str))) vNil))))
  qbc)
 (vSeq (vFor (qc9 (vVar 0)) (qbu 5)
  (vSeq (vSet 6 (vOp vIxR (vVar 4) (qan qaq (qad (vVar 5) (qad (vC (.int 0)) (qad (vF1 vLen (vVar 4)) vNil))))))
 (vSeq (vIfS (vBl (vOp vEq (qan qaq (qad (vVar 5) (qad (vC (.int 3)) (qad (vC (.int 3)) vNil)))) (vC (.int 0))))
  (vSet 6 (vOp vIxR (vVar 4) (vNeg (vC (.int 1)))))
  qbc)
 (vSeq (vSet 7 (vOp vAdd (vVar 6) (vTup (qad (qan qbe (qad (vVar 1) (qad (qan qaq (qad (vVar 5) (qad (vC (.int 1)) (qad (vVar 2) vNil)))) vNil))) vNil))))
 (vIfS (qez (vBl (vDIn (!·) (vVar 7) (vVar 3))) (vBl (vOp vLt (vF1 vLen (vVar 7)) (vC (.int 15)))))
  (vSeq (vSet 8 (vOp vIxR (vTup (qad (vC (.str ("folder" : Str))) (qad (vC (.str ("shut" : Str))) (qad (vC (.str ("file" : Str))) (qad (vC (.str ("folder" : Str))) (qad (vC (.str ("gone" : Str))) (qad (vC (.str ("link" : Str))) (qad (vC (.str ("folder" : Str))) vNil)))))))) (qan qaq (qad (vVar 5) (qad (vC (.int 2)) (qad (vC (.int 7)) vNil))))))
 (vSeq (vIfS (qez (vBl (qo1 qbw 3 (qad (vVar 7) vNil))) (vBl (vOp (vIn id) (vVar 8) (vTup (qad (vC (.str ("gone" : Str))) (qad (vC (.str ("shut" : Str))) vNil))))))
  (vSet 8 (vC (.str ("folder" : Str))))
  qbc)
 (vSeq (qg9 3 (vVar 7) (vTup (qad (vVar 8) (qad (qan qbz (qad (vVar 8) (qad (vVar 5) (qad (vVar 1) (qad (vVar 2) vNil))))) vNil))))
 (vIfS (vBl (vOp (vIn id) (vVar 8) (vTup (qad (vC (.str ("folder" : Str))) (qad (vC (.str ("shut" : Str))) vNil)))))
  (qft 4 (vVar 7))
  qbc))))
  qbc)))))
 (vRet (qks (qc9 (vF1 qe0 (vF1 qhb (vVar 3)))) (qbu 9) (λ_ Q=>Q true) (vOp vAdd (vTup (qad (vVar 9) vNil)) (qkt (vVar 3) (vVar 9))) 1)))))))
abbrev qpd:List Str:=["_law_cells","_law_stem","_law_wide","_law_things","_law_folders","_law_cell","_law_over","_law_way","_law_mark"]
theorem qsg:∀ds Q,qdf ds Q->qga (En Q) (qbg qpd ds):=by
 rintro ds Q ⟨cs,st,rfl,hcs,h0,h1,h⟩
 refine qhl ?_
 dsimp! only[qga]
 have w0:=Int.emod_nonneg (st / 5) (show (7:Int)≠0 by decide)
 generalize hwd:2+st / 5%7=wide
 have w1:0<wide:=by omega
 refine qhl ?_
 rfl'
 refine qhl ?_
 rfl'
 refine⟨by decide,?_⟩
 refine v_cut (λτ=>∃rs:List Row,(rs=[]\/rs=[([],qar,qaz)])/\τ=[some (.val (.lst (cs.map D.int))),some (.val (.int st)),some (.val (.int wide)),some (.own (qap (rs.map prR))),some (.own (.lst ([([]:List Str)].map wayD))),none,none,none,none]) ?_ λnx2 hnx2=>?now
 case now =>
  dsimp! only[qaq]
  have none':=hnx2 _ ⟨[],.inl rfl,rfl⟩
  split
  ·rename_i h2
   have h2':2<cs.length:=by have:=of_decide_eq_true h2;omega
   refine⟨.int cs[0],by rw[List.getElem?_map,List.getElem?_eq_getElem (by omega)];rfl,cs[0],rfl,λi i0 i1 _=>?_⟩
   split
   ·exact⟨by decide,[],rfl,by simp,by decide,hnx2 _ ⟨[([],qar,qaz)],.inr rfl,rfl⟩⟩
   ·exact none'
  ·exact none'
 rintro τ ⟨rs0,hrs0,rfl⟩
 refine qhl ?_
 rfl'
 refine qd1 (λi τ=>∃(rs:List Row) (fs:List (List Str)) (a b c d:Option R),PInv i rs fs /\
  τ=[some (.val (.lst (cs.map D.int))),some (.val (.int st)),some (.val (.int wide)),some (.own (qap (rs.map prR))),some (.own (.lst (fs.map wayD))),a,b,c,d]) ⟨rs0,[[]],none,none,none,none,.start hrs0,rfl⟩ ?_ ?_
 ·rintro i c τ hc ⟨rs,fs,k5,k6,k7,k8,PI,rfl⟩ nx hnx
  have hi:=(List.getElem?_eq_some_iff.mp hc).1
  have hfp:0<fs.length:=List.length_pos_iff.mpr PI.ne
  have hfl:=PI.fln
  have hrl:=PI.len
  refine v_cut (λτ=>∃f,f∈fs/\τ=[some (.val (.lst (cs.map D.int))),some (.val (.int st)),some (.val (.int wide)),some (.own (qap (rs.map prR))),some (.own (.lst (fs.map wayD))),some (.val (.int c)),some (.val (wayD f)),k7,k8]) ?_ λnx2 hnx2=>?now
  case now =>
   dsimp! only[qaq]
   refine⟨by omega,λk k0 k1 _=>?_⟩
   obtain⟨f,hf,hf2⟩:=qdu (xs:=fs) (k:=k) k0 k1
   exact⟨wayD f,by rw[qcv,hf];rfl,hnx2 _ ⟨f,List.mem_of_getElem? hf2,rfl⟩⟩
  rintro τ ⟨f,mf,rfl⟩
  refine v_cut (λτ=>∃f,f∈fs/\τ=[some (.val (.lst (cs.map D.int))),some (.val (.int st)),some (.val (.int wide)),some (.own (qap (rs.map prR))),some (.own (.lst (fs.map wayD))),some (.val (.int c)),some (.val (wayD f)),k7,k8]) ?_ λnx2 hnx2=>?now
  case now =>
   dsimp! only[qaq]
   refine λk k0 k1 _=>?_
   split
   ·exact⟨wayD (fs.getLast PI.ne),by rw[List.getLast?_map,List.getLast?_eq_some_getLast PI.ne];rfl,hnx2 _ ⟨_,List.getLast_mem PI.ne,rfl⟩⟩
   ·exact hnx2 _ ⟨f,mf,rfl⟩
  clear mf f
  rintro τ ⟨f,mf,rfl⟩
  have hf14:=(PI.fol f mf).1
  refine v_cut (λτ=>∃z:Str,1<=z.length/\z.length<=12/\τ=[some (.val (.lst (cs.map D.int))),some (.val (.int st)),some (.val (.int wide)),some (.own (qap (rs.map prR))),some (.own (.lst (fs.map wayD))),some (.val (.int c)),some (.val (wayD f)),some (.val (wayD (f++[z]))),k8]) ?_ λnx2 hnx2=>?now
  case now =>
   dsimp! only[qaq,qbe,wayD]
   have:=hf14.1
   exact⟨w1,λk k0 k1 _=>⟨h0,h1,k0,λz z1 z2=>⟨by decide,Nat.le_trans (show _<=1000 by omega) qa6,hnx2 _ ⟨z,z1,z2,rfl⟩⟩⟩⟩
  rintro τ ⟨z,z1,z2,rfl⟩
  have hfz:(∀y∈f++[z],1<=y.length/\y.length<=12):=λy hy=>by
   rcases List.mem_append.mp hy with m|m
   ·exact hf14.2 y m
   ·rw[List.mem_singleton.mp m];exact⟨z1,z2⟩
  have hwy:WyOk (f++[z]):=⟨by have:=hf14.1;rw[List.length_append,List.length_singleton];omega,hfz⟩
  have lk:(lkP (rs.map prR) (f++[z])).isSome=decide (f++[z]∈rs.map (·.1)):=by
   rw[qm7,Option.isSome_map]
   exact(Option.isSome_map ..).symm.trans (qf4 rs (f++[z]))
  have stay:=hnx _ ⟨rs,fs,some (.val (.int c)),some (.val (wayD f)),some (.val (wayD (f++[z]))),k8,PI.stay,rfl⟩
  have put:=λ(m t:Str) (hm:mkOk (f++[z],m,t)) (hw:Wy14 (f++[z])) (nw:f++[z]∉rs.map (·.1)) (hs:m=qay\/m=qar->qer rs (f++[z])=false)=>PI.put mf hm hw nw hs
  generalize hw:f++[z]=w at *
  refine v_if (λb=>b=true->w∉rs.map (·.1)/\w.length<15) (λY y=>?test) (λhyes=>?yes) λ_=>stay
  case test =>
   dsimp! only[qap,wayD]
   refine⟨hwy.ne,?_⟩
   rw[qbr,lk]
   by_cases hm:w∈rs.map (·.1)
   ·rw[decide_eq_true hm]
    exact iteF (y _ λz=>by cases z)
   ·rw[decide_eq_false hm]
    exact iteT (y _ λz=>⟨hm,by have:=of_decide_eq_true z;omega⟩)
  case yes =>
    obtain⟨hm,h15'⟩:=hyes rfl
    have w14:Wy14 w:=⟨by omega,hfz⟩
    refine v_cut (λτ=>∃m:Str,(m=qag\/m=qar\/m=qb6\/m=qay\/m=qb7)/\τ=[some (.val (.lst (cs.map D.int))),some (.val (.int st)),some (.val (.int wide)),some (.own (qap (rs.map prR))),some (.own (.lst (fs.map wayD))),some (.val (.int c)),some (.val (wayD f)),some (.val (wayD w)),some (.val (.str m))]) ?_ λnx2 hnx2=>?now
    case now =>
     dsimp! only[qaq]
     refine⟨by decide,λk k0 k1 _=>?_⟩
     have e:[D.str (Str.ofString "folder"),D.str (Str.ofString "shut"),D.str (Str.ofString "file"),D.str (Str.ofString "folder"),D.str (Str.ofString "gone"),D.str (Str.ofString "link"),D.str (Str.ofString "folder")]=[qag,qar,qb6,qag,qay,qb7,qag].map D.str:=rfl
     obtain⟨y,hy,hy2⟩:=qdu (xs:=[qag,qar,qb6,qag,qay,qb7,qag]) (k:=k) k0 k1
     have my:y=qag\/y=qar\/y=qb6\/y=qay\/y=qb7:=by
      have:=List.mem_of_getElem? hy2
      simp only[List.mem_cons,List.not_mem_nil,or_false] at this
      rcases this with q|q|q|q|q|q|q<;>simp[q]
     exact⟨.str y,by rw[e,qcv,hy];rfl,hnx2 _ ⟨y,my,rfl⟩⟩
    rintro τ ⟨m0,hm0,rfl⟩
    refine v_cut (λτ=>∃m:Str,(m=qag\/m=qar\/m=qb6\/m=qay\/m=qb7)/\(m=qay\/m=qar->qer rs w=false)/\τ=[some (.val (.lst (cs.map D.int))),some (.val (.int st)),some (.val (.int wide)),some (.own (qap (rs.map prR))),some (.own (.lst (fs.map wayD))),some (.val (.int c)),some (.val (wayD f)),some (.val (wayD w)),some (.val (.str m))]) ?_ λnx2 hnx2=>?now
    case now =>
     have us:∀Y:R->Prop,Y (.val (.bl (qer rs w)))->qbw [qap (rs.map prR),wayD w] Y:=λY y=>⟨rs,w,rfl,hwy.ne,by omega,y⟩
     rfl'
     refine us _ ?_
     rfl'
     cases hs:qer rs w with
    |false=>exact iteF (hnx2 _ ⟨m0,hm0,λ_=>hs,rfl⟩)
    |true =>
      refine iteT ⟨by decide,?_⟩
      by_cases q:m0∈[qay,qar]
      ·rw[decide_eq_true q]
       exact hnx2 _ ⟨qag,.inl rfl,λz=>z.elim (λz=>absurd z.symm mne.2.1) λz=>absurd z.symm mne.1,rfl⟩
      ·rw[decide_eq_false q]
       exact hnx2 _ ⟨m0,hm0,λz=>absurd (by rcases z with z|z<;>simp[z]) q,rfl⟩
    rintro τ ⟨m,hm1,hsh,rfl⟩
    refine v_cut (λτ=>∃t:Str,mkOk (w,m,t)/\τ=[some (.val (.lst (cs.map D.int))),some (.val (.int st)),some (.val (.int wide)),some (.own (qap ((rs++[(w,m,t)]).map prR))),some (.own (.lst (fs.map wayD))),some (.val (.int c)),some (.val (wayD f)),some (.val (wayD w)),some (.val (.str m))]) ?_ λnx2 hnx2=>?now
    case now =>
     dsimp! only[qbz,qap,wayD]
     refine⟨h0,h1,w1,λt ht=>⟨by decide,hwy.ne,?_,?_⟩⟩
     ·exact Nat.lt_of_lt_of_le (show _<1000 by omega) qa6
     ·rw[qb9]
      refine hnx2 _ ⟨t,?_,?_⟩
      ·rcases hm1 with q|q|q|q|q
       ·exact .inr (.inl ⟨q,ht (by rw[q];exact Ne.symm mne.2.2.1) (by rw[q];exact Ne.symm mne.2.2.2.1)⟩)
       ·exact .inr (.inr (.inl q))
       ·exact .inl (.inl q)
       ·exact .inr (.inr (.inr q))
       ·exact .inl (.inr q)
      ·have e:insP (rs.map prR) w (.tup [.str m,.str t])=(rs++[(w,m,t)]).map prR:=by
        unfold insP
        rw[qjc,if_neg hm,List.map_append]
        rfl
       rw[e]
       rfl
    rintro τ ⟨t,hmk,rfl⟩
    obtain⟨A,A2⟩:=put m t hmk w14 hm hsh
    rfl'
    refine⟨by decide,?_⟩
    by_cases q:m∈[qag,qar]
    ·rw[decide_eq_true q]
     have fsm:FS m:=by simpa [FS] using q
     refine⟨Nat.lt_of_lt_of_le (show _<1000 by omega) qa6,hnx _ ⟨rs++[(w,m,t)],fs++[w],some (.val (.int c)),some (.val (wayD f)),some (.val (wayD w)),some (.val (.str m)),A2 fsm,?_⟩⟩
     rw[List.map_append (f:=wayD)]
     rfl
    ·rw[decide_eq_false q]
     exact hnx _ ⟨rs++[(w,m,t)],fs,_,_,_,_,A,rfl⟩
 ·rintro τ ⟨rs,fs,k5,k6,k7,k8,PI,rfl⟩
  have hlen:=PI.len
  simp! only[vSeq,qap]
  have ek:(((rs.map prR).map (·.1)).map λw=>D.tup (w.map D.str))=(rs.map (·.1)).map wayD:=by
   rw[List.map_map,List.map_map,List.map_map]
   rfl
  refine⟨?_,?_,λds hp hs=>?_⟩
  ·rw[ek]
   exact qfr PI.nd
  ·(first|omega|(simp only[List.length_map];omega))
  ·rw[ek] at hp
   obtain⟨vs,rfl,hv,hso⟩:=qhf hp hs
   have hvl:vs.length=rs.length:=by rw[hv.length_eq,List.length_map]
   refine qia (λw=>rowD (w,lkR rs w)) vs (Nat.le_trans (show _<=1000 by omega) qa6) (λw mw Y N hY=>?_) ?_
   ·have mw':=hv.mem_iff.mp mw
    simp! only[vSeq,wayD]
    have wk:("" : Str)∉w:=by
     obtain⟨r,mr,er⟩:=List.mem_map.mp mw'
     rcases PI.row r mr with q|q
     ·rw[←er,q.1];simp
     ·rw[←er];exact q.2.1.ok.ne
    exact⟨by decide,wk,thD (lkR rs w),by rw[qbr];exact qlt PI.nd mw',by show 3<=sizeLine;decide,hY⟩
   ·simp! only[vSeq,true_and]
    have e:vs.map (λw=>rowD (w,lkR rs w))=(vs.map λw=>(w,lkR rs w)).map rowD:=by rw[List.map_map];rfl
    rw[e]
    obtain⟨p1,p2⟩:=qea PI.nd hv hso
    obtain⟨a1,a2,a3,a4,a5⟩:=PI.pane p1 p2
    refine h _ ⟨a1,λr hr=>?_,a2,λr hr z=>?_,by omega⟩
    ·rcases PI.row r (p1.mem_iff.mp hr) with z|⟨_,_,⟨_,z⟩,_⟩
     ·exact .inl z.1
     ·exact .inr (z.imp id λ⟨q,mq,x⟩=>⟨q,p1.mem_iff.mpr mq,x⟩)
    ·exact qza (a5 r hr (.inr z))
def qgb:TVS:=(vSeq (vSet 2 (vOp vAdd (vC (.int 2)) (vOp vMod (vOp vDiv (vVar 1) (vC (.int 5))) (vC (.int 7)))))
 (vSeq (qfu 3 qf0)
 (vSeq (qfu 4 (vLst (qad (vTup vNil) vNil)))
 (vSeq (vFor (qc9 (vVar 0)) (qbu 5)
  (vSeq (vSet 6 (vOp vIxR (vVar 4) (qan qaq (qad (vVar 5) (qad (vC (.int 0)) (qad (vF1 vLen (vVar 4)) vNil))))))
 (vSeq (vIfS (vBl (vOp vEq (qan qaq (qad (vVar 5) (qad (vC (.int 3)) (qad (vC (.int 3)) vNil)))) (vC (.int 0))))
  (vSet 6 (vOp vIxR (vVar 4) (vNeg (vC (.int 1)))))
  qbc)
 (vSeq (vSet 7 (vOp vAdd (vVar 6) (vTup (qad (qan qbe (qad (vVar 1) (qad (qan qaq (qad (vVar 5) (qad (vC (.int 1)) (qad (vVar 2) vNil)))) vNil))) vNil))))
 (vIfS (qez (vBl (vDIn (!·) (vVar 7) (vVar 3))) (vBl (vOp vLt (vF1 vLen (vVar 7)) (vC (.int 15)))))
  (vSeq (vSet 8 (vOp vIxR (vTup (qad (vC (.str ("folder" : Str))) (qad (vC (.str ("file" : Str))) (qad (vC (.str ("folder" : Str))) (qad (vC (.str ("link" : Str))) vNil))))) (qan qaq (qad (vVar 5) (qad (vC (.int 2)) (qad (vC (.int 4)) vNil))))))
 (vSeq (qg9 3 (vVar 7) (vTup (qad (vVar 8) (qad (qan qbz (qad (vVar 8) (qad (vVar 5) (qad (vVar 1) (qad (vVar 2) vNil))))) vNil))))
 (vIfS (vBl (vOp vEq (vVar 8) (vC (.str ("folder" : Str)))))
  (qft 4 (vVar 7))
  qbc)))
  qbc)))))
 (vRet (qks (qc9 (vF1 qe0 (vF1 qhb (vVar 3)))) (qbu 9) (λ_ Q=>Q true) (vOp vAdd (vTup (qad (vVar 9) vNil)) (qkt (vVar 3) (vVar 9))) 1))))))
abbrev qpf:List Str:=["_law_cells","_law_stem","_law_wide","_law_things","_law_folders","_law_cell","_law_over","_law_way","_law_mark"]
theorem qsi:∀ds Q,qcy ds Q->qgb (En Q) (qbg qpf ds):=by
 rintro ds Q ⟨cs,st,rfl,hcs,h0,h1,h⟩
 refine qhl ?_
 dsimp! only[qgb]
 have w0:=Int.emod_nonneg (st / 5) (show (7:Int)≠0 by decide)
 generalize hwd:2+st / 5%7=wide
 have w1:0<wide:=by omega
 refine qhl ?_
 rfl'
 refine qhl ?_
 rfl'
 refine⟨by decide,?_⟩
 refine qhl ?_
 rfl'
 refine qd1 (λi τ=>∃(rs:List Row) (fs:List (List Str)) (a b c d:Option R),(PInv i rs fs/\TrK rs) /\
  τ=[some (.val (.lst (cs.map D.int))),some (.val (.int st)),some (.val (.int wide)),some (.own (qap (rs.map prR))),some (.own (.lst (fs.map wayD))),a,b,c,d]) ⟨[],[[]],none,none,none,none,⟨.start (.inl rfl),λr hr=>by cases hr⟩,rfl⟩ ?_ ?_
 ·rintro i c τ hc ⟨rs,fs,k5,k6,k7,k8,⟨PI,NR⟩,rfl⟩ nx hnx
  have hi:=(List.getElem?_eq_some_iff.mp hc).1
  have hfp:0<fs.length:=List.length_pos_iff.mpr PI.ne
  have hfl:=PI.fln
  have hrl:=PI.len
  refine v_cut (λτ=>∃f,f∈fs/\τ=[some (.val (.lst (cs.map D.int))),some (.val (.int st)),some (.val (.int wide)),some (.own (qap (rs.map prR))),some (.own (.lst (fs.map wayD))),some (.val (.int c)),some (.val (wayD f)),k7,k8]) ?_ λnx2 hnx2=>?now
  case now =>
   dsimp! only[qaq]
   refine⟨by omega,λk k0 k1 _=>?_⟩
   obtain⟨f,hf,hf2⟩:=qdu (xs:=fs) (k:=k) k0 k1
   exact⟨wayD f,by rw[qcv,hf];rfl,hnx2 _ ⟨f,List.mem_of_getElem? hf2,rfl⟩⟩
  rintro τ ⟨f,mf,rfl⟩
  refine v_cut (λτ=>∃f,f∈fs/\τ=[some (.val (.lst (cs.map D.int))),some (.val (.int st)),some (.val (.int wide)),some (.own (qap (rs.map prR))),some (.own (.lst (fs.map wayD))),some (.val (.int c)),some (.val (wayD f)),k7,k8]) ?_ λnx2 hnx2=>?now
  case now =>
   dsimp! only[qaq]
   refine λk k0 k1 _=>?_
   split
   ·exact⟨wayD (fs.getLast PI.ne),by rw[List.getLast?_map,List.getLast?_eq_some_getLast PI.ne];rfl,hnx2 _ ⟨_,List.getLast_mem PI.ne,rfl⟩⟩
   ·exact hnx2 _ ⟨f,mf,rfl⟩
  clear mf f
  rintro τ ⟨f,mf,rfl⟩
  have hf14:=(PI.fol f mf).1
  refine v_cut (λτ=>∃z:Str,1<=z.length/\z.length<=12/\τ=[some (.val (.lst (cs.map D.int))),some (.val (.int st)),some (.val (.int wide)),some (.own (qap (rs.map prR))),some (.own (.lst (fs.map wayD))),some (.val (.int c)),some (.val (wayD f)),some (.val (wayD (f++[z]))),k8]) ?_ λnx2 hnx2=>?now
  case now =>
   dsimp! only[qaq,qbe,wayD]
   have:=hf14.1
   exact⟨w1,λk k0 k1 _=>⟨h0,h1,k0,λz z1 z2=>⟨by decide,Nat.le_trans (show _<=1000 by omega) qa6,hnx2 _ ⟨z,z1,z2,rfl⟩⟩⟩⟩
  rintro τ ⟨z,z1,z2,rfl⟩
  have hfz:(∀y∈f++[z],1<=y.length/\y.length<=12):=λy hy=>by
   rcases List.mem_append.mp hy with m|m
   ·exact hf14.2 y m
   ·rw[List.mem_singleton.mp m];exact⟨z1,z2⟩
  have hwy:WyOk (f++[z]):=⟨by have:=hf14.1;rw[List.length_append,List.length_singleton];omega,hfz⟩
  have lk:(lkP (rs.map prR) (f++[z])).isSome=decide (f++[z]∈rs.map (·.1)):=by
   rw[qm7,Option.isSome_map]
   exact(Option.isSome_map ..).symm.trans (qf4 rs (f++[z]))
  have stay:=hnx _ ⟨rs,fs,some (.val (.int c)),some (.val (wayD f)),some (.val (wayD (f++[z]))),k8,⟨PI.stay,NR⟩,rfl⟩
  have put:=λ(m t:Str) (hm:mkOk (f++[z],m,t)) (hw:Wy14 (f++[z])) (nw:f++[z]∉rs.map (·.1)) (hs:m=qay\/m=qar->qer rs (f++[z])=false)=>PI.put mf hm hw nw hs
  generalize hw:f++[z]=w at *
  refine v_if (λb=>b=true->w∉rs.map (·.1)/\w.length<15) (λY y=>?test) (λhyes=>?yes) λ_=>stay
  case test =>
   dsimp! only[qap,wayD]
   refine⟨hwy.ne,?_⟩
   rw[qbr,lk]
   by_cases hm:w∈rs.map (·.1)
   ·rw[decide_eq_true hm]
    exact iteF (y _ λz=>by cases z)
   ·rw[decide_eq_false hm]
    exact iteT (y _ λz=>⟨hm,by have:=of_decide_eq_true z;omega⟩)
  case yes =>
    obtain⟨hm,h15'⟩:=hyes rfl
    have w14:Wy14 w:=⟨by omega,hfz⟩
    refine v_cut (λτ=>∃m:Str,(m=qag\/m=qb6\/m=qb7)/\τ=[some (.val (.lst (cs.map D.int))),some (.val (.int st)),some (.val (.int wide)),some (.own (qap (rs.map prR))),some (.own (.lst (fs.map wayD))),some (.val (.int c)),some (.val (wayD f)),some (.val (wayD w)),some (.val (.str m))]) ?_ λnx2 hnx2=>?now
    case now =>
     dsimp! only[qaq]
     refine⟨by decide,λk k0 k1 _=>?_⟩
     have e:[D.str (Str.ofString "folder"),D.str (Str.ofString "file"),D.str (Str.ofString "folder"),D.str (Str.ofString "link")]=[qag,qb6,qag,qb7].map D.str:=rfl
     obtain⟨y,hy,hy2⟩:=qdu (xs:=[qag,qb6,qag,qb7]) (k:=k) k0 k1
     have my:y=qag\/y=qb6\/y=qb7:=by
      have:=List.mem_of_getElem? hy2
      simp only[List.mem_cons,List.not_mem_nil,or_false] at this
      rcases this with q|q|q|q<;>simp[q]
     exact⟨.str y,by rw[e,qcv,hy];rfl,hnx2 _ ⟨y,my,rfl⟩⟩
    rintro τ ⟨m,hm1,rfl⟩
    have hsh:m=qay\/m=qar->qer rs w=false:=λz=>by
     rcases hm1 with q|q|q<;>rw[q] at z
     ·rcases z with z|z
      ·exact absurd z.symm mne.2.1
      ·exact absurd z.symm mne.1
     ·rcases z with z|z
      ·exact absurd z mne.2.2.2.2.2.2.2.1
      ·exact absurd z mne.2.2.2.2.2.1
     ·rcases z with z|z
      ·exact absurd z mne.2.2.2.2.2.2.2.2.1
      ·exact absurd z mne.2.2.2.2.2.2.1
    refine v_cut (λτ=>∃t:Str,mkOk (w,m,t)/\τ=[some (.val (.lst (cs.map D.int))),some (.val (.int st)),some (.val (.int wide)),some (.own (qap ((rs++[(w,m,t)]).map prR))),some (.own (.lst (fs.map wayD))),some (.val (.int c)),some (.val (wayD f)),some (.val (wayD w)),some (.val (.str m))]) ?_ λnx2 hnx2=>?now
    case now =>
     dsimp! only[qbz,qap,wayD]
     refine⟨h0,h1,w1,λt ht=>⟨by decide,hwy.ne,?_,?_⟩⟩
     ·exact Nat.lt_of_lt_of_le (show _<1000 by omega) qa6
     ·rw[qb9]
      refine hnx2 _ ⟨t,?_,?_⟩
      ·rcases hm1 with q|q|q
       ·exact .inr (.inl ⟨q,ht (by rw[q];exact Ne.symm mne.2.2.1) (by rw[q];exact Ne.symm mne.2.2.2.1)⟩)
       ·exact .inl (.inl q)
       ·exact .inl (.inr q)
      ·have e:insP (rs.map prR) w (.tup [.str m,.str t])=(rs++[(w,m,t)]).map prR:=by
        unfold insP
        rw[qjc,if_neg hm,List.map_append]
        rfl
       rw[e]
       rfl
    rintro τ ⟨t,hmk,rfl⟩
    obtain⟨A,A2⟩:=put m t hmk w14 hm hsh
    have NR2:TrK (rs++[(w,m,t)]):=λr hr=>by
     rcases List.mem_append.mp hr with hr|hr
     ·exact NR r hr
     ·rw[List.mem_singleton.mp hr]
      refine⟨λz=>by
       have z':w=[]:=z
       rw[←hw] at z'
       simp at z',?_⟩
      rcases hmk with y|y|y|y
      ·exact .inl y
      ·exact .inr y
      ·exact absurd y λy=>by
        have y:m=qar:=y
        rcases hm1 with q|q|q<;>rw[q] at y
        ·exact absurd y.symm mne.1
        ·exact absurd y mne.2.2.2.2.2.1
        ·exact absurd y mne.2.2.2.2.2.2.1
      ·exact absurd y λy=>by
        have y:m=qay:=y
        rcases hm1 with q|q|q<;>rw[q] at y
        ·exact absurd y.symm mne.2.1
        ·exact absurd y mne.2.2.2.2.2.2.2.1
        ·exact absurd y mne.2.2.2.2.2.2.2.2.1
    rfl'
    by_cases q:m=qag
    ·rw[decide_eq_true q]
     refine iteT ⟨Nat.lt_of_lt_of_le (show _<1000 by omega) qa6,hnx _ ⟨rs++[(w,m,t)],fs++[w],some (.val (.int c)),some (.val (wayD f)),some (.val (wayD w)),some (.val (.str m)),⟨A2 (.inl q),NR2⟩,?_⟩⟩
     rw[List.map_append (f:=wayD)]
     rfl
    ·rw[decide_eq_false q]
     exact iteF (hnx _ ⟨rs++[(w,m,t)],fs,_,_,_,_,⟨A,NR2⟩,rfl⟩)
 ·rintro τ ⟨rs,fs,k5,k6,k7,k8,⟨PI,NR⟩,rfl⟩
  have hlen:=PI.len
  simp! only[vSeq,qap]
  have ek:(((rs.map prR).map (·.1)).map λw=>D.tup (w.map D.str))=(rs.map (·.1)).map wayD:=by
   rw[List.map_map,List.map_map,List.map_map]
   rfl
  refine⟨?_,?_,λds hp hs=>?_⟩
  ·rw[ek]
   exact qfr PI.nd
  ·(first|omega|(simp only[List.length_map];omega))
  ·rw[ek] at hp
   obtain⟨vs,rfl,hv,hso⟩:=qhf hp hs
   have hvl:vs.length=rs.length:=by rw[hv.length_eq,List.length_map]
   refine qia (λw=>rowD (w,lkR rs w)) vs (Nat.le_trans (show _<=1000 by omega) qa6) (λw mw Y N hY=>?_) ?_
   ·have mw':=hv.mem_iff.mp mw
    simp! only[vSeq,wayD]
    have wk:("" : Str)∉w:=by
     obtain⟨r,mr,er⟩:=List.mem_map.mp mw'
     rcases PI.row r mr with q|q
     ·rw[←er,q.1];simp
     ·rw[←er];exact q.2.1.ok.ne
    exact⟨by decide,wk,thD (lkR rs w),by rw[qbr];exact qlt PI.nd mw',by show 3<=sizeLine;decide,hY⟩
   ·simp! only[vSeq,true_and]
    have e:vs.map (λw=>rowD (w,lkR rs w))=(vs.map λw=>(w,lkR rs w)).map rowD:=by rw[List.map_map];rfl
    rw[e]
    obtain⟨p1,p2⟩:=qea PI.nd hv hso
    exact h _ (qym PI NR p1 p2) (by rw[p1.length_eq];exact Nat.le_trans PI.len (by omega)) (λr hr=>(PI.pane p1 p2).2.1 r hr)
def quo:TVS:=(vSeq (qfu 2 qf0)
 (vSeq (vFor (qc9 (vVar 0)) (qbu 3)
  (qg9 2 (vOp vIxR (vVar 3) (vC (.int 0))) (vOp vIxR (vVar 3) (vC (.int 1)))))
 (vSeq (qfu 4 qf0)
 (vSeq (vFor (qc9 (vVar 1)) (qbu 3)
  (vSeq (vSet 5 (vDIn (!·) (vOp vIxR (vVar 3) (vC (.int 0))) (vVar 2)))
 (vSeq (vFor (qhk (vF1 vLen (vOp vIxR (vVar 3) (vC (.int 0))))) (qbu 6)
  (vIfS (qez (vBl (vDIn id (qdh (vOp vIxR (vVar 3) (vC (.int 0))) qca (qc4 (vVar 6))) (vVar 2))) (vBl (vOp vNeD (qkt (vVar 2) (qdh (vOp vIxR (vVar 3) (vC (.int 0))) qca (qc4 (vVar 6)))) (vC (.str ("folder" : Str))))))
  (vSet 5 (vC (.bl false)))
  qbc))
 (vIfS (vBl (vVar 5))
  (qg9 4 (vOp vIxR (vVar 3) (vC (.int 0))) (vTup (qad (vOp vIxR (vVar 3) (vC (.int 1))) (qad (vOp vIxR (vVar 3) (vC (.int 2))) vNil))))
  qbc))))
 (vSeq (vFor (qc9 (vVar 0)) (qbu 3)
  (vIfS (vOrT (vBl (vOp vEq (vOp vIxR (vVar 3) (vC (.int 1))) (vC (.str ("file" : Str))))) (vBl (vOp vEq (vOp vIxR (vVar 3) (vC (.int 1))) (vC (.str ("link" : Str))))))
  (qg9 4 (vOp vIxR (vVar 3) (vC (.int 0))) (vTup (qad (vOp vIxR (vVar 3) (vC (.int 1))) (qad (vOp vIxR (vVar 3) (vC (.int 2))) vNil))))
  (vIfS (qez (vBl (vOp vNeD (vOp vIxR (vVar 3) (vC (.int 1))) (vC (.str ("gone" : Str))))) (vBl (vOp vNeD (vOp vIxR (vVar 3) (vC (.int 0))) (vTup vNil))))
  (qg9 4 (vOp vIxR (vVar 3) (vC (.int 0))) (vTup (qad (vC (.str ("folder" : Str))) (qad (vC (.str ("" : Str))) vNil))))
  qbc)))
 (vRet (qks (qc9 (vF1 qe0 (vF1 qhb (vVar 4)))) (qbu 7) (λ_ Q=>Q true) (vOp vAdd (vTup (qad (vVar 7) vNil)) (qkt (vVar 4) (vVar 7))) 1)))))))
abbrev qyt:List Str:=["_law_pane","_law_tree","_law_marks","_law_row","_law_shown","_law_kept","_law_k"]
theorem q1u:∀ds Q,qfz ds Q->quo (En Q) (qbg qyt ds):=by
 rintro ds Q ⟨p,tr,rfl,P,pn,pl,T,tn,hl,h⟩
 have big:1000<sizeLine:=by decide
 have ndp:=qak P.so
 have ndt:=qak T.so
 have nd:=qqs ndp ndt
 have ll:(qa0 p tr++putR p).length<=tr.length+bulk p:=qs9 p tr
 refine v_cut (λτ=>τ=[some (.val (qae p)),some (.val (qae tr)),some (.own (qap [])),none,none,none,none]) ?_ λnx hnx=>?now
 case now =>
  rfl'
  exact hnx _ rfl
 rintro τ rfl
 refine v_cut (λτ=>∃a,τ=[some (.val (qae p)),some (.val (qae tr)),some (.own (qap (p.map prM))),a,none,none,none]) ?_ λnx hnx=>?now
 case now =>
  dsimp! only[qae]
  refine qd1 (λi τ=>∃a,τ=[some (.val (qae p)),some (.val (qae tr)),some (.own (qap ((p.take i).map prM))),a,none,none,none]) ⟨none,rfl⟩ ?_ ?_
  ·rintro i r τ hr ⟨a,rfl⟩ nx2 hnx2
   have mr:=List.mem_of_getElem? hr
   have hi:=(List.getElem?_eq_some_iff.mp hr).1
   simp! only[vSeq,rowD,qap,wayD]
   refine⟨(pn r mr).ok.ne,?_,?_⟩
   ·rw[List.length_take]
    omega
   ·rw[qb9]
    have ni:¬ r.1∈((p.take i).map prM).map (·.1):=by
     rw[qsk]
     exact qi5 ndp hr
    have e:insP ((p.take i).map prM) r.1 (.str r.2.1)=(p.take (i+1)).map prM:=by
     unfold insP
     rw[if_neg ni,List.take_succ,hr,List.map_append]
     rfl
    rw[e]
    exact hnx2 _ ⟨some (.val (rowD r)),rfl⟩
  ·rintro τ ⟨a,rfl⟩
   rw[List.take_length]
   exact hnx _ ⟨a,rfl⟩
 rintro τ ⟨a,rfl⟩
 refine v_cut (λτ=>τ=[some (.val (qae p)),some (.val (qae tr)),some (.own (qap (p.map prM))),a,some (.own (qap [])),none,none]) ?_ λnx hnx=>?now
 case now =>
  rfl'
  exact hnx _ rfl
 rintro τ rfl
 refine v_cut (λτ=>∃a b c,τ=[some (.val (qae p)),some (.val (qae tr)),some (.own (qap (p.map prM))),a,some (.own (qap ((qa0 p tr).map prR))),b,c]) ?_ λnx hnx=>?now
 case now =>
  dsimp! only[qae]
  refine qd1 (λi τ=>∃a b c,τ=[some (.val (qae p)),some (.val (qae tr)),some (.own (qap (p.map prM))),a,some (.own (qap ((qa0 p (tr.take i)).map prR))),b,c]) ⟨a,none,none,rfl⟩ ?_ ?_
  ·rintro i r τ hr ⟨a,b,c,rfl⟩ nx2 hnx2
   have mr:=List.mem_of_getElem? hr
   have hi:=(List.getElem?_eq_some_iff.mp hr).1
   have wy:=(tn r mr).ok
   have wl:=wy.1
   have et:tr.take (i+1)=tr.take i++[r]:=by rw[List.take_succ,hr];rfl
   have al:(qa0 p (tr.take i)).length<=700:=by
    have:=List.length_filter_le (λr:Row=>!inR p r.1&&!qbh p r.1) (tr.take i)
    rw[List.length_take] at this
    have e:qa0 p (tr.take i)=(tr.take i).filter λr:Row=>!inR p r.1&&!qbh p r.1:=rfl
    rw[e]
    omega
   refine v_cut (λτ=>τ=[some (.val (qae p)),some (.val (qae tr)),some (.own (qap (p.map prM))),some (.val (rowD r)),some (.own (qap ((qa0 p (tr.take i)).map prR))),some (.val (.bl (!inR p r.1))),c]) ?_ λnx3 hnx3=>?now
   case now =>
    dsimp! only[rowD,qap,wayD]
    have l1:(lkD ((p.map prM).map (·.1)) ((p.map prM).map (·.2)) r.1).isSome=inR p r.1:=by
     rw[qbr,qm6,Option.isSome_map,qf4]
    rw[l1]
    exact⟨wy.ne,hnx3 _ rfl⟩
   rintro τ rfl
   refine v_cut (λτ=>∃c,τ=[some (.val (qae p)),some (.val (qae tr)),some (.own (qap (p.map prM))),some (.val (rowD r)),some (.own (qap ((qa0 p (tr.take i)).map prR))),some (.val (.bl (!inR p r.1&&!qbh p r.1))),c]) ?_ λnx3 hnx3=>?now
   case now =>
    dsimp! only[rowD,wayD]
    refine⟨by omega,by omega,qfn (λk τ=>∃c,τ=[some (.val (qae p)),some (.val (qae tr)),some (.own (qap (p.map prM))),some (.val (rowD r)),some (.own (qap ((qa0 p (tr.take i)).map prR))),some (.val (.bl (!inR p r.1&&!((List.range k).any λj=>qco (qbn p (r.1.take j)))))),c]) ⟨c,?_⟩ ?_ ?_⟩
    ·rw[List.range_zero,List.any_nil,Bool.not_false,Bool.and_true]
     rfl
    ·rintro k τ hk ⟨c,rfl⟩ nx4 hnx4
     have es:((List.range (k+1)).any λj=>qco (qbn p (r.1.take j)))=(((List.range k).any λj=>qco (qbn p (r.1.take j)))||qco (qbn p (r.1.take k))):=by
      rw[List.range_succ,List.any_append,List.any_cons,List.any_nil,Bool.or_false]
     have tk:("" : Str)∉r.1.take k:=λm=>wy.ne (List.mem_of_mem_take m)
     have no:qco (qbn p (r.1.take k))=false->∀c,nx4 [some (.val (qae p)),some (.val (qae tr)),some (.own (qap (p.map prM))),some (.val (rowD r)),some (.own (qap ((qa0 p (tr.take i)).map prR))),some (.val (.bl (!inR p r.1&&!((List.range k).any λj=>qco (qbn p (r.1.take j)))))),c]:=λq c=>hnx4 _ ⟨c,by rw[es,q,Bool.or_false]⟩
     have yes:qco (qbn p (r.1.take k))=true->∀c,nx4 [some (.val (qae p)),some (.val (qae tr)),some (.own (qap (p.map prM))),some (.val (rowD r)),some (.own (qap ((qa0 p (tr.take i)).map prR))),some (.val (.bl false)),c]:=λq c=>hnx4 _ ⟨c,by rw[es,q,Bool.or_true,Bool.not_true,Bool.and_false]⟩
     dsimp! only[rowD,qap,wayD]
     simp only[qe7]
     refine⟨tk,?_⟩
     rw[qbr,qm6]
     cases e:qbn p (r.1.take k) with
    |none =>
      refine iteF ?_
      exact no (by rw[e];rfl) _
    |some m =>
      refine iteT ⟨tk,.str m,rfl,?_⟩
      rfl'
      by_cases q:m=qag
      ·rw[decide_eq_true q]
       exact iteF (no (by rw[e,q];simp[qco]) _)
      ·rw[decide_eq_false q]
       exact iteT (yes (by rw[e];simp[qco,q]) _)
    ·rintro τ ⟨c,rfl⟩
     exact hnx3 _ ⟨c,rfl⟩
   rintro τ ⟨c,rfl⟩
   dsimp! only[rowD,wayD]
   cases q:(!inR p r.1&&!qbh p r.1) with
  |false =>
    refine iteF (hnx2 _ ⟨some (.val (rowD r)),some (.val (.bl false)),c,?_⟩)
    have:qa0 p (tr.take (i+1))=qa0 p (tr.take i):=by
     unfold qa0
     rw[et,List.filter_append,List.filter_cons_of_neg (by rw[q];exact Bool.false_ne_true),List.filter_nil,List.append_nil]
    rw[this]
    rfl
  |true =>
    refine iteT ?_
    dsimp! only[qap,wayD]
    refine⟨by decide,wy.ne,by omega,?_⟩
    rw[qb9]
    have this:qa0 p (tr.take (i+1))=qa0 p (tr.take i)++[r]:=by
     unfold qa0
     rw[et,List.filter_append,List.filter_cons_of_pos (by rw[q]),List.filter_nil]
    have ins:insP ((qa0 p (tr.take i)).map prR) r.1 (.tup [.str r.2.1,.str r.2.2])=(qa0 p (tr.take (i+1))).map prR:=by
     unfold insP
     rw[qjc,if_neg,this,List.map_append]
     ·rfl
     ·intro m
      obtain⟨o,mo,eo⟩:=List.mem_map.mp m
      exact qi5 ndt hr (List.mem_map.mpr ⟨o,(List.mem_filter.mp mo).1,eo⟩)
    rw[ins]
    exact hnx2 _ ⟨some (.val (rowD r)),some (.val (.bl true)),c,rfl⟩
  ·rintro τ ⟨a,b,c,rfl⟩
   rw[List.take_length]
   exact hnx _ ⟨a,b,c,rfl⟩
 clear a
 rintro τ ⟨a,b,c,rfl⟩
 refine v_cut (λτ=>∃a,τ=[some (.val (qae p)),some (.val (qae tr)),some (.own (qap (p.map prM))),a,some (.own (qap ((qa0 p tr++putR p).map prR))),b,c]) ?_ λnx hnx=>?now
 case now =>
  dsimp! only[qae]
  refine qd1 (λi τ=>∃a,τ=[some (.val (qae p)),some (.val (qae tr)),some (.own (qap (p.map prM))),a,some (.own (qap ((qa0 p tr++qbk (p.take i)).map prR))),b,c]) ⟨a,?_⟩ ?_ ?_
  ·show _=[_,_,_,_,some (R.own (qap ((qa0 p tr++[]).map prR))),_,_]
   rw[List.append_nil]
   rfl
  ·rintro i r τ hr ⟨a,rfl⟩ nx2 hnx2
   have mr:=List.mem_of_getElem? hr
   have hi:=(List.getElem?_eq_some_iff.mp hr).1
   have wy:=(pn r mr).ok
   have et:p.take (i+1)=p.take i++[r]:=by rw[List.take_succ,hr];rfl
   have al:(qa0 p tr++qbk (p.take i)).length<=950:=by
    have h1:=List.length_filter_le (λr:Row=>!inR p r.1&&!qbh p r.1) tr
    have h2:(qbk (p.take i)).length<=(p.take i).length:=by
     unfold qbk
     rw[List.length_map]
     exact List.length_filter_le _ _
    rw[List.length_take] at h2
    have e:qa0 p tr=tr.filter λr:Row=>!inR p r.1&&!qbh p r.1:=rfl
    rw[List.length_append,e]
    omega
   have nin:r.1∉(qa0 p tr++qbk (p.take i)).map (·.1):=λm=>by
    rw[List.map_append] at m
    rcases List.mem_append.mp m with m|m
    ·obtain⟨o,mo,eo⟩:=List.mem_map.mp m
     have:=(List.mem_filter.mp mo).2
     have i1:inR p o.1=true:=decide_eq_true (List.mem_map.mpr ⟨r,mr,eo.symm⟩)
     rw[i1] at this
     cases this
    ·obtain⟨o,mo,eo⟩:=List.mem_map.mp m
     unfold qbk at mo
     obtain⟨o2,mo2,rfl⟩:=List.mem_map.mp mo
     have e2:o2.1=r.1:=by
      rw[←eo]
      split<;>rfl
     exact qi5 ndp hr (List.mem_map.mpr ⟨o2,(List.mem_filter.mp mo2).1,e2⟩)
   have step:qbk (p.take (i+1))=qbk (p.take i)++qbk [r]:=by
    unfold qbk
    rw[et,List.filter_append,List.map_append]
   have ins:∀x:Str×Str,insP ((qa0 p tr++qbk (p.take i)).map prR) r.1 (thD x)=(qa0 p tr++(qbk (p.take i)++[(r.1,x)])).map prR:=λx=>by
    unfold insP
    rw[qjc,if_neg nin,←List.append_assoc,List.map_append (l₂:=[(r.1,x)])]
    rfl
   have put:∀x:Str×Str,qbk [r]=[(r.1,x)]->("" : Str)∉r.1/\(qa0 p tr++qbk (p.take i)).length<sizeLine/\nx2 [some (.val (qae p)),some (.val (qae tr)),some (.own (qap (p.map prM))),some (.val (rowD r)),some (.own (qap (insP ((qa0 p tr++qbk (p.take i)).map prR) r.1 (thD x)))),b,c]:=λx e=>⟨wy.ne,by omega,by
    rw[ins]
    exact hnx2 _ ⟨some (.val (rowD r)),by rw[step,e]⟩⟩
   have skip:qbk [r]=[]->nx2 [some (.val (qae p)),some (.val (qae tr)),some (.own (qap (p.map prM))),some (.val (rowD r)),some (.own (qap ((qa0 p tr++qbk (p.take i)).map prR))),b,c]:=λe=>hnx2 _ ⟨some (.val (rowD r)),by rw[step,e,List.append_nil]⟩
   have e0:eqD (.tup (r.1.map D.str)) (.tup [])=decide (r.1=[]):=eqW r.1 []
   dsimp! only[rowD,wayD,qap]
   rw[qb9,qb9]
   by_cases m1:r.2.1=qb6
   ·rw[decide_eq_true m1]
    exact iteT ⟨by decide,put r.2 (by simp[qbk,m1])⟩
   rw[decide_eq_false m1]
   refine iteF ?_
   by_cases m2:r.2.1=qb7
   ·rw[decide_eq_true m2]
    exact iteT ⟨by decide,put r.2 (by simp[qbk,m2])⟩
   rw[decide_eq_false m2]
   refine iteF ?_
   by_cases m3:r.2.1=qay
   ·rw[decide_eq_true m3]
    exact iteF (skip (by simp only[qbk,List.filter_cons,List.filter_nil,decide_eq_false m1,decide_eq_false m2,decide_eq_true m3];rfl))
   rw[decide_eq_false m3]
   refine iteT ⟨cmpW _ [],depW _,?_⟩
   rw[e0]
   by_cases h0:r.1=[]
   ·rw[decide_eq_true h0]
    exact iteF (skip (by simp only[qbk,List.filter_cons,List.filter_nil,decide_eq_false m1,decide_eq_false m2,decide_eq_false m3,decide_eq_true h0];rfl))
   rw[decide_eq_false h0]
   refine iteT ⟨by decide,put (qag,qaz) ?_⟩
   simp only[qbk,List.filter_cons,List.filter_nil,decide_eq_false m1,decide_eq_false m2,decide_eq_false m3,decide_eq_false h0]
   simp[m1,m2]
  ·rintro τ ⟨a,rfl⟩
   rw[List.take_length,qqt P]
   exact hnx _ ⟨a,rfl⟩
 clear a
 rintro τ ⟨a,rfl⟩
 generalize hL:qa0 p tr++putR p=L at *
 have wk:∀w∈L.map (·.1),("" : Str)∉w:=λw mw=>by
  obtain⟨r,mr,rfl⟩:=List.mem_map.mp mw
  rw[←hL] at mr
  rcases List.mem_append.mp mr with q|q
  ·exact(tn r (List.mem_filter.mp q).1).ok.ne
  ·unfold putR at q
   obtain⟨o,mo,rfl⟩:=List.mem_map.mp q
   rw[qfq]
   exact(pn o (List.mem_filter.mp mo).1).ok.ne
 dsimp! only[qap]
 have ek:(((L.map prR).map (·.1)).map λw=>D.tup (w.map D.str))=(L.map (·.1)).map wayD:=by
  rw[List.map_map,List.map_map,List.map_map]
  rfl
 refine⟨?_,?_,λds hp hs=>?_⟩
 ·rw[ek]
  exact qfr nd
 ·(first|omega|(simp only[List.length_map];omega))
 ·rw[ek] at hp
  obtain⟨vs,rfl,hv,hso⟩:=qhf hp hs
  have hvl:vs.length=L.length:=by rw[hv.length_eq,List.length_map]
  refine qia (λw=>rowD (w,lkR L w)) vs (Nat.le_trans (show _<=1000 by omega) qa6) (λw mw Y N hY=>?_) ?_
  ·have mw':=hv.mem_iff.mp mw
   dsimp! only[wayD]
   exact⟨by decide,wk w mw',thD (lkR L w),by rw[qbr];exact qlt nd mw',by show 3<=sizeLine;decide,hY⟩
  ·rfl'
   have e:vs.map (λw=>rowD (w,lkR L w))=(vs.map λw=>(w,lkR L w)).map rowD:=by rw[List.map_map];rfl
   rw[e]
   obtain⟨p1,p2⟩:=qea nd hv hso
   have el:qd5 p tr=vs.map λw=>(w,lkR L w):=by
    unfold qd5
    rw[hL]
    exact qnq p1 p2
   have p3:(qd5 p tr).Perm (qa0 p tr++putR p):=by rw[el,hL];exact p1
   have p4:qat (qd5 p tr):=by rw[el];exact p2
   rw[←el]
   refine h (qj4 P T p3 p4) (λr hr=>?_) (by rw[p3.length_eq,hL];exact ll)
   rcases List.mem_append.mp (p3.mem_iff.mp hr) with q|q
   ·exact tn r (List.mem_filter.mp q).1
   ·unfold putR at q
    obtain⟨o,mo,rfl⟩:=List.mem_map.mp q
    rw[qfq]
    exact pn o (List.mem_filter.mp mo).1
def qpn:TVS:=(vSeq (vIfS (vOrT (qda (vBl (qfg .list (vVar 0)))) (vBl (vOp vNeD (vF1 vLen (vVar 0)) (vF1 vLen (vVar 1)))))
  (vRet (vC (.bl false)))
  qbc)
 (vSeq (vFor (qhk (vF1 vLen (vVar 1))) (qbu 2)
  (vSeq (vSet 3 (vOp vIxR (vVar 0) (vVar 2)))
 (vSeq (vIfS (vOrT (qda (vBl (qfg .tuple (vVar 3)))) (vOrT (vBl (vOp vNeD (vF1 vLen (vVar 3)) (vC (.int 3)))) (qda (vBl (qfg .tuple (vOp vIxR (vVar 3) (vC (.int 0))))))))
  (vRet (vC (.bl false)))
  qbc)
 (vIfS (vOrT (qda (vBl (qfg .str (vOp vIxR (vVar 3) (vC (.int 1)))))) (vOrT (qda (vBl (qfg .str (vOp vIxR (vVar 3) (vC (.int 2)))))) (vBl (vOp vNeD (vVar 3) (vOp vIxR (vVar 1) (vVar 2))))))
  (vRet (vC (.bl false)))
  qbc))))
 (vRet (vC (.bl true)))))
abbrev qyu:List Str:=["_law_found","_law_due","_law_k","_law_row"]
theorem q1v:∀ds Q,g_same ds Q->qpn (En Q) (qbg qyu ds):=by
 rintro ds Q ⟨rs,rfl,hl,h⟩
 simp! only[vSeq,qpn,qae]
 refine⟨by omega,by omega,qfn (λi τ=>∃kv rv,τ=[some (.val (.lst (rs.map rowD))),some (.val (.lst (rs.map rowD))),kv,rv]) ⟨none,none,rfl⟩ ?_ ?_⟩
 ·rintro i τ hi ⟨kv,rv,rfl⟩ nx hnx
  simp! only[vSeq,true_and]
  obtain⟨y,hy,_⟩:=qdu (xs:=rs) (k:=(i:Int)) (by omega) (by omega)
  have hy2:atI (rs.map rowD) (i:Int)=some (rowD y):=by rw[qcv,hy];rfl
  refine⟨_,hy2,?_⟩
  have e3:decide (((3:Nat):Int)=3)=true:=by decide
  have hy3:atI (rs.map rowD) (i:Int)=some (.tup [.tup (y.1.map D.str),.str y.2.1,.str y.2.2]):=hy2
  simp! only[vSeq,rowD,wayD]
  rw[e3]
  simp! only[vSeq,true_and]
  refine⟨_,hy3,cmpR y y,Nat.le_trans (depR y) (by decide),?_⟩
  simp only[qcp]
  exact hnx _ ⟨_,_,rfl⟩
 ·rintro τ ⟨kv,rv,rfl⟩
  simp! only[vSeq,true_and]
  exact h
def qdy:TVS:=(qnv 2 3 (qc9 (vVar 0)) (vOp vIxR (vOp vIxR (vVar 3) (vC (.int 0))) (vVar 1)))
abbrev qje:List Str:=["entries","depth","heaps","entry"]
theorem qk0:∀ds Q,qbl ds Q->qdy (En Q) (qbg qje ds):=by
 rintro ds Q ⟨rs,d,rfl,hd,hl,h⟩
 dsimp! only[qdy,qae]
 refine⟨rfl,by decide,by decide,by decide,Nat.lt_of_le_of_lt hl (by decide),qd4 d,λe me=>?_,h⟩
 obtain⟨r,mr,rfl⟩:=List.mem_map.mp me
 have hr:=hd r mr
 refine⟨wayD r.1,rfl,.str (nmAt d r),?_,by rw[qqp]⟩
 show atI (r.1.map D.str) (d:Int)=some (.str (nmAt d r))
 rw[qcv,qk7 (List.getElem?_eq_getElem hr)]
 unfold nmAt
 rw[List.getD_eq_getElem?_getD,List.getElem?_eq_getElem hr]
 rfl
def qf9:TVS:=(vRet (qkw 0 1))
abbrev qpb:List Str:=["one","other"]
theorem qse:∀ds Q,qde ds Q->qf9 (En Q) (qbg qpb ds):=by
 rintro ds Q ⟨d,one,other,rfl,hl,h⟩
 have l1:=qqh d one
 have l2:=qqh d other
 dsimp! only[qf9,qm1]
 refine⟨by omega,λws iff so=>?_⟩
 rw[qs6 (d:=d) (one:=one) (other:=other) (λw=>by rw[iff,hpK_mem,hpK_mem]) so]
 exact h
def qev:TVS:=(vRet (qme (vOp vNeD (vVar 0) (vLst vNil)) (vOp vEq (vOp vIxR (vOp vIxR (vVar 0) (vC (.int 0))) (vC (.int 1))) (vC (.str ("folder" : Str))))))
abbrev qk4:List Str:=["heap"]
theorem qmi:∀ds Q,qbv ds Q->qev (En Q) (qbg qk4 ds):=by
 rintro ds Q ⟨rs,rfl,h⟩
 dsimp! only[qev,qae]
 refine⟨qjr rs [],Nat.le_trans (qju rs) (by decide),?_⟩
 have e:=eqRL rs []
 unfold qae at e
 rw[List.map_nil] at e
 rw[e]
 cases rs with
|nil=>exact h
|cons r rs =>
  refine⟨rowD r,rfl,.str r.2.1,rfl,rfl,by show depD (.str r.2.1)<=50;unfold depD;decide,?_⟩
  rw[eq_str]
  exact h
def qf7:TVS:=(vRet (vIfE (vBl (vOp vLt (vF1 vLen (vVar 1)) (vF1 vLen (vVar 0)))) (vVar 1) (vVar 0)))
abbrev qpa:List Str:=["first","second"]
theorem qsd:∀ds Q,qcx ds Q->qf7 (En Q) (qbg qpa ds):=by
 rintro ds Q ⟨a,b,rfl,h⟩
 dsimp! only[qf7,qae]
 unfold qf1 at h
 by_cases l:b.length<a.length
 ·rw[if_pos l] at h
  rw[decide_eq_true (Int.ofNat_lt.mpr l)]
  exact h
 ·rw[if_neg l] at h
  rw[decide_eq_false λz=>l (Int.ofNat_lt.mp z)]
  exact h
def qe6(m:Nat):TVS:=(vSeq (vSet 3 (qan qbl (qad (vVar 0) (qad (vVar 2) vNil))))
 (vSeq (vSet 4 (qan qbl (qad (vVar 1) (qad (vVar 2) vNil))))
 (vSeq (qfu 5 (vLst vNil))
 (vSeq (vFor (qc9 (qan qde (qad (vVar 3) (qad (vVar 4) vNil)))) (qbu 6)
  (qi6 5 (qan (qba m) (qad (qkv (vVar 3) (vVar 6) (vLst vNil)) (qad (qkv (vVar 4) (vVar 6) (vLst vNil)) vNil)))))
 (qrz 5)))))
abbrev qh5:List Str:=["one","other","depth","ones","others","drawn","name"]
theorem qjb(m:Nat):∀ds Q,qa1 m ds Q->qe6 m (En Q) (qbg qh5 ds):=by
 rintro ds Q ⟨b,one,other,rfl,O,P,hl,h1,h2,h⟩
 have so:∀(rs:List Row) (Y:R->Prop),Cl b rs->rs.length<=60->Y (.val (hpD b.length rs))->qbl [qae rs,.int b.length] Y:=λrs Y C l y=>⟨rs,b.length,rfl,λr mr=>(C.un r mr).2,by omega,y⟩
 have ko:∀Y:R->Prop,Y (.own (.lst ((qc3 b.length one other).map D.str)))->qde [hpD b.length one,hpD b.length other] Y:=λY y=>⟨b.length,one,other,rfl,hl,y⟩
 have kl:(qc3 b.length one other).length<=60:=Nat.le_trans (qj3 ..) hl
 refine v_cut (λτ=>τ=[some (.val (qae one)),some (.val (qae other)),some (.val (.int b.length)),some (.val (hpD b.length one)),none,none,none]) ?_ λnx hnx=>?now
 case now =>
  rfl'
  refine so one _ O (by omega) ?_
  rfl'
  exact hnx _ rfl
 rintro τ rfl
 refine v_cut (λτ=>τ=[some (.val (qae one)),some (.val (qae other)),some (.val (.int b.length)),some (.val (hpD b.length one)),some (.val (hpD b.length other)),none,none]) ?_ λnx hnx=>?now
 case now =>
  rfl'
  refine so other _ P (by omega) ?_
  rfl'
  exact hnx _ rfl
 rintro τ rfl
 refine v_cut (λτ=>τ=[some (.val (qae one)),some (.val (qae other)),some (.val (.int b.length)),some (.val (hpD b.length one)),some (.val (hpD b.length other)),some (.own (qae [])),none]) ?_ λnx hnx=>?now
 case now =>
  rfl'
  exact hnx _ rfl
 rintro τ rfl
 refine v_cut (λτ=>∃a,τ=[some (.val (qae one)),some (.val (qae other)),some (.val (.int b.length)),some (.val (hpD b.length one)),some (.val (hpD b.length other)),some (.own (qae (qb2 m b.length one other))),a]) ?_ λnx hnx=>?now
 case now =>
  rfl'
  refine ko _ ?_
  rfl'
  refine qd1 (λi τ=>∃a acc,acc=((qc3 b.length one other).take i).flatMap (λz=>qdw m (grp b.length z one) (grp b.length z other))/\acc.length<=60*i/\τ=[some (.val (qae one)),some (.val (qae other)),some (.val (.int b.length)),some (.val (hpD b.length one)),some (.val (hpD b.length other)),some (.own (qae acc)),a]) ⟨none,[],rfl,Nat.le_refl _,rfl⟩ ?_ ?_
  ·rintro i z τ hz ⟨a,acc,ea,al,rfl⟩ nx2 hnx2
   have hi:=(List.getElem?_eq_some_iff.mp hz).1
   have mz:=List.mem_of_getElem? hz
   have et:(qc3 b.length one other).take (i+1)=(qc3 b.length one other).take i++[z]:=by rw[List.take_succ,hz];rfl
   have g1:(grp b.length z one).length<=one.length:=List.length_filter_le ..
   have g2:(grp b.length z other).length<=other.length:=List.length_filter_le ..
   have dl:(qdw m (grp b.length z one) (grp b.length z other)).length<=60:=by have:=qjt m (grp b.length z one) (grp b.length z other);omega
   have m0:0<m:=by
    rcases keysR_mem.mp mz with q|q
    ·obtain⟨r,mr,_⟩:=List.mem_map.mp q
     have:=(O.un r mr).2
     have:=h1 r mr
     omega
    ·obtain⟨r,mr,_⟩:=List.mem_map.mp q
     have:=(P.un r mr).2
     have:=h2 r mr
     omega
   have lz:(b++[z]).length=b.length+1:=by rw[List.length_append,List.length_singleton]
   have dh:∀Y:R->Prop,Y (.own (qae (qdw m (grp b.length z one) (grp b.length z other))))->Y (.val (qae (qdw m (grp b.length z one) (grp b.length z other))))->qba m [qae (grp b.length z one),qae (grp b.length z other)] Y:=λY y1 y2=>⟨b++[z],_,_,rfl,m0,O.grp z,P.grp z,by omega,λr mr=>by have:=h1 r (grp_mem.mp mr).1;omega,λr mr=>by have:=h2 r (grp_mem.mp mr).1;omega,y1,y2⟩
   have s1000:10000<=sizeLine:=by decide
   have fin:nx2 [some (.val (qae one)),some (.val (qae other)),some (.val (.int b.length)),some (.val (hpD b.length one)),some (.val (hpD b.length other)),some (.own (qae (acc++qdw m (grp b.length z one) (grp b.length z other)))),some (.val (.str z))]:=hnx2 _ ⟨_,_,by rw[et,List.flatMap_append,←ea];simp,by rw[List.length_append];omega,rfl⟩
   unfold qae at fin
   rw[List.map_append] at fin
   rw[qm1,qm1] at fin
   dsimp! only[qm1,qae]
   rcases qwf b.length one z with e1|⟨e1,z1⟩
   ·rcases qwf b.length other z with e2|⟨e2,z2⟩
    ·rw[e1,e2]
     refine dh _ ?_ ?_
     ·dsimp! only[qae]
      exact⟨by omega,fin⟩
     ·dsimp! only[qae]
      exact⟨by omega,fin⟩
    ·rw[e1,e2]
     rw[z2] at dh fin dl
     refine dh _ ?_ ?_
     ·dsimp! only[qae]
      exact⟨by omega,fin⟩
     ·dsimp! only[qae]
      exact⟨by omega,fin⟩
   ·rcases qwf b.length other z with e2|⟨e2,z2⟩
    ·rw[e1,e2]
     rw[z1] at dh fin dl
     refine dh _ ?_ ?_
     ·dsimp! only[qae]
      exact⟨by omega,fin⟩
     ·dsimp! only[qae]
      exact⟨by omega,fin⟩
    ·rw[e1,e2]
     rw[z1,z2] at dh fin dl
     refine dh _ ?_ ?_
     ·dsimp! only[qae]
      exact⟨by omega,fin⟩
     ·dsimp! only[qae]
      exact⟨by omega,fin⟩
  ·rintro τ ⟨a,acc,ea,al,rfl⟩
   rw[List.take_length] at ea
   rw[ea]
   exact hnx _ ⟨a,rfl⟩
 rintro τ ⟨a,rfl⟩
 simp! only[vSeq,true_and]
 exact h
def qfw(m:Nat):TVS:=(vSeq (vIfS (vBl (vOp vEq (vVar 0) (vVar 1)))
  (vRet (vLst vNil))
  qbc)
 (vSeq (vIfS (vBl (vOp vEq (vVar 1) (vLst vNil)))
  (vRet (vLst (qad (vTup (qad (vOp vIxR (vOp vIxR (vVar 0) (vC (.int 0))) (vC (.int 0))) (qad (vC (.str ("gone" : Str))) (qad (vC (.str ("" : Str))) vNil)))) vNil)))
  qbc)
 (vSeq (vIfS (vOrT (qda (vBl (qan qbv (qad (vVar 0) vNil)))) (qda (vBl (qan qbv (qad (vVar 1) vNil)))))
  (vRet (vVar 1))
  qbc)
 (vSeq (vSet 2 (vOp vIxR (vOp vIxR (vVar 1) (vC (.int 0))) (vC (.int 0))))
 (vSeq (vSet 3 (vOp vAdd (vLst (qad (vOp vIxR (vVar 1) (vC (.int 0))) vNil)) (qan (qa1 m) (qad (qdh (vVar 0) (qc4 (vC (.int 1))) qca) (qad (qdh (vVar 1) (qc4 (vC (.int 1))) qca) (qad (vF1 vLen (vVar 2)) vNil))))))
 (vRet (qan qcx (qad (vVar 3) (qad (vOp vAdd (vLst (qad (vTup (qad (vVar 2) (qad (vC (.str ("shut" : Str))) (qad (vC (.str ("" : Str))) vNil)))) vNil)) (qdh (vVar 1) (qc4 (vC (.int 1))) qca)) vNil)))))))))
abbrev qjd:List Str:=["one","other","way","kept"]
theorem qkz(m:Nat):∀ds Q,qba (m+1) ds Q->qfw m (En Q) (qbg qjd ds):=by
 rintro ds Q ⟨v,one,other,rfl,_,O,P,hl,h1,h2,ho,hv⟩
 unfold qdw at ho hv
 have s1000:10000<=sizeLine:=by decide
 refine qe1 (λc=>c=decide (one=other)) (λY y=>?t1) (λe=>?y1) λe=>?_
 case t1 =>
  rfl'
  exact⟨qjr one other,Nat.le_trans (qju one) (by decide),y _ (eqRL one other)⟩
 case y1 =>
  rw[if_pos (of_decide_eq_true e.symm)] at ho
  rfl'
  exact ho
 have ne:one≠other:=of_decide_eq_false e.symm
 rw[if_neg ne] at ho hv
 refine qe1 (λc=>c=decide (other=[])) (λY y=>?t2) (λe=>?y2) λe=>?_
 case t2 =>
  rfl'
  exact⟨qjr other [],Nat.le_trans (qju other) (by decide),y _ (eqRL other [])⟩
 case y2 =>
  have eo:=of_decide_eq_true e.symm
  subst eo
  rcases O with rfl|⟨mt,tl,rfl,H⟩
  ·exact absurd rfl ne
  ·dsimp! only[qae,rowD,wayD]
   exact⟨by omega,by omega,ho⟩
 have no:other≠[]:=of_decide_eq_false e.symm
 rcases P with rfl|⟨mt,tl,rfl,H⟩
 ·exact absurd rfl no
 dsimp only at ho hv
 have gf:∀(rs:List Row) (Y:R->Prop),Y (.val (.bl (isF rs)))->qbv [qae rs] Y:=λrs Y y=>⟨rs,rfl,y⟩
 refine qe1 (λc=>c=!(isF one&&isF ((v,mt)::tl))) (λY y=>?t3) (λe=>?y3) λe=>?_
 case t3 =>
  rfl'
  refine gf _ _ ?_
  rfl'
  cases h1:isF one with
 |false=>exact y _ (by rw[h1];rfl)
 |true =>
   rw[if_neg (by decide)]
   refine gf _ _ ?_
   rfl'
   exact y _ (by rw[h1];rfl)
 case y3 =>
  rw[if_neg λz=>by rw[z] at e;cases e] at hv
  rfl'
  exact hv
 have bf:(isF one&&isF ((v,mt)::tl))=true:=by
  cases hx:(isF one&&isF ((v,mt)::tl)) with
 |true=>rfl
 |false=>rw[hx] at e;cases e
 rw[if_pos bf] at ho hv
 rcases O with rfl|⟨mt1,t1,rfl,H1⟩
 ·cases (Bool.and_eq_true_iff.mp bf).1
 have c1:∀(x:Row) (xs:List Row),cutL ((x::xs).map rowD) (some 1) none=xs.map rowD:=λx xs=>by
  have:=qps ((x::xs).map rowD) 1
  rw[List.map_cons,List.drop_succ_cons,List.drop_zero] at this
  exact this
 have l1:((v,mt1)::t1).length=t1.length+1:=rfl
 have l2:((v,mt)::tl).length=tl.length+1:=rfl
 have dn:∀Y:R->Prop,Y (.own (qae (qb2 m v.length t1 tl)))->qa1 m [qae t1,qae tl,.int v.length] Y:=λY y=>⟨v,t1,tl,rfl,H1.cl,H.cl,by omega,λr mr=>by have:=h1 r (List.mem_cons_of_mem _ mr);omega,λr mr=>by have:=h2 r (List.mem_cons_of_mem _ mr);omega,y⟩
 have ch:∀(a b:List Row) (Y:R->Prop),Y (.val (qae (qf1 a b)))->qcx [qae a,qae b] Y:=λa b Y y=>⟨a,b,rfl,y⟩
 have nl:=qn9 m v.length (one:=t1) (other:=tl) (by omega)
 refine v_cut (λτ=>τ=[some (.val (qae ((v,mt1)::t1))),some (.val (qae ((v,mt)::tl))),some (.val (wayD v)),none]) ?_ λnx hnx=>?now
 case now =>
  dsimp! only[qae,rowD]
  exact hnx _ rfl
 rintro τ rfl
 refine v_cut (λτ=>τ=[some (.val (qae ((v,mt1)::t1))),some (.val (qae ((v,mt)::tl))),some (.val (wayD v)),some (.val (qae ((v,mt)::qb2 m v.length t1 tl)))]) ?_ λnx hnx=>?now
 case now =>
  dsimp! only[qae,wayD]
  have e1:=c1 (v,mt1) t1
  have e2:=c1 (v,mt) tl
  rw[List.map_cons] at e1 e2
  rw[e1,e2]
  refine⟨by omega,dn _ ?_⟩
  dsimp! only[qae]
  exact⟨by omega,hnx _ rfl⟩
 rintro τ rfl
 dsimp! only[qae]
 have e2:=c1 (v,mt) tl
 rw[List.map_cons] at e2
 rw[e2]
 refine⟨by omega,by omega,by rw[List.length_map];omega,ch ((v,mt)::qb2 m v.length t1 tl) ((v,qar,qaz)::tl) _ ?_⟩
 rfl'
 exact hv
def qun:TVS:=(vSeq (vIfS (vBl (vOp vEq (vVar 0) (vVar 1)))
  (vRet (vLst vNil))
  qbc)
 (qfh (qan (qa1 20) (qad (vVar 0) (qad (vVar 1) (qad (vC (.int 0)) vNil)))) (vOp vAdd (vLst (qad (vTup (qad (vTup vNil) (qad (vC (.str ("shut" : Str))) (qad (vC (.str ("" : Str))) vNil)))) vNil)) (vVar 1))))
abbrev qys:List Str:=["one","other"]
theorem q1t:∀ds Q,qd2 ds Q->qun (En Q) (qbg qys ds):=by
 rintro ds Q ⟨one,other,rfl,O,P,hl,h1,h2,h⟩
 unfold qd0 at h
 have s1000:10000<=sizeLine:=by decide
 refine qe1 (λc=>c=decide (one=other)) (λY y=>?t1) (λe=>?y1) λe=>?_
 case t1 =>
  rfl'
  exact⟨qjr one other,Nat.le_trans (qju one) (by decide),y _ (eqRL one other)⟩
 case y1 =>
  rw[if_pos (of_decide_eq_true e.symm)] at h
  rfl'
  exact h
 have ne:=of_decide_eq_false e.symm
 rw[if_neg ne] at h
 have hl:=hl.resolve_left ne
 have dn:∀Y:R->Prop,Y (.own (qae (qb2 20 0 one other)))->qa1 20 [qae one,qae other,.int 0] Y:=λY y=>⟨[],one,other,rfl,O,P,hl,λr mr=>by have:=h1 r mr;simpa using this,λr mr=>by have:=h2 r mr;simpa using this,y⟩
 rfl'
 refine dn _ ?_
 dsimp! only[qae]
 refine⟨by omega,by omega,by omega,?_⟩
 unfold qf1 at h
 by_cases l:other.length+1<(qb2 20 0 one other).length
 ·rw[if_pos (show (([],qar,qaz)::other:List Row).length<(qb2 20 0 one other).length from l)] at h
  rw[if_pos l]
  exact h
 ·rw[if_neg (show ¬ (([],qar,qaz)::other:List Row).length<(qb2 20 0 one other).length from l)] at h
  rw[if_neg l]
  exact h
def qhp:TVS:=(vSeq (vIfS (vOrT (qda (vBl (qfg .tuple (vVar 1)))) (vOrT (vBl (vOp vNeD (vF1 vLen (vVar 1)) (vC (.int 3)))) (qda (vBl (qfg .tuple (vOp vIxR (vVar 1) (vC (.int 0))))))))
  (vRet (vC (.bl false)))
  qbc)
 (vSeq (vIfS (vOrT (qda (vBl (qfg .str (vOp vIxR (vVar 1) (vC (.int 1)))))) (qda (vBl (qfg .str (vOp vIxR (vVar 1) (vC (.int 2)))))))
  (vRet (vC (.bl false)))
  qbc)
 (vSeq (vFor (qc9 (vOp vIxR (vVar 1) (vC (.int 0)))) (qbu 2)
  (vIfS (qda (vBl (qfg .str (vVar 2))))
  (vRet (vC (.bl false)))
  qbc))
 (vSeq (vIfS (qez (vBl (vOp (vIn (!·)) (vOp vIxR (vVar 1) (vC (.int 1))) (vTup (qad (vC (.str ("file" : Str))) (qad (vC (.str ("link" : Str))) vNil))))) (vBl (vOp vNeD (vOp vIxR (vVar 1) (vC (.int 2))) (vC (.str ("" : Str))))))
  (vRet (vC (.bl false)))
  qbc)
 (vSeq (vIfS (vBl (vOp vEq (vOp vIxR (vVar 1) (vC (.int 0))) (vTup vNil)))
  (vRet (vOp vEq (vOp vIxR (vVar 1) (vC (.int 1))) (vC (.str ("shut" : Str)))))
  qbc)
 (vSeq (vSet 3 (qdh (vOp vIxR (vVar 1) (vC (.int 0))) qca (qc4 (vNeg (vC (.int 1))))))
 (vSeq (vIfS (qez (vBl (vOp vNeD (vVar 3) (vTup vNil))) (vBl (vOp (vIn (!·)) (qku (vVar 0) (vVar 3)) (vTup (qad (vC (.str ("folder" : Str))) (qad (vC (.str ("shut" : Str))) vNil))))))
  (vRet (vC (.bl false)))
  qbc)
 (vSeq (vIfS (vBl (vOp (vIn (!·)) (vOp vIxR (vVar 1) (vC (.int 1))) (vTup (qad (vC (.str ("gone" : Str))) (qad (vC (.str ("shut" : Str))) vNil)))))
  (vRet (vOp (vIn id) (vOp vIxR (vVar 1) (vC (.int 1))) (vTup (qad (vC (.str ("file" : Str))) (qad (vC (.str ("link" : Str))) (qad (vC (.str ("folder" : Str))) vNil))))))
  qbc)
 (vSeq (vFor (qhk (vF1 vLen (vOp vIxR (vVar 1) (vC (.int 0))))) (qbu 4)
  (vIfS (vBl (vOp vEq (qku (vVar 0) (qdh (vOp vIxR (vVar 1) (vC (.int 0))) qca (qc4 (vVar 4)))) (vC (.str ("shut" : Str)))))
  (vRet (vC (.bl false)))
  qbc))
 (vRet (vC (.bl true))))))))))))
abbrev qn1:List Str:=["_law_marks","_law_row","_law_name","_law_over","_law_k"]
theorem qo5:∀ds Q,qcs ds Q->qhp (En Q) (qbg qn1 ds):=by
 rintro ds Q ⟨p,k,r,rfl,hr,G,h⟩
 have mr:=List.mem_of_getElem? hr
 have rw_:=G.ki r mr
 have nm:=G.nm r mr
 have ne:("" : Str)∉r.1:=nm.ne
 obtain⟨n1,n2,n3,n4,n5,n6,n7,n8,n9,_⟩:=mne
 have s1000:10000<=sizeLine:=by decide
 refine qe1 (λc=>c=false) (λY y=>?t1) (λe=>by cases e) λ_=>?_
 case t1 =>
  dsimp! only[rowD,wayD]
  exact y _ rfl
 refine qe1 (λc=>c=false) (λY y=>?t2) (λe=>by cases e) λ_=>?_
 case t2 =>
  dsimp! only[rowD,wayD]
  exact y _ rfl
 refine v_cut (λτ=>∃a,τ=[some (.val (qap ((p.take k).map prM))),some (.val (rowD r)),a,none,none]) ?_ λnx hnx=>?now
 case now =>
  dsimp! only[rowD,wayD]
  refine qd1 (λi τ=>∃a,τ=[some (.val (qap ((p.take k).map prM))),some (.val (rowD r)),a,none,none]) ⟨none,rfl⟩ ?_ ?_
  ·rintro i z τ hz ⟨a,rfl⟩ nx2 hnx2
   rfl'
   exact hnx2 _ ⟨_,rfl⟩
  ·exact λτ hτ=>hnx τ hτ
 rintro τ ⟨a,rfl⟩
 refine qe1 (λc=>c=false) (λY y=>?t3) (λe=>by cases e) λ_=>?_
 case t3 =>
  dsimp! only[rowD,wayD]
  refine⟨by omega,?_⟩
  by_cases m:r.2.1∈[Str.ofString "file",Str.ofString "link"]
  ·rw[decide_eq_true m]
   exact y _ rfl
  ·rw[decide_eq_false m]
   refine iteT (y _ ?_)
   rcases rw_ with (q|q)|⟨_,t⟩
   ·exact absurd (by rw[q];exact List.mem_cons_self) m
   ·exact absurd (by rw[q];exact List.mem_cons_of_mem _ List.mem_cons_self) m
   ·rw[decide_eq_true (show r.2.2=Str.ofString "" from t)]
    rfl
 refine qe1 (λc=>c=decide (r.1=[])) (λY y=>?t4) (λe=>?y4) λe=>?_
 case t4 =>
  dsimp! only[rowD,wayD]
  exact⟨cmpW r.1 [],Nat.le_trans (depW r.1) (by decide),y _ (eqW r.1 [])⟩
 case y4 =>
  have e:=of_decide_eq_true e.symm
  have:=G.ok.rt r mr e
  dsimp! only[rowD]
  rw[decide_eq_true (show r.2.1=Str.ofString "shut" from this)]
  exact h
 have r0:r.1≠[]:=of_decide_eq_false e.symm
 refine v_cut (λτ=>τ=[some (.val (qap ((p.take k).map prM))),some (.val (rowD r)),a,some (.val (wayD r.1.dropLast)),none]) ?_ λnx hnx=>?now
 case now =>
  dsimp! only[rowD,wayD]
  rw[qge]
  exact hnx _ rfl
 rintro τ rfl
 refine qe1 (λc=>c=false) (λY y=>?t5) (λe=>by cases e) λ_=>?_
 case t5 =>
  dsimp! only[wayD,qap]
  refine⟨cmpW r.1.dropLast [],Nat.le_trans (depW r.1.dropLast) (by decide),?_⟩
  rw[show eqD (D.tup (r.1.dropLast.map D.str)) (D.tup [])=decide (r.1.dropLast=[]) from eqW r.1.dropLast []]
  by_cases d0:r.1.dropLast=[]
  ·rw[decide_eq_true d0]
   exact iteF (y _ rfl)
  ·rw[decide_eq_false d0]
   refine iteT ⟨λq=>ne (List.dropLast_subset _ q),by omega,?_⟩
   rcases G.cl r mr with q|q|⟨q,mq,eq,fq⟩
   ·exact absurd q r0
   ·exact absurd q d0
   ·have aq:q∈p.take k:=qso G.ok.so hr mq (by rw[eq];exact qte r0)
    rw[qbr,qm6,←eq,qoj G.ok.so aq]
    refine⟨_,rfl,y _ ?_⟩
    rw[decide_eq_true]
    ·rfl
    ·rcases fq with f|f
     ·rw[f];exact List.mem_cons_self
     ·rw[f];exact List.mem_cons_of_mem _ List.mem_cons_self
 refine qe1 (λc=>c=decide (¬ (r.2.1=qay\/r.2.1=qar))) (λY y=>?t6) (λe=>?y6) λe=>?_
 case t6 =>
  dsimp! only[rowD]
  refine⟨by omega,y _ ?_⟩
  rw[←decide_not]
  refine decide_eq_decide.mpr (not_congr ?_)
  rw[List.mem_cons,List.mem_singleton]
 case y6 =>
  have e:=of_decide_eq_true e.symm
  dsimp! only[rowD]
  refine⟨by omega,?_⟩
  have m:r.2.1∈[Str.ofString "file",Str.ofString "link",Str.ofString "folder"]:=by
   rcases rw_ with (q|q)|⟨q|q|q,_⟩
   ·rw[q];exact List.mem_cons_self
   ·rw[q];exact List.mem_cons_of_mem _ List.mem_cons_self
   ·rw[q];exact List.mem_cons_of_mem _ (List.mem_cons_of_mem _ List.mem_cons_self)
   ·exact absurd (.inr q) e
   ·exact absurd (.inl q) e
  rw[decide_eq_true m]
  exact h
 have gs:r.2.1=qay\/r.2.1=qar:=by
  by_cases c:r.2.1=qay\/r.2.1=qar
  ·exact c
  ·exact absurd c (of_decide_eq_false e.symm)
 refine v_cut (λτ=>∃b,τ=[some (.val (qap ((p.take k).map prM))),some (.val (rowD r)),a,some (.val (wayD r.1.dropLast)),b]) ?_ λnx hnx=>?now
 case now =>
  have:=nm.1
  dsimp! only[rowD,wayD]
  refine⟨by omega,by omega,qfn (λi τ=>∃b,τ=[some (.val (qap ((p.take k).map prM))),some (.val (rowD r)),a,some (.val (wayD r.1.dropLast)),b]) ⟨none,rfl⟩ ?_ ?_⟩
  ·rintro i τ hi ⟨b,rfl⟩ nx2 hnx2
   dsimp! only[rowD,wayD,qap]
   rw[qe7]
   refine⟨λq=>ne (List.mem_of_mem_take q),?_⟩
   rw[qbr,qm6]
   cases hm:qbn (p.take k) (r.1.take i) with
  |none =>
    refine⟨rfl,by show depD .non<=50;unfold depD;decide,?_⟩
    rw[show eqD ((Option.map D.str none).getD D.non) (D.str (Str.ofString "shut"))=false from by show eqD D.non (D.str (Str.ofString "shut"))=false;exact Bool.eq_false_iff.mpr λz=>by rw[eqD_iff] at z;cases z]
    exact iteF (hnx2 _ ⟨_,rfl⟩)
  |some m =>
    rw[qe8] at hm
    obtain⟨x,hx,ex⟩:=Option.map_eq_some_iff.mp hm
    have mq:=(qbb (qak (G.ok.so.sublist (List.take_sublist ..)))).mp hx
    have f:=G.nb r mr gs _ (List.mem_of_mem_take mq) (List.take_prefix _ _) (λz=>by
     have:=congrArg List.length z
     rw[List.length_take] at this
     omega)
    have f:x.1=qag:=f
    rw[←ex,f]
    refine⟨rfl,by show depD (.str qag)<=50;unfold depD;decide,?_⟩
    rw[show eqD ((Option.map D.str (some qag)).getD D.non) (D.str (Str.ofString "shut"))=false from by rw[show (Option.map D.str (some qag)).getD D.non=D.str qag from rfl,eq_str];decide +kernel]
    exact iteF (hnx2 _ ⟨_,rfl⟩)
  ·rintro τ ⟨b,rfl⟩
   exact hnx _ ⟨b,rfl⟩
 rintro τ ⟨b,rfl⟩
 simp! only[vSeq,true_and]
 exact h
def qf8:TVS:=(vSeq (vIfS (qda (vBl (qfg .list (vVar 0))))
  (vRet (vC (.bl false)))
  qbc)
 (vSeq (qfu 1 qf0)
 (vSeq (vFor (qhk (vF1 vLen (vVar 0))) (qbu 2)
  (vSeq (vIfS (qda (vBl (qo1 qcs 1 (qad (vOp vIxR (vVar 0) (vVar 2)) vNil))))
  (vRet (vC (.bl false)))
  qbc)
 (vSeq (vIfS (qez (vBl (vOp vGt (vVar 2) (vC (.int 0)))) (qda (vBl (vOp vLtD (vOp vIxR (vOp vIxR (vVar 0) (vOp vSub (vVar 2) (vC (.int 1)))) (vC (.int 0))) (vOp vIxR (vOp vIxR (vVar 0) (vVar 2)) (vC (.int 0)))))))
  (vRet (vC (.bl false)))
  qbc)
 (qg9 1 (vOp vIxR (vOp vIxR (vVar 0) (vVar 2)) (vC (.int 0))) (vOp vIxR (vOp vIxR (vVar 0) (vVar 2)) (vC (.int 1)))))))
 (vRet (vC (.bl true))))))
abbrev qk3:List Str:=["_law_rows","_law_marks","_law_k"]
theorem qmh:∀ds Q,qb5 ds Q->qf8 (En Q) (qbg qk3 ds):=by
 rintro ds Q ⟨p,rfl,G,h⟩
 have pl:=G.len
 have s1000:10000<=sizeLine:=by decide
 refine qe1 (λc=>c=false) (λY y=>?t1) (λe=>by cases e) λ_=>?_
 case t1 =>
  dsimp! only[qae]
  exact y _ rfl
 refine v_cut (λτ=>τ=[some (.val (qae p)),some (.own (qap (([]:List Row).map prM))),none]) ?_ λnx hnx=>?now
 case now =>
  rfl'
  exact hnx _ rfl
 rintro τ rfl
 refine v_cut (λτ=>∃a b,τ=[some (.val (qae p)),a,b]) ?_ λnx hnx=>?now
 case now =>
  dsimp! only[qae]
  refine⟨by omega,by omega,qfn (λi τ=>∃b,τ=[some (.val (qae p)),some (.own (qap ((p.take i).map prM))),b]) ⟨none,rfl⟩ ?_ ?_⟩
  ·rintro i τ hi ⟨b,rfl⟩ nx2 hnx2
   have hi':i<p.length:=by omega
   have ei:p[i]?=some p[i]:=List.getElem?_eq_getElem hi'
   have et:p.take (i+1)=p.take i++[p[i]]:=by rw[List.take_succ,ei];rfl
   have at_:∀j (hj:j<p.length),atI (p.map rowD) (j:Int)=some (rowD p[j]):=λj hj=>by rw[qcv,qk7 (List.getElem?_eq_getElem hj)];rfl
   have gr:∀Y:R->Prop,Y (.val (.bl true))->qcs [qap ((p.take i).map prM),rowD p[i]] Y:=λY y=>⟨p,i,p[i],rfl,ei,G,y⟩
   show (qbu 2) _ _ _
   dsimp! only[qae]
   refine qe1 (λc=>c=false) (λY y=>?u1) (λe=>by cases e) λ_=>?_
   case u1 =>
    rfl'
    refine⟨_,at_ i hi',gr _ ?_⟩
    rfl'
    exact y _ rfl
   refine qe1 (λc=>c=false) (λY y=>?u2) (λe=>by cases e) λ_=>?_
   case u2 =>
    rfl'
    by_cases i0:i=0
    ·rw[i0]
     exact y _ rfl
    ·rw[decide_eq_true (show (0:Int)<i by omega)]
     have e1:(i:Int)-1=((i-1:Nat):Int):=by omega
     refine iteT ⟨rowD p[i-1],by rw[e1];exact at_ (i-1) (by omega),wayD p[i-1].1,rfl,rowD p[i],at_ i hi',wayD p[i].1,rfl,?_⟩
     have o:ordD (wayD p[i-1].1) (wayD p[i].1)=true:=by show ordD (.tup (p[i-1].1.map D.str)) (.tup (p[i].1.map D.str))=true;unfold ordD;exact qir _ _
     have d:depD (wayD p[i-1].1)<=50:=depW _
     have l:(!ltD (wayD p[i-1].1) (wayD p[i].1))=false:=by rw[qdo,List.pairwise_iff_getElem.mp G.ok.so (i-1) i (by omega) hi' (by omega)];rfl
     rw[l]
     first|exact⟨o,d,y _ rfl⟩|exact⟨o,y _ rfl⟩
   have mp:p[i]∈p:=List.getElem_mem hi'
   have nw:p[i].1∉((p.take i).map prM).map (·.1):=by
    rw[qsk]
    intro z
    obtain⟨q,mq,eq⟩:=List.mem_map.mp z
    have nd:=qak G.ok.so
    have e2:p.take (i+1)=p.take i++[p[i]]:=et
    have n2:((p.take (i+1)).map (·.1)).Nodup:=qak (G.ok.so.sublist (List.take_sublist ..))
    rw[e2,List.map_append] at n2
    exact(List.nodup_append.mp n2).2.2 _ (List.mem_map_of_mem mq) _ (List.mem_singleton.mpr rfl) eq
   have ins:insP ((p.take i).map prM) p[i].1 (.str p[i].2.1)=(p.take (i+1)).map prM:=by
    unfold insP
    rw[if_neg nw,et,List.map_append]
    rfl
   dsimp! only[qap]
   refine⟨_,at_ i hi',_,rfl,_,at_ i hi',_,rfl,p[i].1,rfl,(G.nm _ mp).ne,Nat.lt_of_le_of_lt (List.length_take_le ..) (by omega),?_⟩
   rw[qb9,ins]
   exact hnx2 _ ⟨_,rfl⟩
  ·rintro τ ⟨b,rfl⟩
   exact hnx _ ⟨_,_,rfl⟩
 rintro τ ⟨a,b,rfl⟩
 simp! only[vSeq,true_and]
 exact h
def qyz:TVS:=(vSeq (vSet 2 (vLst (qad (vF1 qha (vVar 0)) (qad (vF1 qha (vVar 1)) vNil))))
 (vSeq (qfu 3 (qan qd2 (qad (vOp vIxR (vVar 2) (vC (.int 0))) (qad (vOp vIxR (vVar 2) (vC (.int 1))) vNil))))
 (vSeq (vIfS (vOrT (qda (vBl (qo2 qb5 3 vNil))) (qda (vBl (qan g_same (qad (qo2 qfz 3 (qad (vVar 0) vNil)) (qad (vVar 1) vNil))))))
  (vRet (vC (.bl false)))
  qbc)
 (vSeq (vSet 4 (vF1 qha (vVar 3)))
 (vSeq (qft 3 (vTup (qad (vTup (qad (vC (.str ("a" : Str))) vNil)) (qad (vC (.str ("gone" : Str))) (qad (vC (.str ("" : Str))) vNil)))))
 (vSeq (vSet 5 (qan qd2 (qad (vOp vIxR (vVar 2) (vC (.int 0))) (qad (vOp vIxR (vVar 2) (vC (.int 1))) vNil))))
 (vRet (qme (qan g_same (qad (vVar 5) (qad (vVar 4) vNil))) (qme (vOp vEq (vOp vIxR (vVar 2) (vC (.int 0))) (vVar 0)) (vOp vEq (vOp vIxR (vVar 2) (vC (.int 1))) (vVar 1)))))))))))
abbrev q1y:List Str:=["_law_one","_law_other","_law_handed","_law_first","_law_kept","_law_again"]
theorem q2t:∀ds Q,qli ds Q->qyz (En Q) (qbg q1y ds):=by
 rintro ds Q ⟨one,other,rfl,A,B,hl,h⟩
 obtain⟨G,LD⟩:=A.good B hl
 have dl:=qmv 20 one other
 have s1000:10000<=sizeLine:=by decide
 have dr:∀Y:R->Prop,Y (.own (qae (qd0 20 one other)))->qd2 [qae one,qae other] Y:=λY y=>⟨one,other,rfl,A.cl,B.cl,.inr (by omega),λr m=>(A.nm r m).1,λr m=>(B.nm r m).1,y⟩
 have gp:∀Y:R->Prop,Y (.val (.bl true))->qb5 [qae (qd0 20 one other)] Y:=λY y=>⟨_,rfl,G,y⟩
 have ld:∀Y:R->Prop,Y (.own (qae other))->qfz [qae (qd0 20 one other),qae one] Y:=λY y=>⟨_,_,rfl,G.ok,G.nm,by omega,A.cl.tree,A.nm,by have:=qpo (qd0 20 one other);omega,λ_ _ _=>by rw[LD];exact y⟩
 have sm:∀(rs:List Row) (Y:R->Prop),rs.length<=1000->Y (.val (.bl true))->g_same [qae rs,qae rs] Y:=λrs Y l y=>⟨rs,rfl,l,y⟩
 generalize qd0 20 one other=D0 at G LD dl dr gp ld
 refine v_cut (λτ=>τ=[some (.val (qae one)),some (.val (qae other)),some (.val (.lst [qae one,qae other])),none,none,none]) ?_ λnx hnx=>?now
 case now =>
  dsimp! only[qae]
  exact⟨by omega,hnx _ rfl⟩
 rintro τ rfl
 refine v_cut (λτ=>τ=[some (.val (qae one)),some (.val (qae other)),some (.val (.lst [qae one,qae other])),some (.own (qae D0)),none,none]) ?_ λnx hnx=>?now
 case now =>
  rfl'
  refine dr _ ?_
  rfl'
  exact hnx _ rfl
 rintro τ rfl
 refine qe1 (λc=>c=false) (λY y=>?t1) (λe=>by cases e) λ_=>?_
 case t1 =>
  rfl'
  refine gp _ ?_
  dsimp! only[tupO]
  refine ld _ ?_
  dsimp! only[qae]
  refine⟨qkq _,sm other _ (by omega) ?_⟩
  rfl'
  exact y _ rfl
 refine v_cut (λτ=>τ=[some (.val (qae one)),some (.val (qae other)),some (.val (.lst [qae one,qae other])),some (.own (qae D0)),some (.val (qae D0)),none]) ?_ λnx hnx=>?now
 case now =>
  dsimp! only[qae]
  exact hnx _ rfl
 rintro τ rfl
 refine v_cut (λτ=>∃a,τ=[some (.val (qae one)),some (.val (qae other)),some (.val (.lst [qae one,qae other])),a,some (.val (qae D0)),none]) ?_ λnx hnx=>?now
 case now =>
  dsimp! only[qae]
  exact⟨by omega,by omega,by omega,hnx _ ⟨_,rfl⟩⟩
 rintro τ ⟨a,rfl⟩
 refine v_cut (λτ=>∃a,τ=[some (.val (qae one)),some (.val (qae other)),some (.val (.lst [qae one,qae other])),a,some (.val (qae D0)),some (.val (qae D0))]) ?_ λnx hnx=>?now
 case now =>
  rfl'
  refine dr _ ?_
  rfl'
  exact hnx _ ⟨_,rfl⟩
 rintro τ ⟨a,rfl⟩
 rfl'
 refine sm _ _ (by omega) ?_
 rfl'
 refine⟨qjr one one,Nat.le_trans (qju one) (by decide),?_⟩
 rw[qcp]
 refine iteT ⟨qjr other other,Nat.le_trans (qju other) (by decide),?_⟩
 rw[qcp]
 exact h
def qyy:TVS:=(vSeq (vSet 1 (vOp vMod (qan qcj (qad (vVar 0) (qad (vC (.int 0)) vNil))) (vOp vPow (vC (.int 10)) (vC (.int 18)))))
 (vSeq (vSet 2 (qan qcy (qad (qo3 (vVar 0) (qc4 (vC (.int 2))) (qc4 (vC (.int 34))) (qc4 (vC (.int 2)))) (qad (vVar 1) vNil))))
 (vSeq (vSet 3 (qan qaq (qad (qan qcj (qad (vVar 0) (qad (vC (.int 1)) vNil))) (qad (vC (.int 3)) (qad (vC (.int 5)) vNil)))))
 (vSeq (vSet 4 (vLst vNil))
 (vSeq (vIfS (vBl (vOp vLt (vVar 3) (vC (.int 3))))
  (vSet 4 (qan qfz (qad (qan qdf (qad (qo3 (vVar 0) (qc4 (vC (.int 3))) (qc4 (vC (.int 35))) (qc4 (vC (.int 2)))) (qad (vVar 1) vNil))) (qad (vVar 2) vNil))))
  qbc)
 (vSeq (vIfS (vBl (vOp vEq (vVar 3) (vC (.int 3))))
  (vSet 4 (qan qcy (qad (qo3 (vVar 0) (qc4 (vC (.int 3))) (qc4 (vC (.int 35))) (qc4 (vC (.int 2)))) (qad (vVar 1) vNil))))
  qbc)
 (vSeq (vIfS (vOrT (vBl (vOp vNeD (qan qd2 (qad (vF1 qha (vVar 2)) (qad (vF1 qha (vVar 2)) vNil))) (vLst vNil))) (vBl (vOp vNeD (qan qd2 (qad (vF1 qha (vVar 4)) (qad (vF1 qha (vVar 4)) vNil))) (vLst vNil))))
  (vRet (vC (.bl false)))
  qbc)
 (vRet (qme (qan qli (qad (vVar 2) (qad (vVar 4) vNil))) (qan qli (qad (vVar 4) (qad (vVar 2) vNil))))))))))))
abbrev q1x:List Str:=["_law_script","_law_stem","_law_one","_law_road","_law_other"]
theorem q2s:∀ds Q,qlh ds Q->qyy (En Q) (qbg q1x ds):=by
 rintro ds Q ⟨ns,rfl,h⟩
 refine v_cut (λτ=>∃st:Int,0<=st/\st<10 ^ 19/\τ=[some (.val (.scr ns)),some (.val (.int st)),none,none,none]) ?_ λnx hnx=>?now
 case now =>
  dsimp! only[qcj]
  have q1:qsr ns 0%10 ^ Int.toNat 18<10 ^ Int.toNat 18:=Int.emod_lt_of_pos _ (by decide)
  exact⟨⟨by decide,by decide,by decide⟩,by decide,hnx _ ⟨_,Int.emod_nonneg _ (show (10 ^ Int.toNat 18:Int)≠0 by decide),Int.lt_of_lt_of_le q1 (by decide),rfl⟩⟩
 rintro τ ⟨st,st0,st1,rfl⟩
 have tb:∀(a:Nat) (Y:R->Prop),(a=2\/a=3)->(∀p,TreeC p->p.length<=17->Y (.own (qae p)))->qcy [.lst ((qdr ns (some (a:Int)) (some ((a+32:Nat):Int)) (some 2)).map D.int),.int st] Y:=λa Y ha y=>⟨_,st,rfl,by have:=qnr ns a ha;omega,st0,st1,λp c l w=>y p ⟨c,λr m=>⟨by have:=(w r m).1;omega,(w r m).2⟩⟩ (by have:=qnr ns a ha;omega)⟩
 have pb:∀Y:R->Prop,(∀p,SPn 17 p->Y (.own (qae p)))->qdf [.lst ((qdr ns (some 3) (some 35) (some 2)).map D.int),.int st] Y:=λY y=>⟨_,st,rfl,by have:=qnr ns 3 (.inr rfl);exact Nat.le_trans this (by decide),st0,st1,λp c=>y p ⟨c.ok,c.fs,c.nm,c.ns,Nat.le_trans c.len (by have:=qnr ns 3 (.inr rfl);exact Nat.succ_le_succ this)⟩⟩
 have dr:∀(one other:List Row) (Y:R->Prop),TreeC one->TreeC other->(one=other\/one.length+other.length<=60)->Y (.own (qae (qd0 20 one other)))->qd2 [qae one,qae other] Y:=λone other Y A B l y=>⟨one,other,rfl,A.cl,B.cl,l,λr m=>(A.nm r m).1,λr m=>(B.nm r m).1,y⟩
 have le:∀(one other:List Row) (Y:R->Prop),TreeC one->TreeC other->one.length+other.length<=55->Y (.val (.bl true))->qli [qae one,qae other] Y:=λone other Y A B l y=>⟨one,other,rfl,A,B,l,y⟩
 refine v_cut (λτ=>∃one:List Row,(TreeC one/\one.length<=17)/\τ=[some (.val (.scr ns)),some (.val (.int st)),some (.val (qae one)),none,none]) ?_ λnx hnx=>?now
 case now =>
  rfl'
  refine⟨by decide,tb 2 _ (.inl rfl) λone A l=>?_⟩
  dsimp! only[qae]
  exact hnx _ ⟨one,⟨A,l⟩,rfl⟩
 rintro τ ⟨one,⟨A,l1⟩,rfl⟩
 refine v_cut (λτ=>∃k:Int,τ=[some (.val (.scr ns)),some (.val (.int st)),some (.val (qae one)),some (.val (.int k)),none]) ?_ λnx hnx=>?now
 case now =>
  dsimp! only[qcj,qaq]
  exact λk _ _ _=>hnx _ ⟨k,rfl⟩
 rintro τ ⟨k,rfl⟩
 have nilC:TreeC []:=⟨⟨.nil,(λr z=>by cases z),(λr z=>by cases z),(λr z=>by cases z)⟩,λr z=>by cases z⟩
 refine v_cut (λτ=>∃other:List Row,(TreeC other/\other.length<=34)/\τ=[some (.val (.scr ns)),some (.val (.int st)),some (.val (qae one)),some (.val (.int k)),some (.val (qae other))]) ?_ λnx hnx=>?now
 case now =>
  rfl'
  exact hnx _ ⟨[],⟨nilC,Nat.zero_le _⟩,rfl⟩
 rintro τ ⟨other,⟨B,l2⟩,rfl⟩
 refine v_cut (λτ=>∃other:List Row,(TreeC other/\other.length<=34)/\τ=[some (.val (.scr ns)),some (.val (.int st)),some (.val (qae one)),some (.val (.int k)),some (.val (qae other))]) ?_ λnx hnx=>?now
 case now =>
  refine v_if (λ_=>True) (λY y=>?t1) (λ_=>?y1) λ_=>?n1
  case t1 =>
   rfl'
   exact y _ trivial
  case y1 =>
   rfl'
   refine⟨by decide,pb _ λp S=>?_⟩
   have bl:=qpo p
   have pl:=S.len
   rfl'
   refine⟨p,one,rfl,S.ok,λr m=>⟨by have:=(S.nm r m).1;omega,(S.nm r m).2⟩,by omega,A.cl.tree,A.nm,by omega,λ_ nm ln=>?_⟩
   dsimp! only[qae]
   exact hnx _ ⟨qd5 p one,⟨⟨qwo S.ok S.fs A.cl,nm⟩,by omega⟩,rfl⟩
  case n1 =>
   rfl'
   exact hnx _ ⟨other,⟨B,l2⟩,rfl⟩
 clear B l2 other
 rintro τ ⟨other,⟨B,l2⟩,rfl⟩
 refine v_cut (λτ=>∃other:List Row,(TreeC other/\other.length<=34)/\τ=[some (.val (.scr ns)),some (.val (.int st)),some (.val (qae one)),some (.val (.int k)),some (.val (qae other))]) ?_ λnx hnx=>?now
 case now =>
  refine v_if (λ_=>True) (λY y=>?t1) (λ_=>?y1) λ_=>?n1
  case t1 =>
   rfl'
   exact y _ trivial
  case y1 =>
   rfl'
   refine⟨by decide,tb 3 _ (.inr rfl) λp S l=>?_⟩
   dsimp! only[qae]
   exact hnx _ ⟨p,⟨S,by omega⟩,rfl⟩
  case n1 =>
   rfl'
   exact hnx _ ⟨other,⟨B,l2⟩,rfl⟩
 clear B l2 other
 rintro τ ⟨other,⟨B,l2⟩,rfl⟩
 have same_:∀rs:List Row,qd0 20 rs rs=[]:=λrs=>if_pos rfl
 refine qe1 (λc=>c=false) (λY y=>?t1) (λe=>by cases e) λ_=>?_
 case t1 =>
  dsimp! only[qae]
  refine dr one one _ A A (.inl rfl) ?_
  rw[same_]
  dsimp! only[qae]
  refine⟨qjr [] [],Nat.le_trans (qju []) (by decide),?_⟩
  rw[if_neg (by rw[qcp];decide)]
  refine dr other other _ B B (.inl rfl) ?_
  rw[same_]
  dsimp! only[qae]
  refine⟨qjr [] [],Nat.le_trans (qju []) (by decide),y _ ?_⟩
  rw[qcp]
  rfl
 rfl'
 refine le one other _ A B (by omega) ?_
 rfl'
 refine le other one _ B A (by omega) ?_
 rfl'
 exact h
theorem qzm{K:PySem.W.Frag}{H:Hp}{a:Addr}(ns:List Int)(_:ns.length<=63)(hS:SqL K H a (ns.map V.int)){E:XK}:spOf K qlh [.ref a] H (λv _=>v=.bl true) E:=qub ⟨ns,rfl,rfl⟩ hS
def top(i:Nat):Stmt:=PySem.Challenge.pw_glasslayers_k21_drawn_shows_the_other.main.body.getD i (.Pass ⟨0,0,0,0⟩)
abbrev qed:Stmt:=top 1
abbrev qg3:Stmt:=top 2
abbrev qex:Stmt:=top 4
abbrev qfc:Stmt:=top 5
abbrev qdq:Stmt:=top 6
abbrev qec:Stmt:=top 7
abbrev qrm:Stmt:=top 8
abbrev qg2:Stmt:=top 10
abbrev ql7:Stmt:=top 11
abbrev qg4:Stmt:=top 12
abbrev qeo:Stmt:=top 13
abbrev qg5:Stmt:=top 14
abbrev qfe:Stmt:=top 15
abbrev qee:Stmt:=top 16
abbrev qfd:Stmt:=top 17
abbrev qno:Stmt:=top 18
abbrev s_same:Stmt:=top 19
abbrev qfp:Stmt:=top 20
abbrev qew:Stmt:=top 21
abbrev qyd:Stmt:=top 22
abbrev qi0:Stmt:=top 23
structure Blt(K:PySem.W.Frag)(mg:Str->Option Value):Prop where
 isinstance:mg "isinstance" = none
 len:mg "len" = none
 list:mg "list" = none
 range:mg "range" = none
 set:mg "set" = none
 sorted:mg "sorted" = none
 str:mg "str" = none
 tuple:mg "tuple" = none
section
variable {P:Program} {w:World} {K:PySem.W.Frag} {mg:Str->Option Value} {base:Heap} {f:Addr} {fd:FuncData}
theorem qot:FnScope ["_law_script","_law_k"] ["_law_script","_law_k"] (qai qg2):=⟨rfl,rfl,rfl,by decide +kernel,rfl,by decide +kernel,by decide +kernel⟩
theorem qok(F:Fun K "_law_cell_at" "_law_cell_at" qg2 f fd)(B:Blt K mg):FnOk P w K mg base CX0 1 f fd ["_law_script","_law_k"] (spOf K qcj) :=
 F.okV qot qlm λcdv A outer s H E hr=>⟨qf6,(qab (qbf (qaw qo4 (vv 1) (qcr qbt rfl B.len PyProof.Rows.Boot.«len» (vv 0)))
   (qah (qax (qao qaj (vv 0) (vv 1))))
   qam)
  (qah (qax qaa))),qsc⟩
theorem sc_mixed:FnScope ["_law_cell","_law_turn","_law_many","_law_by","_law_prime"] ["_law_cell","_law_turn","_law_many"] (qai ql7):=⟨rfl,rfl,rfl,by decide +kernel,rfl,by decide +kernel,by decide +kernel⟩
theorem qth(F:Fun K "_law_mixed" "_law_mixed" ql7 f fd)(B:Blt K mg):FnOk P w K mg base CX0 1 f fd ["_law_cell","_law_turn","_law_many"] (spOf K qaq) :=
 F.okV sc_mixed qqv λcdv A outer s H E hr=>⟨qpm,(qab (qav (i:=3) sc_mixed.nd rfl (Or.inl rfl) (qa3 (vac qaa (vac qaa (vac qaa (vac qaa (vac qaa (vac qaa (vac qaa (vac qaa qaf))))))))))
  (qab (qav (i:=4) sc_mixed.nd rfl (Or.inl rfl) (qa3 (vac qaa (vac qaa (vac qaa (vac qaa (vac qaa (vac qaa (vac qaa (vac qaa qaf))))))))))
  (qah (qax (qa4 qc0 (qa4 qc0 (qa4 qr7 (qa4 qbj (qa4 qc0 (vv 0) (qa4 qvw qaa qaa)) qaa) (qao qaj (vv 3) (qa4 qc0 (vv 1) qaa))) (qao qaj (vv 4) (qa4 qc0 (vv 1) qaa))) (vv 2)))))),qyq⟩
theorem sc_name_by:FnScope ["_law_stem","_law_v","_law_signs","_law_size","_law_spot","_law_name","_law_k","_law_turn"] ["_law_stem","_law_v"] (qai qg4):=⟨rfl,rfl,rfl,by decide +kernel,rfl,by decide +kernel,by decide +kernel⟩
theorem qon(F:Fun K "_law_name_by" "_law_name_by" qg4 f fd)(B:Blt K mg):FnOk P w K mg base CX0 1 f fd ["_law_stem","_law_v"] (spOf K qbe) :=
 F.okV sc_name_by qlp λcdv A outer s H E hr=>⟨qji,(qab (qav (i:=2) sc_name_by.nd rfl (Or.inl rfl) qal)
  (qab (qav (i:=3) sc_name_by.nd rfl (Or.inl rfl) (qa4 qbj qaa (qa4 qc0 (vv 0) qaa)))
  (qab (qav (i:=4) sc_name_by.nd rfl (Or.inl rfl) (qa4 qc0 (qa4 qh4 (vv 0) qaa) (vv 3)))
  (qab (qav (i:=5) sc_name_by.nd rfl (Or.inl rfl) qal)
  (qab (qdk PassesOwn.never rfl (qe3 rfl B.range (vv 3)) (qbo (i:=6) sc_name_by.nd rfl (Or.inl rfl))
   (qab (qav (i:=7) sc_name_by.nd rfl (Or.inl rfl) (qa4 qbj (qa4 qh4 (vv 0) qaa) (qa4 qr7 (vv 6) (qa4 qc0 (qa4 qh4 (vv 0) qaa) qaa))))
  (qab (qbf (qaw (qc5 hr.units) (vv 6) (vv 4))
   (qah (qav (i:=7) sc_name_by.nd rfl (Or.inl rfl) (qa4 qbj (vv 7) (vv 1))))
   qam)
  (qah (qav (i:=5) sc_name_by.nd rfl (Or.inl rfl) (qa4 qbj (vv 5) (qao qaj (vv 2) (qa4 qc0 (vv 7) qaa))))))))
  (qab (qbf (vw_t (qei (qaw (qc5 hr.units) (qa4 qc0 (qa4 qh4 (vv 0) qaa) qaa) qaa) (qc1 (qaw (qc5 hr.units) (qa4 qc0 (vv 1) qaa) qaa))))
   (qah (qav (i:=5) sc_name_by.nd rfl (Or.inl rfl) (qch (vv 5) qdb (qbi (qa4 qbj qaa (qa4 qc0 (vv 1) (vv 3)))))))
   qam)
  (qah (qax (vv 5))))))))),qsf⟩
theorem sc_signs_by:FnScope ["_law_cell","_law_some","_law_size"] ["_law_cell"] (qai qeo):=⟨rfl,rfl,rfl,by decide +kernel,rfl,by decide +kernel,by decide +kernel⟩
theorem qfx:CompScope (qai qeo) ["_law_cell","_law_some","_law_size"] ["_law_cell","_law_some","_law_size","_law_k"] ["_law_k"] ({ kind:=PySem.ScopeKind.function,names:=[ (PySem.Str.ofString ".0",PySem.NameKind.local),(PySem.Str.ofString "_law_k",PySem.NameKind.local),(PySem.Str.ofString "_law_mixed",PySem.NameKind.globalImplicit),(PySem.Str.ofString "len",PySem.NameKind.globalImplicit),(PySem.Str.ofString "_law_cell",PySem.NameKind.free),(PySem.Str.ofString "_law_some",PySem.NameKind.free)],isGenerator:=false,isCoroutine:=false,more:=[]:PySem.Scope }):=⟨rfl,by decide +kernel,by decide +kernel,by decide +kernel,by decide +kernel,rfl,by decide +kernel⟩
theorem ql1(F:Fun K "_law_signs_by" "_law_signs_by" qeo f fd)(B:Blt K mg)(Cmixed:Cal P w K mg base 1 "_law_mixed" ["_law_cell","_law_turn","_law_many"] (spOf K qaq)):FnOk P w K mg base CX0 2 f fd ["_law_cell"] (spOf K qcu) :=
 F.okV sc_signs_by qj8 λcdv A outer s H E hr=>⟨qfm,(qab (qav (i:=1) sc_signs_by.nd rfl (Or.inr rfl) qal)
  (qab (qav (i:=1) sc_signs_by.nd rfl (Or.inr rfl) (qa4 qbj (vv 1) qal))
  (qab (qav (i:=2) sc_signs_by.nd rfl (Or.inl rfl) (qas Cmixed (hr.mono (by decide)) rfl (vac (vv 0) (vac qaa (vac qaa qaf)))))
  (qab (qbf (qaw (qc5 hr.units) (vv 2) qaa)
   (qah (qav (i:=2) sc_signs_by.nd rfl (Or.inl rfl) qaa))
   qam)
  (qah (qax (qyn qal (vc_e (qi7 (M:=["_law_k"]) (qe3 rfl B.range (vv 2)) rfl qfx (λcl C s2 H2 fp pn=>(qbo (i:=3) (qfx).nd rfl (Or.inl rfl))) (λcl C s2 H2 fp pn=>qi9) (λcl C s2 H2 fp pn=>(qao qaj (vv 1) (qas Cmixed (hr.mono (by decide)) rfl (vac (qa4 qbj (vv 0) (qa4 qr7 (vv 3) (vv 3))) (vac qaa (vac (qcr qbt rfl B.len PyProof.Rows.Boot.«len» (vv 1)) qaf))))))))))))))),qo6⟩
theorem sc_text_by:FnScope ["_law_mark","_law_cell","_law_stem","_law_wide","_law_name","_law_more","_law_some"] ["_law_mark","_law_cell","_law_stem","_law_wide"] (qai qg5):=⟨rfl,rfl,rfl,by decide +kernel,rfl,by decide +kernel,by decide +kernel⟩
theorem qop(F:Fun K "_law_text_by" "_law_text_by" qg5 f fd)(B:Blt K mg)(Csigns_by:Cal P w K mg base 2 "_law_signs_by" ["_law_cell"] (spOf K qcu))(Cmixed:Cal P w K mg base 1 "_law_mixed" ["_law_cell","_law_turn","_law_many"] (spOf K qaq))(Cname_by:Cal P w K mg base 1 "_law_name_by" ["_law_stem","_law_v"] (spOf K qbe)):FnOk P w K mg base CX0 3 f fd ["_law_mark","_law_cell","_law_stem","_law_wide"] (spOf K qbz) :=
 F.okV sc_text_by qlr λcdv A outer s H E hr=>⟨qjj,(qab (qbf (qaw (qc5 hr.units) (vv 0) qal)
   (qah (qax (qao qaj (qa3 (vac qal (vac qal (vac (qas Csigns_by (hr.mono (by decide)) rfl (vac (vv 1) qaf)) qaf)))) (qas Cmixed (hr.mono (by decide)) rfl (vac (vv 1) (vac qaa (vac qaa qaf)))))))
   qam)
  (qab (qbf (qaw (qdj hr.units) (vv 0) qal)
   (qah (qax qal))
   qam)
  (qab (qav (i:=4) sc_text_by.nd rfl (Or.inl rfl) (qas Cname_by (hr.mono (by decide)) rfl (vac (vv 2) (vac (qas Cmixed (hr.mono (by decide)) rfl (vac (vv 1) (vac qaa (vac (vv 3) qaf)))) qaf))))
  (qab (qav (i:=5) sc_text_by.nd rfl (Or.inl rfl) (qas Cname_by (hr.mono (by decide)) rfl (vac (vv 2) (vac (qas Cmixed (hr.mono (by decide)) rfl (vac (vv 1) (vac qaa (vac (vv 3) qaf)))) qaf))))
  (qab (qav (i:=6) sc_text_by.nd rfl (Or.inl rfl) (qa3 (vac qal (vac (qa4 qbj qal (vv 4)) (vac (vv 4) (vac (qa4 qbj qal (vv 4)) (vac (qa4 qbj (qa4 qbj (qa4 qbj qal (vv 4)) qal) (vv 5)) (vac (qa4 qbj (qa4 qbj qal (vv 4)) qal) (vac qal (vac qal qaf))))))))))
  (qah (qax (qao qaj (vv 6) (qas Cmixed (hr.mono (by decide)) rfl (vac (vv 1) (vac qaa (vac qaa qaf)))))))))))),qsh⟩
theorem sc_tree_by:FnScope ["_law_cells","_law_stem","_law_wide","_law_things","_law_folders","_law_cell","_law_over","_law_way","_law_mark"] ["_law_cells","_law_stem"] (qai qfe):=⟨rfl,rfl,rfl,by decide +kernel,rfl,by decide +kernel,by decide +kernel⟩
theorem qgd:CompScope (qai qfe) ["_law_cells","_law_stem","_law_wide","_law_things","_law_folders","_law_cell","_law_over","_law_way","_law_mark"] ["_law_cells","_law_stem","_law_wide","_law_things","_law_folders","_law_cell","_law_over","_law_way'","_law_mark","_law_way"] ["_law_way"] ({ kind:=PySem.ScopeKind.function,names:=[ (PySem.Str.ofString ".0",PySem.NameKind.local),(PySem.Str.ofString "_law_way",PySem.NameKind.local),(PySem.Str.ofString "_law_things",PySem.NameKind.free)],isGenerator:=false,isCoroutine:=false,more:=[]:PySem.Scope }):=⟨rfl,by decide +kernel,by decide +kernel,by decide +kernel,by decide +kernel,rfl,by decide +kernel⟩
theorem qoq(F:Fun K "_law_tree_by" "_law_tree_by" qfe f fd)(B:Blt K mg)(Cmixed:Cal P w K mg base 1 "_law_mixed" ["_law_cell","_law_turn","_law_many"] (spOf K qaq))(Cname_by:Cal P w K mg base 1 "_law_name_by" ["_law_stem","_law_v"] (spOf K qbe))(Ctext_by:Cal P w K mg base 3 "_law_text_by" ["_law_mark","_law_cell","_law_stem","_law_wide"] (spOf K qbz)):FnOk P w K mg base CX0 4 f fd ["_law_cells","_law_stem"] (spOf K qcy) :=
 F.okV sc_tree_by qls λcdv A outer s H E hr=>⟨qgb,(qab (qav (i:=2) sc_tree_by.nd rfl (Or.inl rfl) (qa4 qbj qaa (qa4 qc0 (qa4 qh4 (vv 1) qaa) qaa)))
  (qab (qdt (i:=3) sc_tree_by.nd rfl (Or.inr rfl) qfi)
  (qab (qdt (i:=4) sc_tree_by.nd rfl (Or.inl rfl) (qck (vac (qa3 qaf) qaf)))
  (qab (qdk PassesOwn.never rfl (qeg (vv 0)) (qbo (i:=5) sc_tree_by.nd rfl (Or.inl rfl))
   (qab (qav (i:=6) sc_tree_by.nd rfl (Or.inl rfl) (qao qaj (vv 4) (qas Cmixed (hr.mono (by decide)) rfl (vac (vv 5) (vac qaa (vac (qcr qbt rfl B.len PyProof.Rows.Boot.«len» (vv 4)) qaf))))))
  (qab (qbf (qaw (qc5 hr.units) (qas Cmixed (hr.mono (by decide)) rfl (vac (vv 5) (vac qaa (vac qaa qaf)))) qaa)
   (qah (qav (i:=6) sc_tree_by.nd rfl (Or.inl rfl) (qao qaj (vv 4) (qr4 qaa))))
   qam)
  (qab (qav (i:=7) sc_tree_by.nd rfl (Or.inl rfl) (qa4 qbj (vv 6) (qa3 (vac (qas Cname_by (hr.mono (by decide)) rfl (vac (vv 1) (vac (qas Cmixed (hr.mono (by decide)) rfl (vac (vv 5) (vac qaa (vac (vv 2) qaf)))) qaf))) qaf))))
  (qah (qbf (vw_t (qei (qky hr.dict (vv 7) (vv 3)) (qc1 (qaw qo4 (qcr qbt rfl B.len PyProof.Rows.Boot.«len» (vv 7)) qaa))))
   (qab (qav (i:=8) sc_tree_by.nd rfl (Or.inl rfl) (qao qaj (qa3 (vac qal (vac qal (vac qal (vac qal qaf))))) (qas Cmixed (hr.mono (by decide)) rfl (vac (vv 5) (vac qaa (vac qaa qaf))))))
  (qab (qeh 3 hr.dict (vv 7) (qa3 (vac (vv 8) (vac (qas Ctext_by (hr.mono (by decide)) rfl (vac (vv 8) (vac (vv 5) (vac (vv 1) (vac (vv 2) qaf))))) qaf))))
  (qah (qbf (qaw (qc5 hr.units) (vv 8) qal)
   (qah (qhe 4 (vv 7)))
   qam))))
   qam))))))
  (qah (qax (vc_e (qi7 (M:=["_law_way"]) (qeg (qcr (qhd hr.units) rfl B.sorted PyProof.Rows.Boot.«sorted» (qhm (qi8 hr.hd) rfl B.list PyProof.Rows.Boot.«list» (vv 3)))) rfl qgd (λcl C s2 H2 fp pn=>(qbo (i:=9) (qgd).nd rfl (Or.inl rfl))) (λcl C s2 H2 fp pn=>qi9) (λcl C s2 H2 fp pn=>(qa4 qbj (qa3 (vac (vv 9) qaf)) (qhc hr.dict (vv 3) (vv 9)))))))))))),qsi⟩
theorem sc_laid:FnScope ["_law_pane","_law_tree","_law_marks","_law_row","_law_shown","_law_kept","_law_k"] ["_law_pane","_law_tree"] (qai qno):=⟨rfl,rfl,rfl,by decide +kernel,rfl,by decide +kernel,by decide +kernel⟩
theorem qms:CompScope (qai qno) ["_law_pane","_law_tree","_law_marks","_law_row","_law_shown","_law_kept","_law_k"] ["_law_pane","_law_tree","_law_marks","_law_row","_law_shown","_law_kept","_law_k","_law_way"] ["_law_way"] ({ kind:=PySem.ScopeKind.function,names:=[ (PySem.Str.ofString ".0",PySem.NameKind.local),(PySem.Str.ofString "_law_way",PySem.NameKind.local),(PySem.Str.ofString "_law_shown",PySem.NameKind.free)],isGenerator:=false,isCoroutine:=false,more:=[]:PySem.Scope }):=⟨rfl,by decide +kernel,by decide +kernel,by decide +kernel,by decide +kernel,rfl,by decide +kernel⟩
theorem qwy(F:Fun K "_law_laid" "_law_laid" qno f fd)(B:Blt K mg):FnOk P w K mg base CX0 1 f fd ["_law_pane","_law_tree"] (spOf K qfz) :=
 F.okV sc_laid qtc λcdv A outer s H E hr=>⟨quo,(qab (qdt (i:=2) sc_laid.nd rfl (Or.inl rfl) qfi)
  (qab (qdk PassesOwn.never rfl (qeg (vv 0)) (qbo (i:=3) sc_laid.nd rfl (Or.inl rfl))
   (qah (qeh 2 hr.dict (qao qaj (vv 3) qaa) (qao qaj (vv 3) qaa))))
  (qab (qdt (i:=4) sc_laid.nd rfl (Or.inr rfl) qfi)
  (qab (qdk PassesOwn.never rfl (qeg (vv 1)) (qbo (i:=3) sc_laid.nd rfl (Or.inl rfl))
   (qab (qav (i:=5) sc_laid.nd rfl (Or.inl rfl) (qr3 hr.dict (qao qaj (vv 3) qaa) (vv 2)))
  (qab (qdk PassesOwn.never rfl (qe3 rfl B.range (qcr qbt rfl B.len PyProof.Rows.Boot.«len» (qao qaj (vv 3) qaa))) (qbo (i:=6) sc_laid.nd rfl (Or.inl rfl))
   (qah (qbf (vw_t (qei (qvx hr.dict (qch (qao qaj (vv 3) qaa) qdb (qbi (vv 6))) (vv 2)) (qc1 (qaw (qdj hr.units) (qhc hr.dict (vv 2) (qch (qao qaj (vv 3) qaa) qdb (qbi (vv 6)))) qal))))
   (qah (qav (i:=5) sc_laid.nd rfl (Or.inl rfl) qdi))
   qam)))
  (qah (qbf (qb3 (vv 5))
   (qah (qeh 4 hr.dict (qao qaj (vv 3) qaa) (qa3 (vac (qao qaj (vv 3) qaa) (vac (qao qaj (vv 3) qaa) qaf)))))
   qam)))))
  (qab (qdk PassesOwn.never rfl (qeg (vv 0)) (qbo (i:=3) sc_laid.nd rfl (Or.inl rfl))
   (qah (qbf (vw_t (qf3 (qaw (qc5 hr.units) (qao qaj (vv 3) qaa) qal) (qfj (qaw (qc5 hr.units) (qao qaj (vv 3) qaa) qal))))
   (qah (qeh 4 hr.dict (qao qaj (vv 3) qaa) (qa3 (vac (qao qaj (vv 3) qaa) (vac (qao qaj (vv 3) qaa) qaf)))))
   (qah (qbf (vw_t (qei (qaw (qdj hr.units) (qao qaj (vv 3) qaa) qal) (qc1 (qaw (qdj hr.units) (qao qaj (vv 3) qaa) (qa3 qaf)))))
   (qah (qeh 4 hr.dict (qao qaj (vv 3) qaa) (qa3 (vac qal (vac qal qaf)))))
   qam)))))
  (qah (qax (vc_e (qi7 (M:=["_law_way"]) (qeg (qcr (qhd hr.units) rfl B.sorted PyProof.Rows.Boot.«sorted» (qhm (qi8 hr.hd) rfl B.list PyProof.Rows.Boot.«list» (vv 4)))) rfl qms (λcl C s2 H2 fp pn=>(qbo (i:=7) (qms).nd rfl (Or.inl rfl))) (λcl C s2 H2 fp pn=>qi9) (λcl C s2 H2 fp pn=>(qa4 qbj (qa3 (vac (vv 7) qaf)) (qhc hr.dict (vv 4) (vv 7))))))))))))),q1u⟩
theorem sc_under_shut:FnScope ["_law_things","_law_way","_law_k"] ["_law_things","_law_way"] (qai qee):=⟨rfl,rfl,rfl,by decide +kernel,rfl,by decide +kernel,by decide +kernel⟩
theorem qiq(F:Fun K "_law_under_shut" "_law_under_shut" qee f fd)(B:Blt K mg):FnOk P w K mg base CX0 1 f fd ["_law_things","_law_way"] (spOf K qbw) :=
 F.okV sc_under_shut qhj λcdv A outer s H E hr=>⟨qdz,(qab (qdk PassesOwn.never rfl (qe3 rfl B.range (qcr qbt rfl B.len PyProof.Rows.Boot.«len» (vv 1))) (qbo (i:=2) sc_under_shut.nd rfl (Or.inl rfl))
   (qah (qbf (vw_t (qei (qvx hr.dict (qch (vv 1) qdb (qbi (vv 2))) (vv 0)) (qc1 (qaw (qc5 hr.units) (qao qaj (qhc hr.dict (vv 0) (qch (vv 1) qdb (qbi (vv 2)))) qaa) qal))))
   (qah (qax qdi))
   qam)))
  (qah (qax qdi))),qk1⟩
theorem sc_pane_by:FnScope ["_law_cells","_law_stem","_law_wide","_law_things","_law_folders","_law_cell","_law_over","_law_way","_law_mark"] ["_law_cells","_law_stem"] (qai qfd):=⟨rfl,rfl,rfl,by decide +kernel,rfl,by decide +kernel,by decide +kernel⟩
theorem qgc:CompScope (qai qfd) ["_law_cells","_law_stem","_law_wide","_law_things","_law_folders","_law_cell","_law_over","_law_way","_law_mark"] ["_law_cells","_law_stem","_law_wide","_law_things","_law_folders","_law_cell","_law_over","_law_way'","_law_mark","_law_way"] ["_law_way"] ({ kind:=PySem.ScopeKind.function,names:=[ (PySem.Str.ofString ".0",PySem.NameKind.local),(PySem.Str.ofString "_law_way",PySem.NameKind.local),(PySem.Str.ofString "_law_things",PySem.NameKind.free)],isGenerator:=false,isCoroutine:=false,more:=[]:PySem.Scope }):=⟨rfl,by decide +kernel,by decide +kernel,by decide +kernel,by decide +kernel,rfl,by decide +kernel⟩
theorem qoo(F:Fun K "_law_pane_by" "_law_pane_by" qfd f fd)(B:Blt K mg)(Cmixed:Cal P w K mg base 1 "_law_mixed" ["_law_cell","_law_turn","_law_many"] (spOf K qaq))(Cname_by:Cal P w K mg base 1 "_law_name_by" ["_law_stem","_law_v"] (spOf K qbe))(Cunder_shut:Cal P w K mg base 1 "_law_under_shut" ["_law_things","_law_way"] (spOf K qbw))(Ctext_by:Cal P w K mg base 3 "_law_text_by" ["_law_mark","_law_cell","_law_stem","_law_wide"] (spOf K qbz)):FnOk P w K mg base CX0 4 f fd ["_law_cells","_law_stem"] (spOf K qdf) :=
 F.okV sc_pane_by qlq λcdv A outer s H E hr=>⟨qga,(qab (qav (i:=2) sc_pane_by.nd rfl (Or.inl rfl) (qa4 qbj qaa (qa4 qc0 (qa4 qh4 (vv 1) qaa) qaa)))
  (qab (qdt (i:=3) sc_pane_by.nd rfl (Or.inr rfl) qfi)
  (qab (qdt (i:=4) sc_pane_by.nd rfl (Or.inl rfl) (qck (vac (qa3 qaf) qaf)))
  (qab (qbf (vw_t (qei (qaw q1q (qcr qbt rfl B.len PyProof.Rows.Boot.«len» (vv 0)) qaa) (qc1 (qaw (qc5 hr.units) (qas Cmixed (hr.mono (by decide)) rfl (vac (qao qaj (vv 0) qaa) (vac qaa (vac qaa qaf)))) qaa))))
   (qah (qeh 3 hr.dict (qa3 qaf) (qa3 (vac qal (vac qal qaf)))))
   qam)
  (qab (qdk PassesOwn.never rfl (qeg (vv 0)) (qbo (i:=5) sc_pane_by.nd rfl (Or.inl rfl))
   (qab (qav (i:=6) sc_pane_by.nd rfl (Or.inl rfl) (qao qaj (vv 4) (qas Cmixed (hr.mono (by decide)) rfl (vac (vv 5) (vac qaa (vac (qcr qbt rfl B.len PyProof.Rows.Boot.«len» (vv 4)) qaf))))))
  (qab (qbf (qaw (qc5 hr.units) (qas Cmixed (hr.mono (by decide)) rfl (vac (vv 5) (vac qaa (vac qaa qaf)))) qaa)
   (qah (qav (i:=6) sc_pane_by.nd rfl (Or.inl rfl) (qao qaj (vv 4) (qr4 qaa))))
   qam)
  (qab (qav (i:=7) sc_pane_by.nd rfl (Or.inl rfl) (qa4 qbj (vv 6) (qa3 (vac (qas Cname_by (hr.mono (by decide)) rfl (vac (vv 1) (vac (qas Cmixed (hr.mono (by decide)) rfl (vac (vv 5) (vac qaa (vac (vv 2) qaf)))) qaf))) qaf))))
  (qah (qbf (vw_t (qei (qky hr.dict (vv 7) (vv 3)) (qc1 (qaw qo4 (qcr qbt rfl B.len PyProof.Rows.Boot.«len» (vv 7)) qaa))))
   (qab (qav (i:=8) sc_pane_by.nd rfl (Or.inl rfl) (qao qaj (qa3 (vac qal (vac qal (vac qal (vac qal (vac qal (vac qal (vac qal qaf)))))))) (qas Cmixed (hr.mono (by decide)) rfl (vac (vv 5) (vac qaa (vac qaa qaf))))))
  (qab (qbf (vw_t (qei (qb3 (qr1 (i:=3) Cunder_shut (hr.mono (by decide)) rfl (vac (vv 7) qaf))) (qc1 (qaw qyo (vv 8) (qa3 (vac qal (vac qal qaf)))))))
   (qah (qav (i:=8) sc_pane_by.nd rfl (Or.inl rfl) qal))
   qam)
  (qab (qeh 3 hr.dict (vv 7) (qa3 (vac (vv 8) (vac (qas Ctext_by (hr.mono (by decide)) rfl (vac (vv 8) (vac (vv 5) (vac (vv 1) (vac (vv 2) qaf))))) qaf))))
  (qah (qbf (qaw qyo (vv 8) (qa3 (vac qal (vac qal qaf))))
   (qah (qhe 4 (vv 7)))
   qam)))))
   qam))))))
  (qah (qax (vc_e (qi7 (M:=["_law_way"]) (qeg (qcr (qhd hr.units) rfl B.sorted PyProof.Rows.Boot.«sorted» (qhm (qi8 hr.hd) rfl B.list PyProof.Rows.Boot.«list» (vv 3)))) rfl qgc (λcl C s2 H2 fp pn=>(qbo (i:=9) (qgc).nd rfl (Or.inl rfl))) (λcl C s2 H2 fp pn=>qi9) (λcl C s2 H2 fp pn=>(qa4 qbj (qa3 (vac (vv 9) qaf)) (qhc hr.dict (vv 3) (vv 9))))))))))))),qsg⟩
theorem qh0:FnScope ["first","second"] ["first","second"] (qai qfc):=⟨rfl,rfl,rfl,by decide +kernel,rfl,by decide +kernel,by decide +kernel⟩
theorem ql2(F:Fun K "cheaper" "cheaper" qfc f fd)(B:Blt K mg):FnOk P w K mg base CX0 1 f fd ["first","second"] (qg8 K) :=
 F.okQ qh0 ql9 λcdv A outer s H vs Q E hr h=>qn6 (EX:=EX0) (qaw qo4 (qcr qbt rfl B.len PyProof.Rows.Boot.«len» (vv 1)) (qcr qbt rfl B.len PyProof.Rows.Boot.«len» (vv 0))) rfl rfl rfl qlk h
theorem qol(F:Fun K "cheaper" "cheaper" qfc f fd)(B:Blt K mg):FnOk P w K mg base CX0 1 f fd ["first","second"] (spOf K qcx) :=
 F.okV qh0 qln λcdv A outer s H E hr=>⟨qf7,(qah (qax (quj (qaw qo4 (qcr qbt rfl B.len PyProof.Rows.Boot.«len» (vv 1)) (qcr qbt rfl B.len PyProof.Rows.Boot.«len» (vv 0))) (vv 1) (vv 0)))),qsd⟩
theorem sc_sorted_out:FnScope ["entries","depth","heaps","entry"] ["entries","depth"] (qai qed):=⟨rfl,rfl,rfl,by decide +kernel,rfl,by decide +kernel,by decide +kernel⟩
theorem qip(F:Fun K "sorted_out" "sorted_out" qed f fd)(B:Blt K mg):FnOk P w K mg base CX0 1 f fd ["entries","depth"] (spOf K qbl) :=
 F.okV sc_sorted_out qhi λcdv A outer s H E hr=>⟨qdy,(qr9 (k:=2) (l:=3) PassesOwn.never rfl sc_sorted_out.nd rfl rfl (Or.inl rfl) (Or.inl rfl) (qeg (vv 0)) (qao qaj (qao qaj (vv 3) qaa) (vv 1))),qk0⟩
theorem qou:FnScope ["one","other"] ["one","other"] (qai qg3):=⟨rfl,rfl,rfl,by decide +kernel,rfl,by decide +kernel,by decide +kernel⟩
theorem qom(F:Fun K "keys_of" "keys_of" qg3 f fd)(B:Blt K mg):FnOk P w K mg base CX0 1 f fd ["one","other"] (spOf K qde) :=
 F.okV qou qlo λcdv A outer s H E hr=>⟨qf9,(qah (qax (quk (i:=0) (j:=1) hr.units hr.hd rfl B.sorted rfl B.set))),qse⟩
theorem qkm:FnScope ["heap"] ["heap"] (qai qex):=⟨rfl,rfl,rfl,by decide +kernel,rfl,by decide +kernel,by decide +kernel⟩
theorem qkd(F:Fun K "is_folder" "is_folder" qex f fd)(B:Blt K mg):FnOk P w K mg base CX0 1 f fd ["heap"] (spOf K qbv) :=
 F.okV qkm qil λcdv A outer s H E hr=>⟨qev,(qah (qax (qnx (qh3 (qdj hr.units) (vv 0) (qck qaf)) (qr5 (qh3 (qc5 hr.units) (qao qaj (qao qaj (vv 0) qaa) qaa) qal))))),qmi⟩
theorem sc_drawn_heap:FnScope ["one","other","way","kept"] ["one","other"] (qai qec):=⟨rfl,rfl,rfl,by decide +kernel,rfl,by decide +kernel,by decide +kernel⟩
theorem qio(m:Nat)(F:Fun K "drawn_heap" "drawn_heap" qec f fd)(B:Blt K mg)(Cis_folder:Cal P w K mg base 1 "is_folder" ["heap"] (spOf K qbv))(Cdrawn_names:Cal P w K mg base (2+2*m+1) "drawn_names" ["one","other","depth"] (spOf K (qa1 m)))(Ccheaper:Cal P w K mg base 1 "cheaper" ["first","second"] (spOf K qcx)):FnOk P w K mg base CX0 (2+2*m+2) f fd ["one","other"] (spOf K (qba (m+1))) :=
 F.okV sc_drawn_heap (qhh (m+1)) λcdv A outer s H E hr=>⟨qfw m,(qab (qbf (qaw (qc5 hr.units) (vv 0) (vv 1))
   (qah (qax (qck qaf)))
   qam)
  (qab (qbf (qaw (qc5 hr.units) (vv 1) (qck qaf))
   (qah (qax (qck (vac (qa3 (vac (qao qaj (qao qaj (vv 0) qaa) qaa) (vac qal (vac qal qaf)))) qaf))))
   qam)
  (qab (qbf (vw_t (qf3 (qcl (qb3 (qas Cis_folder (hr.mono (by lia)) rfl (vac (vv 0) qaf)))) (qfj (qcl (qb3 (qas Cis_folder (hr.mono (by lia)) rfl (vac (vv 1) qaf)))))))
   (qah (qax (vv 1)))
   qam)
  (qab (qav (i:=2) sc_drawn_heap.nd rfl (Or.inl rfl) (qao qaj (qao qaj (vv 1) qaa) qaa))
  (qab (qav (i:=3) sc_drawn_heap.nd rfl (Or.inl rfl) (qa4 qbj (qck (vac (qao qaj (vv 1) qaa) qaf)) (qas Cdrawn_names (hr.mono (by lia)) rfl (vac (qch (vv 0) (qbi qaa) qdb) (vac (qch (vv 1) (qbi qaa) qdb) (vac (qcr qbt rfl B.len PyProof.Rows.Boot.«len» (vv 2)) qaf))))))
  (qah (qax (qas Ccheaper (hr.mono (by lia)) rfl (vac (vv 3) (vac (qa4 qbj (qck (vac (qa3 (vac (vv 2) (vac qal (vac qal qaf)))) qaf)) (qch (vv 1) (qbi qaa) qdb)) qaf)))))))))),qkz m⟩
theorem sc_drawn_names:FnScope ["one","other","depth","ones","others","drawn","name"] ["one","other","depth"] (qai qdq):=⟨rfl,rfl,rfl,by decide +kernel,rfl,by decide +kernel,by decide +kernel⟩
theorem qet(m:Nat)(F:Fun K "drawn_names" "drawn_names" qdq f fd)(B:Blt K mg)(Csorted_out:Cal P w K mg base 1 "sorted_out" ["entries","depth"] (spOf K qbl))(Ckeys_of:Cal P w K mg base 1 "keys_of" ["one","other"] (spOf K qde))(Cdrawn_heap:Cal P w K mg base (2+2*m) "drawn_heap" ["one","other"] (spOf K (qba m))):FnOk P w K mg base CX0 (2+2*m+1) f fd ["one","other","depth"] (spOf K (qa1 m)) :=
 F.okV sc_drawn_names (qgp m) λcdv A outer s H E hr=>⟨qe6 m,(qab (qav (i:=3) sc_drawn_names.nd rfl (Or.inl rfl) (qas Csorted_out (hr.mono (by lia)) rfl (vac (vv 0) (vac (vv 2) qaf))))
  (qab (qav (i:=4) sc_drawn_names.nd rfl (Or.inl rfl) (qas Csorted_out (hr.mono (by lia)) rfl (vac (vv 1) (vac (vv 2) qaf))))
  (qab (qdt (i:=5) sc_drawn_names.nd rfl (Or.inl rfl) (qck qaf))
  (qab (qdk PassesOwn.never rfl (qeg (qas Ckeys_of (hr.mono (by lia)) rfl (vac (vv 3) (vac (vv 4) qaf)))) (qbo (i:=6) sc_drawn_names.nd rfl (Or.inl rfl))
   (qah (qr8 5 (qas Cdrawn_heap (hr.mono (by lia)) rfl (vac (qnz hr.dict (vv 3) (vv 6) (qck qaf)) (vac (qnz hr.dict (vv 4) (vv 6) (qck qaf)) qaf))))))
  (qah (qyp 5)))))),qjb m⟩
theorem qye:FnScope ["one","other"] ["one","other"] (qai qrm):=⟨rfl,rfl,rfl,by decide +kernel,rfl,by decide +kernel,by decide +kernel⟩
theorem qwx(F:Fun K "draw" "draw" qrm f fd)(B:Blt K mg)(Ccheaper:Cal P w K mg base 1 "cheaper" ["first","second"] (spOf K qcx))(Cdrawn_names:Cal P w K mg base 43 "drawn_names" ["one","other","depth"] (spOf K (qa1 20)))(Dcheaper:Cal P w K mg base 1 "cheaper" ["first","second"] (qg8 K)):FnOk P w K mg base CX0 44 f fd ["one","other"] (spOf K qd2) :=
 F.okV qye qtb λcdv A outer s H E hr=>⟨qun,(qab (qbf (qaw (qc5 hr.units) (vv 0) (vv 1))
   (qah (qax (qck qaf)))
   qam)
  (qah (qmg Dcheaper (hr.mono (by decide)) rfl (qas Cdrawn_names (hr.mono (by decide)) rfl (vac (vv 0) (vac (vv 1) (vac qaa qaf)))) (qa4 qbj (qck (vac (qa3 (vac (qa3 qaf) (vac qal (vac qal qaf)))) qaf)) (vv 1))))),q1t⟩
theorem sc_good_row:FnScope ["_law_marks","_law_row","_law_name","_law_over","_law_k"] ["_law_marks","_law_row"] (qai qfp):=⟨rfl,rfl,rfl,by decide +kernel,rfl,by decide +kernel,by decide +kernel⟩
theorem ql0(F:Fun K "_law_good_row" "_law_good_row" qfp f fd)(B:Blt K mg):FnOk P w K mg base CX0 1 f fd ["_law_marks","_law_row"] (spOf K qcs) :=
 F.okV sc_good_row qj7 λcdv A outer s H E hr=>⟨qhp,(qab (qbf (vw_t (qf3 (qcl (qb3 (qcz .tuple rfl B.isinstance rfl B.tuple PyProof.Rows.Boot.«tuple» (vv 1)))) (qf3 (qaw (qdj hr.units) (qcr qbt rfl B.len PyProof.Rows.Boot.«len» (vv 1)) qaa) (qfj (qcl (qb3 (qcz .tuple rfl B.isinstance rfl B.tuple PyProof.Rows.Boot.«tuple» (qao qaj (vv 1) qaa))))))))
   (qah (qax qdi))
   qam)
  (qab (qbf (vw_t (qf3 (qcl (qb3 (qcz .str rfl B.isinstance rfl B.str PyProof.Rows.Boot.«str» (qao qaj (vv 1) qaa)))) (qfj (qcl (qb3 (qcz .str rfl B.isinstance rfl B.str PyProof.Rows.Boot.«str» (qao qaj (vv 1) qaa)))))))
   (qah (qax qdi))
   qam)
  (qab (qdk PassesOwn.never rfl (qeg (qao qaj (vv 1) qaa)) (qbo (i:=2) sc_good_row.nd rfl (Or.inl rfl))
   (qah (qbf (qcl (qb3 (qcz .str rfl B.isinstance rfl B.str PyProof.Rows.Boot.«str» (vv 2))))
   (qah (qax qdi))
   qam)))
  (qab (qbf (vw_t (qei (qaw qja (qao qaj (vv 1) qaa) (qa3 (vac qal (vac qal qaf)))) (qc1 (qaw (qdj hr.units) (qao qaj (vv 1) qaa) qal))))
   (qah (qax qdi))
   qam)
  (qab (qbf (qaw (qc5 hr.units) (qao qaj (vv 1) qaa) (qa3 qaf))
   (qah (qax (qh3 (qc5 hr.units) (qao qaj (vv 1) qaa) qal)))
   qam)
  (qab (qav (i:=3) sc_good_row.nd rfl (Or.inl rfl) (qch (qao qaj (vv 1) qaa) qdb (qbi (qr4 qaa))))
  (qab (qbf (vw_t (qei (qaw (qdj hr.units) (vv 3) (qa3 qaf)) (qc1 (qaw qja (qny hr.dict (vv 0) (vv 3)) (qa3 (vac qal (vac qal qaf)))))))
   (qah (qax qdi))
   qam)
  (qab (qbf (qaw qja (qao qaj (vv 1) qaa) (qa3 (vac qal (vac qal qaf))))
   (qah (qax (qh3 qyo (qao qaj (vv 1) qaa) (qa3 (vac qal (vac qal (vac qal qaf)))))))
   qam)
  (qab (qdk PassesOwn.never rfl (qe3 rfl B.range (qcr qbt rfl B.len PyProof.Rows.Boot.«len» (qao qaj (vv 1) qaa))) (qbo (i:=4) sc_good_row.nd rfl (Or.inl rfl))
   (qah (qbf (qaw (qc5 hr.units) (qny hr.dict (vv 0) (qch (qao qaj (vv 1) qaa) qdb (qbi (vv 4)))) qal)
   (qah (qax qdi))
   qam)))
  (qah (qax qdi))))))))))),qo5⟩
theorem sc_good_pane:FnScope ["_law_rows","_law_marks","_law_k"] ["_law_rows"] (qai qew):=⟨rfl,rfl,rfl,by decide +kernel,rfl,by decide +kernel,by decide +kernel⟩
theorem qkc(F:Fun K "_law_good_pane" "_law_good_pane" qew f fd)(B:Blt K mg)(Cgood_row:Cal P w K mg base 1 "_law_good_row" ["_law_marks","_law_row"] (spOf K qcs)):FnOk P w K mg base CX0 2 f fd ["_law_rows"] (spOf K qb5) :=
 F.okV sc_good_pane qik λcdv A outer s H E hr=>⟨qf8,(qab (qbf (qcl (qb3 (qcz .list rfl B.isinstance rfl B.list PyProof.Rows.Boot.«list» (vv 0))))
   (qah (qax qdi))
   qam)
  (qab (qdt (i:=1) sc_good_pane.nd rfl (Or.inl rfl) qfi)
  (qab (qdk PassesOwn.never rfl (qe3 rfl B.range (qcr qbt rfl B.len PyProof.Rows.Boot.«len» (vv 0))) (qbo (i:=2) sc_good_pane.nd rfl (Or.inl rfl))
   (qab (qbf (qcl (qb3 (qr1 (i:=1) Cgood_row (hr.mono (by decide)) rfl (vac (qao qaj (vv 0) (vv 2)) qaf))))
   (qah (qax qdi))
   qam)
  (qab (qbf (vw_t (qei (qaw q1q (vv 2) qaa) (qc1 (qcl (qaw (q1r hr.units) (qao qaj (qao qaj (vv 0) (qa4 q1s (vv 2) qaa)) qaa) (qao qaj (qao qaj (vv 0) (vv 2)) qaa))))))
   (qah (qax qdi))
   qam)
  (qah (qeh 1 hr.dict (qao qaj (qao qaj (vv 0) (vv 2)) qaa) (qao qaj (qao qaj (vv 0) (vv 2)) qaa))))))
  (qah (qax qdi))))),qmh⟩
theorem sc_same:FnScope ["_law_found","_law_due","_law_k","_law_row"] ["_law_found","_law_due"] (qai s_same):=⟨rfl,rfl,rfl,by decide +kernel,rfl,by decide +kernel,by decide +kernel⟩
theorem qwz(F:Fun K "_law_same" "_law_same" s_same f fd)(B:Blt K mg):FnOk P w K mg base CX0 1 f fd ["_law_found","_law_due"] (spOf K g_same) :=
 F.okV sc_same qtd λcdv A outer s H E hr=>⟨qpn,(qab (qbf (vw_t (qf3 (qcl (qb3 (qcz .list rfl B.isinstance rfl B.list PyProof.Rows.Boot.«list» (vv 0)))) (qfj (qaw (qdj hr.units) (qcr qbt rfl B.len PyProof.Rows.Boot.«len» (vv 0)) (qcr qbt rfl B.len PyProof.Rows.Boot.«len» (vv 1))))))
   (qah (qax qdi))
   qam)
  (qab (qdk PassesOwn.never rfl (qe3 rfl B.range (qcr qbt rfl B.len PyProof.Rows.Boot.«len» (vv 1))) (qbo (i:=2) sc_same.nd rfl (Or.inl rfl))
   (qab (qav (i:=3) sc_same.nd rfl (Or.inl rfl) (qao qaj (vv 0) (vv 2)))
  (qab (qbf (vw_t (qf3 (qcl (qb3 (qcz .tuple rfl B.isinstance rfl B.tuple PyProof.Rows.Boot.«tuple» (vv 3)))) (qf3 (qaw (qdj hr.units) (qcr qbt rfl B.len PyProof.Rows.Boot.«len» (vv 3)) qaa) (qfj (qcl (qb3 (qcz .tuple rfl B.isinstance rfl B.tuple PyProof.Rows.Boot.«tuple» (qao qaj (vv 3) qaa))))))))
   (qah (qax qdi))
   qam)
  (qah (qbf (vw_t (qf3 (qcl (qb3 (qcz .str rfl B.isinstance rfl B.str PyProof.Rows.Boot.«str» (qao qaj (vv 3) qaa)))) (qf3 (qcl (qb3 (qcz .str rfl B.isinstance rfl B.str PyProof.Rows.Boot.«str» (qao qaj (vv 3) qaa)))) (qfj (qaw (qdj hr.units) (vv 3) (qao qaj (vv 1) (vv 2)))))))
   (qah (qax qdi))
   qam)))))
  (qah (qax qdi)))),q1v⟩
theorem sc_led:FnScope ["_law_one","_law_other","_law_handed","_law_first","_law_kept","_law_again"] ["_law_one","_law_other"] (qai qyd):=⟨rfl,rfl,rfl,by decide +kernel,rfl,by decide +kernel,by decide +kernel⟩
theorem qzq(F:Fun K "_law_led" "_law_led" qyd f fd)(B:Blt K mg)(Cdraw:Cal P w K mg base 44 "draw" ["one","other"] (spOf K qd2))(Cgood_pane:Cal P w K mg base 2 "_law_good_pane" ["_law_rows"] (spOf K qb5))(Csame:Cal P w K mg base 1 "_law_same" ["_law_found","_law_due"] (spOf K g_same))(Claid:Cal P w K mg base 1 "_law_laid" ["_law_pane","_law_tree"] (spOf K qfz)):FnOk P w K mg base CX0 45 f fd ["_law_one","_law_other"] (spOf K qli) :=
 F.okV sc_led qwr λcdv A outer s H E hr=>⟨qyz,(qab (qav (i:=2) sc_led.nd rfl (Or.inl rfl) (qck (vac (qhm qe2 rfl B.list PyProof.Rows.Boot.«list» (vv 0)) (vac (qhm qe2 rfl B.list PyProof.Rows.Boot.«list» (vv 1)) qaf))))
  (qab (qdt (i:=3) sc_led.nd rfl (Or.inl rfl) (qas Cdraw (hr.mono (by decide)) rfl (vac (qao qaj (vv 2) qaa) (vac (qao qaj (vv 2) qaa) qaf))))
  (qab (qbf (vw_t (qf3 (qcl (qb3 (qr2 (i:=3) Cgood_pane (hr.mono (by decide)) rfl qaf))) (qfj (qcl (qb3 (qas Csame (hr.mono (by decide)) rfl (vac (qr2 (i:=3) Claid (hr.mono (by decide)) rfl (vac (vv 0) qaf)) (vac (vv 1) qaf))))))))
   (qah (qax qdi))
   qam)
  (qab (qav (i:=4) sc_led.nd rfl (Or.inl rfl) (qhm qe2 rfl B.list PyProof.Rows.Boot.«list» (vv 3)))
  (qab (qhe 3 (qa3 (vac (qa3 (vac qal qaf)) (vac qal (vac qal qaf)))))
  (qab (qav (i:=5) sc_led.nd rfl (Or.inl rfl) (qas Cdraw (hr.mono (by decide)) rfl (vac (qao qaj (vv 2) qaa) (vac (qao qaj (vv 2) qaa) qaf))))
  (qah (qax (qnx (qas Csame (hr.mono (by decide)) rfl (vac (vv 5) (vac (vv 4) qaf))) (qnx (qh3 (qc5 hr.units) (qao qaj (vv 2) qaa) (vv 0)) (qr5 (qh3 (qc5 hr.units) (qao qaj (vv 2) qaa) (vv 1))))))))))))),q2t⟩
theorem sc_law:FnScope ["_law_script","_law_stem","_law_one","_law_road","_law_other"] ["_law_script"] (qai qi0):=⟨rfl,rfl,rfl,by decide +kernel,rfl,by decide +kernel,by decide +kernel⟩
theorem qzp(F:Fun K "law" "law" qi0 f fd)(B:Blt K mg)(Ccell_at:Cal P w K mg base 1 "_law_cell_at" ["_law_script","_law_k"] (spOf K qcj))(Ctree_by:Cal P w K mg base 4 "_law_tree_by" ["_law_cells","_law_stem"] (spOf K qcy))(Cmixed:Cal P w K mg base 1 "_law_mixed" ["_law_cell","_law_turn","_law_many"] (spOf K qaq))(Claid:Cal P w K mg base 1 "_law_laid" ["_law_pane","_law_tree"] (spOf K qfz))(Cpane_by:Cal P w K mg base 4 "_law_pane_by" ["_law_cells","_law_stem"] (spOf K qdf))(Cdraw:Cal P w K mg base 44 "draw" ["one","other"] (spOf K qd2))(Cled:Cal P w K mg base 45 "_law_led" ["_law_one","_law_other"] (spOf K qli)):FnOk P w K mg base CX0 46 f fd ["_law_script"] (spOf K qlh) :=
 F.okV sc_law qwq λcdv A outer s H E hr=>⟨qyy,(qab (qav (i:=1) sc_law.nd rfl (Or.inl rfl) (qa4 qc0 (qas Ccell_at (hr.mono (by decide)) rfl (vac (vv 0) (vac qaa qaf))) (qa4 qvw qaa qaa)))
  (qab (qav (i:=2) sc_law.nd rfl (Or.inl rfl) (qas Ctree_by (hr.mono (by decide)) rfl (vac (qmf (vv 0) (qbi qaa) (qbi qaa) (qbi qaa)) (vac (vv 1) qaf))))
  (qab (qav (i:=3) sc_law.nd rfl (Or.inl rfl) (qas Cmixed (hr.mono (by decide)) rfl (vac (qas Ccell_at (hr.mono (by decide)) rfl (vac (vv 0) (vac qaa qaf))) (vac qaa (vac qaa qaf)))))
  (qab (qav (i:=4) sc_law.nd rfl (Or.inl rfl) (qck qaf))
  (qab (qbf (qaw qo4 (vv 3) qaa)
   (qah (qav (i:=4) sc_law.nd rfl (Or.inl rfl) (qas Claid (hr.mono (by decide)) rfl (vac (qas Cpane_by (hr.mono (by decide)) rfl (vac (qmf (vv 0) (qbi qaa) (qbi qaa) (qbi qaa)) (vac (vv 1) qaf))) (vac (vv 2) qaf)))))
   qam)
  (qab (qbf (qaw (qc5 hr.units) (vv 3) qaa)
   (qah (qav (i:=4) sc_law.nd rfl (Or.inl rfl) (qas Ctree_by (hr.mono (by decide)) rfl (vac (qmf (vv 0) (qbi qaa) (qbi qaa) (qbi qaa)) (vac (vv 1) qaf)))))
   qam)
  (qab (qbf (vw_t (qf3 (qaw (qdj hr.units) (qas Cdraw (hr.mono (by decide)) rfl (vac (qhm qe2 rfl B.list PyProof.Rows.Boot.«list» (vv 2)) (vac (qhm qe2 rfl B.list PyProof.Rows.Boot.«list» (vv 2)) qaf))) (qck qaf)) (qfj (qaw (qdj hr.units) (qas Cdraw (hr.mono (by decide)) rfl (vac (qhm qe2 rfl B.list PyProof.Rows.Boot.«list» (vv 4)) (vac (qhm qe2 rfl B.list PyProof.Rows.Boot.«list» (vv 4)) qaf))) (qck qaf)))))
   (qah (qax qdi))
   qam)
  (qah (qax (qnx (qas Cled (hr.mono (by decide)) rfl (vac (vv 2) (vac (vv 4) qaf))) (qr5 (qas Cled (hr.mono (by decide)) rfl (vac (vv 4) (vac (vv 2) qaf)))))))))))))),q2s⟩
end
theorem q2v{l:PySem.W.OpenLaw}{w:World}{K:PySem.W.Frag}{h:Heap}{mg:Str->Option Value}{fa:Addr}(X:K.In h)(G:h.Ns mainGlobals mg)(hfa:mg "law" = some (.ref fa))
  {f21:Addr} {od21 an21:Option Addr} {sl21:Array (Option Value)} {oc21 kV21 dc21 pm21 cd21 ct21:Value}
  (d1:qc2 K "sorted_out" qed)
  (d2:qc2 K "keys_of" qg3)
  (d3:qc2 K "is_folder" qex)
  (d4:qc2 K "cheaper" qfc)
  (d5:qc2 K "drawn_names" qdq)
  (d6:qc2 K "drawn_heap" qec)
  (d7:qc2 K "draw" qrm)
  (d8:qc2 K "_law_cell_at" qg2)
  (d9:qc2 K "_law_mixed" ql7)
  (d10:qc2 K "_law_name_by" qg4)
  (d11:qc2 K "_law_signs_by" qeo)
  (d12:qc2 K "_law_text_by" qg5)
  (d13:qc2 K "_law_tree_by" qfe)
  (d14:qc2 K "_law_under_shut" qee)
  (d15:qc2 K "_law_pane_by" qfd)
  (d16:qc2 K "_law_laid" qno)
  (d17:qc2 K "_law_same" s_same)
  (d18:qc2 K "_law_good_row" qfp)
  (d19:qc2 K "_law_good_pane" qew)
  (d20:qc2 K "_law_led" qyd)
  (a21:PySem.W.nsIn K mainGlobals "law" = some (some (.ref f21))) (l21:K.lookup f21=some ⟨oc21,od21,.func (PySem.W.fnOf "law" "law" (qcw qi0) (qbx qi0) (qai qi0) .none kV21 dc21 pm21 an21 cd21 ct21),sl21⟩) (c21:PySem.W.codeIn K cd21 "law" = true) (k21:PySem.W.keepIn K (.ref f21)=true)
  (z_isinstance:PySem.W.nsIn K mainGlobals "isinstance" = some none)
  (z_len:PySem.W.nsIn K mainGlobals "len" = some none)
  (z_list:PySem.W.nsIn K mainGlobals "list" = some none)
  (z_range:PySem.W.nsIn K mainGlobals "range" = some none)
  (z_set:PySem.W.nsIn K mainGlobals "set" = some none)
  (z_sorted:PySem.W.nsIn K mainGlobals "sorted" = some none)
  (z_str:PySem.W.nsIn K mainGlobals "str" = some none)
  (z_tuple:PySem.W.nsIn K mainGlobals "tuple" = some none) :
  ∃fd:FuncData,(∀(s:Shared) (v:Value),BindsTo s fd ⟨[v],[]⟩ [("_law_script",v)])/\∀base:Heap,K.In base->base.Ns mainGlobals mg->FnOk l.prog w K mg base CX0 46 fa fd ["_law_script"] (spOf K qlh):=by
 have e:=hfa.symm.trans (PySem.W.mg_of X G a21)
 cases e
 have B:Blt K mg:=⟨PySem.W.mg_none_of X G z_isinstance,PySem.W.mg_none_of X G z_len,PySem.W.mg_none_of X G z_list,PySem.W.mg_none_of X G z_range,PySem.W.mg_none_of X G z_set,PySem.W.mg_none_of X G z_sorted,PySem.W.mg_none_of X G z_str,PySem.W.mg_none_of X G z_tuple⟩
 have F21:=qu2 (st:=qi0) l21 c21 k21
 have b21:=F21.binds1 (ps:=["_law_script"]) rfl λ_ _ _ _ _ _ _=>rfl
 refine⟨PySem.W.fnOf "law" "law" (qcw qi0) (qbx qi0) (qai qi0) .none kV21 dc21 pm21 an21 cd21 ct21,λs v=>.of_eq rfl,λbase _ _=>?_⟩
 have Ccell_at:=calD l.prog w base X G d8 (λF=>qok F B) λF=>F.binds2 (ps:=["_law_script","_law_k"]) rfl λ_ _ _ _ _ _ _ _=>rfl
 have Cmixed:=calD l.prog w base X G d9 (λF=>qth F B) λF=>F.binds3 (ps:=["_law_cell","_law_turn","_law_many"]) rfl λ_ _ _ _ _ _ _ _ _=>rfl
 have Cname_by:=calD l.prog w base X G d10 (λF=>qon F B) λF=>F.binds2 (ps:=["_law_stem","_law_v"]) rfl λ_ _ _ _ _ _ _ _=>rfl
 have Csigns_by:=calD l.prog w base X G d11 (λF=>ql1 F B Cmixed) λF=>F.binds1 (ps:=["_law_cell"]) rfl λ_ _ _ _ _ _ _=>rfl
 have Ctext_by:=calD l.prog w base X G d12 (λF=>qop F B Csigns_by Cmixed Cname_by) λF=>F.binds4 (ps:=["_law_mark","_law_cell","_law_stem","_law_wide"]) rfl λ_ _ _ _ _ _ _ _ _ _=>rfl
 have Ctree_by:=calD l.prog w base X G d13 (λF=>qoq F B Cmixed Cname_by Ctext_by) λF=>F.binds2 (ps:=["_law_cells","_law_stem"]) rfl λ_ _ _ _ _ _ _ _=>rfl
 have Claid:=calD l.prog w base X G d16 (λF=>qwy F B) λF=>F.binds2 (ps:=["_law_pane","_law_tree"]) rfl λ_ _ _ _ _ _ _ _=>rfl
 have Cunder_shut:=calD l.prog w base X G d14 (λF=>qiq F B) λF=>F.binds2 (ps:=["_law_things","_law_way"]) rfl λ_ _ _ _ _ _ _ _=>rfl
 have Cpane_by:=calD l.prog w base X G d15 (λF=>qoo F B Cmixed Cname_by Cunder_shut Ctext_by) λF=>F.binds2 (ps:=["_law_cells","_law_stem"]) rfl λ_ _ _ _ _ _ _ _=>rfl
 have Dcheaper:=calD l.prog w base X G d4 (λF=>ql2 F B) λF=>F.binds2 (ps:=["first","second"]) rfl λ_ _ _ _ _ _ _ _=>rfl
 have Ccheaper:=calD l.prog w base X G d4 (λF=>qol F B) λF=>F.binds2 (ps:=["first","second"]) rfl λ_ _ _ _ _ _ _ _=>rfl
 have Csorted_out:=calD l.prog w base X G d1 (λF=>qip F B) λF=>F.binds2 (ps:=["entries","depth"]) rfl λ_ _ _ _ _ _ _ _=>rfl
 have Ckeys_of:=calD l.prog w base X G d2 (λF=>qom F B) λF=>F.binds2 (ps:=["one","other"]) rfl λ_ _ _ _ _ _ _ _=>rfl
 have Cis_folder:=calD l.prog w base X G d3 (λF=>qkd F B) λF=>F.binds1 (ps:=["heap"]) rfl λ_ _ _ _ _ _ _=>rfl
 have Rec:∀m,Cal l.prog w K mg base (2+2*m) "drawn_heap" ["one","other"] (spOf K (qba m))/\Cal l.prog w K mg base (2+2*m+1) "drawn_names" ["one","other","depth"] (spOf K (qa1 m)):=λm=>by
  induction m with
 |zero =>
   have h0:Cal l.prog w K mg base (2+2*0) "drawn_heap" ["one","other"] (spOf K (qba 0)):=calD l.prog w base X G d6 (λF=>FnOk.none qin) λF=>F.binds2 (ps:=["one","other"]) rfl λ_ _ _ _ _ _ _ _=>rfl
   exact⟨h0,calD l.prog w base X G d5 (λF=>qet 0 F B Csorted_out Ckeys_of h0) λF=>F.binds3 (ps:=["one","other","depth"]) rfl λ_ _ _ _ _ _ _ _ _=>rfl⟩
 |succ m ih =>
   have h1:Cal l.prog w K mg base (2+2*(m+1)) "drawn_heap" ["one","other"] (spOf K (qba (m+1))):=calD l.prog w base X G d6 (λF=>qio m F B Cis_folder ih.2 Ccheaper) λF=>F.binds2 (ps:=["one","other"]) rfl λ_ _ _ _ _ _ _ _=>rfl
   exact⟨h1,calD l.prog w base X G d5 (λF=>qet (m+1) F B Csorted_out Ckeys_of h1) λF=>F.binds3 (ps:=["one","other","depth"]) rfl λ_ _ _ _ _ _ _ _ _=>rfl⟩
 have Cdrawn_heap:=(Rec 20).1
 have Cdrawn_names:=(Rec 20).2
 have Cdraw:=calD l.prog w base X G d7 (λF=>qwx F B Ccheaper Cdrawn_names Dcheaper) λF=>F.binds2 (ps:=["one","other"]) rfl λ_ _ _ _ _ _ _ _=>rfl
 have Cgood_row:=calD l.prog w base X G d18 (λF=>ql0 F B) λF=>F.binds2 (ps:=["_law_marks","_law_row"]) rfl λ_ _ _ _ _ _ _ _=>rfl
 have Cgood_pane:=calD l.prog w base X G d19 (λF=>qkc F B Cgood_row) λF=>F.binds1 (ps:=["_law_rows"]) rfl λ_ _ _ _ _ _ _=>rfl
 have Csame:=calD l.prog w base X G d17 (λF=>qwz F B) λF=>F.binds2 (ps:=["_law_found","_law_due"]) rfl λ_ _ _ _ _ _ _ _=>rfl
 have Cled:=calD l.prog w base X G d20 (λF=>qzq F B Cdraw Cgood_pane Csame Claid) λF=>F.binds2 (ps:=["_law_one","_law_other"]) rfl λ_ _ _ _ _ _ _ _=>rfl
 exact qzp F21 B Ccell_at Ctree_by Cmixed Claid Cpane_by Cdraw Cled
theorem walk{l:PySem.W.OpenLaw}{q:Program}{loose:List Str}{XP:(Str->Option Value)->Heap->Prop}{YP:World->Heap->Prop}{d:DefRec}{K:Params->PySem.W.Frag}(hn:l.most=some 63)(hdf:d.params.defaults=[])
  (hY:∀(w:World) (h:Heap),YP w h->(K w.params).In h)
  (F:∀(w:World) (mg:Str->Option Value) (fa:Addr) (h:Heap),(K w.params).In h->h.Ns mainGlobals mg->mg d.name=some (.ref fa) ->
   ∃fd:FuncData,(∀(s:Shared) (u:Value),BindsTo s fd ⟨[u],[]⟩ [("_law_script",u)])/\∀base:Heap,(K w.params).In base->base.Ns mainGlobals mg->FnOk l.prog w (K w.params) mg base CX0 46 fa fd ["_law_script"] (spOf (K w.params) qlh)) :
  PySem.W.WalkO q loose XP YP l.row.toRowW d [] (λf vs=>PySem.call f vs) :=
 L2.q2u (n:=63) (k:=46) (x:="_law_script") (CX:=λ_=>CX0) (sp:=λw=>spOf (K w.params) qlh) hn (by decide) hdf ⟨rfl,by decide,by decide⟩ hY F (λw H a ns hl _ hS=>qzm ns hl hS) λ_ _ _ _ _ z=>z
end K21
open PySem PySem.W PyProof.Rows
set_option maxRecDepth 100000 in
set_option maxHeartbeats 0 in
def PySem.W.Fast.tw8129541488045883361 := ()
def PySem.W.Fast.tw1081475856389780966 := ()
def PySem.W.Fast.tw8244655191483600540 := ()
def PySem.W.Fast.tw7584321428022924138 := ()
def PySem.W.Fast.tw16328107693983337772 := ()
def PySem.W.Fast.tw5061343252701100380 := ()
def PySem.W.Fast.tw3809378934561063160 := ()
def PySem.W.Fast.tw891043094637628060 := ()
def PySem.W.Fast.tw15486345814860754601 := ()
def PySem.W.Fast.tw4145768969938825951 := ()
def PySem.W.Fast.tw2769332306683665987 := ()
def PySem.W.Fast.tw9007388544026476023 := ()
def PySem.W.Fast.tw10898285382994340596 := ()
def PySem.W.Fast.tw5243788387309932979 := ()
def PySem.W.Fast.tw6207259728991623843 := ()
def PySem.W.Fast.tw6574491056656545280 := ()
def PySem.W.Fast.tw5550846832342874404 := ()
def PySem.W.Fast.tw1248770604119235346 := ()
def PySem.W.Fast.tw13373057272471636369 := ()
def PySem.W.Fast.tw5048502214592729847 := ()
def PySem.W.Fast.tw7607348729327372408 := ()
def PySem.W.Fast.tw8889782417208093762 := ()
def PySem.W.Fast.tw2547137087568362579 := ()
def PySem.W.Fast.tw17317323233784998921 := ()
def PySem.W.Fast.tw1421198627521025575 := ()
def PySem.W.Fast.tw8290082612482797733 := ()
def PySem.W.Fast.tw12067044688243528194 := ()
def PySem.W.Fast.tw882212408439314967 := ()
def PySem.W.Fast.tw11712383241215077797 := ()
def PySem.W.Fast.tw6318966564075516793 := ()
def PySem.W.Fast.tw2285040800932398013 := ()
def PySem.W.Fast.tw16884843361493311845 := ()
def PySem.W.Fast.tw5750685158349285544 := ()
def PySem.W.Fast.tw3895074347178123697 := ()
def PySem.W.Fast.tw5108488342271520967 := ()
def PySem.W.Fast.tw11732865867072651058 := ()
def PySem.W.Fast.tw4433531571973761933 := ()
def PySem.W.Fast.tw10822507875182887385 := ()
def PySem.W.Fast.tw15940075456040589271 := ()
def PySem.W.Fast.tw11694767745105943409 := ()
def PySem.W.Fast.tw11576602840332572692 := ()
def PySem.W.Fast.tw14737094899753150814 := ()
def PySem.W.Fast.tw16734699255357191545 := ()
def PySem.W.Fast.tw7029600254095678356 := ()
def PySem.W.Fast.tw11650380917092350481 := ()
def PySem.W.Fast.tw18353268156182668946 := ()
def PySem.W.Fast.tw13148982889292066913 := ()
def PySem.W.Fast.tw4890558115756629571 := ()
def PySem.W.Fast.tw11199803437907582643 := ()
def PySem.W.Fast.tw14858559272090484556 := ()
def PySem.W.Fast.tw11107060283990617310 := ()
def PySem.W.Fast.tw2230031791496971688 := ()
def PySem.W.Fast.tw6032577141337461932 := ()
def PySem.W.Fast.tw11429249229760218367 := ()
def PySem.W.Fast.tw14196086030162309491 := ()
def PySem.W.Fast.tw18316451578899798592 := ()
def PySem.W.Fast.tw10057722280819861560 := ()
def PySem.W.Fast.tw17759781228092973694 := ()
def PySem.W.Fast.tw10560901730929588060 := ()
def PySem.W.Fast.tw2043054591094826929 := ()
def PySem.W.Fast.tw5038392532698689256 := ()
def PySem.W.Fast.tw298574367193307134 := ()
def PySem.W.Fast.tw15521896991847070373 := ()
def PySem.W.Fast.tw17510956586784944917 := ()
def PySem.W.Fast.tw4853629885472402756 := ()
def PySem.W.Fast.tw3367142882199328527 := ()
def PySem.W.Fast.tw14051400933864870836 := ()
def PySem.W.Fast.tw14658902393319538681 := ()
def PySem.W.Fast.tw1932529358260773755 := ()
def PySem.W.Fast.tw2185840118349971614 := ()
def PySem.W.Fast.tw13934689966909253460 := ()
def PySem.W.Fast.tw13627585274147957586 := ()
def PySem.W.Fast.tw15877999526452435258 := ()
def PySem.W.Fast.tw9838582245345295176 := ()
def PySem.W.Fast.tw4382490328370371778 := ()
def PySem.W.Fast.tw1992845389434849324 := ()
def PySem.W.Fast.tw6695788162115611955 := ()
def PySem.W.Fast.tw4594037396426693575 := ()
def PySem.W.Fast.tw7510812028524347501 := ()
def PySem.W.Fast.tw5724448884241425463 := ()
def PySem.W.Fast.tw5707696161726921485 := ()
def PySem.W.Fast.tw9510565899099469452 := ()
def PySem.W.Fast.tw14726373775690677406 := ()
def PySem.W.Fast.tw1699320809380856182 := ()
def PySem.W.Fast.tw5127397889818861113 := ()
def PySem.W.Fast.tw12223424917683755306 := ()
def PySem.W.Fast.tw6246953763300217129 := ()
def PySem.W.Fast.tw5178085129235679749 := ()
def PySem.W.Fast.tw713823631750620468 := ()
def PySem.W.Fast.tw12480750540118833618 := ()
def PySem.W.Fast.tw10866133389622601570 := ()
def PySem.W.Fast.tw7188375452825104865 := ()
def PySem.W.Fast.tw17704654220450363755 := ()
def PySem.W.Fast.tw17564827178495516162 := ()
def PySem.W.Fast.tw6607447469344964845 := ()
def PySem.W.Fast.tw502402135105150383 := ()
def PySem.W.Fast.tw9994819211941449958 := ()
def PySem.W.Fast.tw9880793182861533528 := ()
def PySem.W.Fast.tw98776200428378414 := ()
def PySem.W.Fast.tw9771657291487850885 := ()
def PySem.W.Fast.tw8771034298896360289 := ()
def PySem.W.Fast.tw7403270455501540626 := ()
def PySem.W.Fast.tw7323473118041311696 := ()
def PySem.W.Fast.tw5589228730157809519 := ()
def PySem.W.Fast.tw5364354489266668816 := ()
def PySem.W.Fast.tw3291956930651424192 := ()
def PySem.W.Fast.tw309830771420990425 := ()
def PySem.W.Fast.tw2899059622482695389 := ()
def PySem.W.Fast.tw2302219665932286146 := ()
def PySem.W.Fast.tw2000629597354441350 := ()
def PySem.W.Fast.tw18443962098129137744 := ()
def PySem.W.Fast.tw18395210746205206159 := ()
def PySem.W.Fast.tw17741551271178095010 := ()
def PySem.W.Fast.tw17464209673932135985 := ()
def PySem.W.Fast.tw17367549289807644346 := ()
def PySem.W.Fast.tw17092263991488273673 := ()
def PySem.W.Fast.tw16865247646559776621 := ()
def PySem.W.Fast.tw16058149092789601333 := ()
def PySem.W.Fast.tw15853988297436765005 := ()
def PySem.W.Fast.tw15847695834465785525 := ()
def PySem.W.Fast.tw15786710325034765386 := ()
def PySem.W.Fast.tw14708574029406381258 := ()
def PySem.W.Fast.tw13920434220189845461 := ()
def PySem.W.Fast.tw13659849640424253251 := ()
def PySem.W.Fast.tw12863921887916411049 := ()
def PySem.W.Fast.tw12820010653945702561 := ()
def PySem.W.Fast.tw12684734858981111726 := ()
def PySem.W.Fast.tw12576610811877378066 := ()
def PySem.W.Fast.tw11868705645036953324 := ()
def PySem.W.Fast.tw1180355837606373892 := ()
def PySem.W.Fast.tw11463739026469689426 := ()
def PySem.W.Fast.tw11423996610640472665 := ()
def PySem.W.Fast.tw11267505213312520783 := ()
def PySem.W.Fast.tw10938708440660940946 := ()
def PySem.W.Fast.tw10167987560691843882 := ()
theorem PySem.Challenge.cw_glasslayers_k21_drawn_shows_the_other_holds : PySem.Challenge.rw_glasslayers_k21_drawn_shows_the_other.Holds := by
 w_on;o_law;k_head;(case hw=>w_witness2)
 k_fill
 refine K21.walk (l:=PySem.Challenge.rw_glasslayers_k21_drawn_shows_the_other) rfl rfl (λw h Y=>PySem.W.kIn_of Y) ?F
 case F =>
  intro w mg fa h KX G hmg
  refine' K21.q2v KX G hmg ?d1 ?d2 ?d3 ?d4 ?d5 ?d6 ?d7 ?d8 ?d9 ?d10 ?d11 ?d12 ?d13 ?d14 ?d15 ?d16 ?d17 ?d18 ?d19 ?d20 ?a21 ?l21 ?c21 ?k21 ?z_isinstance ?z_len ?z_list ?z_range ?z_set ?z_sorted ?z_str ?z_tuple
  (case d1=>refine' L2.q2w ?a ?b ?c ?d;(case a=>k_is);(case b=>k_is);(case c=>k_is);(case d=>k_is))
  (case d2=>refine' L2.q2w ?a ?b ?c ?d;(case a=>k_is);(case b=>k_is);(case c=>k_is);(case d=>k_is))
  (case d3=>refine' L2.q2w ?a ?b ?c ?d;(case a=>k_is);(case b=>k_is);(case c=>k_is);(case d=>k_is))
  (case d4=>refine' L2.q2w ?a ?b ?c ?d;(case a=>k_is);(case b=>k_is);(case c=>k_is);(case d=>k_is))
  (case d5=>refine' L2.q2w ?a ?b ?c ?d;(case a=>k_is);(case b=>k_is);(case c=>k_is);(case d=>k_is))
  (case d6=>refine' L2.q2w ?a ?b ?c ?d;(case a=>k_is);(case b=>k_is);(case c=>k_is);(case d=>k_is))
  (case d7=>refine' L2.q2w ?a ?b ?c ?d;(case a=>k_is);(case b=>k_is);(case c=>k_is);(case d=>k_is))
  (case d8=>refine' L2.q2w ?a ?b ?c ?d;(case a=>k_is);(case b=>k_is);(case c=>k_is);(case d=>k_is))
  (case d9=>refine' L2.q2w ?a ?b ?c ?d;(case a=>k_is);(case b=>k_is);(case c=>k_is);(case d=>k_is))
  (case d10=>refine' L2.q2w ?a ?b ?c ?d;(case a=>k_is);(case b=>k_is);(case c=>k_is);(case d=>k_is))
  (case d11=>refine' L2.q2w ?a ?b ?c ?d;(case a=>k_is);(case b=>k_is);(case c=>k_is);(case d=>k_is))
  (case d12=>refine' L2.q2w ?a ?b ?c ?d;(case a=>k_is);(case b=>k_is);(case c=>k_is);(case d=>k_is))
  (case d13=>refine' L2.q2w ?a ?b ?c ?d;(case a=>k_is);(case b=>k_is);(case c=>k_is);(case d=>k_is))
  (case d14=>refine' L2.q2w ?a ?b ?c ?d;(case a=>k_is);(case b=>k_is);(case c=>k_is);(case d=>k_is))
  (case d15=>refine' L2.q2w ?a ?b ?c ?d;(case a=>k_is);(case b=>k_is);(case c=>k_is);(case d=>k_is))
  (case d16=>refine' L2.q2w ?a ?b ?c ?d;(case a=>k_is);(case b=>k_is);(case c=>k_is);(case d=>k_is))
  (case d17=>refine' L2.q2w ?a ?b ?c ?d;(case a=>k_is);(case b=>k_is);(case c=>k_is);(case d=>k_is))
  (case d18=>refine' L2.q2w ?a ?b ?c ?d;(case a=>k_is);(case b=>k_is);(case c=>k_is);(case d=>k_is))
  (case d19=>refine' L2.q2w ?a ?b ?c ?d;(case a=>k_is);(case b=>k_is);(case c=>k_is);(case d=>k_is))
  (case d20=>refine' L2.q2w ?a ?b ?c ?d;(case a=>k_is);(case b=>k_is);(case c=>k_is);(case d=>k_is))
  (case a21=>k_is)
  (case l21=>k_is)
  (case c21=>k_is)
  (case k21=>k_is)
  (case z_isinstance=>k_is)
  (case z_len=>k_is)
  (case z_list=>k_is)
  (case z_range=>k_is)
  (case z_set=>k_is)
  (case z_sorted=>k_is)
  (case z_str=>k_is)
  (case z_tuple=>k_is)
