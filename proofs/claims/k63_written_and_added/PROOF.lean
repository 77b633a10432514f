import PyProof.Rows.All
import Wide.All
import OpenK.AllK
import Wide.FinOn
import Lean
import PyProof.EqAt
import PyProof.EqKinds
import PyProof.TupleCall
import PySem.Challenge.RW_glasslayers_k63_written_and_added
set_option compiler.extract_closed false
set_option Elab.async false
set_option linter.all false
set_option maxRecDepth 100000
namespace L2
open PySem PySem.Spec PyProof.Rows
abbrev Key:=Sum Int Str
def qqb:Key->Value->Bool
|.inl k,v=>Value.isInt k v
|.inr x,v=>Value.isStrOf x v
def keyH(w:World):Key->Int
|.inl k=>hashInt k
|.inr x=>hashStr w x
theorem qbk:∀ {k:Key} {v:Value},qqb k v=true->(∃i t,k=Sum.inl i/\v=Value.int i t)\/(∃x t,k=Sum.inr x/\v=Value.str x t)
|.inl i,v,h=>by
  obtain⟨t,e⟩:=Value.isInt_shape (k:=i) (v:=v) h
  exact .inl ⟨i,t,rfl,e⟩
|.inr x,v,h=>by
  obtain⟨t,e⟩:=Value.isStrOf_shape (x:=x) (v:=v) h
  exact .inr ⟨x,t,rfl,e⟩
theorem qs8(i:Int)(t:Tok):qqb (.inl i) (.int i t)=true:=by simp[qqb,Value.isInt]
theorem qs9(x:Str)(t:Tok):qqb (.inr x) (.str x t)=true:=by simp[qqb,Value.isStrOf]
theorem q33(a b:Int):decide ((Sum.inl a:Key)=Sum.inl b)=(a==b):=by
 by_cases e:a=b
 ·subst e;simp
 ·have h:¬ (Sum.inl a:Key)=Sum.inl b:=λq=>e (Sum.inl.inj q)
  rw[decide_eq_false h]
  exact(beq_eq_false_iff_ne.mpr e).symm
theorem q36(a b:Str):decide ((Sum.inr a:Key)=Sum.inr b)=decide (a=b):=by
 by_cases e:a=b
 ·subst e;simp
 ·have h:¬ (Sum.inr a:Key)=Sum.inr b:=λq=>e (Sum.inr.inj q)
  rw[decide_eq_false h,decide_eq_false e]
theorem q34(a:Int)(b:Str):decide ((Sum.inl a:Key)=Sum.inr b)=false:=decide_eq_false (λq=>nomatch q)
theorem q35(a:Str)(b:Int):decide ((Sum.inr a:Key)=Sum.inl b)=false:=decide_eq_false (λq=>nomatch q)
def qbu(prog:Program)(w:World):PySem.KeyKind prog w Key where
 is:=qqb
 hash:=keyH w
 inj:=λv a b ha hb=>by
  rcases qbk ha with ⟨i,t,rfl,rfl⟩|⟨x,t,rfl,rfl⟩
  ·rcases qbk hb with ⟨j,u,rfl,e⟩|⟨y,u,rfl,e⟩
   ·injection e with e1 _;rw[e1]
   ·exact nomatch e
  ·rcases qbk hb with ⟨j,u,rfl,e⟩|⟨y,u,rfl,e⟩
   ·exact nomatch e
   ·injection e with e1 _;rw[e1]
 byValue:=λk v h=>by
  rcases qbk h with ⟨i,t,rfl,rfl⟩|⟨x,t,rfl,rfl⟩<;>rfl
 pyHash:=λhv h=>by
  rcases qbk hv with ⟨i,t,rfl,rfl⟩|⟨x,t,rfl,rfl⟩
  ·exact wpAny_pyHash_int h
  ·exact wpAny_pyHash_str h
 eqBool:=λhu hv h=>by
  rcases qbk hu with ⟨i,t,rfl,rfl⟩|⟨x,t,rfl,rfl⟩
  ·rcases qbk hv with ⟨j,u,rfl,rfl⟩|⟨y,u,rfl,rfl⟩
   ·rw[q33] at h;exact wpAny_eqBool_int h
   ·rw[q34] at h;exact SeqAt.EqAt.int_str i t y u _ _ _ _ h
  ·rcases qbk hv with ⟨j,u,rfl,rfl⟩|⟨y,u,rfl,rfl⟩
   ·rw[q35] at h;exact SeqAt.EqAt.str_int x t j u _ _ _ _ h
   ·rw[q36] at h;exact wpAny_eqBool_str h
 «strs»:=λk x t v h=>by
  rcases qbk h with ⟨i,u,rfl,e⟩|⟨y,u,rfl,e⟩
  ·exact nomatch e
  ·injection e with e1 _
   subst e1
   cases v<;>rfl
theorem qnf(prog:Program)(w:World)(i:Int)(t:Tok):(qbu prog w).is (.inl i) (.int i t)=true:=qs8 i t
theorem qng(prog:Program)(w:World)(x:Str)(t:Tok):(qbu prog w).is (.inr x) (.str x t)=true:=qs9 x t
end L2
namespace L2
open PySem PySem.Spec PyProof.Rows
inductive V where
|non|bl (b:Bool)|int (i:Int)|str (x:Str)|byt (b:Array UInt8)|flt (b:UInt64)|ref (a:Addr)|ty (n:String)
 deriving DecidableEq
def RelV:V->Value->Prop
|.non,u=>u=Value.none
|.bl b,u=>u=Value.bool b
|.int i,u=>∃t,u=Value.int i t
|.str x,u=>∃t,u=Value.str x t
|.byt b,u=>∃t,u=Value.bytes b t
|.flt b,u=>∃t,u=Value.float b t
|.ref a,u=>u=Value.ref a
|.ty n,u=>u=Value.type n
abbrev Vals:List V->List Value->Prop:=Paired RelV
theorem Vals.length{xs:List V}{us:List Value}(r:Vals xs us):xs.length=us.length:=Paired.length r
theorem Vals.get:∀ {xs:List V} {us:List Value} {i:Nat} {x:V},Vals xs us->xs[i]?=some x->∃u,us[i]?=some u/\RelV x u
|_,_,_,_,.nil,e=>by simp at e
|_,_,0,_,.cons r _,e=>by simp at e;subst e;exact⟨_,rfl,r⟩
|_,_,i+1,x,.cons _ t,e=>by
  obtain⟨u,h1,h2⟩:=Vals.get (i:=i) (x:=x) t (by simpa using e)
  exact⟨u,by simpa using h1,h2⟩
theorem Vals.set{x:V}{u:Value}(r:RelV x u):∀ {xs:List V} {us:List Value} (i:Nat),Vals xs us->Vals (xs.set i x) (us.set i u)
|_,_,_,.nil=>.nil
|_,_,0,.cons _ t=>.cons r t
|_,_,i+1,.cons q t=>.cons q (Vals.set r i t)
theorem Vals.append:∀ {xs ys:List V} {us ws:List Value},Vals xs us->Vals ys ws->Vals (xs++ys) (us++ws)
|_,_,_,_,.nil,s=>s
|_,_,_,_,.cons r t,s=>.cons r (Vals.append t s)
theorem Vals.take:∀ {xs:List V} {us:List Value} (n:Nat),Vals xs us->Vals (xs.take n) (us.take n)
|_,_,0,_=>.nil
|_,_,_+1,.nil=>.nil
|_,_,n+1,.cons r t=>.cons r (Vals.take n t)
theorem Vals.drop:∀ {xs:List V} {us:List Value} (n:Nat),Vals xs us->Vals (xs.drop n) (us.drop n)
|_,_,0,r=>r
|_,_,_+1,.nil=>.nil
|_,_,n+1,.cons _ t=>Vals.drop n t
def RelO:Option V->Option Value->Prop
|some v,some u=>RelV v u
|none,none=>True
|_,_=>False
def KV{κ:Type}:List (κ×V)->List (κ×Value)->Prop:=Paired λ(p:κ×V) (q:κ×Value)=>p.1=q.1/\RelV p.2 q.2
def kV:Key->V
|.inl i=>.int i
|.inr x=>.str x
inductive HO where
|lst (xs:List V)
|tup (xs:List V)
|dK (kvs:List (Key×V))|dT (kvs:List (List Key×V))
|set (S:Int->Bool) (n:Nat)
|ins (C dx:Addr) (fs:List (Str×V))
|own (x:Addr)
|xd (fs:List (Str×V))
|met (f x:Addr)
|rng (lo hi:Int)
|frz (o:Obj) (u:HO)
|tbl (ps:Array Value)
|ext (φ:Heap->Prop)
abbrev Hp:=Addr->Option HO
def upd(H:Hp)(a:Addr)(o:HO):Hp:=λb=>if b=a then some o else H b
theorem qa6{H:Hp}{a:Addr}{o:HO}:upd H a o a=some o:=by unfold upd;rw[if_pos rfl]
theorem qa9{H:Hp}{a b:Addr}{o:HO}(h:b≠a):upd H a o b=H b:=by unfold upd;rw[if_neg h]
theorem q4c{H:Hp}{a b:Addr}{o u:HO}(h:H a=some o)(h':H b=some u)(d:o≠u):a≠b:=by
 intro e;subst e;rw[h] at h';exact d (Option.some.inj h')
theorem qcl{H:Hp}{a b:Addr}{o:HO}(h:H a=some o)(h':H b=none):a≠b:=by
 intro e;subst e;rw[h] at h';cases h'
section
variable (P:Program) (w:World)
def ObjOk(H:Hp)(h:Heap)(a:Addr):HO->Prop
|.lst xs=>xs.length<=sizeLine/\∃(its:List Value) (n:Nat),Vals xs its/\h.get? a=some { cls:=.type "list",data:=.seq its.toArray n }
|.tup xs=>xs.length<=sizeLine/\∃its:List Value,Vals xs its/\IsTup h a its.toArray
|.dK kvs=>kvs.length<=sizeLine/\(a==sysModules)=false/\∃vs,KV kvs vs/\h.DictOf (qbu P w) a vs
|.dT kvs=>kvs.length<=sizeLine/\(a==sysModules)=false/\∃xs:List (List Key×Addr×Value),
   Paired (λ(p:List Key×V) (q:List Key×Addr×Value)=>p.1=q.1/\H q.2.1=some (.tup (p.1.map kV))/\RelV p.2 q.2.2) kvs xs /\
   ∃o es ep,h.get? a=some o/\o.ExactDict/\o.data=.dict es ep/\es.toList=xs.map (entryOfKey (tupleKind (qbu P w)))/\(xs.map (·.1)).Nodup
|.set S n=>h.SetOf (intKind P w) a S n
|.ins C dx fs=>H dx=some (.own a)/\fs.length<=1000/\dx≠a/\h.get? a=some (PySem.W.instObj C dx) /\
   ∃mA,h.Ns1 dx mA/\(∀f,RelO (fs.lookup f) (mA f))/\PySem.Within mA (fs.map (·.1))
|.own _=>∃o,h.get? a=some o
|.xd fs=>∃mA,h.Ns1 a mA/\∀f,RelO (fs.lookup f) (mA f)
|.rng lo hi=>∃t u v,h.get? a=some { cls:=.type "range",data:=.fields #[.int lo t,.int hi u,.int 1 v] }
|.frz o u=>h.get? a=some o/\ObjOk H h a u
|.tbl ps=>h.get? a=some { cls:=.none,data:=.fields ps }
|.met f x=>h.get? a=some (PySem.W.methodObj (.ref f) (.ref x))
|.ext φ=>φ h/\(∃o,h.get? a=some o)/\∀h1 h2:Heap,φ h1->(∀o,h1.get? a=some o->h2.get? a=some o)->φ h2
def HOk(H:Hp)(h:Heap):Prop:=∀a o,H a=some o->ObjOk P w H h a o
end
section
variable {P:Program} {w:World} {H H':Hp} {h h':Heap} {a:Addr} {o:HO}
theorem ObjOk.lt(x:ObjOk P w H h a o):a<h.objs.size:=by
 cases o with
|lst xs=>obtain⟨_,_,_,_,e⟩:=x;exact Heap.lt_size e
|tup xs=>obtain⟨_,_,_,p⟩:=x;exact p.lt
|dK kvs=>obtain⟨_,_,_,_,o,_,_,e,_⟩:=x;exact Heap.lt_size e
|dT kvs=>obtain⟨_,_,_,_,o,_,_,e,_⟩:=x;exact Heap.lt_size e
|set S n=>obtain⟨o,_,_,_,e,_⟩:=x;exact Heap.lt_size e
|ins C dx fs=>obtain⟨_,_,_,e,_⟩:=x;exact Heap.lt_size e
|own y=>obtain⟨_,e⟩:=x;exact Heap.lt_size e
|xd fs=>obtain⟨_,⟨_,_,_,e,_⟩,_⟩:=x;exact Heap.lt_size e
|rng lo hi=>obtain⟨_,_,_,e⟩:=x;exact Heap.lt_size e
|frz ob u=>obtain⟨e,_⟩:=x;exact Heap.lt_size e
|tbl ps=>exact Heap.lt_size (show h.get? a=some _ from x)
|met f y=>exact Heap.lt_size (show h.get? a=some _ from x)
|ext φ=>obtain⟨_,⟨_,e⟩,_⟩:=x;exact Heap.lt_size e
theorem Paired.mapP{α β:Type}{F G:α->β->Prop}:∀ {l₁:List α} {l₂:List β},Paired F l₁ l₂->(∀a b,F a b->G a b)->Paired G l₁ l₂
|_,_,.nil,_=>.nil
|_,_,.cons r t,f=>.cons (f _ _ r) (Paired.mapP t f)
theorem ObjOk.stay(x:ObjOk P w H h a o)(k:∀b u,(b=a\/H b=some (.own a))->h.get? b=some u->h'.get? b=some u)
  (ho:∀b,H b=some (.own a)->H' b=some (.own a)) (ht:∀b xs,H b=some (.tup xs)->H' b=some (.tup xs)):ObjOk P w H' h' a o:=by
 induction o with
|lst xs=>obtain⟨z,its,n,r,e⟩:=x;exact⟨z,its,n,r,k _ _ (.inl rfl) e⟩
|tup xs=>obtain⟨z,its,r,ob,e,c⟩:=x;exact⟨z,its,r,ob,k _ _ (.inl rfl) e,c⟩
|dK kvs=>obtain⟨z,y,vs,r,ob,es,ep,e,c⟩:=x;exact⟨z,y,vs,r,ob,es,ep,k _ _ (.inl rfl) e,c⟩
|dT kvs =>
  obtain⟨z,y,xs,r,ob,es,ep,e,c⟩:=x
  exact⟨z,y,xs,Paired.mapP r λp q z=>⟨z.1,ht _ _ z.2.1,z.2.2⟩,ob,es,ep,k _ _ (.inl rfl) e,c⟩
|set S n=>obtain⟨ob,es,ep,t,e,c⟩:=x;exact⟨ob,es,ep,t,k _ _ (.inl rfl) e,c⟩
|ins C dx fs =>
  obtain⟨d,z,ne,e,mA,⟨od,es,ep,e2,c⟩,r⟩:=x
  exact⟨ho _ d,z,ne,k _ _ (.inl rfl) e,mA,⟨od,es,ep,k _ _ (.inr d) e2,c⟩,r⟩
|own y=>obtain⟨ob,e⟩:=x;exact⟨ob,k _ _ (.inl rfl) e⟩
|xd fs=>obtain⟨mA,⟨od,es,ep,e,c⟩,r⟩:=x;exact⟨mA,⟨od,es,ep,k _ _ (.inl rfl) e,c⟩,r⟩
|rng lo hi=>obtain⟨t,u,v,e⟩:=x;exact⟨t,u,v,k _ _ (.inl rfl) e⟩
|frz ob u ih=>obtain⟨e,q⟩:=x;exact⟨k _ _ (.inl rfl) e,ih q⟩
|tbl ps =>
  have e:h.get? a=some { cls:=.none,data:=.fields ps }:=x
  show h'.get? a=some { cls:=.none,data:=.fields ps }
  exact k a _ (.inl rfl) e
|met f y =>
  have e:h.get? a=some (PySem.W.methodObj (.ref f) (.ref y)):=x
  show h'.get? a=some (PySem.W.methodObj (.ref f) (.ref y))
  exact k a _ (.inl rfl) e
|ext φ=>obtain⟨p,⟨o,e⟩,st⟩:=x;exact⟨st _ _ p λo q=>k _ _ (.inl rfl) q,⟨o,k _ _ (.inl rfl) e⟩,st⟩
theorem HOk.lt(x:HOk P w H h)(e:H a=some o):a<h.objs.size:=(x a o e).lt
theorem HOk.fresh(x:HOk P w H h)(e:h.objs.size<=a):H a=none:=by
 cases q:H a with
|none=>rfl
|some u=>exact absurd (Nat.lt_of_lt_of_le (x.lt q) e) (Nat.lt_irrefl _)
theorem HOk.kept(x:HOk P w H h)(k:∀b u,h.get? b=some u->h'.get? b=some u):HOk P w H h':=λa o e =>
 (x a o e).stay (λb u _ q=>k b u q) (λ_ q=>q) λ_ _ q=>q
theorem HOk.laid(x:HOk P w H h)(k:∀b u,h.get? b=some u->h'.get? b=some u)(hp:h.objs.size<=a)(new:ObjOk P w (upd H a o) h' a o):HOk P w (upd H a o) h':=λb u e=>by
 have hn:=x.fresh hp
 by_cases hb:b=a
 ·subst hb;rw[qa6] at e;cases e;exact new
 ·rw[qa9 hb] at e
  exact(x b u e).stay (λc v _ q=>k c v q) (λc q=>by rw[qa9 (qcl q hn)];exact q) λc xs q=>by rw[qa9 (qcl q hn)];exact q
end
def Rd(H:Hp)(a:Addr)(u:HO):Prop:=H a=some u\/∃o,H a=some (.frz o u)
theorem Rd.ok{P:Program}{w:World}{H:Hp}{h:Heap}{a:Addr}{u:HO}(r:Rd H a u)(x:HOk P w H h):ObjOk P w H h a u:=by
 rcases r with r|⟨o,r⟩
 ·exact x a u r
 ·obtain⟨_,q⟩:=x a _ r
  exact q
def Mut:Option HO->Prop
|some (.lst _)=>True
|some (.dK _)=>True
|some (.dT _)=>True
|some (.set _ _)=>True
|some (.ins _ _ _)=>True
|some (.ext _)=>True
|_=>False
section
variable {P:Program} {w:World} {H:Hp} {h h':Heap} {x e:Addr} {o':HO}
theorem HOk.write(ok:HOk P w H h)(mu:Mut (H x))(he:e=x\/H e=some (.own x))(k:∀b u,b≠e->h.get? b=some u->h'.get? b=some u)(heo:∃u,h'.get? e=some u)
  (new:ObjOk P w (upd H x o') h' x o'):HOk P w (upd H x o') h':=λb u q=>by
 have nown:∀c y,H c=some (.own y)->c≠x:=λc y r z=>by subst z;rw[r] at mu;exact mu
 have ntup:∀c xs,H c=some (.tup xs)->c≠x:=λc xs r z=>by subst z;rw[r] at mu;exact mu
 by_cases hb:b=x
 ·subst hb;rw[qa6] at q;cases q;exact new
 ·rw[qa9 hb] at q
  by_cases hbe:b=e
  ·have q':H b=some (.own x):=by
    rcases he with z|z
    ·exact absurd (hbe.trans z) hb
    ·rw[hbe];exact z
   rw[q] at q';cases q'
   obtain⟨v,hv⟩:=heo
   exact⟨v,by rw[hbe];exact hv⟩
  ·refine(ok b u q).stay (λc v hc r=>k c v ?_ r) (λc r=>by rw[qa9 (nown c b r)];exact r) λc xs r=>by rw[qa9 (ntup c xs r)];exact r
   rcases hc with rfl|hc
   ·exact hbe
   ·rintro rfl
    rcases he with z|z
    ·exact nown c b hc z
    ·rw[hc] at z;cases z;exact hb rfl
end
structure Un(fs ex:List Addr)(H H':Hp)(h h':Heap):Prop where
 keep:∀b o,h.get? b=some o->H b=none->b∉fs->b∉ex->h'.get? b=some o
 slot:∀b o,h.get? b=some o->H b=none->b∈fs->b∉ex->∃sl,h'.get? b=some { o with slots:=sl }
 free:∀b o,h.get? b=some o->H b=none->b∉ex->H' b=none
 there:∀b o,h.get? b=some o->b∉ex->∃o',h'.get? b=some o'
 tups:∀b xs,H b=some (.tup xs)->H' b=some (.tup xs)
 frzs:∀b o u,H b=some (.frz o u)->H' b=some (.frz o u)
 tbls:∀b ps,H b=some (.tbl ps)->∃more,H' b=some (.tbl (ps++more))
section
variable {fs fs' ex ex':List Addr} {H H1 H2:Hp} {h h1 h2 h':Heap} {a x e:Addr} {o:HO}
theorem Un.any(u:Un fs ex H H1 h h1){b:Addr}{ob:Obj}(q:h.get? b=some ob)(n:H b=none)(hx:b∉ex):∃sl,h1.get? b=some { ob with slots:=sl }:=by
 by_cases hb:b∈fs
 ·exact u.slot b ob q n hb hx
 ·exact⟨ob.slots,u.keep b ob q n hb hx⟩
theorem Un.kept(k:∀b u,h.get? b=some u->h'.get? b=some u):Un fs ex H H h h' :=
 ⟨λb ob q _ _ _=>k b ob q,λb ob q _ _ _=>⟨ob.slots,k b ob q⟩,λ_ _ _ n _=>n,λb ob q _=>⟨ob,k b ob q⟩,λ_ _ q=>q,λ_ _ _ q=>q,λ_ ps q=>⟨#[],by rw[q];simp⟩⟩
theorem Un.refl:Un fs ex H H h h:=Un.kept λ_ _ q=>q
theorem Un.laid(k:∀b u,h.get? b=some u->h'.get? b=some u)(hp:h.objs.size<=a)(hn:H a=none):Un fs ex H (upd H a o) h h' where
 keep:=λb u q _ _ _=>k b u q
 slot:=λb u q _ _ _=>⟨u.slots,k b u q⟩
 free:=λb u q n _=>by rw[qa9 (Nat.ne_of_lt (Nat.lt_of_lt_of_le (Heap.lt_size q) hp))];exact n
 there:=λb u q _=>⟨u,k b u q⟩
 tups:=λb xs q=>by rw[qa9 (qcl q hn)];exact q
 frzs:=λb u xs q=>by rw[qa9 (qcl q hn)];exact q
 tbls:=λb ps q=>⟨#[],by rw[qa9 (qcl q hn),q];simp⟩
theorem Un.write(mu:Mut (H x))(he:e=x\/H e=some (.own x))(k:∀b u,b≠e->h.get? b=some u->h'.get? b=some u)(heo:∃u,h'.get? e=some u):Un fs ex H (upd H x o) h h':=by
 have hx:∀b,H b=none->b≠x:=λb n z=>by subst z;rw[n] at mu;exact mu
 have hb:∀b,H b=none->b≠e:=λb n z=>by
  subst z
  rcases he with r|r
  ·exact hx b n r
  ·rw[n] at r;cases r
 have hm:∀b u,H b=some u->¬ Mut (some u)->b≠x:=λb u q nm z=>by subst z;rw[q] at mu;exact nm mu
 refine⟨λb u q n _ _=>k b u (hb b n) q,λb u q n _ _=>⟨u.slots,k b u (hb b n) q⟩,λb u q n _=>by rw[qa9 (hx b n)];exact n,λb u q _=>?_,
  λb xs q=>by rw[qa9 (hm b _ q λz=>z)];exact q,λb u xs q=>by rw[qa9 (hm b _ q λz=>z)];exact q,λb ps q=>⟨#[],by rw[qa9 (hm b _ q λz=>z),q];simp⟩⟩
 by_cases hbe:b=e
 ·subst hbe;exact heo
 ·exact⟨u,k b u hbe q⟩
theorem Un.mono(u:Un fs ex H H1 h h1)(hs:∀b∈fs,b∈fs')(hx:∀b∈ex,b∈ex'):Un fs' ex' H H1 h h1 :=
 ⟨λb ob q n hb he=>u.keep b ob q n (λz=>hb (hs b z)) λz=>he (hx b z),λ_ _ q n _ he=>u.any q n λz=>he (hx _ z),λb ob q n he=>u.free b ob q n λz=>he (hx b z),λb ob q he=>u.there b ob q λz=>he (hx b z),u.tups,u.frzs,u.tbls⟩
end
def trk(h:Heap)(H:Hp):List Addr:=(List.range h.objs.size).filter λa=>(H a).isSome
def hidT(h:Heap)(H:Hp):Heap:=PySem.W.hideAll h (trk h H)
theorem qs4(h:Heap)(H:Hp):(hidT h H).objs.size=h.objs.size:=PySem.W.hideAll_size _ _
theorem qv6{h:Heap}{H:Hp}{b:Addr}{o:Obj}(e:h.get? b=some o)(n:H b=none):(hidT h H).get? b=some o :=
 PySem.W.hideAll_get _ e λhm=>by
  have q:(H b).isSome=true:=(List.mem_filter.mp hm).2
  rw[n] at q;simp at q
theorem q0x{h:Heap}{H:Hp}{b:Addr}{o:Obj}(e:(hidT h H).get? b=some o):h.get? b=some o/\H b=none:=by
 have e':h.get? b=some o:=PySem.W.of_hideAll (trk h H) e
 refine⟨e',?_⟩
 cases q:H b with
|none=>rfl
|some x =>
  have hm:b∈trk h H:=List.mem_filter.mpr ⟨List.mem_range.mpr (Heap.lt_size e'),by simp[q]⟩
  have z:(hidT h H).get? b=none:=PySem.W.hideAll_none (trk h H) hm
  rw[z] at e;cases e
def qzv(g h:Heap)(L:Addr):List (Addr×Obj):=(List.range h.objs.size).filterMap λa=>if a=L\/(g.get? a).isSome=true then none else (h.get? a).map λo=>(a,o)
def rest(g h:Heap)(L d:Addr):List (Addr×Obj):=(qzv g h L).filter λp=>decide (p.1≠d)
end L2
namespace L2
open PySem PySem.Spec PyProof.Rows
structure Mod(K:PySem.W.Frag)(mg:Str->Option Value)(base:Heap):Prop where
 kin:K.In base
 glob:base.Ns mainGlobals mg
 blt:∃mb,base.Ns builtinsNs mb/\∀x:Str,x≠"__name__" -> mb x=bootBuiltins x
 nolimit:base.NoLimit
structure Cx where
 prog:Program
 w:World
 K:PySem.W.Frag
 mg:Str->Option Value
 base:Heap
 A:Around
 N:List Str
 s₀:Shared
 H₀:Hp
 env:Env
 outer:List Env
 stack:List Env
 ex:List Addr
 fn:Str->Bool
 calm:Bool
 pn:List (Addr×Obj)
 xe:Value->Shared->Prop
def frs(l:List Env):List Addr:=l.filterMap (·.frame)
abbrev Cx.fs(X:Cx):List Addr:=frs X.outer
def Vis(sc:Scope)(x:Str):Prop:=sc.names.lookup x=some .local\/sc.names.lookup x=some .cell\/sc.names.lookup x=some .free
def Loc(sc:Scope)(x:Str):Prop:=sc.names.lookup x=some .local\/sc.names.lookup x=some .cell
def Look(env:Env)(h:Heap)(m:Str->Option Value)(x:Str)(u:Value):Prop :=
 (env.kindOf x=some .local/\m x=some u)\/((env.kindOf x=some .cell\/env.kindOf x=some .free)/\∃c,env.cells.lookup x=some c/\h.IsCell c (some u))
structure Cx.Ok(X:Cx):Prop where
 mod:Mod X.K X.mg X.base
 kind:X.env.scope.kind=.function
 glob:X.env.globals=mainGlobals
 blt:X.env.builtins=builtinsNs
 above:X.s₀.heap.objs.size<=X.env.locals
 inj:∀x y c,X.env.cells.lookup x=some c->X.env.cells.lookup y=some c->x=y
 has:∀x,(X.env.kindOf x=some .cell\/X.env.kindOf x=some .free)->∃c,X.env.cells.lookup x=some c
 cab:∀x c,X.fn x=true->X.env.cells.lookup x=some c->X.s₀.heap.objs.size<=c
 hd:X.calm=true->X.A.handled=none
 frames:X.A.frames=some X.stack
 stk:X.stack=X.outer\/(X.stack=X.env::X.outer/\X.env.frame=some X.env.locals)
 exf:∀b∈X.ex,b≠X.env.locals/\∀x c,X.env.cells.lookup x=some c->c≠b
 bs:∀b o,X.base.get? b=some o->X.s₀.heap.get? b=some o/\X.H₀ b=none
 bsz:X.base.objs.size<=X.s₀.heap.objs.size
 noex:∀b o,X.base.get? b=some o->b∉X.ex
 exfs:∀b∈X.ex,b∉X.fs
 funs:X.s₀.heap.FunFrames X.base X.outer
 frf:∀b∈X.fs,X.H₀ b=none
structure Inv(X:Cx)(pins:List (Addr×Obj))(σ:List (Option V))(H:Hp)(s:Shared):Prop where
 ok:X.Ok
 os:s.os=X.s₀.os
 bare:AllBare s.gens
 base:Un X.fs X.ex X.H₀ H X.s₀.heap s.heap
 loc:∃m,s.heap.Ns X.env.locals m/\∀(i:Nat) (x:Str) (v:V),X.N[i]?=some x->σ[i]?=some (some v)->Vis X.env.scope x->∃u,RelV v u/\Look X.env s.heap m x u
 cell:∀x c,X.env.cells.lookup x=some c->∃v,s.heap.IsCell c v
 free:H X.env.locals=none
 freeC:∀x c,X.env.cells.lookup x=some c->H c=none
 pin:∀p∈X.pn++pins,s.heap.get? p.1=some p.2/\H p.1=none/\p.1≠X.env.locals/\p.1∉X.fs/\∀v,p.2.data≠.cell v
 hok:HOk X.prog X.w H s.heap
 len:σ.length=X.N.length
section
variable {X:Cx} {pins:List (Addr×Obj)} {σ:List (Option V)} {H H':Hp} {s:Shared} {h':Heap}
theorem Cx.Ok.nofr(ok:X.Ok){b:Addr}{o:Obj}(e:X.base.get? b=some o):b∉X.fs:=λhb=>by
 have:=(ok.funs.mem hb).1
 rw[e] at this;cases this
theorem Inv.bs(I:Inv X pins σ H s):∀b o,X.base.get? b=some o->s.heap.get? b=some o/\H b=none:=λb o e =>
 ⟨I.base.keep b o (I.ok.bs b o e).1 (I.ok.bs b o e).2 (I.ok.nofr e) (I.ok.noex b o e),I.base.free b o (I.ok.bs b o e).1 (I.ok.bs b o e).2 (I.ok.noex b o e)⟩
theorem Inv.bk(I:Inv X pins σ H s):∀b o,X.base.get? b=some o->s.heap.get? b=some o:=λb o e=>(I.bs b o e).1
theorem Inv.mod(I:Inv X pins σ H s):Mod X.K X.mg X.base:=I.ok.mod
theorem Inv.kIn(I:Inv X pins σ H s):X.K.In s.heap:=I.ok.mod.kin.keeps I.bk
theorem Inv.lt(I:Inv X pins σ H s):X.env.locals<s.heap.objs.size:=let ⟨_,hn,_⟩:=I.loc;hn.lt
theorem Inv.sz(I:Inv X pins σ H s):X.s₀.heap.objs.size<=s.heap.objs.size:=Nat.le_trans I.ok.above (Nat.le_of_lt I.lt)
theorem Inv.nofs(I:Inv X pins σ H s){a:Addr}(h:s.heap.objs.size<=a):a∉X.fs:=λhb=>by
 obtain⟨_,o,ho,_⟩:=I.ok.funs.mem hb
 exact absurd (Nat.lt_of_lt_of_le (Heap.lt_size ho) (Nat.le_trans I.sz h)) (Nat.lt_irrefl _)
theorem Inv.cne(I:Inv X pins σ H s):∀x c,X.env.cells.lookup x=some c->c≠X.env.locals:=λx c e z=>by
 obtain⟨v,o,ho,hd⟩:=I.cell x c e
 obtain⟨m,⟨o',es,ep,ho',hd',_⟩,_⟩:=I.loc
 rw[z,ho'] at ho;cases ho;rw[hd'] at hd;cases hd
theorem Inv.funs(I:Inv X pins σ H s):s.heap.FunFrames X.base X.outer:=by
 have all:∀(l:List Env),(∀b∈frs l,b∈X.fs)->X.s₀.heap.FunFrames X.base l->s.heap.FunFrames X.base l:=by
  intro l
  induction l with
 |nil=>intro _ _;trivial
 |cons env r ih =>
   intro hs hl
   obtain⟨hk,⟨L,o,hf,hn,ho,hd⟩,hr⟩:=hl
   have hL:L∈X.fs:=hs L (by unfold frs;rw[List.filterMap_cons,hf];exact List.mem_cons_self)
   obtain⟨sl,e⟩:=I.base.slot L o ho (I.ok.frf L hL) hL λz=>I.ok.exfs L z hL
   exact⟨hk,⟨L,_,hf,hn,e,hd⟩,ih (λb hb=>hs b (by unfold frs;rw[List.filterMap_cons,hf];exact List.mem_cons_of_mem _ hb)) hr⟩
 exact all X.outer (λ_ hb=>hb) I.ok.funs
theorem Inv.stack(I:Inv X pins σ H s):s.heap.FunFrames X.base X.stack:=by
 rcases I.ok.stk with e|⟨e,hf⟩
 ·rw[e];exact I.funs
 ·rw[e]
  obtain⟨m,hn,_⟩:=I.loc
  refine .cons (by rw[I.ok.kind];decide) hf hn ?_ I.funs
  exact Heap.get?_none_of_le (Nat.le_trans I.ok.bsz I.ok.above)
theorem Inv.stkSub(I:Inv X pins σ H s):∀b∈frs X.stack,b∈X.env.locals::X.fs:=λb hb=>by
 rcases I.ok.stk with e|⟨e,hf⟩
 ·rw[e] at hb;exact List.mem_cons_of_mem _ hb
 ·rw[e] at hb
  unfold frs at hb
  rw[List.filterMap_cons,hf] at hb
  exact hb
theorem Inv.stkFree(I:Inv X pins σ H s):∀b∈frs X.stack,H b=none:=λb hb=>by
 rcases List.mem_cons.mp (I.stkSub b hb) with e|hb
 ·rw[e];exact I.free
 ·obtain⟨_,o,ho,_⟩:=I.ok.funs.mem hb
  exact I.base.free b o ho (I.ok.frf b hb) λz=>I.ok.exfs b z hb
theorem Inv.step{g':Array GenState}{t':Nat}{d':Drawn}{ch:List Addr}(I:Inv X pins σ H s)
  (hch:∀b∈ch,(b∈X.ex\/X.s₀.heap.objs.size<=b)/\b≠X.env.locals/\(∀x c,X.env.cells.lookup x=some c->c≠b)/\∀p∈X.pn++pins,p.1≠b)
  (keep:∀b o,b≠X.env.locals->b∉X.fs->b∉ch->s.heap.get? b=some o->H b=none->h'.get? b=some o)
  (slot:∀b o,b≠X.env.locals->b∈X.fs->b∉ch->s.heap.get? b=some o->H b=none->∃sl,h'.get? b=some { o with slots:=sl }) (free:∀b o,b∉ch->s.heap.get? b=some o->H b=none->H' b=none)
  (there:∀b o,b∉ch->s.heap.get? b=some o->∃o',h'.get? b=some o')
  (tups:∀b xs,H b=some (.tup xs)->H' b=some (.tup xs)) (frzs:∀b o u,H b=some (.frz o u)->H' b=some (.frz o u)) (tbls:∀b ps,H b=some (.tbl ps)->∃more,H' b=some (.tbl (ps++more)))
  (ns:∀m,s.heap.Ns X.env.locals m->h'.Ns X.env.locals m) (hok:HOk X.prog X.w H' h') (hg:AllBare g') :
  Inv X pins σ H' { s with heap:=h',gens:=g',drawn:=d',toks:=t' }:=by
 have neL:∀b o,X.s₀.heap.get? b=some o->b≠X.env.locals:=λb o e=>Nat.ne_of_lt (Nat.lt_of_lt_of_le (Heap.lt_size e) I.ok.above)
 have neC:∀b o,X.s₀.heap.get? b=some o->b∉X.ex->b∉ch:=λb o e hx hb=>by
  rcases (hch b hb).1 with z|z
  ·exact hx z
  ·exact absurd (Nat.lt_of_lt_of_le (Heap.lt_size e) z) (Nat.lt_irrefl _)
 have cellK:∀x c,X.env.cells.lookup x=some c->∀v,s.heap.IsCell c v->h'.IsCell c v:=λx c e v ⟨o,ho,hd⟩=>by
  have nch:c∉ch:=λz=>(hch c z).2.2.1 x c e rfl
  by_cases hc:c∈X.fs
  ·obtain⟨sl,q⟩:=slot c o (I.cne x c e) hc nch ho (I.freeC x c e)
   exact⟨_,q,hd⟩
  ·exact⟨o,keep c o (I.cne x c e) hc nch ho (I.freeC x c e),hd⟩
 refine⟨I.ok,I.os,hg,⟨λb o e n hb hx=>?_,λb o e n hb hx=>?_,λb o e n hx=>?_,λb o e hx=>?_,λb xs e=>tups b xs (I.base.tups b xs e),λb o xs e=>frzs b o xs (I.base.frzs b o xs e),λb ps e=>?_⟩,?_,λx c e=>?_,?_,λx c e=>?_,λp hp=>?_,hok,I.len⟩
 ·exact keep b o (neL b o e) hb (neC b o e hx) (I.base.keep b o e n hb hx) (I.base.free b o e n hx)
 ·obtain⟨sl,e1⟩:=I.base.slot b o e n hb hx
  obtain⟨sl',e2⟩:=slot b _ (neL b o e) hb (neC b o e hx) e1 (I.base.free b o e n hx)
  exact⟨sl',e2⟩
 ·obtain⟨o',e1⟩:=I.base.there b o e hx
  exact free b o' (neC b o e hx) e1 (I.base.free b o e n hx)
 ·obtain⟨o',e1⟩:=I.base.there b o e hx
  exact there b o' (neC b o e hx) e1
 ·obtain⟨m1,e1⟩:=I.base.tbls b ps e
  obtain⟨m2,e2⟩:=tbls b _ e1
  exact⟨m1++m2,by rw[e2,Array.append_assoc]⟩
 ·obtain⟨m,hn,hl⟩:=I.loc
  refine⟨m,ns m hn,λi x v e1 e2 e3=>?_⟩
  obtain⟨u,r,l⟩:=hl i x v e1 e2 e3
  refine⟨u,r,?_⟩
  rcases l with l|⟨k,c,e,z⟩
  ·exact .inl l
  ·exact .inr ⟨k,c,e,cellK x c e _ z⟩
 ·obtain⟨v,z⟩:=I.cell x c e
  exact⟨v,cellK x c e v z⟩
 ·obtain⟨m,⟨o,_,_,ho,_⟩,_⟩:=I.loc
  exact free _ o (λz=>(hch _ z).2.1 rfl) ho I.free
 ·obtain⟨v,o,ho,hd⟩:=I.cell x c e
  exact free c o (λz=>(hch c z).2.2.1 x c e rfl) ho (I.freeC x c e)
 ·obtain⟨e,n,ne,nf,d⟩:=I.pin p hp
  have nch:p.1∉ch:=λz=>(hch p.1 z).2.2.2 p hp rfl
  exact⟨keep p.1 p.2 ne nf nch e n,free p.1 p.2 nch e n,ne,nf,d⟩
theorem Inv.un{t':Nat}(I:Inv X pins σ H s)(u:Un X.fs [] H H' s.heap h')(hok:HOk X.prog X.w H' h'):Inv X pins σ H' { s with heap:=h',toks:=t' }:=by
 obtain⟨m,⟨o,es,ep,ho,r⟩,_⟩:=id I.loc
 obtain⟨sl,hL⟩:=u.any ho I.free (by simp)
 exact I.step (g':=s.gens) (d':=s.drawn) (ch:=[]) (λ_ z=>nomatch z) (λb o _ hb _ e n=>u.keep b o e n hb (by simp)) (λb o _ hb _ e n=>u.slot b o e n hb (by simp)) (λb o _ e n=>u.free b o e n (by simp)) (λb o _ e=>u.there b o e (by simp)) u.tups u.frzs u.tbls (λm' hm=>by
  obtain⟨o',es',ep',ho',r'⟩:=hm
  rw[ho] at ho';cases ho'
  exact⟨_,es',ep',hL,r'⟩) hok I.bare
theorem Inv.call{g':Array GenState}{t':Nat}{d':Drawn}{ch:List Addr}(I:Inv X pins σ H s)(u:Un (frs X.stack) ch H H' s.heap h')(hok:HOk X.prog X.w H' h')(hg:AllBare g')
  (hch:∀b∈ch,(b∈X.ex\/X.s₀.heap.objs.size<=b)/\b≠X.env.locals/\(∀x c,X.env.cells.lookup x=some c->c≠b)/\∀p∈X.pn++pins,p.1≠b) :
  Inv X pins σ H' { s with heap:=h',gens:=g',drawn:=d',toks:=t' }:=by
 obtain⟨m,⟨o,es,ep,ho,r⟩,_⟩:=id I.loc
 obtain⟨sl,hL⟩:=u.any ho I.free λz=>(hch _ z).2.1 rfl
 exact I.step (ch:=ch) hch (λb o hL hb hc e n=>u.keep b o e n (λz=>(List.mem_cons.mp (I.stkSub b z)).elim hL hb) hc) (λb o _ _ hc e n=>u.any e n hc) (λb o hc e n=>u.free b o e n hc) (λb o hc e=>u.there b o e hc) u.tups u.frzs u.tbls (λm' hm=>by
  obtain⟨o',es',ep',ho',r'⟩:=hm
  rw[ho] at ho';cases ho'
  exact⟨_,es',ep',hL,r'⟩) hok hg
theorem Inv.turned{t':Nat}{it:Addr}(I:Inv X pins σ H s)(k:∀b o,b≠it->s.heap.get? b=some o->h'.get? b=some o)(hn:H it=none)(hL:it≠X.env.locals)
  (h1:it∈X.ex\/X.s₀.heap.objs.size<=it) (h2:∀x c,X.env.cells.lookup x=some c->c≠it) (h3:∀p∈X.pn++pins,p.1≠it):Inv X pins σ H { s with heap:=h',toks:=t' }:=by
 have nit:∀b u,H b=some u->b≠it:=λb u e z=>by rw[z,hn] at e;cases e
 refine I.step (g':=s.gens) (d':=s.drawn) (ch:=[it]) (λb hb=>?_) (λb o _ _ hc e _=>k b o (λz=>hc (by simp[z])) e) (λb o _ _ hc e _=>⟨o.slots,k b o (λz=>hc (by simp[z])) e⟩) (λ_ _ _ _ n=>n)
  (λb o hc e=>⟨o,k b o (λz=>hc (by simp[z])) e⟩) (λ_ _ e=>e) (λ_ _ _ e=>e) (λb ps e=>⟨#[],by rw[e];simp⟩) (λm hm=>?_) (λb u e=>?_) I.bare
 ·have e:b=it:=by simpa using hb
  subst e
  exact⟨h1,hL,h2,h3⟩
 ·obtain⟨o,es,ep,ho,r⟩:=hm
  exact⟨o,es,ep,k _ o (Ne.symm hL) ho,r⟩
 ·refine(I.hok b u e).stay (λc v hc q=>k c v ?_ q) (λ_ q=>q) λ_ _ q=>q
  rcases hc with z|z
  ·rw[z];exact nit b u e
  ·exact nit c _ z
theorem Inv.tok(I:Inv X pins σ H s)(t:Nat):Inv X pins σ H { s with toks:=t }:=I.un (h':=s.heap) (t':=t) Un.refl I.hok
theorem Inv.kept{t':Nat}(I:Inv X pins σ H s)(k:∀b u,s.heap.get? b=some u->h'.get? b=some u):Inv X pins σ H { s with heap:=h',toks:=t' }:=I.un (Un.kept k) (I.hok.kept k)
theorem Inv.laid{a:Addr}{o:HO}{t':Nat}(I:Inv X pins σ H s)(k:∀b u,s.heap.get? b=some u->h'.get? b=some u)(hp:s.heap.objs.size<=a)(new:ObjOk X.prog X.w (upd H a o) h' a o) :
  Inv X pins σ (upd H a o) { s with heap:=h',toks:=t' }:=I.un (Un.laid k hp (I.hok.fresh hp)) (I.hok.laid k hp new)
theorem Inv.write{x e:Addr}{o:HO}{t':Nat}(I:Inv X pins σ H s)(mu:Mut (H x))(he:e=x\/H e=some (.own x))(k:∀b u,b≠e->s.heap.get? b=some u->h'.get? b=some u)(heo:∃u,h'.get? e=some u)
  (new:ObjOk X.prog X.w (upd H x o) h' x o):Inv X pins σ (upd H x o) { s with heap:=h',toks:=t' }:=I.un (Un.write mu he k heo) (I.hok.write mu he k heo new)
theorem Inv.pins_of{pins':List (Addr×Obj)}(I:Inv X pins σ H s)(h:∀p∈pins',s.heap.get? p.1=some p.2/\H p.1=none/\p.1≠X.env.locals/\p.1∉X.fs/\∀v,p.2.data≠.cell v):Inv X pins' σ H s :=
 ⟨I.ok,I.os,I.bare,I.base,I.loc,I.cell,I.free,I.freeC,λp hp=>(List.mem_append.mp hp).elim (λz=>I.pin p (List.mem_append_left _ z)) (h p),I.hok,I.len⟩
theorem qo2{N:List Str}(hN:N.Nodup){i j:Nat}{x:Str}(a:N[i]?=some x)(b:N[j]?=some x):i=j:=by
 obtain⟨h1,e1⟩:=List.getElem?_eq_some_iff.mp a
 obtain⟨h2,e2⟩:=List.getElem?_eq_some_iff.mp b
 exact(List.getElem_inj hN).mp (e1.trans e2.symm)
theorem qul{M:Model}{A:Around}{E:Value->Shared->Prop}{i:Nat}{x:Str}{v:V}{u:Value}{Q:Unit->Shared->Prop}(I:Inv X pins σ H s)(hN:X.N.Nodup)(hi:X.N[i]?=some x)(hx:Loc X.env.scope x)(r:RelV v u)
  (h:∀s',Inv X pins (σ.set i (some v)) H s'->(∃a,Heap.SameBut a s.heap s'.heap/\(a=X.env.locals\/X.env.cells.lookup x=some a))->Q () s') (hf:X.fn x=true\/X.env.scope.names.lookup x=some .local:=by first|exact .inl rfl|exact .inr rfl|assumption):wpAny M A (storeName X.env x u) Q E s:=by
 obtain⟨m,hn,hl⟩:=id I.loc
 have hcls:(X.env.scope.kind==.class||(X.env.scope.kind==.module&&X.env.locals != X.env.globals))=false:=by rw[I.ok.kind];rfl
 have hiσ:i<σ.length:=by rw[I.len];exact(List.getElem?_eq_some_iff.mp hi).1
 have cne:=I.cne
 have tracked:∀ {a:Addr} {h':Heap},(∃o,s.heap.get? a=some o/\H a=none)->Heap.SameBut a s.heap h'->HOk X.prog X.w H h':=λ{a h'} ha hs b ob e=>by
  obtain⟨_,_,hfree⟩:=ha
  refine(I.hok b ob e).stay (λc w' hc q=>(hs.2 c ?_).trans q) (λ_ q=>q) λ_ _ q=>q
  rintro rfl
  rcases hc with rfl|hc
  ·rw[hfree] at e;cases e
  ·rw[hfree] at hc;cases hc
 rcases hx with hk|hk
 ·refine wpAny_storeName_local hk hn (λh' hn' hs=>?_) hcls
  obtain⟨oL,_,_,hoL,_⟩:=id hn
  refine h _ ⟨I.ok,I.os,I.bare,⟨λb o e n hb hx=>?_,λb o e n hb hx=>?_,I.base.free,λb o e hx=>?_,I.base.tups,I.base.frzs,I.base.tbls⟩,⟨_,hn',λj y v' e1 e2 e3=>?_⟩,λy c e=>?_,I.free,I.freeC,λp hp=>?_,tracked ⟨oL,hoL,I.free⟩ hs,by simpa using I.len⟩ ⟨_,hs,.inl rfl⟩
  ·exact(hs.2 b (Nat.ne_of_lt (Nat.lt_of_lt_of_le (Heap.lt_size e) I.ok.above))).trans (I.base.keep b o e n hb hx)
  ·obtain⟨sl,e1⟩:=I.base.slot b o e n hb hx
   exact⟨sl,(hs.2 b (Nat.ne_of_lt (Nat.lt_of_lt_of_le (Heap.lt_size e) I.ok.above))).trans e1⟩
  ·obtain⟨o',e1⟩:=I.base.there b o e hx
   exact⟨o',(hs.2 b (Nat.ne_of_lt (Nat.lt_of_lt_of_le (Heap.lt_size e) I.ok.above))).trans e1⟩
  ·by_cases hj:j=i
   ·subst hj
    rw[hi] at e1;cases e1
    rw[List.getElem?_set_self hiσ] at e2
    cases e2
    exact⟨u,r,.inl ⟨hk,by simp⟩⟩
   ·rw[List.getElem?_set_ne (Ne.symm hj)] at e2
    obtain⟨u',r',q⟩:=hl j y v' e1 e2 e3
    refine⟨u',r',?_⟩
    rcases q with ⟨k,e⟩|⟨k,c,e,z⟩
    ·refine .inl ⟨k,?_⟩
     have:y≠x:=λe=>hj (qo2 hN e1 (e▸hi))
     simp[this,e]
    ·exact .inr ⟨k,c,e,z.sameBut hs (cne y c e)⟩
  ·obtain⟨w',z⟩:=I.cell y c e
   exact⟨w',z.sameBut hs (cne y c e)⟩
  ·obtain⟨e,n,ne,nf,d⟩:=I.pin p hp
   exact⟨(hs.2 p.1 ne).trans e,n,ne,nf,d⟩
 ·have hfn:X.fn x=true:=by
   rcases hf with z|z
   ·exact z
   ·rw[z] at hk;cases hk
  obtain⟨c,hc⟩:=I.ok.has x (.inl hk)
  obtain⟨w',z⟩:=I.cell x c hc
  refine wpAny_storeName_cell I.ok.kind hk hc z (λh' hc' hs=>?_)
  obtain⟨oc,hoc,hocd⟩:=id z
  refine h { s with heap:=h' } ⟨I.ok,I.os,I.bare,⟨λb o e n hb hx=>?_,λb o e n hb hx=>?_,I.base.free,λb o e hx=>?_,I.base.tups,I.base.frzs,I.base.tbls⟩,⟨m,hn.sameBut hs (Ne.symm (cne x c hc)),λj y v' e1 e2 e3=>?_⟩,λy c' e=>?_,I.free,I.freeC,λp hp=>?_,tracked ⟨oc,hoc,I.freeC x c hc⟩ hs,by simpa using I.len⟩ ⟨c,hs,.inr hc⟩
  ·exact(hs.2 b (Nat.ne_of_lt (Nat.lt_of_lt_of_le (Heap.lt_size e) (I.ok.cab x c hfn hc)))).trans (I.base.keep b o e n hb hx)
  ·obtain⟨sl,e1⟩:=I.base.slot b o e n hb hx
   exact⟨sl,(hs.2 b (Nat.ne_of_lt (Nat.lt_of_lt_of_le (Heap.lt_size e) (I.ok.cab x c hfn hc)))).trans e1⟩
  ·obtain⟨o',e1⟩:=I.base.there b o e hx
   exact⟨o',(hs.2 b (Nat.ne_of_lt (Nat.lt_of_lt_of_le (Heap.lt_size e) (I.ok.cab x c hfn hc)))).trans e1⟩
  ·by_cases hj:j=i
   ·subst hj
    rw[hi] at e1;cases e1
    rw[List.getElem?_set_self hiσ] at e2
    cases e2
    exact⟨u,r,.inr ⟨.inl hk,c,hc,hc'⟩⟩
   ·rw[List.getElem?_set_ne (Ne.symm hj)] at e2
    obtain⟨u',r',q⟩:=hl j y v' e1 e2 e3
    refine⟨u',r',?_⟩
    rcases q with q|⟨k,c',e,z'⟩
    ·exact .inl q
    ·refine .inr ⟨k,c',e,z'.sameBut hs ?_⟩
     rintro rfl
     exact hj (qo2 hN e1 (I.ok.inj _ _ _ e hc▸hi))
  ·by_cases hcc:c'=c
   ·subst hcc;exact⟨_,hc'⟩
   ·obtain⟨w2,z2⟩:=I.cell y c' e
    exact⟨w2,z2.sameBut hs hcc⟩
  ·obtain⟨e,n,ne,nf,d⟩:=I.pin p hp
   refine⟨(hs.2 p.1 ?_).trans e,n,ne,nf,d⟩
   intro q
   rw[q,hoc] at e
   have q':oc=p.2:=Option.some.inj e
   exact d w' (by rw[←q'];exact hocd)
theorem qpe{M:Model}{A:Around}{E:Value->Shared->Prop}{i:Nat}{x:Str}{v:V}{u:Value}{Q:Unit->Shared->Prop}(I:Inv X pins σ H s)(hN:X.N.Nodup)(hi:X.N[i]?=some x)(hx:Loc X.env.scope x)(r:RelV v u)
  (h:∀s',Inv X pins (σ.set i (some v)) H s'->Q () s') (hf:X.fn x=true\/X.env.scope.names.lookup x=some .local:=by first|exact .inl rfl|exact .inr rfl|assumption):wpAny M A (storeName X.env x u) Q E s :=
 qul I hN hi hx r (λs' I' _=>h s' I') hf
theorem Inv.call'{s':Shared}{ch:List Addr}(I:Inv X pins σ H s)(ho:s'.os=s.os)(u:Un (frs X.stack) ch H H' s.heap s'.heap)(hok:HOk X.prog X.w H' s'.heap)(hg:AllBare s'.gens)
  (hch:∀b∈ch,(b∈X.ex\/X.s₀.heap.objs.size<=b)/\b≠X.env.locals/\(∀x c,X.env.cells.lookup x=some c->c≠b)/\∀p∈X.pn++pins,p.1≠b):Inv X pins σ H' s':=by
 obtain⟨h',g',d',t',o'⟩:=s'
 have e:o'=s.os:=ho
 subst e
 exact I.call (g':=g') (t':=t') (d':=d') u hok hg hch
end
abbrev XK:=Value->Option Addr->Hp->Prop
abbrev St:=List (Option V)
abbrev VK:=V->Hp->Prop
abbrev TE:=St->Hp->VK->Prop
abbrev TT:=St->Hp->(Bool->Hp->Prop)->Prop
abbrev TA:=St->Hp->(List V->Hp->Prop)->Prop
structure Ends where
 nx:St->Hp->Prop
 rt:VK
 bk:St->Hp->Prop:=λ_ _=>False
 ct:St->Hp->Prop:=λ_ _=>False
abbrev TS:=Ends->St->Hp->Prop
def EP(X:Cx)(pins:List (Addr×Obj))(σ:St)(Q:VK)(u:Value)(s':Shared):Prop:=∃v H',Inv X pins σ H' s'/\RelV v u/\Q v H'
def TP(X:Cx)(pins:List (Addr×Obj))(σ:St)(Q:Bool->Hp->Prop)(b:Bool)(s':Shared):Prop:=∃H',Inv X pins σ H' s'/\Q b H'
def AP(X:Cx)(pins:List (Addr×Obj))(σ:St)(Q:List V->Hp->Prop)(us:List Value)(s':Shared):Prop:=∃vs H',Inv X pins σ H' s'/\Vals vs us/\Q vs H'
def SP(X:Cx)(pins:List (Addr×Obj))(D:Ends)(f:Flow)(s':Shared):Prop :=
 match f with
|.next=>∃σ' H',Inv X pins σ' H' s'/\D.nx σ' H'
|.brk=>∃σ' H',Inv X pins σ' H' s'/\D.bk σ' H'
|.cont=>∃σ' H',Inv X pins σ' H' s'/\D.ct σ' H'
|.ret u=>∃v σ' H',Inv X pins σ' H' s'/\RelV v u/\D.rt v H'
def PE(X:Cx)(e:Expr)(t:TE):Prop :=
 ∀(pins:List (Addr×Obj)) (s:Shared) (σ:St) (H:Hp) (Q:VK),Inv X pins σ H s->t σ H Q->wpAny (model X.prog X.w) X.A (eval e X.env) (EP X pins σ Q) X.xe s
def PT(X:Cx)(e:Expr)(t:TT):Prop :=
 ∀(pins:List (Addr×Obj)) (s:Shared) (σ:St) (H:Hp) (Q:Bool->Hp->Prop),Inv X pins σ H s->t σ H Q->wpAny (model X.prog X.w) X.A (isTrue e X.env (eval e X.env)) (TP X pins σ Q) X.xe s
def PW(X:Cx)(e:Expr)(t:TT):Prop :=
 ∀(whole:Sem Value) (pins:List (Addr×Obj)) (s:Shared) (σ:St) (H:Hp) (Q:Bool->Hp->Prop),Inv X pins σ H s->t σ H Q->wpAny (model X.prog X.w) X.A (isTrue e X.env whole) (TP X pins σ Q) X.xe s
theorem PW.pt{X:Cx}{e:Expr}{t:TT}(h:PW X e t):PT X e t:=h _
def PA(X:Cx)(es:List Expr)(t:TA):Prop :=
 ∀(pos:Pos) (pins:List (Addr×Obj)) (s:Shared) (σ:St) (H:Hp) (Q:List V->Hp->Prop),Inv X pins σ H s->t σ H Q->wpAny (model X.prog X.w) X.A (spliced (backTo pos (starEach es X.env))) (AP X pins σ Q) X.xe s
def PS(X:Cx)(st:Stmt)(t:TS):Prop :=
 ∀(pins:List (Addr×Obj)) (s:Shared) (σ:St) (H:Hp) (D:Ends),Inv X pins σ H s->t D σ H->wpAny (model X.prog X.w) X.A (exec st X.env) (SP X pins D) X.xe s
def PSs(X:Cx)(st:List Stmt)(t:TS):Prop :=
 ∀(pins:List (Addr×Obj)) (s:Shared) (σ:St) (H:Hp) (D:Ends),Inv X pins σ H s->t D σ H->wpAny (model X.prog X.w) X.A (execs st X.env) (SP X pins D) X.xe s
theorem thn{α:Type}{t:Sem α}{Q Q':α->Shared->Prop}{M:Model}{A:Around}{E:Value->Shared->Prop}{s:Shared}(h:wpAny M A t Q E s)(hQ:∀a s,Q a s->Q' a s):wpAny M A t Q' E s:=wpAny_mono h hQ λ_ _ x=>x
end L2
namespace L2
open PySem PySem.Spec PyProof.Rows
section
variable {X:Cx}
def tVar(i:Nat):TE:=λσ H Q=>∃v,σ[i]?=some (some v)/\Q v H
def tC(v:V):TE:=λ_ H Q=>Q v H
theorem qy3{i:Nat}{x:Str}{pos:Pos}(hN:X.N[i]?=some x)(hv:Vis X.env.scope x)(hd:(x==("__debug__" : Str))=false:=by decide)(hcd:(x==("__classdict__" : Str))=false:=by decide):PE X (.Name x pos) (tVar i):=by
 intro pins s σ H Q I h
 obtain⟨v,e,h⟩:=h
 obtain⟨m,hn,hl⟩:=I.loc
 obtain⟨u,r,l⟩:=hl i x v hN e hv
 have fin:EP X pins σ Q u s:=⟨v,H,I,r,h⟩
 rcases l with ⟨hk,hm⟩|⟨hk,c,hc,hcell⟩
 ·exact wpAny_Name (wpAny_loadName_local I.ok.kind hk hn hm fin) hd
 ·rcases hk with hk|hk
  ·exact wpAny_Name (wpAny_loadName_cell I.ok.kind hk hc hcell fin) hd
  ·exact wpAny_Name (wpAny_loadName_free I.ok.kind hk hc hcell fin hcd) hd
theorem q4q{i j pos}:PE X (.Constant (.int i) j pos) (tC (.int i)):=λ_ _ _ H _ I h=>wpAny_Constant_int ⟨.int i,H,I.tok _,⟨_,rfl⟩,h⟩
theorem q69{b j pos}:PE X (.Constant (.bool b) j pos) (tC (.bl b)):=λ_ _ _ H _ I h=>Constant_bool ⟨.bl b,H,I,rfl,h⟩
theorem q4t{j pos}:PE X (.Constant .none j pos) (tC .non):=λ_ _ _ H _ I h=>Constant_none ⟨.non,H,I,rfl,h⟩
theorem q4v{x j pos}:PE X (.Constant (.str x) j pos) (tC (.str x)):=λ_ _ _ H _ I h=>Calls.Constant_str ⟨.str x,H,I.tok _,⟨_,rfl⟩,h⟩
def Gl(X:Cx)(x:Str):Prop:=X.env.kindOf x=some .globalImplicit
theorem qhf{E:Value->Shared->Prop}{pins:List (Addr×Obj)}{s:Shared}{σ:St}{H:Hp}{x:Str}{u:Value}{pos:Pos}{Q:Value->Shared->Prop}(I:Inv X pins σ H s)(hg:Gl X x)(hm:X.mg x=some u)(h:Q u s)
  (hd:(x==("__debug__" : Str))=false:=by decide):wpAny (model X.prog X.w) X.A (eval (.Name x pos) X.env) Q E s :=
 Calls.Name_function_global I.ok.kind hg (Calls.loadGlobal_global (by rw[I.ok.glob];exact I.mod.glob.keeps I.bk) hm h) hd
theorem qld{E:Value->Shared->Prop}{pins:List (Addr×Obj)}{s:Shared}{σ:St}{H:Hp}{x:Str}{u:Value}{pos:Pos}{Q:Value->Shared->Prop}(I:Inv X pins σ H s)(hg:Gl X x)(hm:X.mg x=none)(hv:bootBuiltins x=some u)(h:Q u s)
  (hn:x≠"__name__" := by decide) (hd:(x==("__debug__" : Str))=false:=by decide):wpAny (model X.prog X.w) X.A (eval (.Name x pos) X.env) Q E s:=by
 obtain⟨mb,h1,h2⟩:=I.mod.blt
 exact Calls.Name_function_global I.ok.kind hg (Calls.loadGlobal_builtin (by rw[I.ok.glob];exact I.mod.glob.keeps I.bk) hm (by rw[I.ok.blt];exact h1.keeps I.bk) ((h2 x hn).trans hv) h) hd
theorem qt3{x:Str}{v:V}{u:Value}{pos:Pos}(hg:Gl X x)(hm:X.mg x=some u)(r:RelV v u)(hd:(x==("__debug__" : Str))=false:=by decide):PE X (.Name x pos) (tC v) :=
 λ_ _ _ H _ I h=>qhf I hg hm ⟨v,H,I,r,h⟩ hd
theorem q1c{x:Str}{v:V}{u:Value}{pos:Pos}(hg:Gl X x)(hm:X.mg x=none)(hv:bootBuiltins x=some u)(r:RelV v u)(hn:x≠"__name__" := by decide)(hd:(x==("__debug__" : Str))=false:=by decide):PE X (.Name x pos) (tC v) :=
 λ_ _ _ H _ I h=>qld I hg hm hv ⟨v,H,I,r,h⟩ hn hd
variable {a b:Expr} {ta tb:TE} {pos:Pos}
def tB(t:TE):TT:=λσ H Q=>t σ H λx H1=>∃c,x=.bl c/\Q c H1
theorem q44{e:Expr}{t:TE}(h:PE X e t)(he:∀whole,isTrue e X.env whole=(do let v ←whole;standAt e.pos;holding [v] (truthy v)):=by intro _;rfl):PT X e (tB t):=by
 intro pins s σ H Q I hw
 refine isTrue_plain (thn (h pins s σ H _ I hw) λv s1 ⟨x,H1,I1,r1,q1⟩=>?_) (he _)
 obtain⟨d,rfl,q⟩:=q1
 cases r1
 exact wpAny_truthy_bool ⟨H1,I1,q⟩
variable {tA tB':TT} {rest:List Expr}
def tAnd(t u:TT):TT:=λσ H Q=>t σ H λc H1=>if c=true then u σ H1 Q else Q false H1
def tOr(t u:TT):TT:=λσ H Q=>t σ H λc H1=>if c=true then Q true H1 else u σ H1 Q
def tNot(t:TT):TT:=λσ H Q=>t σ H λc H1=>Q (!c) H1
theorem q1u(ha:PT X a tA):PW X (.BoolOp .And [a] pos) tA:=by
 intro wh pins s σ H Q I h
 refine isTrue_and (thn (ha pins s σ H Q I h) λc s1 e=>?_)
 cases c with
|true=>exact isTrue_and_nil e
|false=>exact e
theorem q46(ha:PT X a tA):PW X (.BoolOp .Or [a] pos) tA:=by
 intro wh pins s σ H Q I h
 refine isTrue_or (thn (ha pins s σ H Q I h) λc s1 e=>?_)
 cases c with
|false=>exact isTrue_or_nil e
|true=>exact e
theorem q45(ha:PT X a tA)(hb:PW X (.BoolOp .And (b::rest) pos) tB'):PW X (.BoolOp .And (a::b::rest) pos) (tAnd tA tB'):=by
 intro wh pins s σ H Q I h
 refine isTrue_and (thn (ha pins s σ H _ I h) λc s1 ⟨H1,I1,q1⟩=>?_)
 cases c with
|true=>exact hb wh pins s1 σ H1 Q I1 q1
|false=>exact⟨H1,I1,q1⟩
theorem q7g(ha:PT X a tA)(hb:PW X (.BoolOp .Or (b::rest) pos) tB'):PW X (.BoolOp .Or (a::b::rest) pos) (tOr tA tB'):=by
 intro wh pins s σ H Q I h
 refine isTrue_or (thn (ha pins s σ H _ I h) λc s1 ⟨H1,I1,q1⟩=>?_)
 cases c with
|true=>exact⟨H1,I1,q1⟩
|false=>exact hb wh pins s1 σ H1 Q I1 q1
theorem q43(ha:PT X a tA):PT X (.UnaryOp .Not a pos) (tNot tA):=by
 intro pins s σ H Q I h
 exact isTrue_not (ha pins s σ H (λc H1=>Q (!c) H1) I h)
def q54(ta tb:TE):TE:=λσ H Q=>ta σ H λx H1=>∃c,x=.bl c/\if c=true then tb σ H1 Q else Q (.bl false) H1
def tOrV(ta tb:TE):TE:=λσ H Q=>ta σ H λx H1=>∃c,x=.bl c/\if c=true then Q (.bl true) H1 else tb σ H1 Q
theorem q4u{op}{t:TE}(h:PE X a t):PE X (.BoolOp op [a] pos) t:=λpins s σ H Q I hw=>BoolOp_one (h pins s σ H Q I hw)
theorem q4n(ha:PE X a ta)(hb:PE X (.BoolOp .And (b::rest) pos) tb):PE X (.BoolOp .And (a::b::rest) pos) (q54 ta tb):=by
 intro pins s σ H Q I h
 refine BoolOp_and (thn (ha pins s σ H _ I h) λv s1 ⟨x,H1,I1,r1,q1⟩=>?_)
 obtain⟨c,rfl,q1⟩:=q1
 cases r1
 refine wpAny_truthy_bool ?_
 cases c with
|true=>exact hb pins s1 σ H1 Q I1 q1
|false=>exact⟨.bl false,H1,I1,rfl,q1⟩
theorem q7c(ha:PE X a ta)(hb:PE X (.BoolOp .Or (b::rest) pos) tb):PE X (.BoolOp .Or (a::b::rest) pos) (tOrV ta tb):=by
 intro pins s σ H Q I h
 refine BoolOp_or (thn (ha pins s σ H _ I h) λv s1 ⟨x,H1,I1,r1,q1⟩=>?_)
 obtain⟨c,rfl,q1⟩:=q1
 cases r1
 refine wpAny_truthy_bool ?_
 cases c with
|false=>exact hb pins s1 σ H1 Q I1 q1
|true=>exact⟨.bl true,H1,I1,rfl,q1⟩
def tIf(t:TT)(ta tb:TE):TE:=λσ H Q=>t σ H λc H1=>if c=true then ta σ H1 Q else tb σ H1 Q
theorem qw4{c:Expr}(hc:PT X c tA)(ha:PE X a ta)(hb:PE X b tb):PE X (.IfExp c a b pos) (tIf tA ta tb):=by
 intro pins s σ H Q I h
 refine wpAny_IfExp (thn (hc pins s σ H _ I h) λd s1 ⟨H1,I1,q1⟩=>?_)
 cases d with
|true=>exact ha pins s1 σ H1 Q I1 q1
|false=>exact hb pins s1 σ H1 Q I1 q1
end
end L2
namespace L2
open PySem PySem.Spec PyProof.Rows
def SqL(K:PySem.W.Frag)(H:Hp)(a:Addr)(xs:List V):Prop :=
 Rd H a (.lst xs) \/
  ∃(o:Obj) (its:Array Value) (n:Nat),K.lookup a=some o/\o.cls=.type "list" /\ o.dict=none/\o.data=.seq its n/\its.size<=sizeLine/\Vals xs its.toList
def SqT(K:PySem.W.Frag)(H:Hp)(a:Addr)(xs:List V):Prop :=
 Rd H a (.tup xs) \/
  ∃(o:Obj) (its:Array Value) (n:Nat),K.lookup a=some o/\o.cls=.type "tuple" /\ o.data=.seq its n/\its.size<=sizeLine/\Vals xs its.toList
def absV:Value->Option V
|.none=>some .non
|.bool b=>some (.bl b)
|.int i _=>some (.int i)
|.str x _=>some (.str x)
|.bytes b _=>some (.byt b)
|.float b _=>some (.flt b)
|.ref a=>some (.ref a)
|.type n=>some (.ty n)
|_=>none
theorem RelV.abs{x:V}{u:Value}(r:RelV x u):absV u=some x:=by
 cases x with
|non=>cases r;rfl
|bl _=>cases r;rfl
|int _=>obtain⟨t,rfl⟩:=r;rfl
|str _=>obtain⟨t,rfl⟩:=r;rfl
|byt _=>obtain⟨t,rfl⟩:=r;rfl
|flt _=>obtain⟨t,rfl⟩:=r;rfl
|ref _=>cases r;rfl
|ty _=>cases r;rfl
theorem RelV.inj{x y:V}{u:Value}(r:RelV x u)(q:RelV y u):x=y:=Option.some.inj (r.abs.symm.trans q.abs)
theorem Vals.inj:∀ {xs ys:List V} {us:List Value},Vals xs us->Vals ys us->xs=ys
|_,_,_,.nil,.nil=>rfl
|_,_,_,.cons r t,.cons r' t'=>by rw[r.inj r',Vals.inj t t']
section
variable {X:Cx} {pins:List (Addr×Obj)} {σ:St} {H:Hp} {s:Shared} {a:Addr} {xs ys:List V}
theorem SqL.of{K:PySem.W.Frag}(h:H a=some (.lst xs)):SqL K H a xs:=.inl (.inl h)
theorem SqT.of{K:PySem.W.Frag}(h:H a=some (.tup xs)):SqT K H a xs:=.inl (.inl h)
theorem Inv.list(I:Inv X pins σ H s)(h:SqL X.K H a xs):∃its:List Value,Vals xs its/\PlainL s.heap a its.toArray/\xs.length<=sizeLine:=by
 rcases h with h|⟨o,its,n,hk,hc,hd,hs,hz,r⟩
 ·obtain⟨z,its,n,r,e⟩:=h.ok I.hok
  exact⟨its,r,⟨_,n,e,rfl,rfl,rfl⟩,z⟩
 ·refine⟨its.toList,r,⟨o,n,I.kIn a o hk,hc,hd,by simpa using hs⟩,?_⟩
  have e:=r.length
  simp only[Array.length_toList] at e
  lia
theorem Inv.tuple(I:Inv X pins σ H s)(h:SqT X.K H a xs):∃its:List Value,Vals xs its/\IsTup s.heap a its.toArray/\xs.length<=sizeLine:=by
 rcases h with h|⟨o,its,n,hk,hc,hs,hz,r⟩
 ·obtain⟨z,its,r,p⟩:=h.ok I.hok
  exact⟨its,r,p,z⟩
 ·refine⟨its.toList,r,⟨o,I.kIn a o hk,hc,n,by simpa using hs⟩,?_⟩
  have e:=r.length
  simp only[Array.length_toList] at e
  lia
theorem Inv.list_inj(I:Inv X pins σ H s)(h:SqL X.K H a xs)(h':SqL X.K H a ys):xs=ys:=by
 obtain⟨its,r,⟨o,n,e,_,_,d⟩,_⟩:=I.list h
 obtain⟨its',r',⟨o',n',e',_,_,d'⟩,_⟩:=I.list h'
 rw[e] at e';cases e'
 rw[d] at d'
 injection d' with d1 _
 have:its=its':=by simpa using congrArg Array.toList d1
 subst this
 exact r.inj r'
theorem Inv.tuple_inj(I:Inv X pins σ H s)(h:SqT X.K H a xs)(h':SqT X.K H a ys):xs=ys:=by
 obtain⟨its,r,⟨o,e,_,n,d⟩,_⟩:=I.tuple h
 obtain⟨its',r',⟨o',e',_,n',d'⟩,_⟩:=I.tuple h'
 rw[e] at e';cases e'
 rw[d] at d'
 injection d' with d1 _
 have:its=its':=by simpa using congrArg Array.toList d1
 subst this
 exact r.inj r'
end
abbrev Cx.wish(X:Cx)(E:Value->Shared->Prop):Cx:={ X with xe:=E }
abbrev Cx.nox(X:Cx):Cx:=X.wish λ_ _=>False
theorem Cx.Ok.wish{X:Cx}(ok:X.Ok)(E:Value->Shared->Prop):(X.wish E).Ok :=
 ⟨ok.mod,ok.kind,ok.glob,ok.blt,ok.above,ok.inj,ok.has,ok.cab,ok.hd,ok.frames,ok.stk,ok.exf,ok.bs,ok.bsz,ok.noex,ok.exfs,ok.funs,ok.frf⟩
theorem Cx.Ok.unwish{X:Cx}{E:Value->Shared->Prop}(ok:(X.wish E).Ok):X.Ok :=
 ⟨ok.mod,ok.kind,ok.glob,ok.blt,ok.above,ok.inj,ok.has,ok.cab,ok.hd,ok.frames,ok.stk,ok.exf,ok.bs,ok.bsz,ok.noex,ok.exfs,ok.funs,ok.frf⟩
section
variable {X:Cx} {pins:List (Addr×Obj)} {σ:St} {H:Hp} {s:Shared} {E:Value->Shared->Prop}
theorem Inv.wish(I:Inv X pins σ H s)(E:Value->Shared->Prop):Inv (X.wish E) pins σ H s:=⟨I.ok.wish E,I.os,I.bare,I.base,I.loc,I.cell,I.free,I.freeC,I.pin,I.hok,I.len⟩
theorem Inv.unwish(I:Inv (X.wish E) pins σ H s):Inv X pins σ H s:=⟨I.ok.unwish,I.os,I.bare,I.base,I.loc,I.cell,I.free,I.freeC,I.pin,I.hok,I.len⟩
theorem SP.unwish{D:Ends}{f:Flow}{s':Shared}(h:SP (X.wish E) pins D f s'):SP X pins D f s':=by
 cases f with
|next=>obtain⟨σ',H',I,q⟩:=h;exact⟨σ',H',I.unwish,q⟩
|brk=>obtain⟨σ',H',I,q⟩:=h;exact⟨σ',H',I.unwish,q⟩
|cont=>obtain⟨σ',H',I,q⟩:=h;exact⟨σ',H',I.unwish,q⟩
|ret u=>obtain⟨v,σ',H',I,r,q⟩:=h;exact⟨v,σ',H',I.unwish,r,q⟩
theorem PSs.nox{st:List Stmt}{t:TS}(h:PSs X.nox st t):PSs X st t:=λpins s σ H D I hw =>
 wpAny_mono (h pins s σ H D (I.wish _) hw) (λ_ _ q=>q.unwish) λ_ _ z=>False.elim z
end
section
variable {X:Cx} {st:Stmt} {rest:List Stmt} {t u:TS} {e:Expr} {te:TE} {pos:Pos}
def q58:TS:=λD σ H=>D.nx σ H
def tSeq(t u:TS):TS:=λD σ H=>t { D with nx:=u D } σ H
theorem q1q:PSs X [] q58:=λ_ _ σ H _ I h=>wpAny_execs_nil ⟨σ,H,I,h⟩
theorem qxa(h1:PS X st t)(h2:PSs X rest u):PSs X (st::rest) (tSeq t u):=by
 intro pins s σ H D I h
 refine wpAny_execs_cons (thn (h1 pins s σ H { D with nx:=u D } I h) λf s1 q=>?_)
 cases f with
|next =>
  obtain⟨σ',H',I',q⟩:=q
  exact h2 pins s1 σ' H' D I' q
|ret v=>exact q
|brk=>exact q
|cont=>exact q
theorem q1r(h1:PS X st t):PSs X [st] t:=by
 intro pins s σ H D I h
 refine wpAny_execs_cons (thn (h1 pins s σ H D I h) λf s1 q=>?_)
 cases f with
|next=>exact wpAny_execs_nil q
|ret v=>exact q
|brk=>exact q
|cont=>exact q
theorem Inv.quiet{pins:List (Addr×Obj)}{σ:St}{H:Hp}{s:Shared}(I:Inv X pins σ H s):interactive X.env=false:=by simp[interactive,I.ok.kind]
def q56(te:TE):TS:=λD σ H=>te σ H λ_ H1=>D.nx σ H1
theorem q1p(he:PE X e te)(hs:swapsWith e none pos.line X.env=pure false:=by rfl):PS X (.Expr e pos) (q56 te):=by
 intro pins s σ H D I h
 exact wpAny_Expr_any (thn (he pins s σ H _ I h) λv s1 ⟨x,H1,I1,r1,q1⟩=>⟨σ,H1,I1,q1⟩) I.quiet hs
def tRet(te:TE):TS:=λD σ H=>te σ H D.rt
theorem q41(he:PE X e te):PS X (.Return (some e) pos) (tRet te):=by
 intro pins s σ H D I h
 exact wpAny_Return_some (thn (he pins s σ H _ I h) λv s1 ⟨x,H1,I1,r1,q1⟩=>⟨x,σ,H1,I1,r1,q1⟩)
def tIfS(c:TT)(t u:TS):TS:=λD σ H=>c σ H λb H1=>if b=true then t D σ H1 else u D σ H1
theorem q7f{c:Expr}{a b:List Stmt}{tc:TT}(hc:PT X c tc)(ha:PSs X a t)(hb:PSs X b u):PS X (.If c a b pos) (tIfS tc t u):=by
 intro pins s σ H D I h
 refine wpAny_If (thn (hc pins s σ H _ I h) λd s1 ⟨H1,I1,q1⟩=>?_)
 cases d with
|true=>exact ha pins s1 σ H1 D I1 q1
|false=>exact hb pins s1 σ H1 D I1 q1
end
abbrev TG:=V->St->Hp->(St->Hp->Prop)->Prop
abbrev TGs:=List V->St->Hp->(St->Hp->Prop)->Prop
def PG(X:Cx)(target:Expr)(t:TG):Prop :=
 ∀(pins:List (Addr×Obj)) (s:Shared) (σ:St) (H:Hp) (v:V) (u:Value) (Q:St->Hp->Prop),Inv X pins σ H s->RelV v u->t v σ H Q ->
  wpAny (model X.prog X.w) X.A (assign target X.env u) (λ_ s'=>∃σ' H',Inv X pins σ' H' s'/\Q σ' H') X.xe s
def PGs(X:Cx)(ts:List Expr)(t:TGs):Prop :=
 ∀(pins:List (Addr×Obj)) (s:Shared) (σ:St) (H:Hp) (vs:List V) (us:List Value) (Q:St->Hp->Prop),Inv X pins σ H s->Vals vs us->t vs σ H Q ->
  wpAny (model X.prog X.w) X.A (assignInOrder ((assignEach ts X.env).map (·.2)) us) (λ_ s'=>∃σ' H',Inv X pins σ' H' s'/\Q σ' H') X.xe s
section
variable {X:Cx} {pos:Pos}
def qqa(i:Nat):TG:=λv σ H Q=>Q (σ.set i (some v)) H
theorem q1h{i:Nat}{x:Str}(hN:X.N.Nodup)(hi:X.N[i]?=some x)(hx:Loc X.env.scope x)(hf:X.fn x=true\/X.env.scope.names.lookup x=some .local:=by first|exact .inl rfl|exact .inr rfl|assumption):PG X (.Name x pos) (qqa i):=by
 intro pins s σ H v u Q I r h
 exact wpAny_assign_Name (qpe I hN hi hx r (λs' I'=>⟨_,H,I',h⟩) hf)
def gNil:TGs:=λvs σ H Q=>vs=[]/\Q σ H
def q3u(t:TG)(u:TGs):TGs:=λvs σ H Q=>∃v r,vs=v::r/\t v σ H λσ' H'=>u r σ' H' Q
theorem q1i:PGs X [] gNil:=by
 intro pins s σ H vs us Q I r h
 obtain⟨e,h⟩:=h
 subst e
 cases r
 exact assignInOrder_nil ⟨σ,H,I,h⟩
theorem qw6{e:Expr}{es:List Expr}{t:TG}{u:TGs}(h1:PG X e t)(h2:PGs X es u)
  (hs:(assignEach (e::es) X.env).map (·.2)=assign e X.env::(assignEach es X.env).map (·.2):=by rfl):PGs X (e::es) (q3u t u):=by
 intro pins s σ H vs us Q I r h
 obtain⟨v,vr,e1,h⟩:=h
 subst e1
 cases r with
|cons r rr =>
  rw[hs]
  refine assignInOrder_cons (thn (h1 pins s σ H _ _ _ I r h) λ_ s1 ⟨σ1,H1,I1,q1⟩=>?_)
  exact h2 pins s1 σ1 H1 _ _ Q I1 rr q1
def gTup(K:PySem.W.Frag)(n:Nat)(t:TGs):TG:=λv σ H Q=>∃a xs,v=.ref a/\SqT K H a xs/\xs.length=n/\t xs σ H Q
theorem q4x{es:List Expr}{k:Nat}{t:TGs}{n:Nat}(hc:X.calm=true)(h:PGs X es t)
  (hn:(assignEach es X.env).length=n:=by rfl) (hst:(assignEach es X.env).findIdx? (·.1)=none:=by rfl):PG X (.Tuple es k pos) (gTup X.K n t):=by
 intro pins s σ H v u Q I r hw
 obtain⟨a,xs,e1,hq,hl,hw⟩:=hw
 subst e1
 cases r
 obtain⟨its,rv,ht,hz⟩:=I.tuple hq
 refine assign_Tuple_tuple (I.ok.hd hc) ht (by simp[hn,←hl,rv.length]) hst λh' hx=>?_
 have I1:Inv X pins σ H { s with heap:=h' }:=I.kept (t':=s.toks) λb o e=>hx b o (Nat.ne_of_lt (Heap.lt_size e)) e
 exact h pins _ σ H xs _ Q I1 (by simpa using rv) hw
def tAsg(te:TE)(g:TG):TS:=λD σ H=>te σ H λx H1=>g x σ H1 D.nx
theorem q42{i:Nat}{x:Str}{e:Expr}{te:TE}{pos':Pos}(hN:X.N.Nodup)(hi:X.N[i]?=some x)(hx:Loc X.env.scope x)(he:PE X e te)(hs:swapsWith e (some (.Name x pos')) pos.line X.env=pure false:=by rfl)(hf:X.fn x=true\/X.env.scope.names.lookup x=some .local:=by first|exact .inl rfl|exact .inr rfl|assumption) :
  PS X (.Assign [.Name x pos'] e pos) (tAsg te (qqa i)):=by
 intro pins s σ H D I h
 refine wpAny_Assign_Name (thn (he pins s σ H _ I h) λv s1 ⟨y,H1,I1,r1,q1⟩=>?_) hs
 exact qpe I1 hN hi hx r1 (λs2 I2=>⟨_,H1,I2,q1⟩) hf
end
section
variable {X:Cx} {pos:Pos}
def qzi(c:TT)(tb:TS):TS:=λD σ H=>∃W:Nat->St->Hp->Prop,(∃m,W m σ H)/\∀m σ H,W m σ H ->
 c σ H λb H1=>if b=true then ∃N:St->Hp->Prop,(∀σ' H',N σ' H'->∃m',m'<m/\W m' σ' H')/\tb { D with nx:=N,ct:=N,bk:=D.nx } σ H1 else D.nx σ H1
theorem qw9{c:Expr}{body:List Stmt}{tc:TT}{tb:TS}(hp:PassesOwn (model X.prog X.w) X.A X.env X.xe)(hc:PT X c tc)(hb:PSs X body tb):PS X (.While c body [] pos) (qzi tc tb):=by
 intro pins s σ H D I h
 obtain⟨W,⟨m0,w0⟩,turn⟩:=h
 refine wpAny_While (codeAny_whileLoop (λn s'=>∃σ' H',Inv X pins σ' H' s'/\W n σ' H') ?_ m0 ⟨σ,H,I,w0⟩)
 rintro n s1 ⟨σ1,H1,I1,w1⟩
 refine wpAny_passesOwn hp (thn (hc pins s1 σ1 H1 _ I1 (turn n σ1 H1 w1)) λb s2 ⟨H2,I2,q2⟩=>?_)
 cases b with
|true =>
  obtain⟨N,hN,q2⟩:=q2
  rw[if_pos rfl]
  refine wpAny_passesOwn hp (thn (hb pins s2 σ1 H2 _ I2 q2) λf s3 q3=>?_)
  cases f with
 |next =>
   obtain⟨σ3,H3,I3,n3⟩:=q3
   obtain⟨m',hm,w3⟩:=hN σ3 H3 n3
   exact⟨m',hm,σ3,H3,I3,w3⟩
 |cont =>
   obtain⟨σ3,H3,I3,n3⟩:=q3
   obtain⟨m',hm,w3⟩:=hN σ3 H3 n3
   exact⟨m',hm,σ3,H3,I3,w3⟩
 |brk=>exact q3
 |ret v=>exact q3
|false =>
  rw[if_neg Bool.false_ne_true]
  exact wpAny_execs_nil ⟨σ1,H2,I2,q2⟩
end
structure It where
 go:Nat->Hp->Prop
 yld:Nat->Hp->V->Hp->Prop
 stop:Nat->Hp->Prop
def FpOk(X:Cx)(pins:List (Addr×Obj))(H:Hp)(b:Addr):Prop :=
 H b=none/\b≠X.env.locals/\b∉X.fs/\(b∈X.ex\/X.s₀.heap.objs.size<=b)/\(∀x c,X.env.cells.lookup x=some c->c≠b)/\∀p∈X.pn++pins,p.1≠b
theorem Inv.fpOk{X:Cx}{pins:List (Addr×Obj)}{σ:St}{H H':Hp}{s:Shared}{b:Addr}(I:Inv X pins σ H s)(hb:s.heap.objs.size<=b)(hn:H' b=none):FpOk X pins H' b:=by
 refine⟨hn,Nat.ne_of_gt (Nat.lt_of_lt_of_le I.lt hb),I.nofs hb,.inr (Nat.le_trans I.sz hb),λx c e z=>?_,λp hp z=>?_⟩
 ·obtain⟨v,q⟩:=I.cell x c e
  exact absurd (Nat.lt_of_lt_of_le q.lt (by rw[z];exact hb)) (Nat.lt_irrefl _)
 ·exact absurd (Nat.lt_of_lt_of_le (Heap.lt_size (I.pin p hp).1) (by rw[z];exact hb)) (Nat.lt_irrefl _)
structure Turn(P:Program)(w:World)(K:PySem.W.Frag)(tg:Expr)(J:It)(fp:List Addr)(it:Addr)(tn:Nat->Heap->Prop):Prop where
 mem:it∈fp
 obj:∀i h,tn i h->∀b∈fp,∃o,h.get? b=some o/\∀v,o.data≠.cell v
 keep:∀i h h',tn i h->(∀b∈fp,∀o,h.get? b=some o->h'.get? b=some o)->tn i h'
 item:∀(X:Cx),X.prog=P->X.w=w->X.K=K->X.calm=true->∀(i:Nat) (pins:List (Addr×Obj)) (s:Shared) (σ:St) (H:Hp) (E:Value->Shared->Prop),Inv X pins σ H s->(∀b∈fp,FpOk X pins H b)->tn i s.heap->J.go i H ->
  wpAny (model P w) X.A (pyNext (.ref it)) (λr s1=>∃u,r=some u /\
   wpAny (model P w) X.A (letOwnedTupleGo tg (.ref it) u) (λ_ s2=>∃x H',Inv X pins σ H' s2/\RelV x u/\J.yld i H x H'/\tn (i+1) s2.heap/\∀b∈fp,H' b=none) E s1) E s
 done:∀(X:Cx),X.prog=P->X.w=w->X.K=K->X.calm=true->∀(i:Nat) (pins:List (Addr×Obj)) (s:Shared) (σ:St) (H:Hp) (E:Value->Shared->Prop),Inv X pins σ H s->(∀b∈fp,FpOk X pins H b)->tn i s.heap->J.stop i H ->
  wpAny (model P w) X.A (pyNext (.ref it)) (λr s1=>r=none/\Inv X pins σ H s1) E s
 self:∀(A:Around) (i:Nat) (s:Shared) (Q:Value->Shared->Prop) (E:Value->Shared->Prop),tn i s.heap->Q (.ref it) s->wpAny (model P w) A (pyIter (.ref it)) Q E s
abbrev TI:=St->Hp->(It->Hp->Prop)->Prop
def PIE(X:Cx)(pins:List (Addr×Obj))(σ:St)(tg:Expr)(R:It->Hp->Prop)(itv:Value)(s2:Shared):Prop :=
 ∃(it:Addr) (fp:List Addr) (tn:Nat->Heap->Prop) (J:It) (H':Hp),itv=.ref it/\Inv X pins σ H' s2/\Turn X.prog X.w X.K tg J fp it tn/\tn 0 s2.heap/\(∀b∈fp,FpOk X pins H' b)/\R J H'
def PI(X:Cx)(tg iter:Expr)(wi:TI):Prop :=
 ∀(pins:List (Addr×Obj)) (s:Shared) (σ:St) (H:Hp) (R:It->Hp->Prop),Inv X pins σ H s->wi σ H R ->
  wpAny (model X.prog X.w) X.A (eval iter X.env) (λv s1=>wpAny (model X.prog X.w) X.A (pyIter v) (PIE X pins σ tg R) X.xe s1) X.xe s
theorem qsz{M:Model}{A:Around}{E:Value->Shared->Prop}{s:Shared}{tg:Expr}{it:Addr}{u:Value}{o:Obj}{n:String}{vs:Array Value}{Q:Unit->Shared->Prop}(ho:s.heap.get? it=some o)(hc:o.cls=.type n)(hd:o.data=.fields vs)
    (hn:["enumerate","zip","dict_itemiterator","dict_reverseitemiterator","odict_iterator","itertools.zip_longest","itertools.pairwise"].contains n=false) (hQ:Q () s):wpAny M A (letOwnedTupleGo tg (.ref it) u) Q E s:=by
  unfold letOwnedTupleGo
  cases tg<;>first
   |exact wpAny_pure hQ
   |  (cases u<;>first
       |exact wpAny_pure hQ
       |  (refine wpAny_bind (wpAny_load ho ?_)
           rw[hc,hd]
           show wpAny M A (if (["enumerate","zip","dict_itemiterator","dict_reverseitemiterator","odict_iterator","itertools.zip_longest","itertools.pairwise"].contains n&&vs[0]?==some (rawInt _))=true then _ else _) Q E s
           rw[if_neg (by intro h;rw[hn,Bool.false_and] at h;cases h)]
           exact wpAny_pure hQ))
def Itl(K:PySem.W.Frag)(a:Addr):It :=
 ⟨λi H=>∃xs x,SqL K H a xs/\xs[i]?=some x,λi H x H'=>H'=H/\∀xs,SqL K H a xs->xs[i]?=some x,λi H=>∃xs,SqL K H a xs/\xs.length<=i⟩
def Itt(K:PySem.W.Frag)(a:Addr):It :=
 ⟨λi H=>∃xs x,SqT K H a xs/\xs[i]?=some x,λi H x H'=>H'=H/\∀xs,SqT K H a xs->xs[i]?=some x,λi H=>∃xs,SqT K H a xs/\xs.length<=i⟩
def Itr(lo:Int)(n:Nat):It:=⟨λi _=>i<n,λi H x H'=>H'=H/\x=.int (lo+i),λi _=>n<=i⟩
theorem qup{P:Program}{w:World}{K:PySem.W.Frag}{tg:Expr}(a it:Addr):Turn P w K tg (Itl K a) [it] it (λi h=>h.IsListIter it a i) where
 mem:=by simp
 obj:=λi h st b hb=>by
  have e:b=it:=by simpa using hb
  subst e
  obtain⟨o,e,c,d⟩:=st
  exact⟨o,e,λv z=>by rw[d] at z;cases z⟩
 keep:=λi h h' st k=>st.at λo e=>k it (by simp) o e
 item:=by
  intro X hP hw hK hc i pins s σ H E I hf st hg
  subst hP hw hK
  obtain⟨xs,x,hq,hx⟩:=hg
  obtain⟨its,rv,p,hz⟩:=I.list hq
  obtain⟨u,hu,ru⟩:=rv.get hx
  obtain⟨f0,f1,f2,f3,f4,f5⟩:=hf it (by simp)
  refine wpAny_pyNext_list_item st p.isList (x:=u) (by simpa using hu) λh' st' sb=>?_
  have I1:Inv X pins σ H { s with heap:=h' }:=I.turned (t':=s.toks) (λb o hb e=>(sb.2 b hb).trans e) f0 f1 f3 f4 f5
  obtain⟨o,e,c,d⟩:=id st'
  exact⟨u,rfl,qsz (s:={ s with heap:=h' }) e c d (by decide) ⟨x,H,I1,ru,⟨rfl,λys hy=>by rw[I.list_inj hy hq];exact hx⟩,st',λb hb=>(hf b hb).1⟩⟩
 done:=by
  intro X hP hw hK hc i pins s σ H E I hf st hg
  subst hP hw hK
  obtain⟨xs,hq,hx⟩:=hg
  obtain⟨its,rv,p,hz⟩:=I.list hq
  obtain⟨f0,f1,f2,f3,f4,f5⟩:=hf it (by simp)
  have hl:=rv.length
  exact wpAny_pyNext_list_end (I.ok.hd hc) st p.isList (by simp;lia) λh' eb=>⟨rfl,I.turned (t':=s.toks) (λb o hb e=>eb b o hb e) f0 f1 f3 f4 f5⟩
 self:=λ_ _ _ _ _ st h=>wpAny_pyIter_listiter st h
theorem qra{P:Program}{w:World}{K:PySem.W.Frag}{tg:Expr}(a it:Addr):Turn P w K tg (Itt K a) [it] it (λi h=>h.IsTupleIter it a i) where
 mem:=by simp
 obj:=λi h st b hb=>by
  have e:b=it:=by simpa using hb
  subst e
  obtain⟨o,e,c,d⟩:=st
  exact⟨o,e,λv z=>by rw[d] at z;cases z⟩
 keep:=λi h h' st k=>st.at λo e=>k it (by simp) o e
 item:=by
  intro X hP hw hK hc i pins s σ H E I hf st hg
  subst hP hw hK
  obtain⟨xs,x,hq,hx⟩:=hg
  obtain⟨its,rv,p,hz⟩:=I.tuple hq
  obtain⟨u,hu,ru⟩:=rv.get hx
  obtain⟨f0,f1,f2,f3,f4,f5⟩:=hf it (by simp)
  refine wpAny_pyNext_tuple_item st (show s.heap.IsTuple a its.toArray from p) (x:=u) (by simpa using hu) λh' st' sb=>?_
  have I1:Inv X pins σ H { s with heap:=h' }:=I.turned (t':=s.toks) (λb o hb e=>(sb.2 b hb).trans e) f0 f1 f3 f4 f5
  obtain⟨o,e,c,d⟩:=id st'
  exact⟨u,rfl,qsz (s:={ s with heap:=h' }) e c d (by decide) ⟨x,H,I1,ru,⟨rfl,λys hy=>by rw[I.tuple_inj hy hq];exact hx⟩,st',λb hb=>(hf b hb).1⟩⟩
 done:=by
  intro X hP hw hK hc i pins s σ H E I hf st hg
  subst hP hw hK
  obtain⟨xs,hq,hx⟩:=hg
  obtain⟨its,rv,p,hz⟩:=I.tuple hq
  obtain⟨f0,f1,f2,f3,f4,f5⟩:=hf it (by simp)
  have hl:=rv.length
  exact wpAny_pyNext_tuple_end (I.ok.hd hc) st (show s.heap.IsTuple a its.toArray from p) (by simp;lia) λh' eb=>⟨rfl,I.turned (t':=s.toks) (λb o hb e=>eb b o hb e) f0 f1 f3 f4 f5⟩
 self:=λ_ _ _ _ _ st h=>wpAny_pyIter_tupleiter st h
theorem qq9{P:Program}{w:World}{K:PySem.W.Frag}{tg:Expr}(it:Addr)(lo:Int)(n:Nat):Turn P w K tg (Itr lo n) [it] it (λi h=>IsRangeIter h it (lo+(i:Nat)*1) ((n:Int)-(i:Nat)) 1) where
 mem:=by simp
 obj:=λi h st b hb=>by
  have e:b=it:=by simpa using hb
  subst e
  exact⟨_,st,λv z=>by
   have z':Data.fields _=Data.cell v:=z
   cases z'⟩
 keep:=λi h h' st k=>k it (by simp) _ st
 item:=by
  intro X hP hw hK hc i pins s σ H E I hf st hg
  subst hP hw hK
  obtain⟨f0,f1,f2,f3,f4,f5⟩:=hf it (by simp)
  have W:=Walks.range (prog:=X.prog) (w:=X.w) (I.ok.hd hc) it lo 1 n
  refine W.item i s _ _ hg st λv h' tk hv st' kk=>?_
  obtain⟨t,rfl⟩:=hv
  have I1:Inv X pins σ H { s with heap:=h',toks:=tk }:=I.turned (λb o hb e=>kk b o (by simpa using hb) e) f0 f1 f3 f4 f5
  refine⟨_,rfl,qsz (s:={ s with heap:=h',toks:=tk }) (n:="range_iterator") st' rfl rfl (by decide) ⟨.int (lo+i),H,I1,⟨t,?_⟩,⟨rfl,rfl⟩,st',λb hb=>(hf b hb).1⟩⟩
  rw[Int.mul_one]
 done:=by
  intro X hP hw hK hc i pins s σ H E I hf st hg
  subst hP hw hK
  obtain⟨f0,f1,f2,f3,f4,f5⟩:=hf it (by simp)
  exact wpAny_pyNext_range_end (I.ok.hd hc) st (by have:n<=i:=hg;lia) λh' eb=>⟨rfl,I.turned (t':=s.toks) (λb o hb e=>eb b o hb e) f0 f1 f3 f4 f5⟩
 self:=λ_ _ _ _ _ st h=>wpAny_pyIter_rangeiter st h
end L2
namespace L2
open PySem PySem.Spec PyProof.Rows
section
variable {X:Cx} {tg:Expr}
theorem qxk{pins:List (Addr×Obj)}{σ:St}{H:Hp}{s:Shared}{R:It->Hp->Prop}{E:Value->Shared->Prop}{lo hi:Int}{t u v:Tok}{tk:Nat}(I:Inv X pins σ H s)(h1:-(2 ^ 62)<=lo)(h2:lo<2 ^ 62)(h3:-(2 ^ 62)<=hi)(h4:hi<2 ^ 62)
  (q:R (Itr lo (hi-lo).toNat) H):wpAny (model X.prog X.w) X.A (pyIter (.ref s.heap.objs.size)) (PIE X pins σ tg R) E { s with heap:=s.heap.push { cls:=.type "range",data:=.fields #[.int lo t,.int hi u,.int 1 v] },toks:=tk }:=by
 refine wpAny_pyIter_range (IsRange.new ..) (small_one h1 h2 h3 h4) ?_
 have I1:Inv X pins σ H { s with heap:=s.heap.push { cls:=.type "range",data:=.fields #[.int lo t,.int hi u,.int 1 v] },toks:=tk }:=I.kept λb o e=>Heap.get?_push_of_some _ e
 refine⟨(s.heap.push { cls:=.type "range",data:=.fields #[.int lo t,.int hi u,.int 1 v] }).objs.size,[(s.heap.push { cls:=.type "range",data:=.fields #[.int lo t,.int hi u,.int 1 v] }).objs.size],_,_,H,rfl,
  I1.kept (t':=tk) λb o e=>Heap.get?_push_of_some _ e,qq9 _ lo (hi-lo).toNat,?_,λb hb=>?_,q⟩
 ·have e1:lo+((0:Nat):Int)*1=lo:=by simp
  have e2:(((hi-lo).toNat:Nat):Int)-((0:Nat):Int)=Builtin.Range.rangeSize lo hi 1:=by rw[rangeSize_one];split<;>lia
  show IsRangeIter _ _ (lo+((0:Nat):Int)*1) ((((hi-lo).toNat:Nat):Int)-((0:Nat):Int)) 1
  rw[e1,e2]
  exact Heap.get?_push_size _ rfl
 ·have e:b=(s.heap.push { cls:=.type "range",data:=.fields #[.int lo t,.int hi u,.int 1 v] }).objs.size:=by simpa using hb
  subst e
  exact I1.fpOk (Nat.le_refl _) (I1.hok.fresh (Nat.le_refl _))
def q0a(ta:TA):TI:=λσ H R=>ta σ H λvs H1=>∃j:Int,vs=[.int j]/\-(2 ^ 62)<=j/\j<2 ^ 62/\R (Itr 0 j.toNat) H1
theorem qt4{a:Expr}{ta:TA}{p pos:Pos}(hg:Gl X "range")(hm:X.mg "range" = none)(ha:PA X [a] ta)(hs:starEach [a] X.env=[(false,eval a X.env)]:=by rfl):PI X tg (.Call (.Name "range" p) [a] [] pos) (q0a ta):=by
 intro pins s σ H R I h
 refine Call_ (qld I hg hm boot_range (PyProof.Rows.callWith_type1 (thn (ha pos pins s σ H _ I h) λus s1 ⟨vs,H1,I1,r1,q1⟩=>?_) hs rfl))
 obtain⟨j,e,q1,q2,q⟩:=q1
 subst e
 cases r1 with
|cons r rr =>
  cases rr
  obtain⟨t,rfl⟩:=r
  exact call_range_1 (qxk I1 (by lia) (by lia) q1 q2 (by simpa using q))
def tFor(wi:TI)(g:TG)(tb:TS):TS:=λD σ H=>wi σ H λJ H1=>∃W:Nat->Nat->St->Hp->Prop,(∃m,W 0 m σ H1)/\∀i m σ H,W i m σ H ->
 (J.stop i H/\D.nx σ H)\/(J.go i H/\∃N:St->Hp->Prop,(∀σ' H',N σ' H'->∃m',m'<m/\W (i+1) m' σ' H')/\∀x H',J.yld i H x H'->g x σ H' λσ2 H2=>tb { D with nx:=N,ct:=N,bk:=D.nx } σ2 H2)
def qlu(fp:List Addr)(h:Heap):List (Addr×Obj):=fp.filterMap λb=>(h.get? b).map λo=>(b,o)
theorem qeu{fp:List Addr}{h:Heap}{b:Addr}{o:Obj}(hb:b∈fp)(e:h.get? b=some o):(b,o)∈qlu fp h:=List.mem_filterMap.mpr ⟨b,hb,by rw[e];rfl⟩
theorem qtw{fp:List Addr}{h:Heap}{p:Addr×Obj}(hp:p∈qlu fp h):p.1∈fp/\h.get? p.1=some p.2:=by
 obtain⟨b,hb,e⟩:=List.mem_filterMap.mp hp
 cases q:h.get? b with
|none=>rw[q] at e;cases e
|some o =>
  rw[q] at e
  have e':(b,o)=p:=Option.some.inj e
  subst e'
  exact⟨hb,q⟩
theorem Inv.pinned{pins:List (Addr×Obj)}{σ:St}{H:Hp}{s:Shared}{fp:List Addr}(I:Inv X pins σ H s)(hf:∀b∈fp,FpOk X pins H b)(ho:∀b∈fp,∃o,s.heap.get? b=some o/\∀v,o.data≠.cell v):Inv X (pins++qlu fp s.heap) σ H s :=
 I.pins_of λp hp=>(List.mem_append.mp hp).elim (λz=>I.pin p (List.mem_append_right _ z)) λz=>by
  obtain⟨hb,e⟩:=qtw z
  obtain⟨f0,f1,f2,_⟩:=hf p.1 hb
  obtain⟨o,e',d⟩:=ho p.1 hb
  rw[e] at e';cases e'
  exact⟨e,f0,f1,f2,d⟩
theorem Inv.unpinned{pins pl:List (Addr×Obj)}{σ:St}{H:Hp}{s:Shared}(I:Inv X (pins++pl) σ H s):Inv X pins σ H s:=I.pins_of λp hp=>I.pin p (List.mem_append_right _ (List.mem_append_left _ hp))
theorem q40{iter:Expr}{body:List Stmt}{wi:TI}{g:TG}{tb:TS}{pos:Pos}(hp:PassesOwn (model X.prog X.w) X.A X.env X.xe)(hc:X.calm=true)(hi:PI X tg iter wi)(hg:PG X tg g)(hb:PSs X body tb)
  (hs:∀x,foldedSetIterable iter X.env x=pure x:=by intro _;rfl):PS X (.For tg iter body [] pos) (tFor wi g tb):=by
 intro pins s σ H D I h
 refine wpAny_For (thn (hi pins s σ H _ I h) λv s1 h1=>thn h1 λitv s2 h2=>?_) hs
 obtain⟨it,fp,tn,J,H2,e,I2,T,st2,f2,W,⟨m0,w0⟩,turn⟩:=h2
 subst e
 have stat:∀ {H':Hp},(∀b∈fp,H' b=none)->∀b∈fp,FpOk X pins H' b:=λhn b hb=>⟨hn b hb,(f2 b hb).2⟩
 refine codeAny_forLoop_any (λn s'=>∃i σ' H',Inv X pins σ' H' s'/\tn i s'.heap/\(∀b∈fp,H' b=none)/\W i n σ' H') ?_ m0 ⟨0,σ,H2,I2,st2,λb hb=>(f2 b hb).1,w0⟩
 rintro n s3 ⟨i,σ3,H3,I3,st3,fr3,w3⟩
 rcases turn i n σ3 H3 w3 with ⟨stop,qn⟩|⟨go,N,hN,step⟩
 ·refine wpAny_passesOwn hp (thn (T.done X rfl rfl rfl hc i pins s3 σ3 H3 X.xe I3 (stat fr3) st3 stop) λr s4 ⟨hr,I4⟩=>?_)
  subst hr
  exact wpAny_execs_nil ⟨σ3,H3,I4,qn⟩
 ·refine wpAny_passesOwn hp (thn (T.item X rfl rfl rfl hc i pins s3 σ3 H3 X.xe I3 (stat fr3) st3 go) λr s4 ⟨u,hr,h4⟩=>?_)
  subst hr
  refine wpAny_passesOwn hp (thn h4 λ_ s5 ⟨x,H5,I5,r5,y5,st5,fr5⟩=>?_)
  have I5':=I5.pinned (stat fr5) (T.obj _ _ st5)
  refine wpAny_passesOwn hp (thn (hg _ s5 σ3 H5 x u _ I5' r5 (step x H5 y5)) λ_ s6 ⟨σ6,H6,I6,q6⟩=>?_)
  refine wpAny_passesOwn hp (thn (hb _ s6 σ6 H6 _ I6 q6) λf s7 q7=>?_)
  have again:∀ {σ7:St} {H7:Hp},Inv X (pins++qlu fp s5.heap) σ7 H7 s7->N σ7 H7->∃m,m<n/\∃i σ' H',Inv X pins σ' H' s7/\tn i s7.heap/\(∀b∈fp,H' b=none)/\W i m σ' H':=λ{σ7 H7} I7 n7=>by
   obtain⟨m',hm,w7⟩:=hN σ7 H7 n7
   refine⟨m',hm,i+1,σ7,H7,I7.unpinned,T.keep _ _ _ st5 λb hb o e=>(I7.pin (b,o) (List.mem_append_right _ (List.mem_append_right _ (qeu hb e)))).1,λb hb=>?_,w7⟩
   obtain⟨o,e,d⟩:=T.obj _ _ st5 b hb
   exact(I7.pin (b,o) (List.mem_append_right _ (List.mem_append_right _ (qeu hb e)))).2.1
  cases f with
 |next=>obtain⟨σ7,H7,I7,n7⟩:=q7;exact again I7 n7
 |cont=>obtain⟨σ7,H7,I7,n7⟩:=q7;exact again I7 n7
 |brk=>obtain⟨σ7,H7,I7,q7⟩:=q7;exact⟨σ7,H7,I7.unpinned,q7⟩
 |ret v=>obtain⟨x7,σ7,H7,I7,r7,q7⟩:=q7;exact⟨x7,σ7,H7,I7.unpinned,r7,q7⟩
end
end L2
namespace L2
open PySem PySem.Spec PyProof.Rows
abbrev R2:=V->V->Hp->VK->Prop
def OpR(X:Cx)(f:Value->Value->Sem Value)(r:R2):Prop :=
 ∀(pins:List (Addr×Obj)) (s:Shared) (σ:St) (H:Hp) (x y:V) (v u:Value) (Q:VK),Inv X pins σ H s->RelV x v->RelV y u->r x y H Q ->
  wpAny (model X.prog X.w) X.A (f v u) (EP X pins σ Q) X.xe s
def UnR(X:Cx)(f:Value->Sem Value)(r:V->Hp->VK->Prop):Prop :=
 ∀(pins:List (Addr×Obj)) (s:Shared) (σ:St) (H:Hp) (x:V) (v:Value) (Q:VK),Inv X pins σ H s->RelV x v->r x H Q ->
  wpAny (model X.prog X.w) X.A (f v) (EP X pins σ Q) X.xe s
def CallR(X:Cx)(f:Value)(r:List V->Hp->VK->Prop):Prop :=
 ∀(pins:List (Addr×Obj)) (s:Shared) (σ:St) (H:Hp) (xs:List V) (us:List Value) (Q:VK),Inv X pins σ H s->Vals xs us->r xs H Q ->
  wpAny (model X.prog X.w) X.A (call f us) (EP X pins σ Q) X.xe s
def tOp(r:R2)(ta tb:TE):TE:=λσ H Q=>ta σ H λx H1=>tb σ H1 λy H2=>r x y H2 Q
def tUn(r:V->Hp->VK->Prop)(ta:TE):TE:=λσ H Q=>ta σ H λx H1=>r x H1 Q
def rI(C:Int->Int->Prop)(g:Int->Int->V):R2:=λx y H Q=>∃i j,x=.int i/\y=.int j/\C i j/\Q (g i j) H
def rI0(g:Int->Int->V):R2:=λx y H Q=>∃i j,x=.int i/\y=.int j/\Q (g i j) H
def rU(g:Int->V):V->Hp->VK->Prop:=λx H Q=>∃i,x=.int i/\Q (g i) H
section
variable {X:Cx} {a b c:Expr} {ta tb tc:TE} {pos:Pos}
theorem binT(ha:PE X a ta)(hb:PE X b tb){pins:List (Addr×Obj)}{s:Shared}{σ:St}{H:Hp}{R:V->V->Hp->Prop}(I:Inv X pins σ H s)
  (h:ta σ H λx H1=>tb σ H1 λy H2=>R x y H2) {Q:Value->Shared->Prop} {f:Value->Value->Sem Value}
  (hf:∀v u s2 x y H2,Inv X pins σ H2 s2->RelV x v->RelV y u->R x y H2->wpAny (model X.prog X.w) X.A (f v u) Q X.xe s2) :
  wpAny (model X.prog X.w) X.A (eval a X.env) (λv s₁=>wpAny (model X.prog X.w) X.A (eval b X.env) (λu s₂=>wpAny (model X.prog X.w) X.A (f v u) Q X.xe s₂) X.xe s₁) X.xe s:=by
 refine thn (ha pins s σ H _ I h) λv s1 ⟨x,H1,I1,r1,q1⟩=>?_
 refine thn (hb pins s1 σ H1 _ I1 q1) λu s2 ⟨y,H2,I2,r2,q2⟩=>?_
 exact hf v u s2 x y H2 I2 r1 r2 q2
theorem q7b{op:Operator}{r:R2}(ho:OpR X (binaryOp op) r)(ha:PE X a ta)(hb:PE X b tb):PE X (.BinOp a op b pos) (tOp r ta tb):=by
 intro pins s σ H Q I h
 exact wpAny_BinOp (binT ha hb I h λv u s2 x y H2 I2 rx ry q=>ho pins s2 σ H2 x y v u Q I2 rx ry q)
theorem q7d{op:UnaryOp}{r:V->Hp->VK->Prop}(ho:UnR X (unaryOp op) r)(ha:PE X a ta):PE X (.UnaryOp op a pos) (tUn r ta):=by
 intro pins s σ H Q I h
 exact UnaryOp_ (thn (ha pins s σ H _ I h) λv s1 ⟨x,H1,I1,r1,q1⟩=>ho pins s1 σ H1 x v Q I1 r1 q1)
theorem opI{f:Value->Value->Sem Value}{C:Int->Int->Prop}{g:Int->Int->Int}
  (rule:∀(i j:Int) (t u:Tok) (s:Shared) (Q:Value->Shared->Prop) (E:Value->Shared->Prop),C i j->Q (.int (g i j) s.toks) { s with toks:=s.toks+1 }->wpAny (model X.prog X.w) X.A (f (.int i t) (.int j u)) Q E s) :
  OpR X f (rI C λi j=>.int (g i j)):=by
 intro pins s σ H x y v u Q I rx ry h
 obtain⟨i,j,rfl,rfl,hc,q⟩:=h
 obtain⟨t,rfl⟩:=rx
 obtain⟨t',rfl⟩:=ry
 exact rule i j t t' s _ _ hc ⟨.int (g i j),H,I.tok _,⟨_,rfl⟩,q⟩
theorem opI0{f:Value->Value->Sem Value}{g:Int->Int->Int}
  (rule:∀(i j:Int) (t u:Tok) (s:Shared) (Q:Value->Shared->Prop) (E:Value->Shared->Prop),Q (.int (g i j) s.toks) { s with toks:=s.toks+1 }->wpAny (model X.prog X.w) X.A (f (.int i t) (.int j u)) Q E s) :
  OpR X f (rI0 λi j=>.int (g i j)):=by
 intro pins s σ H x y v u Q I rx ry h
 obtain⟨i,j,rfl,rfl,q⟩:=h
 obtain⟨t,rfl⟩:=rx
 obtain⟨t',rfl⟩:=ry
 exact rule i j t t' s _ _ ⟨.int (g i j),H,I.tok _,⟨_,rfl⟩,q⟩
theorem opB0{f:Value->Value->Sem Value}{g:Int->Int->Bool}
  (rule:∀(i j:Int) (t u:Tok) (s:Shared) (Q:Value->Shared->Prop) (E:Value->Shared->Prop),Q (.bool (g i j)) s->wpAny (model X.prog X.w) X.A (f (.int i t) (.int j u)) Q E s) :
  OpR X f (rI0 λi j=>.bl (g i j)):=by
 intro pins s σ H x y v u Q I rx ry h
 obtain⟨i,j,rfl,rfl,q⟩:=h
 obtain⟨t,rfl⟩:=rx
 obtain⟨t',rfl⟩:=ry
 exact rule i j t t' s _ _ ⟨.bl (g i j),H,I,rfl,q⟩
def CDiv(i j:Int):Prop:=0<j/\j<1073741824
def CPow(i j:Int):Prop:=0<=j/\j<=1000000/\i.natAbs<2 ^ 64
def CMul(i j:Int):Prop:=(-(2 ^ 64)<i/\i<2 ^ 64)\/(-(2 ^ 64)<j/\j<2 ^ 64)
theorem CMul.ok{i j:Int}(h:CMul i j):IntMulOk i j:=by
 rcases h with ⟨h1,h2⟩|⟨h1,h2⟩
 ·exact .of_left (intBits_le_64 h1 h2)
 ·exact .of_right (intBits_le_64 h1 h2)
theorem op_add:OpR X (binaryOp .Add) (rI0 λi j=>.int (i+j)):=opI0 λ_ _ _ _ _ _ _ q=>add_int q
theorem q4i:OpR X (binaryOp .Mult) (rI CMul λi j=>.int (i*j)):=opI λ_ _ _ _ _ _ _ hc q=>mul_int q hc.ok
theorem q04:OpR X (binaryOp .FloorDiv) (rI CDiv λi j=>.int (i / j)):=opI λi j _ _ _ _ _ hc q=>by
 have h1:(0:Int)<j:=hc.1
 have h2:j<1073741824:=hc.2
 exact floordiv_int (by lia) (by rw[Int.fdiv_eq_ediv_of_nonneg i (by lia)];exact q) (.inl (PyProof.noPylong_small (by lia)))
theorem q4h:OpR X (binaryOp .Mod) (rI (λ_ j=>0<j) λi j=>.int (i%j)):=opI λi j _ _ _ _ _ hc q=>by
 have h1:(0:Int)<j:=hc
 exact mod_int' (by lia) (by rw[Int.fmod_eq_emod_of_nonneg i (by lia)];exact q)
theorem q4k:OpR X (binaryOp .Pow) (rI CPow λi j=>.int (i ^ j.toNat)):=opI λ_ _ _ _ _ _ _ hc q=>pow_int_small hc.1 hc.2.1 hc.2.2 q
theorem unI{f:Value->Sem Value}{g:Int->Int}
  (rule:∀(i:Int) (t:Tok) (s:Shared) (Q:Value->Shared->Prop) (E:Value->Shared->Prop),Q (.int (g i) s.toks) { s with toks:=s.toks+1 }->wpAny (model X.prog X.w) X.A (f (.int i t)) Q E s) :
  UnR X f (rU λi=>.int (g i)):=by
 intro pins s σ H x v Q I rx h
 obtain⟨i,rfl,q⟩:=h
 obtain⟨t,rfl⟩:=rx
 exact rule i t s _ _ ⟨.int (g i),H,I.tok _,⟨_,rfl⟩,q⟩
theorem q6c:UnR X (unaryOp .USub) (rU λi=>.int (-i)):=unI λ_ _ _ _ _ q=>neg_int q
end
def scal:V->V->Bool
|.non,.non=>true|.non,.int _=>true|.int _,.non=>true|.non,.bl _=>true|.bl _,.non=>true|.non,.str _=>true|.str _,.non=>true
|.int _,.int _=>true|.bl _,.bl _=>true|.str _,.str _=>true|.byt _,.byt _=>true
|.int _,.str _=>true|.str _,.int _=>true|.bl _,.str _=>true|.str _,.bl _=>true
|_,_=>false
def rEq:R2:=λx y H Q=>scal x y=true/\Q (.bl (decide (x=y))) H
def rNe:R2:=λx y H Q=>scal x y=true/\Q (.bl (!decide (x=y))) H
theorem qse{i j:Int}:decide (V.int i=V.int j)=(i==j):=by
 rw[Bool.eq_iff_iff]
 simp
theorem qys{i j:Bool}:decide (V.bl i=V.bl j)=(i==j):=by
 rw[Bool.eq_iff_iff]
 simp
theorem qsf{i j:Str}:decide (V.str i=V.str j)=(i==j):=by
 rw[Bool.eq_iff_iff]
 simp
theorem qsd{i j:Array UInt8}:decide (V.byt i=V.byt j)=(i.toList==j.toList):=by
 rw[Bool.eq_iff_iff]
 cases i
 cases j
 simp
section
variable {X:Cx} {a b c:Expr} {ta tb tc:TE} {pos:Pos}
theorem qa3{pins:List (Addr×Obj)}{σ:St}{H:Hp}{s:Shared}{Q:VK}{k k':Bool}(I:Inv X pins σ H s)(q:Q (.bl k) H)(e:k=k'):EP X pins σ Q (.bool k') s:=by
 subst e
 exact⟨.bl k,H,I,rfl,q⟩
theorem q63:OpR X (compareOp .Eq) rEq:=by
 intro pins s σ H x y v u Q I rx ry h
 obtain⟨hs,q⟩:=h
 cases x with
|non =>
  cases rx
  cases y with
 |non=>cases ry;exact PySem.EqNone.eq_none_none (qa3 I q (by simp))
 |bl j=>cases ry;exact PySem.EqNone.eq_none_bool (qa3 I q (by simp))
 |int j=>obtain⟨t',rfl⟩:=ry;exact PySem.EqNone.eq_none_int (qa3 I q (by simp))
 |str j=>obtain⟨t',rfl⟩:=ry;exact PySem.EqNone.eq_none_str (qa3 I q (by simp))
 |_=>exact absurd (show false=true from hs) Bool.false_ne_true
|bl i =>
  cases rx
  cases y with
 |non=>cases ry;exact PySem.EqNone.eq_bool_none (qa3 I q (by simp))
 |bl j=>cases ry;exact eq_bool (qa3 I q qys)
 |str j=>obtain⟨t',rfl⟩:=ry;exact PySem.EqMixed.eq_bool_str (qa3 I q (by simp))
 |_=>exact absurd (show false=true from hs) Bool.false_ne_true
|int i =>
  obtain⟨t,rfl⟩:=rx
  cases y with
 |non=>cases ry;exact PySem.EqNone.eq_int_none (qa3 I q (by simp))
 |int j=>obtain⟨t',rfl⟩:=ry;exact eq_int (qa3 I q qse)
 |str j=>obtain⟨t',rfl⟩:=ry;exact PySem.EqMixed.eq_int_str (qa3 I q (by simp))
 |_=>exact absurd (show false=true from hs) Bool.false_ne_true
|str i =>
  obtain⟨t,rfl⟩:=rx
  cases y with
 |non=>cases ry;exact PySem.EqNone.eq_str_none (qa3 I q (by simp))
 |bl j=>cases ry;exact PySem.EqMixed.eq_str_bool (qa3 I q (by simp))
 |int j=>obtain⟨t',rfl⟩:=ry;exact PySem.EqMixed.eq_str_int (qa3 I q (by simp))
 |str j=>obtain⟨t',rfl⟩:=ry;exact eq_str (qa3 I q qsf)
 |_=>exact absurd (show false=true from hs) Bool.false_ne_true
|byt i =>
  obtain⟨t,rfl⟩:=rx
  cases y with
 |byt j=>obtain⟨t',rfl⟩:=ry;exact PySem.W.eq_bytes (qa3 I q qsd)
 |_=>exact absurd (show false=true from hs) Bool.false_ne_true
|_=>cases y<;>exact absurd (show false=true from hs) Bool.false_ne_true
theorem q67:OpR X (compareOp .NotEq) rNe:=by
 intro pins s σ H x y v u Q I rx ry h
 obtain⟨hs,q⟩:=h
 cases x with
|non =>
  cases rx
  cases y with
 |non=>cases ry;exact PySem.EqNone.ne_none_none (qa3 I q (by simp))
 |bl j=>cases ry;exact PySem.EqNone.ne_none_bool (qa3 I q (by simp))
 |int j=>obtain⟨t',rfl⟩:=ry;exact PySem.EqNone.ne_none_int (qa3 I q (by simp))
 |str j=>obtain⟨t',rfl⟩:=ry;exact PySem.EqNone.ne_none_str (qa3 I q (by simp))
 |_=>exact absurd (show false=true from hs) Bool.false_ne_true
|bl i =>
  cases rx
  cases y with
 |non=>cases ry;exact PySem.EqNone.ne_bool_none (qa3 I q (by simp))
 |bl j=>cases ry;exact ne_bool (qa3 I q (congrArg not qys))
 |str j=>obtain⟨t',rfl⟩:=ry;exact PySem.EqMixed.ne_bool_str (qa3 I q (by simp))
 |_=>exact absurd (show false=true from hs) Bool.false_ne_true
|int i =>
  obtain⟨t,rfl⟩:=rx
  cases y with
 |non=>cases ry;exact PySem.EqNone.ne_int_none (qa3 I q (by simp))
 |int j=>obtain⟨t',rfl⟩:=ry;exact ne_int (qa3 I q (congrArg not qse))
 |str j=>obtain⟨t',rfl⟩:=ry;exact PySem.EqMixed.ne_int_str (qa3 I q (by simp))
 |_=>exact absurd (show false=true from hs) Bool.false_ne_true
|str i =>
  obtain⟨t,rfl⟩:=rx
  cases y with
 |non=>cases ry;exact PySem.EqNone.ne_str_none (qa3 I q (by simp))
 |bl j=>cases ry;exact PySem.EqMixed.ne_str_bool (qa3 I q (by simp))
 |int j=>obtain⟨t',rfl⟩:=ry;exact PySem.EqMixed.ne_str_int (qa3 I q (by simp))
 |str j=>obtain⟨t',rfl⟩:=ry;exact ne_str (qa3 I q (congrArg not qsf))
 |_=>exact absurd (show false=true from hs) Bool.false_ne_true
|byt i =>
  obtain⟨t,rfl⟩:=rx
  cases y with
 |byt j=>obtain⟨t',rfl⟩:=ry;exact PySem.W.ne_bytes (qa3 I q (congrArg not qsd))
 |_=>exact absurd (show false=true from hs) Bool.false_ne_true
|_=>cases y<;>exact absurd (show false=true from hs) Bool.false_ne_true
theorem q66:OpR X (compareOp .Lt) (rI0 λi j=>.bl (decide (i<j))):=opB0 λ_ _ _ _ _ _ _ q=>lt_int q
theorem q65:OpR X (compareOp .LtE) (rI0 λi j=>.bl (decide (i<=j))):=opB0 λ_ _ _ _ _ _ _ q=>le_int q
theorem q64:OpR X (compareOp .Gt) (rI0 λi j=>.bl (decide (j<i))):=opB0 λ_ _ _ _ _ _ _ q=>gt_int q
theorem op_in_str:OpR X (compareOp .In) (λx y H Q=>∃i j,x=.str i/\y=.str j/\Q (.bl (!(Builtin.Str.occurrences j i 0 j.length 1).isEmpty)) H):=by
 intro pins s σ H x y v u Q I rx ry h
 obtain⟨i,j,rfl,rfl,q⟩:=h
 obtain⟨t,rfl⟩:=rx
 obtain⟨t',rfl⟩:=ry
 exact in_str (qa3 I q rfl)
theorem q4g:OpR X (compareOp .Is) (λx y H Q=>y=.non/\Q (.bl (decide (x=.non))) H):=by
 intro pins s σ H x y v u Q I rx ry h
 obtain⟨rfl,q⟩:=h
 cases ry
 refine is_none_gen (qa3 I q ?_)
 cases x<;>first
 |(cases rx;rfl)
 |(obtain⟨t,rfl⟩:=rx;rfl)
theorem q06:OpR X (compareOp .IsNot) (λx y H Q=>y=.non/\Q (.bl (!decide (x=.non))) H):=by
 intro pins s σ H x y v u Q I rx ry h
 obtain⟨rfl,q⟩:=h
 cases ry
 refine isnot_none_gen (qa3 I q ?_)
 cases x<;>first
 |(cases rx;rfl)
 |(obtain⟨t,rfl⟩:=rx;rfl)
theorem op_notin_str:OpR X (compareOp .NotIn) (λx y H Q=>∃i j,x=.str i/\y=.str j/\Q (.bl (!(!(Builtin.Str.occurrences j i 0 j.length 1).isEmpty))) H):=by
 intro pins s σ H x y v u Q I rx ry h
 obtain⟨i,j,rfl,rfl,q⟩:=h
 obtain⟨t,rfl⟩:=rx
 obtain⟨t',rfl⟩:=ry
 exact notIn_str (qa3 I q rfl)
theorem OpR.or{f:Value->Value->Sem Value}{r r':R2}(h:OpR X f r)(h':OpR X f r'):OpR X f (λx y H Q=>r x y H Q\/r' x y H Q):=by
 intro pins s σ H x y v u Q I rx ry q
 rcases q with q|q
 ·exact h pins s σ H x y v u Q I rx ry q
 ·exact h' pins s σ H x y v u Q I rx ry q
theorem q1e{op:CmpOp}{r:R2}(ho:OpR X (compareOp op) r)(ha:PE X a ta)(hb:PE X b tb)(hm:behindInMarks op b=false):PE X (.Compare a [op] [b] pos) (tOp r ta tb):=by
 intro pins s σ H Q I h
 exact wpAny_Compare1 (binT ha hb I h λv u s2 x y H2 I2 rx ry q=>ho pins s2 σ H2 x y v u Q I2 rx ry q) hm
def qx2(t:TE):TT:=λσ H Q=>t σ H λx H'=>∃k,x=.bl k/\Q k H'
theorem q1s{op:CmpOp}{r:R2}(ho:OpR X (compareOp op) r)(ha:PE X a ta)(hb:PE X b tb)(hm:behindInMarks op b=false):PT X (.Compare a [op] [b] pos) (qx2 (tOp r ta tb)):=by
 intro pins s σ H Q I h
 refine wpAny_isTrue_Compare1 (thn (ha pins s σ H _ I h) λv s1 ⟨x,H1,I1,r1,q1⟩=>thn (hb pins s1 σ H1 _ I1 q1) λu s2 ⟨y,H2,I2,r2,q2⟩ =>
  thn (ho pins s2 σ H2 x y v u _ I2 r1 r2 q2) λc s3 ⟨z,H3,I3,r3,k,e,q3⟩=>?_) hm
 subst e
 cases r3
 exact wpAny_truthy_bool ⟨H3,I3,q3⟩
def qum(r r':R2)(ta tb tc:TE):TE:=λσ H Q=>ta σ H λx H1=>tb σ H1 λy H2=>r x y H2 λz H3=>∃k,z=.bl k /\
 (if k=true then tc σ H3 λw' H4=>r' y w' H4 Q else Q (.bl false) H3)
theorem qxb{op op':CmpOp}{r r':R2}(ho:OpR X (compareOp op) r)(ho':OpR X (compareOp op') r')(ha:PE X a ta)(hb:PE X b tb)(hc:PE X c tc)
  (hm:lastMarks [op,op'] [b,c]=false:=by with_unfolding_all rfl):PT X (.Compare a [op,op'] [b,c] pos) (qx2 (qum r r' ta tb tc)):=by
 intro pins s σ H Q I h
 refine isTrue_chain (thn (ha pins s σ H _ I h) λv s1 ⟨x,H1,I1,r1,q1⟩=>test_link (thn (hb pins s1 σ H1 _ I1 q1) λu s2 ⟨y,H2,I2,r2,q2⟩ =>
  thn (ho pins s2 σ H2 x y v u _ I2 r1 r2 q2) λd s3 ⟨z,H3,I3,r3,k,e,q3⟩=>?_)) hm
 subst e
 cases r3
 refine wpAny_truthy_bool ?_
 cases k with
|false =>
  obtain⟨k',e',q'⟩:=q3
  cases e'
  exact ite_ff ⟨H3,I3,q'⟩
|true =>
  refine ite_tt (test_last (thn (hc pins s3 σ H3 _ I3 q3) λw' s4 ⟨z',H4,I4,r4,q4⟩=>thn (ho' pins s4 σ H4 y z' u w' _ I4 r2 r4 q4) λd' s5 ⟨z2,H5,I5,r5,k2,e2,q5⟩=>?_))
  subst e2
  cases r5
  exact wpAny_truthy_bool ⟨H5,I5,q5⟩
theorem qll:(sizeLine:Nat)<2 ^ 63:=by rw[sizeLine_eq];decide
theorem op_add_str:OpR X (binaryOp .Add) (λx y H Q=>∃i j,x=.str i/\y=.str j/\i.length+j.length<=sizeLine/\Q (.str (i++j)) H):=by
 intro pins s σ H x y v u Q I rx ry h
 obtain⟨i,j,rfl,rfl,hz,q⟩:=h
 obtain⟨t,rfl⟩:=rx
 obtain⟨t',rfl⟩:=ry
 exact add_str (λt' tk=>⟨.str (i++j),H,I.tok _,⟨_,rfl⟩,q⟩) hz
theorem vals1{x:V}{us:List Value}(r:Vals [x] us):∃u,us=[u]/\RelV x u:=by
 cases r with
|cons r1 r2=>cases r2;exact⟨_,rfl,r1⟩
theorem vals2{x y:V}{us:List Value}(r:Vals [x,y] us):∃u w',us=[u,w']/\RelV x u/\RelV y w':=by
 cases r with
|cons r1 r2 =>
  cases r2 with
 |cons r3 r4=>cases r4;exact⟨_,_,rfl,r1,r3⟩
theorem qk6:CallR X (.type "str") (λxs H Q=>∃i,xs=[.int i]/\i.natAbs.log2<1920/\Q (.str (toString i)) H):=by
 intro pins s σ H xs us Q I r h
 obtain⟨i,rfl,hz,q⟩:=h
 obtain⟨u,rfl,t,rfl⟩:=vals1 r
 exact PySem.P.str_of_int hz ⟨.str _,H,I.tok _,⟨_,rfl⟩,q⟩
end
end L2
namespace L2
open PySem PySem.Spec PyProof.Rows
structure ObjM(h:Heap)(x dx C:Addr)(mA:Str->Option Value):Prop where
 obj:h.get? x=some (PySem.W.instObj C dx)
 ns:h.Ns1 dx mA
 ne:dx≠x
theorem qti{h:Heap}{dx:Addr}{mA:Str->Option Value}(n:h.Ns1 dx mA):∃od,h.get? dx=some od/\∀name,PySem.W.lookIn name od=some (mA name):=by
 obtain⟨o,es,ep,ho,hd,hk,_,hm⟩:=n
 refine⟨o,ho,λname=>?_⟩
 have e:=hm name
 unfold nsFind findBy at e
 rw[←Array.find?_toList] at e
 unfold PySem.W.lookIn
 rw[hd]
 dsimp only
 split
 ·rename_i y q
  rw[q] at e
  exact congrArg some e
 ·rename_i q
  rw[q] at e
  have a:es.toList.any (·.refKey)=false:=by
   rw[List.any_eq_false]
   intro y hy
   obtain⟨z,t,hkey⟩:=hk y (Array.mem_toList_iff.mp hy)
   simp[DictEntry.refKey,hkey]
  have a':¬ es.toList.any (·.refKey)=true:=by rw[a];exact Bool.false_ne_true
  rw[if_neg a']
  exact congrArg some e
theorem ObjM.look{h:Heap}{x dx C:Addr}{mA:Str->Option Value}(I:ObjM h x dx C mA):∃od,PySem.W.InstAt h x (PySem.W.instObj C dx) C (some od)/\∀name,PySem.W.lookIn name od=some (mA name) :=
 let ⟨od,ho,hl⟩:=qti I.ns
 ⟨od,⟨I.obj,rfl,rfl,ho⟩,hl⟩
section
variable {prog:Program} {w:World} {A:Around} {E:Value->Shared->Prop} {s:Shared} {K:PySem.W.Frag} {x dx C f:Addr} {mA:Str->Option Value} {name:Str} {v:Value}
end
theorem RelO.some_of{v:V}{o:Option Value}(r:RelO (some v) o):∃u,o=some u/\RelV v u:=by
 cases o with
|none=>exact(show False from r).elim
|some u=>exact⟨u,rfl,r⟩
section
variable {P:Program} {w:World} {H H':Hp} {h h':Heap} {a C dx:Addr} {fs fs':List (Str×V)}
theorem q0c(hok:HOk P w H h)(e:H a=some (.ins C dx fs)):∃mA,ObjM h a dx C mA/\(∀f,RelO (fs.lookup f) (mA f))/\PySem.Within mA (fs.map (·.1))/\fs.length<=1000/\H dx=some (.own a):=by
 obtain⟨d,z,ne,ob,mA,n,r,q⟩:=(show ObjOk P w H h a (.ins C dx fs) from hok a _ e)
 exact⟨mA,⟨ob,n,ne⟩,r,q,z,d⟩
end
structure Cls(K:PySem.W.Frag)(C:Addr):Prop where
 pg:PySem.W.plainGet K C Str.empty=true
 hd:PySem.W.hasDictIn K C=true
 po:PySem.W.plainOver K C=true
 sa:PySem.W.findIn K (.ref C) "__setattr__" = some (some (.builtin "object.__setattr__"))
theorem Cls.get{K:PySem.W.Frag}{C:Addr}(c:Cls K C)(f:Str):PySem.W.plainGet K C f=true:=c.pg
structure Con(K:PySem.W.Frag)(C:Addr)(f:Str)(v:V)(u:Value):Prop where
 at_:PySem.W.findIn K (.ref C) f=some (some u)
 rel:RelV v u
 get:PySem.W.specialIn K u "__get__" = some none
 cp:PySem.W.copiedNames.contains f=false
structure Meth(K:PySem.W.Frag)(C:Addr)(m:Str)(f:Addr):Prop where
 at_:PySem.W.findIn K (.ref C) m=some (some (.ref f))
 fn:PySem.W.isFn K (.ref f)=true
 kp:PySem.W.keepIn K (.ref f)=true
section
variable {X:Cx} {pins:List (Addr×Obj)} {σ:St} {H:Hp} {s:Shared} {a C dx:Addr} {fs:List (Str×V)} {f:Str} {v:V} {A:Around} {E:Value->Shared->Prop}
end
section
variable {X:Cx} {o e value:Expr} {f:Str} {pos pos' tpos:Pos} {ta tv:TE}
end
section
variable {X:Cx} {pins:List (Addr×Obj)} {σ:St} {H:Hp} {s:Shared} {A:Around} {E:Value->Shared->Prop} {Q:Value->Shared->Prop} {c:Value} {b:Bool}
inductive TyOf(K:PySem.W.Frag)(H:Hp):V->Value->Prop where
|non:TyOf K H .non (.type "NoneType")
|bl (x:Bool):TyOf K H (.bl x) (.type "bool")
|int (i:Int):TyOf K H (.int i) (.type "int")
|str (x:Str):TyOf K H (.str x) (.type "str")
|flt (x:UInt64):TyOf K H (.flt x) (.type "float")
|lst {a:Addr} {xs:List V} (e:H a=some (.lst xs)):TyOf K H (.ref a) (.type "list")
|frz {a:Addr} {o:Obj} {xs:List V} (e:H a=some (.frz o (.lst xs))):TyOf K H (.ref a) (.type "list")
|tup {a:Addr} {xs:List V} (e:H a=some (.tup xs)):TyOf K H (.ref a) (.type "tuple")
|dK {a:Addr} {kvs:List (Key×V)} (e:H a=some (.dK kvs)):TyOf K H (.ref a) (.type "dict")
|dT {a:Addr} {kvs:List (List Key×V)} (e:H a=some (.dT kvs)):TyOf K H (.ref a) (.type "dict")
|ins {a C dx:Addr} {fs:List (Str×V)} (e:H a=some (.ins C dx fs)) (cl:Cls K C) (ha:PySem.W.findIn K (.ref C) "__class__" = some (some (.builtin "object.__class__")))
   (hn:PySem.W.specialIn K (.builtin "object.__class__") "__get__" = some (some (.builtin "getset_descriptor.__get__"))) (htk:PySem.W.takesIn K (.builtin "object.__class__")=some true)
   (hm:PySem.W.mroIn K C (.type "object")=some true):TyOf K H (.ref a) (.ref C)
theorem qeg{x:V}{u t:Value}(I:Inv X pins σ H s)(rx:RelV x u)(ty:TyOf X.K H x t)(e:PySem.W.kitOne X.K t c=some b)(h:∀tk,Q (.bool b) { s with toks:=tk }) :
  wpAny (model X.prog X.w) A (call (.builtin "isinstance") [u,c]) Q E s:=by
 cases ty with
|non=>cases (show u=Value.none from rx);exact PySem.W.kia_one PySem.W.kitx_none I.kIn True.intro e (λz=>nomatch z) h
|bl y=>cases (show u=Value.bool y from rx);exact PySem.W.kia_one PySem.W.kitx_bool I.kIn True.intro e (λz=>nomatch z) h
|int i=>obtain⟨t,q⟩:=(show ∃t,u=Value.int i t from rx);cases q;exact PySem.W.kia_one PySem.W.kitx_int I.kIn True.intro e (λz=>nomatch z) h
|str y=>obtain⟨t,q⟩:=(show ∃t,u=Value.str y t from rx);cases q;exact PySem.W.kia_one PySem.W.kitx_str I.kIn True.intro e (λz=>nomatch z) h
|flt y=>obtain⟨t,q⟩:=(show ∃t,u=Value.float y t from rx);cases q;exact PySem.W.kia_one PySem.W.kitx_float I.kIn True.intro e (λz=>nomatch z) h
|@lst a xs ea =>
  cases (show u=Value.ref a from rx)
  obtain⟨_,_,n,_,h1⟩:=(show ObjOk X.prog X.w H s.heap a (.lst xs) from I.hok a _ ea)
  exact PySem.W.kia_one PySem.W.kitx_list I.kIn ⟨_,h1,rfl⟩ e (λz=>nomatch z) h
|@frz a ob xs ea =>
  cases (show u=Value.ref a from rx)
  obtain⟨_,_,_,n,_,h1⟩:=(show ObjOk X.prog X.w H s.heap a (.frz ob (.lst xs)) from I.hok a _ ea)
  exact PySem.W.kia_one PySem.W.kitx_list I.kIn ⟨_,h1,rfl⟩ e (λz=>nomatch z) h
|@tup a xs ea =>
  cases (show u=Value.ref a from rx)
  obtain⟨_,_,_,p⟩:=(show ObjOk X.prog X.w H s.heap a (.tup xs) from I.hok a _ ea)
  obtain⟨o,h1,h2,_⟩:=p
  exact PySem.W.kia_one PySem.W.kitx_tuple I.kIn ⟨o,h1,h2⟩ e (λz=>nomatch z) h
|@dK a kvs ea =>
  cases (show u=Value.ref a from rx)
  obtain⟨_,_,vs,_,p⟩:=(show ObjOk X.prog X.w H s.heap a (.dK kvs) from I.hok a _ ea)
  obtain⟨o,es,ep,h1,h2,_⟩:=p
  exact PySem.W.kia_one PySem.W.kitx_dict I.kIn ⟨o,h1,h2.1⟩ e (λz=>nomatch z) h
|@dT a kvs ea =>
  cases (show u=Value.ref a from rx)
  obtain⟨_,_,xs,_,o,es,ep,h1,h2,_⟩:=(show ObjOk X.prog X.w H s.heap a (.dT kvs) from I.hok a _ ea)
  exact PySem.W.kia_one PySem.W.kitx_dict I.kIn ⟨o,h1,h2.1⟩ e (λz=>nomatch z) h
|@ins a C dx fs ea cl ha hn htk hm =>
  cases (show u=Value.ref a from rx)
  obtain⟨mA,O,_⟩:=q0c I.hok ea
  obtain⟨od,J,_⟩:=O.look
  exact PySem.W.kia_one (PySem.W.kitx_own (cl.get _) cl.hd ha hn htk hm) I.kIn J e (λz=>nomatch z) h
end
end L2
namespace L2
open PySem PySem.Spec PyProof.Rows
structure Room(k:Nat)(A:Around):Prop where
 hd:A.handled=none
 dp:A.depth+3*k+5<recursionLimit
 un:A.units+16*k+200<cLine
theorem Room.mono{j k:Nat}{A:Around}(r:Room k A)(h:j<=k):Room j A:=⟨r.hd,by have:=r.dp;lia,by have:=r.un;lia⟩
theorem Room.deeper{k:Nat}{A:Around}(r:Room (k+1) A)(env:Env):Room k (A.deeper env) :=
 ⟨r.hd,by have:=r.dp;show A.depth+1+3*k+5<_;lia,by have:=r.un;show A.units+3+16*k+200<_;lia⟩
theorem Room.depth{k:Nat}{A:Around}(r:Room k A):A.depth<recursionLimit:=by have:=r.dp;lia
theorem Room.units{k:Nat}{A:Around}(r:Room k A):A.units+64<cLine:=by have:=r.un;lia
def tNil:TA:=λ_ H Q=>Q [] H
def qx1(ta:TE)(tr:TA):TA:=λσ H Q=>ta σ H λx H1=>tr σ H1 λxs H2=>Q (x::xs) H2
section
variable {X:Cx} {e:Expr} {es:List Expr} {te:TE} {t:TA} {pos:Pos}
theorem q4l:PA X [] tNil:=λ_ _ _ _ H Q I h=>Calls.spliced_nil ⟨[],H,I,.nil,h⟩
theorem q1a(ha:PE X e te)(hr:PA X es t)(hs:starEach (e::es) X.env=(false,eval e X.env)::starEach es X.env:=by rfl):PA X (e::es) (qx1 te t):=by
 intro pos pins s σ H Q I h
 rw[hs]
 show wpAny _ _ (spliced ((false,eval e X.env)::backTo pos (starEach es X.env))) _ _ s
 refine Calls.spliced_cons (thn (ha pins s σ H _ I h) λu s1 ⟨x,H1,I1,r1,q1⟩=>?_)
 exact thn (hr pos pins s1 σ H1 _ I1 q1) λus s2 ⟨xs,H2,I2,r2,q2⟩=>⟨x::xs,H2,I2,.cons r1 r2,q2⟩
def tTup(t:TA):TE:=λσ H Q=>t σ H λxs H1=>xs.length<=sizeLine/\∀p,H1 p=none->Q (.ref p) (upd H1 p (.tup xs))
def tLst(t:TA):TE:=λσ H Q=>t σ H λxs H1=>xs.length<=sizeLine/\∀p,H1 p=none->Q (.ref p) (upd H1 p (.lst xs))
theorem q4w{x1}(h:PA X es t):PE X (.Tuple es x1 pos) (tTup t):=by
 intro pins s σ H Q I hq
 refine wpAny_Tuple_spliced (thn (h pos pins s σ H _ I hq) λus s1 ⟨xs,H1,I1,r,z,q⟩=>⟨by rw[←r.length];exact z,?_⟩)
 have hf:H1 s1.heap.objs.size=none:=I1.hok.fresh (Nat.le_refl _)
 refine⟨.ref s1.heap.objs.size,upd H1 s1.heap.objs.size (.tup xs),I1.laid (t':=s1.toks) (λb u e=>Heap.get?_push_of_some _ e) (Nat.le_refl _) ?_,rfl,q _ hf⟩
 exact⟨z,us,r,⟨_,Heap.get?_push_size _ rfl,rfl,_,rfl⟩⟩
theorem q4s(h:PA X es t):PE X (.List es pos) (tLst t):=by
 intro pins s σ H Q I hq
 refine wpAny_List_spliced (thn (h pos pins s σ H _ I hq) λus s1 ⟨xs,H1,I1,r,z,q⟩=>⟨by rw[←r.length];exact z,?_⟩)
 have hf:H1 s1.heap.objs.size=none:=I1.hok.fresh (Nat.le_refl _)
 refine⟨.ref s1.heap.objs.size,upd H1 s1.heap.objs.size (.lst xs),I1.laid (t':=s1.toks) (λb u e=>Heap.get?_push_of_some _ e) (Nat.le_refl _) ?_,rfl,q _ hf⟩
 exact⟨z,us,0,r,Heap.get?_push_size _ rfl⟩
end
abbrev Sp:=List V->Hp->VK->XK->Prop
abbrev CXT:=List Env->Hp->Shared->XK->Value->Shared->Prop
structure Env0(P:Program)(w:World)(K:PySem.W.Frag)(mg:Str->Option Value)(base:Heap)(A:Around)(outer:List Env)(s:Shared)(H:Hp):Prop where
 frames:A.frames=some outer
 mod:Mod K mg base
 bs:∀b o,base.get? b=some o->s.heap.get? b=some o/\H b=none
 bsz:base.objs.size<=s.heap.objs.size
 funs:s.heap.FunFrames base outer
 frf:∀b∈frs outer,H b=none
 hok:HOk P w H s.heap
 bare:AllBare s.gens
def CE(outer:List Env)(P:Program)(w:World)(H:Hp)(s:Shared)(Q:VK)(u:Value)(s':Shared):Prop :=
 ∃v H',s'.os=s.os/\AllBare s'.gens/\Un (frs outer) [] H H' s.heap s'.heap/\HOk P w H' s'.heap/\RelV v u/\Q v H'
def CR(CX:CXT)(outer:List Env)(P:Program)(w:World)(H:Hp)(s:Shared)(Q:VK)(E:XK)(r:Result)(s':Shared):Prop :=
 match r with
|.ok (.ret u)=>CE outer P w H s Q u s'
|.ok _=>False
|.error e=>CX outer H s E e s'
structure FnOk(P:Program)(w:World)(K:PySem.W.Frag)(mg:Str->Option Value)(base:Heap)(CX:CXT)(k:Nat)(f:Addr)(fd:FuncData)(ps:List Str)(sp:Sp):Prop where
 len:∀vs H Q E,sp vs H Q E->vs.length=ps.length
 run:∀(A:Around) (outer:List Env) (s:Shared) (H:Hp) (args:Args) (us:List Value) (vs:List V) (Q:VK) (E:XK),Room k A->Env0 P w K mg base A outer s H->BindsTo s fd args (ps.zip us)->Vals vs us->sp vs H Q E ->
  codeAny (model P w) A (.call (.ref f) args) (CR CX outer P w H s Q E) s
theorem FnOk.imp{P:Program}{w:World}{K:PySem.W.Frag}{mg:Str->Option Value}{base:Heap}{CX:CXT}{k:Nat}{f:Addr}{fd:FuncData}{ps:List Str}{sp sp':Sp}(F:FnOk P w K mg base CX k f fd ps sp)
  (h:∀vs H Q E,sp' vs H Q E->sp vs H Q E):FnOk P w K mg base CX k f fd ps sp' :=
 ⟨λvs H Q E q=>F.len vs H Q E (h _ _ _ _ q),λA outer s H args us vs Q E hr he hb hv hs=>F.run A outer s H args us vs Q E hr he hb hv (h _ _ _ _ hs)⟩
section
variable {X:Cx} {pins:List (Addr×Obj)} {σ:St} {H:Hp} {s s':Shared}
theorem Inv.env0(I:Inv X pins σ H s):Env0 X.prog X.w X.K X.mg X.base X.A X.stack s H :=
 ⟨I.ok.frames,I.ok.mod,I.bs,Nat.le_trans I.ok.bsz I.sz,I.stack,I.stkFree,I.hok,I.bare⟩
theorem Inv.after{Q:VK}{u:Value}(I:Inv X pins σ H s)(h:CE X.stack X.prog X.w H s Q u s'):EP X pins σ Q u s':=by
 obtain⟨v,H',os,bare,un,hok,r,q⟩:=h
 obtain⟨hh,g,d,t,os'⟩:=s'
 obtain rfl:os'=s.os:=os
 exact⟨v,H',I.call (h':=hh) (g':=g) (d':=d) (t':=t) (ch:=[]) un hok bare (λb z=>absurd z (by simp)),r,q⟩
end
def qx0(sp:Sp)(dvs:List V)(E:XK)(t:TA):TE:=λσ H Q=>t σ H λvs H1=>sp (vs++dvs) H1 Q E
def Binds(K:PySem.W.Frag)(fd:FuncData)(ps:List Str)(ds:List Value):Prop :=
 ∀(s:Shared) (us:List Value),K.In s.heap->(us++ds).length=ps.length->BindsTo s fd ⟨us,[]⟩ (ps.zip (us++ds))
theorem Binds.all{K:PySem.W.Frag}{fd:FuncData}{ps:List Str}(h:∀us:List Value,us.length=ps.length->bindArgs fd ⟨us,[]⟩=pure (ps.zip us)):Binds K fd ps []:=λs us _ hl=>by
 rw[List.append_nil] at hl ⊢
 exact .of_eq (h us hl)
def qry(CX:CXT)(X:Cx)(E:XK):Prop:=∀(pins:List (Addr×Obj)) (σ:St) (H:Hp) (s:Shared) (e:Value) (s':Shared),Inv X pins σ H s->CX X.stack H s E e s'->X.xe e s'
section
variable {X:Cx} {CX:CXT} {k:Nat} {f C:Addr} {fd:FuncData} {ps:List Str} {sp:Sp} {dvs:List V} {ds:List Value} {E:XK} {x m:Str} {p pos apos:Pos} {e o:Expr} {es:List Expr} {ta:TE} {t:TA}
theorem q51{pins:List (Addr×Obj)}{σ:St}{H:Hp}{s:Shared}{Q:VK}{us:List Value}{vs:List V}(F:FnOk X.prog X.w X.K X.mg X.base CX k f fd ps sp)(hr:Room k X.A)(hb:Binds X.K fd ps ds)(hd:Vals dvs ds)(hx:qry CX X E)
  (I:Inv X pins σ H s) (r:Vals vs us) (h:sp (vs++dvs) H Q E):wpAny (model X.prog X.w) X.A (call (.ref f) us) (EP X pins σ Q) X.xe s:=by
 have r2:Vals (vs++dvs) (us++ds):=r.append hd
 have hl:(us++ds).length=ps.length:=by rw[←r2.length];exact F.len _ _ _ _ h
 refine wpAny_call (codeAny_mono (F.run X.A X.stack s H ⟨us,[]⟩ (us++ds) (vs++dvs) Q E hr I.env0 (hb s us I.kIn hl) r2 h) λr s' hq=>?_)
 cases r with
|error e=>exact hx pins σ H s e s' I hq
|ok fl =>
  cases fl with
 |ret u=>exact I.after hq
 |next=>exact False.elim hq
 |brk=>exact False.elim hq
 |cont=>exact False.elim hq
theorem q1d(F:FnOk X.prog X.w X.K X.mg X.base CX k f fd ps sp)(hr:Room k X.A)(hg:Gl X x)(hm:X.mg x=some (.ref f))(hk:PySem.W.keepIn X.K (.ref f)=true)(hb:Binds X.K fd ps ds)(hd:Vals dvs ds)(hx:qry CX X E)
  (ha:PA X (e::es) t) (hdb:(x==("__debug__" : Str))=false:=by decide) (he:starEach (e::es) X.env=(false,eval e X.env)::starEach es X.env:=by rfl) (hpl:(backTo pos (starEach es X.env)).any (·.1)=false:=by rfl) :
  PE X (.Call (.Name x p) (e::es) [] pos) (qx0 sp dvs E t):=by
 intro pins s σ H Q I h
 refine wpAny_Call_Name_kw (qhf I hg hm ?_ hdb)
 refine PySem.W.callWith_K (h₀:=X.base) I.ok.mod.kin hk (thn (ha pos pins s σ H _ I h) λus s1 ⟨vs,H1,I1,r,q⟩=>⟨I1.kIn,?_⟩) he hpl
 exact q51 F hr hb hd hx I1 r q
structure Mk(K:PySem.W.Frag)(C f:Addr):Prop where
 makes:PySem.W.makesIn K C=true
 init:PySem.W.findIn K (.ref C) "__init__" = some (some (.ref f))
 fn:PySem.W.isFn K (.ref f)=true
 kp:PySem.W.keepIn K (.ref C)=true
end
section
variable {X:Cx} {CX:CXT} {k:Nat} {f C:Addr} {fd:FuncData} {ps ks:List Str} {sp:Sp} {E:XK} {x m:Str} {p pos apos kpos:Pos} {e o:Expr} {es:List Expr} {kws:List Keyword} {te ta:TE} {t tk:TA} {nm:Option Str}
structure KBinds(K:PySem.W.Frag)(fd:FuncData)(ps ks:List Str)(g:List Value->List Value->List Value)(gV:List V->List V->List V):Prop where
 to:∀(s:Shared) (us ws:List Value),K.In s.heap->(g us ws).length=ps.length->BindsTo s fd ⟨us,ks.zip ws⟩ (ps.zip (g us ws))
 rel:∀ {vs:List V} {us:List Value} {zs:List V} {ws:List Value},Vals vs us->Vals zs ws->Vals (gV vs zs) (g us ws)
variable {g:List Value->List Value->List Value} {gV:List V->List V->List V}
end
structure FnScope(N P:List Str)(sc:Scope):Prop where
 kind:sc.kind=.function
 co:sc.isCoroutine=false
 gen:sc.isGenerator=false
 nd:N.Nodup
 pre:N.take P.length=P
 par:∀x∈P,sc.names.lookup x=some .local\/sc.names.lookup x=some .cell
 nofree:∀y∈sc.names,y.2≠.free
theorem qk2{kindOf:Str->Option NameKind}{x:Str}:∀ {binds:List (Str×Value)} {m:Str->Option Value},(∀v,(x,v)∉binds)->bindL kindOf binds m x=m x
|[],_,_=>rfl
|(n,v)::r,m,h=>by
  unfold bindL
  rw[qk2 λw hw=>h w (List.mem_cons_of_mem _ hw)]
  split
  ·have:x≠n:=by rintro rfl;exact h v List.mem_cons_self
   simp[this]
  ·rfl
theorem qk0{kindOf:Str->Option NameKind}{x:Str}:∀ {binds:List (Str×Value)} {m:Str->Option Value},(∀v,(x,v)∉binds)->bindC kindOf binds m x=m x
|[],_,_=>rfl
|(n,v)::r,m,h=>by
  unfold bindC
  rw[qk0 λw hw=>h w (List.mem_cons_of_mem _ hw)]
  split
  ·rfl
  ·have:x≠n:=by rintro rfl;exact h v List.mem_cons_self
   simp[this]
theorem qk1{kindOf:Str->Option NameKind}{x:Str}{v:Value}:∀ {P:List Str} {vs:List Value} {i:Nat} {m:Str->Option Value},P.Nodup->P[i]?=some x->vs[i]?=some v->kindOf x=some .local ->
  bindL kindOf (P.zip vs) m x=some v
|[],_,_,_,_,h,_,_=>by simp at h
|_::_,[],_,_,_,_,h,_=>by simp at h
|p::P,w::vs,0,m,nd,h1,h2,hk=>by
  simp at h1 h2;subst h1;subst h2
  show bindL kindOf ((p,w)::P.zip vs) m p=_
  unfold bindL
  rw[qk2 λv hv=>(List.nodup_cons.mp nd).1 (List.of_mem_zip hv).1,if_pos hk]
  simp
|p::P,w::vs,i+1,m,nd,h1,h2,hk=>by
  show bindL kindOf ((p,w)::P.zip vs) m x=_
  unfold bindL
  exact qk1 (i:=i) (List.nodup_cons.mp nd).2 (by simpa using h1) (by simpa using h2) hk
theorem qkz{kindOf:Str->Option NameKind}{x:Str}{v:Value}:∀ {P:List Str} {vs:List Value} {i:Nat} {m:Str->Option Value},P.Nodup->P[i]?=some x->vs[i]?=some v->kindOf x≠some .local ->
  bindC kindOf (P.zip vs) m x=some v
|[],_,_,_,_,h,_,_=>by simp at h
|_::_,[],_,_,_,_,h,_=>by simp at h
|p::P,w::vs,0,m,nd,h1,h2,hk=>by
  simp at h1 h2;subst h1;subst h2
  show bindC kindOf ((p,w)::P.zip vs) m p=_
  unfold bindC
  rw[qk0 λv hv=>(List.nodup_cons.mp nd).1 (List.of_mem_zip hv).1,if_neg hk]
  simp
|p::P,w::vs,i+1,m,nd,h1,h2,hk=>by
  show bindC kindOf ((p,w)::P.zip vs) m x=_
  unfold bindC
  exact qkz (i:=i) (List.nodup_cons.mp nd).2 (by simpa using h1) (by simpa using h2) hk
def start(N:List Str)(vs:List V):St:=vs.map some++List.replicate (N.length-vs.length) none
def cxOf(CX:CXT)(P:Program)(w:World)(K:PySem.W.Frag)(mg:Str->Option Value)(base:Heap)(N:List Str)(qual:Str)(scope:Scope)(f:Addr)(cd:Value)(A:Around)(outer:List Env)(s:Shared)(H:Hp)(E:XK):Cx where
 prog:=P
 w:=w
 K:=K
 mg:=mg
 base:=base
 A:=A.deeper (envOfC qual scope s.heap.objs.size f cd)
 N:=N
 s₀:=s
 H₀:=H
 env:=envOfC qual scope s.heap.objs.size f cd
 outer:=outer
 stack:=envOfC qual scope s.heap.objs.size f cd::outer
 ex:=[]
 calm:=true
 fn:=λ_=>true
 pn:=[]
 xe:=λe s'=>wpAny (model P w) (A.deeper (envOfC qual scope s.heap.objs.size f cd)) (leaving (envOfC qual scope s.heap.objs.size f cd) e) (λ_ s''=>CX outer H s E e s'') (λe' s''=>CX outer H s E e' s'') s'
theorem qoi{sc:Scope}{n:Nat}{x:Str}(h:sc.names.lookup x=some .cell):∃c,(cellsFrom n sc.names []).lookup x=some c:=by
 have q:=PySem.W.cellsFrom_some sc.names n [] (.inl h)
 exact Option.isSome_iff_exists.mp q
theorem qs6{CX:CXT}{P:Program}{w:World}{K:PySem.W.Frag}{mg:Str->Option Value}{base:Heap}{N ps:List Str}{qual:Str}{scope:Scope}{f:Addr}{cd:Value}{A:Around}{outer:List Env}{s s1:Shared}{H:Hp}{E:XK}{us:List Value}{vs:List V}
  (S:FnScope N ps scope) (hd:A.handled=none) (e0:Env0 P w K mg base A outer s H) (hl:vs.length=ps.length) (r:Vals vs us)
  (x:InCallC s s.heap.objs.size (bindL (envOfC qual scope s.heap.objs.size f cd).kindOf (ps.zip us) λ_=>none) (cellsFrom (s.heap.objs.size+1) scope.names []) (bindC (envOfC qual scope s.heap.objs.size f cd).kindOf (ps.zip us) λ_=>none) s1) :
  Inv (cxOf CX P w K mg base N qual scope f cd A outer s H E) [] (start N vs) H s1:=by
 have hpl:ps.length<=N.length:=by have:=congrArg List.length S.pre;rw[List.length_take] at this;lia
 obtain⟨h1,tk,rfl,hk⟩:=x.done
 have noA:∀b:Addr,b∉(cxOf CX P w K mg base N qual scope f cd A outer s H E).ex:=λb z=>absurd (show b∈([]:List Addr) from z) (by simp)
 refine⟨⟨e0.mod,S.kind,rfl,rfl,Nat.le_refl _,λy z c h1 h2=>?_,λy hy=>?_,λy c _ h=>?_,λ_=>hd,Around.frames_deeper e0.frames,.inr ⟨rfl,rfl⟩,λb z=>absurd z (noA b),e0.bs,e0.bsz,λb _ _=>noA b,λb z=>absurd z (noA b),e0.funs,e0.frf⟩,
  rfl,e0.bare,Un.kept hk,⟨_,x.toInCall.ns,λi y v h1 h2 h3=>?_⟩,λy c h=>⟨_,x.cell y c h⟩,e0.hok.fresh (Nat.le_refl _),λy c h=>?_,λp hp=>absurd (show p∈([]:List (Addr×Obj)) from hp) (by simp),e0.hok.kept hk,?_⟩
 ·exact name_of_addr x.apart (PySem.mem_of_lookup h1) (PySem.mem_of_lookup h2)
 ·have hy:scope.names.lookup y=some .cell\/scope.names.lookup y=some .free:=hy
  rcases hy with hy|hy
  ·exact qoi hy
  ·exact absurd rfl (S.nofree _ (PySem.mem_of_lookup hy))
 ·exact Nat.le_of_lt (x.above y c (PySem.mem_of_lookup h))
 ·have hi:i<vs.length:=by
   unfold start at h2
   by_cases hi:i<vs.length
   ·exact hi
   ·rw[List.getElem?_append_right (by simpa using hi)] at h2
    rw[List.getElem?_replicate] at h2
    split at h2<;>cases h2
  have ha:vs[i]?=some v:=by
   unfold start at h2
   rw[List.getElem?_append_left (by simpa using hi),List.getElem?_map] at h2
   cases e:vs[i]? with
  |none=>rw[e] at h2;cases h2
  |some a=>rw[e] at h2;cases h2;rfl
  obtain⟨u,hu,rv⟩:=r.get ha
  have hp:ps[i]?=some y:=by
   rw[←S.pre,List.getElem?_take_of_lt (by lia)];exact h1
  have ndP:ps.Nodup:=by rw[←S.pre];exact S.nd.sublist (List.take_sublist _ _)
  refine⟨u,rv,?_⟩
  rcases S.par y (List.mem_of_getElem? hp) with k|k
  ·exact .inl ⟨k,qk1 ndP hp hu k⟩
  ·obtain⟨c,e⟩:=qoi (n:=s.heap.objs.size+1) k
   refine .inr ⟨.inl k,c,e,?_⟩
   have q:=x.cell y c e
   rw[qkz ndP hp hu (by show scope.names.lookup y≠_;rw[k];decide)] at q
   exact q
 ·exact e0.hok.fresh (Nat.le_of_lt (x.above y c (PySem.mem_of_lookup h)))
 ·unfold start
  show _=N.length
  rw[List.length_append,List.length_map,List.length_replicate]
  lia
theorem q3t{CX:CXT}{P:Program}{w:World}{K:PySem.W.Frag}{mg:Str->Option Value}{base:Heap}{k:Nat}{f:Addr}{name qual:Str}{params:Arguments}{body:List Stmt}{scope:Scope}{dV kV doc pm cdv ct oc:Value}{an od:Option Addr}
  {osl:Array (Option Value)} {N ps:List Str} {sp:Sp} (lk:K.lookup f=some ⟨oc,od,.func (PySem.W.fnOf name qual params body scope dV kV doc pm an cdv ct),osl⟩) (hcd:PySem.W.codeIn K cdv qual=true) (S:FnScope N ps scope)
  (len:∀vs H Q E,sp vs H Q E->vs.length=ps.length)
  (hbody:∀(A:Around) (outer:List Env) (s:Shared) (H:Hp) (vs:List V) (Q:VK) (E:XK),Room k (A.deeper (envOfC qual scope s.heap.objs.size f cdv))->sp vs H Q E ->
   ∃t,PSs (cxOf CX P w K mg base N qual scope f cdv A outer s H E) body t/\t { nx:=λ_ H'=>Q .non H',rt:=Q } (start N vs) H) :
  FnOk P w K mg base CX (k+1) f (PySem.W.fnOf name qual params body scope dV kV doc pm an cdv ct) ps sp:=by
 refine⟨len,λA outer s H args us vs Q E hr e0 hb r hsp=>?_⟩
 have hl:=len _ _ _ _ hsp
 have KX:K.In s.heap:=e0.mod.kin.keeps λb o e=>(e0.bs b o e).1
 have lim:s.heap.NoLimit:=e0.mod.nolimit.keeps λb o e=>(e0.bs b o e).1
 have hkind:∀y∈ps.zip us,scope.names.lookup y.1=some .local\/(scope.names.lookup y.1=some .cell/\((cellsFrom (s.heap.objs.size+1) scope.names []).lookup y.1).isSome=true):=λ⟨n,v⟩ hy=>by
  rcases S.par n (List.of_mem_zip hy).1 with q|q
  ·exact .inl q
  ·exact .inr ⟨q,PySem.W.cellsFrom_some _ _ _ (.inl q)⟩
 refine codeAny_call_function hr.depth (KX _ _ lk) rfl S.co S.gen rfl (PySem.W.codeRec_of KX hcd) (hb _ _ _ _ ?_)
 refine wpAny_newFunctionEnv_cells S.kind hkind λenv he s1 x=>?_
 subst he
 refine⟨lim.keeps x.toInCall.keep,codeAny_func ?_⟩
 obtain⟨t,ht,hq⟩:=hbody A outer s H vs Q E (hr.deeper _) hsp
 have I:Inv (cxOf CX P w K mg base N qual scope f cdv A outer s H E) [] (start N vs) H s1:=qs6 S hr.hd e0 hl r x
 refine wpAny_mono (ht [] s1 (start N vs) H _ I hq) (λfl s' hs=>?_) λe s' hs=>hs
 have fin:∀ {σ':St} {H':Hp} {v:V} {u:Value},Inv (cxOf CX P w K mg base N qual scope f cdv A outer s H E) [] σ' H' s'->RelV v u->Q v H'->CE outer P w H s Q u s' :=
  λ{σ' H' v u} J rv q=>⟨v,H',J.os,J.bare,J.base,J.hok,rv,q⟩
 cases fl with
|ret u =>
  obtain⟨v,σ',H',J,rv,q⟩:=hs
  exact fin J rv q
|next =>
  obtain⟨σ',H',J,q⟩:=hs
  exact fin (v:=V.non) (u:=Value.none) J rfl q
|brk =>
  obtain⟨_,_,_,q⟩:=hs
  exact False.elim q
|cont =>
  obtain⟨_,_,_,q⟩:=hs
  exact False.elim q
end L2
namespace L2
open PySem PySem.Spec PyProof.Rows
section
variable {X:Cx} {x:Str} {p pos:Pos} {e:Expr} {es:List Expr} {t:TA} {id T:String} {r:List V->Hp->VK->Prop}
def tCB(r:List V->Hp->VK->Prop)(t:TA):TE:=λσ H Q=>t σ H λvs H1=>r vs H1 Q
theorem qw0(hc:CallR X (.builtin id) r)(hg:Gl X x)(hm:X.mg x=none)(hv:bootBuiltins x=some (.builtin id))(ha:PA X (e::es) t)(hn:x≠"__name__" := by decide)(hdb:(x==("__debug__" : Str))=false:=by decide)
  (he:starEach (e::es) X.env=(false,eval e X.env)::starEach es X.env:=by rfl) (hpl:(backTo pos (starEach es X.env)).any (·.1)=false:=by rfl):PE X (.Call (.Name x p) (e::es) [] pos) (tCB r t):=by
 intro pins s σ H Q I h
 refine wpAny_Call_Name_kw (qld I hg hm hv ?_ hn hdb)
 exact PyProof.Rows.callWith_builtin1 (thn (ha pos pins s σ H _ I h) λus s1 ⟨vs,H1,I1,r1,q1⟩=>hc pins s1 σ H1 vs us Q I1 r1 q1) he hpl
theorem qt2(hc:CallR X (.type T) r)(hg:Gl X x)(hm:X.mg x=none)(hv:bootBuiltins x=some (.type T))(ha:PA X (e::es) t)(hn:x≠"__name__" := by decide)(hdb:(x==("__debug__" : Str))=false:=by decide)
  (he:starEach (e::es) X.env=(false,eval e X.env)::starEach es X.env:=by rfl) (hpl:(backTo pos (starEach es X.env)).any (·.1)=false:=by rfl):PE X (.Call (.Name x p) (e::es) [] pos) (tCB r t):=by
 intro pins s σ H Q I h
 refine wpAny_Call_Name_kw (qld I hg hm hv ?_ hn hdb)
 exact PyProof.Rows.callWith_type1 (thn (ha pos pins s σ H _ I h) λus s1 ⟨vs,H1,I1,r1,q1⟩=>hc pins s1 σ H1 vs us Q I1 r1 q1) he hpl
end
end L2
namespace HT
open PySem PyProof.Rows
section
open PySem.SeqAt
open PySem.AutoSeq1 (wpAny_loadPart')
open PySem.MeetsSeq PySem.MeetsSeq2 PySem.MeetsSeq3
end
section
variable {prog:Program} {w:World} {A:Around} {E:Value->Shared->Prop} {s:Shared}
theorem cat_tup{t b:Addr}{vs ws:List Value}{Q:Value->Shared->Prop}(ht:IsTup s.heap t vs.toArray)(hb:IsTup s.heap b ws.toArray)(hv:vs≠[])
  (h1:ws=[]->Q (.ref t) s) (h2:ws≠[]->Q (.ref s.heap.objs.size) { s with heap:=s.heap.push { cls:=.type "tuple",data:=.seq (vs++ws).toArray } })
  (hsz:vs.length+ws.length<=sizeLine):wpAny (model prog w) A (binaryOp .Add (.ref t) (.ref b)) Q E s:=by
 obtain⟨⟨cls,dd,data,sl⟩,ho,hc,n,hd⟩:=id ht
 obtain⟨⟨cls2,dd2,data2,sl2⟩,ho2,hc2,n2,hd2⟩:=id hb
 simp only at hc hd hc2 hd2
 subst hc hd hc2 hd2
 have e:vs.toArray++ws.toArray=(vs++ws).toArray:=by simp
 by_cases hw:ws=[]
 ·exact concat_meets ⟨_,ho,rfl⟩ ⟨_,ho2,rfl⟩ noFill_tuple_add seq_tuple_add PySem.F.slot_tuple_add PySem.F.entry_tuple_add (PySem.F.args_tuple_add_2 _ _)
   (tuple_addW1 t b vs.toArray ws.toArray n n2 dd dd2 sl sl2 (by simpa using hv) (by simp[hw])) ⟨ho,ho2,h1 hw⟩
 ·refine concat_meets ⟨_,ho,rfl⟩ ⟨_,ho2,rfl⟩ noFill_tuple_add seq_tuple_add PySem.F.slot_tuple_add PySem.F.entry_tuple_add (PySem.F.args_tuple_add_2 _ _)
   (tuple_addW2 t b vs.toArray ws.toArray n n2 dd dd2 sl sl2 (by simpa using hv) (by simpa using hw) (by rw[List.size_toArray,List.size_toArray];exact hsz)) ⟨ho,ho2,?_⟩
  rw[e]
  exact h2 hw
def sIx(n d:Nat):Option Int->Nat
|none=>d
|some v=>if v<0 then (v+(n:Int)).toNat else min v.toNat n
theorem sIx_none(n d:Nat):sIx n d none=d:=rfl
theorem sIx_nat(n d k:Nat):sIx n d (some (k:Int))=min k n:=by
 show (if (k:Int)<0 then ((k:Int)+(n:Int)).toNat else min (k:Int).toNat n)=min k n
 rw[if_neg (by lia),Int.toNat_natCast]
theorem sIx_le(n d:Nat)(hd:d<=n)(o:Option Int):sIx n d o<=n:=by
 cases o with
|none=>exact hd
|some v =>
  show (if v<0 then (v+(n:Int)).toNat else min v.toNat n)<=n
  by_cases hv:v<0
  ·rw[if_pos hv];lia
  ·rw[if_neg hv];exact Nat.min_le_right _ _
theorem qr9(v:Int)(n d:Nat):(if v<0 then max (v+(n:Int)) 0 else min v (n:Int))=((sIx n d (some v):Nat):Int):=by
 show (if v<0 then max (v+(n:Int)) 0 else min v (n:Int))=(((if v<0 then (v+(n:Int)).toNat else min v.toNat n):Nat):Int)
 by_cases hv:v<0
 ·simp only[if_pos hv];lia
 ·simp only[if_neg hv];lia
theorem qp5(lo hi:Option Int)(n:Nat):Builtin.Slice.sliceAdjust lo hi 1 (n:Int)=(((sIx n 0 lo:Nat):Int),((sIx n n hi:Nat):Int)):=by
 have h1:¬ ((1:Int)<0):=by lia
 unfold Builtin.Slice.sliceAdjust
 simp only[h1,if_false]
 refine Prod.ext ?_ ?_
 ·cases lo with
 |none=>rfl
 |some v=>exact qr9 v n 0
 ·cases hi with
 |none=>rfl
 |some v=>exact qr9 v n n
theorem qqv(i j:Nat):Builtin.Slice.slicePlaces (i:Int) (j:Int) 1=j-i:=by
 unfold Builtin.Slice.slicePlaces
 have h1:(1:Int)>0:=by lia
 simp only[h1,if_true,Int.ediv_one]
 split<;>lia
theorem qi8{v:Value}{o:Option Int}{Q:Option Int->Shared->Prop}(p:IsPart v o)(h:Q o s):wpAny (model prog w) A (Builtin.Slice.slicePartIndex v) Q E s:=by
 cases p with
|none=>exact slicePart_none h
|int i t=>exact slicePart_int h
theorem qd6{sl:Addr}{vl vu:Value}{lo hi:Option Int}{n:Nat}{Q:Int×Int×Nat->Shared->Prop}(hs:s.heap.IsSliceOf sl vl vu .none)(pl:IsPart vl lo)(pu:IsPart vu hi)
  (h:Q (((sIx n 0 lo:Nat):Int),1,sIx n n hi-sIx n 0 lo) s):wpAny (model prog w) A (Builtin.Slice.sliceApplied (.ref sl) (pure (n:Int))) Q E s:=by
 obtain⟨os,hos,hcs,hds⟩:=id hs
 unfold Builtin.Slice.sliceApplied Builtin.Slice.sliceFields
 refine wpAny_bind (wpAny_bind (wpAny_field hos hds (x:=vl) rfl (wpAny_bind (wpAny_field hos hds (x:=vu) rfl (wpAny_bind (wpAny_field hos hds (x:=.none) rfl (wpAny_pure ?_)))))))
 refine wpAny_bind (slicePart_none ?_)
 show wpAny _ _ (if ((1:Int)==0)=true then _ else _) _ _ s
 rw[if_neg (by decide)]
 refine wpAny_bind (qi8 pl (wpAny_bind (qi8 pu (wpAny_bind (wpAny_pure ?_)))))
 show wpAny _ _ (match Builtin.Slice.sliceAdjust lo hi 1 (n:Int) with|(lo,hi)=>pure (lo,(1:Int),Builtin.Slice.slicePlaces lo hi 1)) _ _ s
 rw[qp5 lo hi n]
 show wpAny _ _ (pure (((sIx n 0 lo:Nat):Int),(1:Int),Builtin.Slice.slicePlaces ((sIx n 0 lo:Nat):Int) ((sIx n n hi:Nat):Int) 1)) _ _ s
 rw[qqv]
 exact wpAny_pure h
theorem qw7(xs:Array Value)(i k:Nat):((List.range k).filterMap λ(m:Nat)=>xs[((i:Int)+(m:Int)*1).toNat]?).toArray=((xs.toList.drop i).take k).toArray:=by
 have e:(λ(m:Nat)=>xs[((i:Int)+(m:Int)*1).toNat]?)=λm=>xs[i+m]?:=by
  funext m
  have:((i:Int)+(m:Int)*1).toNat=i+m:=by lia
  rw[this]
 rw[e]
 have:=pick_run xs i k
 rw[List.filterMap_map] at this
 have e2:((λx=>xs[x]?) ∘ λx=>i+x)=λm=>xs[i+m]?:=rfl
 rw[e2] at this
 rw[this]
theorem getItem_tuple_cut{t sl:Addr}{items:Array Value}{vl vu:Value}{lo hi:Option Int}{Q:Value->Shared->Prop}(ht:IsTup s.heap t items)(hs:s.heap.IsSliceOf sl vl vu .none)(pl:IsPart vl lo)(pu:IsPart vu hi)
  (hw:¬ (sIx items.size 0 lo=0/\sIx items.size items.size hi=items.size))
  (h:Q (.ref s.heap.objs.size) { s with heap:=s.heap.push { cls:=.type "tuple",data:=.seq ((items.toList.drop (sIx items.size 0 lo)).take (sIx items.size items.size hi-sIx items.size 0 lo)).toArray } })
  (hsz:items.size<=sizeLine):wpAny (model prog w) A (getItem (.ref t) (.ref sl)) Q E s:=by
 have htake:sizeOk (.seq ((items.toList.drop (sIx items.size 0 lo)).take (sIx items.size items.size hi-sIx items.size 0 lo)).toArray):=by
  show ((items.toList.drop (sIx items.size 0 lo)).take (sIx items.size items.size hi-sIx items.size 0 lo)).toArray.size<=sizeLine
  rw[List.size_toArray,List.length_take,List.length_drop,Array.length_toList]
  lia
 have hj:sIx items.size items.size hi<=items.size:=sIx_le _ _ (Nat.le_refl _) hi
 obtain⟨os,hos,hcs,hds⟩:=id hs
 have hTs:s.TypeIs (.ref sl) "slice" := ⟨os,hos,hcs⟩
 unfold getItem
 try with_reducible refine wpAny_holding ?_
 first|refine wpAny_bind (wpAny_pure ?_)|skip
 refine wpAny_bind (wpAny_sequenceKey ht.typeIs (by decide) ?_)
 refine wpAny_bind (wpAny_callSpecial?_slot (name:=Str.ofString "__getitem__") ht.typeIs PyProof.Rows.slot_tuple_getitem
  (wpAny_call_entry PyProof.Rows.slot_tuple_getitem ht.typeIs entry_tuple_getitem ?_ (args_tuple_getitem _ _)))
 show wpAny _ _ (Builtin.Tuple.tupleItemsOf (.ref t) >>= _) _ _ s
 refine wpAny_bind (tupleItemsOf_ ht ?_)
 refine wpAny_bind (wpAny_typeOf hTs ?_)
 rw[if_pos (by decide)]
 refine wpAny_bind (qd6 hs pl pu ?_)
 have hno:¬ ((((sIx items.size 0 lo:Nat):Int)==0&&(1:Int)==1&&(sIx items.size items.size hi-sIx items.size 0 lo)==items.size)=true):=by
  intro q
  rw[Bool.and_eq_true,Bool.and_eq_true] at q
  have q1:((sIx items.size 0 lo:Nat):Int)=0:=eq_of_beq q.1.1
  have q2:sIx items.size items.size hi-sIx items.size 0 lo=items.size:=eq_of_beq q.2
  exact hw ⟨by lia,by lia⟩
 show wpAny _ _ (if (((sIx items.size 0 lo:Nat):Int)==0&&(1:Int)==1&&(sIx items.size items.size hi-sIx items.size 0 lo)==items.size)=true then _ else _) _ _ s
 rw[if_neg hno,qw7]
 first
 |exact wpAny_bind (m:=Builtin.Tuple.tupleExact _) (wpAny_newObj_type (wpAny_pure ⟨_,rfl,wpAny_pure h⟩) htake)
 |exact wpAny_bind (m:=Builtin.Tuple.tupleExact _) (wpAny_newObj_type (wpAny_bind (wpAny_pure (wpAny_pure ⟨_,rfl,wpAny_pure h⟩))) htake)
 |exact wpAny_bind (wpAny_bind (m:=Builtin.Tuple.tupleExact _) (wpAny_newObj_type (wpAny_pure (wpAny_pure ⟨_,rfl,wpAny_pure h⟩)) htake))
 |exact wpAny_bind (wpAny_bind (m:=Builtin.Tuple.tupleExact _) (wpAny_newObj_type (wpAny_pure ⟨_,rfl,wpAny_pure h⟩) htake))
end
end HT
namespace L2
open PySem PySem.Spec PyProof.Rows
abbrev TO:=St->Hp->(Option Int->Hp->Prop)->Prop
def PO(X:Cx)(e:Option Expr)(t:TO):Prop :=
 ∀(pins:List (Addr×Obj)) (s:Shared) (σ:St) (H:Hp) (Q:Option Int->Hp->Prop),Inv X pins σ H s->t σ H Q ->
  wpAny (model X.prog X.w) X.A (evalPart e X.env) (λu s'=>∃o H',Inv X pins σ H' s'/\IsPart u o/\Q o H') X.xe s
def qun:TO:=λ_ H Q=>Q none H
def q59(t:TE):TO:=λσ H Q=>t σ H λx H1=>∃i,x=.int i/\Q (some i) H1
section
variable {X:Cx} {e:Expr} {te:TE} {lo hi:Option Expr} {tl th:TO} {pos p2:Pos}
theorem q1l:PO X none qun:=by
 intro pins s σ H Q I h
 rw[evalPart_none]
 exact wpAny_pure ⟨none,H,I,.none,h⟩
theorem q1m(h:PE X e te):PO X (some e) (q59 te):=by
 intro pins s σ H Q I hw
 rw[evalPart_some]
 refine thn (h pins s σ H _ I hw) λu s1 ⟨x,H1,I1,r1,q1⟩=>?_
 obtain⟨i,rfl,q⟩:=q1
 obtain⟨t,rfl⟩:=r1
 exact⟨some i,H1,I1,.int i t,q⟩
def SlR(X:Cx)(r:V->Option Int->Option Int->Hp->VK->Prop):Prop :=
 ∀(pins:List (Addr×Obj)) (s:Shared) (σ:St) (H:Hp) (x:V) (v vl vu:Value) (lo hi:Option Int) (sl:Addr) (Q:VK),Inv X pins σ H s->RelV x v->s.heap.IsSliceOf sl vl vu .none->IsPart vl lo->IsPart vu hi->r x lo hi H Q ->
  ∃T id,typeLookup (.type T) "__getitem__" = pure (some (.builtin id))/\s.TypeIs v T/\wpAny (model X.prog X.w) X.A (getItem v (.ref sl)) (EP X pins σ Q) X.xe s
theorem SlR.or{r r':V->Option Int->Option Int->Hp->VK->Prop}(h:SlR X r)(h':SlR X r'):SlR X (λx lo hi H Q=>r x lo hi H Q\/r' x lo hi H Q):=by
 intro pins s σ H x v vl vu lo hi sl Q I rx hs pl pu q
 rcases q with q|q
 ·exact h pins s σ H x v vl vu lo hi sl Q I rx hs pl pu q
 ·exact h' pins s σ H x v vl vu lo hi sl Q I rx hs pl pu q
def tSl(r:V->Option Int->Option Int->Hp->VK->Prop)(te:TE)(tl th:TO):TE:=λσ H Q=>te σ H λx H1=>tl σ H1 λl H2=>th σ H2 λu H3=>r x l u H3 Q
theorem qw5{r:V->Option Int->Option Int->Hp->VK->Prop}(hr:SlR X r)(he:PE X e te)(hl:PO X lo tl)(hu:PO X hi th):PE X (.Subscript e (.Slice lo hi none p2) pos) (tSl r te tl th):=by
 intro pins s σ H Q I h
 refine Subscript_ (thn (he pins s σ H _ I h) λv s1 ⟨x,H1,I1,r1,q1⟩=>?_)
 refine wpAny_Slice (thn (hl pins s1 σ H1 _ I1 q1) λvl s2 ⟨l,H2,I2,pl,q2⟩=>thn (hu pins s2 σ H2 _ I2 q2) λvu s3 ⟨u,H3,I3,pu,q3⟩=>?_)
 rw[evalPart_none]
 refine wpAny_pure ?_
 have I4:Inv X pins σ H3 { s3 with heap:=s3.heap.push { cls:=.type "slice",data:=.fields #[vl,vu,.none] } }:=I3.kept (t':=s3.toks) λb ob q=>Heap.get?_push_of_some _ q
 obtain⟨T,id,hT,ht,hg⟩:=hr pins { s3 with heap:=s3.heap.push { cls:=.type "slice",data:=.fields #[vl,vu,.none] } } σ H3 x v vl vu l u s3.heap.objs.size Q I4 r1 (Heap.IsSliceOf.new ..) pl pu q3
 show wpAny (model X.prog X.w) X.A (subscriptTail e (.Slice lo hi none p2) v (.ref s3.heap.objs.size)) (EP X pins σ Q) X.xe { s3 with heap:=s3.heap.push { cls:=.type "slice",data:=.fields #[vl,vu,.none] } }
 exact tail_any (ops:=[.ref s3.heap.objs.size,v]) ht hT hg (by with_unfolding_all rfl)
def cutV(xs:List V)(lo hi:Option Int):List V:=(xs.drop (HT.sIx xs.length 0 lo)).take (HT.sIx xs.length xs.length hi-HT.sIx xs.length 0 lo)
theorem qg9(xs:List V)(lo hi:Option Int):(cutV xs lo hi).length<=xs.length:=by
 unfold cutV
 rw[List.length_take,List.length_drop]
 lia
def rSlT(K:PySem.W.Frag):V->Option Int->Option Int->Hp->VK->Prop:=λx lo hi H Q=>∃a xs,x=.ref a/\SqT K H a xs /\
 ¬ (HT.sIx xs.length 0 lo=0/\HT.sIx xs.length xs.length hi=xs.length)/\∀p,H p=none->Q (.ref p) (upd H p (.tup (cutV xs lo hi)))
theorem q53:SlR X (rSlT X.K):=by
 intro pins s σ H x v vl vu lo hi sl Q I rx hs pl pu h
 obtain⟨a,xs,rfl,hx,hw,q⟩:=h
 cases rx
 obtain⟨its,r,ht,hz⟩:=I.tuple hx
 have hlen:its.toArray.size=xs.length:=by rw[List.size_toArray];exact r.length.symm
 refine⟨"tuple",_,PyProof.Rows.slot_tuple_getitem.lookup,ht.typeIs,?_⟩
 refine HT.getItem_tuple_cut ht hs pl pu (by rw[hlen];exact hw) ?_ (by rw[hlen];exact hz)
 rw[hlen]
 refine⟨.ref s.heap.objs.size,_,I.laid (t':=s.toks) (o:=.tup (cutV xs lo hi)) (λb ob q=>Heap.get?_push_of_some _ q) (Nat.le_refl _) ?_,rfl,q _ (I.hok.fresh (Nat.le_refl _))⟩
 exact⟨Nat.le_trans (qg9 xs lo hi) hz,_,(r.drop (HT.sIx xs.length 0 lo)).take (HT.sIx xs.length xs.length hi-HT.sIx xs.length 0 lo),IsTup.new _ _⟩
def q7m(K:PySem.W.Frag):R2:=λx y H Q=>∃a b xs ys,x=.ref a/\y=.ref b/\SqT K H a xs/\SqT K H b ys/\xs≠[]/\xs.length+ys.length<=sizeLine /\
 (ys=[]->Q (.ref a) H)/\(ys≠[]->∀p,H p=none->Q (.ref p) (upd H p (.tup (xs++ys))))
theorem Vals.nil_iff{xs:List V}{us:List Value}(r:Vals xs us):us=[]↔xs=[]:=by
 cases r with
|nil=>simp
|cons _ _=>simp
theorem q03:OpR X (binaryOp .Add) (q7m X.K):=by
 intro pins s σ H x y v u Q I rx ry h
 obtain⟨a,b,xs,ys,rfl,rfl,ha,hb,hx,hz,q1,q2⟩:=h
 cases rx
 cases ry
 obtain⟨its,r1,p1,_⟩:=I.tuple ha
 obtain⟨its2,r2,p2,_⟩:=I.tuple hb
 refine HT.cat_tup p1 p2 (λz=>hx (r1.nil_iff.mp z)) (λz=>⟨.ref a,H,I,rfl,q1 (r2.nil_iff.mp z)⟩) (λz=>?_) (by rw[←r1.length,←r2.length];exact hz)
 refine⟨.ref s.heap.objs.size,_,I.laid (t':=s.toks) (o:=.tup (xs++ys)) (λb ob q=>Heap.get?_push_of_some _ q) (Nat.le_refl _) ?_,rfl,q2 (λw=>z (r2.nil_iff.mpr w)) _ (I.hok.fresh (Nat.le_refl _))⟩
 exact⟨by rw[List.length_append];exact hz,_,r1.append r2,IsTup.new _ _⟩
end
end L2
namespace L2
open PySem PySem.Spec PyProof.Rows
def ixN(n:Nat)(i:Int):Option Nat:=if 0<=i then (if i<n then some i.toNat else none) else if -(n:Int)<=i then some (i+n).toNat else none
def atI{α:Type}(xs:List α)(i:Int):Option α:=(ixN xs.length i).bind λj=>xs[j]?
theorem q0e{n:Nat}{i:Int}{j:Nat}(h:ixN n i=some j):seqIndex? i n=some j/\j<n/\-(n:Int)<=i/\i<n:=by
 unfold ixN at h
 by_cases h0:0<=i
 ·rw[if_pos h0] at h
  by_cases h1:i<n
  ·rw[if_pos h1] at h
   have e:i.toNat=j:=Option.some.inj h
   exact⟨by rw[seqIndex_of h0 h1,e],by lia,by lia,h1⟩
  ·rw[if_neg h1] at h;cases h
 ·rw[if_neg h0] at h
  by_cases h1:-(n:Int)<=i
  ·rw[if_pos h1] at h
   have e:(i+n).toNat=j:=Option.some.inj h
   exact⟨by rw[seqIndex_neg (by lia) h1,e],by lia,h1,by lia⟩
  ·rw[if_neg h1] at h;cases h
theorem qmk{α:Type}{xs:List α}{i:Int}{v:α}(h:atI xs i=some v):∃j,seqIndex? i xs.length=some j/\xs[j]?=some v/\j<xs.length/\-(xs.length:Int)<=i/\i<xs.length:=by
 unfold atI at h
 cases e:ixN xs.length i with
|none=>rw[e] at h;cases h
|some j =>
  rw[e] at h
  obtain⟨h1,h2,h3,h4⟩:=q0e e
  exact⟨j,h1,h,h2,h3,h4⟩
theorem qjf{α:Type}{xs:List α}{j:Nat}{v:α}(h:xs[j]?=some v):atI xs (j:Int)=some v:=by
 have hj:j<xs.length:=(List.getElem?_eq_some_iff.mp h).1
 have e:ixN xs.length (j:Int)=some j:=by
  unfold ixN
  rw[if_pos (by lia),if_pos (by lia)];simp
 unfold atI;rw[e];exact h
def qe2(b:Expr):Prop:=∀o i,subscripted b false o i=operate [o,i] (getItem o i)
def IxR(X:Cx)(r:R2):Prop :=
 ∀(value slice:Expr) (pins:List (Addr×Obj)) (s:Shared) (σ:St) (H:Hp) (x y:V) (v u:Value) (Q:VK),Inv X pins σ H s->RelV x v->RelV y u->r x y H Q ->
  subscripted slice false v u=operate [v,u] (getItem v u)->wpAny (model X.prog X.w) X.A (subscriptTail value slice v u) (EP X pins σ Q) X.xe s
def MtR(X:Cx)(id:String)(r:V->List V->Hp->VK->Prop):Prop :=
 ∀(pins:List (Addr×Obj)) (s:Shared) (σ:St) (H:Hp) (x:V) (xs:List V) (v:Value) (us:List Value) (Q:VK),Inv X pins σ H s->RelV x v->Vals xs us->r x xs H Q ->
  wpAny (model X.prog X.w) X.A (call (.builtin id) (v::us)) (EP X pins σ Q) X.xe s
section
variable {X:Cx} {a b:Expr} {ta tb:TE} {pos:Pos}
theorem IxR.or{r r':R2}(h:IxR X r)(h':IxR X r'):IxR X (λx y H Q=>r x y H Q\/r' x y H Q):=by
 intro value slice pins s σ H x y v u Q I rx ry q hs
 rcases q with q|q
 ·exact h value slice pins s σ H x y v u Q I rx ry q hs
 ·exact h' value slice pins s σ H x y v u Q I rx ry q hs
theorem MtR.or{id:String}{r r':V->List V->Hp->VK->Prop}(h:MtR X id r)(h':MtR X id r'):MtR X id (λx xs H Q=>r x xs H Q\/r' x xs H Q):=by
 intro pins s σ H x xs v us Q I rx rs q
 rcases q with q|q
 ·exact h pins s σ H x xs v us Q I rx rs q
 ·exact h' pins s σ H x xs v us Q I rx rs q
theorem q4r{r:R2}(hr:IxR X r)(ha:PE X a ta)(hb:PE X b tb)(hs:qe2 b):PE X (.Subscript a b pos) (tOp r ta tb):=by
 intro pins s σ H Q I h
 exact Subscript_ (binT ha hb I h λv u s2 x y H2 I2 rx ry q=>hr a b pins s2 σ H2 x y v u Q I2 rx ry q (hs _ _))
def rIxL(K:PySem.W.Frag):R2:=λx y H Q=>∃p xs i v,x=.ref p/\y=.int i/\SqL K H p xs/\atI xs i=some v/\Q v H
def rIxT(K:PySem.W.Frag):R2:=λx y H Q=>∃p xs i v,x=.ref p/\y=.int i/\SqT K H p xs/\atI xs i=some v/\Q v H
def rIxS:R2:=λx y H Q=>∃z i c,x=.str z/\y=.int i/\z.length<=sizeLine/\atI z.cps.toList i=some c/\Q (.str ⟨#[c]⟩) H
theorem q0f:IxR X (rIxL X.K):=by
 intro value slice pins s σ H x y v u Q I rx ry h hs
 obtain⟨p,xs,i,z,rfl,rfl,hq,he,q⟩:=h
 cases rx
 obtain⟨t,rfl⟩:=ry
 obtain⟨its,r,pl,hz⟩:=I.list hq
 obtain⟨j,h1,h2,h3,h4,h5⟩:=qmk he
 obtain⟨w,ew,rw'⟩:=r.get h2
 have hl:=r.length
 have hn:=qll
 have fin:EP X pins σ Q w s:=⟨z,H,I,rw',q⟩
 by_cases h0:0<=i
 ·have hj:i.toNat=j:=by
   rw[seqIndex_of h0 h5] at h1
   exact Option.some.inj h1
  exact item_listR pl.isList h0 (by lia) (by rw[hj];simpa using ew) fin hs
 ·have hj:(i+(its.toArray.size:Int)).toNat=j:=by
   rw[seqIndex_neg (by lia) h4] at h1
   rw[List.size_toArray,←hl]
   exact Option.some.inj h1
  exact subscriptTail_builtinR (x:=w) pl.isList.typeIs slot_list_getitem.lookup
   (wpAny_getItem_list_neg (Q:=λr s'=>r=w/\EP X pins σ Q r s') pl.isList (by lia) (by rw[List.size_toArray]<;>lia) (by lia) (by rw[hj];simpa using ew) ⟨rfl,fin⟩) hs
theorem ix_tup:IxR X (rIxT X.K):=by
 intro value slice pins s σ H x y v u Q I rx ry h hs
 obtain⟨p,xs,i,z,rfl,rfl,hq,he,q⟩:=h
 cases rx
 obtain⟨t,rfl⟩:=ry
 obtain⟨its,r,pl,hz⟩:=I.tuple hq
 obtain⟨j,h1,h2,h3,h4,h5⟩:=qmk he
 obtain⟨w,ew,rw'⟩:=r.get h2
 have hl:=r.length
 have hn:=qll
 have fin:EP X pins σ Q w s:=⟨z,H,I,rw',q⟩
 exact subscriptTail_builtinR (x:=w) pl.typeIs slot_tuple_getitem.lookup
  (getItem_tuple (j:=j) (Q:=λr s'=>r=w/\EP X pins σ Q r s') pl (by lia) (by lia) (by rw[List.size_toArray,←hl];exact h1) (by simpa using ew) ⟨rfl,fin⟩) hs
theorem ix_str:IxR X rIxS:=by
 intro value slice pins s σ H x y v u Q I rx ry h hs
 obtain⟨z,i,c,rfl,rfl,hz,he,q⟩:=h
 obtain⟨t,rfl⟩:=rx
 obtain⟨t',rfl⟩:=ry
 obtain⟨j,h1,h2,h3,h4,h5⟩:=qmk he
 have hl:z.cps.toList.length=z.length:=by simp[Str.length]
 rw[hl] at h1 h4 h5
 have hn:=qll
 exact tail_any (typeIs_str s z t) slot_str_getitem.lookup (getItem_str (c:=c) (by
  have e1:decide (i < -(2 ^ 63:Int))=false:=decide_eq_false (by lia)
  have e2:decide (i≥2 ^ 63)=false:=decide_eq_false (by lia)
  rw[e1,e2,Bool.or_false]) (by rw[h1];simpa using h2) ⟨.str ⟨#[c]⟩,H,I.tok _,⟨_,rfl⟩,q⟩) hs
theorem ql1(lo hi:Option Int)(n:Nat):(sliceBounds lo hi none n).1=((HT.sIx n 0 lo:Nat):Int)/\(sliceBounds lo hi none n).2.1=((HT.sIx n n hi:Nat):Int)/\(sliceBounds lo hi none n).2.2=1:=by
 refine⟨?_,?_,rfl⟩
 ·cases lo with
 |none=>simp[sliceBounds,HT.sIx]
 |some i =>
   simp only[sliceBounds,HT.sIx,Option.getD_none,show (1:Int)>0 by decide,if_true]
   by_cases h:i<0
   ·simp only[h,if_true]<;>lia
   ·simp only[h,if_false]<;>lia
 ·cases hi with
 |none=>simp[sliceBounds,HT.sIx]
 |some i =>
   simp only[sliceBounds,HT.sIx,Option.getD_none,show (1:Int)>0 by decide,if_true]
   by_cases h:i<0
   ·simp only[h,if_true]<;>lia
   ·simp only[h,if_false]<;>lia
theorem qkb(its:List Value)(lo hi:Option Int):slicePick its.toArray lo hi none=((its.drop (HT.sIx its.length 0 lo)).take (HT.sIx its.length its.length hi-HT.sIx its.length 0 lo)).toArray:=by
 obtain⟨h1,h2,h3⟩:=ql1 lo hi its.toArray.size
 unfold slicePick
 rw[h1,h2,h3]
 simp only[sliceRange_one,pick_run,List.size_toArray]<;>rfl
def rSlL(K:PySem.W.Frag):V->Option Int->Option Int->Hp->VK->Prop:=λx lo hi H Q=>∃a xs,x=.ref a/\SqL K H a xs/\∀p,H p=none->Q (.ref p) (upd H p (.lst (cutV xs lo hi)))
theorem q2l:SlR X (rSlL X.K):=by
 intro pins s σ H x v vl vu lo hi sl Q I rx hs pl pu h
 obtain⟨a,xs,rfl,hx,q⟩:=h
 cases rx
 obtain⟨its,r,ht,hz⟩:=I.list hx
 have hlen:=r.length
 refine⟨"list",_,slot_list_getitem.lookup,ht.isList.typeIs,?_⟩
 refine wpAny_getItem_list_slice ht.isList hs pl pu .none (by simp) ?_ (by rw[List.size_toArray]<;>lia)
 rw[qkb,←hlen]
 refine⟨.ref s.heap.objs.size,_,I.laid (t':=s.toks) (o:=.lst (cutV xs lo hi)) (λb ob q=>Heap.get?_push_of_some _ q) (Nat.le_refl _) ?_,rfl,q _ (I.hok.fresh (Nat.le_refl _))⟩
 exact⟨Nat.le_trans (qg9 xs lo hi) hz,_,0,(r.drop (HT.sIx xs.length 0 lo)).take (HT.sIx xs.length xs.length hi-HT.sIx xs.length 0 lo),Heap.get?_push_size _ rfl⟩
def qgk:V->Bool
|.non=>true
|.bl _=>true
|.int _=>true
|.str _=>true
|_=>false
def eqV:V->V->Bool
|.non,.non=>true
|.bl a,.bl b=>a==b
|.bl a,.int b=>(if a then 1 else 0)==b
|.int a,.bl b=>a==(if b then 1 else 0)
|.int a,.int b=>a==b
|.str a,.str b=>a==b
|_,_=>false
theorem qyt{A:Around}{s:Shared}{y x:V}{u v:Value}(ry:RelV y u)(rx:RelV x v)(fy:qgk y=true)(fx:qgk x=true):SeqAt.EqAt A s u v (eqV y x):=by
 cases y with
|non =>
  cases ry
  cases x with
 |non=>cases rx;exact SeqAt.EqAt.same _
 |bl b=>cases rx;exact SeqAt.EqAt.none_bool b
 |int b=>obtain⟨t,rfl⟩:=rx;exact SeqAt.EqAt.none_int b t
 |str b=>obtain⟨t,rfl⟩:=rx;exact SeqAt.EqAt.none_str b t
 |_=>exact absurd (show false=true from fx) Bool.false_ne_true
|bl a =>
  cases ry
  cases x with
 |non=>cases rx;exact SeqAt.EqAt.bool_none a
 |bl b=>cases rx;exact SeqAt.EqAt.bool_bool a b
 |int b=>obtain⟨t,rfl⟩:=rx;exact SeqAt.EqAt.bool_int a b t
 |str b=>obtain⟨t,rfl⟩:=rx;exact SeqAt.EqAt.bool_str a b t
 |_=>exact absurd (show false=true from fx) Bool.false_ne_true
|int a =>
  obtain⟨t',rfl⟩:=ry
  cases x with
 |non=>cases rx;exact SeqAt.EqAt.int_none a t'
 |bl b=>cases rx;exact SeqAt.EqAt.int_bool a t' b
 |int b=>obtain⟨t,rfl⟩:=rx;exact SeqAt.EqAt.int_int a t' b t
 |str b=>obtain⟨t,rfl⟩:=rx;exact SeqAt.EqAt.int_str a t' b t
 |_=>exact absurd (show false=true from fx) Bool.false_ne_true
|str a =>
  obtain⟨t',rfl⟩:=ry
  cases x with
 |non=>cases rx;exact SeqAt.EqAt.str_none a t'
 |bl b=>cases rx;exact SeqAt.EqAt.str_bool a t' b
 |int b=>obtain⟨t,rfl⟩:=rx;exact SeqAt.EqAt.str_int a t' b t
 |str b=>obtain⟨t,rfl⟩:=rx;exact SeqAt.EqAt.str_str a t' b t
 |_=>exact absurd (show false=true from fx) Bool.false_ne_true
|_=>exact absurd (show false=true from fy) Bool.false_ne_true
def eqU(x:V)(u:Value):Bool:=match u with
|.none=>eqV .non x
|.bool b=>eqV (.bl b) x
|.int i _=>eqV (.int i) x
|.str z _=>eqV (.str z) x
|_=>false
theorem qyu{x y:V}{u:Value}(r:RelV y u)(f:qgk y=true):eqU x u=eqV y x:=by
 cases y with
|non=>cases r;rfl
|bl b=>cases r;rfl
|int i=>obtain⟨t,rfl⟩:=r;rfl
|str z=>obtain⟨t,rfl⟩:=r;rfl
|_=>exact absurd (show false=true from f) Bool.false_ne_true
theorem qgw{x:V}:∀ {xs:List V} {us:List Value},Vals xs us->xs.all qgk=true->us.any (eqU x)=xs.any λy=>eqV y x
|_,_,.nil,_=>rfl
|y::xs,u::us,.cons r t,f=>by
  rw[List.all_cons,Bool.and_eq_true] at f
  rw[List.any_cons,List.any_cons,qyu r f.1,qgw t f.2]
theorem qfg{A:Around}{s:Shared}{x:V}{v:Value}(rx:RelV x v)(fx:qgk x=true):∀ {xs:List V} {us:List Value},Vals xs us->xs.all qgk=true->∀u∈us,SeqAt.EqAt A s u v (eqU x u)
|_,_,.nil,_=>λu hu=>by cases hu
|y::xs,u::us,.cons r t,f=>λu' hu=>by
  rw[List.all_cons,Bool.and_eq_true] at f
  rcases List.mem_cons.mp hu with rfl|hu
  ·rw[qyu r f.1];exact qyt r rx f.1 fx
  ·exact qfg rx fx t f.2 u' hu
def inV(x:V)(xs:List V):Bool:=xs.any λy=>eqV y x
def rIn(K:PySem.W.Frag)(neg:Bool):R2:=λx y H Q=>∃p xs,y=.ref p/\(SqL K H p xs\/SqT K H p xs)/\qgk x=true/\xs.all qgk=true/\Q (.bl (if neg then !inV x xs else inV x xs)) H
theorem qtz:OpR X (compareOp .In) (rIn X.K false):=by
 intro pins s σ H x y v u Q I rx ry h
 obtain⟨p,xs,rfl,hq,fx,fs,q⟩:=h
 cases ry
 rcases hq with hq|hq
 ·obtain⟨its,r,pl,hz⟩:=I.list hq
  refine SeqAt.in_listAt (eqU x) pl.isList (λw hw=>qfg rx fx r fs w (by simpa using hw)) ⟨.bl _,H,I,rfl,?_⟩
  rw[show its.toArray.any (eqU x)=its.any (eqU x) by simp,qgw r fs]
  exact q
 ·obtain⟨its,r,pl,hz⟩:=I.tuple hq
  refine SeqAt.in_tupleAt (eqU x) pl (λw hw=>qfg rx fx r fs w (by simpa using hw)) ⟨.bl _,H,I,rfl,?_⟩
  rw[show its.toArray.any (eqU x)=its.any (eqU x) by simp,qgw r fs]
  exact q
theorem qls:OpR X (compareOp .NotIn) (rIn X.K true):=by
 intro pins s σ H x y v u Q I rx ry h
 obtain⟨p,xs,rfl,hq,fx,fs,q⟩:=h
 cases ry
 rcases hq with hq|hq
 ·obtain⟨its,r,pl,hz⟩:=I.list hq
  refine SeqAt.notIn_listAt (eqU x) pl.isList (λw hw=>qfg rx fx r fs w (by simpa using hw)) ⟨.bl _,H,I,rfl,?_⟩
  rw[show its.toArray.any (eqU x)=its.any (eqU x) by simp,qgw r fs]
  exact q
 ·obtain⟨its,r,pl,hz⟩:=I.tuple hq
  refine SeqAt.notIn_tupleAt (eqU x) pl (λw hw=>qfg rx fx r fs w (by simpa using hw)) ⟨.bl _,H,I,rfl,?_⟩
  rw[show its.toArray.any (eqU x)=its.any (eqU x) by simp,qgw r fs]
  exact q
theorem qk3:CallR X (.builtin "len") (λxs H Q=>∃p ys,xs=[.ref p]/\(SqL X.K H p ys\/SqT X.K H p ys)/\Q (.int ys.length) H):=by
 intro pins s σ H xs us Q I r h
 obtain⟨p,ys,rfl,hq,q⟩:=h
 obtain⟨u,rfl,rx⟩:=vals1 r
 cases rx
 have hn:=qll
 rcases hq with hq|hq
 ·obtain⟨its,r',pl,hz⟩:=I.list hq
  have hlen:=r'.length
  exact Calls.call_len_list pl.isList (by simp only[List.size_toArray]<;>lia) ⟨.int ys.length,H,I.tok _,⟨s.toks+1,by rw[List.size_toArray,hlen]⟩,q⟩
 ·obtain⟨its,r',pl,hz⟩:=I.tuple hq
  have hlen:=r'.length
  exact len_tuple pl (by simp only[List.size_toArray]<;>lia) ⟨.int ys.length,H,I.tok _,⟨s.toks+1,by rw[List.size_toArray,hlen]⟩,q⟩
theorem call_len_str:CallR X (.builtin "len") (λxs H Q=>∃z,xs=[.str z]/\z.length<=sizeLine/\Q (.int z.length) H):=by
 intro pins s σ H xs us Q I r h
 obtain⟨z,rfl,hz,q⟩:=h
 obtain⟨u,rfl,t,rfl⟩:=vals1 r
 have hn:=qll
 exact len_str (by lia) ⟨.int z.length,H,I.tok _,⟨_,rfl⟩,q⟩
theorem CallR.or{f:Value}{r r':List V->Hp->VK->Prop}(h:CallR X f r)(h':CallR X f r'):CallR X f (λxs H Q=>r xs H Q\/r' xs H Q):=by
 intro pins s σ H xs us Q I rs q
 rcases q with q|q
 ·exact h pins s σ H xs us Q I rs q
 ·exact h' pins s σ H xs us Q I rs q
theorem qk5:CallR X (.type "list") (λxs H Q=>∃p ys,xs=[.ref p]/\(SqL X.K H p ys\/SqT X.K H p ys)/\∀l,H l=none->Q (.ref l) (upd H l (.lst ys))):=by
 intro pins s σ H xs us Q I r h
 obtain⟨p,ys,rfl,hq,q⟩:=h
 obtain⟨u,rfl,rx⟩:=vals1 r
 cases rx
 have fin:∀(its:List Value),Vals ys its->ys.length<=sizeLine->∀(h':Heap) (c':Nat),(∀b o',s.heap.get? b=some o'->h'.get? b=some o') ->
   h'.get? s.heap.objs.size=some { cls:=.type "list",dict:=none,data:=.seq its.toArray c',slots:=#[] }->EP X pins σ Q (.ref s.heap.objs.size) { s with heap:=h' }:=λits r' hz h' c' kp e =>
  ⟨.ref s.heap.objs.size,_,I.laid (t':=s.toks) kp (Nat.le_refl _) (show ObjOk X.prog X.w _ h' _ (.lst ys) from ⟨hz,its,c',r',e⟩),rfl,q _ (I.hok.fresh (Nat.le_refl _))⟩
 rcases hq with hq|hq
 ·obtain⟨its,r',pl,hz⟩:=I.list hq
  have hlen:=r'.length
  obtain⟨o,ho,hc,n,hd⟩:=pl.isList
  exact call_list_seq p (.inl rfl) ho hc hd (λh' c' kp e=>fin its r' hz h' c' kp e) (by simp only[List.size_toArray]<;>lia)
 ·obtain⟨its,r',pl,hz⟩:=I.tuple hq
  have hlen:=r'.length
  obtain⟨o,ho,hc,n,hd⟩:=pl
  exact call_list_seq p (.inr rfl) ho hc hd (λh' c' kp e=>fin its r' hz h' c' kp e) (by simp only[List.size_toArray]<;>lia)
theorem qjj:CallR X (.type "tuple") (λxs H Q=>∃p ys,xs=[.ref p]/\((SqL X.K H p ys/\∀l,H l=none->Q (.ref l) (upd H l (.tup ys)))\/(SqT X.K H p ys/\Q (.ref p) H))):=by
 intro pins s σ H xs us Q I r h
 obtain⟨p,ys,rfl,h⟩:=h
 obtain⟨u,rfl,rx⟩:=vals1 r
 cases rx
 rcases h with ⟨hq,q⟩|⟨hq,q⟩
 ·obtain⟨its,r',pl,hz⟩:=I.list hq
  have hlen:=r'.length
  refine call_tuple_list pl.isList (λh' kp=>?_) (by simp only[List.size_toArray]<;>lia)
  have I1:Inv X pins σ H { s with heap:=h' }:=I.kept (t':=s.toks) kp
  have I2:Inv X pins σ (upd H h'.objs.size (.tup ys)) { s with heap:=h'.push { cls:=.type "tuple",data:=.seq its.toArray } } :=
   I1.laid (t':=s.toks) (λb o e=>Heap.get?_push_of_some _ e) (Nat.le_refl _) (show ObjOk X.prog X.w _ _ _ (.tup ys) from ⟨hz,its,r',IsTup.new _ _⟩)
  exact⟨.ref h'.objs.size,_,I2,rfl,q _ (I1.hok.fresh (Nat.le_refl _))⟩
 ·obtain⟨its,r',pl,hz⟩:=I.tuple hq
  exact call_tuple_same pl ⟨.ref p,H,I,rfl,q⟩
def tyV(K:PySem.W.Frag)(T:String)(x:V)(H:Hp):Prop:=match x with
|.str _=>T="str"
|.int _=>T="int"
|.ref p=>(T="list" /\ ∃xs,SqL K H p xs)\/(T="tuple" /\ ∃o,K.lookup p=some o/\o.cls=.type "tuple" /\ o.dict=none) \/
   (T="dict" /\ ((∃kvs,H p=some (.dK kvs))\/∃kvs,H p=some (.dT kvs)))\/(T="set" /\ ∃S n,H p=some (.set S n))
|_=>False
theorem qzk{pins:List (Addr×Obj)}{σ:St}{H:Hp}{s:Shared}{T:String}{x:V}{v:Value}(I:Inv X pins σ H s)(r:RelV x v)(ty:tyV X.K T x H) :
  s.TypeIs v T/\∀a,v=.ref a->∃ob,s.heap.get? a=some ob/\ob.dict=none:=by
 cases x with
|str z =>
  obtain⟨t,rfl⟩:=r
  cases (show T="str" from ty)
  exact⟨typeIs_str s z t,λ_ e=>nomatch e⟩
|int i =>
  obtain⟨t,rfl⟩:=r
  cases (show T="int" from ty)
  exact⟨typeIs_int s i t,λ_ e=>nomatch e⟩
|ref p =>
  cases r
  rcases ty with ⟨rfl,xs,hq⟩|⟨rfl,o,hk,hc,hd⟩|⟨rfl,hk⟩|⟨rfl,S,n,hk⟩
  ·obtain⟨its,_,pl,_⟩:=I.list hq
   refine⟨pl.isList.typeIs,λa e=>?_⟩
   cases e
   obtain⟨o,n,e,c,hd,_⟩:=pl
   exact⟨o,e,hd⟩
  ·refine⟨⟨o,I.kIn p o hk,hc⟩,λa e=>?_⟩
   cases e
   exact⟨o,I.kIn _ o hk,hd⟩
  ·have z:∃o,s.heap.get? p=some o/\o.ExactDict:=by
    rcases hk with ⟨kvs,hk⟩|⟨kvs,hk⟩
    ·obtain⟨_,_,_,_,o,_,_,e,ex,_⟩:=I.hok p _ hk
     exact⟨o,e,ex⟩
    ·obtain⟨_,_,_,_,o,_,_,e,ex,_⟩:=I.hok p _ hk
     exact⟨o,e,ex⟩
   obtain⟨o,e,ex⟩:=z
   refine⟨⟨o,e,ex.1⟩,λa e2=>?_⟩
   cases e2
   exact⟨o,e,ex.2.1⟩
  ·obtain⟨o,_,_,_,e,ex,_⟩:=I.hok p _ hk
   refine⟨⟨o,e,ex.1⟩,λa e2=>?_⟩
   cases e2
   exact⟨o,e,ex.2.1⟩
|_=>exact False.elim ty
def tBM0(K:PySem.W.Frag)(T:String)(r:V->List V->Hp->VK->Prop)(to:TE):TE:=λσ H Q=>to σ H λx H1=>tyV K T x H1/\r x [] H1 Q
def tBM(K:PySem.W.Frag)(T:String)(r:V->List V->Hp->VK->Prop)(to:TE)(t:TA):TE:=λσ H Q=>to σ H λx H1=>tyV K T x H1/\t σ H1 λxs H2=>r x xs H2 Q
variable {o e:Expr} {es:List Expr} {to:TE} {t:TA} {name:Str} {apos cpos:Pos} {T id:String} {r:V->List V->Hp->VK->Prop}
theorem q4o(pa:PlainAttrs T)(slot:Slot T name id)(hty:typeOf (.builtin id)=pure (.type "method_descriptor"))(hm:MtR X id r)(ho:PE X o to)
  (hbase:attributeBase o name X.env (eval o X.env)=eval o X.env:=by rfl) (hline:(apos.endLine==cpos.line)=true:=by rfl):PE X (.Call (.Attribute o name apos) [] [] cpos) (tBM0 X.K T r to):=by
 intro pins s σ H Q I h
 refine wpAny_Call_method0_late hbase hline (thn (ho pins s σ H _ I h) λv s1 ⟨x,H1,I1,r1,ty,q1⟩=>?_)
 obtain⟨h1,h2⟩:=qzk I1 r1 ty
 exact⟨T,id,pa,slot,hty,h1,h2,Calls.callWith_builtin rfl (PySem.evalArgs_none (hm pins s1 σ H1 x [] v [] Q I1 r1 .nil q1))⟩
theorem q7a(pa:PlainAttrs T)(slot:Slot T name id)(hty:typeOf (.builtin id)=pure (.type "method_descriptor"))(hm:MtR X id r)(ho:PE X o to)(ha:PA X (e::es) t)
  (hbase:attributeBase o name X.env (eval o X.env)=eval o X.env:=by rfl)
  (hfew:((backTo cpos (starEach (e::es) X.env)).all (λx=>!x.1)&&(backToKw cpos (keywordEach [] X.env)).all (λx=>x.1.isSome)
   && decide ((e::es).length+([]:List Keyword).length+(if ([]:List Keyword).isEmpty then 0 else 1)<30))=true:=by rfl)
  (hline:(apos.endLine==cpos.line)=true:=by rfl) (hs:starEach (e::es) X.env=(false,eval e X.env)::starEach es X.env:=by rfl) (hplain:(backTo cpos (starEach es X.env)).any (·.1)=false:=by rfl) :
  PE X (.Call (.Attribute o name apos) (e::es) [] cpos) (tBM X.K T r to t):=by
 intro pins s σ H Q I h
 refine wpAny_Call_method_late hbase hfew hline rfl (thn (ho pins s σ H _ I h) λv s1 ⟨x,H1,I1,r1,ty,q1⟩=>?_)
 obtain⟨h1,h2⟩:=qzk I1 r1 ty
 refine⟨T,id,pa,slot,hty,h1,h2,?_⟩
 have hA:=ha cpos pins s1 σ H1 _ I1 q1
 rw[hs] at hA ⊢
 refine Calls.callWith_builtin (by show (false||(backTo cpos (starEach es X.env)).any (·.1))=false;rw[hplain]<;>rfl) (Calls.evalArgs_plain ?_)
 exact thn hA λus s2 ⟨vs,H2,I2,r2,q2⟩=>hm pins s2 σ H2 x vs v us Q I2 r1 r2 q2
end
end L2
namespace L2
open PySem PySem.Spec PyProof.Rows
def MtM(X:Cx)(id:String)(r:V->List V->Hp->VK->Prop):Prop :=
 ∀(pins:List (Addr×Obj)) (s:Shared) (σ:St) (H:Hp) (x:V) (xs:List V) (v:Value) (us:List Value) (Q:VK),Inv X pins σ H s->RelV x v->Vals xs us->r x xs H Q ->
  wpAny (model X.prog X.w) X.A (call (.builtin id) (v::us)) (EP X pins σ Q) X.xe s
theorem Vals.one:∀ {x:V} {us:List Value},Vals [x] us->∃u,us=[u]/\RelV x u
|_,_,.cons r .nil=>⟨_,rfl,r⟩
theorem Vals.zero:∀ {us:List Value},Vals [] us->us=[]
|_,.nil=>rfl
theorem Vals.eraseIdx:∀ {xs:List V} {us:List Value} (i:Nat),Vals xs us->Vals (xs.eraseIdx i) (us.eraseIdx i)
|_,_,_,.nil=>.nil
|_,_,0,.cons _ t=>t
|_,_,i+1,.cons r t=>.cons r (Vals.eraseIdx i t)
theorem Vals.rep{xs:List V}{us:List Value}(h:Vals xs us):∀k:Nat,Vals (List.replicate k xs).flatten (List.replicate k us).flatten
|0=>.nil
|k+1=>by
  rw[List.replicate_succ,List.replicate_succ,List.flatten_cons,List.flatten_cons]
  exact Vals.append h (Vals.rep h k)
theorem qle{α:Type}:∀(l:List α) (i:Nat),(l.eraseIdx i).length<=l.length
|[],_=>Nat.le_refl _
|_::_,0=>Nat.le_succ _
|_::r,i+1=>Nat.succ_le_succ (qle r i)
section
variable {X:Cx} {pins:List (Addr×Obj)} {σ:St} {H:Hp} {s:Shared} {l b:Addr} {xs ys zs:List V}
theorem Inv.lset{its its':List Value}{n:Nat}{f:Array Value->Array Value}{t':Nat}(I:Inv X pins σ H s)(hH:H l=some (.lst xs))
  (e:s.heap.get? l=some { cls:=.type "list",data:=.seq its.toArray n }) (hf:f its.toArray=its'.toArray) (hv:Vals ys its') (hz:ys.length<=sizeLine) :
  Inv X pins σ (upd H l (.lst ys)) { s with heap:=s.heap.update l (Obj.mapSeq f),toks:=t' }:=by
 have q:=PySem.IsL.update e f
 rw[hf] at q
 refine I.write (x:=l) (e:=l) (by rw[hH];exact trivial) (.inl rfl) (λb' u hb hu=>(Heap.get?_update_other s.heap (Obj.mapSeq f) (Ne.symm hb)).trans hu) ⟨_,q⟩ ?_
 exact⟨hz,its',_,hv,q⟩
theorem Inv.lnew{its:List Value}{t':Nat}(I:Inv X pins σ H s)(hv:Vals ys its)(hz:ys.length<=sizeLine) :
  Inv X pins σ (upd H s.heap.objs.size (.lst ys)) { s with heap:=s.heap.push { cls:=.type "list",data:=.seq its.toArray },toks:=t' } :=
 I.laid (λ_ _ q=>Heap.get?_push_of_some _ q) (Nat.le_refl _) ⟨hz,its,0,hv,Heap.get?_push_size _ rfl⟩
theorem Inv.fresh(I:Inv X pins σ H s):H s.heap.objs.size=none:=I.hok.fresh (Nat.le_refl _)
theorem Inv.lstM(I:Inv X pins σ H s)(hH:H l=some (.lst xs)):xs.length<=sizeLine/\∃(its:List Value) (n:Nat),Vals xs its/\xs.length=its.length/\s.heap.get? l=some { cls:=.type "list",data:=.seq its.toArray n }:=by
 obtain⟨z,its,n,r,e⟩:=I.hok l _ hH
 exact⟨z,its,n,r,r.length,e⟩
end
section
variable {X:Cx}
def q2a:V->List V->Hp->VK->Prop:=λx vs H Q=>∃l xs y,x=.ref l/\vs=[y]/\H l=some (.lst xs)/\xs.length<sizeLine/\Q .non (upd H l (.lst (xs++[y])))
theorem qlq:MtM X "list.append" q2a:=by
 intro pins s σ H x vs v us Q I rx rv h
 obtain⟨l,xs,y,rfl,rfl,hH,hz,q⟩:=h
 cases rx
 obtain⟨u,rfl,ru⟩:=rv.one
 obtain⟨z,its,n,r,hl,e⟩:=I.lstM hH
 refine call_meets F.slot_list_append ⟨_,e,rfl⟩ F.entry_list_append (F.args_list_append_2 _ _) (PySem.list_append l its.toArray n u (by rw[List.size_toArray];lia)) ⟨e,?_⟩
 refine⟨.non,_,I.lset (its':=its++[u]) hH e (by simp) (r.append (.cons ru .nil)) ?_,rfl,q⟩
 rw[List.length_append,List.length_singleton]
 lia
def q5q:V->List V->Hp->VK->Prop:=λx vs H Q=>∃l xs i k y,x=.ref l/\vs=[.int i]/\H l=some (.lst xs)/\-(2 ^ 63)<=i/\i<2 ^ 63/\seqIndex? i xs.length=some k/\xs[k]?=some y/\Q y (upd H l (.lst (xs.eraseIdx k)))
theorem qwl:MtM X "list.pop" q5q:=by
 intro pins s σ H x vs v us Q I rx rv h
 obtain⟨l,xs,i,k,y,rfl,rfl,hH,h1,h2,hk,hy,q⟩:=h
 cases rx
 obtain⟨u,rfl,ru⟩:=rv.one
 obtain⟨t,rfl⟩:=ru
 obtain⟨z,its,n,r,hl,e⟩:=I.lstM hH
 obtain⟨w,hw,rw'⟩:=r.get hy
 refine call_meets F.slot_list_pop ⟨_,e,rfl⟩ F.entry_list_pop (F.args_list_pop_2 _ _)
  (MeetsSeq.list_pop_at l its.toArray n i t k w (fitsIndex_both h1 h2) (by rw[List.size_toArray,←hl];exact hk) (by rw[←Array.getElem?_toList];exact hw) (by rw[List.size_toArray];lia)) ⟨e,?_⟩
 refine⟨y,_,I.lset (its':=its.eraseIdx k) hH e ?_ (r.eraseIdx k) ?_,rw',q⟩
 ·show its.toArray.eraseIdxIfInBounds k=(its.eraseIdx k).toArray
  rw[List.eraseIdxIfInBounds_toArray]
 ·have:=qle xs k
  lia
def q5p:V->List V->Hp->VK->Prop:=λx vs H Q=>∃l xs,x=.ref l/\vs=[]/\H l=some (.lst xs)/\Q .non (upd H l (.lst []))
theorem qwj:MtM X "list.clear" q5p:=by
 intro pins s σ H x vs v us Q I rx rv h
 obtain⟨l,xs,rfl,rfl,hH,q⟩:=h
 cases rx
 have hus:=rv.zero
 subst hus
 obtain⟨z,its,n,r,hl,e⟩:=I.lstM hH
 refine call_meets F.slot_list_clear ⟨_,e,rfl⟩ F.entry_list_clear (F.args_list_clear_1 _) (AutoSeq1.list_clear_list_0 l its.toArray n (by rw[List.size_toArray];lia)) ⟨e,?_⟩
 exact⟨.non,_,I.lset (its':=[]) (ys:=[]) hH e rfl .nil (Nat.zero_le _),rfl,q⟩
def rCat:R2:=λx y H Q=>∃l b xs zs,x=.ref l/\y=.ref b/\H l=some (.lst xs)/\H b=some (.lst zs)/\xs.length+zs.length<=sizeLine/\∀p,H p=none->Q (.ref p) (upd H p (.lst (xs++zs)))
theorem q4e:OpR X (binaryOp .Add) rCat:=by
 intro pins s σ H x y v u Q I rx ry h
 obtain⟨l,b,xs,zs,rfl,rfl,hH,hB,hz,q⟩:=h
 cases rx
 cases ry
 obtain⟨z,its,n,r,hl,e⟩:=I.lstM hH
 obtain⟨z2,its2,n2,r2,hl2,e2⟩:=I.lstM hB
 refine PySem.P.add_list e e2 ?_ (by rw[List.size_toArray,List.size_toArray];lia)
 have ea:its.toArray++its2.toArray=(its++its2).toArray:=by simp
 rw[ea]
 exact⟨.ref _,_,I.lnew (t':=s.toks) (r.append r2) (by rw[List.length_append];lia),rfl,q _ I.fresh⟩
end
section
variable {prog:Program} {w:World} {A:Around} {E:Value->Shared->Prop} {s:Shared}
end
section
variable {X:Cx}
end
end L2
namespace L2
open PySem PySem.Spec PyProof.Rows
section
variable {κ:Type} [DecidableEq κ]
def valV(kvs:List (κ×V))(k:κ):Option V:=(kvs.find? λkv=>decide (kv.1=k)).map (·.2)
def putK(kvs:List (κ×V))(k:κ)(v:V):List (κ×V) :=
 if (kvs.any λkv=>decide (kv.1=k))=true then kvs.map (λkv=>if kv.1=k then (kv.1,v) else kv) else kvs++[(k,v)]
theorem qfq{p:κ×V}{r:List (κ×V)}{k:κ}(e:p.1=k):valV (p::r) k=some p.2:=by simp[valV,List.find?_cons,e]
theorem qfp{p:κ×V}{r:List (κ×V)}{k:κ}(e:¬ p.1=k):valV (p::r) k=valV r k:=by simp[valV,List.find?_cons,e]
theorem qpl(k:κ):∀kvs:List (κ×V),(kvs.any λkv=>decide (kv.1=k))=(valV kvs k).isSome
|[]=>rfl
|p::r=>by
  rw[List.any_cons]
  by_cases e:p.1=k
  ·simp only[qfq e,decide_eq_true e,Bool.true_or,Option.isSome_some]
  ·rw[qfp e,decide_eq_false e,Bool.false_or];exact qpl k r
theorem qhh(kvs:List (κ×V))(k:κ)(v:V):(putK kvs k v).length<=kvs.length+1:=by
 unfold putK
 split
 ·rw[List.length_map];lia
 ·rw[List.length_append,List.length_cons,List.length_nil];lia
theorem RelO.isSome_eq{o:Option V}{u:Option Value}(r:RelO o u):o.isSome=u.isSome:=by
 cases o with
|none=>cases u with
 |none=>rfl
 |some _=>exact(show False from r).elim
|some _=>cases u with
 |none=>exact(show False from r).elim
 |some _=>rfl
theorem RelO.getD{o:Option V}{u:Option Value}{d:V}{d':Value}(r:RelO o u)(rd:RelV d d'):RelV (o.getD d) (u.getD d'):=by
 cases o with
|none=>cases u with
 |none=>exact rd
 |some _=>exact(show False from r).elim
|some _=>cases u with
 |none=>exact(show False from r).elim
 |some _=>exact r
theorem KV.val{kvs:List (κ×V)}{vs:List (κ×Value)}(r:KV kvs vs)(k:κ):RelO (valV kvs k) (valueAt vs k):=by
 unfold KV at r
 induction r with
|nil=>exact True.intro
|@cons p q ps qs h t ih =>
  obtain⟨h1,h2⟩:=h
  by_cases e:p.1=k
  ·have e':q.1=k:=h1.symm.trans e
   have b:valueAt (q::qs) k=some q.2:=by simp[valueAt,List.find?_cons,e']
   rw[qfq e,b];exact h2
  ·have e':¬ q.1=k:=λz=>e (h1.trans z)
   have b:valueAt (q::qs) k=valueAt qs k:=by simp[valueAt,List.find?_cons,e']
   rw[qfp e,b];exact ih
theorem KV.any{kvs:List (κ×V)}{vs:List (κ×Value)}(r:KV kvs vs)(k:κ):(kvs.any λkv=>decide (kv.1=k))=vs.any λkv=>decide (kv.1=k):=by
 unfold KV at r
 induction r with
|nil=>rfl
|cons h t ih=>rw[List.any_cons,List.any_cons,ih,h.1]
theorem KV.repl{kvs:List (κ×V)}{vs:List (κ×Value)}(r:KV kvs vs)(k:κ){y:V}{u:Value}(ry:RelV y u) :
  KV (kvs.map λkv=>if kv.1=k then (kv.1,y) else kv) (vs.map λkv=>if kv.1=k then (kv.1,u) else kv):=by
 unfold KV at r ⊢
 induction r with
|nil=>exact .nil
|@cons p q ps qs h t ih =>
  rw[List.map_cons,List.map_cons]
  refine .cons ?_ ih
  obtain⟨h1,h2⟩:=h
  by_cases e:p.1=k
  ·rw[if_pos e,if_pos (h1.symm.trans e)];exact⟨h1,ry⟩
  ·rw[if_neg e,if_neg (λz=>e (h1.trans z))];exact⟨h1,h2⟩
theorem KV.put{kvs:List (κ×V)}{vs:List (κ×Value)}(r:KV kvs vs)(k:κ){y:V}{u:Value}(ry:RelV y u):KV (putK kvs k y) (stored vs k u):=by
 unfold putK stored
 rw[r.any k]
 by_cases e:(vs.any λkv=>decide (kv.1=k))=true
 ·rw[if_pos e,if_pos e];exact r.repl k ry
 ·rw[if_neg e,if_neg e];exact Paired.snoc r ⟨rfl,ry⟩
theorem KV.length{kvs:List (κ×V)}{vs:List (κ×Value)}(r:KV kvs vs):kvs.length=vs.length:=Paired.length r
end
theorem qv8{P:Program}{w:World}{k:Key}{u:Value}(r:RelV (kV k) u):(qbu P w).is k u=true:=by
 cases k with
|inl i=>obtain⟨t,e⟩:=(show ∃t,u=Value.int i t from r);subst e;exact qnf P w i t
|inr x=>obtain⟨t,e⟩:=(show ∃t,u=Value.str x t from r);subst e;exact qng P w x t
theorem qlb{P:Program}{w:World}:∀ {ks:List Key} {us:List Value},Vals (ks.map kV) us->ItemsAre (qbu P w) ks us
|[],_,r=>by rw[List.map_nil] at r;cases r;exact .nil
|k::ks,_,r=>by
  rw[List.map_cons] at r
  cases r with
 |cons h t=>exact .cons (qv8 h) (qlb t)
abbrev KT(H:Hp):List (List Key×V)->List (List Key×Addr×Value)->Prop:=Paired λp q=>p.1=q.1/\H q.2.1=some (.tup (p.1.map kV))/\RelV p.2 q.2.2
theorem KT.val{H:Hp}{kvs:List (List Key×V)}{xs:List (List Key×Addr×Value)}(r:KT H kvs xs)(k:List Key):RelO (valV kvs k) ((atKey xs k).map (·.2)):=by
 induction r with
|nil=>exact True.intro
|@cons p q ps qs h t ih =>
  obtain⟨h1,_,h2⟩:=h
  by_cases e:p.1=k
  ·have e':q.1=k:=h1.symm.trans e
   have b:atKey (q::qs) k=some q.2:=by simp[atKey,List.find?_cons,e']
   rw[qfq e,b];exact h2
  ·have e':¬ q.1=k:=λz=>e (h1.trans z)
   have b:atKey (q::qs) k=atKey qs k:=by simp[atKey,List.find?_cons,e']
   rw[qfp e,b];exact ih
theorem KT.repl{H:Hp}{kvs:List (List Key×V)}{xs:List (List Key×Addr×Value)}(r:KT H kvs xs)(k:List Key){y:V}{u:Value}(ry:RelV y u) :
  KT H (kvs.map λkv=>if kv.1=k then (kv.1,y) else kv) (xs.map (putAt k u)):=by
 induction r with
|nil=>exact .nil
|@cons p q ps qs h t ih =>
  rw[List.map_cons,List.map_cons]
  refine .cons ?_ ih
  obtain⟨h1,h2,h3⟩:=h
  unfold putAt
  by_cases e:p.1=k
  ·rw[if_pos e,if_pos (h1.symm.trans e)];exact⟨h1,h2,ry⟩
  ·rw[if_neg e,if_neg (λz=>e (h1.trans z))];exact⟨h1,h2,h3⟩
theorem KT.put{H:Hp}{kvs:List (List Key×V)}{xs:List (List Key×Addr×Value)}(r:KT H kvs xs)(k:List Key){b:Addr}{y:V}{u:Value}(hb:H b=some (.tup (k.map kV)))(ry:RelV y u) :
  KT H (putK kvs k y) (storedH xs k b u):=by
 have e:(kvs.any λkv=>decide (kv.1=k))=(atKey xs k).isSome:=by
  rw[qpl,(r.val k).isSome_eq,Option.isSome_map]
 unfold putK storedH
 rw[e]
 by_cases q:(atKey xs k).isSome=true
 ·rw[if_pos q,if_pos q];exact r.repl k ry
 ·rw[if_neg q,if_neg q];exact Paired.snoc r ⟨rfl,hb,ry⟩
theorem KT.keeps{H H':Hp}{kvs:List (List Key×V)}{xs:List (List Key×Addr×Value)}(r:KT H kvs xs)(ht:∀b ys,H b=some (.tup ys)->H' b=some (.tup ys)):KT H' kvs xs :=
 Paired.mapP r λ_ _ z=>⟨z.1,ht _ _ z.2.1,z.2.2⟩
section
variable {P:Program} {w:World} {H:Hp} {h:Heap} {a:Addr}
theorem q5r{u:HO}(ok:HOk P w H h)(e:Rd H a u):ObjOk P w H h a u:=e.ok ok
theorem qsj{kvs:List (Key×V)}(ok:HOk P w H h)(e:Rd H a (.dK kvs)):kvs.length<=sizeLine/\(a==sysModules)=false/\∃vs,KV kvs vs/\h.DictOf (qbu P w) a vs :=
 show ObjOk P w H h a (.dK kvs) from q5r ok e
theorem q6z{kvs:List (Key×V)}(ok:HOk P w H h)(e:H a=some (.dK kvs)):kvs.length<=sizeLine/\(a==sysModules)=false/\∃vs,KV kvs vs/\h.DictOf (qbu P w) a vs:=qsj ok (.inl e)
theorem qlc{ks:List Key}(ok:HOk P w H h)(e:H a=some (.tup (ks.map kV))):(tupleKind (qbu P w)).is h ks a:=by
 obtain⟨_,its,r,o,h1,h2,n,h3⟩:=(show ObjOk P w H h a (.tup (ks.map kV)) from ok a _ e)
 exact⟨o,its.toArray,n,h1,h2,h3,by simpa using qlb r⟩
theorem qp8{kvs:List (List Key×V)}(ok:HOk P w H h)(e:Rd H a (.dT kvs)):kvs.length<=sizeLine/\(a==sysModules)=false /\
  ∃xs,KT H kvs xs/\h.DictOfH (tupleKind (qbu P w)) a xs:=by
 obtain⟨z,y,xs,r,o,es,ep,h1,h2,h3,h4,h5⟩:=(show ObjOk P w H h a (.dT kvs) from q5r ok e)
 refine⟨z,y,xs,r,o,es,ep,h1,h2,h3,h4,λx hx=>?_,h5⟩
 have all:∀ {l:List (List Key×V)} {m:List (List Key×Addr×Value)},KT H l m->∀x∈m,(tupleKind (qbu P w)).is h x.1 x.2.1:=by
  intro l m q
  induction q with
 |nil=>intro x hx;exact nomatch hx
 |@cons p q ps qs hq t ih =>
   intro x hx
   rcases List.mem_cons.mp hx with e|hx
   ·subst e
    exact qlc ok (by rw[←hq.1];exact hq.2.1)
   ·exact ih x hx
 exact all r x hx
theorem q3r{kvs:List (List Key×V)}(ok:HOk P w H h)(e:H a=some (.dT kvs)):kvs.length<=sizeLine/\(a==sysModules)=false /\
  ∃xs,KT H kvs xs/\h.DictOfH (tupleKind (qbu P w)) a xs:=qp8 ok (.inl e)
end
def DGet(H:Hp)(a:Addr)(y:V)(r:Option V):Prop :=
 (∃kvs k,Rd H a (.dK kvs)/\y=kV k/\r=valV kvs k)\/∃kvs k b,Rd H a (.dT kvs)/\y=.ref b/\H b=some (.tup (k.map kV))/\r=valV kvs k
def DPut(H:Hp)(a:Addr)(y v:V)(H':Hp):Prop :=
 (∃kvs k,H a=some (.dK kvs)/\y=kV k/\kvs.length<sizeLine/\H'=upd H a (.dK (putK kvs k v))) \/
 ∃kvs k b,H a=some (.dT kvs)/\y=.ref b/\H b=some (.tup (k.map kV))/\kvs.length<sizeLine/\H'=upd H a (.dT (putK kvs k v))
theorem DGet.k{H:Hp}{a:Addr}{kvs:List (Key×V)}{k:Key}(e:H a=some (.dK kvs)):DGet H a (kV k) (valV kvs k):=.inl ⟨kvs,k,.inl e,rfl,rfl⟩
theorem DPut.t{H:Hp}{a b:Addr}{kvs:List (List Key×V)}{k:List Key}{v:V}(e:H a=some (.dT kvs))(eb:H b=some (.tup (k.map kV)))(hl:kvs.length<sizeLine) :
  DPut H a (.ref b) v (upd H a (.dT (putK kvs k v))):=.inr ⟨kvs,k,b,e,rfl,eb,hl,rfl⟩
section
variable {X:Cx} {pins:List (Addr×Obj)} {σ:St} {H:Hp} {s:Shared} {a:Addr} {y v:V} {u r:Value} {o:Option V} {A:Around} {E:Value->Shared->Prop}
theorem Inv.big(I:Inv X pins σ H s):sysModules<s.heap.objs.size:=by
 have h:mainGlobals<s.heap.objs.size:=(I.mod.glob.keeps I.bk).lt
 exact Nat.lt_trans (by decide) h
theorem qsb{Q:Value->Shared->Prop}(hu:A.units+1<cLine)(I:Inv X pins σ H s)(g:DGet H a y (some v))(ry:RelV y u)(h:∀w' s',Inv X pins σ H s'->RelV v w'->Q w' s') :
  wpAny (model X.prog X.w) A (getItem (.ref a) u) Q E s:=by
 rcases g with ⟨kvs,k,e,ey,l⟩|⟨kvs,k,b,e,ey,eb,l⟩
 ·subst ey
  obtain⟨z,hd,vs,rel,dd⟩:=qsj I.hok e
  obtain⟨w',hw,rw'⟩:=RelO.some_of (v:=v) (o:=valueAt vs k) (by rw[l];exact rel.val k)
  exact wpAny_getItem_of (qv8 ry) dd.mapOf hw (h w' _ (I.tok _) rw')
 ·subst ey
  cases (show u=Value.ref b from ry)
  obtain⟨z,hd,xs,rel,dd⟩:=qp8 I.hok e
  obtain⟨w',hw,rw'⟩:=RelO.some_of (v:=v) (o:=(atKey xs k).map (·.2)) (by rw[l];exact rel.val k)
  obtain⟨p,hp,hp2⟩:=Option.map_eq_some_iff.mp hw
  refine wpAny_getItem_heap (tupleKind_room_in1 hu) (qlc I.hok eb) dd hp ?_
  rw[hp2]
  exact h w' _ (I.tok _) rw'
theorem qmq{h':Heap}{t':Nat}{ob:HO}(I:Inv X pins σ H s)(mu:Mut (H a))(hs:Heap.SameBut a s.heap h')(he:∃q,h'.get? a=some q)(new:ObjOk X.prog X.w (upd H a ob) h' a ob) :
  Inv X pins σ (upd H a ob) { s with heap:=h',toks:=t' } :=
 I.write (x:=a) (e:=a) mu (.inl rfl) (λb q hb z=>(hs.2 b hb).trans z) he new
theorem q3q{P:Program}{w:World}{H':Hp}{h':Heap}{kvs:List (Key×V)}{vs:List (Key×Value)}(z:kvs.length<=sizeLine)(hd:(a==sysModules)=false)(rel:KV kvs vs)(dd:h'.DictOf (qbu P w) a vs) :
  ObjOk P w H' h' a (.dK kvs):=⟨z,hd,vs,rel,dd⟩
theorem qsc{H':Hp}{Q:Unit->Shared->Prop}(hu:A.units+1<cLine)(I:Inv X pins σ H s)(g:DPut H a y v H')(ry:RelV y u)(rv:RelV v r)(h:∀s',Inv X pins σ H' s'->Q () s') :
  wpAny (model X.prog X.w) A (setItem (.ref a) u r) Q E s:=by
 rcases g with ⟨kvs,k,e,ey,l,eH⟩|⟨kvs,k,b,e,ey,eb,l,eH⟩
 ·subst ey eH
  obtain⟨z,hd,vs,rel,dd⟩:=q6z I.hok e
  have hz:vs.length<=sizeLine:=by rw[←rel.length];exact z
  have hl:(putK kvs k v).length<=sizeLine:=by have:=qhh kvs k v;lia
  refine wpAny_setItem_pairs (hsz:=hz) (qv8 ry) dd λh' dd' hs=>h _ ?_
  have he:∃q,h'.get? a=some q:=let ⟨q,_,_,hq,_⟩:=dd';⟨q,hq⟩
  exact qmq I (by rw[e];exact True.intro) hs he (q3q hl hd (rel.put k rv) dd')
 ·subst ey eH
  cases (show u=Value.ref b from ry)
  obtain⟨z,hd,xs,rel,dd⟩:=q3r I.hok e
  have hz:xs.length<=sizeLine:=by rw[←Paired.length rel];exact z
  have hl:(putK kvs k v).length<=sizeLine:=by have:=qhh kvs k v;lia
  refine wpAny_setItem_heap (hsz:=hz) (tupleKind_room_in1 hu) (qlc I.hok eb) dd λh' dd' hs=>h _ ?_
  obtain⟨q,es,ep,hq,h2,h3,h4,_,h5⟩:=dd'
  refine qmq I (by rw[e];exact True.intro) hs ⟨q,hq⟩ ⟨hl,hd,_,(rel.put k eb rv).keeps λc ys ec=>?_,q,es,ep,hq,h2,h3,h4,h5⟩
  rw[qa9 (q4c ec e (λz=>nomatch z))]
  exact ec
end
section
variable {X:Cx} {pins:List (Addr×Obj)} {σ:St} {H:Hp} {s:Shared} {a:Addr} {kvs:List (Key×V)} {k:Key} {u:Value} {A:Around} {E:Value->Shared->Prop}
end
def NoSl(i:Expr):Prop:=∀ov iv,subscripted i false ov iv=operate [ov,iv] (getItem ov iv)
theorem q2o{prog:Program}{w:World}{A:Around}{E:Value->Shared->Prop}{s:Shared}{env:Env}{value slice:Expr}{pos:Pos}{T id:String}{Q:Value->Shared->Prop}
  (hl:typeLookup (.type T) "__getitem__" = pure (some (.builtin id))) (hs:NoSl slice)
  (h:wpAny (model prog w) A (eval value env) (λo s₁=>wpAny (model prog w) A (eval slice env) (λi s₂=>s₂.TypeIs o T/\wpAny (model prog w) A (getItem o i) Q E s₂) E s₁) E s) :
  wpAny (model prog w) A (eval (.Subscript value slice pos) env) Q E s:=by
 refine Subscript_ (wpAny_mono h (λo s₁ h₁=>wpAny_mono h₁ (λi s₂ h₂=>?_) λ_ _ x=>x) λ_ _ x=>x)
 obtain⟨hT,h₂⟩:=h₂
 unfold subscriptTail
 refine wpAny_bind ?_
 rw[getitemInPython_of_ne hT.not_modules]
 refine wpAny_bind (wpAny_specialOf hT hl ?_)
 have fin:wpAny (model prog w) A (subscripted slice false o i) (λr s₃=>wpAny (model prog w) A (letTemporaryGo value o r >>= λ_=>pure r) Q E s₃) E s₂:=by
  rw[hs o i]
  exact wpAny_operating (wpAny_mono h₂ (λr s₃ h₃=>wpAny_bind (wpAny_letTemporaryGo (wpAny_pure h₃))) λ_ _ x=>x)
 first
 |exact wpAny_pure (wpAny_bind fin)
 |exact wpAny_bind (wpAny_pure (wpAny_bind fin))
 |exact wpAny_bind fin
theorem qms{X:Cx}{pins:List (Addr×Obj)}{σ:St}{H:Hp}{s:Shared}{a:Addr}{y:V}{o:Option V}(I:Inv X pins σ H s)(g:DGet H a y o):s.TypeIs (.ref a) "dict" := by
 rcases g with ⟨kvs,k,e,_,_⟩|⟨kvs,k,b,e,_,_,_⟩
 ·obtain⟨_,_,vs,_,dd⟩:=qsj I.hok e
  exact dd.typeIs
 ·obtain⟨_,_,xs,_,dd⟩:=qp8 I.hok e
  exact dd.typeIs
def q55(td ty:TE):TE:=λσ H Q=>td σ H λx H1=>ty σ H1 λy H2=>∃a v,x=.ref a/\DGet H2 a y (some v)/\Q v H2
def q52(td ty tv:TE):TS:=λD σ H=>tv σ H λv H1=>td σ H1 λx H2=>ty σ H2 λy H3=>∃a H4,x=.ref a/\DPut H3 a y v H4/\D.nx σ H4
section
variable {X:Cx} {o i e value:Expr} {pos pos' tpos:Pos} {td ty tv:TE}
theorem q1f(hu:X.A.units+1<cLine)(ho:PE X o td)(hi:PE X i ty)(hs:NoSl i):PE X (.Subscript o i pos) (q55 td ty):=by
 intro pins s σ H Q I h
 refine q2o PySem.F.slot_dict_getitem.lookup hs (thn (ho pins s σ H _ I h) λu s1 ⟨x,H1,I1,rx,q1⟩=>thn (hi pins s1 σ H1 _ I1 q1) λiv s2 ⟨y,H2,I2,ry,a,v,ex,g,q2⟩=>?_)
 subst ex
 obtain rfl:u=Value.ref a:=rx
 exact⟨qms I2 g,qsb hu I2 g ry λw' s3 I3 rw'=>⟨v,H2,I3,rw',q2⟩⟩
theorem q1o(hu:X.A.units+1<cLine)(ho:PE X o td)(hi:PE X i ty)(hv:PE X value tv)(hs:swapsWith value (some (.Subscript o i pos')) pos.line X.env=pure false) :
  PS X (.Assign [.Subscript o i pos'] value pos) (q52 td ty tv):=by
 intro pins s σ H D I h
 refine wpAny_Assign_Subscript (thn (hv pins s σ H _ I h) λr s1 ⟨v,H1,I1,rv,q1⟩=>thn (ho pins s1 σ H1 _ I1 q1) λu s2 ⟨x,H2,I2,rx,q2⟩=>thn (hi pins s2 σ H2 _ I2 q2) λiv s3 ⟨y,H3,I3,ry,a,H4,ex,g,q3⟩=>?_) hs
 subst ex
 obtain rfl:u=Value.ref a:=rx
 exact qsc hu I3 g ry rv λs4 I4=>⟨σ,H4,I4,q3⟩
end
theorem qon{P:Program}{w:World}{H:Hp}(h:Heap)(hb:sysModules<h.objs.size):ObjOk P w H (h.push { cls:=.type "dict",data:=.dict #[] }) h.objs.size (.dT []) :=
 ⟨Nat.zero_le _,beq_eq_false_iff_ne.mpr (Ne.symm (Nat.ne_of_lt hb)),[],.nil,_,#[],0,Heap.get?_push_size _ rfl,⟨rfl,rfl,rfl⟩,rfl,rfl,List.nodup_nil⟩
def qzf:TE:=λ_ H Q=>∀p,H p=none->Q (.ref p) (upd H p (.dT []))
section
variable {X:Cx} {pos:Pos}
theorem qw3:PE X (.Dict [] [] pos) qzf:=λpins s σ H Q I h =>
 wpAny_Dict_empty ⟨.ref s.heap.objs.size,_,I.laid (a:=s.heap.objs.size) (o:=.dT []) (t':=s.toks) (λ_ _ q=>Heap.get?_push_of_some _ q) (Nat.le_refl _) (qon s.heap I.big),rfl,h _ (I.hok.fresh (Nat.le_refl _))⟩
end
def qzh:List (TE×TE)->St->Hp->(List (V×V)->Hp->Prop)->Prop
|[],_,H,Q=>Q [] H
|(tk,tv)::r,σ,H,Q=>tk σ H λx H1=>tv σ H1 λy H2=>qzh r σ H2 λps H3=>Q ((x,y)::ps) H3
abbrev VV:List (V×V)->List (Value×Value)->Prop:=Paired λp q=>RelV p.1 q.1/\RelV p.2 q.2
def PPs(X:Cx)(pos:Pos)(keys:List (Option Expr))(values:List Expr)(trs:List (TE×TE)):Prop :=
 ∀(pins:List (Addr×Obj)) (s:Shared) (σ:St) (H:Hp) (Q:List (V×V)->Hp->Prop),Inv X pins σ H s->qzh trs σ H Q ->
  wpAny (model X.prog X.w) X.A (evalPairs (pairTrees keys values X.env pos)) (λvs s'=>∃ps H',Inv X pins σ H' s'/\VV ps vs/\Q ps H') X.xe s
theorem q1n{X:Cx}{pos:Pos}:PPs X pos [] [] []:=λpins s σ H Q I h=>pairTrees_nil_walk ⟨[],H,I,.nil,h⟩
theorem qw8{X:Cx}{pos:Pos}{k v:Expr}{ks:List (Option Expr)}{vs:List Expr}{tk tv:TE}{trs:List (TE×TE)}(hk:PE X k tk)(hv:PE X v tv)(hr:PPs X pos ks vs trs) :
  PPs X pos (some k::ks) (v::vs) ((tk,tv)::trs):=λpins s σ H Q I h =>
 pairTrees_cons_walk (thn (hk pins s σ H _ I h) λu s1 ⟨x,H1,I1,rx,q1⟩=>thn (hv pins s1 σ H1 _ I1 q1) λw2 s2 ⟨y,H2,I2,ry,q2⟩ =>
  thn (hr pins s2 σ H2 _ I2 q2) λws s3 ⟨ps,H3,I3,rel,q3⟩=>⟨(x,y)::ps,H3,I3,.cons ⟨rx,ry⟩ rel,q3⟩)
structure M1(X:Cx)(o:Expr)(m:Str)(apos:Pos)(e:Expr)(cpos:Pos):Prop where
 base:attributeBase o m X.env (eval o X.env)=eval o X.env
 few:((backTo cpos (starEach [e] X.env)).all (λx=>!x.1)&&(backToKw cpos (keywordEach [] X.env)).all (λx=>x.1.isSome)
  && decide (([e]:List Expr).length+([]:List Keyword).length+(if ([]:List Keyword).isEmpty then 0 else 1)<30))=true
 line:(apos.endLine==cpos.line)=true
 trees:backTo cpos (starEach [e] X.env)=[(false,eval e X.env)]
structure M2(X:Cx)(o:Expr)(m:Str)(apos:Pos)(e f:Expr)(cpos:Pos):Prop where
 base:attributeBase o m X.env (eval o X.env)=eval o X.env
 few:((backTo cpos (starEach [e,f] X.env)).all (λx=>!x.1)&&(backToKw cpos (keywordEach [] X.env)).all (λx=>x.1.isSome)
  && decide (([e,f]:List Expr).length+([]:List Keyword).length+(if ([]:List Keyword).isEmpty then 0 else 1)<30))=true
 line:(apos.endLine==cpos.line)=true
 trees:backTo cpos (starEach [e,f] X.env)=[(false,eval e X.env),(false,eval f X.env)]
def IsD(H:Hp)(a:Addr):Prop:=(∃kvs,Rd H a (.dK kvs))\/∃kvs,Rd H a (.dT kvs)
theorem q3x{X:Cx}{pins:List (Addr×Obj)}{σ:St}{H:Hp}{s:Shared}{a:Addr}(I:Inv X pins σ H s)(d:IsD H a) :
  s.TypeIs (.ref a) "dict" /\ (∀b,Value.ref a=.ref b->∃ob,s.heap.get? b=some ob/\ob.dict=none)/\(a==sysModules)=false:=by
 rcases d with ⟨kvs,e⟩|⟨kvs,e⟩
 ·obtain⟨_,hd,vs,_,dd⟩:=qsj I.hok e
  refine⟨dd.typeIs,λb q=>?_,hd⟩
  cases q
  obtain⟨ob,_,_,h1,h2,_⟩:=dd
  exact⟨ob,h1,h2.2.1⟩
 ·obtain⟨_,hd,xs,_,dd⟩:=qp8 I.hok e
  refine⟨dd.typeIs,λb q=>?_,hd⟩
  cases q
  obtain⟨ob,_,_,h1,h2,_⟩:=dd
  exact⟨ob,h1,h2.2.1⟩
section
variable {X:Cx} {pins:List (Addr×Obj)} {σ:St} {H:Hp} {s:Shared} {a:Addr} {y d:V} {u r:Value} {o:Option V} {A:Around} {E:Value->Shared->Prop}
theorem q3o{Q:Value->Shared->Prop}(hu:A.units+1<cLine)(I:Inv X pins σ H s)(g:DGet H a y o)(ry:RelV y u)(h:∀w' s',Inv X pins σ H s'->RelV (o.getD .non) w'->Q w' s') :
  wpAny (model X.prog X.w) A (call (.builtin "dict.get") [.ref a,u]) Q E s:=by
 rcases g with ⟨kvs,k,e,ey,l⟩|⟨kvs,k,b,e,ey,eb,l⟩
 ·subst ey
  obtain⟨z,hd,vs,rel,dd⟩:=qsj I.hok e
  refine call_meetsIn PySem.F.slot_dict_get dd.typeIs PySem.F.entry_dict_get (PySem.F.args_dict_get_2 _ _) (meets_dict_get (qbu X.prog X.w) a (qv8 ry) hd) ⟨_,dd.mapOf,h _ _ (I.tok _) ?_⟩
  rw[l]
  exact(rel.val k).getD rfl
 ·subst ey
  cases (show u=Value.ref b from ry)
  obtain⟨z,hd,xs,rel,dd⟩:=qp8 I.hok e
  refine call_meetsIn PySem.F.slot_dict_get dd.typeIs PySem.F.entry_dict_get (PySem.F.args_dict_get_2 _ _) (meetsH_dict_get (tupleKind (qbu X.prog X.w)) a b hd) ⟨tupleKind_room_in1 hu,k,xs,qlc I.hok eb,dd,h _ _ (I.tok _) ?_⟩
  rw[l]
  exact(rel.val k).getD rfl
end
def qze(td ty:TE):TE:=λσ H Q=>td σ H λx H1=>∃a,x=.ref a/\IsD H1 a/\ty σ H1 λy H2=>∃o,DGet H2 a y o/\Q (o.getD .non) H2
section
variable {X:Cx} {o e f:Expr} {apos cpos:Pos} {td ty tx:TE}
theorem qw1(hu:X.A.units+1<cLine)(ho:PE X o td)(he:PE X e ty)(m:M1 X o "get" apos e cpos):PE X (.Call (.Attribute o "get" apos) [e] [] cpos) (qze td ty):=by
 intro pins s σ H Q I h
 refine wpAny_Call_method m.base m.few m.line PySem.F.plainAttrs_dict PySem.F.slot_dict_get PySem.F.type_dict_get (thn (ho pins s σ H _ I h) λu s1 ⟨x,H1,I1,rx,a,ex,d,q1⟩=>?_)
 subst ex
 obtain rfl:u=Value.ref a:=rx
 obtain⟨t1,t2,_⟩:=q3x I1 d
 refine⟨t1,t2,?_⟩
 rw[m.trees]
 refine Calls.callWith_builtin rfl (Calls.evalArgs_plain (Calls.spliced_cons (thn (he pins s1 σ H1 _ I1 q1) λiv s2 ⟨y,H2,I2,ry,ov,g,q2⟩=>Calls.spliced_nil ?_)))
 exact q3o hu I2 g ry λw' s3 I3 rw'=>⟨_,H2,I3,rw',q2⟩
end
section
variable {X:Cx} {pins:List (Addr×Obj)} {σ:St} {H:Hp} {s:Shared} {a:Addr} {kvs:List (Key×V)} {A:Around} {E:Value->Shared->Prop}
end
section
variable {X:Cx} {pins:List (Addr×Obj)} {σ:St} {H:Hp} {s:Shared} {a:Addr} {y:V} {u:Value} {A:Around} {E:Value->Shared->Prop}
end
end L2
namespace Att
open PySem PySem.W PySem.Calls PyProof.Rows
theorem qhd{P:Params}{h:Heap}:∀(ns:List Int) (vs:List Value),WellAll P h vs (ns.map WData.int)->IntsAre vs ns:=by
 intro ns
 induction ns with
|nil =>
  intro vs w
  rw[List.map_nil] at w
  cases w
  exact .nil
|cons n ns ih =>
  intro vs w
  rw[List.map_cons] at w
  cases w with
 |cons a b =>
   cases a
   exact .cons _ _ (ih _ b)
theorem quh{l:OpenLaw}{n:Nat}(hn:l.most=some n){P:Params}{h:Heap}{args:List WData}{vals:List Value}
  (hpre:l.row.toRowW.claim.pre args=true) (hwl:WellAll P h vals args) :
  ∃a vs ns,vals=[Value.ref a]/\args=[WData.list (ns.map WData.int)]/\h.get? a=some { cls:=.type "list",data:=.seq vs.toArray }/\IntsAre vs ns/\ns.length<=n:=by
 have hsh:WShape.hasAll [] args [.list .int]=true:=(pre_splitW hpre).1
 have hc:l.pre.holds [] { args:=args }=true:=(pre_splitW hpre).2
 obtain⟨d,r,rfl,h1,h2⟩:=hasAllW_cons hsh
 obtain rfl:=hasAllW_nil h2
 obtain⟨xs,rfl,h3⟩:=hasW_list h1
 obtain⟨ns,rfl⟩:=items_int h3
 have hlen:ns.length<=n:=by
  unfold OpenLaw.pre at hc
  have h4:(WTm.not (.lt (.lit (.int (n:Int))) (.len (.arg 0)))).holds [] { args:=[.list (ns.map .int)] }=true:=by
   have h4:=(holds_andW hc).1
   rw[hn] at h4
   exact h4
  have h5:=condW_of h4 (w_not (w_lt w_lit (w_len_list (w_arg rfl))))
  rw[List.length_map] at h5
  refine Nat.le_of_not_lt λq=>?_
  have q':(n:Int)<((ns.length:Nat):Int):=by lia
  first
  |(rw[decide_eq_true q'] at h5;exact absurd h5 (by decide))
  |(simp at h5;lia)
 cases hwl with
|cons w1 w2 =>
  cases w2
  cases w1 with
 |list ho hall=>exact⟨_,_,ns,rfl,rfl,ho,qhd ns _ hall,hlen⟩
theorem qt5(l:OpenLaw)(args:List WData):l.row.toRowW.claim.post args (.bool true) args=true :=
 postW_of (r:=l.row.toRowW) (X:=(true==true))
  (show WShape.has [] (.bool true) .bool=true by first|rfl|decide|simp[WShape.has,WShape.arms,WShape.armsAll])
  (show (WTm.eq .res (.lit (.bool true))).value [] { args:=args,res:=some (.bool true),after:=args }=some (.bool (true==true)) from w_eq_bool (w_res rfl) w_lit) rfl
theorem attach_call{l:OpenLaw}{n:Nat}{q:Program}{loose:List Str}{XP:(Str->Option Value)->Heap->Prop}{YP:World->Heap->Prop}{d:DefRec}
  (hn:l.most=some n) (hdf:d.params.defaults=[])
  (call:∀(w:World) (s₀ s₁:Shared) (mg mb:Str->Option Value) (fa:Addr) (o:Obj) (pm cd doc:Value) (a:Addr) (vs:List Value) (ns:List Int),
   Ground q loose [] XP w s₀ mg mb s₁.heap->YP w s₁.heap ->
   s₁.heap.get? fa=some o->o.data=.func (docDef d.name d.params d.body d.scope pm cd doc)->s₁.heap.CodeRec cd d.name->mg d.name=some (.ref fa) ->
   s₁.heap.get? a=some { cls:=.type "list",data:=.seq vs.toArray }->IntsAre vs ns->ns.length<=n->s₁.gens=#[] ->
   codeAny (model l.prog w) callerA (.call (.ref fa) ⟨[.ref a],[]⟩) (λr s'=>r=.ok (.ret (.bool true))/\OldK s₁.heap s'.heap/\s'.os=s₁.os/\AllBare s'.gens) s₁) :
  WalkO q loose XP YP l.row.toRowW d [] (λf vs=>PySem.call f vs):=by
 intro w s₀ s₁ mg mb G Y fa o pm cd doc dV kV ho hd hcd hD hmg hg args vals as hpre hlay hrd hwl hlo
 obtain rfl:dV=.none:=Dflts.none hD hdf
 obtain rfl:kV=.none:=Dflts.noKw hD
 obtain⟨a,vs,ns,rfl,rfl,hobj,hints,hlen⟩:=quh hn hpre hwl
 refine enter_call (codeAny_mono (call w s₀ s₁ mg mb fa o pm cd doc a vs ns G Y ho (fd_plain hd) hcd hmg hobj hints hlen hg) λr s' hq=>?_)
 obtain⟨rfl,h2,h3,h4⟩:=hq
 exact⟨.inl ⟨.bool true,.bool true,[],rfl,λ_=>rfl,.bool true,qt5 l _,λ_=>⟨List.Pairwise.nil,λ_ hm=>(nomatch hm)⟩⟩,h2,h3,h4⟩
section
variable {prog:Program} {w:World} {A:Around} {E:Value->Shared->Prop} {s:Shared} {K:Frag}
end
end Att
namespace L2
open PySem PySem.Spec PyProof.Rows
theorem ql9:∀ {vs:List Value} {ns:List Int},IntsAre vs ns->Vals (ns.map V.int) vs
|_,_,.nil=>.nil
|_,_,.cons n t h=>.cons ⟨t,rfl⟩ (ql9 h)
def Only(H:Hp):Prop:=∀b,H b=none\/∃o xs,H b=some (.frz o (.lst xs))
theorem qwd{P:Program}{w:World}{K:PySem.W.Frag}{mg mb:Str->Option Value}{CX:CXT}{k:Nat}{fa a:Addr}{fd:FuncData}{x:Str}{sp:Sp}{s₁:Shared}{vs:List Value}{ns:List Int}
  (KX:K.In s₁.heap) (hns:s₁.heap.Ns mainGlobals mg) (hb:s₁.heap.Ns builtinsNs mb) (hbb:∀x:Str,x≠"__name__" -> mb x=bootBuiltins x) (hlim:s₁.heap.NoLimit) (hg:s₁.gens=#[])
  (ha:s₁.heap.get? a=some { cls:=.type "list",data:=.seq vs.toArray }) (hi:IntsAre vs ns) (hl:ns.length<=sizeLine) (hr:Room k callerA)
  (F:∀base:Heap,K.In base->base.Ns mainGlobals mg->FnOk P w K mg base CX k fa fd [x] sp) (hbind:∀(s:Shared) (u:Value),BindsTo s fd ⟨[u],[]⟩ [(x,u)])
  (hsp:∀H:Hp,Only H->SqL K H a (ns.map V.int)->sp [.ref a] H (λv _=>v=.bl true) λ_ _ _=>False)
  (hCX:∀H e s',CX [] H s₁ (λ_ _ _=>False) e s'->False) :
  codeAny (model P w) callerA (.call (.ref fa) ⟨[.ref a],[]⟩) (λr s'=>r=.ok (.ret (.bool true))/\OldK s₁.heap s'.heap/\s'.os=s₁.os/\AllBare s'.gens) s₁:=by
 have rv:=ql9 hi
 have lenV:=hi.length
 have core:∀H:Hp,Only H->SqL K H a (ns.map V.int)->HOk P w H s₁.heap->(∀b,H b≠none->b=a)->(H a≠none->K.lookup a=none) ->
   codeAny (model P w) callerA (.call (.ref fa) ⟨[.ref a],[]⟩) (λr s'=>r=.ok (.ret (.bool true))/\OldK s₁.heap s'.heap/\s'.os=s₁.os/\AllBare s'.gens) s₁:=by
  intro H hO hS hok hA hK
  have base_of:∀ {b:Addr} {o:Obj},s₁.heap.get? b=some o->H b=none->(hidT s₁.heap H).get? b=some o:=λe n=>qv6 e n
  have noA:∀ {b:Addr} {o:Obj} {es:Array DictEntry} {ep:Nat},s₁.heap.get? b=some o->o.data=.dict es ep->H b=none:=λ{b o es ep} e d=>by
   cases q:H b with
  |none=>rfl
  |some u =>
    have e':b=a:=hA b (by rw[q];simp)
    subst e'
    rw[ha] at e;cases e
    have d':Data.seq vs.toArray _=Data.dict es ep:=d
    cases d'
  have nsK:∀ {b:Addr} {m:Str->Option Value},s₁.heap.Ns b m->(hidT s₁.heap H).Ns b m:=λ{b m} ⟨o,es,ep,e,d,r⟩=>⟨o,es,ep,base_of e (noA e d),d,r⟩
  have hKb:K.In (hidT s₁.heap H):=λb o e=>base_of (KX b o e) (by
   cases q:H b with
  |none=>rfl
  |some u =>
    have e':b=a:=hA b (by rw[q];simp)
    subst e'
    rw[hK (by rw[q];simp)] at e;cases e)
  have hM:Mod K mg (hidT s₁.heap H):=⟨hKb,nsK hns,⟨mb,nsK hb,hbb⟩,let ⟨mc,h1,h2⟩:=hlim;⟨mc,nsK h1,h2⟩⟩
  have e0:Env0 P w K mg (hidT s₁.heap H) callerA [] s₁ H:=⟨rfl,hM,λb o e=>q0x e,Nat.le_of_eq (qs4 _ _),trivial,λb hb=>absurd (show b∈([]:List Addr) from hb) (by simp),hok,.of_eq hg⟩
  refine codeAny_mono ((F _ hKb (nsK hns)).run callerA [] s₁ H ⟨[.ref a],[]⟩ [.ref a] [.ref a] _ _ hr e0 (hbind s₁ (.ref a)) (.cons rfl .nil) (hsp H hO hS)) λr s' h=>?_
  cases r with
 |error e=>exact(hCX H e s' h).elim
 |ok fl =>
   cases fl with
  |next=>exact False.elim h
  |brk=>exact False.elim h
  |cont=>exact False.elim h
  |ret u =>
    obtain⟨v,H',os,bare,un,hok',r',q⟩:=h
    have q':v=.bl true:=q
    subst q'
    obtain rfl:u=Value.bool true:=r'
    refine⟨rfl,OldK.of_keep λb o e=>?_,os,bare⟩
    cases q:H b with
   |none=>exact un.keep b o e q (by intro z;exact absurd (show b∈([]:List Addr) from z) (by simp)) (by simp)
   |some u =>
     rcases hO b with z|⟨ob,xs,z⟩
     ·rw[q] at z;cases z
     ·have z2:=un.frzs b ob _ z
      obtain⟨e1,_⟩:=hok b _ z
      obtain⟨e2,_⟩:=hok' b _ z2
      rw[e] at e1;cases e1
      exact e2
 cases hk:K.lookup a with
|some o =>
  have e:=KX a o hk
  rw[ha] at e
  cases e
  refine core (λ_=>none) (λ_=>.inl rfl) (.inr ⟨_,vs.toArray,_,hk,rfl,rfl,rfl,by rw[List.size_toArray,lenV];exact hl,by simpa using rv⟩) (λb u z=>by have z':(none:Option HO)=some u:=z;cases z') (λb z=>absurd rfl z) λz=>absurd rfl z
|none =>
  refine core (λb=>if b=a then some (.frz { cls:=.type "list",data:=.seq vs.toArray } (.lst (ns.map V.int))) else none) (λb=>?_) (.inl (.inr ⟨{ cls:=.type "list",data:=.seq vs.toArray },if_pos rfl⟩)) (λb u z=>?_) (λb z=>?_) λ_=>hk
  ·by_cases hb:b=a
   ·exact .inr ⟨_,_,if_pos hb⟩
   ·exact .inl (if_neg hb)
  ·by_cases hb:b=a
   ·have z':=(if_pos hb).symm.trans z
    cases z'
    subst hb
    exact⟨ha,by rw[List.length_map];exact hl,vs,_,rv,ha⟩
   ·have z':=(if_neg hb).symm.trans z
    cases z'
  ·by_cases hb:b=a
   ·exact hb
   ·exact absurd (if_neg hb) z
end L2
namespace L2
open PySem PySem.Spec PyProof.Rows
theorem q7v{l:PySem.W.OpenLaw}{n k:Nat}{q:Program}{loose:List Str}{XP:(Str->Option Value)->Heap->Prop}{YP:World->Heap->Prop}{d:DefRec}{K:Params->PySem.W.Frag}{CX:World->CXT}{sp:World->Sp}{x:Str}
  (hn:l.most=some n) (hn2:n<=sizeLine) (hdf:d.params.defaults=[]) (hr:Room k callerA)
  (hY:∀(w:World) (h:Heap),YP w h->(K w.params).In h)
  (F:∀(w:World) (mg:Str->Option Value) (fa:Addr) (h:Heap),(K w.params).In h->h.Ns mainGlobals mg->mg d.name=some (.ref fa) ->
   ∃fd:FuncData,(∀(s:Shared) (u:Value),BindsTo s fd ⟨[u],[]⟩ [(x,u)]) /\
    ∀base:Heap,(K w.params).In base->base.Ns mainGlobals mg->FnOk l.prog w (K w.params) mg base (CX w) k fa fd [x] (sp w))
  (hsp:∀(w:World) (H:Hp) (a:Addr) (ns:List Int),ns.length<=n->Only H->SqL (K w.params) H a (ns.map V.int)->sp w [.ref a] H (λv _=>v=.bl true) λ_ _ _=>False)
  (hCX:∀(w:World) (H:Hp) (s:Shared) (e:Value) (s':Shared),CX w [] H s (λ_ _ _=>False) e s'->False) :
  PySem.W.WalkO q loose XP YP l.row.toRowW d [] (λf vs=>PySem.call f vs):=by
 refine Att.attach_call hn hdf λw s₀ s₁ mg mb fa o pm cd doc a vs ns G Y ho hd hcd hmg hobj hints hlen hg=>?_
 have KX:=hY w _ Y
 obtain⟨fd,hb,hF⟩:=F w mg fa _ KX G.T.g hmg
 exact qwd KX G.T.g G.T.b G.T.builtins G.T.nolimit hg hobj hints (Nat.le_trans hlen hn2) hr hF hb (λH hO hS=>hsp w H a ns hlen hO hS) λH e s'=>hCX w H s₁ e s'
end L2
namespace L2
open PySem PySem.Spec PyProof.Rows
def qch(s:Stmt):Arguments:=match s with
|.FunctionDef _ a _ _ _ _ _ _ _ _=>a
|_=>{ posonlyargs:=[],args:=[],vararg:=none,kwonlyargs:=[],kw_defaults:=[],kwarg:=none,defaults:=[] }
def qbg(s:Stmt):List Stmt:=match s with
|.FunctionDef _ _ b _ _ _ _ _ _ _=>b
|_=>[]
def qae(s:Stmt):Scope:=match s with
|.FunctionDef _ _ _ _ _ _ sc _ _ _=>sc
|_=>{ kind:=.function,names:=[],isGenerator:=false,isCoroutine:=false }
abbrev CX0:CXT:=λ_ _ _ _ _ _=>False
abbrev E0:XK:=λ_ _ _=>False
theorem q68{X:Cx}:qry CX0 X E0:=λ_ _ _ _ _ _ _ h=>h.elim
structure Fun(K:PySem.W.Frag)(x qual:Str)(st:Stmt)(f:Addr)(fd:FuncData):Prop where
 ex:∃(oc:Value) (od:Option Addr) (kV doc pm:Value) (an:Option Addr) (cdv ct:Value) (osl:Array (Option Value)),
  fd=PySem.W.fnOf x qual (qch st) (qbg st) (qae st) .none kV doc pm an cdv ct/\K.lookup f=some ⟨oc,od,.func fd,osl⟩/\PySem.W.codeIn K cdv qual=true
 kp:PySem.W.keepIn K (.ref f)=true
section
variable {P:Program} {w:World} {K:PySem.W.Frag} {mg:Str->Option Value} {base:Heap}
theorem Fun.ok{x qual:Str}{st:Stmt}{f:Addr}{fd:FuncData}{N ps:List Str}{k:Nat}{sp:Sp}(F:Fun K x qual st f fd)(S:FnScope N ps (qae st))(len:∀vs H Q E,sp vs H Q E->vs.length=ps.length)
  (hbody:∀(cdv:Value) (A:Around) (outer:List Env) (s:Shared) (H:Hp) (vs:List V) (Q:VK) (E:XK),Room k (A.deeper (envOfC qual (qae st) s.heap.objs.size f cdv))->sp vs H Q E ->
   ∃t,PSs (cxOf CX0 P w K mg base N qual (qae st) f cdv A outer s H E).nox (qbg st) t/\t { nx:=λ_ H'=>Q .non H',rt:=Q } (start N vs) H):FnOk P w K mg base CX0 (k+1) f fd ps sp:=by
 obtain⟨oc,od,kV,doc,pm,an,cdv,ct,osl,rfl,lk,hcd⟩:=F.ex
 refine q3t lk hcd S len λA outer s H vs Q E hr hsp=>?_
 obtain⟨t,h,q⟩:=hbody cdv A outer s H vs Q E hr hsp
 exact⟨t,h.nox,q⟩
theorem Fun.binds{x qual:Str}{st:Stmt}{f:Addr}{fd:FuncData}{ps:List Str}(F:Fun K x qual st f fd)
  (h:∀(kV doc pm:Value) (an:Option Addr) (cdv ct:Value) (us:List Value),us.length=ps.length->bindArgs (PySem.W.fnOf x qual (qch st) (qbg st) (qae st) .none kV doc pm an cdv ct) ⟨us,[]⟩=pure (ps.zip us)):Binds K fd ps []:=by
 obtain⟨oc,od,kV,doc,pm,an,cdv,ct,osl,rfl,lk,hcd⟩:=F.ex
 exact .all (h kV doc pm an cdv ct)
theorem qor{x qual:Str}{st:Stmt}{f:Addr}{oc:Value}{od an:Option Addr}{osl:Array (Option Value)}{kV doc pm cdv ct:Value}(l:K.lookup f=some ⟨oc,od,.func (PySem.W.fnOf x qual (qch st) (qbg st) (qae st) .none kV doc pm an cdv ct),osl⟩)
  (c:PySem.W.codeIn K cdv qual=true) (k:PySem.W.keepIn K (.ref f)=true):Fun K x qual st f (PySem.W.fnOf x qual (qch st) (qbg st) (qae st) .none kV doc pm an cdv ct):=⟨⟨oc,od,kV,doc,pm,an,cdv,ct,osl,rfl,l,c⟩,k⟩
end
section
variable {X:Cx}
theorem pv(i:Nat){x:Str}{pos:Pos}(hN:X.N[i]?=some x:=by rfl)(hv:Vis X.env.scope x:=by first|exact Or.inl rfl|exact Or.inr (Or.inl rfl)|exact Or.inr (Or.inr rfl))(hd:(x==("__debug__" : Str))=false:=by decide)
  (hcd:(x==("__classdict__" : Str))=false:=by decide):PE X (.Name x pos) (tVar i):=qy3 hN hv hd hcd
end
theorem iteF{A B:Prop}(h:B):if false=true then A else B:=by
 rw[if_neg Bool.false_ne_true]
 exact h
theorem iteT{A B:Prop}(h:A):if true=true then A else B:=by
 rw[if_pos rfl]
 exact h
def Same(H H':Hp):Prop:=∀b o,H b=some o->H' b=some o
theorem Same.refl(H:Hp):Same H H:=λ_ _ h=>h
theorem Same.trans{H H1 H2:Hp}(a:Same H H1)(b:Same H1 H2):Same H H2:=λc o h=>b c o (a c o h)
theorem Same.free{H H':Hp}(e:Same H H'){l:Addr}(h:H' l=Option.none):H l=Option.none:=by
 cases q:H l with
|none=>rfl
|some o =>
  rw[e l o q] at h
  cases h
theorem Same.seq{K:PySem.W.Frag}{H H':Hp}{a:Addr}{xs:List V}(e:Same H H')(h:SqL K H a xs):SqL K H' a xs:=by
 rcases h with (h|⟨o,h⟩)|h
 ·exact .inl (.inl (e _ _ h))
 ·exact .inl (.inr ⟨o,e _ _ h⟩)
 ·exact .inr h
end L2
namespace L2
open PySem PySem.Spec PyProof.Rows
theorem qan:1000<=sizeLine:=by decide
theorem qao{H:Hp}{l:Addr}(h:H l=none)(o:HO):Same H (upd H l o):=λb u e=>by
 rw[qa9 (qcl e h)]
 exact e
theorem Same.put{H H':Hp}{p:Addr}{o:HO}(e:Same H H')(h:H p=none):Same H (upd H' p o):=λb u q=>by
 rw[qa9 (qcl q h)]
 exact e b u q
theorem qkv{α:Type}{xs:List α}{k:Int}(h0:0<=k)(h1:k<(xs.length:Int)):∃v,atI xs k=some v/\xs[k.toNat]?=some v:=by
 have hk:k.toNat<xs.length:=by lia
 have e:xs[k.toNat]?=some xs[k.toNat]:=List.getElem?_eq_getElem hk
 refine⟨xs[k.toNat],?_,e⟩
 have:=qjf e
 rw[Int.toNat_of_nonneg h0] at this
 exact this
theorem q3j{α β:Type}{f:α->β}{xs:List α}{k:Int}{v:α}(h:atI xs k=some v):atI (xs.map f) k=some (f v):=by
 unfold atI at h ⊢
 rw[List.length_map]
 cases e:ixN xs.length k with
|none =>
  rw[e] at h
  cases h
|some j =>
  rw[e] at h
  have h':xs[j]?=some v:=h
  show (xs.map f)[j]?=some (f v)
  rw[List.getElem?_map,h']
  rfl
def cutL{α:Type}(xs:List α)(lo hi:Option Int):List α:=(xs.drop (HT.sIx xs.length 0 lo)).take (HT.sIx xs.length xs.length hi-HT.sIx xs.length 0 lo)
theorem qvy{α:Type}(f:α->V)(xs:List α)(lo hi:Option Int):cutV (xs.map f) lo hi=(cutL xs lo hi).map f:=by
 unfold cutV cutL
 rw[List.length_map,List.map_take,List.map_drop]
theorem qfd{α:Type}(xs:List α):cutL xs none (some (-1))=xs.dropLast:=by
 unfold cutL
 rw[HT.sIx_none]
 show (xs.drop 0).take ((if (-1:Int)<0 then ((-1:Int)+(xs.length:Int)).toNat else min (-1:Int).toNat xs.length)-0)=xs.dropLast
 rw[if_pos (by decide),List.drop_zero,List.dropLast_eq_take]
 congr 1
 lia
theorem qfe{α:Type}(xs:List α)(k:Nat):cutL xs none (some (k:Int))=xs.take k:=by
 unfold cutL
 rw[HT.sIx_none,HT.sIx_nat,List.drop_zero,Nat.sub_zero]
 by_cases h:k<=xs.length
 ·rw[Nat.min_eq_left h]
 ·rw[Nat.min_eq_right (by lia),List.take_length,List.take_of_length_le (by lia)]
theorem qg8{α:Type}(xs:List α)(k:Nat):cutL xs (some (k:Int)) none=xs.drop k:=by
 unfold cutL
 rw[HT.sIx_none,HT.sIx_nat]
 by_cases h:k<=xs.length
 ·rw[Nat.min_eq_left h,List.take_of_length_le (by rw[List.length_drop];lia)]
 ·rw[Nat.min_eq_right (by lia),List.drop_length,List.drop_of_length_le (by lia),List.take_nil]
theorem toString_length_le{v:Int}{k:Nat}(h0:0<=v)(hk:0<k)(h:v<10 ^ k):(Str.ofString (toString v)).length<=k:=by
 obtain⟨m,rfl⟩:=Int.eq_ofNat_of_zero_le h0
 have e:toString (m:Int)=Nat.repr m:=rfl
 rw[PySem.ofString_length,e]
 exact(Nat.length_repr_le_iff hk).mpr (by exact_mod_cast h)
def Its(z:Str):It:=⟨λi _=>i<z.cps.size,λi H x H'=>H'=H/\∃c,z.cps[i]?=some c/\x=.str ⟨#[c]⟩,λi _=>z.cps.size<=i⟩
theorem qq8{P:Program}{w:World}{K:PySem.W.Frag}{tg:Expr}(it:Addr)(z:Str)(t:Tok):Turn P w K tg (Its z) [it] it (λi h=>h.IsStrIter it "str_ascii_iterator" z t i) where
 mem:=by simp
 obj:=λi h st b hb=>by
  have e:b=it:=by simpa using hb
  subst e
  obtain⟨o,e,c,d⟩:=st
  exact⟨o,e,λv z=>by rw[d] at z;cases z⟩
 keep:=λi h h' st k=>by
  obtain⟨o,e,r⟩:=st
  exact⟨o,k it (by simp) o e,r⟩
 item:=by
  intro X hP hw hK hc i pins s σ H E I hf st hg
  subst hP hw hK
  obtain⟨f0,f1,f2,f3,f4,f5⟩:=hf it (by simp)
  have hx:z.cps[i]?=some z.cps[i]:=Array.getElem?_eq_getElem hg
  refine wpAny_pyNext_ascii_item st hx λh' st' sb=>?_
  have I1:Inv X pins σ H { s with heap:=h',toks:=s.toks+1 }:=I.turned (λb o hb e=>(sb.2 b hb).trans e) f0 f1 f3 f4 f5
  obtain⟨o,e,c,d⟩:=id st'
  exact⟨_,rfl,qsz (s:={ s with heap:=h',toks:=s.toks+1 }) e c d (by decide) ⟨.str ⟨#[z.cps[i]]⟩,H,I1,⟨_,rfl⟩,⟨rfl,_,hx,rfl⟩,st',λb hb=>(hf b hb).1⟩⟩
 done:=by
  intro X hP hw hK hc i pins s σ H E I hf st hg
  subst hP hw hK
  obtain⟨f0,f1,f2,f3,f4,f5⟩:=hf it (by simp)
  exact wpAny_pyNext_ascii_end (I.ok.hd hc) st (Array.getElem?_eq_none hg) λh' eb=>⟨rfl,I.turned (t':=s.toks) (λb o hb e=>eb b o hb e) f0 f1 f3 f4 f5⟩
 self:=λ_ _ _ _ _ st h=>wpAny_pyIter_striter_ascii st h
theorem quq{P:Program}{w:World}{K:PySem.W.Frag}{tg:Expr}(it:Addr)(z:Str)(t:Tok):Turn P w K tg (Its z) [it] it (λi h=>h.IsStrIter it "str_iterator" z t i) where
 mem:=by simp
 obj:=λi h st b hb=>by
  have e:b=it:=by simpa using hb
  subst e
  obtain⟨o,e,c,d⟩:=st
  exact⟨o,e,λv z=>by rw[d] at z;cases z⟩
 keep:=λi h h' st k=>by
  obtain⟨o,e,r⟩:=st
  exact⟨o,k it (by simp) o e,r⟩
 item:=by
  intro X hP hw hK hc i pins s σ H E I hf st hg
  subst hP hw hK
  obtain⟨f0,f1,f2,f3,f4,f5⟩:=hf it (by simp)
  have hx:z.cps[i]?=some z.cps[i]:=Array.getElem?_eq_getElem hg
  refine wpAny_pyNext_wide_item st hx λh' st' sb=>?_
  have I1:Inv X pins σ H { s with heap:=h',toks:=s.toks+1 }:=I.turned (λb o hb e=>(sb.2 b hb).trans e) f0 f1 f3 f4 f5
  obtain⟨o,e,c,d⟩:=id st'
  exact⟨_,rfl,qsz (s:={ s with heap:=h',toks:=s.toks+1 }) e c d (by decide) ⟨.str ⟨#[z.cps[i]]⟩,H,I1,⟨_,rfl⟩,⟨rfl,_,hx,rfl⟩,st',λb hb=>(hf b hb).1⟩⟩
 done:=by
  intro X hP hw hK hc i pins s σ H E I hf st hg
  subst hP hw hK
  obtain⟨f0,f1,f2,f3,f4,f5⟩:=hf it (by simp)
  exact wpAny_pyNext_wide_end (I.ok.hd hc) st (Array.getElem?_eq_none hg) λh' eb=>⟨rfl,I.turned (t':=s.toks) (λb o hb e=>eb b o hb e) f0 f1 f3 f4 f5⟩
 self:=λ_ _ _ _ _ st h=>wpAny_pyIter_striter_wide st h
section
variable {X:Cx} {tg:Expr}
end
def qav:Expr->Bool
|.Starred ..=>false
|_=>true
theorem qbv{e:Expr}{es:List Expr}{env:Env}(h:qav e=true):starEach (e::es) env=(false,eval e env)::starEach es env:=by
 cases e<;>first|rfl|(exact absurd h Bool.false_ne_true)
theorem qe7{env:Env}:∀ {es:List Expr},es.all qav=true->starEach es env=es.map λe=>(false,eval e env)
|[],_=>rfl
|e::es,h=>by
  rw[List.all_cons,Bool.and_eq_true] at h
  rw[qbv h.1,qe7 h.2,List.map_cons]
theorem qdc{es:List Expr}{env:Env}{pos:Pos}(h:es.all qav=true):(backTo pos (starEach es env)).any (·.1)=false:=by
 rw[qe7 h]
 unfold backTo
 rw[List.map_map,List.any_eq_false]
 intro p hp
 obtain⟨e,_,rfl⟩:=List.mem_map.mp hp
 exact Bool.false_ne_true
theorem qxy{es:List Expr}{env:Env}{pos:Pos}(h:es.all qav=true):(backTo pos (starEach es env)).all (λx=>!x.1)=true:=by
 rw[qe7 h]
 unfold backTo
 rw[List.map_map,List.all_eq_true]
 intro p hp
 obtain⟨e,_,rfl⟩:=List.mem_map.mp hp
 rfl
section
variable {X:Cx} {x:Str} {p pos:Pos} {e:Expr} {es:List Expr} {te:TE} {t:TA} {id T:String} {r:List V->Hp->VK->Prop}
theorem pac(ha:PE X e te)(hr:PA X es t)(hs:qav e=true:=by rfl):PA X (e::es) (qx1 te t):=q1a ha hr (qbv hs)
theorem all2{e:Expr}{es:List Expr}(h:(e::es).all qav=true):qav e=true/\es.all qav=true:=by
 rw[List.all_cons,Bool.and_eq_true] at h
 exact h
theorem pcb(hc:CallR X (.builtin id) r)(hg:Gl X x)(hm:X.mg x=none)(hv:bootBuiltins x=some (.builtin id))(ha:PA X (e::es) t)(hp:(e::es).all qav=true:=by rfl)(hn:x≠"__name__" := by decide)(hdb:(x==("__debug__" : Str))=false:=by decide) :
  PE X (.Call (.Name x p) (e::es) [] pos) (tCB r t):=qw0 hc hg hm hv ha hn hdb (qbv (all2 hp).1) (qdc (all2 hp).2)
theorem pct(hc:CallR X (.type T) r)(hg:Gl X x)(hm:X.mg x=none)(hv:bootBuiltins x=some (.type T))(ha:PA X (e::es) t)(hp:(e::es).all qav=true:=by rfl)(hn:x≠"__name__" := by decide)(hdb:(x==("__debug__" : Str))=false:=by decide) :
  PE X (.Call (.Name x p) (e::es) [] pos) (tCB r t):=qt2 hc hg hm hv ha hn hdb (qbv (all2 hp).1) (qdc (all2 hp).2)
theorem pbm{o:Expr}{to:TE}{name:Str}{apos cpos:Pos}{r:V->List V->Hp->VK->Prop}(pa:PlainAttrs T)(slot:Slot T name id)(hty:typeOf (.builtin id)=pure (.type "method_descriptor"))(hm:MtR X id r)(ho:PE X o to)(ha:PA X (e::es) t)
  (hp:(e::es).all qav=true:=by rfl) (hfew:decide ((e::es).length<30)=true:=by rfl) (hbase:attributeBase o name X.env (eval o X.env)=eval o X.env:=by rfl) (hline:(apos.endLine==cpos.line)=true:=by rfl) :
  PE X (.Call (.Attribute o name apos) (e::es) [] cpos) (tBM X.K T r to t):=by
 refine q7a pa slot hty hm ho ha hbase ?_ hline (qbv (all2 hp).1) (qdc (all2 hp).2)
 rw[qxy hp]
 exact hfew
theorem q7e{tg a:Expr}{ta:TA}(hg:Gl X "range")(hm:X.mg "range" = none)(ha:PA X [a] ta)(hp:qav a=true:=by rfl):PI X tg (.Call (.Name "range" p) [a] [] pos) (q0a ta):=qt4 hg hm ha (qbv hp)
end
inductive Cal(P:Program)(w:World)(K:PySem.W.Frag)(mg:Str->Option Value)(base:Heap)(k:Nat)(x:Str)(ps:List Str)(sp:Sp):Prop where
|mk {f:Addr} {fd:FuncData} (F:FnOk P w K mg base CX0 k f fd ps sp) (hm:mg x=some (.ref f)) (hk:PySem.W.keepIn K (.ref f)=true) (hb:Binds K fd ps [])
section
variable {X:Cx} {k:Nat} {ps:List Str} {sp:Sp} {x:Str} {p pos:Pos} {e:Expr} {es:List Expr} {t:TA}
theorem q4p(C:Cal X.prog X.w X.K X.mg X.base k x ps sp)(hr:Room k X.A)(hg:Gl X x)(ha:PA X (e::es) t)(hp:(e::es).all qav=true:=by rfl)(hdb:(x==("__debug__" : Str))=false:=by decide):PE X (.Call (.Name x p) (e::es) [] pos) (qx0 sp [] E0 t):=by
 cases C with
|mk F hm hk hb=>exact q1d F hr hg hm hk hb .nil q68 ha hdb (qbv (all2 hp).1) (qdc (all2 hp).2)
end
section
variable {X:Cx}
end
theorem qwc{K:PySem.W.Frag}{T:String}:PySem.W.kitOne K (.type T) (.type T)=some true:=by
 unfold PySem.W.kitOne
 rw[if_pos (by simp)]
theorem range_all(bs:List Bool):(List.range bs.length).all (λi=>bs.getD i true)=bs.all id:=by
 have e:(List.range bs.length).map (λi=>bs.getD i true)=bs:=by
  apply List.ext_getElem
  ·simp
  ·intro i h1 h2
   simp[List.getD_eq_getElem?_getD,h2]
 calc (List.range bs.length).all (λi=>bs.getD i true)=((List.range bs.length).map (λi=>bs.getD i true)).all id:=by rw[List.all_map];rfl
  _=bs.all id:=by rw[e]
section
variable {X:Cx}
theorem qmn{A:Around}{bs:List Bool}{its:List Value}(r:Vals (bs.map V.bl) its):TruthOf X.prog X.w A (λi v=>its.toArray[i]?=some v) (λi=>bs.getD i true):=by
 intro i v s Q E hv q
 have hv':its[i]?=some v:=by simpa using hv
 have hl:=r.length
 rw[List.length_map] at hl
 have hi:i<bs.length:=by
  rw[hl]
  exact(List.getElem?_eq_some_iff.mp hv').1
 have e:(bs.map V.bl)[i]?=some (.bl bs[i]):=by rw[List.getElem?_map,List.getElem?_eq_getElem hi];rfl
 obtain⟨u,hu,ru⟩:=r.get e
 rw[hv'] at hu
 cases hu
 cases (show v=Value.bool bs[i] from ru)
 refine wpAny_truthy_bool ?_
 have e2:bs.getD i true=bs[i]:=by simp[List.getD_eq_getElem?_getD,hi]
 have q':Q (bs.getD i true) s:=q
 rw[e2] at q'
 exact q'
theorem qr8(hc:X.calm=true):CallR X (.builtin "all") (λxs H Q=>∃(p:Addr) (bs:List Bool),xs=[.ref p]/\SqL X.K H p (bs.map V.bl)/\Q (.bl (bs.all id)) H):=by
 intro pins s σ H xs us Q I r h
 obtain⟨p,bs,rfl,hq,q⟩:=h
 obtain⟨u,rfl,rx⟩:=vals1 r
 cases rx
 obtain⟨its,rv,pl,hz⟩:=I.list hq
 have hlt:p<s.heap.objs.size:=by
  obtain⟨_,_,e,_⟩:=pl
  exact Heap.lt_size e
 have hl:=rv.length
 rw[List.length_map] at hl
 have hA:X.A.in1.handled=none:=I.ok.hd hc
 refine call_all_walk (wpAny_pyIter_list pl.isList ?_)
 refine⟨s.heap.objs.size,_,_,its.toArray.size,_,_,λi=>bs.getD i true,rfl,Walks.list hA s.heap.objs.size p (Nat.ne_of_lt hlt) its.toArray,⟨⟨_,Heap.get?_push_size _ rfl,rfl,rfl⟩,pl.isList.push _⟩,qmn rv,λh' tk kp=>?_⟩
 refine⟨.bl (bs.all id),H,I.kept (t':=tk) (λb o e=>kp b o (λz=>?_) (Heap.get?_push_of_some _ e)),?_,q⟩
 ·have e1:b=s.heap.objs.size:=by simpa using z
  exact absurd (e1▸Heap.lt_size e) (Nat.lt_irrefl _)
 ·rw[List.size_toArray,←hl,range_all]
  rfl
theorem qn5:∀ {ys:List Str} {us:List Value},Vals (ys.map V.str) us->∃l:List (Str×Tok),us=strValues l/\l.map (·.1)=ys
|[],_,r=>by
  cases r
  exact⟨[],rfl,rfl⟩
|y::ys,_,r=>by
  rw[List.map_cons] at r
  cases r with
 |cons r1 r2 =>
   obtain⟨t,e⟩:=r1
   subst e
   obtain⟨l,e1,e2⟩:=qn5 r2
   subst e1
   exact⟨(y,t)::l,rfl,by rw[List.map_cons,e2]⟩
abbrev glue(sep:Str)(ys:List Str):Str:=Txt.join sep ys
theorem qv2(sep:Str)(ys:List Str):(glue sep ys).length<=(ys.map (·.length)).sum+ys.length*sep.length:=by
 show (Builtin.Str.glued sep ys).length<=_
 rw[StrLaws.glued_eq_join]
 exact StrLaws.join_length_le sep ys
theorem q0q:MtM X "str.join" (λx vs H Q=>∃(sep:Str) (l:Addr) (ys:List Str),x=.str sep/\vs=[.ref l]/\SqL X.K H l (ys.map V.str)/\(ys.map (·.length)).sum+ys.length*sep.length<=16777216/\Q (.str (glue sep ys)) H):=by
 intro pins s σ H x vs v us Q I rx rv h
 obtain⟨sep,l,ys,rfl,rfl,hq,hz,q⟩:=h
 obtain⟨t,rfl⟩:=rx
 obtain⟨u,rfl,ru⟩:=rv.one
 cases ru
 obtain⟨its,r,pl,_⟩:=I.list hq
 obtain⟨ts,e1,e2⟩:=qn5 r
 subst e1
 refine SC.join pl.isList e2 ?_ λt' k=>⟨.str (glue sep ys),H,I.tok k,⟨t',rfl⟩,q⟩
 unfold JoinOk
 rw[StrLaws.joinTotal]
 have:Builtin.Str.tooLong ((ys.map (·.length)).sum+ys.length*sep.length)=false:=by
  unfold Builtin.Str.tooLong
  rw[sizeLine_eq]
  exact decide_eq_false (by lia)
 rw[this]
 rfl
theorem part_of{v:Value}{o:Option Int}(p:IsPart v o):∃l:Option (Int×Tok),v=partValue l/\l.map (·.1)=o:=by
 cases p with
|none=>exact⟨none,rfl,rfl⟩
|int i t=>exact⟨some (i,t),rfl,rfl⟩
theorem sl_str:SlR X (λx lo hi H Q=>∃z,x=.str z/\z.length<=sizeLine/\Q (.str (Txt.slice z lo hi)) H):=by
 intro pins s σ H x v vl vu lo hi sl Q I rx hs pl pu h
 obtain⟨z,rfl,hz,q⟩:=h
 obtain⟨t,rfl⟩:=rx
 obtain⟨l,e1,e2⟩:=part_of pl
 obtain⟨u,e3,e4⟩:=part_of pu
 subst e1 e2 e3 e4
 refine⟨"str",_,F.slot_str_getitem.lookup,typeIs_str _ _ _,?_⟩
 refine wpAny_getItem_str_slice (l:=l) (u:=u) (st:=none) hs rfl ?_
 exact post_val_or_str ⟨Nat.le_trans (Txt.slice_le z _ _) hz,λt' k=>⟨.str (Txt.slice z (l.map (·.1)) (u.map (·.1))),H,I.tok k,⟨t',rfl⟩,q⟩⟩
end
end L2
namespace HT
open PySem PyProof.Rows
section
variable {prog:Program} {w:World} {A:Around} {E:Value->Shared->Prop} {s:Shared}
theorem getItem_tuple_whole{t sl:Addr}{items:Array Value}{vl vu:Value}{lo hi:Option Int}{Q:Value->Shared->Prop}(ht:IsTup s.heap t items)(hs:s.heap.IsSliceOf sl vl vu .none)(pl:IsPart vl lo)(pu:IsPart vu hi)
  (hw:sIx items.size 0 lo=0/\sIx items.size items.size hi=items.size) (h:Q (.ref t) s):wpAny (model prog w) A (getItem (.ref t) (.ref sl)) Q E s:=by
 obtain⟨os,hos,hcs,hds⟩:=id hs
 have hTs:s.TypeIs (.ref sl) "slice" := ⟨os,hos,hcs⟩
 unfold getItem
 try with_reducible refine wpAny_holding ?_
 first|refine wpAny_bind (wpAny_pure ?_)|skip
 refine wpAny_bind (wpAny_sequenceKey ht.typeIs (by decide) ?_)
 refine wpAny_bind (wpAny_callSpecial?_slot (name:=Str.ofString "__getitem__") ht.typeIs PyProof.Rows.slot_tuple_getitem
  (wpAny_call_entry PyProof.Rows.slot_tuple_getitem ht.typeIs entry_tuple_getitem ?_ (args_tuple_getitem _ _)))
 show wpAny _ _ (Builtin.Tuple.tupleItemsOf (.ref t) >>= _) _ _ s
 refine wpAny_bind (tupleItemsOf_ ht ?_)
 refine wpAny_bind (wpAny_typeOf hTs ?_)
 rw[if_pos (by decide)]
 refine wpAny_bind (qd6 hs pl pu ?_)
 have hyes:(((sIx items.size 0 lo:Nat):Int)==0&&(1:Int)==1&&(sIx items.size items.size hi-sIx items.size 0 lo)==items.size)=true:=by
  rw[hw.1,hw.2]
  simp
 show wpAny _ _ (if (((sIx items.size 0 lo:Nat):Int)==0&&(1:Int)==1&&(sIx items.size items.size hi-sIx items.size 0 lo)==items.size)=true then _ else _) _ _ s
 rw[if_pos hyes]
 refine wpAny_bind (m:=Builtin.Tuple.tupleIsExact _) ?_
 unfold Builtin.Tuple.tupleIsExact
 refine wpAny_bind (wpAny_typeOf ht.typeIs (wpAny_pure ?_))
 rw[if_pos (by decide)]
 exact wpAny_bind (wpAny_rule (wpAny_pure ⟨_,rfl,wpAny_pure h⟩))
end
end HT
namespace L2
open PySem PySem.Spec PyProof.Rows
section
variable {X:Cx}
end
theorem qdf{env:Env}{x:Str}{k:NameKind}:∀ {names:List (Str×NameKind)},
  (names.map λ(n,k)=>if (k==NameKind.free&&env.scope.kind==.function&&env.kindOf n==some .cell) then (n,NameKind.cell) else (n,k)).lookup x=some k->names.lookup x=some k\/(names.lookup x=some .free/\k=.cell)
|[],h=>by simp at h
|(n,k0)::r,h=>by
  have ih:=@qdf env x k r
  rw[List.map_cons] at h
  have h:List.lookup x ((if (k0==NameKind.free&&env.scope.kind==.function&&env.kindOf n==some .cell)=true then (n,NameKind.cell) else (n,k0))::_)=some k:=h
  by_cases hc:(k0==NameKind.free&&env.scope.kind==.function&&env.kindOf n==some .cell)=true
  ·rw[if_pos hc,List.lookup_cons] at h
   rw[List.lookup_cons]
   cases hx:x==n with
  |true =>
    rw[hx] at h
    have e:NameKind.cell=k:=Option.some.inj h
    subst e
    have e0:k0=.free:=by
     rw[Bool.and_eq_true,Bool.and_eq_true] at hc
     exact eq_of_beq hc.1.1
    subst e0
    exact .inr ⟨rfl,rfl⟩
  |false =>
    rw[hx] at h
    exact ih h
  ·rw[if_neg hc,List.lookup_cons] at h
   rw[List.lookup_cons]
   cases hx:x==n with
  |true =>
    rw[hx] at h
    exact .inl h
  |false =>
    rw[hx] at h
    exact ih h
theorem qcq{csc:Scope}{env:Env}{x:Str}{k:NameKind}(h:(relabel csc env).names.lookup x=some k):csc.names.lookup x=some k\/(csc.names.lookup x=some .free/\k=.cell):=qdf h
theorem qp6{csc:Scope}{env:Env}(h:∀y∈csc.names,y.2=.free->∃c,env.cells.lookup y.1=some c) :
  ∃cl,closureFor csc env=pure cl/\(∀x c,cl.lookup x=some c->env.cells.lookup x=some c)/\∀y∈csc.names,y.2=.free->∃c,cl.lookup y.1=some c:=by
 have key:∀(body:Str×NameKind->List (Str×Addr)->Sem (ForInStep (List (Str×Addr)))),
   (∀n k acc,body (n,k) acc=if (k==.free)=true then (cellOf env n >>= λc=>pure (ForInStep.yield ((n,c)::acc))) else pure (ForInStep.yield acc)) ->
   ∀(l:List (Str×NameKind)) (acc:List (Str×Addr)),(∀y∈l,y.2=.free->∃c,env.cells.lookup y.1=some c)->(∀x c,acc.lookup x=some c->env.cells.lookup x=some c) ->
   ∃cl,(forIn l acc body:Sem (List (Str×Addr)))=pure cl/\(∀x c,cl.lookup x=some c->env.cells.lookup x=some c)/\(∀y∈l,y.2=.free->∃c,cl.lookup y.1=some c)/\∀x c,acc.lookup x=some c->∃c',cl.lookup x=some c':=by
  intro body hb l
  induction l with
 |nil =>
   intro acc _ ha
   exact⟨acc,rfl,ha,λy hy=>(nomatch hy),λx c e=>⟨c,e⟩⟩
 |cons p r ih =>
   intro acc hl ha
   obtain⟨n,k⟩:=p
   have hr:∀y∈r,y.2=.free->∃c,env.cells.lookup y.1=some c:=λy hy=>hl y (List.mem_cons_of_mem _ hy)
   by_cases hk:k=.free
   ·subst hk
    obtain⟨c,hc⟩:=hl (n,.free) List.mem_cons_self rfl
    have ha':∀x d,((n,c)::acc).lookup x=some d->env.cells.lookup x=some d:=λx d e=>by
     rw[List.lookup_cons] at e
     cases hx:x==n with
    |true =>
      rw[hx] at e
      have e1:c=d:=Option.some.inj e
      subst e1
      rw[eq_of_beq hx]
      exact hc
    |false =>
      rw[hx] at e
      exact ha x d e
    obtain⟨cl,e1,e2,e3,e4⟩:=ih ((n,c)::acc) hr ha'
    refine⟨cl,?_,e2,λy hy hf=>?_,λx d e=>?_⟩
    ·rw[List.forIn_cons,hb,if_pos (by rfl)]
     have ec:cellOf env n=pure c:=by
      unfold cellOf
      rw[hc]
     rw[ec]
     exact e1
    ·rcases List.mem_cons.mp hy with e|hy
     ·subst e
      exact e4 n c (by rw[List.lookup_cons,beq_self_eq_true])
     ·exact e3 y hy hf
    ·cases hx:x==n with
    |true=>exact e4 x c (by rw[List.lookup_cons,hx])
    |false=>exact e4 x d (by rw[List.lookup_cons,hx];exact e)
   ·obtain⟨cl,e1,e2,e3,e4⟩:=ih acc hr ha
    refine⟨cl,?_,e2,λy hy hf=>?_,e4⟩
    ·have hk':(k==NameKind.free)=false:=by simpa using hk
     rw[List.forIn_cons,hb,hk',if_neg Bool.false_ne_true]
     exact e1
    ·rcases List.mem_cons.mp hy with e|hy
     ·subst e
      exact absurd hf hk
     ·exact e3 y hy hf
 obtain⟨cl,e1,e2,e3,_⟩:=key (λp acc=>if (p.2==.free)=true then (cellOf env p.1 >>= λc=>pure (ForInStep.yield ((p.1,c)::acc))) else pure (ForInStep.yield acc)) (λn k acc=>rfl) csc.names [] h (λx c e=>by simp at e)
 refine⟨cl,?_,e2,e3⟩
 have e4:closureFor csc env=(forIn csc.names [] (λp acc=>if (p.2==.free)=true then (cellOf env p.1 >>= λc=>pure (ForInStep.yield ((p.1,c)::acc))) else pure (ForInStep.yield acc)) >>= λcs=>pure cs):=rfl
 rw[e4,e1]
 rfl
structure CompScope(sc:Scope)(N NB M:List Str)(csc:Scope):Prop where
 kind:csc.kind=.function
 nocell:∀y∈csc.names,y.2≠.cell
 locs:∀y∈csc.names,y.2=.local->csc.names.lookup y.1=some .local
 free:∀y∈csc.names,y.2=.free->sc.names.lookup y.1=some .cell\/sc.names.lookup y.1=some .free
 nd:NB.Nodup
 len:NB.length=N.length+M.length
 old:∀p∈N.zip NB,csc.names.lookup p.2≠some .local/\(csc.names.lookup p.2=none\/p.1=p.2)
theorem CompScope.at{sc:Scope}{N NB M:List Str}{csc:Scope}(S:CompScope sc N NB M csc){i:Nat}{x:Str}(e:NB[i]?=some x)(hi:i<N.length):csc.names.lookup x≠some .local/\(csc.names.lookup x≠none->N[i]?=some x):=by
 have e1:N[i]?=some N[i]:=List.getElem?_eq_getElem hi
 have hm:(N[i],x)∈N.zip NB:=by
  apply List.mem_of_getElem? (i:=i)
  rw[List.getElem?_zip_eq_some]
  exact⟨e1,e⟩
 obtain⟨h1,h2⟩:=S.old _ hm
 refine⟨h1,λhn=>?_⟩
 rcases h2 with h2|h2
 ·exact absurd h2 hn
 ·rw[e1]
  exact congrArg some h2
def cxC(X:Cx)(NB:List Str)(csc:Scope)(cl:List (Str×Addr))(C:Addr)(s₀:Shared)(H₀:Hp)(fp:List Addr)(pn:List (Addr×Obj)):Cx where
 prog:=X.prog
 w:=X.w
 K:=X.K
 mg:=X.mg
 base:=X.base
 A:=X.A
 N:=NB
 s₀:=s₀
 H₀:=H₀
 env:=compEnvC csc cl C X.env
 outer:=X.stack
 stack:=X.stack
 ex:=fp
 fn:=λ_=>false
 calm:=X.calm
 pn:=pn
 xe:=λ_ _=>False
section
variable {X:Cx} {pins:List (Addr×Obj)} {σ:St} {H₀:Hp} {s₀:Shared} {NB M:List Str} {csc:Scope} {cl:List (Str×Addr)} {fp:List Addr}
theorem qp7{h₁:Heap}{tk:Nat}{m:Str->Option Value}(S:CompScope X.env.scope X.N NB M csc)(I:Inv X pins σ H₀ s₀)(hf:∀b∈fp,FpOk X pins H₀ b)(hlt:∀b∈fp,b<s₀.heap.objs.size)
  (c1:∀x c,cl.lookup x=some c->X.env.cells.lookup x=some c) (c2:∀y∈csc.names,y.2=.free->∃c,cl.lookup y.1=some c)
  (hn:h₁.Ns s₀.heap.objs.size m) (hk:∀b o,s₀.heap.get? b=some o->h₁.get? b=some o) :
  Inv (cxC X NB csc cl s₀.heap.objs.size s₀ H₀ fp (X.pn++pins)) [] (σ++List.replicate M.length none) H₀ { s₀ with heap:=h₁,toks:=tk }:=by
 have kindB:∀x,((relabel csc X.env).names.lookup x=some .cell\/(relabel csc X.env).names.lookup x=some .free)->csc.names.lookup x=some .free:=λx hx=>by
  rcases hx with hx|hx
  ·rcases qcq hx with z|⟨z,_⟩
   ·exact absurd rfl (S.nocell _ (PySem.mem_of_lookup z))
   ·exact z
  ·rcases qcq hx with z|⟨z,_⟩
   ·exact z
   ·exact z
 have hasC:∀x,csc.names.lookup x=some .free->∃c,cl.lookup x=some c:=λx hx=>c2 (x,.free) (PySem.mem_of_lookup hx) rfl
 refine⟨⟨I.ok.mod,S.kind,I.ok.glob,I.ok.blt,Nat.le_refl _,λx y c h1 h2=>I.ok.inj x y c (c1 x c h1) (c1 y c h2),λx hx=>hasC x (kindB x hx),λx c h _=>absurd h Bool.false_ne_true,I.ok.hd,I.ok.frames,.inl rfl,
   λb hb=>⟨Nat.ne_of_lt (hlt b hb),λx c e=>(hf b hb).2.2.2.2.1 x c (c1 x c e)⟩,I.bs,Nat.le_trans I.ok.bsz I.sz,λb o e hb=>?_,λb hb z=>?_,I.stack,I.stkFree⟩,
  rfl,I.bare,Un.kept hk,⟨m,hn,λi x v e1 e2 e3=>?_⟩,λx c e=>?_,I.fresh,λx c e=>I.freeC x c (c1 x c e),λp hp=>?_,I.hok.kept hk,?_⟩
 ·rcases (hf b hb).2.2.2.1 with z|z
  ·exact I.ok.noex b o e z
  ·exact absurd (Nat.lt_of_lt_of_le (Heap.lt_size e) (Nat.le_trans I.ok.bsz z)) (Nat.lt_irrefl _)
 ·rcases List.mem_cons.mp (I.stkSub b z) with e|e
  ·exact(hf b hb).2.1 e
  ·exact(hf b hb).2.2.1 e
 ·have hlen:=I.len
  have hi:i<X.N.length:=by
   apply Classical.byContradiction
   intro hi
   rw[List.getElem?_append_right (by lia),List.getElem?_replicate] at e2
   split at e2<;>cases e2
  have e2':σ[i]?=some (some v):=by
   rw[List.getElem?_append_left (by lia)] at e2
   exact e2
  obtain⟨nl,hN⟩:=S.at e1 hi
  have hfree:csc.names.lookup x=some .free:=by
   rcases e3 with z|z
   ·rcases qcq (show (relabel csc X.env).names.lookup x=some .local from z) with q|⟨_,q⟩
    ·exact absurd q nl
    ·cases q
   ·exact kindB x z
  have hN':=hN (by rw[hfree];intro z;cases z)
  have ok:=S.free (x,.free) (PySem.mem_of_lookup hfree) rfl
  obtain⟨m',hn',hl⟩:=I.loc
  obtain⟨u,r,l⟩:=hl i x v hN' e2' (.inr ok)
  rcases l with ⟨k,_⟩|⟨_,c,hc,hcell⟩
  ·have k':X.env.scope.names.lookup x=some .local:=k
   rcases ok with z|z
   ·rw[show X.env.scope.names.lookup x=some .cell from z] at k'
    cases k'
   ·rw[show X.env.scope.names.lookup x=some .free from z] at k'
    cases k'
  ·obtain⟨c',hc'⟩:=hasC x hfree
   have ec:c'=c:=by
    have:=c1 x c' hc'
    rw[hc] at this
    exact(Option.some.inj this).symm
   subst ec
   obtain⟨o,ho,hd⟩:=hcell
   refine⟨u,r,.inr ⟨?_,c',hc',o,hk _ _ ho,hd⟩⟩
   rcases e3 with z|z
   ·rcases qcq (show (relabel csc X.env).names.lookup x=some .local from z) with q|⟨_,q⟩
    ·exact absurd q nl
    ·cases q
   ·exact z
 ·obtain⟨v,o,ho,hd⟩:=I.cell x c (c1 x c e)
  exact⟨v,o,hk _ _ ho,hd⟩
 ·have hp':p∈(X.pn++pins)++[]:=hp
  rw[List.append_nil] at hp'
  obtain⟨e,n,ne,nf,d⟩:=I.pin p hp'
  exact⟨hk _ _ e,n,Nat.ne_of_lt (Heap.lt_size e),λz=>(List.mem_cons.mp (I.stkSub _ z)).elim ne nf,d⟩
 ·rw[List.length_append,List.length_replicate,I.len]
  exact S.len.symm
theorem qvv{τ:St}{H:Hp}{s:Shared}{pins':List (Addr×Obj)}(I:Inv X pins σ H₀ s₀)(hf:∀b∈fp,FpOk X pins H₀ b)(B:Inv (cxC X NB csc cl s₀.heap.objs.size s₀ H₀ fp (X.pn++pins)) pins' τ H s) :
  Inv X pins σ H s/\FpOk X pins H s₀.heap.objs.size :=
 ⟨I.call' (ch:=fp) B.os B.base B.hok B.bare λb hb=>⟨(hf b hb).2.2.2.1,(hf b hb).2.1,(hf b hb).2.2.2.2.1,(hf b hb).2.2.2.2.2⟩,I.fpOk (Nat.le_refl _) B.free⟩
end
theorem qez{prog:Program}{w:World}{A:Around}{R:Result->Shared->Prop}{s:Shared}{elt target iter:Expr}{ifs:List Expr}{scope:Scope}{pos:Pos}{it acc:Value}{env:Env}(I:Nat->Shared->Prop)
  (turn:∀n s,I n s->wpAny (model prog w) A (pyNext it) (λr s₁=>match r with
  |none=>R (.ok .next) s₁
  |  some v=>wpAny (model prog w) A (letOwnedTupleGo target it v) (λ_ s₁'=>wpAny (model prog w) A (assign target env v) (λ_ s₂ =>
     wpAny (model prog w) A (forIn ifs true λc r=>if r=true then do let ok ←isTrue c env (eval c env);pure (ForInStep.yield ok) else pure (ForInStep.yield r)) (λok s₃ =>
      if ok=true then wpAny (model prog w) A (eval elt env) (λx s₄ =>
       wpAny (model prog w) A (call (.builtin "list.append") [acc,x]) (λ_ s₅=>∃m,m<n/\I m s₅) (notedBy (model prog w) A env λe s'=>R (.error e) s') s₄) (notedBy (model prog w) A env λe s'=>R (.error e) s') s₃
      else ∃m,m<n/\I m s₃) (notedBy (model prog w) A env λe s'=>R (.error e) s') s₂) (notedBy (model prog w) A env λe s'=>R (.error e) s') s₁') (notedBy (model prog w) A env λe s'=>R (.error e) s') s₁)
    (notedBy (model prog w) A env λe s'=>R (.error e) s') s)
  (n:Nat) (h:I n s):codeAny (model prog w) A (.compLoop (.ListComp elt [⟨target,iter,ifs,0⟩] scope pos) 0 it acc env) R s:=by
 refine codeAny_loop rfl I (λn s hI=>?_) n h
 show wpAny _ A ((compTurn (.ListComp elt [⟨target,iter,ifs,0⟩] scope pos) 0 it acc env).onRaise (λx=>do noteFrame x env;theTreesLotGoes x)) _ _ s
 refine wpAny_noted ?_
 rw[compTurn_list]
 refine wpAny_bind (wpAny_standAt (wpAny_bind (wpAny_mono (turn n s hI) (λr s₁ h₁=>?_) λ_ _ h'=>h')))
 cases r with
|none=>exact wpAny_pure h₁
|some v =>
  refine wpAny_bind (wpAny_mono h₁ (λ_ s₁' h₁'=>?_) λ_ _ h'=>h')
  refine wpAny_bind (wpAny_mono h₁' (λ_ s₂ h₂=>wpAny_bind (wpAny_mono h₂ (λok s₃ h₃=>?_) λ_ _ h'=>h')) λ_ _ h'=>h')
  cases ok with
 |false=>exact wpAny_pure ⟨rfl,h₃⟩
 |true =>
   exact wpAny_bind (wpAny_bind (wpAny_mono h₃ (λx s₄ h₄=>wpAny_bind (wpAny_mono h₄ (λ_ s₅ h₅=>wpAny_pure (wpAny_pure ⟨rfl,h₅⟩)) λ_ _ h'=>h')) λ_ _ h'=>h'))
abbrev TF:=St->Hp->(Hp->Prop)->(Hp->Prop)->Prop
def PF(X:Cx)(ifs:List Expr)(t:TF):Prop :=
 ∀(pins:List (Addr×Obj)) (s:Shared) (σ:St) (H:Hp) (Y N:Hp->Prop),Inv X pins σ H s->t σ H Y N ->
  wpAny (model X.prog X.w) X.A (forIn ifs true λc r=>if r=true then do let ok ←isTrue c X.env (eval c X.env);pure (ForInStep.yield ok) else pure (ForInStep.yield r)) (λb s'=>∃H',Inv X pins σ H' s'/\if b=true then Y H' else N H') X.xe s
def fNil:TF:=λ_ H Y _=>Y H
def fOne(tc:TT):TF:=λσ H Y N=>tc σ H λb H1=>if b=true then Y H1 else N H1
theorem q1j{X:Cx}:PF X [] fNil:=λ_ _ _ H _ _ I h=>wpAny_tests_nil ⟨H,I,iteT h⟩
theorem q1k{X:Cx}{c:Expr}{tc:TT}(hc:PT X c tc):PF X [c] (fOne tc):=λpins s σ H _ _ I h =>
 wpAny_tests_one (thn (hc pins s σ H _ I h) λ_ _ ⟨H1,I1,q⟩=>⟨H1,I1,q⟩)
def q2p(wi:TI)(g:TG)(ti:TF)(te:TE)(k:Nat):TE:=λσ H Q=>wi σ H λJ H1=>∀p,H1 p=none->∃W:Nat->Nat->St->List V->Hp->Prop,(∃m,W 0 m (σ++List.replicate k none) [] (upd H1 p (.lst [])))/\∀i m τ xs H,W i m τ xs H ->
 (J.stop i H/\Q (.ref p) H)\/(J.go i H/\∀x H',J.yld i H x H'->g x τ H' λτ2 H2=>ti τ2 H2 (λH3=>te τ2 H3 λv H4=>H4 p=some (.lst xs)/\xs.length<sizeLine/\∃m',m'<m/\W (i+1) m' τ2 (xs++[v]) (upd H4 p (.lst (xs++[v]))))
  (λH3=>∃m',m'<m/\W (i+1) m' τ2 xs H3))
def PCp(X:Cx)(e:Expr)(t:TE):Prop:=∃elt tg iter ifs csc pos,e=.ListComp elt [⟨tg,iter,ifs,0⟩] csc pos /\
 ∀(ppos:Pos) (use:Option (Value->Sem Unit)) (R:Value->Shared->Prop) (pins:List (Addr×Obj)) (s:Shared) (σ:St) (H:Hp) (Q:VK),Inv X pins σ H s->t σ H Q ->
  (∀(D C:Addr) (s':Shared) (H':Hp),Inv X pins σ H' s'->FpOk X pins H' C->(∃m,s'.heap.Ns C m)->Q (.ref D) H'->compPost (model X.prog X.w) X.A X.xe use R (.ref D) C (.ok .next) s') ->
  wpAny (model X.prog X.w) X.A (comprehension (.ListComp elt [⟨tg,iter,ifs,0⟩] csc pos) csc X.env ppos (newList []) false (eval iter X.env) use) R X.xe s
section
variable {X:Cx}
theorem q1b{tg iter elt:Expr}{ifs:List Expr}{csc:Scope}{pos:Pos}{NB M:List Str}{wi:TI}{g:TG}{ti:TF}{te:TE}(hi:PI X tg iter wi)(hc:X.calm=true)(S:CompScope X.env.scope X.N NB M csc)
  (hg:∀cl C s₀ H₀ fp pn,PG (cxC X NB csc cl C s₀ H₀ fp pn) tg g) (hf:∀cl C s₀ H₀ fp pn,PF (cxC X NB csc cl C s₀ H₀ fp pn) ifs ti) (he:∀cl C s₀ H₀ fp pn,PE (cxC X NB csc cl C s₀ H₀ fp pn) elt te)
  (hs:∀x,foldedSetIterable iter X.env x=pure x:=by intro _;rfl):PCp X (.ListComp elt [⟨tg,iter,ifs,0⟩] csc pos) (q2p wi g ti te M.length):=by
 refine⟨elt,tg,iter,ifs,csc,pos,rfl,λppos use R pins s σ H Q I h fin=>?_⟩
 have hcell:∀y∈csc.names,y.2=.free->∃c,X.env.cells.lookup y.1=some c:=λy hy hfr=>I.ok.has y.1 (S.free y hy hfr)
 obtain⟨cl,hcl,c1,c2⟩:=qp6 hcell
 refine wpAny_comprehension_free rfl hs hcl S.kind S.locs ?_
 refine thn (hi pins s σ H _ I h) λv s1 h1=>thn h1 λitv s2 h2=>?_
 obtain⟨it,fp,tn,J,H2,e,I2,T,st2,f2,h2⟩:=h2
 subst e
 have hlt2:∀b∈fp,b<s2.heap.objs.size:=λb hb=>let ⟨_,e,_⟩:=T.obj _ _ st2 b hb;Heap.lt_size e
 refine wpAny_newObj_type (wpAny_newFunctionEnv S.nocell (by intro y hy;simp at hy) (λh₁ hns₁ hsb₁=>?_) S.kind)
 dsimp only at hns₁ hsb₁ ⊢
 have I0:Inv X pins σ (upd H2 s2.heap.objs.size (.lst [])) { s2 with heap:=s2.heap.push { cls:=.type "list",dict:=none,data:=.seq ([]:List Value).toArray } }:=I2.lnew (its:=[]) (t':=s2.toks) .nil (Nat.zero_le _)
 generalize hs0:({ s2 with heap:=s2.heap.push { cls:=.type "list",dict:=none,data:=.seq ([]:List Value).toArray } }:Shared)=s₀ at I0
 have hh:s2.heap.push { cls:=.type "list",dict:=none,data:=.seq ([]:List Value).toArray }=s₀.heap:=by rw[←hs0]
 rw[hh] at hns₁ hsb₁ ⊢
 have hsz:s2.heap.objs.size<s₀.heap.objs.size:=by rw[←hh,Heap.size_push];exact Nat.lt_succ_self _
 have hDn:H2 s2.heap.objs.size=none:=I2.fresh
 have f0:∀b∈fp,FpOk X pins (upd H2 s2.heap.objs.size (.lst [])) b:=λb hb=>⟨by rw[qa9 (Nat.ne_of_lt (hlt2 b hb))];exact(f2 b hb).1,(f2 b hb).2⟩
 have hlt:∀b∈fp,b<s₀.heap.objs.size:=λb hb=>Nat.lt_trans (hlt2 b hb) hsz
 have hk:∀b o,s₀.heap.get? b=some o->h₁.get? b=some o:=λb o e=>hsb₁.extBut b o (Nat.ne_of_lt (Heap.lt_size e)) (Heap.get?_push_of_some _ e)
 have hk2:∀b o,s2.heap.get? b=some o->h₁.get? b=some o:=λb o e=>hk b o (by rw[←hh];exact Heap.get?_push_of_some _ e)
 have st1:tn 0 h₁:=T.keep _ _ _ st2 λb _ o e=>hk2 b o e
 obtain⟨W,⟨m0,w0⟩,turn⟩:=h2 s2.heap.objs.size hDn
 have loop:∀s₃:Shared,s₃={ s₀ with heap:=h₁,toks:=s2.toks+([]:List (Str×Value)).length } ->
   codeAny (model X.prog X.w) X.A (.compLoop (.ListComp elt [⟨tg,iter,ifs,0⟩] csc pos) 0 (.ref it) (.ref s2.heap.objs.size) (compEnvC csc cl s₀.heap.objs.size X.env))
    (compPost (model X.prog X.w) X.A X.xe use R (.ref s2.heap.objs.size) s₀.heap.objs.size) s₃:=by
  rintro s₃ rfl
  have B0:=qp7 (cl:=cl) (tk:=s2.toks+([]:List (Str×Value)).length) S I0 f0 hlt c1 c2 hns₁ hk
  have fpB:∀ {H':Hp},(∀b∈fp,H' b=none)->∀b∈fp,FpOk (cxC X NB csc cl s₀.heap.objs.size s₀ (upd H2 s2.heap.objs.size (.lst [])) fp (X.pn++pins)) [] H' b:=λ{H'} hn b hb =>
   ⟨hn b hb,Nat.ne_of_lt (hlt b hb),B0.ok.exfs b hb,.inl hb,λx c e=>(f0 b hb).2.2.2.2.1 x c (c1 x c e),λp hp=>(f0 b hb).2.2.2.2.2 p (by
    have hp':p∈(X.pn++pins)++[]:=hp
    rw[List.append_nil] at hp'
    exact hp')⟩
  refine qez (λn s'=>∃i τ xs H',Inv (cxC X NB csc cl s₀.heap.objs.size s₀ (upd H2 s2.heap.objs.size (.lst [])) fp (X.pn++pins)) [] τ H' s'/\tn i s'.heap/\(∀b∈fp,H' b=none)/\W i n τ xs H') ?_ m0
   ⟨0,_,[],_,B0,st1,λb hb=>(f0 b hb).1,w0⟩
  rintro n s3 ⟨i,τ,xs,H3,I3,st3,fr3,w3⟩
  rcases turn i n τ xs H3 w3 with ⟨stop,q⟩|⟨go,step⟩
  ·refine thn (T.done (cxC X NB csc cl s₀.heap.objs.size s₀ (upd H2 s2.heap.objs.size (.lst [])) fp (X.pn++pins)) rfl rfl rfl hc i [] s3 τ H3 _ I3 (fpB fr3) st3 stop) λr s4 ⟨hr,I4⟩=>?_
   subst hr
   obtain⟨IX,fpC⟩:=qvv I0 f0 I4
   exact fin _ _ s4 H3 IX fpC (let ⟨m,hn,_⟩:=I4.loc;⟨m,hn⟩) q
  ·refine thn (T.item (cxC X NB csc cl s₀.heap.objs.size s₀ (upd H2 s2.heap.objs.size (.lst [])) fp (X.pn++pins)) rfl rfl rfl hc i [] s3 τ H3 _ I3 (fpB fr3) st3 go) λr s4 ⟨u,hr,h4⟩=>?_
   subst hr
   refine thn h4 λ_ s5 ⟨x,H5,I5,r5,y5,st5,fr5⟩=>?_
   have I5':=I5.pinned (fpB fr5) (T.obj _ _ st5)
   refine wpAny_mono (hg _ _ _ _ _ _ _ s5 τ H5 x u _ I5' r5 (step x H5 y5)) (λ_ s6 ⟨τ6,H6,I6,q6⟩=>?_) λ_ _ z=>False.elim z
   refine wpAny_mono (hf _ _ _ _ _ _ _ s6 τ6 H6 _ _ I6 q6) (λb s7 ⟨H7,I7,q7⟩=>?_) λ_ _ z=>False.elim z
   have again:∀ {τ7:St} {H7:Hp} {s7:Shared} {ys:List V},Inv (cxC X NB csc cl s₀.heap.objs.size s₀ (upd H2 s2.heap.objs.size (.lst [])) fp (X.pn++pins)) ([]++qlu fp s5.heap) τ7 H7 s7->(∃m',m'<n/\W (i+1) m' τ7 ys H7) ->
     ∃m,m<n/\∃i τ xs H',Inv (cxC X NB csc cl s₀.heap.objs.size s₀ (upd H2 s2.heap.objs.size (.lst [])) fp (X.pn++pins)) [] τ H' s7/\tn i s7.heap/\(∀b∈fp,H' b=none)/\W i m τ xs H':=λ{τ7 H7 s7 ys} I7 w7=>by
    obtain⟨m',hm,w7⟩:=w7
    refine⟨m',hm,i+1,τ7,ys,H7,I7.unpinned,T.keep _ _ _ st5 λb hb o e=>(I7.pin (b,o) (List.mem_append_right _ (List.mem_append_right _ (qeu hb e)))).1,λb hb=>?_,w7⟩
    obtain⟨o,e,d⟩:=T.obj _ _ st5 b hb
    exact(I7.pin (b,o) (List.mem_append_right _ (List.mem_append_right _ (qeu hb e)))).2.1
   cases b with
  |false=>exact again I7 q7
  |true =>
    have q7':te τ6 H7 _:=q7
    refine wpAny_mono (he _ _ _ _ _ _ _ s7 τ6 H7 _ I7 q7') (λy s8 ⟨v8,H8,I8,r8,hl8,hz8,w8⟩=>?_) λ_ _ z=>False.elim z
    refine wpAny_mono (qlq (X:=(cxC X NB csc cl s₀.heap.objs.size s₀ (upd H2 s2.heap.objs.size (.lst [])) fp (X.pn++pins))) _ s8 τ6 H8 (.ref s2.heap.objs.size) [v8] (.ref s2.heap.objs.size) [y] (λ_ H9=>H9=upd H8 s2.heap.objs.size (.lst (xs++[v8]))) I8 rfl (.cons r8 .nil) ⟨_,xs,v8,rfl,rfl,hl8,hz8,rfl⟩) (λ_ s9 ⟨_,H9,I9,_,e9⟩=>?_) λ_ _ z=>False.elim z
    subst e9
    exact again I9 w8
 exact codeAny_compStart_list (loop _ (by rw[←hs0])) (T.self _ _ _ _ _ st1 (loop _ (by rw[←hs0])))
theorem PCp.pe{e:Expr}{t:TE}(h:PCp X e t):PE X e t:=by
 obtain⟨elt,tg,iter,ifs,csc,pos,rfl,h⟩:=h
 intro pins s σ H Q I hw
 rw[eval_ListComp]
 refine h _ none (EP X pins σ Q) pins s σ H Q I hw λD C s' H' IX fpC ⟨m,hn⟩ q=>⟨m,hn,λh' hs=>?_⟩
 exact⟨.ref D,H',IX.turned (t':=s'.toks) (λb o hb e=>(hs.2 b hb).trans e) fpC.1 fpC.2.1 fpC.2.2.2.1 fpC.2.2.2.2.1 fpC.2.2.2.2.2,rfl,q⟩
end
end L2
namespace L2
open PySem PySem.Spec PyProof.Rows
structure QE(X:Cx)(e:Expr)(t:TE):Prop where
 u:PE X e t
structure QT(X:Cx)(e:Expr)(t:TT):Prop where
 u:PT X e t
structure QW(X:Cx)(e:Expr)(t:TT):Prop where
 u:PW X e t
structure QA(X:Cx)(es:List Expr)(t:TA):Prop where
 u:PA X es t
structure QS(X:Cx)(st:Stmt)(t:TS):Prop where
 u:PS X st t
structure QSs(X:Cx)(st:List Stmt)(t:TS):Prop where
 u:PSs X st t
structure QI(X:Cx)(tg iter:Expr)(t:TI):Prop where
 u:PI X tg iter t
structure QG(X:Cx)(tg:Expr)(t:TG):Prop where
 u:PG X tg t
structure QGs(X:Cx)(ts:List Expr)(t:TGs):Prop where
 u:PGs X ts t
structure QO(X:Cx)(e:Option Expr)(t:TO):Prop where
 u:PO X e t
structure QF(X:Cx)(ifs:List Expr)(t:TF):Prop where
 u:PF X ifs t
structure QC(X:Cx)(e:Expr)(t:TE):Prop where
 u:PCp X e t
section
variable {X:Cx} {st:Stmt} {rest:List Stmt} {t u:TS} {a b c e o i:Expr} {ta tb tc te to ti:TE} {es:List Expr} {tA:TA} {tT tU:TT} {pos pos' p p2 apos cpos:Pos} {x name:Str} {n:Nat}
theorem qub:QSs X [] q58:=⟨q1q⟩
theorem quc(h:QS X st t):QSs X [st] t:=⟨q1r h.u⟩
theorem qgt(h:QS X st t)(r:QSs X rest u):QSs X (st::rest) (tSeq t u):=⟨qxa h.u r.u⟩
theorem qns(h:QE X e te)(hs:swapsWith e none pos.line X.env=pure false:=by rfl):QS X (.Expr e pos) (q56 te):=⟨q1p h.u hs⟩
theorem qi5(h:QE X e te):QS X (.Return (some e) pos) (tRet te):=⟨q41 h.u⟩
theorem q5j{a b:List Stmt}(hc:QT X c tT)(ha:QSs X a t)(hb:QSs X b u):QS X (.If c a b pos) (tIfS tT t u):=⟨q7f hc.u ha.u hb.u⟩
theorem qlw{i:Nat}(hN:X.N.Nodup)(hi:X.N[i]?=some x)(hx:Loc X.env.scope x)(h:QE X e te)(hs:swapsWith e (some (.Name x pos')) pos.line X.env=pure false:=by rfl)
  (hf:X.fn x=true\/X.env.scope.names.lookup x=some .local:=by first|exact .inl rfl|exact .inr rfl|assumption):QS X (.Assign [.Name x pos'] e pos) (tAsg te (qqa i)):=⟨q42 hN hi hx h.u hs hf⟩
theorem q5i{tg iter:Expr}{body:List Stmt}{wi:TI}{g:TG}(hp:PassesOwn (model X.prog X.w) X.A X.env X.xe)(hc:X.calm=true)(hi:QI X tg iter wi)(hg:QG X tg g)(hb:QSs X body t)
  (hs:∀x,foldedSetIterable iter X.env x=pure x:=by intro _;rfl):QS X (.For tg iter body [] pos) (tFor wi g t):=⟨q40 hp hc hi.u hg.u hb.u hs⟩
theorem qxi{body:List Stmt}(hp:PassesOwn (model X.prog X.w) X.A X.env X.xe)(hc:QT X c tT)(hb:QSs X body t):QS X (.While c body [] pos) (qzi tT t):=⟨qw9 hp hc.u hb.u⟩
theorem qua{k:Int}{j:Nat}:QE X (.Constant (.int k) j pos) (tC (.int k)):=⟨q4q⟩
theorem q48{k:Bool}{j:Nat}:QE X (.Constant (.bool k) j pos) (tC (.bl k)):=⟨q69⟩
theorem q5b{j:Nat}:QE X (.Constant .none j pos) (tC .non):=⟨q4t⟩
theorem q5d{z:Str}{j:Nat}:QE X (.Constant (.str z) j pos) (tC (.str z)):=⟨q4v⟩
theorem qv(i:Nat)(hN:X.N[i]?=some x:=by rfl)(hv:Vis X.env.scope x:=by first|exact Or.inl rfl|exact Or.inr (Or.inl rfl)|exact Or.inr (Or.inr rfl))(hd:(x==("__debug__" : Str))=false:=by decide)
  (hcd:(x==("__classdict__" : Str))=false:=by decide):QE X (.Name x pos) (tVar i):=⟨qy3 hN hv hd hcd⟩
theorem qt9{v:V}{w:Value}(hg:Gl X x)(hm:X.mg x=some w)(r:RelV v w)(hd:(x==("__debug__" : Str))=false:=by decide):QE X (.Name x pos) (tC v):=⟨qt3 hg hm r hd⟩
theorem q1w{v:V}{w:Value}(hg:Gl X x)(hm:X.mg x=none)(hv:bootBuiltins x=some w)(r:RelV v w)(hn:x≠"__name__" := by decide)(hd:(x==("__debug__" : Str))=false:=by decide):QE X (.Name x pos) (tC v):=⟨q1c hg hm hv r hn hd⟩
theorem q7h{op:Operator}{r:R2}(ho:OpR X (binaryOp op) r)(ha:QE X a ta)(hb:QE X b tb):QE X (.BinOp a op b pos) (tOp r ta tb):=⟨q7b ho ha.u hb.u⟩
theorem q7j{op:UnaryOp}{r:V->Hp->VK->Prop}(ho:UnR X (unaryOp op) r)(ha:QE X a ta):QE X (.UnaryOp op a pos) (tUn r ta):=⟨q7d ho ha.u⟩
theorem q1x{op:CmpOp}{r:R2}(ho:OpR X (compareOp op) r)(ha:QE X a ta)(hb:QE X b tb)(hm:behindInMarks op b=false):QE X (.Compare a [op] [b] pos) (tOp r ta tb):=⟨q1e ho ha.u hb.u hm⟩
theorem q5c{op:BoolOp}(h:QE X a ta):QE X (.BoolOp op [a] pos) ta:=⟨q4u h.u⟩
theorem q47(ha:QE X a ta)(hb:QE X (.BoolOp .And (b::es) pos) tb):QE X (.BoolOp .And (a::b::es) pos) (q54 ta tb):=⟨q4n ha.u hb.u⟩
theorem q7i(ha:QE X a ta)(hb:QE X (.BoolOp .Or (b::es) pos) tb):QE X (.BoolOp .Or (a::b::es) pos) (tOrV ta tb):=⟨q7c ha.u hb.u⟩
theorem qo6(hc:QT X c tT)(ha:QE X a ta)(hb:QE X b tb):QE X (.IfExp c a b pos) (tIf tT ta tb):=⟨qw4 hc.u ha.u hb.u⟩
theorem qy5{k:Nat}(h:QA X es tA):QE X (.Tuple es k pos) (tTup tA):=⟨q4w h.u⟩
theorem q5a(h:QA X es tA):QE X (.List es pos) (tLst tA):=⟨q4s h.u⟩
theorem qxf{lo hi:Option Expr}{tl th:TO}{r:V->Option Int->Option Int->Hp->VK->Prop}(hr:SlR X r)(he:QE X e te)(hl:QO X lo tl)(hu:QO X hi th):QE X (.Subscript e (.Slice lo hi none p2) pos) (tSl r te tl th):=⟨qw5 hr he.u hl.u hu.u⟩
theorem q49{r:R2}(hr:IxR X r)(ha:QE X a ta)(hb:QE X b tb)(hs:qe2 b):QE X (.Subscript a b pos) (tOp r ta tb):=⟨q4r hr ha.u hb.u hs⟩
theorem q15:QO X none qun:=⟨q1l⟩
theorem q16(h:QE X e te):QO X (some e) (q59 te):=⟨q1m h.u⟩
theorem qd5:QA X [] tNil:=⟨q4l⟩
theorem qac(ha:QE X e te)(hr:QA X es tA)(hs:qav e=true:=by rfl):QA X (e::es) (qx1 te tA):=⟨pac ha.u hr.u hs⟩
theorem qo5{k:Nat}{ps:List Str}{sp:Sp}(C:Cal X.prog X.w X.K X.mg X.base k x ps sp)(hr:Room k X.A)(hg:Gl X x)(ha:QA X (e::es) tA)(hp:(e::es).all qav=true:=by rfl)(hdb:(x==("__debug__" : Str))=false:=by decide) :
  QE X (.Call (.Name x p) (e::es) [] pos) (qx0 sp [] E0 tA):=⟨q4p C hr hg ha.u hp hdb⟩
theorem qcb{id:String}{r:List V->Hp->VK->Prop}(hc:CallR X (.builtin id) r)(hg:Gl X x)(hm:X.mg x=none)(hv:bootBuiltins x=some (.builtin id))(ha:QA X (e::es) tA)(hp:(e::es).all qav=true:=by rfl)(hn:x≠"__name__" := by decide)
  (hdb:(x==("__debug__" : Str))=false:=by decide):QE X (.Call (.Name x p) (e::es) [] pos) (tCB r tA):=⟨pcb hc hg hm hv ha.u hp hn hdb⟩
theorem qct{T:String}{r:List V->Hp->VK->Prop}(hc:CallR X (.type T) r)(hg:Gl X x)(hm:X.mg x=none)(hv:bootBuiltins x=some (.type T))(ha:QA X (e::es) tA)(hp:(e::es).all qav=true:=by rfl)(hn:x≠"__name__" := by decide)
  (hdb:(x==("__debug__" : Str))=false:=by decide):QE X (.Call (.Name x p) (e::es) [] pos) (tCB r tA):=⟨pct hc hg hm hv ha.u hp hn hdb⟩
theorem qbm{T id:String}{r:V->List V->Hp->VK->Prop}(pa:PlainAttrs T)(slot:Slot T name id)(hty:typeOf (.builtin id)=pure (.type "method_descriptor"))(hm:MtR X id r)(ho:QE X o to)(ha:QA X (e::es) tA)(hp:(e::es).all qav=true:=by rfl)
  (hfew:decide ((e::es).length<30)=true:=by rfl) (hbase:attributeBase o name X.env (eval o X.env)=eval o X.env:=by rfl) (hline:(apos.endLine==cpos.line)=true:=by rfl) :
  QE X (.Call (.Attribute o name apos) (e::es) [] cpos) (tBM X.K T r to tA):=⟨pbm pa slot hty hm ho.u ha.u hp hfew hbase hline⟩
theorem qbm0{T id:String}{r:V->List V->Hp->VK->Prop}(pa:PlainAttrs T)(slot:Slot T name id)(hty:typeOf (.builtin id)=pure (.type "method_descriptor"))(hm:MtR X id r)(ho:QE X o to)(hbase:attributeBase o name X.env (eval o X.env)=eval o X.env:=by rfl)
  (hline:(apos.endLine==cpos.line)=true:=by rfl):QE X (.Call (.Attribute o name apos) [] [] cpos) (tBM0 X.K T r to):=⟨q4o pa slot hty hm ho.u hbase hline⟩
theorem q18{op:CmpOp}{r:R2}(ho:OpR X (compareOp op) r)(ha:QE X a ta)(hb:QE X b tb)(hm:behindInMarks op b=false):QT X (.Compare a [op] [b] pos) (qx2 (tOp r ta tb)):=⟨q1s ho ha.u hb.u hm⟩
theorem qxj{op op':CmpOp}{r r':R2}(ho:OpR X (compareOp op) r)(ho':OpR X (compareOp op') r')(ha:QE X a ta)(hb:QE X b tb)(hc:QE X c tc)(hm:lastMarks [op,op'] [b,c]=false:=by with_unfolding_all rfl) :
  QT X (.Compare a [op,op'] [b,c] pos) (qx2 (qum r r' ta tb tc)):=⟨qxb ho ho' ha.u hb.u hc.u hm⟩
theorem q5l(h:QT X a tT):QT X (.UnaryOp .Not a pos) (tNot tT):=⟨q43 h.u⟩
theorem q5m(h:QE X e te)(he:∀whole,isTrue e X.env whole=(do let v ←whole;standAt e.pos;holding [v] (truthy v)):=by intro _;rfl):QT X e (tB te):=⟨q44 h.u he⟩
theorem q19(h:QT X a tT):QW X (.BoolOp .And [a] pos) tT:=⟨q1u h.u⟩
theorem q5o(h:QT X a tT):QW X (.BoolOp .Or [a] pos) tT:=⟨q46 h.u⟩
theorem q5n(ha:QT X a tT)(hb:QW X (.BoolOp .And (b::es) pos) tU):QW X (.BoolOp .And (a::b::es) pos) (tAnd tT tU):=⟨q45 ha.u hb.u⟩
theorem q7l(ha:QT X a tT)(hb:QW X (.BoolOp .Or (b::es) pos) tU):QW X (.BoolOp .Or (a::b::es) pos) (tOr tT tU):=⟨q7g ha.u hb.u⟩
theorem qw_t(h:QW X e tT):QT X e tT:=⟨h.u.pt⟩
theorem q7k{tg:Expr}(hg:Gl X "range")(hm:X.mg "range" = none)(ha:QA X [a] tA)(hp:qav a=true:=by rfl):QI X tg (.Call (.Name "range" p) [a] [] pos) (q0a tA):=⟨q7e hg hm ha.u hp⟩
theorem q10{i:Nat}(hN:X.N.Nodup)(hi:X.N[i]?=some x)(hx:Loc X.env.scope x)(hf:X.fn x=true\/X.env.scope.names.lookup x=some .local:=by first|exact .inl rfl|exact .inr rfl|assumption):QG X (.Name x pos) (qqa i):=⟨q1h hN hi hx hf⟩
theorem q11:QGs X [] gNil:=⟨q1i⟩
theorem qxg{g:TG}{gs:TGs}(h1:QG X e g)(h2:QGs X es gs)(hs:(assignEach (e::es) X.env).map (·.2)=assign e X.env::(assignEach es X.env).map (·.2):=by rfl):QGs X (e::es) (q3u g gs):=⟨qw6 h1.u h2.u hs⟩
theorem q5f{k:Nat}{gs:TGs}{n:Nat}(hc:X.calm=true)(h:QGs X es gs)(hn:(assignEach es X.env).length=n:=by rfl)(hst:(assignEach es X.env).findIdx? (·.1)=none:=by rfl):QG X (.Tuple es k pos) (gTup X.K n gs):=⟨q4x hc h.u hn hst⟩
theorem q13:QF X [] fNil:=⟨q1j⟩
theorem q14(h:QT X c tT):QF X [c] (fOne tT):=⟨q1k h.u⟩
theorem q1v{tg iter elt:Expr}{ifs:List Expr}{csc:Scope}{NB M:List Str}{wi:TI}{g:TG}{ti:TF}(hi:QI X tg iter wi)(hc:X.calm=true)(S:CompScope X.env.scope X.N NB M csc)
  (hg:∀cl C s₀ H₀ fp pn,QG (cxC X NB csc cl C s₀ H₀ fp pn) tg g) (hf:∀cl C s₀ H₀ fp pn,QF (cxC X NB csc cl C s₀ H₀ fp pn) ifs ti) (he:∀cl C s₀ H₀ fp pn,QE (cxC X NB csc cl C s₀ H₀ fp pn) elt te)
  (hs:∀x,foldedSetIterable iter X.env x=pure x:=by intro _;rfl):QC X (.ListComp elt [⟨tg,iter,ifs,0⟩] csc pos) (q2p wi g ti te M.length) :=
 ⟨q1b hi.u hc S (λcl C s₀ H₀ fp pn=>(hg cl C s₀ H₀ fp pn).u) (λcl C s₀ H₀ fp pn=>(hf cl C s₀ H₀ fp pn).u) (λcl C s₀ H₀ fp pn=>(he cl C s₀ H₀ fp pn).u) hs⟩
theorem qc_e(h:QC X e te):QE X e te:=⟨h.u.pe⟩
end
theorem Fun.okQ{P:Program}{w:World}{K:PySem.W.Frag}{mg:Str->Option Value}{base:Heap}{x qual:Str}{st:Stmt}{f:Addr}{fd:FuncData}{N ps:List Str}{k:Nat}{sp:Sp}(F:Fun K x qual st f fd)(S:FnScope N ps (qae st))(len:∀vs H Q E,sp vs H Q E->vs.length=ps.length)
  (hbody:∀(cdv:Value) (A:Around) (outer:List Env) (s:Shared) (H:Hp) (vs:List V) (Q:VK) (E:XK),Room k (A.deeper (envOfC qual (qae st) s.heap.objs.size f cdv))->sp vs H Q E ->
   ∃t,QSs (cxOf CX0 P w K mg base N qual (qae st) f cdv A outer s H E).nox (qbg st) t/\t { nx:=λ_ H'=>Q .non H',rt:=Q } (start N vs) H):FnOk P w K mg base CX0 (k+1) f fd ps sp :=
 F.ok S len λcdv A outer s H vs Q E hr hsp=>let ⟨t,h,q⟩:=hbody cdv A outer s H vs Q E hr hsp;⟨t,h.u,q⟩
end L2
namespace L2
open PySem PySem.Spec PyProof.Rows
def FlR(h:Heap)(a:Addr)(C:Value):Prop:=∃oa vs,h.get? a=some oa/\(oa.cls=C/\oa.dict=none)/\oa.data=.fields vs/\vs[1]?=some .none
def FlT(h:Heap)(a:Addr)(C:Value)(T:Addr)(fl:Value):Prop :=
 ∃oa vs oT ts,h.get? a=some oa/\(oa.cls=C/\oa.dict=none)/\oa.data=.fields vs/\vs[1]?=some (.ref T)/\T≠a/\h.get? T=some oT/\oT.data=.fields ts/\ts[3]?=some fl
def Fly(h:Heap)(a:Addr)(C:Value):List Addr->Prop
|[]=>FlR h a C
|T::r=>r=[]/\FlT h a C T .none
theorem qtn(o:Obj)(f:Array Value->Array Value):(o.mapFields f).dict=o.dict:=by
 cases o with|mk c d dt sl=>cases dt<;>rfl
structure Nk(fs ch:List Addr)(h g:Heap):Prop where
 keep:∀b o,b∉fs->b∉ch->h.get? b=some o->g.get? b=some o
 slot:∀b o,b∈fs->b∉ch->h.get? b=some o->∃sl,g.get? b=some { o with slots:=sl }
 there:∀b o,h.get? b=some o->∃u,g.get? b=some u
theorem FlT.thing{h:Heap}{a T:Addr}{C fl:Value}(f:FlT h a C T fl):∃oa,h.get? a=some oa/\(oa.cls=C/\oa.dict=none)/\PySem.W.notCls oa=true:=by
 obtain⟨oa,_,_,_,ha,hc,hd,_⟩:=f
 exact⟨oa,ha,hc,by unfold PySem.W.notCls;rw[hd]⟩
theorem FlT.there{h:Heap}{a T:Addr}{C fl:Value}(f:FlT h a C T fl):∃oa,h.get? a=some oa/\oa.cls=C:=by
 obtain⟨oa,ha,hc,_⟩:=f.thing
 exact⟨oa,ha,hc.1⟩
theorem qh7{h:Heap}{a b:Addr}{oa o:Obj}{vs:Array Value}{i:Nat}{x:Value}(ha:h.get? a=some oa)(hd:oa.data=.fields vs)(e:h.get? b=some o):∃u,(h.update a (Obj.mapFields (·.setIfInBounds i x))).get? b=some u:=by
 by_cases hb:b=a
 ·subst hb
  exact⟨_,Heap.get?_update_self _ ha (Obj.isFreed_of_fields (Obj.data_mapFields hd _))⟩
 ·exact⟨o,by rw[Heap.get?_update_other _ _ (Ne.symm hb)];exact e⟩
section
variable {M:Model} {A:Around} {E:Value->Shared->Prop} {s:Shared} {base:Heap} {env:Env} {outer:List Env} {L a T:Addr} {C:Value}
theorem qi3{oa:Obj}{vs:Array Value}{head:Value}{more:Bool}{Q:Unit->Shared->Prop}(hfr:A.frames=some (env::outer))(hl:s.heap.FunFrames base (env::outer))(hf:env.frame=some L)
  (ha:s.heap.get? a=some oa) (hdn:oa.dict=none) (hd:oa.data=.fields vs) (hz:1<vs.size) (k:∀g T,Nk (frs (env::outer)) [a] s.heap g->s.heap.objs.size<=T->FlT g a oa.cls T (rawInt L)->Q () { s with heap:=g }) :
  wpAny M A (do let fr ←frameOf env;let pl ←entryPlaceOf L more;let b ←EntryCells.newEntry head fr .none (rawInt L) .none pl;setField (.ref a) 1 b) Q E s:=by
 have nofr:a∉frs (env::outer):=λhm=>by
  obtain⟨_,o,ho,no⟩:=hl.mem hm
  rw[ha] at ho
  cases ho
  exact no vs hd
 refine wpAny_bind (wpAny_frameOf_fun hfr hl hf λg1 so=>wpAny_bind (wpAny_entryPlaceOf λpl ip=>?_))
 unfold EntryCells.newEntry newFields
 refine wpAny_bind (wpAny_newObj_type ?_ (ip.sizeOk5 _ _ _ _ _))
 have a1:g1.get? a=some oa:=(so.2.1 a nofr).trans ha
 have lt1:a<g1.objs.size:=Heap.lt_size a1
 refine wpAny_setField (Heap.get?_push_of_some _ a1) hd hz (k _ g1.objs.size ⟨λb o nb nc e=>?_,λb o mb nc e=>?_,λb o e=>?_⟩ (by rw[so.1];exact Nat.le_refl _) ?_)
 ·have hb:b≠a:=λz=>nc (by simp[z])
  rw[Heap.get?_update_other _ _ (Ne.symm hb)]
  exact Heap.get?_push_of_some _ ((so.2.1 b nb).trans e)
 ·have hb:b≠a:=λz=>nc (by simp[z])
  obtain⟨sl,q⟩:=so.2.2 b o e
  exact⟨sl,by rw[Heap.get?_update_other _ _ (Ne.symm hb)];exact Heap.get?_push_of_some _ q⟩
 ·obtain⟨sl,q⟩:=so.2.2 b o e
  exact qh7 (Heap.get?_push_of_some _ a1) hd (Heap.get?_push_of_some _ q)
 ·have hne:g1.objs.size≠a:=Nat.ne_of_gt lt1
  refine⟨_,_,_,_,Heap.get?_update_self _ (Heap.get?_push_of_some _ a1) (Obj.isFreed_of_fields (Obj.data_mapFields hd _)),⟨Obj.cls_mapFields _ _,(qtn _ _).trans hdn⟩,Obj.data_mapFields hd _,(by simp[hz]),hne,(Heap.get?_update_other _ _ (Ne.symm hne)).trans (Heap.get?_push_size g1 rfl),rfl,?_⟩
  first
  |(simp;done)
  |(rcases ip with rfl|⟨_,_,_,_,_,_,_,rfl⟩<;>simp)
theorem qws{Q:Unit->Shared->Prop}(hfr:A.frames=some (env::outer))(hl:s.heap.FunFrames base (env::outer))(hf:env.frame=some L)(r:FlR s.heap a C)
  (k:∀g T,Nk (frs (env::outer)) [a] s.heap g->s.heap.objs.size<=T->FlT g a C T (rawInt L)->Q () { s with heap:=g }):wpAny M A (noteFrame (.ref a) env) Q E s:=by
 obtain⟨oa,vs,ha,⟨hc,hdn⟩,hd,h1⟩:=r
 subst hc
 unfold noteFrame
 simp only[hf]
 refine wpAny_bind (wpAny_field ha hd h1 ?_)
 rw[if_neg (by decide)]
 exact qi3 hfr hl hf ha hdn hd (Array.getElem?_eq_some_iff.mp h1).1 k
theorem q0u{Q:Unit->Shared->Prop}(hfr:A.frames=some (env::outer))(hl:s.heap.FunFrames base (env::outer))(hf:env.frame=some L)(r:FlT s.heap a C T .none)
  (k:∀g U,Nk (frs (env::outer)) [a,T] s.heap g->s.heap.objs.size<=U->FlT g a C U (rawInt L)->Q () { s with heap:=g }):wpAny M A (noteFrame (.ref a) env) Q E s:=by
 obtain⟨oa,vs,oT,ts,ha,⟨hc,hdn⟩,hd,h1,ne,hT,hdT,h3⟩:=r
 subst hc
 unfold noteFrame
 simp only[hf]
 refine wpAny_bind (wpAny_field ha hd h1 ?_)
 rw[if_pos (show (Value.ref T != Value.none)=true by simp)]
 refine wpAny_bind (wpAny_field hT hdT h3 ?_)
 rw[if_neg (show ¬ ((Value.none==rawInt L)=true) by simp[rawInt])]
 refine wpAny_bind (wpAny_setField hT hdT (Array.getElem?_eq_some_iff.mp h3).1 ?_)
 have oth:∀b,b≠T->(s.heap.update T (Obj.mapFields (·.setIfInBounds 3 Value.none))).get? b=s.heap.get? b:=λb hb=>Heap.get?_update_other _ _ (Ne.symm hb)
 have hl2:(s.heap.update T (Obj.mapFields (·.setIfInBounds 3 Value.none))).FunFrames base (env::outer):=hl.of_keeps λb o e no=>⟨o,(oth b λz=>by subst z;rw[hT] at e;cases e;exact no ts hdT).trans e,rfl⟩
 refine qi3 (s:={ s with heap:=s.heap.update T (Obj.mapFields (·.setIfInBounds 3 Value.none)) }) hfr hl2 hf ((oth a (Ne.symm ne)).trans ha) hdn hd (Array.getElem?_eq_some_iff.mp h1).1 λg U nk sz fl=>k g U ⟨λb o nb nc e=>?_,λb o mb nc e=>?_,λb o e=>?_⟩ ?_ fl
 ·have hb:b≠T:=λz=>nc (by simp[z])
  exact nk.keep b o nb (λz=>nc (by simp at z;simp[z])) ((oth b hb).trans e)
 ·have hb:b≠T:=λz=>nc (by simp[z])
  exact nk.slot b o mb (λz=>nc (by simp at z;simp[z])) ((oth b hb).trans e)
 ·obtain⟨u,q⟩:=qh7 (i:=3) (x:=Value.none) hT hdT e
  exact nk.there b u q
 ·have e:(s.heap.update T (Obj.mapFields (·.setIfInBounds 3 Value.none))).objs.size=s.heap.objs.size:=Heap.size_after_update ..
  rw[←e]
  exact sz
theorem qha{fl:Value}{Q:Unit->Shared->Prop}(r:FlT s.heap a C T fl)(k:∀g,Nk [] [T] s.heap g->FlT g a C T .none->g.objs.size=s.heap.objs.size->Q () { s with heap:=g }):wpAny M A (setFlight (.ref a) none) Q E s:=by
 obtain⟨oa,vs,oT,ts,ha,hc,hd,h1,ne,hT,hdT,h3⟩:=r
 have h3z:=(Array.getElem?_eq_some_iff.mp h3).1
 have oth:∀b,b≠T->(s.heap.update T (Obj.mapFields (·.setIfInBounds 3 Value.none))).get? b=s.heap.get? b:=λb hb=>Heap.get?_update_other _ _ (Ne.symm hb)
 refine wpAny_setFlight_none ha hd h1 hT hdT h3z (k _ ⟨λb o _ nc e=>(oth b λz=>nc (by simp[z])).trans e,λb o mb _ _=>(nomatch mb),λb o e=>qh7 hT hdT e⟩ ?_ (Heap.size_after_update ..))
 exact⟨oa,vs,_,_,(oth a (Ne.symm ne)).trans ha,hc,hd,h1,ne,Heap.get?_update_self _ hT (Obj.isFreed_of_fields (Obj.data_mapFields hdT _)),Obj.data_mapFields hdT _,by simp[h3z]⟩
theorem qk9{ts:List Addr}{Q:Unit->Shared->Prop}(hfr:A.frames=some (env::outer))(hl:s.heap.FunFrames base (env::outer))(hf:env.frame=some L)(r:Fly s.heap a C ts)
  (k:∀g U,Nk (frs (env::outer)) (a::ts) s.heap g->s.heap.objs.size<=U->FlT g a C U .none->Q () { s with heap:=g }) :
  wpAny M A (noteFrame (.ref a) env) (λ_ s2=>wpAny M A (setFlight (.ref a) none) Q E s2) E s:=by
 have fin:∀(ch:List Addr) (g:Heap) (U:Addr),(∀b∈ch,b∈a::ts)->Nk (frs (env::outer)) ch s.heap g->s.heap.objs.size<=U->FlT g a C U (rawInt L)->wpAny M A (setFlight (.ref a) none) Q E { s with heap:=g }:=λch g U sub nk sz fl=>by
  refine qha (s:={ s with heap:=g }) fl λg2 nk2 fl2 _=>k g2 U ⟨λb o nb nc e=>?_,λb o mb nc e=>?_,λb o e=>?_⟩ sz fl2
  ·have hU:b≠U:=Nat.ne_of_lt (Nat.lt_of_lt_of_le (Heap.lt_size e) sz)
   exact nk2.keep b o (by simp) (by simpa using hU) (nk.keep b o nb (λz=>nc (sub b z)) e)
  ·have hU:b≠U:=Nat.ne_of_lt (Nat.lt_of_lt_of_le (Heap.lt_size e) sz)
   obtain⟨sl,q⟩:=nk.slot b o mb (λz=>nc (sub b z)) e
   exact⟨sl,nk2.keep b _ (by simp) (by simpa using hU) q⟩
  ·obtain⟨u,q⟩:=nk.there b o e
   exact nk2.there b u q
 cases ts with
|nil=>exact qws hfr hl hf r λg U nk sz fl=>fin [a] g U (λb hb=>by simpa using hb) nk sz fl
|cons T r' =>
  obtain⟨hr,r⟩:=r
  subst hr
  exact q0u hfr hl hf r λg U nk sz fl=>fin [a,T] g U (λb hb=>by simpa using hb) nk sz fl
end
section
variable {X:Cx} {pins:List (Addr×Obj)} {σ:St} {H:Hp} {s:Shared} {a:Addr} {ts:List Addr} {C:Addr}
def FpN(X:Cx)(pins:List (Addr×Obj))(H:Hp)(b:Addr):Prop :=
 H b=none/\b≠X.env.locals/\b∉X.fs/\X.s₀.heap.get? b=none/\(∀x c,X.env.cells.lookup x=some c->c≠b)/\∀p∈X.pn++pins,p.1≠b
theorem Inv.fpN{H':Hp}{b:Addr}(I:Inv X pins σ H s)(hx:X.ex=[])(hb:s.heap.get? b=none)(hn:H' b=none):FpN X pins H' b:=by
 have no:∀(d:Addr) (o:Obj),X.s₀.heap.get? d=some o->d≠b:=λd o e z=>by
  obtain⟨o',e'⟩:=I.base.there d o e (by rw[hx];exact λy=>nomatch y)
  rw[z,hb] at e'
  cases e'
 refine⟨hn,λz=>?_,λz=>?_,?_,λx c e z=>?_,λp hp z=>?_⟩
 ·obtain⟨m,⟨o,_,_,ho,_⟩,_⟩:=I.loc
  rw[←z,hb] at ho
  cases ho
 ·obtain⟨_,o,ho,_⟩:=I.ok.funs.mem z
  exact no b o ho rfl
 ·cases q:X.s₀.heap.get? b with
 |none=>rfl
 |some o=>exact absurd rfl (no b o q)
 ·obtain⟨v,o,ho,_⟩:=I.cell x c e
  rw[z,hb] at ho
  cases ho
 ·have e:=(I.pin p hp).1
  rw[z,hb] at e
  cases e
theorem Inv.exMore{ch:List Addr}(I:Inv X pins σ H s)(f:∀b∈ch,FpN X pins H b):Inv { X with ex:=ch++X.ex } pins σ H s:=by
 refine⟨⟨I.ok.mod,I.ok.kind,I.ok.glob,I.ok.blt,I.ok.above,I.ok.inj,I.ok.has,I.ok.cab,I.ok.hd,I.ok.frames,I.ok.stk,λb hb=>?_,I.ok.bs,I.ok.bsz,λb o e hb=>?_,λb hb=>?_,I.ok.funs,I.ok.frf⟩,I.os,I.bare,
  ⟨λb o e n h1 h2=>?_,λb o e n h1 h2=>?_,λb o e n h2=>?_,λb o e h2=>?_,I.base.tups,I.base.frzs,I.base.tbls⟩,I.loc,I.cell,I.free,I.freeC,I.pin,I.hok,I.len⟩
 ·rcases List.mem_append.mp hb with z|z
  ·exact⟨(f b z).2.1,(f b z).2.2.2.2.1⟩
  ·exact I.ok.exf b z
 ·rcases List.mem_append.mp hb with z|z
  ·have q:=(I.ok.bs b o e).1
   rw[(f b z).2.2.2.1] at q
   cases q
  ·exact I.ok.noex b o e z
 ·rcases List.mem_append.mp hb with z|z
  ·exact(f b z).2.2.1
  ·exact I.ok.exfs b z
 ·exact I.base.keep b o e n h1 λz=>h2 (List.mem_append.mpr (.inr z))
 ·exact I.base.slot b o e n h1 λz=>h2 (List.mem_append.mpr (.inr z))
 ·exact I.base.free b o e n λz=>h2 (List.mem_append.mpr (.inr z))
 ·exact I.base.there b o e λz=>h2 (List.mem_append.mpr (.inr z))
theorem Inv.exLess{ch:List Addr}(ok:X.Ok)(f:∀b∈ch,X.s₀.heap.get? b=none)(I:Inv { X with ex:=ch++X.ex } pins σ H s):Inv X pins σ H s:=by
 have no:∀(b:Addr) (o:Obj),X.s₀.heap.get? b=some o->b∉X.ex->b∉ch++X.ex:=λb o e hx z=>by
  rcases List.mem_append.mp z with z|z
  ·rw[f b z] at e
   cases e
  ·exact hx z
 exact⟨ok,I.os,I.bare,⟨λb o e n h1 h2=>I.base.keep b o e n h1 (no b o e h2),λb o e n h1 h2=>I.base.slot b o e n h1 (no b o e h2),λb o e n h2=>I.base.free b o e n (no b o e h2),λb o e h2=>I.base.there b o e (no b o e h2),I.base.tups,I.base.frzs,I.base.tbls⟩,
  I.loc,I.cell,I.free,I.freeC,I.pin,I.hok,I.len⟩
theorem Inv.noted{g:Heap}(I:Inv X pins σ H s)(fa:∀b∈a::ts,FpN X pins H b)(nk:Nk (frs X.stack) (a::ts) s.heap g):Inv X pins σ H { s with heap:=g }:=by
 have trk:∀c u,H c=some u->c∉frs X.stack/\c∉a::ts:=λc u e=>⟨λz=>(by rw[I.stkFree c z] at e;cases e),λz=>(by rw[(fa c z).1] at e;cases e)⟩
 have hok:HOk X.prog X.w H g:=λb u e=>(I.hok b u e).stay (λc v hc q=>by
  rcases hc with z|z
  ·rw[z] at q ⊢
   exact nk.keep b v (trk b u e).1 (trk b u e).2 q
  ·exact nk.keep c v (trk c _ z).1 (trk c _ z).2 q) (λ_ q=>q) λ_ _ q=>q
 have I1:=I.exMore fa
 refine Inv.exLess I.ok (λb hb=>(fa b hb).2.2.2.1) (I1.call (g':=s.gens) (t':=s.toks) (d':=s.drawn) (ch:=a::ts) ⟨λb o e _ hb hx=>nk.keep b o hb hx e,λb o e _ hb hx=>nk.slot b o hb hx e,λ_ _ _ n _=>n,λb o e _=>nk.there b o e,λ_ _ q=>q,λ_ _ _ q=>q,λ_ ps q=>⟨#[],by rw[q];simp⟩⟩ hok I.bare
  λb hb=>⟨.inl (List.mem_append.mpr (.inl hb)),(fa b hb).2.1,(fa b hb).2.2.2.2.1,(fa b hb).2.2.2.2.2⟩)
def FlyX(X:Cx)(pins:List (Addr×Obj))(H:Hp)(s:Shared)(a C:Addr):Prop:=∃ts,(∀b∈a::ts,FpN X pins H b)/\Fly s.heap a (.ref C) ts
def Out(X:Cx)(EX:St->XK):Prop:=∀(pins:List (Addr×Obj)) (σ:St) (H:Hp) (s:Shared) (a C:Addr),Inv X pins σ H s->FlyX X pins H s a C->EX σ (.ref C) none H->X.xe (.ref a) s
end
def CXR(P:Program)(w:World):CXT:=λouter H s E e s'=>∃a C H' T,e=.ref a/\s'.os=s.os/\AllBare s'.gens/\Un (frs outer) [] H H' s.heap s'.heap/\HOk P w H' s'.heap/\FlT s'.heap a (.ref C) T .none /\
 s.heap.get? a=none/\s.heap.get? T=none/\H' a=none/\H' T=none/\E (.ref C) none H'
theorem Out.pass{X:Cx}{EX:St->XK}(o:Out X EX)(hx:X.ex=[]){pins:List (Addr×Obj)}{σ:St}{H:Hp}{s s':Shared}{e:Value}(I:Inv X pins σ H s)(h:CXR X.prog X.w X.stack H s (EX σ) e s'):X.xe e s':=by
 obtain⟨a,C,H',T,rfl,ho,hg,u,hok,fl,sa,sT,na,nT,q⟩:=h
 have I2:Inv X pins σ H' s':=I.call' (ch:=[]) ho (u.mono (λ_ z=>z) λ_ z=>z) hok hg λb hb=>nomatch hb
 refine o pins σ H' s' a C I2 ⟨[T],λb hb=>?_,rfl,fl⟩ q
 rcases List.mem_cons.mp hb with z|z
 ·subst z
  exact I.fpN hx sa na
 ·have z':b=T:=by simpa using z
  subst z'
  exact I.fpN hx sT nT
section
variable {P:Program} {w:World} {K:PySem.W.Frag} {mg:Str->Option Value} {base:Heap}
theorem q07{N:List Str}{qual:Str}{scope:Scope}{f:Addr}{cd:Value}{A:Around}{outer:List Env}{s:Shared}{H:Hp}{E:XK}:Out (cxOf (CXR P w) P w K mg base N qual scope f cd A outer s H E) λ_=>E:=by
 intro pins σ H' s' a C I fly e
 obtain⟨ts,fa,r⟩:=fly
 show wpAny (model P w) (A.deeper (envOfC qual scope s.heap.objs.size f cd)) (leaving (envOfC qual scope s.heap.objs.size f cd) (.ref a)) _ _ s'
 unfold leaving
 refine wpAny_bind (qk9 (L:=s.heap.objs.size) I.ok.frames I.stack rfl r λg U nk sz fl=>?_)
 have I2:=I.noted fa nk
 have old:∀b,b∈a::ts->s.heap.get? b=none:=λb hb=>(fa b hb).2.2.2.1
 exact⟨a,C,H',U,rfl,I2.os,I2.bare,I2.base,I2.hok,fl,old a List.mem_cons_self,Heap.get?_none_of_le (Nat.le_trans I.sz sz),(fa a List.mem_cons_self).1,I.hok.fresh sz,e⟩
theorem Fun.okX{x qual:Str}{st:Stmt}{f:Addr}{fd:FuncData}{N ps:List Str}{k:Nat}{sp:Sp}(F:Fun K x qual st f fd)(S:FnScope N ps (qae st))(len:∀vs H Q E,sp vs H Q E->vs.length=ps.length)
  (hbody:∀(cdv:Value) (A:Around) (outer:List Env) (s:Shared) (H:Hp) (vs:List V) (Q:VK) (E:XK),Room k (A.deeper (envOfC qual (qae st) s.heap.objs.size f cdv))->sp vs H Q E ->
   Out (cxOf (CXR P w) P w K mg base N qual (qae st) f cdv A outer s H E) (λ_=>E) ->
   ∃t,QSs (cxOf (CXR P w) P w K mg base N qual (qae st) f cdv A outer s H E) (qbg st) t/\t { nx:=λ_ H'=>Q .non H',rt:=Q } (start N vs) H):FnOk P w K mg base (CXR P w) (k+1) f fd ps sp:=by
 obtain⟨oc,od,kV,doc,pm,an,cdv,ct,osl,rfl,lk,hcd⟩:=F.ex
 refine q3t lk hcd S len λA outer s H vs Q E hr hsp=>?_
 obtain⟨t,h,q⟩:=hbody cdv A outer s H vs Q E hr hsp q07
 exact⟨t,h.u,q⟩
end
inductive CalX(P:Program)(w:World)(K:PySem.W.Frag)(mg:Str->Option Value)(base:Heap)(k:Nat)(x:Str)(ps:List Str)(sp:Sp):Prop where
|mk {f:Addr} {fd:FuncData} (F:FnOk P w K mg base (CXR P w) k f fd ps sp) (hm:mg x=some (.ref f)) (hk:PySem.W.keepIn K (.ref f)=true) (hb:Binds K fd ps [])
def qzd(sp:Sp)(EX:St->XK)(t:TA):TE:=λσ H Q=>t σ H λvs H1=>sp (vs++[]) H1 Q (EX σ)
section
variable {X:Cx} {k:Nat} {ps:List Str} {sp:Sp} {x:Str} {p pos:Pos} {e:Expr} {es:List Expr} {t:TA} {EX:St->XK}
theorem q50{f:Addr}{fd:FuncData}{pins:List (Addr×Obj)}{σ:St}{H:Hp}{s:Shared}{Q:VK}{us:List Value}{vs:List V}(F:FnOk X.prog X.w X.K X.mg X.base (CXR X.prog X.w) k f fd ps sp)(hr:Room k X.A)(hb:Binds X.K fd ps [])(o:Out X EX)(hx:X.ex=[])
  (I:Inv X pins σ H s) (r:Vals vs us) (h:sp (vs++[]) H Q (EX σ)):wpAny (model X.prog X.w) X.A (call (.ref f) us) (EP X pins σ Q) X.xe s:=by
 have rr:Vals (vs++[]) (us++[]):=r.append .nil
 have ll:(us++[]).length=ps.length:=rr.length▸F.len _ _ _ _ h
 have run:=F.run X.A X.stack s H ⟨us,[]⟩ (us++[]) (vs++[]) Q (EX σ) hr I.env0 (hb s us I.kIn ll) rr h
 refine wpAny_call (codeAny_mono run fun
 |.error _,_,z=>o.pass hx I z
 |.ok (.ret _),_,z=>I.after z
 |.ok .next,_,z=>z.elim
 |.ok .brk,_,z=>z.elim
 |  .ok .cont,_,z=>z.elim)
theorem qt8(C:CalX X.prog X.w X.K X.mg X.base k x ps sp)(o:Out X EX)(hr:Room k X.A)(hg:Gl X x)(ha:QA X (e::es) t)(hx:X.ex=[]:=by rfl)(hp:(e::es).all qav=true:=by rfl)(hdb:(x==("__debug__" : Str))=false:=by decide) :
  QE X (.Call (.Name x p) (e::es) [] pos) (qzd sp EX t):=by
 cases C with
|mk F hm hk hb =>
  refine⟨λpins s σ H Q I h=>wpAny_Call_Name_kw (qhf I hg hm ?_ hdb)⟩
  exact PySem.W.callWith_K (h₀:=X.base) I.ok.mod.kin hk (thn (ha.u pos pins s σ H _ I h) λus s1 ⟨vs,H1,I1,r,q⟩=>⟨I1.kIn,q50 F hr hb o hx I1 r q⟩) (qbv (all2 hp).1) (qdc (all2 hp).2)
end
abbrev bmV:List Value:=[.type "ValueError",.type "Exception",.type "BaseException",.type "object"]
abbrev OwnX(K:PySem.W.Frag)(C:Addr):Prop:=PySem.W.excIn K C bmV "ValueError.__new__" = true
theorem qt1{K:PySem.W.Frag}{h:Heap}{C:Addr}(X:K.In h)(q:OwnX K C):∃bm N nm qn bs hdct sn sub ab col dd k0 k1 k2 k3 k5 mN,
  h.get? C=some (excClassObj nm qn C N bs bm hdct sn sub ab col dd k0 k1 k2 k3 k5 "ValueError.__new__")/\h.Ns N mN/\mN "__init__" = none/\OwnTail h bmV bm:=by
 unfold OwnX PySem.W.excIn at q
 split at q
 ·rename_i dct cld slt look
  split at q
  ·rename_i C1 rest j0 j1 j2 j3 nw j5 em es
   simp only[Bool.and_eq_true,beq_iff_eq,Bool.not_eq_true'] at q
   obtain⟨⟨⟨⟨⟨c1,c2⟩,c3⟩,c4⟩,c5⟩,c6⟩:=q
   subst c1 c2
   cases cld with
  |mk nm bs mro ns qn hd sn sub ab col del =>
    obtain⟨l⟩:=slt
    dsimp only at em es c3 c5 c6
    subst em c3 es
    exact⟨rest,ns,nm,qn,bs,hd,sn,sub,ab,col,dct,j0,j1,j2,j3,j5,_,X _ _ look,.of_isNs (PySem.W.isNs_of_in X c5),PySem.W.nsMap_none_of_in X c5 c6,PySem.W.tail_of_in X c4⟩
  ·cases q
 ·cases q
theorem ObjOk.here{P:Program}{w:World}{H:Hp}{h:Heap}{a:Addr}{o:HO}(x:ObjOk P w H h a o):∃ob,h.get? a=some ob:=by
 cases o with
|lst xs=>obtain⟨_,_,_,_,e⟩:=x;exact⟨_,e⟩
|tup xs=>obtain⟨_,_,_,p⟩:=x;obtain⟨ob,e,_⟩:=p;exact⟨ob,e⟩
|dK kvs=>obtain⟨_,_,_,_,ob,_,_,e,_⟩:=x;exact⟨_,e⟩
|dT kvs=>obtain⟨_,_,_,_,ob,_,_,e,_⟩:=x;exact⟨_,e⟩
|set S n=>obtain⟨ob,_,_,_,e,_⟩:=x;exact⟨_,e⟩
|ins C dx fs=>obtain⟨_,_,_,e,_⟩:=x;exact⟨_,e⟩
|own y=>exact x
|xd fs=>obtain⟨_,⟨_,_,_,e,_⟩,_⟩:=x;exact⟨_,e⟩
|met f y=>exact⟨_,x⟩
|rng lo hi=>obtain⟨_,_,_,e⟩:=x;exact⟨_,e⟩
|frz ob u=>exact⟨_,x.1⟩
|tbl ps=>exact⟨_,x⟩
|ext φ=>exact x.2.1
section
variable {X:Cx} {pins:List (Addr×Obj)} {σ:St} {H:Hp} {s:Shared}
theorem Inv.grown{h':Heap}(I:Inv X pins σ H s)(k:∀b o,s.heap.get? b=some o->h'.get? b=some o):Inv X pins σ H { s with heap:=h' }:=by
 refine I.call (g':=s.gens) (t':=s.toks) (d':=s.drawn) (ch:=[]) ⟨λb o e _ _ _=>k b o e,λb o e _ _ _=>⟨o.slots,k b o e⟩,λ_ _ _ n _=>n,λb o e _=>⟨o,k b o e⟩,λ_ _ q=>q,λ_ _ _ q=>q,λ_ ps q=>⟨#[],by rw[q];simp⟩⟩
  (λb u e=>(I.hok b u e).stay (λc v _ q=>k c v q) (λ_ q=>q) λ_ _ q=>q) I.bare λb hb=>nomatch hb
def q6a(C:Addr)(EX:St->XK)(t:TA):TS:=λ_ σ H=>t σ H λvs H1=>vs.length<=sizeLine/\EX σ (.ref C) none H1
theorem qxh{x:Str}{C:Addr}{EX:St->XK}{np cpos pos:Pos}{e:Expr}{es:List Expr}{t:TA}(q:OwnX X.K C)(hm:X.mg x=some (.ref C))(hg:Gl X x)(hc:X.calm=true)(o:Out X EX)(ha:QA X (e::es) t)
  (hx:X.ex=[]:=by rfl) (hp:(e::es).all qav=true:=by rfl) (hdb:(x==("__debug__" : Str))=false:=by decide) :
  QS X (.Raise (some (.Call (.Name x np) (e::es) [] cpos)) none pos) (q6a C EX t):=by
 refine⟨λpins s σ H D I h=>?_⟩
 obtain⟨bm,N,nm,qn,bs,hdct,sn,sub,ab,col,dd,k0,k1,k2,k3,k5,mN,hC,hN,hni,T⟩:=qt1 I.ok.mod.kin q
 have st:starEach (e::es) X.env=(false,eval e X.env)::starEach es X.env:=qbv (all2 hp).1
 have pl:(backTo cpos (starEach es X.env)).any (·.1)=false:=qdc (all2 hp).2
 refine wpAny_Raise_call_subU (C:=C) (nm:=nm) (q:=qn) (N:=N) (bs:=bs) (bm:=bm) (hdct:=hdct) (sn:=sn) (sub:=sub) (ab:=ab) (col:=col) (dd:=dd) (k0:=k0) (k1:=k1) (k2:=k2) (k3:=k3) (k5:=k5)
  PySem.F.excBase_ValueError (by decide) PySem.F.excBase_ValueError (mN:=mN) (T.hasType PySem.F.excBase_ValueError.hasBase) (I.ok.hd hc) (by rw[st];show (false||(backTo cpos (starEach es X.env)).any (·.1))=false;rw[pl];rfl) hni (qhf I hg hm ⟨rfl,?_⟩ hdb)
 have run:=ha.u cpos pins s σ H _ I h
 rw[st] at run ⊢
 refine Calls.evalArgs_plain (thn run λus s1 ⟨vs,H1,I1,r,hl,qx⟩=>⟨rfl,by rw[←r.length];exact hl,I1.bk _ _ hC,hN.keeps I1.bk,T.keeps I1.bk,λh' a made=>?_⟩)
 obtain⟨tt,h1,h2,h3⟩:=made.there
 have I2:=I1.grown made.keeps
 have na:H1 a=none:=by
  cases z:H1 a with
 |none=>rfl
 |some u =>
   obtain⟨ob,eo⟩:=(I1.hok a u z).here
   rw[made.new] at eo
   cases eo
 exact o pins σ H1 _ a C I2 ⟨[],λb hb=>by
  have e:b=a:=by simpa using hb
  subst e
  exact I1.fpN hx made.new na,⟨_,_,h1,⟨rfl,rfl⟩,rfl,rfl⟩⟩ qx
end
abbrev Cx.tryB(X:Cx)(pn:List (Addr×Obj))(E:Value->Shared->Prop):Cx:={ X with pn:=pn,xe:=E }
abbrev Cx.hand(X:Cx)(e:Value)(pn:List (Addr×Obj))(E:Value->Shared->Prop):Cx:={ X with A:=X.A.mark (some e),calm:=false,pn:=pn,xe:=E }
section
variable {X:Cx} {pins pins':List (Addr×Obj)} {σ:St} {H:Hp} {s:Shared} {E:Value->Shared->Prop} {e:Value}
theorem Inv.tryB(I:Inv X pins σ H s):Inv (X.tryB (X.pn++pins) E) [] σ H s :=
 ⟨⟨I.ok.mod,I.ok.kind,I.ok.glob,I.ok.blt,I.ok.above,I.ok.inj,I.ok.has,I.ok.cab,I.ok.hd,I.ok.frames,I.ok.stk,I.ok.exf,I.ok.bs,I.ok.bsz,I.ok.noex,I.ok.exfs,I.ok.funs,I.ok.frf⟩,I.os,I.bare,I.base,I.loc,I.cell,I.free,I.freeC,
  λp hp=>I.pin p (by simpa using hp),I.hok,I.len⟩
theorem Inv.untryB(I:Inv (X.tryB (X.pn++pins) E) pins' σ H s):Inv X pins σ H s :=
 ⟨⟨I.ok.mod,I.ok.kind,I.ok.glob,I.ok.blt,I.ok.above,I.ok.inj,I.ok.has,I.ok.cab,I.ok.hd,I.ok.frames,I.ok.stk,I.ok.exf,I.ok.bs,I.ok.bsz,I.ok.noex,I.ok.exfs,I.ok.funs,I.ok.frf⟩,I.os,I.bare,I.base,I.loc,I.cell,I.free,I.freeC,
  λp hp=>I.pin p (List.mem_append.mpr (.inl hp)),I.hok,I.len⟩
theorem Inv.hand(I:Inv X pins σ H s):Inv (X.hand e (X.pn++pins) E) [] σ H s :=
 ⟨⟨I.ok.mod,I.ok.kind,I.ok.glob,I.ok.blt,I.ok.above,I.ok.inj,I.ok.has,I.ok.cab,(λz=>nomatch z),I.ok.frames,I.ok.stk,I.ok.exf,I.ok.bs,I.ok.bsz,I.ok.noex,I.ok.exfs,I.ok.funs,I.ok.frf⟩,I.os,I.bare,I.base,I.loc,I.cell,I.free,I.freeC,
  λp hp=>I.pin p (by simpa using hp),I.hok,I.len⟩
theorem Inv.unhand(ok:X.Ok)(I:Inv (X.hand e (X.pn++pins) E) pins' σ H s):Inv X pins σ H s :=
 ⟨ok,I.os,I.bare,I.base,I.loc,I.cell,I.free,I.freeC,λp hp=>I.pin p (List.mem_append.mpr (.inl hp)),I.hok,I.len⟩
theorem SP.untryB{D:Ends}{f:Flow}(h:SP (X.tryB (X.pn++pins) E) pins' D f s):SP X pins D f s:=by
 cases f with
|next=>obtain⟨_,_,I,q⟩:=h;exact⟨_,_,I.untryB,q⟩
|brk=>obtain⟨_,_,I,q⟩:=h;exact⟨_,_,I.untryB,q⟩
|cont=>obtain⟨_,_,I,q⟩:=h;exact⟨_,_,I.untryB,q⟩
|ret u=>obtain⟨_,_,_,I,r,q⟩:=h;exact⟨_,_,_,I.untryB,r,q⟩
theorem SP.unhand{D:Ends}{f:Flow}(ok:X.Ok)(h:SP (X.hand e (X.pn++pins) E) pins' D f s):SP X pins D f s:=by
 cases f with
|next=>obtain⟨_,_,I,q⟩:=h;exact⟨_,_,I.unhand ok,q⟩
|brk=>obtain⟨_,_,I,q⟩:=h;exact⟨_,_,I.unhand ok,q⟩
|cont=>obtain⟨_,_,I,q⟩:=h;exact⟨_,_,I.unhand ok,q⟩
|ret u=>obtain⟨_,_,_,I,r,q⟩:=h;exact⟨_,_,_,I.unhand ok,r,q⟩
end
abbrev TH:=Value->TS
def PH(X:Cx)(hs:List ExceptHandler)(th:TH):Prop :=
 ∀(pins:List (Addr×Obj)) (s:Shared) (σ:St) (H:Hp) (D:Ends) (a C U:Addr),Inv X pins σ H s->FlT s.heap a (.ref C) U .none->FpN X pins H a->FpN X pins H U->th (.ref C) D σ H ->
  wpAny (model X.prog X.w) X.A (handleBy (.ref a) X.env hs) (SP X pins D) X.xe s
structure QH(X:Cx)(hs:List ExceptHandler)(th:TH):Prop where
 u:PH X hs th
def q7r:TH:=λ_ _ _ _=>False
def q6b(K:PySem.W.Frag)(c:Value)(t:TS)(th:TH):TH:=λC D σ H=>∃b,PySem.W.exmOne K C c=some b/\if b=true then t D σ H else th C D σ H
def tTry(tb:(St->XK)->TS)(th:TH):TS:=λD σ H=>tb (λσ' C _ H'=>th C D σ' H') D σ H
section
variable {X:Cx} {x:Str} {c:Value} {t:TS} {th:TH} {np pos:Pos} {b0:Stmt} {suite body:List Stmt} {rest:List ExceptHandler}
theorem q5g:QH X [] q7r:=⟨λ_ _ _ _ _ _ _ _ _ _ _ _ h=>h.elim⟩
theorem q12(hm:X.mg x=some c)(hg:Gl X x)(hs:∀e pn E,QSs (X.hand e pn E) (b0::suite) t)(hr:QH X rest th)(hdb:(x==("__debug__" : Str))=false:=by decide) :
  QH X (.ExceptHandler (some (.Name x np)) none (b0::suite) pos::rest) (q6b X.K c t th):=by
 refine⟨λpins s σ H D a C U I fl fa fu ⟨b,hx,q⟩=>?_⟩
 obtain⟨oa,ha,hc⟩:=fl.there
 have IH:∀E,Inv (X.hand (.ref a) (X.pn++pins) E) [] σ H s:=λE=>I.hand
 refine wpAny_handleBy_cons (codeAny_handlers_test (qhf (X:=X.hand (.ref a) (X.pn++pins) X.xe) (IH _) hg hm ?_ hdb)) (by intro z;cases z)
 have LT:PySem.W.Looks (model X.prog X.w) s.heap (typeOf (.ref a)) (.ref C):=by
  rw[←hc]
  exact(PySem.W.Looks.ld ha).andThen .now
 refine(PySem.W.exm_one I.kIn LT hx).here ?_
 cases b with
|false =>
  exact hr.u pins s σ H D a C U I fl fa fu q
|true =>
  refine codeAny_handlers_suite (qha fl λg nk fl2 _=>?_)
  have I2:Inv X pins σ H { s with heap:=g }:=I.noted (a:=U) (ts:=[]) (λb hb=>by
   have e:b=U:=by simpa using hb
   rw[e]
   exact fu) ⟨λb o _ h2 e=>nk.keep b o (by simp) h2 e,λb o _ h2 e=>⟨o.slots,nk.keep b o (by simp) h2 e⟩,nk.there⟩
  refine thn ((hs (.ref a) (X.pn++pins) _).u [] _ σ H D I2.hand q) λf s2 z=>?_
  exact z.unhand I.ok
theorem q5k{tb:(St->XK)->TS}{h0:ExceptHandler}(hb:∀pn E EX,PassesOwn (model X.prog X.w) X.A X.env E->Out (X.tryB pn E) EX->QSs (X.tryB pn E) body (tb EX))(hh:QH X (h0::rest) th)(hst:X.stack=X.env::X.outer:=by rfl)(hfr:X.env.frame=some X.env.locals:=by rfl)(hx:X.ex=[]:=by rfl) :
  QS X (.Try body (h0::rest) [] [] pos) (tTry tb th):=by
 refine⟨λpins s σ H D I h=>wpAny_Try_except ?_⟩
 refine wpAny_mono ((hb (X.pn++pins) _ _ PassesOwn.looking ?_).u [] s σ H D I.tryB h) (λf s2 z=>?_) λ_ _ z=>z
 ·intro pins1 σ1 H1 s1 a C I1 ⟨ts,fa,r⟩ q
  have I2:Inv X pins σ1 H1 s1:=I1.untryB
  have fa2:∀b∈a::ts,FpN X pins H1 b:=λb hb=>⟨(fa b hb).1,(fa b hb).2.1,(fa b hb).2.2.1,(fa b hb).2.2.2.1,(fa b hb).2.2.2.2.1,λp hp=>(fa b hb).2.2.2.2.2 p (List.mem_append.mpr (.inl hp))⟩
  refine qk9 (L:=X.env.locals) (by rw[←hst];exact I2.ok.frames) (by rw[←hst];exact I2.stack) hfr r λg U nk sz fl=>?_
  rw[←hst] at nk
  have I3:=I2.noted fa2 nk
  refine hh.u pins _ σ1 H1 D a C U I3 fl (fa2 a List.mem_cons_self) ?_ q
  exact I2.fpN hx (Heap.get?_none_of_le sz) (I2.hok.fresh sz)
 ·cases f with
 |next=>exact wpAny_execs_nil z.untryB
 |brk=>exact z.untryB
 |cont=>exact z.untryB
 |ret u=>exact z.untryB
end
def excO(a C:Addr):HO:=.ext λh=>∃o,h.get? a=some o/\(o.cls=.ref C/\o.dict=none)/\PySem.W.notCls o=true
section
variable {X:Cx} {pins:List (Addr×Obj)} {σ:St} {H:Hp} {s:Shared} {a C:Addr}
end
section
variable {X:Cx} {x n:Str} {i:Nat} {c:Value} {t:TS} {th:TH} {np pos:Pos} {b0:Stmt} {suite body:List Stmt} {rest:List ExceptHandler}
end
open PySem.W
structure ExcK(K:Frag)(C:Addr):Prop where
 ga:findIn K (.ref C) "__getattribute__" = some (some (.builtin "BaseException.__getattribute__"))
 gn:findIn K (.ref C) "__getattr__" = some none
 gc:findIn K (.ref C) "__class__" = some (some (.builtin "object.__class__"))
 mo:mroIn K C (.type "object")=some true
 mb:mroIn K C (.type "BaseException")=some true
 hd:hasDictIn K C=true
section
variable {prog:Program} {w:World} {A:Around} {E:Value->Shared->Prop} {h:Heap} {g:Array GenState} {d:Drawn} {t:Nat} {os:OsState} {K:Frag} {a C:Addr} {o:Obj}
end
section
variable {X:Cx}
end
structure RoomH(k:Nat)(A:Around):Prop where
 dp:A.depth+3*k+5<recursionLimit
 un:A.units+16*k+200<cLine
structure FnOkH(P:Program)(w:World)(K:Frag)(mg:Str->Option Value)(base:Heap)(CX:CXT)(k:Nat)(f:Addr)(fd:FuncData)(ps:List Str)(sp:Sp):Prop where
 len:∀vs H Q E,sp vs H Q E->vs.length=ps.length
 run:∀(A:Around) (outer:List Env) (s:Shared) (H:Hp) (args:Args) (us:List Value) (vs:List V) (Q:VK) (E:XK),RoomH k A->Env0 P w K mg base A outer s H->BindsTo s fd args (ps.zip us)->Vals vs us->sp vs H Q E ->
  codeAny (model P w) A (.call (.ref f) args) (CR CX outer P w H s Q E) s
section
variable {P:Program} {w:World} {K:Frag} {mg:Str->Option Value} {base:Heap} {CX:CXT} {k:Nat} {f:Addr}
end
inductive CalH(P:Program)(w:World)(K:Frag)(mg:Str->Option Value)(base:Heap)(k:Nat)(x:Str)(ps:List Str)(sp:Sp):Prop where
|mk {f:Addr} {fd:FuncData} (F:FnOkH P w K mg base CX0 k f fd ps sp) (hm:mg x=some (.ref f)) (hk:keepIn K (.ref f)=true) (hb:Binds K fd ps [])
section
variable {X:Cx} {k:Nat} {ps:List Str} {sp:Sp} {x:Str} {p pos:Pos} {e:Expr} {es:List Expr} {t:TA}
end
end L2
namespace L2
open PySem PySem.Spec PyProof.Rows
section
variable {X:Cx} {o i e f value a b:Expr} {pos pos' tpos apos cpos:Pos} {td ty tv tx:TE}
theorem q1y(hu:X.A.units+1<cLine)(ho:QE X o td)(hi:QE X i ty)(hs:NoSl i:=by exact λ_ _=>rfl):QE X (.Subscript o i pos) (q55 td ty):=⟨q1f hu ho.u hi.u hs⟩
theorem q17(hu:X.A.units+1<cLine)(ho:QE X o td)(hi:QE X i ty)(hv:QE X value tv)(hs:swapsWith value (some (.Subscript o i pos')) pos.line X.env=pure false:=by rfl) :
  QS X (.Assign [.Subscript o i pos'] value pos) (q52 td ty tv):=⟨q1o hu ho.u hi.u hv.u hs⟩
theorem qxe:QE X (.Dict [] [] pos) qzf:=⟨qw3⟩
theorem qxc(hu:X.A.units+1<cLine)(ho:QE X o td)(he:QE X e ty)(m:M1 X o "get" apos e cpos):QE X (.Call (.Attribute o "get" apos) [e] [] cpos) (qze td ty):=⟨qw1 hu ho.u he.u m⟩
end
end L2
namespace L2
open PySem PySem.Spec PyProof.Rows
inductive D where
|non
|bl (b:Bool)
|int (i:Int)
|str (x:Str)
|tup (xs:List D)
|lst (xs:List D)
|dT (ks:List (List Str)) (ds:List D)
|dK (ks:List Str) (ds:List D)
|scr (ns:List Int)
|kt (ss:List Str)
|exc (n:Str)
|io (c:Addr) (ds:List D)
|ioT (c:Addr) (ks:List (List Str)) (ds:List D)
def clsOf(K:PySem.W.Frag)(n:Str)(C:Addr):Prop:=PySem.W.nsIn K mainGlobals n=some (some (.ref C))
def wK(ws:List Str):List Key:=ws.map Sum.inr
def TupAt(K:PySem.W.Frag)(H:Hp)(a:Addr)(ds:List D)(xs:List V):Prop:=H a=some (.tup xs)\/(SqT K (λ_=>none) a xs/\ds=[.str "folder",.str ""])
mutual
def Rep(K:PySem.W.Frag)(H:Hp):D->V->Prop
|.non,v=>v=.non
|.bl b,v=>v=.bl b
|.int i,v=>v=.int i
|.str x,v=>v=.str x
|.tup ds,v=>∃a xs,v=.ref a/\TupAt K H a ds xs/\Reps K H ds xs
|.lst ds,v=>∃a xs,v=.ref a/\H a=some (.lst xs)/\Reps K H ds xs
|.dT ks ds,v=>∃a kvs,v=.ref a/\Rd H a (.dT kvs)/\kvs.map (·.1)=ks.map wK/\Reps K H ds (kvs.map (·.2))
|.dK ks ds,v=>∃a kvs,v=.ref a/\H a=some (.dK kvs)/\kvs.map (·.1)=ks.map Sum.inr/\Reps K H ds (kvs.map (·.2))
|.scr ns,v=>∃a,v=.ref a/\SqL K H a (ns.map V.int)
|.kt ss,v=>∃a,v=.ref a/\SqT K (λ_=>none) a (ss.map V.str)
|.exc n,v=>∃a C,v=.ref a/\H a=some (excO a C)/\clsOf K n C
|.io c ds,v=>∃xs,v=.ref c/\H c=some (.lst xs)/\Reps K H ds xs
|.ioT c ks ds,v=>∃kvs,v=.ref c/\H c=some (.dT kvs)/\kvs.map (·.1)=ks.map wK/\Reps K H ds (kvs.map (·.2))
def Reps(K:PySem.W.Frag)(H:Hp):List D->List V->Prop
|[],xs=>xs=[]
|d::ds,xs=>∃x r,xs=x::r/\Rep K H d x/\Reps K H ds r
end
noncomputable def eqD(d e:D):Bool:=@decide (d=e) (Classical.propDecidable _)
noncomputable def eqDs(d e:List D):Bool:=@decide (d=e) (Classical.propDecidable _)
theorem eqD_iff{d e:D}:eqD d e=true↔d=e:=@decide_eq_true_iff _ (Classical.propDecidable _)
theorem eqDs_iff{d e:List D}:eqDs d e=true↔d=e:=@decide_eq_true_iff _ (Classical.propDecidable _)
theorem qsl{d e:D}(h:eqD d e=true):d=e:=eqD_iff.mp h
theorem qz7{d e:List D}(h:eqDs d e=true):d=e:=eqDs_iff.mp h
theorem qc5(d:D):eqD d d=true:=eqD_iff.mpr rfl
theorem qso(d:List D):eqDs d d=true:=eqDs_iff.mpr rfl
theorem qb5{a b:Bool}(h:a=true↔b=true):a=b:=by cases a<;>cases b<;>simp_all
theorem qsn(ds es:List D):eqD (.tup ds) (.tup es)=eqDs ds es:=qb5 (by rw[eqD_iff,eqDs_iff];exact⟨λh=>D.tup.inj h,λh=>h▸rfl⟩)
theorem qsm(ds es:List D):eqD (.lst ds) (.lst es)=eqDs ds es:=qb5 (by rw[eqD_iff,eqDs_iff];exact⟨λh=>D.lst.inj h,λh=>h▸rfl⟩)
def dV:D->Option V
|.non=>some .non
|.bl b=>some (.bl b)
|.int i=>some (.int i)
|.str x=>some (.str x)
|_=>none
theorem q3n{d e:D}{v:V}(h:dV d=some v)(h':dV e=some v):d=e:=by
 cases d<;>cases e<;>simp_all [dV]<;>(subst h;simp_all)
theorem qjm{d e:D}{v z:V}(h:dV d=some v)(h':dV e=some z):eqD d e=decide (v=z):=qb5 (by
 rw[eqD_iff,decide_eq_true_iff]
 exact⟨λq=>by subst q;exact Option.some.inj (h.symm.trans h'),λq=>by subst q;exact q3n h h'⟩)
mutual
def cmpD:D->D->Bool
|.tup a,.tup b=>qcu a b
|.lst a,.lst b=>qcu a b
|.non,.non=>true|.non,.int _=>true|.int _,.non=>true|.non,.bl _=>true|.bl _,.non=>true|.non,.str _=>true|.str _,.non=>true
|.int _,.int _=>true|.bl _,.bl _=>true|.str _,.str _=>true|.int _,.str _=>true|.str _,.int _=>true|.bl _,.str _=>true|.str _,.bl _=>true
|_,_=>false
def qcu:List D->List D->Bool
|x::xs,y::ys=>cmpD x y&&qcu xs ys
|_,_=>true
end
mutual
def depD:D->Nat
|.tup a=>qci a+1
|.lst a=>qci a+1
|_=>0
def qci:List D->Nat
|[]=>0
|x::xs=>max (depD x) (qci xs)
end
theorem Same.emp(H:Hp):Same (λ_=>none) H:=λ_ _ h=>by cases h
theorem Same.sqT{K:PySem.W.Frag}{H H':Hp}(sm:Same H H'){a:Addr}{xs:List V}(h:SqT K H a xs):SqT K H' a xs:=by
 rcases h with (h|⟨o,h⟩)|h
 ·exact .inl (.inl (sm _ _ h))
 ·exact .inl (.inr ⟨o,sm _ _ h⟩)
 ·exact .inr h
theorem TupAt.sq{K:PySem.W.Frag}{H:Hp}{a:Addr}{ds:List D}{xs:List V}(h:TupAt K H a ds xs):SqT K H a xs:=h.elim SqT.of λq=>(Same.emp H).sqT q.1
theorem TupAt.same{K:PySem.W.Frag}{H H':Hp}{a:Addr}{ds:List D}{xs:List V}(h:TupAt K H a ds xs)(sm:Same H H'):TupAt K H' a ds xs:=h.elim (λq=>.inl (sm _ _ q)) .inr
section
variable {X:Cx} {pins:List (Addr×Obj)} {σ:St} {H:Hp} {s:Shared}
mutual
theorem Rep.inj(I:Inv X pins σ H s):∀ {d e:D} {v:V},Rep X.K H d v->Rep X.K H e v->cmpD d e=true->d=e
|.non,e,v,h,h',hc=>by
  unfold Rep at h
  subst h
  cases e<;>unfold Rep at h'<;>first|rfl|(obtain⟨_,_,z,_⟩:=h';cases z;done)|(obtain⟨_,z,_⟩:=h';cases z;done)|(cases h';done)
|.bl i,e,v,h,h',hc=>by
  unfold Rep at h
  subst h
  cases e<;>unfold Rep at h'<;>first|rfl|(obtain⟨_,_,z,_⟩:=h';cases z;done)|(obtain⟨_,z,_⟩:=h';cases z;done)|(cases h';rfl)|(cases h';done)
|.int i,e,v,h,h',hc=>by
  unfold Rep at h
  subst h
  cases e<;>unfold Rep at h'<;>first|rfl|(obtain⟨_,_,z,_⟩:=h';cases z;done)|(obtain⟨_,z,_⟩:=h';cases z;done)|(cases h';rfl)|(cases h';done)
|.str i,e,v,h,h',hc=>by
  unfold Rep at h
  subst h
  cases e<;>unfold Rep at h'<;>first|rfl|(obtain⟨_,_,z,_⟩:=h';cases z;done)|(obtain⟨_,z,_⟩:=h';cases z;done)|(cases h';rfl)|(cases h';done)
|.tup ds,e,v,h,h',hc=>by
  cases e with
 |tup es =>
   unfold Rep at h h'
   obtain⟨a,xs,rfl,ha,hr⟩:=h
   obtain⟨b,ys,z,hb,hs⟩:=h'
   cases z
   cases I.tuple_inj ha.sq hb.sq
   unfold cmpD at hc
   rw[Reps.inj I hr hs hc]
 |_=>unfold cmpD at hc;cases hc
|.lst ds,e,v,h,h',hc=>by
  cases e with
 |lst es =>
   unfold Rep at h h'
   obtain⟨a,xs,rfl,ha,hr⟩:=h
   obtain⟨b,ys,z,hb,hs⟩:=h'
   cases z
   rw[ha] at hb
   cases hb
   unfold cmpD at hc
   rw[Reps.inj I hr hs hc]
 |_=>unfold cmpD at hc;cases hc
|.dT _ _,e,_,_,_,h=>by cases e<;>(unfold cmpD at h;cases h)
|.dK _ _,e,_,_,_,h=>by cases e<;>(unfold cmpD at h;cases h)
|.scr _,e,_,_,_,h=>by cases e<;>(unfold cmpD at h;cases h)
|.kt _,e,_,_,_,h=>by cases e<;>(unfold cmpD at h;cases h)
|.exc _,e,_,_,_,h=>by cases e<;>(unfold cmpD at h;cases h)
|.io _ _,e,_,_,_,h=>by cases e<;>(unfold cmpD at h;cases h)
|.ioT _ _ _,e,_,_,_,h=>by cases e<;>(unfold cmpD at h;cases h)
theorem Reps.inj(I:Inv X pins σ H s):∀ {ds es:List D} {xs:List V},Reps X.K H ds xs->Reps X.K H es xs->qcu ds es=true->ds=es
|[],es,xs,h,h',_=>by
  unfold Reps at h
  subst h
  cases es with
 |nil=>rfl
 |cons e es=>unfold Reps at h';obtain⟨_,_,z,_⟩:=h';cases z
|d::ds,es,xs,h,h',hc=>by
  unfold Reps at h
  obtain⟨x,r,rfl,h1,h2⟩:=h
  cases es with
 |nil=>unfold Reps at h';cases h'
 |cons e es =>
   unfold Reps at h'
   obtain⟨x',r',z,h3,h4⟩:=h'
   cases z
   unfold qcu at hc
   rw[Bool.and_eq_true] at hc
   rw[Rep.inj I h1 h3 hc.1,Reps.inj I h2 h4 hc.2]
end
end
mutual
theorem Rep.same{K:PySem.W.Frag}{H H':Hp}(sm:Same H H'):∀ {d:D} {v:V},Rep K H d v->Rep K H' d v
|.non,_,h=>h
|.bl _,_,h=>h
|.int _,_,h=>h
|.str _,_,h=>h
|.tup _,_,h=>by
  unfold Rep at h ⊢
  obtain⟨a,xs,e,ha,r⟩:=h
  exact⟨a,xs,e,ha.same sm,Reps.same sm r⟩
|.lst _,_,h=>by
  unfold Rep at h ⊢
  obtain⟨a,xs,e,ha,r⟩:=h
  exact⟨a,xs,e,sm _ _ ha,Reps.same sm r⟩
|.dT _ _,_,h=>by
  unfold Rep at h ⊢
  obtain⟨a,xs,e,ha,k,r⟩:=h
  exact⟨a,xs,e,ha.elim (λq=>.inl (sm _ _ q)) λ⟨o,q⟩=>.inr ⟨o,sm _ _ q⟩,k,Reps.same sm r⟩
|.dK _ _,_,h=>by
  unfold Rep at h ⊢
  obtain⟨a,xs,e,ha,k,r⟩:=h
  exact⟨a,xs,e,sm _ _ ha,k,Reps.same sm r⟩
|.scr _,_,h=>by
  unfold Rep at h ⊢
  obtain⟨a,e,ha⟩:=h
  exact⟨a,e,sm.seq ha⟩
|.kt _,_,h=>h
|.exc _,_,h=>by
  unfold Rep at h ⊢
  obtain⟨a,C,e,ha,hc⟩:=h
  exact⟨a,C,e,sm _ _ ha,hc⟩
|.io _ _,_,h=>by
  unfold Rep at h ⊢
  obtain⟨xs,e,ha,r⟩:=h
  exact⟨xs,e,sm _ _ ha,Reps.same sm r⟩
|.ioT _ _ _,_,h=>by
  unfold Rep at h ⊢
  obtain⟨kvs,e,ha,k,r⟩:=h
  exact⟨kvs,e,sm _ _ ha,k,Reps.same sm r⟩
theorem Reps.same{K:PySem.W.Frag}{H H':Hp}(sm:Same H H'):∀ {ds:List D} {xs:List V},Reps K H ds xs->Reps K H' ds xs
|[],_,h=>h
|_::_,_,h=>by
  unfold Reps at h ⊢
  obtain⟨x,r,e,h1,h2⟩:=h
  exact⟨x,r,e,Rep.same sm h1,Reps.same sm h2⟩
end
theorem Reps.length{K:PySem.W.Frag}{H:Hp}:∀ {ds:List D} {xs:List V},Reps K H ds xs->ds.length=xs.length
|[],xs,h=>by unfold Reps at h;rw[h];rfl
|d::ds,xs,h=>by
  unfold Reps at h
  obtain⟨x,r,rfl,h1,h2⟩:=h
  rw[List.length_cons,List.length_cons,Reps.length h2]
theorem Reps.at{K:PySem.W.Frag}{H:Hp}:∀ {ds:List D} {xs:List V} {j:Nat} {d:D},Reps K H ds xs->ds[j]?=some d->∃x,xs[j]?=some x/\Rep K H d x
|[],xs,j,d,h,e=>by simp at e
|d0::ds,xs,0,d,h,e=>by
  unfold Reps at h
  obtain⟨x,r,rfl,h1,h2⟩:=h
  have e':d0=d:=by simpa using e
  subst e'
  exact⟨x,rfl,h1⟩
|d0::ds,xs,j+1,d,h,e=>by
  unfold Reps at h
  obtain⟨x,r,rfl,h1,h2⟩:=h
  obtain⟨y,h3,h4⟩:=Reps.at (j:=j) (d:=d) h2 (by simpa using e)
  exact⟨y,by simpa using h3,h4⟩
theorem qer:∀(ds es:List D),((List.range (min ds.length es.length)).all (λj=>eqD (ds.getD j .non) (es.getD j .non))&&ds.length==es.length)=eqDs ds es:=by
 intro ds es
 cases h:eqDs ds es with
|true =>
  have e:=qz7 h
  subst e
  rw[Bool.and_eq_true]
  refine⟨?_,by simp⟩
  rw[List.all_eq_true]
  intro j _
  exact qc5 _
|false =>
  apply Classical.byContradiction
  intro hn
  have ht:=eq_true_of_ne_false hn
  rw[Bool.and_eq_true,List.all_eq_true] at ht
  obtain⟨h1,h2⟩:=ht
  have hl:ds.length=es.length:=by simpa using h2
  have e:ds=es:=by
   apply List.ext_getElem hl
   intro i hi1 hi2
   have:=qsl (h1 i (by rw[List.mem_range];lia))
   simpa [List.getD_eq_getElem?_getD,hi1,hi2] using this
  rw[e,qso] at h
  cases h
theorem qoj:∀ {ds es:List D} {j:Nat} {d e:D},qcu ds es=true->ds[j]?=some d->es[j]?=some e->cmpD d e=true
|[],_,j,d,e,_,h,_=>by simp at h
|_::_,[],j,d,e,_,_,h=>by simp at h
|d0::ds,e0::es,0,d,e,h,h1,h2=>by
  unfold qcu at h
  rw[Bool.and_eq_true] at h
  have q1:d0=d:=by simpa using h1
  have q2:e0=e:=by simpa using h2
  subst q1 q2
  exact h.1
|d0::ds,e0::es,j+1,d,e,h,h1,h2=>by
  unfold qcu at h
  rw[Bool.and_eq_true] at h
  exact qoj (j:=j) h.2 (by simpa using h1) (by simpa using h2)
theorem qom:∀ {ds:List D} {j:Nat} {d:D},ds[j]?=some d->depD d<=qci ds
|[],j,d,h=>by simp at h
|d0::ds,0,d,h=>by
  have q:d0=d:=by simpa using h
  subst q
  unfold qci
  exact Nat.le_max_left _ _
|d0::ds,j+1,d,h=>by
  have:=qom (j:=j) (d:=d) (ds:=ds) (by simpa using h)
  unfold qci
  exact Nat.le_trans this (Nat.le_max_right _ _)
section
variable {X:Cx} {pins:List (Addr×Obj)} {σ:St} {H:Hp} {s:Shared}
theorem qew{d:D}{v:V}(h:Rep X.K H d v){z:V}(e:dV d=some z):v=z:=by
 cases d<;>first|(unfold Rep at h;subst h;exact Option.some.inj e)|(cases e;done)
theorem qn3{d e:D}(h:cmpD d e=true)(h0:∀ds,d≠.tup ds)(h1:∀ds,d≠.lst ds):∃v z,dV d=some v/\dV e=some z/\scal v z=true:=by
 cases d<;>cases e<;>first|exact⟨_,_,rfl,rfl,rfl⟩|exact absurd rfl (h0 _)|exact absurd rfl (h1 _)|(unfold cmpD at h;cases h;done)
theorem qmw{d:D}{v:V}(h:dV d=some v):qgk v=true:=by
 cases d<;>first|(cases h;rfl)|(cases h;done)
theorem qv0{v z:V}(h:scal v z=true)(hv:qgk v=true):eqV v z=decide (v=z):=by
 cases v<;>cases z<;>first|(cases h;done)|(cases hv;done)|rfl|(simp[eqV];done)|(unfold eqV;exact qb5 (by simp))
theorem qhe{A':Around}{ds es:List D}{xs ys:List V}{its its2:List Value}(r1:Reps X.K H ds xs)(r2:Reps X.K H es ys)(v1:Vals xs its)(v2:Vals ys its2)(hc:qcu ds es=true)
  (ih:∀d∈ds,∀(e:D) (v z:V) (u w:Value),Rep X.K H d v->Rep X.K H e z->RelV v u->RelV z w->cmpD d e=true->SeqAt.EqAt A' s u w (eqD d e)) :
  ∀j (h1:j<its.toArray.size) (h2:j<its2.toArray.size),SeqAt.EqAt A' s its.toArray[j] its2.toArray[j] (eqD (ds.getD j .non) (es.getD j .non)):=λj h1 h2=>by
 have l1:j<ds.length:=by rw[r1.length,v1.length];simpa using h1
 have l2:j<es.length:=by rw[r2.length,v2.length];simpa using h2
 have q1:ds[j]?=some ds[j]:=List.getElem?_eq_getElem l1
 have q2:es[j]?=some es[j]:=List.getElem?_eq_getElem l2
 obtain⟨x,hx,rx⟩:=r1.at q1
 obtain⟨y,hy,ry⟩:=r2.at q2
 obtain⟨ux,hux,rux⟩:=v1.get hx
 obtain⟨uy,huy,ruy⟩:=v2.get hy
 have e1:its.toArray[j]=ux:=by
  have:its[j]?=some its.toArray[j]:=by simp
  rw[hux] at this
  exact(Option.some.inj this).symm
 have e2:its2.toArray[j]=uy:=by
  have:its2[j]?=some its2.toArray[j]:=by simp
  rw[huy] at this
  exact(Option.some.inj this).symm
 have e3:ds.getD j .non=ds[j]:=by simp[List.getD_eq_getElem?_getD,l1]
 have e4:es.getD j .non=es[j]:=by simp[List.getD_eq_getElem?_getD,l2]
 rw[e1,e2,e3,e4]
 exact ih ds[j] (List.getElem_mem l1) es[j] x y ux uy rx ry rux ruy (qoj hc q1 q2)
theorem qy7{A:Around}(I:Inv X pins σ H s){a b:Addr}{ds es:List D}{xs ys:List V}(ha:SqT X.K H a xs)(hb:SqT X.K H b ys)(r1:Reps X.K H ds xs)(r2:Reps X.K H es ys)(hc:qcu ds es=true)(hu:A.units<cLine)
  (ih:∀d∈ds,∀(e:D) (v z:V) (u w:Value),Rep X.K H d v->Rep X.K H e z->RelV v u->RelV z w->cmpD d e=true->SeqAt.EqAt A.in1 s u w (eqD d e)):SeqAt.RcAt A s (.ref a) (.ref b) (eqD (.tup ds) (.tup es)):=by
 obtain⟨its,v1,p1,_⟩:=I.tuple ha
 obtain⟨its2,v2,p2,_⟩:=I.tuple hb
 have:=SeqAt.RcAt.tuples (A:=A) (s:=s) (e:=λj=>eqD (ds.getD j .non) (es.getD j .non)) (show s.heap.IsTuple a its.toArray from p1) (show s.heap.IsTuple b its2.toArray from p2) hu (qhe r1 r2 v1 v2 hc ih)
 rw[List.size_toArray,List.size_toArray,←v1.length,←v2.length,←r1.length,←r2.length,qer] at this
 rw[qsn]
 exact this
theorem qy6{A:Around}(I:Inv X pins σ H s){a b:Addr}{ds es:List D}{xs ys:List V}(ha:H a=some (.lst xs))(hb:H b=some (.lst ys))(r1:Reps X.K H ds xs)(r2:Reps X.K H es ys)(hc:qcu ds es=true)(hu:A.units<cLine)
  (ih:∀d∈ds,∀(e:D) (v z:V) (u w:Value),Rep X.K H d v->Rep X.K H e z->RelV v u->RelV z w->cmpD d e=true->SeqAt.EqAt A.in1 s u w (eqD d e)):SeqAt.RcAt A s (.ref a) (.ref b) (eqD (.lst ds) (.lst es)):=by
 obtain⟨its,v1,p1,_⟩:=I.list (SqL.of ha)
 obtain⟨its2,v2,p2,_⟩:=I.list (SqL.of hb)
 have er:=qer ds es
 rw[qsm]
 by_cases hl:ds.length=es.length
 ·have hz:its.toArray.size=its2.toArray.size:=by rw[List.size_toArray,List.size_toArray,←v1.length,←v2.length,←r1.length,←r2.length,hl]
  have:=SeqAt.RcAt.lists (A:=A) (s:=s) (e:=λj=>eqD (ds.getD j .non) (es.getD j .non)) p1.isList p2.isList hz hu (qhe r1 r2 v1 v2 hc ih)
  rw[List.size_toArray,←v1.length,←r1.length] at this
  rw[←hl,Nat.min_self] at er
  have e2:(ds.length==ds.length)=true:=by simp
  rw[e2,Bool.and_true] at er
  rw[er] at this
  exact this
 ·have e2:(ds.length==es.length)=false:=by simpa using hl
  rw[e2,Bool.and_false] at er
  rw[←er]
  refine SeqAt.RcAt.lists_lengths p1.isList p2.isList ?_ hu
  rw[List.size_toArray,List.size_toArray,←v1.length,←v2.length,←r1.length,←r2.length]
  simpa using hl
theorem qco{ds:List D}{d:D}(h:d∈ds):depD d<=qci ds:=by
 obtain⟨j,hj⟩:=List.mem_iff_getElem?.mp h
 exact qom hj
theorem qgf(I:Inv X pins σ H s):∀(n:Nat) (A:Around) (d e:D) (v z:V) (u w:Value),sizeOf d<=n->Rep X.K H d v->Rep X.K H e z->RelV v u->RelV z w->cmpD d e=true->A.units+depD d<cLine->SeqAt.EqAt A s u w (eqD d e)
|0,_,d,_,_,_,_,_,hn,_,_,_,_,_,_=>by cases d<;>simp at hn
|n+1,A,d,e,v,z,u,w,hn,hd,he,ru,rw',hc,hu=>by
  have un:A.in1.units=A.units+1:=rfl
  cases d with
 |tup ds =>
   cases e with
  |tup es =>
    have hd':=hd
    have he':=he
    unfold Rep at hd he
    obtain⟨a,xs,rfl,ha,r1⟩:=hd
    obtain⟨b,ys,rfl,hb,r2⟩:=he
    cases ru
    cases rw'
    unfold depD at hu
    by_cases hab:a=b
    ·subst hab
     rw[Rep.inj I hd' he' hc,qc5]
     exact SeqAt.EqAt.same _
    ·unfold cmpD at hc
     refine SeqAt.EqAt.of_refs hab (qy7 I ha.sq hb.sq r1 r2 hc (by lia) λd hd e v z u w h1 h2 h3 h4 h5=>qgf I n A.in1 d e v z u w ?_ h1 h2 h3 h4 h5 ?_)
     ·have:=List.sizeOf_lt_of_mem hd
      simp at hn
      lia
     ·have:=qco hd
      lia
  |_=>unfold cmpD at hc;cases hc
 |lst ds =>
   cases e with
  |lst es =>
    have hd':=hd
    have he':=he
    unfold Rep at hd he
    obtain⟨a,xs,rfl,ha,r1⟩:=hd
    obtain⟨b,ys,rfl,hb,r2⟩:=he
    cases ru
    cases rw'
    unfold depD at hu
    by_cases hab:a=b
    ·subst hab
     rw[Rep.inj I hd' he' hc,qc5]
     exact SeqAt.EqAt.same _
    ·unfold cmpD at hc
     refine SeqAt.EqAt.of_refs hab (qy6 I ha hb r1 r2 hc (by lia) λd hd e v z u w h1 h2 h3 h4 h5=>qgf I n A.in1 d e v z u w ?_ h1 h2 h3 h4 h5 ?_)
     ·have:=List.sizeOf_lt_of_mem hd
      simp at hn
      lia
     ·have:=qco hd
      lia
  |_=>unfold cmpD at hc;cases hc
 |_ =>
   obtain⟨v',z',q1,q2,q3⟩:=qn3 hc (λ_ h=>by cases h) (λ_ h=>by cases h)
   have e1:=qew hd q1
   have e2:=qew he q2
   subst e1 e2
   rw[qjm q1 q2,←qv0 q3 (qmw q1)]
   exact qyt ru rw' (qmw q1) (qmw q2)
def rEqD(K:PySem.W.Frag)(g:Bool->Bool):R2:=λx y H Q=>∃d e,Rep K H d x/\Rep K H e y/\cmpD d e=true/\depD d<=50/\Q (.bl (g (eqD d e))) H
theorem q4f(hu:X.A.units+60<cLine):OpR X (compareOp .Eq) (rEqD X.K id):=by
 intro pins s σ H x y v u Q I rx ry h
 obtain⟨d,e,hd,he,hc,hn,q⟩:=h
 have fin:EP X pins σ Q (.bool (eqD d e)) s:=⟨.bl (eqD d e),H,I,rfl,q⟩
 have un:X.A.in1.units=X.A.units+1:=rfl
 cases d with
|tup ds =>
  cases e with
 |tup es =>
   unfold Rep at hd he
   obtain⟨a,xs,rfl,ha,r1⟩:=hd
   obtain⟨b,ys,rfl,hb,r2⟩:=he
   cases rx
   cases ry
   unfold cmpD at hc
   unfold depD at hn
   exact qy7 I ha.sq hb.sq r1 r2 hc (by lia) (λd hd e v z u w h1 h2 h3 h4 h5=>qgf I _ X.A.in1 d e v z u w (Nat.le_refl _) h1 h2 h3 h4 h5 (by have:=qco hd;lia)) _ _ _ _ fin
 |_=>unfold cmpD at hc;cases hc
|lst ds =>
  cases e with
 |lst es =>
   unfold Rep at hd he
   obtain⟨a,xs,rfl,ha,r1⟩:=hd
   obtain⟨b,ys,rfl,hb,r2⟩:=he
   cases rx
   cases ry
   unfold cmpD at hc
   unfold depD at hn
   exact qy6 I ha hb r1 r2 hc (by lia) (λd hd e v z u w h1 h2 h3 h4 h5=>qgf I _ X.A.in1 d e v z u w (Nat.le_refl _) h1 h2 h3 h4 h5 (by have:=qco hd;lia)) _ _ _ _ fin
 |_=>unfold cmpD at hc;cases hc
|_ =>
  obtain⟨v',z',q1,q2,q3⟩:=qn3 hc (λ_ h=>by cases h) (λ_ h=>by cases h)
  have e1:=qew hd q1
  have e2:=qew he q2
  subst e1 e2
  have q':Q (.bl (eqD _ _)) H:=q
  rw[qjm q1 q2] at q'
  exact q63 pins s σ H _ _ v u Q I rx ry ⟨q3,q'⟩
end
end L2
namespace L2
open PySem PySem.Spec PyProof.Rows
inductive R where
|val (d:D)
|own (d:D)
|peek (d:D)
|exc (n:Str)
def R.d:R->D
|.val d=>d
|.own d=>d
|.peek d=>d
|.exc _=>.scr []
abbrev VSt:=List (Option R)
def ioA:D->Option Addr
|.io c _=>some c
|.ioT c _ _=>some c
|_=>none
def OwnAt(K:PySem.W.Frag)(B H:Hp)(d:D)(a:Addr):Prop:=match d with
|.lst ds=>∃xs,H a=some (.lst xs)/\Reps K B ds xs
|.dT ks ds=>∃kvs,H a=some (.dT kvs)/\kvs.map (·.1)=ks.map wK/\Reps K B ds (kvs.map (·.2))
|.dK ks ds=>∃kvs,H a=some (.dK kvs)/\kvs.map (·.1)=ks.map Sum.inr/\Reps K B ds (kvs.map (·.2))
|.io c ds=>∃xs,H a=some (.lst xs)/\a=c/\Reps K B ds xs
|.ioT c ks ds=>∃kvs,H a=some (.dT kvs)/\a=c/\kvs.map (·.1)=ks.map wK/\Reps K B ds (kvs.map (·.2))
|_=>False
def Pk(K:PySem.W.Frag)(B H:Hp)(r:R)(v:V):Prop:=match r with
|.val d=>Rep K B d v
|.own d=>∃a,v=.ref a/\B a=none/\OwnAt K B H d a
|.peek d=>∃a,v=.ref a/\B a=none/\OwnAt K B H d a
|.exc _=>False
def RepR(K:PySem.W.Frag)(B H0 H:Hp)(r:R)(v:V):Prop:=match r with
|.val d=>Rep K B d v
|.own d=>∃a,v=.ref a/\H0 a=none/\B a=none/\OwnAt K B H d a
|.peek d=>∃a,v=.ref a/\B a=none/\OwnAt K B H d a
|.exc _=>False
structure Stp(B H B' H':Hp):Prop where
 b:Same B B'
 h:Same H H'
 s:Same B' H'
 d:∀a,B' a≠none->B a≠none\/H a=none\/∃xs,H a=some (.tup xs)
theorem Stp.refl{B H:Hp}(s:Same B H):Stp B H B H:=⟨Same.refl _,Same.refl _,s,λ_ h=>.inl h⟩
theorem Stp.trans{B H B1 H1 B2 H2:Hp}(p:Stp B H B1 H1)(q:Stp B1 H1 B2 H2):Stp B H B2 H2 :=
 ⟨p.b.trans q.b,p.h.trans q.h,q.s,λa h=>by
  rcases q.d a h with z|z|⟨xs,z⟩
  ·exact p.d a z
  ·exact .inr (.inl (p.h.free z))
  ·cases e:H a with
  |none=>exact .inr (.inl rfl)
  |some o =>
    rw[p.h _ _ e] at z
    exact .inr (.inr ⟨xs,z⟩)⟩
theorem Stp.keep{B H B' H':Hp}(p:Stp B H B' H'){a:Addr}(hb:B a=none)(hh:H a≠none)(nt:∀xs,H a≠some (.tup xs)):B' a=none:=by
 cases e:B' a with
|none=>rfl
|some o =>
  rcases p.d a (by rw[e];exact λz=>by cases z) with z|z|⟨xs,z⟩
  ·exact absurd hb z
  ·exact absurd z hh
  ·exact absurd z (nt xs)
theorem Stp.grow{B H H':Hp}(s:Same B H)(h:Same H H'):Stp B H B H':=⟨Same.refl _,h,s.trans h,λ_ z=>.inl z⟩
theorem Stp.new{B H:Hp}{p:Addr}{o:HO}(s:Same B H)(hp:H p=none):Stp B H (upd B p o) (upd H p o) :=
 ⟨qao (s.free hp) o,qao hp o,λb u e=>by
  unfold upd at e ⊢
  by_cases z:b=p
  ·rw[if_pos z] at e ⊢
   exact e
  ·rw[if_neg z] at e ⊢
   exact s _ _ e,λa h=>by
  by_cases z:a=p
  ·exact .inr (.inl (z▸hp))
  ·rw[qa9 z] at h
   exact .inl h⟩
section
variable {K:PySem.W.Frag} {B H B' H' H0:Hp} {d:D} {a:Addr} {r:R} {v:V}
theorem OwnAt.some(h:OwnAt K B H d a):H a≠none:=by
 unfold OwnAt at h
 split at h
 ·obtain⟨xs,e,_⟩:=h;rw[e];exact λz=>by cases z
 ·obtain⟨xs,e,_⟩:=h;rw[e];exact λz=>by cases z
 ·obtain⟨xs,e,_⟩:=h;rw[e];exact λz=>by cases z
 ·obtain⟨xs,e,_⟩:=h;rw[e];exact λz=>by cases z
 ·obtain⟨xs,e,_⟩:=h;rw[e];exact λz=>by cases z
 ·exact h.elim
theorem OwnAt.nt(h:OwnAt K B H d a):∀xs,H a≠Option.some (.tup xs):=by
 intro ys
 unfold OwnAt at h
 split at h
 ·obtain⟨xs,e,_⟩:=h;rw[e];exact λz=>by cases z
 ·obtain⟨xs,e,_⟩:=h;rw[e];exact λz=>by cases z
 ·obtain⟨xs,e,_⟩:=h;rw[e];exact λz=>by cases z
 ·obtain⟨xs,e,_⟩:=h;rw[e];exact λz=>by cases z
 ·obtain⟨xs,e,_⟩:=h;rw[e];exact λz=>by cases z
 ·exact h.elim
theorem OwnAt.step(h:OwnAt K B H d a)(b:Same B B')(e:H' a=H a):OwnAt K B' H' d a:=by
 unfold OwnAt at h ⊢
 split at h
 ·obtain⟨xs,q,r⟩:=h;exact⟨xs,by rw[e,q],r.same b⟩
 ·obtain⟨xs,q,k,r⟩:=h;exact⟨xs,by rw[e,q],k,r.same b⟩
 ·obtain⟨xs,q,k,r⟩:=h;exact⟨xs,by rw[e,q],k,r.same b⟩
 ·obtain⟨xs,q,k,r⟩:=h;exact⟨xs,by rw[e,q],k,r.same b⟩
 ·obtain⟨xs,q,z,k,r⟩:=h;exact⟨xs,by rw[e,q],z,k,r.same b⟩
 ·exact h.elim
theorem Same.at{a:Addr}(h:Same H H')(n:H a≠none):H' a=H a:=by
 cases e:H a with
|none=>exact absurd e n
|some o=>exact h _ _ e
theorem Pk.step(h:Pk K B H r v)(p:Stp B H B' H'):Pk K B' H' r v:=by
 cases r with
|val d=>exact Rep.same p.b h
|own d =>
  obtain⟨a,e,q,o⟩:=h
  exact⟨a,e,p.keep q o.some o.nt,o.step p.b (p.h.at o.some)⟩
|peek d =>
  obtain⟨a,e,q,o⟩:=h
  exact⟨a,e,p.keep q o.some o.nt,o.step p.b (p.h.at o.some)⟩
|exc n=>exact h.elim
theorem RepR.pk(h:RepR K B H0 H r v):Pk K B H r v:=by
 cases r with
|val d=>exact h
|own d =>
  obtain⟨a,e,_,q,o⟩:=h
  exact⟨a,e,q,o⟩
|peek d=>exact h
|exc n=>exact h
theorem OwnAt.rep(s:Same B H)(h:OwnAt K B H d a):Rep K H d (.ref a):=by
 unfold OwnAt at h
 split at h
 ·obtain⟨xs,q,r⟩:=h;unfold Rep;exact⟨a,xs,rfl,q,r.same s⟩
 ·obtain⟨xs,q,k,r⟩:=h;unfold Rep;exact⟨a,xs,rfl,.inl q,k,r.same s⟩
 ·obtain⟨xs,q,k,r⟩:=h;unfold Rep;exact⟨a,xs,rfl,q,k,r.same s⟩
 ·obtain⟨xs,q,rfl,r⟩:=h;unfold Rep;exact⟨xs,rfl,q,r.same s⟩
 ·obtain⟨xs,q,rfl,k,r⟩:=h;unfold Rep;exact⟨xs,rfl,q,k,r.same s⟩
 ·exact h.elim
theorem Pk.rep(s:Same B H)(h:Pk K B H r v):Rep K H r.d v:=by
 cases r with
|val d=>exact Rep.same s h
|own d =>
  obtain⟨a,rfl,_,o⟩:=h
  exact o.rep s
|peek d =>
  obtain⟨a,rfl,_,o⟩:=h
  exact o.rep s
|exc n=>exact h.elim
theorem OwnAt.pub(h:OwnAt K B H d a)(hb:B a=none):∃o,H a=Option.some o/\Rep K (upd B a o) d (.ref a):=by
 unfold OwnAt at h
 split at h
 ·obtain⟨xs,q,r⟩:=h
  refine⟨_,q,?_⟩
  unfold Rep
  exact⟨a,xs,rfl,qa6,r.same (qao hb _)⟩
 ·obtain⟨xs,q,k,r⟩:=h
  refine⟨_,q,?_⟩
  unfold Rep
  exact⟨a,xs,rfl,.inl qa6,k,r.same (qao hb _)⟩
 ·obtain⟨xs,q,k,r⟩:=h
  refine⟨_,q,?_⟩
  unfold Rep
  exact⟨a,xs,rfl,qa6,k,r.same (qao hb _)⟩
 ·obtain⟨xs,q,rfl,r⟩:=h
  refine⟨_,q,?_⟩
  unfold Rep
  exact⟨xs,rfl,qa6,r.same (qao hb _)⟩
 ·obtain⟨xs,q,rfl,k,r⟩:=h
  refine⟨_,q,?_⟩
  unfold Rep
  exact⟨xs,rfl,qa6,k,r.same (qao hb _)⟩
 ·exact h.elim
theorem qfm{o:HO}(s:Same B H)(e:H a=Option.some o):Same (upd B a o) H:=λb u q=>by
 unfold upd at q
 by_cases z:b=a
 ·rw[if_pos z] at q
  rw[z,e]
  exact q
 ·rw[if_neg z] at q
  exact s _ _ q
def pubR:R->(D->Prop)->Prop
|.val d,Q=>Q d
|.own d,Q=>Q d
|.peek _,_=>False
|.exc _,_=>False
def exR:R->(R->Prop)->Prop->Prop
|.exc n,Q,_=>Q (.exc n)
|.val _,_,k=>k
|.own _,_,k=>k
|.peek _,_,k=>k
theorem pub{Q:D->Prop}(p:Stp B H B' H')(h:RepR K B' H H' r v)(q:pubR r Q):∃d B2,Stp B H B2 H'/\Same B' B2/\Rep K B2 d v/\Q d:=by
 cases r with
|val d=>exact⟨d,B',p,Same.refl _,h,q⟩
|own d =>
  obtain⟨a,rfl,h0,hb,o⟩:=h
  obtain⟨u,e,rp⟩:=o.pub hb
  refine⟨d,upd B' a u,⟨p.b.trans (qao hb _),p.h,qfm p.s e,λc z=>?_⟩,qao hb _,rp,q⟩
  by_cases w:c=a
  ·exact .inr (.inl (w▸h0))
  ·rw[qa9 w] at z
   exact p.d c z
|peek d=>exact q.elim
|exc n=>exact q.elim
def FzD(K:PySem.W.Frag)(B:Hp)(d:D)(v:V):Prop:=∃a ks ds kvs o,d=.dT ks ds/\v=.ref a/\B a=some (.frz o (.dT kvs))/\kvs.map (·.1)=ks.map wK/\Reps K B ds (kvs.map (·.2))
mutual
def NewD(H0 B:Hp):D->V->Prop
|.lst ds,v=>∃a xs,v=.ref a/\B a=some (.lst xs)/\H0 a=none/\NewDs H0 B ds xs
|_,_=>True
def NewDs(H0 B:Hp):List D->List V->Prop
|d::ds,x::xs=>NewD H0 B d x/\NewDs H0 B ds xs
|_,_=>True
end
mutual
theorem NewD.same{H0 B B':Hp}(s:Same B B'):∀(d:D) (v:V),NewD H0 B d v->NewD H0 B' d v
|.lst ds,v,h=>by
  unfold NewD at h ⊢
  obtain⟨a,xs,e1,e2,e3,e4⟩:=h
  exact⟨a,xs,e1,s _ _ e2,e3,NewDs.same s ds xs e4⟩
|.non,_,_|.bl _,_,_|.int _,_,_|.str _,_,_|.tup _,_,_|.dT ..,_,_|.dK ..,_,_|.scr _,_,_|.kt _,_,_|.exc _,_,_|.io ..,_,_|.ioT ..,_,_=>by unfold NewD;trivial
theorem NewDs.same{H0 B B':Hp}(s:Same B B'):∀(ds:List D) (xs:List V),NewDs H0 B ds xs->NewDs H0 B' ds xs
|d::ds,x::xs,h=>by
  unfold NewDs at h ⊢
  exact⟨NewD.same s d x h.1,NewDs.same s ds xs h.2⟩
|[],_,_=>by unfold NewDs;trivial
|_::_,[],_=>by unfold NewDs;trivial
end
def qmv(ds:List D):Prop:=∀d∈ds,match d with
|.lst _=>False
|_=>True
def NewR(H0 B:Hp)(d:D)(v:V):Prop:=match d with
|.tup ds=>qmv ds\/∃a xs,v=.ref a/\B a=some (.tup xs)/\NewDs H0 B ds xs
|_=>NewD H0 B d v
def FzAt(K:PySem.W.Frag)(H0 B:Hp)(d:D)(v:V):Prop:=FzD K B d v\/∃ds,d=.lst ds/\Rep K B d v/\NewD H0 B d v
theorem FzAt.same{H0:Hp}(h:FzAt K H0 B d v)(s:Same B B'):FzAt K H0 B' d v:=by
 rcases h with ⟨a,ks,ds,kvs,o,e1,e2,e3,e4,e5⟩|⟨ds,e,r,n⟩
 ·exact .inl ⟨a,ks,ds,kvs,o,e1,e2,s _ _ e3,e4,e5.same s⟩
 ·exact .inr ⟨ds,e,r.same s,NewD.same s _ _ n⟩
theorem FzAt.rep{H0:Hp}(h:FzAt K H0 B d v):Rep K B d v:=by
 rcases h with ⟨a,ks,ds,kvs,o,rfl,e2,e3,e4,e5⟩|⟨ds,e,r,n⟩
 ·unfold Rep
  exact⟨a,kvs,e2,.inr ⟨o,e3⟩,e4,e5⟩
 ·exact r
structure Slots(K:PySem.W.Frag)(H0 B H:Hp)(τ:VSt)(σ:St):Prop where
 len:σ.length=τ.length
 val:∀(i:Nat) (d:D),τ[i]?=some (some (R.val d))->∃v,σ[i]?=some (some v)/\Rep K B d v
 fz:∀(i:Nat) (d:D),τ[i]?=some (some (R.peek d))->∃v,σ[i]?=some (some v)/\FzAt K H0 B d v
 own:∀(i:Nat) (d:D),τ[i]?=some (some (R.own d))->∃a,σ[i]?=some (some (.ref a))/\H0 a=none/\B a=none/\OwnAt K B H d a
 sep:∀(i j:Nat) (d e:D) (a:Addr),τ[i]?=some (some (R.own d))->τ[j]?=some (some (R.own e))->σ[i]?=some (some (.ref a))->σ[j]?=some (some (.ref a))->i=j
variable {τ:VSt} {σ:St}
theorem Slots.step(S:Slots K H0 B H τ σ)(p:Stp B H B' H'):Slots K H0 B' H' τ σ where
 len:=S.len
 val:=λi d e=>let ⟨v,q,r⟩:=S.val i d e;⟨v,q,r.same p.b⟩
 fz:=λi d e=>let ⟨v,q,r⟩:=S.fz i d e;⟨v,q,r.same p.b⟩
 own:=λi d e=>let ⟨a,q,h0,hb,o⟩:=S.own i d e;⟨a,q,h0,p.keep hb o.some o.nt,o.step p.b (p.h.at o.some)⟩
 sep:=S.sep
theorem qa7{α:Type}{xs:List α}{i j:Nat}{x y:α}(h:(xs.set i x)[j]?=some y):(i=j/\x=y/\i<xs.length)\/(i≠j/\xs[j]?=some y):=by
 by_cases e:i=j
 ·subst e
  by_cases l:i<xs.length
  ·rw[List.getElem?_set_self l] at h
   exact .inl ⟨rfl,Option.some.inj h,l⟩
  ·rw[List.getElem?_eq_none (by rw[List.length_set];lia)] at h
   cases h
 ·rw[List.getElem?_set_ne e] at h
  exact .inr ⟨e,h⟩
theorem Slots.setVal(S:Slots K H0 B H τ σ)(i:Nat)(h:Rep K B d v):Slots K H0 B H (τ.set i (some (.val d))) (σ.set i (some v)) where
 len:=by rw[List.length_set,List.length_set,S.len]
 val:=λj e q=>by
  rcases qa7 q with ⟨rfl,z,l⟩|⟨n,q⟩
  ·cases z
   exact⟨v,List.getElem?_set_self (by rw[S.len];exact l),h⟩
  ·obtain⟨w,q,r⟩:=S.val j e q
   exact⟨w,by rw[List.getElem?_set_ne n];exact q,r⟩
 fz:=λj e q=>by
  rcases qa7 q with ⟨rfl,z,l⟩|⟨n,q⟩
  ·cases z
  ·obtain⟨w,q,r⟩:=S.fz j e q
   exact⟨w,by rw[List.getElem?_set_ne n];exact q,r⟩
 own:=λj e q=>by
  rcases qa7 q with ⟨rfl,z,l⟩|⟨n,q⟩
  ·cases z
  ·obtain⟨w,q,r⟩:=S.own j e q
   exact⟨w,by rw[List.getElem?_set_ne n];exact q,r⟩
 sep:=λj k e f c q1 q2 q3 q4=>by
  rcases qa7 q1 with ⟨rfl,z,l⟩|⟨n,q1⟩
  ·cases z
  rcases qa7 q2 with ⟨rfl,z,l⟩|⟨n2,q2⟩
  ·cases z
  rw[List.getElem?_set_ne n] at q3
  rw[List.getElem?_set_ne n2] at q4
  exact S.sep j k e f c q1 q2 q3 q4
theorem Slots.setNone(S:Slots K H0 B H τ σ)(i:Nat)(w:Option V):Slots K H0 B H (τ.set i none) (σ.set i w) where
 len:=by rw[List.length_set,List.length_set,S.len]
 val:=λj e q=>by
  rcases qa7 q with ⟨rfl,z,l⟩|⟨n,q⟩
  ·cases z
  ·obtain⟨w,q,r⟩:=S.val j e q
   exact⟨w,by rw[List.getElem?_set_ne n];exact q,r⟩
 fz:=λj e q=>by
  rcases qa7 q with ⟨rfl,z,l⟩|⟨n,q⟩
  ·cases z
  ·obtain⟨w,q,r⟩:=S.fz j e q
   exact⟨w,by rw[List.getElem?_set_ne n];exact q,r⟩
 own:=λj e q=>by
  rcases qa7 q with ⟨rfl,z,l⟩|⟨n,q⟩
  ·cases z
  ·obtain⟨w,q,r⟩:=S.own j e q
   exact⟨w,by rw[List.getElem?_set_ne n];exact q,r⟩
 sep:=λj k e f c q1 q2 q3 q4=>by
  rcases qa7 q1 with ⟨rfl,z,l⟩|⟨n,q1⟩
  ·cases z
  rcases qa7 q2 with ⟨rfl,z,l⟩|⟨n2,q2⟩
  ·cases z
  rw[List.getElem?_set_ne n] at q3
  rw[List.getElem?_set_ne n2] at q4
  exact S.sep j k e f c q1 q2 q3 q4
theorem Slots.setOwn(S:Slots K H0 B H τ σ)(i:Nat)(h0:H0 a=none)(hb:B a=none)(o:OwnAt K B H d a)(nw:∀(j:Nat) (e:D),τ[j]?=some (some (.own e))->σ[j]?≠some (some (.ref a))) :
  Slots K H0 B H (τ.set i (some (.own d))) (σ.set i (some (.ref a))) where
 len:=by rw[List.length_set,List.length_set,S.len]
 val:=λj e q=>by
  rcases qa7 q with ⟨rfl,z,l⟩|⟨n,q⟩
  ·cases z
  ·obtain⟨w,q,r⟩:=S.val j e q
   exact⟨w,by rw[List.getElem?_set_ne n];exact q,r⟩
 fz:=λj e q=>by
  rcases qa7 q with ⟨rfl,z,l⟩|⟨n,q⟩
  ·cases z
  ·obtain⟨w,q,r⟩:=S.fz j e q
   exact⟨w,by rw[List.getElem?_set_ne n];exact q,r⟩
 own:=λj e q=>by
  rcases qa7 q with ⟨rfl,z,l⟩|⟨n,q⟩
  ·cases z
   exact⟨a,List.getElem?_set_self (by rw[S.len];exact l),h0,hb,o⟩
  ·obtain⟨w,q,r⟩:=S.own j e q
   exact⟨w,by rw[List.getElem?_set_ne n];exact q,r⟩
 sep:=λj k e f c q1 q2 q3 q4=>by
  rcases qa7 q1 with ⟨rfl,z,l⟩|⟨n,q1⟩
  ·rcases qa7 q2 with ⟨rfl,z,l2⟩|⟨n2,q2⟩
   ·rfl
   ·rw[List.getElem?_set_self (by rw[S.len];exact l)] at q3
    cases q3
    rw[List.getElem?_set_ne n2] at q4
    exact absurd q4 (nw k f q2)
  ·rcases qa7 q2 with ⟨rfl,z,l2⟩|⟨n2,q2⟩
   ·rw[List.getElem?_set_self (by rw[S.len];exact l2)] at q4
    cases q4
    rw[List.getElem?_set_ne n] at q3
    exact absurd q3 (nw j e q1)
   ·rw[List.getElem?_set_ne n] at q3
    rw[List.getElem?_set_ne n2] at q4
    exact S.sep j k e f c q1 q2 q3 q4
theorem Slots.upd(S:Slots K H0 B H τ σ){i:Nat}{e:D}{o:HO}(hi:τ[i]?=some (some (.own e)))(ha:σ[i]?=some (some (.ref a)))(n:OwnAt K B (upd H a o) d a) :
  Slots K H0 B (upd H a o) (τ.set i (some (.own d))) σ where
 len:=by rw[List.length_set,S.len]
 val:=λj f q=>by
  rcases qa7 q with ⟨rfl,z,l⟩|⟨n,q⟩
  ·cases z
  ·exact S.val j f q
 fz:=λj f q=>by
  rcases qa7 q with ⟨rfl,z,l⟩|⟨n,q⟩
  ·cases z
  ·exact S.fz j f q
 own:=λj f q=>by
  rcases qa7 q with ⟨rfl,z,l⟩|⟨ne,q⟩
  ·cases z
   obtain⟨c,q1,h0,hb,_⟩:=S.own i e hi
   rw[ha] at q1
   cases q1
   exact⟨a,ha,h0,hb,n⟩
  ·obtain⟨c,q1,h0,hb,w⟩:=S.own j f q
   refine⟨c,q1,h0,hb,w.step (Same.refl _) (qa9 λz=>?_)⟩
   subst z
   exact ne (S.sep i j e f c hi q ha q1)
 sep:=λj k e' f c q1 q2 q3 q4=>by
  have hj:∃e',τ[j]?=some (some (.own e')):=by
   rcases qa7 q1 with ⟨rfl,z,l⟩|⟨_,q⟩
   ·exact⟨e,hi⟩
   ·exact⟨_,q⟩
  have hk:∃e',τ[k]?=some (some (.own e')):=by
   rcases qa7 q2 with ⟨rfl,z,l⟩|⟨_,q⟩
   ·exact⟨e,hi⟩
   ·exact⟨_,q⟩
  obtain⟨_,hj⟩:=hj
  obtain⟨_,hk⟩:=hk
  exact S.sep j k _ _ c hj hk q3 q4
theorem Stp.upd(p:Stp B H B' H'){o:HO}(h0:H a=none)(hb:B' a=none):Stp B H B' (L2.upd H' a o) :=
 ⟨p.b,p.h.put h0,λb u q=>by
  rw[qa9 (λz=>by rw[z,hb] at q;cases q)]
  exact p.s _ _ q,p.d⟩
def frz(i:Nat)(τ:VSt):VSt:=match τ[i]? with
|some (some (.own d))=>τ.set i (some (.val d))
|_=>τ
theorem Slots.frz(S:Slots K H0 B' H' τ σ)(p:Stp B H0 B' H')(i:Nat):∃B2,Stp B H0 B2 H'/\Same B' B2/\Slots K H0 B2 H' (frz i τ) σ:=by
 unfold L2.frz
 split
 ·rename_i d e
  obtain⟨a,q,h0,hb,o⟩:=S.own i d e
  obtain⟨u,eu,rp⟩:=o.pub hb
  refine⟨L2.upd B' a u,⟨p.b.trans (qao hb _),p.h,qfm p.s eu,λc z=>?_⟩,qao hb _,?_⟩
  ·by_cases w:c=a
   ·exact .inr (.inl (w▸h0))
   ·rw[qa9 w] at z
    exact p.d c z
  ·refine⟨by rw[List.length_set,S.len],λj f q'=>?_,λj f q'=>?_,λj f q'=>?_,λj k f g c q1 q2 q3 q4=>?_⟩
   ·rcases qa7 q' with ⟨rfl,z,l⟩|⟨n,q'⟩
    ·cases z
     exact⟨_,q,rp⟩
    ·obtain⟨w,q1,r⟩:=S.val j f q'
     exact⟨w,q1,r.same (qao hb _)⟩
   ·rcases qa7 q' with ⟨rfl,z,l⟩|⟨n,q'⟩
    ·cases z
    ·obtain⟨w,q1,r⟩:=S.fz j f q'
     exact⟨w,q1,r.same (qao hb _)⟩
   ·rcases qa7 q' with ⟨rfl,z,l⟩|⟨n,q'⟩
    ·cases z
    ·obtain⟨c,q1,h0',hb',w⟩:=S.own j f q'
     have ne:c≠a:=λz=>by subst z;exact n (S.sep i j d f c e q' q q1)
     exact⟨c,q1,h0',by rw[qa9 ne];exact hb',w.step (qao hb _) rfl⟩
   ·rcases qa7 q1 with ⟨rfl,z,l⟩|⟨n,q1⟩
    ·cases z
    rcases qa7 q2 with ⟨rfl,z,l⟩|⟨n2,q2⟩
    ·cases z
    exact S.sep j k f g c q1 q2 q3 q4
 ·exact⟨B',p,Same.refl _,S⟩
end
end L2
namespace L2
open PySem PySem.Spec PyProof.Rows
abbrev TV:=VSt->(R->Prop)->Prop
abbrev TVT:=VSt->(Bool->Prop)->Prop
inductive AR where
|ok (ds:List D)
|exc (n:Str)
abbrev TVA:=VSt->(AR->Prop)->Prop
abbrev TVG:=D->VSt->(VSt->Prop)->Prop
structure VEnds where
 nx:VSt->Prop
 rt:R->Prop
 bk:VSt->Prop:=λ_=>False
 ct:VSt->Prop:=λ_=>False
 xc:VSt->Str->Prop:=λ_ _=>False
 ro:VSt->R->Prop:=λ_ _=>False
 rn:D->Prop:=λ_=>False
abbrev TVS:=VEnds->VSt->Prop
section
variable (K:PySem.W.Frag) (EX:St->XK)
def RfE(te:TE)(t:TV):Prop:=∀(H0 B H:Hp) (τ:VSt) (σ:St) (Q:VK) (Qd:R->Prop),Same B H->Slots K H0 B H τ σ->t τ Qd->(∀n C B' H',Stp B H B' H'->clsOf K n C->Qd (.exc n)->EX σ (.ref C) none H')->(∀r v B' H',Stp B H B' H'->RepR K B' H H' r v->Qd r->Q v H')->te σ H Q
def RfT(te:TT)(t:TVT):Prop:=∀(H0 B H:Hp) (τ:VSt) (σ:St) (Q:Bool->Hp->Prop) (Qd:Bool->Prop),Same B H->Slots K H0 B H τ σ->t τ Qd->(∀b B' H',Stp B H B' H'->Qd b->Q b H')->te σ H Q
def RfA(te:TA)(t:TVA):Prop:=∀(H0 B H:Hp) (τ:VSt) (σ:St) (Q:List V->Hp->Prop) (Qd:AR->Prop),Same B H->Slots K H0 B H τ σ->t τ Qd->(∀n C B' H',Stp B H B' H'->clsOf K n C->Qd (.exc n)->EX σ (.ref C) none H')->(∀ds vs B' H',Stp B H B' H'->Reps K B' ds vs->Qd (.ok ds)->Q vs H')->te σ H Q
def RfO(r:R2)(rd:R->R->(R->Prop)->Prop):Prop:=∀(B H:Hp) (x y:V) (rx ry:R) (Q:VK) (Qd:R->Prop),Same B H->Pk K B H rx x->Pk K B H ry y->rd rx ry Qd->(∀r v B' H',Stp B H B' H'->RepR K B' H H' r v->Qd r->Q v H')->r x y H Q
def RfC(r:List V->Hp->VK->Prop)(rd:R->(R->Prop)->Prop):Prop:=∀(B H:Hp) (x:V) (rx:R) (Q:VK) (Qd:R->Prop),Same B H->Pk K B H rx x->rd rx Qd->(∀r v B' H',Stp B H B' H'->RepR K B' H H' r v->Qd r->Q v H')->r [x] H Q
def Kp(τ:VSt)(σ:St)(τ':VSt)(σ':St):Prop:=∀(j:Nat) (e:D),τ'[j]?=some (some (R.own e))->τ[j]?=some (some (R.own e))/\σ'[j]?=σ[j]?
def RfG(g:TG)(t:TVG):Prop:=∀(H0 B H:Hp) (τ:VSt) (σ:St) (x:V) (d:D) (Q:St->Hp->Prop) (Qd:VSt->Prop),Same B H->Slots K H0 B H τ σ->Rep K B d x->t d τ Qd->(∀τ' σ',Slots K H0 B H τ' σ'->Kp τ σ τ' σ'->Qd τ'->Q σ' H)->g x σ H Q
def RfGs(g:TGs)(t:List D->VSt->(VSt->Prop)->Prop):Prop:=∀(H0 B H:Hp) (τ:VSt) (σ:St) (xs:List V) (ds:List D) (Q:St->Hp->Prop) (Qd:VSt->Prop),Same B H->Slots K H0 B H τ σ->Reps K B ds xs->t ds τ Qd->(∀τ' σ',Slots K H0 B H τ' σ'->Kp τ σ τ' σ'->Qd τ'->Q σ' H)->g xs σ H Q
def ItOk(B:Hp)(J:It)(ds:List D):Prop:=∀(i:Nat) (B2 H:Hp),Same B B2->Same B2 H->(∀d,ds[i]?=some d->J.go i H/\∀x H',J.yld i H x H'->∃B3,Stp B2 H B3 H'/\Rep K B3 d x)/\(ds[i]?=none->J.stop i H)
def RfI(wi:TI)(vi:TVA):Prop:=∀(H0 B H:Hp) (τ:VSt) (σ:St) (Q:It->Hp->Prop) (Qd:AR->Prop),Same B H->Slots K H0 B H τ σ->vi τ Qd->(∀n C B' H',Stp B H B' H'->clsOf K n C->Qd (.exc n)->EX σ (.ref C) none H')->(∀J ds B' H',Stp B H B' H'->ItOk K B' J ds->Qd (.ok ds)->Q J H')->wi σ H Q
def RfF(ti:TF)(t:TVT):Prop:=∀(H0 B H:Hp) (τ:VSt) (σ:St) (Y N:Hp->Prop) (Qd:Bool->Prop),Same B H->Slots K H0 B H τ σ->t τ Qd->(∀b B' H',Stp B H B' H'->Qd b->if b=true then Y H' else N H')->ti σ H Y N
structure EndsOk(B0 H0:Hp)(Dv:VEnds)(Dh:Ends):Prop where
 nx:∀B H τ σ,Stp B0 H0 B H->Slots K H0 B H τ σ->Dv.nx τ->Dh.nx σ H
 rt:∀r v B H,Stp B0 H0 B H->RepR K B H0 H r v->Dv.rt r->Dh.rt v H
 bk:∀B H τ σ,Stp B0 H0 B H->Slots K H0 B H τ σ->Dv.bk τ->Dh.bk σ H
 ct:∀B H τ σ,Stp B0 H0 B H->Slots K H0 B H τ σ->Dv.ct τ->Dh.ct σ H
 xc:∀B H τ σ n C,Stp B0 H0 B H->Slots K H0 B H τ σ->clsOf K n C->Dv.xc τ n->EX σ (.ref C) none H
 ro:∀r v B H τ σ,Stp B0 H0 B H->Slots K H0 B H τ σ->RepR K B H0 H r v->(∀(d e:D) (i:Nat) (c:Addr),r=R.own d->τ[i]?=some (some (R.own e))->ioA e=some c->v≠.ref c)->Dv.ro τ r->Dh.rt v H
 rn:∀d v B H,Stp B0 H0 B H->Rep K B d v->NewR H0 B d v->Dv.rn d->Dh.rt v H
def RfS(ts:TS)(t:TVS):Prop:=∀(B0 H0 B H:Hp) (τ:VSt) (σ:St) (Dv:VEnds) (Dh:Ends),Stp B0 H0 B H->Slots K H0 B H τ σ->t Dv τ->EndsOk K EX B0 H0 Dv Dh->ts Dh σ H
end
section
structure VE(X:Cx)(EX:St->XK)(e:Expr)(t:TV):Prop where
 u:∃te,QE X e te/\RfE X.K EX te t
structure VC(X:Cx)(EX:St->XK)(e:Expr)(t:TV):Prop where
 u:∃te,QC X e te/\RfE X.K EX te t
structure VT(X:Cx)(EX:St->XK)(e:Expr)(t:TVT):Prop where
 u:∃te,QT X e te/\RfT X.K te t
structure VW(X:Cx)(EX:St->XK)(e:Expr)(t:TVT):Prop where
 u:∃te,QW X e te/\RfT X.K te t
structure VA(X:Cx)(EX:St->XK)(es:List Expr)(t:TVA):Prop where
 u:∃te,QA X es te/\RfA X.K EX te t
structure VI(X:Cx)(EX:St->XK)(tg e:Expr)(t:TVA):Prop where
 u:∃wi,QI X tg e wi/\RfI X.K EX wi t
structure VFs(X:Cx)(EX:St->XK)(ifs:List Expr)(t:TVT):Prop where
 u:∃ti,QF X ifs ti/\RfF X.K ti t
structure VS(X:Cx)(EX:St->XK)(st:Stmt)(t:TVS):Prop where
 u:∃ts,QS X st ts/\RfS X.K EX ts t
structure VSs(X:Cx)(EX:St->XK)(st:List Stmt)(t:TVS):Prop where
 u:∃ts,QSs X st ts/\RfS X.K EX ts t
end
section
variable (X:Cx)
structure VO(f:Value->Value->Sem Value)(rd:R->R->(R->Prop)->Prop):Prop where
 u:∃r,OpR X f r/\RfO X.K r rd
structure VX(rd:R->R->(R->Prop)->Prop):Prop where
 u:∃r,IxR X r/\RfO X.K r rd
structure VF(f:Value)(rd:R->(R->Prop)->Prop):Prop where
 u:∃r,CallR X f r/\RfC X.K r rd
structure VG(tg:Expr)(t:TVG):Prop where
 u:∃g,QG X tg g/\RfG X.K g t
structure VGs(ts:List Expr)(t:List D->VSt->(VSt->Prop)->Prop):Prop where
 u:∃g,QGs X ts g/\RfGs X.K g t
end
section
variable {X:Cx} {EX:St->XK} {K:PySem.W.Frag} {a b c e o i:Expr} {es:List Expr} {pos pos' p p2 apos cpos:Pos} {x:Str} {ta tb tc te:TV} {tA:TVA} {tT tU:TVT} {B H B' H' H0 H1 H2:Hp} {r:R} {v:V}
theorem RepR.back(h:RepR K B H1 H2 r v)(s:Same H H1):RepR K B H H2 r v:=by
 cases r with
|val d=>exact h
|own d =>
  obtain⟨a,e,h0,q⟩:=h
  exact⟨a,e,s.free h0,q⟩
|peek d=>exact h
|exc n=>exact h
theorem Pk.scal{z:V}(h:Pk K B H r v)(e:dV r.d=some z):v=z:=by
 cases r with
|val d =>
  have e':dV d=some z:=e
  have h':Rep K B d v:=h
  cases d<;>first|(unfold Rep at h';subst h';exact Option.some.inj e')|(cases e';done)
|own d =>
  obtain⟨a,_,_,q⟩:=h
  have e':dV d=some z:=e
  cases d<;>first|(cases e';done)|exact q.elim
|peek d =>
  obtain⟨a,_,_,q⟩:=h
  have e':dV d=some z:=e
  cases d<;>first|(cases e';done)|exact q.elim
|exc n=>exact h.elim
theorem Pk.tup{ds:List D}(h:Pk K B H r v)(e:r.d=.tup ds):∃a xs,v=.ref a/\TupAt K B a ds xs/\Reps K B ds xs:=by
 cases r with
|val d =>
  cases (show d=_ from e)
  have h':Rep K B (.tup ds) v:=h
  unfold Rep at h'
  exact h'
|own d=>cases (show d=_ from e);obtain⟨_,_,_,q⟩:=h;exact q.elim
|peek d=>cases (show d=_ from e);obtain⟨_,_,_,q⟩:=h;exact q.elim
|exc n=>exact h.elim
theorem Pk.lst{ds:List D}(s:Same B H)(h:Pk K B H r v)(e:r.d=.lst ds):∃a xs,v=.ref a/\H a=some (.lst xs)/\Reps K B ds xs:=by
 cases r with
|val d =>
  cases (show d=_ from e)
  have h':Rep K B (.lst ds) v:=h
  unfold Rep at h'
  obtain⟨a,xs,rfl,q,rp⟩:=h'
  exact⟨a,xs,rfl,s _ _ q,rp⟩
|own d=>cases (show d=_ from e);obtain⟨a,rfl,_,xs,q,rp⟩:=h;exact⟨a,xs,rfl,q,rp⟩
|peek d=>cases (show d=_ from e);obtain⟨a,rfl,_,xs,q,rp⟩:=h;exact⟨a,xs,rfl,q,rp⟩
|exc n=>exact h.elim
theorem Pk.scr{ns:List Int}(s:Same B H)(h:Pk K B H r v)(e:r.d=.scr ns):∃a,v=.ref a/\SqL K H a (ns.map V.int):=by
 cases r with
|val d =>
  cases (show d=_ from e)
  have h':Rep K B (.scr ns) v:=h
  unfold Rep at h'
  obtain⟨a,rfl,q⟩:=h'
  exact⟨a,rfl,s.seq q⟩
|own d=>cases (show d=_ from e);obtain⟨_,_,_,q⟩:=h;exact q.elim
|peek d=>cases (show d=_ from e);obtain⟨_,_,_,q⟩:=h;exact q.elim
|exc n=>exact h.elim
theorem qhr{d:D}{z:V}(e:dV d=some z):Rep K B d z:=by
 cases d<;>first|(cases e;done)|(unfold Rep;exact(Option.some.inj e).symm)
theorem repV{d:D}{z:V}(e:dV d=some z):RepR K B H0 H (.val d) z:=qhr e
theorem xst{B1:Hp}{σ:St}{P:Str->Prop}(x:∀n C B' H',Stp B H B' H'->clsOf K n C->P n->EX σ (.ref C) none H')(p:Stp B H B1 H1):∀n C B' H',Stp B1 H1 B' H'->clsOf K n C->P n->EX σ (.ref C) none H':=λn C B' H' q c h=>x n C B' H' (p.trans q) c h
theorem xno{σ:St}{P:Str->Prop}(h:∀n,¬ P n):∀n C B' H',Stp B H B' H'->clsOf K n C->P n->EX σ (.ref C) none H':=λn _ _ _ _ _ q=>absurd q (h n)
def vVar(i:Nat):TV:=λτ Q=>match τ[i]? with
|some (some (.val d))=>Q (.val d)
|some (some (.own d))=>Q (.peek d)
|some (some (.peek d))=>Q (.val d)
|_=>False
theorem q5x{i:Nat}:RfE K EX (tVar i) (vVar i):=λH0 B H τ σ Q Qd s S h _ k=>by
 unfold vVar at h
 split at h
 ·rename_i d e
  obtain⟨v,q,rp⟩:=S.val i d e
  exact⟨v,q,k (.val d) v B H (.refl s) rp h⟩
 ·rename_i d e
  obtain⟨a,q,_,hb,ow⟩:=S.own i d e
  exact⟨.ref a,q,k (.peek d) (.ref a) B H (.refl s) ⟨a,rfl,hb,ow⟩ h⟩
 ·rename_i d e
  obtain⟨v,q,rp⟩:=S.fz i d e
  exact⟨v,q,k (.val d) v B H (.refl s) rp.rep h⟩
 ·exact h.elim
theorem vv(i:Nat)(hN:X.N[i]?=some x:=by rfl)(hv:Vis X.env.scope x:=by first|exact Or.inl rfl|exact Or.inr (Or.inl rfl)|exact Or.inr (Or.inr rfl))(hd:(x==("__debug__" : Str))=false:=by decide)
  (hcd:(x==("__classdict__" : Str))=false:=by decide):VE X EX (.Name x pos) (vVar i):=⟨_,qv i hN hv hd hcd,q5x⟩
def vC(d:D):TV:=λ_ Q=>Q (.val d)
theorem rf_c{d:D}{z:V}(e:dV d=some z):RfE K EX (tC z) (vC d):=λ_ B H _ _ _ _ s _ h _ k=>k (.val d) z B H (.refl s) (qhr e) h
theorem qaf{k:Int}{j:Nat}:VE X EX (.Constant (.int k) j pos) (vC (.int k)):=⟨_,qua,rf_c rfl⟩
theorem qf9{k:Bool}{j:Nat}:VE X EX (.Constant (.bool k) j pos) (vC (.bl k)):=⟨_,q48,rf_c rfl⟩
theorem qic{j:Nat}:VE X EX (.Constant .none j pos) (vC .non):=⟨_,q5b,rf_c rfl⟩
theorem qai{z:Str}{j:Nat}:VE X EX (.Constant (.str z) j pos) (vC (.str z)):=⟨_,q5d,rf_c rfl⟩
theorem qey{d:D}{z:V}{w:Value}(hg:Gl X x)(hm:X.mg x=some w)(r:RelV z w)(e:dV d=some z)(hd:(x==("__debug__" : Str))=false:=by decide):VE X EX (.Name x pos) (vC d):=⟨_,qt9 hg hm r hd,rf_c e⟩
theorem qyc{ds:List D}{xs:List V}{ad:Addr}(hg:Gl X x)(hm:X.mg x=some (.ref ad))(h:SqT X.K (λ_=>none) ad xs/\ds=[.str "folder",.str ""]/\Reps X.K (λ_=>none) ds xs)(hd:(x==("__debug__" : Str))=false:=by decide):VE X EX (.Name x pos) (vC (.tup ds)) :=
 ⟨_,qt9 (v:=.ref ad) hg hm rfl hd,λ_ B H _ _ _ _ s _ q _ k=>k (.val _) _ B H (.refl s) (by show Rep X.K B (.tup ds) _;unfold Rep;exact⟨ad,xs,rfl,.inr ⟨h.1,h.2.1⟩,h.2.2.same (Same.emp B)⟩) q⟩
theorem RepR.ok{Q:R->Prop}{k:Prop}(h:RepR K B H0 H r v)(q:exR r Q k):k:=by
 cases r with
|exc n=>exact h.elim
|val d=>exact q
|own d=>exact q
|peek d=>exact q
def vOp(rd:R->R->(R->Prop)->Prop)(ta tb:TV):TV:=λτ Q=>ta τ λrx=>exR rx Q (tb τ λry=>exR ry Q (rd rx ry Q))
theorem qxo{rr:R2}{rd:R->R->(R->Prop)->Prop}{ea eb:TE}(hr:RfO K rr rd)(ha:RfE K EX ea ta)(hb:RfE K EX eb tb):RfE K EX (tOp rr ea eb) (vOp rd ta tb):=λH0 B H τ σ Q Qd s S h xc k =>
 ha H0 B H τ σ _ _ s S h xc λrx x B1 H1 p1 q1 h1=>hb H0 B1 H1 τ σ _ _ p1.s (S.step p1) (q1.ok h1) (xst xc p1) λry y B2 H2 p2 q2 h2 =>
  hr B2 H2 x y rx ry _ _ p2.s (q1.pk.step p2) q2.pk (q2.ok h2) λr v B3 H3 p3 q3 h3=>k r v B3 H3 (p1.trans (p2.trans p3)) (q3.back (p1.trans p2).h) h3
theorem qaw{op:Operator}{rd:R->R->(R->Prop)->Prop}(hr:VO X (binaryOp op) rd)(ha:VE X EX a ta)(hb:VE X EX b tb):VE X EX (.BinOp a op b pos) (vOp rd ta tb) :=
 let ⟨_,h1,h2⟩:=hr.u;let ⟨_,a1,a2⟩:=ha.u;let ⟨_,b1,b2⟩:=hb.u;⟨_,q7h h1 a1 b1,qxo h2 a2 b2⟩
theorem qmb{op:CmpOp}{rd:R->R->(R->Prop)->Prop}(hr:VO X (compareOp op) rd)(ha:VE X EX a ta)(hb:VE X EX b tb)(hm:behindInMarks op b=false:=by with_unfolding_all rfl):VE X EX (.Compare a [op] [b] pos) (vOp rd ta tb) :=
 let ⟨_,h1,h2⟩:=hr.u;let ⟨_,a1,a2⟩:=ha.u;let ⟨_,b1,b2⟩:=hb.u;⟨_,q1x h1 a1 b1 hm,qxo h2 a2 b2⟩
theorem qat{rd:R->R->(R->Prop)->Prop}(hr:VX X rd)(ha:VE X EX a ta)(hb:VE X EX b tb)(hs:qe2 b:=by exact λ_ _=>rfl):VE X EX (.Subscript a b pos) (vOp rd ta tb) :=
 let ⟨_,h1,h2⟩:=hr.u;let ⟨_,a1,a2⟩:=ha.u;let ⟨_,b1,b2⟩:=hb.u;⟨_,q49 h1 a1 b1 hs,qxo h2 a2 b2⟩
def vBl(t:TV):TVT:=λτ Q=>t τ λr=>match r.d with
|.bl b=>Q b
|_=>False
theorem q2d{ea:TE}(ha:RfE K EX ea ta):RfT K (tB ea) (vBl ta):=λH0 B H τ σ Q Qd s S h k=>ha H0 B H τ σ _ _ s S h (xno λ_ q=>q) λr v B' H' p q h1=>by
 split at h1
 ·rename_i bb e
  exact⟨bb,q.pk.scal (by rw[e];rfl),k bb B' H' p h1⟩
 ·exact h1.elim
theorem qdi(ha:VE X EX e ta)(he:∀whole,isTrue e X.env whole=(do let v ←whole;standAt e.pos;holding [v] (truthy v)):=by intro _;rfl):VT X EX e (vBl ta) :=
 let ⟨_,a1,a2⟩:=ha.u;⟨_,q5m a1 he,q2d a2⟩
theorem qaz{op:CmpOp}{rd:R->R->(R->Prop)->Prop}(hr:VO X (compareOp op) rd)(ha:VE X EX a ta)(hb:VE X EX b tb)(hm:behindInMarks op b=false:=by with_unfolding_all rfl):VT X EX (.Compare a [op] [b] pos) (vBl (vOp rd ta tb)) :=
 let ⟨_,h1,h2⟩:=hr.u;let ⟨_,a1,a2⟩:=ha.u;let ⟨_,b1,b2⟩:=hb.u;⟨_,q18 h1 a1 b1 hm,q2d (qxo h2 a2 b2)⟩
def qkg(t u:TVT):TVT:=λτ Q=>t τ λc=>if c=true then u τ Q else Q false
def vOrT(t u:TVT):TVT:=λτ Q=>t τ λc=>if c=true then Q true else u τ Q
def qep(t:TVT):TVT:=λτ Q=>t τ λc=>Q (!c)
theorem q5v{e1:TT}(h1:RfT K e1 tT):RfT K (tNot e1) (qep tT):=λH0 B H τ σ Q Qd s S h k=>h1 H0 B H τ σ _ _ s S h λb B' H' p q=>k _ B' H' p q
theorem q5s{e1 e2:TT}(h1:RfT K e1 tT)(h2:RfT K e2 tU):RfT K (tAnd e1 e2) (qkg tT tU):=λH0 B H τ σ Q Qd s S h k=>h1 H0 B H τ σ _ _ s S h λb B' H' p q=>by
 cases b with
|true=>exact iteT (h2 H0 B' H' τ σ _ _ p.s (S.step p) (by rw[if_pos rfl] at q;exact q) λb2 B2 H2 p2 q2=>k b2 B2 H2 (p.trans p2) q2)
|false=>exact iteF (k false B' H' p (by rw[if_neg Bool.false_ne_true] at q;exact q))
theorem q7o{e1 e2:TT}(h1:RfT K e1 tT)(h2:RfT K e2 tU):RfT K (tOr e1 e2) (vOrT tT tU):=λH0 B H τ σ Q Qd s S h k=>h1 H0 B H τ σ _ _ s S h λb B' H' p q=>by
 cases b with
|true=>exact iteT (k true B' H' p (by rw[if_pos rfl] at q;exact q))
|false=>exact iteF (h2 H0 B' H' τ σ _ _ p.s (S.step p) (by rw[if_neg Bool.false_ne_true] at q;exact q) λb2 B2 H2 p2 q2=>k b2 B2 H2 (p.trans p2) q2)
theorem qd9(h:VT X EX a tT):VT X EX (.UnaryOp .Not a pos) (qep tT):=let ⟨_,a1,a2⟩:=h.u;⟨_,q5l a1,q5v a2⟩
theorem qig(h:VT X EX a tT):VW X EX (.BoolOp .And [a] pos) tT:=let ⟨_,a1,a2⟩:=h.u;⟨_,q19 a1,a2⟩
theorem qih(h:VT X EX a tT):VW X EX (.BoolOp .Or [a] pos) tT:=let ⟨_,a1,a2⟩:=h.u;⟨_,q5o a1,a2⟩
theorem qmf(ha:VT X EX a tT)(hb:VW X EX (.BoolOp .And (b::es) pos) tU):VW X EX (.BoolOp .And (a::b::es) pos) (qkg tT tU):=let ⟨_,a1,a2⟩:=ha.u;let ⟨_,b1,b2⟩:=hb.u;⟨_,q5n a1 b1,q5s a2 b2⟩
theorem qko(ha:VT X EX a tT)(hb:VW X EX (.BoolOp .Or (b::es) pos) tU):VW X EX (.BoolOp .Or (a::b::es) pos) (vOrT tT tU):=let ⟨_,a1,a2⟩:=ha.u;let ⟨_,b1,b2⟩:=hb.u;⟨_,q7l a1 b1,q7o a2 b2⟩
theorem vw_t(h:VW X EX e tT):VT X EX e tT:=let ⟨_,a1,a2⟩:=h.u;⟨_,qw_t a1,a2⟩
def qur(ta tb:TV):TV:=λτ Q=>ta τ λr=>match r.d with
|.bl c=>if c=true then tb τ Q else Q (.val (.bl false))
|_=>False
def vOrE(ta tb:TV):TV:=λτ Q=>ta τ λr=>match r.d with
|.bl c=>if c=true then Q (.val (.bl true)) else tb τ Q
|_=>False
def q6d(ta:TV):TV:=λτ Q=>ta τ λr=>match r.d with
|.bl c=>Q (.val (.bl (!c)))
|_=>False
theorem quy{op:BoolOp}(h:VE X EX a ta):VE X EX (.BoolOp op [a] pos) ta:=let ⟨_,a1,a2⟩:=h.u;⟨_,q5c a1,a2⟩
theorem qzl(ha:VE X EX a ta)(hb:VE X EX (.BoolOp .And (b::es) pos) tb):VE X EX (.BoolOp .And (a::b::es) pos) (qur ta tb) :=
 let ⟨_,a1,a2⟩:=ha.u;let ⟨_,b1,b2⟩:=hb.u;⟨_,q47 a1 b1,λH0 B H τ σ Q Qd s S h xc k=>a2 H0 B H τ σ _ _ s S h (xno λ_ q=>q) λr v B' H' p q h1=>by
  split at h1
  ·rename_i c e
   refine⟨c,q.pk.scal (by rw[e];rfl),?_⟩
   cases c with
  |true=>exact iteT (b2 H0 B' H' τ σ _ _ p.s (S.step p) (by rw[if_pos rfl] at h1;exact h1) (xst xc p) λr2 v2 B2 H2 p2 q2 h2=>k r2 v2 B2 H2 (p.trans p2) (q2.back p.h) h2)
  |false=>exact iteF (k (.val (.bl false)) _ B' H' p (repV (d:=.bl false) rfl) (by rw[if_neg Bool.false_ne_true] at h1;exact h1))
  ·exact h1.elim⟩
theorem q7s(ha:VE X EX a ta)(hb:VE X EX (.BoolOp .Or (b::es) pos) tb):VE X EX (.BoolOp .Or (a::b::es) pos) (vOrE ta tb) :=
 let ⟨_,a1,a2⟩:=ha.u;let ⟨_,b1,b2⟩:=hb.u;⟨_,q7i a1 b1,λH0 B H τ σ Q Qd s S h xc k=>a2 H0 B H τ σ _ _ s S h (xno λ_ q=>q) λr v B' H' p q h1=>by
  split at h1
  ·rename_i c e
   refine⟨c,q.pk.scal (by rw[e];rfl),?_⟩
   cases c with
  |true=>exact iteT (k (.val (.bl true)) _ B' H' p (repV (d:=.bl true) rfl) (by rw[if_pos rfl] at h1;exact h1))
  |false=>exact iteF (b2 H0 B' H' τ σ _ _ p.s (S.step p) (by rw[if_neg Bool.false_ne_true] at h1;exact h1) (xst xc p) λr2 v2 B2 H2 p2 q2 h2=>k r2 v2 B2 H2 (p.trans p2) (q2.back p.h) h2)
  ·exact h1.elim⟩
def vIfE(tT:TVT)(ta tb:TV):TV:=λτ Q=>tT τ λc=>if c=true then ta τ Q else tb τ Q
theorem qpm(hc:VT X EX c tT)(ha:VE X EX a ta)(hb:VE X EX b tb):VE X EX (.IfExp c a b pos) (vIfE tT ta tb) :=
 let ⟨_,c1,c2⟩:=hc.u;let ⟨_,a1,a2⟩:=ha.u;let ⟨_,b1,b2⟩:=hb.u;⟨_,qo6 c1 a1 b1,λH0 B H τ σ Q Qd s S h xc k=>c2 H0 B H τ σ _ _ s S h λcb B' H' p q=>by
  cases cb with
 |true=>exact iteT (a2 H0 B' H' τ σ _ _ p.s (S.step p) (by rw[if_pos rfl] at q;exact q) (xst xc p) λr2 v2 B2 H2 p2 q2 h2=>k r2 v2 B2 H2 (p.trans p2) (q2.back p.h) h2)
 |  false=>exact iteF (b2 H0 B' H' τ σ _ _ p.s (S.step p) (by rw[if_neg Bool.false_ne_true] at q;exact q) (xst xc p) λr2 v2 B2 H2 p2 q2 h2=>k r2 v2 B2 H2 (p.trans p2) (q2.back p.h) h2)⟩
def exA:AR->(R->Prop)->(List D->Prop)->Prop
|.ok ds,_,k=>k ds
|.exc n,Q,_=>Q (.exc n)
def vNil:TVA:=λ_ Q=>Q (.ok [])
def q0p(d:D):AR->AR
|.ok ds=>.ok (d::ds)
|.exc n=>.exc n
def excA:R->(AR->Prop)->Prop->Prop
|.exc n,Q,_=>Q (.exc n)
|.val _,_,k=>k
|.own _,_,k=>k
|.peek _,_,k=>k
theorem RepR.okA{Q:AR->Prop}{k:Prop}(h:RepR K B H0 H r v)(q:excA r Q k):k:=by
 cases r with
|exc n=>exact h.elim
|val d=>exact q
|own d=>exact q
|peek d=>exact q
def qaa(te:TV)(tA:TVA):TVA:=λτ Q=>te τ λr=>excA r Q (pubR r λd=>tA τ λa=>Q (q0p d a))
theorem qad:VA X EX [] vNil:=⟨_,qd5,λ_ B H _ _ _ _ s _ h _ k=>k [] [] B H (.refl s) (by unfold Reps;rfl) h⟩
theorem vac(ha:VE X EX e te)(hr:VA X EX es tA)(hs:qav e=true:=by rfl):VA X EX (e::es) (qaa te tA) :=
 let ⟨_,a1,a2⟩:=ha.u;let ⟨_,b1,b2⟩:=hr.u;⟨_,qac a1 b1 hs,λH0 B H τ σ Q Qd s S h xc k=>a2 H0 B H τ σ _ _ s S h xc λr v B1 H1 p q h1=>by
  obtain⟨d,B2,p2,_,rp,h2⟩:=pub p q (q.okA h1)
  exact b2 H0 B2 H1 τ σ _ _ p2.s (S.step p2) h2 (xst xc p2) λds vs B3 H3 p3 q3 h3=>k (d::ds) (v::vs) B3 H3 (p2.trans p3) (by unfold Reps;exact⟨v,vs,rfl,rp.same p3.b,q3⟩) h3⟩
def vTup(tA:TVA):TV:=λτ Q=>tA τ λa=>exA a Q λds=>ds.length<=sizeLine/\Q (.val (.tup ds))
def vLst(tA:TVA):TV:=λτ Q=>tA τ λa=>exA a Q λds=>ds.length<=sizeLine/\Q (.own (.lst ds))
theorem qfi{ds:List D}{xs:List V}{q:Addr}(h:Reps K B ds xs)(hb:B q=none):Rep K (upd B q (.tup xs)) (.tup ds) (.ref q):=by
 unfold Rep
 exact⟨q,xs,rfl,.inl qa6,h.same (qao hb _)⟩
theorem qcf{ds:List D}{xs:List V}{q:Addr}(h:Reps K B ds xs):OwnAt K B (upd H q (.lst xs)) (.lst ds) q:=⟨xs,qa6,h⟩
theorem qap{k:Nat}(h:VA X EX es tA):VE X EX (.Tuple es k pos) (vTup tA) :=
 let ⟨_,a1,a2⟩:=h.u;⟨_,qy5 a1,λH0 B H τ σ Q Qd s S h xc k=>a2 H0 B H τ σ _ _ s S h xc λds vs B1 H1 p q h1 =>
  ⟨by rw[←q.length];exact h1.1,λad had=>k (.val (.tup ds)) _ (upd B1 ad (.tup vs)) _ (p.trans (.new p.s had)) (qfi q (p.s.free had)) h1.2⟩⟩
theorem qc0(h:VA X EX es tA):VE X EX (.List es pos) (vLst tA) :=
 let ⟨_,a1,a2⟩:=h.u;⟨_,q5a a1,λH0 B H τ σ Q Qd s S h xc k=>a2 H0 B H τ σ _ _ s S h xc λds vs B1 H1 p q h1 =>
  ⟨by rw[←q.length];exact h1.1,λad had=>k (.own (.lst ds)) _ B1 _ (p.trans (.grow p.s (qao had _))) ⟨ad,rfl,p.h.free had,p.s.free had,qcf q⟩ h1.2⟩⟩
abbrev DP:=List D->(R->Prop)->Prop
def spOf(K:PySem.W.Frag)(g:DP):Sp:=λvs H Q E=>∃ds B Qd,Same B H/\Reps K B ds vs/\g ds Qd/\(∀n C B' H',Qd (.exc n)->Stp B H B' H'->clsOf K n C->E (.ref C) none H')/\∀r v B' H',Qd r->Stp B H B' H'->RepR K B' H H' r v->Q v H'
def qeo(g:DP)(tA:TVA):TV:=λτ Q=>tA τ λa=>exA a Q λds=>g ds Q
def qal(g:DP)(tA:TVA):TV:=λτ Q=>tA τ λa=>exA a Q λds=>g ds λr=>exR r (λ_=>False) (Q r)
theorem qas{k:Nat}{ps:List Str}{g:DP}(C:Cal X.prog X.w X.K X.mg X.base k x ps (spOf X.K g))(hr:Room k X.A)(hg:Gl X x)(ha:VA X EX (e::es) tA)(hp:(e::es).all qav=true:=by rfl)(hdb:(x==("__debug__" : Str))=false:=by decide) :
  VE X EX (.Call (.Name x p) (e::es) [] pos) (qal g tA) :=
 let ⟨_,a1,a2⟩:=ha.u;⟨_,qo5 C hr hg a1 hp hdb,λH0 B H τ σ Q Qd s S h xc k=>a2 H0 B H τ σ _ _ s S h xc λds vs B1 H1 p q h1 =>
  ⟨ds,B1,_,p.s,by rw[List.append_nil];exact q,h1,λn C B' H' hq _ _=>hq.elim,λr v B2 H2 hq p2 q2=>k r v B2 H2 (p.trans p2) (q2.back p.h) (q2.ok hq)⟩⟩
def vF1(rd:R->(R->Prop)->Prop)(te:TV):TV:=λτ Q=>te τ λr=>exR r Q (rd r Q)
theorem q5t{rr:List V->Hp->VK->Prop}{rd:R->(R->Prop)->Prop}{ea:TE}(hr:RfC K rr rd)(ha:RfE K EX ea te):RfE K EX (tCB rr (qx1 ea tNil)) (vF1 rd te):=λH0 B H τ σ Q Qd s S h xc k =>
 ha H0 B H τ σ _ _ s S h xc λrx x B1 H1 p1 q1 h1=>hr B1 H1 x rx _ _ p1.s q1.pk (q1.ok h1) λr v B2 H2 p2 q2 h2=>k r v B2 H2 (p1.trans p2) (q2.back p1.h) h2
theorem qde{id:String}{rd:R->(R->Prop)->Prop}(hc:VF X (.builtin id) rd)(hg:Gl X x)(hm:X.mg x=none)(hv:bootBuiltins x=some (.builtin id))(ha:VE X EX e te)(hp:qav e=true:=by rfl)(hn:x≠"__name__" := by decide)
  (hdb:(x==("__debug__" : Str))=false:=by decide):VE X EX (.Call (.Name x p) [e] [] pos) (vF1 rd te) :=
 let ⟨_,c1,c2⟩:=hc.u;let ⟨_,a1,a2⟩:=ha.u;⟨_,qcb c1 hg hm hv (qac a1 qd5 hp) (by simp[hp]) hn hdb,q5t c2 a2⟩
theorem qux{T:String}{rd:R->(R->Prop)->Prop}(hc:VF X (.type T) rd)(hg:Gl X x)(hm:X.mg x=none)(hv:bootBuiltins x=some (.type T))(ha:VE X EX e te)(hp:qav e=true:=by rfl)(hn:x≠"__name__" := by decide)
  (hdb:(x==("__debug__" : Str))=false:=by decide):VE X EX (.Call (.Name x p) [e] [] pos) (vF1 rd te) :=
 let ⟨_,c1,c2⟩:=hc.u;let ⟨_,a1,a2⟩:=ha.u;⟨_,qct c1 hg hm hv (qac a1 qd5 hp) (by simp[hp]) hn hdb,q5t c2 a2⟩
end
end L2
namespace L2
open PySem PySem.Spec PyProof.Rows
section
variable {X:Cx} {EX:St->XK} {K:PySem.W.Frag} {B H B' H' H0:Hp}
theorem op_catP:OpR X (binaryOp .Add) (λx y H Q=>∃a b xs ys,x=.ref a/\y=.ref b/\SqT X.K H a xs/\SqT X.K H b ys/\xs.length+ys.length<=sizeLine/\(xs=[]->Q (.ref b) H)/\(xs≠[]->ys=[]->Q (.ref a) H) /\
  (xs≠[]->ys≠[]->∀p,H p=none->Q (.ref p) (upd H p (.tup (xs++ys))))):=by
 intro pins s σ H x y v u Q I rx ry h
 obtain⟨a,b,xs,ys,rfl,rfl,ha,hb,hz,q1,q2,q3⟩:=h
 by_cases hx:xs=[]
 ·subst hx
  cases rx
  cases ry
  obtain⟨its,r1,p1,_⟩:=I.tuple ha
  obtain⟨its2,r2,p2,_⟩:=I.tuple hb
  obtain⟨⟨cls,dd,data,sl⟩,ho,hc,n,hd⟩:=id p1
  obtain⟨⟨cls2,dd2,data2,sl2⟩,ho2,hc2,n2,hd2⟩:=id p2
  simp only at hc hd hc2 hd2
  subst hc hd hc2 hd2
  have e1:its=[]:=r1.nil_iff.mpr rfl
  exact concat_meets ⟨_,ho,rfl⟩ ⟨_,ho2,rfl⟩ noFill_tuple_add seq_tuple_add PySem.F.slot_tuple_add PySem.F.entry_tuple_add (PySem.F.args_tuple_add_2 _ _)
   (tuple_addW0 a b its.toArray its2.toArray n n2 dd dd2 sl sl2 (by simp[e1])) ⟨ho,ho2,⟨.ref b,H,I,rfl,q1 rfl⟩⟩
 ·exact q03 pins s σ H (.ref a) (.ref b) v u Q I rx ry ⟨a,b,xs,ys,rfl,rfl,ha,hb,hx,hz,λe=>q2 hx e,λe p hp=>q3 hx e p hp⟩
theorem sl_tupP:SlR X (λx lo hi H Q=>∃a xs,x=.ref a/\SqT X.K H a xs/\((HT.sIx xs.length 0 lo=0/\HT.sIx xs.length xs.length hi=xs.length)->Q (.ref a) H) /\
  (¬ (HT.sIx xs.length 0 lo=0/\HT.sIx xs.length xs.length hi=xs.length)->∀p,H p=none->Q (.ref p) (upd H p (.tup (cutV xs lo hi))))):=by
 intro pins s σ H x v vl vu lo hi sl Q I rx hs pl pu h
 obtain⟨a,xs,rfl,hx,q1,q2⟩:=h
 by_cases hw:HT.sIx xs.length 0 lo=0/\HT.sIx xs.length xs.length hi=xs.length
 ·cases rx
  obtain⟨its,r,ht,hz⟩:=I.tuple hx
  have hlen:its.toArray.size=xs.length:=by rw[List.size_toArray];exact r.length.symm
  refine⟨"tuple",_,PyProof.Rows.slot_tuple_getitem.lookup,ht.typeIs,?_⟩
  exact HT.getItem_tuple_whole ht hs pl pu (by rw[hlen];exact hw) ⟨.ref a,H,I,rfl,q1 hw⟩
 ·exact q53 pins s σ H (.ref a) v vl vu lo hi sl Q I rx hs pl pu ⟨a,xs,rfl,hx,hw,q2 hw⟩
theorem Reps.append{ds es:List D}{xs ys:List V}(h1:Reps K B ds xs)(h2:Reps K B es ys):Reps K B (ds++es) (xs++ys):=by
 induction ds generalizing xs with
|nil=>unfold Reps at h1;subst h1;exact h2
|cons d ds ih =>
  unfold Reps at h1
  obtain⟨x,r,rfl,q1,q2⟩:=h1
  show Reps K B (d::(ds++es)) (x::(r++ys))
  unfold Reps
  exact⟨x,r++ys,rfl,q1,ih q2⟩
theorem Reps.nil:Reps K B [] []:=by unfold Reps;rfl
theorem Reps.cons{d:D}{ds:List D}{x:V}{xs:List V}(h1:Rep K B d x)(h2:Reps K B ds xs):Reps K B (d::ds) (x::xs):=by unfold Reps;exact⟨x,xs,rfl,h1,h2⟩
theorem Reps.one{d:D}{x:V}(h:Rep K B d x):Reps K B [d] [x]:=.cons h .nil
theorem Reps.drop:∀(n:Nat) {ds:List D} {xs:List V},Reps K B ds xs->Reps K B (ds.drop n) (xs.drop n)
|0,_,_,h=>h
|n+1,[],_,h=>by unfold Reps at h;subst h;exact .nil
|n+1,d::ds,_,h=>by
  unfold Reps at h
  obtain⟨x,r,rfl,q1,q2⟩:=h
  exact Reps.drop n q2
theorem Reps.take:∀(n:Nat) {ds:List D} {xs:List V},Reps K B ds xs->Reps K B (ds.take n) (xs.take n)
|0,_,_,_=>.nil
|n+1,[],_,h=>by unfold Reps at h;subst h;exact .nil
|n+1,d::ds,_,h=>by
  unfold Reps at h
  obtain⟨x,r,rfl,q1,q2⟩:=h
  exact .cons q1 (Reps.take n q2)
theorem Reps.cut{ds:List D}{xs:List V}(lo hi:Option Int)(h:Reps K B ds xs):Reps K B (cutL ds lo hi) (cutV xs lo hi):=by
 unfold cutL cutV
 rw[h.length]
 exact(h.drop _).take _
theorem Reps.ints(ns:List Int):Reps K B (ns.map D.int) (ns.map V.int):=by
 induction ns with
|nil=>exact .nil
|cons n ns ih=>exact .cons (qhr (d:=.int n) rfl) ih
theorem Reps.strs:∀ {ss:List Str} {xs:List V},Reps K B (ss.map D.str) xs->xs=ss.map V.str
|[],_,h=>by unfold Reps at h;exact h
|s::ss,_,h=>by
  have h':Reps K B (.str s::ss.map D.str) _:=h
  unfold Reps at h'
  obtain⟨x,r,rfl,q1,q2⟩:=h'
  unfold Rep at q1
  rw[q1,Reps.strs q2]
  rfl
theorem Reps.bls:∀ {ss:List Bool} {xs:List V},Reps K B (ss.map D.bl) xs->xs=ss.map V.bl
|[],_,h=>by unfold Reps at h;exact h
|s::ss,_,h=>by
  have h':Reps K B (.bl s::ss.map D.bl) _:=h
  unfold Reps at h'
  obtain⟨x,r,rfl,q1,q2⟩:=h'
  unfold Rep at q1
  rw[q1,Reps.bls q2]
  rfl
theorem Reps.atI{ds:List D}{xs:List V}{i:Int}{d:D}(h:Reps K B ds xs)(e:L2.atI ds i=some d):∃x,L2.atI xs i=some x/\Rep K B d x:=by
 unfold L2.atI at e ⊢
 rw[←h.length]
 cases q:ixN ds.length i with
|none=>rw[q] at e;cases e
|some j =>
  rw[q] at e
  exact h.at e
def vAdd(rx ry:R)(Q:R->Prop):Prop:=match rx.d,ry.d with
|.int i,.int j=>Q (.val (.int (i+j)))
|.str a,.str b=>a.length+b.length<=sizeLine/\Q (.val (.str (a++b)))
|.tup a,.tup b=>a.length+b.length<=sizeLine/\Q (.val (.tup (a++b)))
|.lst a,.lst b=>a.length+b.length<=sizeLine/\Q (.own (.lst (a++b)))
|_,_=>False
theorem qay:VO X (binaryOp .Add) vAdd:=by
 refine⟨_,op_add.or (op_add_str.or (op_catP.or q4e)),λB H x y rx ry Q Qd s px py h k=>?_⟩
 unfold vAdd at h
 split at h
 ·rename_i i j e1 e2
  exact .inl ⟨i,j,px.scal (by rw[e1];rfl),py.scal (by rw[e2];rfl),k _ _ B H (.refl s) (repV rfl) h⟩
 ·rename_i i j e1 e2
  exact .inr (.inl ⟨i,j,px.scal (by rw[e1];rfl),py.scal (by rw[e2];rfl),h.1,k _ _ B H (.refl s) (repV rfl) h.2⟩)
 ·rename_i ds es e1 e2
  obtain⟨a,xs,rfl,h1,r1⟩:=px.tup e1
  obtain⟨b,ys,rfl,h2,r2⟩:=py.tup e2
  refine .inr (.inr (.inl ⟨a,b,xs,ys,rfl,rfl,s.sqT h1.sq,s.sqT h2.sq,by rw[←r1.length,←r2.length];exact h.1,λz=>?_,λ_ z=>?_,λ_ _ p hp=>?_⟩))
  ·refine k _ _ B H (.refl s) ?_ h.2
   show Rep X.K B (.tup (ds++es)) _
   have e:ds=[]:=List.eq_nil_of_length_eq_zero (by rw[r1.length,z];rfl)
   unfold Rep
   exact⟨b,ys,rfl,by rw[e];exact h2,by rw[e];exact r2⟩
  ·refine k _ _ B H (.refl s) ?_ h.2
   show Rep X.K B (.tup (ds++es)) _
   have e:es=[]:=List.eq_nil_of_length_eq_zero (by rw[r2.length,z];rfl)
   unfold Rep
   exact⟨a,xs,rfl,by rw[e,List.append_nil];exact h1,by rw[e,List.append_nil];exact r1⟩
  ·exact k (.val (.tup (ds++es))) _ (upd B p (.tup (xs++ys))) _ (.new s hp) (qfi (r1.append r2) (s.free hp)) h.2
 ·rename_i ds es e1 e2
  obtain⟨a,xs,rfl,h1,r1⟩:=px.lst s e1
  obtain⟨b,ys,rfl,h2,r2⟩:=py.lst s e2
  exact .inr (.inr (.inr ⟨a,b,xs,ys,rfl,rfl,h1,h2,by rw[←r1.length,←r2.length];exact h.1,λp hp=>k (.own (.lst (ds++es))) _ B _ (.grow s (qao hp _)) ⟨p,rfl,hp,s.free hp,qcf (r1.append r2)⟩ h.2⟩))
 ·exact h.elim
def vI2(C:Int->Int->Prop)(f:Int->Int->D)(rx ry:R)(Q:R->Prop):Prop:=match rx.d,ry.d with
|.int i,.int j=>C i j/\Q (.val (f i j))
|_,_=>False
def vI2'(f:Int->Int->D)(rx ry:R)(Q:R->Prop):Prop:=match rx.d,ry.d with
|.int i,.int j=>Q (.val (f i j))
|_,_=>False
theorem qyg{g:Value->Value->Sem Value}{C:Int->Int->Prop}{f:Int->Int->D}{f':Int->Int->V}(hf:∀i j,dV (f i j)=some (f' i j))(h:OpR X g (rI C f')):VO X g (vI2 C f):=by
 refine⟨_,h,λB H x y rx ry Q Qd s px py h k=>?_⟩
 unfold vI2 at h
 split at h
 ·rename_i i j e1 e2
  exact⟨i,j,px.scal (by rw[e1];rfl),py.scal (by rw[e2];rfl),h.1,k _ _ B H (.refl s) (repV (hf i j)) h.2⟩
 ·exact h.elim
theorem qu4{g:Value->Value->Sem Value}{f:Int->Int->D}{f':Int->Int->V}(hf:∀i j,dV (f i j)=some (f' i j))(h:OpR X g (rI0 f')):VO X g (vI2' f):=by
 refine⟨_,h,λB H x y rx ry Q Qd s px py h k=>?_⟩
 unfold vI2' at h
 split at h
 ·rename_i i j e1 e2
  exact⟨i,j,px.scal (by rw[e1];rfl),py.scal (by rw[e2];rfl),k _ _ B H (.refl s) (repV (hf i j)) h⟩
 ·exact h.elim
abbrev vSub:=vI2' λi j=>.int (i-j)
abbrev vMul:=vI2 CMul λi j=>.int (i*j)
abbrev vDiv:=vI2 CDiv λi j=>.int (i / j)
abbrev vMod:=vI2 (λ_ j=>0<j) λi j=>.int (i%j)
abbrev vPow:=vI2 CPow λi j=>.int (i ^ j.toNat)
abbrev vLt:=vI2' λi j=>.bl (decide (i<j))
abbrev vLe:=vI2' λi j=>.bl (decide (i<=j))
abbrev vGt:=vI2' λi j=>.bl (decide (j<i))
abbrev vGe:=vI2' λi j=>.bl (decide (j<=i))
theorem qzn:VO X (binaryOp .Mult) vMul:=qyg (λ_ _=>rfl) q4i
theorem qpq:VO X (binaryOp .FloorDiv) vDiv:=qyg (λ_ _=>rfl) q04
theorem qdv:VO X (binaryOp .Mod) vMod:=qyg (λ_ _=>rfl) q4h
theorem qzo:VO X (binaryOp .Pow) vPow:=qyg (λ_ _=>rfl) q4k
theorem q7t:VO X (compareOp .Lt) vLt:=qu4 (λ_ _=>rfl) q66
theorem q6l:VO X (compareOp .LtE) vLe:=qu4 (λ_ _=>rfl) q65
theorem qu3:VO X (compareOp .Gt) vGt:=qu4 (λ_ _=>rfl) q64
def vEq(rx ry:R)(Q:R->Prop):Prop:=cmpD rx.d ry.d=true/\depD rx.d<=50/\Q (.val (.bl (eqD rx.d ry.d)))
theorem qea(hu:X.A.units+64<cLine):VO X (compareOp .Eq) vEq :=
 ⟨_,q4f (by lia),λB H x y rx ry Q Qd s px py h k=>⟨rx.d,ry.d,px.rep s,py.rep s,h.1,h.2.1,k _ _ B H (.refl s) (repV rfl) h.2.2⟩⟩
def vNe(rx ry:R)(Q:R->Prop):Prop:=match dV rx.d,dV ry.d with
|some u,some w=>scal u w=true/\Q (.val (.bl (!decide (u=w))))
|_,_=>False
def vSlR(rx:R)(lo hi:Option Int)(Q:R->Prop):Prop:=match rx.d with
|.str z=>z.length<=sizeLine/\Q (.val (.str (Txt.slice z lo hi)))
|.tup ds=>Q (.val (.tup (cutL ds lo hi)))
|.lst ds=>Q (.own (.lst (cutL ds lo hi)))
|.scr ns=>Q (.own (.lst ((cutL ns lo hi).map D.int)))
|_=>False
abbrev TVO:=VSt->(Option Int->Prop)->Prop
def qdd:TVO:=λ_ Q=>Q none
def qf7(te:TV):TVO:=λτ Q=>te τ λr=>match r.d with
|.int i=>Q (some i)
|_=>False
def RfOp(K:PySem.W.Frag)(to:TO)(t:TVO):Prop:=∀(H0 B H:Hp) (τ:VSt) (σ:St) (Q:Option Int->Hp->Prop) (Qd:Option Int->Prop),Same B H->Slots K H0 B H τ σ->t τ Qd->(∀o B' H',Stp B H B' H'->Qd o->Q o H')->to σ H Q
structure VPt(X:Cx)(EX:St->XK)(e:Option Expr)(t:TVO):Prop where
 u:∃to,QO X e to/\RfOp X.K to t
variable {e:Expr} {te ta:TV} {es:List Expr} {lo hi:Option Expr} {tl th:TVO} {pos p p2 apos cpos:Pos} {x:Str}
theorem qeq:VPt X EX none qdd:=⟨_,q15,λ_ B H _ _ _ _ s _ h k=>k _ B H (.refl s) h⟩
theorem qdl(h:VE X EX e te):VPt X EX (some e) (qf7 te):=let ⟨_,a1,a2⟩:=h.u;⟨_,q16 a1,λH0 B H τ σ Q Qd s S h k=>a2 H0 B H τ σ _ _ s S h (xno λ_ q=>q) λr v B' H' p q h1=>by
  split at h1
  ·rename_i i e
   exact⟨i,q.pk.scal (by rw[e];rfl),k _ B' H' p h1⟩
  ·exact h1.elim⟩
def qd8(te:TV)(tl th:TVO):TV:=λτ Q=>te τ λr=>exR r Q (tl τ λl=>th τ λu=>vSlR r l u Q)
theorem qc7(he:VE X EX e te)(hl:VPt X EX lo tl)(hh:VPt X EX hi th):VE X EX (.Subscript e (.Slice lo hi none p2) pos) (qd8 te tl th) :=
 let ⟨_,a1,a2⟩:=he.u;let ⟨_,b1,b2⟩:=hl.u;let ⟨_,c1,c2⟩:=hh.u;⟨_,qxf (sl_str.or (sl_tupP.or q2l)) a1 b1 c1,λH0 B H τ σ Q Qd s S h xc k =>
  a2 H0 B H τ σ _ _ s S h xc λr v B1 H1 p1 q1 h1=>b2 H0 B1 H1 τ σ _ _ p1.s (S.step p1) (q1.ok h1) λl B2 H2 p2 h2=>c2 H0 B2 H2 τ σ _ _ p2.s (S.step (p1.trans p2)) h2 λu B3 H3 p3 h3=>by
   have p12:=p1.trans p2
   have pp:=p12.trans p3
   have pk:=(q1.pk.step p2).step p3
   unfold vSlR at h3
   split at h3
   ·rename_i z ez
    cases pk.scal (z:=.str z) (by rw[ez];rfl)
    exact .inl ⟨z,rfl,h3.1,k _ _ B3 H3 pp (repV rfl) h3.2⟩
   ·rename_i ds ed
    obtain⟨a,xs,rfl,h1,r1⟩:=pk.tup ed
    refine .inr (.inl ⟨a,xs,rfl,p3.s.sqT h1.sq,λw=>?_,λw p hp=>?_⟩)
    ·refine k _ _ B3 H3 pp ?_ h3
     show Rep X.K B3 (.tup (cutL ds l u)) _
     unfold Rep
     have hc:cutL ds l u=ds:=by
      unfold cutL
      rw[r1.length,w.1,w.2,List.drop_zero,Nat.sub_zero,←r1.length,List.take_length]
     rw[hc]
     exact⟨a,xs,rfl,h1,r1⟩
    ·exact k (.val (.tup (cutL ds l u))) _ (upd B3 p (.tup (cutV xs l u))) _ (pp.trans (.new p3.s hp)) (qfi (r1.cut l u) (p3.s.free hp)) h3
   ·rename_i ds ed
    obtain⟨a,xs,rfl,h1,r1⟩:=pk.lst p3.s ed
    exact .inr (.inr ⟨a,xs,rfl,SqL.of h1,λp hp=>k (.own _) _ B3 _ (pp.trans (.grow p3.s (qao hp _))) ⟨p,rfl,pp.h.free hp,p3.s.free hp,qcf (r1.cut l u)⟩ h3⟩)
   ·rename_i ns en
    obtain⟨a,rfl,h1⟩:=pk.scr p3.s en
    refine .inr (.inr ⟨a,_,rfl,h1,λp hp=>k (.own _) _ B3 _ (pp.trans (.grow p3.s (qao hp _))) ⟨p,rfl,pp.h.free hp,p3.s.free hp,?_⟩ h3⟩)
    rw[qvy]
    exact qcf (.ints _)
   ·exact h3.elim⟩
def vIxR(rx ry:R)(Q:R->Prop):Prop:=match rx.d,ry.d with
|.str z,.int i=>z.length<=sizeLine/\∃c,atI z.cps.toList i=some c/\Q (.val (.str ⟨#[c]⟩))
|.tup ds,.int i=>∃d,atI ds i=some d/\Q (.val d)
|.lst ds,.int i=>∃d,atI ds i=some d/\Q (.val d)
|.scr ns,.int i=>∃n,atI ns i=some n/\Q (.val (.int n))
|_,_=>False
theorem qaj:VX X vIxR:=by
 refine⟨_,ix_str.or (ix_tup.or q0f),λB H x y rx ry Q Qd s px py h k=>?_⟩
 unfold vIxR at h
 split at h
 ·rename_i z i e1 e2
  obtain⟨hz,c,hc,q⟩:=h
  exact .inl ⟨z,i,c,px.scal (by rw[e1];rfl),py.scal (by rw[e2];rfl),hz,hc,k _ _ B H (.refl s) (repV rfl) q⟩
 ·rename_i ds i e1 e2
  obtain⟨d,hd,q⟩:=h
  obtain⟨a,xs,rfl,h1,r1⟩:=px.tup e1
  obtain⟨w,hw,rw'⟩:=r1.atI hd
  exact .inr (.inl ⟨a,xs,i,w,rfl,py.scal (by rw[e2];rfl),s.sqT h1.sq,hw,k (.val d) _ B H (.refl s) rw' q⟩)
 ·rename_i ds i e1 e2
  obtain⟨d,hd,q⟩:=h
  obtain⟨a,xs,rfl,h1,r1⟩:=px.lst s e1
  obtain⟨w,hw,rw'⟩:=r1.atI hd
  exact .inr (.inr ⟨a,xs,i,w,rfl,py.scal (by rw[e2];rfl),SqL.of h1,hw,k (.val d) _ B H (.refl s) rw' q⟩)
 ·rename_i ns i e1 e2
  obtain⟨n,hn,q⟩:=h
  obtain⟨a,rfl,h1⟩:=px.scr s e1
  exact .inr (.inr ⟨a,_,i,_,rfl,py.scal (by rw[e2];rfl),h1,q3j hn,k _ _ B H (.refl s) (repV rfl) q⟩)
 ·exact h.elim
def vLen(rx:R)(Q:R->Prop):Prop:=match rx.d with
|.str z=>z.length<=sizeLine/\Q (.val (.int z.length))
|.tup ds=>Q (.val (.int ds.length))
|.lst ds=>Q (.val (.int ds.length))
|.scr ns=>Q (.val (.int ns.length))
|_=>False
theorem qc1:VF X (.builtin "len") vLen:=by
 refine⟨_,call_len_str.or qk3,λB H x rx Q Qd s px h k=>?_⟩
 unfold vLen at h
 split at h
 ·rename_i z e1
  exact .inl ⟨z,by rw[px.scal (z:=.str z) (by rw[e1];rfl)],h.1,k _ _ B H (.refl s) (repV rfl) h.2⟩
 ·rename_i ds e1
  obtain⟨a,xs,rfl,h1,r1⟩:=px.tup e1
  exact .inr ⟨a,xs,rfl,.inr (s.sqT h1.sq),k _ _ B H (.refl s) (repV rfl) (by rw[r1.length] at h;exact h)⟩
 ·rename_i ds e1
  obtain⟨a,xs,rfl,h1,r1⟩:=px.lst s e1
  exact .inr ⟨a,xs,rfl,.inl (SqL.of h1),k _ _ B H (.refl s) (repV rfl) (by rw[r1.length] at h;exact h)⟩
 ·rename_i ns e1
  obtain⟨a,rfl,h1⟩:=px.scr s e1
  exact .inr ⟨a,_,rfl,.inl h1,k (.val (.int ns.length)) _ B H (.refl s) (by rw[List.length_map];exact repV rfl) h⟩
 ·exact h.elim
def qrb(rx:R)(Q:R->Prop):Prop:=match rx.d with
|.tup ds=>Q (.own (.lst ds))
|.lst ds=>Q (.own (.lst ds))
|.scr ns=>Q (.own (.lst (ns.map D.int)))
|_=>False
theorem qu2:VF X (.type "list") qrb:=by
 refine⟨_,qk5,λB H x rx Q Qd s px h k=>?_⟩
 unfold qrb at h
 split at h
 ·rename_i ds e1
  obtain⟨a,xs,rfl,h1,r1⟩:=px.tup e1
  exact⟨a,xs,rfl,.inr (s.sqT h1.sq),λp hp=>k (.own _) _ B _ (.grow s (qao hp _)) ⟨p,rfl,hp,s.free hp,qcf r1⟩ h⟩
 ·rename_i ds e1
  obtain⟨a,xs,rfl,h1,r1⟩:=px.lst s e1
  exact⟨a,xs,rfl,.inl (SqL.of h1),λp hp=>k (.own _) _ B _ (.grow s (qao hp _)) ⟨p,rfl,hp,s.free hp,qcf r1⟩ h⟩
 ·rename_i ns e1
  obtain⟨a,rfl,h1⟩:=px.scr s e1
  exact⟨a,_,rfl,.inl h1,λp hp=>k (.own _) _ B _ (.grow s (qao hp _)) ⟨p,rfl,hp,s.free hp,qcf (.ints ns)⟩ h⟩
 ·exact h.elim
def ql8(rx:R)(Q:R->Prop):Prop:=match rx.d with
|.tup ds=>Q (.val (.tup ds))
|.lst ds=>Q (.val (.tup ds))
|_=>False
theorem qyf:VF X (.type "tuple") ql8:=by
 refine⟨_,qjj,λB H x rx Q Qd s px h k=>?_⟩
 unfold ql8 at h
 split at h
 ·rename_i ds e1
  obtain⟨a,xs,rfl,h1,r1⟩:=px.tup e1
  refine⟨a,xs,rfl,.inr ⟨s.sqT h1.sq,k (.val (.tup ds)) _ B H (.refl s) ?_ h⟩⟩
  show Rep X.K B (.tup ds) _
  unfold Rep
  exact⟨a,xs,rfl,h1,r1⟩
 ·rename_i ds e1
  obtain⟨a,xs,rfl,h1,r1⟩:=px.lst s e1
  exact⟨a,xs,rfl,.inl ⟨SqL.of h1,λp hp=>k (.val (.tup ds)) _ (upd B p (.tup xs)) _ (.new s hp) (qfi r1 (s.free hp)) h⟩⟩
 ·exact h.elim
def vStr(rx:R)(Q:R->Prop):Prop:=match rx.d with
|.int i=>i.natAbs.log2<1920/\Q (.val (.str (toString i)))
|_=>False
theorem q6h:VF X (.type "str") vStr:=by
 refine⟨_,qk6,λB H x rx Q Qd s px h k=>?_⟩
 unfold vStr at h
 split at h
 ·rename_i i e1
  exact⟨i,by rw[px.scal (z:=.int i) (by rw[e1];rfl)],h.1,k _ _ B H (.refl s) (repV rfl) h.2⟩
 ·exact h.elim
def vAll(g:List Bool->Bool)(rx:R)(Q:R->Prop):Prop:=∃bs:List Bool,rx.d=.lst (bs.map D.bl)/\Q (.val (.bl (g bs)))
theorem qzm(hc:X.calm=true):VF X (.builtin "all") (vAll λbs=>bs.all id):=by
 refine⟨_,qr8 hc,λB H x rx Q Qd s px ⟨bs,e1,h⟩ k=>?_⟩
 obtain⟨a,xs,rfl,h1,r1⟩:=px.lst s e1
 exact⟨a,bs,rfl,SqL.of (by rw[h1,r1.bls]),k _ _ B H (.refl s) (repV rfl) h⟩
inductive Ty5 where
|str|tuple|list|int|bool
def Ty5.nm:Ty5->String
|.str=>"str"|.tuple=>"tuple"|.list=>"list"|.int=>"int"|.bool=>"bool"
def isTy:Ty5->D->Option Bool
|_,.non=>some false
|c,.bl _=>some (match c with|.bool=>true|.int=>true|_=>false)
|c,.int _=>some (match c with|.int=>true|_=>false)
|c,.str _=>some (match c with|.str=>true|_=>false)
|c,.tup _=>some (match c with|.tuple=>true|_=>false)
|c,.lst _=>some (match c with|.list=>true|_=>false)
|_,_=>none
def nmTy:D->String
|.non=>"NoneType"|.bl _=>"bool"|.int _=>"int"|.str _=>"str"|.tup _=>"tuple"|_=>"list"
theorem qwb{d:D}{c:Ty5}{b:Bool}(h:isTy c d=some b):PySem.W.kitOne K (.type (nmTy d)) (.type c.nm)=some b:=by
 cases d<;>cases c<;>first|(cases h;with_unfolding_all rfl;done)|(cases h;exact qwc;done)|(cases h;done)
theorem qv7{pins:List (Addr×Obj)}{s:Shared}{σ:St}{H:Hp}{v:V}{u:Value}{d:D}{c:Ty5}{b:Bool}{A:Around}{Q:Value->Shared->Prop}{E:Value->Shared->Prop}(I:Inv X pins σ H s)(rx:RelV v u)(h:Rep X.K H d v)(e:isTy c d=some b)
  (q:∀tk,Q (.bool b) { s with toks:=tk }):wpAny (model X.prog X.w) A (call (.builtin "isinstance") [u,.type c.nm]) Q E s:=by
 have kt:=qwb (K:=X.K) e
 cases d with
|non=>unfold Rep at h;subst h;exact qeg I rx .non kt q
|bl b=>unfold Rep at h;subst h;exact qeg I rx (.bl _) kt q
|int b=>unfold Rep at h;subst h;exact qeg I rx (.int _) kt q
|str b=>unfold Rep at h;subst h;exact qeg I rx (.str _) kt q
|tup ds =>
  unfold Rep at h
  obtain⟨a,xs,rfl,ha,_⟩:=h
  cases (show u=Value.ref a from rx)
  obtain⟨its,_,⟨o,h1,h2,_⟩,_⟩:=I.tuple ha.sq
  exact PySem.W.kia_one PySem.W.kitx_tuple I.kIn ⟨o,h1,h2⟩ kt (λz=>nomatch z) q
|lst ds =>
  unfold Rep at h
  obtain⟨a,xs,rfl,ha,_⟩:=h
  exact qeg I rx (.lst ha) kt q
|dT _ _=>cases e
|dK _ _=>cases e
|scr _=>cases e
|kt _=>cases e
|exc _=>cases e
|io _ _=>cases e
|ioT _ _ _=>cases e
theorem qvu(c:Ty5):CallR X (.builtin "isinstance") (λxs H Q=>∃x d b,xs=[x,.ty c.nm]/\Rep X.K H d x/\isTy c d=some b/\Q (.bl b) H):=by
 intro pins s σ H xs us Q I r h
 obtain⟨x,d,b,rfl,ty,e,q⟩:=h
 obtain⟨u,v,rfl,ru,rv⟩:=vals2 r
 cases (show v=Value.type c.nm from rv)
 exact qv7 I ru ty e λtk=>⟨.bl b,H,I.tok tk,rfl,q⟩
def qkh(c:Ty5)(ta:TV):TV:=λτ Q=>ta τ λr=>exR r (λ_=>False) <| match isTy c r.d with
|some b=>Q (.val (.bl b))
|none=>False
theorem qga{a:Expr}{pb:Pos}{y:Str}(c:Ty5)(hg:Gl X "isinstance")(hm:X.mg "isinstance" = none)(hgy:Gl X y)(hmy:X.mg y=none)(hby:bootBuiltins y=some (.type c.nm))(ha:VE X EX a ta)(hp:qav a=true:=by rfl)(hny:y≠"__name__" := by decide)(hdy:(y==("__debug__" : Str))=false:=by decide) :
  VE X EX (.Call (.Name "isinstance" p) [a,.Name y pb] [] pos) (qkh c ta) :=
 let ⟨_,a1,a2⟩:=ha.u;⟨_,qcb (qvu c) hg hm PyProof.Rows.Boot.«isinstance» (qac a1 (qac (q1w (v:=.ty c.nm) hgy hmy hby rfl hny hdy) qd5 rfl) hp) (by rw[List.all_cons,hp];rfl),λH0 B H τ σ Q Qd s S h xc k=>a2 H0 B H τ σ _ _ s S h (xno λ_ q=>q) λr v B1 H1 p1 q1 h1=>by
   have h1:=q1.ok h1
   split at h1
   ·rename_i b eb
    exact⟨v,r.d,b,rfl,q1.pk.rep p1.s,eb,k _ _ B1 H1 p1 (repV rfl) h1⟩
   ·exact h1.elim⟩
end
end L2
namespace L2
open PySem PySem.Spec PyProof.Rows
section
variable {X:Cx} {EX:St->XK} {K:PySem.W.Frag} {B H B' H' H0 B0 B1 H1:Hp} {st:Stmt} {rest:List Stmt} {t u:TVS} {e a c o:Expr} {te ta:TV} {tT:TVT} {tA:TVA} {es:List Expr} {pos pos' p p2 apos cpos:Pos} {x:Str} {τ:VSt} {σ:St}
theorem Stp.base(p:Stp B0 H0 B1 H1)(q:Stp B1 H0 B' H'):Stp B0 H0 B' H':=⟨p.b.trans q.b,q.h,q.s,λa h=>(q.d a h).elim (p.d a) .inr⟩
theorem Stp.here(p:Stp B0 H0 B1 H1):Stp B1 H0 B1 H1:=⟨Same.refl _,p.h,p.s,λ_ h=>.inl h⟩
theorem EndsOk.base{Dv:VEnds}{Dh:Ends}(E:EndsOk K EX B0 H0 Dv Dh)(p:Stp B0 H0 B1 H1):EndsOk K EX B1 H0 Dv Dh :=
 ⟨λB H τ σ q=>E.nx B H τ σ (p.base q),λr v B H q=>E.rt r v B H (p.base q),λB H τ σ q=>E.bk B H τ σ (p.base q),λB H τ σ q=>E.ct B H τ σ (p.base q),λB H τ σ n C q=>E.xc B H τ σ n C (p.base q),λr v B H τ σ q=>E.ro r v B H τ σ (p.base q),λd v B H q=>E.rn d v B H (p.base q)⟩
def exS(τ:VSt)(Dv:VEnds):R->Prop->Prop
|.exc n,_=>Dv.xc τ n
|.val _,k=>k
|.own _,k=>k
|.peek _,k=>k
theorem RepR.okS{r:R}{v:V}{τ:VSt}{Dv:VEnds}{k:Prop}(h:RepR K B H0 H r v)(q:exS τ Dv r k):k:=by
 cases r with
|exc n=>exact h.elim
|val d=>exact q
|own d=>exact q
|peek d=>exact q
theorem EndsOk.raised{Dv:VEnds}{Dh:Ends}(E:EndsOk K EX B0 H0 Dv Dh)(p:Stp B0 H0 B H)(S:Slots K H0 B H τ σ):∀n C B' H',Stp B H B' H'->clsOf K n C->Dv.xc τ n->EX σ (.ref C) none H':=λn C B' H' q c h=>E.xc B' H' τ σ n C (p.trans q) (S.step q) c h
def qbn:TVS:=λDv τ=>Dv.nx τ
def vSeq(t u:TVS):TVS:=λDv τ=>t { Dv with nx:=u Dv } τ
theorem qau:VSs X EX [] qbn:=⟨_,qub,λB0 H0 B H τ σ Dv Dh p S h E=>E.nx B H τ σ p S h⟩
theorem qag(h:VS X EX st t):VSs X EX [st] t:=let ⟨_,a1,a2⟩:=h.u;⟨_,quc a1,a2⟩
theorem qab(h:VS X EX st t)(r:VSs X EX rest u):VSs X EX (st::rest) (vSeq t u) :=
 let ⟨_,a1,a2⟩:=h.u;let ⟨_,b1,b2⟩:=r.u;⟨_,qgt a1 b1,λB0 H0 B H τ σ Dv Dh p S h E=>a2 B0 H0 B H τ σ _ _ p S h ⟨λB H τ σ p S h=>b2 B0 H0 B H τ σ _ _ p S h E,E.rt,E.bk,E.ct,E.xc,E.ro,E.rn⟩⟩
def vFrz(i:Nat)(t:TVS):TVS:=λDv τ=>t Dv (frz i τ)
theorem q22(i:Nat)(h:VSs X EX rest t):VSs X EX rest (vFrz i t) :=
 let ⟨_,a1,a2⟩:=h.u;⟨_,a1,λB0 H0 B H τ σ Dv Dh p S h E=>by
  obtain⟨B2,p2,_,S2⟩:=S.frz p i
  exact a2 B0 H0 B2 H _ σ _ _ p2 S2 h E⟩
def vIfS(c:TVT)(t u:TVS):TVS:=λDv τ=>c τ λb=>if b=true then t Dv τ else u Dv τ
theorem qb2{sa sb:List Stmt}(hc:VT X EX c tT)(ha:VSs X EX sa t)(hb:VSs X EX sb u):VS X EX (.If c sa sb pos) (vIfS tT t u) :=
 let ⟨_,c1,c2⟩:=hc.u;let ⟨_,a1,a2⟩:=ha.u;let ⟨_,b1,b2⟩:=hb.u;⟨_,q5j c1 a1 b1,λB0 H0 B H τ σ Dv Dh p S h E=>c2 H0 B H τ σ _ _ p.s S h λcb B' H' q hq=>by
  cases cb with
 |true=>exact iteT (a2 B0 H0 B' H' τ σ _ _ (p.trans q |> λz=>⟨z.b,z.h,z.s,z.d⟩) (S.step q) (by rw[if_pos rfl] at hq;exact hq) E)
 |  false=>exact iteF (b2 B0 H0 B' H' τ σ _ _ (p.trans q) (S.step q) (by rw[if_neg Bool.false_ne_true] at hq;exact hq) E)⟩
def vRet(te:TV):TVS:=λDv τ=>te τ λr=>exS τ Dv r (pubR r λ_=>Dv.rt r)
theorem qar(h:VE X EX e te):VS X EX (.Return (some e) pos) (vRet te) :=
 let ⟨_,a1,a2⟩:=h.u;⟨_,qi5 a1,λB0 H0 B H τ σ Dv Dh p S h E=>a2 H0 B H τ σ _ _ p.s S h (E.raised p S) λr v B' H' q hr hq=>by
  cases r with
 |val d=>exact E.rt (.val d) v B' H' (p.trans q) hr hq
 |own d=>exact E.rt (.own d) v B' H' (p.trans q) (hr.back p.h) hq
 |peek d=>exact hq.elim
 |  exc n=>exact hr.elim⟩
def qob(i:Nat):TVS:=λDv τ=>match τ[i]? with
|some (some (.own d))=>Dv.rt (.own d)
|some (some (.val d))=>Dv.rt (.val d)
|_=>False
theorem qoe(i:Nat)(hN:X.N[i]?=some x:=by rfl)(hv:Vis X.env.scope x:=by first|exact Or.inl rfl|exact Or.inr (Or.inl rfl)|exact Or.inr (Or.inr rfl))(hd:(x==("__debug__" : Str))=false:=by decide)
  (hcd:(x==("__classdict__" : Str))=false:=by decide):VS X EX (.Return (some (.Name x pos')) pos) (qob i) :=
 ⟨_,qi5 (qv i hN hv hd hcd),λB0 H0 B H τ σ Dv Dh p S h E=>by
  unfold qob at h
  split at h
  ·rename_i d e
   obtain⟨a,q,h0,hb,ow⟩:=S.own i d e
   exact⟨.ref a,q,E.rt (.own d) _ B H p ⟨a,rfl,h0,hb,ow⟩ h⟩
  ·rename_i d e
   obtain⟨v,q,rp⟩:=S.val i d e
   exact⟨v,q,E.rt (.val d) _ B H p rp h⟩
  ·exact h.elim⟩
def q6e:TVS:=λDv _=>Dv.rt (.val .non)
def qus(te:TV):TVS:=λDv τ=>te τ λr=>exS τ Dv r (Dv.nx τ)
theorem qu5(h:VE X EX e te)(hs:swapsWith e none pos.line X.env=pure false:=by rfl):VS X EX (.Expr e pos) (qus te) :=
 let ⟨_,a1,a2⟩:=h.u;⟨_,qns a1 hs,λB0 H0 B H τ σ Dv Dh p S h E=>a2 H0 B H τ σ _ _ p.s S h (E.raised p S) λr v B' H' q hr hq=>E.nx B' H' τ σ (p.trans q) (S.step q) (hr.okS hq)⟩
def vSet(i:Nat)(te:TV):TVS:=λDv τ=>te τ λr=>exS τ Dv r (pubR r λd=>Dv.nx (τ.set i (some (.val d))))
theorem q5w{i:Nat}{ee:TE}(h:RfE K EX ee te):RfS K EX (tAsg ee (qqa i)) (vSet i te):=λB0 H0 B H τ σ Dv Dh p S hh E=>h H0 B H τ σ _ _ p.s S hh (E.raised p S) λr v B' H' q hr hq=>by
 obtain⟨d,B2,q2,_,rp,hd⟩:=pub q hr (hr.okS hq)
 exact E.nx B2 H' _ _ (p.trans q2) ((S.step q2).setVal i rp) hd
def qib(i:Nat)(te:TV):TVS:=λDv τ=>te τ λr=>exS τ Dv r (pubR r λ_=>Dv.nx (τ.set i (some r)))
theorem q2g{i:Nat}{ee:TE}(h:RfE K EX ee te):RfS K EX (tAsg ee (qqa i)) (qib i te):=λB0 H0 B H τ σ Dv Dh p S hh E=>h H0 B H τ σ _ _ p.s S hh (E.raised p S) λr v B' H' q hr hq=>by
 cases r with
|val d=>exact E.nx B' H' _ _ (p.trans q) ((S.step q).setVal i hr) hq
|own d =>
  obtain⟨a,rfl,h0,hb,ow⟩:=hr
  refine E.nx B' H' _ _ (p.trans q) ((S.step q).setOwn i (p.h.free h0) hb ow λj e he z=>?_) hq
  obtain⟨c,qc,_,_,oc⟩:=S.own j e he
  rw[z] at qc
  cases qc
  exact oc.some h0
|peek d=>exact hq.elim
|exc n=>exact hr.elim
theorem qaq{i:Nat}(hN:X.N.Nodup)(hi:X.N[i]?=some x)(hx:Loc X.env.scope x)(h:VE X EX e te)(hs:swapsWith e (some (.Name x pos')) pos.line X.env=pure false:=by rfl)
  (hf:X.fn x=true\/X.env.scope.names.lookup x=some .local:=by first|exact .inl rfl|exact .inr rfl|assumption):VS X EX (.Assign [.Name x pos'] e pos) (vSet i te):=let ⟨_,a1,a2⟩:=h.u;⟨_,qlw hN hi hx a1 hs hf,q5w a2⟩
theorem qfa{i:Nat}(hN:X.N.Nodup)(hi:X.N[i]?=some x)(hx:Loc X.env.scope x)(h:VE X EX e te)(hs:swapsWith e (some (.Name x pos')) pos.line X.env=pure false:=by rfl)
  (hf:X.fn x=true\/X.env.scope.names.lookup x=some .local:=by first|exact .inl rfl|exact .inr rfl|assumption):VS X EX (.Assign [.Name x pos'] e pos) (qib i te):=let ⟨_,a1,a2⟩:=h.u;⟨_,qlw hN hi hx a1 hs hf,q2g a2⟩
def qba(i:Nat):TVG:=λd τ Q=>Q (τ.set i (some (.val d)))
theorem q38{i:Nat}{d:D}{v:V}:Kp τ σ (τ.set i (some (.val d))) (σ.set i (some v)):=λj e h=>by
 rcases qa7 h with ⟨rfl,z,l⟩|⟨n,h⟩
 ·cases z
 ·exact⟨h,List.getElem?_set_ne n⟩
theorem Kp.trans{τ1 τ2 τ3:VSt}{σ1 σ2 σ3:St}(h1:Kp τ1 σ1 τ2 σ2)(h2:Kp τ2 σ2 τ3 σ3):Kp τ1 σ1 τ3 σ3:=λj e h=>let ⟨a,b⟩:=h2 j e h;let ⟨c,d⟩:=h1 j e a;⟨c,b.trans d⟩
theorem qbc{i:Nat}(hN:X.N.Nodup)(hi:X.N[i]?=some x)(hx:Loc X.env.scope x)(hf:X.fn x=true\/X.env.scope.names.lookup x=some .local:=by first|exact .inl rfl|exact .inr rfl|assumption):VG X (.Name x pos) (qba i) :=
 ⟨_,q10 hN hi hx hf,λH0 B H τ σ v d Q Qd s S rp h k=>k _ _ (S.setVal i rp) q38 h⟩
def qmc:List D->VSt->(VSt->Prop)->Prop:=λds τ Q=>ds=[]/\Q τ
def qcg(g:TVG)(gs:List D->VSt->(VSt->Prop)->Prop):List D->VSt->(VSt->Prop)->Prop:=λds τ Q=>match ds with
|d::r=>g d τ λτ'=>gs r τ' Q
|[]=>False
theorem qkn:VGs X [] qmc:=⟨_,q11,λH0 B H τ σ xs ds Q Qd s S rp h k=>by
 obtain⟨rfl,h⟩:=h
 unfold Reps at rp
 exact⟨rp,k τ σ S (λj e h=>⟨h,rfl⟩) h⟩⟩
theorem qb7{g:TVG}{gs:List D->VSt->(VSt->Prop)->Prop}(h1:VG X e g)(h2:VGs X es gs)(hs:(assignEach (e::es) X.env).map (·.2)=assign e X.env::(assignEach es X.env).map (·.2):=by rfl):VGs X (e::es) (qcg g gs) :=
 let ⟨_,a1,a2⟩:=h1.u;let ⟨_,b1,b2⟩:=h2.u;⟨_,qxg a1 b1 hs,λH0 B H τ σ xs ds Q Qd s S rp h k=>by
  cases ds with
 |nil=>exact h.elim
 |cons d ds =>
   unfold Reps at rp
   obtain⟨v,r,rfl,r1,r2⟩:=rp
   exact⟨v,r,rfl,a2 H0 B H τ σ v d _ _ s S r1 h λτ' σ' S' kp h'=>b2 H0 B H τ' σ' r ds _ _ s S' r2 h' λτ2 σ2 S2 kp2 h2=>k τ2 σ2 S2 (kp.trans kp2) h2⟩⟩
def qmd(n:Nat)(gs:List D->VSt->(VSt->Prop)->Prop):TVG:=λd τ Q=>match d with
|.tup ds=>ds.length=n/\gs ds τ Q
|_=>False
theorem qpo{k:Nat}{gs:List D->VSt->(VSt->Prop)->Prop}{n:Nat}(hc:X.calm=true)(h:VGs X es gs)(hn:(assignEach es X.env).length=n:=by rfl)(hst:(assignEach es X.env).findIdx? (·.1)=none:=by rfl):VG X (.Tuple es k pos) (qmd n gs) :=
 let ⟨_,a1,a2⟩:=h.u;⟨_,q5f hc a1 hn hst,λH0 B H τ σ v d Q Qd s S rp h k=>by
  cases d with
 |tup ds =>
   unfold Rep at rp
   obtain⟨a,xs,rfl,ha,r⟩:=rp
   exact⟨a,xs,rfl,s.sqT ha.sq,by rw[←r.length];exact h.1,a2 H0 B H τ σ xs ds _ _ s S r h.2 k⟩
 |  _=>exact h.elim⟩
def vAsg(te:TV)(g:TVG):TVS:=λDv τ=>te τ λr=>exS τ Dv r (pubR r λd=>g d τ Dv.nx)
end
section
variable {X:Cx} {tg l e:Expr}
def iAny(K:PySem.W.Frag)(tl:TE):TI:=λσ H R=>tl σ H λx H1=>(∃a,x=.ref a/\(∃xs,SqL K H1 a xs)/\R (Itl K a) H1)\/(∃a,x=.ref a/\(∃xs,SqT K H1 a xs)/\R (Itt K a) H1)\/∃z,x=.str z/\R (Its z) H1
theorem q4y{tl:TE}(hl:PE X l tl):PI X tg l (iAny X.K tl):=by
 intro pins s σ H R I h
 refine thn (hl pins s σ H _ I h) λv s1 ⟨x,H1,I1,r1,q1⟩=>?_
 rcases q1 with ⟨a,rfl,⟨xs,hq⟩,q⟩|⟨a,rfl,⟨xs,hq⟩,q⟩|⟨z,rfl,q⟩
 ·cases r1
  obtain⟨its,rv,pl,hz⟩:=I1.list hq
  refine wpAny_pyIter_list pl.isList ⟨s1.heap.objs.size,[s1.heap.objs.size],_,_,H1,rfl,I1.kept (t':=s1.toks) λb o e=>Heap.get?_push_of_some _ e,qup a _,⟨_,Heap.get?_push_size _ rfl,rfl,rfl⟩,λb hb=>?_,q⟩
  cases (by simpa using hb:b=s1.heap.objs.size)
  exact I1.fpOk (Nat.le_refl _) (I1.hok.fresh (Nat.le_refl _))
 ·cases r1
  obtain⟨its,rv,pl,hz⟩:=I1.tuple hq
  refine wpAny_pyIter_tuple (show s1.heap.IsTuple a its.toArray from pl) ⟨s1.heap.objs.size,[s1.heap.objs.size],_,_,H1,rfl,I1.kept (t':=s1.toks) λb o e=>Heap.get?_push_of_some _ e,qra a _,⟨_,Heap.get?_push_size _ rfl,rfl,rfl⟩,λb hb=>?_,q⟩
  cases (by simpa using hb:b=s1.heap.objs.size)
  exact I1.fpOk (Nat.le_refl _) (I1.hok.fresh (Nat.le_refl _))
 ·obtain⟨t,rfl⟩:=r1
  have fp:∀b∈[s1.heap.objs.size],FpOk X pins H1 b:=λb hb=>by
   cases (by simpa using hb:b=s1.heap.objs.size)
   exact I1.fpOk (Nat.le_refl _) (I1.hok.fresh (Nat.le_refl _))
  cases ha:z.cps.all (·<128)
  ·exact wpAny_pyIter_wide ha ⟨s1.heap.objs.size,[s1.heap.objs.size],_,_,H1,rfl,I1.kept (t':=s1.toks) λb o e=>Heap.get?_push_of_some _ e,quq _ z t,⟨_,Heap.get?_push_size _ rfl,rfl,rfl⟩,fp,q⟩
  ·exact wpAny_pyIter_ascii ha ⟨s1.heap.objs.size,[s1.heap.objs.size],_,_,H1,rfl,I1.kept (t':=s1.toks) λb o e=>Heap.get?_push_of_some _ e,qq8 _ z t,⟨_,Heap.get?_push_size _ rfl,rfl,rfl⟩,fp,q⟩
theorem q5h{tl:TE}(h:QE X e tl):QI X tg e (iAny X.K tl):=⟨q4y h.u⟩
end
section
variable {X:Cx} {EX:St->XK} {K:PySem.W.Frag} {B H B' H' H0 B0 B1 H1:Hp} {st:Stmt} {rest:List Stmt} {t u:TVS} {e a c o:Expr} {te ta:TV} {tT:TVT} {tA:TVA} {es:List Expr} {pos pos' p p2 apos cpos:Pos} {x:Str} {τ:VSt} {σ:St}
def qdg(te:TV):TVA:=λτ Q=>te τ λr=>excA r Q <| pubR r λd=>match d with
|.lst ds=>Q (.ok ds)
|.tup ds=>Q (.ok ds)
|.scr ns=>Q (.ok (ns.map D.int))
|.str z=>Q (.ok (z.cps.toList.map λc=>.str ⟨#[c]⟩))
|_=>False
theorem qou{ad:Addr}{ds:List D}{xs:List V}(h:SqL K B ad xs)(r:Reps K B ds xs):ItOk K B (Itl K ad) ds:=λi B2 H sb s2=>by
 have s:=sb.trans s2
 refine⟨λd e=>?_,λe=>⟨xs,s.seq h,by rw[←r.length];exact List.getElem?_eq_none_iff.mp e⟩⟩
 obtain⟨w,hw,rw'⟩:=r.at e
 refine⟨⟨xs,w,s.seq h,hw⟩,λy H' q=>⟨B2,by rw[q.1];exact .refl s2,?_⟩⟩
 have:=q.2 xs (s.seq h)
 rw[hw] at this
 cases this
 exact rw'.same sb
theorem q30{ad:Addr}{ds:List D}{xs:List V}(h:SqT K B ad xs)(r:Reps K B ds xs):ItOk K B (Itt K ad) ds:=λi B2 H sb s2=>by
 have s:=sb.trans s2
 refine⟨λd e=>?_,λe=>⟨xs,s.sqT h,by rw[←r.length];exact List.getElem?_eq_none_iff.mp e⟩⟩
 obtain⟨w,hw,rw'⟩:=r.at e
 refine⟨⟨xs,w,s.sqT h,hw⟩,λy H' q=>⟨B2,by rw[q.1];exact .refl s2,?_⟩⟩
 have:=q.2 xs (s.sqT h)
 rw[hw] at this
 cases this
 exact rw'.same sb
theorem q3z(z:Str):ItOk K B (Its z) (z.cps.toList.map λc=>.str ⟨#[c]⟩):=λi B2 H sb s2=>by
 have s:=sb.trans s2
 refine⟨λd e=>?_,λe=>?_⟩
 ·rw[List.getElem?_map] at e
  cases hc:z.cps.toList[i]? with
 |none=>rw[hc] at e;cases e
 |some ch =>
   rw[hc] at e
   cases e
   have hc':z.cps[i]?=some ch:=by simpa using hc
   refine⟨?_,λy H' q=>⟨B2,by rw[q.1];exact .refl s2,?_⟩⟩
   ·show i<z.cps.size
    exact(Array.getElem?_eq_some_iff.mp hc').1
   ·obtain⟨c2,h2,rfl⟩:=q.2
    rw[hc'] at h2
    cases h2
    exact qhr (d:=.str ⟨#[ch]⟩) rfl
 ·show z.cps.size<=i
  have:=List.getElem?_eq_none_iff.mp e
  simpa using this
theorem qfr{tg:Expr}(h:VE X EX e te):VI X EX tg e (qdg te) :=
 let ⟨_,a1,a2⟩:=h.u;⟨_,q5h a1,λH0 B H τ σ Q Qd s S h xc k=>a2 H0 B H τ σ _ _ s S h xc λr v B' H' q hr hq=>by
  obtain⟨d,B2,q2,_,rp,hd⟩:=pub q hr (hr.okA hq)
  split at hd
  ·unfold Rep at rp
   obtain⟨ad,xs,rfl,ha,r1⟩:=rp
   exact .inl ⟨ad,rfl,⟨xs,SqL.of (q2.s _ _ ha)⟩,k _ _ B2 H' q2 (qou (SqL.of ha) r1) hd⟩
  ·unfold Rep at rp
   obtain⟨ad,xs,rfl,ha,r1⟩:=rp
   exact .inr (.inl ⟨ad,rfl,⟨xs,q2.s.sqT ha.sq⟩,k _ _ B2 H' q2 (q30 ha.sq r1) hd⟩)
  ·unfold Rep at rp
   obtain⟨ad,rfl,ha⟩:=rp
   exact .inl ⟨ad,rfl,⟨_,q2.s.seq ha⟩,k _ _ B2 H' q2 (qou ha (.ints _)) hd⟩
  ·rename_i z
   unfold Rep at rp
   exact .inr (.inr ⟨z,rp,k _ _ B2 H' q2 (q3z z) hd⟩)
  ·exact hd.elim⟩
def rngL(lo:Int)(n:Nat):List D:=(List.range n).map λ(i:Nat)=>.int (lo+i)
theorem q3y(lo:Int)(n:Nat):ItOk K B (Itr lo n) (rngL lo n):=λi B2 H sb s2=>by
 unfold rngL
 refine⟨λd e=>?_,λe=>?_⟩
 ·rw[List.getElem?_map] at e
  by_cases hi:i<n
  ·rw[List.getElem?_range hi] at e
   cases e
   exact⟨hi,λy H' q=>⟨B2,by rw[q.1];exact .refl s2,by rw[q.2];exact qhr (d:=.int (lo+(i:Nat))) rfl⟩⟩
  ·rw[List.getElem?_eq_none (by rw[List.length_range];lia)] at e
   cases e
 ·have:=List.getElem?_eq_none_iff.mp e
  rw[List.length_map,List.length_range] at this
  exact this
def ql7(te:TV):TVA:=λτ Q=>te τ λr=>match r.d with
|.int j=>-(2 ^ 62)<=j/\j<2 ^ 62/\Q (.ok (rngL 0 j.toNat))
|_=>False
theorem qif{tg:Expr}(hg:Gl X "range")(hm:X.mg "range" = none)(h:VE X EX a ta)(hp:qav a=true:=by rfl):VI X EX tg (.Call (.Name "range" p) [a] [] pos) (ql7 ta) :=
 let ⟨_,a1,a2⟩:=h.u;⟨_,q7k hg hm (qac a1 qd5 hp) hp,λH0 B H τ σ Q Qd s S h xc k=>a2 H0 B H τ σ _ _ s S h (xno λ_ q=>q) λr v B' H' q hr hq=>by
  split at hq
  ·rename_i j ej
   exact⟨j,by rw[hr.pk.scal (z:=.int j) (by rw[ej];rfl)],hq.1,hq.2.1,k _ _ B' H' q (q3y 0 j.toNat) hq.2.2⟩
  ·exact hq.elim⟩
def q6f(ta tb:TV):TVA:=λτ Q=>ta τ λrx=>exR rx (λ_=>False) <| tb τ λry=>match rx.d,ry.d with
|.int i,.int j=>(-(2 ^ 62)<=i/\i<2 ^ 62/\-(2 ^ 62)<=j/\j<2 ^ 62)/\Q (.ok (rngL i (j-i).toNat))
|_,_=>False
def forW(g:TVG)(tb:TVS)(Dv:VEnds):List D->VSt->Prop
|[],τ=>Dv.nx τ
|d::ds,τ=>g d τ λτ'=>tb { Dv with nx:=forW g tb Dv ds,ct:=forW g tb Dv ds,bk:=Dv.nx } τ'
def exI(τ:VSt)(Dv:VEnds):AR->(List D->Prop)->Prop
|.ok ds,k=>k ds
|.exc n,_=>Dv.xc τ n
def vFor(vi:TVA)(g:TVG)(tb:TVS):TVS:=λDv τ=>vi τ λa=>exI τ Dv a λds=>forW g tb Dv ds τ
theorem q5u{wi:TI}{g:TG}{tb:TS}{vi:TVA}{gv:TVG}{bv:TVS}(hi:RfI K EX wi vi)(hg:RfG K g gv)(hb:RfS K EX tb bv):RfS K EX (tFor wi g tb) (vFor vi gv bv):=λB0 H0 B H τ σ Dv Dh p S h E =>
 hi H0 B H τ σ _ _ p.s S h (E.raised p S) λJ ds B1 H1 q ok hw=>by
  have pq:=p.trans q
  have E1:=E.base pq
  refine⟨λi m σ H=>m=ds.length-i/\i<=ds.length/\∃B2 τ,Stp B1 H0 B2 H/\Slots K H0 B2 H τ σ/\forW gv bv Dv (ds.drop i) τ,⟨ds.length,by lia,Nat.zero_le _,B1,τ,pq.here,S.step q,hw⟩,?_⟩
  rintro i m σ2 H2 ⟨rfl,hi,B2,τ2,p2,S2,w⟩
  by_cases hlt:i<ds.length
  ·have ei:ds[i]?=some ds[i]:=List.getElem?_eq_getElem hlt
   rw[List.drop_eq_getElem_cons hlt] at w
   obtain⟨go,yl⟩:=(ok i B2 H2 p2.b p2.s).1 _ ei
   refine .inr ⟨go,λσ' H'=>∃B2 τ,Stp B1 H0 B2 H'/\Slots K H0 B2 H' τ σ'/\forW gv bv Dv (ds.drop (i+1)) τ,λσ' H' ⟨B3,τ3,a1,a2,a3⟩=>⟨ds.length-(i+1),by lia,rfl,by lia,B3,τ3,a1,a2,a3⟩,λy H' hy=>?_⟩
   obtain⟨B3,q3,rp⟩:=yl y H' hy
   refine hg H0 B3 H' τ2 σ2 y _ _ _ q3.s (S2.step q3) rp w λτ' σ' S' _ h'=>?_
   exact hb B1 H0 B3 H' τ' σ' _ _ (p2.trans q3) S' h' ⟨λB H τ σ a1 a2 a3=>⟨B,τ,a1,a2,a3⟩,E1.rt,λB H τ σ a1 a2 a3=>E1.nx B H τ σ a1 a2 a3,λB H τ σ a1 a2 a3=>⟨B,τ,a1,a2,a3⟩,E1.xc,E1.ro,E1.rn⟩
  ·have ei:ds[i]?=none:=List.getElem?_eq_none (by lia)
   rw[List.drop_eq_nil_of_le (by lia)] at w
   exact .inl ⟨(ok i B2 H2 p2.b p2.s).2 ei,E1.nx B2 H2 τ2 σ2 p2 S2 w⟩
theorem qgi{tg iter:Expr}{body:List Stmt}{vi:TVA}{g:TVG}(hp:PassesOwn (model X.prog X.w) X.A X.env X.xe)(hc:X.calm=true)(hi:VI X EX tg iter vi)(hg:VG X tg g)(hb:VSs X EX body t)
  (hs:∀x,foldedSetIterable iter X.env x=pure x:=by intro _;rfl):VS X EX (.For tg iter body [] pos) (vFor vi g t) :=
 let ⟨_,a1,a2⟩:=hi.u;let ⟨_,b1,b2⟩:=hg.u;let ⟨_,c1,c2⟩:=hb.u;⟨_,q5i hp hc a1 b1 c1 hs,q5u a2 b2 c2⟩
def quw(c:TVT)(tb:TVS):TVS:=λDv τ=>∃W:Nat->VSt->Prop,(∃m,W m τ)/\∀m τ,W m τ->c τ λb=>if b=true then tb { Dv with nx:=λτ'=>∃m',m'<m/\W m' τ',ct:=λτ'=>∃m',m'<m/\W m' τ',bk:=Dv.nx } τ else Dv.nx τ
theorem qps{body:List Stmt}(hp:PassesOwn (model X.prog X.w) X.A X.env X.xe)(hc:VT X EX c tT)(hb:VSs X EX body t):VS X EX (.While c body [] pos) (quw tT t) :=
 let ⟨_,a1,a2⟩:=hc.u;let ⟨_,b1,b2⟩:=hb.u;⟨_,qxi hp a1 b1,λB0 H0 B H τ σ Dv Dh p S h E=>by
  obtain⟨W,⟨m0,w0⟩,turn⟩:=h
  refine⟨λm σ H=>∃B2 τ,Stp B0 H0 B2 H/\Slots X.K H0 B2 H τ σ/\W m τ,⟨m0,B,τ,p,S,w0⟩,?_⟩
  rintro m σ2 H2 ⟨B2,τ2,p2,S2,w⟩
  refine a2 H0 B2 H2 τ2 σ2 _ _ p2.s S2 (turn m τ2 w) λb B3 H3 q hq=>?_
  cases b with
 |true =>
   refine iteT ⟨λσ' H'=>∃m',m'<m/\∃B2 τ,Stp B0 H0 B2 H'/\Slots X.K H0 B2 H' τ σ'/\W m' τ,λσ' H' z=>z,?_⟩
   rw[if_pos rfl] at hq
   exact b2 B0 H0 B3 H3 τ2 σ2 _ _ (p2.trans q) (S2.step q) hq ⟨λB H τ σ a1 a2 ⟨m',l,a3⟩=>⟨m',l,B,τ,a1,a2,a3⟩,E.rt,λB H τ σ a1 a2 a3=>E.nx B H τ σ a1 a2 a3,λB H τ σ a1 a2 ⟨m',l,a3⟩=>⟨m',l,B,τ,a1,a2,a3⟩,E.xc,E.ro,E.rn⟩
 |false =>
   rw[if_neg Bool.false_ne_true] at hq
   exact iteF (E.nx B3 H3 τ2 σ2 (p2.trans q) (S2.step q) hq)⟩
theorem qie:VFs X EX [] (λ_ Q=>Q true):=⟨_,q13,λH0 B H τ σ Y N Qd s S h k=>by have:=k true B H (.refl s) h;rw[if_pos rfl] at this;exact this⟩
theorem q2x(h:VT X EX c tT):VFs X EX [c] tT:=let ⟨_,a1,a2⟩:=h.u;⟨_,q14 a1,λH0 B H τ σ Y N Qd s S h k=>a2 H0 B H τ σ _ _ s S h k⟩
def qk7(τ:VSt)(k:Nat)(g:TVG)(ti:TVT)(te:TV)(Q:R->Prop):List D->List D->Prop
|[],acc=>Q (.own (.lst acc))
|d::ds,acc=>g d (τ++List.replicate k none) λτ2=>(τ2.take τ.length=τ/\τ2.length=τ.length+k)/\ti τ2 λb=>if b=true then te τ2 λr=>pubR r λd'=>acc.length<sizeLine/\qk7 τ k g ti te Q ds (acc++[d']) else qk7 τ k g ti te Q ds acc
def qgp(vi:TVA)(g:TVG)(ti:TVT)(te:TV)(k:Nat):TV:=λτ Q=>vi τ λa=>exA a Q λds=>qk7 τ k g ti te Q ds []
theorem Slots.more(S:Slots K H0 B H τ σ)(k:Nat):Slots K H0 B H (τ++List.replicate k none) (σ++List.replicate k none):=by
 have get:∀(i:Nat) (r:R),(τ++List.replicate k none)[i]?=some (some r)->τ[i]?=some (some r)/\(σ++List.replicate k (none:Option V))[i]?=σ[i]?:=λi r h=>by
  by_cases l:i<τ.length
  ·rw[List.getElem?_append_left l] at h
   exact⟨h,List.getElem?_append_left (by rw[S.len];exact l)⟩
  ·rw[List.getElem?_append_right (by lia)] at h
   by_cases l2:i-τ.length<k
   ·rw[List.getElem?_replicate_of_lt l2] at h;cases h
   ·rw[List.getElem?_eq_none (by rw[List.length_replicate];lia)] at h;cases h
 refine⟨by rw[List.length_append,List.length_append,S.len,List.length_replicate,List.length_replicate],λi d h=>?_,λi d h=>?_,λi d h=>?_,λi j d e a h1 h2 h3 h4=>?_⟩
 ·obtain⟨g1,g2⟩:=get i _ h
  rw[g2]
  exact S.val i d g1
 ·obtain⟨g1,g2⟩:=get i _ h
  rw[g2]
  exact S.fz i d g1
 ·obtain⟨g1,g2⟩:=get i _ h
  rw[g2]
  exact S.own i d g1
 ·obtain⟨g1,g2⟩:=get i _ h1
  obtain⟨g3,g4⟩:=get j _ h2
  rw[g2] at h3
  rw[g4] at h4
  exact S.sep i j d e a g1 g3 h3 h4
theorem Slots.less{τ2:VSt}{k:Nat}(S:Slots K H0 B H τ2 σ)(h1:τ2.take τ.length=τ)(h2:τ2.length=τ.length+k):Slots K H0 B H (τ++List.replicate k none) σ/\∀(j:Nat) (e:D),(τ++List.replicate k none)[j]?=some (some (R.own e))->τ2[j]?=some (some (R.own e)):=by
 have get:∀(i:Nat) (r:R),(τ++List.replicate k none)[i]?=some (some r)->τ2[i]?=some (some r):=λi r h=>by
  by_cases l:i<τ.length
  ·rw[List.getElem?_append_left l,←h1,List.getElem?_take_of_lt l] at h
   exact h
  ·rw[List.getElem?_append_right (by lia)] at h
   by_cases l2:i-τ.length<k
   ·rw[List.getElem?_replicate_of_lt l2] at h;cases h
   ·rw[List.getElem?_eq_none (by rw[List.length_replicate];lia)] at h;cases h
 exact⟨⟨by rw[S.len,h2,List.length_append,List.length_replicate],λi d h=>S.val i d (get i _ h),λi d h=>S.fz i d (get i _ h),λi d h=>S.own i d (get i _ h),λi j d e a q1 q2=>S.sep i j d e a (get i _ q1) (get j _ q2)⟩,λj e=>get j _⟩
theorem Slots.heap(S:Slots K H0 B H τ σ)(h:∀(i:Nat) (d:D) (a:Addr),τ[i]?=some (some (R.own d))->σ[i]?=some (some (.ref a))->H' a=H a):Slots K H0 B H' τ σ :=
 ⟨S.len,S.val,S.fz,λi d e=>let ⟨a,q1,q2,q3,q4⟩:=S.own i d e;⟨a,q1,q2,q3,q4.step (Same.refl _) (h i d a e q1)⟩,S.sep⟩
abbrev EX0:St->XK:=λ_ _ _ _=>False
theorem q2f{wi:TI}{g:TG}{ti:TF}{ee:TE}{vi:TVA}{gv:TVG}{tv:TVT}{k:Nat}(hi:RfI K EX wi vi)(hg:RfG K g gv)(hf:RfF K ti tv)(he:RfE K EX0 ee te):RfE K EX (q2p wi g ti ee k) (qgp vi gv tv te k):=λH0 B H τ σ Q Qd s S h xc kk =>
 hi H0 B H τ σ _ _ s S h xc λJ ds B1 H1 q ok hw p hp=>by
  have S1:=S.step q
  refine⟨λi m σ' xs H'=>m=ds.length-i/\i<=ds.length/\∃B2 acc,Stp B1 H1 B2 H'/\H' p=some (.lst xs)/\B2 p=none/\Reps K B2 acc xs/\Slots K H0 B2 H' (τ++List.replicate k none) σ' /\
    (∀(j:Nat) (e:D),(τ++List.replicate k none)[j]?=some (some (R.own e))->σ'[j]?≠some (some (.ref p)))/\qk7 τ k gv tv te Qd (ds.drop i) acc,
   ⟨ds.length,by lia,Nat.zero_le _,B1,[],.grow q.s (qao hp _),qa6,q.s.free hp,.nil,(S1.more k).heap λi d a h1 h2=>?_,λj e h1 h2=>?_,hw⟩,?_⟩
  ·obtain⟨c,q1,_,_,ow⟩:=(S1.more k).own i d h1
   rw[h2] at q1
   cases q1
   exact qa9 λz=>ow.some (z▸hp)
  ·obtain⟨c,q1,_,_,ow⟩:=(S1.more k).own j e h1
   rw[h2] at q1
   cases q1
   exact ow.some hp
  rintro i m σ2 xs H2 ⟨rfl,hle,B2,acc,p2,hx,hb,rp,S2,fr,w⟩
  by_cases hlt:i<ds.length
  ·have ei:ds[i]?=some ds[i]:=List.getElem?_eq_getElem hlt
   rw[List.drop_eq_getElem_cons hlt] at w
   obtain⟨go,yl⟩:=(ok i B2 H2 p2.b p2.s).1 _ ei
   refine .inr ⟨go,λy H' hy=>?_⟩
   obtain⟨B3,q3,ry⟩:=yl y H' hy
   replace hb:=q3.keep hb (by rw[hx];exact λz=>by cases z) (by rw[hx];exact λ_ z=>by cases z)
   replace hx:=q3.h _ _ hx
   replace rp:=rp.same q3.b
   replace p2:=p2.trans q3
   replace S2:=S2.step q3
   clear q3
   refine hg H0 B3 H' _ σ2 y _ _ _ p2.s S2 ry w λτ3 σ3 S3 kp h3=>?_
   obtain⟨⟨e1,e2⟩,h3⟩:=h3
   obtain⟨S3',ow3⟩:=S3.less e1 e2
   have fr3:∀(j:Nat) (e:D),(τ++List.replicate k none)[j]?=some (some (R.own e))->σ3[j]?≠some (some (.ref p)):=λj e h z=>by
    obtain⟨g1,g2⟩:=kp j e (ow3 j e h)
    rw[g2] at z
    exact fr j e g1 z
   refine hf H0 B3 H' τ3 σ3 _ _ _ p2.s S3 h3 λb B4 H4 q4 hq4=>?_
   have hx4:H4 p=some (.lst xs):=q4.h _ _ hx
   have hb4:B4 p=none:=q4.keep hb (by rw[hx];exact λz=>by cases z) (by rw[hx];exact λ_ z=>by cases z)
   cases b with
  |false =>
    rw[if_neg Bool.false_ne_true] at hq4 ⊢
    exact⟨ds.length-(i+1),by lia,rfl,by lia,B4,acc,p2.trans q4,hx4,hb4,rp.same q4.b,S3'.step q4,fr3,hq4⟩
  |true =>
    rw[if_pos rfl] at hq4 ⊢
    refine he H0 B4 H4 τ3 σ3 _ _ q4.s (S3.step q4) hq4 (xno λ_ q=>q) λr v B5 H5 q5 hr hq5=>?_
    obtain⟨d',B6,q6,_,rd,hz,hq6⟩:=pub q5 hr hq5
    have hx6:H5 p=some (.lst xs):=q6.h _ _ hx4
    have hb6:B6 p=none:=q6.keep hb4 (by rw[hx4];exact λz=>by cases z) (by rw[hx4];exact λ_ z=>by cases z)
    have qq:=q4.trans q6
    refine⟨hx6,by rw[←rp.length];exact hz,ds.length-(i+1),by lia,rfl,by lia,B6,acc++[d'],(p2.trans qq).upd hp hb6,qa6,hb6,(rp.same qq.b).append (.one rd),(S3'.step qq).heap λj d a h1 h2=>?_,fr3,hq6⟩
    exact qa9 λz=>fr3 j d h1 (z▸h2)
  ·have ei:ds[i]?=none:=List.getElem?_eq_none (by lia)
   rw[List.drop_eq_nil_of_le (by lia)] at w
   exact .inl ⟨(ok i B2 H2 p2.b p2.s).2 ei,kk (.own (.lst acc)) _ B2 H2 (q.trans p2) ⟨p,rfl,q.h.free hp,hb,xs,hx,rp⟩ w⟩
def canE(K:PySem.W.Frag)(t:TV):TE:=λσ H Q=>∃H0 B τ Qd,Same B H/\Slots K H0 B H τ σ/\t τ Qd/\(∀n C B' H',Stp B H B' H'->clsOf K n C->Qd (.exc n)->EX0 σ (.ref C) none H')/\∀r v B' H',Stp B H B' H'->RepR K B' H H' r v->Qd r->Q v H'
def canG(K:PySem.W.Frag)(g:TVG):TG:=λv σ H Q=>∃H0 B τ d Qd,Same B H/\Slots K H0 B H τ σ/\Rep K B d v/\g d τ Qd/\∀τ' σ',Slots K H0 B H τ' σ'->Kp τ σ τ' σ'->Qd τ'->Q σ' H
def canF(K:PySem.W.Frag)(t:TVT):TF:=λσ H Y N=>∃H0 B τ Qd,Same B H/\Slots K H0 B H τ σ/\t τ Qd/\∀b B' H',Stp B H B' H'->Qd b->if b=true then Y H' else N H'
theorem VE.can(h:VE X EX0 e te):QE X e (canE X.K te):=let ⟨_,a1,a2⟩:=h.u;⟨λpins s σ H Q I ⟨H0,B,τ,Qd,q1,q2,q3,q4,q5⟩=>a1.u pins s σ H Q I (a2 H0 B H τ σ Q Qd q1 q2 q3 q4 q5)⟩
theorem VG.can{g:TVG}(h:VG X e g):QG X e (canG X.K g):=let ⟨_,a1,a2⟩:=h.u;⟨λpins s σ H v u Q I r ⟨H0,B,τ,d,Qd,q1,q2,q3,q4,q5⟩=>a1.u pins s σ H v u Q I r (a2 H0 B H τ σ v d Q Qd q1 q2 q3 q4 q5)⟩
theorem VFs.can(h:VFs X EX es tT):QF X es (canF X.K tT):=let ⟨_,a1,a2⟩:=h.u;⟨λpins s σ H Y N I ⟨H0,B,τ,Qd,q1,q2,q3,q4⟩=>a1.u pins s σ H Y N I (a2 H0 B H τ σ Y N Qd q1 q2 q3 q4)⟩
theorem qf8{tg iter elt:Expr}{ifs:List Expr}{csc:Scope}{NB M:List Str}{vi:TVA}{g:TVG}{ti:TVT}(hi:VI X EX tg iter vi)(hc:X.calm=true)(S:CompScope X.env.scope X.N NB M csc)
  (hg:∀cl C s₀ H₀ fp pn,VG (cxC X NB csc cl C s₀ H₀ fp pn) tg g) (hf:∀cl C s₀ H₀ fp pn,VFs (cxC X NB csc cl C s₀ H₀ fp pn) EX0 ifs ti)
  (he:∀cl C s₀ H₀ fp pn,VE (cxC X NB csc cl C s₀ H₀ fp pn) EX0 elt te) (hs:∀x,foldedSetIterable iter X.env x=pure x:=by intro _;rfl):VC X EX (.ListComp elt [⟨tg,iter,ifs,0⟩] csc pos) (qgp vi g ti te M.length) :=
 let ⟨_,a1,a2⟩:=hi.u;⟨_,q1v (g:=canG X.K g) (ti:=canF X.K ti) (te:=canE X.K te) a1 hc S (λcl C s₀ H₀ fp pn=>(hg cl C s₀ H₀ fp pn).can) (λcl C s₀ H₀ fp pn=>(hf cl C s₀ H₀ fp pn).can) (λcl C s₀ H₀ fp pn=>(he cl C s₀ H₀ fp pn).can) hs,
  q2f a2 (λH0 B H τ σ v d Q Qd q1 q2 q3 q4 q5=>⟨H0,B,τ,d,Qd,q1,q2,q3,q4,q5⟩) (λH0 B H τ σ Y N Qd q1 q2 q3 q4=>⟨H0,B,τ,Qd,q1,q2,q3,q4⟩) (λH0 B H τ σ Q Qd q1 q2 q3 q4 q5=>⟨H0,B,τ,Qd,q1,q2,q3,q4,q5⟩)⟩
theorem vc_e(h:VC X EX e te):VE X EX e te:=let ⟨_,a1,a2⟩:=h.u;⟨_,qc_e a1,a2⟩
def ownL(τ:VSt)(i:Nat)(Q:List D->Prop):Prop:=match τ[i]? with
|some (some (.own (.lst ds)))=>Q ds
|_=>False
theorem q08{i:Nat}{Q:List D->Prop}(h:ownL τ i Q):∃ds,τ[i]?=some (some (.own (.lst ds)))/\Q ds:=by
 unfold ownL at h
 split at h
 ·exact⟨_,by assumption,h⟩
 ·exact h.elim
theorem Slots.lst{i:Nat}{ds es:List D}{ad:Addr}{ys:List V}(S:Slots K H0 B H τ σ)(p:Stp B0 H0 B H)(hi:τ[i]?=some (some (.own (.lst ds))))(ha:σ[i]?=some (some (.ref ad)))(r:Reps K B es ys) :
  Stp B0 H0 B (L2.upd H ad (.lst ys))/\Slots K H0 B (L2.upd H ad (.lst ys)) (τ.set i (some (.own (.lst es)))) σ:=by
 obtain⟨c,q,h0,hb,_⟩:=S.own i _ hi
 rw[ha] at q
 cases q
 exact⟨p.upd h0 hb,S.upd hi ha (qcf r)⟩
theorem Slots.ownL{i:Nat}{Q:List D->Prop}(S:Slots K H0 B H τ σ)(h:L2.ownL τ i Q):∃ds ad xs,τ[i]?=some (some (.own (.lst ds)))/\Q ds/\σ[i]?=some (some (.ref ad))/\H ad=some (.lst xs)/\Reps K B ds xs:=by
 obtain⟨ds,e,q⟩:=q08 h
 obtain⟨a,q1,_,_,xs,q2,q3⟩:=S.own i _ e
 exact⟨ds,a,xs,e,q,q1,q2,q3⟩
def qh8(i:Nat)(te:TV):TVS:=λDv τ=>ownL τ i λds=>te τ λr=>exS τ Dv r (pubR r λd=>ds.length<sizeLine/\Dv.nx (τ.set i (some (.own (.lst (ds++[d]))))))
theorem qme(i:Nat)(h:VE X EX e te)(hN:X.N[i]?=some x:=by rfl)(hv:Vis X.env.scope x:=by first|exact Or.inl rfl|exact Or.inr (Or.inl rfl)|exact Or.inr (Or.inr rfl))(hd:(x==("__debug__" : Str))=false:=by decide)
  (hcd:(x==("__classdict__" : Str))=false:=by decide) (hp:qav e=true:=by rfl)
  (hbase:attributeBase (.Name x p) "append" X.env (eval (.Name x p) X.env)=eval (.Name x p) X.env:=by rfl) (hline:(apos.endLine==cpos.line)=true:=by rfl)
  (hs:swapsWith (.Call (.Attribute (.Name x p) "append" apos) [e] [] cpos) none pos.line X.env=pure false:=by rfl) :
  VS X EX (.Expr (.Call (.Attribute (.Name x p) "append" apos) [e] [] cpos) pos) (qh8 i te) :=
 let ⟨_,a1,a2⟩:=h.u;⟨_,qns (qbm PySem.F.plainAttrs_list PySem.F.slot_list_append PySem.F.type_list_append qlq (qv i hN hv hd hcd) (qac a1 qd5 hp) (by simp[hp]) rfl hbase hline) hs,λB0 H0 B H τ σ Dv Dh p S h E=>by
  obtain⟨ds,ad,xs,e1,h,e2,e3,_⟩:=S.ownL h
  refine⟨.ref ad,e2,.inl ⟨rfl,xs,SqL.of e3⟩,a2 H0 B H τ σ _ _ p.s S h (E.raised p S) λr v B' H' q hr hq=>?_⟩
  obtain⟨d,B2,q2,_,rp,hz,hn⟩:=pub q hr (hr.okS hq)
  have S2:=S.step q2
  obtain⟨a',q1,_,_,xs2,q4,q3⟩:=S2.own i _ e1
  rw[e2] at q1
  cases q1
  refine⟨ad,xs2,v,rfl,rfl,q4,by rw[←q3.length];exact hz,?_⟩
  obtain⟨p3,S3⟩:=S2.lst (p.trans q2) e1 e2 (q3.append (.one rp))
  exact E.nx B2 _ _ σ p3 S3 hn⟩
def qam(N:List Str)(ds:List D):VSt:=ds.map (λd=>some (R.val d))++List.replicate (N.length-ds.length) none
theorem qdu:∀ {ds:List D} {vs:List V},Reps K B ds vs->Slots K H0 B H (ds.map λd=>some (R.val d)) (vs.map some)
|[],_,h=>by
  unfold Reps at h
  subst h
  exact⟨rfl,λi d e=>by simp at e,λi d e=>by simp at e,λi d e=>by simp at e,λi j d e a h=>by simp at h⟩
|d::ds,_,h=>by
  unfold Reps at h
  obtain⟨v,vs,rfl,h1,h2⟩:=h
  have S:=qdu h2
  refine⟨by have:=S.len;simp at this ⊢;exact this,λi f e=>?_,λi f e=>?_,λi f e=>?_,λi j f g ad e=>?_⟩
  ·cases i with
  |zero=>simp at e;subst e;exact⟨v,rfl,h1⟩
  |succ i=>simpa using S.val i f (by simpa using e)
  ·cases i with
  |zero=>simp at e
  |succ i=>simpa using S.fz i f (by simpa using e)
  ·cases i with
  |zero=>simp at e
  |succ i=>simpa using S.own i f (by simpa using e)
  ·cases i with
  |zero=>simp at e
  |succ i =>
    simp at e
theorem Fun.okV{P:Program}{w:World}{mg:Str->Option Value}{base:Heap}{x qual:Str}{st:Stmt}{f:Addr}{fd:FuncData}{N ps:List Str}{k:Nat}{g:DP}(F:Fun K x qual st f fd)(S:FnScope N ps (qae st))(len:∀ds Q,g ds Q->ds.length=ps.length)
  (hbody:∀(cdv:Value) (A:Around) (outer:List Env) (s:Shared) (H:Hp) (E:XK),Room k (A.deeper (envOfC qual (qae st) s.heap.objs.size f cdv)) ->
   ∃t,VSs (cxOf CX0 P w K mg base N qual (qae st) f cdv A outer s H E).nox EX0 (qbg st) t/\∀ds Q,g ds Q->t { nx:=λ_=>Q (.val .non),rt:=Q } (qam N ds)):FnOk P w K mg base CX0 (k+1) f fd ps (spOf K g):=by
 refine F.okQ S (λvs H Q E h=>?_) (λcdv A outer s H vs Q E hr h=>?_)
 ·obtain⟨ds,B,Qd,_,rp,hg,_,_⟩:=h
  rw[←rp.length]
  exact len ds Qd hg
 ·obtain⟨ds,B,Qd,sm,rp,hg,_,kk⟩:=h
  obtain⟨t,⟨ts,q1,q2⟩,ht⟩:=hbody cdv A outer s H E hr
  refine⟨ts,q1,q2 B H B H (qam N ds) (start N vs) _ _ (.refl sm) ?_ (ht ds Qd hg) ⟨λB' H' τ σ p S h=>kk (.val .non) .non B' H' h p (repV rfl),λr v B' H' p hr h=>kk r v B' H' h p hr,λ_ _ _ _ _ _ h=>h.elim,λ_ _ _ _ _ _ h=>h.elim,λ_ _ _ _ _ _ _ _ _ h=>h.elim,λ_ _ _ _ _ _ _ _ _ _ h=>h.elim,λ_ _ _ _ _ _ _ h=>h.elim⟩⟩
  unfold qam start
  rw[rp.length]
  exact(qdu rp).more _
end
end L2
namespace L2
open PySem PySem.Spec PyProof.Rows
section
variable {X:Cx} {EX:St->XK} {K:PySem.W.Frag} {e a b c o:Expr} {te ta tb tc to:TV} {pos p apos cpos:Pos} {x:Str}
def vNeg(ta:TV):TV:=λτ Q=>ta τ λr=>match r.d with
|.int i=>Q (.val (.int (-i)))
|_=>False
theorem qpn(ha:VE X EX a ta):VE X EX (.UnaryOp .USub a pos) (vNeg ta) :=
 let ⟨_,a1,a2⟩:=ha.u;⟨_,q7j q6c a1,λH0 B H τ σ Q Qd s S h xc k=>a2 H0 B H τ σ _ _ s S h (xno λ_ q=>q) λr v B' H' p q h1=>by
  split at h1
  ·rename_i i e
   exact⟨i,q.pk.scal (by rw[e];rfl),k (.val (.int (-i))) _ B' H' p (repV rfl) h1⟩
  ·exact h1.elim⟩
def vIsN(g:Bool->Bool)(rx ry:R)(Q:R->Prop):Prop:=match ry.d with
|.non=>Q (.val (.bl (g (match rx.d with|.non=>true|_=>false))))
|_=>False
theorem qy4{B H:Hp}{r:R}{v:V}(h:Pk K B H r v):decide (v=.non)=(match r.d with|.non=>true|_=>false):=by
 have key:∀d,Rep K B d v->decide (v=.non)=(match d with|.non=>true|_=>false):=λd h=>by
  cases d<;>unfold Rep at h<;>first|(subst h;rfl)|(obtain⟨_,_,rfl,_⟩:=h;rfl)|(obtain⟨_,rfl,_⟩:=h;rfl)
 have key2:∀d,(∃a,v=.ref a/\B a=none/\OwnAt K B H d a)->decide (v=.non)=(match d with|.non=>true|_=>false):=λd ⟨a,e,_,ow⟩=>by
  subst e
  cases d<;>first|rfl|exact ow.elim
 cases r with
|val d=>exact key d h
|own d=>exact key2 d h
|peek d=>exact key2 d h
|exc n=>exact h.elim
theorem q2y:VO X (compareOp .Is) (vIsN id):=by
 refine⟨_,q4g,λB H x y rx ry Q Qd s px py h k=>?_⟩
 unfold vIsN at h
 split at h
 ·rename_i e
  refine⟨py.scal (by rw[e];rfl),?_⟩
  rw[qy4 px]
  exact k _ _ B H (.refl s) (repV rfl) h
 ·exact h.elim
theorem qyh:VO X (compareOp .IsNot) (vIsN (!·)):=by
 refine⟨_,q06,λB H x y rx ry Q Qd s px py h k=>?_⟩
 unfold vIsN at h
 split at h
 ·rename_i e
  refine⟨py.scal (by rw[e];rfl),?_⟩
  rw[qy4 px]
  exact k _ _ B H (.refl s) (repV rfl) h
 ·exact h.elim
def ql4(rd rd':R->R->(R->Prop)->Prop)(ta tb tc:TV):TV:=λτ Q=>ta τ λrx=>exR rx (λ_=>False) <| tb τ λry=>exR ry (λ_=>False) <| rd rx ry λrz=>match rz.d with
|.bl k=>if k=true then tc τ λrw=>exR rw (λ_=>False) (rd' ry rw Q) else Q (.val (.bl false))
|_=>False
theorem qwk:MtM X "str.join" (λx vs H Q=>∃(sep:Str) (l:Addr) (ys:List Str),x=.str sep/\vs=[.ref l]/\SqT X.K H l (ys.map V.str)/\(ys.map (·.length)).sum+ys.length*sep.length<=16777216/\Q (.str (glue sep ys)) H):=by
 intro pins s σ H x vs v us Q I rx rv h
 obtain⟨sep,l,ys,rfl,rfl,hq,hz,q⟩:=h
 obtain⟨t,rfl⟩:=rx
 obtain⟨u,rfl,ru⟩:=rv.one
 cases ru
 obtain⟨its,r,pl,_⟩:=I.tuple hq
 obtain⟨ts,rfl,rfl⟩:=qn5 r
 have fit:Builtin.Str.tooLong ((ts.map (·.1)).toArray.foldl (·+·.length+sep.length) 0)=false:=by
  rw[StrLaws.joinTotal]
  unfold Builtin.Str.tooLong
  rw[sizeLine_eq]
  exact decide_eq_false (by lia)
 exact call_meets F.slot_str_join (typeIs_str _ _ _) F.entry_str_join (F.args_str_join_2 _ _) (meets_str_join_tuple sep t l ts fit) ⟨(let ⟨o,h1,h2,n,h3⟩:=pl;⟨o,n,h1,h2,h3⟩),post_join ts ⟨joinFit_length fit,λt' k=>⟨.str (glue sep (ts.map (·.1))),H,I.tok k,⟨t',rfl⟩,q⟩⟩⟩
def qoa(to te:TV):TV:=λτ Q=>to τ λrs=>match rs.d with
|.str sep=>te τ λrl=>∃ys:List Str,(rl.d=.lst (ys.map D.str)\/rl.d=.tup (ys.map D.str))/\(ys.map (·.length)).sum+ys.length*sep.length<=16777216/\Q (.val (.str (glue sep ys)))
|_=>False
theorem qkm(ho:VE X EX o to)(h:VE X EX e te)(hp:qav e=true:=by rfl)
  (hbase:attributeBase o "join" X.env (eval o X.env)=eval o X.env:=by rfl) (hline:(apos.endLine==cpos.line)=true:=by rfl):VE X EX (.Call (.Attribute o "join" apos) [e] [] cpos) (qoa to te) :=
 let ⟨_,o1,o2⟩:=ho.u;let ⟨_,a1,a2⟩:=h.u;⟨_,qbm PySem.F.plainAttrs_str PySem.F.slot_str_join PySem.F.type_str_join (MtR.or q0q qwk) o1 (qac a1 qd5 hp) (by simp[hp]) rfl hbase hline,λH0 B H τ σ Q Qd s S h xc k =>
  o2 H0 B H τ σ _ _ s S h (xno λ_ q=>q) λrs vs B1 H1 p1 q1 h1=>by
   split at h1
   ·rename_i sep es
    cases q1.pk.scal (z:=.str sep) (by rw[es];rfl)
    refine⟨rfl,a2 H0 B1 H1 τ σ _ _ p1.s (S.step p1) h1 (xno λ_ ⟨_,q,_⟩=>by rcases q with q|q<;>cases q) λrl vl B2 H2 p2 q2 h2=>?_⟩
    obtain⟨ys,el,hz,hq⟩:=h2
    rcases el with el|el
    ·obtain⟨ad,xs,rfl,hx,rx⟩:=q2.pk.lst p2.s el
     exact .inl ⟨sep,ad,ys,rfl,rfl,SqL.of (by rw[hx,rx.strs]),hz,k _ _ B2 H2 (p1.trans p2) (repV rfl) hq⟩
    ·obtain⟨ad,xs,rfl,hx,rx⟩:=q2.pk.tup el
     cases rx.strs
     exact .inr ⟨sep,ad,ys,rfl,rfl,p2.s.sqT hx.sq,hz,k _ _ B2 H2 (p1.trans p2) (repV rfl) hq⟩
   ·exact h1.elim⟩
theorem qxn{r r':R2}{rd rd':R->R->(R->Prop)->Prop}{ea eb ec:TE}(hr:RfO K r rd)(hr':RfO K r' rd')(ha:RfE K EX ea ta)(hb:RfE K EX eb tb)(hc:RfE K EX ec tc):RfE K EX (qum r r' ea eb ec) (ql4 rd rd' ta tb tc):=λH0 B H τ σ Q Qd s S h xc k =>
 ha H0 B H τ σ _ _ s S h (xno λ_ q=>q) λrx x B1 H1 p1 q1 h1=>hb H0 B1 H1 τ σ _ _ p1.s (S.step p1) (q1.ok h1) (xno λ_ q=>q) λry y B2 H2 p2 q2 h2 =>
  hr B2 H2 x y rx ry _ _ p2.s (q1.pk.step p2) q2.pk (q2.ok h2) λrz z B3 H3 p3 q3 h3=>by
   split at h3
   ·rename_i kk ek
    refine⟨kk,q3.pk.scal (by rw[ek];rfl),?_⟩
    have p13:=p1.trans (p2.trans p3)
    cases kk with
   |true =>
     rw[if_pos rfl] at h3 ⊢
     exact hc H0 B3 H3 τ σ _ _ p3.s (S.step p13) h3 (xno λ_ q=>q) λrw' w B4 H4 p4 q4 h4=>hr' B4 H4 y w ry rw' _ _ p4.s ((q2.pk.step p3).step p4) q4.pk (q4.ok h4) λr v B5 H5 p5 q5 h5=>k r v B5 H5 (p13.trans (p4.trans p5)) (q5.back (p13.trans p4).h) h5
   |false =>
     rw[if_neg Bool.false_ne_true] at h3 ⊢
     exact k (.val (.bl false)) _ B3 H3 p13 (repV rfl) h3
   ·exact h3.elim
theorem qym{op op':CmpOp}{rd rd':R->R->(R->Prop)->Prop}(hr:VO X (compareOp op) rd)(hr':VO X (compareOp op') rd')(ha:VE X EX a ta)(hb:VE X EX b tb)(hc:VE X EX c tc)(hm:lastMarks [op,op'] [b,c]=false:=by with_unfolding_all rfl) :
  VT X EX (.Compare a [op,op'] [b,c] pos) (vBl (ql4 rd rd' ta tb tc)) :=
 let ⟨_,r1,r2⟩:=hr.u;let ⟨_,s1,s2⟩:=hr'.u;let ⟨_,a1,a2⟩:=ha.u;let ⟨_,b1,b2⟩:=hb.u;let ⟨_,c1,c2⟩:=hc.u;⟨_,qxj r1 s1 a1 b1 c1 hm,q2d (qxn r2 s2 a2 b2 c2)⟩
def strsOf:List D->Option (List Str)
|[]=>some []
|.str s::ds=>(strsOf ds).map (s::·)
|_::_=>none
theorem qf6(ss:List Str):strsOf (ss.map D.str)=some ss:=by
 induction ss with
|nil=>rfl
|cons s ss ih=>rw[List.map_cons,strsOf,ih];rfl
theorem qen:∀ {ds:List D} {ss:List Str},strsOf ds=some ss->ds=ss.map D.str
|[],ss,h=>by cases h;rfl
|d::ds,ss,h=>by
  cases d<;>first|(unfold strsOf at h;cases h;done)|skip
  rename_i s
  unfold strsOf at h
  cases q:strsOf ds with
 |none=>rw[q] at h;cases h
 |some r =>
   rw[q] at h
   cases h
   rw[qen q]
   rfl
def vIn(g:Bool->Bool)(rx ry:R)(Q:R->Prop):Prop:=match rx.d,ry.d with
|.str x,.str y=>Q (.val (.bl (g (!(Builtin.Str.occurrences y x 0 y.length 1).isEmpty))))
|.str x,.tup ds=>∃ss,strsOf ds=some ss/\Q (.val (.bl (g (decide (x∈ss)))))
|.str x,.lst ds=>∃ss,strsOf ds=some ss/\Q (.val (.bl (g (decide (x∈ss)))))
|.str x,.kt ss=>Q (.val (.bl (g (decide (x∈ss)))))
|_,_=>False
theorem qd0(x:Str):∀(ss:List Str),inV (.str x) (ss.map V.str)=decide (x∈ss)
|[]=>rfl
|y::ss=>by
  have:=qd0 x ss
  unfold inV at this ⊢
  rw[List.map_cons,List.any_cons,this]
  apply qb5
  rw[Bool.or_eq_true,decide_eq_true_iff,decide_eq_true_iff,List.mem_cons]
  rw[show eqV (V.str y) (V.str x)=(y==x) from rfl,beq_iff_eq]
  exact⟨λh=>h.imp Eq.symm id,λh=>h.imp Eq.symm id⟩
theorem qdm(ss:List Str):(ss.map V.str).all qgk=true:=by rw[List.all_map];simp[qgk]
theorem Pk.kt{B H:Hp}{r:R}{v:V}{ss:List Str}(h:Pk K B H r v)(e:r.d=.kt ss):∃a,v=.ref a/\SqT K (λ_=>none) a (ss.map V.str):=by
 cases r with
|val d =>
  cases (show d=_ from e)
  have h':Rep K B (.kt ss) v:=h
  unfold Rep at h'
  exact h'
|own d=>cases (show d=_ from e);obtain⟨_,_,_,q⟩:=h;exact q.elim
|peek d=>cases (show d=_ from e);obtain⟨_,_,_,q⟩:=h;exact q.elim
|exc n=>exact h.elim
theorem q6k:VO X (compareOp .In) (vIn id):=by
 refine⟨_,op_in_str.or qtz,λB H x y rx ry Q Qd s px py h k=>?_⟩
 unfold vIn at h
 split at h
 ·rename_i u w e1 e2
  exact .inl ⟨u,w,px.scal (by rw[e1];rfl),py.scal (by rw[e2];rfl),k _ _ B H (.refl s) (repV rfl) h⟩
 ·rename_i u ds e1 e2
  obtain⟨ss,hs,q⟩:=h
  cases qen hs
  cases px.scal (z:=.str u) (by rw[e1];rfl)
  obtain⟨a,xs,rfl,h1,r1⟩:=py.tup e2
  cases r1.strs
  have q':Qd (.val (.bl (decide (u∈ss)))):=q
  rw[←qd0] at q'
  exact .inr ⟨a,_,rfl,.inr (s.sqT h1.sq),rfl,qdm ss,k _ _ B H (.refl s) (repV rfl) q'⟩
 ·rename_i u ds e1 e2
  obtain⟨ss,hs,q⟩:=h
  cases qen hs
  cases px.scal (z:=.str u) (by rw[e1];rfl)
  obtain⟨a,xs,rfl,h1,r1⟩:=py.lst s e2
  cases r1.strs
  have q':Qd (.val (.bl (decide (u∈ss)))):=q
  rw[←qd0] at q'
  exact .inr ⟨a,_,rfl,.inl (SqL.of h1),rfl,qdm ss,k _ _ B H (.refl s) (repV rfl) q'⟩
 ·rename_i u ss e1 e2
  cases px.scal (z:=.str u) (by rw[e1];rfl)
  obtain⟨a,rfl,h1⟩:=py.kt e2
  have q':Qd (.val (.bl (decide (u∈ss)))):=h
  rw[←qd0] at q'
  exact .inr ⟨a,_,rfl,.inr ((Same.emp H).sqT h1),rfl,qdm ss,k _ _ B H (.refl s) (repV rfl) q'⟩
 ·exact h.elim
theorem qyi:VO X (compareOp .NotIn) (vIn (!·)):=by
 refine⟨_,op_notin_str.or qls,λB H x y rx ry Q Qd s px py h k=>?_⟩
 unfold vIn at h
 split at h
 ·rename_i u w e1 e2
  exact .inl ⟨u,w,px.scal (by rw[e1];rfl),py.scal (by rw[e2];rfl),k _ _ B H (.refl s) (repV rfl) h⟩
 ·rename_i u ds e1 e2
  obtain⟨ss,hs,q⟩:=h
  cases qen hs
  cases px.scal (z:=.str u) (by rw[e1];rfl)
  obtain⟨a,xs,rfl,h1,r1⟩:=py.tup e2
  cases r1.strs
  have q':Qd (.val (.bl (!decide (u∈ss)))):=q
  rw[←qd0] at q'
  exact .inr ⟨a,_,rfl,.inr (s.sqT h1.sq),rfl,qdm ss,k _ _ B H (.refl s) (repV rfl) q'⟩
 ·rename_i u ds e1 e2
  obtain⟨ss,hs,q⟩:=h
  cases qen hs
  cases px.scal (z:=.str u) (by rw[e1];rfl)
  obtain⟨a,xs,rfl,h1,r1⟩:=py.lst s e2
  cases r1.strs
  have q':Qd (.val (.bl (!decide (u∈ss)))):=q
  rw[←qd0] at q'
  exact .inr ⟨a,_,rfl,.inl (SqL.of h1),rfl,qdm ss,k _ _ B H (.refl s) (repV rfl) q'⟩
 ·rename_i u ss e1 e2
  cases px.scal (z:=.str u) (by rw[e1];rfl)
  obtain⟨a,rfl,h1⟩:=py.kt e2
  have q':Qd (.val (.bl (!decide (u∈ss)))):=h
  rw[←qd0] at q'
  exact .inr ⟨a,_,rfl,.inr ((Same.emp H).sqT h1),rfl,qdm ss,k _ _ B H (.refl s) (repV rfl) q'⟩
 ·exact h.elim
end
end L2
namespace L2
open PySem PySem.Spec PyProof.Rows
theorem v_cut{t u:TVS}{Dv:VEnds}{τ:VSt}(Pv:VSt->Prop)(rest:∀τ,Pv τ->u Dv τ)(now:∀nx:VSt->Prop,(∀τ,Pv τ->nx τ)->t { nx:=nx,rt:=Dv.rt,bk:=Dv.bk,ct:=Dv.ct,xc:=Dv.xc,ro:=Dv.ro,rn:=Dv.rn } τ):vSeq t u Dv τ:=now (u Dv) rest
section
variable {g:TVG} {tb:TVS} {Dv:VEnds} {τ:VSt}
theorem qz8{ds:List D}(Pv:Nat->VSt->Prop)(h0:Pv 0 τ)(hn:∀(i:Nat) (d:D) (τ:VSt),ds[i]?=some d->Pv i τ->∀nx:VSt->Prop,(∀τ',Pv (i+1) τ'->nx τ')->g d τ λτ'=>tb { nx:=nx,rt:=Dv.rt,bk:=Dv.nx,ct:=nx,xc:=Dv.xc,ro:=Dv.ro,rn:=Dv.rn } τ')
  (he:∀τ,Pv ds.length τ->Dv.nx τ):forW g tb Dv ds τ:=by
 have key:∀(n i:Nat) (τ:VSt),ds.length-i=n->i<=ds.length->Pv i τ->forW g tb Dv (ds.drop i) τ:=λn=>by
  induction n with
 |zero =>
   intro i τ h1 h2 h3
   have e:i=ds.length:=by lia
   subst e
   rw[List.drop_length]
   exact he τ h3
 |succ n ih =>
   intro i τ h1 h2 h3
   have l:i<ds.length:=by lia
   rw[List.drop_eq_getElem_cons l]
   exact hn i ds[i] τ (List.getElem?_eq_getElem l) h3 _ λτ' h=>ih (i+1) τ' (by lia) (by lia) h
 have:=key ds.length 0 τ (by lia) (Nat.zero_le _) h0
 rw[List.drop_zero] at this
 exact this
theorem qmx{α:Type}{f:α->D}{xs:List α}(Pv:Nat->VSt->Prop)(h0:Pv 0 τ)(hn:∀(i:Nat) (x:α) (τ:VSt),xs[i]?=some x->Pv i τ->∀nx:VSt->Prop,(∀τ',Pv (i+1) τ'->nx τ')->g (f x) τ λτ'=>tb { nx:=nx,rt:=Dv.rt,bk:=Dv.nx,ct:=nx,xc:=Dv.xc,ro:=Dv.ro,rn:=Dv.rn } τ')
  (he:∀τ,Pv xs.length τ->Dv.nx τ):forW g tb Dv (xs.map f) τ:=by
 refine qz8 Pv h0 (λi d τ e=>?_) (by rw[List.length_map];exact he)
 rw[List.getElem?_map] at e
 cases q:xs[i]? with
|none=>rw[q] at e;cases e
|some x =>
  rw[q] at e
  cases e
  exact hn i x τ q
theorem qhb{lo:Int}{n:Nat}(Pv:Nat->VSt->Prop)(h0:Pv 0 τ)(hn:∀(i:Nat) (τ:VSt),i<n->Pv i τ->∀nx:VSt->Prop,(∀τ',Pv (i+1) τ'->nx τ')->g (.int (lo+i)) τ λτ'=>tb { nx:=nx,rt:=Dv.rt,bk:=Dv.nx,ct:=nx,xc:=Dv.xc,ro:=Dv.ro,rn:=Dv.rn } τ')
  (he:∀τ,Pv n τ->Dv.nx τ):forW g tb Dv (rngL lo n) τ:=by
 unfold rngL
 refine qmx Pv h0 (λi x τ e=>?_) (by rw[List.length_range];exact he)
 by_cases l:i<n
 ·rw[List.getElem?_range l] at e
  cases e
  exact hn i τ l
 ·rw[List.getElem?_eq_none (by rw[List.length_range];lia)] at e
  cases e
end
theorem qp9{α:Type}(xs:List α):xs.filter (λ_=>true)=xs:=List.filter_eq_self.mpr λ_ _=>rfl
section
variable {α:Type} {f:α->D} {τ:VSt} {k:Nat} {g:TVG} {ti:TVT} {te:TV} {Q:R->Prop}
theorem qvw(P:α->D->Prop)(p:α->Bool)(xs:List α)(hz:xs.length<=sizeLine)
  (ok:∀x∈xs,∀(Y:R->Prop) (N:Prop),(p x=true->∀d,P x d->Y (.val d))->(p x=false->N)->g (f x) (τ++List.replicate k none) λτ2=>(τ2.take τ.length=τ/\τ2.length=τ.length+k)/\ti τ2 λb=>if b=true then te τ2 Y else N)
  (fin:∀es:List D,es.length=(xs.filter p).length->(∀(j:Nat) (x:α) (e:D),(xs.filter p)[j]?=some x->es[j]?=some e->P x e)->Q (.own (.lst es))):qk7 τ k g ti te Q (xs.map f) []:=by
 have key:∀(ys zs:List α) (acc:List D),xs=zs++ys->acc.length=(zs.filter p).length->(∀(j:Nat) (x:α) (e:D),(zs.filter p)[j]?=some x->acc[j]?=some e->P x e)->qk7 τ k g ti te Q (ys.map f) acc:=by
  intro ys
  induction ys with
 |nil =>
   intro zs acc e h1 h2
   rw[List.append_nil] at e
   subst e
   exact fin acc h1 h2
 |cons y ys ih =>
   intro zs acc e h1 h2
   have hl:acc.length<sizeLine:=by
    have h3:=List.length_filter_le p zs
    have h4:xs.length=zs.length+(ys.length+1):=by rw[e,List.length_append,List.length_cons]
    lia
   refine ok y (by rw[e];simp) _ _ (λhp d hd=>⟨hl,ih (zs++[y]) (acc++[d]) (by rw[e];simp) ?_ λj x e' q1 q2=>?_⟩) (λhp=>ih (zs++[y]) acc (by rw[e];simp) ?_ λj x e' q1 q2=>?_)
   ·rw[List.filter_append,List.length_append,List.length_append,h1]
    simp[hp]
   ·rw[List.filter_append] at q1
    have ef:[y].filter p=[y]:=by simp[hp]
    rw[ef] at q1
    by_cases l:j<(zs.filter p).length
    ·rw[List.getElem?_append_left l] at q1
     rw[List.getElem?_append_left (by lia)] at q2
     exact h2 j x e' q1 q2
    ·rw[List.getElem?_append_right (by lia)] at q1
     rw[List.getElem?_append_right (by lia)] at q2
     have ej:j-(zs.filter p).length=0:=by
      have:=(List.getElem?_eq_some_iff.mp q1).1
      simp at this
      lia
     rw[ej] at q1
     rw[h1,ej] at q2
     cases q1
     cases q2
     exact hd
   ·rw[List.filter_append,List.length_append,h1]
    simp[hp]
   ·rw[List.filter_append] at q1
    have ef:[y].filter p=[]:=by simp[hp]
    rw[ef,List.append_nil] at q1
    exact h2 j x e' q1 q2
 exact key xs [] [] rfl rfl (λj x e q=>by simp at q)
theorem qe4(h:α->D)(p:α->Bool)(xs:List α)(hz:xs.length<=sizeLine)
  (ok:∀x∈xs,∀(Y:R->Prop) (N:Prop),(p x=true->Y (.val (h x)))->(p x=false->N)->g (f x) (τ++List.replicate k none) λτ2=>(τ2.take τ.length=τ/\τ2.length=τ.length+k)/\ti τ2 λb=>if b=true then te τ2 Y else N)
  (fin:Q (.own (.lst ((xs.filter p).map h)))):qk7 τ k g ti te Q (xs.map f) []:=by
 refine qvw (λx d=>d=h x) p xs hz (λx hx Y N h1 h2=>ok x hx Y N (λz=>h1 z _ rfl) h2) λes hl he=>?_
 have:es=(xs.filter p).map h:=List.ext_getElem (by rw[hl,List.length_map]) λj h1 h2=>by
  rw[List.length_map] at h2
  rw[List.getElem_map]
  exact he j _ _ (List.getElem?_eq_getElem h2) (List.getElem?_eq_getElem h1)
 rw[this]
 exact fin
theorem qfc(h:α->D)(xs:List α)(hz:xs.length<=sizeLine)
  (ok:∀x∈xs,∀(Y:R->Prop) (N:Prop),Y (.val (h x))->g (f x) (τ++List.replicate k none) λτ2=>(τ2.take τ.length=τ/\τ2.length=τ.length+k)/\ti τ2 λb=>if b=true then te τ2 Y else N)
  (fin:Q (.own (.lst (xs.map h)))):qk7 τ k g ti te Q (xs.map f) []:=by
 refine qe4 h (λ_=>true) xs hz (λx hx Y N h1 _=>ok x hx Y N (h1 rfl)) ?_
 rw[qp9]
 exact fin
end
def wayD(ws:List Str):D:=.tup (ws.map D.str)
def qcc(ws:List Str):D:=.lst (ws.map D.str)
theorem qfb:∀(ss ts:List Str),qcu (ss.map D.str) (ts.map D.str)=true
|[],_=>by unfold qcu;rfl
|_::_,[]=>by unfold qcu;rfl
|s::ss,t::ts=>by
  show qcu (.str s::ss.map D.str) (.str t::ts.map D.str)=true
  unfold qcu
  rw[qfb ss ts]
  rfl
theorem qgq:∀(ss:List Str),qci (ss.map D.str)=0
|[]=>rfl
|s::ss=>by
  show qci (.str s::ss.map D.str)=0
  unfold qci
  rw[qgq ss]
  rfl
theorem qne{ss ts:List Str}(h:ss.map D.str=ts.map D.str):ss=ts:=by
 induction ss generalizing ts with
|nil=>cases ts with
 |nil=>rfl
 |cons t ts=>cases h
|cons s ss ih=>cases ts with
 |nil=>cases h
 |cons t ts =>
   injection h with h1 h2
   injection h1 with h1
   rw[h1,ih h2]
theorem eq_int(i j:Int):eqD (.int i) (.int j)=decide (i=j):=qb5 (by
 rw[eqD_iff,decide_eq_true_iff]
 exact⟨λh=>D.int.inj h,λh=>h▸rfl⟩)
theorem eq_str(i j:Str):eqD (.str i) (.str j)=decide (i=j):=qb5 (by
 rw[eqD_iff,decide_eq_true_iff]
 exact⟨λh=>D.str.inj h,λh=>h▸rfl⟩)
theorem qz0(i j:Int):cmpD (.int i) (.int j)=true:=rfl
theorem qsa(i j:Str):cmpD (.str i) (.str j)=true:=rfl
theorem qz3(i:Int):depD (.int i)=0:=rfl
theorem qz5(i:Str):depD (.str i)=0:=rfl
theorem qje{α β:Type}(f:α->β)(xs:List α)(k:Int):atI (xs.map f) k=(atI xs k).map f:=by
 unfold atI
 rw[List.length_map]
 cases ixN xs.length k with
|none=>rfl
|some j=>simp
theorem qol{α β:Type}(f:α->β)(xs:List α)(lo hi:Option Int):cutL (xs.map f) lo hi=(cutL xs lo hi).map f:=by
 unfold cutL
 rw[List.length_map,List.map_take,List.map_drop]
theorem qxv{K:PySem.W.Frag}{H:Hp}{a:Addr}{ns:List Int}{g:DP}(h:g [.scr ns] (λr=>r=.val (.bl true)))(hS:SqL K H a (ns.map V.int)){E:XK}:spOf K g [.ref a] H (λv _=>v=.bl true) E :=
 ⟨[.scr ns],H,_,Same.refl H,.one (by unfold Rep;exact⟨a,rfl,hS⟩),h,(λn C B' H' e _ _=>by cases e),λr v B' H' e p rr=>by
  subst e
  have rr':Rep K B' (.bl true) v:=rr
  unfold Rep at rr'
  exact rr'⟩
theorem qhj(ss ts:List Str):(ss.map D.str=ts.map D.str)=(ss=ts):=propext ⟨qne,λh=>h▸rfl⟩
theorem qnd(ss ts:List Int):(ss.map D.int=ts.map D.int)=(ss=ts):=propext ⟨λh=>by
 induction ss generalizing ts with
|nil=>cases ts with
 |nil=>rfl
 |cons t ts=>cases h
|cons s ss ih=>cases ts with
 |nil=>cases h
 |cons t ts =>
   injection h with h1 h2
   injection h1 with h1
   rw[h1,ih _ h2],λh=>h▸rfl⟩
theorem qo0{α:Type}(f:α->D)(xs:List α)(x:α):xs.map f++[f x]=(xs++[x]).map f:=by rw[List.map_append];rfl
theorem qxu(xs:List Str)(x:Str):xs.map D.str++[.str x]=(xs++[x]).map D.str:=qo0 _ xs x
theorem qxt(xs:List Int)(x:Int):xs.map D.int++[.int x]=(xs++[x]).map D.int:=qo0 _ xs x
theorem qzx(xs ys:List Str):xs.map D.str++ys.map D.str=(xs++ys).map D.str:=(List.map_append ..).symm
theorem qvz(xs:List Str):(xs.map D.str).dropLast=xs.dropLast.map D.str:=by
 rw[←qfd,←qfd,qol]
theorem qt7(d:D)(Q:D->Prop):pubR (.val d) Q=Q d:=rfl
theorem qt6(d:D)(Q:D->Prop):pubR (.own d) Q=Q d:=rfl
theorem qx4(k:Nat)(xs:List Str):(xs.map D.str).take k=(xs.take k).map D.str:=(List.map_take ..).symm
theorem qsk(k:Nat)(xs:List Str):(xs.map D.str).drop k=(xs.drop k).map D.str:=(List.map_drop ..).symm
theorem qzw{α:Type}(xs:List α)(n:Nat):atI xs (no_index (OfNat.ofNat n:Int))=xs[n]?:=by
 show atI xs (n:Int)=xs[n]?
 unfold atI ixN
 rw[if_pos (by lia)]
 by_cases h:(n:Int)<xs.length
 ·rw[if_pos h]
  simp
 ·rw[if_neg h]
  simp
  lia
theorem qvt{α:Type}(xs:List α):atI xs (-1)=xs.getLast?:=by
 unfold atI ixN
 rw[if_neg (by decide)]
 cases xs with
|nil=>rfl
|cons x xs =>
  rw[if_pos (by rw[List.length_cons];lia)]
  rw[List.getLast?_eq_getElem?]
  show (x::xs)[(-1+((x::xs).length:Int)).toNat]?=_
  congr 1
  lia
theorem qyz(d:D)(Q:R->Prop)(k:Prop):exR (.val d) Q k=k:=rfl
theorem qyy(d:D)(Q:R->Prop)(k:Prop):exR (.own d) Q k=k:=rfl
theorem qsw(d:D)(Q:R->Prop)(k:Prop):exR (.peek d) Q k=k:=rfl
theorem qyx(n:Str)(Q:R->Prop)(k:Prop):exR (.exc n) Q k=Q (.exc n):=rfl
theorem qsr(d:D)(Q:AR->Prop)(k:Prop):excA (.val d) Q k=k:=rfl
theorem qsq(d:D)(Q:AR->Prop)(k:Prop):excA (.own d) Q k=k:=rfl
theorem qoo(d:D)(Q:AR->Prop)(k:Prop):excA (.peek d) Q k=k:=rfl
theorem qsp(n:Str)(Q:AR->Prop)(k:Prop):excA (.exc n) Q k=Q (.exc n):=rfl
theorem qsv(τ:VSt)(Dv:VEnds)(d:D)(k:Prop):exS τ Dv (.val d) k=k:=rfl
theorem qsu(τ:VSt)(Dv:VEnds)(d:D)(k:Prop):exS τ Dv (.own d) k=k:=rfl
theorem qop(τ:VSt)(Dv:VEnds)(d:D)(k:Prop):exS τ Dv (.peek d) k=k:=rfl
theorem qst(τ:VSt)(Dv:VEnds)(n:Str)(k:Prop):exS τ Dv (.exc n) k=Dv.xc τ n:=rfl
theorem qyv(ds:List D)(Q:R->Prop)(k:List D->Prop):exA (.ok ds) Q k=k ds:=rfl
theorem qk8(n:Str)(Q:R->Prop)(k:List D->Prop):exA (.exc n) Q k=Q (.exc n):=rfl
theorem qyw(τ:VSt)(Dv:VEnds)(ds:List D)(k:List D->Prop):exI τ Dv (.ok ds) k=k ds:=rfl
theorem qss(τ:VSt)(Dv:VEnds)(n:Str)(k:List D->Prop):exI τ Dv (.exc n) k=Dv.xc τ n:=rfl
theorem qtp(d:D)(ds:List D):q0p d (.ok ds)=.ok (d::ds):=rfl
theorem qo1(d:D)(n:Str):q0p d (.exc n)=.exc n:=rfl
theorem qza(d:D):(R.val d).d=d:=rfl
theorem qy9(d:D):(R.own d).d=d:=rfl
theorem qud(d:D):(R.peek d).d=d:=rfl
theorem qy8(n:Str):(R.exc n).d=.scr []:=rfl
theorem qbb{t u:TVS}{Dv:VEnds}{τ:VSt}(h:t { nx:=u Dv,rt:=Dv.rt,bk:=Dv.bk,ct:=Dv.ct,xc:=Dv.xc,ro:=Dv.ro,rn:=Dv.rn } τ):vSeq t u Dv τ:=h
end L2
namespace L2
open PySem PySem.Spec PyProof.Rows
def lkD:List (List Str)->List D->List Str->Option D
|k::ks,d::ds,w=>if k=w then some d else lkD ks ds w
|_,_,_=>none
def lkK:List Str->List D->Str->Option D
|k::ks,d::ds,w=>if k=w then some d else lkK ks ds w
|_,_,_=>none
def rpD:List (List Str)->List D->List Str->D->List D
|k::ks,e::ds,w,d=>(if k=w then d else e)::rpD ks ds w d
|_,_,_,_=>[]
def putD(ks:List (List Str))(ds:List D)(w:List Str)(d:D):D:=if w∈ks then .dT ks (rpD ks ds w d) else .dT (ks++[w]) (ds++[d])
theorem qu7{a b:List Str}(h:wK a=wK b):a=b:=by
 unfold wK at h
 induction a generalizing b with
|nil=>cases b with
 |nil=>rfl
 |cons _ _=>cases h
|cons x a ih=>cases b with
 |nil=>cases h
 |cons y b =>
   injection h with h1 h2
   injection h1 with h1
   rw[h1,ih h2]
theorem qu8(w:List Str):(wK w).map kV=w.map V.str:=by
 unfold wK
 rw[List.map_map]
 rfl
section
variable {K:PySem.W.Frag} {B H:Hp} {d:D} {r:R} {v:V}
theorem DGet.tR{H:Hp}{a b:Addr}{kvs:List (List Key×V)}{k:List Key}(e:Rd H a (.dT kvs))(eb:H b=some (.tup (k.map kV))):DGet H a (.ref b) (valV kvs k):=.inr ⟨kvs,k,b,e,rfl,eb,rfl⟩
theorem Pk.dT{ks:List (List Str)}{ds:List D}(s:Same B H)(h:Pk K B H r v)(e:r.d=.dT ks ds):∃a kvs,v=.ref a/\Rd H a (.dT kvs)/\kvs.map (·.1)=ks.map wK/\Reps K B ds (kvs.map (·.2)):=by
 cases r with
|val d =>
  cases (show d=_ from e)
  have h':Rep K B (.dT ks ds) v:=h
  unfold Rep at h'
  obtain⟨a,xs,rfl,q,k,rp⟩:=h'
  exact⟨a,xs,rfl,q.elim (λq=>.inl (s _ _ q)) λ⟨o,q⟩=>.inr ⟨o,s _ _ q⟩,k,rp⟩
|own d=>cases (show d=_ from e);obtain⟨a,rfl,_,xs,q,k,rp⟩:=h;exact⟨a,xs,rfl,.inl q,k,rp⟩
|peek d=>cases (show d=_ from e);obtain⟨a,rfl,_,xs,q,k,rp⟩:=h;exact⟨a,xs,rfl,.inl q,k,rp⟩
|exc n=>exact h.elim
theorem Pk.dK{ks:List Str}{ds:List D}(s:Same B H)(h:Pk K B H r v)(e:r.d=.dK ks ds):∃a kvs,v=.ref a/\H a=some (.dK kvs)/\kvs.map (·.1)=ks.map Sum.inr/\Reps K B ds (kvs.map (·.2)):=by
 cases r with
|val d =>
  cases (show d=_ from e)
  have h':Rep K B (.dK ks ds) v:=h
  unfold Rep at h'
  obtain⟨a,xs,rfl,q,k,rp⟩:=h'
  exact⟨a,xs,rfl,s _ _ q,k,rp⟩
|own d=>cases (show d=_ from e);obtain⟨a,rfl,_,xs,q,k,rp⟩:=h;exact⟨a,xs,rfl,q,k,rp⟩
|peek d=>cases (show d=_ from e);obtain⟨a,rfl,_,xs,q,k,rp⟩:=h;exact⟨a,xs,rfl,q,k,rp⟩
|exc n=>exact h.elim
theorem qz1{w:List Str}(t:w.map D.str=[.str "folder",.str ""]):w=(["folder",""]:List Str):=by
 cases w with
|nil=>cases t
|cons x w =>
  cases w with
 |nil=>cases t
 |cons y w =>
   cases w with
  |nil =>
    simp only[List.map_cons,List.map_nil,List.cons.injEq,D.str.injEq,and_true] at t
    rw[t.1,t.2]
  |cons z w=>cases t
theorem Pk.wayN{w:List Str}(h:Pk K B H r v)(e:r.d=.tup (w.map D.str))(n:w≠(["folder",""]:List Str)):∃a,v=.ref a/\B a=some (.tup (w.map V.str)):=by
 obtain⟨a,xs,rfl,t,rp⟩:=h.tup e
 refine⟨a,rfl,?_⟩
 rw[←rp.strs]
 rcases t with t|⟨_,t⟩
 ·exact t
 ·exact absurd (qz1 t) n
theorem Pk.way{w:List Str}(h:Pk K B H r v)(e:r.d=.tup (w.map D.str))(n:("" : Str)∉w):∃a,v=.ref a/\B a=some (.tup (w.map V.str)):=h.wayN e λq=>n (by rw[q];simp)
theorem qth:∀ {ks:List (List Str)} {ds:List D} {kvs:List (List Key×V)} (w:List Str),kvs.map (·.1)=ks.map wK->Reps K B ds (kvs.map (·.2))->(lkD ks ds w=none/\valV kvs (wK w)=none)\/∃d v,lkD ks ds w=some d/\valV kvs (wK w)=some v/\Rep K B d v
|[],ds,kvs,w,h1,h2=>by
  have e:kvs=[]:=by simpa using h1
  subst e
  exact .inl ⟨by unfold lkD;rfl,rfl⟩
|k::ks,ds,[],w,h1,h2=>by cases h1
|k::ks,[],p::kvs,w,h1,h2=>by
  unfold Reps at h2
  cases h2
|k::ks,d::ds,p::kvs,w,h1,h2=>by
  injection h1 with e1 e2
  have e1:p.1=wK k:=e1
  unfold Reps at h2
  obtain⟨x,r,q,r1,r2⟩:=h2
  injection q with q1 q2
  subst q1 q2
  unfold lkD
  by_cases e:k=w
  ·rw[if_pos e,qfq (by rw[e1,e])]
   exact .inr ⟨d,p.2,rfl,rfl,r1⟩
  ·rw[if_neg e,qfp (λz=>e (qu7 (e1.symm.trans z)))]
   exact qth w e2 r2
theorem qnc:∀ {ks:List Str} {ds:List D} {kvs:List (Key×V)} (w:Str),kvs.map (·.1)=ks.map Sum.inr->Reps K B ds (kvs.map (·.2))->(lkK ks ds w=none/\valV kvs (Sum.inr w)=none)\/∃d v,lkK ks ds w=some d/\valV kvs (Sum.inr w)=some v/\Rep K B d v
|[],ds,kvs,w,h1,h2=>by
  have e:kvs=[]:=by simpa using h1
  subst e
  exact .inl ⟨by unfold lkK;rfl,rfl⟩
|k::ks,ds,[],w,h1,h2=>by cases h1
|k::ks,[],p::kvs,w,h1,h2=>by
  unfold Reps at h2
  cases h2
|k::ks,d::ds,p::kvs,w,h1,h2=>by
  injection h1 with e1 e2
  have e1:p.1=Sum.inr k:=e1
  unfold Reps at h2
  obtain⟨x,r,q,r1,r2⟩:=h2
  injection q with q1 q2
  subst q1 q2
  unfold lkK
  by_cases e:k=w
  ·rw[if_pos e,qfq (by rw[e1,e])]
   exact .inr ⟨d,p.2,rfl,rfl,r1⟩
  ·rw[if_neg e,qfp (λz=>e (Sum.inr.inj (e1.symm.trans z)))]
   exact qnc w e2 r2
theorem q1t{ks:List (List Str)}{ds:List D}{kvs:List (List Key×V)}(w:List Str){d:D}{v:V}(h1:kvs.map (·.1)=ks.map wK)(h2:Reps K B ds (kvs.map (·.2)))(hd:Rep K B d v) :
  ∃ks' ds',putD ks ds w d=.dT ks' ds'/\(putK kvs (wK w) v).map (·.1)=ks'.map wK/\Reps K B ds' ((putK kvs (wK w) v).map (·.2)):=by
 have hany:(kvs.any λkv=>decide (kv.1=wK w))=decide (w∈ks):=by
  apply qb5
  rw[List.any_eq_true,decide_eq_true_iff]
  constructor
  ·rintro⟨p,hp,e⟩
   have:p.1∈kvs.map (·.1):=List.mem_map_of_mem hp
   rw[h1,of_decide_eq_true e] at this
   obtain⟨k,hk,ek⟩:=List.mem_map.mp this
   rw[←qu7 ek]
   exact hk
  ·intro hw
   have:wK w∈kvs.map (·.1):=by rw[h1];exact List.mem_map_of_mem hw
   obtain⟨p,hp,e⟩:=List.mem_map.mp this
   exact⟨p,hp,decide_eq_true e⟩
 unfold putD putK
 rw[hany]
 by_cases hw:w∈ks
 ·rw[if_pos hw,if_pos (decide_eq_true hw)]
  refine⟨ks,_,rfl,?_,?_⟩
  ·rw[←h1,List.map_map]
   refine List.map_congr_left λp _=>?_
   show (if p.1=wK w then (p.1,v) else p).1=p.1
   split<;>rfl
  ·clear hany hw
   induction kvs generalizing ks ds with
  |nil =>
    have e:ks=[]:=by simpa using h1.symm
    subst e
    unfold rpD
    exact .nil
  |cons p kvs ih =>
    cases ks with
   |nil=>cases h1
   |cons k ks =>
     cases ds with
    |nil=>unfold Reps at h2;cases h2
    |cons e ds =>
      injection h1 with e1 e2
      have e1:p.1=wK k:=e1
      unfold Reps at h2
      obtain⟨x,r,q,r1,r2⟩:=h2
      injection q with q1 q2
      subst q1 q2
      unfold rpD
      refine .cons ?_ (ih e2 r2)
      by_cases ek:k=w
      ·rw[if_pos ek]
       show Rep K B d (if p.1=wK w then (p.1,v) else p).2
       rw[if_pos (by rw[e1,ek])]
       exact hd
      ·rw[if_neg ek]
       show Rep K B e (if p.1=wK w then (p.1,v) else p).2
       rw[if_neg (λz=>ek (qu7 (e1.symm.trans z)))]
       exact r1
 ·rw[if_neg hw,if_neg (by simpa using hw)]
  refine⟨_,_,rfl,?_,?_⟩
  ·rw[List.map_append,List.map_append,h1]
   rfl
  ·rw[List.map_append]
   exact h2.append (.one hd)
end
section
variable {X:Cx} {EX:St->XK} {e a o i:Expr} {te ta to ti:TV} {pos pos' p p2 apos cpos:Pos} {x:Str} {f:Expr} {tf:TV}
def qn9(to ti:TV):TV:=λτ Q=>to τ λrx=>exR rx (λ_=>False) <| ti τ λry=>match rx.d,ry.d with
|.dT ks ds,.tup es=>∃w d,es=w.map D.str/\("" : Str)∉w/\lkD ks ds w=some d/\Q (.val d)
|.dK ks ds,.str z=>∃d,lkK ks ds z=some d/\Q (.val d)
|_,_=>False
theorem qkl(hu:X.A.units+64<cLine)(ho:VE X EX o to)(hi:VE X EX i ti)(hs:NoSl i:=by exact λ_ _=>rfl):VE X EX (.Subscript o i pos) (qn9 to ti) :=
 let ⟨_,a1,a2⟩:=ho.u;let ⟨_,b1,b2⟩:=hi.u;⟨_,q1y (by lia) a1 b1 hs,λH0 B H τ σ Q Qd s S h xc k=>a2 H0 B H τ σ _ _ s S h (xno λ_ q=>q) λrx x B1 H1 p1 q1 h1=>b2 H0 B1 H1 τ σ _ _ p1.s (S.step p1) (q1.ok h1) (xno λ_ q=>by revert q;cases rx.d<;>exact λz=>z) λry y B2 H2 p2 q2 h2=>by
  have px:=q1.pk.step p2
  split at h2
  ·rename_i ks ds es e1 e2
   obtain⟨w,d,rfl,hn,hl,hq⟩:=h2
   obtain⟨ad,kvs,rfl,hd,hk,hr⟩:=px.dT p2.s e1
   obtain⟨b,rfl,hb⟩:=q2.pk.way e2 hn
   rcases qth w hk hr with ⟨z,_⟩|⟨d',v,z,hv,rp⟩
   ·rw[z] at hl;cases hl
   ·rw[z] at hl;cases hl
    exact⟨ad,v,rfl,hv▸DGet.tR hd (by rw[qu8];exact p2.s _ _ hb),k (.val d) _ B2 H2 (p1.trans p2) rp hq⟩
  ·rename_i ks ds z e1 e2
   obtain⟨d,hl,hq⟩:=h2
   obtain⟨ad,kvs,rfl,hd,hk,hr⟩:=px.dK p2.s e1
   cases q2.pk.scal (z:=.str z) (by rw[e2];rfl)
   rcases qnc z hk hr with ⟨w,_⟩|⟨d',v,w,hv,rp⟩
   ·rw[w] at hl;cases hl
   ·rw[w] at hl;cases hl
    exact⟨ad,v,rfl,hv▸DGet.k (k:=Sum.inr z) hd,k (.val d) _ B2 H2 (p1.trans p2) rp hq⟩
  ·exact h2.elim⟩
def vDIn(g:Bool->Bool)(ti to:TV):TV:=λτ Q=>ti τ λry=>exR ry (λ_=>False) <| to τ λrx=>match rx.d,ry.d with
|.dT ks ds,.tup es=>∃w,es=w.map D.str/\("" : Str)∉w/\Q (.val (.bl (g (lkD ks ds w).isSome)))
|.dK ks ds,.str z=>Q (.val (.bl (g (lkK ks ds z).isSome)))
|_,_=>False
def qia(to ti:TV):TV:=λτ Q=>to τ λrx=>match rx.d with
|.dT ks ds=>ti τ λry=>∃w,ry.d=.tup (w.map D.str)/\("" : Str)∉w/\Q (.val ((lkD ks ds w).getD .non))
|.dK ks ds=>ti τ λry=>∃z,ry.d=.str z/\Q (.val ((lkK ks ds z).getD .non))
|_=>False
theorem qgu(hu:X.A.units+64<cLine)(ho:VE X EX o to)(hi:VE X EX e ti)(m:M1 X o "get" apos e cpos:=by exact⟨rfl,rfl,rfl,rfl⟩):VE X EX (.Call (.Attribute o "get" apos) [e] [] cpos) (qia to ti) :=
 let ⟨_,a1,a2⟩:=ho.u;let ⟨_,b1,b2⟩:=hi.u;⟨_,qxc (by lia) a1 b1 m,λH0 B H τ σ Q Qd s S h xc k=>a2 H0 B H τ σ _ _ s S h (xno λ_ q=>q) λrx x B1 H1 p1 q1 h1=>by
  split at h1
  ·rename_i ks ds e1
   obtain⟨ad,kvs,rfl,hd,_,_⟩:=q1.pk.dT p1.s e1
   refine⟨ad,rfl,.inr ⟨kvs,hd⟩,b2 H0 B1 H1 τ σ _ _ p1.s (S.step p1) h1 (xno λ_ ⟨_,q,_⟩=>by cases q) λry y B2 H2 p2 q2 h2=>?_⟩
   obtain⟨w,e2,hn,hq⟩:=h2
   obtain⟨ad',kvs',ea,hd',hk,hr⟩:=(q1.pk.step p2).dT p2.s e1
   cases ea
   obtain⟨b,rfl,hb⟩:=q2.pk.way e2 hn
   refine⟨_,DGet.tR (k:=wK w) hd' (by rw[qu8];exact p2.s _ _ hb),?_⟩
   rcases qth w hk hr with ⟨z,y⟩|⟨d',v,z,y,rp⟩
   ·rw[y];rw[z] at hq
    exact k (.val .non) _ B2 H2 (p1.trans p2) (repV rfl) hq
   ·rw[y];rw[z] at hq
    exact k (.val d') _ B2 H2 (p1.trans p2) rp hq
  ·rename_i ks ds e1
   obtain⟨ad,kvs,rfl,hd,_,_⟩:=q1.pk.dK p1.s e1
   refine⟨ad,rfl,.inl ⟨kvs,.inl hd⟩,b2 H0 B1 H1 τ σ _ _ p1.s (S.step p1) h1 (xno λ_ ⟨_,q,_⟩=>by cases q) λry y B2 H2 p2 q2 h2=>?_⟩
   obtain⟨w,e2,hq⟩:=h2
   obtain⟨ad',kvs',ea,hd',hk,hr⟩:=(q1.pk.step p2).dK p2.s e1
   cases ea
   cases q2.pk.scal (z:=.str w) (by rw[e2];rfl)
   refine⟨_,DGet.k (k:=Sum.inr w) hd',?_⟩
   rcases qnc w hk hr with ⟨z,y⟩|⟨d',v,z,y,rp⟩
   ·rw[y];rw[z] at hq
    exact k (.val .non) _ B2 H2 (p1.trans p2) (repV rfl) hq
   ·rw[y];rw[z] at hq
    exact k (.val d') _ B2 H2 (p1.trans p2) rp hq
  ·exact h1.elim⟩
def qpg:TV:=λ_ Q=>Q (.own (.dT [] []))
theorem qyb:VE X EX (.Dict [] [] pos) qpg:=⟨_,qxe,λ_ B H _ _ _ _ s _ h _ k p hp=>k (.own (.dT [] [])) _ B _ (.grow s (qao hp _)) ⟨p,rfl,hp,s.free hp,[],qa6,rfl,.nil⟩ h⟩
def ownT(τ:VSt)(i:Nat)(Q:List (List Str)->List D->Prop):Prop:=match τ[i]? with
|some (some (.own (.dT ks ds)))=>Q ks ds
|_=>False
theorem q09{τ:VSt}{i:Nat}{Q:List (List Str)->List D->Prop}(h:ownT τ i Q):∃ks ds,τ[i]?=some (some (.own (.dT ks ds)))/\Q ks ds:=by
 unfold ownT at h
 split at h
 ·exact⟨_,_,by assumption,h⟩
 ·exact h.elim
def qir(i:Nat)(tk te:TV):TVS:=λDv τ=>ownT τ i λks ds=>te τ λr=>exS τ Dv r <| pubR r λd=>tk τ λrk=>match rk.d with
|.tup es=>∃w,es=w.map D.str/\("" : Str)∉w/\ks.length<sizeLine/\Dv.nx (τ.set i (some (.own (putD ks ds w d))))
|_=>False
theorem qe9{ek:Expr}{tk:TV}(i:Nat)(hu:X.A.units+64<cLine)(hk:VE X EX ek tk)(h:VE X EX e te)(hN:X.N[i]?=some x:=by rfl)(hv:Vis X.env.scope x:=by first|exact Or.inl rfl|exact Or.inr (Or.inl rfl)|exact Or.inr (Or.inr rfl))(hd:(x==("__debug__" : Str))=false:=by decide)
  (hcd:(x==("__classdict__" : Str))=false:=by decide) (hs:swapsWith e (some (.Subscript (.Name x p) ek p2)) pos.line X.env=pure false:=by rfl):VS X EX (.Assign [.Subscript (.Name x p) ek p2] e pos) (qir i tk te) :=
 let ⟨_,a1,a2⟩:=h.u;let ⟨_,b1,b2⟩:=hk.u;⟨_,q17 (by lia) (qv i hN hv hd hcd) b1 a1 hs,λB0 H0 B H τ σ Dv Dh p S h E=>by
  obtain⟨ks,ds,e1,h⟩:=q09 h
  obtain⟨ad,e2,_,_,_⟩:=S.own i _ e1
  refine a2 H0 B H τ σ _ _ p.s S h (E.raised p S) λr v B' H' q hr hq=>?_
  obtain⟨d,B2,q2,_,rp,hn⟩:=pub q hr (hr.okS hq)
  refine⟨.ref ad,e2,b2 H0 B2 H' τ σ _ _ q2.s (S.step q2) hn (xno λ_ q=>q) λrk vk B3 H3 q3 hk hh=>?_⟩
  split at hh
  ·rename_i es ek
   obtain⟨w,rfl,hne,hz,hn⟩:=hh
   obtain⟨b,rfl,hb⟩:=hk.pk.way ek hne
   have qq:=q2.trans q3
   have S3:=S.step qq
   obtain⟨a',f1,h0,hbb,kvs,f4,f5,f6⟩:=S3.own i _ e1
   rw[e2] at f1
   cases f1
   have hl:kvs.length<sizeLine:=by
    have:kvs.length=ks.length:=by simpa using congrArg List.length f5
    lia
   refine⟨ad,_,rfl,DPut.t (k:=wK w) f4 (by rw[qu8];exact q3.s _ _ hb) hl,?_⟩
   obtain⟨ks',ds',ep,g1,g2⟩:=q1t w f5 f6 (rp.same q3.b)
   rw[ep] at hn
   exact E.nx B3 _ _ σ ((p.trans qq).upd h0 hbb) (S3.upd (d:=.dT ks' ds') e1 e2 ⟨_,qa6,g1,g2⟩) hn
  ·exact hh.elim⟩
end
def qa1(kds:List (List Str×D)):D:=.dT (kds.map (·.1)) (kds.map (·.2))
def lkP(kds:List (List Str×D))(w:List Str):Option D:=(kds.find? λp=>decide (p.1=w)).map (·.2)
def insP(kds:List (List Str×D))(w:List Str)(d:D):List (List Str×D):=if w∈kds.map (·.1) then kds.map (λp=>if p.1=w then (p.1,d) else p) else kds++[(w,d)]
theorem qcz(kds:List (List Str×D))(w:List Str):lkD (kds.map (·.1)) (kds.map (·.2)) w=lkP kds w:=by
 induction kds with
|nil=>unfold lkP;simp[lkD]
|cons p kds ih =>
  rw[List.map_cons,List.map_cons]
  unfold lkD
  unfold lkP at ih ⊢
  by_cases e:p.1=w
  ·rw[if_pos e,List.find?_cons,decide_eq_true e]
   rfl
  ·rw[if_neg e,ih,List.find?_cons,decide_eq_false e]
theorem qcm(kds:List (List Str×D))(w:List Str)(d:D):putD (kds.map (·.1)) (kds.map (·.2)) w d=qa1 (insP kds w d):=by
 unfold putD insP qa1
 by_cases h:w∈kds.map (·.1)
 ·rw[if_pos h,if_pos h]
  congr 1
  ·rw[List.map_map]
   refine(List.map_congr_left λp _=>?_).symm
   show (if p.1=w then (p.1,d) else p).1=p.1
   split<;>rfl
  ·clear h
   induction kds with
  |nil=>rfl
  |cons p kds ih =>
    rw[List.map_cons,List.map_cons,List.map_cons,List.map_cons]
    unfold rpD
    rw[ih]
    congr 1
    split<;>rfl
 ·rw[if_neg h,if_neg h,List.map_append,List.map_append]
  rfl
end L2
namespace PySem
open PySem Calls PyProof.Rows PyProof.V PySem.Spec
def RawD(h:Heap)(d:Addr)(es:Array DictEntry)(ep:Nat):Prop:=∃o,h.get? d=some o/\o.ExactDict/\o.data=.dict es ep
section
variable {prog:Program} {w:World} {A:Around} {E:Value->Shared->Prop} {s:Shared} {d it:Addr} {es:Array DictEntry} {ep i:Nat}
theorem RawD.typeIs(x:RawD s.heap d es ep):s.TypeIs (.ref d) "dict" := let ⟨o,h1,h2,_⟩:=x;⟨o,h1,h2.1⟩
theorem RawD.keep{h h':Heap}(x:RawD h d es ep)(k:∀o,h.get? d=some o->h'.get? d=some o):RawD h' d es ep:=let ⟨o,h1,r⟩:=x;⟨o,k o h1,r⟩
theorem qxm{Q:Value->Shared->Prop}(no:(d==sysModules)=false)(x:RawD s.heap d es ep)
  (fin:Q (.ref s.heap.objs.size) { s with heap:=s.heap.push { cls:=.type "dict_keyiterator",data:=.fields #[.ref d,.int 0 0,.int es.size 0,.int ep 0] } }):wpAny (model prog w) A (pyIter (.ref d)) Q E s:=by
 have T:=x.typeIs
 obtain⟨o,h1,_,h2⟩:=x
 refine wpAny_pyIter_slot T F.slot_dict_iter (wpAny_call_entry F.slot_dict_iter T F.entry_dict_iter ?_ (F.args_dict_iter_1 _))
 unfold Builtin.«dict.__iter__» Builtin.Dict.dictSlotNone
 refine wpAny_bind (wpAny_bind (wpAny_notOrdered_dict T (show wpAny _ _ (pure (Value.ref d)) _ _ s from wpAny_pure ?_)))
 show wpAny _ _ (Builtin.Dict.showsAll d >>= λ_=>_) _ _ s
 unfold Builtin.Dict.showsAll
 rw[no,if_neg Bool.false_ne_true]
 refine wpAny_bind (wpAny_pure (wpAny_bind (wpAny_dictEntries h1 h2 (wpAny_bind (wpAny_dictEpoch h1 h2 (wpAny_bind (wpAny_newObj_type (wpAny_pure ⟨_,rfl,"dict_keyiterator",_,⟨_,Heap.get?_push_size _ rfl,rfl⟩,F.slot_dict_keyiterator_next.lookup,?_⟩))))))))
 simpa [rawInt] using fin
theorem qes{Q:String->Shared->Prop}(h:s.TypeIs (.ref it) "dict_keyiterator")(q:Q "dict_keyiterator" s):wpAny (model prog w) A (typeNameOfWhole (.ref it)) Q E s:=wpAny_typeNameOfWhole_keyiter h q
theorem qxl{Q:Option Value->Shared->Prop}{ky:Value}(K:s.heap.IsKeyIter it d i es.size ep)(x:RawD s.heap d es ep)(hk:es[i]?.map (·.key)=some ky)
  (fin:∀h',h'.IsKeyIter it d (i+1) es.size ep->Heap.SameBut it s.heap h'->Q (some ky) { s with heap:=h' }):wpAny (model prog w) A (pyNext (.ref it)) Q E s:=by
 have T:=K.typeIs
 obtain⟨oi,g1,g2,g3⟩:=K
 obtain⟨o,h1,_,h2⟩:=x
 have lt:i<es.size:=by
  apply Classical.byContradiction
  intro z
  rw[Array.getElem?_eq_none (by lia)] at hk
  cases hk
 have ek:es[i].key=ky:=by
  rw[Array.getElem?_eq_getElem lt] at hk
  exact Option.some.inj hk
 have no:Builtin.Dict_items.ownsTuple "dict_keyiterator" = false:=by decide
 unfold pyNext
 refine wpAny_bind (wpAny_attempt (wpAny_callSpecial?_slot (name:=Str.ofString "__next__") T F.slot_dict_keyiterator_next (wpAny_call_entry F.slot_dict_keyiterator_next T F.entry_dict_keyiterator_next (wpAny_bind (wpAny_pure (wpAny_bind (wpAny_bind ?_)))) (F.args_dict_keyiterator_next_1 _))))
 refine wpAny_bind (qes T (wpAny_pure (wpAny_bind (wpAny_fieldsOf g1 g3 ?_))))
 simp only[no,Bool.false_eq_true,if_false]
 show wpAny _ _ (ite ((Value.ref d==Value.none)=true) _ _) _ _ s
 rw[if_neg (show ¬ (Value.ref d==Value.none)=true from λz=>by cases z)]
 refine wpAny_bind (wpAny_pure (wpAny_bind (wpAny_dictEntries h1 h2 ?_)))
 rw[if_neg (λz=>by simp at z)]
 refine wpAny_bind (wpAny_pure (wpAny_bind (wpAny_dictEpoch h1 h2 ?_)))
 rw[if_neg (λz=>by simp at z)]
 refine wpAny_pure ?_
 simp only[show ¬ (i:Int)<0 from by lia,if_false,Int.toNat_natCast,Array.getElem?_eq_getElem lt]
 refine wpAny_bind (wpAny_bind (qes T (wpAny_pure (wpAny_bind (wpAny_isOneOf_keyiter T ?_)))))
 show wpAny _ _ (setField (.ref it) 1 (rawInt ((i:Int)+1)) >>= λ_=>_) _ _ s
 have K2:(s.heap.update it (Obj.mapFields (·.setIfInBounds 1 (rawInt ((i:Int)+1))))).IsKeyIter it d (i+1) es.size ep:=⟨_,Heap.get?_update_self _ g1 (Obj.isFreed_of_fields (Obj.data_mapFields g3 _)),(Obj.cls_mapFields ..).trans g2,by
  rw[Obj.data_mapFields g3]
  simp[rawInt]⟩
 refine wpAny_bind (wpAny_setField g1 g3 (by simp) (wpAny_bind (wpAny_holding (wpAny_bind (wpAny_isOneOf_keyiter (s:={ s with heap:=s.heap.update it (Obj.mapFields (·.setIfInBounds 1 (rawInt ((i:Int)+1)))) }) K2.typeIs ?_)))))
 show wpAny _ _ (pure (es[i].key)) _ _ _
 rw[ek]
 exact wpAny_pure (wpAny_pure ⟨_,rfl,wpAny_pure (fin _ K2 (Heap.SameBut.update ..))⟩)
theorem q2b{Q:Option Value->Shared->Prop}(hh:A.handled=none)(K:s.heap.IsKeyIter it d i es.size ep)(x:RawD s.heap d es ep)(ge:es.size<=i)(fin:∀h',Heap.ExtBut it s.heap h'->Q none { s with heap:=h' }) :
  wpAny (model prog w) A (pyNext (.ref it)) Q E s:=by
 have T:=K.typeIs
 obtain⟨oi,g1,g2,g3⟩:=K
 obtain⟨o,h1,_,h2⟩:=x
 have no:Builtin.Dict_items.ownsTuple "dict_keyiterator" = false:=by decide
 unfold pyNext
 refine wpAny_bind (wpAny_attempt (wpAny_callSpecial?_slot (name:=Str.ofString "__next__") T F.slot_dict_keyiterator_next (wpAny_call_entry F.slot_dict_keyiterator_next T F.entry_dict_keyiterator_next (wpAny_bind (wpAny_pure (wpAny_bind (wpAny_bind ?_)))) (F.args_dict_keyiterator_next_1 _))))
 refine wpAny_bind (qes T (wpAny_pure (wpAny_bind (wpAny_fieldsOf g1 g3 ?_))))
 simp only[no,Bool.false_eq_true,if_false]
 show wpAny _ _ (ite ((Value.ref d==Value.none)=true) _ _) _ _ s
 rw[if_neg (show ¬ (Value.ref d==Value.none)=true from λz=>by cases z)]
 refine wpAny_bind (wpAny_pure (wpAny_bind (wpAny_dictEntries h1 h2 ?_)))
 rw[if_neg (λz=>by simp at z)]
 refine wpAny_bind (wpAny_pure (wpAny_bind (wpAny_dictEpoch h1 h2 ?_)))
 rw[if_neg (λz=>by simp at z)]
 refine wpAny_pure ?_
 simp only[show ¬ (i:Int)<0 from by lia,if_false,Int.toNat_natCast,Array.getElem?_eq_none ge]
 refine wpAny_bind (wpAny_bind (qes T (wpAny_pure ?_)))
 show wpAny _ _ (setField (.ref it) 0 .none >>= λ_=>_) _ _ s
 refine wpAny_bind (wpAny_setField g1 g3 (by simp) ?_)
 show wpAny _ _ (newExc (.type "StopIteration") [] >>= λ_=>_) _ _ _
 refine wpAny_bind ?_
 simp only[newExc,newTuple]
 refine wpAny_bind (wpAny_newObj_type (wpAny_bind (m:=firstArgMember _ _) (wpAny_of_eq (a:=Value.none) (by first|rfl|(simp only[firstArgMember];rfl)) (wpAny_newObj_type ?_ (by size_fits)))) (by size_fits))
 simp only[raiseNew]
 refine(wpAny_bind (wpAny_handled ?_))
 rw[(show A.in1.handled=none from hh)]
 refine(wpAny_bind (wpAny_pure (wpAny_throw ?_)))
 exact wpAny_bind (wpAny_isInstance (T:="StopIteration") (b:=true) ⟨_,Heap.get?_push_size _ rfl,rfl⟩ isSubtype_stop (wpAny_pure (fin _ (((Heap.SameBut.update ..).extBut.push _).push _))))
theorem qvn(hh:A.handled=none)(I d:Addr)(ne:d≠I)(es:Array DictEntry)(ep:Nat) :
  Walks prog w A I [I,d] [I] es.size (λi v=>es[i]?.map (·.key)=some v) (λi h=>h.IsKeyIter I d i es.size ep/\RawD h d es ep) where
 sub:=λb hb=>by
  cases List.mem_singleton.mp hb
  exact List.mem_cons_self ..
 frame:=λ_ _ _ st k=>⟨st.1.at λo e=>k I (List.mem_cons_self ..) o e,st.2.keep λo e=>k d (by simp) o e⟩
 item:=λi s Q E lt st fin=>by
  have e:es[i]?.map (·.key)=some es[i].key:=by rw[Array.getElem?_eq_getElem lt];rfl
  exact qxl st.1 st.2 e λh' K' sb=>fin _ h' s.toks e ⟨K',st.2.keep λo z=>sb.extBut d o ne z⟩ λb o nb z=>sb.extBut b o (λy=>nb (by simp[y])) z
 done:=λs Q E st fin=>q2b hh st.1 st.2 (Nat.le_refl _) λh' x=>fin h' s.toks λb o nb z=>x b o (λy=>nb (by simp[y])) z
 self:=λ_ _ _ _ st q=>wpAny_pyIter_keyiter st.1 q
theorem q2n(no:(d==sysModules)=false):PySem.W.KdlSrc prog w "dict" d d es.size (λi v=>es[i]?.map (·.key)=some v) (λh=>RawD h d es ep) where
 type:=λ_ x=>x.typeIs
 there:=λ_ x=>let ⟨_,e,_⟩:=x;⟨Heap.lt_size e,Heap.lt_size e⟩
 keep:=λ_ _ x k=>x.keep λo e=>k d (.inl rfl) o e
 notList:=by decide
 notTuple:=by decide
 hint:=λ_ _ _ _ x q=>PySem.W.kdl_hint_dict x.typeIs q
 iter:=λ_ _ hh x=>⟨_,_,(λ_ _ q=>qxm no x q),qvn hh _ d (let ⟨_,e,_⟩:=x;Nat.ne_of_lt (Heap.lt_size e)) es ep,⟨⟨_,Heap.get?_push_size _ rfl,rfl,rfl⟩,x.keep λ_ e=>Heap.get?_push_of_some _ e⟩⟩
end
end PySem
namespace L2
open PySem PySem.Spec PyProof.Rows
section
variable {X:Cx}
theorem qlt{α β:Type}{F:α->β->Prop}:∀ {l:List α} {m:List β} {i:Nat} {b:β},Paired F l m->m[i]?=some b->∃a,l[i]?=some a/\F a b
|_,_,_,_,.nil,e=>by simp at e
|_,_,0,_,.cons h _,e=>by
  have e':=Option.some.inj e
  subst e'
  exact⟨_,rfl,h⟩
|_,_,i+1,b,.cons _ t,e=>by
  obtain⟨a,h1,h2⟩:=qlt (i:=i) (b:=b) t (by simpa using e)
  exact⟨a,by simpa using h1,h2⟩
theorem q3s{P:Program}{w:World}{H:Hp}{h:Heap}{a:Addr}{kvs:List (List Key×V)}(ok:HOk P w H h)(e:Rd H a (.dT kvs)):kvs.length<=sizeLine/\(a==sysModules)=false/\∃es ep,RawD h a es ep/\es.size=kvs.length /\
  ∀(i:Nat) (u:Value),es[i]?.map (·.key)=some u->∃(b:Addr) (k:List Key),u=.ref b/\kvs[i]?.map (·.1)=some k/\H b=some (.tup (k.map kV)):=by
 obtain⟨z,y,xs,r,o,es,ep,h1,h2,h3,h4,_⟩:=qp8 ok e
 have hl:es.size=xs.length:=by rw[←Array.length_toList,h4,List.length_map]
 refine⟨z,y,es,ep,⟨o,h1,h2,h3⟩,by rw[hl,←Paired.length r],λi u q=>?_⟩
 have ei:es[i]?=(xs[i]?).map (entryOfKey (tupleKind (qbu P w))):=by rw[←Array.getElem?_toList,h4,List.getElem?_map]
 rw[ei] at q
 cases hx:xs[i]? with
|none=>rw[hx] at q;cases q
|some p =>
  rw[hx] at q
  have eu:Value.ref p.2.1=u:=Option.some.inj q
  obtain⟨kv,hkv,e1,e2,_⟩:=qlt r hx
  exact⟨p.2.1,kv.1,eu.symm,by rw[hkv];rfl,by rw[e1] at e2 ⊢;exact e2⟩
theorem qk4(hh:X.A.handled=none):CallR X (.type "list") (λxs H Q=>∃a kvs,xs=[.ref a]/\Rd H a (.dT kvs)/\∀(l:Addr) (bs:List Addr),H l=none->bs.length=kvs.length ->
  (∀(i:Nat) (b:Addr),bs[i]?=some b->∃k,kvs[i]?.map (·.1)=some k/\H b=some (.tup (k.map kV)))->Q (.ref l) (upd H l (.lst (bs.map V.ref)))):=by
 intro pins s σ H xs us Q I r h
 obtain⟨a,kvs,rfl,e,q⟩:=h
 obtain⟨u,rfl,ru⟩:=vals1 r
 cases ru
 obtain⟨z,no,es,ep,raw,hs,hk⟩:=q3s I.hok e
 refine PySem.W.kdl_call (q2n (ep:=ep) (es:=es) no) hh raw (by rw[hs];exact z) λh' tk acc c keep new its=>?_
 have refs:∀vs:List Value,(∀v∈vs,∃b,v=Value.ref b)->∃bs:List Addr,vs=bs.map Value.ref:=λvs=>by
  induction vs with
 |nil=>exact λ_=>⟨[],rfl⟩
 |cons v vs ih =>
   intro hv
   obtain⟨b,rfl⟩:=hv v (List.mem_cons_self ..)
   obtain⟨bs,rfl⟩:=ih λy hy=>hv y (List.mem_cons_of_mem _ hy)
   exact⟨b::bs,rfl⟩
 obtain⟨hsz,hP⟩:=its
 obtain⟨bs,hbs⟩:=refs acc.toList λv hv=>by
  obtain⟨j,hj⟩:=List.mem_iff_getElem?.mp hv
  obtain⟨b,k,eb,_⟩:=hk j v (hP j v (by simpa using hj))
  exact⟨b,eb⟩
 have hacc:acc=(bs.map Value.ref).toArray:=by rw[←hbs]
 have hlen:bs.length=kvs.length:=by
  have:acc.size=bs.length:=by rw[hacc];simp
  lia
 have rel:∀bs:List Addr,Vals (bs.map V.ref) (bs.map Value.ref):=λbs=>by
  induction bs with
 |nil=>exact .nil
 |cons b bs ih=>exact .cons rfl ih
 refine⟨.ref s.heap.objs.size,upd H s.heap.objs.size (.lst (bs.map V.ref)),I.laid (t':=tk) keep (Nat.le_refl _) ⟨by rw[List.length_map];lia,bs.map Value.ref,c,rel bs,by rw[←hacc];exact new⟩,rfl,q _ bs (I.hok.fresh (Nat.le_refl _)) hlen λi b hb=>?_⟩
 obtain⟨b',k,eb,h1,h2⟩:=hk i (.ref b) (hP i (.ref b) (by rw[hacc];simp[hb]))
 cases eb
 exact⟨k,h1,h2⟩
end
section
variable {X:Cx} {K:PySem.W.Frag} {B H:Hp}
theorem Stp.tups(s:Same B H)(bs:List Addr)(h:∀b∈bs,∃xs,H b=some (.tup xs)):Stp B H (λa=>if a∈bs then H a else B a) H:=by
 refine⟨λa o e=>?_,Same.refl _,λa o e=>?_,λa z=>?_⟩
 ·show (if a∈bs then H a else B a)=some o
  split
  ·exact s _ _ e
  ·exact e
 ·have e':(if a∈bs then H a else B a)=some o:=e
  split at e'
  ·exact e'
  ·exact s _ _ e'
 ·by_cases q:a∈bs
  ·exact .inr (.inr (h a q))
  ·have z':(if a∈bs then H a else B a)≠none:=z
   rw[if_neg q] at z'
   exact .inl z'
theorem qlx:∀ {ks:List (List Str)} {bs:List Addr},bs.length=ks.length->(∀(i:Nat) (b:Addr) (k:List Str),bs[i]?=some b->ks[i]?=some k->B b=some (.tup (k.map V.str)))->Reps K B (ks.map λw=>.tup (w.map D.str)) (bs.map V.ref)
|[],[],_,_=>.nil
|[],_::_,h,_=>by simp at h
|_::_,[],h,_=>by simp at h
|k::ks,b::bs,h,q=>by
  refine .cons ?_ (qlx (by simpa using h) λi b' k' h1 h2=>q (i+1) b' k' (by simpa using h1) (by simpa using h2))
  unfold Rep
  exact⟨b,_,rfl,.inl (q 0 b k rfl rfl),by
   have:∀ss:List Str,Reps K B (ss.map D.str) (ss.map V.str):=λss=>by
    induction ss with
   |nil=>exact .nil
   |cons s ss ih=>exact .cons (qhr (d:=.str s) rfl) ih
   exact this k⟩
def ql5(rx:R)(Q:R->Prop):Prop:=match rx.d with
|.dT ks _=>Q (.own (.lst (ks.map λw=>.tup (w.map D.str))))
|_=>False
theorem qye(hh:X.A.handled=none):VF X (.type "list") ql5:=by
 refine⟨_,qk4 hh,λB H x rx Q Qd s px h k=>?_⟩
 unfold ql5 at h
 split at h
 ·rename_i ks ds e1
  obtain⟨ad,kvs,rfl,hd,hk,hr⟩:=px.dT s e1
  refine⟨ad,kvs,rfl,hd,λl bs hl hlen hb=>?_⟩
  have hkl:ks.length=kvs.length:=by simpa using (congrArg List.length hk).symm
  have key:∀(i:Nat) (b:Addr) (k:List Str),bs[i]?=some b->ks[i]?=some k->H b=some (.tup (k.map V.str)):=λi b k h1 h2=>by
   obtain⟨k',h3,h4⟩:=hb i b h1
   have e:(kvs.map (·.1))[i]?=(ks.map wK)[i]?:=by rw[hk]
   rw[List.getElem?_map,List.getElem?_map,h3,h2] at e
   cases e
   rw[qu8] at h4
   exact h4
  have T:=Stp.tups s bs λb hm=>by
   obtain⟨i,hi⟩:=List.mem_iff_getElem?.mp hm
   obtain⟨k',_,h4⟩:=hb i b hi
   exact⟨_,h4⟩
  have hlB:(λa=>if a∈bs then H a else B a) l=none:=by
   show (if l∈bs then H l else B l)=none
   split
   ·exact hl
   ·exact s.free hl
  refine k (.own _) _ _ _ (T.trans (.grow T.s (qao hl (.lst (bs.map V.ref))))) ⟨l,rfl,hl,hlB,qcf (qlx (by lia) λi b w h1 h2=>?_)⟩ h
  show (if b∈bs then H b else B b)=_
  rw[if_pos (List.mem_of_getElem? h1)]
  exact key i b w h1 h2
 ·exact h.elim
end
end L2
namespace L2
open PySem PySem.Spec PyProof.Rows
section
variable {X:Cx} {EX:St->XK} {K:PySem.W.Frag} {B H B' H' H0 B0:Hp} {e a:Expr} {es:List Expr} {te ta:TV} {tA:TVA} {pos p np cpos:Pos} {x:Str} {t:TVS} {τ:VSt} {σ:St}
theorem clsOf.inj{n:Str}{C C':Addr}(h:clsOf K n C)(h':clsOf K n C'):C=C':=by
 unfold clsOf at h h'
 rw[h] at h'
 cases h'
 rfl
theorem qcn{k:Nat}{ps:List Str}{g:DP}(C:CalX X.prog X.w X.K X.mg X.base k x ps (spOf X.K g))(o:Out X EX)(hr:Room k X.A)(hg:Gl X x)(ha:VA X EX (e::es) tA)(hx:X.ex=[]:=by rfl)(hp:(e::es).all qav=true:=by rfl)(hdb:(x==("__debug__" : Str))=false:=by decide) :
  VE X EX (.Call (.Name x p) (e::es) [] pos) (qeo g tA) :=
 let ⟨_,a1,a2⟩:=ha.u;⟨_,qt8 C o hr hg a1 hx hp hdb,λH0 B H τ σ Q Qd s S h xc k=>a2 H0 B H τ σ _ _ s S h xc λds vs B1 H1 p q h1 =>
  ⟨ds,B1,Qd,p.s,by rw[List.append_nil];exact q,h1,λn C B' H' hq p2 c=>xc n C B' H' (p.trans p2) c hq,λr v B2 H2 hq p2 q2=>k r v B2 H2 (p.trans p2) (q2.back p.h) hq⟩⟩
def XCls(K:PySem.W.Frag)(mg:Str->Option Value)(n:Str):Prop:=∃C,mg n=some (.ref C)/\clsOf K n C/\OwnX K C
def qd7(n:Str)(tA:TVA):TVS:=λDv τ=>tA τ λa=>exI τ Dv a λds=>ds.length<=sizeLine/\Dv.xc τ n
theorem qdh(u:XCls X.K X.mg x)(hg:Gl X x)(hc:X.calm=true)(o:Out X EX)(ha:VA X EX (e::es) tA)(hx:X.ex=[]:=by rfl)(hp:(e::es).all qav=true:=by rfl)(hdb:(x==("__debug__" : Str))=false:=by decide) :
  VS X EX (.Raise (some (.Call (.Name x np) (e::es) [] cpos)) none pos) (qd7 x tA):=by
 obtain⟨C,hm,hk,q⟩:=u
 obtain⟨_,a1,a2⟩:=ha.u
 exact⟨_,qxh q hm hg hc o a1 hx hp hdb,λB0 H0 B H τ σ Dv Dh p S h E=>a2 H0 B H τ σ _ _ p.s S h (E.raised p S) λds vs B1 H1 p1 q1 h1 =>
  ⟨by rw[←q1.length];exact h1.1,E.xc B1 H1 τ σ x C (p.trans p1) (S.step p1) hk h1.2⟩⟩
def canS(K:PySem.W.Frag)(EX:St->XK)(t:TVS):TS:=λDh σ H=>∃B0 H0 B τ Dv,Stp B0 H0 B H/\Slots K H0 B H τ σ/\t Dv τ/\EndsOk K EX B0 H0 Dv Dh
theorem VSs.can{st:List Stmt}(h:VSs X EX st t):QSs X st (canS X.K EX t):=let ⟨_,a1,a2⟩:=h.u;⟨λpins s σ H D I ⟨B0,H0,B,τ,Dv,q1,q2,q3,q4⟩=>a1.u pins s σ H D I (a2 B0 H0 B H τ σ Dv D q1 q2 q3 q4)⟩
abbrev THD:=Str->TVS
def RfH(K:PySem.W.Frag)(EX:St->XK)(th:TH)(td:THD):Prop:=∀(B0 H0 B H:Hp) (τ:VSt) (σ:St) (n:Str) (C:Addr) (Dv:VEnds) (Dh:Ends),Stp B0 H0 B H->Slots K H0 B H τ σ->clsOf K n C->td n Dv τ->EndsOk K EX B0 H0 Dv Dh->th (.ref C) Dh σ H
structure VH(X:Cx)(EX:St->XK)(hs:List ExceptHandler)(td:THD):Prop where
 u:∃th,QH X hs th/\RfH X.K EX th td
def vTry(t:TVS)(td:THD):TVS:=λDv τ=>t { nx:=Dv.nx,rt:=Dv.rt,bk:=Dv.bk,ct:=Dv.ct,xc:=λτ' n=>td n Dv τ',rn:=Dv.rn } τ
theorem q6m{body:List Stmt}{h0:ExceptHandler}{rest:List ExceptHandler}{td:THD}(hb:∀pn E EX',PassesOwn (model X.prog X.w) X.A X.env E->Out (X.tryB pn E) EX'->VSs (X.tryB pn E) EX' body t)(hh:VH X EX (h0::rest) td)(hst:X.stack=X.env::X.outer:=by rfl)
  (hfr:X.env.frame=some X.env.locals:=by rfl) (hx:X.ex=[]:=by rfl):VS X EX (.Try body (h0::rest) [] [] pos) (vTry t td) :=
 let ⟨_,a1,a2⟩:=hh.u;⟨_,q5k (tb:=λEX'=>canS X.K EX' t) (λpn E EX' po o=>(hb pn E EX' po o).can) a1 hst hfr hx,λB0 H0 B H τ σ Dv Dh p S h E =>
  ⟨B0,H0,B,τ,_,p,S,h,E.nx,E.rt,E.bk,E.ct,λB1 H1 τ1 σ1 n C q1 q2 q3 q4=>a2 B0 H0 B1 H1 τ1 σ1 n C Dv Dh q1 q2 q3 q4 E,λ_ _ _ _ _ _ _ _ _ _ h=>h.elim,E.rn⟩⟩
def q6i:THD:=λ_ _ _=>False
theorem q6j:VH X EX [] q6i:=⟨_,q5g,λ_ _ _ _ _ _ _ _ _ _ _ _ _ h=>h.elim⟩
def q6w(K:PySem.W.Frag)(mg:Str->Option Value)(x:Str)(yes no:List Str):Prop:=∃c,mg x=some c/\(∀n∈yes,∀C,clsOf K n C->PySem.W.exmOne K (.ref C) c=some true)/\∀n∈no,∀C,clsOf K n C->PySem.W.exmOne K (.ref C) c=some false
def VEnds.calm(Dv:VEnds):VEnds:={ nx:=Dv.nx,rt:=Dv.rt,bk:=Dv.bk,ct:=Dv.ct }
theorem EndsOk.calm{Dv:VEnds}{Dh:Ends}(E:EndsOk K EX B0 H0 Dv Dh):EndsOk K EX0 B0 H0 Dv.calm Dh:=⟨E.nx,E.rt,E.bk,E.ct,λ_ _ _ _ _ _ _ _ _ h=>h.elim,λ_ _ _ _ _ _ _ _ _ _ h=>h.elim,λ_ _ _ _ _ _ _ h=>h.elim⟩
def qpp(yes no:List Str)(t:TVS)(td:THD):THD:=λn Dv τ=>(n∈yes/\t Dv.calm τ)\/(n∈no/\td n Dv τ)
theorem qod{b0:Stmt}{suite:List Stmt}{rest:List ExceptHandler}{td:THD}{yes no:List Str}(u:q6w X.K X.mg x yes no)(hg:Gl X x)(hs:∀e pn E,VSs (X.hand e pn E) EX0 (b0::suite) t)(hr:VH X EX rest td)(hdb:(x==("__debug__" : Str))=false:=by decide) :
  VH X EX (.ExceptHandler (some (.Name x np)) none (b0::suite) pos::rest) (qpp yes no t td):=by
 obtain⟨c,hm,hy,hn⟩:=u
 obtain⟨_,a1,a2⟩:=hr.u
 refine⟨_,q12 (t:=canS X.K EX0 t) hm hg (λe pn E=>(hs e pn E).can) a1 hdb,λB0 H0 B H τ σ n C Dv Dh p S hc h E=>?_⟩
 rcases h with ⟨h1,h2⟩|⟨h1,h2⟩
 ·exact⟨true,hy n h1 C hc,iteT ⟨B0,H0,B,τ,_,p,S,h2,E.calm⟩⟩
 ·exact⟨false,hn n h1 C hc,iteF (a2 B0 H0 B H τ σ n C Dv Dh p S hc h2 E)⟩
def VEnds.wiped(Dv:VEnds):VEnds:={ nx:=λτ=>Dv.nx (List.replicate τ.length none),rt:=Dv.rt,bk:=λτ=>Dv.bk (List.replicate τ.length none),ct:=λτ=>Dv.ct (List.replicate τ.length none) }
theorem Fun.okVX{P:Program}{w:World}{mg:Str->Option Value}{base:Heap}{x qual:Str}{st:Stmt}{f:Addr}{fd:FuncData}{N ps:List Str}{k:Nat}{g:DP}(F:Fun K x qual st f fd)(S:FnScope N ps (qae st))(len:∀ds Q,g ds Q->ds.length=ps.length)
  (hbody:∀(cdv:Value) (A:Around) (outer:List Env) (s:Shared) (H:Hp) (E:XK),Room k (A.deeper (envOfC qual (qae st) s.heap.objs.size f cdv))->Out (cxOf (CXR P w) P w K mg base N qual (qae st) f cdv A outer s H E) (λ_=>E) ->
   ∃t,VSs (cxOf (CXR P w) P w K mg base N qual (qae st) f cdv A outer s H E) (λ_=>E) (qbg st) t/\∀ds Q,g ds Q->t { nx:=λ_=>Q (.val .non),rt:=Q,xc:=λ_ n=>Q (.exc n) } (qam N ds)):FnOk P w K mg base (CXR P w) (k+1) f fd ps (spOf K g):=by
 refine F.okX S (λvs H Q E h=>?_) (λcdv A outer s H vs Q E hr h o=>?_)
 ·obtain⟨ds,B,Qd,_,rp,hg,_,_⟩:=h
  rw[←rp.length]
  exact len ds Qd hg
 ·obtain⟨ds,B,Qd,sm,rp,hg,kx,kk⟩:=h
  obtain⟨t,⟨ts,q1,q2⟩,ht⟩:=hbody cdv A outer s H E hr o
  refine⟨ts,q1,q2 B H B H (qam N ds) (start N vs) _ _ (.refl sm) ?_ (ht ds Qd hg) ⟨λB' H' τ σ p S h=>kk (.val .non) .non B' H' h p (repV rfl),λr v B' H' p hr h=>kk r v B' H' h p hr,λ_ _ _ _ _ _ h=>h.elim,λ_ _ _ _ _ _ h=>h.elim,λB' H' τ σ n C p S c h=>kx n C B' H' h p c,λ_ _ _ _ _ _ _ _ _ _ h=>h.elim,λ_ _ _ _ _ _ _ h=>h.elim⟩⟩
  unfold qam start
  rw[rp.length]
  exact(qdu rp).more _
theorem qiu{P:Addr->Prop}:∀n∈([]:List Str),∀C,clsOf K n C->P C:=λ_ h=>by cases h
theorem qa5{P:Addr->Prop}{m:Str}{E:Addr}{l:List Str}(k:clsOf K m E)(q:P E)(r:∀n∈l,∀C,clsOf K n C->P C):∀n∈m::l,∀C,clsOf K n C->P C:=λn h C c=>by
 rcases List.mem_cons.mp h with rfl|h
 ·cases clsOf.inj c k
  exact q
 ·exact r n h C c
end
end L2
namespace L2
open PySem PySem.Spec PyProof.Rows Builtin.Str
section
variable {X:Cx}
theorem qma:∀(l:List (Str×Tok)),Vals ((l.map (·.1)).map V.str) (strValues l)
|[]=>.nil
|p::l=>.cons ⟨p.2,rfl⟩ (qma l)
theorem qjv:MtM X "str.startswith" (λx vs H Q=>∃a b,x=.str a/\vs=[.str b]/\Q (.bl (Txt.startswith a b)) H):=by
 intro pins s σ H x vs v us Q I rx rv h
 obtain⟨a,b,rfl,rfl,q⟩:=h
 obtain⟨t,rfl⟩:=rx
 obtain⟨u,rfl,⟨t',rfl⟩⟩:=rv.one
 exact SC.startswith ⟨.bl _,H,I,rfl,q⟩
theorem qwm:MtM X "str.split" (λx vs H Q=>∃a b,x=.str a/\vs=[.str b]/\(b.length==0)=false/\a.length<=sizeLine/\(Txt.split a b).length<=sizeLine/\∀l,H l=none->Q (.ref l) (upd H l (.lst ((Txt.split a b).map V.str)))):=by
 intro pins s σ H x vs v us Q I rx rv h
 obtain⟨a,b,rfl,rfl,hb,ha,hz,q⟩:=h
 obtain⟨t,rfl⟩:=rx
 obtain⟨u,rfl,⟨t',rfl⟩⟩:=rv.one
 cases h1:(decide (a.length<b.length)||decide (strKind a<strKind b))
 ·cases hf:(occurrences a b 0 a.length (a.length+1)).isEmpty
  ·have e:Txt.split a b=partsBetween a (occurrences a b 0 a.length (a.length+1)) b.length:=by
    unfold Txt.split
    rw[h1,hf,if_neg Bool.false_ne_true,if_neg Bool.false_ne_true]
   refine call_meets F.slot_str_split (typeIs_str _ _ _) F.entry_str_split (F.args_str_split_2 _ _) (meets_str_split_sep a b t t' h1 hb hf ha (by rw[←e];exact hz)) ?_
   rw[strsFrom_eq,←e]
   have r:=qma (numbered s.toks (Txt.split a b))
   rw[numbered_texts] at r
   exact⟨.ref _,_,I.lnew (t':=_) r (by rw[List.length_map];exact hz),rfl,q _ I.fresh⟩
  ·have e:Txt.split a b=[a]:=by
    unfold Txt.split
    rw[h1,hf,if_neg Bool.false_ne_true,if_pos rfl]
   rw[e] at q
   exact call_meets F.slot_str_split (typeIs_str _ _ _) F.entry_str_split (F.args_str_split_2 _ _) (meets_str_split_not_found a b t t' h1 hb hf) ⟨.ref _,_,I.lnew (t':=s.toks) (ys:=[.str a]) (its:=[.str a t]) (.cons ⟨t,rfl⟩ .nil) (show 1<=sizeLine by decide),rfl,q _ I.fresh⟩
 ·have e:Txt.split a b=[a]:=by
   unfold Txt.split
   rw[h1,if_pos rfl]
  rw[e] at q
  exact call_meets F.slot_str_split (typeIs_str _ _ _) F.entry_str_split (F.args_str_split_2 _ _) (meets_str_split_cannot_occur a b t t' h1) ⟨.ref _,_,I.lnew (t':=s.toks) (ys:=[.str a]) (its:=[.str a t]) (.cons ⟨t,rfl⟩ .nil) (show 1<=sizeLine by decide),rfl,q _ I.fresh⟩
end
section
variable {X:Cx} {EX:St->XK} {o e:Expr} {to te:TV} {apos cpos:Pos}
def qkj(to te:TV):TV:=λτ Q=>to τ λrs=>match rs.d with
|.str a=>te τ λrt=>∃b,rt.d=.str b/\Q (.val (.bl (Txt.startswith a b)))
|_=>False
theorem quz(ho:VE X EX o to)(h:VE X EX e te)(hp:qav e=true:=by rfl)(hbase:attributeBase o "startswith" X.env (eval o X.env)=eval o X.env:=by rfl)(hline:(apos.endLine==cpos.line)=true:=by rfl) :
  VE X EX (.Call (.Attribute o "startswith" apos) [e] [] cpos) (qkj to te) :=
 let ⟨_,o1,o2⟩:=ho.u;let ⟨_,a1,a2⟩:=h.u;⟨_,qbm PySem.F.plainAttrs_str PySem.F.slot_str_startswith PySem.F.type_str_startswith qjv o1 (qac a1 qd5 hp) (by simp[hp]) rfl hbase hline,λH0 B H τ σ Q Qd s S h xc k =>
  o2 H0 B H τ σ _ _ s S h (xno λ_ q=>q) λrs vs B1 H1 p1 q1 h1=>by
   split at h1
   ·rename_i a es
    cases q1.pk.scal (z:=.str a) (by rw[es];rfl)
    refine⟨rfl,a2 H0 B1 H1 τ σ _ _ p1.s (S.step p1) h1 (xno λ_ ⟨_,q,_⟩=>by cases q) λrl vl B2 H2 p2 q2 h2=>?_⟩
    obtain⟨b,el,hq⟩:=h2
    cases q2.pk.scal (z:=.str b) (by rw[el];rfl)
    exact⟨a,b,rfl,rfl,k _ _ B2 H2 (p1.trans p2) (repV rfl) hq⟩
   ·exact h1.elim⟩
def qpk(to te:TV):TV:=λτ Q=>to τ λrs=>match rs.d with
|.str a=>te τ λrt=>∃b,rt.d=.str b/\(b.length==0)=false/\a.length<=sizeLine/\(Txt.split a b).length<=sizeLine/\Q (.own (.lst ((Txt.split a b).map D.str)))
|_=>False
theorem qhs{K:PySem.W.Frag}{B:Hp}:∀ss:List Str,Reps K B (ss.map D.str) (ss.map V.str)
|[]=>.nil
|s::ss=>.cons (qhr (d:=.str s) rfl) (qhs ss)
theorem qyd(ho:VE X EX o to)(h:VE X EX e te)(hp:qav e=true:=by rfl)(hbase:attributeBase o "split" X.env (eval o X.env)=eval o X.env:=by rfl)(hline:(apos.endLine==cpos.line)=true:=by rfl) :
  VE X EX (.Call (.Attribute o "split" apos) [e] [] cpos) (qpk to te) :=
 let ⟨_,o1,o2⟩:=ho.u;let ⟨_,a1,a2⟩:=h.u;⟨_,qbm PySem.F.plainAttrs_str PySem.F.slot_str_split PySem.F.type_str_split qwm o1 (qac a1 qd5 hp) (by simp[hp]) rfl hbase hline,λH0 B H τ σ Q Qd s S h xc k =>
  o2 H0 B H τ σ _ _ s S h (xno λ_ q=>q) λrs vs B1 H1 p1 q1 h1=>by
   split at h1
   ·rename_i a es
    cases q1.pk.scal (z:=.str a) (by rw[es];rfl)
    refine⟨rfl,a2 H0 B1 H1 τ σ _ _ p1.s (S.step p1) h1 (xno λ_ ⟨_,q,_⟩=>by cases q) λrl vl B2 H2 p2 q2 h2=>?_⟩
    obtain⟨b,el,hb,ha,hz,hq⟩:=h2
    cases q2.pk.scal (z:=.str b) (by rw[el];rfl)
    have pp:=p1.trans p2
    exact⟨a,b,rfl,rfl,hb,ha,hz,λl hl=>k (.own _) _ B2 _ (pp.trans (.grow p2.s (qao hl _))) ⟨l,rfl,pp.h.free hl,p2.s.free hl,qcf (qhs _)⟩ hq⟩
   ·exact h1.elim⟩
end
def sp(c:Nat):List Nat->List (List Nat)
|[]=>[[]]
|x::xs=>if x=c then []::sp c xs else match sp c xs with
 |[]=>[[x]]
 |p::ps=>(x::p)::ps
theorem q7q(c:Nat):∀xs,sp c xs≠[]
|[]=>by unfold sp;exact λh=>by cases h
|x::xs=>by
  unfold sp
  split
  ·exact λh=>by cases h
  ·split<;>exact λh=>by cases h
theorem qn4(c:Nat):∀xs:List Nat,c∉xs->sp c xs=[xs]
|[],_=>rfl
|x::xs,h=>by
  unfold sp
  rw[if_neg (λe=>h (by simp[e])),qn4 c xs λz=>h (List.mem_cons_of_mem _ z)]
theorem quj(c:Nat):∀(pre post:List Nat),c∉pre->sp c (pre++c::post)=pre::sp c post
|[],post,_=>by
  show sp c (c::post)=_
  rw[sp,if_pos rfl]
|x::pre,post,h=>by
  show sp c (x::(pre++c::post))=_
  rw[sp,if_neg (λe=>h (by simp[e])),quj c pre post λz=>h (List.mem_cons_of_mem _ z)]
theorem qjz(s:Str)(c n lim:Nat)(hn:s.length=n):∀(l:List Nat) (a:Nat) (st:Array Nat×Nat),l=List.range' a (n+1-a)->a<=n+1->st.2<=a->st.1.size+(n+1-a)<=lim ->
  (forIn l st (StrLaws.occBody s ⟨#[c]⟩ n lim)).run.fst.toList=st.1.toList++((List.range' a (n-a)).filter λi=>s.cps[i]?==some c)
|[],a,st,hl,ha,h2,h3=>by
  have e:n+1-a=0:=by simpa using congrArg List.length hl.symm
  have e2:n-a=0:=by lia
  rw[e2]
  simp
|x::l,a,st,hl,ha,h2,h3=>by
  have ea:n+1-a=(n-a)+1:=by
   have:=congrArg List.length hl
   simp at this
   lia
  rw[ea,List.range'_succ] at hl
  injection hl with e1 e2
  subst e1
  rw[List.forIn_cons]
  have el:l=List.range' (x+1) (n+1-(x+1)):=by rw[e2];congr 1;lia
  have one:(⟨#[c]⟩:Str).length=1:=rfl
  by_cases hx:x<n
  ·have er:List.range' x (n-x)=x::List.range' (x+1) (n-(x+1)):=by
    have:n-x=(n-(x+1))+1:=by lia
    rw[this,List.range'_succ]
   have hs:x<s.cps.size:=by show x<s.length;lia
   have sub:subAt s ⟨#[c]⟩ x=(s.cps[x]?==some c):=by
    unfold subAt
    rw[one]
    have:s.cps.extract x (x+1)=#[s.cps[x]]:=by
     apply Array.ext
     ·simp;lia
     ·intro i h1 h2
      have:i=0:=by simp at h2;lia
      subst this
      simp
    rw[this,Array.getElem?_eq_getElem hs]
    apply qb5
    simp
   rw[er,List.filter_cons]
   unfold StrLaws.occBody
   rw[sub,one]
   by_cases hc:(s.cps[x]?==some c)=true
   ·rw[if_pos ⟨⟨⟨by lia,h2⟩,by lia⟩,hc⟩,if_pos hc]
    show (forIn l (st.1.push x,x+1) (StrLaws.occBody s ⟨#[c]⟩ n lim)).run.fst.toList=_
    rw[qjz s c n lim hn l (x+1) (st.1.push x,x+1) el (by lia) (Nat.le_refl _) (by simp;lia)]
    simp
   ·rw[if_neg (λz=>hc z.2),if_neg hc]
    show (forIn l (st.1,st.2) (StrLaws.occBody s ⟨#[c]⟩ n lim)).run.fst.toList=_
    rw[qjz s c n lim hn l (x+1) (st.1,st.2) el (by lia) (by show st.2<=x+1;lia) (by show st.1.size+_<=lim;lia)]
  ·have ex:x=n:=by lia
   have er:List.range' x (n-x)=[]:=by rw[show n-x=0 by lia];rfl
   rw[er]
   unfold StrLaws.occBody
   rw[one,if_neg (λz=>by have:=z.1.2;lia)]
   show (forIn l (st.1,st.2) (StrLaws.occBody s ⟨#[c]⟩ n lim)).run.fst.toList=_
   rw[qjz s c n lim hn l (x+1) (st.1,st.2) el (by lia) (by show st.2<=x+1;lia) (by show st.1.size+_<=lim;lia)]
   rw[show n-(x+1)=0 by lia]
   rfl
theorem q0w(s:Str)(c:Nat):occurrences s ⟨#[c]⟩ 0 s.length (s.length+1)=(List.range' 0 s.length).filter λi=>s.cps[i]?==some c:=by
 rw[StrLaws.occ_eq,qjz s c s.length (s.length+1) rfl _ 0 (#[],0) rfl (Nat.zero_le _) (Nat.le_refl _) (by simp)]
 simp
theorem qkd(s:Str)(a k:Nat):(strSub s a k).cps.toList=(s.cps.toList.drop a).take (k-a):=by
 unfold strSub
 simp[Array.toList_extract,List.extract]
theorem qj4(s:Str)(c:Nat):∀(m a:Nat),s.length-a=m->a<=s.length->∀(b:Nat),b<=a->c∉(s.cps.toList.drop b).take (a-b) ->
  (StrLaws.partsFrom s 1 b ((List.range' a m).filter λi=>s.cps[i]?==some c)).map (·.cps.toList)=sp c (s.cps.toList.drop b)
|0,a,hm,ha,b,hb,hf=>by
  have e:a=s.length:=by lia
  have el:s.cps.toList.length=s.length:=rfl
  show [(strSub s b s.length).cps.toList]=_
  rw[qkd,qn4]
  ·rw[List.take_of_length_le (by rw[List.length_drop,el];exact Nat.le_refl _)]
  ·rw[e,List.take_of_length_le (by rw[List.length_drop,el];exact Nat.le_refl _)] at hf
   exact hf
|m+1,a,hm,ha,b,hb,hf=>by
  have hs:a<s.cps.toList.length:=by show a<s.length;lia
  have hs':a<s.cps.size:=hs
  have ed:s.cps.toList.drop a=s.cps.toList[a]::s.cps.toList.drop (a+1):=List.drop_eq_getElem_cons hs
  have eb:s.cps.toList.drop b=(s.cps.toList.drop b).take (a-b)++s.cps.toList.drop a:=by
   have:(s.cps.toList.drop b).drop (a-b)=s.cps.toList.drop a:=by rw[List.drop_drop];congr 1;lia
   rw[←this,List.take_append_drop]
  have eg:s.cps[a]?=some s.cps.toList[a]:=by rw[Array.getElem?_eq_getElem hs'];rfl
  rw[List.range'_succ,List.filter_cons]
  by_cases hc:s.cps.toList[a]=c
  ·rw[if_pos (by rw[eg,hc];simp)]
   show (strSub s b a).cps.toList::(StrLaws.partsFrom s 1 (a+1) _).map (·.cps.toList)=_
   rw[qj4 s c m (a+1) (by lia) (by lia) (a+1) (Nat.le_refl _) (by simp),qkd]
   conv=>rhs;rw[eb,ed,hc,quj c _ _ hf]
  ·rw[if_neg (by rw[eg];simpa using hc)]
   refine qj4 s c m (a+1) (by lia) (by lia) b (by lia) ?_
   have e2:(s.cps.toList.drop b).take (a+1-b)=(s.cps.toList.drop b).take (a-b)++[s.cps.toList[a]]:=by
    rw[show a+1-b=(a-b)+1 by lia,List.take_succ]
    congr 1
    rw[List.getElem?_drop,show b+(a-b)=a by lia,List.getElem?_eq_getElem hs]
    rfl
   rw[e2,List.mem_append]
   rintro (z|z)
   ·exact hf z
   ·exact hc (List.mem_singleton.mp z).symm
theorem qwa{c:Nat}(h:c<256):Builtin.Str.strKind (⟨#[c]⟩:Str)=1:=by
 unfold Builtin.Str.strKind
 rw[if_pos (by simpa using h)]
theorem q0j(s:Str):1<=Builtin.Str.strKind s:=by
 unfold Builtin.Str.strKind
 repeat' split
 all_goals lia
theorem qxx(s:Str){c:Nat}(h:c<256):(Txt.split s ⟨#[c]⟩).map (·.cps.toList)=sp c s.cps.toList:=by
 have one:(⟨#[c]⟩:Str).length=1:=rfl
 unfold Txt.split
 by_cases h0:s.length=0
 ·rw[if_pos (by rw[one,h0];rfl)]
  have e:s.cps.toList=[]:=List.eq_nil_of_length_eq_zero h0
  show [s.cps.toList]=_
  rw[e]
  rfl
 ·rw[if_neg (by
   rw[one,qwa h]
   have:=q0j s
   simp
   lia),q0w]
  have hp:=qj4 s c s.length 0 (by lia) (Nat.zero_le _) 0 (Nat.le_refl _) (by simp)
  rw[List.drop_zero] at hp
  by_cases he:((List.range' 0 s.length).filter λi=>s.cps[i]?==some c).isEmpty=true
  ·rw[if_pos he]
   rw[List.isEmpty_iff.mp he] at hp
   rw[←hp]
   show [s.cps.toList]=[(strSub s 0 s.length).cps.toList]
   rw[qkd,List.drop_zero,List.take_of_length_le (show s.cps.toList.length<=s.length-0 from Nat.le_refl _)]
  ·rw[if_neg he,one,StrLaws.partsBetween_eq]
   exact hp
theorem q2h(a b:Nat):sliceRange a b 1=List.range' a (b-a):=by
 unfold sliceRange
 have e:(if (1:Int)>0 then (if (a:Int)<b then ((b:Int)-a+1-1) / 1 else 0) else (if (a:Int)>b then ((a:Int)-b-1-1) / (-1) else 0)).toNat=b-a:=by
  rw[if_pos (by decide)]
  split
  ·rw[Int.ediv_one];lia
  ·lia
 show (List.range _).map _=_
 rw[e,List.range'_eq_map_range]
 refine List.map_congr_left λk _=>?_
 lia
theorem q0b(l u:Option Int)(n:Nat):strSliceIndices l u 1 n=List.range' (HT.sIx n 0 l) (HT.sIx n n u-HT.sIx n 0 l):=by
 rw[←q2h]
 unfold strSliceIndices
 have c:∀(v:Int),max 0 (min (if v<0 then v+(n:Int) else v) n)=((HT.sIx n 0 (some v):Nat):Int):=λv=>by
  show _=(((if v<0 then (v+(n:Int)).toNat else min v.toNat n):Nat):Int)
  split<;>lia
 have c2:∀(v:Int),HT.sIx n n (some v)=HT.sIx n 0 (some v):=λ_=>rfl
 have go:∀(a b:Int) (x y:Nat),a=x->b=y->sliceRange a b 1=sliceRange x y 1:=λa b x y h1 h2=>by rw[h1,h2]
 cases l with
|none =>
  cases u with
 |none=>exact go _ _ _ _ rfl rfl
 |some v=>exact go _ _ _ _ rfl (by rw[c2,←c v];rfl)
|some v =>
  cases u with
 |none=>exact go _ _ _ _ (by rw[←c v];rfl) rfl
 |some w=>exact go _ _ _ _ (by rw[←c v];rfl) (by rw[c2,←c w];rfl)
theorem qoq(xs:Array Nat):∀(m a:Nat),a+m<=xs.size->(List.range' a m).filterMap (xs[·]?)=(xs.toList.drop a).take m
|0,a,_=>by simp
|m+1,a,h=>by
  have hs:a<xs.toList.length:=by show a<xs.size;lia
  rw[List.range'_succ,List.filterMap_cons,Array.getElem?_eq_getElem (show a<xs.size by lia)]
  show xs[a]::_=_
  rw[qoq xs m (a+1) (by lia),List.drop_eq_getElem_cons hs,List.take_succ_cons]
  rfl
theorem slice_list(z:Str)(l u:Option Int):(Txt.slice z l u).cps.toList=cutL z.cps.toList l u:=by
 unfold Txt.slice cutL
 have el:z.cps.toList.length=z.length:=rfl
 have h1:=HT.sIx_le z.length 0 (Nat.zero_le _) l
 have h2:=HT.sIx_le z.length z.length (Nat.le_refl _) u
 rw[q0b,el]
 by_cases h:HT.sIx z.length z.length u-HT.sIx z.length 0 l=z.length
 ·rw[if_pos (by simpa using h),h]
  have e0:HT.sIx z.length 0 l=0:=by lia
  rw[e0,List.drop_zero,List.take_of_length_le (Nat.le_of_eq el)]
 ·rw[if_neg (by simpa using h)]
  show List.filterMap _ _=_
  by_cases hz:HT.sIx z.length 0 l<=HT.sIx z.length z.length u
  ·exact qoq z.cps _ _ (by show _<=z.length;lia)
  ·rw[show HT.sIx z.length z.length u-HT.sIx z.length 0 l=0 by lia]
   simp
def mkS(l:List Nat):Str:=⟨l.toArray⟩
theorem qd2(z:Str):mkS z.cps.toList=z:=by unfold mkS;simp
theorem qto(l:List Nat):(mkS l).length=l.length:=by unfold mkS Str.length;simp
theorem qd4{a b:Str}(h:a.cps.toList=b.cps.toList):a=b:=by rw[←qd2 a,←qd2 b,h]
theorem qpc(s:Str){c:Nat}(h:c<256):Txt.split s ⟨#[c]⟩=(sp c s.cps.toList).map mkS:=by
 rw[←qxx s h,List.map_map]
 refine(List.map_id _).symm.trans (List.map_congr_left λz _=>?_)
 exact(qd2 z).symm
theorem qq7(s:Str)(c:Nat):Txt.startswith s ⟨#[c]⟩=(s.cps.toList.head?==some c):=by
 unfold Txt.startswith
 have one:(⟨#[c]⟩:Str).length=1:=rfl
 rw[one]
 cases hl:s.cps.toList with
|nil =>
  have e:s=mkS []:=by rw[←hl,qd2]
  rw[e]
  rfl
|cons x xs =>
  have e:s=mkS (x::xs):=by rw[←hl,qd2]
  have hsz:s.length=xs.length+1:=by rw[e,qto];rfl
  rw[decide_eq_true (by lia:0+1<=s.length),Bool.true_and]
  unfold subAt
  rw[one]
  have ex:s.cps.extract 0 (0+1)=#[x]:=by
   apply Array.toList_inj.mp
   rw[Array.toList_extract,hl]
   simp[List.extract]
  rw[ex]
  apply qb5
  simp
theorem qzb(c:Nat):∀xs:List Nat,(sp c xs).length<=xs.length+1
|[]=>Nat.le_refl _
|x::xs=>by
  have:=qzb c xs
  unfold sp
  split
  ·simp;lia
  ·split
   ·simp
   ·rename_i h
    rw[h] at this
    simp at this ⊢
    lia
theorem qpa(c:Nat):∀(xs:List Nat),∀p∈sp c xs,p.length<=xs.length
|[],p,h=>by
  have:p=[]:=by simpa [sp] using h
  rw[this]
  exact Nat.le_refl _
|x::xs,p,h=>by
  have ih:=qpa c xs
  unfold sp at h
  split at h
  ·rcases List.mem_cons.mp h with rfl|h
   ·simp
   ·have:=ih p h
    simp;lia
  ·split at h
   ·rename_i e
    exact absurd e (q7q c xs)
   ·rename_i q qs e
    rw[e] at ih
    rcases List.mem_cons.mp h with rfl|h
    ·have:=ih q (List.mem_cons_self ..)
     simp;lia
    ·have:=ih p (List.mem_cons_of_mem _ h)
     simp;lia
end L2
namespace L2
open PySem PySem.Spec PyProof.Rows
section
variable {X:Cx} {EX:St->XK} {K:PySem.W.Frag} {o e:Expr} {to te:TV} {apos cpos:Pos} {τ:VSt} {σ:St} {B H H0:Hp}
def q7n:R2:=λx y H Q=>∃a n,x=.str a/\y=.int n/\MulOk a n/\Q (.str (Txt.mul a n)) H
theorem q05:OpR X (binaryOp .Mult) q7n:=by
 intro pins s σ H x y v u Q I rx ry h
 obtain⟨a,n,rfl,rfl,hok,q⟩:=h
 obtain⟨t1,rfl⟩:=rx
 obtain⟨t2,rfl⟩:=ry
 exact SB.mul hok λt' k=>⟨.str _,H,I.tok _,⟨_,rfl⟩,q⟩
def qut(rx ry:R)(Q:R->Prop):Prop:=match rx.d,ry.d with
|.str a,.int n=>MulOk a n/\Q (.val (.str (Txt.mul a n)))
|_,_=>False
theorem q2z:VO X (binaryOp .Mult) qut:=⟨_,q05,λB H x y rx ry Q Qd s hx hy h k=>by
 unfold qut at h
 split at h
 ·rename_i a n e1 e2
  cases hx.scal (z:=.str a) (by rw[e1];rfl)
  cases hy.scal (z:=.int n) (by rw[e2];rfl)
  exact⟨a,n,rfl,rfl,h.1,k _ _ B H (.refl s) (repV rfl) h.2⟩
 ·exact h.elim⟩
end
end L2
namespace L2
open PySem PySem.W PyProof.Rows
section
variable {α β:Type}
def kRun(lt:Nat->Nat->Bool):KasT α->α
|.ret a=>a
|.ask i j k=>kRun lt (k (lt i j))
def kOk(n:Nat)(lt:Nat->Nat->Bool):KasT α->Prop
|.ret _=>True
|.ask i j k=>i<n/\j<n/\kOk n lt (k (lt i j))
theorem qce(lt:Nat->Nat->Bool)(f:α->KasT β):∀t:KasT α,kRun lt (t.bind f)=kRun lt (f (kRun lt t))
|.ret _=>rfl
|.ask i j k=>qce lt f (k (lt i j))
theorem qc6{n:Nat}{lt:Nat->Nat->Bool}{f:α->KasT β}:∀ {t:KasT α},kOk n lt t->kOk n lt (f (kRun lt t))->kOk n lt (t.bind f)
|.ret _,_,h=>h
|.ask i j k,⟨a,b,c⟩,h=>⟨a,b,qc6 c h⟩
theorem qeb{lt:Nat->Nat->Bool}{i j:Nat}{b:Bool}{k:Bool->KasT α}(e:lt i j=b):kRun lt (.ask i j k)=kRun lt (k b):=by
 show kRun lt (k (lt i j))=_
 rw[e]
theorem qgd{n:Nat}{lt:Nat->Nat->Bool}{i j:Nat}{b:Bool}{k:Bool->KasT α}(hi:i<n)(hj:j<n)(e:lt i j=b)(h:kOk n lt (k b)):kOk n lt (.ask i j k):=⟨hi,hj,by rw[e];exact h⟩
theorem qs7{cmp:Nat->Nat->(Bool->Shared->Prop)->Shared->Prop}{n:Nat}{lt:Nat->Nat->Bool}{P:Shared->Prop}{Q:α->Shared->Prop}(hc:∀i j C s,i<n->j<n->P s->(∀s',P s'->C (lt i j) s')->cmp i j C s) :
  ∀(t:KasT α) (s:Shared),kOk n lt t->P s->(∀s',P s'->Q (kRun lt t) s')->t.kasWp cmp Q s
|.ret _,s,_,hp,hq=>hq s hp
|.ask i j k,s,⟨hi,hj,hk⟩,hp,hq=>hc i j _ s hi hj hp λs' hp'=>qs7 hc (k (lt i j)) s' hk hp' hq
end
structure LtOk(n:Nat)(lt:Nat->Nat->Bool):Prop where
 tr:∀a b c,a<n->b<n->c<n->lt a b=true->lt b c=true->lt a c=true
 as:∀a b,a<n->b<n->lt a b=true->lt b a=false
 tot:∀a b,a<n->b<n->a≠b->lt a b=true\/lt b a=true
section
variable {n:Nat} {lt:Nat->Nat->Bool} {p:Array Nat}
structure PermOk(n:Nat)(p:Array Nat):Prop where
 sz:p.size=n
 lt:∀i,i<n->p.getD i 0<n
 inj:∀i j,i<n->j<n->p.getD i 0=p.getD j 0->i=j
theorem qc2(p:Array Nat)(i:Nat):p.getD i 0=(p[i]?).getD 0:=by
 by_cases h:i<p.size
 ·simp[Array.getD,h]
 ·simp[Array.getD,h]
theorem PermOk.of(hp:p.Perm (List.range n).toArray):PermOk n p where
 sz:=by rw[hp.size_eq];simp
 lt:=λi hi=>by
  have hs:p.size=n:=by rw[hp.size_eq];simp
  have hm:p[i]'(by lia)∈p:=Array.getElem_mem _
  have:p[i]'(by lia)∈(List.range n).toArray:=hp.mem_iff.mp hm
  rw[qc2,Array.getElem?_eq_getElem (by lia)]
  simpa using this
 inj:=λi j hi hj e=>by
  have hs:p.size=n:=by rw[hp.size_eq];simp
  have nd:p.toList.Nodup:=by
   have:=hp.toList
   rw[this.nodup_iff]
   simp[List.nodup_range]
  rw[qc2,qc2,Array.getElem?_eq_getElem (by lia),Array.getElem?_eq_getElem (by lia)] at e
  have e':p.toList[i]'(by simp;lia)=p.toList[j]'(by simp;lia):=by simpa using e
  exact(List.getElem_inj nd).mp e'
def SPr(lt:Nat->Nat->Bool)(p:Array Nat)(k:Nat):Prop:=∀i j,i<j->j<k->lt (p.getD i 0) (p.getD j 0)=true
def DPr(lt:Nat->Nat->Bool)(p:Array Nat)(k:Nat):Prop:=∀i j,i<j->j<k->lt (p.getD j 0) (p.getD i 0)=true
theorem SPr.snoc(L:LtOk n lt)(P:PermOk n p){k:Nat}(h:SPr lt p k)(hk:k<n)(h1:1<=k)(e:lt (p.getD k 0) (p.getD (k-1) 0)=false):SPr lt p (k+1):=λi j hi hj=>by
 have l1:lt (p.getD (k-1) 0) (p.getD k 0)=true:=by
  rcases L.tot _ _ (P.lt (k-1) (by lia)) (P.lt k hk) (λz=>by have:=P.inj _ _ (by lia) hk z;lia) with q|q
  ·exact q
  ·rw[e] at q;cases q
 by_cases hjk:j=k
 ·subst hjk
  by_cases hik:i=j-1
  ·rw[hik];exact l1
  ·exact L.tr _ _ _ (P.lt i (by lia)) (P.lt (j-1) (by lia)) (P.lt j hk) (h i (j-1) (by lia) (by lia)) l1
 ·exact h i j hi (by lia)
theorem DPr.snoc(L:LtOk n lt)(P:PermOk n p){k:Nat}(h:DPr lt p k)(hk:k<n)(h1:1<=k)(e:lt (p.getD k 0) (p.getD (k-1) 0)=true):DPr lt p (k+1):=λi j hi hj=>by
 by_cases hjk:j=k
 ·subst hjk
  by_cases hik:i=j-1
  ·rw[hik];exact e
  ·exact L.tr _ _ _ (P.lt j hk) (P.lt (j-1) (by lia)) (P.lt i (by lia)) e (h i (j-1) (by lia) (by lia))
 ·exact h i j hi (by lia)
theorem qrz(L:LtOk n lt)(P:PermOk n p):∀(f m:Nat),1<=m->m+f<=n->SPr lt p m->kOk n lt (kas_asc p f m)/\∃m',kRun lt (kas_asc p f m)=m'/\m<=m'/\m'<=m+f/\SPr lt p m'/\(m'=m+f\/lt (p.getD m' 0) (p.getD (m' - 1) 0)=true)
|0,m,h1,hf,hs=>⟨trivial,m,rfl,Nat.le_refl _,Nat.le_refl _,hs,.inl rfl⟩
|f+1,m,h1,hf,hs=>by
  cases e:lt (p.getD m 0) (p.getD (m-1) 0) with
 |true =>
   refine⟨qgd (P.lt m (by lia)) (P.lt (m-1) (by lia)) e ?_,m,(qeb e).trans ?_,Nat.le_refl _,by lia,hs,.inr e⟩
   ·trivial
   ·rfl
 |false =>
   obtain⟨a,m',r,b,c,d,g⟩:=qrz L P f (m+1) (by lia) (by lia) (hs.snoc L P (by lia) h1 e)
   refine⟨qgd (P.lt m (by lia)) (P.lt (m-1) (by lia)) e a,m',(qeb e).trans r,by lia,by lia,d,?_⟩
   rcases g with g|g
   ·left;lia
   ·exact .inr g
theorem qsi(L:LtOk n lt)(P:PermOk n p):∀(f m:Nat),1<=m->m+f<=n->DPr lt p m->kOk n lt (kas_desc f p m 0)/\∃m',kRun lt (kas_desc f p m 0)=(p,m',0)/\m<=m'/\m'<=m+f/\DPr lt p m'
|0,m,h1,hf,hs=>⟨trivial,m,rfl,Nat.le_refl _,Nat.le_refl _,hs⟩
|f+1,m,h1,hf,hs=>by
  cases e:lt (p.getD m 0) (p.getD (m-1) 0) with
 |true =>
   obtain⟨a,m',b,c,d,g⟩:=qsi L P f (m+1) (by lia) (by lia) (hs.snoc L P (by lia) h1 e)
   exact⟨qgd (P.lt m (by lia)) (P.lt (m-1) (by lia)) e a,m',(qeb e).trans b,by lia,by lia,g⟩
 |false =>
   have l1:lt (p.getD (m-1) 0) (p.getD m 0)=true:=by
    rcases L.tot _ _ (P.lt (m-1) (by lia)) (P.lt m (by lia)) (λz=>by have:=P.inj _ _ (by lia) (by lia) z;lia) with q|q
    ·exact q
    ·rw[e] at q;cases q
   exact⟨qgd (P.lt m (by lia)) (P.lt (m-1) (by lia)) e (qgd (P.lt (m-1) (by lia)) (P.lt m (by lia)) l1 trivial),m,(qeb e).trans ((qeb l1).trans rfl),Nat.le_refl _,by lia,hs⟩
theorem qhk{j:Nat}(hj:j<=p.size)(k:Nat):(kas_rev p 0 j).getD k 0=if k<j then p.getD (j-1-k) 0 else p.getD k 0:=by
 rw[qc2,kas_rev,getElem?_mirror_all hj k]
 by_cases h:k<j
 ·rw[if_pos ⟨Nat.zero_le _,h⟩,if_pos h,qc2,Nat.zero_add]
 ·rw[if_neg (λz=>h z.2),if_neg h,qc2]
theorem q2c{j:Nat}(hj:j<=p.size)(h:DPr lt p j):SPr lt (kas_rev p 0 j) j:=λa b hab hb=>by
 rw[qhk hj,qhk hj,if_pos (by lia),if_pos hb]
 exact h (j-1-b) (j-1-a) (by lia) (by lia)
theorem qx3(L:LtOk n lt)(hp:p.Perm (List.range n).toArray){m:Nat}(h1:1<=m)(hm:m<=n)(h:DPr lt p m):kOk n lt (kas_tail3 m n p)/\∃k q,kRun lt (kas_tail3 m n p)=(k,q)/\1<=k/\k<=n/\q.Perm p/\SPr lt q k:=by
 have hq:(kas_rev p 0 m).Perm p:=mirror_perm _ _ _ _
 have P:=PermOk.of (hq.trans hp)
 obtain⟨a,k,r,b,c,d,_⟩:=qrz L P (n-m) m h1 (by lia) (q2c (by rw[(PermOk.of hp).sz];exact hm) h)
 refine⟨qc6 a trivial,k,kas_rev p 0 m,?_,by lia,by lia,hq,d⟩
 unfold kas_tail3
 rw[qce,r]
 rfl
theorem qmr(L:LtOk n lt)(hp:p.Perm (List.range n).toArray){m:Nat}(hm:m+1<=n)(h:DPr lt p (m+1)):kOk n lt (kas_descPart m n p)/\∃k q,kRun lt (kas_descPart m n p)=(k,q)/\1<=k/\k<=n/\q.Perm p/\SPr lt q k:=by
 have P:=PermOk.of hp
 obtain⟨a,m',r,b,c,d⟩:=qsi L P (n-(m+1)) (m+1) (by lia) (by lia) h
 obtain⟨a2,k,q,r2,e⟩:=qx3 L hp (m:=m') (by lia) (by lia) d
 refine⟨qc6 a ?_,k,q,?_,e⟩
 ·rw[r]
  exact a2
 ·unfold kas_descPart
  rw[qce,r]
  exact r2
theorem qvx(L:LtOk n lt)(hp:p.Perm (List.range n).toArray)(h1:1<=n):kOk n lt (kas_count n p)/\∃m q,kRun lt (kas_count n p)=(m,q)/\1<=m/\m<=n/\q.Perm p/\SPr lt q m:=by
 have P:=PermOk.of hp
 obtain⟨a,m,r,b,c,d,g⟩:=qrz L P (n-1) 1 (Nat.le_refl _) (by lia) (λi j hi hj=>by lia)
 by_cases hn:m=n
 ·refine⟨qc6 a ?_,m,p,?_,b,by lia,.refl _,d⟩
  ·rw[r,if_pos (by simp[hn])]
   trivial
  ·unfold kas_count
   rw[qce,r,if_pos (by simp[hn])]
   rfl
 ·have ne:¬ (m==n)=true:=by simp[hn]
  by_cases hm:m>1
  ·have e:lt (p.getD 0 0) (p.getD (m-1) 0)=true:=d 0 (m-1) (by lia) (by lia)
   refine⟨qc6 a ?_,m,p,?_,b,by lia,.refl _,d⟩
   ·rw[r,if_neg ne,if_pos hm]
    exact qgd (P.lt 0 (by lia)) (P.lt (m-1) (by lia)) e trivial
   ·unfold kas_count
    rw[qce,r,if_neg ne,if_pos hm,qeb e]
    rfl
  ·have hm1:m=1:=by lia
   have e:lt (p.getD 1 0) (p.getD 0 0)=true:=by
    rcases g with g|g
    ·exact absurd (by lia) hn
    ·rw[hm1] at g;exact g
   have D2:DPr lt p (m+1):=λi j hi hj=>by
    have:i=0:=by lia
    have:j=1:=by lia
    subst_vars
    exact e
   obtain⟨a2,k,q,r2,e2⟩:=qmr L hp (m:=m) (by lia) D2
   refine⟨qc6 a ?_,k,q,?_,e2⟩
   ·rw[r,if_neg ne,if_neg hm]
    exact a2
   ·unfold kas_count
    rw[qce,r,if_neg ne,if_neg hm]
    exact r2
theorem qev(L:LtOk n lt)(P:PermOk n p){k:Nat}(hk:k<n):∀(f l r:Nat),l<=r->r<=k->r-l<=f->SPr lt p k->(∀i,i<l->lt (p.getD i 0) (p.getD k 0)=true)->(∀i,r<=i->i<k->lt (p.getD k 0) (p.getD i 0)=true) ->
  kOk n lt (kas_place p k f l r)/\∃l',kRun lt (kas_place p k f l r)=l'/\l'<=k/\(∀i,i<l'->lt (p.getD i 0) (p.getD k 0)=true)/\(∀i,l'<=i->i<k->lt (p.getD k 0) (p.getD i 0)=true)
|0,l,r,hlr,hrk,hf,hs,h1,h2=>by
  have:l=r:=by lia
  subst this
  exact⟨trivial,l,rfl,hrk,h1,h2⟩
|f+1,l,r,hlr,hrk,hf,hs,h1,h2=>by
  unfold kas_place
  by_cases hge:l≥r
  ·have:l=r:=by lia
   subst this
   rw[if_pos hge]
   exact⟨trivial,l,rfl,hrk,h1,h2⟩
  ·rw[if_neg hge]
   have hmk:(l+r) / 2<k:=by lia
   cases e:lt (p.getD k 0) (p.getD ((l+r) / 2) 0) with
  |true =>
    obtain⟨a,l',q,b,c,d⟩:=qev L P hk f l ((l+r) / 2) (by lia) (by lia) (by lia) hs h1 (λi hi hik=>by
     by_cases z:i=(l+r) / 2
     ·rw[z];exact e
     ·exact L.tr _ _ _ (P.lt k hk) (P.lt _ (by lia)) (P.lt i (by lia)) e (hs ((l+r) / 2) i (by lia) hik))
    exact⟨qgd (P.lt k hk) (P.lt _ (by lia)) e a,l',(qeb e).trans q,b,c,d⟩
  |false =>
    have l1:lt (p.getD ((l+r) / 2) 0) (p.getD k 0)=true:=by
     rcases L.tot _ _ (P.lt ((l+r) / 2) (by lia)) (P.lt k hk) (λz=>by have:=P.inj _ _ (by lia) hk z;lia) with q|q
     ·exact q
     ·rw[e] at q;cases q
    obtain⟨a,l',q,b,c,d⟩:=qev L P hk f ((l+r) / 2+1) r (by lia) hrk (by lia) hs (λi hi=>by
     by_cases z:i=(l+r) / 2
     ·rw[z];exact l1
     ·exact L.tr _ _ _ (P.lt i (by lia)) (P.lt ((l+r) / 2) (by lia)) (P.lt k hk) (hs i ((l+r) / 2) (by lia) hmk) l1) h2
    exact⟨qgd (P.lt k hk) (P.lt _ (by lia)) e a,l',(qeb e).trans q,b,c,d⟩
theorem qmo{src d:Nat}(hs:src<p.size)(hd:d<=src)(k:Nat):(bubble p src d).getD k 0=if k=src-d then p.getD src 0 else if src-d<k/\k<=src then p.getD (k-1) 0 else p.getD k 0:=by
 rw[qc2,getElem?_bubble hs d hd k]
 by_cases h1:k=src-d
 ·rw[if_pos h1,if_pos h1,qc2]
 ·rw[if_neg h1,if_neg h1]
  by_cases h2:src-d<k/\k<=src
  ·rw[if_pos h2,if_pos h2,qc2]
  ·rw[if_neg h2,if_neg h2,qc2]
theorem qyr(L:LtOk n lt):∀(f k:Nat) (p:Array Nat),p.Perm (List.range n).toArray->1<=k->k+f<=n->SPr lt p k->kOk n lt (kas_bin f p k)/\∃q,kRun lt (kas_bin f p k)=q/\q.Perm p/\SPr lt q (k+f)
|0,k,p,hp,h1,hf,hs=>⟨trivial,p,rfl,.refl _,hs⟩
|f+1,k,p,hp,h1,hf,hs=>by
  have P:=PermOk.of hp
  obtain⟨a,l,r,b,c,d⟩:=qev L P (k:=k) (by lia) k 0 k (Nat.zero_le _) (Nat.le_refl _) (by lia) hs (λi hi=>by lia) (λi hi hk=>by lia)
  have hq:(bubble p k (k-l)).Perm p:=bubble_perm _ _ _
  have G:=qmo (p:=p) (src:=k) (d:=k-l) (by rw[P.sz];lia) (by lia)
  have hs2:SPr lt (bubble p k (k-l)) (k+1):=λi j hi hj=>by
   rw[G i,G j]
   have ekl:k-(k-l)=l:=by lia
   rw[ekl]
   by_cases i1:i=l
   ·rw[if_pos i1,if_neg (by lia),if_pos (by lia)]
    exact d (j-1) (by lia) (by lia)
   ·rw[if_neg i1]
    by_cases j1:j=l
    ·rw[if_pos j1,if_neg (by lia)]
     exact c i (by lia)
    ·rw[if_neg j1]
     by_cases i2:l<i
     ·rw[if_pos (by lia),if_pos (by lia)]
      exact hs (i-1) (j-1) (by lia) (by lia)
     ·rw[if_neg (by lia)]
      by_cases j2:l<j
      ·rw[if_pos (by lia)]
       exact hs i (j-1) (by lia) (by lia)
      ·rw[if_neg (by lia)]
       exact hs i j hi (by lia)
  obtain⟨a2,q,r2,e1,e2⟩:=qyr L f (k+1) _ (hq.trans hp) (by lia) (by lia) hs2
  refine⟨qc6 a (by rw[r];exact a2),q,?_,e1.trans hq,by rw[show k+(f+1)=k+1+f by lia];exact e2⟩
  unfold kas_bin
  rw[qce,r]
  exact r2
theorem q2m(L:LtOk n lt)(h1:1<=n):kOk n lt (kas_sort n)/\∃q,kRun lt (kas_sort n)=q/\q.Perm (List.range n).toArray/\SPr lt q n:=by
 obtain⟨a,m,q,r,b,c,d,e⟩:=qvx L (.refl _) h1
 by_cases hm:m<n
 ·obtain⟨a2,q2,r2,e1,e2⟩:=qyr L (n-max m 1) (max m 1) q d (by lia) (by lia) (by rw[Nat.max_eq_left b];exact e)
  refine⟨qc6 a ?_,q2,?_,e1.trans d,?_⟩
  ·rw[r,if_pos hm]
   exact a2
  ·unfold kas_sort
   rw[qce,r,if_pos hm]
   exact r2
  ·rw[show max m 1+(n-max m 1)=n by lia] at e2
   exact e2
 ·have:m=n:=by lia
  subst this
  refine⟨qc6 a ?_,q,?_,d,e⟩
  ·rw[r,if_neg hm]
   trivial
  ·unfold kas_sort
   rw[qce,r,if_neg hm]
   rfl
end
end L2
namespace L2
open PySem PySem.Spec PyProof.Rows PySem.W
def LtA(A:Around)(s:Shared)(x y:Value)(c:Bool):Prop:=∀(prog:Program) (w:World) (E:Value->Shared->Prop) (Q:Value->Shared->Prop),Q (.bool c) s->wpAny (model prog w) A (richCompare .Lt x y) Q E s
def LtC(A:Around)(s:Shared)(p q:Addr)(c:Bool):Prop:=∀(prog:Program) (w:World) (E:Value->Shared->Prop) (Q:Value->Shared->Prop),Q (.bool c) s->wpAny (model prog w) A (call (.builtin "tuple.__lt__") [.ref p,.ref q]) Q E s
def lexV(e l:Nat->Bool)(z:Bool):Nat->Nat->Bool
|0,_=>z
|k+1,i=>if e i=true then lexV e l z k (i+1) else l i
theorem qzj(p q:Addr)(us ws:Array Value)(m k:Nat)(dp dq:Option Addr)(sp sq:Array (Option Value))(e c:Nat->Bool) :
  Meets (Builtin.«tuple.__lt__» ⟨[.ref p,.ref q],[]⟩)
   (λA R s=>s.heap.get? p=some { cls:=.type "tuple",dict:=dp,data:=.seq us m,slots:=sp }/\s.heap.get? q=some { cls:=.type "tuple",dict:=dq,data:=.seq ws k,slots:=sq } /\
    (∀j (h1:j<us.size) (h2:j<ws.size),SeqAt.EqAt A.in1 s us[j] ws[j] (e j))/\(∀j (h1:j<us.size) (h2:j<ws.size),e j=false->LtA A.in1 s us[j] ws[j] (c j)) /\
    R (.ok (.ret (.bool (lexV e c (decide (us.size<ws.size)) (min us.size ws.size) 0)))) s) :=
 .of_wp λprog w A R s h=>by
  obtain⟨h1,g1,d1,t1,o1⟩:=s
  obtain⟨hl,hb,he,hc,hR0⟩:=h
  have f2:=AutoSeq1.sub_tuple_tuple
  have hZ:(us.toList.zip ws.toList).length=min us.size ws.size:=by simp
  wp_walk using wpAny_loadPart' hl,wpAny_loadPart' hb,wpAny_forIn_list _ (λrest b s'=>b.1=none/\s'=⟨h1,g1,d1,t1,o1⟩/\∃i k,i+k=min us.size ws.size/\rest=(us.toList.zip ws.toList).drop i /\
   R (.ok (.ret (.bool (lexV e c (decide (us.size<ws.size)) k i)))) ⟨h1,g1,d1,t1,o1⟩) _
  case turn =>
   rintro⟨y,x⟩ rest b s' ⟨hb',rfl,i,k,hik,hz,hR⟩
   have hm:i<(us.toList.zip ws.toList).length:=by
    apply Nat.lt_of_not_le
    intro z
    rw[List.drop_of_length_le z] at hz
    cases hz
   have l1:i<us.size:=by lia
   have l2:i<ws.size:=by lia
   rw[List.drop_eq_getElem_cons hm] at hz
   injection hz with hyx hrest
   obtain rfl:y=us[i]:=by simpa using congrArg Prod.fst hyx
   obtain rfl:x=ws[i]:=by simpa using congrArg Prod.snd hyx
   obtain⟨k,rfl⟩:∃k',k=k'+1:=⟨k-1,by lia⟩
   have hR':R (.ok (.ret (.bool (if e i=true then lexV e c (decide (us.size<ws.size)) k (i+1) else c i)))) ⟨h1,g1,d1,t1,o1⟩:=hR
   refine wpAny_bind (he i l1 l2 prog w _ _ ?_)
   cases hy:e i with
  |true =>
    rw[hy,if_pos rfl] at hR'
    wp_walk
    exact⟨rfl,rfl,i+1,k,by lia,hrest,hR'⟩
  |false =>
    rw[hy,if_neg (by decide)] at hR'
    simp only[Bool.not_false,if_true]
    refine wpAny_bind (wpAny_rule (wpAny_bind (hc i l1 l2 hy prog w _ _ ?_)))
    wp_walk
    exact⟨_,rfl,hR'⟩
  case fin =>
   rintro⟨b1,b2⟩ s' ⟨hb',rfl,i,k,hik,hz,hR⟩
   simp only at hb'
   subst hb'
   have hk:k=0:=by
    rcases Nat.lt_or_ge i (us.toList.zip ws.toList).length with z|z
    ·rw[List.drop_eq_getElem_cons z] at hz;cases hz
    ·lia
   subst hk
   wp_walk
   exact⟨_,rfl,by simpa [Builtin.Tuple.tupleCompareSizes,lexV] using hR⟩
  case h =>
   exact⟨rfl,rfl,0,_,Nat.zero_add _,rfl,hR0⟩
section
variable {A:Around} {s:Shared} {p q:Addr} {us ws:Array Value} {e c:Nat->Bool}
theorem LtA.tups(hp:s.heap.IsTuple p us)(hq:s.heap.IsTuple q ws)(hu:A.units<cLine)(he:∀j (h1:j<us.size) (h2:j<ws.size),SeqAt.EqAt A.in1 s us[j] ws[j] (e j))
  (hc:∀j (h1:j<us.size) (h2:j<ws.size),e j=false->LtA A.in1 s us[j] ws[j] (c j)):LtA A s (.ref p) (.ref q) (lexV e c (decide (us.size<ws.size)) (min us.size ws.size) 0)/\LtC A s p q (lexV e c (decide (us.size<ws.size)) (min us.size ws.size) 0):=by
 obtain⟨⟨cl1,dp,da1,sp⟩,o1,z1,m,y1⟩:=id hp
 obtain⟨⟨cl2,dq,da2,sq⟩,o2,z2,k,y2⟩:=id hq
 cases z1;cases y1;cases z2;cases y2
 refine⟨λprog w E Q h=>?_,λprog w E Q h=>call_meets F.slot_tuple_lt ⟨_,o1,rfl⟩ F.entry_tuple_lt (F.args_tuple_lt_2 _ _) (qzj p q us ws m k dp dq sp sq e c) ⟨o1,o2,he,hc,h⟩⟩
 exact richCompare_meets_room (op:=.Lt) ⟨_,o1,rfl⟩ ⟨_,o2,rfl⟩ F.slot_tuple_lt F.entry_tuple_lt (F.args_tuple_lt_2 _ _) (qzj p q us ws m k dp dq sp sq e c) ⟨o1,o2,he,hc,(λx=>nomatch x),h⟩ hu
theorem LtA.strs{a b:Str}{t u:Tok}:LtA A s (.str a t) (.str b u) (decide (a.cps.toList<b.cps.toList)):=λprog w E Q h=>by
 refine wpAny_richCompare_same_or (typeIs_str s a t) (typeIs_str s b u) slot_str_lt (call_str_lt (Q:=λv s'=>v≠.notImplemented/\Q v s') ⟨(λx=>nomatch x),h⟩) (.inl rfl)
end
mutual
noncomputable def ltD:D->D->Bool
|.str a,.str b=>decide (a.cps.toList<b.cps.toList)
|.tup ds,.tup es=>ltDs ds es
|_,_=>false
noncomputable def ltDs:List D->List D->Bool
|[],[]=>false
|[],_::_=>true
|_::_,[]=>false
|d::ds,e::es=>if eqD d e=true then ltDs ds es else ltD d e
end
mutual
def ordD:D->D->Bool
|.str _,.str _=>true
|.tup ds,.tup es=>qdt ds es
|_,_=>false
def qdt:List D->List D->Bool
|d::ds,e::es=>ordD d e&&qdt ds es
|_,_=>true
end
mutual
theorem qt0:∀(d e:D),ordD d e=true->cmpD d e=true
|.str _,e,h=>by
  cases e<;>first|rfl|(unfold ordD at h;cases h)
|.tup ds,e,h=>by
  cases e<;>first|(unfold ordD at h;cases h;done)|skip
  rename_i es
  unfold ordD at h
  unfold cmpD
  exact qj3 ds es h
|.non,e,h=>by unfold ordD at h;cases h
|.bl _,e,h=>by unfold ordD at h;cases h
|.int _,e,h=>by unfold ordD at h;cases h
|.lst _,e,h=>by unfold ordD at h;cases h
|.dT _ _,e,h=>by unfold ordD at h;cases h
|.dK _ _,e,h=>by unfold ordD at h;cases h
|.scr _,e,h=>by unfold ordD at h;cases h
|.kt _,e,h=>by unfold ordD at h;cases h
|.exc _,e,h=>by unfold ordD at h;cases h
theorem qj3:∀(ds es:List D),qdt ds es=true->qcu ds es=true
|[],_,_=>by unfold qcu;rfl
|_::_,[],_=>by unfold qcu;rfl
|d::ds,e::es,h=>by
  unfold qdt at h
  rw[Bool.and_eq_true] at h
  unfold qcu
  rw[qt0 d e h.1,qj3 ds es h.2]
  rfl
end
theorem qo3:∀ {ds es:List D} {j:Nat} {d e:D},qdt ds es=true->ds[j]?=some d->es[j]?=some e->ordD d e=true
|[],_,j,_,_,_,q,_=>by simp at q
|_::_,[],j,_,_,_,_,q=>by simp at q
|d::ds,e::es,0,_,_,h,q1,q2=>by
  unfold qdt at h
  rw[Bool.and_eq_true] at h
  simp at q1 q2
  rw[←q1,←q2]
  exact h.1
|d::ds,e::es,j+1,_,_,h,q1,q2=>by
  unfold qdt at h
  rw[Bool.and_eq_true] at h
  exact qo3 h.2 (by simpa using q1) (by simpa using q2)
theorem qi1(e l:Nat->Bool)(z:Bool):∀k i,lexV e l z k (i+1)=lexV (λj=>e (j+1)) (λj=>l (j+1)) z k i
|0,_=>rfl
|k+1,i=>by
  show (if e (i+1)=true then lexV e l z k (i+1+1) else l (i+1))=if e (i+1)=true then lexV (λj=>e (j+1)) (λj=>l (j+1)) z k (i+1) else l (i+1)
  rw[qi1 e l z k (i+1)]
theorem qy0:∀ds es:List D,lexV (λj=>eqD (ds.getD j .non) (es.getD j .non)) (λj=>ltD (ds.getD j .non) (es.getD j .non)) (decide (ds.length<es.length)) (min ds.length es.length) 0=ltDs ds es
|[],[]=>by unfold ltDs;rfl
|[],_::_=>by unfold ltDs;simp[lexV]
|_::_,[]=>by unfold ltDs;simp[lexV]
|d::ds,e::es=>by
  have ih:=qy0 ds es
  rw[List.length_cons,List.length_cons,Nat.add_min_add_right]
  show (if eqD d e=true then lexV _ _ _ (min ds.length es.length) (0+1) else ltD d e)=_
  rw[qi1]
  unfold ltDs
  have ed:decide (ds.length+1<es.length+1)=decide (ds.length<es.length):=decide_eq_decide.mpr (by lia)
  rw[ed]
  have h2:lexV (λj=>eqD ((d::ds).getD (j+1) .non) ((e::es).getD (j+1) .non)) (λj=>ltD ((d::ds).getD (j+1) .non) ((e::es).getD (j+1) .non)) (decide (ds.length<es.length)) (min ds.length es.length) 0=ltDs ds es:=ih
  rw[h2]
section
variable {X:Cx} {pins:List (Addr×Obj)} {σ:St} {H:Hp} {s:Shared}
theorem qy2{A:Around}(I:Inv X pins σ H s){a b:Addr}{ds es:List D}{xs ys:List V}(ha:SqT X.K H a xs)(hb:SqT X.K H b ys)(r1:Reps X.K H ds xs)(r2:Reps X.K H es ys)(ho:qdt ds es=true)(hu:A.units+qci ds+1<cLine)
  (ih:∀d∈ds,∀(e:D) (v z:V) (u w:Value),Rep X.K H d v->Rep X.K H e z->RelV v u->RelV z w->ordD d e=true->LtA A.in1 s u w (ltD d e)):LtA A s (.ref a) (.ref b) (ltDs ds es)/\LtC A s a b (ltDs ds es):=by
 obtain⟨its,v1,p1,_⟩:=I.tuple ha
 obtain⟨its2,v2,p2,_⟩:=I.tuple hb
 have hc:=qj3 ds es ho
 have ihe:∀d∈ds,∀(e:D) (v z:V) (u w:Value),Rep X.K H d v->Rep X.K H e z->RelV v u->RelV z w->cmpD d e=true->SeqAt.EqAt A.in1 s u w (eqD d e):=λd hd e v z u w h1 h2 h3 h4 h5 =>
  qgf I _ A.in1 d e v z u w (Nat.le_refl _) h1 h2 h3 h4 h5 (by have:=qco hd;have un:A.in1.units=A.units+1:=rfl;lia)
 have:=LtA.tups (A:=A) (s:=s) (e:=λj=>eqD (ds.getD j .non) (es.getD j .non)) (c:=λj=>ltD (ds.getD j .non) (es.getD j .non)) (show s.heap.IsTuple a its.toArray from p1) (show s.heap.IsTuple b its2.toArray from p2) (by lia) (qhe r1 r2 v1 v2 hc ihe) ?_
 ·rw[List.size_toArray,List.size_toArray,←v1.length,←v2.length,←r1.length,←r2.length,qy0] at this
  exact this
 ·intro j h1 h2 _
  have l1:j<ds.length:=by rw[r1.length,v1.length];simpa using h1
  have l2:j<es.length:=by rw[r2.length,v2.length];simpa using h2
  obtain⟨x,qx,rx⟩:=r1.at (List.getElem?_eq_getElem l1)
  obtain⟨y,qy,ry⟩:=r2.at (List.getElem?_eq_getElem l2)
  obtain⟨ux,e1,rux⟩:=v1.get qx
  obtain⟨uy,e2,ruy⟩:=v2.get qy
  have e1':its.toArray[j]=ux:=by
   have z:its[j]?=some its.toArray[j]:=by simp
   rw[e1] at z
   exact(Option.some.inj z).symm
  have e2':its2.toArray[j]=uy:=by
   have z:its2[j]?=some its2.toArray[j]:=by simp
   rw[e2] at z
   exact(Option.some.inj z).symm
  have e3:ds.getD j .non=ds[j]:=by simp[List.getD_eq_getElem?_getD,l1]
  have e4:es.getD j .non=es[j]:=by simp[List.getD_eq_getElem?_getD,l2]
  rw[e1',e2',e3,e4]
  exact ih ds[j] (List.getElem_mem l1) es[j] x y ux uy rx ry rux ruy (qo3 ho (List.getElem?_eq_getElem l1) (List.getElem?_eq_getElem l2))
theorem qtk(I:Inv X pins σ H s):∀(n:Nat) (A:Around) (d e:D) (v z:V) (u w:Value),sizeOf d<=n->Rep X.K H d v->Rep X.K H e z->RelV v u->RelV z w->ordD d e=true->A.units+depD d<cLine->LtA A s u w (ltD d e)
|0,_,d,_,_,_,_,_,hn,_,_,_,_,_,_=>by cases d<;>simp at hn
|n+1,A,d,e,v,z,u,w,hn,hd,he,ru,rw',ho,hu=>by
  have un:A.in1.units=A.units+1:=rfl
  cases d with
 |str a =>
   cases e with
  |str b =>
    unfold Rep at hd he
    subst hd he
    obtain⟨t1,rfl⟩:=ru
    obtain⟨t2,rfl⟩:=rw'
    unfold ltD
    exact LtA.strs
  |_=>unfold ordD at ho;cases ho
 |tup ds =>
   cases e with
  |tup es =>
    unfold Rep at hd he
    obtain⟨a,xs,rfl,ha,r1⟩:=hd
    obtain⟨b,ys,rfl,hb,r2⟩:=he
    cases ru
    cases rw'
    unfold ordD at ho
    unfold ltD
    unfold depD at hu
    refine(qy2 I ha.sq hb.sq r1 r2 ho (by lia) λd hd e v z u w h1 h2 h3 h4 h5=>qtk I n A.in1 d e v z u w ?_ h1 h2 h3 h4 h5 ?_).1
    ·have:=List.sizeOf_lt_of_mem hd
     simp at hn
     lia
    ·have:=qco hd
     lia
  |_=>unfold ordD at ho;cases ho
 |_=>unfold ordD at ho;cases ho
end
end L2
namespace L2
open PySem PySem.Spec PyProof.Rows PySem.W
section
variable {X:Cx} {pins:List (Addr×Obj)} {σ:St} {H:Hp} {s:Shared} {E:Value->Shared->Prop}
theorem qnq(I:Inv X pins σ H s){A:Around}(c:Bool){d e:D}{v z:V}{u w:Value}{Q:Bool->Shared->Prop}(hd:Rep X.K H d v)(he:Rep X.K H e z)(ru:RelV v u)(rw':RelV z w)(ho:ordD d e=true)(hu:A.units+depD d+1<cLine)(h:Q (ltD d e) s) :
  wpAny (model X.prog X.w) A (oneLt' c u w) Q E s:=by
 have L:=qtk I _ A d e v z u w (Nat.le_refl _) hd he ru rw' ho (by lia)
 cases c with
|false=>exact kat_one u w (L X.prog X.w E (PySem.W.BoolBack Q) h)
|true =>
  cases d with
 |str a =>
   cases e with
  |str b =>
    unfold Rep at hd he
    subst hd he
    obtain⟨t1,rfl⟩:=ru
    obtain⟨t2,rfl⟩:=rw'
    unfold ltD at h
    exact oneLt_str h
  |_=>unfold ordD at ho;cases ho
 |tup ds =>
   cases e with
  |tup es =>
    unfold Rep at hd he
    obtain⟨a,xs,rfl,ha,r1⟩:=hd
    obtain⟨b,ys,rfl,hb,r2⟩:=he
    cases ru
    cases rw'
    unfold ordD at ho
    unfold ltD at h
    unfold depD at hu
    have C:=(qy2 (A:=A) I ha.sq hb.sq r1 r2 ho (by lia) λd hd e v z u w h1 h2 h3 h4 h5=>qtk I _ A.in1 d e v z u w (Nat.le_refl _) h1 h2 h3 h4 h5 (by have:=qco hd;have un:A.in1.units=A.units+1:=rfl;lia)).2
    obtain⟨its,_,pl,_⟩:=I.tuple ha.sq
    rw[oneLt'_eq]
    simp only[if_true]
    refine wpAny_bind (wpAny_cRoomFor (by lia) (wpAny_bind (wpAny_callSpecialIfBound?_slot pl.typeIs F.slot_tuple_lt (C X.prog X.w _ _ ?_))))
    exact wpAny_truthy_bool h
  |_=>unfold ordD at ho;cases ho
 |_=>unfold ordD at ho;cases ho
theorem q4a(I:Inv X pins σ H s){A:Around}{b z:Bool}{Q:Bool->Shared->Prop}:∀(ds es:List D) (xs ys:List V) (us ws:List Value) (i:Nat),Reps X.K H ds xs->Reps X.K H es ys->Vals xs us->Vals ys ws->qdt ds es=true->A.units+qci ds+1<cLine->decide (ds.length<es.length)=z->Q (ltDs ds es) s ->
  KatLex X.prog X.w A b z Q (us.zip ws) i s
|[],es,xs,ys,us,ws,i,r1,r2,v1,v2,ho,hu,hz,h=>by
  have e1:=r1.length
  have e2:=v1.length
  have:us=[]:=List.length_eq_zero_iff.mp (by rw[←e2,←e1];rfl)
  subst this
  rw[List.zip_nil_left]
  refine kat_nil ?_
  cases es with
 |nil=>unfold ltDs at h;rw[←hz];exact h
 |cons e es=>unfold ltDs at h;rw[←hz];simpa using h
|d::ds,[],xs,ys,us,ws,i,r1,r2,v1,v2,ho,hu,hz,h=>by
  have e1:=r2.length
  have e2:=v2.length
  have:ws=[]:=List.length_eq_zero_iff.mp (by rw[←e2,←e1];rfl)
  subst this
  rw[List.zip_nil_right]
  refine kat_nil ?_
  unfold ltDs at h
  rw[←hz]
  simpa using h
|d::ds,e::es,xs,ys,us,ws,i,r1,r2,v1,v2,ho,hu,hz,h=>by
  unfold Reps at r1 r2
  obtain⟨x,xs,rfl,rx,r1⟩:=r1
  obtain⟨y,ys,rfl,ry,r2⟩:=r2
  cases v1 with
 |cons ru v1 =>
  cases v2 with
 |cons rw' v2 =>
  rename_i u us w ws
  unfold qdt at ho
  rw[Bool.and_eq_true] at ho
  have hd1:depD d<=qci (d::ds):=qco (List.mem_cons_self ..)
  have hd2:qci ds<=qci (d::ds):=by show _<=max (depD d) (qci ds);lia
  show KatLex X.prog X.w A b z Q ((u,w)::us.zip ws) i s
  refine kat_cons (qgf I _ A d e x y u w (Nat.le_refl _) rx ry ru rw' (qt0 d e ho.1) (by lia) X.prog X.w _ _ ?_)
  unfold ltDs at h
  cases he:eqD d e with
 |true =>
   rw[he,if_pos rfl] at h
   refine kat_yes (q4a I ds es xs ys us ws (i+1) r1 r2 v1 v2 ho.2 (by lia) ?_ h)
   rw[←hz,List.length_cons,List.length_cons]
   exact decide_eq_decide.mpr (by lia)
 |false =>
   rw[he,if_neg (by decide)] at h
   exact kat_no (qnq I _ rx ry ru rw' ho.1 (by lia) h)
theorem q0g(I:Inv X pins σ H s){A:Around}(κ:SortKind){ds es:List D}{v z:V}{u w:Value}{Q:Bool->Shared->Prop}(hd:Rep X.K H (.tup ds) v)(he:Rep X.K H (.tup es) z)(ru:RelV v u)(rw':RelV z w)(ho:qdt ds es=true)(hu:A.units+qci ds+2<cLine)(h:Q (ltDs ds es) s) :
  wpAny (model X.prog X.w) A (keyLt' κ u w) Q E s:=by
 have hl:ltD (.tup ds) (.tup es)=ltDs ds es:=by unfold ltD;rfl
 have ho':ordD (.tup ds) (.tup es)=true:=by unfold ordD;exact ho
 have hdp:depD (.tup ds)=qci ds+1:=by unfold depD;rfl
 have one:∀c,wpAny (model X.prog X.w) A (oneLt' c u w) Q E s:=λc=>qnq I c hd he ru rw' ho' (by lia) (by rw[hl];exact h)
 cases κ with
|general=>exact one false
|oneType=>exact one true
|tuples b =>
  unfold Rep at hd he
  obtain⟨a,xs,rfl,ha,r1⟩:=hd
  obtain⟨c,ys,rfl,hb,r2⟩:=he
  cases ru
  cases rw'
  obtain⟨its,v1,p1,_⟩:=I.tuple ha.sq
  obtain⟨its2,v2,p2,_⟩:=I.tuple hb.sq
  obtain⟨o1,q1,_,n1,y1⟩:=id p1
  obtain⟨o2,q2,_,n2,y2⟩:=id p2
  refine kat_lt q1 y1 q2 y2 ?_
  refine q4a I ds es xs ys _ _ 0 r1 r2 v1 v2 ho (by lia) ?_ h
  rw[r1.length,r2.length,v1.length,v2.length]
  simp
end
end L2
namespace L2
open PySem PySem.Spec PyProof.Rows PySem.W
section
variable {M:Model} {A:Around} {E:Value->Shared->Prop} {s:Shared}
theorem qju{α β:Type}{f:α->Sem β}{P:β->Prop}:∀(l:List α) {Q:List β->Shared->Prop},(∀v∈l,∀(Q':β->Shared->Prop),(∀r,P r->Q' r s)->wpAny M A (f v) Q' E s)->(∀rs,(∀r∈rs,P r)->Q rs s)->wpAny M A (l.mapM f) Q E s
|[],_,_,h=>by rw[List.mapM_nil];exact wpAny_pure (h [] (by simp))
|x::l,Q,hf,h=>by
  rw[List.mapM_cons]
  refine wpAny_bind (hf x (List.mem_cons_self ..) _ λr hr=>wpAny_bind (qju l (λv hv=>hf v (List.mem_cons_of_mem _ hv)) λrs hrs=>wpAny_pure (h _ λy hy=>?_)))
  rcases List.mem_cons.mp hy with rfl|hy
  ·exact hr
  ·exact hrs y hy
def TyOk(h:Heap)(u:Value):Prop:=∃T,∀M:Model,Looks M h (typeOf u) T
theorem qhp{vs:Array Value}{Q:Option Value->Shared->Prop}(ht:∀u∈vs.toList,TyOk s.heap u)(h:∀r,Q r s):wpAny M A (oneTypeOnly' vs) Q E s:=by
 rw[oneTypeOnly'_eq]
 obtain⟨vs⟩:=vs
 rw[List.mapM_toArray,map_eq_pure_bind]
 refine wpAny_bind (wpAny_bind (qju (P:=λ_=>True) vs (λv hv Q' hq=>?_) λrs _=>wpAny_pure ?_))
 ·obtain⟨T,hT⟩:=ht v hv
  exact(hT M).here (hq T trivial)
 ·cases rs.toArray[0]? with
 |none=>exact wpAny_pure (h _)
 |some t=>exact wpAny_pure (h _)
theorem kind_any{vs:List Value}{Q:SortKind->Shared->Prop}(ht:∀v∈vs,∃(a:Addr) (o:Obj) (us:Array Value) (n:Nat),v=.ref a/\s.heap.get? a=some o/\o.cls=.type "tuple" /\ o.data=.seq us n/\∀f,us[0]?=some f->TyOk s.heap f)(h:∀κ,Q κ s):wpAny M A (keyKind' vs.toArray) Q E s:=by
 have tr:∀(a:Addr) (o:Obj),s.heap.get? a=some o->∀M:Model,Looks M s.heap (typeOf (.ref a)) o.cls:=λa o ho M=>(Looks.ld ho).andThen .now
 rw[keyKind'_eq,List.mapM_toArray,map_eq_pure_bind]
 refine wpAny_bind (wpAny_bind (qju (P:=λr=>∀f,r=some f->TyOk s.heap f) vs (λv hv Q' hq=>?_) λrs hrs=>wpAny_pure ?_))
 ·obtain⟨a,o,us,n,rfl,ho,hc,hd,hf⟩:=ht v hv
  rw[kas_first_eq]
  refine wpAny_bind ((tr a o ho M).here ?_)
  rw[hc,if_neg (by simp)]
  exact wpAny_bind (listItems_at ho hd (wpAny_pure (hq _ λf e=>hf f e)))
 ·split
  ·refine wpAny_bind (wpAny_rule (wpAny_bind (qhp (λu hu=>?_) λr=>wpAny_pure (h _))))
   have hu':u∈rs.filterMap id:=by simpa using hu
   obtain⟨r,hr,e⟩:=List.mem_filterMap.mp hu'
   exact hrs r hr u e
  ·split
   ·exact wpAny_pure (h _)
   ·refine wpAny_bind (qhp (λu hu=>?_) λr=>?_)
    ·obtain⟨a,o,us,n,rfl,ho,_⟩:=ht u hu
     exact⟨o.cls,tr a o ho⟩
    ·split<;>exact wpAny_pure (h _)
end
section
variable {K:PySem.W.Frag} {H:Hp}
theorem Reps.pick{ds:List D}{xs:List V}(r:Reps K H ds xs):∀l:List Nat,(∀i∈l,i<ds.length)->Reps K H (l.map λi=>ds.getD i .non) (l.map λi=>xs.getD i .non)
|[],_=>.nil
|i::l,h=>by
  have hi:=h i (List.mem_cons_self ..)
  obtain⟨x,hx,rx⟩:=r.at (List.getElem?_eq_getElem hi)
  refine .cons ?_ (r.pick l λj hj=>h j (List.mem_cons_of_mem _ hj))
  have e1:ds.getD i .non=ds[i]:=by simp[List.getD_eq_getElem?_getD,hi]
  have e2:xs.getD i .non=x:=by simp[List.getD_eq_getElem?_getD,hx]
  show Rep K H (ds.getD i .non) (xs.getD i .non)
  rw[e1,e2]
  exact rx
theorem Vals.pick{xs:List V}{us:List Value}(r:Vals xs us):∀l:List Nat,(∀i∈l,i<xs.length)->Vals (l.map λi=>xs.getD i .non) (l.map λi=>us.getD i Value.none)
|[],_=>.nil
|i::l,h=>by
  have hi:=h i (List.mem_cons_self ..)
  obtain⟨u,hu,ru⟩:=r.get (List.getElem?_eq_getElem hi)
  refine .cons ?_ (Vals.pick r l λj hj=>h j (List.mem_cons_of_mem _ hj))
  have e1:xs.getD i .non=xs[i]:=by simp[List.getD_eq_getElem?_getD,hi]
  have e2:us.getD i Value.none=u:=by simp[List.getD_eq_getElem?_getD,hu]
  show RelV (xs.getD i .non) (us.getD i Value.none)
  rw[e1,e2]
  exact ru
end
def q37:D->Bool
|.str _=>true
|.tup _=>true
|_=>false
structure SortD(ds:List D):Prop where
 tup:(∀d∈ds,∃es,d=.tup es/\qci es<=20/\∀x,es[0]?=some x->q37 x=true)\/∀d∈ds,∃z,d=.str z
 ord:∀d∈ds,∀e∈ds,ordD d e=true
 tr:∀a∈ds,∀b∈ds,∀c∈ds,ltD a b=true->ltD b c=true->ltD a c=true
 as:∀a∈ds,∀b∈ds,ltD a b=true->ltD b a=false
 tot:∀a∈ds,∀b∈ds,a≠b->ltD a b=true\/ltD b a=true
 nd:ds.Nodup
theorem getD_mem{ds:List D}{i:Nat}(h:i<ds.length):ds.getD i .non∈ds:=by
 have e1:ds.getD i .non=ds[i]:=by simp[List.getD_eq_getElem?_getD,h]
 rw[e1]
 exact List.getElem_mem h
theorem SortD.ltOk{ds:List D}(S:SortD ds):LtOk ds.length λi j=>ltD (ds.getD i .non) (ds.getD j .non) where
 tr:=λa b c ha hb hc=>S.tr _ (getD_mem ha) _ (getD_mem hb) _ (getD_mem hc)
 as:=λa b ha hb=>S.as _ (getD_mem ha) _ (getD_mem hb)
 tot:=λa b ha hb ne=>S.tot _ (getD_mem ha) _ (getD_mem hb) λe=>ne (by
  have e1:ds.getD a .non=ds[a]:=by simp[List.getD_eq_getElem?_getD,ha]
  have e2:ds.getD b .non=ds[b]:=by simp[List.getD_eq_getElem?_getD,hb]
  rw[e1,e2] at e
  exact(List.getElem_inj S.nd).mp e)
end L2
namespace L2
open PySem PySem.Spec PyProof.Rows PySem.W
theorem range_getD(vs:List Value):((List.range vs.length).map λi=>vs.getD i Value.none)=vs:=by
 apply List.ext_getElem
 ·simp
 ·intro i h1 h2
  simp[List.getD_eq_getElem?_getD,h2]
section
variable {X:Cx} {pins:List (Addr×Obj)} {σ:St} {H:Hp} {s:Shared} {E:Value->Shared->Prop}
theorem q7p(I:Inv X pins σ H s){A:Around}{ds:List D}{xs:List V}{vs:List Value}(r:Reps X.K H ds xs)(v:Vals xs vs)(S:SortD ds)(h2:2<=vs.length)(h64:vs.length<64)(hu:A.units+30<cLine)(κ:SortKind)(hκ:(∀d∈ds,∃z,d=.str z)->2<=ds.length->κ=oneType'){Q:SortSt->Shared->Prop}
  (h:∀(st:SortSt) (q:Array Nat),q.Perm (List.range ds.length).toArray->SPr (λi j=>ltD (ds.getD i .non) (ds.getD j .non)) q ds.length->(arrOf st).map (·.2)=List.toArray (q.toList.map λi=>vs.getD i Value.none)->failedOf st=none->Q st s) :
  wpAny (model X.prog X.w) A ((sortRuns').run (SortSt.mk' κ (vs.toArray.zip vs.toArray) #[] 7 none)) (λr s'=>Q r.2 s') E s:=by
 have hl:ds.length=vs.length:=r.length.trans v.length
 obtain⟨ok,q,hq,hp,hs⟩:=q2m S.ltOk (by lia)
 refine kat_run (ks:=vs) (vs:=vs) (G:=λp s'=>p=q/\s'=s) rfl h2 h64 (λp st s' hz ha hf hg=>?_) ?_
 ·obtain⟨rfl,rfl⟩:=hg
  exact h st p hp hs (kat_snds rfl ha) hf
 ·rw[←hl]
  refine qs7 (n:=ds.length) (lt:=λi j=>ltD (ds.getD i .non) (ds.getD j .non)) (P:=λs'=>s'=s) (λi j C s' hi hj hs' hC=>?_) _ s ok rfl λs' hs'=>⟨hq,hs'⟩
  subst hs'
  obtain⟨x,hx,rx⟩:=r.at (List.getElem?_eq_getElem hi)
  obtain⟨y,hy,ry⟩:=r.at (List.getElem?_eq_getElem hj)
  obtain⟨u,eu,ru⟩:=v.get hx
  obtain⟨w,ew,rw'⟩:=v.get hy
  have e1:ds.getD i .non=ds[i]:=by simp[List.getD_eq_getElem?_getD,hi]
  have e2:ds.getD j .non=ds[j]:=by simp[List.getD_eq_getElem?_getD,hj]
  have e3:vs.getD i Value.none=u:=by simp[List.getD_eq_getElem?_getD,eu]
  have e4:vs.getD j Value.none=w:=by simp[List.getD_eq_getElem?_getD,ew]
  have m1:ds[i]∈ds:=List.getElem_mem hi
  have m2:ds[j]∈ds:=List.getElem_mem hj
  have ho:=S.ord _ m1 _ m2
  have hC':=hC s' rfl
  rw[e1,e2] at hC'
  show wpAny (model X.prog X.w) A (keyLt' κ (vs.getD i Value.none) (vs.getD j Value.none)) C (λ_ _=>False) s'
  rw[e3,e4]
  rcases S.tup with T|T
  ·obtain⟨es,ee,he,_⟩:=T _ m1
   obtain⟨fs,ef,_,_⟩:=T _ m2
   rw[ee,ef] at hC'
   rw[ee,ef] at ho
   rw[ee] at rx
   rw[ef] at ry
   have hlt:ltD (.tup es) (.tup fs)=ltDs es fs:=by unfold ltD;rfl
   have hoo:qdt es fs=true:=by unfold ordD at ho;exact ho
   rw[hlt] at hC'
   exact q0g I κ rx ry ru rw' hoo (by lia) hC'
  ·rw[hκ T (by lia),keyLt'_oneType]
   exact qnq I true rx ry ru rw' ho (by obtain⟨z,ez⟩:=T _ m1;rw[ez];unfold depD;lia) hC'
theorem q0o{A:Around}{a:Addr}{n:Nat}{ds:List D}{xs:List V}{vs:List Value}{P:Fin->Shared->Prop}(ho:s.heap.get? a=some (seqObj "list" vs.toArray n))
  (I:∀h',(∀b o,b≠a->s.heap.get? b=some o->h'.get? b=some o)->Inv X pins σ H { s with heap:=h' }) (r:Reps X.K H ds xs) (v:Vals xs vs) (S:SortD ds) (h64:vs.length<64) (hu:A.units+30<cLine)
  (h:∀(q:List Nat) (h':Heap) (m:Nat),q.Perm (List.range ds.length)->q.Pairwise (λi j=>ltD (ds.getD i .non) (ds.getD j .non)=true)->(∀b o,b≠a->s.heap.get? b=some o->h'.get? b=some o)->h'.get? a=some (seqObj "list" (q.map λi=>vs.getD i Value.none).toArray m) ->
   P (.done (.ret .none)) { s with heap:=h' }):wpAny (model X.prog X.w) A (Builtin.«list.sort» ⟨[.ref a],[]⟩) P E s:=by
 have hl:ds.length=vs.length:=r.length.trans v.length
 have small:∀k,k<64->k<=sizeLine:=λk hk=>Nat.le_trans (Nat.le_of_lt hk) (by decide)
 rw[list_sort_plain]
 have ha:a<s.heap.objs.size:=Heap.lt_size ho
 have hz:vs.toArray.size<=sizeLine:=by rw[List.size_toArray];exact small _ h64
 refine wpAny_bind (listItems_at ho rfl (wpAny_bind (listUpdate_at ho rfl ?_ hz (Nat.zero_le _))))
 generalize e1:s.heap.update a (Obj.mapSeq λ_=>#[])=h1
 obtain⟨m1,ho1⟩:∃m1,h1.get? a=some (seqObj "list" #[] m1):=⟨_,by rw[←e1];exact get?_update_seq ho (λ_=>#[])⟩
 have k1:∀b o,b≠a->s.heap.get? b=some o->h1.get? b=some o:=λb o hb hq=>by
  rw[←e1,Heap.get?_update_ne _ _ _ _ hb]
  exact hq
 refine wpAny_bind (seqEpoch_at (s:={ s with heap:=h1 }) ho1 rfl (wpAny_bind (wpAny_newTuple ?_ (small _ h64))))
 generalize e2:h1.push { cls:=.type "tuple",data:=.seq vs.toArray }=h2
 have k2:∀b o,h1.get? b=some o->h2.get? b=some o:=λb o hq=>by rw[←e2];exact Heap.get?_push_of_some _ hq
 refine wpAny_bind (wpAny_newList ?_ (Nat.zero_le _))
 generalize e3:Heap.push _ _=h3
 have k3:∀b o,h2.get? b=some o->h3.get? b=some o:=λb o hq=>by rw[←e3];exact Heap.get?_push_of_some _ hq
 have ho3:h3.get? a=some (seqObj "list" #[] m1):=k3 _ _ (k2 _ _ ho1)
 have kk:∀b o,b≠a->s.heap.get? b=some o->h3.get? b=some o:=λb o hb hq=>k3 _ _ (k2 _ _ (k1 b o hb hq))
 have I3:Inv X pins σ H { s with heap:=h3 }:=I h3 kk
 refine wpAny_holding ?_
 show wpAny (model X.prog X.w) A _ P E { s with heap:=h3 }
 have fin:∀(q:List Nat) (out:Array Value),q.Perm (List.range ds.length)->q.Pairwise (λi j=>ltD (ds.getD i .non) (ds.getD j .non)=true)->out=(q.map λi=>vs.getD i Value.none).toArray ->
   P (.done (.ret .none)) { s with heap:=h3.update a (Obj.mapSeq λ_=>out) }:=λq out hq hp e=>by
  subst e
  refine h q _ _ hq hp (λb o hb hs=>?_) (get?_update_seq ho3 (λ_=>_))
  rw[Heap.get?_update_ne _ _ _ _ hb]
  exact kk b o hb hs
 dsimp only
 by_cases h2':vs.toArray.size<2
 ·rw[if_pos h2']
  refine wpAny_bind (wpAny_pure ?_)
  rw[if_pos h2',StateT.run_pure]
  refine wpAny_bind (wpAny_pure ?_)
  dsimp only
  refine wpAny_bind (seqEpoch_at (s:={ s with heap:=h3 }) ho3 rfl (wpAny_bind (listUpdate_at (s:={ s with heap:=h3 }) ho3 rfl ?_ (Nat.zero_le _) ?_)))
  ·simp only[bne_self_eq_false,Bool.false_eq_true,if_false]
   refine wpAny_pure (fin (List.range ds.length) _ (List.Perm.refl _) ?_ ?_)
   ·rw[List.size_toArray] at h2'
    rw[List.pairwise_iff_getElem]
    intro i j hi hj hij
    simp at hi hj
    lia
   ·apply Array.toList_inj.mp
    show (Array.map (λx:Value×Value=>x.2) (vs.toArray.zip vs.toArray)).toList=_
    rw[hl,range_getD]
    simp only[Array.toList_map,Array.toList_zip]
    exact List.map_snd_zip (Nat.le_refl _)
  ·show (Array.map (λx:Value×Value=>x.2) (vs.toArray.zip vs.toArray)).size<=_
   simp
   have:=small _ h64
   lia
 ·rw[if_neg h2']
  have h2v:2<=vs.length:=by rw[List.size_toArray] at h2';lia
  have kind:∀Q:SortKind->Shared->Prop,(∀κ,((∀d∈ds,∃z,d=.str z)->2<=ds.length->κ=oneType')->Q κ { s with heap:=h3 })->wpAny (model X.prog X.w) A (keyKind' vs.toArray) Q E { s with heap:=h3 }:=λQ hQ=>by
   rcases S.tup with T|T
   case inr =>
    refine kas_kind (T:=.type "str") (s:={ s with heap:=h3 }) h2v (λu hu=>?_) (by decide) (by decide) (hQ _ λ_ _=>rfl)
    obtain⟨i,hi,rfl⟩:=List.mem_iff_getElem.mp hu
    have hi2:i<ds.length:=by lia
    obtain⟨x,hx,rx⟩:=r.at (List.getElem?_eq_getElem hi2)
    obtain⟨u',eu,ru⟩:=v.get hx
    rw[List.getElem?_eq_getElem hi] at eu
    cases eu
    obtain⟨z,ez⟩:=T _ (List.getElem_mem hi2)
    rw[ez] at rx
    unfold Rep at rx
    subst rx
    obtain⟨t,et⟩:=ru
    rw[et]
    exact .now
   refine kind_any (s:={ s with heap:=h3 }) (λu hu=>?_) λκ=>hQ κ λhstr hlen=>?b
   case b =>
    have m0:ds[0]'(by lia)∈ds:=List.getElem_mem _
    obtain⟨es,ee,_⟩:=T _ m0
    obtain⟨z,ez⟩:=hstr _ m0
    rw[ee] at ez
    cases ez
   obtain⟨i,hi,rfl⟩:=List.mem_iff_getElem.mp hu
   have hi2:i<ds.length:=by lia
   obtain⟨x,hx,rx⟩:=r.at (List.getElem?_eq_getElem hi2)
   obtain⟨u',eu,ru⟩:=v.get hx
   rw[List.getElem?_eq_getElem hi] at eu
   cases eu
   obtain⟨es,ee,he,hk⟩:=T _ (List.getElem_mem hi2)
   rw[ee] at rx
   unfold Rep at rx
   obtain⟨b,ys,rfl,hb,r1⟩:=rx
   obtain⟨its,v1,p1,_⟩:=I3.tuple hb.sq
   obtain⟨o1,q1,c1,n1,y1⟩:=id p1
   refine⟨b,o1,its.toArray,n1,ru,q1,c1,y1,λf hf=>?_⟩
   have hf':its[0]?=some f:=by simpa using hf
   have h0:0<es.length:=by
    rw[r1.length,v1.length]
    exact(List.getElem?_eq_some_iff.mp hf').1
   obtain⟨y,hy,ry⟩:=r1.at (List.getElem?_eq_getElem h0)
   obtain⟨f',ef,rf⟩:=v1.get hy
   rw[hf'] at ef
   cases ef
   have hkey:=hk _ (List.getElem?_eq_getElem h0)
   generalize es[0]=d0 at hkey ry
   cases d0 with
  |str z =>
    unfold Rep at ry
    subst ry
    obtain⟨t,rfl⟩:=rf
    exact⟨.type "str",λM=>.now⟩
  |tup gs =>
    unfold Rep at ry
    obtain⟨c,zs,rfl,hc,_⟩:=ry
    cases rf
    obtain⟨its3,_,p3,_⟩:=I3.tuple hc.sq
    obtain⟨o3,q3,_⟩:=id p3
    exact⟨o3.cls,λM=>(Looks.ld q3).andThen .now⟩
  |_=>cases hkey
  refine wpAny_bind (kind _ λκ hκ=>?_)
  ·rw[if_neg h2']
   refine wpAny_bind (wpAny_mono (q7p I3 r v S h2v h64 hu κ hκ (Q:=λst s'=>s'={ s with heap:=h3 }/\∃q:Array Nat,q.Perm (List.range ds.length).toArray/\SPr (λi j=>ltD (ds.getD i .non) (ds.getD j .non)) q ds.length/\(arrOf st).map (·.2)=List.toArray (q.toList.map λi=>vs.getD i Value.none)/\failedOf st=none)
    λst q a1 a2 a3 a4=>⟨rfl,q,a1,a2,a3,a4⟩) ?_ λ_ _ z=>z)
   rintro⟨⟨⟩,st⟩ s' ⟨rfl,q,a1,a2,a3,a4⟩
   have hql:q.toList.length=ds.length:=by
    have:=a1.size_eq
    simpa using this
   dsimp only
   refine wpAny_bind (seqEpoch_at (s:={ s with heap:=h3 }) ho3 rfl (wpAny_bind (listUpdate_at (s:={ s with heap:=h3 }) ho3 rfl ?_ (Nat.zero_le _) ?_)))
   ·rw[a4]
    simp only[bne_self_eq_false,Bool.false_eq_true,if_false]
    refine wpAny_pure (fin q.toList _ ?_ ?_ a3)
    ·have:=a1.toList
     simpa using this
    ·rw[List.pairwise_iff_getElem]
     intro i j hi hj hij
     have:=a2 i j hij (by lia)
     have g1:q.getD i 0=q.toList[i]:=by rw[qc2];simp[Array.getElem?_eq_getElem (show i<q.size by simpa using hi)]
     have g2:q.getD j 0=q.toList[j]:=by rw[qc2];simp[Array.getElem?_eq_getElem (show j<q.size by simpa using hj)]
     rw[g1,g2] at this
     exact this
   ·show ((arrOf st).map (·.2)).size<=_
    rw[a3]
    simp
    have:=small _ h64
    have:q.size=ds.length:=by simpa using hql
    lia
theorem qmp(hu:X.A.units+60<cLine):CallR X (.builtin "sorted") (λxs H Q=>∃p ys ds,xs=[.ref p]/\SqL X.K H p ys/\Reps X.K H ds ys/\SortD ds/\ds.length<64/\∀l (q:List Nat),H l=none->q.Perm (List.range ds.length)->q.Pairwise (λi j=>ltD (ds.getD i .non) (ds.getD j .non)=true)->Q (.ref l) (upd H l (.lst (q.map λi=>ys.getD i .non)))):=by
 intro pins s σ H xs us Q I rx h
 obtain⟨p,ys,ds,rfl,hp,r,S,h64,hq⟩:=h
 obtain⟨u,rfl,ru⟩:=vals1 rx
 cases ru
 obtain⟨its,v,pl,hz⟩:=I.list hp
 have hl:ds.length=its.length:=r.length.trans v.length
 refine Calls.call_function_entry kind_sorted plain_sorted entry_sorted (args_sorted1 _) ?_
 unfold Builtin.«sorted»
 refine wpAny_bind (m:=checkCount "sorted" 1 1 _) (wpAny_pure ?_)
 have hz':its.length<=sizeLine:=by rw[←v.length];exact hz
 refine wpAny_bind (collect_list pl.isList (wpAny_bind (wpAny_newList ?_ hz')) hz')
 generalize e1:(s.heap.push (seqObj "list" #[] 0)).update s.heap.objs.size _=h1
 have n1:h1.objs.size=s.heap.objs.size+1:=by rw[←e1,Heap.size_update,size_push']
 have k1:∀b o,s.heap.get? b=some o->h1.get? b=some o:=λb o q=>by
  have lt:b<s.heap.objs.size:=Heap.lt_size q
  rw[←e1,Heap.get?_update_ne _ _ _ _ (Nat.ne_of_lt lt)]
  exact Heap.get?_push_of_some _ q
 generalize e2:Heap.push _ _=h2
 have hD:h2.get? h1.objs.size=some (seqObj "list" its.toArray 0):=by rw[←e2];exact Heap.get?_push_size _ rfl
 have k2:∀b o,s.heap.get? b=some o->h2.get? b=some o:=λb o q=>by rw[←e2];exact Heap.get?_push_of_some _ (k1 b o q)
 have un:X.A.in1.units=X.A.units+1:=rfl
 have un2:X.A.in1.in1.units=X.A.units+2:=rfl
 show wpAny (model X.prog X.w) X.A.in1 (do let _ ←holding [Value.ref h1.objs.size] (call (.builtin "list.sort") [.ref h1.objs.size]);ret (.ref h1.objs.size)) _ X.xe { s with heap:=h2 }
 refine wpAny_bind (wpAny_holding (wpAny_call_entry (s:={ s with heap:=h2 }) slot_list_sort ⟨_,hD,rfl⟩ entry_list_sort ?_ (args_list_sort _)))
 refine q0o (s:={ s with heap:=h2 }) (H:=H) (σ:=σ) (pins:=pins) (X:=X) hD (λh' kp=>?_) r v S (by lia) (by lia) λq h' m hqp hqs kp he=>⟨_,rfl,?_⟩
 ·refine I.kept (t':=s.toks) λb o e=>?_
  refine kp b o (λz=>?_) (k2 b o e)
  have lt:b<s.heap.objs.size:=Heap.lt_size e
  rw[z,n1] at lt
  exact Nat.not_succ_le_self _ (Nat.le_of_lt lt)
 ·refine wpAny_pure ⟨_,rfl,.ref h1.objs.size,upd H h1.objs.size (.lst (q.map λi=>ys.getD i .non)),?_,rfl,hq _ q (I.hok.fresh (by lia)) hqp hqs⟩
  have hqm:∀i∈q,i<ys.length:=λi hi=>by
   have:=hqp.mem_iff.mp hi
   rw[←r.length]
   simpa using this
  refine I.laid (t':=s.toks) (λb o e=>?_) (by lia) ⟨?_,_,m,v.pick q hqm,he⟩
  ·refine kp b o (λz=>?_) (k2 b o e)
   have lt:b<s.heap.objs.size:=Heap.lt_size e
   rw[z,n1] at lt
   exact Nat.not_succ_le_self _ (Nat.le_of_lt lt)
  ·have:=hqp.length_eq
   rw[List.length_map,this,List.length_range]
   have:=r.length
   lia
end
end L2
namespace L2
open PySem PySem.Spec PyProof.Rows
section
variable {X:Cx} {EX:St->XK} {K:PySem.W.Frag} {B H H0:Hp} {e:Expr} {es:List Expr} {tA:TVA} {x y:Str} {p pos:Pos}
def qe8(rx:R)(Q:R->Prop):Prop:=match rx.d with
|.lst ds=>SortD ds/\ds.length<64/\∀ds',ds'.Perm ds->ds'.Pairwise (λa b=>ltD a b=true)->Q (.own (.lst ds'))
|_=>False
theorem qid(hu64:X.A.units+64<cLine):VF X (.builtin "sorted") qe8:=by
 have hu:X.A.units+60<cLine:=by lia
 refine⟨_,qmp hu,λB H x rx Q Qd s px h k=>?_⟩
 unfold qe8 at h
 split at h
 ·rename_i ds e1
  obtain⟨hS,hl,hq⟩:=h
  obtain⟨a,xs,rfl,h1,r1⟩:=px.lst s e1
  refine⟨a,xs,ds,rfl,SqL.of h1,r1.same s,hS,hl,λl q hn hp hs=>?_⟩
  have hm:∀i∈q,i<ds.length:=λi hi=>by simpa using hp.mem_iff.mp hi
  have hr:((List.range ds.length).map λi=>ds.getD i .non)=ds:=by
   apply List.ext_getElem
   ·simp
   ·intro i h1 h2
    simp[List.getD_eq_getElem?_getD,h2]
  refine k (.own (.lst (q.map λi=>ds.getD i .non))) _ B _ (.grow s (qao hn _)) ⟨l,rfl,hn,s.free hn,qcf (r1.pick q hm)⟩ (hq _ ?_ ?_)
  ·have:=hp.map λi=>ds.getD i .non
   rw[hr] at this
   exact this
  ·rw[List.pairwise_map]
   exact hs
 ·exact h.elim
end
def keyW(w:List Str):List (List Nat):=w.map (·.cps.toList)
theorem qov:∀ {a b:List Str},keyW a=keyW b->a=b
|[],[],_=>rfl
|[],_::_,h=>by cases h
|_::_,[],h=>by cases h
|x::a,y::b,h=>by
  injection h with h1 h2
  rw[qd4 h1,qov h2]
theorem qoy:∀a b:List Str,ltDs (a.map D.str) (b.map D.str)=decide (keyW a<keyW b)
|[],[]=>by unfold ltDs;simp[keyW]
|[],y::b=>by
  show ltDs [] (.str y::b.map D.str)=_
  unfold ltDs
  simp[keyW]
|x::a,[]=>by
  show ltDs (.str x::a.map D.str) []=_
  unfold ltDs
  simp[keyW]
|x::a,y::b=>by
  show ltDs (.str x::a.map D.str) (.str y::b.map D.str)=decide (x.cps.toList::keyW a<y.cps.toList::keyW b)
  unfold ltDs
  rw[qoy a b]
  by_cases e:x=y
  ·subst e
   rw[if_pos (qc5 _)]
   exact decide_eq_decide.mpr (by rw[List.cons_lt_cons_iff];simp[List.lt_irrefl])
  ·rw[if_neg (λz=>e (D.str.inj (qsl z)))]
   unfold ltD
   refine decide_eq_decide.mpr ?_
   rw[List.cons_lt_cons_iff]
   constructor
   ·exact .inl
   ·rintro (z|⟨z,_⟩)
    ·exact z
    ·exact absurd (qd4 z) e
theorem q0i{a b c:List (List Nat)}(h1:a<b)(h2:b<c):a<c:=List.lt_trans h1 h2
theorem q0h{a b:List (List Nat)}(h1:a<b):¬ b<a:=λh2=>List.lt_irrefl a (List.lt_trans h1 h2)
theorem qv9(a b:List (List Nat))(h:a≠b):a<b\/b<a:=by
 by_cases h1:a<b
 ·exact .inl h1
 ·by_cases h2:b<a
  ·exact .inr h2
  ·exact absurd (List.le_antisymm (List.not_lt.mp h2) (List.not_lt.mp h1)) h
def ltW(a b:List Str):Bool:=decide (keyW a<keyW b)
theorem qd1(a b:List Str):ltD (wayD a) (wayD b)=ltW a b:=by
 show ltD (.tup (a.map D.str)) (.tup (b.map D.str))=_
 unfold ltD
 exact qoy a b
theorem qy1{a b c:List Str}(h1:ltW a b=true)(h2:ltW b c=true):ltW a c=true:=decide_eq_true (q0i (of_decide_eq_true h1) (of_decide_eq_true h2))
theorem qoz{a b:List Str}(h1:ltW a b=true):ltW b a=false:=decide_eq_false (q0h (of_decide_eq_true h1))
theorem qtl{a b:List Str}(h:a≠b):ltW a b=true\/ltW b a=true:=(qv9 _ _ λe=>h (qov e)).imp decide_eq_true decide_eq_true
theorem qj2:∀a b:List Str,qdt (a.map D.str) (b.map D.str)=true
|[],_=>by
  show qdt [] _=true
  unfold qdt
  rfl
|_::_,[]=>by
  show qdt (_::_) []=true
  unfold qdt
  rfl
|x::a,y::b=>by
  show qdt (.str x::a.map D.str) (.str y::b.map D.str)=true
  unfold qdt
  rw[qj2 a b]
  unfold ordD
  rfl
theorem qz6(a:List Str):qci (a.map D.str)=0:=by
 induction a with
|nil=>rfl
|cons x a ih =>
  show max (depD (.str x)) (qci (a.map D.str))=0
  rw[ih]
  rfl
theorem qkq{a b:List Str}(h:wayD a=wayD b):a=b:=by
 have h':a.map D.str=b.map D.str:=D.tup.inj h
 exact(qhj _ _).mp h'
theorem qq5{ws:List (List Str)}(nd:ws.Nodup):SortD (ws.map wayD) where
 tup:=.inl λd hd=>by
  obtain⟨w,_,rfl⟩:=List.mem_map.mp hd
  refine⟨w.map D.str,rfl,by rw[qz6];lia,λx hx=>?_⟩
  rw[List.getElem?_map] at hx
  obtain⟨z,_,rfl⟩:=Option.map_eq_some_iff.mp hx
  rfl
 ord:=λd hd e he=>by
  obtain⟨a,_,rfl⟩:=List.mem_map.mp hd
  obtain⟨b,_,rfl⟩:=List.mem_map.mp he
  show ordD (.tup _) (.tup _)=true
  unfold ordD
  exact qj2 a b
 tr:=λd hd e he f hf=>by
  obtain⟨a,_,rfl⟩:=List.mem_map.mp hd
  obtain⟨b,_,rfl⟩:=List.mem_map.mp he
  obtain⟨c,_,rfl⟩:=List.mem_map.mp hf
  rw[qd1,qd1,qd1]
  exact qy1
 as:=λd hd e he=>by
  obtain⟨a,_,rfl⟩:=List.mem_map.mp hd
  obtain⟨b,_,rfl⟩:=List.mem_map.mp he
  rw[qd1,qd1]
  exact qoz
 tot:=λd hd e he ne=>by
  obtain⟨a,_,rfl⟩:=List.mem_map.mp hd
  obtain⟨b,_,rfl⟩:=List.mem_map.mp he
  rw[qd1,qd1]
  exact qtl λz=>ne (by rw[z])
 nd:=by
  rw[List.nodup_iff_pairwise_ne] at nd ⊢
  rw[List.pairwise_map]
  exact nd.imp λh z=>h (qkq z)
theorem qja{α:Type}{lt:α->α->Bool}(as:∀a b,lt a b=true->lt b a=false):∀ {xs ys:List α},xs.Perm ys->xs.Pairwise (λa b=>lt a b=true)->ys.Pairwise (λa b=>lt a b=true)->xs=ys
|[],ys,hp,_,_=>(List.nil_perm.mp hp).symm▸rfl
|x::xs,[],hp,_,_=>by cases hp.length_eq
|x::xs,y::ys,hp,hx,hy=>by
  rw[List.pairwise_cons] at hx hy
  have e:x=y:=by
   have m1:x∈y::ys:=hp.mem_iff.mp (List.mem_cons_self ..)
   have m2:y∈x::xs:=hp.mem_iff.mpr (List.mem_cons_self ..)
   rcases List.mem_cons.mp m1 with z|z
   ·exact z
   rcases List.mem_cons.mp m2 with w|w
   ·exact w.symm
   have l1:=hx.1 y w
   have l2:=hy.1 x z
   rw[as _ _ l1] at l2
   cases l2
  subst e
  rw[qja as (List.perm_cons x |>.mp hp) hx.2 hy.2]
end L2
namespace L2
open PySem PySem.Spec PyProof.Rows
def qzg(tk tv:TE):TE:=λσ H Q=>∀p,H p=none->tk σ (upd H p (.dT [])) λx H1=>tv σ H1 λy H2=>H2 p=some (.dT [])/\∃b ks,x=.ref b/\H2 b=some (.tup (ks.map kV))/\Q (.ref p) (upd H2 p (.dT [(ks,y)]))
def qnr(C:V->V->Hp->Prop)(ps:List (V×V))(H:Hp):Prop:=match ps with
|[(x,y)]=>C x y H
|_=>False
theorem qqu{C:V->V->Hp->Prop}{ps:List (V×V)}{H:Hp}(h:qnr C ps H):∃x y,ps=[(x,y)]/\C x y H:=by
 unfold qnr at h
 split at h
 ·exact⟨_,_,rfl,h⟩
 ·exact h.elim
section
variable {X:Cx} {pos:Pos} {k v:Expr} {tk tv:TE}
theorem qw2(hu:X.A.units+1<cLine)(hk:PE X k tk)(hv:PE X v tv):PE X (.Dict [some k] [v] pos) (qzg tk tv):=by
 intro pins s σ H Q I h
 have hn:=I.hok.fresh (Nat.le_refl s.heap.objs.size)
 have I1:=I.laid (a:=s.heap.objs.size) (o:=.dT []) (h':=s.heap.push { cls:=.type "dict",data:=.dict #[] }) (t':=s.toks) (λ_ _ q=>Heap.get?_push_of_some _ q) (Nat.le_refl _) (qon s.heap I.big)
 have P:=qw8 (pos:=pos) hk hv q1n pins _ σ _ (qnr λx y H2=>H2 s.heap.objs.size=some (.dT [])/\∃(b:Addr) (ks:List Key),x=.ref b/\H2 b=some (.tup (ks.map kV))/\Q (.ref s.heap.objs.size) (upd H2 s.heap.objs.size (.dT [(ks,y)]))) I1 (h _ hn)
 rw[arm_eval_Dict,zip_pairTrees [some k] [v] X.env pos rfl rfl,dictDisplay_pairs _ (by simp[pairTrees]) (by simp[pairTrees])]
 refine wpAny_bind (wpAny_standAt (wpAny_bind ?_))
 unfold subDict
 refine wpAny_bind (wpAny_alloc (wpAny_bind (wpAny_holding ?_)))
 rw[if_pos (by simp[pairTrees])]
 refine wpAny_bind (wpAny_mono P (λws s2 hw=>?_) λ_ _ e=>e)
 obtain⟨ps,H2,I2,rel,hp⟩:=hw
 obtain⟨x,y,rfl,e,b,ks,rfl,eb,q2⟩:=qqu hp
 cases rel with
|cons hr rel =>
 cases rel
 obtain⟨ru,rv⟩:=hr
 rename_i wp
 obtain⟨u,r⟩:=wp
 obtain rfl:u=Value.ref b:=ru
 obtain⟨z,hd,xs,rk,dd⟩:=q3r I2.hok e
 cases rk
 refine wpAny_holding ?_
 rw[List.forIn_cons]
 refine wpAny_bind (wpAny_bind (wpAny_bind (wpAny_dictSet_heap (hsz:=Nat.zero_le _) (show (tupleKind (qbu X.prog X.w)).room X.A from by show X.A.units<cLine;lia) (qlc I2.hok eb) dd λh' dd' hs=>wpAny_pure ?_)))
 dsimp only
 rw[List.forIn_nil]
 refine wpAny_pure (wpAny_pure (wpAny_pure (wpAny_pure ⟨.ref s.heap.objs.size,_,?_,rfl,q2⟩)))
 obtain⟨q,es,ep,hq,g2,g3,g4,_,g5⟩:=dd'
 refine qmq I2 (by rw[e];exact True.intro) hs ⟨q,hq⟩ ⟨by show 1<=sizeLine;decide,hd,[(ks,b,r)],.cons ⟨rfl,?_,rv⟩ .nil,q,es,ep,hq,g2,g3,g4,g5⟩
 rw[qa9 (q4c eb e (λz=>nomatch z))]
 exact eb
theorem qxd(hu:X.A.units+1<cLine)(hk:QE X k tk)(hv:QE X v tv):QE X (.Dict [some k] [v] pos) (qzg tk tv):=⟨qw2 hu hk.u hv.u⟩
end
section
variable {X:Cx} {EX:St->XK} {pos:Pos} {k v:Expr} {tk tv:TV}
def qph(tk tv:TV):TV:=λτ Q=>tk τ λrk=>match rk.d with
|.tup es=>∃w:List Str,es=w.map D.str/\("" : Str)∉w/\tv τ λrv=>exR rv (λ_=>False) (pubR rv λd=>Q (.own (.dT [w] [d])))
|_=>False
theorem qya(hu:X.A.units+64<cLine)(hk:VE X EX k tk)(hv:VE X EX v tv):VE X EX (.Dict [some k] [v] pos) (qph tk tv) :=
 let ⟨_,a1,a2⟩:=hk.u;let ⟨_,b1,b2⟩:=hv.u;⟨_,qxd (by lia) a1 b1,λH0 B H τ σ Q Qd s S h xc kk p hp=>by
  have g0:Stp B H B (upd H p (.dT [])):=.grow s (qao hp _)
  refine a2 H0 B (upd H p (.dT [])) τ σ _ _ g0.s (S.step g0) h (xno λ_ q=>q) λrk vk B1 H1 p1 q1 h1=>?_
  split at h1
  ·rename_i es ek
   obtain⟨w,rfl,hne,h1⟩:=h1
   obtain⟨b,rfl,hb⟩:=q1.pk.way ek hne
   have S1:=S.step (g0.trans p1)
   refine b2 H0 B1 H1 τ σ _ _ p1.s S1 h1 (xno λ_ q=>by exact q) λrv vv B2 H2 p2 q2 h2=>?_
   obtain⟨d,B3,p3,_,rp,hq⟩:=pub p2 q2 (q2.ok h2)
   have hpp:(upd H p (.dT [])) p=some (.dT []):=qa6
   have e1:H1 p=some (.dT []):=p1.h _ _ hpp
   have e2:H2 p=some (.dT []):=p3.h _ _ e1
   refine⟨e2,b,wK w,rfl,?_,?_⟩
   ·rw[qu8]
    exact p3.h _ _ (p1.s _ _ hb)
   ·have hB3:B3 p=none:=(p1.trans p3).keep (s.free hp) (by rw[hpp];exact λz=>by cases z) λxs z=>by rw[hpp] at z;cases z
    refine kk (.own (.dT [w] [d])) _ B3 _ ?_ ⟨p,rfl,hp,hB3,?_⟩ hq
    ·exact(g0.trans (p1.trans p3)).upd hp hB3
    ·refine⟨[(wK w,vv)],qa6,rfl,.cons rp .nil⟩
  ·exact h1.elim⟩
end
end L2
namespace L2
open PySem PySem.Spec PyProof.Rows
theorem Room.dict{k:Nat}{A:Around}(r:Room k A):A.units+64<cLine:=by
 have:=r.un
 lia
end L2
namespace L2
open PySem PySem.Spec PyProof.Rows
section
variable {X:Cx} {EX:St->XK} {a:Expr} {ta:TV} {p pos:Pos}
end
end L2
namespace L2
open PySem PySem.Spec PyProof.Rows
theorem eqW(a b:List Str):eqD (.tup (a.map D.str)) (.tup (b.map D.str))=decide (a=b):=qb5 (by
  rw[eqD_iff,decide_eq_true_eq]
  exact⟨λz=>qkq z,λz=>by rw[z]⟩)
theorem cmpW(a b:List Str):cmpD (.tup (a.map D.str)) (.tup (b.map D.str))=true:=by
 unfold cmpD
 exact qfb _ _
theorem depW(a:List Str):depD (.tup (a.map D.str))<=50:=by
 unfold depD
 rw[qgq]
 decide
def unW:D->List Str
|.tup es=>(strsOf es).getD []
|_=>[]
theorem qn7(w:List Str):unW (wayD w)=w:=by
 show (strsOf (w.map D.str)).getD []=w
 rw[qf6]
 rfl
theorem qvo{ds:List D}{ws:List (List Str)}(hp:ds.Perm (ws.map wayD))(hs:ds.Pairwise (λa b=>ltD a b=true)):∃vs:List (List Str),ds=vs.map wayD/\vs.Perm ws/\vs.Pairwise (λa b=>ltW a b=true):=by
 have e:ds=(ds.map unW).map wayD:=by
  rw[List.map_map]
  refine(List.map_id _).symm.trans (List.map_congr_left λd hd=>?_)
  obtain⟨w,_,rfl⟩:=List.mem_map.mp (hp.mem_iff.mp hd)
  show wayD w=wayD (unW (wayD w))
  rw[qn7]
 refine⟨ds.map unW,e,?_,?_⟩
 ·have:=hp.map unW
  rw[List.map_map] at this
  exact this.trans (List.Perm.of_eq ((List.map_congr_left λw _=>qn7 w).trans (List.map_id _)))
 ·rw[e,List.pairwise_map] at hs
  exact hs.imp λh=>by rw[←qd1];exact h
abbrev Row:=List Str×Str×Str
def rowD(r:Row):D:=.tup [wayD r.1,.str r.2.1,.str r.2.2]
def unR:D->Row
|.tup [w,.str m,.str t]=>(unW w,m,t)
|_=>([],"","")
theorem qkf(r:Row):unR (rowD r)=r:=by
 show (unW (wayD r.1),r.2.1,r.2.2)=r
 rw[qn7]
theorem qxp{a b:Row}(h:rowD a=rowD b):a=b:=by rw[←qkf a,←qkf b,h]
theorem cmpR(a b:Row):cmpD (rowD a) (rowD b)=true:=by
 show cmpD (.tup [.tup (a.1.map D.str),.str a.2.1,.str a.2.2]) (.tup [.tup (b.1.map D.str),.str b.2.1,.str b.2.2])=true
 have h:=cmpW a.1 b.1
 unfold cmpD at h ⊢
 simp only[qcu,cmpD,h,qsa,Bool.and_self,Bool.true_and]
theorem qz4(a:Row):depD (rowD a)=1+0\/depD (rowD a)<=20:=by
 right
 show depD (.tup [.tup (a.1.map D.str),.str a.2.1,.str a.2.2])<=20
 unfold depD
 simp only[qci,depD,qgq]
 decide
theorem depR(a:Row):depD (rowD a)<=20:=by
 rcases qz4 a with h|h
 ·lia
 ·exact h
theorem qeh{a b:Row}(h:a.1=b.1->a=b):ltD (rowD a) (rowD b)=ltW a.1 b.1:=by
 have e:ltD (rowD a) (rowD b)=ltDs [wayD a.1,.str a.2.1,.str a.2.2] [wayD b.1,.str b.2.1,.str b.2.2]:=by
  show ltD (.tup _) (.tup _)=_
  unfold ltD
  rfl
 rw[e]
 by_cases q:a.1=b.1
 ·have:=h q
  subst this
  unfold ltDs
  rw[if_pos (qc5 _)]
  unfold ltDs
  rw[if_pos (qc5 _)]
  unfold ltDs
  rw[if_pos (qc5 _)]
  unfold ltDs
  exact(decide_eq_false (List.lt_irrefl _)).symm
 ·unfold ltDs
  rw[if_neg (λz=>q (qkq (qsl z)))]
  exact qd1 a.1 b.1
theorem qb3{rs:List Row}(nd:(rs.map (·.1)).Nodup){a b:Row}(ha:a∈rs)(hb:b∈rs)(h:a.1=b.1):a=b:=by
 induction rs with
|nil=>cases ha
|cons r rs ih =>
  rw[List.map_cons,List.nodup_cons] at nd
  rcases List.mem_cons.mp ha with ea|ha2
  ·rcases List.mem_cons.mp hb with eb|hb2
   ·rw[ea,eb]
   ·exact absurd (show r.1∈rs.map (·.1) from List.mem_map.mpr ⟨b,hb2,by rw[←h,ea]⟩) nd.1
  ·rcases List.mem_cons.mp hb with eb|hb2
   ·exact absurd (show r.1∈rs.map (·.1) from List.mem_map.mpr ⟨a,ha2,by rw[h,eb]⟩) nd.1
   ·exact ih nd.2 ha2 hb2
theorem qi9{rs:List Row}(nd:(rs.map (·.1)).Nodup):SortD (rs.map rowD) where
 tup:=.inl λd hd=>by
  obtain⟨r,_,rfl⟩:=List.mem_map.mp hd
  refine⟨_,rfl,?_,λx hx=>?_⟩
  ·have:=depR r
   unfold rowD depD at this
   lia
  ·cases hx
   rfl
 ord:=λd hd e he=>by
  obtain⟨a,_,rfl⟩:=List.mem_map.mp hd
  obtain⟨b,_,rfl⟩:=List.mem_map.mp he
  show ordD (.tup [.tup (a.1.map D.str),.str a.2.1,.str a.2.2]) (.tup [.tup (b.1.map D.str),.str b.2.1,.str b.2.2])=true
  simp only[ordD,qdt,qj2,Bool.and_self]
 tr:=λd hd e he f hf=>by
  obtain⟨a,ha,rfl⟩:=List.mem_map.mp hd
  obtain⟨b,hb,rfl⟩:=List.mem_map.mp he
  obtain⟨c,hc,rfl⟩:=List.mem_map.mp hf
  rw[qeh (qb3 nd ha hb),qeh (qb3 nd hb hc),qeh (qb3 nd ha hc)]
  exact qy1
 as:=λd hd e he=>by
  obtain⟨a,ha,rfl⟩:=List.mem_map.mp hd
  obtain⟨b,hb,rfl⟩:=List.mem_map.mp he
  rw[qeh (qb3 nd ha hb),qeh (qb3 nd hb ha)]
  exact qoz
 tot:=λd hd e he ne=>by
  obtain⟨a,ha,rfl⟩:=List.mem_map.mp hd
  obtain⟨b,hb,rfl⟩:=List.mem_map.mp he
  rw[qeh (qb3 nd ha hb),qeh (qb3 nd hb ha)]
  exact qtl λz=>ne (by rw[qb3 nd ha hb z])
 nd:=by
  rw[List.nodup_iff_pairwise_ne] at nd ⊢
  rw[List.pairwise_map] at nd ⊢
  exact nd.imp λh z=>h (by rw[qxp z])
abbrev qbf(rs:List Row):Prop:=rs.Pairwise (λa b=>ltW a.1 b.1=true)
theorem qlz{ds:List D}{rs:List Row}(nd:(rs.map (·.1)).Nodup)(hp:ds.Perm (rs.map rowD))(hs:ds.Pairwise (λa b=>ltD a b=true)):∃ts:List Row,ds=ts.map rowD/\ts.Perm rs/\qbf ts:=by
 have e:ds=(ds.map unR).map rowD:=by
  rw[List.map_map]
  refine(List.map_id _).symm.trans (List.map_congr_left λd hd=>?_)
  obtain⟨r,_,rfl⟩:=List.mem_map.mp (hp.mem_iff.mp hd)
  show rowD r=rowD (unR (rowD r))
  rw[qkf]
 have pm:(ds.map unR).Perm rs:=by
  have:=hp.map unR
  rw[List.map_map] at this
  exact this.trans (List.Perm.of_eq ((List.map_congr_left λr _=>qkf r).trans (List.map_id _)))
 refine⟨ds.map unR,e,pm,?_⟩
 rw[e,List.pairwise_map] at hs
 have nd2:((ds.map unR).map (·.1)).Nodup:=((pm.map (·.1)).nodup_iff).mpr nd
 exact hs.imp_of_mem λ{a b} ma mb h=>by rw[←qeh (qb3 nd2 ma mb)];exact h
theorem qqw{rs:List Row}(h:qbf rs):(rs.map (·.1)).Nodup:=by
 rw[List.nodup_iff_pairwise_ne,List.pairwise_map]
 exact h.imp λ{a b} q z=>by
  rw[z] at q
  have:=qoz q
  rw[q] at this
  cases this
theorem qhu{rs ts:List Row}(hp:rs.Perm ts)(h1:qbf rs)(h2:qbf ts):rs=ts:=qja (lt:=λa b:Row=>ltW a.1 b.1) (λ_ _=>qoz) hp h1 h2
def qak(rs:List Row):D:=.lst (rs.map rowD)
theorem q3l:∀rs ts:List Row,qcu (rs.map rowD) (ts.map rowD)=true
|[],_=>by cases ‹List Row›<;>rfl
|_::_,[]=>rfl
|a::rs,b::ts=>by
  show qcu (rowD a::rs.map rowD) (rowD b::ts.map rowD)=true
  unfold qcu
  rw[cmpR,q3l rs ts]
  rfl
theorem q6x(rs ts:List Row):cmpD (qak rs) (qak ts)=true:=by
 show cmpD (.lst _) (.lst _)=true
 unfold cmpD
 exact q3l rs ts
theorem q3p:∀rs:List Row,qci (rs.map rowD)<=20
|[]=>by
  show qci []<=20
  unfold qci
  lia
|a::rs=>by
  show qci (rowD a::rs.map rowD)<=20
  unfold qci
  have:=depR a
  have:=q3p rs
  lia
theorem q6y(rs:List Row):depD (qak rs)<=21:=by
 show depD (.lst _)<=21
 unfold depD
 have:=q3p rs
 lia
section
variable {X:Cx} {pins:List (Addr×Obj)} {σ:St} {H:Hp} {s:Shared}
theorem q5z{A:Around}(I:Inv X pins σ H s){a b:Addr}{ds es:List D}{xs ys:List V}(ha:SqT X.K H a xs)(hb:SqT X.K H b ys)(r1:Reps X.K H ds xs)(r2:Reps X.K H es ys)(hc:qcu ds es=true)(hu:A.units<cLine)
  (ih:∀d∈ds,∀(e:D) (v z:V) (u w:Value),Rep X.K H d v->Rep X.K H e z->RelV v u->RelV z w->cmpD d e=true->SeqAt.EqAt A.in1 s u w (eqD d e)):SeqAt.RcNeAt A s (.ref a) (.ref b) (!eqD (.tup ds) (.tup es)):=by
 obtain⟨its,v1,p1,_⟩:=I.tuple ha
 obtain⟨its2,v2,p2,_⟩:=I.tuple hb
 have:=SeqAt.RcNeAt.tuples (A:=A) (s:=s) (e:=λj=>eqD (ds.getD j .non) (es.getD j .non)) (show s.heap.IsTuple a its.toArray from p1) (show s.heap.IsTuple b its2.toArray from p2) hu (qhe r1 r2 v1 v2 hc ih)
 rw[List.size_toArray,List.size_toArray,←v1.length,←v2.length,←r1.length,←r2.length,qer] at this
 rw[qsn]
 exact this
theorem q5y{A:Around}(I:Inv X pins σ H s){a b:Addr}{ds es:List D}{xs ys:List V}(ha:H a=some (.lst xs))(hb:H b=some (.lst ys))(r1:Reps X.K H ds xs)(r2:Reps X.K H es ys)(hc:qcu ds es=true)(hu:A.units<cLine)
  (ih:∀d∈ds,∀(e:D) (v z:V) (u w:Value),Rep X.K H d v->Rep X.K H e z->RelV v u->RelV z w->cmpD d e=true->SeqAt.EqAt A.in1 s u w (eqD d e)):SeqAt.RcNeAt A s (.ref a) (.ref b) (!eqD (.lst ds) (.lst es)):=by
 obtain⟨its,v1,p1,_⟩:=I.list (SqL.of ha)
 obtain⟨its2,v2,p2,_⟩:=I.list (SqL.of hb)
 have er:=qer ds es
 rw[qsm]
 by_cases hl:ds.length=es.length
 ·have hz:its.toArray.size=its2.toArray.size:=by rw[List.size_toArray,List.size_toArray,←v1.length,←v2.length,←r1.length,←r2.length,hl]
  have:=SeqAt.RcNeAt.lists (A:=A) (s:=s) (e:=λj=>eqD (ds.getD j .non) (es.getD j .non)) p1.isList p2.isList hz hu (qhe r1 r2 v1 v2 hc ih)
  rw[List.size_toArray,←v1.length,←r1.length] at this
  rw[←hl,Nat.min_self] at er
  have e2:(ds.length==ds.length)=true:=by simp
  rw[e2,Bool.and_true] at er
  rw[er] at this
  exact this
 ·have e2:(ds.length==es.length)=false:=by simpa using hl
  rw[e2,Bool.and_false] at er
  rw[←er]
  refine SeqAt.RcNeAt.lists_lengths p1.isList p2.isList ?_ hu
  rw[List.size_toArray,List.size_toArray,←v1.length,←v2.length,←r1.length,←r2.length]
  simpa using hl
theorem q4j(hu:X.A.units+60<cLine):OpR X (compareOp .NotEq) (rEqD X.K not):=by
 intro pins s σ H x y v u Q I rx ry h
 obtain⟨d,e,hd,he,hc,hn,q⟩:=h
 have fin:EP X pins σ Q (.bool (!eqD d e)) s:=⟨.bl (!eqD d e),H,I,rfl,q⟩
 have un:X.A.in1.units=X.A.units+1:=rfl
 cases d with
|tup ds =>
  cases e with
 |tup es =>
   unfold Rep at hd he
   obtain⟨a,xs,rfl,ha,r1⟩:=hd
   obtain⟨b,ys,rfl,hb,r2⟩:=he
   cases rx
   cases ry
   unfold cmpD at hc
   unfold depD at hn
   exact q5z I ha.sq hb.sq r1 r2 hc (by lia) (λd hd e v z u w h1 h2 h3 h4 h5=>qgf I _ X.A.in1 d e v z u w (Nat.le_refl _) h1 h2 h3 h4 h5 (by have:=qco hd;lia)) _ _ _ _ fin
 |_=>unfold cmpD at hc;cases hc
|lst ds =>
  cases e with
 |lst es =>
   unfold Rep at hd he
   obtain⟨a,xs,rfl,ha,r1⟩:=hd
   obtain⟨b,ys,rfl,hb,r2⟩:=he
   cases rx
   cases ry
   unfold cmpD at hc
   unfold depD at hn
   exact q5y I ha hb r1 r2 hc (by lia) (λd hd e v z u w h1 h2 h3 h4 h5=>qgf I _ X.A.in1 d e v z u w (Nat.le_refl _) h1 h2 h3 h4 h5 (by have:=qco hd;lia)) _ _ _ _ fin
 |_=>unfold cmpD at hc;cases hc
|_ =>
  obtain⟨v',z',q1,q2,q3⟩:=qn3 hc (λ_ h=>by cases h) (λ_ h=>by cases h)
  have e1:=qew hd q1
  have e2:=qew he q2
  subst e1 e2
  have q':Q (.bl (!eqD _ _)) H:=q
  rw[qjm q1 q2] at q'
  exact q67 pins s σ H _ _ v u Q I rx ry ⟨q3,q'⟩
def vNeD(rx ry:R)(Q:R->Prop):Prop:=cmpD rx.d ry.d=true/\depD rx.d<=50/\Q (.val (.bl (!eqD rx.d ry.d)))
theorem qdw(hu:X.A.units+64<cLine):VO X (compareOp .NotEq) vNeD :=
 ⟨_,q4j (by lia),λB H x y rx ry Q Qd s px py h k=>⟨rx.d,ry.d,px.rep s,py.rep s,h.1,h.2.1,k _ _ B H (.refl s) (repV rfl) h.2.2⟩⟩
end
section
variable {X:Cx} {pos p2:Pos} {e st:Expr} {te:TE} {lo hi:Option Expr} {tl th ts:TO}
end
section
variable {X:Cx} {EX:St->XK} {pos p2:Pos} {e st:Expr} {te:TV} {lo hi:Option Expr} {tl th ts:TVO} {K:PySem.W.Frag} {B:Hp}
end
end L2
namespace L2
section
variable {α:Type} [DecidableEq α]
def preB(w o:List α):Bool:=decide (w.take o.length=o)
def qc4(w o:List α):Bool:=decide (o.length<w.length)&&preB w o
theorem preB_iff{w o:List α}:preB w o=true↔o <+: w:=by
 unfold preB
 rw[decide_eq_true_eq]
 constructor
 ·intro h
  rw[←h]
  exact List.take_prefix _ _
 ·rintro⟨t,rfl⟩
  exact List.take_left
theorem underB_iff{w o:List α}:qc4 w o=true↔o <+: w/\w≠o:=by
 unfold qc4
 rw[Bool.and_eq_true,decide_eq_true_eq,preB_iff]
 constructor
 ·rintro⟨h1,h2⟩
  exact⟨h2,λe=>by rw[e] at h1;lia⟩
 ·rintro⟨h1,h2⟩
  refine⟨?_,h1⟩
  have:=h1.length_le
  rcases Nat.lt_or_ge o.length w.length with h|h
  ·exact h
  ·exact absurd (h1.eq_of_length (by lia)).symm h2
theorem q4z(w o:List α):preB w o=(decide (w=o)||qc4 w o):=by
 by_cases h:w=o
 ·subst h
  rw[decide_eq_true rfl,Bool.true_or,preB_iff]
  exact List.prefix_refl _
 ·rw[decide_eq_false h,Bool.false_or]
  refine Bool.eq_iff_iff.mpr ?_
  rw[preB_iff,underB_iff]
  exact⟨λq=>⟨q,h⟩,λq=>q.1⟩
def qgh(w old new:List α):List α:=if w=old\/qc4 w old=true then new++w.drop old.length else w
theorem qui(w new:List α):qgh w [] new=new++w:=by
 unfold qgh
 rw[if_pos]
 ·rfl
 ·by_cases h:w=[]
  ·exact .inl h
  ·exact .inr (underB_iff.mpr ⟨List.nil_prefix,h⟩)
end
section
variable {α β:Type} [DecidableEq α]
abbrev Rw(α β:Type):=List α×β
def qcs(rs:List (Rw α β))(w:List α):List (Rw α β):=rs.filter λr=>!preB r.1 w
def q4m(rs:List (Rw α β))(w:List α):List (Rw α β):=(rs.filter λr=>qc4 r.1 w).map λr=>(qgh r.1 w [],r.2)
def qei(w:List α)(b:β)(below:List (Rw α β)):List (Rw α β):=(w,b)::below.map λr=>(w++r.1,r.2)
def qb9(rs:List (Rw α β))(w:List α)(b:β)(below:List (Rw α β)):List (Rw α β):=qcs rs w++qei w b below
theorem qv5{rs below:List (Rw α β)}{w:List α}{b:β}(h1:(rs.map (·.1)).Nodup)(h2:(below.map (·.1)).Nodup)(h3:∀r∈below,r.1≠[]):((qb9 rs w b below).map (·.1)).Nodup:=by
 unfold qb9 qei qcs
 rw[List.map_append,List.nodup_append]
 refine⟨h1.sublist ((List.filter_sublist).map _),?_,?_⟩
 ·rw[List.map_cons,List.nodup_cons,List.map_map]
  refine⟨λm=>?_,?_⟩
  ·obtain⟨r,mr,e⟩:=List.mem_map.mp m
   have e':w++r.1=w:=e
   exact h3 r mr (by simpa using e')
  ·rw[List.nodup_iff_pairwise_ne,List.pairwise_map] at h2 ⊢
   exact h2.imp λh e=>h (List.append_cancel_left e)
 ·intro x hx y hy e
  subst e
  obtain⟨r,mr,rfl⟩:=List.mem_map.mp hx
  have np:=(List.mem_filter.mp mr).2
  have pr:preB r.1 w=true:=by
   rw[preB_iff]
   rw[List.map_cons,List.mem_cons] at hy
   rcases hy with hy|hy
   ·rw[hy]
    exact List.prefix_refl _
   ·rw[List.map_map] at hy
    obtain⟨q,mq,eq⟩:=List.mem_map.mp hy
    have eq':w++q.1=r.1:=eq
    rw[←eq']
    exact List.prefix_append _ _
  rw[pr] at np
  cases np
end
end L2
namespace L2
open PySem
abbrev qah:Str:="folder"
abbrev qqe:Str:="shut"
abbrev qtm:Str:="gone"
abbrev qbe:Str:="file"
abbrev qbz:Str:="link"
abbrev qa8:Str:=""
def q62(p:List Row)(w:List Str):Option Str:=(p.find? λr=>decide (r.1=w)).map (·.2.1)
def q3w:Option Str->Bool
|none=>false
|some m=>!decide (m=qah)
def q60(p:List Row)(w:List Str):Bool:=(List.range w.length).any λk=>q3w (q62 p (w.take k))
structure TreeOk(tr:List Row):Prop where
 so:qbf tr
 cl:∀r∈tr,r.1≠[]/\(r.1.dropLast=[]\/r.1.dropLast∈tr.map (·.1))
structure PaneOk(p:List Row):Prop where
 so:qbf p
 cl:∀r∈p,r.1=[]\/r.1.dropLast=[]\/∃q∈p,q.1=r.1.dropLast/\q.2.1≠qtm
 mr:∀r∈p,(r.2.1=qbe\/r.2.1=qbz)\/(r.2.1=qah/\r.2.2=qa8)\/r.2.1=qqe\/r.2.1=qtm
 rt:∀r∈p,r.1=[]->r.2.1=qqe
structure Clo(tr:List Row):Prop where
 so:qbf tr
 cl:∀r∈tr,r.1=[]\/r.1.dropLast=[]\/r.1.dropLast∈tr.map (·.1)
def thD:Str×Str->D:=λt=>.tup [.str t.1,.str t.2]
def WyOk(w:List Str):Prop:=w.length<=20/\∀z∈w,1<=z.length/\z.length<=12
def Wy14(w:List Str):Prop:=w.length<=14/\∀z∈w,1<=z.length/\z.length<=12
theorem Wy14.ok{w:List Str}(h:Wy14 w):WyOk w:=⟨by have:=h.1;lia,h.2⟩
theorem WyOk.ne{w:List Str}(h:WyOk w):("" : Str)∉w:=λm=>by
 have:=(h.2 _ m).1
 have e:("" : Str).length=0:=by decide +kernel
 lia
def prR(r:Row):List Str×D:=(r.1,thD r.2)
theorem q4b(rs:List Row)(w:List Str):lkP (rs.map prR) w=(rs.find? λr=>decide (r.1=w)).map λr=>thD r.2:=by
 unfold lkP
 rw[List.find?_map,Option.map_map]
 rfl
theorem q28(rs:List Row):(rs.map prR).map (·.1)=rs.map (·.1):=by rw[List.map_map];rfl
def bulk(p:List Row):Nat:=(p.filter λr=>!decide (r.1=[])).length
def mkOk(r:Row):Prop:=(r.2.1=qbe\/r.2.1=qbz)\/(r.2.1=qah/\r.2.2=qa8)\/r.2.1=qqe\/r.2.1=qtm
def FS(m:Str):Prop:=m=qah\/m=qqe
def q3c(rs:List Row)(f:List Str):Prop:=Wy14 f/\(f=[]\/∃q∈rs,q.1=f/\FS q.2.1)
def q6v(rs:List Row)(r:Row):Prop:=(r.1=[]/\r.2.1=qqe)\/(r.1≠[]/\Wy14 r.1/\q3c rs r.1.dropLast/\mkOk r)
structure PInv(i:Nat)(rs:List Row)(fs:List (List Str)):Prop where
 nd:(rs.map (·.1)).Nodup
 row:∀r∈rs,q6v rs r
 blk:bulk rs<=i
 len:rs.length<=i+1
 ne:fs≠[]
 fol:∀f∈fs,q3c rs f
 fln:fs.length<=i+1
 nu:∀r∈rs,r.2.1=qtm\/r.2.1=qqe->q60 rs r.1=false
def lkR(rs:List Row)(w:List Str):Str×Str:=((rs.find? λr=>decide (r.1=w)).map (·.2)).getD (qa8,qa8)
theorem qjn{rs:List Row}(nd:(rs.map (·.1)).Nodup){r:Row}(h:r∈rs):(rs.find? λq=>decide (q.1=r.1))=some r:=by
 cases e:rs.find? λq=>decide (q.1=r.1) with
|none=>exact absurd (decide_eq_true rfl) (List.find?_eq_none.mp e r h)
|some q =>
  have h1:=List.mem_of_find?_eq_some e
  have h2:q.1=r.1:=of_decide_eq_true (p:=q.1=r.1) (by simpa using List.find?_some e)
  rw[qb3 nd h1 h h2]
theorem ql0{rs:List Row}(nd:(rs.map (·.1)).Nodup){vs:List (List Str)}(hv:vs.Perm (rs.map (·.1)))(hs:vs.Pairwise (λa b=>ltW a b=true)):(vs.map λw=>(w,lkR rs w)).Perm rs/\qbf (vs.map λw=>(w,lkR rs w)):=by
 constructor
 ·refine(hv.map _).trans (List.Perm.of_eq ?_)
  rw[List.map_map]
  refine(List.map_congr_left λr hr=>?_).trans (List.map_id _)
  show (r.1,lkR rs r.1)=r
  unfold lkR
  rw[qjn nd hr]
  rfl
 ·show List.Pairwise _ (List.map _ _)
  rw[List.pairwise_map]
  exact hs
theorem qtg{rs:List Row}(nd:(rs.map (·.1)).Nodup){w:List Str}(h:w∈rs.map (·.1)):lkP (rs.map prR) w=some (thD (lkR rs w)):=by
 obtain⟨r,mr,rfl⟩:=List.mem_map.mp h
 rw[q4b]
 unfold lkR
 rw[qjn nd mr]
 rfl
def s6(u:Nat):Nat:=u%99991%9+(u+96542*1)%99991%9+(u+96542*2)%99991%9+(u+96542*3)%99991%9+(u+96542*4)%99991%9+(u+96542*5)%99991%9
end L2
namespace L2
open PySem PySem.Spec PyProof.Rows
mutual
def tupO:D->Bool
|.non=>true
|.bl _=>true
|.int _=>true
|.str _=>true
|.tup ds=>qe0 ds
|_=>false
def qe0:List D->Bool
|[]=>true
|d::ds=>tupO d&&qe0 ds
end
def dele(B:Hp)(ad:Addr):Hp:=λa=>if a=ad then none else B a
section
variable {K:PySem.W.Frag} {B:Hp} {ad:Addr}
theorem qjk{a:Addr}(h:a≠ad):dele B ad a=B a:=if_neg h
mutual
theorem Rep.less(hl:∀xs,B ad≠some (.tup xs)):∀(d:D) (v:V),tupO d=true->Rep K B d v->Rep K (dele B ad) d v
|.non,v,_,r=>by unfold Rep at r ⊢;exact r
|.bl _,v,_,r=>by unfold Rep at r ⊢;exact r
|.int _,v,_,r=>by unfold Rep at r ⊢;exact r
|.str _,v,_,r=>by unfold Rep at r ⊢;exact r
|.tup ds,v,h,r=>by
  unfold Rep at r ⊢
  unfold tupO at h
  obtain⟨a,xs,e,t,rs⟩:=r
  refine⟨a,xs,e,?_,Reps.less hl ds xs h rs⟩
  rcases t with t|t
  ·left
   rw[qjk (show a≠ad from λz=>hl xs (by rw[←z];exact t))]
   exact t
  ·exact .inr t
|.lst _,_,h,_=>by unfold tupO at h;cases h
|.dT _ _,_,h,_=>by unfold tupO at h;cases h
|.dK _ _,_,h,_=>by unfold tupO at h;cases h
|.scr _,_,h,_=>by unfold tupO at h;cases h
|.kt _,_,h,_=>by unfold tupO at h;cases h
|.exc _,_,h,_=>by unfold tupO at h;cases h
theorem Reps.less(hl:∀xs,B ad≠some (.tup xs)):∀(ds:List D) (vs:List V),qe0 ds=true->Reps K B ds vs->Reps K (dele B ad) ds vs
|[],vs,_,r=>by unfold Reps at r ⊢;exact r
|d::ds,vs,h,r=>by
  unfold Reps at r ⊢
  unfold qe0 at h
  rw[Bool.and_eq_true] at h
  obtain⟨x,xs,e,r1,r2⟩:=r
  exact⟨x,xs,e,Rep.less hl d x h.1 r1,Reps.less hl ds xs h.2 r2⟩
end
end
def tupR(r:R)(Q:R->Prop):Prop:=match r with
|.val d=>tupO d=true/\Q (.val d)
|.own (.lst ds)=>qe0 ds=true/\Q (.own (.lst ds))
|_=>False
def qn8(g:DP)(i:Nat)(tA:TVA):TV:=λτ Q=>match τ[i]? with
|some (some (.own d))=>tA τ λa=>exA a (λ_=>False) λds=>g (d::ds) λr=>tupR r Q
|_=>False
section
variable {X:Cx} {EX:St->XK} {pos p:Pos} {x y:Str} {es:List Expr} {tA:TVA}
theorem qoc{k:Nat}{ps:List Str}{g:DP}{i:Nat}{p2:Pos}(C:Cal X.prog X.w X.K X.mg X.base k x ps (spOf X.K g))(hr:Room k X.A)(hg:Gl X x)(ha:VA X EX es tA)(hN:X.N[i]?=some y:=by rfl)(hv:Vis X.env.scope y:=by first|exact Or.inl rfl|exact Or.inr (Or.inl rfl)|exact Or.inr (Or.inr rfl))
  (hd:(y==("__debug__" : Str))=false:=by decide) (hcd:(y==("__classdict__" : Str))=false:=by decide) (hp:(Expr.Name y p2::es).all qav=true:=by rfl) (hdb:(x==("__debug__" : Str))=false:=by decide) :
  VE X EX (.Call (.Name x p) (.Name y p2::es) [] pos) (qn8 g i tA) :=
 let ⟨_,a1,a2⟩:=ha.u;⟨_,qo5 C hr hg (qac (qv i hN hv hd hcd) a1 rfl) hp hdb,λH0 B H τ σ Q Qd s S h xc kk=>by
  unfold qn8 at h
  split at h
  ·rename_i d e1
   obtain⟨ad,e2,_,hb,ow⟩:=S.own i d e1
   refine⟨.ref ad,e2,a2 H0 B H τ σ _ _ s S h (xno λ_ q=>q) λds vs B1 H1 p1 q1 h1=>?_⟩
   have ow1:OwnAt X.K B1 H1 d ad:=ow.step p1.b (p1.h.at ow.some)
   have hb1:B1 ad=none:=p1.keep hb ow.some ow.nt
   obtain⟨o,eo,rp⟩:=ow1.pub hb1
   refine⟨d::ds,upd B1 ad o,_,qfm p1.s eo,?_,h1,λn C B' H' hq _ _=>?_,λr v B2 H2 hq p2 q2=>?_⟩
   ·rw[List.append_nil]
    exact .cons rp (q1.same (qao hb1 _))
   ·exact(show False from hq).elim
   ·have hB2:B2 ad=some o:=p2.b _ _ qa6
    have nt:∀xs,B2 ad≠some (.tup xs):=λxs z=>by
     rw[hB2] at z
     cases z
     exact ow1.nt xs eo
    have st:Stp B H (dele B2 ad) H2:=by
     refine⟨λa ob e=>?_,p1.h.trans p2.h,λa ob e=>?_,λa hne=>?_⟩
     ·have na:a≠ad:=λz=>by rw[z,hb] at e;cases e
      rw[qjk na]
      exact p2.b _ _ (by rw[qa9 na];exact p1.b _ _ e)
     ·by_cases na:a=ad
      ·unfold dele at e
       rw[if_pos na] at e
       cases e
      ·rw[qjk na] at e
       exact p2.s _ _ e
     ·by_cases na:a=ad
      ·unfold dele at hne
       rw[if_pos na] at hne
       exact absurd rfl hne
      ·rw[qjk na] at hne
       rcases p2.d a hne with z|z|⟨xs,z⟩
       ·rw[qa9 na] at z
        exact p1.d a z
       ·exact .inr (.inl (p1.h.free z))
       ·cases e:H a with
       |none=>exact .inr (.inl rfl)
       |some ob =>
         rw[p1.h _ _ e] at z
         exact .inr (.inr ⟨xs,z⟩)
    unfold tupR at hq
    split at hq
    ·rename_i d'
     exact kk (.val d') _ (dele B2 ad) H2 st (Rep.less nt d' v hq.1 q2) hq.2
    ·rename_i es'
     obtain⟨a',e',f1,f2,xs,f3,f4⟩:=q2
     refine kk (.own (.lst es')) _ (dele B2 ad) H2 st ⟨a',e',p1.h.free f1,?_,xs,f3,Reps.less nt es' xs hq.1 f4⟩ hq.2
     unfold dele
     split
     ·rfl
     ·exact f2
    ·exact hq.elim
  ·exact h.elim⟩
end
end L2
namespace L2
open PySem PySem.Spec PyProof.Rows
structure PaneC(p:List Row):Prop where
 so:qbf p
 cl:∀r∈p,r.1=[]\/r.1.dropLast=[]\/∃q∈p,q.1=r.1.dropLast/\q.2.1≠qtm
section
variable {α:Type} {f:α->D} {τ:VSt} {k:Nat} {g:TVG} {ti:TVT} {te:TV} {Q:R->Prop}
end
theorem ql3:∀ss:List Str,qe0 (ss.map D.str)=true
|[]=>by
  show qe0 []=true
  unfold qe0
  rfl
|x::ss=>by
  show qe0 (.str x::ss.map D.str)=true
  unfold qe0 tupO
  rw[ql3 ss]
  rfl
theorem qx5(r:Row):tupO (rowD r)=true:=by
 show tupO (.tup [.tup (r.1.map D.str),.str r.2.1,.str r.2.2])=true
 simp only[tupO,qe0,ql3,Bool.and_self]
theorem qfo:∀rs:List Row,qe0 (rs.map rowD)=true
|[]=>by
  show qe0 []=true
  unfold qe0
  rfl
|r::rs=>by
  show qe0 (rowD r::rs.map rowD)=true
  unfold qe0
  rw[qx5,qfo rs]
  rfl
def s5(u:Nat):Nat:=u%99991%8+(u+96542*1)%99991%8+(u+96542*2)%99991%8+(u+96542*3)%99991%8+(u+96542*4)%99991%8
theorem v_if{t:TVT}{a b:TVS}{Dv:VEnds}{τ:VSt}(P:Bool->Prop)(ht:∀Y:Bool->Prop,(∀c,P c->Y c)->t τ Y)(ha:P true->a Dv τ)(hb:P false->b Dv τ):vIfS t a b Dv τ :=
 ht _ λc hc=>by
  cases c with
 |true=>exact iteT (ha hc)
 |false=>exact iteF (hb hc)
end L2
namespace L2
open PySem PySem.Spec PyProof.Rows
section
variable {X:Cx} {pins:List (Addr×Obj)} {σ:St} {H:Hp} {s:Shared} {h':Heap}
end
section
variable {X:Cx} {elts:List Expr} {kk:Nat} {tp p pos:Pos}
end
section
variable {X:Cx} {EX:St->XK} {elts:List Expr} {kk:Nat} {tp p pos:Pos} {K:PySem.W.Frag} {B:Hp} {a:Expr} {ta:TV}
end
end L2
namespace L2
open PySem PySem.Spec PyProof.Rows
section
variable {prog:Program} {w:World} {A:Around}
theorem qjw:(toString "max" ++ toString ".loop" : String)="max.loop" := by decide
theorem qnh{R:Result->Shared->Prop}{I S:Addr}{fp wr:List Addr}{n:Nat}{P:Nat->Value->Prop}{St:Nat->Heap->Prop}{kw:List (Str×Value)}(W:Walks prog w A.in1 I fp wr n P St)(bt:Nat->Nat->Bool)(hc:CmpOf prog w A.in1 .Gt P bt)(hS:S∉fp) :
  ∀(k j:Nat) (s:Shared) (b:Value) (c:Nat),j+1+k=n->St (j+1) s.heap->P (argBest bt j) b->s.heap.get? S=some { cls:=.type "list",dict:=none,data:=.seq #[b,b] c,slots:=#[] } ->
  (∀v h' tk,P (argBest bt (n-1)) v->(∀a o,a∉wr->a≠S->s.heap.get? a=some o->h'.get? a=some o)->R (.ok (.ret v)) { s with heap:=h',toks:=tk }) ->
  codeAny (model prog w) A (.builtin "max.loop" ⟨[.ref I,.none,.ref S],kw⟩) R s
|0,j,s,b,c,hk,st,pb,gS,hR=>by
  have nS:S∉wr:=λz=>hS (W.sub _ z)
  have ej:j+1=n:=by lia
  refine codeAny_builtin F.entry_max_loop ?_
  rw[Around.under_plainId F.plain_max_loop _]
  show wpAny _ A.in1 (seqItems? (.ref S) >>= _) _ _ s
  refine wpAny_bind (wpAny_seqItems gS rfl ?_)
  show wpAny _ A.in1 (tryCatch (pyNext (.ref I)) _ >>= _) _ _ s
  refine wpAny_bind (wpAny_tryCatch (W.done s _ _ (by rw[←ej];exact st) λh1 tk k1=>?_))
  have g1:=k1 S _ nS gS
  show wpAny _ A.in1 (updateSeq S (λ_=>#[]) >>= _) _ _ _
  refine wpAny_bind (wpAny_updateSeq g1 rfl (wpAny_bind (wpAny_letGo (wpAny_pure ?_))))
  have ev:argBest bt (n-1)=argBest bt j:=by rw[←ej];rfl
  exact hR b _ tk (by rw[ev];exact pb) λa o ha hne e=>(Heap.get?_update_other _ _ (Ne.symm hne)).trans (k1 a o ha e)
|k+1,j,s,b,c,hk,st,pb,gS,hR=>by
  have nS:S∉wr:=λz=>hS (W.sub _ z)
  refine codeAny_builtin F.entry_max_loop ?_
  rw[Around.under_plainId F.plain_max_loop _]
  show wpAny _ A.in1 (seqItems? (.ref S) >>= _) _ _ s
  refine wpAny_bind (wpAny_seqItems gS rfl ?_)
  show wpAny _ A.in1 (tryCatch (pyNext (.ref I)) _ >>= _) _ _ s
  refine wpAny_bind (wpAny_tryCatch (W.item (j+1) s _ _ (by lia) st λv h1 tk pv st1 k1=>?_))
  have g1:=k1 S _ nS gS
  show wpAny _ A.in1 (tryCatch (holding [v,v] (richCompare .Gt v b >>= _)) _ >>= _) _ _ _
  refine wpAny_bind (wpAny_tryCatch (wpAny_holding (wpAny_bind (hc (j+1) (argBest bt j) v b _ _ _ pv pb ?_))))
  refine wpAny_bind (wpAny_holding (wpAny_truthy_bool (wpAny_bind (wpAny_letGo (wpAny_pure ?_)))))
  cases e:bt (j+1) (argBest bt j) with
 |true =>
   have ea:argBest bt (j+1)=j+1:=by simp only[argBest,e,if_true]
   simp only[if_true]
   refine wpAny_bind (wpAny_updateSeq g1 rfl (wpAny_bind (wpAny_letGo ?_)))
   rw[qjw]
   refine wpAny_pure ⟨plainId_quiet F.plain_max_loop _,qnh W bt hc hS k (j+1) _ v _ (by lia) (W.frame _ _ _ st1 λa ha o q=>(Heap.get?_update_other _ _ (λz:S=a=>hS (by rw[z];exact ha))).trans q) (by rw[ea];exact pv) (Heap.get?_update_self _ g1 rfl) λv' h2 tk2 p2 k2=>?_⟩
   exact hR v' h2 tk2 p2 λa o ha hne q=>k2 a o ha hne ((Heap.get?_update_other _ _ (Ne.symm hne)).trans (k1 a o ha q))
 |false =>
   have ea:argBest bt (j+1)=argBest bt j:=by simp only[argBest,e,Bool.false_eq_true,if_false]
   simp only[Bool.false_eq_true,if_false]
   refine wpAny_bind (wpAny_letGo ?_)
   rw[qjw]
   refine wpAny_pure ⟨plainId_quiet F.plain_max_loop _,qnh W bt hc hS k (j+1) _ b c (by lia) st1 (by rw[ea];exact pb) g1 λv' h2 tk2 p2 k2=>?_⟩
   exact hR v' h2 tk2 p2 λa o ha hne q=>k2 a o ha hne (k1 a o ha q)
theorem qwn{R:Result->Shared->Prop}{I S:Addr}{fp wr:List Addr}{n:Nat}{P:Nat->Value->Prop}{St:Nat->Heap->Prop}{d:Value}{s:Shared}{c:Nat}(W:Walks prog w A.in1 I fp wr n P St)(bt:Nat->Nat->Bool)(hc:CmpOf prog w A.in1 .Gt P bt)(hS:S∉fp)
  (st:St 0 s.heap) (gS:s.heap.get? S=some { cls:=.type "list",dict:=none,data:=.seq #[] c,slots:=#[] })
  (hR:∀v h' tk,(0<n/\P (argBest bt (n-1)) v\/n=0/\v=d)->(∀a o,a∉wr->a≠S->s.heap.get? a=some o->h'.get? a=some o)->R (.ok (.ret v)) { s with heap:=h',toks:=tk }) :
  codeAny (model prog w) A (.builtin "max.loop" ⟨[.ref I,.none,.ref S],[("default",d)]⟩) R s:=by
 have nS:S∉wr:=λz=>hS (W.sub _ z)
 refine codeAny_builtin F.entry_max_loop ?_
 rw[Around.under_plainId F.plain_max_loop _]
 show wpAny _ A.in1 (seqItems? (.ref S) >>= _) _ _ s
 refine wpAny_bind (wpAny_seqItems gS rfl ?_)
 show wpAny _ A.in1 (tryCatch (pyNext (.ref I)) _ >>= _) _ _ s
 rcases Nat.eq_zero_or_pos n with h0|h0
 ·subst h0
  refine wpAny_bind (wpAny_tryCatch (W.done s _ _ st λh1 tk k1=>?_))
  refine wpAny_bind (wpAny_rule (wpAny_pure ?_))
  exact hR d h1 tk (.inr ⟨rfl,rfl⟩) λa o ha _ e=>k1 a o ha e
 ·refine wpAny_bind (wpAny_tryCatch (W.item 0 s _ _ h0 st λv h1 tk pv st1 k1=>?_))
  have g1:=k1 S _ nS gS
  show wpAny _ A.in1 (updateSeq S (λ_=>#[v,v]) >>= _) _ _ _
  refine wpAny_bind (wpAny_updateSeq g1 rfl ?_)
  rw[qjw]
  refine wpAny_pure ⟨plainId_quiet F.plain_max_loop _,qnh W bt hc hS (n-1) 0 _ v _ (by lia) (W.frame _ _ _ st1 λa ha o q=>(Heap.get?_update_other _ _ (λz:S=a=>hS (by rw[z];exact ha))).trans q) pv (Heap.get?_update_self _ g1 rfl) λv' h2 tk2 p2 k2=>?_⟩
  exact hR v' h2 tk2 (.inl ⟨h0,p2⟩) λa o ha hne q=>k2 a o ha hne ((Heap.get?_update_other _ _ (Ne.symm hne)).trans (k1 a o ha q))
theorem q0r(a d:Value):argsOk "max" ⟨[a],[("default",d)]⟩:=by unfold argsOk;kernel_rfl
theorem q0s{E:Value->Shared->Prop}{s:Shared}{l:Addr}{xs:Array (Int×Tok)}{d:Value}{Q:Value->Shared->Prop}(hh:A.handled=none)(hl:s.heap.IsList l (intItems xs))
  (h:∀v h' tk,(0<xs.size/\(intItems xs)[argBest (λi j=>decide (numAt xs i>numAt xs j)) (xs.size-1)]?=some v\/xs.size=0/\v=d)->(∀b o,s.heap.get? b=some o->h'.get? b=some o)->Q v { s with heap:=h',toks:=tk }) :
  wpAny (model prog w) A (call (.builtin "max") [.ref l] [("default",d)]) Q E s:=by
 refine wpAny_call (codeAny_call_builtin F.plain_max F.entry_max ?_)
 simp only[checkBuiltinCall,F.kind_max]
 have go:wpAny (model prog w) A.in1 (Builtin.«max» ⟨[.ref l],[("default",d)]⟩) (λfin s'=>match fin with
  |.done f=>(match (Except.ok f:Result) with|.ok (.ret v)=>Q v s'|.ok _=>False|.error e=>E e s')
  |  .again c'=>c'.quiet=true/\codeAny (model prog w) A c' (λr s'=>match r with | .ok (.ret v)=>Q v s' | .ok _=>False | .error e=>E e s') s') E s:=by
  show wpAny _ A.in1 (Builtin.Builtins.bindParams "max" ["key","default"] 0 ⟨[],[("default",d)]⟩ >>= _) _ _ s
  refine wpAny_bind (wpAny_of_eq (show Builtin.Builtins.bindParams "max" ["key","default"] 0 ⟨[],[("default",d)]⟩=pure [none,some d] from rfl) ?_)
  refine wpAny_bind (wpAny_pure ?_)
  refine wpAny_bind (iter_intList hl λs2 e2 st hfp hlI=>?_)
  subst e2
  refine wpAny_bind (wpAny_newObj_type ?_)
  rw[qjw]
  have W:=Walks.list (prog:=prog) (w:=w) (A:=A.in1) hh s.heap.objs.size l hlI (intItems xs)
  refine wpAny_pure ⟨plainId_quiet F.plain_max_loop _,qwn W _ (CmpOf.ints_gt (numAt xs) (λ_ _=>intItems_at)) (λhm=>Nat.lt_irrefl _ (hfp _ hm)) (W.frame _ _ _ st λb _ o e=>Heap.get?_push_of_some _ e) (Heap.get?_push_size _ rfl) λv h' tk hv hk=>?_⟩
  refine h v h' tk (by simpa [intItems] using hv) λb o e=>?_
  have lb:=Heap.lt_size e
  have e1:(s.heap.push { cls:=.type "list_iterator",data:=.fields #[.ref l,.int 0 0] }).get? b=some o:=Heap.get?_push_of_some _ e
  exact hk b o (λhm=>by
   have:=List.mem_singleton.mp hm
   rw[this] at lb
   exact Nat.lt_irrefl _ lb) (Nat.ne_of_lt (Heap.lt_size e1)) (Heap.get?_push_of_some _ e1)
 cases hsig:Manifest.signature? "max" with
|none=>exact wpAny_pure go
|some sig =>
  have ha:=q0r (.ref l) d
  have ha':Bind.checkArgs "max" sig ⟨[.ref l],[("default",d)]⟩=pure ():=by simpa only[argsOk,hsig] using ha
  simp only[ha']
  exact wpAny_pure go
end
theorem qr7(val:Nat->Int):∀k,argBest (λi j=>decide (val i>val j)) k<=k/\∀i,i<=k->val i<=val (argBest (λi j=>decide (val i>val j)) k)
|  0=>⟨Nat.le_refl _,λi hi=>by
   have:i=0:=by lia
   rw[this]
   exact Int.le_refl _⟩
|k+1=>by
  obtain⟨a,b⟩:=qr7 val k
  by_cases h:val (k+1)>val (argBest (λi j=>decide (val i>val j)) k)
  ·have e:argBest (λi j=>decide (val i>val j)) (k+1)=k+1:=by
    show (if decide _=true then _ else _)=_
    rw[decide_eq_true h,if_pos rfl]
   rw[e]
   refine⟨Nat.le_refl _,λi hi=>?_⟩
   rcases Nat.lt_or_ge i (k+1) with q|q
   ·have:=b i (by lia)
    lia
   ·have:i=k+1:=by lia
    rw[this]
    exact Int.le_refl _
  ·have e:argBest (λi j=>decide (val i>val j)) (k+1)=argBest (λi j=>decide (val i>val j)) k:=by
    show (if decide _=true then _ else _)=_
    rw[decide_eq_false h,if_neg Bool.false_ne_true]
   rw[e]
   refine⟨Nat.le_succ_of_le a,λi hi=>?_⟩
   rcases Nat.lt_or_ge i (k+1) with q|q
   ·exact b i (by lia)
   ·have:i=k+1:=by lia
    rw[this]
    lia
theorem qjb:∀ {ns:List Int} {its:List Value},Vals (ns.map V.int) its->∃ps:List (Int×Tok),its=ps.map (λp=>Value.int p.1 p.2)/\ps.map (·.1)=ns
|[],its,r=>by
  have:=r.zero
  subst this
  exact⟨[],rfl,rfl⟩
|n::ns,its,r=>by
  cases r with
 |cons r1 r2 =>
   obtain⟨t,rfl⟩:=r1
   obtain⟨ps,rfl,e⟩:=qjb r2
   exact⟨(n,t)::ps,rfl,by rw[List.map_cons,e]⟩
section
variable {X:Cx} {p kp pos:Pos} {a d:Expr}
end
theorem qi6{K:PySem.W.Frag}{B:Hp}:∀ {ns:List Int} {xs:List V},Reps K B (ns.map D.int) xs->xs=ns.map V.int
|[],xs,r=>by
  have:Reps K B [] xs:=r
  unfold Reps at this
  exact this
|n::ns,xs,r=>by
  have r':Reps K B (.int n::ns.map D.int) xs:=r
  unfold Reps at r'
  obtain⟨x,xs',rfl,r1,r2⟩:=r'
  unfold Rep at r1
  rw[r1,qi6 r2]
  rfl
section
variable {X:Cx} {EX:St->XK} {p kp pos cp:Pos} {a:Expr} {te:TV} {j:Nat}
end
end L2
namespace L2
open PySem PySem.Spec PyProof.Rows
section
variable {X:Cx} {EX:St->XK} {pos pos' p apos cpos:Pos} {x y:Str} {e:Expr}
def qx8(j i:Nat):TVS:=λDv τ=>ownL τ i λds=>match ds with
|d::rest=>Dv.nx ((τ.set i (some (.own (.lst rest)))).set j (some (.val d)))
|[]=>False
theorem q20{j i:Nat}(hnd:X.N.Nodup)(hj:X.N[j]?=some x)(hx:Loc X.env.scope x)(h:VE X EX e (vC (.int 0)))(hN:X.N[i]?=some y:=by rfl)(hv:Vis X.env.scope y:=by first|exact Or.inl rfl|exact Or.inr (Or.inl rfl)|exact Or.inr (Or.inr rfl))(hd:(y==("__debug__" : Str))=false:=by decide)
  (hcd:(y==("__classdict__" : Str))=false:=by decide) (hp:qav e=true:=by rfl)
  (hbase:attributeBase (.Name y p) "pop" X.env (eval (.Name y p) X.env)=eval (.Name y p) X.env:=by rfl) (hline:(apos.endLine==cpos.line)=true:=by rfl)
  (hs:swapsWith (.Call (.Attribute (.Name y p) "pop" apos) [e] [] cpos) (some (.Name x pos')) pos.line X.env=pure false:=by rfl)
  (hf:X.fn x=true\/X.env.scope.names.lookup x=some .local:=by first|exact .inl rfl|exact .inr rfl|assumption) :
  VS X EX (.Assign [.Name x pos'] (.Call (.Attribute (.Name y p) "pop" apos) [e] [] cpos) pos) (qx8 j i) :=
 let ⟨_,a1,a2⟩:=h.u;⟨_,qlw hnd hj hx (qbm PySem.F.plainAttrs_list PySem.F.slot_list_pop PySem.F.type_list_pop qwl (qv i hN hv hd hcd) (qac a1 qd5 hp) (by simp[hp]) rfl hbase hline) hs hf,λB0 H0 B H τ σ Dv Dh p S h E=>by
  obtain⟨ds,ad,xs,e1,h,e2,e3,_⟩:=S.ownL h
  cases ds with
 |nil=>exact h.elim
 |cons d0 rest =>
  refine⟨.ref ad,e2,.inl ⟨rfl,xs,SqL.of e3⟩,a2 H0 B H τ σ _ (λr=>r=.val (.int 0)) p.s S rfl (λn C B' H' _ _ z=>by cases z) λr v B' H' q hr hq=>?_⟩
  subst hq
  have ev:v=.int 0:=hr.pk.scal (z:=.int 0) rfl
  subst ev
  have S2:=S.step q
  obtain⟨a',q1,_,_,xs2,q4,q3⟩:=S2.own i _ e1
  rw[e2] at q1
  cases q1
  have hl:=q3.length
  unfold Reps at q3
  obtain⟨w,xs3,rfl,r1,r2⟩:=q3
  refine⟨ad,w::xs3,0,0,w,rfl,rfl,q4,by decide,by decide,?_,rfl,?_⟩
  ·rw[seqIndex_of (by decide) (by rw[List.length_cons];lia)]
   rfl
  ·obtain⟨p3,S3⟩:=S2.lst (p.trans q) e1 e2 r2
   exact E.nx B' _ _ _ p3 (S3.setVal j r1) h⟩
end
end L2
namespace L2
open PySem PySem.Spec PyProof.Rows
section
variable {X:Cx} {pins:List (Addr×Obj)} {σ:St} {H:Hp} {s:Shared} {tg:Expr}
end
section
variable {X:Cx} {EX:St->XK} {K:PySem.W.Frag} {B H:Hp} {tg:Expr} {x:Str} {pos:Pos} {rest:List Stmt} {t:TVS}
def q70(i:Nat)(t:TVS):TVS:=λDv τ=>match τ[i]? with
|some (some (.own (.dT ks ds)))=>t Dv (τ.set i (some (.peek (.dT ks ds))))
|_=>False
end
end L2
namespace L2
open PySem PySem.Spec PyProof.Rows
section
variable {X:Cx}
end
section
variable {X:Cx} {EX:St->XK} {pos pos' p apos cpos:Pos} {x:Str} {e:Expr} {es:List Expr} {te:TV} {tA:TVA} {K:PySem.W.Frag} {B B' H H0:Hp} {τ:VSt} {σ:St}
end
end L2
namespace L2
open PySem PySem.Spec PyProof.Rows
section
variable {X:Cx} {pins:List (Addr×Obj)} {σ:St} {H:Hp} {s:Shared} {st:Stmt} {rest:List Stmt}
end
section
variable {X:Cx} {EX:St->XK} {K:PySem.W.Frag} {B B' H H0:Hp} {τ:VSt} {σ:St} {x:Str} {e:Expr} {te:TV} {rest:List Stmt} {u:TVS} {pos pos':Pos}
def NoDt(d:D):Prop:=∀(K:PySem.W.Frag) (B B':Hp) (v:V),(∀a o,B a=some o->(∀ob u,o≠.frz ob u)->B' a=some o)->Rep K B d v->Rep K B' d v
def q7x(i j:Nat)(te:TV)(u:TVS):TVS:=λDv τ=>match τ[i]? with
|some (some (.own (.dT ks ds)))=>te (τ.set i (some (.peek (.dT ks ds)))) λr=>pubR r λd=>NoDt d/\u Dv (τ.set j (some (.val d)))
|_=>False
end
end L2
namespace L2
open PySem PySem.Spec PyProof.Rows
section
variable {X:Cx} {EX:St->XK} {pos p cpos:Pos} {x y:Str} {e:Expr} {es:List Expr} {tA:TVA} {K:PySem.W.Frag} {B B' H H0:Hp} {τ:VSt} {σ:St}
end
end L2
namespace L2
open PySem PySem.Spec PyProof.Rows
section
variable {X:Cx} {elts:List Expr} {kk:Nat} {tp p pos:Pos}
end
section
variable {X:Cx} {EX:St->XK} {elts:List Expr} {kk:Nat} {tp p pos:Pos} {K:PySem.W.Frag} {B:Hp} {a b:Expr} {ta tb:TV}
end
section
variable {X:Cx} {EX:St->XK}
end
end L2
namespace L2
open PySem PySem.Spec PyProof.Rows Builtin.Str
section
variable {X:Cx}
abbrev TJ:=St->Hp->Str->VK->Prop
structure QJ(X:Cx)(vs:List Expr)(t:TJ):Prop where
 u:∀(pins:List (Addr×Obj)) (s:Shared) (σ:St) (H:Hp) (out:Str) (Q:VK),Inv X pins σ H s->t σ H out Q->wpAny (model X.prog X.w) X.A (joinParts out (evalEach vs X.env)) (EP X pins σ Q) X.xe s
end
section
variable {X:Cx} {EX:St->XK} {K:PySem.W.Frag} {o e e1 e2:Expr} {to te t1 t2:TV} {apos cpos p pos:Pos} {x:Str} {rest:List Expr}
abbrev TVJ:=VSt->Str->(R->Prop)->Prop
def RfJ(K:PySem.W.Frag)(t:TJ)(u:TVJ):Prop:=∀(H0 B H:Hp) (τ:VSt) (σ:St) (out:Str) (Q:VK) (Qd:R->Prop),Same B H->Slots K H0 B H τ σ->u τ out Qd->(∀r v B' H',Stp B H B' H'->RepR K B' H H' r v->Qd r->Q v H')->t σ H out Q
structure VJ(X:Cx)(EX:St->XK)(vs:List Expr)(t:TVJ):Prop where
 u:∃tj,QJ X vs tj/\RfJ X.K tj t
def ql6:TVS:=λ_ _=>False
theorem qpr{st:Stmt}:VS X EX st ql6:=⟨_,(⟨λ_ _ _ _ _ _ h=>h.elim⟩:QS X st λ_ _ _=>False),λ_ _ _ _ _ _ _ _ _ _ h _=>h⟩
end
end L2
namespace L2
open PySem PySem.Spec PyProof.Rows
section
variable {X:Cx} {EX:St->XK} {K:PySem.W.Frag} {B H H0:Hp} {e:Expr} {t:TV} {τ:VSt} {σ:St}
end
end L2
namespace L2
open PySem PySem.Spec PyProof.Rows
section
variable {X:Cx} {EX:St->XK} {K:PySem.W.Frag} {B H B' H' H0 B0 B1 H1:Hp} {st:Stmt} {rest:List Stmt} {t u:TVS} {e a:Expr} {te ta:TV} {tT:TVT} {tA:TVA} {es:List Expr} {pos pos' p p2 apos cpos:Pos} {x y:Str} {τ:VSt} {σ:St} {r:R} {v:V}
def RfAI(K:PySem.W.Frag)(EX:St->XK)(te:TA)(t:TVA)(k j:Nat):Prop:=∀(H0 B H:Hp) (τ:VSt) (σ:St) (Q:List V->Hp->Prop) (Qd:AR->Prop),Same B H->Slots K H0 B H τ σ->(∃c ps,τ[j]?=some (some (R.own (.io c ps))))->t τ Qd->(∀n C B' H',Stp B H B' H'->clsOf K n C->Qd (.exc n)->EX σ (.ref C) none H') ->
 (∀ds vs B' H' ad,Stp B H B' H'->k<=vs.length->σ[j]?=some (some (.ref ad))->Reps K B' ds vs->Qd (.ok ds)->Q (vs.insertIdx k (.ref ad)) H')->te σ H Q
structure VAI(X:Cx)(EX:St->XK)(es:List Expr)(t:TVA)(k j:Nat):Prop where
 u:∃te,QA X es te/\RfAI X.K EX te t k j
end
section
variable {K:PySem.W.Frag} {x qual:Str} {st:Stmt} {f:Addr} {fd:FuncData} {ps:List Str}
theorem qcp{α:Type}{us:List α}{n:Nat}(h:us.length=n+1):∃a t,us=a::t/\t.length=n:=by
 cases us with
|nil=>cases h
|cons a t=>exact⟨a,t,rfl,Nat.succ.inj h⟩
theorem Fun.binds1(F:Fun K x qual st f fd)(hp:ps.length=1)(h:∀(kV doc pm:Value) (an:Option Addr) (cdv ct a0:Value),bindArgs (PySem.W.fnOf x qual (qch st) (qbg st) (qae st) .none kV doc pm an cdv ct) ⟨[a0],[]⟩=pure (ps.zip [a0])):Binds K fd ps [] :=
 F.binds λkV doc pm an cdv ct us hl=>by
  obtain⟨a0,t,rfl,h0⟩:=qcp (hl.trans hp)
  cases List.length_eq_zero_iff.mp h0
  exact h kV doc pm an cdv ct a0
theorem Fun.binds2(F:Fun K x qual st f fd)(hp:ps.length=2)(h:∀(kV doc pm:Value) (an:Option Addr) (cdv ct a0 a1:Value),bindArgs (PySem.W.fnOf x qual (qch st) (qbg st) (qae st) .none kV doc pm an cdv ct) ⟨[a0,a1],[]⟩=pure (ps.zip [a0,a1])):Binds K fd ps [] :=
 F.binds λkV doc pm an cdv ct us hl=>by
  obtain⟨a0,t,rfl,h0⟩:=qcp (hl.trans hp)
  obtain⟨a1,t,rfl,h1⟩:=qcp h0
  cases List.length_eq_zero_iff.mp h1
  exact h kV doc pm an cdv ct a0 a1
theorem Fun.binds3(F:Fun K x qual st f fd)(hp:ps.length=3)(h:∀(kV doc pm:Value) (an:Option Addr) (cdv ct a0 a1 a2:Value),bindArgs (PySem.W.fnOf x qual (qch st) (qbg st) (qae st) .none kV doc pm an cdv ct) ⟨[a0,a1,a2],[]⟩=pure (ps.zip [a0,a1,a2])):Binds K fd ps [] :=
 F.binds λkV doc pm an cdv ct us hl=>by
  obtain⟨a0,t,rfl,h0⟩:=qcp (hl.trans hp)
  obtain⟨a1,t,rfl,h1⟩:=qcp h0
  obtain⟨a2,t,rfl,h2⟩:=qcp h1
  cases List.length_eq_zero_iff.mp h2
  exact h kV doc pm an cdv ct a0 a1 a2
theorem Fun.binds4(F:Fun K x qual st f fd)(hp:ps.length=4)(h:∀(kV doc pm:Value) (an:Option Addr) (cdv ct a0 a1 a2 a3:Value),bindArgs (PySem.W.fnOf x qual (qch st) (qbg st) (qae st) .none kV doc pm an cdv ct) ⟨[a0,a1,a2,a3],[]⟩=pure (ps.zip [a0,a1,a2,a3])):Binds K fd ps [] :=
 F.binds λkV doc pm an cdv ct us hl=>by
  obtain⟨a0,t,rfl,h0⟩:=qcp (hl.trans hp)
  obtain⟨a1,t,rfl,h1⟩:=qcp h0
  obtain⟨a2,t,rfl,h2⟩:=qcp h1
  obtain⟨a3,t,rfl,h3⟩:=qcp h2
  cases List.length_eq_zero_iff.mp h3
  exact h kV doc pm an cdv ct a0 a1 a2 a3
end
end L2
namespace L2
open PySem PySem.Spec PyProof.Rows
section
variable {X:Cx} {EX:St->XK} {a b e:Expr} {es:List Expr} {pos p tp:Pos} {tA:TVA} {te:TV}
theorem q32{d:Addr}{ent:Array DictEntry}{n:Nat}(hl:X.K.lookup d=some ⟨.type "dict",none,.dict ent n,#[]⟩)(hk:PySem.W.KeysLit X.w.params ent.toList) :
  IxR X (λx y H Q=>x=.ref d/\∃key f,y=.str key/\PySem.W.nsIn X.K d key=some (some (.ref f))/\Q (.ref f) H):=by
 intro value slice pins s σ H x y v u Q I rx ry h hs
 obtain⟨rfl,key,f,rfl,e,q⟩:=h
 cases rx
 obtain⟨t,rfl⟩:=ry
 have hm:=PySem.W.mapOf_K (prog:=X.prog) (w:=X.w) I.kIn hl hk
 exact tail_any hm.typeIs slot_dict_getitem.lookup (wpAny_getItem_of (strKind_is X.prog X.w key t) hm (PySem.W.find_K hl e) ⟨.ref f,H,I.tok _,rfl,q⟩) hs
def qp4(X:Cx)(d:Addr)(keys:List Str)(gs:Str->DP):Prop:=∀key∈keys,∃(k:Nat) (f:Addr) (fd:FuncData) (ps:List Str),PySem.W.nsIn X.K d key=some (some (.ref f))/\FnOk X.prog X.w X.K X.mg X.base (CXR X.prog X.w) k f fd ps (spOf X.K (gs key))/\Room k X.A/\PySem.W.keepIn X.K (.ref f)=true/\Binds X.K fd ps []
theorem q2q{d:Addr}{gs:Str->DP}:qp4 X d [] gs:=λ_ h=>by cases h
theorem qpf{d:Addr}{key x:Str}{keys:List Str}{k:Nat}{ps:List Str}{g:DP}{gs:Str->DP}(C:CalX X.prog X.w X.K X.mg X.base k x ps (spOf X.K g))(e:PySem.W.nsIn X.K d key=some (X.mg x))(hr:Room k X.A)(r:qp4 X d keys gs):qp4 X d (key::keys) λz=>if z=key then g else gs z:=by
 intro z hz
 by_cases ez:z=key
 ·subst ez
  cases C with
 |mk F hm hk hb=>exact⟨k,_,_,ps,by rw[e,hm],by dsimp only;rw[if_pos rfl];exact F,hr,hk,hb⟩
 ·obtain⟨k',f,fd,ps',h1,h2,h3⟩:=r z ((List.mem_cons.mp hz).resolve_left ez)
  exact⟨k',f,fd,ps',h1,by dsimp only;rw[if_neg ez];exact h2,h3⟩
def rTab(K:PySem.W.Frag)(d:Addr):R2:=λx y H Q=>x=.ref d/\∃key f,y=.str key/\PySem.W.nsIn K d key=some (some (.ref f))/\Q (.ref f) H
def tTab(K:PySem.W.Frag)(d:Addr)(keys:List Str)(gs:Str->DP)(EX:St->XK)(ts:TE)(t:TA):TE:=λσ H Q=>tOp (rTab K d) (tC (.ref d)) ts σ H λv H1=>∃key f,v=.ref f/\key∈keys/\PySem.W.nsIn K d key=some (some (.ref f))/\qzd (spOf K (gs key)) EX t σ H1 Q
theorem qv1(a b:Expr)(sp:Pos)(args:List Expr)(ks:List Keyword)(pos:Pos)(env:Env):eval (.Call (.Subscript a b sp) args ks pos) env=(do
  callWith pos (←eval (.Subscript a b sp) env) [] (backTo pos (starEach args env)) (backToKw pos (keywordEach ks env))):=rfl
theorem q5e{x:Str}{d:Addr}{ent:Array DictEntry}{n:Nat}{keys:List Str}{gs:Str->DP}{ts:TE}{t:TA}(hm:X.mg x=some (.ref d))(hl:X.K.lookup d=some ⟨.type "dict",none,.dict ent n,#[]⟩)(hk:PySem.W.KeysLit X.w.params ent.toList)(hT:qp4 X d keys gs)
  (o:Out X EX) (hg:Gl X x) (hs:qe2 b) (hb:QE X b ts) (ha:QA X (e::es) t) (hx:X.ex=[]:=by rfl) (hp:(e::es).all qav=true:=by rfl) (hdb:(x==("__debug__" : Str))=false:=by decide) :
  QE X (.Call (.Subscript (.Name x tp) b p) (e::es) [] pos) (tTab X.K d keys gs EX ts t):=by
 refine⟨λpins s σ H Q I h=>?_⟩
 rw[qv1]
 refine wpAny_bind (wpAny_mono ((q4r (q32 hl hk) (qt3 (v:=.ref d) hg hm rfl hdb) hb.u hs) pins s σ H _ I h) (λv s1 ⟨x1,H1,I1,rx,q⟩=>?_) λ_ _ z=>z)
 obtain⟨key,f,rfl,mk,hf,q⟩:=q
 cases rx
 obtain⟨k,f',fd,ps,h1,F,hr,hkp,hbd⟩:=hT key mk
 rw[hf] at h1
 cases h1
 exact PySem.W.callWith_K (h₀:=X.base) I1.ok.mod.kin hkp (thn (ha.u pos pins s1 σ H1 _ I1 q) λus s2 ⟨vs,H2,I2,r,q⟩=>⟨I2.kIn,q50 F hr hbd o hx I2 r q⟩) (qbv (all2 hp).1) (qdc (all2 hp).2)
def vTab(keys:List Str)(gs:Str->DP)(te:TV)(tA:TVA):TV:=λτ Q=>te τ λr=>exR r Q (∃key∈keys,r.d=.str key/\qeo (gs key) tA τ Q)
theorem q6g{x:Str}{d:Addr}{ent:Array DictEntry}{n:Nat}{keys:List Str}{gs:Str->DP}(hT:qp4 X d keys gs)(hm:X.mg x=some (.ref d))(hl:X.K.lookup d=some ⟨.type "dict",none,.dict ent n,#[]⟩)(hk:PySem.W.KeysLit X.w.params ent.toList)
  (o:Out X EX) (hg:Gl X x) (hb:VE X EX b te) (ha:VA X EX (e::es) tA) (hs:qe2 b:=by with_unfolding_all exact λ_ _=>rfl) (hx:X.ex=[]:=by rfl) (hp:(e::es).all qav=true:=by rfl) (hdb:(x==("__debug__" : Str))=false:=by decide) :
  VE X EX (.Call (.Subscript (.Name x tp) b p) (e::es) [] pos) (vTab keys gs te tA) :=
 let ⟨_,b1,b2⟩:=hb.u;let ⟨_,a1,a2⟩:=ha.u;⟨_,q5e hm hl hk hT o hg hs b1 a1 hx hp hdb,λH0 B H τ σ Q Qd s S h xc k =>
  b2 H0 B H τ σ _ _ s S h xc λr v B1 H1 p1 q1 h1=>by
   obtain⟨key,mk,er,h2⟩:=q1.ok h1
   obtain⟨k',f,fd,ps,hf,_⟩:=hT key mk
   refine⟨rfl,key,f,?_,hf,key,f,rfl,mk,hf,?_⟩
   ·exact q1.pk.scal (z:=.str key) (by rw[er];rfl)
   ·refine a2 H0 B1 H1 τ σ _ _ p1.s (S.step p1) h2 (λn C B' H' p2 c hq=>xc n C B' H' (p1.trans p2) c hq) λds vs B2 H2 p2 q2 h3=>?_
    exact⟨ds,B2,Qd,p2.s,by rw[List.append_nil];exact q2,h3,λn C B' H' hq p3 c=>xc n C B' H' ((p1.trans p2).trans p3) c hq,λr v B3 H3 hq p3 q3=>k r v B3 H3 ((p1.trans p2).trans p3) (q3.back (p1.trans p2).h) hq⟩⟩
def TabF(w:World)(K:PySem.W.Frag)(mg:Str->Option Value)(x:Str)(l:List (Str×Str)):Prop:=∃(d:Addr) (ent:Array DictEntry) (n:Nat),mg x=some (.ref d)/\K.lookup d=some ⟨.type "dict",none,.dict ent n,#[]⟩/\PySem.W.KeysLit w.params ent.toList/\∀p∈l,PySem.W.nsIn K d p.1=some (mg p.2)
theorem q2u{x:Str}{l:List (Str×Str)}{keys:List Str}{gs:Str->DP}(T:TabF X.w X.K X.mg x l)(hT:∀d,(∀p∈l,PySem.W.nsIn X.K d p.1=some (X.mg p.2))->qp4 X d keys gs)
  (o:Out X EX) (hg:Gl X x) (hb:VE X EX b te) (ha:VA X EX (e::es) tA) (hs:qe2 b:=by with_unfolding_all exact λ_ _=>rfl) (hx:X.ex=[]:=by rfl) (hp:(e::es).all qav=true:=by rfl) (hdb:(x==("__debug__" : Str))=false:=by decide) :
  VE X EX (.Call (.Subscript (.Name x tp) b p) (e::es) [] pos) (vTab keys gs te tA) :=
 let ⟨d,_,_,h1,h2,h3,h4⟩:=T;q6g (hT d h4) h1 h2 h3 o hg hb ha hs hx hp hdb
end
end L2
namespace L2
open PySem PySem.Spec PyProof.Rows
section
variable {X:Cx} {EX:St->XK} {K:PySem.W.Frag} {B H B' H' H0 B0 B1 H1:Hp} {st:Stmt} {rest:List Stmt} {t u:TVS} {e a:Expr} {te ta tk:TV} {tT:TVT} {tA:TVA} {es:List Expr} {pos pos' p p2 apos cpos:Pos} {x y:Str} {τ:VSt} {σ:St} {r:R} {v:V}
def q6u(K:PySem.W.Frag)(EX:St->XK)(te:TA)(t:TVA)(k j:Nat):Prop:=∀(H0 B H:Hp) (τ:VSt) (σ:St) (Q:List V->Hp->Prop) (Qd:AR->Prop),Same B H->Slots K H0 B H τ σ->(∃ks ps,τ[j]?=some (some (R.own (.dT ks ps))))->t τ Qd->(∀n C B' H',Stp B H B' H'->clsOf K n C->Qd (.exc n)->EX σ (.ref C) none H') ->
 (∀ds vs B' H' ad,Stp B H B' H'->k<=vs.length->σ[j]?=some (some (.ref ad))->Reps K B' ds vs->Qd (.ok ds)->Q (vs.insertIdx k (.ref ad)) H')->te σ H Q
structure VAIT(X:Cx)(EX:St->XK)(es:List Expr)(t:TVA)(k j:Nat):Prop where
 u:∃te,QA X es te/\q6u X.K EX te t k j
end
section
variable {X:Cx} {p kp pos:Pos} {a d:Expr}
def q57(K:PySem.W.Frag)(z:V)(ta:TA):TE:=λσ H Q=>ta σ H λvs H1=>∃ad ns,vs=[.ref ad]/\SqL K H1 ad (ns.map V.int)/\(ns=[]->Q z H1)/\∀m∈ns,(∀x∈ns,x<=m)->Q (.int m) H1
theorem q1g{z:V}{ta:TA}(hc:X.calm=true)(hg:Gl X "max")(hm:X.mg "max" = none)(hb:bootBuiltins "max" = some (.builtin "max"))(ha:PA X [a] ta)(hd:PE X d (tC z))(hs:starEach [a] X.env=[(false,eval a X.env)]:=by rfl):PE X (.Call (.Name "max" p) [a] [⟨some "default",d,kp⟩] pos) (q57 X.K z ta):=by
 intro pins s σ H Q I h
 have he:eval (.Call (.Name "max" p) [a] [⟨some "default",d,kp⟩] pos) X.env=(do callWith pos (←eval (.Name "max" p) X.env) [] (backTo pos (starEach [a] X.env)) (backToKw pos (keywordEach [⟨some "default",d,kp⟩] X.env))):=rfl
 rw[he]
 refine wpAny_bind (qld I hg hm hb ?_)
 refine callWith_kw (thn (ha pos pins s σ H _ I h) λus s1 ⟨vs,H1,I1,r1,q1⟩=>?_) (by rw[hs];rfl) (by rw[hs];rfl)
 refine kws_cons (thn (hd pins s1 σ H1 (λx H2=>x=z/\H2=H1) I1 ⟨rfl,rfl⟩) λv s2 ⟨x,H2,I2,r2,q2⟩=>kws_nil ?_)
 obtain⟨rfl,rfl⟩:=q2
 obtain⟨ad,ns,rfl,hq,q0,qm⟩:=q1
 cases r1 with
|cons r rr =>
  cases rr
  cases r
  obtain⟨its,rv,pl,hz⟩:=I2.list hq
  obtain⟨ps,rfl,ens⟩:=qjb rv
  have el:intItems ps.toArray=(ps.map λp=>Value.int p.1 p.2).toArray:=by unfold intItems;simp
  show wpAny (model X.prog X.w) X.A (call (.builtin "max") [.ref ad] [("default",v)]) (EP X pins σ Q) X.xe s2
  refine q0s (xs:=ps.toArray) (I2.ok.hd hc) (by rw[el];exact pl.isList) λu h' tk hu kp2=>?_
  have hn:∀i,i<ps.length->numAt ps.toArray i=(ps.map (·.1)).getD i 0:=λi hi=>by simp[numAt,hi]
  rcases hu with ⟨h0,hu⟩|⟨h0,rfl⟩
  ·have h0':0<ps.length:=by simpa using h0
   obtain⟨b1,b2⟩:=qr7 (numAt ps.toArray) (ps.toArray.size-1)
   obtain⟨t,rfl⟩:=intItems_at hu
   generalize argBest (λi j=>decide (numAt ps.toArray i>numAt ps.toArray j)) (ps.toArray.size-1)=k at *
   have hk:k<ps.length:=by
    rw[List.size_toArray] at b1
    lia
   have hmem:numAt ps.toArray k∈ns:=by
    rw[hn k hk,←ens,List.getD_eq_getElem?_getD,List.getElem?_eq_getElem (by rw[List.length_map];exact hk)]
    exact List.getElem_mem _
   refine⟨.int (numAt ps.toArray k),H2,I2.kept kp2,⟨t,rfl⟩,qm _ hmem λy hy=>?_⟩
   rw[←ens] at hy
   obtain⟨i,hi,ei⟩:=List.mem_iff_getElem.mp hy
   rw[List.length_map] at hi
   have:=b2 i (by rw[List.size_toArray];lia)
   rw[hn i hi,List.getD_eq_getElem?_getD,List.getElem?_eq_getElem (by rw[List.length_map];exact hi)] at this
   rw[←ei]
   exact this
  ·have e0:ns=[]:=by
    have:ps=[]:=List.length_eq_zero_iff.mp (by simpa using h0)
    rw[←ens,this]
    rfl
   exact⟨_,H2,I2.kept kp2,r2,q0 e0⟩
theorem q1z{z:V}{ta:TA}(hc:X.calm=true)(hg:Gl X "max")(hm:X.mg "max" = none)(hb:bootBuiltins "max" = some (.builtin "max"))(ha:QA X [a] ta)(hd:QE X d (tC z))(hp:qav a=true:=by rfl):QE X (.Call (.Name "max" p) [a] [⟨some "default",d,kp⟩] pos) (q57 X.K z ta):=⟨q1g hc hg hm hb ha.u hd.u (qbv hp)⟩
end
section
variable {X:Cx} {EX:St->XK} {p kp pos cp:Pos} {a:Expr} {te:TV} {j:Nat}
def qx7(z:Int)(te:TV):TV:=λτ Q=>te τ λr=>match r.d with
|.lst ds=>∃ns:List Int,ds=ns.map D.int/\(ns=[]->Q (.val (.int z)))/\∀m∈ns,(∀x∈ns,x<=m)->Q (.val (.int m))
|_=>False
theorem q2t{z:Int}(hc:X.calm=true)(hg:Gl X "max")(hm:X.mg "max" = none)(hb:bootBuiltins "max" = some (.builtin "max"))(h:VE X EX a te)(hp:qav a=true:=by rfl):VE X EX (.Call (.Name "max" p) [a] [⟨some "default",.Constant (.int z) j cp,kp⟩] pos) (qx7 z te) :=
 let ⟨_,a1,a2⟩:=h.u;⟨_,q1z hc hg hm hb (qac a1 qd5 hp) qua hp,λH0 B H τ σ Q Qd s S h xc k=>a2 H0 B H τ σ _ _ s S h (xno λ_ q=>q) λr v B' H' q hr hq=>by
  split at hq
  ·rename_i ds ed
   obtain⟨ns,rfl,h0,h1⟩:=hq
   obtain⟨ad,xs,rfl,hx,r1⟩:=hr.pk.lst q.s ed
   have e:=qi6 r1
   subst e
   exact⟨ad,ns,rfl,SqL.of hx,λz0=>k (.val (.int z)) _ B' H' q (repV rfl) (h0 z0),λm hm' hle=>k (.val (.int m)) _ B' H' q (repV rfl) (h1 m hm' hle)⟩
  ·exact hq.elim⟩
end
section
variable {prog:Program} {w:World} {A:Around} {E:Value->Shared->Prop} {s:Shared} {d:Addr} {es:Array DictEntry} {ep:Nat}
end
section
variable {X:Cx}
end
section
variable {P:Program} {w:World} {K:PySem.W.Frag} {mg:Str->Option Value} {base h:Heap} {x:Str} {st:Stmt} {k:Nat} {ps:List Str} {sp:Sp}
def qbl(K:PySem.W.Frag)(x:Str)(st:Stmt):Prop:=∃(f:Addr) (fd:FuncData),PySem.W.nsIn K mainGlobals x=some (some (.ref f))/\Fun K x x st f fd
theorem q7z{f:Addr}{oc:Value}{od an:Option Addr}{osl:Array (Option Value)}{kV doc pm cdv ct:Value}(a:PySem.W.nsIn K mainGlobals x=some (some (.ref f)))(l:K.lookup f=some ⟨oc,od,.func (PySem.W.fnOf x x (qch st) (qbg st) (qae st) .none kV doc pm an cdv ct),osl⟩)
  (c:PySem.W.codeIn K cdv x=true) (q:PySem.W.keepIn K (.ref f)=true):qbl K x st:=⟨f,_,a,qor l c q⟩
theorem calD(P:Program)(w:World)(base:Heap)(X:K.In h)(G:h.Ns mainGlobals mg)(D:qbl K x st)(ok:∀ {f:Addr} {fd:FuncData},Fun K x x st f fd->FnOk P w K mg base CX0 k f fd ps sp)(b:∀ {f:Addr} {fd:FuncData},Fun K x x st f fd->Binds K fd ps []):Cal P w K mg base k x ps sp :=
 let ⟨_,_,a,F⟩:=D;.mk (ok F) (PySem.W.mg_of X G a) F.kp (b F)
theorem qji(P:Program)(w:World)(base:Heap)(X:K.In h)(G:h.Ns mainGlobals mg)(D:qbl K x st)(ok:∀ {f:Addr} {fd:FuncData},Fun K x x st f fd->FnOk P w K mg base (CXR P w) k f fd ps sp)(b:∀ {f:Addr} {fd:FuncData},Fun K x x st f fd->Binds K fd ps []):CalX P w K mg base k x ps sp :=
 let ⟨_,_,a,F⟩:=D;.mk (ok F) (PySem.W.mg_of X G a) F.kp (b F)
end
end L2
namespace L2
open PySem PySem.Spec PyProof.Rows
section
variable {X:Cx}
end
end L2
namespace L2
open PySem PySem.Spec PyProof.Rows
section
variable {X:Cx} {EX:St->XK} {K:PySem.W.Frag} {B B' H H0:Hp} {τ:VSt} {σ:St} {x:Str} {e:Expr} {te:TV} {rest:List Stmt} {u:TVS} {pos pos':Pos}
end
end L2
namespace L2
open PySem PySem.Spec PyProof.Rows
section
variable {X:Cx} {EX:St->XK} {e a o i:Expr} {te ta to ti:TV} {pos pos' p p2 apos cpos:Pos} {x:Str} {f:Expr} {tf:TV}
end
end L2
namespace L2
open PySem PySem.Spec PyProof.Rows
section
variable {X:Cx}
end
end L2
namespace PySem
section
variable {prog:Program} {w:World} {K:Type} [DecidableEq K] {knd:HeapKind prog w K} {A:Around} {E:Value->Shared->Prop} {s:Shared}
end
section
variable {prog:Program} {w:World} {K:Type} [DecidableEq K] (knd:HeapKind prog w K) (d a:Addr)
end
end PySem
namespace L2
open PySem PySem.Spec PyProof.Rows
section
variable {X:Cx} {pins:List (Addr×Obj)} {σ:St} {H:Hp} {s:Shared} {a b:Addr} {u r:Value} {d:V} {A:Around} {E:Value->Shared->Prop}
end
end L2
namespace L2
open PySem PySem.Spec PyProof.Rows
section
variable {X:Cx} {o e f:Expr} {apos cpos:Pos} {td ty tx:TE}
end
section
variable {X:Cx} {EX:St->XK} {K:PySem.W.Frag} {B H B' H' H0 B0 B1 H1:Hp} {st:Stmt} {rest:List Stmt} {t u:TVS} {e f a:Expr} {te ta tk tf:TV} {tT:TVT} {tA:TVA} {es:List Expr} {pos pos' p p2 p3 apos cpos:Pos} {x y:Str} {τ:VSt} {σ:St} {r:R} {v:V}
end
end L2
namespace L2
open PySem PySem.Spec PyProof.Rows
abbrev TVN:=VSt->(D->Prop)->Prop
mutual
theorem NewD.back{H0 H1 B:Hp}(s:Same H0 H1):∀(d:D) (v:V),NewD H1 B d v->NewD H0 B d v
|.lst ds,v,h=>by
  unfold NewD at h ⊢
  obtain⟨a,xs,e1,e2,e3,e4⟩:=h
  exact⟨a,xs,e1,e2,s.free e3,NewDs.back s ds xs e4⟩
|.non,_,_|.bl _,_,_|.int _,_,_|.str _,_,_|.tup _,_,_|.dT ..,_,_|.dK ..,_,_|.scr _,_,_|.kt _,_,_|.exc _,_,_|.io ..,_,_|.ioT ..,_,_=>by unfold NewD;trivial
theorem NewDs.back{H0 H1 B:Hp}(s:Same H0 H1):∀(ds:List D) (xs:List V),NewDs H1 B ds xs->NewDs H0 B ds xs
|d::ds,x::xs,h=>by
  unfold NewDs at h ⊢
  exact⟨NewD.back s d x h.1,NewDs.back s ds xs h.2⟩
|[],_,_=>by unfold NewDs;trivial
|_::_,[],_=>by unfold NewDs;trivial
end
theorem NewDs.flat{H0 B:Hp}:∀ {ds:List D} {xs:List V},qmv ds->NewDs H0 B ds xs
|[],_,_=>by unfold NewDs;trivial
|_::_,[],_=>by unfold NewDs;trivial
|d::ds,x::xs,h=>by
  unfold NewDs
  refine⟨?_,NewDs.flat λe m=>h e (List.mem_cons_of_mem _ m)⟩
  have:=h d (List.mem_cons_self ..)
  cases d<;>first|exact this.elim|(unfold NewD;trivial)
section
variable {X:Cx} {EX:St->XK} {K:PySem.W.Frag} {a b c e o i:Expr} {es:List Expr} {pos pos' p p2 apos cpos:Pos} {x y:Str} {te:TV} {tA:TVA} {t t':TVN} {B H B' H' H0 H1 H2 B0:Hp} {τ:VSt} {σ:St}
def RfEN(K:PySem.W.Frag)(te:TE)(t:TVN):Prop:=∀(H0 B H:Hp) (τ:VSt) (σ:St) (Q:VK) (Qd:D->Prop),Same B H->Same H0 H->Slots K H0 B H τ σ->t τ Qd->(∀d v B' H',Stp B H B' H'->Rep K B' d v->NewR H0 B' d v->Qd d->Q v H')->te σ H Q
structure VEN(X:Cx)(e:Expr)(t:TVN):Prop where
 u:∃te,QE X e te/\RfEN X.K te t
def vNew(te:TV):TVN:=λτ Q=>te τ λr=>match r with
|.own (.lst ds)=>qmv ds/\Q (.lst ds)
|_=>False
theorem pubL{a:Addr}{ds:List D}(q:Stp B H B' H')(h0:H a=none)(hb:B' a=none){xs:List V}(ha:H' a=some (.lst xs))(r:Reps K B' ds xs)(sh:Same H0 H)(n:NewDs H0 B' ds xs) :
  ∃B2,Stp B H B2 H'/\Same B' B2/\Rep K B2 (.lst ds) (.ref a)/\NewD H0 B2 (.lst ds) (.ref a):=by
 have sm:Same B' (upd B' a (.lst xs)):=qao hb _
 refine⟨upd B' a (.lst xs),⟨q.b.trans sm,q.h,qfm q.s ha,λc z=>?_⟩,sm,?_,?_⟩
 ·by_cases w:c=a
  ·exact .inr (.inl (w▸h0))
  ·rw[qa9 w] at z
   exact q.d c z
 ·unfold Rep
  exact⟨a,xs,rfl,qa6,r.same sm⟩
 ·unfold NewD
  exact⟨a,xs,rfl,qa6,sh.free h0,NewDs.same sm _ _ n⟩
theorem qu1(h:VE X EX0 e te):VEN X e (vNew te) :=
 let ⟨_,a1,a2⟩:=h.u;⟨_,a1,λH0 B H τ σ Q Qd s sh S h k=>a2 H0 B H τ σ _ _ s S h (xno λ_ q=>q) λr v B' H' q hr hq=>by
  split at hq
  ·rename_i ds
   obtain⟨ad,rfl,h0,hb,xs,ha,rp⟩:=hr
   obtain⟨B2,q2,_,r2,n2⟩:=pubL q h0 hb ha rp sh (NewDs.flat hq.1)
   exact k _ _ B2 H' q2 r2 n2 hq.2
  ·exact hq.elim⟩
def quv(i:Nat):TVN:=λτ Q=>match τ[i]? with
|some (some (.peek (.lst ds)))=>Q (.lst ds)
|_=>False
theorem q2w(i:Nat)(hN:X.N[i]?=some x:=by rfl)(hv:Vis X.env.scope x:=by first|exact Or.inl rfl|exact Or.inr (Or.inl rfl)|exact Or.inr (Or.inr rfl))(hd:(x==("__debug__" : Str))=false:=by decide)
  (hcd:(x==("__classdict__" : Str))=false:=by decide):VEN X (.Name x pos) (quv i):=⟨_,qv i hN hv hd hcd,λH0 B H τ σ Q Qd s sh S h k=>by
 unfold quv at h
 split at h
 ·rename_i ds e1
  obtain⟨v,q,fz⟩:=S.fz i _ e1
  rcases fz with ⟨_,_,_,_,_,z,_⟩|⟨es,e2,r,n⟩
  ·cases z
  ·exact⟨v,q,k _ v B H (.refl s) r n h⟩
 ·exact h.elim⟩
def qe6(K:PySem.W.Frag)(g:DP):Sp:=λvs H Q E=>∃ds B Qd,Same B H/\Reps K B ds vs/\g ds Qd/\(∀n C B' H',Qd (.exc n)->Stp B H B' H'->clsOf K n C->E (.ref C) none H')/\∀d v B' H',Qd (.val d)->Stp B H B' H'->Rep K B' d v->NewR H B' d v->Q v H'
def qh9(g:DP)(tA:TVA):TVN:=λτ Q=>tA τ λa=>match a with
|.ok ds=>g ds λr=>match r with
 |.val d=>Q d
 |_=>False
|.exc _=>False
theorem qxw{g:DP}{vs:List V}{Q:VK}{E:XK}(h:spOf K g vs H Q E):qe6 K g vs H Q E:=by
 obtain⟨ds,B,Qd,h1,h2,h3,h4,h5⟩:=h
 exact⟨ds,B,Qd,h1,h2,h3,h4,λd v B' H' q p r _=>h5 (.val d) v B' H' q p r⟩
theorem Cal.weak{P:Program}{w:World}{mg:Str->Option Value}{base:Heap}{k:Nat}{ps:List Str}{g:DP}(C:Cal P w K mg base k x ps (qe6 K g)):Cal P w K mg base k x ps (spOf K g) :=
 match C with
|.mk F hm hk hb=>.mk (F.imp λ_ _ _ _ h=>qxw h) hm hk hb
theorem NewR.back(s:Same H0 H1){d:D}{v:V}(h:NewR H1 B d v):NewR H0 B d v:=by
 unfold NewR at h ⊢
 split at h
 ·rcases h with h|⟨a,xs,e1,e2,n⟩
  ·exact .inl h
  ·exact .inr ⟨a,xs,e1,e2,NewDs.back s _ _ n⟩
 ·exact NewD.back s _ _ h
theorem q2e{g:DP}{ta:TA}{tA:TVA}(ha:RfA K EX0 ta tA):RfEN K (qx0 (qe6 K g) [] E0 ta) (qh9 g tA):=λH0 B H τ σ Q Qd s sh S h kk=>ha H0 B H τ σ _ _ s S h (xno λ_ q=>q) λds vs B1 H1 p q h1 =>
  ⟨ds,B1,_,p.s,by rw[List.append_nil];exact q,h1,λn C B' H' hq _ _=>(show False from hq).elim,λd v B2 H2 hq p2 r n=>kk d v B2 H2 (p.trans p2) r (n.back (sh.trans p.h)) hq⟩
theorem q2v{k:Nat}{ps:List Str}{g:DP}(C:Cal X.prog X.w X.K X.mg X.base k x ps (qe6 X.K g))(hr:Room k X.A)(hg:Gl X x)(ha:VA X EX0 (e::es) tA)(hp:(e::es).all qav=true:=by rfl)(hdb:(x==("__debug__" : Str))=false:=by decide) :
  VEN X (.Call (.Name x p) (e::es) [] pos) (qh9 g tA) :=
 let ⟨_,a1,a2⟩:=ha.u;⟨_,qo5 C hr hg a1 hp hdb,q2e a2⟩
def qx9(i:Nat)(t:TVN):TVS:=λDv τ=>t τ λd=>match d with
|.lst ds=>Dv.nx (τ.set i (some (.peek (.lst ds))))
|_=>False
def qpi(t:TVN):TVS:=λDv τ=>t τ λd=>Dv.rn d
theorem qyj(h:VEN X e t):VS X EX (.Return (some e) pos) (qpi t) :=
 let ⟨_,a1,a2⟩:=h.u;⟨_,qi5 a1,λB0 H0 B H τ σ Dv Dh p S h E=>a2 H0 B H τ σ _ _ p.s p.h S h λd v B' H' q r n hq=>E.rn d v B' H' (p.trans q) r n hq⟩
theorem Slots.setPk{d:D}{v:V}(S:Slots K H0 B H τ σ)(i:Nat)(h:FzAt K H0 B d v):Slots K H0 B H (τ.set i (some (.peek d))) (σ.set i (some v)) where
 len:=by rw[List.length_set,List.length_set,S.len]
 val:=λj e q=>by
  rcases qa7 q with ⟨rfl,z,l⟩|⟨n,q⟩
  ·cases z
  ·obtain⟨w,q,r⟩:=S.val j e q
   exact⟨w,by rw[List.getElem?_set_ne n];exact q,r⟩
 fz:=λj e q=>by
  rcases qa7 q with ⟨rfl,z,l⟩|⟨n,q⟩
  ·cases z
   exact⟨v,List.getElem?_set_self (by rw[S.len];exact l),h⟩
  ·obtain⟨w,q,r⟩:=S.fz j e q
   exact⟨w,by rw[List.getElem?_set_ne n];exact q,r⟩
 own:=λj e q=>by
  rcases qa7 q with ⟨rfl,z,l⟩|⟨n,q⟩
  ·cases z
  ·obtain⟨a,q,r⟩:=S.own j e q
   exact⟨a,by rw[List.getElem?_set_ne n];exact q,r⟩
 sep:=λj k d e a q1 q2 q3 q4=>by
  rcases qa7 q1 with ⟨rfl,z,l⟩|⟨n1,q1⟩
  ·cases z
  ·rcases qa7 q2 with ⟨rfl,z,l⟩|⟨n2,q2⟩
   ·cases z
   ·rw[List.getElem?_set_ne n1] at q3
    rw[List.getElem?_set_ne n2] at q4
    exact S.sep j k d e a q1 q2 q3 q4
theorem q21{i:Nat}(hN:X.N.Nodup)(hi:X.N[i]?=some x)(hx:Loc X.env.scope x)(h:VEN X e t)(hs:swapsWith e (some (.Name x pos')) pos.line X.env=pure false:=by rfl)
  (hf:X.fn x=true\/X.env.scope.names.lookup x=some .local:=by first|exact .inl rfl|exact .inr rfl|assumption):VS X EX (.Assign [.Name x pos'] e pos) (qx9 i t) :=
 let ⟨_,a1,a2⟩:=h.u;⟨_,qlw hN hi hx a1 hs hf,λB0 H0 B H τ σ Dv Dh p S h E=>a2 H0 B H τ σ _ _ p.s p.h S h λd v B' H' q r n hq=>by
  split at hq
  ·rename_i ds
   exact E.nx B' H' _ _ (p.trans q) ((S.step q).setPk i (.inr ⟨ds,rfl,r,n⟩)) hq
  ·exact hq.elim⟩
def vIfN(tT:TVT)(t t':TVN):TVN:=λτ Q=>tT τ λc=>if c=true then t τ Q else t' τ Q
theorem qu0{tT:TVT}(hc:VT X EX0 c tT)(ha:VEN X a t)(hb:VEN X b t'):VEN X (.IfExp c a b pos) (vIfN tT t t') :=
 let ⟨_,c1,c2⟩:=hc.u;let ⟨_,a1,a2⟩:=ha.u;let ⟨_,b1,b2⟩:=hb.u;⟨_,qo6 c1 a1 b1,λH0 B H τ σ Q Qd s sh S h k=>c2 H0 B H τ σ _ _ s S h λcb B' H' p q=>by
  cases cb with
 |true=>exact iteT (a2 H0 B' H' τ σ _ _ p.s (sh.trans p.h) (S.step p) (by rw[if_pos rfl] at q;exact q) λd v2 B2 H2 p2 r n h2=>k d v2 B2 H2 (p.trans p2) r n h2)
 |  false=>exact iteF (b2 H0 B' H' τ σ _ _ p.s (sh.trans p.h) (S.step p) (by rw[if_neg Bool.false_ne_true] at q;exact q) λd v2 B2 H2 p2 r n h2=>k d v2 B2 H2 (p.trans p2) r n h2)⟩
def qki(g:DP)(tA:TVA):TVS:=λDv τ=>tA τ λa=>exI τ Dv a λds=>g ds λr=>match r with
|.val d=>Dv.rn d
|_=>False
theorem qu6{k:Nat}{ps:List Str}{g:DP}(C:Cal X.prog X.w X.K X.mg X.base k x ps (qe6 X.K g))(hr:Room k X.A)(hg:Gl X x)(ha:VA X EX (e::es) tA)(hp:(e::es).all qav=true:=by rfl)(hdb:(x==("__debug__" : Str))=false:=by decide) :
  VS X EX (.Return (some (.Call (.Name x p) (e::es) [] pos')) pos) (qki g tA) :=
 let ⟨_,a1,a2⟩:=ha.u;⟨_,qi5 (qo5 C hr hg a1 hp hdb),λB0 H0 B H τ σ Dv Dh p S h E=>a2 H0 B H τ σ _ _ p.s S h (E.raised p S) λds vs B1 H1 p1 q1 h1 =>
  ⟨ds,B1,_,p1.s,by rw[List.append_nil];exact q1,h1,λn C B' H' hq p2 c=>(show False from hq).elim,λd v B' H' hq p2 r n=>E.rn d v B' H' ((p.trans p1).trans p2) r (n.back (p.trans p1).h) hq⟩⟩
def qpj(te:TV)(g:DP)(tA:TVA):TVS:=λDv τ=>te τ λr=>pubR r λd1=>qmv [d1]/\tA τ λa=>exI τ Dv a λds=>g ds λr=>match r with
|.val (.lst es)=>Dv.rn (.tup [d1,.lst es])
|.exc n=>Dv.xc τ n
|_=>False
theorem qyk{k j:Nat}{ps:List Str}{g:DP}{te:TV}(hc:VE X EX0 c te)(C:CalX X.prog X.w X.K X.mg X.base k x ps (qe6 X.K g))(o:Out X EX)(hr:Room k X.A)(hg:Gl X x)(ha:VA X EX (e::es) tA)(hx:X.ex=[]:=by rfl)(hp:(e::es).all qav=true:=by rfl)(hdb:(x==("__debug__" : Str))=false:=by decide)
  (hpc:qav c=true:=by rfl):VS X EX (.Return (some (.Tuple [c,.Call (.Name x p) (e::es) [] pos'] j p2)) pos) (qpj te g tA) :=
 let ⟨_,c1,c2⟩:=hc.u;let ⟨_,a1,a2⟩:=ha.u;⟨_,qi5 (qy5 (qac c1 (qac (qt8 C o hr hg a1 hx hp hdb) qd5 rfl) hpc)),λB0 H0 B H τ σ Dv Dh p S h E=>c2 H0 B H τ σ _ _ p.s S h (xno λ_ q=>q) λr v0 B0' H0' p0 hr0 hq0=>by
  obtain⟨d1,B1,p1,_,rp1,hf,hq1⟩:=pub p0 hr0 hq0
  have pp:=p.trans p1
  refine a2 H0 B1 H0' τ σ _ _ p1.s (S.step p1) hq1 (E.raised pp (S.step p1)) λds vs B2 H2 p2 q2 h2=>⟨ds,B2,_,p2.s,by rw[List.append_nil];exact q2,h2,λn C B' H' hq p3 c=>E.xc B' H' τ σ n C ((pp.trans p2).trans p3) (((S.step p1).step p2).step p3) c hq,λd v B3 H3 hq p3 r3 n3=>?_⟩
  have hq':(match R.val d with|.val (.lst es)=>Dv.rn (.tup [d1,.lst es])|.exc n=>Dv.xc τ n|_=>False):=hq
  split at hq'
  ·rename_i es e0
   cases e0
   refine⟨by show 2<=sizeLine;decide,λq hq=>?_⟩
   have hb:B3 q=none:=p3.s.free hq
   have sb:Same B1 B3:=p2.b.trans p3.b
   have sm:Same B3 (upd B3 q (.tup [v0,v])):=qao hb _
   have n4:NewD H0 B3 (.lst es) v:=NewD.back ((pp.trans p2).h) _ _ n3
   refine E.rn (.tup [d1,.lst es]) _ (upd B3 q (.tup [v0,v])) _ (((pp.trans p2).trans p3).trans (.new p3.s hq)) (qfi (by unfold Reps;exact⟨v0,[v],rfl,rp1.same sb,by unfold Reps;exact⟨v,[],rfl,r3,by unfold Reps;rfl⟩⟩) hb) ?_ hq'
   exact .inr ⟨q,[v0,v],rfl,qa6,by
    have hd:=hf d1 (List.mem_singleton.mpr rfl)
    unfold NewDs
    refine⟨by cases d1<;>first|exact hd.elim|(unfold NewD;trivial),?_⟩
    unfold NewDs
    exact⟨NewD.same sm _ _ n4,by unfold NewDs;trivial⟩⟩
  ·rename_i e0
   cases e0
  ·exact hq'.elim⟩
end
end L2
namespace L2
open PySem PySem.Spec PyProof.Rows
def qin(Q:R->Prop):R->Prop
|.val (.tup ds)=>qmv ds/\Q (.val (.tup ds))
|_=>False
def EnN(Q:R->Prop):VEnds:={ nx:=λ_=>False,rt:=qin Q,rn:=λd=>Q (.val d) }
def EnNX(Q:R->Prop):VEnds:={ nx:=λ_=>False,rt:=qin Q,rn:=λd=>Q (.val d),xc:=λ_ n=>Q (.exc n) }
section
variable {X:Cx} {EX:St->XK} {K:PySem.W.Frag} {B H B' H' H0 H1 H2 B0 B1:Hp} {τ:VSt} {σ:St} {x:Str}
theorem Fun.okN{P:Program}{w:World}{mg:Str->Option Value}{base:Heap}{x qual:Str}{st:Stmt}{f:Addr}{fd:FuncData}{N ps:List Str}{k:Nat}{g:DP}(F:Fun K x qual st f fd)(S:FnScope N ps (qae st))(len:∀ds Q,g ds Q->ds.length=ps.length)
  (hbody:∀(cdv:Value) (A:Around) (outer:List Env) (s:Shared) (H:Hp) (E:XK),Room k (A.deeper (envOfC qual (qae st) s.heap.objs.size f cdv)) ->
   ∃t,VSs (cxOf CX0 P w K mg base N qual (qae st) f cdv A outer s H E).nox EX0 (qbg st) t/\∀ds Q,g ds Q->t (EnN Q) (qam N ds)):FnOk P w K mg base CX0 (k+1) f fd ps (qe6 K g):=by
 refine F.okQ S (λvs H Q E h=>?_) (λcdv A outer s H vs Q E hr h=>?_)
 ·obtain⟨ds,B,Qd,_,rp,hg,_,_⟩:=h
  rw[←rp.length]
  exact len ds Qd hg
 ·obtain⟨ds,B,Qd,sm,rp,hg,_,kk⟩:=h
  obtain⟨t,⟨ts,q1,q2⟩,ht⟩:=hbody cdv A outer s H E hr
  refine⟨ts,q1,q2 B H B H (qam N ds) (start N vs) _ _ (.refl sm) ?_ (ht ds Qd hg) ⟨λ_ _ _ _ _ _ h=>h.elim,λr v B' H' p hr h=>by
   have h':qin Qd r:=h
   unfold qin at h'
   split at h'
   ·exact kk _ v B' H' h'.2 p hr (.inl h'.1)
   ·exact h'.elim,λ_ _ _ _ _ _ h=>h.elim,λ_ _ _ _ _ _ h=>h.elim,λ_ _ _ _ _ _ _ _ _ h=>h.elim,λ_ _ _ _ _ _ _ _ _ _ h=>h.elim,λd v B' H' p r n h=>kk d v B' H' h p r n⟩⟩
  unfold qam start
  rw[rp.length]
  exact(qdu rp).more _
theorem Fun.okNX{P:Program}{w:World}{mg:Str->Option Value}{base:Heap}{x qual:Str}{st:Stmt}{f:Addr}{fd:FuncData}{N ps:List Str}{k:Nat}{g:DP}(F:Fun K x qual st f fd)(S:FnScope N ps (qae st))(len:∀ds Q,g ds Q->ds.length=ps.length)
  (hbody:∀(cdv:Value) (A:Around) (outer:List Env) (s:Shared) (H:Hp) (E:XK),Room k (A.deeper (envOfC qual (qae st) s.heap.objs.size f cdv))->Out (cxOf (CXR P w) P w K mg base N qual (qae st) f cdv A outer s H E) (λ_=>E) ->
   ∃t,VSs (cxOf (CXR P w) P w K mg base N qual (qae st) f cdv A outer s H E) (λ_=>E) (qbg st) t/\∀ds Q,g ds Q->t (EnNX Q) (qam N ds)):FnOk P w K mg base (CXR P w) (k+1) f fd ps (qe6 K g):=by
 refine F.okX S (λvs H Q E h=>?_) (λcdv A outer s H vs Q E hr h o=>?_)
 ·obtain⟨ds,B,Qd,_,rp,hg,_,_⟩:=h
  rw[←rp.length]
  exact len ds Qd hg
 ·obtain⟨ds,B,Qd,sm,rp,hg,kx,kk⟩:=h
  obtain⟨t,⟨ts,q1,q2⟩,ht⟩:=hbody cdv A outer s H E hr o
  refine⟨ts,q1,q2 B H B H (qam N ds) (start N vs) _ _ (.refl sm) ?_ (ht ds Qd hg) ⟨λ_ _ _ _ _ _ h=>h.elim,λr v B' H' p hr h=>by
   have h':qin Qd r:=h
   unfold qin at h'
   split at h'
   ·exact kk _ v B' H' h'.2 p hr (.inl h'.1)
   ·exact h'.elim,λ_ _ _ _ _ _ h=>h.elim,λ_ _ _ _ _ _ h=>h.elim,λB' H' τ σ n C p S c h=>kx n C B' H' h p c,λ_ _ _ _ _ _ _ _ _ _ h=>h.elim,λd v B' H' p r n h=>kk d v B' H' h p r n⟩⟩
  unfold qam start
  rw[rp.length]
  exact(qdu rp).more _
end
end L2
namespace L2
open PySem PySem.Spec PyProof.Rows
section
variable {X:Cx} {EX:St->XK} {K:PySem.W.Frag} {B H B' H' H0 H1 H2 B0 B1:Hp} {τ:VSt} {σ:St} {x:Str}
def qs5:Option R->Option R
|some (.val d)=>some (.val d)
|_=>none
def qjp(τ:VSt):VSt:=τ.map qs5
theorem qjq{i:Nat}{r:R}(h:(qjp τ)[i]?=some (some r)):∃d,r=.val d/\τ[i]?=some (some (.val d)):=by
 unfold qjp at h
 rw[List.getElem?_map] at h
 obtain⟨o,e1,e2⟩:=Option.map_eq_some_iff.mp h
 unfold qs5 at e2
 split at e2
 ·rename_i d
  cases e2
  exact⟨d,rfl,e1⟩
 ·cases e2
theorem Slots.hide(S:Slots K H0 B H τ σ):Slots K H1 B H (qjp τ) σ where
 len:=by rw[S.len];unfold qjp;rw[List.length_map]
 val:=λi d e=>by
  obtain⟨d',e1,e2⟩:=qjq e
  cases e1
  exact S.val i _ e2
 fz:=λi d e=>by
  obtain⟨d',e1,e2⟩:=qjq e
  cases e1
 own:=λi d e=>by
  obtain⟨d',e1,e2⟩:=qjq e
  cases e1
 sep:=λi j d e a q=>by
  obtain⟨d',e1,e2⟩:=qjq q
  cases e1
def quu(i:Nat)(tc:TVN)(tt:TVT)(u:TVS):TVS:=λDv τ=>i<τ.length/\tc (qjp τ) λd=>match d with
|.tup [d1,.lst es]=>tt (τ.set i (some (.val (.tup [d1,.lst es])))) λb=>if b=true then Dv.rt (.val (.bl false)) else u Dv (τ.set i none)
|_=>False
theorem qyl{i:Nat}{x:Str}{ec et:Expr}{tc:TVN}{tt:TVT}{u:TVS}{rest:List Stmt}{p1 p2 p3 p4 p5 q1 q2 q3 q6 apos cpos:Pos}{j1 j2:Nat}(hN:X.N.Nodup)(hi:X.N[i]?=some x)(hx:Loc X.env.scope x)(hc:VEN X ec tc)(ht:VT X EX et tt)(hr:VSs X EX rest u)
  (hs:swapsWith ec (some (.Name x p1)) q1.line X.env=pure false:=by rfl) (hf:X.fn x=true\/X.env.scope.names.lookup x=some .local:=by first|exact .inl rfl|exact .inr rfl|assumption)
  (hv:Vis X.env.scope x:=by first|exact Or.inl rfl|exact Or.inr (Or.inl rfl)|exact Or.inr (Or.inr rfl)) (hd:(x==("__debug__" : Str))=false:=by decide) (hcd:(x==("__classdict__" : Str))=false:=by decide)
  (hbase:attributeBase (.Subscript (.Name x p3) (.Constant (.int 1) j2 p4) p5) "clear" X.env (eval (.Subscript (.Name x p3) (.Constant (.int 1) j2 p4) p5) X.env)=eval (.Subscript (.Name x p3) (.Constant (.int 1) j2 p4) p5) X.env:=by rfl) (hline:(apos.endLine==cpos.line)=true:=by rfl)
  (hs3:swapsWith (.Call (.Attribute (.Subscript (.Name x p3) (.Constant (.int 1) j2 p4) p5) "clear" apos) [] [] cpos) none q3.line X.env=pure false:=by rfl)
  (hx1:qe2 (.Constant (.int 1) j2 p4):=by intro _ _;rfl) :
  VSs X EX (.Assign [.Name x p1] ec q1::.If et [.Return (some (.Constant (.bool false) j1 p2)) q6] [] q2::.Expr (.Call (.Attribute (.Subscript (.Name x p3) (.Constant (.int 1) j2 p4) p5) "clear" apos) [] [] cpos) q3::rest) (quu i tc tt u) :=
 let ⟨_,a1,a2⟩:=hc.u;let ⟨_,b1,b2⟩:=ht.u;let ⟨_,r1,r2⟩:=hr.u
 ⟨_,qgt (qlw hN hi hx a1 hs hf) (qgt (q5j b1 (quc (qi5 q48)) qub) (qgt (qns (qbm0 PySem.F.plainAttrs_list PySem.F.slot_list_clear PySem.F.type_list_clear qwj (q49 ix_tup (qv i hi hv hd hcd) qua hx1) hbase hline) hs3) r1)),λB0 H0 B H τ σ Dv Dh p S h E=>by
  obtain⟨li,h⟩:=h
  refine a2 H B H (qjp τ) σ _ _ p.s (Same.refl _) S.hide h λd v B1 H1 s1 rd nd hq=>?_
  split at hq
  ·rename_i d1 es
   have S1:Slots X.K H0 B1 H1 (τ.set i (some (.val (.tup [d1,.lst es])))) (σ.set i (some v)):=(S.step s1).setVal i rd
   refine b2 H0 B1 H1 _ _ _ _ s1.s S1 hq λb B3 H3 s3 hb=>?_
   cases b with
  |true=>exact E.rt (.val (.bl false)) _ B3 H3 ((p.trans s1).trans s3) (repV rfl) hb
  |false =>
   have hb':u Dv (τ.set i none):=hb
   obtain⟨t,vs,rfl,et,n0⟩:=nd.elim (λz=>(z (.lst es) (List.mem_cons_of_mem _ (List.mem_cons_self ..))).elim) id
   unfold Rep at rd
   obtain⟨t',xs',q1,ta,rx⟩:=rd
   cases q1
   have ex:vs=xs':=by
    rcases ta with z|⟨_,z⟩
    ·rw[et] at z
     cases z
     rfl
    ·simp at z
   subst ex
   unfold Reps at rx
   obtain⟨v0,vs1,rfl,_,rx⟩:=rx
   unfold Reps at rx
   obtain⟨v1,vs2,rfl,_,rx⟩:=rx
   unfold Reps at rx
   subst rx
   unfold NewDs at n0
   obtain⟨_,n1⟩:=n0
   unfold NewDs at n1
   obtain⟨n2,_⟩:=n1
   unfold NewD at n2
   obtain⟨l,ys,rfl,el,hl,_⟩:=n2
   have e3t:H3 t=some (.tup [v0,.ref l]):=s3.h _ _ (s1.s _ _ et)
   have e3l:H3 l=some (.lst ys):=s3.h _ _ (s1.s _ _ el)
   have lσ:i<σ.length:=by rw[S.len];exact li
   have hσ:(σ.set i (some (V.ref t)))[i]?=some (some (V.ref t)):=List.getElem?_set_self lσ
   refine⟨.ref t,hσ,t,[v0,.ref l],1,.ref l,rfl,rfl,SqT.of e3t,rfl,.inl ⟨rfl,ys,SqL.of e3l⟩,l,ys,rfl,rfl,e3l,?_⟩
   have q5:Stp B H B (upd H3 l (.lst [])):=(Stp.grow p.s (s1.h.trans s3.h)).upd (o:=.lst []) hl (p.s.free hl)
   exact r2 B0 H0 B _ _ _ _ _ (p.trans q5) ((S.step q5).setNone i _) hb' E
  ·exact hq.elim⟩
end
end L2
set_option maxHeartbeats 4000000
namespace K63
open PySem L2
local macro_rules|`(tactic| simp! only[$xs,*])=>`(tactic| simp only[quu,qjp,qs5,vIfN,qki,qpj,qin,quv,vNew,qh9,qx9,qpi,vIfS,vBl,vOp,vLt,vLe,vGt,vGe,vI2',vI2,vVar,vF1,vLen,qrb,ql5,ql8,vStr,vRet,qob,q6e,vIxR,qbn,vC,vAdd,vSub,vMul,vDiv,vMod,vPow,vEq,vNe,qd8,vSlR,qdd,qf7,vNeg,qeo,qal,qaa,vNil,vTup,vLst,vSet,qib,qh8,ownL,vFor,ql7,q6f,qdg,qgp,qkh,isTy,qep,qkg,vOrT,q6d,qur,vOrE,vIfE,vAsg,qba,qmc,qcg,qmd,vTab,qx7,vFrz,frz,qus,vAll,qoa,vIsN,ql4,qam,dV,scal,qza,qy9,qud,qy8,qt7,qt6,qyz,qyy,qsw,qyx,qsr,qsq,qoo,qsp,qsv,qsu,qop,qst,qyv,qk8,qyw,qss,qtp,qo1,qd7,vTry,VEnds.calm,VEnds.wiped,qn9,vDIn,qia,qpg,qir,ownT,qph,qe8,qn8,tupR,qx8,ql6,vNeD,qkj,qpk,qut,vIn,strsOf,qf6,Option.map_some,List.map_cons,List.map_nil,List.length_cons,List.length_nil,List.cons_append,List.nil_append,List.getElem?_cons_zero,List.getElem?_cons_succ,List.set_cons_zero,List.set_cons_succ,List.replicate_succ,List.replicate_zero,Nat.reduceSub,Nat.reduceAdd,if_true,if_false,ite_true,ite_false,Bool.not_true,Bool.not_false,decide_true,decide_false,eq_int,eq_str,qz0,qsa,qz3,qz5,true_and,and_true,Nat.zero_le,List.take_succ_cons,List.take_zero,reduceIte,Bool.false_eq_true,eq_self,List.length_map,V.int.injEq,V.str.injEq,CDiv,Int.reduceLT,Int.zero_add,and_self,List.cons.injEq,D.scr.injEq,D.int.injEq,D.str.injEq,D.tup.injEq,D.lst.injEq,D.bl.injEq,and_assoc,exists_and_left,exists_eq_left,exists_eq_left',qhj,qnd,qxu,qxt,qvz,qzx,qol,Int.reduceLE,Int.le_refl,qx4,qsk,qzw,qvt,Option.some.injEq,$xs,*])
local macro_rules|`(tactic| dsimp! only[$xs,*])=>`(tactic| ((try dsimp only[quu,qjp,qs5,vIfN,qki,qpj,qin,quv,vNew,qh9,qx9,qpi,vIfS,vBl,vOp,vLt,vLe,vGt,vGe,vI2',vI2,vVar,vF1,vLen,qrb,ql5,ql8,vStr,vRet,qob,q6e,vIxR,qbn,vC,vAdd,vSub,vMul,vDiv,vMod,vPow,vEq,vNe,qd8,vSlR,qdd,qf7,vNeg,qeo,qal,qaa,vNil,vTup,vLst,vSet,qib,qh8,ownL,vFor,ql7,q6f,qdg,qgp,qkh,isTy,qep,qkg,vOrT,q6d,qur,vOrE,vIfE,vAsg,qba,qmc,qcg,qmd,vTab,qx7,vFrz,frz,qus,vAll,qoa,vIsN,ql4,qam,dV,scal,qza,qy9,qud,qy8,qt7,qt6,qyz,qyy,qsw,qyx,qsr,qsq,qoo,qsp,qsv,qsu,qop,qst,qyv,qk8,qyw,qss,qtp,qo1,qd7,vTry,VEnds.calm,VEnds.wiped,qn9,vDIn,qia,qpg,qir,ownT,qph,qe8,qn8,tupR,qx8,ql6,vNeD,qkj,qpk,qut,vIn,strsOf,Option.map_some,List.map_cons,List.map_nil,List.length_cons,List.length_nil,List.cons_append,List.nil_append,List.getElem?_cons_zero,List.getElem?_cons_succ,List.set_cons_zero,List.set_cons_succ,List.take_succ_cons,List.take_zero,CDiv,$xs,*]);(try simp! only[$xs,*])))
local macro_rules | `(tactic| rfl')=>`(tactic| dsimp! only [true_and])
local macro_rules | `(tactic| ac_rfl)=>`(tactic| simp! only [true_and])
def NS:Str:="abcdefghijklmnopqrstuvwxyz0123456789"
theorem q61(c:Nat):(!(Builtin.Str.occurrences NS ⟨#[c]⟩ 0 NS.length 1).isEmpty)=decide (c∈NS.cps.toList):=StrLaws.found_one NS c
theorem qxs:("/" : Str)=⟨#[47]⟩:=by decide +kernel
theorem qwp:(47:Nat)∉NS.cps.toList:=by decide +kernel
def nmL(l:List Nat):Bool:=decide (1<=l.length)&&decide (l.length<=12)&&l.all λc=>decide (c∈NS.cps.toList)
def nmB(z:Str):Bool:=nmL z.cps.toList
def wdB(z:Str):Bool:=decide (z∈[(".": Str),".."])||nmB z
theorem q0t{z:Str}(h:nmB z=true):(47:Nat)∉z.cps.toList:=λm=>by
 unfold nmB nmL at h
 rw[Bool.and_eq_true,List.all_eq_true] at h
 exact qwp (of_decide_eq_true (h.2 47 m))
theorem qhl{z:Str}(h:nmB z=true):1<=z.length/\z.length<=12:=by
 unfold nmB nmL at h
 rw[Bool.and_eq_true,Bool.and_eq_true] at h
 exact⟨of_decide_eq_true h.1.1,of_decide_eq_true h.1.2⟩
def rt(z:Str):Bool:=z.cps.toList.head?==some 47
def wsW(z:Str):List Str:=(sp 47 (if rt z=true then z.cps.toList.drop 1 else z.cps.toList)).map mkS
def qbj(z:Str):Option (Bool×List Str):=if z="/" then some (true,[]) else if (wsW z).length<=40/\(wsW z).all wdB=true then some (rt z,wsW z) else none
theorem qd3{z:Str}(h:nmB z=true):wdB z=true:=by unfold wdB;rw[h,Bool.or_true]
def qcw:DP:=λds Q=>∃z,ds=[.str z]/\z.length<=5000/\Q (.val (.bl (nmB z)))
theorem qm3:∀ds Q,qcw ds Q->ds.length=1:=by rintro ds Q ⟨_,rfl,_⟩;rfl
def qdb:DP:=λds Q=>∃z,ds=[.str z]/\z.length<=5000/\Q (.val (.bl (wdB z)))
theorem qm4:∀ds Q,qdb ds Q->ds.length=1:=by rintro ds Q ⟨_,rfl,_⟩;rfl
def qbq:DP:=λds Q=>∃z,ds=[.str z]/\z.length<=5000/\(∀r ws,qbj z=some (r,ws)->Q (.val (.tup [.bl r,qcc ws])))/\(qbj z=none->Q (.exc "NoWay"))
theorem qlk:∀ds Q,qbq ds Q->ds.length=1:=by rintro ds Q ⟨_,rfl,_⟩;rfl
def qzy(ns:List Int)(k:Int):Int:=(ns[k.toNat]?).getD 0
def qcv:DP:=λds Q=>∃ns k,ds=[.scr ns,.int k]/\0<=k/\Q (.val (.int (qzy ns k)))
theorem qmz:∀ds Q,qcv ds Q->ds.length=2:=by rintro ds Q ⟨_,_,rfl,_⟩;rfl
def qbs:DP:=λds Q=>∃c t m,ds=[.int c,.int t,.int m]/\0<=t/\0<m/\∀i,0<=i->i<m->(t=0->i=(c%10 ^ 18+1)*48271%99991%m)->Q (.val (.int i))
theorem qte:∀ds Q,qbs ds Q->ds.length=3:=by rintro ds Q ⟨_,_,_,rfl,_⟩;rfl
def qgn(c:Int):Nat:=(c / 12%(1+c%12)).toNat
def qni(c:Int):Int:=c / 5184+(qgn c:Int)*(c / 144%36)
def nsgn(c v:Int)(k:Nat):Nat:=NS.cps.toList.getD ((if (k:Int)=c / 12%(1+c%12) then c / 5184+(k:Int)*(c / 144%36)+v else c / 5184+(k:Int)*(c / 144%36))%36).toNat 0
def nraw(c v:Int)(n:Nat):List Nat:=(List.range n).map (nsgn c v)
def qfh(c v:Int):List Nat:=if c / 3%2=1/\v%5=4 then (nraw c v (1+c%12).toNat).take (1+v%(1+c%12)).toNat else nraw c v (1+c%12).toNat
def qck(c v:Int):Str:=mkS (qfh c v)
def nsig(c:Int)(v:Nat):Option Nat:=NS.cps.toList[((qni c+(v:Int))%36).toNat]?
theorem qrl:NS.cps.toList.length=36:=by decide +kernel
theorem qnj(c v:Int)(k:Nat):NS.cps.toList[((if (k:Int)=c / 12%(1+c%12) then c / 5184+(k:Int)*(c / 144%36)+v else c / 5184+(k:Int)*(c / 144%36))%36).toNat]?=some (nsgn c v k):=by
 unfold nsgn
 generalize (if (k:Int)=c / 12%(1+c%12) then c / 5184+(k:Int)*(c / 144%36)+v else c / 5184+(k:Int)*(c / 144%36))=t
 have h0:=Int.emod_nonneg t (show (36:Int)≠0 by decide)
 have h1:=Int.emod_lt_of_pos t (show (0:Int)<36 by decide)
 have ln:=qrl
 have lt:(t%36).toNat<NS.cps.toList.length:=by omega
 rw[List.getD_eq_getElem?_getD,List.getElem?_eq_getElem lt]
 rfl
theorem q0v(c v:Int)(k:Nat):nsgn c v k∈NS.cps.toList:=List.mem_of_getElem? (qnj c v k)
theorem qjy(c v:Int)(n:Nat):(nraw c v n).length=n:=by unfold nraw;rw[List.length_map,List.length_range]
theorem qtt{c v:Int}{n:Nat}:∀y∈nraw c v n,y∈NS.cps.toList:=λy hy=>by
 obtain⟨k,_,rfl⟩:=List.mem_map.mp hy
 exact q0v c v k
theorem qtu(c v:Int)(n:Nat):nraw c v (n+1)=nraw c v n++[nsgn c v n]:=by unfold nraw;rw[List.range_succ,List.map_append];rfl
theorem qhm(c:Int)(v:Nat):(nraw c v (1+c%12).toNat)[qgn c]?=nsig c v:=by
 have hm0:0<=c%12:=Int.emod_nonneg _ (by decide)
 have sp0:0<=c / 12%(1+c%12):=Int.emod_nonneg _ (by omega)
 have sp1:c / 12%(1+c%12)<1+c%12:=Int.emod_lt_of_pos _ (by omega)
 have e:((qgn c:Nat):Int)=c / 12%(1+c%12):=by unfold qgn;omega
 unfold nraw nsig
 rw[List.getElem?_map,List.getElem?_range (by omega)]
 have h:=qnj c v (qgn c)
 rw[if_pos e] at h
 show some (nsgn c v (qgn c))=_
 rw[←h]
 rfl
theorem qwo(c:Int){v:Int}(hv:0<=v):nmB (qck c v)=true:=by
 have hm0:0<=c%12:=Int.emod_nonneg _ (by decide)
 have hm1:c%12<12:=Int.emod_lt_of_pos _ (by decide)
 have v0:=Int.emod_nonneg v (show 1+c%12≠0 by omega)
 have l:=qjy c v (1+c%12).toNat
 have k1:1<=(qfh c v).length/\(qfh c v).length<=12/\∀y∈qfh c v,y∈NS.cps.toList:=by
  unfold qfh
  split
  ·rw[List.length_take,l]
   exact⟨by omega,by omega,λy hy=>qtt y (List.mem_of_mem_take hy)⟩
  ·rw[l]
   exact⟨by omega,by omega,qtt⟩
 unfold nmB nmL qck mkS
 rw[decide_eq_true k1.1,decide_eq_true k1.2.1,List.all_eq_true.mpr λy hy=>decide_eq_true (k1.2.2 y hy)]
 rfl
theorem qqg(c:Int)(v:Nat):(qck c v).cps.toList[qgn c]?=none\/(qck c v).cps.toList[qgn c]?=nsig c v:=by
 show (qfh c v)[qgn c]?=none\/(qfh c v)[qgn c]?=nsig c v
 unfold qfh
 split
 ·rw[List.getElem?_take]
  split
  ·exact .inr (qhm c v)
  ·exact .inl rfl
 ·exact .inr (qhm c v)
theorem qqf(c:Int){v:Nat}(h:v%5≠4):(qck c v).cps.toList[qgn c]?=nsig c v:=by
 show (qfh c v)[qgn c]?=nsig c v
 unfold qfh
 rw[if_neg (λq=>h (by have:=q.2;omega))]
 exact qhm c v
theorem qtv(c:Int)(v:Nat):nsig c v≠none:=λe=>by
 have h0:=Int.emod_nonneg (qni c+(v:Int)) (show (36:Int)≠0 by decide)
 have h1:=Int.emod_lt_of_pos (qni c+(v:Int)) (show (0:Int)<36 by decide)
 have ln:=qrl
 have:=List.getElem?_eq_none_iff.mp e
 omega
theorem qwt(c:Int){v w:Nat}(hv:v<36)(hw:w<36)(e:nsig c v=nsig c w):v=w:=by
 have nd:NS.cps.toList.Nodup:=by decide +kernel
 have ln:=qrl
 unfold nsig at e
 have h0:=Int.emod_nonneg (qni c+(v:Int)) (show (36:Int)≠0 by decide)
 have h1:=Int.emod_lt_of_pos (qni c+(v:Int)) (show (0:Int)<36 by decide)
 have h2:=Int.emod_nonneg (qni c+(w:Int)) (show (36:Int)≠0 by decide)
 have h3:=Int.emod_lt_of_pos (qni c+(w:Int)) (show (0:Int)<36 by decide)
 have:=(List.getElem?_inj (by omega) nd).mp e
 omega
theorem qtq(c:Int){v w:Nat}(hv:v<36)(hw:w<36)(n:v%5≠4)(e:qck c v=qck c w):v=w:=by
 have h:=qqf c n
 rw[e] at h
 rcases qqg c w with q|q
 ·rw[q] at h
  exact absurd h.symm (qtv c v)
 ·rw[q] at h
  exact(qwt c hw hv h).symm
def qdp:DP:=λds Q=>∃c v,ds=[.int c,.int v]/\0<=v/\Q (.val (.str (qck c v)))
theorem qm5:∀ds Q,qdp ds Q->ds.length=2:=by rintro ds Q ⟨_,_,rfl,_⟩;rfl
abbrev En(Q:R->Prop):VEnds:={ nx:=λ_=>Q (.val .non),rt:=Q }
abbrev EnX(Q:R->Prop):VEnds:={ nx:=λ_=>Q (.val .non),rt:=Q,xc:=λ_ n=>Q (.exc n) }
def qfz:DP:=λds Q=>∃c,ds=[.int c]/\∀zs:List Str,zs.Nodup->(∀z∈zs,∃v:Nat,v<36/\z=qck c v)->(∀v:Nat,v<36->qck c v∈zs)->zs.length<=36->Q (.own (.lst (zs.map .str)))
theorem qtf:∀ds Q,qfz ds Q->ds.length=1:=by rintro ds Q ⟨_,rfl,_⟩;rfl
def qn6(ws:List Str):List Nat:=ws.flatMap λw=>47::w.cps.toList
theorem qo9:∀(ws:List Str) (w:List Nat),47∉w->(∀z∈ws,(47:Nat)∉z.cps.toList)->sp 47 (w++qn6 ws)=w::ws.map (·.cps.toList)
|[],w,hw,_=>by
  show sp 47 (w++[])=_
  rw[List.append_nil,qn4 47 w hw]
  rfl
|z::ws,w,hw,h=>by
  show sp 47 (w++(47::z.cps.toList++qn6 ws))=_
  rw[List.cons_append,quj 47 w _ hw,qo9 ws _ (h z (List.mem_cons_self ..)) λy hy=>h y (List.mem_cons_of_mem _ hy)]
  rfl
theorem app_list(a b:Str):(a++b).cps.toList=a.cps.toList++b.cps.toList:=by
 show (a.cps++b.cps).toList=_
 rw[Array.toList_append]
theorem qo8:("/" : Str).cps.toList=[47]:=by rw[qxs]
theorem join_list:∀(ws:List Str) (w:Str),(PySem.Str.join "/" (w::ws)).cps.toList=w.cps.toList++qn6 ws
|[],w=>(List.append_nil _).symm
|y::ws,w=>by
  have e:PySem.Str.join "/" (w::y::ws)=w++("/" : Str)++PySem.Str.join "/" (y::ws):=rfl
  rw[e,app_list,app_list,join_list ws y,qo8,List.append_assoc]
  rfl
theorem qbt(w:Str)(ws:List Str):(glue "/" (w::ws)).cps.toList=w.cps.toList++qn6 ws:=by
 show (Builtin.Str.glued "/" (w::ws)).cps.toList=_
 rw[StrLaws.glued_eq_join,join_list]
theorem qog{z:Str}(h:wdB z=true):(47:Nat)∉z.cps.toList:=by
 unfold wdB at h
 rw[Bool.or_eq_true] at h
 rcases h with q|q
 ·have:=of_decide_eq_true q
  rw[List.mem_cons,List.mem_singleton] at this
  rcases this with rfl|rfl
  ·decide +kernel
  ·decide +kernel
 ·exact q0t q
theorem qoh{z:Str}(h:wdB z=true):z≠"" := λe=>by subst e;revert h;decide +kernel
theorem qvp{z:Str}(h:wdB z=true):∃x xs,z.cps.toList=x::xs/\x≠47:=by
 have hf:=qog h
 cases hc:z.cps.toList with
|nil=>exact absurd (qd4 (by rw[hc];decide +kernel)) (qoh h)
|cons x xs=>exact⟨x,xs,rfl,λe=>by rw[hc,e] at hf;exact hf (List.mem_cons_self ..)⟩
theorem qpb(w:Str)(ws:List Str)(h:∀z∈w::ws,wdB z=true):(sp 47 (w.cps.toList++qn6 ws)).map mkS=w::ws:=by
 rw[qo9 ws _ (qog (h w (List.mem_cons_self ..))) λz hz=>qog (h z (List.mem_cons_of_mem _ hz)),List.map_cons,qd2,List.map_map]
 congr 1
 exact(List.map_congr_left λz _=>qd2 z).trans (List.map_id _)
theorem qfs{ws:List Str}(h0:ws≠[])(hl:ws.length<=40)(hw:∀z∈ws,wdB z=true):qbj (glue "/" ws)=some (false,ws):=by
 cases ws with
|nil=>exact absurd rfl h0
|cons w ws =>
  obtain⟨x,xs,e1,e2⟩:=qvp (hw w (List.mem_cons_self ..))
  have hr:rt (glue "/" (w::ws))=false:=by
   unfold rt
   rw[qbt,e1,List.cons_append,List.head?_cons]
   simpa using e2
  have hs:wsW (glue "/" (w::ws))=w::ws:=by
   unfold wsW
   rw[hr,if_neg (by decide),qbt]
   exact qpb w ws hw
  unfold qbj
  rw[if_neg (λz=>?_),hr,hs,if_pos ⟨hl,List.all_eq_true.mpr hw⟩]
  have hz:=congrArg (λy:Str=>y.cps.toList.head?) z
  simp only[qbt,e1,List.cons_append,List.head?_cons,qo8] at hz
  exact e2 (Option.some.inj hz)
theorem qjc{ws:List Str}(hl:ws.length<=40)(hw:∀z∈ws,wdB z=true):qbj (("/" : Str)++glue "/" ws)=some (true,ws):=by
 cases ws with
|nil =>
  have:("/" : Str)++glue "/" []="/" := by decide +kernel
  rw[this]
  rfl
|cons w ws =>
  obtain⟨x,xs,e1,e2⟩:=qvp (hw w (List.mem_cons_self ..))
  have el:(("/" : Str)++glue "/" (w::ws)).cps.toList=47::(w.cps.toList++qn6 ws):=by
   rw[app_list,qbt,qo8]
   rfl
  have hr:rt (("/" : Str)++glue "/" (w::ws))=true:=by
   unfold rt
   rw[el]
   rfl
  have hs:wsW (("/" : Str)++glue "/" (w::ws))=w::ws:=by
   unfold wsW
   rw[hr,if_pos rfl,el]
   exact qpb w ws hw
  unfold qbj
  rw[if_neg (λz=>?_),hr,hs,if_pos ⟨hl,List.all_eq_true.mpr hw⟩]
  have hz:=congrArg (λy:Str=>y.cps.toList.length) z
  simp only[el,qo8,e1,List.length_cons,List.cons_append] at hz
  have e3:([]:List Nat).length=0:=rfl
  omega
theorem q6s{z:Str}(h:wdB z=true):z.length<=12:=by
 unfold wdB at h
 rw[Bool.or_eq_true] at h
 rcases h with q|q
 ·have:=of_decide_eq_true q
  rw[List.mem_cons,List.mem_singleton] at this
  rcases this with rfl|rfl
  ·decide +kernel
  ·decide +kernel
 ·exact(qhl q).2
theorem ql2:∀ {ws:List Str},(∀z∈ws,wdB z=true)->(ws.map (·.length)).sum<=12*ws.length
|[],_=>Nat.le_refl _
|w::ws,h=>by
  have:=ql2 λz m=>h z (List.mem_cons_of_mem w m)
  have:=q6s (h w (List.mem_cons_self ..))
  rw[List.map_cons,List.sum_cons,List.length_cons]
  omega
theorem qds:("/" : Str).length=1:=by decide +kernel
theorem qjo{ws:List Str}(h:∀z∈ws,wdB z=true):(glue "/" ws).length<=13*ws.length:=by
 have:=qv2 "/" ws
 have:=ql2 h
 rw[qds] at *
 omega
theorem q6r:wdB "." = true:=by decide +kernel
theorem q29:wdB ".." = true:=by decide +kernel
theorem qv4(x y:Str)(ys:List Str):(glue "/" (x::y::ys)).cps.toList=x.cps.toList++47::(glue "/" (y::ys)).cps.toList:=by
 rw[qbt,qbt]
 rfl
def upL(k:Nat):List Nat:=(List.replicate k [46,46,47]).flatten
theorem q2s(w:Str)(ws:List Str):∀k:Nat,upL k++(glue "/" (w::ws)).cps.toList=(glue "/" (List.replicate k (".." : Str)++w::ws)).cps.toList
|0=>rfl
|k+1=>by
  have ih:=q2s w ws k
  have hd:((".." : Str)).cps.toList=[46,46]:=by decide +kernel
  have hn:∃y ys,List.replicate k (".." : Str)++w::ws=y::ys:=by
   cases k with
  |zero=>exact⟨_,_,rfl⟩
  |succ k=>exact⟨_,_,rfl⟩
  obtain⟨y,ys,e⟩:=hn
  rw[e] at ih
  rw[List.replicate_succ,List.cons_append,e,qv4,hd,←ih]
  rfl
theorem qkk{t:TVT}{a u:TVS}{Dv:VEnds}{τ:VSt}(P:Bool->Prop)(ht:∀Y:Bool->Prop,(∀c,P c->Y c)->t τ Y)(ha:P true->a { nx:=u Dv,rt:=Dv.rt,bk:=Dv.bk,ct:=Dv.ct,xc:=Dv.xc,ro:=Dv.ro,rn:=Dv.rn } τ)(hb:P false->u Dv τ):vSeq (vIfS t a qbn) u Dv τ:=qbb (v_if P ht ha hb)
def qb4(w:List Str)(z:Str):List Str:=if z=Str.ofString "." then w else if z=Str.ofString ".." then w.dropLast else w++[z]
def qa0(r:Bool)(w:List Str):List Str:=if r=true then [] else w
inductive WR where
|ok (tr:List (List Str×Str×List Str)) (w:List Str) (f:Nat)
|exc (n:Str)
def trD(t:List Str×Str×List Str):D:=.tup [wayD t.1,.str t.2.1,wayD t.2.2]
def wrR:WR->R
|.ok tr w f=>.val (.tup [.lst (tr.map trD),wayD w,.int f])
|.exc n=>.exc n
inductive WalkTo(L:List Str->Option (Str×Str)):List Str->List Str->Nat->List (List Str×Str×List Str)->WR->Prop
|nil {w f tr}:WalkTo L w [] f tr (.ok tr w f)
|miss {w z zs f tr} (h:L (qb4 w z)=none):WalkTo L w (z::zs) f tr (.exc "Missing")
|file {w z zs f tr t} (h:L (qb4 w z)=some (qbe,t)) (hz:zs≠[]):WalkTo L w (z::zs) f tr (.exc "NotFolder")
|many {w z zs tr t} (h:L (qb4 w z)=some (qbz,t)):WalkTo L w (z::zs) 8 tr (.exc "Astray")
|link {w z zs f tr t r vs res} (h:L (qb4 w z)=some (qbz,t)) (hf:f≠8) (hw:qbj t=some (r,vs)) (go:WalkTo L (qa0 r w) (vs++zs) (f+1) (tr++[(w,z,qa0 r w)]) res):WalkTo L w (z::zs) f tr res
|plain {w z zs f tr m t res} (h:L (qb4 w z)=some (m,t)) (hm:m≠qbz) (hz:m=qbe->zs=[]) (go:WalkTo L (qb4 w z) zs f (tr++[(w,z,qb4 w z)]) res):WalkTo L w (z::zs) f tr res
structure FT(rs:List Row):Prop where
 nd:(rs.map (·.1)).Nodup
 ne:∀r∈rs,r.1≠[]
 nm:∀r∈rs,Wy14 r.1
 len:rs.length<200
 lk:∀r∈rs,r.2.1=qbz->r.2.2.length<=3000/\∃b vs,qbj r.2.2=some (b,vs)
def look(rs:List Row)(w:List Str):Option (Str×Str):=if w=[] then some (qah,qa8) else (rs.find? λr=>decide (r.1=w)).map (·.2)
def qlp(rs:List Row)(w:List Str):D:=((look rs w).map thD).getD .non
def prsR(rs:List Row):List (List Str×D):=([],thD (qah,qa8))::rs.map λr=>(r.1,thD r.2)
theorem qhi(rs:List Row)(w:List Str):lkP (prsR rs) w=(look rs w).map thD:=by
 unfold lkP prsR look
 by_cases h0:w=[]
 ·subst h0
  rfl
 ·rw[if_neg h0,List.find?_cons_of_neg (by simpa using λz:[]=w=>h0 z.symm),List.find?_map,Option.map_map,Option.map_map]
  congr 1
def qdy:DP:=λds Q=>∃w,ds=[wayD w]/\Q (.val (wayD w.dropLast))
def qiy:DP:=λds Q=>∃(w:List Str) (z:Str),ds=[wayD w,.str z]/\w.length<1000/\Q (.val (wayD (qb4 w z)))
def qbd:DP:=λds Q=>∃(r:Bool) (w:List Str),ds=[.bl r,wayD w]/\Q (.val (wayD (qa0 r w)))
def qbx:DP:=λds Q=>∃f:Nat,ds=[.int f]/\(f=8->Q (.exc "Astray"))/\(f≠8->Q (.val (.int (f+1:Nat))))
def qa4:DP:=λds Q=>∃rs:List Row,ds=[qak rs]/\FT rs/\Q (.own (qa1 (prsR rs)))
def WayG(w:List Str):Prop:=w.length<=100/\("" : Str)∉w
def qff:DP:=λds Q=>∃(rs:List Row) (w:List Str) (zs:List Str) (f:Nat),ds=[qa1 (prsR rs),wayD w,qcc zs,.int f]/\FT rs/\WayG w/\zs.length<=40/\(∀z∈zs,wdB z=true)/\f<=8/\∀res,WalkTo (look rs) w zs f [] res->Q (wrR res)
theorem qtb:∀ds Q,qdy ds Q->ds.length=1:=by rintro ds Q ⟨_,rfl,_⟩;rfl
theorem qwh:∀ds Q,qiy ds Q->ds.length=2:=by rintro ds Q ⟨_,_,rfl,_⟩;rfl
theorem qli:∀ds Q,qbd ds Q->ds.length=2:=by rintro ds Q ⟨_,_,rfl,_⟩;rfl
theorem qlh:∀ds Q,qbx ds Q->ds.length=1:=by rintro ds Q ⟨_,rfl,_⟩;rfl
theorem qjs:∀ds Q,qa4 ds Q->ds.length=1:=by rintro ds Q ⟨_,rfl,_⟩;rfl
theorem qwi:∀ds Q,qff ds Q->ds.length=4:=by rintro ds Q ⟨_,_,_,_,rfl,_⟩;rfl
theorem qks{t:Str}{r:Bool}{vs:List Str}(h:qbj t=some (r,vs)):vs.length<=40/\∀z∈vs,wdB z=true:=by
 unfold qbj at h
 by_cases e:t="/"
 ·rw[if_pos e] at h
  cases h
  exact⟨by decide,λz m=>by cases m⟩
 ·rw[if_neg e] at h
  by_cases e2:(wsW t).length<=40/\(wsW t).all wdB=true
  ·rw[if_pos e2] at h
   cases h
   exact⟨e2.1,λz m=>List.all_eq_true.mp e2.2 z m⟩
  ·rw[if_neg e2] at h
   cases h
theorem quk{w:List Str}{z:Str}(hw:("" : Str)∉w)(hz:wdB z=true):("" : Str)∉qb4 w z:=by
 unfold qb4
 split
 ·exact hw
 ·split
  ·exact λm=>hw (List.dropLast_subset w m)
  ·intro m
   rcases List.mem_append.mp m with m|m
   ·exact hw m
   ·exact qoh hz (List.mem_singleton.mp m).symm
theorem qxz(w:List Str)(z:Str):(qb4 w z).length<=w.length+1:=by
 unfold qb4
 split
 ·omega
 ·split
  ·rw[List.length_dropLast];omega
  ·rw[List.length_append,List.length_singleton];exact Nat.le_refl _
theorem qpd(r:Bool){w:List Str}(hw:("" : Str)∉w):("" : Str)∉qa0 r w:=by
 unfold qa0
 split
 ·exact List.not_mem_nil
 ·exact hw
theorem qh5(r:Bool)(w:List Str):(qa0 r w).length<=w.length:=by
 unfold qa0
 split
 ·exact Nat.zero_le _
 ·exact Nat.le_refl _
theorem eqSN(ss:List Str):eqD (.lst (ss.map D.str)) (.lst [])=decide (ss=[]):=qb5 (by
 rw[eqD_iff,decide_eq_true_iff]
 cases ss with
|nil=>exact⟨λ_=>rfl,λ_=>rfl⟩
|  cons s ss=>exact⟨λh=>absurd (D.lst.inj h) (List.cons_ne_nil _ _),λh=>absurd h (List.cons_ne_nil _ _)⟩)
theorem qz2(ss:List Str):depD (.lst (ss.map D.str))<=50:=by
 unfold depD
 rw[qgq]
 decide
def qgc(rs:List Row)(w:List Str)(t:Str)(res:WR):Prop:=(qbj t=none/\res=.exc "NoWay")\/∃r zs,qbj t=some (r,zs)/\WalkTo (look rs) (qa0 r w) zs 0 [] res
def wayR:WR->R
|.ok _ w _=>.val (wayD w)
|.exc n=>.exc n
def qet:DP:=λds Q=>∃(rs:List Row) (w:List Str) (t:Str),ds=[qak rs,wayD w,.str t]/\FT rs/\WayG w/\t.length<=5000/\∀res,qgc rs w t res->Q (wrR res)
def qc8:DP:=λds Q=>∃(rs:List Row) (w:List Str) (t:Str),ds=[qak rs,wayD w,.str t]/\FT rs/\WayG w/\t.length<=5000/\∀res,qgc rs w t res->Q (wayR res)
inductive PlaceTo(rs:List Row)(w:List Str)(t:Str)(f:Nat):WR->Prop
|noway (h:qbj t=none):PlaceTo rs w t f (.exc "NoWay")
|noplace {r zs} (h:qbj t=some (r,zs)) (hz:zs=[]\/nmB (zs.getLastD "")=false):PlaceTo rs w t f (.exc "NoPlace")
|bad {r zs n} (h:qbj t=some (r,zs)) (hz:zs≠[]) (hn:nmB (zs.getLastD "")=true) (go:WalkTo (look rs) (qa0 r w) zs.dropLast f [] (.exc n)):PlaceTo rs w t f (.exc n)
|file {r zs tr v f' m x} (h:qbj t=some (r,zs)) (hz:zs≠[]) (hn:nmB (zs.getLastD "")=true) (go:WalkTo (look rs) (qa0 r w) zs.dropLast f [] (.ok tr v f')) (hm:look rs v=some (m,x)) (hf:m≠qah):PlaceTo rs w t f (.exc "NotFolder")
|ok {r zs tr v f' x} (h:qbj t=some (r,zs)) (hz:zs≠[]) (hn:nmB (zs.getLastD "")=true) (go:WalkTo (look rs) (qa0 r w) zs.dropLast f [] (.ok tr v f')) (hm:look rs v=some (qah,x)):PlaceTo rs w t f (.ok [] (v++[zs.getLastD ""]) f')
def plR:WR->R
|.ok _ w f=>.val (.tup [wayD w,.int f])
|.exc n=>.exc n
def qdz:DP:=λds Q=>∃(rs:List Row) (w:List Str) (t:Str) (f:Nat),ds=[qa1 (prsR rs),wayD w,.str t,.int f]/\FT rs/\WayG w/\t.length<=5000/\f<=8/\(∃mt,look rs w=some mt)/\∀res,PlaceTo rs w t f res->Q (plR res)
theorem qqd:∀ds Q,qet ds Q->ds.length=3:=by rintro ds Q ⟨_,_,_,rfl,_⟩;rfl
theorem qlf:∀ds Q,qc8 ds Q->ds.length=3:=by rintro ds Q ⟨_,_,_,rfl,_⟩;rfl
theorem len_placed:∀ds Q,qdz ds Q->ds.length=4:=by rintro ds Q ⟨_,_,_,_,rfl,_⟩;rfl
theorem qta{w:List Str}(h:w≠[]):w=w.dropLast++[w.getLastD ""]:=by
 have e:w.getLastD "" = w.getLast h:=by
  cases w with
 |nil=>exact absurd rfl h
 |cons x w=>rfl
 rw[e,List.dropLast_concat_getLast]
theorem qvm{rs:List Row}:∀ {w zs f tr res},WalkTo (look rs) w zs f tr res->(∃mt,look rs w=some mt)->∀ {tr' w' f'},res=.ok tr' w' f'->∃mt,look rs w'=some mt:=by
 intro w zs f tr res h
 induction h with
|nil=>intro hl tr' w' f' e;cases e;exact hl
|miss=>intro _ _ _ _ e;cases e
|file=>intro _ _ _ _ e;cases e
|many=>intro _ _ _ _ e;cases e
|link h hf hw go ih =>
  intro hl tr' w' f' e
  refine ih ?_ e
  unfold qa0
  split
  ·exact⟨_,rfl⟩
  ·exact hl
|plain h hm hz go ih=>intro hl tr' w' f' e;exact ih ⟨_,h⟩ e
theorem qgs{rs:List Row}(F:FT rs){w:List Str}{mt:Str×Str}(h:look rs w=some mt):Wy14 w:=by
 unfold look at h
 by_cases e0:w=[]
 ·subst e0
  exact⟨by decide,λz m=>by cases m⟩
 ·rw[if_neg e0] at h
  obtain⟨r,h1,h2⟩:=Option.map_eq_some_iff.mp h
  have:=of_decide_eq_true (List.find?_some (p:=λr:Row=>decide (r.1=w)) h1)
  rw[←this]
  exact F.nm r (List.mem_of_find?_eq_some h1)
theorem qzc(r:Bool){w:List Str}(h:WayG w):WayG (qa0 r w):=⟨Nat.le_trans (qh5 r w) h.1,qpd r h.2⟩
theorem qq6{rs:List Row}(r:Bool){w:List Str}(h:∃mt,look rs w=some mt):∃mt,look rs (qa0 r w)=some mt:=by
 unfold qa0
 split
 ·exact⟨_,rfl⟩
 ·exact h
def WyH(w:List Str):Prop:=w.length<=12/\∀z∈w,nmB z=true
def mkH(r:Row):Prop:=r.2=(qah,qa8)\/r.2.1=qbe\/(r.2.1=qbz/\r.2.2.length<=3000/\∃b vs,qbj r.2.2=some (b,vs))
structure Hall(rs:List Row):Prop where
 nd:(rs.map (·.1)).Nodup
 ne:∀r∈rs,r.1≠[]
 wy:∀r∈rs,WyH r.1
 cl:∀r∈rs,r.1.dropLast=[]\/(r.1.dropLast,qah,qa8)∈rs
 kd:∀r∈rs,mkH r
structure HInv(i:Nat)(rs:List Row)(fs:List (List Str)):Prop where
 hall:Hall rs
 len:rs.length<=i
 ne:fs≠[]
 fol:∀f∈fs,f=[]\/(f,qah,qa8)∈rs
 fln:fs.length<=i+1
theorem WyH.ne{w:List Str}(h:WyH w):("" : Str)∉w:=λm=>by
 have:=(qhl (h.2 _ m)).1
 have e:("" : Str).length=0:=by decide +kernel
 omega
theorem HInv.folW{i:Nat}{rs:List Row}{fs:List (List Str)}(I:HInv i rs fs){f:List Str}(h:f∈fs):WyH f:=by
 rcases I.fol f h with rfl|q
 ·exact⟨by decide,λz m=>by cases m⟩
 ·exact I.hall.wy _ q
theorem HInv.stay{i:Nat}{rs:List Row}{fs:List (List Str)}(I:HInv i rs fs):HInv (i+1) rs fs:=⟨I.hall,by have:=I.len;omega,I.ne,I.fol,by have:=I.fln;omega⟩
theorem HInv.put{i:Nat}{rs:List Row}{fs:List (List Str)}(I:HInv i rs fs){f:List Str}(mf:f∈fs){z m t:Str}(hz:nmB z=true)(hl:(f++[z]).length<=12)(nw:f++[z]∉rs.map (·.1))(hm:mkH (f++[z],m,t)) :
  HInv (i+1) (rs++[(f++[z],m,t)]) fs/\((m,t)=(qah,qa8)->HInv (i+1) (rs++[(f++[z],m,t)]) (fs++[f++[z]])):=by
 have hf:=I.folW mf
 have A:Hall (rs++[(f++[z],m,t)]):={
  nd:=by
   rw[List.map_append,List.nodup_append]
   refine⟨I.hall.nd,by simp,λa ha b hb e=>?_⟩
   rw[List.map_singleton,List.mem_singleton] at hb
   subst e hb
   exact nw ha
  ne:=λr mr=>by
   rcases List.mem_append.mp mr with q|q
   ·exact I.hall.ne r q
   ·rw[List.mem_singleton.mp q]
    simp
  wy:=λr mr=>by
   rcases List.mem_append.mp mr with q|q
   ·exact I.hall.wy r q
   ·rw[List.mem_singleton.mp q]
    refine⟨hl,λy my=>?_⟩
    rcases List.mem_append.mp my with q|q
    ·exact hf.2 y q
    ·rw[List.mem_singleton.mp q]
     exact hz
  cl:=λr mr=>by
   rcases List.mem_append.mp mr with q|q
   ·exact(I.hall.cl r q).imp id (List.mem_append_left _)
   ·rw[List.mem_singleton.mp q]
    show (f++[z]).dropLast=[]\/_
    rw[List.dropLast_concat]
    exact(I.fol f mf).imp id (List.mem_append_left _)
  kd:=λr mr=>by
   rcases List.mem_append.mp mr with q|q
   ·exact I.hall.kd r q
   ·rw[List.mem_singleton.mp q]
    exact hm }
 have hlen:=I.len
 have hfln:=I.fln
 refine⟨⟨A,by rw[List.length_append,List.length_singleton];omega,I.ne,λg mg=>(I.fol g mg).imp id (List.mem_append_left _),by omega⟩,λe=>⟨A,by rw[List.length_append,List.length_singleton];omega,by simp,λg mg=>?_,by rw[List.length_append,List.length_singleton];omega⟩⟩
 rcases List.mem_append.mp mg with q|q
 ·exact(I.fol g q).imp id (List.mem_append_left _)
 ·rw[List.mem_singleton.mp q]
  cases e
  exact .inr (List.mem_append_right _ (List.mem_singleton.mpr rfl))
theorem qjt{rs:List Row}(nd:(rs.map (·.1)).Nodup){r:Row}(hr:r∈rs)(h0:r.1≠[]):look rs r.1=some r.2:=by
 unfold look
 rw[if_neg h0,qjn nd hr]
 rfl
theorem qox{rs:List Row}{w:List Str}(h0:w≠[])(h:w∉rs.map (·.1)):look rs w=none:=by
 unfold look
 rw[if_neg h0,Option.map_eq_none_iff,List.find?_eq_none]
 intro r mr e
 exact h (List.mem_map.mpr ⟨r,mr,of_decide_eq_true e⟩)
theorem qtj{rs ts:List Row}(nd:(rs.map (·.1)).Nodup)(hp:ts.Perm rs)(w:List Str):look ts w=look rs w:=by
 by_cases h0:w=[]
 ·subst h0
  rfl
 ·by_cases h:w∈rs.map (·.1)
  ·obtain⟨r,mr,rfl⟩:=List.mem_map.mp h
   rw[qjt nd mr h0,qjt ((hp.map _).nodup_iff.mpr nd) (hp.mem_iff.mpr mr) h0]
  ·rw[qox h0 h,qox h0 λq=>h ((hp.map _).mem_iff.mp q)]
theorem WyH.wy{w:List Str}(h:WyH w):Wy14 w:=⟨by have:=h.1;omega,λz m=>qhl (h.2 z m)⟩
theorem qs2{rs ts:List Row}(H:Hall rs)(hl:rs.length<64)(hp:ts.Perm rs):FT ts where
 nd:=(hp.map _).nodup_iff.mpr H.nd
 ne:=λr mr=>H.ne r (hp.mem_iff.mp mr)
 nm:=λr mr=>(H.wy r (hp.mem_iff.mp mr)).wy
 len:=by rw[hp.length_eq];omega
 lk:=λr mr e=>by
  rcases H.kd r (hp.mem_iff.mp mr) with q|q|q
  ·rw[q] at e
   exact absurd e (by decide +kernel)
  ·exact absurd (q.symm.trans e) (by decide +kernel)
  ·exact q.2
theorem qs3{rs:List Row}(H:Hall rs){r:Row}(hr:r∈rs):∀(n k:Nat),r.1.length=k+n->0<n->look rs (r.1.take k)=some (qah,qa8)
|0,_,_,h=>absurd h (Nat.lt_irrefl 0)
|n+1,k,hk,_=>by
  have key:∀q∈rs,q.1=r.1.take (k+1)->look rs (r.1.take k)=some (qah,qa8):=λq mq eq=>by
   have e:q.1.dropLast=r.1.take k:=by
    rw[eq,List.dropLast_eq_take,List.length_take,List.take_take]
    congr 1
    omega
   rcases H.cl q mq with c|c
   ·rw[e] at c
    rw[c]
    rfl
   ·have h0:(q.1.dropLast,qah,qa8).1≠[]:=H.ne _ c
    have:=qjt H.nd c h0
    rw[e] at this
    exact this
  by_cases hn:n=0
  ·subst hn
   exact key r hr (by rw[List.take_of_length_le (by omega)])
  ·have ih:=qs3 H hr n (k+1) (by omega) (by omega)
   unfold look at ih
   rw[if_neg (λe=>by
    have:=congrArg List.length e
    rw[List.length_take] at this
    have e0:([]:List Str).length=0:=rfl
    omega)] at ih
   obtain⟨q,h1,h2⟩:=Option.map_eq_some_iff.mp ih
   exact key q (List.mem_of_find?_eq_some h1) (of_decide_eq_true (List.find?_some (p:=λq:Row=>decide (q.1=r.1.take (k+1))) h1))
theorem qem{z:Str}(h:nmB z=true)(w:List Str):qb4 w z=w++[z]:=by
 unfold qb4
 rw[if_neg (λe=>by subst e;revert h;decide +kernel),if_neg (λe=>by subst e;revert h;decide +kernel)]
theorem qvl{L:List Str->Option (Str×Str)}:∀(v w:List Str) (f:Nat) (tr:List (List Str×Str×List Str)) (res:WR),(∀z∈v,nmB z=true)->(∀k,0<k->k<v.length->∃t,L (w++v.take k)=some (qah,t))->(v≠[]->∃m t,L (w++v)=some (m,t)/\m≠qbz)->WalkTo L w v f tr res->∃tr',res=.ok tr' (w++v) f
|[],w,f,tr,res,_,_,_,h=>by
  cases h
  exact⟨tr,by rw[List.append_nil]⟩
|z::v,w,f,tr,res,hn,hf,hl,h=>by
  have es:=qem (hn z (List.mem_cons_self ..)) w
  have hn':∀y∈v,nmB y=true:=λy my=>hn y (List.mem_cons_of_mem _ my)
  have look1:∃m t,L (w++[z])=some (m,t)/\m≠qbz/\(m=qbe->v=[]):=by
   by_cases hv:v=[]
   ·subst hv
    obtain⟨m,t,h1,h2⟩:=hl (by simp)
    exact⟨m,t,h1,h2,λ_=>rfl⟩
   ·obtain⟨t,h1⟩:=hf 1 (by decide) (by have:=List.length_pos_iff.mpr hv;rw[List.length_cons];omega)
    exact⟨qah,t,h1,by decide +kernel,λe=>absurd e (by decide +kernel)⟩
  obtain⟨m,t,h1,h2,h3⟩:=look1
  cases h with
 |miss q=>rw[es,h1] at q;cases q
 |file q hz=>rw[es,h1] at q;cases q;exact absurd (h3 rfl) hz
 |many q=>rw[es,h1] at q;cases q;exact absurd rfl h2
 |link q _ _ _=>rw[es,h1] at q;cases q;exact absurd rfl h2
 |plain q _ _ go =>
   rw[es] at go
   obtain⟨tr',e⟩:=qvl v (w++[z]) f _ res hn' (λk k0 k1=>by
    have:=hf (k+1) (by omega) (by rw[List.length_cons];omega)
    rw[List.take_succ_cons] at this
    rw[List.append_assoc]
    exact this) (λhv=>by
    obtain⟨m,t,h1,h2⟩:=hl (by simp)
    exact⟨m,t,by rw[List.append_assoc];exact h1,h2⟩) go
   exact⟨tr',by rw[e,List.append_assoc];rfl⟩
theorem qke{ts:List Row}{w:List Str}{t:Str}{b:Bool}{zs:List Str}(ht:qbj t=some (b,zs)){res:WR}(h:qgc ts w t res):WalkTo (look ts) (qa0 b w) zs 0 [] res:=by
 rcases h with ⟨q,_⟩|⟨r,vs,q,go⟩
 ·rw[ht] at q;cases q
 ·rw[ht] at q;cases q;exact go
def qb1(r:Bool)(zs:List Str):Str:=if r=true then ("/" : Str)++glue "/" zs else glue "/" zs
theorem qgr:¬ qbe=qbz:=by decide +kernel
def xc3(n:Str):Prop:=n∈[("Missing" : Str),"NotFolder","Astray"]
def xc5(n:Str):Prop:=n∈[("NoWay" : Str),"NoPlace","Missing","NotFolder","Astray"]
theorem qpt{L:List Str->Option (Str×Str)}:∀ {w zs f tr a},WalkTo L w zs f tr a->f<=8->(∀n,a=.exc n->xc3 n)/\∀tr' v f',a=.ok tr' v f'->f<=f'/\f'<=8:=by
 intro w zs f tr a h
 induction h with
|nil=>intro hf;exact⟨λn e=>(by cases e),λ_ _ _ e=>by cases e;exact⟨Nat.le_refl _,hf⟩⟩
|miss=>intro hf;exact⟨λn e=>by cases e;simp[xc3],λ_ _ _ e=>by cases e⟩
|file=>intro hf;exact⟨λn e=>by cases e;simp[xc3],λ_ _ _ e=>by cases e⟩
|many=>intro hf;exact⟨λn e=>by cases e;simp[xc3],λ_ _ _ e=>by cases e⟩
|link h h8 hw go ih =>
  intro hf
  obtain⟨i1,i2⟩:=ih (by omega)
  exact⟨i1,λtr' v f' e=>by have:=i2 tr' v f' e;omega⟩
|plain h hm hz go ih=>exact ih
theorem qlv{rs:List Row}{w:List Str}{t:Str}{f:Nat}{a:WR}(h:PlaceTo rs w t f a)(hf:f<=8):(∀n,a=.exc n->xc5 n)/\∀tr v f',a=.ok tr v f'->f<=f'/\f'<=8:=by
 cases h with
|noway h=>exact⟨λn e=>by cases e;simp[xc5],λ_ _ _ e=>by cases e⟩
|noplace h hz=>exact⟨λn e=>by cases e;simp[xc5],λ_ _ _ e=>by cases e⟩
|bad h hz hn go =>
  refine⟨λn e=>?_,λ_ _ _ e=>by cases e⟩
  have:=(qpt go hf).1 n e
  simp only[xc3,List.mem_cons,List.not_mem_nil,or_false] at this
  simp only[xc5,List.mem_cons,List.not_mem_nil,or_false]
  rcases this with q|q|q<;>simp[q]
|file h hz hn go hm hf'=>exact⟨λn e=>by cases e;simp[xc5],λ_ _ _ e=>by cases e⟩
|ok h hz hn go hm=>exact⟨λn e=>(by cases e),λtr v f' e=>by cases e;exact(qpt go hf).2 _ _ _ rfl⟩
theorem qow{rs:List Row}{w:List Str}{mt:Str×Str}(h0:w≠[])(h:look rs w=some mt):(w,mt)∈rs:=by
 unfold look at h
 rw[if_neg h0] at h
 obtain⟨r,h1,h2⟩:=Option.map_eq_some_iff.mp h
 have e:=of_decide_eq_true (List.find?_some (p:=λr:Row=>decide (r.1=w)) h1)
 have:r=(w,mt):=by rw[←e,←h2]
 rw[←this]
 exact List.mem_of_find?_eq_some h1
theorem q0n{rs:List Row}(H:Hall rs){w:List Str}{mt:Str×Str}(h:look rs w=some mt):look rs w.dropLast=some (qah,qa8):=by
 by_cases h0:w=[]
 ·subst h0
  rfl
 ·have m:=qow h0 h
  have hl:0<w.length:=List.length_pos_iff.mpr h0
  rw[List.dropLast_eq_take]
  exact qs3 H m 1 (w.length-1) (by show w.length=_;omega) (by decide)
theorem dotdot:¬ Str.ofString ".." = Str.ofString "." := by decide +kernel
theorem qkc(w:List Str):qb4 w (Str.ofString ".")=w:=by unfold qb4;rw[if_pos rfl]
theorem qh6(w:List Str):qb4 w (Str.ofString "..")=w.dropLast:=by unfold qb4;rw[if_neg dotdot,if_pos rfl]
theorem qev{ts:List Row}{w:List Str}{t:Str}{f f':Nat}{tr:List (List Str×Str×List Str)}{v:List Str}(h:PlaceTo ts w t f (.ok tr v f')):∃u z x,v=u++[z]/\nmB z=true/\look ts u=some (qah,x):=by
 cases h with
|ok h hz hn go hm=>exact⟨_,_,_,rfl,hn,hm⟩
theorem qhq{ts:List Row}(F:FT ts){u:List Str}{z:Str}{x:Str}(hz:nmB z=true)(hu:look ts u=some (qah,x)):("" : Str)∉u++[z]/\WayG u/\(u++[z]).length<=15:=by
 have W:=qgs F hu
 have W1:=W.1
 refine⟨λm=>?_,⟨by omega,W.ok.ne⟩,by rw[List.length_append,List.length_singleton];omega⟩
 rcases List.mem_append.mp m with m|m
 ·exact W.ok.ne m
 ·exact qoh (qd3 hz) (List.mem_singleton.mp m).symm
theorem qgb{r:Bool}{zs:List Str}(h:zs≠[]\/r=true)(hl:zs.length<=40)(hw:∀z∈zs,wdB z=true):qbj (qb1 r zs)=some (r,zs):=by
 unfold qb1
 cases r with
|true=>rw[if_pos rfl];exact qjc hl hw
|false =>
  rw[if_neg (by decide)]
  exact qfs (h.elim id λe=>by cases e) hl hw
inductive GoalS(ts:List Row):List Str->Nat->WR->Prop
|ok {v f} (no:∀x,look ts v≠some (qbz,x)):GoalS ts v f (.ok [] v f)
|many {v x} (h:look ts v=some (qbz,x)):GoalS ts v 8 (.exc "Astray")
|bad {v f x n} (h:look ts v=some (qbz,x)) (n8:f≠8) (p:PlaceTo ts v.dropLast x (f+1) (.exc n)):GoalS ts v f (.exc n)
|link {v f x tr v2 f2 res} (h:look ts v=some (qbz,x)) (n8:f≠8) (p:PlaceTo ts v.dropLast x (f+1) (.ok tr v2 f2)) (go:GoalS ts v2 f2 res):GoalS ts v f res
def qvq(ts:List Row)(w:List Str)(t:Str)(f:Nat)(res:WR):Prop:=(∃n,PlaceTo ts w t f (.exc n)/\res=.exc n)\/∃tr v f',PlaceTo ts w t f (.ok tr v f')/\GoalS ts v f' res
def isLk(t:List Str×Str×List Str):Bool:=decide (¬ t.2.1=Str.ofString ".")&&decide (¬ t.2.1=Str.ofString "..")&&decide (¬ t.2.2=t.1++[t.2.1])
def lnkN(tr:List (List Str×Str×List Str)):Nat:=(tr.filter isLk).length
theorem qlo(tr:List (List Str×Str×List Str))(t:List Str×Str×List Str):lnkN (tr++[t])=lnkN tr+if isLk t=true then 1 else 0:=by
 unfold lnkN
 rw[List.filter_append,List.length_append]
 by_cases h:isLk t=true
 ·rw[if_pos h,List.filter_cons_of_pos h]
  rfl
 ·rw[if_neg h,List.filter_cons_of_neg h]
  rfl
theorem qwr(w:List Str)(z:Str)(r:Bool):¬ qa0 r w=w++[z]:=λe=>by
 have:=congrArg List.length e
 rw[List.length_append,List.length_singleton] at this
 have:=qh5 r w
 omega
theorem q3b{rs:List Row}(H:Hall rs)(hlen:rs.length<64):∀ {w zs k tr a},WalkTo (look rs) w zs k tr a->(∃mt,look rs w=some mt/\mt.1≠qbz)->(∀t∈tr,t.1.length<=14)->∀t v k2,a=.ok t v k2->lnkN t+k=lnkN tr+k2/\∀q∈t,q.1.length<=14:=by
 have F:=qs2 H hlen (List.Perm.refl rs)
 intro w zs k tr a h
 induction h with
|nil=>intro _ ht t v k2 e;cases e;exact⟨rfl,ht⟩
|miss=>intro _ _ _ _ _ e;cases e
|file=>intro _ _ _ _ _ e;cases e
|many=>intro _ _ _ _ _ e;cases e
|@link w z zs f tr t0 r vs res h hf hw go ih =>
  intro hl ht t v k2 e
  obtain⟨mt,hm,hn⟩:=hl
  have W:=(qgs F hm).1
  have fl:¬ qah=qbz:=by decide +kernel
  have d1:¬ z=Str.ofString "." := λq=>by
   subst q
   rw[qkc,hm] at h
   cases h
   exact hn rfl
  have d2:¬ z=Str.ofString ".." := λq=>by
   subst q
   rw[qh6,q0n H hm] at h
   exact fl (congrArg Prod.fst (Option.some.inj h))
  have lk:isLk (w,z,qa0 r w)=true:=by
   unfold isLk
   rw[decide_eq_true d1,decide_eq_true d2,decide_eq_true (qwr w z r)]
   rfl
  have hs:∃mt,look rs (qa0 r w)=some mt/\mt.1≠qbz:=by
   unfold qa0
   split
   ·exact⟨_,rfl,fl⟩
   ·exact⟨mt,hm,hn⟩
  obtain⟨i1,i2⟩:=ih hs (λq mq=>(List.mem_append.mp mq).elim (ht q) λy=>by rw[List.mem_singleton.mp y];exact W) t v k2 e
  rw[qlo,if_pos lk] at i1
  exact⟨by omega,i2⟩
|@plain w z zs f tr m t0 res h hm' hz go ih =>
  intro hl ht t v k2 e
  obtain⟨mt,hm,hn⟩:=hl
  have W:=(qgs F hm).1
  have lk:¬ isLk (w,z,qb4 w z)=true:=λq=>by
   unfold isLk at q
   rw[Bool.and_eq_true,Bool.and_eq_true] at q
   have q1:=of_decide_eq_true q.1.1
   have q2:=of_decide_eq_true q.1.2
   have q3:=of_decide_eq_true q.2
   unfold qb4 at q3
   rw[if_neg q1,if_neg q2] at q3
   exact q3 rfl
  obtain⟨i1,i2⟩:=ih ⟨_,h,hm'⟩ (λq mq=>(List.mem_append.mp mq).elim (ht q) λy=>by rw[List.mem_singleton.mp y];exact W) t v k2 e
  rw[qlo,if_neg lk] at i1
  exact⟨by omega,i2⟩
def qdn:DP:=λds Q=>∃(ts:List Row) (w:List Str) (t:Str),ds=[qak ts,wayD w,.str t]/\FT ts/\WayG w/\t.length<=5000/\(∃mt,look ts w=some mt)/\∀res,qvq ts w t 0 res->Q (wayR res)
theorem qm1:∀ds Q,qdn ds Q->ds.length=3:=by rintro ds Q ⟨_,_,_,rfl,_⟩;rfl
def qpx(base:List Str)(r:Bool)(vs us:List Str):Prop:=(r=false/\(vs=us\/vs=Str.ofString "."::us\/vs=List.replicate base.length (Str.ofString "..")++(base++us)))\/(r=true/\vs=base++us)
def Base(L:List Str->Option (Str×Str))(base:List Str):Prop:=(∀z∈base,nmB z=true)/\∀k,L (base.take k)=some (qah,qa8)
theorem Base.at{L:List Str->Option (Str×Str)}{base:List Str}(B:Base L base):L base=some (qah,qa8):=by
 have:=B.2 base.length
 rw[List.take_length] at this
 exact this
theorem qik{L:List Str->Option (Str×Str)}{w:List Str}{z:Str}{t:Str}(hl:L (qb4 w z)=some (qah,t)){zs:List Str}{f:Nat}{tr:List (List Str×Str×List Str)}{res:WR}(h:WalkTo L w (z::zs) f tr res):∃tr',WalkTo L (qb4 w z) zs f tr' res:=by
 cases h with
|miss q=>rw[hl] at q;cases q
|file q hz=>rw[hl] at q;exact absurd (show qah=qbe from congrArg Prod.fst (Option.some.inj q)) (by decide +kernel)
|many q=>rw[hl] at q;exact absurd (show qah=qbz from congrArg Prod.fst (Option.some.inj q)) (by decide +kernel)
|link q _ _ _=>rw[hl] at q;exact absurd (show qah=qbz from congrArg Prod.fst (Option.some.inj q)) (by decide +kernel)
|plain q _ _ go=>exact⟨_,go⟩
theorem qij{L:List Str->Option (Str×Str)}:∀(v w:List Str) {zs:List Str} {f:Nat} {tr:List (List Str×Str×List Str)} {res:WR},(∀z∈v,nmB z=true)->(∀k,L (w++v.take k)=some (qah,qa8))->WalkTo L w (v++zs) f tr res->∃tr',WalkTo L (w++v) zs f tr' res
|[],w,zs,f,tr,res,_,_,h=>⟨tr,by rw[List.append_nil];exact h⟩
|z::v,w,zs,f,tr,res,hn,hf,h=>by
  have es:=qem (hn z List.mem_cons_self) w
  have h1:=hf 1
  rw[List.take_succ_cons,List.take_zero] at h1
  obtain⟨tr1,g1⟩:=qik (t:=qa8) (by rw[es];exact h1) h
  rw[es] at g1
  obtain⟨tr2,g2⟩:=qij v (w++[z]) (λy m=>hn y (List.mem_cons_of_mem _ m)) (λk=>by
   have:=hf (k+1)
   rw[List.take_succ_cons] at this
   rw[List.append_assoc]
   exact this) g1
  exact⟨tr2,by rw[List.append_assoc] at g2;exact g2⟩
theorem qpv{L:List Str->Option (Str×Str)}{base:List Str}(hf:∀k,L (base.take k)=some (qah,qa8)):∀(n:Nat) (_:n<=base.length) {zs:List Str} {f:Nat} {tr:List (List Str×Str×List Str)} {res:WR},WalkTo L (base.take n) (List.replicate n (Str.ofString "..")++zs) f tr res->∃tr',WalkTo L [] zs f tr' res
|0,_,_,_,tr,_,h=>⟨tr,h⟩
|n+1,hn,zs,f,tr,res,h=>by
  have e1:(base.take (n+1)).dropLast=base.take n:=by
   rw[List.dropLast_eq_take,List.length_take,Nat.min_eq_left hn,List.take_take,Nat.min_eq_left (by lia)]
   rfl
  obtain⟨t1,g1⟩:=qik (t:=qa8) (by rw[qh6,e1];exact hf n) (show WalkTo L (base.take (n+1)) (Str.ofString ".."::(List.replicate n (Str.ofString "..")++zs)) f tr res from h)
  rw[qh6,e1] at g1
  exact qpv hf n (by lia) g1
theorem lead{L:List Str->Option (Str×Str)}{base:List Str}(B:Base L base){r:Bool}{vs us:List Str}(hl:qpx base r vs us){w:List Str}(hw:r=false->w=base){zs:List Str}{f:Nat}{tr:List (List Str×Str×List Str)}{res:WR}(h:WalkTo L (qa0 r w) (vs++zs) f tr res):∃tr',WalkTo L base (us++zs) f tr' res:=by
 have down:∀ {tr:List (List Str×Str×List Str)},WalkTo L [] (base++(us++zs)) f tr res->∃tr',WalkTo L base (us++zs) f tr' res:=λh=>by
  obtain⟨t1,g1⟩:=qij base [] B.1 (λk=>by rw[List.nil_append];exact B.2 k) h
  rw[List.nil_append] at g1
  exact⟨_,g1⟩
 rcases hl with ⟨rfl,q⟩|⟨rfl,rfl⟩
 ·rw[hw rfl] at h
  unfold qa0 at h
  rw[if_neg (by decide)] at h
  have ed:L (qb4 base (Str.ofString "."))=some (qah,qa8):=by rw[qkc];exact B.at
  rcases q with rfl|rfl|rfl
  ·exact⟨_,h⟩
  ·obtain⟨t1,g1⟩:=qik ed h
   rw[qkc] at g1
   exact⟨_,g1⟩
  ·rw[List.append_assoc,List.append_assoc] at h
   obtain⟨t1,g1⟩:=qpv B.2 base.length (Nat.le_refl _) (by rw[List.take_length];exact h)
   exact down g1
 ·unfold qa0 at h
  rw[if_pos rfl,List.append_assoc] at h
  exact down h
def qrk(L:List Str->Option (Str×Str))(base:List Str)(x:Str)(us:List Str):Prop:=∃t r vs,L (base++[x])=some (qbz,t)/\qbj t=some (r,vs)/\qpx base r vs us
theorem qmi{L:List Str->Option (Str×Str)}{base:List Str}(B:Base L base){x:Str}(hx:nmB x=true){us:List Str}(K:qrk L base x us){zs:List Str}{f:Nat}{tr:List (List Str×Str×List Str)}{res:WR}(h:WalkTo L base (x::zs) f tr res):(f=8/\res=.exc "Astray")\/(f≠8/\∃tr',WalkTo L base (us++zs) (f+1) tr' res):=by
 obtain⟨t,r,vs,hl,hw,le⟩:=K
 have es:=qem hx base
 rw[←es] at hl
 cases h with
|miss q=>rw[hl] at q;cases q
|file q hz=>rw[hl] at q;exact absurd (congrArg Prod.fst (Option.some.inj q)).symm qgr
|many q=>exact .inl ⟨rfl,rfl⟩
|link q h8 hw' go =>
  rw[hl] at q
  cases q
  rw[hw] at hw'
  cases hw'
  exact .inr ⟨h8,lead B le (λ_=>rfl) go⟩
|plain q hm _ _=>rw[hl] at q;cases q;exact absurd rfl hm
theorem qri{L:List Str->Option (Str×Str)}{base:List Str}(B:Base L base){x:Str}(hx:nmB x=true)(K:qrk L base x []){zs:List Str}{res:WR}:∀(n f:Nat) (tr:List (List Str×Str×List Str)),f<=8->WalkTo L base (List.replicate n x++zs) f tr res->(f+n<=8/\∃tr',WalkTo L base zs (f+n) tr' res)\/(8<f+n/\res=.exc "Astray")
|0,f,tr,hf,h=>.inl ⟨hf,tr,h⟩
|n+1,f,tr,hf,h=>by
  rw[List.replicate_succ,List.cons_append] at h
  rcases qmi B hx K h with ⟨e,q⟩|⟨e,t',g⟩
  ·exact .inr ⟨by omega,q⟩
  ·rcases qri B hx K n (f+1) t' (by omega) g with ⟨q,t2,g2⟩|⟨q,g2⟩
   ·exact .inl ⟨by omega,t2,by rw[show f+(n+1)=f+1+n by omega];exact g2⟩
   ·exact .inr ⟨by omega,g2⟩
def RowL(L:List Str->Option (Str×Str))(base:List Str):Str->List Str->Prop
|_,[]=>True
|x,y::r=>qrk L base x [y]/\RowL L base y r
theorem qpu{L:List Str->Option (Str×Str)}{base:List Str}(B:Base L base){zs:List Str}{res:WR}:∀(xs:List Str) (x:Str) (f:Nat) (tr:List (List Str×Str×List Str)),(∀y∈x::xs,nmB y=true)->RowL L base x xs->f<=8->WalkTo L base (x::zs) f tr res->(f+xs.length<=8/\∃tr',WalkTo L base ((x::xs).getLast (by simp)::zs) (f+xs.length) tr' res)\/(8<f+xs.length/\res=.exc "Astray")
|[],x,f,tr,_,_,hf,h=>.inl ⟨hf,tr,h⟩
|y::xs,x,f,tr,hn,R,hf,h=>by
  rcases qmi B (hn x List.mem_cons_self) R.1 h with ⟨e,q⟩|⟨e,t',g⟩
  ·exact .inr ⟨by rw[List.length_cons];omega,q⟩
  ·rcases qpu B xs y (f+1) t' (λq m=>hn q (List.mem_cons_of_mem _ m)) R.2 (by omega) g with ⟨q,t2,g2⟩|⟨q,g2⟩
   ·exact .inl ⟨by rw[List.length_cons];omega,t2,by rw[List.getLast_cons (by simp),show f+(y::xs).length=f+1+xs.length by rw[List.length_cons];omega];exact g2⟩
   ·exact .inr ⟨by rw[List.length_cons];omega,g2⟩
theorem qo4{ts:List Row}{w:List Str}{t:Str}{f:Nat}{res:WR}{r:Bool}{vs:List Str}{z:Str}(ht:qbj t=some (r,vs++[z]))(hz:nmB z=true)(h:PlaceTo ts w t f res):∃a,WalkTo (look ts) (qa0 r w) vs f [] a/\((∃n,a=.exc n/\res=.exc n)\/∃tr u f' m x,a=.ok tr u f'/\look ts u=some (m,x)/\((m≠qah/\res=.exc "NotFolder")\/(m=qah/\res=.ok [] (u++[z]) f'))):=by
 have ed:(vs++[z]).dropLast=vs:=List.dropLast_concat
 have el:(vs++[z]).getLastD "" = z:=by simp
 cases h with
|noway q=>rw[ht] at q;cases q
|noplace q y =>
  rw[ht] at q
  cases q
  rcases y with y|y
  ·simp at y
  ·rw[el,hz] at y
   cases y
|bad q _ _ go =>
  rw[ht] at q
  cases q
  rw[ed] at go
  exact⟨_,go,.inl ⟨_,rfl,rfl⟩⟩
|file q _ _ go hm hf =>
  rw[ht] at q
  cases q
  rw[ed] at go
  exact⟨_,go,.inr ⟨_,_,_,_,_,rfl,hm,.inl ⟨hf,rfl⟩⟩⟩
|ok q _ _ go hm =>
  rw[ht] at q
  cases q
  rw[ed] at go
  exact⟨_,go,.inr ⟨_,_,_,_,_,rfl,hm,.inr ⟨rfl,by rw[el]⟩⟩⟩
theorem qqc{base:List Str}{r:Bool}{vs:List Str}{y:Str}(h:qpx base r vs [y]):∃vs',vs=vs'++[y]/\qpx base r vs' []:=by
 rcases h with ⟨rfl,q⟩|⟨rfl,rfl⟩
 ·rcases q with rfl|rfl|rfl
  ·exact⟨[],rfl,.inl ⟨rfl,.inl rfl⟩⟩
  ·exact⟨[_],rfl,.inl ⟨rfl,.inr (.inl rfl)⟩⟩
  ·exact⟨List.replicate base.length (Str.ofString "..")++base,by rw[List.append_assoc],.inl ⟨rfl,.inr (.inr (by rw[List.append_nil]))⟩⟩
 ·exact⟨base,rfl,.inr ⟨rfl,by rw[List.append_nil]⟩⟩
theorem qi4{ts:List Row}{base:List Str}(B:Base (look ts) base){t:Str}{r:Bool}{vs:List Str}{y:Str}(hw:qbj t=some (r,vs))(le:qpx base r vs [y])(hy:nmB y=true){f:Nat}{res:WR}(h:PlaceTo ts base t f res):res=.ok [] (base++[y]) f:=by
 obtain⟨vs',rfl,le'⟩:=qqc le
 obtain⟨a,go,q⟩:=qo4 hw hy h
 obtain⟨t1,g1⟩:=lead B le' (zs:=[]) (λ_=>rfl) (by rw[List.append_nil];exact go)
 cases g1
 rcases q with ⟨n,e,_⟩|⟨tr,u,f',m,x,e,hm,q⟩
 ·cases e
 ·cases e
  rw[B.at] at hm
  cases hm
  rcases q with ⟨q,_⟩|⟨_,q⟩
  ·exact absurd rfl q
  ·exact q
theorem qot{ts:List Row}{base:List Str}(B:Base (look ts) base){res:WR}:∀(xs:List Str) (x:Str) (f:Nat),(∀y∈x::xs,nmB y=true)->RowL (look ts) base x xs->f<=8->GoalS ts (base++[x]) f res->(f+xs.length<=8/\GoalS ts (base++[(x::xs).getLast (by simp)]) (f+xs.length) res)\/(8<f+xs.length/\res=.exc "Astray")
|[],x,f,_,_,hf,h=>.inl ⟨hf,h⟩
|y::xs,x,f,hn,R,hf,h=>by
  obtain⟨t,r,vs,hl,hw,le⟩:=R.1
  have ed:(base++[x]).dropLast=base:=List.dropLast_concat
  cases h with
 |ok no=>exact absurd hl (no _)
 |many q=>exact .inr ⟨by rw[List.length_cons];omega,rfl⟩
 |bad q n8 p =>
   rw[hl] at q
   cases q
   rw[ed] at p
   cases qi4 B hw le (hn y (by simp)) p
 |link q n8 p go =>
   rw[hl] at q
   cases q
   rw[ed] at p
   cases qi4 B hw le (hn y (by simp)) p
   rcases qot B xs y (f+1) (λq m=>hn q (List.mem_cons_of_mem _ m)) R.2 (by omega) go with ⟨q,g2⟩|⟨q,g2⟩
   ·exact .inl ⟨by rw[List.length_cons];omega,by rw[List.getLast_cons (by simp),show f+(y::xs).length=f+1+xs.length by rw[List.length_cons];omega];exact g2⟩
   ·exact .inr ⟨by rw[List.length_cons];omega,g2⟩
theorem Hall.add{rs:List Row}(H:Hall rs){f:List Str}(mf:f=[]\/(f,qah,qa8)∈rs){z m t:Str}(hz:nmB z=true)(hl:(f++[z]).length<=12)(nw:f++[z]∉rs.map (·.1))(hm:mkH (f++[z],m,t)):Hall (rs++[(f++[z],m,t)]) :=
 ((⟨H,Nat.le_refl _,by simp,λg mg=>by rw[List.mem_singleton.mp mg];exact mf,by simp⟩:HInv rs.length rs [f]).put List.mem_cons_self hz hl nw hm).1.hall
def qca(base:List Str)(n:Nat):List Row:=(List.range n).map λk=>(base.take (k+1),qah,qa8)
theorem qi7(base:List Str)(n:Nat):qca base (n+1)=qca base n++[(base.take (n+1),qah,qa8)]:=by
 unfold qca
 rw[List.range_succ,List.map_append]
 rfl
theorem qej(base:List Str)(n:Nat):(qca base n).length=n:=by unfold qca;rw[List.length_map,List.length_range]
theorem qht{base:List Str}{n:Nat}{w:List Str}(h:w∈(qca base n).map (·.1)):w.length<=n/\w.length<=base.length:=by
 obtain⟨r,mr,rfl⟩:=List.mem_map.mp h
 unfold qca at mr
 obtain⟨k,mk,rfl⟩:=List.mem_map.mp mr
 have:=List.mem_range.mp mk
 show (base.take (k+1)).length<=n/\_
 rw[List.length_take]
 omega
theorem qj5{base:List Str}{n k:Nat}(h0:0<k)(h:k<=n):(base.take k,qah,qa8)∈qca base n:=by
 unfold qca
 exact List.mem_map.mpr ⟨k-1,List.mem_range.mpr (by omega),by rw[show k-1+1=k by omega]⟩
theorem qly{base:List Str}{n:Nat}(h:n<base.length):base.take (n+1)∉(qca base n).map (·.1):=λm=>by
 have:=(qht m).1
 rw[List.length_take] at this
 omega
theorem qla{base:List Str}(bn:∀z∈base,nmB z=true)(bl:base.length<=3):∀n,n<=base.length->Hall (qca base n)
|0,_=>⟨by simp[qca],by simp[qca],by simp[qca],by simp[qca],by simp[qca]⟩
|n+1,h=>by
  have ih:=qla bn bl n (by omega)
  have nw:=qly (base:=base) (n:=n) (by omega)
  have e:base.take (n+1)=base.take n++[base[n]]:=by rw[List.take_succ,List.getElem?_eq_getElem (by omega)];rfl
  have l1:(base.take (n+1)).length<=12:=by rw[List.length_take];omega
  rw[qi7]
  rw[e] at nw l1 ⊢
  refine ih.add ?_ (bn _ (List.getElem_mem _)) l1 nw (.inl rfl)
  cases n with
 |zero=>exact .inl rfl
 |succ n=>exact .inr (qj5 (by omega) (Nat.le_refl _))
def TxOk(base us:List Str)(t:Str):Prop:=t.length<=3000/\∃r vs,qbj t=some (r,vs)/\qpx base r vs us
def qcj(base row:List Str)(tx:Nat->Str)(n:Nat):List Row:=(List.range n).map λk=>(base++[row.getD k ""],qbz,tx k)
theorem qi2(base row:List Str)(tx:Nat->Str)(n:Nat):qcj base row tx (n+1)=qcj base row tx n++[(base++[row.getD n ""],qbz,tx n)]:=by
 unfold qcj
 rw[List.range_succ,List.map_append]
 rfl
theorem qlm(base row:List Str)(tx:Nat->Str)(n:Nat):(qcj base row tx n).length=n:=by unfold qcj;rw[List.length_map,List.length_range]
theorem qnb{base row:List Str}{tx ty:Nat->Str}{n:Nat}(h:∀k,k<n->tx k=ty k):qcj base row tx n=qcj base row ty n:=by
 unfold qcj
 exact List.map_congr_left λk m=>by rw[h k (List.mem_range.mp m)]
theorem getD_at{row:List Str}{k:Nat}(h:k<row.length):row.getD k "" = row[k]:=by
 rw[List.getD_eq_getElem?_getD,List.getElem?_eq_getElem h]
 rfl
theorem qln{base row:List Str}{tx:Nat->Str}{n:Nat}(nd:row.Nodup)(h:n<row.length):base++[row.getD n ""]∉(qcj base row tx n).map (·.1):=λm=>by
 obtain⟨r,mr,e⟩:=List.mem_map.mp m
 unfold qcj at mr
 obtain⟨k,mk,rfl⟩:=List.mem_map.mp mr
 have kn:=List.mem_range.mp mk
 have e2:row.getD k "" = row.getD n "" := by simpa using List.append_cancel_left e
 rw[getD_at h,getD_at (by omega)] at e2
 have:=(List.getElem_inj nd).mp e2
 omega
theorem qi0{base row:List Str}{tx:Nat->Str}{rs:List Row}(H:Hall rs)(bl:base.length<=3)(mf:base=[]\/(base,qah,qa8)∈rs)(rn:∀z∈row,nmB z=true)(nd:row.Nodup)(fr:∀z∈row,base++[z]∉rs.map (·.1)):∀n,n<=row.length->(∀k,k<n->∃us,TxOk base us (tx k))->Hall (rs++qcj base row tx n)
|0,_,_=>by unfold qcj;rw[List.range_zero,List.map_nil,List.append_nil];exact H
|n+1,h,ht=>by
  have ih:=qi0 H bl mf rn nd fr n (by omega) λk hk=>ht k (by omega)
  have nl:n<row.length:=h
  have mz:row.getD n "" ∈ row:=by rw[getD_at nl];exact List.getElem_mem _
  rw[qi2,←List.append_assoc]
  refine ih.add (mf.imp id (List.mem_append_left _)) (rn _ mz) (by rw[List.length_append,List.length_singleton];omega) (λm=>?_) ?_
  ·rw[List.map_append] at m
   rcases List.mem_append.mp m with q|q
   ·exact fr _ mz q
   ·exact qln nd nl q
  ·obtain⟨us,q,r,vs,hw,_⟩:=ht n (by omega)
   exact .inr (.inr ⟨rfl,q,r,vs,hw⟩)
theorem Hall.perm{rs ts:List Row}(H:Hall rs)(p:ts.Perm rs):Hall ts where
 nd:=(p.map _).nodup_iff.mpr H.nd
 ne:=λr m=>H.ne r (p.mem_iff.mp m)
 wy:=λr m=>H.wy r (p.mem_iff.mp m)
 cl:=λr m=>(H.cl r (p.mem_iff.mp m)).imp id λq=>p.mem_iff.mpr q
 kd:=λr m=>H.kd r (p.mem_iff.mp m)
theorem qjr{rs:List Row}{w:List Str}(h:w∉rs.map (·.1))(m t:Str):insP (rs.map prR) w (.tup [.str m,.str t])=(rs++[(w,m,t)]).map prR:=by
 unfold insP
 rw[q28,if_neg h,List.map_append]
 rfl
structure Rm(ts:List Row)(base:List Str)(aim T:Str):Prop where
 H:Hall ts
 len:ts.length<64
 B:Base (look ts) base
 bl:base.length<=3
 an:nmB aim=true
 fl:look ts (base++[aim])=some (qbe,T)
def Goes(ts:List Row)(base:List Str)(aim x:Str):Prop:=∃xs:List Str,(∀y∈x::xs,nmB y=true)/\RowL (look ts) base x xs/\xs.length<=8/\(x::xs).getLast (by simp)=aim
section
variable {ts:List Row} {base:List Str} {aim T x:Str} {b:Bool}
theorem qkr(bn:∀z∈base,nmB z=true)(bl:base.length<=3)(hx:nmB x=true):qbj (qb1 b (base++[x]))=some (b,base++[x]):=by
 refine qgb (.inl (by simp)) ?_ λz m=>?_
 ·simp only[List.length_append,List.length_singleton]
  omega
 ·rcases List.mem_append.mp m with q|q
  ·exact qd3 (bn z q)
  ·rw[List.mem_singleton.mp q];exact qd3 hx
theorem qmu(B:Base (look ts) base){zs:List Str}{f:Nat}{tr:List (List Str×Str×List Str)}{res:WR}(h:WalkTo (look ts) (qa0 b []) (base++zs) f tr res):∃tr',WalkTo (look ts) base zs f tr' res:=by
 have e:qa0 b []=[]:=by unfold qa0;split<;>rfl
 rw[e] at h
 have:=qij base [] B.1 (λk=>by rw[List.nil_append];exact B.2 k) h
 rw[List.nil_append] at this
 exact this
theorem qjx(B:Base (look ts) base)(bl:base.length<=3)(hx:nmB x=true){res:WR}(h:PlaceTo ts [] (qb1 b (base++[x])) 0 res):res=.ok [] (base++[x]) 0:=by
 obtain⟨a,go,q⟩:=qo4 (qkr B.1 bl hx) hx h
 obtain⟨t1,g1⟩:=qmu B (zs:=[]) (by rw[List.append_nil];exact go)
 cases g1
 rcases q with ⟨n,e,_⟩|⟨tr,u,f',m,y,e,hm,q⟩
 ·cases e
 ·cases e
  rw[B.at] at hm
  cases hm
  rcases q with ⟨q,_⟩|⟨_,q⟩
  ·exact absurd rfl q
  ·exact q
theorem Rm.find(M:Rm ts base aim T)(G:Goes ts base aim x){res:WR}(h:qgc ts [] (qb1 b (base++[x])) res):∃tr f,res=.ok tr (base++[aim]) f:=by
 obtain⟨xs,hn,hr,hl,ha⟩:=G
 have go:=qke (qkr M.B.1 M.bl (hn x List.mem_cons_self)) h
 obtain⟨t1,g1⟩:=qmu M.B go
 rcases qpu M.B xs x 0 t1 hn hr (by decide) g1 with ⟨q,t2,g2⟩|⟨q,_⟩
 ·rw[ha] at g2
  have es:=qem M.an base
  have hl:=M.fl
  rw[←es] at hl
  generalize 0+xs.length=tot at g2
  cases g2 with
 |miss q=>rw[hl] at q;cases q
 |file q hz=>exact absurd rfl hz
 |many q=>rw[hl] at q;exact absurd (congrArg Prod.fst (Option.some.inj q)) qgr
 |link q=>rw[hl] at q;exact absurd (congrArg Prod.fst (Option.some.inj q)) qgr
 |plain q hm hz go =>
   cases go
   exact⟨_,_,by rw[es]⟩
 ·omega
theorem Rm.goal(M:Rm ts base aim T)(G:Goes ts base aim x){res:WR}(h:qvq ts [] (qb1 b (base++[x])) 0 res):∃tr f,res=.ok tr (base++[aim]) f:=by
 obtain⟨xs,hn,hr,hl,ha⟩:=G
 have hx:=hn x List.mem_cons_self
 rcases h with ⟨n,p,rfl⟩|⟨tr,v,f',p,g⟩
 ·cases qjx M.B M.bl hx p
 ·cases qjx M.B M.bl hx p
  rcases qot M.B xs x 0 hn hr (by decide) g with ⟨q2,g2⟩|⟨q2,_⟩
  ·rw[ha] at g2
   have nl:∀y,look ts (base++[aim])≠some (qbz,y):=λy e=>by
    rw[M.fl] at e
    exact absurd (congrArg Prod.fst (Option.some.inj e)) qgr
   generalize 0+xs.length=tot at g2
   cases g2 with
  |ok no=>exact⟨_,_,rfl⟩
  |many q=>exact absurd q (nl _)
  |bad q=>exact absurd q (nl _)
  |link q=>exact absurd q (nl _)
  ·omega
end
def room(zs:List Str)(n m:Nat)(tx:Nat->Str)(T:Str):List Row:=qca (zs.take n) n++[(zs.take n++[zs.getD 4 ""],qbe,("beside" : Str))]++[(zs.take n++[zs.getD 5 ""],qbe,T)]++qcj (zs.take n) (zs.drop 6) tx m
structure Mk(zs:List Str)(n m:Nat)(tx:Nat->Str):Prop where
 nd:zs.Nodup
 nm:∀z∈zs,nmB z=true
 zl:25<=zs.length
 n3:n<=3
 m8:m<=8
 hx:∀k,k<m->∃i,i<=k/\TxOk (zs.take n) [zs.getD (5+i) ""] (tx k)
section
variable {zs:List Str} {n m:Nat} {tx:Nat->Str} {T:Str}
theorem qtr{zs:List Str}(nd:zs.Nodup){i j:Nat}(hi:i<zs.length)(hj:j<zs.length)(ne:i≠j):zs.getD i "" ≠ zs.getD j "" := λe=>by
 rw[getD_at hi,getD_at hj] at e
 exact ne ((List.getElem_inj nd).mp e)
theorem Mk.name(M:Mk zs n m tx){i:Nat}(h:i<25):nmB (zs.getD i "")=true:=M.nm _ (by have:=M.zl;rw[getD_at (by omega)];exact List.getElem_mem _)
theorem Mk.bn(M:Mk zs n m tx):∀z∈zs.take n,nmB z=true:=λz h=>M.nm z (List.mem_of_mem_take h)
theorem Mk.bl(M:Mk zs n m tx):(zs.take n).length=n:=by have:=M.zl;have:=M.n3;rw[List.length_take];omega
theorem qjl{k:Nat}(h:6+k<zs.length):(zs.drop 6).getD k "" = zs.getD (6+k) "" := by
 rw[getD_at (by rw[List.length_drop];omega),getD_at h,List.getElem_drop]
theorem qiv{i:Nat}:zs.take n++[zs.getD i ""]∉(qca (zs.take n) n).map (·.1):=λh=>by
 have:=(qht h).2
 rw[List.length_append,List.length_singleton] at this
 omega
theorem qiw{i j:Nat}{B:Str×Str}{rs:List Row}(nd:zs.Nodup)(hi:i<zs.length)(hj:j<zs.length)(ne:i≠j)(h0:zs.take n++[zs.getD i ""]∉rs.map (·.1)):zs.take n++[zs.getD i ""]∉(rs++[(zs.take n++[zs.getD j ""],B)]).map (·.1):=λh=>by
 rw[List.map_append] at h
 rcases List.mem_append.mp h with q|q
 ·exact h0 q
 ·have:=List.append_cancel_left (List.mem_singleton.mp q)
  exact qtr nd hi hj ne (by simpa using this)
theorem Mk.hall(M:Mk zs n m tx)(T:Str):Hall (room zs n m tx T):=by
 have zl:=M.zl
 have n3:=M.n3
 have m8:=M.m8
 have bl:=M.bl
 have h1:Hall (qca (zs.take n) n):=qla M.bn (by omega) n (by omega)
 have mf:zs.take n=[]\/(zs.take n,qah,qa8)∈qca (zs.take n) n:=by
  by_cases e:n=0
  ·exact .inl (by rw[e];rfl)
  ·have:=qj5 (base:=zs.take n) (n:=n) (k:=n) (by omega) (Nat.le_refl _)
   rw[List.take_take,Nat.min_self] at this
   exact .inr this
 have l1:∀y:Str,(zs.take n++[y]).length<=12:=λy=>by rw[List.length_append,List.length_singleton];omega
 have h2:=h1.add mf (M.name (i:=4) (by decide)) (l1 _) qiv (m:=qbe) (t:="beside") (.inr (.inl rfl))
 have mf2:=mf.imp id (List.mem_append_left [(zs.take n++[zs.getD 4 ""],qbe,("beside" : Str))])
 have h3:=h2.add mf2 (M.name (i:=5) (by decide)) (l1 _) (qiw M.nd (by omega) (by omega) (by decide) qiv) (m:=qbe) (t:=T) (.inr (.inl rfl))
 have mf3:=mf2.imp id (List.mem_append_left [(zs.take n++[zs.getD 5 ""],qbe,T)])
 refine qi0 (tx:=tx) h3 (by omega) mf3 (λz hz=>M.nm z (List.mem_of_mem_drop hz)) (M.nd.sublist (List.drop_sublist ..)) (λz hz=>?_) m (by rw[List.length_drop];omega) λk hk=>?_
 ·obtain⟨j,hj⟩:=List.mem_iff_getElem?.mp hz
  rw[List.getElem?_drop] at hj
  obtain⟨lj,ej⟩:=List.getElem?_eq_some_iff.mp hj
  have e:z=zs.getD (6+j) "" := by rw[getD_at lj];exact ej.symm
  rw[e]
  exact qiw M.nd lj (by omega) (by omega) (qiw M.nd lj (by omega) (by omega) qiv)
 ·obtain⟨i,_,h⟩:=M.hx k hk
  exact⟨_,h⟩
theorem Mk.len(M:Mk zs n m tx)(T:Str):(room zs n m tx T).length<=13:=by
 have:=M.n3
 have:=M.m8
 unfold room
 rw[List.length_append,List.length_append,List.length_append,qej,qlm,List.length_singleton,List.length_singleton]
 omega
theorem Mk.lk(M:Mk zs n m tx){ts:List Row}(hp:ts.Perm (room zs n m tx T)):∀r∈room zs n m tx T,look ts r.1=some r.2:=λr mr=>by
 have H:=M.hall T
 rw[qtj H.nd hp]
 exact qjt H.nd mr (H.ne r mr)
theorem Mk.rm(M:Mk zs n m tx){ts:List Row}(hp:ts.Perm (room zs n m tx T)):Rm ts (zs.take n) (zs.getD 5 "") T:=by
 have n3:=M.n3
 have bl:=M.bl
 have lk:=M.lk hp
 refine⟨(M.hall T).perm hp,by rw[hp.length_eq];have:=M.len T;omega,⟨M.bn,λk=>?_⟩,by omega,M.name (by decide),lk (_,qbe,T) ?_⟩
 ·by_cases e:(zs.take n).take k=[]
  ·rw[e];rfl
  ·have e2:(zs.take n).take k=(zs.take n).take (min k n):=by rw[List.take_eq_take_iff];omega
   have kp:0<min k n:=by
    rcases Nat.eq_zero_or_pos (min k n) with q|q
    ·rw[e2,q] at e;exact absurd rfl e
    ·exact q
   rw[e2]
   exact lk (_,qah,qa8) (List.mem_append_left _ (List.mem_append_left _ (List.mem_append_left _ (qj5 kp (by omega)))))
 ·exact List.mem_append_left _ (List.mem_append_right _ List.mem_cons_self)
theorem Mk.goes(M:Mk zs n m tx){ts:List Row}(hp:ts.Perm (room zs n m tx T)):∀i,i<=m->∃xs:List Str,(∀y∈zs.getD (5+i) ""::xs,nmB y=true)/\RowL (look ts) (zs.take n) (zs.getD (5+i) "") xs/\xs.length<=i/\(zs.getD (5+i) ""::xs).getLast (by simp)=zs.getD 5 "" := by
 intro i
 induction i using Nat.strongRecOn with
|_ i ih =>
  intro hi
  have m8:=M.m8
  have zl:=M.zl
  cases i with
 |zero=>exact⟨[],λy hy=>by rw[List.mem_singleton.mp hy];exact M.name (by decide),trivial,Nat.le_refl _,rfl⟩
 |succ k =>
   obtain⟨j,hj,h1,r,vs,hw,le⟩:=M.hx k (by omega)
   obtain⟨xs,a1,a2,a3,a4⟩:=ih j (by omega) (by omega)
   refine⟨zs.getD (5+j) ""::xs,λy hy=>?_,⟨⟨tx k,r,vs,?_,hw,le⟩,a2⟩,by rw[List.length_cons];omega,by rw[List.getLast_cons (by simp)];exact a4⟩
   ·rcases List.mem_cons.mp hy with rfl|hy
    ·exact M.name (by omega)
    ·exact a1 y hy
   ·refine M.lk hp (_,qbz,tx k) (List.mem_append_right _ ?_)
    unfold qcj
    exact List.mem_map.mpr ⟨k,List.mem_range.mpr (by omega),by rw[qjl (by omega),show 6+k=5+(k+1) by omega]⟩
end
theorem qx6{n:Nat}(hn:n<=3):(Txt.mul (Str.ofString "../") (n:Int)).cps.toList=(List.replicate n ([46,46,47]:List Nat)).flatten:=by
 obtain rfl|rfl|rfl|rfl:n=0\/n=1\/n=2\/n=3:=by omega
 all_goals decide +kernel
theorem quo(x:Str)(xs:List Str):qn6 (x::xs)=47::(glue "/" (x::xs)).cps.toList:=by
 rw[qbt]
 rfl
theorem qos(w:Str)(ws:List Str):∀n,(glue "/" (List.replicate n (Str.ofString "..")++(w::ws))).cps.toList=(List.replicate n ([46,46,47]:List Nat)).flatten++(glue "/" (w::ws)).cps.toList
|0=>rfl
|n+1=>by
  have c:(Str.ofString "..").cps.toList=[46,46]:=by decide +kernel
  have ih:=qos w ws n
  rw[List.replicate_succ,List.cons_append,qbt,c,List.replicate_succ,List.flatten_cons,List.append_assoc,←ih]
  have ne:∃x xs,List.replicate n (Str.ofString "..")++w::ws=x::xs:=by
   cases n with
  |zero=>exact⟨w,ws,rfl⟩
  |succ k=>exact⟨_,_,rfl⟩
  obtain⟨x,xs,e⟩:=ne
  rw[e,quo]
  rfl
theorem q2r{base:List Str}(bn:∀z∈base,nmB z=true)(bl:base.length<=3){z:Str}(hz:nmB z=true):TxOk base [z] z/\TxOk base [z] (Str.ofString "./" ++ z)/\TxOk base [z] (Str.ofString "/" ++ glue "/" (base++[z]))/\TxOk base [z] (Txt.mul (Str.ofString "../") (base.length:Int)++glue "/" (base++[z])):=by
 have l1:=(qhl hz).2
 have s4:(Str.ofString "/").length=1:=qds
 have s5:(Str.ofString "./").length=2:=by decide +kernel
 have bw1:∀y∈base++[z],wdB y=true:=λy m=>(List.mem_append.mp m).elim (λq=>qd3 (bn y q)) λe=>by rw[List.mem_singleton.mp e];exact qd3 hz
 have g1:=qjo bw1
 rw[List.length_append,List.length_singleton] at g1
 have gone:glue "/" [z]=z:=qd4 (by rw[qbt];exact List.append_nil _)
 have gtwo:glue "/" [Str.ofString ".",z]=Str.ofString "./" ++ z:=qd4 (by
  have d2:(Str.ofString "./").cps.toList=[46,47]:=by decide +kernel
  have c1:(Str.ofString ".").cps.toList=[46]:=by decide +kernel
  rw[qbt,app_list,d2,c1]
  show [46]++(47::z.cps.toList++[])=_
  simp)
 have w1:=qfs (ws:=[z]) (by simp) (show 1<=40 by decide) (λy m=>by rw[List.mem_singleton.mp m];exact qd3 hz)
 have w2:=qfs (ws:=[Str.ofString ".",z]) (by simp) (show 2<=40 by decide) (λy m=>by
  rcases List.mem_cons.mp m with e|e
  ·rw[e];exact q6r
  ·rw[List.mem_singleton.mp e];exact qd3 hz)
 have w3:=qjc (ws:=base++[z]) (by rw[List.length_append,List.length_singleton];omega) bw1
 have w4:=qfs (ws:=List.replicate base.length (Str.ofString "..")++(base++[z])) (by simp) (by simp only[List.length_append,List.length_replicate,List.length_singleton];omega) (λy m=>by
  rcases List.mem_append.mp m with e|e
  ·rw[(List.mem_replicate.mp e).2];exact q29
  ·exact bw1 y e)
 have gfour:glue "/" (List.replicate base.length (Str.ofString "..")++(base++[z]))=Txt.mul (Str.ofString "../") (base.length:Int)++glue "/" (base++[z]):=qd4 (by
  rw[app_list,qx6 bl]
  have ne:∃x xs,base++[z]=x::xs:=by
   cases base with
  |nil=>exact⟨z,[],rfl⟩
  |cons x xs=>exact⟨_,_,rfl⟩
  obtain⟨x,xs,e⟩:=ne
  rw[e]
  exact qos x xs _)
 have lm:(Txt.mul (Str.ofString "../") (base.length:Int)).length<=9:=by
  obtain e|e|e|e:base.length=0\/base.length=1\/base.length=2\/base.length=3:=by omega
  all_goals rw[e];decide +kernel
 rw[gone] at w1
 rw[gtwo] at w2
 rw[gfour] at w4
 refine⟨⟨by omega,false,_,w1,.inl ⟨rfl,.inl rfl⟩⟩,⟨by rw[PySem.Str.length_append];omega,false,_,w2,.inl ⟨rfl,.inr (.inl rfl)⟩⟩,⟨by rw[PySem.Str.length_append,s4];omega,true,_,w3,.inr ⟨rfl,rfl⟩⟩,⟨by rw[PySem.Str.length_append];omega,false,_,w4,.inl ⟨rfl,.inr (.inr rfl)⟩⟩⟩
def qa2:DP:=λds Q=>∃w o,ds=[wayD w,wayD o]/\Q (.val (.bl (qc4 w o)))
theorem qip:∀ds Q,qa2 ds Q->ds.length=2:=by rintro ds Q ⟨_,_,rfl,_⟩;rfl
def qcx:DP:=λds Q=>∃w old new,ds=[wayD w,wayD old,wayD new]/\new.length+w.length<=1000/\Q (.val (wayD (qgh w old new)))
def q3v:DP:=λds Q=>∃(rs:List Row) (w:List Str),ds=[qak rs,wayD w]/\rs.length<=500/\(∀r∈rs,r.1.length<=500)/\Q (.own (qak (q4m rs w)))
def qcy:DP:=λds Q=>∃(rs:List Row) (w:List Str),ds=[qak rs,wayD w]/\rs.length<=500/\Q (.own (qak (qcs rs w)))
theorem qm9:∀ds Q,qcx ds Q->ds.length=3:=by rintro ds Q ⟨_,_,_,rfl,_⟩;rfl
theorem qna:∀ds Q,qcy ds Q->ds.length=2:=by rintro ds Q ⟨_,_,rfl,_⟩;rfl
def qc9:DP:=λds Q=>∃rs:List Row,ds=[qak rs]/\(rs.map (·.1)).Nodup/\rs.length<64/\∀ts:List Row,ts.Perm rs->qbf ts->Q (.own (qak ts))
def qdq:DP:=λds Q=>∃(w:List Str) (b:Str×Str) (rs:List Row),ds=[wayD w,thD b,qak rs]/\rs.length<=400/\w.length<=100/\(∀r∈rs,r.1.length<=500)/\Q (.own (qak (qei w b rs)))
def qdo:DP:=λds Q=>∃(rs:List Row) (w:List Str) (b:Str×Str) (below:List Row),ds=[qak rs,wayD w,thD b,qak below]/\(rs.map (·.1)).Nodup/\(below.map (·.1)).Nodup/\(∀r∈below,r.1≠[]/\r.1.length<=100)/\rs.length<=500/\below.length<=400/\w.length<=100/\(qb9 rs w b below).length<64 /\
 ∀ts:List Row,ts.Perm (qb9 rs w b below)->qbf ts->Q (.own (qak ts))
theorem qlg:∀ds Q,qc9 ds Q->ds.length=1:=by rintro ds Q ⟨_,rfl,_⟩;rfl
theorem qm6:∀ds Q,qdq ds Q->ds.length=3:=by rintro ds Q ⟨_,_,_,rfl,_⟩;rfl
theorem qm2:∀ds Q,qdo ds Q->ds.length=4:=by rintro ds Q ⟨_,_,_,_,rfl,_⟩;rfl
def g_same:DP:=λds Q=>∃rs:List Row,ds=[qak rs,qak rs]/\rs.length<=1000/\Q (.val (.bl true))
theorem qwg:∀ds Q,g_same ds Q->ds.length=2:=by rintro ds Q ⟨_,rfl,_⟩;rfl
def qgj:List Row->Nat
|[]=>0
|r::rs=>max r.1.length (qgj rs)
theorem qsh:∀ {rs:List Row} {r:Row},r∈rs->r.1.length<=qgj rs
|q::rs,r,h=>by
  unfold qgj
  rcases List.mem_cons.mp h with rfl|h
  ·exact Nat.le_max_left _ _
  ·exact Nat.le_trans (qsh h) (Nat.le_max_right _ _)
theorem qsg:∀ {rs:List Row},rs≠[]->∃r∈rs,qgj rs=r.1.length
|[],h=>absurd rfl h
|[r],_=>⟨r,List.mem_cons_self,by unfold qgj;unfold qgj;simp⟩
|r::q::rs,_=>by
  obtain⟨x,mx,e⟩:=qsg (rs:=q::rs) (by simp)
  unfold qgj
  by_cases h:r.1.length<=qgj (q::rs)
  ·exact⟨x,List.mem_cons_of_mem _ mx,by rw[Nat.max_eq_right h];exact e⟩
  ·exact⟨r,List.mem_cons_self,Nat.max_eq_left (by omega)⟩
def chgD(c:List Str×Option ((Str×Str)×List Row)):D:=match c.2 with
|none=>.tup [wayD c.1,.non,.lst []]
|some (b,below)=>.tup [wayD c.1,thD b,qak below]
abbrev Chg:=List Str×Option ((Str×Str)×List Row)
structure GrPre(ts:List Row)(g:List Str)(b:Str×Str)(below:List Row):Prop where
 nd:(ts.map (·.1)).Nodup
 nb:(below.map (·.1)).Nodup
 bl:∀r∈below,r.1≠[]/\r.1.length<=100
 tl:ts.length<=500
 ll:below.length<=400
 gl:g.length<=100
 len:(qb9 ts g b below).length<64
def qzz(cs:List Chg):D:=.lst (cs.map chgD)
def qax(key t u:Str):D:=.tup [.str key,.str t,.str u]
structure NewP(ts:List Row)(g:List Str):Prop where
 lk:look ts g=none
 gl:g.length<=12
 sm:ts.length+1<=60
structure TrP(ts:List Row)(t x:Str):Prop where
 ft:FT ts
 rt:∃mt,look ts []=some mt
 tl:t.length<=5000
 xl:x.length<=5000
def qrj(ts:List Row)(t:Str)(g:List Str):Prop:=("" : Str)∉g/\∀res,qvq ts [] t 0 res->∃tr f,res=.ok tr g f
def qzp(ts:List Row)(t:Str)(g:List Str):Prop:=("" : Str)∉g/\∀res,qgc ts [] t res->∃tr f,res=.ok tr g f
inductive DeedTo(ts:List Row):D->Except Str Chg->Prop
|new {t x g} (T:TrP ts t x) (p:qrj ts t g) (n:NewP ts g):DeedTo ts (qax "write" t x) (.ok (g,some ((qbe,x),[])))
|write {t x g m y} (T:TrP ts t x) (p:qrj ts t g) (l:look ts g=some (m,y)) (n:m≠qah):DeedTo ts (qax "write" t x) (.ok (g,some ((qbe,x),[])))
|fold {t x g y} (T:TrP ts t x) (p:qrj ts t g) (l:look ts g=some (qah,y)):DeedTo ts (qax "write" t x) (.error "IsFolder")
|add {t x g m y} (T:TrP ts t x) (p:qzp ts t g) (l:look ts g=some (m,y)) (n:m≠qah) (yl:y.length<=5000):DeedTo ts (qax "add" t x) (.ok (g,some ((qbe,y++x),[])))
|addf {t x g y} (T:TrP ts t x) (p:qzp ts t g) (l:look ts g=some (qah,y)):DeedTo ts (qax "add" t x) (.error "IsFolder")
|miss {t x} (T:TrP ts t x) (p:∀res,qgc ts [] t res->res=.exc "Missing"):DeedTo ts (qax "add" t x) (.error "Missing")
def chgQ(Q:R->Prop):Except Str Chg->Prop
|.ok c=>Q (.own (qzz [c]))
|.error n=>Q (.exc n)
def qbp:DP:=λds Q=>∃(w:List Str) (rs:List Row),ds=[wayD w,qak rs]/\rs.length<=500/\w.length+qgj rs<=12/\Q (.val .non)
def qbo:DP:=λds Q=>∃ts rs:List Row,ds=[qak ts,qak rs]/\ts.length+1+rs.length<=60/\Q (.val .non)
def qby:DP:=λds Q=>∃(ts:List Row) (w:List Str),ds=[qak ts,wayD w]/\FT ts/\("" : Str)∉w/\Q (.val (qlp ts w))
def qdr:DP:=λds Q=>∃(ts:List Row) (g:List Str) (b:Str×Str),ds=[qak ts,wayD g,thD b]/\NewP ts g/\Q (.val (chgD (g,some (b,[]))))
def qsy(key:Str):DP:=λds Q=>∃(ts:List Row) (t x:Str) (r:Except Str Chg),ds=[qak ts,qax key t x]/\DeedTo ts (qax key t x) r/\chgQ Q r
def qbh:DP:=qsy "write"
def qbw:DP:=qsy "add"
def qb8:DP:=λds Q=>∃(ts:List Row) (key t x:Str) (r:Except Str Chg),ds=[qak ts,qax key t x]/\(key="write" \/ key="add")/\DeedTo ts (qax key t x) r/\chgQ Q r
def qee:DP:=λds Q=>∃(ts:List Row) (g:List Str) (b:Str×Str),ds=[qak ts,qzz [(g,some (b,[]))]]/\GrPre ts g b []/\∀us:List Row,us.Perm (qb9 ts g b [])->qbf us->Q (.val (qak us))
def qmt(ts:List Row)(Y:List Row->Prop)(N:Str->Prop):Except Str Chg->Prop
|.ok (g,some (b,[]))=>GrPre ts g b []/\∀us:List Row,us.Perm (qb9 ts g b [])->qbf us->Y us
|.ok _=>False
|.error n=>N n
def qix:DP:=λds Q=>∃(ts:List Row) (key t x:Str) (r:Except Str Chg),ds=[qak ts,qax key t x]/\(key="write" \/ key="add")/\DeedTo ts (qax key t x) r/\qmt ts (λus=>Q (.val (qak us))) (λn=>Q (.exc n)) r
def qda:DP:=λds Q=>∃(ts:List Row) (key t x:Str) (r:Except Str Chg),ds=[qak ts,qax key t x]/\(key="write" \/ key="add")/\DeedTo ts (qax key t x) r/\qmt ts (λus=>Q (.val (.tup [.str "",qak us]))) (λn=>Q (.val (.tup [.str n,.non]))) r
theorem qgm:∀ds Q,qbp ds Q->ds.length=2:=by rintro ds Q ⟨_,_,rfl,_⟩;rfl
theorem qgl:∀ds Q,qbo ds Q->ds.length=2:=by rintro ds Q ⟨_,_,rfl,_⟩;rfl
theorem qlj:∀ds Q,qby ds Q->ds.length=2:=by rintro ds Q ⟨_,_,rfl,_⟩;rfl
theorem qm7:∀ds Q,qdr ds Q->ds.length=3:=by rintro ds Q ⟨_,_,_,rfl,_⟩;rfl
theorem qf0:∀ds Q,qbh ds Q->ds.length=2:=by rintro ds Q ⟨_,_,_,_,rfl,_⟩;rfl
theorem qhg:∀ds Q,qbw ds Q->ds.length=2:=by rintro ds Q ⟨_,_,_,_,rfl,_⟩;rfl
theorem qio:∀ds Q,qb8 ds Q->ds.length=2:=by rintro ds Q ⟨_,_,_,_,_,rfl,_⟩;rfl
theorem qm0:∀ds Q,qee ds Q->ds.length=2:=by rintro ds Q ⟨_,_,_,rfl,_⟩;rfl
theorem qwe:∀ds Q,qix ds Q->ds.length=2:=by rintro ds Q ⟨_,_,_,_,_,rfl,_⟩;rfl
theorem qtc:∀ds Q,qda ds Q->ds.length=2:=by rintro ds Q ⟨_,_,_,_,_,rfl,_⟩;rfl
def qgg:DP:=λds Q=>∃rs:List Row,ds=[qa1 (rs.map prR)]/\(rs.map (·.1)).Nodup/\(∀r∈rs,("" : Str)∉r.1)/\rs.length<64/\∀ts:List Row,ts.Perm rs->qbf ts->Q (.own (qak ts))
theorem qwf:∀ds Q,qgg ds Q->ds.length=1:=by rintro ds Q ⟨_,rfl,_⟩;rfl
theorem qwq{l:List Str}:∀ {m:List Str},l.Nodup->(∀x∈l,x∈m)->l.length<=m.length:=by
 induction l with
|nil=>intro m _ _;exact Nat.zero_le _
|cons a l ih =>
  intro m nd h
  have ma:=h a List.mem_cons_self
  have nd':=List.nodup_cons.mp nd
  have:=ih (m:=m.erase a) nd'.2 λx hx=>(List.mem_erase_of_ne λe=>nd'.1 (by rw[←e];exact hx)).mpr (h x (List.mem_cons_of_mem _ hx))
  rw[List.length_erase_of_mem ma] at this
  have:=List.length_pos_of_mem ma
  rw[List.length_cons]
  omega
def qef:DP:=λds Q=>∃(zs:List Str) (n m:Nat) (c:Int),ds=[qcc zs,wayD (zs.take n),.int m,.int c]/\zs.Nodup/\(∀z∈zs,nmB z=true)/\25<=zs.length/\n<=3/\m<=8/\∀tx,Mk zs n m tx->Q (.own (qa1 ((room zs n m tx "at first").map prR)))
theorem qm8:∀ds Q,qef ds Q->ds.length=4:=by rintro ds Q ⟨_,_,_,_,rfl,_⟩;rfl
theorem qv3(z:Str):glue "/" [z]=z:=qd4 (by rw[qbt];exact List.append_nil _)
theorem qfn(b:Bool){ws:List Str}(h:∀z∈ws,nmB z=true):(qb1 b ws).length<=13*ws.length+1:=by
 have:=qjo λz m=>qd3 (h z m)
 unfold qb1
 split
 ·rw[PySem.Str.length_append,qds];omega
 ·omega
theorem qts{ws:List Str}(h:∀z∈ws,nmB z=true):("" : Str)∉ws:=λm=>qoh (qd3 (h _ m)) rfl
theorem qs0{rs:List Row}{g:List Str}(h:∀r∈rs,preB r.1 g=false)(b:Str×Str):qb9 rs g b []=rs++[(g,b)]:=by
 unfold qb9 qcs qei
 rw[List.filter_eq_self.mpr λr m=>by rw[h r m];rfl]
 rfl
theorem qs1{A C:List Row}{g:List Str}{b0:Str×Str}(h:∀r∈A++C,preB r.1 g=false)(b:Str×Str):(qb9 (A++[(g,b0)]++C) g b []).Perm (A++[(g,b)]++C):=by
 have e:qcs (A++[(g,b0)]++C) g=A++C:=by
  have p:preB g g=true:=preB_iff.mpr (List.prefix_refl g)
  unfold qcs
  rw[List.filter_append,List.filter_append,List.filter_cons_of_neg (by rw[p];decide),List.filter_nil,List.append_nil,List.filter_eq_self.mpr (λr m=>by rw[h r (List.mem_append_left _ m)];rfl),List.filter_eq_self.mpr (λr m=>by rw[h r (List.mem_append_right _ m)];rfl)]
 unfold qb9 qei
 rw[e,List.append_assoc,List.append_assoc]
 exact List.perm_append_comm.append_left A
theorem q0l{rs:List Row}{w:List Str}(h0:w≠[]):lkP (rs.map prR) w=(look rs w).map thD:=by
 unfold lkP look
 rw[if_neg h0,List.find?_map,Option.map_map,Option.map_map]
 congr 1
theorem q0d{A C:List Row}{w:List Str}{b0:Str×Str}(h:∀r∈A++C,r.1≠w){m t:Str}:insP ((A++[(w,b0)]++C).map prR) w (.tup [.str m,.str t])=(A++[(w,m,t)]++C).map prR:=by
 have keep:∀B:List Row,(∀r∈B,r.1≠w)->(B.map prR).map (λp=>if p.1=w then (p.1,D.tup [.str m,.str t]) else p)=B.map prR:=λB hb=>by
  rw[List.map_map]
  exact List.map_congr_left λr mr=>if_neg (hb r mr)
 unfold insP
 rw[if_pos (by simp[prR])]
 rw[List.map_append,List.map_append,List.map_append,List.map_append,keep A λr q=>h r (List.mem_append_left _ q),keep C λr q=>h r (List.mem_append_right _ q),List.map_append,List.map_append]
 congr 2
 show [if w=w then _ else _]=_
 rw[if_pos rfl]
 rfl
theorem q0m{rs:List Row}{w:List Str}(h0:w≠[])(h:∀r∈rs,r.1≠w):look rs w=none:=by
 unfold look
 rw[if_neg h0,List.find?_eq_none.mpr λr m=>by simpa using h r m]
 rfl
theorem Base.init{L:List Str->Option (Str×Str)}{base:List Str}{z:Str}(B:Base L (base++[z])):Base L base:=⟨λy h=>B.1 y (List.mem_append_left _ h),λk=>by
 have:=B.2 (min k base.length)
 rw[List.take_append_of_le_length (Nat.min_le_right ..)] at this
 rw[show base.take k=base.take (min k base.length) by rw[List.take_eq_take_iff];omega]
 exact this⟩
theorem qiz{ts:List Row}{t:Str}{v:List Str}{res:WR}(pl:∀res,PlaceTo ts [] t 0 res->res=.ok [] v 0)(nl:∀y,look ts v≠some (qbz,y))(h:qvq ts [] t 0 res):∃tr f,res=.ok tr v f:=by
 rcases h with ⟨n,p,rfl⟩|⟨tr,v',f',p,g⟩
 ·cases pl _ p
 ·cases pl _ p
  cases g with
 |ok no=>exact⟨_,_,rfl⟩
 |bad q=>exact absurd q (nl _)
 |link q=>exact absurd q (nl _)
theorem qz9{zs:List Str}(zl:0<zs.length)(n:Nat){j:Nat}(hj:j<20):∃i v,i<20/\zs.take n++[zs.getD j ""]=zs.getD i ""::v:=by
 cases n with
|zero=>exact⟨j,[],hj,rfl⟩
|succ k =>
  cases zs with
 |nil=>exact absurd zl (by decide)
 |cons z zs=>exact⟨0,_,by decide,rfl⟩
section
variable {zs:List Str} {n m:Nat} {tx:Nat->Str} {T:Str} {ts:List Row}
theorem Mk.ways(M:Mk zs n m tx):∀r∈room zs n m tx T,r.1.length<=n+1/\∃i v,i<20/\r.1=zs.getD i ""::v:=λr mr=>by
 have zl:=M.zl
 have m8:=M.m8
 have bl:=M.bl
 have one:∀j,j<20->(zs.take n++[zs.getD j ""]).length<=n+1/\∃i v,i<20/\zs.take n++[zs.getD j ""]=zs.getD i ""::v:=λj hj=>⟨by rw[List.length_append,bl];exact Nat.le_refl _,qz9 (by omega) n hj⟩
 rcases List.mem_append.mp mr with q|q
 ·rcases List.mem_append.mp q with q|q
  ·rcases List.mem_append.mp q with q|q
   ·have:=(qht (List.mem_map_of_mem (f:=(·.1)) q)).1
    refine⟨by omega,?_⟩
    unfold qca at q
    obtain⟨k,mk,rfl⟩:=List.mem_map.mp q
    have kn:=List.mem_range.mp mk
    cases zs with
   |nil=>exact absurd zl (by decide)
   |cons z zs =>
     cases n with
    |zero=>omega
    |succ n=>exact⟨0,_,by decide,rfl⟩
   ·rw[List.mem_singleton.mp q];exact one 4 (by decide)
  ·rw[List.mem_singleton.mp q];exact one 5 (by decide)
 ·unfold qcj at q
  obtain⟨k,mk,rfl⟩:=List.mem_map.mp q
  have kn:=List.mem_range.mp mk
  rw[qjl (by omega)]
  exact one (6+k) (by omega)
theorem Mk.new20(M:Mk zs n m tx)(hp:ts.Perm (room zs n m tx T)):∀r∈ts,preB r.1 [zs.getD 20 ""]=false:=λr mr=>Bool.eq_false_iff.mpr λh=>by
 have zl:=M.zl
 obtain⟨_,i,v,hi,e⟩:=M.ways r (hp.mem_iff.mp mr)
 obtain⟨u,eu⟩:=preB_iff.mp h
 rw[e] at eu
 exact qtr M.nd (i:=20) (j:=i) (by omega) (by omega) (by omega) (List.cons.inj eu).1
theorem Mk.apart(M:Mk zs n m tx):∀r∈(qca (zs.take n) n++[(zs.take n++[zs.getD 4 ""],qbe,("beside" : Str))])++qcj (zs.take n) (zs.drop 6) tx m,r.1≠zs.take n++[zs.getD 5 ""]/\r∈room zs n m tx qa8:=λr mr=>by
 have nd:=(M.hall qa8).nd
 unfold room at nd
 rw[List.append_assoc] at nd
 have nd2:=((List.perm_middle.map _).nodup_iff.mp nd)
 rw[List.map_cons] at nd2
 refine⟨λe=>(List.nodup_cons.mp nd2).1 ?_,?_⟩
 ·show zs.take n++[zs.getD 5 ""]∈_
  rw[←e]
  exact List.mem_map_of_mem mr
 ·unfold room
  rcases List.mem_append.mp mr with q|q
  ·exact List.mem_append_left _ (List.mem_append_left _ q)
  ·exact List.mem_append_right _ q
theorem Mk.set(M:Mk zs n m tx)(hp:ts.Perm (room zs n m tx T))(T':Str):(qb9 ts (zs.take n++[zs.getD 5 ""]) (qbe,T') []).Perm (room zs n m tx T'):=by
 have bl:=M.bl
 refine((hp.filter _).append (List.Perm.refl _)).trans (qs1 (λr mr=>Bool.eq_false_iff.mpr λh=>?_) _)
 obtain⟨a1,a2⟩:=M.apart r mr
 exact a1 ((preB_iff.mp h).eq_of_length_le (by rw[List.length_append,bl];exact(M.ways r a2).1)).symm
theorem Mk.ins(M:Mk zs n m tx)(T T':Str):insP ((room zs n m tx T).map prR) (zs.take n++[zs.getD 5 ""]) (.tup [.str qbe,.str T'])=(room zs n m tx T').map prR:=q0d λr mr=>(M.apart r mr).1
theorem Mk.get(M:Mk zs n m tx)(T:Str):lkP ((room zs n m tx T).map prR) (zs.take n++[zs.getD 5 ""])=some (.tup [.str qbe,.str T]):=by
 rw[q0l (by simp),(M.rm (List.Perm.refl _)).fl]
 rfl
theorem Mk.tr(M:Mk zs n m tx)(hp:ts.Perm (room zs n m tx T)){t x:Str}(tl:t.length<=5000)(xl:x.length<=5000):TrP ts t x:=⟨qs2 (M.hall T) (by have:=M.len T;omega) hp,⟨_,rfl⟩,tl,xl⟩
theorem Mk.gr(M:Mk zs n m tx)(hp:ts.Perm (room zs n m tx T)){g:List Str}(gl:g.length<=100)(b:Str×Str):GrPre ts g b []:=by
 have l1:=M.len T
 have l2:=hp.length_eq
 have l3:(qcs ts g).length<=ts.length:=List.length_filter_le ..
 exact⟨(hp.map _).nodup_iff.mpr (M.hall T).nd,List.nodup_nil,by simp,by omega,by simp,gl,by unfold qb9 qei;rw[List.length_append];show _+1<64;omega⟩
theorem Mk.tl(M:Mk zs n m tx)(b:Bool):(qb1 b (zs.take n)).length<=5000:=by
 have n3:=M.n3
 have bl:=M.bl
 have:=qfn b M.bn
 omega
theorem qwz:("a" : Str).length<=5000:=by decide +kernel
theorem Mk.fold(M:Mk zs n m tx)(hp:ts.Perm (room zs n m tx T))(h0:zs.take n≠[]):DeedTo ts (qax "write" (qb1 false (zs.take n)) "a") (.error "IsFolder"):=by
 have R:=M.rm hp
 have n3:=M.n3
 have bl:=M.bl
 refine .fold (M.tr hp (M.tl _) qwz) ⟨qts M.bn,λres h=>?_⟩ R.B.at
 have B:=R.B
 have B2:=R.B
 have bn:=M.bn
 rw[←List.dropLast_concat_getLast h0] at B
 refine qiz (λres p=>?_) (λy e=>?_) h
 ·have:=qjx (b:=false) B.init (by rw[List.length_dropLast];omega) (bn _ (List.getLast_mem h0)) (res:=res) (by rw[List.dropLast_concat_getLast h0];exact p)
  rw[List.dropLast_concat_getLast h0] at this
  exact this
 ·rw[B2.at] at e
  exact absurd (show qah=qbz from congrArg Prod.fst (Option.some.inj e)) (by decide +kernel)
theorem Mk.addf(M:Mk zs n m tx)(hp:ts.Perm (room zs n m tx T)):DeedTo ts (qax "add" (qb1 true (zs.take n)) "a") (.error "IsFolder"):=by
 have R:=M.rm hp
 have n3:=M.n3
 have bl:=M.bl
 refine .addf (M.tr hp (M.tl _) qwz) ⟨qts M.bn,λres h=>?_⟩ R.B.at
 have go:=qke (qgb (.inr rfl) (by omega) λz q=>qd3 (M.bn z q)) h
 obtain⟨t1,g1⟩:=qmu R.B (zs:=[]) (by rw[List.append_nil];exact go)
 cases g1
 exact⟨_,_,rfl⟩
theorem Mk.no20(M:Mk zs n m tx)(hp:ts.Perm (room zs n m tx T)):look ts [zs.getD 20 ""]=none:=q0m (by simp) λr mr e=>by
 have:=M.new20 hp r mr
 rw[e,preB_iff.mpr (List.prefix_refl _)] at this
 cases this
theorem Mk.miss(M:Mk zs n m tx)(hp:ts.Perm (room zs n m tx T)):DeedTo ts (qax "add" (qb1 false [zs.getD 20 ""]) "a") (.error "Missing"):=by
 have hx:=M.name (i:=20) (by decide)
 have hl:=M.no20 hp
 refine .miss (M.tr hp ?_ qwz) λres h=>?_
 ·have:=qfn false (ws:=[zs.getD 20 ""]) λz q=>by rw[List.mem_singleton.mp q];exact hx
  rw[List.length_singleton] at this
  omega
 have go:WalkTo (look ts) [] [zs.getD 20 ""] 0 [] res:=qke (qkr (base:=[]) (by simp) (by simp) hx) h
 have es:qb4 [] (zs.getD 20 "")=[zs.getD 20 ""]:=qem hx []
 rw[←es] at hl
 cases go with
|miss q=>rfl
|file q hz=>rw[hl] at q;cases q
|link q=>rw[hl] at q;cases q
|plain q=>rw[hl] at q;cases q
theorem Mk.new(M:Mk zs n m tx)(hp:ts.Perm (room zs n m tx T)):DeedTo ts (qax "write" (qb1 false [zs.getD 20 ""]) "a") (.ok ([zs.getD 20 ""],some ((qbe,"a"),[]))):=by
 have hx:=M.name (i:=20) (by decide)
 have hl:=M.no20 hp
 have l1:=M.len T
 have l2:=hp.length_eq
 refine .new (M.tr hp ?_ qwz) ⟨qts λz q=>by rw[List.mem_singleton.mp q];exact hx,λres h=>?_⟩ ⟨hl,by simp,by omega⟩
 ·have:=qfn false (ws:=[zs.getD 20 ""]) λz q=>by rw[List.mem_singleton.mp q];exact hx
  rw[List.length_singleton] at this
  omega
 refine qiz (λres p=>?_) (λy e=>by rw[hl] at e;cases e) h
 exact qjx (base:=[]) (b:=false) ⟨by simp,λk=>by rw[List.take_nil];rfl⟩ (by simp) hx p
end
def qhc:DP:=λds Q=>∃(zs:List Str) (n m:Nat) (tx:Nat->Str) (T:Str) (ts:List Row),ds=[qak ts,.str (qb1 false (zs.take n)),.str (zs.getD 20 "")]/\Mk zs n m tx/\ts.Perm (room zs n m tx T)/\qbf ts/\Q (.val (.bl true))
theorem qtd:∀ds Q,qhc ds Q->ds.length=3:=by rintro ds Q ⟨_,_,_,_,_,_,rfl,_⟩;rfl
theorem qsx(rs:List Row):qmv (rs.map rowD):=λd hd=>by
 obtain⟨r,_,rfl⟩:=List.mem_map.mp hd
 trivial
def qgx:TVS:=(vSeq (vIfS (vBl (vOp vLt (vVar 1) (vF1 vLen (vVar 0))))
  (vRet (vOp vIxR (vVar 0) (vVar 1)))
  qbn)
 (vRet (vC (.int 0))))
abbrev qrm:List Str:=["_law_script","_law_k"]
theorem qu9:∀ds Q,qcv ds Q->qgx (En Q) (qam qrm ds):=by
 rintro ds Q ⟨ns,k,rfl,h0,h⟩
 simp! only[vSeq,qgx]
 split
 ·rename_i c
  obtain⟨v,hv,hv2⟩:=qkv (xs:=ns) h0 (of_decide_eq_true c)
  unfold qzy at h
  rw[hv2] at h
  exact⟨v,hv,h⟩
 ·rename_i c
  have hn:ns[k.toNat]?=none:=List.getElem?_eq_none (by have:=of_decide_eq_false (Bool.eq_false_iff.mpr c);omega)
  unfold qzy at h
  rw[hn] at h
  exact h
def qr2:TVS:=(vSeq (vSet 3 (vTup (qaa (vC (.int 48271)) (qaa (vC (.int 69621)) (qaa (vC (.int 16807)) (qaa (vC (.int 39373)) (qaa (vC (.int 21401)) (qaa (vC (.int 60493)) (qaa (vC (.int 87721)) (qaa (vC (.int 31337)) vNil))))))))))
 (vSeq (vSet 4 (vTup (qaa (vC (.int 99991)) (qaa (vC (.int 99989)) (qaa (vC (.int 99971)) (qaa (vC (.int 99961)) (qaa (vC (.int 99929)) (qaa (vC (.int 99923)) (qaa (vC (.int 99907)) (qaa (vC (.int 99901)) vNil))))))))))
 (vRet (vOp vMod (vOp vMod (vOp vMul (vOp vAdd (vOp vMod (vVar 0) (vOp vPow (vC (.int 10)) (vC (.int 18)))) (vC (.int 1))) (vOp vIxR (vVar 3) (vOp vMod (vVar 1) (vC (.int 8))))) (vOp vIxR (vVar 4) (vOp vMod (vVar 1) (vC (.int 8))))) (vVar 2)))))
abbrev qzt:List Str:=["_law_cell","_law_turn","_law_many","_law_by","_law_prime"]
def mxA:List Int:=[48271,69621,16807,39373,21401,60493,87721,31337]
def mxB:List Int:=[99991,99989,99971,99961,99929,99923,99907,99901]
theorem q26:∀ds Q,qbs ds Q->qr2 (En Q) (qam qzt ds):=by
 rintro ds Q ⟨c,t,m,rfl,h0,hm,h⟩
 refine v_cut (λτ=>τ=[some (.val (.int c)),some (.val (.int t)),some (.val (.int m)),some (.val (.tup (mxA.map D.int))),none]) ?_ λnx hnx=>?now
 case now =>
  rfl'
  exact⟨by decide,hnx _ rfl⟩
 rintro τ rfl
 refine v_cut (λτ=>τ=[some (.val (.int c)),some (.val (.int t)),some (.val (.int m)),some (.val (.tup (mxA.map D.int))),some (.val (.tup (mxB.map D.int)))]) ?_ λnx hnx=>?now
 case now =>
  rfl'
  exact⟨by decide,hnx _ rfl⟩
 rintro τ rfl
 have q0:=Int.emod_nonneg t (show (8:Int)≠0 by decide)
 have q1:=Int.emod_lt_of_pos t (show (0:Int)<8 by decide)
 obtain⟨a,ha,ha2⟩:=qkv (xs:=mxA) (k:=t%8) q0 q1
 obtain⟨b,hb,hb2⟩:=qkv (xs:=mxB) (k:=t%8) q0 q1
 have ba:∀x∈mxA,0<=x/\x<100000:=by decide
 have bb:∀x∈mxB,0<x:=by decide
 have a1:=ba a (List.mem_of_getElem? ha2)
 have b1:=bb b (List.mem_of_getElem? hb2)
 have hA:∀Y:R->Prop,Y (.val (.int (c%10 ^ Int.toNat 18+1)))->vOp vAdd (vOp vMod (vVar 0) (vOp vPow (vC (.int 10)) (vC (.int 18)))) (vC (.int 1)) [some (.val (.int c)),some (.val (.int t)),some (.val (.int m)),some (.val (.tup (mxA.map D.int))),some (.val (.tup (mxB.map D.int)))] Y:=λY y=>by
  rfl'
  exact⟨⟨by decide,by decide,by decide⟩,by decide,y⟩
 have hB:∀Y:R->Prop,Y (.val (.int a))->vOp vIxR (vVar 3) (vOp vMod (vVar 1) (vC (.int 8))) [some (.val (.int c)),some (.val (.int t)),some (.val (.int m)),some (.val (.tup (mxA.map D.int))),some (.val (.tup (mxB.map D.int)))] Y:=λY y=>by
  rfl'
  exact⟨.int a,by rw[qje,ha];rfl,y⟩
 have hC:∀Y:R->Prop,Y (.val (.int b))->vOp vIxR (vVar 4) (vOp vMod (vVar 1) (vC (.int 8))) [some (.val (.int c)),some (.val (.int t)),some (.val (.int m)),some (.val (.tup (mxA.map D.int))),some (.val (.tup (mxB.map D.int)))] Y:=λY y=>by
  rfl'
  exact⟨.int b,by rw[qje,hb];rfl,y⟩
 exact hA _ (hB _ ⟨.inr ⟨by omega,by omega⟩,hC _ ⟨b1,hm,h _ (Int.emod_nonneg _ (by omega)) (Int.emod_lt_of_pos _ hm) λe=>by
  subst e
  have e1:a=48271:=by simpa [mxA] using ha2.symm
  have e2:b=99991:=by simpa [mxB] using hb2.symm
  rw[e1,e2,show Int.toNat 18=18 from rfl]⟩⟩)
def qkx:TVS:=(vSeq (vSet 2 (vC (.str ("abcdefghijklmnopqrstuvwxyz0123456789" : Str))))
 (vSeq (vSet 3 (vOp vAdd (vC (.int 1)) (vOp vMod (vVar 0) (vC (.int 12)))))
 (vSeq (vSet 4 (vOp vMod (vOp vDiv (vVar 0) (vC (.int 12))) (vVar 3)))
 (vSeq (vSet 5 (vC (.str ("" : Str))))
 (vSeq (vFor (ql7 (vVar 3)) (qba 6)
  (vSeq (vSet 7 (vOp vAdd (vOp vDiv (vVar 0) (vC (.int 5184))) (vOp vMul (vVar 6) (vOp vMod (vOp vDiv (vVar 0) (vC (.int 144))) (vC (.int 36))))))
 (vSeq (vIfS (vBl (vOp vEq (vVar 6) (vVar 4)))
  (vSet 7 (vOp vAdd (vVar 7) (vVar 1)))
  qbn)
 (vSet 5 (vOp vAdd (vVar 5) (vOp vIxR (vVar 2) (vOp vMod (vVar 7) (vC (.int 36)))))))))
 (vSeq (vIfS (qkg (vBl (vOp vEq (vOp vMod (vOp vDiv (vVar 0) (vC (.int 3))) (vC (.int 2))) (vC (.int 1)))) (vBl (vOp vEq (vOp vMod (vVar 1) (vC (.int 5))) (vC (.int 4)))))
  (vSet 5 (qd8 (vVar 5) qdd (qf7 (vOp vAdd (vC (.int 1)) (vOp vMod (vVar 1) (vVar 3))))))
  qbn)
 (vRet (vVar 5))))))))
abbrev qrs:List Str:=["_law_stem","_law_v","_law_signs","_law_size","_law_spot","_law_name","_law_k","_law_turn"]
theorem qvf:∀ds Q,qdp ds Q->qkx (En Q) (qam qrs ds):=by
 rintro ds Q ⟨c,v,rfl,hv,h⟩
 have hm0:0<=c%12:=Int.emod_nonneg _ (by decide)
 have hm1:c%12<12:=Int.emod_lt_of_pos _ (by decide)
 have lN:NS.length<=sizeLine:=by decide +kernel
 have eN:(NS.cps.toList.length:Int)=36:=by decide +kernel
 refine v_cut (λτ=>τ=[some (.val (.int c)),some (.val (.int v)),some (.val (.str NS)),none,none,none,none,none]) ?_ λnx hnx=>?now
 case now =>
  rfl'
  exact hnx _ rfl
 rintro τ rfl
 refine v_cut (λτ=>τ=[some (.val (.int c)),some (.val (.int v)),some (.val (.str NS)),some (.val (.int (1+c%12))),none,none,none,none]) ?_ λnx hnx=>?now
 case now =>
  rfl'
  exact hnx _ rfl
 rintro τ rfl
 refine v_cut (λτ=>τ=[some (.val (.int c)),some (.val (.int v)),some (.val (.str NS)),some (.val (.int (1+c%12))),some (.val (.int (c / 12%(1+c%12)))),none,none,none]) ?_ λnx hnx=>?now
 case now =>
  rfl'
  exact⟨by omega,hnx _ rfl⟩
 rintro τ rfl
 refine v_cut (λτ=>τ=[some (.val (.int c)),some (.val (.int v)),some (.val (.str NS)),some (.val (.int (1+c%12))),some (.val (.int (c / 12%(1+c%12)))),some (.val (.str "")),none,none]) ?_ λnx hnx=>?now
 case now =>
  rfl'
  exact hnx _ rfl
 rintro τ rfl
 refine v_cut (λτ=>∃(a b:Option R),τ=[some (.val (.int c)),some (.val (.int v)),some (.val (.str NS)),some (.val (.int (1+c%12))),some (.val (.int (c / 12%(1+c%12)))),some (.val (.str (mkS (nraw c v (1+c%12).toNat)))),a,b]) ?_ λnx hnx=>?now
 case now =>
  rfl'
  refine⟨by omega,by omega,qhb (λi τ=>∃(a b:Option R),τ=[some (.val (.int c)),some (.val (.int v)),some (.val (.str NS)),some (.val (.int (1+c%12))),some (.val (.int (c / 12%(1+c%12)))),some (.val (.str (mkS (nraw c v i)))),a,b]) ⟨none,none,rfl⟩ ?_ ?_⟩
  ·rintro i τ hi ⟨a,b,rfl⟩ nx2 hnx2
   refine v_cut (λτ=>τ=[some (.val (.int c)),some (.val (.int v)),some (.val (.str NS)),some (.val (.int (1+c%12))),some (.val (.int (c / 12%(1+c%12)))),some (.val (.str (mkS (nraw c v i)))),some (.val (.int i)),some (.val (.int (c / 5184+(i:Int)*(c / 144%36))))]) ?_ λnx3 hnx3=>?nwa
   case nwa =>
    rfl'
    have k0:=Int.emod_nonneg (c / 144) (show (36:Int)≠0 by decide)
    have k1:=Int.emod_lt_of_pos (c / 144) (show (0:Int)<36 by decide)
    exact⟨.inr ⟨by omega,by omega⟩,hnx3 _ rfl⟩
   rintro τ rfl
   refine v_cut (λτ=>τ=[some (.val (.int c)),some (.val (.int v)),some (.val (.str NS)),some (.val (.int (1+c%12))),some (.val (.int (c / 12%(1+c%12)))),some (.val (.str (mkS (nraw c v i)))),some (.val (.int i)),some (.val (.int (if (i:Int)=c / 12%(1+c%12) then c / 5184+(i:Int)*(c / 144%36)+v else c / 5184+(i:Int)*(c / 144%36))))]) ?_ λnx3 hnx3=>?nwb
   case nwb =>
    rfl'
    by_cases e:(i:Int)=c / 12%(1+c%12)
    ·rw[if_pos e] at hnx3
     rw[if_pos (decide_eq_true e)]
     exact hnx3 _ rfl
    ·rw[if_neg e] at hnx3
     rw[if_neg (by rw[decide_eq_false e];decide)]
     exact hnx3 _ rfl
   rintro τ rfl
   have hs:=qnj c v i
   generalize (if (i:Int)=c / 12%(1+c%12) then c / 5184+(i:Int)*(c / 144%36)+v else c / 5184+(i:Int)*(c / 144%36))=t at hs
   rfl'
   obtain⟨d,hd,hd2⟩:=qkv (xs:=NS.cps.toList) (k:=t%36) (Int.emod_nonneg _ (by decide)) (by rw[eN];exact Int.emod_lt_of_pos _ (by decide))
   have ed:d=nsgn c v i:=by
    have:=hd2.symm.trans hs
    cases this
    rfl
   have ez:(mkS (nraw c v i)++⟨#[d]⟩:Str)=mkS (nraw c v (i+1)):=by
    rw[qtu,ed]
    unfold mkS
    show (⟨(nraw c v i).toArray++#[nsgn c v i]⟩:Str)=_
    simp
   have lz:(mkS (nraw c v i)).length=i:=qjy c v i
   refine⟨lN,d,hd,Nat.le_trans (show (mkS (nraw c v i)).length+1<=1000 by omega) qan,hnx2 _ ⟨_,_,by rw[←ez]⟩⟩
  ·rintro τ ⟨a,b,rfl⟩
   exact hnx _ ⟨a,b,rfl⟩
 rintro τ ⟨a,b,rfl⟩
 refine v_cut (λτ=>τ=[some (.val (.int c)),some (.val (.int v)),some (.val (.str NS)),some (.val (.int (1+c%12))),some (.val (.int (c / 12%(1+c%12)))),some (.val (.str (qck c v))),a,b]) ?_ λnx hnx=>?now
 case now =>
  rfl'
  have lz:(mkS (nraw c v (1+c%12).toNat)).length=(1+c%12).toNat:=qjy c v _
  have sz:(mkS (nraw c v (1+c%12).toNat)).length<=sizeLine:=Nat.le_trans (by omega) qan
  have v0:=Int.emod_nonneg v (show 1+c%12≠0 by omega)
  by_cases q1:c / 3%2=1
  ·rw[if_pos (decide_eq_true q1)]
   by_cases q2:v%5=4
   ·rw[if_pos (decide_eq_true q2)]
    refine⟨by omega,sz,hnx _ ?_⟩
    have e:Txt.slice (mkS (nraw c v (1+c%12).toNat)) none (some (1+v%(1+c%12)))=qck c v:=by
     obtain⟨k,hk⟩:∃k:Nat,1+v%(1+c%12)=(k:Int):=⟨(1+v%(1+c%12)).toNat,by omega⟩
     refine qd4 ?_
     rw[hk,slice_list,qfe]
     show (nraw c v (1+c%12).toNat).take k=qfh c v
     unfold qfh
     rw[if_pos ⟨q1,q2⟩,hk]
     rfl
    rw[e]
   ·rw[if_neg (by rw[decide_eq_false q2];decide)]
    refine hnx _ ?_
    unfold qck qfh
    rw[if_neg λq=>q2 q.2]
  ·rw[if_neg (by rw[decide_eq_false q1];decide)]
   refine hnx _ ?_
   unfold qck qfh
   rw[if_neg λq=>q1 q.1]
 rintro τ rfl
 rfl'
 exact h
def qr3:TVS:=(vSeq (qib 1 (vLst vNil))
 (vSeq (vFor (ql7 (vC (.int 36))) (qba 2)
  (vSeq (vSet 3 (qal qdp (qaa (vVar 0) (qaa (vVar 2) vNil))))
 (vIfS (vBl (vOp (vIn (!·)) (vVar 3) (vVar 1)))
  (qh8 1 (vVar 3))
  qbn)))
 (qob 1)))
abbrev qzu:List Str:=["_law_stem","_law_names_here","_law_v","_law_name"]
theorem q27:∀ds Q,qfz ds Q->qr3 (En Q) (qam qzu ds):=by
 rintro ds Q ⟨c,rfl,h⟩
 refine v_cut (λτ=>τ=[some (.val (.int c)),some (.own (.lst [])),none,none]) ?_ λnx hnx=>?now
 case now =>
  rfl'
  exact hnx _ rfl
 rintro τ rfl
 refine v_cut (λτ=>∃(zs:List Str) (a b:Option R),zs.Nodup/\(∀z∈zs,∃v:Nat,v<36/\z=qck c v)/\zs.length<=36/\(∀v:Nat,v<36->qck c v∈zs)/\τ=[some (.val (.int c)),some (.own (.lst (zs.map .str))),a,b]) ?_ λnx hnx=>?now
 case now =>
  rfl'
  refine⟨by omega,by omega,qhb (λi τ=>∃(zs:List Str) (a b:Option R),zs.Nodup/\(∀z∈zs,∃v:Nat,v<36/\z=qck c v)/\zs.length<=i/\(∀v:Nat,v<i->qck c v∈zs)/\τ=[some (.val (.int c)),some (.own (.lst (zs.map .str))),a,b]) ⟨[],none,none,List.nodup_nil,by simp,Nat.le_refl _,λv q=>absurd q (Nat.not_lt_zero _),rfl⟩ ?_ ?_⟩
  ·rintro i τ hi ⟨zs,a,b,nd,hz,hl,hf,rfl⟩ nx2 hnx2
   dsimp! only[qdp]
   refine⟨c,_,rfl,by omega,?_⟩
   have add:∀ {ys:List Str},(∀z∈zs,z∈ys)->qck c i∈ys->∀v:Nat,v<i+1->qck c v∈ys:=λm1 m2 v hv=>by
    rcases Nat.lt_or_ge v i with q|q
    ·exact m1 _ (hf v q)
    ·have e:v=i:=by omega
     rw[e]
     exact m2
   have hi36:i<36:=hi
   refine⟨zs,qf6 zs,?_⟩
   by_cases m:qck c i∈zs
   ·rw[decide_eq_true m]
    simp! only[vSeq,true_and]
    exact hnx2 _ ⟨zs,_,_,nd,hz,by omega,add (λ_ q=>q) m,rfl⟩
   ·rw[decide_eq_false m]
    simp! only[vSeq,true_and]
    refine⟨Nat.lt_of_le_of_lt (Nat.le_trans hl (Nat.le_of_lt hi)) (Nat.lt_of_lt_of_le (show 36<1000 by decide) qan),hnx2 _ ⟨zs++[qck c i],_,_,?_,?_,by rw[List.length_append,List.length_singleton];omega,add (λ_ q=>List.mem_append_left _ q) (List.mem_append_right _ (List.mem_singleton.mpr rfl)),rfl⟩⟩
    ·rw[List.nodup_append]
     exact⟨nd,by simp,λx hx y hy e=>m (by rw[←List.mem_singleton.mp hy,←e];exact hx)⟩
    ·intro y hy
     rcases List.mem_append.mp hy with q|q
     ·exact hz y q
     ·exact⟨i,hi36,List.mem_singleton.mp q⟩
  ·rintro τ ⟨zs,a,b,nd,hz,hl,hf,rfl⟩
   exact hnx _ ⟨zs,a,b,nd,hz,hl,hf,rfl⟩
 rintro τ ⟨zs,a,b,nd,hz,hl,hf,rfl⟩
 rfl'
 exact h zs nd hz hf hl
def qg0:TVS:=(vSeq (vIfS (qep (vBl (qkh .str (vVar 0))))
  (vRet (vC (.bl false)))
  qbn)
 (vSeq (vIfS (qep (vBl (ql4 vLe vLe (vC (.int 1)) (vF1 vLen (vVar 0)) (vC (.int 12)))))
  (vRet (vC (.bl false)))
  qbn)
 (vRet (vF1 (vAll λbs=>bs.all id) (qgp (qdg (vVar 0)) (qba 1) (λ_ Q=>Q true) (vOp (vIn id) (vVar 1) (vC (.str ("abcdefghijklmnopqrstuvwxyz0123456789" : Str)))) 1)))))
abbrev qrq:List Str:=["thing"]
theorem qvd:∀ds Q,qcw ds Q->qg0 (En Q) (qam qrq ds):=by
 rintro ds Q ⟨z,rfl,hz,h⟩
 have sz:z.length<=sizeLine:=Nat.le_trans hz (by decide)
 unfold nmB nmL at h
 have el:z.cps.toList.length=z.length:=rfl
 rw[el] at h
 simp! only[vSeq,qg0]
 refine⟨sz,?_⟩
 by_cases h1:1<=z.length
 ·rw[decide_eq_true (by omega:1<=(z.length:Int))]
  refine iteT ?_
  rw[decide_eq_true h1,Bool.true_and] at h
  by_cases h2:z.length<=12
  ·rw[decide_eq_true (by omega:(z.length:Int)<=12)]
   refine iteF ?_
   rw[decide_eq_true h2,Bool.true_and] at h
   refine qfc (λc=>.bl (decide (c∈NS.cps.toList))) z.cps.toList (Nat.le_trans (Nat.le_of_eq el) sz) (λc _ Y N hY=>?_) ?_
   ·simp! only[vSeq,true_and]
    show Y (.val (.bl (!(Builtin.Str.occurrences NS ⟨#[c]⟩ 0 NS.length 1).isEmpty)))
    rw[q61]
    exact hY
   ·simp! only[vSeq,true_and]
    refine⟨z.cps.toList.map λc=>decide (c∈NS.cps.toList),?_,?_⟩
    ·rw[List.map_map]
     rfl
    ·rw[List.all_map]
     exact h
  ·rw[decide_eq_false (by omega:¬ (z.length:Int)<=12)]
   rw[decide_eq_false h2,Bool.false_and] at h
   exact iteT h
 ·rw[decide_eq_false (by omega:¬ 1<=(z.length:Int))]
  rw[decide_eq_false h1,Bool.false_and,Bool.false_and] at h
  exact iteF h
def qg1:TVS:=(vRet (vOrE (vOp (vIn id) (vVar 0) (vTup (qaa (vC (.str ("." : Str))) (qaa (vC (.str (".." : Str))) vNil)))) (qal qcw (qaa (vVar 0) vNil))))
abbrev qrr:List Str:=["text"]
theorem qve:∀ds Q,qdb ds Q->qg1 (En Q) (qam qrr ds):=by
 rintro ds Q ⟨z,rfl,hz,h⟩
 unfold wdB at h
 simp! only[vSeq,qg1,qcw]
 refine⟨by decide,?_⟩
 show if decide (z∈[(".": Str),".."])=true then _ else _
 by_cases hm:z∈[(".": Str),".."]
 ·rw[decide_eq_true hm] at h ⊢
  exact iteT h
 ·rw[decide_eq_false hm] at h ⊢
  exact iteF ⟨hz,h⟩
def qfy:TVS:=(vSeq (vIfS (vBl (vOp vEq (vVar 0) (vC (.str ("/" : Str)))))
  (vRet (vTup (qaa (vC (.bl true)) (qaa (vLst vNil) vNil))))
  qbn)
 (vSeq (vSet 1 (qkj (vVar 0) (vC (.str ("/" : Str)))))
 (vSeq (vSet 2 (qpk (vIfE (vBl (vVar 1)) (qd8 (vVar 0) (qf7 (vC (.int 1))) qdd) (vVar 0)) (vC (.str ("/" : Str)))))
 (vSeq (vIfS (vOrT (vBl (vOp vGt (vF1 vLen (vVar 2)) (vC (.int 40)))) (qep (vBl (vF1 (vAll λbs=>bs.all id) (qgp (qdg (vVar 2)) (qba 3) (λ_ Q=>Q true) (qal qdb (qaa (vVar 3) vNil)) 1)))))
  (qd7 "NoWay" (qaa (vVar 0) vNil))
  qbn)
 (vRet (vTup (qaa (vVar 1) (qaa (vVar 2) vNil))))))))
abbrev qp3:List Str:=["text","rooted","words"]
theorem ifT{c:Prop}[Decidable c]{p q:Prop}(h:c)(hp:p):if c then p else q:=by rw[if_pos h];exact hp
theorem ifF{c:Prop}[Decidable c]{p q:Prop}(h:¬ c)(hq:q):if c then p else q:=by rw[if_neg h];exact hq
theorem q3a(z:Str):(wsW z).length<=z.length+1/\∀w∈wsW z,w.length<=z.length:=by
 have el:z.cps.toList.length=z.length:=rfl
 have key:∀l:List Nat,l.length<=z.length->((sp 47 l).map mkS).length<=z.length+1/\∀w∈(sp 47 l).map mkS,w.length<=z.length:=λl hl=>by
  have:=qzb 47 l
  refine⟨by rw[List.length_map];omega,λw hw=>?_⟩
  obtain⟨p,hp,rfl⟩:=List.mem_map.mp hw
  rw[qto]
  exact Nat.le_trans (qpa 47 l p hp) hl
 unfold wsW
 split
 ·exact key _ (by rw[List.length_drop];omega)
 ·exact key _ (Nat.le_of_eq el)
theorem qrh:∀ds Q,qbq ds Q->qfy (EnX Q) (qam qp3 ds):=by
 rintro ds Q ⟨z,rfl,hz,hy,hn⟩
 have sz:z.length<=sizeLine:=Nat.le_trans hz (by decide)
 have el:z.cps.toList.length=z.length:=rfl
 unfold qbj at hy hn
 obtain⟨w1,w2⟩:=q3a z
 refine qbb ?_
 dsimp! only[qfy]
 by_cases h0:z="/"
 ·rw[decide_eq_true h0]
  exact iteT ⟨by decide,hy true [] (by rw[if_pos h0])⟩
 rw[decide_eq_false h0]
 rw[if_neg h0] at hy hn
 refine iteF ?_
 refine qbb ?_
 rfl'
 have hr:Txt.startswith z "/" = rt z:=by rw[qxs,qq7];rfl
 rw[hr]
 have sl:("/" : Str).length=1:=by decide +kernel
 have rest:vSeq
   (vIfS (vOrT (vBl (vOp vGt (vF1 vLen (vVar 2)) (vC (.int 40)))) (qep (vBl (vF1 (vAll λbs=>bs.all id) (qgp (qdg (vVar 2)) (qba 3) (λ_ Q=>Q true) (qal qdb (qaa (vVar 3) vNil)) 1)))))
    (qd7 "NoWay" (qaa (vVar 0) vNil)) qbn)
   (vRet (vTup (qaa (vVar 1) (qaa (vVar 2) vNil)))) (EnX Q) [some (.val (.str z)),some (.val (.bl (rt z))),some (.val (.lst ((wsW z).map D.str)))]:=by
  refine qbb ?_
  rfl'
  have one:1<=sizeLine:=by decide
  by_cases hl:(wsW z).length<=40
  ·rw[decide_eq_false (by omega:¬ 40<((wsW z).length:Int))]
   refine iteF ?_
   refine qfc (λw=>.bl (wdB w)) (wsW z) (Nat.le_trans hl (by decide)) (λw hw Y N hY=>?_) ?_
   ·simp! only[vSeq,qdb]
    exact⟨Nat.le_trans (w2 w hw) hz,hY⟩
   ·simp! only[vSeq,true_and]
    refine⟨(wsW z).map wdB,by rw[List.map_map];rfl,?_⟩
    rw[List.all_map]
    show if (!(wsW z).all wdB)=true then _ else _
    by_cases ha:(wsW z).all wdB=true
    ·rw[ha]
     refine iteF ⟨by decide,hy _ _ (by rw[if_pos ⟨hl,ha⟩])⟩
    ·rw[Bool.eq_false_iff.mpr ha]
     exact iteT ⟨one,hn (by rw[if_neg (λq=>ha q.2)])⟩
  ·rw[decide_eq_true (by omega:40<((wsW z).length:Int))]
   exact iteT ⟨one,hn (by rw[if_neg (λq=>hl q.1)])⟩
 have hws:(wsW z).length<=sizeLine:=Nat.le_trans w1 (Nat.le_trans (by omega) (show 5001<=sizeLine by decide))
 refine qbb ?_
 rfl'
 by_cases hrt:rt z=true
 ·have e:Txt.split (Txt.slice z (some 1) none) "/" = wsW z:=by
   rw[qxs,qpc _ (by decide),slice_list]
   unfold wsW
   rw[if_pos hrt,show (some 1:Option Int)=some ((1:Nat):Int) from rfl,qg8]
  refine ifT hrt ⟨sz,by rw[sl];rfl,Nat.le_trans (Txt.slice_le z _ _) sz,by rw[e];exact hws,?_⟩
  rw[e]
  exact rest
 ·have e:Txt.split z "/" = wsW z:=by
   rw[qxs,qpc _ (by decide)]
   unfold wsW
   rw[if_neg hrt]
  refine ifF hrt ⟨by rw[sl];rfl,sz,by rw[e];exact hws,?_⟩
  rw[e]
  exact rest
def qml:TVS:=(vRet (qd8 (vVar 0) qdd (qf7 (vNeg (vC (.int 1))))))
abbrev qzq:List Str:=["way"]
theorem q23:∀ds Q,qdy ds Q->qml (En Q) (qam qzq ds):=by
 rintro ds Q ⟨w,rfl,h⟩
 simp! only[vSeq,qml,wayD]
 rw[qfd]
 exact h
def qyq:TVS:=(vSeq (vIfS (vBl (vOp vEq (vVar 1) (vC (.str ("." : Str)))))
  (vRet (vVar 0))
  qbn)
 (vSeq (vIfS (vBl (vOp vEq (vVar 1) (vC (.str (".." : Str)))))
  (vRet (qal qdy (qaa (vVar 0) vNil)))
  qbn)
 (vRet (vOp vAdd (vVar 0) (vTup (qaa (vVar 1) vNil))))))
abbrev q3h:List Str:=["way","word"]
theorem q6q:∀ds Q,qiy ds Q->qyq (En Q) (qam q3h ds):=by
 rintro ds Q ⟨w,z,rfl,hl,h⟩
 have ab:∀Y:R->Prop,Y (.val (wayD w.dropLast))->qdy [wayD w] Y:=λY y=>⟨w,rfl,y⟩
 unfold qb4 at h
 refine qkk (λb=>b=decide (z=Str.ofString ".")) (λY y=>?t1) (λhb=>?y1) λhb=>?n1
 case t1 =>
  rfl'
  exact y _ (by simp)
 case y1 =>
  rw[if_pos (of_decide_eq_true hb.symm)] at h
  rfl'
  exact h
 case n1 =>
  rw[if_neg (of_decide_eq_false hb.symm)] at h
  refine qkk (λb=>b=decide (z=Str.ofString "..")) (λY y=>?t2) (λhb=>?y2) λhb=>?n2
  case t2 =>
   rfl'
   exact y _ (by simp)
  case y2 =>
   rw[if_pos (of_decide_eq_true hb.symm)] at h
   rfl'
   exact ab _ h
  case n2 =>
   rw[if_neg (of_decide_eq_false hb.symm)] at h
   dsimp! only[wayD]
   exact⟨by decide,Nat.le_trans hl qan,h⟩
def qfw:TVS:=(vRet (vIfE (vBl (vVar 0)) (vTup vNil) (vVar 1)))
abbrev qp1:List Str:=["rooted","at"]
theorem qrf:∀ds Q,qbd ds Q->qfw (En Q) (qam qp1 ds):=by
 rintro ds Q ⟨r,w,rfl,h⟩
 unfold qa0 at h
 dsimp! only[qfw]
 cases r
 ·exact h
 ·exact h
def qfv:TVS:=(vSeq (vIfS (vBl (vOp vEq (vVar 0) (vC (.int 8))))
  (qd7 "Astray" (qaa (vC (.str ("too many links" : Str))) vNil))
  qbn)
 (vRet (vOp vAdd (vVar 0) (vC (.int 1)))))
abbrev qp0:List Str:=["followed"]
theorem qre:∀ds Q,qbx ds Q->qfv (EnX Q) (qam qp0 ds):=by
 rintro ds Q ⟨f,rfl,h1,h2⟩
 simp! only[vSeq,qfv]
 by_cases e:f=8
 ·subst e
  exact⟨by decide,h1 rfl⟩
 ·have e':¬ (f:Int)=8:=by omega
  rw[if_neg (by simpa using e')]
  exact h2 e
def qe3:TVS:=(vSeq (qib 1 (qph (vTup vNil) (vC (.tup [.str ("folder" : Str),.str ("" : Str)]))))
 (vSeq (vFor (qdg (vVar 0)) (qmd 3 (qcg (qba 2) (qcg (qba 3) (qcg (qba 4) qmc))))
  (qir 1 (vVar 2) (vTup (qaa (vVar 3) (qaa (vVar 4) vNil)))))
 (qob 1)))
abbrev qmj:List Str:=["tree","things","way","mark","text"]
theorem qof:∀ds Q,qa4 ds Q->qe3 (En Q) (qam qmj ds):=by
 rintro ds Q ⟨rs,rfl,F,h⟩
 have ond:=F.nd
 have olen:=F.len
 simp! only[vSeq,qe3,qak]
 refine⟨[],rfl,by simp,?_⟩
 refine qmx (λi τ=>∃(a b c:Option R),τ=[some (.val (.lst (rs.map rowD))),some (.own (qa1 (prsR (rs.take i)))),a,b,c]) ⟨none,none,none,rfl⟩ ?_ ?_
 ·rintro i r τ hr ⟨a,b,c,rfl⟩ nx hnx
  have mr:=List.mem_of_getElem? hr
  have hi:=(List.getElem?_eq_some_iff.mp hr).1
  have hlen:=olen
  simp! only[vSeq,rowD,qa1,wayD]
  refine⟨by decide,(F.nm r mr).ok.ne,?_,?_⟩
  ·unfold prsR
   rw[List.length_cons,List.length_map,List.length_take]
   exact Nat.lt_of_lt_of_le (show _<1000 by omega) qan
  ·rw[qcm]
   refine hnx _ ⟨some (.val (.tup (r.1.map D.str))),some (.val (.str r.2.1)),some (.val (.str r.2.2)),?_⟩
   have ni:¬ r.1∈(prsR (rs.take i)).map (·.1):=λm=>by
    unfold prsR at m
    rw[List.map_cons,List.mem_cons] at m
    rcases m with m|m
    ·exact F.ne r mr m
    ·rw[List.map_map] at m
     obtain⟨r',m',e'⟩:=List.mem_map.mp m
     have nd:=ond
     rw[List.nodup_iff_pairwise_ne,List.pairwise_map,List.pairwise_iff_getElem] at nd
     obtain⟨j,hj,ej⟩:=List.mem_iff_getElem.mp m'
     have hj':j<i:=by rw[List.length_take] at hj;omega
     have er:rs[i]=r:=by
      rw[List.getElem?_eq_getElem hi] at hr
      exact Option.some.inj hr
     have:=nd j i (by omega) hi hj'
     rw[List.getElem_take] at ej
     rw[ej,er] at this
     exact this e'
   have e:insP (prsR (rs.take i)) r.1 (thD r.2)=prsR (rs.take (i+1)):=by
    unfold insP
    rw[if_neg ni,List.take_succ,hr]
    unfold prsR
    rw[List.map_append]
    rfl
   show _=[_,some (R.own (qa1 (prsR (rs.take (i+1))))),_,_,_]
   rw[←e]
   rfl
 ·rintro τ ⟨a,b,c,rfl⟩
  simp! only[vSeq,true_and]
  rw[List.take_length]
  exact h
def qr6:TVS:=(vSeq (qib 4 (vLst vNil))
 (vSeq (qib 5 (vF1 qrb (vVar 2)))
 (vSeq (quw (vBl (vOp vNeD (vVar 5) (vLst vNil)))
  (vSeq (qx8 6 5)
 (vSeq (vSet 7 (qal qiy (qaa (vVar 1) (qaa (vVar 6) vNil))))
 (vSeq (vSet 8 (qia (vVar 0) (vVar 7)))
 (vSeq (vIfS (vBl (vOp (vIsN id) (vVar 8) (vC .non)))
  (qd7 "Missing" (qaa (vC (.str ("nothing lies there" : Str))) vNil))
  qbn)
 (vSeq (vIfS (qkg (vBl (vOp vEq (vOp vIxR (vVar 8) (vC (.int 0))) (vC (.str ("file" : Str))))) (vBl (vOp vNeD (vVar 5) (vLst vNil))))
  (qd7 "NotFolder" (qaa (vC (.str ("a file lies ahead of the last word" : Str))) vNil))
  qbn)
 (vSeq (vIfS (vBl (vOp vEq (vOp vIxR (vVar 8) (vC (.int 0))) (vC (.str ("link" : Str)))))
  (vSeq (vSet 3 (qeo qbx (qaa (vVar 3) vNil)))
 (vSeq (vSet 9 (qeo qbq (qaa (vOp vIxR (vVar 8) (vC (.int 1))) vNil)))
 (vSeq (vSet 7 (qal qbd (qaa (vOp vIxR (vVar 9) (vC (.int 0))) (qaa (vVar 1) vNil))))
 (qib 5 (vOp vAdd (vOp vIxR (vVar 9) (vC (.int 1))) (vVar 5))))))
  qbn)
 (vSeq (qh8 4 (vTup (qaa (vVar 1) (qaa (vVar 6) (qaa (vVar 7) vNil)))))
 (vSet 1 (vVar 7))))))))))
 (vFrz 4 (vRet (vTup (qaa (vVar 4) (qaa (vVar 1) (qaa (vVar 3) vNil)))))))))
abbrev q3i:List Str:=["things","at","words","followed","trail","left","word","then","thing","led"]
theorem w_walk:∀ds Q,qff ds Q->qr6 (EnX Q) (qam q3i ds):=by
 rintro ds Q ⟨rs,w0,zs0,f0,rfl,F,hw0,hz0,hzw0,hf0,h⟩
 refine qbb ?_
 dsimp! only[qr6]
 refine qbb ?_
 dsimp! only[qcc]
 refine v_cut (λτ=>∃(w:List Str) (f:Nat) (tr:List (List Str×Str×List Str)) (a b c d:Option R),τ=[some (.val (qa1 (prsR rs))),some (.val (wayD w)),some (.val (qcc zs0)),some (.val (.int f)),some (.own (.lst (tr.map trD))),some (.own (.lst [])),a,b,c,d]/\Q (wrR (.ok tr w f))) ?_ ?_
 ·rintro τ ⟨w,f,tr,a,b,c,d,rfl,hq⟩
  rfl'
  exact⟨by decide,hq⟩
 ·intro nx hnx
  refine⟨λm τ=>∃(w left:List Str) (f:Nat) (tr:List (List Str×Str×List Str)) (a b c d:Option R),τ=[some (.val (qa1 (prsR rs))),some (.val (wayD w)),some (.val (qcc zs0)),some (.val (.int f)),some (.own (.lst (tr.map trD))),some (.own (.lst (left.map D.str))),a,b,c,d]/\f<=8/\m=(8-f)*41+left.length/\w.length+m<900/\tr.length+m<900/\("" : Str)∉w/\(∀z∈left,wdB z=true)/\∀res,WalkTo (look rs) w left f tr res->Q (wrR res),⟨_,w0,zs0,f0,[],none,none,none,none,rfl,hf0,rfl,by have:=hw0.1;omega,by simp only[List.length_nil];omega,hw0.2,hzw0,h⟩,?_⟩
  rintro m τ ⟨w,left,f,tr,a,b,c,d,rfl,hf,hm,h1,h2,h3,h4,h5⟩
  rfl'
  refine⟨qfb left [],qz2 left,?_⟩
  simp only[eqSN left]
  cases left with
 |nil =>
   refine iteF (hnx _ ⟨w,f,tr,a,b,c,d,rfl,h5 _ .nil⟩)
 |cons z zs =>
   refine iteT ?_
   have hl:(z::zs).length=zs.length+1:=rfl
   rw[hl] at hm
   obtain⟨G,hG⟩:∃G:VSt->Prop,G=(λτ':VSt=>∃m',m'<m/\∃(w left:List Str) (f:Nat) (tr:List (List Str×Str×List Str)) (a b c d:Option R),τ'=[some (.val (qa1 (prsR rs))),some (.val (wayD w)),some (.val (qcc zs0)),some (.val (.int f)),some (.own (.lst (tr.map trD))),some (.own (.lst (left.map D.str))),a,b,c,d]/\f<=8/\m'=(8-f)*41+left.length/\w.length+m'<900/\tr.length+m'<900/\("" : Str)∉w/\(∀z∈left,wdB z=true)/\∀res,WalkTo (look rs) w left f tr res->Q (wrR res)):=⟨_,rfl⟩
   have kn:∀(w' left':List Str) (f':Nat) (tr':List (List Str×Str×List Str)) (a b c d:Option R),f'<=8->(8-f')*41+left'.length<m->w'.length<=w.length+1->tr'.length<=tr.length+1->("" : Str)∉w'->(∀z∈left',wdB z=true)->(∀res,WalkTo (look rs) w' left' f' tr' res->Q (wrR res))->G [some (R.val (qa1 (prsR rs))),some (R.val (wayD w')),some (R.val (qcc zs0)),some (R.val (D.int f')),some (R.own (D.lst (tr'.map trD))),some (R.own (D.lst (left'.map D.str))),a,b,c,d]:=λw' left' f' tr' a b c d k1 k2 k3 k4 k5 k6 k7=>by
    rw[hG]
    exact⟨_,k2,w',left',f',tr',a,b,c,d,rfl,k1,rfl,by omega,by omega,k5,k6,k7⟩
   rw[←hG]
   clear hG hnx
   have hz:wdB z=true:=h4 z List.mem_cons_self
   have hzs:∀y∈zs,wdB y=true:=λy my=>h4 y (List.mem_cons_of_mem _ my)
   have ls:∀Y:R->Prop,Y (.val (wayD (qb4 w z)))->qiy [wayD w,.str z] Y:=λY y=>⟨w,z,rfl,by omega,y⟩
   refine qbb ?_
   dsimp! only[List.map_cons]
   refine qbb ?_
   rfl'
   refine ls _ ?_
   rfl'
   refine qbb ?_
   dsimp! only[qa1]
   refine⟨qb4 w z,rfl,quk h3 hz,?_⟩
   rw[qcz,qhi]
   have one:1<=sizeLine:=by decide
   cases hk:look rs (qb4 w z) with
  |none =>
    refine qbb ?_
    dsimp! only[Option.map_none,Option.getD_none]
    exact⟨one,h5 _ (.miss hk)⟩
  |some mt =>
    obtain⟨m',t⟩:=mt
    refine qkk (λb=>b=false) (λY y=>?t1) (λhb=>absurd hb (by decide)) λ_=>?n1
    case t1 =>
     dsimp! only[thD,Option.map_some,Option.getD_some]
     exact y _ rfl
    case n1 =>
    refine qkk (λb=>b=(decide (m'=qbe)&&decide (zs≠[]))) (λY y=>?t2) (λhb=>?y2) λhb=>?n2
    case t2 =>
     dsimp! only[thD,Option.map_some,Option.getD_some]
     by_cases hm':m'=qbe
     ·rw[if_pos (decide_eq_true hm')]
      refine⟨qfb zs [],qz2 zs,?_⟩
      rw[eqSN zs]
      refine y _ ?_
      rw[decide_eq_true hm',Bool.true_and,decide_not]
     ·rw[if_neg (by rw[decide_eq_false hm'];decide)]
      refine y _ ?_
      rw[decide_eq_false hm',Bool.false_and]
    case y2 =>
     rw[Eq.comm,Bool.and_eq_true] at hb
     have e1:=of_decide_eq_true hb.1
     subst e1
     rfl'
     exact⟨one,h5 _ (.file hk (of_decide_eq_true hb.2))⟩
    case n2 =>
    refine v_cut (λτ=>∃(w' left':List Str) (f':Nat) (c d:Option R),τ=[some (R.val (qa1 (prsR rs))),some (R.val (wayD w)),some (R.val (qcc zs0)),some (R.val (D.int f')),some (R.own (D.lst (tr.map trD))),some (R.own (D.lst (left'.map D.str))),some (.val (.str z)),some (.val (wayD w')),c,d]/\f'<=8/\(8-f')*41+left'.length<m/\w'.length<=w.length+1/\("" : Str)∉w'/\(∀z∈left',wdB z=true)/\(∀res,WalkTo (look rs) w' left' f' (tr++[(w,z,w')]) res->Q (wrR res))) ?_ ?_
    ·rintro τ ⟨w',left',f',c,d,rfl,k1,k2,k3,k4,k5,k6⟩
     refine qbb ?_
     rfl'
     refine⟨by decide,Nat.lt_of_lt_of_le (show _<1000 by omega) qan,?_⟩
     have e:tr.map trD++[D.tup [wayD w,D.str z,wayD w']]=(tr++[(w,z,w')]).map trD:=by rw[List.map_append];rfl
     rw[e]
     exact kn w' left' f' _ _ _ _ _ k1 k2 k3 (by rw[List.length_append];exact Nat.le_refl _) k4 k5 k6
    ·intro nx hnx
     refine v_if (λb=>b=decide (m'=qbz)) (λY y=>?t3) (λhb=>?y3) λhb=>?n3
     case t3 =>
      dsimp! only[thD,Option.map_some,Option.getD_some]
      exact y _ rfl
     case n3 =>
      have hm':=of_decide_eq_false hb.symm
      refine hnx _ ⟨qb4 w z,zs,f,_,_,rfl,hf,by omega,qxz w z,quk h3 hz,hzs,λres k=>h5 _ (.plain hk hm' (λe=>?_) k)⟩
      by_cases hn:zs=[]
      ·exact hn
      ·rename_i hc
       rw[decide_eq_true e,decide_eq_true hn] at hc
       cases hc
     case y3 =>
      have hm':=of_decide_eq_true hb.symm
      subst hm'
      have lo:∀Y:R->Prop,(f=8->Y (.exc "Astray"))->(f≠8->Y (.val (.int (f+1:Nat))))->qbx [.int f] Y:=λY y1 y2=>⟨f,rfl,y1,y2⟩
      obtain⟨mr,er,et⟩:∃r∈rs,r.2=(qbz,t)/\r.1=qb4 w z:=by
       unfold look at hk
       by_cases e0:qb4 w z=[]
       ·rw[if_pos e0] at hk
        exact absurd (show qah=qbz from congrArg (λx=>(x.getD ("","")).1) hk) (by decide +kernel)
       ·rw[if_neg e0] at hk
        obtain⟨r,h1,h2⟩:=Option.map_eq_some_iff.mp hk
        exact⟨r,List.mem_of_find?_eq_some h1,h2,of_decide_eq_true (List.find?_some (p:=λr:Row=>decide (r.1=qb4 w z)) h1)⟩
      obtain⟨lt,r,vs,ew⟩:=F.lk mr er (by rw[et.1])
      rw[et.1] at lt ew
      have lw:∀Y:R->Prop,Y (.val (.tup [.bl r,qcc vs]))->qbq [.str t] Y:=λY y=>⟨t,rfl,by simp only at lt;omega,λr' ws' e'=>by rw[ew] at e';cases e';exact y,λe'=>by rw[ew] at e';cases e'⟩
      have lst:∀Y:R->Prop,Y (.val (wayD (qa0 r w)))->qbd [.bl r,wayD w] Y:=λY y=>⟨r,w,rfl,y⟩
      have ok:=qks ew
      refine qbb ?_
      rfl'
      refine lo _ (λe8=>?_) λn8=>?_
      ·rfl'
       subst e8
       exact h5 _ (.many hk)
      rfl'
      refine qbb ?_
      dsimp! only[thD,Option.map_some,Option.getD_some]
      refine lw _ ?_
      rfl'
      refine qbb ?_
      rfl'
      refine lst _ ?_
      dsimp! only[qcc]
      refine⟨Nat.le_trans (show _<=1000 by omega) qan,?_⟩
      exact hnx _ ⟨qa0 r w,vs++zs,f+1,_,_,rfl,by omega,by rw[List.length_append];omega,Nat.le_succ_of_le (qh5 r w),qpd r h3,λy my=>(List.mem_append.mp my).elim (ok.2 y) (hzs y),λres k=>h5 _ (.link hk n8 ew k)⟩
def qjh:TVS:=(vSeq (vSet 3 (qeo qbq (qaa (vVar 2) vNil)))
 (vRet (qeo qff (qaa (qal qa4 (qaa (vVar 0) vNil)) (qaa (qal qbd (qaa (vOp vIxR (vVar 3) (vC (.int 0))) (qaa (vVar 1) vNil))) (qaa (vOp vIxR (vVar 3) (vC (.int 1))) (qaa (vC (.int 0)) vNil)))))))
abbrev qvs:List Str:=["tree","at","text","found"]
theorem qyo:∀ds Q,qet ds Q->qjh (EnX Q) (qam qvs ds):=by
 rintro ds Q ⟨rs,w,t,rfl,F,hw,ht,h⟩
 refine qbb ?_
 dsimp! only[qjh]
 refine⟨t,rfl,ht,λr zs e=>?_,λe=>?_⟩
 ·have ok:=qks e
  have l1:∀Y:R->Prop,Y (.own (qa1 (prsR rs)))->qa4 [qak rs] Y:=λY y=>⟨rs,rfl,F,y⟩
  have l2:∀Y:R->Prop,Y (.val (wayD (qa0 r w)))->qbd [.bl r,wayD w] Y:=λY y=>⟨r,w,rfl,y⟩
  have l3:∀Y:R->Prop,(∀res,WalkTo (look rs) (qa0 r w) zs 0 [] res->Y (wrR res))->qff [qa1 (prsR rs),wayD (qa0 r w),qcc zs,.int (0:Nat)] Y:=λY y=>⟨rs,qa0 r w,zs,0,rfl,F,qzc r hw,ok.1,ok.2,by decide,y⟩
  rfl'
  refine l1 _ ?_
  rfl'
  refine l2 _ ?_
  rfl'
  refine l3 _ λres k=>?_
  have:=h res (.inr ⟨r,zs,e,k⟩)
  cases res<;>exact this
 ·rfl'
  exact h _ (.inl ⟨e,rfl⟩)
def qft:TVS:=(vRet (vOp vIxR (qeo qet (qaa (vVar 0) (qaa (vVar 1) (qaa (vVar 2) vNil)))) (vC (.int 1))))
abbrev qpy:List Str:=["tree","at","text"]
theorem qrc:∀ds Q,qc8 ds Q->qft (EnX Q) (qam qpy ds):=by
 rintro ds Q ⟨rs,w,t,rfl,F,hw,ht,h⟩
 have l1:∀Y:R->Prop,(∀res,qgc rs w t res->Y (wrR res))->qet [qak rs,wayD w,.str t] Y:=λY y=>⟨rs,w,t,rfl,F,hw,ht,y⟩
 dsimp! only[qft]
 refine l1 _ λres k=>?_
 have:=h res k
 cases res with
|ok tr w f =>
  dsimp! only[wrR]
  exact this
|exc n =>
  dsimp! only[wrR]
  exact this
def qjg:TVS:=(vSeq (vSet 4 (qeo qbq (qaa (vVar 2) vNil)))
 (vSeq (vSet 5 (vOp vIxR (vVar 4) (vC (.int 1))))
 (vSeq (vIfS (vOrT (vBl (vOp vEq (vVar 5) (vLst vNil))) (qep (vBl (qal qcw (qaa (vOp vIxR (vVar 5) (vNeg (vC (.int 1)))) vNil)))))
  (qd7 "NoPlace" (qaa (vC (.str ("the last word is no name" : Str))) vNil))
  qbn)
 (vSeq (vSet 6 (qeo qff (qaa (vVar 0) (qaa (qal qbd (qaa (vOp vIxR (vVar 4) (vC (.int 0))) (qaa (vVar 1) vNil))) (qaa (qd8 (vVar 5) qdd (qf7 (vNeg (vC (.int 1))))) (qaa (vVar 3) vNil))))))
 (vSeq (vIfS (vBl (vOp vNeD (vOp vIxR (qn9 (vVar 0) (vOp vIxR (vVar 6) (vC (.int 1)))) (vC (.int 0))) (vC (.str ("folder" : Str)))))
  (qd7 "NotFolder" (qaa (vC (.str ("the words ahead of the last one lead to a file" : Str))) vNil))
  qbn)
 (vRet (vTup (qaa (vOp vAdd (vOp vIxR (vVar 6) (vC (.int 1))) (vTup (qaa (vOp vIxR (vVar 5) (vNeg (vC (.int 1)))) vNil))) (qaa (vOp vIxR (vVar 6) (vC (.int 2))) vNil)))))))))
abbrev qvr:List Str:=["things","at","text","followed","found","words","come"]
theorem qyn:∀ds Q,qdz ds Q->qjg (EnX Q) (qam qvr ds):=by
 rintro ds Q ⟨rs,w,t,f,rfl,F,hw,ht,hf,hl,h⟩
 have one:1<=sizeLine:=by decide
 refine qbb ?_
 dsimp! only[qjg]
 refine⟨t,rfl,ht,λr zs e=>?_,λe=>?_⟩
 ·have ok:=qks e
  have l2:∀Y:R->Prop,Y (.val (wayD (qa0 r w)))->qbd [.bl r,wayD w] Y:=λY y=>⟨r,w,rfl,y⟩
  have l3:∀Y:R->Prop,(∀res,WalkTo (look rs) (qa0 r w) zs.dropLast f [] res->Y (wrR res))->qff [qa1 (prsR rs),wayD (qa0 r w),qcc zs.dropLast,.int f] Y:=λY y=>⟨rs,qa0 r w,zs.dropLast,f,rfl,F,qzc r hw,by rw[List.length_dropLast];omega,λz m=>ok.2 z (List.dropLast_subset zs m),hf,y⟩
  have lr:∀z∈zs,z.length<=5000:=λz m=>by
   have:=ok.2 z m
   unfold wdB at this
   rw[Bool.or_eq_true] at this
   rcases this with q|q
   ·have:=of_decide_eq_true q
    rw[List.mem_cons,List.mem_singleton] at this
    rcases this with rfl|rfl
    ·decide +kernel
    ·decide +kernel
   ·have:=(qhl q).2
    omega
  rfl'
  refine qbb ?_
  dsimp! only[qcc]
  refine qkk (λb=>b=(decide (zs=[])||!nmB (zs.getLastD ""))) (λY y=>?t1) (λhb=>?y1) λhb=>?n1
  case t1 =>
   rfl'
   refine⟨qfb zs [],qz2 zs,?_⟩
   rw[eqSN zs]
   by_cases hz:zs=[]
   ·rw[if_pos (decide_eq_true hz)]
    refine y _ ?_
    rw[decide_eq_true hz,Bool.true_or]
   ·rw[if_neg (by rw[decide_eq_false hz];decide)]
    have el:=qta hz
    refine⟨.str (zs.getLastD ""),?_,zs.getLastD "",rfl,lr _ ?_,?_⟩
    ·rw[el,List.map_append]
     simp
    ·rw[el]
     exact List.mem_append_right _ (by simp)
    ·rfl'
     refine y _ ?_
     rw[decide_eq_false hz,Bool.false_or]
  case y1 =>
   rfl'
   refine⟨one,h _ (.noplace e ?_)⟩
   rw[Eq.comm,Bool.or_eq_true] at hb
   exact hb.elim (λq=>.inl (of_decide_eq_true q)) λq=>.inr (by simpa using q)
  case n1 =>
  rw[Eq.comm,Bool.or_eq_false_iff] at hb
  have hz:zs≠[]:=of_decide_eq_false hb.1
  have hn:nmB (zs.getLastD "")=true:=by simpa using hb.2
  refine qbb ?_
  rfl'
  refine l2 _ ?_
  rfl'
  rw[qfd]
  refine l3 _ λres k=>?_
  cases res with
 |exc n =>
   dsimp! only[wrR]
   exact h _ (.bad e hz hn k)
 |ok tr v f' =>
   dsimp! only[wrR]
   obtain⟨⟨m,x⟩,hv⟩:=qvm k (qq6 r hl) rfl
   have wv:=qgs F hv
   have el:=qta hz
   refine qkk (λb=>b=!decide (m=qah)) (λY y=>?t2) (λhb=>?y2) λhb=>?n2
   case t2 =>
    dsimp! only[qa1]
    show ∃w:List Str,v.map D.str=w.map D.str/\_
    refine⟨v,rfl,wv.ok.ne,thD (m,x),by rw[qcz,qhi,hv];rfl,?_⟩
    dsimp! only[thD]
    exact y _ rfl
   case y2 =>
    rfl'
    exact⟨one,h _ (.file e hz hn k hv (by simpa using hb))⟩
   case n2 =>
    have hm:m=qah:=by simpa using hb
    subst hm
    rfl'
    refine⟨.str (zs.getLastD ""),?_,one,?_,by decide,?_⟩
    ·conv=>lhs;rw[el,List.map_append]
     simp
    ·rw[List.length_map]
     exact Nat.le_trans (show v.length+1<=1000 by have:=wv.1;omega) qan
    ·have:=h _ (.ok e hz hn k hv)
     unfold plR wayD at this
     simp only[List.map_append] at this
     exact this
 ·rfl'
  exact h _ (.noway e)
def qgy:TVS:=(vSeq (vSet 3 (qal qa4 (qaa (vVar 0) vNil)))
 (vSeq (vSet 4 (qeo qdz (qaa (vVar 3) (qaa (vVar 1) (qaa (vVar 2) (qaa (vC (.int 0)) vNil))))))
 (vSeq (vSet 5 (qia (vVar 3) (vOp vIxR (vVar 4) (vC (.int 0)))))
 (vSeq (quw (qkg (vBl (vOp (vIsN (!·)) (vVar 5) (vC .non))) (vBl (vOp vEq (vOp vIxR (vVar 5) (vC (.int 0))) (vC (.str ("link" : Str))))))
  (vSeq (vSet 4 (qeo qdz (qaa (vVar 3) (qaa (qal qdy (qaa (vOp vIxR (vVar 4) (vC (.int 0))) vNil)) (qaa (vOp vIxR (vVar 5) (vC (.int 1))) (qaa (qeo qbx (qaa (vOp vIxR (vVar 4) (vC (.int 1))) vNil)) vNil))))))
 (vSet 5 (qia (vVar 3) (vOp vIxR (vVar 4) (vC (.int 0)))))))
 (vRet (vOp vIxR (vVar 4) (vC (.int 0))))))))
abbrev qro:List Str:=["tree","at","text","things","found","thing"]
theorem qvb:∀ds Q,qdn ds Q->qgy (EnX Q) (qam qro ds):=by
 rintro ds Q ⟨ts,w,t,rfl,F,hw,ht,hl,hq⟩
 have l1:∀Y:R->Prop,Y (.own (qa1 (prsR ts)))->qa4 [qak ts] Y:=λY y=>⟨ts,rfl,F,y⟩
 have pl:∀(w:List Str) (t:Str) (f:Nat) (Y:R->Prop),WayG w->t.length<=5000->f<=8->(∃mt,look ts w=some mt)->(∀res,PlaceTo ts w t f res->Y (plR res))->qdz [qa1 (prsR ts),wayD w,.str t,.int f] Y:=λw t f Y a b c d y=>⟨ts,w,t,f,rfl,F,a,b,c,d,y⟩
 refine v_cut (λτ=>τ=[some (.val (qak ts)),some (.val (wayD w)),some (.val (.str t)),some (.val (qa1 (prsR ts))),none,none]) ?_ λnx hnx=>?now
 case now =>
  dsimp! only[qgy]
  refine l1 _ ?_
  rfl'
  exact hnx _ rfl
 rintro τ rfl
 refine qbb ?_
 rfl'
 refine pl w t 0 _ hw ht (by decide) hl λres k=>?_
 cases res with
|exc n =>
  dsimp! only[plR]
  exact hq _ (.inl ⟨n,k,rfl⟩)
|ok tr v f =>
  obtain⟨u,z,x,rfl,hz,hu⟩:=qev k
  obtain⟨hne,hg,hvl⟩:=qhq F hz hu
  have hf:=(qlv k (by decide)).2 _ _ _ rfl
  dsimp! only[plR]
  refine qbb ?_
  dsimp! only[qa1,wayD]
  refine⟨hne,?_⟩
  rw[qcz,qhi]
  refine v_cut (λτ=>∃(v:List Str) (f:Nat) (a:Option R),τ=[some (.val (qak ts)),some (.val (wayD w)),some (.val (.str t)),some (.val (qa1 (prsR ts))),some (.val (.tup [wayD v,.int f])),a]/\Q (.val (wayD v))) ?_ λnx hnx=>?now
  ·rintro τ ⟨v,f,a,rfl,hq⟩
   rfl'
   exact hq
  refine⟨λm τ=>∃(u:List Str) (z:Str) (x:Str) (f:Nat),τ=[some (.val (qak ts)),some (.val (wayD w)),some (.val (.str t)),some (.val (qa1 (prsR ts))),some (.val (.tup [wayD (u++[z]),.int f])),some (.val (((look ts (u++[z])).map thD).getD .non))]/\nmB z=true/\look ts u=some (qah,x)/\f<=8/\m=8-f/\∀res,GoalS ts (u++[z]) f res->Q (wayR res),⟨_,u,z,x,f,rfl,hz,hu,hf.2,rfl,λres g=>hq res (.inr ⟨tr,_,f,k,g⟩)⟩,?_⟩
  clear hz hu hne hg hvl hf k hq
  rintro m τ ⟨u,z,x,f,rfl,hz,hu,hf,hm,hq⟩
  obtain⟨hne,hg,hvl⟩:=qhq F hz hu
  obtain⟨G,hG⟩:∃G:VSt->Prop,G=(λτ':VSt=>∃m',m'<m/\∃(u:List Str) (z:Str) (x:Str) (f:Nat),τ'=[some (.val (qak ts)),some (.val (wayD w)),some (.val (.str t)),some (.val (qa1 (prsR ts))),some (.val (.tup [wayD (u++[z]),.int f])),some (.val (((look ts (u++[z])).map thD).getD .non))]/\nmB z=true/\look ts u=some (qah,x)/\f<=8/\m'=8-f/\∀res,GoalS ts (u++[z]) f res->Q (wayR res)):=⟨_,rfl⟩
  have kn:∀(u:List Str) (z:Str) (x:Str) (f:Nat),nmB z=true->look ts u=some (qah,x)->f<=8->8-f<m->(∀res,GoalS ts (u++[z]) f res->Q (wayR res))->G [some (.val (qak ts)),some (.val (wayD w)),some (.val (.str t)),some (.val (qa1 (prsR ts))),some (.val (.tup [wayD (u++[z]),.int f])),some (.val (((look ts (u++[z])).map thD).getD .non))]:=λu z x f a1 a2 a3 a4 a5=>by
   rw[hG]
   exact⟨_,a4,u,z,x,f,rfl,a1,a2,a3,rfl,a5⟩
  rw[←hG]
  clear hG
  cases hk:look ts (u++[z]) with
 |none =>
   dsimp! only[Option.map_none,Option.getD_none]
   exact hnx _ ⟨u++[z],f,_,rfl,hq (.ok [] _ f) (.ok λx e=>by rw[hk] at e;cases e)⟩
 |some mt =>
   obtain⟨m',y⟩:=mt
   dsimp! only[thD,Option.map_some,Option.getD_some]
   by_cases hm':m'=qbz
   ·subst hm'
    have my:=qow (by simp) hk
    have yl:y.length<=3000:=(F.lk _ my rfl).1
    have ed:(u++[z]).dropLast=u:=List.dropLast_concat
    have ab:∀Y:R->Prop,Y (.val (wayD u))->qdy [wayD (u++[z])] Y:=λY y=>⟨u++[z],rfl,by rw[ed];exact y⟩
    have lo:∀Y:R->Prop,(f=8->Y (.exc "Astray"))->(f≠8->Y (.val (.int (f+1:Nat))))->qbx [.int f] Y:=λY y1 y2=>⟨f,rfl,y1,y2⟩
    refine ifT (decide_eq_true rfl) ?_
    refine qbb ?_
    rfl'
    refine ab _ ?_
    rfl'
    refine lo _ (λe8=>?_) λn8=>?_
    ·rfl'
     subst e8
     exact hq (.exc "Astray") (.many hk)
    rfl'
    refine pl u y (f+1) _ hg (by omega) (by omega) ⟨_,hu⟩ λres k=>?_
    cases res with
   |exc n =>
     dsimp! only[plR]
     exact hq (.exc n) (.bad hk n8 (by rw[ed];exact k))
   |ok tr v f2 =>
     obtain⟨u2,z2,x2,rfl,hz2,hu2⟩:=qev k
     obtain⟨hne2,hg2,hvl2⟩:=qhq F hz2 hu2
     have hf2:=(qlv k (by omega)).2 _ _ _ rfl
     dsimp! only[plR,qa1,wayD]
     refine⟨hne2,?_⟩
     rw[qcz,qhi]
     exact kn u2 z2 x2 f2 hz2 hu2 hf2.2 (by omega) λres g=>hq res (.link hk n8 (by rw[ed];exact k) g)
   ·refine ifF (by rw[decide_eq_false hm'];decide) (hnx _ ⟨u++[z],f,_,rfl,hq (.ok [] _ f) (.ok λx e=>?_)⟩)
    rw[hk] at e
    cases e
    exact hm' rfl
def qed:TVS:=(vRet (qur (vOp vGt (vF1 vLen (vVar 0)) (vF1 vLen (vVar 1))) (vOp vEq (qd8 (vVar 0) qdd (qf7 (vF1 vLen (vVar 1)))) (vVar 1))))
abbrev qku:List Str:=["way","other"]
theorem qmh:∀ds Q,qa2 ds Q->qed (En Q) (qam qku ds):=by
 rintro ds Q ⟨w,o,rfl,h⟩
 simp! only[vSeq,qed,wayD]
 rw[qfe]
 unfold qc4 preB at h
 by_cases hl:o.length<w.length
 ·rw[decide_eq_true (by omega:(o.length:Int)<w.length)]
  rw[decide_eq_true hl,Bool.true_and] at h
  refine iteT ⟨cmpW _ _,depW _,?_⟩
  rw[eqW]
  exact h
 ·rw[decide_eq_false (by omega:¬ (o.length:Int)<w.length)]
  rw[decide_eq_false hl,Bool.false_and] at h
  exact iteF h
def qg4:TVS:=(vSeq (vIfS (vOrT (vBl (vOp vEq (vVar 0) (vVar 1))) (vBl (qal qa2 (qaa (vVar 0) (qaa (vVar 1) vNil)))))
  (vRet (vOp vAdd (vVar 2) (qd8 (vVar 0) (qf7 (vF1 vLen (vVar 1))) qdd)))
  qbn)
 (vRet (vVar 0)))
abbrev qrw:List Str:=["way","old","new"]
theorem qvj:∀ds Q,qcx ds Q->qg4 (En Q) (qam qrw ds):=by
 rintro ds Q ⟨w,old,new,rfl,hl,h⟩
 have lu:∀Y:R->Prop,Y (.val (.bl (qc4 w old)))->qa2 [wayD w,wayD old] Y:=λY y=>⟨w,old,rfl,y⟩
 unfold qgh at h
 have go:(w=old\/qc4 w old=true)->new.length+(w.drop old.length).length<=sizeLine/\Q (.val (wayD (new++w.drop old.length))):=λc=>by
  rw[if_pos c] at h
  refine⟨Nat.le_trans ?_ qan,h⟩
  rw[List.length_drop]
  lia
 simp! only[vSeq,qg4,wayD]
 refine⟨cmpW _ _,depW _,?_⟩
 rw[eqW]
 by_cases e:w=old
 ·rw[decide_eq_true e]
  refine iteT ?_
  rw[qg8]
  exact go (.inl e)
 ·rw[decide_eq_false e]
  refine iteF (lu _ ?_)
  simp! only[vSeq,true_and]
  cases hu:qc4 w old with
 |true =>
   refine iteT ?_
   rw[qg8]
   exact go (.inr hu)
 |false =>
   refine iteF ?_
   rw[if_neg (by rintro (q|q);exact e q;rw[hu] at q;cases q)] at h
   exact h
def qyp:TVS:=(vRet (qgp (qdg (vVar 0)) (qmd 3 (qcg (qba 2) (qcg (qba 3) (qcg (qba 4) qmc)))) (vBl (qal qa2 (qaa (vVar 2) (qaa (vVar 1) vNil)))) (vTup (qaa (qal qcx (qaa (vVar 2) (qaa (vVar 1) (qaa (vTup vNil) vNil)))) (qaa (vVar 3) (qaa (vVar 4) vNil)))) 3))
abbrev q3e:List Str:=["tree","way"]
theorem q7y:∀ds Q,q3v ds Q->qyp (En Q) (qam q3e ds):=by
 rintro ds Q ⟨rs,w,rfl,hl,hn,h⟩
 simp! only[vSeq,qyp,qak]
 refine qe4 (λr=>rowD (qgh r.1 w [],r.2)) (λr=>qc4 r.1 w) rs (Nat.le_trans (show _<=1000 by lia) qan) (λr hr Y N y1 y2=>?_) ?_
 ·simp! only[vSeq,rowD,qa2,qcx]
  refine⟨r.1,rfl,w,rfl,?_⟩
  cases hu:qc4 r.1 w with
 |true =>
   have:=hn r hr
   exact iteT ⟨r.1,rfl,w,rfl,[],rfl,by show 0+r.1.length<=1000;lia,by decide,y1 hu⟩
 |false=>exact iteF (y2 hu)
 ·simp! only[vSeq,true_and]
  unfold q4m at h
  have e:qak ((rs.filter λr=>qc4 r.1 w).map λr=>(qgh r.1 w [],r.2))=.lst ((rs.filter λr=>qc4 r.1 w).map λr=>rowD (qgh r.1 w [],r.2)):=by
   unfold qak
   rw[List.map_map]
   rfl
  rw[e] at h
  exact h
def qg5:TVS:=(vRet (qgp (qdg (vVar 0)) (qba 2) (qkg (vBl (vOp vNeD (vOp vIxR (vVar 2) (vC (.int 0))) (vVar 1))) (qep (vBl (qal qa2 (qaa (vOp vIxR (vVar 2) (vC (.int 0))) (qaa (vVar 1) vNil)))))) (vVar 2) 1))
abbrev qrx:List Str:=["tree","way"]
theorem qvk:∀ds Q,qcy ds Q->qg5 (En Q) (qam qrx ds):=by
 rintro ds Q ⟨rs,w,rfl,hl,h⟩
 simp! only[vSeq,qg5,qak]
 refine qe4 (λr=>rowD r) (λr=>!preB r.1 w) rs (Nat.le_trans (show _<=1000 by lia) qan) (λr hr Y N y1 y2=>?_) ?_
 ·have lu:∀Y:R->Prop,Y (.val (.bl (qc4 r.1 w)))->qa2 [wayD r.1,wayD w] Y:=λY y=>⟨r.1,w,rfl,y⟩
  simp! only[vSeq,rowD,wayD]
  refine⟨cmpW _ _,depW _,?_⟩
  rw[eqW]
  rw[q4z] at y1 y2
  by_cases e:r.1=w
  ·rw[decide_eq_true e] at y2 ⊢
   exact iteF (y2 rfl)
  ·rw[decide_eq_false e] at y1 y2 ⊢
   refine iteT (lu _ ?_)
   simp! only[vSeq,true_and]
   cases hu:qc4 r.1 w with
  |true=>exact iteF (y2 (by rw[hu];rfl))
  |false=>exact iteT (y1 (by rw[hu];rfl))
 ·simp! only[vSeq,true_and]
  exact h
def qfu:TVS:=(vRet (vF1 qe8 (vVar 0)))
abbrev qpz:List Str:=["entries"]
theorem qrd:∀ds Q,qc9 ds Q->qfu (En Q) (qam qpz ds):=by
 rintro ds Q ⟨rs,rfl,nd,hl,h⟩
 simp! only[vSeq,qfu,qak]
 refine⟨qi9 nd,by first|exact hl|(rw[List.length_map];exact hl),λds hp hs=>?_⟩
 obtain⟨ts,rfl,p1,p2⟩:=qlz nd hp hs
 exact h ts p1 p2
def qg2:TVS:=(vRet (vOp vAdd (vLst (qaa (vTup (qaa (vVar 0) (qaa (vOp vIxR (vVar 1) (vC (.int 0))) (qaa (vOp vIxR (vVar 1) (vC (.int 1))) vNil)))) vNil)) (qgp (qdg (vVar 2)) (qmd 3 (qcg (qba 3) (qcg (qba 4) (qcg (qba 5) qmc)))) (λ_ Q=>Q true) (vTup (qaa (qal qcx (qaa (vVar 3) (qaa (vTup vNil) (qaa (vVar 0) vNil)))) (qaa (vVar 4) (qaa (vVar 5) vNil)))) 3)))
abbrev qrt:List Str:=["way","thing","below"]
theorem qvg:∀ds Q,qdq ds Q->qg2 (En Q) (qam qrt ds):=by
 rintro ds Q ⟨w,b,rs,rfl,hl,hw,hn,h⟩
 simp! only[vSeq,qg2,qak,thD]
 refine⟨by decide,by decide,?_⟩
 refine qfc (λr=>rowD (w++r.1,r.2)) rs (Nat.le_trans (show _<=1000 by omega) qan) (λr hr Y N hY=>?_) ?_
 ·simp! only[vSeq,rowD,qcx]
  have:=hn r hr
  refine⟨r.1,rfl,[],rfl,w,rfl,by omega,by decide,?_⟩
  rw[qui]
  exact hY
 ·simp! only[vSeq,true_and]
  refine⟨Nat.le_trans (show _<=1000 by omega) qan,?_⟩
  have e:qak (qei w b rs)=.lst ([D.tup [wayD w,.str b.1,.str b.2]]++rs.map λr=>rowD (w++r.1,r.2)):=by
   unfold qak qei
   rw[List.map_cons,List.map_map]
   rfl
  rw[e] at h
  exact h
def qgz:TVS:=(vRet (qal qc9 (qaa (vOp vAdd (qal qcy (qaa (vVar 0) (qaa (vVar 1) vNil))) (qal qdq (qaa (vVar 1) (qaa (vVar 2) (qaa (vVar 3) vNil))))) vNil)))
abbrev qrp:List Str:=["tree","way","thing","below"]
theorem qvc:∀ds Q,qdo ds Q->qgz (En Q) (qam qrp ds):=by
 rintro ds Q ⟨rs,w,b,below,rfl,n1,n2,n3,l1,l2,l3,l4,h⟩
 have wo:∀Y:R->Prop,Y (.own (qak (qcs rs w)))->qcy [qak rs,wayD w] Y:=λY y=>⟨rs,w,rfl,l1,y⟩
 have pl:∀Y:R->Prop,Y (.own (qak (qei w b below)))->qdq [wayD w,thD b,qak below] Y:=λY y=>⟨w,b,below,rfl,l2,l3,λr hr=>Nat.le_trans (n3 r hr).2 (by omega),y⟩
 have io:∀Y:R->Prop,(∀ts:List Row,ts.Perm (qb9 rs w b below)->qbf ts->Y (.own (qak ts)))->qc9 [qak (qb9 rs w b below)] Y:=λY y=>⟨_,rfl,qv5 n1 n2 λr hr=>(n3 r hr).1,l4,y⟩
 simp! only[vSeq,qgz]
 refine wo _ ?_
 simp! only[vSeq,true_and]
 refine pl _ ?_
 simp! only[vSeq,qak]
 have el:(qcs rs w).length+(qei w b below).length=(qb9 rs w b below).length:=by unfold qb9;rw[List.length_append]
 refine⟨by rw[el];exact Nat.le_trans (show _<=1000 by omega) qan,?_⟩
 have e:(qcs rs w).map rowD++(qei w b below).map rowD=(qb9 rs w b below).map rowD:=by unfold qb9;rw[List.map_append]
 rw[e]
 refine io _ λts p1 p2=>?_
 simp! only[vSeq,true_and]
 exact h ts p1 p2
def qr5:TVS:=(vSeq (vIfS (vOrT (qep (vBl (qkh .list (vVar 0)))) (vBl (vOp vNeD (vF1 vLen (vVar 0)) (vF1 vLen (vVar 1)))))
  (vRet (vC (.bl false)))
  qbn)
 (vSeq (vFor (ql7 (vF1 vLen (vVar 1))) (qba 2)
  (vSeq (vSet 3 (vOp vIxR (vVar 0) (vVar 2)))
 (vSeq (vIfS (vOrT (qep (vBl (qkh .tuple (vVar 3)))) (vOrT (vBl (vOp vNeD (vF1 vLen (vVar 3)) (vC (.int 3)))) (qep (vBl (qkh .tuple (vOp vIxR (vVar 3) (vC (.int 0))))))))
  (vRet (vC (.bl false)))
  qbn)
 (vIfS (vOrT (qep (vBl (qkh .str (vOp vIxR (vVar 3) (vC (.int 1)))))) (vOrT (qep (vBl (qkh .str (vOp vIxR (vVar 3) (vC (.int 2)))))) (vBl (vOp vNeD (vVar 3) (vOp vIxR (vVar 1) (vVar 2))))))
  (vRet (vC (.bl false)))
  qbn))))
 (vRet (vC (.bl true)))))
abbrev q3g:List Str:=["_law_found","_law_due","_law_k","_law_row"]
theorem q6p:∀ds Q,g_same ds Q->qr5 (En Q) (qam q3g ds):=by
 rintro ds Q ⟨rs,rfl,hl,h⟩
 simp! only[vSeq,qr5,qak]
 refine⟨by omega,by omega,qhb (λi τ=>∃kv rv,τ=[some (.val (.lst (rs.map rowD))),some (.val (.lst (rs.map rowD))),kv,rv]) ⟨none,none,rfl⟩ ?_ ?_⟩
 ·rintro i τ hi ⟨kv,rv,rfl⟩ nx hnx
  simp! only[vSeq,true_and]
  obtain⟨y,hy,_⟩:=qkv (xs:=rs) (k:=(i:Int)) (by omega) (by omega)
  have hy2:atI (rs.map rowD) (i:Int)=some (rowD y):=by rw[qje,hy];rfl
  refine⟨_,hy2,?_⟩
  have e3:decide (((3:Nat):Int)=3)=true:=by decide
  have hy3:atI (rs.map rowD) (i:Int)=some (.tup [.tup (y.1.map D.str),.str y.2.1,.str y.2.2]):=hy2
  simp! only[vSeq,rowD,wayD]
  rw[e3]
  simp! only[vSeq,true_and]
  refine⟨_,hy3,cmpR y y,Nat.le_trans (depR y) (by decide),?_⟩
  simp only[qc5]
  exact hnx _ ⟨_,_,rfl⟩
 ·rintro τ ⟨kv,rv,rfl⟩
  simp! only[vSeq,true_and]
  exact h
theorem q31{p:Prop}[Decidable p]{A B:Prop}(h:¬ p)(b:B):if decide p=true then A else B:=by rw[if_neg (by rw[decide_eq_false h];decide)];exact b
def qe1:TVS:=(vSeq (vSet 2 (qx7 0 (qgp (qdg (vVar 1)) (qmd 3 (qcg (qba 3) (qcg (qba 4) (qcg (qba 5) qmc)))) (λ_ Q=>Q true) (vF1 vLen (vVar 3)) 3)))
 (vIfS (vBl (vOp vGt (vOp vAdd (vF1 vLen (vVar 0)) (vVar 2)) (vC (.int 12))))
  ql6
  qbn))
abbrev qim:List Str:=["way","below","deepest"]
theorem qit:∀ds Q,qbp ds Q->qe1 (En Q) (qam qim ds):=by
 rintro ds Q ⟨w,rs,rfl,hl,h1,h2⟩
 refine v_cut (λτ=>τ=[some (.val (wayD w)),some (.val (qak rs)),some (.val (.int (qgj rs)))]) ?_ λnx hnx=>?now
 case now =>
  dsimp! only[qak]
  refine qfc (λr=>.int r.1.length) rs (Nat.le_trans (show _<=1000 by omega) qan) (λr hr Y N hY=>?_) ?_
  ·dsimp! only[rowD,wayD]
   exact hY
  ·rfl'
   refine⟨rs.map λr=>(r.1.length:Int),by rw[List.map_map];rfl,λe=>?_,λm hm hx=>?_⟩
   ·have:rs=[]:=List.map_eq_nil_iff.mp e
    subst this
    exact hnx _ rfl
   ·have e:m=qgj rs:=by
     obtain⟨r,mr,er⟩:=List.mem_map.mp hm
     have g1:=qsh mr
     obtain⟨q,mq,eq⟩:=qsg (rs:=rs) (by rintro rfl;cases mr)
     have g2:=hx (q.1.length:Int) (List.mem_map.mpr ⟨q,mq,rfl⟩)
     omega
    subst e
    exact hnx _ rfl
 rintro τ rfl
 dsimp! only[wayD]
 exact q31 (by omega) h2
def qdj:TVS:=(vIfS (vBl (vOp vGt (vOp vAdd (vOp vAdd (vF1 vLen (vVar 0)) (vC (.int 1))) (vF1 vLen (vVar 1))) (vC (.int 60))))
  ql6
  qbn)
abbrev qil:List Str:=["tree","below"]
theorem qis:∀ds Q,qbo ds Q->qdj (En Q) (qam qil ds):=by
 rintro ds Q ⟨ts,rs,rfl,h1,h2⟩
 dsimp! only[qdj,qak]
 exact q31 (by omega) h2
def qfx:TVS:=(vRet (qia (qal qa4 (qaa (vVar 0) vNil)) (vVar 1)))
abbrev qp2:List Str:=["tree","way"]
theorem qrg:∀ds Q,qby ds Q->qfx (En Q) (qam qp2 ds):=by
 rintro ds Q ⟨ts,w,rfl,F,hw,h⟩
 have th:∀Y:R->Prop,Y (.own (qa1 (prsR ts)))->qa4 [qak ts] Y:=λY y=>⟨ts,rfl,F,y⟩
 dsimp! only[qfx]
 refine th _ ?_
 dsimp! only[qa1,wayD]
 refine⟨hw,?_⟩
 rw[qcz,qhi]
 exact h
def qg3:TVS:=(vSeq (qus (qal qbp (qaa (vVar 1) (qaa (vLst vNil) vNil))))
 (vSeq (qus (qal qbo (qaa (vVar 0) (qaa (vLst vNil) vNil))))
 (vRet (vTup (qaa (vVar 1) (qaa (vVar 2) (qaa (vLst vNil) vNil)))))))
abbrev qru:List Str:=["tree","way","thing"]
theorem qvh:∀ds Q,qdr ds Q->qg3 (En Q) (qam qru ds):=by
 rintro ds Q ⟨ts,g,b,rfl,N,h⟩
 have rd:∀Y:R->Prop,Y (.val .non)->qbp [wayD g,.lst []] Y:=λY y=>⟨g,[],rfl,by simp,by have:=N.gl;unfold qgj;omega,y⟩
 have rc:∀Y:R->Prop,Y (.val .non)->qbo [qak ts,.lst []] Y:=λY y=>⟨ts,[],rfl,N.sm,y⟩
 refine qbb ?_
 dsimp! only[qg3]
 refine rd _ ?_
 rfl'
 refine qbb ?_
 rfl'
 refine rc _ ?_
 rfl'
 exact⟨by decide,h⟩
theorem qpw:WayG []:=⟨by decide,λh=>by cases h⟩
theorem qc3{key key' t x t' x':Str}(h:qax key t x=qax key' t' x'):key=key'/\t=t'/\x=x':=by
 unfold qax at h
 have h:=D.tup.inj h
 simpa using h
def qbr:TVS:=(vSeq (vSet 2 (qeo qdn (qaa (vVar 0) (qaa (vTup vNil) (qaa (vOp vIxR (vVar 1) (vC (.int 1))) vNil)))))
 (vSeq (vSet 3 (qal qby (qaa (vVar 0) (qaa (vVar 2) vNil))))
 (vSeq (vIfS (vBl (vOp (vIsN id) (vVar 3) (vC .non)))
  (vRet (vLst (qaa (qal qdr (qaa (vVar 0) (qaa (vVar 2) (qaa (vTup (qaa (vC (.str ("file" : Str))) (qaa (vOp vIxR (vVar 1) (vC (.int 2))) vNil))) vNil)))) vNil)))
  qbn)
 (vSeq (vIfS (vBl (vOp vEq (vOp vIxR (vVar 3) (vC (.int 0))) (vC (.str ("folder" : Str)))))
  (qd7 "IsFolder" (qaa (vC (.str ("a folder lies there" : Str))) vNil))
  qbn)
 (vRet (vLst (qaa (vTup (qaa (vVar 2) (qaa (vTup (qaa (vC (.str ("file" : Str))) (qaa (vOp vIxR (vVar 1) (vC (.int 2))) vNil))) (qaa (vLst vNil) vNil)))) vNil)))))))
abbrev qgv:List Str:=["tree","deed","way","thing"]
theorem qii:∀ds Q,qbh ds Q->qbr (EnX Q) (qam qgv ds):=by
 rintro ds Q ⟨ts,t,x,r,rfl,D0,h⟩
 have gl:∀(g:List Str) (_:TrP ts t x) (_:qrj ts t g) (Y:R->Prop),Y (.val (wayD g))->qdn [qak ts,.tup [],.str t] Y:=λg T P Y y=>⟨ts,[],t,rfl,T.ft,qpw,T.tl,T.rt,λres hr=>by
  obtain⟨tr,f,rfl⟩:=P.2 res hr
  exact y⟩
 have th:∀(g:List Str) (o:D) (_:TrP ts t x) (_:qrj ts t g) (_:qlp ts g=o) (Y:R->Prop),Y (.val o)->qby [qak ts,wayD g] Y:=λg o T P e Y y=>⟨ts,g,rfl,T.ft,P.1,by rw[e];exact y⟩
 generalize hd:qax "write" t x=d at D0
 cases D0 with
|@new t' x' g T P N =>
  obtain⟨_,rfl,rfl⟩:=qc3 hd
  have pn:∀Y:R->Prop,Y (.val (chgD (g,some ((qbe,x),[]))))->qdr [qak ts,wayD g,.tup [.str (Str.ofString "file"),.str x]] Y:=λY y=>⟨ts,g,(qbe,x),rfl,N,y⟩
  refine qbb ?_
  dsimp! only[qbr,qax]
  refine gl g T P _ ?_
  rfl'
  refine qbb ?_
  rfl'
  refine th g .non T P (by unfold qlp;rw[N.lk];rfl) _ ?_
  rfl'
  refine qbb ?_
  rfl'
  refine⟨by decide,pn _ ?_⟩
  rfl'
  exact⟨by decide,h⟩
|@write t' x' g m y T P l n =>
  obtain⟨_,rfl,rfl⟩:=qc3 hd
  refine qbb ?_
  dsimp! only[qbr,qax]
  refine gl g T P _ ?_
  rfl'
  refine qbb ?_
  rfl'
  refine th g (thD (m,y)) T P (by unfold qlp;rw[l];rfl) _ ?_
  dsimp! only[thD]
  refine qbb ?_
  rfl'
  refine iteF ?_
  refine qbb ?_
  rfl'
  rw[decide_eq_false (show ¬ m=Str.ofString "folder" from n)]
  refine iteF ?_
  rfl'
  exact⟨by decide,by decide,by decide,h⟩
|@fold t' x' g y T P l =>
  obtain⟨_,rfl,rfl⟩:=qc3 hd
  refine qbb ?_
  dsimp! only[qbr,qax]
  refine gl g T P _ ?_
  rfl'
  refine qbb ?_
  rfl'
  refine th g (thD (qah,y)) T P (by unfold qlp;rw[l];rfl) _ ?_
  dsimp! only[thD]
  refine qbb ?_
  rfl'
  refine iteF ?_
  refine qbb ?_
  rfl'
  exact⟨by decide,h⟩
|add=>exact absurd (qc3 hd).1 (by decide)
|addf=>exact absurd (qc3 hd).1 (by decide)
|miss=>exact absurd (qc3 hd).1 (by decide)
def qcd:TVS:=(vSeq (vSet 2 (qeo qc8 (qaa (vVar 0) (qaa (vTup vNil) (qaa (vOp vIxR (vVar 1) (vC (.int 1))) vNil)))))
 (vSeq (vSet 3 (qal qby (qaa (vVar 0) (qaa (vVar 2) vNil))))
 (vSeq (vIfS (vBl (vOp vEq (vOp vIxR (vVar 3) (vC (.int 0))) (vC (.str ("folder" : Str)))))
  (qd7 "IsFolder" (qaa (vC (.str ("a folder lies there" : Str))) vNil))
  qbn)
 (vRet (vLst (qaa (vTup (qaa (vVar 2) (qaa (vTup (qaa (vC (.str ("file" : Str))) (qaa (vOp vAdd (vOp vIxR (vVar 3) (vC (.int 1))) (vOp vIxR (vVar 1) (vC (.int 2)))) vNil))) (qaa (vLst vNil) vNil)))) vNil))))))
abbrev qjd:List Str:=["tree","deed","way","thing"]
theorem qkp:∀ds Q,qbw ds Q->qcd (EnX Q) (qam qjd ds):=by
 rintro ds Q ⟨ts,t,x,r,rfl,D0,h⟩
 have fw:∀(_:TrP ts t x) (Y:R->Prop),(∀res,qgc ts [] t res->Y (wayR res))->qc8 [qak ts,.tup [],.str t] Y:=λT Y y=>⟨ts,[],t,rfl,T.ft,qpw,T.tl,y⟩
 have th:∀(g:List Str) (o:D) (_:TrP ts t x) (_:qzp ts t g) (_:qlp ts g=o) (Y:R->Prop),Y (.val o)->qby [qak ts,wayD g] Y:=λg o T P e Y y=>⟨ts,g,rfl,T.ft,P.1,by rw[e];exact y⟩
 generalize hd:qax "add" t x=d at D0
 cases D0 with
|new=>exact absurd (qc3 hd).1 (by decide)
|write=>exact absurd (qc3 hd).1 (by decide)
|fold=>exact absurd (qc3 hd).1 (by decide)
|@add t' x' g m y T P l n yl =>
  obtain⟨_,rfl,rfl⟩:=qc3 hd
  have xl:=T.xl
  have s1000:10000<=sizeLine:=by decide
  refine qbb ?_
  dsimp! only[qcd,qax]
  refine fw T _ λres hr=>?_
  obtain⟨tr,f,rfl⟩:=P.2 res hr
  dsimp! only[wayR]
  refine qbb ?_
  rfl'
  refine th g (thD (m,y)) T P (by unfold qlp;rw[l];rfl) _ ?_
  dsimp! only[thD]
  refine qbb ?_
  rfl'
  rw[decide_eq_false (show ¬ m=Str.ofString "folder" from n)]
  refine iteF ?_
  rfl'
  exact⟨by lia,by decide,by decide,by decide,h⟩
|@addf t' x' g y T P l =>
  obtain⟨_,rfl,rfl⟩:=qc3 hd
  refine qbb ?_
  dsimp! only[qcd,qax]
  refine fw T _ λres hr=>?_
  obtain⟨tr,f,rfl⟩:=P.2 res hr
  dsimp! only[wayR]
  refine qbb ?_
  rfl'
  refine th g (thD (qah,y)) T P (by unfold qlp;rw[l];rfl) _ ?_
  dsimp! only[thD]
  refine qbb ?_
  rfl'
  exact⟨by decide,h⟩
|@miss t' x' T P =>
  obtain⟨_,rfl,rfl⟩:=qc3 hd
  refine qbb ?_
  dsimp! only[qcd,qax]
  refine fw T _ λres hr=>?_
  rw[P res hr]
  dsimp! only[wayR]
  exact h
def qec:TVS:=(vRet (vTab [("write" : Str),("add" : Str)] (λz=>if z=("write" : Str) then qbh else if z=("add" : Str) then qbw else λ_ _=>False) (vOp vIxR (vVar 1) (vC (.int 0))) (qaa (vVar 0) (qaa (vVar 1) vNil))))
abbrev qkt:List Str:=["tree","deed"]
theorem qmg:∀ds Q,qb8 ds Q->qec (EnX Q) (qam qkt ds):=by
 rintro ds Q ⟨ts,key,t,x,r,rfl,hk,D0,h⟩
 have dd:∀(k:Str) (Y:R->Prop),key=k->chgQ Y r->qsy k [qak ts,qax key t x] Y:=λk Y e y=>⟨ts,t,x,r,by rw[e],by rw[←e];exact D0,y⟩
 have fin:∀Y:R->Prop,chgQ (λr=>exS [some (R.val (qak ts)),some (R.val (qax key t x))] (EnX Q) r (pubR r λ_=>Q r)) r:=λ_=>by
  cases r with
 |ok c=>exact h
 |error n=>exact h
 dsimp! only[qec,qax]
 rcases hk with rfl|rfl
 ·exact⟨_,List.mem_cons_self,rfl,by rw[if_pos rfl];exact dd _ _ rfl (fin λ_=>True)⟩
 ·exact⟨_,List.mem_cons_of_mem _ List.mem_cons_self,rfl,by rw[if_neg (by decide),if_pos rfl];exact dd _ _ rfl (fin λ_=>True)⟩
def qkw:TVS:=(vSeq (vFor (qdg (vVar 1)) (qmd 3 (qcg (qba 2) (qcg (qba 3) (qcg (qba 4) qmc))))
  (qx9 0 (vIfN (vBl (vOp (vIsN id) (vVar 3) (vC .non))) (vNew (qal qcy (qaa (vVar 0) (qaa (vVar 2) vNil)))) (vNew (qal qdo (qaa (vVar 0) (qaa (vVar 2) (qaa (vVar 3) (qaa (vVar 4) vNil)))))))))
 (qpi (quv 0)))
abbrev qrn:List Str:=["tree","changes","way","thing","below"]
theorem qva:∀ds Q,qee ds Q->qkw (EnN Q) (qam qrn ds):=by
 rintro ds Q ⟨ts,g,b,rfl,G,h⟩
 have gr:∀Y:R->Prop,(∀xs:List Row,xs.Perm (qb9 ts g b [])->qbf xs->Y (.own (qak xs)))->qdo [qak ts,wayD g,.tup [.str b.1,.str b.2],.lst []] Y:=λY y=>⟨ts,g,b,[],rfl,G.nd,G.nb,G.bl,G.tl,G.ll,G.gl,G.len,y⟩
 refine v_cut (λτ=>∃us a1 a2 a3 a4,Q (.val (qak us))/\τ=[some (.peek (qak us)),a1,a2,a3,a4]) ?_ λnx hnx=>?now
 case now =>
  dsimp! only[qzz,forW,chgD,thD,qak]
  refine iteF (gr _ λxs p1 p2=>?_)
  dsimp! only[qak,forW]
  exact⟨qsx xs,hnx _ ⟨xs,_,_,_,_,h xs p1 p2,rfl⟩⟩
 rintro τ ⟨us,a1,a2,a3,a4,hq,rfl⟩
 simp! only[vSeq,qak]
 exact hq
def qr0:TVS:=(qki qee (qaa (vVar 0) (qaa (qeo qb8 (qaa (vVar 0) (qaa (vVar 1) vNil))) vNil)))
abbrev q3d:List Str:=["tree","deed"]
theorem q6n:∀ds Q,qix ds Q->qr0 (EnNX Q) (qam q3d ds):=by
 rintro ds Q ⟨ts,key,t,x,r,rfl,hk,D0,h⟩
 have co:∀Y:R->Prop,chgQ Y r->qb8 [qak ts,qax key t x] Y:=λY y=>⟨ts,key,t,x,r,rfl,hk,D0,y⟩
 dsimp! only[qr0]
 refine co _ ?_
 cases r with
|error n =>
  show _
  unfold chgQ
  rfl'
  exact h
|ok c =>
  obtain⟨g,o⟩:=c
  rcases o with _|⟨b,below⟩
  ·exact h.elim
  cases below with
 |cons _ _=>exact h.elim
 |nil =>
   unfold chgQ
   rfl'
   exact⟨ts,g,b,rfl,h.1,h.2⟩
def qmm:TVS:=(vTry (qpj (vC (.str ("" : Str))) qix (qaa (vVar 0) (qaa (vVar 1) vNil)))
  (qpp ["IsFolder"] ["NoWay","TooDeep","Crowded","Astray","Missing","NotFolder","NoPlace"] (vRet (vTup (qaa (vC (.str ("IsFolder" : Str))) (qaa (vC .non) vNil)))) (qpp ["Missing"] ["NoWay","TooDeep","Crowded","Astray","NotFolder","NoPlace","IsFolder"] (vRet (vTup (qaa (vC (.str ("Missing" : Str))) (qaa (vC .non) vNil)))) (qpp ["NoWay","TooDeep","Crowded","Astray","Missing","NotFolder","NoPlace","IsFolder"] [] (vRet (vTup (qaa (vC (.str ("other" : Str))) (qaa (vC .non) vNil)))) q6i))))
abbrev qzr:List Str:=["_law_tree","_law_deed"]
theorem q24:∀ds Q,qda ds Q->qmm (EnN Q) (qam qzr ds):=by
 rintro ds Q ⟨ts,key,t,x,r,rfl,hk,D0,h⟩
 have dn:∀Y:R->Prop,qmt ts (λus=>Y (.val (qak us))) (λn=>Y (.exc n)) r->qix [qak ts,qax key t x] Y:=λY y=>⟨ts,key,t,x,r,rfl,hk,D0,y⟩
 have er:∀n,r=.error n->n="IsFolder" \/ n="Missing" := λn e=>by
  cases D0<;>cases e
  ·exact .inl rfl
  ·exact .inl rfl
  ·exact .inr rfl
 have fl:∀z:Str,qmv [D.str z,D.non]:=λz d hd=>by
  rcases List.mem_cons.mp hd with rfl|hd
  ·exact True.intro
  ·rcases List.mem_singleton.mp hd with rfl
   exact True.intro
 dsimp! only[qmm]
 refine⟨λd hd=>by rcases List.mem_singleton.mp hd with rfl;exact True.intro,dn _ ?_⟩
 cases r with
|error n =>
  rcases er n rfl with rfl|rfl
  ·refine .inl ⟨by decide,?_⟩
   dsimp! only[VEnds.calm,EnN,qin]
   exact⟨by decide,fl _,h⟩
  ·refine .inr ⟨by decide,.inl ⟨by decide,?_⟩⟩
   dsimp! only[VEnds.calm,EnN,qin]
   exact⟨by decide,fl _,h⟩
|ok c =>
  obtain⟨g,o⟩:=c
  rcases o with _|⟨b,below⟩
  ·exact h.elim
  cases below with
 |cons _ _=>exact h.elim
 |nil=>exact⟨h.1,λus p1 p2=>h.2 us p1 p2⟩
def qr4:TVS:=(vRet (qgp (qdg (vF1 qe8 (vF1 ql5 (vVar 0)))) (qba 1) (λ_ Q=>Q true) (vTup (qaa (vVar 1) (qaa (vOp vIxR (qn9 (vVar 0) (vVar 1)) (vC (.int 0))) (qaa (vOp vIxR (qn9 (vVar 0) (vVar 1)) (vC (.int 1))) vNil)))) 1))
abbrev q3f:List Str:=["_law_things"]
theorem q6o:∀ds Q,qgg ds Q->qr4 (En Q) (qam q3f ds):=by
 rintro ds Q ⟨rs,rfl,nd,wy,hlen,h⟩
 simp! only[vSeq,qr4,qa1]
 have ek:(((rs.map prR).map (·.1)).map λw=>D.tup (w.map D.str))=(rs.map (·.1)).map wayD:=by
  rw[List.map_map,List.map_map,List.map_map]
  rfl
 refine⟨?_,?_,λds hp hs=>?_⟩
 ·rw[ek]
  exact qq5 nd
 ·(first|omega|(simp only[List.length_map];omega))
 ·rw[ek] at hp
  obtain⟨vs,rfl,hv,hso⟩:=qvo hp hs
  have hvl:vs.length=rs.length:=by rw[hv.length_eq,List.length_map]
  refine qfc (λw=>rowD (w,lkR rs w)) vs (Nat.le_trans (show _<=1000 by omega) qan) (λw mw Y N hY=>?_) ?_
  ·have mw':=hv.mem_iff.mp mw
   simp! only[vSeq,wayD]
   have wk:("" : Str)∉w:=by
    obtain⟨r,mr,er⟩:=List.mem_map.mp mw'
    rw[←er]
    exact wy r mr
   refine⟨wk,thD (lkR rs w),by rw[qcz];exact qtg nd mw',?_⟩
   simp! only[vSeq,thD]
   refine⟨wk,thD (lkR rs w),by rw[qcz];exact qtg nd mw',?_⟩
   simp! only[vSeq,thD]
   exact⟨by decide,hY⟩
  ·simp! only[vSeq,true_and]
   have e:vs.map (λw=>rowD (w,lkR rs w))=(vs.map λw=>(w,lkR rs w)).map rowD:=by rw[List.map_map];rfl
   rw[e]
   obtain⟨p1,p2⟩:=ql0 nd hv hso
   exact h _ p1 p2
def qky:TVS:=(vSeq (qib 4 qpg)
 (vSeq (vFor (ql7 (vF1 vLen (vVar 1))) (qba 5)
  (qir 4 (qd8 (vVar 1) qdd (qf7 (vOp vAdd (vVar 5) (vC (.int 1))))) (vTup (qaa (vC (.str ("folder" : Str))) (qaa (vC (.str ("" : Str))) vNil)))))
 (vSeq (qir 4 (vOp vAdd (vVar 1) (vTup (qaa (vOp vIxR (vVar 0) (vC (.int 4))) vNil))) (vTup (qaa (vC (.str ("file" : Str))) (qaa (vC (.str ("beside" : Str))) vNil))))
 (vSeq (qir 4 (vOp vAdd (vVar 1) (vTup (qaa (vOp vIxR (vVar 0) (vC (.int 5))) vNil))) (vTup (qaa (vC (.str ("file" : Str))) (qaa (vC (.str ("at first" : Str))) vNil))))
 (vSeq (vSet 6 (vOp vIxR (vVar 0) (vC (.int 5))))
 (vSeq (vFor (ql7 (vVar 2)) (qba 5)
  (vSeq (vSet 7 (vTup (qaa (vVar 6) (qaa (vOp vAdd (vC (.str ("./" : Str))) (vVar 6)) (qaa (vOp vAdd (vC (.str ("/" : Str))) (qoa (vC (.str ("/" : Str))) (vOp vAdd (vVar 1) (vTup (qaa (vVar 6) vNil))))) (qaa (vOp vAdd (vOp qut (vC (.str ("../" : Str))) (vF1 vLen (vVar 1))) (qoa (vC (.str ("/" : Str))) (vOp vAdd (vVar 1) (vTup (qaa (vVar 6) vNil))))) vNil))))))
 (vSeq (qir 4 (vOp vAdd (vVar 1) (vTup (qaa (vOp vIxR (vVar 0) (vOp vAdd (vC (.int 6)) (vVar 5))) vNil))) (vTup (qaa (vC (.str ("link" : Str))) (qaa (vOp vIxR (vVar 7) (qal qbs (qaa (vOp vAdd (vVar 3) (vVar 5)) (qaa (vC (.int 3)) (qaa (vC (.int 4)) vNil))))) vNil))))
 (vIfS (vBl (vOp vGt (qal qbs (qaa (vOp vAdd (vVar 3) (vVar 5)) (qaa (vC (.int 4)) (qaa (vC (.int 3)) vNil)))) (vC (.int 0))))
  (vSet 6 (vOp vIxR (vVar 0) (vOp vAdd (vC (.int 6)) (vVar 5))))
  qbn))))
 (qob 4)))))))
abbrev qrv:List Str:=["_law_names_here","_law_base","_law_count","_law_some","_law_things","_law_k","_law_to","_law_ways"]
theorem qvi:∀ds Q,qef ds Q->qky (En Q) (qam qrv ds):=by
 rintro ds Q ⟨zs,n,m,c,rfl,nd,nm,zl,n3,m8,h⟩
 obtain⟨base,eb⟩:∃base,base=zs.take n:=⟨_,rfl⟩
 have bl:base.length=n:=by rw[eb,List.length_take];omega
 have bn:∀z∈base,nmB z=true:=λz hz=>nm z (List.mem_of_mem_take (by rw[←eb];exact hz))
 have bne:("" : Str)∉base:=λq=>qoh (qd3 (bn _ q)) rfl
 have nmi:∀i,i<25->nmB (zs.getD i "")=true:=λi hi=>nm _ (by rw[getD_at (by omega)];exact List.getElem_mem _)
 have nez:∀i,i<25->("" : Str)∉base++[zs.getD i ""]:=λi hi q=>(List.mem_append.mp q).elim bne λq=>qoh (qd3 (List.mem_singleton.mp q▸nmi i hi)) rfl
 have at_:∀i:Nat,i<25->atI (zs.map D.str) (i:Int)=some (.str (zs.getD i "")):=λi hi=>by rw[qje,qjf (List.getElem?_eq_getElem (by omega)),getD_at (by omega)];rfl
 have at':∀i:Nat,i<25->(zs.map D.str)[i]?=some (.str (zs.getD i "")):=λi hi=>by rw[List.getElem?_map,List.getElem?_eq_getElem (by omega),getD_at (by omega)];rfl
 rw[←eb]
 refine v_cut (λτ=>τ=[some (.val (qcc zs)),some (.val (wayD base)),some (.val (.int m)),some (.val (.int c)),some (.own (qa1 ((qca base 0).map prR))),none,none,none]) ?_ λnx hnx=>?now
 case now =>
  rfl'
  exact hnx _ rfl
 rintro τ rfl
 refine v_cut (λτ=>∃a5:Option R,τ=[some (.val (qcc zs)),some (.val (wayD base)),some (.val (.int m)),some (.val (.int c)),some (.own (qa1 ((qca base n).map prR))),a5,none,none]) ?_ λnx hnx=>?now
 case now =>
  dsimp! only[wayD]
  refine⟨by omega,by omega,qhb (λi τ=>∃a5:Option R,τ=[some (.val (qcc zs)),some (.val (wayD base)),some (.val (.int m)),some (.val (.int c)),some (.own (qa1 ((qca base i).map prR))),a5,none,none]) ⟨none,rfl⟩ ?_ ?_⟩
  ·rintro i τ hi ⟨a8,rfl⟩ nx2 hnx2
   have hi':i<base.length:=by omega
   have ct:cutL base none (some ((i:Int)+1))=base.take (i+1):=qfe base (i+1)
   dsimp! only[qa1,wayD]
   rw[ct]
   refine⟨by decide,λq=>bne (List.mem_of_mem_take q),Nat.lt_of_lt_of_le (show _<1000 by rw[qej];omega) qan,?_⟩
   rw[qcm,show D.tup [D.str (Str.ofString "folder"),D.str (Str.ofString "")]=.tup [.str qah,.str qa8] from rfl,qjr (qly hi'),←qi7]
   exact hnx2 _ ⟨_,rfl⟩
  ·rintro τ ⟨a8,rfl⟩
   rw[show ((base.length:Int)).toNat=n by omega]
   exact hnx _ ⟨a8,rfl⟩
 rintro τ ⟨a5,rfl⟩
 have f1:∀i,base++[zs.getD i ""]∉(qca base n).map (·.1):=λi=>by rw[eb];exact qiv
 have f2:base++[zs.getD 5 ""]∉(qca base n++[(base++[zs.getD 4 ""],qbe,("beside" : Str))]).map (·.1):=by rw[eb];exact qiw nd (by omega) (by omega) (by decide) qiv
 refine v_cut (λτ=>τ=[some (.val (qcc zs)),some (.val (wayD base)),some (.val (.int m)),some (.val (.int c)),some (.own (qa1 ((qca base n++[(base++[zs.getD 4 ""],qbe,("beside" : Str))]).map prR))),a5,none,none]) ?_ λnx hnx=>?now
 case now =>
  dsimp! only[qa1,wayD,qcc]
  refine⟨by decide,_,at' 4 (by decide),by decide,Nat.le_trans (show _<=1000 by omega) qan,base++[zs.getD 4 ""],by rw[List.map_append];rfl,nez 4 (by decide),Nat.lt_of_lt_of_le (show _<1000 by rw[qej];omega) qan,?_⟩
  rw[qcm,show D.tup [D.str (Str.ofString "file"),D.str (Str.ofString "beside")]=.tup [.str qbe,.str ("beside" : Str)] from rfl,qjr (f1 4)]
  exact hnx _ rfl
 rintro τ rfl
 refine v_cut (λτ=>τ=[some (.val (qcc zs)),some (.val (wayD base)),some (.val (.int m)),some (.val (.int c)),some (.own (qa1 ((qca base n++[(base++[zs.getD 4 ""],qbe,("beside" : Str))]++[(base++[zs.getD 5 ""],qbe,("at first" : Str))]).map prR))),a5,none,none]) ?_ λnx hnx=>?now
 case now =>
  dsimp! only[qa1,wayD,qcc]
  refine⟨by decide,_,at' 5 (by decide),by decide,Nat.le_trans (show _<=1000 by omega) qan,base++[zs.getD 5 ""],by rw[List.map_append];rfl,nez 5 (by decide),Nat.lt_of_lt_of_le (show _<1000 by rw[List.length_append,qej,List.length_singleton];omega) qan,?_⟩
  rw[qcm,show D.tup [D.str (Str.ofString "file"),D.str (Str.ofString "at first")]=.tup [.str qbe,.str ("at first" : Str)] from rfl,qjr f2]
  exact hnx _ rfl
 rintro τ rfl
 obtain⟨pre,ep⟩:∃pre,pre=qca base n++[(base++[zs.getD 4 ""],qbe,("beside" : Str))]++[(base++[zs.getD 5 ""],qbe,("at first" : Str))]:=⟨_,rfl⟩
 have pl:pre.length<=5:=by rw[ep,List.length_append,List.length_append,qej,List.length_singleton,List.length_singleton];omega
 have fp:∀i,6<=i->i<25->base++[zs.getD i ""]∉pre.map (·.1):=λi h6 h25=>by
  rw[ep,eb]
  exact qiw nd (by omega) (by omega) (by omega) (qiw nd (by omega) (by omega) (by omega) qiv)
 rw[←ep]
 refine v_cut (λτ=>τ=[some (.val (qcc zs)),some (.val (wayD base)),some (.val (.int m)),some (.val (.int c)),some (.own (qa1 (pre.map prR))),a5,some (.val (.str (zs.getD 5 ""))),none]) ?_ λnx hnx=>?now
 case now =>
  dsimp! only[qcc]
  exact⟨_,at' 5 (by decide),hnx _ rfl⟩
 rintro τ rfl
 refine v_cut (λτ=>∃(tx:Nat->Str) (i0:Nat) (b5 b7:Option R),(∀k,k<m->∃j,j<=k/\TxOk base [zs.getD (5+j) ""] (tx k))/\τ=[some (.val (qcc zs)),some (.val (wayD base)),some (.val (.int m)),some (.val (.int c)),some (.own (qa1 ((pre++qcj base (zs.drop 6) tx m).map prR))),b5,some (.val (.str (zs.getD (5+i0) ""))),b7]) ?_ λnx hnx=>?now
 case now =>
  rfl'
  refine⟨by omega,by omega,qhb (λi τ=>∃(tx:Nat->Str) (i0:Nat) (b5 b7:Option R),(i0<=i/\∀k,k<i->∃j,j<=k/\TxOk base [zs.getD (5+j) ""] (tx k))/\τ=[some (.val (qcc zs)),some (.val (wayD base)),some (.val (.int m)),some (.val (.int c)),some (.own (qa1 ((pre++qcj base (zs.drop 6) tx i).map prR))),b5,some (.val (.str (zs.getD (5+i0) ""))),b7]) ⟨λ_=>"",0,a5,none,⟨Nat.le_refl _,λk hk=>absurd hk (Nat.not_lt_zero _)⟩,by unfold qcj;rw[List.range_zero,List.map_nil,List.append_nil]⟩ ?_ ?_⟩
  ·rintro i τ hi ⟨tx,i0,b5,b7,⟨h0,ht⟩,rfl⟩ nx2 hnx2
   have hi':i<m:=by omega
   have z1:=nmi (5+i0) (by omega)
   have l1:=(qhl z1).2
   obtain⟨x1,x2,x3,x4⟩:=q2r bn (by omega) z1
   obtain⟨z,ez⟩:∃z,z=zs.getD (5+i0) "" := ⟨_,rfl⟩
   rw[←ez] at z1 l1 x1 x2 x3 x4 ⊢
   have s4:(Str.ofString "/").length=1:=qds
   have bw1:∀y∈base++[z],wdB y=true:=λy q=>(List.mem_append.mp q).elim (λq=>qd3 (bn y q)) λe=>by rw[List.mem_singleton.mp e];exact qd3 z1
   have g1:=qjo bw1
   have s1:=ql2 bw1
   rw[List.length_append,List.length_singleton] at g1 s1
   refine v_cut (λτ=>τ=[some (.val (qcc zs)),some (.val (wayD base)),some (.val (.int m)),some (.val (.int c)),some (.own (qa1 ((pre++qcj base (zs.drop 6) tx i).map prR))),some (.val (.int i)),some (.val (.str z)),some (.val (.tup ([z,Str.ofString "./" ++ z,Str.ofString "/" ++ glue "/" (base++[z]),Txt.mul (Str.ofString "../") (base.length:Int)++glue "/" (base++[z])].map D.str)))]) ?_ ?nwb
   case nwb =>
    intro nx3 hnx3
    dsimp! only[wayD]
    have s5:(Str.ofString "./").length=2:=by decide +kernel
    have lm:(Txt.mul (Str.ofString "../") (base.length:Int)).length<=9/\MulOk (Str.ofString "../") (base.length:Int):=by
     obtain e|e|e|e:base.length=0\/base.length=1\/base.length=2\/base.length=3:=by omega
     all_goals rw[e];exact⟨by decide +kernel,by unfold MulOk;decide +kernel⟩
    exact⟨Nat.le_trans (show _<=1000 by omega) qan,by decide,Nat.le_trans (show _<=1000 by omega) qan,base++[z],.inr rfl,by rw[s4,List.length_append,List.length_singleton];omega,Nat.le_trans (show _<=1000 by rw[s4];omega) qan,lm.2,by decide,Nat.le_trans (show _<=1000 by omega) qan,base++[z],.inr rfl,by rw[s4,List.length_append,List.length_singleton];omega,Nat.le_trans (show _<=1000 by omega) qan,by decide,hnx3 _ rfl⟩
   rintro τ rfl
   have mx:∀(c k n:Int) (Y:R->Prop),0<=k->0<n->(∀i,0<=i->i<n->Y (.val (.int i)))->qbs [.int c,.int k,.int n] Y:=λc k n Y hk hn y=>⟨c,k,n,rfl,hk,hn,λi h0 h1 _=>y i h0 h1⟩
   have nw:base++[zs.getD (6+i) ""]∉(pre++qcj base (zs.drop 6) tx i).map (·.1):=λq=>by
    rw[List.map_append] at q
    refine(List.mem_append.mp q).elim (fp (6+i) (by omega) (by omega)) λq=>?_
    rw[←qjl (by omega)] at q
    exact qln (nd.sublist (List.drop_sublist ..)) (by rw[List.length_drop];omega) q
   refine v_cut (λτ=>∃t,TxOk base [z] t/\τ=[some (.val (qcc zs)),some (.val (wayD base)),some (.val (.int m)),some (.val (.int c)),some (.own (qa1 ((pre++qcj base (zs.drop 6) tx i++[(base++[zs.getD (6+i) ""],qbz,t)]).map prR))),some (.val (.int i)),some (.val (.str z)),some (.val (.tup ([z,Str.ofString "./" ++ z,Str.ofString "/" ++ glue "/" (base++[z]),Txt.mul (Str.ofString "../") (base.length:Int)++glue "/" (base++[z])].map D.str)))]) ?_ ?nwc
   case nwc =>
    intro nx3 hnx3
    dsimp! only[wayD,qcc,qa1]
    refine mx _ _ _ _ (by decide) (by decide) λj j0 j1=>?_
    have ix:∃t,atI [D.str z,D.str (Str.ofString "./" ++ z),D.str (Str.ofString "/" ++ glue (Str.ofString "/") (base++[z])),D.str (Txt.mul (Str.ofString "../") (base.length:Int)++glue (Str.ofString "/") (base++[z]))] j=some (.str t)/\TxOk base [z] t:=by
     obtain rfl|rfl|rfl|rfl:j=0\/j=1\/j=2\/j=3:=by omega
     ·exact⟨_,rfl,x1⟩
     ·exact⟨_,rfl,x2⟩
     ·exact⟨_,rfl,x3⟩
     ·exact⟨_,rfl,x4⟩
    obtain⟨t,e1,ht1⟩:=ix
    rfl'
    refine⟨_,e1,?_⟩
    rfl'
    refine⟨by decide,_,(show atI (zs.map D.str) (6+(i:Int))=some (.str (zs.getD (6+i) "")) by rw[show 6+(i:Int)=((6+i:Nat):Int) by omega];exact at_ (6+i) (by omega)),by decide,Nat.le_trans (show _<=1000 by omega) qan,base++[zs.getD (6+i) ""],by rw[List.map_append];rfl,nez (6+i) (by omega),Nat.lt_of_lt_of_le (show _<1000 by rw[List.length_append,qlm];omega) qan,?_⟩
    rw[qcm,show D.tup [D.str (Str.ofString "link"),D.str t]=.tup [.str qbz,.str t] from rfl,qjr nw]
    exact hnx3 _ ⟨t,ht1,rfl⟩
   rintro τ ⟨t,ht1,rfl⟩
   have fin:∀(i1:Nat) (b7:Option R),i1<=i+1->nx2 [some (.val (qcc zs)),some (.val (wayD base)),some (.val (.int m)),some (.val (.int c)),some (.own (qa1 ((pre++qcj base (zs.drop 6) tx i++[(base++[zs.getD (6+i) ""],qbz,t)]).map prR))),some (.val (.int i)),some (.val (.str (zs.getD (5+i1) ""))),b7]:=λi1 b7 hi1=>by
    have ec:qcj base (zs.drop 6) (λk=>if k=i then t else tx k) i=qcj base (zs.drop 6) tx i:=qnb λk hk=>if_neg (by omega)
    have en:qcj base (zs.drop 6) (λk=>if k=i then t else tx k) (i+1)=qcj base (zs.drop 6) tx i++[(base++[(zs.drop 6).getD i ""],qbz,t)]:=by
     rw[qi2,ec,if_pos rfl]
    rw[List.append_assoc,←qjl (by omega),←en]
    refine hnx2 _ ⟨λk=>if k=i then t else tx k,i1,_,_,⟨hi1,λk hk=>?_⟩,rfl⟩
    show ∃j,j<=k/\TxOk base _ (if k=i then t else tx k)
    by_cases e:k=i
    ·rw[if_pos e]
     exact⟨i0,by omega,by rw[←ez];exact ht1⟩
    ·rw[if_neg e]
     exact ht k (by omega)
   refine v_if (λ_=>True) (λY y=>?tst) (λ_=>?yes) λ_=>?no
   case tst =>
    rfl'
    refine mx _ _ _ _ (by decide) (by decide) λj j0 j1=>?_
    rfl'
    exact y _ trivial
   case yes =>
    dsimp! only[qcc]
    refine⟨_,(show atI (zs.map D.str) (6+(i:Int))=some (.str (zs.getD (6+i) "")) by rw[show 6+(i:Int)=((6+i:Nat):Int) by omega];exact at_ (6+i) (by omega)),?_⟩
    rfl'
    have:=fin (i+1) (some (.val (.tup ([z,Str.ofString "./" ++ z,Str.ofString "/" ++ glue "/" (base++[z]),Txt.mul (Str.ofString "../") (base.length:Int)++glue "/" (base++[z])].map D.str)))) (Nat.le_refl _)
    rw[show 5+(i+1)=6+i by omega] at this
    exact this
   case no =>
    rfl'
    have:=fin i0 (some (.val (.tup ([z,Str.ofString "./" ++ z,Str.ofString "/" ++ glue "/" (base++[z]),Txt.mul (Str.ofString "../") (base.length:Int)++glue "/" (base++[z])].map D.str)))) (by omega)
    rw[←ez] at this
    exact this
  ·rintro τ ⟨tx,i0,b5,b7,⟨_,ht⟩,rfl⟩
   exact hnx _ ⟨tx,i0,b5,b7,ht,rfl⟩
 rintro τ ⟨tx,i0,b5,b7,ht,rfl⟩
 simp! only[vSeq,true_and]
 have:=h tx ⟨nd,nm,zl,n3,m8,λk hk=>by rw[←eb];exact ht k hk⟩
 unfold room at this
 rw[←eb,←ep] at this
 exact this
def qr1:TVS:=(vSeq (vIfS (qkg (vBl (vOp vNeD (vVar 1) (vC (.str ("" : Str))))) (vBl (vOp vNeD (vOp vIxR (qal qda (qaa (vVar 0) (qaa (vTup (qaa (vC (.str ("write" : Str))) (qaa (vVar 1) (qaa (vC (.str ("a" : Str))) vNil)))) vNil))) (vC (.int 0))) (vC (.str ("IsFolder" : Str))))))
  (vRet (vC (.bl false)))
  qbn)
 (vSeq (vIfS (vBl (vOp vNeD (vOp vIxR (qal qda (qaa (vVar 0) (qaa (vTup (qaa (vC (.str ("add" : Str))) (qaa (vOp vAdd (vC (.str ("/" : Str))) (vVar 1)) (qaa (vC (.str ("a" : Str))) vNil)))) vNil))) (vC (.int 0))) (vC (.str ("IsFolder" : Str)))))
  (vRet (vC (.bl false)))
  qbn)
 (vSeq (vIfS (vBl (vOp vNeD (vOp vIxR (qal qda (qaa (vVar 0) (qaa (vTup (qaa (vC (.str ("add" : Str))) (qaa (vVar 2) (qaa (vC (.str ("a" : Str))) vNil)))) vNil))) (vC (.int 0))) (vC (.str ("Missing" : Str)))))
  (vRet (vC (.bl false)))
  qbn)
 (vSeq (vSet 3 (qal qda (qaa (vVar 0) (qaa (vTup (qaa (vC (.str ("write" : Str))) (qaa (vVar 2) (qaa (vC (.str ("a" : Str))) vNil)))) vNil))))
 (vRet (qur (vOp vEq (vOp vIxR (vVar 3) (vC (.int 0))) (vC (.str ("" : Str)))) (qal g_same (qaa (vOp vIxR (vVar 3) (vC (.int 1))) (qaa (vF1 qe8 (vOp vAdd (vVar 0) (vLst (qaa (vTup (qaa (vTup (qaa (vVar 2) vNil)) (qaa (vC (.str ("file" : Str))) (qaa (vC (.str ("a" : Str))) vNil)))) vNil)))) vNil)))))))))
abbrev qzs:List Str:=["_law_tree","_law_folder","_law_name","_law_told"]
theorem q25:∀ds Q,qhc ds Q->qr1 (En Q) (qam qzs ds):=by
 rintro ds Q ⟨zs,n,m,tx,T,ts,rfl,M,hp,so,h⟩
 have s1000:10000<=sizeLine:=by decide
 have ak:∀(key t x:Str) (r:Except Str Chg) (Y:R->Prop),(key="write" \/ key="add")->DeedTo ts (qax key t x) r->qmt ts (λus=>Y (.val (.tup [.str "",qak us]))) (λn=>Y (.val (.tup [.str n,.non]))) r->qda [qak ts,qax key t x] Y:=λkey t x r Y hk D0 y=>⟨ts,key,t,x,r,rfl,hk,D0,y⟩
 have ed:=M.tl false
 have n3:=M.n3
 have bl:=M.bl
 have os:(Str.ofString "/").length=1:=qds
 have e20:qb1 false [zs.getD 20 ""]=zs.getD 20 "" := by unfold qb1;rw[if_neg (by decide),qv3]
 have er:qb1 true (zs.take n)=("/" : Str)++qb1 false (zs.take n):=by unfold qb1;rw[if_pos rfl,if_neg (by decide)]
 refine qkk (λc=>c=false) (λY y=>?t1) (λe=>by cases e) λ_=>?_
 case t1 =>
  rfl'
  by_cases e0:zs.take n=[]
  ·rw[show qb1 false (zs.take n)=Str.ofString "" by rw[e0];rfl]
   exact y _ rfl
  ·have ne:qb1 false (zs.take n)≠Str.ofString "" := λe=>by
    have:=qgb (r:=false) (.inl e0) (by omega) λz q=>qd3 (M.bn z q)
    rw[e] at this
    rw[show qbj (Str.ofString "")=none by decide +kernel] at this
    cases this
   rw[decide_eq_false ne]
   refine⟨by omega,ak "write" _ _ _ _ (.inl rfl) (M.fold hp e0) ?_⟩
   dsimp! only[qmt]
   exact y _ rfl
 refine qkk (λc=>c=false) (λY y=>?t2) (λe=>by cases e) λ_=>?_
 case t2 =>
  rfl'
  rw[←er]
  refine⟨by omega,by omega,ak "add" _ _ _ _ (.inr rfl) (M.addf hp) ?_⟩
  dsimp! only[qmt]
  exact y _ rfl
 refine qkk (λc=>c=false) (λY y=>?t3) (λe=>by cases e) λ_=>?_
 case t3 =>
  rfl'
  have D0:=M.miss hp
  rw[e20] at D0
  refine⟨by omega,ak "add" _ _ _ _ (.inr rfl) D0 ?_⟩
  dsimp! only[qmt]
  exact y _ rfl
 have D1:=M.new hp
 rw[e20] at D1
 refine qbb ?_
 rfl'
 refine⟨by omega,ak "write" _ _ _ _ (.inl rfl) D1 ⟨M.gr hp (by simp) _,λus p1 p2=>?_⟩⟩
 dsimp! only[qak]
 have e:ts.map rowD++[D.tup [D.tup [D.str (zs.getD 20 (Str.ofString ""))],D.str (Str.ofString "file"),D.str (Str.ofString "a")]]=(ts++[([zs.getD 20 ""],qbe,("a" : Str))]).map rowD:=by rw[List.map_append];rfl
 have l1:=M.len T
 have l2:=hp.length_eq
 rw[qs0 (M.new20 hp)] at p1
 have nd:((ts++[([zs.getD 20 ""],qbe,("a" : Str))]).map (·.1)).Nodup:=(p1.map _).nodup_iff.mp (qqw p2)
 rw[e]
 have hl:(ts++[([zs.getD 20 ""],qbe,("a" : Str))]).length<64:=by rw[List.length_append];show ts.length+1<64;omega
 refine⟨by omega,by omega,by omega,by omega,?_⟩
 refine⟨qi9 nd,by first|exact hl|(rw[List.length_map];exact hl),λds hp hs=>?_⟩
 obtain⟨vs,rfl,v1,v2⟩:=qlz nd hp hs
 rw[←qhu (p1.trans v1.symm) p2 v2]
 refine⟨us,rfl,by rw[p1.length_eq];omega,?_⟩
 rfl'
 exact h
theorem qqh{c:Int}{zs:List Str}(hf:∀v:Nat,v<36->qck c v∈zs):25<=zs.length:=by
 have nd:(((List.range 36).filter λv=>v%5 != 4).map λv:Nat=>qck c v).Nodup:=by
  unfold List.Nodup
  rw[List.pairwise_map]
  have p1:((List.range 36).filter λv=>v%5 != 4).Pairwise λa b=>a≠b:=(List.nodup_range (n:=36)).sublist List.filter_sublist
  refine p1.imp_of_mem λ{a b} ma mb ne e=>?_
  obtain⟨a1,a2⟩:=List.mem_filter.mp ma
  obtain⟨b1,b2⟩:=List.mem_filter.mp mb
  have a24:=List.mem_range.mp a1
  have b24:=List.mem_range.mp b1
  exact ne (qtq c (by omega) (by omega) (by simpa using a2) e)
 have:=qwq nd (m:=zs) λx hx=>by
  obtain⟨v,mv,rfl⟩:=List.mem_map.mp hx
  have:=List.mem_range.mp (List.mem_filter.mp mv).1
  exact hf v (by omega)
 have e:(((List.range 36).filter λv=>v%5 != 4).map λv:Nat=>qck c v).length=29:=by rw[List.length_map];decide
 omega
def qmy:DP:=λds Q=>∃ns,ds=[.scr ns]/\Q (.val (.bl true))
theorem q0k:∀ds Q,qmy ds Q->ds.length=1:=by rintro ds Q ⟨_,rfl,_⟩;rfl
def s63(ns:List Int)(c:Int)(zs:List Str)(n m:Nat)(xs:List (Option R)):VSt:=some (.val (.scr ns))::some (.val (.int c))::some (.val (.lst (zs.map D.str)))::some (.val (wayD (zs.take n)))::some (.val (.int m))::xs
def r63(zs:List Str)(n m:Nat)(tx:Nat->Str)(T:Str)(ts:List Row)(xs:List (Option R)):List (Option R):=some (.own (qa1 ((room zs n m tx T).map prR)))::some (.val (qak ts))::some (.val (wayD (zs.take n++[zs.getD 5 ""])))::xs
theorem q3m{α:Type}(xs:List α)(k j:Nat):(cutL xs (some (k:Int)) (some ((k+j:Nat):Int))).length<=j:=by
 unfold cutL
 rw[HT.sIx_nat,HT.sIx_nat]
 refine Nat.le_trans (List.length_take_le ..) ?_
 omega
def q3k:TVS:=(vSeq (vSet 1 (qal qcv (qaa (vVar 0) (qaa (vC (.int 1)) vNil))))
 (vSeq (vSet 2 (qal qfz (qaa (qal qcv (qaa (vVar 0) (qaa (vC (.int 0)) vNil))) vNil)))
 (vSeq (vSet 3 (vF1 ql8 (qd8 (vVar 2) qdd (qf7 (qal qbs (qaa (vVar 1) (qaa (vC (.int 0)) (qaa (vC (.int 4)) vNil))))))))
 (vSeq (vSet 4 (qal qbs (qaa (vVar 1) (qaa (vC (.int 1)) (qaa (vC (.int 9)) vNil)))))
 (vSeq (qib 5 (qal qef (qaa (vVar 2) (qaa (vVar 3) (qaa (vVar 4) (qaa (qal qcv (qaa (vVar 0) (qaa (vC (.int 2)) vNil))) vNil))))))
 (vSeq (vSet 6 (qn8 qgg 5 vNil))
 (vSeq (vSet 7 (vOp vAdd (vVar 3) (vTup (qaa (vOp vIxR (vVar 2) (vC (.int 5))) vNil))))
 (vSeq (vIfS (qep (vBl (qal qhc (qaa (vVar 6) (qaa (qoa (vC (.str ("/" : Str))) (vVar 3)) (qaa (vOp vIxR (vVar 2) (vC (.int 20))) vNil))))))
  (vRet (vC (.bl false)))
  qbn)
 (vSeq (vFor (qdg (vOp vAdd (qd8 (vVar 0) (qf7 (vC (.int 3))) (qf7 (vC (.int 43)))) (vLst (qaa (vC (.int 7)) vNil)))) (qba 8)
  (vSeq (vSet 9 (vOp vIxR (vVar 2) (vOp vAdd (vC (.int 5)) (qal qbs (qaa (vVar 8) (qaa (vC (.int 0)) (qaa (vOp vAdd (vVar 4) (vC (.int 1))) vNil)))))))
 (vSeq (vSet 10 (vOp vAdd (vOp vAdd (vOp vIxR (vVar 2) (qal qbs (qaa (vVar 8) (qaa (vC (.int 1)) (qaa (vC (.int 20)) vNil))))) (vOp vIxR (vTup (qaa (vC (.str (" ~" : Str))) (qaa (vC (.str ("/" : Str))) vNil))) (qal qbs (qaa (vVar 8) (qaa (vC (.int 2)) (qaa (vC (.int 2)) vNil)))))) (vF1 vStr (vOp vMod (vVar 8) (vOp vPow (vC (.int 10)) (vC (.int 27)))))))
 (vSeq (vIfS (vBl (vOp vEq (qal qbs (qaa (vVar 8) (qaa (vC (.int 5)) (qaa (vC (.int 6)) vNil)))) (vC (.int 0))))
  (vSet 10 (vC (.str ("" : Str))))
  qbn)
 (vSeq (vSet 11 (vOp vAdd (vOp vIxR (vTup (qaa (vC (.str ("" : Str))) (qaa (vC (.str ("/" : Str))) vNil))) (qal qbs (qaa (vVar 8) (qaa (vC (.int 3)) (qaa (vC (.int 2)) vNil))))) (qoa (vC (.str ("/" : Str))) (vOp vAdd (vVar 3) (vTup (qaa (vVar 9) vNil))))))
 (vSeq (vSet 12 (vTup (qaa (vC (.str ("add" : Str))) (qaa (vVar 11) (qaa (vVar 10) vNil)))))
 (vSeq (qir 5 (vVar 7) (vTup (qaa (vC (.str ("file" : Str))) (qaa (vOp vAdd (vOp vIxR (qn9 (vVar 5) (vVar 7)) (vC (.int 1))) (vVar 10)) vNil))))
 (vSeq (vIfS (vBl (vOp vEq (qal qbs (qaa (vVar 8) (qaa (vC (.int 4)) (qaa (vC (.int 4)) vNil)))) (vC (.int 0))))
  (vSeq (vSet 12 (vTup (qaa (vC (.str ("write" : Str))) (qaa (vVar 11) (qaa (vVar 10) vNil)))))
 (qir 5 (vVar 7) (vTup (qaa (vC (.str ("file" : Str))) (qaa (vVar 10) vNil)))))
  qbn)
 (vSeq (vSet 13 (vF1 qrb (vVar 6)))
 (quu 14 (qh9 qda (qaa (vVar 13) (qaa (vVar 12) vNil))) (vOrT (vBl (vOp vNeD (vOp vIxR (vVar 14) (vC (.int 0))) (vC (.str ("" : Str))))) (qep (vBl (qal g_same (qaa (vOp vIxR (vVar 14) (vC (.int 1))) (qaa (qn8 qgg 5 vNil) vNil))))))
 (vSeq (vIfS (vBl (vOp vNeD (vVar 13) (vVar 6)))
  (vRet (vC (.bl false)))
  qbn)
 (vSet 6 (qn8 qgg 5 vNil)))))))))))))
 (vRet (vC (.bl true))))))))))))
abbrev q6t:List Str:=["_law_script","_law_some","_law_names_here","_law_base","_law_count","_law_things","_law_tree","_law_file","_law_cell","_law_name","_law_text","_law_where","_law_deed","_law_handed","_law_told"]
theorem q7u:∀ds Q,qmy ds Q->q3k (En Q) (qam q6t ds):=by
 rintro ds Q ⟨ns,rfl,h⟩
 have s1000:10000<=sizeLine:=by decide
 have mx:∀(c k n:Int) (Y:R->Prop),0<=k->0<n->(∀i,0<=i->i<n->Y (.val (.int i)))->qbs [.int c,.int k,.int n] Y:=λc k n Y hk hn y=>⟨c,k,n,rfl,hk,hn,λi h0 h1 _=>y i h0 h1⟩
 have ca:∀(k:Int) (Y:R->Prop),0<=k->(∀c,Y (.val (.int c)))->qcv [.scr ns,.int k] Y:=λk Y hk y=>⟨ns,k,rfl,hk,y _⟩
 refine v_cut (λτ=>∃c:Int,τ=[some (.val (.scr ns)),some (.val (.int c)),none,none,none,none,none,none,none,none,none,none,none,none,none]) ?_ λnx hnx=>?now
 case now =>
  rfl'
  refine ca _ _ (by decide) λc=>?_
  rfl'
  exact hnx _ ⟨c,rfl⟩
 rintro τ ⟨c,rfl⟩
 refine v_cut (λτ=>∃zs:List Str,(zs.Nodup/\(∀z∈zs,nmB z=true)/\25<=zs.length)/\τ=[some (.val (.scr ns)),some (.val (.int c)),some (.val (.lst (zs.map D.str))),none,none,none,none,none,none,none,none,none,none,none,none]) ?_ λnx hnx=>?now
 case now =>
  rfl'
  refine ca _ _ (by decide) λa=>?_
  have gnm:∀Y:R->Prop,(∀zs:List Str,zs.Nodup->(∀z∈zs,∃v:Nat,v<36/\z=qck a v)->(∀v:Nat,v<36->qck a v∈zs)->zs.length<=36->Y (.own (.lst (zs.map .str))))->qfz [.int a] Y:=λY y=>⟨a,rfl,y⟩
  rfl'
  refine gnm _ λzs nd hz hf hl=>?_
  rfl'
  exact hnx _ ⟨zs,⟨nd,λz m=>by obtain⟨v,_,rfl⟩:=hz z m;exact qwo a (by omega),qqh hf⟩,rfl⟩
 rintro τ ⟨zs,⟨nd,nm,zl⟩,rfl⟩
 have at':∀i:Nat,i<25->(zs.map D.str)[i]?=some (.str (zs.getD i "")):=λi hi=>by rw[List.getElem?_map,List.getElem?_eq_getElem (by omega),getD_at (by omega)];rfl
 refine v_cut (λτ=>∃n:Nat,n<=3/\τ=[some (.val (.scr ns)),some (.val (.int c)),some (.val (.lst (zs.map D.str))),some (.val (wayD (zs.take n))),none,none,none,none,none,none,none,none,none,none,none]) ?_ λnx hnx=>?now
 case now =>
  rfl'
  refine mx _ _ _ _ (by decide) (by decide) λi i0 i1=>?_
  obtain⟨n,rfl⟩:=Int.eq_ofNat_of_zero_le i0
  rfl'
  rw[qfe]
  exact hnx _ ⟨n,by omega,rfl⟩
 rintro τ ⟨n,n3,rfl⟩
 refine v_cut (λτ=>∃m:Nat,m<=8/\τ=s63 ns c zs n m [none,none,none,none,none,none,none,none,none,none]) ?_ λnx hnx=>?now
 case now =>
  rfl'
  refine mx _ _ _ _ (by decide) (by decide) λi i0 i1=>?_
  obtain⟨m,rfl⟩:=Int.eq_ofNat_of_zero_le i0
  rfl'
  exact hnx _ ⟨m,by omega,rfl⟩
 rintro τ ⟨m,m8,rfl⟩
 refine v_cut (λτ=>∃tx,Mk zs n m tx/\τ=s63 ns c zs n m [some (.own (qa1 ((room zs n m tx "at first").map prR))),none,none,none,none,none,none,none,none,none]) ?_ λnx hnx=>?now
 case now =>
  dsimp! only[s63]
  refine ca _ _ (by decide) λb=>?_
  rfl'
  refine⟨zs,n,m,b,rfl,nd,nm,zl,n3,m8,λtx M=>?_⟩
  rfl'
  exact hnx _ ⟨tx,M,rfl⟩
 rintro τ ⟨tx,M,rfl⟩
 have grw:∀(T:Str) (Y:R->Prop),(∀ts:List Row,ts.Perm (room zs n m tx T)->qbf ts->Y (.own (qak ts)))->qgg [qa1 ((room zs n m tx T).map prR)] Y:=λT Y y=>⟨_,rfl,(M.hall T).nd,λr mr=>qts ((M.hall T).wy r mr).2,by have:=M.len T;omega,y⟩
 refine v_cut (λτ=>∃ts:List Row,(ts.Perm (room zs n m tx "at first")/\qbf ts)/\τ=s63 ns c zs n m [some (.own (qa1 ((room zs n m tx "at first").map prR))),some (.val (qak ts)),none,none,none,none,none,none,none,none]) ?_ λnx hnx=>?now
 case now =>
  dsimp! only[s63]
  refine grw _ _ λts hp so=>?_
  dsimp! only[qak]
  exact⟨qfo _,hnx _ ⟨ts,⟨hp,so⟩,rfl⟩⟩
 rintro τ ⟨ts,⟨hp,so⟩,rfl⟩
 have bn:=M.bn
 have bl:=M.bl
 have os:(Str.ofString "/").length=1:=qds
 have nmi:∀i,i<25->nmB (zs.getD i "")=true:=λi hi=>M.name hi
 have fne:("" : Str)∉zs.take n++[zs.getD 5 ""]:=λq=>(List.mem_append.mp q).elim (qts bn) λq=>qoh (qd3 (List.mem_singleton.mp q▸nmi 5 (by decide))) rfl
 refine v_cut (λτ=>τ=s63 ns c zs n m (r63 zs n m tx "at first" ts [none,none,none,none,none,none,none])) ?_ λnx hnx=>?now
 case now =>
  dsimp! only[s63,wayD]
  refine⟨_,at' 5 (by decide),by decide,Nat.le_trans (show _<=1000 by omega) qan,?_⟩
  have e:(zs.take n).map D.str++[D.str (zs.getD 5 "")]=(zs.take n++[zs.getD 5 ""]).map D.str:=by rw[List.map_append];rfl
  rw[e]
  exact hnx _ rfl
 rintro τ rfl
 refine v_cut (λτ=>τ=s63 ns c zs n m (r63 zs n m tx "at first" ts [none,none,none,none,none,none,none])) ?_ λnx hnx=>?now
 case now =>
  dsimp! only[s63,r63,wayD]
  have sb:=ql2 λz q=>qd3 (bn z q)
  refine⟨zs.take n,.inr rfl,by rw[os];omega,_,at' 20 (by decide),⟨zs,n,m,tx,_,ts,rfl,M,hp,so,?_⟩⟩
  rfl'
  exact hnx _ rfl
 rintro τ rfl
 refine v_cut (λτ=>∃xs,τ=s63 ns c zs n m xs) ?_ λnx hnx=>?now
 case now =>
  dsimp! only[s63,r63]
  have cl:(cutL ns (some 3) (some 43)).length<=40:=q3m ns 3 40
  refine⟨by decide,Nat.le_trans (show _<=1000 by omega) qan,?_⟩
  refine qmx (λi τ=>∃T ts a8 a9 a10 a11 a12 a13,(T.length<=8+60*i/\ts.Perm (room zs n m tx T)/\qbf ts)/\τ=s63 ns c zs n m (r63 zs n m tx T ts [a8,a9,a10,a11,a12,a13,none])) ⟨_,ts,_,_,_,_,_,_,⟨by decide +kernel,hp,so⟩,rfl⟩ ?_ ?_
  ·rintro i d τ hi ⟨T,ts,a8,a9,a10,a11,a12,a13,⟨tl,hp,so⟩,rfl⟩ nx2 hnx2
   have i40:i<41:=by
    have:=(List.getElem?_eq_some_iff.mp hi).1
    rw[List.length_append] at this
    have:i<(cutL ns (some 3) (some 43)).length+1:=this
    omega
   show (qba 8) _ _ _
   dsimp! only[s63,r63]
   refine v_cut (λτ=>∃j:Nat,j<=m/\τ=s63 ns c zs n m (r63 zs n m tx T ts [some (.val (.int d)),some (.val (.str (zs.getD (5+j) ""))),a10,a11,a12,a13,none])) ?_ λnx hnx=>?nwa
   case nwa =>
    rfl'
    refine mx _ _ _ _ (by decide) (by omega) λj j0 j1=>?_
    obtain⟨j,rfl⟩:=Int.eq_ofNat_of_zero_le j0
    rfl'
    refine⟨_,(show atI (zs.map D.str) (5+(j:Int))=some (.str (zs.getD (5+j) "")) by rw[show 5+(j:Int)=((5+j:Nat):Int) by omega];exact qjf (at' _ (by omega))),?_⟩
    exact hnx _ ⟨j,by omega,rfl⟩
   rintro τ ⟨j,hj,rfl⟩
   refine v_cut (λτ=>∃x:Str,x.length<=60/\τ=s63 ns c zs n m (r63 zs n m tx T ts [some (.val (.int d)),some (.val (.str (zs.getD (5+j) ""))),some (.val (.str x)),a11,a12,a13,none])) ?_ λnx hnx=>?nwb
   case nwb =>
    dsimp! only[s63,r63]
    refine mx _ _ _ _ (by decide) (by decide) λk k0 k1=>?_
    obtain⟨k,rfl⟩:=Int.eq_ofNat_of_zero_le k0
    rfl'
    refine⟨_,qjf (at' k (by omega)),by omega,mx _ _ _ _ (by decide) (by decide) λq q0 q1=>?_⟩
    have ix:∃t,atI [D.str (Str.ofString " ~"),D.str (Str.ofString "/")] q=some (.str t)/\t.length<=2:=by
     obtain rfl|rfl:q=0\/q=1:=by omega
     ·exact⟨_,rfl,by decide +kernel⟩
     ·exact⟨_,rfl,by decide +kernel⟩
    obtain⟨t,e1,ht⟩:=ix
    have lz:=(qhl (nmi k (by omega))).2
    have q0:=Int.emod_nonneg d (show (10 ^ Int.toNat 27:Int)≠0 by decide)
    have q1:=Int.emod_lt_of_pos d (show (0:Int)<10 ^ Int.toNat 27 by decide)
    have q2:(Str.ofString (toString (d%10 ^ Int.toNat 27))).length<=27:=toString_length_le q0 (by decide) q1
    rfl'
    refine⟨_,e1,?_⟩
    rfl'
    have lg:(d%10 ^ Int.toNat 27).natAbs.log2<1920:=by
     have:(d%10 ^ Int.toNat 27).natAbs<2 ^ 200:=by
      have e:(10 ^ Int.toNat 27:Int)<2 ^ 200:=by decide
      omega
     by_cases z:(d%10 ^ Int.toNat 27).natAbs=0
     ·rw[z]
      decide
     ·exact Nat.lt_of_lt_of_le ((Nat.log2_lt z).mpr this) (by decide)
    have q3:(Str.ofString (toString (d%10 ^ 27))).length<=27:=q2
    exact⟨by omega,⟨by decide,by decide,by decide⟩,by decide,lg,by rw[PySem.Str.length_append];omega,hnx _ ⟨_,by rw[PySem.Str.length_append,PySem.Str.length_append];omega,rfl⟩⟩
   rintro τ ⟨x,hx,rfl⟩
   refine v_cut (λτ=>∃x:Str,x.length<=60/\τ=s63 ns c zs n m (r63 zs n m tx T ts [some (.val (.int d)),some (.val (.str (zs.getD (5+j) ""))),some (.val (.str x)),a11,a12,a13,none])) ?_ λnx hnx=>?nwc
   case nwc =>
    dsimp! only[s63,r63]
    refine mx _ _ _ _ (by decide) (by decide) λk k0 k1=>?_
    rfl'
    split
    ·exact hnx _ ⟨_,by decide +kernel,rfl⟩
    ·exact hnx _ ⟨x,hx,rfl⟩
   clear hx x
   rintro τ ⟨x,hx,rfl⟩
   refine v_cut (λτ=>∃b,τ=s63 ns c zs n m (r63 zs n m tx T ts [some (.val (.int d)),some (.val (.str (zs.getD (5+j) ""))),some (.val (.str x)),some (.val (.str (qb1 b (zs.take n++[zs.getD (5+j) ""])))),a12,a13,none])) ?_ λnx hnx=>?nwd
   case nwd =>
    dsimp! only[s63,r63]
    refine⟨by omega,mx _ _ _ _ (by decide) (by decide) λk k0 k1=>?_⟩
    have ix:∃t,atI [D.str (Str.ofString ""),D.str (Str.ofString "/")] k=some (.str t)/\t.length<=1/\∃b,∀ws,t++glue "/" ws=qb1 b ws:=by
     obtain rfl|rfl:k=0\/k=1:=by omega
     ·exact⟨_,rfl,by decide +kernel,false,λws=>qd4 (by rw[app_list];rfl)⟩
     ·exact⟨_,rfl,by decide +kernel,true,λws=>rfl⟩
    obtain⟨t,e1,ht,b,e2⟩:=ix
    dsimp! only[wayD]
    refine⟨_,e1,?_⟩
    rfl'
    have bw:∀z∈zs.take n++[zs.getD (5+j) ""],wdB z=true:=λz q=>(List.mem_append.mp q).elim (λq=>qd3 (bn z q)) λq=>List.mem_singleton.mp q▸qd3 (nmi _ (by omega))
    have w1:=ql2 bw
    have w2:=qjo bw
    rw[List.length_append,List.length_singleton,bl] at w1 w2
    refine⟨by omega,by omega,_,.inr rfl,by rw[os,List.length_append,List.length_singleton,bl];omega,Nat.le_trans (show _<=1000 by omega) qan,?_⟩
    have:=hnx _ ⟨b,rfl⟩
    rw[←e2] at this
    exact this
   rintro τ ⟨b,rfl⟩
   refine v_cut (λτ=>τ=s63 ns c zs n m (r63 zs n m tx T ts [some (.val (.int d)),some (.val (.str (zs.getD (5+j) ""))),some (.val (.str x)),some (.val (.str (qb1 b (zs.take n++[zs.getD (5+j) ""])))),some (.val (qax "add" (qb1 b (zs.take n++[zs.getD (5+j) ""])) x)),a13,none])) ?_ λnx hnx=>?nwe
   case nwe =>
    dsimp! only[s63,r63]
    exact⟨by omega,hnx _ rfl⟩
   rintro τ rfl
   refine v_cut (λτ=>τ=s63 ns c zs n m (r63 zs n m tx (T++x) ts [some (.val (.int d)),some (.val (.str (zs.getD (5+j) ""))),some (.val (.str x)),some (.val (.str (qb1 b (zs.take n++[zs.getD (5+j) ""])))),some (.val (qax "add" (qb1 b (zs.take n++[zs.getD (5+j) ""])) x)),a13,none])) ?_ λnx hnx=>?nwf
   case nwf =>
    dsimp! only[s63,r63,qa1,wayD]
    refine⟨fne,_,by rw[qcz];exact M.get T,?_⟩
    rfl'
    refine⟨by omega,by omega,fne,by have:=M.len T;omega,?_⟩
    rw[qcm,show D.tup [D.str (Str.ofString "file"),D.str (T++x)]=.tup [.str qbe,.str (T++x)] from rfl,M.ins]
    exact hnx _ rfl
   rintro τ rfl
   refine v_cut (λτ=>∃key T':Str,((key="write" /\ T'=x)\/(key="add" /\ T'=T++x))/\τ=s63 ns c zs n m (r63 zs n m tx T' ts [some (.val (.int d)),some (.val (.str (zs.getD (5+j) ""))),some (.val (.str x)),some (.val (.str (qb1 b (zs.take n++[zs.getD (5+j) ""])))),some (.val (qax key (qb1 b (zs.take n++[zs.getD (5+j) ""])) x)),a13,none])) ?_ λnx hnx=>?nwg
   case nwg =>
    dsimp! only[s63,r63]
    refine mx _ _ _ _ (by decide) (by decide) λk k0 k1=>?_
    dsimp! only[qa1,wayD]
    split
    ·refine qbb ?_
     rfl'
     refine⟨by omega,by omega,fne,by have:=M.len (T++x);omega,?_⟩
     rw[qcm,show D.tup [D.str (Str.ofString "file"),D.str x]=.tup [.str qbe,.str x] from rfl,M.ins]
     exact hnx _ ⟨_,_,.inl ⟨rfl,rfl⟩,rfl⟩
    ·exact hnx _ ⟨_,_,.inr ⟨rfl,rfl⟩,rfl⟩
   rintro τ ⟨key,T',hk,rfl⟩
   refine v_cut (λτ=>τ=s63 ns c zs n m (r63 zs n m tx T' ts [some (.val (.int d)),some (.val (.str (zs.getD (5+j) ""))),some (.val (.str x)),some (.val (.str (qb1 b (zs.take n++[zs.getD (5+j) ""])))),some (.val (qax key (qb1 b (zs.take n++[zs.getD (5+j) ""])) x)),some (.val (qak ts)),none])) ?_ λnx hnx=>?nwh
   case nwh =>
    dsimp! only[s63,r63,qak]
    exact hnx _ rfl
   rintro τ rfl
   have RM:=M.rm hp
   have G:Goes ts (zs.take n) (zs.getD 5 "") (zs.getD (5+j) ""):=by
    obtain⟨xs,b1,b2,b3,b4⟩:=M.goes hp j hj
    exact⟨xs,b1,b2,by omega,b4⟩
   have tw:(qb1 b (zs.take n++[zs.getD (5+j) ""])).length<=5000:=by
    have:=qfn b (ws:=zs.take n++[zs.getD (5+j) ""]) λz q=>(List.mem_append.mp q).elim (bn z) λq=>List.mem_singleton.mp q▸nmi _ (by omega)
    rw[List.length_append,List.length_singleton] at this
    omega
   have D0:DeedTo ts (qax key (qb1 b (zs.take n++[zs.getD (5+j) ""])) x) (.ok (zs.take n++[zs.getD 5 ""],some ((qbe,T'),[]))):=by
    rcases hk with ⟨rfl,rfl⟩|⟨rfl,rfl⟩
    ·exact .write (M.tr hp tw (by omega)) ⟨fne,λres h=>RM.goal G h⟩ RM.fl (by decide +kernel)
    ·exact .add (M.tr hp tw (by omega)) ⟨fne,λres h=>RM.find G h⟩ RM.fl (by decide +kernel) (by omega)
   have tl2:T'.length<=8+60*(i+1):=by
    rcases hk with ⟨_,rfl⟩|⟨_,rfl⟩
    ·omega
    ·rw[PySem.Str.length_append];omega
   dsimp! only[s63,r63,quu,qjp,qs5]
   refine⟨by decide,ts,key,_,x,_,rfl,hk.imp (·.1) (·.1),D0,M.gr hp (by rw[List.length_append,bl,List.length_singleton];omega) _,λus p1 p2=>?_⟩
   have p1:=p1.trans (M.set hp T')
   dsimp! only[qak]
   refine grw _ _ λvs q1 q2=>?_
   have l1:=M.len T'
   dsimp! only[qak]
   rw[←qhu (p1.trans q1.symm) p2 q2]
   refine⟨qfo _,us,rfl,by rw[p1.length_eq];omega,?_⟩
   rfl'
   refine qbb ?_
   rfl'
   refine⟨q6x ts ts,Nat.le_trans (q6y ts) (by decide),?_⟩
   dsimp! only[qc5]
   refine grw _ _ λvs q1 q2=>?_
   dsimp! only[qak]
   exact⟨qfo _,hnx2 _ ⟨T',vs,_,_,_,_,_,_,⟨tl2,q1,q2⟩,rfl⟩⟩
  ·rintro τ ⟨T,ts,a8,a9,a10,a11,a12,a13,_,rfl⟩
   exact hnx _ ⟨_,rfl⟩
 rintro τ ⟨xs,rfl⟩
 simp! only[vSeq,s63]
 exact h
theorem q39{K:PySem.W.Frag}{H:Hp}{a:Addr}(ns:List Int)(_:ns.length<=63)(hS:SqL K H a (ns.map V.int)){E:XK}:spOf K qmy [.ref a] H (λv _=>v=.bl true) E:=qxv ⟨ns,rfl,rfl⟩ hS
def top(i:Nat):Stmt:=PySem.Challenge.pw_glasslayers_k63_written_and_added.main.body.getD i (.Pass ⟨0,0,0,0⟩)
abbrev qfj:Stmt:=top 16
abbrev qnt:Stmt:=top 18
abbrev qel:Stmt:=top 19
abbrev qh3:Stmt:=top 20
abbrev qhz:Stmt:=top 23
abbrev qex:Stmt:=top 24
abbrev quf:Stmt:=top 25
abbrev qf2:Stmt:=top 27
abbrev qfl:Stmt:=top 30
abbrev qfk:Stmt:=top 31
abbrev qhy:Stmt:=top 32
abbrev qcr:Stmt:=top 36
abbrev qdk:Stmt:=top 37
abbrev qhw:Stmt:=top 38
abbrev qe5:Stmt:=top 41
abbrev qf5:Stmt:=top 42
abbrev qf4:Stmt:=top 45
abbrev qf3:Stmt:=top 46
abbrev qug:Stmt:=top 47
abbrev qj8:Stmt:=top 48
abbrev qf1:Stmt:=top 49
abbrev qj7:Stmt:=top 50
abbrev qhx:Stmt:=top 52
abbrev qh1:Stmt:=top 54
abbrev qbi:Stmt:=top 57
abbrev qb0:Stmt:=top 58
abbrev qek:Stmt:=top 67
abbrev que:Stmt:=top 68
abbrev qhv:Stmt:=top 70
abbrev qnw:Stmt:=top 71
abbrev qh0:Stmt:=top 72
abbrev qnx:Stmt:=top 73
abbrev s_same:Stmt:=top 74
abbrev qnu:Stmt:=top 75
abbrev qo7:Stmt:=top 76
abbrev qh2:Stmt:=top 77
abbrev qnv:Stmt:=top 78
abbrev qj6:Stmt:=top 79
structure Blt(K:PySem.W.Frag)(mg:Str->Option Value)(cGlassError:Addr)(cNoWay:Addr)(cMissing:Addr)(cNotFolder:Addr)(cNoPlace:Addr)(cAstray:Addr)(cIsFolder:Addr)(cTooDeep:Addr)(cCrowded:Addr):Prop where
 GlassError:mg "GlassError" = some (.ref cGlassError)
 k_GlassError:clsOf K "GlassError" cGlassError
 NoWay:mg "NoWay" = some (.ref cNoWay)
 k_NoWay:clsOf K "NoWay" cNoWay
 Missing:mg "Missing" = some (.ref cMissing)
 k_Missing:clsOf K "Missing" cMissing
 NotFolder:mg "NotFolder" = some (.ref cNotFolder)
 k_NotFolder:clsOf K "NotFolder" cNotFolder
 NoPlace:mg "NoPlace" = some (.ref cNoPlace)
 k_NoPlace:clsOf K "NoPlace" cNoPlace
 Astray:mg "Astray" = some (.ref cAstray)
 k_Astray:clsOf K "Astray" cAstray
 IsFolder:mg "IsFolder" = some (.ref cIsFolder)
 k_IsFolder:clsOf K "IsFolder" cIsFolder
 TooDeep:mg "TooDeep" = some (.ref cTooDeep)
 k_TooDeep:clsOf K "TooDeep" cTooDeep
 Crowded:mg "Crowded" = some (.ref cCrowded)
 k_Crowded:clsOf K "Crowded" cCrowded
 x_NoWay:OwnX K cNoWay
 x_TooDeep:OwnX K cTooDeep
 x_Crowded:OwnX K cCrowded
 x_Astray:OwnX K cAstray
 x_Missing:OwnX K cMissing
 x_NotFolder:OwnX K cNotFolder
 x_NoPlace:OwnX K cNoPlace
 x_IsFolder:OwnX K cIsFolder
 m_NoWay_GlassError:PySem.W.exmOne K (.ref cNoWay) (.ref cGlassError)=some true
 m_TooDeep_GlassError:PySem.W.exmOne K (.ref cTooDeep) (.ref cGlassError)=some true
 m_Crowded_GlassError:PySem.W.exmOne K (.ref cCrowded) (.ref cGlassError)=some true
 m_Astray_GlassError:PySem.W.exmOne K (.ref cAstray) (.ref cGlassError)=some true
 m_Missing_GlassError:PySem.W.exmOne K (.ref cMissing) (.ref cGlassError)=some true
 m_NotFolder_GlassError:PySem.W.exmOne K (.ref cNotFolder) (.ref cGlassError)=some true
 m_NoPlace_GlassError:PySem.W.exmOne K (.ref cNoPlace) (.ref cGlassError)=some true
 m_IsFolder_GlassError:PySem.W.exmOne K (.ref cIsFolder) (.ref cGlassError)=some true
 m_NoWay_Missing:PySem.W.exmOne K (.ref cNoWay) (.ref cMissing)=some false
 m_TooDeep_Missing:PySem.W.exmOne K (.ref cTooDeep) (.ref cMissing)=some false
 m_Crowded_Missing:PySem.W.exmOne K (.ref cCrowded) (.ref cMissing)=some false
 m_Astray_Missing:PySem.W.exmOne K (.ref cAstray) (.ref cMissing)=some false
 m_Missing_Missing:PySem.W.exmOne K (.ref cMissing) (.ref cMissing)=some true
 m_NotFolder_Missing:PySem.W.exmOne K (.ref cNotFolder) (.ref cMissing)=some false
 m_NoPlace_Missing:PySem.W.exmOne K (.ref cNoPlace) (.ref cMissing)=some false
 m_IsFolder_Missing:PySem.W.exmOne K (.ref cIsFolder) (.ref cMissing)=some false
 m_NoWay_IsFolder:PySem.W.exmOne K (.ref cNoWay) (.ref cIsFolder)=some false
 m_TooDeep_IsFolder:PySem.W.exmOne K (.ref cTooDeep) (.ref cIsFolder)=some false
 m_Crowded_IsFolder:PySem.W.exmOne K (.ref cCrowded) (.ref cIsFolder)=some false
 m_Astray_IsFolder:PySem.W.exmOne K (.ref cAstray) (.ref cIsFolder)=some false
 m_Missing_IsFolder:PySem.W.exmOne K (.ref cMissing) (.ref cIsFolder)=some false
 m_NotFolder_IsFolder:PySem.W.exmOne K (.ref cNotFolder) (.ref cIsFolder)=some false
 m_NoPlace_IsFolder:PySem.W.exmOne K (.ref cNoPlace) (.ref cIsFolder)=some false
 m_IsFolder_IsFolder:PySem.W.exmOne K (.ref cIsFolder) (.ref cIsFolder)=some true
 all:mg "all" = none
 isinstance:mg "isinstance" = none
 len:mg "len" = none
 list:mg "list" = none
 max:mg "max" = none
 range:mg "range" = none
 sorted:mg "sorted" = none
 str:mg "str" = none
 tuple:mg "tuple" = none
 g_NAME_SIGNS:∃t,mg "NAME_SIGNS" = some (Value.str ("abcdefghijklmnopqrstuvwxyz0123456789" : Str) t)
 g_LONGEST_NAME:∃t,mg "LONGEST_NAME" = some (Value.int 12 t)
 g_MOST_WORDS:∃t,mg "MOST_WORDS" = some (Value.int 40 t)
 g_MOST_NAMES:∃t,mg "MOST_NAMES" = some (Value.int 12 t)
 g_MOST_ENTRIES:∃t,mg "MOST_ENTRIES" = some (Value.int 60 t)
 g_ROOT_THING:∃ad,mg "ROOT_THING" = some (.ref ad)/\SqT K (λ_=>none) ad ([("folder" : Str),("" : Str)].map V.str)
 g_MOST_LINKS:∃t,mg "MOST_LINKS" = some (Value.int 8 t)
section
variable {P:Program} {w:World} {K:PySem.W.Frag} {mg:Str->Option Value} {base:Heap} {f:Addr} {fd:FuncData} {cGlassError:Addr} {cNoWay:Addr} {cMissing:Addr} {cNotFolder:Addr} {cNoPlace:Addr} {cAstray:Addr} {cIsFolder:Addr} {cTooDeep:Addr} {cCrowded:Addr}
theorem qqx:FnScope ["_law_script","_law_k"] ["_law_script","_law_k"] (qae qhv):=⟨rfl,rfl,rfl,by decide +kernel,rfl,by decide +kernel,by decide +kernel⟩
theorem qqi(F:Fun K "_law_cell_at" "_law_cell_at" qhv f fd)(B:Blt K mg cGlassError cNoWay cMissing cNotFolder cNoPlace cAstray cIsFolder cTooDeep cCrowded):FnOk P w K mg base CX0 1 f fd ["_law_script","_law_k"] (spOf K qcv) :=
 F.okV qqx qmz λcdv A outer s H E hr=>⟨qgx,(qab (qb2 (qaz q7t (vv 1) (qde qc1 rfl B.len PyProof.Rows.Boot.«len» (vv 0)))
   (qag (qar (qat qaj (vv 0) (vv 1))))
   qau)
  (qag (qar qaf))),qu9⟩
theorem sc_name_by:FnScope ["_law_stem","_law_v","_law_signs","_law_size","_law_spot","_law_name","_law_k","_law_turn"] ["_law_stem","_law_v"] (qae qh0):=⟨rfl,rfl,rfl,by decide +kernel,rfl,by decide +kernel,by decide +kernel⟩
theorem qqo(F:Fun K "_law_name_by" "_law_name_by" qh0 f fd)(B:Blt K mg cGlassError cNoWay cMissing cNotFolder cNoPlace cAstray cIsFolder cTooDeep cCrowded):FnOk P w K mg base CX0 1 f fd ["_law_stem","_law_v"] (spOf K qdp) :=
 F.okV sc_name_by qm5 λcdv A outer s H E hr=>⟨qkx,(qab (qaq (i:=2) sc_name_by.nd rfl (Or.inl rfl) qai)
  (qab (qaq (i:=3) sc_name_by.nd rfl (Or.inl rfl) (qaw qay qaf (qaw qdv (vv 0) qaf)))
  (qab (qaq (i:=4) sc_name_by.nd rfl (Or.inl rfl) (qaw qdv (qaw qpq (vv 0) qaf) (vv 3)))
  (qab (qaq (i:=5) sc_name_by.nd rfl (Or.inl rfl) qai)
  (qab (qgi PassesOwn.never rfl (qif rfl B.range (vv 3)) (qbc (i:=6) sc_name_by.nd rfl (Or.inl rfl))
   (qab (qaq (i:=7) sc_name_by.nd rfl (Or.inl rfl) (qaw qay (qaw qpq (vv 0) qaf) (qaw qzn (vv 6) (qaw qdv (qaw qpq (vv 0) qaf) qaf))))
  (qab (qb2 (qaz (qea hr.units) (vv 6) (vv 4))
   (qag (qaq (i:=7) sc_name_by.nd rfl (Or.inl rfl) (qaw qay (vv 7) (vv 1))))
   qau)
  (qag (qaq (i:=5) sc_name_by.nd rfl (Or.inl rfl) (qaw qay (vv 5) (qat qaj (vv 2) (qaw qdv (vv 7) qaf))))))))
  (qab (qb2 (vw_t (qmf (qaz (qea hr.units) (qaw qdv (qaw qpq (vv 0) qaf) qaf) qaf) (qig (qaz (qea hr.units) (qaw qdv (vv 1) qaf) qaf))))
   (qag (qaq (i:=5) sc_name_by.nd rfl (Or.inl rfl) (qc7 (vv 5) qeq (qdl (qaw qay qaf (qaw qdv (vv 1) (vv 3)))))))
   qau)
  (qag (qar (vv 5))))))))),qvf⟩
theorem sc_names:FnScope ["_law_stem","_law_names_here","_law_v","_law_name"] ["_law_stem"] (qae qnx):=⟨rfl,rfl,rfl,by decide +kernel,rfl,by decide +kernel,by decide +kernel⟩
theorem qwy(F:Fun K "_law_names" "_law_names" qnx f fd)(B:Blt K mg cGlassError cNoWay cMissing cNotFolder cNoPlace cAstray cIsFolder cTooDeep cCrowded)(Cname_by:Cal P w K mg base 1 "_law_name_by" ["_law_stem","_law_v"] (spOf K qdp)):FnOk P w K mg base CX0 2 f fd ["_law_stem"] (spOf K qfz) :=
 F.okV sc_names qtf λcdv A outer s H E hr=>⟨qr3,(qab (qfa (i:=1) sc_names.nd rfl (Or.inl rfl) (qc0 qad))
  (qab (qgi PassesOwn.never rfl (qif rfl B.range qaf) (qbc (i:=2) sc_names.nd rfl (Or.inl rfl))
   (qab (qaq (i:=3) sc_names.nd rfl (Or.inl rfl) (qas Cname_by (hr.mono (by decide)) rfl (vac (vv 0) (vac (vv 2) qad))))
  (qag (qb2 (qaz qyi (vv 3) (vv 1))
   (qag (qme 1 (vv 3)))
   qau))))
  (qag (qoe 1)))),q27⟩
theorem sc_mixed:FnScope ["_law_cell","_law_turn","_law_many","_law_by","_law_prime"] ["_law_cell","_law_turn","_law_many"] (qae qnw):=⟨rfl,rfl,rfl,by decide +kernel,rfl,by decide +kernel,by decide +kernel⟩
theorem qwx(F:Fun K "_law_mixed" "_law_mixed" qnw f fd)(B:Blt K mg cGlassError cNoWay cMissing cNotFolder cNoPlace cAstray cIsFolder cTooDeep cCrowded):FnOk P w K mg base CX0 1 f fd ["_law_cell","_law_turn","_law_many"] (spOf K qbs) :=
 F.okV sc_mixed qte λcdv A outer s H E hr=>⟨qr2,(qab (qaq (i:=3) sc_mixed.nd rfl (Or.inl rfl) (qap (vac qaf (vac qaf (vac qaf (vac qaf (vac qaf (vac qaf (vac qaf (vac qaf qad))))))))))
  (qab (qaq (i:=4) sc_mixed.nd rfl (Or.inl rfl) (qap (vac qaf (vac qaf (vac qaf (vac qaf (vac qaf (vac qaf (vac qaf (vac qaf qad))))))))))
  (qag (qar (qaw qdv (qaw qdv (qaw qzn (qaw qay (qaw qdv (vv 0) (qaw qzo qaf qaf)) qaf) (qat qaj (vv 3) (qaw qdv (vv 1) qaf))) (qat qaj (vv 4) (qaw qdv (vv 1) qaf))) (vv 2)))))),q26⟩
theorem sc_room_by:FnScope ["_law_names_here","_law_base","_law_count","_law_some","_law_things","_law_k","_law_to","_law_ways"] ["_law_names_here","_law_base","_law_count","_law_some"] (qae qh2):=⟨rfl,rfl,rfl,by decide +kernel,rfl,by decide +kernel,by decide +kernel⟩
theorem qqr(F:Fun K "_law_room_by" "_law_room_by" qh2 f fd)(B:Blt K mg cGlassError cNoWay cMissing cNotFolder cNoPlace cAstray cIsFolder cTooDeep cCrowded)(Cmixed:Cal P w K mg base 1 "_law_mixed" ["_law_cell","_law_turn","_law_many"] (spOf K qbs)):FnOk P w K mg base CX0 2 f fd ["_law_names_here","_law_base","_law_count","_law_some"] (spOf K qef) :=
 F.okV sc_room_by qm8 λcdv A outer s H E hr=>⟨qky,(qab (qfa (i:=4) sc_room_by.nd rfl (Or.inl rfl) qyb)
  (qab (qgi PassesOwn.never rfl (qif rfl B.range (qde qc1 rfl B.len PyProof.Rows.Boot.«len» (vv 1))) (qbc (i:=5) sc_room_by.nd rfl (Or.inl rfl))
   (qag (qe9 4 hr.dict (qc7 (vv 1) qeq (qdl (qaw qay (vv 5) qaf))) (qap (vac qai (vac qai qad))))))
  (qab (qe9 4 hr.dict (qaw qay (vv 1) (qap (vac (qat qaj (vv 0) qaf) qad))) (qap (vac qai (vac qai qad))))
  (qab (qe9 4 hr.dict (qaw qay (vv 1) (qap (vac (qat qaj (vv 0) qaf) qad))) (qap (vac qai (vac qai qad))))
  (qab (qaq (i:=6) sc_room_by.nd rfl (Or.inl rfl) (qat qaj (vv 0) qaf))
  (qab (qgi PassesOwn.never rfl (qif rfl B.range (vv 2)) (qbc (i:=5) sc_room_by.nd rfl (Or.inl rfl))
   (qab (qaq (i:=7) sc_room_by.nd rfl (Or.inl rfl) (qap (vac (vv 6) (vac (qaw qay qai (vv 6)) (vac (qaw qay qai (qkm qai (qaw qay (vv 1) (qap (vac (vv 6) qad))))) (vac (qaw qay (qaw q2z qai (qde qc1 rfl B.len PyProof.Rows.Boot.«len» (vv 1))) (qkm qai (qaw qay (vv 1) (qap (vac (vv 6) qad))))) qad))))))
  (qab (qe9 4 hr.dict (qaw qay (vv 1) (qap (vac (qat qaj (vv 0) (qaw qay qaf (vv 5))) qad))) (qap (vac qai (vac (qat qaj (vv 7) (qas Cmixed (hr.mono (by decide)) rfl (vac (qaw qay (vv 3) (vv 5)) (vac qaf (vac qaf qad))))) qad))))
  (qag (qb2 (qaz qu3 (qas Cmixed (hr.mono (by decide)) rfl (vac (qaw qay (vv 3) (vv 5)) (vac qaf (vac qaf qad)))) qaf)
   (qag (qaq (i:=6) sc_room_by.nd rfl (Or.inl rfl) (qat qaj (vv 0) (qaw qay qaf (vv 5)))))
   qau)))))
  (qag (qoe 4)))))))),qvi⟩
theorem q2j:FnScope ["_law_things"] ["_law_things"] (qae qo7):=⟨rfl,rfl,rfl,by decide +kernel,rfl,by decide +kernel,by decide +kernel⟩
theorem qok:CompScope (qae qo7) ["_law_things"] ["_law_things","_law_way"] ["_law_way"] ({ kind:=PySem.ScopeKind.function,names:=[ (PySem.Str.ofString ".0",PySem.NameKind.local),(PySem.Str.ofString "_law_way",PySem.NameKind.local),(PySem.Str.ofString "_law_things",PySem.NameKind.free)],isGenerator:=false,isCoroutine:=false,more:=[]:PySem.Scope }):=⟨rfl,by decide +kernel,by decide +kernel,by decide +kernel,by decide +kernel,rfl,by decide +kernel⟩
theorem q0z(F:Fun K "_law_rows" "_law_rows" qo7 f fd)(B:Blt K mg cGlassError cNoWay cMissing cNotFolder cNoPlace cAstray cIsFolder cTooDeep cCrowded):FnOk P w K mg base CX0 1 f fd ["_law_things"] (spOf K qgg) :=
 F.okV q2j qwf λcdv A outer s H E hr=>⟨qr4,(qag (qar (vc_e (qf8 (M:=["_law_way"]) (qfr (qde (qid hr.units) rfl B.sorted PyProof.Rows.Boot.«sorted» (qux (qye hr.hd) rfl B.list PyProof.Rows.Boot.«list» (vv 0)))) rfl qok (λcl C s2 H2 fp pn=>(qbc (i:=1) (qok).nd rfl (Or.inl rfl))) (λcl C s2 H2 fp pn=>qie) (λcl C s2 H2 fp pn=>(qap (vac (vv 1) (vac (qat qaj (qkl hr.dict (vv 0) (vv 1)) qaf) (vac (qat qaj (qkl hr.dict (vv 0) (vv 1)) qaf) qad))))))))),q6o⟩
theorem qka:FnScope ["way","other"] ["way","other"] (qae qel):=⟨rfl,rfl,rfl,by decide +kernel,rfl,by decide +kernel,by decide +kernel⟩
theorem qj1(F:Fun K "lies_under" "lies_under" qel f fd)(B:Blt K mg cGlassError cNoWay cMissing cNotFolder cNoPlace cAstray cIsFolder cTooDeep cCrowded):FnOk P w K mg base CX0 1 f fd ["way","other"] (spOf K qa2) :=
 F.okV qka qip λcdv A outer s H E hr=>⟨qed,(qag (qar (qzl (qmb qu3 (qde qc1 rfl B.len PyProof.Rows.Boot.«len» (vv 0)) (qde qc1 rfl B.len PyProof.Rows.Boot.«len» (vv 1))) (quy (qmb (qea hr.units) (qc7 (vv 0) qeq (qdl (qde qc1 rfl B.len PyProof.Rows.Boot.«len» (vv 1)))) (vv 1)))))),qmh⟩
theorem qq4:FnScope ["tree","way"] ["tree","way"] (qae qfl):=⟨rfl,rfl,rfl,by decide +kernel,rfl,by decide +kernel,by decide +kernel⟩
theorem qg7:CompScope (qae qfl) ["tree","way"] ["tree","way","entry"] ["entry"] ({ kind:=PySem.ScopeKind.function,names:=[ (PySem.Str.ofString ".0",PySem.NameKind.local),(PySem.Str.ofString "entry",PySem.NameKind.local),(PySem.Str.ofString "lies_under",PySem.NameKind.globalImplicit),(PySem.Str.ofString "way",PySem.NameKind.free)],isGenerator:=false,isCoroutine:=false,more:=[]:PySem.Scope }):=⟨rfl,by decide +kernel,by decide +kernel,by decide +kernel,by decide +kernel,rfl,by decide +kernel⟩
theorem qqt(F:Fun K "without" "without" qfl f fd)(B:Blt K mg cGlassError cNoWay cMissing cNotFolder cNoPlace cAstray cIsFolder cTooDeep cCrowded)(Clies_under:Cal P w K mg base 1 "lies_under" ["way","other"] (spOf K qa2)):FnOk P w K mg base CX0 2 f fd ["tree","way"] (spOf K qcy) :=
 F.okV qq4 qna λcdv A outer s H E hr=>⟨qg5,(qag (qar (vc_e (qf8 (M:=["entry"]) (qfr (vv 0)) rfl qg7 (λcl C s2 H2 fp pn=>(qbc (i:=2) (qg7).nd rfl (Or.inl rfl))) (λcl C s2 H2 fp pn=>(q2x (vw_t (qmf (qaz (qdw hr.units) (qat qaj (vv 2) qaf) (vv 1)) (qig (qd9 (qdi (qas Clies_under (hr.mono (by decide)) rfl (vac (qat qaj (vv 2) qaf) (vac (vv 1) qad)))))))))) (λcl C s2 H2 fp pn=>(vv 2)))))),qvk⟩
theorem qnz:FnScope ["entries"] ["entries"] (qae qf2):=⟨rfl,rfl,rfl,by decide +kernel,rfl,by decide +kernel,by decide +kernel⟩
theorem qnl(F:Fun K "in_order" "in_order" qf2 f fd)(B:Blt K mg cGlassError cNoWay cMissing cNotFolder cNoPlace cAstray cIsFolder cTooDeep cCrowded):FnOk P w K mg base CX0 1 f fd ["entries"] (spOf K qc9) :=
 F.okV qnz qlg λcdv A outer s H E hr=>⟨qfu,(qag (qar (qde (qid hr.units) rfl B.sorted PyProof.Rows.Boot.«sorted» (vv 0)))),qrd⟩
theorem qq3:FnScope ["way","old","new"] ["way","old","new"] (qae qh3):=⟨rfl,rfl,rfl,by decide +kernel,rfl,by decide +kernel,by decide +kernel⟩
theorem qqs(F:Fun K "shifted" "shifted" qh3 f fd)(B:Blt K mg cGlassError cNoWay cMissing cNotFolder cNoPlace cAstray cIsFolder cTooDeep cCrowded)(Clies_under:Cal P w K mg base 1 "lies_under" ["way","other"] (spOf K qa2)):FnOk P w K mg base CX0 2 f fd ["way","old","new"] (spOf K qcx) :=
 F.okV qq3 qm9 λcdv A outer s H E hr=>⟨qg4,(qab (qb2 (vw_t (qko (qaz (qea hr.units) (vv 0) (vv 1)) (qih (qdi (qas Clies_under (hr.mono (by decide)) rfl (vac (vv 0) (vac (vv 1) qad)))))))
   (qag (qar (qaw qay (vv 2) (qc7 (vv 0) (qdl (qde qc1 rfl B.len PyProof.Rows.Boot.«len» (vv 1))) qeq))))
   qau)
  (qag (qar (vv 0)))),qvj⟩
theorem qq1:FnScope ["way","thing","below"] ["way","thing","below"] (qae qfk):=⟨rfl,rfl,rfl,by decide +kernel,rfl,by decide +kernel,by decide +kernel⟩
theorem qdx:CompScope (qae qfk) ["way","thing","below"] ["way","thing","below","under","mark","text"] ["under","mark","text"] ({ kind:=PySem.ScopeKind.function,names:=[ (PySem.Str.ofString ".0",PySem.NameKind.local),(PySem.Str.ofString "under",PySem.NameKind.local),(PySem.Str.ofString "mark",PySem.NameKind.local),(PySem.Str.ofString "text",PySem.NameKind.local),(PySem.Str.ofString "shifted",PySem.NameKind.globalImplicit),(PySem.Str.ofString "way",PySem.NameKind.free)],isGenerator:=false,isCoroutine:=false,more:=[]:PySem.Scope }):=⟨rfl,by decide +kernel,by decide +kernel,by decide +kernel,by decide +kernel,rfl,by decide +kernel⟩
theorem qqp(F:Fun K "planted" "planted" qfk f fd)(B:Blt K mg cGlassError cNoWay cMissing cNotFolder cNoPlace cAstray cIsFolder cTooDeep cCrowded)(Cshifted:Cal P w K mg base 2 "shifted" ["way","old","new"] (spOf K qcx)):FnOk P w K mg base CX0 3 f fd ["way","thing","below"] (spOf K qdq) :=
 F.okV qq1 qm6 λcdv A outer s H E hr=>⟨qg2,(qag (qar (qaw qay (qc0 (vac (qap (vac (vv 0) (vac (qat qaj (vv 1) qaf) (vac (qat qaj (vv 1) qaf) qad)))) qad)) (vc_e (qf8 (M:=["under","mark","text"]) (qfr (vv 2)) rfl qdx (λcl C s2 H2 fp pn=>(qpo rfl (qb7 (qbc (i:=3) (qdx).nd rfl (Or.inl rfl)) (qb7 (qbc (i:=4) (qdx).nd rfl (Or.inl rfl)) (qb7 (qbc (i:=5) (qdx).nd rfl (Or.inl rfl)) qkn))))) (λcl C s2 H2 fp pn=>qie) (λcl C s2 H2 fp pn=>(qap (vac (qas Cshifted (hr.mono (by decide)) rfl (vac (vv 3) (vac (qap qad) (vac (vv 0) qad)))) (vac (vv 4) (vac (vv 5) qad)))))))))),qvg⟩
theorem qqy:FnScope ["tree","way","thing","below"] ["tree","way","thing","below"] (qae qhy):=⟨rfl,rfl,rfl,by decide +kernel,rfl,by decide +kernel,by decide +kernel⟩
theorem qql(F:Fun K "grafted" "grafted" qhy f fd)(B:Blt K mg cGlassError cNoWay cMissing cNotFolder cNoPlace cAstray cIsFolder cTooDeep cCrowded)(Cin_order:Cal P w K mg base 1 "in_order" ["entries"] (spOf K qc9))(Cwithout:Cal P w K mg base 2 "without" ["tree","way"] (spOf K qcy))(Cplanted:Cal P w K mg base 3 "planted" ["way","thing","below"] (spOf K qdq)):FnOk P w K mg base CX0 4 f fd ["tree","way","thing","below"] (spOf K qdo) :=
 F.okV qqy qm2 λcdv A outer s H E hr=>⟨qgz,(qag (qar (qas Cin_order (hr.mono (by decide)) rfl (vac (qaw qay (qas Cwithout (hr.mono (by decide)) rfl (vac (vv 0) (vac (vv 1) qad))) (qas Cplanted (hr.mono (by decide)) rfl (vac (vv 1) (vac (vv 2) (vac (vv 3) qad))))) qad)))),qvc⟩
theorem sc_changed:FnScope ["tree","changes","way","thing","below"] ["tree","changes"] (qae qhw):=⟨rfl,rfl,rfl,by decide +kernel,rfl,by decide +kernel,by decide +kernel⟩
theorem qqj(F:Fun K "changed" "changed" qhw f fd)(B:Blt K mg cGlassError cNoWay cMissing cNotFolder cNoPlace cAstray cIsFolder cTooDeep cCrowded)(Cwithout:Cal P w K mg base 2 "without" ["tree","way"] (spOf K qcy))(Cgrafted:Cal P w K mg base 4 "grafted" ["tree","way","thing","below"] (spOf K qdo)):FnOk P w K mg base CX0 5 f fd ["tree","changes"] (qe6 K qee) :=
 F.okN sc_changed qm0 λcdv A outer s H E hr=>⟨qkw,(qab (qgi PassesOwn.never rfl (qfr (vv 1)) (qpo rfl (qb7 (qbc (i:=2) sc_changed.nd rfl (Or.inl rfl)) (qb7 (qbc (i:=3) sc_changed.nd rfl (Or.inl rfl)) (qb7 (qbc (i:=4) sc_changed.nd rfl (Or.inl rfl)) qkn))))
   (qag (q21 (i:=0) sc_changed.nd rfl (Or.inl rfl) (qu0 (qaz q2y (vv 3) qic) (qu1 (qas Cwithout (hr.mono (by decide)) rfl (vac (vv 0) (vac (vv 2) qad)))) (qu1 (qas Cgrafted (hr.mono (by decide)) rfl (vac (vv 0) (vac (vv 2) (vac (vv 3) (vac (vv 4) qad))))))))))
  (qag (qyj (q2w 0)))),qva⟩
theorem sc_things_of:FnScope ["tree","things","way","mark","text"] ["tree"] (qae qe5):=⟨rfl,rfl,rfl,by decide +kernel,rfl,by decide +kernel,by decide +kernel⟩
theorem qlr(F:Fun K "things_of" "things_of" qe5 f fd)(B:Blt K mg cGlassError cNoWay cMissing cNotFolder cNoPlace cAstray cIsFolder cTooDeep cCrowded):FnOk P w K mg base CX0 1 f fd ["tree"] (spOf K qa4) :=
 F.okV sc_things_of qjs λcdv A outer s H E hr=>⟨qe3,(qab (qfa (i:=1) sc_things_of.nd rfl (Or.inl rfl) (qya hr.dict (qap qad) (qyc (ds:=[D.str ("folder" : Str),D.str ("" : Str)]) rfl (Classical.choose_spec B.g_ROOT_THING).1 ⟨(Classical.choose_spec B.g_ROOT_THING).2,by simp,qhs [("folder" : Str),("" : Str)]⟩)))
  (qab (qgi PassesOwn.never rfl (qfr (vv 0)) (qpo rfl (qb7 (qbc (i:=2) sc_things_of.nd rfl (Or.inl rfl)) (qb7 (qbc (i:=3) sc_things_of.nd rfl (Or.inl rfl)) (qb7 (qbc (i:=4) sc_things_of.nd rfl (Or.inl rfl)) qkn))))
   (qag (qe9 1 hr.dict (vv 2) (qap (vac (vv 3) (vac (vv 4) qad))))))
  (qag (qoe 1)))),qof⟩
theorem qqz:FnScope ["thing"] ["thing"] (qae qfj):=⟨rfl,rfl,rfl,by decide +kernel,rfl,by decide +kernel,by decide +kernel⟩
theorem qg6:CompScope (qae qfj) ["thing"] ["thing","sign"] ["sign"] ({ kind:=PySem.ScopeKind.function,names:=[ (PySem.Str.ofString ".0",PySem.NameKind.local),(PySem.Str.ofString "sign",PySem.NameKind.local),(PySem.Str.ofString "NAME_SIGNS",PySem.NameKind.globalImplicit)],isGenerator:=false,isCoroutine:=false,more:=[]:PySem.Scope }):=⟨rfl,by decide +kernel,by decide +kernel,by decide +kernel,by decide +kernel,rfl,by decide +kernel⟩
theorem qqm(F:Fun K "is_name" "is_name" qfj f fd)(B:Blt K mg cGlassError cNoWay cMissing cNotFolder cNoPlace cAstray cIsFolder cTooDeep cCrowded):FnOk P w K mg base CX0 1 f fd ["thing"] (spOf K qcw) :=
 F.okV qqz qm3 λcdv A outer s H E hr=>⟨qg0,(qab (qb2 (qd9 (qdi (qga .str rfl B.isinstance rfl B.str PyProof.Rows.Boot.«str» (vv 0))))
   (qag (qar qf9))
   qau)
  (qab (qb2 (qd9 (qym q6l q6l qaf (qde qc1 rfl B.len PyProof.Rows.Boot.«len» (vv 0)) (qey (z:=(.int 12)) rfl (Classical.choose_spec B.g_LONGEST_NAME) ⟨_,rfl⟩ rfl)))
   (qag (qar qf9))
   qau)
  (qag (qar (qde (qzm rfl) rfl B.all PyProof.Rows.Boot.«all» (vc_e (qf8 (M:=["sign"]) (qfr (vv 0)) rfl qg6 (λcl C s2 H2 fp pn=>(qbc (i:=1) (qg6).nd rfl (Or.inl rfl))) (λcl C s2 H2 fp pn=>qie) (λcl C s2 H2 fp pn=>(qmb q6k (vv 1) (qey (z:=(.str ("abcdefghijklmnopqrstuvwxyz0123456789" : Str))) rfl (Classical.choose_spec B.g_NAME_SIGNS) ⟨_,rfl⟩ rfl)))))))))),qvd⟩
theorem qq0:FnScope ["text"] ["text"] (qae qhz):=⟨rfl,rfl,rfl,by decide +kernel,rfl,by decide +kernel,by decide +kernel⟩
theorem qqn(F:Fun K "is_word" "is_word" qhz f fd)(B:Blt K mg cGlassError cNoWay cMissing cNotFolder cNoPlace cAstray cIsFolder cTooDeep cCrowded)(Cis_name:Cal P w K mg base 1 "is_name" ["thing"] (spOf K qcw)):FnOk P w K mg base CX0 2 f fd ["text"] (spOf K qdb) :=
 F.okV qq0 qm4 λcdv A outer s H E hr=>⟨qg1,(qag (qar (q7s (qmb q6k (vv 0) (qap (vac qai (vac qai qad)))) (quy (qas Cis_name (hr.mono (by decide)) rfl (vac (vv 0) qad)))))),qve⟩
theorem sc_words_of:FnScope ["text","rooted","words"] ["text"] (qae qex):=⟨rfl,rfl,rfl,by decide +kernel,rfl,by decide +kernel,by decide +kernel⟩
theorem qge:CompScope (qae qex) ["text","rooted","words"] ["text","rooted","words","word"] ["word"] ({ kind:=PySem.ScopeKind.function,names:=[ (PySem.Str.ofString ".0",PySem.NameKind.local),(PySem.Str.ofString "word",PySem.NameKind.local),(PySem.Str.ofString "is_word",PySem.NameKind.globalImplicit)],isGenerator:=false,isCoroutine:=false,more:=[]:PySem.Scope }):=⟨rfl,by decide +kernel,by decide +kernel,by decide +kernel,by decide +kernel,rfl,by decide +kernel⟩
theorem qnp(F:Fun K "words_of" "words_of" qex f fd)(B:Blt K mg cGlassError cNoWay cMissing cNotFolder cNoPlace cAstray cIsFolder cTooDeep cCrowded)(Cis_word:Cal P w K mg base 2 "is_word" ["text"] (spOf K qdb)):FnOk P w K mg base (CXR P w) 3 f fd ["text"] (spOf K qbq) :=
 F.okVX sc_words_of qlk λcdv A outer s H E hr o=>⟨qfy,(qab (qb2 (qaz (qea hr.units) (vv 0) qai)
   (qag (qar (qap (vac qf9 (vac (qc0 qad) qad)))))
   qau)
  (qab (qaq (i:=1) sc_words_of.nd rfl (Or.inl rfl) (quz (vv 0) qai))
  (qab (qaq (i:=2) sc_words_of.nd rfl (Or.inl rfl) (qyd (qpm (qdi (vv 1)) (qc7 (vv 0) (qdl qaf) qeq) (vv 0)) qai))
  (qab (qb2 (vw_t (qko (qaz qu3 (qde qc1 rfl B.len PyProof.Rows.Boot.«len» (vv 2)) (qey (z:=(.int 40)) rfl (Classical.choose_spec B.g_MOST_WORDS) ⟨_,rfl⟩ rfl)) (qih (qd9 (qdi (qde (qzm rfl) rfl B.all PyProof.Rows.Boot.«all» (vc_e (qf8 (M:=["word"]) (qfr (vv 2)) rfl qge (λcl C s2 H2 fp pn=>(qbc (i:=3) (qge).nd rfl (Or.inl rfl))) (λcl C s2 H2 fp pn=>qie) (λcl C s2 H2 fp pn=>(qas Cis_word (hr.mono (by decide)) rfl (vac (vv 3) qad)))))))))))
   (qag (qdh ⟨cNoWay,B.NoWay,B.k_NoWay,B.x_NoWay⟩ rfl rfl o (vac (vv 0) qad)))
   qau)
  (qag (qar (qap (vac (vv 1) (vac (vv 2) qad))))))))),qrh⟩
theorem qxq:FnScope ["way"] ["way"] (qae qnt):=⟨rfl,rfl,rfl,by decide +kernel,rfl,by decide +kernel,by decide +kernel⟩
theorem qwu(F:Fun K "above" "above" qnt f fd)(B:Blt K mg cGlassError cNoWay cMissing cNotFolder cNoPlace cAstray cIsFolder cTooDeep cCrowded):FnOk P w K mg base CX0 1 f fd ["way"] (spOf K qdy) :=
 F.okV qxq qtb λcdv A outer s H E hr=>⟨qml,(qag (qar (qc7 (vv 0) qeq (qdl (qpn qaf))))),q23⟩
theorem q2k:FnScope ["way","word"] ["way","word"] (qae quf):=⟨rfl,rfl,rfl,by decide +kernel,rfl,by decide +kernel,by decide +kernel⟩
theorem q01(F:Fun K "step" "step" quf f fd)(B:Blt K mg cGlassError cNoWay cMissing cNotFolder cNoPlace cAstray cIsFolder cTooDeep cCrowded)(Cabove:Cal P w K mg base 1 "above" ["way"] (spOf K qdy)):FnOk P w K mg base CX0 2 f fd ["way","word"] (spOf K qiy) :=
 F.okV q2k qwh λcdv A outer s H E hr=>⟨qyq,(qab (qb2 (qaz (qea hr.units) (vv 1) qai)
   (qag (qar (vv 0)))
   qau)
  (qab (qb2 (qaz (qea hr.units) (vv 1) qai)
   (qag (qar (qas Cabove (hr.mono (by decide)) rfl (vac (vv 0) qad))))
   qau)
  (qag (qar (qaw qay (vv 0) (qap (vac (vv 1) qad))))))),q6q⟩
theorem qn0:FnScope ["followed"] ["followed"] (qae qf3):=⟨rfl,rfl,rfl,by decide +kernel,rfl,by decide +kernel,by decide +kernel⟩
theorem qnm(F:Fun K "one_more" "one_more" qf3 f fd)(B:Blt K mg cGlassError cNoWay cMissing cNotFolder cNoPlace cAstray cIsFolder cTooDeep cCrowded):FnOk P w K mg base (CXR P w) 1 f fd ["followed"] (spOf K qbx) :=
 F.okVX qn0 qlh λcdv A outer s H E hr o=>⟨qfv,(qab (qb2 (qaz (qea hr.units) (vv 0) (qey (z:=(.int 8)) rfl (Classical.choose_spec B.g_MOST_LINKS) ⟨_,rfl⟩ rfl))
   (qag (qdh ⟨cAstray,B.Astray,B.k_Astray,B.x_Astray⟩ rfl rfl o (vac qai qad)))
   qau)
  (qag (qar (qaw qay (vv 0) qaf)))),qre⟩
theorem qn1:FnScope ["rooted","at"] ["rooted","at"] (qae qf4):=⟨rfl,rfl,rfl,by decide +kernel,rfl,by decide +kernel,by decide +kernel⟩
theorem qnn(F:Fun K "start_of" "start_of" qf4 f fd)(B:Blt K mg cGlassError cNoWay cMissing cNotFolder cNoPlace cAstray cIsFolder cTooDeep cCrowded):FnOk P w K mg base CX0 1 f fd ["rooted","at"] (spOf K qbd) :=
 F.okV qn1 qli λcdv A outer s H E hr=>⟨qfw,(qag (qar (qpm (qdi (vv 0)) (qap qad) (vv 1)))),qrf⟩
theorem sc_walk:FnScope ["things","at","words","followed","trail","left","word","then","thing","led"] ["things","at","words","followed"] (qae qug):=⟨rfl,rfl,rfl,by decide +kernel,rfl,by decide +kernel,by decide +kernel⟩
theorem q02(F:Fun K "walk" "walk" qug f fd)(B:Blt K mg cGlassError cNoWay cMissing cNotFolder cNoPlace cAstray cIsFolder cTooDeep cCrowded)(Cstep:Cal P w K mg base 2 "step" ["way","word"] (spOf K qiy))(Cone_more:CalX P w K mg base 1 "one_more" ["followed"] (spOf K qbx))(Cwords_of:CalX P w K mg base 3 "words_of" ["text"] (spOf K qbq))(Cstart_of:Cal P w K mg base 1 "start_of" ["rooted","at"] (spOf K qbd)):FnOk P w K mg base (CXR P w) 4 f fd ["things","at","words","followed"] (spOf K qff) :=
 F.okVX sc_walk qwi λcdv A outer s H E hr o=>⟨qr6,(qab (qfa (i:=4) sc_walk.nd rfl (Or.inl rfl) (qc0 qad))
  (qab (qfa (i:=5) sc_walk.nd rfl (Or.inl rfl) (qux qu2 rfl B.list PyProof.Rows.Boot.«list» (vv 2)))
  (qab (qps PassesOwn.leaving (qaz (qdw hr.units) (vv 5) (qc0 qad))
   (qab (q20 (j:=6) (i:=5) sc_walk.nd rfl (Or.inl rfl) qaf)
  (qab (qaq (i:=7) sc_walk.nd rfl (Or.inl rfl) (qas Cstep (hr.mono (by decide)) rfl (vac (vv 1) (vac (vv 6) qad))))
  (qab (qaq (i:=8) sc_walk.nd rfl (Or.inl rfl) (qgu hr.dict (vv 0) (vv 7)))
  (qab (qb2 (qaz q2y (vv 8) qic)
   (qag (qdh ⟨cMissing,B.Missing,B.k_Missing,B.x_Missing⟩ rfl rfl o (vac qai qad)))
   qau)
  (qab (qb2 (vw_t (qmf (qaz (qea hr.units) (qat qaj (vv 8) qaf) qai) (qig (qaz (qdw hr.units) (vv 5) (qc0 qad)))))
   (qag (qdh ⟨cNotFolder,B.NotFolder,B.k_NotFolder,B.x_NotFolder⟩ rfl rfl o (vac qai qad)))
   qau)
  (qab (qb2 (qaz (qea hr.units) (qat qaj (vv 8) qaf) qai)
   (qab (qaq (i:=3) sc_walk.nd rfl (Or.inl rfl) (qcn Cone_more o (hr.mono (by decide)) rfl (vac (vv 3) qad)))
  (qab (qaq (i:=9) sc_walk.nd rfl (Or.inl rfl) (qcn Cwords_of o (hr.mono (by decide)) rfl (vac (qat qaj (vv 8) qaf) qad)))
  (qab (qaq (i:=7) sc_walk.nd rfl (Or.inl rfl) (qas Cstart_of (hr.mono (by decide)) rfl (vac (qat qaj (vv 9) qaf) (vac (vv 1) qad))))
  (qag (qfa (i:=5) sc_walk.nd rfl (Or.inl rfl) (qaw qay (qat qaj (vv 9) qaf) (vv 5)))))))
   qau)
  (qab (qme 4 (qap (vac (vv 1) (vac (vv 6) (vac (vv 7) qad)))))
  (qag (qaq (i:=1) sc_walk.nd rfl (Or.inl rfl) (vv 7)))))))))))
  (q22 4 (qag (qar (qap (vac (vv 4) (vac (vv 1) (vac (vv 3) qad)))))))))),w_walk⟩
theorem sc_placed:FnScope ["things","at","text","followed","found","words","come"] ["things","at","text","followed"] (qae qj7):=⟨rfl,rfl,rfl,by decide +kernel,rfl,by decide +kernel,by decide +kernel⟩
theorem qtx(F:Fun K "placed" "placed" qj7 f fd)(B:Blt K mg cGlassError cNoWay cMissing cNotFolder cNoPlace cAstray cIsFolder cTooDeep cCrowded)(Cwords_of:CalX P w K mg base 3 "words_of" ["text"] (spOf K qbq))(Cis_name:Cal P w K mg base 1 "is_name" ["thing"] (spOf K qcw))(Cwalk:CalX P w K mg base 4 "walk" ["things","at","words","followed"] (spOf K qff))(Cstart_of:Cal P w K mg base 1 "start_of" ["rooted","at"] (spOf K qbd)):FnOk P w K mg base (CXR P w) 5 f fd ["things","at","text","followed"] (spOf K qdz) :=
 F.okVX sc_placed len_placed λcdv A outer s H E hr o=>⟨qjg,(qab (qaq (i:=4) sc_placed.nd rfl (Or.inl rfl) (qcn Cwords_of o (hr.mono (by decide)) rfl (vac (vv 2) qad)))
  (qab (qaq (i:=5) sc_placed.nd rfl (Or.inl rfl) (qat qaj (vv 4) qaf))
  (qab (qb2 (vw_t (qko (qaz (qea hr.units) (vv 5) (qc0 qad)) (qih (qd9 (qdi (qas Cis_name (hr.mono (by decide)) rfl (vac (qat qaj (vv 5) (qpn qaf)) qad)))))))
   (qag (qdh ⟨cNoPlace,B.NoPlace,B.k_NoPlace,B.x_NoPlace⟩ rfl rfl o (vac qai qad)))
   qau)
  (qab (qaq (i:=6) sc_placed.nd rfl (Or.inl rfl) (qcn Cwalk o (hr.mono (by decide)) rfl (vac (vv 0) (vac (qas Cstart_of (hr.mono (by decide)) rfl (vac (qat qaj (vv 4) qaf) (vac (vv 1) qad))) (vac (qc7 (vv 5) qeq (qdl (qpn qaf))) (vac (vv 3) qad))))))
  (qab (qb2 (qaz (qdw hr.units) (qat qaj (qkl hr.dict (vv 0) (qat qaj (vv 6) qaf)) qaf) qai)
   (qag (qdh ⟨cNotFolder,B.NotFolder,B.k_NotFolder,B.x_NotFolder⟩ rfl rfl o (vac qai qad)))
   qau)
  (qag (qar (qap (vac (qaw qay (qat qaj (vv 6) qaf) (qap (vac (qat qaj (vv 5) (qpn qaf)) qad))) (vac (qat qaj (vv 6) qaf) qad)))))))))),qyn⟩
theorem sc_goal_of:FnScope ["tree","at","text","things","found","thing"] ["tree","at","text"] (qae qhx):=⟨rfl,rfl,rfl,by decide +kernel,rfl,by decide +kernel,by decide +kernel⟩
theorem qqk(F:Fun K "goal_of" "goal_of" qhx f fd)(B:Blt K mg cGlassError cNoWay cMissing cNotFolder cNoPlace cAstray cIsFolder cTooDeep cCrowded)(Cthings_of:Cal P w K mg base 1 "things_of" ["tree"] (spOf K qa4))(Cplaced:CalX P w K mg base 5 "placed" ["things","at","text","followed"] (spOf K qdz))(Cabove:Cal P w K mg base 1 "above" ["way"] (spOf K qdy))(Cone_more:CalX P w K mg base 1 "one_more" ["followed"] (spOf K qbx)):FnOk P w K mg base (CXR P w) 6 f fd ["tree","at","text"] (spOf K qdn) :=
 F.okVX sc_goal_of qm1 λcdv A outer s H E hr o=>⟨qgy,(qab (qaq (i:=3) sc_goal_of.nd rfl (Or.inl rfl) (qas Cthings_of (hr.mono (by decide)) rfl (vac (vv 0) qad)))
  (qab (qaq (i:=4) sc_goal_of.nd rfl (Or.inl rfl) (qcn Cplaced o (hr.mono (by decide)) rfl (vac (vv 3) (vac (vv 1) (vac (vv 2) (vac qaf qad))))))
  (qab (qaq (i:=5) sc_goal_of.nd rfl (Or.inl rfl) (qgu hr.dict (vv 3) (qat qaj (vv 4) qaf)))
  (qab (qps PassesOwn.leaving (vw_t (qmf (qaz qyh (vv 5) qic) (qig (qaz (qea hr.units) (qat qaj (vv 5) qaf) qai))))
   (qab (qaq (i:=4) sc_goal_of.nd rfl (Or.inl rfl) (qcn Cplaced o (hr.mono (by decide)) rfl (vac (vv 3) (vac (qas Cabove (hr.mono (by decide)) rfl (vac (qat qaj (vv 4) qaf) qad)) (vac (qat qaj (vv 5) qaf) (vac (qcn Cone_more o (hr.mono (by decide)) rfl (vac (qat qaj (vv 4) qaf) qad)) qad))))))
  (qag (qaq (i:=5) sc_goal_of.nd rfl (Or.inl rfl) (qgu hr.dict (vv 3) (qat qaj (vv 4) qaf))))))
  (qag (qar (qat qaj (vv 4) qaf))))))),qvb⟩
theorem qn2:FnScope ["tree","way"] ["tree","way"] (qae qf5):=⟨rfl,rfl,rfl,by decide +kernel,rfl,by decide +kernel,by decide +kernel⟩
theorem qno(F:Fun K "thing_at" "thing_at" qf5 f fd)(B:Blt K mg cGlassError cNoWay cMissing cNotFolder cNoPlace cAstray cIsFolder cTooDeep cCrowded)(Cthings_of:Cal P w K mg base 1 "things_of" ["tree"] (spOf K qa4)):FnOk P w K mg base CX0 2 f fd ["tree","way"] (spOf K qby) :=
 F.okV qn2 qlj λcdv A outer s H E hr=>⟨qfx,(qag (qar (qgu hr.dict (qas Cthings_of (hr.mono (by decide)) rfl (vac (vv 0) qad)) (vv 1)))),qrg⟩
theorem sc_refuse_depth:FnScope ["way","below","deepest"] ["way","below"] (qae qcr):=⟨rfl,rfl,rfl,by decide +kernel,rfl,by decide +kernel,by decide +kernel⟩
theorem qb6:CompScope (qae qcr) ["way","below","deepest"] ["way","below","deepest","under","mark","text"] ["under","mark","text"] ({ kind:=PySem.ScopeKind.function,names:=[ (PySem.Str.ofString ".0",PySem.NameKind.local),(PySem.Str.ofString "under",PySem.NameKind.local),(PySem.Str.ofString "mark",PySem.NameKind.local),(PySem.Str.ofString "text",PySem.NameKind.local),(PySem.Str.ofString "len",PySem.NameKind.globalImplicit)],isGenerator:=false,isCoroutine:=false,more:=[]:PySem.Scope }):=⟨rfl,by decide +kernel,by decide +kernel,by decide +kernel,by decide +kernel,rfl,by decide +kernel⟩
theorem qho(F:Fun K "refuse_depth" "refuse_depth" qcr f fd)(B:Blt K mg cGlassError cNoWay cMissing cNotFolder cNoPlace cAstray cIsFolder cTooDeep cCrowded):FnOk P w K mg base CX0 1 f fd ["way","below"] (spOf K qbp) :=
 F.okV sc_refuse_depth qgm λcdv A outer s H E hr=>⟨qe1,(qab (qaq (i:=2) sc_refuse_depth.nd rfl (Or.inl rfl) (q2t rfl rfl B.max PyProof.Rows.Boot.«max» (vc_e (qf8 (M:=["under","mark","text"]) (qfr (vv 1)) rfl qb6 (λcl C s2 H2 fp pn=>(qpo rfl (qb7 (qbc (i:=3) (qb6).nd rfl (Or.inl rfl)) (qb7 (qbc (i:=4) (qb6).nd rfl (Or.inl rfl)) (qb7 (qbc (i:=5) (qb6).nd rfl (Or.inl rfl)) qkn))))) (λcl C s2 H2 fp pn=>qie) (λcl C s2 H2 fp pn=>(qde qc1 rfl B.len PyProof.Rows.Boot.«len» (vv 3)))))))
  (qag (qb2 (qaz qu3 (qaw qay (qde qc1 rfl B.len PyProof.Rows.Boot.«len» (vv 0)) (vv 2)) (qey (z:=(.int 12)) rfl (Classical.choose_spec B.g_MOST_NAMES) ⟨_,rfl⟩ rfl))
   (qag qpr)
   qau))),qit⟩
theorem qh4:FnScope ["tree","below"] ["tree","below"] (qae qdk):=⟨rfl,rfl,rfl,by decide +kernel,rfl,by decide +kernel,by decide +kernel⟩
theorem qhn(F:Fun K "refuse_crowd" "refuse_crowd" qdk f fd)(B:Blt K mg cGlassError cNoWay cMissing cNotFolder cNoPlace cAstray cIsFolder cTooDeep cCrowded):FnOk P w K mg base CX0 1 f fd ["tree","below"] (spOf K qbo) :=
 F.okV qh4 qgl λcdv A outer s H E hr=>⟨qdj,(qag (qb2 (qaz qu3 (qaw qay (qaw qay (qde qc1 rfl B.len PyProof.Rows.Boot.«len» (vv 0)) qaf) (qde qc1 rfl B.len PyProof.Rows.Boot.«len» (vv 1))) (qey (z:=(.int 60)) rfl (Classical.choose_spec B.g_MOST_ENTRIES) ⟨_,rfl⟩ rfl))
   (qag qpr)
   qau)),qis⟩
theorem qq2:FnScope ["tree","way","thing"] ["tree","way","thing"] (qae qh1):=⟨rfl,rfl,rfl,by decide +kernel,rfl,by decide +kernel,by decide +kernel⟩
theorem qqq(F:Fun K "put_new" "put_new" qh1 f fd)(B:Blt K mg cGlassError cNoWay cMissing cNotFolder cNoPlace cAstray cIsFolder cTooDeep cCrowded)(Crefuse_depth:Cal P w K mg base 1 "refuse_depth" ["way","below"] (spOf K qbp))(Crefuse_crowd:Cal P w K mg base 1 "refuse_crowd" ["tree","below"] (spOf K qbo)):FnOk P w K mg base CX0 2 f fd ["tree","way","thing"] (spOf K qdr) :=
 F.okV qq2 qm7 λcdv A outer s H E hr=>⟨qg3,(qab (qu5 (qas Crefuse_depth (hr.mono (by decide)) rfl (vac (vv 1) (vac (qc0 qad) qad))))
  (qab (qu5 (qas Crefuse_crowd (hr.mono (by decide)) rfl (vac (vv 0) (vac (qc0 qad) qad))))
  (qag (qar (qap (vac (vv 1) (vac (vv 2) (vac (qc0 qad) qad)))))))),qvh⟩
theorem sc_write_changes:FnScope ["tree","deed","way","thing"] ["tree","deed"] (qae qbi):=⟨rfl,rfl,rfl,by decide +kernel,rfl,by decide +kernel,by decide +kernel⟩
theorem qgo(F:Fun K "write_changes" "write_changes" qbi f fd)(B:Blt K mg cGlassError cNoWay cMissing cNotFolder cNoPlace cAstray cIsFolder cTooDeep cCrowded)(Cgoal_of:CalX P w K mg base 6 "goal_of" ["tree","at","text"] (spOf K qdn))(Cthing_at:Cal P w K mg base 2 "thing_at" ["tree","way"] (spOf K qby))(Cput_new:Cal P w K mg base 2 "put_new" ["tree","way","thing"] (spOf K qdr)):FnOk P w K mg base (CXR P w) 7 f fd ["tree","deed"] (spOf K qbh) :=
 F.okVX sc_write_changes qf0 λcdv A outer s H E hr o=>⟨qbr,(qab (qaq (i:=2) sc_write_changes.nd rfl (Or.inl rfl) (qcn Cgoal_of o (hr.mono (by decide)) rfl (vac (vv 0) (vac (qap qad) (vac (qat qaj (vv 1) qaf) qad)))))
  (qab (qaq (i:=3) sc_write_changes.nd rfl (Or.inl rfl) (qas Cthing_at (hr.mono (by decide)) rfl (vac (vv 0) (vac (vv 2) qad))))
  (qab (qb2 (qaz q2y (vv 3) qic)
   (qag (qar (qc0 (vac (qas Cput_new (hr.mono (by decide)) rfl (vac (vv 0) (vac (vv 2) (vac (qap (vac qai (vac (qat qaj (vv 1) qaf) qad))) qad)))) qad))))
   qau)
  (qab (qb2 (qaz (qea hr.units) (qat qaj (vv 3) qaf) qai)
   (qag (qdh ⟨cIsFolder,B.IsFolder,B.k_IsFolder,B.x_IsFolder⟩ rfl rfl o (vac qai qad)))
   qau)
  (qag (qar (qc0 (vac (qap (vac (vv 2) (vac (qap (vac qai (vac (qat qaj (vv 1) qaf) qad))) (vac (qc0 qad) qad)))) qad)))))))),qii⟩
theorem sc_walked:FnScope ["tree","at","text","found"] ["tree","at","text"] (qae qj8):=⟨rfl,rfl,rfl,by decide +kernel,rfl,by decide +kernel,by decide +kernel⟩
theorem qty(F:Fun K "walked" "walked" qj8 f fd)(B:Blt K mg cGlassError cNoWay cMissing cNotFolder cNoPlace cAstray cIsFolder cTooDeep cCrowded)(Cwords_of:CalX P w K mg base 3 "words_of" ["text"] (spOf K qbq))(Cwalk:CalX P w K mg base 4 "walk" ["things","at","words","followed"] (spOf K qff))(Cthings_of:Cal P w K mg base 1 "things_of" ["tree"] (spOf K qa4))(Cstart_of:Cal P w K mg base 1 "start_of" ["rooted","at"] (spOf K qbd)):FnOk P w K mg base (CXR P w) 5 f fd ["tree","at","text"] (spOf K qet) :=
 F.okVX sc_walked qqd λcdv A outer s H E hr o=>⟨qjh,(qab (qaq (i:=3) sc_walked.nd rfl (Or.inl rfl) (qcn Cwords_of o (hr.mono (by decide)) rfl (vac (vv 2) qad)))
  (qag (qar (qcn Cwalk o (hr.mono (by decide)) rfl (vac (qas Cthings_of (hr.mono (by decide)) rfl (vac (vv 0) qad)) (vac (qas Cstart_of (hr.mono (by decide)) rfl (vac (qat qaj (vv 3) qaf) (vac (vv 1) qad))) (vac (qat qaj (vv 3) qaf) (vac qaf qad)))))))),qyo⟩
theorem qny:FnScope ["tree","at","text"] ["tree","at","text"] (qae qf1):=⟨rfl,rfl,rfl,by decide +kernel,rfl,by decide +kernel,by decide +kernel⟩
theorem qnk(F:Fun K "find_way" "find_way" qf1 f fd)(B:Blt K mg cGlassError cNoWay cMissing cNotFolder cNoPlace cAstray cIsFolder cTooDeep cCrowded)(Cwalked:CalX P w K mg base 5 "walked" ["tree","at","text"] (spOf K qet)):FnOk P w K mg base (CXR P w) 6 f fd ["tree","at","text"] (spOf K qc8) :=
 F.okVX qny qlf λcdv A outer s H E hr o=>⟨qft,(qag (qar (qat qaj (qcn Cwalked o (hr.mono (by decide)) rfl (vac (vv 0) (vac (vv 1) (vac (vv 2) qad)))) qaf))),qrc⟩
theorem sc_add_changes:FnScope ["tree","deed","way","thing"] ["tree","deed"] (qae qb0):=⟨rfl,rfl,rfl,by decide +kernel,rfl,by decide +kernel,by decide +kernel⟩
theorem qiq(F:Fun K "add_changes" "add_changes" qb0 f fd)(B:Blt K mg cGlassError cNoWay cMissing cNotFolder cNoPlace cAstray cIsFolder cTooDeep cCrowded)(Cfind_way:CalX P w K mg base 6 "find_way" ["tree","at","text"] (spOf K qc8))(Cthing_at:Cal P w K mg base 2 "thing_at" ["tree","way"] (spOf K qby)):FnOk P w K mg base (CXR P w) 7 f fd ["tree","deed"] (spOf K qbw) :=
 F.okVX sc_add_changes qhg λcdv A outer s H E hr o=>⟨qcd,(qab (qaq (i:=2) sc_add_changes.nd rfl (Or.inl rfl) (qcn Cfind_way o (hr.mono (by decide)) rfl (vac (vv 0) (vac (qap qad) (vac (qat qaj (vv 1) qaf) qad)))))
  (qab (qaq (i:=3) sc_add_changes.nd rfl (Or.inl rfl) (qas Cthing_at (hr.mono (by decide)) rfl (vac (vv 0) (vac (vv 2) qad))))
  (qab (qb2 (qaz (qea hr.units) (qat qaj (vv 3) qaf) qai)
   (qag (qdh ⟨cIsFolder,B.IsFolder,B.k_IsFolder,B.x_IsFolder⟩ rfl rfl o (vac qai qad)))
   qau)
  (qag (qar (qc0 (vac (qap (vac (vv 2) (vac (qap (vac qai (vac (qaw qay (qat qaj (vv 3) qaf) (qat qaj (vv 1) qaf)) qad))) (vac (qc0 qad) qad)))) qad))))))),qkp⟩
theorem qj9:FnScope ["tree","deed"] ["tree","deed"] (qae qek):=⟨rfl,rfl,rfl,by decide +kernel,rfl,by decide +kernel,by decide +kernel⟩
theorem qj0(F:Fun K "changes_of" "changes_of" qek f fd)(B:Blt K mg cGlassError cNoWay cMissing cNotFolder cNoPlace cAstray cIsFolder cTooDeep cCrowded)(Cwrite_changes:CalX P w K mg base 7 "write_changes" ["tree","deed"] (spOf K qbh))(Cadd_changes:CalX P w K mg base 7 "add_changes" ["tree","deed"] (spOf K qbw))(T_CHANGES:TabF w K mg ("CHANGES" : Str) [(("write" : Str),("write_changes" : Str)),(("add" : Str),("add_changes" : Str))]):FnOk P w K mg base (CXR P w) 8 f fd ["tree","deed"] (spOf K qb8) :=
 F.okVX qj9 qio λcdv A outer s H E hr o=>⟨qec,(qag (qar (q2u (keys:=[("write" : Str),("add" : Str)]) (gs:=(λz=>if z=("write" : Str) then qbh else if z=("add" : Str) then qbw else λ_ _=>False)) T_CHANGES (λd hd=>(qpf Cwrite_changes (hd _ (.head _)) (hr.mono (by decide)) (qpf Cadd_changes (hd _ (.tail _ (.head _))) (hr.mono (by decide)) (q2q (gs:=λ_ _ _=>False))))) o rfl (qat qaj (vv 1) qaf) (vac (vv 0) (vac (vv 1) qad))))),qmg⟩
theorem q2i:FnScope ["tree","deed"] ["tree","deed"] (qae que):=⟨rfl,rfl,rfl,by decide +kernel,rfl,by decide +kernel,by decide +kernel⟩
theorem q0y(F:Fun K "done" "done" que f fd)(B:Blt K mg cGlassError cNoWay cMissing cNotFolder cNoPlace cAstray cIsFolder cTooDeep cCrowded)(Cchanged:Cal P w K mg base 5 "changed" ["tree","changes"] (qe6 K qee))(Cchanges_of:CalX P w K mg base 8 "changes_of" ["tree","deed"] (spOf K qb8)):FnOk P w K mg base (CXR P w) 9 f fd ["tree","deed"] (qe6 K qix) :=
 F.okNX q2i qwe λcdv A outer s H E hr o=>⟨qr0,(qag (qu6 Cchanged (hr.mono (by decide)) rfl (vac (vv 0) (vac (qcn Cchanges_of o (hr.mono (by decide)) rfl (vac (vv 0) (vac (vv 1) qad))) qad)))),q6n⟩
theorem qxr:FnScope ["_law_tree","_law_deed"] ["_law_tree","_law_deed"] (qae qnu):=⟨rfl,rfl,rfl,by decide +kernel,rfl,by decide +kernel,by decide +kernel⟩
theorem qwv(F:Fun K "_law_asked" "_law_asked" qnu f fd)(B:Blt K mg cGlassError cNoWay cMissing cNotFolder cNoPlace cAstray cIsFolder cTooDeep cCrowded)(Cdone:CalX P w K mg base 9 "done" ["tree","deed"] (qe6 K qix)):FnOk P w K mg base CX0 10 f fd ["_law_tree","_law_deed"] (qe6 K qda) :=
 F.okN qxr qtc λcdv A outer s H E hr=>⟨qmm,(qag (q6m (λpn E EX' po1 o1=>(qag (qyk qai Cdone o1 (hr.mono (by decide)) rfl (vac (vv 0) (vac (vv 1) qad)))))
   (qod (yes:=["IsFolder"]) (no:=["NoWay","TooDeep","Crowded","Astray","Missing","NotFolder","NoPlace"]) ⟨.ref cIsFolder,B.IsFolder,(qa5 B.k_IsFolder B.m_IsFolder_IsFolder qiu),(qa5 B.k_NoWay B.m_NoWay_IsFolder (qa5 B.k_TooDeep B.m_TooDeep_IsFolder (qa5 B.k_Crowded B.m_Crowded_IsFolder (qa5 B.k_Astray B.m_Astray_IsFolder (qa5 B.k_Missing B.m_Missing_IsFolder (qa5 B.k_NotFolder B.m_NotFolder_IsFolder (qa5 B.k_NoPlace B.m_NoPlace_IsFolder qiu)))))))⟩ rfl (λe pn E=>(qag (qar (qap (vac qai (vac qic qad)))))) (qod (yes:=["Missing"]) (no:=["NoWay","TooDeep","Crowded","Astray","NotFolder","NoPlace","IsFolder"]) ⟨.ref cMissing,B.Missing,(qa5 B.k_Missing B.m_Missing_Missing qiu),(qa5 B.k_NoWay B.m_NoWay_Missing (qa5 B.k_TooDeep B.m_TooDeep_Missing (qa5 B.k_Crowded B.m_Crowded_Missing (qa5 B.k_Astray B.m_Astray_Missing (qa5 B.k_NotFolder B.m_NotFolder_Missing (qa5 B.k_NoPlace B.m_NoPlace_Missing (qa5 B.k_IsFolder B.m_IsFolder_Missing qiu)))))))⟩ rfl (λe pn E=>(qag (qar (qap (vac qai (vac qic qad)))))) (qod (yes:=["NoWay","TooDeep","Crowded","Astray","Missing","NotFolder","NoPlace","IsFolder"]) (no:=[]) ⟨.ref cGlassError,B.GlassError,(qa5 B.k_NoWay B.m_NoWay_GlassError (qa5 B.k_TooDeep B.m_TooDeep_GlassError (qa5 B.k_Crowded B.m_Crowded_GlassError (qa5 B.k_Astray B.m_Astray_GlassError (qa5 B.k_Missing B.m_Missing_GlassError (qa5 B.k_NotFolder B.m_NotFolder_GlassError (qa5 B.k_NoPlace B.m_NoPlace_GlassError (qa5 B.k_IsFolder B.m_IsFolder_GlassError qiu)))))))),qiu⟩ rfl (λe pn E=>(qag (qar (qap (vac qai (vac qic qad)))))) q6j))))),q24⟩
theorem sc_same:FnScope ["_law_found","_law_due","_law_k","_law_row"] ["_law_found","_law_due"] (qae s_same):=⟨rfl,rfl,rfl,by decide +kernel,rfl,by decide +kernel,by decide +kernel⟩
theorem q00(F:Fun K "_law_same" "_law_same" s_same f fd)(B:Blt K mg cGlassError cNoWay cMissing cNotFolder cNoPlace cAstray cIsFolder cTooDeep cCrowded):FnOk P w K mg base CX0 1 f fd ["_law_found","_law_due"] (spOf K g_same) :=
 F.okV sc_same qwg λcdv A outer s H E hr=>⟨qr5,(qab (qb2 (vw_t (qko (qd9 (qdi (qga .list rfl B.isinstance rfl B.list PyProof.Rows.Boot.«list» (vv 0)))) (qih (qaz (qdw hr.units) (qde qc1 rfl B.len PyProof.Rows.Boot.«len» (vv 0)) (qde qc1 rfl B.len PyProof.Rows.Boot.«len» (vv 1))))))
   (qag (qar qf9))
   qau)
  (qab (qgi PassesOwn.never rfl (qif rfl B.range (qde qc1 rfl B.len PyProof.Rows.Boot.«len» (vv 1))) (qbc (i:=2) sc_same.nd rfl (Or.inl rfl))
   (qab (qaq (i:=3) sc_same.nd rfl (Or.inl rfl) (qat qaj (vv 0) (vv 2)))
  (qab (qb2 (vw_t (qko (qd9 (qdi (qga .tuple rfl B.isinstance rfl B.tuple PyProof.Rows.Boot.«tuple» (vv 3)))) (qko (qaz (qdw hr.units) (qde qc1 rfl B.len PyProof.Rows.Boot.«len» (vv 3)) qaf) (qih (qd9 (qdi (qga .tuple rfl B.isinstance rfl B.tuple PyProof.Rows.Boot.«tuple» (qat qaj (vv 3) qaf))))))))
   (qag (qar qf9))
   qau)
  (qag (qb2 (vw_t (qko (qd9 (qdi (qga .str rfl B.isinstance rfl B.str PyProof.Rows.Boot.«str» (qat qaj (vv 3) qaf)))) (qko (qd9 (qdi (qga .str rfl B.isinstance rfl B.str PyProof.Rows.Boot.«str» (qat qaj (vv 3) qaf)))) (qih (qaz (qdw hr.units) (vv 3) (qat qaj (vv 1) (vv 2)))))))
   (qag (qar qf9))
   qau)))))
  (qag (qar qf9)))),q6p⟩
theorem sc_edges:FnScope ["_law_tree","_law_folder","_law_name","_law_told"] ["_law_tree","_law_folder","_law_name"] (qae qnv):=⟨rfl,rfl,rfl,by decide +kernel,rfl,by decide +kernel,by decide +kernel⟩
theorem qww(F:Fun K "_law_edges" "_law_edges" qnv f fd)(B:Blt K mg cGlassError cNoWay cMissing cNotFolder cNoPlace cAstray cIsFolder cTooDeep cCrowded)(Casked:Cal P w K mg base 10 "_law_asked" ["_law_tree","_law_deed"] (qe6 K qda))(Csame:Cal P w K mg base 1 "_law_same" ["_law_found","_law_due"] (spOf K g_same)):FnOk P w K mg base CX0 11 f fd ["_law_tree","_law_folder","_law_name"] (spOf K qhc) :=
 F.okV sc_edges qtd λcdv A outer s H E hr=>⟨qr1,(qab (qb2 (vw_t (qmf (qaz (qdw hr.units) (vv 1) qai) (qig (qaz (qdw hr.units) (qat qaj (qas Casked.weak (hr.mono (by decide)) rfl (vac (vv 0) (vac (qap (vac qai (vac (vv 1) (vac qai qad)))) qad))) qaf) qai))))
   (qag (qar qf9))
   qau)
  (qab (qb2 (qaz (qdw hr.units) (qat qaj (qas Casked.weak (hr.mono (by decide)) rfl (vac (vv 0) (vac (qap (vac qai (vac (qaw qay qai (vv 1)) (vac qai qad)))) qad))) qaf) qai)
   (qag (qar qf9))
   qau)
  (qab (qb2 (qaz (qdw hr.units) (qat qaj (qas Casked.weak (hr.mono (by decide)) rfl (vac (vv 0) (vac (qap (vac qai (vac (vv 2) (vac qai qad)))) qad))) qaf) qai)
   (qag (qar qf9))
   qau)
  (qab (qaq (i:=3) sc_edges.nd rfl (Or.inl rfl) (qas Casked.weak (hr.mono (by decide)) rfl (vac (vv 0) (vac (qap (vac qai (vac (vv 2) (vac qai qad)))) qad))))
  (qag (qar (qzl (qmb (qea hr.units) (qat qaj (vv 3) qaf) qai) (quy (qas Csame (hr.mono (by decide)) rfl (vac (qat qaj (vv 3) qaf) (vac (qde (qid hr.units) rfl B.sorted PyProof.Rows.Boot.«sorted» (qaw qay (vv 0) (qc0 (vac (qap (vac (qap (vac (vv 2) qad)) (vac qai (vac qai qad)))) qad)))) qad))))))))))),q25⟩
theorem sc_law:FnScope ["_law_script","_law_some","_law_names_here","_law_base","_law_count","_law_things","_law_tree","_law_file","_law_cell","_law_name","_law_text","_law_where","_law_deed","_law_handed","_law_told"] ["_law_script"] (qae qj6):=⟨rfl,rfl,rfl,by decide +kernel,rfl,by decide +kernel,by decide +kernel⟩
theorem q4d(F:Fun K "law" "law" qj6 f fd)(B:Blt K mg cGlassError cNoWay cMissing cNotFolder cNoPlace cAstray cIsFolder cTooDeep cCrowded)(Ccell_at:Cal P w K mg base 1 "_law_cell_at" ["_law_script","_law_k"] (spOf K qcv))(Cnames:Cal P w K mg base 2 "_law_names" ["_law_stem"] (spOf K qfz))(Cmixed:Cal P w K mg base 1 "_law_mixed" ["_law_cell","_law_turn","_law_many"] (spOf K qbs))(Croom_by:Cal P w K mg base 2 "_law_room_by" ["_law_names_here","_law_base","_law_count","_law_some"] (spOf K qef))(Crows:Cal P w K mg base 1 "_law_rows" ["_law_things"] (spOf K qgg))(Cedges:Cal P w K mg base 11 "_law_edges" ["_law_tree","_law_folder","_law_name"] (spOf K qhc))(Casked:Cal P w K mg base 10 "_law_asked" ["_law_tree","_law_deed"] (qe6 K qda))(Csame:Cal P w K mg base 1 "_law_same" ["_law_found","_law_due"] (spOf K g_same)):FnOk P w K mg base CX0 12 f fd ["_law_script"] (spOf K qmy) :=
 F.okV sc_law q0k λcdv A outer s H E hr=>⟨q3k,(qab (qaq (i:=1) sc_law.nd rfl (Or.inl rfl) (qas Ccell_at (hr.mono (by decide)) rfl (vac (vv 0) (vac qaf qad))))
  (qab (qaq (i:=2) sc_law.nd rfl (Or.inl rfl) (qas Cnames (hr.mono (by decide)) rfl (vac (qas Ccell_at (hr.mono (by decide)) rfl (vac (vv 0) (vac qaf qad))) qad)))
  (qab (qaq (i:=3) sc_law.nd rfl (Or.inl rfl) (qux qyf rfl B.tuple PyProof.Rows.Boot.«tuple» (qc7 (vv 2) qeq (qdl (qas Cmixed (hr.mono (by decide)) rfl (vac (vv 1) (vac qaf (vac qaf qad))))))))
  (qab (qaq (i:=4) sc_law.nd rfl (Or.inl rfl) (qas Cmixed (hr.mono (by decide)) rfl (vac (vv 1) (vac qaf (vac qaf qad)))))
  (qab (qfa (i:=5) sc_law.nd rfl (Or.inl rfl) (qas Croom_by (hr.mono (by decide)) rfl (vac (vv 2) (vac (vv 3) (vac (vv 4) (vac (qas Ccell_at (hr.mono (by decide)) rfl (vac (vv 0) (vac qaf qad))) qad))))))
  (qab (qaq (i:=6) sc_law.nd rfl (Or.inl rfl) (qoc (i:=5) Crows (hr.mono (by decide)) rfl qad))
  (qab (qaq (i:=7) sc_law.nd rfl (Or.inl rfl) (qaw qay (vv 3) (qap (vac (qat qaj (vv 2) qaf) qad))))
  (qab (qb2 (qd9 (qdi (qas Cedges (hr.mono (by decide)) rfl (vac (vv 6) (vac (qkm qai (vv 3)) (vac (qat qaj (vv 2) qaf) qad))))))
   (qag (qar qf9))
   qau)
  (qab (qgi PassesOwn.never rfl (qfr (qaw qay (qc7 (vv 0) (qdl qaf) (qdl qaf)) (qc0 (vac qaf qad)))) (qbc (i:=8) sc_law.nd rfl (Or.inl rfl))
   (qab (qaq (i:=9) sc_law.nd rfl (Or.inl rfl) (qat qaj (vv 2) (qaw qay qaf (qas Cmixed (hr.mono (by decide)) rfl (vac (vv 8) (vac qaf (vac (qaw qay (vv 4) qaf) qad)))))))
  (qab (qaq (i:=10) sc_law.nd rfl (Or.inl rfl) (qaw qay (qaw qay (qat qaj (vv 2) (qas Cmixed (hr.mono (by decide)) rfl (vac (vv 8) (vac qaf (vac qaf qad))))) (qat qaj (qap (vac qai (vac qai qad))) (qas Cmixed (hr.mono (by decide)) rfl (vac (vv 8) (vac qaf (vac qaf qad)))))) (qux q6h rfl B.str PyProof.Rows.Boot.«str» (qaw qdv (vv 8) (qaw qzo qaf qaf)))))
  (qab (qb2 (qaz (qea hr.units) (qas Cmixed (hr.mono (by decide)) rfl (vac (vv 8) (vac qaf (vac qaf qad)))) qaf)
   (qag (qaq (i:=10) sc_law.nd rfl (Or.inl rfl) qai))
   qau)
  (qab (qaq (i:=11) sc_law.nd rfl (Or.inl rfl) (qaw qay (qat qaj (qap (vac qai (vac qai qad))) (qas Cmixed (hr.mono (by decide)) rfl (vac (vv 8) (vac qaf (vac qaf qad))))) (qkm qai (qaw qay (vv 3) (qap (vac (vv 9) qad))))))
  (qab (qaq (i:=12) sc_law.nd rfl (Or.inl rfl) (qap (vac qai (vac (vv 11) (vac (vv 10) qad)))))
  (qab (qe9 5 hr.dict (vv 7) (qap (vac qai (vac (qaw qay (qat qaj (qkl hr.dict (vv 5) (vv 7)) qaf) (vv 10)) qad))))
  (qab (qb2 (qaz (qea hr.units) (qas Cmixed (hr.mono (by decide)) rfl (vac (vv 8) (vac qaf (vac qaf qad)))) qaf)
   (qab (qaq (i:=12) sc_law.nd rfl (Or.inl rfl) (qap (vac qai (vac (vv 11) (vac (vv 10) qad)))))
  (qag (qe9 5 hr.dict (vv 7) (qap (vac qai (vac (vv 10) qad))))))
   qau)
  (qab (qaq (i:=13) sc_law.nd rfl (Or.inl rfl) (qux qu2 rfl B.list PyProof.Rows.Boot.«list» (vv 6)))
  (qyl (i:=14) sc_law.nd rfl (Or.inl rfl) (q2v Casked (hr.mono (by decide)) rfl (vac (vv 13) (vac (vv 12) qad))) (vw_t (qko (qaz (qdw hr.units) (qat qaj (vv 14) qaf) qai) (qih (qd9 (qdi (qas Csame (hr.mono (by decide)) rfl (vac (qat qaj (vv 14) qaf) (vac (qoc (i:=5) Crows (hr.mono (by decide)) rfl qad) qad))))))))
  (qab (qb2 (qaz (qdw hr.units) (vv 13) (vv 6))
   (qag (qar qf9))
   qau)
  (qag (qaq (i:=6) sc_law.nd rfl (Or.inl rfl) (qoc (i:=5) Crows (hr.mono (by decide)) rfl qad))))))))))))))
  (qag (qar qf9))))))))))),q7u⟩
end
theorem q7w{l:PySem.W.OpenLaw}{w:World}{K:PySem.W.Frag}{h:Heap}{mg:Str->Option Value}{fa:Addr}(X:K.In h)(G:h.Ns mainGlobals mg)(hfa:mg "law" = some (.ref fa))
  {f25:Addr} {od25 an25:Option Addr} {sl25:Array (Option Value)} {oc25 kV25 dc25 pm25 cd25 ct25:Value}
  {f26:Addr} {od26 an26:Option Addr} {sl26:Array (Option Value)} {oc26 kV26 dc26 pm26 cd26 ct26:Value}
  {f38:Addr} {od38 an38:Option Addr} {sl38:Array (Option Value)} {oc38 kV38 dc38 pm38 cd38 ct38:Value}
  {cGlassError:Addr}
  {cNoWay:Addr}
  {cMissing:Addr}
  {cNotFolder:Addr}
  {cNoPlace:Addr}
  {cAstray:Addr}
  {cIsFolder:Addr}
  {cTooDeep:Addr}
  {cCrowded:Addr}
  {gt_NAME_SIGNS:Tok}
  {gt_LONGEST_NAME:Tok}
  {gt_MOST_WORDS:Tok}
  {gt_MOST_NAMES:Tok}
  {gt_MOST_ENTRIES:Tok}
  {ad_ROOT_THING:Addr} {ob_ROOT_THING:Obj} {sn_ROOT_THING:Nat} {gt_ROOT_THING0:Tok} {gt_ROOT_THING1:Tok}
  {gt_MOST_LINKS:Tok}
  {dT_CHANGES:Addr} {eT_CHANGES:Array DictEntry} {nT_CHANGES:Nat}
  (d1:qbl K "is_name" qfj)
  (d2:qbl K "above" qnt)
  (d3:qbl K "lies_under" qel)
  (d4:qbl K "shifted" qh3)
  (d5:qbl K "is_word" qhz)
  (d6:qbl K "words_of" qex)
  (d7:qbl K "step" quf)
  (d8:qbl K "in_order" qf2)
  (d9:qbl K "without" qfl)
  (d10:qbl K "planted" qfk)
  (d11:qbl K "grafted" qhy)
  (d12:qbl K "refuse_depth" qcr)
  (d13:qbl K "refuse_crowd" qdk)
  (d14:qbl K "changed" qhw)
  (d15:qbl K "things_of" qe5)
  (d16:qbl K "thing_at" qf5)
  (d17:qbl K "start_of" qf4)
  (d18:qbl K "one_more" qf3)
  (d19:qbl K "walk" qug)
  (d20:qbl K "walked" qj8)
  (d21:qbl K "find_way" qf1)
  (d22:qbl K "placed" qj7)
  (d23:qbl K "goal_of" qhx)
  (d24:qbl K "put_new" qh1)
  (a25:PySem.W.nsIn K mainGlobals "write_changes" = some (some (.ref f25))) (l25:K.lookup f25=some ⟨oc25,od25,.func (PySem.W.fnOf "write_changes" "write_changes" (qch qbi) (qbg qbi) (qae qbi) .none kV25 dc25 pm25 an25 cd25 ct25),sl25⟩) (c25:PySem.W.codeIn K cd25 "write_changes" = true) (k25:PySem.W.keepIn K (.ref f25)=true)
  (a26:PySem.W.nsIn K mainGlobals "add_changes" = some (some (.ref f26))) (l26:K.lookup f26=some ⟨oc26,od26,.func (PySem.W.fnOf "add_changes" "add_changes" (qch qb0) (qbg qb0) (qae qb0) .none kV26 dc26 pm26 an26 cd26 ct26),sl26⟩) (c26:PySem.W.codeIn K cd26 "add_changes" = true) (k26:PySem.W.keepIn K (.ref f26)=true)
  (d27:qbl K "changes_of" qek)
  (d28:qbl K "done" que)
  (d29:qbl K "_law_cell_at" qhv)
  (d30:qbl K "_law_mixed" qnw)
  (d31:qbl K "_law_name_by" qh0)
  (d32:qbl K "_law_names" qnx)
  (d33:qbl K "_law_same" s_same)
  (d34:qbl K "_law_asked" qnu)
  (d35:qbl K "_law_rows" qo7)
  (d36:qbl K "_law_room_by" qh2)
  (d37:qbl K "_law_edges" qnv)
  (a38:PySem.W.nsIn K mainGlobals "law" = some (some (.ref f38))) (l38:K.lookup f38=some ⟨oc38,od38,.func (PySem.W.fnOf "law" "law" (qch qj6) (qbg qj6) (qae qj6) .none kV38 dc38 pm38 an38 cd38 ct38),sl38⟩) (c38:PySem.W.codeIn K cd38 "law" = true) (k38:PySem.W.keepIn K (.ref f38)=true)
  (q_GlassError:PySem.W.nsIn K mainGlobals "GlassError" = some (some (.ref cGlassError)))
  (q_NoWay:PySem.W.nsIn K mainGlobals "NoWay" = some (some (.ref cNoWay)))
  (q_Missing:PySem.W.nsIn K mainGlobals "Missing" = some (some (.ref cMissing)))
  (q_NotFolder:PySem.W.nsIn K mainGlobals "NotFolder" = some (some (.ref cNotFolder)))
  (q_NoPlace:PySem.W.nsIn K mainGlobals "NoPlace" = some (some (.ref cNoPlace)))
  (q_Astray:PySem.W.nsIn K mainGlobals "Astray" = some (some (.ref cAstray)))
  (q_IsFolder:PySem.W.nsIn K mainGlobals "IsFolder" = some (some (.ref cIsFolder)))
  (q_TooDeep:PySem.W.nsIn K mainGlobals "TooDeep" = some (some (.ref cTooDeep)))
  (q_Crowded:PySem.W.nsIn K mainGlobals "Crowded" = some (some (.ref cCrowded)))
  (x_NoWay:OwnX K cNoWay)
  (x_TooDeep:OwnX K cTooDeep)
  (x_Crowded:OwnX K cCrowded)
  (x_Astray:OwnX K cAstray)
  (x_Missing:OwnX K cMissing)
  (x_NotFolder:OwnX K cNotFolder)
  (x_NoPlace:OwnX K cNoPlace)
  (x_IsFolder:OwnX K cIsFolder)
  (m_NoWay_GlassError:PySem.W.exmOne K (.ref cNoWay) (.ref cGlassError)=some true)
  (m_TooDeep_GlassError:PySem.W.exmOne K (.ref cTooDeep) (.ref cGlassError)=some true)
  (m_Crowded_GlassError:PySem.W.exmOne K (.ref cCrowded) (.ref cGlassError)=some true)
  (m_Astray_GlassError:PySem.W.exmOne K (.ref cAstray) (.ref cGlassError)=some true)
  (m_Missing_GlassError:PySem.W.exmOne K (.ref cMissing) (.ref cGlassError)=some true)
  (m_NotFolder_GlassError:PySem.W.exmOne K (.ref cNotFolder) (.ref cGlassError)=some true)
  (m_NoPlace_GlassError:PySem.W.exmOne K (.ref cNoPlace) (.ref cGlassError)=some true)
  (m_IsFolder_GlassError:PySem.W.exmOne K (.ref cIsFolder) (.ref cGlassError)=some true)
  (m_NoWay_Missing:PySem.W.exmOne K (.ref cNoWay) (.ref cMissing)=some false)
  (m_TooDeep_Missing:PySem.W.exmOne K (.ref cTooDeep) (.ref cMissing)=some false)
  (m_Crowded_Missing:PySem.W.exmOne K (.ref cCrowded) (.ref cMissing)=some false)
  (m_Astray_Missing:PySem.W.exmOne K (.ref cAstray) (.ref cMissing)=some false)
  (m_Missing_Missing:PySem.W.exmOne K (.ref cMissing) (.ref cMissing)=some true)
  (m_NotFolder_Missing:PySem.W.exmOne K (.ref cNotFolder) (.ref cMissing)=some false)
  (m_NoPlace_Missing:PySem.W.exmOne K (.ref cNoPlace) (.ref cMissing)=some false)
  (m_IsFolder_Missing:PySem.W.exmOne K (.ref cIsFolder) (.ref cMissing)=some false)
  (m_NoWay_IsFolder:PySem.W.exmOne K (.ref cNoWay) (.ref cIsFolder)=some false)
  (m_TooDeep_IsFolder:PySem.W.exmOne K (.ref cTooDeep) (.ref cIsFolder)=some false)
  (m_Crowded_IsFolder:PySem.W.exmOne K (.ref cCrowded) (.ref cIsFolder)=some false)
  (m_Astray_IsFolder:PySem.W.exmOne K (.ref cAstray) (.ref cIsFolder)=some false)
  (m_Missing_IsFolder:PySem.W.exmOne K (.ref cMissing) (.ref cIsFolder)=some false)
  (m_NotFolder_IsFolder:PySem.W.exmOne K (.ref cNotFolder) (.ref cIsFolder)=some false)
  (m_NoPlace_IsFolder:PySem.W.exmOne K (.ref cNoPlace) (.ref cIsFolder)=some false)
  (m_IsFolder_IsFolder:PySem.W.exmOne K (.ref cIsFolder) (.ref cIsFolder)=some true)
  (g_NAME_SIGNS:PySem.W.nsIn K mainGlobals "NAME_SIGNS" = some (some (.str ("abcdefghijklmnopqrstuvwxyz0123456789" : Str) gt_NAME_SIGNS)))
  (g_LONGEST_NAME:PySem.W.nsIn K mainGlobals "LONGEST_NAME" = some (some (.int 12 gt_LONGEST_NAME)))
  (g_MOST_WORDS:PySem.W.nsIn K mainGlobals "MOST_WORDS" = some (some (.int 40 gt_MOST_WORDS)))
  (g_MOST_NAMES:PySem.W.nsIn K mainGlobals "MOST_NAMES" = some (some (.int 12 gt_MOST_NAMES)))
  (g_MOST_ENTRIES:PySem.W.nsIn K mainGlobals "MOST_ENTRIES" = some (some (.int 60 gt_MOST_ENTRIES)))
  (g_ROOT_THING:PySem.W.nsIn K mainGlobals "ROOT_THING" = some (some (.ref ad_ROOT_THING)))
  (h_ROOT_THING:K.lookup ad_ROOT_THING=some ob_ROOT_THING)
  (u_ROOT_THING:ob_ROOT_THING.cls=.type "tuple")
  (w_ROOT_THING:ob_ROOT_THING.data=.seq #[.str ("folder" : Str) gt_ROOT_THING0,.str ("" : Str) gt_ROOT_THING1] sn_ROOT_THING)
  (g_MOST_LINKS:PySem.W.nsIn K mainGlobals "MOST_LINKS" = some (some (.int 8 gt_MOST_LINKS)))
  (gT_CHANGES:PySem.W.nsIn K mainGlobals "CHANGES" = some (some (.ref dT_CHANGES)))
  (lT_CHANGES:K.lookup dT_CHANGES=some ⟨.type "dict",none,.dict eT_CHANGES nT_CHANGES,#[]⟩)
  (kT_CHANGES:PySem.W.KeysLit w.params eT_CHANGES.toList)
  (vT_CHANGES_write:PySem.W.nsIn K dT_CHANGES "write" = some (some (.ref f25)))
  (vT_CHANGES_add:PySem.W.nsIn K dT_CHANGES "add" = some (some (.ref f26)))
  (z_all:PySem.W.nsIn K mainGlobals "all" = some none)
  (z_isinstance:PySem.W.nsIn K mainGlobals "isinstance" = some none)
  (z_len:PySem.W.nsIn K mainGlobals "len" = some none)
  (z_list:PySem.W.nsIn K mainGlobals "list" = some none)
  (z_max:PySem.W.nsIn K mainGlobals "max" = some none)
  (z_range:PySem.W.nsIn K mainGlobals "range" = some none)
  (z_sorted:PySem.W.nsIn K mainGlobals "sorted" = some none)
  (z_str:PySem.W.nsIn K mainGlobals "str" = some none)
  (z_tuple:PySem.W.nsIn K mainGlobals "tuple" = some none) :
  ∃fd:FuncData,(∀(s:Shared) (v:Value),BindsTo s fd ⟨[v],[]⟩ [("_law_script",v)])/\∀base:Heap,K.In base->base.Ns mainGlobals mg->FnOk l.prog w K mg base CX0 12 fa fd ["_law_script"] (spOf K qmy):=by
 have e:=hfa.symm.trans (PySem.W.mg_of X G a38)
 cases e
 have B:Blt K mg cGlassError cNoWay cMissing cNotFolder cNoPlace cAstray cIsFolder cTooDeep cCrowded:=⟨PySem.W.mg_of X G q_GlassError,q_GlassError,PySem.W.mg_of X G q_NoWay,q_NoWay,PySem.W.mg_of X G q_Missing,q_Missing,PySem.W.mg_of X G q_NotFolder,q_NotFolder,PySem.W.mg_of X G q_NoPlace,q_NoPlace,PySem.W.mg_of X G q_Astray,q_Astray,PySem.W.mg_of X G q_IsFolder,q_IsFolder,PySem.W.mg_of X G q_TooDeep,q_TooDeep,PySem.W.mg_of X G q_Crowded,q_Crowded,x_NoWay,x_TooDeep,x_Crowded,x_Astray,x_Missing,x_NotFolder,x_NoPlace,x_IsFolder,m_NoWay_GlassError,m_TooDeep_GlassError,m_Crowded_GlassError,m_Astray_GlassError,m_Missing_GlassError,m_NotFolder_GlassError,m_NoPlace_GlassError,m_IsFolder_GlassError,m_NoWay_Missing,m_TooDeep_Missing,m_Crowded_Missing,m_Astray_Missing,m_Missing_Missing,m_NotFolder_Missing,m_NoPlace_Missing,m_IsFolder_Missing,m_NoWay_IsFolder,m_TooDeep_IsFolder,m_Crowded_IsFolder,m_Astray_IsFolder,m_Missing_IsFolder,m_NotFolder_IsFolder,m_NoPlace_IsFolder,m_IsFolder_IsFolder,PySem.W.mg_none_of X G z_all,PySem.W.mg_none_of X G z_isinstance,PySem.W.mg_none_of X G z_len,PySem.W.mg_none_of X G z_list,PySem.W.mg_none_of X G z_max,PySem.W.mg_none_of X G z_range,PySem.W.mg_none_of X G z_sorted,PySem.W.mg_none_of X G z_str,PySem.W.mg_none_of X G z_tuple,⟨_,PySem.W.mg_of X G g_NAME_SIGNS⟩,⟨_,PySem.W.mg_of X G g_LONGEST_NAME⟩,⟨_,PySem.W.mg_of X G g_MOST_WORDS⟩,⟨_,PySem.W.mg_of X G g_MOST_NAMES⟩,⟨_,PySem.W.mg_of X G g_MOST_ENTRIES⟩,⟨_,PySem.W.mg_of X G g_ROOT_THING,.inr ⟨_,_,_,h_ROOT_THING,u_ROOT_THING,w_ROOT_THING,Nat.le_of_ble_eq_true rfl,(.cons ⟨_,rfl⟩ (.cons ⟨_,rfl⟩ .nil))⟩⟩,⟨_,PySem.W.mg_of X G g_MOST_LINKS⟩⟩
 have F25:=qor (st:=qbi) l25 c25 k25
 have b25:=F25.binds2 (ps:=["tree","deed"]) rfl λ_ _ _ _ _ _ _ _=>rfl
 have F26:=qor (st:=qb0) l26 c26 k26
 have b26:=F26.binds2 (ps:=["tree","deed"]) rfl λ_ _ _ _ _ _ _ _=>rfl
 have F38:=qor (st:=qj6) l38 c38 k38
 have b38:=F38.binds1 (ps:=["_law_script"]) rfl λ_ _ _ _ _ _ _=>rfl
 refine⟨PySem.W.fnOf "law" "law" (qch qj6) (qbg qj6) (qae qj6) .none kV38 dc38 pm38 an38 cd38 ct38,λs v=>.of_eq rfl,λbase _ _=>?_⟩
 have T_CHANGES:TabF w K mg ("CHANGES" : Str) [(("write" : Str),("write_changes" : Str)),(("add" : Str),("add_changes" : Str))]:=⟨dT_CHANGES,eT_CHANGES,nT_CHANGES,PySem.W.mg_of X G gT_CHANGES,lT_CHANGES,kT_CHANGES,λp hp=>by
  simp only[List.mem_cons,List.not_mem_nil,or_false] at hp
  rcases hp with rfl|rfl
  ·exact vT_CHANGES_write.trans (congrArg some (PySem.W.mg_of X G a25).symm)
  ·exact vT_CHANGES_add.trans (congrArg some (PySem.W.mg_of X G a26).symm)⟩
 have Ccell_at:=calD l.prog w base X G d29 (λF=>qqi F B) λF=>F.binds2 (ps:=["_law_script","_law_k"]) rfl λ_ _ _ _ _ _ _ _=>rfl
 have Cname_by:=calD l.prog w base X G d31 (λF=>qqo F B) λF=>F.binds2 (ps:=["_law_stem","_law_v"]) rfl λ_ _ _ _ _ _ _ _=>rfl
 have Cnames:=calD l.prog w base X G d32 (λF=>qwy F B Cname_by) λF=>F.binds1 (ps:=["_law_stem"]) rfl λ_ _ _ _ _ _ _=>rfl
 have Cmixed:=calD l.prog w base X G d30 (λF=>qwx F B) λF=>F.binds3 (ps:=["_law_cell","_law_turn","_law_many"]) rfl λ_ _ _ _ _ _ _ _ _=>rfl
 have Croom_by:=calD l.prog w base X G d36 (λF=>qqr F B Cmixed) λF=>F.binds4 (ps:=["_law_names_here","_law_base","_law_count","_law_some"]) rfl λ_ _ _ _ _ _ _ _ _ _=>rfl
 have Crows:=calD l.prog w base X G d35 (λF=>q0z F B) λF=>F.binds1 (ps:=["_law_things"]) rfl λ_ _ _ _ _ _ _=>rfl
 have Clies_under:=calD l.prog w base X G d3 (λF=>qj1 F B) λF=>F.binds2 (ps:=["way","other"]) rfl λ_ _ _ _ _ _ _ _=>rfl
 have Cwithout:=calD l.prog w base X G d9 (λF=>qqt F B Clies_under) λF=>F.binds2 (ps:=["tree","way"]) rfl λ_ _ _ _ _ _ _ _=>rfl
 have Cin_order:=calD l.prog w base X G d8 (λF=>qnl F B) λF=>F.binds1 (ps:=["entries"]) rfl λ_ _ _ _ _ _ _=>rfl
 have Cshifted:=calD l.prog w base X G d4 (λF=>qqs F B Clies_under) λF=>F.binds3 (ps:=["way","old","new"]) rfl λ_ _ _ _ _ _ _ _ _=>rfl
 have Cplanted:=calD l.prog w base X G d10 (λF=>qqp F B Cshifted) λF=>F.binds3 (ps:=["way","thing","below"]) rfl λ_ _ _ _ _ _ _ _ _=>rfl
 have Cgrafted:=calD l.prog w base X G d11 (λF=>qql F B Cin_order Cwithout Cplanted) λF=>F.binds4 (ps:=["tree","way","thing","below"]) rfl λ_ _ _ _ _ _ _ _ _ _=>rfl
 have Cchanged:=calD l.prog w base X G d14 (λF=>qqj F B Cwithout Cgrafted) λF=>F.binds2 (ps:=["tree","changes"]) rfl λ_ _ _ _ _ _ _ _=>rfl
 have Cthings_of:=calD l.prog w base X G d15 (λF=>qlr F B) λF=>F.binds1 (ps:=["tree"]) rfl λ_ _ _ _ _ _ _=>rfl
 have Cis_name:=calD l.prog w base X G d1 (λF=>qqm F B) λF=>F.binds1 (ps:=["thing"]) rfl λ_ _ _ _ _ _ _=>rfl
 have Cis_word:=calD l.prog w base X G d5 (λF=>qqn F B Cis_name) λF=>F.binds1 (ps:=["text"]) rfl λ_ _ _ _ _ _ _=>rfl
 have Cwords_of:=qji l.prog w base X G d6 (λF=>qnp F B Cis_word) λF=>F.binds1 (ps:=["text"]) rfl λ_ _ _ _ _ _ _=>rfl
 have Cabove:=calD l.prog w base X G d2 (λF=>qwu F B) λF=>F.binds1 (ps:=["way"]) rfl λ_ _ _ _ _ _ _=>rfl
 have Cstep:=calD l.prog w base X G d7 (λF=>q01 F B Cabove) λF=>F.binds2 (ps:=["way","word"]) rfl λ_ _ _ _ _ _ _ _=>rfl
 have Cone_more:=qji l.prog w base X G d18 (λF=>qnm F B) λF=>F.binds1 (ps:=["followed"]) rfl λ_ _ _ _ _ _ _=>rfl
 have Cstart_of:=calD l.prog w base X G d17 (λF=>qnn F B) λF=>F.binds2 (ps:=["rooted","at"]) rfl λ_ _ _ _ _ _ _ _=>rfl
 have Cwalk:=qji l.prog w base X G d19 (λF=>q02 F B Cstep Cone_more Cwords_of Cstart_of) λF=>F.binds4 (ps:=["things","at","words","followed"]) rfl λ_ _ _ _ _ _ _ _ _ _=>rfl
 have Cplaced:=qji l.prog w base X G d22 (λF=>qtx F B Cwords_of Cis_name Cwalk Cstart_of) λF=>F.binds4 (ps:=["things","at","text","followed"]) rfl λ_ _ _ _ _ _ _ _ _ _=>rfl
 have Cgoal_of:=qji l.prog w base X G d23 (λF=>qqk F B Cthings_of Cplaced Cabove Cone_more) λF=>F.binds3 (ps:=["tree","at","text"]) rfl λ_ _ _ _ _ _ _ _ _=>rfl
 have Cthing_at:=calD l.prog w base X G d16 (λF=>qno F B Cthings_of) λF=>F.binds2 (ps:=["tree","way"]) rfl λ_ _ _ _ _ _ _ _=>rfl
 have Crefuse_depth:=calD l.prog w base X G d12 (λF=>qho F B) λF=>F.binds2 (ps:=["way","below"]) rfl λ_ _ _ _ _ _ _ _=>rfl
 have Crefuse_crowd:=calD l.prog w base X G d13 (λF=>qhn F B) λF=>F.binds2 (ps:=["tree","below"]) rfl λ_ _ _ _ _ _ _ _=>rfl
 have Cput_new:=calD l.prog w base X G d24 (λF=>qqq F B Crefuse_depth Crefuse_crowd) λF=>F.binds3 (ps:=["tree","way","thing"]) rfl λ_ _ _ _ _ _ _ _ _=>rfl
 have Cwrite_changes:=CalX.mk (qgo (P:=l.prog) (w:=w) (mg:=mg) (base:=base) F25 B Cgoal_of Cthing_at Cput_new) (PySem.W.mg_of X G a25) k25 b25
 have Cwalked:=qji l.prog w base X G d20 (λF=>qty F B Cwords_of Cwalk Cthings_of Cstart_of) λF=>F.binds3 (ps:=["tree","at","text"]) rfl λ_ _ _ _ _ _ _ _ _=>rfl
 have Cfind_way:=qji l.prog w base X G d21 (λF=>qnk F B Cwalked) λF=>F.binds3 (ps:=["tree","at","text"]) rfl λ_ _ _ _ _ _ _ _ _=>rfl
 have Cadd_changes:=CalX.mk (qiq (P:=l.prog) (w:=w) (mg:=mg) (base:=base) F26 B Cfind_way Cthing_at) (PySem.W.mg_of X G a26) k26 b26
 have Cchanges_of:=qji l.prog w base X G d27 (λF=>qj0 F B Cwrite_changes Cadd_changes T_CHANGES) λF=>F.binds2 (ps:=["tree","deed"]) rfl λ_ _ _ _ _ _ _ _=>rfl
 have Cdone:=qji l.prog w base X G d28 (λF=>q0y F B Cchanged Cchanges_of) λF=>F.binds2 (ps:=["tree","deed"]) rfl λ_ _ _ _ _ _ _ _=>rfl
 have Casked:=calD l.prog w base X G d34 (λF=>qwv F B Cdone) λF=>F.binds2 (ps:=["_law_tree","_law_deed"]) rfl λ_ _ _ _ _ _ _ _=>rfl
 have Csame:=calD l.prog w base X G d33 (λF=>q00 F B) λF=>F.binds2 (ps:=["_law_found","_law_due"]) rfl λ_ _ _ _ _ _ _ _=>rfl
 have Cedges:=calD l.prog w base X G d37 (λF=>qww F B Casked Csame) λF=>F.binds3 (ps:=["_law_tree","_law_folder","_law_name"]) rfl λ_ _ _ _ _ _ _ _ _=>rfl
 exact q4d F38 B Ccell_at Cnames Cmixed Croom_by Crows Cedges Casked Csame
theorem walk{l:PySem.W.OpenLaw}{q:Program}{loose:List Str}{XP:(Str->Option Value)->Heap->Prop}{YP:World->Heap->Prop}{d:DefRec}{K:Params->PySem.W.Frag}(hn:l.most=some 63)(hdf:d.params.defaults=[])
  (hY:∀(w:World) (h:Heap),YP w h->(K w.params).In h)
  (F:∀(w:World) (mg:Str->Option Value) (fa:Addr) (h:Heap),(K w.params).In h->h.Ns mainGlobals mg->mg d.name=some (.ref fa) ->
   ∃fd:FuncData,(∀(s:Shared) (u:Value),BindsTo s fd ⟨[u],[]⟩ [("_law_script",u)])/\∀base:Heap,(K w.params).In base->base.Ns mainGlobals mg->FnOk l.prog w (K w.params) mg base CX0 12 fa fd ["_law_script"] (spOf (K w.params) qmy)) :
  PySem.W.WalkO q loose XP YP l.row.toRowW d [] (λf vs=>PySem.call f vs) :=
 L2.q7v (n:=63) (k:=12) (x:="_law_script") (CX:=λ_=>CX0) (sp:=λw=>spOf (K w.params) qmy) hn (by decide) hdf ⟨rfl,by decide,by decide⟩ hY F (λw H a ns hl _ hS=>q39 ns hl hS) λ_ _ _ _ _ z=>z
end K63
open PySem PySem.W PyProof.Rows
set_option maxRecDepth 100000 in
set_option maxHeartbeats 0 in
def PySem.W.Fast.tw12098382611347421701 := ()
def PySem.W.Fast.tw12471710649740569345 := ()
def PySem.W.Fast.tw12099401673978746385 := ()
def PySem.W.Fast.tw9958996733380343415 := ()
def PySem.W.Fast.tw7414540515476963117 := ()
def PySem.W.Fast.tw9140794578891024508 := ()
def PySem.W.Fast.tw5817547711021991012 := ()
def PySem.W.Fast.tw17967995471812291783 := ()
def PySem.W.Fast.tw18081787287191715960 := ()
def PySem.W.Fast.tw955556138752381331 := ()
def PySem.W.Fast.tw9339413252842085233 := ()
def PySem.W.Fast.tw11067335603496409988 := ()
def PySem.W.Fast.tw8464018912240279583 := ()
def PySem.W.Fast.tw12931871252096727003 := ()
def PySem.W.Fast.tw3358796722468769773 := ()
def PySem.W.Fast.tw8562217686970700049 := ()
def PySem.W.Fast.tw757750719375247629 := ()
def PySem.W.Fast.tw539562008810811185 := ()
def PySem.W.Fast.tw17656420126340286842 := ()
def PySem.W.Fast.tw16096877334927549528 := ()
def PySem.W.Fast.tw13252324507668570356 := ()
def PySem.W.Fast.tw8103621818939030187 := ()
def PySem.W.Fast.tw16930505385318720118 := ()
def PySem.W.Fast.tw7027218616453882425 := ()
def PySem.W.Fast.tw17966073784501223520 := ()
def PySem.W.Fast.tw12619369266820218999 := ()
def PySem.W.Fast.tw15920871509508981799 := ()
def PySem.W.Fast.tw4010039536686454988 := ()
def PySem.W.Fast.tw14890720102038554773 := ()
def PySem.W.Fast.tw7561166294297801544 := ()
def PySem.W.Fast.tw999984474256067860 := ()
def PySem.W.Fast.tw939572571396277791 := ()
def PySem.W.Fast.tw8706361598056577631 := ()
def PySem.W.Fast.tw10341005043029464790 := ()
def PySem.W.Fast.tw6542983167511580386 := ()
def PySem.W.Fast.tw769022612421678217 := ()
def PySem.W.Fast.tw3405043340247266823 := ()
def PySem.W.Fast.tw11372811126279128766 := ()
def PySem.W.Fast.tw13699170597325914506 := ()
def PySem.W.Fast.tw15202590092417764608 := ()
def PySem.W.Fast.tw16603025825366655318 := ()
def PySem.W.Fast.tw837499411829104772 := ()
def PySem.W.Fast.tw4949558478398940009 := ()
def PySem.W.Fast.tw7286209949309875087 := ()
def PySem.W.Fast.tw10431562443594777691 := ()
def PySem.W.Fast.tw10872739723077596026 := ()
def PySem.W.Fast.tw12949550048324247988 := ()
def PySem.W.Fast.tw10402180349125563500 := ()
def PySem.W.Fast.tw13930150874848746863 := ()
def PySem.W.Fast.tw2151924707140577042 := ()
def PySem.W.Fast.tw8015098251827717074 := ()
def PySem.W.Fast.tw14866009412843346943 := ()
def PySem.W.Fast.tw1167886821946121209 := ()
def PySem.W.Fast.tw15332366169970552013 := ()
def PySem.W.Fast.tw15892353659471819669 := ()
def PySem.W.Fast.tw5283722577640112792 := ()
def PySem.W.Fast.tw7199721202093582044 := ()
def PySem.W.Fast.tw1180903181937721886 := ()
def PySem.W.Fast.tw629433686442143683 := ()
def PySem.W.Fast.tw6813218439988361667 := ()
def PySem.W.Fast.tw12539487653881602643 := ()
def PySem.W.Fast.tw5339424564477773574 := ()
def PySem.W.Fast.tw17621405892350960675 := ()
def PySem.W.Fast.tw3805446890111628233 := ()
def PySem.W.Fast.tw9696353383581934616 := ()
def PySem.W.Fast.tw6835292503856170774 := ()
def PySem.W.Fast.tw10467781977318717044 := ()
def PySem.W.Fast.tw12648704875372768605 := ()
def PySem.W.Fast.tw8382700583481753463 := ()
def PySem.W.Fast.tw13724493121238175682 := ()
def PySem.W.Fast.tw15426870981246673298 := ()
def PySem.W.Fast.tw1851604030318453150 := ()
def PySem.W.Fast.tw13614920711173630081 := ()
def PySem.W.Fast.tw11966763640827798544 := ()
def PySem.W.Fast.tw8681132558329597175 := ()
def PySem.W.Fast.tw7476718625445660248 := ()
def PySem.W.Fast.tw2561198068698109888 := ()
def PySem.W.Fast.tw2711550014490571379 := ()
def PySem.W.Fast.tw6560567613170865143 := ()
def PySem.W.Fast.tw5137585482254712381 := ()
def PySem.W.Fast.tw770762275036818244 := ()
def PySem.W.Fast.tw17224887374912274530 := ()
def PySem.W.Fast.tw3711352810150697487 := ()
def PySem.W.Fast.tw8931585036626330085 := ()
def PySem.W.Fast.tw20522236975313584 := ()
def PySem.W.Fast.tw5181983740086582322 := ()
def PySem.W.Fast.tw6939902616775495879 := ()
def PySem.W.Fast.tw1052929993240014759 := ()
def PySem.W.Fast.tw4911191433969037890 := ()
def PySem.W.Fast.tw9600218360248208842 := ()
def PySem.W.Fast.tw10711337963242992954 := ()
def PySem.W.Fast.tw16026004429690704295 := ()
def PySem.W.Fast.tw4027661586412470829 := ()
def PySem.W.Fast.tw5381996998580135453 := ()
def PySem.W.Fast.tw3613176618534132982 := ()
def PySem.W.Fast.tw3891251765659500493 := ()
def PySem.W.Fast.tw14415285223373130930 := ()
def PySem.W.Fast.tw9840911496453380084 := ()
def PySem.W.Fast.tw3727601104011060665 := ()
def PySem.W.Fast.tw6430705640292045521 := ()
def PySem.W.Fast.tw3351433065009417319 := ()
def PySem.W.Fast.tw972917213933402724 := ()
def PySem.W.Fast.tw5296698441787569676 := ()
def PySem.W.Fast.tw9251141898548279773 := ()
def PySem.W.Fast.tw18199311536651943643 := ()
def PySem.W.Fast.tw17566565473226665559 := ()
def PySem.W.Fast.tw4085788715597789182 := ()
def PySem.W.Fast.tw3578236691367134181 := ()
def PySem.W.Fast.tw992812287067429542 := ()
def PySem.W.Fast.tw2771361731686187864 := ()
def PySem.W.Fast.tw15127903178666777055 := ()
def PySem.W.Fast.tw9359301033765435157 := ()
def PySem.W.Fast.tw7155609766490073326 := ()
def PySem.W.Fast.tw9068342034906205584 := ()
def PySem.W.Fast.tw4668674588631992403 := ()
def PySem.W.Fast.tw1511400107007033563 := ()
def PySem.W.Fast.tw3617692643518261235 := ()
def PySem.W.Fast.tw16311620532570000641 := ()
def PySem.W.Fast.tw11437013881451768667 := ()
def PySem.W.Fast.tw17097202731467538469 := ()
def PySem.W.Fast.tw17812505970453792512 := ()
def PySem.W.Fast.tw15549876763608639729 := ()
def PySem.W.Fast.tw8920216695969573386 := ()
def PySem.W.Fast.tw7054308504475266571 := ()
def PySem.W.Fast.tw18281773945058274076 := ()
def PySem.W.Fast.tw1885818322709301417 := ()
def PySem.W.Fast.tw7003413521334762365 := ()
def PySem.W.Fast.tw11597439308123258383 := ()
def PySem.W.Fast.tw14264313854794624854 := ()
def PySem.W.Fast.tw13316483254498715748 := ()
def PySem.W.Fast.tw9736116510202497781 := ()
def PySem.W.Fast.tw14934912030371262021 := ()
def PySem.W.Fast.tw6570526235600061765 := ()
def PySem.W.Fast.tw4094537479238275173 := ()
def PySem.W.Fast.tw15506441662792687052 := ()
def PySem.W.Fast.tw17853795543370959975 := ()
def PySem.W.Fast.tw573370844630574913 := ()
def PySem.W.Fast.tw7252202234293288012 := ()
def PySem.W.Fast.tw4914506727228949983 := ()
def PySem.W.Fast.tw2561720666510532290 := ()
def PySem.W.Fast.tw9858024287922034030 := ()
def PySem.W.Fast.tw17797905821720184024 := ()
def PySem.W.Fast.tw4233816329064979076 := ()
def PySem.W.Fast.tw17343778824218400518 := ()
def PySem.W.Fast.tw11315962977396634925 := ()
def PySem.W.Fast.tw9221287994563375086 := ()
def PySem.W.Fast.tw5399338403627569489 := ()
def PySem.W.Fast.tw11880613402700387476 := ()
def PySem.W.Fast.tw13135171909653074750 := ()
def PySem.W.Fast.tw13855676134336233149 := ()
def PySem.W.Fast.tw11222034237387840194 := ()
def PySem.W.Fast.tw11011851512832306466 := ()
def PySem.W.Fast.tw14118200865184826905 := ()
def PySem.W.Fast.tw3008077144627744799 := ()
def PySem.W.Fast.tw11068529727108070039 := ()
def PySem.W.Fast.tw6404427715657654488 := ()
def PySem.W.Fast.tw8416864971989790443 := ()
def PySem.W.Fast.tw7838642379005954747 := ()
def PySem.W.Fast.tw448187010632791924 := ()
def PySem.W.Fast.tw9986771472124855891 := ()
def PySem.W.Fast.tw8870503198608558981 := ()
def PySem.W.Fast.tw7806396224060239115 := ()
def PySem.W.Fast.tw7194121839791551270 := ()
def PySem.W.Fast.tw5696812920666600292 := ()
def PySem.W.Fast.tw17960679952578397893 := ()
def PySem.W.Fast.tw17420148938313136187 := ()
def PySem.W.Fast.tw15256355755422831410 := ()
def PySem.W.Fast.tw13024957947395982353 := ()
def PySem.W.Fast.tw12964528150888473970 := ()
def PySem.W.Fast.tw7215409008308929036 := ()
def PySem.W.Fast.tw16508939476317621739 := ()
def PySem.W.Fast.tw11109365367966273474 := ()
def PySem.W.Fast.tw14528935307569848532 := ()
def PySem.W.Fast.tw3349299518544051782 := ()
def PySem.W.Fast.tw7876508315819759154 := ()
def PySem.W.Fast.tw17510159432288600723 := ()
def PySem.W.Fast.tw8064569644735016119 := ()
def PySem.W.Fast.tw5688487601778692080 := ()
def PySem.W.Fast.tw2449052445105199456 := ()
def PySem.W.Fast.tw11330936058003050545 := ()
def PySem.W.Fast.tw1114647386858587260 := ()
def PySem.W.Fast.tw7077976351188768796 := ()
def PySem.W.Fast.tw1552104111009767842 := ()
def PySem.W.Fast.tw14965652604254451916 := ()
def PySem.W.Fast.tw11413279714456604015 := ()
def PySem.W.Fast.tw7608320966711380824 := ()
def PySem.W.Fast.tw18384769930379311164 := ()
def PySem.W.Fast.tw16343244997408482946 := ()
def PySem.W.Fast.tw7055055681762966284 := ()
def PySem.W.Fast.tw1970600399733511365 := ()
def PySem.W.Fast.tw12785643994754956385 := ()
def PySem.W.Fast.tw7488067838867072200 := ()
def PySem.W.Fast.tw14421391525408950096 := ()
def PySem.W.Fast.tw17088824475029343437 := ()
def PySem.W.Fast.tw17303021410381987973 := ()
def PySem.W.Fast.tw13640831226408982277 := ()
def PySem.W.Fast.tw6096637415844781080 := ()
def PySem.W.Fast.tw4861123604415487253 := ()
def PySem.W.Fast.tw18360633381322110047 := ()
def PySem.W.Fast.tw14287353875894602743 := ()
def PySem.W.Fast.tw12655085228762619628 := ()
def PySem.W.Fast.tw14833982460114524603 := ()
def PySem.W.Fast.tw1874794226740894739 := ()
def PySem.W.Fast.tw79052415222860668 := ()
def PySem.W.Fast.tw521443635763167520 := ()
def PySem.W.Fast.tw12966186011714936147 := ()
def PySem.W.Fast.tw11404290410617995600 := ()
def PySem.W.Fast.tw9306153117408189473 := ()
def PySem.W.Fast.tw6938212805636479319 := ()
def PySem.W.Fast.tw1798710160335931770 := ()
def PySem.W.Fast.tw17110530661233892733 := ()
def PySem.W.Fast.tw14771755222559376733 := ()
def PySem.W.Fast.tw8233663851979284131 := ()
def PySem.W.Fast.tw18235120153852835054 := ()
def PySem.W.Fast.tw8069168224983257381 := ()
def PySem.W.Fast.tw7569883648850603491 := ()
def PySem.W.Fast.tw7333737172065939385 := ()
def PySem.W.Fast.tw15604837946908303627 := ()
def PySem.W.Fast.tw11486127548492469442 := ()
def PySem.W.Fast.tw7862991999994837809 := ()
def PySem.W.Fast.tw6235039198060708100 := ()
def PySem.W.Fast.tw2243133469197200411 := ()
def PySem.W.Fast.tw2822989860423021985 := ()
def PySem.W.Fast.tw9315475429679399322 := ()
def PySem.W.Fast.tw4824047170359689087 := ()
def PySem.W.Fast.tw15031862941986489468 := ()
def PySem.W.Fast.tw7069971636846222493 := ()
def PySem.W.Fast.tw5556676554840061478 := ()
def PySem.W.Fast.tw9223128073998666852 := ()
def PySem.W.Fast.tw3088337914330980440 := ()
def PySem.W.Fast.tw11555467445111000114 := ()
def PySem.W.Fast.tw103861901508458144 := ()
def PySem.W.Fast.tw1182978815212568894 := ()
def PySem.W.Fast.tw3318910437203178625 := ()
def PySem.W.Fast.tw8212307613617626669 := ()
def PySem.W.Fast.tw3086599603232431116 := ()
def PySem.W.Fast.tw17692092100509272228 := ()
def PySem.W.Fast.tw17366921178962493591 := ()
def PySem.W.Fast.tw15952185951128880762 := ()
def PySem.W.Fast.tw16772869225874819906 := ()
def PySem.W.Fast.tw2638179167722417043 := ()
def PySem.W.Fast.tw17889976118835839587 := ()
def PySem.W.Fast.tw10841761015483839704 := ()
def PySem.W.Fast.tw10173787039004892380 := ()
def PySem.W.Fast.tw8464415521509139926 := ()
def PySem.W.Fast.tw1857287399765530589 := ()
def PySem.W.Fast.tw6026623609244828766 := ()
def PySem.W.Fast.tw16174440486154974715 := ()
def PySem.W.Fast.tw5086947665465077341 := ()
def PySem.W.Fast.tw6033333820587004896 := ()
def PySem.W.Fast.tw17688141257904390633 := ()
def PySem.W.Fast.tw7601246089127470019 := ()
def PySem.W.Fast.tw5397019391580240613 := ()
def PySem.W.Fast.tw10442657556973613438 := ()
def PySem.W.Fast.tw16483427860205584426 := ()
def PySem.W.Fast.tw974307627180347182 := ()
def PySem.W.Fast.tw12531198261487385972 := ()
def PySem.W.Fast.tw11510972535205764068 := ()
def PySem.W.Fast.tw9452136319005651692 := ()
def PySem.W.Fast.tw7409251413419566754 := ()
def PySem.W.Fast.tw6037754817745107095 := ()
def PySem.W.Fast.tw12469386976538336638 := ()
def PySem.W.Fast.tw5796100745044777198 := ()
def PySem.W.Fast.tw8008850305958572921 := ()
def PySem.W.Fast.tw2583387092447679828 := ()
def PySem.W.Fast.tw18325562278631776335 := ()
def PySem.W.Fast.tw16357206259449933751 := ()
def PySem.W.Fast.tw12874379380284823185 := ()
def PySem.W.Fast.tw8119755881169180849 := ()
def PySem.W.Fast.tw5105921899428281870 := ()
def PySem.W.Fast.tw2230904195266205053 := ()
def PySem.W.Fast.tw5403728295794272932 := ()
def PySem.W.Fast.tw8658818941830898065 := ()
def PySem.W.Fast.tw17849920182788910589 := ()
def PySem.W.Fast.tw1026928589474793970 := ()
def PySem.W.Fast.tw3585124847515443676 := ()
def PySem.W.Fast.tw18238419538072043372 := ()
def PySem.W.Fast.tw1675495861688189162 := ()
def PySem.W.Fast.tw16567861057061375039 := ()
def PySem.W.Fast.tw15376585537902064959 := ()
def PySem.W.Fast.tw17396317896951522016 := ()
def PySem.W.Fast.tw8626670460557642610 := ()
def PySem.W.Fast.tw6624165316687960244 := ()
def PySem.W.Fast.tw3988059573778476122 := ()
def PySem.W.Fast.tw12426172180040936014 := ()
def PySem.W.Fast.tw17337920073336307785 := ()
def PySem.W.Fast.tw1750846708384844434 := ()
def PySem.W.Fast.tw5952873000059607932 := ()
def PySem.W.Fast.tw15372510342913928661 := ()
def PySem.W.Fast.tw17964091488561000235 := ()
def PySem.W.Fast.tw11435918628558658257 := ()
def PySem.W.Fast.tw13778484437858311077 := ()
def PySem.W.Fast.tw9182186932009369438 := ()
def PySem.W.Fast.tw9906245479168090698 := ()
def PySem.W.Fast.tw9808963988185300532 := ()
def PySem.W.Fast.tw9255557011935454767 := ()
def PySem.W.Fast.tw8814796847669958060 := ()
def PySem.W.Fast.tw8583658100151414855 := ()
def PySem.W.Fast.tw3348120682569074874 := ()
def PySem.W.Fast.tw1766758001733227161 := ()
theorem PySem.Challenge.cw_glasslayers_k63_written_and_added_holds : PySem.Challenge.rw_glasslayers_k63_written_and_added.Holds := by
 w_on;o_law;k_head;(case hw=>w_witness2)
 k_fill
 refine K63.walk (l:=PySem.Challenge.rw_glasslayers_k63_written_and_added) rfl rfl (λw h Y=>PySem.W.kIn_of Y) ?F
 case F =>
  intro w mg fa h KX G hmg
  refine' K63.q7w KX G hmg ?d1 ?d2 ?d3 ?d4 ?d5 ?d6 ?d7 ?d8 ?d9 ?d10 ?d11 ?d12 ?d13 ?d14 ?d15 ?d16 ?d17 ?d18 ?d19 ?d20 ?d21 ?d22 ?d23 ?d24 ?a25 ?l25 ?c25 ?k25 ?a26 ?l26 ?c26 ?k26 ?d27 ?d28 ?d29 ?d30 ?d31 ?d32 ?d33 ?d34 ?d35 ?d36 ?d37 ?a38 ?l38 ?c38 ?k38 ?q_GlassError ?q_NoWay ?q_Missing ?q_NotFolder ?q_NoPlace ?q_Astray ?q_IsFolder ?q_TooDeep ?q_Crowded ?x_NoWay ?x_TooDeep ?x_Crowded ?x_Astray ?x_Missing ?x_NotFolder ?x_NoPlace ?x_IsFolder ?m_NoWay_GlassError ?m_TooDeep_GlassError ?m_Crowded_GlassError ?m_Astray_GlassError ?m_Missing_GlassError ?m_NotFolder_GlassError ?m_NoPlace_GlassError ?m_IsFolder_GlassError ?m_NoWay_Missing ?m_TooDeep_Missing ?m_Crowded_Missing ?m_Astray_Missing ?m_Missing_Missing ?m_NotFolder_Missing ?m_NoPlace_Missing ?m_IsFolder_Missing ?m_NoWay_IsFolder ?m_TooDeep_IsFolder ?m_Crowded_IsFolder ?m_Astray_IsFolder ?m_Missing_IsFolder ?m_NotFolder_IsFolder ?m_NoPlace_IsFolder ?m_IsFolder_IsFolder ?g_NAME_SIGNS ?g_LONGEST_NAME ?g_MOST_WORDS ?g_MOST_NAMES ?g_MOST_ENTRIES ?g_ROOT_THING ?h_ROOT_THING ?u_ROOT_THING ?w_ROOT_THING ?g_MOST_LINKS ?gT_CHANGES ?lT_CHANGES ?kT_CHANGES ?vT_CHANGES_write ?vT_CHANGES_add ?z_all ?z_isinstance ?z_len ?z_list ?z_max ?z_range ?z_sorted ?z_str ?z_tuple
  (case d1=>refine' L2.q7z ?a ?b ?c ?d;(case a=>k_is);(case b=>k_is);(case c=>k_is);(case d=>k_is))
  (case d2=>refine' L2.q7z ?a ?b ?c ?d;(case a=>k_is);(case b=>k_is);(case c=>k_is);(case d=>k_is))
  (case d3=>refine' L2.q7z ?a ?b ?c ?d;(case a=>k_is);(case b=>k_is);(case c=>k_is);(case d=>k_is))
  (case d4=>refine' L2.q7z ?a ?b ?c ?d;(case a=>k_is);(case b=>k_is);(case c=>k_is);(case d=>k_is))
  (case d5=>refine' L2.q7z ?a ?b ?c ?d;(case a=>k_is);(case b=>k_is);(case c=>k_is);(case d=>k_is))
  (case d6=>refine' L2.q7z ?a ?b ?c ?d;(case a=>k_is);(case b=>k_is);(case c=>k_is);(case d=>k_is))
  (case d7=>refine' L2.q7z ?a ?b ?c ?d;(case a=>k_is);(case b=>k_is);(case c=>k_is);(case d=>k_is))
  (case d8=>refine' L2.q7z ?a ?b ?c ?d;(case a=>k_is);(case b=>k_is);(case c=>k_is);(case d=>k_is))
  (case d9=>refine' L2.q7z ?a ?b ?c ?d;(case a=>k_is);(case b=>k_is);(case c=>k_is);(case d=>k_is))
  (case d10=>refine' L2.q7z ?a ?b ?c ?d;(case a=>k_is);(case b=>k_is);(case c=>k_is);(case d=>k_is))
  (case d11=>refine' L2.q7z ?a ?b ?c ?d;(case a=>k_is);(case b=>k_is);(case c=>k_is);(case d=>k_is))
  (case d12=>refine' L2.q7z ?a ?b ?c ?d;(case a=>k_is);(case b=>k_is);(case c=>k_is);(case d=>k_is))
  (case d13=>refine' L2.q7z ?a ?b ?c ?d;(case a=>k_is);(case b=>k_is);(case c=>k_is);(case d=>k_is))
  (case d14=>refine' L2.q7z ?a ?b ?c ?d;(case a=>k_is);(case b=>k_is);(case c=>k_is);(case d=>k_is))
  (case d15=>refine' L2.q7z ?a ?b ?c ?d;(case a=>k_is);(case b=>k_is);(case c=>k_is);(case d=>k_is))
  (case d16=>refine' L2.q7z ?a ?b ?c ?d;(case a=>k_is);(case b=>k_is);(case c=>k_is);(case d=>k_is))
  (case d17=>refine' L2.q7z ?a ?b ?c ?d;(case a=>k_is);(case b=>k_is);(case c=>k_is);(case d=>k_is))
  (case d18=>refine' L2.q7z ?a ?b ?c ?d;(case a=>k_is);(case b=>k_is);(case c=>k_is);(case d=>k_is))
  (case d19=>refine' L2.q7z ?a ?b ?c ?d;(case a=>k_is);(case b=>k_is);(case c=>k_is);(case d=>k_is))
  (case d20=>refine' L2.q7z ?a ?b ?c ?d;(case a=>k_is);(case b=>k_is);(case c=>k_is);(case d=>k_is))
  (case d21=>refine' L2.q7z ?a ?b ?c ?d;(case a=>k_is);(case b=>k_is);(case c=>k_is);(case d=>k_is))
  (case d22=>refine' L2.q7z ?a ?b ?c ?d;(case a=>k_is);(case b=>k_is);(case c=>k_is);(case d=>k_is))
  (case d23=>refine' L2.q7z ?a ?b ?c ?d;(case a=>k_is);(case b=>k_is);(case c=>k_is);(case d=>k_is))
  (case d24=>refine' L2.q7z ?a ?b ?c ?d;(case a=>k_is);(case b=>k_is);(case c=>k_is);(case d=>k_is))
  (case a25=>k_is)
  (case l25=>k_is)
  (case c25=>k_is)
  (case k25=>k_is)
  (case a26=>k_is)
  (case l26=>k_is)
  (case c26=>k_is)
  (case k26=>k_is)
  (case d27=>refine' L2.q7z ?a ?b ?c ?d;(case a=>k_is);(case b=>k_is);(case c=>k_is);(case d=>k_is))
  (case d28=>refine' L2.q7z ?a ?b ?c ?d;(case a=>k_is);(case b=>k_is);(case c=>k_is);(case d=>k_is))
  (case d29=>refine' L2.q7z ?a ?b ?c ?d;(case a=>k_is);(case b=>k_is);(case c=>k_is);(case d=>k_is))
  (case d30=>refine' L2.q7z ?a ?b ?c ?d;(case a=>k_is);(case b=>k_is);(case c=>k_is);(case d=>k_is))
  (case d31=>refine' L2.q7z ?a ?b ?c ?d;(case a=>k_is);(case b=>k_is);(case c=>k_is);(case d=>k_is))
  (case d32=>refine' L2.q7z ?a ?b ?c ?d;(case a=>k_is);(case b=>k_is);(case c=>k_is);(case d=>k_is))
  (case d33=>refine' L2.q7z ?a ?b ?c ?d;(case a=>k_is);(case b=>k_is);(case c=>k_is);(case d=>k_is))
  (case d34=>refine' L2.q7z ?a ?b ?c ?d;(case a=>k_is);(case b=>k_is);(case c=>k_is);(case d=>k_is))
  (case d35=>refine' L2.q7z ?a ?b ?c ?d;(case a=>k_is);(case b=>k_is);(case c=>k_is);(case d=>k_is))
  (case d36=>refine' L2.q7z ?a ?b ?c ?d;(case a=>k_is);(case b=>k_is);(case c=>k_is);(case d=>k_is))
  (case d37=>refine' L2.q7z ?a ?b ?c ?d;(case a=>k_is);(case b=>k_is);(case c=>k_is);(case d=>k_is))
  (case a38=>k_is)
  (case l38=>k_is)
  (case c38=>k_is)
  (case k38=>k_is)
  (case q_GlassError=>k_is)
  (case q_NoWay=>k_is)
  (case q_Missing=>k_is)
  (case q_NotFolder=>k_is)
  (case q_NoPlace=>k_is)
  (case q_Astray=>k_is)
  (case q_IsFolder=>k_is)
  (case q_TooDeep=>k_is)
  (case q_Crowded=>k_is)
  (case x_NoWay=>(delta L2.OwnX;k_exc))
  (case x_TooDeep=>(delta L2.OwnX;k_exc))
  (case x_Crowded=>(delta L2.OwnX;k_exc))
  (case x_Astray=>(delta L2.OwnX;k_exc))
  (case x_Missing=>(delta L2.OwnX;k_exc))
  (case x_NotFolder=>(delta L2.OwnX;k_exc))
  (case x_NoPlace=>(delta L2.OwnX;k_exc))
  (case x_IsFolder=>(delta L2.OwnX;k_exc))
  (case m_NoWay_GlassError=>kts_exm)
  (case m_TooDeep_GlassError=>kts_exm)
  (case m_Crowded_GlassError=>kts_exm)
  (case m_Astray_GlassError=>kts_exm)
  (case m_Missing_GlassError=>kts_exm)
  (case m_NotFolder_GlassError=>kts_exm)
  (case m_NoPlace_GlassError=>kts_exm)
  (case m_IsFolder_GlassError=>kts_exm)
  (case m_NoWay_Missing=>kts_exm)
  (case m_TooDeep_Missing=>kts_exm)
  (case m_Crowded_Missing=>kts_exm)
  (case m_Astray_Missing=>kts_exm)
  (case m_Missing_Missing=>kts_exm)
  (case m_NotFolder_Missing=>kts_exm)
  (case m_NoPlace_Missing=>kts_exm)
  (case m_IsFolder_Missing=>kts_exm)
  (case m_NoWay_IsFolder=>kts_exm)
  (case m_TooDeep_IsFolder=>kts_exm)
  (case m_Crowded_IsFolder=>kts_exm)
  (case m_Astray_IsFolder=>kts_exm)
  (case m_Missing_IsFolder=>kts_exm)
  (case m_NotFolder_IsFolder=>kts_exm)
  (case m_NoPlace_IsFolder=>kts_exm)
  (case m_IsFolder_IsFolder=>kts_exm)
  (case g_NAME_SIGNS=>k_is)
  (case g_LONGEST_NAME=>k_is)
  (case g_MOST_WORDS=>k_is)
  (case g_MOST_NAMES=>k_is)
  (case g_MOST_ENTRIES=>k_is)
  (case g_ROOT_THING=>k_is)
  (case h_ROOT_THING=>k_is)
  (case u_ROOT_THING=>rfl)
  (case w_ROOT_THING=>rfl)
  (case g_MOST_LINKS=>k_is)
  (case gT_CHANGES=>k_is)
  (case lT_CHANGES=>k_is)
  (case kT_CHANGES=>k_keys)
  (case vT_CHANGES_write=>k_is)
  (case vT_CHANGES_add=>k_is)
  (case z_all=>k_is)
  (case z_isinstance=>k_is)
  (case z_len=>k_is)
  (case z_list=>k_is)
  (case z_max=>k_is)
  (case z_range=>k_is)
  (case z_sorted=>k_is)
  (case z_str=>k_is)
  (case z_tuple=>k_is)
